import PyProof.Rows.All
import Wide.All
import OpenK.AllK
import Wide.FinOn
import Lean
import PyProof.EqAt
import PyProof.EqKinds
import PyProof.TupleCall
import PySem.Challenge.RW_joinedever_k43_answers_one_by_one
import PyProof.Draws
import PyProof.ZipIter
import PyProof.TupleIter
import PyProof.ListRange
import PyProof.CollectWalk
import KE.KSortTup
import KE.KDictSum
import PyProof.Rows.Range3
import KE.KEqDict
import KE.KRevIter
import PyProof.EnumStmt
import PyProof.CallStr
import PyProof.ReprLen
import PyProof.StrLawsRepr
import Flt.Len
set_option Elab.async false
set_option linter.all false
set_option maxRecDepth 100000
set_option maxHeartbeats 4000000
open Array (getElem?_toList length_toList map toList)
open Bool (and_eq_true)
open PySem.Heap (IsSliceOf SameBut get?_push_ne get?_push_of_some get?_push_size get?_update_ne lt_size size_push size_update)
open Int (emod_lt_of_pos emod_nonneg ofNat pow_pos toNat)
open List (Nodup Pairwise all_cons all_eq_true any_cons append_assoc append_nil countP_congr filterMap_cons filter_append filter_congr filter_cons filter_cons_of_neg filter_cons_of_pos filter_eq_self filter_map filter_nil filter_sublist find?_cons flatten_cons foldl foldl_cons getD getD_eq_getElem?_getD getElem?_append getElem?_eq_getElem getElem?_map getElem?_range getElem?_replicate getElem_map getElem_mem getElem_of_mem length length_append length_cons length_drop length_filter_le length_map length_nil length_range length_reverse length_set length_take lt_asymm map_append map_congr_left map_cons map_map map_nil mem_append mem_append_left mem_append_right mem_cons mem_cons_of_mem mem_cons_self mem_filter mem_flatMap mem_map mem_nil_iff mem_of_getElem? mem_range mem_singleton nodup_append nodup_cons nodup_nil nodup_range not_lt not_mem_nil pairwise_append pairwise_cons pairwise_lt_range pairwise_map range_succ replicate replicate_succ size_toArray take_add_one take_length)
open Nat (le_add_right le_of_eq le_of_lt le_refl le_succ le_trans lt_irrefl lt_of_le_of_lt lt_of_lt_of_le lt_or_ge lt_succ_of_lt lt_succ_self ne_of_gt ne_of_lt sub_lt zero_le)
open Option (getD_none isSome_iff_exists map_eq_some_iff)
open PySem.F (args_tuple_add_2 entry_tuple_add plainAttrs_list slot_list_pop slot_tuple_add type_list_pop)
open PySem.W (Frag findIn instObj kIn_of keepIn kia_one kia_tup kitAny kitOne kitx_bool kitx_dict kitx_int kitx_list kitx_none kitx_str lookIn methodObj mg_none_of mg_of plainGet)
def Gt:=@PySem.wpAny_bind
def If:=@List.length_map
def Lt:=@PySem.Heap.get?_push_of_some
def Qa0:=@List.length_append
def Qa1:=@PySem.wpAny_pure
def Qa2:=@if_neg
def Qa3:=@if_pos
def Qa4:=@decide_eq_true_eq
def Qa5:=@List.getD_eq_getElem?_getD
def Qa6:=@List.length_cons
def Qa7:=@PySem.Heap.get?_push_size
def Qa8:=@PySem.Heap.lt_size
def Qa9:=@List.mem_cons
def Qb0:=@List.length_take
def Qb1:=@of_decide_eq_true
def Qb2:=@List.length_filter_le
def Qb3:=@List.take_length
def Qb4:=@List.mem_cons_of_mem
def Qb5:=@List.map_cons
def Qb6:=@List.mem_cons_self
def Qb7:=@PySem.F.plainAttrs_list
def Qb8:=@Nat.zero_le
def Qb9:=@List.length_nil
def Qc0:=@PySem.wpAny_field
def Qc1:=@List.filter_cons_of_pos
def Qc2:=@List.filter_cons_of_neg
def Qc3:=@List.filter_sublist
def Qc4:=@List.append_nil
def Qc5:=@PySem.sizeLine_eq
def Qc6:=@PySem.wpAny_callSpecial?_slot
def Qc7:=@PySem.wpAny_holding
def Qc8:=@List.take_add_one
def Qc9:=@PySem.wpAny_newObj_type
def Qd0:=@PySem.W.mg_none_of
def Qd1:=@congrArg
def Qd2:=@List.nodup_cons
def Qd3:=@List.length_reverse
def Qd4:=@PySem.wpAny_call_entry
def Qd5:=@Option.isSome_iff_exists
def Qd6:=@Nat.lt_succ_of_lt
def Qd7:=@PySem.wpAny_seqItems
def Qd8:=@PySem.wpAny_mono
def Qd9:=@Bool.and_eq_true
def Qe0:=@PySem.wpAny_setField_rec
def Qe1:=@List.length_range
def Qe2:=@PySem.wpAny_passesOwn
def Qe3:=@Array.getElem?_toList
def Qe4:=@PySem.wpAny_rule
def Qe5:=@List.pairwise_map
def Qe6:=@List.nodup_append
def Qe7:=@PySem.wpAny_getItem_str_slice
def Qe8:=@PySem.wpAny_Call_Name_kw
def Qe9:=@List.filter_nil
def Qf0:=@List.filter_cons
def Qf1:=@PySem.wpAny_truthy_bool
def Qf2:=@List.pairwise_lt_range
def Qf3:=@List.filterMap_cons
namespace L2
open PySem PySem.Spec PyProof.Rows
abbrev Key:=Sum Int Str
def Jv:Key->Value->Bool
 | .inl k,v=>Value.isInt k v
 | .inr x,v=>Value.isStrOf x v
def keyH(w:World):Key->Int
 | .inl k=>hashInt k
 | .inr x=>hashStr w x
theorem Bk:∀{k:Key} {v:Value},Jv k v=true->(∃i t,k=Sum.inl i/\v=Value.int i t)\/(∃x t,k=Sum.inr x/\v=Value.str x t)
 | .inl i,v,h=>by
  obtain⟨t,e⟩:=Value.isInt_shape (k:=i) (v:=v) h;exact .inl ⟨i,t,rfl,e⟩
 | .inr x,v,h=>by
  obtain⟨t,e⟩:=Value.isStrOf_shape (x:=x) (v:=v) h;exact .inr ⟨x,t,rfl,e⟩
theorem Th(i:Int)(t:Tok):Jv (.inl i) (.int i t)=true:=by simp[Jv,Value.isInt]
theorem Ss(x:Str)(t:Tok):Jv (.inr x) (.str x t)=true:=by simp[Jv,Value.isStrOf]
theorem key_ll(a b:Int):decide ((Sum.inl a:Key)=Sum.inl b)=(a==b):=by
 by_cases e:a=b
 ·subst e;simp
 ·have h:¬(Sum.inl a:Key)=Sum.inl b:=λq=>e (Sum.inl.inj q);rw[decide_eq_false h];exact(beq_eq_false_iff_ne.mpr e).symm
theorem key_rr(a b:Str):decide ((Sum.inr a:Key)=Sum.inr b)=decide (a=b):=by
 by_cases e:a=b
 ·subst e;simp
 ·have h:¬(Sum.inr a:Key)=Sum.inr b:=λq=>e (Sum.inr.inj q);rw[decide_eq_false h,decide_eq_false e]
theorem key_lr(a:Int)(b:Str):decide ((Sum.inl a:Key)=Sum.inr b)=false:=decide_eq_false (λq=>nomatch q)
theorem key_rl(a:Str)(b:Int):decide ((Sum.inr a:Key)=Sum.inl b)=false:=decide_eq_false (λq=>nomatch q)
def Bm(prog:Program)(w:World):PySem.KeyKind prog w Key where
 is:=Jv
 hash:=keyH w
 inj:=λv a b ha hb=>by
  rcases Bk ha with⟨i,t,rfl,rfl⟩|⟨x,t,rfl,rfl⟩
  ·rcases Bk hb with⟨j,u,rfl,e⟩|⟨y,u,rfl,e⟩
   ·injection e with e1 _;rw[e1]
   ·exact nomatch e
  ·rcases Bk hb with⟨j,u,rfl,e⟩|⟨y,u,rfl,e⟩
   ·exact nomatch e
   ·injection e with e1 _;rw[e1]
 byValue:=λk v h=>by
  rcases Bk h with⟨i,t,rfl,rfl⟩|⟨x,t,rfl,rfl⟩<;> rfl
 pyHash:=λhv h=>by
  rcases Bk hv with⟨i,t,rfl,rfl⟩|⟨x,t,rfl,rfl⟩
  ·exact wpAny_pyHash_int h
  ·exact wpAny_pyHash_str h
 eqBool:=λhu hv h=>by
  rcases Bk hu with⟨i,t,rfl,rfl⟩|⟨x,t,rfl,rfl⟩
  ·rcases Bk hv with⟨j,u,rfl,rfl⟩|⟨y,u,rfl,rfl⟩
   ·rw[key_ll] at h;exact wpAny_eqBool_int h
   ·rw[key_lr] at h;exact SeqAt.EqAt.int_str i t y u _ _ _ _ h
  ·rcases Bk hv with⟨j,u,rfl,rfl⟩|⟨y,u,rfl,rfl⟩
   ·rw[key_rl] at h;exact SeqAt.EqAt.str_int x t j u _ _ _ _ h
   ·rw[key_rr] at h;exact wpAny_eqBool_str h
 «strs» :=λk x t v h=>by
  rcases Bk h with⟨i,u,rfl,e⟩|⟨y,u,rfl,e⟩
  ·exact nomatch e
  ·injection e with e1 _;subst e1;cases v<;> rfl
theorem Nb(prog:Program)(w:World)(i:Int)(t:Tok):(Bm prog w).is (.inl i) (.int i t)=true:=Th i t
theorem Oq(prog:Program)(w:World)(x:Str)(t:Tok):(Bm prog w).is (.inr x) (.str x t)=true:=Ss x t
inductive V where
 |non|bl (b:Bool)|int (i:Int)|str (x:Str)|byt (b:Array UInt8)|flt (b:UInt64)|ref (a:Addr)|ty (n:String)
 deriving DecidableEq
def RelV:V->Value->Prop
 | .non,u=>u=Value.none
 | .bl b,u=>u=Value.bool b
 | .int i,u=>∃t,u=Value.int i t
 | .str x,u=>∃t,u=Value.str x t
 | .byt b,u=>∃t,u=Value.bytes b t
 | .flt b,u=>∃t,u=Value.float b t
 | .ref a,u=>u=Value.ref a
 | .ty n,u=>u=Value.type n
abbrev Vals:List V->List Value->Prop:=Paired RelV
theorem Vals.length{xs:List V}{us:List Value}(r:Vals xs us):xs.length=us.length:=Paired.length r
theorem Vals.get:∀{xs:List V} {us:List Value} {i:Nat} {x:V},Vals xs us->xs[i]? =some x->∃u,us[i]? =some u/\RelV x u
 |_,_,_,_,.nil,e=>by simp at e
 |_,_,0,_,.cons r _,e=>by simp at e;subst e;exact⟨_,rfl,r⟩
 |_,_,i+1,x,.cons _ t,e=>by
  obtain⟨u,h1,h2⟩:=Vals.get (i:=i) (x:=x) t (by simpa using e);exact⟨u,by simpa using h1,h2⟩
theorem Vals.set{x:V}{u:Value}(r:RelV x u):∀{xs:List V} {us:List Value} (i:Nat),Vals xs us->Vals (xs.set i x) (us.set i u)
 |_,_,_,.nil=> .nil
 |_,_,0,.cons _ t=> .cons r t
 |_,_,i+1,.cons q t=> .cons q (Vals.set r i t)
theorem Vals.append:∀{xs ys:List V} {us ws:List Value},Vals xs us->Vals ys ws->Vals (xs++ys) (us++ws)
 |_,_,_,_,.nil,s=>s
 |_,_,_,_,.cons r t,s=> .cons r (Vals.append t s)
theorem Vals.take:∀{xs:List V} {us:List Value} (n:Nat),Vals xs us->Vals (xs.take n) (us.take n)
 |_,_,0,_=> .nil
 |_,_,_+1,.nil=> .nil
 |_,_,n+1,.cons r t=> .cons r (Vals.take n t)
theorem Vals.drop:∀{xs:List V} {us:List Value} (n:Nat),Vals xs us->Vals (xs.drop n) (us.drop n)
 |_,_,0,r=>r
 |_,_,_+1,.nil=> .nil
 |_,_,n+1,.cons _ t=>Vals.drop n t
def RelO:Option V->Option Value->Prop
 |some v,some u=>RelV v u
 |none,none=>True
 |_,_=>False
def KV{κ:Type}:List (κ×V)->List (κ×Value)->Prop:=Paired λ(p:κ×V) (q:κ×Value)=>p.1=q.1/\RelV p.2 q.2
def kV:Key->V
 | .inl i=> .int i
 | .inr x=> .str x
inductive HO where
 |lst (xs:List V)
 |tup (xs:List V)
 |dK (kvs:List (Key×V))|dT (kvs:List (List Key×V))
 |set (S:Int->Bool) (n:Nat)
 |ins (C dx:Addr) (fs:List (Str×V))
 |own (x:Addr)
 |xd (fs:List (Str×V))
 |met (f x:Addr)
 |rng (lo hi:Int)
 |frz (o:Obj) (u:HO)
 |tbl (ps:Array Value)
 |ext (φ:Heap->Prop)
abbrev Hp:=Addr->Option HO
def upd(H:Hp)(a:Addr)(o:HO):Hp:=λb=>if b=a then some o else H b
theorem Ab{H:Hp}{a:Addr}{o:HO}:upd H a o a=some o:=by unfold upd;rw[Qa3 rfl]
theorem Al{H:Hp}{a b:Addr}{o:HO}(h:b≠a):upd H a o b=H b:=by unfold upd;rw[Qa2 h]
theorem Zy{H:Hp}{a:Addr}{o u:HO}:upd (upd H a o) a u=upd H a u:=by
 funext b;unfold upd;split<;> rfl
theorem Bx{H:Hp}{a b:Addr}{o u:HO}(h:H a=some o)(h':H b=some u)(d:o≠u):a≠b:=by
 intro e;subst e;rw[h] at h';exact d (Option.some.inj h')
theorem Av{H:Hp}{a b:Addr}{o:HO}(h:H a=some o)(h':H b=none):a≠b:=by
 intro e;subst e;rw[h] at h';cases h'
def IsTupN(h:Heap)(a:Addr)(items:Array Value):Prop:=∃o,h.get? a=some o/\o.cls= .type "tuple"/\o.dict=none/\∃n,o.data= .seq items n
theorem IsTupN.new(h:Heap)(items:Array Value):IsTupN (h.push {cls:= .type "tuple",data:= .seq items}) h.objs.size items:=⟨_,Qa7 _ rfl,rfl,rfl,_,rfl⟩
theorem IsTupN.tup{h:Heap}{a:Addr}{items:Array Value}(x:IsTupN h a items):IsTup h a items:=let ⟨o,e,c,_,n,d⟩:=x;⟨o,e,c,n,d⟩
section
variable(P:Program)(w:World)
def ObjOk(H:Hp)(h:Heap)(a:Addr):HO->Prop
 | .lst xs=>xs.length<=sizeLine/\∃(its:List Value) (n:Nat),Vals xs its/\h.get? a=some {cls:= .type "list",data:= .seq its.toArray n}
 | .tup xs=>xs.length<=sizeLine/\∃its:List Value,Vals xs its/\IsTupN h a its.toArray
 | .dK kvs=>kvs.length<=sizeLine/\(a==sysModules)=false/\∃vs,KV kvs vs/\h.DictOf (Bm P w) a vs
 | .dT kvs=>kvs.length<=sizeLine/\(a==sysModules)=false/\∃xs:List (List Key×Addr×Value),
   Paired (λ(p:List Key×V) (q:List Key×Addr×Value)=>p.1=q.1/\H q.2.1=some (.tup (p.1.map kV))/\RelV p.2 q.2.2) kvs xs/\
   ∃o es ep,h.get? a=some o/\o.ExactDict/\o.data= .dict es ep/\es.toList=xs.map (entryOfKey (tupleKind (Bm P w)))/\(xs.map (·.1)).Nodup
 | .set S n=>h.SetOf (intKind P w) a S n
 | .ins C dx fs=>H dx=some (.own a)/\fs.length<=1000/\dx≠a/\h.get? a=some (instObj C dx)/\
   ∃mA,h.Ns1 dx mA/\(∀f,RelO (fs.lookup f) (mA f))/\PySem.Within mA (fs.map (·.1))
 | .own _=>∃o,h.get? a=some o
 | .xd fs=>∃mA,h.Ns1 a mA/\∀f,RelO (fs.lookup f) (mA f)
 | .rng lo hi=>∃t u v,h.get? a=some {cls:= .type "range",data:= .fields #[.int lo t,.int hi u,.int 1 v]}
 | .frz o u=>h.get? a=some o/\ObjOk H h a u
 | .tbl ps=>h.get? a=some {cls:= .none,data:= .fields ps}
 | .met f x=>h.get? a=some (methodObj (.ref f) (.ref x))
 | .ext φ=>φ h/\(∃o,h.get? a=some o)/\∀h1 h2:Heap,φ h1->(∀o,h1.get? a=some o->h2.get? a=some o)->φ h2
def HOk(H:Hp)(h:Heap):Prop:=∀a o,H a=some o->ObjOk P w H h a o
end
section
variable{P:Program}{w:World}{H H':Hp}{h h':Heap}{a:Addr}{o:HO}
theorem ObjOk.lt(x:ObjOk P w H h a o):a<h.objs.size:=by
 cases o with
 |lst xs=>obtain⟨_,_,_,_,e⟩:=x;exact Qa8 e
 |tup xs=>obtain⟨_,_,_,p⟩:=x;exact p.tup.lt
 |dK kvs=>obtain⟨_,_,_,_,o,_,_,e,_⟩:=x;exact Qa8 e
 |dT kvs=>obtain⟨_,_,_,_,o,_,_,e,_⟩:=x;exact Qa8 e
 |set S n=>obtain⟨o,_,_,_,e,_⟩:=x;exact Qa8 e
 |ins C dx fs=>obtain⟨_,_,_,e,_⟩:=x;exact Qa8 e
 |own y=>obtain⟨_,e⟩:=x;exact Qa8 e
 |xd fs=>obtain⟨_,⟨_,_,_,e,_⟩,_⟩:=x;exact Qa8 e
 |rng lo hi=>obtain⟨_,_,_,e⟩:=x;exact Qa8 e
 |frz ob u=>obtain⟨e,_⟩:=x;exact Qa8 e
 |tbl ps=>exact Qa8 (show h.get? a=some _ from x)
 |met f y=>exact Qa8 (show h.get? a=some _ from x)
 |ext φ=>obtain⟨_,⟨_,e⟩,_⟩:=x;exact Qa8 e
theorem Paired.mapP{α β:Type}{F G:α->β->Prop}:∀{l₁:List α} {l₂:List β},Paired F l₁ l₂->(∀a b,F a b->G a b)->Paired G l₁ l₂
 |_,_,.nil,_=> .nil
 |_,_,.cons r t,f=> .cons (f _ _ r) (Paired.mapP t f)
theorem ObjOk.stay(x:ObjOk P w H h a o)(k:∀b u,(b=a\/H b=some (.own a))->h.get? b=some u->h'.get? b=some u)(ho:∀b,H b=some (.own a)->H' b=some (.own a))(ht:∀b xs,H b=some (.tup xs)->H' b=some (.tup xs)):ObjOk P w H' h' a o:=by
 induction o with
 |lst xs=>obtain⟨z,its,n,r,e⟩:=x;exact⟨z,its,n,r,k _ _ (.inl rfl) e⟩
 |tup xs=>obtain⟨z,its,r,ob,e,c⟩:=x;exact⟨z,its,r,ob,k _ _ (.inl rfl) e,c⟩
 |dK kvs=>obtain⟨z,y,vs,r,ob,es,ep,e,c⟩:=x;exact⟨z,y,vs,r,ob,es,ep,k _ _ (.inl rfl) e,c⟩
 |dT kvs=>
  obtain⟨z,y,xs,r,ob,es,ep,e,c⟩:=x;exact⟨z,y,xs,Paired.mapP r λp q z=>⟨z.1,ht _ _ z.2.1,z.2.2⟩,ob,es,ep,k _ _ (.inl rfl) e,c⟩
 |set S n=>obtain⟨ob,es,ep,t,e,c⟩:=x;exact⟨ob,es,ep,t,k _ _ (.inl rfl) e,c⟩
 |ins C dx fs=>
  obtain⟨d,z,ne,e,mA,⟨od,es,ep,e2,c⟩,r⟩:=x;exact⟨ho _ d,z,ne,k _ _ (.inl rfl) e,mA,⟨od,es,ep,k _ _ (.inr d) e2,c⟩,r⟩
 |own y=>obtain⟨ob,e⟩:=x;exact⟨ob,k _ _ (.inl rfl) e⟩
 |xd fs=>obtain⟨mA,⟨od,es,ep,e,c⟩,r⟩:=x;exact⟨mA,⟨od,es,ep,k _ _ (.inl rfl) e,c⟩,r⟩
 |rng lo hi=>obtain⟨t,u,v,e⟩:=x;exact⟨t,u,v,k _ _ (.inl rfl) e⟩
 |frz ob u ih=>obtain⟨e,q⟩:=x;exact⟨k _ _ (.inl rfl) e,ih q⟩
 |tbl ps=>
  have e:h.get? a=some {cls:= .none,data:= .fields ps}:=x;show h'.get? a=some {cls:= .none,data:= .fields ps};exact k a _ (.inl rfl) e
 |met f y=>
  have e:h.get? a=some (methodObj (.ref f) (.ref y)):=x;show h'.get? a=some (methodObj (.ref f) (.ref y));exact k a _ (.inl rfl) e
 |ext φ=>obtain⟨p,⟨o,e⟩,st⟩:=x;exact⟨st _ _ p λo q=>k _ _ (.inl rfl) q,⟨o,k _ _ (.inl rfl) e⟩,st⟩
theorem HOk.lt(x:HOk P w H h)(e:H a=some o):a<h.objs.size:=(x a o e).lt
theorem HOk.fresh(x:HOk P w H h)(e:h.objs.size<=a):H a=none:=by
 cases q:H a with
 |none=>rfl
 |some u=>exact absurd (lt_of_lt_of_le (x.lt q) e) (lt_irrefl _)
theorem HOk.kept(x:HOk P w H h)(k:∀b u,h.get? b=some u->h'.get? b=some u):HOk P w H h':=λa o e=>
 (x a o e).stay (λb u _ q=>k b u q) (λ_ q=>q) λ_ _ q=>q
theorem HOk.laid(x:HOk P w H h)(k:∀b u,h.get? b=some u->h'.get? b=some u)(hp:h.objs.size<=a)(new:ObjOk P w (upd H a o) h' a o):HOk P w (upd H a o) h':=λb u e=>by
 have hn:=x.fresh hp;by_cases hb:b=a
 ·subst hb;rw[Ab] at e;cases e;exact new
 ·rw[Al hb] at e;exact(x b u e).stay (λc v _ q=>k c v q) (λc q=>by rw[Al (Av q hn)];exact q) λc xs q=>by rw[Al (Av q hn)];exact q
end
def Rd(H:Hp)(a:Addr)(u:HO):Prop:=H a=some u\/∃o,H a=some (.frz o u)
theorem Rd.ok{P:Program}{w:World}{H:Hp}{h:Heap}{a:Addr}{u:HO}(r:Rd H a u)(x:HOk P w H h):ObjOk P w H h a u:=by
 rcases r with r|⟨o,r⟩
 ·exact x a u r
 ·obtain⟨_,q⟩:=x a _ r;exact q
def Mut:Option HO->Prop
 |some (.lst _)=>True
 |some (.dK _)=>True
 |some (.dT _)=>True
 |some (.set _ _)=>True
 |some (.ins _ _ _)=>True
 |some (.ext _)=>True
 |_=>False
section
variable{P:Program}{w:World}{H:Hp}{h h':Heap}{x e:Addr}{o':HO}
theorem HOk.write(ok:HOk P w H h)(mu:Mut (H x))(he:e=x\/H e=some (.own x))(k:∀b u,b≠e->h.get? b=some u->h'.get? b=some u)(heo:∃u,h'.get? e=some u)(new:ObjOk P w (upd H x o') h' x o'):HOk P w (upd H x o') h':=λb u q=>by
 have nown:∀c y,H c=some (.own y)->c≠x:=λc y r z=>by subst z;rw[r] at mu;exact mu
 have ntup:∀c xs,H c=some (.tup xs)->c≠x:=λc xs r z=>by subst z;rw[r] at mu;exact mu
 by_cases hb:b=x
 ·subst hb;rw[Ab] at q;cases q;exact new
 ·rw[Al hb] at q;by_cases hbe:b=e
  ·have q':H b=some (.own x):=by
    rcases he with z|z
    ·exact absurd (hbe.trans z) hb
    ·rw[hbe];exact z
   rw[q] at q';cases q';obtain⟨v,hv⟩:=heo;exact⟨v,by rw[hbe];exact hv⟩
  ·refine(ok b u q).stay (λc v hc r=>k c v ?_ r) (λc r=>by rw[Al (nown c b r)];exact r) λc xs r=>by rw[Al (ntup c xs r)];exact r
   rcases hc with rfl|hc
   ·exact hbe
   ·rintro rfl;rcases he with z|z
    ·exact nown c b hc z
    ·rw[hc] at z;cases z;exact hb rfl
end
structure Un(fs ex:List Addr)(H H':Hp)(h h':Heap):Prop where
 keep:∀b o,h.get? b=some o->H b=none->b ∉ fs->b ∉ ex->h'.get? b=some o
 slot:∀b o,h.get? b=some o->H b=none->b∈fs->b ∉ ex->∃sl,h'.get? b=some {o with slots:=sl}
 free:∀b o,h.get? b=some o->H b=none->b ∉ ex->H' b=none
 there:∀b o,h.get? b=some o->b ∉ ex->∃o',h'.get? b=some o'
 tups:∀b xs,H b=some (.tup xs)->H' b=some (.tup xs)
 frzs:∀b o u,H b=some (.frz o u)->H' b=some (.frz o u)
 tbls:∀b ps,H b=some (.tbl ps)->∃more,H' b=some (.tbl (ps++more))
section
variable{fs fs' ex ex':List Addr}{H H1 H2:Hp}{h h1 h2 h':Heap}{a x e:Addr}{o:HO}
theorem Un.any(u:Un fs ex H H1 h h1){b:Addr}{ob:Obj}(q:h.get? b=some ob)(n:H b=none)(hx:b ∉ ex):∃sl,h1.get? b=some {ob with slots:=sl}:=by
 by_cases hb:b∈fs
 ·exact u.slot b ob q n hb hx
 ·exact⟨ob.slots,u.keep b ob q n hb hx⟩
theorem Un.kept(k:∀b u,h.get? b=some u->h'.get? b=some u):Un fs ex H H h h':=
 ⟨λb ob q _ _ _=>k b ob q,λb ob q _ _ _=>⟨ob.slots,k b ob q⟩,λ_ _ _ n _=>n,λb ob q _=>⟨ob,k b ob q⟩,λ_ _ q=>q,λ_ _ _ q=>q,λ_ ps q=>⟨#[],by rw[q];simp⟩⟩
theorem Un.refl:Un fs ex H H h h:=Un.kept λ_ _ q=>q
theorem Un.laid(k:∀b u,h.get? b=some u->h'.get? b=some u)(hp:h.objs.size<=a)(hn:H a=none):Un fs ex H (upd H a o) h h' where
 keep:=λb u q _ _ _=>k b u q
 slot:=λb u q _ _ _=>⟨u.slots,k b u q⟩
 free:=λb u q n _=>by rw[Al (ne_of_lt (lt_of_lt_of_le (Qa8 q) hp))];exact n
 there:=λb u q _=>⟨u,k b u q⟩
 tups:=λb xs q=>by rw[Al (Av q hn)];exact q
 frzs:=λb u xs q=>by rw[Al (Av q hn)];exact q
 tbls:=λb ps q=>⟨#[],by rw[Al (Av q hn),q];simp⟩
theorem Un.write(mu:Mut (H x))(he:e=x\/H e=some (.own x))(k:∀b u,b≠e->h.get? b=some u->h'.get? b=some u)(heo:∃u,h'.get? e=some u):Un fs ex H (upd H x o) h h':=by
 have hx:∀b,H b=none->b≠x:=λb n z=>by subst z;rw[n] at mu;exact mu
 have hb:∀b,H b=none->b≠e:=λb n z=>by
  subst z;rcases he with r|r
  ·exact hx b n r
  ·rw[n] at r;cases r
 have hm:∀b u,H b=some u->¬Mut (some u)->b≠x:=λb u q nm z=>by subst z;rw[q] at mu;exact nm mu
 refine⟨λb u q n _ _=>k b u (hb b n) q,λb u q n _ _=>⟨u.slots,k b u (hb b n) q⟩,λb u q n _=>by rw[Al (hx b n)];exact n,λb u q _=> ?_,
  λb xs q=>by rw[Al (hm b _ q λz=>z)];exact q,λb u xs q=>by rw[Al (hm b _ q λz=>z)];exact q,λb ps q=>⟨#[],by rw[Al (hm b _ q λz=>z),q];simp⟩⟩
 by_cases hbe:b=e
 ·subst hbe;exact heo
 ·exact⟨u,k b u hbe q⟩
end
def trk(h:Heap)(H:Hp):List Addr:=(List.range h.objs.size).filter λa=>(H a).isSome
def Mu(h:Heap)(H:Hp):Heap:=PySem.W.hideAll h (trk h H)
theorem Tb(h:Heap)(H:Hp):(Mu h H).objs.size=h.objs.size:=PySem.W.hideAll_size _ _
theorem Xc{h:Heap}{H:Hp}{b:Addr}{o:Obj}(e:h.get? b=some o)(n:H b=none):(Mu h H).get? b=some o:=
 PySem.W.hideAll_get _ e λhm=>by
  have q:(H b).isSome=true:=(mem_filter.mp hm).2;rw[n] at q;simp at q
theorem Zo{h:Heap}{H:Hp}{b:Addr}{o:Obj}(e:(Mu h H).get? b=some o):h.get? b=some o/\H b=none:=by
 have e':h.get? b=some o:=PySem.W.of_hideAll (trk h H) e;refine⟨e',?_⟩;cases q:H b with
 |none=>rfl
 |some x=>
  have hm:b∈trk h H:=mem_filter.mpr ⟨mem_range.mpr (Qa8 e'),by simp[q]⟩;have z:(Mu h H).get? b=none:=PySem.W.hideAll_none (trk h H) hm;rw[z] at e;cases e
structure Mod(K:Frag)(mg:Str->Option Value)(base:Heap):Prop where
 kin:K.In base
 glob:base.Ns mainGlobals mg
 blt:∃mb,base.Ns builtinsNs mb/\∀x:Str,x≠"__name__"->mb x=bootBuiltins x
 nolimit:base.NoLimit
structure Cx where
 prog:Program
 w:World
 K:Frag
 mg:Str->Option Value
 base:Heap
 A:Around
 N:List Str
 s₀:Shared
 H₀:Hp
 env:Env
 outer:List Env
 stack:List Env
 ex:List Addr
 fn:Str->Bool
 calm:Bool
 pn:List (Addr×Obj)
 xe:Value->Shared->Prop
def frs(l:List Env):List Addr:=l.filterMap (·.frame)
abbrev Cx.fs(X:Cx):List Addr:=frs X.outer
def Vis(sc:Scope)(x:Str):Prop:=sc.names.lookup x=some .local\/sc.names.lookup x=some .cell\/sc.names.lookup x=some .free
def Loc(sc:Scope)(x:Str):Prop:=sc.names.lookup x=some .local\/sc.names.lookup x=some .cell
def Look(env:Env)(h:Heap)(m:Str->Option Value)(x:Str)(u:Value):Prop:=
 (env.kindOf x=some .local/\m x=some u)\/((env.kindOf x=some .cell\/env.kindOf x=some .free)/\∃c,env.cells.lookup x=some c/\h.IsCell c (some u))
structure Cx.Ok(X:Cx):Prop where
 mod:Mod X.K X.mg X.base
 kind:X.env.scope.kind= .function
 glob:X.env.globals=mainGlobals
 blt:X.env.builtins=builtinsNs
 above:X.s₀.heap.objs.size<=X.env.locals
 inj:∀x y c,X.env.cells.lookup x=some c->X.env.cells.lookup y=some c->x=y
 has:∀x,(X.env.kindOf x=some .cell\/X.env.kindOf x=some .free)->∃c,X.env.cells.lookup x=some c
 cab:∀x c,X.fn x=true->X.env.cells.lookup x=some c->X.s₀.heap.objs.size<=c
 hd:X.calm=true->X.A.handled=none
 frames:X.A.frames=some X.stack
 stk:X.stack=X.outer\/(X.stack=X.env::X.outer/\X.env.frame=some X.env.locals)
 exf:∀b∈X.ex,b≠X.env.locals/\∀x c,X.env.cells.lookup x=some c->c≠b
 bs:∀b o,X.base.get? b=some o->X.s₀.heap.get? b=some o/\X.H₀ b=none
 bsz:X.base.objs.size<=X.s₀.heap.objs.size
 noex:∀b o,X.base.get? b=some o->b ∉ X.ex
 exfs:∀b∈X.ex,b ∉ X.fs
 funs:X.s₀.heap.FunFrames X.base X.outer
 frf:∀b∈X.fs,X.H₀ b=none
structure Inv(X:Cx)(pins:List (Addr×Obj))(σ:List (Option V))(H:Hp)(s:Shared):Prop where
 ok:X.Ok
 os:s.os=X.s₀.os
 bare:AllBare s.gens
 base:Un X.fs X.ex X.H₀ H X.s₀.heap s.heap
 loc:∃m,s.heap.Ns X.env.locals m/\∀(i:Nat) (x:Str) (v:V),X.N[i]? =some x->σ[i]? =some (some v)->Vis X.env.scope x->∃u,RelV v u/\Look X.env s.heap m x u
 cell:∀x c,X.env.cells.lookup x=some c->∃v,s.heap.IsCell c v
 free:H X.env.locals=none
 freeC:∀x c,X.env.cells.lookup x=some c->H c=none
 pin:∀p∈X.pn++pins,s.heap.get? p.1=some p.2/\H p.1=none/\p.1≠X.env.locals/\p.1 ∉ X.fs/\∀v,p.2.data≠ .cell v
 hok:HOk X.prog X.w H s.heap
 len:σ.length=X.N.length
section
variable{X:Cx}{pins:List (Addr×Obj)}{σ:List (Option V)}{H H':Hp}{s:Shared}{h':Heap}
theorem Cx.Ok.nofr(ok:X.Ok){b:Addr}{o:Obj}(e:X.base.get? b=some o):b ∉ X.fs:=λhb=>by
 have:=(ok.funs.mem hb).1;rw[e] at this;cases this
theorem Inv.bs(I:Inv X pins σ H s):∀b o,X.base.get? b=some o->s.heap.get? b=some o/\H b=none:=λb o e=>
 ⟨I.base.keep b o (I.ok.bs b o e).1 (I.ok.bs b o e).2 (I.ok.nofr e) (I.ok.noex b o e),I.base.free b o (I.ok.bs b o e).1 (I.ok.bs b o e).2 (I.ok.noex b o e)⟩
theorem Inv.bk(I:Inv X pins σ H s):∀b o,X.base.get? b=some o->s.heap.get? b=some o:=λb o e=>(I.bs b o e).1
theorem Inv.mod(I:Inv X pins σ H s):Mod X.K X.mg X.base:=I.ok.mod
theorem Inv.kIn(I:Inv X pins σ H s):X.K.In s.heap:=I.ok.mod.kin.keeps I.bk
theorem Inv.lt(I:Inv X pins σ H s):X.env.locals<s.heap.objs.size:=let ⟨_,hn,_⟩:=I.loc;hn.lt
theorem Inv.sz(I:Inv X pins σ H s):X.s₀.heap.objs.size<=s.heap.objs.size:=le_trans I.ok.above (le_of_lt I.lt)
theorem Inv.nofs(I:Inv X pins σ H s){a:Addr}(h:s.heap.objs.size<=a):a ∉ X.fs:=λhb=>by
 obtain⟨_,o,ho,_⟩:=I.ok.funs.mem hb;exact absurd (lt_of_lt_of_le (Qa8 ho) (le_trans I.sz h)) (lt_irrefl _)
theorem Inv.cne(I:Inv X pins σ H s):∀x c,X.env.cells.lookup x=some c->c≠X.env.locals:=λx c e z=>by
 obtain⟨v,o,ho,hd⟩:=I.cell x c e;obtain⟨m,⟨o',es,ep,ho',hd',_⟩,_⟩:=I.loc;rw[z,ho'] at ho;cases ho;rw[hd'] at hd;cases hd
theorem Inv.funs(I:Inv X pins σ H s):s.heap.FunFrames X.base X.outer:=by
 have all:∀(l:List Env),(∀b∈frs l,b∈X.fs)->X.s₀.heap.FunFrames X.base l->s.heap.FunFrames X.base l:=by
  intro l
  induction l with
  |nil=>intro _ _;trivial
  |cons env r ih=>
   intro hs hl;obtain⟨hk,⟨L,o,hf,hn,ho,hd⟩,hr⟩:=hl;have hL:L∈X.fs:=hs L (by unfold frs;rw[Qf3,hf];exact Qb6);obtain⟨sl,e⟩:=I.base.slot L o ho (I.ok.frf L hL) hL λz=>I.ok.exfs L z hL;exact⟨hk,⟨L,_,hf,hn,e,hd⟩,ih (λb hb=>hs b (by unfold frs;rw[Qf3,hf];exact Qb4 _ hb)) hr⟩
 exact all X.outer (λ_ hb=>hb) I.ok.funs
theorem Inv.stack(I:Inv X pins σ H s):s.heap.FunFrames X.base X.stack:=by
 rcases I.ok.stk with e|⟨e,hf⟩
 ·rw[e];exact I.funs
 ·rw[e];obtain⟨m,hn,_⟩:=I.loc;refine .cons (by rw[I.ok.kind];decide) hf hn ?_ I.funs;exact Heap.get?_none_of_le (le_trans I.ok.bsz I.ok.above)
theorem Inv.stkSub(I:Inv X pins σ H s):∀b∈frs X.stack,b∈X.env.locals::X.fs:=λb hb=>by
 rcases I.ok.stk with e|⟨e,hf⟩
 ·rw[e] at hb;exact Qb4 _ hb
 ·rw[e] at hb;unfold frs at hb;rw[Qf3,hf] at hb;exact hb
theorem Inv.stkFree(I:Inv X pins σ H s):∀b∈frs X.stack,H b=none:=λb hb=>by
 rcases Qa9.mp (I.stkSub b hb) with e|hb
 ·rw[e];exact I.free
 ·obtain⟨_,o,ho,_⟩:=I.ok.funs.mem hb;exact I.base.free b o ho (I.ok.frf b hb) λz=>I.ok.exfs b z hb
theorem Inv.step{g':Array GenState}{t':Nat}{d':Drawn}{ch:List Addr}(I:Inv X pins σ H s)(hch:∀b∈ch,(b∈X.ex\/X.s₀.heap.objs.size<=b)/\b≠X.env.locals/\(∀x c,X.env.cells.lookup x=some c->c≠b)/\∀p∈X.pn++pins,p.1≠b)(keep:∀b o,b≠X.env.locals->b ∉ X.fs->b ∉ ch->s.heap.get? b=some o->H b=none->h'.get? b=some o)(slot:∀b o,b≠X.env.locals->b∈X.fs->b ∉ ch->s.heap.get? b=some o->H b=none->∃sl,h'.get? b=some {o with slots:=sl})(free:∀b o,b ∉ ch->s.heap.get? b=some o->H b=none->H' b=none)(there:∀b o,b ∉ ch->s.heap.get? b=some o->∃o',h'.get? b=some o')(tups:∀b xs,H b=some (.tup xs)->H' b=some (.tup xs))(frzs:∀b o u,H b=some (.frz o u)->H' b=some (.frz o u))(tbls:∀b ps,H b=some (.tbl ps)->∃more,H' b=some (.tbl (ps++more)))(ns:∀m,s.heap.Ns X.env.locals m->h'.Ns X.env.locals m)(hok:HOk X.prog X.w H' h')(hg:AllBare g'):
  Inv X pins σ H' {s with heap:=h',gens:=g',drawn:=d',toks:=t'}:=by
 have neL:∀b o,X.s₀.heap.get? b=some o->b≠X.env.locals:=λb o e=>ne_of_lt (lt_of_lt_of_le (Qa8 e) I.ok.above);have neC:∀b o,X.s₀.heap.get? b=some o->b ∉ X.ex->b ∉ ch:=λb o e hx hb=>by
  rcases(hch b hb).1 with z|z
  ·exact hx z
  ·exact absurd (lt_of_lt_of_le (Qa8 e) z) (lt_irrefl _)
 have cellK:∀x c,X.env.cells.lookup x=some c->∀v,s.heap.IsCell c v->h'.IsCell c v:=λx c e v ⟨o,ho,hd⟩=>by
  have nch:c ∉ ch:=λz=>(hch c z).2.2.1 x c e rfl;by_cases hc:c∈X.fs
  ·obtain⟨sl,q⟩:=slot c o (I.cne x c e) hc nch ho (I.freeC x c e);exact⟨_,q,hd⟩
  ·exact⟨o,keep c o (I.cne x c e) hc nch ho (I.freeC x c e),hd⟩
 refine⟨I.ok,I.os,hg,⟨λb o e n hb hx=> ?_,λb o e n hb hx=> ?_,λb o e n hx=> ?_,λb o e hx=> ?_,λb xs e=>tups b xs (I.base.tups b xs e),λb o xs e=>frzs b o xs (I.base.frzs b o xs e),λb ps e=> ?_⟩,?_,λx c e=> ?_,?_,λx c e=> ?_,λp hp=> ?_,hok,I.len⟩
 ·exact keep b o (neL b o e) hb (neC b o e hx) (I.base.keep b o e n hb hx) (I.base.free b o e n hx)
 ·obtain⟨sl,e1⟩:=I.base.slot b o e n hb hx;obtain⟨sl',e2⟩:=slot b _ (neL b o e) hb (neC b o e hx) e1 (I.base.free b o e n hx);exact⟨sl',e2⟩
 ·obtain⟨o',e1⟩:=I.base.there b o e hx;exact free b o' (neC b o e hx) e1 (I.base.free b o e n hx)
 ·obtain⟨o',e1⟩:=I.base.there b o e hx;exact there b o' (neC b o e hx) e1
 ·obtain⟨m1,e1⟩:=I.base.tbls b ps e;obtain⟨m2,e2⟩:=tbls b _ e1;exact⟨m1++m2,by rw[e2,Array.append_assoc]⟩
 ·obtain⟨m,hn,hl⟩:=I.loc;refine⟨m,ns m hn,λi x v e1 e2 e3=> ?_⟩;obtain⟨u,r,l⟩:=hl i x v e1 e2 e3;refine⟨u,r,?_⟩;rcases l with l|⟨k,c,e,z⟩
  ·exact .inl l
  ·exact .inr ⟨k,c,e,cellK x c e _ z⟩
 ·obtain⟨v,z⟩:=I.cell x c e;exact⟨v,cellK x c e v z⟩
 ·obtain⟨m,⟨o,_,_,ho,_⟩,_⟩:=I.loc;exact free _ o (λz=>(hch _ z).2.1 rfl) ho I.free
 ·obtain⟨v,o,ho,hd⟩:=I.cell x c e;exact free c o (λz=>(hch c z).2.2.1 x c e rfl) ho (I.freeC x c e)
 ·obtain⟨e,n,ne,nf,d⟩:=I.pin p hp;have nch:p.1 ∉ ch:=λz=>(hch p.1 z).2.2.2 p hp rfl;exact⟨keep p.1 p.2 ne nf nch e n,free p.1 p.2 nch e n,ne,nf,d⟩
theorem Inv.un{t':Nat}(I:Inv X pins σ H s)(u:Un X.fs [] H H' s.heap h')(hok:HOk X.prog X.w H' h'):Inv X pins σ H' {s with heap:=h',toks:=t'}:=by
 obtain⟨m,⟨o,es,ep,ho,r⟩,_⟩:=id I.loc;obtain⟨sl,hL⟩:=u.any ho I.free (by simp);exact I.step (g':=s.gens) (d':=s.drawn) (ch:=[]) (λ_ z=>nomatch z) (λb o _ hb _ e n=>u.keep b o e n hb (by simp)) (λb o _ hb _ e n=>u.slot b o e n hb (by simp)) (λb o _ e n=>u.free b o e n (by simp)) (λb o _ e=>u.there b o e (by simp)) u.tups u.frzs u.tbls (λm' hm=>by
  obtain⟨o',es',ep',ho',r'⟩:=hm;rw[ho] at ho';cases ho';exact⟨_,es',ep',hL,r'⟩) hok I.bare
theorem Inv.call{g':Array GenState}{t':Nat}{d':Drawn}{ch:List Addr}(I:Inv X pins σ H s)(u:Un (frs X.stack) ch H H' s.heap h')(hok:HOk X.prog X.w H' h')(hg:AllBare g')(hch:∀b∈ch,(b∈X.ex\/X.s₀.heap.objs.size<=b)/\b≠X.env.locals/\(∀x c,X.env.cells.lookup x=some c->c≠b)/\∀p∈X.pn++pins,p.1≠b):
  Inv X pins σ H' {s with heap:=h',gens:=g',drawn:=d',toks:=t'}:=by
 obtain⟨m,⟨o,es,ep,ho,r⟩,_⟩:=id I.loc;obtain⟨sl,hL⟩:=u.any ho I.free λz=>(hch _ z).2.1 rfl;exact I.step (ch:=ch) hch (λb o hL hb hc e n=>u.keep b o e n (λz=>(Qa9.mp (I.stkSub b z)).elim hL hb) hc) (λb o _ _ hc e n=>u.any e n hc) (λb o hc e n=>u.free b o e n hc) (λb o hc e=>u.there b o e hc) u.tups u.frzs u.tbls (λm' hm=>by
  obtain⟨o',es',ep',ho',r'⟩:=hm;rw[ho] at ho';cases ho';exact⟨_,es',ep',hL,r'⟩) hok hg
theorem Inv.turned{t':Nat}{it:Addr}(I:Inv X pins σ H s)(k:∀b o,b≠it->s.heap.get? b=some o->h'.get? b=some o)(hn:H it=none)(hL:it≠X.env.locals)(h1:it∈X.ex\/X.s₀.heap.objs.size<=it)(h2:∀x c,X.env.cells.lookup x=some c->c≠it)(h3:∀p∈X.pn++pins,p.1≠it):Inv X pins σ H {s with heap:=h',toks:=t'}:=by
 have nit:∀b u,H b=some u->b≠it:=λb u e z=>by rw[z,hn] at e;cases e
 refine I.step (g':=s.gens) (d':=s.drawn) (ch:=[it]) (λb hb=> ?_) (λb o _ _ hc e _=>k b o (λz=>hc (by simp[z])) e) (λb o _ _ hc e _=>⟨o.slots,k b o (λz=>hc (by simp[z])) e⟩) (λ_ _ _ _ n=>n)
  (λb o hc e=>⟨o,k b o (λz=>hc (by simp[z])) e⟩) (λ_ _ e=>e) (λ_ _ _ e=>e) (λb ps e=>⟨#[],by rw[e];simp⟩) (λm hm=> ?_) (λb u e=> ?_) I.bare
 ·have e:b=it:=by simpa using hb
  subst e;exact⟨h1,hL,h2,h3⟩
 ·obtain⟨o,es,ep,ho,r⟩:=hm;exact⟨o,es,ep,k _ o (Ne.symm hL) ho,r⟩
 ·refine(I.hok b u e).stay (λc v hc q=>k c v ?_ q) (λ_ q=>q) λ_ _ q=>q;rcases hc with z|z
  ·rw[z];exact nit b u e
  ·exact nit c _ z
theorem Inv.tok(I:Inv X pins σ H s)(t:Nat):Inv X pins σ H {s with toks:=t}:=I.un (h':=s.heap) (t':=t) Un.refl I.hok
theorem Inv.kept{t':Nat}(I:Inv X pins σ H s)(k:∀b u,s.heap.get? b=some u->h'.get? b=some u):Inv X pins σ H {s with heap:=h',toks:=t'}:=I.un (Un.kept k) (I.hok.kept k)
theorem Inv.laid{a:Addr}{o:HO}{t':Nat}(I:Inv X pins σ H s)(k:∀b u,s.heap.get? b=some u->h'.get? b=some u)(hp:s.heap.objs.size<=a)(new:ObjOk X.prog X.w (upd H a o) h' a o):
  Inv X pins σ (upd H a o) {s with heap:=h',toks:=t'}:=I.un (Un.laid k hp (I.hok.fresh hp)) (I.hok.laid k hp new)
theorem Inv.write{x e:Addr}{o:HO}{t':Nat}(I:Inv X pins σ H s)(mu:Mut (H x))(he:e=x\/H e=some (.own x))(k:∀b u,b≠e->s.heap.get? b=some u->h'.get? b=some u)(heo:∃u,h'.get? e=some u)(new:ObjOk X.prog X.w (upd H x o) h' x o):Inv X pins σ (upd H x o) {s with heap:=h',toks:=t'}:=I.un (Un.write mu he k heo) (I.hok.write mu he k heo new)
theorem Inv.pins_of{pins':List (Addr×Obj)}(I:Inv X pins σ H s)(h:∀p∈pins',s.heap.get? p.1=some p.2/\H p.1=none/\p.1≠X.env.locals/\p.1 ∉ X.fs/\∀v,p.2.data≠ .cell v):Inv X pins' σ H s:=
 ⟨I.ok,I.os,I.bare,I.base,I.loc,I.cell,I.free,I.freeC,λp hp=>(mem_append.mp hp).elim (λz=>I.pin p (mem_append_left _ z)) (h p),I.hok,I.len⟩
theorem N7{N:List Str}(hN:N.Nodup){i j:Nat}{x:Str}(a:N[i]? =some x)(b:N[j]? =some x):i=j:=by
 obtain⟨h1,e1⟩:=List.getElem?_eq_some_iff.mp a;obtain⟨h2,e2⟩:=List.getElem?_eq_some_iff.mp b;exact(List.getElem_inj hN).mp (e1.trans e2.symm)
theorem Ui{M:Model}{A:Around}{E:Value->Shared->Prop}{i:Nat}{x:Str}{v:V}{u:Value}{Q:Unit->Shared->Prop}(I:Inv X pins σ H s)(hN:X.N.Nodup)(hi:X.N[i]? =some x)(hx:Loc X.env.scope x)(r:RelV v u)(h:∀s',Inv X pins (σ.set i (some v)) H s'->(∃a,SameBut a s.heap s'.heap/\(a=X.env.locals\/X.env.cells.lookup x=some a))->Q () s')(hf:X.fn x=true\/X.env.scope.names.lookup x=some .local:=by first|exact .inl rfl|exact .inr rfl|assumption):wpAny M A (storeName X.env x u) Q E s:=by
 obtain⟨m,hn,hl⟩:=id I.loc;have hcls:(X.env.scope.kind== .class||(X.env.scope.kind== .module && X.env.locals !=X.env.globals))=false:=by rw[I.ok.kind];rfl
 have hiσ:i<σ.length:=by rw[I.len];exact(List.getElem?_eq_some_iff.mp hi).1
 have cne:=I.cne;have tracked:∀{a:Addr} {h':Heap},(∃o,s.heap.get? a=some o/\H a=none)->SameBut a s.heap h'->HOk X.prog X.w H h':=λ{a h'} ha hs b ob e=>by
  obtain⟨_,_,hfree⟩:=ha;refine(I.hok b ob e).stay (λc w' hc q=>(hs.2 c ?_).trans q) (λ_ q=>q) λ_ _ q=>q;rintro rfl;rcases hc with rfl|hc
  ·rw[hfree] at e;cases e
  ·rw[hfree] at hc;cases hc
 rcases hx with hk|hk
 ·refine wpAny_storeName_local hk hn (λh' hn' hs=> ?_) hcls;obtain⟨oL,_,_,hoL,_⟩:=id hn;refine h _ ⟨I.ok,I.os,I.bare,⟨λb o e n hb hx=> ?_,λb o e n hb hx=> ?_,I.base.free,λb o e hx=> ?_,I.base.tups,I.base.frzs,I.base.tbls⟩,⟨_,hn',λj y v' e1 e2 e3=> ?_⟩,λy c e=> ?_,I.free,I.freeC,λp hp=> ?_,tracked ⟨oL,hoL,I.free⟩ hs,by simpa using I.len⟩ ⟨_,hs,.inl rfl⟩
  ·exact(hs.2 b (ne_of_lt (lt_of_lt_of_le (Qa8 e) I.ok.above))).trans (I.base.keep b o e n hb hx)
  ·obtain⟨sl,e1⟩:=I.base.slot b o e n hb hx;exact⟨sl,(hs.2 b (ne_of_lt (lt_of_lt_of_le (Qa8 e) I.ok.above))).trans e1⟩
  ·obtain⟨o',e1⟩:=I.base.there b o e hx;exact⟨o',(hs.2 b (ne_of_lt (lt_of_lt_of_le (Qa8 e) I.ok.above))).trans e1⟩
  ·by_cases hj:j=i
   ·subst hj;rw[hi] at e1;cases e1;rw[List.getElem?_set_self hiσ] at e2;cases e2;exact⟨u,r,.inl ⟨hk,by simp⟩⟩
   ·rw[List.getElem?_set_ne (Ne.symm hj)] at e2;obtain⟨u',r',q⟩:=hl j y v' e1 e2 e3;refine⟨u',r',?_⟩;rcases q with⟨k,e⟩|⟨k,c,e,z⟩
    ·refine .inl ⟨k,?_⟩;have:y≠x:=λe=>hj (N7 hN e1 (e▸hi));simp[this,e]
    ·exact .inr ⟨k,c,e,z.sameBut hs (cne y c e)⟩
  ·obtain⟨w',z⟩:=I.cell y c e;exact⟨w',z.sameBut hs (cne y c e)⟩
  ·obtain⟨e,n,ne,nf,d⟩:=I.pin p hp;exact⟨(hs.2 p.1 ne).trans e,n,ne,nf,d⟩
 ·have hfn:X.fn x=true:=by
   rcases hf with z|z
   ·exact z
   ·rw[z] at hk;cases hk
  obtain⟨c,hc⟩:=I.ok.has x (.inl hk);obtain⟨w',z⟩:=I.cell x c hc;refine wpAny_storeName_cell I.ok.kind hk hc z (λh' hc' hs=> ?_);obtain⟨oc,hoc,hocd⟩:=id z;refine h {s with heap:=h'} ⟨I.ok,I.os,I.bare,⟨λb o e n hb hx=> ?_,λb o e n hb hx=> ?_,I.base.free,λb o e hx=> ?_,I.base.tups,I.base.frzs,I.base.tbls⟩,⟨m,hn.sameBut hs (Ne.symm (cne x c hc)),λj y v' e1 e2 e3=> ?_⟩,λy c' e=> ?_,I.free,I.freeC,λp hp=> ?_,tracked ⟨oc,hoc,I.freeC x c hc⟩ hs,by simpa using I.len⟩ ⟨c,hs,.inr hc⟩
  ·exact(hs.2 b (ne_of_lt (lt_of_lt_of_le (Qa8 e) (I.ok.cab x c hfn hc)))).trans (I.base.keep b o e n hb hx)
  ·obtain⟨sl,e1⟩:=I.base.slot b o e n hb hx;exact⟨sl,(hs.2 b (ne_of_lt (lt_of_lt_of_le (Qa8 e) (I.ok.cab x c hfn hc)))).trans e1⟩
  ·obtain⟨o',e1⟩:=I.base.there b o e hx;exact⟨o',(hs.2 b (ne_of_lt (lt_of_lt_of_le (Qa8 e) (I.ok.cab x c hfn hc)))).trans e1⟩
  ·by_cases hj:j=i
   ·subst hj;rw[hi] at e1;cases e1;rw[List.getElem?_set_self hiσ] at e2;cases e2;exact⟨u,r,.inr ⟨.inl hk,c,hc,hc'⟩⟩
   ·rw[List.getElem?_set_ne (Ne.symm hj)] at e2;obtain⟨u',r',q⟩:=hl j y v' e1 e2 e3;refine⟨u',r',?_⟩;rcases q with q|⟨k,c',e,z'⟩
    ·exact .inl q
    ·refine .inr ⟨k,c',e,z'.sameBut hs ?_⟩;rintro rfl;exact hj (N7 hN e1 (I.ok.inj _ _ _ e hc▸hi))
  ·by_cases hcc:c'=c
   ·subst hcc;exact⟨_,hc'⟩
   ·obtain⟨w2,z2⟩:=I.cell y c' e;exact⟨w2,z2.sameBut hs hcc⟩
  ·obtain⟨e,n,ne,nf,d⟩:=I.pin p hp;refine⟨(hs.2 p.1 ?_).trans e,n,ne,nf,d⟩;intro q;rw[q,hoc] at e;have q':oc=p.2:=Option.some.inj e;exact d w' (by rw[<-q'];exact hocd)
theorem E4{M:Model}{A:Around}{E:Value->Shared->Prop}{i:Nat}{x:Str}{v:V}{u:Value}{Q:Unit->Shared->Prop}(I:Inv X pins σ H s)(hN:X.N.Nodup)(hi:X.N[i]? =some x)(hx:Loc X.env.scope x)(r:RelV v u)(h:∀s',Inv X pins (σ.set i (some v)) H s'->Q () s')(hf:X.fn x=true\/X.env.scope.names.lookup x=some .local:=by first|exact .inl rfl|exact .inr rfl|assumption):wpAny M A (storeName X.env x u) Q E s:=
 Ui I hN hi hx r (λs' I' _=>h s' I') hf
theorem Inv.call'{s':Shared}{ch:List Addr}(I:Inv X pins σ H s)(ho:s'.os=s.os)(u:Un (frs X.stack) ch H H' s.heap s'.heap)(hok:HOk X.prog X.w H' s'.heap)(hg:AllBare s'.gens)(hch:∀b∈ch,(b∈X.ex\/X.s₀.heap.objs.size<=b)/\b≠X.env.locals/\(∀x c,X.env.cells.lookup x=some c->c≠b)/\∀p∈X.pn++pins,p.1≠b):Inv X pins σ H' s':=by
 obtain⟨h',g',d',t',o'⟩:=s';have e:o'=s.os:=ho;subst e;exact I.call (g':=g') (t':=t') (d':=d') u hok hg hch
end
abbrev XK:=Value->Option Addr->Hp->Prop
abbrev St:=List (Option V)
abbrev VK:=V->Hp->Prop
abbrev TE:=St->Hp->VK->Prop
abbrev TT:=St->Hp->(Bool->Hp->Prop)->Prop
abbrev TA:=St->Hp->(List V->Hp->Prop)->Prop
structure Ga where
 nx:St->Hp->Prop
 rt:VK
 bk:St->Hp->Prop:=λ_ _=>False
 ct:St->Hp->Prop:=λ_ _=>False
abbrev TS:=Ga->St->Hp->Prop
def EP(X:Cx)(pins:List (Addr×Obj))(σ:St)(Q:VK)(u:Value)(s':Shared):Prop:=∃v H',Inv X pins σ H' s'/\RelV v u/\Q v H'
def TP(X:Cx)(pins:List (Addr×Obj))(σ:St)(Q:Bool->Hp->Prop)(b:Bool)(s':Shared):Prop:=∃H',Inv X pins σ H' s'/\Q b H'
def AP(X:Cx)(pins:List (Addr×Obj))(σ:St)(Q:List V->Hp->Prop)(us:List Value)(s':Shared):Prop:=∃vs H',Inv X pins σ H' s'/\Vals vs us/\Q vs H'
def SP(X:Cx)(pins:List (Addr×Obj))(D:Ga)(f:Flow)(s':Shared):Prop:=
 match f with
 | .next=>∃σ' H',Inv X pins σ' H' s'/\D.nx σ' H'
 | .brk=>∃σ' H',Inv X pins σ' H' s'/\D.bk σ' H'
 | .cont=>∃σ' H',Inv X pins σ' H' s'/\D.ct σ' H'
 | .ret u=>∃v σ' H',Inv X pins σ' H' s'/\RelV v u/\D.rt v H'
def PE(X:Cx)(e:Expr)(t:TE):Prop:=
 ∀(pins:List (Addr×Obj)) (s:Shared) (σ:St) (H:Hp) (Q:VK),Inv X pins σ H s->t σ H Q->wpAny (model X.prog X.w) X.A (eval e X.env) (EP X pins σ Q) X.xe s
def PT(X:Cx)(e:Expr)(t:TT):Prop:=
 ∀(pins:List (Addr×Obj)) (s:Shared) (σ:St) (H:Hp) (Q:Bool->Hp->Prop),Inv X pins σ H s->t σ H Q->wpAny (model X.prog X.w) X.A (isTrue e X.env (eval e X.env)) (TP X pins σ Q) X.xe s
def PW(X:Cx)(e:Expr)(t:TT):Prop:=
 ∀(whole:Sem Value) (pins:List (Addr×Obj)) (s:Shared) (σ:St) (H:Hp) (Q:Bool->Hp->Prop),Inv X pins σ H s->t σ H Q->wpAny (model X.prog X.w) X.A (isTrue e X.env whole) (TP X pins σ Q) X.xe s
theorem PW.pt{X:Cx}{e:Expr}{t:TT}(h:PW X e t):PT X e t:=h _
def PA(X:Cx)(es:List Expr)(t:TA):Prop:=
 ∀(pos:Pos) (pins:List (Addr×Obj)) (s:Shared) (σ:St) (H:Hp) (Q:List V->Hp->Prop),Inv X pins σ H s->t σ H Q->wpAny (model X.prog X.w) X.A (spliced (backTo pos (starEach es X.env))) (AP X pins σ Q) X.xe s
def PS(X:Cx)(st:Stmt)(t:TS):Prop:=
 ∀(pins:List (Addr×Obj)) (s:Shared) (σ:St) (H:Hp) (D:Ga),Inv X pins σ H s->t D σ H->wpAny (model X.prog X.w) X.A (exec st X.env) (SP X pins D) X.xe s
def PSs(X:Cx)(st:List Stmt)(t:TS):Prop:=
 ∀(pins:List (Addr×Obj)) (s:Shared) (σ:St) (H:Hp) (D:Ga),Inv X pins σ H s->t D σ H->wpAny (model X.prog X.w) X.A (execs st X.env) (SP X pins D) X.xe s
theorem thn{α:Type}{t:Sem α}{Q Q':α->Shared->Prop}{M:Model}{A:Around}{E:Value->Shared->Prop}{s:Shared}(h:wpAny M A t Q E s)(hQ:∀a s,Q a s->Q' a s):wpAny M A t Q' E s:=Qd8 h hQ λ_ _ x=>x
section
variable{X:Cx}
inductive TVarP(i:Nat)(σ:St)(H:Hp)(Q:VK):Prop
 |mk (v:_):(σ[i]? =some (some v))->(Q v H)->TVarP i σ H Q
def Pc(i:Nat):TE:=λσ H Q=>TVarP i σ H Q
def tC(v:V):TE:=λ_ H Q=>Q v H
theorem pe_var{i:Nat}{x:Str}{pos:Pos}(hN:X.N[i]? =some x)(hv:Vis X.env.scope x)(hd:(x==("__debug__":Str))=false:=by decide)(hcd:(x==("__classdict__":Str))=false:=by decide):PE X (.Name x pos) (Pc i):=by
 intro pins s σ H Q I h;obtain⟨v,e,h⟩:=h;obtain⟨m,hn,hl⟩:=I.loc;obtain⟨u,r,l⟩:=hl i x v hN e hv;have fin:EP X pins σ Q u s:=⟨v,H,I,r,h⟩
 rcases l with⟨hk,hm⟩|⟨hk,c,hc,hcell⟩
 ·exact wpAny_Name (wpAny_loadName_local I.ok.kind hk hn hm fin) hd
 ·rcases hk with hk|hk
  ·exact wpAny_Name (wpAny_loadName_cell I.ok.kind hk hc hcell fin) hd
  ·exact wpAny_Name (wpAny_loadName_free I.ok.kind hk hc hcell fin hcd) hd
theorem Af{i j pos}:PE X (.Constant (.int i) j pos) (tC (.int i)):=λ_ _ _ H _ I h=>wpAny_Constant_int ⟨.int i,H,I.tok _,⟨_,rfl⟩,h⟩
theorem Os{b j pos}:PE X (.Constant (.bool b) j pos) (tC (.bl b)):=λ_ _ _ H _ I h=>Constant_bool ⟨.bl b,H,I,rfl,h⟩
theorem Ch{j pos}:PE X (.Constant .none j pos) (tC .non):=λ_ _ _ H _ I h=>Constant_none ⟨.non,H,I,rfl,h⟩
theorem Ba{x j pos}:PE X (.Constant (.str x) j pos) (tC (.str x)):=λ_ _ _ H _ I h=>Calls.Constant_str ⟨.str x,H,I.tok _,⟨_,rfl⟩,h⟩
def Gl(X:Cx)(x:Str):Prop:=X.env.kindOf x=some .globalImplicit
theorem Zs{E:Value->Shared->Prop}{pins:List (Addr×Obj)}{s:Shared}{σ:St}{H:Hp}{x:Str}{u:Value}{pos:Pos}{Q:Value->Shared->Prop}(I:Inv X pins σ H s)(hg:Gl X x)(hm:X.mg x=some u)(h:Q u s)(hd:(x==("__debug__":Str))=false:=by decide):wpAny (model X.prog X.w) X.A (eval (.Name x pos) X.env) Q E s:=
 Calls.Name_function_global I.ok.kind hg (Calls.loadGlobal_global (by rw[I.ok.glob];exact I.mod.glob.keeps I.bk) hm h) hd
theorem Ew{E:Value->Shared->Prop}{pins:List (Addr×Obj)}{s:Shared}{σ:St}{H:Hp}{x:Str}{u:Value}{pos:Pos}{Q:Value->Shared->Prop}(I:Inv X pins σ H s)(hg:Gl X x)(hm:X.mg x=none)(hv:bootBuiltins x=some u)(h:Q u s)(hn:x≠"__name__":=by decide)(hd:(x==("__debug__":Str))=false:=by decide):wpAny (model X.prog X.w) X.A (eval (.Name x pos) X.env) Q E s:=by
 obtain⟨mb,h1,h2⟩:=I.mod.blt;exact Calls.Name_function_global I.ok.kind hg (Calls.loadGlobal_builtin (by rw[I.ok.glob];exact I.mod.glob.keeps I.bk) hm (by rw[I.ok.blt];exact h1.keeps I.bk) ((h2 x hn).trans hv) h) hd
variable{a b:Expr}{ta tb:TE}{pos:Pos}
inductive BlP(x:V)(H:Hp)(Q:Bool->Hp->Prop):Prop
 |mk (c:Bool):(x= .bl c)->(Q c H)->BlP x H Q
def tB(t:TE):TT:=λσ H Q=>t σ H λx H1=>BlP x H1 Q
theorem Cv{e:Expr}{t:TE}(h:PE X e t)(he:∀whole,isTrue e X.env whole=(do let v <-whole;standAt e.pos;holding [v] (truthy v)):=by intro _;rfl):PT X e (tB t):=by
 intro pins s σ H Q I hw;refine isTrue_plain (thn (h pins s σ H _ I hw) λv s1 ⟨x,H1,I1,r1,q1⟩=> ?_) (he _);obtain⟨d,rfl,q⟩:=q1;cases r1;exact Qf1 ⟨H1,I1,q⟩
variable{tA tB':TT}{rest:List Expr}
def tAnd(t u:TT):TT:=λσ H Q=>t σ H λc H1=>if c=true then u σ H1 Q else Q false H1
def tOr(t u:TT):TT:=λσ H Q=>t σ H λc H1=>if c=true then Q true H1 else u σ H1 Q
def tNot(t:TT):TT:=λσ H Q=>t σ H λc H1=>Q (!c) H1
theorem Mp(ha:PT X a tA):PW X (.BoolOp .And [a] pos) tA:=by
 intro wh pins s σ H Q I h;refine isTrue_and (thn (ha pins s σ H Q I h) λc s1 e=> ?_);cases c with
 |true=>exact isTrue_and_nil e
 |false=>exact e
theorem Ep(ha:PT X a tA):PW X (.BoolOp .Or [a] pos) tA:=by
 intro wh pins s σ H Q I h;refine isTrue_or (thn (ha pins s σ H Q I h) λc s1 e=> ?_);cases c with
 |false=>exact isTrue_or_nil e
 |true=>exact e
theorem Qq(ha:PT X a tA)(hb:PW X (.BoolOp .And (b::rest) pos) tB'):PW X (.BoolOp .And (a::b::rest) pos) (tAnd tA tB'):=by
 intro wh pins s σ H Q I h;refine isTrue_and (thn (ha pins s σ H _ I h) λc s1 ⟨H1,I1,q1⟩=> ?_);cases c with
 |true=>exact hb wh pins s1 σ H1 Q I1 q1
 |false=>exact⟨H1,I1,q1⟩
theorem Fs(ha:PT X a tA)(hb:PW X (.BoolOp .Or (b::rest) pos) tB'):PW X (.BoolOp .Or (a::b::rest) pos) (tOr tA tB'):=by
 intro wh pins s σ H Q I h;refine isTrue_or (thn (ha pins s σ H _ I h) λc s1 ⟨H1,I1,q1⟩=> ?_);cases c with
 |true=>exact⟨H1,I1,q1⟩
 |false=>exact hb wh pins s1 σ H1 Q I1 q1
theorem Hn(ha:PT X a tA):PT X (.UnaryOp .Not a pos) (tNot tA):=by
 intro pins s σ H Q I h;exact isTrue_not (ha pins s σ H (λc H1=>Q (!c) H1) I h)
def tAndV(ta tb:TE):TE:=λσ H Q=>ta σ H λx H1=>∃c,x= .bl c/\if c=true then tb σ H1 Q else Q (.bl false) H1
def tNotV(ta:TE):TE:=λσ H Q=>ta σ H λx H1=>∃c,x= .bl c/\Q (.bl (!c)) H1
theorem Fx{op}{t:TE}(h:PE X a t):PE X (.BoolOp op [a] pos) t:=λpins s σ H Q I hw=>BoolOp_one (h pins s σ H Q I hw)
theorem Ds(ha:PE X a ta)(hb:PE X (.BoolOp .And (b::rest) pos) tb):PE X (.BoolOp .And (a::b::rest) pos) (tAndV ta tb):=by
 intro pins s σ H Q I h;refine BoolOp_and (thn (ha pins s σ H _ I h) λv s1 ⟨x,H1,I1,r1,q1⟩=> ?_);obtain⟨c,rfl,q1⟩:=q1;cases r1;refine Qf1 ?_;cases c with
 |true=>exact hb pins s1 σ H1 Q I1 q1
 |false=>exact⟨.bl false,H1,I1,rfl,q1⟩
theorem pe_not(ha:PE X a ta):PE X (.UnaryOp .Not a pos) (tNotV ta):=by
 intro pins s σ H Q I h;refine UnaryOp_ (thn (ha pins s σ H _ I h) λv s1 ⟨x,H1,I1,r1,q1⟩=> ?_);obtain⟨c,rfl,q1⟩:=q1;cases r1;exact not_of (Qf1 ⟨.bl (!c),H1,I1,rfl,q1⟩)
def tIf(t:TT)(ta tb:TE):TE:=λσ H Q=>t σ H λc H1=>if c=true then ta σ H1 Q else tb σ H1 Q
theorem Nr{c:Expr}(hc:PT X c tA)(ha:PE X a ta)(hb:PE X b tb):PE X (.IfExp c a b pos) (tIf tA ta tb):=by
 intro pins s σ H Q I h;refine wpAny_IfExp (thn (hc pins s σ H _ I h) λd s1 ⟨H1,I1,q1⟩=> ?_);cases d with
 |true=>exact ha pins s1 σ H1 Q I1 q1
 |false=>exact hb pins s1 σ H1 Q I1 q1
end
def SqL(K:Frag)(H:Hp)(a:Addr)(xs:List V):Prop:=
 Rd H a (.lst xs)\/
  ∃(o:Obj) (its:Array Value) (n:Nat),K.lookup a=some o/\o.cls= .type "list"/\o.dict=none/\o.data= .seq its n/\its.size<=sizeLine/\Vals xs its.toList
def SqT(K:Frag)(H:Hp)(a:Addr)(xs:List V):Prop:=
 Rd H a (.tup xs)\/
  ∃(o:Obj) (its:Array Value) (n:Nat),K.lookup a=some o/\o.cls= .type "tuple"/\o.data= .seq its n/\its.size<=sizeLine/\Vals xs its.toList
def absV:Value->Option V
 | .none=>some .non
 | .bool b=>some (.bl b)
 | .int i _=>some (.int i)
 | .str x _=>some (.str x)
 | .bytes b _=>some (.byt b)
 | .float b _=>some (.flt b)
 | .ref a=>some (.ref a)
 | .type n=>some (.ty n)
 |_=>none
theorem RelV.abs{x:V}{u:Value}(r:RelV x u):absV u=some x:=by
 cases x with
 |non=>cases r;rfl
 |bl _=>cases r;rfl
 |int _=>obtain⟨t,rfl⟩:=r;rfl
 |str _=>obtain⟨t,rfl⟩:=r;rfl
 |byt _=>obtain⟨t,rfl⟩:=r;rfl
 |flt _=>obtain⟨t,rfl⟩:=r;rfl
 |ref _=>cases r;rfl
 |ty _=>cases r;rfl
theorem RelV.inj{x y:V}{u:Value}(r:RelV x u)(q:RelV y u):x=y:=Option.some.inj (r.abs.symm.trans q.abs)
theorem Vals.inj:∀{xs ys:List V} {us:List Value},Vals xs us->Vals ys us->xs=ys
 |_,_,_,.nil,.nil=>rfl
 |_,_,_,.cons r t,.cons r' t'=>by rw[r.inj r',Vals.inj t t']
section
variable{X:Cx}{pins:List (Addr×Obj)}{σ:St}{H:Hp}{s:Shared}{a:Addr}{xs ys:List V}
theorem SqL.of{K:Frag}(h:H a=some (.lst xs)):SqL K H a xs:= .inl (.inl h)
theorem SqT.of{K:Frag}(h:H a=some (.tup xs)):SqT K H a xs:= .inl (.inl h)
theorem Inv.list(I:Inv X pins σ H s)(h:SqL X.K H a xs):∃its:List Value,Vals xs its/\PlainL s.heap a its.toArray/\xs.length<=sizeLine:=by
 rcases h with h|⟨o,its,n,hk,hc,hd,hs,hz,r⟩
 ·obtain⟨z,its,n,r,e⟩:=h.ok I.hok;exact⟨its,r,⟨_,n,e,rfl,rfl,rfl⟩,z⟩
 ·refine⟨its.toList,r,⟨o,n,I.kIn a o hk,hc,hd,by simpa using hs⟩,?_⟩;have e:=r.length;simp only[length_toList] at e;omega
theorem Inv.tuple(I:Inv X pins σ H s)(h:SqT X.K H a xs):∃its:List Value,Vals xs its/\IsTup s.heap a its.toArray/\xs.length<=sizeLine:=by
 rcases h with h|⟨o,its,n,hk,hc,hs,hz,r⟩
 ·obtain⟨z,its,r,p⟩:=h.ok I.hok;exact⟨its,r,p.tup,z⟩
 ·refine⟨its.toList,r,⟨o,I.kIn a o hk,hc,n,by simpa using hs⟩,?_⟩;have e:=r.length;simp only[length_toList] at e;omega
theorem Inv.list_inj(I:Inv X pins σ H s)(h:SqL X.K H a xs)(h':SqL X.K H a ys):xs=ys:=by
 obtain⟨its,r,⟨o,n,e,_,_,d⟩,_⟩:=I.list h;obtain⟨its',r',⟨o',n',e',_,_,d'⟩,_⟩:=I.list h';rw[e] at e';cases e';rw[d] at d';injection d' with d1 _;have:its=its':=by simpa using Qd1 toList d1
 subst this;exact r.inj r'
theorem Inv.tuple_inj(I:Inv X pins σ H s)(h:SqT X.K H a xs)(h':SqT X.K H a ys):xs=ys:=by
 obtain⟨its,r,⟨o,e,_,n,d⟩,_⟩:=I.tuple h;obtain⟨its',r',⟨o',e',_,n',d'⟩,_⟩:=I.tuple h';rw[e] at e';cases e';rw[d] at d';injection d' with d1 _;have:its=its':=by simpa using Qd1 toList d1
 subst this;exact r.inj r'
end
abbrev Cx.wish(X:Cx)(E:Value->Shared->Prop):Cx:={X with xe:=E}
abbrev Cx.nox(X:Cx):Cx:=X.wish λ_ _=>False
theorem Cx.Ok.wish{X:Cx}(ok:X.Ok)(E:Value->Shared->Prop):(X.wish E).Ok:=
 ⟨ok.mod,ok.kind,ok.glob,ok.blt,ok.above,ok.inj,ok.has,ok.cab,ok.hd,ok.frames,ok.stk,ok.exf,ok.bs,ok.bsz,ok.noex,ok.exfs,ok.funs,ok.frf⟩
theorem Cx.Ok.unwish{X:Cx}{E:Value->Shared->Prop}(ok:(X.wish E).Ok):X.Ok:=
 ⟨ok.mod,ok.kind,ok.glob,ok.blt,ok.above,ok.inj,ok.has,ok.cab,ok.hd,ok.frames,ok.stk,ok.exf,ok.bs,ok.bsz,ok.noex,ok.exfs,ok.funs,ok.frf⟩
section
variable{X:Cx}{pins:List (Addr×Obj)}{σ:St}{H:Hp}{s:Shared}{E:Value->Shared->Prop}
theorem Inv.wish(I:Inv X pins σ H s)(E:Value->Shared->Prop):Inv (X.wish E) pins σ H s:=⟨I.ok.wish E,I.os,I.bare,I.base,I.loc,I.cell,I.free,I.freeC,I.pin,I.hok,I.len⟩
theorem Inv.unwish(I:Inv (X.wish E) pins σ H s):Inv X pins σ H s:=⟨I.ok.unwish,I.os,I.bare,I.base,I.loc,I.cell,I.free,I.freeC,I.pin,I.hok,I.len⟩
theorem SP.unwish{D:Ga}{f:Flow}{s':Shared}(h:SP (X.wish E) pins D f s'):SP X pins D f s':=by
 cases f with
 |next=>obtain⟨σ',H',I,q⟩:=h;exact⟨σ',H',I.unwish,q⟩
 |brk=>obtain⟨σ',H',I,q⟩:=h;exact⟨σ',H',I.unwish,q⟩
 |cont=>obtain⟨σ',H',I,q⟩:=h;exact⟨σ',H',I.unwish,q⟩
 |ret u=>obtain⟨v,σ',H',I,r,q⟩:=h;exact⟨v,σ',H',I.unwish,r,q⟩
theorem PSs.nox{st:List Stmt}{t:TS}(h:PSs X.nox st t):PSs X st t:=λpins s σ H D I hw=>
 Qd8 (h pins s σ H D (I.wish _) hw) (λ_ _ q=>q.unwish) λ_ _ z=>False.elim z
end
section
variable{X:Cx}{st:Stmt}{rest:List Stmt}{t u:TS}{e:Expr}{te:TE}{pos:Pos}
def Bc:TS:=λD σ H=>D.nx σ H
def Zz(t u:TS):TS:=λD σ H=>t {D with nx:=u D} σ H
theorem A2:PSs X [] Bc:=λ_ _ σ H _ I h=>wpAny_execs_nil ⟨σ,H,I,h⟩
theorem Ae(h1:PS X st t)(h2:PSs X rest u):PSs X (st::rest) (Zz t u):=by
 intro pins s σ H D I h;refine wpAny_execs_cons (thn (h1 pins s σ H {D with nx:=u D} I h) λf s1 q=> ?_);cases f with
 |next=>
  obtain⟨σ',H',I',q⟩:=q;exact h2 pins s1 σ' H' D I' q
 |ret v=>exact q
 |brk=>exact q
 |cont=>exact q
theorem Ag(h1:PS X st t):PSs X [st] t:=by
 intro pins s σ H D I h;refine wpAny_execs_cons (thn (h1 pins s σ H D I h) λf s1 q=> ?_);cases f with
 |next=>exact wpAny_execs_nil q
 |ret v=>exact q
 |brk=>exact q
 |cont=>exact q
def tBreak:TS:=λD σ H=>D.bk σ H
theorem Xn:PS X (.Break pos) tBreak:=λ_ _ σ H _ I h=>wpAny_Break ⟨σ,H,I,h⟩
theorem Inv.quiet{pins:List (Addr×Obj)}{σ:St}{H:Hp}{s:Shared}(I:Inv X pins σ H s):interactive X.env=false:=by simp[interactive,I.ok.kind]
def tDrop(te:TE):TS:=λD σ H=>te σ H λ_ H1=>D.nx σ H1
theorem Cn(he:PE X e te)(hs:swapsWith e none pos.line X.env=pure false:=by rfl):PS X (.Expr e pos) (tDrop te):=by
 intro pins s σ H D I h;exact wpAny_Expr_any (thn (he pins s σ H _ I h) λv s1 ⟨x,H1,I1,r1,q1⟩=>⟨σ,H1,I1,q1⟩) I.quiet hs
def tRet(te:TE):TS:=λD σ H=>te σ H D.rt
theorem Ap(he:PE X e te):PS X (.Return (some e) pos) (tRet te):=by
 intro pins s σ H D I h;exact wpAny_Return_some (thn (he pins s σ H _ I h) λv s1 ⟨x,H1,I1,r1,q1⟩=>⟨x,σ,H1,I1,r1,q1⟩)
def tIfS(c:TT)(t u:TS):TS:=λD σ H=>c σ H λb H1=>if b=true then t D σ H1 else u D σ H1
theorem Be{c:Expr}{a b:List Stmt}{tc:TT}(hc:PT X c tc)(ha:PSs X a t)(hb:PSs X b u):PS X (.If c a b pos) (tIfS tc t u):=by
 intro pins s σ H D I h;refine wpAny_If (thn (hc pins s σ H _ I h) λd s1 ⟨H1,I1,q1⟩=> ?_);cases d with
 |true=>exact ha pins s1 σ H1 D I1 q1
 |false=>exact hb pins s1 σ H1 D I1 q1
def X1:TS:=λ_ _ _=>False
theorem Gk:PS X st X1:=λ_ _ _ _ _ _ h=>h.elim
theorem Uh{sts:List Stmt}:PSs X sts X1:=λ_ _ _ _ _ _ h=>h.elim
end
abbrev TG:=V->St->Hp->(St->Hp->Prop)->Prop
abbrev TGs:=List V->St->Hp->(St->Hp->Prop)->Prop
def PG(X:Cx)(target:Expr)(t:TG):Prop:=
 ∀(pins:List (Addr×Obj)) (s:Shared) (σ:St) (H:Hp) (v:V) (u:Value) (Q:St->Hp->Prop),Inv X pins σ H s->RelV v u->t v σ H Q->
  wpAny (model X.prog X.w) X.A (assign target X.env u) (λ_ s'=>∃σ' H',Inv X pins σ' H' s'/\Q σ' H') X.xe s
def PGs(X:Cx)(ts:List Expr)(t:TGs):Prop:=
 ∀(pins:List (Addr×Obj)) (s:Shared) (σ:St) (H:Hp) (vs:List V) (us:List Value) (Q:St->Hp->Prop),Inv X pins σ H s->Vals vs us->t vs σ H Q->
  wpAny (model X.prog X.w) X.A (assignInOrder ((assignEach ts X.env).map (·.2)) us) (λ_ s'=>∃σ' H',Inv X pins σ' H' s'/\Q σ' H') X.xe s
abbrev TSet:=V->V->V->Hp->(Hp->Prop)->Prop
def PSet(X:Cx)(t:TSet):Prop:=
 ∀(pins:List (Addr×Obj)) (s:Shared) (σ:St) (H:Hp) (o i v:V) (ov iv u:Value) (Q:Hp->Prop),Inv X pins σ H s->RelV o ov->RelV i iv->RelV v u->t o i v H Q->
  wpAny (model X.prog X.w) X.A (setItem ov iv u) (λ_ s'=>∃H',Inv X pins σ H' s'/\Q H') X.xe s
section
variable{X:Cx}{pos:Pos}
def Lq(i:Nat):TG:=λv σ H Q=>Q (σ.set i (some v)) H
theorem Aj{i:Nat}{x:Str}(hN:X.N.Nodup)(hi:X.N[i]? =some x)(hx:Loc X.env.scope x)(hf:X.fn x=true\/X.env.scope.names.lookup x=some .local:=by first|exact .inl rfl|exact .inr rfl|assumption):PG X (.Name x pos) (Lq i):=by
 intro pins s σ H v u Q I r h;exact wpAny_assign_Name (E4 I hN hi hx r (λs' I'=>⟨_,H,I',h⟩) hf)
def gNil:TGs:=λvs σ H Q=>vs=[]/\Q σ H
def gCons(t:TG)(u:TGs):TGs:=λvs σ H Q=>∃v r,vs=v::r/\t v σ H λσ' H'=>u r σ' H' Q
theorem Cc:PGs X [] gNil:=by
 intro pins s σ H vs us Q I r h;obtain⟨e,h⟩:=h;subst e;cases r;exact assignInOrder_nil ⟨σ,H,I,h⟩
theorem At{e:Expr}{es:List Expr}{t:TG}{u:TGs}(h1:PG X e t)(h2:PGs X es u)(hs:(assignEach (e::es) X.env).map (·.2)=assign e X.env::(assignEach es X.env).map (·.2):=by rfl):PGs X (e::es) (gCons t u):=by
 intro pins s σ H vs us Q I r h;obtain⟨v,vr,e1,h⟩:=h;subst e1;cases r with
 |cons r rr=>
  rw[hs];refine assignInOrder_cons (thn (h1 pins s σ H _ _ _ I r h) λ_ s1 ⟨σ1,H1,I1,q1⟩=> ?_);exact h2 pins s1 σ1 H1 _ _ Q I1 rr q1
def gTup(K:Frag)(n:Nat)(t:TGs):TG:=λv σ H Q=>∃a xs,v= .ref a/\SqT K H a xs/\xs.length=n/\t xs σ H Q
theorem Cy{es:List Expr}{k:Nat}{t:TGs}{n:Nat}(hc:X.calm=true)(h:PGs X es t)(hn:(assignEach es X.env).length=n:=by rfl)(hst:(assignEach es X.env).findIdx? (·.1)=none:=by rfl):PG X (.Tuple es k pos) (gTup X.K n t):=by
 intro pins s σ H v u Q I r hw;obtain⟨a,xs,e1,hq,hl,hw⟩:=hw;subst e1;cases r;obtain⟨its,rv,ht,hz⟩:=I.tuple hq;refine assign_Tuple_tuple (I.ok.hd hc) ht (by simp[hn,<-hl,rv.length]) hst λh' hx=> ?_;have I1:Inv X pins σ H {s with heap:=h'}:=I.kept (t':=s.toks) λb o e=>hx b o (ne_of_lt (Qa8 e)) e;exact h pins _ σ H xs _ Q I1 (by simpa using rv) hw
def gSub(to ti:TE)(t:TSet):TG:=λv σ H Q=>to σ H λo H1=>ti σ H1 λi H2=>t o i v H2 λH3=>Q σ H3
theorem Qa{o i:Expr}{to ti:TE}{t:TSet}(ho:PE X o to)(hi:PE X i ti)(hs:PSet X t)(ha:∀v,assign (.Subscript o i pos) X.env v=(do
   let ov <-holding [v] (eval o X.env)
   let iv <-holding [v,ov] (eval i X.env)
   standAt pos
   holding [v,ov,iv] (setItem ov iv v)
   release [v,ov,iv] []):=by intro _;rfl):PG X (.Subscript o i pos) (gSub to ti t):=by
 intro pins s σ H v u Q I r h;rw[ha];refine Gt (Qc7 (thn (ho pins s σ H _ I h) λov s1 ⟨x,H1,I1,r1,q1⟩=> ?_));refine Gt (Qc7 (thn (hi pins s1 σ H1 _ I1 q1) λiv s2 ⟨y,H2,I2,r2,q2⟩=> ?_));refine Gt (wpAny_standAt (Gt (Qc7 (thn (hs pins s2 σ H2 x y v ov iv u _ I2 r1 r2 r q2) λ_ s3 ⟨H3,I3,q3⟩=> ?_))));exact wpAny_release ⟨σ,H3,I3,q3⟩
def Yn(te:TE)(g:TG):TS:=λD σ H=>te σ H λx H1=>g x σ H1 D.nx
theorem Di{tg e:Expr}{te:TE}{g:TG}(he:PE X e te)(hg:PG X tg g)(hs:swapsWithSole [tg] e pos.line X.env=pure false:=by rfl)(hw:swappedStores [tg] e X.env=pure none:=by rfl)(h1:(assignEach [tg] X.env).map (·.2)=[assign tg X.env]:=by rfl):PS X (.Assign [tg] e pos) (Yn te g):=by
 intro pins s σ H D I h;refine wpAny_Assign_stores (thn (he pins s σ H _ I h) λv s1 ⟨x,H1,I1,r1,q1⟩=> ?_) hs hw;rw[h1];exact thn (hg pins s1 σ H1 x v _ I1 r1 q1) λ_ s2 q=>q
theorem Ao{i:Nat}{x:Str}{e:Expr}{te:TE}{pos':Pos}(hN:X.N.Nodup)(hi:X.N[i]? =some x)(hx:Loc X.env.scope x)(he:PE X e te)(hs:swapsWith e (some (.Name x pos')) pos.line X.env=pure false:=by rfl)(hf:X.fn x=true\/X.env.scope.names.lookup x=some .local:=by first|exact .inl rfl|exact .inr rfl|assumption):
  PS X (.Assign [.Name x pos'] e pos) (Yn te (Lq i)):=by
 intro pins s σ H D I h;refine wpAny_Assign_Name (thn (he pins s σ H _ I h) λv s1 ⟨y,H1,I1,r1,q1⟩=> ?_) hs;exact E4 I1 hN hi hx r1 (λs2 I2=>⟨_,H1,I2,q1⟩) hf
def tPar(i j:Nat)(ta:TA):TS:=λD σ H=>ta σ H λvs H1=>∃v w,vs=[v,w]/\D.nx ((σ.set i (some v)).set j (some w)) H1
theorem U2{i j:Nat}{x y:Str}{a b:Expr}{ta:TA}{px py pt:Pos}{kt k2 pt2}(hc:X.calm=true)(hN:X.N.Nodup)(hi:X.N[i]? =some x)(hj:X.N[j]? =some y)(hij:i≠j)(hx:X.env.scope.names.lookup x=some .local)(hy:X.env.scope.names.lookup y=some .local)(ha:PA X [a,b] ta)(hw:swappedStores [.Tuple [.Name x px,.Name y py] kt pt] (.Tuple [a,b] k2 pt2) X.env=pure (some [x,y]))(hs:swapsWithSole [.Tuple [.Name x px,.Name y py] kt pt] (.Tuple [a,b] k2 pt2) pos.line X.env=pure false:=by rfl):
  PS X (.Assign [.Tuple [.Name x px,.Name y py] kt pt] (.Tuple [a,b] k2 pt2) pos) (tPar i j ta):=by
 intro pins s σ H D I h;rw[exec_Assign_arm];refine Gt (wpAny_standAt ?_);rw[hs];refine Gt (Qa1 ?_);rw[Qa2 (by decide)];refine Gt (Tuple_ (thn (ha _ pins s σ H _ I h) λus s1 ⟨vs,H1,I1,r1,q1⟩=> ?_));obtain⟨v,w,e1,q1⟩:=q1;subst e1;obtain⟨u1,u2,rfl,rv,rw'⟩:∃u1 u2,us=[u1,u2]/\RelV v u1/\RelV w u2:=by
  cases r1 with
  |cons p q=>
   cases q with
   |cons p' q'=>
    cases q';exact⟨_,_,rfl,p,p'⟩
 refine Qc9 ?_ (by show 2<=sizeLine;decide);have I2:Inv X pins σ H1 {s1 with heap:=s1.heap.push {cls:= .type "tuple",data:= .seq [u1,u2].toArray}}:=I1.kept (t':=s1.toks) λb o e=>Lt _ e;rw[hw];refine Gt (Qa1 ?_);show wpAny (model X.prog X.w) X.A (do rule "assign.swapped-stores";let items <-unpackItems (.ref s1.heap.objs.size) 2 none;assignInOrder [λv=>bindName X.env y v,λv=>bindName X.env x v] items.reverse;pure Flow.next) _ _ _;refine Gt (Qe4 (Gt (unpackItems_tuple (items:= #[u1,u2]) (I.ok.hd hc) (IsTup.new s1.heap _) λh' hx'=> ?_)));have I3:=I2.kept (h':=h') (t':=s1.toks) λb o e=>hx' b o (ne_of_lt (Qa8 e)) e;show wpAny _ _ (assignInOrder [λv=>bindName X.env y v,λv=>bindName X.env x v] [u2,u1] >>=λ_=>pure Flow.next) _ _ _;refine Gt (assignInOrder_cons (wpAny_bindName (E4 I3 hN hj (.inl hy) rw' (λs2 I4=> ?_) (.inr hy))));refine assignInOrder_cons (wpAny_bindName (E4 I4 hN hi (.inl hx) rv (λs3 I5=>assignInOrder_nil (Qa1 ?_)) (.inr hx)));rw[List.set_comm _ _ (Ne.symm hij)] at I5;exact⟨_,H1,I5,q1⟩
end
section
variable{X:Cx}{pos:Pos}
def Qh(c:TT)(tb:TS):TS:=λD σ H=>∃W:Nat->St->Hp->Prop,(∃m,W m σ H)/\∀m σ H,W m σ H->
 c σ H λb H1=>if b=true then ∃N:St->Hp->Prop,(∀σ' H',N σ' H'->∃m',m'<m/\W m' σ' H')/\tb {D with nx:=N,ct:=N,bk:=D.nx} σ H1 else D.nx σ H1
theorem Oe{c:Expr}{body:List Stmt}{tc:TT}{tb:TS}(hp:PassesOwn (model X.prog X.w) X.A X.env X.xe)(hc:PT X c tc)(hb:PSs X body tb):PS X (.While c body [] pos) (Qh tc tb):=by
 intro pins s σ H D I h;obtain⟨W,⟨m0,w0⟩,turn⟩:=h;refine wpAny_While (codeAny_whileLoop (λn s'=>∃σ' H',Inv X pins σ' H' s'/\W n σ' H') ?_ m0 ⟨σ,H,I,w0⟩);rintro n s1 ⟨σ1,H1,I1,w1⟩;refine Qe2 hp (thn (hc pins s1 σ1 H1 _ I1 (turn n σ1 H1 w1)) λb s2 ⟨H2,I2,q2⟩=> ?_);cases b with
 |true=>
  obtain⟨N,hN,q2⟩:=q2;rw[Qa3 rfl];refine Qe2 hp (thn (hb pins s2 σ1 H2 _ I2 q2) λf s3 q3=> ?_);cases f with
  |next=>
   obtain⟨σ3,H3,I3,n3⟩:=q3;obtain⟨m',hm,w3⟩:=hN σ3 H3 n3;exact⟨m',hm,σ3,H3,I3,w3⟩
  |cont=>
   obtain⟨σ3,H3,I3,n3⟩:=q3;obtain⟨m',hm,w3⟩:=hN σ3 H3 n3;exact⟨m',hm,σ3,H3,I3,w3⟩
  |brk=>exact q3
  |ret v=>exact q3
 |false=>
  rw[Qa2 Bool.false_ne_true];exact wpAny_execs_nil ⟨σ1,H2,I2,q2⟩
end
structure It where
 go:Nat->Hp->Prop
 yld:Nat->Hp->V->Hp->Prop
 stop:Nat->Hp->Prop
def FpOk(X:Cx)(pins:List (Addr×Obj))(H:Hp)(b:Addr):Prop:=
 H b=none/\b≠X.env.locals/\b ∉ X.fs/\(b∈X.ex\/X.s₀.heap.objs.size<=b)/\(∀x c,X.env.cells.lookup x=some c->c≠b)/\∀p∈X.pn++pins,p.1≠b
theorem Inv.fpOk{X:Cx}{pins:List (Addr×Obj)}{σ:St}{H H':Hp}{s:Shared}{b:Addr}(I:Inv X pins σ H s)(hb:s.heap.objs.size<=b)(hn:H' b=none):FpOk X pins H' b:=by
 refine⟨hn,ne_of_gt (lt_of_lt_of_le I.lt hb),I.nofs hb,.inr (le_trans I.sz hb),λx c e z=> ?_,λp hp z=> ?_⟩
 ·obtain⟨v,q⟩:=I.cell x c e;exact absurd (lt_of_lt_of_le q.lt (by rw[z];exact hb)) (lt_irrefl _)
 ·exact absurd (lt_of_lt_of_le (Qa8 (I.pin p hp).1) (by rw[z];exact hb)) (lt_irrefl _)
structure Qe(P:Program)(w:World)(K:Frag)(tg:Expr)(J:It)(fp:List Addr)(it:Addr)(tn:Nat->Heap->Prop):Prop where
 mem:it∈fp
 obj:∀i h,tn i h->∀b∈fp,∃o,h.get? b=some o/\∀v,o.data≠ .cell v
 keep:∀i h h',tn i h->(∀b∈fp,∀o,h.get? b=some o->h'.get? b=some o)->tn i h'
 item:∀(X:Cx),X.prog=P->X.w=w->X.K=K->X.calm=true->∀(i:Nat) (pins:List (Addr×Obj)) (s:Shared) (σ:St) (H:Hp) (E:Value->Shared->Prop),Inv X pins σ H s->(∀b∈fp,FpOk X pins H b)->tn i s.heap->J.go i H->
  wpAny (model P w) X.A (pyNext (.ref it)) (λr s1=>∃u,r=some u/\
   wpAny (model P w) X.A (letOwnedTupleGo tg (.ref it) u) (λ_ s2=>∃x H',Inv X pins σ H' s2/\RelV x u/\J.yld i H x H'/\tn (i+1) s2.heap/\∀b∈fp,H' b=none) E s1) E s
 done:∀(X:Cx),X.prog=P->X.w=w->X.K=K->X.calm=true->∀(i:Nat) (pins:List (Addr×Obj)) (s:Shared) (σ:St) (H:Hp) (E:Value->Shared->Prop),Inv X pins σ H s->(∀b∈fp,FpOk X pins H b)->tn i s.heap->J.stop i H->
  wpAny (model P w) X.A (pyNext (.ref it)) (λr s1=>r=none/\Inv X pins σ H s1) E s
 self:∀(A:Around) (i:Nat) (s:Shared) (Q:Value->Shared->Prop) (E:Value->Shared->Prop),tn i s.heap->Q (.ref it) s->wpAny (model P w) A (pyIter (.ref it)) Q E s
abbrev TI:=St->Hp->(It->Hp->Prop)->Prop
def PIE(X:Cx)(pins:List (Addr×Obj))(σ:St)(tg:Expr)(R:It->Hp->Prop)(itv:Value)(s2:Shared):Prop:=
 ∃(it:Addr) (fp:List Addr) (tn:Nat->Heap->Prop) (J:It) (H':Hp),itv= .ref it/\Inv X pins σ H' s2/\Qe X.prog X.w X.K tg J fp it tn/\tn 0 s2.heap/\(∀b∈fp,FpOk X pins H' b)/\R J H'
def PI(X:Cx)(tg iter:Expr)(wi:TI):Prop:=
 ∀(pins:List (Addr×Obj)) (s:Shared) (σ:St) (H:Hp) (R:It->Hp->Prop),Inv X pins σ H s->wi σ H R->
  wpAny (model X.prog X.w) X.A (eval iter X.env) (λv s1=>wpAny (model X.prog X.w) X.A (pyIter v) (PIE X pins σ tg R) X.xe s1) X.xe s
theorem Sn{M:Model}{A:Around}{E:Value->Shared->Prop}{s:Shared}{tg:Expr}{it:Addr}{u:Value}{o:Obj}{n:String}{vs:Array Value}{Q:Unit->Shared->Prop}(ho:s.heap.get? it=some o)(hc:o.cls= .type n)(hd:o.data= .fields vs)(hn:["enumerate","zip","dict_itemiterator","dict_reverseitemiterator","odict_iterator","itertools.zip_longest","itertools.pairwise"].contains n=false)(hQ:Q () s):wpAny M A (letOwnedTupleGo tg (.ref it) u) Q E s:=by
 unfold letOwnedTupleGo;cases tg<;> first
  |exact Qa1 hQ
  |(cases u<;> first
   |exact Qa1 hQ
   |(refine Gt (wpAny_load ho ?_)
     rw[hc,hd];show wpAny M A (if (["enumerate","zip","dict_itemiterator","dict_reverseitemiterator","odict_iterator","itertools.zip_longest","itertools.pairwise"].contains n && vs[0]? ==some (rawInt _))=true then _ else _) Q E s;rw[Qa2 (by intro h;rw[hn,Bool.false_and] at h;cases h)];exact Qa1 hQ))
def Itl(K:Frag)(a:Addr):It:=
 ⟨λi H=>∃xs x,SqL K H a xs/\xs[i]? =some x,λi H x H'=>H'=H/\∀xs,SqL K H a xs->xs[i]? =some x,λi H=>∃xs,SqL K H a xs/\xs.length<=i⟩
def Itt(K:Frag)(a:Addr):It:=
 ⟨λi H=>∃xs x,SqT K H a xs/\xs[i]? =some x,λi H x H'=>H'=H/\∀xs,SqT K H a xs->xs[i]? =some x,λi H=>∃xs,SqT K H a xs/\xs.length<=i⟩
def Itr(lo:Int)(n:Nat):It:=⟨λi _=>i<n,λi H x H'=>H'=H/\x= .int (lo+i),λi _=>n<=i⟩
theorem Uk{P:Program}{w:World}{K:Frag}{tg:Expr}(a it:Addr):Qe P w K tg (Itl K a) [it] it (λi h=>h.IsListIter it a i) where
 mem:=by simp
 obj:=λi h st b hb=>by
  have e:b=it:=by simpa using hb
  subst e;obtain⟨o,e,c,d⟩:=st;exact⟨o,e,λv z=>by rw[d] at z;cases z⟩
 keep:=λi h h' st k=>st.at λo e=>k it (by simp) o e
 item:=by
  intro X hP hw hK hc i pins s σ H E I hf st hg;subst hP hw hK;obtain⟨xs,x,hq,hx⟩:=hg;obtain⟨its,rv,p,hz⟩:=I.list hq;obtain⟨u,hu,ru⟩:=rv.get hx;obtain⟨f0,f1,f2,f3,f4,f5⟩:=hf it (by simp);refine wpAny_pyNext_list_item st p.isList (x:=u) (by simpa using hu) λh' st' sb=> ?_;have I1:Inv X pins σ H {s with heap:=h'}:=I.turned (t':=s.toks) (λb o hb e=>(sb.2 b hb).trans e) f0 f1 f3 f4 f5;obtain⟨o,e,c,d⟩:=id st';exact⟨u,rfl,Sn (s:={s with heap:=h'}) e c d (by decide) ⟨x,H,I1,ru,⟨rfl,λys hy=>by rw[I.list_inj hy hq];exact hx⟩,st',λb hb=>(hf b hb).1⟩⟩
 done:=by
  intro X hP hw hK hc i pins s σ H E I hf st hg;subst hP hw hK;obtain⟨xs,hq,hx⟩:=hg;obtain⟨its,rv,p,hz⟩:=I.list hq;obtain⟨f0,f1,f2,f3,f4,f5⟩:=hf it (by simp);have hl:=rv.length;exact wpAny_pyNext_list_end (I.ok.hd hc) st p.isList (by simp;omega) λh' eb=>⟨rfl,I.turned (t':=s.toks) (λb o hb e=>eb b o hb e) f0 f1 f3 f4 f5⟩
 self:=λ_ _ _ _ _ st h=>wpAny_pyIter_listiter st h
theorem Pj{P:Program}{w:World}{K:Frag}{tg:Expr}(a it:Addr):Qe P w K tg (Itt K a) [it] it (λi h=>h.IsTupleIter it a i) where
 mem:=by simp
 obj:=λi h st b hb=>by
  have e:b=it:=by simpa using hb
  subst e;obtain⟨o,e,c,d⟩:=st;exact⟨o,e,λv z=>by rw[d] at z;cases z⟩
 keep:=λi h h' st k=>st.at λo e=>k it (by simp) o e
 item:=by
  intro X hP hw hK hc i pins s σ H E I hf st hg;subst hP hw hK;obtain⟨xs,x,hq,hx⟩:=hg;obtain⟨its,rv,p,hz⟩:=I.tuple hq;obtain⟨u,hu,ru⟩:=rv.get hx;obtain⟨f0,f1,f2,f3,f4,f5⟩:=hf it (by simp);refine wpAny_pyNext_tuple_item st (show s.heap.IsTuple a its.toArray from p) (x:=u) (by simpa using hu) λh' st' sb=> ?_;have I1:Inv X pins σ H {s with heap:=h'}:=I.turned (t':=s.toks) (λb o hb e=>(sb.2 b hb).trans e) f0 f1 f3 f4 f5;obtain⟨o,e,c,d⟩:=id st';exact⟨u,rfl,Sn (s:={s with heap:=h'}) e c d (by decide) ⟨x,H,I1,ru,⟨rfl,λys hy=>by rw[I.tuple_inj hy hq];exact hx⟩,st',λb hb=>(hf b hb).1⟩⟩
 done:=by
  intro X hP hw hK hc i pins s σ H E I hf st hg;subst hP hw hK;obtain⟨xs,hq,hx⟩:=hg;obtain⟨its,rv,p,hz⟩:=I.tuple hq;obtain⟨f0,f1,f2,f3,f4,f5⟩:=hf it (by simp);have hl:=rv.length;exact wpAny_pyNext_tuple_end (I.ok.hd hc) st (show s.heap.IsTuple a its.toArray from p) (by simp;omega) λh' eb=>⟨rfl,I.turned (t':=s.toks) (λb o hb e=>eb b o hb e) f0 f1 f3 f4 f5⟩
 self:=λ_ _ _ _ _ st h=>wpAny_pyIter_tupleiter st h
theorem P5{P:Program}{w:World}{K:Frag}{tg:Expr}(it:Addr)(lo:Int)(n:Nat):Qe P w K tg (Itr lo n) [it] it (λi h=>IsRangeIter h it (lo+(i:Nat) * 1) ((n:Int) - (i:Nat)) 1) where
 mem:=by simp
 obj:=λi h st b hb=>by
  have e:b=it:=by simpa using hb
  subst e;exact⟨_,st,λv z=>by
   have z':Data.fields _=Data.cell v:=z;cases z'⟩
 keep:=λi h h' st k=>k it (by simp) _ st
 item:=by
  intro X hP hw hK hc i pins s σ H E I hf st hg;subst hP hw hK;obtain⟨f0,f1,f2,f3,f4,f5⟩:=hf it (by simp);have W:=Walks.range (prog:=X.prog) (w:=X.w) (I.ok.hd hc) it lo 1 n;refine W.item i s _ _ hg st λv h' tk hv st' kk=> ?_;obtain⟨t,rfl⟩:=hv;have I1:Inv X pins σ H {s with heap:=h',toks:=tk}:=I.turned (λb o hb e=>kk b o (by simpa using hb) e) f0 f1 f3 f4 f5;refine⟨_,rfl,Sn (s:={s with heap:=h',toks:=tk}) (n:="range_iterator") st' rfl rfl (by decide) ⟨.int (lo+i),H,I1,⟨t,?_⟩,⟨rfl,rfl⟩,st',λb hb=>(hf b hb).1⟩⟩;rw[Int.mul_one]
 done:=by
  intro X hP hw hK hc i pins s σ H E I hf st hg;subst hP hw hK;obtain⟨f0,f1,f2,f3,f4,f5⟩:=hf it (by simp);exact wpAny_pyNext_range_end (I.ok.hd hc) st (by have:n<=i:=hg;omega) λh' eb=>⟨rfl,I.turned (t':=s.toks) (λb o hb e=>eb b o hb e) f0 f1 f3 f4 f5⟩
 self:=λ_ _ _ _ _ st h=>wpAny_pyIter_rangeiter st h
section
variable{X:Cx}{tg:Expr}
def iList(K:Frag)(tl:TE):TI:=λσ H R=>tl σ H λx H1=>∃a,x= .ref a/\(∃xs,SqL K H1 a xs)/\R (Itl K a) H1
def iTup(K:Frag)(tl:TE):TI:=λσ H R=>tl σ H λx H1=>∃a,x= .ref a/\(∃xs,SqT K H1 a xs)/\R (Itt K a) H1
theorem Cr{l:Expr}{tl:TE}(hl:PE X l tl):PI X tg l (iList X.K tl):=by
 intro pins s σ H R I h;refine thn (hl pins s σ H _ I h) λv s1 ⟨x,H1,I1,r1,q1⟩=> ?_;obtain⟨a,e,⟨xs,hq⟩,q⟩:=q1;subst e;cases r1;obtain⟨its,rv,p,hz⟩:=I1.list hq;refine wpAny_pyIter_list p.isList ?_;refine⟨s1.heap.objs.size,[s1.heap.objs.size],_,_,H1,rfl,I1.kept (t':=s1.toks) λb o e=>Lt _ e,Uk a _,⟨_,Qa7 _ rfl,rfl,rfl⟩,λb hb=> ?_,q⟩;have e:b=s1.heap.objs.size:=by simpa using hb
 subst e;exact I1.fpOk (le_refl _) (I1.hok.fresh (le_refl _))
theorem Ca{l:Expr}{tl:TE}(hl:PE X l tl):PI X tg l (iTup X.K tl):=by
 intro pins s σ H R I h;refine thn (hl pins s σ H _ I h) λv s1 ⟨x,H1,I1,r1,q1⟩=> ?_;obtain⟨a,e,⟨xs,hq⟩,q⟩:=q1;subst e;cases r1;obtain⟨its,rv,p,hz⟩:=I1.tuple hq;refine wpAny_pyIter_tuple (show s1.heap.IsTuple a its.toArray from p) ?_;refine⟨s1.heap.objs.size,[s1.heap.objs.size],_,_,H1,rfl,I1.kept (t':=s1.toks) λb o e=>Lt _ e,Pj a _,⟨_,Qa7 _ rfl,rfl,rfl⟩,λb hb=> ?_,q⟩;have e:b=s1.heap.objs.size:=by simpa using hb
 subst e;exact I1.fpOk (le_refl _) (I1.hok.fresh (le_refl _))
theorem Xa{pins:List (Addr×Obj)}{σ:St}{H:Hp}{s:Shared}{R:It->Hp->Prop}{E:Value->Shared->Prop}{lo hi:Int}{t u v:Tok}{tk:Nat}(I:Inv X pins σ H s)(h1: -(2 ^ 62)<=lo)(h2:lo<2 ^ 62)(h3: -(2 ^ 62)<=hi)(h4:hi<2 ^ 62)(q:R (Itr lo (hi - lo).toNat) H):wpAny (model X.prog X.w) X.A (pyIter (.ref s.heap.objs.size)) (PIE X pins σ tg R) E {s with heap:=s.heap.push {cls:= .type "range",data:= .fields #[.int lo t,.int hi u,.int 1 v]},toks:=tk}:=by
 refine wpAny_pyIter_range (IsRange.new ..) (small_one h1 h2 h3 h4) ?_;have I1:Inv X pins σ H {s with heap:=s.heap.push {cls:= .type "range",data:= .fields #[.int lo t,.int hi u,.int 1 v]},toks:=tk}:=I.kept λb o e=>Lt _ e;refine⟨(s.heap.push {cls:= .type "range",data:= .fields #[.int lo t,.int hi u,.int 1 v]}).objs.size,[(s.heap.push {cls:= .type "range",data:= .fields #[.int lo t,.int hi u,.int 1 v]}).objs.size],_,_,H,rfl,
  I1.kept (t':=tk) λb o e=>Lt _ e,P5 _ lo (hi - lo).toNat,?_,λb hb=> ?_,q⟩
 ·have e1:lo+((0:Nat):Int) * 1=lo:=by simp
  have e2:(((hi - lo).toNat:Nat):Int) - ((0:Nat):Int)=Builtin.Range.rangeSize lo hi 1:=by rw[rangeSize_one];split<;> omega
  show IsRangeIter _ _ (lo+((0:Nat):Int) * 1) ((((hi - lo).toNat:Nat):Int) - ((0:Nat):Int)) 1;rw[e1,e2];exact Qa7 _ rfl
 ·have e:b=(s.heap.push {cls:= .type "range",data:= .fields #[.int lo t,.int hi u,.int 1 v]}).objs.size:=by simpa using hb
  subst e;exact I1.fpOk (le_refl _) (I1.hok.fresh (le_refl _))
def iRng1(ta:TA):TI:=λσ H R=>ta σ H λvs H1=>∃j:Int,vs=[.int j]/\ -(2 ^ 62)<=j/\j<2 ^ 62/\R (Itr 0 j.toNat) H1
theorem Cg{a:Expr}{ta:TA}{p pos:Pos}(hg:Gl X "range")(hm:X.mg "range"=none)(ha:PA X [a] ta)(hs:starEach [a] X.env=[(false,eval a X.env)]:=by rfl):PI X tg (.Call (.Name "range" p) [a] [] pos) (iRng1 ta):=by
 intro pins s σ H R I h;refine Call_ (Ew I hg hm boot_range (PyProof.Rows.callWith_type1 (thn (ha pos pins s σ H _ I h) λus s1 ⟨vs,H1,I1,r1,q1⟩=> ?_) hs rfl));obtain⟨j,e,q1,q2,q⟩:=q1;subst e;cases r1 with
 |cons r rr=>
  cases rr;obtain⟨t,rfl⟩:=r;exact call_range_1 (Xa I1 (by decide) (by decide) q1 q2 (by simpa using q))
def tFor(wi:TI)(g:TG)(tb:TS):TS:=λD σ H=>wi σ H λJ H1=>∃W:Nat->Nat->St->Hp->Prop,(∃m,W 0 m σ H1)/\∀i m σ H,W i m σ H->
 (J.stop i H/\D.nx σ H)\/(J.go i H/\∃N:St->Hp->Prop,(∀σ' H',N σ' H'->∃m',m'<m/\W (i+1) m' σ' H')/\∀x H',J.yld i H x H'->g x σ H' λσ2 H2=>tb {D with nx:=N,ct:=N,bk:=D.nx} σ2 H2)
def Jw(fp:List Addr)(h:Heap):List (Addr×Obj):=fp.filterMap λb=>(h.get? b).map λo=>(b,o)
theorem Es{fp:List Addr}{h:Heap}{b:Addr}{o:Obj}(hb:b∈fp)(e:h.get? b=some o):(b,o)∈Jw fp h:=List.mem_filterMap.mpr ⟨b,hb,by rw[e];rfl⟩
theorem Ti{fp:List Addr}{h:Heap}{p:Addr×Obj}(hp:p∈Jw fp h):p.1∈fp/\h.get? p.1=some p.2:=by
 obtain⟨b,hb,e⟩:=List.mem_filterMap.mp hp;cases q:h.get? b with
 |none=>rw[q] at e;cases e
 |some o=>
  rw[q] at e;have e':(b,o)=p:=Option.some.inj e;subst e';exact⟨hb,q⟩
theorem Inv.pinned{pins:List (Addr×Obj)}{σ:St}{H:Hp}{s:Shared}{fp:List Addr}(I:Inv X pins σ H s)(hf:∀b∈fp,FpOk X pins H b)(ho:∀b∈fp,∃o,s.heap.get? b=some o/\∀v,o.data≠ .cell v):Inv X (pins++Jw fp s.heap) σ H s:=
 I.pins_of λp hp=>(mem_append.mp hp).elim (λz=>I.pin p (mem_append_right _ z)) λz=>by
  obtain⟨hb,e⟩:=Ti z;obtain⟨f0,f1,f2,_⟩:=hf p.1 hb;obtain⟨o,e',d⟩:=ho p.1 hb;rw[e] at e';cases e';exact⟨e,f0,f1,f2,d⟩
theorem Inv.unpinned{pins pl:List (Addr×Obj)}{σ:St}{H:Hp}{s:Shared}(I:Inv X (pins++pl) σ H s):Inv X pins σ H s:=I.pins_of λp hp=>I.pin p (mem_append_right _ (mem_append_left _ hp))
theorem Ct{iter:Expr}{body:List Stmt}{wi:TI}{g:TG}{tb:TS}{pos:Pos}(hp:PassesOwn (model X.prog X.w) X.A X.env X.xe)(hc:X.calm=true)(hi:PI X tg iter wi)(hg:PG X tg g)(hb:PSs X body tb)(hs:∀x,foldedSetIterable iter X.env x=pure x:=by intro _;rfl):PS X (.For tg iter body [] pos) (tFor wi g tb):=by
 intro pins s σ H D I h;refine wpAny_For (thn (hi pins s σ H _ I h) λv s1 h1=>thn h1 λitv s2 h2=> ?_) hs;obtain⟨it,fp,tn,J,H2,e,I2,T,st2,f2,W,⟨m0,w0⟩,turn⟩:=h2;subst e;have stat:∀{H':Hp},(∀b∈fp,H' b=none)->∀b∈fp,FpOk X pins H' b:=λhn b hb=>⟨hn b hb,(f2 b hb).2⟩
 refine codeAny_forLoop_any (λn s'=>∃i σ' H',Inv X pins σ' H' s'/\tn i s'.heap/\(∀b∈fp,H' b=none)/\W i n σ' H') ?_ m0 ⟨0,σ,H2,I2,st2,λb hb=>(f2 b hb).1,w0⟩;rintro n s3 ⟨i,σ3,H3,I3,st3,fr3,w3⟩;rcases turn i n σ3 H3 w3 with⟨stop,qn⟩|⟨go,N,hN,step⟩
 ·refine Qe2 hp (thn (T.done X rfl rfl rfl hc i pins s3 σ3 H3 X.xe I3 (stat fr3) st3 stop) λr s4 ⟨hr,I4⟩=> ?_);subst hr;exact wpAny_execs_nil ⟨σ3,H3,I4,qn⟩
 ·refine Qe2 hp (thn (T.item X rfl rfl rfl hc i pins s3 σ3 H3 X.xe I3 (stat fr3) st3 go) λr s4 ⟨u,hr,h4⟩=> ?_);subst hr;refine Qe2 hp (thn h4 λ_ s5 ⟨x,H5,I5,r5,y5,st5,fr5⟩=> ?_);have I5':=I5.pinned (stat fr5) (T.obj _ _ st5);refine Qe2 hp (thn (hg _ s5 σ3 H5 x u _ I5' r5 (step x H5 y5)) λ_ s6 ⟨σ6,H6,I6,q6⟩=> ?_);refine Qe2 hp (thn (hb _ s6 σ6 H6 _ I6 q6) λf s7 q7=> ?_);have again:∀{σ7:St} {H7:Hp},Inv X (pins++Jw fp s5.heap) σ7 H7 s7->N σ7 H7->∃m,m<n/\∃i σ' H',Inv X pins σ' H' s7/\tn i s7.heap/\(∀b∈fp,H' b=none)/\W i m σ' H':=λ{σ7 H7} I7 n7=>by
   obtain⟨m',hm,w7⟩:=hN σ7 H7 n7;refine⟨m',hm,i+1,σ7,H7,I7.unpinned,T.keep _ _ _ st5 λb hb o e=>(I7.pin (b,o) (mem_append_right _ (mem_append_right _ (Es hb e)))).1,λb hb=> ?_,w7⟩;obtain⟨o,e,d⟩:=T.obj _ _ st5 b hb;exact(I7.pin (b,o) (mem_append_right _ (mem_append_right _ (Es hb e)))).2.1
  cases f with
  |next=>obtain⟨σ7,H7,I7,n7⟩:=q7;exact again I7 n7
  |cont=>obtain⟨σ7,H7,I7,n7⟩:=q7;exact again I7 n7
  |brk=>obtain⟨σ7,H7,I7,q7⟩:=q7;exact⟨σ7,H7,I7.unpinned,q7⟩
  |ret v=>obtain⟨x7,σ7,H7,I7,r7,q7⟩:=q7;exact⟨x7,σ7,H7,I7.unpinned,r7,q7⟩
end
theorem J6{K:Frag}{a:Addr}{xs:List V}{g:TG}{tb:TS}{D:Ga}{σ:St}{H:Hp}(Pv:Nat->St->Hp->Prop)(h0:Pv 0 σ H)(hl:∀i σ H,i<=xs.length->Pv i σ H->SqL K H a xs)(hs:∀i x σ H,xs[i]? =some x->Pv i σ H->g x σ H λσ2 H2=>tb {D with nx:=Pv (i+1),ct:=Pv (i+1),bk:=D.nx} σ2 H2)(hd:∀σ H,Pv xs.length σ H->D.nx σ H):
  ∃W:Nat->Nat->St->Hp->Prop,(∃m,W 0 m σ H)/\∀i m σ H,W i m σ H->
   ((Itl K a).stop i H/\D.nx σ H)\/((Itl K a).go i H/\∃N:St->Hp->Prop,(∀σ' H',N σ' H'->∃m',m'<m/\W (i+1) m' σ' H')/\∀x H',(Itl K a).yld i H x H'->g x σ H' λσ2 H2=>tb {D with nx:=N,ct:=N,bk:=D.nx} σ2 H2):=by
 refine⟨λi m σ H=>m=xs.length - i/\i<=xs.length/\Pv i σ H,⟨xs.length,by simp,Qb8 _,h0⟩,?_⟩;rintro i m σ H ⟨rfl,hi,p⟩;have q:=hl i σ H hi p;by_cases hlt:i<xs.length
 ·refine .inr ⟨⟨xs,xs[i],q,by simp[hlt]⟩,Pv (i+1),λσ' H' p'=>⟨xs.length - (i+1),by omega,rfl,hlt,p'⟩,λx H' y=> ?_⟩;obtain⟨e,y⟩:=y;subst e;exact hs i x σ _ (y xs q) p
 ·have e:i=xs.length:=by omega
  subst e;exact .inl ⟨⟨xs,q,le_refl _⟩,hd σ H p⟩
theorem Ex{K:Frag}{a:Addr}{xs:List V}{g:TG}{tb:TS}{D:Ga}{σ:St}{H:Hp}(Pv:Nat->St->Hp->Prop)(h0:Pv 0 σ H)(hl:∀i σ H,i<=xs.length->Pv i σ H->SqT K H a xs)(hs:∀i x σ H,xs[i]? =some x->Pv i σ H->g x σ H λσ2 H2=>tb {D with nx:=Pv (i+1),ct:=Pv (i+1),bk:=D.nx} σ2 H2)(hd:∀σ H,Pv xs.length σ H->D.nx σ H):
  ∃W:Nat->Nat->St->Hp->Prop,(∃m,W 0 m σ H)/\∀i m σ H,W i m σ H->
   ((Itt K a).stop i H/\D.nx σ H)\/((Itt K a).go i H/\∃N:St->Hp->Prop,(∀σ' H',N σ' H'->∃m',m'<m/\W (i+1) m' σ' H')/\∀x H',(Itt K a).yld i H x H'->g x σ H' λσ2 H2=>tb {D with nx:=N,ct:=N,bk:=D.nx} σ2 H2):=by
 refine⟨λi m σ H=>m=xs.length - i/\i<=xs.length/\Pv i σ H,⟨xs.length,by simp,Qb8 _,h0⟩,?_⟩;rintro i m σ H ⟨rfl,hi,p⟩;have q:=hl i σ H hi p;by_cases hlt:i<xs.length
 ·refine .inr ⟨⟨xs,xs[i],q,by simp[hlt]⟩,Pv (i+1),λσ' H' p'=>⟨xs.length - (i+1),by omega,rfl,hlt,p'⟩,λx H' y=> ?_⟩;obtain⟨e,y⟩:=y;subst e;exact hs i x σ _ (y xs q) p
 ·have e:i=xs.length:=by omega
  subst e;exact .inl ⟨⟨xs,q,le_refl _⟩,hd σ H p⟩
theorem Hr{lo:Int}{n:Nat}{g:TG}{tb:TS}{D:Ga}{σ:St}{H:Hp}(Pv:Nat->St->Hp->Prop)(h0:Pv 0 σ H)(hs:∀i σ H,i<n->Pv i σ H->g (.int (lo+i)) σ H λσ2 H2=>tb {D with nx:=Pv (i+1),ct:=Pv (i+1),bk:=D.nx} σ2 H2)(hd:∀σ H,Pv n σ H->D.nx σ H):
  ∃W:Nat->Nat->St->Hp->Prop,(∃m,W 0 m σ H)/\∀i m σ H,W i m σ H->
   ((Itr lo n).stop i H/\D.nx σ H)\/((Itr lo n).go i H/\∃N:St->Hp->Prop,(∀σ' H',N σ' H'->∃m',m'<m/\W (i+1) m' σ' H')/\∀x H',(Itr lo n).yld i H x H'->g x σ H' λσ2 H2=>tb {D with nx:=N,ct:=N,bk:=D.nx} σ2 H2):=by
 refine⟨λi m σ H=>m=n - i/\i<=n/\Pv i σ H,⟨n,by simp,Qb8 _,h0⟩,?_⟩;rintro i m σ H ⟨rfl,hi,p⟩;by_cases hlt:i<n
 ·refine .inr ⟨hlt,Pv (i+1),λσ' H' p'=>⟨n - (i+1),by omega,rfl,hlt,p'⟩,λx H' y=> ?_⟩;obtain⟨e,y⟩:=y;subst e y;exact hs i σ _ hlt p
 ·have e:i=n:=by omega
  subst e;exact .inl ⟨le_refl _,hd σ H p⟩
abbrev R2:=V->V->Hp->VK->Prop
def OpR(X:Cx)(f:Value->Value->Sem Value)(r:R2):Prop:=
 ∀(pins:List (Addr×Obj)) (s:Shared) (σ:St) (H:Hp) (x y:V) (v u:Value) (Q:VK),Inv X pins σ H s->RelV x v->RelV y u->r x y H Q->
  wpAny (model X.prog X.w) X.A (f v u) (EP X pins σ Q) X.xe s
def UnR(X:Cx)(f:Value->Sem Value)(r:V->Hp->VK->Prop):Prop:=
 ∀(pins:List (Addr×Obj)) (s:Shared) (σ:St) (H:Hp) (x:V) (v:Value) (Q:VK),Inv X pins σ H s->RelV x v->r x H Q->
  wpAny (model X.prog X.w) X.A (f v) (EP X pins σ Q) X.xe s
def Dm(X:Cx)(f:Value)(r:List V->Hp->VK->Prop):Prop:=
 ∀(pins:List (Addr×Obj)) (s:Shared) (σ:St) (H:Hp) (xs:List V) (us:List Value) (Q:VK),Inv X pins σ H s->Vals xs us->r xs H Q->
  wpAny (model X.prog X.w) X.A (call f us) (EP X pins σ Q) X.xe s
def TruR(X:Cx)(r:V->Hp->(Bool->Hp->Prop)->Prop):Prop:=
 ∀(pins:List (Addr×Obj)) (s:Shared) (σ:St) (H:Hp) (x:V) (v:Value) (Q:Bool->Hp->Prop),Inv X pins σ H s->RelV x v->r x H Q->
  wpAny (model X.prog X.w) X.A (truthy v) (TP X pins σ Q) X.xe s
def tOp(r:R2)(ta tb:TE):TE:=λσ H Q=>ta σ H λx H1=>tb σ H1 λy H2=>r x y H2 Q
def tUn(r:V->Hp->VK->Prop)(ta:TE):TE:=λσ H Q=>ta σ H λx H1=>r x H1 Q
inductive RIP(C:Int->Int->Prop)(g:Int->Int->V)(x:V)(y:V)(H:Hp)(Q:VK):Prop
 |mk (i j:_):(x= .int i)->(y= .int j)->(C i j)->(Q (g i j) H)->RIP C g x y H Q
def rI(C:Int->Int->Prop)(g:Int->Int->V):R2:=λx y H Q=>RIP C g x y H Q
inductive RI0P(g:Int->Int->V)(x:V)(y:V)(H:Hp)(Q:VK):Prop
 |mk (i j:_):(x= .int i)->(y= .int j)->(Q (g i j) H)->RI0P g x y H Q
def rI0(g:Int->Int->V):R2:=λx y H Q=>RI0P g x y H Q
inductive RUP(g:Int->V)(x:V)(H:Hp)(Q:VK):Prop
 |mk (i:_):(x= .int i)->(Q (g i) H)->RUP g x H Q
def rU(g:Int->V):V->Hp->VK->Prop:=λx H Q=>RUP g x H Q
section
variable{X:Cx}{a b c:Expr}{ta tb tc:TE}{pos:Pos}
theorem binT(ha:PE X a ta)(hb:PE X b tb){pins:List (Addr×Obj)}{s:Shared}{σ:St}{H:Hp}{R:V->V->Hp->Prop}(I:Inv X pins σ H s)(h:ta σ H λx H1=>tb σ H1 λy H2=>R x y H2){Q:Value->Shared->Prop}{f:Value->Value->Sem Value}(hf:∀v u s2 x y H2,Inv X pins σ H2 s2->RelV x v->RelV y u->R x y H2->wpAny (model X.prog X.w) X.A (f v u) Q X.xe s2):
  wpAny (model X.prog X.w) X.A (eval a X.env) (λv s₁=>wpAny (model X.prog X.w) X.A (eval b X.env) (λu s₂=>wpAny (model X.prog X.w) X.A (f v u) Q X.xe s₂) X.xe s₁) X.xe s:=by
 refine thn (ha pins s σ H _ I h) λv s1 ⟨x,H1,I1,r1,q1⟩=> ?_;refine thn (hb pins s1 σ H1 _ I1 q1) λu s2 ⟨y,H2,I2,r2,q2⟩=> ?_;exact hf v u s2 x y H2 I2 r1 r2 q2
theorem A0{op:Operator}{r:R2}(ho:OpR X (binaryOp op) r)(ha:PE X a ta)(hb:PE X b tb):PE X (.BinOp a op b pos) (tOp r ta tb):=by
 intro pins s σ H Q I h;exact wpAny_BinOp (binT ha hb I h λv u s2 x y H2 I2 rx ry q=>ho pins s2 σ H2 x y v u Q I2 rx ry q)
theorem Ki{op:UnaryOp}{r:V->Hp->VK->Prop}(ho:UnR X (unaryOp op) r)(ha:PE X a ta):PE X (.UnaryOp op a pos) (tUn r ta):=by
 intro pins s σ H Q I h;exact UnaryOp_ (thn (ha pins s σ H _ I h) λv s1 ⟨x,H1,I1,r1,q1⟩=>ho pins s1 σ H1 x v Q I1 r1 q1)
theorem opI{f:Value->Value->Sem Value}{C:Int->Int->Prop}{g:Int->Int->Int}(rule:∀(i j:Int) (t u:Tok) (s:Shared) (Q:Value->Shared->Prop) (E:Value->Shared->Prop),C i j->Q (.int (g i j) s.toks) {s with toks:=s.toks+1}->wpAny (model X.prog X.w) X.A (f (.int i t) (.int j u)) Q E s):
  OpR X f (rI C λi j=> .int (g i j)):=by
 intro pins s σ H x y v u Q I rx ry h;obtain⟨i,j,rfl,rfl,hc,q⟩:=h;obtain⟨t,rfl⟩:=rx;obtain⟨t',rfl⟩:=ry;exact rule i j t t' s _ _ hc ⟨.int (g i j),H,I.tok _,⟨_,rfl⟩,q⟩
theorem opI0{f:Value->Value->Sem Value}{g:Int->Int->Int}(rule:∀(i j:Int) (t u:Tok) (s:Shared) (Q:Value->Shared->Prop) (E:Value->Shared->Prop),Q (.int (g i j) s.toks) {s with toks:=s.toks+1}->wpAny (model X.prog X.w) X.A (f (.int i t) (.int j u)) Q E s):
  OpR X f (rI0 λi j=> .int (g i j)):=by
 intro pins s σ H x y v u Q I rx ry h;obtain⟨i,j,rfl,rfl,q⟩:=h;obtain⟨t,rfl⟩:=rx;obtain⟨t',rfl⟩:=ry;exact rule i j t t' s _ _ ⟨.int (g i j),H,I.tok _,⟨_,rfl⟩,q⟩
theorem opB0{f:Value->Value->Sem Value}{g:Int->Int->Bool}(rule:∀(i j:Int) (t u:Tok) (s:Shared) (Q:Value->Shared->Prop) (E:Value->Shared->Prop),Q (.bool (g i j)) s->wpAny (model X.prog X.w) X.A (f (.int i t) (.int j u)) Q E s):
  OpR X f (rI0 λi j=> .bl (g i j)):=by
 intro pins s σ H x y v u Q I rx ry h;obtain⟨i,j,rfl,rfl,q⟩:=h;obtain⟨t,rfl⟩:=rx;obtain⟨t',rfl⟩:=ry;exact rule i j t t' s _ _ ⟨.bl (g i j),H,I,rfl,q⟩
def CDiv(i j:Int):Prop:=0<j/\j<1073741824
def CPow(i j:Int):Prop:=0<=j/\j<=1000000/\i.natAbs<2 ^ 64
def CMul(i j:Int):Prop:=(-(2 ^ 64)<i/\i<2 ^ 64)\/(-(2 ^ 64)<j/\j<2 ^ 64)
theorem CMul.ok{i j:Int}(h:CMul i j):IntMulOk i j:=by
 rcases h with⟨h1,h2⟩|⟨h1,h2⟩
 ·exact .of_left (intBits_le_64 h1 h2)
 ·exact .of_right (intBits_le_64 h1 h2)
theorem Bo:OpR X (binaryOp .Add) (rI0 λi j=> .int (i+j)):=opI0 λ_ _ _ _ _ _ _ q=>add_int q
theorem P4:OpR X (binaryOp .Sub) (rI0 λi j=> .int (i - j)):=opI0 λ_ _ _ _ _ _ _ q=>sub_int q
theorem D8:OpR X (binaryOp .Mult) (rI CMul λi j=> .int (i * j)):=opI λ_ _ _ _ _ _ _ hc q=>mul_int q hc.ok
theorem Ja:OpR X (binaryOp .FloorDiv) (rI CDiv λi j=> .int (i / j)):=opI λi j _ _ _ _ _ hc q=>by
 have h1:(0:Int)<j:=hc.1;have h2:j<1073741824:=hc.2;exact floordiv_int (by omega) (by rw[Int.fdiv_eq_ediv_of_nonneg i (by omega)];exact q) (.inl (PyProof.noPylong_small (by omega)))
theorem Dh:OpR X (binaryOp .Mod) (rI (λ_ j=>0<j) λi j=> .int (i % j)):=opI λi j _ _ _ _ _ hc q=>by
 have h1:(0:Int)<j:=hc;exact mod_int' (by omega) (by rw[Int.fmod_eq_emod_of_nonneg i (by omega)];exact q)
theorem Hj:OpR X (binaryOp .Pow) (rI CPow λi j=> .int (i ^ j.toNat)):=opI λ_ _ _ _ _ _ _ hc q=>pow_int_small hc.1 hc.2.1 hc.2.2 q
theorem unI{f:Value->Sem Value}{g:Int->Int}(rule:∀(i:Int) (t:Tok) (s:Shared) (Q:Value->Shared->Prop) (E:Value->Shared->Prop),Q (.int (g i) s.toks) {s with toks:=s.toks+1}->wpAny (model X.prog X.w) X.A (f (.int i t)) Q E s):
  UnR X f (rU λi=> .int (g i)):=by
 intro pins s σ H x v Q I rx h;obtain⟨i,rfl,q⟩:=h;obtain⟨t,rfl⟩:=rx;exact rule i t s _ _ ⟨.int (g i),H,I.tok _,⟨_,rfl⟩,q⟩
theorem Fy:UnR X (unaryOp .USub) (rU λi=> .int (-i)):=unI λ_ _ _ _ _ q=>neg_int q
end
def scal:V->V->Bool
 | .non,.non=>true| .non,.int _=>true| .int _,.non=>true| .non,.bl _=>true| .bl _,.non=>true| .non,.str _=>true| .str _,.non=>true
 | .int _,.int _=>true| .bl _,.bl _=>true| .str _,.str _=>true| .byt _,.byt _=>true
 | .int _,.str _=>true| .str _,.int _=>true| .bl _,.str _=>true| .str _,.bl _=>true
 |_,_=>false
def rEq:R2:=λx y H Q=>scal x y=true/\Q (.bl (decide (x=y))) H
def rNe:R2:=λx y H Q=>scal x y=true/\Q (.bl (!decide (x=y))) H
theorem Rh{i j:Int}:decide (V.int i=V.int j)=(i==j):=by
 rw[Bool.eq_iff_iff];simp
theorem Wu{i j:Bool}:decide (V.bl i=V.bl j)=(i==j):=by
 rw[Bool.eq_iff_iff];simp
theorem Rj{i j:Str}:decide (V.str i=V.str j)=(i==j):=by
 rw[Bool.eq_iff_iff];simp
theorem Rr{i j:Array UInt8}:decide (V.byt i=V.byt j)=(i.toList==j.toList):=by
 rw[Bool.eq_iff_iff];cases i;cases j;simp
section
variable{X:Cx}{a b c:Expr}{ta tb tc:TE}{pos:Pos}
theorem Bb{pins:List (Addr×Obj)}{σ:St}{H:Hp}{s:Shared}{Q:VK}{k k':Bool}(I:Inv X pins σ H s)(q:Q (.bl k) H)(e:k=k'):EP X pins σ Q (.bool k') s:=by
 subst e;exact⟨.bl k,H,I,rfl,q⟩
theorem Bl:OpR X (compareOp .Eq) rEq:=by
 intro pins s σ H x y v u Q I rx ry h;obtain⟨hs,q⟩:=h;cases x with
 |non=>
  cases rx;cases y with
  |non=>cases ry;exact PySem.EqNone.eq_none_none (Bb I q (by simp))
  |bl j=>cases ry;exact PySem.EqNone.eq_none_bool (Bb I q (by simp))
  |int j=>obtain⟨t',rfl⟩:=ry;exact PySem.EqNone.eq_none_int (Bb I q (by simp))
  |str j=>obtain⟨t',rfl⟩:=ry;exact PySem.EqNone.eq_none_str (Bb I q (by simp))
  |_=>exact absurd (show false=true from hs) Bool.false_ne_true
 |bl i=>
  cases rx;cases y with
  |non=>cases ry;exact PySem.EqNone.eq_bool_none (Bb I q (by simp))
  |bl j=>cases ry;exact eq_bool (Bb I q Wu)
  |str j=>obtain⟨t',rfl⟩:=ry;exact PySem.EqMixed.eq_bool_str (Bb I q (by simp))
  |_=>exact absurd (show false=true from hs) Bool.false_ne_true
 |int i=>
  obtain⟨t,rfl⟩:=rx;cases y with
  |non=>cases ry;exact PySem.EqNone.eq_int_none (Bb I q (by simp))
  |int j=>obtain⟨t',rfl⟩:=ry;exact eq_int (Bb I q Rh)
  |str j=>obtain⟨t',rfl⟩:=ry;exact PySem.EqMixed.eq_int_str (Bb I q (by simp))
  |_=>exact absurd (show false=true from hs) Bool.false_ne_true
 |str i=>
  obtain⟨t,rfl⟩:=rx;cases y with
  |non=>cases ry;exact PySem.EqNone.eq_str_none (Bb I q (by simp))
  |bl j=>cases ry;exact PySem.EqMixed.eq_str_bool (Bb I q (by simp))
  |int j=>obtain⟨t',rfl⟩:=ry;exact PySem.EqMixed.eq_str_int (Bb I q (by simp))
  |str j=>obtain⟨t',rfl⟩:=ry;exact eq_str (Bb I q Rj)
  |_=>exact absurd (show false=true from hs) Bool.false_ne_true
 |byt i=>
  obtain⟨t,rfl⟩:=rx;cases y with
  |byt j=>obtain⟨t',rfl⟩:=ry;exact PySem.W.eq_bytes (Bb I q Rr)
  |_=>exact absurd (show false=true from hs) Bool.false_ne_true
 |_=>cases y<;> exact absurd (show false=true from hs) Bool.false_ne_true
theorem Sj:OpR X (compareOp .NotEq) rNe:=by
 intro pins s σ H x y v u Q I rx ry h;obtain⟨hs,q⟩:=h;cases x with
 |non=>
  cases rx;cases y with
  |non=>cases ry;exact PySem.EqNone.ne_none_none (Bb I q (by simp))
  |bl j=>cases ry;exact PySem.EqNone.ne_none_bool (Bb I q (by simp))
  |int j=>obtain⟨t',rfl⟩:=ry;exact PySem.EqNone.ne_none_int (Bb I q (by simp))
  |str j=>obtain⟨t',rfl⟩:=ry;exact PySem.EqNone.ne_none_str (Bb I q (by simp))
  |_=>exact absurd (show false=true from hs) Bool.false_ne_true
 |bl i=>
  cases rx;cases y with
  |non=>cases ry;exact PySem.EqNone.ne_bool_none (Bb I q (by simp))
  |bl j=>cases ry;exact ne_bool (Bb I q (Qd1 not Wu))
  |str j=>obtain⟨t',rfl⟩:=ry;exact PySem.EqMixed.ne_bool_str (Bb I q (by simp))
  |_=>exact absurd (show false=true from hs) Bool.false_ne_true
 |int i=>
  obtain⟨t,rfl⟩:=rx;cases y with
  |non=>cases ry;exact PySem.EqNone.ne_int_none (Bb I q (by simp))
  |int j=>obtain⟨t',rfl⟩:=ry;exact ne_int (Bb I q (Qd1 not Rh))
  |str j=>obtain⟨t',rfl⟩:=ry;exact PySem.EqMixed.ne_int_str (Bb I q (by simp))
  |_=>exact absurd (show false=true from hs) Bool.false_ne_true
 |str i=>
  obtain⟨t,rfl⟩:=rx;cases y with
  |non=>cases ry;exact PySem.EqNone.ne_str_none (Bb I q (by simp))
  |bl j=>cases ry;exact PySem.EqMixed.ne_str_bool (Bb I q (by simp))
  |int j=>obtain⟨t',rfl⟩:=ry;exact PySem.EqMixed.ne_str_int (Bb I q (by simp))
  |str j=>obtain⟨t',rfl⟩:=ry;exact ne_str (Bb I q (Qd1 not Rj))
  |_=>exact absurd (show false=true from hs) Bool.false_ne_true
 |byt i=>
  obtain⟨t,rfl⟩:=rx;cases y with
  |byt j=>obtain⟨t',rfl⟩:=ry;exact PySem.W.ne_bytes (Bb I q (Qd1 not Rr))
  |_=>exact absurd (show false=true from hs) Bool.false_ne_true
 |_=>cases y<;> exact absurd (show false=true from hs) Bool.false_ne_true
theorem R9:OpR X (compareOp .Lt) (rI0 λi j=> .bl (decide (i<j))):=opB0 λ_ _ _ _ _ _ _ q=>lt_int q
theorem Ny:OpR X (compareOp .Gt) (rI0 λi j=> .bl (decide (j<i))):=opB0 λ_ _ _ _ _ _ _ q=>gt_int q
theorem Xl:OpR X (compareOp .GtE) (rI0 λi j=> .bl (decide (j<=i))):=opB0 λ_ _ _ _ _ _ _ q=>ge_int q
theorem Uf:OpR X (compareOp .Lt) (λx y H Q=>∃i j,x= .str i/\y= .str j/\Q (.bl (decide (i.cps.toList<j.cps.toList))) H):=by
 intro pins s σ H x y v u Q I rx ry h;obtain⟨i,j,rfl,rfl,q⟩:=h;obtain⟨t,rfl⟩:=rx;obtain⟨t',rfl⟩:=ry;exact lt_str (Bb I q rfl)
theorem Dj:OpR X (compareOp .Is) (λx y H Q=>y= .non/\Q (.bl (decide (x= .non))) H):=by
 intro pins s σ H x y v u Q I rx ry h;obtain⟨rfl,q⟩:=h;cases ry;refine is_none_gen (Bb I q ?_);cases x<;> first
  |(cases rx;rfl)
  |(obtain⟨t,rfl⟩:=rx;rfl)
theorem R7:OpR X (compareOp .IsNot) (λx y H Q=>y= .non/\Q (.bl (!decide (x= .non))) H):=by
 intro pins s σ H x y v u Q I rx ry h;obtain⟨rfl,q⟩:=h;cases ry;refine isnot_none_gen (Bb I q ?_);cases x<;> first
  |(cases rx;rfl)
  |(obtain⟨t,rfl⟩:=rx;rfl)
theorem Ar(b:Expr){op:CmpOp}(h:op≠ .In:=by decide)(h2:op≠ .NotIn:=by decide):behindInMarks op b=false:=by
 have e1:(op==CmpOp.In)=false:=by cases op<;> first|rfl|exact absurd rfl h
 have e2:(op==CmpOp.NotIn)=false:=by cases op<;> first|rfl|exact absurd rfl h2
 cases b<;> simp[behindInMarks,e1,e2]
theorem Bg{op:CmpOp}{r:R2}(ho:OpR X (compareOp op) r)(ha:PE X a ta)(hb:PE X b tb)(hm:behindInMarks op b=false):PE X (.Compare a [op] [b] pos) (tOp r ta tb):=by
 intro pins s σ H Q I h;exact wpAny_Compare1 (binT ha hb I h λv u s2 x y H2 I2 rx ry q=>ho pins s2 σ H2 x y v u Q I2 rx ry q) hm
def tTest(t:TE):TT:=λσ H Q=>t σ H λx H'=>BlP x H' Q
theorem As{op:CmpOp}{r:R2}(ho:OpR X (compareOp op) r)(ha:PE X a ta)(hb:PE X b tb)(hm:behindInMarks op b=false):PT X (.Compare a [op] [b] pos) (tTest (tOp r ta tb)):=by
 intro pins s σ H Q I h;refine wpAny_isTrue_Compare1 (thn (ha pins s σ H _ I h) λv s1 ⟨x,H1,I1,r1,q1⟩=>thn (hb pins s1 σ H1 _ I1 q1) λu s2 ⟨y,H2,I2,r2,q2⟩=>
  thn (ho pins s2 σ H2 x y v u _ I2 r1 r2 q2) λc s3 ⟨z,H3,I3,r3,k,e,q3⟩=> ?_) hm
 subst e;cases r3;exact Qf1 ⟨H3,I3,q3⟩
def TruV(K:Frag)(x:V)(H:Hp)(k:Bool):Prop:=
 match x with
 | .non=>k=false
 | .bl b=>k=b
 | .int i=>k=(i !=0)
 | .str y=>y.length<=sizeLine/\k=((y.length:Int) !=0)
 | .byt y=>y.size<=sizeLine/\k=((y.size:Int) !=0)
 | .ref p=>(∃xs,SqL K H p xs/\k= !xs.isEmpty)\/(∃xs,SqT K H p xs/\k= !xs.isEmpty)\/∃kvs,H p=some (.dK kvs)/\k= !kvs.isEmpty
 |_=>False
theorem Pk{κ:Type}{kvs:List (κ×V)}{vs:List (κ×Value)}(r:KV kvs vs):(!vs.isEmpty)= !kvs.isEmpty:=by
 cases r<;> rfl
theorem Kq{xs:List V}{its:List Value}(r:Vals xs its):(!its.toArray.isEmpty)= !xs.isEmpty:=by
 cases r<;> simp
theorem Ht:(sizeLine:Nat)<2 ^ 63:=by rw[Qc5];decide
theorem tru_ok:TruR X (λx H Q=>∃k,TruV X.K x H k/\Q k H):=by
 intro pins s σ H x v Q I rx h;obtain⟨k,e,q⟩:=h;have hl:=Ht;have hs:sizeLine=16777216:=Qc5;cases x with
 |non=>
  cases rx;have e':k=false:=e;subst e';exact truthy_none ⟨H,I,q⟩
 |bl b=>
  cases rx;have e':k=b:=e;subst e';exact Qf1 ⟨H,I,q⟩
 |int i=>
  obtain⟨t,rfl⟩:=rx;have e':k=(i !=0):=e;subst e';exact PySem.P.truthy_int ⟨H,I,q⟩
 |str y=>
  obtain⟨t,rfl⟩:=rx;obtain⟨hy,e'⟩:y.length<=sizeLine/\k=((y.length:Int) !=0):=e;subst e';exact PySem.P.truthy_str (by omega) ⟨H,I.tok _,q⟩
 |byt y=>
  obtain⟨t,rfl⟩:=rx;obtain⟨hy,e'⟩:y.size<=sizeLine/\k=((y.size:Int) !=0):=e;subst e';exact PySem.W.truthy_bytes (by exact le_trans (by assumption) (by decide)) ⟨H,I.tok _,q⟩
 |ref p=>
  cases rx;have e':(∃xs,SqL X.K H p xs/\k= !xs.isEmpty)\/(∃xs,SqT X.K H p xs/\k= !xs.isEmpty)\/∃kvs,H p=some (.dK kvs)/\k= !kvs.isEmpty:=e;rcases e' with⟨xs,hx,e'⟩|⟨xs,hx,e'⟩|⟨kvs,hx,e'⟩
  ·subst e';obtain⟨its,r,pl,hz⟩:=I.list hx;have hlen:=r.length;exact wpAny_truthy_list pl.isList (by simp only[size_toArray];omega) ⟨H,I.tok _,by rw[Kq r];exact q⟩
  ·subst e';obtain⟨its,r,pl,hz⟩:=I.tuple hx;have hlen:=r.length;exact truthy_tuple pl (by simp only[size_toArray];omega) ⟨H,I.tok _,by rw[Kq r];exact q⟩
  ·subst e';obtain⟨hz,hS,vs,r,m⟩:kvs.length<=sizeLine/\(p==sysModules)=false/\∃vs,KV kvs vs/\s.heap.DictOf (Bm X.prog X.w) p vs:=I.hok p _ hx;have hlen:kvs.length=vs.length:=Paired.length r;exact wpAny_truthy_dict hS m (by omega) ⟨H,I.tok _,by rw[Pk r];exact q⟩
 |_=>exact(show False from e).elim
theorem Nu(ha:PE X a ta)(he:∀whole,isTrue a X.env whole=(do let v <-whole;standAt a.pos;holding [v] (truthy v))):
  PT X a (λσ H Q=>ta σ H λx H'=>∃k,TruV X.K x H' k/\Q k H'):=by
 intro pins s σ H Q I h;exact isTrue_plain (thn (ha pins s σ H _ I h) λv s1 ⟨x,H1,I1,r1,q1⟩=>tru_ok pins s1 σ H1 x v Q I1 r1 q1) (he _)
theorem J1:OpR X (binaryOp .Add) (λx y H Q=>∃i j,x= .str i/\y= .str j/\i.length+j.length<=sizeLine/\Q (.str (i++j)) H):=by
 intro pins s σ H x y v u Q I rx ry h;obtain⟨i,j,rfl,rfl,hz,q⟩:=h;obtain⟨t,rfl⟩:=rx;obtain⟨t',rfl⟩:=ry;exact add_str (λt' tk=>⟨.str (i++j),H,I.tok _,⟨_,rfl⟩,q⟩) hz
theorem Dw{x:V}{us:List Value}(r:Vals [x] us):∃u,us=[u]/\RelV x u:=by
 cases r with
 |cons r1 r2=>cases r2;exact⟨_,rfl,r1⟩
theorem R3{x y:V}{us:List Value}(r:Vals [x,y] us):∃u w',us=[u,w']/\RelV x u/\RelV y w':=by
 cases r with
 |cons r1 r2=>
  cases r2 with
  |cons r3 r4=>cases r4;exact⟨_,_,rfl,r1,r3⟩
theorem Tl(hc:X.calm=true):Dm X (.builtin "max") (λxs H Q=>∃i j,xs=[.int i,.int j]/\Q (.int (if j > i then j else i)) H):=by
 intro pins s σ H xs us Q I r h;obtain⟨i,j,rfl,q⟩:=h;obtain⟨u,w',rfl,⟨t,rfl⟩,⟨t',rfl⟩⟩:=R3 r;refine max_two_ints (I.ok.hd hc) λh' tk k=>⟨_,H,I.kept k,?_,q⟩
 by_cases hj:j > i
 ·rw[Qa3 hj,Qa3 hj];exact⟨_,rfl⟩
 ·rw[Qa2 hj,Qa2 hj];exact⟨_,rfl⟩
theorem Lh(hc:X.calm=true):Dm X (.builtin "min") (λxs H Q=>∃i j,xs=[.int i,.int j]/\Q (.int (if j<i then j else i)) H):=by
 intro pins s σ H xs us Q I r h;obtain⟨i,j,rfl,q⟩:=h;obtain⟨u,w',rfl,⟨t,rfl⟩,⟨t',rfl⟩⟩:=R3 r;refine min_two_ints (I.ok.hd hc) λh' tk k=>⟨_,H,I.kept k,?_,q⟩
 by_cases hj:j<i
 ·rw[Qa3 hj,Qa3 hj];exact⟨_,rfl⟩
 ·rw[Qa2 hj,Qa2 hj];exact⟨_,rfl⟩
theorem Dr:Dm X (.type "int") (λxs H Q=>(∃i,xs=[.int i]/\Q (.int i) H)\/∃k,xs=[.bl k]/\Q (.int (if k then 1 else 0)) H):=by
 intro pins s σ H xs us Q I r h;rcases h with⟨i,rfl,q⟩|⟨k,rfl,q⟩
 ·obtain⟨u,rfl,t,rfl⟩:=Dw r;exact call_int_int ⟨.int i,H,I,⟨_,rfl⟩,q⟩
 ·obtain⟨u,rfl,r1⟩:=Dw r;cases r1;exact call_int_bool ⟨.int (if k then 1 else 0),H,I.tok _,⟨_,rfl⟩,q⟩
end
structure ObjM(h:Heap)(x dx C:Addr)(mA:Str->Option Value):Prop where
 obj:h.get? x=some (instObj C dx)
 ns:h.Ns1 dx mA
 ne:dx≠x
theorem Uc{h:Heap}{dx:Addr}{mA:Str->Option Value}(n:h.Ns1 dx mA):∃od,h.get? dx=some od/\∀name,lookIn name od=some (mA name):=by
 obtain⟨o,es,ep,ho,hd,hk,_,hm⟩:=n;refine⟨o,ho,λname=> ?_⟩;have e:=hm name;unfold nsFind findBy at e;rw[<-Array.find?_toList] at e;unfold lookIn;rw[hd];dsimp only;split
 ·rename_i y q;rw[q] at e;exact Qd1 some e
 ·rename_i q;rw[q] at e;have a:es.toList.any (·.refKey)=false:=by
   rw[List.any_eq_false];intro y hy;obtain⟨z,t,hkey⟩:=hk y (Array.mem_toList_iff.mp hy);simp[DictEntry.refKey,hkey]
  have a':¬es.toList.any (·.refKey)=true:=by rw[a];exact Bool.false_ne_true
  rw[Qa2 a'];exact Qd1 some e
theorem ObjM.look{h:Heap}{x dx C:Addr}{mA:Str->Option Value}(I:ObjM h x dx C mA):∃od,PySem.W.InstAt h x (instObj C dx) C (some od)/\∀name,lookIn name od=some (mA name):=
 let ⟨od,ho,hl⟩:=Uc I.ns
 ⟨od,⟨I.obj,rfl,rfl,ho⟩,hl⟩
theorem RelO.some_of{v:V}{o:Option Value}(r:RelO (some v) o):∃u,o=some u/\RelV v u:=by
 cases o with
 |none=>exact(show False from r).elim
 |some u=>exact⟨u,rfl,r⟩
section
variable{P:Program}{w:World}{H H':Hp}{h h':Heap}{a C dx:Addr}{fs fs':List (Str×V)}
theorem Yx(hok:HOk P w H h)(e:H a=some (.ins C dx fs)):∃mA,ObjM h a dx C mA/\(∀f,RelO (fs.lookup f) (mA f))/\PySem.Within mA (fs.map (·.1))/\fs.length<=1000/\H dx=some (.own a):=by
 obtain⟨d,z,ne,ob,mA,n,r,q⟩:=(show ObjOk P w H h a (.ins C dx fs) from hok a _ e)
 exact⟨mA,⟨ob,n,ne⟩,r,q,z,d⟩
end
structure Cls(K:Frag)(C:Addr):Prop where
 pg:plainGet K C Str.empty=true
 hd:PySem.W.hasDictIn K C=true
 po:PySem.W.plainOver K C=true
 sa:findIn K (.ref C) "__setattr__"=some (some (.builtin "object.__setattr__"))
theorem Cls.get{K:Frag}{C:Addr}(c:Cls K C)(f:Str):plainGet K C f=true:=c.pg
section
variable{X:Cx}{pins:List (Addr×Obj)}{σ:St}{H:Hp}{s:Shared}{A:Around}{E:Value->Shared->Prop}{Q:Value->Shared->Prop}{c:Value}{b:Bool}
inductive Hm(K:Frag)(H:Hp):V->Value->Prop where
 |non:Hm K H .non (.type "NoneType")
 |bl (x:Bool):Hm K H (.bl x) (.type "bool")
 |int (i:Int):Hm K H (.int i) (.type "int")
 |str (x:Str):Hm K H (.str x) (.type "str")
 |flt (x:UInt64):Hm K H (.flt x) (.type "float")
 |lst {a:Addr} {xs:List V} (e:H a=some (.lst xs)):Hm K H (.ref a) (.type "list")
 |frz {a:Addr} {o:Obj} {xs:List V} (e:H a=some (.frz o (.lst xs))):Hm K H (.ref a) (.type "list")
 |tup {a:Addr} {xs:List V} (e:H a=some (.tup xs)):Hm K H (.ref a) (.type "tuple")
 |dK {a:Addr} {kvs:List (Key×V)} (e:H a=some (.dK kvs)):Hm K H (.ref a) (.type "dict")
 |dT {a:Addr} {kvs:List (List Key×V)} (e:H a=some (.dT kvs)):Hm K H (.ref a) (.type "dict")
 |ins {a C dx:Addr} {fs:List (Str×V)} (e:H a=some (.ins C dx fs)) (cl:Cls K C) (ha:findIn K (.ref C) "__class__"=some (some (.builtin "object.__class__")))
  (hn:PySem.W.specialIn K (.builtin "object.__class__") "__get__"=some (some (.builtin "getset_descriptor.__get__"))) (htk:PySem.W.takesIn K (.builtin "object.__class__")=some true)
  (hm:PySem.W.mroIn K C (.type "object")=some true):Hm K H (.ref a) (.ref C)
theorem Te{x:V}{u t:Value}(I:Inv X pins σ H s)(rx:RelV x u)(ty:Hm X.K H x t)(e:kitOne X.K t c=some b)(h:∀tk,Q (.bool b) {s with toks:=tk}):
  wpAny (model X.prog X.w) A (call (.builtin "isinstance") [u,c]) Q E s:=by
 cases ty with
 |non=>cases (show u=Value.none from rx);exact kia_one kitx_none I.kIn True.intro e (λz=>nomatch z) h
 |bl y=>cases (show u=Value.bool y from rx);exact kia_one kitx_bool I.kIn True.intro e (λz=>nomatch z) h
 |int i=>obtain⟨t,q⟩:=(show ∃t,u=Value.int i t from rx);cases q;exact kia_one kitx_int I.kIn True.intro e (λz=>nomatch z) h
 |str y=>obtain⟨t,q⟩:=(show ∃t,u=Value.str y t from rx);cases q;exact kia_one kitx_str I.kIn True.intro e (λz=>nomatch z) h
 |flt y=>obtain⟨t,q⟩:=(show ∃t,u=Value.float y t from rx);cases q;exact kia_one PySem.W.kitx_float I.kIn True.intro e (λz=>nomatch z) h
 | @lst a xs ea=>
  cases (show u=Value.ref a from rx);obtain⟨_,_,n,_,h1⟩:=(show ObjOk X.prog X.w H s.heap a (.lst xs) from I.hok a _ ea)
  exact kia_one kitx_list I.kIn ⟨_,h1,rfl⟩ e (λz=>nomatch z) h
 | @frz a ob xs ea=>
  cases (show u=Value.ref a from rx);obtain⟨_,_,_,n,_,h1⟩:=(show ObjOk X.prog X.w H s.heap a (.frz ob (.lst xs)) from I.hok a _ ea)
  exact kia_one kitx_list I.kIn ⟨_,h1,rfl⟩ e (λz=>nomatch z) h
 | @tup a xs ea=>
  cases (show u=Value.ref a from rx);obtain⟨_,_,_,p⟩:=(show ObjOk X.prog X.w H s.heap a (.tup xs) from I.hok a _ ea)
  obtain⟨o,h1,h2,_⟩:=p;exact kia_one PySem.W.kitx_tuple I.kIn ⟨o,h1,h2⟩ e (λz=>nomatch z) h
 | @dK a kvs ea=>
  cases (show u=Value.ref a from rx);obtain⟨_,_,vs,_,p⟩:=(show ObjOk X.prog X.w H s.heap a (.dK kvs) from I.hok a _ ea)
  obtain⟨o,es,ep,h1,h2,_⟩:=p;exact kia_one kitx_dict I.kIn ⟨o,h1,h2.1⟩ e (λz=>nomatch z) h
 | @dT a kvs ea=>
  cases (show u=Value.ref a from rx);obtain⟨_,_,xs,_,o,es,ep,h1,h2,_⟩:=(show ObjOk X.prog X.w H s.heap a (.dT kvs) from I.hok a _ ea)
  exact kia_one kitx_dict I.kIn ⟨o,h1,h2.1⟩ e (λz=>nomatch z) h
 | @ins a C dx fs ea cl ha hn htk hm=>
  cases (show u=Value.ref a from rx);obtain⟨mA,O,_⟩:=Yx I.hok ea;obtain⟨od,J,_⟩:=O.look;exact kia_one (PySem.W.kitx_own (cl.get _) cl.hd ha hn htk hm) I.kIn J e (λz=>nomatch z) h
end
structure Room(k:Nat)(A:Around):Prop where
 hd:A.handled=none
 dp:A.depth+3 * k+5<recursionLimit
 un:A.units+16 * k+200<cLine
 gd:A.guards=some []
theorem Room.mono{j k:Nat}{A:Around}(r:Room k A)(h:j<=k):Room j A:=⟨r.hd,by have:=r.dp;omega,by have:=r.un;omega,r.gd⟩
theorem Room.deeper{k:Nat}{A:Around}(r:Room (k+1) A)(env:Env):Room k (A.deeper env):=
 ⟨r.hd,by have:=r.dp;show A.depth+1+3 * k+5<_;omega,by have:=r.un;show A.units+3+16 * k+200<_;omega,by show pushGuards [] A.guards=some [];rw[r.gd];rfl⟩
theorem Room.depth{k:Nat}{A:Around}(r:Room k A):A.depth<recursionLimit:=by have:=r.dp;omega
theorem Room.units{k:Nat}{A:Around}(r:Room k A):A.units+64<cLine:=by have:=r.un;omega
def tNil:TA:=λ_ H Q=>Q [] H
def Nt(ta:TE)(tr:TA):TA:=λσ H Q=>ta σ H λx H1=>tr σ H1 λxs H2=>Q (x::xs) H2
section
variable{X:Cx}{e:Expr}{es:List Expr}{te:TE}{t:TA}{pos:Pos}
theorem Ad:PA X [] tNil:=λ_ _ _ _ H Q I h=>Calls.spliced_nil ⟨[],H,I,.nil,h⟩
theorem Aa(ha:PE X e te)(hr:PA X es t)(hs:starEach (e::es) X.env=(false,eval e X.env)::starEach es X.env:=by rfl):PA X (e::es) (Nt te t):=by
 intro pos pins s σ H Q I h;rw[hs];show wpAny _ _ (spliced ((false,eval e X.env)::backTo pos (starEach es X.env))) _ _ s;refine Calls.spliced_cons (thn (ha pins s σ H _ I h) λu s1 ⟨x,H1,I1,r1,q1⟩=> ?_);exact thn (hr pos pins s1 σ H1 _ I1 q1) λus s2 ⟨xs,H2,I2,r2,q2⟩=>⟨x::xs,H2,I2,.cons r1 r2,q2⟩
def tTup(t:TA):TE:=λσ H Q=>t σ H λxs H1=>xs.length<=sizeLine/\∀p,H1 p=none->Q (.ref p) (upd H1 p (.tup xs))
def tLst(t:TA):TE:=λσ H Q=>t σ H λxs H1=>xs.length<=sizeLine/\∀p,H1 p=none->Q (.ref p) (upd H1 p (.lst xs))
theorem A5{x1}(h:PA X es t):PE X (.Tuple es x1 pos) (tTup t):=by
 intro pins s σ H Q I hq;refine wpAny_Tuple_spliced (thn (h pos pins s σ H _ I hq) λus s1 ⟨xs,H1,I1,r,z,q⟩=>⟨by rw[<-r.length];exact z,?_⟩);have hf:H1 s1.heap.objs.size=none:=I1.hok.fresh (le_refl _);refine⟨.ref s1.heap.objs.size,upd H1 s1.heap.objs.size (.tup xs),I1.laid (t':=s1.toks) (λb u e=>Lt _ e) (le_refl _) ?_,rfl,q _ hf⟩;exact⟨z,us,r,IsTupN.new _ _⟩
theorem Bq(h:PA X es t):PE X (.List es pos) (tLst t):=by
 intro pins s σ H Q I hq;refine wpAny_List_spliced (thn (h pos pins s σ H _ I hq) λus s1 ⟨xs,H1,I1,r,z,q⟩=>⟨by rw[<-r.length];exact z,?_⟩);have hf:H1 s1.heap.objs.size=none:=I1.hok.fresh (le_refl _);refine⟨.ref s1.heap.objs.size,upd H1 s1.heap.objs.size (.lst xs),I1.laid (t':=s1.toks) (λb u e=>Lt _ e) (le_refl _) ?_,rfl,q _ hf⟩;exact⟨z,us,0,r,Qa7 _ rfl⟩
end
abbrev Sp:=List V->Hp->VK->XK->Prop
abbrev CXT:=List Env->Hp->Shared->XK->Value->Shared->Prop
structure Zh(P:Program)(w:World)(K:Frag)(mg:Str->Option Value)(base:Heap)(A:Around)(outer:List Env)(s:Shared)(H:Hp):Prop where
 frames:A.frames=some outer
 mod:Mod K mg base
 bs:∀b o,base.get? b=some o->s.heap.get? b=some o/\H b=none
 bsz:base.objs.size<=s.heap.objs.size
 funs:s.heap.FunFrames base outer
 frf:∀b∈frs outer,H b=none
 hok:HOk P w H s.heap
 bare:AllBare s.gens
def CE(outer:List Env)(P:Program)(w:World)(H:Hp)(s:Shared)(Q:VK)(u:Value)(s':Shared):Prop:=
 ∃v H',s'.os=s.os/\AllBare s'.gens/\Un (frs outer) [] H H' s.heap s'.heap/\HOk P w H' s'.heap/\RelV v u/\Q v H'
def CR(CX:CXT)(outer:List Env)(P:Program)(w:World)(H:Hp)(s:Shared)(Q:VK)(E:XK)(r:Result)(s':Shared):Prop:=
 match r with
 | .ok (.ret u)=>CE outer P w H s Q u s'
 | .ok _=>False
 | .error e=>CX outer H s E e s'
structure FnOk(P:Program)(w:World)(K:Frag)(mg:Str->Option Value)(base:Heap)(CX:CXT)(k:Nat)(f:Addr)(fd:FuncData)(ps:List Str)(sp:Sp):Prop where
 len:∀vs H Q E,sp vs H Q E->vs.length=ps.length
 run:∀(A:Around) (outer:List Env) (s:Shared) (H:Hp) (args:Args) (us:List Value) (vs:List V) (Q:VK) (E:XK),Room k A->Zh P w K mg base A outer s H->BindsTo s fd args (ps.zip us)->Vals vs us->sp vs H Q E->
  codeAny (model P w) A (.call (.ref f) args) (CR CX outer P w H s Q E) s
theorem FnOk.mono{P:Program}{w:World}{K:Frag}{mg:Str->Option Value}{base:Heap}{CX:CXT}{j k:Nat}{f:Addr}{fd:FuncData}{ps:List Str}{sp:Sp}(F:FnOk P w K mg base CX j f fd ps sp)(h:j<=k):
  FnOk P w K mg base CX k f fd ps sp:=⟨F.len,λA outer s H args us vs Q E hr=>F.run A outer s H args us vs Q E (hr.mono h)⟩
theorem FnOk.imp{P:Program}{w:World}{K:Frag}{mg:Str->Option Value}{base:Heap}{CX:CXT}{k:Nat}{f:Addr}{fd:FuncData}{ps:List Str}{sp sp':Sp}(F:FnOk P w K mg base CX k f fd ps sp)(h:∀vs H Q E,sp' vs H Q E->sp vs H Q E):FnOk P w K mg base CX k f fd ps sp':=
 ⟨λvs H Q E q=>F.len vs H Q E (h _ _ _ _ q),λA outer s H args us vs Q E hr he hb hv hs=>F.run A outer s H args us vs Q E hr he hb hv (h _ _ _ _ hs)⟩
section
variable{X:Cx}{pins:List (Addr×Obj)}{σ:St}{H:Hp}{s s':Shared}
theorem Inv.env0(I:Inv X pins σ H s):Zh X.prog X.w X.K X.mg X.base X.A X.stack s H:=
 ⟨I.ok.frames,I.ok.mod,I.bs,le_trans I.ok.bsz I.sz,I.stack,I.stkFree,I.hok,I.bare⟩
theorem Inv.after{Q:VK}{u:Value}(I:Inv X pins σ H s)(h:CE X.stack X.prog X.w H s Q u s'):EP X pins σ Q u s':=by
 obtain⟨v,H',os,bare,un,hok,r,q⟩:=h;obtain⟨hh,g,d,t,os'⟩:=s';obtain rfl:os'=s.os:=os;exact⟨v,H',I.call (h':=hh) (g':=g) (d':=d) (t':=t) (ch:=[]) un hok bare (λb z=>absurd z (by simp)),r,q⟩
end
def Wm(sp:Sp)(dvs:List V)(E:XK)(t:TA):TE:=λσ H Q=>t σ H λvs H1=>sp (vs++dvs) H1 Q E
def Binds(K:Frag)(fd:FuncData)(ps:List Str)(ds:List Value):Prop:=
 ∀(s:Shared) (us:List Value),K.In s.heap->(us++ds).length=ps.length->BindsTo s fd ⟨us,[]⟩ (ps.zip (us++ds))
theorem Binds.all{K:Frag}{fd:FuncData}{ps:List Str}(h:∀us:List Value,us.length=ps.length->bindArgs fd ⟨us,[]⟩=pure (ps.zip us)):Binds K fd ps []:=λs us _ hl=>by
 rw[Qc4] at hl ⊢;exact .of_eq (h us hl)
def Pr(CX:CXT)(X:Cx)(E:XK):Prop:=∀(pins:List (Addr×Obj)) (σ:St) (H:Hp) (s:Shared) (e:Value) (s':Shared),Inv X pins σ H s->CX X.stack H s E e s'->X.xe e s'
section
variable{X:Cx}{CX:CXT}{k:Nat}{f C:Addr}{fd:FuncData}{ps:List Str}{sp:Sp}{dvs:List V}{ds:List Value}{E:XK}{x m:Str}{p pos apos:Pos}{e o:Expr}{es:List Expr}{ta:TE}{t:TA}
theorem run_fn{pins:List (Addr×Obj)}{σ:St}{H:Hp}{s:Shared}{Q:VK}{us:List Value}{vs:List V}(F:FnOk X.prog X.w X.K X.mg X.base CX k f fd ps sp)(hr:Room k X.A)(hb:Binds X.K fd ps ds)(hd:Vals dvs ds)(hx:Pr CX X E)(I:Inv X pins σ H s)(r:Vals vs us)(h:sp (vs++dvs) H Q E):wpAny (model X.prog X.w) X.A (call (.ref f) us) (EP X pins σ Q) X.xe s:=by
 have r2:Vals (vs++dvs) (us++ds):=r.append hd;have hl:(us++ds).length=ps.length:=by rw[<-r2.length];exact F.len _ _ _ _ h
 refine wpAny_call (codeAny_mono (F.run X.A X.stack s H ⟨us,[]⟩ (us++ds) (vs++dvs) Q E hr I.env0 (hb s us I.kIn hl) r2 h) λr s' hq=> ?_);cases r with
 |error e=>exact hx pins σ H s e s' I hq
 |ok fl=>
  cases fl with
  |ret u=>exact I.after hq
  |next=>exact False.elim hq
  |brk=>exact False.elim hq
  |cont=>exact False.elim hq
theorem Sf(F:FnOk X.prog X.w X.K X.mg X.base CX k f fd ps sp)(hr:Room k X.A)(hg:Gl X x)(hm:X.mg x=some (.ref f))(hk:keepIn X.K (.ref f)=true)(hb:Binds X.K fd ps ds)(hd:Vals dvs ds)(hx:Pr CX X E)(ha:PA X (e::es) t)(hdb:(x==("__debug__":Str))=false:=by decide)(he:starEach (e::es) X.env=(false,eval e X.env)::starEach es X.env:=by rfl)(hpl:(backTo pos (starEach es X.env)).any (·.1)=false:=by rfl):
  PE X (.Call (.Name x p) (e::es) [] pos) (Wm sp dvs E t):=by
 intro pins s σ H Q I h;refine Qe8 (Zs I hg hm ?_ hdb);refine PySem.W.callWith_K (h₀:=X.base) I.ok.mod.kin hk (thn (ha pos pins s σ H _ I h) λus s1 ⟨vs,H1,I1,r,q⟩=>⟨I1.kIn,?_⟩) he hpl;exact run_fn F hr hb hd hx I1 r q
end
structure Ax(N P:List Str)(sc:Scope):Prop where
 kind:sc.kind= .function
 co:sc.isCoroutine=false
 gen:sc.isGenerator=false
 nd:N.Nodup
 pre:N.take P.length=P
 par:∀x∈P,sc.names.lookup x=some .local\/sc.names.lookup x=some .cell
 nofree:∀y∈sc.names,y.2≠ .free
theorem K7{kindOf:Str->Option NameKind}{x:Str}:∀{binds:List (Str×Value)} {m:Str->Option Value},(∀v,(x,v) ∉ binds)->bindL kindOf binds m x=m x
 |[],_,_=>rfl
 |(n,v)::r,m,h=>by
  unfold bindL;rw[K7 λw hw=>h w (Qb4 _ hw)];split
  ·have:x≠n:=by rintro rfl;exact h v Qb6
   simp[this]
  ·rfl
theorem Lp{kindOf:Str->Option NameKind}{x:Str}:∀{binds:List (Str×Value)} {m:Str->Option Value},(∀v,(x,v) ∉ binds)->bindC kindOf binds m x=m x
 |[],_,_=>rfl
 |(n,v)::r,m,h=>by
  unfold bindC;rw[Lp λw hw=>h w (Qb4 _ hw)];split
  ·rfl
  ·have:x≠n:=by rintro rfl;exact h v Qb6
   simp[this]
theorem Lc{kindOf:Str->Option NameKind}{x:Str}{v:Value}:∀{P:List Str} {vs:List Value} {i:Nat} {m:Str->Option Value},P.Nodup->P[i]? =some x->vs[i]? =some v->kindOf x=some .local->
  bindL kindOf (P.zip vs) m x=some v
 |[],_,_,_,_,h,_,_=>by simp at h
 |_::_,[],_,_,_,_,h,_=>by simp at h
 |p::P,w::vs,0,m,nd,h1,h2,hk=>by
  simp at h1 h2;subst h1;subst h2;show bindL kindOf ((p,w)::P.zip vs) m p=_;unfold bindL;rw[K7 λv hv=>(Qd2.mp nd).1 (List.of_mem_zip hv).1,Qa3 hk];simp
 |p::P,w::vs,i+1,m,nd,h1,h2,hk=>by
  show bindL kindOf ((p,w)::P.zip vs) m x=_;unfold bindL;exact Lc (i:=i) (Qd2.mp nd).2 (by simpa using h1) (by simpa using h2) hk
theorem Lb{kindOf:Str->Option NameKind}{x:Str}{v:Value}:∀{P:List Str} {vs:List Value} {i:Nat} {m:Str->Option Value},P.Nodup->P[i]? =some x->vs[i]? =some v->kindOf x≠some .local->
  bindC kindOf (P.zip vs) m x=some v
 |[],_,_,_,_,h,_,_=>by simp at h
 |_::_,[],_,_,_,_,h,_=>by simp at h
 |p::P,w::vs,0,m,nd,h1,h2,hk=>by
  simp at h1 h2;subst h1;subst h2;show bindC kindOf ((p,w)::P.zip vs) m p=_;unfold bindC;rw[Lp λv hv=>(Qd2.mp nd).1 (List.of_mem_zip hv).1,Qa2 hk];simp
 |p::P,w::vs,i+1,m,nd,h1,h2,hk=>by
  show bindC kindOf ((p,w)::P.zip vs) m x=_;unfold bindC;exact Lb (i:=i) (Qd2.mp nd).2 (by simpa using h1) (by simpa using h2) hk
def Il(N:List Str)(vs:List V):St:=vs.map some++replicate (N.length - vs.length) none
def Uj(CX:CXT)(P:Program)(w:World)(K:Frag)(mg:Str->Option Value)(base:Heap)(N:List Str)(qual:Str)(scope:Scope)(f:Addr)(cd:Value)(A:Around)(outer:List Env)(s:Shared)(H:Hp)(E:XK):Cx where
 prog:=P
 w:=w
 K:=K
 mg:=mg
 base:=base
 A:=A.deeper (envOfC qual scope s.heap.objs.size f cd)
 N:=N
 s₀:=s
 H₀:=H
 env:=envOfC qual scope s.heap.objs.size f cd
 outer:=outer
 stack:=envOfC qual scope s.heap.objs.size f cd::outer
 ex:=[]
 calm:=true
 fn:=λ_=>true
 pn:=[]
 xe:=λe s'=>wpAny (model P w) (A.deeper (envOfC qual scope s.heap.objs.size f cd)) (leaving (envOfC qual scope s.heap.objs.size f cd) e) (λ_ s''=>CX outer H s E e s'') (λe' s''=>CX outer H s E e' s'') s'
theorem Np{sc:Scope}{n:Nat}{x:Str}(h:sc.names.lookup x=some .cell):∃c,(cellsFrom n sc.names []).lookup x=some c:=by
 have q:=PySem.W.cellsFrom_some sc.names n [] (.inl h);exact Qd5.mp q
theorem T0{CX:CXT}{P:Program}{w:World}{K:Frag}{mg:Str->Option Value}{base:Heap}{N ps:List Str}{qual:Str}{scope:Scope}{f:Addr}{cd:Value}{A:Around}{outer:List Env}{s s1:Shared}{H:Hp}{E:XK}{us:List Value}{vs:List V}(S:Ax N ps scope)(hd:A.handled=none)(e0:Zh P w K mg base A outer s H)(hl:vs.length=ps.length)(r:Vals vs us)(x:InCallC s s.heap.objs.size (bindL (envOfC qual scope s.heap.objs.size f cd).kindOf (ps.zip us) λ_=>none) (cellsFrom (s.heap.objs.size+1) scope.names []) (bindC (envOfC qual scope s.heap.objs.size f cd).kindOf (ps.zip us) λ_=>none) s1):
  Inv (Uj CX P w K mg base N qual scope f cd A outer s H E) [] (Il N vs) H s1:=by
 have hpl:ps.length<=N.length:=by have:=Qd1 length S.pre;rw[Qb0] at this;omega
 obtain⟨h1,tk,rfl,hk⟩:=x.done;have noA:∀b:Addr,b ∉ (Uj CX P w K mg base N qual scope f cd A outer s H E).ex:=λb z=>absurd (show b∈([]:List Addr) from z) (by simp);refine⟨⟨e0.mod,S.kind,rfl,rfl,le_refl _,λy z c h1 h2=> ?_,λy hy=> ?_,λy c _ h=> ?_,λ_=>hd,Around.frames_deeper e0.frames,.inr ⟨rfl,rfl⟩,λb z=>absurd z (noA b),e0.bs,e0.bsz,λb _ _=>noA b,λb z=>absurd z (noA b),e0.funs,e0.frf⟩,
  rfl,e0.bare,Un.kept hk,⟨_,x.toInCall.ns,λi y v h1 h2 h3=> ?_⟩,λy c h=>⟨_,x.cell y c h⟩,e0.hok.fresh (le_refl _),λy c h=> ?_,λp hp=>absurd (show p∈([]:List (Addr×Obj)) from hp) (by simp),e0.hok.kept hk,?_⟩
 ·exact name_of_addr x.apart (PySem.mem_of_lookup h1) (PySem.mem_of_lookup h2)
 ·have hy:scope.names.lookup y=some .cell\/scope.names.lookup y=some .free:=hy;rcases hy with hy|hy
  ·exact Np hy
  ·exact absurd rfl (S.nofree _ (PySem.mem_of_lookup hy))
 ·exact le_of_lt (x.above y c (PySem.mem_of_lookup h))
 ·have hi:i<vs.length:=by
   unfold Il at h2;by_cases hi:i<vs.length
   ·exact hi
   ·rw[List.getElem?_append_right (by simpa using hi)] at h2;rw[getElem?_replicate] at h2;split at h2<;> cases h2
  have ha:vs[i]? =some v:=by
   unfold Il at h2;rw[List.getElem?_append_left (by simpa using hi),getElem?_map] at h2;cases e:vs[i]? with
   |none=>rw[e] at h2;cases h2
   |some a=>rw[e] at h2;cases h2;rfl
  obtain⟨u,hu,rv⟩:=r.get ha;have hp:ps[i]? =some y:=by
   rw[<-S.pre,List.getElem?_take_of_lt (by omega)];exact h1
  have ndP:ps.Nodup:=by rw[<-S.pre];exact S.nd.sublist (List.take_sublist _ _)
  refine⟨u,rv,?_⟩;rcases S.par y (mem_of_getElem? hp) with k|k
  ·exact .inl ⟨k,Lc ndP hp hu k⟩
  ·obtain⟨c,e⟩:=Np (n:=s.heap.objs.size+1) k;refine .inr ⟨.inl k,c,e,?_⟩;have q:=x.cell y c e;rw[Lb ndP hp hu (by show scope.names.lookup y≠_;rw[k];decide)] at q;exact q
 ·exact e0.hok.fresh (le_of_lt (x.above y c (PySem.mem_of_lookup h)))
 ·unfold Il;show _=N.length;rw[Qa0,If,List.length_replicate];omega
theorem fn_of{CX:CXT}{P:Program}{w:World}{K:Frag}{mg:Str->Option Value}{base:Heap}{k:Nat}{f:Addr}{name qual:Str}{params:Arguments}{body:List Stmt}{scope:Scope}{dV kV doc pm cdv ct oc:Value}{an od:Option Addr}{osl:Array (Option Value)}{N ps:List Str}{sp:Sp}(lk:K.lookup f=some ⟨oc,od,.func (PySem.W.fnOf name qual params body scope dV kV doc pm an cdv ct),osl⟩)(hcd:PySem.W.codeIn K cdv qual=true)(S:Ax N ps scope)(len:∀vs H Q E,sp vs H Q E->vs.length=ps.length)(hbody:∀(A:Around) (outer:List Env) (s:Shared) (H:Hp) (vs:List V) (Q:VK) (E:XK),Room k (A.deeper (envOfC qual scope s.heap.objs.size f cdv))->sp vs H Q E->
   ∃t,PSs (Uj CX P w K mg base N qual scope f cdv A outer s H E) body t/\t {nx:=λ_ H'=>Q .non H',rt:=Q} (Il N vs) H):
  FnOk P w K mg base CX (k+1) f (PySem.W.fnOf name qual params body scope dV kV doc pm an cdv ct) ps sp:=by
 refine⟨len,λA outer s H args us vs Q E hr e0 hb r hsp=> ?_⟩;have hl:=len _ _ _ _ hsp;have KX:K.In s.heap:=e0.mod.kin.keeps λb o e=>(e0.bs b o e).1;have lim:s.heap.NoLimit:=e0.mod.nolimit.keeps λb o e=>(e0.bs b o e).1;have hkind:∀y∈ps.zip us,scope.names.lookup y.1=some .local\/(scope.names.lookup y.1=some .cell/\((cellsFrom (s.heap.objs.size+1) scope.names []).lookup y.1).isSome=true):=λ⟨n,v⟩ hy=>by
  rcases S.par n (List.of_mem_zip hy).1 with q|q
  ·exact .inl q
  ·exact .inr ⟨q,PySem.W.cellsFrom_some _ _ _ (.inl q)⟩
 refine codeAny_call_function hr.depth (KX _ _ lk) rfl S.co S.gen rfl (PySem.W.codeRec_of KX hcd) (hb _ _ _ _ ?_);refine wpAny_newFunctionEnv_cells S.kind hkind λenv he s1 x=> ?_;subst he;refine⟨lim.keeps x.toInCall.keep,codeAny_func ?_⟩;obtain⟨t,ht,hq⟩:=hbody A outer s H vs Q E (hr.deeper _) hsp;have I:Inv (Uj CX P w K mg base N qual scope f cdv A outer s H E) [] (Il N vs) H s1:=T0 S hr.hd e0 hl r x;refine Qd8 (ht [] s1 (Il N vs) H _ I hq) (λfl s' hs=> ?_) λe s' hs=>hs;have fin:∀{σ':St} {H':Hp} {v:V} {u:Value},Inv (Uj CX P w K mg base N qual scope f cdv A outer s H E) [] σ' H' s'->RelV v u->Q v H'->CE outer P w H s Q u s':=
  λ{σ' H' v u} J rv q=>⟨v,H',J.os,J.bare,J.base,J.hok,rv,q⟩
 cases fl with
 |ret u=>
  obtain⟨v,σ',H',J,rv,q⟩:=hs;exact fin J rv q
 |next=>
  obtain⟨σ',H',J,q⟩:=hs;exact fin (v:=V.non) (u:=Value.none) J rfl q
 |brk=>
  obtain⟨_,_,_,q⟩:=hs;exact False.elim q
 |cont=>
  obtain⟨_,_,_,q⟩:=hs;exact False.elim q
section
variable{X:Cx}{x:Str}{p pos:Pos}{e:Expr}{es:List Expr}{t:TA}{id T:String}{r:List V->Hp->VK->Prop}
def tCB(r:List V->Hp->VK->Prop)(t:TA):TE:=λσ H Q=>t σ H λvs H1=>r vs H1 Q
theorem Ay(hc:Dm X (.builtin id) r)(hg:Gl X x)(hm:X.mg x=none)(hv:bootBuiltins x=some (.builtin id))(ha:PA X (e::es) t)(hn:x≠"__name__":=by decide)(hdb:(x==("__debug__":Str))=false:=by decide)(he:starEach (e::es) X.env=(false,eval e X.env)::starEach es X.env:=by rfl)(hpl:(backTo pos (starEach es X.env)).any (·.1)=false:=by rfl):PE X (.Call (.Name x p) (e::es) [] pos) (tCB r t):=by
 intro pins s σ H Q I h;refine Qe8 (Ew I hg hm hv ?_ hn hdb);exact PyProof.Rows.callWith_builtin1 (thn (ha pos pins s σ H _ I h) λus s1 ⟨vs,H1,I1,r1,q1⟩=>hc pins s1 σ H1 vs us Q I1 r1 q1) he hpl
theorem A6(hc:Dm X (.type T) r)(hg:Gl X x)(hm:X.mg x=none)(hv:bootBuiltins x=some (.type T))(ha:PA X (e::es) t)(hn:x≠"__name__":=by decide)(hdb:(x==("__debug__":Str))=false:=by decide)(he:starEach (e::es) X.env=(false,eval e X.env)::starEach es X.env:=by rfl)(hpl:(backTo pos (starEach es X.env)).any (·.1)=false:=by rfl):PE X (.Call (.Name x p) (e::es) [] pos) (tCB r t):=by
 intro pins s σ H Q I h;refine Qe8 (Ew I hg hm hv ?_ hn hdb);exact PyProof.Rows.callWith_type1 (thn (ha pos pins s σ H _ I h) λus s1 ⟨vs,H1,I1,r1,q1⟩=>hc pins s1 σ H1 vs us Q I1 r1 q1) he hpl
end
end L2
namespace HT
open PySem PyProof.Rows
section
variable{prog:Program}{w:World}{A:Around}{E:Value->Shared->Prop}{s:Shared}
theorem cat_tup{t b:Addr}{vs ws:List Value}{Q:Value->Shared->Prop}(ht:IsTup s.heap t vs.toArray)(hb:IsTup s.heap b ws.toArray)(hv:vs≠[])(h1:ws=[]->Q (.ref t) s)(h2:ws≠[]->Q (.ref s.heap.objs.size) {s with heap:=s.heap.push {cls:= .type "tuple",data:= .seq (vs++ws).toArray}})(hsz:vs.length+ws.length<=sizeLine):wpAny (model prog w) A (binaryOp .Add (.ref t) (.ref b)) Q E s:=by
 obtain⟨⟨cls,dd,data,sl⟩,ho,hc,n,hd⟩:=id ht;obtain⟨⟨cls2,dd2,data2,sl2⟩,ho2,hc2,n2,hd2⟩:=id hb;simp only at hc hd hc2 hd2;subst hc hd hc2 hd2;have e:vs.toArray++ws.toArray=(vs++ws).toArray:=by simp
 by_cases hw:ws=[]
 ·exact concat_meets ⟨_,ho,rfl⟩ ⟨_,ho2,rfl⟩ noFill_tuple_add seq_tuple_add slot_tuple_add entry_tuple_add (args_tuple_add_2 _ _)
   (tuple_addW1 t b vs.toArray ws.toArray n n2 dd dd2 sl sl2 (by simpa using hv) (by simp[hw])) ⟨ho,ho2,h1 hw⟩
 ·refine concat_meets ⟨_,ho,rfl⟩ ⟨_,ho2,rfl⟩ noFill_tuple_add seq_tuple_add slot_tuple_add entry_tuple_add (args_tuple_add_2 _ _)
   (tuple_addW2 t b vs.toArray ws.toArray n n2 dd dd2 sl sl2 (by simpa using hv) (by simpa using hw) (by rw[size_toArray,size_toArray];exact hsz)) ⟨ho,ho2,?_⟩
  rw[e];exact h2 hw
def sIx(n d:Nat):Option Int->Nat
 |none=>d
 |some v=>if v<0 then (v+(n:Int)).toNat else min v.toNat n
theorem sIx_none(n d:Nat):sIx n d none=d:=rfl
theorem sIx_nat(n d k:Nat):sIx n d (some (k:Int))=min k n:=by
 show (if (k:Int)<0 then ((k:Int)+(n:Int)).toNat else min (k:Int).toNat n)=min k n;rw[Qa2 (by omega),Int.toNat_natCast]
theorem sIx_le(n d:Nat)(hd:d<=n)(o:Option Int):sIx n d o<=n:=by
 cases o with
 |none=>exact hd
 |some v=>
  show (if v<0 then (v+(n:Int)).toNat else min v.toNat n)<=n;by_cases hv:v<0
  ·rw[Qa3 hv];omega
  ·rw[Qa2 hv];exact Nat.min_le_right _ _
theorem R5(v:Int)(n d:Nat):(if v<0 then max (v+(n:Int)) 0 else min v (n:Int))=((sIx n d (some v):Nat):Int):=by
 show (if v<0 then max (v+(n:Int)) 0 else min v (n:Int))=(((if v<0 then (v+(n:Int)).toNat else min v.toNat n):Nat):Int);by_cases hv:v<0
 ·simp only[Qa3 hv];omega
 ·simp only[Qa2 hv];omega
theorem P7(lo hi:Option Int)(n:Nat):Builtin.Slice.sliceAdjust lo hi 1 (n:Int)=(((sIx n 0 lo:Nat):Int),((sIx n n hi:Nat):Int)):=by
 have h1:¬((1:Int)<0):=by decide
 unfold Builtin.Slice.sliceAdjust;simp only[h1,if_false];refine Prod.ext ?_ ?_
 ·cases lo with
  |none=>rfl
  |some v=>exact R5 v n 0
 ·cases hi with
  |none=>rfl
  |some v=>exact R5 v n n
theorem Pt(i j:Nat):Builtin.Slice.slicePlaces (i:Int) (j:Int) 1=j - i:=by
 unfold Builtin.Slice.slicePlaces;have h1:(1:Int) > 0:=by decide
 simp only[h1,if_true,Int.ediv_one];split<;> omega
theorem Kr{v:Value}{o:Option Int}{Q:Option Int->Shared->Prop}(p:IsPart v o)(h:Q o s):wpAny (model prog w) A (Builtin.Slice.slicePartIndex v) Q E s:=by
 cases p with
 |none=>exact slicePart_none h
 |int i t=>exact slicePart_int h
theorem Ed{sl:Addr}{vl vu:Value}{lo hi:Option Int}{n:Nat}{Q:Int×Int×Nat->Shared->Prop}(hs:s.heap.IsSliceOf sl vl vu .none)(pl:IsPart vl lo)(pu:IsPart vu hi)(h:Q (((sIx n 0 lo:Nat):Int),1,sIx n n hi - sIx n 0 lo) s):wpAny (model prog w) A (Builtin.Slice.sliceApplied (.ref sl) (pure (n:Int))) Q E s:=by
 obtain⟨os,hos,hcs,hds⟩:=id hs;unfold Builtin.Slice.sliceApplied Builtin.Slice.sliceFields;refine Gt (Gt (Qc0 hos hds (x:=vl) rfl (Gt (Qc0 hos hds (x:=vu) rfl (Gt (Qc0 hos hds (x:= .none) rfl (Qa1 ?_)))))));refine Gt (slicePart_none ?_);show wpAny _ _ (if ((1:Int)==0)=true then _ else _) _ _ s;rw[Qa2 (by decide)];refine Gt (Kr pl (Gt (Kr pu (Gt (Qa1 ?_)))));show wpAny _ _ (match Builtin.Slice.sliceAdjust lo hi 1 (n:Int) with|(lo,hi)=>pure (lo,(1:Int),Builtin.Slice.slicePlaces lo hi 1)) _ _ s;rw[P7 lo hi n];show wpAny _ _ (pure (((sIx n 0 lo:Nat):Int),(1:Int),Builtin.Slice.slicePlaces ((sIx n 0 lo:Nat):Int) ((sIx n n hi:Nat):Int) 1)) _ _ s;rw[Pt];exact Qa1 h
theorem Vl(xs:Array Value)(i k:Nat):((List.range k).filterMap λ(m:Nat)=>xs[((i:Int)+(m:Int) * 1).toNat]?).toArray=((xs.toList.drop i).take k).toArray:=by
 have e:(λ(m:Nat)=>xs[((i:Int)+(m:Int) * 1).toNat]?)=λm=>xs[i+m]? :=by
  funext m
  have:((i:Int)+(m:Int) * 1).toNat=i+m:=by omega
  rw[this]
 rw[e];have:=pick_run xs i k;rw[List.filterMap_map] at this;have e2:((λx=>xs[x]?)∘λx=>i+x)=λm=>xs[i+m]? :=rfl;rw[e2] at this;rw[this]
theorem getItem_tuple_cut{t sl:Addr}{items:Array Value}{vl vu:Value}{lo hi:Option Int}{Q:Value->Shared->Prop}(ht:IsTup s.heap t items)(hs:s.heap.IsSliceOf sl vl vu .none)(pl:IsPart vl lo)(pu:IsPart vu hi)(hw:¬(sIx items.size 0 lo=0/\sIx items.size items.size hi=items.size))(h:Q (.ref s.heap.objs.size) {s with heap:=s.heap.push {cls:= .type "tuple",data:= .seq ((items.toList.drop (sIx items.size 0 lo)).take (sIx items.size items.size hi - sIx items.size 0 lo)).toArray}})(hsz:items.size<=sizeLine):wpAny (model prog w) A (getItem (.ref t) (.ref sl)) Q E s:=by
 have htake:sizeOk (.seq ((items.toList.drop (sIx items.size 0 lo)).take (sIx items.size items.size hi - sIx items.size 0 lo)).toArray):=by
  show ((items.toList.drop (sIx items.size 0 lo)).take (sIx items.size items.size hi - sIx items.size 0 lo)).toArray.size<=sizeLine;rw[size_toArray,Qb0,length_drop,length_toList];omega
 have hj:sIx items.size items.size hi<=items.size:=sIx_le _ _ (le_refl _) hi;obtain⟨os,hos,hcs,hds⟩:=id hs;have hTs:s.TypeIs (.ref sl) "slice":=⟨os,hos,hcs⟩
 unfold getItem
 try with_reducible refine Qc7 ?_
 first|refine Gt (Qa1 ?_)|skip
 refine Gt (wpAny_sequenceKey ht.typeIs (by decide) ?_);refine Gt (Qc6 (name:=Str.ofString "__getitem__") ht.typeIs PyProof.Rows.slot_tuple_getitem
  (Qd4 PyProof.Rows.slot_tuple_getitem ht.typeIs entry_tuple_getitem ?_ (args_tuple_getitem _ _)))
 show wpAny _ _ (Builtin.Tuple.tupleItemsOf (.ref t) >>=_) _ _ s;refine Gt (tupleItemsOf_ ht ?_);refine Gt (wpAny_typeOf hTs ?_);rw[Qa3 (by decide)];refine Gt (Ed hs pl pu ?_);have hno:¬((((sIx items.size 0 lo:Nat):Int)==0 && (1:Int)==1 && (sIx items.size items.size hi - sIx items.size 0 lo)==items.size)=true):=by
  intro q;rw[Qd9,Qd9] at q;have q1:((sIx items.size 0 lo:Nat):Int)=0:=eq_of_beq q.1.1;have q2:sIx items.size items.size hi - sIx items.size 0 lo=items.size:=eq_of_beq q.2;exact hw ⟨by omega,by omega⟩
 show wpAny _ _ (if (((sIx items.size 0 lo:Nat):Int)==0 && (1:Int)==1 && (sIx items.size items.size hi - sIx items.size 0 lo)==items.size)=true then _ else _) _ _ s;rw[Qa2 hno,Vl]
 first
  |exact Gt (m:=Builtin.Tuple.tupleExact _) (Qc9 (Qa1 ⟨_,rfl,Qa1 h⟩) htake)
  |exact Gt (m:=Builtin.Tuple.tupleExact _) (Qc9 (Gt (Qa1 (Qa1 ⟨_,rfl,Qa1 h⟩))) htake)
  |exact Gt (Gt (m:=Builtin.Tuple.tupleExact _) (Qc9 (Qa1 (Qa1 ⟨_,rfl,Qa1 h⟩)) htake))
  |exact Gt (Gt (m:=Builtin.Tuple.tupleExact _) (Qc9 (Qa1 ⟨_,rfl,Qa1 h⟩) htake))
end
end HT
namespace L2
open PySem PySem.Spec PyProof.Rows
abbrev TO:=St->Hp->(Option Int->Hp->Prop)->Prop
def PO(X:Cx)(e:Option Expr)(t:TO):Prop:=
 ∀(pins:List (Addr×Obj)) (s:Shared) (σ:St) (H:Hp) (Q:Option Int->Hp->Prop),Inv X pins σ H s->t σ H Q->
  wpAny (model X.prog X.w) X.A (evalPart e X.env) (λu s'=>∃o H',Inv X pins σ H' s'/\IsPart u o/\Q o H') X.xe s
def Ir:TO:=λ_ H Q=>Q none H
def V4(t:TE):TO:=λσ H Q=>t σ H λx H1=>∃i,x= .int i/\Q (some i) H1
theorem Kf{ns:List Int}:∀{us:List Value},Vals (ns.map V.int) us->IntsAre us ns:=by
 induction ns with
 |nil=>intro us r;rw[map_nil] at r;cases r;exact .nil
 |cons n ns ih=>
  intro us r;rw[Qb5] at r;cases r with
  |cons r1 r2=>
   obtain⟨t,e⟩:=r1;subst e;exact .cons n t (ih r2)
section
variable{X:Cx}{e:Expr}{te:TE}{lo hi:Option Expr}{tl th:TO}{pos p2:Pos}
theorem Do:PO X none Ir:=by
 intro pins s σ H Q I h;rw[evalPart_none];exact Qa1 ⟨none,H,I,.none,h⟩
theorem Br(h:PE X e te):PO X (some e) (V4 te):=by
 intro pins s σ H Q I hw;rw[evalPart_some];refine thn (h pins s σ H _ I hw) λu s1 ⟨x,H1,I1,r1,q1⟩=> ?_;obtain⟨i,rfl,q⟩:=q1;obtain⟨t,rfl⟩:=r1;exact⟨some i,H1,I1,.int i t,q⟩
def SlR(X:Cx)(r:V->Option Int->Option Int->Hp->VK->Prop):Prop:=
 ∀(pins:List (Addr×Obj)) (s:Shared) (σ:St) (H:Hp) (x:V) (v vl vu:Value) (lo hi:Option Int) (sl:Addr) (Q:VK),Inv X pins σ H s->RelV x v->s.heap.IsSliceOf sl vl vu .none->IsPart vl lo->IsPart vu hi->r x lo hi H Q->
  ∃T id,typeLookup (.type T) "__getitem__"=pure (some (.builtin id))/\s.TypeIs v T/\wpAny (model X.prog X.w) X.A (getItem v (.ref sl)) (EP X pins σ Q) X.xe s
def tSl(r:V->Option Int->Option Int->Hp->VK->Prop)(te:TE)(tl th:TO):TE:=λσ H Q=>te σ H λx H1=>tl σ H1 λl H2=>th σ H2 λu H3=>r x l u H3 Q
theorem Ce{r:V->Option Int->Option Int->Hp->VK->Prop}(hr:SlR X r)(he:PE X e te)(hl:PO X lo tl)(hu:PO X hi th):PE X (.Subscript e (.Slice lo hi none p2) pos) (tSl r te tl th):=by
 intro pins s σ H Q I h;refine Subscript_ (thn (he pins s σ H _ I h) λv s1 ⟨x,H1,I1,r1,q1⟩=> ?_);refine wpAny_Slice (thn (hl pins s1 σ H1 _ I1 q1) λvl s2 ⟨l,H2,I2,pl,q2⟩=>thn (hu pins s2 σ H2 _ I2 q2) λvu s3 ⟨u,H3,I3,pu,q3⟩=> ?_);rw[evalPart_none];refine Qa1 ?_;have I4:Inv X pins σ H3 {s3 with heap:=s3.heap.push {cls:= .type "slice",data:= .fields #[vl,vu,.none]}}:=I3.kept (t':=s3.toks) λb ob q=>Lt _ q;obtain⟨T,id,hT,ht,hg⟩:=hr pins {s3 with heap:=s3.heap.push {cls:= .type "slice",data:= .fields #[vl,vu,.none]}} σ H3 x v vl vu l u s3.heap.objs.size Q I4 r1 (IsSliceOf.new ..) pl pu q3;show wpAny (model X.prog X.w) X.A (subscriptTail e (.Slice lo hi none p2) v (.ref s3.heap.objs.size)) (EP X pins σ Q) X.xe {s3 with heap:=s3.heap.push {cls:= .type "slice",data:= .fields #[vl,vu,.none]}};exact tail_any (ops:=[.ref s3.heap.objs.size,v]) ht hT hg (by with_unfolding_all rfl)
def Ec(xs:List V)(lo hi:Option Int):List V:=(xs.drop (HT.sIx xs.length 0 lo)).take (HT.sIx xs.length xs.length hi - HT.sIx xs.length 0 lo)
theorem Id(xs:List V)(lo hi:Option Int):(Ec xs lo hi).length<=xs.length:=by
 unfold Ec;rw[Qb0,length_drop];omega
inductive RSlTP(K:Frag)(x:V)(lo:Option Int)(hi:Option Int)(H:Hp)(Q:VK):Prop
 |mk (a xs:_):(x= .ref a)->(SqT K H a xs)->(¬(HT.sIx xs.length 0 lo=0/\HT.sIx xs.length xs.length hi=xs.length))->(∀p,H p=none->Q (.ref p) (upd H p (.tup (Ec xs lo hi))))->RSlTP K x lo hi H Q
def rSlT(K:Frag):V->Option Int->Option Int->Hp->VK->Prop:=λx lo hi H Q=>RSlTP K x lo hi H Q
theorem sl_tup:SlR X (rSlT X.K):=by
 intro pins s σ H x v vl vu lo hi sl Q I rx hs pl pu h;obtain⟨a,xs,rfl,hx,hw,q⟩:=h;cases rx;obtain⟨its,r,ht,hz⟩:=I.tuple hx;have hlen:its.toArray.size=xs.length:=by rw[size_toArray];exact r.length.symm
 refine⟨"tuple",_,PyProof.Rows.slot_tuple_getitem.lookup,ht.typeIs,?_⟩;refine HT.getItem_tuple_cut ht hs pl pu (by rw[hlen];exact hw) ?_ (by rw[hlen];exact hz);rw[hlen];refine⟨.ref s.heap.objs.size,_,I.laid (t':=s.toks) (o:= .tup (Ec xs lo hi)) (λb ob q=>Lt _ q) (le_refl _) ?_,rfl,q _ (I.hok.fresh (le_refl _))⟩;exact⟨le_trans (Id xs lo hi) hz,_,(r.drop (HT.sIx xs.length 0 lo)).take (HT.sIx xs.length xs.length hi - HT.sIx xs.length 0 lo),IsTupN.new _ _⟩
theorem Vals.nil_iff{xs:List V}{us:List Value}(r:Vals xs us):us=[]↔xs=[]:=by
 cases r with
 |nil=>simp
 |cons _ _=>simp
end
def ixN(n:Nat)(i:Int):Option Nat:=if 0<=i then (if i<n then some i.toNat else none) else if -(n:Int)<=i then some (i+n).toNat else none
def atI{α:Type}(xs:List α)(i:Int):Option α:=(ixN xs.length i).bind λj=>xs[j]?
theorem Q8{n:Nat}{i:Int}{j:Nat}(h:ixN n i=some j):seqIndex? i n=some j/\j<n/\ -(n:Int)<=i/\i<n:=by
 unfold ixN at h;by_cases h0:0<=i
 ·rw[Qa3 h0] at h;by_cases h1:i<n
  ·rw[Qa3 h1] at h;have e:i.toNat=j:=Option.some.inj h;exact⟨by rw[seqIndex_of h0 h1,e],by omega,by omega,h1⟩
  ·rw[Qa2 h1] at h;cases h
 ·rw[Qa2 h0] at h;by_cases h1: -(n:Int)<=i
  ·rw[Qa3 h1] at h;have e:(i+n).toNat=j:=Option.some.inj h;exact⟨by rw[seqIndex_neg (by omega) h1,e],by omega,h1,by omega⟩
  ·rw[Qa2 h1] at h;cases h
theorem L9{α:Type}{xs:List α}{i:Int}{v:α}(h:atI xs i=some v):∃j,seqIndex? i xs.length=some j/\xs[j]? =some v/\j<xs.length/\ -(xs.length:Int)<=i/\i<xs.length:=by
 unfold atI at h;cases e:ixN xs.length i with
 |none=>rw[e] at h;cases h
 |some j=>
  rw[e] at h;obtain⟨h1,h2,h3,h4⟩:=Q8 e;exact⟨j,h1,h,h2,h3,h4⟩
theorem Ai{α:Type}{xs:List α}{j:Nat}{v:α}(h:xs[j]? =some v):atI xs (j:Int)=some v:=by
 have hj:j<xs.length:=(List.getElem?_eq_some_iff.mp h).1;have e:ixN xs.length (j:Int)=some j:=by
  unfold ixN;rw[Qa3 (by exact Int.natCast_nonneg _),Qa3 (by omega)];simp
 unfold atI;rw[e];exact h
theorem Xv{α:Type}(xs:List α)(v:α):atI (xs++[v]) (-1)=some v:=by
 have hl:(xs++[v]).length=xs.length+1:=by simp
 have e:ixN (xs++[v]).length (-1)=some xs.length:=by
  unfold ixN;rw[hl,Qa2 (by decide),Qa3 (by omega)]
  congr 1
  omega
 unfold atI;rw[e];show (xs++[v])[xs.length]? =some v;simp
def Yf(b:Expr):Prop:=∀o i,subscripted b false o i=operate [o,i] (getItem o i)
def IxR(X:Cx)(r:R2):Prop:=
 ∀(value slice:Expr) (pins:List (Addr×Obj)) (s:Shared) (σ:St) (H:Hp) (x y:V) (v u:Value) (Q:VK),Inv X pins σ H s->RelV x v->RelV y u->r x y H Q->
  subscripted slice false v u=operate [v,u] (getItem v u)->wpAny (model X.prog X.w) X.A (subscriptTail value slice v u) (EP X pins σ Q) X.xe s
def MtR(X:Cx)(id:String)(r:V->List V->Hp->VK->Prop):Prop:=
 ∀(pins:List (Addr×Obj)) (s:Shared) (σ:St) (H:Hp) (x:V) (xs:List V) (v:Value) (us:List Value) (Q:VK),Inv X pins σ H s->RelV x v->Vals xs us->r x xs H Q->
  wpAny (model X.prog X.w) X.A (call (.builtin id) (v::us)) (EP X pins σ Q) X.xe s
section
variable{X:Cx}{a b:Expr}{ta tb:TE}{pos:Pos}
theorem Aq{r:R2}(hr:IxR X r)(ha:PE X a ta)(hb:PE X b tb)(hs:Yf b):PE X (.Subscript a b pos) (tOp r ta tb):=by
 intro pins s σ H Q I h;exact Subscript_ (binT ha hb I h λv u s2 x y H2 I2 rx ry q=>hr a b pins s2 σ H2 x y v u Q I2 rx ry q (hs _ _))
inductive RIxLP(K:Frag)(x:V)(y:V)(H:Hp)(Q:VK):Prop
 |mk (p xs i v:_):(x= .ref p)->(y= .int i)->(SqL K H p xs)->(atI xs i=some v)->(Q v H)->RIxLP K x y H Q
def Xj(K:Frag):R2:=λx y H Q=>RIxLP K x y H Q
inductive RIxTP(K:Frag)(x:V)(y:V)(H:Hp)(Q:VK):Prop
 |mk (p xs i v:_):(x= .ref p)->(y= .int i)->(SqT K H p xs)->(atI xs i=some v)->(Q v H)->RIxTP K x y H Q
def J4(K:Frag):R2:=λx y H Q=>RIxTP K x y H Q
inductive RIxSP(x:V)(y:V)(H:Hp)(Q:VK):Prop
 |mk (z i c:_):(x= .str z)->(y= .int i)->(z.length<=sizeLine)->(atI z.cps.toList i=some c)->(Q (.str ⟨#[c]⟩) H)->RIxSP x y H Q
def rIxS:R2:=λx y H Q=>RIxSP x y H Q
theorem A4:IxR X (Xj X.K):=by
 intro value slice pins s σ H x y v u Q I rx ry h hs;obtain⟨p,xs,i,z,rfl,rfl,hq,he,q⟩:=h;cases rx;obtain⟨t,rfl⟩:=ry;obtain⟨its,r,pl,hz⟩:=I.list hq;obtain⟨j,h1,h2,h3,h4,h5⟩:=L9 he;obtain⟨w,ew,rw'⟩:=r.get h2;have hl:=r.length;have hn:=Ht;have fin:EP X pins σ Q w s:=⟨z,H,I,rw',q⟩
 by_cases h0:0<=i
 ·have hj:i.toNat=j:=by
   rw[seqIndex_of h0 h5] at h1;exact Option.some.inj h1
  exact item_listR pl.isList h0 (by omega) (by rw[hj];simpa using ew) fin hs
 ·have hj:(i+(its.toArray.size:Int)).toNat=j:=by
   rw[seqIndex_neg (by omega) h4] at h1;rw[size_toArray,<-hl];exact Option.some.inj h1
  exact subscriptTail_builtinR (x:=w) pl.isList.typeIs slot_list_getitem.lookup
   (wpAny_getItem_list_neg (Q:=λr s'=>r=w/\EP X pins σ Q r s') pl.isList (by omega) (by rw[size_toArray]<;> omega) (by omega) (by rw[hj];simpa using ew) ⟨rfl,fin⟩) hs
theorem Az:IxR X (J4 X.K):=by
 intro value slice pins s σ H x y v u Q I rx ry h hs;obtain⟨p,xs,i,z,rfl,rfl,hq,he,q⟩:=h;cases rx;obtain⟨t,rfl⟩:=ry;obtain⟨its,r,pl,hz⟩:=I.tuple hq;obtain⟨j,h1,h2,h3,h4,h5⟩:=L9 he;obtain⟨w,ew,rw'⟩:=r.get h2;have hl:=r.length;have hn:=Ht;have fin:EP X pins σ Q w s:=⟨z,H,I,rw',q⟩
 exact subscriptTail_builtinR (x:=w) pl.typeIs slot_tuple_getitem.lookup
  (getItem_tuple (j:=j) (Q:=λr s'=>r=w/\EP X pins σ Q r s') pl (by omega) (by omega) (by rw[size_toArray,<-hl];exact h1) (by simpa using ew) ⟨rfl,fin⟩) hs
theorem Qc:IxR X rIxS:=by
 intro value slice pins s σ H x y v u Q I rx ry h hs;obtain⟨z,i,c,rfl,rfl,hz,he,q⟩:=h;obtain⟨t,rfl⟩:=rx;obtain⟨t',rfl⟩:=ry;obtain⟨j,h1,h2,h3,h4,h5⟩:=L9 he;have hl:z.cps.toList.length=z.length:=by simp[Str.length]
 rw[hl] at h1 h4 h5;have hn:=Ht;exact tail_any (typeIs_str s z t) slot_str_getitem.lookup (getItem_str (c:=c) (by
  have e1:decide (i< -(2 ^ 63:Int))=false:=decide_eq_false (by omega);have e2:decide (i ≥ 2 ^ 63)=false:=decide_eq_false (by omega);rw[e1,e2,Bool.or_false]) (by rw[h1];simpa using h2) ⟨.str ⟨#[c]⟩,H,I.tok _,⟨_,rfl⟩,q⟩) hs
theorem P9(its:List Value)(n j:Nat)(u:Value):Obj.mapSeq (·.setIfInBounds j u) {cls:= .type "list",data:= .seq its.toArray n}={cls:= .type "list",data:= .seq (its.set j u).toArray n}:=by
 simp[Obj.mapSeq]
theorem Inv.lst{pins:List (Addr×Obj)}{σ:St}{H:Hp}{s:Shared}{p:Addr}{xs:List V}(I:Inv X pins σ H s)(h:H p=some (.lst xs)):
  ∃(its:List Value) (n:Nat),Vals xs its/\s.heap.get? p=some {cls:= .type "list",data:= .seq its.toArray n}/\xs.length<=sizeLine:=by
 obtain⟨z,its,n,r,e⟩:=I.hok p _ h;exact⟨its,n,r,e,z⟩
theorem Inv.lstUpd{pins:List (Addr×Obj)}{σ:St}{H:Hp}{s:Shared}{p:Addr}{xs ys:List V}{its its':List Value}{n n':Nat}{f:Obj->Obj}(I:Inv X pins σ H s)(h:H p=some (.lst xs))(ho:s.heap.get? p=some {cls:= .type "list",data:= .seq its.toArray n})(hf:f {cls:= .type "list",data:= .seq its.toArray n}={cls:= .type "list",data:= .seq its'.toArray n'})(r:Vals ys its')(hz:ys.length<=sizeLine)(t:Nat):
  Inv X pins σ (upd H p (.lst ys)) {s with heap:=s.heap.update p f,toks:=t}:=by
 have e:(s.heap.update p f).get? p=some {cls:= .type "list",data:= .seq its'.toArray n'}:=by
  rw[Heap.get?_update_self f ho (by rw[hf]<;> rfl),hf]
 refine I.write (x:=p) (e:=p) (by rw[h];trivial) (.inl rfl) (λb u hb q=>(Heap.get?_update_other _ _ (Ne.symm hb)).trans q) ⟨_,e⟩ ?_;exact⟨hz,its',n',r,e⟩
inductive Ut(o:V)(i:V)(v:V)(H:Hp)(Q:(Hp->Prop)):Prop
 |mk (p xs k j:_):(o= .ref p)->(i= .int k)->(H p=some (.lst xs))->(ixN xs.length k=some j)->(Q (upd H p (.lst (xs.set j v))))->Ut o i v H Q
def rSetL:V->V->V->Hp->(Hp->Prop)->Prop:=λo i v H Q=>Ut o i v H Q
theorem Kn:PSet X rSetL:=by
 intro pins s σ H o i v ov iv u Q I ro ri rv h;obtain⟨p,xs,k,j,rfl,rfl,hp,hj,q⟩:=h;cases ro;obtain⟨t,rfl⟩:=ri;obtain⟨its,n,r,ho,hz⟩:=I.lst hp;obtain⟨h1,h2,h3,h4⟩:=Q8 hj;have hl:=r.length;have hn:=Ht;have I':Inv X pins σ (upd H p (.lst (xs.set j v))) {s with heap:=s.heap.update p (Obj.mapSeq (·.setIfInBounds j u))}:=
  I.lstUpd hp ho (P9 its n j u) (r.set rv j) (by rw[length_set];exact hz) s.toks
 by_cases h0:0<=k
 ·have hk:k.toNat=j:=by
   rw[seqIndex_of h0 h4] at h1;exact Option.some.inj h1
  exact PySem.W.ki_setAt ho h0 (by omega) (by rw[size_toArray,<-hl];exact h4) (by rw[hk];exact⟨_,I',q⟩)
 ·have hk:(k+(its.toArray.size:Int)).toNat=j:=by
   rw[seqIndex_neg (by omega) h3] at h1;rw[size_toArray,<-hl];exact Option.some.inj h1
  exact PySem.W.ki_setBack ho (by omega) (by rw[size_toArray,<-hl];exact h3) (by omega) (by rw[hk];exact⟨_,I',q⟩)
theorem Ml(lo hi:Option Int)(n:Nat):(sliceBounds lo hi none n).1=((HT.sIx n 0 lo:Nat):Int)/\(sliceBounds lo hi none n).2.1=((HT.sIx n n hi:Nat):Int)/\(sliceBounds lo hi none n).2.2=1:=by
 refine⟨?_,?_,rfl⟩
 ·cases lo with
  |none=>simp[sliceBounds,HT.sIx]
  |some i=>
   simp only[sliceBounds,HT.sIx,getD_none,show (1:Int) > 0 by decide,if_true];by_cases h:i<0
   ·simp only[h,if_true]<;> omega
   ·simp only[h,if_false]<;> omega
 ·cases hi with
  |none=>simp[sliceBounds,HT.sIx]
  |some i=>
   simp only[sliceBounds,HT.sIx,getD_none,show (1:Int) > 0 by decide,if_true];by_cases h:i<0
   ·simp only[h,if_true]<;> omega
   ·simp only[h,if_false]<;> omega
theorem Kx(its:List Value)(lo hi:Option Int):slicePick its.toArray lo hi none=((its.drop (HT.sIx its.length 0 lo)).take (HT.sIx its.length its.length hi - HT.sIx its.length 0 lo)).toArray:=by
 obtain⟨h1,h2,h3⟩:=Ml lo hi its.toArray.size;unfold slicePick;rw[h1,h2,h3];simp only[sliceRange_one,pick_run,size_toArray]<;> rfl
inductive RSlLP(K:Frag)(x:V)(lo:Option Int)(hi:Option Int)(H:Hp)(Q:VK):Prop
 |mk (a xs:_):(x= .ref a)->(SqL K H a xs)->(∀p,H p=none->Q (.ref p) (upd H p (.lst (Ec xs lo hi))))->RSlLP K x lo hi H Q
def rSlL(K:Frag):V->Option Int->Option Int->Hp->VK->Prop:=λx lo hi H Q=>RSlLP K x lo hi H Q
theorem Z0:SlR X (rSlL X.K):=by
 intro pins s σ H x v vl vu lo hi sl Q I rx hs pl pu h;obtain⟨a,xs,rfl,hx,q⟩:=h;cases rx;obtain⟨its,r,ht,hz⟩:=I.list hx;have hlen:=r.length;refine⟨"list",_,slot_list_getitem.lookup,ht.isList.typeIs,?_⟩;refine wpAny_getItem_list_slice ht.isList hs pl pu .none (by simp) ?_ (by rw[size_toArray]<;> omega);rw[Kx,<-hlen];refine⟨.ref s.heap.objs.size,_,I.laid (t':=s.toks) (o:= .lst (Ec xs lo hi)) (λb ob q=>Lt _ q) (le_refl _) ?_,rfl,q _ (I.hok.fresh (le_refl _))⟩;exact⟨le_trans (Id xs lo hi) hz,_,0,(r.drop (HT.sIx xs.length 0 lo)).take (HT.sIx xs.length xs.length hi - HT.sIx xs.length 0 lo),Qa7 _ rfl⟩
def Eg:V->Bool
 | .non=>true
 | .bl _=>true
 | .int _=>true
 | .str _=>true
 |_=>false
def eqV:V->V->Bool
 | .non,.non=>true
 | .bl a,.bl b=>a==b
 | .bl a,.int b=>(if a then 1 else 0)==b
 | .int a,.bl b=>a==(if b then 1 else 0)
 | .int a,.int b=>a==b
 | .str a,.str b=>a==b
 |_,_=>false
theorem eqAt_V{A:Around}{s:Shared}{y x:V}{u v:Value}(ry:RelV y u)(rx:RelV x v)(fy:Eg y=true)(fx:Eg x=true):SeqAt.EqAt A s u v (eqV y x):=by
 cases y with
 |non=>
  cases ry;cases x with
  |non=>cases rx;exact SeqAt.EqAt.same _
  |bl b=>cases rx;exact SeqAt.EqAt.none_bool b
  |int b=>obtain⟨t,rfl⟩:=rx;exact SeqAt.EqAt.none_int b t
  |str b=>obtain⟨t,rfl⟩:=rx;exact SeqAt.EqAt.none_str b t
  |_=>exact absurd (show false=true from fx) Bool.false_ne_true
 |bl a=>
  cases ry;cases x with
  |non=>cases rx;exact SeqAt.EqAt.bool_none a
  |bl b=>cases rx;exact SeqAt.EqAt.bool_bool a b
  |int b=>obtain⟨t,rfl⟩:=rx;exact SeqAt.EqAt.bool_int a b t
  |str b=>obtain⟨t,rfl⟩:=rx;exact SeqAt.EqAt.bool_str a b t
  |_=>exact absurd (show false=true from fx) Bool.false_ne_true
 |int a=>
  obtain⟨t',rfl⟩:=ry;cases x with
  |non=>cases rx;exact SeqAt.EqAt.int_none a t'
  |bl b=>cases rx;exact SeqAt.EqAt.int_bool a t' b
  |int b=>obtain⟨t,rfl⟩:=rx;exact SeqAt.EqAt.int_int a t' b t
  |str b=>obtain⟨t,rfl⟩:=rx;exact SeqAt.EqAt.int_str a t' b t
  |_=>exact absurd (show false=true from fx) Bool.false_ne_true
 |str a=>
  obtain⟨t',rfl⟩:=ry;cases x with
  |non=>cases rx;exact SeqAt.EqAt.str_none a t'
  |bl b=>cases rx;exact SeqAt.EqAt.str_bool a t' b
  |int b=>obtain⟨t,rfl⟩:=rx;exact SeqAt.EqAt.str_int a t' b t
  |str b=>obtain⟨t,rfl⟩:=rx;exact SeqAt.EqAt.str_str a t' b t
  |_=>exact absurd (show false=true from fx) Bool.false_ne_true
 |_=>exact absurd (show false=true from fy) Bool.false_ne_true
def eqU(x:V)(u:Value):Bool:=match u with
 | .none=>eqV .non x
 | .bool b=>eqV (.bl b) x
 | .int i _=>eqV (.int i) x
 | .str z _=>eqV (.str z) x
 |_=>false
theorem U4{x y:V}{u:Value}(r:RelV y u)(f:Eg y=true):eqU x u=eqV y x:=by
 cases y with
 |non=>cases r;rfl
 |bl b=>cases r;rfl
 |int i=>obtain⟨t,rfl⟩:=r;rfl
 |str z=>obtain⟨t,rfl⟩:=r;rfl
 |_=>exact absurd (show false=true from f) Bool.false_ne_true
theorem Gr{x:V}:∀{xs:List V} {us:List Value},Vals xs us->xs.all Eg=true->us.any (eqU x)=xs.any λy=>eqV y x
 |_,_,.nil,_=>rfl
 |y::xs,u::us,.cons r t,f=>by
  rw[all_cons,Qd9] at f;rw[any_cons,any_cons,U4 r f.1,Gr t f.2]
theorem Fc{A:Around}{s:Shared}{x:V}{v:Value}(rx:RelV x v)(fx:Eg x=true):∀{xs:List V} {us:List Value},Vals xs us->xs.all Eg=true->∀u∈us,SeqAt.EqAt A s u v (eqU x u)
 |_,_,.nil,_=>λu hu=>by cases hu
 |y::xs,u::us,.cons r t,f=>λu' hu=>by
  rw[all_cons,Qd9] at f;rcases Qa9.mp hu with rfl|hu
  ·rw[U4 r f.1];exact eqAt_V r rx f.1 fx
  ·exact Fc rx fx t f.2 u' hu
def inV(x:V)(xs:List V):Bool:=xs.any λy=>eqV y x
inductive RInP(K:Frag)(neg:Bool)(x:V)(y:V)(H:Hp)(Q:VK):Prop
 |mk (p xs:_):(y= .ref p)->((SqL K H p xs\/SqT K H p xs))->(Eg x=true)->(xs.all Eg=true)->(Q (.bl (if neg then !inV x xs else inV x xs)) H)->RInP K neg x y H Q
def rIn(K:Frag)(neg:Bool):R2:=λx y H Q=>RInP K neg x y H Q
theorem Dq:OpR X (compareOp .In) (rIn X.K false):=by
 intro pins s σ H x y v u Q I rx ry h;obtain⟨p,xs,rfl,hq,fx,fs,q⟩:=h;cases ry;rcases hq with hq|hq
 ·obtain⟨its,r,pl,hz⟩:=I.list hq;refine SeqAt.in_listAt (eqU x) pl.isList (λw hw=>Fc rx fx r fs w (by simpa using hw)) ⟨.bl _,H,I,rfl,?_⟩;rw[show its.toArray.any (eqU x)=its.any (eqU x) by simp,Gr r fs];exact q
 ·obtain⟨its,r,pl,hz⟩:=I.tuple hq;refine SeqAt.in_tupleAt (eqU x) pl (λw hw=>Fc rx fx r fs w (by simpa using hw)) ⟨.bl _,H,I,rfl,?_⟩;rw[show its.toArray.any (eqU x)=its.any (eqU x) by simp,Gr r fs];exact q
theorem Gm:OpR X (compareOp .NotIn) (rIn X.K true):=by
 intro pins s σ H x y v u Q I rx ry h;obtain⟨p,xs,rfl,hq,fx,fs,q⟩:=h;cases ry;rcases hq with hq|hq
 ·obtain⟨its,r,pl,hz⟩:=I.list hq;refine SeqAt.notIn_listAt (eqU x) pl.isList (λw hw=>Fc rx fx r fs w (by simpa using hw)) ⟨.bl _,H,I,rfl,?_⟩;rw[show its.toArray.any (eqU x)=its.any (eqU x) by simp,Gr r fs];exact q
 ·obtain⟨its,r,pl,hz⟩:=I.tuple hq;refine SeqAt.notIn_tupleAt (eqU x) pl (λw hw=>Fc rx fx r fs w (by simpa using hw)) ⟨.bl _,H,I,rfl,?_⟩;rw[show its.toArray.any (eqU x)=its.any (eqU x) by simp,Gr r fs];exact q
theorem A8:Dm X (.builtin "len") (λxs H Q=>∃p ys,xs=[.ref p]/\(SqL X.K H p ys\/SqT X.K H p ys)/\Q (.int ys.length) H):=by
 intro pins s σ H xs us Q I r h;obtain⟨p,ys,rfl,hq,q⟩:=h;obtain⟨u,rfl,rx⟩:=Dw r;cases rx;have hn:=Ht;rcases hq with hq|hq
 ·obtain⟨its,r',pl,hz⟩:=I.list hq;have hlen:=r'.length;exact Calls.call_len_list pl.isList (by simp only[size_toArray]<;> omega) ⟨.int ys.length,H,I.tok _,⟨s.toks+1,by rw[size_toArray,hlen]⟩,q⟩
 ·obtain⟨its,r',pl,hz⟩:=I.tuple hq;have hlen:=r'.length;exact len_tuple pl (by simp only[size_toArray]<;> omega) ⟨.int ys.length,H,I.tok _,⟨s.toks+1,by rw[size_toArray,hlen]⟩,q⟩
theorem Mh:Dm X (.type "list") (λxs H Q=>∃p ys,xs=[.ref p]/\(SqL X.K H p ys\/SqT X.K H p ys)/\∀l,H l=none->Q (.ref l) (upd H l (.lst ys))):=by
 intro pins s σ H xs us Q I r h;obtain⟨p,ys,rfl,hq,q⟩:=h;obtain⟨u,rfl,rx⟩:=Dw r;cases rx;have fin:∀(its:List Value),Vals ys its->ys.length<=sizeLine->∀(h':Heap) (c':Nat),(∀b o',s.heap.get? b=some o'->h'.get? b=some o')->
   h'.get? s.heap.objs.size=some {cls:= .type "list",dict:=none,data:= .seq its.toArray c',slots:= #[]}->EP X pins σ Q (.ref s.heap.objs.size) {s with heap:=h'}:=λits r' hz h' c' kp e=>
  ⟨.ref s.heap.objs.size,_,I.laid (t':=s.toks) kp (le_refl _) (show ObjOk X.prog X.w _ h' _ (.lst ys) from⟨hz,its,c',r',e⟩),rfl,q _ (I.hok.fresh (le_refl _))⟩
 rcases hq with hq|hq
 ·obtain⟨its,r',pl,hz⟩:=I.list hq;have hlen:=r'.length;obtain⟨o,ho,hc,n,hd⟩:=pl.isList;exact call_list_seq p (.inl rfl) ho hc hd (λh' c' kp e=>fin its r' hz h' c' kp e) (by simp only[size_toArray]<;> omega)
 ·obtain⟨its,r',pl,hz⟩:=I.tuple hq;have hlen:=r'.length;obtain⟨o,ho,hc,n,hd⟩:=pl;exact call_list_seq p (.inr rfl) ho hc hd (λh' c' kp e=>fin its r' hz h' c' kp e) (by simp only[size_toArray]<;> omega)
theorem A7:Dm X (.type "tuple") (λxs H Q=>∃p ys,xs=[.ref p]/\((SqL X.K H p ys/\∀l,H l=none->Q (.ref l) (upd H l (.tup ys)))\/(SqT X.K H p ys/\Q (.ref p) H))):=by
 intro pins s σ H xs us Q I r h;obtain⟨p,ys,rfl,h⟩:=h;obtain⟨u,rfl,rx⟩:=Dw r;cases rx;rcases h with⟨hq,q⟩|⟨hq,q⟩
 ·obtain⟨its,r',pl,hz⟩:=I.list hq;have hlen:=r'.length;refine call_tuple_list pl.isList (λh' kp=> ?_) (by simp only[size_toArray]<;> omega);have I1:Inv X pins σ H {s with heap:=h'}:=I.kept (t':=s.toks) kp;have I2:Inv X pins σ (upd H h'.objs.size (.tup ys)) {s with heap:=h'.push {cls:= .type "tuple",data:= .seq its.toArray}}:=
   I1.laid (t':=s.toks) (λb o e=>Lt _ e) (le_refl _) (show ObjOk X.prog X.w _ _ _ (.tup ys) from⟨hz,its,r',IsTupN.new _ _⟩)
  exact⟨.ref h'.objs.size,_,I2,rfl,q _ (I1.hok.fresh (le_refl _))⟩
 ·obtain⟨its,r',pl,hz⟩:=I.tuple hq;exact call_tuple_same pl ⟨.ref p,H,I,rfl,q⟩
def tyV(K:Frag)(T:String)(x:V)(H:Hp):Prop:=match x with
 | .str _=>T="str"
 | .int _=>T="int"
 | .ref p=>(T="list"/\∃xs,SqL K H p xs)\/(T="tuple"/\((∃o,K.lookup p=some o/\o.cls= .type "tuple"/\o.dict=none)\/∃xs,H p=some (.tup xs)))\/
   (T="dict"/\((∃kvs,H p=some (.dK kvs))\/∃kvs,H p=some (.dT kvs)))\/(T="set"/\∃S n,H p=some (.set S n))
 |_=>False
theorem Ve{pins:List (Addr×Obj)}{σ:St}{H:Hp}{s:Shared}{T:String}{x:V}{v:Value}(I:Inv X pins σ H s)(r:RelV x v)(ty:tyV X.K T x H):
  s.TypeIs v T/\∀a,v= .ref a->∃ob,s.heap.get? a=some ob/\ob.dict=none:=by
 cases x with
 |str z=>
  obtain⟨t,rfl⟩:=r;cases (show T="str" from ty);exact⟨typeIs_str s z t,λ_ e=>nomatch e⟩
 |int i=>
  obtain⟨t,rfl⟩:=r;cases (show T="int" from ty);exact⟨typeIs_int s i t,λ_ e=>nomatch e⟩
 |ref p=>
  cases r;rcases ty with⟨rfl,xs,hq⟩|⟨rfl,⟨o,hk,hc,hd⟩|⟨xs,hx⟩⟩|⟨rfl,hk⟩|⟨rfl,S,n,hk⟩
  ·obtain⟨its,_,pl,_⟩:=I.list hq;refine⟨pl.isList.typeIs,λa e=> ?_⟩;cases e;obtain⟨o,n,e,c,hd,_⟩:=pl;exact⟨o,e,hd⟩
  ·refine⟨⟨o,I.kIn p o hk,hc⟩,λa e=> ?_⟩;cases e;exact⟨o,I.kIn _ o hk,hd⟩
  ·obtain⟨_,_,_,o,e,c,d,_⟩:=(show ObjOk X.prog X.w H s.heap p (.tup xs) from I.hok p _ hx)
   refine⟨⟨o,e,c⟩,λa e2=> ?_⟩;cases e2;exact⟨o,e,d⟩
  ·have z:∃o,s.heap.get? p=some o/\o.ExactDict:=by
    rcases hk with⟨kvs,hk⟩|⟨kvs,hk⟩
    ·obtain⟨_,_,_,_,o,_,_,e,ex,_⟩:=I.hok p _ hk;exact⟨o,e,ex⟩
    ·obtain⟨_,_,_,_,o,_,_,e,ex,_⟩:=I.hok p _ hk;exact⟨o,e,ex⟩
   obtain⟨o,e,ex⟩:=z;refine⟨⟨o,e,ex.1⟩,λa e2=> ?_⟩;cases e2;exact⟨o,e,ex.2.1⟩
  ·obtain⟨o,_,_,_,e,ex,_⟩:=I.hok p _ hk;refine⟨⟨o,e,ex.1⟩,λa e2=> ?_⟩;cases e2;exact⟨o,e,ex.2.1⟩
 |_=>exact False.elim ty
def tBM0(K:Frag)(T:String)(r:V->List V->Hp->VK->Prop)(to:TE):TE:=λσ H Q=>to σ H λx H1=>tyV K T x H1/\r x [] H1 Q
def tBM(K:Frag)(T:String)(r:V->List V->Hp->VK->Prop)(to:TE)(t:TA):TE:=λσ H Q=>to σ H λx H1=>tyV K T x H1/\t σ H1 λxs H2=>r x xs H2 Q
variable{o e:Expr}{es:List Expr}{to:TE}{t:TA}{name:Str}{apos cpos:Pos}{T id:String}{r:V->List V->Hp->VK->Prop}
theorem pe_bm0(pa:PlainAttrs T)(slot:Slot T name id)(hty:typeOf (.builtin id)=pure (.type "method_descriptor"))(hm:MtR X id r)(ho:PE X o to)(hbase:attributeBase o name X.env (eval o X.env)=eval o X.env:=by rfl)(hline:(apos.endLine==cpos.line)=true:=by rfl):PE X (.Call (.Attribute o name apos) [] [] cpos) (tBM0 X.K T r to):=by
 intro pins s σ H Q I h;refine wpAny_Call_method0_late hbase hline (thn (ho pins s σ H _ I h) λv s1 ⟨x,H1,I1,r1,ty,q1⟩=> ?_);obtain⟨h1,h2⟩:=Ve I1 r1 ty;exact⟨T,id,pa,slot,hty,h1,h2,Calls.callWith_builtin rfl (PySem.evalArgs_none (hm pins s1 σ H1 x [] v [] Q I1 r1 .nil q1))⟩
theorem Dk(pa:PlainAttrs T)(slot:Slot T name id)(hty:typeOf (.builtin id)=pure (.type "method_descriptor"))(hm:MtR X id r)(ho:PE X o to)(ha:PA X (e::es) t)(hbase:attributeBase o name X.env (eval o X.env)=eval o X.env:=by rfl)(hfew:((backTo cpos (starEach (e::es) X.env)).all (λx=> !x.1) && (backToKw cpos (keywordEach [] X.env)).all (λx=>x.1.isSome)
   && decide ((e::es).length+([]:List Keyword).length+(if ([]:List Keyword).isEmpty then 0 else 1)<30))=true:=by rfl)(hline:(apos.endLine==cpos.line)=true:=by rfl)(hs:starEach (e::es) X.env=(false,eval e X.env)::starEach es X.env:=by rfl)(hplain:(backTo cpos (starEach es X.env)).any (·.1)=false:=by rfl):
  PE X (.Call (.Attribute o name apos) (e::es) [] cpos) (tBM X.K T r to t):=by
 intro pins s σ H Q I h;refine wpAny_Call_method_late hbase hfew hline rfl (thn (ho pins s σ H _ I h) λv s1 ⟨x,H1,I1,r1,ty,q1⟩=> ?_);obtain⟨h1,h2⟩:=Ve I1 r1 ty;refine⟨T,id,pa,slot,hty,h1,h2,?_⟩;have hA:=ha cpos pins s1 σ H1 _ I1 q1;rw[hs] at hA ⊢;refine Calls.callWith_builtin (by show (false||(backTo cpos (starEach es X.env)).any (·.1))=false;rw[hplain]<;> rfl) (Calls.evalArgs_plain ?_);exact thn hA λus s2 ⟨vs,H2,I2,r2,q2⟩=>hm pins s2 σ H2 x vs v us Q I2 r1 r2 q2
end
def MtM(X:Cx)(id:String)(r:V->List V->Hp->VK->Prop):Prop:=
 ∀(pins:List (Addr×Obj)) (s:Shared) (σ:St) (H:Hp) (x:V) (xs:List V) (v:Value) (us:List Value) (Q:VK),Inv X pins σ H s->RelV x v->Vals xs us->r x xs H Q->
  wpAny (model X.prog X.w) X.A (call (.builtin id) (v::us)) (EP X pins σ Q) X.xe s
theorem Vals.one:∀{x:V} {us:List Value},Vals [x] us->∃u,us=[u]/\RelV x u
 |_,_,.cons r .nil=>⟨_,rfl,r⟩
theorem Vals.zero:∀{us:List Value},Vals [] us->us=[]
 |_,.nil=>rfl
theorem Vals.dropLast{xs:List V}{us:List Value}(h:Vals xs us):Vals xs.dropLast us.dropLast:=by
 induction h with
 |nil=>exact .nil
 |cons r t ih=>
  cases t with
  |nil=>exact .nil
  |cons q t'=>exact .cons r ih
theorem Vals.eraseIdx:∀{xs:List V} {us:List Value} (i:Nat),Vals xs us->Vals (xs.eraseIdx i) (us.eraseIdx i)
 |_,_,_,.nil=> .nil
 |_,_,0,.cons _ t=>t
 |_,_,i+1,.cons r t=> .cons r (Vals.eraseIdx i t)
theorem Vals.reverse{xs:List V}{us:List Value}(h:Vals xs us):Vals xs.reverse us.reverse:=by
 induction h with
 |nil=>exact .nil
 |cons r t ih=>rw[List.reverse_cons,List.reverse_cons];exact Vals.append ih (.cons r .nil)
theorem Vals.rep{xs:List V}{us:List Value}(h:Vals xs us):∀k:Nat,Vals (replicate k xs).flatten (replicate k us).flatten
 |0=> .nil
 |k+1=>by
  rw[replicate_succ,replicate_succ,flatten_cons,flatten_cons];exact Vals.append h (Vals.rep h k)
theorem Pe{α:Type}(l:List α):l.eraseIdx (l.length - 1)=l.dropLast:=by
 induction l with
 |nil=>rfl
 |cons a r ih=>
  cases r with
  |nil=>rfl
  |cons b r=>
   have e:(a::b::r).length - 1=((b::r).length - 1)+1:=by
    have h1:(a::b::r).length=r.length+2:=rfl;have h2:(b::r).length=r.length+1:=rfl;assumption
   rw[e,List.eraseIdx_cons_succ,ih]
   all_goals rfl
theorem Lm{α:Type}:∀(l:List α) (i:Nat),(l.eraseIdx i).length<=l.length
 |[],_=>le_refl _
 |_::_,0=>le_succ _
 |_::r,i+1=>Nat.succ_le_succ (Lm r i)
theorem La(its:List Value):∀(k:Nat) (acc:List Value),
  foldl (λx1 x2=>x1++x2) acc.toArray (replicate k its.toArray)=(acc++(replicate k its).flatten).toArray
 |0,acc=>by simp
 |k+1,acc=>by
  have e:acc.toArray++its.toArray=(acc++its).toArray:=by simp
  have e2:(acc++its)++(replicate k its).flatten=acc++(replicate (k+1) its).flatten:=by
   rw[replicate_succ,flatten_cons,append_assoc]
  rw[<-e2,<-La its k (acc++its),<-e,replicate_succ,foldl_cons]
section
variable{X:Cx}{pins:List (Addr×Obj)}{σ:St}{H:Hp}{s:Shared}{l b:Addr}{xs ys zs:List V}
theorem Inv.lset{its its':List Value}{n:Nat}{f:Array Value->Array Value}{t':Nat}(I:Inv X pins σ H s)(hH:H l=some (.lst xs))(e:s.heap.get? l=some {cls:= .type "list",data:= .seq its.toArray n})(hf:f its.toArray=its'.toArray)(hv:Vals ys its')(hz:ys.length<=sizeLine):
  Inv X pins σ (upd H l (.lst ys)) {s with heap:=s.heap.update l (Obj.mapSeq f),toks:=t'}:=by
 have q:=PySem.IsL.update e f;rw[hf] at q;refine I.write (x:=l) (e:=l) (by rw[hH];exact trivial) (.inl rfl) (λb' u hb hu=>(Heap.get?_update_other s.heap (Obj.mapSeq f) (Ne.symm hb)).trans hu) ⟨_,q⟩ ?_;exact⟨hz,its',_,hv,q⟩
theorem Inv.lnew{its:List Value}{t':Nat}(I:Inv X pins σ H s)(hv:Vals ys its)(hz:ys.length<=sizeLine):
  Inv X pins σ (upd H s.heap.objs.size (.lst ys)) {s with heap:=s.heap.push {cls:= .type "list",data:= .seq its.toArray},toks:=t'}:=
 I.laid (λ_ _ q=>Lt _ q) (le_refl _) ⟨hz,its,0,hv,Qa7 _ rfl⟩
theorem Inv.fresh(I:Inv X pins σ H s):H s.heap.objs.size=none:=I.hok.fresh (le_refl _)
theorem Inv.lstM(I:Inv X pins σ H s)(hH:H l=some (.lst xs)):xs.length<=sizeLine/\∃(its:List Value) (n:Nat),Vals xs its/\xs.length=its.length/\s.heap.get? l=some {cls:= .type "list",data:= .seq its.toArray n}:=by
 obtain⟨z,its,n,r,e⟩:=I.hok l _ hH;exact⟨z,its,n,r,r.length,e⟩
theorem N5{n:Nat}(h:n<=sizeLine):Builtin.List.listTooLong n=false:=by
 unfold Builtin.List.listTooLong;exact decide_eq_false (by omega)
end
section
variable{X:Cx}
inductive N8(x:V)(vs:List V)(H:Hp)(Q:VK):Prop
 |mk (l xs y:_):(x= .ref l)->(vs=[y])->(H l=some (.lst xs))->(xs.length<sizeLine)->(Q .non (upd H l (.lst (xs++[y]))))->N8 x vs H Q
def Y7:V->List V->Hp->VK->Prop:=λx vs H Q=>N8 x vs H Q
theorem Bw:MtM X "list.append" Y7:=by
 intro pins s σ H x vs v us Q I rx rv h;obtain⟨l,xs,y,rfl,rfl,hH,hz,q⟩:=h;cases rx;obtain⟨u,rfl,ru⟩:=rv.one;obtain⟨z,its,n,r,hl,e⟩:=I.lstM hH;refine call_meets F.slot_list_append ⟨_,e,rfl⟩ F.entry_list_append (F.args_list_append_2 _ _) (PySem.list_append l its.toArray n u (by rw[size_toArray];omega)) ⟨e,?_⟩;refine⟨.non,_,I.lset (its':=its++[u]) hH e (by simp) (r.append (.cons ru .nil)) ?_,rfl,q⟩;rw[Qa0,List.length_singleton];assumption
inductive Ni(x:V)(vs:List V)(H:Hp)(Q:VK):Prop
 |mk (l b xs zs:_):(x= .ref l)->(vs=[.ref b])->(H l=some (.lst xs))->(H b=some (.lst zs))->(xs.length+zs.length<=sizeLine)->(Q .non (upd H l (.lst (xs++zs))))->Ni x vs H Q
def Zw:V->List V->Hp->VK->Prop:=λx vs H Q=>Ni x vs H Q
theorem Tf:MtM X "list.extend" Zw:=by
 intro pins s σ H x vs v us Q I rx rv h;obtain⟨l,b,xs,zs,rfl,rfl,hH,hB,hz,q⟩:=h;cases rx;obtain⟨u,rfl,ru⟩:=rv.one;cases ru;obtain⟨z,its,n,r,hl,e⟩:=I.lstM hH;obtain⟨z2,its2,n2,r2,hl2,e2⟩:=I.lstM hB;have hsz:its.toArray.size+its2.toArray.size<=sizeLine:=by rw[size_toArray,size_toArray];omega
 have hlong:¬(!its.toArray.isEmpty && Builtin.List.listTooLong (its.toArray.size+its2.toArray.size))=true:=by
  rw[N5 hsz,Bool.and_false];exact Bool.false_ne_true
 refine call_meets F.slot_list_extend ⟨_,e,rfl⟩ F.entry_list_extend (F.args_list_extend_2 _ _)
  (AutoSeq1.list_extend_list_list_0 l its.toArray n b its2.toArray n2 hlong (by rw[size_toArray];omega) (by exact le_trans (by assumption) (by decide))) ⟨e,e2,?_⟩
 refine⟨.non,_,I.lset (its':=its++its2) hH e (by simp) (r.append r2) ?_,rfl,q⟩;rw[Qa0];assumption
inductive RPopP(x:V)(vs:List V)(H:Hp)(Q:VK):Prop
 |mk (l xs y:_):(x= .ref l)->(vs=[])->(H l=some (.lst xs))->(xs[xs.length - 1]? =some y)->(Q y (upd H l (.lst xs.dropLast)))->RPopP x vs H Q
def rPop:V->List V->Hp->VK->Prop:=λx vs H Q=>RPopP x vs H Q
theorem mt_pop:MtM X "list.pop" rPop:=by
 intro pins s σ H x vs v us Q I rx rv h;obtain⟨l,xs,y,rfl,rfl,hH,hy,q⟩:=h;cases rx;have hus:=rv.zero;subst hus;obtain⟨z,its,n,r,hl,e⟩:=I.lstM hH;obtain⟨u,hu,ru⟩:=r.get hy;have hy':its.toArray[its.toArray.size - 1]? =some u:=by
  show its.toArray[its.length - 1]? =some u;rw[<-Qe3,<-hl];exact hu
 refine call_meets F.slot_list_pop ⟨_,e,rfl⟩ F.entry_list_pop (F.args_list_pop_1 _) (MeetsSeq.list_pop_last l its.toArray n u hy' (by rw[size_toArray];omega)) ⟨e,?_⟩;refine⟨y,_,I.lset (its':=its.dropLast) hH e ?_ r.dropLast ?_,ru,q⟩
 ·show its.toArray.eraseIdxIfInBounds (its.toArray.size - 1)=its.dropLast.toArray;rw[size_toArray,List.eraseIdxIfInBounds_toArray,Pe]
 ·rw[List.length_dropLast];omega
inductive Q9(x:V)(vs:List V)(H:Hp)(Q:VK):Prop
 |mk (l xs i k y:_):(x= .ref l)->(vs=[.int i])->(H l=some (.lst xs))->(-(2 ^ 63)<=i)->(i<2 ^ 63)->(seqIndex? i xs.length=some k)->(xs[k]? =some y)->(Q y (upd H l (.lst (xs.eraseIdx k))))->Q9 x vs H Q
def rPopAt:V->List V->Hp->VK->Prop:=λx vs H Q=>Q9 x vs H Q
theorem M9:MtM X "list.pop" rPopAt:=by
 intro pins s σ H x vs v us Q I rx rv h;obtain⟨l,xs,i,k,y,rfl,rfl,hH,h1,h2,hk,hy,q⟩:=h;cases rx;obtain⟨u,rfl,ru⟩:=rv.one;obtain⟨t,rfl⟩:=ru;obtain⟨z,its,n,r,hl,e⟩:=I.lstM hH;obtain⟨w,hw,rw'⟩:=r.get hy;refine call_meets F.slot_list_pop ⟨_,e,rfl⟩ F.entry_list_pop (F.args_list_pop_2 _ _)
  (MeetsSeq.list_pop_at l its.toArray n i t k w (fitsIndex_both h1 h2) (by rw[size_toArray,<-hl];exact hk) (by rw[<-Qe3];exact hw) (by rw[size_toArray];omega)) ⟨e,?_⟩
 refine⟨y,_,I.lset (its':=its.eraseIdx k) hH e ?_ (r.eraseIdx k) ?_,rw',q⟩
 ·show its.toArray.eraseIdxIfInBounds k=(its.eraseIdx k).toArray;rw[List.eraseIdxIfInBounds_toArray]
 ·have:=Lm xs k;exact le_trans (by assumption) (by assumption)
inductive RCatP(x:V)(y:V)(H:Hp)(Q:VK):Prop
 |mk (l b xs zs:_):(x= .ref l)->(y= .ref b)->(H l=some (.lst xs))->(H b=some (.lst zs))->(xs.length+zs.length<=sizeLine)->(∀p,H p=none->Q (.ref p) (upd H p (.lst (xs++zs))))->RCatP x y H Q
def rCat:R2:=λx y H Q=>RCatP x y H Q
theorem op_cat:OpR X (binaryOp .Add) rCat:=by
 intro pins s σ H x y v u Q I rx ry h;obtain⟨l,b,xs,zs,rfl,rfl,hH,hB,hz,q⟩:=h;cases rx;cases ry;obtain⟨z,its,n,r,hl,e⟩:=I.lstM hH;obtain⟨z2,its2,n2,r2,hl2,e2⟩:=I.lstM hB;refine PySem.P.add_list e e2 ?_ (by rw[size_toArray,size_toArray];omega);have ea:its.toArray++its2.toArray=(its++its2).toArray:=by simp
 rw[ea];exact⟨.ref _,_,I.lnew (t':=s.toks) (r.append r2) (by rw[Qa0];assumption),rfl,q _ I.fresh⟩
inductive RRepP(x:V)(y:V)(H:Hp)(Q:VK):Prop
 |mk (l k xs:_):(x= .ref l)->(y= .int k)->(H l=some (.lst xs))->(-(2 ^ 63)<=k)->(k<2 ^ 63)->(xs.length * k.toNat<=sizeLine)->(∀p,H p=none->Q (.ref p) (upd H p (.lst (replicate k.toNat xs).flatten)))->RRepP x y H Q
def rRep:R2:=λx y H Q=>RRepP x y H Q
theorem Ys{α:Type}(xs:List α)(k:Nat):(replicate k xs).flatten.length=k * xs.length:=by
 induction k with
 |zero=>simp
 |succ k ih=>rw[replicate_succ,flatten_cons,Qa0,ih,Nat.succ_mul,Nat.add_comm]
theorem Vg:OpR X (binaryOp .Mult) rRep:=by
 intro pins s σ H x y v u Q I rx ry h;obtain⟨l,k,xs,rfl,rfl,hH,h1,h2,hz,q⟩:=h;cases rx;obtain⟨t,rfl⟩:=ry;obtain⟨z,its,n,r,hl,e⟩:=I.lstM hH;have hlen:its.toArray.size * k.toNat<=sizeLine:=by rw[size_toArray,<-hl];exact hz
 have hcap:¬its.toArray.size * k.toNat > (2 ^ 63 - 1) / 8:=by
  have:(sizeLine:Nat)<=(2 ^ 63 - 1) / 8:=by decide
  omega
 have hfit:¬(!Builtin.List.listFitsIndex k)=true:=by
  rw[fitsIndex_both h1 h2];exact Bool.false_ne_true
 have hlong:¬Builtin.List.listTooLong (its.toArray.size * k.toNat)=true:=by
  rw[N5 hlen];exact Bool.false_ne_true
 have hnew:foldl (λx1 x2=>x1++x2) #[] (replicate (if its.toArray.isEmpty=true then 0 else k.toNat) its.toArray)=(replicate k.toNat its).flatten.toArray:=by
  have f0:∀m:Nat,foldl (λx1 x2=>x1++x2) #[] (replicate m its.toArray)=(replicate m its).flatten.toArray:=λm=>by
   have:=La its m [];rw[List.nil_append] at this;exact this
  rw[f0];cases its with
  |nil=>simp
  |cons a r'=>rw[Qa2 (by simp)]
 refine wpAny_binaryOp_repeat_ref (T:="list") (U:="int") (by decide) ⟨_,e,rfl⟩ (λs'=>typeIs_int s' k t) noFill_list_mul F.fills_int_mul F.slot_int_rmul repeat_list F.slot_int_index.lookup
  (call_meets F.slot_int_rmul (typeIs_int s k t) F.entry_int_rmul (F.args_int_rmul_2 _ _) (int___rmul___int_list k t l its.toArray n)
   ⟨e,rfl,⟨_,e,rfl⟩,call_meets F.slot_list_mul ⟨_,e,rfl⟩ F.entry_list_mul (F.args_list_mul_2 _ _) (AutoListH.list___mul___list_int_3 l its.toArray n k t hfit hcap hlong) ⟨e,?_⟩⟩)
 rw[hnew];exact⟨.ref _,_,I.lnew (t':=s.toks) (r.rep k.toNat) (by rw[Ys,Nat.mul_comm];exact hz),rfl,q _ I.fresh⟩
end
section
variable{κ:Type}[DecidableEq κ]
def Dn(kvs:List (κ×V))(k:κ):Option V:=(kvs.find? λkv=>decide (kv.1=k)).map (·.2)
def Ej(kvs:List (κ×V))(k:κ)(v:V):List (κ×V):=
 if (kvs.any λkv=>decide (kv.1=k))=true then kvs.map (λkv=>if kv.1=k then (kv.1,v) else kv) else kvs++[(k,v)]
def Jq(kvs:List (κ×V))(k:κ):List (κ×V):=kvs.filter λkv=>decide (kv.1≠k)
theorem Gn{p:κ×V}{r:List (κ×V)}{k:κ}(e:p.1=k):Dn (p::r) k=some p.2:=by simp[Dn,find?_cons,e]
theorem Fa{p:κ×V}{r:List (κ×V)}{k:κ}(e:¬p.1=k):Dn (p::r) k=Dn r k:=by simp[Dn,find?_cons,e]
theorem J7(k:κ):∀kvs:List (κ×V),(kvs.any λkv=>decide (kv.1=k))=(Dn kvs k).isSome
 |[]=>rfl
 |p::r=>by
  rw[any_cons];by_cases e:p.1=k
  ·simp only[Gn e,decide_eq_true e,Bool.true_or,Option.isSome_some]
  ·rw[Fa e,decide_eq_false e,Bool.false_or];exact J7 k r
theorem E3(kvs:List (κ×V))(k:κ)(v:V):(Ej kvs k v).length<=kvs.length+1:=by
 unfold Ej;split
 ·rw[If];exact le_add_right _ _
 ·rw[Qa0,Qa6,Qb9];exact Nat.add_le_add_left (by decide) _
theorem Ur{kvs:List (κ×V)}{k:κ}(v:V)(h:Dn kvs k=none):Ej kvs k v=kvs++[(k,v)]:=by
 unfold Ej;rw[J7,h];exact Qa2 (by decide)
theorem RelO.isSome_eq{o:Option V}{u:Option Value}(r:RelO o u):o.isSome=u.isSome:=by
 cases o with
 |none=>cases u with
  |none=>rfl
  |some _=>exact(show False from r).elim
 |some _=>cases u with
  |none=>exact(show False from r).elim
  |some _=>rfl
theorem KV.val{kvs:List (κ×V)}{vs:List (κ×Value)}(r:KV kvs vs)(k:κ):RelO (Dn kvs k) (valueAt vs k):=by
 unfold KV at r
 induction r with
 |nil=>exact True.intro
 | @cons p q ps qs h t ih=>
  obtain⟨h1,h2⟩:=h;by_cases e:p.1=k
  ·have e':q.1=k:=h1.symm.trans e;have b:valueAt (q::qs) k=some q.2:=by simp[valueAt,find?_cons,e']
   rw[Gn e,b];exact h2
  ·have e':¬q.1=k:=λz=>e (h1.trans z);have b:valueAt (q::qs) k=valueAt qs k:=by simp[valueAt,find?_cons,e']
   rw[Fa e,b];exact ih
theorem KV.any{kvs:List (κ×V)}{vs:List (κ×Value)}(r:KV kvs vs)(k:κ):(kvs.any λkv=>decide (kv.1=k))=vs.any λkv=>decide (kv.1=k):=by
 unfold KV at r
 induction r with
 |nil=>rfl
 |cons h t ih=>rw[any_cons,any_cons,ih,h.1]
theorem KV.repl{kvs:List (κ×V)}{vs:List (κ×Value)}(r:KV kvs vs)(k:κ){y:V}{u:Value}(ry:RelV y u):
  KV (kvs.map λkv=>if kv.1=k then (kv.1,y) else kv) (vs.map λkv=>if kv.1=k then (kv.1,u) else kv):=by
 unfold KV at r ⊢
 induction r with
 |nil=>exact .nil
 | @cons p q ps qs h t ih=>
  rw[Qb5,Qb5];refine .cons ?_ ih;obtain⟨h1,h2⟩:=h;by_cases e:p.1=k
  ·rw[Qa3 e,Qa3 (h1.symm.trans e)];exact⟨h1,ry⟩
  ·rw[Qa2 e,Qa2 (λz=>e (h1.trans z))];exact⟨h1,h2⟩
theorem KV.put{kvs:List (κ×V)}{vs:List (κ×Value)}(r:KV kvs vs)(k:κ){y:V}{u:Value}(ry:RelV y u):KV (Ej kvs k y) (stored vs k u):=by
 unfold Ej stored;rw[r.any k];by_cases e:(vs.any λkv=>decide (kv.1=k))=true
 ·rw[Qa3 e,Qa3 e];exact r.repl k ry
 ·rw[Qa2 e,Qa2 e];exact Paired.snoc r ⟨rfl,ry⟩
theorem KV.drop{kvs:List (κ×V)}{vs:List (κ×Value)}(r:KV kvs vs)(k:κ):KV (Jq kvs k) (without vs k):=by
 unfold KV at r ⊢;unfold Jq without
 induction r with
 |nil=>exact .nil
 | @cons p q ps qs h t ih=>
  obtain⟨h1,h2⟩:=h;rw[Qf0,Qf0];by_cases e:p.1=k
  ·have a:¬decide (p.1≠k)=true:=by simp[e]
   have b:¬decide (q.1≠k)=true:=by simp[h1.symm.trans e]
   rw[Qa2 a,Qa2 b];exact ih
  ·have e':¬q.1=k:=λz=>e (h1.trans z);have a:decide (p.1≠k)=true:=by simp[e]
   have b:decide (q.1≠k)=true:=by simp[e']
   rw[Qa3 a,Qa3 b];exact .cons ⟨h1,h2⟩ ih
theorem KV.length{kvs:List (κ×V)}{vs:List (κ×Value)}(r:KV kvs vs):kvs.length=vs.length:=Paired.length r
theorem Xw(kvs:List (κ×V))(k:κ):(Jq kvs k).length<=kvs.length:=Qb2 _ _
end
theorem O7{P:Program}{w:World}{k:Key}{u:Value}(r:RelV (kV k) u):(Bm P w).is k u=true:=by
 cases k with
 |inl i=>obtain⟨t,e⟩:=(show ∃t,u=Value.int i t from r);subst e;exact Nb P w i t
 |inr x=>obtain⟨t,e⟩:=(show ∃t,u=Value.str x t from r);subst e;exact Oq P w x t
theorem Lj{P:Program}{w:World}:∀{ks:List Key} {us:List Value},Vals (ks.map kV) us->ItemsAre (Bm P w) ks us
 |[],_,r=>by rw[map_nil] at r;cases r;exact .nil
 |k::ks,_,r=>by
  rw[Qb5] at r;cases r with
  |cons h t=>exact .cons (O7 h) (Lj t)
abbrev KT(H:Hp):List (List Key×V)->List (List Key×Addr×Value)->Prop:=Paired λp q=>p.1=q.1/\H q.2.1=some (.tup (p.1.map kV))/\RelV p.2 q.2.2
theorem KT.val{H:Hp}{kvs:List (List Key×V)}{xs:List (List Key×Addr×Value)}(r:KT H kvs xs)(k:List Key):RelO (Dn kvs k) ((atKey xs k).map (·.2)):=by
 induction r with
 |nil=>exact True.intro
 | @cons p q ps qs h t ih=>
  obtain⟨h1,_,h2⟩:=h;by_cases e:p.1=k
  ·have e':q.1=k:=h1.symm.trans e;have b:atKey (q::qs) k=some q.2:=by simp[atKey,find?_cons,e']
   rw[Gn e,b];exact h2
  ·have e':¬q.1=k:=λz=>e (h1.trans z);have b:atKey (q::qs) k=atKey qs k:=by simp[atKey,find?_cons,e']
   rw[Fa e,b];exact ih
theorem KT.repl{H:Hp}{kvs:List (List Key×V)}{xs:List (List Key×Addr×Value)}(r:KT H kvs xs)(k:List Key){y:V}{u:Value}(ry:RelV y u):
  KT H (kvs.map λkv=>if kv.1=k then (kv.1,y) else kv) (xs.map (putAt k u)):=by
 induction r with
 |nil=>exact .nil
 | @cons p q ps qs h t ih=>
  rw[Qb5,Qb5];refine .cons ?_ ih;obtain⟨h1,h2,h3⟩:=h;unfold putAt;by_cases e:p.1=k
  ·rw[Qa3 e,Qa3 (h1.symm.trans e)];exact⟨h1,h2,ry⟩
  ·rw[Qa2 e,Qa2 (λz=>e (h1.trans z))];exact⟨h1,h2,h3⟩
theorem KT.put{H:Hp}{kvs:List (List Key×V)}{xs:List (List Key×Addr×Value)}(r:KT H kvs xs)(k:List Key){b:Addr}{y:V}{u:Value}(hb:H b=some (.tup (k.map kV)))(ry:RelV y u):
  KT H (Ej kvs k y) (storedH xs k b u):=by
 have e:(kvs.any λkv=>decide (kv.1=k))=(atKey xs k).isSome:=by
  rw[J7,(r.val k).isSome_eq,Option.isSome_map]
 unfold Ej storedH;rw[e];by_cases q:(atKey xs k).isSome=true
 ·rw[Qa3 q,Qa3 q];exact r.repl k ry
 ·rw[Qa2 q,Qa2 q];exact Paired.snoc r ⟨rfl,hb,ry⟩
theorem KT.keeps{H H':Hp}{kvs:List (List Key×V)}{xs:List (List Key×Addr×Value)}(r:KT H kvs xs)(ht:∀b ys,H b=some (.tup ys)->H' b=some (.tup ys)):KT H' kvs xs:=
 Paired.mapP r λ_ _ z=>⟨z.1,ht _ _ z.2.1,z.2.2⟩
section
variable{P:Program}{w:World}{H:Hp}{h:Heap}{a:Addr}
theorem rd_of{u:HO}(ok:HOk P w H h)(e:Rd H a u):ObjOk P w H h a u:=e.ok ok
theorem Rf{kvs:List (Key×V)}(ok:HOk P w H h)(e:Rd H a (.dK kvs)):kvs.length<=sizeLine/\(a==sysModules)=false/\∃vs,KV kvs vs/\h.DictOf (Bm P w) a vs:=
 show ObjOk P w H h a (.dK kvs) from rd_of ok e
theorem Rz{kvs:List (Key×V)}(ok:HOk P w H h)(e:H a=some (.dK kvs)):kvs.length<=sizeLine/\(a==sysModules)=false/\∃vs,KV kvs vs/\h.DictOf (Bm P w) a vs:=Rf ok (.inl e)
theorem O8{ks:List Key}(ok:HOk P w H h)(e:H a=some (.tup (ks.map kV))):(tupleKind (Bm P w)).is h ks a:=by
 obtain⟨_,its,r,o,h1,h2,_,n,h3⟩:=(show ObjOk P w H h a (.tup (ks.map kV)) from ok a _ e)
 exact⟨o,its.toArray,n,h1,h2,h3,by simpa using Lj r⟩
theorem Qz{kvs:List (List Key×V)}(ok:HOk P w H h)(e:Rd H a (.dT kvs)):kvs.length<=sizeLine/\(a==sysModules)=false/\
  ∃xs,KT H kvs xs/\h.DictOfH (tupleKind (Bm P w)) a xs:=by
 obtain⟨z,y,xs,r,o,es,ep,h1,h2,h3,h4,h5⟩:=(show ObjOk P w H h a (.dT kvs) from rd_of ok e)
 refine⟨z,y,xs,r,o,es,ep,h1,h2,h3,h4,λx hx=> ?_,h5⟩;have all:∀{l:List (List Key×V)} {m:List (List Key×Addr×Value)},KT H l m->∀x∈m,(tupleKind (Bm P w)).is h x.1 x.2.1:=by
  intro l m q
  induction q with
  |nil=>intro x hx;exact nomatch hx
  | @cons p q ps qs hq t ih=>
   intro x hx;rcases Qa9.mp hx with e|hx
   ·subst e;exact O8 ok (by rw[<-hq.1];exact hq.2.1)
   ·exact ih x hx
 exact all r x hx
theorem dt_of{kvs:List (List Key×V)}(ok:HOk P w H h)(e:H a=some (.dT kvs)):kvs.length<=sizeLine/\(a==sysModules)=false/\
  ∃xs,KT H kvs xs/\h.DictOfH (tupleKind (Bm P w)) a xs:=Qz ok (.inl e)
end
def DGet(H:Hp)(a:Addr)(y:V)(r:Option V):Prop:=
 (∃kvs k,Rd H a (.dK kvs)/\y=kV k/\r=Dn kvs k)\/∃kvs k b,Rd H a (.dT kvs)/\y= .ref b/\H b=some (.tup (k.map kV))/\r=Dn kvs k
def DPut(H:Hp)(a:Addr)(y v:V)(H':Hp):Prop:=
 (∃kvs k,H a=some (.dK kvs)/\y=kV k/\kvs.length<sizeLine/\H'=upd H a (.dK (Ej kvs k v)))\/
 ∃kvs k b,H a=some (.dT kvs)/\y= .ref b/\H b=some (.tup (k.map kV))/\kvs.length<sizeLine/\H'=upd H a (.dT (Ej kvs k v))
theorem DGet.k{H:Hp}{a:Addr}{kvs:List (Key×V)}{k:Key}(e:H a=some (.dK kvs)):DGet H a (kV k) (Dn kvs k):= .inl ⟨kvs,k,.inl e,rfl,rfl⟩
theorem DPut.k{H:Hp}{a:Addr}{kvs:List (Key×V)}{k:Key}{v:V}(e:H a=some (.dK kvs))(hl:kvs.length<sizeLine):DPut H a (kV k) v (upd H a (.dK (Ej kvs k v))):= .inl ⟨kvs,k,e,rfl,hl,rfl⟩
section
variable{X:Cx}{pins:List (Addr×Obj)}{σ:St}{H:Hp}{s:Shared}{a:Addr}{y v:V}{u r:Value}{o:Option V}{A:Around}{E:Value->Shared->Prop}
theorem Inv.big(I:Inv X pins σ H s):sysModules<s.heap.objs.size:=by
 have h:mainGlobals<s.heap.objs.size:=(I.mod.glob.keeps I.bk).lt;exact Nat.lt_trans (by decide) h
theorem Tw{Q:Value->Shared->Prop}(hu:A.units+1<cLine)(I:Inv X pins σ H s)(g:DGet H a y (some v))(ry:RelV y u)(h:∀w' s',Inv X pins σ H s'->RelV v w'->Q w' s'):
  wpAny (model X.prog X.w) A (getItem (.ref a) u) Q E s:=by
 rcases g with⟨kvs,k,e,ey,l⟩|⟨kvs,k,b,e,ey,eb,l⟩
 ·subst ey;obtain⟨z,hd,vs,rel,dd⟩:=Rf I.hok e;obtain⟨w',hw,rw'⟩:=RelO.some_of (v:=v) (o:=valueAt vs k) (by rw[l];exact rel.val k);exact wpAny_getItem_of (O7 ry) dd.mapOf hw (h w' _ (I.tok _) rw')
 ·subst ey;cases (show u=Value.ref b from ry);obtain⟨z,hd,xs,rel,dd⟩:=Qz I.hok e;obtain⟨w',hw,rw'⟩:=RelO.some_of (v:=v) (o:=(atKey xs k).map (·.2)) (by rw[l];exact rel.val k);obtain⟨p,hp,hp2⟩:=map_eq_some_iff.mp hw;refine wpAny_getItem_heap (tupleKind_room_in1 hu) (O8 I.hok eb) dd hp ?_;rw[hp2];exact h w' _ (I.tok _) rw'
theorem Jd{h':Heap}{t':Nat}{ob:HO}(I:Inv X pins σ H s)(mu:Mut (H a))(hs:SameBut a s.heap h')(he:∃q,h'.get? a=some q)(new:ObjOk X.prog X.w (upd H a ob) h' a ob):
  Inv X pins σ (upd H a ob) {s with heap:=h',toks:=t'}:=
 I.write (x:=a) (e:=a) mu (.inl rfl) (λb q hb z=>(hs.2 b hb).trans z) he new
theorem Qn{P:Program}{w:World}{H':Hp}{h':Heap}{kvs:List (Key×V)}{vs:List (Key×Value)}(z:kvs.length<=sizeLine)(hd:(a==sysModules)=false)(rel:KV kvs vs)(dd:h'.DictOf (Bm P w) a vs):
  ObjOk P w H' h' a (.dK kvs):=⟨z,hd,vs,rel,dd⟩
theorem Ug{H':Hp}{Q:Unit->Shared->Prop}(hu:A.units+1<cLine)(I:Inv X pins σ H s)(g:DPut H a y v H')(ry:RelV y u)(rv:RelV v r)(h:∀s',Inv X pins σ H' s'->Q () s'):
  wpAny (model X.prog X.w) A (setItem (.ref a) u r) Q E s:=by
 rcases g with⟨kvs,k,e,ey,l,eH⟩|⟨kvs,k,b,e,ey,eb,l,eH⟩
 ·subst ey eH;obtain⟨z,hd,vs,rel,dd⟩:=Rz I.hok e;have hz:vs.length<=sizeLine:=by rw[<-rel.length];exact z
  have hl:(Ej kvs k v).length<=sizeLine:=by have:=E3 kvs k v;exact le_trans (by assumption) (by assumption)
  refine wpAny_setItem_pairs (hsz:=hz) (O7 ry) dd λh' dd' hs=>h _ ?_;have he:∃q,h'.get? a=some q:=let ⟨q,_,_,hq,_⟩:=dd';⟨q,hq⟩
  exact Jd I (by rw[e];exact True.intro) hs he (Qn hl hd (rel.put k rv) dd')
 ·subst ey eH;cases (show u=Value.ref b from ry);obtain⟨z,hd,xs,rel,dd⟩:=dt_of I.hok e;have hz:xs.length<=sizeLine:=by rw[<-Paired.length rel];exact z
  have hl:(Ej kvs k v).length<=sizeLine:=by have:=E3 kvs k v;exact le_trans (by assumption) (by assumption)
  refine wpAny_setItem_heap (hsz:=hz) (tupleKind_room_in1 hu) (O8 I.hok eb) dd λh' dd' hs=>h _ ?_;obtain⟨q,es,ep,hq,h2,h3,h4,_,h5⟩:=dd';refine Jd I (by rw[e];exact True.intro) hs ⟨q,hq⟩ ⟨hl,hd,_,(rel.put k eb rv).keeps λc ys ec=> ?_,q,es,ep,hq,h2,h3,h4,h5⟩;rw[Al (Bx ec e (λz=>nomatch z))];exact ec
end
section
variable{X:Cx}{pins:List (Addr×Obj)}{σ:St}{H:Hp}{s:Shared}{a:Addr}{kvs:List (Key×V)}{k:Key}{u:Value}{A:Around}{E:Value->Shared->Prop}
theorem d_pop{v:V}{more:List Value}{Q:Value->Shared->Prop}(I:Inv X pins σ H s)(e:H a=some (.dK kvs))(ry:RelV (kV k) u)(l:Dn kvs k=some v)(hm:more=[]\/∃x,more=[x])(h:∀w' s',Inv X pins σ (upd H a (.dK (Jq kvs k))) s'->RelV v w'->Q w' s'):wpAny (model X.prog X.w) A (call (.builtin "dict.pop") (.ref a::u::more)) Q E s:=by
 obtain⟨z,hd,vs,rel,dd⟩:=Rz I.hok e;obtain⟨w',hw,rw'⟩:=RelO.some_of (v:=v) (o:=valueAt vs k) (by rw[<-l];exact rel.val k);have hp:(keyPart u).isSome=true:=by
  cases k with
  |inl i=>obtain⟨t,q⟩:=(show ∃t,u=Value.int i t from ry);subst q;rfl
  |inr x=>obtain⟨t,q⟩:=(show ∃t,u=Value.str x t from ry);subst q;rfl
 have ha:argsOk "dict.pop" ⟨.ref a::u::more,[]⟩:=by
  rcases hm with q|⟨x,q⟩
  ·subst q;exact PySem.F.args_dict_pop_2 _ _
  ·subst q;exact PySem.F.args_dict_pop_3 _ _ _
 refine call_meetsIn PySem.F.slot_dict_pop dd.typeIs PySem.F.entry_dict_pop ha (meets_dict_pop_there (Bm X.prog X.w) a (O7 ry) more hm hp)
  ⟨vs,w',dd,by rw[<-rel.length];exact z,hw,λh' dd' hs=>h w' _ ?_ rw'⟩
 have he:∃q,h'.get? a=some q:=let ⟨q,_,_,hq,_⟩:=dd';⟨q,hq⟩
 exact Jd I (by rw[e];exact True.intro) hs he (Qn (le_trans (Xw kvs k) z) hd (rel.drop k) dd')
end
def NoSl(i:Expr):Prop:=∀ov iv,subscripted i false ov iv=operate [ov,iv] (getItem ov iv)
theorem X9{prog:Program}{w:World}{A:Around}{E:Value->Shared->Prop}{s:Shared}{env:Env}{value slice:Expr}{pos:Pos}{T id:String}{Q:Value->Shared->Prop}(hl:typeLookup (.type T) "__getitem__"=pure (some (.builtin id)))(hs:NoSl slice)(h:wpAny (model prog w) A (eval value env) (λo s₁=>wpAny (model prog w) A (eval slice env) (λi s₂=>s₂.TypeIs o T/\wpAny (model prog w) A (getItem o i) Q E s₂) E s₁) E s):
  wpAny (model prog w) A (eval (.Subscript value slice pos) env) Q E s:=by
 refine Subscript_ (Qd8 h (λo s₁ h₁=>Qd8 h₁ (λi s₂ h₂=> ?_) λ_ _ x=>x) λ_ _ x=>x);obtain⟨hT,h₂⟩:=h₂;unfold subscriptTail;refine Gt ?_;rw[getitemInPython_of_ne hT.not_modules];refine Gt (wpAny_specialOf hT hl ?_);have fin:wpAny (model prog w) A (subscripted slice false o i) (λr s₃=>wpAny (model prog w) A (letTemporaryGo value o r >>=λ_=>pure r) Q E s₃) E s₂:=by
  rw[hs o i];exact wpAny_operating (Qd8 h₂ (λr s₃ h₃=>Gt (wpAny_letTemporaryGo (Qa1 h₃))) λ_ _ x=>x)
 first
  |exact Qa1 (Gt fin)
  |exact Gt (Qa1 (Gt fin))
  |exact Gt fin
theorem Nv{X:Cx}{pins:List (Addr×Obj)}{σ:St}{H:Hp}{s:Shared}{a:Addr}{y:V}{o:Option V}(I:Inv X pins σ H s)(g:DGet H a y o):s.TypeIs (.ref a) "dict":=by
 rcases g with⟨kvs,k,e,_,_⟩|⟨kvs,k,b,e,_,_,_⟩
 ·obtain⟨_,_,vs,_,dd⟩:=Rf I.hok e;exact dd.typeIs
 ·obtain⟨_,_,xs,_,dd⟩:=Qz I.hok e;exact dd.typeIs
def tDGet(td ty:TE):TE:=λσ H Q=>td σ H λx H1=>ty σ H1 λy H2=>∃a v,x= .ref a/\DGet H2 a y (some v)/\Q v H2
def sDPut(td ty tv:TE):TS:=λD σ H=>tv σ H λv H1=>td σ H1 λx H2=>ty σ H2 λy H3=>∃a H4,x= .ref a/\DPut H3 a y v H4/\D.nx σ H4
section
variable{X:Cx}{o i e value:Expr}{pos pos' tpos:Pos}{td ty tv:TE}
theorem Dy(hu:X.A.units+1<cLine)(ho:PE X o td)(hi:PE X i ty)(hs:NoSl i):PE X (.Subscript o i pos) (tDGet td ty):=by
 intro pins s σ H Q I h;refine X9 PySem.F.slot_dict_getitem.lookup hs (thn (ho pins s σ H _ I h) λu s1 ⟨x,H1,I1,rx,q1⟩=>thn (hi pins s1 σ H1 _ I1 q1) λiv s2 ⟨y,H2,I2,ry,a,v,ex,g,q2⟩=> ?_);subst ex;obtain rfl:u=Value.ref a:=rx;exact⟨Nv I2 g,Tw hu I2 g ry λw' s3 I3 rw'=>⟨v,H2,I3,rw',q2⟩⟩
theorem Je(hu:X.A.units+1<cLine)(ho:PE X o td)(hi:PE X i ty)(hv:PE X value tv)(hs:swapsWith value (some (.Subscript o i pos')) pos.line X.env=pure false):
  PS X (.Assign [.Subscript o i pos'] value pos) (sDPut td ty tv):=by
 intro pins s σ H D I h;refine wpAny_Assign_Subscript (thn (hv pins s σ H _ I h) λr s1 ⟨v,H1,I1,rv,q1⟩=>thn (ho pins s1 σ H1 _ I1 q1) λu s2 ⟨x,H2,I2,rx,q2⟩=>thn (hi pins s2 σ H2 _ I2 q2) λiv s3 ⟨y,H3,I3,ry,a,H4,ex,g,q3⟩=> ?_) hs;subst ex;obtain rfl:u=Value.ref a:=rx;exact Ug hu I3 g ry rv λs4 I4=>⟨σ,H4,I4,q3⟩
end
theorem Na{P:Program}{w:World}{H:Hp}(h:Heap)(hb:sysModules<h.objs.size):ObjOk P w H (h.push {cls:= .type "dict",data:= .dict #[]}) h.objs.size (.dK []):=
 ⟨Qb8 _,beq_eq_false_iff_ne.mpr (Ne.symm (ne_of_lt hb)),[],.nil,Heap.DictOf.new h⟩
def tDNewK:TE:=λ_ H Q=>∀p,H p=none->Q (.ref p) (upd H p (.dK []))
section
variable{X:Cx}{pos:Pos}
theorem Xh:PE X (.Dict [] [] pos) tDNewK:=λpins s σ H Q I h=>
 wpAny_Dict_empty ⟨.ref s.heap.objs.size,_,I.laid (a:=s.heap.objs.size) (o:= .dK []) (t':=s.toks) (λ_ _ q=>Lt _ q) (le_refl _) (Na s.heap I.big),rfl,h _ (I.hok.fresh (le_refl _))⟩
end
def Pl:List (TE×TE)->St->Hp->(List (V×V)->Hp->Prop)->Prop
 |[],_,H,Q=>Q [] H
 |(tk,tv)::r,σ,H,Q=>tk σ H λx H1=>tv σ H1 λy H2=>Pl r σ H2 λps H3=>Q ((x,y)::ps) H3
abbrev VV:List (V×V)->List (Value×Value)->Prop:=Paired λp q=>RelV p.1 q.1/\RelV p.2 q.2
def PPs(X:Cx)(pos:Pos)(keys:List (Option Expr))(values:List Expr)(trs:List (TE×TE)):Prop:=
 ∀(pins:List (Addr×Obj)) (s:Shared) (σ:St) (H:Hp) (Q:List (V×V)->Hp->Prop),Inv X pins σ H s->Pl trs σ H Q->
  wpAny (model X.prog X.w) X.A (evalPairs (pairTrees keys values X.env pos)) (λvs s'=>∃ps H',Inv X pins σ H' s'/\VV ps vs/\Q ps H') X.xe s
theorem Zr{X:Cx}{pos:Pos}:PPs X pos [] [] []:=λpins s σ H Q I h=>pairTrees_nil_walk ⟨[],H,I,.nil,h⟩
theorem G0{X:Cx}{pos:Pos}{k v:Expr}{ks:List (Option Expr)}{vs:List Expr}{tk tv:TE}{trs:List (TE×TE)}(hk:PE X k tk)(hv:PE X v tv)(hr:PPs X pos ks vs trs):
  PPs X pos (some k::ks) (v::vs) ((tk,tv)::trs):=λpins s σ H Q I h=>
 pairTrees_cons_walk (thn (hk pins s σ H _ I h) λu s1 ⟨x,H1,I1,rx,q1⟩=>thn (hv pins s1 σ H1 _ I1 q1) λw2 s2 ⟨y,H2,I2,ry,q2⟩=>
  thn (hr pins s2 σ H2 _ I2 q2) λws s3 ⟨ps,H3,I3,rel,q3⟩=>⟨(x,y)::ps,H3,I3,.cons ⟨rx,ry⟩ rel,q3⟩)
def Ia(kvs more:List (Key×V)):List (Key×V):=more.foldl (λacc kv=>Ej acc kv.1 kv.2) kvs
theorem KV.merge:∀{more:List (Key×V)} {rs:List (Key×Value)} {kvs:List (Key×V)} {vs:List (Key×Value)},KV more rs->KV kvs vs->KV (Ia kvs more) (merged vs rs):=by
 intro more rs kvs vs r;unfold KV at r
 induction r generalizing kvs vs with
 |nil=>intro q;exact q
 | @cons p q ps qs h t ih=>
  intro r0;have e:KV (Ej kvs p.1 p.2) (stored vs q.1 q.2):=by
   have:=r0.put p.1 h.2;rw[<-h.1];exact this
  exact ih e
theorem Fu:∀(more kvs:List (Key×V)),(Ia kvs more).length<=kvs.length+more.length
 |[],kvs=>by show kvs.length<=kvs.length+0;exact le_add_right _ _
 |p::r,kvs=>by
  have h1:=Fu r (Ej kvs p.1 p.2);have h2:=E3 kvs p.1 p.2;show (Ia (Ej kvs p.1 p.2) r).length<=_;rw[Qa6];omega
theorem Jk{P:Program}{w:World}:∀{kvs:List (Key×V)} {ws:List (Value×Value)},VV (kvs.map λkv=>(kV kv.1,kv.2)) ws->∃rs,Carries (Bm P w) ws rs/\KV kvs rs
 |[],_,r=>by rw[map_nil] at r;cases r;exact⟨[],True.intro,.nil⟩
 |p::kvs,_,r=>by
  rw[Qb5] at r;cases r with
  | @cons a b as bs h t=>
   obtain⟨rs,c,q⟩:=Jk (P:=P) (w:=w) t;obtain⟨b1,b2⟩:=b;exact⟨(p.1,b2)::rs,⟨O7 h.1,rfl,c⟩,.cons ⟨rfl,h.2⟩ q⟩
def tDisp(trs:List (TE×TE)):TE:=λσ H Q=>∀p,H p=none->Pl trs σ (upd H p (.dK [])) λps H2=>H2 p=some (.dK [])/\∃kvs:List (Key×V),ps=kvs.map (λkv=>(kV kv.1,kv.2))/\kvs.length<=15/\Q (.ref p) (upd H2 p (.dK (Ia [] kvs)))
theorem Z2{X:Cx}{pos:Pos}{keys:List (Option Expr)}{values:List Expr}{trs:List (TE×TE)}(h:PPs X pos keys values trs)(hall:keys.all (·.isSome)=true)(hl:keys.length=values.length)(h0:keys≠[])(h15:keys.length<=15):PE X (.Dict keys values pos) (tDisp trs):=by
 intro pins s σ H Q I q;have hn:=I.hok.fresh (le_refl s.heap.objs.size);have I1:=I.laid (a:=s.heap.objs.size) (o:= .dK []) (h':=s.heap.push {cls:= .type "dict",data:= .dict #[]}) (t':=s.toks) (λ_ _ q=>Lt _ q) (le_refl _) (Na s.heap I.big);refine wpAny_Dict_walk (knd:=Bm X.prog X.w) hall hl h0 h15 (thn (h pins _ σ _ _ I1 (q _ hn)) λws s2 ⟨ps,H2,I2,rel,e,kvs,ep,lk,q2⟩=> ?_);subst ep;obtain⟨rs,c,rk⟩:=Jk (P:=X.prog) (w:=X.w) rel;obtain⟨z,hd,vs0,r0,dd⟩:=Rz I2.hok e;cases r0;refine⟨rs,c,dd,λh' dd' hs=>⟨.ref s.heap.objs.size,_,?_,rfl,q2⟩⟩;have hz:(Ia [] kvs).length<=sizeLine:=by
  have h1:=Fu kvs [];rw[Qb9] at h1;rw[Qc5];omega
 have he:∃q,h'.get? s.heap.objs.size=some q:=let ⟨q,_,_,hq,_⟩:=dd';⟨q,hq⟩
 exact Jd I2 (by rw[e];exact True.intro) hs he (Qn hz hd (rk.merge .nil) dd')
structure M1(X:Cx)(o:Expr)(m:Str)(apos:Pos)(e:Expr)(cpos:Pos):Prop where
 base:attributeBase o m X.env (eval o X.env)=eval o X.env
 few:((backTo cpos (starEach [e] X.env)).all (λx=> !x.1) && (backToKw cpos (keywordEach [] X.env)).all (λx=>x.1.isSome)
  && decide (([e]:List Expr).length+([]:List Keyword).length+(if ([]:List Keyword).isEmpty then 0 else 1)<30))=true
 line:(apos.endLine==cpos.line)=true
 trees:backTo cpos (starEach [e] X.env)=[(false,eval e X.env)]
def IsD(H:Hp)(a:Addr):Prop:=(∃kvs,Rd H a (.dK kvs))\/∃kvs,Rd H a (.dT kvs)
theorem isD_at{X:Cx}{pins:List (Addr×Obj)}{σ:St}{H:Hp}{s:Shared}{a:Addr}(I:Inv X pins σ H s)(d:IsD H a):
  s.TypeIs (.ref a) "dict"/\(∀b,Value.ref a= .ref b->∃ob,s.heap.get? b=some ob/\ob.dict=none)/\(a==sysModules)=false:=by
 rcases d with⟨kvs,e⟩|⟨kvs,e⟩
 ·obtain⟨_,hd,vs,_,dd⟩:=Rf I.hok e;refine⟨dd.typeIs,λb q=> ?_,hd⟩;cases q;obtain⟨ob,_,_,h1,h2,_⟩:=dd;exact⟨ob,h1,h2.2.1⟩
 ·obtain⟨_,hd,xs,_,dd⟩:=Qz I.hok e;refine⟨dd.typeIs,λb q=> ?_,hd⟩;cases q;obtain⟨ob,_,_,h1,h2,_⟩:=dd;exact⟨ob,h1,h2.2.1⟩
def tDPop1(td ty:TE):TE:=λσ H Q=>td σ H λx H1=>∃a,x= .ref a/\IsD H1 a/\ty σ H1 λy H2=>∃kvs k v,H2 a=some (.dK kvs)/\y=kV k/\Dn kvs k=some v/\Q v (upd H2 a (.dK (Jq kvs k)))
section
variable{X:Cx}{o e f:Expr}{apos cpos:Pos}{td ty tx:TE}
theorem Wn(ho:PE X o td)(he:PE X e ty)(m:M1 X o "pop" apos e cpos):PE X (.Call (.Attribute o "pop" apos) [e] [] cpos) (tDPop1 td ty):=by
 intro pins s σ H Q I h;refine wpAny_Call_method m.base m.few m.line PySem.F.plainAttrs_dict PySem.F.slot_dict_pop PySem.F.type_dict_pop (thn (ho pins s σ H _ I h) λu s1 ⟨x,H1,I1,rx,a,ex,d,q1⟩=> ?_);subst ex;obtain rfl:u=Value.ref a:=rx;obtain⟨t1,t2,_⟩:=isD_at I1 d;refine⟨t1,t2,?_⟩;rw[m.trees];refine Calls.callWith_builtin rfl (Calls.evalArgs_plain (Calls.spliced_cons (thn (he pins s1 σ H1 _ I1 q1) λiv s2 ⟨y,H2,I2,ry,kvs,k,v,ea,ey,l,q2⟩=>Calls.spliced_nil ?_)));subst ey;exact d_pop I2 ea ry l (.inl rfl) λw' s3 I3 rw'=>⟨v,_,I3,rw',q2⟩
end
end L2
namespace Att
open PySem PySem.W PySem.Calls PyProof.Rows
theorem Im{P:Params}{h:Heap}:∀(ns:List Int) (vs:List Value),WellAll P h vs (ns.map WData.int)->IntsAre vs ns:=by
 intro ns
 induction ns with
 |nil=>
  intro vs w;rw[map_nil] at w;cases w;exact .nil
 |cons n ns ih=>
  intro vs w;rw[Qb5] at w;cases w with
  |cons a b=>
   cases a;exact .cons _ _ (ih _ b)
theorem T8{l:OpenLaw}{n:Nat}(hn:l.most=some n){P:Params}{h:Heap}{args:List WData}{vals:List Value}(hpre:l.row.toRowW.claim.pre args=true)(hwl:WellAll P h vals args):
  ∃a vs ns,vals=[Value.ref a]/\args=[WData.list (ns.map WData.int)]/\h.get? a=some {cls:= .type "list",data:= .seq vs.toArray}/\IntsAre vs ns/\ns.length<=n:=by
 have hsh:WShape.hasAll [] args [.list .int]=true:=(pre_splitW hpre).1;have hc:l.pre.holds [] {args:=args}=true:=(pre_splitW hpre).2;obtain⟨d,r,rfl,h1,h2⟩:=hasAllW_cons hsh;obtain rfl:=hasAllW_nil h2;obtain⟨xs,rfl,h3⟩:=hasW_list h1;obtain⟨ns,rfl⟩:=items_int h3;have hlen:ns.length<=n:=by
  unfold OpenLaw.pre at hc;have h4:(WTm.not (.lt (.lit (.int (n:Int))) (.len (.arg 0)))).holds [] {args:=[.list (ns.map .int)]}=true:=by
   have h4:=(holds_andW hc).1;rw[hn] at h4;exact h4
  have h5:=condW_of h4 (w_not (w_lt w_lit (w_len_list (w_arg rfl))));rw[If] at h5;refine Nat.le_of_not_lt λq=> ?_;have q':(n:Int)<((ns.length:Nat):Int):=by omega
  first
   |(rw[decide_eq_true q'] at h5;exact absurd h5 (by decide))
   |(simp at h5;omega)
 cases hwl with
 |cons w1 w2=>
  cases w2;cases w1 with
  |list ho hall=>exact⟨_,_,ns,rfl,rfl,ho,Im ns _ hall,hlen⟩
theorem Ub(l:OpenLaw)(args:List WData):l.row.toRowW.claim.post args (.bool true) args=true:=
 postW_of (r:=l.row.toRowW) (X:=(true==true))
  (show WShape.has [] (.bool true) .bool=true by first|rfl|decide|simp[WShape.has,WShape.arms,WShape.armsAll])
  (show (WTm.eq .res (.lit (.bool true))).value [] {args:=args,res:=some (.bool true),after:=args}=some (.bool (true==true)) from w_eq_bool (w_res rfl) w_lit) rfl
theorem attach_call{l:OpenLaw}{n:Nat}{q:Program}{loose:List Str}{XP:(Str->Option Value)->Heap->Prop}{YP:World->Heap->Prop}{d:DefRec}(hn:l.most=some n)(hdf:d.params.defaults=[])(call:∀(w:World) (s₀ s₁:Shared) (mg mb:Str->Option Value) (fa:Addr) (o:Obj) (pm cd doc:Value) (a:Addr) (vs:List Value) (ns:List Int),
   Ground q loose [] XP w s₀ mg mb s₁.heap->YP w s₁.heap->
   s₁.heap.get? fa=some o->o.data= .func (docDef d.name d.params d.body d.scope pm cd doc)->s₁.heap.CodeRec cd d.name->mg d.name=some (.ref fa)->
   s₁.heap.get? a=some {cls:= .type "list",data:= .seq vs.toArray}->IntsAre vs ns->ns.length<=n->s₁.gens= #[]->
   codeAny (model l.prog w) callerA (.call (.ref fa) ⟨[.ref a],[]⟩) (λr s'=>r= .ok (.ret (.bool true))/\OldK s₁.heap s'.heap/\s'.os=s₁.os/\AllBare s'.gens) s₁):
  WalkO q loose XP YP l.row.toRowW d [] (λf vs=>PySem.call f vs):=by
 intro w s₀ s₁ mg mb G Y fa o pm cd doc dV kV ho hd hcd hD hmg hg args vals as hpre hlay hrd hwl hlo;obtain rfl:dV= .none:=Dflts.none hD hdf;obtain rfl:kV= .none:=Dflts.noKw hD;obtain⟨a,vs,ns,rfl,rfl,hobj,hints,hlen⟩:=T8 hn hpre hwl;refine enter_call (codeAny_mono (call w s₀ s₁ mg mb fa o pm cd doc a vs ns G Y ho (fd_plain hd) hcd hmg hobj hints hlen hg) λr s' hq=> ?_);obtain⟨rfl,h2,h3,h4⟩:=hq;exact⟨.inl ⟨.bool true,.bool true,[],rfl,λ_=>rfl,.bool true,Ub l _,λ_=>⟨Pairwise.nil,λ_ hm=>(nomatch hm)⟩⟩,h2,h3,h4⟩
end Att
namespace L2
open PySem PySem.Spec PyProof.Rows
theorem K9:∀{vs:List Value} {ns:List Int},IntsAre vs ns->Vals (ns.map V.int) vs
 |_,_,.nil=> .nil
 |_,_,.cons n t h=> .cons ⟨t,rfl⟩ (K9 h)
def Only(H:Hp):Prop:=∀b,H b=none\/∃o xs,H b=some (.frz o (.lst xs))
theorem Xb{P:Program}{w:World}{K:Frag}{mg mb:Str->Option Value}{CX:CXT}{k:Nat}{fa a:Addr}{fd:FuncData}{x:Str}{sp:Sp}{s₁:Shared}{vs:List Value}{ns:List Int}(KX:K.In s₁.heap)(hns:s₁.heap.Ns mainGlobals mg)(hb:s₁.heap.Ns builtinsNs mb)(hbb:∀x:Str,x≠"__name__"->mb x=bootBuiltins x)(hlim:s₁.heap.NoLimit)(hg:s₁.gens= #[])(ha:s₁.heap.get? a=some {cls:= .type "list",data:= .seq vs.toArray})(hi:IntsAre vs ns)(hl:ns.length<=sizeLine)(hr:Room k callerA)(F:∀base:Heap,K.In base->base.Ns mainGlobals mg->FnOk P w K mg base CX k fa fd [x] sp)(hbind:∀(s:Shared) (u:Value),BindsTo s fd ⟨[u],[]⟩ [(x,u)])(hsp:∀H:Hp,Only H->SqL K H a (ns.map V.int)->sp [.ref a] H (λv _=>v= .bl true) λ_ _ _=>False)(hCX:∀H e s',CX [] H s₁ (λ_ _ _=>False) e s'->False):
  codeAny (model P w) callerA (.call (.ref fa) ⟨[.ref a],[]⟩) (λr s'=>r= .ok (.ret (.bool true))/\OldK s₁.heap s'.heap/\s'.os=s₁.os/\AllBare s'.gens) s₁:=by
 have rv:=K9 hi;have lenV:=hi.length;have core:∀H:Hp,Only H->SqL K H a (ns.map V.int)->HOk P w H s₁.heap->(∀b,H b≠none->b=a)->(H a≠none->K.lookup a=none)->
   codeAny (model P w) callerA (.call (.ref fa) ⟨[.ref a],[]⟩) (λr s'=>r= .ok (.ret (.bool true))/\OldK s₁.heap s'.heap/\s'.os=s₁.os/\AllBare s'.gens) s₁:=by
  intro H hO hS hok hA hK;have base_of:∀{b:Addr} {o:Obj},s₁.heap.get? b=some o->H b=none->(Mu s₁.heap H).get? b=some o:=λe n=>Xc e n;have noA:∀{b:Addr} {o:Obj} {es:Array DictEntry} {ep:Nat},s₁.heap.get? b=some o->o.data= .dict es ep->H b=none:=λ{b o es ep} e d=>by
   cases q:H b with
   |none=>rfl
   |some u=>
    have e':b=a:=hA b (by rw[q];simp);subst e';rw[ha] at e;cases e;have d':Data.seq vs.toArray _=Data.dict es ep:=d;cases d'
  have nsK:∀{b:Addr} {m:Str->Option Value},s₁.heap.Ns b m->(Mu s₁.heap H).Ns b m:=λ{b m} ⟨o,es,ep,e,d,r⟩=>⟨o,es,ep,base_of e (noA e d),d,r⟩
  have hKb:K.In (Mu s₁.heap H):=λb o e=>base_of (KX b o e) (by
   cases q:H b with
   |none=>rfl
   |some u=>
    have e':b=a:=hA b (by rw[q];simp);subst e';rw[hK (by rw[q];simp)] at e;cases e)
  have hM:Mod K mg (Mu s₁.heap H):=⟨hKb,nsK hns,⟨mb,nsK hb,hbb⟩,let ⟨mc,h1,h2⟩:=hlim;⟨mc,nsK h1,h2⟩⟩
  have e0:Zh P w K mg (Mu s₁.heap H) callerA [] s₁ H:=⟨rfl,hM,λb o e=>Zo e,le_of_eq (Tb _ _),trivial,λb hb=>absurd (show b∈([]:List Addr) from hb) (by simp),hok,.of_eq hg⟩
  refine codeAny_mono ((F _ hKb (nsK hns)).run callerA [] s₁ H ⟨[.ref a],[]⟩ [.ref a] [.ref a] _ _ hr e0 (hbind s₁ (.ref a)) (.cons rfl .nil) (hsp H hO hS)) λr s' h=> ?_;cases r with
  |error e=>exact(hCX H e s' h).elim
  |ok fl=>
   cases fl with
   |next=>exact False.elim h
   |brk=>exact False.elim h
   |cont=>exact False.elim h
   |ret u=>
    obtain⟨v,H',os,bare,un,hok',r',q⟩:=h;have q':v= .bl true:=q;subst q';obtain rfl:u=Value.bool true:=r';refine⟨rfl,OldK.of_keep λb o e=> ?_,os,bare⟩;cases q:H b with
    |none=>exact un.keep b o e q (by intro z;exact absurd (show b∈([]:List Addr) from z) (by simp)) (by simp)
    |some u=>
     rcases hO b with z|⟨ob,xs,z⟩
     ·rw[q] at z;cases z
     ·have z2:=un.frzs b ob _ z;obtain⟨e1,_⟩:=hok b _ z;obtain⟨e2,_⟩:=hok' b _ z2;rw[e] at e1;cases e1;exact e2
 cases hk:K.lookup a with
 |some o=>
  have e:=KX a o hk;rw[ha] at e;cases e;refine core (λ_=>none) (λ_=> .inl rfl) (.inr ⟨_,vs.toArray,_,hk,rfl,rfl,rfl,by rw[size_toArray,lenV];exact hl,by simpa using rv⟩) (λb u z=>by have z':(none:Option HO)=some u:=z;cases z') (λb z=>absurd rfl z) λz=>absurd rfl z
 |none=>
  refine core (λb=>if b=a then some (.frz {cls:= .type "list",data:= .seq vs.toArray} (.lst (ns.map V.int))) else none) (λb=> ?_) (.inl (.inr ⟨{cls:= .type "list",data:= .seq vs.toArray},Qa3 rfl⟩)) (λb u z=> ?_) (λb z=> ?_) λ_=>hk
  ·by_cases hb:b=a
   ·exact .inr ⟨_,_,Qa3 hb⟩
   ·exact .inl (Qa2 hb)
  ·by_cases hb:b=a
   ·have z':=(Qa3 hb).symm.trans z;cases z';subst hb;exact⟨ha,by rw[If];exact hl,vs,_,rv,ha⟩
   ·have z':=(Qa2 hb).symm.trans z;cases z'
  ·by_cases hb:b=a
   ·exact hb
   ·exact absurd (Qa2 hb) z
theorem walk_of{l:PySem.W.OpenLaw}{n k:Nat}{q:Program}{loose:List Str}{XP:(Str->Option Value)->Heap->Prop}{YP:World->Heap->Prop}{d:DefRec}{K:Params->Frag}{CX:World->CXT}{sp:World->Sp}{x:Str}(hn:l.most=some n)(hn2:n<=sizeLine)(hdf:d.params.defaults=[])(hr:Room k callerA)(hY:∀(w:World) (h:Heap),YP w h->(K w.params).In h)(F:∀(w:World) (mg:Str->Option Value) (fa:Addr) (h:Heap),(K w.params).In h->h.Ns mainGlobals mg->mg d.name=some (.ref fa)->
   ∃fd:FuncData,(∀(s:Shared) (u:Value),BindsTo s fd ⟨[u],[]⟩ [(x,u)])/\
    ∀base:Heap,(K w.params).In base->base.Ns mainGlobals mg->FnOk l.prog w (K w.params) mg base (CX w) k fa fd [x] (sp w))(hsp:∀(w:World) (H:Hp) (a:Addr) (ns:List Int),ns.length<=n->Only H->SqL (K w.params) H a (ns.map V.int)->sp w [.ref a] H (λv _=>v= .bl true) λ_ _ _=>False)(hCX:∀(w:World) (H:Hp) (s:Shared) (e:Value) (s':Shared),CX w [] H s (λ_ _ _=>False) e s'->False):
  PySem.W.WalkO q loose XP YP l.row.toRowW d [] (λf vs=>PySem.call f vs):=by
 refine Att.attach_call hn hdf λw s₀ s₁ mg mb fa o pm cd doc a vs ns G Y ho hd hcd hmg hobj hints hlen hg=> ?_;have KX:=hY w _ Y;obtain⟨fd,hb,hF⟩:=F w mg fa _ KX G.T.g hmg;exact Xb KX G.T.g G.T.b G.T.builtins G.T.nolimit hg hobj hints (le_trans hlen hn2) hr hF hb (λH hO hS=>hsp w H a ns hlen hO hS) λH e s'=>hCX w H s₁ e s'
end L2
namespace L2
open PySem PySem.Spec PyProof.Rows
def En(s:Stmt):Arguments:=match s with
 | .FunctionDef _ a _ _ _ _ _ _ _ _=>a
 |_=>{posonlyargs:=[],args:=[],vararg:=none,kwonlyargs:=[],kw_defaults:=[],kwarg:=none,defaults:=[]}
def Dx(s:Stmt):List Stmt:=match s with
 | .FunctionDef _ _ b _ _ _ _ _ _ _=>b
 |_=>[]
def Ah(s:Stmt):Scope:=match s with
 | .FunctionDef _ _ _ _ _ _ sc _ _ _=>sc
 |_=>{kind:= .function,names:=[],isGenerator:=false,isCoroutine:=false}
abbrev CX0:CXT:=λ_ _ _ _ _ _=>False
abbrev E0:XK:=λ_ _ _=>False
theorem Z9{X:Cx}:Pr CX0 X E0:=λ_ _ _ _ _ _ _ h=>h.elim
structure Fun(K:Frag)(x qual:Str)(st:Stmt)(f:Addr)(fd:FuncData):Prop where
 ex:∃(oc:Value) (od:Option Addr) (kV doc pm:Value) (an:Option Addr) (cdv ct:Value) (osl:Array (Option Value)),
  fd=PySem.W.fnOf x qual (En st) (Dx st) (Ah st) .none kV doc pm an cdv ct/\K.lookup f=some ⟨oc,od,.func fd,osl⟩/\PySem.W.codeIn K cdv qual=true
 kp:keepIn K (.ref f)=true
section
variable{P:Program}{w:World}{K:Frag}{mg:Str->Option Value}{base:Heap}
theorem Fun.ok{x qual:Str}{st:Stmt}{f:Addr}{fd:FuncData}{N ps:List Str}{k:Nat}{sp:Sp}(F:Fun K x qual st f fd)(S:Ax N ps (Ah st))(len:∀vs H Q E,sp vs H Q E->vs.length=ps.length)(hbody:∀(cdv:Value) (A:Around) (outer:List Env) (s:Shared) (H:Hp) (vs:List V) (Q:VK) (E:XK),Room k (A.deeper (envOfC qual (Ah st) s.heap.objs.size f cdv))->sp vs H Q E->
   ∃t,PSs (Uj CX0 P w K mg base N qual (Ah st) f cdv A outer s H E).nox (Dx st) t/\t {nx:=λ_ H'=>Q .non H',rt:=Q} (Il N vs) H):FnOk P w K mg base CX0 (k+1) f fd ps sp:=by
 obtain⟨oc,od,kV,doc,pm,an,cdv,ct,osl,rfl,lk,hcd⟩:=F.ex;refine fn_of lk hcd S len λA outer s H vs Q E hr hsp=> ?_;obtain⟨t,h,q⟩:=hbody cdv A outer s H vs Q E hr hsp;exact⟨t,h.nox,q⟩
theorem Fun.binds{x qual:Str}{st:Stmt}{f:Addr}{fd:FuncData}{ps:List Str}(F:Fun K x qual st f fd)(h:∀(kV doc pm:Value) (an:Option Addr) (cdv ct:Value) (us:List Value),us.length=ps.length->bindArgs (PySem.W.fnOf x qual (En st) (Dx st) (Ah st) .none kV doc pm an cdv ct) ⟨us,[]⟩=pure (ps.zip us)):Binds K fd ps []:=by
 obtain⟨oc,od,kV,doc,pm,an,cdv,ct,osl,rfl,lk,hcd⟩:=F.ex;exact .all (h kV doc pm an cdv ct)
theorem fun_mk{x qual:Str}{st:Stmt}{f:Addr}{oc:Value}{od an:Option Addr}{osl:Array (Option Value)}{kV doc pm cdv ct:Value}(l:K.lookup f=some ⟨oc,od,.func (PySem.W.fnOf x qual (En st) (Dx st) (Ah st) .none kV doc pm an cdv ct),osl⟩)(c:PySem.W.codeIn K cdv qual=true)(k:keepIn K (.ref f)=true):Fun K x qual st f (PySem.W.fnOf x qual (En st) (Dx st) (Ah st) .none kV doc pm an cdv ct):=⟨⟨oc,od,kV,doc,pm,an,cdv,ct,osl,rfl,l,c⟩,k⟩
end
theorem E2{A:Around}{k:Nat}(hr:Room k A):A.units+1<cLine:=lt_of_le_of_lt (Nat.add_le_add_left (by decide:1<=64) _) hr.units
theorem An{n:Nat}(h:n<=1000):n<sizeLine:=lt_of_le_of_lt h (by decide)
section
variable{X:Cx}
theorem pv(i:Nat){x:Str}{pos:Pos}(hN:X.N[i]? =some x:=by rfl)(hv:Vis X.env.scope x:=by first|exact Or.inl rfl|exact Or.inr (Or.inl rfl)|exact Or.inr (Or.inr rfl))(hd:(x==("__debug__":Str))=false:=by decide)(hcd:(x==("__classdict__":Str))=false:=by decide):PE X (.Name x pos) (Pc i):=pe_var hN hv hd hcd
end
theorem Bp{A B:Prop}(h:B):if false=true then A else B:=by
 rw[Qa2 Bool.false_ne_true];exact h
theorem Dg{A B:Prop}(h:A):if true=true then A else B:=by
 rw[Qa3 rfl];exact h
theorem Bz{c A B:Prop}[Decidable c](h1:c->A)(h2:¬c->B):if c then A else B:=by
 by_cases h:c
 ·rw[Qa3 h];exact h1 h
 ·rw[Qa2 h];exact h2 h
def Same(H H':Hp):Prop:=∀b o,H b=some o->H' b=some o
theorem Same.trans{H H1 H2:Hp}(a:Same H H1)(b:Same H1 H2):Same H H2:=λc o h=>b c o (a c o h)
def Cw(env:Env):List (Str×NameKind)->List (Str×Addr)->List (Str×Addr)
 |[],cs=>cs
 |(n,k)::r,cs=>Cw env r (if k= .free then (n,(env.cells.lookup n).getD 0)::cs else cs)
theorem Lk{env:Env}:∀(ns:List (Str×NameKind)) (cs:List (Str×Addr)),(∀p∈ns,p.2= .free->(env.cells.lookup p.1).isSome=true)->
  (forIn ns cs λ(x:Str×NameKind) r=>(do
   let mut cs:=r
   if x.2== .free then cs:=(x.1,<-cellOf env x.1)::cs
   pure (ForInStep.yield cs):Sem (ForInStep (List (Str×Addr)))))=pure (Cw env ns cs)
 |[],cs,_=>rfl
 |(n,k)::r,cs,h=>by
  have ih:=λcs=>Lk (env:=env) r cs λp hp=>h p (Qb4 _ hp);rw[List.forIn_cons];by_cases hk:k= .free
  ·subst hk;have q:=h (n,.free) Qb6 rfl;obtain⟨c,hc⟩:=Qd5.mp q;have e:cellOf env n=pure c:=by unfold cellOf;rw[hc]
   simp only[e];simp[Cw,hc,ih];have:=ih ((n,c)::cs);simpa using this
  ·have hb:(k==NameKind.free)=false:=by simpa using hk
   simp[Cw,hk];have:=ih cs;simpa using this
theorem Gv{scope:Scope}{env:Env}(h:∀p∈scope.names,p.2= .free->(env.cells.lookup p.1).isSome=true):closureFor scope env=pure (Cw env scope.names []):=by
 have q:=Lk (env:=env) scope.names [] h;unfold closureFor;simp at q ⊢;exact q
theorem Kh{env:Env}:∀(ns:List (Str×NameKind)) (cs:List (Str×Addr)),(∀p∈ns,p.2= .free->(env.cells.lookup p.1).isSome=true)->(∀y c,cs.lookup y=some c->env.cells.lookup y=some c)->
  ∀y c,(Cw env ns cs).lookup y=some c->env.cells.lookup y=some c
 |[],cs,_,h,y,c,e=>h y c e
 |(n,k)::r,cs,h,hc,y,c,e=>by
  unfold Cw at e;refine Kh r _ (λp hp=>h p (Qb4 _ hp)) ?_ y c e;intro y c e;by_cases hk:k= .free
  ·subst hk;rw[Qa3 rfl] at e;obtain⟨d,hd⟩:=Qd5.mp (h (n,.free) Qb6 rfl);rw[List.lookup_cons] at e;cases q:y==n with
   |true=>
    rw[q] at e;have:y=n:=by simpa using q
    subst this;rw[hd] at e ⊢;exact e
   |false=>
    rw[q] at e;exact hc y c e
  ·rw[Qa2 hk] at e;exact hc y c e
theorem Ii{env:Env}{y:Str}:∀(ns:List (Str×NameKind)) (cs:List (Str×Addr)),(cs.lookup y).isSome=true->((Cw env ns cs).lookup y).isSome=true
 |[],cs,h=>h
 |(n,k)::r,cs,h=>by
  unfold Cw;refine Ii r _ ?_;split
  ·rw[List.lookup_cons];split
   ·rfl
   ·exact h
  ·exact h
theorem Fz{env:Env}{y:Str}:∀(ns:List (Str×NameKind)) (cs:List (Str×Addr)),(y,NameKind.free)∈ns->((Cw env ns cs).lookup y).isSome=true
 |(n,k)::r,cs,h=>by
  unfold Cw;rcases Qa9.mp h with e|e
  ·cases e;refine Ii r _ ?_;rw[Qa3 rfl,List.lookup_cons];simp
  ·exact Fz r _ e
def Ck(X:Cx)(scope:Scope)(N:List Str)(C:Addr)(s:Shared)(H:Hp)(ex:List Addr)(pins:List (Addr×Obj)):Cx where
 prog:=X.prog
 w:=X.w
 K:=X.K
 mg:=X.mg
 base:=X.base
 A:=X.A
 N:=N
 s₀:=s
 H₀:=H
 env:=compEnvC scope (Cw X.env scope.names []) C X.env
 outer:=X.stack
 stack:=X.stack
 ex:=ex
 fn:=λ_=>false
 calm:=X.calm
 pn:=X.pn++pins
 xe:=λ_ _=>False
def cst(nT:Nat)(js:List Nat)(σ:St):St:=replicate nT none++js.map λj=>(σ[j]?).join
structure G8(X:Cx)(scope:Scope)(T F:List Str)(js:List Nat):Prop where
 kind:scope.kind= .function
 nocell:∀y∈scope.names,y.2≠ .cell
 names:∀x∈scope.names,x.2= .local->scope.names.lookup x.1=some .local
 free:∀x∈scope.names,x.2= .free->X.env.kindOf x.1=some .cell
 loc:∀y∈T,(relabel scope X.env).names.lookup y=some .local
 cel:∀y∈F,(relabel scope X.env).names.lookup y=some .cell/\X.env.kindOf y=some .cell/\(y,NameKind.free)∈scope.names
 all:∀x∈(relabel scope X.env).names,(x.2= .cell\/x.2= .free)->(x.1,NameKind.free)∈scope.names
 js:js.map (λj=>X.N[j]?)=F.map some
section
variable{X:Cx}{scope:Scope}{T F:List Str}{js:List Nat}
theorem Vt{pins:List (Addr×Obj)}{σ:St}{H:Hp}{s:Shared}{h1:Heap}{tk:Nat}{fp:List Addr}{m:Str->Option Value}(S:G8 X scope T F js)(I:Inv X pins σ H s)(hn:h1.Ns s.heap.objs.size m)(kk:∀b o,s.heap.get? b=some o->h1.get? b=some o)(hf:∀b∈fp,FpOk X pins H b/\∃o,s.heap.get? b=some o/\∀v,o.data≠ .cell v):
  Inv (Ck X scope (T++F) s.heap.objs.size s H fp pins) [] (cst T.length js σ) H {s with heap:=h1,toks:=tk}:=by
 have sub:=Kh (env:=X.env) scope.names [] (λp hp hk=>by
  obtain⟨c,e⟩:=I.ok.has p.1 (.inl (S.free p hp hk));rw[e];rfl) (λy c e=>by simp at e)
 have ltC:∀y c,X.env.cells.lookup y=some c->c<s.heap.objs.size:=λy c e=>by
  obtain⟨v,z⟩:=I.cell y c e;exact z.lt
 refine⟨⟨I.ok.mod,?_,I.ok.glob,I.ok.blt,le_refl _,λx y c e1 e2=>I.ok.inj x y c (sub x c e1) (sub y c e2),λx hx=> ?_,λx c hx=>absurd hx Bool.false_ne_true,I.ok.hd,I.ok.frames,.inl rfl,λb hb=> ?_,I.bs,?_,λb o e hb=> ?_,λb hb hs=> ?_,I.stack,I.stkFree⟩,
  rfl,I.bare,Un.kept kk,⟨m,hn,λi x v e1 e2 e3=> ?_⟩,λx c e=> ?_,I.hok.fresh (le_refl _),λx c e=>I.freeC x c (sub x c e),λp hp=> ?_,I.hok.kept kk,?_⟩
 ·show (relabel scope X.env).kind= .function;exact S.kind
 ·have hx:(relabel scope X.env).names.lookup x=some .cell\/(relabel scope X.env).names.lookup x=some .free:=hx;have hm:(x,NameKind.free)∈scope.names:=by
   rcases hx with h|h
   ·exact S.all _ (PySem.mem_of_lookup h) (.inl rfl)
   ·exact S.all _ (PySem.mem_of_lookup h) (.inr rfl)
  exact Qd5.mp (Fz scope.names [] hm)
 ·obtain⟨⟨f0,f1,f2,f3,f4,f5⟩,o,ho,_⟩:=hf b hb;exact⟨ne_of_lt (Qa8 ho),λx c e=>f4 x c (sub x c e)⟩
 ·exact le_trans I.ok.bsz I.sz
 ·obtain⟨⟨f0,f1,f2,f3,f4,f5⟩,_⟩:=hf b hb;rcases f3 with z|z
  ·exact I.ok.noex b o e z
  ·exact absurd (lt_of_lt_of_le (Qa8 e) (le_trans I.ok.bsz z)) (lt_irrefl _)
 ·obtain⟨⟨f0,f1,f2,f3,f4,f5⟩,_⟩:=hf b hb;rcases Qa9.mp (I.stkSub b hs) with z|z
  ·exact f1 z
  ·exact f2 z
 ·-- a name's value
  have hi:T.length<=i:=by
   by_cases hi:i<T.length
   ·unfold cst at e2;rw[List.getElem?_append_left (by simpa using hi),getElem?_replicate] at e2;split at e2<;> cases e2
   ·exact Nat.not_lt.mp (by assumption)
  obtain⟨k,rfl⟩:∃k,i=T.length+k:=⟨i - T.length,by omega⟩
  have e1:(T++F)[T.length+k]? =some x:=e1;rw[List.getElem?_append_right (by assumption)] at e1;have e1:F[k]? =some x:=by simpa using e1
  unfold cst at e2;rw[List.getElem?_append_right (by simp)] at e2;have e2:(js.map λj=>(σ[j]?).join)[k]? =some (some v):=by simpa using e2
  rw[getElem?_map] at e2;cases ej:js[k]? with
  |none=>rw[ej] at e2;cases e2
  |some j=>
   rw[ej] at e2;have e2:(σ[j]?).join=some v:=by simpa using e2
   have e3':σ[j]? =some (some v):=by
    cases q:σ[j]? with
    |none=>rw[q] at e2;cases e2
    |some z=>rw[q] at e2;cases z with
     |none=>cases e2
     |some z=>simp at e2;rw[e2]
   have eN:X.N[j]? =some x:=by
    have q:=Qd1 (λl=>l[k]?) S.js;simp only[getElem?_map,ej,e1] at q;simpa using q
   obtain⟨c1,c2,c3⟩:=S.cel x (mem_of_getElem? e1);obtain⟨m0,hn0,hl⟩:=I.loc;obtain⟨u,ru,lk⟩:=hl j x v eN e3' (.inr (.inl c2));refine⟨u,ru,?_⟩;rcases lk with⟨z,_⟩|⟨_,c,ec,hc⟩
   ·rw[c2] at z;cases z
   ·obtain⟨c',ec'⟩:=Qd5.mp (Fz (env:=X.env) scope.names [] c3);have:=sub x c' ec';rw[ec] at this;cases this;refine .inr ⟨.inl c1,c,ec',?_⟩;obtain⟨o,ho,hd⟩:=hc;exact⟨o,kk _ _ ho,hd⟩
 ·obtain⟨v,o,ho,hd⟩:=I.cell x c (sub x c e);exact⟨v,o,kk _ _ ho,hd⟩
 ·have hp:p∈(X.pn++pins)++[]:=hp;rw[Qc4] at hp;obtain⟨e,n,ne,nf,d⟩:=I.pin p hp;refine⟨kk _ _ e,n,ne_of_lt (Qa8 e),λz=> ?_,d⟩;rcases Qa9.mp (I.stkSub p.1 z) with q|q
  ·exact ne q
  ·exact nf q
 ·unfold cst;show _=(T++F).length;have q:=Qd1 length S.js;simp at q;simp[q]
def PIf(X:Cx)(ifs:List Expr)(t:TT):Prop:=
 ∀(pins:List (Addr×Obj)) (s:Shared) (σ:St) (H:Hp) (Q:Bool->Hp->Prop),Inv X pins σ H s->t σ H Q->
  wpAny (model X.prog X.w) X.A (forIn ifs true λc r=>if r=true then do let ok <-isTrue c X.env (eval c X.env);pure (ForInStep.yield ok) else pure (ForInStep.yield r)) (TP X pins σ Q) X.xe s
def tYes:TT:=λ_ H Q=>Q true H
theorem Bt:PIf X [] tYes:=λpins s σ H Q I h=>wpAny_tests_nil ⟨H,I,h⟩
theorem Cs{c:Expr}{t:TT}(h:PT X c t):PIf X [c] t:=λpins s σ H Q I hw=>wpAny_tests_one (h pins s σ H Q I hw)
def Ll(g:TG)(ti:TT)(te:TE)(D:Addr)(x:V)(σ:St)(ys:List V)(H:Hp)(N:St->List V->Hp->Prop):Prop:=
 g x σ H λσ2 H2=>ti σ2 H2 λb H3=>if b=true then te σ2 H3 λy H4=>H4 D=some (.lst ys)/\ys.length<sizeLine/\N σ2 (ys++[y]) (upd H4 D (.lst (ys++[y]))) else N σ2 ys H3
def cgo(J:It)(g:TG)(ti:TT)(te:TE)(D:Addr)(σ:St)(H:Hp)(Q:VK):Prop:=
 ∃W:Nat->Nat->St->List V->Hp->Prop,(∃m,W 0 m σ [] (upd H D (.lst [])))/\∀i m σ ys H,W i m σ ys H->H D=some (.lst ys)/\
  ((J.stop i H/\Q (.ref D) H)\/(J.go i H/\∃N:St->List V->Hp->Prop,(∀σ' ys' H',N σ' ys' H'->∃m',m'<m/\W (i+1) m' σ' ys' H')/\∀x H',J.yld i H x H'->Ll g ti te D x σ ys H' N))
def Wf(wi:TI)(g:TG)(ti:TT)(te:TE)(nT:Nat)(js:List Nat):TE:=λσ H Q=>wi σ H λJ H1=>∀D,H1 D=none->cgo J g ti te D (cst nT js σ) H1 Q
theorem V7{pins:List (Addr×Obj)}{σ σ':St}{H H':Hp}{s s':Shared}{h':Heap}{N:List Str}{fp:List Addr}(I:Inv X pins σ H s)(hf:∀b∈fp,FpOk X pins H b)(J:Inv (Ck X scope N s.heap.objs.size s H fp pins) [] σ' H' s')(sb:SameBut s.heap.objs.size s'.heap h'):Inv X pins σ H' {s' with heap:=h'}:=by
 have ne:∀b o,s.heap.get? b=some o->b≠s.heap.objs.size:=λb o e=>ne_of_lt (Qa8 e);have u:=J.base;have u':Un (frs X.stack) fp H H' s.heap h':=
  ⟨λb o e n h1 h2=>sb.extBut b o (ne b o e) (u.keep b o e n h1 h2),λb o e n h1 h2=>by
   obtain⟨sl,q⟩:=u.slot b o e n h1 h2;exact⟨sl,sb.extBut b _ (ne b o e) q⟩,u.free,λb o e h=>by
   obtain⟨o',q⟩:=u.there b o e h;exact⟨o',sb.extBut b _ (ne b o e) q⟩,u.tups,u.frzs,u.tbls⟩
 have nC:H' s.heap.objs.size=none:=J.free;have hok:HOk X.prog X.w H' h':=λb o e=>by
  refine(J.hok b o e).stay (λc v hc q=>sb.extBut c v ?_ q) (λ_ q=>q) λ_ _ q=>q;rcases hc with z|z
  ·rw[z];intro z';rw[z',nC] at e;cases e
  ·intro z';rw[z',nC] at z;cases z
 exact I.call' (s':={s' with heap:=h'}) J.os u' hok J.bare λb hb=>by
  obtain⟨f0,f1,f2,f3,f4,f5⟩:=hf b hb;exact⟨f3,f1,f4,f5⟩
theorem Q2{tg elt iter:Expr}{ifs:List Expr}{pos:Pos}{g:TG}{ti:TT}{te:TE}{wi:TI}{pins:List (Addr×Obj)}{σ:St}{H:Hp}{s:Shared}{use:Option (Value->Sem Unit)}{QQ:Value->Shared->Prop}{Q:VK}(S:G8 X scope T F js)(hc:X.calm=true)(hi:PI X tg iter wi)(hg:∀C s H ex pins,PG (Ck X scope (T++F) C s H ex pins) tg g)(hif:∀C s H ex pins,PIf (Ck X scope (T++F) C s H ex pins) ifs ti)(he:∀C s H ex pins,PE (Ck X scope (T++F) C s H ex pins) elt te)(I:Inv X pins σ H s)(h:Wf wi g ti te T.length js σ H Q)(fin:∀(D C:Addr) (s':Shared) (H':Hp) (m:Str->Option Value),s'.heap.Ns C m->Q (.ref D) H'->FpOk X pins H' C->(∀h',SameBut C s'.heap h'->Inv X pins σ H' {s' with heap:=h'})->
   compPost (model X.prog X.w) X.A X.xe use QQ (.ref D) C (.ok .next) s')(hs:∀x,foldedSetIterable iter X.env x=pure x):
  wpAny (model X.prog X.w) X.A (comprehension (.ListComp elt [⟨tg,iter,ifs,0⟩] scope pos) scope X.env (firstIterPos [⟨tg,iter,ifs,0⟩] pos) (newList []) false (eval iter X.env) use) QQ X.xe s:=by
 refine wpAny_comprehension_free (use:=use) rfl hs (Gv λp hp hk=> ?_) S.kind S.names (thn (hi pins s σ H _ I h) λv s1 h1=>thn h1 λitv s2 h2=> ?_)
 ·obtain⟨c,e⟩:=I.ok.has p.1 (.inl (S.free p hp hk));rw[e];rfl
 obtain⟨it,fp,tn,J,H2,rfl,I2,Tn,st2,f2,h2⟩:=h2;obtain⟨W,⟨m0,w0⟩,turn⟩:=h2 s2.heap.objs.size I2.fresh;refine Qc9 (wpAny_newFunctionEnv S.nocell (by intro y hy;simp at hy) (λh₁ hns₁ hsb₁=> ?_) S.kind);have I3:=I2.lnew (t':=s2.toks) (ys:=[]) (its:=[]) Paired.nil (Qb8 _);generalize hs3:({s2 with heap:=s2.heap.push {cls:= .type "list",data:= .seq ([]:List Value).toArray},toks:=s2.toks}:Shared)=s3 at I3;have hf3:∀b∈fp,FpOk X pins (upd H2 s2.heap.objs.size (.lst [])) b/\∃o,s3.heap.get? b=some o/\∀v,o.data≠ .cell v:=λb hb=>by
  obtain⟨f0,fr⟩:=f2 b hb;obtain⟨o,e,d⟩:=Tn.obj _ _ st2 b hb;refine⟨⟨by rw[Al (ne_of_lt (Qa8 e))];exact f0,fr⟩,o,?_,d⟩;rw[<-hs3];exact Lt _ e
 have e3:s3.heap=s2.heap.push {cls:= .type "list",data:= .seq ([]:List Value).toArray}:=by rw[<-hs3]
 have kk:∀b o,s3.heap.get? b=some o->h₁.get? b=some o:=λb o e=>by
  rw[e3] at e;exact hsb₁.extBut b o (ne_of_lt (Qa8 e)) (Lt _ e)
 have hns:h₁.Ns s3.heap.objs.size (λx=>([]:List (Str×Value)).reverse.lookup x):=by rw[e3];exact hns₁
 have I4:=Vt (tk:=s3.toks+([]:List (Str×Value)).length) S I3 hns kk hf3;have stat:∀{H':Hp} {pl:List (Addr×Obj)},(∀p∈pl,∀b∈fp,p.1≠b)->(∀b∈fp,H' b=none)->∀b∈fp,FpOk (Ck X scope (T++F) s3.heap.objs.size s3 (upd H2 s2.heap.objs.size (.lst [])) fp pins) pl H' b:=λ{H' pl} hp hn b hb=>by
  obtain⟨⟨f0,f1,f2,f3,f4,f5⟩,o,e,d⟩:=hf3 b hb;obtain⟨x1,x2⟩:=I4.ok.exf b hb;refine⟨hn b hb,x1,I4.ok.exfs b hb,.inl hb,x2,λp hq=> ?_⟩;rcases mem_append.mp hq with z|z
  ·exact f5 p z
  ·exact hp p z b hb
 have loop:codeAny (model X.prog X.w) X.A (.compLoop (.ListComp elt [⟨tg,iter,ifs,0⟩] scope pos) 0 (.ref it) (.ref s2.heap.objs.size) (compEnvC scope (Cw X.env scope.names []) s3.heap.objs.size X.env))
   (compPost (model X.prog X.w) X.A X.xe use QQ (.ref s2.heap.objs.size) s3.heap.objs.size) {s3 with heap:=h₁,toks:=s3.toks+([]:List (Str×Value)).length}:=by
  refine codeAny_loop rfl (λn s'=>∃i σ' ys H',Inv (Ck X scope (T++F) s3.heap.objs.size s3 (upd H2 s2.heap.objs.size (.lst [])) fp pins) [] σ' H' s'/\tn i s'.heap/\(∀b∈fp,H' b=none)/\W i n σ' ys H') ?_ m0 ⟨0,_,[],_,I4,?_,λb hb=>(hf3 b hb).1.1,w0⟩
  ·rintro n s5 ⟨i,σ5,ys,H5,I5,st5,fr5,w5⟩;show wpAny _ X.A ((compTurn (.ListComp elt [⟨tg,iter,ifs,0⟩] scope pos) 0 (.ref it) (.ref s2.heap.objs.size) (compEnvC scope (Cw X.env scope.names []) s3.heap.objs.size X.env)).onRaise (λx=>do noteFrame x _;theTreesLotGoes x)) _ _ s5;refine wpAny_noted ?_;rw[compTurn_list];refine Gt (wpAny_standAt (Gt ?_));obtain⟨hD,tu⟩:=turn i n σ5 ys H5 w5;rcases tu with⟨stop,qq⟩|⟨go,NN,hNN,step⟩
   ·refine thn (Tn.done (Ck X scope (T++F) s3.heap.objs.size s3 (upd H2 s2.heap.objs.size (.lst [])) fp pins) rfl rfl rfl hc i [] s5 σ5 H5 _ I5 (stat (pl:=[]) (λ_ hp=>absurd hp not_mem_nil) fr5) st5 stop) λr s6 ⟨hr,I6⟩=> ?_;subst hr;refine Qa1 ?_;obtain⟨m6,hn6,_⟩:=I6.loc;have lC:s.heap.objs.size<=s.heap.objs.size:=le_refl _;exact fin _ _ s6 H5 m6 hn6 qq (I3.fpOk (le_refl _) I6.free) λh' sb=>V7 I3 (λb hb=>(hf3 b hb).1) I6 sb
   ·refine thn (Tn.item (Ck X scope (T++F) s3.heap.objs.size s3 (upd H2 s2.heap.objs.size (.lst [])) fp pins) rfl rfl rfl hc i [] s5 σ5 H5 _ I5 (stat (pl:=[]) (λ_ hp=>absurd hp not_mem_nil) fr5) st5 go) λr s6 ⟨u,hr,h6⟩=> ?_;subst hr;refine Gt (thn h6 λ_ s7 ⟨x,H7,I7,r7,y7,st7,fr7⟩=> ?_);have I7':=I7.pinned (stat (pl:=[]) (λ_ hp=>absurd hp not_mem_nil) fr7) (Tn.obj _ _ st7);have back:∀{σ8:St} {H8:Hp} {s8:Shared} {ys8:List V} {m':Nat},Inv (Ck X scope (T++F) s3.heap.objs.size s3 (upd H2 s2.heap.objs.size (.lst [])) fp pins) ([]++Jw fp s7.heap) σ8 H8 s8->m'<n->W (i+1) m' σ8 ys8 H8->
      ∃m,m<n/\∃i σ' ys H',Inv (Ck X scope (T++F) s3.heap.objs.size s3 (upd H2 s2.heap.objs.size (.lst [])) fp pins) [] σ' H' s8/\tn i s8.heap/\(∀b∈fp,H' b=none)/\W i m σ' ys H':=λ{σ8 H8 s8 ys8 m'} I8 hm w8=>by
     refine⟨m',hm,i+1,σ8,ys8,H8,I8.unpinned,Tn.keep _ _ _ st7 λb hb o e=>(I8.pin (b,o) (mem_append_right _ (mem_append_right _ (Es hb e)))).1,λb hb=> ?_,w8⟩;obtain⟨o,e,d⟩:=Tn.obj _ _ st7 b hb;exact(I8.pin (b,o) (mem_append_right _ (mem_append_right _ (Es hb e)))).2.1
    refine Gt (Qd8 (hg _ _ _ _ _ _ s7 σ5 H7 x u _ I7' r7 (step x H7 y7)) (λ_ s8 ⟨σ8,H8,I8,q8⟩=> ?_) λ_ _ z=>z.elim);refine Gt (Qd8 (hif _ _ _ _ _ _ s8 σ8 H8 _ I8 q8) (λok s9 ⟨H9,I9,q9⟩=> ?_) λ_ _ z=>z.elim);cases ok with
    |false=>
     rw[Qa2 Bool.false_ne_true] at q9;obtain⟨m',hm,w9⟩:=hNN _ _ _ q9;exact Qa1 ⟨rfl,back I9 hm w9⟩
    |true=>
     rw[Qa3 rfl] at q9;refine Gt (Gt (Qd8 (he _ _ _ _ _ _ s9 σ8 H9 _ I9 q9) (λyv s10 ⟨y,H10,I10,r10,d10,l10,q10⟩=> ?_) λ_ _ z=>z.elim));obtain⟨m',hm,w10⟩:=hNN _ _ _ q10;obtain⟨z10,its,n10,rv,el,eo⟩:=I10.lstM d10;refine Gt (wpAny_list_append_plain (items:=its.toArray) ⟨n10,eo⟩ (λh' hl' sb'=> ?_) (by simp;omega));obtain⟨n11,eo'⟩:=hl';have I11:=I10.write (x:=s2.heap.objs.size) (e:=s2.heap.objs.size) (o:= .lst (ys++[y])) (t':=s10.toks) (by rw[d10];exact trivial) (.inl rfl) (λb o hb e=>sb'.extBut b o hb e) ⟨_,eo'⟩ ⟨by simp;assumption,its++[yv],n11,rv.append (.cons r10 .nil),by simpa using eo'⟩;exact Qa1 (Qa1 ⟨rfl,back I11 hm w10⟩)
  ·refine Tn.keep _ _ _ st2 λb hb o e=>kk b o ?_;rw[e3];exact Lt _ e
 have st1:tn 0 h₁:=Tn.keep _ _ _ st2 λb hb o e=>kk b o (by rw[e3];exact Lt _ e);exact codeAny_compStart_list loop (Tn.self _ 0 _ _ _ st1 loop)
theorem Bj{tg elt iter:Expr}{ifs:List Expr}{pos:Pos}{g:TG}{ti:TT}{te:TE}{wi:TI}(S:G8 X scope T F js)(hc:X.calm=true)(hi:PI X tg iter wi)(hg:∀C s H ex pins,PG (Ck X scope (T++F) C s H ex pins) tg g)(hif:∀C s H ex pins,PIf (Ck X scope (T++F) C s H ex pins) ifs ti)(he:∀C s H ex pins,PE (Ck X scope (T++F) C s H ex pins) elt te)(hs:∀x,foldedSetIterable iter X.env x=pure x:=by intro _;rfl):PE X (.ListComp elt [⟨tg,iter,ifs,0⟩] scope pos) (Wf wi g ti te T.length js):=by
 intro pins s σ H Q I h;rw[eval_ListComp];exact Q2 (use:=none) S hc hi hg hif he I h (λD C s' H' m hn q _ hinv=>⟨m,hn,λh' sb=>⟨.ref D,H',hinv h' sb,rfl,q⟩⟩) hs
theorem Dz{i:Nat}{x:Str}{pos' spos:Pos}{tg elt iter:Expr}{ifs:List Expr}{pos:Pos}{g:TG}{ti:TT}{te:TE}{wi:TI}(hN:X.N.Nodup)(hx1:X.N[i]? =some x)(hx2:Loc X.env.scope x)(S:G8 X scope T F js)(hc:X.calm=true)(hi:PI X tg iter wi)(hg:∀C s H ex pins,PG (Ck X scope (T++F) C s H ex pins) tg g)(hif:∀C s H ex pins,PIf (Ck X scope (T++F) C s H ex pins) ifs ti)(he:∀C s H ex pins,PE (Ck X scope (T++F) C s H ex pins) elt te)(hsw:swapsWith (.ListComp elt [⟨tg,iter,ifs,0⟩] scope pos) (some (.Name x pos')) spos.line X.env=pure true:=by rfl)(hf:X.fn x=true\/X.env.scope.names.lookup x=some .local:=by first|exact .inl rfl|exact .inr rfl|assumption)(hs:∀x,foldedSetIterable iter X.env x=pure x:=by intro _;rfl):PS X (.Assign [.Name x pos'] (.ListComp elt [⟨tg,iter,ifs,0⟩] scope pos) spos) (Yn (Wf wi g ti te T.length js) (Lq i)):=by
 intro pins s σ H D I h;rw[exec_Assign_Name_used _ _ _ _ hsw];refine Gt (wpAny_standAt (Gt ?_));show wpAny _ X.A (do let _ <-comprehension (.ListComp elt [⟨tg,iter,ifs,0⟩] scope pos) scope X.env _ (newList []) false (eval iter X.env) (some (assign (.Name x pos') X.env))) _ _ s;refine Gt (Qd8 (Q2 (use:=some (assign (.Name x pos') X.env)) (QQ:=λ_ s'=>SP X pins D .next s') S hc hi hg hif he I h (λd C s' H' m hn q fC hinv=> ?_) hs) (λ_ s' hq=>Qa1 (Qa1 hq)) λ_ _ e=>e);have I1:Inv X pins σ H' s':=hinv s'.heap (SameBut.refl ..);obtain⟨oC,es,ep,ho,hd,hr⟩:=id hn;obtain⟨f0,f1,f2,f3,f4,f5⟩:=fC;have I2:Inv X (pins++[(C,oC)]) σ H' s':=I1.pins_of λp hp=>(mem_append.mp hp).elim (λz=>I1.pin p (mem_append_right _ z)) λz=>by
  have e:=mem_singleton.mp z;subst e;exact⟨ho,f0,f1,f2,λv z=>by rw[hd] at z;cases z⟩
 show wpAny _ X.A (assign (.Name x pos') X.env (.ref d)) _ _ _;refine wpAny_assign_Name (E4 (v:= .ref d) I2 hN hx1 hx2 rfl (λs'' I''=> ?_) hf);have e2:=(I''.pin (C,oC) (mem_append_right _ (mem_append_right _ (mem_singleton.mpr rfl)))).1;refine⟨m,⟨oC,es,ep,e2,hd,hr⟩,λh' sb=> ?_⟩;exact⟨_,H',I''.unpinned.turned (t':=s''.toks) (it:=C) (λb o hb e=>sb.extBut b o hb e) f0 f1 f3 f4 f5,q⟩
end
section
variable{g:TG}{ti:TT}{te:TE}{Q:VK}{D:Addr}{σ:St}{H:Hp}
theorem Co{K:Frag}{a:Addr}{xs:List V}(Pv:Nat->St->List V->Hp->Prop)(h0:Pv 0 σ [] (upd H D (.lst [])))(hl:∀i σ ys H,i<=xs.length->Pv i σ ys H->SqL K H a xs/\H D=some (.lst ys))(hs:∀i x σ ys H,xs[i]? =some x->Pv i σ ys H->Ll g ti te D x σ ys H (Pv (i+1)))(hd:∀σ ys H,Pv xs.length σ ys H->Q (.ref D) H):
  cgo (Itl K a) g ti te D σ H Q:=by
 refine⟨λi m σ ys H=>m=xs.length - i/\i<=xs.length/\Pv i σ ys H,⟨xs.length,by simp,Qb8 _,h0⟩,?_⟩;rintro i m σ ys H ⟨rfl,hi,p⟩;obtain⟨q,hD⟩:=hl i σ ys H hi p;refine⟨hD,?_⟩;by_cases hlt:i<xs.length
 ·refine .inr ⟨⟨xs,xs[i],q,by simp[hlt]⟩,Pv (i+1),λσ' ys' H' p'=>⟨xs.length - (i+1),by omega,rfl,hlt,p'⟩,λx H' y=> ?_⟩;obtain⟨e,y⟩:=y;subst e;exact(hs i x σ ys _ (y xs q) p)
 ·have e:i=xs.length:=by omega
  subst e;exact .inl ⟨⟨xs,q,le_refl _⟩,hd σ ys H p⟩
theorem Cj{K:Frag}{a:Addr}{xs:List V}(Pv:Nat->St->List V->Hp->Prop)(h0:Pv 0 σ [] (upd H D (.lst [])))(hl:∀i σ ys H,i<=xs.length->Pv i σ ys H->SqT K H a xs/\H D=some (.lst ys))(hs:∀i x σ ys H,xs[i]? =some x->Pv i σ ys H->Ll g ti te D x σ ys H (Pv (i+1)))(hd:∀σ ys H,Pv xs.length σ ys H->Q (.ref D) H):
  cgo (Itt K a) g ti te D σ H Q:=by
 refine⟨λi m σ ys H=>m=xs.length - i/\i<=xs.length/\Pv i σ ys H,⟨xs.length,by simp,Qb8 _,h0⟩,?_⟩;rintro i m σ ys H ⟨rfl,hi,p⟩;obtain⟨q,hD⟩:=hl i σ ys H hi p;refine⟨hD,?_⟩;by_cases hlt:i<xs.length
 ·refine .inr ⟨⟨xs,xs[i],q,by simp[hlt]⟩,Pv (i+1),λσ' ys' H' p'=>⟨xs.length - (i+1),by omega,rfl,hlt,p'⟩,λx H' y=> ?_⟩;obtain⟨e,y⟩:=y;subst e;exact(hs i x σ ys _ (y xs q) p)
 ·have e:i=xs.length:=by omega
  subst e;exact .inl ⟨⟨xs,q,le_refl _⟩,hd σ ys H p⟩
theorem Cu{lo:Int}{n:Nat}(Pv:Nat->St->List V->Hp->Prop)(h0:Pv 0 σ [] (upd H D (.lst [])))(hl:∀i σ ys H,i<=n->Pv i σ ys H->H D=some (.lst ys))(hs:∀i σ ys H,i<n->Pv i σ ys H->Ll g ti te D (.int (lo+i)) σ ys H (Pv (i+1)))(hd:∀σ ys H,Pv n σ ys H->Q (.ref D) H):
  cgo (Itr lo n) g ti te D σ H Q:=by
 refine⟨λi m σ ys H=>m=n - i/\i<=n/\Pv i σ ys H,⟨n,by simp,Qb8 _,h0⟩,?_⟩;rintro i m σ ys H ⟨rfl,hi,p⟩;have hD:=hl i σ ys H hi p;refine⟨hD,?_⟩;by_cases hlt:i<n
 ·refine .inr ⟨hlt,Pv (i+1),λσ' ys' H' p'=>⟨n - (i+1),by omega,rfl,hlt,p'⟩,λx H' y=> ?_⟩;obtain⟨e,y⟩:=y;subst e y;exact(hs i σ ys _ hlt p)
 ·have e:i=n:=by omega
  subst e;exact .inl ⟨le_refl _,hd σ ys H p⟩
end
mutual
inductive Rep(K:Frag)(H:Hp):V->PyData->Prop
 |non:Rep K H .non .none
 |bl (b:Bool):Rep K H (.bl b) (.bool b)
 |int (i:Int):Rep K H (.int i) (.int i)
 |str (x:Str):Rep K H (.str x) (.str x)
 |lst {a:Addr} {xs:List V} {ds:List PyData}:SqL K H a xs->RepAll K H xs ds->Rep K H (.ref a) (.list ds)
 |tup {a:Addr} {xs:List V} {ds:List PyData}:SqT K H a xs->RepAll K H xs ds->Rep K H (.ref a) (.tuple ds)
inductive RepAll(K:Frag)(H:Hp):List V->List PyData->Prop
 |nil:RepAll K H [] []
 |cons {x:V} {xs:List V} {d:PyData} {ds:List PyData}:Rep K H x d->RepAll K H xs ds->RepAll K H (x::xs) (d::ds)
end
mutual
theorem Rep.reads{X:Cx}{pins:List (Addr×Obj)}{σ:St}{H:Hp}{s:Shared}(I:Inv X pins σ H s):∀{v:V} {d:PyData} {u:Value},Rep X.K H v d->RelV v u->∃as,Reads s.heap u d as
 |_,_,_,.non,r=>by cases r;exact⟨_,.none⟩
 |_,_,_,.bl b,r=>by cases r;exact⟨_,.bool b⟩
 |_,_,_,.int i,r=>by obtain⟨t,rfl⟩:=r;exact⟨_,.int i t⟩
 |_,_,_,.str x,r=>by obtain⟨t,rfl⟩:=r;exact⟨_,.str x t⟩
 |_,_,_,.lst hq hx,r=>by
  cases r;obtain⟨its,rv,hl,hz⟩:=I.list hq;obtain⟨as,ra⟩:=RepAll.reads I hx rv;obtain⟨o,ho,hc,n,hd⟩:=hl.isList;exact⟨_,.list ho hc hd ra⟩
 |_,_,_,.tup hq hx,r=>by
  cases r;obtain⟨its,rv,hl,hz⟩:=I.tuple hq;obtain⟨as,ra⟩:=RepAll.reads I hx rv;obtain⟨o,ho,hc,n,hd⟩:=hl;exact⟨_,.tuple ho hc hd ra⟩
theorem RepAll.reads{X:Cx}{pins:List (Addr×Obj)}{σ:St}{H:Hp}{s:Shared}(I:Inv X pins σ H s):∀{xs:List V} {ds:List PyData} {us:List Value},RepAll X.K H xs ds->Vals xs us->∃as,ReadsAll s.heap us ds as
 |_,_,_,.nil,.nil=>⟨_,.nil⟩
 |_,_,_,.cons h t,.cons r rs=>by
  obtain⟨a,ra⟩:=Rep.reads I h r;obtain⟨b,rb⟩:=RepAll.reads I t rs;exact⟨_,.cons ra rb⟩
end
section
variable{X:Cx}{a b c e:Expr}{ta tb tc te:TE}{pos p2:Pos}
inductive RNeDP(K:Frag)(x:V)(y:V)(H:Hp)(Q:VK):Prop
 |mk (da db:_):(Rep K H x da)->(Rep K H y db)->(da.canLay0=true)->(db.canLay0=true)->(da.depth<=20)->(Q (.bl (!PyData.eqv da db)) H)->RNeDP K x y H Q
def rNeD(K:Frag):R2:=λx y H Q=>RNeDP K x y H Q
theorem op_neD(hu:X.A.units+64<cLine):OpR X (compareOp .NotEq) (rNeD X.K):=by
 intro pins s σ H x y u v Q I rx ry h;obtain⟨da,db,h1,h2,h3,h4,h5,q⟩:=h;obtain⟨as,r1⟩:=h1.reads I rx;obtain⟨bs,r2⟩:=h2.reads I ry;exact SeqAt.compareNe_reads r1 r2 h3 h4 (by omega) ⟨.bl _,H,I,rfl,q⟩
theorem V3(hc:X.calm=true):Dm X (.builtin "sum") (λxs H Q=>∃(p:Addr) (ns:List Int),xs=[.ref p]/\SqL X.K H p (ns.map V.int)/\Q (.int ns.sum) H):=by
 intro pins s σ H xs us Q I r h;obtain⟨p,ns,rfl,hq,q⟩:=h;obtain⟨u,rfl,rx⟩:=Dw r;cases rx;obtain⟨its,rv,hl,hz⟩:=I.list hq;have hi:=Kf rv;obtain⟨ys,e⟩:=hi.allInts.items;have hl':=hl.isList;rw[e] at hl';refine sum_intListG (I.ok.hd hc) hl' λh' tk t' hk=>⟨.int ns.sum,H,I.kept hk,⟨t',?_⟩,q⟩
 have e2:ys.toList.map (·.1)=ns:=by
  have q2:=nums_intItems ys;rw[<-e] at q2;rw[<-q2];exact hi.numsOf
 rw[preSum_eq,e2,List.take_of_length_le (by rw[<-e2];simp)]
theorem Cd:Dm X (.builtin "isinstance") (λxs H Q=>∃(x:V) (t:Value) (c:String) (b:Bool),xs=[x,.ty c]/\Hm X.K H x t/\kitOne X.K t (.type c)=some b/\Q (.bl b) H):=by
 intro pins s σ H xs us Q I r h;obtain⟨x,t,c,b,rfl,ty,e,q⟩:=h;obtain⟨u,v,rfl,rx,ry⟩:=R3 r;cases ry;exact Te I rx ty e λtk=>⟨.bl b,H,I.tok tk,rfl,q⟩
theorem Dl{x:Str}{T:String}(hg:Gl X x)(hm:X.mg x=none)(hv:bootBuiltins x=some (.type T))(hn:x≠"__name__":=by decide)(hd:(x==("__debug__":Str))=false:=by decide):PE X (.Name x pos) (tC (.ty T)):=
 λpins s σ H Q I h=>Ew I hg hm hv ⟨.ty T,H,I,rfl,h⟩ hn hd
def Em(i:Int)(n:Nat):List Int:=(List.range n).map λ(k:Nat)=>i+(k:Int)
theorem K2(hc:X.calm=true):Dm X (.type "list") (λxs H Q=>∃(p:Addr) (i j:Int),xs=[.ref p]/\H p=some (.rng i j)/\(-(2 ^ 62)<=i/\i<2 ^ 62/\ -(2 ^ 62)<=j/\j<2 ^ 62)/\j - i<=1000000/\∀l,H l=none->Q (.ref l) (upd H l (.lst ((Em i (j - i).toNat).map V.int)))):=by
 intro pins s σ H xs us Q I r h;obtain⟨p,i,j,rfl,hp,⟨b1,b2,b3,b4⟩,hj,q⟩:=h;obtain⟨u,rfl,rx⟩:=Dw r;cases rx;obtain⟨t,u,v,ho⟩:=(show ObjOk X.prog X.w H s.heap p (.rng i j) from I.hok p _ hp)
 refine call_list_range (n:=(j - i).toNat) (I.ok.hd hc) (show IsRange s.heap p i j 1 t u v from ho) (small_one b1 b2 b3 b4) (by rw[rangeSize_one];split<;> omega) (by omega) λh' tk acc c' hk hS hacc=> ?_;have len:acc.toList.length=(j - i).toNat:=by simpa using hacc.1
 refine⟨.ref s.heap.objs.size,_,I.laid (o:= .lst ((Em i (j - i).toNat).map V.int)) hk (le_refl _) ⟨?_,acc.toList,c',?_,by simpa using hS⟩,rfl,q _ I.fresh⟩
 ·simp[Em,Qc5];exact Int.le_trans (by assumption) (by decide)
 ·have key:∀(l:List Value) (k:Nat) (i:Int),(∀(n:Nat) (x:Value),l[n]? =some x->∃t,x= .int (i+n) t)->l.length=k->Vals ((Em i k).map V.int) l:=by
   intro l
   induction l with
   |nil=>intro k i _ e;cases e;exact .nil
   |cons x l ih=>
    intro k i h e;cases k with
    |zero=>cases e
    |succ k=>
     have h0:=h 0 x rfl;have e1:Em i (k+1)=i::Em (i+1) k:=by
      simp only[Em,List.range_succ_eq_map,Qb5,map_map];refine congr (Qd1 List.cons (by simp)) (map_congr_left λa _=> ?_);simp only[Function.comp];omega
     rw[e1];refine .cons (by obtain⟨t,q⟩:=h0;exact⟨t,by simpa using q⟩) (ih k (i+1) (λn y hy=> ?_) (by simpa using e));obtain⟨t,q⟩:=h (n+1) y (by simpa using hy);exact⟨t,by rw[q];congr 1;omega⟩
  refine key acc.toList _ i (λn x hx=> ?_) len;obtain⟨t,q⟩:=hacc.2 n x (by simpa using hx);exact⟨t,by rw[q,Int.mul_one]⟩
def tRev(K:Frag)(te:TE)(ts:TO):TE:=λσ H Q=>te σ H λx H1=>ts σ H1 λo H2=>o=some (-1)/\∃(a:Addr) (xs:List V),x= .ref a/\SqL K H2 a xs/\∀p,H2 p=none->Q (.ref p) (upd H2 p (.lst xs.reverse))
theorem W0{st:Expr}{ts:TO}(he:PE X e te)(hs:PO X (some st) ts)(ops:Value->Value->List Value)(hsub:∀o i,subscripted (.Slice none none (some st) p2) false o i=operate (ops o i) (getItem o i)):PE X (.Subscript e (.Slice none none (some st) p2) pos) (tRev X.K te ts):=by
 intro pins s σ H Q I h;refine Subscript_ (thn (he pins s σ H _ I h) λv s1 ⟨x,H1,I1,r1,q1⟩=> ?_);refine wpAny_Slice ?_;rw[evalPart_none];refine Qa1 (Qa1 (thn (hs pins s1 σ H1 _ I1 q1) λvs s2 ⟨o,H2,I2,ps,q2⟩=> ?_));obtain⟨rfl,a,xs,rfl,hq,q⟩:=q2;cases r1;have I4:Inv X pins σ H2 {s2 with heap:=s2.heap.push {cls:= .type "slice",data:= .fields #[.none,.none,vs]}}:=I2.kept (t':=s2.toks) λb ob q=>Lt _ q;obtain⟨its,r,ht,hz⟩:=I4.list hq;have hlen:=r.length;show wpAny (model X.prog X.w) X.A (subscriptTail e (.Slice none none (some st) p2) (.ref a) (.ref s2.heap.objs.size)) (EP X pins σ Q) X.xe {s2 with heap:=s2.heap.push {cls:= .type "slice",data:= .fields #[.none,.none,vs]}};refine tail_any (ops:=ops (.ref a) (.ref s2.heap.objs.size)) ht.isList.typeIs slot_list_getitem.lookup ?_ (hsub _ _);refine wpAny_getItem_list_slice ht.isList (IsSliceOf.new ..) .none .none ps (by decide) ?_ (by rw[size_toArray]<;> omega);rw[PySem.W.krv_pick];refine⟨.ref _,_,I4.laid (t':=s2.toks) (o:= .lst xs.reverse) (λb ob q=>Lt _ q) (le_refl _) ⟨by simpa using hz,its.reverse,0,r.reverse,Qa7 _ rfl⟩,rfl,q _ I4.fresh⟩
inductive Si(K:Frag)(x:V)(y:V)(H:Hp)(Q:VK):Prop
 |mk (a b:Addr) (xs ys:List V):(x= .ref a)->(y= .ref b)->(SqT K H a xs)->(SqT K H b ys)->(xs.length+ys.length<=sizeLine)->((xs=[]->Q (.ref b) H))->((xs≠[]->ys=[]->Q (.ref a) H))->((xs≠[]->ys≠[]->∀p,H p=none->Q (.ref p) (upd H p (.tup (xs++ys)))))->Si K x y H Q
def Xt(K:Frag):R2:=λx y H Q=>Si K x y H Q
theorem Ef:OpR X (binaryOp .Add) (Xt X.K):=by
 intro pins s σ H x y u v Q I rx ry h;obtain⟨p,q,xs,ys,rfl,rfl,hx,hy,hz,h1,h2,h3⟩:=h;cases rx;cases ry;obtain⟨its,r1,t1,z1⟩:=I.tuple hx;obtain⟨its2,r2,t2,z2⟩:=I.tuple hy;have l1:=r1.length;have l2:=r2.length;by_cases e:xs=[]
 ·subst e;have ei:its=[]:=by cases its with|nil=>rfl|cons _ _=>cases l1
  subst ei;obtain⟨⟨cls,dd,data,sl⟩,ho,hc,n,hd⟩:=id t1;obtain⟨⟨cls2,dd2,data2,sl2⟩,ho2,hc2,n2,hd2⟩:=id t2;simp only at hc hd hc2 hd2;subst hc hd hc2 hd2;exact PySem.concat_meets ⟨_,ho,rfl⟩ ⟨_,ho2,rfl⟩ noFill_tuple_add seq_tuple_add slot_tuple_add entry_tuple_add (args_tuple_add_2 _ _)
   (tuple_addW0 p q _ _ n n2 dd dd2 sl sl2 (by rfl)) ⟨ho,ho2,⟨.ref q,H,I,rfl,h1 rfl⟩⟩
 ·refine HT.cat_tup t1 t2 (λz=>e ((Vals.nil_iff r1).mp z)) (λz=>⟨.ref p,H,I,rfl,h2 e ((Vals.nil_iff r2).mp z)⟩) (λz=> ?_) (by omega);exact⟨.ref s.heap.objs.size,_,I.laid (t':=s.toks) (o:= .tup (xs++ys)) (λb ob q=>Lt _ q) (le_refl _) ⟨by simpa using hz,its++its2,r1.append r2,IsTupN.new _ _⟩,rfl,h3 e (λz'=>z ((Vals.nil_iff r2).mpr z')) _ I.fresh⟩
end
section
variable{X:Cx}{a b c e:Expr}{ta tb tc te:TE}{pos p2:Pos}
inductive RSlSP(x:V)(lo:Option Int)(hi:Option Int)(H:Hp)(Q:VK):Prop
 |mk (z:_):(x= .str z)->(z.length<=sizeLine)->(Q (.str (Txt.slice z lo hi)) H)->RSlSP x lo hi H Q
def rSlS:V->Option Int->Option Int->Hp->VK->Prop:=λx lo hi H Q=>RSlSP x lo hi H Q
theorem sl_str:SlR X rSlS:=by
 intro pins s σ H x v vl vu lo hi sl Q I rx hs pl pu h;obtain⟨z,rfl,hz,q⟩:=h;obtain⟨t,rfl⟩:=rx;refine⟨"str",_,PySem.F.slot_str_getitem.lookup,typeIs_str _ _ _,?_⟩;have fin:∀t' k,EP X pins σ Q (.str (Txt.slice z lo hi) t') {s with toks:=k}:=λt' k=>⟨.str _,H,I.tok k,⟨t',rfl⟩,q⟩
 cases pl with
 |none=>
  cases pu with
  |none=>exact Qe7 (l:=none) (u:=none) (st:=none) hs rfl (post_val_or_str ⟨le_trans (Txt.slice_le z _ _) hz,fin⟩)
  |int j tj=>exact Qe7 (l:=none) (u:=some (j,tj)) (st:=none) hs rfl (post_val_or_str ⟨le_trans (Txt.slice_le z _ _) hz,fin⟩)
 |int i ti=>
  cases pu with
  |none=>exact Qe7 (l:=some (i,ti)) (u:=none) (st:=none) hs rfl (post_val_or_str ⟨le_trans (Txt.slice_le z _ _) hz,fin⟩)
  |int j tj=>exact Qe7 (l:=some (i,ti)) (u:=some (j,tj)) (st:=none) hs rfl (post_val_or_str ⟨le_trans (Txt.slice_le z _ _) hz,fin⟩)
theorem J0:∀{ys:List Str} {us:List Value},Vals (ys.map V.str) us->StrsAre us ys
 |[],_,.nil=> .nil
 |y::ys,_,.cons h t=>by
  obtain⟨u,rfl⟩:=h;exact .cons y u (J0 t)
inductive Xu(K:Frag)(x:V)(vs:List V)(H:Hp)(Q:VK):Prop
 |mk (z:Str) (l:Addr) (ys:List Str):(x= .str z)->(vs=[.ref l])->(SqL K H l (ys.map V.str))->((ys.map (·.length)).sum+ys.length * z.length<=16777216)->(Q (.str (Txt.join z ys)) H)->Xu K x vs H Q
def rJoin(K:Frag):V->List V->Hp->VK->Prop:=λx vs H Q=>Xu K x vs H Q
theorem Zp:MtM X "str.join" (rJoin X.K):=by
 intro pins s σ H x xs v us Q I rx r h;obtain⟨z,l,ys,rfl,rfl,hl,hz,q⟩:=h;obtain⟨t,rfl⟩:=rx;obtain⟨u,rfl,ru⟩:=Dw r;cases ru;obtain⟨its,rv,hp,_⟩:=I.list hl;exact join_list hp.isList (J0 rv) hz λt' k=>⟨.str _,H,I.tok k,⟨t',rfl⟩,q⟩
end
def relab(scope osc:Scope):Scope:={scope with names:=scope.names.map λ(n,k)=>if (k== .free && osc.kind== .function && osc.names.lookup n==some .cell) then (n,.cell) else (n,k)}
structure CS(osc scope:Scope)(T F:List Str):Prop where
 kind:scope.kind= .function
 nocell:∀y∈scope.names,y.2≠ .cell
 names:∀x∈scope.names,x.2= .local->scope.names.lookup x.1=some .local
 free:∀x∈scope.names,x.2= .free->osc.names.lookup x.1=some .cell
 loc:∀y∈T,(relab scope osc).names.lookup y=some .local
 cel:∀y∈F,(relab scope osc).names.lookup y=some .cell/\osc.names.lookup y=some .cell/\(y,NameKind.free)∈scope.names
 all:∀x∈(relab scope osc).names,(x.2= .cell\/x.2= .free)->(x.1,NameKind.free)∈scope.names
theorem CS.to{X:Cx}{scope osc:Scope}{T F:List Str}{js:List Nat}(h:CS osc scope T F)(hj:js.map (λj=>X.N[j]?)=F.map some)(ho:X.env.scope=osc):G8 X scope T F js:=by
 subst ho;exact⟨h.kind,h.nocell,h.names,h.free,h.loc,h.cel,h.all,hj⟩
theorem PSs.imp'{X:Cx}{st:List PySem.Stmt}{t t':TS}(h:PSs X st t)(f:∀D σ H,t' D σ H->t D σ H):PSs X st t':=λpins s σ H D I h'=>h pins s σ H D I (f D σ H h')
structure Cl(P:Program)(w:World)(K:Frag)(mg:Str->Option Value)(base:Heap)(n:Nat)(x:Str)(ps:List Str)(sp:Sp):Prop where
 ex:∃(g:Addr) (fd:FuncData),keepIn K (.ref g)=true/\Binds K fd ps []/\mg x=some (.ref g)/\FnOk P w K mg base CX0 n g fd ps sp
theorem Cl.up{P:Program}{w:World}{K:Frag}{mg:Str->Option Value}{base:Heap}{j n:Nat}{x:Str}{ps:List Str}{sp:Sp}(h:Cl P w K mg base j x ps sp)(l:j<=n:=by decide):Cl P w K mg base n x ps sp:=
 let ⟨g,fd,a,b,c,d⟩:=h.ex
 ⟨g,fd,a,b,c,d.mono l⟩
structure FA(K:Frag)(x:Str)(st:Stmt)(f:Addr):Prop where
 a:PySem.W.nsIn K mainGlobals x=some (some (.ref f))
 fn:∃fd,Fun K x x st f fd
theorem FA.of{K:Frag}{x:Str}{st:Stmt}{f:Addr}{oc:Value}{od an:Option Addr}{osl:Array (Option Value)}{kV doc pm cdv ct:Value}(a:PySem.W.nsIn K mainGlobals x=some (some (.ref f)))(l:K.lookup f=some ⟨oc,od,.func (PySem.W.fnOf x x (En st) (Dx st) (Ah st) .none kV doc pm an cdv ct),osl⟩)(c:PySem.W.codeIn K cdv x=true)(k:keepIn K (.ref f)=true):FA K x st f:=⟨a,_,fun_mk l c k⟩
theorem Fun.bindsTo{K:Frag}{x qual:Str}{st:Stmt}{f:Addr}{fd:FuncData}{y:Str}(F:Fun K x qual st f fd)(h:∀(kV doc pm:Value) (an:Option Addr) (cdv ct v:Value),bindArgs (PySem.W.fnOf x qual (En st) (Dx st) (Ah st) .none kV doc pm an cdv ct) ⟨[v],[]⟩=pure [(y,v)]:=by intros;rfl)(s:Shared)(v:Value):BindsTo s fd ⟨[v],[]⟩ [(y,v)]:=by
 obtain⟨oc,od,kV,doc,pm,an,cdv,ct,osl,rfl,_⟩:=F.ex;exact .of_eq (h kV doc pm an cdv ct v)
theorem By{K:Frag}{x:Str}{st:Stmt}{f:Addr}{fd:FuncData}{mg:Str->Option Value}{ps:List Str}{n:Nat}{sp:Sp}{h:Heap}(P:Program)(w:World)(base:Heap)(F:Fun K x x st f fd)(A:FA K x st f)(X:K.In h)(G:h.Ns mainGlobals mg)(b:∀(kV doc pm:Value) (an:Option Addr) (cdv ct:Value) (us:List Value),us.length=ps.length->bindArgs (PySem.W.fnOf x x (En st) (Dx st) (Ah st) .none kV doc pm an cdv ct) ⟨us,[]⟩=pure (ps.zip us))(Q:FnOk P w K mg base CX0 n f fd ps sp):Cl P w K mg base n x ps sp:=
 ⟨f,fd,F.kp,F.binds b,mg_of X G A.a,Q⟩
section
variable{X:Cx}{k:Nat}{x:Str}{ps:List Str}{sp:Sp}{e:Expr}{es:List Expr}{t:TA}{p pos:Pos}
theorem Au(C:Cl X.prog X.w X.K X.mg X.base k x ps sp)(hr:Room k X.A)(ha:PA X (e::es) t)(hg:Gl X x:=by rfl)(hdb:(x==("__debug__":Str))=false:=by decide)(he:starEach (e::es) X.env=(false,eval e X.env)::starEach es X.env:=by rfl)(hpl:(backTo pos (starEach es X.env)).any (·.1)=false:=by rfl):
  PE X (.Call (.Name x p) (e::es) [] pos) (Wm sp [] E0 t):=by
 obtain⟨g,fd,a,b,c,d⟩:=C.ex;exact Sf d hr hg c a b .nil Z9 ha hdb he hpl
end
theorem cs{X:Cx}{scope osc:Scope}{T F:List Str}{js:List Nat}(h1:scope.kind= .function:=by rfl)(h2:∀y∈scope.names,y.2≠ .cell:=by decide+kernel)(h3:∀x∈scope.names,x.2= .local->scope.names.lookup x.1=some .local:=by decide+kernel)(h4:∀x∈scope.names,x.2= .free->osc.names.lookup x.1=some .cell:=by decide+kernel)(h5:∀y∈T,(relab scope osc).names.lookup y=some .local:=by decide+kernel)(h6:∀y∈F,(relab scope osc).names.lookup y=some .cell/\osc.names.lookup y=some .cell/\(y,NameKind.free)∈scope.names:=by decide+kernel)(h7:∀x∈(relab scope osc).names,(x.2= .cell\/x.2= .free)->(x.1,NameKind.free)∈scope.names:=by decide+kernel)(hj:js.map (λj=>X.N[j]?)=F.map some:=by rfl)(ho:X.env.scope=osc:=by rfl):G8 X scope T F js:=CS.to ⟨h1,h2,h3,h4,h5,h6,h7⟩ hj ho
section
variable{X:Cx}{pins:List (Addr×Obj)}{σ:St}{H:Hp}{s:Shared}
theorem Inv.turnedL{t':Nat}{h':Heap}(ch:List Addr)(I:Inv X pins σ H s)(k:∀b o,b ∉ ch->s.heap.get? b=some o->h'.get? b=some o)(hf:∀b∈ch,FpOk X pins H b):Inv X pins σ H {s with heap:=h',toks:=t'}:=by
 have out:∀b u,H b=some u->b ∉ ch:=λb u e z=>by rw[(hf b z).1] at e;cases e
 have outL:X.env.locals ∉ ch:=λz=>(hf _ z).2.1 rfl;refine I.step (g':=s.gens) (d':=s.drawn) (ch:=ch) (λb hb=>⟨(hf b hb).2.2.2.1,(hf b hb).2.1,(hf b hb).2.2.2.2.1,(hf b hb).2.2.2.2.2⟩) (λb o _ _ hc e _=>k b o hc e) (λb o _ _ hc e _=>⟨o.slots,k b o hc e⟩)
  (λ_ _ _ _ n=>n) (λb o hc e=>⟨o,k b o hc e⟩) (λ_ _ e=>e) (λ_ _ _ e=>e) (λb ps e=>⟨#[],by rw[e];simp⟩) (λm hm=> ?_) (λb u e=> ?_) I.bare
 ·obtain⟨o,es,ep,ho,r⟩:=hm;exact⟨o,es,ep,k _ o outL ho,r⟩
 ·refine(I.hok b u e).stay (λc v hc q=>k c v ?_ q) (λ_ q=>q) λ_ _ q=>q;rcases hc with z|z
  ·rw[z];exact out b u e
  ·exact out c _ z
theorem FpOk.up{b T:Addr}{o:HO}(h:FpOk X pins H b)(n:b≠T):FpOk X pins (upd H T o) b:=⟨by rw[Al n];exact h.1,h.2⟩
end
def Ite(K:Frag)(a:Addr):It:=
 ⟨λi H=>∃xs x,SqL K H a xs/\xs[i]? =some x,λi H v H'=>∃T x,H T=none/\v= .ref T/\H'=upd H T (.tup [.int i,x])/\∀xs,SqL K H a xs->xs[i]? =some x,λi H=>∃xs,SqL K H a xs/\xs.length<=i⟩
theorem Tr{P:Program}{w:World}{K:Frag}{elts:List Expr}{x1}{pos:Pos}(a e it:Addr)(hei:e≠it):Qe P w K (.Tuple elts x1 pos) (Ite K a) [e,it] e (λi h=>(∃old,IsEnum h e it i old)/\h.IsListIter it a i) where
 mem:=by simp
 obj:=λi h st b hb=>by
  obtain⟨⟨old,he⟩,o,ho,hc,hd⟩:=st;rcases Qa9.mp hb with rfl|hb
  ·exact⟨_,he,λv z=>by cases z⟩
  ·have:b=it:=by simpa using hb
   subst this;exact⟨o,ho,λv z=>by rw[hd] at z;cases z⟩
 keep:=λi h h' st k=>⟨let ⟨old,he⟩:=st.1;⟨old,k e (by simp) _ he⟩,st.2.at λo q=>k it (by simp) o q⟩
 item:=by
  intro X hP hw hK hc i pins s σ H E I hf st hg;subst hP hw hK;obtain⟨⟨old,he⟩,hit⟩:=st;obtain⟨xs,x,hq,hx⟩:=hg;obtain⟨its,rv,p,hz⟩:=I.list hq;obtain⟨u,hu,ru⟩:=rv.get hx;have fresh:H s.heap.objs.size=none:=I.hok.fresh (le_refl _);have elt:e<s.heap.objs.size:=Qa8 he;have ilt:it<s.heap.objs.size:=by obtain⟨_,q,_⟩:=hit;exact Qa8 q
  refine wpAny_pyNext_enum_item he hit p.isList (x:=u) (by simpa using hu) hei λh' eo it' hT hsz kk=>⟨_,rfl,?_⟩
  refine wpAny_letOwnedTupleGo_enum (s:={s with heap:=h',toks:=s.toks+1}) eo λh2 e2 sb=> ?_;have I1:Inv X pins σ (upd H s.heap.objs.size (.tup [.int i,x])) {s with heap:=s.heap.push {cls:= .type "tuple",data:= .seq #[.int i s.toks,u]},toks:=s.toks}:=
   I.laid (o:= .tup [.int i,x]) (λb ob q=>Lt _ q) (le_refl _) ⟨by rw[Qc5];simp,[.int i s.toks,u],.cons ⟨_,rfl⟩ (.cons ru .nil),IsTupN.new _ _⟩
  have I2:=I1.turnedL (h':=h2) (t':=s.toks+1) [e,it] (λb o hb q=> ?_) (λb hb=> ?_)
  ·refine⟨.ref s.heap.objs.size,_,I2,rfl,⟨_,x,fresh,rfl,rfl,λys hy=>by rw[I.list_inj hy hq];exact hx⟩,⟨⟨_,by simpa using e2⟩,it'.at λo q=>(sb.2 it hei.symm).trans q⟩,λb hb=> ?_⟩;rcases Qa9.mp hb with rfl|hb
   ·rw[Al (ne_of_lt elt)];exact(hf _ (by simp)).1
   ·have:b=it:=by simpa using hb
    subst this;rw[Al (ne_of_lt ilt)];exact(hf _ (by simp)).1
  ·have b1:b≠e:=λz=>hb (by simp[z]);have b2:b≠it:=λz=>hb (by simp[z]);refine(sb.2 b b1).trans ?_;by_cases hbs:b=s.heap.objs.size
   ·subst hbs;rw[Qa7 _ rfl] at q;cases q;exact hT
   ·rw[get?_push_ne _ _ _ hbs] at q;exact kk b o b1 b2 q
  ·rcases Qa9.mp hb with rfl|hb
   ·exact(hf _ (by simp)).up (ne_of_lt elt)
   ·have:b=it:=by simpa using hb
    subst this;exact(hf _ (by simp)).up (ne_of_lt ilt)
 done:=by
  intro X hP hw hK hc i pins s σ H E I hf st hg;subst hP hw hK;obtain⟨⟨old,he⟩,hit⟩:=st;obtain⟨xs,hq,hx⟩:=hg;obtain⟨its,rv,p,hz⟩:=I.list hq;have hl:=rv.length;exact wpAny_pyNext_enum_end (I.ok.hd hc) he hit p.isList (by simp;omega) λh' eb=>⟨rfl,I.turnedL (t':=s.toks) [e,it] (λb o hb q=>eb b o (λz=>hb (by simp[z])) q) hf⟩
 self:=λA i s Q E st h=>let ⟨⟨old,he⟩,_⟩:=st;wpAny_pyIter_enum he h
def iEnum(K:Frag)(ta:TA):TI:=λσ H R=>ta σ H λvs H1=>∃a xs,vs=[.ref a]/\SqL K H1 a xs/\R (Ite K a) H1
theorem Xr{X:Cx}{elts:List Expr}{x1}{tpos:Pos}{a:Expr}{ta:TA}{p pos:Pos}(hg:Gl X "enumerate")(hm:X.mg "enumerate"=none)(ha:PA X [a] ta)(hs:starEach [a] X.env=[(false,eval a X.env)]:=by rfl):
  PI X (.Tuple elts x1 tpos) (.Call (.Name "enumerate" p) [a] [] pos) (iEnum X.K ta):=by
 intro pins s σ H R I h;refine Call_ (Ew I hg hm (show bootBuiltins "enumerate"=some (.type "enumerate") by decide+kernel) (PyProof.Rows.callWith_type1 (thn (ha pos pins s σ H _ I h) λus s1 ⟨vs,H1,I1,r1,q1⟩=> ?_) hs rfl));obtain⟨l,xs,e,hq,q⟩:=q1;subst e;obtain⟨u,rfl,ru⟩:=Dw r1;cases ru;obtain⟨its,rv,pl,hz⟩:=I1.list hq;refine call_enumerate_list pl.isList λh' he hit hsz kk=>wpAny_pyIter_enum he ?_;refine⟨s1.heap.objs.size+1,[s1.heap.objs.size+1,s1.heap.objs.size],_,_,H1,rfl,I1.kept (t':=s1.toks) kk,Tr l _ _ (Nat.succ_ne_self _),⟨⟨_,he⟩,hit⟩,λb hb=> ?_,q⟩;have hb:s1.heap.objs.size<=b:=by
  rcases Qa9.mp hb with rfl|hb
  ·exact le_succ _
  ·have:b=s1.heap.objs.size:=by simpa using hb
   exact le_of_eq this.symm
 exact I1.fpOk hb (I1.hok.fresh hb)
section
variable{g:TG}{ti:TT}{te:TE}{Q:VK}{D:Addr}{σ:St}{H:Hp}
theorem Ud{K:Frag}{a:Addr}{xs:List V}(Pv:Nat->St->List V->Hp->Prop)(h0:Pv 0 σ [] (upd H D (.lst [])))(hl:∀i σ ys H,i<=xs.length->Pv i σ ys H->SqL K H a xs/\H D=some (.lst ys))(hs:∀i x σ ys H T,xs[i]? =some x->Pv i σ ys H->H T=none->Ll g ti te D (.ref T) σ ys (upd H T (.tup [.int (i:Nat),x])) (Pv (i+1)))(hd:∀σ ys H,Pv xs.length σ ys H->Q (.ref D) H):
  cgo (Ite K a) g ti te D σ H Q:=by
 refine⟨λi m σ ys H=>m=xs.length - i/\i<=xs.length/\Pv i σ ys H,⟨xs.length,by simp,Qb8 _,h0⟩,?_⟩;rintro i m σ ys H ⟨rfl,hi,p⟩;obtain⟨q,hD⟩:=hl i σ ys H hi p;refine⟨hD,?_⟩;by_cases hlt:i<xs.length
 ·refine .inr ⟨⟨xs,xs[i],q,by simp[hlt]⟩,Pv (i+1),λσ' ys' H' p'=>⟨xs.length - (i+1),by omega,rfl,hlt,p'⟩,λx H' y=> ?_⟩;obtain⟨T,z,hT,rfl,rfl,y⟩:=y;exact hs i z σ ys H T (y xs q) p hT
 ·have e:i=xs.length:=by omega
  subst e;exact .inl ⟨⟨xs,q,le_refl _⟩,hd σ ys H p⟩
end
end L2
namespace PySem
open Builtin
section
variable{prog:Program}{w:World}{A:Around}{E:Value->Shared->Prop}{s:Shared}
theorem Pq{it t:Addr}{i:Nat}{its:Array Value}{x:Value}{Q:Value->Shared->Prop}(hi:s.heap.IsTupleIter it t i)(ht:s.heap.IsTuple t its)(hx:its[i]? =some x)(hQ:∀h',h'.IsTupleIter it t (i+1)->SameBut it s.heap h'->Q x {s with heap:=h'}):wpAny (model prog w) A (Builtin.SmallTypes.nextOf (.ref it)) Q E s:=by
 obtain⟨oi,gi,ci,di⟩:=id hi;obtain⟨ot,gt,_,nt,dt⟩:=ht;unfold Builtin.SmallTypes.nextOf;refine Gt (Qc6 (name:=Str.ofString "__next__") hi.typeIs F.slot_tuple_iterator_next (Qd4 F.slot_tuple_iterator_next hi.typeIs F.entry_tuple_iterator_next ?_ (F.args_tuple_iterator_next_1 _)));show wpAny _ _ (field (.ref it) 0 >>=λ_=>_) _ _ s;refine Gt (Qc0 gi di (x:= .ref t) rfl ?_);show wpAny _ _ (ite ((Value.ref t==Value.none)=true) _ _) _ _ s;have ng:¬((Value.ref t==Value.none)=true):=Bool.false_ne_true;rw[Qa2 ng];show wpAny _ _ (field (.ref it) 1 >>=λ_=>_) _ _ s;refine Gt (Qc0 gi di (x:= .int i 0) rfl ?_);show wpAny _ _ (seqItems? (.ref t) >>=λ_=>_) _ _ s;refine Gt (Qd7 gt dt ?_);simp only[Int.toNat_natCast,hx];refine Gt (wpAny_setField gi di (by simp) (Qa1 ⟨x,rfl,Qa1 (hQ _ ⟨_,Heap.get?_update_self _ gi (Obj.isFreed_of_fields (Obj.data_mapFields di _)),(Obj.cls_mapFields ..).trans ci,?_⟩ (SameBut.update ..))⟩));rw[Obj.data_mapFields di];simp[rawInt]
theorem Ke{it t:Addr}{i:Nat}{its:Array Value}{Q:Value->Shared->Prop}(hh:A.handled=none)(hi:s.heap.IsTupleIter it t i)(ht:s.heap.IsTuple t its)(hx:its[i]? =none)(hE:∀h' e,Heap.ExtBut it s.heap h'->(∃o,h'.get? e=some o/\o.cls= .type "StopIteration")->E (.ref e) {s with heap:=h'}):wpAny (model prog w) A (Builtin.SmallTypes.nextOf (.ref it)) Q E s:=by
 obtain⟨oi,gi,ci,di⟩:=id hi;obtain⟨ot,gt,_,nt,dt⟩:=ht;unfold Builtin.SmallTypes.nextOf;refine Gt (Qc6 (name:=Str.ofString "__next__") hi.typeIs F.slot_tuple_iterator_next (Qd4 F.slot_tuple_iterator_next hi.typeIs F.entry_tuple_iterator_next ?_ (F.args_tuple_iterator_next_1 _)));show wpAny _ _ (field (.ref it) 0 >>=λ_=>_) _ _ s;refine Gt (Qc0 gi di (x:= .ref t) rfl ?_);show wpAny _ _ (ite ((Value.ref t==Value.none)=true) _ _) _ _ s;have ng:¬((Value.ref t==Value.none)=true):=Bool.false_ne_true;rw[Qa2 ng];show wpAny _ _ (field (.ref it) 1 >>=λ_=>_) _ _ s;refine Gt (Qc0 gi di (x:= .int i 0) rfl ?_);show wpAny _ _ (seqItems? (.ref t) >>=λ_=>_) _ _ s;refine Gt (Qd7 gt dt ?_);simp only[Int.toNat_natCast,hx];refine Gt (Qe4 (Gt (wpAny_setField gi di (by simp) ?_)));show wpAny _ _ (newExc (.type "StopIteration") [] >>=λ_=>_) _ _ _;refine Gt ?_;simp only[newExc,newTuple];refine Gt (Qc9 ?_ (by size_fits));refine Gt (m:=firstArgMember _ _) (wpAny_of_eq (a:=Value.none) (by first|rfl|(simp only[firstArgMember];rfl)) ?_);refine Qc9 ?_ (by size_fits);simp only[raiseNew];refine Gt (wpAny_handled ?_)
 first|rw[show A.in1.handled=none from hh]|rw[hh]
 exact Gt (Qa1 (wpAny_throw (hE _ _ (((SameBut.update ..).extBut.push _).push _) ⟨_,Qa7 _ rfl,rfl⟩)))
theorem Draws.tup{prog:Program}{w:World}{A:Around}(hh:A.handled=none)(it t:Addr)(hne:t≠it)(its:Array Value):
  Draws prog w A it [it,t] its.size (λi v=>its[i]? =some v) (λi h=>h.IsTupleIter it t i/\h.IsTuple t its) where
 live:=λ_ _ st=>⟨st.1.choose,st.1.choose_spec.1⟩
 frame:=λ_ _ _ st hk=>⟨st.1.at λo e=>hk it (by simp) o e,let ⟨o,ho,r⟩:=st.2;⟨o,hk t (by simp) o ho,r⟩⟩
 item:=λi s Q E hi st hQ=>by
  refine Pq st.1 st.2 (x:=its[i]) (by simp[hi]) λh' hit' hs'=> ?_;exact hQ _ h' s.toks (by simp[hi]) ⟨hit',let ⟨o,ho,r⟩:=st.2;⟨o,hs'.extBut _ _ hne ho,r⟩⟩ hs'
 done:=λs Q E st hE=>Ke hh st.1 st.2 (by simp) hE
end
structure ZAp(z TI TO i1 i2:Addr)(f1 f2:List Addr):Prop where
 a1:TI≠z
 a2:TO≠z
 a3:i1≠z
 a4:i2≠z
 a5:TI≠TO
 a6:TI≠i1
 a7:TI≠i2
 a8:TO≠i1
 a9:TO≠i2
 b1:i1≠i2
 b2:z ∉ f1
 b3:z ∉ f2
 b4:TO ∉ f1
 b5:TO ∉ f2
 b6:i1 ∉ f2
 b7:i2 ∉ f1
section
variable{prog:Program}{w:World}{A:Around}{E:Value->Shared->Prop}{s:Shared}{z TI TO i1 i2:Addr}{f1 f2:List Addr}{n1 n2:Nat}{P1 P2:Nat->Value->Prop}{S1 S2:Nat->Heap->Prop}
theorem Tz{k:Nat}{a b:Value}{Q:Value->Shared->Prop}(D:ZAp z TI TO i1 i2 f1 f2)(D1:Draws prog w A i1 f1 n1 P1 S1)(D2:Draws prog w A i2 f2 n2 P2 S2)(hZ:IsZip s.heap z TI TO .none)(pI:IsPair s.heap TI (.ref i1) (.ref i2))(pO:IsPair s.heap TO a b)(t1:S1 k s.heap)(t2:S2 k s.heap)(l1:k<n1)(l2:k<n2)(hQ:∀h' tk x y,P1 k x->P2 k y->IsZip h' z TI TO (rawInt s.heap.objs.size)->IsPair h' TO x y->S1 (k+1) h'->S2 (k+1) h'->IsPair h' s.heap.objs.size x y->
   (∀c o,c≠z->c≠TO->c≠i1->c≠i2->s.heap.get? c=some o->h'.get? c=some o)->Q (.ref s.heap.objs.size) {s with heap:=h',toks:=tk}):
  wpAny (model prog w) A (Builtin.«zip.__next__» ⟨[.ref z],[]⟩) (λfin s'=>∃v,fin= .done (.ret v)/\Q v s') E s:=by
 show wpAny _ _ (field (.ref z) 2 >>=λ_=>_) _ _ _;refine Gt (Qc0 hZ rfl (x:= .bool false) rfl ?_);show wpAny _ _ (field (.ref z) 3 >>=λ_=>_) _ _ _;refine Gt (Qc0 hZ rfl (x:= .ref TI) rfl ?_);refine Gt (Qd7 pI rfl ?_);show wpAny _ _ (Builtin.SmallTypes.ownedTupleIsFree (.ref z) >>=λ_=>_) _ _ _;refine Gt ?_;unfold Builtin.SmallTypes.ownedTupleIsFree;refine Gt (Qc0 hZ rfl (x:= .none) rfl (Qa1 ?_));simp only[if_true];refine Gt (Qe4 (Gt (Qc0 hZ rfl (x:= .ref TO) rfl ?_)));refine Gt (Qe0 hZ (by simp) λg1 zg1 k1=> ?_)
 replace zg1:IsZip g1 z TI TO .ellipsis:=zg1
 refine Gt ?_;simp only[List.zipIdx_cons,List.zipIdx_nil,List.forIn_cons,List.forIn_nil];refine Gt (Gt (wpAny_onRaise ?_));show wpAny _ _ (Builtin.SmallTypes.nextOf (.ref i1) >>=λ_=>_) _ _ _;refine Gt (D1.item k _ _ _ l1 (D1.frame _ _ _ t1 λc hc o e=>k1.extBut _ _ (λq=>D.b2 (q▸hc)) e) λx g2 tk2 px sg2 k2=>Qa1 ?_);have pO2:IsPair g2 TO a b:=k2.extBut _ _ D.a8 (k1.extBut _ _ D.a2 pO);refine Gt (Qd7 pO2 rfl (Gt (wpAny_updateSeq_pair pO2 λg3 pO3 k3=> ?_)))
 replace pO3:IsPair g3 TO x b:=pO3
 refine Gt (wpAny_letGo (Qa1 (Gt (Gt (wpAny_onRaise ?_)))));show wpAny _ _ (Builtin.SmallTypes.nextOf (.ref i2) >>=λ_=>_) _ _ _;have t2':S2 k g3:=D2.frame _ _ _ t2 λc hc o e=>k3.extBut _ _ (λq=>D.b5 (q▸hc)) (k2.extBut _ _ (λq=>D.b6 (q▸hc)) (k1.extBut _ _ (λq=>D.b3 (q▸hc)) e));refine Gt (D2.item k _ _ _ l2 t2' λy g4 tk4 py sg4 k4=>Qa1 ?_);have pO4:IsPair g4 TO x b:=k4.extBut _ _ D.a9 pO3;refine Gt (Qd7 pO4 rfl (Gt (wpAny_updateSeq_pair pO4 λg5 pO5 k5=> ?_)))
 replace pO5:IsPair g5 TO x y:=pO5
 refine Gt (wpAny_letGo (Qa1 (Qa1 (Gt (Qd7 pO5 rfl (Gt (wpAny_newTuple ?_)))))));have sz:g5.objs.size=s.heap.objs.size:=by rw[k5.1,k4.1,k3.1,k2.1,k1.1]
 have zg5:IsZip g5 z TI TO .ellipsis:=k5.extBut _ _ D.a2.symm (k4.extBut _ _ D.a4.symm (k3.extBut _ _ D.a2.symm (k2.extBut _ _ D.a3.symm zg1)));have kk:∀c o,c≠z->c≠TO->c≠i1->c≠i2->s.heap.get? c=some o->g5.get? c=some o:=λc o c1 c2 c3 c4 e=>k5.extBut _ _ c2 (k4.extBut _ _ c4 (k3.extBut _ _ c2 (k2.extBut _ _ c3 (k1.extBut _ _ c1 e))));have u1:S1 (k+1) g5:=D1.frame _ _ _ sg2 λc hc o e=>k5.extBut _ _ (λq=>D.b4 (q▸hc)) (k4.extBut _ _ (λq=>D.b7 (q▸hc)) (k3.extBut _ _ (λq=>D.b4 (q▸hc)) e));have u2:S2 (k+1) g5:=D2.frame _ _ _ sg4 λc hc o e=>k5.extBut _ _ (λq=>D.b5 (q▸hc)) e;have zlt:z<g5.objs.size:=Qa8 zg5;show wpAny _ _ (Builtin.SmallTypes.ownedTupleHandOut (.ref z) (.ref g5.objs.size) >>=λ_=>_) _ _ _;refine Gt ?_;unfold Builtin.SmallTypes.ownedTupleHandOut;have zg6:IsZip (g5.push {cls:= .type "tuple",data:= .seq #[x,y]}) z TI TO .ellipsis:=Lt _ zg5;refine Gt (Qe0 zg6 (by simp) λg7 zg7 k7=> ?_)
 replace zg7:IsZip g7 z TI TO (rawInt g5.objs.size):=zg7
 refine Qe0 zg7 (by simp) λg8 zg8 k8=> ?_
 replace zg8:IsZip g8 z TI TO (rawInt g5.objs.size):=zg8
 have up:∀c o,c≠z->g5.get? c=some o->g8.get? c=some o:=λc o c1 e=>k8.extBut _ _ c1 (k7.extBut _ _ c1 (Lt _ e));have pT:IsPair g8 g5.objs.size x y:=k8.extBut _ _ (ne_of_gt zlt) (k7.extBut _ _ (ne_of_gt zlt) (Qa7 _ rfl));rw[sz] at zg8 pT;refine Qa1 ⟨_,rfl,?_⟩;show Q (.ref g5.objs.size) _;rw[sz];exact hQ g8 _ x y px py zg8 (up _ _ D.a2 pO5) (D1.frame _ _ _ u1 λc hc o e=>up c o (λq=>D.b2 (q▸hc)) e) (D2.frame _ _ _ u2 λc hc o e=>up c o (λq=>D.b3 (q▸hc)) e) pT λc o c1 c2 c3 c4 e=>up c o c1 (kk c o c1 c2 c3 c4 e)
theorem Ww{k:Nat}{a b:Value}{Q:Fin->Shared->Prop}(D:ZAp z TI TO i1 i2 f1 f2)(D1:Draws prog w A i1 f1 n1 P1 S1)(D2:Draws prog w A i2 f2 n2 P2 S2)(hZ:IsZip s.heap z TI TO .none)(pI:IsPair s.heap TI (.ref i1) (.ref i2))(pO:IsPair s.heap TO a b)(t1:S1 k s.heap)(t2:S2 k s.heap)(hend:k=n1\/(k<n1/\k=n2))(hE:∀h' tk e,(∀c o,c≠z->c≠TO->c≠i1->c≠i2->s.heap.get? c=some o->h'.get? c=some o)->(∃o,h'.get? e=some o/\o.cls= .type "StopIteration")->E (.ref e) {s with heap:=h',toks:=tk}):
  wpAny (model prog w) A (Builtin.«zip.__next__» ⟨[.ref z],[]⟩) Q E s:=by
 show wpAny _ _ (field (.ref z) 2 >>=λ_=>_) _ _ _;refine Gt (Qc0 hZ rfl (x:= .bool false) rfl ?_);show wpAny _ _ (field (.ref z) 3 >>=λ_=>_) _ _ _;refine Gt (Qc0 hZ rfl (x:= .ref TI) rfl ?_);refine Gt (Qd7 pI rfl ?_);show wpAny _ _ (Builtin.SmallTypes.ownedTupleIsFree (.ref z) >>=λ_=>_) _ _ _;refine Gt ?_;unfold Builtin.SmallTypes.ownedTupleIsFree;refine Gt (Qc0 hZ rfl (x:= .none) rfl (Qa1 ?_));simp only[if_true];refine Gt (Qe4 (Gt (Qc0 hZ rfl (x:= .ref TO) rfl ?_)));refine Gt (Qe0 hZ (by simp) λg1 zg1 k1=> ?_)
 replace zg1:IsZip g1 z TI TO .ellipsis:=zg1
 refine Gt ?_;simp only[List.zipIdx_cons,List.zipIdx_nil,List.forIn_cons,List.forIn_nil];refine Gt (Gt (wpAny_onRaise ?_));show wpAny _ _ (Builtin.SmallTypes.nextOf (.ref i1) >>=λ_=>_) _ _ _;have t1':S1 k g1:=D1.frame _ _ _ t1 λc hc o e=>k1.extBut _ _ (λq=>D.b2 (q▸hc)) e;rcases hend with rfl|⟨l1,rfl⟩
 ·refine Gt (D1.done _ _ _ t1' λg2 e k2 he=> ?_);obtain⟨oe,ge,ce⟩:=he;have zg2:IsZip g2 z TI TO .ellipsis:=k2 _ _ D.a3.symm zg1;have ne:e≠z:=λq=>by subst q;rw[zg2] at ge;cases ge;simp at ce
  exact Qe0 zg2 (by simp) λg3 _ k3=>hE g3 _ e (λc o c1 _ c3 _ q=>k3.extBut _ _ c1 (k2 _ _ c3 (k1.extBut _ _ c1 q))) ⟨oe,k3.extBut _ _ ne ge,ce⟩
 ·refine Gt (D1.item k _ _ _ l1 t1' λx g2 tk2 px sg2 k2=>Qa1 ?_);have pO2:IsPair g2 TO a b:=k2.extBut _ _ D.a8 (k1.extBut _ _ D.a2 pO);refine Gt (Qd7 pO2 rfl (Gt (wpAny_updateSeq_pair pO2 λg3 pO3 k3=> ?_)));refine Gt (wpAny_letGo (Qa1 (Gt (Gt (wpAny_onRaise ?_)))));show wpAny _ _ (Builtin.SmallTypes.nextOf (.ref i2) >>=λ_=>_) _ _ _;have t2':S2 k g3:=D2.frame _ _ _ t2 λc hc o e=>k3.extBut _ _ (λq=>D.b5 (q▸hc)) (k2.extBut _ _ (λq=>D.b6 (q▸hc)) (k1.extBut _ _ (λq=>D.b3 (q▸hc)) e));refine Gt (D2.done _ _ _ t2' λg4 e k4 he=> ?_);obtain⟨oe,ge,ce⟩:=he;have zg4:IsZip g4 z TI TO .ellipsis:=k4 _ _ D.a4.symm (k3.extBut _ _ D.a2.symm (k2.extBut _ _ D.a3.symm zg1));have ne:e≠z:=λq=>by subst q;rw[zg4] at ge;cases ge;simp at ce
  exact Qe0 zg4 (by simp) λg5 _ k5=>hE g5 _ e (λc o c1 c2 c3 c4 q=>k5.extBut _ _ c1 (k4 _ _ c4 (k3.extBut _ _ c2 (k2.extBut _ _ c3 (k1.extBut _ _ c1 q))))) ⟨oe,k5.extBut _ _ ne ge,ce⟩
end
section
variable{prog:Program}{w:World}{A:Around}{E:Value->Shared->Prop}{s:Shared}{z TI TO i1 i2:Addr}{f1 f2:List Addr}{n1 n2:Nat}{P1 P2:Nat->Value->Prop}{S1 S2:Nat->Heap->Prop}
theorem Hu{k:Nat}{a b:Value}{Q:Option Value->Shared->Prop}(D:ZAp z TI TO i1 i2 f1 f2)(D1:Draws prog w A.in1 i1 f1 n1 P1 S1)(D2:Draws prog w A.in1 i2 f2 n2 P2 S2)(hZ:IsZip s.heap z TI TO .none)(pI:IsPair s.heap TI (.ref i1) (.ref i2))(pO:IsPair s.heap TO a b)(t1:S1 k s.heap)(t2:S2 k s.heap)(l1:k<n1)(l2:k<n2)(hQ:∀h' tk x y,P1 k x->P2 k y->IsZip h' z TI TO (rawInt s.heap.objs.size)->IsPair h' TO x y->S1 (k+1) h'->S2 (k+1) h'->IsPair h' s.heap.objs.size x y->
   (∀c o,c≠z->c≠TO->c≠i1->c≠i2->s.heap.get? c=some o->h'.get? c=some o)->Q (some (.ref s.heap.objs.size)) {s with heap:=h',toks:=tk}):
  wpAny (model prog w) A (pyNext (.ref z)) Q E s:=by
 have tz:s.TypeIs (.ref z) "zip":=⟨_,hZ,rfl⟩
 unfold pyNext;exact Gt (wpAny_attempt (Qc6 (name:=Str.ofString "__next__") tz F.slot_zip_next (Qd4 F.slot_zip_next tz F.entry_zip_next
   (Tz D D1 D2 hZ pI pO t1 t2 l1 l2 λh' tk x y a1 a2 a3 a4 a5 a6 a7 a8=>Qa1 (hQ h' tk x y a1 a2 a3 a4 a5 a6 a7 a8)) (F.args_zip_next_1 _))))
theorem Io{k:Nat}{a b:Value}{Q:Option Value->Shared->Prop}(D:ZAp z TI TO i1 i2 f1 f2)(D1:Draws prog w A.in1 i1 f1 n1 P1 S1)(D2:Draws prog w A.in1 i2 f2 n2 P2 S2)(hZ:IsZip s.heap z TI TO .none)(pI:IsPair s.heap TI (.ref i1) (.ref i2))(pO:IsPair s.heap TO a b)(t1:S1 k s.heap)(t2:S2 k s.heap)(hend:k=n1\/(k<n1/\k=n2))(hQ:∀h' tk,(∀c o,c≠z->c≠TO->c≠i1->c≠i2->s.heap.get? c=some o->h'.get? c=some o)->Q none {s with heap:=h',toks:=tk}):
  wpAny (model prog w) A (pyNext (.ref z)) Q E s:=by
 have tz:s.TypeIs (.ref z) "zip":=⟨_,hZ,rfl⟩
 unfold pyNext;refine Gt (wpAny_attempt (Qc6 (name:=Str.ofString "__next__") tz F.slot_zip_next (Qd4 F.slot_zip_next tz F.entry_zip_next (Ww D D1 D2 hZ pI pO t1 t2 hend λh' tk e hk he=> ?_) (F.args_zip_next_1 _))));obtain⟨o,ho,hc⟩:=he;exact Gt (wpAny_isInstance (T:="StopIteration") (b:=true) ⟨o,ho,hc⟩ isSubtype_stop (Qa1 (hQ _ _ hk)))
end
abbrev zT1(h:Heap)(a:Addr):Heap:=h.push {cls:= .type "tuple_iterator",data:= .fields #[.ref a,.int 0 0]}
abbrev zT2(h:Heap)(a b:Addr):Heap:=(zT1 h a).push {cls:= .type "tuple_iterator",data:= .fields #[.ref b,.int 0 0]}
abbrev zT3(h:Heap)(a b:Addr):Heap:=(zT2 h a b).push {cls:= .type "tuple",data:= .seq #[.ref h.objs.size,.ref (zT1 h a).objs.size]}
abbrev zT4(h:Heap)(a b:Addr):Heap:=(zT3 h a b).push {cls:= .type "tuple",data:= .seq #[.none,.none]}
abbrev zT5(h:Heap)(a b:Addr):Heap:=(zT4 h a b).push {cls:= .type "zip",data:= .fields #[.none,.bool false,.bool false,.ref (zT2 h a b).objs.size,.ref (zT3 h a b).objs.size]}
theorem Mz(a b:Addr)(xs ys:Array Value):
  Meets (Builtin.«zip.__new__» ⟨[.type "zip",.ref a,.ref b],[]⟩) (λ_ R s=>s.heap.IsTuple a xs/\s.heap.IsTuple b ys/\R (.ok (.ret (.ref (zT4 s.heap a b).objs.size))) {s with heap:=zT5 s.heap a b}):=
 .of_wp λprog w A R s h=>by
  obtain⟨hp,g,d,tk,os⟩:=s;obtain⟨ta,tb,h⟩:=h;have hsub:=sub_zip;have q1:Heap.IsTuple (Shared.heap ⟨hp,g,d,tk,os⟩) a xs:=ta;have q2:Heap.IsTuple (Shared.heap ⟨hp.push {cls:= .type "tuple_iterator",data:= .fields #[.ref a,.int 0 0]},g,d,tk,os⟩) b ys:=let ⟨o,ho,r⟩:=tb;⟨o,Lt _ ho,r⟩
  wp_walk using wpAny_pyIter_tuple q1,wpAny_pyIter_tuple q2
  exact⟨_,rfl,h⟩
section
variable{prog:Program}{w:World}{A:Around}{E:Value->Shared->Prop}{s:Shared}
theorem Nj{a b:Addr}{xs ys:Array Value}{Q:Value->Shared->Prop}(ta:s.heap.IsTuple a xs)(tb:s.heap.IsTuple b ys)(h:∀h',IsZip h' (s.heap.objs.size+4) (s.heap.objs.size+2) (s.heap.objs.size+3) .none->IsPair h' (s.heap.objs.size+2) (.ref s.heap.objs.size) (.ref (s.heap.objs.size+1))->IsPair h' (s.heap.objs.size+3) .none .none->
   h'.IsTupleIter s.heap.objs.size a 0->h'.IsTupleIter (s.heap.objs.size+1) b 0->(∀c o,s.heap.get? c=some o->h'.get? c=some o)->Q (.ref (s.heap.objs.size+4)) {s with heap:=h'}):
  wpAny (model prog w) A (call (.type "zip") [.ref a,.ref b]) Q E s:=by
 refine callType_new F.called_zip (by decide) (F.typeCall_zip_2 _ _) (F.newCall_zip_2 _ _) (λobj=>F.args_object_init_3 obj _ _) F.entry_zip_new (Mz a b xs ys) ⟨ta,tb,?_⟩;have y1:(zT1 s.heap a).objs.size=s.heap.objs.size+1:=size_push ..;have y2:(zT2 s.heap a b).objs.size=s.heap.objs.size+2:=by rw[size_push,y1]
 have y3:(zT3 s.heap a b).objs.size=s.heap.objs.size+3:=by rw[size_push,y2]
 have y4:(zT4 s.heap a b).objs.size=s.heap.objs.size+4:=by rw[size_push,y3]
 have e5:(zT5 s.heap a b).get? (zT4 s.heap a b).objs.size=some _:=Qa7 _ rfl;have e4:(zT5 s.heap a b).get? (zT3 s.heap a b).objs.size=some _:=Lt _ (Qa7 _ rfl);have e3:(zT5 s.heap a b).get? (zT2 s.heap a b).objs.size=some _:=Lt _ (Lt _ (Qa7 _ rfl));have e2:(zT5 s.heap a b).get? (zT1 s.heap a).objs.size=some _:=Lt _ (Lt _ (Lt _ (Qa7 _ rfl)));have e1:(zT5 s.heap a b).get? s.heap.objs.size=some _:=Lt _ (Lt _ (Lt _ (Lt _ (Qa7 _ rfl))));show _/\_;rw[y2,y3,y4] at e5;rw[y1,y2] at e3;rw[y3] at e4;rw[y1] at e2;rw[y4];refine⟨⟨_,e5,rfl⟩,h _ e5 e3 e4 ⟨_,e1,rfl,rfl⟩ ⟨_,e2,rfl,rfl⟩ λc o e=> ?_⟩;exact Lt _ (Lt _ (Lt _ (Lt _ (Lt _ e))))
end
end PySem
namespace L2
open PySem PySem.Spec PyProof.Rows
def Itz(K:Frag)(a b:Addr):It:=
 ⟨λi H=>∃xs ys x y,SqT K H a xs/\SqT K H b ys/\xs[i]? =some x/\ys[i]? =some y,λi H v H'=>∃T x y,H T=none/\v= .ref T/\H'=upd H T (.tup [x,y])/\(∀xs,SqT K H a xs->xs[i]? =some x)/\∀ys,SqT K H b ys->ys[i]? =some y,
  λi H=>∃xs ys,SqT K H a xs/\SqT K H b ys/\(i=xs.length\/(i<xs.length/\i=ys.length))⟩
theorem Uv{z TI TO i1 i2 a b:Addr}(nd:[z,TI,TO,i1,i2].Nodup)(na:a ∉ [z,TI,TO,i1,i2])(nb:b ∉ [z,TI,TO,i1,i2]):ZAp z TI TO i1 i2 [i1,a] [i2,b]:=by
 simp only[Qd2,Qa9,mem_nil_iff,or_false,not_or,nodup_nil,and_true,not_false_eq_true] at nd na nb;obtain⟨⟨q1,q2,q3,q4⟩,⟨q5,q6,q7⟩,⟨q8,q9⟩,q10⟩:=nd;obtain⟨r1,r2,r3,r4,r5⟩:=na;obtain⟨s1,s2,s3,s4,s5⟩:=nb;constructor<;> first|exact Ne.symm ‹_›|assumption|(simp only[Qa9,mem_nil_iff,or_false,not_or];constructor<;> first|assumption|exact Ne.symm ‹_›)
theorem Xq{P:Program}{w:World}{K:Frag}{elts:List Expr}{x1}{pos:Pos}(a b z TI TO i1 i2:Addr)(nd:[z,TI,TO,i1,i2].Nodup)(na:a ∉ [z,TI,TO,i1,i2])(nb:b ∉ [z,TI,TO,i1,i2]):Qe P w K (.Tuple elts x1 pos) (Itz K a b) [z,TI,TO,i1,i2] z
  (λi h=>IsZip h z TI TO .none/\IsPair h TI (.ref i1) (.ref i2)/\(∃u v,IsPair h TO u v)/\h.IsTupleIter i1 a i/\h.IsTupleIter i2 b i) where
 mem:=by simp
 obj:=λi h st c hc=>by
  obtain⟨h1,h2,⟨u,v,h3⟩,⟨o4,g4,_,d4⟩,⟨o5,g5,_,d5⟩⟩:=st;simp only[Qa9,mem_nil_iff,or_false] at hc;rcases hc with rfl|rfl|rfl|rfl|rfl
  ·exact⟨_,h1,λv q=>by cases q⟩
  ·exact⟨_,h2,λv q=>by cases q⟩
  ·exact⟨_,h3,λv q=>by cases q⟩
  ·exact⟨_,g4,λv q=>by rw[d4] at q;cases q⟩
  ·exact⟨_,g5,λv q=>by rw[d5] at q;cases q⟩
 keep:=λi h h' st k=>by
  obtain⟨h1,h2,⟨u,v,h3⟩,h4,h5⟩:=st;exact⟨k z (by simp) _ h1,k TI (by simp) _ h2,⟨u,v,k TO (by simp) _ h3⟩,h4.at λo q=>k i1 (by simp) o q,h5.at λo q=>k i2 (by simp) o q⟩
 item:=by
  intro X hP hw hK hc i pins s σ H E I hf st hg;subst hP hw hK;obtain⟨hZ,pI,⟨u,v,pO⟩,t1,t2⟩:=st;obtain⟨xs,ys,x,y,ha,hb,hx,hy⟩:=hg;obtain⟨its,rv,p1,_⟩:=I.tuple ha;obtain⟨jts,rw',p2,_⟩:=I.tuple hb;obtain⟨ux,hux,rx⟩:=rv.get hx;obtain⟨uy,huy,ry⟩:=rw'.get hy;have AP:=Uv nd na nb;have fresh:H s.heap.objs.size=none:=I.hok.fresh (le_refl _);have ltz:∀c∈[z,TI,TO,i1,i2],c≠s.heap.objs.size:=by
   intro c hc;obtain⟨o4,g4,_⟩:=id t1;obtain⟨o5,g5,_⟩:=id t2;simp only[Qa9,mem_nil_iff,or_false] at hc;rcases hc with rfl|rfl|rfl|rfl|rfl
   ·exact ne_of_lt (Qa8 hZ)
   ·exact ne_of_lt (Qa8 pI)
   ·exact ne_of_lt (Qa8 pO)
   ·exact ne_of_lt (Qa8 g4)
   ·exact ne_of_lt (Qa8 g5)
  refine Hu AP (Draws.tup (A:=X.A.in1) (I.ok.hd hc) i1 a (λq=>na (by simp[q])) its.toArray) (Draws.tup (A:=X.A.in1) (I.ok.hd hc) i2 b (λq=>nb (by simp[q])) jts.toArray) hZ pI pO ⟨t1,p1⟩ ⟨t2,p2⟩
   (by have:=(List.getElem?_eq_some_iff.mp hux).1;simpa using this) (by have:=(List.getElem?_eq_some_iff.mp huy).1;simpa using this) λh' tk xv yv px py z' pO' s1' s2' pT kk=>⟨_,rfl,?_⟩
  have ex:ux=xv:=Option.some.inj (hux.symm.trans (by simpa using px));have ey:uy=yv:=Option.some.inj (huy.symm.trans (by simpa using py));subst ex ey;refine wpAny_letOwnedTupleGo_zip (s:={s with heap:=h',toks:=tk}) z' λh2 z2 sb=> ?_;have I1:Inv X pins σ (upd H s.heap.objs.size (.tup [x,y])) {s with heap:=s.heap.push {cls:= .type "tuple",data:= .seq #[ux,uy]},toks:=s.toks}:=
   I.laid (o:= .tup [x,y]) (λb ob q=>Lt _ q) (le_refl _) ⟨by rw[Qc5];simp,[ux,uy],.cons rx (.cons ry .nil),IsTupN.new _ _⟩
  have I2:=I1.turnedL (h':=h2) (t':=tk) [z,TI,TO,i1,i2] (λc o hc' q=> ?_) (λc hc'=>(hf c hc').up (ltz c hc'))
  ·refine⟨.ref s.heap.objs.size,_,I2,rfl,⟨_,x,y,fresh,rfl,rfl,λys' hy'=>by rw[I.tuple_inj hy' ha];exact hx,λys' hy'=>by rw[I.tuple_inj hy' hb];exact hy⟩,
    ⟨z2,(sb.2 TI AP.a1).trans (kk _ _ AP.a1 AP.a5 AP.a6 AP.a7 pI),⟨_,_,(sb.2 TO AP.a2).trans pO'⟩,s1'.1.at λo q=>(sb.2 i1 AP.a3).trans q,s2'.1.at λo q=>(sb.2 i2 AP.a4).trans q⟩,λc hc'=> ?_⟩
   rw[Al (ltz c hc')];exact(hf c hc').1
  ·have c1:c≠z:=λq=>hc' (by simp[q]);have c2:c≠TO:=λq=>hc' (by simp[q]);have c3:c≠i1:=λq=>hc' (by simp[q]);have c4:c≠i2:=λq=>hc' (by simp[q]);refine(sb.2 c c1).trans ?_;by_cases hcs:c=s.heap.objs.size
   ·subst hcs;rw[Qa7 _ rfl] at q;cases q;exact pT
   ·rw[get?_push_ne _ _ _ hcs] at q;exact kk c o c1 c2 c3 c4 q
 done:=by
  intro X hP hw hK hc i pins s σ H E I hf st hg;subst hP hw hK;obtain⟨hZ,pI,⟨u,v,pO⟩,t1,t2⟩:=st;obtain⟨xs,ys,ha,hb,hend⟩:=hg;obtain⟨its,rv,p1,_⟩:=I.tuple ha;obtain⟨jts,rw',p2,_⟩:=I.tuple hb;have AP:=Uv nd na nb;have l1:=rv.length;have l2:=rw'.length;refine Io AP (Draws.tup (A:=X.A.in1) (I.ok.hd hc) i1 a (λq=>na (by simp[q])) its.toArray) (Draws.tup (A:=X.A.in1) (I.ok.hd hc) i2 b (λq=>nb (by simp[q])) jts.toArray) hZ pI pO ⟨t1,p1⟩ ⟨t2,p2⟩
   (by simp only[size_toArray];omega) λh' tk kk=>⟨rfl,I.turnedL (t':=tk) [z,TI,TO,i1,i2] (λc o hc' q=> ?_) hf⟩
  exact kk c o (λq=>hc' (by simp[q])) (λq=>hc' (by simp[q])) (λq=>hc' (by simp[q])) (λq=>hc' (by simp[q])) q
 self:=λA i s Q E st h=>wpAny_pyIter_zip st.1 h
def iZip(K:Frag)(ta:TA):TI:=λσ H R=>ta σ H λvs H1=>∃a b xs ys,vs=[.ref a,.ref b]/\SqT K H1 a xs/\SqT K H1 b ys/\R (Itz K a b) H1
theorem pi_zip{X:Cx}{elts:List Expr}{x1}{tpos:Pos}{e1 e2:Expr}{ta:TA}{p pos:Pos}(hg:Gl X "zip")(hm:X.mg "zip"=none)(ha:PA X [e1,e2] ta)(hs:starEach [e1,e2] X.env=[(false,eval e1 X.env),(false,eval e2 X.env)]:=by rfl)(hs2:starEach [e2] X.env=[(false,eval e2 X.env)]:=by rfl):
  PI X (.Tuple elts x1 tpos) (.Call (.Name "zip" p) [e1,e2] [] pos) (iZip X.K ta):=by
 intro pins s σ H R I h;refine Call_ (Ew I hg hm (show bootBuiltins "zip"=some (.type "zip") by decide+kernel) (PyProof.Rows.callWith_type1 (thn (ha pos pins s σ H _ I h) λus s1 ⟨vs,H1,I1,r1,q1⟩=> ?_) (by rw[hs,hs2]) (by rw[hs2];rfl)));obtain⟨a,b,xs,ys,e,hqa,hqb,q⟩:=q1;subst e;cases r1 with
 |cons r rr=>
  cases rr with
  |cons r' rr=>
   cases rr;cases r;cases r';obtain⟨its,rv,p1,_⟩:=I1.tuple hqa;obtain⟨jts,rw',p2,_⟩:=I1.tuple hqb;refine Nj p1 p2 λh' hZ pI pO t1 t2 kk=>wpAny_pyIter_zip hZ ?_;obtain⟨oa,ga,_⟩:=id p1;obtain⟨ob,gb,_⟩:=id p2;have la:=Qa8 ga;have lb:=Qa8 gb;have big:∀c∈[s1.heap.objs.size+4,s1.heap.objs.size+2,s1.heap.objs.size+3,s1.heap.objs.size,s1.heap.objs.size+1],s1.heap.objs.size<=c:=by
    intro c hc;simp only[Qa9,mem_nil_iff,or_false] at hc;rcases hc with rfl|rfl|rfl|rfl|rfl<;> first|exact le_add_right _ _|exact le_refl _
   refine⟨s1.heap.objs.size+4,[s1.heap.objs.size+4,s1.heap.objs.size+2,s1.heap.objs.size+3,s1.heap.objs.size,s1.heap.objs.size+1],_,_,H1,rfl,I1.kept (t':=s1.toks) kk,
    Xq a b _ _ _ _ _ ?_ (λq=>lt_irrefl _ (lt_of_lt_of_le la (big _ q))) (λq=>lt_irrefl _ (lt_of_lt_of_le lb (big _ q))),⟨hZ,pI,⟨_,_,pO⟩,t1,t2⟩,λc hc=>I1.fpOk (big c hc) (I1.hok.fresh (big c hc)),q⟩
   generalize s1.heap.objs.size=n;show Nodup ([n+4,n+2,n+3,n,n+1]:List Nat);simp
section
variable{g:TG}{ti:TT}{te:TE}{Q:VK}{D:Addr}{σ:St}{H:Hp}
theorem Vc{K:Frag}{a b:Addr}{xs ys:List V}(Pv:Nat->St->List V->Hp->Prop)(h0:Pv 0 σ [] (upd H D (.lst [])))(hl:∀i σ zs H,i<=xs.length->i<=ys.length->Pv i σ zs H->SqT K H a xs/\SqT K H b ys/\H D=some (.lst zs))(hs:∀i x y σ zs H T,xs[i]? =some x->ys[i]? =some y->Pv i σ zs H->H T=none->Ll g ti te D (.ref T) σ zs (upd H T (.tup [x,y])) (Pv (i+1)))(hd:∀i σ zs H,i=min xs.length ys.length->Pv i σ zs H->Q (.ref D) H):
  cgo (Itz K a b) g ti te D σ H Q:=by
 refine⟨λi m σ zs H=>m=xs.length - i/\i<=xs.length/\i<=ys.length/\Pv i σ zs H,⟨xs.length,by simp,Qb8 _,Qb8 _,h0⟩,?_⟩;rintro i m σ zs H ⟨rfl,hi,hj,p⟩;obtain⟨q1,q2,hD⟩:=hl i σ zs H hi hj p;refine⟨hD,?_⟩;by_cases hlt:i<xs.length/\i<ys.length
 ·refine .inr ⟨⟨xs,ys,xs[i],ys[i],q1,q2,by simp[hlt.1],by simp[hlt.2]⟩,Pv (i+1),λσ' ys' H' p'=>⟨xs.length - (i+1),by omega,rfl,hlt.1,hlt.2,p'⟩,λx H' y=> ?_⟩;obtain⟨T,x,y,hT,rfl,rfl,y1,y2⟩:=y;exact hs i x y σ zs H T (y1 xs q1) (y2 ys q2) p hT
 ·exact .inl ⟨⟨xs,ys,q1,q2,by omega⟩,hd i σ zs H (by omega) p⟩
end
end L2
namespace HT
open PySem PyProof.Rows
section
variable{prog:Program}{w:World}{A:Around}{E:Value->Shared->Prop}{s:Shared}
theorem getItem_tuple_self{t sl:Addr}{items:Array Value}{vl vu:Value}{lo hi:Option Int}{Q:Value->Shared->Prop}(ht:IsTup s.heap t items)(hs:s.heap.IsSliceOf sl vl vu .none)(pl:IsPart vl lo)(pu:IsPart vu hi)(hw:sIx items.size 0 lo=0/\sIx items.size items.size hi=items.size)(h:Q (.ref t) s):wpAny (model prog w) A (getItem (.ref t) (.ref sl)) Q E s:=by
 obtain⟨os,hos,hcs,hds⟩:=id hs;have tsl:s.TypeIs (.ref sl) "slice":=⟨os,hos,hcs⟩
 unfold getItem
 try with_reducible refine Qc7 ?_
 first|refine Gt (Qa1 ?_)|skip
 refine Gt (wpAny_sequenceKey ht.typeIs (by decide) (Gt (Qc6 (name:=Str.ofString "__getitem__") ht.typeIs PyProof.Rows.slot_tuple_getitem (Qd4 PyProof.Rows.slot_tuple_getitem ht.typeIs entry_tuple_getitem ?_ (args_tuple_getitem _ _)))));show wpAny _ _ (Builtin.Tuple.tupleItemsOf (.ref t) >>=λ_=>_) _ _ s;refine Gt (tupleItemsOf_ ht (Gt (wpAny_typeOf tsl ?_)));rw[Qa3 (by decide)];refine Gt (Ed hs pl pu ?_);have yes:(((sIx items.size 0 lo:Nat):Int)==0 && (1:Int)==1 && (sIx items.size items.size hi - sIx items.size 0 lo)==items.size)=true:=by rw[hw.1,hw.2];simp
 show wpAny _ _ (ite ((((sIx items.size 0 lo:Nat):Int)==0 && (1:Int)==1 && (sIx items.size items.size hi - sIx items.size 0 lo)==items.size)=true) _ _) _ _ s;rw[Qa3 yes];refine Gt (m:=Builtin.Tuple.tupleIsExact (.ref t)) ?_;unfold Builtin.Tuple.tupleIsExact;refine Gt (wpAny_typeOf ht.typeIs (Qa1 ?_));rw[Qa3 (by decide)];exact Gt (Qe4 (Qa1 ⟨_,rfl,Qa1 h⟩))
end
end HT
namespace L2
open PySem PySem.Spec PyProof.Rows
section
variable{X:Cx}
inductive Vb(K:Frag)(x:V)(lo:Option Int)(hi:Option Int)(H:Hp)(Q:VK):Prop
 |mk (a xs:_):(x= .ref a)->(SqT K H a xs)->(((HT.sIx xs.length 0 lo=0/\HT.sIx xs.length xs.length hi=xs.length)->Q (.ref a) H))->((¬(HT.sIx xs.length 0 lo=0/\HT.sIx xs.length xs.length hi=xs.length)->∀p,H p=none->Q (.ref p) (upd H p (.tup (Ec xs lo hi)))))->Vb K x lo hi H Q
def Ij(K:Frag):V->Option Int->Option Int->Hp->VK->Prop:=λx lo hi H Q=>Vb K x lo hi H Q
theorem Dc:SlR X (Ij X.K):=by
 intro pins s σ H x v vl vu lo hi sl Q I rx hs pl pu h;obtain⟨a,xs,rfl,hx,q1,q2⟩:=h;by_cases hw:HT.sIx xs.length 0 lo=0/\HT.sIx xs.length xs.length hi=xs.length
 ·cases rx;obtain⟨its,r,ht,hz⟩:=I.tuple hx;have hlen:its.toArray.size=xs.length:=by rw[size_toArray];exact r.length.symm
  exact⟨"tuple",_,PyProof.Rows.slot_tuple_getitem.lookup,ht.typeIs,HT.getItem_tuple_self ht hs pl pu (by rw[hlen];exact hw) ⟨.ref a,H,I,rfl,q1 hw⟩⟩
 ·exact sl_tup pins s σ H _ v vl vu lo hi sl Q I rx hs pl pu ⟨a,xs,rfl,hx,hw,q2 hw⟩
end
theorem Oy{X:Cx}(hu:X.A.units+64<cLine):OpR X (compareOp .Eq) (λx y H Q=>∃(a b:Addr) (xs:List V),x= .ref a/\y= .ref b/\SqL X.K H a xs/\SqL X.K H b []/\Q (.bl xs.isEmpty) H):=by
 intro pins s σ H x y u v Q I rx ry h;obtain⟨a,b,xs,rfl,rfl,ha,hb,q⟩:=h;cases rx;cases ry;cases xs with
 |nil=>
  obtain⟨as,r1⟩:=Rep.reads (u:= .ref a) I (Rep.lst ha .nil) rfl;obtain⟨bs,r2⟩:=Rep.reads (u:= .ref b) I (Rep.lst hb .nil) rfl;exact SeqAt.compareEq_reads r1 r2 rfl rfl (by simp only[PyData.depth,PyData.depthAll];omega) ⟨.bl _,H,I,rfl,q⟩
 |cons x xs=>
  obtain⟨its,r1,h1,_⟩:=I.list ha;obtain⟨its2,r2,h2,_⟩:=I.list hb;have l1:=r1.length;have l2:=r2.length;refine SeqAt.eq_list_lengthsAt h1.isList h2.isList (by simp at l1 l2 ⊢;omega) (by omega) ⟨.bl _,H,I,rfl,q⟩
theorem Ac{H:Hp}{p:Addr}{o:HO}(h:H p=none):Same H (upd H p o):=λb u e=>by rw[Al (Av e h)];exact e
theorem Cf(H:Hp):Same H H:=λ_ _ e=>e
theorem small{n:Nat}(h:n<=10000):n<=sizeLine:=by rw[Qc5];exact le_trans (by assumption) (by decide)
theorem Fi{H H':Hp}{a:Addr}(s:Same H H')(h:H' a=none):H a=none:=by
 cases e:H a with
 |none=>rfl
 |some o=>rw[s _ _ e] at h;cases h
theorem Rg{X:Cx}{es:List Expr}{k:Nat}{t:TGs}{pos:Pos}(K:Frag)(n:Nat)(hK:X.K=K)(hc:X.calm=true)(h:PGs X es t)(hn:(assignEach es X.env).length=n:=by rfl)(hst:(assignEach es X.env).findIdx? (·.1)=none:=by rfl):PG X (.Tuple es k pos) (gTup K n t):=by
 subst hK;exact Cy hc h hn hst
section
variable{X:Cx}
theorem Oj:Dm X (.type "range") (λxs H Q=>∃j:Int,xs=[.int j]/\∀l,H l=none->Q (.ref l) (upd H l (.rng 0 j))):=by
 intro pins s σ H xs us Q I r h;obtain⟨j,rfl,q⟩:=h;obtain⟨u,rfl,⟨t,rfl⟩⟩:=Dw r;exact call_range_1 ⟨.ref s.heap.objs.size,_,I.laid (o:= .rng 0 j) (λ_ _ q=>Lt _ q) (le_refl _) ⟨_,_,_,Qa7 _ rfl⟩,rfl,q _ I.fresh⟩
end
end L2
namespace Srt
open PySem PySem.W PyProof.Rows
structure Ord(lt:Nat->Nat->Bool):Prop where
 asym:∀a b,lt a b=true->lt b a=false
 ntr:∀a b c,lt a b=false->lt b c=false->lt a c=false
def ev{α:Type}(lt:Nat->Nat->Bool):KasT α->α
 | .ret a=>a
 | .ask i j k=>ev lt (k (lt i j))
theorem Ff{α β:Type}(lt:Nat->Nat->Bool)(f:α->KasT β):∀t:KasT α,ev lt (t.bind f)=ev lt (f (ev lt t))
 | .ret _=>rfl
 | .ask i j k=>Ff lt f (k (lt i j))
def AsksP{α:Type}(n:Nat)(P:α->Prop):KasT α->Prop
 | .ret a=>P a
 | .ask i j k=>i<n/\j<n/\∀b,AsksP n P (k b)
theorem AsksP.bind{α β:Type}{n:Nat}{P:α->Prop}{R:β->Prop}{f:α->KasT β}(hf:∀a,P a->AsksP n R (f a)):∀{t:KasT α},AsksP n P t->AsksP n R (t.bind f)
 | .ret a,h=>hf a h
 | .ask i j k,h=>⟨h.1,h.2.1,λb=>AsksP.bind hf (h.2.2 b)⟩
theorem AsksP.ev{α:Type}{n:Nat}{P:α->Prop}(lt:Nat->Nat->Bool):∀{t:KasT α},AsksP n P t->P (Srt.ev lt t)
 | .ret _,h=>h
 | .ask i j k,h=>AsksP.ev (n:=n) (P:=P) lt (t:=k (lt i j)) (h.2.2 (lt i j))
theorem AsksP.wp{α:Type}{n:Nat}{P:α->Prop}{cmp:Nat->Nat->(Bool->Shared->Prop)->Shared->Prop}{lt:Nat->Nat->Bool}{s:Shared}(hc:∀i j (C:Bool->Shared->Prop),i<n->j<n->C (lt i j) s->cmp i j C s){Q:α->Shared->Prop}:∀{t:KasT α},AsksP n P t->Q (Srt.ev lt t) s->t.kasWp cmp Q s
 | .ret _,_,q=>q
 | .ask i j k,h,q=>hc i j _ h.1 h.2.1 (AsksP.wp hc (h.2.2 (lt i j)) q)
abbrev g(p:Array Nat)(k:Nat):Nat:=p.getD k 0
theorem Ql(p:Array Nat)(k:Nat):g p k=(p[k]?).getD 0:=by
 show p.getD k 0=_;simp[Array.getD_eq_getD_getElem?]
theorem Uw{p:Array Nat}{i j:Nat}(hj:j<=p.size)(k:Nat):g (kas_rev p i j) k=if i<=k/\k<j then g p (i+j - 1 - k) else g p k:=by
 rw[Ql];unfold kas_rev;rw[getElem?_mirror_all hj];split<;> rw[Ql]
theorem g_bub{p:Array Nat}{src d:Nat}(hs:src<p.size)(hd:d<=src)(k:Nat):g (bubble p src d) k=if k=src - d then g p src else if src - d<k/\k<=src then g p (k - 1) else g p k:=by
 rw[Ql,getElem?_bubble hs d hd,Ql,Ql,Ql];split
 ·rfl
 ·split<;> rfl
theorem Gy(p:Array Nat)(i j:Nat):(kas_rev p i j).size=p.size:=mirror_size _ _ _ _
theorem Go(p:Array Nat)(i j:Nat):(kas_rev p i j).Perm p:=mirror_perm _ _ _ _
def Pm(n:Nat)(p:Array Nat):Prop:=p.Perm (List.range n).toArray
theorem Pm.size{n:Nat}{p:Array Nat}(h:Pm n p):p.size=n:=by
 have:=Array.Perm.size_eq h;simpa using this
theorem Pm.lt{n:Nat}{p:Array Nat}(h:Pm n p)(h0:0<n)(k:Nat):g p k<n:=by
 rw[Ql];cases e:p[k]? with
 |none=>exact h0
 |some x=>
  have hx:x∈p:=Array.mem_of_getElem? e;have:=(Array.Perm.mem_iff h).mp hx;simpa using this
section
variable{n:Nat}(h0:0<n)
include h0
theorem Jo{p:Array Nat}(h:Pm n p):∀f m,AsksP n (λ_=>True) (kas_asc p f m)
 |0,_=>trivial
 |f+1,m=>⟨h.lt h0 _,h.lt h0 _,λb=>by cases b<;> first|exact trivial|exact Jo h f (m+1)⟩
theorem Fm:∀f {p:Array Nat} (m q:Nat),Pm n p->AsksP n (λr=>Pm n r.1) (kas_desc f p m q)
 |0,_,_,_,h=>h
 |f+1,p,m,q,h=>by
  refine⟨h.lt h0 _,h.lt h0 _,λb=> ?_⟩;cases b with
  |true=>
   show AsksP n _ (if q > 0 then _ else _);by_cases hq:q > 0
   ·rw[Qa3 hq];exact Fm f _ _ ((Go _ _ _).trans h)
   ·rw[Qa2 hq];exact Fm f _ _ h
  |false=>
   refine⟨h.lt h0 _,h.lt h0 _,λd=> ?_⟩;cases d with
   |true=>exact h
   |false=>exact Fm f _ _ h
theorem Jl{p:Array Nat}(m nrem:Nat)(h:Pm n p):AsksP n (λr=>Pm n r.2) (kas_tail3 m nrem p):=by
 have hr:Pm n (kas_rev p 0 m):=(Go _ _ _).trans h;refine AsksP.bind (n:=n) (P:=λ_=>True) (R:=λr:Nat×Array Nat=>Pm n r.2) (λk _=> ?_) (Jo h0 hr _ _);exact hr
theorem Fr{p:Array Nat}(m nrem:Nat)(h:Pm n p):AsksP n (λr=>Pm n r.2) (kas_descPart m nrem p):=
 (Fm h0 _ _ _ h).bind λr hr=>by
  by_cases hq:r.2.2 > 0
  ·rw[Qa3 hq];exact Jl h0 _ _ ((Go _ _ _).trans hr)
  ·rw[Qa2 hq];exact Jl h0 _ _ hr
theorem J8{p:Array Nat}(nrem:Nat)(h:Pm n p):AsksP n (λr=>Pm n r.2) (kas_count nrem p):=
 (Jo h0 h _ _).bind λm _=>by
  by_cases h1:(m==nrem)=true
  ·rw[Qa3 h1];exact h
  ·rw[Qa2 h1];by_cases h2:m > 1
   ·rw[Qa3 h2];refine⟨h.lt h0 _,h.lt h0 _,λc=> ?_⟩;cases c with
    |true=>exact h
    |false=>exact Fr h0 _ _ ((Go _ _ _).trans h)
   ·rw[Qa2 h2];exact Fr h0 _ _ h
theorem Gh{p:Array Nat}(k:Nat)(h:Pm n p):∀f l r,AsksP n (λ_=>True) (kas_place p k f l r)
 |0,_,_=>trivial
 |f+1,l,r=>by
  show AsksP n _ (if l ≥ r then _ else _);by_cases hl:l ≥ r
  ·rw[Qa3 hl];trivial
  ·rw[Qa2 hl];refine⟨h.lt h0 _,h.lt h0 _,λc=> ?_⟩;cases c with
   |true=>exact Gh k h f _ _
   |false=>exact Gh k h f _ _
theorem Ou:∀f {p:Array Nat} (k:Nat),Pm n p->AsksP n (Pm n) (kas_bin f p k)
 |0,_,_,h=>h
 |f+1,p,k,h=>(Gh h0 k h _ _ _).bind λl _=>Ou f (k+1) ((bubble_perm _ _ _).trans h)
theorem Le:AsksP n (Pm n) (kas_sort n):=
 (J8 h0 n (Array.Perm.refl _)).bind λr hr=>by
  by_cases h1:r.1<n
  ·rw[Qa3 h1];exact Ou h0 _ _ hr
  ·rw[Qa2 h1];exact hr
end
section
variable{lt:Nat->Nat->Bool}(O:Ord lt)
def Sto(lt:Nat->Nat->Bool)(p:Array Nat)(k:Nat):Prop:=∀i j,i<=j->j<k->lt (g p j) (g p i)=false
def Dto(lt:Nat->Nat->Bool)(p:Array Nat)(k:Nat):Prop:=∀i j,i<=j->j<k->lt (g p i) (g p j)=false
def Eqv(lt:Nat->Nat->Bool)(a b:Nat):Prop:=lt a b=false/\lt b a=false
include O
theorem irr(a:Nat):lt a a=false:=by
 cases h:lt a a with
 |false=>rfl
 |true=>have:=O.asym a a h;rw[h] at this;cases this
theorem Ph{p:Array Nat}:∀f m,1<=m->Sto lt p m->m<=ev lt (kas_asc p f m)/\ev lt (kas_asc p f m)<=m+f/\Sto lt p (ev lt (kas_asc p f m))/\(ev lt (kas_asc p f m)<m+f->lt (g p (ev lt (kas_asc p f m))) (g p (ev lt (kas_asc p f m) - 1))=true)
 |0,m,_,hs=>⟨le_refl _,le_refl _,hs,λh=>absurd h (lt_irrefl _)⟩
 |f+1,m,h1,hs=>by
  show m<=ev lt (if lt (g p m) (g p (m - 1))=true then .ret m else kas_asc p f (m+1))/\ev lt (if lt (g p m) (g p (m - 1))=true then .ret m else kas_asc p f (m+1))<=m+(f+1)/\Sto lt p (ev lt (if lt (g p m) (g p (m - 1))=true then .ret m else kas_asc p f (m+1)))/\(ev lt (if lt (g p m) (g p (m - 1))=true then .ret m else kas_asc p f (m+1))<m+(f+1)->lt (g p (ev lt (if lt (g p m) (g p (m - 1))=true then .ret m else kas_asc p f (m+1)))) (g p (ev lt (if lt (g p m) (g p (m - 1))=true then .ret m else kas_asc p f (m+1)) - 1))=true);by_cases c:lt (g p m) (g p (m - 1))=true
  ·rw[Qa3 c];exact⟨le_refl _,le_add_right _ _,hs,λ_=>c⟩
  ·rw[Qa2 c];have c:lt (g p m) (g p (m - 1))=false:=by simpa using c
   have hs':Sto lt p (m+1):=λi j hij hj=>by
    by_cases e:j=m
    ·subst e;by_cases e2:i=j
     ·subst e2;exact irr O _
     ·exact O.ntr _ _ _ c (hs i (j - 1) (by omega) (by exact sub_lt (by assumption) (by decide)))
    ·exact hs i j hij (by omega)
   obtain⟨a,b,d,e⟩:=Ph f (m+1) (by exact Qd6 (by assumption)) hs';exact⟨by exact le_of_lt (by assumption),by omega,d,λh=>e (by omega)⟩
theorem Dto.eqv{p p1:Array Nat}{k:Nat}(h:Dto lt p k)(he:∀i,i<k->Eqv lt (g p1 i) (g p i)):Dto lt p1 k:=λi j hij hj=>
 O.ntr _ _ _ (he i (by exact lt_of_le_of_lt (by assumption) (by assumption))).1 (O.ntr _ _ _ (h i j hij hj) (he j hj).2)
def Blk(lt:Nat->Nat->Bool)(p:Array Nat)(m q:Nat):Prop:=q+1<=m/\∀i j,m - (q+1)<=i->i<m->m - (q+1)<=j->j<m->Eqv lt (g p i) (g p j)
theorem Mr{p:Array Nat}{m q:Nat}(hm:m<=p.size)(hb:Blk lt p m q):∀i,Eqv lt (g (kas_rev p (m - (q+1)) m) i) (g p i):=λi=>by
 have h1:=hb.1;rw[Uw hm];split
 ·exact hb.2 _ _ (by omega) (by omega) (by omega) (by omega)
 ·exact⟨irr O _,irr O _⟩
theorem Iq:∀f {p:Array Nat} (m q:Nat),1<=m->m+f<=p.size->Dto lt p m->Blk lt p m q->
  let r:=ev lt (kas_desc f p m q);m<=r.2.1/\r.2.1<=m+f/\r.1.size=p.size/\Dto lt r.1 r.2.1/\Blk lt r.1 r.2.1 r.2.2
 |0,p,m,q,_,_,hd,hb=>⟨le_refl _,le_refl _,rfl,hd,hb⟩
 |f+1,p,m,q,h1,hz,hd,hb=>by
  intro r;have b1:=hb.1;have single:∀(p':Array Nat),Blk lt p' (m+1) 0:=λp'=>⟨by exact Qd6 (by assumption),λi j a b c d=>by
   have:i=j:=by omega
   subst this;exact⟨irr O _,irr O _⟩⟩
  have low:lt (g p (m - 1)) (g p m)=false->Dto lt p (m+1):=λc i j hij hj=>by
   by_cases e:j=m
   ·subst e;by_cases e2:i=j
    ·subst e2;exact irr O _
    ·exact O.ntr _ _ _ (hd i (j - 1) (by omega) (by exact sub_lt (by assumption) (by decide))) c
   ·exact hd i j hij (by omega)
  by_cases c:lt (g p m) (g p (m - 1))=true
  ·have cl:=low (O.asym _ _ c);by_cases hq:q > 0
   ·have e:r=ev lt (kas_desc f (kas_rev p (m - (q+1)) m) (m+1) 0):=by
     show ev lt (if lt (g p m) (g p (m - 1))=true then (if q > 0 then _ else _) else _)=_;rw[Qa3 c,Qa3 hq]
    obtain⟨a,b,s,d,k⟩:=Iq f (p:=kas_rev p (m - (q+1)) m) (m+1) 0 (by exact Qd6 (by assumption)) (by rw[Gy];omega) (Dto.eqv O cl λi _=>Mr O (by omega) hb i) (single _);rw[e];exact⟨by exact le_of_lt (by assumption),by omega,by rw[s,Gy],d,k⟩
   ·have e:r=ev lt (kas_desc f p (m+1) 0):=by
     show ev lt (if lt (g p m) (g p (m - 1))=true then (if q > 0 then _ else _) else _)=_;rw[Qa3 c,Qa2 hq]
    obtain⟨a,b,s,d,k⟩:=Iq f (p:=p) (m+1) 0 (by exact Qd6 (by assumption)) (by omega) cl (single _);rw[e];exact⟨by exact le_of_lt (by assumption),by omega,s,d,k⟩
  ·have c':lt (g p m) (g p (m - 1))=false:=by simpa using c
   by_cases d1:lt (g p (m - 1)) (g p m)=true
   ·have e:r=(p,m,q):=by
     show ev lt (if lt (g p m) (g p (m - 1))=true then _ else KasT.ask _ _ λd=>if d=true then _ else _)=_;rw[Qa2 c];show ev lt (if lt (g p (m - 1)) (g p m)=true then KasT.ret (p,m,q) else _)=_;rw[Qa3 d1];rfl
    rw[e];exact⟨le_refl _,le_add_right _ _,rfl,hd,hb⟩
   ·have d':lt (g p (m - 1)) (g p m)=false:=by simpa using d1
    have e:r=ev lt (kas_desc f p (m+1) (q+1)):=by
     show ev lt (if lt (g p m) (g p (m - 1))=true then _ else KasT.ask _ _ λd=>if d=true then _ else _)=_;rw[Qa2 c];show ev lt (if lt (g p (m - 1)) (g p m)=true then KasT.ret (p,m,q) else _)=_;rw[Qa2 d1]
    have blk:Blk lt p (m+1) (q+1):=⟨by exact Nat.succ_le_succ (by assumption),λi j i1 i2 j1 j2=>by
     have to:∀k,m - (q+1)<=k->k<m+1->Eqv lt (g p k) (g p (m - 1)):=λk k1 k2=>by
      by_cases z:k=m
      ·subst z;exact⟨c',d'⟩
      ·exact hb.2 k (m - 1) k1 (by omega) (by omega) (by exact sub_lt (by assumption) (by decide))
     have a:=to i (by omega) i2;have b:=to j (by omega) j2;exact⟨O.ntr _ _ _ a.1 b.2,O.ntr _ _ _ b.1 a.2⟩⟩
    obtain⟨a,b,s,d,k⟩:=Iq f (p:=p) (m+1) (q+1) (by exact Qd6 (by assumption)) (by omega) (low d') blk;rw[e];exact⟨by exact le_of_lt (by assumption),by omega,s,d,k⟩
theorem Dto.rev{p:Array Nat}{m:Nat}(hm:m<=p.size)(h:Dto lt p m):Sto lt (kas_rev p 0 m) m:=λi j hij hj=>by
 rw[Uw hm,Uw hm,Qa3 ⟨by exact Qb8 _,by assumption⟩,Qa3 ⟨by exact Qb8 _,by exact lt_of_le_of_lt (by assumption) (by assumption)⟩];exact h _ _ (by omega) (by omega)
theorem Ng{p:Array Nat}{m nrem:Nat}(h1:1<=m)(hn:m<=nrem)(hz:nrem<=p.size)(h:Dto lt p m):let r:=ev lt (kas_tail3 m nrem p);1<=r.1/\r.1<=nrem/\Sto lt r.2 r.1:=by
 intro r;have e:r=(ev lt (kas_asc (kas_rev p 0 m) (nrem - m) m),kas_rev p 0 m):=Ff lt _ _;obtain⟨a,b,c,_⟩:=Ph O (p:=kas_rev p 0 m) (nrem - m) m h1 (Dto.rev O (by exact le_trans (by assumption) (by assumption)) h);rw[e];exact⟨by show 1<=_;exact le_trans (by assumption) (by assumption),by show _<=nrem;omega,c⟩
theorem Ie{p:Array Nat}{m nrem:Nat}(hn:m+1<=nrem)(hz:nrem<=p.size)(h:Dto lt p (m+1)):let r:=ev lt (kas_descPart m nrem p);1<=r.1/\r.1<=nrem/\Sto lt r.2 r.1:=by
 intro r;have single:Blk lt p (m+1) 0:=⟨by omega,λi j a b c d=>by
  have:i=j:=by omega
  subst this;exact⟨irr O _,irr O _⟩⟩
 obtain⟨a,b,s,d,k⟩:=Iq O (nrem - (m+1)) (p:=p) (m+1) 0 (by omega) (by omega) h single;have e:r=ev lt (if (ev lt (kas_desc (nrem - (m+1)) p (m+1) 0)).2.2 > 0 then kas_tail3 (ev lt (kas_desc (nrem - (m+1)) p (m+1) 0)).2.1 nrem (kas_rev (ev lt (kas_desc (nrem - (m+1)) p (m+1) 0)).1 ((ev lt (kas_desc (nrem - (m+1)) p (m+1) 0)).2.1 - ((ev lt (kas_desc (nrem - (m+1)) p (m+1) 0)).2.2+1)) (ev lt (kas_desc (nrem - (m+1)) p (m+1) 0)).2.1) else kas_tail3 (ev lt (kas_desc (nrem - (m+1)) p (m+1) 0)).2.1 nrem (ev lt (kas_desc (nrem - (m+1)) p (m+1) 0)).1):=Ff lt _ _;rw[e];generalize ev lt (kas_desc (nrem - (m+1)) p (m+1) 0)=x at a b s d k;by_cases hq:x.2.2 > 0
 ·rw[Qa3 hq];exact Ng O (by omega) (by omega) (by rw[Gy];omega) (Dto.eqv O d λi _=>Mr O (by omega) k i)
 ·rw[Qa2 hq];exact Ng O (by omega) (by omega) (by omega) d
theorem V0{p:Array Nat}{nrem:Nat}(h1:1<=nrem)(hz:nrem<=p.size):let r:=ev lt (kas_count nrem p);1<=r.1/\r.1<=nrem/\Sto lt r.2 r.1:=by
 intro r;have s1:Sto lt p 1:=λi j hij hj=>by
  have a:i=0:=by omega
  have b:j=0:=by omega
  subst a b;exact irr O _
 obtain⟨a,b,c,e⟩:=Ph O (p:=p) (nrem - 1) 1 (le_refl _) s1;have er:r=ev lt ((λn=>if (n==nrem)=true then KasT.ret (n,p) else if n > 1 then KasT.ask (p.getD 0 0) (p.getD (n - 1) 0) λc=>if c=true then KasT.ret (n,p) else kas_descPart n nrem (kas_rev p 0 n) else kas_descPart n nrem p) (ev lt (kas_asc p (nrem - 1) 1))):=Ff lt _ _;rw[er];generalize ev lt (kas_asc p (nrem - 1) 1)=m at a b c e;dsimp only;by_cases h2:(m==nrem)=true
 ·rw[Qa3 h2];exact⟨a,by show m<=nrem;omega,c⟩
 ·rw[Qa2 h2];have hm:m<nrem:=by
   have:m≠nrem:=by simpa using h2
   omega
  have last:=e (by omega);by_cases h3:m > 1
  ·rw[Qa3 h3];show let r:=ev lt (if lt (g p 0) (g p (m - 1))=true then KasT.ret (m,p) else kas_descPart m nrem (kas_rev p 0 m));1<=r.1/\r.1<=nrem/\Sto lt r.2 r.1
   by_cases h4:lt (g p 0) (g p (m - 1))=true
   ·rw[Qa3 h4];exact⟨a,by show m<=nrem;exact le_of_lt (by assumption),c⟩
   ·rw[Qa2 h4];have h4:lt (g p 0) (g p (m - 1))=false:=by simpa using h4
    have all:∀i j,i<m->j<m->lt (g p i) (g p j)=false:=λi j hi hj=>O.ntr _ _ _ (O.ntr _ _ _ (c 0 i (by exact Qb8 _) hi) h4) (c j (m - 1) (by omega) (by exact sub_lt (by assumption) (by decide)));have blk:Blk lt p m (m - 1):=⟨by exact sub_lt (by assumption) (by decide),λi j _ i2 _ j2=>⟨all i j i2 j2,all j i j2 i2⟩⟩
    have d1:Dto lt p (m+1):=λi j hij hj=>by
     by_cases z:j=m
     ·subst z;by_cases z2:i=j
      ·subst z2;exact irr O _
      ·exact O.ntr _ _ _ (all i (j - 1) (by omega) (by exact sub_lt (by assumption) (by decide))) (O.asym _ _ last)
     ·exact all i j (by omega) (by omega)
    have rb:=Mr O (by omega) blk;rw[show m - (m - 1+1)=0 by omega] at rb;exact Ie O (by assumption) (by rw[Gy];assumption) (Dto.eqv O d1 λi _=>rb i)
  ·rw[Qa2 h3];have:m=1:=by omega
   subst this;refine Ie O (by assumption) hz λi j hij hj=> ?_;by_cases z:i=j
   ·subst z;exact irr O _
   ·have a0:i=0:=by omega
    have b1:j=1:=by omega
    subst a0 b1;exact O.asym _ _ last
theorem Kj{p:Array Nat}{k:Nat}:∀f l r,r - l<=f->l<=r->r<=k->(∀i,i<l->lt (g p k) (g p i)=false)->(∀i,r<=i->i<k->lt (g p k) (g p i)=true)->Sto lt p k->
  let x:=ev lt (kas_place p k f l r);x<=k/\(∀i,i<x->lt (g p k) (g p i)=false)/\∀i,x<=i->i<k->lt (g p k) (g p i)=true
 |0,l,r,hf,hlr,hrk,h1,h2,_=>by
  have:l=r:=by omega
  subst this;exact⟨hrk,h1,h2⟩
 |f+1,l,r,hf,hlr,hrk,h1,h2,hs=>by
  intro x;by_cases hl:l ≥ r
  ·have e:x=l:=by
    show ev lt (if l ≥ r then KasT.ret l else _)=l;rw[Qa3 hl];rfl
   have:l=r:=by omega
   subst this;rw[e];exact⟨hrk,h1,h2⟩
  ·by_cases c:lt (g p k) (g p ((l+r) / 2))=true
   ·have e:x=ev lt (kas_place p k f l ((l+r) / 2)):=by
     show ev lt (if l ≥ r then KasT.ret l else KasT.ask _ _ λc=>if c=true then _ else _)=_;rw[Qa2 hl];show ev lt (if lt (g p k) (g p ((l+r) / 2))=true then _ else _)=_;rw[Qa3 c]
    rw[e];refine Kj f l ((l+r) / 2) (by omega) (by omega) (by omega) h1 (λi i1 i2=> ?_) hs;cases z:lt (g p k) (g p i) with
    |true=>rfl
    |false=>
     have:=O.ntr _ _ _ z (hs ((l+r) / 2) i i1 i2);rw[c] at this;cases this
   ·have c':lt (g p k) (g p ((l+r) / 2))=false:=by simpa using c
    have e:x=ev lt (kas_place p k f ((l+r) / 2+1) r):=by
     show ev lt (if l ≥ r then KasT.ret l else KasT.ask _ _ λc=>if c=true then _ else _)=_;rw[Qa2 hl];show ev lt (if lt (g p k) (g p ((l+r) / 2))=true then _ else _)=_;rw[Qa2 c]
    rw[e];refine Kj f ((l+r) / 2+1) r (by omega) (by omega) hrk (λi i1=>O.ntr _ _ _ c' (hs i ((l+r) / 2) (by omega) (by omega))) h2 hs
theorem Wh:∀f {p:Array Nat} (k:Nat),k+f=p.size->Sto lt p k->Sto lt (ev lt (kas_bin f p k)) p.size
 |0,p,k,hz,hs=>by
  have:k=p.size:=by assumption
  subst this;exact hs
 |f+1,p,k,hz,hs=>by
  have e:ev lt (kas_bin (f+1) p k)=ev lt (kas_bin f (bubble p k (k - ev lt (kas_place p k k 0 k))) (k+1)):=Ff lt _ _;obtain⟨x1,x2,x3⟩:=Kj O (p:=p) (k:=k) k 0 k (by exact le_refl _) (by exact Qb8 _) (le_refl _) (λi hi=>by omega) (λi i1 i2=>by omega) hs;rw[e];generalize ev lt (kas_place p k k 0 k)=x at x1 x2 x3;have hs':Sto lt (bubble p k (k - x)) (k+1):=λi j hij hj=>by
   rw[g_bub (by omega) (by exact Nat.sub_le _ _),g_bub (by omega) (by exact Nat.sub_le _ _),show k - (k - x)=x by omega];by_cases j1:j=x
   ·rw[Qa3 j1];by_cases i1:i=x
    ·rw[Qa3 i1];exact irr O _
    ·rw[Qa2 i1,Qa2 (by omega)];exact x2 i (by omega)
   ·rw[Qa2 j1];by_cases j2:x<j/\j<=k
    ·rw[Qa3 j2];by_cases i1:i=x
     ·rw[Qa3 i1];exact O.asym _ _ (x3 (j - 1) (by omega) (by omega))
     ·rw[Qa2 i1];by_cases i2:x<i/\i<=k
      ·rw[Qa3 i2];exact hs (i - 1) (j - 1) (by omega) (by omega)
      ·rw[Qa2 i2];exact hs i (j - 1) (by omega) (by omega)
    ·rw[Qa2 j2,Qa2 (by omega),Qa2 (by omega)];exact hs i j hij (by omega)
  have:=Wh f (p:=bubble p k (k - x)) (k+1) (by rw[bubble_size];omega) hs';rw[bubble_size] at this;exact this
theorem Zl{n:Nat}(h1:1<=n):Sto lt (ev lt (kas_sort n)) n:=by
 have hz:(List.range n).toArray.size=n:=by simp
 have e:ev lt (kas_sort n)=ev lt ((λr:Nat×Array Nat=>if r.1<n then kas_bin (n - max r.1 1) r.2 (max r.1 1) else .ret r.2) (ev lt (kas_count n (List.range n).toArray))):=Ff lt _ _;obtain⟨a,b,c⟩:=V0 O (p:=(List.range n).toArray) h1 (by omega);have pm:Pm n (ev lt (kas_count n (List.range n).toArray)).2:=(J8 (by assumption) n (Array.Perm.refl _)).ev lt;rw[e];generalize ev lt (kas_count n (List.range n).toArray)=r at a b c pm;dsimp only;have sz:=pm.size;by_cases h:r.1<n
 ·rw[Qa3 h,show max r.1 1=r.1 by omega];have:=Wh O (n - r.1) (p:=r.2) r.1 (by omega) c;rw[sz] at this;exact this
 ·rw[Qa2 h];have:r.1=n:=by omega
  rw[this] at c;exact c
end
section
variable{prog:Program}{w:World}{A:Around}{E:Value->Shared->Prop}{s:Shared}
theorem K3{κ:SortKind}{lt:Nat->Nat->Bool}(O:Ord lt){a:Addr}{vs:List Value}{n:Nat}{P:PySem.Fin->Shared->Prop}(ho:s.heap.get? a=some (seqObj "list" vs.toArray n))(h64:vs.length<64)(hk:∀h',(∀b o,b≠a->s.heap.get? b=some o->h'.get? b=some o)->2<=vs.length->∀Q:SortKind->Shared->Prop,Q κ {s with heap:=h'}->wpAny (model prog w) A (keyKind' vs.toArray) Q E {s with heap:=h'})(hc:∀h',(∀b o,b≠a->s.heap.get? b=some o->h'.get? b=some o)->∀i j (C:Bool->Shared->Prop),i<vs.length->j<vs.length->C (lt i j) {s with heap:=h'}->kas_ask prog w A κ vs i j C {s with heap:=h'})(h:∀p:Array Nat,Pm vs.length p->Sto lt p vs.length->P (.done (.ret .none)) {s with heap:=sortedHeap s.heap a vs (p.toList.map λi=>vs.getD i Value.none).toArray}):
  wpAny (model prog w) A (Builtin.«list.sort» ⟨[.ref a],[]⟩) P E s:=by
 rw[list_sort_plain];have ha:a<s.heap.objs.size:=Qa8 ho;refine Gt (listItems_at ho rfl ?_);refine Gt (listUpdate_at ho rfl ?_ (by rw[size_toArray,Qc5];omega) (Qb8 _));obtain⟨e1,ho1⟩:∃e1,(s.heap.update a (Obj.mapSeq λ_=> #[])).get? a=some (seqObj "list" #[] e1):=⟨_,get?_update_seq ho (λ_=> #[])⟩
 refine Gt (seqEpoch_at ho1 rfl ?_);refine Gt (wpAny_newTuple ?_ (by show vs.length<=_;rw[Qc5];omega));refine Gt (wpAny_newList ?_ (Qb8 _));refine Qc7 ?_;have keep:∀b o,b≠a->s.heap.get? b=some o->(((s.heap.update a (Obj.mapSeq λ_=> #[])).push (seqObj "tuple" vs.toArray 0)).push (seqObj "list" #[] 0)).get? b=some o:=λb o ne q=>by
  have hlt:b<s.heap.objs.size:=Qa8 q;rw[get?_push_ne _ _ _ (by rw[size_push',size_update];exact ne_of_lt (Qd6 hlt)),get?_push_ne _ _ _ (by rw[size_update];exact ne_of_lt hlt),get?_update_ne _ _ _ _ ne];exact q
 have ho6:(((s.heap.update a (Obj.mapSeq λ_=> #[])).push (seqObj "tuple" vs.toArray 0)).push (seqObj "list" #[] 0)).get? a=some (seqObj "list" #[] e1):=by
  rw[get?_push_ne _ _ _ (by rw[size_push',size_update];exact ne_of_lt (Qd6 ha)),get?_push_ne _ _ _ (by rw[size_update];exact ne_of_lt ha)];exact ho1
 show wpAny (model prog w) A _ P E {s with heap:=((s.heap.update a (Obj.mapSeq λ_=> #[])).push (seqObj "tuple" vs.toArray 0)).push (seqObj "list" #[] 0)};dsimp only;have hsz:vs.toArray.size=vs.length:=by simp
 by_cases h2:vs.toArray.size<2
 ·rw[Qa3 h2,Qa3 h2];refine Gt (Qa1 ?_);rw[StateT.run_pure];refine Gt (Qa1 ?_);dsimp only;refine Gt (seqEpoch_at ho6 rfl ?_);refine Gt (listUpdate_at ho6 rfl ?_ (hsz2:=by rw[Array.size_map];show (pairsOf vs).size<=_;rw[pairsOf_size,Qc5];omega));simp only[bne_self_eq_false,Bool.false_eq_true,if_false];have fin:=h (List.range vs.length).toArray (Array.Perm.refl _) (λi j hij hj=>by
   have:i=j:=by omega
   subst this;exact irr O _)
  have e:(List.range vs.length).toArray.toList.map (λi=>vs.getD i Value.none)=vs:=by
   refine List.ext_getElem? λi=> ?_;simp only[getElem?_map];by_cases hi:i<vs.length
   ·simp[hi]
   ·simp[Nat.le_of_not_lt hi]
  rw[e] at fin;have e2:(map (λx=>x.snd) (vs.toArray.zip vs.toArray))=vs.toArray:=by
   apply Array.toList_inj.mp;simp[List.map_snd_zip]
  rw[show map (λx:Keyed=>x.snd) (arrOf (SortSt.mk' general' (vs.toArray.zip vs.toArray) #[] 7 none))=vs.toArray from e2];exact Qa1 fin
 ·rw[Qa2 h2,Qa2 h2];have h2':2<=vs.length:=by rw[hsz] at h2;exact Nat.not_lt.mp (by assumption)
  refine Gt (hk _ keep h2' _ ?_);refine Gt (Qd8 (kat_run (ks:=vs) (vs:=vs) (κ:=κ) (Q:=λst' s'=>∃p:Array Nat,s'={s with heap:=((s.heap.update a (Obj.mapSeq λ_=> #[])).push (seqObj "tuple" vs.toArray 0)).push (seqObj "list" #[] 0)}/\Pm vs.length p/\Sto lt p vs.length/\arrOf st'=p.map (kas_item (vs.toArray.zip vs.toArray))/\failedOf st'=none)
   rfl h2' h64 (G:=λp s'=>s'={s with heap:=((s.heap.update a (Obj.mapSeq λ_=> #[])).push (seqObj "tuple" vs.toArray 0)).push (seqObj "list" #[] 0)}/\Pm vs.length p/\Sto lt p vs.length) (λp st' s' a1 a2 a3 a4=>⟨p,a4.1,a4.2.1,a4.2.2,a2,a3⟩) ?_) ?_ λ_ _ e=>e)
  ·exact AsksP.wp (lt:=lt) (hc _ keep) (Le (by exact le_of_lt (by assumption))) ⟨rfl,(Le (by exact le_of_lt (by assumption))).ev lt,Zl O (by exact le_of_lt (by assumption))⟩
  ·rintro⟨⟨⟩,st'⟩ s' ⟨p,rfl,hp,hs,har,hf⟩;dsimp only;rw[kat_snds rfl har];refine Gt (seqEpoch_at ho6 rfl ?_);refine Gt (listUpdate_at ho6 rfl ?_ (Qb8 _) (by rw[size_toArray,If,length_toList,hp.size,Qc5];omega));rw[hf];simp only[bne_self_eq_false,Bool.false_eq_true,if_false];exact Qa1 (h p hp hs)
theorem Km{κ:SortKind}{lt:Nat->Nat->Bool}(O:Ord lt){v:Value}(I:List Value->Prop){Q:Value->Shared->Prop}(h64:∀vs,I vs->vs.length<64)(hcol:∀(Q:List Value->Shared->Prop),(∀vs h1 t1,I vs->(∀b o,s.heap.get? b=some o->h1.get? b=some o)->Q vs {s with heap:=h1,toks:=t1})->wpAny (model prog w) A.in1 (collect v) Q E s)(hk:∀vs h' t',I vs->(∀b o,s.heap.get? b=some o->h'.get? b=some o)->2<=vs.length->∀Q:SortKind->Shared->Prop,Q κ {s with heap:=h',toks:=t'}->wpAny (model prog w) A.in1.in1 (keyKind' vs.toArray) Q E {s with heap:=h',toks:=t'})(hc:∀vs h' t',I vs->(∀b o,s.heap.get? b=some o->h'.get? b=some o)->∀i j (C:Bool->Shared->Prop),i<vs.length->j<vs.length->C (lt i j) {s with heap:=h',toks:=t'}->kas_ask prog w A.in1.in1 κ vs i j C {s with heap:=h',toks:=t'})(h:∀vs (p:Array Nat) (h1 h':Heap) t' l e,I vs->Pm vs.length p->Sto lt p vs.length->(∀b o,s.heap.get? b=some o->h1.get? b=some o)->(∀b o,h1.get? b=some o->h'.get? b=some o)->h1.objs.size<=l->h'.get? l=some (seqObj "list" (p.toList.map λi=>vs.getD i Value.none).toArray e)->Q (.ref l) {s with heap:=h',toks:=t'}):
  wpAny (model prog w) A (call (.builtin "sorted") [v]) Q E s:=by
 refine Calls.call_function_entry kind_sorted plain_sorted entry_sorted (args_sorted1 _) ?_;unfold Builtin.«sorted»;refine Gt (m:=checkCount "sorted" 1 1 _) (Qa1 ?_);refine Gt (hcol _ λvs h1 t1 hI k1=> ?_);have h64:=h64 vs hI;refine Gt (wpAny_newList ?_ (by rw[Qc5];omega));have hoL:(h1.push (seqObj "list" vs.toArray 0)).get? h1.objs.size=some (seqObj "list" vs.toArray 0):=Qa7 _ rfl;show wpAny _ _ _ _ _ {s with heap:=h1.push (seqObj "list" vs.toArray 0),toks:=t1};have k3:∀b o,h1.get? b=some o->b≠h1.objs.size/\(h1.push (seqObj "list" vs.toArray 0)).get? b=some o:=λb o q=>
  ⟨ne_of_lt (Qa8 q),Lt _ q⟩
 have k2:∀b o,s.heap.get? b=some o->b≠h1.objs.size/\(h1.push (seqObj "list" vs.toArray 0)).get? b=some o:=λb o q=>k3 b o (k1 b o q);refine Gt (Qc7 (Qd4 slot_list_sort ⟨_,hoL,rfl⟩ entry_list_sort (K3 (s:={s with heap:=h1.push (seqObj "list" vs.toArray 0),toks:=t1}) (κ:=κ) O hoL h64 (λh' k l2 Q q=> ?_) (λh' k i j C hi hj q=> ?_) λp hp hs=>⟨_,rfl,?_⟩) (args_list_sort _)))
 ·exact hk vs h' t1 hI (λb o q=>k b o (k2 b o q).1 (k2 b o q).2) l2 Q q
 ·exact hc vs h' t1 hI (λb o q=>k b o (k2 b o q).1 (k2 b o q).2) i j C hi hj q
 ·refine Qa1 ⟨_,rfl,?_⟩;have hz:h1.objs.size<(h1.push (seqObj "list" vs.toArray 0)).objs.size:=by rw[size_push'];exact lt_succ_self _
  obtain⟨e,he⟩:∃e,(sortedHeap (h1.push (seqObj "list" vs.toArray 0)) h1.objs.size vs (p.toList.map λi=>vs.getD i Value.none).toArray).get? h1.objs.size=some (seqObj "list" (p.toList.map λi=>vs.getD i Value.none).toArray e):=by
   unfold sortedHeap;obtain⟨e1,ho1⟩:∃e1,((h1.push (seqObj "list" vs.toArray 0)).update h1.objs.size (Obj.mapSeq λ_=> #[])).get? h1.objs.size=some (seqObj "list" #[] e1):=⟨_,get?_update_seq hoL (λ_=> #[])⟩
   have ho6:((((h1.push (seqObj "list" vs.toArray 0)).update h1.objs.size (Obj.mapSeq λ_=> #[])).push (seqObj "tuple" vs.toArray 0)).push (seqObj "list" #[] 0)).get? h1.objs.size=some (seqObj "list" #[] e1):=by
    exact Lt _ (Lt _ ho1)
   exact⟨_,get?_update_seq ho6 λ_=>_⟩
  refine h vs p h1 _ t1 h1.objs.size e hI hp hs k1 (λb o q=> ?_) (le_refl _) he;have q2:=k3 b o q;unfold sortedHeap;rw[get?_update_ne _ _ _ _ q2.1];refine Lt _ (Lt _ ?_);rw[get?_update_ne _ _ _ _ q2.1];exact q2.2
end
end Srt
namespace Srt
open PySem PySem.W PyProof.Rows L2
def ltK:Key->Key->Bool
 | .inl a,.inl b=>decide (a<b)
 | .inr a,.inr b=>decide (a.cps.toList<b.cps.toList)
 | .inl _,.inr _=>true
 | .inr _,.inl _=>false
def ltR:List Key->List Key->Bool
 |x::xs,y::ys=>if x=y then ltR xs ys else ltK x y
 |[],_::_=>true
 |_,[]=>false
theorem str_ext{a b:Str}(h:a.cps.toList=b.cps.toList):a=b:=by
 cases a;cases b;simp at h;rw[h]
theorem G7:∀a,ltK a a=false
 | .inl a=>by simp[ltK]
 | .inr a=>by simp[ltK,List.lt_irrefl]
theorem Qv:∀{a b c},ltK a b=true->ltK b c=true->ltK a c=true
 | .inl a,.inl b,.inl c,h1,h2=>by simp only[ltK,Qa4] at *;omega
 | .inr a,.inr b,.inr c,h1,h2=>by simp only[ltK,Qa4] at *;exact List.lt_trans h1 h2
 | .inl _,.inl _,.inr _,_,_=>rfl
 | .inl _,.inr _,.inr _,_,_=>rfl
 | .inl _,.inr _,.inl _,_,h2=>by simp[ltK] at h2
 | .inr _,.inl _,_,h1,_=>by simp[ltK] at h1
 | .inr _,.inr _,.inl _,_,h2=>by simp[ltK] at h2
theorem Rs:∀a b,ltK a b=false->a=b\/ltK b a=true
 | .inl a,.inl b,h=>by
  simp only[ltK,Qa4,decide_eq_false_iff_not] at *;rcases Int.lt_trichotomy a b with x|x|x
  ·exact absurd x h
  ·exact .inl (by rw[x])
  ·exact .inr x
 | .inr a,.inr b,h=>by
  simp only[ltK,Qa4,decide_eq_false_iff_not] at *;by_cases e:b.cps.toList<a.cps.toList
  ·exact .inr e
  ·exact .inl (Qd1 Sum.inr (str_ext (List.le_antisymm (not_lt.mp e) (not_lt.mp h))))
 | .inl _,.inr _,h=>by simp[ltK] at h
 | .inr _,.inl _,_=> .inr rfl
theorem Qw:∀a,ltR a a=false
 |[]=>rfl
 |x::xs=>by simp[ltR,Qw xs]
theorem Qk:∀{a b c},ltR a b=true->ltR b c=true->ltR a c=true
 |_,[],_,h,_=>by simp[ltR] at h
 |_,_::_,[],_,h=>by simp[ltR] at h
 |[],_::_,_::_,_,_=>rfl
 |x::xs,y::ys,z::zs,h1,h2=>by
  unfold ltR at h1 h2 ⊢;by_cases e1:x=y
  ·subst e1;rw[Qa3 rfl] at h1;by_cases e2:x=z
   ·rw[Qa3 e2] at h2 ⊢;exact Qk h1 h2
   ·rw[Qa2 e2] at h2 ⊢;exact h2
  ·rw[Qa2 e1] at h1;by_cases e2:y=z
   ·subst e2;rw[Qa2 e1];exact h1
   ·rw[Qa2 e2] at h2;have:=Qv h1 h2;rw[Qa2 (λe=>by rw[e,G7] at this;cases this)];exact this
theorem Sc:∀a b,ltR a b=false->a=b\/ltR b a=true
 |[],[],_=> .inl rfl
 |[],_::_,h=>by simp[ltR] at h
 |_::_,[],_=> .inr rfl
 |x::xs,y::ys,h=>by
  unfold ltR at h ⊢;by_cases e:x=y
  ·subst e;rw[Qa3 rfl] at h ⊢;rcases Sc xs ys h with r|r
   ·exact .inl (by rw[r])
   ·exact .inr r
  ·rw[Qa2 e] at h;rw[Qa2 (λz=>e z.symm)];exact .inr ((Rs _ _ h).resolve_left e)
theorem Vm(f:Nat->List Key):Ord λi j=>ltR (f i) (f j) where
 asym:=λa b h=>by
  cases e:ltR (f b) (f a) with
  |false=>rfl
  |true=>have:=Qk h e;rw[Qw] at this;cases this
 ntr:=λa b c h1 h2=>by
  cases e:ltR (f a) (f c) with
  |false=>rfl
  |true=>
   rcases Sc _ _ h1 with r|r
   ·rw[r,h2] at e;cases e
   ·have:=Qk r e;rw[h2] at this;cases this
def isL:Key->Bool
 | .inl _=>true
 | .inr _=>false
section
variable{prog:Program}{w:World}{A:Around}{E:Value->Shared->Prop}{s:Shared}
theorem key_lt:∀{x y:Key} {u v:Value} {b:Bool} {C:Bool->Shared->Prop},isL x=isL y->RelV (kV x) u->RelV (kV y) v->C (ltK x y) s->wpAny (model prog w) A (oneLt' b u v) C E s
 | .inl a,.inl c,_,_,true,C,_,⟨t,rfl⟩,⟨t',rfl⟩,h=>oneLt_int h
 | .inl a,.inl c,_,_,false,C,_,⟨t,rfl⟩,⟨t',rfl⟩,h=>kat_one _ _ (PyProof.Rows.lt_int (show PySem.W.BoolBack C _ s from h))
 | .inr a,.inr c,_,_,true,C,_,⟨t,rfl⟩,⟨t',rfl⟩,h=>oneLt_str h
 | .inr a,.inr c,_,_,false,C,_,⟨t,rfl⟩,⟨t',rfl⟩,h=>kat_one _ _ (PySem.P.lt_str (show PySem.W.BoolBack C _ s from h))
 | .inl _,.inr _,_,_,_,_,h,_,_,_=>by cases h
 | .inr _,.inl _,_,_,_,_,h,_,_,_=>by cases h
end
theorem Pm.toList{n:Nat}{p:Array Nat}(h:Pm n p):p.toList.Perm (List.range n):=by
 have:=(Array.perm_iff_toList_perm).mp h;simpa using this
theorem E9{α:Type}(l:List α)(d:α):(List.range l.length).map (λi=>l.getD i d)=l:=by
 refine List.ext_getElem? λi=> ?_;simp only[getElem?_map];by_cases hi:i<l.length
 ·simp[hi]
 ·simp[Nat.le_of_not_lt hi]
theorem Sto.pairwise{lt:Nat->Nat->Bool}{p:Array Nat}{n:Nat}(hz:p.size=n)(h:Sto lt p n):p.toList.Pairwise λi j=>lt j i=false:=by
 rw[List.pairwise_iff_getElem];intro i j hi hj hij;have:=h i j (le_of_lt hij) (by simpa[<-hz] using hj);simp only[length_toList] at hi hj;have e1:g p i=p.toList[i]:=by simp[g,Array.getD,hi]
 have e2:g p j=p.toList[j]:=by simp[g,Array.getD,hj]
 rw[e1,e2] at this;exact this
theorem On{α:Type}(f:α->V)(f':α->Value)(hf:∀a,RelV (f a) (f' a)):∀l:List α,Vals (l.map f) (l.map f')
 |[]=> .nil
 |a::l=> .cons (hf a) (On f f' hf l)
section
variable{X:Cx}
theorem call_sortedD(hc:X.calm=true):Dm X (.builtin "sorted") (λxs H Q=>∃(d:Addr) (kvs:List (Key×V)) (ns:List Str),xs=[.ref d]/\H d=some (.dK kvs)/\kvs.map (·.1)=ns.map Sum.inr/\ns.length<64/\∀(l:Addr) (ns':List Str),H l=none->ns'.Perm ns->ns'.Pairwise (λa b=>ltK (.inr b) (.inr a)=false)->Q (.ref l) (upd H l (.lst (ns'.map V.str)))):=by
 intro pins s σ H xs us Q I r h;obtain⟨d,kvs,ns,rfl,hd,e,h64,q⟩:=h;obtain⟨u,rfl,rx⟩:=Dw r;cases rx;obtain⟨z,lo,vs,rel,dd⟩:=Rz I.hok hd;obtain⟨ep,hat⟩:=dd.dictAt;have ek:vs.map (·.1)=ns.map Sum.inr:=by
  rw[<-e];clear hat dd e q z hd
  induction rel with
  |nil=>rfl
  |cons r t ih=>rw[Qb5,Qb5,ih,r.1]
 have len:vs.length=ns.length:=by simpa using Qd1 length ek
 refine Km (κ:=oneType') (Vm λi=>[Sum.inr (ns.getD i default)]) (λus=>Vals (ns.map V.str) us) (λus hu=>by have:=hu.length;rw[If] at this;omega) (λQ hq=> ?_) ?_ ?_ ?_
 ·refine kdu_collect (A:=X.A.in1) (kdl_dict (knd:=Bm X.prog X.w) (kvs:=vs) (ep:=ep) lo) (I.ok.hd hc) hat (by rw[<-rel.length];exact z) λh' tk acc hk hacc=>hq _ h' tk ?_ hk;have go:∀(vs:List (Key×Value)) (ns:List Str) (us:List Value),vs.map (·.1)=ns.map Sum.inr->us.length=vs.length->(∀(j:Nat) (u:Value),us[j]? =some u->∃k x,vs[j]? =some (k,x)/\(Bm X.prog X.w).is k u=true)->Vals (ns.map V.str) us:=by
   intro vs
   induction vs with
   |nil=>
    intro ns us e1 e2 _;cases ns with
    |nil=>cases us with
     |nil=>exact .nil
     |cons _ _=>cases e2
    |cons _ _=>cases e1
   |cons p vs ih=>
    intro ns us e1 e2 h;cases ns with
    |nil=>cases e1
    |cons n ns=>
     cases us with
     |nil=>cases e2
     |cons u us=>
      simp only[Qb5,List.cons.injEq] at e1;refine .cons ?_ (ih ns us e1.2 (by simpa using e2) λj u hj=>h (j+1) u (by simpa using hj));obtain⟨k,x,hx,hk⟩:=h 0 u rfl;simp only[List.getElem?_cons_zero,Option.some.injEq] at hx;have:k=Sum.inr n:=by rw[<-e1.1,hx]
      subst this;rcases Bk (show Jv (Sum.inr n) u=true from hk) with⟨i,t,a,_⟩|⟨y,t,a,b⟩
      ·cases a
      ·cases a;exact⟨t,b⟩
  exact go vs ns acc.toList ek (by rw[length_toList];exact hacc.1) λj u hj=>hacc.2 j u (by rw[<-Qe3];exact hj)
 ·intro us h' t' hu k l2 Q hq;refine kas_kind (s:={s with heap:=h',toks:=t'}) (T:=Value.type "str") l2 (λv hv=> ?_) rfl rfl hq;clear hq l2;have:∀{ns:List Str} {us:List Value},Vals (ns.map V.str) us->∀v∈us,∃x t,v=Value.str x t:=by
   intro ns
   induction ns with
   |nil=>intro us hu v hv;cases hu;cases hv
   |cons n ns ih=>
    intro us hu v hv;cases hu with
    |cons r t=>
     rcases Qa9.mp hv with rfl|hv
     ·obtain⟨t,rfl⟩:=r;exact⟨_,_,rfl⟩
     ·exact ih t v hv
  obtain⟨x,t,rfl⟩:=this hu v hv;exact Looks.of_pure rfl
 ·intro us h' t' hu k i j C hi hj hC;have lu:=hu.length;rw[If] at lu;obtain⟨a,ha,ra⟩:=Vals.get hu (i:=i) (x:=V.str (ns.getD i default)) (by simp[show i<ns.length by omega]);obtain⟨b,hb,rb⟩:=Vals.get hu (i:=j) (x:=V.str (ns.getD j default)) (by simp[show j<ns.length by omega]);show wpAny _ _ (keyLt' oneType' (us.getD i Value.none) (us.getD j Value.none)) C _ _;have e1:us.getD i Value.none=a:=by simp[getD,ha]
  have e2:us.getD j Value.none=b:=by simp[getD,hb]
  rw[e1,e2,keyLt'_oneType];refine key_lt (x:=Sum.inr (ns.getD i default)) (y:=Sum.inr (ns.getD j default)) rfl ra rb ?_;have:ltR [Sum.inr (ns.getD i default)] [Sum.inr (ns.getD j default)]=ltK (Sum.inr (ns.getD i default)) (Sum.inr (ns.getD j default)):=by
   unfold ltR;split
   ·rename_i e;rw[e,G7];rfl
   ·rfl
  rw[<-this];exact hC
 ·intro us p h1 h' t' l e hu pm st k1 k zl hl;have lu:=hu.length;rw[If] at lu;have I:L2.Inv X pins σ H {s with heap:=h1,toks:=t'}:=I.kept k1;rw[<-lu] at pm st;have pl:=pm.toList;have pp:(p.toList.map λi=>ns.getD i default).Perm ns:=by
   have:=pl.map (λi=>ns.getD i (default:Str))
   rwa [E9] at this
  have pw:(p.toList.map λi=>ns.getD i (default:Str)).Pairwise (λa b=>ltK (.inr b) (.inr a)=false):=by
   rw[Qe5];refine(st.pairwise pm.size).imp λ{a b} hab=> ?_;unfold ltR at hab;split at hab
   ·rename_i e;rw[e];exact G7 _
   ·exact hab
  have mem:∀i∈p.toList,i<ns.length:=λi hi=>by simpa using pl.mem_iff.mp hi
  have vv:Vals ((p.toList.map λi=>ns.getD i default).map V.str) (p.toList.map λi=>us.getD i Value.none):=by
   clear hl pw pp pl st pm;generalize p.toList=il at mem
   induction il with
   |nil=>exact .nil
   |cons i il ih=>
    refine .cons ?_ (ih λj hj=>mem j (.tail _ hj));have hi:=mem i (.head _);obtain⟨a,ha,ra⟩:=Vals.get hu (i:=i) (x:=V.str (ns.getD i default)) (by simp[hi]);have e1:us.getD i Value.none=a:=by simp[getD,ha]
    show L2.RelV (V.str (ns.getD i default)) (us.getD i Value.none);rw[e1];exact ra
  refine⟨.ref l,_,I.laid (t':=t') (o:= .lst ((p.toList.map λi=>ns.getD i default).map V.str)) k zl ⟨?_,_,e,vv,hl⟩,rfl,q l _ (I.hok.fresh zl) pp pw⟩;rw[If,pp.length_eq,Qc5];omega
end
end Srt
namespace L2
open PySem PySem.Spec PyProof.Rows
def Itd(lo:Int)(n:Nat):It:=⟨λi _=>i<n,λi H x H'=>H'=H/\x= .int (lo - i),λi _=>n<=i⟩
theorem O5{P:Program}{w:World}{K:Frag}{tg:Expr}(it:Addr)(lo:Int)(n:Nat):Qe P w K tg (Itd lo n) [it] it (λi h=>IsRangeIter h it (lo+(i:Nat) * (-1)) ((n:Int) - (i:Nat)) (-1)) where
 mem:=by simp
 obj:=λi h st b hb=>by
  have e:b=it:=by simpa using hb
  subst e;exact⟨_,st,λv z=>by
   have z':Data.fields _=Data.cell v:=z;cases z'⟩
 keep:=λi h h' st k=>k it (by simp) _ st
 item:=by
  intro X hP hw hK hc i pins s σ H E I hf st hg;subst hP hw hK;obtain⟨f0,f1,f2,f3,f4,f5⟩:=hf it (by simp);have W:=Walks.range (prog:=X.prog) (w:=X.w) (I.ok.hd hc) it lo (-1) n;refine W.item i s _ _ hg st λv h' tk hv st' kk=> ?_;obtain⟨t,rfl⟩:=hv;have I1:Inv X pins σ H {s with heap:=h',toks:=tk}:=I.turned (λb o hb e=>kk b o (by simpa using hb) e) f0 f1 f3 f4 f5;refine⟨_,rfl,Sn (s:={s with heap:=h',toks:=tk}) (n:="range_iterator") st' rfl rfl (by decide) ⟨.int (lo - i),H,I1,⟨t,?_⟩,⟨rfl,rfl⟩,st',λb hb=>(hf b hb).1⟩⟩;rw[show lo+(i:Int) * (-1)=lo - i by omega]
 done:=by
  intro X hP hw hK hc i pins s σ H E I hf st hg;subst hP hw hK;obtain⟨f0,f1,f2,f3,f4,f5⟩:=hf it (by simp);exact wpAny_pyNext_range_end (I.ok.hd hc) st (by have:n<=i:=hg;omega) λh' eb=>⟨rfl,I.turned (t':=s.toks) (λb o hb e=>eb b o hb e) f0 f1 f3 f4 f5⟩
 self:=λ_ _ _ _ _ st h=>wpAny_pyIter_rangeiter st h
theorem E6(a b:Int):Builtin.Range.rangeSize a b (-1)=if b<a then a - b else 0:=by
 unfold Builtin.Range.rangeSize;simp only[show ¬((-1:Int) > 0) by decide,if_false,show (- (-1:Int))=1 by decide,Int.ediv_one];split<;> omega
theorem Pa{a b:Int}(ha: -(2 ^ 62)<=a)(ha':a<2 ^ 62)(hb: -(2 ^ 62)<=b)(hb':b<2 ^ 62):Builtin.Range.small a b (-1)=true:=by
 unfold Builtin.Range.small;rw[E6];simp only[Builtin.Range.rangeFitsLong,Qd9,Bool.or_eq_true,Qa4,beq_iff_eq,show ¬((-1:Int) > 0) by decide,if_false];split<;> omega
section
variable{X:Cx}{tg:Expr}
theorem Ta{pins:List (Addr×Obj)}{σ:St}{H:Hp}{s:Shared}{R:It->Hp->Prop}{E:Value->Shared->Prop}{lo hi:Int}{t u v:Tok}{tk:Nat}(I:Inv X pins σ H s)(h1: -(2 ^ 62)<=lo)(h2:lo<2 ^ 62)(h3: -(2 ^ 62)<=hi)(h4:hi<2 ^ 62)(q:R (Itd lo (lo - hi).toNat) H):wpAny (model X.prog X.w) X.A (pyIter (.ref s.heap.objs.size)) (PIE X pins σ tg R) E {s with heap:=s.heap.push {cls:= .type "range",data:= .fields #[.int lo t,.int hi u,.int (-1) v]},toks:=tk}:=by
 refine wpAny_pyIter_range (IsRange.new ..) (Pa h1 h2 h3 h4) ?_;have I1:Inv X pins σ H {s with heap:=s.heap.push {cls:= .type "range",data:= .fields #[.int lo t,.int hi u,.int (-1) v]},toks:=tk}:=I.kept λb o e=>Lt _ e;refine⟨(s.heap.push {cls:= .type "range",data:= .fields #[.int lo t,.int hi u,.int (-1) v]}).objs.size,[(s.heap.push {cls:= .type "range",data:= .fields #[.int lo t,.int hi u,.int (-1) v]}).objs.size],_,_,H,rfl,
  I1.kept (t':=tk) λb o e=>Lt _ e,O5 _ lo (lo - hi).toNat,?_,λb hb=> ?_,q⟩
 ·have e1:lo+((0:Nat):Int) * (-1)=lo:=by simp
  have e2:(((lo - hi).toNat:Nat):Int) - ((0:Nat):Int)=Builtin.Range.rangeSize lo hi (-1):=by rw[E6];split<;> omega
  show IsRangeIter _ _ (lo+((0:Nat):Int) * (-1)) ((((lo - hi).toNat:Nat):Int) - ((0:Nat):Int)) (-1);rw[e1,e2];exact Qa7 _ rfl
 ·have e:b=(s.heap.push {cls:= .type "range",data:= .fields #[.int lo t,.int hi u,.int (-1) v]}).objs.size:=by simpa using hb
  subst e;exact I1.fpOk (le_refl _) (I1.hok.fresh (le_refl _))
def iRngD(ta:TA):TI:=λσ H R=>ta σ H λvs H1=>∃i j:Int,vs=[.int i,.int j,.int (-1)]/\(-(2 ^ 62)<=i/\i<2 ^ 62/\ -(2 ^ 62)<=j/\j<2 ^ 62)/\R (Itd i (i - j).toNat) H1
theorem Tp{a b c:Expr}{ta:TA}{p pos:Pos}(hg:Gl X "range")(hm:X.mg "range"=none)(ha:PA X [a,b,c] ta)(hs:starEach [a,b,c] X.env=[(false,eval a X.env),(false,eval b X.env),(false,eval c X.env)]:=by rfl)(hs2:starEach [b,c] X.env=[(false,eval b X.env),(false,eval c X.env)]:=by rfl):
  PI X tg (.Call (.Name "range" p) [a,b,c] [] pos) (iRngD ta):=by
 intro pins s σ H R I h;refine Call_ (Ew I hg hm boot_range (PyProof.Rows.callWith_type1 (thn (ha pos pins s σ H _ I h) λus s1 ⟨vs,H1,I1,r1,q1⟩=> ?_) (by rw[hs,hs2]) (by rw[hs2];rfl)));obtain⟨i,j,e,⟨q1,q2,q3,q4⟩,q⟩:=q1;subst e;cases r1 with
 |cons r rr=>
  cases rr with
  |cons r' rr=>
   cases rr with
   |cons r2 rr=>
    cases rr;obtain⟨t,rfl⟩:=r;obtain⟨t',rfl⟩:=r';obtain⟨t2,rfl⟩:=r2;exact call_range_3 (by decide) (Ta I1 q1 q2 q3 q4 q)
end
theorem Qi{lo:Int}{n:Nat}{g:TG}{tb:TS}{D:Ga}{σ:St}{H:Hp}(Pv:Nat->St->Hp->Prop)(h0:Pv 0 σ H)(hs:∀i σ H,i<n->Pv i σ H->g (.int (lo - i)) σ H λσ2 H2=>tb {D with nx:=Pv (i+1),ct:=Pv (i+1),bk:=D.nx} σ2 H2)(hd:∀σ H,Pv n σ H->D.nx σ H):
  ∃W:Nat->Nat->St->Hp->Prop,(∃m,W 0 m σ H)/\∀i m σ H,W i m σ H->
   ((Itd lo n).stop i H/\D.nx σ H)\/((Itd lo n).go i H/\∃N:St->Hp->Prop,(∀σ' H',N σ' H'->∃m',m'<m/\W (i+1) m' σ' H')/\∀x H',(Itd lo n).yld i H x H'->g x σ H' λσ2 H2=>tb {D with nx:=N,ct:=N,bk:=D.nx} σ2 H2):=by
 refine⟨λi m σ H=>m=n - i/\i<=n/\Pv i σ H,⟨n,by simp,Qb8 _,h0⟩,?_⟩;rintro i m σ H ⟨rfl,hi,p⟩;by_cases hlt:i<n
 ·refine .inr ⟨hlt,Pv (i+1),λσ' H' p'=>⟨n - (i+1),by omega,rfl,hlt,p'⟩,λx H' y=> ?_⟩;obtain⟨e,y⟩:=y;subst e y;exact hs i σ _ hlt p
 ·have e:i=n:=by omega
  subst e;exact .inl ⟨le_refl _,hd σ H p⟩
theorem Xp{X:Cx}(hu:X.A.units+64<cLine):OpR X (compareOp .NotEq) (λx y H Q=>∃(a b:Addr) (xs:List V),x= .ref a/\y= .ref b/\SqL X.K H a xs/\SqL X.K H b []/\Q (.bl (!xs.isEmpty)) H):=by
 intro pins s σ H x y u v Q I rx ry h;obtain⟨a,b,xs,rfl,rfl,ha,hb,q⟩:=h;cases rx;cases ry;cases xs with
 |nil=>exact op_neD hu pins s σ H (.ref a) (.ref b) _ _ Q I rfl rfl ⟨.list [],.list [],.lst ha .nil,.lst hb .nil,rfl,rfl,by decide,q⟩
 |cons x xs=>
  obtain⟨its,r1,h1,_⟩:=I.list ha;obtain⟨its2,r2,h2,_⟩:=I.list hb;have l1:=r1.length;have l2:=r2.length;refine SeqAt.RcNeAt.lists_lengths h1.isList h2.isList (by simp at l1 l2 ⊢;omega) (by omega) X.prog X.w _ _ ⟨.bl _,H,I,rfl,q⟩
end L2
namespace Wk
open PySem
abbrev T4:=Str×Nat×Nat×Int
def nbT(v:Nat)(t:T4):List (Str×Nat):=(if t.2.1=v then [(t.1,t.2.2.1)] else [])++(if t.2.2.1=v then [(t.1,t.2.1)] else [])
def Bf(S:List T4)(v:Nat):List (Str×Nat):=S.flatMap (nbT v)
abbrev Ws:=List (Option (List Str))
def Bn(w:List Str):List (Str×Nat)->Ws×List Nat->Ws×List Nat
 |[],st=>st
 |(n,u)::r,st=>if st.1[u]? =some none then Bn w r (st.1.set u (some (w++[n])),st.2++[u]) else Bn w r st
def Ee(S:List T4)(st:Ws×List Nat):Ws×List Nat:=
 match st.2 with
 |[]=>st
 |h::rest=>Bn ((st.1[h]?.join).getD []) (Bf S h) (st.1,rest)
def Bv(N p:Nat):Ws×List Nat:=((replicate N none).set p (some []),[p])
def iter(S:List T4):Nat->Ws×List Nat->Ws×List Nat
 |0,st=>st
 |n+1,st=>iter S n (Ee S st)
def Df(N:Nat)(S:List T4)(p:Nat):Ws:=(iter S 64 (Bv N p)).1
theorem G6{S:List T4}:∀(n:Nat) {ws:Ws},iter S n (ws,[])=(ws,[])
 |0,_=>rfl
 |n+1,ws=>G6 n (ws:=ws)
theorem Lu{S:List T4}:∀(n:Nat) (st:Ws×List Nat),iter S (n+1) st=Ee S (iter S n st)
 |0,st=>rfl
 |n+1,st=>Lu n (Ee S st)
theorem Oh{S:List T4}(m:Nat):∀(n:Nat) (st:Ws×List Nat),iter S (n+m) st=iter S m (iter S n st)
 |0,st=>by rw[Nat.zero_add];rfl
 |n+1,st=>by rw[show n+1+m=(n+m)+1 by omega];exact Oh m n (Ee S st)
theorem Iy{N p i:Nat}{S:List T4}{ws:Ws}(h:iter S i (Bv N p)=(ws,[]))(hi:i<=64):Df N S p=ws:=by
 unfold Df;rw[show 64=i+(64 - i) by omega,Oh,h,G6]
inductive Lead(S:List T4)(a:Nat):List Str->Nat->Prop
 |nil:Lead S a [] a
 |snoc {ws:List Str} {b c:Nat} {n:Str}:Lead S a ws b->(n,c)∈Bf S b->Lead S a (ws++[n]) c
def Cq(ws:Ws):Nat:=ws.countP (·==none)
def Vis(ws:Ws)(v:Nat)(w:List Str):Prop:=ws[v]? =some (some w)
structure Ze(S:List T4)(N p h:Nat)(w:List Str)(st:Ws×List Nat):Prop where
 len:st.1.length=N
 lead:∀v x,Vis st.1 v x->Lead S p x v
 vis:∀v∈st.2,∃x,Vis st.1 v x
 done:∀v x,Vis st.1 v x->v∈st.2\/v=h\/∀nb∈Bf S v,∃y,Vis st.1 nb.2 y/\y.length<=x.length+1
 sorted:st.2.Pairwise λa b=>∀x y,Vis st.1 a x->Vis st.1 b y->x.length<=y.length
 top:∀v x b y,Vis st.1 v x->b∈st.2->Vis st.1 b y->x.length<=y.length+1
 hv:Vis st.1 h w
 ht:∀v x,Vis st.1 v x->x.length<=w.length+1
 hb:∀b y,b∈st.2->Vis st.1 b y->w.length<=y.length
theorem Bi{ws:Ws}{u:Nat}{z:List Str}(hu:ws[u]? =some none){v:Nat}{x:List Str}:Vis (ws.set u (some z)) v x↔(v=u/\x=z)\/Vis ws v x:=by
 unfold Vis;have hl:u<ws.length:=(List.getElem?_eq_some_iff.mp hu).1;rw[List.getElem?_set];by_cases e:u=v
 ·subst e;rw[Qa3 rfl,Qa3 hl,hu];constructor
  ·intro q;left;exact⟨rfl,by simpa using q.symm⟩
  ·rintro(⟨_,rfl⟩|q)
   ·rfl
   ·simp at q
 ·rw[Qa2 e];constructor
  ·exact .inr
  ·rintro(⟨rfl,_⟩|q)
   ·exact absurd rfl e
   ·exact q
theorem Ix{ws:Ws}{v:Nat}{x y:List Str}(a:Vis ws v x)(b:Vis ws v y):x=y:=by
 unfold Vis at a b;rw[a] at b;simpa using b
theorem G5{S:List T4}{N p h:Nat}{w:List Str}:∀(L:List (Str×Nat)) (st:Ws×List Nat),Ze S N p h w st->(∀nb∈L,nb∈Bf S h/\nb.2<N)->
  Ze S N p h w (Bn w L st)/\(∀v x,Vis st.1 v x->Vis (Bn w L st).1 v x)/\(∀nb∈L,∃y,Vis (Bn w L st).1 nb.2 y/\y.length<=w.length+1)/\Cq (Bn w L st).1+(Bn w L st).2.length=Cq st.1+st.2.length
 |[],st,I,_=>⟨I,λ_ _ e=>e,λnb h=>(by cases h),rfl⟩
 |(n,u)::r,st,I,hL=>by
  have hr:∀nb∈r,nb∈Bf S h/\nb.2<N:=λnb q=>hL nb (Qb4 _ q);have hn:=hL (n,u) (Qb6 ..);have hu:u<st.1.length:=by rw[I.len];exact hn.2
  unfold Bn;by_cases e:st.1[u]? =some none
  ·rw[Qa3 e];have I':Ze S N p h w (st.1.set u (some (w++[n])),st.2++[u]):=by
    have nu:∀x,¬Vis st.1 u x:=λx q=>by unfold Vis at q;rw[e] at q;simp at q
    refine⟨by simp[I.len],?_,?_,?_,?_,?_,?_,?_,?_⟩
    ·intro v x q;rcases(Bi e).mp q with⟨rfl,rfl⟩|q
     ·exact .snoc (I.lead h w I.hv) hn.1
     ·exact I.lead v x q
    ·intro v q;rcases mem_append.mp q with q|q
     ·obtain⟨x,hx⟩:=I.vis v q;exact⟨x,(Bi e).mpr (.inr hx)⟩
     ·rw[mem_singleton.mp q];exact⟨_,(Bi e).mpr (.inl ⟨rfl,rfl⟩)⟩
    ·intro v x q;rcases(Bi e).mp q with⟨rfl,rfl⟩|q
     ·exact .inl (mem_append_right _ (mem_singleton.mpr rfl))
     ·rcases I.done v x q with a|a|a
      ·exact .inl (mem_append_left _ a)
      ·exact .inr (.inl a)
      ·exact .inr (.inr λnb hb=>let ⟨y,hy,hl⟩:=a nb hb;⟨y,(Bi e).mpr (.inr hy),hl⟩)
    ·refine pairwise_append.mpr ⟨?_,List.pairwise_singleton ..,?_⟩
     ·refine(Pairwise.imp_of_mem ?_ I.sorted);intro a b ha hb k x y hx hy;have hx':Vis st.1 a x:=by
       rcases(Bi e).mp hx with⟨rfl,_⟩|q
       ·obtain⟨z,hz⟩:=I.vis _ ha;exact absurd hz (nu z)
       ·exact q
      have hy':Vis st.1 b y:=by
       rcases(Bi e).mp hy with⟨rfl,_⟩|q
       ·obtain⟨z,hz⟩:=I.vis _ hb;exact absurd hz (nu z)
       ·exact q
      exact k x y hx' hy'
     ·intro a ha b hb x y hx hy;rw[mem_singleton.mp hb] at hy;rcases(Bi e).mp hy with⟨_,rfl⟩|q
      ·rcases(Bi e).mp hx with⟨_,rfl⟩|q
       ·exact le_refl _
       ·have:=I.ht a x q;simp only[Qa0,Qa6,Qb9];assumption
      ·exact absurd q (nu y)
    ·intro v x b y hx hb hy;have hx1:x.length<=w.length+1:=by
      rcases(Bi e).mp hx with⟨_,rfl⟩|q
      ·simp
      ·exact I.ht v x q
     have hy1:w.length<=y.length:=by
      rcases(Bi e).mp hy with⟨_,rfl⟩|q
      ·simp
      ·rcases mem_append.mp hb with hb|hb
       ·exact I.hb b y hb q
       ·rw[mem_singleton.mp hb] at q;exact absurd q (nu y)
     omega
    ·exact(Bi e).mpr (.inr I.hv)
    ·intro v x hx;rcases(Bi e).mp hx with⟨_,rfl⟩|q
     ·simp
     ·exact I.ht v x q
    ·intro b y hb hy;rcases(Bi e).mp hy with⟨_,rfl⟩|q
     ·simp
     ·rcases mem_append.mp hb with hb|hb
      ·exact I.hb b y hb q
      ·rw[mem_singleton.mp hb] at q;exact absurd q (nu y)
   obtain⟨a,b,c,d⟩:=G5 r _ I' hr;refine⟨a,λv x q=>b v x ((Bi e).mpr (.inr q)),λnb q=> ?_,?_⟩
   ·rcases Qa9.mp q with rfl|q
    ·exact⟨_,b _ _ ((Bi e).mpr (.inl ⟨rfl,rfl⟩)),by simp⟩
    ·exact c nb q
   ·rw[d];have:Cq (st.1.set u (some (w++[n])))+1=Cq st.1:=by
     unfold Cq;have hg:st.1[u]=none:=by have:=List.getElem?_eq_some_iff.mp e;exact this.2
     rw[List.countP_set (h:=hu),hg];have:0<st.1.countP (·==none):=List.countP_pos_iff.mpr ⟨none,by rw[<-hg];exact getElem_mem hu,rfl⟩;simp only[beq_self_eq_true,if_true];show st.1.countP (·==none) - 1+0+1=_;omega
    simp only[Qa0,Qa6,Qb9];omega
  ·rw[Qa2 e];obtain⟨a,b,c,d⟩:=G5 r st I hr;refine⟨a,b,λnb q=> ?_,d⟩;rcases Qa9.mp q with rfl|q
   ·have:∃y,Vis st.1 u y:=by
     cases hh:st.1[u]? with
     |none=>rw[getElem?_eq_getElem hu] at hh;cases hh
     |some z=>cases z with
      |none=>exact absurd hh e
      |some y=>exact⟨y,hh⟩
    obtain⟨y,hy⟩:=this;exact⟨y,b _ _ hy,I.ht _ _ hy⟩
   ·exact c nb q
structure K0(S:List T4)(N p:Nat)(st:Ws×List Nat):Prop where
 len:st.1.length=N
 p0:Vis st.1 p []
 lead:∀v x,Vis st.1 v x->Lead S p x v
 vis:∀v∈st.2,∃x,Vis st.1 v x
 done:∀v x,Vis st.1 v x->v∈st.2\/∀nb∈Bf S v,∃y,Vis st.1 nb.2 y/\y.length<=x.length+1
 sorted:st.2.Pairwise λa b=>∀x y,Vis st.1 a x->Vis st.1 b y->x.length<=y.length
 top:∀v x b y,Vis st.1 v x->b∈st.2->Vis st.1 b y->x.length<=y.length+1
def InN(N:Nat)(S:List T4):Prop:=∀t∈S,t.2.1<N/\t.2.2.1<N
theorem Ih{N:Nat}{S:List T4}(h:InN N S){v:Nat}{nb:Str×Nat}(q:nb∈Bf S v):nb.2<N:=by
 obtain⟨t,ht,q⟩:=mem_flatMap.mp q;have:=h t ht;unfold nbT at q;rcases mem_append.mp q with q|q
 ·split at q
  ·rw[mem_singleton.mp q];exact this.2
  ·cases q
 ·split at q
  ·rw[mem_singleton.mp q];exact this.1
  ·cases q
theorem Vo{S:List T4}{N p:Nat}(hp:p<N):K0 S N p (Bv N p):=by
 have hu:(replicate N (none:Option (List Str)))[p]? =some none:=by rw[getElem?_replicate];rw[Qa3 hp]
 have nv:∀v x,¬Vis (replicate N (none:Option (List Str))) v x:=λv x q=>by
  unfold Vis at q;rw[getElem?_replicate] at q;split at q<;> simp at q
 have key:∀v x,Vis (Bv N p).1 v x->v=p/\x=[]:=λv x q=>by
  rcases(Bi hu).mp q with q|q
  ·exact q
  ·exact absurd q (nv v x)
 refine⟨by simp[Bv],(Bi hu).mpr (.inl ⟨rfl,rfl⟩),?_,?_,?_,?_,?_⟩
 ·intro v x q;obtain⟨rfl,rfl⟩:=key v x q;exact .nil
 ·intro v q;rw[mem_singleton.mp q];exact⟨_,(Bi hu).mpr (.inl ⟨rfl,rfl⟩)⟩
 ·intro v x q;obtain⟨rfl,rfl⟩:=key v x q;exact .inl (mem_singleton.mpr rfl)
 ·exact List.pairwise_singleton ..
 ·intro v x b y q _ q2;obtain⟨rfl,rfl⟩:=key v x q;simp
theorem Lv{N p:Nat}(hp:p<N){v:Nat}{x:List Str}(q:Vis (Bv N p).1 v x):x=[]:=by
 have hu:(replicate N (none:Option (List Str)))[p]? =some none:=by rw[getElem?_replicate];rw[Qa3 hp]
 rcases(Bi hu).mp q with q|q
 ·exact q.2
 ·unfold Vis at q;rw[getElem?_replicate] at q;split at q<;> simp at q
theorem Mn{S:List T4}{N p h:Nat}{ws:Ws}{rest:List Nat}(I:K0 S N p (ws,h::rest)):∃w,Vis ws h w/\Ze S N p h w (ws,rest):=by
 obtain⟨w,hw⟩:=I.vis h (Qb6 ..);refine⟨w,hw,I.len,I.lead,λv q=>I.vis v (Qb4 _ q),?_,(pairwise_cons.mp I.sorted).2,λv x b y a q=>I.top v x b y a (Qb4 _ q),hw,λv x q=>I.top v x h w q (Qb6 ..) hw,λb y q hb=>(pairwise_cons.mp I.sorted).1 b q w y hw hb⟩;intro v x q;rcases I.done v x q with a|a
 ·rcases Qa9.mp a with rfl|a
  ·exact .inr (.inl rfl)
  ·exact .inl a
 ·exact .inr (.inr a)
theorem Ku{S:List T4}{N p h:Nat}{ws:Ws}{rest:List Nat}(hS:InN N S)(I:K0 S N p (ws,h::rest)):
  K0 S N p (Ee S (ws,h::rest))/\Cq (Ee S (ws,h::rest)).1+(Ee S (ws,h::rest)).2.length+1=Cq ws+(h::rest).length:=by
 obtain⟨w,hw,J⟩:=Mn I;have e:Ee S (ws,h::rest)=Bn w (Bf S h) (ws,rest):=by
  show Bn ((ws[h]?.join).getD []) (Bf S h) (ws,rest)=_;unfold Vis at hw;rw[hw];rfl
 rw[e];obtain⟨a,b,c,d⟩:=G5 (Bf S h) (ws,rest) J λnb q=>⟨q,Ih hS q⟩
 refine⟨⟨a.len,b _ _ I.p0,a.lead,a.vis,?_,a.sorted,a.top⟩,by rw[d];rfl⟩;intro v x q;rcases a.done v x q with r|rfl|r
 ·exact .inl r
 ·refine .inr λnb hb=> ?_;have:=Ix q a.hv;subst this;exact c nb hb
 ·exact .inr r
theorem Se{S:List T4}{N p:Nat}(hS:InN N S):∀(n:Nat) (st:Ws×List Nat),K0 S N p st->K0 S N p (iter S n st)/\((iter S n st).2=[]\/Cq (iter S n st).1+(iter S n st).2.length+n=Cq st.1+st.2.length)
 |0,st,I=>⟨I,.inr rfl⟩
 |n+1,(ws,[]),I=>by
  have e:iter S (n+1) (ws,[])=(ws,[]):=G6 (n+1);rw[e];exact⟨I,.inl rfl⟩
 |n+1,(ws,h::rest),I=>by
  obtain⟨a,b⟩:=Ku hS I;obtain⟨c,d⟩:=Se hS n _ a;refine⟨c,?_⟩;rcases d with d|d
  ·exact .inl d
  ·refine .inr ?_;show Cq (iter S n (Ee S (ws,h::rest))).1+(iter S n (Ee S (ws,h::rest))).2.length+(n+1)=Cq ws+(h::rest).length;omega
theorem J3{S:List T4}{N p:Nat}(hS:InN N S)(hp:p<N)(hN:N<=60):∃ws,iter S 64 (Bv N p)=(ws,[])/\K0 S N p (ws,[]):=by
 obtain⟨a,b⟩:=Se hS 64 (Bv N p) (Vo hp);have:Cq (Bv N p).1+(Bv N p).2.length<=N+1:=by
  have:Cq (Bv N p).1<=(Bv N p).1.length:=List.countP_le_length;simp only[Bv,length_set,List.length_replicate,List.length_singleton] at this ⊢;exact Nat.succ_le_succ (by assumption)
 have e:(iter S 64 (Bv N p)).2=[]:=by
  rcases b with b|b
  ·exact b
  ·omega
 refine⟨(iter S 64 (Bv N p)).1,Prod.ext rfl e,?_⟩;have:iter S 64 (Bv N p)=((iter S 64 (Bv N p)).1,[]):=Prod.ext rfl e;rw[this] at a;exact a
theorem Op{S:List T4}{N p:Nat}(hS:InN N S)(hp:p<N)(hN:N<=60):(Df N S p).length=N:=by
 obtain⟨ws,e,I⟩:=J3 hS hp hN;rw[Iy e (le_refl _)];exact I.len
theorem Dp{S:List T4}{N p:Nat}(hS:InN N S)(hp:p<N)(hN:N<=60){v:Nat}{x:List Str}(h:Vis (Df N S p) v x):Lead S p x v:=by
 obtain⟨ws,e,I⟩:=J3 hS hp hN;rw[Iy e (le_refl _)] at h;exact I.lead v x h
theorem Ge{S:List T4}{N p:Nat}(hS:InN N S)(hp:p<N)(hN:N<=60){v:Nat}{x:List Str}(h:Lead S p x v):∃y,Vis (Df N S p) v y/\y.length<=x.length:=by
 obtain⟨ws,e,I⟩:=J3 hS hp hN;rw[Iy e (le_refl _)]
 induction h with
 |nil=>exact⟨[],I.p0,le_refl _⟩
 |snoc a b ih=>
  obtain⟨y,hy,hl⟩:=ih;rcases I.done _ _ hy with q|q
  ·cases q
  ·obtain⟨z,hz,hl2⟩:=q _ b;exact⟨z,hz,by simp only[Qa0,Qa6,Qb9] at hl2 ⊢;omega⟩
def Am(N:Nat)(S:List T4)(p:Nat):List Nat:=(List.range N).filter λv=>((Df N S p)[v]?.join).isSome
def Reach(S:List T4)(a b:Nat):Prop:=∃ws,Lead S a ws b
theorem vis_iff{ws:Ws}{v:Nat}:(ws[v]?.join).isSome=true↔∃x,Vis ws v x:=by
 unfold Vis;cases ws[v]? with
 |none=>simp
 |some z=>cases z<;> simp
theorem A1{S:List T4}{N p v:Nat}(hS:InN N S)(hp:p<N)(hN:N<=60):v∈Am N S p↔v<N/\Reach S p v:=by
 unfold Am;rw[mem_filter,mem_range,vis_iff];constructor
 ·rintro⟨a,x,hx⟩;exact⟨a,x,Dp hS hp hN hx⟩
 ·rintro⟨a,x,hx⟩;obtain⟨y,hy,_⟩:=Ge hS hp hN hx;exact⟨a,y,hy⟩
theorem Reach.refl{S:List T4}{a:Nat}:Reach S a a:=⟨[],.nil⟩
theorem Ri{S:List T4}{a b:Nat}{n:Str}(h:(n,b)∈Bf S a):(n,a)∈Bf S b:=by
 obtain⟨t,ht,q⟩:=mem_flatMap.mp h;refine mem_flatMap.mpr ⟨t,ht,?_⟩;unfold nbT at q ⊢;rcases mem_append.mp q with q|q
 ·split at q
  ·rename_i e;have:=mem_singleton.mp q;cases this;refine mem_append_right _ ?_;rw[Qa3 rfl,e];exact mem_singleton.mpr rfl
  ·cases q
 ·split at q
  ·rename_i e;have:=mem_singleton.mp q;cases this;refine mem_append_left _ ?_;rw[Qa3 rfl,e];exact mem_singleton.mpr rfl
  ·cases q
theorem Reach.trans{S:List T4}{a b c:Nat}(h:Reach S a b)(g:Reach S b c):Reach S a c:=by
 obtain⟨x,hx⟩:=h;obtain⟨y,hy⟩:=g
 induction hy with
 |nil=>exact⟨x,hx⟩
 |snoc _ q ih=>obtain⟨z,hz⟩:=ih;exact⟨_,.snoc hz q⟩
theorem Reach.step{S:List T4}{a b:Nat}{n:Str}(h:(n,b)∈Bf S a):Reach S a b:=⟨[]++[n],.snoc .nil h⟩
theorem Reach.symm{S:List T4}{a b:Nat}(h:Reach S a b):Reach S b a:=by
 obtain⟨x,hx⟩:=h
 induction hx with
 |nil=>exact .refl
 |snoc _ q ih=>exact(Reach.step (Ri q)).trans ih
theorem Ei{S:List T4}{t:T4}(h:t∈S):(t.1,t.2.2.1)∈Bf S t.2.1:=mem_flatMap.mpr ⟨t,h,mem_append_left _ (by rw[Qa3 rfl];exact mem_singleton.mpr rfl)⟩
theorem D0{S:List T4}{a b:Nat}{n:Str}(h:(n,b)∈Bf S a):∃t∈S,t.1=n/\((t.2.1=a/\t.2.2.1=b)\/(t.2.2.1=a/\t.2.1=b)):=by
 obtain⟨t,ht,q⟩:=mem_flatMap.mp h;refine⟨t,ht,?_⟩;unfold nbT at q;rcases mem_append.mp q with q|q
 ·split at q
  ·rename_i e;have:=mem_singleton.mp q;cases this;exact⟨rfl,.inl ⟨e,rfl⟩⟩
  ·cases q
 ·split at q
  ·rename_i e;have:=mem_singleton.mp q;cases this;exact⟨rfl,.inr ⟨e,rfl⟩⟩
  ·cases q
def relab(l:List Nat)(lo hi:Nat):List Nat:=l.map λx=>if x=hi then lo else x
def Kz(l:List Nat)(t:T4):List Nat:=relab l (min (l.getD t.2.1 0) (l.getD t.2.2.1 0)) (max (l.getD t.2.1 0) (l.getD t.2.2.1 0))
def Yw(N:Nat)(S:List T4):List Nat:=S.foldl Kz (List.range N)
theorem Ek(l:List Nat)(t:T4):(Kz l t).length=l.length:=by simp[Kz,relab]
theorem Li{l:List Nat}{lo hi v:Nat}(hv:v<l.length):(relab l lo hi).getD v 0=if l.getD v 0=hi then lo else l.getD v 0:=by
 unfold relab;rw[Qa5,getElem?_map,getElem?_eq_getElem hv,Qa5,getElem?_eq_getElem hv];rfl
theorem Eh{l:List Nat}{t:T4}{v:Nat}(hv:v<l.length):(Kz l t).getD v 0=if l.getD v 0=max (l.getD t.2.1 0) (l.getD t.2.2.1 0) then min (l.getD t.2.1 0) (l.getD t.2.2.1 0) else l.getD v 0:=Li hv
theorem Ul{u v:Nat}(S:List T4):∀l:List Nat,u<l.length->v<l.length->l.getD u 0=l.getD v 0->(S.foldl Kz l).getD u 0=(S.foldl Kz l).getD v 0:=by
 induction S with
 |nil=>intro l _ _ h;exact h
 |cons t S ih=>
  intro l hu hv h;rw[foldl_cons];exact ih _ (by rw[Ek];exact hu) (by rw[Ek];exact hv) (by rw[Eh hu,Eh hv,h])
theorem Xz{N:Nat}(S:List T4):∀l:List Nat,l.length=N->InN N S->∀t∈S,(S.foldl Kz l).getD t.2.1 0=(S.foldl Kz l).getD t.2.2.1 0:=by
 induction S with
 |nil=>intro l _ _ t h;cases h
 |cons t S ih=>
  intro l hl hN t' h;rw[foldl_cons];rcases Qa9.mp h with rfl|h
  ·have:=hN t' (Qb6 ..);refine Ul S _ (by rw[Ek];omega) (by rw[Ek];omega) ?_;rw[Eh (by omega),Eh (by omega)];split<;> split<;> omega
  ·exact ih _ (by rw[Ek];exact hl) (λx q=>hN x (Qb4 _ q)) t' h
theorem T7{S S':List T4}(h:∀t∈S,t∈S'){v:Nat}{nb:Str×Nat}(q:nb∈Bf S v):nb∈Bf S' v:=by
 obtain⟨t,ht,q⟩:=mem_flatMap.mp q;exact mem_flatMap.mpr ⟨t,h t ht,q⟩
theorem Reach.mono{S S':List T4}(h:∀t∈S,t∈S'){a b:Nat}(q:Reach S a b):Reach S' a b:=by
 obtain⟨x,hx⟩:=q
 induction hx with
 |nil=>exact .refl
 |snoc _ q ih=>exact ih.trans (.step (T7 h q))
theorem Pw{N:Nat}{S0:List T4}(S:List T4):∀l:List Nat,l.length=N->InN N S->(∀t∈S,t∈S0)->(∀u v,u<N->v<N->l.getD u 0=l.getD v 0->Reach S0 u v)->∀u v,u<N->v<N->(S.foldl Kz l).getD u 0=(S.foldl Kz l).getD v 0->Reach S0 u v:=by
 induction S with
 |nil=>intro l _ _ _ h;exact h
 |cons t S ih=>
  intro l hl hN hS h;rw[foldl_cons];refine ih _ (by rw[Ek];exact hl) (λx q=>hN x (Qb4 _ q)) (λx q=>hS x (Qb4 _ q)) ?_;intro u v hu hv e;have ht:=hN t (Qb6 ..);have tt:Reach S0 t.2.1 t.2.2.1:= .step (Ei (hS t (Qb6 ..)));rw[Eh (by omega),Eh (by omega)] at e;have q1:∀x,x<N->(l.getD x 0=max (l.getD t.2.1 0) (l.getD t.2.2.1 0)\/l.getD x 0=min (l.getD t.2.1 0) (l.getD t.2.2.1 0))->Reach S0 x t.2.1:=by
   intro x hx hm;have:l.getD x 0=l.getD t.2.1 0\/l.getD x 0=l.getD t.2.2.1 0:=by omega
   rcases this with q|q
   ·exact h x _ hx ht.1 q
   ·exact(h x _ hx ht.2 q).trans tt.symm
  split at e
  ·split at e
   ·exact(q1 u hu (.inl (by assumption))).trans (q1 v hv (.inl (by assumption))).symm
   ·exact(q1 u hu (.inl (by assumption))).trans (q1 v hv (.inr e.symm)).symm
  ·split at e
   ·exact(q1 u hu (.inr e)).trans (q1 v hv (.inl (by assumption))).symm
   ·exact h u v hu hv e
theorem Rv{N:Nat}{S:List T4}(hS:InN N S){u v:Nat}(hu:u<N)(hv:v<N):(Yw N S).getD u 0=(Yw N S).getD v 0↔Reach S u v:=by
 constructor
 ·refine Pw S (List.range N) (Qe1 ..) hS (λ_ h=>h) ?_ u v hu hv;intro a b ha hb e;rw[Qa5,getElem?_range ha,Qa5,getElem?_range hb] at e;have:a=b:=e;subst this;exact .refl
 ·rintro⟨x,hx⟩
  induction hx with
  |nil=>rfl
  | @snoc ws b c n a q ih=>
   have hb:b<N:=by
    cases a with
    |nil=>exact hu
    |snoc _ r=>exact Ih hS r
   have hc:c<N:=Ih hS q;refine(ih hb).trans ?_;obtain⟨t,ht,_,h⟩:=D0 q;have:=Xz S (List.range N) (Qe1 ..) hS t ht;rcases h with⟨rfl,rfl⟩|⟨rfl,rfl⟩
   ·exact this
   ·exact this.symm
theorem N9{N p:Nat}{S:List T4}(hS:InN N S)(hp:p<N)(hN:N<=60):Am N S p=(List.range N).filter λv=>decide ((Yw N S).getD v 0=(Yw N S).getD p 0):=by
 refine filter_congr λv hv=> ?_;have hv:=mem_range.mp hv;rw[Bool.eq_iff_iff,Qa4,Rv hS hv hp];have:=A1 (v:=v) hS hp hN;unfold Am at this;rw[mem_filter,mem_range] at this;constructor
 ·intro h;exact(this.mp ⟨hv,h⟩).2.symm
 ·intro h;exact(this.mpr ⟨hv,h.symm⟩).2
end Wk
namespace L2
open PySem
theorem M8{c:TT}{tb:TS}{D:Ga}{σ:St}{H:Hp}(Pv:Nat->St->Hp->Prop){m0:Nat}(h0:Pv m0 σ H)(hs:∀m σ H,Pv m σ H->c σ H λb H1=>if b=true then tb {D with nx:=λσ' H'=>∃m',m'<m/\Pv m' σ' H',ct:=λσ' H'=>∃m',m'<m/\Pv m' σ' H',bk:=D.nx} σ H1 else D.nx σ H1)(mono:∀σ H Q Q',(∀b H1,Q b H1->Q' b H1)->c σ H Q->c σ H Q'):Qh c tb D σ H:=by
 refine⟨Pv,⟨m0,h0⟩,λm σ H p=> ?_⟩;refine mono σ H _ _ (λb H1 q=> ?_) (hs m σ H p);cases b with
 |true=>exact⟨_,λ_ _ h=>h,q⟩
 |false=>exact q
theorem Aw{H0 H:Hp}{a:Addr}{o:HO}(s:Same H0 H)(n:H0 a=none):Same H0 (upd H a o):=λb u e=>by
 rw[Al (Av e n)];exact s b u e
theorem Wx(x:Int)(zs:List Int):inV (.int x) (zs.map V.int)=decide (x∈zs):=by
 unfold inV
 induction zs with
 |nil=>simp
 |cons z zs ih=>
  rw[Qb5,any_cons,ih];have:eqV (.int z) (.int x)=decide (x=z):=by
   show (z==x)=_;rw[Bool.eq_iff_iff,beq_iff_eq,Qa4];exact eq_comm
  rw[this,Bool.eq_iff_iff];simp
theorem Sv(ns:List Int):(ns.map V.int).all Eg=true:=by
 induction ns with
 |nil=>rfl
 |cons n ns ih=>rw[Qb5,all_cons,ih];rfl
theorem A3{α β:Type}{f:α->β}{l:List α}{i:Nat}{x:β}(h:(l.map f)[i]? =some x):∃z,l[i]? =some z/\x=f z:=by
 rw[getElem?_map] at h;cases q:l[i]? with
 |none=>rw[q] at h;cases h
 |some z=>rw[q] at h;exact⟨z,rfl,(Option.some.inj h).symm⟩
theorem Iv{n j:Nat}(h:j<n):ixN n (j:Int)=some j:=by
 unfold ixN;rw[Qa3 (by exact Int.natCast_nonneg _),Qa3 (by omega)];simp
theorem Cb{α:Type}{l:List α}{i:Nat}(h:i<l.length):l[i]? =some l[i]:=getElem?_eq_getElem h
end L2
namespace Wk
open PySem L2
def Hy(t:T4):List V:=[.str t.1,.int (t.2.1:Int),.int (t.2.2.1:Int),.int t.2.2.2]
def TiesAt(H:Hp)(rs:List Addr)(S:List T4):Prop:=rs.length=S.length/\∀(i:Nat) r t,rs[i]? =some r->S[i]? =some t->H r=some (.tup (Hy t))
theorem TiesAt.same{H H':Hp}{rs:List Addr}{S:List T4}(h:TiesAt H rs S)(s:Same H H'):TiesAt H' rs S:=⟨h.1,λi r t a b=>s _ _ (h.2 i r t a b)⟩
theorem TiesAt.get{H:Hp}{rs:List Addr}{S:List T4}(h:TiesAt H rs S){i:Nat}{r:Addr}(hr:rs[i]? =some r):∃t,S[i]? =some t/\H r=some (.tup (Hy t)):=by
 have hi:i<S.length:=by rw[<-h.1];exact(List.getElem?_eq_some_iff.mp hr).1
 exact⟨S[i],Cb hi,h.2 i r _ hr (Cb hi)⟩
def PrsAt(H:Hp)(l:Addr)(ps:List (Str×Nat)):Prop:=∃rs:List Addr,H l=some (.lst (rs.map V.ref))/\rs.length=ps.length/\∀(i:Nat) r q,rs[i]? =some r->ps[i]? =some q->H r=some (.tup [.str q.1,.int (q.2:Int)])
theorem PrsAt.same{H H':Hp}{l:Addr}{ps:List (Str×Nat)}(h:PrsAt H l ps)(s:Same H H'):PrsAt H' l ps:=let ⟨rs,a,b,c⟩:=h;⟨rs,s _ _ a,b,λi r q e f=>s _ _ (c i r q e f)⟩
def BesAt(H:Hp)(b:Addr)(N:Nat)(f:Nat->List (Str×Nat)):Prop:=∃ls:List Addr,H b=some (.lst (ls.map V.ref))/\ls.length=N/\∀(v:Nat) l,ls[v]? =some l->PrsAt H l (f v)
theorem BesAt.same{H H':Hp}{b:Addr}{N:Nat}{f:Nat->List (Str×Nat)}(h:BesAt H b N f)(s:Same H H'):BesAt H' b N f:=let ⟨ls,x,y,z⟩:=h;⟨ls,s _ _ x,y,λv l e=>(z v l e).same s⟩
structure Bes(H0 H:Hp)(b:Addr)(ls:List Addr)(N:Nat)(f:Nat->List (Str×Nat)):Prop where
 same:Same H0 H
 hb:H b=some (.lst (ls.map V.ref))
 len:ls.length=N
 nd:ls.Nodup
 new:∀l∈ls,H0 l=none/\l≠b
 prs:∀(v:Nat) l,ls[v]? =some l->PrsAt H l (f v)
theorem nd_ix{ls:List Addr}(h:ls.Nodup){i j:Nat}{l:Addr}(a:ls[i]? =some l)(b:ls[j]? =some l):i=j:=by
 have hi:=(List.getElem?_eq_some_iff.mp a).1;exact(List.getElem?_inj hi h).mp (by rw[a,b])
theorem Bes.app{H0 H:Hp}{b:Addr}{ls:List Addr}{N v:Nat}{f:Nat->List (Str×Nat)}{l p:Addr}{xs:List V}{n:Str}{u:Nat}(B:Bes H0 H b ls N f)(hv:ls[v]? =some l)(hp:H p=none)(hl:H l=some (.lst xs)):
  Bes H0 (upd (upd H p (.tup [.str n,.int (u:Int)])) l (.lst (xs++[.ref p]))) b ls N (λx=>if x=v then f v++[(n,u)] else f x):=by
 have lm:l∈ls:=mem_of_getElem? hv;have s1:=Ac (o:= .tup [.str n,.int (u:Int)]) hp;have lp:l≠p:=Av hl hp;refine⟨Aw (B.same.trans s1) (B.new l lm).1,by rw[Al (B.new l lm).2.symm];exact s1 _ _ B.hb,B.len,B.nd,B.new,λx k hx=> ?_⟩;obtain⟨rs,h1,h2,h3⟩:=B.prs x k hx;have tl:∀(r:Addr) ys,H r=some (.tup ys)->upd (upd H p (.tup [.str n,.int (u:Int)])) l (.lst (xs++[.ref p])) r=some (.tup ys):=λr ys e=>by
  rw[Al (Bx e hl (by intro z;cases z))];exact s1 _ _ e
 by_cases e:x=v
 ·subst e;rw[hv] at hx;cases hx;rw[hl] at h1;injection h1 with h1;injection h1 with h1;simp only[if_true];refine⟨rs++[p],by rw[Ab,h1,map_append];rfl,by simp[h2],λi r q hr hq=> ?_⟩;rw[getElem?_append] at hr hq;by_cases hi:i<rs.length
  ·rw[Qa3 hi] at hr;rw[Qa3 (by omega)] at hq;exact tl _ _ (h3 i r q hr hq)
  ·rw[Qa2 hi] at hr;rw[Qa2 (by omega),<-h2] at hq;have:i - rs.length=0:=by
    have:=(List.getElem?_eq_some_iff.mp hr).1;simp at this;assumption
   rw[this] at hr hq;cases hr;cases hq;rw[Al lp.symm];exact Ab
 ·simp only[Qa2 e];have kl:k≠l:=λq=>by subst q;exact e (nd_ix B.nd hx hv)
  exact⟨rs,by rw[Al kl];exact s1 _ _ h1,h2,λi r q hr hq=>tl _ _ (h3 i r q hr hq)⟩
theorem S8(S:List T4)(t:T4)(v:Nat):Bf (S++[t]) v=Bf S v++nbT v t:=by unfold Bf;rw[List.flatMap_append];simp
theorem Va(S:List T4)(t:T4):(λx=>if x=t.2.2.1 then (λx=>if x=t.2.1 then Bf S t.2.1++[(t.1,t.2.2.1)] else Bf S x) t.2.2.1++[(t.1,t.2.1)] else (λx=>if x=t.2.1 then Bf S t.2.1++[(t.1,t.2.2.1)] else Bf S x) x)=Bf (S++[t]):=by
 funext x
 rw[S8];unfold nbT;by_cases a:t.2.1=x
 ·subst a;rw[Qa3 rfl];by_cases b:t.2.2.1=t.2.1
  ·rw[Qa3 b,Qa3 b.symm];dsimp only;rw[Qa3 b];simp
  ·rw[Qa2 b,Qa2 (Ne.symm b)];dsimp only;rw[Qa3 rfl];simp
 ·rw[Qa2 a];by_cases b:t.2.2.1=x
  ·subst b;rw[Qa3 rfl,Qa3 rfl];dsimp only;rw[Qa2 (Ne.symm a)];simp
  ·rw[Qa2 b,Qa2 (Ne.symm b)];dsimp only;rw[Qa2 (Ne.symm a)];simp
theorem Jt(S:List T4)(v:Nat):(Bf S v).length<=2 * S.length:=by
 unfold Bf
 induction S with
 |nil=>simp
 |cons t S ih=>
  rw[List.flatMap_cons,Qa0,Qa6];have:(nbT v t).length<=2:=by unfold nbT;rw[Qa0];split<;> split<;> simp
  omega
def WayV(H:Hp)(x:V):Option (List Str)->Prop
 |none=>x= .non
 |some w=>∃r,x= .ref r/\H r=some (.tup (w.map V.str))
def WaysAt(H:Hp)(a:Addr)(ws:Ws):Prop:=∃xs,H a=some (.lst xs)/\xs.length=ws.length/\∀(i:Nat) x o,xs[i]? =some x->ws[i]? =some o->WayV H x o
theorem WayV.mono{H H':Hp}{x:V}{o:Option (List Str)}(f:∀r ys,H r=some (.tup ys)->H' r=some (.tup ys))(h:WayV H x o):WayV H' x o:=by
 cases o with
 |none=>exact h
 |some w=>obtain⟨r,a,b⟩:=h;exact⟨r,a,f _ _ b⟩
theorem WaysAt.same{H H':Hp}{a:Addr}{ws:Ws}(h:WaysAt H a ws)(s:Same H H'):WaysAt H' a ws:=let ⟨xs,x,y,z⟩:=h;⟨xs,s _ _ x,y,λi u o e f=>(z i u o e f).mono λr ys=>s r (.tup ys)⟩
theorem WaysAt.keep{H:Hp}{a l:Addr}{ws:Ws}{ys zs:List V}(h:WaysAt H a ws)(hl:H l=some (.lst ys))(n:a≠l):WaysAt (upd H l (.lst zs)) a ws:=by
 obtain⟨xs,x,y,z⟩:=h;exact⟨xs,by rw[Al n];exact x,y,λi u o e f=>(z i u o e f).mono λr ys e=>by rw[Al (Bx e hl (by intro z;cases z))];exact e⟩
theorem WaysAt.get{H:Hp}{a:Addr}{ws:Ws}(h:WaysAt H a ws){v:Nat}{o:Option (List Str)}(hv:ws[v]? =some o):∃xs x,H a=some (.lst xs)/\xs[v]? =some x/\xs.length=ws.length/\WayV H x o:=by
 obtain⟨xs,x,y,z⟩:=h;have hl:v<xs.length:=by rw[y];exact(List.getElem?_eq_some_iff.mp hv).1
 exact⟨xs,xs[v],x,Cb hl,y,z v _ o (Cb hl) hv⟩
theorem WaysAt.set{H:Hp}{a r:Addr}{ws:Ws}{xs:List V}{u:Nat}{w:List Str}(h:WaysAt H a ws)(ha:H a=some (.lst xs))(hr:H r=some (.tup (w.map V.str))):WaysAt (upd H a (.lst (xs.set u (.ref r)))) a (ws.set u (some w)):=by
 obtain⟨xs',x,y,z⟩:=h;rw[ha] at x;injection x with x;injection x with x;subst x;have tl:∀(q:Addr) ys,H q=some (.tup ys)->upd H a (.lst (xs.set u (.ref r))) q=some (.tup ys):=λq ys e=>by
  rw[Al (Bx e ha (by intro z;cases z))];exact e
 refine⟨_,Ab,by simp[y],λi x o hx ho=> ?_⟩;rw[List.getElem?_set] at hx ho;by_cases e:u=i
 ·rw[Qa3 e] at hx ho;split at hx
  ·rw[Qa3 (by omega)] at ho;cases hx;cases ho;exact⟨r,rfl,tl _ _ hr⟩
  ·cases hx
 ·rw[Qa2 e] at hx ho;exact(z i x o hx ho).mono tl
def Yq(w:List Str)(q:Str×Nat)(st:Ws×List Nat):Ws×List Nat:=if st.1[q.2]? =some none then (st.1.set q.2 (some (w++[q.1])),st.2++[q.2]) else st
theorem Zf{w:List Str}{q:Str×Nat}{st:Ws×List Nat}(h:¬st.1[q.2]? =some none):Yq w q st=st:=Qa2 h
theorem Xd{w:List Str}{q:Str×Nat}{st:Ws×List Nat}(h:st.1[q.2]? =some none):Yq w q st=(st.1.set q.2 (some (w++[q.1])),st.2++[q.2]):=Qa3 h
theorem Gi(w:List Str)(q:Str×Nat):∀(L:List (Str×Nat)) (st:Ws×List Nat),Bn w (L++[q]) st=Yq w q (Bn w L st)
 |[],st=>by unfold Yq;show Bn w (q::[]) st=_;unfold Bn;rfl
 |(n,u)::r,st=>by
  show Bn w ((n,u)::(r++[q])) st=_;unfold Bn;split
  ·exact Gi w q r _
  ·exact Gi w q r _
theorem Hz(w:List Str):∀(L:List (Str×Nat)) (st:Ws×List Nat) {v:Nat} {x:List Str},Vis st.1 v x->Vis (Bn w L st).1 v x
 |[],_,_,_,h=>h
 |(n,u)::r,st,v,x,h=>by
  unfold Bn;split
  ·rename_i e;exact Hz w r _ ((Bi e).mpr (.inr h))
  ·exact Hz w r _ h
theorem Hw(w:List Str):∀(L:List (Str×Nat)) (st:Ws×List Nat),(Bn w L st).1.length=st.1.length/\(Bn w L st).2.length<=st.2.length+L.length
 |[],st=>⟨rfl,le_refl _⟩
 |(n,u)::r,st=>by
  unfold Bn;split
  ·obtain⟨a,b⟩:=Hw w r (st.1.set u (some (w++[n])),st.2++[u]);refine⟨by rw[a];simp,?_⟩;simp only[Qa0,Qa6,Qb9] at b ⊢;omega
  ·obtain⟨a,b⟩:=Hw w r st;exact⟨a,by rw[Qa6];exact Nat.le_succ_of_le (by assumption)⟩
theorem Ik{S:List T4}{N p h i:Nat}{ws:Ws}{rest:List Nat}(hS:InN N S)(I:K0 S N p (ws,h::rest))(hl:∀v x,Wk.Vis ws v x->x.length<=i):∀v x,Wk.Vis (Ee S (ws,h::rest)).1 v x->x.length<=i+1:=by
 obtain⟨w,hw,J⟩:=Mn I;have e:Ee S (ws,h::rest)=Bn w (Bf S h) (ws,rest):=by
  show Bn ((ws[h]?.join).getD []) (Bf S h) (ws,rest)=_;unfold Wk.Vis at hw;rw[hw];rfl
 rw[e];obtain⟨a,_⟩:=G5 (Bf S h) (ws,rest) J λnb q=>⟨q,Ih hS q⟩
 intro v x q;have:=a.ht v x q;have:=hl h w hw;omega
theorem Ot{xs ys:List Addr}(h:xs.map V.ref=ys.map V.ref):xs=ys:=(List.map_inj_right (λ_ _ h=>by injection h)).mp h
abbrev LS:Str:=Str.ofString "abcdefghijklmnopqrstuvwxyz"
theorem LS_eq:LS.cps.toList=(List.range 26).map (97+·):=by decide+kernel
theorem Wc{v:Int}(h0:0<=v)(h1:v<26):atI LS.cps.toList v=some (97+v.toNat):=by
 obtain⟨j,rfl⟩:∃j:Nat,v=(j:Int):=⟨v.toNat,by omega⟩
 have hj:j<26:=by omega
 refine Ai ?_;rw[LS_eq,getElem?_map,getElem?_range hj];rfl
theorem Gp(x y:Str):(x++y).cps.toList=x.cps.toList++y.cps.toList:=by
 show (x.cps++y.cps).toList=_;rw[Array.toList_append]
def sg(c:Nat):V:= .str ⟨#[c]⟩
theorem sg_map(ws:List Nat):ws.map sg=(ws.map λc=>(⟨#[c]⟩:Str)).map V.str:=by rw[map_map];rfl
theorem sg_sum(ws:List Nat):((ws.map λc=>(⟨#[c]⟩:Str)).map (·.length)).sum=ws.length:=by
 induction ws with
 |nil=>rfl
 |cons c ws ih=>simp only[Qb5,List.sum_cons,Qa6,ih];show 1+ws.length=_;omega
theorem Vx:∀ws:List Nat,(Txt.join (Str.ofString "") (ws.map λc=>(⟨#[c]⟩:Str))).cps.toList=ws:=by
 have key:∀ws:List Nat,(Str.join (Str.ofString "") (ws.map λc=>(⟨#[c]⟩:Str))).cps.toList=ws:=by
  intro ws
  induction ws with
  |nil=>rfl
  |cons c ws ih=>
   cases ws with
   |nil=>rfl
   |cons d ws=>
    simp only[Qb5] at ih ⊢;rw[Str.join,Gp,Gp,ih]
    ·rfl
    ·intro q;cases q
 intro ws;show (Builtin.Str.glued _ _).cps.toList=_;rw[StrLaws.glued_eq_join];exact key ws
theorem Eo(z:Str):z.length=z.cps.toList.length:=by show z.cps.size=_;simp
theorem K6{xs:List V}{n:Nat}(h:n<=xs.length):Ec xs none (some (n:Int))=xs.take n:=by
 unfold Ec;rw[HT.sIx_none,HT.sIx_nat,List.drop_zero,Nat.min_eq_left h,Nat.sub_zero]
theorem Hs{xs:List V}{n:Nat}:Ec xs (some (n:Int)) none=xs.drop n:=by
 unfold Ec;rw[HT.sIx_none,HT.sIx_nat];by_cases h:n<=xs.length
 ·rw[Nat.min_eq_left h,List.take_of_length_le (by rw[length_drop];exact le_refl _)]
 ·rw[Nat.min_eq_right (by omega),List.drop_of_length_le (by exact le_refl _),List.drop_of_length_le (by omega)];simp
theorem Gz(x:Str)(zs:List Str):inV (.str x) (zs.map V.str)=decide (x∈zs):=by
 unfold inV
 induction zs with
 |nil=>simp
 |cons z zs ih=>
  rw[Qb5,any_cons,ih];have:eqV (.str z) (.str x)=decide (x=z):=by
   show (z==x)=_;rw[Bool.eq_iff_iff,beq_iff_eq,Qa4];exact eq_comm
  rw[this,Bool.eq_iff_iff];simp
theorem Fb{v:Int}(h0:0<=v):∃j:Nat,v=(j:Int):=⟨v.toNat,by omega⟩
abbrev Ps:=List (T4×Addr)
def psK(ps:Ps):List (Key×V):=ps.map λp=>(Sum.inr p.1.1,V.ref p.2)
def Ls(N:Nat)(t:T4):Prop:=t.2.1<N/\t.2.2.1<N/\t.2.1≠t.2.2.1
theorem Wa{ps:Ps}{n:Str}(h:n ∉ ps.map (·.1.1)):Dn (psK ps) (Sum.inr n)=none:=by
 unfold psK
 induction ps with
 |nil=>rfl
 |cons p ps ih=>
  rw[Qb5,Qa9,not_or] at h;rw[Qb5,Fa (by intro e;exact h.1 (by injection e with e;exact e.symm))];exact ih h.2
theorem Sm{ps:Ps}{n:Str}:(Dn (psK ps) (Sum.inr n)).isSome=decide (n∈ps.map (·.1.1)):=by
 unfold psK
 induction ps with
 |nil=>rfl
 |cons q ps ih=>
  rw[Qb5,Qb5];by_cases e:q.1.1=n
  ·rw[Gn (by rw[e])];simp[e]
  ·rw[Fa (by intro h;injection h with h;exact e h),ih];rw[Bool.eq_iff_iff];simp[Ne.symm e]
theorem X3{ps:Ps}{t:T4}{r:Addr}(h:t.1 ∉ ps.map (·.1.1)):Ej (psK ps) (Sum.inr t.1) (.ref r)=psK (ps++[(t,r)]):=by
 rw[Ur _ (Wa h)];unfold psK;rw[map_append];rfl
theorem Sw(N:Nat):(Em 0 ((N:Int) - 0).toNat).map V.int=((List.range N).map ofNat).map V.int:=by
 unfold Em;rw[show ((N:Int) - 0).toNat=N by omega,map_map,map_map];refine map_congr_left λk _=> ?_;show V.int (0+(k:Int))=V.int (k:Int);rw[Int.zero_add]
def Ty(l:List Nat)(t:T4):List Nat:=relab l (l.getD t.2.1 0) (l.getD t.2.2.1 0)
theorem Pd(l:List Nat)(a:Nat):relab l a a=l:=by
 unfold relab;rw[map_congr_left (g:=id) λx _=>by show (if x=a then a else x)=x;split<;> simp_all];simp
structure Ft(N:Nat)(P:List T4)(l:List Nat):Prop where
 len:l.length=N
 iff:∀u v,u<N->v<N->(l.getD u 0=l.getD v 0↔Reach P u v)
theorem lab0(N:Nat):Ft N [] (List.range N):=by
 refine⟨Qe1 ..,λu v hu hv=> ?_⟩;rw[Qa5,getElem?_range hu,Qa5,getElem?_range hv];constructor
 ·intro e;have:u=v:=e;subst this;exact .refl
 ·rintro⟨x,hx⟩;cases hx with
  |nil=>rfl
  |snoc _ q=>simp[Bf] at q
theorem Vd{N:Nat}{P:List T4}{l:List Nat}(h:Ft N P l)(hP:InN N P){t:T4}(h1:t.2.1<N)(h2:t.2.2.1<N):Ft N (P++[t]) (Ty l t):=by
 have hl:=h.len;have mono:∀{a b},Reach P a b->Reach (P++[t]) a b:=λr=>r.mono λx hx=>mem_append_left _ hx;have tie:Reach (P++[t]) t.2.1 t.2.2.1:= .step (Ei (mem_append_right _ (mem_singleton.mpr rfl)));have hN:InN N (P++[t]):=λx hx=>by
  rcases mem_append.mp hx with hx|hx
  ·exact hP x hx
  ·rw[mem_singleton.mp hx];exact⟨h1,h2⟩
 have g:∀v,v<N->(Ty l t).getD v 0=if l.getD v 0=l.getD t.2.2.1 0 then l.getD t.2.1 0 else l.getD v 0:=λv hv=>Li (by omega)
 refine⟨by unfold Ty relab;rw[If];exact hl,λu v hu hv=> ?_⟩;rw[g u hu,g v hv];constructor
 ·intro e;by_cases a:l.getD u 0=l.getD t.2.2.1 0
  ·by_cases b:l.getD v 0=l.getD t.2.2.1 0
   ·exact mono ((h.iff u v hu hv).mp (a.trans b.symm))
   ·rw[Qa3 a,Qa2 b] at e;exact((mono ((h.iff u _ hu h2).mp a)).trans tie.symm).trans (mono ((h.iff _ v h1 hv).mp e))
  ·by_cases b:l.getD v 0=l.getD t.2.2.1 0
   ·rw[Qa2 a,Qa3 b] at e;exact((mono ((h.iff u _ hu h1).mp e)).trans tie).trans (mono ((h.iff v _ hv h2).mp b)).symm
   ·rw[Qa2 a,Qa2 b] at e;exact mono ((h.iff u v hu hv).mp e)
 ·rintro⟨x,hx⟩;rw[<-g u hu,<-g v hv];clear hv
  induction hx with
  |nil=>rfl
  | @snoc ws b c n a q ih=>
   have hb:b<N:=by
    cases a with
    |nil=>exact hu
    |snoc _ r=>exact Ih hN r
   have hc:c<N:=Ih hN q;refine ih.trans ?_;obtain⟨t',ht',_,hh⟩:=D0 q;have key:(Ty l t).getD t'.2.1 0=(Ty l t).getD t'.2.2.1 0:=by
    rcases mem_append.mp ht' with ht'|ht'
    ·have:=hP t' ht';rw[g _ this.1,g _ this.2,(h.iff _ _ this.1 this.2).mpr (.step (Ei ht'))]
    ·rw[mem_singleton.mp ht',g _ h1,g _ h2,Qa3 rfl];split
     ·rfl
     ·rfl
   rcases hh with⟨rfl,rfl⟩|⟨rfl,rfl⟩
   ·exact key
   ·exact key.symm
def NmS(zs:List Str):Prop:=zs.Pairwise λa b=>Srt.ltK (.inr b) (.inr a)=false
noncomputable def Eb(P:List T4)(v:Nat):Bool:= @decide (∀u,u<v->¬Reach P u v) (Classical.propDecidable _)
noncomputable def Eu(N:Nat)(P:List T4):Nat:=(List.range N).countP (Eb P)
theorem least_iff{P:List T4}{v:Nat}:Eb P v=true↔∀u,u<v->¬Reach P u v:=by
 unfold Eb;exact @decide_eq_true_iff _ (Classical.propDecidable _)
theorem Fp{N:Nat}{P R:List T4}(h:∀a b,a<N->b<N->(Reach P a b↔Reach R a b)):Eu N P=Eu N R:=by
 unfold Eu;refine countP_congr λv hv=> ?_;have hv:=mem_range.mp hv;rw[least_iff,least_iff];exact⟨λq u hu r=>q u hu ((h u v (by omega) hv).mpr r),λq u hu r=>q u hu ((h u v (by omega) hv).mp r)⟩
theorem Q5(N:Nat):Eu N []=N:=by
 unfold Eu;have:∀v∈List.range N,Eb [] v=true:=λv _=>by
  rw[least_iff];rintro u hu ⟨x,hx⟩;cases hx with
  |nil=>omega
  |snoc _ q=>simp[Bf] at q
 rw[List.countP_eq_length.mpr this,Qe1]
theorem E8{P:List T4}:∀v:Nat,∃m,m<=v/\Reach P m v/\Eb P m=true:=by
 intro v
 induction v using Nat.strongRecOn with
 |_ v ih=>
  by_cases h:Eb P v=true
  ·exact⟨v,le_refl _,.refl,h⟩
  ·rw[least_iff] at h;simp only[Classical.not_forall,Classical.not_not] at h;obtain⟨u,hu,r⟩:=h;obtain⟨m,hm,rm,lm⟩:=ih u hu;exact⟨m,by omega,rm.trans r,lm⟩
theorem Ez{P:List T4}{m n:Nat}(hm:Eb P m=true)(hn:Eb P n=true)(r:Reach P m n):m=n:=by
 rw[least_iff] at hm hn;rcases Nat.lt_trichotomy m n with h|h|h
 ·exact absurd r (hn m h)
 ·exact h
 ·exact absurd r.symm (hm n h)
theorem reach_snoc{P:List T4}{t:T4}{a b:Nat}:Reach (P++[t]) a b↔Reach P a b\/(Reach P a t.2.1/\Reach P t.2.2.1 b)\/(Reach P a t.2.2.1/\Reach P t.2.1 b):=by
 have mono:∀{a b},Reach P a b->Reach (P++[t]) a b:=λr=>r.mono λx hx=>mem_append_left _ hx;have tie:Reach (P++[t]) t.2.1 t.2.2.1:= .step (Ei (mem_append_right _ (mem_singleton.mpr rfl)));constructor
 ·rintro⟨x,hx⟩
  induction hx with
  |nil=>exact .inl .refl
  | @snoc ws b c n _ q ih=>
   obtain⟨t',ht',_,hh⟩:=D0 q;rcases mem_append.mp ht' with ht'|ht'
   ·have st:Reach P b c:=by
     rcases hh with⟨rfl,rfl⟩|⟨rfl,rfl⟩
     ·exact .step (Ei ht')
     ·exact(Reach.step (Ei ht')).symm
    rcases ih with h|⟨h1,h2⟩|⟨h1,h2⟩
    ·exact .inl (h.trans st)
    ·exact .inr (.inl ⟨h1,h2.trans st⟩)
    ·exact .inr (.inr ⟨h1,h2.trans st⟩)
   ·rw[mem_singleton.mp ht'] at hh;rcases hh with⟨e1,e2⟩|⟨e1,e2⟩
    ·subst e1;subst e2;rcases ih with h|⟨h1,h2⟩|⟨h1,h2⟩
     ·exact .inr (.inl ⟨h,.refl⟩)
     ·exact .inr (.inl ⟨h1,.refl⟩)
     ·exact .inl h1
    ·subst e1;subst e2;rcases ih with h|⟨h1,h2⟩|⟨h1,h2⟩
     ·exact .inr (.inr ⟨h,.refl⟩)
     ·exact .inl h1
     ·exact .inr (.inr ⟨h1,.refl⟩)
 ·rintro(h|⟨h1,h2⟩|⟨h1,h2⟩)
  ·exact mono h
  ·exact((mono h1).trans tie).trans (mono h2)
  ·exact((mono h1).trans tie.symm).trans (mono h2)
theorem Ka{N:Nat}{P:List T4}{t:T4}(h:Reach P t.2.1 t.2.2.1):Eu N (P++[t])=Eu N P:=by
 refine Fp λa b _ _=> ?_;rw[reach_snoc];constructor
 ·rintro(q|⟨q1,q2⟩|⟨q1,q2⟩)
  ·exact q
  ·exact(q1.trans h).trans q2
  ·exact(q1.trans h.symm).trans q2
 ·exact .inl
theorem Pg{p q:Nat->Bool}{x N:Nat}(hx:x<N)(px:p x=true)(h:∀v,v<N->(q v=true↔p v=true/\v≠x)):(List.range N).countP q+1=(List.range N).countP p:=by
 induction N with
 |zero=>omega
 |succ N ih=>
  rw[range_succ,List.countP_append,List.countP_append,List.countP_singleton,List.countP_singleton];by_cases e:x=N
  ·subst e;have hq:q x=false:=by
    cases z:q x with
    |false=>rfl
    |true=>exact absurd rfl ((h x hx).mp z).2
   have:(List.range x).countP q=(List.range x).countP p:=countP_congr λv hv=>by
    have hv:=mem_range.mp hv;rw[h v (by omega)];exact⟨λz=>z.1,λz=>⟨z,by omega⟩⟩
   rw[this,hq,px];simp
  ·have:=ih (by omega) λv hv=>h v (by omega);have e2:q N=p N:=by
    rw[Bool.eq_iff_iff,h N (by omega)];exact⟨λz=>z.1,λz=>⟨z,Ne.symm e⟩⟩
   rw[e2];omega
theorem Jj{N:Nat}{P:List T4}{t:T4}(h1:t.2.1<N)(h2:t.2.2.1<N)(h:¬Reach P t.2.1 t.2.2.1):Eu N (P++[t])+1=Eu N P:=by
 obtain⟨m1,l1,r1,k1⟩:=E8 (P:=P) t.2.1;obtain⟨m2,l2,r2,k2⟩:=E8 (P:=P) t.2.2.1;have hne:m1≠m2:=λe=>h (r1.symm.trans (e▸r2));have mono:∀{a b},Reach P a b->Reach (P++[t]) a b:=λr=>r.mono λx hx=>mem_append_left _ hx;have tie:Reach (P++[t]) t.2.1 t.2.2.1:= .step (Ei (mem_append_right _ (mem_singleton.mpr rfl)));have r12:Reach (P++[t]) m1 m2:=((mono r1).trans tie).trans (mono r2).symm;refine Pg (x:=max m1 m2) (by omega) ?_ λv hv=> ?_
 ·rcases Nat.le_total m1 m2 with q|q
  ·rw[Nat.max_eq_right q];exact k2
  ·rw[Nat.max_eq_left q];exact k1
 constructor
 ·intro q;rw[least_iff] at q;refine⟨least_iff.mpr λu hu r=>q u hu (mono r),λe=> ?_⟩;rcases Nat.lt_or_gt_of_ne hne with z|z
  ·rw[Nat.max_eq_right (by omega)] at e;exact q m1 (by omega) (e▸r12)
  ·rw[Nat.max_eq_left (by omega)] at e;exact q m2 (by omega) (e▸r12.symm)
 ·rintro⟨q,hx⟩;have q':=q;rw[least_iff] at q ⊢;intro u hu r;rcases reach_snoc.mp r with z|⟨z1,z2⟩|⟨z1,z2⟩
  ·exact q u hu z
  ·-- v is the least of the other's class,u of the one's
   have ev:m2=v:=Ez k2 q' (r2.trans z2);have:m1<=u:=by
    obtain⟨m,lm,rm,km⟩:=E8 (P:=P) u;have:m1=m:=Ez k1 km (r1.trans (z1.symm.trans rm.symm));omega
   omega
  ·have ev:m1=v:=Ez k1 q' (r1.trans z2);have:m2<=u:=by
    obtain⟨m,lm,rm,km⟩:=E8 (P:=P) u;have:m2=m:=Ez k2 km (r2.trans (z1.symm.trans rm.symm));omega
   omega
theorem Ji{S:List T4}{N p:Nat}(hS:InN N S):∀(n:Nat) (st:Ws×List Nat) (i:Nat),K0 S N p st->(∀v x,Wk.Vis st.1 v x->x.length<=i)->∀v x,Wk.Vis (iter S n st).1 v x->x.length<=i+(Cq st.1+st.2.length)
 |0,st,i,_,h=>λv x q=>by have:=h v x q;omega
 |n+1,(ws,[]),i,_,h=>λv x q=>by
  rw[G6 (n+1)] at q;have:=h v x q;omega
 |n+1,(ws,h'::rest),i,I,h=>λv x q=>by
  obtain⟨a,b⟩:=Ku hS I;have:=Ji hS n _ (i+1) a (Ik hS I h) v x q;have e:Cq (ws,h'::rest).1+(ws,h'::rest).2.length=Cq ws+(h'::rest).length:=rfl;omega
theorem O9{N p:Nat}(hp:p<N):Cq (Bv N p).1+1=N:=by
 unfold Cq Bv;have hl:p<(replicate N (none:Option (List Str))).length:=by simpa using hp
 have hg:(replicate N (none:Option (List Str)))[p]=none:=by simp
 rw[List.countP_set (h:=hl),hg];have:(replicate N (none:Option (List Str))).countP (·==none)=N:=by simp[List.countP_replicate]
 rw[this];simp only[beq_self_eq_true,if_true];show N - 1+0+1=N;omega
theorem Px{S:List T4}{N p:Nat}(hS:InN N S)(hp:p<N){v:Nat}{x:List Str}(h:Wk.Vis (Df N S p) v x):x.length<=N:=by
 have:=Ji hS 64 (Bv N p) 0 (Vo hp) (λv x q=>by rw[Lv hp q];simp) v x h;have:=O9 hp;have e:(Bv N p).2.length=1:=rfl;omega
inductive Dd where
 |come (m:Int) (t:T4)
 |go (m:Int) (n:Str)
def Dd.vs:Dd->List V
 | .come m t=> .str (Str.ofString "come"):: .int m::Hy t
 | .go m n=>[.str (Str.ofString "go"),.int m,.str n]
def Oo(S:List T4):Dd->List T4
 | .come _ t=>S++[t]
 | .go _ n=>S.filter λt=>decide (t.1≠n)
def thr(ds:List Dd):List T4:=ds.foldl Oo []
theorem Dt(ds:List Dd)(d:Dd):thr (ds++[d])=Oo (thr ds) d:=by unfold thr;rw[List.foldl_append];rfl
def DdOk(N:Nat)(S:List T4):Dd->Prop
 | .come _ t=>t.1 ∉ S.map (·.1)/\Ls N t
 | .go _ n=>n∈S.map (·.1)
theorem A9{α:Type}{l:List α}{i:Nat}{d:α}(h:l[i]? =some d):l.take (i+1)=l.take i++[d]:=by rw[Qc8,h];rfl
structure U1(N:Nat)(S:List T4):Prop where
 nd:(S.map (·.1)).Nodup
 ok:∀t∈S,Ls N t
theorem Jf(n:Str)(S:List T4):(S.filter λt=>decide (t.1≠n)).map (·.1)=(S.map (·.1)).filter λm=>decide (m≠n):=by rw[filter_map];rfl
theorem Ye{N:Nat}{S:List T4}{d:Dd}(h:U1 N S)(g:DdOk N S d):U1 N (Oo S d):=by
 cases d with
 |come m t=>
  refine⟨?_,λu hu=> ?_⟩
  ·show ((S++[t]).map (·.1)).Nodup;rw[map_append];refine Qe6.mpr ⟨h.nd,Qd2.mpr ⟨by simp,nodup_nil⟩,λx hx y hy=> ?_⟩;have e:=mem_singleton.mp hy;intro q;exact g.1 (by have e:y=t.1:=e;rw[<-e,<-q];exact hx)
  ·rcases mem_append.mp hu with q|q
   ·exact h.ok u q
   ·rw[mem_singleton.mp q];exact g.2
 |go m n=>
  refine⟨?_,λu hu=>h.ok u (mem_filter.mp hu).1⟩;show ((S.filter λt=>decide (t.1≠n)).map (·.1)).Nodup;rw[Jf];exact h.nd.sublist Qc3
theorem Er(ds:List Dd):∀i,(thr (ds.take i)).length<=i
 |0=>by simp[thr]
 |i+1=>by
  cases e:ds[i]? with
  |none=>
   have:ds.length<=i:=by
    rcases lt_or_ge i ds.length with h|h
    ·rw[Cb h] at e;cases e
    ·exact h
   have:=Er ds i;rw[List.take_of_length_le (by omega)] at this ⊢;exact Nat.le_succ_of_le (by assumption)
  |some d=>
   rw[A9 e,Dt];have:=Er ds i;cases d with
   |come m t=>show (_++[t]).length<=_;simp;assumption
   |go m n=>exact le_trans (Qb2 _ _) (by exact Nat.le_succ_of_le (by assumption))
def DdsAt(H:Hp)(rs:List Addr)(ds:List Dd):Prop:=rs.length=ds.length/\∀(i:Nat) r d,rs[i]? =some r->ds[i]? =some d->H r=some (.tup d.vs)
theorem DdsAt.mono{H H':Hp}{rs:List Addr}{ds:List Dd}(h:DdsAt H rs ds)(f:∀r xs,H r=some (.tup xs)->H' r=some (.tup xs)):DdsAt H' rs ds:=⟨h.1,λi r d a b=>f _ _ (h.2 i r d a b)⟩
theorem DdsAt.get{H:Hp}{rs:List Addr}{ds:List Dd}(h:DdsAt H rs ds){i:Nat}{r:Addr}(hr:rs[i]? =some r):∃d,ds[i]? =some d/\H r=some (.tup d.vs):=by
 have hi:i<ds.length:=by rw[<-h.1];exact(List.getElem?_eq_some_iff.mp hr).1
 exact⟨ds[i],Cb hi,h.2 i r _ hr (Cb hi)⟩
theorem DdsAt.take{H:Hp}{rs:List Addr}{ds:List Dd}(h:DdsAt H rs ds)(n:Nat):DdsAt H (rs.take n) (ds.take n):=by
 refine⟨by rw[Qb0,Qb0,h.1],λi r d a b=> ?_⟩;have hi:i<n:=by have:=(List.getElem?_eq_some_iff.mp a).1;rw[Qb0] at this;omega
 rw[List.getElem?_take_of_lt hi] at a b;exact h.2 i r d a b
def HistAt(H:Hp)(h:Addr)(N:Nat)(ds:List Dd):Prop:=∃(tp:Addr) (rs:List Addr),H h=some (.tup [.int (N:Int),.ref tp])/\H tp=some (.tup (rs.map V.ref))/\DdsAt H rs ds
theorem HistAt.mono{H H':Hp}{h:Addr}{N:Nat}{ds:List Dd}(x:HistAt H h N ds)(f:∀r xs,H r=some (.tup xs)->H' r=some (.tup xs)):HistAt H' h N ds:=let ⟨tp,rs,a,b,c⟩:=x;⟨tp,rs,f _ _ a,f _ _ b,c.mono f⟩
theorem HistAt.same{H H':Hp}{h:Addr}{N:Nat}{ds:List Dd}(x:HistAt H h N ds)(s:Same H H'):HistAt H' h N ds:=x.mono λr xs=>s r (.tup xs)
def ThF(H:Hp)(th:Addr)(ps:Ps):Prop:=H th=some (.dK (psK ps))/\∀p∈ps,H p.2=some (.tup (Hy p.1))
theorem Od(n:Str):∀ps:Ps,Jq (psK ps) (.inr n:Key)=psK (ps.filter λp=>decide (p.1.1≠n))
 |[]=>rfl
 |p::ps=>by
  have ih:=Od n ps;unfold Jq psK at ih ⊢;rw[Qb5,Qf0,Qf0];by_cases z:p.1.1=n
  ·rw[Qa2 (by simp[z]),Qa2 (by simp[z])];exact ih
  ·rw[Qa3 (by simp[z]),Qa3 (by simp[z]),Qb5,ih]
theorem Jr(ps:Ps):(ps.map (·.1)).map (·.1)=ps.map (·.1.1):=by rw[map_map];rfl
theorem Z7(n:Str)(ps:Ps):(ps.filter λp=>decide (p.1.1≠n)).map (·.1)=(ps.map (·.1)).filter λt=>decide (t.1≠n):=by rw[filter_map];rfl
theorem Yj{N p:Nat}{S:List T4}:(Am N S p).Pairwise (·<·):=by
 unfold Am;exact(Qf2).sublist Qc3
end Wk
namespace HT
open PySem PyProof.Rows
theorem Kc{f g:Nat->Option Value}:∀{l:List Nat},(∀k∈l,f k=g k)->l.filterMap f=l.filterMap g
 |[],_=>rfl
 |a::l,h=>by
  rw[Qf3,Qf3,h a (Qb6),Kc (l:=l) λk hk=>h k (Qb4 _ hk)]
theorem Wp(xs:Array Value):((List.range xs.size).filterMap λ(k:Nat)=>xs[(((xs.size:Int) - 1)+(k:Int) * (-1)).toNat]?)=xs.toList.reverse:=by
 have h:((List.range xs.size).filterMap λ(k:Nat)=>xs[(((xs.size:Int) - 1)+(k:Int) * (-1)).toNat]?)=(List.range xs.size).filterMap λk=>xs.toList.reverse[k]? :=by
  refine Kc λk hk=> ?_;have hk:=mem_range.mp hk;have e:(((xs.size:Int) - 1)+(k:Int) * (-1)).toNat=xs.size - 1 - k:=by omega
  rw[e,List.getElem?_reverse (by simpa using hk)];simp
 rw[h];have:∀(l:List Value),(List.range l.length).filterMap (λk=>l[k]?)=l:=by
  intro l;refine List.ext_getElem? λi=> ?_;have e:(List.range l.length).filterMap (λk=>l[k]?)=(List.range l.length).map (λk=>l.getD k .none):=by
   rw[<-List.filterMap_eq_map];refine Kc λk hk=> ?_;have hk:=mem_range.mp hk;show l[k]? =some (l.getD k .none);rw[Qa5,getElem?_eq_getElem hk];rfl
  rw[e,getElem?_map];by_cases hi:i<l.length
  ·rw[getElem?_range hi,getElem?_eq_getElem hi];simp[hi]
  ·rw[List.getElem?_eq_none (by simpa using hi),List.getElem?_eq_none (by simpa using hi)];rfl
 have:=this xs.toList.reverse;rw[Qd3,length_toList] at this;exact this
section
variable{prog:Program}{w:World}{A:Around}{E:Value->Shared->Prop}{s:Shared}
theorem Ox{sl:Addr}{u:Tok}{n:Nat}{Q:Int×Int×Nat->Shared->Prop}(hs:s.heap.IsSliceOf sl .none .none (.int (-1) u))(h:Q ((n:Int) - 1,-1,n) s):wpAny (model prog w) A (Builtin.Slice.sliceApplied (.ref sl) (pure (n:Int))) Q E s:=by
 obtain⟨os,hos,hcs,hds⟩:=id hs;unfold Builtin.Slice.sliceApplied Builtin.Slice.sliceFields;refine Gt (Gt (Qc0 hos hds (x:= .none) rfl (Gt (Qc0 hos hds (x:= .none) rfl (Gt (Qc0 hos hds (x:= .int (-1) u) rfl (Qa1 ?_)))))));refine Gt (slicePart_int ?_);show wpAny _ _ (if ((-1:Int)==0)=true then _ else _) _ _ s;rw[Qa2 (by decide)];refine Gt (slicePart_none (Gt (slicePart_none (Gt (Qa1 (Qa1 ?_))))));have e:Builtin.Slice.slicePlaces ((n:Int) - 1) (-1) (-1)=n:=by
  unfold Builtin.Slice.slicePlaces;rw[Qa2 (by decide)];split
  ·rw[show (-(-1):Int)=1 from rfl,Int.ediv_one];omega
  ·omega
 show Q ((n:Int) - 1,-1,Builtin.Slice.slicePlaces ((n:Int) - 1) (-1) (-1)) s;rw[e];exact h
theorem getItem_tup_rev{t sl:Addr}{xs:Array Value}{u:Tok}{Q:Value->Shared->Prop}(ht:IsTup s.heap t xs)(hs:s.heap.IsSliceOf sl .none .none (.int (-1) u))(hz:xs.size<=10000)(h:Q (.ref s.heap.objs.size) {s with heap:=s.heap.push {cls:= .type "tuple",data:= .seq xs.toList.reverse.toArray}}):wpAny (model prog w) A (getItem (.ref t) (.ref sl)) Q E s:=by
 obtain⟨os,hos,hcs,hds⟩:=id hs;have tsl:s.TypeIs (.ref sl) "slice":=⟨os,hos,hcs⟩
 unfold getItem
 try with_reducible refine Qc7 ?_
 first|refine Gt (Qa1 ?_)|skip
 refine Gt (wpAny_sequenceKey ht.typeIs (by decide) (Gt (Qc6 (name:=Str.ofString "__getitem__") ht.typeIs PyProof.Rows.slot_tuple_getitem (Qd4 PyProof.Rows.slot_tuple_getitem ht.typeIs entry_tuple_getitem ?_ (args_tuple_getitem _ _)))));show wpAny _ _ (Builtin.Tuple.tupleItemsOf (.ref t) >>=λ_=>_) _ _ s;refine Gt (tupleItemsOf_ ht (Gt (wpAny_typeOf tsl ?_)));rw[Qa3 (by decide)];refine Gt (Ox hs ?_);show wpAny _ _ (ite ((((xs.size:Int) - 1)==0 && (-1:Int)==1 && xs.size==xs.size)=true) _ _) _ _ s;rw[Qa2 (by simp)];refine Gt (m:=Builtin.Tuple.tupleExact _) ?_;unfold Builtin.Tuple.tupleExact;rw[Wp];refine Qc9 ?_ (L2.small (by simpa using hz));exact Qa1 ⟨_,rfl,Qa1 h⟩
end
end HT
namespace L2
open PySem PySem.Spec PyProof.Rows
section
variable{X:Cx}{e:Expr}{te:TE}{pos p2:Pos}
def tRevT(K:Frag)(te:TE)(ts:TO):TE:=λσ H Q=>te σ H λx H1=>ts σ H1 λo H2=>∃(a:Addr) (xs:List V),o=some (-1)/\x= .ref a/\SqT K H2 a xs/\xs.length<=10000/\∀p,H2 p=none->Q (.ref p) (upd H2 p (.tup xs.reverse))
theorem Zd{st:Expr}{ts:TO}(he:PE X e te)(hs:PO X (some st) ts)(ops:Value->Value->List Value)(hsub:∀o i,subscripted (.Slice none none (some st) p2) false o i=operate (ops o i) (getItem o i)):PE X (.Subscript e (.Slice none none (some st) p2) pos) (tRevT X.K te ts):=by
 intro pins s σ H Q I h;refine Subscript_ (thn (he pins s σ H _ I h) λv s1 ⟨x,H1,I1,r1,q1⟩=>wpAny_Slice ?_);rw[evalPart_none];refine Qa1 (Qa1 (thn (hs pins s1 σ H1 _ I1 q1) λvs s2 ⟨o,H2,I2,ps,a,xs,q2⟩=> ?_));obtain⟨rfl,rfl,hq,hl,q⟩:=q2;cases r1;have I4:Inv X pins σ H2 {s2 with heap:=s2.heap.push {cls:= .type "slice",data:= .fields #[.none,.none,vs]}}:=I2.kept (t':=s2.toks) λb ob q=>Lt _ q;obtain⟨its,r,ht,hz⟩:=I4.tuple hq;have hlen:=r.length;show wpAny (model X.prog X.w) X.A (subscriptTail e (.Slice none none (some st) p2) (.ref a) (.ref s2.heap.objs.size)) (EP X pins σ Q) X.xe {s2 with heap:=s2.heap.push {cls:= .type "slice",data:= .fields #[.none,.none,vs]}};refine tail_any (ops:=ops (.ref a) (.ref s2.heap.objs.size)) ht.typeIs PyProof.Rows.slot_tuple_getitem.lookup ?_ (hsub _ _);cases ps with
 |int i t=>
  refine HT.getItem_tup_rev ht (IsSliceOf.new ..) (by rw[size_toArray];omega) ⟨.ref _,_,I4.laid (t':=s2.toks) (o:= .tup xs.reverse) (λb ob q=>Lt _ q) (le_refl _) ⟨small (by rw[Qd3];exact hl),its.reverse,r.reverse,?_⟩,rfl,q _ I4.fresh⟩;exact IsTupN.new _ _
end
end L2
namespace Wk
open PySem L2
def Bu(S:List T4)(v:Nat)(n:Str):Option Nat:=match S.find? λt=>decide (t.1=n) with
 |none=>none
 |some t=>if v=t.2.1 then some t.2.2.1 else if v=t.2.2.1 then some t.2.1 else none
def goF(S:List T4):Nat->List Str->Option Nat
 |v,[]=>some v
 |v,n::ns=>match Bu S v n with
  |none=>none
  |some u=>goF S u ns
theorem Nl{S:List T4}{n:Str}:∀{ws:List Str} {v u:Nat},goF S v ws=some u->goF S v (ws++[n])=Bu S u n
 |[],v,u,h=>by
  cases h;show (match Bu S v n with|none=>none|some u=>goF S u [])=_;cases Bu S v n<;> rfl
 |m::ws,v,u,h=>by
  show (match Bu S v m with|none=>none|some u=>goF S u (ws++[n]))=_;have h:(match Bu S v m with|none=>none|some u=>goF S u ws)=some u:=h;cases g:Bu S v m with
  |none=>rw[g] at h;cases h
  |some z=>rw[g] at h;exact Nl h
theorem V8{S:List T4}(nd:(S.map (·.1)).Nodup){t:T4}(ht:t∈S):S.find? (λu=>decide (u.1=t.1))=some t:=by
 induction S with
 |nil=>cases ht
 |cons a S ih=>
  rw[Qb5,Qd2] at nd;rw[find?_cons];rcases Qa9.mp ht with rfl|h
  ·simp
  ·have:a.1≠t.1:=λe=>nd.1 (by rw[e];exact List.mem_map_of_mem h);simp only[this,decide_false];exact ih nd.2 h
theorem Fe{S:List T4}(nd:(S.map (·.1)).Nodup){t:T4}(ht:t∈S):Bu S t.2.1 t.1=some t.2.2.1/\Bu S t.2.2.1 t.1=some t.2.1:=by
 unfold Bu;rw[V8 nd ht];refine⟨by simp,?_⟩;show (if t.2.2.1=t.2.1 then some t.2.2.1 else if t.2.2.1=t.2.2.1 then some t.2.1 else none)=_;by_cases g:t.2.2.1=t.2.1
 ·rw[Qa3 g,g]
 ·rw[Qa2 g,Qa3 rfl]
theorem Ma{K:Frag}{H:Hp}{Q:VK}{a b:Addr}{xs ys:List V}(ha:H a=some (.tup xs))(hb:H b=some (.tup ys))(hl:xs.length+ys.length<=10000)(k:∀t H',Same H H'->H' t=some (.tup (xs++ys))->Q (.ref t) H'):Xt K (.ref a) (.ref b) H Q:=by
 refine⟨a,b,_,_,rfl,rfl,SqT.of ha,SqT.of hb,small hl,λe=>k b H (Cf H) ?_,λ_ e=>k a H (Cf H) ?_,λ_ _ p hp=>k p _ (Ac hp) Ab⟩
 ·rw[e];exact hb
 ·rw[e,Qc4];exact ha
theorem Cz{K:Frag}{H:Hp}{Q:VK}{a:Addr}{xs:List V}{lo hi:Option Int}(ha:H a=some (.tup xs))(k:∀t H',Same H H'->H' t=some (.tup (Ec xs lo hi))->Q (.ref t) H'):Ij K (.ref a) lo hi H Q:=by
 refine⟨a,xs,rfl,SqT.of ha,λw=>k a H (Cf H) ?_,λ_ p hp=>k p _ (Ac hp) Ab⟩;have:Ec xs lo hi=xs:=by
  unfold Ec;rw[w.1,w.2];simp
 rw[this];exact ha
theorem Wj{σ:L2.St}{H:Hp}{f:Option Int->Hp->Prop}(h:f none H):Ir σ H f:=h
end Wk
namespace Srt
open PySem PySem.W PyProof.Rows L2
theorem Nd{prog:Program}{w:World}{A:Around}{E:Value->Shared->Prop}{s:Shared}{l:Addr}{vs:List Value}{Q:List Value->Shared->Prop}(hl:IsTup s.heap l vs.toArray)(h:Q vs {s with heap:=(s.heap.push (seqObj "list" #[] 0)).update s.heap.objs.size (Obj.mapSeq (·++vs.toArray))})(hsz:vs.length<=sizeLine):
  wpAny (model prog w) A (collect (.ref l)) Q E s:=by
 obtain⟨o,ho,hc,n,hd⟩:=id hl;unfold collect;refine Gt (wpAny_runValue (codeAny_builtin entry_proto_collect' ?_));show wpAny _ _ (do again (.builtin "list.__iadd__" ⟨[<-newList [],.ref l],[]⟩)) _ _ s;refine Gt (wpAny_newList (Qa1 ⟨Code.quiet_builtin _ (by decide+kernel),codeAny_builtin entry_list_iadd' ?_⟩));show wpAny _ _ (Builtin.List.listExtendWith (.ref s.heap.objs.size) (.ref l) (.ref s.heap.objs.size)) _ _ {s with heap:=s.heap.push (seqObj "list" #[] 0)};unfold Builtin.List.listExtendWith;have ho':(s.heap.push (seqObj "list" #[] 0)).get? l=some o:=Lt _ ho;refine Gt (wpAny_typeOf (T:="tuple") ⟨o,ho',hc⟩ ?_);have ht:(Value.type "tuple"==Value.type "tuple")=true:=by rfl
 rw[Qa3 (by rw[ht];simp)];refine Gt (listItems_at ho' hd ?_);refine Gt (listItems_at (xs:= #[]) (n:=0) (Qa7 _ rfl) rfl ?_);rw[Qa2 (by simp)];refine Gt (listUpdate_at (xs:= #[]) (n:=0) (Qa7 _ rfl) rfl ?_ (Qb8 _) (by show (#[]++vs.toArray).size<=sizeLine+1;simp only[Array.size_append,size_toArray,Qb9];omega));refine Qa1 ?_;show wpAny (model prog w) A (do
   let o <-load s.heap.objs.size
   match o.data with
   | .seq xs _=>pure xs.toList
   |_=>unsupported "internal:collect") Q E {s with heap:=(s.heap.push (seqObj "list" #[] 0)).update s.heap.objs.size (Obj.mapSeq (·++vs.toArray))}
 refine Gt (wpAny_load (get?_update_seq (Qa7 _ rfl) _) ?_);show wpAny _ _ (pure ((#[]:Array Value)++vs.toArray).toList) Q E _;rw[show ((#[]:Array Value)++vs.toArray).toList=vs by simp];exact Qa1 h
end Srt
namespace Wk
open PySem L2
theorem Jc{S:List T4}{ys:List Str}:∀{xs:List Str} {p u:Nat},goF S p xs=some u->goF S p (xs++ys)=goF S u ys
 |[],p,u,h=>by cases h;rfl
 |n::xs,p,u,h=>by
  show (match Bu S p n with|none=>none|some z=>goF S z (xs++ys))=_;have h:(match Bu S p n with|none=>none|some z=>goF S z xs)=some u:=h;cases g:Bu S p n with
  |none=>rw[g] at h;cases h
  |some z=>rw[g] at h;exact Jc h
theorem Mf{S:List T4}{ys:List Str}:∀{xs:List Str} {p q:Nat},goF S p (xs++ys)=some q->∃u,goF S p xs=some u/\goF S u ys=some q
 |[],p,q,h=>⟨p,rfl,h⟩
 |n::xs,p,q,h=>by
  have h:(match Bu S p n with|none=>none|some z=>goF S z (xs++ys))=some q:=h;cases g:Bu S p n with
  |none=>rw[g] at h;cases h
  |some z=>
   rw[g] at h;obtain⟨u,h1,h2⟩:=Mf h;refine⟨u,?_,h2⟩;show (match Bu S p n with|none=>none|some z=>goF S z xs)=_;rw[g];exact h1
theorem M2{S:List T4}{v u:Nat}{n:Str}(h:Bu S v n=some u):∃t∈S,t.1=n/\((v=t.2.1/\u=t.2.2.1)\/(v=t.2.2.1/\u=t.2.1)):=by
 unfold Bu at h;cases g:S.find? λt=>decide (t.1=n) with
 |none=>rw[g] at h;cases h
 |some t=>
  rw[g] at h;have h:(if v=t.2.1 then some t.2.2.1 else if v=t.2.2.1 then some t.2.1 else none)=some u:=h;refine⟨t,List.mem_of_find?_eq_some g,by simpa using List.find?_some g,?_⟩;split at h
  ·rename_i e;exact .inl ⟨e,(Option.some.inj h).symm⟩
  ·split at h
   ·rename_i e;exact .inr ⟨e,(Option.some.inj h).symm⟩
   ·cases h
theorem Sr{S:List T4}(nd:(S.map (·.1)).Nodup){v u:Nat}{n:Str}(h:Bu S v n=some u):Bu S u n=some v:=by
 obtain⟨t,ht,rfl,⟨e1,e2⟩|⟨e1,e2⟩⟩:=M2 h
 ·rw[e1,e2];exact(Fe nd ht).2
 ·rw[e1,e2];exact(Fe nd ht).1
theorem Z1{N:Nat}{S:List T4}(SN:InN N S){v u:Nat}{n:Str}(h:Bu S v n=some u):u<N:=by
 obtain⟨t,ht,_,⟨_,e⟩|⟨_,e⟩⟩:=M2 h
 ·rw[e];exact(SN t ht).2
 ·rw[e];exact(SN t ht).1
theorem Vr{N:Nat}{S:List T4}(SN:InN N S):∀{ws:List Str} {p q:Nat},p<N->goF S p ws=some q->q<N
 |[],p,q,hp,h=>by cases h;exact hp
 |n::ws,p,q,hp,h=>by
  have h:(match Bu S p n with|none=>none|some z=>goF S z ws)=some q:=h;cases g:Bu S p n with
  |none=>rw[g] at h;cases h
  |some z=>rw[g] at h;exact Vr SN (Z1 SN g) h
theorem Qx{S:List T4}{p u:Nat}{n:Str}(h:Bu S p n=some u):goF S p [n]=some u:=by
 show (match Bu S p n with|none=>none|some z=>goF S z [])=_;rw[h];rfl
theorem Qy{S:List T4}(nd:(S.map (·.1)).Nodup):∀{ws:List Str} {p q:Nat},goF S p ws=some q->goF S q ws.reverse=some p
 |[],p,q,h=>by cases h;rfl
 |n::ws,p,q,h=>by
  have h:(match Bu S p n with|none=>none|some z=>goF S z ws)=some q:=h;cases g:Bu S p n with
  |none=>rw[g] at h;cases h
  |some z=>
   rw[g] at h;rw[List.reverse_cons,Jc (Qy nd h)];exact Qx (Sr nd g)
def Ring(N:Nat)(S:List T4)(ws:List Str):Prop:=ws.length % 2=1/\∃p,p<N/\goF S p ws=some p
theorem Oi{S:List T4}{f:Nat->Int}(two:∀v,f v=0\/f v=1)(h:∀t∈S,f t.2.1≠f t.2.2.1):∀{ws:List Str} {p q:Nat},goF S p ws=some q->(ws.length % 2=0↔f p=f q)
 |[],p,q,g=>by cases g;simp
 |n::ws,p,q,g=>by
  have g:(match Bu S p n with|none=>none|some z=>goF S z ws)=some q:=g;cases o:Bu S p n with
  |none=>rw[o] at g;cases g
  |some z=>
   rw[o] at g;have ih:=Oi two h g;have hne:f p≠f z:=by
    obtain⟨t,ht,_,⟨e1,e2⟩|⟨e1,e2⟩⟩:=M2 o
    ·rw[e1,e2];exact h t ht
    ·rw[e1,e2];exact Ne.symm (h t ht)
   have a:=two p;have b:=two z;have c:=two q;rw[Qa6];constructor
   ·intro e;have:¬f z=f q:=λk=>by have:=ih.mpr k;omega
    omega
   ·intro e;have:¬ws.length % 2=0:=λk=>by have:=ih.mp k;omega
    omega
theorem Qu{N:Nat}{S:List T4}{f:Nat->Int}{ws:List Str}(hr:Ring N S ws)(two:∀v,f v=0\/f v=1):¬∀t∈S,f t.2.1≠f t.2.2.1:=λh=>by
 obtain⟨h1,p,hp,g⟩:=hr;have:=(Oi two h g).mpr rfl;omega
end Wk
namespace Rp
open PySem L2 PySem.Spec PyProof.Rows PySem.P
mutual
inductive RepF(H:Hp):Bool->V->PyData->Prop
 |non {f:Bool}:RepF H f .non .none
 |bl {f:Bool} (b:Bool):RepF H f (.bl b) (.bool b)
 |int {f:Bool} (i:Int):RepF H f (.int i) (.int i)
 |str {f:Bool} (x:Str):RepF H f (.str x) (.str x)
 |tup {f:Bool} {a:Addr} {xs:List V} {ds:List PyData}:H a=some (.tup xs)->RepFs H f xs ds->RepF H f (.ref a) (.tuple ds)
 |lst {a:Addr} {xs:List V} {ds:List PyData}:H a=some (.lst xs)->RepFs H false xs ds->RepF H false (.ref a) (.list ds)
 |dct {a:Addr}:H a=some (.dK [])->RepF H true (.ref a) (.dict [])
 |dc1 {a:Addr} {x:Str} {i:Int}:H a=some (.dK [(.inr x,.int i)])->RepF H true (.ref a) (.dict [(.str x,.int i)])
inductive RepFs(H:Hp):Bool->List V->List PyData->Prop
 |nil {f:Bool}:RepFs H f [] []
 |cons {f:Bool} {x:V} {xs:List V} {d:PyData} {ds:List PyData}:RepF H f x d->RepFs H f xs ds->RepFs H f (x::xs) (d::ds)
end
mutual
theorem RepF.same{H H':Hp}(s:Same H H'):∀{f:Bool} {v:V} {d:PyData},RepF H f v d->RepF H' f v d
 |_,_,_,.non=> .non
 |_,_,_,.bl b=> .bl b
 |_,_,_,.int i=> .int i
 |_,_,_,.str x=> .str x
 |_,_,_,.tup e h=> .tup (s _ _ e) (RepFs.same s h)
 |_,_,_,.lst e h=> .lst (s _ _ e) (RepFs.same s h)
 |_,_,_,.dct e=> .dct (s _ _ e)
 |_,_,_,.dc1 e=> .dc1 (s _ _ e)
theorem RepFs.same{H H':Hp}(s:Same H H'):∀{f:Bool} {vs:List V} {ds:List PyData},RepFs H f vs ds->RepFs H' f vs ds
 |_,_,_,.nil=> .nil
 |_,_,_,.cons h t=> .cons (RepF.same s h) (RepFs.same s t)
end
mutual
theorem RepF.reads{X:Cx}{pins:List (Addr×Obj)}{σ:L2.St}{H:Hp}{s:Shared}(I:Inv X pins σ H s):∀{f:Bool} {v:V} {d:PyData} {u:Value},RepF H f v d->RelV v u->∃as,Reads s.heap u d as/\(f=true->sysModules ∉ as)
 |_,_,_,_,.non,r=>by cases r;exact⟨_,.none,λ_=>by simp⟩
 |_,_,_,_,.bl b,r=>by cases r;exact⟨_,.bool b,λ_=>by simp⟩
 |_,_,_,_,.int i,r=>by obtain⟨t,rfl⟩:=r;exact⟨_,.int i t,λ_=>by simp⟩
 |_,_,_,_,.str x,r=>by obtain⟨t,rfl⟩:=r;exact⟨_,.str x t,λ_=>by simp⟩
 |_,_,_,_,.tup e h,r=>by
  cases r;obtain⟨_,its,rv,o,e1,e2,_,n,e3⟩:=I.hok _ _ e;obtain⟨as,q,na⟩:=RepFs.reads I h rv;exact⟨as,.tuple e1 e2 e3 (by simpa using q),na⟩
 |_,_,_,_,.lst e h,r=>by
  cases r;obtain⟨_,its,n,rv,e1⟩:=I.hok _ _ e;obtain⟨as,q,na⟩:=RepFs.reads I h rv;exact⟨_,.list e1 rfl rfl (by simpa using q),λz=>by cases z⟩
 |_,_,_,_,.dct (a:=a) e,r=>by
  cases r;obtain⟨_,ns,vs,kv,o,es,ep,e1,ex,e3,_,pr,_⟩:=I.hok _ _ e;have hv:vs=[]:=by cases kv;rfl
  subst hv;have he:es.toList=[]:=by
   have:=pr.length;simpa using this
  refine⟨a::[]++[],.dict (kvs:=[]) e1 ex.1 e3 (by rw[he];exact .nil) (by rw[he];exact .nil),λ_=> ?_⟩;have:a≠sysModules:=by simpa using ns
  simpa using this.symm
 |_,_,_,_,.dc1 (a:=a) (x:=x) (i:=i) e,r=>by
  cases r;obtain⟨_,ns,vs,kv,o,es,ep,e1,ex,e3,_,pr,_⟩:=I.hok _ _ e;obtain⟨u,hv,t',hu⟩:∃u,vs=[(Sum.inr x,u)]/\∃t,u=Value.int i t:=by
   cases kv with
   | @cons _ b _ _ r1 r2=>
    cases r2;obtain⟨b1,b2⟩:=b;obtain⟨z,r1⟩:=r1;cases z;exact⟨_,rfl,r1⟩
  subst hv;generalize hes:es.toList=el at pr;cases pr with
  | @cons en _ el _ h1 h2 h3=>
   cases h3;obtain⟨t,ht⟩:∃t,en.key=Value.str x t:=by
    rcases Bk (k:=Sum.inr x) (v:=en.key) h1 with⟨_,_,z,_⟩|⟨y,t,z,e'⟩
    ·cases z
    ·cases z;exact⟨t,e'⟩
   refine⟨a::([]++[])++([]++[]),.dict (kvs:=[(.str x,.int i)]) e1 ex.1 e3 ?_ ?_,λ_=> ?_⟩
   ·rw[hes];show ReadsAll s.heap [en.key] [.str x] _;rw[ht];exact .cons (.str x t) .nil
   ·rw[hes];show ReadsAll s.heap [en.val] [.int i] _;rw[h2,hu];exact .cons (.int i t') .nil
   ·have:a≠sysModules:=by simpa using ns
    simpa using this.symm
theorem RepFs.reads{X:Cx}{pins:List (Addr×Obj)}{σ:L2.St}{H:Hp}{s:Shared}(I:Inv X pins σ H s):∀{f:Bool} {vs:List V} {ds:List PyData} {us:List Value},RepFs H f vs ds->Vals vs us->∃as,ReadsAll s.heap us ds as/\(f=true->sysModules ∉ as)
 |_,_,_,_,.nil,r=>by cases r;exact⟨_,.nil,λ_=>by simp⟩
 |_,_,_,_,.cons h t,r=>by
  cases r with
  |cons r1 r2=>
   obtain⟨as,q1,n1⟩:=RepF.reads I h r1;obtain⟨bs,q2,n2⟩:=RepFs.reads I t r2;exact⟨_,.cons q1 q2,λz=>by simp[n1 z,n2 z]⟩
end
mutual
theorem RepF.nodict{H:Hp}:∀{v:V} {d:PyData},RepF H false v d->d.hasDict=false
 |_,_,.non=>rfl
 |_,_,.bl _=>rfl
 |_,_,.int _=>rfl
 |_,_,.str _=>rfl
 |_,_,.tup _ h=>by rw[PyData.hasDict];exact RepFs.nodict h
 |_,_,.lst _ h=>by rw[PyData.hasDict];exact RepFs.nodict h
theorem RepFs.nodict{H:Hp}:∀{vs:List V} {ds:List PyData},RepFs H false vs ds->PyData.hasDictAll ds=false
 |_,_,.nil=>rfl
 |_,_,.cons h t=>by rw[PyData.hasDictAll,RepF.nodict h,RepFs.nodict t];rfl
end
end Rp
namespace Wk
open PySem L2
theorem Iw{S:List T4}(nd:(S.map (·.1)).Nodup){a b:Nat}{ws:List Str}(h:Lead S a ws b):goF S a ws=some b:=by
 induction h with
 |nil=>rfl
 | @snoc ws b c n _ q ih=>
  rw[Nl ih];obtain⟨t,ht,rfl,⟨e1,e2⟩|⟨e1,e2⟩⟩:=D0 q
  ·rw[<-e1,<-e2];exact(Fe nd ht).1
  ·rw[<-e1,<-e2];exact(Fe nd ht).2
def lsF(N:Nat)(S:List T4):List Nat:=(List.range N).filter λp=>decide ((Am N S p)[0]? =some p)
theorem Sa{N p q:Nat}{S:List T4}(hS:InN N S)(hp:p<N)(hq:q<N)(hN:N<=60)(h:Reach S p q):Am N S p=Am N S q:=by
 rw[N9 hS hp hN,N9 hS hq hN,(Rv hS hp hq).mpr h]
theorem Fo{N p:Nat}{S:List T4}(hS:InN N S)(hp:p<N)(hN:N<=60):p∈Am N S p:=(A1 hS hp hN).mpr ⟨hp,.refl⟩
theorem Lx{N p:Nat}{S:List T4}(hS:InN N S)(hp:p<N)(hN:N<=60):∃q,(Am N S p)[0]? =some q/\q∈lsF N S/\Reach S q p:=by
 have hm:=Fo hS hp hN;have hl:0<(Am N S p).length:=List.length_pos_of_mem hm;have h0:=Cb hl;refine⟨_,h0,?_⟩;have hq:=(A1 hS hp hN).mp (getElem_mem hl);refine⟨mem_filter.mpr ⟨mem_range.mpr hq.1,?_⟩,hq.2.symm⟩;rw[Qa4,<-Sa hS hp hq.1 hN hq.2];exact h0
theorem Sb{N p q:Nat}{S:List T4}(hS:InN N S)(hN:N<=60)(hp:p∈lsF N S)(hq:q∈lsF N S)(h:Reach S p q):p=q:=by
 obtain⟨p1,p2⟩:=mem_filter.mp hp;obtain⟨q1,q2⟩:=mem_filter.mp hq;rw[Qa4] at p2 q2;rw[Sa hS (mem_range.mp p1) (mem_range.mp q1) hN h,q2] at p2;exact(Option.some.inj p2).symm
theorem Ig{N p:Nat}{S:List T4}(hp:p∈lsF N S):p<N:=mem_range.mp (mem_filter.mp hp).1
def FL(N:Nat)(S:List T4)(v:Nat)(ws:List Str):Prop:=∃p∈lsF N S,Vis (Df N S p) v ws
theorem FL.len{N v:Nat}{S:List T4}{ws:List Str}(hS:InN N S)(h:FL N S v ws):ws.length<=N:=by
 obtain⟨p,hp,hv⟩:=h;exact Px hS (Ig hp) hv
theorem FL.tie{N:Nat}{S:List T4}{x y:List Str}{t:T4}(hS:InN N S)(hN:N<=60)(ht:t∈S)(hx:FL N S t.2.1 x)(hy:FL N S t.2.2.1 y):∃p,p<N/\Lead S p x t.2.1/\Lead S p y t.2.2.1/\x.length<=y.length+1/\y.length<=x.length+1:=by
 obtain⟨p,hp,vx⟩:=hx;obtain⟨q,hq,vy⟩:=hy;have pN:=Ig hp;have qN:=Ig hq;have lx:=Dp hS pN hN vx;have ly:=Dp hS qN hN vy;have e:p=q:=Sb hS hN hp hq ((Reach.trans ⟨x,lx⟩ (.step (Ei ht))).trans (Reach.symm ⟨y,ly⟩));subst e;obtain⟨y',vy',hy'⟩:=Ge hS pN hN (Lead.snoc lx (Ei ht));obtain⟨x',vx',hx'⟩:=Ge hS pN hN (Lead.snoc ly (Ri (Ei ht)));rw[Ix vy' vy,Qa0] at hy';rw[Ix vx' vx,Qa0] at hx';exact⟨p,pN,lx,ly,hx',hy'⟩
def Two(S:List T4):Prop:=∃f:Nat->Int,(∀v,f v=0\/f v=1)/\∀t∈S,f t.2.1≠f t.2.2.1
theorem Two.mono{S S':List T4}(h:Two S)(s:∀t∈S',t∈S):Two S':=let ⟨f,a,b⟩:=h;⟨f,a,λt ht=>b t (s t ht)⟩
theorem Ring.not{N:Nat}{S:List T4}{ws:List Str}(h:Ring N S ws):¬Two S:=λ⟨f,a,b⟩=>Qu h a b
theorem So{N p:Nat}{S:List T4}{x y c x' y':List Str}{t:T4}(hS:InN N S)(nd:(S.map (·.1)).Nodup)(pN:p<N)(ht:t∈S)(lx:Lead S p x t.2.1)(ly:Lead S p y t.2.2.1)(ex:x=c++x')(ey:y=c++y')(hl:x.length=y.length):Ring N S (x'++[t.1]++y'.reverse):=by
 have gx:=Iw nd lx;have gy:=Iw nd ly;rw[ex] at gx;rw[ey] at gy;obtain⟨u,hu,h1⟩:=Mf gx;obtain⟨u',hu',h2⟩:=Mf gy;rw[hu] at hu';cases hu';have hl':x'.length=y'.length:=by rw[ex,ey,Qa0,Qa0] at hl;omega
 refine⟨by rw[Qa0,Qa0,Qd3];show (_+1+_) % 2=1;omega,u,Vr hS pN hu,?_⟩;have h3:goF S t.2.1 [t.1]=some t.2.2.1:=Qx (Fe nd ht).1;rw[append_assoc,Jc h1,Jc h3];exact Qy nd h2
theorem ls_nil{N:Nat}(hN:N<=60):lsF N []=List.range N/\∀p,p<N->Am N [] p=[p]:=by
 have hS:InN N []:=λt ht=>by cases ht
 have hp:∀p,p<N->Am N [] p=[p]:=λp hp=>by
  have key:∀v∈Am N [] p,v=p:=λv hv=>by
   obtain⟨_,ws,l⟩:=(A1 hS hp hN).mp hv;cases l with
   |nil=>rfl
   |snoc _ q=>cases q
  have hm:=Fo hS hp hN;have up:=Yj (N:=N) (p:=p) (S:=[]);cases h:Am N [] p with
  |nil=>rw[h] at hm;cases hm
  |cons a l=>
   rw[h] at key up;have ea:=key a (Qb6 ..);cases l with
   |nil=>rw[ea]
   |cons b l=>
    have eb:=key b (Qb4 _ (Qb6 ..));have:=(pairwise_cons.mp up).1 b (Qb6 ..);omega
 refine⟨?_,hp⟩;unfold lsF;refine filter_eq_self.mpr λp h=> ?_;rw[hp p (mem_range.mp h)];simp
end Wk
namespace StT
open PySem
def Up(xs:Array Nat):Prop:=xs.toList.Pairwise (·<·)
theorem Up.lt{xs:Array Nat}(h:Up xs){i k a b:Nat}(ik:i<k)(ha:xs[i]? =some a)(hb:xs[k]? =some b):a<b:=by
 rw[<-Qe3] at ha hb;obtain⟨h1,e1⟩:=List.getElem?_eq_some_iff.mp ha;obtain⟨h2,e2⟩:=List.getElem?_eq_some_iff.mp hb;rw[<-e1,<-e2];exact List.pairwise_iff_getElem.mp h i k h1 h2 ik
theorem Vq{xs:Array Nat}{j:Nat}(h:Up xs):∀(fuel lo hi:Nat),lo<=hi->hi<=xs.size->hi - lo<=fuel->(∀i a,i<lo->xs[i]? =some a->a<j)->(∀i a,hi<=i->xs[i]? =some a->j<=a)->
  SetTable.below.go xs j fuel lo hi<=xs.size/\(∀i a,i<SetTable.below.go xs j fuel lo hi->xs[i]? =some a->a<j)/\∀i a,SetTable.below.go xs j fuel lo hi<=i->xs[i]? =some a->j<=a
 |0,lo,hi,h1,h2,h3,h4,h5=>by
  have:lo=hi:=by omega
  subst this;exact⟨h2,h4,h5⟩
 |fuel+1,lo,hi,h1,h2,h3,h4,h5=>by
  unfold SetTable.below.go;by_cases c:lo<hi
  ·rw[Qa3 c];have hm:(lo+hi) / 2<xs.size:=by omega
   have hg:xs[(lo+hi) / 2]? =some (xs.getD ((lo+hi) / 2) j):=by
    rw[Array.getD_eq_getD_getElem?,Array.getElem?_eq_getElem hm];rfl
   dsimp only;by_cases d:xs.getD ((lo+hi) / 2) j<j
   ·rw[Qa3 d];refine Vq h fuel _ _ (by omega) h2 (by omega) (λi a hi' ha=> ?_) h5;rcases Nat.lt_or_eq_of_le (show i<=(lo+hi) / 2 by omega) with z|z
    ·exact Nat.lt_trans (h.lt z ha hg) d
    ·rw[z,hg] at ha;cases ha;exact d
   ·rw[Qa2 d];refine Vq h fuel _ _ (by omega) (by exact le_of_lt (by assumption)) (by omega) h4 (λi a hi' ha=> ?_);rcases Nat.lt_or_eq_of_le hi' with z|z
    ·have:=h.lt z hg ha;omega
    ·rw[<-z,hg] at ha;cases ha;exact Nat.not_lt.mp (by assumption)
  ·rw[Qa2 c];have:lo=hi:=by omega
   subst this;exact⟨h2,h4,h5⟩
theorem O2{xs:Array Nat}(h:Up xs)(j:Nat):SetTable.below xs j<=xs.size/\(∀i a,i<SetTable.below xs j->xs[i]? =some a->a<j)/\∀i a,SetTable.below xs j<=i->xs[i]? =some a->j<=a:=
 Vq h xs.size 0 xs.size (Qb8 _) (le_refl _) (by exact le_refl _) (λi a hi=>absurd hi (by omega)) λi a hi ha=>by
  have:=(Array.getElem?_eq_some_iff.mp ha).1;omega
theorem Nk{α:Type}(xs:Array α)(p:Nat)(x:α)(hp:p<=xs.size):(SetTable.insertAt xs p x).toList=xs.toList.take p++[x]++xs.toList.drop p:=by
 unfold SetTable.insertAt;rw[Array.toList_append,Array.toList_push]
 congr 1
 ·congr 1
  rw[Array.toList_extract];simp
 ·rw[Array.toList_extract];simp only[List.extract_eq_drop_take];exact List.take_of_length_le (by rw[length_drop,length_toList];exact le_refl _)
theorem P6{xs:Array Nat}{j:Nat}(h:Up xs)(hj:j∈xs.toList):xs[SetTable.below xs j]? =some j:=by
 obtain⟨i,hi⟩:=List.getElem?_of_mem hj;rw[Qe3] at hi;obtain⟨b1,b2,b3⟩:=O2 h j;have h1:SetTable.below xs j<=i:=by
  rcases lt_or_ge i (SetTable.below xs j) with z|z
  ·exact absurd (b2 i j z hi) (lt_irrefl _)
  ·exact z
 have hl:SetTable.below xs j<xs.size:=lt_of_le_of_lt h1 (Array.getElem?_eq_some_iff.mp hi).1;have hb:=Array.getElem?_eq_getElem hl;have h2:=b3 _ _ (le_refl _) hb;rcases Nat.lt_or_eq_of_le h1 with z|z
 ·have:=h.lt z hb hi;omega
 ·rw[z];exact hi
theorem Tm{xs:Array Nat}{j:Nat}(h:Up xs)(hj:j ∉ xs.toList):Up (SetTable.insertAt xs (SetTable.below xs j) j):=by
 obtain⟨b1,b2,b3⟩:=O2 h j;unfold Up;rw[Nk xs _ j b1];have lo:∀a∈xs.toList.take (SetTable.below xs j),a<j:=λa ha=>by
  obtain⟨i,hi⟩:=List.getElem?_of_mem ha;rw[List.getElem?_take] at hi;split at hi
  ·rename_i z;rw[Qe3] at hi;exact b2 i a z hi
  ·cases hi
 have hi:∀a∈xs.toList.drop (SetTable.below xs j),j<a:=λa ha=>by
  have hm:a∈xs.toList:=List.mem_of_mem_drop ha;obtain⟨i,hi⟩:=List.getElem?_of_mem ha;rw[List.getElem?_drop,Qe3] at hi;have:=b3 _ a (le_add_right _ _) hi;rcases Nat.lt_or_eq_of_le this with z|z
  ·exact z
  ·exact absurd (z▸hm) hj
 refine pairwise_append.mpr ⟨pairwise_append.mpr ⟨Pairwise.sublist (List.take_sublist ..) h,List.pairwise_singleton ..,λa ha b hb=> ?_⟩,Pairwise.sublist (List.drop_sublist ..) h,λa ha b hb=> ?_⟩
 ·rw[mem_singleton.mp hb];exact lo a ha
 ·rcases mem_append.mp ha with z|z
  ·exact Nat.lt_trans (lo a z) (hi b hb)
  ·rw[mem_singleton.mp z];exact hi b hb
structure TOk(t:SetTable)(b:Bool):Prop where
 up:Up t.place
 nod:t.dummies= #[]
 led:t.led=b
theorem TOk.fresh(b:Bool):TOk (SetTable.fresh 0 0 b) b:=⟨Pairwise.nil,rfl,rfl⟩
theorem TOk.plain{t:SetTable}{b p:Bool}(h:TOk t b):TOk {t with plain:=p} b:=⟨h.up,h.nod,h.led⟩
theorem TOk.standIn{t:SetTable}{b:Bool}(h:TOk t b)(n:Nat):TOk (t.standIn n) b:=by
 refine⟨?_,rfl,h.led⟩;show Up (Array.range n);unfold Up;rw[Array.toList_range];exact Qf2
theorem Ru(j:Nat):SetTable.has #[] j=false:=rfl
theorem Qj{t:SetTable}{b:Bool}(h:TOk t b)(j:Nat):(t.slot j= .empty/\j ∉ t.place.toList)\/∃i,t.slot j= .live i:=by
 unfold SetTable.slot;dsimp only;by_cases c:(t.place[SetTable.below t.place j]? ==some j)=true
 ·rw[Qa3 c];exact .inr ⟨_,rfl⟩
 ·rw[Qa2 c,h.nod,Ru];refine .inl ⟨rfl,λhm=>c ?_⟩;rw[P6 h.up hm];simp
theorem Kv(t:SetTable)(p:SetTable.Probe):(t.advance p).dummy=p.dummy:=by
 unfold SetTable.advance;split
 ·rfl
 ·rfl
theorem Jm{t:SetTable}{b:Bool}(h:TOk t b){hashAt:Nat->Int}{hh:Int}{j:Nat}{d:Option Nat}:∀(fuel:Nat) (p:SetTable.Probe),p.dummy=none->SetTable.probe.go t hashAt hh fuel p=some (.empty j d)->d=none/\j ∉ t.place.toList
 |0,p,_,e=>by simp[SetTable.probe.go] at e
 |fuel+1,p,hp,e=>by
  unfold SetTable.probe.go at e;rcases Qj h p.j with⟨s,hn⟩|⟨i,s⟩
  ·rw[s] at e;simp only[Option.some.injEq,SetTable.Met.empty.injEq] at e;exact⟨by rw[<-e.2,hp],by rw[<-e.1];exact hn⟩
  ·rw[s] at e;dsimp only at e;split at e
   ·cases e
   ·exact Jm h fuel _ (by rw[Kv];exact hp) e
theorem Yk{t:SetTable}{b:Bool}(h:TOk t b){hh:Int}{s:Nat}{wd:Bool}(e:t.freeSlot hh=some (s,wd)):s ∉ t.place.toList:=by
 unfold SetTable.freeSlot at e;split at e
 ·rename_i j d q;obtain⟨rfl,hn⟩:=Jm h _ _ rfl q;simp only[getD_none,Option.some.injEq,Prod.mk.injEq] at e;rw[<-e.1];exact hn
 ·cases e
theorem TOk.or{t:SetTable}{b:Bool}(h:TOk t b)(n:Nat):TOk (t.orStandIn n) b:=by
 unfold SetTable.orStandIn;split
 ·exact h
 ·exact h.standIn n
theorem Tg{t:SetTable}{b:Bool}(h:TOk t b)(es:Array (Int×Value))(hh:Int)(x:Value):TOk (layNew t es hh x).2.1 b:=by
 unfold layNew;split
 ·rename_i s wd e;refine TOk.or (t:=(t.put s).1) ⟨Tm h.up (Yk h e),?_,h.led⟩ _;show (if SetTable.has t.dummies s then _ else t.dummies)= #[];rw[h.nod,Ru];rfl
 ·exact h.standIn _
theorem X2{mask:Nat}{owner:Array (Option Nat)}:Up ((((List.range (mask+1)).filterMap λj=>(owner.getD j none).map (j,·)).map (·.1)).toArray):=by
 unfold Up;rw[List.toList_toArray];have:(((List.range (mask+1)).filterMap λj=>(owner.getD j none).map (j,·)).map (·.1)).Sublist (List.range (mask+1)):=by
  generalize List.range (mask+1)=l
  induction l with
  |nil=>exact List.Sublist.refl _
  |cons a l ih=>
   rw[Qf3];cases owner.getD a none with
   |none=>exact ih.cons a
   |some k=>exact ih.cons₂ a
 exact Pairwise.sublist this Qf2
theorem Vw{t:SetTable}{b:Bool}(h:TOk t b)(es:Array (Int×Value))(wanted:Nat):TOk (relayAll t es wanted).2.1 b:=by
 unfold relayAll;split
 ·rename_i t' order e;have ht:TOk t' b:=by
   unfold SetTable.relaid SetTable.laid at e;cases q:SetTable.layClean (SetTable.sizeAbove wanted - 1) (es.map (·.1)) with
   |none=>rw[q] at e;cases e
   |some owner=>
    rw[q] at e;have e:some (({mask:=SetTable.sizeAbove wanted - 1,place:=(((List.range (SetTable.sizeAbove wanted - 1+1)).filterMap λj=>(owner.getD j none).map (j,·)).map (·.1)).toArray,dummies:= #[],finger:=t.finger,led:=t.led,moves:=t.movedTo (SetTable.sizeAbove wanted - 1),plain:=t.plain}:SetTable),(((List.range (SetTable.sizeAbove wanted - 1+1)).filterMap λj=>(owner.getD j none).map (j,·)).map (·.2)).toArray)=some (t',order):=e;injection e with e;injection e with e _;rw[<-e];exact⟨X2,rfl,h.led⟩
  dsimp only;split
  ·exact ht
  ·exact h.standIn _
 ·exact h.standIn _
section
variable{prog:Program}{w:World}{K:Type}[DecidableEq K]{knd:KeyKind prog w K}{A:Around}{E:Value->Shared->Prop}{s:Shared}
def Dis(knd:KeyKind prog w K)(l:List (Int×Value)):Prop:=l.Pairwise λe e'=>∀k,¬(knd.is k e.2=true/\knd.is k e'.2=true)
theorem Dis.perm{l l':List (Int×Value)}(h:Dis knd l)(p:l'.Perm l):Dis knd l':=(p.pairwise_iff λ{x y} z k c=>z k ⟨c.2,c.1⟩).mpr h
theorem Dis.push{l:List (Int×Value)}{S:K->Bool}(h:Dis knd l)(mem:∀k,S k=true↔∃e∈l,knd.is k e.2=true){k:K}{x:Value}{i:Int}(hk:knd.is k x=true)(hS:S k=false):Dis knd (l++[(i,x)]):=by
 refine pairwise_append.mpr ⟨h,List.pairwise_singleton ..,λe he e' he' k' c=> ?_⟩;rw[mem_singleton.mp he'] at c;have:=knd.inj x k' k c.2 hk;subst this;rw[(mem k').mpr ⟨e,he,c.1⟩] at hS;cases hS
def SetU(knd:KeyKind prog w K)(h:Heap)(a:Addr)(S:K->Bool)(n:Nat)(b:Bool):Prop:=∃o es ep t,h.get? a=some o/\o.ExactSet/\o.data= .set es ep t/\ElemsOf knd es.toList/\(∀k,S k=true↔∃e∈es.toList,knd.is k e.2=true)/\es.size<scanBound/\t.fits es.size=true/\es.size=n/\TOk t b/\Dis knd es.toList
theorem SetU.congr{h:Heap}{a:Addr}{S S':K->Bool}{n n':Nat}{b:Bool}(x:SetU knd h a S n b)(e:∀k,S k=S' k)(en:n=n'):SetU knd h a S' n' b:=by
 obtain rfl:S=S':=funext e;subst en;exact x
theorem SetU.put{h:Heap}{a:Addr}{o:Obj}{es:Array (Int×Value)}{ep:Nat}{t:SetTable}{b:Bool}(ho:h.get? a=some o)(hex:o.ExactSet)(hd:o.data= .set es ep t){es':Array (Int×Value)}{t':SetTable}{S':K->Bool}(el:ElemsOf knd es'.toList)(mem:∀k,S' k=true↔∃e∈es'.toList,knd.is k e.2=true)(sz:es'.size<scanBound)(fit:t'.fits es'.size=true)(ok:TOk t' b)(dis:Dis knd es'.toList):
  (h.update a (Obj.putSet es' t')).get? a=some {o with data:= .set es' (ep+1) t'}/\SetU knd (h.update a (Obj.putSet es' t')) a S' es'.size b:=by
 have z:=(SetOf_store (knd:=knd) (es':=es') (t':=t') (S':=S') ho hex hd el mem sz fit).1;exact⟨z,_,es',ep+1,t',z,hex,rfl,el,mem,sz,fit,rfl,ok,dis⟩
theorem N6{g:Bool->Sem Unit}(hg:∀(c:Bool) (s1:Shared) (Q1:Unit->Shared->Prop),Q1 () s1->wpAny (model prog w) A (g c) Q1 E s1){a:Addr}{o:Obj}{es:Array (Int×Value)}{ep:Nat}{t:SetTable}{b:Bool}(ho:s.heap.get? a=some o)(hex:o.ExactSet)(hd:o.data= .set es ep t){e1:Array (Int×Value)}{t1:SetTable}{S':K->Bool}(el:ElemsOf knd e1.toList)(mem:∀k,S' k=true↔∃e∈e1.toList,knd.is k e.2=true)(sz:e1.size<scanBound)(fit:t1.fits e1.size=true)(ok:TOk t1 b)(dis:Dis knd e1.toList){wd:Bool}{R:Option Bool->Shared->Prop}(q:∀h',SameBut a s.heap h'->SetU knd h' a S' e1.size b->R (some true) {s with heap:=h'}):
  wpAny (model prog w) A (do
   storeSet a e1 t1
   if (!wd && t1.tooFull)=true then do
    g (relayAll t1 e1 (SetTable.grown e1.size)).2.2
    storeSet a (relayAll t1 e1 (SetTable.grown e1.size)).1 (relayAll t1 e1 (SetTable.grown e1.size)).2.1
    pure (some true)
   else pure (some true)) R E s:=by
 refine Gt (wpAny_storeSet_of ho hd ?_ (fits_of_scanBound sz));obtain⟨ho1,u1⟩:=SetU.put (knd:=knd) ho hex hd el mem sz fit ok dis;have sb1:=SameBut.update s.heap a (Obj.putSet e1 t1);split
 ·have pm:=relayAll_perm t1 e1 (SetTable.grown e1.size);have ft:=relayAll_fits t1 e1 (SetTable.grown e1.size);have tk:=Vw ok e1 (SetTable.grown e1.size);generalize relayAll t1 e1 (SetTable.grown e1.size)=Rl at pm ft tk ⊢;obtain⟨e2,t2,gv⟩:=Rl;dsimp only at pm ft tk ⊢;have sz2:e2.size=e1.size:=by rw[<-length_toList,pm.length_eq,length_toList]
  have mem2:∀k,S' k=true↔∃e∈e2.toList,knd.is k e.2=true:=λk=>by
   rw[mem k];exact⟨λ⟨e,he,z⟩=>⟨e,pm.mem_iff.mpr he,z⟩,λ⟨e,he,z⟩=>⟨e,pm.mem_iff.mp he,z⟩⟩
  refine Gt (hg _ _ _ (Gt (wpAny_storeSet_of ho1 rfl ?_ (fits_of_scanBound (by omega)))));have u2:=(SetU.put (knd:=knd) ho1 hex rfl (el.perm pm) mem2 (by omega) ft tk (dis.perm pm)).2;rw[sz2] at u2;exact Qa1 (q _ (sb1.trans (SameBut.update _ a _)) u2)
 ·exact Qa1 (q _ sb1 u1)
theorem add_ok{a:Addr}{S:K->Bool}{n:Nat}{b:Bool}{k:K}{x:Value}{Q:Bool->Shared->Prop}(hk:knd.is k x=true)(hx:x.scannable=true)(hS:SetU knd s.heap a S n b)(hr:n+1<scanBound)(q:∀h',SameBut a s.heap h'->SetU knd h' a (λk'=>S k'||decide (k'=k)) (if S k then n else n+1) b->Q (!S k) {s with heap:=h'}):wpAny (model prog w) A (setAddHashed a x (knd.hash k)) Q E s:=by
 obtain⟨o,es,ep,t,ho,hex,hd,el,mem,sz,fit,hn,ok,dis⟩:=hS;unfold setAddHashed setAddHashedIn;refine Qc7 (Gt (wpAny_setState_of ho hd fit ?_));dsimp only;rw[byScan_of hx sz el];simp only[↓reduceIte];unfold setAddByScan;refine Gt (Gt (Qe4 (Gt (wpAny_setScan_of hk ho hd fit el ?_))));cases fi:List.findIdx? (λe=>knd.is k e.2) es.toList with
 |some j=>
  dsimp only;obtain⟨hj,pj,_⟩:=List.findIdx?_eq_some_iff_getElem.mp fi;have Sk:S k=true:=(mem k).mpr ⟨es.toList[j],getElem_mem hj,pj⟩;refine Qa1 (Qa1 ?_);have z:=q s.heap (SameBut.refl a s.heap) ⟨o,es,ep,t,ho,hex,hd,el,λk'=>by
   rw[Bool.or_eq_true,Qa4,<-mem k'];constructor
   ·rintro(h|rfl)
    ·exact h
    ·exact Sk
   ·exact .inl,sz,fit,by rw[Sk];exact hn,ok,dis⟩
  rw[Sk] at z;have es:s={s with heap:=s.heap}:=by cases s;rfl
  rw[es];exact z
 |none=>
  dsimp only;have Sk:S k=false:=by
   cases c:S k with
   |false=>rfl
   |true=>
    obtain⟨e,he,z⟩:=(mem k).mp c;have:=List.findIdx?_eq_none_iff.mp fi e he;rw[z] at this;cases this
  have gw:∀(c:Bool) {s1:Shared} {Q1:Unit->Shared->Prop},Q1 () s1->wpAny (model prog w) A (match c with|true=>rule "set.scan.the-table-gave-way"|false=>pure ()) Q1 E s1:=λc s1 Q1 h1=>by
   cases c
   ·exact Qa1 h1
   ·exact Qe4 h1
  have pm:=layNew_perm t es (knd.hash k) x;have ft:=layNew_fits t es (knd.hash k) x;have tk:=Tg ok es (knd.hash k) x;generalize layNew t es (knd.hash k) x=L at pm ft tk ⊢;obtain⟨e1,t1,wd,gv⟩:=L;dsimp only at pm ft tk ⊢;rw[Array.toList_push] at pm;have el1:ElemsOf knd e1.toList:=(el.push hk hx).perm pm;have mem1:=mem_push_iff hk mem pm;have dis1:Dis knd e1.toList:=(dis.push mem hk Sk).perm pm;have sz1:e1.size=n+1:=by rw[<-length_toList,pm.length_eq,Qa0,length_toList,hn];rfl
  have fin:∀h',SameBut a s.heap h'->SetU knd h' a (λk'=>S k'||decide (k'=k)) e1.size b->Q true {s with heap:=h'}:=λh' sb u=>by
   have z:=q h' sb;rw[Sk] at z;rw[sz1] at u;exact z u
  refine Gt (gw _ ?_);split
  ·refine Gt ?_;rw[hashByValue_scannable 8 hx];refine Qa1 ?_;refine N6 (b:=b) ?_ ho hex hd el1 mem1 (by omega) ?_ ?_ dis1 λh' sb u=> ?_
   ·intro c s1 Q1 h1;cases c<;> first|exact Qa1 h1|exact Qe4 h1
   ·split
    ·exact ft
    ·exact SetTable.fits_plain_off ft
   ·split
    ·exact tk
    ·exact tk.plain
   ·dsimp only;exact Qa1 (fin h' sb u)
  ·refine Gt (Qa1 ?_);simp only[↓reduceIte];refine N6 (b:=b) ?_ ho hex hd el1 mem1 (by omega) ft tk dis1 λh' sb u=> ?_
   ·intro c s1 Q1 h1;cases c<;> first|exact Qa1 h1|exact Qe4 h1
   ·dsimp only;exact Qa1 (fin h' sb u)
end
end StT
namespace StT
open PySem PyProof.Rows
section
variable{prog:Program}{w:World}{K:Type}[DecidableEq K]{knd:KeyKind prog w K}{A:Around}{E:Value->Shared->Prop}{s:Shared}
theorem SetU.at{h h':Heap}{a:Addr}{S:K->Bool}{n:Nat}{b:Bool}(x:SetU knd h a S n b)(f:∀o,h.get? a=some o->h'.get? a=some o):SetU knd h' a S n b:=let ⟨o,es,ep,t,ho,r⟩:=x;⟨o,es,ep,t,f o ho,r⟩
def J5(val:Nat->K)(i:Nat)(k:K):Bool:=(List.range i).any λj=>decide (k=val j)
theorem Wt(val:Nat->K)(i:Nat)(k:K):J5 val (i+1) k=(J5 val i k||decide (k=val i)):=by
 unfold J5;rw[range_succ,List.any_append];simp
end
section
variable{prog:Program}{w:World}{K:Type}[DecidableEq K]{knd:KeyKind prog w K}{A:Around}{R:Result->Shared->Prop}{I:Addr}{fp wr:List Addr}{G:Array GenState->Array GenState->Prop}{n:Nat}{P:Nat->Value->Prop}{St:Nat->Shared->Prop}
theorem Ob(W:WalksS prog w A.in1 I fp wr G n P St){T:Addr}(hT:T ∉ fp){val:Nat->K}(hv:∀i v,P i v->knd.is (val i) v=true/\v.scannable=true)(hb:n+1<scanBound){b:Bool}:
  ∀(k i:Nat) (s:Shared),n - i=k->i<=n->St i s->(∃m,m<=i/\SetU knd s.heap T (J5 val i) m b)->
   (∀s',Moved (T::wr) G s s'->(∃m,m<=n/\SetU knd s'.heap T (J5 val n) m b)->R (.ok (.ret .none)) s')->
   codeAny (model prog w) A (.builtin "set.update.loop" ⟨[.ref T,.ref I],[]⟩) R s
 |0,i,s,hk,hi,st,⟨m,mi,u⟩,q=>by
  obtain rfl:i=n:=by omega
  have nw:T ∉ wr:=λz=>hT (W.sub _ z);refine codeAny_builtin F.entry_set_update_loop ?_;rw[Around.under_plainId F.plain_set_update_loop _];refine Gt (m:=pyNext (.ref I)) (W.done s _ _ st λs' mv=> ?_);exact Qa1 (q s' (mv.mono λx hx=>Qb4 _ hx) ⟨m,mi,u.at λo e=>mv.heap T o nw e⟩)
 |k+1,i,s,hk,hi,st,⟨m,mi,u⟩,q=>by
  have lt:i<n:=by omega
  have nw:T ∉ wr:=λz=>hT (W.sub _ z);refine codeAny_builtin F.entry_set_update_loop ?_;rw[Around.under_plainId F.plain_set_update_loop _];refine Gt (m:=pyNext (.ref I)) (W.item i s _ _ lt st λv s' pv st' mv=> ?_);obtain⟨hk1,hk2⟩:=hv i v pv;have u':=u.at (h':=s'.heap) λo e=>mv.heap T o nw e;refine Gt (m:=holding [v] (setAdd T v)) (Qc7 ?_);unfold setAdd;refine Qc7 (Gt (knd.pyHash hk1 ?_));refine add_ok (s:={s' with toks:=s'.toks+1}) hk1 hk2 u' (by omega) λh' sb u2=> ?_;have mv2:Moved (T::wr) G s {s' with heap:=h',toks:=s'.toks+1}:=(mv.mono λx hx=>Qb4 _ hx).then_heap (le_succ _) λx o hx e=>by
   rw[sb.2 x λz=>hx (z▸Qb6)];exact e
  refine Qa1 ⟨plainId_quiet F.plain_set_update_loop _,Ob W hT hv hb k (i+1) _ (by omega) lt (W.frame _ s' _ _ st' (le_succ _) λx hx o e=> ?_) ⟨if J5 val i (val i) then m else m+1,?_,u2.congr (λk'=>(Wt val i k').symm) rfl⟩ λs'' m'' u''=>q s'' (Moved.trans W.gtrans mv2 m'') u''⟩
  ·rw[sb.2 x λz=>hT (z▸hx)];exact e
  ·split<;> omega
end
section
variable{prog:Program}{w:World}{K:Type}[DecidableEq K]{knd:KeyKind prog w K}{A:Around}{E:Value->Shared->Prop}{s:Shared}
def byT(w:World):Bool:=w.params.followText "set-order"
theorem Yg(a:Value){Q1:Value->Shared->Prop}(q:Q1 (.ref s.heap.objs.size) {s with heap:=s.heap.push {cls:= .type "set",dict:=none,data:= .set #[] 0 (.fresh 0 0 (!byT w))}}):
  codeAny (model prog w) A (.call (.builtin "set.__new__") ⟨[.type "set",a],[]⟩) (wants Q1 E) s:=by
 refine codeAny_call_builtin F.plain_set_new F.entry_set_new (wpAny_of_eq (F.newCall_set_1 a) ?_);unfold Builtin.«set.__new__» Builtin.Frozenset.newClass;have hsub:=sub_set_self;obtain⟨hp,g,d,tk,os⟩:=s;dsimp only
 wp_walk
 refine wpAny_askSetting (Qa1 ?_);dsimp only;simp only[newObj];exact Gt (wpAny_alloc (Qa1 (Qa1 q)))
end
section
variable{prog:Program}{w:World}{K:Type}[DecidableEq K]{knd:KeyKind prog w K}{A:Around}{E:Value->Shared->Prop}{s:Shared}
theorem Ky{l:Addr}{items:Array Value}{Q:Value->Shared->Prop}{val:Nat->K}(hh:A.handled=none)(hl:s.heap.IsList l items)(hv:∀i v,items[i]? =some v->knd.is (val i) v=true/\v.scannable=true)(hb:items.size+1<scanBound)(q:∀(h':Heap) (tk m:Nat),m<=items.size->SetU knd h' s.heap.objs.size (J5 val items.size) m (!byT w)->(∀b o,s.heap.get? b=some o->h'.get? b=some o)->Q (.ref s.heap.objs.size) {s with heap:=h',toks:=tk}):wpAny (model prog w) A (call (.type "set") [.ref l]) Q E s:=by
 have cs:=F.called_set;obtain⟨c,tl,m1⟩:=cs.mro;have m2:=cs.made;have m3:=cs.sub;refine wpAny_call (codeAny_of_tree (Qa1 ⟨Code.quiet_builtin _ (by decide+kernel),codeAny_builtin F.entry_type_call ?_⟩));rw[Around.under_plain (weight_type_call_type "set" [.ref l] []) rfl];have m4:=cs.notType;have m5:=cs.canCreate;have m6:=F.typeCall_set_1 (.ref l)
 repeat (any_goals (first|assumption|wp_step))
 have hN:(s.heap.push {cls:= .type "set",dict:=none,data:= .set #[] 0 (.fresh 0 0 (!byT w))}).get? s.heap.objs.size=some {cls:= .type "set",dict:=none,data:= .set #[] 0 (.fresh 0 0 (!byT w))}:=Qa7 _ rfl;refine codeAny_mono (Yg (.ref l) (E:=E) (Q1:=λv t=>v= .ref s.heap.objs.size/\t={s with heap:=s.heap.push {cls:= .type "set",dict:=none,data:= .set #[] 0 (.fresh 0 0 (!byT w))}}) ⟨rfl,rfl⟩) λr1 t1 z1=> ?_;rcases r1 with e1|f1
 ·exact z1
 cases f1
 case ret v1=>
  obtain⟨rfl,rfl⟩:=z1;have tS:Shared.TypeIs {s with heap:=s.heap.push {cls:= .type "set",dict:=none,data:= .set #[] 0 (.fresh 0 0 (!byT w))}} (.ref s.heap.objs.size) "set":=⟨_,hN,rfl⟩
  have m7:=cs.init.lookup;have m8:=cs.init.bind (.ref s.heap.objs.size)
  repeat (any_goals (first|assumption|wp_step))
  refine codeAny_mono (codeAny_call_builtin (R:=wants (λv t=>v= .none/\∃h' tk m,t={s with heap:=h',toks:=tk}/\m<=items.size/\SetU knd h' s.heap.objs.size (J5 val items.size) m (!byT w)/\∀b o,s.heap.get? b=some o->h'.get? b=some o) E) cs.init.plain F.entry_set_init (check_set_init_1 tS ?_)) λr2 t2 z2=> ?_
  ·obtain⟨⟨c0,d0,da0,s0⟩,g0,hc0,n0,hd0⟩:=id hl;simp only at hc0 hd0;subst hc0;subst hd0;have g1:(s.heap.push {cls:= .type "set",dict:=none,data:= .set #[] 0 (.fresh 0 0 (!byT w))}).get? l=some {cls:= .type "list",dict:=d0,data:= .seq items n0,slots:=s0}:=Lt _ g0;have a1:=F.sub_list_set;have a2:=F.sub_list_frozenset;have a3:(Value.type "list"==Value.type "dict")=false:=by decide
   have hl1:(s.heap.push {cls:= .type "set",dict:=none,data:= .set #[] 0 (.fresh 0 0 (!byT w))}).IsList l items:=⟨_,g1,rfl,n0,rfl⟩
   unfold Builtin.«set.__init__» noKeywords Builtin.Frozenset.updateFrom;generalize hI:pyIter=PI
   wp_walk
   subst hI;refine wpAny_pyIter_list hl1 (Gt (wpAny_runValue ?_));have lS:l<s.heap.objs.size:=Qa8 g0;have h3:A.in1.in1.in1.handled=none:=by simp[hh]
   have nI:l≠(s.heap.push {cls:= .type "set",dict:=none,data:= .set #[] 0 (.fresh 0 0 (!byT w))}).objs.size:=by
    rw[size_push];exact ne_of_lt (Qd6 lS)
   have nS:s.heap.objs.size ∉ [(s.heap.push {cls:= .type "set",dict:=none,data:= .set #[] 0 (.fresh 0 0 (!byT w))}).objs.size,l]:=by
    rw[size_push];simp only[Qa9,not_mem_nil,or_false,not_or];exact⟨ne_of_lt (lt_succ_self _),ne_of_gt lS⟩
   refine Ob ((Walks.list h3 _ l nI items).toS) nS (val:=val) (b:= !byT w) hv hb (items.size - 0) 0 _ (by omega) (Qb8 _) ⟨⟨_,Qa7 _ rfl,rfl,rfl⟩,hl1.push _⟩ ⟨0,le_refl _,?_⟩ λt mv ⟨m,mi,u⟩=> ?_
   ·exact⟨_,#[],0,_,Lt _ hN,⟨rfl,rfl,rfl⟩,rfl,λe he=>(by simp at he),λk=>(by simp[J5]),by unfold scanBound;decide,rfl,rfl,TOk.fresh _,Pairwise.nil⟩
   ·obtain⟨h',g',d',tk',os'⟩:=t;obtain rfl:g'=s.gens:=mv.gens;obtain rfl:d'=s.drawn:=mv.drawn;obtain rfl:os'=s.os:=mv.os;refine Qa1 (Qa1 ⟨rfl,h',tk',m,rfl,mi,u,λb o e=> ?_⟩);have lb:b<s.heap.objs.size:=Qa8 e;refine mv.heap b o ?_ (Lt _ (Lt _ e));rw[size_push];simp only[Qa9,not_mem_nil,or_false,not_or];exact⟨ne_of_lt lb,ne_of_lt (Qd6 lb)⟩
  ·rcases r2 with e2|f2
   ·exact z2
   cases f2
   case ret v2=>
    obtain⟨rfl,h',tk,m,rfl,mi,u,kp⟩:=z2
    repeat (any_goals (first|assumption|wp_step))
    exact q h' tk m mi u kp
   all_goals exact z2.elim
 all_goals exact z1.elim
end
end StT
namespace StT
open PySem PyProof.Rows L2
theorem Rq{prog:Program}{w:World}:∀{l:List (Int×Value)},ElemsOf (intKind prog w) l->Dis (intKind prog w) l->∃ks:List Int,Vals (ks.map V.int) (l.map (·.2))/\ks.Nodup/\∀k,k∈ks↔∃e∈l,(intKind prog w).is k e.2=true
 |[],_,_=>⟨[],.nil,nodup_nil,λk=>by simp⟩
 |e::l,h,d=>by
  obtain⟨ks,v,nd,mem⟩:=Rq (l:=l) (λx hx=>h x (Qb4 _ hx)) (Pairwise.tail d);obtain⟨⟨k,hk,_⟩,_⟩:=h e (Qb6 ..);obtain⟨t,et⟩:=Value.isInt_shape hk;refine⟨k::ks,.cons ⟨t,et⟩ v,Qd2.mpr ⟨λhm=> ?_,nd⟩,λk'=> ?_⟩
  ·obtain⟨e',he',z⟩:=(mem k).mp hm;exact List.rel_of_pairwise_cons d he' k ⟨hk,z⟩
  ·rw[Qa9,mem k'];constructor
   ·rintro(rfl|⟨e',he',z⟩)
    ·exact⟨e,Qb6 ..,hk⟩
    ·exact⟨e',Qb4 _ he',z⟩
   ·rintro⟨e',he',z⟩;rcases Qa9.mp he' with rfl|he'
    ·exact .inl ((intKind prog w).inj e'.2 k' k z hk)
    ·exact .inr ⟨e',he',z⟩
end StT
namespace StT
open PySem PySem.W PyProof.Rows L2 Srt
theorem vals_k{ks:List Int}{vs:List Value}(v:Vals (ks.map V.int) vs){i:Nat}(hi:i<ks.length):∃t,vs.getD i Value.none= .int (ks.getD i 0) t:=by
 obtain⟨a,ha,t,rfl⟩:=Vals.get v (i:=i) (x:=V.int (ks.getD i 0)) (by simp[hi]);exact⟨t,by simp[getD,ha]⟩
end StT
namespace L2
open PySem PySem.W PyProof.Rows StT
section
variable{X:Cx}{e:Expr}{te:TE}{p p2 pos pos2:Pos}
theorem Yt{ns:List Int}{k:Int}:J5 (λi=>ns.getD i 0) ns.length k=true↔k∈ns:=by
 unfold J5;rw[List.any_eq_true];constructor
 ·rintro⟨j,hj,h⟩;have hj:=mem_range.mp hj;rw[Qa4] at h;rw[h];show ns.getD j 0∈ns;rw[Qa5,getElem?_eq_getElem hj];exact getElem_mem hj
 ·intro h;obtain⟨j,hj,rfl⟩:=List.mem_iff_getElem.mp h;refine⟨j,mem_range.mpr hj,?_⟩;rw[Qa4];show ns[j]=ns.getD j 0;rw[Qa5,getElem?_eq_getElem hj];rfl
end
end L2
namespace L2
open PySem PySem.W PySem.Spec PyProof.Rows StT Srt
section
variable{X:Cx}
theorem Pi:∀{ns:List Int} {us:List Value},Vals (ns.map V.int) us->∀y∈us,∃j t',y= .int j t':=by
 intro ns us hv
 induction ns generalizing us with
 |nil=>cases hv;intro y hy;cases hy
 |cons n ns ih=>
  cases hv with
  |cons h tl=>
   intro y hy;rcases Qa9.mp hy with rfl|hy
   ·obtain⟨u,rfl⟩:=h;exact⟨n,u,rfl⟩
   ·exact ih tl y hy
def isIv(i:Int):Value->Bool
 | .int j _=>j==i
 |_=>false
theorem Uu{i:Int}:∀{ns:List Int} {us:List Value},Vals (ns.map V.int) us->us.countP (isIv i)=ns.count i
 |[],_,.nil=>rfl
 |n::ns,_,.cons h t=>by
  obtain⟨u,rfl⟩:=h;rw[List.countP_cons,List.count_cons,Uu t];rfl
inductive Oc(x:V)(vs:List V)(H:Hp)(Q:VK):Prop
 |mk (a:Addr) (ns:List Int) (i:Int):(x= .ref a)->(vs=[.int i])->(H a=some (.lst (ns.map V.int)))->(Q (.int (ns.count i:Nat)) H)->Oc x vs H Q
def Zt:V->List V->Hp->VK->Prop:=λx vs H Q=>Oc x vs H Q
theorem Sz:MtM X "list.count" Zt:=by
 intro pins s σ H x xs v us Q I rx r h;obtain⟨a,ns,i,rfl,rfl,ha,q⟩:=h;cases rx;obtain⟨u,rfl,⟨t,rfl⟩⟩:=Dw r;obtain⟨hz,its,n,rv,hlen,ho⟩:=I.lstM ha;refine call_meets PySem.F.slot_list_count ⟨_,ho,rfl⟩ PySem.F.entry_list_count (PySem.F.args_list_count_2 _ _) (SeqAt.list_countAt a its.toArray n none #[] (.int i t) (isIv i)) ⟨ho,?_,?_⟩
 ·intro y hy;have hy:y∈its:=by simpa using hy
  obtain⟨j,t',rfl⟩:=Pi rv y hy;exact SeqAt.EqAt.int_int j t' i t
 ·refine⟨.int _,H,I.tok _,⟨_,rfl⟩,?_⟩;rw[show its.toArray.toList.countP (isIv i)=ns.count i from Uu rv];exact q
end
section
variable{X:Cx}{e:Expr}{te:TE}{p p2 pos pos2:Pos}
inductive O4(H1:Hp)(Q:VK)(x:V):Prop
 |mk (a:Addr) (ns:List Int):(x= .ref a)->(H1 a=some (.lst (ns.map V.int)))->(ns.length<64)->(∀ms:List Int,ms.Nodup->(∀x,x∈ms↔x∈ns)->Q (.int (ms.length:Nat)) H1)->O4 H1 Q x
def X7(te:TE):TE:=λσ H Q=>te σ H λx H1=>O4 H1 Q x
theorem Sq(hc:X.calm=true)(he0:PE X e te)(hg:Gl X "len")(hm:X.mg "len"=none)(hg2:Gl X "set")(hm2:X.mg "set"=none)(hs1:starEach [.Call (.Name "set" p2) [e] [] pos2] X.env=[(false,eval (.Call (.Name "set" p2) [e] [] pos2) X.env)]:=by rfl)(hs2:starEach [e] X.env=[(false,eval e X.env)]:=by rfl):
  PE X (.Call (.Name "len" p) [.Call (.Name "set" p2) [e] [] pos2] [] pos) (X7 te):=by
 intro pins s σ H Q I h;refine Qe8 (Ew I hg hm (show bootBuiltins "len"=some (.builtin "len") by decide+kernel) ?_ (by decide) (by decide));refine PyProof.Rows.callWith_builtin1 (rest:=[]) ?_ hs1 rfl;rw[hs1];show wpAny _ _ (spliced ((false,eval (.Call (.Name "set" p2) [e] [] pos2) X.env)::backTo pos (starEach [] X.env))) _ _ s;refine Calls.spliced_cons ?_;refine Qe8 (Ew I hg2 hm2 (show bootBuiltins "set"=some (.type "set") by decide+kernel) ?_ (by decide) (by decide));refine PyProof.Rows.callWith_type1 (rest:=[]) ?_ hs2 rfl;rw[hs2];show wpAny _ _ (spliced ((false,eval e X.env)::backTo pos2 (starEach [] X.env))) _ _ s;refine Calls.spliced_cons (thn (he0 pins s σ H _ I h) λu s1 ⟨x,H1,I1,r1,q1⟩=>Calls.spliced_nil ?_);obtain⟨a,ns,rfl,hq,h64,q⟩:=q1;cases r1;have hh:X.A.handled=none:=I1.ok.hd hc;have vi:∀{its:List Value},Vals (ns.map V.int) its->∀i v,its.toArray[i]? =some v->(intKind X.prog X.w).is (ns.getD i 0) v=true/\v.scannable=true:=λ{its} rv i v hv=>by
  have le:=rv.length;rw[If] at le;rw[List.getElem?_toArray] at hv;have hi:=(List.getElem?_eq_some_iff.mp hv).1;obtain⟨t,e⟩:=vals_k rv (i:=i) (by omega);rw[Qa5,hv] at e;have e:v= .int (ns.getD i 0) t:=e;rw[e];exact⟨intKind_is _ _ _ _,rfl⟩
 obtain⟨its,rv,ht,hz⟩:=I1.list (SqL.of hq);have le:=rv.length;rw[If] at le;refine Ky (knd:=intKind X.prog X.w) (val:=λi=>ns.getD i 0) hh ht.isList (vi rv) (by rw[size_toArray];unfold scanBound;omega) λh' tk m mi u kp=> ?_;refine Calls.spliced_nil ?_;have ez:its.toArray.size=ns.length:=by rw[size_toArray];exact le.symm
 rw[ez] at mi u;obtain⟨o,es,ep,t,ho,hex,hd,el,mem,sz,fit,hn,ok,dis⟩:=u;obtain⟨ks,kv,knd,kmem⟩:=Rq el dis;have kl:ks.length=es.size:=by
  have:=kv.length;simp only[If,length_toList] at this;assumption
 refine call_len_set (s:={s1 with heap:=h',toks:=tk}) ho hex hd fit (by omega) ?_;refine⟨.int (es.size:Nat),H1,?_,⟨_,rfl⟩,?_⟩
 ·exact(I1.kept kp).tok _
 ·rw[<-kl];exact q ks knd λx=>((kmem x).trans (mem x).symm).trans Yt
end
end L2
namespace L2
open PySem PySem.Spec PyProof.Rows
theorem FnOk.or{P:Program}{w:World}{K:Frag}{mg:Str->Option Value}{base:Heap}{CX:CXT}{k:Nat}{f:Addr}{fd:FuncData}{ps:List Str}{sp sp':Sp}(F:FnOk P w K mg base CX k f fd ps sp)(G:FnOk P w K mg base CX k f fd ps sp'):
  FnOk P w K mg base CX k f fd ps λvs H Q E=>sp vs H Q E\/sp' vs H Q E:=
 ⟨λvs H Q E h=>h.elim (F.len vs H Q E) (G.len vs H Q E),λA outer s H args us vs Q E hr he hb hv h=>h.elim (F.run A outer s H args us vs Q E hr he hb hv) (G.run A outer s H args us vs Q E hr he hb hv)⟩
end L2
namespace Srt
open PySem PySem.W PyProof.Rows L2
section
variable{prog:Program}{w:World}{A:Around}{E:Value->Shared->Prop}{s:Shared}
theorem Z3{C:Bool->Shared->Prop}{u:Value}(h:C true s):wpAny (model prog w) A (eqBool u u) C E s:=by
 unfold eqBool
 try with_reducible refine Qc7 ?_
 rw[Qa3 (beq_self_eq_true u)];exact Gt (Qe4 (Qa1 h))
theorem Oa{b fin:Bool}{C:Bool->Shared->Prop}(h:C fin s):∀(us:List Value) (i:Nat),KatLex prog w A b fin C (us.zip us) i s
 |[],_=>h
 |u::us,i=>kat_cons (Z3 (kat_yes (Oa h us (i+1))))
end
abbrev Pn:=Addr×Str×List V
def nRef(q:Pn):V:= .ref q.1
def d0:Pn:=(0,"",[])
def ltN(ps:List Pn)(i j:Nat):Bool:=ltK (.inr (ps.getD i d0).2.1) (.inr (ps.getD j d0).2.1)
theorem Zk(ps:List Pn):Ord (ltN ps) where
 asym:=λa b h=>by
  unfold ltN at *;generalize (Sum.inr (ps.getD a d0).2.1:Key)=x at *;generalize (Sum.inr (ps.getD b d0).2.1:Key)=y at *;cases e:ltK y x with
  |false=>rfl
  |true=>have:=Qv h e;rw[G7] at this;cases this
 ntr:=λa b c h1 h2=>by
  unfold ltN at *;generalize (Sum.inr (ps.getD a d0).2.1:Key)=x at *;generalize (Sum.inr (ps.getD b d0).2.1:Key)=y at *;generalize (Sum.inr (ps.getD c d0).2.1:Key)=z at *;cases e:ltK x z with
  |false=>rfl
  |true=>
   rcases Rs _ _ h1 with r|r
   ·rw[r,h2] at e;cases e
   ·have:=Qv r e;rw[h2] at this;cases this
theorem N3{X:Cx}{pins:List (Addr×Obj)}{σ:L2.St}{H:Hp}{s:Shared}(I:Inv X pins σ H s):∀(ps:List Pn),(∀q∈ps,SqT X.K H q.1 (.str q.2.1::q.2.2))->
  ∃fs,KatTups s.heap (ps.map λq=>Value.ref q.1) fs/\fs.length=ps.length/\∀v∈fs,∃i t,v=Value.str i t
 |[],_=>⟨[],trivial,rfl,λv h=>nomatch h⟩
 |q::ps,h=>by
  obtain⟨fs,t,l,f⟩:=N3 I ps (λq hq=>h q (.tail _ hq));obtain⟨its,rv,⟨o,ho,hc,n,hd⟩,hz⟩:=I.tuple (h q (.head _));cases rv with
  | @cons _ u _ us ru rr=>
   obtain⟨tt,rfl⟩:=(show ∃t,u=Value.str q.2.1 t from ru)
   refine⟨Value.str q.2.1 tt::fs,.cons ho hc hd (by simp) t,by simp[l],λv hv=> ?_⟩;rcases Qa9.mp hv with rfl|hv
   ·exact⟨_,_,rfl⟩
   ·exact f v hv
theorem Qm{X:Cx}{pins:List (Addr×Obj)}{σ:L2.St}{H:Hp}{s:Shared}(I:Inv X pins σ H s){v:Value}{ps:List Pn}{Q:VK}(hT:∀q∈ps,SqT X.K H q.1 (.str q.2.1::q.2.2))(hn:(ps.map (·.2.1)).Nodup)(h64:ps.length<64)(hcol:∀(Q:List Value->Shared->Prop),(∀h1 t1,(∀b o,s.heap.get? b=some o->h1.get? b=some o)->Q (ps.map λq=>Value.ref q.1) {s with heap:=h1,toks:=t1})->wpAny (model X.prog X.w) X.A.in1 (collect v) Q X.xe s)(h:∀(l:Addr) (ps':List Pn),H l=none->ps'.Perm ps->ps'.Pairwise (λa b=>¬b.2.1.cps.toList<a.2.1.cps.toList)->Q (.ref l) (upd H l (.lst (ps'.map nRef)))):
  wpAny (model X.prog X.w) X.A (call (.builtin "sorted") [v]) (EP X pins σ Q) X.xe s:=by
 have lz:(ps.map λq=>Value.ref q.1).length=ps.length:=If ..;refine Km (κ:=tuples' true) (Zk ps) (λvs=>vs=ps.map λq=>Value.ref q.1) (λvs e=>by rw[e,lz];exact h64) (λQ hq=>hcol Q λh1 t1 k=>hq _ h1 t1 rfl k) ?_ ?_ ?_
 ·rintro vs h' t' rfl k l2 Q hq;rw[lz] at l2;have I':Inv X pins σ H {s with heap:=h',toks:=t'}:=I.kept k;obtain⟨fs,t,l,f⟩:=N3 I' ps hT;refine kat_kind (s:={s with heap:=h',toks:=t'}) (T:=Value.type "str") t (by omega) (λv hv=> ?_) rfl ?_
  ·obtain⟨i,t,rfl⟩:=f v hv;exact Looks.of_pure rfl
  ·have:(Value.type "str" !=Value.type "tuple")=true:=rfl;rw[this];exact hq
 ·rintro vs h' t' rfl k i j C hi hj hC;rw[lz] at hi hj;have I':Inv X pins σ H {s with heap:=h',toks:=t'}:=I.kept k;show wpAny _ _ (keyLt' _ ((ps.map λq=>Value.ref q.1).getD i Value.none) ((ps.map λq=>Value.ref q.1).getD j Value.none)) C _ _;have ei:(ps.map λq=>Value.ref q.1).getD i Value.none=Value.ref ps[i].1:=by simp[hi]
  have ej:(ps.map λq=>Value.ref q.1).getD j Value.none=Value.ref ps[j].1:=by simp[hj]
  have fi:ps.getD i d0=ps[i]:=by simp[hi]
  have fj:ps.getD j d0=ps[j]:=by simp[hj]
  rw[ei,ej];unfold ltN at hC;rw[fi,fj] at hC;obtain⟨ui,ri,⟨oi,hoi,hci,ni,hdi⟩,zi⟩:=I'.tuple (hT ps[i] (getElem_mem hi));by_cases hij:i=j
  ·subst hij;refine kat_lt hoi hdi hoi hdi ?_;have:decide (ui.toArray.size<ui.toArray.size)=false:=by simp
   rw[this];refine Oa ?_ _ 0;have z:ltK (.inr ps[i].2.1) (.inr ps[i].2.1)=false:=G7 _;rw[z] at hC;exact hC
  ·obtain⟨uj,rj,⟨oj,hoj,hcj,nj,hdj⟩,zj⟩:=I'.tuple (hT ps[j] (getElem_mem hj));have ne:¬ps[i].2.1=ps[j].2.1:=λe=>(by
    have pw:=List.pairwise_iff_getElem.mp hn;rcases Nat.lt_or_gt_of_ne hij with q|q
    ·exact absurd (by rw[getElem_map,getElem_map];exact e) (pw i j (by simpa using hi) (by simpa using hj) q)
    ·exact absurd (by rw[getElem_map,getElem_map];exact e.symm) (pw j i (by simpa using hj) (by simpa using hi) q))
   refine kat_lt hoi hdi hoj hdj ?_;cases ri with
   | @cons _ u _ us ru rr=>
    cases rj with
    | @cons _ u' _ us' ru' rr'=>
     obtain⟨t1,rfl⟩:=(show ∃t,u=Value.str ps[i].2.1 t from ru)
     obtain⟨t2,rfl⟩:=(show ∃t,u'=Value.str ps[j].2.1 t from ru')
     refine kat_cons (wpAny_eqBool_str ?_);have:decide (ps[i].2.1=ps[j].2.1)=false:=decide_eq_false ne;rw[this];exact kat_no (oneLt_str hC)
 ·rintro vs p h1 h' t' l e rfl pm st k1 k zl hl;have I:Inv X pins σ H {s with heap:=h1,toks:=t'}:=I.kept k1;have pl:=pm.toList;rw[lz] at pl pm st;have hz:=pm.size;have mem:∀i∈p.toList,i<ps.length:=λi hi=>by simpa using pl.mem_iff.mp hi
  have e1:(p.toList.map λi=>(ps.map λq=>Value.ref q.1).getD i Value.none)=(p.toList.map λi=>ps.getD i d0).map λq=>Value.ref q.1:=by
   rw[map_map];refine map_congr_left λi hi=> ?_;have:=mem i hi;simp[this]
  rw[e1] at hl;have pp:(p.toList.map λi=>ps.getD i d0).Perm ps:=by
   have:=pl.map (λi=>ps.getD i d0)
   rwa [E9] at this
  have pw:(p.toList.map λi=>ps.getD i d0).Pairwise (λa b=>¬b.2.1.cps.toList<a.2.1.cps.toList):=by
   rw[Qe5];refine(st.pairwise hz).imp λ{a b} hab=> ?_;unfold ltN ltK at hab;exact of_decide_eq_false hab
  refine⟨.ref l,_,I.laid (t':=t') (o:= .lst ((p.toList.map λi=>ps.getD i d0).map nRef)) k zl ⟨?_,_,e,On nRef (λq=>Value.ref q.1) (λ_=>rfl) _,hl⟩,rfl,h l _ (I.hok.fresh zl) pp pw⟩;rw[If,pp.length_eq,Qc5];omega
def X6(K:Frag):List V->Hp->VK->Prop:=λxs H Q=>∃(p:Addr) (ps:List Pn),xs=[.ref p]/\SqT K H p (ps.map nRef)/\(∀q∈ps,SqT K H q.1 (.str q.2.1::q.2.2))/\(ps.map (·.2.1)).Nodup/\ps.length<64/\∀(l:Addr) (ps':List Pn),H l=none->ps'.Perm ps->ps'.Pairwise (λa b=>¬b.2.1.cps.toList<a.2.1.cps.toList)->Q (.ref l) (upd H l (.lst (ps'.map nRef)))
theorem call_sortedNt{X:Cx}:Dm X (.builtin "sorted") (X6 X.K):=by
 intro pins s σ H xs us Q I r h;obtain⟨p,ps,rfl,hq,ok,nd,few,q⟩:=h;obtain⟨u,rfl,rx⟩:=Dw r;cases rx;obtain⟨its,rv,hp,hz⟩:=I.tuple hq;have e:its=ps.map λq=>Value.ref q.1:=by
  clear hq hp hz q r ok nd few
  induction ps generalizing its with
  |nil=>cases rv;rfl
  |cons a ps ih=>
   cases rv with
   |cons ru rr=>rw[Qb5,<-ih _ rr];cases ru;rfl
 subst e;refine Qm I ok nd few (λQ hq=>Nd hp (hq _ _ λb o ho=> ?_) (by rw[If,Qc5];omega)) q;have hlt:b<s.heap.objs.size:=Qa8 ho;rw[get?_update_ne _ _ _ _ (ne_of_lt hlt)];exact Lt _ ho
end Srt
namespace K43
open PySem L2 Wk
variable{P:Program}{w:World}{K:Frag}{mg:Str->Option Value}{base:Heap}
def top(i:Nat):Stmt:=PySem.Challenge.pw_joinedever_k43_answers_one_by_one.main.body.getD i (.Pass ⟨0,0,0,0⟩)
abbrev Ey:Stmt:=top 1
abbrev V1:Stmt:=top 2
abbrev Ra:Stmt:=top 3
abbrev L7:Stmt:=top 4
abbrev Ko:Stmt:=top 5
abbrev Mk:Stmt:=top 10
abbrev Qt:Stmt:=top 11
abbrev Gw:Stmt:=top 12
abbrev Ks:Stmt:=top 13
abbrev sAns:Stmt:=top 15
abbrev V2:Stmt:=top 17
abbrev R8:Stmt:=top 18
abbrev Sd:Stmt:=top 19
abbrev L6:Stmt:=top 20
abbrev Rb:Stmt:=top 22
abbrev P0:Stmt:=top 24
abbrev Gq:Stmt:=top 25
abbrev Fj:Stmt:=top 26
abbrev Jx:Stmt:=top 27
abbrev Ms:Stmt:=top 28
abbrev Gs:Stmt:=top 29
abbrev L4:Stmt:=top 30
abbrev No:Stmt:=top 31
abbrev Wv:Stmt:=top 33
abbrev sAll:Stmt:=top 34
abbrev Qg:Stmt:=top 35
abbrev Q7:Stmt:=top 36
abbrev Qp:Stmt:=top 38
abbrev Q0:Stmt:=top 39
abbrev Xs:Stmt:=top 40
abbrev Mq:Stmt:=top 41
abbrev Vh:Stmt:=top 42
abbrev Mv:Stmt:=top 43
abbrev Rn:Stmt:=top 44
abbrev Mc:Stmt:=top 45
abbrev I0:Stmt:=top 46
abbrev Kl:Stmt:=top 47
abbrev Md:Stmt:=top 48
abbrev Zc:Stmt:=top 49
abbrev sAsk:Stmt:=top 50
abbrev Xk:Stmt:=top 51
structure Txt(mg:Str->Option Value):Prop where
 isinstance:mg "isinstance"=none
 int:mg "int"=none
 bool:mg "bool"=none
 tuple:mg "tuple"=none
 len:mg "len"=none
 range:mg "range"=none
 sum:mg "sum"=none
 str:mg "str"=none
 max:mg "max"=none
 min:mg "min"=none
 zip:mg "zip"=none
 sorted:mg "sorted"=none
 list:mg "list"=none
 enumerate:mg "enumerate"=none
 set:mg "set"=none
def StandAt(H:Hp)(st:Addr)(S:List T4):Prop:=∃rs:List Addr,H st=some (.lst (rs.map V.ref))/\TiesAt H rs S
theorem StandAt.same{H H':Hp}{st:Addr}{S:List T4}(h:StandAt H st S)(s:Same H H'):StandAt H' st S:=let ⟨rs,a,b⟩:=h;⟨rs,s _ _ a,b.same s⟩
def StandT(H:Hp)(st:Addr)(S:List T4):Prop:=∃rs:List Addr,H st=some (.tup (rs.map V.ref))/\TiesAt H rs S
theorem StandT.mono{H H':Hp}{st:Addr}{S:List T4}(h:StandT H st S)(f:∀r zs,H r=some (.tup zs)->H' r=some (.tup zs)):StandT H' st S:=let ⟨rs,a,b⟩:=h;⟨rs,f _ _ a,b.1,λi r t e g=>f _ _ (b.2 i r t e g)⟩
theorem StandT.same{H H':Hp}{st:Addr}{S:List T4}(h:StandT H st S)(s:Same H H'):StandT H' st S:=h.mono λr zs e=>s _ _ e
def StandX(H:Hp)(st:Addr)(S:List T4):Prop:=StandAt H st S\/StandT H st S
theorem StandX.same{H H':Hp}{st:Addr}{S:List T4}(h:StandX H st S)(s:Same H H'):StandX H' st S:=h.elim (λh=> .inl (h.same s)) λh=> .inr (h.same s)
def Tk:Sp:=λvs H Q _=>∃(N:Nat) (st:Addr) (S:List T4),vs=[.int (N:Int),.ref st]/\StandAt H st S/\InN N S/\N<=60/\S.length<=100/\∀b H',Same H H'->BesAt H' b N (Bf S)->Q (.ref b) H'
def S9:Sp:=λvs H Q _=>∃(N:Nat) (st:Addr) (S:List T4),vs=[.int (N:Int),.ref st]/\StandT H st S/\InN N S/\N<=60/\S.length<=100/\∀b H',Same H H'->BesAt H' b N (Bf S)->Q (.ref b) H'
def Nq:Sp:=λvs H Q _=>∃(N:Nat) (st:Addr) (S:List T4),vs=[.int (N:Int),.ref st]/\StandX H st S/\InN N S/\N<=60/\S.length<=100/\∀b H',Same H H'->BesAt H' b N (Bf S)->Q (.ref b) H'
def P8:Sp:=λvs H Q _=>∃(N:Nat) (st:Addr) (S:List T4) (p:Nat),vs=[.int (N:Int),.ref st,.int (p:Int)]/\StandX H st S/\InN N S/\N<=60/\S.length<=100/\p<N/\∀a H',Same H H'->WaysAt H' a (Df N S p)->Q (.ref a) H'
def Kt:Sp:=λvs H Q _=>∃(N:Nat) (st:Addr) (S:List T4) (p:Nat),vs=[.int (N:Int),.ref st,.int (p:Int)]/\StandX H st S/\InN N S/\N<=60/\S.length<=100/\p<N/\∀a H',Same H H'->H' a=some (.tup (((Am N S p).map ofNat).map V.int))->Q (.ref a) H'
def J2:Sp:=λvs H Q _=>∃(N:Nat) (st:Addr) (S:List T4) (p q:Nat),vs=[.int (N:Int),.ref st,.int (p:Int),.int (q:Int)]/\StandX H st S/\InN N S/\N<=60/\S.length<=100/\p<N/\∀H',Same H H'->Q (.bl (decide (q∈Am N S p))) H'
theorem scBeside:Ax ["many","stand","beside","name","one","other","weight"] ["many","stand"] (Ah Ey):=⟨rfl,rfl,rfl,by decide+kernel,rfl,by decide+kernel,by decide+kernel⟩
theorem P3{f:Addr}{fd:FuncData}(F:Fun K "beside_of" "beside_of" Ey f fd)(T:Txt mg):
  FnOk P w K mg base CX0 1 f fd ["many","stand"] Tk:=by
 refine F.ok scBeside (λvs H Q E h=> ?_) (λcdv A outer s H vs Q E hr h=> ?_)
 ·obtain⟨_,_,_,rfl,_⟩:=h;rfl
 ·obtain⟨N,st,S,rfl,⟨rs,hst,hrs⟩,hN,N60,S100,k⟩:=h;refine⟨_,Ae (Dz (i:=2) (T:=["place"]) (F:=[]) (js:=[]) scBeside.nd rfl (Or.inl rfl) (cs (osc:=Ah Ey)) rfl (Cg rfl T.range (Aa (pv 0) Ad)) (λ_ _ _ _ _=>Aj (i:=0) (show (["place"]:List Str).Nodup by decide+kernel) rfl (Or.inl rfl)) (λ_ _ _ _ _=>Bt) (λ_ _ _ _ _=>Bq Ad))
   (Ae (Ct PassesOwn.never rfl (Cr (pv 1)) (Cy rfl (At (Aj (i:=3) scBeside.nd rfl (Or.inl rfl)) (At (Aj (i:=4) scBeside.nd rfl (Or.inl rfl)) (At (Aj (i:=5) scBeside.nd rfl (Or.inl rfl)) (At (Aj (i:=6) scBeside.nd rfl (Or.inl rfl)) Cc))))) (Ae (Cn (Dk Qb7 PySem.F.slot_list_append PySem.F.type_list_append Bw (Aq A4 (pv 2) (pv 4) (λ_ _=>rfl)) (Aa (A5 (Aa (pv 3) (Aa (pv 5) Ad))) Ad)))
   (Ag (Cn (Dk Qb7 PySem.F.slot_list_append PySem.F.type_list_append Bw (Aq A4 (pv 2) (pv 5) (λ_ _=>rfl)) (Aa (A5 (Aa (pv 3) (Aa (pv 4) Ad))) Ad))))))
   (Ag (Ap (pv 2)))),?_⟩
  refine⟨_,rfl,(N:Int),rfl,by omega,by omega,λD hD=>Cu (lo:=0) (n:=(N:Int).toNat) (λj σ ys H2=>∃(u:Option V) (ls:List Addr),σ=[u]/\ys=ls.map V.ref/\Same H H2/\H2 D=some (.lst ys)/\ls.length=j/\ls.Nodup/\∀l∈ls,H l=none/\l≠D/\H2 l=some (.lst [])) ⟨none,[],rfl,rfl,Ac hD,Ab,rfl,nodup_nil,by simp⟩ (λj σ ys H2 _ ⟨_,_,_,_,_,e,_⟩=>e) ?_ ?_⟩
  ·rintro j σ ys H2 hj ⟨u,ls,rfl,rfl,s2,d2,ll,nd,hl⟩;have hj:j<N:=by simpa using hj
   refine⟨small (by simp),λp hp=> ?_⟩;have pD:p≠D:=(Av d2 hp).symm;refine⟨by rw[Al pD.symm];exact d2,An (by simp;omega),_,ls++[p],rfl,by rw[map_append];rfl,Aw (s2.trans (Ac hp)) hD,Ab,by simp[ll],?_,λl hl'=> ?_⟩
   ·refine Qe6.mpr ⟨nd,Qd2.mpr ⟨by simp,nodup_nil⟩,λx hx y hy=> ?_⟩;rw[mem_singleton.mp hy];exact Av (hl x hx).2.2 hp
   ·rcases mem_append.mp hl' with q|q
    ·obtain⟨h1,h2,h3⟩:=hl l q;exact⟨h1,h2,by rw[Al h2,Al (Av h3 hp)];exact h3⟩
    ·rw[mem_singleton.mp q];exact⟨Fi s2 hp,pD,by rw[Al pD];exact Ab⟩
  rintro σ ys H2 ⟨u,ls,rfl,rfl,s2,d2,ll,nd,hl⟩;have ll:ls.length=N:=by simpa using ll
  have B0:Bes H H2 D ls N (Bf []):=⟨s2,d2,ll,nd,λl h=>⟨(hl l h).1,(hl l h).2.1⟩,λv l h=>⟨[],(hl l (mem_of_getElem? h)).2.2,rfl,λi r q e=>(by simp at e)⟩⟩
  refine⟨_,rfl,st,rfl,⟨_,SqL.of (s2 _ _ hst)⟩,J6 (K:=K) (a:=st) (xs:=rs.map V.ref) (λi σ H3=>∃(u3 u4 u5 u6:Option V),σ=[some (.int (N:Int)),some (.ref st),some (.ref D),u3,u4,u5,u6]/\Bes H H3 D ls N (Bf (S.take i))) ⟨_,_,_,_,rfl,B0⟩ (λi σ H3 _ ⟨_,_,_,_,_,B⟩=>SqL.of (B.same _ _ hst)) ?_ ?_⟩
  ·rintro i x σ H3 hx ⟨u3,u4,u5,u6,rfl,B⟩;obtain⟨r,hr',rfl⟩:=A3 hx;obtain⟨t,ht,er⟩:=hrs.get hr';have er3:=B.same _ _ er;have tN:=hN t (mem_of_getElem? ht);have h1:t.2.1<ls.length:=by omega
   have h2:t.2.2.1<ls.length:=by omega
   have tk:S.take (i+1)=S.take i++[t]:=by rw[Qc8,ht];rfl
   have nl:∀v,(Bf (S.take i) v).length<=200:=λv=>le_trans (Jt _ _) (by rw[Qb0];omega);have l1:=Cb h1;have l2:=Cb h2;obtain⟨rs1,e1,n1,_⟩:=B.prs _ _ l1;refine⟨r,_,rfl,SqT.of er3,rfl,_,_,rfl,_,_,rfl,_,_,rfl,_,_,rfl,rfl,?_⟩;refine⟨_,rfl,_,rfl,D,_,_,.ref ls[t.2.1],rfl,rfl,SqL.of B.hb,Ai (by rw[getElem?_map,l1];rfl),.inl ⟨rfl,_,SqL.of e1⟩,_,rfl,_,rfl,small (by simp),λp hp=> ?_⟩;refine⟨_,_,_,rfl,rfl,Ac hp _ _ e1,An (by rw[If];have:=nl t.2.1;omega),?_⟩;have B1:=B.app (n:=t.1) (u:=t.2.2.1) l1 hp e1;generalize upd (upd H3 p _) _ _=H4 at B1;obtain⟨rs2,e2,n2,_⟩:=B1.prs _ _ l2;refine⟨_,rfl,_,rfl,D,_,_,.ref ls[t.2.2.1],rfl,rfl,SqL.of B1.hb,Ai (by rw[getElem?_map,l2];rfl),.inl ⟨rfl,_,SqL.of e2⟩,_,rfl,_,rfl,small (by simp),λp' hp'=> ?_⟩;have n3:rs2.length<=201:=by
    rw[n2];split
    ·rw[Qa0];have:=nl t.2.1;simp only[Qa6,Qb9];omega
    ·have:=nl t.2.2.1;omega
   refine⟨_,_,_,rfl,rfl,Ac hp' _ _ e2,An (by rw[If];omega),_,_,_,_,rfl,?_⟩;have B2:=B1.app (n:=t.1) (u:=t.2.1) l2 hp' e2;rw[Va,<-tk] at B2;exact B2
  ·rintro σ H3 ⟨u3,u4,u5,u6,rfl,B⟩;rw[If,hrs.1,Qb3] at B;exact⟨_,rfl,k D H3 B.same ⟨ls,B.hb,B.len,B.prs⟩⟩
theorem Qo{f:Addr}{fd:FuncData}(F:Fun K "beside_of" "beside_of" Ey f fd)(T:Txt mg):
  FnOk P w K mg base CX0 1 f fd ["many","stand"] S9:=by
 refine F.ok scBeside (λvs H Q E h=> ?_) (λcdv A outer s H vs Q E hr h=> ?_)
 ·obtain⟨_,_,_,rfl,_⟩:=h;rfl
 ·obtain⟨N,st,S,rfl,⟨rs,hst,hrs⟩,hN,N60,S100,k⟩:=h;refine⟨_,Ae (Dz (i:=2) (T:=["place"]) (F:=[]) (js:=[]) scBeside.nd rfl (Or.inl rfl) (cs (osc:=Ah Ey)) rfl (Cg rfl T.range (Aa (pv 0) Ad)) (λ_ _ _ _ _=>Aj (i:=0) (show (["place"]:List Str).Nodup by decide+kernel) rfl (Or.inl rfl)) (λ_ _ _ _ _=>Bt) (λ_ _ _ _ _=>Bq Ad))
   (Ae (Ct PassesOwn.never rfl (Ca (pv 1)) (Cy rfl (At (Aj (i:=3) scBeside.nd rfl (Or.inl rfl)) (At (Aj (i:=4) scBeside.nd rfl (Or.inl rfl)) (At (Aj (i:=5) scBeside.nd rfl (Or.inl rfl)) (At (Aj (i:=6) scBeside.nd rfl (Or.inl rfl)) Cc))))) (Ae (Cn (Dk Qb7 PySem.F.slot_list_append PySem.F.type_list_append Bw (Aq A4 (pv 2) (pv 4) (λ_ _=>rfl)) (Aa (A5 (Aa (pv 3) (Aa (pv 5) Ad))) Ad)))
   (Ag (Cn (Dk Qb7 PySem.F.slot_list_append PySem.F.type_list_append Bw (Aq A4 (pv 2) (pv 5) (λ_ _=>rfl)) (Aa (A5 (Aa (pv 3) (Aa (pv 4) Ad))) Ad))))))
   (Ag (Ap (pv 2)))),?_⟩
  refine⟨_,rfl,(N:Int),rfl,by omega,by omega,λD hD=>Cu (lo:=0) (n:=(N:Int).toNat) (λj σ ys H2=>∃(u:Option V) (ls:List Addr),σ=[u]/\ys=ls.map V.ref/\Same H H2/\H2 D=some (.lst ys)/\ls.length=j/\ls.Nodup/\∀l∈ls,H l=none/\l≠D/\H2 l=some (.lst [])) ⟨none,[],rfl,rfl,Ac hD,Ab,rfl,nodup_nil,by simp⟩ (λj σ ys H2 _ ⟨_,_,_,_,_,e,_⟩=>e) ?_ ?_⟩
  ·rintro j σ ys H2 hj ⟨u,ls,rfl,rfl,s2,d2,ll,nd,hl⟩;have hj:j<N:=by simpa using hj
   refine⟨small (by simp),λp hp=> ?_⟩;have pD:p≠D:=(Av d2 hp).symm;refine⟨by rw[Al pD.symm];exact d2,An (by simp;omega),_,ls++[p],rfl,by rw[map_append];rfl,Aw (s2.trans (Ac hp)) hD,Ab,by simp[ll],?_,λl hl'=> ?_⟩
   ·refine Qe6.mpr ⟨nd,Qd2.mpr ⟨by simp,nodup_nil⟩,λx hx y hy=> ?_⟩;rw[mem_singleton.mp hy];exact Av (hl x hx).2.2 hp
   ·rcases mem_append.mp hl' with q|q
    ·obtain⟨h1,h2,h3⟩:=hl l q;exact⟨h1,h2,by rw[Al h2,Al (Av h3 hp)];exact h3⟩
    ·rw[mem_singleton.mp q];exact⟨Fi s2 hp,pD,by rw[Al pD];exact Ab⟩
  rintro σ ys H2 ⟨u,ls,rfl,rfl,s2,d2,ll,nd,hl⟩;have ll:ls.length=N:=by simpa using ll
  have B0:Bes H H2 D ls N (Bf []):=⟨s2,d2,ll,nd,λl h=>⟨(hl l h).1,(hl l h).2.1⟩,λv l h=>⟨[],(hl l (mem_of_getElem? h)).2.2,rfl,λi r q e=>(by simp at e)⟩⟩
  refine⟨_,rfl,st,rfl,⟨_,SqT.of (s2 _ _ hst)⟩,Ex (K:=K) (a:=st) (xs:=rs.map V.ref) (λi σ H3=>∃(u3 u4 u5 u6:Option V),σ=[some (.int (N:Int)),some (.ref st),some (.ref D),u3,u4,u5,u6]/\Bes H H3 D ls N (Bf (S.take i))) ⟨_,_,_,_,rfl,B0⟩ (λi σ H3 _ ⟨_,_,_,_,_,B⟩=>SqT.of (B.same _ _ hst)) ?_ ?_⟩
  ·rintro i x σ H3 hx ⟨u3,u4,u5,u6,rfl,B⟩;obtain⟨r,hr',rfl⟩:=A3 hx;obtain⟨t,ht,er⟩:=hrs.get hr';have er3:=B.same _ _ er;have tN:=hN t (mem_of_getElem? ht);have h1:t.2.1<ls.length:=by omega
   have h2:t.2.2.1<ls.length:=by omega
   have tk:S.take (i+1)=S.take i++[t]:=by rw[Qc8,ht];rfl
   have nl:∀v,(Bf (S.take i) v).length<=200:=λv=>le_trans (Jt _ _) (by rw[Qb0];omega);have l1:=Cb h1;have l2:=Cb h2;obtain⟨rs1,e1,n1,_⟩:=B.prs _ _ l1;refine⟨r,_,rfl,SqT.of er3,rfl,_,_,rfl,_,_,rfl,_,_,rfl,_,_,rfl,rfl,?_⟩;refine⟨_,rfl,_,rfl,D,_,_,.ref ls[t.2.1],rfl,rfl,SqL.of B.hb,Ai (by rw[getElem?_map,l1];rfl),.inl ⟨rfl,_,SqL.of e1⟩,_,rfl,_,rfl,small (by simp),λp hp=> ?_⟩;refine⟨_,_,_,rfl,rfl,Ac hp _ _ e1,An (by rw[If];have:=nl t.2.1;omega),?_⟩;have B1:=B.app (n:=t.1) (u:=t.2.2.1) l1 hp e1;generalize upd (upd H3 p _) _ _=H4 at B1;obtain⟨rs2,e2,n2,_⟩:=B1.prs _ _ l2;refine⟨_,rfl,_,rfl,D,_,_,.ref ls[t.2.2.1],rfl,rfl,SqL.of B1.hb,Ai (by rw[getElem?_map,l2];rfl),.inl ⟨rfl,_,SqL.of e2⟩,_,rfl,_,rfl,small (by simp),λp' hp'=> ?_⟩;have n3:rs2.length<=201:=by
    rw[n2];split
    ·rw[Qa0];have:=nl t.2.1;simp only[Qa6,Qb9];omega
    ·have:=nl t.2.2.1;omega
   refine⟨_,_,_,rfl,rfl,Ac hp' _ _ e2,An (by rw[If];omega),_,_,_,_,rfl,?_⟩;have B2:=B1.app (n:=t.1) (u:=t.2.1) l2 hp' e2;rw[Va,<-tk] at B2;exact B2
  ·rintro σ H3 ⟨u3,u4,u5,u6,rfl,B⟩;rw[If,hrs.1,Qb3] at B;exact⟨_,rfl,k D H3 B.same ⟨ls,B.hb,B.len,B.prs⟩⟩
theorem Tv{f:Addr}{fd:FuncData}(F:Fun K "beside_of" "beside_of" Ey f fd)(T:Txt mg):FnOk P w K mg base CX0 1 f fd ["many","stand"] Nq:=
 ((P3 F T).or (Qo F T)).imp λvs H Q E ⟨N,st,S,e,h,r⟩=>h.elim (λh=> .inl ⟨N,st,S,e,h,r⟩) λh=> .inr ⟨N,st,S,e,h,r⟩
theorem scWays:Ax ["many","stand","place","beside","ways","waiting","here","name","there"] ["many","stand","place"] (Ah V1):=⟨rfl,rfl,rfl,by decide+kernel,rfl,by decide+kernel,by decide+kernel⟩
theorem Y8{f:Addr}{fd:FuncData}(F:Fun K "ways_from" "ways_from" V1 f fd)(T:Txt mg)(GBeside:Cl P w K mg base 1 "beside_of" ["many","stand"] Nq):
  FnOk P w K mg base CX0 2 f fd ["many","stand","place"] P8:=by
 refine F.ok scWays (λvs H Q E h=> ?_) (λcdv A outer s H vs Q E hr h=> ?_)
 ·obtain⟨_,_,_,_,rfl,_⟩:=h;rfl
 ·obtain⟨N,st,S,p,rfl,hst,hN,N60,S100,pN,k⟩:=h;refine⟨_,Ae (Ao (i:=3) scWays.nd rfl (Or.inl rfl) (Au GBeside hr (Aa (pv 0) (Aa (pv 1) Ad))))
   (Ae (Ao (i:=4) scWays.nd rfl (Or.inl rfl) (A0 Vg (Bq (Aa Ch Ad)) (pv 0)))
   (Ae (Di (A5 Ad) (Qa (pv 4) (pv 2) Kn))
   (Ae (Ao (i:=5) scWays.nd rfl (Or.inl rfl) (Bq (Aa (pv 2) Ad)))
   (Ae (Oe PassesOwn.never (Nu (pv 5) (λ_=>rfl)) (Ae (Ao (i:=6) scWays.nd rfl (Or.inl rfl) (Dk Qb7 slot_list_pop type_list_pop M9 (pv 5) (Aa Af Ad)))
   (Ag (Ct PassesOwn.never rfl (Cr (Aq A4 (pv 3) (pv 6) (λ_ _=>rfl))) (Cy rfl (At (Aj (i:=7) scWays.nd rfl (Or.inl rfl)) (At (Aj (i:=8) scWays.nd rfl (Or.inl rfl)) Cc))) (Ag (Be (As Dj (Aq A4 (pv 4) (pv 8) (λ_ _=>rfl)) Ch (Ar _)) (Ae (Di (A0 Ef (Aq A4 (pv 4) (pv 6) (λ_ _=>rfl)) (A5 (Aa (pv 7) Ad))) (Qa (pv 4) (pv 8) Kn))
   (Ag (Cn (Dk Qb7 PySem.F.slot_list_append PySem.F.type_list_append Bw (pv 5) (Aa (pv 8) Ad))))) A2))))))
   (Ag (Ap (pv 4))))))),?_⟩
  refine⟨_,rfl,_,rfl,N,st,S,rfl,hst,hN,N60,S100,λb H1 s1 hb=> ?_⟩;refine⟨small (by simp),λq hq=>⟨_,rfl,q,_,_,rfl,rfl,Ab,by omega,by omega,small (by simp only[Qa6,Qb9];omega),λws hws=> ?_⟩⟩;have fl:(replicate (N:Int).toNat [V.non]).flatten=replicate N V.non:=by rw[List.flatten_replicate_singleton];rfl
  rw[fl];have s2:=(Ac (H:=H1) (o:= .lst [.non]) hq).trans (Ac (o:= .lst (replicate N V.non)) hws);have nw:H1 ws=none:=Fi (Ac (H:=H1) (o:= .lst [.non]) hq) hws;have e2:=Ab (H:=upd H1 q (.lst [.non])) (a:=ws) (o:= .lst (replicate N V.non));generalize upd (upd H1 q (.lst [.non])) ws (.lst (replicate N V.non))=H2 at s2 e2;have W2:WaysAt H2 ws (replicate N none):=⟨_,e2,by simp,λi x o hx ho=>by
   rw[getElem?_replicate] at hx ho;split at hx
   ·rename_i hi;rw[Qa3 hi] at ho;cases hx;cases ho;rfl
   ·cases hx⟩
  refine⟨small (by simp),λe he=> ?_⟩;have s3:=Ac (o:= .tup []) he;have W3:=W2.same s3;have e3:=s3 _ _ e2;have t3:=Ab (H:=H2) (a:=e) (o:= .tup []);generalize upd H2 e (.tup [])=H3 at s3 W3 e3 t3;have W4:WaysAt (upd H3 ws (.lst ((replicate N V.non).set p (.ref e)))) ws (Bv N p).1:=WaysAt.set (w:=[]) W3 e3 t3;have s4:Same H1 (upd H3 ws (.lst ((replicate N V.non).set p (.ref e)))):=Aw (s2.trans s3) nw;refine⟨_,rfl,_,rfl,ws,_,_,p,rfl,rfl,e3,(by have h:ixN (replicate N V.non).length (p:Int)=some p:=Iv (by simpa using pN);exact h),?_⟩;generalize upd H3 ws _=H4 at W4 s4;refine⟨_,rfl,small (by simp),λwt hwt=> ?_⟩;have s5:=s4.trans (Ac (o:= .lst [.int (p:Int)]) hwt);have nt:H1 wt=none:=Fi s4 hwt;have W5:=W4.same (Ac (o:= .lst [.int (p:Int)]) hwt);have t5:=Ab (H:=H4) (a:=wt) (o:= .lst [.int (p:Int)]);have wwt:ws≠wt:=by obtain⟨xs,hx,_⟩:=W4;exact Av hx hwt
  generalize upd H4 wt (.lst [.int (p:Int)])=H5 at s5 W5 t5;dsimp only[Lq,Zz];refine M8 (λm σ H6=>∃(i:Nat) (u6 u7 u8:Option V) (wl:Ws) (tl:List Nat),σ=[some (.int (N:Int)),some (.ref st),some (.int (p:Int)),some (.ref b),some (.ref ws),some (.ref wt),u6,u7,u8]/\Same H1 H6/\H6 wt=some (.lst ((tl.map ofNat).map V.int))/\WaysAt H6 ws wl/\iter S i (Bv N p)=(wl,tl)/\K0 S N p (wl,tl)/\m=Cq wl+tl.length/\i+m<=64/\tl.length<=64/\∀v x,Wk.Vis wl v x->x.length<=i)
   (m0:=Cq (Bv N p).1+1) ⟨0,_,_,_,(Bv N p).1,[p],rfl,s5,t5,W5,rfl,Vo pN,rfl,?_,by simp,λv x q=>by rw[Lv pN q];simp⟩ ?_ ?_
  ·have:Cq (Bv N p).1<=(Bv N p).1.length:=List.countP_le_length;simp only[Bv,length_set,List.length_replicate] at this ⊢;omega
  ·rintro m σ H6 ⟨i,u6,u7,u8,wl,tl,rfl,s6,t6,W6,it6,I6,hm,hi,tl6,sh6⟩;refine⟨_,rfl,_,.inl ⟨_,SqL.of t6,rfl⟩,?_⟩;cases tl with
   |nil=>
    refine Bp ?_;rw[<-Iy it6 (by omega)] at W6;exact⟨_,rfl,k ws H6 (s1.trans s6) W6⟩
   |cons h rest=>
    refine Dg ?_;obtain⟨w0,hv0,J⟩:=Mn I6;have hh:h<N:=by have:=(List.getElem?_eq_some_iff.mp hv0).1;rw[<-I6.len];exact this
    refine⟨_,rfl,.inl ⟨rfl,_,SqL.of t6⟩,wt,_,0,0,.int (h:Int),rfl,rfl,t6,by decide,by decide,by simp[seqIndex?],rfl,?_⟩;have W7:=W6.keep (zs:=(rest.map ofNat).map V.int) t6 wwt;have s7:Same H1 (upd H6 wt (.lst ((rest.map ofNat).map V.int))):=Aw s6 nt;have t7:=Ab (H:=H6) (a:=wt) (o:= .lst ((rest.map ofNat).map V.int));have eH:upd H6 wt (.lst (List.eraseIdx (List.map V.int (List.map ofNat (h::rest))) 0))=upd H6 wt (.lst ((rest.map ofNat).map V.int)):=rfl;rw[eH];generalize upd H6 wt (.lst ((rest.map ofNat).map V.int))=H7 at W7 s7 t7;obtain⟨ls,hls,lls,hpr⟩:=hb.same s7;have hl:=Cb (l:=ls) (i:=h) (by omega);obtain⟨rs,er,lr,hr3⟩:=hpr h _ hl;have w0len:w0.length<=64:=by have:=sh6 h w0 hv0;omega
    refine⟨_,rfl,_,rfl,b,_,_,.ref ls[h],rfl,rfl,SqL.of hls,Ai (by rw[getElem?_map,hl];rfl),_,rfl,⟨_,SqL.of er⟩,?_⟩;have key:∀H8,Same H1 H8->H8 ls[h]=some (.lst (rs.map V.ref))/\∀(i:Nat) r q,rs[i]? =some r->(Bf S h)[i]? =some q->H8 r=some (.tup [.str q.1,.int (q.2:Int)]):=by
     intro H8 s8;obtain⟨ls',hls',_,hpr'⟩:=hb;have e1:ls'=ls:=by
      have:=s7 _ _ hls';rw[hls] at this;injection this with this;injection this with this;exact(Ot this).symm
     subst e1;obtain⟨rs',er',lr',hr'⟩:=hpr' h _ hl;have e2:rs'=rs:=by
      have:=s7 _ _ er';rw[er] at this;injection this with this;injection this with this;exact(Ot this).symm
     subst e2;exact⟨s8 _ _ er',λi r q e f=>s8 _ _ (hr' i r q e f)⟩
    refine J6 (K:=K) (a:=ls[h]) (xs:=rs.map V.ref) (λj σ H8=>∃(u7 u8:Option V),σ=[some (.int (N:Int)),some (.ref st),some (.int (p:Int)),some (.ref b),some (.ref ws),some (.ref wt),some (.int (h:Int)),u7,u8]/\Same H1 H8/\H8 wt=some (.lst (((Bn w0 ((Bf S h).take j) (wl,rest)).2.map ofNat).map V.int))/\WaysAt H8 ws (Bn w0 ((Bf S h).take j) (wl,rest)).1)
     ⟨_,_,rfl,s7,t7,W7⟩ (λj σ H8 _ ⟨_,_,_,s8,_⟩=>SqL.of (key H8 s8).1) ?_ ?_
    ·rintro j x σ H8 hx ⟨u7',u8',rfl,s8,t8,W8⟩;obtain⟨r,hr',rfl⟩:=A3 hx;have hj:j<(Bf S h).length:=by rw[<-lr];exact(List.getElem?_eq_some_iff.mp hr').1
     have hq:=Cb hj;have er8:=(key H8 s8).2 j r _ hr' hq;have tk:(Bf S h).take (j+1)=(Bf S h).take j++[(Bf S h)[j]]:=by rw[Qc8,hq];rfl
     have qN:((Bf S h)[j]).2<N:=Ih hN (getElem_mem hj);have jl:j<201:=by have:=Jt S h;omega
     obtain⟨vl1,vl2⟩:=Hw w0 ((Bf S h).take j) (wl,rest);have vh:=Hz w0 ((Bf S h).take j) (wl,rest) hv0;rw[tk,Gi];generalize (Bf S h)[j]=q at er8 qN;generalize Bn w0 ((Bf S h).take j) (wl,rest)=st' at *;obtain⟨wl',tl'⟩:=st';dsimp only at *;have qw:q.2<wl'.length:=by rw[vl1];show _<wl.length;rw[I6.len];exact qN
     refine⟨r,_,rfl,SqT.of er8,rfl,_,_,rfl,_,_,rfl,rfl,?_⟩;obtain⟨xs,x,hxs,hx',lxs,hxo⟩:=W8.get (Cb qw);refine⟨_,rfl,_,rfl,ws,_,_,x,rfl,rfl,SqL.of hxs,Ai hx',rfl,_,rfl,?_⟩;cases ho:wl'[q.2] with
     |some z=>
      rw[ho] at hxo;obtain⟨rz,rfl,_⟩:=hxo;rw[Zf (by dsimp only;rw[Cb qw,ho];simp)];refine Bz (λg=>absurd g (by simp)) λ_=> ?_;exact⟨_,_,rfl,s8,t8,W8⟩
     |none=>
      rw[ho] at hxo;have hxo:x= .non:=hxo;subst hxo;rw[Xd (by dsimp only;rw[Cb qw,ho])];refine Bz (λ_=> ?_) λg=>absurd (by simp) g;obtain⟨xs2,x2,hxs2,hx2,_,hxo2⟩:=W8.get vh;obtain⟨r0,rfl,er0⟩:=hxo2;rw[hxs] at hxs2;injection hxs2 with hxs2;injection hxs2 with hxs2;subst hxs2;have tl9:((tl'.map ofNat).map V.int).length<=1000:=by
       simp only[If,Qb0,Qa6] at vl2 tl6 ⊢;omega
      refine⟨_,rfl,_,rfl,ws,_,_,.ref r0,rfl,rfl,SqL.of hxs,Ai hx2,_,rfl,small (by simp),λp1 hp1=> ?_⟩;have s9:=Ac (o:= .tup [.str q.1]) hp1;have p9:=Ab (H:=H8) (a:=p1) (o:= .tup [.str q.1]);have w9:w0.length<=100:=by
       have:=(J.ht h w0 J.hv);have:=w0len;omega
      generalize upd H8 p1 (.tup [.str q.1])=H9 at s9 p9;refine⟨r0,p1,_,_,rfl,rfl,SqT.of (s9 _ _ er0),SqT.of p9,small (by simp;omega),λe=> ?_,λ_ e=>absurd e (by simp),λ_ _ p2 hp2=> ?_⟩
      ·have e0:w0=[]:=by simpa using e
       have e9:H9 p1=some (.tup ((w0++[q.1]).map V.str)):=by rw[e0];exact p9
       have hxs9:=s9 _ _ hxs;have W9:=(W8.same s9).set (u:=q.2) hxs9 e9;have t9:=s9 _ _ t8;refine⟨_,rfl,_,rfl,ws,_,_,q.2,rfl,rfl,hxs9,Iv (by omega),?_⟩;have s10:Same H1 (upd H9 ws (.lst (xs.set q.2 (.ref p1)))):=Aw (s8.trans s9) nw;have t10:upd H9 ws (.lst (xs.set q.2 (.ref p1))) wt=some (.lst ((tl'.map ofNat).map V.int)):=by rw[Al wwt.symm];exact t9
       generalize upd H9 ws (.lst (xs.set q.2 (.ref p1)))=H10 at W9 s10 t10;refine⟨_,rfl,.inl ⟨rfl,_,SqL.of t10⟩,_,rfl,wt,_,_,rfl,rfl,t10,An tl9,_,_,rfl,Aw s10 nt,?_,W9.keep t10 wwt⟩;rw[Ab,map_append,map_append];rfl
      ·have e9:upd H9 p2 (.tup (w0.map V.str++[.str q.1])) p2=some (.tup ((w0++[q.1]).map V.str)):=by rw[Ab,map_append];rfl
       have s9:=s9.trans (Ac (o:= .tup (w0.map V.str++[.str q.1])) hp2);generalize upd H9 p2 (.tup (w0.map V.str++[.str q.1]))=H9 at s9 e9;have hxs9:=s9 _ _ hxs;have W9:=(W8.same s9).set (u:=q.2) hxs9 e9;have t9:=s9 _ _ t8;refine⟨_,rfl,_,rfl,ws,_,_,q.2,rfl,rfl,hxs9,Iv (by omega),?_⟩;have s10:Same H1 (upd H9 ws (.lst (xs.set q.2 (.ref p2)))):=Aw (s8.trans s9) nw;have t10:upd H9 ws (.lst (xs.set q.2 (.ref p2))) wt=some (.lst ((tl'.map ofNat).map V.int)):=by rw[Al wwt.symm];exact t9
       generalize upd H9 ws (.lst (xs.set q.2 (.ref p2)))=H10 at W9 s10 t10;refine⟨_,rfl,.inl ⟨rfl,_,SqL.of t10⟩,_,rfl,wt,_,_,rfl,rfl,t10,An tl9,_,_,rfl,Aw s10 nt,?_,W9.keep t10 wwt⟩;rw[Ab,map_append,map_append];rfl
    ·rintro σ H8 ⟨u7',u8',rfl,s8,t8,W8⟩;rw[If,lr,Qb3] at t8 W8;have eb:Ee S (wl,h::rest)=Bn w0 (Bf S h) (wl,rest):=by
      show Bn ((wl[h]?.join).getD []) (Bf S h) (wl,rest)=_;unfold Wk.Vis at hv0;rw[hv0];rfl
     obtain⟨I8,m8⟩:=Ku hN I6;have sh8:=Ik hN I6 sh6;have it8:iter S (i+1) (Bv N p)=Bn w0 (Bf S h) (wl,rest):=by rw[Lu,it6,eb]
     rw[eb] at I8 m8 sh8;generalize Bn w0 (Bf S h) (wl,rest)=st' at *;obtain⟨wl',tl'⟩:=st';dsimp only at *;refine⟨Cq wl'+tl'.length,by omega,i+1,_,_,_,wl',tl',rfl,s8,t8,W8,it8,I8,rfl,by omega,by omega,sh8⟩
  ·rintro σ H6 Q Q' f ⟨v,e,b',h',q⟩;exact⟨v,e,b',h',f _ _ q⟩
theorem scPart:Ax ["many","stand","place","ways"] ["many","stand","place"] (Ah Ra):=⟨rfl,rfl,rfl,by decide+kernel,rfl,by decide+kernel,by decide+kernel⟩
theorem Ym{f:Addr}{fd:FuncData}(F:Fun K "part_of" "part_of" Ra f fd)(T:Txt mg)(GWays:Cl P w K mg base 2 "ways_from" ["many","stand","place"] P8):
  FnOk P w K mg base CX0 3 f fd ["many","stand","place"] Kt:=by
 refine F.ok scPart (λvs H Q E h=> ?_) (λcdv A outer s H vs Q E hr h=> ?_)
 ·obtain⟨_,_,_,_,rfl,_⟩:=h;rfl
 ·obtain⟨N,st,S,p,rfl,hst,hN,N60,S100,pN,k⟩:=h;refine⟨_,Ae (Ao (i:=3) scPart.nd rfl (Or.inr rfl) (Au GWays hr (Aa (pv 0) (Aa (pv 1) (Aa (pv 2) Ad)))))
   (Ag (Ap (A6 A7 (by rfl) T.tuple (by decide+kernel) (Aa (Bj (T:=["there"]) (F:=["ways"]) (js:=[3]) (cs (osc:=Ah Ra)) rfl (Cg rfl T.range (Aa (pv 0) Ad)) (λ_ _ _ _ _=>Aj (i:=0) (show (["there","ways"]:List Str).Nodup by decide+kernel) rfl (Or.inl rfl)) (λ_ _ _ _ _=>Cs (As R7 (Aq (r:=Xj K) A4 (pv 1) (pv 0) (λ_ _=>rfl)) Ch (Ar _))) (λ_ _ _ _ _=>pv 0)) Ad)))),?_⟩
  refine⟨_,rfl,_,rfl,_,rfl,N,st,S,p,rfl,hst,hN,N60,S100,pN,λa H1 s1 W1=> ?_⟩;have wl:=Op hN pN N60;refine⟨_,rfl,(N:Int),rfl,by omega,by omega,λD hD=>Cu (lo:=0) (n:=(N:Int).toNat) (λj σ ys H2=>∃(u:Option V),σ=[u,some (.ref a)]/\ys=((((List.range j).filter λv=>((Df N S p)[v]?.join).isSome).map ofNat).map V.int)/\H2=upd H1 D (.lst ys)) ⟨none,rfl,rfl,rfl⟩ (λj σ ys H2 _ ⟨_,_,_,e⟩=>by rw[e];exact Ab) ?_ ?_⟩
  ·rintro j σ ys H2 hj ⟨u,rfl,rfl,rfl⟩;have hj:j<N:=by simpa using hj
   have hjw:j<(Df N S p).length:=by omega
   obtain⟨xs,x,hxs,hx,lx,hxo⟩:=(W1.same (Ac (o:= .lst ((((List.range j).filter λv=>((Df N S p)[v]?.join).isSome).map ofNat).map V.int)) hD)).get (Cb hjw);refine⟨_,rfl,_,rfl,a,_,_,x,rfl,rfl,SqL.of hxs,by rw[Int.zero_add];exact Ai hx,rfl,_,rfl,?_⟩;have lf:((List.range j).filter λv=>((Df N S p)[v]?.join).isSome).length<=60:=le_trans (Qb2 _ _) (by rw[Qe1];omega);cases ho:(Df N S p)[j] with
   |none=>
    rw[ho] at hxo;have hxo:x= .non:=hxo;subst hxo;refine Bz (λg=>absurd g (by simp)) λ_=>⟨_,rfl,?_,?_⟩
    ·rw[range_succ,filter_append];simp[Cb hjw,ho]
    ·rfl
   |some z=>
    rw[ho] at hxo;obtain⟨r,rfl,_⟩:=hxo;refine Bz (λ_=>⟨_,rfl,Ab,An (by simp only[If];omega),_,rfl,?_,by rw[Zy]⟩) λg=>absurd (by simp) g;rw[range_succ,filter_append,map_append,map_append];simp[Cb hjw,ho]
  ·rintro σ ys H2 ⟨u,rfl,rfl,rfl⟩;exact⟨D,_,rfl,.inl ⟨SqL.of Ab,λl hl=>k l _ (s1.trans ((Ac hD).trans (Ac hl))) Ab⟩⟩
theorem Wz:Ax ["many","stand","one","other"] ["many","stand","one","other"] (Ah L7):=⟨rfl,rfl,rfl,by decide+kernel,rfl,by decide+kernel,by decide+kernel⟩
theorem Tx{f:Addr}{fd:FuncData}(F:Fun K "are_joined" "are_joined" L7 f fd)(T:Txt mg)(GPart:Cl P w K mg base 3 "part_of" ["many","stand","place"] Kt):
  FnOk P w K mg base CX0 4 f fd ["many","stand","one","other"] J2:=by
 refine F.ok Wz (λvs H Q E h=> ?_) (λcdv A outer s H vs Q E hr h=> ?_)
 ·obtain⟨_,_,_,_,_,rfl,_⟩:=h;rfl
 ·obtain⟨N,st,S,p,q,rfl,hst,hN,N60,S100,pN,k⟩:=h;refine⟨_,Ag (Ap (Bg Dq (pv 3) (Au GPart hr (Aa (pv 0) (Aa (pv 1) (Aa (pv 2) Ad)))) (by rfl))),?_⟩;refine⟨_,rfl,_,rfl,_,rfl,_,rfl,N,st,S,p,rfl,hst,hN,N60,S100,pN,λa H1 s1 e1=>⟨a,_,rfl,.inr (SqT.of e1),rfl,Sv _,?_⟩⟩;have e:inV (.int (q:Int)) (((Am N S p).map ofNat).map V.int)=decide (q∈Am N S p):=by
   rw[Wx,Bool.eq_iff_iff,Qa4,Qa4,mem_map];constructor
   ·rintro⟨x,hx,e⟩;have:x=q:=by have:(x:Int)=q:=e;omega
    rw[<-this];exact hx
   ·intro h;exact⟨q,h,rfl⟩
  show Q (.bl (inV (.int (q:Int)) (((Am N S p).map ofNat).map V.int))) H1;rw[e];exact k _ s1
end K43
namespace Wk
open PySem L2
theorem G3{N p q u:Nat}{S:List T4}(h:(Am N S p)[0]? =some q)(hu:u∈Am N S p):q<=u:=by
 have pw:(Am N S p).Pairwise (·<·):=(Qf2 (n:=N)).filter _;cases e:Am N S p with
 |nil=>rw[e] at hu;cases hu
 |cons a r=>
  rw[e] at h hu pw;simp at h;subst h;rcases Qa9.mp hu with rfl|hu
  ·exact le_refl _
  ·exact le_of_lt ((pairwise_cons.mp pw).1 u hu)
theorem Vk{N p:Nat}{S:List T4}(hS:InN N S)(hN:N<=60)(hp:p<N):decide ((Am N S p)[0]? =some p)=Eb S p:=by
 rw[Bool.eq_iff_iff,Qa4,least_iff];constructor
 ·intro h u hu r;have:u∈Am N S p:=(A1 hS hp hN).mpr ⟨by omega,r.symm⟩;have:=G3 h this;omega
 ·intro h;obtain⟨q,h1,h2,h3⟩:=Lx hS hp hN;have le:=G3 h1 (Fo hS hp hN);rcases lt_or_ge q p with c|c
  ·exact absurd h3 (h q c)
  ·rw[h1,show q=p by omega]
theorem ls_cls{N:Nat}{S:List T4}(hS:InN N S)(hN:N<=60):(lsF N S).length=Eu N S:=by
 unfold lsF Eu;rw[<-List.countP_eq_length_filter];exact countP_congr λp hp=>by rw[Vk hS hN (mem_range.mp hp)]
end Wk
namespace K43
variable{P:Program}{w:World}{K:Frag}{mg:Str->Option Value}{base:Heap}
open PySem L2 Wk
def nV(ps:List Nat):List V:=(ps.map ofNat).map V.int
theorem nV_at{ps:List Nat}{k v:Nat}(h:ps[k]? =some v):atI (nV ps) (k:Int)=some (.int (v:Int)):=Ai (by unfold nV;rw[getElem?_map,getElem?_map,h];rfl)
def PtsAt(H:Hp)(as:List Addr)(N:Nat)(S:List T4)(ls:List Nat):Prop:=as.length=ls.length/\∀(i:Nat) r p,as[i]? =some r->ls[i]? =some p->H r=some (.tup (nV (Am N S p)))
def Mj:Sp:=λvs H Q _=>∃(N:Nat) (st:Addr) (S:List T4),vs=[.int (N:Int),.ref st]/\StandX H st S/\InN N S/\N<=60/\S.length<=100/\∀a as H',Same H H'->H' a=some (.tup (as.map V.ref))->PtsAt H' as N S (lsF N S)->Q (.ref a) H'
theorem Oz{H:Hp}{as:List Addr}{N p:Nat}{S:List T4}{ls:List Nat}{r:Addr}(h:PtsAt H as N S ls)(hr:H r=some (.tup (nV (Am N S p)))):PtsAt H (as++[r]) N S (ls++[p]):=by
 refine⟨by rw[Qa0,Qa0,h.1];rfl,λi r0 p0 e1 e2=> ?_⟩;rw[getElem?_append] at e1 e2;rw[h.1] at e1;split at e1
 ·rename_i z;rw[Qa3 z] at e2;exact h.2 i r0 p0 e1 e2
 ·rename_i z;rw[Qa2 z] at e2;have hz:i - ls.length=0:=by
   have:=(List.getElem?_eq_some_iff.mp e1).1;simp only[Qa6,Qb9] at this;omega
  rw[hz] at e1 e2;cases e1;cases e2;exact hr
theorem PtsAt.mono{H H':Hp}{as:List Addr}{N:Nat}{S:List T4}{ls:List Nat}(h:PtsAt H as N S ls)(f:∀r zs,H r=some (.tup zs)->H' r=some (.tup zs)):PtsAt H' as N S ls:=⟨h.1,λi r p a b=>f _ _ (h.2 i r p a b)⟩
theorem scParts:Ax ["many","stand","parts"] ["many","stand"] (Ah Ko):=⟨rfl,rfl,rfl,by decide+kernel,rfl,by decide+kernel,by decide+kernel⟩
theorem Xo{f:Addr}{fd:FuncData}(F:Fun K "parts_of" "parts_of" Ko f fd)(T:Txt mg)(GPart:Cl P w K mg base 3 "part_of" ["many","stand","place"] Kt):
  FnOk P w K mg base CX0 4 f fd ["many","stand"] Mj:=by
 refine F.ok scParts (λvs H Q E h=> ?_) (λcdv A outer s H vs Q E hr h=> ?_)
 ·obtain⟨_,_,_,rfl,_⟩:=h;rfl
 ·obtain⟨N,st,S,rfl,hst,hN,N60,S100,k⟩:=h;refine⟨_,Ae (Dz (i:=2) (T:=["place"]) (F:=["many","stand"]) (js:=[0,1]) scParts.nd rfl (Or.inl rfl) (cs (osc:=Ah Ko)) rfl (Cg rfl T.range (Aa (pv 0) Ad)) (λ_ _ _ _ _=>Aj (i:=0) (show (["place","many","stand"]:List Str).Nodup by decide+kernel) rfl (Or.inl rfl)) (λ_ _ _ _ _=>Bt) (λ_ _ _ _ _=>Au GPart hr (Aa (pv 1) (Aa (pv 2) (Aa (pv 0) Ad)))))
   (Ag (Ap (A6 A7 (by rfl) T.tuple (by decide+kernel) (Aa (Bj (T:=["place","part"]) (F:=[]) (js:=[]) (cs (osc:=Ah Ko)) rfl (Xr rfl T.enumerate (Aa (pv 2) Ad)) (λ_ _ _ _ _=>Rg K 2 rfl rfl (At (Aj (i:=0) (show (["place","part"]:List Str).Nodup by decide+kernel) rfl (Or.inl rfl)) (At (Aj (i:=1) (show (["place","part"]:List Str).Nodup by decide+kernel) rfl (Or.inl rfl)) Cc))) (λ_ _ _ _ _=>Cs (As Bl (Aq (r:=J4 K) Az (pv 1) Af (λ_ _=>rfl)) (pv 0) (Ar _))) (λ_ _ _ _ _=>pv 1)) Ad)))),?_⟩
  refine⟨_,rfl,(N:Int),rfl,by omega,by omega,λD hD=>Cu (lo:=0) (n:=(N:Int).toNat) (λj σ ys H2=>∃(u:Option V) (ls:List Addr),σ=[u,some (.int (N:Int)),some (.ref st)]/\ys=ls.map V.ref/\Same H H2/\H2 D=some (.lst ys)/\PtsAt H2 ls N S (List.range j)) ⟨none,[],rfl,rfl,Ac hD,Ab,rfl,λi r p e=>by simp at e⟩ (λj σ ys H2 _ ⟨_,_,_,_,_,e,_⟩=>e) ?_ ?_⟩
  ·rintro j σ ys H2 hj ⟨u,ls,rfl,rfl,s2,d2,p2⟩;have hj:j<N:=by simpa using hj
   have ll:ls.length=j:=by rw[p2.1,Qe1]
   refine⟨_,rfl,_,rfl,_,rfl,N,st,S,j,by rw[Int.zero_add];rfl,hst.same s2,hN,N60,S100,hj,λr H3 s3 e3=> ?_⟩;have d3:=s3 _ _ d2;refine⟨d3,An (by rw[If];omega),_,ls++[r],rfl,by rw[map_append];rfl,Aw (s2.trans s3) hD,Ab,?_⟩;rw[range_succ];have kp:∀(r:Addr) (zs:List V) (o:HO),H3 r=some (.tup zs)->upd H3 D o r=some (.tup zs):=λr zs o e=>by rw[Al (Bx e d3 (by intro z;cases z))];exact e
   exact Oz ((p2.mono λr zs e=>s3 _ _ e).mono λr zs e=>kp r zs _ e) (kp _ _ _ e3)
  rintro σ ys H2 ⟨u,ls,rfl,rfl,s2,d2,p2⟩;have en:(N:Int).toNat=N:=by omega
  rw[en] at p2;have ll:ls.length=N:=by rw[p2.1,Qe1]
  refine⟨_,rfl,D,_,rfl,SqL.of d2,λE hE=>Ud (K:=K) (a:=D) (xs:=ls.map V.ref) (λj σ ys H5=>∃(u v:Option V) (qs:List Addr),σ=[u,v]/\Same H2 H5/\H5 E=some (.lst ys)/\ys=qs.map V.ref/\PtsAt H5 qs N S ((List.range j).filter λp=>decide ((Am N S p)[0]? =some p))) ⟨none,none,[],rfl,Ac hE,Ab,rfl,rfl,λi r p e=>by simp at e⟩ (λj σ ys H5 _ ⟨_,_,_,_,s5,e,_⟩=>⟨SqL.of (s5 _ _ d2),e⟩) ?_ ?_⟩
  ·rintro j x σ ys H5 T hx ⟨u,v,qs,rfl,s5,e5,rfl,p5⟩ hT;obtain⟨r,er,rfl⟩:=A3 hx;have hj:j<N:=by rw[<-ll];exact(List.getElem?_eq_some_iff.mp er).1
   have s6:=Ac (o:= .tup [.int (j:Int),.ref r]) hT;have T6:=Ab (H:=H5) (a:=T) (o:= .tup [.int (j:Int),.ref r]);have e6:=s6 _ _ e5;have p6:=p5.mono λr zs e=>s6 _ _ e;generalize upd H5 T (.tup [.int (j:Int),.ref r])=H6 at s6 T6 e6 p6;have S6:=s5.trans s6;have r6:=S6 _ _ (p2.2 j r j er (getElem?_range hj));refine⟨T,_,rfl,SqT.of T6,rfl,_,_,rfl,_,_,rfl,rfl,?_⟩;have h0:0<(Am N S j).length:=List.length_pos_of_mem (Fo hN hj N60);have hg:=Cb h0;generalize (Am N S j)[0]=q at hg;refine⟨_,rfl,r,_,0,_,rfl,rfl,SqT.of r6,nV_at (k:=0) hg,_,rfl,rfl,_,rfl,?_⟩;have ql:qs.length<=100:=by
    rw[p5.1];refine le_trans (Qb2 _ _) ?_;rw[Qe1];omega
   by_cases g:q=j
   ·rw[show decide (V.int (q:Int)=V.int (j:Int))=true from decide_eq_true (by rw[g])];have ef:(List.range (j+1)).filter (λp=>decide ((Am N S p)[0]? =some p))=(List.range j).filter (λp=>decide ((Am N S p)[0]? =some p))++[j]:=by
     rw[range_succ,filter_append,Qc1 (by rw[Qa4,hg,g]),Qe9]
    have kp:∀(r:Addr) (zs:List V) (o:HO),H6 r=some (.tup zs)->upd H6 E o r=some (.tup zs):=λr zs o e=>by rw[Al (Bx e e6 (by intro z;cases z))];exact e
    refine Dg ⟨_,rfl,e6,An (by rw[If];omega),_,_,qs++[r],rfl,Aw S6 hE,Ab,by rw[map_append];rfl,?_⟩;rw[ef];exact Oz (p6.mono λr zs e=>kp r zs _ e) (kp _ _ _ r6)
   ·rw[show decide (V.int (q:Int)=V.int (j:Int))=false from decide_eq_false (λe=>g (by injection e with e;omega))];have ef:(List.range (j+1)).filter (λp=>decide ((Am N S p)[0]? =some p))=(List.range j).filter (λp=>decide ((Am N S p)[0]? =some p)):=by
     rw[range_succ,filter_append,Qc2 (by rw[Qa4,hg];intro z;exact g (Option.some.inj z)),Qe9,Qc4]
    refine Bp ⟨_,_,qs,rfl,S6,e6,rfl,?_⟩;rw[ef];exact p6
  ·rintro σ ys H5 ⟨u,v,qs,rfl,s5,e5,rfl,p5⟩;rw[If,ll] at p5;refine⟨E,_,rfl,.inl ⟨SqL.of e5,λl hl=> ?_⟩⟩;exact k l qs _ ((s2.trans s5).trans (Ac hl)) Ab (p5.mono λr zs e=>Ac hl _ _ e)
def lay(m:Int):Int:=if m<4 then 0 else if m<8 then 1 else if m<16 then 2 else 3
theorem lay_0(m:Int):0<=lay m:=by unfold lay;split<;> (try split)<;> (try split)<;> omega
theorem lay_4(m:Int):lay m<=3:=by unfold lay;split<;> (try split)<;> (try split)<;> omega
def rm(m k:Int):Int:=m / 2 ^ k.toNat
theorem rm_1{m k:Int}(h1:1<=m)(h2:m<=24)(k0:0<=k)(h:k<=lay m):1<=rm m k:=by
 have:=lay_4 m;obtain⟨j,rfl⟩:∃j:Nat,k=(j:Int):=⟨k.toNat,by omega⟩
 have hj:j=0\/j=1\/j=2\/j=3:=by omega
 unfold lay at h;unfold rm;rcases hj with rfl|rfl|rfl|rfl<;> simp<;> revert h<;> split<;> (try split)<;> (try split)<;> omega
theorem rm_ge{m:Int}{k:Nat}(h1:1<=m)(h2:m<=24):2<=rm m ((k:Int)+1)↔(k:Int)+1<=lay m:=by
 unfold lay rm;by_cases hk:k<=3
 ·have hj:k=0\/k=1\/k=2\/k=3:=by omega
  rcases hj with rfl|rfl|rfl|rfl<;> simp<;> split<;> (try split)<;> (try split)<;> omega
 ·constructor
  ·intro h;exfalso;have e:(2:Int) ^ ((k:Int)+1).toNat=2 ^ (k - 3) * 16:=by
    rw[show ((k:Int)+1).toNat=(k - 3)+4 by omega,Int.pow_add];rfl
   rw[e] at h;have p:(1:Int)<=2 ^ (k - 3):=by
    have:(0:Int)<2 ^ (k - 3):=pow_pos (by decide);omega
   have p2:(2:Int)<=2 ^ (k - 3):=by
    rw[show k - 3=(k - 4)+1 by omega,Int.pow_succ];have:(0:Int)<2 ^ (k - 4):=pow_pos (by decide);omega
   have:m / (2 ^ (k - 3) * 16)=0:=Int.ediv_eq_zero_of_lt (by omega) (by omega);omega
  ·intro h;exfalso
   revert h
   split<;> (try split)<;> (try split)<;> omega
def Gc(x:Str):Prop:=1<=x.length/\x.length<=8/\∀c∈x.cps.toList,97<=c/\c<=122
abbrev R6:=T4×Nat×Bool
def Et(x:R6):List V:=Hy x.1++[.int (x.2.1:Int),.bl x.2.2]
def Sh(N:Nat)(x:R6):Prop:=Gc x.1.1/\Ls N x.1/\(0<=x.1.2.2.2/\x.1.2.2.2<=1000000000)/\(x.2.1:Int)<=lay (N:Int)
def RowsAt(H:Hp)(rs:List Addr)(R:List R6):Prop:=rs.length=R.length/\∀(i:Nat) r x,rs[i]? =some r->R[i]? =some x->H r=some (.tup (Et x))
theorem RowsAt.mono{H H':Hp}{rs:List Addr}{R:List R6}(h:RowsAt H rs R)(f:∀r xs,H r=some (.tup xs)->H' r=some (.tup xs)):RowsAt H' rs R:=⟨h.1,λi r x a b=>f _ _ (h.2 i r x a b)⟩
theorem RowsAt.get{H:Hp}{rs:List Addr}{R:List R6}(h:RowsAt H rs R){i:Nat}{r:Addr}(hr:rs[i]? =some r):∃x,R[i]? =some x/\H r=some (.tup (Et x)):=by
 have hi:i<R.length:=by rw[<-h.1];exact(List.getElem?_eq_some_iff.mp hr).1
 exact⟨R[i],Cb hi,h.2 i r _ hr (Cb hi)⟩
def LayAt(H:Hp)(h:Addr)(N:Nat)(R:List R6):Prop:=∃(tp:Addr) (rs:List Addr),H h=some (.tup [.int (N:Int),.ref tp])/\H tp=some (.tup (rs.map V.ref))/\RowsAt H rs R
def frB(L:Nat)(x:R6):Bool:=decide (L<=x.2.1)
def kpB(L:Nat)(x:R6):Bool:=decide (L<=x.2.1) && x.2.2
def Vi:Sp:=λvs H Q _=>∃(tp:Addr) (rs:List Addr) (R:List R6) (L:Nat),vs=[.ref tp,.int (L:Int)]/\H tp=some (.tup (rs.map V.ref))/\RowsAt H rs R/\R.length<=60/\∀st H',Same H H'->StandAt H' st ((R.filter (frB L)).map (·.1))->Q (.ref st) H'
def Qf:Sp:=λvs H Q _=>∃(tp:Addr) (rs:List Addr) (R:List R6) (L:Nat),vs=[.ref tp,.int (L:Int)]/\H tp=some (.tup (rs.map V.ref))/\RowsAt H rs R/\R.length<=60/\∀st H',Same H H'->StandAt H' st ((R.filter (kpB L)).map (·.1))->Q (.ref st) H'
end K43
namespace Wk
open PySem L2
theorem M0{N:Nat}{S:List T4}{l:List Nat}(h:Ft N S l){ms:List Int}(nd:ms.Nodup)(mem:∀x,x∈ms↔x∈l.map ofNat):ms.length=Eu N S:=by
 have p:ms.Perm (((List.range N).filter (Eb S)).map λp=>ofNat (l.getD p 0)):=by
  refine(List.perm_ext_iff_of_nodup nd ?_).mpr λx=> ?_
  ·rw[List.nodup_iff_pairwise_ne,Qe5];refine(Pairwise.and_mem.mp ((Qf2 (n:=N)).filter _)).imp λ{a b} ⟨ha,hb,lt⟩ e=> ?_;obtain⟨a1,a2⟩:=mem_filter.mp ha;obtain⟨b1,b2⟩:=mem_filter.mp hb;have e:l.getD a 0=l.getD b 0:=by injection e
   exact least_iff.mp b2 a lt ((h.iff a b (mem_range.mp a1) (mem_range.mp b1)).mp e)
  ·rw[mem];constructor
   ·intro hx;obtain⟨z,hz,rfl⟩:=mem_map.mp hx;obtain⟨i,hi,rfl⟩:=List.mem_iff_getElem.mp hz;rw[h.len] at hi;obtain⟨m,h1,h2,h3⟩:=E8 (P:=S) i;refine mem_map.mpr ⟨m,mem_filter.mpr ⟨mem_range.mpr (by omega),h3⟩,?_⟩;have:=(h.iff m i (by omega) hi).mpr h2;show ofNat (l.getD m 0)=ofNat l[i];rw[this,Qa5,getElem?_eq_getElem (by rw[h.len];exact hi)];rfl
   ·intro hx;obtain⟨i,hi,rfl⟩:=mem_map.mp hx;have hi:=mem_range.mp (mem_filter.mp hi).1;refine mem_map.mpr ⟨l.getD i 0,?_,rfl⟩;rw[Qa5,getElem?_eq_getElem (by rw[h.len];exact hi)];exact getElem_mem _
 rw[p.length_eq,If,<-List.countP_eq_length_filter];rfl
theorem Lz:∀(l:List Nat) (x:Nat),(l.map ofNat).count (ofNat x)=l.countP (λy=>decide (y=x))
 |[],_=>rfl
 |y::l,x=>by
  rw[Qb5,List.count_cons,List.countP_cons,Lz l x]
  congr 1
  by_cases e:y=x
  ·rw[e];simp
  ·rw[decide_eq_false e,beq_eq_false_iff_ne.mpr (λz=>e (by injection z))]
theorem Mm(l:List Nat)(p:Nat->Bool):l.countP p=(List.range l.length).countP (λv=>p (l.getD v 0)):=by
 have e:l=(List.range l.length).map (λv=>l.getD v 0):=by
  refine List.ext_getElem (by simp) λi h1 h2=> ?_;rw[getElem_map,List.getElem_range,Qa5,getElem?_eq_getElem h1];rfl
 conv=>lhs;rw[e,List.countP_map]
 rfl
theorem Wo{N p:Nat}{S:List T4}{l:List Nat}(hS:InN N S)(hN:N<=60)(hp:p<N)(h:Ft N S l):(l.map ofNat).count (ofNat (l.getD p 0))=(Am N S p).length:=by
 rw[Lz,Mm,h.len];unfold Am;rw[<-List.countP_eq_length_filter];refine countP_congr λv hv=> ?_;have hv:=mem_range.mp hv;have:=A1 (v:=v) hS hp hN;unfold Am at this;rw[mem_filter] at this;rw[Qa4,h.iff v p hv hp];constructor
 ·intro r;exact(this.mpr ⟨hv,r.symm⟩).2
 ·intro r;exact(this.mp ⟨mem_range.mpr hv,r⟩).2.symm
theorem Qb{S:List T4}{α:Type}{g:Nat->α}(h:∀t∈S,g t.2.1=g t.2.2.1){a b:Nat}(r:Reach S a b):g a=g b:=by
 obtain⟨x,hx⟩:=r
 induction hx with
 |nil=>rfl
 |snoc _ q ih=>
  obtain⟨t,ht,_,z⟩:=D0 q;have:=h t ht;rcases z with⟨rfl,rfl⟩|⟨rfl,rfl⟩
  ·exact ih.trans this
  ·exact ih.trans this.symm
def tw1(N:Nat)(t:T4):T4:=(t.1,t.2.1,t.2.2.1+N,t.2.2.2)
def tw2(N:Nat)(t:T4):T4:=(t.1,t.2.1+N,t.2.2.1,t.2.2.2)
def twF(N:Nat)(S:List T4):List T4:=S.map (tw1 N)++S.map (tw2 N)
theorem tw_in{N:Nat}{S:List T4}(h:InN N S):InN (2 * N) (twF N S):=λt ht=>by
 rcases mem_append.mp ht with z|z<;> obtain⟨u,hu,rfl⟩:=mem_map.mp z<;> have:=h u hu
 ·exact⟨by show u.2.1<_;omega,by show u.2.2.1+N<_;omega⟩
 ·exact⟨by show u.2.1+N<_;omega,by show u.2.2.1<_;omega⟩
theorem tw_two{N:Nat}{S:List T4}{l:List Nat}(hS:InN N S)(h:Ft (2 * N) (twF N S) l):(∀p,p<N->¬l.getD p 0=l.getD (p+N) 0)↔Two S:=by
 constructor
 ·intro no;refine⟨λv=>if l.getD v 0<l.getD (v+N) 0 then 0 else 1,λv=> ?_,λt ht=> ?_⟩
  ·show (if _ then (0:Int) else 1)=0\/(if _ then (0:Int) else 1)=1;split
   ·exact .inl rfl
   ·exact .inr rfl
  ·obtain⟨a,b⟩:=hS t ht;have e1:=(h.iff t.2.1 (t.2.2.1+N) (by omega) (by omega)).mpr (.step (Ei (t:=tw1 N t) (mem_append_left _ (List.mem_map_of_mem ht))));have e2:=(h.iff (t.2.1+N) t.2.2.1 (by omega) (by omega)).mpr (.step (Ei (t:=tw2 N t) (mem_append_right _ (List.mem_map_of_mem ht))));have n1:=no t.2.1 a;show (if l.getD t.2.1 0<l.getD (t.2.1+N) 0 then (0:Int) else 1)≠(if l.getD t.2.2.1 0<l.getD (t.2.2.1+N) 0 then (0:Int) else 1);rw[<-e1,<-e2];by_cases c:l.getD t.2.1 0<l.getD (t.2.1+N) 0
   ·rw[Qa3 c,Qa2 (by omega)];decide
   ·rw[Qa2 c,Qa3 (by omega)];decide
 ·rintro⟨f,two,col⟩ p hp e;have r:=(h.iff p (p+N) (by omega) (by omega)).mp e;have key:∀t∈twF N S,(λv=>if v<N then f v else 1 - f (v - N)) t.2.1=(λv=>if v<N then f v else 1 - f (v - N)) t.2.2.1:=λt ht=>by
   rcases mem_append.mp ht with z|z<;> obtain⟨u,hu,rfl⟩:=mem_map.mp z<;> obtain⟨a,b⟩:=hS u hu<;> have c:=col u hu<;> have d1:=two u.2.1<;> have d2:=two u.2.2.1
   ·show (if u.2.1<N then f u.2.1 else 1 - f (u.2.1 - N))=(if u.2.2.1+N<N then f (u.2.2.1+N) else 1 - f (u.2.2.1+N - N));rw[Qa3 a,Qa2 (by omega),Nat.add_sub_cancel];omega
   ·show (if u.2.1+N<N then f (u.2.1+N) else 1 - f (u.2.1+N - N))=(if u.2.2.1<N then f u.2.2.1 else 1 - f (u.2.2.1 - N));rw[Qa3 b,Qa2 (by omega),Nat.add_sub_cancel];omega
  have:=Qb (g:=λv=>if v<N then f v else 1 - f (v - N)) key r;rw[Qa3 hp,Qa2 (by omega),Nat.add_sub_cancel] at this;have:=two p;omega
end Wk
namespace K43
variable{P:Program}{w:World}{K:Frag}{mg:Str->Option Value}{base:Heap}
open PySem L2 Wk
def tiF(R:List R6)(p:R6->Bool):List T4:=(R.filter p).map (·.1)
theorem mem_ti{R:List R6}{p:R6->Bool}{t:T4}:t∈tiF R p↔∃x∈R,p x=true/\x.1=t:=by
 unfold tiF;rw[mem_map];constructor
 ·rintro⟨x,h,e⟩;exact⟨x,(mem_filter.mp h).1,(mem_filter.mp h).2,e⟩
 ·rintro⟨x,h,g,e⟩;exact⟨x,mem_filter.mpr ⟨h,g⟩,e⟩
theorem Du{N:Nat}{S S':List T4}(hS:InN N S)(hS':InN N S')(hN:N<=60)(h:∀a b,Reach S a b↔Reach S' a b){p:Nat}(hp:p<N):Am N S p=Am N S' p:=by
 have h1:= @A1 S N p;have h2:= @A1 S' N p;unfold Am at h1 h2 ⊢;refine filter_congr λv hv=> ?_;have q1:=h1 (v:=v) hS hp hN;have q2:=h2 (v:=v) hS' hp hN;rw[mem_filter] at q1 q2;have:=(q1.trans (and_congr_right λ_=>h p v)).trans q2.symm;rw[Bool.eq_iff_iff];exact⟨λz=>(this.mp ⟨hv,z⟩).2,λz=>(this.mpr ⟨hv,z⟩).2⟩
theorem Vs{N:Nat}{S S':List T4}(hS:InN N S)(hS':InN N S')(hN:N<=60)(h:∀a b,Reach S a b↔Reach S' a b):lsF N S=lsF N S':=by
 unfold lsF;refine filter_congr λv hv=> ?_;rw[Du hS hS' hN h (mem_range.mp hv)]
structure LGood(N:Nat)(R:List R6):Prop where
 ok:∀x∈R,Sh N x
 nd:(R.map (·.1.1)).Nodup
 len:R.length<=60
 same:∀L:Nat,(L:Int)<=lay N->∀a b,Reach (tiF R (frB L)) a b->Reach (tiF R (kpB L)) a b
 size:∀L:Nat,(L:Int)<=lay N->∀p,p<N->((Am N (tiF R (frB L)) p).length:Int)<=rm N L
 forest:Eu N (tiF R (kpB 0))+(tiF R (kpB 0)).length<=N
theorem LGood.inN{N:Nat}{R:List R6}(h:LGood N R)(p:R6->Bool):InN N (tiF R p):=λt ht=>by
 obtain⟨x,hx,_,rfl⟩:=mem_ti.mp ht;exact⟨(h.ok x hx).2.1.1,(h.ok x hx).2.1.2.1⟩
theorem M3{R:List R6}{L:Nat}:∀t∈tiF R (kpB L),t∈tiF R (frB L):=λt ht=>by
 obtain⟨x,hx,g,rfl⟩:=mem_ti.mp ht;exact mem_ti.mpr ⟨x,hx,(Qd9 _ _▸g:_/\_).1,rfl⟩
theorem LGood.iff{N:Nat}{R:List R6}(h:LGood N R){L:Nat}(hL:(L:Int)<=lay N)(a b:Nat):Reach (tiF R (frB L)) a b↔Reach (tiF R (kpB L)) a b:=⟨h.same L hL a b,λq=>q.mono M3⟩
theorem Fg{R R':List R6}(p:R'.Perm R)(f:R6->Bool):(tiF R' f).Perm (tiF R f):=(p.filter f).map _
theorem Ev{S S':List T4}(p:S'.Perm S)(a b:Nat):Reach S' a b↔Reach S a b:=⟨λh=>h.mono λt ht=>p.mem_iff.mp ht,λh=>h.mono λt ht=>p.mem_iff.mpr ht⟩
theorem LGood.perm{N:Nat}{R R':List R6}(h:LGood N R)(N60:N<=60)(p:R'.Perm R):LGood N R' where
 ok:=λx hx=>h.ok x (p.mem_iff.mp hx)
 nd:=((p.map _).nodup_iff).mpr h.nd
 len:=by rw[p.length_eq];exact h.len
 same:=λL hL a b q=>(Ev (Fg p _) a b).mpr (h.same L hL a b ((Ev (Fg p _) a b).mp q))
 size:=λL hL v hv=>by
  have i1:InN N (tiF R' (frB L)):=λt ht=>h.inN (frB L) t ((Fg p _).mem_iff.mp ht);rw[Du i1 (h.inN _) N60 (λa b=>Ev (Fg p _) a b) hv];exact h.size L hL v hv
 forest:=by
  rw[Fp (R:=tiF R (kpB 0)) λa b _ _=>Ev (Fg p _) a b,(Fg p _).length_eq];exact h.forest
theorem LGood.nil{N:Nat}(N1:1<=N)(N24:N<=24):LGood N [] where
 ok:=λx hx=>nomatch hx
 nd:=nodup_nil
 len:=Qb8 _
 same:=λL hL a b q=>q
 size:=λL hL v hv=>by
  rw[show tiF [] (frB L)=[] from rfl,(ls_nil (N:=N) (by omega)).2 v hv];exact rm_1 (by omega) (by omega) (by omega) hL
 forest:=by
  rw[show tiF [] (kpB 0)=[] from rfl,Q5];exact le_refl _
theorem Yi{m:Int}{a b:Nat}(m0:0<=m)(h:a<=b):rm m b<=rm m a:=by
 unfold rm;obtain⟨d,rfl⟩:=Nat.exists_eq_add_of_le h;rw[show ((a:Nat):Int).toNat=a by omega,show (((a+d:Nat)):Int).toNat=a+d by omega,Int.pow_add,<-Int.ediv_ediv_of_nonneg (Int.le_of_lt (pow_pos (by decide)))];exact Int.ediv_le_self _ (Int.ediv_nonneg m0 (Int.le_of_lt (pow_pos (by decide))))
theorem Gj{R:List R6}{l L:Nat}(lo:∀x∈R,l<=x.2.1)(h:L<=l):tiF R (frB L)=R.map (·.1):=by
 unfold tiF;rw[filter_eq_self.mpr (show ∀x∈R,frB L x=true from λx hx=>decide_eq_true (le_trans h (lo x hx)))]
theorem Jb{R:List R6}{x:R6}{p:R6->Bool}:tiF (R++[x]) p=tiF R p++(if p x=true then [x.1] else []):=by
 unfold tiF;rw[filter_append,map_append]
 congr 1
 by_cases g:p x=true
 ·rw[Qa3 g,Qc1 g];rfl
 ·rw[Qa2 g,Qc2 g];rfl
theorem Xf{N:Nat}{S:List T4}{t:T4}(hS:InN N S)(h1:t.2.1<N)(h2:t.2.2.1<N)(hN:N<=60){p:Nat}(hp:p<N):
  (Am N (S++[t]) p).length<=(Am N S t.2.1).length+(Am N S t.2.2.1).length\/Am N (S++[t]) p=Am N S p:=by
 have hS':InN N (S++[t]):=λu hu=>by
  rcases mem_append.mp hu with q|q
  ·exact hS u q
  ·rw[mem_singleton.mp q];exact⟨h1,h2⟩
 by_cases g:Reach S p t.2.1\/Reach S p t.2.2.1
 ·left;have:∀v∈Am N (S++[t]) p,v∈Am N S t.2.1++Am N S t.2.2.1:=λv hv=>by
   obtain⟨vN,r⟩:=(A1 hS' hp hN).mp hv;rw[mem_append,A1 hS h1 hN,A1 hS h2 hN];rcases reach_snoc.mp r with r|⟨_,r⟩|⟨_,r⟩
   ·rcases g with g|g
    ·exact .inl ⟨vN,g.symm.trans r⟩
    ·exact .inr ⟨vN,g.symm.trans r⟩
   ·exact .inr ⟨vN,r⟩
   ·exact .inl ⟨vN,r⟩
  have nd:(Am N (S++[t]) p).Nodup:=(nodup_range).sublist Qc3;rw[<-Qa0];exact Nodup.length_le_of_subset nd this
 ·right;have h1':= @A1 (S++[t]) N p;have h2':= @A1 S N p;unfold Am at h1' h2' ⊢;refine filter_congr λv hv=> ?_;have q1:=h1' (v:=v) hS' hp hN;have q2:=h2' (v:=v) hS hp hN;rw[mem_filter] at q1 q2;have e:Reach (S++[t]) p v↔Reach S p v:=by
   rw[reach_snoc];exact⟨λz=>z.elim id λz=>z.elim (λz=>absurd (.inl z.1) g) λz=>absurd (.inr z.1) g,.inl⟩
  have:=(q1.trans (and_congr_right λ_=>e)).trans q2.symm;rw[Bool.eq_iff_iff];exact⟨λz=>(this.mp ⟨hv,z⟩).2,λz=>(this.mpr ⟨hv,z⟩).2⟩
theorem LGood.more{N l:Nat}{R:List R6}(h:LGood N R)(N60:N<=60)(lo:∀x∈R,l<=x.2.1){t:T4}{b:Bool}(hx:Sh N (t,l,b))(fresh:t.1 ∉ R.map (·.1.1))(len:R.length<60)(hb:b=true↔¬Reach (R.map (·.1)) t.2.1 t.2.2.1)(hs:b=true->((Am N (R.map (·.1)) t.2.1).length+(Am N (R.map (·.1)) t.2.2.1).length:Int)<=rm N l):LGood N (R++[(t,l,b)]):=by
 obtain⟨t1,t2,_⟩:=hx.2.1;have kr:∀L,L<=l->(∀a c,Reach (R.map (·.1)) a c->Reach (tiF R (kpB L)) a c):=λL hL a c q=>by
  have hl:(l:Int)<=lay N:=hx.2.2.2;rw[<-Gj lo hL] at q;exact h.same L (by omega) a c q
 refine⟨?_,?_,by rw[Qa0];exact len,?_,?_,?_⟩
 ·intro x hx';rcases mem_append.mp hx' with q|q
  ·exact h.ok x q
  ·rw[mem_singleton.mp q];exact hx
 ·rw[map_append,Qe6];refine⟨h.nd,by simp,λa ha c hc=> ?_⟩;rw[Qb5,map_nil,mem_singleton] at hc;intro e;rw[e,hc] at ha;exact fresh ha
 ·intro L hL a c q;rw[Jb] at q ⊢;by_cases g:L<=l
  ·rw[Qa3 (show frB L (t,l,b)=true from decide_eq_true g),Gj lo g] at q;have ek:kpB L (t,l,b)=b:=by simp[kpB,g]
   rw[ek];cases b with
   |false=>
    rw[Qa2 (by simp),Qc4];have r:Reach (R.map (·.1)) t.2.1 t.2.2.1:=Classical.byContradiction λz=>absurd (hb.mpr z) (by simp);refine kr L g a c ?_;rcases reach_snoc.mp q with q|⟨q1,q2⟩|⟨q1,q2⟩
    ·exact q
    ·exact(q1.trans r).trans q2
    ·exact(q1.trans r.symm).trans q2
   |true=>
    rw[Qa3 rfl];refine reach_snoc.mpr ?_;rcases reach_snoc.mp q with q|⟨q1,q2⟩|⟨q1,q2⟩
    ·exact .inl (kr L g _ _ q)
    ·exact .inr (.inl ⟨kr L g _ _ q1,kr L g _ _ q2⟩)
    ·exact .inr (.inr ⟨kr L g _ _ q1,kr L g _ _ q2⟩)
  ·rw[Qa2 (show ¬frB L (t,l,b)=true by simp[frB,g]),Qc4] at q;rw[Qa2 (show ¬kpB L (t,l,b)=true by simp[kpB,g]),Qc4];exact h.same L hL a c q
 ·intro L hL p hp;rw[Jb];by_cases g:L<=l
  ·rw[Qa3 (show frB L (t,l,b)=true from decide_eq_true g),Gj lo g];have old:=h.size L hL p hp;rw[Gj lo g] at old;have i0:InN N (R.map (·.1)):=by rw[<-Gj lo g];exact h.inN _
   have mo:=Yi (m:=(N:Int)) (by omega) g;rcases Xf i0 t1 t2 N60 hp with q|q
   ·have q:(Am N (R.map (·.1)++[t]) p).length<=(Am N (R.map (·.1)) t.2.1).length+(Am N (R.map (·.1)) t.2.2.1).length:=q;cases b with
    |true=>
     have:=hs rfl;show ((Am N (R.map (·.1)++[t]) p).length:Int)<=_;omega
    |false=>
     have r:Reach (R.map (·.1)) t.2.1 t.2.2.1:=Classical.byContradiction λz=>absurd (hb.mpr z) (by simp);have i1:InN N (R.map (·.1)++[t]):=λu hu=>by
      rcases mem_append.mp hu with q|q
      ·exact i0 u q
      ·rw[mem_singleton.mp q];exact⟨t1,t2⟩
     rw[Du i1 i0 N60 (λa c=>⟨λq=> ?_,λq=>reach_snoc.mpr (.inl q)⟩) hp]
     ·exact old
     ·rcases reach_snoc.mp q with q|⟨q1,q2⟩|⟨q1,q2⟩
      ·exact q
      ·exact(q1.trans r).trans q2
      ·exact(q1.trans r.symm).trans q2
   ·rw[q];exact old
  ·rw[Qa2 (show ¬frB L (t,l,b)=true by simp[frB,g]),Qc4];exact h.size L hL p hp
 ·rw[Jb];cases b with
  |false=>rw[Qa2 (by simp[kpB]),Qc4];exact h.forest
  |true=>
   rw[Qa3 (by simp[kpB])];have nr:¬Reach (tiF R (kpB 0)) t.2.1 t.2.2.1:=λz=>hb.mp rfl (z.mono λu hu=>by
    rw[<-Gj lo (Qb8 _)];exact M3 u hu)
   have:=Jj t1 t2 nr;have:=h.forest;rw[Qa0];show _+(_+1)<=N;omega
theorem Ho{H:Hp}{qs:List Addr}{S:List T4}{r:Addr}{t:T4}(h:TiesAt H qs S)(hr:H r=some (.tup (Hy t))):TiesAt H (qs++[r]) (S++[t]):=by
 refine⟨by rw[Qa0,Qa0,h.1];rfl,λi r0 p0 e1 e2=> ?_⟩;rw[getElem?_append] at e1 e2;rw[h.1] at e1;split at e1
 ·rename_i z;rw[Qa3 z] at e2;exact h.2 i r0 p0 e1 e2
 ·rename_i z;rw[Qa2 z] at e2;have hz:i - S.length=0:=by
   have:=(List.getElem?_eq_some_iff.mp e1).1;simp only[Qa6,Qb9] at this;omega
  rw[hz] at e1 e2;cases e1;cases e2;exact hr
theorem El{H H':Hp}{rs:List Addr}{S:List T4}(h:TiesAt H rs S)(f:∀r xs,H r=some (.tup xs)->H' r=some (.tup xs)):TiesAt H' rs S:=⟨h.1,λi r t a b=>f _ _ (h.2 i r t a b)⟩
theorem cut4(x:R6):Ec (Et x) none (some (4:Int))=Hy x.1:=by
 rw[show (some (4:Int))=some ((4:Nat):Int) from rfl,K6 (by show 4<=6;decide)];rfl
theorem Ip{R:List R6}{j:Nat}{y:R6}(e:R[j]? =some y)(p:R6->Bool):tiF (R.take (j+1)) p=tiF (R.take j) p++(if p y=true then [y.1] else []):=by rw[A9 e,Jb]
theorem Mt(R:List R6)(p:R6->Bool):(tiF R p).length<=R.length:=by unfold tiF;rw[If];exact Qb2 _ _
theorem LayAt.mono{H H':Hp}{h:Addr}{N:Nat}{R:List R6}(x:LayAt H h N R)(f:∀r xs,H r=some (.tup xs)->H' r=some (.tup xs)):LayAt H' h N R:=let ⟨tp,rs,a,b,c⟩:=x;⟨tp,rs,f _ _ a,f _ _ b,c.mono f⟩
theorem LayAt.same{H H':Hp}{h:Addr}{N:Nat}{R:List R6}(x:LayAt H h N R)(s:Same H H'):LayAt H' h N R:=x.mono λr xs=>s r (.tup xs)
def Re(K:Frag):List V->Hp->VK->Prop:=λxs H Q=>∃p ys,xs=[.ref p]/\(SqL K H p ys\/SqT K H p ys)/\Q (.int ys.length) H
def Ju:Sp:=λvs H Q _=>∃(h:Addr) (N:Nat) (R:List R6),vs=[.ref h]/\LayAt H h N R/\R.length<=60/\∀st H',Same H H'->StandT H' st (R.map (·.1))->Q (.ref st) H'
theorem Qs(R:List R6):tiF R (frB 0)=R.map (·.1):=Gj (l:=0) (λ_ _=>Qb8 _) (le_refl _)
theorem scTies:Ax ["rows","layer"] ["rows","layer"] (Ah R8):=⟨rfl,rfl,rfl,by decide+kernel,rfl,by decide+kernel,by decide+kernel⟩
theorem Y9{f:Addr}{fd:FuncData}(F:Fun K "ties_from" "ties_from" R8 f fd)(T:Txt mg):
  FnOk P w K mg base CX0 1 f fd ["rows","layer"] Vi:=by
 refine F.ok scTies (λvs H Q E h=> ?_) (λcdv A outer s H vs Q E hr h=> ?_)
 ·obtain⟨_,_,_,_,rfl,_⟩:=h;rfl
 ·obtain⟨tp,rs,R,L,rfl,ht,hR,lR,k⟩:=h;refine⟨_,Ag (Ap (Bj (T:=["row"]) (F:=["layer"]) (js:=[1]) (cs (osc:=Ah R8)) rfl (Ca (pv 0)) (λ_ _ _ _ _=>Aj (i:=0) (show (["row","layer"]:List Str).Nodup by decide+kernel) rfl (Or.inl rfl)) (λ_ _ _ _ _=>Cs (As Xl (Aq (r:=J4 K) Az (pv 0) Af (λ_ _=>rfl)) (pv 1) (Ar _))) (λ_ _ _ _ _=>Ce (r:=Ij K) Dc (pv 0) Do (Br Af)))),?_⟩;refine⟨_,rfl,tp,rfl,⟨_,SqT.of ht⟩,λD hD=>Cj (K:=K) (a:=tp) (xs:=rs.map V.ref) (λj σ ys H2=>∃(u:Option V) (qs:List Addr),σ=[u,some (.int (L:Int))]/\ys=qs.map V.ref/\Same H H2/\H2 D=some (.lst ys)/\TiesAt H2 qs (tiF (R.take j) (frB L))) ⟨none,[],rfl,rfl,Ac hD,Ab,rfl,λi r t e=>by simp at e⟩ (λj σ ys H2 _ ⟨_,_,_,_,s,e,_⟩=>⟨SqT.of (s _ _ ht),e⟩) ?_ ?_⟩
  ·rintro j x σ ys H2 hx ⟨u,qs,rfl,rfl,s2,d2,p2⟩;obtain⟨r,er,rfl⟩:=A3 hx;obtain⟨y,ey,hy⟩:=hR.get er;have h2:=s2 _ _ hy;have ql:qs.length<=60:=by
    rw[p2.1];exact le_trans (Mt _ _) (le_trans (List.length_take_le' _ _) lR)
   have yes:frB L y=true->tSl (Ij K) (Pc 0) Ir (V4 (tC (.int 4))) [some (.ref r),some (.int (L:Int))] H2 (λx H3=>H3 D=some (.lst (qs.map V.ref))/\(qs.map V.ref).length<sizeLine/\(∃(u:Option V) (qs':List Addr),[some (.ref r),some (.int (L:Int))]=[u,some (.int (L:Int))]/\qs.map V.ref++[x]=qs'.map V.ref/\Same H (upd H3 D (.lst (qs.map V.ref++[x])))/\upd H3 D (.lst (qs.map V.ref++[x])) D=some (.lst (qs.map V.ref++[x]))/\TiesAt (upd H3 D (.lst (qs.map V.ref++[x]))) qs' (tiF (R.take (j+1)) (frB L)))):=λg=>by
    refine⟨_,rfl,_,rfl,Cz h2 λr4 H3 s3 e3=> ?_⟩;rw[cut4] at e3;have d3:=s3 _ _ d2;have kp:∀(r:Addr) (zs:List V) (o:HO),H3 r=some (.tup zs)->upd H3 D o r=some (.tup zs):=λr zs o e=>by rw[Al (Bx e d3 (by intro z;cases z))];exact e
    refine⟨d3,An (by rw[If];omega),_,qs++[r4],rfl,by rw[map_append];rfl,Aw (s2.trans s3) hD,Ab,?_⟩;rw[Ip ey,Qa3 g];exact Ho (El (p2.same s3) λr zs e=>kp r zs _ e) (kp _ _ _ e3)
   have no:¬frB L y=true->(∃(u:Option V) (qs':List Addr),[some (.ref r),some (.int (L:Int))]=[u,some (.int (L:Int))]/\qs.map V.ref=qs'.map V.ref/\Same H H2/\H2 D=some (.lst (qs.map V.ref))/\TiesAt H2 qs' (tiF (R.take (j+1)) (frB L))):=λg=>⟨_,qs,rfl,rfl,s2,d2,by rw[Ip ey,Qa2 g,Qc4];exact p2⟩
   refine⟨_,rfl,r,_,4,_,rfl,rfl,SqT.of h2,Ai (j:=4) rfl,_,rfl,_,_,rfl,rfl,_,rfl,?_⟩;refine Bz (λc=> ?_) λc=> ?_
   ·have c:L<=y.2.1:=by have:=Qb1 c;omega
    exact yes (show frB L y=true by simp[frB,c])
   ·have c:¬L<=y.2.1:=λz=>c (decide_eq_true (by omega));exact no (show ¬frB L y=true by simp[frB,c])
  rintro σ ys H2 ⟨u,qs,rfl,rfl,s2,d2,p2⟩;rw[If,hR.1,Qb3] at p2;exact k D H2 s2 ⟨qs,d2,p2⟩
theorem scKept:Ax ["rows","layer"] ["rows","layer"] (Ah Sd):=⟨rfl,rfl,rfl,by decide+kernel,rfl,by decide+kernel,by decide+kernel⟩
theorem X8{f:Addr}{fd:FuncData}(F:Fun K "kept_from" "kept_from" Sd f fd)(T:Txt mg):
  FnOk P w K mg base CX0 1 f fd ["rows","layer"] Qf:=by
 refine F.ok scKept (λvs H Q E h=> ?_) (λcdv A outer s H vs Q E hr h=> ?_)
 ·obtain⟨_,_,_,_,rfl,_⟩:=h;rfl
 ·obtain⟨tp,rs,R,L,rfl,ht,hR,lR,k⟩:=h;refine⟨_,Ag (Ap (Bj (T:=["row"]) (F:=["layer"]) (js:=[1]) (cs (osc:=Ah Sd)) rfl (Ca (pv 0)) (λ_ _ _ _ _=>Aj (i:=0) (show (["row","layer"]:List Str).Nodup by decide+kernel) rfl (Or.inl rfl)) (λ_ _ _ _ _=>Cs (PW.pt (Qq (As Xl (Aq (r:=J4 K) Az (pv 0) Af (λ_ _=>rfl)) (pv 1) (Ar _)) (Mp (Cv (Aq (r:=J4 K) Az (pv 0) Af (λ_ _=>rfl))))))) (λ_ _ _ _ _=>Ce (r:=Ij K) Dc (pv 0) Do (Br Af)))),?_⟩;refine⟨_,rfl,tp,rfl,⟨_,SqT.of ht⟩,λD hD=>Cj (K:=K) (a:=tp) (xs:=rs.map V.ref) (λj σ ys H2=>∃(u:Option V) (qs:List Addr),σ=[u,some (.int (L:Int))]/\ys=qs.map V.ref/\Same H H2/\H2 D=some (.lst ys)/\TiesAt H2 qs (tiF (R.take j) (kpB L))) ⟨none,[],rfl,rfl,Ac hD,Ab,rfl,λi r t e=>by simp at e⟩ (λj σ ys H2 _ ⟨_,_,_,_,s,e,_⟩=>⟨SqT.of (s _ _ ht),e⟩) ?_ ?_⟩
  ·rintro j x σ ys H2 hx ⟨u,qs,rfl,rfl,s2,d2,p2⟩;obtain⟨r,er,rfl⟩:=A3 hx;obtain⟨y,ey,hy⟩:=hR.get er;have h2:=s2 _ _ hy;have ql:qs.length<=60:=by
    rw[p2.1];exact le_trans (Mt _ _) (le_trans (List.length_take_le' _ _) lR)
   have yes:kpB L y=true->tSl (Ij K) (Pc 0) Ir (V4 (tC (.int 4))) [some (.ref r),some (.int (L:Int))] H2 (λx H3=>H3 D=some (.lst (qs.map V.ref))/\(qs.map V.ref).length<sizeLine/\(∃(u:Option V) (qs':List Addr),[some (.ref r),some (.int (L:Int))]=[u,some (.int (L:Int))]/\qs.map V.ref++[x]=qs'.map V.ref/\Same H (upd H3 D (.lst (qs.map V.ref++[x])))/\upd H3 D (.lst (qs.map V.ref++[x])) D=some (.lst (qs.map V.ref++[x]))/\TiesAt (upd H3 D (.lst (qs.map V.ref++[x]))) qs' (tiF (R.take (j+1)) (kpB L)))):=λg=>by
    refine⟨_,rfl,_,rfl,Cz h2 λr4 H3 s3 e3=> ?_⟩;rw[cut4] at e3;have d3:=s3 _ _ d2;have kp:∀(r:Addr) (zs:List V) (o:HO),H3 r=some (.tup zs)->upd H3 D o r=some (.tup zs):=λr zs o e=>by rw[Al (Bx e d3 (by intro z;cases z))];exact e
    refine⟨d3,An (by rw[If];omega),_,qs++[r4],rfl,by rw[map_append];rfl,Aw (s2.trans s3) hD,Ab,?_⟩;rw[Ip ey,Qa3 g];exact Ho (El (p2.same s3) λr zs e=>kp r zs _ e) (kp _ _ _ e3)
   have no:¬kpB L y=true->(∃(u:Option V) (qs':List Addr),[some (.ref r),some (.int (L:Int))]=[u,some (.int (L:Int))]/\qs.map V.ref=qs'.map V.ref/\Same H H2/\H2 D=some (.lst (qs.map V.ref))/\TiesAt H2 qs' (tiF (R.take (j+1)) (kpB L))):=λg=>⟨_,qs,rfl,rfl,s2,d2,by rw[Ip ey,Qa2 g,Qc4];exact p2⟩
   refine⟨_,rfl,r,_,4,_,rfl,rfl,SqT.of h2,Ai (j:=4) rfl,_,rfl,_,_,rfl,rfl,_,rfl,?_⟩;refine Bz (λc=> ?_) λc=> ?_
   ·have c:L<=y.2.1:=by have:=Qb1 c;omega
    refine⟨_,rfl,r,_,5,_,rfl,rfl,SqT.of h2,Ai (j:=5) rfl,_,rfl,?_⟩;refine Bz (λc2=> ?_) λc2=> ?_
    ·have c2:y.2.2=true:=c2;refine yes (show kpB L y=true by simp[kpB,c,c2])
    ·have c2:¬y.2.2=true:=c2;exact no (show ¬kpB L y=true by simp[kpB,c2])
   ·have c:¬L<=y.2.1:=λz=>c (decide_eq_true (by omega));exact Bp (no (show ¬kpB L y=true by simp[kpB,c]))
  rintro σ ys H2 ⟨u,qs,rfl,rfl,s2,d2,p2⟩;rw[If,hR.1,Qb3] at p2;exact k D H2 s2 ⟨qs,d2,p2⟩
theorem Vj:Ax ["layers"] ["layers"] (Ah L6):=⟨rfl,rfl,rfl,by decide+kernel,rfl,by decide+kernel,by decide+kernel⟩
theorem Ua{f:Addr}{fd:FuncData}(F:Fun K "stand_of" "stand_of" L6 f fd)(T:Txt mg)(GTies:Cl P w K mg base 1 "ties_from" ["rows","layer"] Vi):
  FnOk P w K mg base CX0 2 f fd ["layers"] Ju:=by
 refine F.ok Vj (λvs H Q E h=> ?_) (λcdv A outer s H vs Q E hr h=> ?_)
 ·obtain⟨_,_,_,rfl,_⟩:=h;rfl
 ·obtain⟨h,N,R,rfl,⟨tp,rs,hh,ht,hR⟩,lR,k⟩:=h;refine⟨_,Ag (Ap (A6 A7 (by rfl) T.tuple (by decide+kernel) (Aa (Au GTies hr (Aa (Aq Az (pv 0) Af (λ_ _=>rfl)) (Aa Af Ad))) Ad))),?_⟩;refine⟨_,rfl,h,_,1,_,rfl,rfl,SqT.of hh,Ai (j:=1) rfl,tp,rs,R,0,rfl,ht,hR,lR,λst H1 s1 h1=> ?_⟩;obtain⟨qs,q1,q2⟩:=h1;refine⟨st,_,rfl,.inl ⟨SqL.of q1,λl hl=> ?_⟩⟩;have e:(R.filter (frB 0)).map (·.1)=R.map (·.1):=Qs R;rw[e] at q2;exact k l _ (s1.trans (Ac hl)) ⟨qs,Ab,El q2 λr zs z=>Ac hl _ _ z⟩
theorem RowsAt.snoc{H:Hp}{rs:List Addr}{R:List R6}{r:Addr}{x:R6}(h:RowsAt H rs R)(hr:H r=some (.tup (Et x))):RowsAt H (rs++[r]) (R++[x]):=by
 refine⟨by rw[Qa0,Qa0,h.1];rfl,λi r0 p0 e1 e2=> ?_⟩;rw[getElem?_append] at e1 e2;rw[h.1] at e1;split at e1
 ·rename_i z;rw[Qa3 z] at e2;exact h.2 i r0 p0 e1 e2
 ·rename_i z;rw[Qa2 z] at e2;have hz:i - R.length=0:=by
   have:=(List.getElem?_eq_some_iff.mp e1).1;simp only[Qa6,Qb9] at this;omega
  rw[hz] at e1 e2;cases e1;cases e2;exact hr
def tailR(x:R6):List V:=[.int (x.1.2.1:Int),.int (x.1.2.2.1:Int),.int x.1.2.2.2,.int (x.2.1:Int),.bl x.2.2]
def Yl(q:Addr×R6):Srt.Pn:=(q.1,q.2.1.1,tailR q.2)
theorem pn_ref{rs:List Addr}{R:List R6}(h:rs.length=R.length):((rs.zip R).map Yl).map Srt.nRef=rs.map V.ref:=by
 rw[map_map];have e:(rs.zip R).map Prod.fst=rs:=List.map_fst_zip (le_of_eq h)
 conv=>rhs;rw[<-e,map_map]
 rfl
theorem pn_nm{rs:List Addr}{R:List R6}(h:rs.length=R.length):((rs.zip R).map Yl).map (·.2.1)=R.map (·.1.1):=by
 rw[map_map];have e:(rs.zip R).map Prod.snd=R:=List.map_snd_zip (le_of_eq h.symm)
 conv=>rhs;rw[<-e,map_map]
 rfl
theorem RowsAt.zip{H:Hp}{rs:List Addr}{R:List R6}(h:RowsAt H rs R):∀q∈rs.zip R,H q.1=some (.tup (Et q.2)):=λq hq=>by
 obtain⟨i,hi,e⟩:=getElem_of_mem hq;rw[List.getElem_zip] at e;rw[List.length_zip] at hi;subst e;exact h.2 i _ _ (Cb (by omega)) (Cb (by omega))
theorem RowsAt.unzip{H:Hp}{l:List (Addr×R6)}(h:∀q∈l,H q.1=some (.tup (Et q.2))):RowsAt H (l.map (·.1)) (l.map (·.2)):=⟨by rw[If,If],λi r x e1 e2=>by
 rw[getElem?_map] at e1 e2;cases e:l[i]? with
 |none=>rw[e] at e1;cases e1
 |some q=>
  rw[e] at e1 e2;cases e1;cases e2;exact h q (mem_of_getElem? e)⟩
theorem str_ext{x y:Str}(h:x.cps.toList=y.cps.toList):x=y:=by
 cases x;cases y;congr 1;exact Array.toList_inj.mp h
def UpP(R:List R6):Prop:=R.Pairwise λx y=>x.1.1.cps.toList<y.1.1.cps.toList
def Bh(R:List R6)(n:Str):List R6:=R.filter λx=> !decide (x.1.1=n)
def Iu:Sp:=λvs H Q _=>∃(tp:Addr) (rs:List Addr) (R:List R6) (n:Str),vs=[.ref tp,.str n]/\H tp=some (.tup (rs.map V.ref))/\RowsAt H rs R/\(∀(r:Addr) (x:R6),H r=some (.tup (Et x))->x∈R->x.1.1=n->Q (.ref r) H)/\(n ∉ R.map (·.1.1)->Q .non H)
def Fn:Sp:=λvs H Q _=>∃(tp:Addr) (rs:List Addr) (R:List R6) (n:Str),vs=[.ref tp,.str n]/\H tp=some (.tup (rs.map V.ref))/\RowsAt H rs R/\R.length<=60/\∀(tq:Addr) (qs:List Addr) (H':Hp),Same H H'->H' tq=some (.tup (qs.map V.ref))->RowsAt H' qs (Bh R n)->Q (.ref tq) H'
theorem Y4{R:List R6}{j:Nat}{y:R6}(h:R[j]? =some y):y∈R:=mem_of_getElem? h
theorem scRowOf:Ax ["rows","name","row"] ["rows","name"] (Ah P0):=⟨rfl,rfl,rfl,by decide+kernel,rfl,by decide+kernel,by decide+kernel⟩
theorem Wb{f:Addr}{fd:FuncData}(F:Fun K "row_of" "row_of" P0 f fd)(T:Txt mg):
  FnOk P w K mg base CX0 1 f fd ["rows","name"] Iu:=by
 refine F.ok scRowOf (λvs H Q E h=> ?_) (λcdv A outer s H vs Q E hr h=> ?_)
 ·obtain⟨_,_,_,_,rfl,_⟩:=h;rfl
 ·obtain⟨tp,rs,R,n,rfl,ht,hR,k1,k2⟩:=h;refine⟨_,Ae (Ct PassesOwn.never rfl (Ca (pv 0)) (Aj (i:=2) scRowOf.nd rfl (Or.inl rfl)) (Ag (Be (As Bl (Aq Az (pv 2) Af (λ_ _=>rfl)) (pv 1) (Ar _)) (Ag (Ap (pv 2))) A2)))
   (Ag (Ap Ch)),?_⟩
  refine⟨_,rfl,tp,rfl,⟨_,SqT.of ht⟩,Ex (K:=K) (a:=tp) (xs:=rs.map V.ref) (λj σ H2=>∃u:Option V,σ=[some (.ref tp),some (.str n),u]/\H2=H/\n ∉ (R.take j).map (·.1.1)) ⟨none,rfl,rfl,by simp⟩ (λj σ H2 _ ⟨_,_,e,_⟩=>SqT.of (e▸ht)) ?_ ?_⟩
  ·rintro j x σ H2 hx ⟨u,rfl,rfl,hn⟩;obtain⟨r,er,rfl⟩:=A3 hx;obtain⟨y,ey,hy⟩:=hR.get er;refine⟨_,rfl,r,_,0,_,rfl,rfl,SqT.of hy,Ai (j:=0) rfl,_,rfl,rfl,_,rfl,Bz (λc=> ?_) λc=> ?_⟩
   ·have c:y.1.1=n:=by simpa using c
    exact⟨_,rfl,k1 r y hy (Y4 ey) c⟩
   ·have c:¬y.1.1=n:=by simpa using c
    refine⟨_,rfl,rfl,?_⟩;rw[Qc8,ey,map_append,mem_append];rintro(z|z)
    ·exact hn z
    ·exact c (mem_singleton.mp z).symm
  rintro σ H2 ⟨u,rfl,rfl,hn⟩;rw[If,hR.1,Qb3] at hn;exact k2 hn
theorem T9:Ax ["rows","name"] ["rows","name"] (Ah Gq):=⟨rfl,rfl,rfl,by decide+kernel,rfl,by decide+kernel,by decide+kernel⟩
theorem Pb{f:Addr}{fd:FuncData}(F:Fun K "rows_without" "rows_without" Gq f fd)(T:Txt mg):
  FnOk P w K mg base CX0 1 f fd ["rows","name"] Fn:=by
 refine F.ok T9 (λvs H Q E h=> ?_) (λcdv A outer s H vs Q E hr h=> ?_)
 ·obtain⟨_,_,_,_,rfl,_⟩:=h;rfl
 ·obtain⟨tp,rs,R,n,rfl,ht,hR,R60,k⟩:=h;refine⟨_,Ag (Ap (A6 A7 (by rfl) T.tuple (by decide+kernel) (Aa (Bj (T:=["row"]) (F:=["name"]) (js:=[1]) (cs (osc:=Ah Gq)) rfl (Ca (pv 0)) (λ_ _ _ _ _=>Aj (i:=0) (show (["row","name"]:List Str).Nodup by decide+kernel) rfl (Or.inl rfl)) (λ_ _ _ _ _=>Cs (As Sj (Aq (r:=J4 K) Az (pv 0) Af (λ_ _=>rfl)) (pv 1) (Ar _))) (λ_ _ _ _ _=>pv 0)) Ad))),?_⟩;refine⟨_,rfl,tp,rfl,⟨_,SqT.of ht⟩,λD hD=>Cj (K:=K) (a:=tp) (xs:=rs.map V.ref) (λj σ ys H2=>∃(u:Option V) (qs:List Addr),σ=[u,some (.str n)]/\ys=qs.map V.ref/\Same H H2/\H2 D=some (.lst ys)/\RowsAt H2 qs (Bh (R.take j) n)) ⟨none,[],rfl,rfl,Ac hD,Ab,rfl,λi r t e=>by simp at e⟩ (λj σ ys H2 _ ⟨_,_,_,_,s,e,_⟩=>⟨SqT.of (s _ _ ht),e⟩) ?_ ?_⟩
  ·rintro j x σ ys H2 hx ⟨u,qs,rfl,rfl,s2,d2,p2⟩;obtain⟨r,er,rfl⟩:=A3 hx;obtain⟨y,ey,hy⟩:=hR.get er;have h2:=s2 _ _ hy;have ql:qs.length<=60:=by
    rw[p2.1];refine le_trans (Qb2 _ _) ?_;rw[Qb0];omega
   have tk:R.take (j+1)=R.take j++[y]:=by rw[Qc8,ey];rfl
   refine⟨_,rfl,r,_,0,_,rfl,rfl,SqT.of h2,Ai (j:=0) rfl,_,rfl,rfl,_,rfl,Bz (λc=> ?_) λc=> ?_⟩
   ·have c:¬y.1.1=n:=by simpa using c
    have kp:∀(r:Addr) (zs:List V) (o:HO),H2 r=some (.tup zs)->upd H2 D o r=some (.tup zs):=λr zs o e=>by rw[Al (Bx e d2 (by intro z;cases z))];exact e
    refine⟨_,rfl,d2,An (by rw[If];omega),_,qs++[r],rfl,by rw[map_append];rfl,Aw s2 hD,Ab,?_⟩;rw[tk];unfold Bh;rw[filter_append,Qc1 (by simpa using c)];exact(p2.mono λr zs e=>kp r zs _ e).snoc (kp _ _ _ h2)
   ·have c:y.1.1=n:=by simpa using c
    refine⟨_,qs,rfl,rfl,s2,d2,?_⟩;rw[tk];unfold Bh;rw[filter_append,Qc2 (by simpa using c),Qe9,Qc4];exact p2
  rintro σ ys H2 ⟨u,qs,rfl,rfl,s2,d2,p2⟩;rw[If,hR.1,Qb3] at p2;refine⟨D,_,rfl,.inl ⟨SqL.of d2,λtq htq=> ?_⟩⟩;exact k tq qs _ (s2.trans (Ac htq)) Ab (p2.mono λr zs e=>Ac htq _ _ e)
theorem Wi{ns:List Int}{lo hi:Option Int}:∃ms:List Int,Ec (ns.map V.int) lo hi=ms.map V.int/\ms.length<=ns.length:=by
 unfold Ec;rw[If];exact⟨_,by rw[<-List.map_drop,<-List.map_take],by simp;omega⟩
def kd(c:Addr)(S k g:Int):List (Key×V):=[(.inr "cells",.ref c),(.inr "seed",.int S),(.inr "turn",.int k),(.inr "great",.int g)]
theorem kd_c(c:Addr)(S k g:Int):Dn (kd c S k g) (.inr "cells")=some (.ref c):=by
 unfold kd;rfl
theorem kd_s(c:Addr)(S k g:Int):Dn (kd c S k g) (.inr "seed")=some (.int S):=by
 unfold kd;rfl
theorem kd_k(c:Addr)(S k g:Int):Dn (kd c S k g) (.inr "turn")=some (.int k):=by
 unfold kd;rfl
theorem kd_g(c:Addr)(S k g:Int):Dn (kd c S k g) (.inr "great")=some (.int g):=by
 unfold kd;rfl
theorem X5(c:Addr)(S k g z:Int):Ej (kd c S k g) (.inr "turn") (.int z)=kd c S z g:=by
 unfold kd;rfl
theorem Mw(c:Addr)(S k g z:Int):Ej (kd c S k g) (.inr "great") (.int z)=kd c S k z:=by
 unfold kd;rfl
theorem kd_new(c:Addr)(S k g:Int):Ia [] [(.inr "cells",.ref c),(.inr "seed",.int S),(.inr "turn",.int k),(.inr "great",.int g)]=kd c S k g:=by
 unfold kd;rfl
def DeckAt(H:Hp)(d c:Addr):Prop:=∃(cs:List Int) (S k g:Int),H d=some (.dK (kd c S k g))/\H c=some (.lst (cs.map V.int))/\cs.length<=63/\d≠c
def But(d c:Addr)(H H':Hp):Prop:=∀b o,H b=some o->b≠d->b≠c->H' b=some o
theorem But.trans{d c:Addr}{H H1 H2:Hp}(h:But d c H H1)(h':But d c H1 H2):But d c H H2:=λb o e n1 n2=>h' b o (h b o e n1 n2) n1 n2
theorem But.tup{d c:Addr}{H H':Hp}(h:But d c H H')(D:DeckAt H d c){b:Addr}{xs:List V}(e:H b=some (.tup xs)):H' b=some (.tup xs):=by
 obtain⟨_,_,_,_,h1,h2,_⟩:=D;exact h b _ e (λz=>by rw[z,h1] at e;cases e) λz=>by rw[z,h2] at e;cases e
theorem DeckAt.same{H H':Hp}{d c:Addr}(h:DeckAt H d c)(s:Same H H'):DeckAt H' d c:=by
 obtain⟨cs,S,k,g,h1,h2,r⟩:=h;exact⟨cs,S,k,g,s _ _ h1,s _ _ h2,r⟩
theorem DeckAt.nd{H:Hp}{d c b:Addr}(h:DeckAt H d c)(e:H b=none):b≠d:=by
 obtain⟨_,_,_,_,h1,_⟩:=h;exact(Av h1 e).symm
theorem DeckAt.nc{H:Hp}{d c b:Addr}(h:DeckAt H d c)(e:H b=none):b≠c:=by
 obtain⟨_,_,_,_,_,h2,_⟩:=h;exact(Av h2 e).symm
theorem But.of{d c:Addr}{H H':Hp}(s:Same H H'):But d c H H':=λb o e _ _=>s b o e
def Uz(K:Frag):Sp:=λvs H Q _=>∃(s:Addr) (ns:List Int),vs=[.ref s]/\SqL K H s (ns.map V.int)/\ns.length<=63/\∀(d c:Addr) (H':Hp),Same H H'->DeckAt H' d c->Q (.ref d) H'
def R4:Sp:=λvs H Q _=>∃c k:Int,vs=[.int c,.int k]/\∀v,Q (.int v) H
def Gf:Sp:=λvs H Q _=>∃(d c:Addr) (m:Int),vs=[.ref d,.int m]/\DeckAt H d c/\0<m/\m<1073741824/\∀(v:Int) (H':Hp),0<=v->v<m->But d c H H'->DeckAt H' d c->Q (.int v) H'
def Vv:Sp:=λvs H Q _=>∃d c:Addr,vs=[.ref d]/\DeckAt H d c/\∀(N:Nat) (H':Hp),1<=N->N<=24->But d c H H'->DeckAt H' d c->Q (.int (N:Int)) H'
def O1:Sp:=λvs H Q _=>∃d c:Addr,vs=[.ref d]/\DeckAt H d c/\∀(v:Int) (H':Hp),0<=v->v<=1000000000->But d c H H'->DeckAt H' d c->Q (.int v) H'
theorem scMixed:Ax ["_law_cell","_law_turn","_law_number"] ["_law_cell","_law_turn"] (Ah Qp):=⟨rfl,rfl,rfl,by decide+kernel,rfl,by decide+kernel,by decide+kernel⟩
theorem Xi{f:Addr}{fd:FuncData}(F:Fun K "_law_mixed" "_law_mixed" Qp f fd)(T:Txt mg):
  FnOk P w K mg base CX0 1 f fd ["_law_cell","_law_turn"] R4:=by
 refine F.ok scMixed (λvs H Q E h=> ?_) (λcdv A outer s H vs Q E hr h=> ?_)
 ·obtain⟨_,_,rfl,_⟩:=h;rfl
 ·obtain⟨c,k0,rfl,k⟩:=h;refine⟨_,Ae (Ao (i:=2) scMixed.nd rfl (Or.inl rfl) (A0 Dh (A0 D8 (A0 Bo (A0 Bo (A0 Dh (pv 0) Af) (A0 D8 Af (pv 1))) Af) Af) Af))
   (Ae (Ao (i:=2) scMixed.nd rfl (Or.inl rfl) (A0 Dh (A0 Bo (A0 Bo (A0 D8 (pv 2) (pv 2)) (A0 D8 Af (pv 1))) (pv 2)) Af))
   (Ag (Ap (A0 Ja (pv 2) Af)))),?_⟩
  refine⟨_,rfl,_,_,rfl,rfl,(show (0:Int)<2147483647 by decide),_,rfl,_,_,rfl,rfl,.inl ⟨by decide,by decide⟩,_,_,rfl,rfl,_,_,rfl,rfl,_,_,rfl,rfl,.inr ⟨by decide,by decide⟩,_,_,rfl,rfl,(show (0:Int)<2147483629 by decide),?_⟩;dsimp only;generalize (c % 2147483647+16807 * k0+3) * 48271=z1;have y0:=emod_nonneg z1 (show (2147483629:Int)≠0 by decide);have y1:=emod_lt_of_pos z1 (show (0:Int)<2147483629 by decide);generalize z1 % 2147483629=z2 at y0 y1;refine⟨_,rfl,_,rfl,_,_,rfl,rfl,.inl ⟨by omega,by omega⟩,_,rfl,_,_,rfl,rfl,.inl ⟨by decide,by decide⟩,_,_,rfl,rfl,_,rfl,_,_,rfl,rfl,_,_,rfl,rfl,(show (0:Int)<2147483587 by decide),?_⟩;exact⟨_,rfl,_,_,rfl,rfl,⟨by decide,by decide⟩,k _⟩
theorem scDeck:Ax ["_law_script","_law_cells","_law_seed"] ["_law_script"] (Ah Q0):=⟨rfl,rfl,rfl,by decide+kernel,rfl,by decide+kernel,by decide+kernel⟩
theorem Za{f:Addr}{fd:FuncData}(F:Fun K "_law_deck" "_law_deck" Q0 f fd)(T:Txt mg):
  FnOk P w K mg base CX0 1 f fd ["_law_script"] (Uz K):=by
 refine F.ok scDeck (λvs H Q E h=> ?_) (λcdv A outer s H vs Q E hr h=> ?_)
 ·obtain⟨_,_,rfl,_⟩:=h;rfl
 ·obtain⟨s,ns,rfl,hS,hl,k⟩:=h;refine⟨_,Ae (Ao (i:=1) scDeck.nd rfl (Or.inl rfl) (A6 Mh (by rfl) T.list (by decide+kernel) (Aa (Ce Z0 (pv 0) Do (Br Af)) Ad)))
   (Ae (Ao (i:=2) scDeck.nd rfl (Or.inl rfl) (A0 Bo (Ay (V3 rfl) (by rfl) T.sum PyProof.Rows.boot_sum (Aa (Bj (T:=["_law_cell"]) (F:=[]) (js:=[]) (cs (osc:=Ah Q0)) rfl (Cr (pv 1)) (λ_ _ _ _ _=>Aj (i:=0) (show (["_law_cell"]:List Str).Nodup by decide+kernel) rfl (Or.inl rfl)) (λ_ _ _ _ _=>Bt) (λ_ _ _ _ _=>A0 Dh (pv 0) Af)) Ad)) (A0 D8 Af (Ay A8 (by rfl) T.len PySem.boot_len (Aa (pv 1) Ad)))))
   (Ag (Ap (Z2 (G0 Ba (W0 (pv 1) (Br (Ki Fy Af)) (λo i=>[o,i]) (λ_ _=>by with_unfolding_all rfl)) (G0 Ba (pv 2) (G0 Ba Af (G0 Ba Af Zr)))) rfl rfl (by simp) (by simp))))),?_⟩
  obtain⟨ms,em,lm⟩:=Wi (ns:=ns) (lo:=none) (hi:=some 63);refine⟨_,rfl,_,rfl,s,_,rfl,hS,λq hq=> ?_⟩;rw[em];have s1:=Ac (o:= .lst (ms.map V.int)) hq;have q1:=Ab (H:=H) (a:=q) (o:= .lst (ms.map V.int));generalize upd H q (.lst (ms.map V.int))=H1 at s1 q1;refine⟨q,_,rfl,.inl (SqL.of q1),λcl hc=> ?_⟩;have s2:=s1.trans (Ac (o:= .lst (ms.map V.int)) hc);have c2:=Ab (H:=H1) (a:=cl) (o:= .lst (ms.map V.int));generalize upd H1 cl (.lst (ms.map V.int))=H2 at s2 c2;refine⟨_,rfl,cl,rfl,⟨_,SqL.of c2⟩,λD hD=>Co (K:=K) (a:=cl) (xs:=ms.map V.int) (λj σ ys H3=>∃(u:Option V) (zs:List Int),σ=[u]/\ys=zs.map V.int/\Same H2 H3/\H3 D=some (.lst ys)/\zs.length=j) ⟨none,[],rfl,rfl,Ac hD,Ab,rfl⟩ (λj σ ys H3 _ ⟨_,_,_,_,s,e,_⟩=>⟨SqL.of (s _ _ c2),e⟩) ?_ ?_⟩
  ·rintro j x σ ys H3 hx ⟨u,zs,rfl,rfl,s3,d3,zl⟩;have jl:j<ms.length:=by have:=(List.getElem?_eq_some_iff.mp hx).1;rwa [If] at this
   obtain⟨c,hc,rfl⟩:=A3 hx;exact⟨_,rfl,_,_,rfl,rfl,(by show (0:Int)<1000003;decide),d3,An (by simp;omega),_,zs++[c % 1000003],rfl,by simp,Aw s3 hD,Ab,by simp[zl]⟩
  rintro σ ys H3 ⟨u,zs,rfl,rfl,s3,d3,zl⟩;have c3:=s3 _ _ c2;refine⟨D,zs,rfl,SqL.of d3,_,rfl,cl,_,rfl,.inl (SqL.of c3),_,_,rfl,rfl,.inl ⟨by decide,by decide⟩,_,_,rfl,rfl,?_⟩;refine λd hd=> ?_;have s4:=Ac (o:= .dK []) hd;have d4:=Ab (H:=H3) (a:=d) (o:= .dK []);have S4:=(s2.trans s3).trans s4;have dn:H d=none:=Fi (s2.trans s3) hd;generalize upd H3 d (.dK [])=H4 at s4 d4 S4;refine⟨_,rfl,_,rfl,_,rfl,rfl,cl,_,rfl,SqL.of (s4 _ _ c3),λp hp=> ?_⟩;have s5:=Ac (o:= .lst (ms.map V.int).reverse) hp;have p5:=Ab (H:=H4) (a:=p) (o:= .lst (ms.map V.int).reverse);have dp:d≠p:=Av d4 hp;generalize upd H4 p (.lst (ms.map V.int).reverse)=H5 at s5 p5;refine⟨_,rfl,s5 _ _ d4,[(.inr "cells",.ref p),(.inr "seed",.int (zs.sum+7 * ((ms.map V.int).length:Int))),(.inr "turn",.int 0),(.inr "great",.int 0)],rfl,by simp,?_⟩;rw[kd_new];have S5:=S4.trans s5;refine k d p _ (λb o e=> ?_) ⟨ms.reverse,_,0,0,Ab,by rw[Al dp.symm,p5,List.map_reverse],by simp;omega,dp⟩;rw[Al (Av e dn)];exact S5 _ _ e
theorem scTake:Ax ["_law_deck_here","_law_most","_law_cell"] ["_law_deck_here","_law_most"] (Ah Xs):=⟨rfl,rfl,rfl,by decide+kernel,rfl,by decide+kernel,by decide+kernel⟩
theorem Yz{f:Addr}{fd:FuncData}(F:Fun K "_law_take" "_law_take" Xs f fd)(T:Txt mg)(GMixed:Cl P w K mg base 1 "_law_mixed" ["_law_cell","_law_turn"] R4):
  FnOk P w K mg base CX0 2 f fd ["_law_deck_here","_law_most"] Gf:=by
 refine F.ok scTake (λvs H Q E h=> ?_) (λcdv A outer s H vs Q E hr h=> ?_)
 ·obtain⟨_,_,_,rfl,_⟩:=h;rfl
 ·obtain⟨d,c,m,rfl,⟨cs,S,k0,g0,hd,hc,cl,ndc⟩,m0,m1,k⟩:=h;refine⟨_,Ae (Be (As Ny (Dy (E2 hr) (pv 0) Ba (λ_ _=>rfl)) Af (Ar _)) (Ae (Ao (i:=2) scTake.nd rfl (Or.inl rfl) (Dy (E2 hr) (pv 0) Ba (λ_ _=>rfl)))
   (Ae (Je (E2 hr) (pv 0) Ba (A0 Ja (pv 2) (pv 1)) rfl)
   (Ag (Ap (A0 Dh (pv 2) (pv 1)))))) A2)
   (Ae (Je (E2 hr) (pv 0) Ba (A0 Bo (Dy (E2 hr) (pv 0) Ba (λ_ _=>rfl)) Af) rfl)
   (Ae (Ao (i:=2) scTake.nd rfl (Or.inl rfl) (Dy (E2 hr) (pv 0) Ba (λ_ _=>rfl)))
   (Ae (Be (As (Xp hr.units) (Dy (E2 hr) (pv 0) Ba (λ_ _=>rfl)) (Bq Ad) (Ar _)) (Ag (Ao (i:=2) scTake.nd rfl (Or.inl rfl) (pe_bm0 Qb7 slot_list_pop type_list_pop mt_pop (Dy (E2 hr) (pv 0) Ba (λ_ _=>rfl))))) A2)
   (Ae (Be (As Xl (pv 2) (A0 Hj Af Af) (Ar _)) (Ae (Je (E2 hr) (pv 0) Ba (A0 Ja (pv 2) (pv 1)) rfl)
   (Ag (Ap (A0 Dh (pv 2) (pv 1))))) A2)
   (Ag (Ap (A0 Dh (Au GMixed hr (Aa (pv 2) (Aa (Dy (E2 hr) (pv 0) Ba (λ_ _=>rfl)) Ad))) (pv 1)))))))),?_⟩
  have last:∀(v:Int) (H':Hp),But d c H H'->DeckAt H' d c->Q (.int (v % m)) H':=λv H' b e=>k _ _ (emod_nonneg _ (by omega)) (emod_lt_of_pos _ m0) b e;refine⟨_,rfl,d,_,rfl,kd_g c S k0 g0▸DGet.k (k:= .inr "great") hd,_,_,rfl,rfl,_,rfl,Bz (λg=> ?_) λg=> ?_⟩
  ·refine⟨_,rfl,d,_,rfl,kd_g c S k0 g0▸DGet.k (k:= .inr "great") hd,?_⟩;refine⟨_,rfl,_,rfl,_,_,rfl,rfl,⟨m0,by omega⟩,_,rfl,d,_,rfl,.inl ⟨_,.inr "great",hd,rfl,An (by simp[kd]),rfl⟩,?_⟩;rw[Mw];exact⟨_,rfl,_,rfl,_,_,rfl,rfl,m0,last g0 _ (λb o e n1 n2=>by rw[Al n1];exact e) ⟨cs,_,_,_,Ab,by rw[Al ndc.symm];exact hc,cl,ndc⟩⟩
  dsimp only[Bc];refine⟨_,rfl,d,_,rfl,kd_k c S k0 g0▸DGet.k (k:= .inr "turn") hd,_,_,rfl,rfl,_,rfl,d,_,rfl,.inl ⟨_,.inr "turn",hd,rfl,An (by simp[kd]),rfl⟩,?_⟩;rw[X5];have d1:=Ab (H:=H) (a:=d) (o:= .dK (kd c S (k0+1) g0));have c1:upd H d (.dK (kd c S (k0+1) g0)) c=some (.lst (cs.map V.int)):=by rw[Al ndc.symm];exact hc
  have b1:But d c H (upd H d (.dK (kd c S (k0+1) g0))):=λb o e n1 n2=>by rw[Al n1];exact e
  generalize upd H d (.dK (kd c S (k0+1) g0))=H1 at d1 c1 b1;refine⟨_,rfl,d,_,rfl,kd_s c S (k0+1) g0▸DGet.k (k:= .inr "seed") d1,?_⟩;refine⟨_,rfl,d,_,rfl,kd_c c S (k0+1) g0▸DGet.k (k:= .inr "cells") d1,small (by simp),λq hq=> ?_⟩;have s2:=Ac (o:= .lst []) hq;have q2:=Ab (H:=H1) (a:=q) (o:= .lst []);generalize upd H1 q (.lst [])=H2 at s2 q2;have d2:=s2 _ _ d1;have c2:=s2 _ _ c1;have b2:But d c H H2:=λb o e n1 n2=>s2 _ _ (b1 b o e n1 n2);refine⟨c,q,_,rfl,rfl,SqL.of c2,SqL.of q2,_,rfl,Bz (λg1=> ?_) λg1=> ?_⟩
  ·have g1:cs≠[]:=λz=>by subst z;simp at g1
   obtain⟨cs',x,rfl⟩:∃cs' x,cs=cs'++[x]:=⟨cs.dropLast,cs.getLast g1,(List.dropLast_concat_getLast g1).symm⟩
   have lc:cs'.length<=63:=by simp at cl;omega
   refine⟨_,rfl,d,_,rfl,kd_c c S (k0+1) g0▸DGet.k (k:= .inr "cells") d2,?_⟩;refine⟨.inl ⟨rfl,_,SqL.of c2⟩,c,_,.int x,rfl,rfl,c2,by simp,?_⟩;generalize hH3:upd H2 c _=H3;have c3:H3 c=some (.lst (cs'.map V.int)):=by
    rw[<-hH3,Ab,map_append,Qb5,map_nil,List.dropLast_concat]
   have d3:H3 d=some (.dK (kd c S (k0+1) g0)):=by rw[<-hH3,Al ndc];exact d2
   have b3:But d c H H3:=λb o e n1 n2=>by rw[<-hH3,Al n2];exact b2 b o e n1 n2
   clear hH3;have b3:But d c H H3:=b3;refine⟨_,rfl,_,_,rfl,rfl,⟨by decide,by decide,by decide⟩,_,_,rfl,rfl,_,rfl,Bz (λg=> ?_) λg=> ?_⟩
   ·refine⟨_,rfl,_,rfl,_,_,rfl,rfl,⟨m0,by omega⟩,_,rfl,d,_,rfl,.inl ⟨_,.inr "great",d3,rfl,An (by simp[kd]),rfl⟩,?_⟩;rw[Mw];exact⟨_,rfl,_,rfl,_,_,rfl,rfl,m0,last x _ (λb o e n1 n2=>by rw[Al n1];exact b3 b o e n1 n2) ⟨cs',_,_,_,Ab,by rw[Al ndc.symm];exact c3,lc,ndc⟩⟩
   ·dsimp only[Bc];exact⟨_,rfl,_,rfl,d,_,rfl,kd_k c S (k0+1) g0▸DGet.k (k:= .inr "turn") d3,_,_,rfl,λv=>⟨_,rfl,_,_,rfl,rfl,m0,last v _ b3 ⟨cs',_,_,_,d3,c3,lc,ndc⟩⟩⟩
  ·dsimp only[Bc];have lc:=cl;have d3:=d2;have c3:=c2;have b3:=b2;generalize H2=H3 at *;generalize cs=cs' at *;have b3:But d c H H3:=b3;refine⟨_,rfl,_,_,rfl,rfl,⟨by decide,by decide,by decide⟩,_,_,rfl,rfl,_,rfl,Bz (λg=> ?_) λg=> ?_⟩
   ·refine⟨_,rfl,_,rfl,_,_,rfl,rfl,⟨m0,by omega⟩,_,rfl,d,_,rfl,.inl ⟨_,.inr "great",d3,rfl,An (by simp[kd]),rfl⟩,?_⟩;rw[Mw];exact⟨_,rfl,_,rfl,_,_,rfl,rfl,m0,last _ _ (λb o e n1 n2=>by rw[Al n1];exact b3 b o e n1 n2) ⟨cs',_,_,_,Ab,by rw[Al ndc.symm];exact c3,lc,ndc⟩⟩
   ·dsimp only[Bc];exact⟨_,rfl,_,rfl,d,_,rfl,kd_k c S (k0+1) g0▸DGet.k (k:= .inr "turn") d3,_,_,rfl,λv=>⟨_,rfl,_,_,rfl,rfl,m0,last v _ b3 ⟨cs',_,_,_,d3,c3,lc,ndc⟩⟩⟩
theorem scMany:Ax ["_law_deck_here","_law_way"] ["_law_deck_here"] (Ah Vh):=⟨rfl,rfl,rfl,by decide+kernel,rfl,by decide+kernel,by decide+kernel⟩
theorem Yr{f:Addr}{fd:FuncData}(F:Fun K "_law_many" "_law_many" Vh f fd)(T:Txt mg)(GTake:Cl P w K mg base 2 "_law_take" ["_law_deck_here","_law_most"] Gf):
  FnOk P w K mg base CX0 3 f fd ["_law_deck_here"] Vv:=by
 refine F.ok scMany (λvs H Q E h=> ?_) (λcdv A outer s H vs Q E hr h=> ?_)
 ·obtain⟨_,_,rfl,_⟩:=h;rfl
 ·obtain⟨d,c,rfl,hD,k⟩:=h;refine⟨_,Ae (Ao (i:=1) scMany.nd rfl (Or.inl rfl) (Au GTake hr (Aa (pv 0) (Aa Af Ad))))
   (Ae (Be (As Bl (pv 1) Af (Ar _)) (Ag (Ap Af)) A2)
   (Ae (Be (As Bl (pv 1) Af (Ar _)) (Ag (Ap (A0 Bo Af (Au GTake hr (Aa (pv 0) (Aa Af Ad)))))) A2)
   (Ag (Ap (A0 Bo Af (Au GTake hr (Aa (pv 0) (Aa (Aq A4 (Bq (Aa Af (Aa Af Ad))) (A6 Dr (by rfl) T.int (by decide+kernel) (Aa (Bg Ny (pv 1) Af (Ar _)) Ad)) (λ_ _=>rfl)) Ad)))))))),?_⟩
  refine⟨_,rfl,d,c,8,rfl,hD,by decide,by decide,λv H1 v0 v1 b1 D1=> ?_⟩;refine⟨_,rfl,rfl,_,rfl,Bz (λg=> ?_) λg=> ?_⟩
  ·exact k 24 _ (by decide) (by decide) b1 D1
  dsimp only[Bc];refine⟨_,rfl,rfl,_,rfl,Bz (λg=> ?_) λg=> ?_⟩
  ·refine⟨_,rfl,d,c,4,rfl,D1,by decide,by decide,λw H2 w0 w1 b2 D2=>⟨_,_,rfl,rfl,?_⟩⟩;obtain⟨w,rfl⟩:=Fb w0;have q:=k (1+w) _ (by omega) (by omega) (b1.trans b2) D2;rw[show ((1+w:Nat):Int)=1+(w:Int) by omega] at q;exact q
  dsimp only[Bc];refine⟨_,rfl,small (by simp),λl hl=> ?_⟩;have s2:=Ac (o:= .lst [.int 7,.int 15]) hl;have l2:=Ab (H:=H1) (a:=l) (o:= .lst [.int 7,.int 15]);generalize upd H1 l (.lst [.int 7,.int 15])=H2 at s2 l2;have fin:∀m:Int,0<m->m<=15->∀(w:Int) (H':Hp),0<=w->w<m->But d c H2 H'->DeckAt H' d c->Q (.int (2+w)) H':=λm m0 m1 w H' w0 w1 b2 D2=>by
   obtain⟨w,rfl⟩:=Fb w0;have q:=k (2+w) _ (by omega) (by omega) ((b1.trans (But.of s2)).trans b2) D2;rw[show ((2+w:Nat):Int)=2+(w:Int) by omega] at q;exact q
  refine⟨_,rfl,_,_,rfl,rfl,.inr ⟨_,rfl,?_⟩⟩;by_cases g3:(5:Int)<v
  ·rw[decide_eq_true g3];exact⟨l,_,1,_,rfl,rfl,SqL.of l2,Ai (j:=1) rfl,d,c,15,rfl,D1.same s2,by decide,by decide,λw H3 w0 w1 b3 D3=>⟨_,_,rfl,rfl,fin 15 (by decide) (by decide) w H3 w0 w1 b3 D3⟩⟩
  ·rw[decide_eq_false g3];exact⟨l,_,0,_,rfl,rfl,SqL.of l2,Ai (j:=0) rfl,d,c,7,rfl,D1.same s2,by decide,by decide,λw H3 w0 w1 b3 D3=>⟨_,_,rfl,rfl,fin 7 (by decide) (by decide) w H3 w0 w1 b3 D3⟩⟩
theorem scWeight:Ax ["_law_deck_here","_law_way"] ["_law_deck_here"] (Ah Mv):=⟨rfl,rfl,rfl,by decide+kernel,rfl,by decide+kernel,by decide+kernel⟩
theorem Tq{f:Addr}{fd:FuncData}(F:Fun K "_law_weight" "_law_weight" Mv f fd)(T:Txt mg)(GTake:Cl P w K mg base 2 "_law_take" ["_law_deck_here","_law_most"] Gf):
  FnOk P w K mg base CX0 3 f fd ["_law_deck_here"] O1:=by
 refine F.ok scWeight (λvs H Q E h=> ?_) (λcdv A outer s H vs Q E hr h=> ?_)
 ·obtain⟨_,_,rfl,_⟩:=h;rfl
 ·obtain⟨d,c,rfl,hD,k⟩:=h;refine⟨_,Ae (Ao (i:=1) scWeight.nd rfl (Or.inl rfl) (Au GTake hr (Aa (pv 0) (Aa Af Ad))))
   (Ae (Be (As R9 (pv 1) Af (Ar _)) (Ag (Ap (Aq A4 (Bq (Aa Af (Aa (A0 Hj Af Af) (Aa Af Ad)))) (pv 1) (λ_ _=>rfl)))) A2)
   (Ag (Ap (Au GTake hr (Aa (pv 0) (Aa (A0 Bo (A0 Hj Af Af) Af) Ad)))))),?_⟩
  refine⟨_,rfl,d,c,4,rfl,hD,by decide,by decide,λv H1 v0 v1 b1 D1=> ?_⟩;refine⟨_,rfl,_,_,rfl,rfl,_,rfl,Bz (λg=> ?_) λg=> ?_⟩
  ·have g:v<3:=by simpa using g
   obtain⟨v,rfl⟩:=Fb v0;refine⟨_,_,rfl,rfl,⟨by decide,by decide,by decide⟩,small (by simp),λl hl=>⟨_,rfl,l,_,_,V.int ([0,1000000000,5].getD v 0),rfl,rfl,SqL.of Ab,Ai ?_,?_⟩⟩
   ·have hv:v=0\/v=1\/v=2:=by omega
    rcases hv with rfl|rfl|rfl<;> rfl
   ·have hv:v=0\/v=1\/v=2:=by omega
    refine k _ _ ?_ ?_ (b1.trans (But.of (Ac hl))) (D1.same (Ac hl))
    ·rcases hv with rfl|rfl|rfl<;> decide
    ·rcases hv with rfl|rfl|rfl<;> decide
  dsimp only[Bc];refine⟨_,rfl,_,_,rfl,rfl,⟨by decide,by decide,by decide⟩,_,_,rfl,rfl,d,c,1000000001,rfl,D1,by decide,by decide,λw H2 w0 w1 b2 D2=>k w _ w0 (by omega) (b1.trans b2) D2⟩
theorem Wd{z:Str}{j:Int}(h:0<=j/\j<=z.length):(Txt.slice z none (some j)).cps.toList=z.cps.toList.take j.toNat:=by
 have:=StrLaws.sliceText_to (x:=z) (j:=j) ⟨h.1,by rw[<-Eo];exact h.2⟩;rw[show Txt.slice z none (some j)=StrLaws.sliceText z none (some j) from rfl,this,Int.sub_zero];simp
def NmT(f s st k:Nat)(z:Str):Prop:=z.cps.toList[0]? =some (97+(f+st * k) % 26)/\((z.cps.toList[1]? =none/\k<26)\/z.cps.toList[1]? =some (97+(s+k / 26) % 26))
theorem NmT.inj{f s st j k:Nat}{z:Str}(hs:st=1\/st=3\/st=5\/st=7)(a:NmT f s st j z)(b:NmT f s st k z)(jk:j<k)(k60:k<60):False:=by
 have e1:=Option.some.inj (a.1.symm.trans b.1);rcases b.2 with⟨_,q⟩|q
 ·rcases hs with rfl|rfl|rfl|rfl<;> omega
 ·rcases a.2 with⟨p,_⟩|p
  ·rw[p] at q;cases q
  ·have e2:=Option.some.inj (p.symm.trans q);rcases hs with rfl|rfl|rfl|rfl<;> omega
theorem NmT.nodup{f s st:Nat}{zs:List Str}(hs:st=1\/st=3\/st=5\/st=7)(h:∀(j:Nat) z,zs[j]? =some z->NmT f s st j z)(hl:zs.length<=60):zs.Nodup:=by
 rw[List.nodup_iff_pairwise_ne,List.pairwise_iff_getElem];intro i j hi hj hij e;exact NmT.inj hs (h i _ (Cb hi)) (by rw[e];exact h j _ (Cb hj)) hij (by omega)
def Rc:Sp:=λvs H Q _=>∃(d c:Addr) (M:Nat),vs=[.ref d,.int (M:Int)]/\DeckAt H d c/\M<=60/\∀(l:Addr) (zs:List Str) (H':Hp),But d c H H'->DeckAt H' d c->H l=none->H' l=some (.lst (zs.map V.str))->zs.length=M->zs.Nodup->(∀z∈zs,Gc z)->Q (.ref l) H'
theorem But.none{d c:Addr}{H H':Hp}(h:But d c H H')(D:DeckAt H d c)(D':DeckAt H' d c){b:Addr}(e:H' b=none):H b=none:=by
 cases g:H b with
 |none=>rfl
 |some o=>rw[h b o g (D'.nd e) (D'.nc e)] at e;cases e
theorem DeckAt.set{H:Hp}{d c b:Addr}{o:HO}(h:DeckAt H d c)(n1:b≠d)(n2:b≠c):DeckAt (upd H b o) d c:=by
 obtain⟨cs,S,k,g,h1,h2,r⟩:=h;exact⟨cs,S,k,g,by rw[Al n1.symm];exact h1,by rw[Al n2.symm];exact h2,r⟩
theorem nm_cut{f s st i:Nat}{ws:List Nat}{nm:Str}{L:Int}(h:nm.cps.toList=(97+(f+st * i) % 26)::(97+(s+i / 26) % 26)::ws)(hw:ws.length=6)(wr:∀x∈ws,97<=x/\x<=122)(L1:1<=L)(L8:L<=8)(L2:25<i->2<=L):NmT f s st i (Txt.slice nm none (some L))/\Gc (Txt.slice nm none (some L)):=by
 obtain⟨n,rfl⟩:∃n:Nat,L=(n:Int):=⟨L.toNat,by omega⟩
 have len:nm.length=8:=by rw[Eo,h,Qa6,Qa6,hw]
 have e:(Txt.slice nm none (some (n:Int))).cps.toList=nm.cps.toList.take n:=by rw[Wd ⟨by omega,by rw[len];omega⟩,Int.toNat_natCast]
 have el:(Txt.slice nm none (some (n:Int))).length=n:=by rw[Eo,e,Qb0,<-Eo,len];omega
 refine⟨?_,by omega,by omega,λc hc=> ?_⟩
 ·unfold NmT;rw[e,h];obtain⟨m,rfl⟩:∃m,n=m+1:=⟨n - 1,by omega⟩
  refine⟨rfl,?_⟩;cases m with
  |zero=>exact .inl ⟨rfl,by omega⟩
  |succ m=>exact .inr rfl
 ·rw[e] at hc;have hm:=List.mem_of_mem_take hc;rw[h,Qa9,Qa9] at hm;rcases hm with rfl|rfl|hx
  ·omega
  ·omega
  ·exact wr c hx
theorem scNames:Ax ["_law_deck_here","_law_many_here","_law_letters","_law_first","_law_second","_law_step","_law_cut","_law_wide","_law_tail","_law_found","_law_k","_law_front","_law_name"] ["_law_deck_here","_law_many_here"] (Ah Mq):=⟨rfl,rfl,rfl,by decide+kernel,rfl,by decide+kernel,by decide+kernel⟩
theorem Um{f:Addr}{fd:FuncData}(F:Fun K "_law_names" "_law_names" Mq f fd)(T:Txt mg)(GTake:Cl P w K mg base 2 "_law_take" ["_law_deck_here","_law_most"] Gf):
  FnOk P w K mg base CX0 3 f fd ["_law_deck_here","_law_many_here"] Rc:=by
 refine F.ok scNames (λvs H Q E h=> ?_) (λcdv A outer s H vs Q E hr h=> ?_)
 ·obtain⟨_,_,_,rfl,_⟩:=h;rfl
 ·obtain⟨d,c,M,rfl,hD,M60,k⟩:=h;refine⟨_,Ae (Ao (i:=2) scNames.nd rfl (Or.inr rfl) Ba)
   (Ae (Ao (i:=3) scNames.nd rfl (Or.inl rfl) (Au GTake hr (Aa (pv 0) (Aa Af Ad))))
   (Ae (Ao (i:=4) scNames.nd rfl (Or.inl rfl) (Au GTake hr (Aa (pv 0) (Aa Af Ad))))
   (Ae (Ao (i:=5) scNames.nd rfl (Or.inl rfl) (Aq A4 (Bq (Aa Af (Aa Af (Aa Af (Aa Af Ad))))) (Au GTake hr (Aa (pv 0) (Aa Af Ad))) (λ_ _=>rfl)))
   (Ae (Ao (i:=6) scNames.nd rfl (Or.inl rfl) (Au GTake hr (Aa (pv 0) (Aa Af Ad))))
   (Ae (Ao (i:=7) scNames.nd rfl (Or.inl rfl) (Au GTake hr (Aa (pv 0) (Aa Af Ad))))
   (Ae (Ao (i:=8) scNames.nd rfl (Or.inl rfl) (Dk PySem.F.plainAttrs_str PySem.F.slot_str_join PySem.F.type_str_join Zp Ba (Aa (Bj (T:=["_law_k"]) (F:=["_law_letters","_law_deck_here"]) (js:=[2,0]) (cs (osc:=Ah Mq)) rfl (Cg rfl T.range (Aa Af Ad)) (λ_ _ _ _ _=>Aj (i:=0) (show (["_law_k","_law_letters","_law_deck_here"]:List Str).Nodup by decide+kernel) rfl (Or.inl rfl)) (λ_ _ _ _ _=>Bt) (λ_ _ _ _ _=>Aq Qc (pv 1) (Au GTake hr (Aa (pv 2) (Aa Af Ad))) (λ_ _=>rfl))) Ad)))
   (Ae (Ao (i:=9) scNames.nd rfl (Or.inl rfl) (Bq Ad))
   (Ae (Ct PassesOwn.never rfl (Cg rfl T.range (Aa (pv 1) Ad)) (Aj (i:=10) scNames.nd rfl (Or.inl rfl)) (Ae (Ao (i:=11) scNames.nd rfl (Or.inl rfl) (Aq Qc (pv 2) (A0 Dh (A0 Bo (pv 3) (A0 D8 (pv 5) (pv 10))) Af) (λ_ _=>rfl)))
   (Ae (Ao (i:=12) scNames.nd rfl (Or.inl rfl) (A0 J1 (A0 J1 (pv 11) (Aq Qc (pv 2) (A0 Dh (A0 Bo (pv 4) (A0 Ja (pv 10) Af)) Af) (λ_ _=>rfl))) (pv 8)))
   (Ag (Cn (Dk Qb7 PySem.F.slot_list_append PySem.F.type_list_append Bw (pv 9) (Aa (Ce sl_str (pv 12) Do (Br (Ay (Tl rfl) (by rfl) T.max (by decide+kernel) (Aa (A0 Bo Af (A6 Dr (by rfl) T.int (by decide+kernel) (Aa (Bg Ny (pv 10) Af (Ar _)) Ad))) (Aa (A0 Bo Af (A0 Dh (A0 Bo (pv 6) (A0 D8 (pv 7) (pv 10))) Af)) Ad))))) Ad)))))))
   (Ag (Ap (pv 9))))))))))),?_⟩
  refine⟨_,rfl,d,c,26,rfl,hD,by decide,by decide,λf H1 f0 f1 b1 D1=>⟨_,rfl,d,c,26,rfl,D1,by decide,by decide,λs2 H2 g0 g1 b2 D2=> ?_⟩⟩;obtain⟨f,rfl⟩:=Fb f0;obtain⟨s2,rfl⟩:=Fb g0;have B2:=b1.trans b2;clear b1 b2 D1 f0 g0;refine⟨small (by simp),λl0 hl0=> ?_⟩;have s3:=Ac (o:= .lst [.int 1,.int 3,.int 5,.int 7]) hl0;have l3:=Ab (H:=H2) (a:=l0) (o:= .lst [.int 1,.int 3,.int 5,.int 7]);have n3:l0≠d:=D2.nd hl0;have n3':l0≠c:=D2.nc hl0;have D3:=D2.same s3;have B3:=B2.trans (But.of s3);clear B2;generalize upd H2 l0 (.lst [.int 1,.int 3,.int 5,.int 7])=H3 at s3 l3 D3 B3;refine⟨_,rfl,d,c,4,rfl,D3,by decide,by decide,λw H4 w0 w1 b4 D4=> ?_⟩;obtain⟨w,rfl⟩:=Fb w0;have B4:=B3.trans b4;have l4:=b4 _ _ l3 n3 n3';obtain⟨st,est,hst⟩:∃st:Nat,([V.int 1,.int 3,.int 5,.int 7]:List V)[w]? =some (.int (st:Int))/\(st=1\/st=3\/st=5\/st=7):=by
   have hw:w=0\/w=1\/w=2\/w=3:=by omega
   rcases hw with rfl|rfl|rfl|rfl
   ·exact⟨1,rfl,by decide⟩
   ·exact⟨3,rfl,by decide⟩
   ·exact⟨5,rfl,by decide⟩
   ·exact⟨7,rfl,by decide⟩
  refine⟨l0,_,_,_,rfl,rfl,SqL.of l4,Ai est,?_⟩;clear B3 b4 l3 l4 D3 s3 w0 w1 D2;refine⟨_,rfl,d,c,8,rfl,D4,by decide,by decide,λcu H5 u0 u1 b5 D5=>⟨_,rfl,d,c,8,rfl,D5,by decide,by decide,λwi H6 i0 i1 b6 D6=> ?_⟩⟩;obtain⟨cu,rfl⟩:=Fb u0;obtain⟨wi,rfl⟩:=Fb i0;have B6:=(B4.trans b5).trans b6;clear B4 b5 b6 D5 D4 u0 i0;refine⟨rfl,6,rfl,by decide,by decide,λW hWn=>Cu (lo:=0) (n:=6) (λj σ ys H2=>∃(u:Option V) (ws:List Nat),σ=[u,some (.str LS),some (.ref d)]/\But d c H6 H2/\DeckAt H2 d c/\H2 W=some (.lst ys)/\ys=ws.map sg/\ws.length=j/\∀x∈ws,97<=x/\x<=122) ?_ (λj σ ys H2 _ ⟨_,_,_,_,_,e,_⟩=>e) ?_ ?_⟩
  ·exact⟨none,[],rfl,But.of (Ac hWn),D6.same (Ac hWn),Ab,rfl,rfl,by simp⟩
  ·rintro j σ ys H2 hj ⟨u,ws,rfl,b2,D2,e2,rfl,wl,wr⟩;refine⟨_,rfl,_,rfl,d,c,26,rfl,D2,by decide,by decide,λx H3 x0 x1 b3 D3=> ?_⟩;have e3:=b3 _ _ e2 (D6.nd hWn) (D6.nc hWn);refine⟨_,x,_,rfl,rfl,small (by decide+kernel),Wc x0 x1,e3,An (by simp;omega),_,ws++[97+x.toNat],rfl,λb o e q1 q2=> ?_,?_,Ab,by rw[map_append];rfl,by simp[wl],?_⟩
   ·rw[Al (Av e hWn)];exact b3 _ _ (b2 _ _ e q1 q2) q1 q2
   ·exact D3.set (D6.nd hWn) (D6.nc hWn)
   ·intro y hy;rcases mem_append.mp hy with hy|hy
    ·exact wr y hy
    ·rw[mem_singleton.mp hy];omega
  rintro σ ys H7 ⟨u,ws,rfl,b7,D7,e7,rfl,wl,wr⟩;rw[sg_map] at e7;refine⟨Str.ofString "",W,_,rfl,rfl,SqL.of e7,?_,?_⟩
  ·rw[sg_sum,If];show _+_ * 0<=_;rw[wl];decide
  have hz:=Vx ws;generalize Txt.join (Str.ofString "") (ws.map λc=>(⟨#[c]⟩:Str))=tl at hz;have B7:=B6.trans b7;have tl6:tl.length=6:=by rw[Eo,hz,wl]
  refine⟨small (by simp),λl hl=> ?_⟩;have s8:=Ac (o:= .lst []) hl;have l8:=Ab (H:=H7) (a:=l) (o:= .lst []);generalize upd H7 l (.lst [])=H8 at s8 l8;refine⟨_,rfl,(M:Int),rfl,by omega,by omega,Hr (lo:=0) (n:=M) (λi σ H5=>∃(u10 u11 u12:Option V) (zs:List Str),σ=[some (.ref d),some (.int (M:Int)),some (.str LS),some (.int (f:Int)),some (.int (s2:Int)),some (.int (st:Int)),some (.int (cu:Int)),some (.int (wi:Int)),some (.str tl),some (.ref l),u10,u11,u12]/\Same H7 H5/\H5 l=some (.lst (zs.map V.str))/\zs.length=i/\(∀(j:Nat) z,zs[j]? =some z->NmT f s2 st j z)/\∀z∈zs,Gc z) ⟨_,_,_,[],rfl,s8,l8,rfl,λj z e=>by simp at e,by simp⟩ ?_ ?_⟩
  ·rintro i σ H5 hi ⟨u10,u11,u12,zs,rfl,s5,l5,zl,zn,zo⟩;have hi:i<M:=hi;have m0:=emod_nonneg ((f:Int)+(st:Int) * (0+(i:Int))) (show (26:Int)≠0 by decide);have m1:=emod_lt_of_pos ((f:Int)+(st:Int) * (0+(i:Int))) (show (0:Int)<26 by decide);have p0:=emod_nonneg ((s2:Int)+(0+(i:Int)) / 26) (show (26:Int)≠0 by decide);have p1:=emod_lt_of_pos ((s2:Int)+(0+(i:Int)) / 26) (show (0:Int)<26 by decide);have c1:97+(((f:Int)+(st:Int) * (0+(i:Int))) % 26).toNat=97+(f+st * i) % 26:=by rcases hst with rfl|rfl|rfl|rfl<;> omega
   have c2:97+(((s2:Int)+(0+(i:Int)) / 26) % 26).toNat=97+(s2+i / 26) % 26:=by omega
   refine⟨_,rfl,_,rfl,_,rfl,_,rfl,_,_,rfl,rfl,.inl ⟨by omega,by omega⟩,_,_,rfl,rfl,_,_,rfl,rfl,(by show (0:Int)<26;decide),LS,_,_,rfl,rfl,small (by decide+kernel),Wc m0 m1,?_⟩;rw[c1];refine⟨_,rfl,_,rfl,_,rfl,_,rfl,_,_,rfl,rfl,⟨by decide,by decide⟩,_,_,rfl,rfl,_,_,rfl,rfl,(by show (0:Int)<26;decide),LS,_,_,rfl,rfl,small (by decide+kernel),Wc p0 p1,_,_,rfl,rfl,(by show 1+1<=_;decide),_,rfl,_,_,rfl,rfl,?_,?_⟩
   ·rw[show ∀a b:Str,(a++b).length=(a++b).cps.toList.length from λa b=>Eo _,Gp,Qa0,tl6];show 1+1+6<=_;decide
   rw[c2];have en:((⟨#[97+(f+st * i) % 26]⟩:Str)++(⟨#[97+(s2+i / 26) % 26]⟩:Str)++tl).cps.toList=(97+(f+st * i) % 26)::(97+(s2+i / 26) % 26)::ws:=by
    rw[Gp,Gp,hz];rfl
   generalize ((⟨#[97+(f+st * i) % 26]⟩:Str)++(⟨#[97+(s2+i / 26) % 26]⟩:Str)++tl)=nm at en;have len:nm.length=8:=by rw[Eo,en,Qa6,Qa6,wl]
   have y0:=emod_nonneg ((cu:Int)+(wi:Int) * (0+(i:Int))) (show (8:Int)≠0 by decide);have y1:=emod_lt_of_pos ((cu:Int)+(wi:Int) * (0+(i:Int))) (show (0:Int)<8 by decide);refine⟨_,rfl,.inl ⟨rfl,_,SqL.of l5⟩,_,rfl,_,rfl,_,_,rfl,rfl,.inr ⟨_,rfl,_,_,rfl,rfl,_,rfl,_,rfl,_,rfl,_,_,rfl,rfl,.inl ⟨by omega,by omega⟩,_,_,rfl,rfl,_,_,rfl,rfl,(by show (0:Int)<8;decide),_,_,rfl,rfl,_,_,rfl,_,rfl,nm,rfl,by rw[len];decide,l,_,_,rfl,rfl,l5,An (by simp;omega),?_⟩⟩;generalize ((cu:Int)+(wi:Int) * (0+(i:Int))) % 8=y at y0 y1 ⊢;obtain⟨n1,n2⟩:=nm_cut (L:=if 1+y > 1+(if decide ((25:Int)<0+(i:Int))=true then 1 else 0) then 1+y else 1+(if decide ((25:Int)<0+(i:Int))=true then 1 else 0)) en wl wr (by split<;> split<;> omega) (by split<;> split<;> omega) (λh=>by
    rw[decide_eq_true (show (25:Int)<0+(i:Int) by omega),Qa3 rfl];split<;> omega)
   refine⟨_,_,_,zs++[_],rfl,Aw s5 hl,by rw[Ab,map_append];rfl,by simp[zl],λj z e=> ?_,λz hz=> ?_⟩
   ·rw[getElem?_append] at e;split at e
    ·exact zn j z e
    ·have hj:j=i:=by
      have:=(List.getElem?_eq_some_iff.mp e).1;simp at this;omega
     subst hj;rw[show j - zs.length=0 by omega,List.getElem?_cons_zero] at e;cases e;exact n1
   ·rcases mem_append.mp hz with hz|hz
    ·exact zo z hz
    ·rw[mem_singleton.mp hz];exact n2
  rintro σ H5 ⟨u10,u11,u12,zs,rfl,s5,l5,zl,zn,zo⟩;exact⟨_,rfl,k l zs _ (B7.trans (But.of s5)) (D7.same s5) (B7.none hD D7 hl) l5 zl (NmT.nodup hst zn (by omega)) zo⟩
theorem Nm{S R:List T4}(h:∀t∈S,Reach R t.2.1 t.2.2.1){a b:Nat}(r:Reach S a b):Reach R a b:=by
 obtain⟨ws,hw⟩:=r
 induction hw with
 |nil=>exact .refl
 |snoc _ q ih=>
  obtain⟨t,ht,_,hh⟩:=D0 q;have r:=h t ht;rcases hh with⟨e1,e2⟩|⟨e1,e2⟩
  ·rw[e1,e2] at r;exact ih.trans r
  ·rw[e1,e2] at r;exact ih.trans r.symm
theorem K1{R:List T4}{t:T4}(ht:t∈R):Reach R t.2.1 t.2.2.1:= .step (Ei ht)
def Bd(L:Nat)(ps:List Nat)(ks:List Str)(fo:Option Str)(x:R6):R6:=
 if fo=some x.1.1 then (x.1,x.2.1,true) else if (x.2.2=true/\x.2.1=L/\x.1.2.1∈ps/\x.1.2.2.1∈ps)\/x.1.1∈ks then (x.1,x.2.1+1,x.2.2) else x
theorem Cp(L:Nat)(ps:List Nat)(ks:List Str)(fo:Option Str)(x:R6):(Bd L ps ks fo x).1=x.1:=by
 unfold Bd;split
 ·rfl
 ·split<;> rfl
structure Mid(N:Nat)(t0:T4)(i:Nat)(R:List R6):Prop where
 e1:t0.2.1<N
 e2:t0.2.2.1<N
 ok:∀x∈R,Sh N x
 nd:(R.map (·.1.1)).Nodup
 len:R.length<=60
 hi:∀j,i<=j->∀x∈R,j<=x.2.1->Reach (tiF R (kpB j)) x.1.2.1 x.1.2.2.1
 lo:∀j,j<i->∀x∈R,j<=x.2.1->Reach (tiF R (kpB j)++[t0]) x.1.2.1 x.1.2.2.1
 shi:∀j:Nat,i<=j->(j:Int)<=lay N->∀p,p<N->((Am N (tiF R (kpB j)) p).length:Int)<=rm N j
 slo:∀j:Nat,j<i->(j:Int)<=lay N->∀p,p<N->((Am N (tiF R (kpB j)++[t0]) p).length:Int)<=rm N j
 forest:Eu N (tiF R (kpB 0)++[t0])+(tiF R (kpB 0)).length+1<=N
theorem Mid.inN{N:Nat}{t0:T4}{i:Nat}{R:List R6}(h:Mid N t0 i R)(p:R6->Bool):InN N (tiF R p):=λt ht=>by
 obtain⟨x,hx,_,rfl⟩:=mem_ti.mp ht;exact⟨(h.ok x hx).2.1.1,(h.ok x hx).2.1.2.1⟩
theorem Fk{N:Nat}{S:List T4}{t:T4}(hS:InN N S)(h1:t.2.1<N)(h2:t.2.2.1<N):InN N (S++[t]):=λu hu=>by
 rcases mem_append.mp hu with q|q
 ·exact hS u q
 ·rw[mem_singleton.mp q];exact⟨h1,h2⟩
theorem De{N:Nat}{S S':List T4}(hS:InN N S)(hS':InN N S')(hN:N<=60){p:Nat}(hp:p<N)(h:∀v,Reach S p v->Reach S' p v):(Am N S p).length<=(Am N S' p).length:=by
 have nd:(Am N S p).Nodup:=(nodup_range).sublist Qc3;refine Nodup.length_le_of_subset nd λv hv=> ?_;obtain⟨vN,r⟩:=(A1 hS hp hN).mp hv;exact(A1 hS' hp hN).mpr ⟨vN,h v r⟩
theorem N4{R:List R6}{i j:Nat}(h:i<=j):∀t∈tiF R (kpB j),t∈tiF R (kpB i):=λt ht=>by
 obtain⟨x,hx,g,rfl⟩:=mem_ti.mp ht;refine mem_ti.mpr ⟨x,hx,?_,rfl⟩;unfold kpB at g ⊢;rw[Qd9,Qa4] at g ⊢;exact⟨by omega,g.2⟩
theorem kp_iff{j:Nat}{x:R6}:kpB j x=true↔j<=x.2.1/\x.2.2=true:=by
 unfold kpB;rw[Qd9,Qa4]
theorem fr_iff{j:Nat}{x:R6}:frB j x=true↔j<=x.2.1:=by
 unfold frB;rw[Qa4]
theorem Mid.good{N:Nat}{t0:T4}{R:List R6}(h:Mid N t0 0 R)(hN:N<=60):LGood N R where
 ok:=h.ok
 nd:=h.nd
 len:=h.len
 same:=λL _ a b q=>Nm (λt ht=>by
  obtain⟨x,hx,g,rfl⟩:=mem_ti.mp ht;exact h.hi L (Qb8 _) x hx (fr_iff.mp g)) q
 size:=λL hL p hp=>by
  have:=De (h.inN (frB L)) (h.inN (kpB L)) hN hp λv q=>Nm (λt ht=>by
   obtain⟨x,hx,g,rfl⟩:=mem_ti.mp ht;exact h.hi L (Qb8 _) x hx (fr_iff.mp g)) q
  have:=h.shi L (Qb8 _) hL p hp;omega
 forest:=by
  have f:=h.forest;by_cases g:Reach (tiF R (kpB 0)) t0.2.1 t0.2.2.1
  ·rw[Ka g] at f;omega
  ·have:=Jj h.e1 h.e2 g;omega
theorem Me{R:List R6}{x:R6}(hx:x∈R)(nd:(R.map (·.1.1)).Nodup){p:R6->Bool}{t:T4}(ht:t∈tiF R p):t∈tiF (Bh R x.1.1) p\/(t=x.1/\p x=true):=by
 obtain⟨y,hy,g,rfl⟩:=mem_ti.mp ht;by_cases e:y.1.1=x.1.1
 ·right;have:y=x:=by
   obtain⟨i,hi,rfl⟩:=getElem_of_mem hy;obtain⟨j,hj,rfl⟩:=getElem_of_mem hx;have:i=j:=by
    refine(List.getElem_inj (h₀:=by rw[If];exact hi) (h₁:=by rw[If];exact hj) nd).mp ?_;rw[getElem_map,getElem_map];exact e
   subst this;rfl
  subst this;exact⟨rfl,g⟩
 ·left;exact mem_ti.mpr ⟨y,mem_filter.mpr ⟨hy,by simpa using e⟩,g,rfl⟩
theorem Fh{R:List R6}{n:Str}{p:R6->Bool}{t:T4}(ht:t∈tiF (Bh R n) p):t∈tiF R p:=by
 obtain⟨y,hy,g,rfl⟩:=mem_ti.mp ht;exact mem_ti.mpr ⟨y,(mem_filter.mp hy).1,g,rfl⟩
theorem Kd{A B:List R6}{x:R6}{p:R6->Bool}:tiF (A++x::B) p=tiF A p++((if p x=true then [x.1] else [])++tiF B p):=by
 unfold tiF;rw[filter_append,map_append,Qf0];split
 ·rfl
 ·rfl
theorem K8{R:List R6}{x:R6}(hx:x∈R)(nd:(R.map (·.1.1)).Nodup):∃A B,R=A++x::B/\(∀y∈A++B,y.1.1≠x.1.1):=by
 obtain⟨A,B,rfl⟩:=List.append_of_mem hx;refine⟨A,B,rfl,λy hy e=> ?_⟩;rw[map_append,Qb5,Qe6] at nd;obtain⟨_,n2,n3⟩:=nd;rw[Qd2] at n2;rcases mem_append.mp hy with hy|hy
 ·exact n3 _ (mem_map.mpr ⟨y,hy,rfl⟩) _ (Qb6 ..) e
 ·exact n2.1 (mem_map.mpr ⟨y,hy,e⟩)
theorem Pf{A B:List R6}{x:R6}(h:∀y∈A++B,y.1.1≠x.1.1):Bh (A++x::B) x.1.1=A++B:=by
 unfold Bh;rw[filter_append,Qc2 (by simp),<-filter_append];exact filter_eq_self.mpr λy hy=>by simpa using h y hy
theorem LGood.gone{N:Nat}{R:List R6}(h:LGood N R)(hN:N<=60){x:R6}(hx:x∈R)(xk:x.2.2=true):Mid N x.1 (x.2.1+1) (Bh R x.1.1) where
 e1:=(h.ok x hx).2.1.1
 e2:=(h.ok x hx).2.1.2.1
 ok:=λy hy=>h.ok y (mem_filter.mp hy).1
 nd:=h.nd.sublist ((Qc3).map _)
 len:=le_trans (Qb2 _ _) h.len
 hi:=λj hj y hy g=>by
  have yR:=(mem_filter.mp hy).1;have lj:(j:Int)<=lay N:=by have:=(h.ok y yR).2.2.2;omega
  have r:=h.same j lj _ _ (K1 (mem_ti.mpr ⟨y,yR,fr_iff.mpr g,rfl⟩));refine r.mono λt ht=> ?_;rcases Me hx h.nd ht with q|⟨_,q⟩
  ·exact q
  ·have:=(kp_iff.mp q).1;omega
 lo:=λj hj y hy g=>by
  have yR:=(mem_filter.mp hy).1;have lj:(j:Int)<=lay N:=by have:=(h.ok y yR).2.2.2;omega
  have r:=h.same j lj _ _ (K1 (mem_ti.mpr ⟨y,yR,fr_iff.mpr g,rfl⟩));refine r.mono λt ht=> ?_;rcases Me hx h.nd ht with q|⟨q,_⟩
  ·exact mem_append_left _ q
  ·rw[q];exact mem_append_right _ (mem_singleton.mpr rfl)
 shi:=λj hj lj p hp=>by
  have i1:InN N (tiF (Bh R x.1.1) (kpB j)):=λt ht=>h.inN (kpB j) t (Fh ht);have:=De i1 (h.inN (frB j)) hN hp λv q=>q.mono λt ht=>M3 t (Fh ht);have:=h.size j lj p hp;omega
 slo:=λj hj lj p hp=>by
  have i1:InN N (tiF (Bh R x.1.1) (kpB j)++[x.1]):=Fk (λt ht=>h.inN (kpB j) t (Fh ht)) (h.ok x hx).2.1.1 (h.ok x hx).2.1.2.1;have:=De i1 (h.inN (frB j)) hN hp λv q=>q.mono λt ht=>by
   rcases mem_append.mp ht with ht|ht
   ·exact M3 t (Fh ht)
   ·rw[mem_singleton.mp ht];exact mem_ti.mpr ⟨x,hx,fr_iff.mpr (by omega),rfl⟩
  have:=h.size j lj p hp;omega
 forest:=by
  obtain⟨A,B,e,ne⟩:=K8 hx h.nd;have f:=h.forest;have kx:kpB 0 x=true:=kp_iff.mpr ⟨Qb8 _,xk⟩;have e2:Bh R x.1.1=A++B:=by rw[e];exact Pf ne
  have l1:(tiF R (kpB 0)).length=(tiF (Bh R x.1.1) (kpB 0)).length+1:=by
   rw[e2,e,Kd,Qa3 kx,Qa0,Qa0];unfold tiF;rw[filter_append,map_append,Qa0];simp only[Qa6,Qb9];omega
  have c1:Eu N (tiF (Bh R x.1.1) (kpB 0)++[x.1])=Eu N (tiF R (kpB 0)):=by
   refine Fp λa b _ _=>⟨λr=>r.mono λt ht=> ?_,λr=>r.mono λt ht=> ?_⟩
   ·rcases mem_append.mp ht with ht|ht
    ·exact Fh ht
    ·rw[mem_singleton.mp ht];exact mem_ti.mpr ⟨x,hx,kx,rfl⟩
   ·rcases Me hx h.nd ht with q|⟨q,_⟩
    ·exact mem_append_left _ q
    ·rw[q];exact mem_append_right _ (mem_singleton.mpr rfl)
  rw[c1];omega
theorem Uq{N:Nat}{S:List T4}(hS:InN N S){a b:Nat}(ha:a<N)(r:Reach S a b):b<N:=by
 obtain⟨ws,hw⟩:=r;cases hw with
 |nil=>exact ha
 |snoc _ q=>exact Ih hS q
theorem X4{N:Nat}:∀{S:List T4},InN N S->N<=Eu N S+S.length:=by
 intro S
 induction h:S.length generalizing S with
 |zero=>
  intro _;have:S=[]:=List.length_eq_zero_iff.mp h;subst this;rw[Q5];omega
 |succ n ih=>
  intro hS;obtain⟨S',t,rfl⟩:∃S' t,S=S'++[t]:=by
   rcases List.eq_nil_or_concat S with h'|⟨L,b,h'⟩
   ·rw[h'] at h;cases h
   ·exact⟨L,b,by rw[h'];simp⟩
  have hS':InN N S':=λu hu=>hS u (mem_append_left _ hu);have ht:=hS t (mem_append_right _ (mem_singleton.mpr rfl));have l:S'.length=n:=by rw[Qa0] at h;simpa using h
  have:=ih l hS';by_cases g:Reach S' t.2.1 t.2.2.1
  ·rw[Ka g];omega
  ·have:=Jj ht.1 ht.2 g;omega
theorem Mid.sep{N:Nat}{t0:T4}{i:Nat}{R:List R6}(h:Mid N t0 i R)(j:Nat):¬Reach (tiF R (kpB j)) t0.2.1 t0.2.2.1:=λr=>by
 have r0:=r.mono (N4 (Qb8 j));have f:=h.forest;rw[Ka r0] at f;have:=X4 (h.inN (kpB 0));omega
structure Half(N:Nat)(t0:T4)(i:Nat)(R:List R6)(P:List Nat)(e:Nat):Prop where
 he:e=t0.2.1\/e=t0.2.2.1
 hP:P=Am N (tiF R (kpB i)) e
 le:P.length<=(Am N (tiF R (kpB i)) t0.2.1).length/\P.length<=(Am N (tiF R (kpB i)) t0.2.2.1).length
theorem Zu{N:Nat}{i:Nat}{k:Nat}(h:((k+k:Nat):Int)<=rm N i):(k:Int)<=rm N ((i:Int)+1):=by
 unfold rm at h ⊢;have e1:((i:Int)).toNat=i:=by omega
 have e2:((i:Int)+1).toNat=i+1:=by omega
 rw[e1] at h;rw[e2,Int.pow_succ,<-Int.ediv_ediv_of_nonneg (Int.le_of_lt (pow_pos (by decide)))];omega
section
variable{N:Nat}{t0:T4}{i:Nat}{R:List R6}{P:List Nat}{e:Nat}
theorem Half.lt(h:Mid N t0 (i+1) R)(q:Half N t0 i R P e):e<N:=by
 rcases q.he with z|z
 ·rw[z];exact h.e1
 ·rw[z];exact h.e2
theorem Half.mem(h:Mid N t0 (i+1) R)(N60:N<=60)(q:Half N t0 i R P e){v:Nat}:v∈P↔v<N/\Reach (tiF R (kpB i)) e v:=by
 rw[q.hP];exact A1 (h.inN _) (q.lt h) N60
theorem Half.closed(h:Mid N t0 (i+1) R)(N60:N<=60)(q:Half N t0 i R P e){a b:Nat}(ha:a∈P)(r:Reach (tiF R (kpB i)) a b):b∈P:=by
 obtain⟨aN,ra⟩:=(q.mem h N60).mp ha;exact(q.mem h N60).mpr ⟨Uq (h.inN _) aN r,ra.trans r⟩
theorem Half.join(h:Mid N t0 (i+1) R)(N60:N<=60)(q:Half N t0 i R P e){a b:Nat}(ha:a∈P)(hb:b∈P):Reach (tiF R (kpB i)) a b:=
 ((q.mem h N60).mp ha).2.symm.trans ((q.mem h N60).mp hb).2
theorem Half.small(h:Mid N t0 (i+1) R)(N60:N<=60)(q:Half N t0 i R P e)(li:(i:Int)<=lay N):(P.length:Int)<=rm N ((i:Int)+1):=by
 refine Zu ?_;have s:=h.slo i (lt_succ_self i) li t0.2.1 h.e1;have hS:=h.inN (kpB i);have hS':=Fk hS h.e1 h.e2;have nd1:(Am N (tiF R (kpB i)) t0.2.1).Nodup:=(nodup_range).sublist Qc3;have nd2:(Am N (tiF R (kpB i)) t0.2.2.1).Nodup:=(nodup_range).sublist Qc3;have nd:(Am N (tiF R (kpB i)) t0.2.1++Am N (tiF R (kpB i)) t0.2.2.1).Nodup:=by
  rw[Qe6];refine⟨nd1,nd2,λa ha b hb z=> ?_⟩;subst z;have r1:=((A1 hS h.e1 N60).mp ha).2;have r2:=((A1 hS h.e2 N60).mp hb).2;exact h.sep i (r1.trans r2.symm)
 have sub:∀v∈Am N (tiF R (kpB i)) t0.2.1++Am N (tiF R (kpB i)) t0.2.2.1,v∈Am N (tiF R (kpB i)++[t0]) t0.2.1:=λv hv=>by
  rw[A1 hS' h.e1 N60];rcases mem_append.mp hv with hv|hv
  ·obtain⟨a,b⟩:=(A1 hS h.e1 N60).mp hv;exact⟨a,b.mono λt ht=>mem_append_left _ ht⟩
  ·obtain⟨a,b⟩:=(A1 hS h.e2 N60).mp hv;exact⟨a,(K1 (mem_append_right _ (mem_singleton.mpr rfl))).trans (b.mono λt ht=>mem_append_left _ ht)⟩
 have l:=Nodup.length_le_of_subset nd sub;rw[Qa0] at l;have:=q.le;omega
def Gb(P:List Nat)(x:R6):Prop:=(x.1.2.1∈P/\x.1.2.2.1 ∉ P)\/(x.1.2.1 ∉ P/\x.1.2.2.1∈P)
structure Gu(i:Nat)(R:List R6)(P:List Nat)(ks:List Str)(fo:Option Str):Prop where
 hk:∀n∈ks,∃x∈R,x.1.1=n/\x.2.1=i/\x.2.2=false/\x.1.2.1∈P/\x.1.2.2.1∈P
 hf:∀f,fo=some f->∃x∈R,x.1.1=f/\x.2.1=i/\x.2.2=false/\Gb P x
 hn:fo=none->∀x∈R,x.2.1=i->x.2.2=false->¬Gb P x
theorem G9(nd:(R.map (·.1.1)).Nodup){x y:R6}(hx:x∈R)(hy:y∈R)(z:y.1.1=x.1.1):y=x:=by
 obtain⟨i,hi,rfl⟩:=getElem_of_mem hy;obtain⟨j,hj,rfl⟩:=getElem_of_mem hx;have:i=j:=by
  refine(List.getElem_inj (h₀:=by rw[If];exact hi) (h₁:=by rw[If];exact hj) nd).mp ?_;rw[getElem_map,getElem_map];exact z
 subst this;rfl
theorem Bs(nd:(R.map (·.1.1)).Nodup){ks:List Str}{fo:Option Str}(D:Gu i R P ks fo){y:R6}(hy:y∈R):
  (fo=some y.1.1/\Bd i P ks fo y=(y.1,y.2.1,true)/\y.2.1=i/\y.2.2=false/\Gb P y)\/
  (Bd i P ks fo y=(y.1,y.2.1+1,y.2.2)/\y.2.1=i/\y.1.2.1∈P/\y.1.2.2.1∈P)\/
  (Bd i P ks fo y=y/\¬(y.2.2=true/\y.2.1=i/\y.1.2.1∈P/\y.1.2.2.1∈P)):=by
 unfold Bd;by_cases a:fo=some y.1.1
 ·left;obtain⟨x,hx,xn,xi,xk,xa⟩:=D.hf _ a;have:=G9 nd hx hy xn.symm;subst this;exact⟨a,by rw[Qa3 a],xi,xk,xa⟩
 ·right;by_cases b:(y.2.2=true/\y.2.1=i/\y.1.2.1∈P/\y.1.2.2.1∈P)\/y.1.1∈ks
  ·left;rw[Qa2 a,Qa3 b];refine⟨rfl,?_⟩;rcases b with b|b
   ·exact⟨b.2.1,b.2.2⟩
   ·obtain⟨x,hx,xn,xi,xk,xp⟩:=D.hk _ b;have:=G9 nd hx hy xn.symm;subst this;exact⟨xi,xp⟩
  ·right;rw[Qa2 a,Qa2 b];exact⟨rfl,λz=>b (.inl z)⟩
variable{ks:List Str}{fo:Option Str}
theorem Jp(nd:(R.map (·.1.1)).Nodup)(D:Gu i R P ks fo){j:Nat}(_:j<=i):∀t∈tiF R (kpB j),t∈tiF (R.map (Bd i P ks fo)) (kpB j):=λt ht=>by
 obtain⟨y,hy,g,rfl⟩:=mem_ti.mp ht;have g:=kp_iff.mp g;refine mem_ti.mpr ⟨Bd i P ks fo y,mem_map.mpr ⟨y,hy,rfl⟩,kp_iff.mpr ?_,Cp ..⟩;rcases Bs nd D hy with⟨_,_,_,z,_⟩|⟨z,_,_⟩|⟨z,_⟩
 ·rw[g.2] at z;cases z
 ·rw[z];exact⟨Nat.le_succ_of_le g.1,g.2⟩
 ·rw[z];exact g
theorem Kp(nd:(R.map (·.1.1)).Nodup)(D:Gu i R P ks fo){j:Nat}(hj:j<=i):∀t∈tiF (R.map (Bd i P ks fo)) (kpB j),t∈tiF R (kpB j)\/∃y∈R,fo=some y.1.1/\t=y.1/\y.2.1=i/\y.2.2=false/\Gb P y:=λt ht=>by
 obtain⟨y',hy',g,rfl⟩:=mem_ti.mp ht;obtain⟨y,hy,rfl⟩:=mem_map.mp hy';rw[Cp];have g:=kp_iff.mp g;rcases Bs nd D hy with⟨a,z,b,c,d⟩|⟨z,b,_⟩|⟨z,_⟩
 ·exact .inr ⟨y,hy,a,rfl,b,c,d⟩
 ·rw[z] at g;exact .inl (mem_ti.mpr ⟨y,hy,kp_iff.mpr ⟨by omega,g.2⟩,rfl⟩)
 ·rw[z] at g;exact .inl (mem_ti.mpr ⟨y,hy,kp_iff.mpr g,rfl⟩)
theorem Ue(nd:(R.map (·.1.1)).Nodup)(D:Gu i R P ks fo){j:Nat}(hj:i+1<=j):∀t∈tiF R (kpB j),t∈tiF (R.map (Bd i P ks fo)) (kpB j):=λt ht=>by
 obtain⟨y,hy,g,rfl⟩:=mem_ti.mp ht;have g:=kp_iff.mp g;refine mem_ti.mpr ⟨Bd i P ks fo y,mem_map.mpr ⟨y,hy,rfl⟩,kp_iff.mpr ?_,Cp ..⟩;rcases Bs nd D hy with⟨_,_,z,_,_⟩|⟨_,z,_⟩|⟨z,_⟩
 ·omega
 ·omega
 ·rw[z];exact g
theorem Ly(nd:(R.map (·.1.1)).Nodup)(D:Gu i R P ks fo){j:Nat}(hj:i+1<=j):∀t∈tiF (R.map (Bd i P ks fo)) (kpB j),t∈tiF R (kpB j)\/(j=i+1/\t∈tiF R (kpB i)/\t.2.1∈P/\t.2.2.1∈P):=λt ht=>by
 obtain⟨y',hy',g,rfl⟩:=mem_ti.mp ht;obtain⟨y,hy,rfl⟩:=mem_map.mp hy';rw[Cp];have g:=kp_iff.mp g;rcases Bs nd D hy with⟨_,z,b,_,_⟩|⟨z,b,c⟩|⟨z,_⟩
 ·rw[z] at g;have g1:j<=y.2.1:=g.1;omega
 ·rw[z] at g;have g1:j<=y.2.1+1:=g.1;exact .inr ⟨by omega,mem_ti.mpr ⟨y,hy,kp_iff.mpr ⟨by omega,g.2⟩,rfl⟩,c⟩
 ·rw[z] at g;exact .inl (mem_ti.mpr ⟨y,hy,kp_iff.mpr g,rfl⟩)
theorem G4(nd:(R.map (·.1.1)).Nodup)(D:Gu i R P ks fo){t:T4}(ht:t∈tiF R (kpB i))(hp:t.2.1∈P)(hq:t.2.2.1∈P):t∈tiF (R.map (Bd i P ks fo)) (kpB (i+1)):=by
 obtain⟨y,hy,g,rfl⟩:=mem_ti.mp ht;have g:=kp_iff.mp g;refine mem_ti.mpr ⟨Bd i P ks fo y,mem_map.mpr ⟨y,hy,rfl⟩,kp_iff.mpr ?_,Cp ..⟩;rcases Bs nd D hy with⟨_,_,_,z,_⟩|⟨z,b,_⟩|⟨z,n⟩
 ·rw[g.2] at z;cases z
 ·rw[z];exact⟨by show i+1<=y.2.1+1;omega,g.2⟩
 ·rw[z];refine⟨?_,g.2⟩;by_cases e:y.2.1=i
  ·exact absurd ⟨g.2,e,hp,hq⟩ n
  ·omega
theorem Yu(h:Mid N t0 (i+1) R)(N60:N<=60)(q:Half N t0 i R P e)(D:Gu i R P ks fo){a b:Nat}(ha:a∈P)(r:Reach (tiF R (kpB i)) a b):Reach (tiF (R.map (Bd i P ks fo)) (kpB (i+1))) a b:=by
 obtain⟨ws,hw⟩:=r
 induction hw with
 |nil=>exact .refl
 | @snoc ws c b n hw qq ih=>
  have hc:=q.closed h N60 ha ⟨ws,hw⟩;have hb:=q.closed h N60 hc (.step qq);obtain⟨t,ht,_,hh⟩:=D0 qq;refine ih.trans ?_;rcases hh with⟨e1,e2⟩|⟨e1,e2⟩
  ·have:=K1 (G4 h.nd D ht (by rw[e1];exact hc) (by rw[e2];exact hb))
   rwa [e1,e2] at this
  ·have:=K1 (G4 h.nd D ht (by rw[e2];exact hb) (by rw[e1];exact hc));rw[e1,e2] at this;exact this.symm
theorem O3(h:Mid N t0 (i+1) R)(N60:N<=60)(q:Half N t0 i R P e)(D:Gu i R P ks fo){a b:Nat}(ha:a ∉ P)(r:Reach (tiF (R.map (Bd i P ks fo)) (kpB (i+1))) a b):b ∉ P/\Reach (tiF R (kpB (i+1))) a b:=by
 obtain⟨ws,hw⟩:=r
 induction hw with
 |nil=>exact⟨ha,.refl⟩
 | @snoc ws c b n hw qq ih=>
  obtain⟨hc,rc⟩:=ih;obtain⟨t,ht,_,hh⟩:=D0 qq;have ht':t∈tiF R (kpB (i+1)):=by
   rcases Ly h.nd D (le_refl _) t ht with z|⟨_,_,z1,z2⟩
   ·exact z
   ·rcases hh with⟨e1,e2⟩|⟨e1,e2⟩
    ·rw[e1] at z1;exact absurd z1 hc
    ·rw[e1] at z2;exact absurd z2 hc
  have rcb:Reach (tiF R (kpB (i+1))) c b:=by
   have:=K1 ht';rcases hh with⟨e1,e2⟩|⟨e1,e2⟩
   ·rwa [e1,e2] at this
   ·rw[e1,e2] at this;exact this.symm
  exact⟨λhb=>hc (q.closed h N60 hb (rcb.symm.mono (N4 (le_succ i)))),rc.trans rcb⟩
theorem Om(h:Mid N t0 (i+1) R)(N60:N<=60)(q:Half N t0 i R P e)(D:Gu i R P ks fo){j:Nat}(hj:i+1<=j){y:R6}(hy:y∈R)(g:j<=(Bd i P ks fo y).2.1):Reach (tiF (R.map (Bd i P ks fo)) (kpB j)) y.1.2.1 y.1.2.2.1:=by
 rcases Bs h.nd D hy with⟨_,z,b,_,_⟩|⟨z,b,c1,c2⟩|⟨z,_⟩
 ·rw[z] at g;have g:j<=y.2.1:=g;omega
 ·rw[z] at g;have g:j<=y.2.1+1:=g;have:j=i+1:=by omega
  subst this;exact Yu h N60 q D c1 (q.join h N60 c1 c2)
 ·rw[z] at g;exact(h.hi j hj y hy g).mono (Ue h.nd D hj)
theorem Dv(h:Mid N t0 (i+1) R)(p:R6->Bool):InN N (tiF (R.map (Bd i P ks fo)) p):=λt ht=>by
 obtain⟨y',hy',_,rfl⟩:=mem_ti.mp ht;obtain⟨y,hy,rfl⟩:=mem_map.mp hy';rw[Cp];exact⟨(h.ok y hy).2.1.1,(h.ok y hy).2.1.2.1⟩
theorem K5(h:Mid N t0 (i+1) R)(N60:N<=60)(q:Half N t0 i R P e)(D:Gu i R P ks fo){j:Nat}(hj:i+1<=j)(lj:(j:Int)<=lay N){p:Nat}(hp:p<N):((Am N (tiF (R.map (Bd i P ks fo)) (kpB j)) p).length:Int)<=rm N j:=by
 have s:=h.shi j hj lj p hp;by_cases g:j=i+1
 ·subst g;by_cases gp:p∈P
  ·have nd:(Am N (tiF (R.map (Bd i P ks fo)) (kpB (i+1))) p).Nodup:=(nodup_range).sublist Qc3;have sub:∀v∈Am N (tiF (R.map (Bd i P ks fo)) (kpB (i+1))) p,v∈P:=λv hv=>by
    have r:=((A1 (Dv h _) hp N60).mp hv).2;refine Classical.byContradiction λhn=> ?_;exact(O3 h N60 q D hn r.symm).1 gp
   have l:=Nodup.length_le_of_subset nd sub;have:=q.small h N60 (by omega);rw[show ((i+1:Nat):Int)=(i:Int)+1 by omega];omega
  ·have:=De (Dv (P:=P) (ks:=ks) (fo:=fo) h (kpB (i+1))) (h.inN (kpB (i+1))) N60 hp λv r=>(O3 h N60 q D gp r).2;omega
 ·have:=De (Dv (P:=P) (ks:=ks) (fo:=fo) h (kpB j)) (h.inN (kpB j)) N60 hp λv r=>r.mono λt ht=>(Ly h.nd D hj t ht).elim id λz=>absurd z.1 g;omega
theorem Vy(h:Mid N t0 (i+1) R)(N24:N<=24)(q:Half N t0 i R P e)(D:Gu i R P ks fo):∀x∈R.map (Bd i P ks fo),Sh N x:=λx hx=>by
 obtain⟨y,hy,rfl⟩:=mem_map.mp hx;obtain⟨o1,o2,o3,o4⟩:=h.ok y hy;rcases Bs h.nd D hy with⟨_,z,_,_,_⟩|⟨z,b,c1,c2⟩|⟨z,_⟩
 ·rw[z];exact⟨o1,o2,o3,o4⟩
 ·rw[z];refine⟨o1,o2,o3,?_⟩;have s:=q.small h (by omega) (by omega);have two:2<=P.length:=by
   have:=Nodup.length_le_of_subset (l₁:=[y.1.2.1,y.1.2.2.1]) (l₂:=P) (by simp[o2.2.2]) (λv hv=>by
    rcases Qa9.mp hv with rfl|hv
    ·exact c1
    ·rw[mem_singleton.mp hv];exact c2)
   exact this
  have:=(rm_ge (m:=(N:Int)) (k:=i) (by have:=h.e1;omega) (by omega)).mp (by omega);show ((y.2.1+1:Nat):Int)<=lay N;omega
 ·rw[z];exact⟨o1,o2,o3,o4⟩
theorem Uo(nd:(R.map (·.1.1)).Nodup):((R.map (Bd i P ks fo)).map (·.1.1)).Nodup:=by
 rw[map_map];have:((·.1.1)∘Bd i P ks fo:R6->Str)=(·.1.1):=by funext x;show (Bd i P ks fo x).1.1=x.1.1;rw[Cp]
 rw[this];exact nd
theorem Qd(R:List R6)(hn:∀x∈R,(Bd i P ks fo x).2.2=x.2.2):tiF (R.map (Bd i P ks fo)) (kpB 0)=tiF R (kpB 0):=by
 unfold tiF;rw[filter_map,map_map];have e1:((·.1)∘Bd i P ks fo:R6->T4)=(·.1):=by funext x;exact Cp ..
 rw[e1]
 congr 1
 refine filter_congr λx hx=> ?_;show kpB 0 (Bd i P ks fo x)=kpB 0 x;unfold kpB;rw[hn x hx];simp
theorem Ic(h:Mid N t0 (i+1) R)(N60:N<=60)(q:Half N t0 i R P e){y:R6}(hy:y∈R)(yi:y.2.1=i)(ya:Gb P y):(Reach (tiF R (kpB i)) y.1.2.1 t0.2.1/\Reach (tiF R (kpB i)) t0.2.2.1 y.1.2.2.1)\/(Reach (tiF R (kpB i)) y.1.2.1 t0.2.2.1/\Reach (tiF R (kpB i)) t0.2.1 y.1.2.2.1):=by
 have r:=h.lo i (lt_succ_self i) y hy (by omega);rcases reach_snoc.mp r with r|r|r
 ·exfalso;rcases ya with⟨a,b⟩|⟨a,b⟩
  ·exact b (q.closed h N60 a r)
  ·exact a (q.closed h N60 b r.symm)
 ·exact .inl r
 ·exact .inr r
theorem Mid.next(h:Mid N t0 (i+1) R)(N24:N<=24)(q:Half N t0 i R P e)(D:Gu i R P ks none):Mid N t0 i (R.map (Bd i P ks none)) where
 e1:=h.e1
 e2:=h.e2
 ok:=Vy h N24 q D
 nd:=Uo h.nd
 len:=by rw[If];exact h.len
 hi:=λj hj x hx g=>by
  have N60:N<=60:=by omega
  obtain⟨y,hy,rfl⟩:=mem_map.mp hx;rw[Cp];by_cases gj:i+1<=j
  ·exact Om h N60 q D gj hy g
  ·have:j=i:=by omega
   subst this;have yi:j<=y.2.1:=by
    rcases Bs h.nd D hy with⟨a,_⟩|⟨_,b,_⟩|⟨z,_⟩
    ·cases a
    ·omega
    ·rw[z] at g;exact g
   refine Reach.mono (Jp h.nd D (le_refl _)) ?_;by_cases y1:j+1<=y.2.1
   ·exact(h.hi (j+1) (le_refl _) y hy y1).mono (N4 (le_succ j))
   ·have yj:y.2.1=j:=by omega
    cases yk:y.2.2 with
    |true=>exact K1 (mem_ti.mpr ⟨y,hy,kp_iff.mpr ⟨yi,yk⟩,rfl⟩)
    |false=>
     refine Classical.byContradiction λnr=> ?_;refine D.hn rfl y hy yj yk ?_;rcases reach_snoc.mp (h.lo j (lt_succ_self j) y hy yi) with r|⟨r1,r2⟩|⟨r1,r2⟩
     ·exact absurd r nr
     ·rcases q.he with z|z
      ·have hp:y.1.2.1∈P:=(q.mem h N60).mpr ⟨(h.ok y hy).2.1.1,by rw[z];exact r1.symm⟩;exact .inl ⟨hp,λhq=>nr (q.join h N60 hp hq)⟩
      ·have hq:y.1.2.2.1∈P:=(q.mem h N60).mpr ⟨(h.ok y hy).2.1.2.1,by rw[z];exact r2⟩;exact .inr ⟨λhp=>nr (q.join h N60 hp hq),hq⟩
     ·rcases q.he with z|z
      ·have hq:y.1.2.2.1∈P:=(q.mem h N60).mpr ⟨(h.ok y hy).2.1.2.1,by rw[z];exact r2⟩;exact .inr ⟨λhp=>nr (q.join h N60 hp hq),hq⟩
      ·have hp:y.1.2.1∈P:=(q.mem h N60).mpr ⟨(h.ok y hy).2.1.1,by rw[z];exact r1.symm⟩;exact .inl ⟨hp,λhq=>nr (q.join h N60 hp hq)⟩
 lo:=λj hj x hx g=>by
  obtain⟨y,hy,rfl⟩:=mem_map.mp hx;rw[Cp];have yj:j<=y.2.1:=by
   rcases Bs h.nd D hy with⟨a,_⟩|⟨_,b,_⟩|⟨z,_⟩
   ·cases a
   ·omega
   ·rw[z] at g;exact g
  refine(h.lo j (by omega) y hy yj).mono λt ht=> ?_;rcases mem_append.mp ht with ht|ht
  ·exact mem_append_left _ (Jp h.nd D (by omega) t ht)
  ·exact mem_append_right _ ht
 shi:=λj hj lj p hp=>by
  have N60:N<=60:=by omega
  by_cases gj:i+1<=j
  ·exact K5 h N60 q D gj lj hp
  ·have:j=i:=by omega
   subst this;have:=De (Dv (P:=P) (ks:=ks) (fo:=none) h (kpB j)) (Fk (h.inN (kpB j)) h.e1 h.e2) N60 hp λv r=>r.mono λt ht=>mem_append_left _ ((Kp h.nd D (le_refl _) t ht).elim id λ⟨_,_,z,_⟩=>by cases z);have:=h.slo j (lt_succ_self j) lj p hp;omega
 slo:=λj hj lj p hp=>by
  have N60:N<=60:=by omega
  have:=De (Fk (Dv (P:=P) (ks:=ks) (fo:=none) h (kpB j)) h.e1 h.e2) (Fk (h.inN (kpB j)) h.e1 h.e2) N60 hp λv r=>r.mono λt ht=>by
   rcases mem_append.mp ht with ht|ht
   ·exact mem_append_left _ ((Kp h.nd D (by omega) t ht).elim id λ⟨_,_,z,_⟩=>by cases z)
   ·exact mem_append_right _ ht
  have:=h.slo j (by omega) lj p hp;omega
 forest:=by
  have:tiF (R.map (Bd i P ks none)) (kpB 0)=tiF R (kpB 0):=Qd R λx hx=>by
   rcases Bs h.nd D hx with⟨a,_⟩|⟨z,_⟩|⟨z,_⟩
   ·cases a
   ·rw[z]
   ·rw[z]
  rw[this];exact h.forest
theorem Mid.found(h:Mid N t0 (i+1) R)(N24:N<=24)(q:Half N t0 i R P e){f:Str}(D:Gu i R P ks (some f)):LGood N (R.map (Bd i P ks (some f))):=by
 have N60:N<=60:=by omega
 obtain⟨y0,hy0,yn,yi,yk,ya⟩:=D.hf f rfl;have bf:Bd i P ks (some f) y0=(y0.1,y0.2.1,true):=by
  unfold Bd;rw[Qa3 (by rw[yn])]
 have inF:∀j,j<=i->y0.1∈tiF (R.map (Bd i P ks (some f))) (kpB j):=λj hj=>
  mem_ti.mpr ⟨(y0.1,y0.2.1,true),mem_map.mpr ⟨y0,hy0,bf⟩,kp_iff.mpr ⟨by show j<=y0.2.1;omega,rfl⟩,rfl⟩
 have jn:=Ic h N60 q hy0 yi ya;have low:∀{j},j<=i->∀{a b},Reach (tiF R (kpB j)++[t0]) a b->Reach (tiF (R.map (Bd i P ks (some f))) (kpB j)) a b:=λ{j} hj {a b} r=>by
  have sub:∀{a b},Reach (tiF R (kpB j)) a b->Reach (tiF (R.map (Bd i P ks (some f))) (kpB j)) a b:=λr=>r.mono (Jp h.nd D hj);have subi:∀{a b},Reach (tiF R (kpB i)) a b->Reach (tiF (R.map (Bd i P ks (some f))) (kpB j)) a b:=λr=>sub (r.mono (N4 hj));have t:=K1 (inF j hj);have pq:Reach (tiF (R.map (Bd i P ks (some f))) (kpB j)) t0.2.1 t0.2.2.1:=by
   rcases jn with⟨r1,r2⟩|⟨r1,r2⟩
   ·exact((subi r1).symm.trans t).trans (subi r2).symm
   ·exact(subi r2).trans (t.symm.trans (subi r1))
  rcases reach_snoc.mp r with r|⟨r1,r2⟩|⟨r1,r2⟩
  ·exact sub r
  ·exact((sub r1).trans pq).trans (sub r2)
  ·exact((sub r1).trans pq.symm).trans (sub r2)
 have back:∀{j},j<=i->∀{a b},Reach (tiF (R.map (Bd i P ks (some f))) (kpB j)) a b->Reach (tiF R (kpB j)++[t0]) a b:=λ{j} hj {a b} r=>Nm (λt ht=>by
  rcases Kp h.nd D hj t ht with z|⟨y,hy,e1,rfl,e2,_,e4⟩
  ·exact K1 (mem_append_left _ z)
  ·have subi:∀{a b},Reach (tiF R (kpB i)) a b->Reach (tiF R (kpB j)++[t0]) a b:=λr=>(r.mono (N4 hj)).mono λt ht=>mem_append_left _ ht;have t:=K1 (R:=tiF R (kpB j)++[t0]) (t:=t0) (mem_append_right _ (mem_singleton.mpr rfl));rcases Ic h N60 q hy e2 e4 with⟨r1,r2⟩|⟨r1,r2⟩
   ·exact((subi r1).trans t).trans (subi r2)
   ·exact((subi r1).trans t.symm).trans (subi r2)) r
 have same:∀L:Nat,(L:Int)<=lay N->∀x∈R.map (Bd i P ks (some f)),L<=x.2.1->Reach (tiF (R.map (Bd i P ks (some f))) (kpB L)) x.1.2.1 x.1.2.2.1:=λL hL x hx g=>by
  obtain⟨y,hy,rfl⟩:=mem_map.mp hx;rw[Cp];by_cases gL:i+1<=L
  ·exact Om h N60 q D gL hy g
  ·refine low (by omega) (h.lo L (by omega) y hy ?_);rcases Bs h.nd D hy with⟨_,_,b,_,_⟩|⟨_,b,_⟩|⟨z,_⟩
   ·omega
   ·omega
   ·rw[z] at g;exact g
 refine⟨Vy h N24 q D,Uo h.nd,by rw[If];exact h.len,λL hL a b r=>Nm (λt ht=> ?_) r,λL hL p hp=> ?_,?_⟩
 ·obtain⟨x,hx,g,rfl⟩:=mem_ti.mp ht;exact same L hL x hx (fr_iff.mp g)
 ·have c:=De (Dv (P:=P) (ks:=ks) (fo:=some f) h (frB L)) (Dv (P:=P) (ks:=ks) (fo:=some f) h (kpB L)) N60 hp λv r=>Nm (λt ht=>by
   obtain⟨x,hx,g,rfl⟩:=mem_ti.mp ht;exact same L hL x hx (fr_iff.mp g)) r
  by_cases gL:i+1<=L
  ·have:=K5 h N60 q D gL hL hp;omega
  ·have:=De (Dv (P:=P) (ks:=ks) (fo:=some f) h (kpB L)) (Fk (h.inN (kpB L)) h.e1 h.e2) N60 hp λv r=>back (by omega) r;have:=h.slo L (by omega) hL p hp;omega
 ·have c:Eu N (tiF (R.map (Bd i P ks (some f))) (kpB 0))=Eu N (tiF R (kpB 0)++[t0]):=Fp λa b _ _=>⟨back (Qb8 _),low (Qb8 _)⟩
  have l:(tiF (R.map (Bd i P ks (some f))) (kpB 0)).length=(tiF R (kpB 0)).length+1:=by
   obtain⟨A,B,eR,ne⟩:=K8 hy0 h.nd;have oth:∀y∈A++B,(Bd i P ks (some f) y).2.2=y.2.2:=λy hy=>by
    have yR:y∈R:=by
     rw[eR];rcases mem_append.mp hy with hy|hy
     ·exact mem_append_left _ hy
     ·exact mem_append_right _ (Qb4 _ hy)
    rcases Bs h.nd D yR with⟨a,_⟩|⟨z,_⟩|⟨z,_⟩
    ·exact absurd ((Option.some.inj a).symm.trans yn.symm) (ne y hy)
    ·rw[z]
    ·rw[z]
   have tA:=Qd (i:=i) (P:=P) (ks:=ks) (fo:=some f) A λy hy=>oth y (mem_append_left _ hy);have tB:=Qd (i:=i) (P:=P) (ks:=ks) (fo:=some f) B λy hy=>oth y (mem_append_right _ hy);rw[eR,map_append,Qb5,bf,Kd,Kd,tA,tB,Qa3 (kp_iff.mpr ⟨Qb8 _,rfl⟩),Qa2 (λz=>by have:=(kp_iff.mp z).2;rw[yk] at this;cases this)];simp only[Qa0,Qa6,Qb9];omega
  have:=h.forest;rw[c,l];omega
end
def foV:Option Str->V
 |none=> .non
 |some f=> .str f
def psV(ps:List Nat):List V:=ps.map λ(p:Nat)=>V.int (p:Int)
structure ToldAt(H:Hp)(tl:Addr)(L:Nat)(ps:List Nat)(ks:List Str)(fo:Option Str):Prop where
 ex:∃pl lk:Addr,H tl=some (.tup [.int (L:Int),.ref pl,.ref lk,foV fo])/\H pl=some (.tup (psV ps))/\H lk=some (.tup (ks.map V.str))
theorem ToldAt.same{H H':Hp}{tl:Addr}{L:Nat}{ps:List Nat}{ks:List Str}{fo:Option Str}(h:ToldAt H tl L ps ks fo)(s:Same H H'):ToldAt H' tl L ps ks fo:=by
 obtain⟨pl,lk,a,b,c⟩:=h.ex;exact⟨pl,lk,s _ _ a,s _ _ b,s _ _ c⟩
def Og:Sp:=λvs H Q _=>∃(r tl:Addr) (x:R6) (L:Nat) (ps:List Nat) (ks:List Str) (fo:Option Str),vs=[.ref r,.ref tl]/\H r=some (.tup (Et x))/\ToldAt H tl L ps ks fo/\∀(r':Addr) (H':Hp),Same H H'->H' r'=some (.tup (Et (Bd L ps ks fo x)))->Q (.ref r') H'
def tWith:TS:=λD σ H=>∃(r tl pl lk:Addr) (x:R6) (L:Nat) (ps:List Nat) (ks:List Str) (fo:Option Str) (b:Bool),σ=[some (.ref r),some (.ref tl),some (.int (L:Int)),some (.ref pl),some (.ref lk),some (foV fo),some (.str x.1.1),some (.int (x.1.2.1:Int)),some (.int (x.1.2.2.1:Int)),some (.int x.1.2.2.2),some (.int (x.2.1:Int)),some (.bl x.2.2),some (.bl b)]/\H r=some (.tup (Et x))/\H lk=some (.tup (ks.map V.str))/\fo≠some x.1.1/\(b=true↔x.2.2=true/\x.2.1=L/\x.1.2.1∈ps/\x.1.2.2.1∈ps)/\∀(r':Addr) (H':Hp),Same H H'->H' r'=some (.tup (Et (Bd L ps ks fo x)))->D.rt (.ref r') H'
theorem Jh(ps:List Nat):(psV ps).all Eg=true:=by
 rw[all_eq_true];intro x hx;obtain⟨z,_,rfl⟩:=mem_map.mp hx;rfl
theorem Zb(zs:List Str):(zs.map V.str).all Eg=true:=by
 rw[all_eq_true];intro x hx;obtain⟨z,_,rfl⟩:=mem_map.mp hx;rfl
theorem Pu(p:Nat)(ps:List Nat):inV (.int (p:Int)) (psV ps)=decide (p∈ps):=by
 unfold inV psV;rw[List.any_map,Bool.eq_iff_iff,Qa4,List.any_eq_true];constructor
 ·rintro⟨q,hq,e⟩;have e:eqV (.int (q:Int)) (.int (p:Int))=true:=e;have:(q:Int)=(p:Int):=by simpa[eqV] using e
  rw[<-ofNat.inj this];exact hq
 ·intro h;exact⟨p,h,by show eqV (.int (p:Int)) (.int (p:Int))=true;simp[eqV]⟩
theorem scBehind:Ax ["row","told","layer","places","looked","found","name","one","other","weight","at","kept","lies_within"] ["row","told"] (Ah Ms):=⟨rfl,rfl,rfl,by decide+kernel,rfl,by decide+kernel,by decide+kernel⟩
theorem T2{f:Addr}{fd:FuncData}(F:Fun K "row_behind" "row_behind" Ms f fd)(T:Txt mg):
  FnOk P w K mg base CX0 1 f fd ["row","told"] Og:=by
 refine F.ok scBehind (λvs H Q E h=> ?_) (λcdv A outer s H vs Q E hr h=> ?_)
 ·obtain⟨_,_,_,_,_,_,_,rfl,_⟩:=h;rfl
 ·obtain⟨r,tl,x,L,ps,ks,fo,rfl,hr0,T1,k⟩:=h;refine⟨_,Ae (Di (pv 1) (Cy rfl (At (Aj (i:=2) scBehind.nd rfl (Or.inl rfl)) (At (Aj (i:=3) scBehind.nd rfl (Or.inl rfl)) (At (Aj (i:=4) scBehind.nd rfl (Or.inl rfl)) (At (Aj (i:=5) scBehind.nd rfl (Or.inl rfl)) Cc))))))
   (Ae (Di (pv 0) (Cy rfl (At (Aj (i:=6) scBehind.nd rfl (Or.inl rfl)) (At (Aj (i:=7) scBehind.nd rfl (Or.inl rfl)) (At (Aj (i:=8) scBehind.nd rfl (Or.inl rfl)) (At (Aj (i:=9) scBehind.nd rfl (Or.inl rfl)) (At (Aj (i:=10) scBehind.nd rfl (Or.inl rfl)) (At (Aj (i:=11) scBehind.nd rfl (Or.inl rfl)) Cc))))))))
   (Ae (Be (As Bl (pv 6) (pv 5) (Ar _)) (Ag (Ap (A5 (Aa (pv 6) (Aa (pv 7) (Aa (pv 8) (Aa (pv 9) (Aa (pv 10) (Aa Os Ad))))))))) A2)
   (Ae (Ao (i:=12) scBehind.nd rfl (Or.inl rfl) (Ds (pv 11) (Ds (Bg Bl (pv 10) (pv 2) (Ar _)) (Ds (Bg Dq (pv 7) (pv 3) (by rfl)) (Fx (Bg Dq (pv 8) (pv 3) (by rfl)))))))
   (PSs.imp' (t':=tWith) (Ae (Be (PW.pt (Fs (Cv (pv 12)) (Ep (As Dq (pv 6) (pv 4) (by rfl))))) (Ag (Ap (A5 (Aa (pv 6) (Aa (pv 7) (Aa (pv 8) (Aa (pv 9) (Aa (A0 Bo (pv 10) Af) (Aa (pv 11) Ad))))))))) A2)
   (Ag (Ap (pv 0)))) ?rest)))),?_⟩
  case rest=>
   clear hr0 T1 k;rintro D σ H ⟨r,tl,pl,lk,x,L,ps,ks,fo,b,rfl,h0,e3,nf,hb,k⟩;have fin:∀{y:R6} {r':Addr} {H':Hp},Bd L ps ks fo x=y->Same H H'->H' r'=some (.tup (Et y))->D.rt (.ref r') H':=λe s h=>k _ _ s (by rw[e];exact h);have up:b=true\/x.1.1∈ks->∀(q:Addr),H q=none->D.rt (.ref q) (upd H q (.tup [.str x.1.1,.int (x.1.2.1:Int),.int (x.1.2.2.1:Int),.int x.1.2.2.2,.int ((x.2.1:Int)+1),.bl x.2.2])):=λz q hq=>by
    refine fin (y:=(x.1,x.2.1+1,x.2.2)) ?_ (Ac hq) Ab;unfold Bd;rw[Qa2 nf,Qa3 (by rw[<-hb];exact z)]
   refine⟨_,rfl,_,rfl,Bz (λg=> ?_) λg=> ?_⟩
   ·exact⟨_,rfl,_,rfl,_,rfl,_,rfl,_,rfl,_,_,rfl,rfl,_,rfl,small (by simp),λq hq=>up (.inl g) q hq⟩
   ·refine⟨_,rfl,_,rfl,lk,_,rfl,.inr (SqT.of e3),rfl,Zb _,_,rfl,Bz (λg2=> ?_) λg2=> ?_⟩
    ·have g2:x.1.1∈ks:=by
      rw[Qa2 (by decide),Gz] at g2;simpa using g2
     exact⟨_,rfl,_,rfl,_,rfl,_,rfl,_,rfl,_,_,rfl,rfl,_,rfl,small (by simp),λq hq=>up (.inr g2) q hq⟩
    ·have g2:x.1.1 ∉ ks:=by
      rw[Qa2 (by decide),Gz] at g2;simpa using g2
     dsimp only[Bc];refine⟨_,rfl,fin (y:=x) ?_ (Cf _) h0⟩;unfold Bd;rw[Qa2 nf,Qa2 (by rw[<-hb];rintro(z|z);exact g z;exact g2 z)]
  obtain⟨pl,lk,e1,e2,e3⟩:=T1.ex;refine⟨_,rfl,tl,_,rfl,SqT.of e1,rfl,_,_,rfl,_,_,rfl,_,_,rfl,_,_,rfl,rfl,?_⟩;refine⟨_,rfl,r,_,rfl,SqT.of hr0,rfl,_,_,rfl,_,_,rfl,_,_,rfl,_,_,rfl,_,_,rfl,_,_,rfl,rfl,?_⟩;have fin:∀{y:R6} {r':Addr} {H':Hp},Bd L ps ks fo x=y->Same H H'->H' r'=some (.tup (Et y))->Q (.ref r') H':=λe s h=>k _ _ s (by rw[e];exact h);refine⟨_,rfl,_,rfl,(by cases fo<;> rfl),_,rfl,Bz (λg=> ?_) λg=> ?_⟩
  ·have g:fo=some x.1.1:=by
    cases fo with
    |none=>exact absurd g (by simp[foV])
    |some f=>
     have:V.str x.1.1=V.str f:=by simpa[foV] using g
     rw[V.str.inj this]
   refine⟨_,rfl,_,rfl,_,rfl,_,rfl,_,rfl,small (by simp),λq hq=> ?_⟩;exact fin (y:=(x.1,x.2.1,true)) (Qa3 g) (Ac hq) Ab
  have g:¬fo=some x.1.1:=λz=>by subst z;simp[foV] at g
  dsimp only[Bc];have out:∀b:Bool,(b=true↔x.2.2=true/\x.2.1=L/\x.1.2.1∈ps/\x.1.2.2.1∈ps)->tWith {nx:=λx H'=>Q V.non H',rt:=Q} [some (.ref r),some (.ref tl),some (.int (L:Int)),some (.ref pl),some (.ref lk),some (foV fo),some (.str x.1.1),some (.int (x.1.2.1:Int)),some (.int (x.1.2.2.1:Int)),some (.int x.1.2.2.2),some (.int (x.2.1:Int)),some (.bl x.2.2),some (.bl b)] H:=λb hb=>⟨r,tl,pl,lk,x,L,ps,ks,fo,b,rfl,hr0,e3,g,hb,k⟩
  have i1:∀p:Nat,(if false=true then !inV (.int (p:Int)) (psV ps) else inV (.int (p:Int)) (psV ps))=decide (p∈ps):=λp=>by rw[Qa2 (by decide)];exact Pu p ps
  refine⟨_,rfl,_,rfl,Bz (λg1=> ?_) λg1=> ?_⟩
  ·refine⟨_,rfl,_,rfl,rfl,_,rfl,Bz (λg2=> ?_) λg2=> ?_⟩
   ·have g2:x.2.1=L:=by
     have:=Qb1 g2;exact ofNat.inj (V.int.inj this)
    refine⟨_,rfl,_,rfl,pl,_,rfl,.inr (SqT.of e2),rfl,Jh _,?_⟩;rw[i1];refine⟨_,rfl,Bz (λg3=> ?_) λg3=> ?_⟩
    ·have g3:x.1.2.1∈ps:=Qb1 g3;refine⟨_,rfl,_,rfl,pl,_,rfl,.inr (SqT.of e2),rfl,Jh _,?_⟩;rw[i1];exact out _ ⟨λz=>⟨g1,g2,g3,Qb1 z⟩,λz=>decide_eq_true z.2.2.2⟩
    ·exact out _ ⟨λz=>(by cases z),λz=>absurd (decide_eq_true z.2.2.1) g3⟩
   ·exact out _ ⟨λz=>(by cases z),λz=>absurd (by rw[z.2.1];exact decide_eq_true rfl) g2⟩
  ·exact out _ ⟨λz=>(by cases z),λz=>absurd z.1 g1⟩
def Hk:Sp:=λvs H Q _=>∃(tp tl:Addr) (rs:List Addr) (R:List R6) (L:Nat) (ps:List Nat) (ks:List Str) (fo:Option Str),vs=[.ref tp,.ref tl]/\H tp=some (.tup (rs.map V.ref))/\RowsAt H rs R/\R.length<=60/\ToldAt H tl L ps ks fo/\∀(tq:Addr) (qs:List Addr) (H':Hp),Same H H'->H' tq=some (.tup (qs.map V.ref))->RowsAt H' qs (R.map (Bd L ps ks fo))->Q (.ref tq) H'
theorem Tj:Ax ["rows","told"] ["rows","told"] (Ah Gs):=⟨rfl,rfl,rfl,by decide+kernel,rfl,by decide+kernel,by decide+kernel⟩
theorem Po{f:Addr}{fd:FuncData}(F:Fun K "rows_behind" "rows_behind" Gs f fd)(T:Txt mg)(GBehind:Cl P w K mg base 1 "row_behind" ["row","told"] Og):
  FnOk P w K mg base CX0 2 f fd ["rows","told"] Hk:=by
 refine F.ok Tj (λvs H Q E h=> ?_) (λcdv A outer s H vs Q E hr h=> ?_)
 ·obtain⟨_,_,_,_,_,_,_,_,rfl,_⟩:=h;rfl
 ·obtain⟨tp,tl,rs,R,L,ps,ks,fo,rfl,ht,hR,R60,T1,k⟩:=h;refine⟨_,Ag (Ap (A6 A7 (by rfl) T.tuple (by decide+kernel) (Aa (Bj (T:=["row"]) (F:=["told"]) (js:=[1]) (cs (osc:=Ah Gs)) rfl (Ca (pv 0)) (λ_ _ _ _ _=>Aj (i:=0) (show (["row","told"]:List Str).Nodup by decide+kernel) rfl (Or.inl rfl)) (λ_ _ _ _ _=>Bt) (λ_ _ _ _ _=>Au GBehind hr (Aa (pv 0) (Aa (pv 1) Ad)))) Ad))),?_⟩;refine⟨_,rfl,tp,rfl,⟨_,SqT.of ht⟩,λD hD=>Cj (K:=K) (a:=tp) (xs:=rs.map V.ref) (λj σ ys H2=>∃(u:Option V) (qs:List Addr),σ=[u,some (.ref tl)]/\ys=qs.map V.ref/\Same H H2/\H2 D=some (.lst ys)/\RowsAt H2 qs ((R.take j).map (Bd L ps ks fo))) ⟨none,[],rfl,rfl,Ac hD,Ab,rfl,λi r t e=>by simp at e⟩ (λj σ ys H2 _ ⟨_,_,_,_,s,e,_⟩=>⟨SqT.of (s _ _ ht),e⟩) ?_ ?_⟩
  ·rintro j x σ ys H2 hx ⟨u,qs,rfl,rfl,s2,d2,p2⟩;obtain⟨r,er,rfl⟩:=A3 hx;obtain⟨y,ey,hy⟩:=hR.get er;have ql:qs.length<=60:=by rw[p2.1,If,Qb0];omega
   refine⟨_,rfl,_,rfl,r,tl,y,L,ps,ks,fo,rfl,s2 _ _ hy,T1.same s2,λr' H3 s3 e3=> ?_⟩;have d3:=s3 _ _ d2;have kp:∀(r:Addr) (zs:List V) (o:HO),H3 r=some (.tup zs)->upd H3 D o r=some (.tup zs):=λr zs o e=>by rw[Al (Bx e d3 (by intro z;cases z))];exact e
   refine⟨d3,An (by rw[If];omega),_,qs++[r'],rfl,by rw[map_append];rfl,Aw (s2.trans s3) hD,Ab,?_⟩;rw[Qc8,ey,map_append];exact(p2.mono λr zs e=>kp r zs _ (s3 _ _ e)).snoc (kp _ _ _ e3)
  rintro σ ys H2 ⟨u,qs,rfl,rfl,s2,d2,p2⟩;rw[If,hR.1,Qb3] at p2;refine⟨D,_,rfl,.inl ⟨SqL.of d2,λtq htq=> ?_⟩⟩;exact k tq qs _ (s2.trans (Ac htq)) Ab (p2.mono λr xs e=>Ac htq _ _ e)
theorem Y5{X:Cx}{tg l:Expr}{tl:TE}(K:Frag)(hK:X.K=K)(hl:PE X l tl):PI X tg l (iTup K tl):=by subst hK;exact Ca hl
def Hx(R:List R6)(L:Nat):List R6:=R.filter λx=>decide (x.2.1=L) && !x.2.2
def cntF(ps:List Nat)(x:R6):Nat:=([x.1.2.1,x.1.2.2.1].filter λp=>decide (p∈ps)).length
def Ea(R:List R6)(L:Nat)(ps:List Nat)(e:Nat):List Str:=((Hx R L).filter λx=>decide (cntF ps x=e)).map (·.1.1)
def Mg:Sp:=λvs H Q _=>∃(tp pl:Addr) (rs:List Addr) (R:List R6) (L e:Nat) (ps:List Nat),vs=[.ref tp,.int (L:Int),.ref pl,.int (e:Int)]/\H tp=some (.tup (rs.map V.ref))/\RowsAt H rs R/\R.length<=60/\H pl=some (.tup (psV ps))/\∀(l:Addr) (H':Hp),Same H H'->H' l=some (.lst ((Ea R L ps e).map V.str))->Q (.ref l) H'
theorem Xg(x:R6):Ec (Et x) (some 1) (some 3)=[.int (x.1.2.1:Int),.int (x.1.2.2.1:Int)]:=by
 unfold Ec Et Hy;rfl
theorem scLoose:Ax ["rows","layer","places","ends","loose"] ["rows","layer","places","ends"] (Ah Jx):=⟨rfl,rfl,rfl,by decide+kernel,rfl,by decide+kernel,by decide+kernel⟩
theorem U0{f:Addr}{fd:FuncData}(F:Fun K "loose_names" "loose_names" Jx f fd)(T:Txt mg):
  FnOk P w K mg base CX0 1 f fd ["rows","layer","places","ends"] Mg:=by
 refine F.ok scLoose (λvs H Q E h=> ?_) (λcdv A outer s H vs Q E hr h=> ?_)
 ·obtain⟨_,_,_,_,_,_,_,rfl,_⟩:=h;rfl
 ·obtain⟨tp,pl,rs,R,L,e,ps,rfl,ht,hR,R60,hp,k⟩:=h;refine⟨_,Ae (Dz (i:=4) (T:=["row"]) (F:=["layer"]) (js:=[1]) scLoose.nd rfl (Or.inl rfl) (cs (osc:=Ah Jx)) rfl (Ca (pv 0)) (λ_ _ _ _ _=>Aj (i:=0) (show (["row","layer"]:List Str).Nodup by decide+kernel) rfl (Or.inl rfl)) (λ_ _ _ _ _=>Cs (PW.pt (Qq (As Bl (Aq (r:=J4 K) Az (pv 0) Af (λ_ _=>rfl)) (pv 1) (Ar _)) (Mp (Hn (Cv (Aq (r:=J4 K) Az (pv 0) Af (λ_ _=>rfl)))))))) (λ_ _ _ _ _=>pv 0))
   (Ag (Ap (Bj (T:=["row"]) (F:=["ends","places"]) (js:=[3,2]) (cs (osc:=Ah Jx)) rfl (Cr (pv 4)) (λ_ _ _ _ _=>Aj (i:=0) (show (["row","ends","places"]:List Str).Nodup by decide+kernel) rfl (Or.inl rfl)) (λ_ _ _ _ _=>Cs (As Bl (Ay (r:=Re K) A8 (by rfl) T.len PySem.boot_len (Aa (Bj (T:=["place"]) (F:=["places"]) (js:=[2]) (cs (osc:={kind:= .function,names:=[(".0",.local),("row",.local),("len",.globalImplicit),("ends",.cell),("places",.cell)],isGenerator:=false,isCoroutine:=false})) rfl (Y5 K rfl (Ce (r:=Ij K) Dc (pv 0) (Br Af) (Br Af))) (λ_ _ _ _ _=>Aj (i:=0) (show (["place","places"]:List Str).Nodup by decide+kernel) rfl (Or.inl rfl)) (λ_ _ _ _ _=>Cs (As (r:=rIn K false) Dq (pv 0) (pv 1) (by rfl))) (λ_ _ _ _ _=>pv 0)) Ad)) (pv 1) (Ar _))) (λ_ _ _ _ _=>Aq (r:=J4 K) Az (pv 0) Af (λ_ _=>rfl))))),?_⟩
  refine⟨_,rfl,tp,rfl,⟨_,SqT.of ht⟩,λD hD=>Cj (K:=K) (a:=tp) (xs:=rs.map V.ref) (λj σ ys H2=>∃(u:Option V) (qs:List Addr),σ=[u,some (.int (L:Int))]/\ys=qs.map V.ref/\Same H H2/\H2 D=some (.lst ys)/\RowsAt H2 qs (Hx (R.take j) L)) ⟨none,[],rfl,rfl,Ac hD,Ab,rfl,λi r t e=>by simp at e⟩ (λj σ ys H2 _ ⟨_,_,_,_,s,e,_⟩=>⟨SqT.of (s _ _ ht),e⟩) ?_ ?_⟩
  ·rintro j x σ ys H2 hx ⟨u,qs,rfl,rfl,s2,d2,p2⟩;obtain⟨r,er,rfl⟩:=A3 hx;obtain⟨y,ey,hy⟩:=hR.get er;have h2:=s2 _ _ hy;have ql:qs.length<=60:=by
    rw[p2.1];refine le_trans (Qb2 _ _) ?_;rw[Qb0];omega
   have tk:R.take (j+1)=R.take j++[y]:=by rw[Qc8,ey];rfl
   have no:(decide (y.2.1=L) && !y.2.2)=false->Hx (R.take (j+1)) L=Hx (R.take j) L:=λz=>by
    unfold Hx;rw[tk,filter_append,Qc2 (by rw[z];decide),Qe9,Qc4]
   refine⟨_,rfl,r,_,4,_,rfl,rfl,SqT.of h2,Ai (j:=4) rfl,_,rfl,rfl,_,rfl,Bz (λg=> ?_) λg=> ?_⟩
   ·have g:y.2.1=L:=ofNat.inj (V.int.inj (Qb1 g));refine⟨_,rfl,r,_,5,_,rfl,rfl,SqT.of h2,Ai (j:=5) rfl,_,rfl,Bz (λg2=> ?_) λg2=> ?_⟩
    ·have kp:∀(r:Addr) (zs:List V) (o:HO),H2 r=some (.tup zs)->upd H2 D o r=some (.tup zs):=λr zs o e=>by rw[Al (Bx e d2 (by intro z;cases z))];exact e
     refine⟨_,rfl,d2,An (by rw[If];omega),_,qs++[r],rfl,by rw[map_append];rfl,Aw s2 hD,Ab,?_⟩;unfold Hx at p2 ⊢;rw[tk,filter_append,Qc1 (by rw[decide_eq_true g,g2];rfl)];exact(p2.mono λr zs e=>kp r zs _ e).snoc (kp _ _ _ h2)
    ·refine⟨_,qs,rfl,rfl,s2,d2,?_⟩;rw[no (by cases h:y.2.2 with|true=>simp|false=>rw[h] at g2;exact absurd rfl g2)];exact p2
   ·refine⟨_,qs,rfl,rfl,s2,d2,?_⟩;rw[no (by rw[decide_eq_false (λz=>g (by rw[z];exact decide_eq_true rfl))];rfl)];exact p2
  rintro σ ys H2 ⟨u,qs,rfl,rfl,s2,d2,p2⟩;rw[If,hR.1,Qb3] at p2;have hp2:=s2 _ _ hp;have l2:(Hx R L).length<=60:=le_trans (Qb2 _ _) R60;refine⟨_,rfl,D,rfl,⟨_,SqL.of d2⟩,λE1 hE1=>Co (K:=K) (a:=D) (xs:=qs.map V.ref) (λj σ ys H3=>∃(u:Option V),σ=[u,some (.int (e:Int)),some (.ref pl)]/\ys=((((Hx R L).take j).filter λx=>decide (cntF ps x=e)).map (·.1.1)).map V.str/\Same H2 H3/\H3 E1=some (.lst ys)) ⟨none,rfl,rfl,Ac hE1,Ab⟩ (λj σ ys H3 _ ⟨_,_,_,s,e⟩=>⟨SqL.of (s _ _ d2),e⟩) ?_ ?_⟩
  ·rintro j x σ ys H3 hx ⟨u,rfl,rfl,s3,d3⟩;obtain⟨r,er,rfl⟩:=A3 hx;obtain⟨y,ey,hy⟩:=p2.get er;have h3:=s3 _ _ hy;have hp3:=s3 _ _ hp2;have tk:(Hx R L).take (j+1)=(Hx R L).take j++[y]:=by rw[Qc8,ey];rfl
   have jl:(((((Hx R L).take j).filter λx=>decide (cntF ps x=e)).map (·.1.1)).map V.str).length<=60:=by
    rw[If,If];refine le_trans (Qb2 _ _) ?_;rw[Qb0];omega
   refine⟨_,rfl,_,rfl,_,rfl,Cz h3 λr4 H4 s4 e4=> ?_⟩;rw[Xg] at e4;have hp4:=s4 _ _ hp3;have d4:=s4 _ _ d3;refine⟨r4,rfl,⟨_,SqT.of e4⟩,λD2 hD2=>Cj (K:=K) (a:=r4) (xs:=[.int (y.1.2.1:Int),.int (y.1.2.2.1:Int)]) (λi σ zs H5=>∃(u:Option V),σ=[u,some (.ref pl)]/\zs=(([y.1.2.1,y.1.2.2.1].take i).filter λp=>decide (p∈ps)).map (λ(p:Nat)=>V.int (p:Int))/\Same H4 H5/\H5 D2=some (.lst zs)) ⟨none,rfl,rfl,Ac hD2,Ab⟩ (λi σ zs H5 _ ⟨_,_,_,s,e⟩=>⟨SqT.of (s _ _ e4),e⟩) ?_ ?_⟩
   ·rintro i v σ zs H5 hv ⟨u2,rfl,rfl,s5,d5⟩;obtain⟨q,hq,rfl⟩:∃q:Nat,[y.1.2.1,y.1.2.2.1][i]? =some q/\v= .int (q:Int):=by
     match i,hv with
     |0,hv=>exact⟨_,rfl,(Option.some.inj hv).symm⟩
     |1,hv=>exact⟨_,rfl,(Option.some.inj hv).symm⟩
     |n+2,hv=>exact absurd hv (by simp)
    have tk2:[y.1.2.1,y.1.2.2.1].take (i+1)=[y.1.2.1,y.1.2.2.1].take i++[q]:=by rw[Qc8,hq];rfl
    have l5:((([y.1.2.1,y.1.2.2.1].take i).filter λp=>decide (p∈ps)).map (λ(p:Nat)=>V.int (p:Int))).length<=2:=by
     rw[If];refine le_trans (Qb2 _ _) ?_;rw[Qb0];exact Nat.min_le_right _ _
    refine⟨_,rfl,_,rfl,pl,_,rfl,.inr (SqT.of (s5 _ _ hp4)),rfl,Jh _,_,rfl,Bz (λg=> ?_) λg=> ?_⟩
    ·have g:q∈ps:=by rw[Qa2 (by decide),Pu] at g;exact Qb1 g
     refine⟨_,rfl,d5,An (by omega),_,rfl,?_,Aw s5 hD2,Ab⟩;rw[tk2,filter_append,Qc1 (by simpa using g),map_append];rfl
    ·have g:q ∉ ps:=λz=>g (by rw[Qa2 (by decide),Pu];exact decide_eq_true z);refine⟨_,rfl,?_,s5,?_⟩
     ·rw[tk2,filter_append,Qc2 (by simpa using g),Qe9,Qc4]
     ·exact d5
   rintro σ zs H5 ⟨u2,rfl,rfl,s5,d5⟩;have ln:(((([y.1.2.1,y.1.2.2.1].take 2).filter λp=>decide (p∈ps)).map (λ(p:Nat)=>V.int (p:Int))).length:Int)=((cntF ps y:Nat):Int):=by
    rw[If];rfl
   have h5:=s5 _ _ (s4 _ _ h3);have d6:=s5 _ _ d4;refine⟨D2,_,rfl,.inl (SqL.of d5),?_⟩;refine⟨_,rfl,rfl,_,rfl,Bz (λg=> ?_) λg=> ?_⟩
   ·have g:cntF ps y=e:=by
     have:=Qb1 g;exact ofNat.inj (ln.symm.trans (V.int.inj this))
    refine⟨_,rfl,r,_,0,_,rfl,rfl,SqT.of h5,Ai (j:=0) rfl,d6,An (by omega),_,rfl,?_,Aw (s3.trans (s4.trans s5)) hE1,Ab⟩;rw[tk,filter_append,Qc1 (by simpa using g),map_append,map_append];rfl
   ·have g:cntF ps y≠e:=λz=>g (decide_eq_true (Qd1 V.int (ln.trans (by rw[z]))));refine⟨_,rfl,?_,s3.trans (s4.trans s5),?_⟩
    ·rw[tk,filter_append,Qc2 (by simpa using g),Qe9,Qc4]
    ·exact d6
  rintro σ ys H3 ⟨u,rfl,rfl,s3,d3⟩;rw[If,p2.1,Qb3] at d3;exact k E1 H3 (s2.trans s3) d3
end K43
namespace L2
open PySem PySem.Spec PyProof.Rows
section
variable{X:Cx}
theorem V5(ys:Array (Int×Tok)){i:Nat}(h:i<ys.size):∃t,(intItems ys)[i]? =some (.int (numAt ys i) t)/\(ys.toList.map (·.1))[i]? =some (numAt ys i):=by
 refine⟨ys[i].2,?_,?_⟩
 ·unfold intItems numAt;simp[h]
 ·unfold numAt;simp[h]
theorem Ts(hc:X.calm=true):Dm X (.builtin "min") (λxs H Q=>∃(p:Addr) (ns:List Int),xs=[.ref p]/\SqL X.K H p (ns.map V.int)/\ns≠[]/\∀m,m∈ns->(∀n∈ns,m<=n)->Q (.int m) H):=by
 intro pins s σ H xs us Q I r h;obtain⟨p,ns,rfl,hq,hne,q⟩:=h;obtain⟨u,rfl,rx⟩:=Dw r;cases rx;obtain⟨its,rv,hl,hz⟩:=I.list hq;have hi:=Kf rv;obtain⟨ys,e⟩:=hi.allInts.items;have hl':=hl.isList;rw[e] at hl';have e2:ys.toList.map (·.1)=ns:=by
  have q2:=nums_intItems ys;rw[<-e] at q2;rw[<-q2];exact hi.numsOf
 have sz:ys.size=ns.length:=by rw[<-e2];simp
 have pos:0<ys.size:=by rw[sz];exact List.length_pos_iff.mpr hne
 refine min_intList (I.ok.hd hc) hl' pos λv h' tk hv hk=> ?_;obtain⟨b1,b2⟩:=argBest_lt (numAt ys) (ys.size - 1);obtain⟨t,g1,g2⟩:=V5 ys (i:=argBest (λi j=>decide (numAt ys i<numAt ys j)) (ys.size - 1)) (by omega);rw[g1] at hv;cases hv;rw[e2] at g2;refine⟨.int _,H,I.kept hk,⟨t,rfl⟩,q _ (mem_of_getElem? g2) λn hn=> ?_⟩;obtain⟨j,hj,rfl⟩:=List.mem_iff_getElem.mp hn;obtain⟨_,_,g3⟩:=V5 ys (i:=j) (by omega);rw[e2,getElem?_eq_getElem hj] at g3;rw[Option.some.inj g3];exact b2 j (by omega)
end
end L2
namespace K43
variable{P:Program}{w:World}{K:Frag}{mg:Str->Option Value}{base:Heap}
open PySem L2 Wk
def PtA(H:Hp)(qs:List Addr)(P:List (List Nat)):Prop:=qs.length=P.length/\∀(i:Nat) r x,qs[i]? =some r->P[i]? =some x->H r=some (.tup (psV x))
theorem PtA.same{H H':Hp}{qs:List Addr}{P:List (List Nat)}(h:PtA H qs P)(s:∀r xs,H r=some (.tup xs)->H' r=some (.tup xs)):PtA H' qs P:=⟨h.1,λi r x a b=>s _ _ (h.2 i r x a b)⟩
theorem PtA.get{H:Hp}{qs:List Addr}{P:List (List Nat)}(h:PtA H qs P){i:Nat}{r:Addr}(hr:qs[i]? =some r):∃x,P[i]? =some x/\H r=some (.tup (psV x)):=by
 have hi:i<P.length:=by rw[<-h.1];exact(List.getElem?_eq_some_iff.mp hr).1
 exact⟨P[i],Cb hi,h.2 i r _ hr (Cb hi)⟩
theorem PtA.snoc{H:Hp}{qs:List Addr}{P:List (List Nat)}{r:Addr}{x:List Nat}(h:PtA H qs P)(hr:H r=some (.tup (psV x))):PtA H (qs++[r]) (P++[x]):=by
 refine⟨by rw[Qa0,Qa0,h.1];rfl,λi r0 p0 e1 e2=> ?_⟩;rw[getElem?_append] at e1 e2;rw[h.1] at e1;split at e1
 ·rename_i z;rw[Qa3 z] at e2;exact h.2 i r0 p0 e1 e2
 ·rename_i z;rw[Qa2 z] at e2;have hz:i - P.length=0:=by
   have:=(List.getElem?_eq_some_iff.mp e1).1;simp only[Qa6,Qb9] at this;omega
  rw[hz] at e1 e2;cases e1;cases e2;exact hr
theorem Mo(ps:List Nat):(ps.map ofNat).map V.int=psV ps:=by unfold psV;rw[map_map];rfl
def Hl(N:Nat)(S:List T4)(x:R6):List (List Nat):=[Am N S x.1.2.1,Am N S x.1.2.2.1]
def Cm(N:Nat)(S:List T4)(x:R6):List Nat:=if (Am N S x.1.2.1).length<=(Am N S x.1.2.2.1).length then Am N S x.1.2.1 else Am N S x.1.2.2.1
theorem Pp{N:Nat}{S:List T4}{x:R6}{m:Nat}(hm:m∈(Hl N S x).map length)(hl:∀n∈(Hl N S x).map length,m<=n):∃rest,(Hl N S x).filter (λp=>decide (p.length=m))=Cm N S x::rest:=by
 unfold Hl Cm at *;simp only[Qb5,map_nil,Qa9,not_mem_nil,or_false] at hm hl;have h1:=hl _ (.inl rfl);have h2:=hl _ (.inr rfl);by_cases g:(Am N S x.1.2.1).length=m
 ·rw[Qc1 (by simpa using g),Qa3 (by omega)];exact⟨_,rfl⟩
 ·have g2:(Am N S x.1.2.2.1).length=m:=by omega
  rw[Qc2 (by simpa using g),Qc1 (by simpa using g2),Qa2 (by omega)];exact⟨_,rfl⟩
theorem Y2{y:R6}{i:Nat}{v:V}(hv:([.int (y.1.2.1:Int),.int (y.1.2.2.1:Int)]:List V)[i]? =some v):∃q:Nat,[y.1.2.1,y.1.2.2.1][i]? =some q/\v= .int (q:Int):=by
 match i,hv with
 |0,hv=>exact⟨_,rfl,(Option.some.inj hv).symm⟩
 |1,hv=>exact⟨_,rfl,(Option.some.inj hv).symm⟩
 |n+2,hv=>exact absurd hv (by simp)
theorem two_at{N:Nat}{S:List T4}{y:R6}{i q:Nat}(hq:[y.1.2.1,y.1.2.2.1][i]? =some q):(Hl N S y)[i]? =some (Am N S q):=by
 match i,hq with
 |0,hq=>cases hq;rfl
 |1,hq=>cases hq;rfl
 |n+2,hq=>exact absurd hq (by simp)
def Nh:Sp:=λvs H Q _=>∃(N:Nat) (tp tr:Addr) (rs:List Addr) (R:List R6) (L:Nat) (x:R6),vs=[.int (N:Int),.ref tp,.int (L:Int),.ref tr]/\H tp=some (.tup (rs.map V.ref))/\RowsAt H rs R/\R.length<=60/\InN N (tiF R (kpB L))/\N<=60/\H tr=some (.tup (Et x))/\x.1.2.1<N/\x.1.2.2.1<N/\∀(l a:Addr) (as:List Addr) (H':Hp),Same H H'->H' l=some (.lst ((a::as).map V.ref))->H' a=some (.tup (psV (Cm N (tiF R (kpB L)) x)))->Q (.ref l) H'
theorem scLesser:Ax ["many","rows","layer","tie","ties","parts","least"] ["many","rows","layer","tie"] (Ah Fj):=⟨rfl,rfl,rfl,by decide+kernel,rfl,by decide+kernel,by decide+kernel⟩
theorem Su{f:Addr}{fd:FuncData}(F:Fun K "lesser_parts" "lesser_parts" Fj f fd)(T:Txt mg)(GKept:Cl P w K mg base 3 "kept_from" ["rows","layer"] Qf)(GPart:Cl P w K mg base 3 "part_of" ["many","stand","place"] Kt):
  FnOk P w K mg base CX0 4 f fd ["many","rows","layer","tie"] Nh:=by
 refine F.ok scLesser (λvs H Q E h=> ?_) (λcdv A outer s H vs Q E hr h=> ?_)
 ·obtain⟨_,_,_,_,_,_,_,rfl,_⟩:=h;rfl
 ·obtain⟨N,tp,tr,rs,R,L,x,rfl,ht,hR,R60,hN,N60,hx,hp,hq,k⟩:=h;refine⟨_,Ae (Ao (i:=4) scLesser.nd rfl (Or.inr rfl) (Au GKept hr (Aa (pv 1) (Aa (pv 2) Ad))))
   (Ae (Dz (i:=5) (T:=["place"]) (F:=["many","ties"]) (js:=[0,4]) scLesser.nd rfl (Or.inl rfl) (cs (osc:=Ah Fj)) rfl (Ca (Ce Dc (pv 3) (Br Af) (Br Af))) (λ_ _ _ _ _=>Aj (i:=0) (show (["place","many","ties"]:List Str).Nodup by decide+kernel) rfl (Or.inl rfl)) (λ_ _ _ _ _=>Bt) (λ_ _ _ _ _=>Au GPart hr (Aa (pv 1) (Aa (pv 2) (Aa (pv 0) Ad)))))
   (Ae (Ao (i:=6) scLesser.nd rfl (Or.inr rfl) (Ay (Ts rfl) (by rfl) T.min (by decide+kernel) (Aa (Bj (T:=["part"]) (F:=[]) (js:=[]) (cs (osc:=Ah Fj)) rfl (Cr (pv 5)) (λ_ _ _ _ _=>Aj (i:=0) (show (["part"]:List Str).Nodup by decide+kernel) rfl (Or.inl rfl)) (λ_ _ _ _ _=>Bt) (λ_ _ _ _ _=>Ay (r:=Re K) A8 (by rfl) T.len PySem.boot_len (Aa (pv 0) Ad))) Ad)))
   (Ag (Ap (Bj (T:=["part"]) (F:=["least"]) (js:=[6]) (cs (osc:=Ah Fj)) rfl (Cr (pv 5)) (λ_ _ _ _ _=>Aj (i:=0) (show (["part","least"]:List Str).Nodup by decide+kernel) rfl (Or.inl rfl)) (λ_ _ _ _ _=>Cs (As Bl (Ay (r:=Re K) A8 (by rfl) T.len PySem.boot_len (Aa (pv 0) Ad)) (pv 1) (Ar _))) (λ_ _ _ _ _=>pv 0)))))),?_⟩
  refine⟨_,rfl,_,rfl,tp,rs,R,L,rfl,ht,hR,R60,λst H1 s1 e1=> ?_⟩;have e1:StandAt H1 st (tiF R (kpB L)):=e1;have l1:(tiF R (kpB L)).length<=100:=le_trans (Mt _ _) (by omega);generalize tiF R (kpB L)=S at hN e1 l1 k ⊢;have hx1:=s1 _ _ hx;clear ht hR R60;refine⟨_,rfl,_,rfl,_,rfl,Cz hx1 λr4 H2 s2 e2=> ?_⟩;rw[Xg] at e2;have e1:=e1.same s2;have s12:=s1.trans s2;refine⟨r4,rfl,⟨_,SqT.of e2⟩,λD hD=>Cj (K:=K) (a:=r4) (xs:=[.int (x.1.2.1:Int),.int (x.1.2.2.1:Int)]) (λi σ zs H3=>∃(u:Option V) (qs:List Addr),σ=[u,some (.int (N:Int)),some (.ref st)]/\zs=qs.map V.ref/\Same H2 H3/\H3 D=some (.lst zs)/\qs.length=i/\PtA H3 qs ((Hl N S x).take i)) ⟨none,[],rfl,rfl,Ac hD,Ab,rfl,rfl,λi r x e=>by simp at e⟩ (λi σ zs H3 _ ⟨_,_,_,_,s,e,_⟩=>⟨SqT.of (s _ _ e2),e⟩) ?_ ?_⟩
  ·rintro i v σ zs H3 hv ⟨u,qs,rfl,rfl,s3,d3,ql,p3⟩;obtain⟨q,hq1,rfl⟩:=Y2 hv;have i2:i<2:=(List.getElem?_eq_some_iff.mp hv).1;have qN:q<N:=by
    match i,hq1 with
    |0,hq1=>cases hq1;exact hp
    |1,hq1=>cases hq1;exact hq
    |n+2,hq1=>exact absurd hq1 (by simp)
   refine⟨_,rfl,_,rfl,_,rfl,N,st,S,q,rfl,.inl (e1.same s3),hN,N60,l1,qN,λpt H4 s4 e4=> ?_⟩;have d4:=s4 _ _ d3;have kp:∀(r:Addr) (zs:List V) (o:HO),H4 r=some (.tup zs)->upd H4 D o r=some (.tup zs):=λr zs o e=>by rw[Al (Bx e d4 (by intro z;cases z))];exact e
   refine⟨d4,An (by rw[If];omega),_,qs++[pt],rfl,by rw[map_append];rfl,Aw (s3.trans s4) hD,Ab,by rw[Qa0,ql];rfl,?_⟩;rw[A9 (two_at hq1)];rw[Mo] at e4;exact(p3.same λr xs e=>kp _ _ _ (s4 _ _ e)).snoc (kp _ _ _ e4)
  rintro σ zs H3 ⟨u,qs,rfl,rfl,s3,d3,ql,p3⟩;have p3:PtA H3 qs (Hl N S x):=p3;have ql:qs.length=2:=ql;clear hD e2 hx1 hp hq;refine⟨_,rfl,D,rfl,⟨_,SqL.of d3⟩,λD2 hD2=>Co (K:=K) (a:=D) (xs:=qs.map V.ref) (λi σ zs H4=>∃(u:Option V),σ=[u]/\zs=(((Hl N S x).take i).map λp=>V.int (p.length:Int))/\Same H3 H4/\H4 D2=some (.lst zs)) ⟨none,rfl,rfl,Ac hD2,Ab⟩ (λi σ zs H4 _ ⟨_,_,_,s,e⟩=>⟨SqL.of (s _ _ d3),e⟩) ?_ ?_⟩
  ·rintro i v σ zs H4 hv ⟨u,rfl,rfl,s4,d4⟩;obtain⟨r,er,rfl⟩:=A3 hv;obtain⟨p,ep,hp⟩:=p3.get er;have i2:i<2:=by have:=(List.getElem?_eq_some_iff.mp er).1;omega
   refine⟨_,rfl,r,_,rfl,.inr (SqT.of (s4 _ _ hp)),d4,An (by rw[If,Qb0];omega),_,rfl,?_,Aw s4 hD2,Ab⟩;rw[A9 ep,map_append,Qb5,map_nil];unfold psV;rw[If]
  rintro σ zs H4 ⟨u,rfl,rfl,s4,d4⟩;have tl:(Hl N S x).take (qs.map V.ref).length=Hl N S x:=by rw[If,ql];rfl
  rw[tl] at d4;refine⟨D2,((Hl N S x).map length).map ofNat,rfl,?_,by unfold Hl;simp,λm hm hl=> ?_⟩
  ·rw[map_map,map_map];exact SqL.of d4
  obtain⟨m',hm',rfl⟩:=mem_map.mp hm;obtain⟨rest,hf⟩:=Pp hm' λn hn=>by
   have:=hl (ofNat n) (mem_map.mpr ⟨n,hn,rfl⟩);exact Int.ofNat_le.mp this
  have d34:=s4 _ _ d3;have p4:=p3.same λr xs e=>s4 r _ e;refine⟨_,rfl,D,rfl,⟨_,SqL.of d34⟩,λD3 hD3=>Co (K:=K) (a:=D) (xs:=qs.map V.ref) (λi σ zs H5=>∃(u:Option V) (qs':List Addr),σ=[u,some (.int (ofNat m'))]/\zs=qs'.map V.ref/\Same H4 H5/\H5 D3=some (.lst zs)/\qs'.length<=i/\PtA H5 qs' (((Hl N S x).take i).filter λp=>decide (p.length=m'))) ⟨none,[],rfl,rfl,Ac hD3,Ab,le_refl _,rfl,λi r x e=>by simp at e⟩ (λi σ zs H5 _ ⟨_,_,_,_,s,e,_⟩=>⟨SqL.of (s _ _ d34),e⟩) ?_ ?_⟩
  ·rintro i v σ zs H5 hv ⟨u,qs',rfl,rfl,s5,d5,ql',p5⟩;obtain⟨r,er,rfl⟩:=A3 hv;obtain⟨p,ep,hp⟩:=p4.get er;have i2:i<2:=by have:=(List.getElem?_eq_some_iff.mp er).1;omega
   have h5:=s5 _ _ hp;refine⟨_,rfl,r,_,rfl,.inr (SqT.of h5),_,rfl,rfl,_,rfl,Bz (λg=> ?_) λg=> ?_⟩
   ·have g:p.length=m':=by
     have:=V.int.inj (Qb1 g);unfold psV at this;rw[If] at this;exact ofNat.inj this
    have kp:∀(r:Addr) (zs:List V) (o:HO),H5 r=some (.tup zs)->upd H5 D3 o r=some (.tup zs):=λr zs o e=>by rw[Al (Bx e d5 (by intro z;cases z))];exact e
    refine⟨_,rfl,d5,An (by rw[If];omega),_,qs'++[r],rfl,by rw[map_append];rfl,Aw s5 hD3,Ab,by rw[Qa0];simp;omega,?_⟩;rw[A9 ep,filter_append,Qc1 (by simpa using g)];exact(p5.same λr xs e=>kp _ _ _ e).snoc (kp _ _ _ h5)
   ·have g:¬p.length=m':=λz=>g (by
     refine decide_eq_true (Qd1 V.int ?_);unfold psV;rw[If,z];rfl)
    refine⟨_,qs',rfl,rfl,s5,d5,by omega,?_⟩;rw[A9 ep,filter_append,Qc2 (by simpa using g),Qe9,Qc4];exact p5
  rintro σ zs H5 ⟨u,qs',rfl,rfl,s5,d5,ql',p5⟩;rw[tl,hf] at p5
  match qs',d5,p5 with
  |[],d5,p5=>exact absurd p5.1 (by simp)
  |b::bs,d5,p5=>exact k D3 b bs H5 (s12.trans (s3.trans (s4.trans s5))) d5 (p5.2 0 b _ rfl rfl)
def foF(R:List R6)(L:Nat)(ps:List Nat):Option Str:=(Ea R L ps 1).head?
def beB(fo:Option Str)(n:Str):Bool:=match fo with
 |none=>true
 |some f=>decide (n.cps.toList<f.cps.toList)
def Q6(R:List R6)(L:Nat)(ps:List Nat):List Str:=(Ea R L ps 2).filter (beB (foF R L ps))
theorem Y3(R:List R6)(L:Nat)(ps:List Nat)(e:Nat):(Ea R L ps e).length<=R.length:=by
 unfold Ea Hx;rw[If];exact le_trans (Qb2 _ _) (Qb2 _ _)
def Mx:Sp:=λvs H Q _=>∃(N:Nat) (tp tr:Addr) (rs:List Addr) (R:List R6) (L:Nat) (x:R6),vs=[.int (N:Int),.ref tp,.int (L:Int),.ref tr]/\H tp=some (.tup (rs.map V.ref))/\RowsAt H rs R/\R.length<=60/\InN N (tiF R (kpB L))/\N<=60/\H tr=some (.tup (Et x))/\x.1.2.1<N/\x.1.2.2.1<N/\∀(tl:Addr) (H':Hp),Same H H'->ToldAt H' tl L (Cm N (tiF R (kpB L)) x) (Q6 R L (Cm N (tiF R (kpB L)) x)) (foF R L (Cm N (tiF R (kpB L)) x))->Q (.ref tl) H'
def R0:TS:=λD σ H=>∃(u0 u1 u3:Option V) (L:Nat) (pl wl ld:Addr) (ps:List Nat) (fo:Option Str) (W:List Str),σ=[u0,u1,some (.int (L:Int)),u3,some (.ref pl),some (.ref ld),some (foV fo),some (.ref wl),none]/\H pl=some (.tup (psV ps))/\H wl=some (.lst (W.map V.str))/\W.length<=60/\∀(tl:Addr) (H':Hp),Same H H'->ToldAt H' tl L ps (W.filter (beB fo)) fo->D.rt (.ref tl) H'
theorem scRound:Ax ["many","rows","layer","tie","places","leading","found","within","looked"] ["many","rows","layer","tie"] (Ah L4):=⟨rfl,rfl,rfl,by decide+kernel,rfl,by decide+kernel,by decide+kernel⟩
theorem V9{f:Addr}{fd:FuncData}(F:Fun K "round_at" "round_at" L4 f fd)(T:Txt mg)(GLesser:Cl P w K mg base 4 "lesser_parts" ["many","rows","layer","tie"] Nh)(GLoose:Cl P w K mg base 4 "loose_names" ["rows","layer","places","ends"] Mg):
  FnOk P w K mg base CX0 5 f fd ["many","rows","layer","tie"] Mx:=by
 refine F.ok scRound (λvs H Q E h=> ?_) (λcdv A outer s H vs Q E hr h=> ?_)
 ·obtain⟨_,_,_,_,_,_,_,rfl,_⟩:=h;rfl
 ·obtain⟨N,tp,tr,rs,R,L,x,rfl,ht,hR,R60,hN,N60,hx,hp,hq,k⟩:=h;refine⟨_,Ae (Ao (i:=4) scRound.nd rfl (Or.inl rfl) (Aq A4 (Au GLesser hr (Aa (pv 0) (Aa (pv 1) (Aa (pv 2) (Aa (pv 3) Ad))))) Af (λ_ _=>rfl)))
   (Ae (Ao (i:=5) scRound.nd rfl (Or.inl rfl) (Au GLoose hr (Aa (pv 1) (Aa (pv 2) (Aa (pv 4) (Aa Af Ad))))))
   (Ae (Ao (i:=6) scRound.nd rfl (Or.inr rfl) (Nr (Nu (pv 5) (λ_=>rfl)) (Aq A4 (pv 5) Af (λ_ _=>rfl)) Ch))
   (Ae (Ao (i:=7) scRound.nd rfl (Or.inl rfl) (Au GLoose hr (Aa (pv 1) (Aa (pv 2) (Aa (pv 4) (Aa Af Ad))))))
   (PSs.imp' (t':=R0) (Ae (Ao (i:=8) scRound.nd rfl (Or.inl rfl) (A6 A7 (by rfl) T.tuple (by decide+kernel) (Aa (Bj (T:=["name"]) (F:=["found"]) (js:=[6]) (cs (osc:=Ah L4)) rfl (Cr (pv 7)) (λ_ _ _ _ _=>Aj (i:=0) (show (["name","found"]:List Str).Nodup by decide+kernel) rfl (Or.inl rfl)) (λ_ _ _ _ _=>Cs (PW.pt (Fs (As Dj (pv 1) Ch (Ar _)) (Ep (As Uf (pv 0) (pv 1) (Ar _)))))) (λ_ _ _ _ _=>pv 0)) Ad)))
   (Ag (Ap (A5 (Aa (pv 2) (Aa (pv 4) (Aa (pv 8) (Aa (pv 6) Ad)))))))) ?rest)))),?_⟩
  case rest=>
   clear ht hR hx k;rintro D σ H ⟨u0,u1,u3,L,pl,wl,ld,ps,fo,W,rfl,hpl,hwl,wl60,k⟩;refine⟨_,rfl,wl,rfl,⟨_,SqL.of hwl⟩,λD2 hD2=>Co (K:=K) (a:=wl) (xs:=W.map V.str) (λi σ zs H4=>∃(u:Option V),σ=[u,some (foV fo)]/\zs=((W.take i).filter (beB fo)).map V.str/\Same H H4/\H4 D2=some (.lst zs)) ⟨none,rfl,rfl,Ac hD2,Ab⟩ (λi σ zs H4 _ ⟨_,_,_,s,e⟩=>⟨SqL.of (s _ _ hwl),e⟩) ?_ ?_⟩
   ·rintro i v σ zs H4 hv ⟨u,rfl,rfl,s4,d4⟩;obtain⟨n,en,rfl⟩:=A3 hv;have ln:(((W.take i).filter (beB fo)).map V.str).length<=60:=by
     rw[If];refine le_trans (Qb2 _ _) ?_;rw[Qb0];omega
    have yes:beB fo n=true->H4 D2=some (.lst (((W.take i).filter (beB fo)).map V.str))/\(((W.take i).filter (beB fo)).map V.str).length<sizeLine/\(∃(u:Option V),[some (.str n),some (foV fo)]=[u,some (foV fo)]/\((W.take i).filter (beB fo)).map V.str++[V.str n]=((W.take (i+1)).filter (beB fo)).map V.str/\Same H (upd H4 D2 (.lst (((W.take i).filter (beB fo)).map V.str++[V.str n])))/\upd H4 D2 (.lst (((W.take i).filter (beB fo)).map V.str++[V.str n])) D2=some (.lst (((W.take i).filter (beB fo)).map V.str++[V.str n]))):=λg=>by
     refine⟨d4,An (by omega),_,rfl,?_,Aw s4 hD2,Ab⟩;rw[A9 en,filter_append,Qc1 (by simpa using g),map_append];rfl
    have no:beB fo n=false->∃(u:Option V),[some (.str n),some (foV fo)]=[u,some (foV fo)]/\((W.take i).filter (beB fo)).map V.str=((W.take (i+1)).filter (beB fo)).map V.str/\Same H H4/\H4 D2=some (.lst (((W.take i).filter (beB fo)).map V.str)):=λg=>by
     refine⟨_,rfl,?_,s4,d4⟩;rw[A9 en,filter_append,Qc2 (by simpa using g),Qe9,Qc4]
    cases fo with
    |none=>exact⟨_,rfl,rfl,_,rfl,Dg ⟨_,rfl,yes rfl⟩⟩
    |some f=>
     refine⟨_,rfl,rfl,_,rfl,Bp ⟨_,rfl,_,rfl,n,f,rfl,rfl,_,rfl,Bz (λg=> ?_) λg=> ?_⟩⟩
     ·exact⟨_,rfl,yes g⟩
     ·exact no (by cases h:beB (some f) n with
       |false=>rfl
       |true=>exact absurd h g)
   rintro σ zs H4 ⟨u,rfl,rfl,s4,d4⟩;rw[If,Qb3] at d4;refine⟨D2,_,rfl,.inl ⟨SqL.of d4,λkl hkl=> ?_⟩⟩;refine⟨_,rfl,_,rfl,_,rfl,_,rfl,small (by simp),λtl htl=> ?_⟩;have s5:=Ac (o:= .tup ((W.filter (beB fo)).map V.str)) hkl;exact k tl _ ((s4.trans s5).trans (Ac htl)) ⟨pl,kl,Ab,Ac htl _ _ (s5 _ _ (s4 _ _ hpl)),Ac htl _ _ Ab⟩
  have S1:InN N (tiF R (kpB L)):=hN;refine⟨_,rfl,_,rfl,_,rfl,_,rfl,N,tp,tr,rs,R,L,x,rfl,ht,hR,R60,hN,N60,hx,hp,hq,λl pl as H1 s1 e1 e2=> ?_⟩;clear hN;generalize Cm N (tiF R (kpB L)) x=ps at e2 k;refine⟨l,_,0,_,rfl,rfl,SqL.of e1,Ai (j:=0) rfl,?_⟩;refine⟨_,rfl,_,rfl,_,rfl,tp,pl,rs,R,L,1,ps,rfl,s1 _ _ ht,hR.mono λr xs=>s1 r _,R60,e2,λld H2 s2 e3=> ?_⟩;have s12:=s1.trans s2;have fin:∀(H3:Hp),Same H2 H3->Zz (Yn (Wm Mg [] E0 (Nt (Pc 1) (Nt (Pc 2) (Nt (Pc 4) (Nt (tC (.int 2)) tNil))))) (Lq 7)) R0 {nx:=λx H'=>Q .non H',rt:=Q,bk:=λ_ _=>False,ct:=λ_ _=>False} [some (.int (N:Int)),some (.ref tp),some (.int (L:Int)),some (.ref tr),some (.ref pl),some (.ref ld),some (foV (foF R L ps)),none,none] H3:=λH3 s3=>by
   have s13:=s12.trans s3;refine⟨_,rfl,_,rfl,_,rfl,tp,pl,rs,R,L,2,ps,rfl,s13 _ _ ht,hR.mono λr xs=>s13 r _,R60,s3 _ _ (s2 _ _ e2),λwl H4 s4 e4=> ?_⟩;exact⟨_,_,_,L,pl,wl,ld,ps,foF R L ps,Ea R L ps 2,rfl,s4 _ _ (s3 _ _ (s2 _ _ e2)),e4,le_trans (Y3 R L ps 2) R60,λtl H' s5 T=>k tl H' (s13.trans (s4.trans s5)) T⟩
  cases h:Ea R L ps 1 with
  |nil=>
   have e0:foF R L ps=none:=by unfold foF;rw[h];rfl
   rw[h] at e3;refine⟨_,rfl,false,.inl ⟨_,SqL.of e3,rfl⟩,Bp ?_⟩;have:=fin H2 (Cf _);rw[e0] at this;exact this
  |cons f rest=>
   have e0:foF R L ps=some f:=by unfold foF;rw[h];rfl
   rw[h] at e3;refine⟨_,rfl,true,.inl ⟨_,SqL.of e3,rfl⟩,Dg ⟨_,rfl,ld,_,0,_,rfl,rfl,SqL.of e3,Ai (j:=0) rfl,?_⟩⟩;have:=fin H2 (Cf _);rw[e0] at this;exact this
abbrev Rd4:=Nat×List Nat×List Str×Option Str
def rdF(N:Nat)(x:R6)(R:List R6)(L:Nat):Rd4:=(L,Cm N (tiF R (kpB L)) x,Q6 R L (Cm N (tiF R (kpB L)) x),foF R L (Cm N (tiF R (kpB L)) x))
def Fw(R:List R6)(r:Rd4):List R6:=R.map (Bd r.1 r.2.1 r.2.2.1 r.2.2.2)
def Fq(N:Nat)(x:R6):Nat->List R6->List R6×List Rd4
 |0,R=>(R,[])
 |L+1,R=>if (rdF N x R L).2.2.2=none then ((Fq N x L (Fw R (rdF N x R L))).1,rdF N x R L::(Fq N x L (Fw R (rdF N x R L))).2) else (Fw R (rdF N x R L),[rdF N x R L])
def TlAt(H:Hp)(tl:Addr)(r:Rd4):Prop:=ToldAt H tl r.1 r.2.1 r.2.2.1 r.2.2.2
def TlsAt(H:Hp)(ts:List Addr)(F:List Rd4):Prop:=ts.length=F.length/\∀(i:Nat) t r,ts[i]? =some t->F[i]? =some r->TlAt H t r
theorem TlAt.mono{H H':Hp}{tl:Addr}{r:Rd4}(h:TlAt H tl r)(s:∀r xs,H r=some (.tup xs)->H' r=some (.tup xs)):TlAt H' tl r:=by
 obtain⟨pl,lk,a,b,c⟩:=h.ex;exact⟨pl,lk,s _ _ a,s _ _ b,s _ _ c⟩
theorem TlsAt.mono{H H':Hp}{ts:List Addr}{F:List Rd4}(h:TlsAt H ts F)(s:∀r xs,H r=some (.tup xs)->H' r=some (.tup xs)):TlsAt H' ts F:=⟨h.1,λi t r a b=>(h.2 i t r a b).mono s⟩
theorem TlsAt.snoc{H:Hp}{qs:List Addr}{P:List Rd4}{r:Addr}{x:Rd4}(h:TlsAt H qs P)(hr:TlAt H r x):TlsAt H (qs++[r]) (P++[x]):=by
 refine⟨by rw[Qa0,Qa0,h.1];rfl,λi r0 p0 e1 e2=> ?_⟩;rw[getElem?_append] at e1 e2;rw[h.1] at e1;split at e1
 ·rename_i z;rw[Qa3 z] at e2;exact h.2 i r0 p0 e1 e2
 ·rename_i z;rw[Qa2 z] at e2;have hz:i - P.length=0:=by
   have:=(List.getElem?_eq_some_iff.mp e1).1;simp only[Qa6,Qb9] at this;omega
  rw[hz] at e1 e2;cases e1;cases e2;exact hr
def PlN(N:Nat)(R:List R6):Prop:=∀y∈R,y.1.2.1<N/\y.1.2.2.1<N
theorem PlN.step{N:Nat}{R:List R6}(h:PlN N R)(r:Rd4):PlN N (Fw R r):=λy hy=>by
 obtain⟨x,hx,rfl⟩:=mem_map.mp hy;rw[Cp];exact h x hx
theorem PlN.inN{N:Nat}{R:List R6}(h:PlN N R)(p:R6->Bool):InN N (tiF R p):=λt ht=>by
 unfold tiF at ht;obtain⟨x,hx,rfl⟩:=mem_map.mp ht;exact h x (mem_filter.mp hx).1
def Zx:Sp:=λvs H Q _=>∃(h:Addr) (N:Nat) (R:List R6) (n:Str) (x:R6),vs=[.ref h,.str n]/\LayAt H h N R/\R.length<=60/\N<=60/\PlN N R/\x∈R/\x.1.1=n/\x.2.2=true/\x.2.1<=60/\(∀y∈R,y.1.1=n->y=x)/\∀(g h' p:Addr) (ts:List Addr) (H':Hp),Same H H'->H' g=some (.tup [.ref h',.ref p])->LayAt H' h' N (Fq N x (x.2.1+1) (Bh R n)).1->H' p=some (.tup (ts.map V.ref))->TlsAt H' ts (Fq N x (x.2.1+1) (Bh R n)).2->Q (.ref g) H'
def Uy:TS:=λD σ H=>∃(u0 u1 u4 u6 u7:Option V) (N:Nat) (tq pl:Addr) (qs ts:List Addr) (R:List R6) (F:List Rd4),σ=[u0,u1,some (.int (N:Int)),some (.ref tq),u4,some (.ref pl),u6,u7]/\H tq=some (.tup (qs.map V.ref))/\RowsAt H qs R/\H pl=some (.lst (ts.map V.ref))/\TlsAt H ts F/\∀(g h' p:Addr) (ts:List Addr) (H':Hp),(∀b o,H b=some o->b≠pl->H' b=some o)->H' g=some (.tup [.ref h',.ref p])->LayAt H' h' N R->H' p=some (.tup (ts.map V.ref))->TlsAt H' ts F->D.rt (.ref g) H'
theorem scGone:Ax ["layers","name","many","rows","tie","paper","layer","told"] ["layers","name"] (Ah No):=⟨rfl,rfl,rfl,by decide+kernel,rfl,by decide+kernel,by decide+kernel⟩
theorem V6{f:Addr}{fd:FuncData}(F:Fun K "gone" "gone" No f fd)(T:Txt mg)(GRowOf:Cl P w K mg base 5 "row_of" ["rows","name"] Iu)(GWithout:Cl P w K mg base 5 "rows_without" ["rows","name"] Fn)(GRound:Cl P w K mg base 5 "round_at" ["many","rows","layer","tie"] Mx)(GBehinds:Cl P w K mg base 5 "rows_behind" ["rows","told"] Hk):
  FnOk P w K mg base CX0 6 f fd ["layers","name"] Zx:=by
 refine F.ok scGone (λvs H Q E h=> ?_) (λcdv A outer s H vs Q E hr h=> ?_)
 ·obtain⟨_,_,_,_,_,rfl,_⟩:=h;rfl
 ·obtain⟨h,N,R,n,x,rfl,⟨tp,rs,hh,ht,hR⟩,R60,N60,hPl,hx,xn,xk,x60,xu,k⟩:=h;refine⟨_,Ae (Di (pv 0) (Cy rfl (At (Aj (i:=2) scGone.nd rfl (Or.inl rfl)) (At (Aj (i:=3) scGone.nd rfl (Or.inl rfl)) Cc))))
   (Ae (Ao (i:=4) scGone.nd rfl (Or.inl rfl) (Au GRowOf hr (Aa (pv 3) (Aa (pv 1) Ad))))
   (Ae (Be (As Dj (pv 4) Ch (Ar _)) (Ag Gk) A2)
   (Ae (Ao (i:=3) scGone.nd rfl (Or.inl rfl) (Au GWithout hr (Aa (pv 3) (Aa (pv 1) Ad))))
   (Ae (Be (Hn (Cv (Aq Az (pv 4) Af (λ_ _=>rfl)))) (Ag (Ap (A5 (Aa (A5 (Aa (pv 2) (Aa (pv 3) Ad))) (Aa (A5 Ad) Ad))))) A2)
   (Ae (Ao (i:=5) scGone.nd rfl (Or.inl rfl) (Bq Ad))
   (Ae (Ct PassesOwn.never rfl (Tp rfl T.range (Aa (Aq Az (pv 4) Af (λ_ _=>rfl)) (Aa (Ki Fy Af) (Aa (Ki Fy Af) Ad)))) (Aj (i:=6) scGone.nd rfl (Or.inl rfl)) (Ae (Ao (i:=7) scGone.nd rfl (Or.inl rfl) (Au GRound hr (Aa (pv 2) (Aa (pv 3) (Aa (pv 6) (Aa (pv 4) Ad))))))
   (Ae (Ao (i:=3) scGone.nd rfl (Or.inl rfl) (Au GBehinds hr (Aa (pv 3) (Aa (pv 7) Ad))))
   (Ae (Cn (Dk Qb7 PySem.F.slot_list_append PySem.F.type_list_append Bw (pv 5) (Aa (pv 7) Ad)))
   (Ag (Be (As R7 (Aq Az (pv 7) Af (λ_ _=>rfl)) Ch (Ar _)) (Ag Xn) A2))))))
   (PSs.imp' (t':=Uy) (Ag (Ap (A5 (Aa (A5 (Aa (pv 2) (Aa (pv 3) Ad))) (Aa (A6 A7 (by rfl) T.tuple (by decide+kernel) (Aa (pv 5) Ad)) Ad))))) ?tail))))))),?_⟩
  case tail=>
   clear hh ht hR R60 N60 hPl hx xn xk x60 xu k;rintro D σ H ⟨u0,u1,u4,u6,u7,N,tq,pl,qs,ts,R,F,rfl,hq,hR,hp,hF,k⟩;refine⟨_,rfl,_,rfl,small (by simp),λhl hhl=> ?_⟩;have s1:=Ac (o:= .tup [.int (N:Int),.ref tq]) hhl;refine⟨_,rfl,pl,_,rfl,.inl ⟨SqL.of (s1 _ _ hp),λpp hpp=> ?_⟩⟩;have s2:=Ac (o:= .tup (ts.map V.ref)) hpp;refine⟨small (by simp),λg hg=> ?_⟩;have s3:=Ac (o:= .tup [.ref hl,.ref pp]) hg;have s:=s1.trans (s2.trans s3);exact k g hl pp ts _ (λb o e _=>s b o e) Ab ⟨tq,qs,s3 _ _ (s2 _ _ Ab),s _ _ hq,hR.mono λr xs=>s r _⟩ (s3 _ _ Ab) (hF.mono λr xs=>s r _)
  refine⟨_,rfl,h,_,rfl,SqT.of hh,rfl,_,_,rfl,_,_,rfl,rfl,?_⟩;refine⟨_,rfl,_,rfl,tp,rs,R,n,rfl,ht,hR,λr y hr0 hy yn=> ?_,λz=>absurd (mem_map.mpr ⟨x,hx,xn⟩) z⟩;rw[xu y hy yn] at hr0;refine⟨_,rfl,rfl,_,rfl,Bp ?_⟩;dsimp only[Bc];refine⟨_,rfl,_,rfl,tp,rs,R,n,rfl,ht,hR,R60,λtq qs H1 s1 e1 p1=> ?_⟩;have hr1:=s1 _ _ hr0;refine⟨_,rfl,r,_,5,_,rfl,rfl,SqT.of hr1,Ai (j:=5) rfl,_,rfl,?_⟩;rw[xk];refine Bp ?_;dsimp only[Bc];have hPd:PlN N (Bh R n):=λy hy=>hPl y (mem_filter.mp hy).1;have ld:(Bh R n).length<=60:=le_trans (Qb2 _ _) R60;generalize hrun:Fq N x (x.2.1+1) (Bh R n)=run at k;generalize Bh R n=R1 at hPd ld p1 hrun;clear hh ht hR R60 xu;refine⟨small (by simp),λpl hpl=> ?_⟩;have s2:=Ac (o:= .lst []) hpl;have fin:∀(u6 u7:Option V) (tq':Addr) (qs' ts:List Addr) (H2:Hp),Same H1 H2->H2 tq'=some (.tup (qs'.map V.ref))->RowsAt H2 qs' run.1->H2 pl=some (.lst (ts.map V.ref))->TlsAt H2 ts run.2->Uy {nx:=λx H'=>Q .non H',rt:=Q} [some (.ref h),some (.str n),some (.int (N:Int)),some (.ref tq'),some (.ref r),some (.ref pl),u6,u7] H2:=λu6 u7 tq' qs' ts H2 sm a1 a2 a3 a4=>
   ⟨_,_,_,_,_,N,tq',pl,qs',ts,run.1,run.2,rfl,a1,a2,a3,a4,λg h' p ts H' bt b1 b2 b3 b4=>k g h' p ts H' (s1.trans λb o e=>bt b o (sm _ _ e) (Av e hpl)) b1 b2 b3 b4⟩
  have hp:=hPl x hx;clear k hPl hx hr0;refine⟨_,rfl,r,_,4,_,rfl,rfl,SqT.of (s2 _ _ hr1),Ai (j:=4) rfl,_,rfl,_,rfl,_,_,rfl,⟨by omega,by omega,by decide,by decide⟩,?_⟩;have hn:((x.2.1:Int) - -1).toNat=x.2.1+1:=by omega
  show ∃W:Nat->Nat->St->Hp->Prop,_;rw[hn];refine Qi (λi σ H2=>∃(u6 u7:Option V) (tq':Addr) (qs' ts:List Addr) (R2:List R6) (F:List Rd4),σ=[some (.ref h),some (.str n),some (.int (N:Int)),some (.ref tq'),some (.ref r),some (.ref pl),u6,u7]/\Same H1 H2/\H2 tq'=some (.tup (qs'.map V.ref))/\RowsAt H2 qs' R2/\H2 pl=some (.lst (ts.map V.ref))/\TlsAt H2 ts F/\F.length=i/\PlN N R2/\R2.length<=60/\run=((Fq N x (x.2.1+1 - i) R2).1,F++(Fq N x (x.2.1+1 - i) R2).2)) ⟨_,_,tq,qs,[],R1,[],rfl,s2,s2 _ _ e1,p1.mono λr xs=>s2 r _,Ab,⟨rfl,λi t r e=>by simp at e⟩,rfl,hPd,ld,hrun.symm⟩ ?_ ?_
  ·rintro i σ H2 hi ⟨u6,u7,tq',qs',ts,R2,F,rfl,sm,a1,a2,a3,a4,Fl,hP2,l2,er⟩;obtain⟨L,hL⟩:∃L,x.2.1=L+i:=⟨x.2.1 - i,by omega⟩
   have eL:(x.2.1:Int) - (i:Int)=(L:Int):=by omega
   have eR:x.2.1+1 - i=L+1:=by omega
   have eR2:x.2.1+1 - (i+1)=L:=by omega
   rw[eL];rw[eR] at er;rw[eR2];refine⟨_,rfl,_,rfl,_,rfl,_,rfl,N,tq',r,qs',R2,L,x,rfl,a1,a2,l2,hP2.inN _,N60,sm _ _ hr1,hp.1,hp.2,λtl H3 s3 T3=> ?_⟩;have T3:TlAt H3 tl (rdF N x R2 L):=T3;have e3:(rdF N x R2 L).1=L:=rfl;unfold Fq at er;generalize rdF N x R2 L=rd at T3 er e3;refine⟨_,rfl,_,rfl,tq',tl,qs',R2,rd.1,rd.2.1,rd.2.2.1,rd.2.2.2,rfl,s3 _ _ a1,a2.mono λr xs=>s3 r _,l2,T3,λtq2 qs2 H4 s4 e4 p4=> ?_⟩;have p4:RowsAt H4 qs2 (Fw R2 rd):=p4;have d4:=s4 _ _ (s3 _ _ a3);refine⟨_,rfl,.inl ⟨rfl,_,SqL.of d4⟩,_,rfl,pl,_,_,rfl,rfl,d4,An (by rw[If,a4.1,Fl];omega),?_⟩;have kp:∀(r:Addr) (zs:List V),H4 r=some (.tup zs)->upd H4 pl (.lst (ts.map V.ref++[.ref tl])) r=some (.tup zs):=λr zs e=>by rw[Al (Bx e d4 (by intro z;cases z))];exact e
   have T4:TlAt (upd H4 pl (.lst (ts.map V.ref++[.ref tl]))) tl rd:=T3.mono λr xs e=>kp _ _ (s4 _ _ e);have sm5:Same H1 (upd H4 pl (.lst (ts.map V.ref++[.ref tl]))):=λb o e=>by rw[Al (Av e hpl)];exact s4 _ _ (s3 _ _ (sm _ _ e))
   have p5:RowsAt (upd H4 pl (.lst (ts.map V.ref++[.ref tl]))) qs2 (Fw R2 rd):=p4.mono kp;have q5:TlsAt (upd H4 pl (.lst (ts.map V.ref++[.ref tl]))) (ts++[tl]) (F++[rd]):=(a4.mono λr xs e=>kp _ _ (s4 _ _ (s3 _ _ e))).snoc T4;have d5:upd H4 pl (.lst (ts.map V.ref++[.ref tl])) pl=some (.lst ((ts++[tl]).map V.ref)):=by rw[Ab,map_append];rfl
   have e5:=kp _ _ e4;generalize upd H4 pl (.lst (ts.map V.ref++[.ref tl]))=H5 at T4 sm5 p5 q5 d5 e5;obtain⟨pp,lk,T5,_,_⟩:=T4.ex;refine⟨_,rfl,tl,_,3,_,rfl,rfl,SqT.of T5,Ai (j:=3) rfl,rfl,_,rfl,?_⟩;cases hfo:rd.2.2.2 with
   |none=>
    rw[Qa3 hfo] at er;refine Bp ⟨_,_,tq2,qs2,ts++[tl],Fw R2 rd,F++[rd],rfl,sm5,e5,p5,d5,q5,by rw[Qa0,Fl];rfl,hP2.step _,by unfold Fw;rw[If];exact l2,?_⟩;rw[er,append_assoc];rfl
   |some f=>
    rw[Qa2 (by rw[hfo];intro z;cases z)] at er;refine Dg (fin _ _ tq2 qs2 (ts++[tl]) H5 sm5 e5 ?_ d5 ?_)
    ·rw[er];exact p5
    ·rw[er];exact q5
  ·rintro σ H2 ⟨u6,u7,tq',qs',ts,R2,F,rfl,sm,a1,a2,a3,a4,Fl,hP2,l2,er⟩;rw[Nat.sub_self] at er;unfold Fq at er;rw[Qc4] at er;exact fin _ _ tq' qs' ts H2 sm a1 (by rw[er];exact a2) a3 (by rw[er];exact a4)
def Jg(H:Hp)(qs:List Addr)(S:List T4):Prop:=qs.length=S.length/\∀(i:Nat) q t,qs[i]? =some q->S[i]? =some t->H q=some (.tup [.int (t.2.1:Int),.int (t.2.2.1:Int)])
def Jz:Sp:=λvs H Q _=>∃(N:Nat) (pr:Addr) (qs:List Addr) (S:List T4),vs=[.int (N:Int),.ref pr]/\H pr=some (.lst (qs.map V.ref))/\Jg H qs S/\InN N S/\N<=60/\∀(l:Addr) (ls:List Nat) (H':Hp),Same H H'->H' l=some (.lst (psV ls))->Ft N S ls->Q (.ref l) H'
theorem Xe(N:Nat):(Em 0 ((N:Int) - 0).toNat).map V.int=psV (List.range N):=by rw[Sw,Mo]
theorem J9{l:List Nat}{v:Nat}(h:v<l.length):(psV l)[v]? =some (.int ((l.getD v 0:Nat):Int)):=by
 unfold psV;rw[getElem?_map,getElem?_eq_getElem h,Qa5,getElem?_eq_getElem h];rfl
theorem scGroups:Ax ["_law_many_here","_law_pairs","_law_labels","_law_one","_law_other","_law_near","_law_far"] ["_law_many_here","_law_pairs"] (Ah I0):=⟨rfl,rfl,rfl,by decide+kernel,rfl,by decide+kernel,by decide+kernel⟩
theorem Tc{f:Addr}{fd:FuncData}(F:Fun K "_law_groups" "_law_groups" I0 f fd)(T:Txt mg):
  FnOk P w K mg base CX0 1 f fd ["_law_many_here","_law_pairs"] Jz:=by
 refine F.ok scGroups (λvs H Q E h=> ?_) (λcdv A outer s H vs Q E hr h=> ?_)
 ·obtain⟨_,_,_,_,rfl,_⟩:=h;rfl
 ·obtain⟨N,pr,qs,S,rfl,hp,hP,hN,N60,k⟩:=h;refine⟨_,Ae (Ao (i:=2) scGroups.nd rfl (Or.inl rfl) (A6 (K2 rfl) (by rfl) T.list (by decide+kernel) (Aa (A6 Oj (by rfl) T.range (by decide+kernel) (Aa (pv 0) Ad)) Ad)))
   (Ae (Ct PassesOwn.never rfl (Cr (pv 1)) (Cy rfl (At (Aj (i:=3) scGroups.nd rfl (Or.inl rfl)) (At (Aj (i:=4) scGroups.nd rfl (Or.inl rfl)) Cc))) (Ag (Be (As Sj (Aq A4 (pv 2) (pv 3) (λ_ _=>rfl)) (Aq A4 (pv 2) (pv 4) (λ_ _=>rfl)) (Ar _)) (Ae (Di (A5 (Aa (Aq A4 (pv 2) (pv 3) (λ_ _=>rfl)) (Aa (Aq A4 (pv 2) (pv 4) (λ_ _=>rfl)) Ad))) (Cy rfl (At (Aj (i:=5) scGroups.nd rfl (Or.inr rfl)) (At (Aj (i:=6) scGroups.nd rfl (Or.inr rfl)) Cc))))
   (Ag (Dz (i:=2) (T:=["_law_label"]) (F:=["_law_near","_law_far"]) (js:=[5,6]) scGroups.nd rfl (Or.inl rfl) (cs (osc:=Ah I0)) rfl (Cr (pv 2)) (λ_ _ _ _ _=>Aj (i:=0) (show (["_law_label","_law_near","_law_far"]:List Str).Nodup by decide+kernel) rfl (Or.inl rfl)) (λ_ _ _ _ _=>Bt) (λ_ _ _ _ _=>Nr (As Bl (pv 0) (pv 2) (Ar _)) (pv 1) (pv 0))))) A2)))
   (Ag (Ap (pv 2)))),?_⟩
  refine⟨_,rfl,(N:Int),rfl,λrg hrg=> ?_⟩;have s1:=Ac (o:= .rng 0 (N:Int)) hrg;refine⟨rg,0,(N:Int),rfl,Ab,⟨by decide,by decide,by omega,by omega⟩,by omega,λl0 hl0=> ?_⟩;have s2:=s1.trans (Ac (o:= .lst ((Em 0 ((N:Int) - 0).toNat).map V.int)) hl0);have e2:=Ab (H:=upd H rg (.rng 0 (N:Int))) (a:=l0) (o:= .lst ((Em 0 ((N:Int) - 0).toNat).map V.int));generalize upd (upd H rg (.rng 0 (N:Int))) l0 (.lst ((Em 0 ((N:Int) - 0).toNat).map V.int))=H1 at s2 e2 ⊢;rw[Xe] at e2;refine⟨_,rfl,pr,rfl,⟨_,SqL.of (s2 _ _ hp)⟩,J6 (K:=K) (a:=pr) (xs:=qs.map V.ref) (λj σ H2=>∃(l:Addr) (ls:List Nat) (u3 u4 u5 u6:Option V),σ=[some (.int (N:Int)),some (.ref pr),some (.ref l),u3,u4,u5,u6]/\Same H H2/\H2 l=some (.lst (psV ls))/\Ft N (S.take j) ls) ⟨l0,_,_,_,_,_,rfl,s2,e2,lab0 N⟩ (λj σ H2 _ ⟨_,_,_,_,_,_,_,s,_⟩=>SqL.of (s _ _ hp)) ?_ ?_⟩
  ·rintro j v σ H2 hv ⟨l,ls,u3,u4,u5,u6,rfl,s3,e3,hl⟩;obtain⟨q,eq,rfl⟩:=A3 hv;have jl:j<S.length:=by rw[<-hP.1];exact(List.getElem?_eq_some_iff.mp eq).1
   have et:=Cb jl;have hq:=s3 _ _ (hP.2 j q _ eq et);have tin:=hN _ (getElem_mem jl);rw[A9 et];generalize S[j]=t at hq tin ⊢;have hst:=Vd hl (λu hu=>hN u (List.mem_of_mem_take hu)) tin.1 tin.2;have ip:=J9 (l:=ls) (v:=t.2.1) (by rw[hl.len];exact tin.1);have ir:=J9 (l:=ls) (v:=t.2.2.1) (by rw[hl.len];exact tin.2);refine⟨q,_,rfl,SqT.of hq,rfl,_,_,rfl,_,_,rfl,rfl,?_⟩;refine⟨_,rfl,_,rfl,l,_,_,_,rfl,rfl,SqL.of e3,Ai ip,_,rfl,_,rfl,l,_,_,_,rfl,rfl,SqL.of e3,Ai ir,rfl,_,rfl,Bz (λg=> ?_) λg=> ?_⟩
   ·refine⟨_,rfl,_,rfl,l,_,_,_,rfl,rfl,SqL.of e3,Ai ip,_,rfl,_,rfl,l,_,_,_,rfl,rfl,SqL.of e3,Ai ir,small (by simp),λt2 ht2=> ?_⟩;refine⟨t2,_,rfl,SqT.of Ab,rfl,_,_,rfl,_,_,rfl,rfl,?_⟩;have s4:=Ac (o:= .tup [.int ((ls.getD t.2.1 0:Nat):Int),.int ((ls.getD t.2.2.1 0:Nat):Int)]) ht2;generalize upd H2 t2 (.tup [.int ((ls.getD t.2.1 0:Nat):Int),.int ((ls.getD t.2.2.1 0:Nat):Int)])=H4 at s4 ⊢;have e4:=s4 _ _ e3;have s34:=s3.trans s4;refine⟨_,rfl,l,rfl,⟨_,SqL.of e4⟩,λD hD=>Co (K:=K) (a:=l) (xs:=psV ls) (λi σ ys H5=>∃(u:Option V),σ=[u,some (.int ((ls.getD t.2.1 0:Nat):Int)),some (.int ((ls.getD t.2.2.1 0:Nat):Int))]/\ys=psV (relab (ls.take i) (ls.getD t.2.1 0) (ls.getD t.2.2.1 0))/\Same H4 H5/\H5 D=some (.lst ys)) ⟨none,rfl,rfl,Ac hD,Ab⟩ (λi σ ys H5 _ ⟨_,_,_,s,e⟩=>⟨SqL.of (s _ _ e4),e⟩) ?_ ?_⟩
    ·rintro i x σ ys H5 hx ⟨u,rfl,rfl,s5,d5⟩;obtain⟨z,ez,rfl⟩:∃z:Nat,ls[i]? =some z/\x= .int (z:Int):=by
      unfold psV at hx;obtain⟨z,ez,rfl⟩:=A3 hx;exact⟨z,ez,rfl⟩
     have il:i<N:=by rw[<-hl.len];exact(List.getElem?_eq_some_iff.mp ez).1
     have len:(psV (relab (ls.take i) (ls.getD t.2.1 0) (ls.getD t.2.2.1 0))).length<=60:=by
      unfold psV Wk.relab;rw[If,If,Qb0];omega
     have nx:∀w:Nat,(if z=ls.getD t.2.2.1 0 then ls.getD t.2.1 0 else z)=w->psV (relab (ls.take i) (ls.getD t.2.1 0) (ls.getD t.2.2.1 0))++[V.int (w:Int)]=psV (relab (ls.take (i+1)) (ls.getD t.2.1 0) (ls.getD t.2.2.1 0)):=λw hw=>by
      unfold Wk.relab psV;rw[A9 ez,map_append,map_append,Qb5,map_nil,hw];rfl
     refine⟨_,rfl,_,rfl,rfl,_,rfl,Bz (λg=> ?_) λg=> ?_⟩
     ·exact⟨_,rfl,d5,An (by omega),_,rfl,nx _ (Qa3 (ofNat.inj (V.int.inj (Qb1 g)))),Aw s5 hD,Ab⟩
     ·exact⟨_,rfl,d5,An (by omega),_,rfl,nx _ (Qa2 λz=>g (decide_eq_true (by rw[z]))),Aw s5 hD,Ab⟩
    ·rintro σ ys H5 ⟨u,rfl,rfl,s5,d5⟩;have tl:ls.take (psV ls).length=ls:=by unfold psV;rw[If,Qb3]
     rw[tl] at d5;exact⟨D,_,_,_,_,_,rfl,s34.trans s5,d5,hst⟩
   ·have g:ls.getD t.2.1 0=ls.getD t.2.2.1 0:=by
     have g:¬(!decide ((V.int ((ls.getD t.2.1 0:Nat):Int))=(V.int ((ls.getD t.2.2.1 0:Nat):Int))))=true:=g;have:=Bool.of_not_eq_true g;rw[Bool.not_eq_false'] at this;exact ofNat.inj (V.int.inj (Qb1 this))
    unfold Ty at hst;rw[g,Pd] at hst;exact⟨l,ls,_,_,_,_,rfl,s3,e3,hst⟩
  ·rintro σ H2 ⟨l,ls,u3,u4,u5,u6,rfl,s3,e3,hl⟩;rw[If,hP.1,Qb3] at hl;exact⟨_,rfl,k l ls H2 s3 e3 hl⟩
end K43
namespace L2
open PySem PySem.Spec PyProof.Rows
section
variable{X:Cx}
theorem Nf:∀{cs:List String} {its:List Value},Vals (cs.map V.ty) its->its=cs.map Value.type
 |[],_,.nil=>rfl
 |c::cs,_,.cons ru rr=>by rw[Qb5,<-Nf rr];cases ru;rfl
inductive FlT:V->Value->Prop
 |int (i:Int):FlT (.int i) (.type "int")
 |str (z:Str):FlT (.str z) (.type "str")
 |bl (b:Bool):FlT (.bl b) (.type "bool")
 |non:FlT .non (.type "NoneType")
def Wr(K:Frag):List V->Hp->VK->Prop:=λxs H Q=>∃(x:V) (t:Value) (tp:Addr) (cs:List String) (b:Bool),xs=[x,.ref tp]/\FlT x t/\H tp=some (.tup (cs.map V.ty))/\kitAny K t (cs.map Value.type)=some b/\Q (.bl b) H
theorem Lo:Dm X (.builtin "isinstance") (Wr X.K):=by
 intro pins s σ H xs us Q I r h;obtain⟨x,t,tp,cs,b,rfl,ft,ht,ek,q⟩:=h;obtain⟨u,v,rfl,rx,ry⟩:=R3 r;obtain rfl:v=Value.ref tp:=ry;obtain⟨_,its,rv,o,h1,h2,h3,n,h4⟩:=(show ObjOk X.prog X.w H s.heap tp (.tup (cs.map V.ty)) from I.hok tp _ ht)
 have e1:=Nf rv;subst e1;obtain⟨oc,odd,oda,osl⟩:=o;dsimp only at h2 h3 h4;subst h2 h3 h4;cases ft with
 |non=>cases (show u=Value.none from rx);exact kia_tup kitx_none I.kIn True.intro h1 ek (λz=>nomatch z) λtk=>⟨.bl b,H,I.tok tk,rfl,q⟩
 |bl y=>cases (show u=Value.bool y from rx);exact kia_tup kitx_bool I.kIn True.intro h1 ek (λz=>nomatch z) λtk=>⟨.bl b,H,I.tok tk,rfl,q⟩
 |int i=>obtain⟨t,q1⟩:=(show ∃t,u=Value.int i t from rx);cases q1;exact kia_tup kitx_int I.kIn True.intro h1 ek (λz=>nomatch z) λtk=>⟨.bl b,H,I.tok tk,rfl,q⟩
 |str y=>obtain⟨t,q1⟩:=(show ∃t,u=Value.str y t from rx);cases q1;exact kia_tup kitx_str I.kIn True.intro h1 ek (λz=>nomatch z) λtk=>⟨.bl b,H,I.tok tk,rfl,q⟩
end
theorem Z5{K:Frag}:kitAny K (.type "int") (["int","str"].map Value.type)=some true:=rfl
theorem Zm{K:Frag}:kitAny K (.type "str") (["int","str"].map Value.type)=some true:=rfl
end L2
namespace K43
variable{P:Program}{w:World}{K:Frag}{mg:Str->Option Value}{base:Heap}
open PySem L2 Wk
def Lf(x y:V):Prop:=x=y/\((∃i,x= .int i)\/(∃s,x= .str s)\/(∃c,x= .bl c)\/x= .non)
def SmV:Nat->Hp->V->V->Prop
 |0,_,x,y=>Lf x y
 |n+1,H,x,y=>Lf x y\/∃(a b:Addr) (xs ys:List V),x= .ref a/\y= .ref b/\H a=some (.tup xs)/\H b=some (.tup ys)/\xs.length=ys.length/\xs.length<=100/\∀(i:Nat) u v,xs[i]? =some u->ys[i]? =some v->SmV n H u v
theorem SmV.same:∀{n:Nat} {H H':Hp} {x y:V},Same H H'->SmV n H x y->SmV n H' x y
 |0,_,_,_,_,_,h=>h
 |n+1,_,_,_,_,s,.inl h=> .inl h
 |n+1,_,_,_,_,s,.inr ⟨a,b,xs,ys,e1,e2,h1,h2,l,z,h⟩=> .inr ⟨a,b,xs,ys,e1,e2,s _ _ h1,s _ _ h2,l,z,λi u v e e'=>SmV.same s (h i u v e e')⟩
def Hv(n:Nat):Sp:=λvs H Q _=>∃x y:V,vs=[x,y]/\SmV n H x y/\∀H',Same H H'->Q (.bl true) H'
def Rt(n:Nat):Sp:=λvs H Q _=>∃(a b:Addr) (xs ys:List V),vs=[.ref a,.ref b]/\H a=some (.tup xs)/\H b=some (.tup ys)/\xs.length=ys.length/\xs.length<=100/\(∀(i:Nat) u v,xs[i]? =some u->ys[i]? =some v->SmV n H u v)/\∀H',Same H H'->Q (.bl true) H'
theorem We:Ax ["_law_thing","_law_due_here"] ["_law_thing","_law_due_here"] (Ah Kl):=⟨rfl,rfl,rfl,by decide+kernel,rfl,by decide+kernel,by decide+kernel⟩
theorem U6{f:Addr}{fd:FuncData}(F:Fun K "_law_same" "_law_same" Kl f fd)(T:Txt mg):
  FnOk P w K mg base CX0 1 f fd ["_law_thing","_law_due_here"] (Hv 0):=by
 refine F.ok We (λvs H Q E h=> ?_) (λcdv A outer s H vs Q E hr h=> ?_)
 ·obtain⟨_,_,rfl,_⟩:=h;rfl
 ·obtain⟨x,y,rfl,⟨rfl,hx⟩,k⟩:=h;refine⟨_,Ae (Be (Cv (Ay Cd (by rfl) T.isinstance (by decide+kernel) (Aa (pv 1) (Aa (Dl (T:="tuple") (by rfl) T.tuple (by decide+kernel)) Ad)))) (Ae (Be (PW.pt (Fs (Hn (Cv (Ay Cd (by rfl) T.isinstance (by decide+kernel) (Aa (pv 0) (Aa (Dl (T:="tuple") (by rfl) T.tuple (by decide+kernel)) Ad))))) (Ep (As Sj (Ay A8 (by rfl) T.len PySem.boot_len (Aa (pv 0) Ad)) (Ay A8 (by rfl) T.len PySem.boot_len (Aa (pv 1) Ad)) (Ar _))))) (Ag (Ap Os)) A2)
   (Ag Gk)) A2)
   (Ae (Be (PW.pt (Fs (Cv (Ay Cd (by rfl) T.isinstance (by decide+kernel) (Aa (pv 1) (Aa (Dl (T:="bool") (by rfl) T.bool (by decide+kernel)) Ad)))) (Ep (Cv (Ay Cd (by rfl) T.isinstance (by decide+kernel) (Aa (pv 0) (Aa (Dl (T:="bool") (by rfl) T.bool (by decide+kernel)) Ad))))))) (Ag (Ap (Ds (Ay Cd (by rfl) T.isinstance (by decide+kernel) (Aa (pv 1) (Aa (Dl (T:="bool") (by rfl) T.bool (by decide+kernel)) Ad))) (Ds (Ay Cd (by rfl) T.isinstance (by decide+kernel) (Aa (pv 0) (Aa (Dl (T:="bool") (by rfl) T.bool (by decide+kernel)) Ad))) (Fx (Bg Bl (pv 0) (pv 1) (Ar _))))))) A2)
   (Ae (Be (PW.pt (Fs (As Dj (pv 1) Ch (Ar _)) (Ep (As Dj (pv 0) Ch (Ar _))))) (Ag (Ap (Ds (Bg Dj (pv 1) Ch (Ar _)) (Fx (Bg Dj (pv 0) Ch (Ar _)))))) A2)
   (Ag (Ap (Ds (Ay (r:=Wr K) Lo (by rfl) T.isinstance (by decide+kernel) (Aa (pv 0) (Aa (A5 (Aa (Dl (T:="int") (by rfl) T.int (by decide+kernel)) (Aa (Dl (T:="str") (by rfl) T.str (by decide+kernel)) Ad))) Ad))) (Fx (Bg Bl (pv 0) (pv 1) (Ar _)))))))),?_⟩
  rcases hx with⟨i,rfl⟩|⟨z,rfl⟩|⟨c,rfl⟩|rfl
  ·refine⟨_,rfl,.int i,.type "int","tuple",false,rfl,.int i,rfl,_,rfl,Bp ?_⟩;dsimp only[Bc];refine⟨_,rfl,.int i,.type "int","bool",false,rfl,.int i,rfl,_,rfl,Bp ⟨_,rfl,.int i,.type "int","bool",false,rfl,.int i,rfl,_,rfl,Bp ?_⟩⟩;dsimp only[Bc];refine⟨_,rfl,rfl,_,rfl,Bp ⟨_,rfl,rfl,_,rfl,Bp ?_⟩⟩;dsimp only[Bc];refine⟨_,rfl,small (by simp),λtp htp=>⟨.int i,.type "int",tp,["int","str"],true,rfl,.int i,Ab,Z5,_,rfl,Dg ⟨_,rfl,_,rfl,rfl,?_⟩⟩⟩;rw[decide_eq_true rfl];exact k _ (Ac htp)
  ·refine⟨_,rfl,.str z,.type "str","tuple",false,rfl,.str z,rfl,_,rfl,Bp ?_⟩;dsimp only[Bc];refine⟨_,rfl,.str z,.type "str","bool",false,rfl,.str z,rfl,_,rfl,Bp ⟨_,rfl,.str z,.type "str","bool",false,rfl,.str z,rfl,_,rfl,Bp ?_⟩⟩;dsimp only[Bc];refine⟨_,rfl,rfl,_,rfl,Bp ⟨_,rfl,rfl,_,rfl,Bp ?_⟩⟩;dsimp only[Bc];refine⟨_,rfl,small (by simp),λtp htp=>⟨.str z,.type "str",tp,["int","str"],true,rfl,.str z,Ab,Zm,_,rfl,Dg ⟨_,rfl,_,rfl,rfl,?_⟩⟩⟩;rw[decide_eq_true rfl];exact k _ (Ac htp)
  ·refine⟨_,rfl,.bl c,.type "bool","tuple",false,rfl,.bl c,rfl,_,rfl,Bp ?_⟩;dsimp only[Bc];refine⟨_,rfl,.bl c,.type "bool","bool",true,rfl,.bl c,rfl,_,rfl,Dg ?_⟩;refine⟨_,rfl,.bl c,.type "bool","bool",true,rfl,.bl c,rfl,_,rfl,Dg ⟨_,rfl,.bl c,.type "bool","bool",true,rfl,.bl c,rfl,_,rfl,Dg ⟨_,rfl,_,rfl,rfl,?_⟩⟩⟩;rw[decide_eq_true rfl];exact k _ (Cf _)
  ·refine⟨_,rfl,.non,.type "NoneType","tuple",false,rfl,.non,rfl,_,rfl,Bp ?_⟩;dsimp only[Bc];refine⟨_,rfl,.non,.type "NoneType","bool",false,rfl,.non,rfl,_,rfl,Bp ⟨_,rfl,.non,.type "NoneType","bool",false,rfl,.non,rfl,_,rfl,Bp ?_⟩⟩;dsimp only[Bc];refine⟨_,rfl,rfl,_,rfl,Dg ?_⟩;refine⟨_,rfl,rfl,_,rfl,Dg ⟨_,rfl,rfl,?_⟩⟩;rw[decide_eq_true rfl];exact k _ (Cf _)
theorem G2{n l:Nat}{f:Addr}{fd:FuncData}(F:Fun K "_law_same" "_law_same" Kl f fd)(T:Txt mg){gSame:Addr}{fSame:FuncData}(kSame:keepIn K (.ref gSame)=true)(bSame:Binds K fSame ["_law_thing","_law_due_here"] [])(hSame:mg "_law_same"=some (.ref gSame))(GSame:FnOk P w K mg base CX0 l gSame fSame ["_law_thing","_law_due_here"] (Hv n)):
  FnOk P w K mg base CX0 (l+1) f fd ["_law_thing","_law_due_here"] (Rt n):=by
 refine F.ok We (λvs H Q E h=> ?_) (λcdv A outer s H vs Q E hr h=> ?_)
 ·obtain⟨_,_,_,_,rfl,_⟩:=h;rfl
 ·obtain⟨a,b,xs,ys,rfl,ha,hb,hl,hz,hs,k⟩:=h;refine⟨_,Ae (Be (Cv (Ay Cd (by rfl) T.isinstance (by decide+kernel) (Aa (pv 1) (Aa (Dl (T:="tuple") (by rfl) T.tuple (by decide+kernel)) Ad)))) (Ae (Be (PW.pt (Fs (Hn (Cv (Ay Cd (by rfl) T.isinstance (by decide+kernel) (Aa (pv 0) (Aa (Dl (T:="tuple") (by rfl) T.tuple (by decide+kernel)) Ad))))) (Ep (As Sj (Ay A8 (by rfl) T.len PySem.boot_len (Aa (pv 0) Ad)) (Ay A8 (by rfl) T.len PySem.boot_len (Aa (pv 1) Ad)) (Ar _))))) (Ag (Ap Os)) A2)
   (Ag (Ap (Bg Gm Os (Bj (T:=["_law_part","_law_other"]) (F:=[]) (js:=[]) (CS.to (osc:=Ah Kl) ⟨by rfl,by decide+kernel,by decide+kernel,by decide+kernel,by decide+kernel,by decide+kernel,by decide+kernel⟩ rfl rfl) rfl (pi_zip rfl T.zip (Aa (pv 0) (Aa (pv 1) Ad))) (λ_ _ _ _ _=>Rg K 2 rfl rfl (At (Aj (i:=0) (show (["_law_part","_law_other"]:List Str).Nodup by decide+kernel) rfl (Or.inl rfl)) (At (Aj (i:=1) (show (["_law_part","_law_other"]:List Str).Nodup by decide+kernel) rfl (Or.inl rfl)) Cc))) (λ_ _ _ _ _=>Bt) (λ_ _ _ _ _=>Sf GSame hr rfl hSame kSame bSame .nil Z9 (Aa (pv 0) (Aa (pv 1) Ad)))) (by rfl))))) A2)
   (Ae (Be (PW.pt (Fs (Cv (Ay Cd (by rfl) T.isinstance (by decide+kernel) (Aa (pv 1) (Aa (Dl (T:="bool") (by rfl) T.bool (by decide+kernel)) Ad)))) (Ep (Cv (Ay Cd (by rfl) T.isinstance (by decide+kernel) (Aa (pv 0) (Aa (Dl (T:="bool") (by rfl) T.bool (by decide+kernel)) Ad))))))) (Ag (Ap (Ds (Ay Cd (by rfl) T.isinstance (by decide+kernel) (Aa (pv 1) (Aa (Dl (T:="bool") (by rfl) T.bool (by decide+kernel)) Ad))) (Ds (Ay Cd (by rfl) T.isinstance (by decide+kernel) (Aa (pv 0) (Aa (Dl (T:="bool") (by rfl) T.bool (by decide+kernel)) Ad))) (Fx (Bg Bl (pv 0) (pv 1) (Ar _))))))) A2)
   (Ae (Be (PW.pt (Fs (As Dj (pv 1) Ch (Ar _)) (Ep (As Dj (pv 0) Ch (Ar _))))) (Ag (Ap (Ds (Bg Dj (pv 1) Ch (Ar _)) (Fx (Bg Dj (pv 0) Ch (Ar _)))))) A2)
   (Ag (Ap (Ds (Ay (r:=Wr K) Lo (by rfl) T.isinstance (by decide+kernel) (Aa (pv 0) (Aa (A5 (Aa (Dl (T:="int") (by rfl) T.int (by decide+kernel)) (Aa (Dl (T:="str") (by rfl) T.str (by decide+kernel)) Ad))) Ad))) (Fx (Bg Bl (pv 0) (pv 1) (Ar _)))))))),?_⟩
  refine⟨_,rfl,.ref b,.type "tuple","tuple",true,rfl,.tup hb,rfl,_,rfl,Dg ?_⟩;refine⟨_,rfl,.ref a,.type "tuple","tuple",true,rfl,.tup ha,rfl,_,rfl,Bp ⟨_,rfl,a,_,rfl,.inr (SqT.of ha),_,rfl,b,_,rfl,.inr (SqT.of hb),rfl,_,rfl,Bz (λg=>absurd g (by simp[hl])) λ_=> ?_⟩⟩;dsimp only[Bc];refine⟨_,rfl,_,rfl,a,b,xs,ys,rfl,SqT.of ha,SqT.of hb,λD hD=>Vc (K:=K) (a:=a) (b:=b) (xs:=xs) (ys:=ys) (λj σ zs H2=>∃(u v:Option V) (bs:List Bool),σ=[u,v]/\Same H H2/\H2 D=some (.lst zs)/\zs=bs.map V.bl/\bs=replicate j true) ⟨none,none,[],rfl,Ac hD,Ab,rfl,rfl⟩ (λj σ zs H2 _ _ ⟨_,_,_,_,s2,e,_⟩=>⟨SqT.of (s2 _ _ ha),SqT.of (s2 _ _ hb),e⟩) ?_ ?_⟩
  ·rintro j u v σ zs H2 t hu hv ⟨u',v',bs,rfl,s2,d2,rfl,rfl⟩ ht;have s3:=s2.trans (Ac (o:= .tup [u,v]) ht);have d3:=Ac (o:= .tup [u,v]) ht _ _ d2;have t3:=Ab (H:=H2) (a:=t) (o:= .tup [u,v]);generalize upd H2 t (.tup [u,v])=H3 at s3 d3 t3;have j100:j<xs.length:=(List.getElem?_eq_some_iff.mp hu).1;refine⟨t,_,rfl,SqT.of t3,rfl,_,_,rfl,_,_,rfl,rfl,_,rfl,_,rfl,u,v,rfl,(hs j u v hu hv).same s3,λH4 s4=>⟨s4 _ _ d3,An (by simp;omega),_,_,replicate (j+1) true,rfl,λc o e=> ?_,Ab,by rw[List.replicate_succ',map_append];rfl,rfl⟩⟩;rw[Al (Av e hD)];exact s4 _ _ (s3 _ _ e)
  ·rintro j σ zs H2 _ ⟨u',v',bs,rfl,s2,d2,rfl,rfl⟩;have fl:((replicate j true).map V.bl).all Eg=true:=by
    rw[all_eq_true];intro x hx;obtain⟨z,_,rfl⟩:=mem_map.mp hx;rfl
   have ni:inV (.bl false) ((replicate j true).map V.bl)=false:=by
    unfold inV;refine List.any_eq_false.mpr λy hy=> ?_;obtain⟨z,hz,rfl⟩:=mem_map.mp hy;rw[List.eq_of_mem_replicate hz];decide
   refine⟨D,_,rfl,.inl (SqL.of d2),rfl,fl,?_⟩;rw[ni];exact k _ s2
theorem Iz{l n:Nat}{f:Addr}{fd:FuncData}{ps:List Str}(h0:FnOk P w K mg base CX0 l f fd ps (Hv 0))(h1:FnOk P w K mg base CX0 l f fd ps (Rt n)):FnOk P w K mg base CX0 l f fd ps (Hv (n+1)):=
 (h0.or h1).imp λvs H Q E ⟨x,y,e,sm,k⟩=>sm.elim (λh=> .inl ⟨x,y,e,h,k⟩) λ⟨a,b,xs,ys,e1,e2,h1,h2,l,z,h⟩=> .inr ⟨a,b,xs,ys,by rw[e,e1,e2],h1,h2,l,z,h,k⟩
theorem U7{f:Addr}{fd:FuncData}(F:Fun K "_law_same" "_law_same" Kl f fd)(T:Txt mg)(kSame:keepIn K (.ref f)=true)(bSame:Binds K fd ["_law_thing","_law_due_here"] [])(hSame:mg "_law_same"=some (.ref f)):FnOk P w K mg base CX0 5 f fd ["_law_thing","_law_due_here"] (Hv 4):=by
 have S0:=U6 (P:=P) (w:=w) (base:=base) F T;have S1:=Iz (S0.mono (by decide)) (G2 F T kSame bSame hSame S0);have S2:=Iz (S0.mono (by decide)) (G2 F T kSame bSame hSame S1);have S3:=Iz (S0.mono (by decide)) (G2 F T kSame bSame hSame S2);exact Iz (S0.mono (by decide)) (G2 F T kSame bSame hSame S3)
def Yv:Sp:=λvs H Q _=>∃(h:Addr) (N:Nat) (R:List R6) (n:Str),vs=[.ref h,.str n]/\LayAt H h N R/\R.length<=60/\(∀x∈R,x.1.1=n->x.2.2=false)/\n∈R.map (·.1.1)/\∀(g h' p:Addr) (H':Hp),Same H H'->H' g=some (.tup [.ref h',.ref p])->LayAt H' h' N (Bh R n)->H' p=some (.tup [])->Q (.ref g) H'
theorem Wy{f:Addr}{fd:FuncData}(F:Fun K "gone" "gone" No f fd)(T:Txt mg)(GRowOf:Cl P w K mg base 2 "row_of" ["rows","name"] Iu)(GWithout:Cl P w K mg base 2 "rows_without" ["rows","name"] Fn):
  FnOk P w K mg base CX0 3 f fd ["layers","name"] Yv:=by
 refine F.ok scGone (λvs H Q E h=> ?_) (λcdv A outer s H vs Q E hr h=> ?_)
 ·obtain⟨_,_,_,_,rfl,_⟩:=h;rfl
 ·obtain⟨h,N,R,n,rfl,⟨tp,rs,hh,ht,hR⟩,R60,nk,hn,k⟩:=h;refine⟨_,Ae (Di (pv 0) (Cy rfl (At (Aj (i:=2) scGone.nd rfl (Or.inl rfl)) (At (Aj (i:=3) scGone.nd rfl (Or.inl rfl)) Cc))))
   (Ae (Ao (i:=4) scGone.nd rfl (Or.inl rfl) (Au GRowOf hr (Aa (pv 3) (Aa (pv 1) Ad))))
   (Ae (Be (As Dj (pv 4) Ch (Ar _)) (Ag Gk) A2)
   (Ae (Ao (i:=3) scGone.nd rfl (Or.inl rfl) (Au GWithout hr (Aa (pv 3) (Aa (pv 1) Ad))))
   (Ae (Be (Hn (Cv (Aq Az (pv 4) Af (λ_ _=>rfl)))) (Ag (Ap (A5 (Aa (A5 (Aa (pv 2) (Aa (pv 3) Ad))) (Aa (A5 Ad) Ad))))) A2)
   Uh)))),?_⟩
  refine⟨_,rfl,h,_,rfl,SqT.of hh,rfl,_,_,rfl,_,_,rfl,rfl,?_⟩;refine⟨_,rfl,_,rfl,tp,rs,R,n,rfl,ht,hR,λr x hr0 hx xn=> ?_,λz=>absurd hn z⟩;refine⟨_,rfl,rfl,_,rfl,Bp ?_⟩;dsimp only[Bc];refine⟨_,rfl,_,rfl,tp,rs,R,n,rfl,ht,hR,R60,λtq qs H1 s1 e1 p1=> ?_⟩;refine⟨_,rfl,r,_,5,_,rfl,rfl,SqT.of (s1 _ _ hr0),Ai (j:=5) rfl,_,rfl,?_⟩;rw[nk x hx xn];refine Dg ?_;refine⟨_,rfl,_,rfl,small (by simp),λu hu=>⟨small (by simp),λp hp=>⟨small (by simp),λg hg=> ?_⟩⟩⟩;have s2:=Ac (o:= .tup [.int (N:Int),.ref tq]) hu;have s3:=Ac (o:= .tup []) hp;have s4:=Ac (o:= .tup [.ref u,.ref p]) hg;exact k g u p _ (((s1.trans s2).trans s3).trans s4) Ab ⟨tq,qs,s4 _ _ (s3 _ _ Ab),s4 _ _ (s3 _ _ (s2 _ _ e1)),p1.mono λr xs e=>s4 _ _ (s3 _ _ (s2 _ _ e))⟩ (s4 _ _ Ab)
theorem LGood.in1{N:Nat}{R:List R6}(h:LGood N R):InN N (R.map (·.1)):=λt ht=>by
 obtain⟨x,hx,rfl⟩:=mem_map.mp ht;exact⟨(h.ok x hx).2.1.1,(h.ok x hx).2.1.2.1⟩
theorem up_of{R:List R6}(h:R.Pairwise λx y=>¬y.1.1.cps.toList<x.1.1.cps.toList)(nd:(R.map (·.1.1)).Nodup):UpP R:=by
 rw[List.nodup_iff_pairwise_ne,Qe5] at nd;refine(h.and nd).imp λ{x y} ⟨h1,h2⟩=> ?_;rcases List.le_iff_lt_or_eq.mp (not_lt.mp h1) with z|z
 ·exact z
 ·exact absurd (str_ext z) h2
theorem X0{α β:Type}{f:α->β}{ys zs:List β}(h:ys.Perm zs):∀{l:List α},zs=l.map f->∃l':List α,ys=l'.map f/\l'.Perm l:=by
 induction h with
 |nil=>intro l e;exact⟨[],rfl,by cases l with|nil=>exact .nil|cons=>cases e⟩
 |cons x _ ih=>
  intro l e;cases l with
  |nil=>cases e
  |cons y l=>
   injection e with e1 e2;obtain⟨l',h1,h2⟩:=ih e2;exact⟨y::l',by rw[h1,e1];rfl,h2.cons y⟩
 |swap x y zs=>
  intro l e
  match l,e with
  |[],e=>cases e
  |[_],e=>injection e with _ e;cases e
  |u::v::l,e=>
   injection e with e1 e2;injection e2 with e2 e3;exact⟨v::u::l,by rw[e1,e2,e3];rfl,.swap u v l⟩
 |trans _ _ ih1 ih2=>
  intro l e;obtain⟨l1,h1,h2⟩:=ih2 e;obtain⟨l2,h3,h4⟩:=ih1 h1;exact⟨l2,h3,h4.trans h2⟩
def Wq:Sp:=λvs H Q _=>∃N:Nat,vs=[.int (N:Int)]/\∀h H',Same H H'->LayAt H' h N []->Q (.ref h) H'
def Ro(R:List R6)(t:T4):Prop:=t.1∈R.map (·.1.1)
structure Comes(N:Nat)(R R':List R6)(t:T4):Prop where
 ex:∃b:Bool,(b=true↔¬Reach (R.map (·.1)) t.2.1 t.2.2.1)/\R'.Perm (R++[(t,0,b)])
 up:UpP R'
def U3:Sp:=λvs H Q _=>∃(h r:Addr) (N:Nat) (R:List R6) (t:T4),vs=[.ref h,.ref r]/\LayAt H h N R/\LGood N R/\N<=24/\R.length<60/\H r=some (.tup (Hy t))/\Ls N t/\¬Ro R t/\∀h' R' H',Same H H'->LayAt H' h' N R'->Comes N R R' t->Q (.ref h') H'
theorem Ln(zs:List Str):(zs.map V.str).all Eg=true:=by
 rw[all_eq_true];intro x hx;obtain⟨z,_,rfl⟩:=mem_map.mp hx;rfl
theorem scBare:Ax ["many"] ["many"] (Ah V2):=⟨rfl,rfl,rfl,by decide+kernel,rfl,by decide+kernel,by decide+kernel⟩
theorem Yp{f:Addr}{fd:FuncData}(F:Fun K "bare_layers" "bare_layers" V2 f fd)(T:Txt mg):
  FnOk P w K mg base CX0 1 f fd ["many"] Wq:=by
 refine F.ok scBare (λvs H Q E h=> ?_) (λcdv A outer s H vs Q E hr h=> ?_)
 ·obtain⟨_,rfl,_⟩:=h;rfl
 ·obtain⟨N,rfl,k⟩:=h;refine⟨_,Ag (Ap (A5 (Aa (pv 0) (Aa (A5 Ad) Ad)))),?_⟩;refine⟨_,rfl,small (by simp),λt ht=>⟨small (by simp),λh hh=> ?_⟩⟩;exact k h _ ((Ac ht).trans (Ac hh)) ⟨t,[],Ab,Ac hh _ _ Ab,rfl,λi r x e=>by simp at e⟩
theorem scCame:Ax ["layers","tie","many","rows","name","one","other","weight","kept"] ["layers","tie"] (Ah Rb):=⟨rfl,rfl,rfl,by decide+kernel,rfl,by decide+kernel,by decide+kernel⟩
theorem Zg{f:Addr}{fd:FuncData}(F:Fun K "came" "came" Rb f fd)(T:Txt mg)(GJoined:Cl P w K mg base 4 "are_joined" ["many","stand","one","other"] J2)(GStandO:Cl P w K mg base 4 "stand_of" ["layers"] Ju):
  FnOk P w K mg base CX0 5 f fd ["layers","tie"] U3:=by
 refine F.ok scCame (λvs H Q E h=> ?_) (λcdv A outer s H vs Q E hr h=> ?_)
 ·obtain⟨_,_,_,_,_,rfl,_⟩:=h;rfl
 ·obtain⟨h,r,N,R,t,rfl,⟨tp,rs,hh,ht,hR⟩,G,N24,R60,hr0,tk,hn,k⟩:=h;refine⟨_,Ae (Di (pv 0) (Cy rfl (At (Aj (i:=2) scCame.nd rfl (Or.inl rfl)) (At (Aj (i:=3) scCame.nd rfl (Or.inl rfl)) Cc))))
   (Ae (Di (pv 1) (Cy rfl (At (Aj (i:=4) scCame.nd rfl (Or.inl rfl)) (At (Aj (i:=5) scCame.nd rfl (Or.inl rfl)) (At (Aj (i:=6) scCame.nd rfl (Or.inl rfl)) (At (Aj (i:=7) scCame.nd rfl (Or.inl rfl)) Cc))))))
   (Ae (Be (As Dq (pv 4) (Bj (T:=["row"]) (F:=[]) (js:=[]) (cs (osc:=Ah Rb)) rfl (Ca (pv 3)) (λ_ _ _ _ _=>Aj (i:=0) (show (["row"]:List Str).Nodup by decide+kernel) rfl (Or.inl rfl)) (λ_ _ _ _ _=>Bt) (λ_ _ _ _ _=>Aq (r:=J4 K) Az (pv 0) Af (λ_ _=>rfl))) (by rfl)) (Ag Gk) A2)
   (Ae (Ao (i:=8) scCame.nd rfl (Or.inl rfl) (pe_not (Au GJoined hr (Aa (pv 2) (Aa (Au GStandO hr (Aa (pv 0) Ad)) (Aa (pv 5) (Aa (pv 6) Ad)))))))
   (Ag (Ap (A5 (Aa (pv 2) (Aa (A6 A7 (by rfl) T.tuple (by decide+kernel) (Aa (Ay Srt.call_sortedNt (by rfl) T.sorted (by decide+kernel) (Aa (A0 Ef (pv 3) (A5 (Aa (A5 (Aa (pv 4) (Aa (pv 5) (Aa (pv 6) (Aa (pv 7) (Aa Af (Aa (pv 8) Ad))))))) Ad))) Ad)) Ad)) Ad)))))))),?_⟩
  refine⟨_,rfl,h,_,rfl,SqT.of hh,rfl,_,_,rfl,_,_,rfl,rfl,?_⟩;refine⟨_,rfl,r,_,rfl,SqT.of hr0,rfl,_,_,rfl,_,_,rfl,_,_,rfl,_,_,rfl,rfl,?_⟩;refine⟨_,rfl,_,rfl,tp,rfl,⟨_,SqT.of ht⟩,λD hD=>Cj (K:=K) (a:=tp) (xs:=rs.map V.ref) (λj σ ys H2=>∃u:Option V,σ=[u]/\ys=((R.take j).map (·.1.1)).map V.str/\Same H H2/\H2 D=some (.lst ys)) ⟨none,rfl,rfl,Ac hD,Ab⟩ (λj σ ys H2 _ ⟨_,_,_,s,e⟩=>⟨SqT.of (s _ _ ht),e⟩) ?_ ?_⟩
  ·rintro j x σ ys H2 hx ⟨u,rfl,rfl,s2,d2⟩;obtain⟨r',er,rfl⟩:=A3 hx;obtain⟨y,ey,hy⟩:=hR.get er;refine⟨_,rfl,r',_,0,_,rfl,rfl,SqT.of (s2 _ _ hy),Ai (j:=0) rfl,d2,An (by rw[If,If,Qb0];omega),_,rfl,?_,Aw s2 hD,Ab⟩;rw[Qc8,ey,map_append,map_append];rfl
  rintro σ ys H2 ⟨u,rfl,rfl,s2,d2⟩;rw[If,hR.1,Qb3] at d2;refine⟨D,_,rfl,.inl (SqL.of d2),rfl,Ln _,_,rfl,?_⟩;rw[show (if false=true then !inV (V.str t.1) ((R.map (·.1.1)).map V.str) else inV (V.str t.1) ((R.map (·.1.1)).map V.str))=decide (t.1∈R.map (·.1.1)) from Gz _ _];rw[decide_eq_false (show ¬t.1∈R.map (·.1.1) from hn)];refine Bp ?_;dsimp only[Bc];have hh2:=s2 _ _ hh;have ht2:=s2 _ _ ht;have hR2:=hR.mono λr xs e=>s2 _ _ e;refine⟨_,rfl,_,rfl,h,N,R,rfl,⟨tp,rs,hh2,ht2,hR2⟩,by omega,λst H3 s3 h3=> ?_⟩;refine⟨_,rfl,_,rfl,N,st,R.map (·.1),t.2.1,t.2.2.1,rfl,.inr h3,G.in1,by omega,by rw[If];omega,tk.1,λH4 s4=> ?_⟩;have rc:decide (t.2.2.1∈Am N (R.map (·.1)) t.2.1)=true↔Reach (R.map (·.1)) t.2.1 t.2.2.1:=by
   rw[Qa4,A1 G.in1 tk.1 (by omega)];exact⟨λz=>z.2,λz=>⟨tk.2.1,z⟩⟩
  have S4:=(s2.trans s3).trans s4;refine⟨_,rfl,?_⟩;generalize decide (t.2.2.1∈Am N (R.map (·.1)) t.2.1)=c at rc ⊢;have hb:(!c)=true↔¬Reach (R.map (·.1)) t.2.1 t.2.2.1:=by
   rw[<-rc];cases c<;> simp
  generalize (!c)=b at hb ⊢;refine⟨_,rfl,_,rfl,_,rfl,_,rfl,_,rfl,_,rfl,_,rfl,small (by simp),λx hx=>⟨small (by simp),λy hy=> ?_⟩⟩;have s5:=Ac (o:= .tup [.str t.1,.int (t.2.1:Int),.int (t.2.2.1:Int),.int t.2.2.2,.int 0,.bl b]) hx;have x5:=Ab (H:=H4) (a:=x) (o:= .tup [.str t.1,.int (t.2.1:Int),.int (t.2.2.1:Int),.int t.2.2.2,.int 0,.bl b]);generalize upd H4 x (.tup [.str t.1,.int (t.2.1:Int),.int (t.2.2.1:Int),.int t.2.2.2,.int 0,.bl b])=H5 at s5 x5 hy ⊢;have s6:=Ac (o:= .tup [.ref x]) hy;have y6:=Ab (H:=H5) (a:=y) (o:= .tup [.ref x]);have x6:upd H5 y (.tup [.ref x]) x=some (.tup (Et (t,0,b))):=s6 _ _ x5;generalize upd H5 y (.tup [.ref x])=H6 at s6 y6 x6 ⊢;have S6:=(S4.trans s5).trans s6;refine Ma (S6 _ _ ht) y6 (by rw[If,hR.1];show R.length+1<=_;omega) λw H7 s7 w7=> ?_;have S7:=S6.trans s7;have hR7:RowsAt H7 (rs++[x]) (R++[(t,0,b)]):=(hR.mono λr xs e=>S7 _ _ e).snoc (s7 _ _ x6);have w7:H7 w=some (.tup ((rs++[x]).map V.ref)):=by rw[w7,map_append];rfl
  have nd:((R++[((t,0,b):R6)]).map (·.1.1)).Nodup:=by
   rw[map_append,Qe6];refine⟨G.nd,by simp,λa ha c hc=> ?_⟩;rw[Qb5,map_nil,mem_singleton] at hc;intro e;rw[e,hc] at ha;exact hn ha
  refine⟨w,((rs++[x]).zip (R++[(t,0,b)])).map Yl,rfl,SqT.of (by rw[pn_ref hR7.1];exact w7),λq hq=> ?_,?_,?_,λl ps' hl hp hw=> ?_⟩
  ·obtain⟨q',hq',rfl⟩:=mem_map.mp hq;exact SqT.of (hR7.zip q' hq')
  ·rw[pn_nm hR7.1];exact nd
  ·rw[If,List.length_zip,hR7.1,Qa0];show min (R.length+1) (R.length+1)<64;omega
  obtain⟨l',rfl,hp'⟩:=X0 hp rfl;have r8:RowsAt H7 (l'.map (·.1)) (l'.map (·.2)):=RowsAt.unzip λq hq=>hR7.zip q (hp'.mem_iff.mp hq);have e2R:((rs++[x]).zip (R++[((t,0,b):R6)])).map (·.2)=R++[(t,0,b)]:=List.map_snd_zip (le_of_eq hR7.1.symm);have pR:(l'.map (·.2)).Perm (R++[(t,0,b)]):=by have:=hp'.map (·.2);rwa [e2R] at this
  have up:UpP (l'.map (·.2)):=up_of (by rw[Qe5] at hw ⊢;exact hw) (((pR.map _).nodup_iff).mpr nd);have en:(l'.map Yl).map Srt.nRef=(l'.map (·.1)).map V.ref:=by rw[map_map,map_map];rfl
  rw[en];refine⟨l,_,rfl,.inl ⟨SqL.of Ab,λtq htq=>⟨small (by simp),λg hg=> ?_⟩⟩⟩;have s9:=((Ac (o:= .lst ((l'.map (·.1)).map V.ref)) hl).trans (Ac (o:= .tup ((l'.map (·.1)).map V.ref)) htq)).trans (Ac (o:= .tup [.int (N:Int),.ref tq]) hg);exact k g _ _ (S7.trans s9) ⟨tq,l'.map (·.1),Ab,Ac hg _ _ Ab,r8.mono λr xs e=>s9 _ _ e⟩ ⟨⟨b,hb,pR⟩,up⟩
theorem Zi{R R':List R6}(h:UpP R)(h':UpP R')(p:R.Perm R'):R=R':=
 List.Perm.eq_of_pairwise (le:=λx y:R6=>x.1.1.cps.toList<y.1.1.cps.toList) (λx y _ _ h1 h2=>absurd h2 (lt_asymm h1)) h h' p
theorem Xy{N p q:Nat}{S:List T4}(hS:InN N S)(hN:N<=60)(hp:p<N)(hq:q<N)(nr:¬Reach S p q):(Am N S p).length+(Am N S q).length<=N:=by
 have nd:∀r,(Am N S r).Nodup:=λr=>(nodup_range).sublist Qc3;have:(Am N S p++Am N S q).Nodup:=Qe6.mpr ⟨nd p,nd q,λx hx y hy e=>by
  subst e;exact nr (((A1 hS hp hN).mp hx).2.trans ((A1 hS hq hN).mp hy).2.symm)⟩
 have l:=Nodup.length_le_of_subset (l₂:=List.range N) this λx hx=>by
  rcases mem_append.mp hx with h|h
  ·exact mem_range.mpr ((A1 hS hp hN).mp h).1
  ·exact mem_range.mpr ((A1 hS hq hN).mp h).1
 rw[Qa0,Qe1] at l;exact l
theorem LGood.come{N:Nat}{R:List R6}(G:LGood N R)(hN:N<=24){t:T4}{b:Bool}(nk:Gc t.1)(tk:Ls N t)(w:0<=t.2.2.2/\t.2.2.2<=1000000000)(fr:¬Ro R t)(few:R.length<60)(hb:b=true↔¬Reach (R.map (·.1)) t.2.1 t.2.2.1):LGood N (R++[(t,0,b)]):=by
 have l0:=lay_0 (N:Int);refine G.more (by omega) (λ_ _=>Qb8 _) ⟨nk,tk,w,l0⟩ fr few hb λe=> ?_;have:=Xy G.in1 (by omega) tk.1 tk.2.1 (hb.mp e);rw[show rm (N:Int) ((0:Nat):Int)=(N:Int) by unfold rm;simp];omega
theorem one_cnt{ps:List Nat}{x:R6}:cntF ps x=1↔Gb ps x:=by
 unfold cntF Gb;by_cases h1:x.1.2.1∈ps<;> by_cases h2:x.1.2.2.1∈ps<;> simp[Qf0,h1,h2]
theorem two_cnt{ps:List Nat}{x:R6}:cntF ps x=2↔x.1.2.1∈ps/\x.1.2.2.1∈ps:=by
 unfold cntF;by_cases h1:x.1.2.1∈ps<;> by_cases h2:x.1.2.2.1∈ps<;> simp[Qf0,h1,h2]
theorem mem_loose{R:List R6}{L e:Nat}{ps:List Nat}{n:Str}:n∈Ea R L ps e↔∃x∈R,x.1.1=n/\x.2.1=L/\x.2.2=false/\cntF ps x=e:=by
 unfold Ea Hx;rw[mem_map];constructor
 ·rintro⟨x,hx,rfl⟩;obtain⟨h1,h2⟩:=mem_filter.mp hx;obtain⟨h3,h4⟩:=mem_filter.mp h1;rw[Qd9,Qa4,Bool.not_eq_true'] at h4;exact⟨x,h3,rfl,h4.1,h4.2,Qb1 h2⟩
 ·rintro⟨x,hx,rfl,h1,h2,h3⟩;exact⟨x,mem_filter.mpr ⟨mem_filter.mpr ⟨hx,by rw[Qd9,Qa4,Bool.not_eq_true'];exact⟨h1,h2⟩⟩,decide_eq_true h3⟩,rfl⟩
theorem Yc(R:List R6)(i:Nat)(P:List Nat):Gu i R P (Q6 R i P) (foF R i P) where
 hk:=λn hn=>by
  unfold Q6 at hn;obtain⟨x,hx,e,h1,h2,h3⟩:=mem_loose.mp (mem_filter.mp hn).1;exact⟨x,hx,e,h1,h2,two_cnt.mp h3⟩
 hf:=λf hf=>by
  unfold foF at hf;obtain⟨x,hx,e,h1,h2,h3⟩:=mem_loose.mp (List.mem_of_mem_head? hf);exact⟨x,hx,e,h1,h2,one_cnt.mp h3⟩
 hn:=λhn x hx h1 h2 a=>by
  unfold foF at hn;rw[List.head?_eq_none_iff] at hn;have:x.1.1∈Ea R i P 1:=mem_loose.mpr ⟨x,hx,rfl,h1,h2,one_cnt.mpr a⟩;rw[hn] at this;cases this
theorem Yh(N:Nat)(x:R6)(i:Nat)(R:List R6):∃e,Half N x.1 i R (Cm N (tiF R (kpB i)) x) e:=by
 unfold Cm;by_cases h:(Am N (tiF R (kpB i)) x.1.2.1).length<=(Am N (tiF R (kpB i)) x.1.2.2.1).length
 ·rw[Qa3 h];exact⟨_,.inl rfl,rfl,le_refl _,h⟩
 ·rw[Qa2 h];exact⟨_,.inr rfl,rfl,by omega,le_refl _⟩
theorem N0{N:Nat}(N24:N<=24)(x:R6):∀(i:Nat) (R:List R6),Mid N x.1 i R->LGood N (Fq N x i R).1
 |0,R,h=>h.good (by omega)
 |i+1,R,h=>by
  obtain⟨e,q⟩:=Yh N x i R;have D:=Yc R i (Cm N (tiF R (kpB i)) x);unfold Fq;split
  ·rename_i z;have z:foF R i (Cm N (tiF R (kpB i)) x)=none:=z;rw[z] at D;refine N0 N24 x i _ ?_;show Mid N x.1 i (R.map (Bd i _ _ (foF R i (Cm N (tiF R (kpB i)) x))));rw[z];exact h.next N24 q D
  ·rename_i z;obtain⟨f,z⟩:=Option.ne_none_iff_exists'.mp z;have z:foF R i (Cm N (tiF R (kpB i)) x)=some f:=z;rw[z] at D;show LGood N (R.map (Bd i _ _ (foF R i (Cm N (tiF R (kpB i)) x))));rw[z];exact h.found N24 q D
theorem Rk(N:Nat)(x:R6):∀(i:Nat) (R:List R6),∃g:R6->R6,(Fq N x i R).1=R.map g/\∀y,(g y).1=y.1/\y.2.1<=(g y).2.1
 |0,R=>⟨id,(List.map_id R).symm,λy=>⟨rfl,le_refl _⟩⟩
 |i+1,R=>by
  have b:∀y,(Bd (rdF N x R i).1 (rdF N x R i).2.1 (rdF N x R i).2.2.1 (rdF N x R i).2.2.2 y).1=y.1/\y.2.1<=(Bd (rdF N x R i).1 (rdF N x R i).2.1 (rdF N x R i).2.2.1 (rdF N x R i).2.2.2 y).2.1:=λy=>⟨Cp _ _ _ _ y,by
   unfold Bd;split
   ·exact le_refl _
   ·split
    ·exact le_succ _
    ·exact le_refl _⟩
  unfold Fq;split
  ·obtain⟨g,e,h⟩:=Rk N x i (Fw R (rdF N x R i));refine⟨λy=>g (Bd (rdF N x R i).1 (rdF N x R i).2.1 (rdF N x R i).2.2.1 (rdF N x R i).2.2.2 y),?_,λy=>⟨(h _).1.trans (b y).1,le_trans (b y).2 (h _).2⟩⟩;show (Fq N x i (Fw R (rdF N x R i))).1=_;rw[e];show (R.map _).map g=_;rw[map_map];rfl
  ·exact⟨_,rfl,b⟩
theorem LGood.loose{N:Nat}{R:List R6}(h:LGood N R)(hN:N<=24){x:R6}(hx:x∈R)(xk:x.2.2=false):LGood N (Bh R x.1.1):=by
 have nk:∀L y,y∈R->y.1.1=x.1.1->kpB L y=false:=λL y hy e=>by
  rw[G9 h.nd hx hy e];unfold kpB;rw[xk,Bool.and_false]
 have ek:∀L,tiF (Bh R x.1.1) (kpB L)=tiF R (kpB L):=λL=>by
  unfold tiF Bh;rw[List.filter_filter]
  congr 1
  refine filter_congr λy hy=> ?_;by_cases e:y.1.1=x.1.1
  ·rw[nk L y hy e,Bool.false_and]
  ·rw[decide_eq_false e,Bool.not_false,Bool.and_true]
 have sub:∀L,∀t∈tiF (Bh R x.1.1) (frB L),t∈tiF R (frB L):=λL t ht=>Fh ht;exact{
  ok:=λy hy=>h.ok y (mem_filter.mp hy).1
  nd:=h.nd.sublist ((Qc3).map _)
  len:=le_trans (Qb2 _ _) h.len
  same:=λL hL a b q=>by rw[ek];exact h.same L hL a b (q.mono (sub L))
  size:=λL hL p hp=>by
   have:=De (N:=N) (p:=p) (S:=tiF (Bh R x.1.1) (frB L)) (S':=tiF R (frB L)) (λt ht=>h.inN _ t (sub L t ht)) (h.inN _) (by omega) hp λv q=>q.mono (sub L);have:=h.size L hL p hp;omega
  forest:=by rw[ek];exact h.forest}
def goR(N:Nat)(R:List R6)(n:Str):List R6:=match R.find? (λx=>decide (x.1.1=n)) with
 |some x=>if x.2.2=true then (Fq N x (x.2.1+1) (Bh R n)).1 else Bh R n
 |none=>R
theorem Y1{R:List R6}(nd:(R.map (·.1.1)).Nodup){x:R6}(hx:x∈R):R.find? (λy=>decide (y.1.1=x.1.1))=some x:=by
 cases e:R.find? (λy=>decide (y.1.1=x.1.1)) with
 |none=>
  have:=List.find?_eq_none.mp e x hx;simp at this
 |some y=>
  have hp:decide (y.1.1=x.1.1)=true:=List.find?_some (p:=λy:R6=>decide (y.1.1=x.1.1)) e;rw[G9 nd hx (List.mem_of_find?_eq_some e) (Qb1 hp)]
theorem Py{N:Nat}{R:List R6}(nd:(R.map (·.1.1)).Nodup){x:R6}(hx:x∈R):goR N R x.1.1=if x.2.2=true then (Fq N x (x.2.1+1) (Bh R x.1.1)).1 else Bh R x.1.1:=by
 unfold goR;rw[Y1 nd hx]
open Classical in
noncomputable def nxF(N:Nat)(R:List R6):Dd->List R6
 | .come _ t=>if h:∃R',Comes N R R' t then Classical.choose h else R
 | .go _ n=>goR N R n
theorem Comes.uniq{N:Nat}{R R1 R2:List R6}{t:T4}(h1:Comes N R R1 t)(h2:Comes N R R2 t):R1=R2:=by
 obtain⟨⟨b1,e1,p1⟩,u1⟩:=h1;obtain⟨⟨b2,e2,p2⟩,u2⟩:=h2;have:b1=b2:=by
  rw[Bool.eq_iff_iff];exact e1.trans e2.symm
 subst this;exact Zi u1 u2 (p1.trans p2.symm)
theorem Mi{N:Nat}{R R':List R6}{t:T4}{m:Int}(h:Comes N R R' t):nxF N R (.come m t)=R':=by
 have hx:∃R',Comes N R R' t:=⟨R',h⟩
 have e:nxF N R (.come m t)=Classical.choose hx:=dif_pos hx;rw[e];exact(Classical.choose_spec hx).uniq h
noncomputable def Gx(N:Nat)(ds:List Dd):List R6:=ds.foldl (nxF N) []
theorem Nw(N:Nat)(ds:List Dd)(d:Dd):Gx N (ds++[d])=nxF N (Gx N ds) d:=by unfold Gx;rw[List.foldl_append];rfl
structure Gd(N:Nat)(R:List R6)(S:List T4):Prop where
 g:LGood N R
 up:UpP R
 pm:(R.map (·.1)).Perm S
def DdG(N:Nat)(S:List T4):Dd->Prop
 | .come _ t=>t.1 ∉ S.map (·.1)/\Ls N t/\Gc t.1/\(0<=t.2.2.2/\t.2.2.2<=1000000000)/\S.length<60
 | .go _ n=>n∈S.map (·.1)
theorem Gg{R:List R6}{S:List T4}(p:(R.map (·.1)).Perm S):(R.map (·.1.1)).Perm (S.map (·.1)):=by
 have:=p.map (·.1)
 rwa [map_map] at this
theorem Gd.len{N:Nat}{R:List R6}{S:List T4}(h:Gd N R S):R.length=S.length:=by rw[<-h.pm.length_eq,If]
theorem Gd.nil{N:Nat}(N1:1<=N)(N24:N<=24):Gd N [] []:=⟨LGood.nil N1 N24,Pairwise.nil,.refl _⟩
theorem Gd.fresh{N:Nat}{R:List R6}{S:List T4}(h:Gd N R S){t:T4}(hn:t.1 ∉ S.map (·.1)):¬Ro R t:=λz=>hn ((Gg h.pm).mem_iff.mp z)
theorem Gd.come{N:Nat}(N24:N<=24){R R':List R6}{S:List T4}{m:Int}{t:T4}(h:Gd N R S)(d:DdG N S (.come m t))(c:Comes N R R' t):Gd N R' (S++[t]):=by
 obtain⟨d1,d2,d3,d4,d5⟩:=d;obtain⟨⟨b,hb,p⟩,u⟩:=c;have:=h.len;have g:=h.g.come N24 d3 d2 d4 (h.fresh d1) (by omega) hb;refine⟨g.perm (by omega) p,u,?_⟩;refine(p.map (·.1)).trans ?_;rw[map_append];exact h.pm.append_right _
theorem Gd.row{N:Nat}{R:List R6}{S:List T4}(h:Gd N R S){n:Str}(hn:n∈S.map (·.1)):∃x∈R,x.1.1=n:=mem_map.mp ((Gg h.pm).mem_iff.mpr hn)
theorem Yo{R:List R6}(h:UpP R)(n:Str):UpP (Bh R n):=h.sublist Qc3
theorem up_map{R:List R6}(h:UpP R){g:R6->R6}(hg:∀y,(g y).1=y.1):UpP (R.map g):=by
 unfold UpP at h ⊢;rw[Qe5];refine h.imp λ{a b} z=> ?_;rw[hg,hg];exact z
theorem Y6{R:List R6}{S:List T4}(p:(R.map (·.1)).Perm S)(n:Str):((Bh R n).map (·.1)).Perm (S.filter λt=>decide (t.1≠n)):=by
 have e:(Bh R n).map (·.1)=(R.map (·.1)).filter λt=>decide (t.1≠n):=by
  unfold Bh;rw[filter_map]
  congr 1
  refine filter_congr λy _=> ?_;show (!decide (y.1.1=n))=decide (¬y.1.1=n);rw[decide_not]
 rw[e];exact p.filter _
theorem go_map{N:Nat}{R:List R6}{x:R6}(nd:(R.map (·.1.1)).Nodup)(hx:x∈R):∃g:R6->R6,goR N R x.1.1=(Bh R x.1.1).map g/\∀y,(g y).1=y.1/\y.2.1<=(g y).2.1:=by
 rw[Py nd hx];split
 ·exact Rk N x _ _
 ·exact⟨id,(List.map_id _).symm,λy=>⟨rfl,le_refl _⟩⟩
theorem Gd.gone{N:Nat}(N24:N<=24){R:List R6}{S:List T4}(h:Gd N R S){x:R6}(hx:x∈R):Gd N (goR N R x.1.1) (S.filter λt=>decide (t.1≠x.1.1)):=by
 obtain⟨g,e,hg⟩:=go_map (N:=N) h.g.nd hx;refine⟨?_,?_,?_⟩
 ·rw[Py h.g.nd hx];split
  ·rename_i z;exact N0 N24 x _ _ (h.g.gone (by omega) hx z)
  ·rename_i z;exact h.g.loose N24 hx (by simpa using z)
 ·rw[e];exact up_map (Yo h.up _) λy=>(hg y).1
 ·have e2:((Bh R x.1.1).map g).map (·.1)=(Bh R x.1.1).map (·.1):=by
   rw[map_map];exact map_congr_left λy _=>(hg y).1
  rw[e,e2];exact Y6 h.pm _
theorem cutD(m:Int)(t:T4):Ec (Dd.come m t).vs (some (2:Int)) none=Hy t:=by
 rw[show (some (2:Int))=some ((2:Nat):Int) from rfl,Hs];rfl
structure Nx(N:Nat)(R:List R6)(S:List T4)(d:Dd):Prop where
 gd:Gd N (nxF N R d) (Oo S d)
theorem Nx.come{N:Nat}(N24:N<=24){R R':List R6}{S:List T4}{m:Int}{t:T4}(h:Gd N R S)(d:DdG N S (.come m t))(c:Comes N R R' t):Nx N R S (.come m t) where
 gd:=by rw[Mi c];exact h.come N24 d c
theorem Nx.gone{N:Nat}(N24:N<=24){R:List R6}{S:List T4}(m:Int){x:R6}(h:Gd N R S)(hx:x∈R):Nx N R S (.go m x.1.1) where
 gd:=h.gone N24 hx
def spGo:Sp:=λvs H Q _=>∃(h:Addr) (N:Nat) (R:List R6) (x:R6),vs=[.ref h,.str x.1.1]/\LayAt H h N R/\LGood N R/\N<=24/\x∈R/\∀(g h' p:Addr) (H':Hp),Same H H'->H' g=some (.tup [.ref h',.ref p])->LayAt H' h' N (goR N R x.1.1)->Q (.ref g) H'
def Xx:Sp:=λvs H Q _=>∃(h r:Addr) (N:Nat) (R:List R6) (S:List T4) (d:Dd),vs=[.ref h,.ref r]/\LayAt H h N R/\Gd N R S/\N<=24/\H r=some (.tup d.vs)/\DdG N S d/\∀h' H',Same H H'->LayAt H' h' N (nxF N R d)->Nx N R S d->Q (.ref h') H'
structure HG(N:Nat)(ds:List Dd):Prop where
 n1:1<=N
 n24:N<=24
 ok:∀(i:Nat) d,ds[i]? =some d->DdG N (thr (ds.take i)) d
 len:ds.length<=60
structure LsAt(H:Hp)(ls:List Addr)(N:Nat)(ds:List Dd)(n:Nat):Prop where
 len:ls.length=n+1
 lay:∀(i:Nat) a,ls[i]? =some a->LayAt H a N (Gx N (ds.take i))
 gd:∀i,i<=n->Gd N (Gx N (ds.take i)) (thr (ds.take i))
theorem LsAt.mono{H H':Hp}{ls:List Addr}{N:Nat}{ds:List Dd}{n:Nat}(h:LsAt H ls N ds n)(f:∀r xs,H r=some (.tup xs)->H' r=some (.tup xs)):LsAt H' ls N ds n:=⟨h.len,λi a e=>(h.lay i a e).mono f,h.gd⟩
theorem LsAt.snoc{H:Hp}{ls:List Addr}{N:Nat}{ds:List Dd}{n:Nat}{a:Addr}(h:LsAt H ls N ds n)(l:LayAt H a N (Gx N (ds.take (n+1))))(g:Gd N (Gx N (ds.take (n+1))) (thr (ds.take (n+1)))):LsAt H (ls++[a]) N ds (n+1) where
 len:=by rw[Qa0,h.len];rfl
 lay:=λi b e=>by
  rw[getElem?_append] at e;split at e
  ·exact h.lay i b e
  ·rename_i z;have hz:i - ls.length=0:=by
    have:=(List.getElem?_eq_some_iff.mp e).1;simp only[Qa6,Qb9] at this;omega
   rw[hz] at e;cases e;have:i=n+1:=by have:=h.len;omega
   rw[this];exact l
 gd:=λi hi=>by
  by_cases e:i=n+1
  ·rw[e];exact g
  ·exact h.gd i (by omega)
theorem LsAt.one{H:Hp}{a:Addr}{N:Nat}{ds:List Dd}(N1:1<=N)(N24:N<=24)(l:LayAt H a N []):LsAt H [a] N ds 0 where
 len:=rfl
 lay:=λi b e=>by
  cases i with
  |zero=>cases e;exact l
  |succ i=>simp at e
 gd:=λi hi=>by
  have:i=0:=by omega
  rw[this];exact Gd.nil N1 N24
theorem LsAt.last{H:Hp}{ls:List Addr}{N:Nat}{ds:List Dd}{n:Nat}(h:LsAt H ls N ds n):∃pre a,ls=pre++[a]/\LayAt H a N (Gx N (ds.take n)):=by
 have l:=h.len;rcases List.eq_nil_or_concat ls with z|⟨pre,a,z⟩
 ·rw[z] at l;simp at l
 ·rw[List.concat_eq_append] at z;have p:pre.length=n:=by rw[z,Qa0] at l;simpa using l
  refine⟨pre,a,z,h.lay n a ?_⟩;rw[z,List.getElem?_append_right (by omega),p,Nat.sub_self];rfl
theorem Ry{r:V}{xs:List V}:atI (xs++[r]) (-1)=some r:=Xv _ _
def spAll:Sp:=λvs H Q _=>∃(h:Addr) (N:Nat) (ds:List Dd),vs=[.ref h]/\HistAt H h N ds/\HG N ds/\∀(l:Addr) (ls:List Addr) (H':Hp),Same H H'->H' l=some (.lst (ls.map V.ref))->LsAt H' ls N ds ds.length->Q (.ref l) H'
theorem Yy{f:Addr}{fd:FuncData}(F:Fun K "gone" "gone" No f fd)(T:Txt mg)(GRowOf:Cl P w K mg base 2 "row_of" ["rows","name"] Iu)(GWithout:Cl P w K mg base 2 "rows_without" ["rows","name"] Fn)(GRound:Cl P w K mg base 5 "round_at" ["many","rows","layer","tie"] Mx)(GBehinds:Cl P w K mg base 5 "rows_behind" ["rows","told"] Hk):
  FnOk P w K mg base CX0 6 f fd ["layers","name"] spGo:=by
 refine((V6 F T GRowOf.up GWithout.up GRound GBehinds).or ((Wy F T GRowOf GWithout).mono (by decide))).imp ?_;rintro vs H Q E ⟨h,N,R,x,rfl,hl,G,N24,hx,k⟩;have one:∀y∈R,y.1.1=x.1.1->y=x:=λy hy e=>G9 G.nd hx hy e;have eg:=Py (N:=N) G.nd hx;cases xk:x.2.2 with
 |true=>
  refine .inl ⟨h,N,R,x.1.1,x,rfl,hl,G.len,by omega,λy hy=>⟨(G.ok y hy).2.1.1,(G.ok y hy).2.1.2.1⟩,hx,rfl,xk,?_,one,λg h' p ts H' s1 e1 l1 _ _=>k g h' p H' s1 e1 ?_⟩
  ·have:=(G.ok x hx).2.2.2;have:=lay_4 (N:Int);omega
  ·rw[eg,Qa3 xk];exact l1
 |false=>
  refine .inr ⟨h,N,R,x.1.1,rfl,hl,G.len,λy hy e=>by rw[one y hy e];exact xk,mem_map.mpr ⟨x,hx,rfl⟩,λg h' p H' s1 e1 l1 _=>k g h' p H' s1 e1 ?_⟩;rw[eg,Qa2 (by rw[xk];exact Bool.false_ne_true)];exact l1
theorem scNext:Ax ["layers","deed"] ["layers","deed"] (Ah Wv):=⟨rfl,rfl,rfl,by decide+kernel,rfl,by decide+kernel,by decide+kernel⟩
theorem Z8{f:Addr}{fd:FuncData}(F:Fun K "layers_next" "layers_next" Wv f fd)(T:Txt mg)(GCame:Cl P w K mg base 6 "came" ["layers","tie"] U3)(GGone:Cl P w K mg base 6 "gone" ["layers","name"] spGo):
  FnOk P w K mg base CX0 7 f fd ["layers","deed"] Xx:=by
 refine F.ok scNext (λvs H Q E h=> ?_) (λcdv A outer s H vs Q E hr h=> ?_)
 ·obtain⟨_,_,_,_,_,_,rfl,_⟩:=h;rfl
 ·obtain⟨h,r,N,R,S,d,rfl,hl,G,N24,hr0,hd,k⟩:=h;refine⟨_,Ae (Be (As Bl (Aq Az (pv 1) Af (λ_ _=>rfl)) Ba (Ar _)) (Ag (Ap (Au GCame hr (Aa (pv 0) (Aa (Ce Dc (pv 1) (Br Af) Do) Ad))))) A2)
   (Ag (Ap (Aq Az (Au GGone hr (Aa (pv 0) (Aa (Aq Az (pv 1) Af (λ_ _=>rfl)) Ad))) Af (λ_ _=>rfl)))),?_⟩
  have rl:R.length<=60:=G.g.len;cases d with
  |come m t=>
   refine⟨_,rfl,r,_,0,_,rfl,rfl,SqT.of hr0,Ai (j:=0) rfl,rfl,_,rfl,Dg ?_⟩;refine⟨_,rfl,_,rfl,_,rfl,Cz hr0 λr4 H1 s1 e1=> ?_⟩;rw[cutD] at e1;have ln:=G.len;refine⟨h,r4,N,R,t,rfl,hl.same s1,G.g,N24,by rw[ln];exact hd.2.2.2.2,e1,hd.2.1,G.fresh hd.1,λh' R' H' s2 l2 c=> ?_⟩;exact k h' H' (s1.trans s2) (by rw[Mi c];exact l2) (.come N24 G hd c)
  |go m n=>
   refine⟨_,rfl,r,_,0,_,rfl,rfl,SqT.of hr0,Ai (j:=0) rfl,rfl,_,rfl,Bp ?_⟩;dsimp only[Bc];obtain⟨x,hx,rfl⟩:=G.row hd;refine⟨_,rfl,_,rfl,r,_,2,_,rfl,rfl,SqT.of hr0,Ai (j:=2) rfl,h,N,R,x,rfl,hl,G.g,N24,hx,λg h' p H' s1 e1 l1=> ?_⟩;exact⟨g,_,0,_,rfl,rfl,SqT.of e1,Ai (j:=0) rfl,k h' H' s1 l1 (.gone N24 m G hx)⟩
theorem scAll:Ax ["history","many","deeds","told","deed"] ["history"] (Ah sAll):=⟨rfl,rfl,rfl,by decide+kernel,rfl,by decide+kernel,by decide+kernel⟩
theorem ok_All{f:Addr}{fd:FuncData}(F:Fun K "all_layers" "all_layers" sAll f fd)(T:Txt mg)(GBare:Cl P w K mg base 7 "bare_layers" ["many"] Wq)(GNext:Cl P w K mg base 7 "layers_next" ["layers","deed"] Xx):
  FnOk P w K mg base CX0 8 f fd ["history"] spAll:=by
 refine F.ok scAll (λvs H Q E h=> ?_) (λcdv A outer s H vs Q E hr h=> ?_)
 ·obtain⟨_,_,_,rfl,_⟩:=h;rfl
 ·obtain⟨h,N,ds,rfl,⟨tp,rs,eh,et,hdd⟩,hG,k⟩:=h;refine⟨_,Ae (Di (pv 0) (Cy rfl (At (Aj (i:=1) scAll.nd rfl (Or.inl rfl)) (At (Aj (i:=2) scAll.nd rfl (Or.inl rfl)) Cc))))
   (Ae (Ao (i:=3) scAll.nd rfl (Or.inl rfl) (Bq (Aa (Au GBare hr (Aa (pv 1) Ad)) Ad)))
   (Ae (Ct PassesOwn.never rfl (Ca (pv 2)) (Aj (i:=4) scAll.nd rfl (Or.inl rfl)) (Ag (Cn (Dk Qb7 PySem.F.slot_list_append PySem.F.type_list_append Bw (pv 3) (Aa (Au GNext hr (Aa (Aq A4 (pv 3) (Ki Fy Af) (λ_ _=>rfl)) (Aa (pv 4) Ad))) Ad)))))
   (Ag (Ap (pv 3))))),?_⟩
  have n60:=hG.len;refine⟨_,rfl,h,_,rfl,SqT.of eh,rfl,_,_,rfl,_,_,rfl,rfl,?_⟩;refine⟨_,rfl,N,rfl,λb H1 s1 l1=>⟨small (by simp),λl hl=> ?_⟩⟩;have s2:=s1.trans (Ac (o:= .lst [.ref b]) hl);have e2:upd H1 l (.lst [.ref b]) l=some (.lst (([b]:List Addr).map V.ref)):=Ab;have L2:LsAt (upd H1 l (.lst [.ref b])) [b] N ds 0:= .one hG.n1 hG.n24 (l1.same (Ac hl));have ln:H l=none:=by
   cases q:H l with
   |none=>rfl
   |some o=>rw[s1 _ _ q] at hl;cases hl
  generalize upd H1 l (.lst [.ref b])=H2 at s2 e2 L2 ⊢;refine⟨_,rfl,tp,rfl,⟨_,SqT.of (s2 _ _ et)⟩,Ex (K:=K) (a:=tp) (xs:=rs.map V.ref) (λi σ H3=>∃(u4:Option V) (ls:List Addr),σ=[some (.ref h),some (.int (N:Int)),some (.ref tp),some (.ref l),u4]/\Same H H3/\H3 l=some (.lst (ls.map V.ref))/\LsAt H3 ls N ds i) ⟨none,[b],rfl,s2,e2,L2⟩ (λi σ H3 _ ⟨_,_,_,s,_⟩=>SqT.of (s _ _ et)) ?_ ?_⟩
  ·rintro i x σ H3 hx ⟨u4,ls,rfl,s3,e3,L3⟩;obtain⟨r,er,rfl⟩:=A3 hx;obtain⟨dd,ed,r0⟩:=hdd.get er;have li:i<ds.length:=(List.getElem?_eq_some_iff.mp ed).1;obtain⟨pre,b',rfl,lb⟩:=L3.last;have ll:=L3.len;have al:atI ((pre++[b']).map V.ref) (-1)=some (.ref b'):=by rw[map_append];exact Ry
   refine⟨_,rfl,.inl ⟨rfl,_,SqL.of e3⟩,_,rfl,_,rfl,l,_,_,_,rfl,rfl,SqL.of e3,al,_,rfl,b',r,N,_,_,dd,rfl,lb,L3.gd i (le_refl _),hG.n24,s3 _ _ r0,hG.ok i dd ed,λh' H4 s4 l4 nx=> ?_⟩;have e4:=s4 _ _ e3;refine⟨l,_,_,rfl,rfl,e4,An (by rw[If];omega),?_⟩;have kp:∀(r:Addr) (zs:List V) (o:HO),H4 r=some (.tup zs)->upd H4 l o r=some (.tup zs):=λr zs o e=>by rw[Al (Bx e e4 (by intro z;cases z))];exact e
   have el:Gx N (ds.take (i+1))=nxF N (Gx N (ds.take i)) dd:=by rw[A9 ed,Nw]
   have et:thr (ds.take (i+1))=Oo (thr (ds.take i)) dd:=by rw[A9 ed,Dt]
   refine⟨_,(pre++[b'])++[h'],rfl,Aw (s3.trans s4) ln,by rw[Ab,map_append (l₂:=[h'])];rfl,(L3.mono λr xs e=>kp r xs _ (s4 _ _ e)).snoc ?_ ?_⟩
   ·rw[el];exact l4.mono λr xs e=>kp r xs _ e
   ·rw[el,et];exact nx.gd
  ·rintro σ H3 ⟨u4,ls,rfl,s3,e3,L3⟩;rw[If,hdd.1] at L3;exact⟨_,rfl,k l ls H3 s3 e3 L3⟩
theorem O6:∀{a b:List Str},a.Perm b->a.Pairwise (λx y=>¬y.cps.toList<x.cps.toList)->b.Pairwise (λx y=>x.cps.toList<y.cps.toList)->a=b
 |[],[],_,_,_=>rfl
 |[],_::_,p,_,_=>by cases p.length_eq
 |_::_,[],p,_,_=>by cases p.length_eq
 |x::a,y::b,p,ha,hb=>by
  rw[pairwise_cons] at ha hb;have e:x=y:=by
   have h1:x∈y::b:=p.mem_iff.mp Qb6;have h2:y∈x::a:=p.mem_iff.mpr Qb6;rcases Qa9.mp h1 with h1|h1
   ·exact h1
   rcases Qa9.mp h2 with h2|h2
   ·exact h2.symm
   exact absurd (hb.1 x h1) (ha.1 y h2)
  subst e;rw[O6 ((List.perm_cons x).mp p) ha.2 hb.2]
theorem UpP.nms{R:List R6}(h:UpP R){ns:List Str}(p:ns.Perm (R.map (·.1.1)))(w:ns.Pairwise λa b=>Srt.ltK (.inr b) (.inr a)=false):ns=R.map (·.1.1):=by
 refine O6 p (w.imp λ{x y} l=>of_decide_eq_false l) ?_;unfold UpP at h;rw[Qe5];exact h
theorem ps_val{ps:Ps}{n:Str}{v:V}(h:Dn (psK ps) (.inr n)=some v):∃p∈ps,p.1.1=n/\v= .ref p.2:=by
 unfold Dn psK at h;rw[List.find?_map,Option.map_map] at h;obtain⟨p,hp,e⟩:=map_eq_some_iff.mp h;have hq:=List.find?_some hp;have hq:decide ((Sum.inr p.1.1:Key)=Sum.inr n)=true:=hq;exact⟨p,List.mem_of_find?_eq_some hp,Sum.inr.inj (Qb1 hq),e.symm⟩
def Q3:Sp:=λvs H Q _=>∃(h:Addr) (N:Nat) (ds:List Dd) (n:Nat) (R:List R6),vs=[.ref h,.int (n:Int)]/\HistAt H h N ds/\HG N ds/\n<=ds.length/\Gd N R (thr (ds.take n))/\∀(st:Addr) (H':Hp),Same H H'->StandT H' st (R.map (·.1))->Q (.ref st) H'
theorem scTiesL:Ax ["_law_history_here","_law_n","_law_there","_law_deed"] ["_law_history_here","_law_n"] (Ah Mc):=⟨rfl,rfl,rfl,by decide+kernel,rfl,by decide+kernel,by decide+kernel⟩
theorem Vn{f:Addr}{fd:FuncData}(F:Fun K "_law_ties" "_law_ties" Mc f fd)(T:Txt mg):
  FnOk P w K mg base CX0 1 f fd ["_law_history_here","_law_n"] Q3:=by
 refine F.ok scTiesL (λvs H Q E h=> ?_) (λcdv A outer s H vs Q E hr h=> ?_)
 ·obtain⟨_,_,_,_,_,rfl,_⟩:=h;rfl
 ·obtain⟨h,N,ds,n,R,rfl,⟨tp,rs,eh,et,hdd⟩,hG,hn,G,k⟩:=h;refine⟨_,Ae (Ao (i:=2) scTiesL.nd rfl (Or.inr rfl) Xh)
   (Ae (Ct PassesOwn.never rfl (Ca (Ce Dc (Aq Az (pv 0) Af (λ_ _=>rfl)) Do (Br (pv 1)))) (Aj (i:=3) scTiesL.nd rfl (Or.inl rfl)) (Ag (Be (As Bl (Aq Az (pv 3) Af (λ_ _=>rfl)) Ba (Ar _)) (Ag (Je (E2 hr) (pv 2) (Aq Az (pv 3) Af (λ_ _=>rfl)) (Ce Dc (pv 3) (Br Af) Do) rfl)) (Ag (Cn (Wn (pv 2) (Aq Az (pv 3) Af (λ_ _=>rfl)) ⟨rfl,rfl,rfl,rfl⟩))))))
   (Ag (Ap (A6 A7 (by rfl) T.tuple (by decide+kernel) (Aa (Bj (T:=["_law_name"]) (F:=["_law_there"]) (js:=[2]) (cs (osc:=Ah Mc)) rfl (Cr (Ay (Srt.call_sortedD rfl) (by rfl) T.sorted (by decide+kernel) (Aa (pv 2) Ad))) (λ_ _ _ _ _=>Aj (i:=0) (show (["_law_name","_law_there"]:List Str).Nodup by decide+kernel) rfl (Or.inl rfl)) (λ_ _ _ _ _=>Bt) (λ_ _ _ _ _=>Dy (E2 hr) (pv 1) (pv 0) (λ_ _=>rfl))) Ad))))),?_⟩
  refine λth hth=> ?_;have s1:=Ac (o:= .dK []) hth;have d1:=Ab (H:=H) (a:=th) (o:= .dK []);generalize upd H th (.dK [])=H1 at s1 d1 ⊢;have lrs:rs.length=ds.length:=hdd.1;have n60:=hG.len;refine⟨_,rfl,h,_,1,_,rfl,rfl,SqT.of (s1 _ _ eh),Ai (j:=1) rfl,_,rfl,_,rfl,Cz (s1 _ _ et) λt2 H2 s2 e2=> ?_⟩;rw[K6 (by rw[If];omega),<-List.map_take] at e2;have s12:=s1.trans s2;have hdt:=hdd.take n;have tn:(th:Addr)≠t2:=λz=>by rw[<-z,s2 _ _ d1] at e2;cases e2
  refine⟨t2,rfl,⟨_,SqT.of e2⟩,Ex (K:=K) (a:=t2) (xs:=(rs.take n).map V.ref) (λi σ H3=>∃(x3:Option V) (ps:Ps),σ=[some (.ref h),some (.int (n:Int)),some (.ref th),x3]/\Same H H3/\H3 t2=some (.tup ((rs.take n).map V.ref))/\ThF H3 th ps/\ps.map (·.1)=thr (ds.take i)) ⟨none,[],rfl,s12,e2,⟨s2 _ _ d1,by simp⟩,rfl⟩ (λi σ H3 _ ⟨_,_,_,_,e,_⟩=>SqT.of e) ?_ ?_⟩
  ·rintro i x σ H3 hx ⟨x3,ps,rfl,s3,e3,T3,fs⟩;obtain⟨r,er,rfl⟩:=A3 hx;obtain⟨dd,ed,r0⟩:=hdt.get er;have li:i<n:=by have:=(List.getElem?_eq_some_iff.mp er).1;rw[Qb0] at this;omega
   rw[List.getElem?_take_of_lt li] at ed;have r3:=s3 _ _ r0;have hok:=hG.ok i dd ed;have tl:=Er ds i;have pl:ps.length<=60:=by rw[<-If (f:=(·.1)),fs];omega
   rw[A9 ed,Dt];have kp:∀(H4:Hp) (o:HO) (u:Addr) (zs:List V) (w:HO),H4 th=some w->(∀ys,w≠ .tup ys)->H4 u=some (.tup zs)->upd H4 th o u=some (.tup zs):=λH4 o u zs w e1 e2 e=>by rw[Al (Bx e e1 (λz=>e2 _ z.symm))];exact e
   cases dd with
   |come m' t=>
    have nf:t.1 ∉ ps.map (·.1.1):=by rw[<-Jr,fs];exact hok.1
    refine⟨_,rfl,r,_,0,_,rfl,rfl,SqT.of r3,Ai (j:=0) rfl,rfl,_,rfl,Dg ?_⟩;refine⟨_,rfl,_,rfl,Cz r3 λp H4 s4 p4=> ?_⟩;rw[cutD] at p4;have d4:=s4 _ _ T3.1;have e4:=s4 _ _ e3;refine⟨_,rfl,_,rfl,r,_,2,_,rfl,rfl,SqT.of (s4 _ _ r3),Ai (j:=2) rfl,th,_,rfl,DPut.k (k:=Sum.inr t.1) d4 (An (by unfold psK;rw[If];omega)),?_⟩;rw[X3 nf];refine⟨_,ps++[(t,p)],rfl,Aw (s3.trans s4) hth,kp _ _ _ _ _ d4 (λys z=>by cases z) e4,⟨Ab,λq hq=> ?_⟩,by rw[map_append,fs];rfl⟩;rcases mem_append.mp hq with hq|hq
    ·exact kp _ _ _ _ _ d4 (λys z=>by cases z) (s4 _ _ (T3.2 q hq))
    ·rw[mem_singleton.mp hq];exact kp _ _ _ _ _ d4 (λys z=>by cases z) p4
   |go m' nn=>
    refine⟨_,rfl,r,_,0,_,rfl,rfl,SqT.of r3,Ai (j:=0) rfl,rfl,_,rfl,Bp ?_⟩;have hin:(Dn (psK ps) (Sum.inr nn)).isSome=true:=by
     rw[Sm,Qa4,<-Jr,fs];exact hok
    obtain⟨v,hv⟩:=Qd5.mp hin;refine⟨_,rfl,th,rfl,.inl ⟨_,.inl T3.1⟩,_,rfl,r,_,2,_,rfl,rfl,SqT.of r3,Ai (j:=2) rfl,psK ps,Sum.inr nn,v,T3.1,rfl,hv,?_⟩;rw[Od];refine⟨_,ps.filter (λp=>decide (p.1.1≠nn)),rfl,Aw s3 hth,kp _ _ _ _ _ T3.1 (λys z=>by cases z) e3,⟨Ab,λq hq=> ?_⟩,by rw[Z7,fs];rfl⟩;exact kp _ _ _ _ _ T3.1 (λys z=>by cases z) (T3.2 q (mem_filter.mp hq).1)
  ·rintro σ H3 ⟨x3,ps,rfl,s3,e3,T3,fs⟩;have lt:((rs.take n).map V.ref).length=n:=by rw[If,Qb0];omega
   rw[lt] at fs;have tl:=Er ds n;have pl:ps.length<=60:=by rw[<-If (f:=(·.1)),fs];omega
   have pn:(ps.map (·.1.1)).Perm (R.map (·.1.1)):=by rw[<-Jr,fs];exact(Gg G.pm).symm
   refine⟨_,rfl,th,psK ps,ps.map (·.1.1),rfl,T3.1,by unfold psK;rw[map_map,map_map];rfl,by rw[If];omega,λsl ns hsl hp hw=> ?_⟩;have en:ns=R.map (·.1.1):=G.up.nms (hp.trans pn) hw;subst en;have s4:=s3.trans (Ac (o:= .lst ((R.map (·.1.1)).map V.str)) hsl);have e4:upd H3 sl (.lst ((R.map (·.1.1)).map V.str)) sl=some (.lst ((R.map (·.1.1)).map V.str)):=Ab;have T4:ThF (upd H3 sl (.lst ((R.map (·.1.1)).map V.str))) th ps:=⟨Ac hsl _ _ T3.1,λp hp=>Ac hsl _ _ (T3.2 p hp)⟩
   generalize upd H3 sl (.lst ((R.map (·.1.1)).map V.str))=H4 at s4 e4 T4 ⊢;have ln:=G.len;have tl2:=G.g.len;refine⟨sl,rfl,⟨_,SqL.of e4⟩,λD hD=>Co (K:=K) (a:=sl) (xs:=(R.map (·.1.1)).map V.str) (λj σ ys H5=>∃(u:Option V) (qs:List Addr),σ=[u,some (.ref th)]/\ys=qs.map V.ref/\Same H4 H5/\H5 D=some (.lst ys)/\TiesAt H5 qs ((R.take j).map (·.1))) ⟨none,[],rfl,rfl,Ac hD,Ab,rfl,λi r t e=>by simp at e⟩ (λj σ ys H5 _ ⟨_,_,_,_,s,e,_⟩=>⟨SqL.of (s _ _ e4),e⟩) ?_ ?_⟩
   ·rintro j x σ ys H5 hx ⟨u,qs,rfl,rfl,s5,d5,p5⟩;obtain⟨nm,hn,rfl⟩:=A3 hx;rw[getElem?_map] at hn;obtain⟨y,ey,rfl⟩:=map_eq_some_iff.mp hn;have ym:y∈R:=mem_of_getElem? ey;have hin:(Dn (psK ps) (Sum.inr y.1.1)).isSome=true:=by
     rw[Sm,Qa4];exact pn.mem_iff.mpr (mem_map.mpr ⟨y,ym,rfl⟩)
    obtain⟨v,hv⟩:=Qd5.mp hin;obtain⟨p,hp,pe,rfl⟩:=ps_val hv;have pt:p.1=y.1:=by
     have:p.1∈R.map (·.1):=G.pm.mem_iff.mpr (by rw[<-fs];exact mem_map.mpr ⟨p,hp,rfl⟩);obtain⟨z,hz,e⟩:=mem_map.mp this;rw[<-e] at pe ⊢;rw[G9 G.g.nd ym hz pe]
    have h5:=s5 _ _ (T4.2 p hp);rw[pt] at h5;have ql:qs.length<=60:=by
     rw[p5.1,If,Qb0];omega
    have kp:∀(r:Addr) (zs:List V) (o:HO),H5 r=some (.tup zs)->upd H5 D o r=some (.tup zs):=λr zs o e=>by rw[Al (Bx e d5 (by intro z;cases z))];exact e
    refine⟨_,rfl,_,rfl,th,_,rfl,.inl ⟨_,.inr y.1.1,.inl (s5 _ _ T4.1),rfl,hv.symm⟩,d5,An (by rw[If];omega),_,qs++[p.2],rfl,by rw[map_append];rfl,Aw s5 hD,Ab,?_⟩;rw[A9 ey,map_append];exact Ho (El p5 λr xs e=>kp _ _ _ e) (kp _ _ _ h5)
   rintro σ ys H5 ⟨u,qs,rfl,rfl,s5,d5,p5⟩;rw[If,If,Qb3] at p5;refine⟨D,_,rfl,.inl ⟨SqL.of d5,λtq htq=> ?_⟩⟩;exact k tq _ (s4.trans (s5.trans (Ac htq))) ⟨qs,Ab,El p5 λr zs e=>Ac htq _ _ e⟩
theorem Y0{v:Int}{n:Nat}(h0:0<=v)(h1:v<(n:Int)):PySem.seqIndex? v n=some v.toNat:=by
 unfold PySem.seqIndex?;dsimp only;rw[Qa2 (show ¬v<0 by omega)];simp[h0,h1]
theorem K4{α β:Type}(f:α->β):∀(l:List α) (i:Nat),(l.map f).eraseIdx i=(l.eraseIdx i).map f
 |[],_=>rfl
 |_::_,0=>rfl
 |x::l,i+1=>by
  show f x::(l.map f).eraseIdx i=f x::(l.eraseIdx i).map f;rw[K4 f l i]
theorem DeckAt.one{H:Hp}{d c:Addr}(D:DeckAt H d c):H d≠none/\H c≠none:=by
 obtain⟨_,_,_,_,h1,h2,_⟩:=D;exact⟨(by rw[h1];intro z;cases z),(by rw[h2];intro z;cases z)⟩
theorem Ci{H:Hp}{d c x:Addr}(D:DeckAt H d c)(h:H x=none):x≠d/\x≠c:=⟨λe=>D.one.1 (e▸h),λe=>D.one.2 (e▸h)⟩
structure HSt(d c nm th dl:Addr)(N:Nat)(zs:List Str)(rs:List Addr)(ds:List Dd)(H:Hp):Prop where
 dk:DeckAt H d c
 hn:H nm=some (.lst (zs.map V.str))
 ht:H th=some (.lst (((thr ds).map (·.1)).map V.str))
 hr:H dl=some (.lst (rs.map V.ref))
 dd:DdsAt H rs ds
 ok:∀(i:Nat) e,ds[i]? =some e->DdG N (thr (ds.take i)) e
structure HFx(d c nm th dl:Addr)(zs:List Str):Prop where
 n1:nm≠d
 n2:nm≠c
 t1:th≠d
 t2:th≠c
 d1:dl≠d
 d2:dl≠c
 nt:nm≠th
 nd:nm≠dl
 td:th≠dl
 z60:zs.length=60
 zn:zs.Nodup
 zo:∀z∈zs,Gc z
def M5(d c th dl:Addr)(H H':Hp):Prop:=∀b o,H b=some o->b≠d->b≠c->b≠th->b≠dl->H' b=some o
theorem M5.trans{d c th dl:Addr}{H H1 H2:Hp}(x:M5 d c th dl H H1)(y:M5 d c th dl H1 H2):M5 d c th dl H H2:=λb o e n1 n2 n3 n4=>y b o (x b o e n1 n2 n3 n4) n1 n2 n3 n4
theorem M5.but{d c th dl:Addr}{H H1:Hp}(x:But d c H H1):M5 d c th dl H H1:=λb o e n1 n2 _ _=>x b o e n1 n2
theorem M5.of{d c th dl:Addr}{H H1:Hp}(x:Same H H1):M5 d c th dl H H1:=λb o e _ _ _ _=>x b o e
theorem M5.updT{d c th dl:Addr}{H:Hp}{o:HO}:M5 d c th dl H (upd H th o):=λb u e _ _ n _=>by rw[Al n];exact e
theorem M5.updD{d c th dl:Addr}{H:Hp}{o:HO}:M5 d c th dl H (upd H dl o):=λb u e _ _ _ n=>by rw[Al n];exact e
theorem M5.tup{d c nm th dl:Addr}{N:Nat}{zs:List Str}{rs:List Addr}{ds:List Dd}{H H':Hp}(m:M5 d c th dl H H')(I:HSt d c nm th dl N zs rs ds H){r:Addr}{xs:List V}(e:H r=some (.tup xs)):H' r=some (.tup xs):=by
 obtain⟨_,_,_,_,h1,h2,_⟩:=I.dk;exact m r _ e (Bx e h1 (by intro z;cases z)) (Bx e h2 (by intro z;cases z)) (Bx e I.ht (by intro z;cases z)) (Bx e I.hr (by intro z;cases z))
theorem Nn{H:Hp}{rs:List Addr}{ds:List Dd}{r:Addr}{e:Dd}(h:DdsAt H rs ds)(hr:H r=some (.tup e.vs)):DdsAt H (rs++[r]) (ds++[e]):=by
 refine⟨by rw[Qa0,Qa0,h.1];rfl,λi r0 p0 e1 e2=> ?_⟩;rw[getElem?_append] at e1 e2;rw[h.1] at e1;split at e1
 ·rename_i z;rw[Qa3 z] at e2;exact h.2 i r0 p0 e1 e2
 ·rename_i z;rw[Qa2 z] at e2;have hz:i - ds.length=0:=by
   have:=(List.getElem?_eq_some_iff.mp e1).1;simp only[Qa6,Qb9] at this;omega
  rw[hz] at e1 e2;cases e1;cases e2;exact hr
theorem Q4{N:Nat}{ds:List Dd}{e:Dd}(h:∀(i:Nat) e,ds[i]? =some e->DdG N (thr (ds.take i)) e)(g:DdG N (thr ds) e):∀(i:Nat) e',(ds++[e])[i]? =some e'->DdG N (thr ((ds++[e]).take i)) e':=λi e' q=>by
 rw[getElem?_append] at q;split at q
 ·rename_i z;rw[List.take_append_of_le_length (le_of_lt z)];exact h i e' q
 ·rename_i z;have hz:i - ds.length=0:=by
   have:=(List.getElem?_eq_some_iff.mp q).1;simp only[Qa6,Qb9] at this;omega
  rw[hz] at q;cases q;have:i=ds.length:=by omega
  rw[this,List.take_left];exact g
theorem Lw:∀(l:List Str) (i:Nat) (hi:i<l.length),l.Nodup->l.eraseIdx i=l.filter λm=>decide (m≠l[i])
 |x::l,0,_,nd=>by
  rw[Qd2] at nd;show l=_;rw[List.getElem_cons_zero,Qc2 (by simp)];refine(filter_eq_self.mpr λy hy=> ?_).symm;exact decide_eq_true λz=>nd.1 (z▸hy)
 |x::l,i+1,hi,nd=>by
  rw[Qd2] at nd;have hj:i<l.length:=by simpa using hi
  show x::l.eraseIdx i=_;rw[Lw l i hj nd.2,List.getElem_cons_succ,Qc1];exact decide_eq_true λz=>nd.1 (z▸getElem_mem hj)
theorem Vp{S:List T4}(nd:(S.map (·.1)).Nodup){i:Nat}(hi:i<S.length):(S.map (·.1)).eraseIdx i=(S.filter λt=>decide (t.1≠S[i].1)).map (·.1):=by
 rw[Jf,Lw _ i (by rw[If];exact hi) nd,getElem_map]
theorem Sy{zs ts:List Str}(nd:zs.Nodup)(h:ts.length<zs.length):(zs.filter λz=> !decide (z∈ts))≠[]:=λe=>by
 rw[List.filter_eq_nil_iff] at e;have:zs.length<=ts.length:=Nodup.length_le_of_subset nd λz hz=>by
  have:=e z hz;simpa using this
 omega
def hsl(d nm th dl:Addr)(N j:Nat)(mo:V)(m ch:Int)(u9 u10 u11:Option V):St:=[some (.ref d),some (.int (N:Int)),some mo,some (.ref nm),some (.ref th),some (.ref dl),some (.int m),some (.int ch),some (.int ((0:Int)+(j:Int))),u9,u10,u11]
def tCome:TS:=λD σ H=>∃(d c nm th dl:Addr) (N j:Nat) (zs:List Str) (rs:List Addr) (ds:List Dd) (mo:V) (m ch:Int) (u9 u10 u11:Option V),σ=[some (.ref d),some (.int (N:Int)),some mo,some (.ref nm),some (.ref th),some (.ref dl),some (.int m),some (.int ch),some (.int ((0:Int)+(j:Int))),u9,u10,u11]/\HFx d c nm th dl zs/\2<=N/\N<=24/\HSt d c nm th dl N zs rs ds H/\ds.length=j/\j<60/\ch<=(N:Int) - 1/\
 ∀(u9 u10 u11:Option V) (r:Addr) (e:Dd) (H':Hp),M5 d c th dl H H'->HSt d c nm th dl N zs (rs++[r]) (ds++[e]) H'->D.nx (hsl d nm th dl N j mo m ch u9 u10 u11) H'
def tApp:TS:=λD σ H=>∃(d c nm th dl lf ee:Addr) (N j p q:Nat) (zs fs:List Str) (rs:List Addr) (ds:List Dd) (mo:V) (m ch:Int) (u10:Option V),σ=[some (.ref d),some (.int (N:Int)),some mo,some (.ref nm),some (.ref th),some (.ref dl),some (.int m),some (.int ch),some (.int ((0:Int)+(j:Int))),some (.ref lf),u10,some (.ref ee)]/\HFx d c nm th dl zs/\HSt d c nm th dl N zs rs ds H/\ds.length=j/\j<60/\
 (H lf=some (.lst (fs.map V.str))/\lf≠d/\lf≠c/\fs≠[]/\fs.length<=60/\∀n∈fs,n∈zs/\n ∉ (thr ds).map (·.1))/\H ee=some (.tup [.int (p:Int),.int (q:Int)])/\p<N/\q<N/\p≠q/\
 ∀(u9 u10 u11:Option V) (r:Addr) (e:Dd) (H':Hp),M5 d c th dl H H'->HSt d c nm th dl N zs (rs++[r]) (ds++[e]) H'->D.nx (hsl d nm th dl N j mo m ch u9 u10 u11) H'
theorem dd_ok{N:Nat}{S:List T4}{d:Dd}(h:DdG N S d):DdOk N S d:=by
 cases d with
 |come m t=>exact⟨h.1,h.2.1⟩
 |go m n=>exact h
theorem Us{N:Nat}{ds:List Dd}(h:∀(i:Nat) e,ds[i]? =some e->DdG N (thr (ds.take i)) e):∀i,i<=ds.length->U1 N (thr (ds.take i))
 |0,_=>⟨nodup_nil,by simp[thr]⟩
 |i+1,hi=>by
  have e:=Cb (l:=ds) (i:=i) (by omega);rw[A9 e,Dt];exact Ye (Us h i (by omega)) (dd_ok (h i _ e))
theorem O0(ns:List Int){v:Int}(h0:0<=v)(h1:v<(ns.length:Int)):∃m,atI (ns.map V.int) v=some (.int m):=by
 obtain⟨v,rfl⟩:∃n:Nat,v=(n:Int):=⟨v.toNat,by omega⟩
 have hv:v<ns.length:=by omega
 exact⟨ns[v],Ai (by rw[getElem?_map,getElem?_eq_getElem hv];rfl)⟩
def U5:Sp:=λvs H Q _=>∃(d c:Addr) (N M:Nat),vs=[.ref d,.int (N:Int),.int (M:Int)]/\DeckAt H d c/\1<=N/\N<=24/\M<=60/\∀(h:Addr) (ds:List Dd) (H':Hp),But d c H H'->DeckAt H' d c->HistAt H' h N ds->HG N ds->Q (.ref h) H'
theorem scHist:Ax ["_law_deck_here","_law_many_here","_law_most","_law_names_here","_law_there","_law_deeds","_law_moment","_law_chain","_law_k","_law_left","_law_one","_law_ends"] ["_law_deck_here","_law_many_here","_law_most"] (Ah Rn):=⟨rfl,rfl,rfl,by decide+kernel,rfl,by decide+kernel,by decide+kernel⟩
theorem Zv{f:Addr}{fd:FuncData}(F:Fun K "_law_history" "_law_history" Rn f fd)(T:Txt mg)(GNames:Cl P w K mg base 3 "_law_names" ["_law_deck_here","_law_many_here"] Rc)(GTake:Cl P w K mg base 3 "_law_take" ["_law_deck_here","_law_most"] Gf)(GWeight:Cl P w K mg base 3 "_law_weight" ["_law_deck_here"] O1):
  FnOk P w K mg base CX0 4 f fd ["_law_deck_here","_law_many_here","_law_most"] U5:=by
 refine F.ok scHist (λvs H Q E h=> ?_) (λcdv A outer s H vs Q E hr h=> ?_)
 ·obtain⟨_,_,_,_,rfl,_⟩:=h;rfl
 ·obtain⟨d,c,N,M,rfl,hD,N1,N24,M60,k⟩:=h;refine⟨_,Ae (Ao (i:=3) scHist.nd rfl (Or.inl rfl) (Au GNames hr (Aa (pv 0) (Aa Af Ad))))
   (Ae (Ao (i:=4) scHist.nd rfl (Or.inr rfl) (Bq Ad))
   (Ae (Ao (i:=5) scHist.nd rfl (Or.inl rfl) (Bq Ad))
   (Ae (Ao (i:=6) scHist.nd rfl (Or.inl rfl) (Aq A4 (Bq (Aa Af (Aa Af (Aa (A0 P4 (A0 Hj Af Af) Af) (Aa (A0 Hj Af Af) Ad))))) (Au GTake hr (Aa (pv 0) (Aa Af Ad))) (λ_ _=>rfl)))
   (Ae (Ao (i:=7) scHist.nd rfl (Or.inl rfl) (A0 D8 (A0 P4 (pv 1) Af) (A6 Dr (by rfl) T.int (by decide+kernel) (Aa (Bg Bl (Au GTake hr (Aa (pv 0) (Aa Af Ad))) Af (Ar _)) Ad))))
   (Ae (Ct PassesOwn.never rfl (Cg rfl T.range (Aa (A0 D8 (pv 2) (A6 Dr (by rfl) T.int (by decide+kernel) (Aa (Bg Ny (pv 1) Af (Ar _)) Ad))) Ad)) (Aj (i:=8) scHist.nd rfl (Or.inl rfl)) (Ae (Ao (i:=6) scHist.nd rfl (Or.inl rfl) (Ay (Lh rfl) (by rfl) T.min (by decide+kernel) (Aa (A0 Hj Af Af) (Aa (A0 Bo (pv 6) (Aq A4 (Bq (Aa Af (Aa Af (Aa Af (Aa Af (Aa Af (Aa Af Ad))))))) (Au GTake hr (Aa (pv 0) (Aa Af Ad))) (λ_ _=>rfl))) Ad))))
   (Ag (Be (PW.pt (Fs (As R9 (pv 8) (pv 7) (Ar _)) (Fs (As (Oy hr.units) (pv 4) (Bq Ad) (Ar _)) (Ep (PW.pt (Qq (As R9 (Ay A8 (by rfl) T.len PySem.boot_len (Aa (pv 4) Ad)) Af (Ar _)) (Mp (As Ny (Au GTake hr (Aa (pv 0) (Aa Af Ad))) Af (Ar _))))))))) (PSs.imp' (t':=tCome) (Ae (Dz (i:=9) (T:=["_law_name"]) (F:=["_law_there"]) (js:=[4]) scHist.nd rfl (Or.inl rfl) (cs (osc:=Ah Rn)) rfl (Cr (pv 3)) (λ_ _ _ _ _=>Aj (i:=0) (show (["_law_name","_law_there"]:List Str).Nodup by decide+kernel) rfl (Or.inl rfl)) (λ_ _ _ _ _=>Cs (As (r:=rIn K true) Gm (pv 0) (pv 1) (by rfl))) (λ_ _ _ _ _=>pv 0))
   (Ae (Ao (i:=10) scHist.nd rfl (Or.inl rfl) (Au GTake hr (Aa (pv 0) (Aa (pv 1) Ad))))
   (Ae (Ao (i:=11) scHist.nd rfl (Or.inl rfl) (A5 (Aa (pv 10) (Aa (A0 Dh (A0 Bo (A0 Bo (pv 10) Af) (Au GTake hr (Aa (pv 0) (Aa (A0 P4 (pv 1) Af) Ad)))) (pv 1)) Ad))))
   (Ae (Be (As R9 (pv 8) (pv 7) (Ar _)) (Ag (Ao (i:=11) scHist.nd rfl (Or.inl rfl) (A5 (Aa (pv 8) (Aa (A0 Bo (pv 8) Af) Ad))))) A2)
   (PSs.imp' (t':=tApp) (Ae (Cn (Dk Qb7 PySem.F.slot_list_append PySem.F.type_list_append Bw (pv 4) (Aa (Aq A4 (pv 9) (Au GTake hr (Aa (pv 0) (Aa (Ay (Lh rfl) (by rfl) T.min (by decide+kernel) (Aa Af (Aa (Ay A8 (by rfl) T.len PySem.boot_len (Aa (pv 9) Ad)) Ad))) Ad))) (λ_ _=>rfl)) Ad)))
   (Ag (Cn (Dk Qb7 PySem.F.slot_list_append PySem.F.type_list_append Bw (pv 5) (Aa (A0 Ef (A0 Ef (A5 (Aa Ba (Aa (pv 6) (Aa (Aq A4 (pv 4) (Ki Fy Af) (λ_ _=>rfl)) Ad)))) (pv 11)) (A5 (Aa (Au GWeight hr (Aa (pv 0) Ad)) Ad))) Ad))))) ?app))))) ?come) (Ag (Cn (Dk Qb7 PySem.F.slot_list_append PySem.F.type_list_append Bw (pv 5) (Aa (A5 (Aa Ba (Aa (pv 6) (Aa (Dk Qb7 slot_list_pop type_list_pop M9 (pv 4) (Aa (Au GTake hr (Aa (pv 0) (Aa (Ay A8 (by rfl) T.len PySem.boot_len (Aa (pv 4) Ad)) Ad))) Ad)) Ad)))) Ad))))))))
   (Ag (Ap (A5 (Aa (pv 1) (Aa (A6 A7 (by rfl) T.tuple (by decide+kernel) (Aa (pv 5) Ad)) Ad)))))))))),?_⟩
  case app=>
   clear k hD;rintro D σ H ⟨d,c,nm,th,dl,lf,ee,N,j,p,q,zs,fs,rs,ds,mo,m,ch,u10,rfl,X,I,lj,j60,⟨hf,f1,f2,fn,f60,fo⟩,he,hp,hq,pq,k⟩;have fl:0<fs.length:=List.length_pos_iff.mpr fn;obtain⟨W,hW,W1,W2⟩:∃W:Nat,(if ((fs.map V.str).length:Int)<4 then ((fs.map V.str).length:Int) else 4)=(W:Int)/\1<=W/\W<=fs.length:=by
    rw[If];split
    ·exact⟨fs.length,rfl,fl,le_refl _⟩
    ·exact⟨4,rfl,by decide,by omega⟩
   have tl:(thr ds).length<=ds.length:=by have:=Er ds ds.length;rwa [Qb3] at this
   have lr:=I.dd.1;refine⟨_,rfl,.inl ⟨rfl,_,SqL.of I.ht⟩,_,rfl,_,rfl,_,rfl,lf,_,rfl,.inl (SqL.of hf),_,_,rfl,?_⟩;rw[hW];refine⟨d,c,_,rfl,I.dk,by omega,by omega,λv H1 v0 v1 b1 D1=> ?_⟩;obtain⟨v,rfl⟩:∃n:Nat,v=(n:Int):=⟨v.toNat,by omega⟩
   have hv:v<fs.length:=by omega
   have ey:atI (fs.map V.str) (v:Int)=some (.str fs[v]):=Ai (by rw[getElem?_map,getElem?_eq_getElem hv];rfl);have hy:=fo _ (getElem_mem hv);generalize fs[v]=y at ey hy;have th1:=b1 _ _ I.ht X.t1 X.t2;refine⟨lf,_,(v:Int),_,rfl,rfl,SqL.of (b1 _ _ hf f1 f2),ey,th,_,_,rfl,rfl,th1,An (by rw[If,If];omega),?_⟩;have m2:M5 d c th dl H (upd H1 th (.lst (((thr ds).map (·.1)).map V.str++[.str y]))):=(M5.but b1).trans .updT;have t2:upd H1 th (.lst (((thr ds).map (·.1)).map V.str++[.str y])) th=some (.lst (((thr ds).map (·.1)++[y]).map V.str)):=by rw[Ab,map_append (l₂:=[y])];rfl
   have w2:=D1.set (o:= .lst (((thr ds).map (·.1)).map V.str++[.str y])) X.t1 X.t2;have n2:upd H1 th (.lst (((thr ds).map (·.1)).map V.str++[.str y])) nm=some (.lst (zs.map V.str)):=by rw[Al X.nt];exact b1 _ _ I.hn X.n1 X.n2
   have r2:upd H1 th (.lst (((thr ds).map (·.1)).map V.str++[.str y])) dl=some (.lst (rs.map V.ref)):=by rw[Al X.td.symm];exact b1 _ _ I.hr X.d1 X.d2
   have e2:=m2.tup I he;generalize upd H1 th (.lst (((thr ds).map (·.1)).map V.str++[.str y]))=H2 at m2 t2 w2 n2 r2 e2 ⊢;have al:atI (((thr ds).map (·.1)++[y]).map V.str) (-1)=some (.str y):=by rw[map_append];exact Ry
   refine⟨_,rfl,.inl ⟨rfl,_,SqL.of r2⟩,_,rfl,_,rfl,_,rfl,th,_,_,_,rfl,rfl,SqL.of t2,al,small (by simp),λu hu=> ?_⟩;have s3:=Ac (o:= .tup [.str "come",.int m,.str y]) hu;have u3:=Ab (H:=H2) (a:=u) (o:= .tup [.str "come",.int m,.str y]);generalize upd H2 u (.tup [.str "come",.int m,.str y])=H3 at s3 u3;refine⟨_,rfl,u,ee,_,_,rfl,rfl,SqT.of u3,SqT.of (s3 _ _ e2),small (by simp),(λz=>by cases z),(λ_ z=>by cases z),λ_ _ r hr'=> ?_⟩;have s4:=s3.trans (Ac (o:= .tup ([.str "come",.int m,.str y]++[.int (p:Int),.int (q:Int)])) hr');have r4:=Ab (H:=H3) (a:=r) (o:= .tup ([.str "come",.int m,.str y]++[.int (p:Int),.int (q:Int)]));refine⟨_,rfl,d,c,rfl,w2.same s4,λwt H5 w0 w1 b5 D5=>⟨small (by simp),λt ht=> ?_⟩⟩;have r5:=b5.tup (w2.same s4) r4;have s6:=Ac (o:= .tup [.int wt]) ht;have t6:=Ab (H:=H5) (a:=t) (o:= .tup [.int wt]);have r6:=s6 _ _ r5;refine⟨r,t,_,_,rfl,rfl,SqT.of r6,SqT.of t6,small (by simp),(λz=>by cases z),(λ_ z=>by cases z),λ_ _ x hx=> ?_⟩;have s7:=s6.trans (Ac (o:= .tup (([.str "come",.int m,.str y]++[.int (p:Int),.int (q:Int)])++[.int wt])) hx);have x7:=Ab (H:=upd H5 t (.tup [.int wt])) (a:=x) (o:= .tup (([.str "come",.int m,.str y]++[.int (p:Int),.int (q:Int)])++[.int wt]));have M7:M5 d c th dl H _:=((m2.trans (.of s4)).trans (.but b5)).trans (.of s7);have l7:=s7 _ _ (b5 _ _ (s4 _ _ r2) X.d1 X.d2);refine⟨dl,_,_,rfl,rfl,l7,An (by rw[If];omega),k _ _ _ x (.come m (y,p,q,wt)) _ (M7.trans .updD) ?_⟩;have tp:∀{r:Addr} {xs:List V} {H':Hp} {o:HO},H' dl=some (.lst (rs.map V.ref))->H' r=some (.tup xs)->upd H' dl o r=some (.tup xs):=λ{r xs H' o} e1 e=>by rw[Al (Bx e e1 (by intro z;cases z))];exact e
   exact{
    dk:=(D5.same s7).set X.d1 X.d2
    hn:=by rw[Al X.nd];exact s7 _ _ (b5 _ _ (s4 _ _ n2) X.n1 X.n2)
    ht:=by
     rw[Al X.td,Dt];have:=s7 _ _ (b5 _ _ (s4 _ _ t2) X.t1 X.t2);rw[this];show _=some (HO.lst (((thr ds++[(y,p,q,wt)]).map (·.1)).map V.str));rw[map_append (l₂:=[(y,p,q,wt)])];rfl
    hr:=by rw[Ab,map_append (l₂:=[x])];rfl
    dd:=Nn (I.dd.mono λr xs e=>(M7.trans .updD).tup I e) (tp l7 x7)
    ok:=Q4 I.ok ⟨hy.2,⟨hp,hq,pq⟩,X.zo _ hy.1,⟨w0,w1⟩,by omega⟩}
  case come=>
   clear k hD;rintro D σ H ⟨d,c,nm,th,dl,N,j,zs,rs,ds,mo,m,ch,u9,u10,u11,rfl,X,N2,N24,I,lj,j60,hc,k⟩;have tl:(thr ds).length<=ds.length:=by have:=Er ds ds.length;rwa [Qb3] at this
   refine⟨_,rfl,nm,rfl,⟨_,SqL.of I.hn⟩,λF hF=>Co (K:=K) (a:=nm) (xs:=zs.map V.str) (λi σ ys H2=>∃u:Option V,σ=[u,some (.ref th)]/\ys=((zs.take i).filter λz=> !decide (z∈(thr ds).map (·.1))).map V.str/\Same H H2/\H2 F=some (.lst ys)) ⟨none,rfl,rfl,Ac hF,Ab⟩ (λi σ ys H2 _ ⟨_,_,_,s,e⟩=>⟨SqL.of (s _ _ I.hn),e⟩) ?_ ?_⟩
   ·rintro i x σ ys H2 hx ⟨u,rfl,rfl,s2,d2⟩;obtain⟨z,hz,rfl⟩:=A3 hx;have fs:(zs.take (i+1)).filter (λz=> !decide (z∈(thr ds).map (·.1)))=(zs.take i).filter (λz=> !decide (z∈(thr ds).map (·.1)))++(if (!decide (z∈(thr ds).map (·.1)))=true then [z] else []):=by rw[A9 hz,filter_append,Qf0,Qe9]
    have fl:((zs.take i).filter λz=> !decide (z∈(thr ds).map (·.1))).length<=60:=by
     have:=Qb2 (λz=> !decide (z∈(thr ds).map (·.1))) (zs.take i);rw[Qb0,X.z60] at this;omega
    refine⟨_,rfl,_,rfl,th,_,rfl,.inl (SqL.of (s2 _ _ I.ht)),rfl,Ln _,_,rfl,?_⟩;rw[show (if true=true then !inV (V.str z) (((thr ds).map (·.1)).map V.str) else inV (V.str z) (((thr ds).map (·.1)).map V.str))= !decide (z∈(thr ds).map (·.1)) from by rw[Qa3 rfl,Gz]];refine Bz (λg=> ?_) λg=> ?_
    ·exact⟨_,rfl,d2,An (by rw[If];omega),_,rfl,by rw[fs,Qa3 g,map_append];rfl,Aw s2 hF,Ab⟩
    ·exact⟨_,rfl,by rw[fs,Qa2 g,Qc4],s2,d2⟩
   rintro σ ys H2 ⟨u,rfl,rfl,s2,F2⟩;rw[If,Qb3] at F2;clear u;have fF:=Ci I.dk hF;have ft:∀n∈zs.filter (λz=> !decide (z∈(thr ds).map (·.1))),n∈zs/\n ∉ (thr ds).map (·.1):=λn hn=>by
    obtain⟨a,b⟩:=mem_filter.mp hn;exact⟨a,by simpa using b⟩
   have fe:=Sy (ts:=(thr ds).map (·.1)) X.zn (by rw[If,X.z60];omega);have fc:(zs.filter λz=> !decide (z∈(thr ds).map (·.1))).length<=60:=by rw[<-X.z60];exact Qb2 _ _
   generalize zs.filter (λz=> !decide (z∈(thr ds).map (·.1)))=fs at F2 ft fe fc;refine⟨_,rfl,_,rfl,d,c,_,rfl,I.dk.same s2,by omega,by omega,λv H3 v0 v1 b3 D3=> ?_⟩;refine⟨_,rfl,_,rfl,_,_,rfl,rfl,_,rfl,_,rfl,_,_,rfl,rfl,d,c,_,rfl,D3,by omega,by omega,λw H4 w0 w1 b4 D4=>⟨_,_,rfl,rfl,_,rfl,_,_,rfl,rfl,by omega,small (by simp),λe he=> ?_⟩⟩;have M4:M5 d c th dl H H4:=(M5.of s2).trans ((M5.but b3).trans (.but b4));have F4:=b4 _ _ (b3 _ _ F2 fF.1 fF.2) fF.1 fF.2;have I4:∀{H':Hp},Same H4 H'->HSt d c nm th dl N zs rs ds H':=λs=>⟨D4.same s,s _ _ (b4 _ _ (b3 _ _ (s2 _ _ I.hn) X.n1 X.n2) X.n1 X.n2),s _ _ (b4 _ _ (b3 _ _ (s2 _ _ I.ht) X.t1 X.t2) X.t1 X.t2),s _ _ (b4 _ _ (b3 _ _ (s2 _ _ I.hr) X.d1 X.d2) X.d1 X.d2),I.dd.mono λr xs e=>s _ _ (M4.tup I e),I.ok⟩
   obtain⟨p,rfl⟩:∃p:Nat,v=(p:Int):=⟨v.toNat,by omega⟩
   obtain⟨t,rfl⟩:∃t:Nat,w=(t:Int):=⟨w.toNat,by omega⟩
   have pN:p<N:=by omega
   have tN:t<N - 1:=by omega
   have eq:(((p:Int)+1+(t:Int)) % (N:Int))=(((p+1+t) % N:Nat):Int):=by rw[Int.natCast_emod,Int.natCast_add,Int.natCast_add];rfl
   have qN:(p+1+t) % N<N:=Nat.mod_lt _ (by omega);have pq:p≠(p+1+t) % N:=by
    rcases lt_or_ge (p+1+t) N with z|z
    ·rw[Nat.mod_eq_of_lt z];omega
    ·rw[Nat.mod_eq_sub_mod z,Nat.mod_eq_of_lt (by omega)];omega
   have s5:=Ac (o:= .tup [.int (p:Int),.int (((p:Int)+1+(t:Int)) % (N:Int))]) he;have e5:upd H4 e (.tup [.int (p:Int),.int (((p:Int)+1+(t:Int)) % (N:Int))]) e=some (.tup [.int (p:Int),.int (((p+1+t) % N:Nat):Int)]):=by rw[Ab,eq]
   refine⟨_,rfl,_,rfl,_,_,rfl,rfl,_,rfl,Bz (λg=> ?_) λg=> ?_⟩
   ·have g:(0:Int)+(j:Int)<ch:=Qb1 g;refine⟨_,rfl,_,rfl,_,_,rfl,rfl,small (by simp),λe2 he2=> ?_⟩;have s6:=s5.trans (Ac (o:= .tup [.int ((0:Int)+(j:Int)),.int ((0:Int)+(j:Int)+1)]) he2);have e6:upd (upd H4 e (.tup [.int (p:Int),.int (((p:Int)+1+(t:Int)) % (N:Int))])) e2 (.tup [.int ((0:Int)+(j:Int)),.int ((0:Int)+(j:Int)+1)]) e2=some (.tup [.int (j:Int),.int ((j+1:Nat):Int)]):=by
     rw[Ab,show (0:Int)+(j:Int)=(j:Int) by omega,show (j:Int)+1=((j+1:Nat):Int) by omega]
    exact⟨d,c,nm,th,dl,F,e2,N,j,j,j+1,zs,fs,rs,ds,mo,m,ch,_,rfl,X,I4 s6,lj,j60,⟨s6 _ _ F4,fF.1,fF.2,fe,fc,ft⟩,e6,by omega,by omega,by omega,λu9 u10 u11 r e H' mm hh=>k u9 u10 u11 r e H' ((M4.trans (.of s6)).trans mm) hh⟩
   ·dsimp only[Bc];exact⟨d,c,nm,th,dl,F,e,N,j,p,(p+1+t) % N,zs,fs,rs,ds,mo,m,ch,_,rfl,X,I4 s5,lj,j60,⟨s5 _ _ F4,fF.1,fF.2,fe,fc,ft⟩,e5,pN,qN,pq,λu9 u10 u11 r e H' mm hh=>k u9 u10 u11 r e H' ((M4.trans (.of s5)).trans mm) hh⟩
  refine⟨_,rfl,d,c,60,rfl,hD,by decide,λnm zs H1 b1 D1 hnn hn1 zl zn zo=> ?_⟩;have nf:=Ci hD hnn;refine⟨small (by simp),λth hth=> ?_⟩;have tf:=Ci D1 hth;have tn:=b1.none hD D1 hth;have s2:=Ac (o:= .lst []) hth;have t2:=Ab (H:=H1) (a:=th) (o:= .lst []);have D2:=D1.same s2;have b2:=b1.trans (But.of s2);have n2:=s2 _ _ hn1;have ntn:nm≠th:=Av hn1 hth;generalize upd H1 th (.lst [])=H2 at s2 t2 D2 b2 n2 ⊢;refine⟨small (by simp),λdl hdl=> ?_⟩;have df:=Ci D2 hdl;have dn:=b2.none hD D2 hdl;have s3:=Ac (o:= .lst []) hdl;have d3:=Ab (H:=H2) (a:=dl) (o:= .lst []);have D3:=D2.same s3;have b3:=b2.trans (But.of s3);have n3:=s3 _ _ n2;have t3:=s3 _ _ t2;have ndn:nm≠dl:=Av n2 hdl;have tdn:th≠dl:=Av t2 hdl;generalize upd H2 dl (.lst [])=H3 at s3 d3 D3 b3 n3 t3 ⊢;have X:HFx d c nm th dl zs:=⟨nf.1,nf.2,tf.1,tf.2,df.1,df.2,ntn,ndn,tdn,zl,zn,zo⟩
  have I3:HSt d c nm th dl N zs [] [] H3:=⟨D3,n3,t3,d3,⟨rfl,λi r e h=>by simp at h⟩,λi e h=>by simp at h⟩
  have Ib:∀{rs:List Addr} {ds:List Dd} {H H':Hp},But d c H H'->DeckAt H' d c->HSt d c nm th dl N zs rs ds H->HSt d c nm th dl N zs rs ds H':=λb D I=>⟨D,b _ _ I.hn X.n1 X.n2,b _ _ I.ht X.t1 X.t2,b _ _ I.hr X.d1 X.d2,I.dd.mono λr xs e=>b.tup I.dk e,I.ok⟩
  refine⟨_,_,rfl,rfl,⟨by decide,by decide,by decide⟩,_,_,rfl,rfl,_,_,rfl,rfl,⟨by decide,by decide,by decide⟩,small (by simp),λl hl=>⟨_,rfl,d,c,4,rfl,D3.same (Ac hl),by decide,by decide,λv H4 v0 v1 b4 D4=> ?_⟩⟩;have l4:=b4 _ _ Ab (Ci D3 hl).1 (Ci D3 hl).2;obtain⟨m0,hm0⟩:=O0 [0,5,10 ^ toNat 9 - 40,10 ^ toNat 9] v0 v1;refine⟨l,_,v,_,rfl,rfl,SqL.of l4,hm0,?_⟩;have b4':But d c H3 H4:=(But.of (Ac hl)).trans b4;have I4:=Ib b4' D4 I3;have B4:=b3.trans b4';clear l4 hm0 b4' b4 hl;refine⟨_,rfl,_,_,rfl,rfl,_,rfl,d,c,8,rfl,D4,by decide,by decide,λv5 H5 _ _ b5 D5=>⟨rfl,.inr ⟨_,rfl,_,_,rfl,rfl,.inl ⟨by omega,by omega⟩,?_⟩⟩⟩;have I5:=Ib b5 D5 I4;have B5:=B4.trans b5;have hc:((N:Int) - 1) * (if decide (V.int v5=V.int 1)=true then (1:Int) else 0)<=(N:Int) - 1:=by split<;> omega
  obtain⟨gr,hgr,g01⟩:∃gr:Int,(if decide ((1:Int)<(N:Int))=true then (1:Int) else 0)=gr/\(gr=0\/(gr=1/\2<=N)):=by
   refine⟨_,rfl,?_⟩;split
   ·rename_i z;have:=Qb1 z;exact .inr ⟨rfl,by omega⟩
   ·exact .inl rfl
  have jm:(M:Int) * (if decide ((1:Int)<(N:Int))=true then (1:Int) else 0)<=60/\0<=(M:Int) * (if decide ((1:Int)<(N:Int))=true then (1:Int) else 0):=by
   rw[hgr];rcases g01 with z|⟨z,_⟩<;> rw[z]<;> omega
  refine⟨_,rfl,_,rfl,_,_,rfl,rfl,.inr ⟨_,rfl,_,_,rfl,rfl,.inl ⟨by omega,by omega⟩,_,rfl,by omega,by omega,Hr (lo:=0) (n:=((M:Int) * (if decide ((1:Int)<(N:Int))=true then (1:Int) else 0)).toNat) (λj σ H'=>∃(rs:List Addr) (ds:List Dd) (m ch:Int) (u8 u9 u10 u11:Option V),σ=[some (.ref d),some (.int (N:Int)),some (.int (M:Int)),some (.ref nm),some (.ref th),some (.ref dl),some (.int m),some (.int ch),u8,u9,u10,u11]/\ch<=(N:Int) - 1/\But d c H H'/\HSt d c nm th dl N zs rs ds H'/\ds.length=j) ⟨[],[],m0,_,none,none,none,none,rfl,hc,B5,I5,rfl⟩ ?_ ?_⟩⟩
  ·rintro j σ H6 hj ⟨rs,ds,m,ch,u8,u9,u10,u11,rfl,hch,b6,I6,lj⟩;have N2:2<=N:=by
    rw[hgr] at hj;rcases g01 with z|⟨_,z⟩
    ·rw[z] at hj;simp at hj
    ·exact z
   have j60:j<60:=by omega
   have tl:(thr ds).length<=ds.length:=by have:=Er ds ds.length;rwa [Qb3] at this
   have lr:=I6.dd.1;have nx:∀(m':Int) (u9 u10 u11:Option V) (r:Addr) (e:Dd) (H' H'':Hp),But d c H H'->M5 d c th dl H' H''->HSt d c nm th dl N zs (rs++[r]) (ds++[e]) H''->∃(rs':List Addr) (ds':List Dd) (m2 ch2:Int) (u8 v9 v10 v11:Option V),hsl d nm th dl N j (.int (M:Int)) m' ch u9 u10 u11=[some (.ref d),some (.int (N:Int)),some (.int (M:Int)),some (.ref nm),some (.ref th),some (.ref dl),some (.int m2),some (.int ch2),u8,v9,v10,v11]/\ch2<=(N:Int) - 1/\But d c H H''/\HSt d c nm th dl N zs rs' ds' H''/\ds'.length=j+1:=λm' u9 u10 u11 r e H' H'' b mm hh=>
    ⟨rs++[r],ds++[e],m',ch,_,_,_,_,rfl,hch,λx o q n1 n2=>mm x o (b x o q n1 n2) n1 n2 (Av q tn) (Av q dn),hh,by rw[Qa0,lj];rfl⟩
   refine⟨_,_,rfl,rfl,⟨by decide,by decide,by decide⟩,_,rfl,small (by simp),λl hl=>⟨_,rfl,d,c,6,rfl,I6.dk.same (Ac hl),by decide,by decide,λv H7 v0 v1 b7 D7=> ?_⟩⟩;have lf:=Ci I6.dk hl;have l7:=b7 _ _ Ab lf.1 lf.2;obtain⟨g6,hg6⟩:=O0 [0,0,1,1,2,1000] v0 v1;refine⟨l,_,v,_,rfl,rfl,SqL.of l7,hg6,_,_,rfl,rfl,_,_,rfl,?_⟩;have I7:=Ib ((But.of (Ac hl)).trans b7) D7 I6;have B7:=b6.trans ((But.of (Ac hl)).trans b7);clear l7 hg6 lf b7 I6 b6;refine⟨_,rfl,_,rfl,_,_,rfl,rfl,_,rfl,Bz (λg=> ?_) λg=> ?_⟩
   ·exact⟨d,c,nm,th,dl,N,j,zs,rs,ds,_,_,ch,_,_,_,rfl,X,N2,N24,I7,lj,j60,hch,λu9 u10 u11 r e H'' mm hh=>nx _ u9 u10 u11 r e _ _ B7 mm hh⟩
   refine⟨_,rfl,small (by simp),λz hz=> ?_⟩;have s8:=Ac (o:= .lst []) hz;have z8:=Ab (H:=H7) (a:=z) (o:= .lst []);have I8:=Ib (But.of s8) (I7.dk.same s8) I7;have B8:=B7.trans (But.of s8);generalize upd H7 z (.lst [])=H8 at s8 z8 I8 B8 ⊢;refine⟨th,z,_,rfl,rfl,SqL.of I8.ht,SqL.of z8,_,rfl,Bz (λg2=> ?_) λg2=> ?_⟩
   ·exact⟨d,c,nm,th,dl,N,j,zs,rs,ds,_,_,ch,_,_,_,rfl,X,N2,N24,I8,lj,j60,hch,λu9 u10 u11 r e H'' mm hh=>nx _ u9 u10 u11 r e _ _ B8 mm hh⟩
   refine⟨_,rfl,th,_,rfl,.inl (SqL.of I8.ht),_,_,rfl,rfl,_,rfl,Bz (λg3=> ?_) λg3=>absurd (decide_eq_true (by rw[If,If];omega)) g3⟩;refine⟨_,rfl,d,c,5,rfl,I8.dk,by decide,by decide,λw H9 w0 w1 b9 D9=>⟨_,_,rfl,rfl,_,rfl,Bz (λg4=> ?_) λg4=> ?_⟩⟩
   ·exact⟨d,c,nm,th,dl,N,j,zs,rs,ds,_,_,ch,_,_,_,rfl,X,N2,N24,Ib b9 D9 I8,lj,j60,hch,λu9 u10 u11 r e H'' mm hh=>nx _ u9 u10 u11 r e _ _ (B8.trans b9) mm hh⟩
   have I9:=Ib b9 D9 I8;have B9:=B8.trans b9;have tpos:0<(thr ds).length:=by
    refine Nat.pos_of_ne_zero λz=>g2 ?_;rw[List.length_eq_zero_iff.mp z];rfl
   refine⟨_,rfl,.inl ⟨rfl,_,SqL.of I9.hr⟩,_,rfl,_,rfl,.inl ⟨rfl,_,SqL.of I9.ht⟩,_,rfl,_,rfl,th,_,rfl,.inl (SqL.of I9.ht),d,c,_,rfl,I9.dk,by rw[If,If];omega,by rw[If,If];omega,λx Ha x0 x1 ba Da=> ?_⟩;rw[If,If] at x1;have ta:=ba _ _ I9.ht X.t1 X.t2;have hv:x.toNat<(thr ds).length:=by omega
   have nd:((thr ds).map (·.1)).Nodup:=by have:=(Us I9.ok ds.length (le_refl _)).nd;rwa [Qb3] at this
   have er:=Vp nd hv;have my:(thr ds)[x.toNat].1∈(thr ds).map (·.1):=mem_map.mpr ⟨_,getElem_mem hv,rfl⟩;have gy:(((thr ds).map (·.1)).map V.str)[x.toNat]? =some (.str (thr ds)[x.toNat].1):=by rw[getElem?_map,getElem?_map,getElem?_eq_getElem hv];rfl
   generalize (thr ds)[x.toNat].1=y at er my gy;refine⟨th,_,x,x.toNat,.str y,rfl,rfl,ta,by omega,by omega,Y0 x0 (by rw[If,If];exact x1),gy,small (by simp),λr hr'=> ?_⟩;have em:(((thr ds).map (·.1)).map V.str).eraseIdx x.toNat=(((thr ds).filter λt=>decide (t.1≠y)).map (·.1)).map V.str:=by rw[K4,er]
   have Mb:M5 d c th dl H9 (upd Ha th (.lst ((((thr ds).map (·.1)).map V.str).eraseIdx x.toNat))):=(M5.but ba).trans .updT;have tb:upd Ha th (.lst ((((thr ds).map (·.1)).map V.str).eraseIdx x.toNat)) th=some (.lst ((((thr ds).filter λt=>decide (t.1≠y)).map (·.1)).map V.str)):=by rw[Ab,em]
   have Db:=Da.set (o:= .lst ((((thr ds).map (·.1)).map V.str).eraseIdx x.toNat)) X.t1 X.t2;have nb:upd Ha th (.lst ((((thr ds).map (·.1)).map V.str).eraseIdx x.toNat)) nm=some (.lst (zs.map V.str)):=by rw[Al X.nt];exact ba _ _ I9.hn X.n1 X.n2
   have rb:upd Ha th (.lst ((((thr ds).map (·.1)).map V.str).eraseIdx x.toNat)) dl=some (.lst (rs.map V.ref)):=by rw[Al X.td.symm];exact ba _ _ I9.hr X.d1 X.d2
   generalize upd Ha th (.lst ((((thr ds).map (·.1)).map V.str).eraseIdx x.toNat))=Hb at Mb tb Db nb rb hr' ⊢;have rr:upd Hb r (.tup (Dd.go (if m+g6<10 ^ toNat 9 then m+g6 else 10 ^ toNat 9) y).vs) r=some (.tup (Dd.go (if m+g6<10 ^ toNat 9 then m+g6 else 10 ^ toNat 9) y).vs):=Ab;have rd:=Ac (o:= .tup (Dd.go (if m+g6<10 ^ toNat 9 then m+g6 else 10 ^ toNat 9) y).vs) hr' _ _ rb;have rn:r≠dl:=Bx rr rd (by intro z;cases z);refine⟨dl,_,_,rfl,rfl,Ac hr' _ _ rb,An (by rw[If];omega),nx _ _ _ _ r (.go (if m+g6<10 ^ toNat 9 then m+g6 else 10 ^ toNat 9) y) _ _ B9 ((Mb.trans (.of (Ac hr'))).trans .updD) ?_⟩;exact{
    dk:=(Db.same (Ac hr')).set X.d1 X.d2
    hn:=by rw[Al X.nd];exact Ac hr' _ _ nb
    ht:=by rw[Al X.td,Dt];exact Ac hr' _ _ tb
    hr:=by rw[Ab,map_append (l₂:=[r])];rfl
    dd:=Nn (I9.dd.mono λr xs e=>((Mb.trans (.of (Ac hr'))).trans .updD).tup I9 e) ((Al rn).trans rr)
    ok:=Q4 I9.ok my}
  rintro σ H6 ⟨rs,ds,m,ch,u8,u9,u10,u11,rfl,hch,b6,I6,lj⟩;have dl60:ds.length<=60:=by rw[lj];omega
  refine⟨_,rfl,_,rfl,dl,_,rfl,.inl ⟨SqL.of I6.hr,λtq htq=>⟨small (by simp),λh hh=> ?_⟩⟩⟩;have s7:=(Ac (o:= .tup (rs.map V.ref)) htq).trans (Ac (o:= .tup [.int (N:Int),.ref tq]) hh);exact k h ds _ (b6.trans (But.of s7)) (I6.dk.same s7) ⟨tq,rs,Ab,Ac hh _ _ Ab,I6.dd.mono λr xs e=>s7 _ _ e⟩ ⟨N1,N24,I6.ok,dl60⟩
end K43
namespace L2
open PySem
section
variable{g:TG}{tb:TS}{D:Ga}{σ:St}{H:Hp}
theorem Ov{K:Frag}{a:Addr}{xs:List V}(Pv:Nat->St->Hp->Prop)(h0:Pv 0 σ H)(hl:∀i σ H,i<=xs.length->Pv i σ H->SqT K H a xs)(hs:∀i x σ H,xs[i]? =some x->Pv i σ H->∀E:Ga,(∀σ H,Pv (i+1) σ H->E.nx σ H)->(∀v H,D.rt v H->E.rt v H)->g x σ H λσ2 H2=>tb E σ2 H2)(hd:∀σ H,Pv xs.length σ H->D.nx σ H):
  ∃W:Nat->Nat->St->Hp->Prop,(∃m,W 0 m σ H)/\∀i m σ H,W i m σ H->
   ((Itt K a).stop i H/\D.nx σ H)\/((Itt K a).go i H/\∃N:St->Hp->Prop,(∀σ' H',N σ' H'->∃m',m'<m/\W (i+1) m' σ' H')/\∀x H',(Itt K a).yld i H x H'->g x σ H' λσ2 H2=>tb {D with nx:=N,ct:=N,bk:=D.nx} σ2 H2):=
 Ex Pv h0 hl (λi x σ H hx p=>hs i x σ H hx p _ (λ_ _ h=>h) (λ_ _ h=>h)) hd
end
end L2
namespace L2
theorem Fv{p:Prop}(h:∀G:Prop,(p->G)->G):p:=h p id
end L2
namespace L2
open PySem
section
variable{g:TG}{tb:TS}{D:Ga}{σ:St}{H:Hp}
theorem Ux{K:Frag}{a:Addr}{xs:List V}(Pv:Nat->St->Hp->Prop)(h0:Pv 0 σ H)(hl:∀i σ H,i<=xs.length->Pv i σ H->SqT K H a xs)(hs:∀i x σ H,xs[i]? =some x->Pv i σ H->let E:Ga:={D with nx:=Pv (i+1),ct:=Pv (i+1),bk:=D.nx};g x σ H λσ2 H2=>tb E σ2 H2)(hd:∀σ H,Pv xs.length σ H->D.nx σ H):
  ∃W:Nat->Nat->St->Hp->Prop,(∃m,W 0 m σ H)/\∀i m σ H,W i m σ H->
   ((Itt K a).stop i H/\D.nx σ H)\/((Itt K a).go i H/\∃N:St->Hp->Prop,(∀σ' H',N σ' H'->∃m',m'<m/\W (i+1) m' σ' H')/\∀x H',(Itt K a).yld i H x H'->g x σ H' λσ2 H2=>tb {D with nx:=N,ct:=N,bk:=D.nx} σ2 H2):=
 Ex Pv h0 hl hs hd
theorem Sx{c:TT}(Pv:Nat->St->Hp->Prop){m0:Nat}(h0:Pv m0 σ H)(hs:∀m σ H,Pv m σ H->let E:Ga:={D with nx:=λσ' H'=>∃m',m'<m/\Pv m' σ' H',ct:=λσ' H'=>∃m',m'<m/\Pv m' σ' H',bk:=D.nx};c σ H λb H1=>if b=true then tb E σ H1 else D.nx σ H1)(mono:∀σ H Q Q',(∀b H1,Q b H1->Q' b H1)->c σ H Q->c σ H Q'):Qh c tb D σ H:=
 M8 Pv h0 hs mono
end
end L2
namespace Wk
open PySem L2
def Par(N:Nat)(S:List T4)(v:Nat)(s:Int):Prop:=∃p∈lsF N S,∃ws,Lead S p ws v/\s=((ws.length % 2:Nat):Int)
theorem FL.par{N v:Nat}{S:List T4}{ws:List Str}(hS:InN N S)(hN:N<=60)(h:FL N S v ws):Par N S v ((ws.length % 2:Nat):Int):=by
 obtain⟨p,hp,hv⟩:=h;exact⟨p,hp,ws,Dp hS (Ig hp) hN hv,rfl⟩
end Wk
namespace K43
variable{P:Program}{w:World}{K:Frag}{mg:Str->Option Value}{base:Heap}
open PySem L2 Wk
def FLAt(H:Hp)(l:Addr)(N:Nat)(S:List T4):Prop:=∃as:List Addr,H l=some (.lst (as.map V.ref))/\as.length=N/\∀(v:Nat) a,as[v]? =some a->∃ws,H a=some (.tup (ws.map V.str))/\FL N S v ws
inductive Lg(vs:List V)(H:Hp)(Q:VK)(u_3:XK):Prop
 |mk (N:Nat) (st:Addr) (S:List T4):(vs=[.int (N:Int),.ref st])->(StandT H st S)->(InN N S)->(N<=60)->(S.length<=100)->(∀l H',Same H H'->FLAt H' l N S->Q (.ref l) H')->Lg vs H Q u_3
def Ow:Sp:=λvs H Q u_3=>Lg vs H Q u_3
theorem Vz{t0:Addr}(N:Nat):(replicate N [V.ref t0]).flatten=(replicate N t0).map V.ref:=by
 induction N with
 |zero=>rfl
 |succ N ih=>rw[replicate_succ,flatten_cons,ih,replicate_succ];rfl
theorem scWLeast:Ax ["many","stand","told","part","ways","place"] ["many","stand"] (Ah Mk):=⟨rfl,rfl,rfl,by decide+kernel,rfl,by decide+kernel,by decide+kernel⟩
theorem Td{f:Addr}{fd:FuncData}(F:Fun K "ways_from_least" "ways_from_least" Mk f fd)(T:Txt mg)(GParts:Cl P w K mg base 4 "parts_of" ["many","stand"] Mj)(GWays:Cl P w K mg base 4 "ways_from" ["many","stand","place"] P8):
  FnOk P w K mg base CX0 5 f fd ["many","stand"] Ow:=by
 refine F.ok scWLeast (λvs H Q E h=> ?_) (λcdv A outer s H vs Q E hr h=> ?_)
 ·obtain⟨_,_,_,rfl,_⟩:=h;rfl
 ·obtain⟨N,st,S,rfl,hst,hN,N60,S100,k⟩:=h;refine⟨_,Ae (Ao (i:=2) scWLeast.nd rfl (Or.inl rfl) (A0 Vg (Bq (Aa (A5 Ad) Ad)) (pv 0)))
   (Ae (Ct PassesOwn.never rfl (Ca (Au GParts hr (Aa (pv 0) (Aa (pv 1) Ad)))) (Aj (i:=3) scWLeast.nd rfl (Or.inl rfl)) (Ae (Ao (i:=4) scWLeast.nd rfl (Or.inl rfl) (Au GWays hr (Aa (pv 0) (Aa (pv 1) (Aa (Aq Az (pv 3) Af (λ_ _=>rfl)) Ad)))))
   (Ag (Ct PassesOwn.never rfl (Ca (pv 3)) (Aj (i:=5) scWLeast.nd rfl (Or.inl rfl)) (Ag (Di (Aq A4 (pv 4) (pv 5) (λ_ _=>rfl)) (Qa (pv 2) (pv 5) Kn)))))))
   (Ag (Ap (pv 2)))),?_⟩
  refine⟨small (by simp),λt0 ht0=> ?_⟩;have s1:=Ac (o:= .tup []) ht0;generalize upd H t0 (.tup [])=H1 at s1;refine⟨small (by simp),λq hq=> ?_⟩;have s2:=Ac (o:= .lst [.ref t0]) hq;have q2:=Ab (H:=H1) (a:=q) (o:= .lst [.ref t0]);generalize upd H1 q (.lst [.ref t0])=H2 at s2 q2;refine⟨_,rfl,q,(N:Int),_,rfl,rfl,q2,by omega,by omega,small (by show 1 * (N:Int).toNat<=10000;omega),λl hl=> ?_⟩;have eN:(N:Int).toNat=N:=by omega
  rw[eN,Vz];have s3:=Ac (o:= .lst ((replicate N t0).map V.ref)) hl;have l3:=Ab (H:=H2) (a:=l) (o:= .lst ((replicate N t0).map V.ref));have S3:=(s1.trans s2).trans s3;have hl0:H l=none:=Fi (s1.trans s2) hl;generalize upd H2 l (.lst ((replicate N t0).map V.ref))=H3 at s3 l3 S3;refine⟨_,rfl,_,rfl,N,st,S,rfl,.inr (hst.same S3),hN,N60,S100,λpa ps H4 s4 e4 p4=> ?_⟩;have S4:=S3.trans s4;have l4:=s4 _ _ l3;refine⟨pa,rfl,⟨_,SqT.of e4⟩,Ov (K:=K) (a:=pa) (xs:=ps.map V.ref) (λi σ H5=>∃(u3 u4 u5:Option V) (as:List Addr),σ=[some (.int (N:Int)),some (.ref st),some (.ref l),u3,u4,u5]/\Same H H5/\(∀r zs,H4 r=some (.tup zs)->H5 r=some (.tup zs))/\H5 l=some (.lst (as.map V.ref))/\as.length=N/\∀(j p:Nat),j<i->(lsF N S)[j]? =some p->∀v∈Am N S p,∃a ws,as[v]? =some a/\H5 a=some (.tup (ws.map V.str))/\FL N S v ws) ⟨_,_,_,replicate N t0,rfl,S4,λ_ _ e=>e,l4,by simp,λj p h=>absurd h (by omega)⟩ (λi σ H5 _ ⟨_,_,_,_,_,_,f,_⟩=>SqT.of (f _ _ e4)) ?_ ?_⟩
  ·intro i x σ H5 hx hI5_ E5 hE5 _;refine Fv λG_ hG_=> ?_;obtain⟨u3,u4,u5,as,rfl,S5,t5,l5,al,d5⟩:=hI5_;obtain⟨r,er,rfl⟩:=A3 hx;have hi:i<(lsF N S).length:=by rw[<-p4.1];exact(List.getElem?_eq_some_iff.mp er).1
   have hp:=Cb hi;refine hG_ ?_;generalize (lsF N S)[i]=p at hp;have pm:=mem_of_getElem? hp;have pN:=Ig pm;have r5:=t5 _ _ (p4.2 i r p er hp);have p0:(Am N S p)[0]? =some p:=by simpa using(mem_filter.mp pm).2
   refine⟨_,rfl,_,rfl,_,rfl,r,_,0,_,rfl,rfl,SqT.of r5,nV_at (k:=0) p0,N,st,S,p,rfl,.inr (hst.same S5),hN,N60,S100,pN,λwa H6 s6 W6=> ?_⟩;have r6:=s6 _ _ r5;have S6:=S5.trans s6;have l6:=s6 _ _ l5;have t6:∀r zs,H4 r=some (.tup zs)->H6 r=some (.tup zs):=λr zs e=>s6 _ _ (t5 _ _ e);have wl:=Op hN pN N60;refine⟨_,rfl,r,rfl,⟨_,SqT.of r6⟩,Ov (K:=K) (a:=r) (xs:=nV (Am N S p)) (λj σ H7=>∃(u5:Option V) (as:List Addr),σ=[some (.int (N:Int)),some (.ref st),some (.ref l),some (.ref r),some (.ref wa),u5]/\Same H H7/\(∀r zs,H6 r=some (.tup zs)->H7 r=some (.tup zs))/\H7 l=some (.lst (as.map V.ref))/\as.length=N/\WaysAt H7 wa (Df N S p)/\(∀(j p:Nat),j<i->(lsF N S)[j]? =some p->∀v∈Am N S p,∃a ws,as[v]? =some a/\H7 a=some (.tup (ws.map V.str))/\FL N S v ws)/\∀v∈(Am N S p).take j,∃a ws,as[v]? =some a/\H7 a=some (.tup (ws.map V.str))/\FL N S v ws) ⟨_,as,rfl,S6,λ_ _ e=>e,l6,al,W6,λj p hj hp v hv=>let ⟨a,ws,x,y,z⟩:=d5 j p hj hp v hv;⟨a,ws,x,s6 _ _ y,z⟩,by simp⟩ (λj σ H7 _ ⟨_,_,_,_,f,_⟩=>SqT.of (f _ _ r6)) ?_ ?_⟩
   ·intro j x σ H7 hx hI5_ E7 hE7 _;refine Fv λG_ hG_=> ?_;obtain⟨u5,as,rfl,S7,t7,l7,al,W7,d7,v7⟩:=hI5_;refine hG_ ?_;unfold nV at hx;obtain⟨z',hz',rfl⟩:=A3 hx;obtain⟨v,hv,rfl⟩:=A3 hz';have vm:=mem_of_getElem? hv;have vN:=((A1 hN pN N60).mp vm).1;obtain⟨ws,hws⟩:∃ws,Vis (Df N S p) v ws:=vis_iff.mp (by have:=(mem_filter.mp vm).2;simpa using this);obtain⟨xs,x,hxs,hx,_,a,rfl,ha⟩:=W7.get hws;have fl:FL N S v ws:=⟨p,pm,hws⟩
    have tk:(Am N S p).take (j+1)=(Am N S p).take j++[v]:=by rw[Qc8,hv];rfl
    refine⟨_,rfl,_,rfl,wa,_,_,_,rfl,rfl,SqL.of hxs,Ai hx,_,rfl,_,rfl,l,_,_,v,rfl,rfl,l7,(by have h:ixN (as.map V.ref).length (v:Int)=some v:=Iv (by rw[If];omega);exact h),?_⟩;have kp:∀(r:Addr) (zs:List V) (o:HO),H7 r=some (.tup zs)->upd H7 l o r=some (.tup zs):=λr zs o e=>by rw[Al (Bx e l7 (by intro z;cases z))];exact e
    have es:(as.map V.ref).set v (.ref a)=(as.set v a).map V.ref:=by rw[List.map_set]
    rw[es];have W8:WaysAt (upd H7 l (.lst ((as.set v a).map V.ref))) wa (Df N S p):=by
     by_cases nwl:wa=l
     ·rw[nwl] at hxs W7 ⊢;rw[l7] at hxs;cases hxs;have e:(as.set v a).map V.ref=as.map V.ref:=by
       rw[<-es];obtain⟨hh,ee⟩:=List.getElem?_eq_some_iff.mp hx;rw[<-ee,List.set_getElem_self]
      rw[e];obtain⟨xs,x1,x2,x3⟩:=W7;rw[l7] at x1;cases x1;exact⟨_,Ab,x2,λi u o e f=>(x3 i u o e f).mono λr ys h=>kp _ _ _ h⟩
     ·exact W7.keep l7 nwl
    have up:∀u,(∃a' ws',as[u]? =some a'/\H7 a'=some (.tup (ws'.map V.str))/\FL N S u ws')->∃a' ws',(as.set v a)[u]? =some a'/\upd H7 l (.lst ((as.set v a).map V.ref)) a'=some (.tup (ws'.map V.str))/\FL N S u ws':=λu ⟨a',ws',x,y,z⟩=>by
     by_cases e:v=u
     ·subst e;exact⟨a,ws,List.getElem?_set_self (by omega),kp _ _ _ ha,fl⟩
     ·exact⟨a',ws',by rw[List.getElem?_set_ne e];exact x,kp _ _ _ y,z⟩
    refine hE7 _ _ ⟨_,as.set v a,rfl,Aw S7 hl0,λr zs e=>kp _ _ _ (t7 _ _ e),Ab,by rw[length_set];exact al,W8,λj p hj hp u hu=>up u (d7 j p hj hp u hu),λu hu=> ?_⟩;rw[tk] at hu;rcases mem_append.mp hu with h|h
    ·exact up u (v7 u h)
    ·rw[mem_singleton.mp h];exact⟨a,ws,List.getElem?_set_self (by omega),kp _ _ _ ha,fl⟩
   ·intro σ H7 hI2_;refine Fv λG_ hG_=> ?_;obtain⟨u5,as,rfl,S7,t7,l7,al,W7,d7,v7⟩:=hI2_;have eln:(nV (Am N S p)).length=(Am N S p).length:=by unfold nV;rw[If,If]
    refine hG_ ?_;rw[eln,Qb3] at v7;refine hE5 _ _ ⟨_,_,_,as,rfl,S7,λr zs e=>t7 _ _ (t6 _ _ e),l7,al,λj p' hj hp' v hv=> ?_⟩;by_cases e:j=i
    ·subst e;rw[hp] at hp';cases hp';exact v7 v hv
    ·exact d7 j p' (by omega) hp' v hv
  ·intro σ H5 hI2_;refine Fv λG_ hG_=> ?_;obtain⟨u3,u4,u5,as,rfl,S5,t5,l5,al,d5⟩:=hI2_;refine hG_ ?_;rw[If,p4.1] at d5;refine⟨_,rfl,k l H5 S5 ⟨as,l5,al,λv a hv=> ?_⟩⟩;have vN:v<N:=by rw[<-al];exact(List.getElem?_eq_some_iff.mp hv).1
   obtain⟨p,_,pm,pr⟩:=Lx hN vN N60;obtain⟨j,hj⟩:=List.getElem?_of_mem pm;obtain⟨a',ws,x,y,z⟩:=d5 j p (List.getElem?_eq_some_iff.mp hj).1 hj v ((A1 hN (Ig pm) N60).mpr ⟨vN,pr⟩);rw[hv] at x;cases x;exact⟨ws,y,z⟩
structure Good(N:Nat)(S:List T4)(ns:List Int):Prop where
 len:ns.length=N
 two:∀v,v<N->ns.getD v 0=0\/ns.getD v 0=1
 ties:∀t∈S,ns.getD t.2.1 0≠ns.getD t.2.2.1 0
theorem Vf{ns:List Int}{v:Nat}(h:v<ns.length):atI (ns.map V.int) (v:Int)=some (.int (ns.getD v 0)):=Ai (by rw[getElem?_map,Cb h,Qa5,Cb h];rfl)
theorem FL.uniq{N v:Nat}{S:List T4}{x y:List Str}(hS:InN N S)(hN:N<=60)(hx:FL N S v x)(hy:FL N S v y):x=y:=by
 obtain⟨p,hp,vx⟩:=hx;obtain⟨q,hq,vy⟩:=hy;have e:p=q:=Sb hS hN hp hq (Reach.trans ⟨x,Dp hS (Ig hp) hN vx⟩ (Reach.symm ⟨y,Dp hS (Ig hq) hN vy⟩));subst e;exact Ix vx vy
def RingAs(N:Nat)(S:List T4)(ws:List Str):Prop:=∃(i:Nat) (t:T4) (x y c x' y':List Str),S[i]? =some t/\FL N S t.2.1 x/\FL N S t.2.2.1 y/\x.length % 2=y.length % 2/\(∀u∈S.take i,∀a b,FL N S u.2.1 a->FL N S u.2.2.1 b->a.length % 2≠b.length % 2)/\x=c++x'/\y=c++y'/\x'.head? ≠y'.head? /\ws=x'++[t.1]++y'.reverse
def Told(N:Nat)(S:List T4)(sd:Bool)(xs:List V):Prop:=(sd=true/\∃ns:List Int,xs=ns.map V.int/\Good N S ns/\∀v,v<N->Par N S v (ns.getD v 0))\/(sd=false/\∃ws:List Str,xs=ws.map V.str/\Ring N S ws/\ws.length<=61/\RingAs N S ws)
theorem Good.two'{N:Nat}{S:List T4}{ns:List Int}(h:Good N S ns)(hS:InN N S):Two S:=⟨λv=>if v<N then ns.getD v 0 else 0,λv=>by
 show (if v<N then ns.getD v 0 else 0)=0\/(if v<N then ns.getD v 0 else 0)=1;split
 ·rename_i hv;exact h.two v hv
 ·exact .inl rfl,λt ht=>by
 have tN:=hS t ht;show (if t.2.1<N then ns.getD t.2.1 0 else 0)≠(if t.2.2.1<N then ns.getD t.2.2.1 0 else 0);rw[Qa3 tN.1,Qa3 tN.2];exact h.ties t ht⟩
def wordF(sd:Bool):Str:=Str.ofString (if sd then "sides" else "ring")
structure SOk(N:Nat)(S:List T4):Prop where
 inn:InN N S
 nd:(S.map (·.1)).Nodup
 ne:∀t∈S,t.2.1≠t.2.2.1
 len:S.length<=60
inductive Ol(vs:List V)(H:Hp)(Q:VK)(u_3:XK):Prop
 |mk (l tr a1 a2:Addr) (as:List Addr) (t:T4) (x y:List Str):(vs=[.ref l,.ref tr])->(H l=some (.lst (as.map V.ref)))->(H tr=some (.tup (Hy t)))->(as[t.2.1]? =some a1)->(as[t.2.2.1]? =some a2)->(H a1=some (.tup (x.map V.str)))->(H a2=some (.tup (y.map V.str)))->(x.length=y.length)->(x≠y)->(x.length<=100)->(∀(r:Addr) (c x' y':List Str) (H':Hp),Same H H'->x=c++x'->y=c++y'->x'.head? ≠y'.head? ->H' r=some (.tup ((x'++[t.1]++y'.reverse).map V.str))->Q (.ref r) H')->Ol vs H Q u_3
def Rw:Sp:=λvs H Q u_3=>Ol vs H Q u_3
inductive Kk(vs:List V)(H:Hp)(Q:VK)(u_3:XK):Prop
 |mk (N:Nat) (st:Addr) (S:List T4):(vs=[.int (N:Int),.ref st])->(StandT H st S)->(SOk N S)->(N<=30)->(∀(r wa:Addr) (sd:Bool) (xs:List V) (H':Hp),Same H H'->H' r=some (.tup [.str (wordF sd),.ref wa])->H' wa=some (.tup xs)->Told N S sd xs->Q (.ref r) H')->Kk vs H Q u_3
def Lr:Sp:=λvs H Q u_3=>Kk vs H Q u_3
theorem str_eq(a b:Str):decide (V.str a=V.str b)=decide (a=b):=by
 rw[Bool.eq_iff_iff,Qa4,Qa4];exact⟨λe=>by injection e,λe=>by rw[e]⟩
theorem scRingO:Ax ["ways","tie","there","back"] ["ways","tie"] (Ah Qt):=⟨rfl,rfl,rfl,by decide+kernel,rfl,by decide+kernel,by decide+kernel⟩
theorem Vu{f:Addr}{fd:FuncData}(F:Fun K "ring_over" "ring_over" Qt f fd)(T:Txt mg):
  FnOk P w K mg base CX0 1 f fd ["ways","tie"] Rw:=by
 refine F.ok scRingO (λvs H Q E h=> ?_) (λcdv A outer s H vs Q E hr h=> ?_)
 ·obtain⟨_,_,_,_,_,_,_,_,rfl,_⟩:=h;rfl
 ·obtain⟨l,tr,a1,a2,as,t,x,y,rfl,hl,htr,e1,e2,h1,h2,xy,ne,x100,k⟩:=h;refine⟨_,Ae (U2 (i:=2) (j:=3) rfl scRingO.nd rfl rfl (by decide) rfl rfl (Aa (Aq A4 (pv 0) (Aq Az (pv 1) Af (λ_ _=>rfl)) (λ_ _=>rfl)) (Aa (Aq A4 (pv 0) (Aq Az (pv 1) Af (λ_ _=>rfl)) (λ_ _=>rfl)) Ad)) rfl)
   (Ae (Oe PassesOwn.never (As Bl (Aq Az (pv 2) Af (λ_ _=>rfl)) (Aq Az (pv 3) Af (λ_ _=>rfl)) (Ar _)) (Ag (U2 (i:=2) (j:=3) rfl scRingO.nd rfl rfl (by decide) rfl rfl (Aa (Ce Dc (pv 2) (Br Af) Do) (Aa (Ce Dc (pv 3) (Br Af) Do) Ad)) rfl)))
   (Ag (Ap (A0 Ef (A0 Ef (pv 2) (A5 (Aa (Aq Az (pv 1) Af (λ_ _=>rfl)) Ad))) (Zd (pv 3) (Br (Ki Fy Af)) (λo i=>[o,i]) (λ_ _=>by with_unfolding_all rfl)))))),?_⟩
  refine⟨_,rfl,_,rfl,tr,_,1,_,rfl,rfl,SqT.of htr,Ai (j:=1) rfl,l,_,_,_,rfl,rfl,SqL.of hl,Ai (by rw[getElem?_map,e1];rfl),_,rfl,_,rfl,tr,_,2,_,rfl,rfl,SqT.of htr,Ai (j:=2) rfl,l,_,_,_,rfl,rfl,SqL.of hl,Ai (by rw[getElem?_map,e2];rfl),_,_,rfl,?_⟩;dsimp only[Lq,Zz];refine Sx (λm σ H5=>∃(th ba:Addr) (c x' y':List Str),σ=[some (.ref l),some (.ref tr),some (.ref th),some (.ref ba)]/\Same H H5/\x=c++x'/\y=c++y'/\H5 th=some (.tup (x'.map V.str))/\H5 ba=some (.tup (y'.map V.str))/\m=x'.length) (m0:=x.length) ⟨a1,a2,[],x,y,rfl,Cf _,rfl,rfl,h1,h2,rfl⟩ ?_ ?_
  rotate_left
  ·intro σ H Q Q' f hI5_;refine Fv λG_ hG_=> ?_;obtain⟨v2,e2,a,xs,i,u,ea,ei,ha,hu,v3,e3,b,ys,j,w,eb,ej,hb,hw,h1,bb,ebb,q⟩:=hI5_;refine hG_ ?_;exact⟨v2,e2,a,xs,i,u,ea,ei,ha,hu,v3,e3,b,ys,j,w,eb,ej,hb,hw,h1,bb,ebb,f _ _ q⟩
  intro m σ H5 hI3_ E_;refine Fv λG_ hG_=> ?_;obtain⟨th,ba,c,x',y',rfl,s5,ex,ey,hth,hba,hm⟩:=hI3_;have hl':x'.length=y'.length:=by rw[ex,ey,Qa0,Qa0] at xy;omega
  have hne:x'≠y':=λe=>ne (by rw[ex,ey,e]);obtain⟨n,x2,rfl⟩:∃n x2,x'=n::x2:=by
   cases x' with
   |nil=>cases y' with
    |nil=>exact absurd rfl hne
    |cons _ _=>cases hl'
   |cons n x2=>exact⟨n,x2,rfl⟩
  obtain⟨n',y2,rfl⟩:∃n' y2,y'=n'::y2:=by
   cases y' with
   |nil=>cases hl'
   |cons n y2=>exact⟨n,y2,rfl⟩
  refine hG_ ?_;refine⟨_,rfl,th,_,0,_,rfl,rfl,SqT.of hth,Ai (j:=0) rfl,_,rfl,ba,_,0,_,rfl,rfl,SqT.of hba,Ai (j:=0) rfl,rfl,_,rfl,?_⟩;rw[str_eq];by_cases g:n=n'
  ·rw[decide_eq_true g];refine Dg ?_;subst g;refine⟨_,rfl,_,rfl,Wj (Cz hth λt1 H6 s6 e6=> ?_)⟩;have e6:H6 t1=some (.tup (x2.map V.str)):=by rw[e6];exact Qd1 (λz=>some (HO.tup z)) (Hs (xs:=(n::x2).map V.str) (n:=1))
   refine⟨_,rfl,_,rfl,Wj (Cz (s6 _ _ hba) λt2 H7 s7 e7=> ?_)⟩;have e7:H7 t2=some (.tup (y2.map V.str)):=by rw[e7];exact Qd1 (λz=>some (HO.tup z)) (Hs (xs:=(n::y2).map V.str) (n:=1))
   exact⟨_,_,rfl,x2.length,by rw[hm,Qa6];exact le_refl _,t1,t2,c++[n],x2,y2,rfl,(s5.trans s6).trans s7,by rw[ex,append_assoc];rfl,by rw[ey,append_assoc];rfl,s7 _ _ e6,e7,rfl⟩
  rw[decide_eq_false g];refine Bp ?_;have x2l:(n::x2).length<=100:=by rw[ex,Qa0] at x100;omega
  refine⟨_,rfl,_,rfl,tr,_,0,_,rfl,rfl,SqT.of (s5 _ _ htr),Ai (j:=0) rfl,small (by simp),λq hq=> ?_⟩;have s6:=Ac (o:= .tup [.str t.1]) hq;have q6:upd H5 q (.tup [.str t.1]) q=some (.tup ([t.1].map V.str)):=Ab;generalize upd H5 q (.tup [.str t.1])=H6 at s6 q6;refine Ma (s6 _ _ hth) q6 (by rw[If,If];show _+1<=_;exact lt_of_le_of_lt (by assumption) (by decide)) λr1 H7 s7 e7=> ?_;rw[<-map_append] at e7;have ba7:=(s6.trans s7) _ _ hba;refine⟨_,rfl,_,rfl,_,rfl,ba,_,rfl,rfl,SqT.of ba7,by rw[If];omega,λz hz=> ?_⟩;have s8:=Ac (o:= .tup ((n'::y2).map V.str).reverse) hz;have z8:upd H7 z (.tup ((n'::y2).map V.str).reverse) z=some (.tup ((n'::y2).reverse.map V.str)):=by rw[Ab,List.map_reverse]
  generalize upd H7 z (.tup ((n'::y2).map V.str).reverse)=H8 at s8 z8;refine Ma (s8 _ _ e7) z8 (by rw[If,If,Qa0,Qd3];show _+1+_<=_;omega) λr2 H9 s9 e9=> ?_;rw[<-map_append] at e9;exact k r2 c _ _ H9 ((((s5.trans s6).trans s7).trans s8).trans s9) ex ey (λz=>g (Option.some.inj z)) e9
theorem scSidesOf:Ax ["many","stand","ways","numbers","tie"] ["many","stand"] (Ah Gw):=⟨rfl,rfl,rfl,by decide+kernel,rfl,by decide+kernel,by decide+kernel⟩
theorem Pz{f:Addr}{fd:FuncData}(F:Fun K "sides_of" "sides_of" Gw f fd)(T:Txt mg)(GWLeast:Cl P w K mg base 5 "ways_from_least" ["many","stand"] Ow)(GRingO:Cl P w K mg base 5 "ring_over" ["ways","tie"] Rw):
  FnOk P w K mg base CX0 6 f fd ["many","stand"] Lr:=by
 refine F.ok scSidesOf (λvs H Q E h=> ?_) (λcdv A outer s H vs Q E hr h=> ?_)
 ·obtain⟨_,_,_,rfl,_⟩:=h;rfl
 ·obtain⟨N,st,S,rfl,hst,hS,N30,k⟩:=h;refine⟨_,Ae (Ao (i:=2) scSidesOf.nd rfl (Or.inl rfl) (Au GWLeast hr (Aa (pv 0) (Aa (pv 1) Ad))))
   (Ae (Ao (i:=3) scSidesOf.nd rfl (Or.inl rfl) (A6 A7 (by rfl) T.tuple (by decide+kernel) (Aa (Bj (T:=["way"]) (F:=[]) (js:=[]) (cs (osc:=Ah Gw)) rfl (Cr (pv 2)) (λ_ _ _ _ _=>Aj (i:=0) (show (["way"]:List Str).Nodup by decide+kernel) rfl (Or.inl rfl)) (λ_ _ _ _ _=>Bt) (λ_ _ _ _ _=>A0 Dh (Ay (r:=Re K) A8 (by rfl) T.len PySem.boot_len (Aa (pv 0) Ad)) Af)) Ad)))
   (Ae (Ct PassesOwn.never rfl (Ca (pv 1)) (Aj (i:=4) scSidesOf.nd rfl (Or.inl rfl)) (Ag (Be (As Bl (Aq Az (pv 3) (Aq Az (pv 4) Af (λ_ _=>rfl)) (λ_ _=>rfl)) (Aq Az (pv 3) (Aq Az (pv 4) Af (λ_ _=>rfl)) (λ_ _=>rfl)) (Ar _)) (Ag (Ap (A5 (Aa Ba (Aa (Au GRingO hr (Aa (pv 2) (Aa (pv 4) Ad))) Ad))))) A2)))
   (Ag (Ap (A5 (Aa Ba (Aa (pv 3) Ad))))))),?_⟩
  have S60:=hS.len;have hN:=hS.inn;refine⟨_,rfl,_,rfl,N,st,S,rfl,hst,hN,by exact le_trans (by assumption) (by decide),by exact le_trans (by assumption) (by decide),λl H1 s1 F1=> ?_⟩;obtain⟨as,hl,al,hf⟩:=F1;refine⟨_,rfl,l,rfl,⟨_,SqL.of hl⟩,λD hD=>Co (K:=K) (a:=l) (xs:=as.map V.ref) (λj σ ys H6=>∃(u:Option V) (ns:List Int),σ=[u]/\ys=ns.map V.int/\Same H1 H6/\H6 D=some (.lst ys)/\ns.length=j/\∀v,v<j->∃a ws,as[v]? =some a/\H1 a=some (.tup (ws.map V.str))/\FL N S v ws/\ns.getD v 0=((ws.length % 2:Nat):Int)) ⟨none,[],rfl,rfl,Ac hD,Ab,rfl,λv h=>absurd h (by omega)⟩ (λj σ ys H6 _ ⟨_,_,_,_,e,f,_⟩=>⟨SqL.of (e _ _ hl),f⟩) ?_ ?_⟩
  ·intro j x σ ys H6 hx hI6_;refine Fv λG_ hG_=> ?_;obtain⟨u,ns,rfl,rfl,s6,D6,nl,nv⟩:=hI6_;obtain⟨a,ha,rfl⟩:=A3 hx;have hj:j<N:=by rw[<-al];exact(List.getElem?_eq_some_iff.mp ha).1
   obtain⟨ws,hw,fl⟩:=hf j a ha;refine hG_ ?_;refine⟨_,rfl,a,_,rfl,.inr (SqT.of (s6 _ _ hw)),_,_,rfl,rfl,(by show (0:Int)<2;decide),D6,An (by rw[If];omega),_,ns++[((ws.map V.str).length:Int) % 2],rfl,by rw[map_append];rfl,Aw s6 hD,Ab,by simp[nl],λv hv=> ?_⟩;by_cases e:v=j
   ·subst e;refine⟨a,ws,ha,hw,fl,?_⟩;rw[Qa5,List.getElem?_append_right (by exact le_of_eq (by assumption)),nl,Nat.sub_self,If];show (ws.length:Int) % 2=_;omega
   ·obtain⟨a',ws',x1,x2,x3,x4⟩:=nv v (by omega);refine⟨a',ws',x1,x2,x3,?_⟩;rw[Qa5,List.getElem?_append_left (by omega),<-Qa5];exact x4
  intro σ ys H6 hI3_;refine Fv λG_ hG_=> ?_;obtain⟨u,ns,rfl,rfl,s6,D6,nl,nv⟩:=hI3_;refine hG_ ?_;rw[If,al] at nl nv;refine⟨D,_,rfl,.inl ⟨SqL.of D6,λnt hnt=> ?_⟩⟩;have s7:=Ac (o:= .tup (ns.map V.int)) hnt;have n7:=Ab (H:=H6) (a:=nt) (o:= .tup (ns.map V.int));generalize upd H6 nt (.tup (ns.map V.int))=H7 at s7 n7;have S17:=s6.trans s7;have S7:=s1.trans S17;obtain⟨rs,est,hrs⟩:=id hst;have st7:=S7 _ _ est;refine⟨_,rfl,st,rfl,⟨_,SqT.of st7⟩,Ux (K:=K) (a:=st) (xs:=rs.map V.ref) (λi σ H5=>∃(u4:Option V),σ=[some (.int (N:Int)),some (.ref st),some (.ref l),some (.ref nt),u4]/\H5=H7/\∀t∈S.take i,ns.getD t.2.1 0≠ns.getD t.2.2.1 0) ⟨_,rfl,rfl,by simp⟩ (λi σ H5 _ ⟨_,_,e,_⟩=>by rw[e];exact SqT.of st7) ?_ ?_⟩
  ·intro i x σ H5 hx hI5_ E_;refine Fv λG_ hG_=> ?_;obtain⟨u4,rfl,rfl,no⟩:=hI5_;obtain⟨r,hr',rfl⟩:=A3 hx;obtain⟨t,ht,er⟩:=hrs.get hr';have tm:=mem_of_getElem? ht;have tN:=hN t tm;have tk:S.take (i+1)=S.take i++[t]:=by rw[Qc8,ht];rfl
   have er7:=S7 _ _ er;refine hG_ ?_;refine⟨_,rfl,_,rfl,r,_,1,_,rfl,rfl,SqT.of er7,Ai (j:=1) rfl,nt,_,_,_,rfl,rfl,SqT.of n7,Vf (by omega),_,rfl,_,rfl,r,_,2,_,rfl,rfl,SqT.of er7,Ai (j:=2) rfl,nt,_,_,_,rfl,rfl,SqT.of n7,Vf (by omega),rfl,_,rfl,?_⟩;by_cases g:ns.getD t.2.1 0=ns.getD t.2.2.1 0
   ·rw[show decide (V.int (ns.getD t.2.1 0)=V.int (ns.getD t.2.2.1 0))=true from decide_eq_true (by rw[g])];refine Dg ?_;obtain⟨a1,x,ea1,ha1,fx,nx⟩:=nv _ tN.1;obtain⟨a2,y,ea2,ha2,fy,ny⟩:=nv _ tN.2;obtain⟨p,pN,lx,ly,d1,d2⟩:=FL.tie hN (by exact le_trans (by assumption) (by decide)) tm fx fy;have hl':x.length=y.length:=by rw[nx,ny] at g;omega
    have hxy:x≠y:=λe=>hS.ne t tm (by
     have g1:=Iw hS.nd lx;have g2:=Iw hS.nd ly;rw[e,g2] at g1;exact(Option.some.inj g1).symm)
    have xl:=FL.len hN fx;refine⟨_,rfl,_,rfl,l,r,a1,a2,as,t,x,y,rfl,S17 _ _ hl,er7,ea1,ea2,S17 _ _ ha1,S17 _ _ ha2,hl',hxy,by omega,λw c x' y' H8 s8 ex ey hd ew=>⟨small (by simp),λq hq=> ?_⟩⟩;have rg:=So hN hS.nd pN tm lx ly ex ey hl';have sq:=Ac (o:= .tup [.str (Str.ofString "ring"),.ref w]) hq;have xl1:x'.length<=30:=by rw[ex,Qa0] at xl;omega
    have yl1:y'.length<=30:=by rw[hl',ey,Qa0] at xl;omega
    refine k q w false _ _ ((S7.trans s8).trans sq) Ab (sq _ _ ew) (.inr ⟨rfl,_,rfl,rg,by rw[Qa0,Qa0,Qd3];show _+1+_<=61;omega,i,t,x,y,c,x',y',ht,fx,fy,by omega,λu hu a b fa fb=> ?_,ex,ey,hd,rfl⟩);have uN:=hN u (List.mem_of_mem_take hu);obtain⟨_,a',_,_,fa',na⟩:=nv _ uN.1;obtain⟨_,b',_,_,fb',nb⟩:=nv _ uN.2;have:=no u hu;rw[na,nb,FL.uniq hN (by exact le_trans (by assumption) (by decide)) fa' fa,FL.uniq hN (by exact le_trans (by assumption) (by decide)) fb' fb] at this;omega
   ·rw[show decide (V.int (ns.getD t.2.1 0)=V.int (ns.getD t.2.2.1 0))=false from decide_eq_false (λe=>g (by injection e))];refine Bp ⟨_,rfl,rfl,λt' ht'=> ?_⟩;rw[tk] at ht';rcases mem_append.mp ht' with h|h
    ·exact no t' h
    ·rw[mem_singleton.mp h];exact g
  ·intro σ H5 hI2_;refine Fv λG_ hG_=> ?_;obtain⟨u4,rfl,rfl,no⟩:=hI2_;refine hG_ ?_;rw[If,hrs.1,Qb3] at no;refine⟨_,rfl,small (by simp),λr hr'=> ?_⟩;have sq:=Ac (o:= .tup [.str (Str.ofString "sides"),.ref nt]) hr';refine k r nt true _ _ (S7.trans sq) Ab (sq _ _ n7) (.inl ⟨rfl,ns,rfl,⟨nl,λv hv=> ?_,no⟩,λv hv=> ?_⟩)
   ·obtain⟨_,ws,_,_,_,e⟩:=nv v hv;rw[e];omega
   ·obtain⟨_,ws,_,_,f,e⟩:=nv v hv;rw[e];exact f.par hN (by exact le_trans (by assumption) (by decide))
noncomputable def Jy(S:List T4):Bool:= @decide (Two S) (Classical.propDecidable _)
theorem L5{S:List T4}(h:Two S):Jy S=true:=by unfold Jy;exact @decide_eq_true _ (Classical.propDecidable _) h
theorem L0{S:List T4}(h:¬Two S):Jy S=false:=by unfold Jy;exact @decide_eq_false _ (Classical.propDecidable _) h
theorem Tt{S S':List T4}(h:S.Perm S'):Jy S=Jy S':=by
 by_cases g:Two S
 ·rw[L5 g,L5 (g.mono λt ht=>h.mem_iff.mpr ht)]
 ·rw[L0 g,L0 λg'=>g (g'.mono λt ht=>h.mem_iff.mp ht)]
inductive Kb(vs:List V)(H:Hp)(Q:VK)(u_3:XK):Prop
 |mk (N:Nat) (st:Addr) (S:List T4):(vs=[.int (N:Int),.ref st])->(StandT H st S)->(SOk N S)->(N<=30)->(∀H',Same H H'->Q (.bl (Jy S)) H')->Kb vs H Q u_3
def Ld:Sp:=λvs H Q u_3=>Kb vs H Q u_3
theorem Tu:Ax ["many","stand"] ["many","stand"] (Ah Ks):=⟨rfl,rfl,rfl,by decide+kernel,rfl,by decide+kernel,by decide+kernel⟩
theorem Qr{f:Addr}{fd:FuncData}(F:Fun K "have_two_sides" "have_two_sides" Ks f fd)(T:Txt mg)(GSidesOf:Cl P w K mg base 6 "sides_of" ["many","stand"] Lr):
  FnOk P w K mg base CX0 7 f fd ["many","stand"] Ld:=by
 refine F.ok Tu (λvs H Q E h=> ?_) (λcdv A outer s H vs Q E hr h=> ?_)
 ·obtain⟨_,_,_,rfl,_⟩:=h;rfl
 ·obtain⟨N,st,S,rfl,hst,hS,N30,k⟩:=h;refine⟨_,Ag (Ap (Bg Bl (Aq Az (Au GSidesOf hr (Aa (pv 0) (Aa (pv 1) Ad))) Af (λ_ _=>rfl)) Ba (Ar _))),?_⟩;refine⟨_,rfl,_,rfl,N,st,S,rfl,hst,hS,N30,λr wa sd xs H1 s1 er ew told=>⟨r,_,0,_,rfl,rfl,SqT.of er,Ai (j:=0) rfl,rfl,?_⟩⟩;have e:decide (V.str (wordF sd)=V.str (Str.ofString "sides"))=Jy S:=by
   rcases told with⟨rfl,ns,_,g,_⟩|⟨rfl,ws,_,ring,_⟩
   ·rw[L5 (g.two' hS.inn)];decide+kernel
   ·rw[L0 ring.not];decide+kernel
  rw[e];exact k H1 s1
inductive Ak where
 |jo (n p q:Nat)
 |pa (n:Nat)
 |si (n p:Nat)
 |ev (n:Nat)
def Ak.vs:Ak->List V
 | .jo n p q=>[.str (Str.ofString "joined"),.int (n:Int),.int (p:Int),.int (q:Int)]
 | .pa n=>[.str (Str.ofString "parts"),.int (n:Int)]
 | .si n p=>[.str (Str.ofString "size"),.int (n:Int),.int (p:Int)]
 | .ev n=>[.str (Str.ofString "even"),.int (n:Int)]
def Ak.n:Ak->Nat
 | .jo n _ _=>n
 | .pa n=>n
 | .si n _=>n
 | .ev n=>n
def AkOk(N L:Nat):Ak->Prop
 | .jo n p q=>n<=L/\p<N/\q<N
 | .pa n=>n<=L
 | .si n p=>n<=L/\p<N
 | .ev n=>n<=L
theorem AkOk.le{N L:Nat}{k:Ak}(h:AkOk N L k):k.n<=L:=by
 cases k<;> first|exact h|exact h.1
def AksAt(H:Hp)(rs:List Addr)(ks:List Ak):Prop:=rs.length=ks.length/\∀(i:Nat) r k,rs[i]? =some r->ks[i]? =some k->H r=some (.tup k.vs)
theorem AksAt.mono{H H':Hp}{rs:List Addr}{ks:List Ak}(h:AksAt H rs ks)(f:∀r xs,H r=some (.tup xs)->H' r=some (.tup xs)):AksAt H' rs ks:=⟨h.1,λi r k a b=>f _ _ (h.2 i r k a b)⟩
theorem AksAt.get{H:Hp}{rs:List Addr}{ks:List Ak}(h:AksAt H rs ks){i:Nat}{r:Addr}(hr:rs[i]? =some r):∃k,ks[i]? =some k/\H r=some (.tup k.vs):=by
 have hi:i<ks.length:=by rw[<-h.1];exact(List.getElem?_eq_some_iff.mp hr).1
 exact⟨ks[i],Cb hi,h.2 i r _ hr (Cb hi)⟩
theorem AksAt.snoc{H:Hp}{rs:List Addr}{ks:List Ak}{r:Addr}{k:Ak}(h:AksAt H rs ks)(hr:H r=some (.tup k.vs)):AksAt H (rs++[r]) (ks++[k]):=by
 refine⟨by rw[Qa0,Qa0,h.1];rfl,λi r0 p0 e1 e2=> ?_⟩;rw[getElem?_append] at e1 e2;rw[h.1] at e1;split at e1
 ·rename_i c;rw[Qa3 c] at e2;exact h.2 i r0 p0 e1 e2
 ·rename_i c;rw[Qa2 c] at e2;have hz:i - ks.length=0:=by
   have:=(List.getElem?_eq_some_iff.mp e1).1;simp only[Qa6,Qb9] at this;omega
  rw[hz] at e1 e2;cases e1;cases e2;exact hr
theorem Z6{N:Nat}{R:List R6}{t:T4}(up:UpP R)(fr:¬Ro R t):∃R',Comes N R R' t:=by
 classical
 have key:∀b:Bool,∃R',R'.Perm (R++[((t,0,b):R6)])/\UpP R':=λb=>by
  refine⟨(R.filter λx=>decide (x.1.1.cps.toList<t.1.cps.toList))++((t,0,b)::R.filter λx=> !decide (x.1.1.cps.toList<t.1.cps.toList)),?_,?_⟩
  ·refine(List.perm_middle).trans ?_;refine((List.filter_append_perm (λx:R6=>decide (x.1.1.cps.toList<t.1.cps.toList)) R).cons _).trans ?_;exact(List.perm_append_singleton _ _).symm
  ·refine up_of ?_ ?_
   ·have h0:R.Pairwise λx y=>¬y.1.1.cps.toList<x.1.1.cps.toList:=up.imp λ{x y} h=>λz=>lt_asymm h z;rw[pairwise_append];refine⟨h0.sublist Qc3,?_,?_⟩
    ·rw[pairwise_cons];refine⟨λy hy=> ?_,h0.sublist Qc3⟩;have:=(mem_filter.mp hy).2;simpa using this
    ·intro x hx y hy z;have xl:x.1.1.cps.toList<t.1.cps.toList:=by have:=(mem_filter.mp hx).2;simpa using this
     rcases Qa9.mp hy with rfl|hy
     ·exact lt_asymm xl z
     ·have yl:¬y.1.1.cps.toList<t.1.cps.toList:=by have:=(mem_filter.mp hy).2;simpa using this
      exact yl (List.lt_trans z xl)
   ·have p:(((R.filter λx=>decide (x.1.1.cps.toList<t.1.cps.toList))++((t,0,b)::R.filter λx=> !decide (x.1.1.cps.toList<t.1.cps.toList))).map (·.1.1)).Perm (t.1::R.map (·.1.1)):=by
     have q:=((List.perm_middle (l₁:=R.filter λx=>decide (x.1.1.cps.toList<t.1.cps.toList)) (l₂:=R.filter λx=> !decide (x.1.1.cps.toList<t.1.cps.toList)) (a:=((t,0,b):R6))).trans ((List.filter_append_perm (λx:R6=>decide (x.1.1.cps.toList<t.1.cps.toList)) R).cons _)).map (·.1.1);exact q
    rw[p.nodup_iff,Qd2];refine⟨fr,?_⟩;unfold UpP at up;rw[List.nodup_iff_pairwise_ne,Qe5];refine up.imp λ{x y} h e=> ?_;rw[e] at h;exact List.lt_irrefl _ h
 obtain⟨R',p,u⟩:=key (decide (¬Reach (R.map (·.1)) t.2.1 t.2.2.1));exact⟨R',⟨_,by rw[Qa4],p⟩,u⟩
theorem Xm{N:Nat}{ds:List Dd}(h:HG N ds):∀i,i<=ds.length->Gd N (Gx N (ds.take i)) (thr (ds.take i))
 |0,_=>Gd.nil h.n1 h.n24
 |i+1,hi=>by
  have ih:=Xm h i (by omega);have e:=Cb (l:=ds) (i:=i) (by omega);have ok:=h.ok i _ e;rw[A9 e,Nw,Dt];generalize ds[i]=d at ok ⊢;cases d with
  |come m t=>
   obtain⟨R',c⟩:=Z6 (N:=N) ih.up (ih.fresh ok.1);rw[Mi c];exact ih.come h.n24 ok c
  |go m n=>
   obtain⟨x,hx,rfl⟩:=ih.row ok;exact ih.gone h.n24 hx
theorem Nz{S T:List T4}(h:S.Perm T){a b:Nat}:Reach S a b↔Reach T a b:=⟨λr=>r.mono λt ht=>h.mem_iff.mp ht,λr=>r.mono λt ht=>h.mem_iff.mpr ht⟩
theorem Zq{N:Nat}{S T:List T4}(h:S.Perm T)(hS:InN N S):InN N T:=λt ht=>hS t (h.mem_iff.mpr ht)
theorem Hq{N p:Nat}{S T:List T4}(h:S.Perm T)(hS:InN N S)(hN:N<=60)(hp:p<N):Am N S p=Am N T p:=by
 have hT:=Zq h hS;unfold Am;refine filter_congr λv hv=> ?_;have h1:=A1 (v:=v) hS hp hN;have h2:=A1 (v:=v) hT hp hN;unfold Am at h1 h2;rw[mem_filter] at h1 h2;rw[Bool.eq_iff_iff];constructor
 ·intro e;obtain⟨a,b⟩:=h1.mp ⟨hv,e⟩;exact(h2.mpr ⟨a,(Nz h).mp b⟩).2
 ·intro e;obtain⟨a,b⟩:=h2.mp ⟨hv,e⟩;exact(h1.mpr ⟨a,(Nz h).mpr b⟩).2
theorem Ya{N:Nat}{S T:List T4}(h:S.Perm T)(hS:InN N S)(hN:N<=60):lsF N S=lsF N T:=by
 unfold lsF;refine filter_congr λv hv=> ?_;rw[Hq h hS hN (mem_range.mp hv)]
noncomputable def Fd(N:Nat)(S:List T4):Ak->V
 | .jo _ p q=> .bl (decide (q∈Am N S p))
 | .pa _=> .int ((lsF N S).length:Nat)
 | .si _ p=> .int ((Am N S p).length:Nat)
 | .ev _=> .bl (Jy S)
theorem Nc{N L:Nat}{S T:List T4}(h:S.Perm T)(hS:InN N S)(hN:N<=60){k:Ak}(ok:AkOk N L k):Fd N S k=Fd N T k:=by
 cases k with
 |jo n p q=>unfold Fd;simp only;rw[Hq h hS hN ok.2.1]
 |pa n=>unfold Fd;simp only;rw[Ya h hS hN]
 |si n p=>unfold Fd;simp only;rw[Hq h hS hN ok.2]
 |ev n=>unfold Fd;simp only;rw[Tt h]
noncomputable def Kw(N:Nat)(ds:List Dd)(k:Ak):V:=Fd N (thr (ds.take k.n)) k
theorem vs_1(k:Ak):k.vs[1]? =some (.int (k.n:Int)):=by cases k<;> rfl
def Jn(H:Hp)(st:Addr)(S:List T4):Ak->Prop
 | .jo _ _ _=>StandX H st S
 | .pa _=>StandX H st S
 | .si _ _=>StandX H st S
 | .ev _=>StandT H st S
def spAns:Sp:=λvs H Q _=>∃(N L:Nat) (st r:Addr) (S:List T4) (k:Ak),vs=[.int (N:Int),.ref st,.ref r]/\Jn H st S k/\SOk N S/\N<=30/\H r=some (.tup k.vs)/\AkOk N L k/\∀H',Same H H'->Q (Fd N S k) H'
theorem LGood.sok{N:Nat}{R:List R6}(G:LGood N R)(p:R6->Bool):SOk N (tiF R p) where
 inn:=G.inN p
 nd:=by
  unfold tiF;rw[map_map];exact G.nd.sublist (Qc3.map _)
 ne:=λt ht=>by
  obtain⟨x,hx,_,rfl⟩:=mem_ti.mp ht;exact(G.ok x hx).2.1.2.2
 len:=le_trans (Mt R p) G.len
theorem Kg{N L:Nat}{R:List R6}(G:LGood N R)(hN:N<=60){k:Ak}(ok:AkOk N L k)(ne:∀n,k≠ .ev n):Fd N (tiF R (kpB 0)) k=Fd N (R.map (·.1)) k:=by
 have l0:=lay_0 (N:Int);have rc:∀a b,Reach (tiF R (kpB 0)) a b↔Reach (R.map (·.1)) a b:=λa b=>by rw[<-Qs];exact(G.iff (by simpa using l0) a b).symm
 cases k with
 |jo n p q=>unfold Fd;simp only;rw[Du (G.inN _) G.in1 hN rc ok.2.1]
 |pa n=>unfold Fd;simp only;rw[Vs (G.inN _) G.in1 hN rc]
 |si n p=>unfold Fd;simp only;rw[Du (G.inN _) G.in1 hN rc ok.2]
 |ev n=>exact absurd rfl (ne n)
def Sg:Sp:=λvs H Q _=>∃(h r:Addr) (N L:Nat) (R:List R6) (S:List T4) (k:Ak),vs=[.ref h,.ref r]/\LayAt H h N R/\Gd N R S/\N<=24/\H r=some (.tup k.vs)/\AkOk N L k/\∀H',Same H H'->Q (Fd N S k) H'
def Wg:Sp:=λvs H Q _=>∃(h ta:Addr) (N:Nat) (ds:List Dd) (rs:List Addr) (ks:List Ak),vs=[.ref h,.ref ta]/\HistAt H h N ds/\HG N ds/\H ta=some (.tup (rs.map V.ref))/\AksAt H rs ks/\(∀k∈ks,AkOk N ds.length k)/\ks.length<=60/\∀r H',Same H H'->H' r=some (.tup (ks.map (Kw N ds)))->Q (.ref r) H'
def dbF(N:Nat)(S:List T4):List T4:=S.flatMap λt=>[tw1 N t,tw2 N t]
theorem Z4{N i:Nat}{S:List T4}{t:T4}(h:S[i]? =some t):dbF N (S.take (i+1))=dbF N (S.take i)++[tw1 N t,tw2 N t]:=by
 unfold dbF;rw[A9 h,List.flatMap_append];simp
theorem mem_db{N:Nat}{S:List T4}{t:T4}:t∈dbF N S↔t∈twF N S:=by
 unfold dbF twF;rw[mem_flatMap,mem_append,mem_map,mem_map];constructor
 ·rintro⟨x,hx,h⟩;simp only[Qa9,not_mem_nil,or_false] at h;rcases h with rfl|rfl
  ·exact .inl ⟨x,hx,rfl⟩
  ·exact .inr ⟨x,hx,rfl⟩
 ·rintro(⟨x,hx,rfl⟩|⟨x,hx,rfl⟩)
  ·exact⟨x,hx,by simp⟩
  ·exact⟨x,hx,by simp⟩
theorem db_len(N:Nat)(S:List T4):(dbF N S).length=2 * S.length:=by
 unfold dbF
 induction S with
 |nil=>rfl
 |cons t S ih=>simp only[List.flatMap_cons,Qa0,ih,Qa6,Qb9];omega
theorem lab_db{N:Nat}{S:List T4}{l:List Nat}(h:Ft (2 * N) (dbF N S) l):Ft (2 * N) (twF N S) l:=
 ⟨h.len,λu v hu hv=>(h.iff u v hu hv).trans ⟨λr=>r.mono λt ht=>mem_db.mp ht,λr=>r.mono λt ht=>mem_db.mpr ht⟩⟩
def Rm:Sp:=λvs H Q _=>∃(N:Nat) (st:Addr) (S:List T4),vs=[.int (N:Int),.ref st]/\StandT H st S/\InN N S/\N<=30/\S.length<=60/\∀H',Same H H'->Q (.bl (Jy S)) H'
def spDue:Sp:=λvs H Q _=>∃(h r:Addr) (N:Nat) (ds:List Dd) (k:Ak),vs=[.ref h,.ref r]/\HistAt H h N ds/\HG N ds/\H r=some (.tup k.vs)/\AkOk N ds.length k/\∀H',Same H H'->Q (Kw N ds k) H'
def spAsk:Sp:=λvs H Q _=>∃(d c h:Addr) (N:Nat) (ds:List Dd),vs=[.ref d,.ref h]/\DeckAt H d c/\HistAt H h N ds/\HG N ds/\∀(r:Addr) (k:Ak) (H':Hp),But d c H H'->DeckAt H' d c->H' r=some (.tup k.vs)->AkOk N ds.length k->Q (.ref r) H'
theorem Js{H:Hp}{qs:List Addr}{S:List T4}{q:Addr}{t:T4}(h:Jg H qs S)(hq:H q=some (.tup [.int (t.2.1:Int),.int (t.2.2.1:Int)])):Jg H (qs++[q]) (S++[t]):=by
 refine⟨by rw[Qa0,Qa0,h.1];rfl,λi r0 p0 e1 e2=> ?_⟩;rw[getElem?_append] at e1 e2;rw[h.1] at e1;split at e1
 ·rename_i z;rw[Qa3 z] at e2;exact h.2 i r0 p0 e1 e2
 ·rename_i z;rw[Qa2 z] at e2;have hz:i - S.length=0:=by
   have:=(List.getElem?_eq_some_iff.mp e1).1;simp only[Qa6,Qb9] at this;omega
  rw[hz] at e1 e2;cases e1;cases e2;exact hq
theorem Of{H H':Hp}{qs:List Addr}{S:List T4}(h:Jg H qs S)(f:∀r xs,H r=some (.tup xs)->H' r=some (.tup xs)):Jg H' qs S:=⟨h.1,λi q t a b=>f _ _ (h.2 i q t a b)⟩
theorem M6{H:Hp}{rs:List Addr}{S:List T4}(h:TiesAt H rs S){i:Nat}{r:Addr}(hr:rs[i]? =some r):∃t,S[i]? =some t/\H r=some (.tup (Hy t)):=by
 have hi:i<S.length:=by rw[<-h.1];exact(List.getElem?_eq_some_iff.mp hr).1
 exact⟨S[i],Cb hi,h.2 i r _ hr (Cb hi)⟩
theorem cut12(t:T4):Ec (Hy t) (some (1:Int)) (some (3:Int))=[.int (t.2.1:Int),.int (t.2.2.1:Int)]:=by
 have:=Xg (t,0,false);unfold Et at this;rw[<-this];rfl
theorem scAns:Ax ["many","stand","ask","word"] ["many","stand","ask"] (Ah sAns):=⟨rfl,rfl,rfl,by decide+kernel,rfl,by decide+kernel,by decide+kernel⟩
theorem ok_Ans{f:Addr}{fd:FuncData}(F:Fun K "answer_of" "answer_of" sAns f fd)(T:Txt mg)(GJoined:Cl P w K mg base 7 "are_joined" ["many","stand","one","other"] J2)(GParts:Cl P w K mg base 7 "parts_of" ["many","stand"] Mj)(GPart:Cl P w K mg base 7 "part_of" ["many","stand","place"] Kt)(GHaveTwo:Cl P w K mg base 7 "have_two_sides" ["many","stand"] Ld):
  FnOk P w K mg base CX0 8 f fd ["many","stand","ask"] spAns:=by
 refine F.ok scAns (λvs H Q E h=> ?_) (λcdv A outer s H vs Q E hr h=> ?_)
 ·obtain⟨_,_,_,_,_,_,rfl,_⟩:=h;rfl
 ·obtain⟨N,L,st,r,S,kk,rfl,hst,sok,N30,hr1,ok,k⟩:=h;refine⟨_,Ae (Ao (i:=3) scAns.nd rfl (Or.inl rfl) (Aq Az (pv 2) Af (λ_ _=>rfl)))
   (Ae (Be (As Bl (pv 3) Ba (Ar _)) (Ag (Ap (Au GJoined hr (Aa (pv 0) (Aa (pv 1) (Aa (Aq Az (pv 2) Af (λ_ _=>rfl)) (Aa (Aq Az (pv 2) Af (λ_ _=>rfl)) Ad))))))) A2)
   (Ae (Be (As Bl (pv 3) Ba (Ar _)) (Ag (Ap (Ay A8 (by rfl) T.len PySem.boot_len (Aa (Au GParts hr (Aa (pv 0) (Aa (pv 1) Ad))) Ad)))) A2)
   (Ae (Be (As Bl (pv 3) Ba (Ar _)) (Ag (Ap (Ay A8 (by rfl) T.len PySem.boot_len (Aa (Au GPart hr (Aa (pv 0) (Aa (pv 1) (Aa (Aq Az (pv 2) Af (λ_ _=>rfl)) Ad)))) Ad)))) A2)
   (Ag (Ap (Au GHaveTwo hr (Aa (pv 0) (Aa (pv 1) Ad)))))))),?_⟩
  have Sl:=sok.len;cases kk with
  |jo n p q=>
   refine⟨_,rfl,r,_,0,_,rfl,rfl,SqT.of hr1,Ai (j:=0) rfl,?_⟩;refine⟨_,rfl,rfl,_,rfl,Dg ?_⟩;exact⟨_,rfl,_,rfl,_,rfl,r,_,2,_,rfl,rfl,SqT.of hr1,Ai (j:=2) rfl,_,rfl,r,_,3,_,rfl,rfl,SqT.of hr1,Ai (j:=3) rfl,N,st,S,p,q,rfl,hst,sok.inn,by omega,by omega,ok.2.1,k⟩
  |pa n=>
   refine⟨_,rfl,r,_,0,_,rfl,rfl,SqT.of hr1,Ai (j:=0) rfl,?_⟩;refine⟨_,rfl,rfl,_,rfl,Bp ?_⟩;dsimp only[Bc];refine⟨_,rfl,rfl,_,rfl,Dg ?_⟩;refine⟨_,rfl,_,rfl,N,st,S,rfl,hst,sok.inn,by omega,by omega,λa as H' s' ha hp=>⟨a,_,rfl,.inr (SqT.of ha),?_⟩⟩;rw[If,hp.1];exact k H' s'
  |si n p=>
   refine⟨_,rfl,r,_,0,_,rfl,rfl,SqT.of hr1,Ai (j:=0) rfl,?_⟩;refine⟨_,rfl,rfl,_,rfl,Bp ?_⟩;dsimp only[Bc];refine⟨_,rfl,rfl,_,rfl,Bp ?_⟩;dsimp only[Bc];refine⟨_,rfl,rfl,_,rfl,Dg ?_⟩;refine⟨_,rfl,_,rfl,_,rfl,r,_,2,_,rfl,rfl,SqT.of hr1,Ai (j:=2) rfl,N,st,S,p,rfl,hst,sok.inn,by omega,by omega,ok.2,λa H' s' ha=>⟨a,_,rfl,.inr (SqT.of ha),?_⟩⟩;rw[If,If];exact k H' s'
  |ev n=>
   refine⟨_,rfl,r,_,0,_,rfl,rfl,SqT.of hr1,Ai (j:=0) rfl,?_⟩;refine⟨_,rfl,rfl,_,rfl,Bp ?_⟩;dsimp only[Bc];refine⟨_,rfl,rfl,_,rfl,Bp ?_⟩;dsimp only[Bc];refine⟨_,rfl,rfl,_,rfl,Bp ?_⟩;dsimp only[Bc];exact⟨_,rfl,_,rfl,N,st,S,rfl,hst,sok,N30,k⟩
theorem scAFrom:Ax ["layers","ask","many","rows"] ["layers","ask"] (Ah Qg):=⟨rfl,rfl,rfl,by decide+kernel,rfl,by decide+kernel,by decide+kernel⟩
theorem U8{f:Addr}{fd:FuncData}(F:Fun K "answer_from" "answer_from" Qg f fd)(T:Txt mg)(GAns:Cl P w K mg base 8 "answer_of" ["many","stand","ask"] spAns)(GStandO:Cl P w K mg base 8 "stand_of" ["layers"] Ju)(GKept:Cl P w K mg base 8 "kept_from" ["rows","layer"] Qf):
  FnOk P w K mg base CX0 9 f fd ["layers","ask"] Sg:=by
 refine F.ok scAFrom (λvs H Q E h=> ?_) (λcdv A outer s H vs Q E hr h=> ?_)
 ·obtain⟨_,_,_,_,_,_,_,rfl,_⟩:=h;rfl
 ·obtain⟨h,r,N,L,R,S,kk,rfl,hl,G,N24,hr0,ok,k⟩:=h;refine⟨_,Ae (Di (pv 0) (Cy rfl (At (Aj (i:=2) scAFrom.nd rfl (Or.inl rfl)) (At (Aj (i:=3) scAFrom.nd rfl (Or.inl rfl)) Cc))))
   (Ae (Be (As Bl (Aq Az (pv 1) Af (λ_ _=>rfl)) Ba (Ar _)) (Ag (Ap (Au GAns hr (Aa (pv 2) (Aa (Au GStandO hr (Aa (pv 0) Ad)) (Aa (pv 1) Ad)))))) A2)
   (Ag (Ap (Au GAns hr (Aa (pv 2) (Aa (Au GKept hr (Aa (pv 3) (Aa Af Ad))) (Aa (pv 1) Ad))))))),?_⟩
  obtain⟨tp,rs,eh,et,hR⟩:=id hl;have G1:=G.g;have pm:=G.pm;have N60:N<=60:=by omega
  have fin:Fd N (R.map (·.1)) kk=Fd N S kk:=Nc pm G1.in1 N60 ok;refine⟨_,rfl,h,_,rfl,SqT.of eh,rfl,_,_,rfl,_,_,rfl,rfl,?_⟩;cases kk with
  |ev n=>
   refine⟨_,rfl,r,_,0,_,rfl,rfl,SqT.of hr0,Ai (j:=0) rfl,rfl,_,rfl,Dg ?_⟩;refine⟨_,rfl,_,rfl,h,N,R,rfl,hl,G1.len,λst H1 s1 st1=> ?_⟩;have sok:SOk N (R.map (·.1)):=by rw[<-Qs];exact G1.sok _
   exact⟨_,rfl,N,L,st,r,(R.map (·.1):List T4),.ev n,rfl,(show Jn H1 st (R.map (·.1)) (.ev n) from st1),sok,by omega,s1 _ _ hr0,ok,λH' s'=>by rw[fin];exact k H' (s1.trans s')⟩
  |jo n p q=>
   refine⟨_,rfl,r,_,0,_,rfl,rfl,SqT.of hr0,Ai (j:=0) rfl,rfl,_,rfl,Bp ?_⟩;dsimp only[Bc];refine⟨_,rfl,_,rfl,tp,rs,R,0,rfl,et,hR,G1.len,λst H1 s1 st1=> ?_⟩;exact⟨_,rfl,N,L,st,r,tiF R (kpB 0),.jo n p q,rfl,(show Jn H1 st (tiF R (kpB 0)) (.jo n p q) from .inl st1),G1.sok _,by omega,s1 _ _ hr0,ok,λH' s'=>by rw[Kg G1 N60 ok (λ_ z=>by cases z),fin];exact k H' (s1.trans s')⟩
  |pa n=>
   refine⟨_,rfl,r,_,0,_,rfl,rfl,SqT.of hr0,Ai (j:=0) rfl,rfl,_,rfl,Bp ?_⟩;dsimp only[Bc];refine⟨_,rfl,_,rfl,tp,rs,R,0,rfl,et,hR,G1.len,λst H1 s1 st1=> ?_⟩;exact⟨_,rfl,N,L,st,r,tiF R (kpB 0),.pa n,rfl,(show Jn H1 st (tiF R (kpB 0)) (.pa n) from .inl st1),G1.sok _,by omega,s1 _ _ hr0,ok,λH' s'=>by rw[Kg G1 N60 ok (λ_ z=>by cases z),fin];exact k H' (s1.trans s')⟩
  |si n p=>
   refine⟨_,rfl,r,_,0,_,rfl,rfl,SqT.of hr0,Ai (j:=0) rfl,rfl,_,rfl,Bp ?_⟩;dsimp only[Bc];refine⟨_,rfl,_,rfl,tp,rs,R,0,rfl,et,hR,G1.len,λst H1 s1 st1=> ?_⟩;exact⟨_,rfl,N,L,st,r,tiF R (kpB 0),.si n p,rfl,(show Jn H1 st (tiF R (kpB 0)) (.si n p) from .inl st1),G1.sok _,by omega,s1 _ _ hr0,ok,λH' s'=>by rw[Kg G1 N60 ok (λ_ z=>by cases z),fin];exact k H' (s1.trans s')⟩
theorem scOnes:Ax ["history","asks","told"] ["history","asks"] (Ah Q7):=⟨rfl,rfl,rfl,by decide+kernel,rfl,by decide+kernel,by decide+kernel⟩
theorem Yd{f:Addr}{fd:FuncData}(F:Fun K "answers_one_by_one" "answers_one_by_one" Q7 f fd)(T:Txt mg)(GAll:Cl P w K mg base 9 "all_layers" ["history"] spAll)(GAFrom:Cl P w K mg base 9 "answer_from" ["layers","ask"] Sg):
  FnOk P w K mg base CX0 10 f fd ["history","asks"] Wg:=by
 refine F.ok scOnes (λvs H Q E h=> ?_) (λcdv A outer s H vs Q E hr h=> ?_)
 ·obtain⟨_,_,_,_,_,_,rfl,_⟩:=h;rfl
 ·obtain⟨h,ta,N,ds,rs,ks,rfl,hh,hG,hta,hak,ok,k60,k⟩:=h;refine⟨_,Ae (Ao (i:=2) scOnes.nd rfl (Or.inr rfl) (Au GAll hr (Aa (pv 0) Ad)))
   (Ag (Ap (A6 A7 (by rfl) T.tuple (by decide+kernel) (Aa (Bj (T:=["ask"]) (F:=["told"]) (js:=[2]) (cs (osc:=Ah Q7)) rfl (Ca (pv 1)) (λ_ _ _ _ _=>Aj (i:=0) (show (["ask","told"]:List Str).Nodup by decide+kernel) rfl (Or.inl rfl)) (λ_ _ _ _ _=>Bt) (λ_ _ _ _ _=>Au GAFrom hr (Aa (Aq (r:=Xj K) A4 (pv 1) (Aq (r:=J4 K) Az (pv 0) Af (λ_ _=>rfl)) (λ_ _=>rfl)) (Aa (pv 0) Ad)))) Ad)))),?_⟩
  refine⟨_,rfl,h,N,ds,rfl,hh,hG,λl ls H1 s1 e1 L1=> ?_⟩;have ll:=L1.len;refine⟨_,rfl,ta,rfl,⟨_,SqT.of (s1 _ _ hta)⟩,λD hD=>Cj (K:=K) (a:=ta) (xs:=rs.map V.ref) (λj σ ys H2=>∃(u:Option V),σ=[u,some (.ref l)]/\ys=(ks.take j).map (Kw N ds)/\Same H1 H2/\H2 D=some (.lst ys)) ⟨none,rfl,rfl,Ac hD,Ab⟩ (λj σ ys H2 _ ⟨_,_,_,s,e⟩=>⟨SqT.of (s _ _ (s1 _ _ hta)),e⟩) ?_ ?_⟩
  ·rintro j x σ ys H2 hx ⟨u,rfl,rfl,s2,d2⟩;obtain⟨r,er,rfl⟩:=A3 hx;obtain⟨kk,ek,hk⟩:=hak.get er;have kok:=ok _ (mem_of_getElem? ek);have kn:=kok.le;have h2:=s2 _ _ (s1 _ _ hk);have en:ls[kk.n]? =some (ls.getD kk.n 0):=by rw[Qa5,getElem?_eq_getElem (by omega)];rfl
   have al:atI (ls.map V.ref) (kk.n:Int)=some (.ref (ls.getD kk.n 0)):=Ai (by rw[getElem?_map,en];rfl);have lay:=(L1.lay kk.n _ en).same s2;have gd:=L1.gd kk.n kn;refine⟨_,rfl,_,rfl,r,_,1,_,rfl,rfl,SqT.of h2,Ai (vs_1 kk),l,_,(kk.n:Int),_,rfl,rfl,SqL.of (s2 _ _ e1),al,_,rfl,_,r,N,ds.length,_,_,kk,rfl,lay,gd,hG.n24,h2,kok,λH3 s3=>⟨s3 _ _ d2,An (by rw[If,Qb0];omega),_,rfl,?_,Aw (s2.trans s3) hD,Ab⟩⟩;rw[A9 ek,map_append];rfl
  rintro σ ys H2 ⟨u,rfl,rfl,s2,d2⟩;rw[If,hak.1,Qb3] at d2;exact⟨D,_,rfl,.inl ⟨SqL.of d2,λtq htq=>k tq _ ((s1.trans s2).trans (Ac htq)) Ab⟩⟩
def wd:Ak->Str
 | .jo _ _ _=>Str.ofString "joined"
 | .pa _=>Str.ofString "parts"
 | .si _ _=>Str.ofString "size"
 | .ev _=>Str.ofString "even"
theorem vs_0(k:Ak):k.vs[0]? =some (.str (wd k)):=by cases k<;> rfl
theorem wd_ev{k:Ak}(h:decide (V.str (wd k)=V.str (Str.ofString "even"))=true):∃n,k= .ev n:=by
 cases k with
 |ev n=>exact⟨n,rfl⟩
 |jo n p q=>exact absurd (show decide (V.str (Str.ofString "joined")=V.str (Str.ofString "even"))=true from h) (by decide+kernel)
 |pa n=>exact absurd (show decide (V.str (Str.ofString "parts")=V.str (Str.ofString "even"))=true from h) (by decide+kernel)
 |si n p=>exact absurd (show decide (V.str (Str.ofString "size")=V.str (Str.ofString "even"))=true from h) (by decide+kernel)
theorem To{x:Int}(h0:0<=x)(h1:x<5):∃z,atI [V.str (Str.ofString "joined"),.str (Str.ofString "joined"),.str (Str.ofString "parts"),.str (Str.ofString "size"),.str (Str.ofString "even")] x=some (.str z)/\(z=Str.ofString "joined"\/z=Str.ofString "parts"\/z=Str.ofString "size"\/z=Str.ofString "even"):=by
 have hx:x=0\/x=1\/x=2\/x=3\/x=4:=by omega
 rcases hx with rfl|rfl|rfl|rfl|rfl
 ·exact⟨_,rfl,.inl rfl⟩
 ·exact⟨_,rfl,.inl rfl⟩
 ·exact⟨_,rfl,.inr (.inl rfl)⟩
 ·exact⟨_,rfl,.inr (.inr (.inl rfl))⟩
 ·exact⟨_,rfl,.inr (.inr (.inr rfl))⟩
theorem scEvenL:Ax ["_law_many_here","_law_ties_here","_law_pairs","_law_tie","_law_labels"] ["_law_many_here","_law_ties_here"] (Ah Md):=⟨rfl,rfl,rfl,by decide+kernel,rfl,by decide+kernel,by decide+kernel⟩
theorem Wl{f:Addr}{fd:FuncData}(F:Fun K "_law_even" "_law_even" Md f fd)(T:Txt mg)(GGroups:Cl P w K mg base 1 "_law_groups" ["_law_many_here","_law_pairs"] Jz):
  FnOk P w K mg base CX0 2 f fd ["_law_many_here","_law_ties_here"] Rm:=by
 refine F.ok scEvenL (λvs H Q E h=> ?_) (λcdv A outer s H vs Q E hr h=> ?_)
 ·obtain⟨_,_,_,rfl,_⟩:=h;rfl
 ·obtain⟨N,st,S,rfl,⟨rs,hst,hS⟩,hN,N30,S60,k⟩:=h;refine⟨_,Ae (Ao (i:=2) scEvenL.nd rfl (Or.inl rfl) (Bq Ad))
   (Ae (Ct PassesOwn.never rfl (Ca (pv 1)) (Aj (i:=3) scEvenL.nd rfl (Or.inl rfl)) (Ag (Cn (Dk Qb7 PySem.F.slot_list_extend PySem.F.type_list_extend Tf (pv 2) (Aa (Bq (Aa (A5 (Aa (Aq Az (pv 3) Af (λ_ _=>rfl)) (Aa (A0 Bo (Aq Az (pv 3) Af (λ_ _=>rfl)) (pv 0)) Ad))) (Aa (A5 (Aa (A0 Bo (Aq Az (pv 3) Af (λ_ _=>rfl)) (pv 0)) (Aa (Aq Az (pv 3) Af (λ_ _=>rfl)) Ad))) Ad))) Ad)))))
   (Ae (Ao (i:=4) scEvenL.nd rfl (Or.inr rfl) (Au GGroups hr (Aa (A0 D8 Af (pv 0)) (Aa (pv 2) Ad))))
   (Ag (Ap (Bg (Oy hr.units) (Bj (T:=["_law_place"]) (F:=["_law_labels","_law_many_here"]) (js:=[4,0]) (cs (osc:=Ah Md)) rfl (Cg rfl T.range (Aa (pv 0) Ad)) (λ_ _ _ _ _=>Aj (i:=0) (show (["_law_place","_law_labels","_law_many_here"]:List Str).Nodup by decide+kernel) rfl (Or.inl rfl)) (λ_ _ _ _ _=>Cs (As Bl (Aq (r:=Xj K) A4 (pv 1) (pv 0) (λ_ _=>rfl)) (Aq (r:=Xj K) A4 (pv 1) (A0 Bo (pv 0) (pv 2)) (λ_ _=>rfl)) (Ar _))) (λ_ _ _ _ _=>pv 0)) (Bq Ad) (Ar _)))))),?_⟩
  refine⟨small (by simp),λpl hpl=> ?_⟩;have s1:=Ac (o:= .lst []) hpl;have p1:=Ab (H:=H) (a:=pl) (o:= .lst []);generalize upd H pl (.lst [])=H1 at s1 p1 ⊢;refine⟨_,rfl,st,rfl,⟨_,SqT.of (s1 _ _ hst)⟩,Ex (K:=K) (a:=st) (xs:=rs.map V.ref) (λi σ H2=>∃(u3:Option V) (qs:List Addr),σ=[some (.int (N:Int)),some (.ref st),some (.ref pl),u3,none]/\Same H H2/\H2 pl=some (.lst (qs.map V.ref))/\Jg H2 qs (dbF N (S.take i))) ⟨none,[],rfl,s1,p1,rfl,λi q t e=>by simp at e⟩ (λi σ H2 _ ⟨_,_,_,s,_⟩=>SqT.of (s _ _ hst)) ?_ ?_⟩
  ·rintro i x σ H2 hx ⟨u3,qs,rfl,s2,p2,P2⟩;obtain⟨r,er,rfl⟩:=A3 hx;obtain⟨t,et,ht⟩:=M6 hS er;have h2:=s2 _ _ ht;have ql:qs.length<=120:=by rw[P2.1,db_len,Qb0];omega
   refine⟨_,rfl,.inl ⟨rfl,_,SqL.of p2⟩,_,rfl,r,_,1,_,rfl,rfl,SqT.of h2,Ai (j:=1) rfl,_,rfl,r,_,2,_,rfl,rfl,SqT.of h2,Ai (j:=2) rfl,_,rfl,_,_,rfl,rfl,small (by simp),λq1 hq1=> ?_⟩;have s3:=Ac (o:= .tup [.int (t.2.1:Int),.int ((t.2.2.1:Int)+(N:Int))]) hq1;have e3:upd H2 q1 (.tup [.int (t.2.1:Int),.int ((t.2.2.1:Int)+(N:Int))]) q1=some (.tup [.int ((tw1 N t).2.1:Int),.int ((tw1 N t).2.2.1:Int)]):=Ab;generalize upd H2 q1 (.tup [.int (t.2.1:Int),.int ((t.2.2.1:Int)+(N:Int))])=H3 at s3 e3 ⊢;have h3:=s3 _ _ h2;refine⟨_,rfl,r,_,1,_,rfl,rfl,SqT.of h3,Ai (j:=1) rfl,_,rfl,_,_,rfl,rfl,_,rfl,r,_,2,_,rfl,rfl,SqT.of h3,Ai (j:=2) rfl,small (by simp),λq2 hq2=> ?_⟩;have s4:=Ac (o:= .tup [.int ((t.2.1:Int)+(N:Int)),.int (t.2.2.1:Int)]) hq2;have e4:upd H3 q2 (.tup [.int ((t.2.1:Int)+(N:Int)),.int (t.2.2.1:Int)]) q2=some (.tup [.int ((tw2 N t).2.1:Int),.int ((tw2 N t).2.2.1:Int)]):=Ab;generalize upd H3 q2 (.tup [.int ((t.2.1:Int)+(N:Int)),.int (t.2.2.1:Int)])=H4 at s4 e4 ⊢;refine⟨small (by simp),λb hb=> ?_⟩;have s5:=Ac (o:= .lst [.ref q1,.ref q2]) hb;have b5:=Ab (H:=H4) (a:=b) (o:= .lst [.ref q1,.ref q2]);generalize upd H4 b (.lst [.ref q1,.ref q2])=H5 at s5 b5 ⊢;have S5:=(s3.trans s4).trans s5;have p5:=S5 _ _ p2;refine⟨pl,b,_,_,rfl,rfl,p5,b5,small (by rw[If];show qs.length+2<=10000;omega),?_⟩;have kp:∀(r:Addr) (zs:List V) (o:HO),H5 r=some (.tup zs)->upd H5 pl o r=some (.tup zs):=λr zs o e=>by rw[Al (Bx e p5 (by intro z;cases z))];exact e
   refine⟨_,(qs++[q1])++[q2],rfl,Aw (s2.trans S5) hpl,by rw[Ab,append_assoc,map_append];rfl,?_⟩;rw[Z4 et,show dbF N (S.take i)++[tw1 N t,tw2 N t]=(dbF N (S.take i)++[tw1 N t])++[tw2 N t] by rw[append_assoc];rfl];exact Js (Js (Of P2 λr xs e=>kp _ _ _ (S5 _ _ e)) (kp _ _ _ (s5 _ _ (s4 _ _ e3)))) (kp _ _ _ (s5 _ _ e4))
  rintro σ H2 ⟨u3,qs,rfl,s2,p2,P2⟩;rw[If,hS.1,Qb3] at P2;refine⟨_,rfl,_,_,rfl,rfl,.inr ⟨by omega,by omega⟩,_,rfl,2 * N,pl,qs,dbF N S,by rw[show (2:Int) * (N:Int)=((2 * N:Nat):Int) by omega];rfl,p2,P2,λt ht=>tw_in hN t (mem_db.mp ht),by omega,λl labs H4 s4 l4 lab'=> ?_⟩;have lab:=lab_db lab';have ll:=lab.len;have s04:=s2.trans s4;refine⟨_,rfl,(N:Int),rfl,by omega,by omega,λF hF=>Cu (lo:=0) (n:=(N:Int).toNat) (λi σ ys H5=>∃(u0:Option V) (zs:List Int),σ=[u0,some (.ref l),some (.int (N:Int))]/\ys=zs.map V.int/\Same H4 H5/\H5 F=some (.lst ys)/\zs.length<=i/\(zs=[]↔∀p,p<i->¬labs.getD p 0=labs.getD (p+N) 0)) ⟨none,[],rfl,rfl,Ac hF,Ab,le_refl _,by simp⟩ (λi σ ys H5 _ ⟨_,_,_,_,_,e,_⟩=>e) ?_ ?_⟩
  ·rintro i σ ys H5 hi ⟨u0,zs,rfl,rfl,s5,F5,zl,ze⟩;have hi:i<N:=by simpa using hi
   have a1:atI (psV labs) (i:Int)=_:=Ai (J9 (l:=labs) (v:=i) (by omega));have a2:atI (psV labs) ((i+N:Nat):Int)=_:=Ai (J9 (l:=labs) (v:=i+N) (by omega));have z1:(0:Int)+(i:Int)=(i:Int):=by omega
   have z2:(0:Int)+(i:Int)+(N:Int)=((i+N:Nat):Int):=by omega
   refine⟨_,rfl,_,rfl,l,_,_,_,rfl,rfl,SqL.of (s5 _ _ l4),by rw[z1];exact a1,_,rfl,_,rfl,_,rfl,_,_,rfl,rfl,l,_,_,_,rfl,rfl,SqL.of (s5 _ _ l4),by rw[z2];exact a2,rfl,_,rfl,Bz (λg=> ?_) λg=> ?_⟩
   ·have e:labs.getD i 0=labs.getD (i+N) 0:=by have:=Qb1 g;injection this with this;omega
    refine⟨_,rfl,F5,An (by rw[If];omega),_,zs++[0+(i:Int)],rfl,by rw[map_append];rfl,Aw s5 hF,Ab,by rw[Qa0];show _+1<=_;omega,?_⟩;constructor
    ·intro h;simp at h
    ·intro h;exact absurd e (h i (by omega))
   ·have e:¬labs.getD i 0=labs.getD (i+N) 0:=λz=>g (by rw[z];exact decide_eq_true rfl);refine⟨_,zs,rfl,rfl,s5,F5,by omega,?_⟩;rw[ze];constructor
    ·intro h p hp;rcases lt_or_ge p i with c|c
     ·exact h p c
     ·rw[show p=i by omega];exact e
    ·intro h p hp;exact h p (by omega)
  ·rintro σ ys H5 ⟨u0,zs,rfl,rfl,s5,F5,zl,ze⟩;refine⟨small (by simp),λe he=> ?_⟩;have se:=Ac (o:= .lst []) he;have ev:(zs.map V.int).isEmpty=Jy S:=by
    have key:=tw_two hN lab;rw[show (N:Int).toNat=N by simp] at ze;by_cases g:Two S
    ·rw[L5 g,ze.mpr (key.mpr g)];rfl
    ·rw[L0 g];cases zs with
     |nil=>exact absurd (key.mp (ze.mp rfl)) g
     |cons _ _=>rfl
   refine⟨F,e,_,rfl,rfl,SqL.of (se _ _ F5),SqL.of Ab,?_⟩;rw[ev];exact k _ ((s04.trans s5).trans se)
theorem scDue:Ax ["_law_history_here","_law_ask_here","_law_many_here","_law_ties_here","_law_labels"] ["_law_history_here","_law_ask_here"] (Ah Zc):=⟨rfl,rfl,rfl,by decide+kernel,rfl,by decide+kernel,by decide+kernel⟩
theorem ok_Due{f:Addr}{fd:FuncData}(F:Fun K "_law_due" "_law_due" Zc f fd)(T:Txt mg)(GTiesL:Cl P w K mg base 2 "_law_ties" ["_law_history_here","_law_n"] Q3)(GEvenL:Cl P w K mg base 2 "_law_even" ["_law_many_here","_law_ties_here"] Rm)(GGroups:Cl P w K mg base 2 "_law_groups" ["_law_many_here","_law_pairs"] Jz):
  FnOk P w K mg base CX0 3 f fd ["_law_history_here","_law_ask_here"] spDue:=by
 refine F.ok scDue (λvs H Q E h=> ?_) (λcdv A outer s H vs Q E hr h=> ?_)
 ·obtain⟨_,_,_,_,_,rfl,_⟩:=h;rfl
 ·obtain⟨h,r,N,ds,kk,rfl,hh,hG,hr0,ok,k⟩:=h;refine⟨_,Ae (Ao (i:=2) scDue.nd rfl (Or.inl rfl) (Aq Az (pv 0) Af (λ_ _=>rfl)))
   (Ae (Ao (i:=3) scDue.nd rfl (Or.inl rfl) (Au GTiesL hr (Aa (pv 0) (Aa (Aq Az (pv 1) Af (λ_ _=>rfl)) Ad))))
   (Ae (Be (As Bl (Aq Az (pv 1) Af (λ_ _=>rfl)) Ba (Ar _)) (Ag (Ap (Au GEvenL hr (Aa (pv 2) (Aa (pv 3) Ad))))) A2)
   (Ae (Ao (i:=4) scDue.nd rfl (Or.inl rfl) (Au GGroups hr (Aa (pv 2) (Aa (Bj (T:=["_law_tie"]) (F:=[]) (js:=[]) (cs (osc:=Ah Zc)) rfl (Ca (pv 3)) (λ_ _ _ _ _=>Aj (i:=0) (show (["_law_tie"]:List Str).Nodup by decide+kernel) rfl (Or.inl rfl)) (λ_ _ _ _ _=>Bt) (λ_ _ _ _ _=>Ce (r:=Ij K) Dc (pv 0) (Br Af) (Br Af))) Ad))))
   (Ae (Be (As Bl (Aq Az (pv 1) Af (λ_ _=>rfl)) Ba (Ar _)) (Ag (Ap (Sq rfl (pv 4) rfl T.len rfl T.set))) A2)
   (Ae (Be (As Bl (Aq Az (pv 1) Af (λ_ _=>rfl)) Ba (Ar _)) (Ag (Ap (Dk Qb7 PySem.F.slot_list_count PySem.F.type_list_count Sz (pv 4) (Aa (Aq A4 (pv 4) (Aq Az (pv 1) Af (λ_ _=>rfl)) (λ_ _=>rfl)) Ad)))) A2)
   (Ag (Ap (Bg Bl (Aq A4 (pv 4) (Aq Az (pv 1) Af (λ_ _=>rfl)) (λ_ _=>rfl)) (Aq A4 (pv 4) (Aq Az (pv 1) Af (λ_ _=>rfl)) (λ_ _=>rfl)) (Ar _))))))))),?_⟩
  obtain⟨tp,rs,eh,et,hdd⟩:=id hh;have kn:=ok.le;have gd:=Xm hG kk.n kn;have N24:=hG.n24;have N60:N<=60:=by omega
  refine⟨_,rfl,h,_,0,_,rfl,rfl,SqT.of eh,Ai (j:=0) rfl,?_⟩;refine⟨_,rfl,_,rfl,r,_,1,_,rfl,rfl,SqT.of hr0,Ai (vs_1 kk),h,N,ds,kk.n,_,rfl,hh,hG,kn,gd,λst H1 s1 st1=> ?_⟩;have hr1:=s1 _ _ hr0;have fin:Fd N ((Gx N (ds.take kk.n)).map (·.1)) kk=Kw N ds kk:=Nc gd.pm gd.g.in1 N60 ok;have hS:=gd.g.in1;have SL:((Gx N (ds.take kk.n)).map (·.1)).length<=60:=by rw[If];exact gd.g.len
  clear gd;generalize (Gx N (ds.take kk.n)).map (·.1)=S at fin hS SL st1;refine⟨_,rfl,r,_,0,_,rfl,rfl,SqT.of hr1,Ai (vs_0 kk),rfl,_,rfl,Bz (λg=> ?_) λg=> ?_⟩
  ·obtain⟨n,rfl⟩:=wd_ev g;exact⟨_,rfl,_,rfl,N,st,S,rfl,st1,hS,by omega,SL,λH' s'=>by have:=k H' (s1.trans s');rw[<-fin] at this;exact this⟩
  obtain⟨qs,e1,t1⟩:=id st1;dsimp only[Bc];refine⟨_,rfl,_,rfl,st,rfl,⟨_,SqT.of e1⟩,λD hD=>Cj (K:=K) (a:=st) (xs:=qs.map V.ref) (λj σ ys H2=>∃(u:Option V) (ps:List Addr),σ=[u]/\ys=ps.map V.ref/\Same H1 H2/\H2 D=some (.lst ys)/\Jg H2 ps (S.take j)) ⟨none,[],rfl,rfl,Ac hD,Ab,rfl,λi r t e=>by simp at e⟩ (λj σ ys H2 _ ⟨_,_,_,_,s,e,_⟩=>⟨SqT.of (s _ _ e1),e⟩) ?_ ?_⟩
  ·rintro j x σ ys H2 hx ⟨u,ps,rfl,rfl,s2,d2,p2⟩;obtain⟨q,eq,rfl⟩:=A3 hx;obtain⟨t,et,ht⟩:=M6 t1 eq;have h2:=s2 _ _ ht;have pl:ps.length<=60:=by rw[p2.1,Qb0];omega
   refine⟨_,rfl,_,rfl,_,rfl,Cz h2 λw H3 s3 e3=> ?_⟩;rw[cut12] at e3;have d3:=s3 _ _ d2;have kp:∀(r:Addr) (zs:List V) (o:HO),H3 r=some (.tup zs)->upd H3 D o r=some (.tup zs):=λr zs o e=>by rw[Al (Bx e d3 (by intro z;cases z))];exact e
   refine⟨d3,An (by rw[If];omega),_,ps++[w],rfl,by rw[map_append];rfl,Aw (s2.trans s3) hD,Ab,?_⟩;rw[A9 et];exact Js (Of p2 λr xs e=>kp _ _ _ (s3 _ _ e)) (kp _ _ _ e3)
  rintro σ ys H2 ⟨u,ps,rfl,rfl,s2,d2,p2⟩;rw[If,t1.1,Qb3] at p2;refine⟨N,D,ps,S,rfl,d2,p2,hS,N60,λl labs H3 s3 l3 lab=> ?_⟩;have S3:=(s1.trans s2).trans s3;have hr3:=s3 _ _ (s2 _ _ hr1);have lL:=lab.len;cases kk with
  |ev n=>exact absurd (decide_eq_true rfl) g
  |pa n=>
   refine⟨_,rfl,r,_,0,_,rfl,rfl,SqT.of hr3,Ai (j:=0) rfl,rfl,_,rfl,Dg ?_⟩;rw[<-Mo] at l3;refine⟨_,rfl,l,labs.map ofNat,rfl,l3,by rw[If,lL];omega,λms nd mem=> ?_⟩;rw[M0 lab nd mem,<-ls_cls hS (by omega)];have:=k H3 S3;rw[<-fin] at this;exact this
  |si n p=>
   refine⟨_,rfl,r,_,0,_,rfl,rfl,SqT.of hr3,Ai (j:=0) rfl,rfl,_,rfl,Bp ?_⟩;dsimp only[Bc];refine⟨_,rfl,r,_,0,_,rfl,rfl,SqT.of hr3,Ai (j:=0) rfl,rfl,_,rfl,Dg ?_⟩;have ip:=J9 (l:=labs) (v:=p) (by rw[lL];exact ok.2);have l3':=l3;rw[<-Mo] at l3';refine⟨_,rfl,.inl ⟨rfl,_,SqL.of l3⟩,_,rfl,_,rfl,r,_,2,_,rfl,rfl,SqT.of hr3,Ai (j:=2) rfl,l,_,_,_,rfl,rfl,SqL.of l3,Ai ip,l,labs.map ofNat,_,rfl,rfl,l3',?_⟩;rw[show ((labs.map ofNat).count ((labs.getD p 0:Nat):Int))=(Am N S p).length from Wo hS N60 ok.2 lab];have:=k H3 S3;rw[<-fin] at this;exact this
  |jo n p q=>
   refine⟨_,rfl,r,_,0,_,rfl,rfl,SqT.of hr3,Ai (j:=0) rfl,rfl,_,rfl,Bp ?_⟩;dsimp only[Bc];refine⟨_,rfl,r,_,0,_,rfl,rfl,SqT.of hr3,Ai (j:=0) rfl,rfl,_,rfl,Bp ?_⟩;dsimp only[Bc];have ip:=J9 (l:=labs) (v:=p) (by rw[lL];exact ok.2.1);have iq:=J9 (l:=labs) (v:=q) (by rw[lL];exact ok.2.2);have e:decide (V.int ((labs.getD p 0:Nat):Int)=V.int ((labs.getD q 0:Nat):Int))=decide (q∈Am N S p):=by
    rw[Bool.eq_iff_iff,Qa4,Qa4,A1 hS ok.2.1 N60,<-lab.iff p q ok.2.1 ok.2.2];exact⟨λz=>⟨ok.2.2,ofNat.inj (V.int.inj z)⟩,λz=>by rw[z.2]⟩
   refine⟨_,rfl,_,rfl,r,_,2,_,rfl,rfl,SqT.of hr3,Ai (j:=2) rfl,l,_,_,_,rfl,rfl,SqL.of l3,Ai ip,_,rfl,_,rfl,r,_,3,_,rfl,rfl,SqT.of hr3,Ai (j:=3) rfl,l,_,_,_,rfl,rfl,SqL.of l3,Ai iq,rfl,?_⟩;rw[e];have:=k H3 S3;rw[<-fin] at this;exact this
theorem scAsk:Ax ["_law_deck_here","_law_history_here","_law_many_here","_law_n","_law_one","_law_word"] ["_law_deck_here","_law_history_here"] (Ah sAsk):=⟨rfl,rfl,rfl,by decide+kernel,rfl,by decide+kernel,by decide+kernel⟩
theorem ok_Ask{f:Addr}{fd:FuncData}(F:Fun K "_law_ask" "_law_ask" sAsk f fd)(T:Txt mg)(GTake:Cl P w K mg base 2 "_law_take" ["_law_deck_here","_law_most"] Gf):
  FnOk P w K mg base CX0 3 f fd ["_law_deck_here","_law_history_here"] spAsk:=by
 refine F.ok scAsk (λvs H Q E h=> ?_) (λcdv A outer s H vs Q E hr h=> ?_)
 ·obtain⟨_,_,_,_,_,rfl,_⟩:=h;rfl
 ·obtain⟨d,c,h,N,ds,rfl,hD,hh,hG,k⟩:=h;refine⟨_,Ae (Ao (i:=2) scAsk.nd rfl (Or.inl rfl) (Aq Az (pv 1) Af (λ_ _=>rfl)))
   (Ae (Ao (i:=3) scAsk.nd rfl (Or.inl rfl) (Au GTake hr (Aa (pv 0) (Aa (A0 Bo (Ay A8 (by rfl) T.len PySem.boot_len (Aa (Aq Az (pv 1) Af (λ_ _=>rfl)) Ad)) Af) Ad))))
   (Ae (Ao (i:=4) scAsk.nd rfl (Or.inl rfl) (Au GTake hr (Aa (pv 0) (Aa (pv 2) Ad))))
   (Ae (Ao (i:=5) scAsk.nd rfl (Or.inl rfl) (Aq A4 (Bq (Aa Ba (Aa Ba (Aa Ba (Aa Ba (Aa Ba Ad)))))) (Au GTake hr (Aa (pv 0) (Aa Af Ad))) (λ_ _=>rfl)))
   (Ae (Be (As Bl (pv 5) Ba (Ar _)) (Ag (Ap (A5 (Aa (pv 5) (Aa (pv 3) (Aa (pv 4) (Aa (Au GTake hr (Aa (pv 0) (Aa (pv 2) Ad))) Ad))))))) A2)
   (Ae (Be (As Bl (pv 5) Ba (Ar _)) (Ag (Ap (A5 (Aa (pv 5) (Aa (pv 3) (Aa (pv 4) Ad)))))) A2)
   (Ag (Ap (A5 (Aa (pv 5) (Aa (pv 3) Ad)))))))))),?_⟩
  obtain⟨tp,rs,eh,et,hdd⟩:=id hh;have n60:=hG.len;have N1:=hG.n1;have N24:=hG.n24;have lr:(rs.map V.ref).length=ds.length:=by rw[If,hdd.1]
  refine⟨_,rfl,h,_,0,_,rfl,rfl,SqT.of eh,Ai (j:=0) rfl,?_⟩;refine⟨_,rfl,_,rfl,h,_,1,_,rfl,rfl,SqT.of eh,Ai (j:=1) rfl,tp,_,rfl,.inr (SqT.of et),_,_,rfl,rfl,d,c,_,rfl,hD,by omega,by omega,λv H1 v0 v1 b1 D1=> ?_⟩;refine⟨_,rfl,_,rfl,d,c,_,rfl,D1,by omega,by omega,λw H2 w0 w1 b2 D2=> ?_⟩;refine⟨small (by simp),λl hl=>⟨_,rfl,d,c,5,rfl,D2.same (Ac hl),by decide,by decide,λx H3 x0 x1 b3 D3=> ?_⟩⟩;have lf:=Ci D2 hl;have l3:=b3 _ _ Ab lf.1 lf.2;obtain⟨z,hz,hw⟩:=To x0 x1;obtain⟨v,rfl⟩:∃n:Nat,v=(n:Int):=⟨v.toNat,by omega⟩
  obtain⟨w,rfl⟩:∃n:Nat,w=(n:Int):=⟨w.toNat,by omega⟩
  have vL:v<=ds.length:=by omega
  have wN:w<N:=by omega
  have B3:=(b1.trans b2).trans ((But.of (Ac hl)).trans b3);refine⟨l,_,x,_,rfl,rfl,SqL.of l3,hz,?_⟩;clear l3 hz lf b3 hl b1 b2;rcases hw with rfl|rfl|rfl|rfl
  ·refine⟨_,rfl,rfl,_,rfl,Dg ⟨_,rfl,_,rfl,_,rfl,_,rfl,_,rfl,d,c,_,rfl,D3,by omega,by omega,λy H4 y0 y1 b4 D4=>⟨small (by simp),λr hr'=> ?_⟩⟩⟩;obtain⟨y,rfl⟩:∃n:Nat,y=(n:Int):=⟨y.toNat,by omega⟩
   exact k r (.jo v w y) _ ((B3.trans b4).trans (But.of (Ac hr'))) (D4.same (Ac hr')) Ab ⟨vL,wN,by omega⟩
  ·refine⟨_,rfl,rfl,_,rfl,Bp ?_⟩;dsimp only[Bc];refine⟨_,rfl,rfl,_,rfl,Bp ?_⟩;dsimp only[Bc];exact⟨_,rfl,_,rfl,small (by simp),λr hr'=>k r (.pa v) _ (B3.trans (But.of (Ac hr'))) (D3.same (Ac hr')) Ab vL⟩
  ·refine⟨_,rfl,rfl,_,rfl,Bp ?_⟩;dsimp only[Bc];exact⟨_,rfl,rfl,_,rfl,Dg ⟨_,rfl,_,rfl,_,rfl,small (by simp),λr hr'=>k r (.si v w) _ (B3.trans (But.of (Ac hr'))) (D3.same (Ac hr')) Ab ⟨vL,wN⟩⟩⟩
  ·refine⟨_,rfl,rfl,_,rfl,Bp ?_⟩;dsimp only[Bc];refine⟨_,rfl,rfl,_,rfl,Bp ?_⟩;dsimp only[Bc];exact⟨_,rfl,_,rfl,small (by simp),λr hr'=>k r (.ev v) _ (B3.trans (But.of (Ac hr'))) (D3.same (Ac hr')) Ab vL⟩
theorem Zj{H:Hp}{ps qs:List Addr}{ks ls:List Ak}(h:AksAt H ps ks)(g:AksAt H qs ls):AksAt H (ps++qs) (ks++ls):=by
 refine⟨by rw[Qa0,Qa0,h.1,g.1],λi r k e1 e2=> ?_⟩;rw[getElem?_append] at e1 e2;rw[h.1] at e1;split at e1
 ·rename_i z;rw[Qa3 z] at e2;exact h.2 i r k e1 e2
 ·rename_i z;rw[Qa2 z] at e2;exact g.2 _ r k e1 e2
theorem Yb{H:Hp}{ps:List Addr}{ks:List Ak}(h:AksAt H ps ks):AksAt H ps.reverse ks.reverse:=by
 refine⟨by rw[Qd3,Qd3,h.1],λi r k e1 e2=> ?_⟩;have li:=(List.getElem?_eq_some_iff.mp e1).1;rw[Qd3] at li;have lk:i<ks.length:=by rw[<-h.1];exact li
 rw[List.getElem?_reverse li] at e1;rw[List.getElem?_reverse lk,<-h.1] at e2;exact h.2 _ r k e1 e2
theorem U9{N:Nat}{ds:List Dd}{ks:List Ak}{H:Hp}{a b:Addr}(ha:H a=some (.tup (ks.map (Kw N ds))))(hb:H b=some (.tup (ks.map (Kw N ds))))(l:ks.length<=100):SmV 4 H (.ref a) (.ref b):=by
 refine .inr ⟨a,b,_,_,rfl,rfl,ha,hb,rfl,by rw[If];exact l,λi u v e1 e2=> ?_⟩;rw[e1] at e2;cases e2;rw[getElem?_map] at e1;obtain⟨k,_,rfl⟩:=map_eq_some_iff.mp e1;refine .inl ⟨rfl,?_⟩;cases k with
 |jo n p q=>exact .inr (.inr (.inl ⟨_,rfl⟩))
 |pa n=>exact .inl ⟨_,rfl⟩
 |si n p=>exact .inl ⟨_,rfl⟩
 |ev n=>exact .inr (.inr (.inl ⟨_,rfl⟩))
def spSm:Sp:=Hv 4
def Rx(K:Frag):Sp:=λvs H Q _=>∃(s:Addr) (ns:List Int),vs=[.ref s]/\SqL K H s (ns.map V.int)/\ns.length<=63/\∀H',Q (.bl true) H'
theorem Zn{f:Addr}{fd:FuncData}(F:Fun K "_law_same" "_law_same" Kl f fd)(T:Txt mg)(kSame:keepIn K (.ref f)=true)(bSame:Binds K fd ["_law_thing","_law_due_here"] [])(hSame:mg "_law_same"=some (.ref f)):FnOk P w K mg base CX0 5 f fd ["_law_thing","_law_due_here"] spSm:=U7 F T kSame bSame hSame
theorem scLaw:Ax ["_law_script","_law_deck_here","_law_many_here","_law_most","_law_history_here","_law_count","_law_asks","_law_due_here","_law_turn"] ["_law_script"] (Ah Xk):=⟨rfl,rfl,rfl,by decide+kernel,rfl,by decide+kernel,by decide+kernel⟩
theorem ok_Law{f:Addr}{fd:FuncData}(F:Fun K "law" "law" Xk f fd)(T:Txt mg)(GDeck:Cl P w K mg base 10 "_law_deck" ["_law_script"] (Uz K))(GMany:Cl P w K mg base 10 "_law_many" ["_law_deck_here"] Vv)(GTake:Cl P w K mg base 10 "_law_take" ["_law_deck_here","_law_most"] Gf)(GHist:Cl P w K mg base 10 "_law_history" ["_law_deck_here","_law_many_here","_law_most"] U5)(GAsk:Cl P w K mg base 10 "_law_ask" ["_law_deck_here","_law_history_here"] spAsk)(GDue:Cl P w K mg base 10 "_law_due" ["_law_history_here","_law_ask_here"] spDue)(GSame:Cl P w K mg base 10 "_law_same" ["_law_thing","_law_due_here"] spSm)(GOnes:Cl P w K mg base 10 "answers_one_by_one" ["history","asks"] Wg):
  FnOk P w K mg base CX0 11 f fd ["_law_script"] (Rx K):=by
 refine F.ok scLaw (λvs H Q E h=> ?_) (λcdv A outer s H vs Q E hr h=> ?_)
 ·obtain⟨_,_,rfl,_⟩:=h;rfl
 ·obtain⟨s,ns,rfl,hs,hl,k⟩:=h;refine⟨_,Ae (Ao (i:=1) scLaw.nd rfl (Or.inr rfl) (Au GDeck hr (Aa (pv 0) Ad)))
   (Ae (Ao (i:=2) scLaw.nd rfl (Or.inl rfl) (Au GMany hr (Aa (pv 1) Ad)))
   (Ae (Ao (i:=3) scLaw.nd rfl (Or.inl rfl) (Aq A4 (Bq (Aa (Au GTake hr (Aa (pv 1) (Aa Af Ad))) (Aa Af Ad))) (A6 Dr (by rfl) T.int (by decide+kernel) (Aa (Bg Bl (Au GTake hr (Aa (pv 1) (Aa Af Ad))) Af (Ar _)) Ad)) (λ_ _=>rfl)))
   (Ae (Ao (i:=4) scLaw.nd rfl (Or.inr rfl) (Au GHist hr (Aa (pv 1) (Aa (pv 2) (Aa (pv 3) Ad)))))
   (Ae (Ao (i:=5) scLaw.nd rfl (Or.inl rfl) (Aq A4 (Bq (Aa (Au GTake hr (Aa (pv 1) (Aa Af Ad))) (Aa Af Ad))) (A6 Dr (by rfl) T.int (by decide+kernel) (Aa (Bg Bl (Au GTake hr (Aa (pv 1) (Aa Af Ad))) Af (Ar _)) Ad)) (λ_ _=>rfl)))
   (Ae (Dz (i:=6) (T:=["_law_k"]) (F:=["_law_deck_here","_law_history_here"]) (js:=[1,4]) scLaw.nd rfl (Or.inl rfl) (cs (osc:=Ah Xk)) rfl (Cg rfl T.range (Aa (pv 5) Ad)) (λ_ _ _ _ _=>Aj (i:=0) (show (["_law_k","_law_deck_here","_law_history_here"]:List Str).Nodup by decide+kernel) rfl (Or.inl rfl)) (λ_ _ _ _ _=>Bt) (λ_ _ _ _ _=>Au GAsk hr (Aa (pv 1) (Aa (pv 2) Ad))))
   (Ae (Ao (i:=6) scLaw.nd rfl (Or.inl rfl) (A6 A7 (by rfl) T.tuple (by decide+kernel) (Aa (A0 op_cat (pv 6) (W0 (pv 6) (Br (Ki Fy Af)) (λo i=>[o,i]) (λ_ _=>by with_unfolding_all rfl))) Ad)))
   (Ae (Ao (i:=7) scLaw.nd rfl (Or.inl rfl) (A6 A7 (by rfl) T.tuple (by decide+kernel) (Aa (Bj (T:=["_law_ask_here"]) (F:=["_law_history_here"]) (js:=[4]) (cs (osc:=Ah Xk)) rfl (Ca (pv 6)) (λ_ _ _ _ _=>Aj (i:=0) (show (["_law_ask_here","_law_history_here"]:List Str).Nodup by decide+kernel) rfl (Or.inl rfl)) (λ_ _ _ _ _=>Bt) (λ_ _ _ _ _=>Au GDue hr (Aa (pv 1) (Aa (pv 0) Ad)))) Ad)))
   (Ae (Ct PassesOwn.never rfl (Cg rfl T.range (Aa Af Ad)) (Aj (i:=8) scLaw.nd rfl (Or.inl rfl)) (Ag (Be (Hn (Cv (Au GSame hr (Aa (Au GOnes hr (Aa (pv 4) (Aa (pv 6) Ad))) (Aa (pv 7) Ad))))) (Ag (Ap Os)) A2)))
   (Ag (Ap (Au GSame hr (Aa (Au GOnes hr (Aa (pv 4) (Aa (A5 Ad) Ad))) (Aa (A5 Ad) Ad))))))))))))),?_⟩
  refine⟨_,rfl,s,ns,rfl,hs,hl,λd c H1 s1 D1=> ?_⟩;clear hs hl;refine⟨_,rfl,d,c,rfl,D1,λN H2 N1 N24 b2 D2=> ?_⟩;refine⟨_,rfl,d,c,15,rfl,D2,by decide,by decide,λv H3 v0 v1 b3 D3=>⟨small (by simp),λl0 hl0=>⟨_,rfl,d,c,8,rfl,D3.same (Ac hl0),by decide,by decide,λw H4 _ _ b4 D4=>⟨rfl,.inr ⟨_,rfl,?_⟩⟩⟩⟩⟩;have lf:=Ci D3 hl0;have l4:=b4 _ _ Ab lf.1 lf.2;obtain⟨M,hM,M60⟩:∃M:Nat,atI [V.int v,V.int 60] (if decide (V.int w=V.int 1)=true then (1:Int) else 0)=some (.int (M:Int))/\M<=60:=by
   split
   ·exact⟨60,rfl,le_refl _⟩
   ·exact⟨v.toNat,by rw[Int.toNat_of_nonneg v0];rfl,by omega⟩
  refine⟨l0,_,_,_,rfl,rfl,SqL.of l4,hM,?_⟩;clear l4 lf hM hl0;refine⟨_,rfl,_,rfl,_,rfl,d,c,N,M,rfl,D4,N1,N24,M60,λhh ds H5 b5 D5 hist hG=> ?_⟩;refine⟨_,rfl,d,c,13,rfl,D5,by decide,by decide,λv H6 v0 v1 b6 D6=>⟨small (by simp),λl0 hl0=>⟨_,rfl,d,c,8,rfl,D6.same (Ac hl0),by decide,by decide,λw H7 _ _ b7 D7=>⟨rfl,.inr ⟨_,rfl,?_⟩⟩⟩⟩⟩;have lf:=Ci D6 hl0;have l7:=b7 _ _ Ab lf.1 lf.2;obtain⟨C,hC,C30⟩:∃C:Nat,atI [V.int v,V.int 30] (if decide (V.int w=V.int 1)=true then (1:Int) else 0)=some (.int (C:Int))/\C<=30:=by
   split
   ·exact⟨30,rfl,le_refl _⟩
   ·exact⟨v.toNat,by rw[Int.toNat_of_nonneg v0];rfl,by omega⟩
  refine⟨l0,_,_,_,rfl,rfl,SqL.of l7,hC,?_⟩;have hist7:HistAt H7 hh N ds:=hist.mono λr xs e=>b7.tup (D6.same (Ac hl0)) (Ac hl0 _ _ (b6.tup D5 e));clear l7 lf hC hl0 hist;refine⟨_,rfl,(C:Int),rfl,by omega,by omega,λE hE=>Cu (lo:=0) (n:=(C:Int).toNat) (λj σ ys Ha=>∃(u:Option V) (ps:List Addr) (ks:List Ak),σ=[u,some (.ref d),some (.ref hh)]/\ys=ps.map V.ref/\ps.length=j/\AksAt Ha ps ks/\(∀x∈ks,AkOk N ds.length x)/\But d c H7 Ha/\DeckAt Ha d c/\Ha E=some (.lst ys)) ⟨none,[],[],rfl,rfl,rfl,⟨rfl,λi r k e=>by simp at e⟩,(λx h=>by cases h),But.of (Ac hE),D7.same (Ac hE),Ab⟩ (λj σ ys Ha _ ⟨_,_,_,_,_,_,_,_,_,_,e⟩=>e) ?_ ?_⟩
  ·rintro j σ ys Ha hj ⟨u,ps,ks,rfl,rfl,pl,ak,ok,ba,Da,ea⟩;have hj:j<C:=by simpa using hj
   have fE:=Ci D7 hE;refine⟨_,rfl,_,rfl,d,c,hh,N,ds,rfl,Da,hist7.mono λr xs e=>ba.tup D7 e,hG,λr kk Hb bb Db er kok=> ?_⟩;have eb:=bb _ _ ea fE.1 fE.2;have kp:∀(r:Addr) (zs:List V) (o:HO),Hb r=some (.tup zs)->upd Hb E o r=some (.tup zs):=λr zs o e=>by rw[Al (Bx e eb (by intro z;cases z))];exact e
   refine⟨eb,An (by rw[If];omega),_,ps++[r],ks++[kk],rfl,by rw[map_append];rfl,by rw[Qa0,pl];rfl,(ak.mono λr xs e=>kp _ _ _ (bb.tup Da e)).snoc (kp _ _ _ er),λx hx=> ?_,λb o e n1 n2=> ?_,Db.set fE.1 fE.2,Ab⟩
   ·rcases mem_append.mp hx with hx|hx
    ·exact ok x hx
    ·rw[mem_singleton.mp hx];exact kok
   ·rw[Al (Av e hE)];exact bb b o (ba b o e n1 n2) n1 n2
  rintro σ ys Ha ⟨u,ps,ks,rfl,rfl,pl,ak,ok,ba,Da,ea⟩;rw[show (C:Int).toNat=C by simp] at pl;have hista:HistAt Ha hh N ds:=hist7.mono λr xs e=>ba.tup D7 e;clear u;refine⟨_,rfl,_,rfl,_,rfl,_,rfl,rfl,E,_,rfl,SqL.of ea,λe2 he2=> ?_⟩;have sb:=Ac (o:= .lst (ps.map V.ref).reverse) he2;have eb2:=Ab (H:=Ha) (a:=e2) (o:= .lst (ps.map V.ref).reverse);generalize upd Ha e2 (.lst (ps.map V.ref).reverse)=Hb at sb eb2 ⊢;refine⟨E,e2,_,_,rfl,rfl,sb _ _ ea,eb2,small (by rw[Qd3,If];omega),λe3 he3=> ?_⟩;have sc:=Ac (o:= .lst (ps.map V.ref++(ps.map V.ref).reverse)) he3;have ec:upd Hb e3 (.lst (ps.map V.ref++(ps.map V.ref).reverse)) e3=some (.lst ((ps++ps.reverse).map V.ref)):=by rw[Ab,map_append,List.map_reverse]
  generalize upd Hb e3 (.lst (ps.map V.ref++(ps.map V.ref).reverse))=Hc at sc ec ⊢;refine⟨e3,_,rfl,.inl ⟨SqL.of ec,λta hta=> ?_⟩⟩;have sd:=Ac (o:= .tup ((ps++ps.reverse).map V.ref)) hta;have ed:=Ab (H:=Hc) (a:=ta) (o:= .tup ((ps++ps.reverse).map V.ref));generalize upd Hc ta (.tup ((ps++ps.reverse).map V.ref))=Hd at sd ed ⊢;have S:=(sb.trans sc).trans sd;have ak0:AksAt Hd ps ks:=ak.mono λr xs e=>S _ _ e;have ak2:=Zj ak0 (Yb ak0);have ok2:∀x∈ks++ks.reverse,AkOk N ds.length x:=λx hx=>by
   rcases mem_append.mp hx with hx|hx
   ·exact ok x hx
   ·exact ok x (List.mem_reverse.mp hx)
  have kl:(ks++ks.reverse).length<=60:=by rw[Qa0,Qd3,<-ak.1];omega
  have histd:HistAt Hd hh N ds:=hista.same S;clear ak ak0 ok ea;generalize ps++ps.reverse=qs at ed ak2;generalize ks++ks.reverse=ls at ak2 ok2 kl;refine⟨_,rfl,ta,rfl,⟨_,SqT.of ed⟩,λF hF=>Cj (K:=K) (a:=ta) (xs:=qs.map V.ref) (λj σ ys He=>∃u:Option V,σ=[u,some (.ref hh)]/\ys=(ls.take j).map (Kw N ds)/\Same Hd He/\He F=some (.lst ys)) ⟨none,rfl,rfl,Ac hF,Ab⟩ (λj σ ys He _ ⟨_,_,_,s,e⟩=>⟨SqT.of (s _ _ ed),e⟩) ?_ ?_⟩
  ·rintro j x σ ys He hx ⟨u,rfl,rfl,se,de⟩;obtain⟨r,er,rfl⟩:=A3 hx;obtain⟨kk,ek,hk⟩:=ak2.get er;refine⟨_,rfl,_,rfl,hh,r,N,ds,kk,rfl,histd.same se,hG,se _ _ hk,ok2 _ (mem_of_getElem? ek),λHf sf=>⟨sf _ _ de,An (by rw[If,Qb0];omega),_,rfl,?_,Aw (se.trans sf) hF,Ab⟩⟩;rw[A9 ek,map_append];rfl
  rintro σ ys He ⟨u,rfl,rfl,se,de⟩;rw[If,ak2.1,Qb3] at de;clear u;refine⟨F,_,rfl,.inl ⟨SqL.of de,λdu hdu=> ?_⟩⟩;have sf:=se.trans (Ac (o:= .tup (ls.map (Kw N ds))) hdu);have df:=Ab (H:=He) (a:=du) (o:= .tup (ls.map (Kw N ds)));generalize upd He du (.tup (ls.map (Kw N ds)))=Hf at sf df ⊢;have histf:=histd.same sf;have taf:=sf _ _ ed;have akf:AksAt Hf qs ls:=ak2.mono λr xs e=>sf _ _ e;clear ak2 ed histd;refine⟨2,rfl,by decide,by decide,Hr (lo:=0) (n:=2) (λi σ Hg=>∃(u8:Option V),σ=[some (.ref s),some (.ref d),some (.int (N:Int)),some (.int (M:Int)),some (.ref hh),some (.int (C:Int)),some (.ref ta),some (.ref du),u8]/\Same Hf Hg) ⟨none,rfl,Cf _⟩ ?_ ?_⟩
  ·rintro i σ Hg hi ⟨u8,rfl,sg⟩;refine⟨_,rfl,_,rfl,hh,ta,N,ds,qs,ls,rfl,histf.same sg,hG,sg _ _ taf,akf.mono λr xs e=>sg _ _ e,ok2,kl,λr Hh sh er=>⟨_,rfl,.ref r,.ref du,rfl,U9 er ((sg.trans sh) _ _ df) (by omega),λHi si=>⟨_,rfl,Bp ?_⟩⟩⟩;exact⟨_,rfl,(sg.trans sh).trans si⟩
  rintro σ Hg ⟨u8,rfl,sg⟩;refine⟨_,rfl,small (by simp),λt0 ht0=> ?_⟩;have s0:=Ac (o:= .tup []) ht0;refine⟨hh,t0,N,ds,[],[],rfl,histf.same (sg.trans s0),hG,Ab,⟨rfl,λi r k e=>by simp at e⟩,(λx h=>by cases h),by simp,λr Hh sh er=>⟨small (by simp),λt1 ht1=> ?_⟩⟩;exact⟨.ref r,.ref t1,rfl,U9 (N:=N) (ds:=ds) (ks:=[]) (Ac ht1 _ _ er) Ab (by simp),λHi si=>k Hi⟩
theorem us1{fd:FuncData}{ps:List Str}(hp:ps.length=1)(h:∀a0:Value,bindArgs fd ⟨[a0],[]⟩=pure (ps.zip [a0])):∀us:List Value,us.length=ps.length->bindArgs fd ⟨us,[]⟩=pure (ps.zip us):=λus hl=>match us,hl.trans hp with|[a0],_=>h a0
theorem us2{fd:FuncData}{ps:List Str}(hp:ps.length=2)(h:∀a0 a1:Value,bindArgs fd ⟨[a0,a1],[]⟩=pure (ps.zip [a0,a1])):∀us:List Value,us.length=ps.length->bindArgs fd ⟨us,[]⟩=pure (ps.zip us):=λus hl=>match us,hl.trans hp with|[a0,a1],_=>h a0 a1
theorem us3{fd:FuncData}{ps:List Str}(hp:ps.length=3)(h:∀a0 a1 a2:Value,bindArgs fd ⟨[a0,a1,a2],[]⟩=pure (ps.zip [a0,a1,a2])):∀us:List Value,us.length=ps.length->bindArgs fd ⟨us,[]⟩=pure (ps.zip us):=λus hl=>match us,hl.trans hp with|[a0,a1,a2],_=>h a0 a1 a2
theorem us4{fd:FuncData}{ps:List Str}(hp:ps.length=4)(h:∀a0 a1 a2 a3:Value,bindArgs fd ⟨[a0,a1,a2,a3],[]⟩=pure (ps.zip [a0,a1,a2,a3])):∀us:List Value,us.length=ps.length->bindArgs fd ⟨us,[]⟩=pure (ps.zip us):=λus hl=>match us,hl.trans hp with|[a0,a1,a2,a3],_=>h a0 a1 a2 a3
theorem all_mk{l:PySem.W.OpenLaw}{w:World}{K:Frag}{h:Heap}{mg:Str->Option Value}{fa f0 f1 f2 f3 f4 f5 f6 f7 f8 f9 f10 f11 f12 f13 f14 f15 f16 f17 f18 f19 f20 f21 f22 f23 f24 f25 f26 f27 f28 f29 f30 f31 f32 f33 f34 f35 f36 f37 f38 f39 f40:Addr}(X:K.In h)(G:h.Ns mainGlobals mg)(hfa:mg "law"=some (.ref fa))(x0:FA K "beside_of" Ey f0)(x1:FA K "ways_from" V1 f1)(x2:FA K "part_of" Ra f2)(x3:FA K "are_joined" L7 f3)(x4:FA K "parts_of" Ko f4)(x5:FA K "ways_from_least" Mk f5)(x6:FA K "ring_over" Qt f6)(x7:FA K "sides_of" Gw f7)(x8:FA K "have_two_sides" Ks f8)(x9:FA K "answer_of" sAns f9)(x10:FA K "bare_layers" V2 f10)(x11:FA K "ties_from" R8 f11)(x12:FA K "kept_from" Sd f12)(x13:FA K "stand_of" L6 f13)(x14:FA K "came" Rb f14)(x15:FA K "row_of" P0 f15)(x16:FA K "rows_without" Gq f16)(x17:FA K "lesser_parts" Fj f17)(x18:FA K "loose_names" Jx f18)(x19:FA K "row_behind" Ms f19)(x20:FA K "rows_behind" Gs f20)(x21:FA K "round_at" L4 f21)(x22:FA K "gone" No f22)(x23:FA K "layers_next" Wv f23)(x24:FA K "all_layers" sAll f24)(x25:FA K "answer_from" Qg f25)(x26:FA K "answers_one_by_one" Q7 f26)(x27:FA K "_law_mixed" Qp f27)(x28:FA K "_law_deck" Q0 f28)(x29:FA K "_law_take" Xs f29)(x30:FA K "_law_names" Mq f30)(x31:FA K "_law_many" Vh f31)(x32:FA K "_law_weight" Mv f32)(x33:FA K "_law_history" Rn f33)(x34:FA K "_law_ties" Mc f34)(x35:FA K "_law_groups" I0 f35)(x36:FA K "_law_same" Kl f36)(x37:FA K "_law_even" Md f37)(x38:FA K "_law_due" Zc f38)(x39:FA K "_law_ask" sAsk f39)(x40:FA K "law" Xk f40)(z0:PySem.W.nsIn K mainGlobals "isinstance"=some none)(z1:PySem.W.nsIn K mainGlobals "int"=some none)(z2:PySem.W.nsIn K mainGlobals "bool"=some none)(z3:PySem.W.nsIn K mainGlobals "tuple"=some none)(z4:PySem.W.nsIn K mainGlobals "len"=some none)(z5:PySem.W.nsIn K mainGlobals "range"=some none)(z6:PySem.W.nsIn K mainGlobals "sum"=some none)(z7:PySem.W.nsIn K mainGlobals "str"=some none)(z8:PySem.W.nsIn K mainGlobals "max"=some none)(z9:PySem.W.nsIn K mainGlobals "min"=some none)(z10:PySem.W.nsIn K mainGlobals "zip"=some none)(z11:PySem.W.nsIn K mainGlobals "sorted"=some none)(z12:PySem.W.nsIn K mainGlobals "list"=some none)(z13:PySem.W.nsIn K mainGlobals "enumerate"=some none)(z14:PySem.W.nsIn K mainGlobals "set"=some none):
  ∃fd:FuncData,(∀(s:Shared) (v:Value),BindsTo s fd ⟨[v],[]⟩ [("_law_script",v)])/\∀base:Heap,K.In base->base.Ns mainGlobals mg->FnOk l.prog w K mg base CX0 11 fa fd ["_law_script"] (Rx K):=by
 have e:=hfa.symm.trans (mg_of X G x40.a);cases e;have T:Txt mg:=⟨Qd0 X G z0,Qd0 X G z1,Qd0 X G z2,Qd0 X G z3,Qd0 X G z4,Qd0 X G z5,Qd0 X G z6,Qd0 X G z7,Qd0 X G z8,Qd0 X G z9,Qd0 X G z10,Qd0 X G z11,Qd0 X G z12,Qd0 X G z13,Qd0 X G z14⟩
 obtain⟨d0,F0⟩:=x0.fn;obtain⟨d1,F1⟩:=x1.fn;obtain⟨d2,F2⟩:=x2.fn;obtain⟨d3,F3⟩:=x3.fn;obtain⟨d4,F4⟩:=x4.fn;obtain⟨d5,F5⟩:=x5.fn;obtain⟨d6,F6⟩:=x6.fn;obtain⟨d7,F7⟩:=x7.fn;obtain⟨d8,F8⟩:=x8.fn;obtain⟨d9,F9⟩:=x9.fn;obtain⟨d10,F10⟩:=x10.fn;obtain⟨d11,F11⟩:=x11.fn;obtain⟨d12,F12⟩:=x12.fn;obtain⟨d13,F13⟩:=x13.fn;obtain⟨d14,F14⟩:=x14.fn;obtain⟨d15,F15⟩:=x15.fn;obtain⟨d16,F16⟩:=x16.fn;obtain⟨d17,F17⟩:=x17.fn;obtain⟨d18,F18⟩:=x18.fn;obtain⟨d19,F19⟩:=x19.fn;obtain⟨d20,F20⟩:=x20.fn;obtain⟨d21,F21⟩:=x21.fn;obtain⟨d22,F22⟩:=x22.fn;obtain⟨d23,F23⟩:=x23.fn;obtain⟨d24,F24⟩:=x24.fn;obtain⟨d25,F25⟩:=x25.fn;obtain⟨d26,F26⟩:=x26.fn;obtain⟨d27,F27⟩:=x27.fn;obtain⟨d28,F28⟩:=x28.fn;obtain⟨d29,F29⟩:=x29.fn;obtain⟨d30,F30⟩:=x30.fn;obtain⟨d31,F31⟩:=x31.fn;obtain⟨d32,F32⟩:=x32.fn;obtain⟨d33,F33⟩:=x33.fn;obtain⟨d34,F34⟩:=x34.fn;obtain⟨d35,F35⟩:=x35.fn;obtain⟨d36,F36⟩:=x36.fn;obtain⟨d37,F37⟩:=x37.fn;obtain⟨d38,F38⟩:=x38.fn;obtain⟨d39,F39⟩:=x39.fn;obtain⟨d40,F40⟩:=x40.fn;refine⟨d40,F40.bindsTo,λbase _ _=> ?_⟩;have C0:=By l.prog w base F0 x0 X G (λ_ _ _ _ _ _=>us2 rfl λ_ _=>rfl) (Tv F0 T);have C1:=By l.prog w base F1 x1 X G (λ_ _ _ _ _ _=>us3 rfl λ_ _ _=>rfl) (Y8 F1 T C0.up);have C2:=By l.prog w base F2 x2 X G (λ_ _ _ _ _ _=>us3 rfl λ_ _ _=>rfl) (Ym F2 T C1.up);have C3:=By l.prog w base F3 x3 X G (λ_ _ _ _ _ _=>us4 rfl λ_ _ _ _=>rfl) (Tx F3 T C2.up);have C4:=By l.prog w base F4 x4 X G (λ_ _ _ _ _ _=>us2 rfl λ_ _=>rfl) (Xo F4 T C2.up);have C5:=By l.prog w base F5 x5 X G (λ_ _ _ _ _ _=>us2 rfl λ_ _=>rfl) (Td F5 T C4.up C1.up);have C6:=By l.prog w base F6 x6 X G (λ_ _ _ _ _ _=>us2 rfl λ_ _=>rfl) (Vu F6 T);have C7:=By l.prog w base F7 x7 X G (λ_ _ _ _ _ _=>us2 rfl λ_ _=>rfl) (Pz F7 T C5.up C6.up);have C8:=By l.prog w base F8 x8 X G (λ_ _ _ _ _ _=>us2 rfl λ_ _=>rfl) (Qr F8 T C7.up);have C9:=By l.prog w base F9 x9 X G (λ_ _ _ _ _ _=>us3 rfl λ_ _ _=>rfl) (ok_Ans F9 T C3.up C4.up C2.up C8.up);have C10:=By l.prog w base F10 x10 X G (λ_ _ _ _ _ _=>us1 rfl λ_=>rfl) (Yp F10 T);have C11:=By l.prog w base F11 x11 X G (λ_ _ _ _ _ _=>us2 rfl λ_ _=>rfl) (Y9 F11 T);have C12:=By l.prog w base F12 x12 X G (λ_ _ _ _ _ _=>us2 rfl λ_ _=>rfl) (X8 F12 T);have C13:=By l.prog w base F13 x13 X G (λ_ _ _ _ _ _=>us1 rfl λ_=>rfl) (Ua F13 T C11.up);have C14:=By l.prog w base F14 x14 X G (λ_ _ _ _ _ _=>us2 rfl λ_ _=>rfl) (Zg F14 T C3.up C13.up);have C15:=By l.prog w base F15 x15 X G (λ_ _ _ _ _ _=>us2 rfl λ_ _=>rfl) (Wb F15 T);have C16:=By l.prog w base F16 x16 X G (λ_ _ _ _ _ _=>us2 rfl λ_ _=>rfl) (Pb F16 T);have C17:=By l.prog w base F17 x17 X G (λ_ _ _ _ _ _=>us4 rfl λ_ _ _ _=>rfl) (Su F17 T C12.up C2.up);have C18:=By l.prog w base F18 x18 X G (λ_ _ _ _ _ _=>us4 rfl λ_ _ _ _=>rfl) (U0 F18 T);have C19:=By l.prog w base F19 x19 X G (λ_ _ _ _ _ _=>us2 rfl λ_ _=>rfl) (T2 F19 T);have C20:=By l.prog w base F20 x20 X G (λ_ _ _ _ _ _=>us2 rfl λ_ _=>rfl) (Po F20 T C19.up);have C21:=By l.prog w base F21 x21 X G (λ_ _ _ _ _ _=>us4 rfl λ_ _ _ _=>rfl) (V9 F21 T C17.up C18.up)
 have C22:=By l.prog w base F22 x22 X G (λ_ _ _ _ _ _=>us2 rfl λ_ _=>rfl) (Yy F22 T C15.up C16.up C21.up C20.up);have C23:=By l.prog w base F23 x23 X G (λ_ _ _ _ _ _=>us2 rfl λ_ _=>rfl) (Z8 F23 T C14.up C22.up);have C24:=By l.prog w base F24 x24 X G (λ_ _ _ _ _ _=>us1 rfl λ_=>rfl) (ok_All F24 T C10.up C23.up);have C25:=By l.prog w base F25 x25 X G (λ_ _ _ _ _ _=>us2 rfl λ_ _=>rfl) (U8 F25 T C9.up C13.up C12.up);have C26:=By l.prog w base F26 x26 X G (λ_ _ _ _ _ _=>us2 rfl λ_ _=>rfl) (Yd F26 T C24.up C25.up);have C27:=By l.prog w base F27 x27 X G (λ_ _ _ _ _ _=>us2 rfl λ_ _=>rfl) (Xi F27 T);have C28:=By l.prog w base F28 x28 X G (λ_ _ _ _ _ _=>us1 rfl λ_=>rfl) (Za F28 T);have C29:=By l.prog w base F29 x29 X G (λ_ _ _ _ _ _=>us2 rfl λ_ _=>rfl) (Yz F29 T C27.up);have C30:=By l.prog w base F30 x30 X G (λ_ _ _ _ _ _=>us2 rfl λ_ _=>rfl) (Um F30 T C29.up);have C31:=By l.prog w base F31 x31 X G (λ_ _ _ _ _ _=>us1 rfl λ_=>rfl) (Yr F31 T C29.up);have C32:=By l.prog w base F32 x32 X G (λ_ _ _ _ _ _=>us1 rfl λ_=>rfl) (Tq F32 T C29.up);have C33:=By l.prog w base F33 x33 X G (λ_ _ _ _ _ _=>us3 rfl λ_ _ _=>rfl) (Zv F33 T C30.up C29.up C32.up);have C34:=By l.prog w base F34 x34 X G (λ_ _ _ _ _ _=>us2 rfl λ_ _=>rfl) (Vn F34 T);have C35:=By l.prog w base F35 x35 X G (λ_ _ _ _ _ _=>us2 rfl λ_ _=>rfl) (Tc F35 T);have C36:=By l.prog w base F36 x36 X G (λ_ _ _ _ _ _=>us2 rfl λ_ _=>rfl) (Zn F36 T F36.kp (F36.binds λ_ _ _ _ _ _=>us2 rfl λ_ _=>rfl) (mg_of X G x36.a));have C37:=By l.prog w base F37 x37 X G (λ_ _ _ _ _ _=>us2 rfl λ_ _=>rfl) (Wl F37 T C35.up);have C38:=By l.prog w base F38 x38 X G (λ_ _ _ _ _ _=>us2 rfl λ_ _=>rfl) (ok_Due F38 T C34.up C37.up C35.up);have C39:=By l.prog w base F39 x39 X G (λ_ _ _ _ _ _=>us2 rfl λ_ _=>rfl) (ok_Ask F39 T C29.up);exact ok_Law F40 T C28.up C31.up C29.up C33.up C39.up C38.up C36.up C26.up
theorem walk{l:PySem.W.OpenLaw}{q:Program}{loose:List Str}{XP:(Str->Option Value)->Heap->Prop}{YP:World->Heap->Prop}{d:DefRec}{K:Params->Frag}(hn:l.most=some 63)(hdf:d.params.defaults=[])(hY:∀(w:World) (h:Heap),YP w h->(K w.params).In h)(F:∀(w:World) (mg:Str->Option Value) (fa:Addr) (h:Heap),(K w.params).In h->h.Ns mainGlobals mg->mg d.name=some (.ref fa)->
   ∃fd:FuncData,(∀(s:Shared) (u:Value),BindsTo s fd ⟨[u],[]⟩ [("_law_script",u)])/\∀base:Heap,(K w.params).In base->base.Ns mainGlobals mg->FnOk l.prog w (K w.params) mg base CX0 11 fa fd ["_law_script"] (Rx (K w.params))):
  PySem.W.WalkO q loose XP YP l.row.toRowW d [] (λf vs=>PySem.call f vs):=
 L2.walk_of (n:=63) (k:=11) (x:="_law_script") (CX:=λ_=>CX0) (sp:=λw=>Rx (K w.params)) hn (by decide) hdf ⟨rfl,by decide,by decide,rfl⟩ hY F (λ_ _ a ns hl _ hS=>⟨a,ns,rfl,hS,hl,λ_=>rfl⟩) λ_ _ _ _ _ z=>z
end K43
namespace PySem.W.Fast
def tw5635127866624212704:=0
def tw18438677135885457451:=0
def tw10195609941993161765:=0
def tw12523118862557212812:=0
def tw2388269331649513426:=0
def tw1310625490060443021:=0
def tw8195590885871104543:=0
def tw7742109607350132175:=0
def tw6315296116546419973:=0
def tw748802973992805480:=0
def tw14176887913759271627:=0
def tw78349425590494652:=0
def tw11814555429548095775:=0
def tw6284064696121124297:=0
def tw796869109580370908:=0
def tw18088004073141320549:=0
def tw7984429952247158370:=0
def tw80839430724382567:=0
def tw9170495060691356766:=0
def tw1742702059448804311:=0
def tw10052037749474396999:=0
def tw9432420200883780079:=0
def tw17447125052792783307:=0
def tw10278025120813222059:=0
def tw6847957119111412697:=0
def tw727173088236418697:=0
def tw14481532130611606531:=0
def tw3560523721696512629:=0
def tw10114087875469579732:=0
def tw5923891979548586516:=0
def tw16335719046013242523:=0
def tw2959014871228463934:=0
def tw9084837524715297666:=0
def tw4085634804560394191:=0
def tw1626280071755992022:=0
def tw5119883187715990910:=0
def tw12812739761150038875:=0
def tw472327169679130578:=0
def tw13342399455725338892:=0
def tw5590846988123792416:=0
def tw12155914888975729158:=0
def tw15319030207005339234:=0
def tw13287925238980101400:=0
def tw6806007485768713938:=0
def tw17500919722197613038:=0
def tw16169268927985056103:=0
def tw1480374230524821697:=0
def tw11668362278732435136:=0
def tw15412614800091706473:=0
def tw1562882606253112148:=0
def tw13478976819577342280:=0
def tw13026856910134415795:=0
def tw6238315243594515128:=0
def tw4687309696314495002:=0
def tw12970992256321165776:=0
def tw3248290312195728363:=0
def tw5324887423530959875:=0
def tw2314493023301622636:=0
def tw9045135653651319988:=0
def tw5495271755591310586:=0
def tw9499700780763628406:=0
def tw15878318031546280526:=0
def tw4433039310680290004:=0
def tw5839802387275765249:=0
def tw16836007316239787606:=0
def tw7754611886244517892:=0
def tw9163907764827525794:=0
def tw10443411542066121685:=0
def tw11378399089038989410:=0
def tw9447693612959665846:=0
def tw8025308365894045420:=0
def tw7621480922261502333:=0
def tw13075257930280412626:=0
def tw16684299901027511363:=0
def tw15066703797138149109:=0
def tw12293643158054562625:=0
def tw13263558014105289631:=0
def tw16868917099076870447:=0
def tw8166853409675115621:=0
def tw7657881961407676498:=0
def tw12170228578792024381:=0
def tw11620303636657166000:=0
def tw9610603161802625539:=0
def tw8684835207243255324:=0
def tw2381326732011149709:=0
def tw3419441080386068796:=0
def tw11467294523331573390:=0
def tw6744200012142338737:=0
def tw70964749702491006:=0
def tw15188132043616799423:=0
def tw13704085848622778381:=0
def tw4336107043197768935:=0
def tw1396329986226263485:=0
def tw17000973588313574697:=0
def tw2788031753469954356:=0
def tw13066721116286772876:=0
def tw1078562172453417963:=0
def tw5688661632586340578:=0
def tw17995481610034419351:=0
def tw16919091379171045972:=0
def tw2909582990182824032:=0
def tw7127716297542063993:=0
def tw13771294877232633971:=0
def tw13344397078971339829:=0
def tw8218597822118033491:=0
def tw3769846212854132286:=0
def tw1847585773071739069:=0
def tw17322875876794359935:=0
def tw8281547836285356300:=0
def tw4224622540228350925:=0
def tw10056150256336177987:=0
def tw11804313179012943067:=0
def tw15822058969613953475:=0
def tw7957650619729935014:=0
def tw1423697975720162901:=0
def tw14972543918485702238:=0
def tw16272519914227059484:=0
def tw236934126471743186:=0
def tw12755207457310711564:=0
def tw7771739604706451270:=0
def tw14958831273499265916:=0
def tw12416382068905422912:=0
def tw11923048655764184178:=0
def tw17465055383736080093:=0
def tw1074125115521647108:=0
def tw3635151507208023424:=0
def tw1151108148737687852:=0
def tw16503577379798349278:=0
def tw14358269928827147893:=0
def tw13928788814894513158:=0
def tw1705059976363234771:=0
def tw12448955532878829717:=0
def tw713078500822725408:=0
def tw2131991110479022868:=0
def tw15644208732264849240:=0
def tw6245949639306188617:=0
def tw3906514070172489165:=0
def tw9151335277670550202:=0
def tw12700123189676376232:=0
def tw2436875190739017993:=0
def tw17822884748270043440:=0
def tw15703389175791590760:=0
def tw12879983893117035840:=0
def tw10933535947860486332:=0
def tw4741947256819913365:=0
def tw15728369289469556099:=0
def tw7657586816112348603:=0
def tw13196668848243649770:=0
def tw6472362927670521696:=0
def tw9453929554373933386:=0
def tw8436781097737885162:=0
def tw8699091874041022735:=0
def tw14857476114496990383:=0
def tw13665641613785585588:=0
def tw15388636489713242565:=0
def tw5335148184518795436:=0
def tw18123972334507690861:=0
def tw1298276047653985735:=0
def tw837042716909614096:=0
def tw14255303923384657271:=0
def tw221263089274858009:=0
def tw1852017536632774160:=0
def tw16066484465413244358:=0
def tw10036970363306344050:=0
def tw9867072605500337364:=0
def tw13664070187644643767:=0
def tw14150965963597654997:=0
end PySem.W.Fast
open PySem PySem.W PyProof.Rows
set_option maxRecDepth 100000 in
set_option maxHeartbeats 0 in
theorem PySem.Challenge.cw_joinedever_k43_answers_one_by_one_holds : PySem.Challenge.rw_joinedever_k43_answers_one_by_one.Holds := by
 w_on;o_law;k_head;(case hw=>w_witness2)
 k_fill
 refine K43.walk (l:=PySem.Challenge.rw_joinedever_k43_answers_one_by_one) rfl rfl (fun w h Y=>PySem.W.kIn_of Y) ?F
 case F=>
  intro w mg fa h KX G hmg
  refine' K43.all_mk KX G hmg (.of ?a0 ?l0 ?c0 ?k0) (.of ?a1 ?l1 ?c1 ?k1) (.of ?a2 ?l2 ?c2 ?k2) (.of ?a3 ?l3 ?c3 ?k3) (.of ?a4 ?l4 ?c4 ?k4) (.of ?a5 ?l5 ?c5 ?k5) (.of ?a6 ?l6 ?c6 ?k6) (.of ?a7 ?l7 ?c7 ?k7) (.of ?a8 ?l8 ?c8 ?k8) (.of ?a9 ?l9 ?c9 ?k9) (.of ?a10 ?l10 ?c10 ?k10) (.of ?a11 ?l11 ?c11 ?k11) (.of ?a12 ?l12 ?c12 ?k12) (.of ?a13 ?l13 ?c13 ?k13) (.of ?a14 ?l14 ?c14 ?k14) (.of ?a15 ?l15 ?c15 ?k15) (.of ?a16 ?l16 ?c16 ?k16) (.of ?a17 ?l17 ?c17 ?k17) (.of ?a18 ?l18 ?c18 ?k18) (.of ?a19 ?l19 ?c19 ?k19) (.of ?a20 ?l20 ?c20 ?k20) (.of ?a21 ?l21 ?c21 ?k21) (.of ?a22 ?l22 ?c22 ?k22) (.of ?a23 ?l23 ?c23 ?k23) (.of ?a24 ?l24 ?c24 ?k24) (.of ?a25 ?l25 ?c25 ?k25) (.of ?a26 ?l26 ?c26 ?k26) (.of ?a27 ?l27 ?c27 ?k27) (.of ?a28 ?l28 ?c28 ?k28) (.of ?a29 ?l29 ?c29 ?k29) (.of ?a30 ?l30 ?c30 ?k30) (.of ?a31 ?l31 ?c31 ?k31) (.of ?a32 ?l32 ?c32 ?k32) (.of ?a33 ?l33 ?c33 ?k33) (.of ?a34 ?l34 ?c34 ?k34) (.of ?a35 ?l35 ?c35 ?k35) (.of ?a36 ?l36 ?c36 ?k36) (.of ?a37 ?l37 ?c37 ?k37) (.of ?a38 ?l38 ?c38 ?k38) (.of ?a39 ?l39 ?c39 ?k39) (.of ?a40 ?l40 ?c40 ?k40) ?z0 ?z1 ?z2 ?z3 ?z4 ?z5 ?z6 ?z7 ?z8 ?z9 ?z10 ?z11 ?z12 ?z13 ?z14
  (case a0|l0|c0|k0|a1|l1|c1|k1|a2|l2|c2|k2|a3|l3|c3|k3|a4|l4|c4|k4|a5|l5|c5|k5|a6|l6|c6|k6|a7|l7|c7|k7|a8|l8|c8|k8|a9|l9|c9|k9|a10|l10|c10|k10|a11|l11|c11|k11|a12|l12|c12|k12|a13|l13|c13|k13|a14|l14|c14|k14|a15|l15|c15|k15|a16|l16|c16|k16|a17|l17|c17|k17|a18|l18|c18|k18|a19|l19|c19|k19|a20|l20|c20|k20|a21|l21|c21|k21|a22|l22|c22|k22|a23|l23|c23|k23|a24|l24|c24|k24|a25|l25|c25|k25|a26|l26|c26|k26|a27|l27|c27|k27|a28|l28|c28|k28|a29|l29|c29|k29|a30|l30|c30|k30|a31|l31|c31|k31|a32|l32|c32|k32|a33|l33|c33|k33|a34|l34|c34|k34|a35|l35|c35|k35|a36|l36|c36|k36|a37|l37|c37|k37|a38|l38|c38|k38|a39|l39|c39|k39|a40|l40|c40|k40|z0|z1|z2|z3|z4|z5|z6|z7|z8|z9|z10|z11|z12|z13|z14=>k_is)

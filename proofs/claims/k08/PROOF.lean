import PyProof.Rows.All
import Wide.All
import OpenK.AllK
import Wide.FinOn
import Lean
import PyProof.EqAt
import PyProof.EqKinds
import PyProof.TupleCall
import PySem.Challenge.RW_joinedever_k08_whole_deeds_and_parts
import PyProof.Draws
import PyProof.ZipIter
import PyProof.TupleIter
import PyProof.ListRange
import PyProof.CollectWalk
import KE.KSortTup
import KE.KDictSum
import PyProof.Rows.Range3
import KE.KEqDict
import KE.KRevIter
import PyProof.EnumStmt
import PyProof.CallStr
import PyProof.ReprLen
import PyProof.StrLawsRepr
import Flt.Len
import PyProof.SumWalk
import PyProof.WalksMore
set_option Elab.async false
set_option linter.all false
set_option maxRecDepth 100000
set_option maxHeartbeats 4000000
open Array (getElem?_toList length_toList map toList)
open Bool (and_eq_true false_eq_true)
open PySem.Heap (SameBut get?_push_ne get?_push_of_some get?_push_size get?_update_ne lt_size size_push size_update)
open Int (emod_lt_of_pos emod_nonneg ofNat toNat)
open List (Nodup Pairwise all_cons all_eq_true any_cons append_nil ext_getElem? filter_append filter_cons filter_cons_of_neg filter_cons_of_pos filter_map filter_nil filter_sublist find?_cons flatten_cons foldl foldl_cons getD getElem?_append getElem?_append_right getElem?_eq_getElem getElem?_map getElem?_range getElem?_replicate getElem_map getElem_mem length length_append length_cons length_filter_le length_map length_nil length_range length_take map_append map_congr_left map_cons map_eq_nil_iff map_id map_map map_nil map_take mem_append mem_append_left mem_append_right mem_cons mem_cons_of_mem mem_cons_self mem_filter mem_flatMap mem_flatten mem_map mem_of_getElem? mem_of_mem_take mem_range mem_singleton nodup_cons nodup_nil not_mem_nil pairwise_cons pairwise_iff_getElem pairwise_map range_succ replicate replicate_succ size_toArray take_add_one take_length)
open Nat (le_of_lt le_refl le_succ le_trans lt_irrefl lt_of_lt_of_le lt_succ_of_lt lt_succ_self min_eq_left mod_lt ne_of_lt not_lt sub_lt zero_le)
open Option (isSome_iff_exists)
open PyProof.Rows (boot_sum)
open PySem.F (args_tuple_add_2 entry_tuple_add plainAttrs_dict plainAttrs_list plainAttrs_str slot_dict_get slot_tuple_add)
open PySem.W (Frag findIn instObj kIn_of keepIn kia_one kitOne kitx_dict kitx_list lookIn methodObj mg_none_of mg_of plainGet)
def Gt:=@PySem.wpAny_bind
def If:=@List.length_map
def Is:=@PySem.Heap.get?_push_of_some
def Lt:=@if_neg
def Yf:=@if_pos
def Yg:=@PySem.wpAny_pure
def Yh:=@decide_eq_true_eq
def Yi:=@PySem.Heap.get?_push_size
def Yj:=@PySem.Heap.lt_size
def Yk:=@List.length_append
def Yl:=@List.mem_cons_self
def Ym:=@List.mem_cons
def Yn:=@List.mem_cons_of_mem
def Yo:=@List.length_take
def Yp:=@List.map_cons
def Yq:=@List.length_filter_le
def Yr:=@PySem.sizeLine_eq
def Ys:=@PySem.W.mg_of
def Yt:=@List.pairwise_map
def Yu:=@PySem.wpAny_truthy_bool
def Yv:=@List.take_length
def Yw:=@PySem.wpAny_newObj_type
def Yx:=@List.length_cons
def Yy:=@PySem.F.plainAttrs_list
def Yz:=@Nat.lt_succ_of_lt
def Y0:=@Nat.zero_le
def Y1:=@PySem.W.mg_none_of
def Y2:=@congrArg
def Y3:=@List.pairwise_iff_getElem
def Y4:=@List.mem_of_mem_take
def Y5:=@PySem.wpAny_holding
def Y6:=@Bool.false_eq_true
def Y7:=@List.filter_sublist
def Y8:=@PySem.wpAny_mono
def Y9:=@List.length_nil
def Za:=@List.length_range
def Zb:=@PySem.wpAny_passesOwn
def Zc:=@List.pairwise_cons
def Zd:=@Option.isSome_iff_exists
def Ze:=@PySem.wpAny_isInstance
def Zf:=@PySem.wpAny_callSpecial?_slot
def Zg:=@List.append_nil
def Zh:=@List.nodup_cons
def Zj:=@List.filter_cons_of_pos
def Zk:=@List.filter_cons_of_neg
def Zl:=@if_false
def Zm:=@List.flatten_cons
def Zn:=@PySem.Heap.get?_update_ne
def Zo:=@Int.emod_lt_of_pos
namespace L2
open PySem PySem.Spec PyProof.Rows
abbrev Key:=Sum Int Str
def Je:Key->Value->Bool
 | .inl k,v=>Value.isInt k v
 | .inr x,v=>Value.isStrOf x v
def keyH(w:World):Key->Int
 | .inl k=>hashInt k
 | .inr x=>hashStr w x
theorem Bg:∀{k:Key} {v:Value},Je k v=true->(∃i t,k=Sum.inl i/\v=Value.int i t)\/(∃x t,k=Sum.inr x/\v=Value.str x t)
 | .inl i,v,h=>by
  obtain⟨t,e⟩:=Value.isInt_shape (k:=i) (v:=v) h;exact .inl ⟨i,t,rfl,e⟩
 | .inr x,v,h=>by
  obtain⟨t,e⟩:=Value.isStrOf_shape (x:=x) (v:=v) h;exact .inr ⟨x,t,rfl,e⟩
theorem Rg(i:Int)(t:Tok):Je (.inl i) (.int i t)=true:=by simp[Je,Value.isInt]
theorem Ri(x:Str)(t:Tok):Je (.inr x) (.str x t)=true:=by simp[Je,Value.isStrOf]
theorem Xd(a b:Int):decide ((Sum.inl a:Key)=Sum.inl b)=(a==b):=by
 by_cases e:a=b
 ·subst e;simp
 ·have h:¬(Sum.inl a:Key)=Sum.inl b:=λq=>e (Sum.inl.inj q);rw[decide_eq_false h];exact(beq_eq_false_iff_ne.mpr e).symm
theorem X3(a b:Str):decide ((Sum.inr a:Key)=Sum.inr b)=decide (a=b):=by
 by_cases e:a=b
 ·subst e;simp
 ·have h:¬(Sum.inr a:Key)=Sum.inr b:=λq=>e (Sum.inr.inj q);rw[decide_eq_false h,decide_eq_false e]
theorem Xg(a:Int)(b:Str):decide ((Sum.inl a:Key)=Sum.inr b)=false:=decide_eq_false (λq=>nomatch q)
theorem Xi(a:Str)(b:Int):decide ((Sum.inr a:Key)=Sum.inl b)=false:=decide_eq_false (λq=>nomatch q)
def Bc(prog:Program)(w:World):PySem.KeyKind prog w Key where
 is:=Je
 hash:=keyH w
 inj:=λv a b ha hb=>by
  rcases Bg ha with⟨i,t,rfl,rfl⟩|⟨x,t,rfl,rfl⟩
  ·rcases Bg hb with⟨j,u,rfl,e⟩|⟨y,u,rfl,e⟩
   ·injection e with e1 _;rw[e1]
   ·exact nomatch e
  ·rcases Bg hb with⟨j,u,rfl,e⟩|⟨y,u,rfl,e⟩
   ·exact nomatch e
   ·injection e with e1 _;rw[e1]
 byValue:=λk v h=>by
  rcases Bg h with⟨i,t,rfl,rfl⟩|⟨x,t,rfl,rfl⟩<;> rfl
 pyHash:=λhv h=>by
  rcases Bg hv with⟨i,t,rfl,rfl⟩|⟨x,t,rfl,rfl⟩
  ·exact wpAny_pyHash_int h
  ·exact wpAny_pyHash_str h
 eqBool:=λhu hv h=>by
  rcases Bg hu with⟨i,t,rfl,rfl⟩|⟨x,t,rfl,rfl⟩
  ·rcases Bg hv with⟨j,u,rfl,rfl⟩|⟨y,u,rfl,rfl⟩
   ·rw[Xd] at h;exact wpAny_eqBool_int h
   ·rw[Xg] at h;exact SeqAt.EqAt.int_str i t y u _ _ _ _ h
  ·rcases Bg hv with⟨j,u,rfl,rfl⟩|⟨y,u,rfl,rfl⟩
   ·rw[Xi] at h;exact SeqAt.EqAt.str_int x t j u _ _ _ _ h
   ·rw[X3] at h;exact wpAny_eqBool_str h
 «strs» :=λk x t v h=>by
  rcases Bg h with⟨i,u,rfl,e⟩|⟨y,u,rfl,e⟩
  ·exact nomatch e
  ·injection e with e1 _;subst e1;cases v<;> rfl
theorem Mp(prog:Program)(w:World)(i:Int)(t:Tok):(Bc prog w).is (.inl i) (.int i t)=true:=Rg i t
theorem Mr(prog:Program)(w:World)(x:Str)(t:Tok):(Bc prog w).is (.inr x) (.str x t)=true:=Ri x t
inductive V where
 |non|bl (b:Bool)|int (i:Int)|str (x:Str)|byt (b:Array UInt8)|flt (b:UInt64)|ref (a:Addr)|ty (n:String)
 deriving DecidableEq
def RelV:V->Value->Prop
 | .non,u=>u=Value.none
 | .bl b,u=>u=Value.bool b
 | .int i,u=>∃t,u=Value.int i t
 | .str x,u=>∃t,u=Value.str x t
 | .byt b,u=>∃t,u=Value.bytes b t
 | .flt b,u=>∃t,u=Value.float b t
 | .ref a,u=>u=Value.ref a
 | .ty n,u=>u=Value.type n
abbrev Vals:List V->List Value->Prop:=Paired RelV
theorem Vals.length{xs:List V}{us:List Value}(r:Vals xs us):xs.length=us.length:=Paired.length r
theorem Vals.get:∀{xs:List V} {us:List Value} {i:Nat} {x:V},Vals xs us->xs[i]? =some x->∃u,us[i]? =some u/\RelV x u
 |_,_,_,_,.nil,e=>by simp at e
 |_,_,0,_,.cons r _,e=>by simp at e;subst e;exact⟨_,rfl,r⟩
 |_,_,i+1,x,.cons _ t,e=>by
  obtain⟨u,h1,h2⟩:=Vals.get (i:=i) (x:=x) t (by simpa using e);exact⟨u,by simpa using h1,h2⟩
theorem Vals.set{x:V}{u:Value}(r:RelV x u):∀{xs:List V} {us:List Value} (i:Nat),Vals xs us->Vals (xs.set i x) (us.set i u)
 |_,_,_,.nil=> .nil
 |_,_,0,.cons _ t=> .cons r t
 |_,_,i+1,.cons q t=> .cons q (Vals.set r i t)
theorem Vals.append:∀{xs ys:List V} {us ws:List Value},Vals xs us->Vals ys ws->Vals (xs++ys) (us++ws)
 |_,_,_,_,.nil,s=>s
 |_,_,_,_,.cons r t,s=> .cons r (Vals.append t s)
theorem Vals.take:∀{xs:List V} {us:List Value} (n:Nat),Vals xs us->Vals (xs.take n) (us.take n)
 |_,_,0,_=> .nil
 |_,_,_+1,.nil=> .nil
 |_,_,n+1,.cons r t=> .cons r (Vals.take n t)
theorem Vals.drop:∀{xs:List V} {us:List Value} (n:Nat),Vals xs us->Vals (xs.drop n) (us.drop n)
 |_,_,0,r=>r
 |_,_,_+1,.nil=> .nil
 |_,_,n+1,.cons _ t=>Vals.drop n t
def RelO:Option V->Option Value->Prop
 |some v,some u=>RelV v u
 |none,none=>True
 |_,_=>False
def KV{κ:Type}:List (κ×V)->List (κ×Value)->Prop:=Paired λ(p:κ×V) (q:κ×Value)=>p.1=q.1/\RelV p.2 q.2
def kV:Key->V
 | .inl i=> .int i
 | .inr x=> .str x
inductive HO where
 |lst (xs:List V)
 |tup (xs:List V)
 |dK (kvs:List (Key×V))|dT (kvs:List (List Key×V))
 |set (S:Int->Bool) (n:Nat)
 |ins (C dx:Addr) (fs:List (Str×V))
 |own (x:Addr)
 |xd (fs:List (Str×V))
 |met (f x:Addr)
 |rng (lo hi:Int)
 |frz (o:Obj) (u:HO)
 |tbl (ps:Array Value)
 |ext (φ:Heap->Prop)
abbrev Hp:=Addr->Option HO
def upd(H:Hp)(a:Addr)(o:HO):Hp:=λb=>if b=a then some o else H b
theorem Ab{H:Hp}{a:Addr}{o:HO}:upd H a o a=some o:=by unfold upd;rw[Yf rfl]
theorem Aj{H:Hp}{a b:Addr}{o:HO}(h:b≠a):upd H a o b=H b:=by unfold upd;rw[Lt h]
theorem Ld{H:Hp}{a:Addr}{o u:HO}:upd (upd H a o) a u=upd H a u:=by
 funext b;unfold upd;split<;> rfl
theorem A5{H:Hp}{a b:Addr}{o u:HO}(h:H a=some o)(h':H b=some u)(d:o≠u):a≠b:=by
 intro e;subst e;rw[h] at h';exact d (Option.some.inj h')
theorem Ay{H:Hp}{a b:Addr}{o:HO}(h:H a=some o)(h':H b=none):a≠b:=by
 intro e;subst e;rw[h] at h';cases h'
def IsTupN(h:Heap)(a:Addr)(items:Array Value):Prop:=∃o,h.get? a=some o/\o.cls= .type "tuple"/\o.dict=none/\∃n,o.data= .seq items n
theorem IsTupN.new(h:Heap)(items:Array Value):IsTupN (h.push {cls:= .type "tuple",data:= .seq items}) h.objs.size items:=⟨_,Yi _ rfl,rfl,rfl,_,rfl⟩
theorem IsTupN.tup{h:Heap}{a:Addr}{items:Array Value}(x:IsTupN h a items):IsTup h a items:=let ⟨o,e,c,_,n,d⟩:=x;⟨o,e,c,n,d⟩
section
variable(P:Program)(w:World)
def ObjOk(H:Hp)(h:Heap)(a:Addr):HO->Prop
 | .lst xs=>xs.length<=sizeLine/\∃(its:List Value) (n:Nat),Vals xs its/\h.get? a=some {cls:= .type "list",data:= .seq its.toArray n}
 | .tup xs=>xs.length<=sizeLine/\∃its:List Value,Vals xs its/\IsTupN h a its.toArray
 | .dK kvs=>kvs.length<=sizeLine/\(a==sysModules)=false/\∃vs,KV kvs vs/\h.DictOf (Bc P w) a vs
 | .dT kvs=>kvs.length<=sizeLine/\(a==sysModules)=false/\∃xs:List (List Key×Addr×Value),
   Paired (λ(p:List Key×V) (q:List Key×Addr×Value)=>p.1=q.1/\H q.2.1=some (.tup (p.1.map kV))/\RelV p.2 q.2.2) kvs xs/\
   ∃o es ep,h.get? a=some o/\o.ExactDict/\o.data= .dict es ep/\es.toList=xs.map (entryOfKey (tupleKind (Bc P w)))/\(xs.map (·.1)).Nodup
 | .set S n=>h.SetOf (intKind P w) a S n
 | .ins C dx fs=>H dx=some (.own a)/\fs.length<=1000/\dx≠a/\h.get? a=some (instObj C dx)/\
   ∃mA,h.Ns1 dx mA/\(∀f,RelO (fs.lookup f) (mA f))/\PySem.Within mA (fs.map (·.1))
 | .own _=>∃o,h.get? a=some o
 | .xd fs=>∃mA,h.Ns1 a mA/\∀f,RelO (fs.lookup f) (mA f)
 | .rng lo hi=>∃t u v,h.get? a=some {cls:= .type "range",data:= .fields #[.int lo t,.int hi u,.int 1 v]}
 | .frz o u=>h.get? a=some o/\ObjOk H h a u
 | .tbl ps=>h.get? a=some {cls:= .none,data:= .fields ps}
 | .met f x=>h.get? a=some (methodObj (.ref f) (.ref x))
 | .ext φ=>φ h/\(∃o,h.get? a=some o)/\∀h1 h2:Heap,φ h1->(∀o,h1.get? a=some o->h2.get? a=some o)->φ h2
def HOk(H:Hp)(h:Heap):Prop:=∀a o,H a=some o->ObjOk P w H h a o
end
section
variable{P:Program}{w:World}{H H':Hp}{h h':Heap}{a:Addr}{o:HO}
theorem ObjOk.lt(x:ObjOk P w H h a o):a<h.objs.size:=by
 cases o with
 |lst xs=>obtain⟨_,_,_,_,e⟩:=x;exact Yj e
 |tup xs=>obtain⟨_,_,_,p⟩:=x;exact p.tup.lt
 |dK kvs=>obtain⟨_,_,_,_,o,_,_,e,_⟩:=x;exact Yj e
 |dT kvs=>obtain⟨_,_,_,_,o,_,_,e,_⟩:=x;exact Yj e
 |set S n=>obtain⟨o,_,_,_,e,_⟩:=x;exact Yj e
 |ins C dx fs=>obtain⟨_,_,_,e,_⟩:=x;exact Yj e
 |own y=>obtain⟨_,e⟩:=x;exact Yj e
 |xd fs=>obtain⟨_,⟨_,_,_,e,_⟩,_⟩:=x;exact Yj e
 |rng lo hi=>obtain⟨_,_,_,e⟩:=x;exact Yj e
 |frz ob u=>obtain⟨e,_⟩:=x;exact Yj e
 |tbl ps=>exact Yj (show h.get? a=some _ from x)
 |met f y=>exact Yj (show h.get? a=some _ from x)
 |ext φ=>obtain⟨_,⟨_,e⟩,_⟩:=x;exact Yj e
theorem Paired.mapP{α β:Type}{F G:α->β->Prop}:∀{l₁:List α} {l₂:List β},Paired F l₁ l₂->(∀a b,F a b->G a b)->Paired G l₁ l₂
 |_,_,.nil,_=> .nil
 |_,_,.cons r t,f=> .cons (f _ _ r) (Paired.mapP t f)
theorem ObjOk.stay(x:ObjOk P w H h a o)(k:∀b u,(b=a\/H b=some (.own a))->h.get? b=some u->h'.get? b=some u)(ho:∀b,H b=some (.own a)->H' b=some (.own a))(ht:∀b xs,H b=some (.tup xs)->H' b=some (.tup xs)):ObjOk P w H' h' a o:=by
 induction o with
 |lst xs=>obtain⟨z,its,n,r,e⟩:=x;exact⟨z,its,n,r,k _ _ (.inl rfl) e⟩
 |tup xs=>obtain⟨z,its,r,ob,e,c⟩:=x;exact⟨z,its,r,ob,k _ _ (.inl rfl) e,c⟩
 |dK kvs=>obtain⟨z,y,vs,r,ob,es,ep,e,c⟩:=x;exact⟨z,y,vs,r,ob,es,ep,k _ _ (.inl rfl) e,c⟩
 |dT kvs=>
  obtain⟨z,y,xs,r,ob,es,ep,e,c⟩:=x;exact⟨z,y,xs,Paired.mapP r λp q z=>⟨z.1,ht _ _ z.2.1,z.2.2⟩,ob,es,ep,k _ _ (.inl rfl) e,c⟩
 |set S n=>obtain⟨ob,es,ep,t,e,c⟩:=x;exact⟨ob,es,ep,t,k _ _ (.inl rfl) e,c⟩
 |ins C dx fs=>
  obtain⟨d,z,ne,e,mA,⟨od,es,ep,e2,c⟩,r⟩:=x;exact⟨ho _ d,z,ne,k _ _ (.inl rfl) e,mA,⟨od,es,ep,k _ _ (.inr d) e2,c⟩,r⟩
 |own y=>obtain⟨ob,e⟩:=x;exact⟨ob,k _ _ (.inl rfl) e⟩
 |xd fs=>obtain⟨mA,⟨od,es,ep,e,c⟩,r⟩:=x;exact⟨mA,⟨od,es,ep,k _ _ (.inl rfl) e,c⟩,r⟩
 |rng lo hi=>obtain⟨t,u,v,e⟩:=x;exact⟨t,u,v,k _ _ (.inl rfl) e⟩
 |frz ob u ih=>obtain⟨e,q⟩:=x;exact⟨k _ _ (.inl rfl) e,ih q⟩
 |tbl ps=>
  have e:h.get? a=some {cls:= .none,data:= .fields ps}:=x;show h'.get? a=some {cls:= .none,data:= .fields ps};exact k a _ (.inl rfl) e
 |met f y=>
  have e:h.get? a=some (methodObj (.ref f) (.ref y)):=x;show h'.get? a=some (methodObj (.ref f) (.ref y));exact k a _ (.inl rfl) e
 |ext φ=>obtain⟨p,⟨o,e⟩,st⟩:=x;exact⟨st _ _ p λo q=>k _ _ (.inl rfl) q,⟨o,k _ _ (.inl rfl) e⟩,st⟩
theorem HOk.lt(x:HOk P w H h)(e:H a=some o):a<h.objs.size:=(x a o e).lt
theorem HOk.fresh(x:HOk P w H h)(e:h.objs.size<=a):H a=none:=by
 cases q:H a with
 |none=>rfl
 |some u=>exact absurd (lt_of_lt_of_le (x.lt q) e) (lt_irrefl _)
theorem HOk.kept(x:HOk P w H h)(k:∀b u,h.get? b=some u->h'.get? b=some u):HOk P w H h':=λa o e=>
 (x a o e).stay (λb u _ q=>k b u q) (λ_ q=>q) λ_ _ q=>q
theorem HOk.laid(x:HOk P w H h)(k:∀b u,h.get? b=some u->h'.get? b=some u)(hp:h.objs.size<=a)(new:ObjOk P w (upd H a o) h' a o):HOk P w (upd H a o) h':=λb u e=>by
 have hn:=x.fresh hp;by_cases hb:b=a
 ·subst hb;rw[Ab] at e;cases e;exact new
 ·rw[Aj hb] at e;exact(x b u e).stay (λc v _ q=>k c v q) (λc q=>by rw[Aj (Ay q hn)];exact q) λc xs q=>by rw[Aj (Ay q hn)];exact q
end
def Rd(H:Hp)(a:Addr)(u:HO):Prop:=H a=some u\/∃o,H a=some (.frz o u)
theorem Rd.ok{P:Program}{w:World}{H:Hp}{h:Heap}{a:Addr}{u:HO}(r:Rd H a u)(x:HOk P w H h):ObjOk P w H h a u:=by
 rcases r with r|⟨o,r⟩
 ·exact x a u r
 ·obtain⟨_,q⟩:=x a _ r;exact q
def Mut:Option HO->Prop
 |some (.lst _)=>True
 |some (.dK _)=>True
 |some (.dT _)=>True
 |some (.set _ _)=>True
 |some (.ins _ _ _)=>True
 |some (.ext _)=>True
 |_=>False
section
variable{P:Program}{w:World}{H:Hp}{h h':Heap}{x e:Addr}{o':HO}
theorem HOk.write(ok:HOk P w H h)(mu:Mut (H x))(he:e=x\/H e=some (.own x))(k:∀b u,b≠e->h.get? b=some u->h'.get? b=some u)(heo:∃u,h'.get? e=some u)(new:ObjOk P w (upd H x o') h' x o'):HOk P w (upd H x o') h':=λb u q=>by
 have nown:∀c y,H c=some (.own y)->c≠x:=λc y r z=>by subst z;rw[r] at mu;exact mu
 have ntup:∀c xs,H c=some (.tup xs)->c≠x:=λc xs r z=>by subst z;rw[r] at mu;exact mu
 by_cases hb:b=x
 ·subst hb;rw[Ab] at q;cases q;exact new
 ·rw[Aj hb] at q;by_cases hbe:b=e
  ·have q':H b=some (.own x):=by
    rcases he with z|z
    ·exact absurd (hbe.trans z) hb
    ·rw[hbe];exact z
   rw[q] at q';cases q';obtain⟨v,hv⟩:=heo;exact⟨v,by rw[hbe];exact hv⟩
  ·refine(ok b u q).stay (λc v hc r=>k c v ?_ r) (λc r=>by rw[Aj (nown c b r)];exact r) λc xs r=>by rw[Aj (ntup c xs r)];exact r
   rcases hc with rfl|hc
   ·exact hbe
   ·rintro rfl;rcases he with z|z
    ·exact nown c b hc z
    ·rw[hc] at z;cases z;exact hb rfl
end
structure Un(fs ex:List Addr)(H H':Hp)(h h':Heap):Prop where
 keep:∀b o,h.get? b=some o->H b=none->b ∉ fs->b ∉ ex->h'.get? b=some o
 slot:∀b o,h.get? b=some o->H b=none->b∈fs->b ∉ ex->∃sl,h'.get? b=some {o with slots:=sl}
 free:∀b o,h.get? b=some o->H b=none->b ∉ ex->H' b=none
 there:∀b o,h.get? b=some o->b ∉ ex->∃o',h'.get? b=some o'
 tups:∀b xs,H b=some (.tup xs)->H' b=some (.tup xs)
 frzs:∀b o u,H b=some (.frz o u)->H' b=some (.frz o u)
 tbls:∀b ps,H b=some (.tbl ps)->∃more,H' b=some (.tbl (ps++more))
section
variable{fs fs' ex ex':List Addr}{H H1 H2:Hp}{h h1 h2 h':Heap}{a x e:Addr}{o:HO}
theorem Un.any(u:Un fs ex H H1 h h1){b:Addr}{ob:Obj}(q:h.get? b=some ob)(n:H b=none)(hx:b ∉ ex):∃sl,h1.get? b=some {ob with slots:=sl}:=by
 by_cases hb:b∈fs
 ·exact u.slot b ob q n hb hx
 ·exact⟨ob.slots,u.keep b ob q n hb hx⟩
theorem Un.kept(k:∀b u,h.get? b=some u->h'.get? b=some u):Un fs ex H H h h':=
 ⟨λb ob q _ _ _=>k b ob q,λb ob q _ _ _=>⟨ob.slots,k b ob q⟩,λ_ _ _ n _=>n,λb ob q _=>⟨ob,k b ob q⟩,λ_ _ q=>q,λ_ _ _ q=>q,λ_ ps q=>⟨#[],by rw[q];simp⟩⟩
theorem Un.refl:Un fs ex H H h h:=Un.kept λ_ _ q=>q
theorem Un.laid(k:∀b u,h.get? b=some u->h'.get? b=some u)(hp:h.objs.size<=a)(hn:H a=none):Un fs ex H (upd H a o) h h' where
 keep:=λb u q _ _ _=>k b u q
 slot:=λb u q _ _ _=>⟨u.slots,k b u q⟩
 free:=λb u q n _=>by rw[Aj (ne_of_lt (lt_of_lt_of_le (Yj q) hp))];exact n
 there:=λb u q _=>⟨u,k b u q⟩
 tups:=λb xs q=>by rw[Aj (Ay q hn)];exact q
 frzs:=λb u xs q=>by rw[Aj (Ay q hn)];exact q
 tbls:=λb ps q=>⟨#[],by rw[Aj (Ay q hn),q];simp⟩
theorem Un.write(mu:Mut (H x))(he:e=x\/H e=some (.own x))(k:∀b u,b≠e->h.get? b=some u->h'.get? b=some u)(heo:∃u,h'.get? e=some u):Un fs ex H (upd H x o) h h':=by
 have hx:∀b,H b=none->b≠x:=λb n z=>by subst z;rw[n] at mu;exact mu
 have hb:∀b,H b=none->b≠e:=λb n z=>by
  subst z;rcases he with r|r
  ·exact hx b n r
  ·rw[n] at r;cases r
 have hm:∀b u,H b=some u->¬Mut (some u)->b≠x:=λb u q nm z=>by subst z;rw[q] at mu;exact nm mu
 refine⟨λb u q n _ _=>k b u (hb b n) q,λb u q n _ _=>⟨u.slots,k b u (hb b n) q⟩,λb u q n _=>by rw[Aj (hx b n)];exact n,λb u q _=> ?_,
  λb xs q=>by rw[Aj (hm b _ q λz=>z)];exact q,λb u xs q=>by rw[Aj (hm b _ q λz=>z)];exact q,λb ps q=>⟨#[],by rw[Aj (hm b _ q λz=>z),q];simp⟩⟩
 by_cases hbe:b=e
 ·subst hbe;exact heo
 ·exact⟨u,k b u hbe q⟩
end
def trk(h:Heap)(H:Hp):List Addr:=(List.range h.objs.size).filter λa=>(H a).isSome
def Kv(h:Heap)(H:Hp):Heap:=PySem.W.hideAll h (trk h H)
theorem Qn(h:Heap)(H:Hp):(Kv h H).objs.size=h.objs.size:=PySem.W.hideAll_size _ _
theorem Tv{h:Heap}{H:Hp}{b:Addr}{o:Obj}(e:h.get? b=some o)(n:H b=none):(Kv h H).get? b=some o:=
 PySem.W.hideAll_get _ e λhm=>by
  have q:(H b).isSome=true:=(mem_filter.mp hm).2;rw[n] at q;simp at q
theorem V2{h:Heap}{H:Hp}{b:Addr}{o:Obj}(e:(Kv h H).get? b=some o):h.get? b=some o/\H b=none:=by
 have e':h.get? b=some o:=PySem.W.of_hideAll (trk h H) e;refine⟨e',?_⟩;cases q:H b with
 |none=>rfl
 |some x=>
  have hm:b∈trk h H:=mem_filter.mpr ⟨mem_range.mpr (Yj e'),by simp[q]⟩;have z:(Kv h H).get? b=none:=PySem.W.hideAll_none (trk h H) hm;rw[z] at e;cases e
structure Mod(K:Frag)(mg:Str->Option Value)(base:Heap):Prop where
 kin:K.In base
 glob:base.Ns mainGlobals mg
 blt:∃mb,base.Ns builtinsNs mb/\∀x:Str,x≠"__name__"->mb x=bootBuiltins x
 nolimit:base.NoLimit
structure Cx where
 prog:Program
 w:World
 K:Frag
 mg:Str->Option Value
 base:Heap
 A:Around
 N:List Str
 s₀:Shared
 H₀:Hp
 env:Env
 outer:List Env
 stack:List Env
 ex:List Addr
 fn:Str->Bool
 calm:Bool
 pn:List (Addr×Obj)
 xe:Value->Shared->Prop
def frs(l:List Env):List Addr:=l.filterMap (·.frame)
abbrev Cx.fs(X:Cx):List Addr:=frs X.outer
def Vis(sc:Scope)(x:Str):Prop:=sc.names.lookup x=some .local\/sc.names.lookup x=some .cell\/sc.names.lookup x=some .free
def Loc(sc:Scope)(x:Str):Prop:=sc.names.lookup x=some .local\/sc.names.lookup x=some .cell
def Look(env:Env)(h:Heap)(m:Str->Option Value)(x:Str)(u:Value):Prop:=
 (env.kindOf x=some .local/\m x=some u)\/((env.kindOf x=some .cell\/env.kindOf x=some .free)/\∃c,env.cells.lookup x=some c/\h.IsCell c (some u))
structure Cx.Ok(X:Cx):Prop where
 mod:Mod X.K X.mg X.base
 kind:X.env.scope.kind= .function
 glob:X.env.globals=mainGlobals
 blt:X.env.builtins=builtinsNs
 above:X.s₀.heap.objs.size<=X.env.locals
 inj:∀x y c,X.env.cells.lookup x=some c->X.env.cells.lookup y=some c->x=y
 has:∀x,(X.env.kindOf x=some .cell\/X.env.kindOf x=some .free)->∃c,X.env.cells.lookup x=some c
 cab:∀x c,X.fn x=true->X.env.cells.lookup x=some c->X.s₀.heap.objs.size<=c
 hd:X.calm=true->X.A.handled=none
 frames:X.A.frames=some X.stack
 stk:X.stack=X.outer\/(X.stack=X.env::X.outer/\X.env.frame=some X.env.locals)
 exf:∀b∈X.ex,b≠X.env.locals/\∀x c,X.env.cells.lookup x=some c->c≠b
 bs:∀b o,X.base.get? b=some o->X.s₀.heap.get? b=some o/\X.H₀ b=none
 bsz:X.base.objs.size<=X.s₀.heap.objs.size
 noex:∀b o,X.base.get? b=some o->b ∉ X.ex
 exfs:∀b∈X.ex,b ∉ X.fs
 funs:X.s₀.heap.FunFrames X.base X.outer
 frf:∀b∈X.fs,X.H₀ b=none
structure Inv(X:Cx)(pins:List (Addr×Obj))(σ:List (Option V))(H:Hp)(s:Shared):Prop where
 ok:X.Ok
 os:s.os=X.s₀.os
 bare:AllBare s.gens
 base:Un X.fs X.ex X.H₀ H X.s₀.heap s.heap
 loc:∃m,s.heap.Ns X.env.locals m/\∀(i:Nat) (x:Str) (v:V),X.N[i]? =some x->σ[i]? =some (some v)->Vis X.env.scope x->∃u,RelV v u/\Look X.env s.heap m x u
 cell:∀x c,X.env.cells.lookup x=some c->∃v,s.heap.IsCell c v
 free:H X.env.locals=none
 freeC:∀x c,X.env.cells.lookup x=some c->H c=none
 pin:∀p∈X.pn++pins,s.heap.get? p.1=some p.2/\H p.1=none/\p.1≠X.env.locals/\p.1 ∉ X.fs/\∀v,p.2.data≠ .cell v
 hok:HOk X.prog X.w H s.heap
 len:σ.length=X.N.length
section
variable{X:Cx}{pins:List (Addr×Obj)}{σ:List (Option V)}{H H':Hp}{s:Shared}{h':Heap}
theorem Cx.Ok.nofr(ok:X.Ok){b:Addr}{o:Obj}(e:X.base.get? b=some o):b ∉ X.fs:=λhb=>by
 have:=(ok.funs.mem hb).1;rw[e] at this;cases this
theorem Inv.bs(I:Inv X pins σ H s):∀b o,X.base.get? b=some o->s.heap.get? b=some o/\H b=none:=λb o e=>
 ⟨I.base.keep b o (I.ok.bs b o e).1 (I.ok.bs b o e).2 (I.ok.nofr e) (I.ok.noex b o e),I.base.free b o (I.ok.bs b o e).1 (I.ok.bs b o e).2 (I.ok.noex b o e)⟩
theorem Inv.bk(I:Inv X pins σ H s):∀b o,X.base.get? b=some o->s.heap.get? b=some o:=λb o e=>(I.bs b o e).1
theorem Inv.mod(I:Inv X pins σ H s):Mod X.K X.mg X.base:=I.ok.mod
theorem Inv.kIn(I:Inv X pins σ H s):X.K.In s.heap:=I.ok.mod.kin.keeps I.bk
theorem Inv.lt(I:Inv X pins σ H s):X.env.locals<s.heap.objs.size:=let ⟨_,hn,_⟩:=I.loc;hn.lt
theorem Inv.sz(I:Inv X pins σ H s):X.s₀.heap.objs.size<=s.heap.objs.size:=le_trans I.ok.above (le_of_lt I.lt)
theorem Inv.nofs(I:Inv X pins σ H s){a:Addr}(h:s.heap.objs.size<=a):a ∉ X.fs:=λhb=>by
 obtain⟨_,o,ho,_⟩:=I.ok.funs.mem hb;exact absurd (lt_of_lt_of_le (Yj ho) (le_trans I.sz h)) (lt_irrefl _)
theorem Inv.cne(I:Inv X pins σ H s):∀x c,X.env.cells.lookup x=some c->c≠X.env.locals:=λx c e z=>by
 obtain⟨v,o,ho,hd⟩:=I.cell x c e;obtain⟨m,⟨o',es,ep,ho',hd',_⟩,_⟩:=I.loc;rw[z,ho'] at ho;cases ho;rw[hd'] at hd;cases hd
theorem Inv.funs(I:Inv X pins σ H s):s.heap.FunFrames X.base X.outer:=by
 have all:∀(l:List Env),(∀b∈frs l,b∈X.fs)->X.s₀.heap.FunFrames X.base l->s.heap.FunFrames X.base l:=by
  intro l
  induction l with
  |nil=>intro _ _;trivial
  |cons env r ih=>
   intro hs hl;obtain⟨hk,⟨L,o,hf,hn,ho,hd⟩,hr⟩:=hl;have hL:L∈X.fs:=hs L (by unfold frs;rw[List.filterMap_cons,hf];exact Yl);obtain⟨sl,e⟩:=I.base.slot L o ho (I.ok.frf L hL) hL λz=>I.ok.exfs L z hL;exact⟨hk,⟨L,_,hf,hn,e,hd⟩,ih (λb hb=>hs b (by unfold frs;rw[List.filterMap_cons,hf];exact Yn _ hb)) hr⟩
 exact all X.outer (λ_ hb=>hb) I.ok.funs
theorem Inv.stack(I:Inv X pins σ H s):s.heap.FunFrames X.base X.stack:=by
 rcases I.ok.stk with e|⟨e,hf⟩
 ·rw[e];exact I.funs
 ·rw[e];obtain⟨m,hn,_⟩:=I.loc;refine .cons (by rw[I.ok.kind];decide) hf hn ?_ I.funs;exact Heap.get?_none_of_le (le_trans I.ok.bsz I.ok.above)
theorem Inv.stkSub(I:Inv X pins σ H s):∀b∈frs X.stack,b∈X.env.locals::X.fs:=λb hb=>by
 rcases I.ok.stk with e|⟨e,hf⟩
 ·rw[e] at hb;exact Yn _ hb
 ·rw[e] at hb;unfold frs at hb;rw[List.filterMap_cons,hf] at hb;exact hb
theorem Inv.stkFree(I:Inv X pins σ H s):∀b∈frs X.stack,H b=none:=λb hb=>by
 rcases Ym.mp (I.stkSub b hb) with e|hb
 ·rw[e];exact I.free
 ·obtain⟨_,o,ho,_⟩:=I.ok.funs.mem hb;exact I.base.free b o ho (I.ok.frf b hb) λz=>I.ok.exfs b z hb
theorem Inv.step{g':Array GenState}{t':Nat}{d':Drawn}{ch:List Addr}(I:Inv X pins σ H s)(hch:∀b∈ch,(b∈X.ex\/X.s₀.heap.objs.size<=b)/\b≠X.env.locals/\(∀x c,X.env.cells.lookup x=some c->c≠b)/\∀p∈X.pn++pins,p.1≠b)(keep:∀b o,b≠X.env.locals->b ∉ X.fs->b ∉ ch->s.heap.get? b=some o->H b=none->h'.get? b=some o)(slot:∀b o,b≠X.env.locals->b∈X.fs->b ∉ ch->s.heap.get? b=some o->H b=none->∃sl,h'.get? b=some {o with slots:=sl})(free:∀b o,b ∉ ch->s.heap.get? b=some o->H b=none->H' b=none)(there:∀b o,b ∉ ch->s.heap.get? b=some o->∃o',h'.get? b=some o')(tups:∀b xs,H b=some (.tup xs)->H' b=some (.tup xs))(frzs:∀b o u,H b=some (.frz o u)->H' b=some (.frz o u))(tbls:∀b ps,H b=some (.tbl ps)->∃more,H' b=some (.tbl (ps++more)))(ns:∀m,s.heap.Ns X.env.locals m->h'.Ns X.env.locals m)(hok:HOk X.prog X.w H' h')(hg:AllBare g'):
  Inv X pins σ H' {s with heap:=h',gens:=g',drawn:=d',toks:=t'}:=by
 have neL:∀b o,X.s₀.heap.get? b=some o->b≠X.env.locals:=λb o e=>ne_of_lt (lt_of_lt_of_le (Yj e) I.ok.above);have neC:∀b o,X.s₀.heap.get? b=some o->b ∉ X.ex->b ∉ ch:=λb o e hx hb=>by
  rcases(hch b hb).1 with z|z
  ·exact hx z
  ·exact absurd (lt_of_lt_of_le (Yj e) z) (lt_irrefl _)
 have cellK:∀x c,X.env.cells.lookup x=some c->∀v,s.heap.IsCell c v->h'.IsCell c v:=λx c e v ⟨o,ho,hd⟩=>by
  have nch:c ∉ ch:=λz=>(hch c z).2.2.1 x c e rfl;by_cases hc:c∈X.fs
  ·obtain⟨sl,q⟩:=slot c o (I.cne x c e) hc nch ho (I.freeC x c e);exact⟨_,q,hd⟩
  ·exact⟨o,keep c o (I.cne x c e) hc nch ho (I.freeC x c e),hd⟩
 refine⟨I.ok,I.os,hg,⟨λb o e n hb hx=> ?_,λb o e n hb hx=> ?_,λb o e n hx=> ?_,λb o e hx=> ?_,λb xs e=>tups b xs (I.base.tups b xs e),λb o xs e=>frzs b o xs (I.base.frzs b o xs e),λb ps e=> ?_⟩,?_,λx c e=> ?_,?_,λx c e=> ?_,λp hp=> ?_,hok,I.len⟩
 ·exact keep b o (neL b o e) hb (neC b o e hx) (I.base.keep b o e n hb hx) (I.base.free b o e n hx)
 ·obtain⟨sl,e1⟩:=I.base.slot b o e n hb hx;obtain⟨sl',e2⟩:=slot b _ (neL b o e) hb (neC b o e hx) e1 (I.base.free b o e n hx);exact⟨sl',e2⟩
 ·obtain⟨o',e1⟩:=I.base.there b o e hx;exact free b o' (neC b o e hx) e1 (I.base.free b o e n hx)
 ·obtain⟨o',e1⟩:=I.base.there b o e hx;exact there b o' (neC b o e hx) e1
 ·obtain⟨m1,e1⟩:=I.base.tbls b ps e;obtain⟨m2,e2⟩:=tbls b _ e1;exact⟨m1++m2,by rw[e2,Array.append_assoc]⟩
 ·obtain⟨m,hn,hl⟩:=I.loc;refine⟨m,ns m hn,λi x v e1 e2 e3=> ?_⟩;obtain⟨u,r,l⟩:=hl i x v e1 e2 e3;refine⟨u,r,?_⟩;rcases l with l|⟨k,c,e,z⟩
  ·exact .inl l
  ·exact .inr ⟨k,c,e,cellK x c e _ z⟩
 ·obtain⟨v,z⟩:=I.cell x c e;exact⟨v,cellK x c e v z⟩
 ·obtain⟨m,⟨o,_,_,ho,_⟩,_⟩:=I.loc;exact free _ o (λz=>(hch _ z).2.1 rfl) ho I.free
 ·obtain⟨v,o,ho,hd⟩:=I.cell x c e;exact free c o (λz=>(hch c z).2.2.1 x c e rfl) ho (I.freeC x c e)
 ·obtain⟨e,n,ne,nf,d⟩:=I.pin p hp;have nch:p.1 ∉ ch:=λz=>(hch p.1 z).2.2.2 p hp rfl;exact⟨keep p.1 p.2 ne nf nch e n,free p.1 p.2 nch e n,ne,nf,d⟩
theorem Inv.un{t':Nat}(I:Inv X pins σ H s)(u:Un X.fs [] H H' s.heap h')(hok:HOk X.prog X.w H' h'):Inv X pins σ H' {s with heap:=h',toks:=t'}:=by
 obtain⟨m,⟨o,es,ep,ho,r⟩,_⟩:=id I.loc;obtain⟨sl,hL⟩:=u.any ho I.free (by simp);exact I.step (g':=s.gens) (d':=s.drawn) (ch:=[]) (λ_ z=>nomatch z) (λb o _ hb _ e n=>u.keep b o e n hb (by simp)) (λb o _ hb _ e n=>u.slot b o e n hb (by simp)) (λb o _ e n=>u.free b o e n (by simp)) (λb o _ e=>u.there b o e (by simp)) u.tups u.frzs u.tbls (λm' hm=>by
  obtain⟨o',es',ep',ho',r'⟩:=hm;rw[ho] at ho';cases ho';exact⟨_,es',ep',hL,r'⟩) hok I.bare
theorem Inv.call{g':Array GenState}{t':Nat}{d':Drawn}{ch:List Addr}(I:Inv X pins σ H s)(u:Un (frs X.stack) ch H H' s.heap h')(hok:HOk X.prog X.w H' h')(hg:AllBare g')(hch:∀b∈ch,(b∈X.ex\/X.s₀.heap.objs.size<=b)/\b≠X.env.locals/\(∀x c,X.env.cells.lookup x=some c->c≠b)/\∀p∈X.pn++pins,p.1≠b):
  Inv X pins σ H' {s with heap:=h',gens:=g',drawn:=d',toks:=t'}:=by
 obtain⟨m,⟨o,es,ep,ho,r⟩,_⟩:=id I.loc;obtain⟨sl,hL⟩:=u.any ho I.free λz=>(hch _ z).2.1 rfl;exact I.step (ch:=ch) hch (λb o hL hb hc e n=>u.keep b o e n (λz=>(Ym.mp (I.stkSub b z)).elim hL hb) hc) (λb o _ _ hc e n=>u.any e n hc) (λb o hc e n=>u.free b o e n hc) (λb o hc e=>u.there b o e hc) u.tups u.frzs u.tbls (λm' hm=>by
  obtain⟨o',es',ep',ho',r'⟩:=hm;rw[ho] at ho';cases ho';exact⟨_,es',ep',hL,r'⟩) hok hg
theorem Inv.turned{t':Nat}{it:Addr}(I:Inv X pins σ H s)(k:∀b o,b≠it->s.heap.get? b=some o->h'.get? b=some o)(hn:H it=none)(hL:it≠X.env.locals)(h1:it∈X.ex\/X.s₀.heap.objs.size<=it)(h2:∀x c,X.env.cells.lookup x=some c->c≠it)(h3:∀p∈X.pn++pins,p.1≠it):Inv X pins σ H {s with heap:=h',toks:=t'}:=by
 have nit:∀b u,H b=some u->b≠it:=λb u e z=>by rw[z,hn] at e;cases e
 refine I.step (g':=s.gens) (d':=s.drawn) (ch:=[it]) (λb hb=> ?_) (λb o _ _ hc e _=>k b o (λz=>hc (by simp[z])) e) (λb o _ _ hc e _=>⟨o.slots,k b o (λz=>hc (by simp[z])) e⟩) (λ_ _ _ _ n=>n)
  (λb o hc e=>⟨o,k b o (λz=>hc (by simp[z])) e⟩) (λ_ _ e=>e) (λ_ _ _ e=>e) (λb ps e=>⟨#[],by rw[e];simp⟩) (λm hm=> ?_) (λb u e=> ?_) I.bare
 ·have e:b=it:=by simpa using hb
  subst e;exact⟨h1,hL,h2,h3⟩
 ·obtain⟨o,es,ep,ho,r⟩:=hm;exact⟨o,es,ep,k _ o (Ne.symm hL) ho,r⟩
 ·refine(I.hok b u e).stay (λc v hc q=>k c v ?_ q) (λ_ q=>q) λ_ _ q=>q;rcases hc with z|z
  ·rw[z];exact nit b u e
  ·exact nit c _ z
theorem Inv.tok(I:Inv X pins σ H s)(t:Nat):Inv X pins σ H {s with toks:=t}:=I.un (h':=s.heap) (t':=t) Un.refl I.hok
theorem Inv.kept{t':Nat}(I:Inv X pins σ H s)(k:∀b u,s.heap.get? b=some u->h'.get? b=some u):Inv X pins σ H {s with heap:=h',toks:=t'}:=I.un (Un.kept k) (I.hok.kept k)
theorem Inv.laid{a:Addr}{o:HO}{t':Nat}(I:Inv X pins σ H s)(k:∀b u,s.heap.get? b=some u->h'.get? b=some u)(hp:s.heap.objs.size<=a)(new:ObjOk X.prog X.w (upd H a o) h' a o):
  Inv X pins σ (upd H a o) {s with heap:=h',toks:=t'}:=I.un (Un.laid k hp (I.hok.fresh hp)) (I.hok.laid k hp new)
theorem Inv.write{x e:Addr}{o:HO}{t':Nat}(I:Inv X pins σ H s)(mu:Mut (H x))(he:e=x\/H e=some (.own x))(k:∀b u,b≠e->s.heap.get? b=some u->h'.get? b=some u)(heo:∃u,h'.get? e=some u)(new:ObjOk X.prog X.w (upd H x o) h' x o):Inv X pins σ (upd H x o) {s with heap:=h',toks:=t'}:=I.un (Un.write mu he k heo) (I.hok.write mu he k heo new)
theorem Inv.pins_of{pins':List (Addr×Obj)}(I:Inv X pins σ H s)(h:∀p∈pins',s.heap.get? p.1=some p.2/\H p.1=none/\p.1≠X.env.locals/\p.1 ∉ X.fs/\∀v,p.2.data≠ .cell v):Inv X pins' σ H s:=
 ⟨I.ok,I.os,I.bare,I.base,I.loc,I.cell,I.free,I.freeC,λp hp=>(mem_append.mp hp).elim (λz=>I.pin p (mem_append_left _ z)) (h p),I.hok,I.len⟩
theorem M4{N:List Str}(hN:N.Nodup){i j:Nat}{x:Str}(a:N[i]? =some x)(b:N[j]? =some x):i=j:=by
 obtain⟨h1,e1⟩:=List.getElem?_eq_some_iff.mp a;obtain⟨h2,e2⟩:=List.getElem?_eq_some_iff.mp b;exact(List.getElem_inj hN).mp (e1.trans e2.symm)
theorem Qs{M:Model}{A:Around}{E:Value->Shared->Prop}{i:Nat}{x:Str}{v:V}{u:Value}{Q:Unit->Shared->Prop}(I:Inv X pins σ H s)(hN:X.N.Nodup)(hi:X.N[i]? =some x)(hx:Loc X.env.scope x)(r:RelV v u)(h:∀s',Inv X pins (σ.set i (some v)) H s'->(∃a,SameBut a s.heap s'.heap/\(a=X.env.locals\/X.env.cells.lookup x=some a))->Q () s')(hf:X.fn x=true\/X.env.scope.names.lookup x=some .local:=by first|exact .inl rfl|exact .inr rfl|assumption):wpAny M A (storeName X.env x u) Q E s:=by
 obtain⟨m,hn,hl⟩:=id I.loc;have hcls:(X.env.scope.kind== .class||(X.env.scope.kind== .module && X.env.locals !=X.env.globals))=false:=by rw[I.ok.kind];rfl
 have hiσ:i<σ.length:=by rw[I.len];exact(List.getElem?_eq_some_iff.mp hi).1
 have cne:=I.cne;have tracked:∀{a:Addr} {h':Heap},(∃o,s.heap.get? a=some o/\H a=none)->SameBut a s.heap h'->HOk X.prog X.w H h':=λ{a h'} ha hs b ob e=>by
  obtain⟨_,_,hfree⟩:=ha;refine(I.hok b ob e).stay (λc w' hc q=>(hs.2 c ?_).trans q) (λ_ q=>q) λ_ _ q=>q;rintro rfl;rcases hc with rfl|hc
  ·rw[hfree] at e;cases e
  ·rw[hfree] at hc;cases hc
 rcases hx with hk|hk
 ·refine wpAny_storeName_local hk hn (λh' hn' hs=> ?_) hcls;obtain⟨oL,_,_,hoL,_⟩:=id hn;refine h _ ⟨I.ok,I.os,I.bare,⟨λb o e n hb hx=> ?_,λb o e n hb hx=> ?_,I.base.free,λb o e hx=> ?_,I.base.tups,I.base.frzs,I.base.tbls⟩,⟨_,hn',λj y v' e1 e2 e3=> ?_⟩,λy c e=> ?_,I.free,I.freeC,λp hp=> ?_,tracked ⟨oL,hoL,I.free⟩ hs,by simpa using I.len⟩ ⟨_,hs,.inl rfl⟩
  ·exact(hs.2 b (ne_of_lt (lt_of_lt_of_le (Yj e) I.ok.above))).trans (I.base.keep b o e n hb hx)
  ·obtain⟨sl,e1⟩:=I.base.slot b o e n hb hx;exact⟨sl,(hs.2 b (ne_of_lt (lt_of_lt_of_le (Yj e) I.ok.above))).trans e1⟩
  ·obtain⟨o',e1⟩:=I.base.there b o e hx;exact⟨o',(hs.2 b (ne_of_lt (lt_of_lt_of_le (Yj e) I.ok.above))).trans e1⟩
  ·by_cases hj:j=i
   ·subst hj;rw[hi] at e1;cases e1;rw[List.getElem?_set_self hiσ] at e2;cases e2;exact⟨u,r,.inl ⟨hk,by simp⟩⟩
   ·rw[List.getElem?_set_ne (Ne.symm hj)] at e2;obtain⟨u',r',q⟩:=hl j y v' e1 e2 e3;refine⟨u',r',?_⟩;rcases q with⟨k,e⟩|⟨k,c,e,z⟩
    ·refine .inl ⟨k,?_⟩;have:y≠x:=λe=>hj (M4 hN e1 (e▸hi));simp[this,e]
    ·exact .inr ⟨k,c,e,z.sameBut hs (cne y c e)⟩
  ·obtain⟨w',z⟩:=I.cell y c e;exact⟨w',z.sameBut hs (cne y c e)⟩
  ·obtain⟨e,n,ne,nf,d⟩:=I.pin p hp;exact⟨(hs.2 p.1 ne).trans e,n,ne,nf,d⟩
 ·have hfn:X.fn x=true:=by
   rcases hf with z|z
   ·exact z
   ·rw[z] at hk;cases hk
  obtain⟨c,hc⟩:=I.ok.has x (.inl hk);obtain⟨w',z⟩:=I.cell x c hc;refine wpAny_storeName_cell I.ok.kind hk hc z (λh' hc' hs=> ?_);obtain⟨oc,hoc,hocd⟩:=id z;refine h {s with heap:=h'} ⟨I.ok,I.os,I.bare,⟨λb o e n hb hx=> ?_,λb o e n hb hx=> ?_,I.base.free,λb o e hx=> ?_,I.base.tups,I.base.frzs,I.base.tbls⟩,⟨m,hn.sameBut hs (Ne.symm (cne x c hc)),λj y v' e1 e2 e3=> ?_⟩,λy c' e=> ?_,I.free,I.freeC,λp hp=> ?_,tracked ⟨oc,hoc,I.freeC x c hc⟩ hs,by simpa using I.len⟩ ⟨c,hs,.inr hc⟩
  ·exact(hs.2 b (ne_of_lt (lt_of_lt_of_le (Yj e) (I.ok.cab x c hfn hc)))).trans (I.base.keep b o e n hb hx)
  ·obtain⟨sl,e1⟩:=I.base.slot b o e n hb hx;exact⟨sl,(hs.2 b (ne_of_lt (lt_of_lt_of_le (Yj e) (I.ok.cab x c hfn hc)))).trans e1⟩
  ·obtain⟨o',e1⟩:=I.base.there b o e hx;exact⟨o',(hs.2 b (ne_of_lt (lt_of_lt_of_le (Yj e) (I.ok.cab x c hfn hc)))).trans e1⟩
  ·by_cases hj:j=i
   ·subst hj;rw[hi] at e1;cases e1;rw[List.getElem?_set_self hiσ] at e2;cases e2;exact⟨u,r,.inr ⟨.inl hk,c,hc,hc'⟩⟩
   ·rw[List.getElem?_set_ne (Ne.symm hj)] at e2;obtain⟨u',r',q⟩:=hl j y v' e1 e2 e3;refine⟨u',r',?_⟩;rcases q with q|⟨k,c',e,z'⟩
    ·exact .inl q
    ·refine .inr ⟨k,c',e,z'.sameBut hs ?_⟩;rintro rfl;exact hj (M4 hN e1 (I.ok.inj _ _ _ e hc▸hi))
  ·by_cases hcc:c'=c
   ·subst hcc;exact⟨_,hc'⟩
   ·obtain⟨w2,z2⟩:=I.cell y c' e;exact⟨w2,z2.sameBut hs hcc⟩
  ·obtain⟨e,n,ne,nf,d⟩:=I.pin p hp;refine⟨(hs.2 p.1 ?_).trans e,n,ne,nf,d⟩;intro q;rw[q,hoc] at e;have q':oc=p.2:=Option.some.inj e;exact d w' (by rw[<-q'];exact hocd)
theorem Ei{M:Model}{A:Around}{E:Value->Shared->Prop}{i:Nat}{x:Str}{v:V}{u:Value}{Q:Unit->Shared->Prop}(I:Inv X pins σ H s)(hN:X.N.Nodup)(hi:X.N[i]? =some x)(hx:Loc X.env.scope x)(r:RelV v u)(h:∀s',Inv X pins (σ.set i (some v)) H s'->Q () s')(hf:X.fn x=true\/X.env.scope.names.lookup x=some .local:=by first|exact .inl rfl|exact .inr rfl|assumption):wpAny M A (storeName X.env x u) Q E s:=
 Qs I hN hi hx r (λs' I' _=>h s' I') hf
theorem Inv.call'{s':Shared}{ch:List Addr}(I:Inv X pins σ H s)(ho:s'.os=s.os)(u:Un (frs X.stack) ch H H' s.heap s'.heap)(hok:HOk X.prog X.w H' s'.heap)(hg:AllBare s'.gens)(hch:∀b∈ch,(b∈X.ex\/X.s₀.heap.objs.size<=b)/\b≠X.env.locals/\(∀x c,X.env.cells.lookup x=some c->c≠b)/\∀p∈X.pn++pins,p.1≠b):Inv X pins σ H' s':=by
 obtain⟨h',g',d',t',o'⟩:=s';have e:o'=s.os:=ho;subst e;exact I.call (g':=g') (t':=t') (d':=d') u hok hg hch
end
abbrev XK:=Value->Option Addr->Hp->Prop
abbrev St:=List (Option V)
abbrev VK:=V->Hp->Prop
abbrev TE:=St->Hp->VK->Prop
abbrev TT:=St->Hp->(Bool->Hp->Prop)->Prop
abbrev TA:=St->Hp->(List V->Hp->Prop)->Prop
structure Io where
 nx:St->Hp->Prop
 rt:VK
 bk:St->Hp->Prop:=λ_ _=>False
 ct:St->Hp->Prop:=λ_ _=>False
abbrev TS:=Io->St->Hp->Prop
def EP(X:Cx)(pins:List (Addr×Obj))(σ:St)(Q:VK)(u:Value)(s':Shared):Prop:=∃v H',Inv X pins σ H' s'/\RelV v u/\Q v H'
def TP(X:Cx)(pins:List (Addr×Obj))(σ:St)(Q:Bool->Hp->Prop)(b:Bool)(s':Shared):Prop:=∃H',Inv X pins σ H' s'/\Q b H'
def AP(X:Cx)(pins:List (Addr×Obj))(σ:St)(Q:List V->Hp->Prop)(us:List Value)(s':Shared):Prop:=∃vs H',Inv X pins σ H' s'/\Vals vs us/\Q vs H'
def SP(X:Cx)(pins:List (Addr×Obj))(D:Io)(f:Flow)(s':Shared):Prop:=
 match f with
 | .next=>∃σ' H',Inv X pins σ' H' s'/\D.nx σ' H'
 | .brk=>∃σ' H',Inv X pins σ' H' s'/\D.bk σ' H'
 | .cont=>∃σ' H',Inv X pins σ' H' s'/\D.ct σ' H'
 | .ret u=>∃v σ' H',Inv X pins σ' H' s'/\RelV v u/\D.rt v H'
def PE(X:Cx)(e:Expr)(t:TE):Prop:=
 ∀(pins:List (Addr×Obj)) (s:Shared) (σ:St) (H:Hp) (Q:VK),Inv X pins σ H s->t σ H Q->wpAny (model X.prog X.w) X.A (eval e X.env) (EP X pins σ Q) X.xe s
def PT(X:Cx)(e:Expr)(t:TT):Prop:=
 ∀(pins:List (Addr×Obj)) (s:Shared) (σ:St) (H:Hp) (Q:Bool->Hp->Prop),Inv X pins σ H s->t σ H Q->wpAny (model X.prog X.w) X.A (isTrue e X.env (eval e X.env)) (TP X pins σ Q) X.xe s
def PW(X:Cx)(e:Expr)(t:TT):Prop:=
 ∀(whole:Sem Value) (pins:List (Addr×Obj)) (s:Shared) (σ:St) (H:Hp) (Q:Bool->Hp->Prop),Inv X pins σ H s->t σ H Q->wpAny (model X.prog X.w) X.A (isTrue e X.env whole) (TP X pins σ Q) X.xe s
theorem PW.pt{X:Cx}{e:Expr}{t:TT}(h:PW X e t):PT X e t:=h _
def PA(X:Cx)(es:List Expr)(t:TA):Prop:=
 ∀(pos:Pos) (pins:List (Addr×Obj)) (s:Shared) (σ:St) (H:Hp) (Q:List V->Hp->Prop),Inv X pins σ H s->t σ H Q->wpAny (model X.prog X.w) X.A (spliced (backTo pos (starEach es X.env))) (AP X pins σ Q) X.xe s
def PS(X:Cx)(st:Stmt)(t:TS):Prop:=
 ∀(pins:List (Addr×Obj)) (s:Shared) (σ:St) (H:Hp) (D:Io),Inv X pins σ H s->t D σ H->wpAny (model X.prog X.w) X.A (exec st X.env) (SP X pins D) X.xe s
def PSs(X:Cx)(st:List Stmt)(t:TS):Prop:=
 ∀(pins:List (Addr×Obj)) (s:Shared) (σ:St) (H:Hp) (D:Io),Inv X pins σ H s->t D σ H->wpAny (model X.prog X.w) X.A (execs st X.env) (SP X pins D) X.xe s
theorem thn{α:Type}{t:Sem α}{Q Q':α->Shared->Prop}{M:Model}{A:Around}{E:Value->Shared->Prop}{s:Shared}(h:wpAny M A t Q E s)(hQ:∀a s,Q a s->Q' a s):wpAny M A t Q' E s:=Y8 h hQ λ_ _ x=>x
section
variable{X:Cx}
inductive Wo(i:Nat)(σ:St)(H:Hp)(Q:VK):Prop
 |mk (v:_):(σ[i]? =some (some v))->(Q v H)->Wo i σ H Q
def Oe(i:Nat):TE:=λσ H Q=>Wo i σ H Q
def tC(v:V):TE:=λ_ H Q=>Q v H
theorem X4{i:Nat}{x:Str}{pos:Pos}(hN:X.N[i]? =some x)(hv:Vis X.env.scope x)(hd:(x==("__debug__":Str))=false:=by decide)(hcd:(x==("__classdict__":Str))=false:=by decide):PE X (.Name x pos) (Oe i):=by
 intro pins s σ H Q I h;obtain⟨v,e,h⟩:=h;obtain⟨m,hn,hl⟩:=I.loc;obtain⟨u,r,l⟩:=hl i x v hN e hv;have fin:EP X pins σ Q u s:=⟨v,H,I,r,h⟩
 rcases l with⟨hk,hm⟩|⟨hk,c,hc,hcell⟩
 ·exact wpAny_Name (wpAny_loadName_local I.ok.kind hk hn hm fin) hd
 ·rcases hk with hk|hk
  ·exact wpAny_Name (wpAny_loadName_cell I.ok.kind hk hc hcell fin) hd
  ·exact wpAny_Name (wpAny_loadName_free I.ok.kind hk hc hcell fin hcd) hd
theorem Af{i j pos}:PE X (.Constant (.int i) j pos) (tC (.int i)):=λ_ _ _ H _ I h=>wpAny_Constant_int ⟨.int i,H,I.tok _,⟨_,rfl⟩,h⟩
theorem C0{b j pos}:PE X (.Constant (.bool b) j pos) (tC (.bl b)):=λ_ _ _ H _ I h=>Constant_bool ⟨.bl b,H,I,rfl,h⟩
theorem Jd{j pos}:PE X (.Constant .none j pos) (tC .non):=λ_ _ _ H _ I h=>Constant_none ⟨.non,H,I,rfl,h⟩
theorem Bo{x j pos}:PE X (.Constant (.str x) j pos) (tC (.str x)):=λ_ _ _ H _ I h=>Calls.Constant_str ⟨.str x,H,I.tok _,⟨_,rfl⟩,h⟩
def Gl(X:Cx)(x:Str):Prop:=X.env.kindOf x=some .globalImplicit
theorem O2{E:Value->Shared->Prop}{pins:List (Addr×Obj)}{s:Shared}{σ:St}{H:Hp}{x:Str}{u:Value}{pos:Pos}{Q:Value->Shared->Prop}(I:Inv X pins σ H s)(hg:Gl X x)(hm:X.mg x=some u)(h:Q u s)(hd:(x==("__debug__":Str))=false:=by decide):wpAny (model X.prog X.w) X.A (eval (.Name x pos) X.env) Q E s:=
 Calls.Name_function_global I.ok.kind hg (Calls.loadGlobal_global (by rw[I.ok.glob];exact I.mod.glob.keeps I.bk) hm h) hd
theorem Fe{E:Value->Shared->Prop}{pins:List (Addr×Obj)}{s:Shared}{σ:St}{H:Hp}{x:Str}{u:Value}{pos:Pos}{Q:Value->Shared->Prop}(I:Inv X pins σ H s)(hg:Gl X x)(hm:X.mg x=none)(hv:bootBuiltins x=some u)(h:Q u s)(hn:x≠"__name__":=by decide)(hd:(x==("__debug__":Str))=false:=by decide):wpAny (model X.prog X.w) X.A (eval (.Name x pos) X.env) Q E s:=by
 obtain⟨mb,h1,h2⟩:=I.mod.blt;exact Calls.Name_function_global I.ok.kind hg (Calls.loadGlobal_builtin (by rw[I.ok.glob];exact I.mod.glob.keeps I.bk) hm (by rw[I.ok.blt];exact h1.keeps I.bk) ((h2 x hn).trans hv) h) hd
variable{a b:Expr}{ta tb:TE}{pos:Pos}
def PC(X:Cx)(op:CmpOp)(a b:Expr)(t:TE):Prop:=
 ∀(pins:List (Addr×Obj)) (s:Shared) (σ:St) (H:Hp) (Q:VK),Inv X pins σ H s->t σ H Q->
  wpAny (model X.prog X.w) X.A (eval a X.env) (λv s₁=>wpAny (model X.prog X.w) X.A (eval b X.env) (λu s₂=>wpAny (model X.prog X.w) X.A (compareOp op v u) (EP X pins σ Q) X.xe s₂) X.xe s₁) X.xe s
inductive BlP(x:V)(H:Hp)(Q:Bool->Hp->Prop):Prop
 |mk (c:Bool):(x= .bl c)->(Q c H)->BlP x H Q
def tB(t:TE):TT:=λσ H Q=>t σ H λx H1=>BlP x H1 Q
theorem Xn{op:CmpOp}{t:TE}(h:PC X op a b t)(h1:behindInMarks op b=false:=by first|exact nobehind _ (by decide) (by decide)|rfl):PT X (.Compare a [op] [b] pos) (tB t):=by
 intro pins s σ H Q I hw;refine wpAny_isTrue_Compare1 (thn (h pins s σ H _ I hw) λv s1 h1=>thn h1 λu s2 h2=>thn h2 λc s3 ⟨x,H1,I1,r1,q1⟩=> ?_) h1;obtain⟨d,rfl,q⟩:=q1;cases r1;exact Yu ⟨H1,I1,q⟩
theorem Ce{e:Expr}{t:TE}(h:PE X e t)(he:∀whole,isTrue e X.env whole=(do let v <-whole;standAt e.pos;holding [v] (truthy v)):=by intro _;rfl):PT X e (tB t):=by
 intro pins s σ H Q I hw;refine isTrue_plain (thn (h pins s σ H _ I hw) λv s1 ⟨x,H1,I1,r1,q1⟩=> ?_) (he _);obtain⟨d,rfl,q⟩:=q1;cases r1;exact Yu ⟨H1,I1,q⟩
variable{tA tB':TT}{rest:List Expr}
def tAnd(t u:TT):TT:=λσ H Q=>t σ H λc H1=>if c=true then u σ H1 Q else Q false H1
def tOr(t u:TT):TT:=λσ H Q=>t σ H λc H1=>if c=true then Q true H1 else u σ H1 Q
def tNot(t:TT):TT:=λσ H Q=>t σ H λc H1=>Q (!c) H1
theorem Ga(ha:PT X a tA):PW X (.BoolOp .And [a] pos) tA:=by
 intro wh pins s σ H Q I h;refine isTrue_and (thn (ha pins s σ H Q I h) λc s1 e=> ?_);cases c with
 |true=>exact isTrue_and_nil e
 |false=>exact e
theorem Eb(ha:PT X a tA):PW X (.BoolOp .Or [a] pos) tA:=by
 intro wh pins s σ H Q I h;refine isTrue_or (thn (ha pins s σ H Q I h) λc s1 e=> ?_);cases c with
 |false=>exact isTrue_or_nil e
 |true=>exact e
theorem Ir(ha:PT X a tA)(hb:PW X (.BoolOp .And (b::rest) pos) tB'):PW X (.BoolOp .And (a::b::rest) pos) (tAnd tA tB'):=by
 intro wh pins s σ H Q I h;refine isTrue_and (thn (ha pins s σ H _ I h) λc s1 ⟨H1,I1,q1⟩=> ?_);cases c with
 |true=>exact hb wh pins s1 σ H1 Q I1 q1
 |false=>exact⟨H1,I1,q1⟩
theorem Fz(ha:PT X a tA)(hb:PW X (.BoolOp .Or (b::rest) pos) tB'):PW X (.BoolOp .Or (a::b::rest) pos) (tOr tA tB'):=by
 intro wh pins s σ H Q I h;refine isTrue_or (thn (ha pins s σ H _ I h) λc s1 ⟨H1,I1,q1⟩=> ?_);cases c with
 |true=>exact⟨H1,I1,q1⟩
 |false=>exact hb wh pins s1 σ H1 Q I1 q1
theorem Cg(ha:PT X a tA):PT X (.UnaryOp .Not a pos) (tNot tA):=by
 intro pins s σ H Q I h;exact isTrue_not (ha pins s σ H (λc H1=>Q (!c) H1) I h)
def tAndV(ta tb:TE):TE:=λσ H Q=>ta σ H λx H1=>∃c,x= .bl c/\if c=true then tb σ H1 Q else Q (.bl false) H1
def tOrV(ta tb:TE):TE:=λσ H Q=>ta σ H λx H1=>∃c,x= .bl c/\if c=true then Q (.bl true) H1 else tb σ H1 Q
def tNotV(ta:TE):TE:=λσ H Q=>ta σ H λx H1=>∃c,x= .bl c/\Q (.bl (!c)) H1
theorem Ff{op}{t:TE}(h:PE X a t):PE X (.BoolOp op [a] pos) t:=λpins s σ H Q I hw=>BoolOp_one (h pins s σ H Q I hw)
theorem Dj(ha:PE X a ta)(hb:PE X (.BoolOp .And (b::rest) pos) tb):PE X (.BoolOp .And (a::b::rest) pos) (tAndV ta tb):=by
 intro pins s σ H Q I h;refine BoolOp_and (thn (ha pins s σ H _ I h) λv s1 ⟨x,H1,I1,r1,q1⟩=> ?_);obtain⟨c,rfl,q1⟩:=q1;cases r1;refine Yu ?_;cases c with
 |true=>exact hb pins s1 σ H1 Q I1 q1
 |false=>exact⟨.bl false,H1,I1,rfl,q1⟩
theorem pe_or(ha:PE X a ta)(hb:PE X (.BoolOp .Or (b::rest) pos) tb):PE X (.BoolOp .Or (a::b::rest) pos) (tOrV ta tb):=by
 intro pins s σ H Q I h;refine BoolOp_or (thn (ha pins s σ H _ I h) λv s1 ⟨x,H1,I1,r1,q1⟩=> ?_);obtain⟨c,rfl,q1⟩:=q1;cases r1;refine Yu ?_;cases c with
 |false=>exact hb pins s1 σ H1 Q I1 q1
 |true=>exact⟨.bl true,H1,I1,rfl,q1⟩
theorem Ww(ha:PE X a ta):PE X (.UnaryOp .Not a pos) (tNotV ta):=by
 intro pins s σ H Q I h;refine UnaryOp_ (thn (ha pins s σ H _ I h) λv s1 ⟨x,H1,I1,r1,q1⟩=> ?_);obtain⟨c,rfl,q1⟩:=q1;cases r1;exact not_of (Yu ⟨.bl (!c),H1,I1,rfl,q1⟩)
end
def SqL(K:Frag)(H:Hp)(a:Addr)(xs:List V):Prop:=
 Rd H a (.lst xs)\/
  ∃(o:Obj) (its:Array Value) (n:Nat),K.lookup a=some o/\o.cls= .type "list"/\o.dict=none/\o.data= .seq its n/\its.size<=sizeLine/\Vals xs its.toList
def SqT(K:Frag)(H:Hp)(a:Addr)(xs:List V):Prop:=
 Rd H a (.tup xs)\/
  ∃(o:Obj) (its:Array Value) (n:Nat),K.lookup a=some o/\o.cls= .type "tuple"/\o.data= .seq its n/\its.size<=sizeLine/\Vals xs its.toList
def absV:Value->Option V
 | .none=>some .non
 | .bool b=>some (.bl b)
 | .int i _=>some (.int i)
 | .str x _=>some (.str x)
 | .bytes b _=>some (.byt b)
 | .float b _=>some (.flt b)
 | .ref a=>some (.ref a)
 | .type n=>some (.ty n)
 |_=>none
theorem RelV.abs{x:V}{u:Value}(r:RelV x u):absV u=some x:=by
 cases x with
 |non=>cases r;rfl
 |bl _=>cases r;rfl
 |int _=>obtain⟨t,rfl⟩:=r;rfl
 |str _=>obtain⟨t,rfl⟩:=r;rfl
 |byt _=>obtain⟨t,rfl⟩:=r;rfl
 |flt _=>obtain⟨t,rfl⟩:=r;rfl
 |ref _=>cases r;rfl
 |ty _=>cases r;rfl
theorem RelV.inj{x y:V}{u:Value}(r:RelV x u)(q:RelV y u):x=y:=Option.some.inj (r.abs.symm.trans q.abs)
theorem Vals.inj:∀{xs ys:List V} {us:List Value},Vals xs us->Vals ys us->xs=ys
 |_,_,_,.nil,.nil=>rfl
 |_,_,_,.cons r t,.cons r' t'=>by rw[r.inj r',Vals.inj t t']
section
variable{X:Cx}{pins:List (Addr×Obj)}{σ:St}{H:Hp}{s:Shared}{a:Addr}{xs ys:List V}
theorem SqL.of{K:Frag}(h:H a=some (.lst xs)):SqL K H a xs:= .inl (.inl h)
theorem SqT.of{K:Frag}(h:H a=some (.tup xs)):SqT K H a xs:= .inl (.inl h)
theorem Inv.list(I:Inv X pins σ H s)(h:SqL X.K H a xs):∃its:List Value,Vals xs its/\PlainL s.heap a its.toArray/\xs.length<=sizeLine:=by
 rcases h with h|⟨o,its,n,hk,hc,hd,hs,hz,r⟩
 ·obtain⟨z,its,n,r,e⟩:=h.ok I.hok;exact⟨its,r,⟨_,n,e,rfl,rfl,rfl⟩,z⟩
 ·refine⟨its.toList,r,⟨o,n,I.kIn a o hk,hc,hd,by simpa using hs⟩,?_⟩;have e:=r.length;simp only[length_toList] at e;omega
theorem Inv.tuple(I:Inv X pins σ H s)(h:SqT X.K H a xs):∃its:List Value,Vals xs its/\IsTup s.heap a its.toArray/\xs.length<=sizeLine:=by
 rcases h with h|⟨o,its,n,hk,hc,hs,hz,r⟩
 ·obtain⟨z,its,r,p⟩:=h.ok I.hok;exact⟨its,r,p.tup,z⟩
 ·refine⟨its.toList,r,⟨o,I.kIn a o hk,hc,n,by simpa using hs⟩,?_⟩;have e:=r.length;simp only[length_toList] at e;omega
theorem Inv.list_inj(I:Inv X pins σ H s)(h:SqL X.K H a xs)(h':SqL X.K H a ys):xs=ys:=by
 obtain⟨its,r,⟨o,n,e,_,_,d⟩,_⟩:=I.list h;obtain⟨its',r',⟨o',n',e',_,_,d'⟩,_⟩:=I.list h';rw[e] at e';cases e';rw[d] at d';injection d' with d1 _;have:its=its':=by simpa using Y2 toList d1
 subst this;exact r.inj r'
theorem Inv.tuple_inj(I:Inv X pins σ H s)(h:SqT X.K H a xs)(h':SqT X.K H a ys):xs=ys:=by
 obtain⟨its,r,⟨o,e,_,n,d⟩,_⟩:=I.tuple h;obtain⟨its',r',⟨o',e',_,n',d'⟩,_⟩:=I.tuple h';rw[e] at e';cases e';rw[d] at d';injection d' with d1 _;have:its=its':=by simpa using Y2 toList d1
 subst this;exact r.inj r'
end
abbrev Cx.wish(X:Cx)(E:Value->Shared->Prop):Cx:={X with xe:=E}
abbrev Cx.nox(X:Cx):Cx:=X.wish λ_ _=>False
theorem Cx.Ok.wish{X:Cx}(ok:X.Ok)(E:Value->Shared->Prop):(X.wish E).Ok:=
 ⟨ok.mod,ok.kind,ok.glob,ok.blt,ok.above,ok.inj,ok.has,ok.cab,ok.hd,ok.frames,ok.stk,ok.exf,ok.bs,ok.bsz,ok.noex,ok.exfs,ok.funs,ok.frf⟩
theorem Cx.Ok.unwish{X:Cx}{E:Value->Shared->Prop}(ok:(X.wish E).Ok):X.Ok:=
 ⟨ok.mod,ok.kind,ok.glob,ok.blt,ok.above,ok.inj,ok.has,ok.cab,ok.hd,ok.frames,ok.stk,ok.exf,ok.bs,ok.bsz,ok.noex,ok.exfs,ok.funs,ok.frf⟩
section
variable{X:Cx}{pins:List (Addr×Obj)}{σ:St}{H:Hp}{s:Shared}{E:Value->Shared->Prop}
theorem Inv.wish(I:Inv X pins σ H s)(E:Value->Shared->Prop):Inv (X.wish E) pins σ H s:=⟨I.ok.wish E,I.os,I.bare,I.base,I.loc,I.cell,I.free,I.freeC,I.pin,I.hok,I.len⟩
theorem Inv.unwish(I:Inv (X.wish E) pins σ H s):Inv X pins σ H s:=⟨I.ok.unwish,I.os,I.bare,I.base,I.loc,I.cell,I.free,I.freeC,I.pin,I.hok,I.len⟩
theorem SP.unwish{D:Io}{f:Flow}{s':Shared}(h:SP (X.wish E) pins D f s'):SP X pins D f s':=by
 cases f with
 |next=>obtain⟨σ',H',I,q⟩:=h;exact⟨σ',H',I.unwish,q⟩
 |brk=>obtain⟨σ',H',I,q⟩:=h;exact⟨σ',H',I.unwish,q⟩
 |cont=>obtain⟨σ',H',I,q⟩:=h;exact⟨σ',H',I.unwish,q⟩
 |ret u=>obtain⟨v,σ',H',I,r,q⟩:=h;exact⟨v,σ',H',I.unwish,r,q⟩
theorem PSs.nox{st:List Stmt}{t:TS}(h:PSs X.nox st t):PSs X st t:=λpins s σ H D I hw=>
 Y8 (h pins s σ H D (I.wish _) hw) (λ_ _ q=>q.unwish) λ_ _ z=>False.elim z
end
section
variable{X:Cx}{st:Stmt}{rest:List Stmt}{t u:TS}{e:Expr}{te:TE}{pos:Pos}
def Bj:TS:=λD σ H=>D.nx σ H
def Xf(t u:TS):TS:=λD σ H=>t {D with nx:=u D} σ H
theorem A0:PSs X [] Bj:=λ_ _ σ H _ I h=>wpAny_execs_nil ⟨σ,H,I,h⟩
theorem Ad(h1:PS X st t)(h2:PSs X rest u):PSs X (st::rest) (Xf t u):=by
 intro pins s σ H D I h;refine wpAny_execs_cons (thn (h1 pins s σ H {D with nx:=u D} I h) λf s1 q=> ?_);cases f with
 |next=>
  obtain⟨σ',H',I',q⟩:=q;exact h2 pins s1 σ' H' D I' q
 |ret v=>exact q
 |brk=>exact q
 |cont=>exact q
theorem Ah(h1:PS X st t):PSs X [st] t:=by
 intro pins s σ H D I h;refine wpAny_execs_cons (thn (h1 pins s σ H D I h) λf s1 q=> ?_);cases f with
 |next=>exact wpAny_execs_nil q
 |ret v=>exact q
 |brk=>exact q
 |cont=>exact q
theorem Inv.quiet{pins:List (Addr×Obj)}{σ:St}{H:Hp}{s:Shared}(I:Inv X pins σ H s):interactive X.env=false:=by simp[interactive,I.ok.kind]
def tDrop(te:TE):TS:=λD σ H=>te σ H λ_ H1=>D.nx σ H1
theorem Cl(he:PE X e te)(hs:swapsWith e none pos.line X.env=pure false:=by rfl):PS X (.Expr e pos) (tDrop te):=by
 intro pins s σ H D I h;exact wpAny_Expr_any (thn (he pins s σ H _ I h) λv s1 ⟨x,H1,I1,r1,q1⟩=>⟨σ,H1,I1,q1⟩) I.quiet hs
def tRet(te:TE):TS:=λD σ H=>te σ H D.rt
theorem Ao(he:PE X e te):PS X (.Return (some e) pos) (tRet te):=by
 intro pins s σ H D I h;exact wpAny_Return_some (thn (he pins s σ H _ I h) λv s1 ⟨x,H1,I1,r1,q1⟩=>⟨x,σ,H1,I1,r1,q1⟩)
def tIfS(c:TT)(t u:TS):TS:=λD σ H=>c σ H λb H1=>if b=true then t D σ H1 else u D σ H1
theorem Be{c:Expr}{a b:List Stmt}{tc:TT}(hc:PT X c tc)(ha:PSs X a t)(hb:PSs X b u):PS X (.If c a b pos) (tIfS tc t u):=by
 intro pins s σ H D I h;refine wpAny_If (thn (hc pins s σ H _ I h) λd s1 ⟨H1,I1,q1⟩=> ?_);cases d with
 |true=>exact ha pins s1 σ H1 D I1 q1
 |false=>exact hb pins s1 σ H1 D I1 q1
def X2:TS:=λ_ _ _=>False
theorem Mk:PS X st X2:=λ_ _ _ _ _ _ h=>h.elim
end
abbrev TG:=V->St->Hp->(St->Hp->Prop)->Prop
abbrev TGs:=List V->St->Hp->(St->Hp->Prop)->Prop
def PG(X:Cx)(target:Expr)(t:TG):Prop:=
 ∀(pins:List (Addr×Obj)) (s:Shared) (σ:St) (H:Hp) (v:V) (u:Value) (Q:St->Hp->Prop),Inv X pins σ H s->RelV v u->t v σ H Q->
  wpAny (model X.prog X.w) X.A (assign target X.env u) (λ_ s'=>∃σ' H',Inv X pins σ' H' s'/\Q σ' H') X.xe s
def PGs(X:Cx)(ts:List Expr)(t:TGs):Prop:=
 ∀(pins:List (Addr×Obj)) (s:Shared) (σ:St) (H:Hp) (vs:List V) (us:List Value) (Q:St->Hp->Prop),Inv X pins σ H s->Vals vs us->t vs σ H Q->
  wpAny (model X.prog X.w) X.A (assignInOrder ((assignEach ts X.env).map (·.2)) us) (λ_ s'=>∃σ' H',Inv X pins σ' H' s'/\Q σ' H') X.xe s
abbrev Xj:=V->V->V->Hp->(Hp->Prop)->Prop
def PSet(X:Cx)(t:Xj):Prop:=
 ∀(pins:List (Addr×Obj)) (s:Shared) (σ:St) (H:Hp) (o i v:V) (ov iv u:Value) (Q:Hp->Prop),Inv X pins σ H s->RelV o ov->RelV i iv->RelV v u->t o i v H Q->
  wpAny (model X.prog X.w) X.A (setItem ov iv u) (λ_ s'=>∃H',Inv X pins σ H' s'/\Q H') X.xe s
section
variable{X:Cx}{pos:Pos}
def gName(i:Nat):TG:=λv σ H Q=>Q (σ.set i (some v)) H
theorem Am{i:Nat}{x:Str}(hN:X.N.Nodup)(hi:X.N[i]? =some x)(hx:Loc X.env.scope x)(hf:X.fn x=true\/X.env.scope.names.lookup x=some .local:=by first|exact .inl rfl|exact .inr rfl|assumption):PG X (.Name x pos) (gName i):=by
 intro pins s σ H v u Q I r h;exact wpAny_assign_Name (Ei I hN hi hx r (λs' I'=>⟨_,H,I',h⟩) hf)
def gNil:TGs:=λvs σ H Q=>vs=[]/\Q σ H
def gCons(t:TG)(u:TGs):TGs:=λvs σ H Q=>∃v r,vs=v::r/\t v σ H λσ' H'=>u r σ' H' Q
theorem Ch:PGs X [] gNil:=by
 intro pins s σ H vs us Q I r h;obtain⟨e,h⟩:=h;subst e;cases r;exact assignInOrder_nil ⟨σ,H,I,h⟩
theorem Az{e:Expr}{es:List Expr}{t:TG}{u:TGs}(h1:PG X e t)(h2:PGs X es u)(hs:(assignEach (e::es) X.env).map (·.2)=assign e X.env::(assignEach es X.env).map (·.2):=by rfl):PGs X (e::es) (gCons t u):=by
 intro pins s σ H vs us Q I r h;obtain⟨v,vr,e1,h⟩:=h;subst e1;cases r with
 |cons r rr=>
  rw[hs];refine assignInOrder_cons (thn (h1 pins s σ H _ _ _ I r h) λ_ s1 ⟨σ1,H1,I1,q1⟩=> ?_);exact h2 pins s1 σ1 H1 _ _ Q I1 rr q1
def gTup(K:Frag)(n:Nat)(t:TGs):TG:=λv σ H Q=>∃a xs,v= .ref a/\SqT K H a xs/\xs.length=n/\t xs σ H Q
theorem C5{es:List Expr}{k:Nat}{t:TGs}{n:Nat}(hc:X.calm=true)(h:PGs X es t)(hn:(assignEach es X.env).length=n:=by rfl)(hst:(assignEach es X.env).findIdx? (·.1)=none:=by rfl):PG X (.Tuple es k pos) (gTup X.K n t):=by
 intro pins s σ H v u Q I r hw;obtain⟨a,xs,e1,hq,hl,hw⟩:=hw;subst e1;cases r;obtain⟨its,rv,ht,hz⟩:=I.tuple hq;refine assign_Tuple_tuple (I.ok.hd hc) ht (by simp[hn,<-hl,rv.length]) hst λh' hx=> ?_;have I1:Inv X pins σ H {s with heap:=h'}:=I.kept (t':=s.toks) λb o e=>hx b o (ne_of_lt (Yj e)) e;exact h pins _ σ H xs _ Q I1 (by simpa using rv) hw
def gSub(to ti:TE)(t:Xj):TG:=λv σ H Q=>to σ H λo H1=>ti σ H1 λi H2=>t o i v H2 λH3=>Q σ H3
theorem Kq{o i:Expr}{to ti:TE}{t:Xj}(ho:PE X o to)(hi:PE X i ti)(hs:PSet X t)(ha:∀v,assign (.Subscript o i pos) X.env v=(do
   let ov <-holding [v] (eval o X.env)
   let iv <-holding [v,ov] (eval i X.env)
   standAt pos
   holding [v,ov,iv] (setItem ov iv v)
   release [v,ov,iv] []):=by intro _;rfl):PG X (.Subscript o i pos) (gSub to ti t):=by
 intro pins s σ H v u Q I r h;rw[ha];refine Gt (Y5 (thn (ho pins s σ H _ I h) λov s1 ⟨x,H1,I1,r1,q1⟩=> ?_));refine Gt (Y5 (thn (hi pins s1 σ H1 _ I1 q1) λiv s2 ⟨y,H2,I2,r2,q2⟩=> ?_));refine Gt (wpAny_standAt (Gt (Y5 (thn (hs pins s2 σ H2 x y v ov iv u _ I2 r1 r2 r q2) λ_ s3 ⟨H3,I3,q3⟩=> ?_))));exact wpAny_release ⟨σ,H3,I3,q3⟩
def Vf(te:TE)(g:TG):TS:=λD σ H=>te σ H λx H1=>g x σ H1 D.nx
theorem C4{tg e:Expr}{te:TE}{g:TG}(he:PE X e te)(hg:PG X tg g)(hs:swapsWithSole [tg] e pos.line X.env=pure false:=by rfl)(hw:swappedStores [tg] e X.env=pure none:=by rfl)(h1:(assignEach [tg] X.env).map (·.2)=[assign tg X.env]:=by rfl):PS X (.Assign [tg] e pos) (Vf te g):=by
 intro pins s σ H D I h;refine wpAny_Assign_stores (thn (he pins s σ H _ I h) λv s1 ⟨x,H1,I1,r1,q1⟩=> ?_) hs hw;rw[h1];exact thn (hg pins s1 σ H1 x v _ I1 r1 q1) λ_ s2 q=>q
theorem Al{i:Nat}{x:Str}{e:Expr}{te:TE}{pos':Pos}(hN:X.N.Nodup)(hi:X.N[i]? =some x)(hx:Loc X.env.scope x)(he:PE X e te)(hs:swapsWith e (some (.Name x pos')) pos.line X.env=pure false:=by rfl)(hf:X.fn x=true\/X.env.scope.names.lookup x=some .local:=by first|exact .inl rfl|exact .inr rfl|assumption):
  PS X (.Assign [.Name x pos'] e pos) (Vf te (gName i)):=by
 intro pins s σ H D I h;refine wpAny_Assign_Name (thn (he pins s σ H _ I h) λv s1 ⟨y,H1,I1,r1,q1⟩=> ?_) hs;exact Ei I1 hN hi hx r1 (λs2 I2=>⟨_,H1,I2,q1⟩) hf
def tPar(i j:Nat)(ta:TA):TS:=λD σ H=>ta σ H λvs H1=>∃v w,vs=[v,w]/\D.nx ((σ.set i (some v)).set j (some w)) H1
theorem Xm{i j:Nat}{x y:Str}{a b:Expr}{ta:TA}{px py pt:Pos}{kt k2 pt2}(hc:X.calm=true)(hN:X.N.Nodup)(hi:X.N[i]? =some x)(hj:X.N[j]? =some y)(hij:i≠j)(hx:X.env.scope.names.lookup x=some .local)(hy:X.env.scope.names.lookup y=some .local)(ha:PA X [a,b] ta)(hw:swappedStores [.Tuple [.Name x px,.Name y py] kt pt] (.Tuple [a,b] k2 pt2) X.env=pure (some [x,y]))(hs:swapsWithSole [.Tuple [.Name x px,.Name y py] kt pt] (.Tuple [a,b] k2 pt2) pos.line X.env=pure false:=by rfl):
  PS X (.Assign [.Tuple [.Name x px,.Name y py] kt pt] (.Tuple [a,b] k2 pt2) pos) (tPar i j ta):=by
 intro pins s σ H D I h;rw[exec_Assign_arm];refine Gt (wpAny_standAt ?_);rw[hs];refine Gt (Yg ?_);rw[Lt (by decide)];refine Gt (Tuple_ (thn (ha _ pins s σ H _ I h) λus s1 ⟨vs,H1,I1,r1,q1⟩=> ?_));obtain⟨v,w,e1,q1⟩:=q1;subst e1;obtain⟨u1,u2,rfl,rv,rw'⟩:∃u1 u2,us=[u1,u2]/\RelV v u1/\RelV w u2:=by
  cases r1 with
  |cons p q=>
   cases q with
   |cons p' q'=>
    cases q';exact⟨_,_,rfl,p,p'⟩
 refine Yw ?_ (by show 2<=sizeLine;decide);have I2:Inv X pins σ H1 {s1 with heap:=s1.heap.push {cls:= .type "tuple",data:= .seq [u1,u2].toArray}}:=I1.kept (t':=s1.toks) λb o e=>Is _ e;rw[hw];refine Gt (Yg ?_);show wpAny (model X.prog X.w) X.A (do rule "assign.swapped-stores";let items <-unpackItems (.ref s1.heap.objs.size) 2 none;assignInOrder [λv=>bindName X.env y v,λv=>bindName X.env x v] items.reverse;pure Flow.next) _ _ _;refine Gt (wpAny_rule (Gt (unpackItems_tuple (items:= #[u1,u2]) (I.ok.hd hc) (IsTup.new s1.heap _) λh' hx'=> ?_)));have I3:=I2.kept (h':=h') (t':=s1.toks) λb o e=>hx' b o (ne_of_lt (Yj e)) e;show wpAny _ _ (assignInOrder [λv=>bindName X.env y v,λv=>bindName X.env x v] [u2,u1] >>=λ_=>pure Flow.next) _ _ _;refine Gt (assignInOrder_cons (wpAny_bindName (Ei I3 hN hj (.inl hy) rw' (λs2 I4=> ?_) (.inr hy))));refine assignInOrder_cons (wpAny_bindName (Ei I4 hN hi (.inl hx) rv (λs3 I5=>assignInOrder_nil (Yg ?_)) (.inr hx)));rw[List.set_comm _ _ (Ne.symm hij)] at I5;exact⟨_,H1,I5,q1⟩
end
section
variable{X:Cx}{pos:Pos}
def Ua(c:TT)(tb:TS):TS:=λD σ H=>∃W:Nat->St->Hp->Prop,(∃m,W m σ H)/\∀m σ H,W m σ H->
 c σ H λb H1=>if b=true then ∃N:St->Hp->Prop,(∀σ' H',N σ' H'->∃m',m'<m/\W m' σ' H')/\tb {D with nx:=N,ct:=N,bk:=D.nx} σ H1 else D.nx σ H1
theorem Sl{c:Expr}{body:List Stmt}{tc:TT}{tb:TS}(hp:PassesOwn (model X.prog X.w) X.A X.env X.xe)(hc:PT X c tc)(hb:PSs X body tb):PS X (.While c body [] pos) (Ua tc tb):=by
 intro pins s σ H D I h;obtain⟨W,⟨m0,w0⟩,turn⟩:=h;refine wpAny_While (codeAny_whileLoop (λn s'=>∃σ' H',Inv X pins σ' H' s'/\W n σ' H') ?_ m0 ⟨σ,H,I,w0⟩);rintro n s1 ⟨σ1,H1,I1,w1⟩;refine Zb hp (thn (hc pins s1 σ1 H1 _ I1 (turn n σ1 H1 w1)) λb s2 ⟨H2,I2,q2⟩=> ?_);cases b with
 |true=>
  obtain⟨N,hN,q2⟩:=q2;rw[Yf rfl];refine Zb hp (thn (hb pins s2 σ1 H2 _ I2 q2) λf s3 q3=> ?_);cases f with
  |next=>
   obtain⟨σ3,H3,I3,n3⟩:=q3;obtain⟨m',hm,w3⟩:=hN σ3 H3 n3;exact⟨m',hm,σ3,H3,I3,w3⟩
  |cont=>
   obtain⟨σ3,H3,I3,n3⟩:=q3;obtain⟨m',hm,w3⟩:=hN σ3 H3 n3;exact⟨m',hm,σ3,H3,I3,w3⟩
  |brk=>exact q3
  |ret v=>exact q3
 |false=>
  rw[Lt Bool.false_ne_true];exact wpAny_execs_nil ⟨σ1,H2,I2,q2⟩
end
structure It where
 go:Nat->Hp->Prop
 yld:Nat->Hp->V->Hp->Prop
 stop:Nat->Hp->Prop
def FpOk(X:Cx)(pins:List (Addr×Obj))(H:Hp)(b:Addr):Prop:=
 H b=none/\b≠X.env.locals/\b ∉ X.fs/\(b∈X.ex\/X.s₀.heap.objs.size<=b)/\(∀x c,X.env.cells.lookup x=some c->c≠b)/\∀p∈X.pn++pins,p.1≠b
theorem Inv.fpOk{X:Cx}{pins:List (Addr×Obj)}{σ:St}{H H':Hp}{s:Shared}{b:Addr}(I:Inv X pins σ H s)(hb:s.heap.objs.size<=b)(hn:H' b=none):FpOk X pins H' b:=by
 refine⟨hn,Nat.ne_of_gt (lt_of_lt_of_le I.lt hb),I.nofs hb,.inr (le_trans I.sz hb),λx c e z=> ?_,λp hp z=> ?_⟩
 ·obtain⟨v,q⟩:=I.cell x c e;exact absurd (lt_of_lt_of_le q.lt (by rw[z];exact hb)) (lt_irrefl _)
 ·exact absurd (lt_of_lt_of_le (Yj (I.pin p hp).1) (by rw[z];exact hb)) (lt_irrefl _)
structure Np(P:Program)(w:World)(K:Frag)(tg:Expr)(J:It)(fp:List Addr)(it:Addr)(tn:Nat->Heap->Prop):Prop where
 mem:it∈fp
 obj:∀i h,tn i h->∀b∈fp,∃o,h.get? b=some o/\∀v,o.data≠ .cell v
 keep:∀i h h',tn i h->(∀b∈fp,∀o,h.get? b=some o->h'.get? b=some o)->tn i h'
 item:∀(X:Cx),X.prog=P->X.w=w->X.K=K->X.calm=true->∀(i:Nat) (pins:List (Addr×Obj)) (s:Shared) (σ:St) (H:Hp) (E:Value->Shared->Prop),Inv X pins σ H s->(∀b∈fp,FpOk X pins H b)->tn i s.heap->J.go i H->
  wpAny (model P w) X.A (pyNext (.ref it)) (λr s1=>∃u,r=some u/\
   wpAny (model P w) X.A (letOwnedTupleGo tg (.ref it) u) (λ_ s2=>∃x H',Inv X pins σ H' s2/\RelV x u/\J.yld i H x H'/\tn (i+1) s2.heap/\∀b∈fp,H' b=none) E s1) E s
 done:∀(X:Cx),X.prog=P->X.w=w->X.K=K->X.calm=true->∀(i:Nat) (pins:List (Addr×Obj)) (s:Shared) (σ:St) (H:Hp) (E:Value->Shared->Prop),Inv X pins σ H s->(∀b∈fp,FpOk X pins H b)->tn i s.heap->J.stop i H->
  wpAny (model P w) X.A (pyNext (.ref it)) (λr s1=>r=none/\Inv X pins σ H s1) E s
 self:∀(A:Around) (i:Nat) (s:Shared) (Q:Value->Shared->Prop) (E:Value->Shared->Prop),tn i s.heap->Q (.ref it) s->wpAny (model P w) A (pyIter (.ref it)) Q E s
abbrev TI:=St->Hp->(It->Hp->Prop)->Prop
def PIE(X:Cx)(pins:List (Addr×Obj))(σ:St)(tg:Expr)(R:It->Hp->Prop)(itv:Value)(s2:Shared):Prop:=
 ∃(it:Addr) (fp:List Addr) (tn:Nat->Heap->Prop) (J:It) (H':Hp),itv= .ref it/\Inv X pins σ H' s2/\Np X.prog X.w X.K tg J fp it tn/\tn 0 s2.heap/\(∀b∈fp,FpOk X pins H' b)/\R J H'
def PI(X:Cx)(tg iter:Expr)(wi:TI):Prop:=
 ∀(pins:List (Addr×Obj)) (s:Shared) (σ:St) (H:Hp) (R:It->Hp->Prop),Inv X pins σ H s->wi σ H R->
  wpAny (model X.prog X.w) X.A (eval iter X.env) (λv s1=>wpAny (model X.prog X.w) X.A (pyIter v) (PIE X pins σ tg R) X.xe s1) X.xe s
theorem Oj{M:Model}{A:Around}{E:Value->Shared->Prop}{s:Shared}{tg:Expr}{it:Addr}{u:Value}{o:Obj}{n:String}{vs:Array Value}{Q:Unit->Shared->Prop}(ho:s.heap.get? it=some o)(hc:o.cls= .type n)(hd:o.data= .fields vs)(hn:["enumerate","zip","dict_itemiterator","dict_reverseitemiterator","odict_iterator","itertools.zip_longest","itertools.pairwise"].contains n=false)(hQ:Q () s):wpAny M A (letOwnedTupleGo tg (.ref it) u) Q E s:=by
 unfold letOwnedTupleGo;cases tg<;> first
  |exact Yg hQ
  |(cases u<;> first
   |exact Yg hQ
   |(refine Gt (wpAny_load ho ?_)
     rw[hc,hd];show wpAny M A (if (["enumerate","zip","dict_itemiterator","dict_reverseitemiterator","odict_iterator","itertools.zip_longest","itertools.pairwise"].contains n && vs[0]? ==some (rawInt _))=true then _ else _) Q E s;rw[Lt (by intro h;rw[hn,Bool.false_and] at h;cases h)];exact Yg hQ))
def Itl(K:Frag)(a:Addr):It:=
 ⟨λi H=>∃xs x,SqL K H a xs/\xs[i]? =some x,λi H x H'=>H'=H/\∀xs,SqL K H a xs->xs[i]? =some x,λi H=>∃xs,SqL K H a xs/\xs.length<=i⟩
def Itt(K:Frag)(a:Addr):It:=
 ⟨λi H=>∃xs x,SqT K H a xs/\xs[i]? =some x,λi H x H'=>H'=H/\∀xs,SqT K H a xs->xs[i]? =some x,λi H=>∃xs,SqT K H a xs/\xs.length<=i⟩
def Itr(lo:Int)(n:Nat):It:=⟨λi _=>i<n,λi H x H'=>H'=H/\x= .int (lo+i),λi _=>n<=i⟩
theorem Qx{P:Program}{w:World}{K:Frag}{tg:Expr}(a it:Addr):Np P w K tg (Itl K a) [it] it (λi h=>h.IsListIter it a i) where
 mem:=by simp
 obj:=λi h st b hb=>by
  have e:b=it:=by simpa using hb
  subst e;obtain⟨o,e,c,d⟩:=st;exact⟨o,e,λv z=>by rw[d] at z;cases z⟩
 keep:=λi h h' st k=>st.at λo e=>k it (by simp) o e
 item:=by
  intro X hP hw hK hc i pins s σ H E I hf st hg;subst hP hw hK;obtain⟨xs,x,hq,hx⟩:=hg;obtain⟨its,rv,p,hz⟩:=I.list hq;obtain⟨u,hu,ru⟩:=rv.get hx;obtain⟨f0,f1,f2,f3,f4,f5⟩:=hf it (by simp);refine wpAny_pyNext_list_item st p.isList (x:=u) (by simpa using hu) λh' st' sb=> ?_;have I1:Inv X pins σ H {s with heap:=h'}:=I.turned (t':=s.toks) (λb o hb e=>(sb.2 b hb).trans e) f0 f1 f3 f4 f5;obtain⟨o,e,c,d⟩:=id st';exact⟨u,rfl,Oj (s:={s with heap:=h'}) e c d (by decide) ⟨x,H,I1,ru,⟨rfl,λys hy=>by rw[I.list_inj hy hq];exact hx⟩,st',λb hb=>(hf b hb).1⟩⟩
 done:=by
  intro X hP hw hK hc i pins s σ H E I hf st hg;subst hP hw hK;obtain⟨xs,hq,hx⟩:=hg;obtain⟨its,rv,p,hz⟩:=I.list hq;obtain⟨f0,f1,f2,f3,f4,f5⟩:=hf it (by simp);have hl:=rv.length;exact wpAny_pyNext_list_end (I.ok.hd hc) st p.isList (by simp;omega) λh' eb=>⟨rfl,I.turned (t':=s.toks) (λb o hb e=>eb b o hb e) f0 f1 f3 f4 f5⟩
 self:=λ_ _ _ _ _ st h=>wpAny_pyIter_listiter st h
theorem Oa{P:Program}{w:World}{K:Frag}{tg:Expr}(a it:Addr):Np P w K tg (Itt K a) [it] it (λi h=>h.IsTupleIter it a i) where
 mem:=by simp
 obj:=λi h st b hb=>by
  have e:b=it:=by simpa using hb
  subst e;obtain⟨o,e,c,d⟩:=st;exact⟨o,e,λv z=>by rw[d] at z;cases z⟩
 keep:=λi h h' st k=>st.at λo e=>k it (by simp) o e
 item:=by
  intro X hP hw hK hc i pins s σ H E I hf st hg;subst hP hw hK;obtain⟨xs,x,hq,hx⟩:=hg;obtain⟨its,rv,p,hz⟩:=I.tuple hq;obtain⟨u,hu,ru⟩:=rv.get hx;obtain⟨f0,f1,f2,f3,f4,f5⟩:=hf it (by simp);refine wpAny_pyNext_tuple_item st (show s.heap.IsTuple a its.toArray from p) (x:=u) (by simpa using hu) λh' st' sb=> ?_;have I1:Inv X pins σ H {s with heap:=h'}:=I.turned (t':=s.toks) (λb o hb e=>(sb.2 b hb).trans e) f0 f1 f3 f4 f5;obtain⟨o,e,c,d⟩:=id st';exact⟨u,rfl,Oj (s:={s with heap:=h'}) e c d (by decide) ⟨x,H,I1,ru,⟨rfl,λys hy=>by rw[I.tuple_inj hy hq];exact hx⟩,st',λb hb=>(hf b hb).1⟩⟩
 done:=by
  intro X hP hw hK hc i pins s σ H E I hf st hg;subst hP hw hK;obtain⟨xs,hq,hx⟩:=hg;obtain⟨its,rv,p,hz⟩:=I.tuple hq;obtain⟨f0,f1,f2,f3,f4,f5⟩:=hf it (by simp);have hl:=rv.length;exact wpAny_pyNext_tuple_end (I.ok.hd hc) st (show s.heap.IsTuple a its.toArray from p) (by simp;omega) λh' eb=>⟨rfl,I.turned (t':=s.toks) (λb o hb e=>eb b o hb e) f0 f1 f3 f4 f5⟩
 self:=λ_ _ _ _ _ st h=>wpAny_pyIter_tupleiter st h
theorem Ni{P:Program}{w:World}{K:Frag}{tg:Expr}(it:Addr)(lo:Int)(n:Nat):Np P w K tg (Itr lo n) [it] it (λi h=>IsRangeIter h it (lo+(i:Nat) * 1) ((n:Int) - (i:Nat)) 1) where
 mem:=by simp
 obj:=λi h st b hb=>by
  have e:b=it:=by simpa using hb
  subst e;exact⟨_,st,λv z=>by
   have z':Data.fields _=Data.cell v:=z;cases z'⟩
 keep:=λi h h' st k=>k it (by simp) _ st
 item:=by
  intro X hP hw hK hc i pins s σ H E I hf st hg;subst hP hw hK;obtain⟨f0,f1,f2,f3,f4,f5⟩:=hf it (by simp);have W:=Walks.range (prog:=X.prog) (w:=X.w) (I.ok.hd hc) it lo 1 n;refine W.item i s _ _ hg st λv h' tk hv st' kk=> ?_;obtain⟨t,rfl⟩:=hv;have I1:Inv X pins σ H {s with heap:=h',toks:=tk}:=I.turned (λb o hb e=>kk b o (by simpa using hb) e) f0 f1 f3 f4 f5;refine⟨_,rfl,Oj (s:={s with heap:=h',toks:=tk}) (n:="range_iterator") st' rfl rfl (by decide) ⟨.int (lo+i),H,I1,⟨t,?_⟩,⟨rfl,rfl⟩,st',λb hb=>(hf b hb).1⟩⟩;rw[Int.mul_one]
 done:=by
  intro X hP hw hK hc i pins s σ H E I hf st hg;subst hP hw hK;obtain⟨f0,f1,f2,f3,f4,f5⟩:=hf it (by simp);exact wpAny_pyNext_range_end (I.ok.hd hc) st (by have:n<=i:=hg;omega) λh' eb=>⟨rfl,I.turned (t':=s.toks) (λb o hb e=>eb b o hb e) f0 f1 f3 f4 f5⟩
 self:=λ_ _ _ _ _ st h=>wpAny_pyIter_rangeiter st h
section
variable{X:Cx}{tg:Expr}
def iList(K:Frag)(tl:TE):TI:=λσ H R=>tl σ H λx H1=>∃a,x= .ref a/\(∃xs,SqL K H1 a xs)/\R (Itl K a) H1
def iTup(K:Frag)(tl:TE):TI:=λσ H R=>tl σ H λx H1=>∃a,x= .ref a/\(∃xs,SqT K H1 a xs)/\R (Itt K a) H1
theorem Ll{l:Expr}{tl:TE}(hl:PE X l tl):PI X tg l (iList X.K tl):=by
 intro pins s σ H R I h;refine thn (hl pins s σ H _ I h) λv s1 ⟨x,H1,I1,r1,q1⟩=> ?_;obtain⟨a,e,⟨xs,hq⟩,q⟩:=q1;subst e;cases r1;obtain⟨its,rv,p,hz⟩:=I1.list hq;refine wpAny_pyIter_list p.isList ?_;refine⟨s1.heap.objs.size,[s1.heap.objs.size],_,_,H1,rfl,I1.kept (t':=s1.toks) λb o e=>Is _ e,Qx a _,⟨_,Yi _ rfl,rfl,rfl⟩,λb hb=> ?_,q⟩;have e:b=s1.heap.objs.size:=by simpa using hb
 subst e;exact I1.fpOk (le_refl _) (I1.hok.fresh (le_refl _))
theorem Ec{l:Expr}{tl:TE}(hl:PE X l tl):PI X tg l (iTup X.K tl):=by
 intro pins s σ H R I h;refine thn (hl pins s σ H _ I h) λv s1 ⟨x,H1,I1,r1,q1⟩=> ?_;obtain⟨a,e,⟨xs,hq⟩,q⟩:=q1;subst e;cases r1;obtain⟨its,rv,p,hz⟩:=I1.tuple hq;refine wpAny_pyIter_tuple (show s1.heap.IsTuple a its.toArray from p) ?_;refine⟨s1.heap.objs.size,[s1.heap.objs.size],_,_,H1,rfl,I1.kept (t':=s1.toks) λb o e=>Is _ e,Oa a _,⟨_,Yi _ rfl,rfl,rfl⟩,λb hb=> ?_,q⟩;have e:b=s1.heap.objs.size:=by simpa using hb
 subst e;exact I1.fpOk (le_refl _) (I1.hok.fresh (le_refl _))
theorem Md{pins:List (Addr×Obj)}{σ:St}{H:Hp}{s:Shared}{R:It->Hp->Prop}{E:Value->Shared->Prop}{lo hi:Int}{t u v:Tok}{tk:Nat}(I:Inv X pins σ H s)(h1: -(2 ^ 62)<=lo)(h2:lo<2 ^ 62)(h3: -(2 ^ 62)<=hi)(h4:hi<2 ^ 62)(q:R (Itr lo (hi - lo).toNat) H):wpAny (model X.prog X.w) X.A (pyIter (.ref s.heap.objs.size)) (PIE X pins σ tg R) E {s with heap:=s.heap.push {cls:= .type "range",data:= .fields #[.int lo t,.int hi u,.int 1 v]},toks:=tk}:=by
 refine wpAny_pyIter_range (IsRange.new ..) (small_one h1 h2 h3 h4) ?_;have I1:Inv X pins σ H {s with heap:=s.heap.push {cls:= .type "range",data:= .fields #[.int lo t,.int hi u,.int 1 v]},toks:=tk}:=I.kept λb o e=>Is _ e;refine⟨(s.heap.push {cls:= .type "range",data:= .fields #[.int lo t,.int hi u,.int 1 v]}).objs.size,[(s.heap.push {cls:= .type "range",data:= .fields #[.int lo t,.int hi u,.int 1 v]}).objs.size],_,_,H,rfl,
  I1.kept (t':=tk) λb o e=>Is _ e,Ni _ lo (hi - lo).toNat,?_,λb hb=> ?_,q⟩
 ·have e1:lo+((0:Nat):Int) * 1=lo:=by simp
  have e2:(((hi - lo).toNat:Nat):Int) - ((0:Nat):Int)=Builtin.Range.rangeSize lo hi 1:=by rw[rangeSize_one];split<;> omega
  show IsRangeIter _ _ (lo+((0:Nat):Int) * 1) ((((hi - lo).toNat:Nat):Int) - ((0:Nat):Int)) 1;rw[e1,e2];exact Yi _ rfl
 ·have e:b=(s.heap.push {cls:= .type "range",data:= .fields #[.int lo t,.int hi u,.int 1 v]}).objs.size:=by simpa using hb
  subst e;exact I1.fpOk (le_refl _) (I1.hok.fresh (le_refl _))
def iRng1(ta:TA):TI:=λσ H R=>ta σ H λvs H1=>∃j:Int,vs=[.int j]/\ -(2 ^ 62)<=j/\j<2 ^ 62/\R (Itr 0 j.toNat) H1
def iRng2(ta:TA):TI:=λσ H R=>ta σ H λvs H1=>∃i j:Int,vs=[.int i,.int j]/\(-(2 ^ 62)<=i/\i<2 ^ 62/\ -(2 ^ 62)<=j/\j<2 ^ 62)/\R (Itr i (j - i).toNat) H1
theorem Cf{a:Expr}{ta:TA}{p pos:Pos}(hg:Gl X "range")(hm:X.mg "range"=none)(ha:PA X [a] ta)(hs:starEach [a] X.env=[(false,eval a X.env)]:=by rfl):PI X tg (.Call (.Name "range" p) [a] [] pos) (iRng1 ta):=by
 intro pins s σ H R I h;refine Call_ (Fe I hg hm boot_range (PyProof.Rows.callWith_type1 (thn (ha pos pins s σ H _ I h) λus s1 ⟨vs,H1,I1,r1,q1⟩=> ?_) hs rfl));obtain⟨j,e,q1,q2,q⟩:=q1;subst e;cases r1 with
 |cons r rr=>
  cases rr;obtain⟨t,rfl⟩:=r;exact call_range_1 (Md I1 (by decide) (by decide) q1 q2 (by simpa using q))
theorem Qk{a b:Expr}{ta:TA}{p pos:Pos}(hg:Gl X "range")(hm:X.mg "range"=none)(ha:PA X [a,b] ta)(hs:starEach [a,b] X.env=[(false,eval a X.env),(false,eval b X.env)]:=by rfl)(hs2:starEach [b] X.env=[(false,eval b X.env)]:=by rfl):
  PI X tg (.Call (.Name "range" p) [a,b] [] pos) (iRng2 ta):=by
 intro pins s σ H R I h;refine Call_ (Fe I hg hm boot_range (PyProof.Rows.callWith_type1 (thn (ha pos pins s σ H _ I h) λus s1 ⟨vs,H1,I1,r1,q1⟩=> ?_) (by rw[hs,hs2]) (by rw[hs2];rfl)));obtain⟨i,j,e,⟨q1,q2,q3,q4⟩,q⟩:=q1;subst e;cases r1 with
 |cons r rr=>
  cases rr with
  |cons r' rr=>
   cases rr;obtain⟨t,rfl⟩:=r;obtain⟨t',rfl⟩:=r';exact call_range_2 (Md I1 q1 q2 q3 q4 q)
def tFor(wi:TI)(g:TG)(tb:TS):TS:=λD σ H=>wi σ H λJ H1=>∃W:Nat->Nat->St->Hp->Prop,(∃m,W 0 m σ H1)/\∀i m σ H,W i m σ H->
 (J.stop i H/\D.nx σ H)\/(J.go i H/\∃N:St->Hp->Prop,(∀σ' H',N σ' H'->∃m',m'<m/\W (i+1) m' σ' H')/\∀x H',J.yld i H x H'->g x σ H' λσ2 H2=>tb {D with nx:=N,ct:=N,bk:=D.nx} σ2 H2)
def Hr(fp:List Addr)(h:Heap):List (Addr×Obj):=fp.filterMap λb=>(h.get? b).map λo=>(b,o)
theorem Dz{fp:List Addr}{h:Heap}{b:Addr}{o:Obj}(hb:b∈fp)(e:h.get? b=some o):(b,o)∈Hr fp h:=List.mem_filterMap.mpr ⟨b,hb,by rw[e];rfl⟩
theorem P4{fp:List Addr}{h:Heap}{p:Addr×Obj}(hp:p∈Hr fp h):p.1∈fp/\h.get? p.1=some p.2:=by
 obtain⟨b,hb,e⟩:=List.mem_filterMap.mp hp;cases q:h.get? b with
 |none=>rw[q] at e;cases e
 |some o=>
  rw[q] at e;have e':(b,o)=p:=Option.some.inj e;subst e';exact⟨hb,q⟩
theorem Inv.pinned{pins:List (Addr×Obj)}{σ:St}{H:Hp}{s:Shared}{fp:List Addr}(I:Inv X pins σ H s)(hf:∀b∈fp,FpOk X pins H b)(ho:∀b∈fp,∃o,s.heap.get? b=some o/\∀v,o.data≠ .cell v):Inv X (pins++Hr fp s.heap) σ H s:=
 I.pins_of λp hp=>(mem_append.mp hp).elim (λz=>I.pin p (mem_append_right _ z)) λz=>by
  obtain⟨hb,e⟩:=P4 z;obtain⟨f0,f1,f2,_⟩:=hf p.1 hb;obtain⟨o,e',d⟩:=ho p.1 hb;rw[e] at e';cases e';exact⟨e,f0,f1,f2,d⟩
theorem Inv.unpinned{pins pl:List (Addr×Obj)}{σ:St}{H:Hp}{s:Shared}(I:Inv X (pins++pl) σ H s):Inv X pins σ H s:=I.pins_of λp hp=>I.pin p (mem_append_right _ (mem_append_left _ hp))
theorem Ea{iter:Expr}{body:List Stmt}{wi:TI}{g:TG}{tb:TS}{pos:Pos}(hp:PassesOwn (model X.prog X.w) X.A X.env X.xe)(hc:X.calm=true)(hi:PI X tg iter wi)(hg:PG X tg g)(hb:PSs X body tb)(hs:∀x,foldedSetIterable iter X.env x=pure x:=by intro _;rfl):PS X (.For tg iter body [] pos) (tFor wi g tb):=by
 intro pins s σ H D I h;refine wpAny_For (thn (hi pins s σ H _ I h) λv s1 h1=>thn h1 λitv s2 h2=> ?_) hs;obtain⟨it,fp,tn,J,H2,e,I2,T,st2,f2,W,⟨m0,w0⟩,turn⟩:=h2;subst e;have stat:∀{H':Hp},(∀b∈fp,H' b=none)->∀b∈fp,FpOk X pins H' b:=λhn b hb=>⟨hn b hb,(f2 b hb).2⟩
 refine codeAny_forLoop_any (λn s'=>∃i σ' H',Inv X pins σ' H' s'/\tn i s'.heap/\(∀b∈fp,H' b=none)/\W i n σ' H') ?_ m0 ⟨0,σ,H2,I2,st2,λb hb=>(f2 b hb).1,w0⟩;rintro n s3 ⟨i,σ3,H3,I3,st3,fr3,w3⟩;rcases turn i n σ3 H3 w3 with⟨stop,qn⟩|⟨go,N,hN,step⟩
 ·refine Zb hp (thn (T.done X rfl rfl rfl hc i pins s3 σ3 H3 X.xe I3 (stat fr3) st3 stop) λr s4 ⟨hr,I4⟩=> ?_);subst hr;exact wpAny_execs_nil ⟨σ3,H3,I4,qn⟩
 ·refine Zb hp (thn (T.item X rfl rfl rfl hc i pins s3 σ3 H3 X.xe I3 (stat fr3) st3 go) λr s4 ⟨u,hr,h4⟩=> ?_);subst hr;refine Zb hp (thn h4 λ_ s5 ⟨x,H5,I5,r5,y5,st5,fr5⟩=> ?_);have I5':=I5.pinned (stat fr5) (T.obj _ _ st5);refine Zb hp (thn (hg _ s5 σ3 H5 x u _ I5' r5 (step x H5 y5)) λ_ s6 ⟨σ6,H6,I6,q6⟩=> ?_);refine Zb hp (thn (hb _ s6 σ6 H6 _ I6 q6) λf s7 q7=> ?_);have again:∀{σ7:St} {H7:Hp},Inv X (pins++Hr fp s5.heap) σ7 H7 s7->N σ7 H7->∃m,m<n/\∃i σ' H',Inv X pins σ' H' s7/\tn i s7.heap/\(∀b∈fp,H' b=none)/\W i m σ' H':=λ{σ7 H7} I7 n7=>by
   obtain⟨m',hm,w7⟩:=hN σ7 H7 n7;refine⟨m',hm,i+1,σ7,H7,I7.unpinned,T.keep _ _ _ st5 λb hb o e=>(I7.pin (b,o) (mem_append_right _ (mem_append_right _ (Dz hb e)))).1,λb hb=> ?_,w7⟩;obtain⟨o,e,d⟩:=T.obj _ _ st5 b hb;exact(I7.pin (b,o) (mem_append_right _ (mem_append_right _ (Dz hb e)))).2.1
  cases f with
  |next=>obtain⟨σ7,H7,I7,n7⟩:=q7;exact again I7 n7
  |cont=>obtain⟨σ7,H7,I7,n7⟩:=q7;exact again I7 n7
  |brk=>obtain⟨σ7,H7,I7,q7⟩:=q7;exact⟨σ7,H7,I7.unpinned,q7⟩
  |ret v=>obtain⟨x7,σ7,H7,I7,r7,q7⟩:=q7;exact⟨x7,σ7,H7,I7.unpinned,r7,q7⟩
end
theorem Tl{K:Frag}{a:Addr}{xs:List V}{g:TG}{tb:TS}{D:Io}{σ:St}{H:Hp}(Pv:Nat->St->Hp->Prop)(h0:Pv 0 σ H)(hl:∀i σ H,i<=xs.length->Pv i σ H->SqL K H a xs)(hs:∀i x σ H,xs[i]? =some x->Pv i σ H->g x σ H λσ2 H2=>tb {D with nx:=Pv (i+1),ct:=Pv (i+1),bk:=D.nx} σ2 H2)(hd:∀σ H,Pv xs.length σ H->D.nx σ H):
  ∃W:Nat->Nat->St->Hp->Prop,(∃m,W 0 m σ H)/\∀i m σ H,W i m σ H->
   ((Itl K a).stop i H/\D.nx σ H)\/((Itl K a).go i H/\∃N:St->Hp->Prop,(∀σ' H',N σ' H'->∃m',m'<m/\W (i+1) m' σ' H')/\∀x H',(Itl K a).yld i H x H'->g x σ H' λσ2 H2=>tb {D with nx:=N,ct:=N,bk:=D.nx} σ2 H2):=by
 refine⟨λi m σ H=>m=xs.length - i/\i<=xs.length/\Pv i σ H,⟨xs.length,by simp,Y0 _,h0⟩,?_⟩;rintro i m σ H ⟨rfl,hi,p⟩;have q:=hl i σ H hi p;by_cases hlt:i<xs.length
 ·refine .inr ⟨⟨xs,xs[i],q,by simp[hlt]⟩,Pv (i+1),λσ' H' p'=>⟨xs.length - (i+1),by omega,rfl,hlt,p'⟩,λx H' y=> ?_⟩;obtain⟨e,y⟩:=y;subst e;exact hs i x σ _ (y xs q) p
 ·have e:i=xs.length:=by omega
  subst e;exact .inl ⟨⟨xs,q,le_refl _⟩,hd σ H p⟩
theorem K7{K:Frag}{a:Addr}{xs:List V}{g:TG}{tb:TS}{D:Io}{σ:St}{H:Hp}(Pv:Nat->St->Hp->Prop)(h0:Pv 0 σ H)(hl:∀i σ H,i<=xs.length->Pv i σ H->SqT K H a xs)(hs:∀i x σ H,xs[i]? =some x->Pv i σ H->g x σ H λσ2 H2=>tb {D with nx:=Pv (i+1),ct:=Pv (i+1),bk:=D.nx} σ2 H2)(hd:∀σ H,Pv xs.length σ H->D.nx σ H):
  ∃W:Nat->Nat->St->Hp->Prop,(∃m,W 0 m σ H)/\∀i m σ H,W i m σ H->
   ((Itt K a).stop i H/\D.nx σ H)\/((Itt K a).go i H/\∃N:St->Hp->Prop,(∀σ' H',N σ' H'->∃m',m'<m/\W (i+1) m' σ' H')/\∀x H',(Itt K a).yld i H x H'->g x σ H' λσ2 H2=>tb {D with nx:=N,ct:=N,bk:=D.nx} σ2 H2):=by
 refine⟨λi m σ H=>m=xs.length - i/\i<=xs.length/\Pv i σ H,⟨xs.length,by simp,Y0 _,h0⟩,?_⟩;rintro i m σ H ⟨rfl,hi,p⟩;have q:=hl i σ H hi p;by_cases hlt:i<xs.length
 ·refine .inr ⟨⟨xs,xs[i],q,by simp[hlt]⟩,Pv (i+1),λσ' H' p'=>⟨xs.length - (i+1),by omega,rfl,hlt,p'⟩,λx H' y=> ?_⟩;obtain⟨e,y⟩:=y;subst e;exact hs i x σ _ (y xs q) p
 ·have e:i=xs.length:=by omega
  subst e;exact .inl ⟨⟨xs,q,le_refl _⟩,hd σ H p⟩
theorem Ez{lo:Int}{n:Nat}{g:TG}{tb:TS}{D:Io}{σ:St}{H:Hp}(Pv:Nat->St->Hp->Prop)(h0:Pv 0 σ H)(hs:∀i σ H,i<n->Pv i σ H->g (.int (lo+i)) σ H λσ2 H2=>tb {D with nx:=Pv (i+1),ct:=Pv (i+1),bk:=D.nx} σ2 H2)(hd:∀σ H,Pv n σ H->D.nx σ H):
  ∃W:Nat->Nat->St->Hp->Prop,(∃m,W 0 m σ H)/\∀i m σ H,W i m σ H->
   ((Itr lo n).stop i H/\D.nx σ H)\/((Itr lo n).go i H/\∃N:St->Hp->Prop,(∀σ' H',N σ' H'->∃m',m'<m/\W (i+1) m' σ' H')/\∀x H',(Itr lo n).yld i H x H'->g x σ H' λσ2 H2=>tb {D with nx:=N,ct:=N,bk:=D.nx} σ2 H2):=by
 refine⟨λi m σ H=>m=n - i/\i<=n/\Pv i σ H,⟨n,by simp,Y0 _,h0⟩,?_⟩;rintro i m σ H ⟨rfl,hi,p⟩;by_cases hlt:i<n
 ·refine .inr ⟨hlt,Pv (i+1),λσ' H' p'=>⟨n - (i+1),by omega,rfl,hlt,p'⟩,λx H' y=> ?_⟩;obtain⟨e,y⟩:=y;subst e y;exact hs i σ _ hlt p
 ·have e:i=n:=by omega
  subst e;exact .inl ⟨le_refl _,hd σ H p⟩
abbrev R2:=V->V->Hp->VK->Prop
def OpR(X:Cx)(f:Value->Value->Sem Value)(r:R2):Prop:=
 ∀(pins:List (Addr×Obj)) (s:Shared) (σ:St) (H:Hp) (x y:V) (v u:Value) (Q:VK),Inv X pins σ H s->RelV x v->RelV y u->r x y H Q->
  wpAny (model X.prog X.w) X.A (f v u) (EP X pins σ Q) X.xe s
def Ca(X:Cx)(f:Value)(r:List V->Hp->VK->Prop):Prop:=
 ∀(pins:List (Addr×Obj)) (s:Shared) (σ:St) (H:Hp) (xs:List V) (us:List Value) (Q:VK),Inv X pins σ H s->Vals xs us->r xs H Q->
  wpAny (model X.prog X.w) X.A (call f us) (EP X pins σ Q) X.xe s
def TruR(X:Cx)(r:V->Hp->(Bool->Hp->Prop)->Prop):Prop:=
 ∀(pins:List (Addr×Obj)) (s:Shared) (σ:St) (H:Hp) (x:V) (v:Value) (Q:Bool->Hp->Prop),Inv X pins σ H s->RelV x v->r x H Q->
  wpAny (model X.prog X.w) X.A (truthy v) (TP X pins σ Q) X.xe s
def tOp(r:R2)(ta tb:TE):TE:=λσ H Q=>ta σ H λx H1=>tb σ H1 λy H2=>r x y H2 Q
inductive RIP(C:Int->Int->Prop)(g:Int->Int->V)(x:V)(y:V)(H:Hp)(Q:VK):Prop
 |mk (i j:_):(x= .int i)->(y= .int j)->(C i j)->(Q (g i j) H)->RIP C g x y H Q
def rI(C:Int->Int->Prop)(g:Int->Int->V):R2:=λx y H Q=>RIP C g x y H Q
inductive RI0P(g:Int->Int->V)(x:V)(y:V)(H:Hp)(Q:VK):Prop
 |mk (i j:_):(x= .int i)->(y= .int j)->(Q (g i j) H)->RI0P g x y H Q
def rI0(g:Int->Int->V):R2:=λx y H Q=>RI0P g x y H Q
section
variable{X:Cx}{a b c:Expr}{ta tb tc:TE}{pos:Pos}
theorem Xc(ha:PE X a ta)(hb:PE X b tb){pins:List (Addr×Obj)}{s:Shared}{σ:St}{H:Hp}{R:V->V->Hp->Prop}(I:Inv X pins σ H s)(h:ta σ H λx H1=>tb σ H1 λy H2=>R x y H2){Q:Value->Shared->Prop}{f:Value->Value->Sem Value}(hf:∀v u s2 x y H2,Inv X pins σ H2 s2->RelV x v->RelV y u->R x y H2->wpAny (model X.prog X.w) X.A (f v u) Q X.xe s2):
  wpAny (model X.prog X.w) X.A (eval a X.env) (λv s₁=>wpAny (model X.prog X.w) X.A (eval b X.env) (λu s₂=>wpAny (model X.prog X.w) X.A (f v u) Q X.xe s₂) X.xe s₁) X.xe s:=by
 refine thn (ha pins s σ H _ I h) λv s1 ⟨x,H1,I1,r1,q1⟩=> ?_;refine thn (hb pins s1 σ H1 _ I1 q1) λu s2 ⟨y,H2,I2,r2,q2⟩=> ?_;exact hf v u s2 x y H2 I2 r1 r2 q2
theorem Ar{op:Operator}{r:R2}(ho:OpR X (binaryOp op) r)(ha:PE X a ta)(hb:PE X b tb):PE X (.BinOp a op b pos) (tOp r ta tb):=by
 intro pins s σ H Q I h;exact wpAny_BinOp (Xc ha hb I h λv u s2 x y H2 I2 rx ry q=>ho pins s2 σ H2 x y v u Q I2 rx ry q)
theorem opI{f:Value->Value->Sem Value}{C:Int->Int->Prop}{g:Int->Int->Int}(rule:∀(i j:Int) (t u:Tok) (s:Shared) (Q:Value->Shared->Prop) (E:Value->Shared->Prop),C i j->Q (.int (g i j) s.toks) {s with toks:=s.toks+1}->wpAny (model X.prog X.w) X.A (f (.int i t) (.int j u)) Q E s):
  OpR X f (rI C λi j=> .int (g i j)):=by
 intro pins s σ H x y v u Q I rx ry h;obtain⟨i,j,rfl,rfl,hc,q⟩:=h;obtain⟨t,rfl⟩:=rx;obtain⟨t',rfl⟩:=ry;exact rule i j t t' s _ _ hc ⟨.int (g i j),H,I.tok _,⟨_,rfl⟩,q⟩
theorem opI0{f:Value->Value->Sem Value}{g:Int->Int->Int}(rule:∀(i j:Int) (t u:Tok) (s:Shared) (Q:Value->Shared->Prop) (E:Value->Shared->Prop),Q (.int (g i j) s.toks) {s with toks:=s.toks+1}->wpAny (model X.prog X.w) X.A (f (.int i t) (.int j u)) Q E s):
  OpR X f (rI0 λi j=> .int (g i j)):=by
 intro pins s σ H x y v u Q I rx ry h;obtain⟨i,j,rfl,rfl,q⟩:=h;obtain⟨t,rfl⟩:=rx;obtain⟨t',rfl⟩:=ry;exact rule i j t t' s _ _ ⟨.int (g i j),H,I.tok _,⟨_,rfl⟩,q⟩
theorem Xp{f:Value->Value->Sem Value}{g:Int->Int->Bool}(rule:∀(i j:Int) (t u:Tok) (s:Shared) (Q:Value->Shared->Prop) (E:Value->Shared->Prop),Q (.bool (g i j)) s->wpAny (model X.prog X.w) X.A (f (.int i t) (.int j u)) Q E s):
  OpR X f (rI0 λi j=> .bl (g i j)):=by
 intro pins s σ H x y v u Q I rx ry h;obtain⟨i,j,rfl,rfl,q⟩:=h;obtain⟨t,rfl⟩:=rx;obtain⟨t',rfl⟩:=ry;exact rule i j t t' s _ _ ⟨.bl (g i j),H,I,rfl,q⟩
def CDiv(i j:Int):Prop:=0<j/\j<1073741824
def CPow(i j:Int):Prop:=0<=j/\j<=1000000/\i.natAbs<2 ^ 64
def CMul(i j:Int):Prop:=(-(2 ^ 64)<i/\i<2 ^ 64)\/(-(2 ^ 64)<j/\j<2 ^ 64)
theorem CMul.ok{i j:Int}(h:CMul i j):IntMulOk i j:=by
 rcases h with⟨h1,h2⟩|⟨h1,h2⟩
 ·exact .of_left (intBits_le_64 h1 h2)
 ·exact .of_right (intBits_le_64 h1 h2)
theorem Bk:OpR X (binaryOp .Add) (rI0 λi j=> .int (i+j)):=opI0 λ_ _ _ _ _ _ _ q=>add_int q
theorem Ig:OpR X (binaryOp .Sub) (rI0 λi j=> .int (i - j)):=opI0 λ_ _ _ _ _ _ _ q=>sub_int q
theorem Fd:OpR X (binaryOp .Mult) (rI CMul λi j=> .int (i * j)):=opI λ_ _ _ _ _ _ _ hc q=>mul_int q hc.ok
theorem Lq:OpR X (binaryOp .FloorDiv) (rI CDiv λi j=> .int (i / j)):=opI λi j _ _ _ _ _ hc q=>by
 have h1:(0:Int)<j:=hc.1;have h2:j<1073741824:=hc.2;exact floordiv_int (by omega) (by rw[Int.fdiv_eq_ediv_of_nonneg i (by omega)];exact q) (.inl (PyProof.noPylong_small (by omega)))
theorem By:OpR X (binaryOp .Mod) (rI (λ_ j=>0<j) λi j=> .int (i % j)):=opI λi j _ _ _ _ _ hc q=>by
 have h1:(0:Int)<j:=hc;exact mod_int' (by omega) (by rw[Int.fmod_eq_emod_of_nonneg i (by omega)];exact q)
theorem Gc:OpR X (binaryOp .Pow) (rI CPow λi j=> .int (i ^ j.toNat)):=opI λ_ _ _ _ _ _ _ hc q=>pow_int_small hc.1 hc.2.1 hc.2.2 q
end
def scal:V->V->Bool
 | .non,.non=>true| .non,.int _=>true| .int _,.non=>true| .non,.bl _=>true| .bl _,.non=>true| .non,.str _=>true| .str _,.non=>true
 | .int _,.int _=>true| .bl _,.bl _=>true| .str _,.str _=>true| .byt _,.byt _=>true
 | .int _,.str _=>true| .str _,.int _=>true| .bl _,.str _=>true| .str _,.bl _=>true
 |_,_=>false
def rEq:R2:=λx y H Q=>scal x y=true/\Q (.bl (decide (x=y))) H
def rNe:R2:=λx y H Q=>scal x y=true/\Q (.bl (!decide (x=y))) H
theorem O3{i j:Int}:decide (V.int i=V.int j)=(i==j):=by
 rw[Bool.eq_iff_iff];simp
theorem Uo{i j:Bool}:decide (V.bl i=V.bl j)=(i==j):=by
 rw[Bool.eq_iff_iff];simp
theorem Ow{i j:Str}:decide (V.str i=V.str j)=(i==j):=by
 rw[Bool.eq_iff_iff];simp
theorem Pg{i j:Array UInt8}:decide (V.byt i=V.byt j)=(i.toList==j.toList):=by
 rw[Bool.eq_iff_iff];cases i;cases j;simp
section
variable{X:Cx}{a b c:Expr}{ta tb tc:TE}{pos:Pos}
theorem A6{pins:List (Addr×Obj)}{σ:St}{H:Hp}{s:Shared}{Q:VK}{k k':Bool}(I:Inv X pins σ H s)(q:Q (.bl k) H)(e:k=k'):EP X pins σ Q (.bool k') s:=by
 subst e;exact⟨.bl k,H,I,rfl,q⟩
theorem Cd:OpR X (compareOp .Eq) rEq:=by
 intro pins s σ H x y v u Q I rx ry h;obtain⟨hs,q⟩:=h;cases x with
 |non=>
  cases rx;cases y with
  |non=>cases ry;exact PySem.EqNone.eq_none_none (A6 I q (by simp))
  |bl j=>cases ry;exact PySem.EqNone.eq_none_bool (A6 I q (by simp))
  |int j=>obtain⟨t',rfl⟩:=ry;exact PySem.EqNone.eq_none_int (A6 I q (by simp))
  |str j=>obtain⟨t',rfl⟩:=ry;exact PySem.EqNone.eq_none_str (A6 I q (by simp))
  |_=>exact absurd (show false=true from hs) Bool.false_ne_true
 |bl i=>
  cases rx;cases y with
  |non=>cases ry;exact PySem.EqNone.eq_bool_none (A6 I q (by simp))
  |bl j=>cases ry;exact eq_bool (A6 I q Uo)
  |str j=>obtain⟨t',rfl⟩:=ry;exact PySem.EqMixed.eq_bool_str (A6 I q (by simp))
  |_=>exact absurd (show false=true from hs) Bool.false_ne_true
 |int i=>
  obtain⟨t,rfl⟩:=rx;cases y with
  |non=>cases ry;exact PySem.EqNone.eq_int_none (A6 I q (by simp))
  |int j=>obtain⟨t',rfl⟩:=ry;exact eq_int (A6 I q O3)
  |str j=>obtain⟨t',rfl⟩:=ry;exact PySem.EqMixed.eq_int_str (A6 I q (by simp))
  |_=>exact absurd (show false=true from hs) Bool.false_ne_true
 |str i=>
  obtain⟨t,rfl⟩:=rx;cases y with
  |non=>cases ry;exact PySem.EqNone.eq_str_none (A6 I q (by simp))
  |bl j=>cases ry;exact PySem.EqMixed.eq_str_bool (A6 I q (by simp))
  |int j=>obtain⟨t',rfl⟩:=ry;exact PySem.EqMixed.eq_str_int (A6 I q (by simp))
  |str j=>obtain⟨t',rfl⟩:=ry;exact eq_str (A6 I q Ow)
  |_=>exact absurd (show false=true from hs) Bool.false_ne_true
 |byt i=>
  obtain⟨t,rfl⟩:=rx;cases y with
  |byt j=>obtain⟨t',rfl⟩:=ry;exact PySem.W.eq_bytes (A6 I q Pg)
  |_=>exact absurd (show false=true from hs) Bool.false_ne_true
 |_=>cases y<;> exact absurd (show false=true from hs) Bool.false_ne_true
theorem L0:OpR X (compareOp .NotEq) rNe:=by
 intro pins s σ H x y v u Q I rx ry h;obtain⟨hs,q⟩:=h;cases x with
 |non=>
  cases rx;cases y with
  |non=>cases ry;exact PySem.EqNone.ne_none_none (A6 I q (by simp))
  |bl j=>cases ry;exact PySem.EqNone.ne_none_bool (A6 I q (by simp))
  |int j=>obtain⟨t',rfl⟩:=ry;exact PySem.EqNone.ne_none_int (A6 I q (by simp))
  |str j=>obtain⟨t',rfl⟩:=ry;exact PySem.EqNone.ne_none_str (A6 I q (by simp))
  |_=>exact absurd (show false=true from hs) Bool.false_ne_true
 |bl i=>
  cases rx;cases y with
  |non=>cases ry;exact PySem.EqNone.ne_bool_none (A6 I q (by simp))
  |bl j=>cases ry;exact ne_bool (A6 I q (Y2 not Uo))
  |str j=>obtain⟨t',rfl⟩:=ry;exact PySem.EqMixed.ne_bool_str (A6 I q (by simp))
  |_=>exact absurd (show false=true from hs) Bool.false_ne_true
 |int i=>
  obtain⟨t,rfl⟩:=rx;cases y with
  |non=>cases ry;exact PySem.EqNone.ne_int_none (A6 I q (by simp))
  |int j=>obtain⟨t',rfl⟩:=ry;exact ne_int (A6 I q (Y2 not O3))
  |str j=>obtain⟨t',rfl⟩:=ry;exact PySem.EqMixed.ne_int_str (A6 I q (by simp))
  |_=>exact absurd (show false=true from hs) Bool.false_ne_true
 |str i=>
  obtain⟨t,rfl⟩:=rx;cases y with
  |non=>cases ry;exact PySem.EqNone.ne_str_none (A6 I q (by simp))
  |bl j=>cases ry;exact PySem.EqMixed.ne_str_bool (A6 I q (by simp))
  |int j=>obtain⟨t',rfl⟩:=ry;exact PySem.EqMixed.ne_str_int (A6 I q (by simp))
  |str j=>obtain⟨t',rfl⟩:=ry;exact ne_str (A6 I q (Y2 not Ow))
  |_=>exact absurd (show false=true from hs) Bool.false_ne_true
 |byt i=>
  obtain⟨t,rfl⟩:=rx;cases y with
  |byt j=>obtain⟨t',rfl⟩:=ry;exact PySem.W.ne_bytes (A6 I q (Y2 not Pg))
  |_=>exact absurd (show false=true from hs) Bool.false_ne_true
 |_=>cases y<;> exact absurd (show false=true from hs) Bool.false_ne_true
theorem Uh:OpR X (compareOp .Lt) (rI0 λi j=> .bl (decide (i<j))):=Xp λ_ _ _ _ _ _ _ q=>lt_int q
theorem Kf:OpR X (compareOp .LtE) (rI0 λi j=> .bl (decide (i<=j))):=Xp λ_ _ _ _ _ _ _ q=>le_int q
theorem Ta:OpR X (compareOp .Gt) (rI0 λi j=> .bl (decide (j<i))):=Xp λ_ _ _ _ _ _ _ q=>gt_int q
theorem Xs:OpR X (compareOp .Is) (λx y H Q=>y= .non/\Q (.bl (decide (x= .non))) H):=by
 intro pins s σ H x y v u Q I rx ry h;obtain⟨rfl,q⟩:=h;cases ry;refine is_none_gen (A6 I q ?_);cases x<;> first
  |(cases rx;rfl)
  |(obtain⟨t,rfl⟩:=rx;rfl)
theorem Pa:OpR X (compareOp .IsNot) (λx y H Q=>y= .non/\Q (.bl (!decide (x= .non))) H):=by
 intro pins s σ H x y v u Q I rx ry h;obtain⟨rfl,q⟩:=h;cases ry;refine isnot_none_gen (A6 I q ?_);cases x<;> first
  |(cases rx;rfl)
  |(obtain⟨t,rfl⟩:=rx;rfl)
theorem Av(b:Expr){op:CmpOp}(h:op≠ .In:=by decide)(h2:op≠ .NotIn:=by decide):behindInMarks op b=false:=by
 have e1:(op==CmpOp.In)=false:=by cases op<;> first|rfl|exact absurd rfl h
 have e2:(op==CmpOp.NotIn)=false:=by cases op<;> first|rfl|exact absurd rfl h2
 cases b<;> simp[behindInMarks,e1,e2]
theorem Br{op:CmpOp}{r:R2}(ho:OpR X (compareOp op) r)(ha:PE X a ta)(hb:PE X b tb)(hm:behindInMarks op b=false):PE X (.Compare a [op] [b] pos) (tOp r ta tb):=by
 intro pins s σ H Q I h;exact wpAny_Compare1 (Xc ha hb I h λv u s2 x y H2 I2 rx ry q=>ho pins s2 σ H2 x y v u Q I2 rx ry q) hm
def Sg(t:TE):TT:=λσ H Q=>t σ H λx H'=>BlP x H' Q
theorem As{op:CmpOp}{r:R2}(ho:OpR X (compareOp op) r)(ha:PE X a ta)(hb:PE X b tb)(hm:behindInMarks op b=false):PT X (.Compare a [op] [b] pos) (Sg (tOp r ta tb)):=by
 intro pins s σ H Q I h;refine wpAny_isTrue_Compare1 (thn (ha pins s σ H _ I h) λv s1 ⟨x,H1,I1,r1,q1⟩=>thn (hb pins s1 σ H1 _ I1 q1) λu s2 ⟨y,H2,I2,r2,q2⟩=>
  thn (ho pins s2 σ H2 x y v u _ I2 r1 r2 q2) λc s3 ⟨z,H3,I3,r3,k,e,q3⟩=> ?_) hm
 subst e;cases r3;exact Yu ⟨H3,I3,q3⟩
def R6(r r':R2)(ta tb tc:TE):TE:=λσ H Q=>ta σ H λx H1=>tb σ H1 λy H2=>r x y H2 λz H3=>∃k,z= .bl k/\
 (if k=true then tc σ H3 λw' H4=>r' y w' H4 Q else Q (.bl false) H3)
theorem Mi{op op':CmpOp}{r r':R2}(ho:OpR X (compareOp op) r)(ho':OpR X (compareOp op') r')(ha:PE X a ta)(hb:PE X b tb)(hc:PE X c tc)(hm:lastMarks [op,op'] [b,c]=false:=by with_unfolding_all rfl):PE X (.Compare a [op,op'] [b,c] pos) (R6 r r' ta tb tc):=by
 intro pins s σ H Q I h;refine Compare_chain (thn (ha pins s σ H _ I h) λv s1 ⟨x,H1,I1,r1,q1⟩=>chain_link (thn (hb pins s1 σ H1 _ I1 q1) λu s2 ⟨y,H2,I2,r2,q2⟩=>
  thn (ho pins s2 σ H2 x y v u _ I2 r1 r2 q2) λd s3 ⟨z,H3,I3,r3,k,e,q3⟩=> ?_)) hm
 subst e;cases r3;refine Yu ?_;cases k with
 |false=>exact ite_ff ⟨.bl false,H3,I3,rfl,q3⟩
 |true=>exact ite_tt (chain_last (thn (hc pins s3 σ H3 _ I3 q3) λw' s4 ⟨z',H4,I4,r4,q4⟩=>ho' pins s4 σ H4 y z' u w' Q I4 r2 r4 q4))
theorem Rv{op op':CmpOp}{r r':R2}(ho:OpR X (compareOp op) r)(ho':OpR X (compareOp op') r')(ha:PE X a ta)(hb:PE X b tb)(hc:PE X c tc)(hm:lastMarks [op,op'] [b,c]=false:=by with_unfolding_all rfl):PT X (.Compare a [op,op'] [b,c] pos) (Sg (R6 r r' ta tb tc)):=by
 intro pins s σ H Q I h;refine isTrue_chain (thn (ha pins s σ H _ I h) λv s1 ⟨x,H1,I1,r1,q1⟩=>test_link (thn (hb pins s1 σ H1 _ I1 q1) λu s2 ⟨y,H2,I2,r2,q2⟩=>
  thn (ho pins s2 σ H2 x y v u _ I2 r1 r2 q2) λd s3 ⟨z,H3,I3,r3,k,e,q3⟩=> ?_)) hm
 subst e;cases r3;refine Yu ?_;cases k with
 |false=>
  obtain⟨k',e',q'⟩:=q3;cases e';exact ite_ff ⟨H3,I3,q'⟩
 |true=>
  refine ite_tt (test_last (thn (hc pins s3 σ H3 _ I3 q3) λw' s4 ⟨z',H4,I4,r4,q4⟩=>thn (ho' pins s4 σ H4 y z' u w' _ I4 r2 r4 q4) λd' s5 ⟨z2,H5,I5,r5,k2,e2,q5⟩=> ?_));subst e2;cases r5;exact Yu ⟨H5,I5,q5⟩
def TruV(K:Frag)(x:V)(H:Hp)(k:Bool):Prop:=
 match x with
 | .non=>k=false
 | .bl b=>k=b
 | .int i=>k=(i !=0)
 | .str y=>y.length<=sizeLine/\k=((y.length:Int) !=0)
 | .byt y=>y.size<=sizeLine/\k=((y.size:Int) !=0)
 | .ref p=>(∃xs,SqL K H p xs/\k= !xs.isEmpty)\/(∃xs,SqT K H p xs/\k= !xs.isEmpty)\/∃kvs,H p=some (.dK kvs)/\k= !kvs.isEmpty
 |_=>False
theorem Og{κ:Type}{kvs:List (κ×V)}{vs:List (κ×Value)}(r:KV kvs vs):(!vs.isEmpty)= !kvs.isEmpty:=by
 cases r<;> rfl
theorem Jc{xs:List V}{its:List Value}(r:Vals xs its):(!its.toArray.isEmpty)= !xs.isEmpty:=by
 cases r<;> simp
theorem Fb:(sizeLine:Nat)<2 ^ 63:=by rw[Yr];decide
theorem Xa:TruR X (λx H Q=>∃k,TruV X.K x H k/\Q k H):=by
 intro pins s σ H x v Q I rx h;obtain⟨k,e,q⟩:=h;have hl:=Fb;have hs:sizeLine=16777216:=Yr;cases x with
 |non=>
  cases rx;have e':k=false:=e;subst e';exact truthy_none ⟨H,I,q⟩
 |bl b=>
  cases rx;have e':k=b:=e;subst e';exact Yu ⟨H,I,q⟩
 |int i=>
  obtain⟨t,rfl⟩:=rx;have e':k=(i !=0):=e;subst e';exact PySem.P.truthy_int ⟨H,I,q⟩
 |str y=>
  obtain⟨t,rfl⟩:=rx;obtain⟨hy,e'⟩:y.length<=sizeLine/\k=((y.length:Int) !=0):=e;subst e';exact PySem.P.truthy_str (by omega) ⟨H,I.tok _,q⟩
 |byt y=>
  obtain⟨t,rfl⟩:=rx;obtain⟨hy,e'⟩:y.size<=sizeLine/\k=((y.size:Int) !=0):=e;subst e';exact PySem.W.truthy_bytes (by exact le_trans (by assumption) (by decide)) ⟨H,I.tok _,q⟩
 |ref p=>
  cases rx;have e':(∃xs,SqL X.K H p xs/\k= !xs.isEmpty)\/(∃xs,SqT X.K H p xs/\k= !xs.isEmpty)\/∃kvs,H p=some (.dK kvs)/\k= !kvs.isEmpty:=e;rcases e' with⟨xs,hx,e'⟩|⟨xs,hx,e'⟩|⟨kvs,hx,e'⟩
  ·subst e';obtain⟨its,r,pl,hz⟩:=I.list hx;have hlen:=r.length;exact wpAny_truthy_list pl.isList (by simp only[size_toArray];omega) ⟨H,I.tok _,by rw[Jc r];exact q⟩
  ·subst e';obtain⟨its,r,pl,hz⟩:=I.tuple hx;have hlen:=r.length;exact truthy_tuple pl (by simp only[size_toArray];omega) ⟨H,I.tok _,by rw[Jc r];exact q⟩
  ·subst e';obtain⟨hz,hS,vs,r,m⟩:kvs.length<=sizeLine/\(p==sysModules)=false/\∃vs,KV kvs vs/\s.heap.DictOf (Bc X.prog X.w) p vs:=I.hok p _ hx;have hlen:kvs.length=vs.length:=Paired.length r;exact wpAny_truthy_dict hS m (by omega) ⟨H,I.tok _,by rw[Og r];exact q⟩
 |_=>exact(show False from e).elim
theorem Rs(ha:PE X a ta)(he:∀whole,isTrue a X.env whole=(do let v <-whole;standAt a.pos;holding [v] (truthy v))):
  PT X a (λσ H Q=>ta σ H λx H'=>∃k,TruV X.K x H' k/\Q k H'):=by
 intro pins s σ H Q I h;exact isTrue_plain (thn (ha pins s σ H _ I h) λv s1 ⟨x,H1,I1,r1,q1⟩=>Xa pins s1 σ H1 x v Q I1 r1 q1) (he _)
theorem Ck{x:V}{us:List Value}(r:Vals [x] us):∃u,us=[u]/\RelV x u:=by
 cases r with
 |cons r1 r2=>cases r2;exact⟨_,rfl,r1⟩
theorem Ma{x y:V}{us:List Value}(r:Vals [x,y] us):∃u w',us=[u,w']/\RelV x u/\RelV y w':=by
 cases r with
 |cons r1 r2=>
  cases r2 with
  |cons r3 r4=>cases r4;exact⟨_,_,rfl,r1,r3⟩
theorem Qg(hc:X.calm=true):Ca X (.builtin "max") (λxs H Q=>∃i j,xs=[.int i,.int j]/\Q (.int (if j > i then j else i)) H):=by
 intro pins s σ H xs us Q I r h;obtain⟨i,j,rfl,q⟩:=h;obtain⟨u,w',rfl,⟨t,rfl⟩,⟨t',rfl⟩⟩:=Ma r;refine max_two_ints (I.ok.hd hc) λh' tk k=>⟨_,H,I.kept k,?_,q⟩
 by_cases hj:j > i
 ·rw[Yf hj,Yf hj];exact⟨_,rfl⟩
 ·rw[Lt hj,Lt hj];exact⟨_,rfl⟩
theorem J8(hc:X.calm=true):Ca X (.builtin "min") (λxs H Q=>∃i j,xs=[.int i,.int j]/\Q (.int (if j<i then j else i)) H):=by
 intro pins s σ H xs us Q I r h;obtain⟨i,j,rfl,q⟩:=h;obtain⟨u,w',rfl,⟨t,rfl⟩,⟨t',rfl⟩⟩:=Ma r;refine min_two_ints (I.ok.hd hc) λh' tk k=>⟨_,H,I.kept k,?_,q⟩
 by_cases hj:j<i
 ·rw[Yf hj,Yf hj];exact⟨_,rfl⟩
 ·rw[Lt hj,Lt hj];exact⟨_,rfl⟩
theorem Gu:Ca X (.type "int") (λxs H Q=>(∃i,xs=[.int i]/\Q (.int i) H)\/∃k,xs=[.bl k]/\Q (.int (if k then 1 else 0)) H):=by
 intro pins s σ H xs us Q I r h;rcases h with⟨i,rfl,q⟩|⟨k,rfl,q⟩
 ·obtain⟨u,rfl,t,rfl⟩:=Ck r;exact call_int_int ⟨.int i,H,I,⟨_,rfl⟩,q⟩
 ·obtain⟨u,rfl,r1⟩:=Ck r;cases r1;exact call_int_bool ⟨.int (if k then 1 else 0),H,I.tok _,⟨_,rfl⟩,q⟩
end
structure ObjM(h:Heap)(x dx C:Addr)(mA:Str->Option Value):Prop where
 obj:h.get? x=some (instObj C dx)
 ns:h.Ns1 dx mA
 ne:dx≠x
theorem Rh{h:Heap}{dx:Addr}{mA:Str->Option Value}(n:h.Ns1 dx mA):∃od,h.get? dx=some od/\∀name,lookIn name od=some (mA name):=by
 obtain⟨o,es,ep,ho,hd,hk,_,hm⟩:=n;refine⟨o,ho,λname=> ?_⟩;have e:=hm name;unfold nsFind findBy at e;rw[<-Array.find?_toList] at e;unfold lookIn;rw[hd];dsimp only;split
 ·rename_i y q;rw[q] at e;exact Y2 some e
 ·rename_i q;rw[q] at e;have a:es.toList.any (·.refKey)=false:=by
   rw[List.any_eq_false];intro y hy;obtain⟨z,t,hkey⟩:=hk y (Array.mem_toList_iff.mp hy);simp[DictEntry.refKey,hkey]
  have a':¬es.toList.any (·.refKey)=true:=by rw[a];exact Bool.false_ne_true
  rw[Lt a'];exact Y2 some e
theorem ObjM.look{h:Heap}{x dx C:Addr}{mA:Str->Option Value}(I:ObjM h x dx C mA):∃od,PySem.W.InstAt h x (instObj C dx) C (some od)/\∀name,lookIn name od=some (mA name):=
 let ⟨od,ho,hl⟩:=Rh I.ns
 ⟨od,⟨I.obj,rfl,rfl,ho⟩,hl⟩
theorem RelO.some_of{v:V}{o:Option Value}(r:RelO (some v) o):∃u,o=some u/\RelV v u:=by
 cases o with
 |none=>exact(show False from r).elim
 |some u=>exact⟨u,rfl,r⟩
section
variable{P:Program}{w:World}{H H':Hp}{h h':Heap}{a C dx:Addr}{fs fs':List (Str×V)}
theorem Vu(hok:HOk P w H h)(e:H a=some (.ins C dx fs)):∃mA,ObjM h a dx C mA/\(∀f,RelO (fs.lookup f) (mA f))/\PySem.Within mA (fs.map (·.1))/\fs.length<=1000/\H dx=some (.own a):=by
 obtain⟨d,z,ne,ob,mA,n,r,q⟩:=(show ObjOk P w H h a (.ins C dx fs) from hok a _ e)
 exact⟨mA,⟨ob,n,ne⟩,r,q,z,d⟩
end
structure Cls(K:Frag)(C:Addr):Prop where
 pg:plainGet K C Str.empty=true
 hd:PySem.W.hasDictIn K C=true
 po:PySem.W.plainOver K C=true
 sa:findIn K (.ref C) "__setattr__"=some (some (.builtin "object.__setattr__"))
theorem Cls.get{K:Frag}{C:Addr}(c:Cls K C)(f:Str):plainGet K C f=true:=c.pg
section
variable{X:Cx}{pins:List (Addr×Obj)}{σ:St}{H:Hp}{s:Shared}{A:Around}{E:Value->Shared->Prop}{Q:Value->Shared->Prop}{c:Value}{b:Bool}
inductive Gz(K:Frag)(H:Hp):V->Value->Prop where
 |non:Gz K H .non (.type "NoneType")
 |bl (x:Bool):Gz K H (.bl x) (.type "bool")
 |int (i:Int):Gz K H (.int i) (.type "int")
 |str (x:Str):Gz K H (.str x) (.type "str")
 |flt (x:UInt64):Gz K H (.flt x) (.type "float")
 |lst {a:Addr} {xs:List V} (e:H a=some (.lst xs)):Gz K H (.ref a) (.type "list")
 |frz {a:Addr} {o:Obj} {xs:List V} (e:H a=some (.frz o (.lst xs))):Gz K H (.ref a) (.type "list")
 |tup {a:Addr} {xs:List V} (e:H a=some (.tup xs)):Gz K H (.ref a) (.type "tuple")
 |dK {a:Addr} {kvs:List (Key×V)} (e:H a=some (.dK kvs)):Gz K H (.ref a) (.type "dict")
 |dT {a:Addr} {kvs:List (List Key×V)} (e:H a=some (.dT kvs)):Gz K H (.ref a) (.type "dict")
 |ins {a C dx:Addr} {fs:List (Str×V)} (e:H a=some (.ins C dx fs)) (cl:Cls K C) (ha:findIn K (.ref C) "__class__"=some (some (.builtin "object.__class__")))
  (hn:PySem.W.specialIn K (.builtin "object.__class__") "__get__"=some (some (.builtin "getset_descriptor.__get__"))) (htk:PySem.W.takesIn K (.builtin "object.__class__")=some true)
  (hm:PySem.W.mroIn K C (.type "object")=some true):Gz K H (.ref a) (.ref C)
theorem Rj{x:V}{u t:Value}(I:Inv X pins σ H s)(rx:RelV x u)(ty:Gz X.K H x t)(e:kitOne X.K t c=some b)(h:∀tk,Q (.bool b) {s with toks:=tk}):
  wpAny (model X.prog X.w) A (call (.builtin "isinstance") [u,c]) Q E s:=by
 cases ty with
 |non=>cases (show u=Value.none from rx);exact kia_one PySem.W.kitx_none I.kIn True.intro e (λz=>nomatch z) h
 |bl y=>cases (show u=Value.bool y from rx);exact kia_one PySem.W.kitx_bool I.kIn True.intro e (λz=>nomatch z) h
 |int i=>obtain⟨t,q⟩:=(show ∃t,u=Value.int i t from rx);cases q;exact kia_one PySem.W.kitx_int I.kIn True.intro e (λz=>nomatch z) h
 |str y=>obtain⟨t,q⟩:=(show ∃t,u=Value.str y t from rx);cases q;exact kia_one PySem.W.kitx_str I.kIn True.intro e (λz=>nomatch z) h
 |flt y=>obtain⟨t,q⟩:=(show ∃t,u=Value.float y t from rx);cases q;exact kia_one PySem.W.kitx_float I.kIn True.intro e (λz=>nomatch z) h
 | @lst a xs ea=>
  cases (show u=Value.ref a from rx);obtain⟨_,_,n,_,h1⟩:=(show ObjOk X.prog X.w H s.heap a (.lst xs) from I.hok a _ ea)
  exact kia_one kitx_list I.kIn ⟨_,h1,rfl⟩ e (λz=>nomatch z) h
 | @frz a ob xs ea=>
  cases (show u=Value.ref a from rx);obtain⟨_,_,_,n,_,h1⟩:=(show ObjOk X.prog X.w H s.heap a (.frz ob (.lst xs)) from I.hok a _ ea)
  exact kia_one kitx_list I.kIn ⟨_,h1,rfl⟩ e (λz=>nomatch z) h
 | @tup a xs ea=>
  cases (show u=Value.ref a from rx);obtain⟨_,_,_,p⟩:=(show ObjOk X.prog X.w H s.heap a (.tup xs) from I.hok a _ ea)
  obtain⟨o,h1,h2,_⟩:=p;exact kia_one PySem.W.kitx_tuple I.kIn ⟨o,h1,h2⟩ e (λz=>nomatch z) h
 | @dK a kvs ea=>
  cases (show u=Value.ref a from rx);obtain⟨_,_,vs,_,p⟩:=(show ObjOk X.prog X.w H s.heap a (.dK kvs) from I.hok a _ ea)
  obtain⟨o,es,ep,h1,h2,_⟩:=p;exact kia_one kitx_dict I.kIn ⟨o,h1,h2.1⟩ e (λz=>nomatch z) h
 | @dT a kvs ea=>
  cases (show u=Value.ref a from rx);obtain⟨_,_,xs,_,o,es,ep,h1,h2,_⟩:=(show ObjOk X.prog X.w H s.heap a (.dT kvs) from I.hok a _ ea)
  exact kia_one kitx_dict I.kIn ⟨o,h1,h2.1⟩ e (λz=>nomatch z) h
 | @ins a C dx fs ea cl ha hn htk hm=>
  cases (show u=Value.ref a from rx);obtain⟨mA,O,_⟩:=Vu I.hok ea;obtain⟨od,J,_⟩:=O.look;exact kia_one (PySem.W.kitx_own (cl.get _) cl.hd ha hn htk hm) I.kIn J e (λz=>nomatch z) h
end
structure Room(k:Nat)(A:Around):Prop where
 hd:A.handled=none
 dp:A.depth+3 * k+5<recursionLimit
 un:A.units+16 * k+200<cLine
 gd:A.guards=some []
theorem Room.mono{j k:Nat}{A:Around}(r:Room k A)(h:j<=k):Room j A:=⟨r.hd,by have:=r.dp;omega,by have:=r.un;omega,r.gd⟩
theorem Room.deeper{k:Nat}{A:Around}(r:Room (k+1) A)(env:Env):Room k (A.deeper env):=
 ⟨r.hd,by have:=r.dp;show A.depth+1+3 * k+5<_;omega,by have:=r.un;show A.units+3+16 * k+200<_;omega,by show pushGuards [] A.guards=some [];rw[r.gd];rfl⟩
theorem Room.depth{k:Nat}{A:Around}(r:Room k A):A.depth<recursionLimit:=by have:=r.dp;omega
theorem Room.units{k:Nat}{A:Around}(r:Room k A):A.units+64<cLine:=by have:=r.un;omega
theorem Room.units0{k:Nat}{A:Around}(r:Room k A):A.units<cLine:=by have:=r.un;omega
def tNil:TA:=λ_ H Q=>Q [] H
def Wb(ta:TE)(tr:TA):TA:=λσ H Q=>ta σ H λx H1=>tr σ H1 λxs H2=>Q (x::xs) H2
section
variable{X:Cx}{e:Expr}{es:List Expr}{te:TE}{t:TA}{pos:Pos}
theorem Ac:PA X [] tNil:=λ_ _ _ _ H Q I h=>Calls.spliced_nil ⟨[],H,I,.nil,h⟩
theorem Aa(ha:PE X e te)(hr:PA X es t)(hs:starEach (e::es) X.env=(false,eval e X.env)::starEach es X.env:=by rfl):PA X (e::es) (Wb te t):=by
 intro pos pins s σ H Q I h;rw[hs];show wpAny _ _ (spliced ((false,eval e X.env)::backTo pos (starEach es X.env))) _ _ s;refine Calls.spliced_cons (thn (ha pins s σ H _ I h) λu s1 ⟨x,H1,I1,r1,q1⟩=> ?_);exact thn (hr pos pins s1 σ H1 _ I1 q1) λus s2 ⟨xs,H2,I2,r2,q2⟩=>⟨x::xs,H2,I2,.cons r1 r2,q2⟩
def tTup(t:TA):TE:=λσ H Q=>t σ H λxs H1=>xs.length<=sizeLine/\∀p,H1 p=none->Q (.ref p) (upd H1 p (.tup xs))
def tLst(t:TA):TE:=λσ H Q=>t σ H λxs H1=>xs.length<=sizeLine/\∀p,H1 p=none->Q (.ref p) (upd H1 p (.lst xs))
theorem Bv{x1}(h:PA X es t):PE X (.Tuple es x1 pos) (tTup t):=by
 intro pins s σ H Q I hq;refine wpAny_Tuple_spliced (thn (h pos pins s σ H _ I hq) λus s1 ⟨xs,H1,I1,r,z,q⟩=>⟨by rw[<-r.length];exact z,?_⟩);have hf:H1 s1.heap.objs.size=none:=I1.hok.fresh (le_refl _);refine⟨.ref s1.heap.objs.size,upd H1 s1.heap.objs.size (.tup xs),I1.laid (t':=s1.toks) (λb u e=>Is _ e) (le_refl _) ?_,rfl,q _ hf⟩;exact⟨z,us,r,IsTupN.new _ _⟩
theorem B7(h:PA X es t):PE X (.List es pos) (tLst t):=by
 intro pins s σ H Q I hq;refine wpAny_List_spliced (thn (h pos pins s σ H _ I hq) λus s1 ⟨xs,H1,I1,r,z,q⟩=>⟨by rw[<-r.length];exact z,?_⟩);have hf:H1 s1.heap.objs.size=none:=I1.hok.fresh (le_refl _);refine⟨.ref s1.heap.objs.size,upd H1 s1.heap.objs.size (.lst xs),I1.laid (t':=s1.toks) (λb u e=>Is _ e) (le_refl _) ?_,rfl,q _ hf⟩;exact⟨z,us,0,r,Yi _ rfl⟩
end
abbrev Sp:=List V->Hp->VK->XK->Prop
abbrev CXT:=List Env->Hp->Shared->XK->Value->Shared->Prop
structure V8(P:Program)(w:World)(K:Frag)(mg:Str->Option Value)(base:Heap)(A:Around)(outer:List Env)(s:Shared)(H:Hp):Prop where
 frames:A.frames=some outer
 mod:Mod K mg base
 bs:∀b o,base.get? b=some o->s.heap.get? b=some o/\H b=none
 bsz:base.objs.size<=s.heap.objs.size
 funs:s.heap.FunFrames base outer
 frf:∀b∈frs outer,H b=none
 hok:HOk P w H s.heap
 bare:AllBare s.gens
def CE(outer:List Env)(P:Program)(w:World)(H:Hp)(s:Shared)(Q:VK)(u:Value)(s':Shared):Prop:=
 ∃v H',s'.os=s.os/\AllBare s'.gens/\Un (frs outer) [] H H' s.heap s'.heap/\HOk P w H' s'.heap/\RelV v u/\Q v H'
def CR(CX:CXT)(outer:List Env)(P:Program)(w:World)(H:Hp)(s:Shared)(Q:VK)(E:XK)(r:Result)(s':Shared):Prop:=
 match r with
 | .ok (.ret u)=>CE outer P w H s Q u s'
 | .ok _=>False
 | .error e=>CX outer H s E e s'
structure FnOk(P:Program)(w:World)(K:Frag)(mg:Str->Option Value)(base:Heap)(CX:CXT)(k:Nat)(f:Addr)(fd:FuncData)(ps:List Str)(sp:Sp):Prop where
 len:∀vs H Q E,sp vs H Q E->vs.length=ps.length
 run:∀(A:Around) (outer:List Env) (s:Shared) (H:Hp) (args:Args) (us:List Value) (vs:List V) (Q:VK) (E:XK),Room k A->V8 P w K mg base A outer s H->BindsTo s fd args (ps.zip us)->Vals vs us->sp vs H Q E->
  codeAny (model P w) A (.call (.ref f) args) (CR CX outer P w H s Q E) s
theorem FnOk.mono{P:Program}{w:World}{K:Frag}{mg:Str->Option Value}{base:Heap}{CX:CXT}{j k:Nat}{f:Addr}{fd:FuncData}{ps:List Str}{sp:Sp}(F:FnOk P w K mg base CX j f fd ps sp)(h:j<=k):
  FnOk P w K mg base CX k f fd ps sp:=⟨F.len,λA outer s H args us vs Q E hr=>F.run A outer s H args us vs Q E (hr.mono h)⟩
section
variable{X:Cx}{pins:List (Addr×Obj)}{σ:St}{H:Hp}{s s':Shared}
theorem Inv.env0(I:Inv X pins σ H s):V8 X.prog X.w X.K X.mg X.base X.A X.stack s H:=
 ⟨I.ok.frames,I.ok.mod,I.bs,le_trans I.ok.bsz I.sz,I.stack,I.stkFree,I.hok,I.bare⟩
theorem Inv.after{Q:VK}{u:Value}(I:Inv X pins σ H s)(h:CE X.stack X.prog X.w H s Q u s'):EP X pins σ Q u s':=by
 obtain⟨v,H',os,bare,un,hok,r,q⟩:=h;obtain⟨hh,g,d,t,os'⟩:=s';obtain rfl:os'=s.os:=os;exact⟨v,H',I.call (h':=hh) (g':=g) (d':=d) (t':=t) (ch:=[]) un hok bare (λb z=>absurd z (by simp)),r,q⟩
end
def tCall(sp:Sp)(dvs:List V)(E:XK)(t:TA):TE:=λσ H Q=>t σ H λvs H1=>sp (vs++dvs) H1 Q E
def Binds(K:Frag)(fd:FuncData)(ps:List Str)(ds:List Value):Prop:=
 ∀(s:Shared) (us:List Value),K.In s.heap->(us++ds).length=ps.length->BindsTo s fd ⟨us,[]⟩ (ps.zip (us++ds))
theorem Binds.all{K:Frag}{fd:FuncData}{ps:List Str}(h:∀us:List Value,us.length=ps.length->bindArgs fd ⟨us,[]⟩=pure (ps.zip us)):Binds K fd ps []:=λs us _ hl=>by
 rw[Zg] at hl ⊢;exact .of_eq (h us hl)
def Nc(CX:CXT)(X:Cx)(E:XK):Prop:=∀(pins:List (Addr×Obj)) (σ:St) (H:Hp) (s:Shared) (e:Value) (s':Shared),Inv X pins σ H s->CX X.stack H s E e s'->X.xe e s'
section
variable{X:Cx}{CX:CXT}{k:Nat}{f C:Addr}{fd:FuncData}{ps:List Str}{sp:Sp}{dvs:List V}{ds:List Value}{E:XK}{x m:Str}{p pos apos:Pos}{e o:Expr}{es:List Expr}{ta:TE}{t:TA}
theorem Xk{pins:List (Addr×Obj)}{σ:St}{H:Hp}{s:Shared}{Q:VK}{us:List Value}{vs:List V}(F:FnOk X.prog X.w X.K X.mg X.base CX k f fd ps sp)(hr:Room k X.A)(hb:Binds X.K fd ps ds)(hd:Vals dvs ds)(hx:Nc CX X E)(I:Inv X pins σ H s)(r:Vals vs us)(h:sp (vs++dvs) H Q E):wpAny (model X.prog X.w) X.A (call (.ref f) us) (EP X pins σ Q) X.xe s:=by
 have r2:Vals (vs++dvs) (us++ds):=r.append hd;have hl:(us++ds).length=ps.length:=by rw[<-r2.length];exact F.len _ _ _ _ h
 refine wpAny_call (codeAny_mono (F.run X.A X.stack s H ⟨us,[]⟩ (us++ds) (vs++dvs) Q E hr I.env0 (hb s us I.kIn hl) r2 h) λr s' hq=> ?_);cases r with
 |error e=>exact hx pins σ H s e s' I hq
 |ok fl=>
  cases fl with
  |ret u=>exact I.after hq
  |next=>exact False.elim hq
  |brk=>exact False.elim hq
  |cont=>exact False.elim hq
theorem Ai(F:FnOk X.prog X.w X.K X.mg X.base CX k f fd ps sp)(hr:Room k X.A)(hg:Gl X x)(hm:X.mg x=some (.ref f))(hk:keepIn X.K (.ref f)=true)(hb:Binds X.K fd ps ds)(hd:Vals dvs ds)(hx:Nc CX X E)(ha:PA X (e::es) t)(hdb:(x==("__debug__":Str))=false:=by decide)(he:starEach (e::es) X.env=(false,eval e X.env)::starEach es X.env:=by rfl)(hpl:(backTo pos (starEach es X.env)).any (·.1)=false:=by rfl):
  PE X (.Call (.Name x p) (e::es) [] pos) (tCall sp dvs E t):=by
 intro pins s σ H Q I h;refine wpAny_Call_Name_kw (O2 I hg hm ?_ hdb);refine PySem.W.callWith_K (h₀:=X.base) I.ok.mod.kin hk (thn (ha pos pins s σ H _ I h) λus s1 ⟨vs,H1,I1,r,q⟩=>⟨I1.kIn,?_⟩) he hpl;exact Xk F hr hb hd hx I1 r q
end
structure Aw(N P:List Str)(sc:Scope):Prop where
 kind:sc.kind= .function
 co:sc.isCoroutine=false
 gen:sc.isGenerator=false
 nd:N.Nodup
 pre:N.take P.length=P
 par:∀x∈P,sc.names.lookup x=some .local\/sc.names.lookup x=some .cell
 nofree:∀y∈sc.names,y.2≠ .free
theorem Km{kindOf:Str->Option NameKind}{x:Str}:∀{binds:List (Str×Value)} {m:Str->Option Value},(∀v,(x,v) ∉ binds)->bindL kindOf binds m x=m x
 |[],_,_=>rfl
 |(n,v)::r,m,h=>by
  unfold bindL;rw[Km λw hw=>h w (Yn _ hw)];split
  ·have:x≠n:=by rintro rfl;exact h v Yl
   simp[this]
  ·rfl
theorem Jy{kindOf:Str->Option NameKind}{x:Str}:∀{binds:List (Str×Value)} {m:Str->Option Value},(∀v,(x,v) ∉ binds)->bindC kindOf binds m x=m x
 |[],_,_=>rfl
 |(n,v)::r,m,h=>by
  unfold bindC;rw[Jy λw hw=>h w (Yn _ hw)];split
  ·rfl
  ·have:x≠n:=by rintro rfl;exact h v Yl
   simp[this]
theorem J4{kindOf:Str->Option NameKind}{x:Str}{v:Value}:∀{P:List Str} {vs:List Value} {i:Nat} {m:Str->Option Value},P.Nodup->P[i]? =some x->vs[i]? =some v->kindOf x=some .local->
  bindL kindOf (P.zip vs) m x=some v
 |[],_,_,_,_,h,_,_=>by simp at h
 |_::_,[],_,_,_,_,h,_=>by simp at h
 |p::P,w::vs,0,m,nd,h1,h2,hk=>by
  simp at h1 h2;subst h1;subst h2;show bindL kindOf ((p,w)::P.zip vs) m p=_;unfold bindL;rw[Km λv hv=>(Zh.mp nd).1 (List.of_mem_zip hv).1,Yf hk];simp
 |p::P,w::vs,i+1,m,nd,h1,h2,hk=>by
  show bindL kindOf ((p,w)::P.zip vs) m x=_;unfold bindL;exact J4 (i:=i) (Zh.mp nd).2 (by simpa using h1) (by simpa using h2) hk
theorem J1{kindOf:Str->Option NameKind}{x:Str}{v:Value}:∀{P:List Str} {vs:List Value} {i:Nat} {m:Str->Option Value},P.Nodup->P[i]? =some x->vs[i]? =some v->kindOf x≠some .local->
  bindC kindOf (P.zip vs) m x=some v
 |[],_,_,_,_,h,_,_=>by simp at h
 |_::_,[],_,_,_,_,h,_=>by simp at h
 |p::P,w::vs,0,m,nd,h1,h2,hk=>by
  simp at h1 h2;subst h1;subst h2;show bindC kindOf ((p,w)::P.zip vs) m p=_;unfold bindC;rw[Jy λv hv=>(Zh.mp nd).1 (List.of_mem_zip hv).1,Lt hk];simp
 |p::P,w::vs,i+1,m,nd,h1,h2,hk=>by
  show bindC kindOf ((p,w)::P.zip vs) m x=_;unfold bindC;exact J1 (i:=i) (Zh.mp nd).2 (by simpa using h1) (by simpa using h2) hk
def G0(N:List Str)(vs:List V):St:=vs.map some++replicate (N.length - vs.length) none
def Qw(CX:CXT)(P:Program)(w:World)(K:Frag)(mg:Str->Option Value)(base:Heap)(N:List Str)(qual:Str)(scope:Scope)(f:Addr)(cd:Value)(A:Around)(outer:List Env)(s:Shared)(H:Hp)(E:XK):Cx where
 prog:=P
 w:=w
 K:=K
 mg:=mg
 base:=base
 A:=A.deeper (envOfC qual scope s.heap.objs.size f cd)
 N:=N
 s₀:=s
 H₀:=H
 env:=envOfC qual scope s.heap.objs.size f cd
 outer:=outer
 stack:=envOfC qual scope s.heap.objs.size f cd::outer
 ex:=[]
 calm:=true
 fn:=λ_=>true
 pn:=[]
 xe:=λe s'=>wpAny (model P w) (A.deeper (envOfC qual scope s.heap.objs.size f cd)) (leaving (envOfC qual scope s.heap.objs.size f cd) e) (λ_ s''=>CX outer H s E e s'') (λe' s''=>CX outer H s E e' s'') s'
theorem Lx{sc:Scope}{n:Nat}{x:Str}(h:sc.names.lookup x=some .cell):∃c,(cellsFrom n sc.names []).lookup x=some c:=by
 have q:=PySem.W.cellsFrom_some sc.names n [] (.inl h);exact Zd.mp q
theorem P8{CX:CXT}{P:Program}{w:World}{K:Frag}{mg:Str->Option Value}{base:Heap}{N ps:List Str}{qual:Str}{scope:Scope}{f:Addr}{cd:Value}{A:Around}{outer:List Env}{s s1:Shared}{H:Hp}{E:XK}{us:List Value}{vs:List V}(S:Aw N ps scope)(hd:A.handled=none)(e0:V8 P w K mg base A outer s H)(hl:vs.length=ps.length)(r:Vals vs us)(x:InCallC s s.heap.objs.size (bindL (envOfC qual scope s.heap.objs.size f cd).kindOf (ps.zip us) λ_=>none) (cellsFrom (s.heap.objs.size+1) scope.names []) (bindC (envOfC qual scope s.heap.objs.size f cd).kindOf (ps.zip us) λ_=>none) s1):
  Inv (Qw CX P w K mg base N qual scope f cd A outer s H E) [] (G0 N vs) H s1:=by
 have hpl:ps.length<=N.length:=by have:=Y2 length S.pre;rw[Yo] at this;omega
 obtain⟨h1,tk,rfl,hk⟩:=x.done;have noA:∀b:Addr,b ∉ (Qw CX P w K mg base N qual scope f cd A outer s H E).ex:=λb z=>absurd (show b∈([]:List Addr) from z) (by simp);refine⟨⟨e0.mod,S.kind,rfl,rfl,le_refl _,λy z c h1 h2=> ?_,λy hy=> ?_,λy c _ h=> ?_,λ_=>hd,Around.frames_deeper e0.frames,.inr ⟨rfl,rfl⟩,λb z=>absurd z (noA b),e0.bs,e0.bsz,λb _ _=>noA b,λb z=>absurd z (noA b),e0.funs,e0.frf⟩,
  rfl,e0.bare,Un.kept hk,⟨_,x.toInCall.ns,λi y v h1 h2 h3=> ?_⟩,λy c h=>⟨_,x.cell y c h⟩,e0.hok.fresh (le_refl _),λy c h=> ?_,λp hp=>absurd (show p∈([]:List (Addr×Obj)) from hp) (by simp),e0.hok.kept hk,?_⟩
 ·exact name_of_addr x.apart (PySem.mem_of_lookup h1) (PySem.mem_of_lookup h2)
 ·have hy:scope.names.lookup y=some .cell\/scope.names.lookup y=some .free:=hy;rcases hy with hy|hy
  ·exact Lx hy
  ·exact absurd rfl (S.nofree _ (PySem.mem_of_lookup hy))
 ·exact le_of_lt (x.above y c (PySem.mem_of_lookup h))
 ·have hi:i<vs.length:=by
   unfold G0 at h2;by_cases hi:i<vs.length
   ·exact hi
   ·rw[getElem?_append_right (by simpa using hi)] at h2;rw[getElem?_replicate] at h2;split at h2<;> cases h2
  have ha:vs[i]? =some v:=by
   unfold G0 at h2;rw[List.getElem?_append_left (by simpa using hi),getElem?_map] at h2;cases e:vs[i]? with
   |none=>rw[e] at h2;cases h2
   |some a=>rw[e] at h2;cases h2;rfl
  obtain⟨u,hu,rv⟩:=r.get ha;have hp:ps[i]? =some y:=by
   rw[<-S.pre,List.getElem?_take_of_lt (by omega)];exact h1
  have ndP:ps.Nodup:=by rw[<-S.pre];exact S.nd.sublist (List.take_sublist _ _)
  refine⟨u,rv,?_⟩;rcases S.par y (mem_of_getElem? hp) with k|k
  ·exact .inl ⟨k,J4 ndP hp hu k⟩
  ·obtain⟨c,e⟩:=Lx (n:=s.heap.objs.size+1) k;refine .inr ⟨.inl k,c,e,?_⟩;have q:=x.cell y c e;rw[J1 ndP hp hu (by show scope.names.lookup y≠_;rw[k];decide)] at q;exact q
 ·exact e0.hok.fresh (le_of_lt (x.above y c (PySem.mem_of_lookup h)))
 ·unfold G0;show _=N.length;rw[Yk,If,List.length_replicate];omega
theorem fn_of{CX:CXT}{P:Program}{w:World}{K:Frag}{mg:Str->Option Value}{base:Heap}{k:Nat}{f:Addr}{name qual:Str}{params:Arguments}{body:List Stmt}{scope:Scope}{dV kV doc pm cdv ct oc:Value}{an od:Option Addr}{osl:Array (Option Value)}{N ps:List Str}{sp:Sp}(lk:K.lookup f=some ⟨oc,od,.func (PySem.W.fnOf name qual params body scope dV kV doc pm an cdv ct),osl⟩)(hcd:PySem.W.codeIn K cdv qual=true)(S:Aw N ps scope)(len:∀vs H Q E,sp vs H Q E->vs.length=ps.length)(hbody:∀(A:Around) (outer:List Env) (s:Shared) (H:Hp) (vs:List V) (Q:VK) (E:XK),Room k (A.deeper (envOfC qual scope s.heap.objs.size f cdv))->sp vs H Q E->
   ∃t,PSs (Qw CX P w K mg base N qual scope f cdv A outer s H E) body t/\t {nx:=λ_ H'=>Q .non H',rt:=Q} (G0 N vs) H):
  FnOk P w K mg base CX (k+1) f (PySem.W.fnOf name qual params body scope dV kV doc pm an cdv ct) ps sp:=by
 refine⟨len,λA outer s H args us vs Q E hr e0 hb r hsp=> ?_⟩;have hl:=len _ _ _ _ hsp;have KX:K.In s.heap:=e0.mod.kin.keeps λb o e=>(e0.bs b o e).1;have lim:s.heap.NoLimit:=e0.mod.nolimit.keeps λb o e=>(e0.bs b o e).1;have hkind:∀y∈ps.zip us,scope.names.lookup y.1=some .local\/(scope.names.lookup y.1=some .cell/\((cellsFrom (s.heap.objs.size+1) scope.names []).lookup y.1).isSome=true):=λ⟨n,v⟩ hy=>by
  rcases S.par n (List.of_mem_zip hy).1 with q|q
  ·exact .inl q
  ·exact .inr ⟨q,PySem.W.cellsFrom_some _ _ _ (.inl q)⟩
 refine codeAny_call_function hr.depth (KX _ _ lk) rfl S.co S.gen rfl (PySem.W.codeRec_of KX hcd) (hb _ _ _ _ ?_);refine wpAny_newFunctionEnv_cells S.kind hkind λenv he s1 x=> ?_;subst he;refine⟨lim.keeps x.toInCall.keep,codeAny_func ?_⟩;obtain⟨t,ht,hq⟩:=hbody A outer s H vs Q E (hr.deeper _) hsp;have I:Inv (Qw CX P w K mg base N qual scope f cdv A outer s H E) [] (G0 N vs) H s1:=P8 S hr.hd e0 hl r x;refine Y8 (ht [] s1 (G0 N vs) H _ I hq) (λfl s' hs=> ?_) λe s' hs=>hs;have fin:∀{σ':St} {H':Hp} {v:V} {u:Value},Inv (Qw CX P w K mg base N qual scope f cdv A outer s H E) [] σ' H' s'->RelV v u->Q v H'->CE outer P w H s Q u s':=
  λ{σ' H' v u} J rv q=>⟨v,H',J.os,J.bare,J.base,J.hok,rv,q⟩
 cases fl with
 |ret u=>
  obtain⟨v,σ',H',J,rv,q⟩:=hs;exact fin J rv q
 |next=>
  obtain⟨σ',H',J,q⟩:=hs;exact fin (v:=V.non) (u:=Value.none) J rfl q
 |brk=>
  obtain⟨_,_,_,q⟩:=hs;exact False.elim q
 |cont=>
  obtain⟨_,_,_,q⟩:=hs;exact False.elim q
section
variable{X:Cx}{x:Str}{p pos:Pos}{e:Expr}{es:List Expr}{t:TA}{id T:String}{r:List V->Hp->VK->Prop}
def tCB(r:List V->Hp->VK->Prop)(t:TA):TE:=λσ H Q=>t σ H λvs H1=>r vs H1 Q
theorem An(hc:Ca X (.builtin id) r)(hg:Gl X x)(hm:X.mg x=none)(hv:bootBuiltins x=some (.builtin id))(ha:PA X (e::es) t)(hn:x≠"__name__":=by decide)(hdb:(x==("__debug__":Str))=false:=by decide)(he:starEach (e::es) X.env=(false,eval e X.env)::starEach es X.env:=by rfl)(hpl:(backTo pos (starEach es X.env)).any (·.1)=false:=by rfl):PE X (.Call (.Name x p) (e::es) [] pos) (tCB r t):=by
 intro pins s σ H Q I h;refine wpAny_Call_Name_kw (Fe I hg hm hv ?_ hn hdb);exact PyProof.Rows.callWith_builtin1 (thn (ha pos pins s σ H _ I h) λus s1 ⟨vs,H1,I1,r1,q1⟩=>hc pins s1 σ H1 vs us Q I1 r1 q1) he hpl
theorem Bd(hc:Ca X (.type T) r)(hg:Gl X x)(hm:X.mg x=none)(hv:bootBuiltins x=some (.type T))(ha:PA X (e::es) t)(hn:x≠"__name__":=by decide)(hdb:(x==("__debug__":Str))=false:=by decide)(he:starEach (e::es) X.env=(false,eval e X.env)::starEach es X.env:=by rfl)(hpl:(backTo pos (starEach es X.env)).any (·.1)=false:=by rfl):PE X (.Call (.Name x p) (e::es) [] pos) (tCB r t):=by
 intro pins s σ H Q I h;refine wpAny_Call_Name_kw (Fe I hg hm hv ?_ hn hdb);exact PyProof.Rows.callWith_type1 (thn (ha pos pins s σ H _ I h) λus s1 ⟨vs,H1,I1,r1,q1⟩=>hc pins s1 σ H1 vs us Q I1 r1 q1) he hpl
end
end L2
namespace HT
open PySem PyProof.Rows
section
variable{prog:Program}{w:World}{A:Around}{E:Value->Shared->Prop}{s:Shared}
theorem cat_tup{t b:Addr}{vs ws:List Value}{Q:Value->Shared->Prop}(ht:IsTup s.heap t vs.toArray)(hb:IsTup s.heap b ws.toArray)(hv:vs≠[])(h1:ws=[]->Q (.ref t) s)(h2:ws≠[]->Q (.ref s.heap.objs.size) {s with heap:=s.heap.push {cls:= .type "tuple",data:= .seq (vs++ws).toArray}})(hsz:vs.length+ws.length<=sizeLine):wpAny (model prog w) A (binaryOp .Add (.ref t) (.ref b)) Q E s:=by
 obtain⟨⟨cls,dd,data,sl⟩,ho,hc,n,hd⟩:=id ht;obtain⟨⟨cls2,dd2,data2,sl2⟩,ho2,hc2,n2,hd2⟩:=id hb;simp only at hc hd hc2 hd2;subst hc hd hc2 hd2;have e:vs.toArray++ws.toArray=(vs++ws).toArray:=by simp
 by_cases hw:ws=[]
 ·exact concat_meets ⟨_,ho,rfl⟩ ⟨_,ho2,rfl⟩ noFill_tuple_add seq_tuple_add slot_tuple_add entry_tuple_add (args_tuple_add_2 _ _)
   (tuple_addW1 t b vs.toArray ws.toArray n n2 dd dd2 sl sl2 (by simpa using hv) (by simp[hw])) ⟨ho,ho2,h1 hw⟩
 ·refine concat_meets ⟨_,ho,rfl⟩ ⟨_,ho2,rfl⟩ noFill_tuple_add seq_tuple_add slot_tuple_add entry_tuple_add (args_tuple_add_2 _ _)
   (tuple_addW2 t b vs.toArray ws.toArray n n2 dd dd2 sl sl2 (by simpa using hv) (by simpa using hw) (by rw[size_toArray,size_toArray];exact hsz)) ⟨ho,ho2,?_⟩
  rw[e];exact h2 hw
def sIx(n d:Nat):Option Int->Nat
 |none=>d
 |some v=>if v<0 then (v+(n:Int)).toNat else min v.toNat n
theorem sIx_none(n d:Nat):sIx n d none=d:=rfl
theorem sIx_nat(n d k:Nat):sIx n d (some (k:Int))=min k n:=by
 show (if (k:Int)<0 then ((k:Int)+(n:Int)).toNat else min (k:Int).toNat n)=min k n;rw[Lt (by omega),Int.toNat_natCast]
theorem Xh(n d:Nat)(hd:d<=n)(o:Option Int):sIx n d o<=n:=by
 cases o with
 |none=>exact hd
 |some v=>
  show (if v<0 then (v+(n:Int)).toNat else min v.toNat n)<=n;by_cases hv:v<0
  ·rw[Yf hv];omega
  ·rw[Lt hv];exact Nat.min_le_right _ _
theorem On(v:Int)(n d:Nat):(if v<0 then max (v+(n:Int)) 0 else min v (n:Int))=((sIx n d (some v):Nat):Int):=by
 show (if v<0 then max (v+(n:Int)) 0 else min v (n:Int))=(((if v<0 then (v+(n:Int)).toNat else min v.toNat n):Nat):Int);by_cases hv:v<0
 ·simp only[Yf hv];omega
 ·simp only[Lt hv];omega
theorem Nn(lo hi:Option Int)(n:Nat):Builtin.Slice.sliceAdjust lo hi 1 (n:Int)=(((sIx n 0 lo:Nat):Int),((sIx n n hi:Nat):Int)):=by
 have h1:¬((1:Int)<0):=by decide
 unfold Builtin.Slice.sliceAdjust;simp only[h1,Zl];refine Prod.ext ?_ ?_
 ·cases lo with
  |none=>rfl
  |some v=>exact On v n 0
 ·cases hi with
  |none=>rfl
  |some v=>exact On v n n
theorem Nb(i j:Nat):Builtin.Slice.slicePlaces (i:Int) (j:Int) 1=j - i:=by
 unfold Builtin.Slice.slicePlaces;have h1:(1:Int) > 0:=by decide
 simp only[h1,if_true,Int.ediv_one];split<;> omega
theorem Iq{v:Value}{o:Option Int}{Q:Option Int->Shared->Prop}(p:IsPart v o)(h:Q o s):wpAny (model prog w) A (Builtin.Slice.slicePartIndex v) Q E s:=by
 cases p with
 |none=>exact slicePart_none h
 |int i t=>exact slicePart_int h
theorem Dl{sl:Addr}{vl vu:Value}{lo hi:Option Int}{n:Nat}{Q:Int×Int×Nat->Shared->Prop}(hs:s.heap.IsSliceOf sl vl vu .none)(pl:IsPart vl lo)(pu:IsPart vu hi)(h:Q (((sIx n 0 lo:Nat):Int),1,sIx n n hi - sIx n 0 lo) s):wpAny (model prog w) A (Builtin.Slice.sliceApplied (.ref sl) (pure (n:Int))) Q E s:=by
 obtain⟨os,hos,hcs,hds⟩:=id hs;unfold Builtin.Slice.sliceApplied Builtin.Slice.sliceFields;refine Gt (Gt (wpAny_field hos hds (x:=vl) rfl (Gt (wpAny_field hos hds (x:=vu) rfl (Gt (wpAny_field hos hds (x:= .none) rfl (Yg ?_)))))));refine Gt (slicePart_none ?_);show wpAny _ _ (if ((1:Int)==0)=true then _ else _) _ _ s;rw[Lt (by decide)];refine Gt (Iq pl (Gt (Iq pu (Gt (Yg ?_)))));show wpAny _ _ (match Builtin.Slice.sliceAdjust lo hi 1 (n:Int) with|(lo,hi)=>pure (lo,(1:Int),Builtin.Slice.slicePlaces lo hi 1)) _ _ s;rw[Nn lo hi n];show wpAny _ _ (pure (((sIx n 0 lo:Nat):Int),(1:Int),Builtin.Slice.slicePlaces ((sIx n 0 lo:Nat):Int) ((sIx n n hi:Nat):Int) 1)) _ _ s;rw[Nb];exact Yg h
theorem Se(xs:Array Value)(i k:Nat):((List.range k).filterMap λ(m:Nat)=>xs[((i:Int)+(m:Int) * 1).toNat]?).toArray=((xs.toList.drop i).take k).toArray:=by
 have e:(λ(m:Nat)=>xs[((i:Int)+(m:Int) * 1).toNat]?)=λm=>xs[i+m]? :=by
  funext m
  have:((i:Int)+(m:Int) * 1).toNat=i+m:=by omega
  rw[this]
 rw[e];have:=pick_run xs i k;rw[List.filterMap_map] at this;have e2:((λx=>xs[x]?)∘λx=>i+x)=λm=>xs[i+m]? :=rfl;rw[e2] at this;rw[this]
theorem getItem_tuple_cut{t sl:Addr}{items:Array Value}{vl vu:Value}{lo hi:Option Int}{Q:Value->Shared->Prop}(ht:IsTup s.heap t items)(hs:s.heap.IsSliceOf sl vl vu .none)(pl:IsPart vl lo)(pu:IsPart vu hi)(hw:¬(sIx items.size 0 lo=0/\sIx items.size items.size hi=items.size))(h:Q (.ref s.heap.objs.size) {s with heap:=s.heap.push {cls:= .type "tuple",data:= .seq ((items.toList.drop (sIx items.size 0 lo)).take (sIx items.size items.size hi - sIx items.size 0 lo)).toArray}})(hsz:items.size<=sizeLine):wpAny (model prog w) A (getItem (.ref t) (.ref sl)) Q E s:=by
 have htake:sizeOk (.seq ((items.toList.drop (sIx items.size 0 lo)).take (sIx items.size items.size hi - sIx items.size 0 lo)).toArray):=by
  show ((items.toList.drop (sIx items.size 0 lo)).take (sIx items.size items.size hi - sIx items.size 0 lo)).toArray.size<=sizeLine;rw[size_toArray,Yo,List.length_drop,length_toList];omega
 have hj:sIx items.size items.size hi<=items.size:=Xh _ _ (le_refl _) hi;obtain⟨os,hos,hcs,hds⟩:=id hs;have hTs:s.TypeIs (.ref sl) "slice":=⟨os,hos,hcs⟩
 unfold getItem
 try with_reducible refine Y5 ?_
 first|refine Gt (Yg ?_)|skip
 refine Gt (wpAny_sequenceKey ht.typeIs (by decide) ?_);refine Gt (Zf (name:=Str.ofString "__getitem__") ht.typeIs PyProof.Rows.slot_tuple_getitem
  (wpAny_call_entry PyProof.Rows.slot_tuple_getitem ht.typeIs entry_tuple_getitem ?_ (args_tuple_getitem _ _)))
 show wpAny _ _ (Builtin.Tuple.tupleItemsOf (.ref t) >>=_) _ _ s;refine Gt (tupleItemsOf_ ht ?_);refine Gt (wpAny_typeOf hTs ?_);rw[Yf (by decide)];refine Gt (Dl hs pl pu ?_);have hno:¬((((sIx items.size 0 lo:Nat):Int)==0 && (1:Int)==1 && (sIx items.size items.size hi - sIx items.size 0 lo)==items.size)=true):=by
  intro q;rw[and_eq_true,and_eq_true] at q;have q1:((sIx items.size 0 lo:Nat):Int)=0:=eq_of_beq q.1.1;have q2:sIx items.size items.size hi - sIx items.size 0 lo=items.size:=eq_of_beq q.2;exact hw ⟨by omega,by omega⟩
 show wpAny _ _ (if (((sIx items.size 0 lo:Nat):Int)==0 && (1:Int)==1 && (sIx items.size items.size hi - sIx items.size 0 lo)==items.size)=true then _ else _) _ _ s;rw[Lt hno,Se]
 first
  |exact Gt (m:=Builtin.Tuple.tupleExact _) (Yw (Yg ⟨_,rfl,Yg h⟩) htake)
  |exact Gt (m:=Builtin.Tuple.tupleExact _) (Yw (Gt (Yg (Yg ⟨_,rfl,Yg h⟩))) htake)
  |exact Gt (Gt (m:=Builtin.Tuple.tupleExact _) (Yw (Yg (Yg ⟨_,rfl,Yg h⟩)) htake))
  |exact Gt (Gt (m:=Builtin.Tuple.tupleExact _) (Yw (Yg ⟨_,rfl,Yg h⟩) htake))
end
end HT
namespace L2
open PySem PySem.Spec PyProof.Rows
abbrev TO:=St->Hp->(Option Int->Hp->Prop)->Prop
def PO(X:Cx)(e:Option Expr)(t:TO):Prop:=
 ∀(pins:List (Addr×Obj)) (s:Shared) (σ:St) (H:Hp) (Q:Option Int->Hp->Prop),Inv X pins σ H s->t σ H Q->
  wpAny (model X.prog X.w) X.A (evalPart e X.env) (λu s'=>∃o H',Inv X pins σ H' s'/\IsPart u o/\Q o H') X.xe s
def Oi:TO:=λ_ H Q=>Q none H
def Wh(t:TE):TO:=λσ H Q=>t σ H λx H1=>∃i,x= .int i/\Q (some i) H1
theorem Ob{ns:List Int}:∀{us:List Value},Vals (ns.map V.int) us->IntsAre us ns:=by
 induction ns with
 |nil=>intro us r;rw[map_nil] at r;cases r;exact .nil
 |cons n ns ih=>
  intro us r;rw[Yp] at r;cases r with
  |cons r1 r2=>
   obtain⟨t,e⟩:=r1;subst e;exact .cons n t (ih r2)
section
variable{X:Cx}{e:Expr}{te:TE}{lo hi:Option Expr}{tl th:TO}{pos p2:Pos}
theorem Cv:PO X none Oi:=by
 intro pins s σ H Q I h;rw[evalPart_none];exact Yg ⟨none,H,I,.none,h⟩
theorem Cj(h:PE X e te):PO X (some e) (Wh te):=by
 intro pins s σ H Q I hw;rw[evalPart_some];refine thn (h pins s σ H _ I hw) λu s1 ⟨x,H1,I1,r1,q1⟩=> ?_;obtain⟨i,rfl,q⟩:=q1;obtain⟨t,rfl⟩:=r1;exact⟨some i,H1,I1,.int i t,q⟩
def SlR(X:Cx)(r:V->Option Int->Option Int->Hp->VK->Prop):Prop:=
 ∀(pins:List (Addr×Obj)) (s:Shared) (σ:St) (H:Hp) (x:V) (v vl vu:Value) (lo hi:Option Int) (sl:Addr) (Q:VK),Inv X pins σ H s->RelV x v->s.heap.IsSliceOf sl vl vu .none->IsPart vl lo->IsPart vu hi->r x lo hi H Q->
  ∃T id,typeLookup (.type T) "__getitem__"=pure (some (.builtin id))/\s.TypeIs v T/\wpAny (model X.prog X.w) X.A (getItem v (.ref sl)) (EP X pins σ Q) X.xe s
def tSl(r:V->Option Int->Option Int->Hp->VK->Prop)(te:TE)(tl th:TO):TE:=λσ H Q=>te σ H λx H1=>tl σ H1 λl H2=>th σ H2 λu H3=>r x l u H3 Q
theorem Cb{r:V->Option Int->Option Int->Hp->VK->Prop}(hr:SlR X r)(he:PE X e te)(hl:PO X lo tl)(hu:PO X hi th):PE X (.Subscript e (.Slice lo hi none p2) pos) (tSl r te tl th):=by
 intro pins s σ H Q I h;refine Subscript_ (thn (he pins s σ H _ I h) λv s1 ⟨x,H1,I1,r1,q1⟩=> ?_);refine wpAny_Slice (thn (hl pins s1 σ H1 _ I1 q1) λvl s2 ⟨l,H2,I2,pl,q2⟩=>thn (hu pins s2 σ H2 _ I2 q2) λvu s3 ⟨u,H3,I3,pu,q3⟩=> ?_);rw[evalPart_none];refine Yg ?_;have I4:Inv X pins σ H3 {s3 with heap:=s3.heap.push {cls:= .type "slice",data:= .fields #[vl,vu,.none]}}:=I3.kept (t':=s3.toks) λb ob q=>Is _ q;obtain⟨T,id,hT,ht,hg⟩:=hr pins {s3 with heap:=s3.heap.push {cls:= .type "slice",data:= .fields #[vl,vu,.none]}} σ H3 x v vl vu l u s3.heap.objs.size Q I4 r1 (Heap.IsSliceOf.new ..) pl pu q3;show wpAny (model X.prog X.w) X.A (subscriptTail e (.Slice lo hi none p2) v (.ref s3.heap.objs.size)) (EP X pins σ Q) X.xe {s3 with heap:=s3.heap.push {cls:= .type "slice",data:= .fields #[vl,vu,.none]}};exact tail_any (ops:=[.ref s3.heap.objs.size,v]) ht hT hg (by with_unfolding_all rfl)
def Da(xs:List V)(lo hi:Option Int):List V:=(xs.drop (HT.sIx xs.length 0 lo)).take (HT.sIx xs.length xs.length hi - HT.sIx xs.length 0 lo)
theorem G6(xs:List V)(lo hi:Option Int):(Da xs lo hi).length<=xs.length:=by
 unfold Da;rw[Yo,List.length_drop];omega
inductive Wc(K:Frag)(x:V)(lo:Option Int)(hi:Option Int)(H:Hp)(Q:VK):Prop
 |mk (a xs:_):(x= .ref a)->(SqT K H a xs)->(¬(HT.sIx xs.length 0 lo=0/\HT.sIx xs.length xs.length hi=xs.length))->(∀p,H p=none->Q (.ref p) (upd H p (.tup (Da xs lo hi))))->Wc K x lo hi H Q
def rSlT(K:Frag):V->Option Int->Option Int->Hp->VK->Prop:=λx lo hi H Q=>Wc K x lo hi H Q
theorem Kx:SlR X (rSlT X.K):=by
 intro pins s σ H x v vl vu lo hi sl Q I rx hs pl pu h;obtain⟨a,xs,rfl,hx,hw,q⟩:=h;cases rx;obtain⟨its,r,ht,hz⟩:=I.tuple hx;have hlen:its.toArray.size=xs.length:=by rw[size_toArray];exact r.length.symm
 refine⟨"tuple",_,PyProof.Rows.slot_tuple_getitem.lookup,ht.typeIs,?_⟩;refine HT.getItem_tuple_cut ht hs pl pu (by rw[hlen];exact hw) ?_ (by rw[hlen];exact hz);rw[hlen];refine⟨.ref s.heap.objs.size,_,I.laid (t':=s.toks) (o:= .tup (Da xs lo hi)) (λb ob q=>Is _ q) (le_refl _) ?_,rfl,q _ (I.hok.fresh (le_refl _))⟩;exact⟨le_trans (G6 xs lo hi) hz,_,(r.drop (HT.sIx xs.length 0 lo)).take (HT.sIx xs.length xs.length hi - HT.sIx xs.length 0 lo),IsTupN.new _ _⟩
theorem Vals.nil_iff{xs:List V}{us:List Value}(r:Vals xs us):us=[]↔xs=[]:=by
 cases r with
 |nil=>simp
 |cons _ _=>simp
end
def ixN(n:Nat)(i:Int):Option Nat:=if 0<=i then (if i<n then some i.toNat else none) else if -(n:Int)<=i then some (i+n).toNat else none
def atI{α:Type}(xs:List α)(i:Int):Option α:=(ixN xs.length i).bind λj=>xs[j]?
theorem Pc{n:Nat}{i:Int}{j:Nat}(h:ixN n i=some j):seqIndex? i n=some j/\j<n/\ -(n:Int)<=i/\i<n:=by
 unfold ixN at h;by_cases h0:0<=i
 ·rw[Yf h0] at h;by_cases h1:i<n
  ·rw[Yf h1] at h;have e:i.toNat=j:=Option.some.inj h;exact⟨by rw[seqIndex_of h0 h1,e],by omega,by omega,h1⟩
  ·rw[Lt h1] at h;cases h
 ·rw[Lt h0] at h;by_cases h1: -(n:Int)<=i
  ·rw[Yf h1] at h;have e:(i+n).toNat=j:=Option.some.inj h;exact⟨by rw[seqIndex_neg (by omega) h1,e],by omega,h1,by omega⟩
  ·rw[Lt h1] at h;cases h
theorem Kz{α:Type}{xs:List α}{i:Int}{v:α}(h:atI xs i=some v):∃j,seqIndex? i xs.length=some j/\xs[j]? =some v/\j<xs.length/\ -(xs.length:Int)<=i/\i<xs.length:=by
 unfold atI at h;cases e:ixN xs.length i with
 |none=>rw[e] at h;cases h
 |some j=>
  rw[e] at h;obtain⟨h1,h2,h3,h4⟩:=Pc e;exact⟨j,h1,h,h2,h3,h4⟩
theorem Ak{α:Type}{xs:List α}{j:Nat}{v:α}(h:xs[j]? =some v):atI xs (j:Int)=some v:=by
 have hj:j<xs.length:=(List.getElem?_eq_some_iff.mp h).1;have e:ixN xs.length (j:Int)=some j:=by
  unfold ixN;rw[Yf (by exact Int.natCast_nonneg _),Yf (by omega)];simp
 unfold atI;rw[e];exact h
def Pn(b:Expr):Prop:=∀o i,subscripted b false o i=operate [o,i] (getItem o i)
def IxR(X:Cx)(r:R2):Prop:=
 ∀(value slice:Expr) (pins:List (Addr×Obj)) (s:Shared) (σ:St) (H:Hp) (x y:V) (v u:Value) (Q:VK),Inv X pins σ H s->RelV x v->RelV y u->r x y H Q->
  subscripted slice false v u=operate [v,u] (getItem v u)->wpAny (model X.prog X.w) X.A (subscriptTail value slice v u) (EP X pins σ Q) X.xe s
def MtR(X:Cx)(id:String)(r:V->List V->Hp->VK->Prop):Prop:=
 ∀(pins:List (Addr×Obj)) (s:Shared) (σ:St) (H:Hp) (x:V) (xs:List V) (v:Value) (us:List Value) (Q:VK),Inv X pins σ H s->RelV x v->Vals xs us->r x xs H Q->
  wpAny (model X.prog X.w) X.A (call (.builtin id) (v::us)) (EP X pins σ Q) X.xe s
section
variable{X:Cx}{a b:Expr}{ta tb:TE}{pos:Pos}
theorem Ax{r:R2}(hr:IxR X r)(ha:PE X a ta)(hb:PE X b tb)(hs:Pn b):PE X (.Subscript a b pos) (tOp r ta tb):=by
 intro pins s σ H Q I h;exact Subscript_ (Xc ha hb I h λv u s2 x y H2 I2 rx ry q=>hr a b pins s2 σ H2 x y v u Q I2 rx ry q (hs _ _))
inductive Wt(K:Frag)(x:V)(y:V)(H:Hp)(Q:VK):Prop
 |mk (p xs i v:_):(x= .ref p)->(y= .int i)->(SqL K H p xs)->(atI xs i=some v)->(Q v H)->Wt K x y H Q
def rIxL(K:Frag):R2:=λx y H Q=>Wt K x y H Q
inductive Wf(K:Frag)(x:V)(y:V)(H:Hp)(Q:VK):Prop
 |mk (p xs i v:_):(x= .ref p)->(y= .int i)->(SqT K H p xs)->(atI xs i=some v)->(Q v H)->Wf K x y H Q
def V5(K:Frag):R2:=λx y H Q=>Wf K x y H Q
inductive We(x:V)(y:V)(H:Hp)(Q:VK):Prop
 |mk (z i c:_):(x= .str z)->(y= .int i)->(z.length<=sizeLine)->(atI z.cps.toList i=some c)->(Q (.str ⟨#[c]⟩) H)->We x y H Q
def rIxS:R2:=λx y H Q=>We x y H Q
theorem Ba:IxR X (rIxL X.K):=by
 intro value slice pins s σ H x y v u Q I rx ry h hs;obtain⟨p,xs,i,z,rfl,rfl,hq,he,q⟩:=h;cases rx;obtain⟨t,rfl⟩:=ry;obtain⟨its,r,pl,hz⟩:=I.list hq;obtain⟨j,h1,h2,h3,h4,h5⟩:=Kz he;obtain⟨w,ew,rw'⟩:=r.get h2;have hl:=r.length;have hn:=Fb;have fin:EP X pins σ Q w s:=⟨z,H,I,rw',q⟩
 by_cases h0:0<=i
 ·have hj:i.toNat=j:=by
   rw[seqIndex_of h0 h5] at h1;exact Option.some.inj h1
  exact item_listR pl.isList h0 (by omega) (by rw[hj];simpa using ew) fin hs
 ·have hj:(i+(its.toArray.size:Int)).toNat=j:=by
   rw[seqIndex_neg (by omega) h4] at h1;rw[size_toArray,<-hl];exact Option.some.inj h1
  exact subscriptTail_builtinR (x:=w) pl.isList.typeIs slot_list_getitem.lookup
   (wpAny_getItem_list_neg (Q:=λr s'=>r=w/\EP X pins σ Q r s') pl.isList (by omega) (by rw[size_toArray]<;> omega) (by omega) (by rw[hj];simpa using ew) ⟨rfl,fin⟩) hs
theorem A3:IxR X (V5 X.K):=by
 intro value slice pins s σ H x y v u Q I rx ry h hs;obtain⟨p,xs,i,z,rfl,rfl,hq,he,q⟩:=h;cases rx;obtain⟨t,rfl⟩:=ry;obtain⟨its,r,pl,hz⟩:=I.tuple hq;obtain⟨j,h1,h2,h3,h4,h5⟩:=Kz he;obtain⟨w,ew,rw'⟩:=r.get h2;have hl:=r.length;have hn:=Fb;have fin:EP X pins σ Q w s:=⟨z,H,I,rw',q⟩
 exact subscriptTail_builtinR (x:=w) pl.typeIs slot_tuple_getitem.lookup
  (getItem_tuple (j:=j) (Q:=λr s'=>r=w/\EP X pins σ Q r s') pl (by omega) (by omega) (by rw[size_toArray,<-hl];exact h1) (by simpa using ew) ⟨rfl,fin⟩) hs
theorem K5:IxR X rIxS:=by
 intro value slice pins s σ H x y v u Q I rx ry h hs;obtain⟨z,i,c,rfl,rfl,hz,he,q⟩:=h;obtain⟨t,rfl⟩:=rx;obtain⟨t',rfl⟩:=ry;obtain⟨j,h1,h2,h3,h4,h5⟩:=Kz he;have hl:z.cps.toList.length=z.length:=by simp[Str.length]
 rw[hl] at h1 h4 h5;have hn:=Fb;exact tail_any (typeIs_str s z t) slot_str_getitem.lookup (getItem_str (c:=c) (by
  have e1:decide (i< -(2 ^ 63:Int))=false:=decide_eq_false (by omega);have e2:decide (i ≥ 2 ^ 63)=false:=decide_eq_false (by omega);rw[e1,e2,Bool.or_false]) (by rw[h1];simpa using h2) ⟨.str ⟨#[c]⟩,H,I.tok _,⟨_,rfl⟩,q⟩) hs
theorem M9(its:List Value)(n j:Nat)(u:Value):Obj.mapSeq (·.setIfInBounds j u) {cls:= .type "list",data:= .seq its.toArray n}={cls:= .type "list",data:= .seq (its.set j u).toArray n}:=by
 simp[Obj.mapSeq]
theorem Inv.lst{pins:List (Addr×Obj)}{σ:St}{H:Hp}{s:Shared}{p:Addr}{xs:List V}(I:Inv X pins σ H s)(h:H p=some (.lst xs)):
  ∃(its:List Value) (n:Nat),Vals xs its/\s.heap.get? p=some {cls:= .type "list",data:= .seq its.toArray n}/\xs.length<=sizeLine:=by
 obtain⟨z,its,n,r,e⟩:=I.hok p _ h;exact⟨its,n,r,e,z⟩
theorem Inv.lstUpd{pins:List (Addr×Obj)}{σ:St}{H:Hp}{s:Shared}{p:Addr}{xs ys:List V}{its its':List Value}{n n':Nat}{f:Obj->Obj}(I:Inv X pins σ H s)(h:H p=some (.lst xs))(ho:s.heap.get? p=some {cls:= .type "list",data:= .seq its.toArray n})(hf:f {cls:= .type "list",data:= .seq its.toArray n}={cls:= .type "list",data:= .seq its'.toArray n'})(r:Vals ys its')(hz:ys.length<=sizeLine)(t:Nat):
  Inv X pins σ (upd H p (.lst ys)) {s with heap:=s.heap.update p f,toks:=t}:=by
 have e:(s.heap.update p f).get? p=some {cls:= .type "list",data:= .seq its'.toArray n'}:=by
  rw[Heap.get?_update_self f ho (by rw[hf]<;> rfl),hf]
 refine I.write (x:=p) (e:=p) (by rw[h];trivial) (.inl rfl) (λb u hb q=>(Heap.get?_update_other _ _ (Ne.symm hb)).trans q) ⟨_,e⟩ ?_;exact⟨hz,its',n',r,e⟩
inductive Uj(o:V)(i:V)(v:V)(H:Hp)(Q:(Hp->Prop)):Prop
 |mk (p xs k j:_):(o= .ref p)->(i= .int k)->(H p=some (.lst xs))->(ixN xs.length k=some j)->(Q (upd H p (.lst (xs.set j v))))->Uj o i v H Q
def rSetL:V->V->V->Hp->(Hp->Prop)->Prop:=λo i v H Q=>Uj o i v H Q
theorem Fp:PSet X rSetL:=by
 intro pins s σ H o i v ov iv u Q I ro ri rv h;obtain⟨p,xs,k,j,rfl,rfl,hp,hj,q⟩:=h;cases ro;obtain⟨t,rfl⟩:=ri;obtain⟨its,n,r,ho,hz⟩:=I.lst hp;obtain⟨h1,h2,h3,h4⟩:=Pc hj;have hl:=r.length;have hn:=Fb;have I':Inv X pins σ (upd H p (.lst (xs.set j v))) {s with heap:=s.heap.update p (Obj.mapSeq (·.setIfInBounds j u))}:=
  I.lstUpd hp ho (M9 its n j u) (r.set rv j) (by rw[List.length_set];exact hz) s.toks
 by_cases h0:0<=k
 ·have hk:k.toNat=j:=by
   rw[seqIndex_of h0 h4] at h1;exact Option.some.inj h1
  exact PySem.W.ki_setAt ho h0 (by omega) (by rw[size_toArray,<-hl];exact h4) (by rw[hk];exact⟨_,I',q⟩)
 ·have hk:(k+(its.toArray.size:Int)).toNat=j:=by
   rw[seqIndex_neg (by omega) h3] at h1;rw[size_toArray,<-hl];exact Option.some.inj h1
  exact PySem.W.ki_setBack ho (by omega) (by rw[size_toArray,<-hl];exact h3) (by omega) (by rw[hk];exact⟨_,I',q⟩)
theorem Kp(lo hi:Option Int)(n:Nat):(sliceBounds lo hi none n).1=((HT.sIx n 0 lo:Nat):Int)/\(sliceBounds lo hi none n).2.1=((HT.sIx n n hi:Nat):Int)/\(sliceBounds lo hi none n).2.2=1:=by
 refine⟨?_,?_,rfl⟩
 ·cases lo with
  |none=>simp[sliceBounds,HT.sIx]
  |some i=>
   simp only[sliceBounds,HT.sIx,Option.getD_none,show (1:Int) > 0 by decide,if_true];by_cases h:i<0
   ·simp only[h,if_true]<;> omega
   ·simp only[h,Zl]<;> omega
 ·cases hi with
  |none=>simp[sliceBounds,HT.sIx]
  |some i=>
   simp only[sliceBounds,HT.sIx,Option.getD_none,show (1:Int) > 0 by decide,if_true];by_cases h:i<0
   ·simp only[h,if_true]<;> omega
   ·simp only[h,Zl]<;> omega
theorem Jr(its:List Value)(lo hi:Option Int):slicePick its.toArray lo hi none=((its.drop (HT.sIx its.length 0 lo)).take (HT.sIx its.length its.length hi - HT.sIx its.length 0 lo)).toArray:=by
 obtain⟨h1,h2,h3⟩:=Kp lo hi its.toArray.size;unfold slicePick;rw[h1,h2,h3];simp only[sliceRange_one,pick_run,size_toArray]<;> rfl
inductive Wm(K:Frag)(x:V)(lo:Option Int)(hi:Option Int)(H:Hp)(Q:VK):Prop
 |mk (a xs:_):(x= .ref a)->(SqL K H a xs)->(∀p,H p=none->Q (.ref p) (upd H p (.lst (Da xs lo hi))))->Wm K x lo hi H Q
def rSlL(K:Frag):V->Option Int->Option Int->Hp->VK->Prop:=λx lo hi H Q=>Wm K x lo hi H Q
theorem Oy:SlR X (rSlL X.K):=by
 intro pins s σ H x v vl vu lo hi sl Q I rx hs pl pu h;obtain⟨a,xs,rfl,hx,q⟩:=h;cases rx;obtain⟨its,r,ht,hz⟩:=I.list hx;have hlen:=r.length;refine⟨"list",_,slot_list_getitem.lookup,ht.isList.typeIs,?_⟩;refine wpAny_getItem_list_slice ht.isList hs pl pu .none (by simp) ?_ (by rw[size_toArray]<;> omega);rw[Jr,<-hlen];refine⟨.ref s.heap.objs.size,_,I.laid (t':=s.toks) (o:= .lst (Da xs lo hi)) (λb ob q=>Is _ q) (le_refl _) ?_,rfl,q _ (I.hok.fresh (le_refl _))⟩;exact⟨le_trans (G6 xs lo hi) hz,_,0,(r.drop (HT.sIx xs.length 0 lo)).take (HT.sIx xs.length xs.length hi - HT.sIx xs.length 0 lo),Yi _ rfl⟩
def Fx:V->Bool
 | .non=>true
 | .bl _=>true
 | .int _=>true
 | .str _=>true
 |_=>false
def eqV:V->V->Bool
 | .non,.non=>true
 | .bl a,.bl b=>a==b
 | .bl a,.int b=>(if a then 1 else 0)==b
 | .int a,.bl b=>a==(if b then 1 else 0)
 | .int a,.int b=>a==b
 | .str a,.str b=>a==b
 |_,_=>false
theorem Xz{A:Around}{s:Shared}{y x:V}{u v:Value}(ry:RelV y u)(rx:RelV x v)(fy:Fx y=true)(fx:Fx x=true):SeqAt.EqAt A s u v (eqV y x):=by
 cases y with
 |non=>
  cases ry;cases x with
  |non=>cases rx;exact SeqAt.EqAt.same _
  |bl b=>cases rx;exact SeqAt.EqAt.none_bool b
  |int b=>obtain⟨t,rfl⟩:=rx;exact SeqAt.EqAt.none_int b t
  |str b=>obtain⟨t,rfl⟩:=rx;exact SeqAt.EqAt.none_str b t
  |_=>exact absurd (show false=true from fx) Bool.false_ne_true
 |bl a=>
  cases ry;cases x with
  |non=>cases rx;exact SeqAt.EqAt.bool_none a
  |bl b=>cases rx;exact SeqAt.EqAt.bool_bool a b
  |int b=>obtain⟨t,rfl⟩:=rx;exact SeqAt.EqAt.bool_int a b t
  |str b=>obtain⟨t,rfl⟩:=rx;exact SeqAt.EqAt.bool_str a b t
  |_=>exact absurd (show false=true from fx) Bool.false_ne_true
 |int a=>
  obtain⟨t',rfl⟩:=ry;cases x with
  |non=>cases rx;exact SeqAt.EqAt.int_none a t'
  |bl b=>cases rx;exact SeqAt.EqAt.int_bool a t' b
  |int b=>obtain⟨t,rfl⟩:=rx;exact SeqAt.EqAt.int_int a t' b t
  |str b=>obtain⟨t,rfl⟩:=rx;exact SeqAt.EqAt.int_str a t' b t
  |_=>exact absurd (show false=true from fx) Bool.false_ne_true
 |str a=>
  obtain⟨t',rfl⟩:=ry;cases x with
  |non=>cases rx;exact SeqAt.EqAt.str_none a t'
  |bl b=>cases rx;exact SeqAt.EqAt.str_bool a t' b
  |int b=>obtain⟨t,rfl⟩:=rx;exact SeqAt.EqAt.str_int a t' b t
  |str b=>obtain⟨t,rfl⟩:=rx;exact SeqAt.EqAt.str_str a t' b t
  |_=>exact absurd (show false=true from fx) Bool.false_ne_true
 |_=>exact absurd (show false=true from fy) Bool.false_ne_true
def eqU(x:V)(u:Value):Bool:=match u with
 | .none=>eqV .non x
 | .bool b=>eqV (.bl b) x
 | .int i _=>eqV (.int i) x
 | .str z _=>eqV (.str z) x
 |_=>false
theorem Te{x y:V}{u:Value}(r:RelV y u)(f:Fx y=true):eqU x u=eqV y x:=by
 cases y with
 |non=>cases r;rfl
 |bl b=>cases r;rfl
 |int i=>obtain⟨t,rfl⟩:=r;rfl
 |str z=>obtain⟨t,rfl⟩:=r;rfl
 |_=>exact absurd (show false=true from f) Bool.false_ne_true
theorem Lj{x:V}:∀{xs:List V} {us:List Value},Vals xs us->xs.all Fx=true->us.any (eqU x)=xs.any λy=>eqV y x
 |_,_,.nil,_=>rfl
 |y::xs,u::us,.cons r t,f=>by
  rw[all_cons,and_eq_true] at f;rw[any_cons,any_cons,Te r f.1,Lj t f.2]
theorem Im{A:Around}{s:Shared}{x:V}{v:Value}(rx:RelV x v)(fx:Fx x=true):∀{xs:List V} {us:List Value},Vals xs us->xs.all Fx=true->∀u∈us,SeqAt.EqAt A s u v (eqU x u)
 |_,_,.nil,_=>λu hu=>by cases hu
 |y::xs,u::us,.cons r t,f=>λu' hu=>by
  rw[all_cons,and_eq_true] at f;rcases Ym.mp hu with rfl|hu
  ·rw[Te r f.1];exact Xz r rx f.1 fx
  ·exact Im rx fx t f.2 u' hu
def inV(x:V)(xs:List V):Bool:=xs.any λy=>eqV y x
inductive RInP(K:Frag)(neg:Bool)(x:V)(y:V)(H:Hp)(Q:VK):Prop
 |mk (p xs:_):(y= .ref p)->((SqL K H p xs\/SqT K H p xs))->(Fx x=true)->(xs.all Fx=true)->(Q (.bl (if neg then !inV x xs else inV x xs)) H)->RInP K neg x y H Q
def rIn(K:Frag)(neg:Bool):R2:=λx y H Q=>RInP K neg x y H Q
theorem Dm:OpR X (compareOp .In) (rIn X.K false):=by
 intro pins s σ H x y v u Q I rx ry h;obtain⟨p,xs,rfl,hq,fx,fs,q⟩:=h;cases ry;rcases hq with hq|hq
 ·obtain⟨its,r,pl,hz⟩:=I.list hq;refine SeqAt.in_listAt (eqU x) pl.isList (λw hw=>Im rx fx r fs w (by simpa using hw)) ⟨.bl _,H,I,rfl,?_⟩;rw[show its.toArray.any (eqU x)=its.any (eqU x) by simp,Lj r fs];exact q
 ·obtain⟨its,r,pl,hz⟩:=I.tuple hq;refine SeqAt.in_tupleAt (eqU x) pl (λw hw=>Im rx fx r fs w (by simpa using hw)) ⟨.bl _,H,I,rfl,?_⟩;rw[show its.toArray.any (eqU x)=its.any (eqU x) by simp,Lj r fs];exact q
theorem A7:Ca X (.builtin "len") (λxs H Q=>∃p ys,xs=[.ref p]/\(SqL X.K H p ys\/SqT X.K H p ys)/\Q (.int ys.length) H):=by
 intro pins s σ H xs us Q I r h;obtain⟨p,ys,rfl,hq,q⟩:=h;obtain⟨u,rfl,rx⟩:=Ck r;cases rx;have hn:=Fb;rcases hq with hq|hq
 ·obtain⟨its,r',pl,hz⟩:=I.list hq;have hlen:=r'.length;exact Calls.call_len_list pl.isList (by simp only[size_toArray]<;> omega) ⟨.int ys.length,H,I.tok _,⟨s.toks+1,by rw[size_toArray,hlen]⟩,q⟩
 ·obtain⟨its,r',pl,hz⟩:=I.tuple hq;have hlen:=r'.length;exact len_tuple pl (by simp only[size_toArray]<;> omega) ⟨.int ys.length,H,I.tok _,⟨s.toks+1,by rw[size_toArray,hlen]⟩,q⟩
theorem K8:Ca X (.builtin "len") (λxs H Q=>∃z,xs=[.str z]/\z.length<=sizeLine/\Q (.int z.length) H):=by
 intro pins s σ H xs us Q I r h;obtain⟨z,rfl,hz,q⟩:=h;obtain⟨u,rfl,t,rfl⟩:=Ck r;have hn:=Fb;exact len_str (by omega) ⟨.int z.length,H,I.tok _,⟨_,rfl⟩,q⟩
theorem A9:Ca X (.type "tuple") (λxs H Q=>∃p ys,xs=[.ref p]/\((SqL X.K H p ys/\∀l,H l=none->Q (.ref l) (upd H l (.tup ys)))\/(SqT X.K H p ys/\Q (.ref p) H))):=by
 intro pins s σ H xs us Q I r h;obtain⟨p,ys,rfl,h⟩:=h;obtain⟨u,rfl,rx⟩:=Ck r;cases rx;rcases h with⟨hq,q⟩|⟨hq,q⟩
 ·obtain⟨its,r',pl,hz⟩:=I.list hq;have hlen:=r'.length;refine call_tuple_list pl.isList (λh' kp=> ?_) (by simp only[size_toArray]<;> omega);have I1:Inv X pins σ H {s with heap:=h'}:=I.kept (t':=s.toks) kp;have I2:Inv X pins σ (upd H h'.objs.size (.tup ys)) {s with heap:=h'.push {cls:= .type "tuple",data:= .seq its.toArray}}:=
   I1.laid (t':=s.toks) (λb o e=>Is _ e) (le_refl _) (show ObjOk X.prog X.w _ _ _ (.tup ys) from⟨hz,its,r',IsTupN.new _ _⟩)
  exact⟨.ref h'.objs.size,_,I2,rfl,q _ (I1.hok.fresh (le_refl _))⟩
 ·obtain⟨its,r',pl,hz⟩:=I.tuple hq;exact call_tuple_same pl ⟨.ref p,H,I,rfl,q⟩
def tyV(K:Frag)(T:String)(x:V)(H:Hp):Prop:=match x with
 | .str _=>T="str"
 | .int _=>T="int"
 | .ref p=>(T="list"/\∃xs,SqL K H p xs)\/(T="tuple"/\((∃o,K.lookup p=some o/\o.cls= .type "tuple"/\o.dict=none)\/∃xs,H p=some (.tup xs)))\/
   (T="dict"/\((∃kvs,H p=some (.dK kvs))\/∃kvs,H p=some (.dT kvs)))\/(T="set"/\∃S n,H p=some (.set S n))
 |_=>False
theorem Xv{pins:List (Addr×Obj)}{σ:St}{H:Hp}{s:Shared}{T:String}{x:V}{v:Value}(I:Inv X pins σ H s)(r:RelV x v)(ty:tyV X.K T x H):
  s.TypeIs v T/\∀a,v= .ref a->∃ob,s.heap.get? a=some ob/\ob.dict=none:=by
 cases x with
 |str z=>
  obtain⟨t,rfl⟩:=r;cases (show T="str" from ty);exact⟨typeIs_str s z t,λ_ e=>nomatch e⟩
 |int i=>
  obtain⟨t,rfl⟩:=r;cases (show T="int" from ty);exact⟨typeIs_int s i t,λ_ e=>nomatch e⟩
 |ref p=>
  cases r;rcases ty with⟨rfl,xs,hq⟩|⟨rfl,⟨o,hk,hc,hd⟩|⟨xs,hx⟩⟩|⟨rfl,hk⟩|⟨rfl,S,n,hk⟩
  ·obtain⟨its,_,pl,_⟩:=I.list hq;refine⟨pl.isList.typeIs,λa e=> ?_⟩;cases e;obtain⟨o,n,e,c,hd,_⟩:=pl;exact⟨o,e,hd⟩
  ·refine⟨⟨o,I.kIn p o hk,hc⟩,λa e=> ?_⟩;cases e;exact⟨o,I.kIn _ o hk,hd⟩
  ·obtain⟨_,_,_,o,e,c,d,_⟩:=(show ObjOk X.prog X.w H s.heap p (.tup xs) from I.hok p _ hx)
   refine⟨⟨o,e,c⟩,λa e2=> ?_⟩;cases e2;exact⟨o,e,d⟩
  ·have z:∃o,s.heap.get? p=some o/\o.ExactDict:=by
    rcases hk with⟨kvs,hk⟩|⟨kvs,hk⟩
    ·obtain⟨_,_,_,_,o,_,_,e,ex,_⟩:=I.hok p _ hk;exact⟨o,e,ex⟩
    ·obtain⟨_,_,_,_,o,_,_,e,ex,_⟩:=I.hok p _ hk;exact⟨o,e,ex⟩
   obtain⟨o,e,ex⟩:=z;refine⟨⟨o,e,ex.1⟩,λa e2=> ?_⟩;cases e2;exact⟨o,e,ex.2.1⟩
  ·obtain⟨o,_,_,_,e,ex,_⟩:=I.hok p _ hk;refine⟨⟨o,e,ex.1⟩,λa e2=> ?_⟩;cases e2;exact⟨o,e,ex.2.1⟩
 |_=>exact False.elim ty
def tBM(K:Frag)(T:String)(r:V->List V->Hp->VK->Prop)(to:TE)(t:TA):TE:=λσ H Q=>to σ H λx H1=>tyV K T x H1/\t σ H1 λxs H2=>r x xs H2 Q
variable{o e:Expr}{es:List Expr}{to:TE}{t:TA}{name:Str}{apos cpos:Pos}{T id:String}{r:V->List V->Hp->VK->Prop}
theorem Db(pa:PlainAttrs T)(slot:Slot T name id)(hty:typeOf (.builtin id)=pure (.type "method_descriptor"))(hm:MtR X id r)(ho:PE X o to)(ha:PA X (e::es) t)(hbase:attributeBase o name X.env (eval o X.env)=eval o X.env:=by rfl)(hfew:((backTo cpos (starEach (e::es) X.env)).all (λx=> !x.1) && (backToKw cpos (keywordEach [] X.env)).all (λx=>x.1.isSome)
   && decide ((e::es).length+([]:List Keyword).length+(if ([]:List Keyword).isEmpty then 0 else 1)<30))=true:=by rfl)(hline:(apos.endLine==cpos.line)=true:=by rfl)(hs:starEach (e::es) X.env=(false,eval e X.env)::starEach es X.env:=by rfl)(hplain:(backTo cpos (starEach es X.env)).any (·.1)=false:=by rfl):
  PE X (.Call (.Attribute o name apos) (e::es) [] cpos) (tBM X.K T r to t):=by
 intro pins s σ H Q I h;refine wpAny_Call_method_late hbase hfew hline rfl (thn (ho pins s σ H _ I h) λv s1 ⟨x,H1,I1,r1,ty,q1⟩=> ?_);obtain⟨h1,h2⟩:=Xv I1 r1 ty;refine⟨T,id,pa,slot,hty,h1,h2,?_⟩;have hA:=ha cpos pins s1 σ H1 _ I1 q1;rw[hs] at hA ⊢;refine Calls.callWith_builtin (by show (false||(backTo cpos (starEach es X.env)).any (·.1))=false;rw[hplain]<;> rfl) (Calls.evalArgs_plain ?_);exact thn hA λus s2 ⟨vs,H2,I2,r2,q2⟩=>hm pins s2 σ H2 x vs v us Q I2 r1 r2 q2
end
def MtM(X:Cx)(id:String)(r:V->List V->Hp->VK->Prop):Prop:=
 ∀(pins:List (Addr×Obj)) (s:Shared) (σ:St) (H:Hp) (x:V) (xs:List V) (v:Value) (us:List Value) (Q:VK),Inv X pins σ H s->RelV x v->Vals xs us->r x xs H Q->
  wpAny (model X.prog X.w) X.A (call (.builtin id) (v::us)) (EP X pins σ Q) X.xe s
theorem Vals.one:∀{x:V} {us:List Value},Vals [x] us->∃u,us=[u]/\RelV x u
 |_,_,.cons r .nil=>⟨_,rfl,r⟩
theorem Vals.eraseIdx:∀{xs:List V} {us:List Value} (i:Nat),Vals xs us->Vals (xs.eraseIdx i) (us.eraseIdx i)
 |_,_,_,.nil=> .nil
 |_,_,0,.cons _ t=>t
 |_,_,i+1,.cons r t=> .cons r (Vals.eraseIdx i t)
theorem Vals.rep{xs:List V}{us:List Value}(h:Vals xs us):∀k:Nat,Vals (replicate k xs).flatten (replicate k us).flatten
 |0=> .nil
 |k+1=>by
  rw[replicate_succ,replicate_succ,Zm,Zm];exact Vals.append h (Vals.rep h k)
theorem J5{α:Type}:∀(l:List α) (i:Nat),(l.eraseIdx i).length<=l.length
 |[],_=>le_refl _
 |_::_,0=>le_succ _
 |_::r,i+1=>Nat.succ_le_succ (J5 r i)
theorem J6(its:List Value):∀(k:Nat) (acc:List Value),
  foldl (λx1 x2=>x1++x2) acc.toArray (replicate k its.toArray)=(acc++(replicate k its).flatten).toArray
 |0,acc=>by simp
 |k+1,acc=>by
  have e:acc.toArray++its.toArray=(acc++its).toArray:=by simp
  have e2:(acc++its)++(replicate k its).flatten=acc++(replicate (k+1) its).flatten:=by
   rw[replicate_succ,Zm,List.append_assoc]
  rw[<-e2,<-J6 its k (acc++its),<-e,replicate_succ,foldl_cons]
section
variable{X:Cx}{pins:List (Addr×Obj)}{σ:St}{H:Hp}{s:Shared}{l b:Addr}{xs ys zs:List V}
theorem Inv.lset{its its':List Value}{n:Nat}{f:Array Value->Array Value}{t':Nat}(I:Inv X pins σ H s)(hH:H l=some (.lst xs))(e:s.heap.get? l=some {cls:= .type "list",data:= .seq its.toArray n})(hf:f its.toArray=its'.toArray)(hv:Vals ys its')(hz:ys.length<=sizeLine):
  Inv X pins σ (upd H l (.lst ys)) {s with heap:=s.heap.update l (Obj.mapSeq f),toks:=t'}:=by
 have q:=PySem.IsL.update e f;rw[hf] at q;refine I.write (x:=l) (e:=l) (by rw[hH];exact trivial) (.inl rfl) (λb' u hb hu=>(Heap.get?_update_other s.heap (Obj.mapSeq f) (Ne.symm hb)).trans hu) ⟨_,q⟩ ?_;exact⟨hz,its',_,hv,q⟩
theorem Inv.lnew{its:List Value}{t':Nat}(I:Inv X pins σ H s)(hv:Vals ys its)(hz:ys.length<=sizeLine):
  Inv X pins σ (upd H s.heap.objs.size (.lst ys)) {s with heap:=s.heap.push {cls:= .type "list",data:= .seq its.toArray},toks:=t'}:=
 I.laid (λ_ _ q=>Is _ q) (le_refl _) ⟨hz,its,0,hv,Yi _ rfl⟩
theorem Inv.fresh(I:Inv X pins σ H s):H s.heap.objs.size=none:=I.hok.fresh (le_refl _)
theorem Inv.lstM(I:Inv X pins σ H s)(hH:H l=some (.lst xs)):xs.length<=sizeLine/\∃(its:List Value) (n:Nat),Vals xs its/\xs.length=its.length/\s.heap.get? l=some {cls:= .type "list",data:= .seq its.toArray n}:=by
 obtain⟨z,its,n,r,e⟩:=I.hok l _ hH;exact⟨z,its,n,r,r.length,e⟩
theorem Tc{n:Nat}(h:n<=sizeLine):Builtin.List.listTooLong n=false:=by
 unfold Builtin.List.listTooLong;exact decide_eq_false (by omega)
end
section
variable{X:Cx}
inductive Lz(x:V)(vs:List V)(H:Hp)(Q:VK):Prop
 |mk (l xs y:_):(x= .ref l)->(vs=[y])->(H l=some (.lst xs))->(xs.length<sizeLine)->(Q .non (upd H l (.lst (xs++[y]))))->Lz x vs H Q
def Vm:V->List V->Hp->VK->Prop:=λx vs H Q=>Lz x vs H Q
theorem Bu:MtM X "list.append" Vm:=by
 intro pins s σ H x vs v us Q I rx rv h;obtain⟨l,xs,y,rfl,rfl,hH,hz,q⟩:=h;cases rx;obtain⟨u,rfl,ru⟩:=rv.one;obtain⟨z,its,n,r,hl,e⟩:=I.lstM hH;refine call_meets F.slot_list_append ⟨_,e,rfl⟩ F.entry_list_append (F.args_list_append_2 _ _) (PySem.list_append l its.toArray n u (by rw[size_toArray];omega)) ⟨e,?_⟩;refine⟨.non,_,I.lset (its':=its++[u]) hH e (by simp) (r.append (.cons ru .nil)) ?_,rfl,q⟩;rw[Yk,List.length_singleton];assumption
inductive O4(x:V)(vs:List V)(H:Hp)(Q:VK):Prop
 |mk (l xs i k y:_):(x= .ref l)->(vs=[.int i])->(H l=some (.lst xs))->(-(2 ^ 63)<=i)->(i<2 ^ 63)->(seqIndex? i xs.length=some k)->(xs[k]? =some y)->(Q y (upd H l (.lst (xs.eraseIdx k))))->O4 x vs H Q
def Xy:V->List V->Hp->VK->Prop:=λx vs H Q=>O4 x vs H Q
theorem R8:MtM X "list.pop" Xy:=by
 intro pins s σ H x vs v us Q I rx rv h;obtain⟨l,xs,i,k,y,rfl,rfl,hH,h1,h2,hk,hy,q⟩:=h;cases rx;obtain⟨u,rfl,ru⟩:=rv.one;obtain⟨t,rfl⟩:=ru;obtain⟨z,its,n,r,hl,e⟩:=I.lstM hH;obtain⟨w,hw,rw'⟩:=r.get hy;refine call_meets F.slot_list_pop ⟨_,e,rfl⟩ F.entry_list_pop (F.args_list_pop_2 _ _)
  (MeetsSeq.list_pop_at l its.toArray n i t k w (fitsIndex_both h1 h2) (by rw[size_toArray,<-hl];exact hk) (by rw[<-getElem?_toList];exact hw) (by rw[size_toArray];omega)) ⟨e,?_⟩
 refine⟨y,_,I.lset (its':=its.eraseIdx k) hH e ?_ (r.eraseIdx k) ?_,rw',q⟩
 ·show its.toArray.eraseIdxIfInBounds k=(its.eraseIdx k).toArray;rw[List.eraseIdxIfInBounds_toArray]
 ·have:=J5 xs k;exact le_trans (by assumption) (by assumption)
inductive Wn(x:V)(y:V)(H:Hp)(Q:VK):Prop
 |mk (l b xs zs:_):(x= .ref l)->(y= .ref b)->(H l=some (.lst xs))->(H b=some (.lst zs))->(xs.length+zs.length<=sizeLine)->(∀p,H p=none->Q (.ref p) (upd H p (.lst (xs++zs))))->Wn x y H Q
def rCat:R2:=λx y H Q=>Wn x y H Q
theorem Lp:OpR X (binaryOp .Add) rCat:=by
 intro pins s σ H x y v u Q I rx ry h;obtain⟨l,b,xs,zs,rfl,rfl,hH,hB,hz,q⟩:=h;cases rx;cases ry;obtain⟨z,its,n,r,hl,e⟩:=I.lstM hH;obtain⟨z2,its2,n2,r2,hl2,e2⟩:=I.lstM hB;refine PySem.P.add_list e e2 ?_ (by rw[size_toArray,size_toArray];omega);have ea:its.toArray++its2.toArray=(its++its2).toArray:=by simp
 rw[ea];exact⟨.ref _,_,I.lnew (t':=s.toks) (r.append r2) (by rw[Yk];assumption),rfl,q _ I.fresh⟩
inductive Wg(x:V)(y:V)(H:Hp)(Q:VK):Prop
 |mk (l k xs:_):(x= .ref l)->(y= .int k)->(H l=some (.lst xs))->(-(2 ^ 63)<=k)->(k<2 ^ 63)->(xs.length * k.toNat<=sizeLine)->(∀p,H p=none->Q (.ref p) (upd H p (.lst (replicate k.toNat xs).flatten)))->Wg x y H Q
def rRep:R2:=λx y H Q=>Wg x y H Q
theorem U9{α:Type}(xs:List α)(k:Nat):(replicate k xs).flatten.length=k * xs.length:=by
 induction k with
 |zero=>simp
 |succ k ih=>rw[replicate_succ,Zm,Yk,ih,Nat.succ_mul,Nat.add_comm]
theorem Wy:OpR X (binaryOp .Mult) rRep:=by
 intro pins s σ H x y v u Q I rx ry h;obtain⟨l,k,xs,rfl,rfl,hH,h1,h2,hz,q⟩:=h;cases rx;obtain⟨t,rfl⟩:=ry;obtain⟨z,its,n,r,hl,e⟩:=I.lstM hH;have hlen:its.toArray.size * k.toNat<=sizeLine:=by rw[size_toArray,<-hl];exact hz
 have hcap:¬its.toArray.size * k.toNat > (2 ^ 63 - 1) / 8:=by
  have:(sizeLine:Nat)<=(2 ^ 63 - 1) / 8:=by decide
  omega
 have hfit:¬(!Builtin.List.listFitsIndex k)=true:=by
  rw[fitsIndex_both h1 h2];exact Bool.false_ne_true
 have hlong:¬Builtin.List.listTooLong (its.toArray.size * k.toNat)=true:=by
  rw[Tc hlen];exact Bool.false_ne_true
 have hnew:foldl (λx1 x2=>x1++x2) #[] (replicate (if its.toArray.isEmpty=true then 0 else k.toNat) its.toArray)=(replicate k.toNat its).flatten.toArray:=by
  have f0:∀m:Nat,foldl (λx1 x2=>x1++x2) #[] (replicate m its.toArray)=(replicate m its).flatten.toArray:=λm=>by
   have:=J6 its m [];rw[List.nil_append] at this;exact this
  rw[f0];cases its with
  |nil=>simp
  |cons a r'=>rw[Lt (by simp)]
 refine wpAny_binaryOp_repeat_ref (T:="list") (U:="int") (by decide) ⟨_,e,rfl⟩ (λs'=>typeIs_int s' k t) noFill_list_mul F.fills_int_mul F.slot_int_rmul repeat_list F.slot_int_index.lookup
  (call_meets F.slot_int_rmul (typeIs_int s k t) F.entry_int_rmul (F.args_int_rmul_2 _ _) (int___rmul___int_list k t l its.toArray n)
   ⟨e,rfl,⟨_,e,rfl⟩,call_meets F.slot_list_mul ⟨_,e,rfl⟩ F.entry_list_mul (F.args_list_mul_2 _ _) (AutoListH.list___mul___list_int_3 l its.toArray n k t hfit hcap hlong) ⟨e,?_⟩⟩)
 rw[hnew];exact⟨.ref _,_,I.lnew (t':=s.toks) (r.rep k.toNat) (by rw[U9,Nat.mul_comm];exact hz),rfl,q _ I.fresh⟩
end
section
variable{κ:Type}[DecidableEq κ]
def Bw(kvs:List (κ×V))(k:κ):Option V:=(kvs.find? λkv=>decide (kv.1=k)).map (·.2)
def Cq(kvs:List (κ×V))(k:κ)(v:V):List (κ×V):=
 if (kvs.any λkv=>decide (kv.1=k))=true then kvs.map (λkv=>if kv.1=k then (kv.1,v) else kv) else kvs++[(k,v)]
def Fo(kvs:List (κ×V))(k:κ):List (κ×V):=kvs.filter λkv=>decide (kv.1≠k)
theorem Bq{p:κ×V}{r:List (κ×V)}{k:κ}(e:p.1=k):Bw (p::r) k=some p.2:=by simp[Bw,find?_cons,e]
theorem Bl{p:κ×V}{r:List (κ×V)}{k:κ}(e:¬p.1=k):Bw (p::r) k=Bw r k:=by simp[Bw,find?_cons,e]
theorem Em(k:κ):∀kvs:List (κ×V),(kvs.any λkv=>decide (kv.1=k))=(Bw kvs k).isSome
 |[]=>rfl
 |p::r=>by
  rw[any_cons];by_cases e:p.1=k
  ·simp only[Bq e,decide_eq_true e,Bool.true_or,Option.isSome_some]
  ·rw[Bl e,decide_eq_false e,Bool.false_or];exact Em k r
theorem Mo(k j:κ)(y:V):∀kvs:List (κ×V),Bw (kvs.map λkv=>if kv.1=k then (kv.1,y) else kv) j=(Bw kvs j).map λx=>if j=k then y else x
 |[]=>rfl
 |p::r=>by
  have ih:=Mo k j y r;rw[Yp];by_cases h:p.1=k
  ·rw[Yf h];by_cases e:p.1=j
   ·rw[Bq (p:=(p.1,y)) e,Bq e,Option.map_some,Yf (e.symm.trans h)]
   ·rw[Bl (p:=(p.1,y)) e,Bl e,ih]
  ·rw[Lt h];by_cases e:p.1=j
   ·rw[Bq (p:=p) e,Bq e,Option.map_some,Lt (λz=>h (e.trans z))]
   ·rw[Bl (p:=p) e,Bl e,ih]
theorem Kk(k j:κ)(y:V):∀kvs:List (κ×V),Bw kvs k=none->Bw (kvs++[(k,y)]) j=if j=k then some y else Bw kvs j
 |[],_=>by
  by_cases e:k=j
  ·rw[Yf e.symm];exact Bq (p:=(k,y)) e
  ·rw[Lt (λz=>e z.symm)];exact Bl (p:=(k,y)) e
 |p::r,hn=>by
  rw[List.cons_append];have hk:¬p.1=k:=λz=>by rw[Bq z] at hn;cases hn
  rw[Bl hk] at hn;have ih:=Kk k j y r hn;by_cases e:p.1=j
  ·rw[Bq e,Bq e,Lt (λz=>hk (e.trans z))]
  ·rw[Bl e,Bl e,ih]
theorem Fs(kvs:List (κ×V))(k j:κ)(y:V):Bw (Cq kvs k y) j=if j=k then some y else Bw kvs j:=by
 unfold Cq;by_cases a:(kvs.any λkv=>decide (kv.1=k))=true
 ·rw[Yf a,Mo];rw[Em] at a;by_cases e:j=k
  ·obtain⟨x,hx⟩:=Zd.mp a;rw[Yf e,e,hx,Option.map_some,Yf rfl]
  ·rw[Lt e];cases Bw kvs j with
   |none=>rfl
   |some x=>rw[Option.map_some,Lt e]
 ·rw[Lt a];refine Kk k j y kvs ?_;rw[Em] at a;cases q:Bw kvs k with
  |none=>rfl
  |some x=>rw[q] at a;exact(a rfl).elim
theorem Df(kvs:List (κ×V))(k:κ)(v:V):(Cq kvs k v).length<=kvs.length+1:=by
 unfold Cq;split
 ·rw[If];exact Nat.le_add_right _ _
 ·rw[Yk,Yx,Y9];exact Nat.add_le_add_left (by decide) _
theorem Tu{kvs:List (κ×V)}{k:κ}(v:V)(h:Bw kvs k=none):Cq kvs k v=kvs++[(k,v)]:=by
 unfold Cq;rw[Em,h];exact Lt (by decide)
theorem RelO.isSome_eq{o:Option V}{u:Option Value}(r:RelO o u):o.isSome=u.isSome:=by
 cases o with
 |none=>cases u with
  |none=>rfl
  |some _=>exact(show False from r).elim
 |some _=>cases u with
  |none=>exact(show False from r).elim
  |some _=>rfl
theorem RelO.getD{o:Option V}{u:Option Value}{d:V}{d':Value}(r:RelO o u)(rd:RelV d d'):RelV (o.getD d) (u.getD d'):=by
 cases o with
 |none=>cases u with
  |none=>exact rd
  |some _=>exact(show False from r).elim
 |some _=>cases u with
  |none=>exact(show False from r).elim
  |some _=>exact r
theorem KV.val{kvs:List (κ×V)}{vs:List (κ×Value)}(r:KV kvs vs)(k:κ):RelO (Bw kvs k) (valueAt vs k):=by
 unfold KV at r
 induction r with
 |nil=>exact True.intro
 | @cons p q ps qs h t ih=>
  obtain⟨h1,h2⟩:=h;by_cases e:p.1=k
  ·have e':q.1=k:=h1.symm.trans e;have b:valueAt (q::qs) k=some q.2:=by simp[valueAt,find?_cons,e']
   rw[Bq e,b];exact h2
  ·have e':¬q.1=k:=λz=>e (h1.trans z);have b:valueAt (q::qs) k=valueAt qs k:=by simp[valueAt,find?_cons,e']
   rw[Bl e,b];exact ih
theorem KV.any{kvs:List (κ×V)}{vs:List (κ×Value)}(r:KV kvs vs)(k:κ):(kvs.any λkv=>decide (kv.1=k))=vs.any λkv=>decide (kv.1=k):=by
 unfold KV at r
 induction r with
 |nil=>rfl
 |cons h t ih=>rw[any_cons,any_cons,ih,h.1]
theorem KV.repl{kvs:List (κ×V)}{vs:List (κ×Value)}(r:KV kvs vs)(k:κ){y:V}{u:Value}(ry:RelV y u):
  KV (kvs.map λkv=>if kv.1=k then (kv.1,y) else kv) (vs.map λkv=>if kv.1=k then (kv.1,u) else kv):=by
 unfold KV at r ⊢
 induction r with
 |nil=>exact .nil
 | @cons p q ps qs h t ih=>
  rw[Yp,Yp];refine .cons ?_ ih;obtain⟨h1,h2⟩:=h;by_cases e:p.1=k
  ·rw[Yf e,Yf (h1.symm.trans e)];exact⟨h1,ry⟩
  ·rw[Lt e,Lt (λz=>e (h1.trans z))];exact⟨h1,h2⟩
theorem KV.put{kvs:List (κ×V)}{vs:List (κ×Value)}(r:KV kvs vs)(k:κ){y:V}{u:Value}(ry:RelV y u):KV (Cq kvs k y) (stored vs k u):=by
 unfold Cq stored;rw[r.any k];by_cases e:(vs.any λkv=>decide (kv.1=k))=true
 ·rw[Yf e,Yf e];exact r.repl k ry
 ·rw[Lt e,Lt e];exact Paired.snoc r ⟨rfl,ry⟩
theorem KV.drop{kvs:List (κ×V)}{vs:List (κ×Value)}(r:KV kvs vs)(k:κ):KV (Fo kvs k) (without vs k):=by
 unfold KV at r ⊢;unfold Fo without
 induction r with
 |nil=>exact .nil
 | @cons p q ps qs h t ih=>
  obtain⟨h1,h2⟩:=h;rw[filter_cons,filter_cons];by_cases e:p.1=k
  ·have a:¬decide (p.1≠k)=true:=by simp[e]
   have b:¬decide (q.1≠k)=true:=by simp[h1.symm.trans e]
   rw[Lt a,Lt b];exact ih
  ·have e':¬q.1=k:=λz=>e (h1.trans z);have a:decide (p.1≠k)=true:=by simp[e]
   have b:decide (q.1≠k)=true:=by simp[e']
   rw[Yf a,Yf b];exact .cons ⟨h1,h2⟩ ih
theorem KV.length{kvs:List (κ×V)}{vs:List (κ×Value)}(r:KV kvs vs):kvs.length=vs.length:=Paired.length r
theorem L9(kvs:List (κ×V))(k:κ):(Fo kvs k).length<=kvs.length:=Yq _ _
end
theorem Ie{P:Program}{w:World}{k:Key}{u:Value}(r:RelV (kV k) u):(Bc P w).is k u=true:=by
 cases k with
 |inl i=>obtain⟨t,e⟩:=(show ∃t,u=Value.int i t from r);subst e;exact Mp P w i t
 |inr x=>obtain⟨t,e⟩:=(show ∃t,u=Value.str x t from r);subst e;exact Mr P w x t
theorem J7{P:Program}{w:World}:∀{ks:List Key} {us:List Value},Vals (ks.map kV) us->ItemsAre (Bc P w) ks us
 |[],_,r=>by rw[map_nil] at r;cases r;exact .nil
 |k::ks,_,r=>by
  rw[Yp] at r;cases r with
  |cons h t=>exact .cons (Ie h) (J7 t)
abbrev KT(H:Hp):List (List Key×V)->List (List Key×Addr×Value)->Prop:=Paired λp q=>p.1=q.1/\H q.2.1=some (.tup (p.1.map kV))/\RelV p.2 q.2.2
theorem KT.val{H:Hp}{kvs:List (List Key×V)}{xs:List (List Key×Addr×Value)}(r:KT H kvs xs)(k:List Key):RelO (Bw kvs k) ((atKey xs k).map (·.2)):=by
 induction r with
 |nil=>exact True.intro
 | @cons p q ps qs h t ih=>
  obtain⟨h1,_,h2⟩:=h;by_cases e:p.1=k
  ·have e':q.1=k:=h1.symm.trans e;have b:atKey (q::qs) k=some q.2:=by simp[atKey,find?_cons,e']
   rw[Bq e,b];exact h2
  ·have e':¬q.1=k:=λz=>e (h1.trans z);have b:atKey (q::qs) k=atKey qs k:=by simp[atKey,find?_cons,e']
   rw[Bl e,b];exact ih
theorem KT.repl{H:Hp}{kvs:List (List Key×V)}{xs:List (List Key×Addr×Value)}(r:KT H kvs xs)(k:List Key){y:V}{u:Value}(ry:RelV y u):
  KT H (kvs.map λkv=>if kv.1=k then (kv.1,y) else kv) (xs.map (putAt k u)):=by
 induction r with
 |nil=>exact .nil
 | @cons p q ps qs h t ih=>
  rw[Yp,Yp];refine .cons ?_ ih;obtain⟨h1,h2,h3⟩:=h;unfold putAt;by_cases e:p.1=k
  ·rw[Yf e,Yf (h1.symm.trans e)];exact⟨h1,h2,ry⟩
  ·rw[Lt e,Lt (λz=>e (h1.trans z))];exact⟨h1,h2,h3⟩
theorem KT.put{H:Hp}{kvs:List (List Key×V)}{xs:List (List Key×Addr×Value)}(r:KT H kvs xs)(k:List Key){b:Addr}{y:V}{u:Value}(hb:H b=some (.tup (k.map kV)))(ry:RelV y u):
  KT H (Cq kvs k y) (storedH xs k b u):=by
 have e:(kvs.any λkv=>decide (kv.1=k))=(atKey xs k).isSome:=by
  rw[Em,(r.val k).isSome_eq,Option.isSome_map]
 unfold Cq storedH;rw[e];by_cases q:(atKey xs k).isSome=true
 ·rw[Yf q,Yf q];exact r.repl k ry
 ·rw[Lt q,Lt q];exact Paired.snoc r ⟨rfl,hb,ry⟩
theorem KT.keeps{H H':Hp}{kvs:List (List Key×V)}{xs:List (List Key×Addr×Value)}(r:KT H kvs xs)(ht:∀b ys,H b=some (.tup ys)->H' b=some (.tup ys)):KT H' kvs xs:=
 Paired.mapP r λ_ _ z=>⟨z.1,ht _ _ z.2.1,z.2.2⟩
section
variable{P:Program}{w:World}{H:Hp}{h:Heap}{a:Addr}
theorem Wj{u:HO}(ok:HOk P w H h)(e:Rd H a u):ObjOk P w H h a u:=e.ok ok
theorem Ih{kvs:List (Key×V)}(ok:HOk P w H h)(e:Rd H a (.dK kvs)):kvs.length<=sizeLine/\(a==sysModules)=false/\∃vs,KV kvs vs/\h.DictOf (Bc P w) a vs:=
 show ObjOk P w H h a (.dK kvs) from Wj ok e
theorem G2{kvs:List (Key×V)}(ok:HOk P w H h)(e:H a=some (.dK kvs)):kvs.length<=sizeLine/\(a==sysModules)=false/\∃vs,KV kvs vs/\h.DictOf (Bc P w) a vs:=Ih ok (.inl e)
theorem Iz{ks:List Key}(ok:HOk P w H h)(e:H a=some (.tup (ks.map kV))):(tupleKind (Bc P w)).is h ks a:=by
 obtain⟨_,its,r,o,h1,h2,_,n,h3⟩:=(show ObjOk P w H h a (.tup (ks.map kV)) from ok a _ e)
 exact⟨o,its.toArray,n,h1,h2,h3,by simpa using J7 r⟩
theorem Ke{kvs:List (List Key×V)}(ok:HOk P w H h)(e:Rd H a (.dT kvs)):kvs.length<=sizeLine/\(a==sysModules)=false/\
  ∃xs,KT H kvs xs/\h.DictOfH (tupleKind (Bc P w)) a xs:=by
 obtain⟨z,y,xs,r,o,es,ep,h1,h2,h3,h4,h5⟩:=(show ObjOk P w H h a (.dT kvs) from Wj ok e)
 refine⟨z,y,xs,r,o,es,ep,h1,h2,h3,h4,λx hx=> ?_,h5⟩;have all:∀{l:List (List Key×V)} {m:List (List Key×Addr×Value)},KT H l m->∀x∈m,(tupleKind (Bc P w)).is h x.1 x.2.1:=by
  intro l m q
  induction q with
  |nil=>intro x hx;exact nomatch hx
  | @cons p q ps qs hq t ih=>
   intro x hx;rcases Ym.mp hx with e|hx
   ·subst e;exact Iz ok (by rw[<-hq.1];exact hq.2.1)
   ·exact ih x hx
 exact all r x hx
theorem dt_of{kvs:List (List Key×V)}(ok:HOk P w H h)(e:H a=some (.dT kvs)):kvs.length<=sizeLine/\(a==sysModules)=false/\
  ∃xs,KT H kvs xs/\h.DictOfH (tupleKind (Bc P w)) a xs:=Ke ok (.inl e)
end
def DGet(H:Hp)(a:Addr)(y:V)(r:Option V):Prop:=
 (∃kvs k,Rd H a (.dK kvs)/\y=kV k/\r=Bw kvs k)\/∃kvs k b,Rd H a (.dT kvs)/\y= .ref b/\H b=some (.tup (k.map kV))/\r=Bw kvs k
def DPut(H:Hp)(a:Addr)(y v:V)(H':Hp):Prop:=
 (∃kvs k,H a=some (.dK kvs)/\y=kV k/\kvs.length<sizeLine/\H'=upd H a (.dK (Cq kvs k v)))\/
 ∃kvs k b,H a=some (.dT kvs)/\y= .ref b/\H b=some (.tup (k.map kV))/\kvs.length<sizeLine/\H'=upd H a (.dT (Cq kvs k v))
theorem DGet.k{H:Hp}{a:Addr}{kvs:List (Key×V)}{k:Key}(e:H a=some (.dK kvs)):DGet H a (kV k) (Bw kvs k):= .inl ⟨kvs,k,.inl e,rfl,rfl⟩
theorem DPut.k{H:Hp}{a:Addr}{kvs:List (Key×V)}{k:Key}{v:V}(e:H a=some (.dK kvs))(hl:kvs.length<sizeLine):DPut H a (kV k) v (upd H a (.dK (Cq kvs k v))):= .inl ⟨kvs,k,e,rfl,hl,rfl⟩
section
variable{X:Cx}{pins:List (Addr×Obj)}{σ:St}{H:Hp}{s:Shared}{a:Addr}{y v:V}{u r:Value}{o:Option V}{A:Around}{E:Value->Shared->Prop}
theorem Inv.big(I:Inv X pins σ H s):sysModules<s.heap.objs.size:=by
 have h:mainGlobals<s.heap.objs.size:=(I.mod.glob.keeps I.bk).lt;exact Nat.lt_trans (by decide) h
theorem Rc{Q:Value->Shared->Prop}(hu:A.units+1<cLine)(I:Inv X pins σ H s)(g:DGet H a y (some v))(ry:RelV y u)(h:∀w' s',Inv X pins σ H s'->RelV v w'->Q w' s'):
  wpAny (model X.prog X.w) A (getItem (.ref a) u) Q E s:=by
 rcases g with⟨kvs,k,e,ey,l⟩|⟨kvs,k,b,e,ey,eb,l⟩
 ·subst ey;obtain⟨z,hd,vs,rel,dd⟩:=Ih I.hok e;obtain⟨w',hw,rw'⟩:=RelO.some_of (v:=v) (o:=valueAt vs k) (by rw[l];exact rel.val k);exact wpAny_getItem_of (Ie ry) dd.mapOf hw (h w' _ (I.tok _) rw')
 ·subst ey;cases (show u=Value.ref b from ry);obtain⟨z,hd,xs,rel,dd⟩:=Ke I.hok e;obtain⟨w',hw,rw'⟩:=RelO.some_of (v:=v) (o:=(atKey xs k).map (·.2)) (by rw[l];exact rel.val k);obtain⟨p,hp,hp2⟩:=Option.map_eq_some_iff.mp hw;refine wpAny_getItem_heap (tupleKind_room_in1 hu) (Iz I.hok eb) dd hp ?_;rw[hp2];exact h w' _ (I.tok _) rw'
theorem Vo{Q:Value->Shared->Prop}(hu:A.units+1<cLine)(I:Inv X pins σ H s)(g:DGet H a y o)(ry:RelV y u)(h:∀s',Inv X pins σ H s'->Q (.bool (!o.isSome)) s'):
  wpAny (model X.prog X.w) A (compareOp .NotIn u (.ref a)) Q E s:=by
 rcases g with⟨kvs,k,e,ey,l⟩|⟨kvs,k,b,e,ey,eb,l⟩
 ·subst ey;obtain⟨z,hd,vs,rel,dd⟩:=Ih I.hok e;refine wpAny_notIn_of (Ie ry) hd dd.mapOf ?_;rw[<-(rel.val k).isSome_eq,<-l];exact h _ (I.tok _)
 ·subst ey;cases (show u=Value.ref b from ry);obtain⟨z,hd,xs,rel,dd⟩:=Ke I.hok e;refine wpAny_notIn_heap (tupleKind_room_in1 hu) (Iz I.hok eb) hd dd ?_;have q:=(rel.val k).isSome_eq;rw[Option.isSome_map] at q;rw[<-q,<-l];exact h _ (I.tok _)
theorem Hh{h':Heap}{t':Nat}{ob:HO}(I:Inv X pins σ H s)(mu:Mut (H a))(hs:SameBut a s.heap h')(he:∃q,h'.get? a=some q)(new:ObjOk X.prog X.w (upd H a ob) h' a ob):
  Inv X pins σ (upd H a ob) {s with heap:=h',toks:=t'}:=
 I.write (x:=a) (e:=a) mu (.inl rfl) (λb q hb z=>(hs.2 b hb).trans z) he new
theorem Na{P:Program}{w:World}{H':Hp}{h':Heap}{kvs:List (Key×V)}{vs:List (Key×Value)}(z:kvs.length<=sizeLine)(hd:(a==sysModules)=false)(rel:KV kvs vs)(dd:h'.DictOf (Bc P w) a vs):
  ObjOk P w H' h' a (.dK kvs):=⟨z,hd,vs,rel,dd⟩
theorem Pz{H':Hp}{Q:Unit->Shared->Prop}(hu:A.units+1<cLine)(I:Inv X pins σ H s)(g:DPut H a y v H')(ry:RelV y u)(rv:RelV v r)(h:∀s',Inv X pins σ H' s'->Q () s'):
  wpAny (model X.prog X.w) A (setItem (.ref a) u r) Q E s:=by
 rcases g with⟨kvs,k,e,ey,l,eH⟩|⟨kvs,k,b,e,ey,eb,l,eH⟩
 ·subst ey eH;obtain⟨z,hd,vs,rel,dd⟩:=G2 I.hok e;have hz:vs.length<=sizeLine:=by rw[<-rel.length];exact z
  have hl:(Cq kvs k v).length<=sizeLine:=by have:=Df kvs k v;exact le_trans (by assumption) (by assumption)
  refine wpAny_setItem_pairs (hsz:=hz) (Ie ry) dd λh' dd' hs=>h _ ?_;have he:∃q,h'.get? a=some q:=let ⟨q,_,_,hq,_⟩:=dd';⟨q,hq⟩
  exact Hh I (by rw[e];exact True.intro) hs he (Na hl hd (rel.put k rv) dd')
 ·subst ey eH;cases (show u=Value.ref b from ry);obtain⟨z,hd,xs,rel,dd⟩:=dt_of I.hok e;have hz:xs.length<=sizeLine:=by rw[<-Paired.length rel];exact z
  have hl:(Cq kvs k v).length<=sizeLine:=by have:=Df kvs k v;exact le_trans (by assumption) (by assumption)
  refine wpAny_setItem_heap (hsz:=hz) (tupleKind_room_in1 hu) (Iz I.hok eb) dd λh' dd' hs=>h _ ?_;obtain⟨q,es,ep,hq,h2,h3,h4,_,h5⟩:=dd';refine Hh I (by rw[e];exact True.intro) hs ⟨q,hq⟩ ⟨hl,hd,_,(rel.put k eb rv).keeps λc ys ec=> ?_,q,es,ep,hq,h2,h3,h4,h5⟩;rw[Aj (A5 ec e (λz=>nomatch z))];exact ec
end
section
variable{X:Cx}{pins:List (Addr×Obj)}{σ:St}{H:Hp}{s:Shared}{a:Addr}{kvs:List (Key×V)}{k:Key}{u:Value}{A:Around}{E:Value->Shared->Prop}
theorem Ra{Q:Unit->Shared->Prop}(I:Inv X pins σ H s)(e:H a=some (.dK kvs))(ry:RelV (kV k) u)(l:(Bw kvs k).isSome=true)(h:∀s',Inv X pins σ (upd H a (.dK (Fo kvs k))) s'->Q () s'):
  wpAny (model X.prog X.w) A (delItem (.ref a) u) Q E s:=by
 obtain⟨z,hd,vs,rel,dd⟩:=G2 I.hok e;refine wpAny_delItem_slot dd.typeIs (by decide) PySem.F.slot_dict_delitem
  (call_meetsIn PySem.F.slot_dict_delitem dd.typeIs PySem.F.entry_dict_delitem (PySem.F.args_dict_delitem_2 _ _) (meets_dict_delitem_pairs (Bc X.prog X.w) a (Ie ry)) ⟨vs,dd,by rw[<-rel.length];exact z,by rw[<-(rel.val k).isSome_eq];exact l,λh' dd' hs=>h _ ?_⟩)
 have he:∃q,h'.get? a=some q:=let ⟨q,_,_,hq,_⟩:=dd';⟨q,hq⟩
 exact Hh I (by rw[e];exact True.intro) hs he (Na (le_trans (L9 kvs k) z) hd (rel.drop k) dd')
theorem d_pop{v:V}{more:List Value}{Q:Value->Shared->Prop}(I:Inv X pins σ H s)(e:H a=some (.dK kvs))(ry:RelV (kV k) u)(l:Bw kvs k=some v)(hm:more=[]\/∃x,more=[x])(h:∀w' s',Inv X pins σ (upd H a (.dK (Fo kvs k))) s'->RelV v w'->Q w' s'):wpAny (model X.prog X.w) A (call (.builtin "dict.pop") (.ref a::u::more)) Q E s:=by
 obtain⟨z,hd,vs,rel,dd⟩:=G2 I.hok e;obtain⟨w',hw,rw'⟩:=RelO.some_of (v:=v) (o:=valueAt vs k) (by rw[<-l];exact rel.val k);have hp:(keyPart u).isSome=true:=by
  cases k with
  |inl i=>obtain⟨t,q⟩:=(show ∃t,u=Value.int i t from ry);subst q;rfl
  |inr x=>obtain⟨t,q⟩:=(show ∃t,u=Value.str x t from ry);subst q;rfl
 have ha:argsOk "dict.pop" ⟨.ref a::u::more,[]⟩:=by
  rcases hm with q|⟨x,q⟩
  ·subst q;exact PySem.F.args_dict_pop_2 _ _
  ·subst q;exact PySem.F.args_dict_pop_3 _ _ _
 refine call_meetsIn PySem.F.slot_dict_pop dd.typeIs PySem.F.entry_dict_pop ha (meets_dict_pop_there (Bc X.prog X.w) a (Ie ry) more hm hp)
  ⟨vs,w',dd,by rw[<-rel.length];exact z,hw,λh' dd' hs=>h w' _ ?_ rw'⟩
 have he:∃q,h'.get? a=some q:=let ⟨q,_,_,hq,_⟩:=dd';⟨q,hq⟩
 exact Hh I (by rw[e];exact True.intro) hs he (Na (le_trans (L9 kvs k) z) hd (rel.drop k) dd')
theorem d_len{Q:Value->Shared->Prop}(I:Inv X pins σ H s)(e:Rd H a (.dK kvs))(h:∀t s',Inv X pins σ H s'->Q (.int kvs.length t) s'):wpAny (model X.prog X.w) A (call (.builtin "len") [.ref a]) Q E s:=by
 obtain⟨z,hd,vs,rel,dd⟩:=Ih I.hok e;refine call_len_dict hd dd (by rw[<-rel.length];rw[Yr] at z;omega) ?_;rw[<-rel.length];exact h _ _ (I.tok _)
end
def NoSl(i:Expr):Prop:=∀ov iv,subscripted i false ov iv=operate [ov,iv] (getItem ov iv)
theorem Vb{prog:Program}{w:World}{A:Around}{E:Value->Shared->Prop}{s:Shared}{env:Env}{value slice:Expr}{pos:Pos}{T id:String}{Q:Value->Shared->Prop}(hl:typeLookup (.type T) "__getitem__"=pure (some (.builtin id)))(hs:NoSl slice)(h:wpAny (model prog w) A (eval value env) (λo s₁=>wpAny (model prog w) A (eval slice env) (λi s₂=>s₂.TypeIs o T/\wpAny (model prog w) A (getItem o i) Q E s₂) E s₁) E s):
  wpAny (model prog w) A (eval (.Subscript value slice pos) env) Q E s:=by
 refine Subscript_ (Y8 h (λo s₁ h₁=>Y8 h₁ (λi s₂ h₂=> ?_) λ_ _ x=>x) λ_ _ x=>x);obtain⟨hT,h₂⟩:=h₂;unfold subscriptTail;refine Gt ?_;rw[getitemInPython_of_ne hT.not_modules];refine Gt (wpAny_specialOf hT hl ?_);have fin:wpAny (model prog w) A (subscripted slice false o i) (λr s₃=>wpAny (model prog w) A (letTemporaryGo value o r >>=λ_=>pure r) Q E s₃) E s₂:=by
  rw[hs o i];exact wpAny_operating (Y8 h₂ (λr s₃ h₃=>Gt (wpAny_letTemporaryGo (Yg h₃))) λ_ _ x=>x)
 first
  |exact Yg (Gt fin)
  |exact Gt (Yg (Gt fin))
  |exact Gt fin
theorem Mq{X:Cx}{pins:List (Addr×Obj)}{σ:St}{H:Hp}{s:Shared}{a:Addr}{y:V}{o:Option V}(I:Inv X pins σ H s)(g:DGet H a y o):s.TypeIs (.ref a) "dict":=by
 rcases g with⟨kvs,k,e,_,_⟩|⟨kvs,k,b,e,_,_,_⟩
 ·obtain⟨_,_,vs,_,dd⟩:=Ih I.hok e;exact dd.typeIs
 ·obtain⟨_,_,xs,_,dd⟩:=Ke I.hok e;exact dd.typeIs
def tDGet(td ty:TE):TE:=λσ H Q=>td σ H λx H1=>ty σ H1 λy H2=>∃a v,x= .ref a/\DGet H2 a y (some v)/\Q v H2
def V0(ty td:TE):TE:=λσ H Q=>ty σ H λy H1=>td σ H1 λx H2=>∃a o,x= .ref a/\DGet H2 a y o/\Q (.bl (!o.isSome)) H2
def sDPut(td ty tv:TE):TS:=λD σ H=>tv σ H λv H1=>td σ H1 λx H2=>ty σ H2 λy H3=>∃a H4,x= .ref a/\DPut H3 a y v H4/\D.nx σ H4
def sDDel(td ty:TE):TS:=λD σ H=>td σ H λx H1=>ty σ H1 λy H2=>∃a kvs k,x= .ref a/\H2 a=some (.dK kvs)/\y=kV k/\(Bw kvs k).isSome=true/\D.nx σ (upd H2 a (.dK (Fo kvs k)))
section
variable{X:Cx}{o i e value:Expr}{pos pos' tpos:Pos}{td ty tv:TE}
theorem Oq(hu:X.A.units+1<cLine)(ho:PE X o td)(hi:PE X i ty)(hs:NoSl i):PE X (.Subscript o i pos) (tDGet td ty):=by
 intro pins s σ H Q I h;refine Vb PySem.F.slot_dict_getitem.lookup hs (thn (ho pins s σ H _ I h) λu s1 ⟨x,H1,I1,rx,q1⟩=>thn (hi pins s1 σ H1 _ I1 q1) λiv s2 ⟨y,H2,I2,ry,a,v,ex,g,q2⟩=> ?_);subst ex;obtain rfl:u=Value.ref a:=rx;exact⟨Mq I2 g,Rc hu I2 g ry λw' s3 I3 rw'=>⟨v,H2,I3,rw',q2⟩⟩
theorem Qb(hu:X.A.units+1<cLine)(hi:PE X i ty)(ho:PE X o td):PC X .NotIn i o (V0 ty td):=by
 intro pins s σ H Q I h;refine thn (hi pins s σ H _ I h) λiv s1 ⟨y,H1,I1,ry,q1⟩=>thn (ho pins s1 σ H1 _ I1 q1) λu s2 ⟨x,H2,I2,rx,a,ov,ex,g,q2⟩=> ?_;subst ex;obtain rfl:u=Value.ref a:=rx;exact Vo hu I2 g ry λs3 I3=>⟨.bl (!ov.isSome),H2,I3,rfl,q2⟩
theorem Hj(hu:X.A.units+1<cLine)(ho:PE X o td)(hi:PE X i ty)(hv:PE X value tv)(hs:swapsWith value (some (.Subscript o i pos')) pos.line X.env=pure false):
  PS X (.Assign [.Subscript o i pos'] value pos) (sDPut td ty tv):=by
 intro pins s σ H D I h;refine wpAny_Assign_Subscript (thn (hv pins s σ H _ I h) λr s1 ⟨v,H1,I1,rv,q1⟩=>thn (ho pins s1 σ H1 _ I1 q1) λu s2 ⟨x,H2,I2,rx,q2⟩=>thn (hi pins s2 σ H2 _ I2 q2) λiv s3 ⟨y,H3,I3,ry,a,H4,ex,g,q3⟩=> ?_) hs;subst ex;obtain rfl:u=Value.ref a:=rx;exact Pz hu I3 g ry rv λs4 I4=>⟨σ,H4,I4,q3⟩
theorem Vr(ho:PE X o td)(hi:PE X i ty):PS X (.Delete [.Subscript o i tpos] pos) (sDDel td ty):=by
 intro pins s σ H D I h;refine wpAny_Delete (wpAny_deleteEach_cons (wpAny_delete_Subscript (thn (ho pins s σ H _ I h) λu s1 ⟨x,H1,I1,rx,q1⟩=>thn (hi pins s1 σ H1 _ I1 q1) λiv s2 ⟨y,H2,I2,ry,a,kvs,k,ex,e,ey,l,q2⟩=> ?_)));subst ex ey;obtain rfl:u=Value.ref a:=rx;exact Ra I2 e ry l λs3 I3=>wpAny_deleteEach_nil ⟨σ,_,I3,q2⟩
end
theorem T1{P:Program}{w:World}{H:Hp}(h:Heap)(hb:sysModules<h.objs.size):ObjOk P w H (h.push {cls:= .type "dict",data:= .dict #[]}) h.objs.size (.dK []):=
 ⟨Y0 _,beq_eq_false_iff_ne.mpr (Ne.symm (ne_of_lt hb)),[],.nil,Heap.DictOf.new h⟩
def X1:TE:=λ_ H Q=>∀p,H p=none->Q (.ref p) (upd H p (.dK []))
section
variable{X:Cx}{pos:Pos}
theorem Dr:PE X (.Dict [] [] pos) X1:=λpins s σ H Q I h=>
 wpAny_Dict_empty ⟨.ref s.heap.objs.size,_,I.laid (a:=s.heap.objs.size) (o:= .dK []) (t':=s.toks) (λ_ _ q=>Is _ q) (le_refl _) (T1 s.heap I.big),rfl,h _ (I.hok.fresh (le_refl _))⟩
end
structure M1(X:Cx)(o:Expr)(m:Str)(apos:Pos)(e:Expr)(cpos:Pos):Prop where
 base:attributeBase o m X.env (eval o X.env)=eval o X.env
 few:((backTo cpos (starEach [e] X.env)).all (λx=> !x.1) && (backToKw cpos (keywordEach [] X.env)).all (λx=>x.1.isSome)
  && decide (([e]:List Expr).length+([]:List Keyword).length+(if ([]:List Keyword).isEmpty then 0 else 1)<30))=true
 line:(apos.endLine==cpos.line)=true
 trees:backTo cpos (starEach [e] X.env)=[(false,eval e X.env)]
structure M2(X:Cx)(o:Expr)(m:Str)(apos:Pos)(e f:Expr)(cpos:Pos):Prop where
 base:attributeBase o m X.env (eval o X.env)=eval o X.env
 few:((backTo cpos (starEach [e,f] X.env)).all (λx=> !x.1) && (backToKw cpos (keywordEach [] X.env)).all (λx=>x.1.isSome)
  && decide (([e,f]:List Expr).length+([]:List Keyword).length+(if ([]:List Keyword).isEmpty then 0 else 1)<30))=true
 line:(apos.endLine==cpos.line)=true
 trees:backTo cpos (starEach [e,f] X.env)=[(false,eval e X.env),(false,eval f X.env)]
def IsD(H:Hp)(a:Addr):Prop:=(∃kvs,Rd H a (.dK kvs))\/∃kvs,Rd H a (.dT kvs)
theorem Ng{X:Cx}{pins:List (Addr×Obj)}{σ:St}{H:Hp}{s:Shared}{a:Addr}(I:Inv X pins σ H s)(d:IsD H a):
  s.TypeIs (.ref a) "dict"/\(∀b,Value.ref a= .ref b->∃ob,s.heap.get? b=some ob/\ob.dict=none)/\(a==sysModules)=false:=by
 rcases d with⟨kvs,e⟩|⟨kvs,e⟩
 ·obtain⟨_,hd,vs,_,dd⟩:=Ih I.hok e;refine⟨dd.typeIs,λb q=> ?_,hd⟩;cases q;obtain⟨ob,_,_,h1,h2,_⟩:=dd;exact⟨ob,h1,h2.2.1⟩
 ·obtain⟨_,hd,xs,_,dd⟩:=Ke I.hok e;refine⟨dd.typeIs,λb q=> ?_,hd⟩;cases q;obtain⟨ob,_,_,h1,h2,_⟩:=dd;exact⟨ob,h1,h2.2.1⟩
section
variable{X:Cx}{pins:List (Addr×Obj)}{σ:St}{H:Hp}{s:Shared}{a:Addr}{y d:V}{u r:Value}{o:Option V}{A:Around}{E:Value->Shared->Prop}
theorem Ya{Q:Value->Shared->Prop}(hu:A.units+1<cLine)(I:Inv X pins σ H s)(g:DGet H a y o)(ry:RelV y u)(rd:RelV d r)(h:∀w' s',Inv X pins σ H s'->RelV (o.getD d) w'->Q w' s'):
  wpAny (model X.prog X.w) A (call (.builtin "dict.get") [.ref a,u,r]) Q E s:=by
 rcases g with⟨kvs,k,e,ey,l⟩|⟨kvs,k,b,e,ey,eb,l⟩
 ·subst ey;obtain⟨z,hd,vs,rel,dd⟩:=Ih I.hok e;refine call_meetsIn slot_dict_get dd.typeIs PySem.F.entry_dict_get (PySem.F.args_dict_get_3 _ _ _) (meets_dict_get_default (Bc X.prog X.w) a (Ie ry) hd r) ⟨_,dd.mapOf,h _ _ (I.tok _) ?_⟩;rw[l];exact(rel.val k).getD rd
 ·subst ey;cases (show u=Value.ref b from ry);obtain⟨z,hd,xs,rel,dd⟩:=Ke I.hok e;refine call_meetsIn slot_dict_get dd.typeIs PySem.F.entry_dict_get (PySem.F.args_dict_get_3 _ _ _) (meetsH_dict_get_default (tupleKind (Bc X.prog X.w)) a b hd r) ⟨tupleKind_room_in1 hu,k,xs,Iz I.hok eb,dd,h _ _ (I.tok _) ?_⟩;rw[l];exact(rel.val k).getD rd
end
def Ye(td ty tx:TE):TE:=λσ H Q=>td σ H λx H1=>∃a,x= .ref a/\IsD H1 a/\ty σ H1 λy H2=>tx σ H2 λz H3=>∃o,DGet H3 a y o/\Q (o.getD z) H3
def Wv(td ty:TE):TE:=λσ H Q=>td σ H λx H1=>∃a,x= .ref a/\IsD H1 a/\ty σ H1 λy H2=>∃kvs k v,H2 a=some (.dK kvs)/\y=kV k/\Bw kvs k=some v/\Q v (upd H2 a (.dK (Fo kvs k)))
section
variable{X:Cx}{o e f:Expr}{apos cpos:Pos}{td ty tx:TE}
theorem Tt(hu:X.A.units+1<cLine)(ho:PE X o td)(he:PE X e ty)(hf:PE X f tx)(m:M2 X o "get" apos e f cpos):PE X (.Call (.Attribute o "get" apos) [e,f] [] cpos) (Ye td ty tx):=by
 intro pins s σ H Q I h;refine wpAny_Call_method m.base m.few m.line plainAttrs_dict slot_dict_get PySem.F.type_dict_get (thn (ho pins s σ H _ I h) λu s1 ⟨x,H1,I1,rx,a,ex,d,q1⟩=> ?_);subst ex;obtain rfl:u=Value.ref a:=rx;obtain⟨t1,t2,_⟩:=Ng I1 d;refine⟨t1,t2,?_⟩;rw[m.trees];refine Calls.callWith_builtin rfl (Calls.evalArgs_plain (Calls.spliced_cons (thn (he pins s1 σ H1 _ I1 q1) λiv s2 ⟨y,H2,I2,ry,q2⟩=>
  Calls.spliced_cons (thn (hf pins s2 σ H2 _ I2 q2) λfv s3 ⟨z,H3,I3,rz,ov,g,q3⟩=>Calls.spliced_nil ?_))))
 exact Ya hu I3 g ry rz λw' s4 I4 rw'=>⟨_,H3,I4,rw',q3⟩
theorem Tf(ho:PE X o td)(he:PE X e ty)(m:M1 X o "pop" apos e cpos):PE X (.Call (.Attribute o "pop" apos) [e] [] cpos) (Wv td ty):=by
 intro pins s σ H Q I h;refine wpAny_Call_method m.base m.few m.line plainAttrs_dict PySem.F.slot_dict_pop PySem.F.type_dict_pop (thn (ho pins s σ H _ I h) λu s1 ⟨x,H1,I1,rx,a,ex,d,q1⟩=> ?_);subst ex;obtain rfl:u=Value.ref a:=rx;obtain⟨t1,t2,_⟩:=Ng I1 d;refine⟨t1,t2,?_⟩;rw[m.trees];refine Calls.callWith_builtin rfl (Calls.evalArgs_plain (Calls.spliced_cons (thn (he pins s1 σ H1 _ I1 q1) λiv s2 ⟨y,H2,I2,ry,kvs,k,v,ea,ey,l,q2⟩=>Calls.spliced_nil ?_)));subst ey;exact d_pop I2 ea ry l (.inl rfl) λw' s3 I3 rw'=>⟨v,_,I3,rw',q2⟩
end
end L2
namespace Att
open PySem PySem.W PySem.Calls PyProof.Rows
theorem G9{P:Params}{h:Heap}:∀(ns:List Int) (vs:List Value),WellAll P h vs (ns.map WData.int)->IntsAre vs ns:=by
 intro ns
 induction ns with
 |nil=>
  intro vs w;rw[map_nil] at w;cases w;exact .nil
 |cons n ns ih=>
  intro vs w;rw[Yp] at w;cases w with
  |cons a b=>
   cases a;exact .cons _ _ (ih _ b)
theorem Qy{l:OpenLaw}{n:Nat}(hn:l.most=some n){P:Params}{h:Heap}{args:List WData}{vals:List Value}(hpre:l.row.toRowW.claim.pre args=true)(hwl:WellAll P h vals args):
  ∃a vs ns,vals=[Value.ref a]/\args=[WData.list (ns.map WData.int)]/\h.get? a=some {cls:= .type "list",data:= .seq vs.toArray}/\IntsAre vs ns/\ns.length<=n:=by
 have hsh:WShape.hasAll [] args [.list .int]=true:=(pre_splitW hpre).1;have hc:l.pre.holds [] {args:=args}=true:=(pre_splitW hpre).2;obtain⟨d,r,rfl,h1,h2⟩:=hasAllW_cons hsh;obtain rfl:=hasAllW_nil h2;obtain⟨xs,rfl,h3⟩:=hasW_list h1;obtain⟨ns,rfl⟩:=items_int h3;have hlen:ns.length<=n:=by
  unfold OpenLaw.pre at hc;have h4:(WTm.not (.lt (.lit (.int (n:Int))) (.len (.arg 0)))).holds [] {args:=[.list (ns.map .int)]}=true:=by
   have h4:=(holds_andW hc).1;rw[hn] at h4;exact h4
  have h5:=condW_of h4 (w_not (w_lt w_lit (w_len_list (w_arg rfl))));rw[If] at h5;refine Nat.le_of_not_lt λq=> ?_;have q':(n:Int)<((ns.length:Nat):Int):=by omega
  first
   |(rw[decide_eq_true q'] at h5;exact absurd h5 (by decide))
   |(simp at h5;omega)
 cases hwl with
 |cons w1 w2=>
  cases w2;cases w1 with
  |list ho hall=>exact⟨_,_,ns,rfl,rfl,ho,G9 ns _ hall,hlen⟩
theorem Qh(l:OpenLaw)(args:List WData):l.row.toRowW.claim.post args (.bool true) args=true:=
 postW_of (r:=l.row.toRowW) (X:=(true==true))
  (show WShape.has [] (.bool true) .bool=true by first|rfl|decide|simp[WShape.has,WShape.arms,WShape.armsAll])
  (show (WTm.eq .res (.lit (.bool true))).value [] {args:=args,res:=some (.bool true),after:=args}=some (.bool (true==true)) from w_eq_bool (w_res rfl) w_lit) rfl
theorem attach_call{l:OpenLaw}{n:Nat}{q:Program}{loose:List Str}{XP:(Str->Option Value)->Heap->Prop}{YP:World->Heap->Prop}{d:DefRec}(hn:l.most=some n)(hdf:d.params.defaults=[])(call:∀(w:World) (s₀ s₁:Shared) (mg mb:Str->Option Value) (fa:Addr) (o:Obj) (pm cd doc:Value) (a:Addr) (vs:List Value) (ns:List Int),
   Ground q loose [] XP w s₀ mg mb s₁.heap->YP w s₁.heap->
   s₁.heap.get? fa=some o->o.data= .func (docDef d.name d.params d.body d.scope pm cd doc)->s₁.heap.CodeRec cd d.name->mg d.name=some (.ref fa)->
   s₁.heap.get? a=some {cls:= .type "list",data:= .seq vs.toArray}->IntsAre vs ns->ns.length<=n->s₁.gens= #[]->
   codeAny (model l.prog w) callerA (.call (.ref fa) ⟨[.ref a],[]⟩) (λr s'=>r= .ok (.ret (.bool true))/\OldK s₁.heap s'.heap/\s'.os=s₁.os/\AllBare s'.gens) s₁):
  WalkO q loose XP YP l.row.toRowW d [] (λf vs=>PySem.call f vs):=by
 intro w s₀ s₁ mg mb G Y fa o pm cd doc dV kV ho hd hcd hD hmg hg args vals as hpre hlay hrd hwl hlo;obtain rfl:dV= .none:=Dflts.none hD hdf;obtain rfl:kV= .none:=Dflts.noKw hD;obtain⟨a,vs,ns,rfl,rfl,hobj,hints,hlen⟩:=Qy hn hpre hwl;refine enter_call (codeAny_mono (call w s₀ s₁ mg mb fa o pm cd doc a vs ns G Y ho (fd_plain hd) hcd hmg hobj hints hlen hg) λr s' hq=> ?_);obtain⟨rfl,h2,h3,h4⟩:=hq;exact⟨.inl ⟨.bool true,.bool true,[],rfl,λ_=>rfl,.bool true,Qh l _,λ_=>⟨Pairwise.nil,λ_ hm=>(nomatch hm)⟩⟩,h2,h3,h4⟩
end Att
namespace L2
open PySem PySem.Spec PyProof.Rows
theorem Ki:∀{vs:List Value} {ns:List Int},IntsAre vs ns->Vals (ns.map V.int) vs
 |_,_,.nil=> .nil
 |_,_,.cons n t h=> .cons ⟨t,rfl⟩ (Ki h)
def Xe(H:Hp):Prop:=∀b,H b=none\/∃o xs,H b=some (.frz o (.lst xs))
theorem Sv{P:Program}{w:World}{K:Frag}{mg mb:Str->Option Value}{CX:CXT}{k:Nat}{fa a:Addr}{fd:FuncData}{x:Str}{sp:Sp}{s₁:Shared}{vs:List Value}{ns:List Int}(KX:K.In s₁.heap)(hns:s₁.heap.Ns mainGlobals mg)(hb:s₁.heap.Ns builtinsNs mb)(hbb:∀x:Str,x≠"__name__"->mb x=bootBuiltins x)(hlim:s₁.heap.NoLimit)(hg:s₁.gens= #[])(ha:s₁.heap.get? a=some {cls:= .type "list",data:= .seq vs.toArray})(hi:IntsAre vs ns)(hl:ns.length<=sizeLine)(hr:Room k callerA)(F:∀base:Heap,K.In base->base.Ns mainGlobals mg->FnOk P w K mg base CX k fa fd [x] sp)(hbind:∀(s:Shared) (u:Value),BindsTo s fd ⟨[u],[]⟩ [(x,u)])(hsp:∀H:Hp,Xe H->SqL K H a (ns.map V.int)->sp [.ref a] H (λv _=>v= .bl true) λ_ _ _=>False)(hCX:∀H e s',CX [] H s₁ (λ_ _ _=>False) e s'->False):
  codeAny (model P w) callerA (.call (.ref fa) ⟨[.ref a],[]⟩) (λr s'=>r= .ok (.ret (.bool true))/\OldK s₁.heap s'.heap/\s'.os=s₁.os/\AllBare s'.gens) s₁:=by
 have rv:=Ki hi;have lenV:=hi.length;have core:∀H:Hp,Xe H->SqL K H a (ns.map V.int)->HOk P w H s₁.heap->(∀b,H b≠none->b=a)->(H a≠none->K.lookup a=none)->
   codeAny (model P w) callerA (.call (.ref fa) ⟨[.ref a],[]⟩) (λr s'=>r= .ok (.ret (.bool true))/\OldK s₁.heap s'.heap/\s'.os=s₁.os/\AllBare s'.gens) s₁:=by
  intro H hO hS hok hA hK;have base_of:∀{b:Addr} {o:Obj},s₁.heap.get? b=some o->H b=none->(Kv s₁.heap H).get? b=some o:=λe n=>Tv e n;have noA:∀{b:Addr} {o:Obj} {es:Array DictEntry} {ep:Nat},s₁.heap.get? b=some o->o.data= .dict es ep->H b=none:=λ{b o es ep} e d=>by
   cases q:H b with
   |none=>rfl
   |some u=>
    have e':b=a:=hA b (by rw[q];simp);subst e';rw[ha] at e;cases e;have d':Data.seq vs.toArray _=Data.dict es ep:=d;cases d'
  have nsK:∀{b:Addr} {m:Str->Option Value},s₁.heap.Ns b m->(Kv s₁.heap H).Ns b m:=λ{b m} ⟨o,es,ep,e,d,r⟩=>⟨o,es,ep,base_of e (noA e d),d,r⟩
  have hKb:K.In (Kv s₁.heap H):=λb o e=>base_of (KX b o e) (by
   cases q:H b with
   |none=>rfl
   |some u=>
    have e':b=a:=hA b (by rw[q];simp);subst e';rw[hK (by rw[q];simp)] at e;cases e)
  have hM:Mod K mg (Kv s₁.heap H):=⟨hKb,nsK hns,⟨mb,nsK hb,hbb⟩,let ⟨mc,h1,h2⟩:=hlim;⟨mc,nsK h1,h2⟩⟩
  have e0:V8 P w K mg (Kv s₁.heap H) callerA [] s₁ H:=⟨rfl,hM,λb o e=>V2 e,Nat.le_of_eq (Qn _ _),trivial,λb hb=>absurd (show b∈([]:List Addr) from hb) (by simp),hok,.of_eq hg⟩
  refine codeAny_mono ((F _ hKb (nsK hns)).run callerA [] s₁ H ⟨[.ref a],[]⟩ [.ref a] [.ref a] _ _ hr e0 (hbind s₁ (.ref a)) (.cons rfl .nil) (hsp H hO hS)) λr s' h=> ?_;cases r with
  |error e=>exact(hCX H e s' h).elim
  |ok fl=>
   cases fl with
   |next=>exact False.elim h
   |brk=>exact False.elim h
   |cont=>exact False.elim h
   |ret u=>
    obtain⟨v,H',os,bare,un,hok',r',q⟩:=h;have q':v= .bl true:=q;subst q';obtain rfl:u=Value.bool true:=r';refine⟨rfl,OldK.of_keep λb o e=> ?_,os,bare⟩;cases q:H b with
    |none=>exact un.keep b o e q (by intro z;exact absurd (show b∈([]:List Addr) from z) (by simp)) (by simp)
    |some u=>
     rcases hO b with z|⟨ob,xs,z⟩
     ·rw[q] at z;cases z
     ·have z2:=un.frzs b ob _ z;obtain⟨e1,_⟩:=hok b _ z;obtain⟨e2,_⟩:=hok' b _ z2;rw[e] at e1;cases e1;exact e2
 cases hk:K.lookup a with
 |some o=>
  have e:=KX a o hk;rw[ha] at e;cases e;refine core (λ_=>none) (λ_=> .inl rfl) (.inr ⟨_,vs.toArray,_,hk,rfl,rfl,rfl,by rw[size_toArray,lenV];exact hl,by simpa using rv⟩) (λb u z=>by have z':(none:Option HO)=some u:=z;cases z') (λb z=>absurd rfl z) λz=>absurd rfl z
 |none=>
  refine core (λb=>if b=a then some (.frz {cls:= .type "list",data:= .seq vs.toArray} (.lst (ns.map V.int))) else none) (λb=> ?_) (.inl (.inr ⟨{cls:= .type "list",data:= .seq vs.toArray},Yf rfl⟩)) (λb u z=> ?_) (λb z=> ?_) λ_=>hk
  ·by_cases hb:b=a
   ·exact .inr ⟨_,_,Yf hb⟩
   ·exact .inl (Lt hb)
  ·by_cases hb:b=a
   ·have z':=(Yf hb).symm.trans z;cases z';subst hb;exact⟨ha,by rw[If];exact hl,vs,_,rv,ha⟩
   ·have z':=(Lt hb).symm.trans z;cases z'
  ·by_cases hb:b=a
   ·exact hb
   ·exact absurd (Lt hb) z
theorem walk_of{l:PySem.W.OpenLaw}{n k:Nat}{q:Program}{loose:List Str}{XP:(Str->Option Value)->Heap->Prop}{YP:World->Heap->Prop}{d:DefRec}{K:Params->Frag}{CX:World->CXT}{sp:World->Sp}{x:Str}(hn:l.most=some n)(hn2:n<=sizeLine)(hdf:d.params.defaults=[])(hr:Room k callerA)(hY:∀(w:World) (h:Heap),YP w h->(K w.params).In h)(F:∀(w:World) (mg:Str->Option Value) (fa:Addr) (h:Heap),(K w.params).In h->h.Ns mainGlobals mg->mg d.name=some (.ref fa)->
   ∃fd:FuncData,(∀(s:Shared) (u:Value),BindsTo s fd ⟨[u],[]⟩ [(x,u)])/\
    ∀base:Heap,(K w.params).In base->base.Ns mainGlobals mg->FnOk l.prog w (K w.params) mg base (CX w) k fa fd [x] (sp w))(hsp:∀(w:World) (H:Hp) (a:Addr) (ns:List Int),ns.length<=n->Xe H->SqL (K w.params) H a (ns.map V.int)->sp w [.ref a] H (λv _=>v= .bl true) λ_ _ _=>False)(hCX:∀(w:World) (H:Hp) (s:Shared) (e:Value) (s':Shared),CX w [] H s (λ_ _ _=>False) e s'->False):
  PySem.W.WalkO q loose XP YP l.row.toRowW d [] (λf vs=>PySem.call f vs):=by
 refine Att.attach_call hn hdf λw s₀ s₁ mg mb fa o pm cd doc a vs ns G Y ho hd hcd hmg hobj hints hlen hg=> ?_;have KX:=hY w _ Y;obtain⟨fd,hb,hF⟩:=F w mg fa _ KX G.T.g hmg;exact Sv KX G.T.g G.T.b G.T.builtins G.T.nolimit hg hobj hints (le_trans hlen hn2) hr hF hb (λH hO hS=>hsp w H a ns hlen hO hS) λH e s'=>hCX w H s₁ e s'
end L2
namespace L2
open PySem PySem.Spec PyProof.Rows
def Au(s:Stmt):Arguments:=match s with
 | .FunctionDef _ a _ _ _ _ _ _ _ _=>a
 |_=>{posonlyargs:=[],args:=[],vararg:=none,kwonlyargs:=[],kw_defaults:=[],kwarg:=none,defaults:=[]}
def At(s:Stmt):List Stmt:=match s with
 | .FunctionDef _ _ b _ _ _ _ _ _ _=>b
 |_=>[]
def Ag(s:Stmt):Scope:=match s with
 | .FunctionDef _ _ _ _ _ _ sc _ _ _=>sc
 |_=>{kind:= .function,names:=[],isGenerator:=false,isCoroutine:=false}
abbrev CX0:CXT:=λ_ _ _ _ _ _=>False
abbrev E0:XK:=λ_ _ _=>False
theorem Ap{X:Cx}:Nc CX0 X E0:=λ_ _ _ _ _ _ _ h=>h.elim
structure Fun(K:Frag)(x qual:Str)(st:Stmt)(f:Addr)(fd:FuncData):Prop where
 ex:∃(oc:Value) (od:Option Addr) (kV doc pm:Value) (an:Option Addr) (cdv ct:Value) (osl:Array (Option Value)),
  fd=PySem.W.fnOf x qual (Au st) (At st) (Ag st) .none kV doc pm an cdv ct/\K.lookup f=some ⟨oc,od,.func fd,osl⟩/\PySem.W.codeIn K cdv qual=true
 kp:keepIn K (.ref f)=true
section
variable{P:Program}{w:World}{K:Frag}{mg:Str->Option Value}{base:Heap}
theorem Fun.ok{x qual:Str}{st:Stmt}{f:Addr}{fd:FuncData}{N ps:List Str}{k:Nat}{sp:Sp}(F:Fun K x qual st f fd)(S:Aw N ps (Ag st))(len:∀vs H Q E,sp vs H Q E->vs.length=ps.length)(hbody:∀(cdv:Value) (A:Around) (outer:List Env) (s:Shared) (H:Hp) (vs:List V) (Q:VK) (E:XK),Room k (A.deeper (envOfC qual (Ag st) s.heap.objs.size f cdv))->sp vs H Q E->
   ∃t,PSs (Qw CX0 P w K mg base N qual (Ag st) f cdv A outer s H E).nox (At st) t/\t {nx:=λ_ H'=>Q .non H',rt:=Q} (G0 N vs) H):FnOk P w K mg base CX0 (k+1) f fd ps sp:=by
 obtain⟨oc,od,kV,doc,pm,an,cdv,ct,osl,rfl,lk,hcd⟩:=F.ex;refine fn_of lk hcd S len λA outer s H vs Q E hr hsp=> ?_;obtain⟨t,h,q⟩:=hbody cdv A outer s H vs Q E hr hsp;exact⟨t,h.nox,q⟩
theorem Fun.binds{x qual:Str}{st:Stmt}{f:Addr}{fd:FuncData}{ps:List Str}(F:Fun K x qual st f fd)(h:∀(kV doc pm:Value) (an:Option Addr) (cdv ct:Value) (us:List Value),us.length=ps.length->bindArgs (PySem.W.fnOf x qual (Au st) (At st) (Ag st) .none kV doc pm an cdv ct) ⟨us,[]⟩=pure (ps.zip us)):Binds K fd ps []:=by
 obtain⟨oc,od,kV,doc,pm,an,cdv,ct,osl,rfl,lk,hcd⟩:=F.ex;exact .all (h kV doc pm an cdv ct)
theorem A4{x qual:Str}{st:Stmt}{f:Addr}{oc:Value}{od an:Option Addr}{osl:Array (Option Value)}{kV doc pm cdv ct:Value}(l:K.lookup f=some ⟨oc,od,.func (PySem.W.fnOf x qual (Au st) (At st) (Ag st) .none kV doc pm an cdv ct),osl⟩)(c:PySem.W.codeIn K cdv qual=true)(k:keepIn K (.ref f)=true):Fun K x qual st f (PySem.W.fnOf x qual (Au st) (At st) (Ag st) .none kV doc pm an cdv ct):=⟨⟨oc,od,kV,doc,pm,an,cdv,ct,osl,rfl,l,c⟩,k⟩
end
theorem G5{A:Around}{k:Nat}(hr:Room k A):A.units+1<cLine:=Nat.lt_of_le_of_lt (Nat.add_le_add_left (by decide:1<=64) _) hr.units
theorem Aq{n:Nat}(h:n<=1000):n<sizeLine:=Nat.lt_of_le_of_lt h (by decide)
section
variable{X:Cx}
theorem pv(i:Nat){x:Str}{pos:Pos}(hN:X.N[i]? =some x:=by rfl)(hv:Vis X.env.scope x:=by first|exact Or.inl rfl|exact Or.inr (Or.inl rfl)|exact Or.inr (Or.inr rfl))(hd:(x==("__debug__":Str))=false:=by decide)(hcd:(x==("__classdict__":Str))=false:=by decide):PE X (.Name x pos) (Oe i):=X4 hN hv hd hcd
theorem Go:Ca X (.builtin "len") (λxs H Q=>∃a kvs,xs=[V.ref a]/\H a=some (.dK kvs)/\Q (.int kvs.length) H):=by
 intro pins s σ H xs us Q I r h;obtain⟨a,kvs,rfl,ha,q⟩:=h;obtain⟨u,rfl,ru⟩:=Ck r;cases ru;exact d_len I (.inl ha) λt s' I'=>⟨.int kvs.length,H,I',⟨t,rfl⟩,q⟩
end
theorem Bp{A B:Prop}(h:B):if false=true then A else B:=by
 rw[Lt Bool.false_ne_true];exact h
theorem B9{A B:Prop}(h:A):if true=true then A else B:=by
 rw[Yf rfl];exact h
theorem Cy{c A B:Prop}[Decidable c](h1:c->A)(h2:¬c->B):if c then A else B:=by
 by_cases h:c
 ·rw[Yf h];exact h1 h
 ·rw[Lt h];exact h2 h
def Same(H H':Hp):Prop:=∀b o,H b=some o->H' b=some o
theorem Same.refl(H:Hp):Same H H:=λ_ _ h=>h
theorem Same.trans{H H1 H2:Hp}(a:Same H H1)(b:Same H1 H2):Same H H2:=λc o h=>b c o (a c o h)
def Ci(env:Env):List (Str×NameKind)->List (Str×Addr)->List (Str×Addr)
 |[],cs=>cs
 |(n,k)::r,cs=>Ci env r (if k= .free then (n,(env.cells.lookup n).getD 0)::cs else cs)
theorem J9{env:Env}:∀(ns:List (Str×NameKind)) (cs:List (Str×Addr)),(∀p∈ns,p.2= .free->(env.cells.lookup p.1).isSome=true)->
  (forIn ns cs λ(x:Str×NameKind) r=>(do
   let mut cs:=r
   if x.2== .free then cs:=(x.1,<-cellOf env x.1)::cs
   pure (ForInStep.yield cs):Sem (ForInStep (List (Str×Addr)))))=pure (Ci env ns cs)
 |[],cs,_=>rfl
 |(n,k)::r,cs,h=>by
  have ih:=λcs=>J9 (env:=env) r cs λp hp=>h p (Yn _ hp);rw[List.forIn_cons];by_cases hk:k= .free
  ·subst hk;have q:=h (n,.free) Yl rfl;obtain⟨c,hc⟩:=Zd.mp q;have e:cellOf env n=pure c:=by unfold cellOf;rw[hc]
   simp only[e];simp[Ci,hc,ih];have:=ih ((n,c)::cs);simpa using this
  ·have hb:(k==NameKind.free)=false:=by simpa using hk
   simp[Ci,hk];have:=ih cs;simpa using this
theorem Fk{scope:Scope}{env:Env}(h:∀p∈scope.names,p.2= .free->(env.cells.lookup p.1).isSome=true):closureFor scope env=pure (Ci env scope.names []):=by
 have q:=J9 (env:=env) scope.names [] h;unfold closureFor;simp at q ⊢;exact q
theorem Hs{env:Env}:∀(ns:List (Str×NameKind)) (cs:List (Str×Addr)),(∀p∈ns,p.2= .free->(env.cells.lookup p.1).isSome=true)->(∀y c,cs.lookup y=some c->env.cells.lookup y=some c)->
  ∀y c,(Ci env ns cs).lookup y=some c->env.cells.lookup y=some c
 |[],cs,_,h,y,c,e=>h y c e
 |(n,k)::r,cs,h,hc,y,c,e=>by
  unfold Ci at e;refine Hs r _ (λp hp=>h p (Yn _ hp)) ?_ y c e;intro y c e;by_cases hk:k= .free
  ·subst hk;rw[Yf rfl] at e;obtain⟨d,hd⟩:=Zd.mp (h (n,.free) Yl rfl);rw[List.lookup_cons] at e;cases q:y==n with
   |true=>
    rw[q] at e;have:y=n:=by simpa using q
    subst this;rw[hd] at e ⊢;exact e
   |false=>
    rw[q] at e;exact hc y c e
  ·rw[Lt hk] at e;exact hc y c e
theorem G1{env:Env}{y:Str}:∀(ns:List (Str×NameKind)) (cs:List (Str×Addr)),(cs.lookup y).isSome=true->((Ci env ns cs).lookup y).isSome=true
 |[],cs,h=>h
 |(n,k)::r,cs,h=>by
  unfold Ci;refine G1 r _ ?_;split
  ·rw[List.lookup_cons];split
   ·rfl
   ·exact h
  ·exact h
theorem Fa{env:Env}{y:Str}:∀(ns:List (Str×NameKind)) (cs:List (Str×Addr)),(y,NameKind.free)∈ns->((Ci env ns cs).lookup y).isSome=true
 |(n,k)::r,cs,h=>by
  unfold Ci;rcases Ym.mp h with e|e
  ·cases e;refine G1 r _ ?_;rw[Yf rfl,List.lookup_cons];simp
  ·exact Fa r _ e
def Bz(X:Cx)(scope:Scope)(N:List Str)(C:Addr)(s:Shared)(H:Hp)(ex:List Addr)(pins:List (Addr×Obj)):Cx where
 prog:=X.prog
 w:=X.w
 K:=X.K
 mg:=X.mg
 base:=X.base
 A:=X.A
 N:=N
 s₀:=s
 H₀:=H
 env:=compEnvC scope (Ci X.env scope.names []) C X.env
 outer:=X.stack
 stack:=X.stack
 ex:=ex
 fn:=λ_=>false
 calm:=X.calm
 pn:=X.pn++pins
 xe:=λ_ _=>False
def cst(nT:Nat)(js:List Nat)(σ:St):St:=replicate nT none++js.map λj=>(σ[j]?).join
structure Hz(X:Cx)(scope:Scope)(T F:List Str)(js:List Nat):Prop where
 kind:scope.kind= .function
 nocell:∀y∈scope.names,y.2≠ .cell
 names:∀x∈scope.names,x.2= .local->scope.names.lookup x.1=some .local
 free:∀x∈scope.names,x.2= .free->X.env.kindOf x.1=some .cell
 loc:∀y∈T,(relabel scope X.env).names.lookup y=some .local
 cel:∀y∈F,(relabel scope X.env).names.lookup y=some .cell/\X.env.kindOf y=some .cell/\(y,NameKind.free)∈scope.names
 all:∀x∈(relabel scope X.env).names,(x.2= .cell\/x.2= .free)->(x.1,NameKind.free)∈scope.names
 js:js.map (λj=>X.N[j]?)=F.map some
section
variable{X:Cx}{scope:Scope}{T F:List Str}{js:List Nat}
theorem Sy{pins:List (Addr×Obj)}{σ:St}{H:Hp}{s:Shared}{h1:Heap}{tk:Nat}{fp:List Addr}{m:Str->Option Value}(S:Hz X scope T F js)(I:Inv X pins σ H s)(hn:h1.Ns s.heap.objs.size m)(kk:∀b o,s.heap.get? b=some o->h1.get? b=some o)(hf:∀b∈fp,FpOk X pins H b/\∃o,s.heap.get? b=some o/\∀v,o.data≠ .cell v):
  Inv (Bz X scope (T++F) s.heap.objs.size s H fp pins) [] (cst T.length js σ) H {s with heap:=h1,toks:=tk}:=by
 have sub:=Hs (env:=X.env) scope.names [] (λp hp hk=>by
  obtain⟨c,e⟩:=I.ok.has p.1 (.inl (S.free p hp hk));rw[e];rfl) (λy c e=>by simp at e)
 have ltC:∀y c,X.env.cells.lookup y=some c->c<s.heap.objs.size:=λy c e=>by
  obtain⟨v,z⟩:=I.cell y c e;exact z.lt
 refine⟨⟨I.ok.mod,?_,I.ok.glob,I.ok.blt,le_refl _,λx y c e1 e2=>I.ok.inj x y c (sub x c e1) (sub y c e2),λx hx=> ?_,λx c hx=>absurd hx Bool.false_ne_true,I.ok.hd,I.ok.frames,.inl rfl,λb hb=> ?_,I.bs,?_,λb o e hb=> ?_,λb hb hs=> ?_,I.stack,I.stkFree⟩,
  rfl,I.bare,Un.kept kk,⟨m,hn,λi x v e1 e2 e3=> ?_⟩,λx c e=> ?_,I.hok.fresh (le_refl _),λx c e=>I.freeC x c (sub x c e),λp hp=> ?_,I.hok.kept kk,?_⟩
 ·show (relabel scope X.env).kind= .function;exact S.kind
 ·have hx:(relabel scope X.env).names.lookup x=some .cell\/(relabel scope X.env).names.lookup x=some .free:=hx;have hm:(x,NameKind.free)∈scope.names:=by
   rcases hx with h|h
   ·exact S.all _ (PySem.mem_of_lookup h) (.inl rfl)
   ·exact S.all _ (PySem.mem_of_lookup h) (.inr rfl)
  exact Zd.mp (Fa scope.names [] hm)
 ·obtain⟨⟨f0,f1,f2,f3,f4,f5⟩,o,ho,_⟩:=hf b hb;exact⟨ne_of_lt (Yj ho),λx c e=>f4 x c (sub x c e)⟩
 ·exact le_trans I.ok.bsz I.sz
 ·obtain⟨⟨f0,f1,f2,f3,f4,f5⟩,_⟩:=hf b hb;rcases f3 with z|z
  ·exact I.ok.noex b o e z
  ·exact absurd (lt_of_lt_of_le (Yj e) (le_trans I.ok.bsz z)) (lt_irrefl _)
 ·obtain⟨⟨f0,f1,f2,f3,f4,f5⟩,_⟩:=hf b hb;rcases Ym.mp (I.stkSub b hs) with z|z
  ·exact f1 z
  ·exact f2 z
 ·-- a name's value
  have hi:T.length<=i:=by
   by_cases hi:i<T.length
   ·unfold cst at e2;rw[List.getElem?_append_left (by simpa using hi),getElem?_replicate] at e2;split at e2<;> cases e2
   ·exact not_lt.mp (by assumption)
  obtain⟨k,rfl⟩:∃k,i=T.length+k:=⟨i - T.length,by omega⟩
  have e1:(T++F)[T.length+k]? =some x:=e1;rw[getElem?_append_right (by assumption)] at e1;have e1:F[k]? =some x:=by simpa using e1
  unfold cst at e2;rw[getElem?_append_right (by simp)] at e2;have e2:(js.map λj=>(σ[j]?).join)[k]? =some (some v):=by simpa using e2
  rw[getElem?_map] at e2;cases ej:js[k]? with
  |none=>rw[ej] at e2;cases e2
  |some j=>
   rw[ej] at e2;have e2:(σ[j]?).join=some v:=by simpa using e2
   have e3':σ[j]? =some (some v):=by
    cases q:σ[j]? with
    |none=>rw[q] at e2;cases e2
    |some z=>rw[q] at e2;cases z with
     |none=>cases e2
     |some z=>simp at e2;rw[e2]
   have eN:X.N[j]? =some x:=by
    have q:=Y2 (λl=>l[k]?) S.js;simp only[getElem?_map,ej,e1] at q;simpa using q
   obtain⟨c1,c2,c3⟩:=S.cel x (mem_of_getElem? e1);obtain⟨m0,hn0,hl⟩:=I.loc;obtain⟨u,ru,lk⟩:=hl j x v eN e3' (.inr (.inl c2));refine⟨u,ru,?_⟩;rcases lk with⟨z,_⟩|⟨_,c,ec,hc⟩
   ·rw[c2] at z;cases z
   ·obtain⟨c',ec'⟩:=Zd.mp (Fa (env:=X.env) scope.names [] c3);have:=sub x c' ec';rw[ec] at this;cases this;refine .inr ⟨.inl c1,c,ec',?_⟩;obtain⟨o,ho,hd⟩:=hc;exact⟨o,kk _ _ ho,hd⟩
 ·obtain⟨v,o,ho,hd⟩:=I.cell x c (sub x c e);exact⟨v,o,kk _ _ ho,hd⟩
 ·have hp:p∈(X.pn++pins)++[]:=hp;rw[Zg] at hp;obtain⟨e,n,ne,nf,d⟩:=I.pin p hp;refine⟨kk _ _ e,n,ne_of_lt (Yj e),λz=> ?_,d⟩;rcases Ym.mp (I.stkSub p.1 z) with q|q
  ·exact ne q
  ·exact nf q
 ·unfold cst;show _=(T++F).length;have q:=Y2 length S.js;simp at q;simp[q]
def PIf(X:Cx)(ifs:List Expr)(t:TT):Prop:=
 ∀(pins:List (Addr×Obj)) (s:Shared) (σ:St) (H:Hp) (Q:Bool->Hp->Prop),Inv X pins σ H s->t σ H Q->
  wpAny (model X.prog X.w) X.A (forIn ifs true λc r=>if r=true then do let ok <-isTrue c X.env (eval c X.env);pure (ForInStep.yield ok) else pure (ForInStep.yield r)) (TP X pins σ Q) X.xe s
def tYes:TT:=λ_ H Q=>Q true H
theorem Dg:PIf X [] tYes:=λpins s σ H Q I h=>wpAny_tests_nil ⟨H,I,h⟩
theorem Dh{c:Expr}{t:TT}(h:PT X c t):PIf X [c] t:=λpins s σ H Q I hw=>wpAny_tests_one (h pins s σ H Q I hw)
def Kc(g:TG)(ti:TT)(te:TE)(D:Addr)(x:V)(σ:St)(ys:List V)(H:Hp)(N:St->List V->Hp->Prop):Prop:=
 g x σ H λσ2 H2=>ti σ2 H2 λb H3=>if b=true then te σ2 H3 λy H4=>H4 D=some (.lst ys)/\ys.length<sizeLine/\N σ2 (ys++[y]) (upd H4 D (.lst (ys++[y]))) else N σ2 ys H3
def cgo(J:It)(g:TG)(ti:TT)(te:TE)(D:Addr)(σ:St)(H:Hp)(Q:VK):Prop:=
 ∃W:Nat->Nat->St->List V->Hp->Prop,(∃m,W 0 m σ [] (upd H D (.lst [])))/\∀i m σ ys H,W i m σ ys H->H D=some (.lst ys)/\
  ((J.stop i H/\Q (.ref D) H)\/(J.go i H/\∃N:St->List V->Hp->Prop,(∀σ' ys' H',N σ' ys' H'->∃m',m'<m/\W (i+1) m' σ' ys' H')/\∀x H',J.yld i H x H'->Kc g ti te D x σ ys H' N))
def Rm(wi:TI)(g:TG)(ti:TT)(te:TE)(nT:Nat)(js:List Nat):TE:=λσ H Q=>wi σ H λJ H1=>∀D,H1 D=none->cgo J g ti te D (cst nT js σ) H1 Q
theorem Ud{pins:List (Addr×Obj)}{σ σ':St}{H H':Hp}{s s':Shared}{h':Heap}{N:List Str}{fp:List Addr}(I:Inv X pins σ H s)(hf:∀b∈fp,FpOk X pins H b)(J:Inv (Bz X scope N s.heap.objs.size s H fp pins) [] σ' H' s')(sb:SameBut s.heap.objs.size s'.heap h'):Inv X pins σ H' {s' with heap:=h'}:=by
 have ne:∀b o,s.heap.get? b=some o->b≠s.heap.objs.size:=λb o e=>ne_of_lt (Yj e);have u:=J.base;have u':Un (frs X.stack) fp H H' s.heap h':=
  ⟨λb o e n h1 h2=>sb.extBut b o (ne b o e) (u.keep b o e n h1 h2),λb o e n h1 h2=>by
   obtain⟨sl,q⟩:=u.slot b o e n h1 h2;exact⟨sl,sb.extBut b _ (ne b o e) q⟩,u.free,λb o e h=>by
   obtain⟨o',q⟩:=u.there b o e h;exact⟨o',sb.extBut b _ (ne b o e) q⟩,u.tups,u.frzs,u.tbls⟩
 have nC:H' s.heap.objs.size=none:=J.free;have hok:HOk X.prog X.w H' h':=λb o e=>by
  refine(J.hok b o e).stay (λc v hc q=>sb.extBut c v ?_ q) (λ_ q=>q) λ_ _ q=>q;rcases hc with z|z
  ·rw[z];intro z';rw[z',nC] at e;cases e
  ·intro z';rw[z',nC] at z;cases z
 exact I.call' (s':={s' with heap:=h'}) J.os u' hok J.bare λb hb=>by
  obtain⟨f0,f1,f2,f3,f4,f5⟩:=hf b hb;exact⟨f3,f1,f4,f5⟩
theorem Pp{tg elt iter:Expr}{ifs:List Expr}{pos:Pos}{g:TG}{ti:TT}{te:TE}{wi:TI}{pins:List (Addr×Obj)}{σ:St}{H:Hp}{s:Shared}{use:Option (Value->Sem Unit)}{QQ:Value->Shared->Prop}{Q:VK}(S:Hz X scope T F js)(hc:X.calm=true)(hi:PI X tg iter wi)(hg:∀C s H ex pins,PG (Bz X scope (T++F) C s H ex pins) tg g)(hif:∀C s H ex pins,PIf (Bz X scope (T++F) C s H ex pins) ifs ti)(he:∀C s H ex pins,PE (Bz X scope (T++F) C s H ex pins) elt te)(I:Inv X pins σ H s)(h:Rm wi g ti te T.length js σ H Q)(fin:∀(D C:Addr) (s':Shared) (H':Hp) (m:Str->Option Value),s'.heap.Ns C m->Q (.ref D) H'->FpOk X pins H' C->(∀h',SameBut C s'.heap h'->Inv X pins σ H' {s' with heap:=h'})->
   compPost (model X.prog X.w) X.A X.xe use QQ (.ref D) C (.ok .next) s')(hs:∀x,foldedSetIterable iter X.env x=pure x):
  wpAny (model X.prog X.w) X.A (comprehension (.ListComp elt [⟨tg,iter,ifs,0⟩] scope pos) scope X.env (firstIterPos [⟨tg,iter,ifs,0⟩] pos) (newList []) false (eval iter X.env) use) QQ X.xe s:=by
 refine wpAny_comprehension_free (use:=use) rfl hs (Fk λp hp hk=> ?_) S.kind S.names (thn (hi pins s σ H _ I h) λv s1 h1=>thn h1 λitv s2 h2=> ?_)
 ·obtain⟨c,e⟩:=I.ok.has p.1 (.inl (S.free p hp hk));rw[e];rfl
 obtain⟨it,fp,tn,J,H2,rfl,I2,Tn,st2,f2,h2⟩:=h2;obtain⟨W,⟨m0,w0⟩,turn⟩:=h2 s2.heap.objs.size I2.fresh;refine Yw (wpAny_newFunctionEnv S.nocell (by intro y hy;simp at hy) (λh₁ hns₁ hsb₁=> ?_) S.kind);have I3:=I2.lnew (t':=s2.toks) (ys:=[]) (its:=[]) Paired.nil (Y0 _);generalize hs3:({s2 with heap:=s2.heap.push {cls:= .type "list",data:= .seq ([]:List Value).toArray},toks:=s2.toks}:Shared)=s3 at I3;have hf3:∀b∈fp,FpOk X pins (upd H2 s2.heap.objs.size (.lst [])) b/\∃o,s3.heap.get? b=some o/\∀v,o.data≠ .cell v:=λb hb=>by
  obtain⟨f0,fr⟩:=f2 b hb;obtain⟨o,e,d⟩:=Tn.obj _ _ st2 b hb;refine⟨⟨by rw[Aj (ne_of_lt (Yj e))];exact f0,fr⟩,o,?_,d⟩;rw[<-hs3];exact Is _ e
 have e3:s3.heap=s2.heap.push {cls:= .type "list",data:= .seq ([]:List Value).toArray}:=by rw[<-hs3]
 have kk:∀b o,s3.heap.get? b=some o->h₁.get? b=some o:=λb o e=>by
  rw[e3] at e;exact hsb₁.extBut b o (ne_of_lt (Yj e)) (Is _ e)
 have hns:h₁.Ns s3.heap.objs.size (λx=>([]:List (Str×Value)).reverse.lookup x):=by rw[e3];exact hns₁
 have I4:=Sy (tk:=s3.toks+([]:List (Str×Value)).length) S I3 hns kk hf3;have stat:∀{H':Hp} {pl:List (Addr×Obj)},(∀p∈pl,∀b∈fp,p.1≠b)->(∀b∈fp,H' b=none)->∀b∈fp,FpOk (Bz X scope (T++F) s3.heap.objs.size s3 (upd H2 s2.heap.objs.size (.lst [])) fp pins) pl H' b:=λ{H' pl} hp hn b hb=>by
  obtain⟨⟨f0,f1,f2,f3,f4,f5⟩,o,e,d⟩:=hf3 b hb;obtain⟨x1,x2⟩:=I4.ok.exf b hb;refine⟨hn b hb,x1,I4.ok.exfs b hb,.inl hb,x2,λp hq=> ?_⟩;rcases mem_append.mp hq with z|z
  ·exact f5 p z
  ·exact hp p z b hb
 have loop:codeAny (model X.prog X.w) X.A (.compLoop (.ListComp elt [⟨tg,iter,ifs,0⟩] scope pos) 0 (.ref it) (.ref s2.heap.objs.size) (compEnvC scope (Ci X.env scope.names []) s3.heap.objs.size X.env))
   (compPost (model X.prog X.w) X.A X.xe use QQ (.ref s2.heap.objs.size) s3.heap.objs.size) {s3 with heap:=h₁,toks:=s3.toks+([]:List (Str×Value)).length}:=by
  refine codeAny_loop rfl (λn s'=>∃i σ' ys H',Inv (Bz X scope (T++F) s3.heap.objs.size s3 (upd H2 s2.heap.objs.size (.lst [])) fp pins) [] σ' H' s'/\tn i s'.heap/\(∀b∈fp,H' b=none)/\W i n σ' ys H') ?_ m0 ⟨0,_,[],_,I4,?_,λb hb=>(hf3 b hb).1.1,w0⟩
  ·rintro n s5 ⟨i,σ5,ys,H5,I5,st5,fr5,w5⟩;show wpAny _ X.A ((compTurn (.ListComp elt [⟨tg,iter,ifs,0⟩] scope pos) 0 (.ref it) (.ref s2.heap.objs.size) (compEnvC scope (Ci X.env scope.names []) s3.heap.objs.size X.env)).onRaise (λx=>do noteFrame x _;theTreesLotGoes x)) _ _ s5;refine wpAny_noted ?_;rw[compTurn_list];refine Gt (wpAny_standAt (Gt ?_));obtain⟨hD,tu⟩:=turn i n σ5 ys H5 w5;rcases tu with⟨stop,qq⟩|⟨go,NN,hNN,step⟩
   ·refine thn (Tn.done (Bz X scope (T++F) s3.heap.objs.size s3 (upd H2 s2.heap.objs.size (.lst [])) fp pins) rfl rfl rfl hc i [] s5 σ5 H5 _ I5 (stat (pl:=[]) (λ_ hp=>absurd hp not_mem_nil) fr5) st5 stop) λr s6 ⟨hr,I6⟩=> ?_;subst hr;refine Yg ?_;obtain⟨m6,hn6,_⟩:=I6.loc;have lC:s.heap.objs.size<=s.heap.objs.size:=le_refl _;exact fin _ _ s6 H5 m6 hn6 qq (I3.fpOk (le_refl _) I6.free) λh' sb=>Ud I3 (λb hb=>(hf3 b hb).1) I6 sb
   ·refine thn (Tn.item (Bz X scope (T++F) s3.heap.objs.size s3 (upd H2 s2.heap.objs.size (.lst [])) fp pins) rfl rfl rfl hc i [] s5 σ5 H5 _ I5 (stat (pl:=[]) (λ_ hp=>absurd hp not_mem_nil) fr5) st5 go) λr s6 ⟨u,hr,h6⟩=> ?_;subst hr;refine Gt (thn h6 λ_ s7 ⟨x,H7,I7,r7,y7,st7,fr7⟩=> ?_);have I7':=I7.pinned (stat (pl:=[]) (λ_ hp=>absurd hp not_mem_nil) fr7) (Tn.obj _ _ st7);have back:∀{σ8:St} {H8:Hp} {s8:Shared} {ys8:List V} {m':Nat},Inv (Bz X scope (T++F) s3.heap.objs.size s3 (upd H2 s2.heap.objs.size (.lst [])) fp pins) ([]++Hr fp s7.heap) σ8 H8 s8->m'<n->W (i+1) m' σ8 ys8 H8->
      ∃m,m<n/\∃i σ' ys H',Inv (Bz X scope (T++F) s3.heap.objs.size s3 (upd H2 s2.heap.objs.size (.lst [])) fp pins) [] σ' H' s8/\tn i s8.heap/\(∀b∈fp,H' b=none)/\W i m σ' ys H':=λ{σ8 H8 s8 ys8 m'} I8 hm w8=>by
     refine⟨m',hm,i+1,σ8,ys8,H8,I8.unpinned,Tn.keep _ _ _ st7 λb hb o e=>(I8.pin (b,o) (mem_append_right _ (mem_append_right _ (Dz hb e)))).1,λb hb=> ?_,w8⟩;obtain⟨o,e,d⟩:=Tn.obj _ _ st7 b hb;exact(I8.pin (b,o) (mem_append_right _ (mem_append_right _ (Dz hb e)))).2.1
    refine Gt (Y8 (hg _ _ _ _ _ _ s7 σ5 H7 x u _ I7' r7 (step x H7 y7)) (λ_ s8 ⟨σ8,H8,I8,q8⟩=> ?_) λ_ _ z=>z.elim);refine Gt (Y8 (hif _ _ _ _ _ _ s8 σ8 H8 _ I8 q8) (λok s9 ⟨H9,I9,q9⟩=> ?_) λ_ _ z=>z.elim);cases ok with
    |false=>
     rw[Lt Bool.false_ne_true] at q9;obtain⟨m',hm,w9⟩:=hNN _ _ _ q9;exact Yg ⟨rfl,back I9 hm w9⟩
    |true=>
     rw[Yf rfl] at q9;refine Gt (Gt (Y8 (he _ _ _ _ _ _ s9 σ8 H9 _ I9 q9) (λyv s10 ⟨y,H10,I10,r10,d10,l10,q10⟩=> ?_) λ_ _ z=>z.elim));obtain⟨m',hm,w10⟩:=hNN _ _ _ q10;obtain⟨z10,its,n10,rv,el,eo⟩:=I10.lstM d10;refine Gt (wpAny_list_append_plain (items:=its.toArray) ⟨n10,eo⟩ (λh' hl' sb'=> ?_) (by simp;omega));obtain⟨n11,eo'⟩:=hl';have I11:=I10.write (x:=s2.heap.objs.size) (e:=s2.heap.objs.size) (o:= .lst (ys++[y])) (t':=s10.toks) (by rw[d10];exact trivial) (.inl rfl) (λb o hb e=>sb'.extBut b o hb e) ⟨_,eo'⟩ ⟨by simp;assumption,its++[yv],n11,rv.append (.cons r10 .nil),by simpa using eo'⟩;exact Yg (Yg ⟨rfl,back I11 hm w10⟩)
  ·refine Tn.keep _ _ _ st2 λb hb o e=>kk b o ?_;rw[e3];exact Is _ e
 have st1:tn 0 h₁:=Tn.keep _ _ _ st2 λb hb o e=>kk b o (by rw[e3];exact Is _ e);exact codeAny_compStart_list loop (Tn.self _ 0 _ _ _ st1 loop)
theorem Cu{tg elt iter:Expr}{ifs:List Expr}{pos:Pos}{g:TG}{ti:TT}{te:TE}{wi:TI}(S:Hz X scope T F js)(hc:X.calm=true)(hi:PI X tg iter wi)(hg:∀C s H ex pins,PG (Bz X scope (T++F) C s H ex pins) tg g)(hif:∀C s H ex pins,PIf (Bz X scope (T++F) C s H ex pins) ifs ti)(he:∀C s H ex pins,PE (Bz X scope (T++F) C s H ex pins) elt te)(hs:∀x,foldedSetIterable iter X.env x=pure x:=by intro _;rfl):PE X (.ListComp elt [⟨tg,iter,ifs,0⟩] scope pos) (Rm wi g ti te T.length js):=by
 intro pins s σ H Q I h;rw[eval_ListComp];exact Pp (use:=none) S hc hi hg hif he I h (λD C s' H' m hn q _ hinv=>⟨m,hn,λh' sb=>⟨.ref D,H',hinv h' sb,rfl,q⟩⟩) hs
theorem Dy{i:Nat}{x:Str}{pos' spos:Pos}{tg elt iter:Expr}{ifs:List Expr}{pos:Pos}{g:TG}{ti:TT}{te:TE}{wi:TI}(hN:X.N.Nodup)(hx1:X.N[i]? =some x)(hx2:Loc X.env.scope x)(S:Hz X scope T F js)(hc:X.calm=true)(hi:PI X tg iter wi)(hg:∀C s H ex pins,PG (Bz X scope (T++F) C s H ex pins) tg g)(hif:∀C s H ex pins,PIf (Bz X scope (T++F) C s H ex pins) ifs ti)(he:∀C s H ex pins,PE (Bz X scope (T++F) C s H ex pins) elt te)(hsw:swapsWith (.ListComp elt [⟨tg,iter,ifs,0⟩] scope pos) (some (.Name x pos')) spos.line X.env=pure true:=by rfl)(hf:X.fn x=true\/X.env.scope.names.lookup x=some .local:=by first|exact .inl rfl|exact .inr rfl|assumption)(hs:∀x,foldedSetIterable iter X.env x=pure x:=by intro _;rfl):PS X (.Assign [.Name x pos'] (.ListComp elt [⟨tg,iter,ifs,0⟩] scope pos) spos) (Vf (Rm wi g ti te T.length js) (gName i)):=by
 intro pins s σ H D I h;rw[exec_Assign_Name_used _ _ _ _ hsw];refine Gt (wpAny_standAt (Gt ?_));show wpAny _ X.A (do let _ <-comprehension (.ListComp elt [⟨tg,iter,ifs,0⟩] scope pos) scope X.env _ (newList []) false (eval iter X.env) (some (assign (.Name x pos') X.env))) _ _ s;refine Gt (Y8 (Pp (use:=some (assign (.Name x pos') X.env)) (QQ:=λ_ s'=>SP X pins D .next s') S hc hi hg hif he I h (λd C s' H' m hn q fC hinv=> ?_) hs) (λ_ s' hq=>Yg (Yg hq)) λ_ _ e=>e);have I1:Inv X pins σ H' s':=hinv s'.heap (SameBut.refl ..);obtain⟨oC,es,ep,ho,hd,hr⟩:=id hn;obtain⟨f0,f1,f2,f3,f4,f5⟩:=fC;have I2:Inv X (pins++[(C,oC)]) σ H' s':=I1.pins_of λp hp=>(mem_append.mp hp).elim (λz=>I1.pin p (mem_append_right _ z)) λz=>by
  have e:=mem_singleton.mp z;subst e;exact⟨ho,f0,f1,f2,λv z=>by rw[hd] at z;cases z⟩
 show wpAny _ X.A (assign (.Name x pos') X.env (.ref d)) _ _ _;refine wpAny_assign_Name (Ei (v:= .ref d) I2 hN hx1 hx2 rfl (λs'' I''=> ?_) hf);have e2:=(I''.pin (C,oC) (mem_append_right _ (mem_append_right _ (mem_singleton.mpr rfl)))).1;refine⟨m,⟨oC,es,ep,e2,hd,hr⟩,λh' sb=> ?_⟩;exact⟨_,H',I''.unpinned.turned (t':=s''.toks) (it:=C) (λb o hb e=>sb.extBut b o hb e) f0 f1 f3 f4 f5,q⟩
end
section
variable{g:TG}{ti:TT}{te:TE}{Q:VK}{D:Addr}{σ:St}{H:Hp}
theorem Kn{K:Frag}{a:Addr}{xs:List V}(Pv:Nat->St->List V->Hp->Prop)(h0:Pv 0 σ [] (upd H D (.lst [])))(hl:∀i σ ys H,i<=xs.length->Pv i σ ys H->SqL K H a xs/\H D=some (.lst ys))(hs:∀i x σ ys H,xs[i]? =some x->Pv i σ ys H->Kc g ti te D x σ ys H (Pv (i+1)))(hd:∀σ ys H,Pv xs.length σ ys H->Q (.ref D) H):
  cgo (Itl K a) g ti te D σ H Q:=by
 refine⟨λi m σ ys H=>m=xs.length - i/\i<=xs.length/\Pv i σ ys H,⟨xs.length,by simp,Y0 _,h0⟩,?_⟩;rintro i m σ ys H ⟨rfl,hi,p⟩;obtain⟨q,hD⟩:=hl i σ ys H hi p;refine⟨hD,?_⟩;by_cases hlt:i<xs.length
 ·refine .inr ⟨⟨xs,xs[i],q,by simp[hlt]⟩,Pv (i+1),λσ' ys' H' p'=>⟨xs.length - (i+1),by omega,rfl,hlt,p'⟩,λx H' y=> ?_⟩;obtain⟨e,y⟩:=y;subst e;exact(hs i x σ ys _ (y xs q) p)
 ·have e:i=xs.length:=by omega
  subst e;exact .inl ⟨⟨xs,q,le_refl _⟩,hd σ ys H p⟩
theorem Dq{K:Frag}{a:Addr}{xs:List V}(Pv:Nat->St->List V->Hp->Prop)(h0:Pv 0 σ [] (upd H D (.lst [])))(hl:∀i σ ys H,i<=xs.length->Pv i σ ys H->SqT K H a xs/\H D=some (.lst ys))(hs:∀i x σ ys H,xs[i]? =some x->Pv i σ ys H->Kc g ti te D x σ ys H (Pv (i+1)))(hd:∀σ ys H,Pv xs.length σ ys H->Q (.ref D) H):
  cgo (Itt K a) g ti te D σ H Q:=by
 refine⟨λi m σ ys H=>m=xs.length - i/\i<=xs.length/\Pv i σ ys H,⟨xs.length,by simp,Y0 _,h0⟩,?_⟩;rintro i m σ ys H ⟨rfl,hi,p⟩;obtain⟨q,hD⟩:=hl i σ ys H hi p;refine⟨hD,?_⟩;by_cases hlt:i<xs.length
 ·refine .inr ⟨⟨xs,xs[i],q,by simp[hlt]⟩,Pv (i+1),λσ' ys' H' p'=>⟨xs.length - (i+1),by omega,rfl,hlt,p'⟩,λx H' y=> ?_⟩;obtain⟨e,y⟩:=y;subst e;exact(hs i x σ ys _ (y xs q) p)
 ·have e:i=xs.length:=by omega
  subst e;exact .inl ⟨⟨xs,q,le_refl _⟩,hd σ ys H p⟩
theorem C3{lo:Int}{n:Nat}(Pv:Nat->St->List V->Hp->Prop)(h0:Pv 0 σ [] (upd H D (.lst [])))(hl:∀i σ ys H,i<=n->Pv i σ ys H->H D=some (.lst ys))(hs:∀i σ ys H,i<n->Pv i σ ys H->Kc g ti te D (.int (lo+i)) σ ys H (Pv (i+1)))(hd:∀σ ys H,Pv n σ ys H->Q (.ref D) H):
  cgo (Itr lo n) g ti te D σ H Q:=by
 refine⟨λi m σ ys H=>m=n - i/\i<=n/\Pv i σ ys H,⟨n,by simp,Y0 _,h0⟩,?_⟩;rintro i m σ ys H ⟨rfl,hi,p⟩;have hD:=hl i σ ys H hi p;refine⟨hD,?_⟩;by_cases hlt:i<n
 ·refine .inr ⟨hlt,Pv (i+1),λσ' ys' H' p'=>⟨n - (i+1),by omega,rfl,hlt,p'⟩,λx H' y=> ?_⟩;obtain⟨e,y⟩:=y;subst e y;exact(hs i σ ys _ hlt p)
 ·have e:i=n:=by omega
  subst e;exact .inl ⟨le_refl _,hd σ ys H p⟩
end
mutual
inductive Rep(K:Frag)(H:Hp):V->PyData->Prop
 |non:Rep K H .non .none
 |bl (b:Bool):Rep K H (.bl b) (.bool b)
 |int (i:Int):Rep K H (.int i) (.int i)
 |str (x:Str):Rep K H (.str x) (.str x)
 |lst {a:Addr} {xs:List V} {ds:List PyData}:SqL K H a xs->RepAll K H xs ds->Rep K H (.ref a) (.list ds)
 |tup {a:Addr} {xs:List V} {ds:List PyData}:SqT K H a xs->RepAll K H xs ds->Rep K H (.ref a) (.tuple ds)
inductive RepAll(K:Frag)(H:Hp):List V->List PyData->Prop
 |nil:RepAll K H [] []
 |cons {x:V} {xs:List V} {d:PyData} {ds:List PyData}:Rep K H x d->RepAll K H xs ds->RepAll K H (x::xs) (d::ds)
end
mutual
theorem Rep.reads{X:Cx}{pins:List (Addr×Obj)}{σ:St}{H:Hp}{s:Shared}(I:Inv X pins σ H s):∀{v:V} {d:PyData} {u:Value},Rep X.K H v d->RelV v u->∃as,Reads s.heap u d as
 |_,_,_,.non,r=>by cases r;exact⟨_,.none⟩
 |_,_,_,.bl b,r=>by cases r;exact⟨_,.bool b⟩
 |_,_,_,.int i,r=>by obtain⟨t,rfl⟩:=r;exact⟨_,.int i t⟩
 |_,_,_,.str x,r=>by obtain⟨t,rfl⟩:=r;exact⟨_,.str x t⟩
 |_,_,_,.lst hq hx,r=>by
  cases r;obtain⟨its,rv,hl,hz⟩:=I.list hq;obtain⟨as,ra⟩:=RepAll.reads I hx rv;obtain⟨o,ho,hc,n,hd⟩:=hl.isList;exact⟨_,.list ho hc hd ra⟩
 |_,_,_,.tup hq hx,r=>by
  cases r;obtain⟨its,rv,hl,hz⟩:=I.tuple hq;obtain⟨as,ra⟩:=RepAll.reads I hx rv;obtain⟨o,ho,hc,n,hd⟩:=hl;exact⟨_,.tuple ho hc hd ra⟩
theorem RepAll.reads{X:Cx}{pins:List (Addr×Obj)}{σ:St}{H:Hp}{s:Shared}(I:Inv X pins σ H s):∀{xs:List V} {ds:List PyData} {us:List Value},RepAll X.K H xs ds->Vals xs us->∃as,ReadsAll s.heap us ds as
 |_,_,_,.nil,.nil=>⟨_,.nil⟩
 |_,_,_,.cons h t,.cons r rs=>by
  obtain⟨a,ra⟩:=Rep.reads I h r;obtain⟨b,rb⟩:=RepAll.reads I t rs;exact⟨_,.cons ra rb⟩
end
section
variable{X:Cx}{a b c e:Expr}{ta tb tc te:TE}{pos p2:Pos}
theorem Rr(hc:X.calm=true):Ca X (.builtin "sum") (λxs H Q=>∃(p:Addr) (ns:List Int),xs=[.ref p]/\SqL X.K H p (ns.map V.int)/\Q (.int ns.sum) H):=by
 intro pins s σ H xs us Q I r h;obtain⟨p,ns,rfl,hq,q⟩:=h;obtain⟨u,rfl,rx⟩:=Ck r;cases rx;obtain⟨its,rv,hl,hz⟩:=I.list hq;have hi:=Ob rv;obtain⟨ys,e⟩:=hi.allInts.items;have hl':=hl.isList;rw[e] at hl';refine sum_intListG (I.ok.hd hc) hl' λh' tk t' hk=>⟨.int ns.sum,H,I.kept hk,⟨t',?_⟩,q⟩
 have e2:ys.toList.map (·.1)=ns:=by
  have q2:=nums_intItems ys;rw[<-e] at q2;rw[<-q2];exact hi.numsOf
 rw[preSum_eq,e2,List.take_of_length_le (by rw[<-e2];simp)]
theorem C1:Ca X (.builtin "isinstance") (λxs H Q=>∃(x:V) (t:Value) (c:String) (b:Bool),xs=[x,.ty c]/\Gz X.K H x t/\kitOne X.K t (.type c)=some b/\Q (.bl b) H):=by
 intro pins s σ H xs us Q I r h;obtain⟨x,t,c,b,rfl,ty,e,q⟩:=h;obtain⟨u,v,rfl,rx,ry⟩:=Ma r;cases ry;exact Rj I rx ty e λtk=>⟨.bl b,H,I.tok tk,rfl,q⟩
theorem Jn{x:Str}{T:String}(hg:Gl X x)(hm:X.mg x=none)(hv:bootBuiltins x=some (.type T))(hn:x≠"__name__":=by decide)(hd:(x==("__debug__":Str))=false:=by decide):PE X (.Name x pos) (tC (.ty T)):=
 λpins s σ H Q I h=>Fe I hg hm hv ⟨.ty T,H,I,rfl,h⟩ hn hd
def Fy(i:Int)(n:Nat):List Int:=(List.range n).map λ(k:Nat)=>i+(k:Int)
theorem Jq(hc:X.calm=true):Ca X (.type "list") (λxs H Q=>∃(p:Addr) (i j:Int),xs=[.ref p]/\H p=some (.rng i j)/\(-(2 ^ 62)<=i/\i<2 ^ 62/\ -(2 ^ 62)<=j/\j<2 ^ 62)/\j - i<=1000000/\∀l,H l=none->Q (.ref l) (upd H l (.lst ((Fy i (j - i).toNat).map V.int)))):=by
 intro pins s σ H xs us Q I r h;obtain⟨p,i,j,rfl,hp,⟨b1,b2,b3,b4⟩,hj,q⟩:=h;obtain⟨u,rfl,rx⟩:=Ck r;cases rx;obtain⟨t,u,v,ho⟩:=(show ObjOk X.prog X.w H s.heap p (.rng i j) from I.hok p _ hp)
 refine call_list_range (n:=(j - i).toNat) (I.ok.hd hc) (show IsRange s.heap p i j 1 t u v from ho) (small_one b1 b2 b3 b4) (by rw[rangeSize_one];split<;> omega) (by omega) λh' tk acc c' hk hS hacc=> ?_;have len:acc.toList.length=(j - i).toNat:=by simpa using hacc.1
 refine⟨.ref s.heap.objs.size,_,I.laid (o:= .lst ((Fy i (j - i).toNat).map V.int)) hk (le_refl _) ⟨?_,acc.toList,c',?_,by simpa using hS⟩,rfl,q _ I.fresh⟩
 ·simp[Fy,Yr];exact Int.le_trans (by assumption) (by decide)
 ·have key:∀(l:List Value) (k:Nat) (i:Int),(∀(n:Nat) (x:Value),l[n]? =some x->∃t,x= .int (i+n) t)->l.length=k->Vals ((Fy i k).map V.int) l:=by
   intro l
   induction l with
   |nil=>intro k i _ e;cases e;exact .nil
   |cons x l ih=>
    intro k i h e;cases k with
    |zero=>cases e
    |succ k=>
     have h0:=h 0 x rfl;have e1:Fy i (k+1)=i::Fy (i+1) k:=by
      simp only[Fy,List.range_succ_eq_map,Yp,map_map];refine congr (Y2 List.cons (by simp)) (map_congr_left λa _=> ?_);simp only[Function.comp];omega
     rw[e1];refine .cons (by obtain⟨t,q⟩:=h0;exact⟨t,by simpa using q⟩) (ih k (i+1) (λn y hy=> ?_) (by simpa using e));obtain⟨t,q⟩:=h (n+1) y (by simpa using hy);exact⟨t,by rw[q];congr 1;omega⟩
  refine key acc.toList _ i (λn x hx=> ?_) len;obtain⟨t,q⟩:=hacc.2 n x (by simpa using hx);exact⟨t,by rw[q,Int.mul_one]⟩
inductive Ou(K:Frag)(x:V)(y:V)(H:Hp)(Q:VK):Prop
 |mk (a b:Addr) (xs ys:List V):(x= .ref a)->(y= .ref b)->(SqT K H a xs)->(SqT K H b ys)->(xs.length+ys.length<=sizeLine)->((xs=[]->Q (.ref b) H))->((xs≠[]->ys=[]->Q (.ref a) H))->((xs≠[]->ys≠[]->∀p,H p=none->Q (.ref p) (upd H p (.tup (xs++ys)))))->Ou K x y H Q
def Rt(K:Frag):R2:=λx y H Q=>Ou K x y H Q
theorem Eh:OpR X (binaryOp .Add) (Rt X.K):=by
 intro pins s σ H x y u v Q I rx ry h;obtain⟨p,q,xs,ys,rfl,rfl,hx,hy,hz,h1,h2,h3⟩:=h;cases rx;cases ry;obtain⟨its,r1,t1,z1⟩:=I.tuple hx;obtain⟨its2,r2,t2,z2⟩:=I.tuple hy;have l1:=r1.length;have l2:=r2.length;by_cases e:xs=[]
 ·subst e;have ei:its=[]:=by cases its with|nil=>rfl|cons _ _=>cases l1
  subst ei;obtain⟨⟨cls,dd,data,sl⟩,ho,hc,n,hd⟩:=id t1;obtain⟨⟨cls2,dd2,data2,sl2⟩,ho2,hc2,n2,hd2⟩:=id t2;simp only at hc hd hc2 hd2;subst hc hd hc2 hd2;exact PySem.concat_meets ⟨_,ho,rfl⟩ ⟨_,ho2,rfl⟩ noFill_tuple_add seq_tuple_add slot_tuple_add entry_tuple_add (args_tuple_add_2 _ _)
   (tuple_addW0 p q _ _ n n2 dd dd2 sl sl2 (by rfl)) ⟨ho,ho2,⟨.ref q,H,I,rfl,h1 rfl⟩⟩
 ·refine HT.cat_tup t1 t2 (λz=>e ((Vals.nil_iff r1).mp z)) (λz=>⟨.ref p,H,I,rfl,h2 e ((Vals.nil_iff r2).mp z)⟩) (λz=> ?_) (by omega);exact⟨.ref s.heap.objs.size,_,I.laid (t':=s.toks) (o:= .tup (xs++ys)) (λb ob q=>Is _ q) (le_refl _) ⟨by simpa using hz,its++its2,r1.append r2,IsTupN.new _ _⟩,rfl,h3 e (λz'=>z ((Vals.nil_iff r2).mpr z')) _ I.fresh⟩
end
section
variable{X:Cx}{a b c e:Expr}{ta tb tc te:TE}{pos p2:Pos}
theorem Sw:OpR X (compareOp .LtE) (λx y H Q=>∃i j,x= .str i/\y= .str j/\Q (.bl (!decide (j.cps.toList<i.cps.toList))) H):=by
 intro pins s σ H x y u v Q I rx ry h;obtain⟨i,j,rfl,rfl,q⟩:=h;obtain⟨t,rfl⟩:=rx;obtain⟨t',rfl⟩:=ry;exact PySem.P.le_str ⟨.bl _,H,I,rfl,q⟩
theorem Ix:∀{ys:List Str} {us:List Value},Vals (ys.map V.str) us->StrsAre us ys
 |[],_,.nil=> .nil
 |y::ys,_,.cons h t=>by
  obtain⟨u,rfl⟩:=h;exact .cons y u (Ix t)
inductive Tp(K:Frag)(x:V)(vs:List V)(H:Hp)(Q:VK):Prop
 |mk (z:Str) (l:Addr) (ys:List Str):(x= .str z)->(vs=[.ref l])->(SqL K H l (ys.map V.str))->((ys.map (·.length)).sum+ys.length * z.length<=16777216)->(Q (.str (Txt.join z ys)) H)->Tp K x vs H Q
def rJoin(K:Frag):V->List V->Hp->VK->Prop:=λx vs H Q=>Tp K x vs H Q
theorem Ol:MtM X "str.join" (rJoin X.K):=by
 intro pins s σ H x xs v us Q I rx r h;obtain⟨z,l,ys,rfl,rfl,hl,hz,q⟩:=h;obtain⟨t,rfl⟩:=rx;obtain⟨u,rfl,ru⟩:=Ck r;cases ru;obtain⟨its,rv,hp,_⟩:=I.list hl;exact join_list hp.isList (Ix rv) hz λt' k=>⟨.str _,H,I.tok k,⟨t',rfl⟩,q⟩
theorem Ur(hc:X.calm=true):Ca X (.builtin "all") (λxs H Q=>∃(p:Addr) (bs:List Bool),xs=[.ref p]/\SqL X.K H p (bs.map V.bl)/\Q (.bl (bs.all id)) H):=by
 intro pins s σ H xs us Q I r h;obtain⟨p,bs,rfl,hq,q⟩:=h;obtain⟨u,rfl,rx⟩:=Ck r;cases rx;obtain⟨its,rv,hl,hz⟩:=I.list hq;have hlen:=rv.length;rw[If] at hlen;refine call_all_walk (wpAny_pyIter_list hl.isList ?_);have hne:p≠s.heap.objs.size:=by obtain⟨o,ho,_⟩:=hl.isList;exact ne_of_lt (Yj ho)
 refine⟨_,_,_,_,_,_,λi=>bs.getD i true,rfl,Walks.list (A:=X.A.in1) (I.ok.hd hc) _ p hne its.toArray,⟨⟨_,Yi _ rfl,rfl,rfl⟩,hl.isList.push _⟩,?_,λh' tk hk=> ?_⟩
 ·intro i v s' Q' E' hP hQ;have hi:its[i]? =some v:=by simpa using hP
  have hb:∃b,bs[i]? =some b/\v= .bool b:=by
   have hil:i<bs.length:=by rw[hlen];exact(List.getElem?_eq_some_iff.mp hi).1
   obtain⟨u,e1,e2⟩:=rv.get (i:=i) (x:= .bl bs[i]) (by simp[hil]);rw[hi] at e1;cases e1;exact⟨bs[i],by simp[hil],e2⟩
  obtain⟨b,e1,rfl⟩:=hb;have:bs.getD i true=b:=by simp[getD,e1]
  dsimp only at hQ;rw[this] at hQ;exact Yu hQ
 ·have e:(List.range its.toArray.size).all (λi=>bs.getD i true)=bs.all id:=by
   rw[size_toArray,<-hlen];have key:∀(bs:List Bool),(List.range bs.length).all (λi=>bs.getD i true)=bs.all id:=by
    intro bs;rw[Bool.eq_iff_iff,all_eq_true,all_eq_true];constructor
    ·intro h b hb;obtain⟨i,hi,e⟩:=List.getElem_of_mem hb;have:=h i (mem_range.mpr hi);simpa[getD,hi,e] using this
    ·intro h i hi;have hi:=mem_range.mp hi;have:=h bs[i] (getElem_mem hi);simpa[getD,hi] using this
   exact key bs
  rw[e];exact⟨.bl (bs.all id),H,I.kept (λb o eo=>hk b o (by
   intro z;have z:=mem_singleton.mp z;exact absurd (Yj eo) (by rw[z];exact lt_irrefl _)) (Is _ eo)),rfl,q⟩
def Its(z:Str):It:=⟨λi _=>i<z.cps.size,λi H x H'=>H'=H/\∃c,z.cps[i]? =some c/\x= .str ⟨#[c]⟩,λi _=>z.cps.size<=i⟩
theorem P9{prog:Program}{w:World}{A:Around}(hh:A.handled=none)(I:Addr)(x:Str)(t:Tok):
  Walks prog w A I [I] [I] x.cps.size (SignAt x) (λi h=>h.IsStrIter I (strIterType x) x t i):=by
 cases ha:x.cps.all (·<128)
 ·have e:strIterType x="str_iterator":=by simp[strIterType,ha]
  rw[e];exact Walks.strWide hh I x t
 ·have e:strIterType x="str_ascii_iterator":=by simp[strIterType,ha]
  rw[e];exact Walks.strAscii hh I x t
theorem Uk{P:Program}{w:World}{K:Frag}{tg:Expr}(z:Str)(t:Tok)(it:Addr):Np P w K tg (Its z) [it] it (λi h=>h.IsStrIter it (strIterType z) z t i) where
 mem:=by simp
 obj:=λi h st b hb=>by
  have e:b=it:=by simpa using hb
  subst e;obtain⟨o,e,c,d⟩:=st;exact⟨o,e,λv z=>by rw[d] at z;cases z⟩
 keep:=λi h h' st k=>let ⟨o,ho,r⟩:=st;⟨o,k it (by simp) o ho,r⟩
 item:=by
  intro X hP hw hK hc i pins s σ H E I hf st hg;subst hP hw hK;obtain⟨f0,f1,f2,f3,f4,f5⟩:=hf it (by simp);refine(P9 (prog:=X.prog) (w:=X.w) (I.ok.hd hc) it z t).item i s _ _ hg st λv h' tk hv st' kk=> ?_;obtain⟨c,u,hcu,rfl⟩:=hv;have I1:Inv X pins σ H {s with heap:=h',toks:=tk}:=I.turned (λb o hb e=>kk b o (by simpa using hb) e) f0 f1 f3 f4 f5;obtain⟨o,e,cc,d⟩:=id st';refine⟨_,rfl,Oj (s:={s with heap:=h',toks:=tk}) e cc d ?_ ⟨.str ⟨#[c]⟩,H,I1,⟨u,rfl⟩,⟨rfl,c,hcu,rfl⟩,st',λb hb=>(hf b hb).1⟩⟩;unfold strIterType;split<;> decide
 done:=by
  intro X hP hw hK hc i pins s σ H E I hf st hg;subst hP hw hK;obtain⟨f0,f1,f2,f3,f4,f5⟩:=hf it (by simp);have hg:z.cps.size<=i:=hg;have hn:z.cps[i]? =none:=by simp[hg]
  cases ha:z.cps.all (·<128)
  ·have e:strIterType z="str_iterator":=by simp[strIterType,ha]
   rw[e] at st;exact wpAny_pyNext_wide_end (I.ok.hd hc) st hn λh' eb=>⟨rfl,I.turned (t':=s.toks) (λb o hb e=>eb b o hb e) f0 f1 f3 f4 f5⟩
  ·have e:strIterType z="str_ascii_iterator":=by simp[strIterType,ha]
   rw[e] at st;exact wpAny_pyNext_ascii_end (I.ok.hd hc) st hn λh' eb=>⟨rfl,I.turned (t':=s.toks) (λb o hb e=>eb b o hb e) f0 f1 f3 f4 f5⟩
 self:=λA i s Q E st h=>by
  cases ha:z.cps.all (·<128)
  ·have e:strIterType z="str_iterator":=by simp[strIterType,ha]
   rw[e] at st;exact wpAny_pyIter_striter_wide st h
  ·have e:strIterType z="str_ascii_iterator":=by simp[strIterType,ha]
   rw[e] at st;exact wpAny_pyIter_striter_ascii st h
def iStr(tl:TE):TI:=λσ H R=>tl σ H λx H1=>∃z,x= .str z/\R (Its z) H1
theorem Ss{tg l:Expr}{tl:TE}(hl:PE X l tl):PI X tg l (iStr tl):=by
 intro pins s σ H R I h;refine thn (hl pins s σ H _ I h) λv s1 ⟨x,H1,I1,r1,q1⟩=> ?_;obtain⟨z,rfl,q⟩:=q1;obtain⟨t,rfl⟩:=r1;refine wpAny_pyIter_strU ?_;have I2:Inv X pins σ H1 {s1 with heap:=s1.heap.push {cls:= .type (strIterType z),data:= .fields #[.str z t,.int 0 0]}}:=I1.kept (t':=s1.toks) λb o e=>Is _ e;refine⟨_,[s1.heap.objs.size],_,Its z,H1,rfl,I2,Uk z t _,⟨_,Yi _ rfl,rfl,rfl⟩,λb hb=> ?_,q⟩;have e:=mem_singleton.mp hb;subst e;exact I1.fpOk (le_refl _) I1.fresh
end
theorem L3{g:TG}{ti:TT}{te:TE}{Q:VK}{D:Addr}{σ:St}{H:Hp}{z:Str}(Pv:Nat->St->List V->Hp->Prop)(h0:Pv 0 σ [] (upd H D (.lst [])))(hl:∀i σ ys H,i<=z.cps.size->Pv i σ ys H->H D=some (.lst ys))(hs:∀i c σ ys H,z.cps[i]? =some c->Pv i σ ys H->Kc g ti te D (.str ⟨#[c]⟩) σ ys H (Pv (i+1)))(hd:∀σ ys H,Pv z.cps.size σ ys H->Q (.ref D) H):
  cgo (Its z) g ti te D σ H Q:=by
 refine⟨λi m σ ys H=>m=z.cps.size - i/\i<=z.cps.size/\Pv i σ ys H,⟨z.cps.size,by simp,Y0 _,h0⟩,?_⟩;rintro i m σ ys H ⟨rfl,hi,p⟩;refine⟨hl i σ ys H hi p,?_⟩;by_cases hlt:i<z.cps.size
 ·refine .inr ⟨hlt,Pv (i+1),λσ' ys' H' p'=>⟨z.cps.size - (i+1),by omega,rfl,hlt,p'⟩,λx H' y=> ?_⟩;obtain⟨e,c,hc,y⟩:=y;subst e y;exact hs i c σ ys _ hc p
 ·have e:i=z.cps.size:=by omega
  subst e;exact .inl ⟨le_refl _,hd σ ys H p⟩
def relab(scope osc:Scope):Scope:={scope with names:=scope.names.map λ(n,k)=>if (k== .free && osc.kind== .function && osc.names.lookup n==some .cell) then (n,.cell) else (n,k)}
structure CS(osc scope:Scope)(T F:List Str):Prop where
 kind:scope.kind= .function
 nocell:∀y∈scope.names,y.2≠ .cell
 names:∀x∈scope.names,x.2= .local->scope.names.lookup x.1=some .local
 free:∀x∈scope.names,x.2= .free->osc.names.lookup x.1=some .cell
 loc:∀y∈T,(relab scope osc).names.lookup y=some .local
 cel:∀y∈F,(relab scope osc).names.lookup y=some .cell/\osc.names.lookup y=some .cell/\(y,NameKind.free)∈scope.names
 all:∀x∈(relab scope osc).names,(x.2= .cell\/x.2= .free)->(x.1,NameKind.free)∈scope.names
theorem CS.to{X:Cx}{scope osc:Scope}{T F:List Str}{js:List Nat}(h:CS osc scope T F)(hj:js.map (λj=>X.N[j]?)=F.map some)(ho:X.env.scope=osc):Hz X scope T F js:=by
 subst ho;exact⟨h.kind,h.nocell,h.names,h.free,h.loc,h.cel,h.all,hj⟩
theorem PSs.imp'{X:Cx}{st:List PySem.Stmt}{t t':TS}(h:PSs X st t)(f:∀D σ H,t' D σ H->t D σ H):PSs X st t':=λpins s σ H D I h'=>h pins s σ H D I (f D σ H h')
section
variable{X:Cx}{pins:List (Addr×Obj)}{σ:St}{H:Hp}{s:Shared}
theorem Inv.turnedL{t':Nat}{h':Heap}(ch:List Addr)(I:Inv X pins σ H s)(k:∀b o,b ∉ ch->s.heap.get? b=some o->h'.get? b=some o)(hf:∀b∈ch,FpOk X pins H b):Inv X pins σ H {s with heap:=h',toks:=t'}:=by
 have out:∀b u,H b=some u->b ∉ ch:=λb u e z=>by rw[(hf b z).1] at e;cases e
 have outL:X.env.locals ∉ ch:=λz=>(hf _ z).2.1 rfl;refine I.step (g':=s.gens) (d':=s.drawn) (ch:=ch) (λb hb=>⟨(hf b hb).2.2.2.1,(hf b hb).2.1,(hf b hb).2.2.2.2.1,(hf b hb).2.2.2.2.2⟩) (λb o _ _ hc e _=>k b o hc e) (λb o _ _ hc e _=>⟨o.slots,k b o hc e⟩)
  (λ_ _ _ _ n=>n) (λb o hc e=>⟨o,k b o hc e⟩) (λ_ _ e=>e) (λ_ _ _ e=>e) (λb ps e=>⟨#[],by rw[e];simp⟩) (λm hm=> ?_) (λb u e=> ?_) I.bare
 ·obtain⟨o,es,ep,ho,r⟩:=hm;exact⟨o,es,ep,k _ o outL ho,r⟩
 ·refine(I.hok b u e).stay (λc v hc q=>k c v ?_ q) (λ_ q=>q) λ_ _ q=>q;rcases hc with z|z
  ·rw[z];exact out b u e
  ·exact out c _ z
theorem FpOk.up{b T:Addr}{o:HO}(h:FpOk X pins H b)(n:b≠T):FpOk X pins (upd H T o) b:=⟨by rw[Aj n];exact h.1,h.2⟩
end
def Ite(K:Frag)(a:Addr):It:=
 ⟨λi H=>∃xs x,SqL K H a xs/\xs[i]? =some x,λi H v H'=>∃T x,H T=none/\v= .ref T/\H'=upd H T (.tup [.int i,x])/\∀xs,SqL K H a xs->xs[i]? =some x,λi H=>∃xs,SqL K H a xs/\xs.length<=i⟩
theorem Rk{P:Program}{w:World}{K:Frag}{elts:List Expr}{x1}{pos:Pos}(a e it:Addr)(hei:e≠it):Np P w K (.Tuple elts x1 pos) (Ite K a) [e,it] e (λi h=>(∃old,IsEnum h e it i old)/\h.IsListIter it a i) where
 mem:=by simp
 obj:=λi h st b hb=>by
  obtain⟨⟨old,he⟩,o,ho,hc,hd⟩:=st;rcases Ym.mp hb with rfl|hb
  ·exact⟨_,he,λv z=>by cases z⟩
  ·have:b=it:=by simpa using hb
   subst this;exact⟨o,ho,λv z=>by rw[hd] at z;cases z⟩
 keep:=λi h h' st k=>⟨let ⟨old,he⟩:=st.1;⟨old,k e (by simp) _ he⟩,st.2.at λo q=>k it (by simp) o q⟩
 item:=by
  intro X hP hw hK hc i pins s σ H E I hf st hg;subst hP hw hK;obtain⟨⟨old,he⟩,hit⟩:=st;obtain⟨xs,x,hq,hx⟩:=hg;obtain⟨its,rv,p,hz⟩:=I.list hq;obtain⟨u,hu,ru⟩:=rv.get hx;have fresh:H s.heap.objs.size=none:=I.hok.fresh (le_refl _);have elt:e<s.heap.objs.size:=Yj he;have ilt:it<s.heap.objs.size:=by obtain⟨_,q,_⟩:=hit;exact Yj q
  refine wpAny_pyNext_enum_item he hit p.isList (x:=u) (by simpa using hu) hei λh' eo it' hT hsz kk=>⟨_,rfl,?_⟩
  refine wpAny_letOwnedTupleGo_enum (s:={s with heap:=h',toks:=s.toks+1}) eo λh2 e2 sb=> ?_;have I1:Inv X pins σ (upd H s.heap.objs.size (.tup [.int i,x])) {s with heap:=s.heap.push {cls:= .type "tuple",data:= .seq #[.int i s.toks,u]},toks:=s.toks}:=
   I.laid (o:= .tup [.int i,x]) (λb ob q=>Is _ q) (le_refl _) ⟨by rw[Yr];simp,[.int i s.toks,u],.cons ⟨_,rfl⟩ (.cons ru .nil),IsTupN.new _ _⟩
  have I2:=I1.turnedL (h':=h2) (t':=s.toks+1) [e,it] (λb o hb q=> ?_) (λb hb=> ?_)
  ·refine⟨.ref s.heap.objs.size,_,I2,rfl,⟨_,x,fresh,rfl,rfl,λys hy=>by rw[I.list_inj hy hq];exact hx⟩,⟨⟨_,by simpa using e2⟩,it'.at λo q=>(sb.2 it hei.symm).trans q⟩,λb hb=> ?_⟩;rcases Ym.mp hb with rfl|hb
   ·rw[Aj (ne_of_lt elt)];exact(hf _ (by simp)).1
   ·have:b=it:=by simpa using hb
    subst this;rw[Aj (ne_of_lt ilt)];exact(hf _ (by simp)).1
  ·have b1:b≠e:=λz=>hb (by simp[z]);have b2:b≠it:=λz=>hb (by simp[z]);refine(sb.2 b b1).trans ?_;by_cases hbs:b=s.heap.objs.size
   ·subst hbs;rw[Yi _ rfl] at q;cases q;exact hT
   ·rw[get?_push_ne _ _ _ hbs] at q;exact kk b o b1 b2 q
  ·rcases Ym.mp hb with rfl|hb
   ·exact(hf _ (by simp)).up (ne_of_lt elt)
   ·have:b=it:=by simpa using hb
    subst this;exact(hf _ (by simp)).up (ne_of_lt ilt)
 done:=by
  intro X hP hw hK hc i pins s σ H E I hf st hg;subst hP hw hK;obtain⟨⟨old,he⟩,hit⟩:=st;obtain⟨xs,hq,hx⟩:=hg;obtain⟨its,rv,p,hz⟩:=I.list hq;have hl:=rv.length;exact wpAny_pyNext_enum_end (I.ok.hd hc) he hit p.isList (by simp;omega) λh' eb=>⟨rfl,I.turnedL (t':=s.toks) [e,it] (λb o hb q=>eb b o (λz=>hb (by simp[z])) q) hf⟩
 self:=λA i s Q E st h=>let ⟨⟨old,he⟩,_⟩:=st;wpAny_pyIter_enum he h
def iEnum(K:Frag)(ta:TA):TI:=λσ H R=>ta σ H λvs H1=>∃a xs,vs=[.ref a]/\SqL K H1 a xs/\R (Ite K a) H1
theorem Rl{X:Cx}{elts:List Expr}{x1}{tpos:Pos}{a:Expr}{ta:TA}{p pos:Pos}(hg:Gl X "enumerate")(hm:X.mg "enumerate"=none)(ha:PA X [a] ta)(hs:starEach [a] X.env=[(false,eval a X.env)]:=by rfl):
  PI X (.Tuple elts x1 tpos) (.Call (.Name "enumerate" p) [a] [] pos) (iEnum X.K ta):=by
 intro pins s σ H R I h;refine Call_ (Fe I hg hm (show bootBuiltins "enumerate"=some (.type "enumerate") by decide+kernel) (PyProof.Rows.callWith_type1 (thn (ha pos pins s σ H _ I h) λus s1 ⟨vs,H1,I1,r1,q1⟩=> ?_) hs rfl));obtain⟨l,xs,e,hq,q⟩:=q1;subst e;obtain⟨u,rfl,ru⟩:=Ck r1;cases ru;obtain⟨its,rv,pl,hz⟩:=I1.list hq;refine call_enumerate_list pl.isList λh' he hit hsz kk=>wpAny_pyIter_enum he ?_;refine⟨s1.heap.objs.size+1,[s1.heap.objs.size+1,s1.heap.objs.size],_,_,H1,rfl,I1.kept (t':=s1.toks) kk,Rk l _ _ (Nat.succ_ne_self _),⟨⟨_,he⟩,hit⟩,λb hb=> ?_,q⟩;have hb:s1.heap.objs.size<=b:=by
  rcases Ym.mp hb with rfl|hb
  ·exact le_succ _
  ·have:b=s1.heap.objs.size:=by simpa using hb
   exact Nat.le_of_eq this.symm
 exact I1.fpOk hb (I1.hok.fresh hb)
section
variable{g:TG}{ti:TT}{te:TE}{Q:VK}{D:Addr}{σ:St}{H:Hp}
theorem Re{K:Frag}{a:Addr}{xs:List V}(Pv:Nat->St->List V->Hp->Prop)(h0:Pv 0 σ [] (upd H D (.lst [])))(hl:∀i σ ys H,i<=xs.length->Pv i σ ys H->SqL K H a xs/\H D=some (.lst ys))(hs:∀i x σ ys H T,xs[i]? =some x->Pv i σ ys H->H T=none->Kc g ti te D (.ref T) σ ys (upd H T (.tup [.int (i:Nat),x])) (Pv (i+1)))(hd:∀σ ys H,Pv xs.length σ ys H->Q (.ref D) H):
  cgo (Ite K a) g ti te D σ H Q:=by
 refine⟨λi m σ ys H=>m=xs.length - i/\i<=xs.length/\Pv i σ ys H,⟨xs.length,by simp,Y0 _,h0⟩,?_⟩;rintro i m σ ys H ⟨rfl,hi,p⟩;obtain⟨q,hD⟩:=hl i σ ys H hi p;refine⟨hD,?_⟩;by_cases hlt:i<xs.length
 ·refine .inr ⟨⟨xs,xs[i],q,by simp[hlt]⟩,Pv (i+1),λσ' ys' H' p'=>⟨xs.length - (i+1),by omega,rfl,hlt,p'⟩,λx H' y=> ?_⟩;obtain⟨T,z,hT,rfl,rfl,y⟩:=y;exact hs i z σ ys H T (y xs q) p hT
 ·have e:i=xs.length:=by omega
  subst e;exact .inl ⟨⟨xs,q,le_refl _⟩,hd σ ys H p⟩
end
end L2
namespace PySem
open Builtin
section
variable{prog:Program}{w:World}{A:Around}{E:Value->Shared->Prop}{s:Shared}
theorem No{it t:Addr}{i:Nat}{its:Array Value}{x:Value}{Q:Value->Shared->Prop}(hi:s.heap.IsTupleIter it t i)(ht:s.heap.IsTuple t its)(hx:its[i]? =some x)(hQ:∀h',h'.IsTupleIter it t (i+1)->SameBut it s.heap h'->Q x {s with heap:=h'}):wpAny (model prog w) A (Builtin.SmallTypes.nextOf (.ref it)) Q E s:=by
 obtain⟨oi,gi,ci,di⟩:=id hi;obtain⟨ot,gt,_,nt,dt⟩:=ht;unfold Builtin.SmallTypes.nextOf;refine Gt (Zf (name:=Str.ofString "__next__") hi.typeIs F.slot_tuple_iterator_next (wpAny_call_entry F.slot_tuple_iterator_next hi.typeIs F.entry_tuple_iterator_next ?_ (F.args_tuple_iterator_next_1 _)));show wpAny _ _ (field (.ref it) 0 >>=λ_=>_) _ _ s;refine Gt (wpAny_field gi di (x:= .ref t) rfl ?_);show wpAny _ _ (ite ((Value.ref t==Value.none)=true) _ _) _ _ s;have ng:¬((Value.ref t==Value.none)=true):=Bool.false_ne_true;rw[Lt ng];show wpAny _ _ (field (.ref it) 1 >>=λ_=>_) _ _ s;refine Gt (wpAny_field gi di (x:= .int i 0) rfl ?_);show wpAny _ _ (seqItems? (.ref t) >>=λ_=>_) _ _ s;refine Gt (wpAny_seqItems gt dt ?_);simp only[Int.toNat_natCast,hx];refine Gt (wpAny_setField gi di (by simp) (Yg ⟨x,rfl,Yg (hQ _ ⟨_,Heap.get?_update_self _ gi (Obj.isFreed_of_fields (Obj.data_mapFields di _)),(Obj.cls_mapFields ..).trans ci,?_⟩ (SameBut.update ..))⟩));rw[Obj.data_mapFields di];simp[rawInt]
theorem Ii{it t:Addr}{i:Nat}{its:Array Value}{Q:Value->Shared->Prop}(hh:A.handled=none)(hi:s.heap.IsTupleIter it t i)(ht:s.heap.IsTuple t its)(hx:its[i]? =none)(hE:∀h' e,Heap.ExtBut it s.heap h'->(∃o,h'.get? e=some o/\o.cls= .type "StopIteration")->E (.ref e) {s with heap:=h'}):wpAny (model prog w) A (Builtin.SmallTypes.nextOf (.ref it)) Q E s:=by
 obtain⟨oi,gi,ci,di⟩:=id hi;obtain⟨ot,gt,_,nt,dt⟩:=ht;unfold Builtin.SmallTypes.nextOf;refine Gt (Zf (name:=Str.ofString "__next__") hi.typeIs F.slot_tuple_iterator_next (wpAny_call_entry F.slot_tuple_iterator_next hi.typeIs F.entry_tuple_iterator_next ?_ (F.args_tuple_iterator_next_1 _)));show wpAny _ _ (field (.ref it) 0 >>=λ_=>_) _ _ s;refine Gt (wpAny_field gi di (x:= .ref t) rfl ?_);show wpAny _ _ (ite ((Value.ref t==Value.none)=true) _ _) _ _ s;have ng:¬((Value.ref t==Value.none)=true):=Bool.false_ne_true;rw[Lt ng];show wpAny _ _ (field (.ref it) 1 >>=λ_=>_) _ _ s;refine Gt (wpAny_field gi di (x:= .int i 0) rfl ?_);show wpAny _ _ (seqItems? (.ref t) >>=λ_=>_) _ _ s;refine Gt (wpAny_seqItems gt dt ?_);simp only[Int.toNat_natCast,hx];refine Gt (wpAny_rule (Gt (wpAny_setField gi di (by simp) ?_)));show wpAny _ _ (newExc (.type "StopIteration") [] >>=λ_=>_) _ _ _;refine Gt ?_;simp only[newExc,newTuple];refine Gt (Yw ?_ (by size_fits));refine Gt (m:=firstArgMember _ _) (wpAny_of_eq (a:=Value.none) (by first|rfl|(simp only[firstArgMember];rfl)) ?_);refine Yw ?_ (by size_fits);simp only[raiseNew];refine Gt (wpAny_handled ?_)
 first|rw[show A.in1.handled=none from hh]|rw[hh]
 exact Gt (Yg (wpAny_throw (hE _ _ (((SameBut.update ..).extBut.push _).push _) ⟨_,Yi _ rfl,rfl⟩)))
theorem Draws.tup{prog:Program}{w:World}{A:Around}(hh:A.handled=none)(it t:Addr)(hne:t≠it)(its:Array Value):
  Draws prog w A it [it,t] its.size (λi v=>its[i]? =some v) (λi h=>h.IsTupleIter it t i/\h.IsTuple t its) where
 live:=λ_ _ st=>⟨st.1.choose,st.1.choose_spec.1⟩
 frame:=λ_ _ _ st hk=>⟨st.1.at λo e=>hk it (by simp) o e,let ⟨o,ho,r⟩:=st.2;⟨o,hk t (by simp) o ho,r⟩⟩
 item:=λi s Q E hi st hQ=>by
  refine No st.1 st.2 (x:=its[i]) (by simp[hi]) λh' hit' hs'=> ?_;exact hQ _ h' s.toks (by simp[hi]) ⟨hit',let ⟨o,ho,r⟩:=st.2;⟨o,hs'.extBut _ _ hne ho,r⟩⟩ hs'
 done:=λs Q E st hE=>Ii hh st.1 st.2 (by simp) hE
end
end PySem
namespace HT
open PySem PyProof.Rows
section
variable{prog:Program}{w:World}{A:Around}{E:Value->Shared->Prop}{s:Shared}
theorem getItem_tuple_self{t sl:Addr}{items:Array Value}{vl vu:Value}{lo hi:Option Int}{Q:Value->Shared->Prop}(ht:IsTup s.heap t items)(hs:s.heap.IsSliceOf sl vl vu .none)(pl:IsPart vl lo)(pu:IsPart vu hi)(hw:sIx items.size 0 lo=0/\sIx items.size items.size hi=items.size)(h:Q (.ref t) s):wpAny (model prog w) A (getItem (.ref t) (.ref sl)) Q E s:=by
 obtain⟨os,hos,hcs,hds⟩:=id hs;have tsl:s.TypeIs (.ref sl) "slice":=⟨os,hos,hcs⟩
 unfold getItem
 try with_reducible refine Y5 ?_
 first|refine Gt (Yg ?_)|skip
 refine Gt (wpAny_sequenceKey ht.typeIs (by decide) (Gt (Zf (name:=Str.ofString "__getitem__") ht.typeIs PyProof.Rows.slot_tuple_getitem (wpAny_call_entry PyProof.Rows.slot_tuple_getitem ht.typeIs entry_tuple_getitem ?_ (args_tuple_getitem _ _)))));show wpAny _ _ (Builtin.Tuple.tupleItemsOf (.ref t) >>=λ_=>_) _ _ s;refine Gt (tupleItemsOf_ ht (Gt (wpAny_typeOf tsl ?_)));rw[Yf (by decide)];refine Gt (Dl hs pl pu ?_);have yes:(((sIx items.size 0 lo:Nat):Int)==0 && (1:Int)==1 && (sIx items.size items.size hi - sIx items.size 0 lo)==items.size)=true:=by rw[hw.1,hw.2];simp
 show wpAny _ _ (ite ((((sIx items.size 0 lo:Nat):Int)==0 && (1:Int)==1 && (sIx items.size items.size hi - sIx items.size 0 lo)==items.size)=true) _ _) _ _ s;rw[Yf yes];refine Gt (m:=Builtin.Tuple.tupleIsExact (.ref t)) ?_;unfold Builtin.Tuple.tupleIsExact;refine Gt (wpAny_typeOf ht.typeIs (Yg ?_));rw[Yf (by decide)];exact Gt (wpAny_rule (Yg ⟨_,rfl,Yg h⟩))
end
end HT
namespace L2
open PySem PySem.Spec PyProof.Rows
section
variable{X:Cx}
inductive Tz(K:Frag)(x:V)(lo:Option Int)(hi:Option Int)(H:Hp)(Q:VK):Prop
 |mk (a xs:_):(x= .ref a)->(SqT K H a xs)->(((HT.sIx xs.length 0 lo=0/\HT.sIx xs.length xs.length hi=xs.length)->Q (.ref a) H))->((¬(HT.sIx xs.length 0 lo=0/\HT.sIx xs.length xs.length hi=xs.length)->∀p,H p=none->Q (.ref p) (upd H p (.tup (Da xs lo hi)))))->Tz K x lo hi H Q
def Up(K:Frag):V->Option Int->Option Int->Hp->VK->Prop:=λx lo hi H Q=>Tz K x lo hi H Q
theorem Ft:SlR X (Up X.K):=by
 intro pins s σ H x v vl vu lo hi sl Q I rx hs pl pu h;obtain⟨a,xs,rfl,hx,q1,q2⟩:=h;by_cases hw:HT.sIx xs.length 0 lo=0/\HT.sIx xs.length xs.length hi=xs.length
 ·cases rx;obtain⟨its,r,ht,hz⟩:=I.tuple hx;have hlen:its.toArray.size=xs.length:=by rw[size_toArray];exact r.length.symm
  exact⟨"tuple",_,PyProof.Rows.slot_tuple_getitem.lookup,ht.typeIs,HT.getItem_tuple_self ht hs pl pu (by rw[hlen];exact hw) ⟨.ref a,H,I,rfl,q1 hw⟩⟩
 ·exact Kx pins s σ H _ v vl vu lo hi sl Q I rx hs pl pu ⟨a,xs,rfl,hx,hw,q2 hw⟩
theorem Pq:OpR X (compareOp .IsNot) (λx y H Q=>∃c d,x= .bl c/\y= .bl d/\Q (.bl (c !=d)) H):=by
 intro pins s σ H x y v u Q I rx ry h;obtain⟨c,d,rfl,rfl,q⟩:=h;cases rx;cases ry;exact isnot_bool ⟨.bl _,H,I,rfl,q⟩
end
theorem Mh{X:Cx}(hu:X.A.units+64<cLine):OpR X (compareOp .Eq) (λx y H Q=>∃(a b:Addr) (xs:List V),x= .ref a/\y= .ref b/\SqL X.K H a xs/\SqL X.K H b []/\Q (.bl xs.isEmpty) H):=by
 intro pins s σ H x y u v Q I rx ry h;obtain⟨a,b,xs,rfl,rfl,ha,hb,q⟩:=h;cases rx;cases ry;cases xs with
 |nil=>
  obtain⟨as,r1⟩:=Rep.reads (u:= .ref a) I (Rep.lst ha .nil) rfl;obtain⟨bs,r2⟩:=Rep.reads (u:= .ref b) I (Rep.lst hb .nil) rfl;exact SeqAt.compareEq_reads r1 r2 rfl rfl (by simp only[PyData.depth,PyData.depthAll];omega) ⟨.bl _,H,I,rfl,q⟩
 |cons x xs=>
  obtain⟨its,r1,h1,_⟩:=I.list ha;obtain⟨its2,r2,h2,_⟩:=I.list hb;have l1:=r1.length;have l2:=r2.length;refine SeqAt.eq_list_lengthsAt h1.isList h2.isList (by simp at l1 l2 ⊢;omega) (by omega) ⟨.bl _,H,I,rfl,q⟩
theorem Hn{X:Cx}{x:Str}{i:Int}{t:Tok}{pos:Pos}(hg:Gl X x)(hm:X.mg x=some (.int i t))(hd:(x==("__debug__":Str))=false:=by decide):PE X (.Name x pos) (tC (.int i)):=λpins s σ H Q I h=>O2 I hg hm ⟨.int i,H,I,⟨t,rfl⟩,h⟩ hd
theorem Ae{H:Hp}{p:Addr}{o:HO}(h:H p=none):Same H (upd H p o):=λb u e=>by rw[Aj (Ay e h)];exact e
theorem Cn(H:Hp):Same H H:=λ_ _ e=>e
theorem A1{n:Nat}(h:n<=10000):n<=sizeLine:=by rw[Yr];exact le_trans (by assumption) (by decide)
theorem Sr{K:Frag}{H H':Hp}{a:Addr}{xs:List V}(h:SqL K H a xs)(s:Same H H'):SqL K H' a xs:=by
 rcases h with(e|⟨o,e⟩)|e
 ·exact .inl (.inl (s _ _ e))
 ·exact .inl (.inr ⟨o,s _ _ e⟩)
 ·exact .inr e
theorem Fw{H H':Hp}{a:Addr}(s:Same H H')(h:H' a=none):H a=none:=by
 cases e:H a with
 |none=>rfl
 |some o=>rw[s _ _ e] at h;cases h
theorem Uw{X:Cx}{es:List Expr}{k:Nat}{t:TGs}{pos:Pos}(K:Frag)(n:Nat)(hK:X.K=K)(hc:X.calm=true)(h:PGs X es t)(hn:(assignEach es X.env).length=n:=by rfl)(hst:(assignEach es X.env).findIdx? (·.1)=none:=by rfl):PG X (.Tuple es k pos) (gTup K n t):=by
 subst hK;exact C5 hc h hn hst
section
variable{X:Cx}
theorem Lw:Ca X (.type "range") (λxs H Q=>∃j:Int,xs=[.int j]/\∀l,H l=none->Q (.ref l) (upd H l (.rng 0 j))):=by
 intro pins s σ H xs us Q I r h;obtain⟨j,rfl,q⟩:=h;obtain⟨u,rfl,⟨t,rfl⟩⟩:=Ck r;exact call_range_1 ⟨.ref s.heap.objs.size,_,I.laid (o:= .rng 0 j) (λ_ _ q=>Is _ q) (le_refl _) ⟨_,_,_,Yi _ rfl⟩,rfl,q _ I.fresh⟩
end
def Sq(K:Frag)(a:Addr):It:=
 ⟨λi H=>∃xs x,SqT K H a xs/\xs[i]? =some x,λi H v H'=>∃T x,H T=none/\v= .ref T/\H'=upd H T (.tup [.int i,x])/\∀xs,SqT K H a xs->xs[i]? =some x,λi H=>∃xs,SqT K H a xs/\i=xs.length⟩
theorem N5{P:Program}{w:World}{K:Frag}{elts:List Expr}{x1}{pos:Pos}(a e it:Addr)(hei:e≠it)(hae:a≠e)(hai:a≠it):Np P w K (.Tuple elts x1 pos) (Sq K a) [e,it] e (λi h=>(∃old,IsEnum h e it i old)/\h.IsTupleIter it a i) where
 mem:=by simp
 obj:=λi h st b hb=>by
  obtain⟨⟨old,he⟩,o,ho,hc,hd⟩:=st;rcases Ym.mp hb with rfl|hb
  ·exact⟨_,he,λv z=>by cases z⟩
  ·have:b=it:=by simpa using hb
   subst this;exact⟨o,ho,λv z=>by rw[hd] at z;cases z⟩
 keep:=λi h h' st k=>⟨let ⟨old,he⟩:=st.1;⟨old,k e (by simp) _ he⟩,st.2.at λo q=>k it (by simp) o q⟩
 item:=by
  intro X hP hw hK hc i pins s σ H E I hf st hg;subst hP hw hK;obtain⟨⟨old,he⟩,hit⟩:=st;obtain⟨xs,x,hq,hx⟩:=hg;obtain⟨its,rv,p,hz⟩:=I.tuple hq;obtain⟨u,hu,ru⟩:=rv.get hx;have fresh:H s.heap.objs.size=none:=I.hok.fresh (le_refl _);have elt:e<s.heap.objs.size:=Yj he;have ilt:it<s.heap.objs.size:=by obtain⟨_,q,_⟩:=hit;exact Yj q
  have hil:i<its.toArray.size:=by have:=(List.getElem?_eq_some_iff.mp hu).1;simpa using this
  refine wpAny_pyNext_enum_itemD (Draws.tup (A:=X.A.in1) (I.ok.hd hc) it a hai its.toArray) he ⟨hit,p⟩ hil hei (by simp only[Ym,List.mem_nil_iff,or_false,not_or];exact⟨hei,hae.symm⟩) λuv h' tk pu eo it' hT hsz kk=>⟨_,rfl,?_⟩
  have eu:u=uv:=Option.some.inj (hu.symm.trans (by simpa using pu));subst eu;refine wpAny_letOwnedTupleGo_enum (s:={s with heap:=h',toks:=tk+1}) eo λh2 e2 sb=> ?_;have I1:Inv X pins σ (upd H s.heap.objs.size (.tup [.int i,x])) {s with heap:=s.heap.push {cls:= .type "tuple",data:= .seq #[.int i tk,u]},toks:=s.toks}:=
   I.laid (o:= .tup [.int i,x]) (λb ob q=>Is _ q) (le_refl _) ⟨by rw[Yr];simp,[.int i tk,u],.cons ⟨_,rfl⟩ (.cons ru .nil),IsTupN.new _ _⟩
  have I2:=I1.turnedL (h':=h2) (t':=tk+1) [e,it] (λb o hb q=> ?_) (λb hb=> ?_)
  ·refine⟨.ref s.heap.objs.size,_,I2,rfl,⟨_,x,fresh,rfl,rfl,λys hy=>by rw[I.tuple_inj hy hq];exact hx⟩,⟨⟨_,by simpa using e2⟩,it'.1.at λo q=>(sb.2 it hei.symm).trans q⟩,λb hb=> ?_⟩;rcases Ym.mp hb with rfl|hb
   ·rw[Aj (ne_of_lt elt)];exact(hf _ (by simp)).1
   ·have:b=it:=by simpa using hb
    subst this;rw[Aj (ne_of_lt ilt)];exact(hf _ (by simp)).1
  ·have b1:b≠e:=λz=>hb (by simp[z]);have b2:b≠it:=λz=>hb (by simp[z]);refine(sb.2 b b1).trans ?_;by_cases hbs:b=s.heap.objs.size
   ·subst hbs;rw[Yi _ rfl] at q;cases q;exact hT
   ·rw[get?_push_ne _ _ _ hbs] at q;exact kk b o b1 b2 q
  ·rcases Ym.mp hb with rfl|hb
   ·exact(hf _ (by simp)).up (ne_of_lt elt)
   ·have:b=it:=by simpa using hb
    subst this;exact(hf _ (by simp)).up (ne_of_lt ilt)
 done:=by
  intro X hP hw hK hc i pins s σ H E I hf st hg;subst hP hw hK;obtain⟨⟨old,he⟩,hit⟩:=st;obtain⟨xs,hq,hx⟩:=hg;obtain⟨its,rv,p,hz⟩:=I.tuple hq;have hl:=rv.length;have hn:i=its.toArray.size:=by simp;omega
  subst hn;exact wpAny_pyNext_enum_endD (Draws.tup (A:=X.A.in1) (I.ok.hd hc) it a hai its.toArray) he ⟨hit,p⟩ λh' eb=>⟨rfl,I.turnedL (t':=s.toks) [e,it] (λb o hb q=>eb b o (λz=>hb (by simp[z])) q) hf⟩
 self:=λA i s Q E st h=>let ⟨⟨old,he⟩,_⟩:=st;wpAny_pyIter_enum he h
end L2
namespace PySem
open Builtin
theorem En(a:Addr)(items:Array Value)(n:Nat)(dd:Option Addr)(sl:Array (Option Value)):
  Meets (Builtin.«enumerate.__new__» ⟨[.type "enumerate",.ref a],[]⟩) (λ_ R s=>s.heap.get? a=some {cls:= .type "tuple",dict:=dd,data:= .seq items n,slots:=sl}/\
   R (.ok (.ret (.ref (s.heap.push {cls:= .type "tuple_iterator",data:= .fields #[.ref a,.int 0 0]}).objs.size)))
    {s with heap:=(s.heap.push {cls:= .type "tuple_iterator",data:= .fields #[.ref a,.int 0 0]}).push {cls:= .type "enumerate",data:= .fields #[.none,.bool false,.ref s.heap.objs.size,rawInt 0,.none,.none]}}):=
 .of_wp λprog w A R s h=>by
  obtain⟨hp,g,d,tk,os⟩:=s;obtain⟨ha,h⟩:=h;have hsub:=sub_enumerate;have tA:Heap.IsTuple (Shared.heap ⟨hp,g,d,tk,os⟩) a items:=⟨_,ha,rfl,n,rfl⟩
  wp_walk using AutoSeq1.wpAny_loadPart' ha
  refine wpAny_stack_any λst=>Yg ?_;split
  ·rename_i c _ _ _ _ _;cases (c==Value.type "enumerate")<;> (wp_walk using AutoSeq1.wpAny_loadPart' ha,wpAny_pyIter_tuple tA;exact⟨_,rfl,h⟩)
  ·wp_walk using AutoSeq1.wpAny_loadPart' ha,wpAny_pyIter_tuple tA
   exact⟨_,rfl,h⟩
theorem Fc{prog:Program}{w:World}{A:Around}{E:Value->Shared->Prop}{s:Shared}{a:Addr}{items:Array Value}{Q:Value->Shared->Prop}(tA:s.heap.IsTuple a items)(h:∀h',IsEnum h' (s.heap.objs.size+1) s.heap.objs.size 0 .none->h'.IsTupleIter s.heap.objs.size a 0->(∀b o,s.heap.get? b=some o->h'.get? b=some o)->Q (.ref (s.heap.objs.size+1)) {s with heap:=h'}):
  wpAny (model prog w) A (call (.type "enumerate") [.ref a]) Q E s:=by
 obtain⟨⟨c,dd,dt,sl⟩,ha,hc,n,hd⟩:=tA
 replace hc:c= .type "tuple":=hc
 replace hd:dt= .seq items n:=hd
 subst hc hd;refine callType_new F.called_enumerate (by decide) (F.typeCall_enumerate_1 _) (F.newCall_enumerate_1 _) (λobj=>F.args_object_init_2 obj _) F.entry_enumerate_new (En a items n dd sl) ⟨ha,?_⟩;have y1:(s.heap.push {cls:= .type "tuple_iterator",data:= .fields #[.ref a,.int 0 0]}).objs.size=s.heap.objs.size+1:=size_push ..;have e1:((s.heap.push {cls:= .type "tuple_iterator",data:= .fields #[.ref a,.int 0 0]}).push {cls:= .type "enumerate",data:= .fields #[.none,.bool false,.ref s.heap.objs.size,rawInt 0,.none,.none]}).get? (s.heap.push {cls:= .type "tuple_iterator",data:= .fields #[.ref a,.int 0 0]}).objs.size=some _:=Yi _ rfl;have e2:((s.heap.push {cls:= .type "tuple_iterator",data:= .fields #[.ref a,.int 0 0]}).push {cls:= .type "enumerate",data:= .fields #[.none,.bool false,.ref s.heap.objs.size,rawInt 0,.none,.none]}).get? s.heap.objs.size=some _:=Is _ (Yi _ rfl);show _/\_;rw[y1] at e1 ⊢;exact⟨⟨_,e1,rfl⟩,h _ e1 ⟨_,e2,rfl,rfl⟩ λb o e=>Is _ (Is _ e)⟩
end PySem
namespace L2
open PySem PySem.Spec PyProof.Rows
def Yb(K:Frag)(ta:TA):TI:=λσ H R=>ta σ H λvs H1=>∃a xs,vs=[.ref a]/\SqT K H1 a xs/\R (Sq K a) H1
theorem T9{X:Cx}{elts:List Expr}{x1}{tpos:Pos}{a:Expr}{ta:TA}{p pos:Pos}(hg:Gl X "enumerate")(hm:X.mg "enumerate"=none)(ha:PA X [a] ta)(hs:starEach [a] X.env=[(false,eval a X.env)]:=by rfl):
  PI X (.Tuple elts x1 tpos) (.Call (.Name "enumerate" p) [a] [] pos) (Yb X.K ta):=by
 intro pins s σ H R I h;refine Call_ (Fe I hg hm (show bootBuiltins "enumerate"=some (.type "enumerate") by decide+kernel) (PyProof.Rows.callWith_type1 (thn (ha pos pins s σ H _ I h) λus s1 ⟨vs,H1,I1,r1,q1⟩=> ?_) hs rfl));obtain⟨l,xs,e,hq,q⟩:=q1;subst e;obtain⟨u,rfl,ru⟩:=Ck r1;cases ru;obtain⟨its,rv,pl,hz⟩:=I1.tuple hq;refine Fc pl λh' he hit kk=>wpAny_pyIter_enum he ?_;obtain⟨ol,gl,_⟩:=id pl;have ll:=Yj gl;refine⟨s1.heap.objs.size+1,[s1.heap.objs.size+1,s1.heap.objs.size],_,_,H1,rfl,I1.kept (t':=s1.toks) kk,N5 l _ _ (Nat.succ_ne_self _) (ne_of_lt (Yz ll)) (ne_of_lt ll),⟨⟨_,he⟩,hit⟩,λb hb=> ?_,q⟩;have hb:s1.heap.objs.size<=b:=by
  rcases Ym.mp hb with rfl|hb
  ·exact le_succ _
  ·have:b=s1.heap.objs.size:=by simpa using hb
   exact Nat.le_of_eq this.symm
 exact I1.fpOk hb (I1.hok.fresh hb)
end L2
namespace Srt
open PySem PySem.W PyProof.Rows
structure Ord(lt:Nat->Nat->Bool):Prop where
 asym:∀a b,lt a b=true->lt b a=false
 ntr:∀a b c,lt a b=false->lt b c=false->lt a c=false
def ev{α:Type}(lt:Nat->Nat->Bool):KasT α->α
 | .ret a=>a
 | .ask i j k=>ev lt (k (lt i j))
theorem Ep{α β:Type}(lt:Nat->Nat->Bool)(f:α->KasT β):∀t:KasT α,ev lt (t.bind f)=ev lt (f (ev lt t))
 | .ret _=>rfl
 | .ask i j k=>Ep lt f (k (lt i j))
def AsksP{α:Type}(n:Nat)(P:α->Prop):KasT α->Prop
 | .ret a=>P a
 | .ask i j k=>i<n/\j<n/\∀b,AsksP n P (k b)
theorem AsksP.bind{α β:Type}{n:Nat}{P:α->Prop}{R:β->Prop}{f:α->KasT β}(hf:∀a,P a->AsksP n R (f a)):∀{t:KasT α},AsksP n P t->AsksP n R (t.bind f)
 | .ret a,h=>hf a h
 | .ask i j k,h=>⟨h.1,h.2.1,λb=>AsksP.bind hf (h.2.2 b)⟩
theorem AsksP.ev{α:Type}{n:Nat}{P:α->Prop}(lt:Nat->Nat->Bool):∀{t:KasT α},AsksP n P t->P (Srt.ev lt t)
 | .ret _,h=>h
 | .ask i j k,h=>AsksP.ev (n:=n) (P:=P) lt (t:=k (lt i j)) (h.2.2 (lt i j))
theorem AsksP.wp{α:Type}{n:Nat}{P:α->Prop}{cmp:Nat->Nat->(Bool->Shared->Prop)->Shared->Prop}{lt:Nat->Nat->Bool}{s:Shared}(hc:∀i j (C:Bool->Shared->Prop),i<n->j<n->C (lt i j) s->cmp i j C s){Q:α->Shared->Prop}:∀{t:KasT α},AsksP n P t->Q (Srt.ev lt t) s->t.kasWp cmp Q s
 | .ret _,_,q=>q
 | .ask i j k,h,q=>hc i j _ h.1 h.2.1 (AsksP.wp hc (h.2.2 (lt i j)) q)
abbrev g(p:Array Nat)(k:Nat):Nat:=p.getD k 0
theorem N0(p:Array Nat)(k:Nat):g p k=(p[k]?).getD 0:=by
 show p.getD k 0=_;simp[Array.getD_eq_getD_getElem?]
theorem Rw{p:Array Nat}{i j:Nat}(hj:j<=p.size)(k:Nat):g (kas_rev p i j) k=if i<=k/\k<j then g p (i+j - 1 - k) else g p k:=by
 rw[N0];unfold kas_rev;rw[getElem?_mirror_all hj];split<;> rw[N0]
theorem Wl{p:Array Nat}{src d:Nat}(hs:src<p.size)(hd:d<=src)(k:Nat):g (bubble p src d) k=if k=src - d then g p src else if src - d<k/\k<=src then g p (k - 1) else g p k:=by
 rw[N0,getElem?_bubble hs d hd,N0,N0,N0];split
 ·rfl
 ·split<;> rfl
theorem Fu(p:Array Nat)(i j:Nat):(kas_rev p i j).size=p.size:=mirror_size _ _ _ _
theorem Fm(p:Array Nat)(i j:Nat):(kas_rev p i j).Perm p:=mirror_perm _ _ _ _
def Pm(n:Nat)(p:Array Nat):Prop:=p.Perm (List.range n).toArray
theorem Pm.size{n:Nat}{p:Array Nat}(h:Pm n p):p.size=n:=by
 have:=Array.Perm.size_eq h;simpa using this
theorem Pm.lt{n:Nat}{p:Array Nat}(h:Pm n p)(h0:0<n)(k:Nat):g p k<n:=by
 rw[N0];cases e:p[k]? with
 |none=>exact h0
 |some x=>
  have hx:x∈p:=Array.mem_of_getElem? e;have:=(Array.Perm.mem_iff h).mp hx;simpa using this
section
variable{n:Nat}(h0:0<n)
include h0
theorem Hw{p:Array Nat}(h:Pm n p):∀f m,AsksP n (λ_=>True) (kas_asc p f m)
 |0,_=>trivial
 |f+1,m=>⟨h.lt h0 _,h.lt h0 _,λb=>by cases b<;> first|exact trivial|exact Hw h f (m+1)⟩
theorem Ew:∀f {p:Array Nat} (m q:Nat),Pm n p->AsksP n (λr=>Pm n r.1) (kas_desc f p m q)
 |0,_,_,_,h=>h
 |f+1,p,m,q,h=>by
  refine⟨h.lt h0 _,h.lt h0 _,λb=> ?_⟩;cases b with
  |true=>
   show AsksP n _ (if q > 0 then _ else _);by_cases hq:q > 0
   ·rw[Yf hq];exact Ew f _ _ ((Fm _ _ _).trans h)
   ·rw[Lt hq];exact Ew f _ _ h
  |false=>
   refine⟨h.lt h0 _,h.lt h0 _,λd=> ?_⟩;cases d with
   |true=>exact h
   |false=>exact Ew f _ _ h
theorem Jf{p:Array Nat}(m nrem:Nat)(h:Pm n p):AsksP n (λr=>Pm n r.2) (kas_tail3 m nrem p):=by
 have hr:Pm n (kas_rev p 0 m):=(Fm _ _ _).trans h;refine AsksP.bind (n:=n) (P:=λ_=>True) (R:=λr:Nat×Array Nat=>Pm n r.2) (λk _=> ?_) (Hw h0 hr _ _);exact hr
theorem E6{p:Array Nat}(m nrem:Nat)(h:Pm n p):AsksP n (λr=>Pm n r.2) (kas_descPart m nrem p):=
 (Ew h0 _ _ _ h).bind λr hr=>by
  by_cases hq:r.2.2 > 0
  ·rw[Yf hq];exact Jf h0 _ _ ((Fm _ _ _).trans hr)
  ·rw[Lt hq];exact Jf h0 _ _ hr
theorem Iy{p:Array Nat}(nrem:Nat)(h:Pm n p):AsksP n (λr=>Pm n r.2) (kas_count nrem p):=
 (Hw h0 h _ _).bind λm _=>by
  by_cases h1:(m==nrem)=true
  ·rw[Yf h1];exact h
  ·rw[Lt h1];by_cases h2:m > 1
   ·rw[Yf h2];refine⟨h.lt h0 _,h.lt h0 _,λc=> ?_⟩;cases c with
    |true=>exact h
    |false=>exact E6 h0 _ _ ((Fm _ _ _).trans h)
   ·rw[Lt h2];exact E6 h0 _ _ h
theorem Fj{p:Array Nat}(k:Nat)(h:Pm n p):∀f l r,AsksP n (λ_=>True) (kas_place p k f l r)
 |0,_,_=>trivial
 |f+1,l,r=>by
  show AsksP n _ (if l ≥ r then _ else _);by_cases hl:l ≥ r
  ·rw[Yf hl];trivial
  ·rw[Lt hl];refine⟨h.lt h0 _,h.lt h0 _,λc=> ?_⟩;cases c with
   |true=>exact Fj k h f _ _
   |false=>exact Fj k h f _ _
theorem M0:∀f {p:Array Nat} (k:Nat),Pm n p->AsksP n (Pm n) (kas_bin f p k)
 |0,_,_,h=>h
 |f+1,p,k,h=>(Fj h0 k h _ _ _).bind λl _=>M0 f (k+1) ((bubble_perm _ _ _).trans h)
theorem Ju:AsksP n (Pm n) (kas_sort n):=
 (Iy h0 n (Array.Perm.refl _)).bind λr hr=>by
  by_cases h1:r.1<n
  ·rw[Yf h1];exact M0 h0 _ _ hr
  ·rw[Lt h1];exact hr
end
section
variable{lt:Nat->Nat->Bool}(O:Ord lt)
def Sto(lt:Nat->Nat->Bool)(p:Array Nat)(k:Nat):Prop:=∀i j,i<=j->j<k->lt (g p j) (g p i)=false
def Dto(lt:Nat->Nat->Bool)(p:Array Nat)(k:Nat):Prop:=∀i j,i<=j->j<k->lt (g p i) (g p j)=false
def Eqv(lt:Nat->Nat->Bool)(a b:Nat):Prop:=lt a b=false/\lt b a=false
include O
theorem irr(a:Nat):lt a a=false:=by
 cases h:lt a a with
 |false=>rfl
 |true=>have:=O.asym a a h;rw[h] at this;cases this
theorem N9{p:Array Nat}:∀f m,1<=m->Sto lt p m->m<=ev lt (kas_asc p f m)/\ev lt (kas_asc p f m)<=m+f/\Sto lt p (ev lt (kas_asc p f m))/\(ev lt (kas_asc p f m)<m+f->lt (g p (ev lt (kas_asc p f m))) (g p (ev lt (kas_asc p f m) - 1))=true)
 |0,m,_,hs=>⟨le_refl _,le_refl _,hs,λh=>absurd h (lt_irrefl _)⟩
 |f+1,m,h1,hs=>by
  show m<=ev lt (if lt (g p m) (g p (m - 1))=true then .ret m else kas_asc p f (m+1))/\ev lt (if lt (g p m) (g p (m - 1))=true then .ret m else kas_asc p f (m+1))<=m+(f+1)/\Sto lt p (ev lt (if lt (g p m) (g p (m - 1))=true then .ret m else kas_asc p f (m+1)))/\(ev lt (if lt (g p m) (g p (m - 1))=true then .ret m else kas_asc p f (m+1))<m+(f+1)->lt (g p (ev lt (if lt (g p m) (g p (m - 1))=true then .ret m else kas_asc p f (m+1)))) (g p (ev lt (if lt (g p m) (g p (m - 1))=true then .ret m else kas_asc p f (m+1)) - 1))=true);by_cases c:lt (g p m) (g p (m - 1))=true
  ·rw[Yf c];exact⟨le_refl _,Nat.le_add_right _ _,hs,λ_=>c⟩
  ·rw[Lt c];have c:lt (g p m) (g p (m - 1))=false:=by simpa using c
   have hs':Sto lt p (m+1):=λi j hij hj=>by
    by_cases e:j=m
    ·subst e;by_cases e2:i=j
     ·subst e2;exact irr O _
     ·exact O.ntr _ _ _ c (hs i (j - 1) (by omega) (by exact sub_lt (by assumption) (by decide)))
    ·exact hs i j hij (by omega)
   obtain⟨a,b,d,e⟩:=N9 f (m+1) (by exact Yz (by assumption)) hs';exact⟨by exact le_of_lt (by assumption),by omega,d,λh=>e (by omega)⟩
theorem Dto.eqv{p p1:Array Nat}{k:Nat}(h:Dto lt p k)(he:∀i,i<k->Eqv lt (g p1 i) (g p i)):Dto lt p1 k:=λi j hij hj=>
 O.ntr _ _ _ (he i (by exact Nat.lt_of_le_of_lt (by assumption) (by assumption))).1 (O.ntr _ _ _ (h i j hij hj) (he j hj).2)
def Blk(lt:Nat->Nat->Bool)(p:Array Nat)(m q:Nat):Prop:=q+1<=m/\∀i j,m - (q+1)<=i->i<m->m - (q+1)<=j->j<m->Eqv lt (g p i) (g p j)
theorem Lh{p:Array Nat}{m q:Nat}(hm:m<=p.size)(hb:Blk lt p m q):∀i,Eqv lt (g (kas_rev p (m - (q+1)) m) i) (g p i):=λi=>by
 have h1:=hb.1;rw[Rw hm];split
 ·exact hb.2 _ _ (by omega) (by omega) (by omega) (by omega)
 ·exact⟨irr O _,irr O _⟩
theorem Hf:∀f {p:Array Nat} (m q:Nat),1<=m->m+f<=p.size->Dto lt p m->Blk lt p m q->
  let r:=ev lt (kas_desc f p m q);m<=r.2.1/\r.2.1<=m+f/\r.1.size=p.size/\Dto lt r.1 r.2.1/\Blk lt r.1 r.2.1 r.2.2
 |0,p,m,q,_,_,hd,hb=>⟨le_refl _,le_refl _,rfl,hd,hb⟩
 |f+1,p,m,q,h1,hz,hd,hb=>by
  intro r;have b1:=hb.1;have single:∀(p':Array Nat),Blk lt p' (m+1) 0:=λp'=>⟨by exact Yz (by assumption),λi j a b c d=>by
   have:i=j:=by omega
   subst this;exact⟨irr O _,irr O _⟩⟩
  have low:lt (g p (m - 1)) (g p m)=false->Dto lt p (m+1):=λc i j hij hj=>by
   by_cases e:j=m
   ·subst e;by_cases e2:i=j
    ·subst e2;exact irr O _
    ·exact O.ntr _ _ _ (hd i (j - 1) (by omega) (by exact sub_lt (by assumption) (by decide))) c
   ·exact hd i j hij (by omega)
  by_cases c:lt (g p m) (g p (m - 1))=true
  ·have cl:=low (O.asym _ _ c);by_cases hq:q > 0
   ·have e:r=ev lt (kas_desc f (kas_rev p (m - (q+1)) m) (m+1) 0):=by
     show ev lt (if lt (g p m) (g p (m - 1))=true then (if q > 0 then _ else _) else _)=_;rw[Yf c,Yf hq]
    obtain⟨a,b,s,d,k⟩:=Hf f (p:=kas_rev p (m - (q+1)) m) (m+1) 0 (by exact Yz (by assumption)) (by rw[Fu];omega) (Dto.eqv O cl λi _=>Lh O (by omega) hb i) (single _);rw[e];exact⟨by exact le_of_lt (by assumption),by omega,by rw[s,Fu],d,k⟩
   ·have e:r=ev lt (kas_desc f p (m+1) 0):=by
     show ev lt (if lt (g p m) (g p (m - 1))=true then (if q > 0 then _ else _) else _)=_;rw[Yf c,Lt hq]
    obtain⟨a,b,s,d,k⟩:=Hf f (p:=p) (m+1) 0 (by exact Yz (by assumption)) (by omega) cl (single _);rw[e];exact⟨by exact le_of_lt (by assumption),by omega,s,d,k⟩
  ·have c':lt (g p m) (g p (m - 1))=false:=by simpa using c
   by_cases d1:lt (g p (m - 1)) (g p m)=true
   ·have e:r=(p,m,q):=by
     show ev lt (if lt (g p m) (g p (m - 1))=true then _ else KasT.ask _ _ λd=>if d=true then _ else _)=_;rw[Lt c];show ev lt (if lt (g p (m - 1)) (g p m)=true then KasT.ret (p,m,q) else _)=_;rw[Yf d1];rfl
    rw[e];exact⟨le_refl _,Nat.le_add_right _ _,rfl,hd,hb⟩
   ·have d':lt (g p (m - 1)) (g p m)=false:=by simpa using d1
    have e:r=ev lt (kas_desc f p (m+1) (q+1)):=by
     show ev lt (if lt (g p m) (g p (m - 1))=true then _ else KasT.ask _ _ λd=>if d=true then _ else _)=_;rw[Lt c];show ev lt (if lt (g p (m - 1)) (g p m)=true then KasT.ret (p,m,q) else _)=_;rw[Lt d1]
    have blk:Blk lt p (m+1) (q+1):=⟨by exact Nat.succ_le_succ (by assumption),λi j i1 i2 j1 j2=>by
     have to:∀k,m - (q+1)<=k->k<m+1->Eqv lt (g p k) (g p (m - 1)):=λk k1 k2=>by
      by_cases z:k=m
      ·subst z;exact⟨c',d'⟩
      ·exact hb.2 k (m - 1) k1 (by omega) (by omega) (by exact sub_lt (by assumption) (by decide))
     have a:=to i (by omega) i2;have b:=to j (by omega) j2;exact⟨O.ntr _ _ _ a.1 b.2,O.ntr _ _ _ b.1 a.2⟩⟩
    obtain⟨a,b,s,d,k⟩:=Hf f (p:=p) (m+1) (q+1) (by exact Yz (by assumption)) (by omega) (low d') blk;rw[e];exact⟨by exact le_of_lt (by assumption),by omega,s,d,k⟩
theorem Dto.rev{p:Array Nat}{m:Nat}(hm:m<=p.size)(h:Dto lt p m):Sto lt (kas_rev p 0 m) m:=λi j hij hj=>by
 rw[Rw hm,Rw hm,Yf ⟨by exact Y0 _,by assumption⟩,Yf ⟨by exact Y0 _,by exact Nat.lt_of_le_of_lt (by assumption) (by assumption)⟩];exact h _ _ (by omega) (by omega)
theorem Mn{p:Array Nat}{m nrem:Nat}(h1:1<=m)(hn:m<=nrem)(hz:nrem<=p.size)(h:Dto lt p m):let r:=ev lt (kas_tail3 m nrem p);1<=r.1/\r.1<=nrem/\Sto lt r.2 r.1:=by
 intro r;have e:r=(ev lt (kas_asc (kas_rev p 0 m) (nrem - m) m),kas_rev p 0 m):=Ep lt _ _;obtain⟨a,b,c,_⟩:=N9 O (p:=kas_rev p 0 m) (nrem - m) m h1 (Dto.rev O (by exact le_trans (by assumption) (by assumption)) h);rw[e];exact⟨by show 1<=_;exact le_trans (by assumption) (by assumption),by show _<=nrem;omega,c⟩
theorem G4{p:Array Nat}{m nrem:Nat}(hn:m+1<=nrem)(hz:nrem<=p.size)(h:Dto lt p (m+1)):let r:=ev lt (kas_descPart m nrem p);1<=r.1/\r.1<=nrem/\Sto lt r.2 r.1:=by
 intro r;have single:Blk lt p (m+1) 0:=⟨by omega,λi j a b c d=>by
  have:i=j:=by omega
  subst this;exact⟨irr O _,irr O _⟩⟩
 obtain⟨a,b,s,d,k⟩:=Hf O (nrem - (m+1)) (p:=p) (m+1) 0 (by omega) (by omega) h single;have e:r=ev lt (if (ev lt (kas_desc (nrem - (m+1)) p (m+1) 0)).2.2 > 0 then kas_tail3 (ev lt (kas_desc (nrem - (m+1)) p (m+1) 0)).2.1 nrem (kas_rev (ev lt (kas_desc (nrem - (m+1)) p (m+1) 0)).1 ((ev lt (kas_desc (nrem - (m+1)) p (m+1) 0)).2.1 - ((ev lt (kas_desc (nrem - (m+1)) p (m+1) 0)).2.2+1)) (ev lt (kas_desc (nrem - (m+1)) p (m+1) 0)).2.1) else kas_tail3 (ev lt (kas_desc (nrem - (m+1)) p (m+1) 0)).2.1 nrem (ev lt (kas_desc (nrem - (m+1)) p (m+1) 0)).1):=Ep lt _ _;rw[e];generalize ev lt (kas_desc (nrem - (m+1)) p (m+1) 0)=x at a b s d k;by_cases hq:x.2.2 > 0
 ·rw[Yf hq];exact Mn O (by omega) (by omega) (by rw[Fu];omega) (Dto.eqv O d λi _=>Lh O (by omega) k i)
 ·rw[Lt hq];exact Mn O (by omega) (by omega) (by omega) d
theorem Tb{p:Array Nat}{nrem:Nat}(h1:1<=nrem)(hz:nrem<=p.size):let r:=ev lt (kas_count nrem p);1<=r.1/\r.1<=nrem/\Sto lt r.2 r.1:=by
 intro r;have s1:Sto lt p 1:=λi j hij hj=>by
  have a:i=0:=by omega
  have b:j=0:=by omega
  subst a b;exact irr O _
 obtain⟨a,b,c,e⟩:=N9 O (p:=p) (nrem - 1) 1 (le_refl _) s1;have er:r=ev lt ((λn=>if (n==nrem)=true then KasT.ret (n,p) else if n > 1 then KasT.ask (p.getD 0 0) (p.getD (n - 1) 0) λc=>if c=true then KasT.ret (n,p) else kas_descPart n nrem (kas_rev p 0 n) else kas_descPart n nrem p) (ev lt (kas_asc p (nrem - 1) 1))):=Ep lt _ _;rw[er];generalize ev lt (kas_asc p (nrem - 1) 1)=m at a b c e;dsimp only;by_cases h2:(m==nrem)=true
 ·rw[Yf h2];exact⟨a,by show m<=nrem;omega,c⟩
 ·rw[Lt h2];have hm:m<nrem:=by
   have:m≠nrem:=by simpa using h2
   omega
  have last:=e (by omega);by_cases h3:m > 1
  ·rw[Yf h3];show let r:=ev lt (if lt (g p 0) (g p (m - 1))=true then KasT.ret (m,p) else kas_descPart m nrem (kas_rev p 0 m));1<=r.1/\r.1<=nrem/\Sto lt r.2 r.1
   by_cases h4:lt (g p 0) (g p (m - 1))=true
   ·rw[Yf h4];exact⟨a,by show m<=nrem;exact le_of_lt (by assumption),c⟩
   ·rw[Lt h4];have h4:lt (g p 0) (g p (m - 1))=false:=by simpa using h4
    have all:∀i j,i<m->j<m->lt (g p i) (g p j)=false:=λi j hi hj=>O.ntr _ _ _ (O.ntr _ _ _ (c 0 i (by exact Y0 _) hi) h4) (c j (m - 1) (by omega) (by exact sub_lt (by assumption) (by decide)));have blk:Blk lt p m (m - 1):=⟨by exact sub_lt (by assumption) (by decide),λi j _ i2 _ j2=>⟨all i j i2 j2,all j i j2 i2⟩⟩
    have d1:Dto lt p (m+1):=λi j hij hj=>by
     by_cases z:j=m
     ·subst z;by_cases z2:i=j
      ·subst z2;exact irr O _
      ·exact O.ntr _ _ _ (all i (j - 1) (by omega) (by exact sub_lt (by assumption) (by decide))) (O.asym _ _ last)
     ·exact all i j (by omega) (by omega)
    have rb:=Lh O (by omega) blk;rw[show m - (m - 1+1)=0 by omega] at rb;exact G4 O (by assumption) (by rw[Fu];assumption) (Dto.eqv O d1 λi _=>rb i)
  ·rw[Lt h3];have:m=1:=by omega
   subst this;refine G4 O (by assumption) hz λi j hij hj=> ?_;by_cases z:i=j
   ·subst z;exact irr O _
   ·have a0:i=0:=by omega
    have b1:j=1:=by omega
    subst a0 b1;exact O.asym _ _ last
theorem Iw{p:Array Nat}{k:Nat}:∀f l r,r - l<=f->l<=r->r<=k->(∀i,i<l->lt (g p k) (g p i)=false)->(∀i,r<=i->i<k->lt (g p k) (g p i)=true)->Sto lt p k->
  let x:=ev lt (kas_place p k f l r);x<=k/\(∀i,i<x->lt (g p k) (g p i)=false)/\∀i,x<=i->i<k->lt (g p k) (g p i)=true
 |0,l,r,hf,hlr,hrk,h1,h2,_=>by
  have:l=r:=by omega
  subst this;exact⟨hrk,h1,h2⟩
 |f+1,l,r,hf,hlr,hrk,h1,h2,hs=>by
  intro x;by_cases hl:l ≥ r
  ·have e:x=l:=by
    show ev lt (if l ≥ r then KasT.ret l else _)=l;rw[Yf hl];rfl
   have:l=r:=by omega
   subst this;rw[e];exact⟨hrk,h1,h2⟩
  ·by_cases c:lt (g p k) (g p ((l+r) / 2))=true
   ·have e:x=ev lt (kas_place p k f l ((l+r) / 2)):=by
     show ev lt (if l ≥ r then KasT.ret l else KasT.ask _ _ λc=>if c=true then _ else _)=_;rw[Lt hl];show ev lt (if lt (g p k) (g p ((l+r) / 2))=true then _ else _)=_;rw[Yf c]
    rw[e];refine Iw f l ((l+r) / 2) (by omega) (by omega) (by omega) h1 (λi i1 i2=> ?_) hs;cases z:lt (g p k) (g p i) with
    |true=>rfl
    |false=>
     have:=O.ntr _ _ _ z (hs ((l+r) / 2) i i1 i2);rw[c] at this;cases this
   ·have c':lt (g p k) (g p ((l+r) / 2))=false:=by simpa using c
    have e:x=ev lt (kas_place p k f ((l+r) / 2+1) r):=by
     show ev lt (if l ≥ r then KasT.ret l else KasT.ask _ _ λc=>if c=true then _ else _)=_;rw[Lt hl];show ev lt (if lt (g p k) (g p ((l+r) / 2))=true then _ else _)=_;rw[Lt c]
    rw[e];refine Iw f ((l+r) / 2+1) r (by omega) (by omega) hrk (λi i1=>O.ntr _ _ _ c' (hs i ((l+r) / 2) (by omega) (by omega))) h2 hs
theorem So:∀f {p:Array Nat} (k:Nat),k+f=p.size->Sto lt p k->Sto lt (ev lt (kas_bin f p k)) p.size
 |0,p,k,hz,hs=>by
  have:k=p.size:=by assumption
  subst this;exact hs
 |f+1,p,k,hz,hs=>by
  have e:ev lt (kas_bin (f+1) p k)=ev lt (kas_bin f (bubble p k (k - ev lt (kas_place p k k 0 k))) (k+1)):=Ep lt _ _;obtain⟨x1,x2,x3⟩:=Iw O (p:=p) (k:=k) k 0 k (by exact le_refl _) (by exact Y0 _) (le_refl _) (λi hi=>by omega) (λi i1 i2=>by omega) hs;rw[e];generalize ev lt (kas_place p k k 0 k)=x at x1 x2 x3;have hs':Sto lt (bubble p k (k - x)) (k+1):=λi j hij hj=>by
   rw[Wl (by omega) (by exact Nat.sub_le _ _),Wl (by omega) (by exact Nat.sub_le _ _),show k - (k - x)=x by omega];by_cases j1:j=x
   ·rw[Yf j1];by_cases i1:i=x
    ·rw[Yf i1];exact irr O _
    ·rw[Lt i1,Lt (by omega)];exact x2 i (by omega)
   ·rw[Lt j1];by_cases j2:x<j/\j<=k
    ·rw[Yf j2];by_cases i1:i=x
     ·rw[Yf i1];exact O.asym _ _ (x3 (j - 1) (by omega) (by omega))
     ·rw[Lt i1];by_cases i2:x<i/\i<=k
      ·rw[Yf i2];exact hs (i - 1) (j - 1) (by omega) (by omega)
      ·rw[Lt i2];exact hs i (j - 1) (by omega) (by omega)
    ·rw[Lt j2,Lt (by omega),Lt (by omega)];exact hs i j hij (by omega)
  have:=So f (p:=bubble p k (k - x)) (k+1) (by rw[bubble_size];omega) hs';rw[bubble_size] at this;exact this
theorem Vp{n:Nat}(h1:1<=n):Sto lt (ev lt (kas_sort n)) n:=by
 have hz:(List.range n).toArray.size=n:=by simp
 have e:ev lt (kas_sort n)=ev lt ((λr:Nat×Array Nat=>if r.1<n then kas_bin (n - max r.1 1) r.2 (max r.1 1) else .ret r.2) (ev lt (kas_count n (List.range n).toArray))):=Ep lt _ _;obtain⟨a,b,c⟩:=Tb O (p:=(List.range n).toArray) h1 (by omega);have pm:Pm n (ev lt (kas_count n (List.range n).toArray)).2:=(Iy (by assumption) n (Array.Perm.refl _)).ev lt;rw[e];generalize ev lt (kas_count n (List.range n).toArray)=r at a b c pm;dsimp only;have sz:=pm.size;by_cases h:r.1<n
 ·rw[Yf h,show max r.1 1=r.1 by omega];have:=So O (n - r.1) (p:=r.2) r.1 (by omega) c;rw[sz] at this;exact this
 ·rw[Lt h];have:r.1=n:=by omega
  rw[this] at c;exact c
end
section
variable{prog:Program}{w:World}{A:Around}{E:Value->Shared->Prop}{s:Shared}
theorem Jp{κ:SortKind}{lt:Nat->Nat->Bool}(O:Ord lt){a:Addr}{vs:List Value}{n:Nat}{P:PySem.Fin->Shared->Prop}(ho:s.heap.get? a=some (seqObj "list" vs.toArray n))(h64:vs.length<64)(hk:∀h',(∀b o,b≠a->s.heap.get? b=some o->h'.get? b=some o)->2<=vs.length->∀Q:SortKind->Shared->Prop,Q κ {s with heap:=h'}->wpAny (model prog w) A (keyKind' vs.toArray) Q E {s with heap:=h'})(hc:∀h',(∀b o,b≠a->s.heap.get? b=some o->h'.get? b=some o)->∀i j (C:Bool->Shared->Prop),i<vs.length->j<vs.length->C (lt i j) {s with heap:=h'}->kas_ask prog w A κ vs i j C {s with heap:=h'})(h:∀p:Array Nat,Pm vs.length p->Sto lt p vs.length->P (.done (.ret .none)) {s with heap:=sortedHeap s.heap a vs (p.toList.map λi=>vs.getD i Value.none).toArray}):
  wpAny (model prog w) A (Builtin.«list.sort» ⟨[.ref a],[]⟩) P E s:=by
 rw[list_sort_plain];have ha:a<s.heap.objs.size:=Yj ho;refine Gt (listItems_at ho rfl ?_);refine Gt (listUpdate_at ho rfl ?_ (by rw[size_toArray,Yr];omega) (Y0 _));obtain⟨e1,ho1⟩:∃e1,(s.heap.update a (Obj.mapSeq λ_=> #[])).get? a=some (seqObj "list" #[] e1):=⟨_,get?_update_seq ho (λ_=> #[])⟩
 refine Gt (seqEpoch_at ho1 rfl ?_);refine Gt (wpAny_newTuple ?_ (by show vs.length<=_;rw[Yr];omega));refine Gt (wpAny_newList ?_ (Y0 _));refine Y5 ?_;have keep:∀b o,b≠a->s.heap.get? b=some o->(((s.heap.update a (Obj.mapSeq λ_=> #[])).push (seqObj "tuple" vs.toArray 0)).push (seqObj "list" #[] 0)).get? b=some o:=λb o ne q=>by
  have hlt:b<s.heap.objs.size:=Yj q;rw[get?_push_ne _ _ _ (by rw[size_push',size_update];exact ne_of_lt (Yz hlt)),get?_push_ne _ _ _ (by rw[size_update];exact ne_of_lt hlt),Zn _ _ _ _ ne];exact q
 have ho6:(((s.heap.update a (Obj.mapSeq λ_=> #[])).push (seqObj "tuple" vs.toArray 0)).push (seqObj "list" #[] 0)).get? a=some (seqObj "list" #[] e1):=by
  rw[get?_push_ne _ _ _ (by rw[size_push',size_update];exact ne_of_lt (Yz ha)),get?_push_ne _ _ _ (by rw[size_update];exact ne_of_lt ha)];exact ho1
 show wpAny (model prog w) A _ P E {s with heap:=((s.heap.update a (Obj.mapSeq λ_=> #[])).push (seqObj "tuple" vs.toArray 0)).push (seqObj "list" #[] 0)};dsimp only;have hsz:vs.toArray.size=vs.length:=by simp
 by_cases h2:vs.toArray.size<2
 ·rw[Yf h2,Yf h2];refine Gt (Yg ?_);rw[StateT.run_pure];refine Gt (Yg ?_);dsimp only;refine Gt (seqEpoch_at ho6 rfl ?_);refine Gt (listUpdate_at ho6 rfl ?_ (hsz2:=by rw[Array.size_map];show (pairsOf vs).size<=_;rw[pairsOf_size,Yr];omega));simp only[bne_self_eq_false,Y6,Zl];have fin:=h (List.range vs.length).toArray (Array.Perm.refl _) (λi j hij hj=>by
   have:i=j:=by omega
   subst this;exact irr O _)
  have e:(List.range vs.length).toArray.toList.map (λi=>vs.getD i Value.none)=vs:=by
   refine ext_getElem? λi=> ?_;simp only[getElem?_map];by_cases hi:i<vs.length
   ·simp[hi]
   ·simp[Nat.le_of_not_lt hi]
  rw[e] at fin;have e2:(map (λx=>x.snd) (vs.toArray.zip vs.toArray))=vs.toArray:=by
   apply Array.toList_inj.mp;simp[List.map_snd_zip]
  rw[show map (λx:Keyed=>x.snd) (arrOf (SortSt.mk' general' (vs.toArray.zip vs.toArray) #[] 7 none))=vs.toArray from e2];exact Yg fin
 ·rw[Lt h2,Lt h2];have h2':2<=vs.length:=by rw[hsz] at h2;exact not_lt.mp (by assumption)
  refine Gt (hk _ keep h2' _ ?_);refine Gt (Y8 (kat_run (ks:=vs) (vs:=vs) (κ:=κ) (Q:=λst' s'=>∃p:Array Nat,s'={s with heap:=((s.heap.update a (Obj.mapSeq λ_=> #[])).push (seqObj "tuple" vs.toArray 0)).push (seqObj "list" #[] 0)}/\Pm vs.length p/\Sto lt p vs.length/\arrOf st'=p.map (kas_item (vs.toArray.zip vs.toArray))/\failedOf st'=none)
   rfl h2' h64 (G:=λp s'=>s'={s with heap:=((s.heap.update a (Obj.mapSeq λ_=> #[])).push (seqObj "tuple" vs.toArray 0)).push (seqObj "list" #[] 0)}/\Pm vs.length p/\Sto lt p vs.length) (λp st' s' a1 a2 a3 a4=>⟨p,a4.1,a4.2.1,a4.2.2,a2,a3⟩) ?_) ?_ λ_ _ e=>e)
  ·exact AsksP.wp (lt:=lt) (hc _ keep) (Ju (by exact le_of_lt (by assumption))) ⟨rfl,(Ju (by exact le_of_lt (by assumption))).ev lt,Vp O (by exact le_of_lt (by assumption))⟩
  ·rintro⟨⟨⟩,st'⟩ s' ⟨p,rfl,hp,hs,har,hf⟩;dsimp only;rw[kat_snds rfl har];refine Gt (seqEpoch_at ho6 rfl ?_);refine Gt (listUpdate_at ho6 rfl ?_ (Y0 _) (by rw[size_toArray,If,length_toList,hp.size,Yr];omega));rw[hf];simp only[bne_self_eq_false,Y6,Zl];exact Yg (h p hp hs)
theorem Cw{κ:SortKind}{lt:Nat->Nat->Bool}(O:Ord lt){v:Value}(I:List Value->Prop){Q:Value->Shared->Prop}(h64:∀vs,I vs->vs.length<64)(hcol:∀(Q:List Value->Shared->Prop),(∀vs h1 t1,I vs->(∀b o,s.heap.get? b=some o->h1.get? b=some o)->Q vs {s with heap:=h1,toks:=t1})->wpAny (model prog w) A.in1 (collect v) Q E s)(hk:∀vs h' t',I vs->(∀b o,s.heap.get? b=some o->h'.get? b=some o)->2<=vs.length->∀Q:SortKind->Shared->Prop,Q κ {s with heap:=h',toks:=t'}->wpAny (model prog w) A.in1.in1 (keyKind' vs.toArray) Q E {s with heap:=h',toks:=t'})(hc:∀vs h' t',I vs->(∀b o,s.heap.get? b=some o->h'.get? b=some o)->∀i j (C:Bool->Shared->Prop),i<vs.length->j<vs.length->C (lt i j) {s with heap:=h',toks:=t'}->kas_ask prog w A.in1.in1 κ vs i j C {s with heap:=h',toks:=t'})(h:∀vs (p:Array Nat) (h1 h':Heap) t' l e,I vs->Pm vs.length p->Sto lt p vs.length->(∀b o,s.heap.get? b=some o->h1.get? b=some o)->(∀b o,h1.get? b=some o->h'.get? b=some o)->h1.objs.size<=l->h'.get? l=some (seqObj "list" (p.toList.map λi=>vs.getD i Value.none).toArray e)->Q (.ref l) {s with heap:=h',toks:=t'}):
  wpAny (model prog w) A (call (.builtin "sorted") [v]) Q E s:=by
 refine Calls.call_function_entry kind_sorted plain_sorted entry_sorted (args_sorted1 _) ?_;unfold Builtin.«sorted»;refine Gt (m:=checkCount "sorted" 1 1 _) (Yg ?_);refine Gt (hcol _ λvs h1 t1 hI k1=> ?_);have h64:=h64 vs hI;refine Gt (wpAny_newList ?_ (by rw[Yr];omega));have hoL:(h1.push (seqObj "list" vs.toArray 0)).get? h1.objs.size=some (seqObj "list" vs.toArray 0):=Yi _ rfl;show wpAny _ _ _ _ _ {s with heap:=h1.push (seqObj "list" vs.toArray 0),toks:=t1};have k3:∀b o,h1.get? b=some o->b≠h1.objs.size/\(h1.push (seqObj "list" vs.toArray 0)).get? b=some o:=λb o q=>
  ⟨ne_of_lt (Yj q),Is _ q⟩
 have k2:∀b o,s.heap.get? b=some o->b≠h1.objs.size/\(h1.push (seqObj "list" vs.toArray 0)).get? b=some o:=λb o q=>k3 b o (k1 b o q);refine Gt (Y5 (wpAny_call_entry slot_list_sort ⟨_,hoL,rfl⟩ entry_list_sort (Jp (s:={s with heap:=h1.push (seqObj "list" vs.toArray 0),toks:=t1}) (κ:=κ) O hoL h64 (λh' k l2 Q q=> ?_) (λh' k i j C hi hj q=> ?_) λp hp hs=>⟨_,rfl,?_⟩) (args_list_sort _)))
 ·exact hk vs h' t1 hI (λb o q=>k b o (k2 b o q).1 (k2 b o q).2) l2 Q q
 ·exact hc vs h' t1 hI (λb o q=>k b o (k2 b o q).1 (k2 b o q).2) i j C hi hj q
 ·refine Yg ⟨_,rfl,?_⟩;have hz:h1.objs.size<(h1.push (seqObj "list" vs.toArray 0)).objs.size:=by rw[size_push'];exact lt_succ_self _
  obtain⟨e,he⟩:∃e,(sortedHeap (h1.push (seqObj "list" vs.toArray 0)) h1.objs.size vs (p.toList.map λi=>vs.getD i Value.none).toArray).get? h1.objs.size=some (seqObj "list" (p.toList.map λi=>vs.getD i Value.none).toArray e):=by
   unfold sortedHeap;obtain⟨e1,ho1⟩:∃e1,((h1.push (seqObj "list" vs.toArray 0)).update h1.objs.size (Obj.mapSeq λ_=> #[])).get? h1.objs.size=some (seqObj "list" #[] e1):=⟨_,get?_update_seq hoL (λ_=> #[])⟩
   have ho6:((((h1.push (seqObj "list" vs.toArray 0)).update h1.objs.size (Obj.mapSeq λ_=> #[])).push (seqObj "tuple" vs.toArray 0)).push (seqObj "list" #[] 0)).get? h1.objs.size=some (seqObj "list" #[] e1):=by
    exact Is _ (Is _ ho1)
   exact⟨_,get?_update_seq ho6 λ_=>_⟩
  refine h vs p h1 _ t1 h1.objs.size e hI hp hs k1 (λb o q=> ?_) (le_refl _) he;have q2:=k3 b o q;unfold sortedHeap;rw[Zn _ _ _ _ q2.1];refine Is _ (Is _ ?_);rw[Zn _ _ _ _ q2.1];exact q2.2
end
end Srt
namespace Srt
open PySem PySem.W PyProof.Rows L2
def ltK:Key->Key->Bool
 | .inl a,.inl b=>decide (a<b)
 | .inr a,.inr b=>decide (a.cps.toList<b.cps.toList)
 | .inl _,.inr _=>true
 | .inr _,.inl _=>false
def ltR:List Key->List Key->Bool
 |x::xs,y::ys=>if x=y then ltR xs ys else ltK x y
 |[],_::_=>true
 |_,[]=>false
theorem str_ext{a b:Str}(h:a.cps.toList=b.cps.toList):a=b:=by
 cases a;cases b;simp at h;rw[h]
theorem Ct:∀a,ltK a a=false
 | .inl a=>by simp[ltK]
 | .inr a=>by simp[ltK,List.lt_irrefl]
theorem Nh:∀{a b c},ltK a b=true->ltK b c=true->ltK a c=true
 | .inl a,.inl b,.inl c,h1,h2=>by simp only[ltK,Yh] at *;omega
 | .inr a,.inr b,.inr c,h1,h2=>by simp only[ltK,Yh] at *;exact List.lt_trans h1 h2
 | .inl _,.inl _,.inr _,_,_=>rfl
 | .inl _,.inr _,.inr _,_,_=>rfl
 | .inl _,.inr _,.inl _,_,h2=>by simp[ltK] at h2
 | .inr _,.inl _,_,h1,_=>by simp[ltK] at h1
 | .inr _,.inr _,.inl _,_,h2=>by simp[ltK] at h2
theorem Os:∀a b,ltK a b=false->a=b\/ltK b a=true
 | .inl a,.inl b,h=>by
  simp only[ltK,Yh,decide_eq_false_iff_not] at *;rcases Int.lt_trichotomy a b with x|x|x
  ·exact absurd x h
  ·exact .inl (by rw[x])
  ·exact .inr x
 | .inr a,.inr b,h=>by
  simp only[ltK,Yh,decide_eq_false_iff_not] at *;by_cases e:b.cps.toList<a.cps.toList
  ·exact .inr e
  ·exact .inl (Y2 Sum.inr (str_ext (List.le_antisymm (List.not_lt.mp e) (List.not_lt.mp h))))
 | .inl _,.inr _,h=>by simp[ltK] at h
 | .inr _,.inl _,_=> .inr rfl
theorem O7:∀a,ltR a a=false
 |[]=>rfl
 |x::xs=>by simp[ltR,O7 xs]
theorem Of:∀{a b c},ltR a b=true->ltR b c=true->ltR a c=true
 |_,[],_,h,_=>by simp[ltR] at h
 |_,_::_,[],_,h=>by simp[ltR] at h
 |[],_::_,_::_,_,_=>rfl
 |x::xs,y::ys,z::zs,h1,h2=>by
  unfold ltR at h1 h2 ⊢;by_cases e1:x=y
  ·subst e1;rw[Yf rfl] at h1;by_cases e2:x=z
   ·rw[Yf e2] at h2 ⊢;exact Of h1 h2
   ·rw[Lt e2] at h2 ⊢;exact h2
  ·rw[Lt e1] at h1;by_cases e2:y=z
   ·subst e2;rw[Lt e1];exact h1
   ·rw[Lt e2] at h2;have:=Nh h1 h2;rw[Lt (λe=>by rw[e,Ct] at this;cases this)];exact this
theorem ltR_tri:∀a b,ltR a b=false->a=b\/ltR b a=true
 |[],[],_=> .inl rfl
 |[],_::_,h=>by simp[ltR] at h
 |_::_,[],_=> .inr rfl
 |x::xs,y::ys,h=>by
  unfold ltR at h ⊢;by_cases e:x=y
  ·subst e;rw[Yf rfl] at h ⊢;rcases ltR_tri xs ys h with r|r
   ·exact .inl (by rw[r])
   ·exact .inr r
  ·rw[Lt e] at h;rw[Lt (λz=>e z.symm)];exact .inr ((Os _ _ h).resolve_left e)
theorem Fr(f:Nat->List Key):Ord λi j=>ltR (f i) (f j) where
 asym:=λa b h=>by
  cases e:ltR (f b) (f a) with
  |false=>rfl
  |true=>have:=Of h e;rw[O7] at this;cases this
 ntr:=λa b c h1 h2=>by
  cases e:ltR (f a) (f c) with
  |false=>rfl
  |true=>
   rcases ltR_tri _ _ h1 with r|r
   ·rw[r,h2] at e;cases e
   ·have:=Of r e;rw[h2] at this;cases this
def isL:Key->Bool
 | .inl _=>true
 | .inr _=>false
section
variable{prog:Program}{w:World}{A:Around}{E:Value->Shared->Prop}{s:Shared}
theorem Yd:∀{x y:Key} {u v:Value} {C:Bool->Shared->Prop},isL x=isL y->RelV (kV x) u->RelV (kV y) v->C (decide (x=y)) s->wpAny (model prog w) A (eqBool u v) C E s
 | .inl a,.inl b,_,_,C,_,⟨t,rfl⟩,⟨t',rfl⟩,h=>wpAny_eqBool_int (by
   have:(a==b)=decide ((Sum.inl a:Key)=Sum.inl b):=by simp only[Sum.inl.injEq];rfl
   rw[this];exact h)
 | .inr a,.inr b,_,_,C,_,⟨t,rfl⟩,⟨t',rfl⟩,h=>wpAny_eqBool_str (by
   have:decide (a=b)=decide ((Sum.inr a:Key)=Sum.inr b):=by simp
   rw[this];exact h)
 | .inl _,.inr _,_,_,_,h,_,_,_=>by cases h
 | .inr _,.inl _,_,_,_,h,_,_,_=>by cases h
theorem Ky:∀{x y:Key} {u v:Value} {b:Bool} {C:Bool->Shared->Prop},isL x=isL y->RelV (kV x) u->RelV (kV y) v->C (ltK x y) s->wpAny (model prog w) A (oneLt' b u v) C E s
 | .inl a,.inl c,_,_,true,C,_,⟨t,rfl⟩,⟨t',rfl⟩,h=>oneLt_int h
 | .inl a,.inl c,_,_,false,C,_,⟨t,rfl⟩,⟨t',rfl⟩,h=>kat_one _ _ (PyProof.Rows.lt_int (show PySem.W.BoolBack C _ s from h))
 | .inr a,.inr c,_,_,true,C,_,⟨t,rfl⟩,⟨t',rfl⟩,h=>oneLt_str h
 | .inr a,.inr c,_,_,false,C,_,⟨t,rfl⟩,⟨t',rfl⟩,h=>kat_one _ _ (PySem.P.lt_str (show PySem.W.BoolBack C _ s from h))
 | .inl _,.inr _,_,_,_,_,h,_,_,_=>by cases h
 | .inr _,.inl _,_,_,_,_,h,_,_,_=>by cases h
theorem Ts{b fin:Bool}{C:Bool->Shared->Prop}(hf:fin=false):∀{x y:List Key} {us vs:List Value} (i:Nat),x.map isL=y.map isL->Vals (x.map kV) us->Vals (y.map kV) vs->C (ltR x y) s->KatLex prog w A b fin C (us.zip vs) i s
 |[],[],_,_,i,_,.nil,.nil,h=>by subst hf;exact h
 |[],_::_,_,_,_,e,_,_,_=>by cases e
 |_::_,[],_,_,_,e,_,_,_=>by cases e
 |x::xs,y::ys,_,_,i,e,.cons r1 r2,.cons q1 q2,h=>by
  simp only[Yp,List.cons.injEq] at e;refine kat_cons (Yd e.1 r1 q1 ?_);unfold ltR at h;by_cases z:x=y
  ·rw[decide_eq_true z];rw[Yf z] at h;exact kat_yes (Ts hf (i+1) e.2 r2 q2 h)
  ·rw[decide_eq_false z];rw[Lt z] at h;exact kat_no (Ky e.1 r1 q1 h)
end
abbrev Row:=Addr×List Key
def rRef(q:Row):V:= .ref q.1
theorem Ot{X:Cx}{pins:List (Addr×Obj)}{σ:L2.St}{H:Hp}{s:Shared}(I:Inv X pins σ H s):∀(ps:List Row),(∀q∈ps,SqT X.K H q.1 (q.2.map kV))->(∀q∈ps,q.2≠[])->
  ∃fs,KatTups s.heap (ps.map λq=>Value.ref q.1) fs/\fs.length=ps.length/\∀v∈fs,∃q∈ps,∃k r,q.2=k::r/\RelV (kV k) v
 |[],_,_=>⟨[],trivial,rfl,λv h=>nomatch h⟩
 |q::ps,h,h0=>by
  obtain⟨fs,t,l,f⟩:=Ot I ps (λq hq=>h q (.tail _ hq)) λq hq=>h0 q (.tail _ hq);obtain⟨its,rv,⟨o,ho,hc,n,hd⟩,hz⟩:=I.tuple (h q (.head _));cases e:q.2 with
  |nil=>exact absurd e (h0 q (.head _))
  |cons k r=>
   rw[e,Yp] at rv;cases rv with
   | @cons _ u _ us ru rr=>
    refine⟨u::fs,.cons ho hc hd (by simp) t,by simp[l],λv hv=> ?_⟩;rcases Ym.mp hv with rfl|hv
    ·exact⟨q,.head _,k,r,e,ru⟩
    ·obtain⟨q',h1,k',r',h2,h3⟩:=f v hv;exact⟨q',.tail _ h1,k',r',h2,h3⟩
theorem Qd{M:Model}{h:Heap}:∀{k:Key} {v:Value},RelV (kV k) v->Looks M h (typeOf v) (if isL k=true then Value.type "int" else Value.type "str")
 | .inl i,v,⟨t,e⟩=>by subst e;exact Looks.of_pure rfl
 | .inr x,v,⟨t,e⟩=>by subst e;exact Looks.of_pure rfl
theorem Pm.toList{n:Nat}{p:Array Nat}(h:Pm n p):p.toList.Perm (List.range n):=by
 have:=(Array.perm_iff_toList_perm).mp h;simpa using this
theorem Bx{α:Type}(l:List α)(d:α):(List.range l.length).map (λi=>l.getD i d)=l:=by
 refine ext_getElem? λi=> ?_;simp only[getElem?_map];by_cases hi:i<l.length
 ·simp[hi]
 ·simp[Nat.le_of_not_lt hi]
theorem Sto.pairwise{lt:Nat->Nat->Bool}{p:Array Nat}{n:Nat}(hz:p.size=n)(h:Sto lt p n):p.toList.Pairwise λi j=>lt j i=false:=by
 rw[Y3];intro i j hi hj hij;have:=h i j (le_of_lt hij) (by simpa[<-hz] using hj);simp only[length_toList] at hi hj;have e1:g p i=p.toList[i]:=by simp[g,Array.getD,hi]
 have e2:g p j=p.toList[j]:=by simp[g,Array.getD,hj]
 rw[e1,e2] at this;exact this
theorem Jk{α:Type}(f:α->V)(f':α->Value)(hf:∀a,RelV (f a) (f' a)):∀l:List α,Vals (l.map f) (l.map f')
 |[]=> .nil
 |a::l=> .cons (hf a) (Jk f f' hf l)
theorem M7{X:Cx}{pins:List (Addr×Obj)}{σ:L2.St}{H:Hp}{s:Shared}(I:Inv X pins σ H s){v:Value}{ps:List Row}{Q:VK}(hT:∀q∈ps,SqT X.K H q.1 (q.2.map kV))(hS:∀q∈ps,∀q'∈ps,q.2.map isL=q'.2.map isL)(h0:∀q∈ps,q.2≠[])(h64:ps.length<64)(hcol:∀(Q:List Value->Shared->Prop),(∀h1 t1,(∀b o,s.heap.get? b=some o->h1.get? b=some o)->Q (ps.map λq=>Value.ref q.1) {s with heap:=h1,toks:=t1})->wpAny (model X.prog X.w) X.A.in1 (collect v) Q X.xe s)(h:∀(l:Addr) (ps':List Row),H l=none->ps'.Perm ps->ps'.Pairwise (λa b=>ltR b.2 a.2=false)->Q (.ref l) (upd H l (.lst (ps'.map rRef)))):
  wpAny (model X.prog X.w) X.A (call (.builtin "sorted") [v]) (EP X pins σ Q) X.xe s:=by
 have lz:(ps.map λq=>Value.ref q.1).length=ps.length:=If ..;refine Cw (κ:=tuples' true) (Fr λi=>(ps.getD i (0,[])).2) (λvs=>vs=ps.map λq=>Value.ref q.1) (λvs e=>by rw[e,lz];exact h64) (λQ hq=>hcol Q λh1 t1 k=>hq _ h1 t1 rfl k) ?_ ?_ ?_
 ·rintro vs h' t' rfl k l2 Q hq;rw[lz] at l2;have I':Inv X pins σ H {s with heap:=h',toks:=t'}:=I.kept k;obtain⟨fs,t,l,f⟩:=Ot I' ps hT h0;obtain⟨q0,r0,e0⟩:∃q0 r0,ps=q0::r0:=by
   match ps,l2 with
   |q0::r0,_=>exact⟨q0,r0,rfl⟩
  have m0:q0∈ps:=by rw[e0];exact .head _
  obtain⟨k0,r1,e1⟩:∃k0 r1,q0.2=k0::r1:=by
   cases e:q0.2 with
   |nil=>exact absurd e (h0 q0 m0)
   |cons k r=>exact⟨k,r,rfl⟩
  refine kat_kind (s:={s with heap:=h',toks:=t'}) (T:=if isL k0=true then Value.type "int" else Value.type "str") t (by omega) (λv hv=> ?_) (by split<;> rfl) ?_
  ·obtain⟨q,hq,k',r',e',rk⟩:=f v hv;have:=hS q hq q0 m0;rw[e',e1] at this;simp only[Yp,List.cons.injEq] at this;rw[<-this.1];exact Qd rk
  ·have:((if isL k0=true then Value.type "int" else Value.type "str") !=Value.type "tuple")=true:=by split<;> rfl
   rw[this];exact hq
 ·rintro vs h' t' rfl k i j C hi hj hC;rw[lz] at hi hj;have I':Inv X pins σ H {s with heap:=h',toks:=t'}:=I.kept k;show wpAny _ _ (keyLt' _ ((ps.map λq=>Value.ref q.1).getD i Value.none) ((ps.map λq=>Value.ref q.1).getD j Value.none)) C _ _;have ei:(ps.map λq=>Value.ref q.1).getD i Value.none=Value.ref ps[i].1:=by simp[hi]
  have ej:(ps.map λq=>Value.ref q.1).getD j Value.none=Value.ref ps[j].1:=by simp[hj]
  have fi:ps.getD i (0,[])=ps[i]:=by simp[hi]
  have fj:ps.getD j (0,[])=ps[j]:=by simp[hj]
  rw[ei,ej];rw[fi,fj] at hC;obtain⟨ui,ri,⟨oi,hoi,hci,ni,hdi⟩,zi⟩:=I'.tuple (hT ps[i] (getElem_mem hi));obtain⟨uj,rj,⟨oj,hoj,hcj,nj,hdj⟩,zj⟩:=I'.tuple (hT ps[j] (getElem_mem hj));have sh:=hS _ (getElem_mem hi) _ (getElem_mem hj);have el:ui.length=uj.length:=by
   rw[<-ri.length,<-rj.length,If,If];simpa using Y2 length sh
  refine kat_lt hoi hdi hoj hdj (Ts (by simp[el]) 0 sh ri rj hC)
 ·rintro vs p h1 h' t' l e rfl pm st k1 k zl hl;have I:Inv X pins σ H {s with heap:=h1,toks:=t'}:=I.kept k1;have pl:=pm.toList;rw[lz] at pl pm st;have hz:=pm.size;have mem:∀i∈p.toList,i<ps.length:=λi hi=>by simpa using pl.mem_iff.mp hi
  have e1:(p.toList.map λi=>(ps.map λq=>Value.ref q.1).getD i Value.none)=(p.toList.map λi=>ps.getD i (0,[])).map λq=>Value.ref q.1:=by
   rw[map_map];refine map_congr_left λi hi=> ?_;have:=mem i hi;simp[this]
  rw[e1] at hl;have pp:(p.toList.map λi=>ps.getD i (0,[])).Perm ps:=by
   have:=pl.map (λi=>ps.getD i ((0,[]):Row))
   rwa [Bx] at this
  have pw:(p.toList.map λi=>ps.getD i ((0,[]):Row)).Pairwise (λa b=>ltR b.2 a.2=false):=by
   rw[Yt];exact st.pairwise hz
  refine⟨.ref l,_,I.laid (t':=t') (o:= .lst ((p.toList.map λi=>ps.getD i (0,[])).map rRef)) k zl ⟨?_,_,e,Jk rRef (λq=>Value.ref q.1) (λ_=>rfl) _,hl⟩,rfl,h l _ (I.hok.fresh zl) pp pw⟩;rw[If,pp.length_eq,Yr];omega
structure Xw(K:Frag)(H:Hp)(ps:List Row):Prop where
 at':∀q∈ps,SqT K H q.1 (q.2.map kV)
 sh:∀q∈ps,∀q'∈ps,q.2.map isL=q'.2.map isL
 ne:∀q∈ps,q.2≠[]
 few:ps.length<64
section
variable{X:Cx}
def viewO(d:Addr):Obj:={cls:= .type "dict_values",data:= .fields #[.ref d]}
theorem Tk{kvs:List (Key×V)}{vs:List (Key×Value)}{ps:List Row}(rel:KV kvs vs)(e:kvs.map (·.2)=ps.map rRef):vs.map (·.2)=ps.map λq=>Value.ref q.1:=by
 induction rel generalizing ps with
 |nil=>
  cases ps with
  |nil=>rfl
  |cons _ _=>cases e
 | @cons a b l1 l2 r t ih=>
  cases ps with
  |nil=>cases e
  |cons q ps=>
   simp only[Yp,List.cons.injEq] at e ⊢;refine⟨?_,ih e.2⟩;have:=r.2;rw[e.1] at this;exact this
theorem call_sortedV(hc:X.calm=true):Ca X (.builtin "sorted") (λxs H Q=>∃(v d:Addr) (kvs:List (Key×V)) (ps:List Row),xs=[.ref v]/\H v=some (.frz (viewO d) (.own 0))/\H d=some (.dK kvs)/\kvs.map (·.2)=ps.map rRef/\Xw X.K H ps/\∀(l:Addr) (ps':List Row),H l=none->ps'.Perm ps->ps'.Pairwise (λa b=>ltR b.2 a.2=false)->Q (.ref l) (upd H l (.lst (ps'.map rRef)))):=by
 intro pins s σ H xs us Q I r h;obtain⟨v,d,kvs,ps,rfl,hv,hd,e,ok,q⟩:=h;obtain⟨u,rfl,rx⟩:=Ck r;cases rx;obtain⟨z,lo,vs,rel,dd⟩:=G2 I.hok hd;obtain⟨ep,hat⟩:=dd.dictAt;obtain⟨ho,_⟩:=(show ObjOk X.prog X.w H s.heap v (.frz (viewO d) (.own 0)) from I.hok v _ hv)
 refine M7 I ok.at' ok.sh ok.ne ok.few (λQ hq=> ?_) q;refine kdu_collect (A:=X.A.in1) (kdl_values (knd:=Bc X.prog X.w) (r:=v) (kvs:=vs) (ep:=ep)) (I.ok.hd hc) ⟨⟨_,ho,rfl,rfl⟩,hat⟩ (by rw[<-rel.length];exact z) λh' tk acc hk hacc=> ?_;have ea:acc.toList=ps.map λq=>Value.ref q.1:=by
  rw[<-Tk rel e];refine ext_getElem? λi=> ?_;rw[getElem?_map];by_cases hi:i<vs.length
  ·have hi':i<acc.size:=by rw[hacc.1];exact hi
   obtain⟨k,hx⟩:=hacc.2 i acc[i] (by simp[hi']);rw[hx];simp[hi']
  ·rw[List.getElem?_eq_none (by rw[length_toList,hacc.1];exact not_lt.mp (by assumption)),List.getElem?_eq_none (by exact not_lt.mp (by assumption))];rfl
 rw[ea];exact hq h' tk hk
theorem call_sortedD(hc:X.calm=true):Ca X (.builtin "sorted") (λxs H Q=>∃(d:Addr) (kvs:List (Key×V)) (ns:List Str),xs=[.ref d]/\H d=some (.dK kvs)/\kvs.map (·.1)=ns.map Sum.inr/\ns.length<64/\∀(l:Addr) (ns':List Str),H l=none->ns'.Perm ns->ns'.Pairwise (λa b=>ltK (.inr b) (.inr a)=false)->Q (.ref l) (upd H l (.lst (ns'.map V.str)))):=by
 intro pins s σ H xs us Q I r h;obtain⟨d,kvs,ns,rfl,hd,e,h64,q⟩:=h;obtain⟨u,rfl,rx⟩:=Ck r;cases rx;obtain⟨z,lo,vs,rel,dd⟩:=G2 I.hok hd;obtain⟨ep,hat⟩:=dd.dictAt;have ek:vs.map (·.1)=ns.map Sum.inr:=by
  rw[<-e];clear hat dd e q z hd
  induction rel with
  |nil=>rfl
  |cons r t ih=>rw[Yp,Yp,ih,r.1]
 have len:vs.length=ns.length:=by simpa using Y2 length ek
 refine Cw (κ:=oneType') (Fr λi=>[Sum.inr (ns.getD i default)]) (λus=>Vals (ns.map V.str) us) (λus hu=>by have:=hu.length;rw[If] at this;omega) (λQ hq=> ?_) ?_ ?_ ?_
 ·refine kdu_collect (A:=X.A.in1) (kdl_dict (knd:=Bc X.prog X.w) (kvs:=vs) (ep:=ep) lo) (I.ok.hd hc) hat (by rw[<-rel.length];exact z) λh' tk acc hk hacc=>hq _ h' tk ?_ hk;have go:∀(vs:List (Key×Value)) (ns:List Str) (us:List Value),vs.map (·.1)=ns.map Sum.inr->us.length=vs.length->(∀(j:Nat) (u:Value),us[j]? =some u->∃k x,vs[j]? =some (k,x)/\(Bc X.prog X.w).is k u=true)->Vals (ns.map V.str) us:=by
   intro vs
   induction vs with
   |nil=>
    intro ns us e1 e2 _;cases ns with
    |nil=>cases us with
     |nil=>exact .nil
     |cons _ _=>cases e2
    |cons _ _=>cases e1
   |cons p vs ih=>
    intro ns us e1 e2 h;cases ns with
    |nil=>cases e1
    |cons n ns=>
     cases us with
     |nil=>cases e2
     |cons u us=>
      simp only[Yp,List.cons.injEq] at e1;refine .cons ?_ (ih ns us e1.2 (by simpa using e2) λj u hj=>h (j+1) u (by simpa using hj));obtain⟨k,x,hx,hk⟩:=h 0 u rfl;simp only[List.getElem?_cons_zero,Option.some.injEq] at hx;have:k=Sum.inr n:=by rw[<-e1.1,hx]
      subst this;rcases Bg (show Je (Sum.inr n) u=true from hk) with⟨i,t,a,_⟩|⟨y,t,a,b⟩
      ·cases a
      ·cases a;exact⟨t,b⟩
  exact go vs ns acc.toList ek (by rw[length_toList];exact hacc.1) λj u hj=>hacc.2 j u (by rw[<-getElem?_toList];exact hj)
 ·intro us h' t' hu k l2 Q hq;refine kas_kind (s:={s with heap:=h',toks:=t'}) (T:=Value.type "str") l2 (λv hv=> ?_) rfl rfl hq;clear hq l2;have:∀{ns:List Str} {us:List Value},Vals (ns.map V.str) us->∀v∈us,∃x t,v=Value.str x t:=by
   intro ns
   induction ns with
   |nil=>intro us hu v hv;cases hu;cases hv
   |cons n ns ih=>
    intro us hu v hv;cases hu with
    |cons r t=>
     rcases Ym.mp hv with rfl|hv
     ·obtain⟨t,rfl⟩:=r;exact⟨_,_,rfl⟩
     ·exact ih t v hv
  obtain⟨x,t,rfl⟩:=this hu v hv;exact Looks.of_pure rfl
 ·intro us h' t' hu k i j C hi hj hC;have lu:=hu.length;rw[If] at lu;obtain⟨a,ha,ra⟩:=Vals.get hu (i:=i) (x:=V.str (ns.getD i default)) (by simp[show i<ns.length by omega]);obtain⟨b,hb,rb⟩:=Vals.get hu (i:=j) (x:=V.str (ns.getD j default)) (by simp[show j<ns.length by omega]);show wpAny _ _ (keyLt' oneType' (us.getD i Value.none) (us.getD j Value.none)) C _ _;have e1:us.getD i Value.none=a:=by simp[getD,ha]
  have e2:us.getD j Value.none=b:=by simp[getD,hb]
  rw[e1,e2,keyLt'_oneType];refine Ky (x:=Sum.inr (ns.getD i default)) (y:=Sum.inr (ns.getD j default)) rfl ra rb ?_;have:ltR [Sum.inr (ns.getD i default)] [Sum.inr (ns.getD j default)]=ltK (Sum.inr (ns.getD i default)) (Sum.inr (ns.getD j default)):=by
   unfold ltR;split
   ·rename_i e;rw[e,Ct];rfl
   ·rfl
  rw[<-this];exact hC
 ·intro us p h1 h' t' l e hu pm st k1 k zl hl;have lu:=hu.length;rw[If] at lu;have I:L2.Inv X pins σ H {s with heap:=h1,toks:=t'}:=I.kept k1;rw[<-lu] at pm st;have pl:=pm.toList;have pp:(p.toList.map λi=>ns.getD i default).Perm ns:=by
   have:=pl.map (λi=>ns.getD i (default:Str))
   rwa [Bx] at this
  have pw:(p.toList.map λi=>ns.getD i (default:Str)).Pairwise (λa b=>ltK (.inr b) (.inr a)=false):=by
   rw[Yt];refine(st.pairwise pm.size).imp λ{a b} hab=> ?_;unfold ltR at hab;split at hab
   ·rename_i e;rw[e];exact Ct _
   ·exact hab
  have mem:∀i∈p.toList,i<ns.length:=λi hi=>by simpa using pl.mem_iff.mp hi
  have vv:Vals ((p.toList.map λi=>ns.getD i default).map V.str) (p.toList.map λi=>us.getD i Value.none):=by
   clear hl pw pp pl st pm;generalize p.toList=il at mem
   induction il with
   |nil=>exact .nil
   |cons i il ih=>
    refine .cons ?_ (ih λj hj=>mem j (.tail _ hj));have hi:=mem i (.head _);obtain⟨a,ha,ra⟩:=Vals.get hu (i:=i) (x:=V.str (ns.getD i default)) (by simp[hi]);have e1:us.getD i Value.none=a:=by simp[getD,ha]
    show L2.RelV (V.str (ns.getD i default)) (us.getD i Value.none);rw[e1];exact ra
  refine⟨.ref l,_,I.laid (t':=t') (o:= .lst ((p.toList.map λi=>ns.getD i default).map V.str)) k zl ⟨?_,_,e,vv,hl⟩,rfl,q l _ (I.hok.fresh zl) pp pw⟩;rw[If,pp.length_eq,Yr];omega
def Xt(td:TE):TE:=λσ H Q=>td σ H λx H1=>∃a kvs,x= .ref a/\H1 a=some (.dK kvs)/\∀v,H1 v=none->Q (.ref v) (upd H1 v (.frz (viewO a) (.own 0)))
theorem pe_dvals{o:Expr}{td:TE}{apos cpos:Pos}(ho:PE X o td)(hbase:attributeBase o "values" X.env (eval o X.env)=eval o X.env)(hline:(apos.endLine==cpos.line)=true):PE X (.Call (.Attribute o "values" apos) [] [] cpos) (Xt td):=by
 intro pins s σ H Q I h;refine wpAny_Call_method hbase rfl hline plainAttrs_dict PySem.F.slot_dict_values PySem.F.type_dict_values (thn (ho pins s σ H _ I h) λu s1 ⟨x,H1,I1,rx,a,kvs,ex,d,q1⟩=> ?_);subst ex;obtain rfl:u=Value.ref a:=rx;obtain⟨t1,t2,_⟩:=Ng I1 (.inl ⟨kvs,.inl d⟩);refine⟨t1,t2,?_⟩;obtain⟨z,lo,vs,rel,dd⟩:=G2 I1.hok d;refine Calls.callWith_builtin rfl (PySem.evalArgs_none ?_);exact call_meetsIn PySem.F.slot_dict_values dd.typeIs PySem.F.entry_dict_values (PySem.F.args_dict_values_1 _) (meets_dict_values (Bc X.prog X.w) a lo) ⟨⟨vs,dd⟩,.ref s1.heap.objs.size,_,I1.laid (t':=s1.toks) (o:= .frz (viewO a) (.own 0)) (λ_ _ q=>Is _ q) (le_refl _) ⟨Yi _ rfl,_,Yi _ rfl⟩,rfl,q1 _ I1.fresh⟩
end
end Srt
namespace L2
open PySem PySem.Spec PyProof.Rows
structure PSo(X:Cx)(st:Stmt)(t:TS):Prop where
 of:PS X st t
structure Vt(X:Cx)(st:List Stmt)(t:TS):Prop where
 of:PSs X st t
structure PEo(X:Cx)(e:Expr)(t:TE):Prop where
 of:PE X e t
structure PAo(X:Cx)(es:List Expr)(t:TA):Prop where
 of:PA X es t
section
variable{X:Cx}{st:Stmt}{rest:List Stmt}{t u:TS}{e:Expr}{es:List Expr}{te:TE}{ta:TA}{pos:Pos}
theorem Eu(h1:PSo X st t)(h2:Vt X rest u):Vt X (st::rest) (Xf t u):=⟨Ad h1.of h2.of⟩
theorem Mt(h1:PSo X st t):Vt X [st] t:=⟨Ah h1.of⟩
theorem K1(h:PS X st t):PSo X st t:=⟨h⟩
theorem Ry(h:PE X e te):PEo X e te:=⟨h⟩
theorem Bs{i:Int}{j:Nat}:PEo X (.Constant (.int i) j pos) (tC (.int i)):=⟨Af⟩
theorem O5:PAo X [] tNil:=⟨Ac⟩
theorem Bm(ha:PEo X e te)(hr:PAo X es ta)(hs:starEach (e::es) X.env=(false,eval e X.env)::starEach es X.env:=by rfl):PAo X (e::es) (Wb te ta):=⟨Aa ha.of hr.of hs⟩
theorem O0(h:PAo X es ta):PEo X (.List es pos) (tLst ta):=⟨B7 h.of⟩
end
section
variable{X:Cx}
inductive Ly(x:V)(vs:List V)(H:Hp)(Q:VK):Prop
 |mk (z y:Str) (i:Nat) (rest:List Nat):(x= .str z)->(vs=[.str y])->(Builtin.Str.occurrences z y 0 z.length 1=i::rest)->(Q (.int i) H)->Ly x vs H Q
def U7:V->List V->Hp->VK->Prop:=λx vs H Q=>Ly x vs H Q
theorem Qq:MtM X "str.index" U7:=by
 intro pins s σ H x xs v us Q I rx r h;obtain⟨z,y,i,rest,rfl,rfl,ho,q⟩:=h;obtain⟨t,rfl⟩:=rx;obtain⟨u,rfl,⟨t2,rfl⟩⟩:=Ck r;refine call_gives PySem.F.slot_str_index (typeIs_str _ _ _) PySem.F.entry_str_index (PySem.F.args_str_index_2 _ _) (gives_str_index z y t t2 i rest ho) ?_;exact⟨.int i,H,I.tok _,⟨_,rfl⟩,q⟩
end
theorem Qe{K:Frag}{a:Addr}{xs:List V}{g:TG}{tb:TS}{D:Io}{σ:St}{H:Hp}(Pv:Nat->St->Hp->Prop)(h0:Pv 0 σ H)(hl:∀i σ H,i<=xs.length->Pv i σ H->SqT K H a xs)(hs:∀i x σ H T,xs[i]? =some x->Pv i σ H->H T=none->g (.ref T) σ (upd H T (.tup [.int (i:Nat),x])) λσ2 H2=>tb {D with nx:=Pv (i+1),ct:=Pv (i+1),bk:=D.nx} σ2 H2)(hd:∀σ H,Pv xs.length σ H->D.nx σ H):
  ∃W:Nat->Nat->St->Hp->Prop,(∃m,W 0 m σ H)/\∀i m σ H,W i m σ H->
   ((Sq K a).stop i H/\D.nx σ H)\/((Sq K a).go i H/\∃N:St->Hp->Prop,(∀σ' H',N σ' H'->∃m',m'<m/\W (i+1) m' σ' H')/\∀x H',(Sq K a).yld i H x H'->g x σ H' λσ2 H2=>tb {D with nx:=N,ct:=N,bk:=D.nx} σ2 H2):=by
 refine⟨λi m σ H=>m=xs.length - i/\i<=xs.length/\Pv i σ H,⟨xs.length,by simp,Y0 _,h0⟩,?_⟩;rintro i m σ H ⟨rfl,hi,p⟩;have q:=hl i σ H hi p;by_cases hlt:i<xs.length
 ·refine .inr ⟨⟨xs,xs[i],q,by simp[hlt]⟩,Pv (i+1),λσ' H' p'=>⟨xs.length - (i+1),by omega,rfl,hlt,p'⟩,λx H' y=> ?_⟩;obtain⟨T,z,hT,rfl,rfl,y⟩:=y;exact hs i z σ H T (y xs q) p hT
 ·have e:i=xs.length:=by omega
  subst e;exact .inl ⟨⟨xs,q,rfl⟩,hd σ H p⟩
theorem J2{X:Cx}(hu:X.A.units<cLine):OpR X (compareOp .NotEq) (λx y H Q=>∃(a b:Addr) (kvs:List (Key×V)),x= .ref a/\y= .ref b/\H a=some (.dK kvs)/\H b=some (.dK [])/\Q (.bl (!kvs.isEmpty)) H):=by
 intro pins s σ H x y u v Q I rx ry h;obtain⟨a,b,kvs,rfl,rfl,ha,hb,q⟩:=h;cases rx;cases ry;obtain⟨z,lo,vs,rel,dd⟩:=G2 I.hok ha;obtain⟨z2,lo2,vs2,rel2,dd2⟩:=G2 I.hok hb;cases rel2;have e:=rel.length;refine PySem.W.keq_ne (r:=true) lo lo2 dd dd2 hu (λl=> ?_) ⟨.bl (!kvs.isEmpty),H,I,?_,q⟩
 ·have:vs=[]:=List.length_eq_zero_iff.mp l;subst this;exact .nil
 ·have:(!(vs.length==([]:List (Key×Value)).length && true))= !kvs.isEmpty:=by
   cases kvs with
   |nil=>cases rel;rfl
   |cons _ _=>cases rel;rfl
  rw[this];rfl
end L2
namespace Wk
open PySem
abbrev T4:=Str×Nat×Nat×Int
def nbT(v:Nat)(t:T4):List (Str×Nat):=(if t.2.1=v then [(t.1,t.2.2.1)] else [])++(if t.2.2.1=v then [(t.1,t.2.1)] else [])
def Bh(S:List T4)(v:Nat):List (Str×Nat):=S.flatMap (nbT v)
abbrev Ws:=List (Option (List Str))
def Bi(w:List Str):List (Str×Nat)->Ws×List Nat->Ws×List Nat
 |[],st=>st
 |(n,u)::r,st=>if st.1[u]? =some none then Bi w r (st.1.set u (some (w++[n])),st.2++[u]) else Bi w r st
def Dw(S:List T4)(st:Ws×List Nat):Ws×List Nat:=
 match st.2 with
 |[]=>st
 |h::rest=>Bi ((st.1[h]?.join).getD []) (Bh S h) (st.1,rest)
def Bt(N p:Nat):Ws×List Nat:=((replicate N none).set p (some []),[p])
def iter(S:List T4):Nat->Ws×List Nat->Ws×List Nat
 |0,st=>st
 |n+1,st=>iter S n (Dw S st)
def Ef(N:Nat)(S:List T4)(p:Nat):Ws:=(iter S 64 (Bt N p)).1
theorem Jo{S:List T4}:∀(n:Nat) {ws:Ws},iter S n (ws,[])=(ws,[])
 |0,_=>rfl
 |n+1,ws=>Jo n (ws:=ws)
theorem J3{S:List T4}:∀(n:Nat) (st:Ws×List Nat),iter S (n+1) st=Dw S (iter S n st)
 |0,st=>rfl
 |n+1,st=>J3 n (Dw S st)
theorem Mu{S:List T4}(m:Nat):∀(n:Nat) (st:Ws×List Nat),iter S (n+m) st=iter S m (iter S n st)
 |0,st=>by rw[Nat.zero_add];rfl
 |n+1,st=>by rw[show n+1+m=(n+m)+1 by omega];exact Mu m n (Dw S st)
theorem Hk{N p i:Nat}{S:List T4}{ws:Ws}(h:iter S i (Bt N p)=(ws,[]))(hi:i<=64):Ef N S p=ws:=by
 unfold Ef;rw[show 64=i+(64 - i) by omega,Mu,h,Jo]
inductive L6(S:List T4)(a:Nat):List Str->Nat->Prop
 |nil:L6 S a [] a
 |snoc {ws:List Str} {b c:Nat} {n:Str}:L6 S a ws b->(n,c)∈Bh S b->L6 S a (ws++[n]) c
def Cp(ws:Ws):Nat:=ws.countP (·==none)
def Vis(ws:Ws)(v:Nat)(w:List Str):Prop:=ws[v]? =some (some w)
structure V9(S:List T4)(N p h:Nat)(w:List Str)(st:Ws×List Nat):Prop where
 len:st.1.length=N
 lead:∀v x,Vis st.1 v x->L6 S p x v
 vis:∀v∈st.2,∃x,Vis st.1 v x
 done:∀v x,Vis st.1 v x->v∈st.2\/v=h\/∀nb∈Bh S v,∃y,Vis st.1 nb.2 y/\y.length<=x.length+1
 sorted:st.2.Pairwise λa b=>∀x y,Vis st.1 a x->Vis st.1 b y->x.length<=y.length
 top:∀v x b y,Vis st.1 v x->b∈st.2->Vis st.1 b y->x.length<=y.length+1
 hv:Vis st.1 h w
 ht:∀v x,Vis st.1 v x->x.length<=w.length+1
 hb:∀b y,b∈st.2->Vis st.1 b y->w.length<=y.length
theorem Bf{ws:Ws}{u:Nat}{z:List Str}(hu:ws[u]? =some none){v:Nat}{x:List Str}:Vis (ws.set u (some z)) v x↔(v=u/\x=z)\/Vis ws v x:=by
 unfold Vis;have hl:u<ws.length:=(List.getElem?_eq_some_iff.mp hu).1;rw[List.getElem?_set];by_cases e:u=v
 ·subst e;rw[Yf rfl,Yf hl,hu];constructor
  ·intro q;left;exact⟨rfl,by simpa using q.symm⟩
  ·rintro(⟨_,rfl⟩|q)
   ·rfl
   ·simp at q
 ·rw[Lt e];constructor
  ·exact .inr
  ·rintro(⟨rfl,_⟩|q)
   ·exact absurd rfl e
   ·exact q
theorem Vw{ws:Ws}{v:Nat}{x y:List Str}(a:Vis ws v x)(b:Vis ws v y):x=y:=by
 unfold Vis at a b;rw[a] at b;simpa using b
theorem Fn{S:List T4}{N p h:Nat}{w:List Str}:∀(L:List (Str×Nat)) (st:Ws×List Nat),V9 S N p h w st->(∀nb∈L,nb∈Bh S h/\nb.2<N)->
  V9 S N p h w (Bi w L st)/\(∀v x,Vis st.1 v x->Vis (Bi w L st).1 v x)/\(∀nb∈L,∃y,Vis (Bi w L st).1 nb.2 y/\y.length<=w.length+1)/\Cp (Bi w L st).1+(Bi w L st).2.length=Cp st.1+st.2.length
 |[],st,I,_=>⟨I,λ_ _ e=>e,λnb h=>(by cases h),rfl⟩
 |(n,u)::r,st,I,hL=>by
  have hr:∀nb∈r,nb∈Bh S h/\nb.2<N:=λnb q=>hL nb (Yn _ q);have hn:=hL (n,u) (Yl ..);have hu:u<st.1.length:=by rw[I.len];exact hn.2
  unfold Bi;by_cases e:st.1[u]? =some none
  ·rw[Yf e];have I':V9 S N p h w (st.1.set u (some (w++[n])),st.2++[u]):=by
    have nu:∀x,¬Vis st.1 u x:=λx q=>by unfold Vis at q;rw[e] at q;simp at q
    refine⟨by simp[I.len],?_,?_,?_,?_,?_,?_,?_,?_⟩
    ·intro v x q;rcases(Bf e).mp q with⟨rfl,rfl⟩|q
     ·exact .snoc (I.lead h w I.hv) hn.1
     ·exact I.lead v x q
    ·intro v q;rcases mem_append.mp q with q|q
     ·obtain⟨x,hx⟩:=I.vis v q;exact⟨x,(Bf e).mpr (.inr hx)⟩
     ·rw[mem_singleton.mp q];exact⟨_,(Bf e).mpr (.inl ⟨rfl,rfl⟩)⟩
    ·intro v x q;rcases(Bf e).mp q with⟨rfl,rfl⟩|q
     ·exact .inl (mem_append_right _ (mem_singleton.mpr rfl))
     ·rcases I.done v x q with a|a|a
      ·exact .inl (mem_append_left _ a)
      ·exact .inr (.inl a)
      ·exact .inr (.inr λnb hb=>let ⟨y,hy,hl⟩:=a nb hb;⟨y,(Bf e).mpr (.inr hy),hl⟩)
    ·refine List.pairwise_append.mpr ⟨?_,List.pairwise_singleton ..,?_⟩
     ·refine(Pairwise.imp_of_mem ?_ I.sorted);intro a b ha hb k x y hx hy;have hx':Vis st.1 a x:=by
       rcases(Bf e).mp hx with⟨rfl,_⟩|q
       ·obtain⟨z,hz⟩:=I.vis _ ha;exact absurd hz (nu z)
       ·exact q
      have hy':Vis st.1 b y:=by
       rcases(Bf e).mp hy with⟨rfl,_⟩|q
       ·obtain⟨z,hz⟩:=I.vis _ hb;exact absurd hz (nu z)
       ·exact q
      exact k x y hx' hy'
     ·intro a ha b hb x y hx hy;rw[mem_singleton.mp hb] at hy;rcases(Bf e).mp hy with⟨_,rfl⟩|q
      ·rcases(Bf e).mp hx with⟨_,rfl⟩|q
       ·exact le_refl _
       ·have:=I.ht a x q;simp only[Yk,Yx,Y9];assumption
      ·exact absurd q (nu y)
    ·intro v x b y hx hb hy;have hx1:x.length<=w.length+1:=by
      rcases(Bf e).mp hx with⟨_,rfl⟩|q
      ·simp
      ·exact I.ht v x q
     have hy1:w.length<=y.length:=by
      rcases(Bf e).mp hy with⟨_,rfl⟩|q
      ·simp
      ·rcases mem_append.mp hb with hb|hb
       ·exact I.hb b y hb q
       ·rw[mem_singleton.mp hb] at q;exact absurd q (nu y)
     omega
    ·exact(Bf e).mpr (.inr I.hv)
    ·intro v x hx;rcases(Bf e).mp hx with⟨_,rfl⟩|q
     ·simp
     ·exact I.ht v x q
    ·intro b y hb hy;rcases(Bf e).mp hy with⟨_,rfl⟩|q
     ·simp
     ·rcases mem_append.mp hb with hb|hb
      ·exact I.hb b y hb q
      ·rw[mem_singleton.mp hb] at q;exact absurd q (nu y)
   obtain⟨a,b,c,d⟩:=Fn r _ I' hr;refine⟨a,λv x q=>b v x ((Bf e).mpr (.inr q)),λnb q=> ?_,?_⟩
   ·rcases Ym.mp q with rfl|q
    ·exact⟨_,b _ _ ((Bf e).mpr (.inl ⟨rfl,rfl⟩)),by simp⟩
    ·exact c nb q
   ·rw[d];have:Cp (st.1.set u (some (w++[n])))+1=Cp st.1:=by
     unfold Cp;have hg:st.1[u]=none:=by have:=List.getElem?_eq_some_iff.mp e;exact this.2
     rw[List.countP_set (h:=hu),hg];have:0<st.1.countP (·==none):=List.countP_pos_iff.mpr ⟨none,by rw[<-hg];exact getElem_mem hu,rfl⟩;simp only[beq_self_eq_true,if_true];show st.1.countP (·==none) - 1+0+1=_;omega
    simp only[Yk,Yx,Y9];omega
  ·rw[Lt e];obtain⟨a,b,c,d⟩:=Fn r st I hr;refine⟨a,b,λnb q=> ?_,d⟩;rcases Ym.mp q with rfl|q
   ·have:∃y,Vis st.1 u y:=by
     cases hh:st.1[u]? with
     |none=>rw[getElem?_eq_getElem hu] at hh;cases hh
     |some z=>cases z with
      |none=>exact absurd hh e
      |some y=>exact⟨y,hh⟩
    obtain⟨y,hy⟩:=this;exact⟨y,b _ _ hy,I.ht _ _ hy⟩
   ·exact c nb q
structure Kr(S:List T4)(N p:Nat)(st:Ws×List Nat):Prop where
 len:st.1.length=N
 p0:Vis st.1 p []
 lead:∀v x,Vis st.1 v x->L6 S p x v
 vis:∀v∈st.2,∃x,Vis st.1 v x
 done:∀v x,Vis st.1 v x->v∈st.2\/∀nb∈Bh S v,∃y,Vis st.1 nb.2 y/\y.length<=x.length+1
 sorted:st.2.Pairwise λa b=>∀x y,Vis st.1 a x->Vis st.1 b y->x.length<=y.length
 top:∀v x b y,Vis st.1 v x->b∈st.2->Vis st.1 b y->x.length<=y.length+1
def InN(N:Nat)(S:List T4):Prop:=∀t∈S,t.2.1<N/\t.2.2.1<N
theorem L8{N:Nat}{S:List T4}(h:InN N S){v:Nat}{nb:Str×Nat}(q:nb∈Bh S v):nb.2<N:=by
 obtain⟨t,ht,q⟩:=mem_flatMap.mp q;have:=h t ht;unfold nbT at q;rcases mem_append.mp q with q|q
 ·split at q
  ·rw[mem_singleton.mp q];exact this.2
  ·cases q
 ·split at q
  ·rw[mem_singleton.mp q];exact this.1
  ·cases q
theorem Wd{S:List T4}{N p:Nat}(hp:p<N):Kr S N p (Bt N p):=by
 have hu:(replicate N (none:Option (List Str)))[p]? =some none:=by rw[getElem?_replicate];rw[Yf hp]
 have nv:∀v x,¬Vis (replicate N (none:Option (List Str))) v x:=λv x q=>by
  unfold Vis at q;rw[getElem?_replicate] at q;split at q<;> simp at q
 have key:∀v x,Vis (Bt N p).1 v x->v=p/\x=[]:=λv x q=>by
  rcases(Bf hu).mp q with q|q
  ·exact q
  ·exact absurd q (nv v x)
 refine⟨by simp[Bt],(Bf hu).mpr (.inl ⟨rfl,rfl⟩),?_,?_,?_,?_,?_⟩
 ·intro v x q;obtain⟨rfl,rfl⟩:=key v x q;exact .nil
 ·intro v q;rw[mem_singleton.mp q];exact⟨_,(Bf hu).mpr (.inl ⟨rfl,rfl⟩)⟩
 ·intro v x q;obtain⟨rfl,rfl⟩:=key v x q;exact .inl (mem_singleton.mpr rfl)
 ·exact List.pairwise_singleton ..
 ·intro v x b y q _ q2;obtain⟨rfl,rfl⟩:=key v x q;simp
theorem Qu{N p:Nat}(hp:p<N){v:Nat}{x:List Str}(q:Vis (Bt N p).1 v x):x=[]:=by
 have hu:(replicate N (none:Option (List Str)))[p]? =some none:=by rw[getElem?_replicate];rw[Yf hp]
 rcases(Bf hu).mp q with q|q
 ·exact q.2
 ·unfold Vis at q;rw[getElem?_replicate] at q;split at q<;> simp at q
theorem Ks{S:List T4}{N p h:Nat}{ws:Ws}{rest:List Nat}(I:Kr S N p (ws,h::rest)):∃w,Vis ws h w/\V9 S N p h w (ws,rest):=by
 obtain⟨w,hw⟩:=I.vis h (Yl ..);refine⟨w,hw,I.len,I.lead,λv q=>I.vis v (Yn _ q),?_,(Zc.mp I.sorted).2,λv x b y a q=>I.top v x b y a (Yn _ q),hw,λv x q=>I.top v x h w q (Yl ..) hw,λb y q hb=>(Zc.mp I.sorted).1 b q w y hw hb⟩;intro v x q;rcases I.done v x q with a|a
 ·rcases Ym.mp a with rfl|a
  ·exact .inr (.inl rfl)
  ·exact .inl a
 ·exact .inr (.inr a)
theorem L5{S:List T4}{N p h:Nat}{ws:Ws}{rest:List Nat}(hS:InN N S)(I:Kr S N p (ws,h::rest)):
  Kr S N p (Dw S (ws,h::rest))/\Cp (Dw S (ws,h::rest)).1+(Dw S (ws,h::rest)).2.length+1=Cp ws+(h::rest).length:=by
 obtain⟨w,hw,J⟩:=Ks I;have e:Dw S (ws,h::rest)=Bi w (Bh S h) (ws,rest):=by
  show Bi ((ws[h]?.join).getD []) (Bh S h) (ws,rest)=_;unfold Vis at hw;rw[hw];rfl
 rw[e];obtain⟨a,b,c,d⟩:=Fn (Bh S h) (ws,rest) J λnb q=>⟨q,L8 hS q⟩
 refine⟨⟨a.len,b _ _ I.p0,a.lead,a.vis,?_,a.sorted,a.top⟩,by rw[d];rfl⟩;intro v x q;rcases a.done v x q with r|rfl|r
 ·exact .inl r
 ·refine .inr λnb hb=> ?_;have:=Vw q a.hv;subst this;exact c nb hb
 ·exact .inr r
theorem Ph{S:List T4}{N p:Nat}(hS:InN N S):∀(n:Nat) (st:Ws×List Nat),Kr S N p st->Kr S N p (iter S n st)/\((iter S n st).2=[]\/Cp (iter S n st).1+(iter S n st).2.length+n=Cp st.1+st.2.length)
 |0,st,I=>⟨I,.inr rfl⟩
 |n+1,(ws,[]),I=>by
  have e:iter S (n+1) (ws,[])=(ws,[]):=Jo (n+1);rw[e];exact⟨I,.inl rfl⟩
 |n+1,(ws,h::rest),I=>by
  obtain⟨a,b⟩:=L5 hS I;obtain⟨c,d⟩:=Ph hS n _ a;refine⟨c,?_⟩;rcases d with d|d
  ·exact .inl d
  ·refine .inr ?_;show Cp (iter S n (Dw S (ws,h::rest))).1+(iter S n (Dw S (ws,h::rest))).2.length+(n+1)=Cp ws+(h::rest).length;omega
theorem Ij{S:List T4}{N p:Nat}(hS:InN N S)(hp:p<N)(hN:N<=60):∃ws,iter S 64 (Bt N p)=(ws,[])/\Kr S N p (ws,[]):=by
 obtain⟨a,b⟩:=Ph hS 64 (Bt N p) (Wd hp);have:Cp (Bt N p).1+(Bt N p).2.length<=N+1:=by
  have:Cp (Bt N p).1<=(Bt N p).1.length:=List.countP_le_length;simp only[Bt,List.length_set,List.length_replicate,List.length_singleton] at this ⊢;exact Nat.succ_le_succ (by assumption)
 have e:(iter S 64 (Bt N p)).2=[]:=by
  rcases b with b|b
  ·exact b
  ·omega
 refine⟨(iter S 64 (Bt N p)).1,Prod.ext rfl e,?_⟩;have:iter S 64 (Bt N p)=((iter S 64 (Bt N p)).1,[]):=Prod.ext rfl e;rw[this] at a;exact a
theorem Rz{S:List T4}{N p:Nat}(hS:InN N S)(hp:p<N)(hN:N<=60):(Ef N S p).length=N:=by
 obtain⟨ws,e,I⟩:=Ij hS hp hN;rw[Hk e (le_refl _)];exact I.len
theorem Rf{S:List T4}{N p:Nat}(hS:InN N S)(hp:p<N)(hN:N<=60){v:Nat}{x:List Str}(h:Vis (Ef N S p) v x):L6 S p x v:=by
 obtain⟨ws,e,I⟩:=Ij hS hp hN;rw[Hk e (le_refl _)] at h;exact I.lead v x h
theorem N8{S:List T4}{N p:Nat}(hS:InN N S)(hp:p<N)(hN:N<=60){v:Nat}{x:List Str}(h:L6 S p x v):∃y,Vis (Ef N S p) v y/\y.length<=x.length:=by
 obtain⟨ws,e,I⟩:=Ij hS hp hN;rw[Hk e (le_refl _)]
 induction h with
 |nil=>exact⟨[],I.p0,le_refl _⟩
 |snoc a b ih=>
  obtain⟨y,hy,hl⟩:=ih;rcases I.done _ _ hy with q|q
  ·cases q
  ·obtain⟨z,hz,hl2⟩:=q _ b;exact⟨z,hz,by simp only[Yk,Yx,Y9] at hl2 ⊢;omega⟩
def Bn(N:Nat)(S:List T4)(p:Nat):List Nat:=(List.range N).filter λv=>((Ef N S p)[v]?.join).isSome
def Reach(S:List T4)(a b:Nat):Prop:=∃ws,L6 S a ws b
theorem U0{ws:Ws}{v:Nat}:(ws[v]?.join).isSome=true↔∃x,Vis ws v x:=by
 unfold Vis;cases ws[v]? with
 |none=>simp
 |some z=>cases z<;> simp
theorem C8{S:List T4}{N p v:Nat}(hS:InN N S)(hp:p<N)(hN:N<=60):v∈Bn N S p↔v<N/\Reach S p v:=by
 unfold Bn;rw[mem_filter,mem_range,U0];constructor
 ·rintro⟨a,x,hx⟩;exact⟨a,x,Rf hS hp hN hx⟩
 ·rintro⟨a,x,hx⟩;obtain⟨y,hy,_⟩:=N8 hS hp hN hx;exact⟨a,y,hy⟩
theorem Reach.refl{S:List T4}{a:Nat}:Reach S a a:=⟨[],.nil⟩
theorem Uv{S:List T4}{a b:Nat}{n:Str}(h:(n,b)∈Bh S a):(n,a)∈Bh S b:=by
 obtain⟨t,ht,q⟩:=mem_flatMap.mp h;refine mem_flatMap.mpr ⟨t,ht,?_⟩;unfold nbT at q ⊢;rcases mem_append.mp q with q|q
 ·split at q
  ·rename_i e;have:=mem_singleton.mp q;cases this;refine mem_append_right _ ?_;rw[Yf rfl,e];exact mem_singleton.mpr rfl
  ·cases q
 ·split at q
  ·rename_i e;have:=mem_singleton.mp q;cases this;refine mem_append_left _ ?_;rw[Yf rfl,e];exact mem_singleton.mpr rfl
  ·cases q
theorem Reach.trans{S:List T4}{a b c:Nat}(h:Reach S a b)(g:Reach S b c):Reach S a c:=by
 obtain⟨x,hx⟩:=h;obtain⟨y,hy⟩:=g
 induction hy with
 |nil=>exact⟨x,hx⟩
 |snoc _ q ih=>obtain⟨z,hz⟩:=ih;exact⟨_,.snoc hz q⟩
theorem Reach.step{S:List T4}{a b:Nat}{n:Str}(h:(n,b)∈Bh S a):Reach S a b:=⟨[]++[n],.snoc .nil h⟩
theorem Reach.symm{S:List T4}{a b:Nat}(h:Reach S a b):Reach S b a:=by
 obtain⟨x,hx⟩:=h
 induction hx with
 |nil=>exact .refl
 |snoc _ q ih=>exact(Reach.step (Uv q)).trans ih
theorem Ko{S:List T4}{t:T4}(h:t∈S):(t.1,t.2.2.1)∈Bh S t.2.1:=mem_flatMap.mpr ⟨t,h,mem_append_left _ (by rw[Yf rfl];exact mem_singleton.mpr rfl)⟩
theorem Hl{S:List T4}{a b:Nat}{n:Str}(h:(n,b)∈Bh S a):∃t∈S,t.1=n/\((t.2.1=a/\t.2.2.1=b)\/(t.2.2.1=a/\t.2.1=b)):=by
 obtain⟨t,ht,q⟩:=mem_flatMap.mp h;refine⟨t,ht,?_⟩;unfold nbT at q;rcases mem_append.mp q with q|q
 ·split at q
  ·rename_i e;have:=mem_singleton.mp q;cases this;exact⟨rfl,.inl ⟨e,rfl⟩⟩
  ·cases q
 ·split at q
  ·rename_i e;have:=mem_singleton.mp q;cases this;exact⟨rfl,.inr ⟨e,rfl⟩⟩
  ·cases q
def relab(l:List Nat)(lo hi:Nat):List Nat:=l.map λx=>if x=hi then lo else x
def Js(l:List Nat)(t:T4):List Nat:=relab l (min (l.getD t.2.1 0) (l.getD t.2.2.1 0)) (max (l.getD t.2.1 0) (l.getD t.2.2.1 0))
def Vn(N:Nat)(S:List T4):List Nat:=S.foldl Js (List.range N)
theorem Do(l:List Nat)(t:T4):(Js l t).length=l.length:=by simp[Js,relab]
theorem Qt{l:List Nat}{lo hi v:Nat}(hv:v<l.length):(relab l lo hi).getD v 0=if l.getD v 0=hi then lo else l.getD v 0:=by
 unfold relab;rw[List.getD_eq_getElem?_getD,getElem?_map,getElem?_eq_getElem hv,List.getD_eq_getElem?_getD,getElem?_eq_getElem hv];rfl
theorem Dn{l:List Nat}{t:T4}{v:Nat}(hv:v<l.length):(Js l t).getD v 0=if l.getD v 0=max (l.getD t.2.1 0) (l.getD t.2.2.1 0) then min (l.getD t.2.1 0) (l.getD t.2.2.1 0) else l.getD v 0:=Qt hv
theorem Qi{u v:Nat}(S:List T4):∀l:List Nat,u<l.length->v<l.length->l.getD u 0=l.getD v 0->(S.foldl Js l).getD u 0=(S.foldl Js l).getD v 0:=by
 induction S with
 |nil=>intro l _ _ h;exact h
 |cons t S ih=>
  intro l hu hv h;rw[foldl_cons];exact ih _ (by rw[Do];exact hu) (by rw[Do];exact hv) (by rw[Dn hu,Dn hv,h])
theorem Tg{N:Nat}(S:List T4):∀l:List Nat,l.length=N->InN N S->∀t∈S,(S.foldl Js l).getD t.2.1 0=(S.foldl Js l).getD t.2.2.1 0:=by
 induction S with
 |nil=>intro l _ _ t h;cases h
 |cons t S ih=>
  intro l hl hN t' h;rw[foldl_cons];rcases Ym.mp h with rfl|h
  ·have:=hN t' (Yl ..);refine Qi S _ (by rw[Do];omega) (by rw[Do];omega) ?_;rw[Dn (by omega),Dn (by omega)];split<;> split<;> omega
  ·exact ih _ (by rw[Do];exact hl) (λx q=>hN x (Yn _ q)) t' h
theorem Qv{S S':List T4}(h:∀t∈S,t∈S'){v:Nat}{nb:Str×Nat}(q:nb∈Bh S v):nb∈Bh S' v:=by
 obtain⟨t,ht,q⟩:=mem_flatMap.mp q;exact mem_flatMap.mpr ⟨t,h t ht,q⟩
theorem Reach.mono{S S':List T4}(h:∀t∈S,t∈S'){a b:Nat}(q:Reach S a b):Reach S' a b:=by
 obtain⟨x,hx⟩:=q
 induction hx with
 |nil=>exact .refl
 |snoc _ q ih=>exact ih.trans (.step (Qv h q))
theorem Nd{N:Nat}{S0:List T4}(S:List T4):∀l:List Nat,l.length=N->InN N S->(∀t∈S,t∈S0)->(∀u v,u<N->v<N->l.getD u 0=l.getD v 0->Reach S0 u v)->∀u v,u<N->v<N->(S.foldl Js l).getD u 0=(S.foldl Js l).getD v 0->Reach S0 u v:=by
 induction S with
 |nil=>intro l _ _ _ h;exact h
 |cons t S ih=>
  intro l hl hN hS h;rw[foldl_cons];refine ih _ (by rw[Do];exact hl) (λx q=>hN x (Yn _ q)) (λx q=>hS x (Yn _ q)) ?_;intro u v hu hv e;have ht:=hN t (Yl ..);have tt:Reach S0 t.2.1 t.2.2.1:= .step (Ko (hS t (Yl ..)));rw[Dn (by omega),Dn (by omega)] at e;have q1:∀x,x<N->(l.getD x 0=max (l.getD t.2.1 0) (l.getD t.2.2.1 0)\/l.getD x 0=min (l.getD t.2.1 0) (l.getD t.2.2.1 0))->Reach S0 x t.2.1:=by
   intro x hx hm;have:l.getD x 0=l.getD t.2.1 0\/l.getD x 0=l.getD t.2.2.1 0:=by omega
   rcases this with q|q
   ·exact h x _ hx ht.1 q
   ·exact(h x _ hx ht.2 q).trans tt.symm
  split at e
  ·split at e
   ·exact(q1 u hu (.inl (by assumption))).trans (q1 v hv (.inl (by assumption))).symm
   ·exact(q1 u hu (.inl (by assumption))).trans (q1 v hv (.inr e.symm)).symm
  ·split at e
   ·exact(q1 u hu (.inr e)).trans (q1 v hv (.inl (by assumption))).symm
   ·exact h u v hu hv e
theorem Ov{N:Nat}{S:List T4}(hS:InN N S){u v:Nat}(hu:u<N)(hv:v<N):(Vn N S).getD u 0=(Vn N S).getD v 0↔Reach S u v:=by
 constructor
 ·refine Nd S (List.range N) (Za ..) hS (λ_ h=>h) ?_ u v hu hv;intro a b ha hb e;rw[List.getD_eq_getElem?_getD,getElem?_range ha,List.getD_eq_getElem?_getD,getElem?_range hb] at e;have:a=b:=e;subst this;exact .refl
 ·rintro⟨x,hx⟩
  induction hx with
  |nil=>rfl
  | @snoc ws b c n a q ih=>
   have hb:b<N:=by
    cases a with
    |nil=>exact hu
    |snoc _ r=>exact L8 hS r
   have hc:c<N:=L8 hS q;refine(ih hb).trans ?_;obtain⟨t,ht,_,h⟩:=Hl q;have:=Tg S (List.range N) (Za ..) hS t ht;rcases h with⟨rfl,rfl⟩|⟨rfl,rfl⟩
   ·exact this
   ·exact this.symm
theorem Mv{N p:Nat}{S:List T4}(hS:InN N S)(hp:p<N)(hN:N<=60):Bn N S p=(List.range N).filter λv=>decide ((Vn N S).getD v 0=(Vn N S).getD p 0):=by
 refine List.filter_congr λv hv=> ?_;have hv:=mem_range.mp hv;rw[Bool.eq_iff_iff,Yh,Ov hS hv hp];have:=C8 (v:=v) hS hp hN;unfold Bn at this;rw[mem_filter,mem_range] at this;constructor
 ·intro h;exact(this.mp ⟨hv,h⟩).2.symm
 ·intro h;exact(this.mpr ⟨hv,h.symm⟩).2
end Wk
namespace L2
open PySem
theorem R9{c:TT}{tb:TS}{D:Io}{σ:St}{H:Hp}(Pv:Nat->St->Hp->Prop){m0:Nat}(h0:Pv m0 σ H)(hs:∀m σ H,Pv m σ H->c σ H λb H1=>if b=true then tb {D with nx:=λσ' H'=>∃m',m'<m/\Pv m' σ' H',ct:=λσ' H'=>∃m',m'<m/\Pv m' σ' H',bk:=D.nx} σ H1 else D.nx σ H1)(mono:∀σ H Q Q',(∀b H1,Q b H1->Q' b H1)->c σ H Q->c σ H Q'):Ua c tb D σ H:=by
 refine⟨Pv,⟨m0,h0⟩,λm σ H p=> ?_⟩;refine mono σ H _ _ (λb H1 q=> ?_) (hs m σ H p);cases b with
 |true=>exact⟨_,λ_ _ h=>h,q⟩
 |false=>exact q
theorem A2{H0 H:Hp}{a:Addr}{o:HO}(s:Same H0 H)(n:H0 a=none):Same H0 (upd H a o):=λb u e=>by
 rw[Aj (Ay e n)];exact s b u e
theorem Mm(x:Int)(zs:List Int):inV (.int x) (zs.map V.int)=decide (x∈zs):=by
 unfold inV
 induction zs with
 |nil=>simp
 |cons z zs ih=>
  rw[Yp,any_cons,ih];have:eqV (.int z) (.int x)=decide (x=z):=by
   show (z==x)=_;rw[Bool.eq_iff_iff,beq_iff_eq,Yh];exact eq_comm
  rw[this,Bool.eq_iff_iff];simp
theorem Dv(ns:List Int):(ns.map V.int).all Fx=true:=by
 induction ns with
 |nil=>rfl
 |cons n ns ih=>rw[Yp,all_cons,ih];rfl
theorem map_some{α β:Type}{f:α->β}{l:List α}{i:Nat}{x:β}(h:(l.map f)[i]? =some x):∃z,l[i]? =some z/\x=f z:=by
 rw[getElem?_map] at h;cases q:l[i]? with
 |none=>rw[q] at h;cases h
 |some z=>rw[q] at h;exact⟨z,rfl,(Option.some.inj h).symm⟩
theorem Lc{n j:Nat}(h:j<n):ixN n (j:Int)=some j:=by
 unfold ixN;rw[Yf (by exact Int.natCast_nonneg _),Yf (by omega)];simp
theorem C6{α:Type}{l:List α}{i:Nat}(h:i<l.length):l[i]? =some l[i]:=getElem?_eq_getElem h
end L2
namespace Wk
open PySem L2
def Cm(t:T4):List V:=[.str t.1,.int (t.2.1:Int),.int (t.2.2.1:Int),.int t.2.2.2]
def TiesAt(H:Hp)(rs:List Addr)(S:List T4):Prop:=rs.length=S.length/\∀(i:Nat) r t,rs[i]? =some r->S[i]? =some t->H r=some (.tup (Cm t))
theorem TiesAt.get{H:Hp}{rs:List Addr}{S:List T4}(h:TiesAt H rs S){i:Nat}{r:Addr}(hr:rs[i]? =some r):∃t,S[i]? =some t/\H r=some (.tup (Cm t)):=by
 have hi:i<S.length:=by rw[<-h.1];exact(List.getElem?_eq_some_iff.mp hr).1
 exact⟨S[i],C6 hi,h.2 i r _ hr (C6 hi)⟩
def PrsAt(H:Hp)(l:Addr)(ps:List (Str×Nat)):Prop:=∃rs:List Addr,H l=some (.lst (rs.map V.ref))/\rs.length=ps.length/\∀(i:Nat) r q,rs[i]? =some r->ps[i]? =some q->H r=some (.tup [.str q.1,.int (q.2:Int)])
theorem PrsAt.same{H H':Hp}{l:Addr}{ps:List (Str×Nat)}(h:PrsAt H l ps)(s:Same H H'):PrsAt H' l ps:=let ⟨rs,a,b,c⟩:=h;⟨rs,s _ _ a,b,λi r q e f=>s _ _ (c i r q e f)⟩
def BesAt(H:Hp)(b:Addr)(N:Nat)(f:Nat->List (Str×Nat)):Prop:=∃ls:List Addr,H b=some (.lst (ls.map V.ref))/\ls.length=N/\∀(v:Nat) l,ls[v]? =some l->PrsAt H l (f v)
theorem BesAt.same{H H':Hp}{b:Addr}{N:Nat}{f:Nat->List (Str×Nat)}(h:BesAt H b N f)(s:Same H H'):BesAt H' b N f:=let ⟨ls,x,y,z⟩:=h;⟨ls,s _ _ x,y,λv l e=>(z v l e).same s⟩
structure Bes(H0 H:Hp)(b:Addr)(ls:List Addr)(N:Nat)(f:Nat->List (Str×Nat)):Prop where
 same:Same H0 H
 hb:H b=some (.lst (ls.map V.ref))
 len:ls.length=N
 nd:ls.Nodup
 new:∀l∈ls,H0 l=none/\l≠b
 prs:∀(v:Nat) l,ls[v]? =some l->PrsAt H l (f v)
theorem nd_ix{ls:List Addr}(h:ls.Nodup){i j:Nat}{l:Addr}(a:ls[i]? =some l)(b:ls[j]? =some l):i=j:=by
 have hi:=(List.getElem?_eq_some_iff.mp a).1;exact(List.getElem?_inj hi h).mp (by rw[a,b])
theorem Bes.app{H0 H:Hp}{b:Addr}{ls:List Addr}{N v:Nat}{f:Nat->List (Str×Nat)}{l p:Addr}{xs:List V}{n:Str}{u:Nat}(B:Bes H0 H b ls N f)(hv:ls[v]? =some l)(hp:H p=none)(hl:H l=some (.lst xs)):
  Bes H0 (upd (upd H p (.tup [.str n,.int (u:Int)])) l (.lst (xs++[.ref p]))) b ls N (λx=>if x=v then f v++[(n,u)] else f x):=by
 have lm:l∈ls:=mem_of_getElem? hv;have s1:=Ae (o:= .tup [.str n,.int (u:Int)]) hp;have lp:l≠p:=Ay hl hp;refine⟨A2 (B.same.trans s1) (B.new l lm).1,by rw[Aj (B.new l lm).2.symm];exact s1 _ _ B.hb,B.len,B.nd,B.new,λx k hx=> ?_⟩;obtain⟨rs,h1,h2,h3⟩:=B.prs x k hx;have tl:∀(r:Addr) ys,H r=some (.tup ys)->upd (upd H p (.tup [.str n,.int (u:Int)])) l (.lst (xs++[.ref p])) r=some (.tup ys):=λr ys e=>by
  rw[Aj (A5 e hl (by intro z;cases z))];exact s1 _ _ e
 by_cases e:x=v
 ·subst e;rw[hv] at hx;cases hx;rw[hl] at h1;injection h1 with h1;injection h1 with h1;simp only[if_true];refine⟨rs++[p],by rw[Ab,h1,map_append];rfl,by simp[h2],λi r q hr hq=> ?_⟩;rw[getElem?_append] at hr hq;by_cases hi:i<rs.length
  ·rw[Yf hi] at hr;rw[Yf (by omega)] at hq;exact tl _ _ (h3 i r q hr hq)
  ·rw[Lt hi] at hr;rw[Lt (by omega),<-h2] at hq;have:i - rs.length=0:=by
    have:=(List.getElem?_eq_some_iff.mp hr).1;simp at this;assumption
   rw[this] at hr hq;cases hr;cases hq;rw[Aj lp.symm];exact Ab
 ·simp only[Lt e];have kl:k≠l:=λq=>by subst q;exact e (nd_ix B.nd hx hv)
  exact⟨rs,by rw[Aj kl];exact s1 _ _ h1,h2,λi r q hr hq=>tl _ _ (h3 i r q hr hq)⟩
theorem Px(S:List T4)(t:T4)(v:Nat):Bh (S++[t]) v=Bh S v++nbT v t:=by unfold Bh;rw[List.flatMap_append];simp
theorem Yc(S:List T4)(t:T4):(λx=>if x=t.2.2.1 then (λx=>if x=t.2.1 then Bh S t.2.1++[(t.1,t.2.2.1)] else Bh S x) t.2.2.1++[(t.1,t.2.1)] else (λx=>if x=t.2.1 then Bh S t.2.1++[(t.1,t.2.2.1)] else Bh S x) x)=Bh (S++[t]):=by
 funext x
 rw[Px];unfold nbT;by_cases a:t.2.1=x
 ·subst a;rw[Yf rfl];by_cases b:t.2.2.1=t.2.1
  ·rw[Yf b,Yf b.symm];dsimp only;rw[Yf b];simp
  ·rw[Lt b,Lt (Ne.symm b)];dsimp only;rw[Yf rfl];simp
 ·rw[Lt a];by_cases b:t.2.2.1=x
  ·subst b;rw[Yf rfl,Yf rfl];dsimp only;rw[Lt (Ne.symm a)];simp
  ·rw[Lt b,Lt (Ne.symm b)];dsimp only;rw[Lt (Ne.symm a)];simp
theorem Mf(S:List T4)(v:Nat):(Bh S v).length<=2 * S.length:=by
 unfold Bh
 induction S with
 |nil=>simp
 |cons t S ih=>
  rw[List.flatMap_cons,Yk,Yx];have:(nbT v t).length<=2:=by unfold nbT;rw[Yk];split<;> split<;> simp
  omega
def WayV(H:Hp)(x:V):Option (List Str)->Prop
 |none=>x= .non
 |some w=>∃r,x= .ref r/\H r=some (.tup (w.map V.str))
def WaysAt(H:Hp)(a:Addr)(ws:Ws):Prop:=∃xs,H a=some (.lst xs)/\xs.length=ws.length/\∀(i:Nat) x o,xs[i]? =some x->ws[i]? =some o->WayV H x o
theorem WayV.mono{H H':Hp}{x:V}{o:Option (List Str)}(f:∀r ys,H r=some (.tup ys)->H' r=some (.tup ys))(h:WayV H x o):WayV H' x o:=by
 cases o with
 |none=>exact h
 |some w=>obtain⟨r,a,b⟩:=h;exact⟨r,a,f _ _ b⟩
theorem WaysAt.same{H H':Hp}{a:Addr}{ws:Ws}(h:WaysAt H a ws)(s:Same H H'):WaysAt H' a ws:=let ⟨xs,x,y,z⟩:=h;⟨xs,s _ _ x,y,λi u o e f=>(z i u o e f).mono λr ys=>s r (.tup ys)⟩
theorem WaysAt.keep{H:Hp}{a l:Addr}{ws:Ws}{ys zs:List V}(h:WaysAt H a ws)(hl:H l=some (.lst ys))(n:a≠l):WaysAt (upd H l (.lst zs)) a ws:=by
 obtain⟨xs,x,y,z⟩:=h;exact⟨xs,by rw[Aj n];exact x,y,λi u o e f=>(z i u o e f).mono λr ys e=>by rw[Aj (A5 e hl (by intro z;cases z))];exact e⟩
theorem WaysAt.get{H:Hp}{a:Addr}{ws:Ws}(h:WaysAt H a ws){v:Nat}{o:Option (List Str)}(hv:ws[v]? =some o):∃xs x,H a=some (.lst xs)/\xs[v]? =some x/\xs.length=ws.length/\WayV H x o:=by
 obtain⟨xs,x,y,z⟩:=h;have hl:v<xs.length:=by rw[y];exact(List.getElem?_eq_some_iff.mp hv).1
 exact⟨xs,xs[v],x,C6 hl,y,z v _ o (C6 hl) hv⟩
theorem WaysAt.set{H:Hp}{a r:Addr}{ws:Ws}{xs:List V}{u:Nat}{w:List Str}(h:WaysAt H a ws)(ha:H a=some (.lst xs))(hr:H r=some (.tup (w.map V.str))):WaysAt (upd H a (.lst (xs.set u (.ref r)))) a (ws.set u (some w)):=by
 obtain⟨xs',x,y,z⟩:=h;rw[ha] at x;injection x with x;injection x with x;subst x;have tl:∀(q:Addr) ys,H q=some (.tup ys)->upd H a (.lst (xs.set u (.ref r))) q=some (.tup ys):=λq ys e=>by
  rw[Aj (A5 e ha (by intro z;cases z))];exact e
 refine⟨_,Ab,by simp[y],λi x o hx ho=> ?_⟩;rw[List.getElem?_set] at hx ho;by_cases e:u=i
 ·rw[Yf e] at hx ho;split at hx
  ·rw[Yf (by omega)] at ho;cases hx;cases ho;exact⟨r,rfl,tl _ _ hr⟩
  ·cases hx
 ·rw[Lt e] at hx ho;exact(z i x o hx ho).mono tl
def Vv(w:List Str)(q:Str×Nat)(st:Ws×List Nat):Ws×List Nat:=if st.1[q.2]? =some none then (st.1.set q.2 (some (w++[q.1])),st.2++[q.2]) else st
theorem Vk{w:List Str}{q:Str×Nat}{st:Ws×List Nat}(h:¬st.1[q.2]? =some none):Vv w q st=st:=Lt h
theorem Ro{w:List Str}{q:Str×Nat}{st:Ws×List Nat}(h:st.1[q.2]? =some none):Vv w q st=(st.1.set q.2 (some (w++[q.1])),st.2++[q.2]):=Yf h
theorem Fh(w:List Str)(q:Str×Nat):∀(L:List (Str×Nat)) (st:Ws×List Nat),Bi w (L++[q]) st=Vv w q (Bi w L st)
 |[],st=>by unfold Vv;show Bi w (q::[]) st=_;unfold Bi;rfl
 |(n,u)::r,st=>by
  show Bi w ((n,u)::(r++[q])) st=_;unfold Bi;split
  ·exact Fh w q r _
  ·exact Fh w q r _
theorem Gs(w:List Str):∀(L:List (Str×Nat)) (st:Ws×List Nat) {v:Nat} {x:List Str},Vis st.1 v x->Vis (Bi w L st).1 v x
 |[],_,_,_,h=>h
 |(n,u)::r,st,v,x,h=>by
  unfold Bi;split
  ·rename_i e;exact Gs w r _ ((Bf e).mpr (.inr h))
  ·exact Gs w r _ h
theorem Gk(w:List Str):∀(L:List (Str×Nat)) (st:Ws×List Nat),(Bi w L st).1.length=st.1.length/\(Bi w L st).2.length<=st.2.length+L.length
 |[],st=>⟨rfl,le_refl _⟩
 |(n,u)::r,st=>by
  unfold Bi;split
  ·obtain⟨a,b⟩:=Gk w r (st.1.set u (some (w++[n])),st.2++[u]);refine⟨by rw[a];simp,?_⟩;simp only[Yk,Yx,Y9] at b ⊢;omega
  ·obtain⟨a,b⟩:=Gk w r st;exact⟨a,by rw[Yx];exact Nat.le_succ_of_le (by assumption)⟩
theorem M5{S:List T4}{N p h i:Nat}{ws:Ws}{rest:List Nat}(hS:InN N S)(I:Kr S N p (ws,h::rest))(hl:∀v x,Wk.Vis ws v x->x.length<=i):∀v x,Wk.Vis (Dw S (ws,h::rest)).1 v x->x.length<=i+1:=by
 obtain⟨w,hw,J⟩:=Ks I;have e:Dw S (ws,h::rest)=Bi w (Bh S h) (ws,rest):=by
  show Bi ((ws[h]?.join).getD []) (Bh S h) (ws,rest)=_;unfold Wk.Vis at hw;rw[hw];rfl
 rw[e];obtain⟨a,_⟩:=Fn (Bh S h) (ws,rest) J λnb q=>⟨q,L8 hS q⟩
 intro v x q;have:=a.ht v x q;have:=hl h w hw;omega
theorem Me{xs ys:List Addr}(h:xs.map V.ref=ys.map V.ref):xs=ys:=(List.map_inj_right (λ_ _ h=>by injection h)).mp h
abbrev LS:Str:=Str.ofString "abcdefghijklmnopqrstuvwxyz"
theorem LS_eq:LS.cps.toList=(List.range 26).map (97+·):=by decide+kernel
theorem Oz{v:Int}(h0:0<=v)(h1:v<26):atI LS.cps.toList v=some (97+v.toNat):=by
 obtain⟨j,rfl⟩:∃j:Nat,v=(j:Int):=⟨v.toNat,by omega⟩
 have hj:j<26:=by omega
 refine Ak ?_;rw[LS_eq,getElem?_map,getElem?_range hj];rfl
theorem Om(x y:Str):(x++y).cps.toList=x.cps.toList++y.cps.toList:=by
 show (x.cps++y.cps).toList=_;rw[Array.toList_append]
def sg(c:Nat):V:= .str ⟨#[c]⟩
theorem Ti(ws:List Nat):ws.map sg=(ws.map λc=>(⟨#[c]⟩:Str)).map V.str:=by rw[map_map];rfl
theorem R5(ws:List Nat):((ws.map λc=>(⟨#[c]⟩:Str)).map (·.length)).sum=ws.length:=by
 induction ws with
 |nil=>rfl
 |cons c ws ih=>simp only[Yp,List.sum_cons,Yx,ih];show 1+ws.length=_;omega
theorem Ml:∀ws:List Nat,(Txt.join (Str.ofString "") (ws.map λc=>(⟨#[c]⟩:Str))).cps.toList=ws:=by
 have key:∀ws:List Nat,(Str.join (Str.ofString "") (ws.map λc=>(⟨#[c]⟩:Str))).cps.toList=ws:=by
  intro ws
  induction ws with
  |nil=>rfl
  |cons c ws ih=>
   cases ws with
   |nil=>rfl
   |cons d ws=>
    simp only[Yp] at ih ⊢;rw[Str.join,Om,Om,ih]
    ·rfl
    ·intro q;cases q
 intro ws;show (Builtin.Str.glued _ _).cps.toList=_;rw[StrLaws.glued_eq_join];exact key ws
theorem Hi(z:Str):z.length=z.cps.toList.length:=by show z.cps.size=_;simp
theorem Gx{xs:List V}{n:Nat}(h:n<=xs.length):Da xs none (some (n:Int))=xs.take n:=by
 unfold Da;rw[HT.sIx_none,HT.sIx_nat,List.drop_zero,min_eq_left h,Nat.sub_zero]
theorem T8{xs:List V}{a b:Nat}(h:b<=xs.length)(ab:a<=b):Da xs (some (a:Int)) (some (b:Int))=(xs.drop a).take (b - a):=by
 unfold Da;rw[HT.sIx_nat,HT.sIx_nat,min_eq_left h,min_eq_left (by exact le_trans (by assumption) (by assumption))]
def Nm(at_ f M k:Nat)(z:Str):Prop:=z.cps.toList[at_]? =some (97+(f+k) % 26)/\(26<M->z.cps.toList[at_+1]? =some (97+(f+k / 26) % 26))
theorem Nm.inj{at_ f M j k:Nat}{z:Str}(a:Nm at_ f M j z)(b:Nm at_ f M k z)(hj:j<M)(hk:k<M)(hM:M<=60):j=k:=by
 have e1:=a.1.symm.trans b.1;have e1:97+(f+j) % 26=97+(f+k) % 26:=by simpa using e1
 by_cases h:26<M
 ·have e2:=(a.2 h).symm.trans (b.2 h);have e2:97+(f+j / 26) % 26=97+(f+k / 26) % 26:=by simpa using e2
  omega
 ·omega
theorem Nm.nodup{at_ f M:Nat}{zs:List Str}(h:∀(j:Nat) z,zs[j]? =some z->Nm at_ f M j z)(hl:zs.length<=M)(hM:M<=60):zs.Nodup:=by
 rw[List.nodup_iff_pairwise_ne,Y3];intro i j hi hj hij e;have:=Nm.inj (h i _ (C6 hi)) (by rw[e];exact h j _ (C6 hj)) (by omega) (by exact le_trans (by assumption) (by assumption)) hM;omega
theorem Hx(ns:List Str){v:Int}(h0:0<=v)(h1:v<(ns.length:Int)):∃y,y∈ns/\ns[v.toNat]? =some y/\atI (ns.map V.str) v=some (.str y):=by
 obtain⟨j,rfl⟩:∃j:Nat,v=(j:Int):=⟨v.toNat,by omega⟩
 have hj:j<ns.length:=by omega
 exact⟨ns[j],getElem_mem hj,C6 (by simpa using hj),Ak (by simp[hj])⟩
theorem Mb(ns:List Int){v:Int}(h0:0<=v)(h1:v<(ns.length:Int)):∃y,y∈ns/\atI (ns.map V.int) v=some (.int y):=by
 obtain⟨j,rfl⟩:∃j:Nat,v=(j:Int):=⟨v.toNat,by omega⟩
 have hj:j<ns.length:=by omega
 exact⟨ns[j],getElem_mem hj,Ak (by simp[hj])⟩
theorem Di{v:Int}(h0:0<=v):∃j:Nat,v=(j:Int):=⟨v.toNat,by omega⟩
def Sm(t:T4):List V:=[.int (t.2.1:Int),.int (t.2.2.1:Int),.int t.2.2.2]
abbrev Ps:=List (T4×Addr)
def psK(ps:Ps):List (Key×V):=ps.map λp=>(Sum.inr p.1.1,V.ref p.2)
def ThAt(H:Hp)(th:Addr)(ps:Ps):Prop:=H th=some (.dK (psK ps))/\∀p∈ps,H p.2=some (.tup (Sm p.1))
def E7(N:Nat)(t:T4):Prop:=t.2.1<N/\t.2.2.1<N/\t.2.1≠t.2.2.1
structure PsOk(N:Nat)(ps:Ps):Prop where
 nd:(ps.map (·.1.1)).Nodup
 ok:∀p∈ps,E7 N p.1
theorem ThAt.same{H H':Hp}{th:Addr}{ps:Ps}(h:ThAt H th ps)(s:Same H H'):ThAt H' th ps:=⟨s _ _ h.1,λp q=>s _ _ (h.2 p q)⟩
theorem To{ps:Ps}{n:Str}(h:n ∉ ps.map (·.1.1)):Bw (psK ps) (Sum.inr n)=none:=by
 unfold psK
 induction ps with
 |nil=>rfl
 |cons p ps ih=>
  rw[Yp,Ym,not_or] at h;rw[Yp,Bl (by intro e;exact h.1 (by injection e with e;exact e.symm))];exact ih h.2
theorem L4{ps:Ps}{p:T4×Addr}(hp:p∈ps)(nd:(ps.map (·.1.1)).Nodup):Bw (psK ps) (Sum.inr p.1.1)=some (.ref p.2):=by
 unfold psK
 induction ps with
 |nil=>cases hp
 |cons q ps ih=>
  rw[Yp,Zh] at nd;rw[Yp];rcases Ym.mp hp with rfl|hp
  ·exact Bq rfl
  ·rw[Bl (by intro e;injection e with e;exact nd.1 (by rw[e];exact mem_map.mpr ⟨p,hp,rfl⟩))];exact ih hp nd.2
theorem Pl{ps:Ps}{n:Str}:(Bw (psK ps) (Sum.inr n)).isSome=decide (n∈ps.map (·.1.1)):=by
 unfold psK
 induction ps with
 |nil=>rfl
 |cons q ps ih=>
  rw[Yp,Yp];by_cases e:q.1.1=n
  ·rw[Bq (by rw[e])];simp[e]
  ·rw[Bl (by intro h;injection h with h;exact e h),ih];rw[Bool.eq_iff_iff];simp[Ne.symm e]
theorem Pd{ps:Ps}{t:T4}{r:Addr}(h:t.1 ∉ ps.map (·.1.1)):Cq (psK ps) (Sum.inr t.1) (.ref r)=psK (ps++[(t,r)]):=by
 rw[Tu _ (To h)];unfold psK;rw[map_append];rfl
theorem Ms(ps:Ps):(psK ps).map (·.1)=(ps.map (·.1.1)).map Sum.inr:=by unfold psK;rw[map_map,map_map];rfl
theorem Tq{N a v:Nat}(ha:a<N)(hv:v<N - 1):(a+1+v) % N≠a/\(a+1+v) % N<N:=by
 refine⟨?_,mod_lt _ (by omega)⟩;by_cases h:a+1+v<N
 ·rw[Nat.mod_eq_of_lt h];omega
 ·rw[Nat.mod_eq_sub_mod (by exact not_lt.mp (by assumption)),Nat.mod_eq_of_lt (by omega)];omega
theorem Pe{N a:Nat}(ha:a<N)(hN:2<=N):(a+1) % N≠a/\(a+1) % N<N:=by
 have:=Tq (v:=0) ha (by omega);simpa using this
theorem Hm{a b:Nat}:((a:Int) % (b:Int))=((a % b:Nat):Int):=by simp
end Wk
namespace L2
open PySem
section
variable{X:Cx}{pos:Pos}{e a b:Expr}{te ta tb:TE}{es:List Expr}{t u:TS}{st:Stmt}{rest:List Stmt}
theorem PE.imp'{t t':TE}(h:PE X e t)(f:∀σ H Q,t' σ H Q->t σ H Q):PE X e t':=λpins s σ H Q I h'=>h pins s σ H Q I (f σ H Q h')
theorem okO{p:TS->Prop}(h:∃t,Vt X rest t/\p t):∃t,PSs X rest t/\p t:=let ⟨t,a,b⟩:=h;⟨t,a.of,b⟩
theorem Pj(he:PEo X e te):PSo X (.Return (some e) pos) (tRet te):=⟨Ao he.of⟩
theorem Sh{r:R2}(hr:IxR X r)(ha:PEo X a ta)(hb:PEo X b tb)(hs:Pn b):PEo X (.Subscript a b pos) (tOp r ta tb):=⟨Ax hr ha.of hb.of hs⟩
theorem Xo{op:Operator}{r:R2}(ho:OpR X (binaryOp op) r)(ha:PEo X a ta)(hb:PEo X b tb):PEo X (.BinOp a op b pos) (tOp r ta tb):=⟨Ar ho ha.of hb.of⟩
end
end L2
namespace Wk
open PySem L2
def B8(t:T4):List Key:=[.inr t.1,.inl (t.2.1:Int),.inl (t.2.2.1:Int),.inl t.2.2.2]
def Idq:List Key->T4
 |[.inr n,.inl a,.inl b,.inl w]=>(n,a.toNat,b.toNat,w)
 |_=>(Str.ofString "",0,0,0)
theorem C7(t:T4):Idq (B8 t)=t:=by
 obtain⟨n,a,b,w⟩:=t;show (n,(a:Int).toNat,(b:Int).toNat,w)=_;simp
theorem Pw(t:T4):(B8 t).map kV=Cm t:=rfl
def Wp(ks:List Key):Prop:=∃t,ks=B8 t
def NmS(zs:List Str):Prop:=zs.Pairwise λa b=>Srt.ltK (.inr b) (.inr a)=false
theorem Hu{P:List T4}{t:T4}{a b:Nat}:Reach (P++[t]) a b↔Reach P a b\/(Reach P a t.2.1/\Reach P t.2.2.1 b)\/(Reach P a t.2.2.1/\Reach P t.2.1 b):=by
 have mono:∀{a b},Reach P a b->Reach (P++[t]) a b:=λr=>r.mono λx hx=>mem_append_left _ hx;have tie:Reach (P++[t]) t.2.1 t.2.2.1:= .step (Ko (mem_append_right _ (mem_singleton.mpr rfl)));constructor
 ·rintro⟨x,hx⟩
  induction hx with
  |nil=>exact .inl .refl
  | @snoc ws b c n _ q ih=>
   obtain⟨t',ht',_,hh⟩:=Hl q;rcases mem_append.mp ht' with ht'|ht'
   ·have st:Reach P b c:=by
     rcases hh with⟨rfl,rfl⟩|⟨rfl,rfl⟩
     ·exact .step (Ko ht')
     ·exact(Reach.step (Ko ht')).symm
    rcases ih with h|⟨h1,h2⟩|⟨h1,h2⟩
    ·exact .inl (h.trans st)
    ·exact .inr (.inl ⟨h1,h2.trans st⟩)
    ·exact .inr (.inr ⟨h1,h2.trans st⟩)
   ·rw[mem_singleton.mp ht'] at hh;rcases hh with⟨e1,e2⟩|⟨e1,e2⟩
    ·subst e1;subst e2;rcases ih with h|⟨h1,h2⟩|⟨h1,h2⟩
     ·exact .inr (.inl ⟨h,.refl⟩)
     ·exact .inr (.inl ⟨h1,.refl⟩)
     ·exact .inl h1
    ·subst e1;subst e2;rcases ih with h|⟨h1,h2⟩|⟨h1,h2⟩
     ·exact .inr (.inr ⟨h,.refl⟩)
     ·exact .inl h1
     ·exact .inr (.inr ⟨h1,.refl⟩)
 ·rintro(h|⟨h1,h2⟩|⟨h1,h2⟩)
  ·exact mono h
  ·exact((mono h1).trans tie).trans (mono h2)
  ·exact((mono h1).trans tie.symm).trans (mono h2)
end Wk
namespace L2
open PySem PySem.Spec PyProof.Rows
def Flt:V->V->Bool
 | .non,.non=>true
 | .non,.bl _=>true
 | .non,.int _=>true
 | .non,.str _=>true
 | .bl _,.non=>true
 | .bl _,.bl _=>true
 | .bl _,.str _=>true
 | .int _,.non=>true
 | .int _,.int _=>true
 | .int _,.str _=>true
 | .str _,.non=>true
 | .str _,.bl _=>true
 | .str _,.int _=>true
 | .str _,.str _=>true
 |_,_=>false
def Eqs(K:Frag)(H:Hp):Nat->V->V->Bool->Prop
 |0,x,y,b=>Flt x y=true/\b=decide (x=y)
 |n+1,x,y,b=>(Flt x y=true/\b=decide (x=y))\/
  (∃(a c:Addr) (xs ys:List V) (e:Nat->Bool),x= .ref a/\y= .ref c/\((SqT K H a xs/\SqT K H c ys)\/(SqL K H a xs/\SqL K H c ys))/\(∀(j:Nat) p q,xs[j]? =some p->ys[j]? =some q->Eqs K H n p q (e j))/\b=((List.range (min xs.length ys.length)).all e && xs.length==ys.length))\/
  (∃(a:Addr) (xs:List V),x= .ref a/\y= .non/\SqT K H a xs/\b=false)\/
  (∃(a:Addr) (xs:List V),x= .non/\y= .ref a/\SqT K H a xs/\b=false)
theorem Eqs.flat{K:Frag}{H:Hp}{n:Nat}{x y:V}(h:Flt x y=true):Eqs K H n x y (decide (x=y)):=by
 cases n with
 |zero=>exact⟨h,rfl⟩
 |succ n=>exact .inl ⟨h,rfl⟩
theorem Wa{α:Type}[DecidableEq α]{xs ys:List V}{ds es:List α}(l1:ds.length=xs.length)(l2:es.length=ys.length):((List.range (min xs.length ys.length)).all (λj=>decide (ds[j]? =es[j]?)) && xs.length==ys.length)=decide (ds=es):=by
 by_cases h:xs.length=ys.length
 ·rw[Bool.eq_iff_iff,and_eq_true,all_eq_true,Yh];constructor
  ·rintro⟨ha,_⟩;refine ext_getElem? λi=> ?_;by_cases hi:i<xs.length
   ·exact of_decide_eq_true (ha i (mem_range.mpr (by omega)))
   ·rw[List.getElem?_eq_none (by omega),List.getElem?_eq_none (by omega)]
  ·rintro rfl;exact⟨λj _=>decide_eq_true rfl,by simpa using h⟩
 ·have:(xs.length==ys.length)=false:=by simpa using h
  rw[this,Bool.and_false,decide_eq_false λe=>h (by rw[<-l1,<-l2,e])]
theorem Eqs.seq{K:Frag}{H:Hp}{n:Nat}{a c:Addr}{xs ys:List V}{α:Type}[DecidableEq α]{ds es:List α}(hh:(SqT K H a xs/\SqT K H c ys)\/(SqL K H a xs/\SqL K H c ys))(l1:ds.length=xs.length)(l2:es.length=ys.length)(h:∀(j:Nat) p q d e,xs[j]? =some p->ys[j]? =some q->ds[j]? =some d->es[j]? =some e->Eqs K H n p q (decide (d=e))):Eqs K H (n+1) (.ref a) (.ref c) (decide (ds=es)):=by
 refine .inr (.inl ⟨a,c,xs,ys,λj=>decide (ds[j]? =es[j]?),rfl,rfl,hh,λj p q hp hq=> ?_,(Wa l1 l2).symm⟩);have j1:j<ds.length:=by rw[l1];exact(List.getElem?_eq_some_iff.mp hp).1
 have j2:j<es.length:=by rw[l2];exact(List.getElem?_eq_some_iff.mp hq).1
 have:=h j p q ds[j] es[j] hp hq (getElem?_eq_getElem j1) (getElem?_eq_getElem j2);show Eqs K H n p q (decide (ds[j]? =es[j]?));rw[getElem?_eq_getElem j1,getElem?_eq_getElem j2];have e:decide (some ds[j]=some es[j])=decide (ds[j]=es[j]):=by
  rw[Bool.eq_iff_iff,Yh,Yh];exact⟨λh=>Option.some.inj h,λh=>by rw[h]⟩
 rw[e];exact this
theorem Eqs.flats{K:Frag}{H:Hp}{n:Nat}{a c:Addr}{xs ys:List V}(h1:SqT K H a xs)(h2:SqT K H c ys)(h:∀x∈xs,∀y∈ys,Flt x y=true):Eqs K H (n+1) (.ref a) (.ref c) (decide (xs=ys)):=
 Eqs.seq (.inl ⟨h1,h2⟩) rfl rfl λj p q d e hp hq hd he=>by
  rw[hp] at hd;rw[hq] at he;cases hd;cases he;exact Eqs.flat (h _ (mem_of_getElem? hp) _ (mem_of_getElem? hq))
section
variable{X:Cx}{pins:List (Addr×Obj)}{σ:St}{H:Hp}{s:Shared}
theorem Mg(I:Inv X pins σ H s):∀(n:Nat) {x:V} {b:Bool},Eqs X.K H n x x b->b=true
 |0,x,b,⟨_,e⟩=>by rw[e,decide_eq_true rfl]
 |n+1,x,b,h=>by
  rcases h with⟨_,e⟩|⟨a,c,xs,ys,e,e1,e2,hh,hj,eb⟩|⟨a,xs,e1,e2,_⟩|⟨a,xs,e1,e2,_⟩
  ·rw[e,decide_eq_true rfl]
  ·rw[e1] at e2;injection e2 with e2;subst e2;have ex:xs=ys:=by
    rcases hh with⟨h1,h2⟩|⟨h1,h2⟩
    ·exact I.tuple_inj h1 h2
    ·exact I.list_inj h1 h2
   subst ex;rw[eb,and_eq_true];refine⟨all_eq_true.mpr λj hj'=> ?_,by simp⟩;have hj':=mem_range.mp hj';have hjx:j<xs.length:=by omega
   exact Mg I n (hj j _ _ (getElem?_eq_getElem hjx) (getElem?_eq_getElem hjx))
  ·rw[e1] at e2;cases e2
  ·rw[e1] at e2;cases e2
theorem Uf{x y:V}{v u:Value}(h:Flt x y=true)(rx:RelV x v)(ry:RelV y u)(A:Around):SeqAt.EqAt A s v u (decide (x=y)):=by
 have sw:∀{b c:Bool},SeqAt.EqAt A s v u b->b=c->SeqAt.EqAt A s v u c:=λh e=>e▸h;cases x<;> cases y<;> simp only[Flt,Y6] at h<;> simp only[RelV] at rx ry
 ·subst rx;subst ry;exact SeqAt.EqAt.same _
 ·subst rx;subst ry;exact sw (SeqAt.EqAt.none_bool _) (by simp)
 ·obtain⟨t,rfl⟩:=ry;subst rx;exact sw (SeqAt.EqAt.none_int _ _) (by simp)
 ·obtain⟨t,rfl⟩:=ry;subst rx;exact sw (SeqAt.EqAt.none_str _ _) (by simp)
 ·subst rx;subst ry;exact sw (SeqAt.EqAt.bool_none _) (by simp)
 ·subst rx;subst ry;exact sw (SeqAt.EqAt.bool_bool _ _) (by rw[Bool.eq_iff_iff];simp)
 ·obtain⟨t,rfl⟩:=ry;subst rx;exact sw (SeqAt.EqAt.bool_str _ _ _) (by simp)
 ·obtain⟨t,rfl⟩:=rx;subst ry;exact sw (SeqAt.EqAt.int_none _ _) (by simp)
 ·obtain⟨t,rfl⟩:=rx;obtain⟨t',rfl⟩:=ry;exact sw (SeqAt.EqAt.int_int _ _ _ _) (by rw[Bool.eq_iff_iff];simp)
 ·obtain⟨t,rfl⟩:=rx;obtain⟨t',rfl⟩:=ry;exact sw (SeqAt.EqAt.int_str _ _ _ _) (by simp)
 ·obtain⟨t,rfl⟩:=rx;subst ry;exact sw (SeqAt.EqAt.str_none _ _) (by simp)
 ·obtain⟨t,rfl⟩:=rx;subst ry;exact sw (SeqAt.EqAt.str_bool _ _ _) (by simp)
 ·obtain⟨t,rfl⟩:=rx;obtain⟨t',rfl⟩:=ry;exact sw (SeqAt.EqAt.str_int _ _ _ _) (by simp)
 ·obtain⟨t,rfl⟩:=rx;obtain⟨t',rfl⟩:=ry;exact sw (SeqAt.EqAt.str_str _ _ _ _) (by rw[Bool.eq_iff_iff];simp)
theorem Cr{xs:List V}{its:List Value}(r:Vals xs its){j:Nat}(h:j<its.toArray.size):∃x,xs[j]? =some x/\RelV x its.toArray[j]:=by
 have l:=r.length;have hj:j<xs.length:=by simpa[l] using h
 obtain⟨v,e,rv⟩:=r.get (i:=j) (x:=xs[j]) (by simp[hj]);have w1:its.toArray[j]=v:=by
  have:=(List.getElem?_eq_some_iff.mp e).2;simpa using this
 exact⟨xs[j],by simp[hj],by rw[w1];exact rv⟩
theorem Gw(A:Around):A.in1.units<=A.units+1:=by first|exact le_refl _|exact le_succ _
theorem Fi(I:Inv X pins σ H s):∀(n:Nat) {x y:V} {b:Bool} {v u:Value} {A:Around},A.units+n<cLine->Eqs X.K H n x y b->RelV x v->RelV y u->SeqAt.EqAt A s v u b
 |0,x,y,b,v,u,A,_,⟨h,e⟩,rx,ry=>by rw[e];exact Uf h rx ry A
 |n+1,x,y,b,v,u,A,hu,h,rx,ry=>by
  rcases id h with⟨h,e⟩|⟨a,c,xs,ys,e,rfl,rfl,hh,hj,eb⟩|⟨a,xs,rfl,rfl,h1,e⟩|⟨a,xs,rfl,rfl,h1,e⟩
  ·rw[e];exact Uf h rx ry A
  ·cases rx;cases ry;by_cases hne:a=c
   ·subst hne;rw[Mg I (n+1) h];exact SeqAt.EqAt.same _
   refine SeqAt.EqAt.of_refs hne ?_;have iu:=Gw A;rcases hh with⟨h1,h2⟩|⟨h1,h2⟩
   ·obtain⟨its,r1,p1,_⟩:=I.tuple h1;obtain⟨its2,r2,p2,_⟩:=I.tuple h2;have:=SeqAt.RcAt.tuples (A:=A) (e:=e) p1 p2 (by omega) λj j1 j2=> ?_
    ·rw[size_toArray,size_toArray,<-r1.length,<-r2.length] at this;rw[eb];exact this
    ·obtain⟨p,ep,rp⟩:=Cr r1 j1;obtain⟨q,eq,rq⟩:=Cr r2 j2;exact Fi I n (by omega) (hj j p q ep eq) rp rq
   ·obtain⟨its,r1,p1,_⟩:=I.list h1;obtain⟨its2,r2,p2,_⟩:=I.list h2;have m1:=r1.length;have m2:=r2.length;by_cases hl:xs.length=ys.length
    ·have:=SeqAt.RcAt.lists (A:=A) (e:=e) p1.isList p2.isList (by rw[size_toArray,size_toArray];omega) (by omega) λj j1 j2=> ?_
     ·rw[size_toArray,<-m1] at this;rw[eb,hl,Nat.min_self,<-hl];simpa using this
     ·obtain⟨p,ep,rp⟩:=Cr r1 j1;obtain⟨q,eq,rq⟩:=Cr r2 j2;exact Fi I n (by omega) (hj j p q ep eq) rp rq
    ·have:=SeqAt.RcAt.lists_lengths (A:=A) p1.isList p2.isList (by rw[size_toArray,size_toArray];simp;omega) (by omega);have eb':b=false:=by rw[eb];simp[hl]
     rw[eb'];exact this
  ·cases rx;cases ry;obtain⟨its,r1,p1,_⟩:=I.tuple h1;rw[e];exact SeqAt.EqAt.tuple_none p1 (by omega)
  ·cases rx;cases ry;obtain⟨its,r1,p1,_⟩:=I.tuple h1;rw[e];exact SeqAt.EqAt.none_tuple p1 (by omega)
end
section
variable{X:Cx}
inductive Wi(K:Frag)(x:V)(y:V)(H:Hp)(Q:VK):Prop
 |mk (n:Nat) (b:Bool) (a c:Addr):(x= .ref a)->(y= .ref c)->(n<=30)->(Eqs K H (n+1) x y b)->(Q (.bl b) H)->Wi K x y H Q
def rEqs(K:Frag):V->V->Hp->VK->Prop:=λx y H Q=>Wi K x y H Q
inductive Wu(K:Frag)(x:V)(y:V)(H:Hp)(Q:VK):Prop
 |mk (n:Nat) (b:Bool) (a c:Addr):(x= .ref a)->(y= .ref c)->(n<=30)->(Eqs K H (n+1) x y b)->(Q (.bl (!b)) H)->Wu K x y H Q
def rNes(K:Frag):V->V->Hp->VK->Prop:=λx y H Q=>Wu K x y H Q
theorem Ls(hu:X.A.units+64<cLine):OpR X (compareOp .Eq) (rEqs X.K):=by
 intro pins s σ H x y v u Q I rx ry h;obtain⟨n,b,a,c,rfl,rfl,hn,h,q⟩:=h;cases rx;cases ry;have iu:=Gw X.A;rcases h with⟨h,_⟩|⟨a',c',xs,ys,e,e1,e2,hh,hj,eb⟩|⟨_,_,_,e2,_⟩|⟨_,_,e1,_⟩
 ·cases h
 ·cases e1;cases e2;rcases hh with⟨h1,h2⟩|⟨h1,h2⟩
  ·obtain⟨its,r1,p1,_⟩:=I.tuple h1;obtain⟨its2,r2,p2,_⟩:=I.tuple h2;refine(SeqAt.RcAt.tuples (A:=X.A) (e:=e) p1 p2 (by omega) λj j1 j2=> ?_) X.prog X.w X.xe _ ⟨.bl _,H,I,rfl,?_⟩
   ·obtain⟨p,ep,rp⟩:=Cr r1 j1;obtain⟨q,eq,rq⟩:=Cr r2 j2;exact Fi I n (by omega) (hj j p q ep eq) rp rq
   ·rw[size_toArray,size_toArray,<-r1.length,<-r2.length,<-eb];exact q
  ·obtain⟨its,r1,p1,_⟩:=I.list h1;obtain⟨its2,r2,p2,_⟩:=I.list h2;have m1:=r1.length;have m2:=r2.length;by_cases hl:xs.length=ys.length
   ·refine(SeqAt.RcAt.lists (A:=X.A) (e:=e) p1.isList p2.isList (by rw[size_toArray,size_toArray];omega) (by omega) λj j1 j2=> ?_) X.prog X.w X.xe _ ⟨.bl _,H,I,rfl,?_⟩
    ·obtain⟨p,ep,rp⟩:=Cr r1 j1;obtain⟨q,eq,rq⟩:=Cr r2 j2;exact Fi I n (by omega) (hj j p q ep eq) rp rq
    ·have:b=(List.range its.toArray.size).all e:=by
      rw[eb,hl,Nat.min_self,<-hl,size_toArray,<-m1];simp
     rw[<-this];exact q
   ·refine(SeqAt.RcAt.lists_lengths (A:=X.A) p1.isList p2.isList (by rw[size_toArray,size_toArray];simp;omega) (by omega)) X.prog X.w X.xe _ ⟨.bl _,H,I,rfl,?_⟩;have eb':b=false:=by rw[eb];simp[hl]
    rw[<-eb'];exact q
 ·cases e2
 ·cases e1
theorem K6(hu:X.A.units+64<cLine):OpR X (compareOp .NotEq) (rNes X.K):=by
 intro pins s σ H x y v u Q I rx ry h;obtain⟨n,b,a,c,rfl,rfl,hn,h,q⟩:=h;cases rx;cases ry;have iu:=Gw X.A;rcases h with⟨h,_⟩|⟨a',c',xs,ys,e,e1,e2,hh,hj,eb⟩|⟨_,_,_,e2,_⟩|⟨_,_,e1,_⟩
 ·cases h
 ·cases e1;cases e2;rcases hh with⟨h1,h2⟩|⟨h1,h2⟩
  ·obtain⟨its,r1,p1,_⟩:=I.tuple h1;obtain⟨its2,r2,p2,_⟩:=I.tuple h2;refine(SeqAt.RcNeAt.tuples (A:=X.A) (e:=e) p1 p2 (by omega) λj j1 j2=> ?_) X.prog X.w X.xe _ ⟨.bl _,H,I,rfl,?_⟩
   ·obtain⟨p,ep,rp⟩:=Cr r1 j1;obtain⟨q,eq,rq⟩:=Cr r2 j2;exact Fi I n (by omega) (hj j p q ep eq) rp rq
   ·rw[size_toArray,size_toArray,<-r1.length,<-r2.length,<-eb];exact q
  ·obtain⟨its,r1,p1,_⟩:=I.list h1;obtain⟨its2,r2,p2,_⟩:=I.list h2;have m1:=r1.length;have m2:=r2.length;by_cases hl:xs.length=ys.length
   ·refine(SeqAt.RcNeAt.lists (A:=X.A) (e:=e) p1.isList p2.isList (by rw[size_toArray,size_toArray];omega) (by omega) λj j1 j2=> ?_) X.prog X.w X.xe _ ⟨.bl _,H,I,rfl,?_⟩
    ·obtain⟨p,ep,rp⟩:=Cr r1 j1;obtain⟨q,eq,rq⟩:=Cr r2 j2;exact Fi I n (by omega) (hj j p q ep eq) rp rq
    ·have:b=(List.range its.toArray.size).all e:=by
      rw[eb,hl,Nat.min_self,<-hl,size_toArray,<-m1];simp
     rw[<-this];exact q
   ·refine(SeqAt.RcNeAt.lists_lengths (A:=X.A) p1.isList p2.isList (by rw[size_toArray,size_toArray];simp;omega) (by omega)) X.prog X.w X.xe _ ⟨.bl _,H,I,rfl,?_⟩;have eb':b=false:=by rw[eb];simp[hl]
    rw[eb'] at q;exact q
 ·cases e2
 ·cases e1
end
end L2
namespace Wk
open PySem L2
inductive Dd where
 |come (m:Int) (t:T4)
 |go (m:Int) (n:Str)
def Dd.vs:Dd->List V
 | .come m t=> .str (Str.ofString "come"):: .int m::Cm t
 | .go m n=>[.str (Str.ofString "go"),.int m,.str n]
def Dd.nm:Dd->Str
 | .come _ t=>t.1
 | .go _ n=>n
def Dd.mo:Dd->Int
 | .come m _=>m
 | .go m _=>m
def E8(S:List T4):Dd->List T4
 | .come _ t=>S++[t]
 | .go _ n=>S.filter λt=>decide (t.1≠n)
def thr(ds:List Dd):List T4:=ds.foldl E8 []
theorem Cc(ds:List Dd)(d:Dd):thr (ds++[d])=E8 (thr ds) d:=by unfold thr;rw[List.foldl_append];rfl
def X5(N:Nat)(S:List T4):Dd->Prop
 | .come _ t=>t.1 ∉ S.map (·.1)/\E7 N t
 | .go _ n=>n∈S.map (·.1)
structure Right(N:Nat)(ds:List Dd):Prop where
 ok:∀(i:Nat) d,ds[i]? =some d->X5 N (thr (ds.take i)) d
 len:ds.length<=60
 mo:∀d∈ds,0<=d.mo/\d.mo<=1000000000
 up:ds.Pairwise λa b=>a.mo<=b.mo
 wt:∀(m:Int) t,Dd.come m t∈ds->0<=t.2.2.2/\t.2.2.2<=1000000000
theorem Bb{α:Type}{l:List α}{i:Nat}{d:α}(h:l[i]? =some d):l.take (i+1)=l.take i++[d]:=by rw[take_add_one,h];rfl
theorem Right.take{N:Nat}{ds:List Dd}(h:Right N ds)(n:Nat):Right N (ds.take n):=by
 refine⟨λi d e=> ?_,by rw[Yo];have:=h.len;omega,λd hd=>h.mo d (Y4 hd),h.up.sublist (List.take_sublist ..),λm t ht=>h.wt m t (Y4 ht)⟩;have hi:i<n:=by have:=(List.getElem?_eq_some_iff.mp e).1;rw[Yo] at this;omega
 rw[List.getElem?_take_of_lt hi] at e;rw[List.take_take,min_eq_left (by exact le_of_lt (by assumption))];exact h.ok i d e
structure Ru(N:Nat)(S:List T4):Prop where
 nd:(S.map (·.1)).Nodup
 ok:∀t∈S,E7 N t
theorem Nx(n:Str)(S:List T4):(S.filter λt=>decide (t.1≠n)).map (·.1)=(S.map (·.1)).filter λm=>decide (m≠n):=by rw[filter_map];rfl
theorem U5{N:Nat}{S:List T4}{d:Dd}(h:Ru N S)(g:X5 N S d):Ru N (E8 S d):=by
 cases d with
 |come m t=>
  refine⟨?_,λu hu=> ?_⟩
  ·show ((S++[t]).map (·.1)).Nodup;rw[map_append];refine List.nodup_append.mpr ⟨h.nd,Zh.mpr ⟨by simp,nodup_nil⟩,λx hx y hy=> ?_⟩;have e:=mem_singleton.mp hy;intro q;exact g.1 (by have e:y=t.1:=e;rw[<-e,<-q];exact hx)
  ·rcases mem_append.mp hu with q|q
   ·exact h.ok u q
   ·rw[mem_singleton.mp q];exact g.2
 |go m n=>
  refine⟨?_,λu hu=>h.ok u (mem_filter.mp hu).1⟩;show ((S.filter λt=>decide (t.1≠n)).map (·.1)).Nodup;rw[Nx];exact h.nd.sublist Y7
theorem Ja{N:Nat}{ds:List Dd}(h:Right N ds):∀i,i<=ds.length->Ru N (thr (ds.take i))
 |0,_=>⟨nodup_nil,by simp[thr]⟩
 |i+1,hi=>by
  have e:=C6 (l:=ds) (i:=i) (by assumption);rw[Bb e,Cc];exact U5 (Ja h i (by exact le_of_lt (by assumption))) (h.ok i _ e)
theorem De(ds:List Dd):∀i,(thr (ds.take i)).length<=i
 |0=>by simp[thr]
 |i+1=>by
  cases e:ds[i]? with
  |none=>
   have:ds.length<=i:=by
    rcases Nat.lt_or_ge i ds.length with h|h
    ·rw[C6 h] at e;cases e
    ·exact h
   have:=De ds i;rw[List.take_of_length_le (by omega)] at this ⊢;exact Nat.le_succ_of_le (by assumption)
  |some d=>
   rw[Bb e,Cc];have:=De ds i;cases d with
   |come m t=>show (_++[t]).length<=_;simp;assumption
   |go m n=>exact le_trans (Yq _ _) (by exact Nat.le_succ_of_le (by assumption))
def Vx(S T:List T4):Prop:=S.Perm T/\S.Pairwise λa b=>Srt.ltR (B8 b) (B8 a)=false
theorem Tm{a b:T4}(h:B8 a=B8 b):a=b:=by rw[<-C7 a,<-C7 b,h]
theorem G7:∀{S S':List T4},S.Perm S'->S.Pairwise (λa b=>Srt.ltR (B8 b) (B8 a)=false)->S'.Pairwise (λa b=>Srt.ltR (B8 b) (B8 a)=false)->S=S'
 |[],S',p,_,_=>(List.nil_perm.mp p).symm▸rfl
 |a::S,[],p,_,_=>absurd p.length_eq (by simp)
 |a::S,b::S',p,h,h'=>by
  have hab:a=b:=by
   have ha:a∈b::S':=p.mem_iff.mp (Yl ..);have hb:b∈a::S:=p.mem_iff.mpr (Yl ..);rcases Ym.mp ha with e|ha
   ·exact e
   ·rcases Ym.mp hb with e|hb
    ·exact e.symm
    ·have x1:=(Zc.mp h).1 b hb;have x2:=(Zc.mp h').1 a ha;rcases Srt.ltR_tri _ _ x1 with e|e
     ·exact(Tm e).symm
     ·rw[e] at x2;cases x2
  subst hab;rw[G7 ((List.perm_cons a).mp p) (Zc.mp h).2 (Zc.mp h').2]
def DdsAt(H:Hp)(rs:List Addr)(ds:List Dd):Prop:=rs.length=ds.length/\∀(i:Nat) r d,rs[i]? =some r->ds[i]? =some d->H r=some (.tup d.vs)
theorem DdsAt.mono{H H':Hp}{rs:List Addr}{ds:List Dd}(h:DdsAt H rs ds)(f:∀r xs,H r=some (.tup xs)->H' r=some (.tup xs)):DdsAt H' rs ds:=⟨h.1,λi r d a b=>f _ _ (h.2 i r d a b)⟩
theorem DdsAt.get{H:Hp}{rs:List Addr}{ds:List Dd}(h:DdsAt H rs ds){i:Nat}{r:Addr}(hr:rs[i]? =some r):∃d,ds[i]? =some d/\H r=some (.tup d.vs):=by
 have hi:i<ds.length:=by rw[<-h.1];exact(List.getElem?_eq_some_iff.mp hr).1
 exact⟨ds[i],C6 hi,h.2 i r _ hr (C6 hi)⟩
theorem DdsAt.take{H:Hp}{rs:List Addr}{ds:List Dd}(h:DdsAt H rs ds)(n:Nat):DdsAt H (rs.take n) (ds.take n):=by
 refine⟨by rw[Yo,Yo,h.1],λi r d a b=> ?_⟩;have hi:i<n:=by have:=(List.getElem?_eq_some_iff.mp a).1;rw[Yo] at this;omega
 rw[List.getElem?_take_of_lt hi] at a b;exact h.2 i r d a b
def HistAt(H:Hp)(h:Addr)(N:Nat)(ds:List Dd):Prop:=∃(tp:Addr) (rs:List Addr),H h=some (.tup [.int (N:Int),.ref tp])/\H tp=some (.tup (rs.map V.ref))/\DdsAt H rs ds
theorem HistAt.mono{H H':Hp}{h:Addr}{N:Nat}{ds:List Dd}(x:HistAt H h N ds)(f:∀r xs,H r=some (.tup xs)->H' r=some (.tup xs)):HistAt H' h N ds:=let ⟨tp,rs,a,b,c⟩:=x;⟨tp,rs,f _ _ a,f _ _ b,c.mono f⟩
theorem HistAt.same{H H':Hp}{h:Addr}{N:Nat}{ds:List Dd}(x:HistAt H h N ds)(s:Same H H'):HistAt H' h N ds:=x.mono λr xs=>s r (.tup xs)
theorem V7:(decide (V.str (Str.ofString "go")=V.str (Str.ofString "come")))=false:=by decide+kernel
inductive Oh(K:Frag)(i j:Nat)(σ:St)(H:Hp)(Q:VK):Prop
 |mk (h tp:Addr) (x:V) (n:Nat) (xs:List V):(σ[i]? =some (some (.ref h)))->(σ[j]? =some (some (.int (n:Int))))->(H h=some (.tup [x,.ref tp]))->(H tp=some (.tup xs))->(n<=xs.length)->(∀c H',Same H H'->H' c=some (.tup (xs.take n))->Q (.ref c) H')->Oh K i j σ H Q
def R4(K:Frag)(i j:Nat):TE:=λσ H Q=>Oh K i j σ H Q
theorem R0{K:Frag}{i j:Nat}:∀σ H Q,R4 K i j σ H Q->tSl (Up K) (tOp (V5 K) (Oe i) (tC (.int 1))) Oi (Wh (Oe j)) σ H Q:=by
 rintro σ H Q ⟨h,tp,x,n,xs,ei,ej,hh,ht,hn,k⟩;refine⟨_,ei,h,_,1,_,rfl,rfl,SqT.of hh,Ak (j:=1) rfl,_,ej,_,rfl,tp,xs,rfl,SqT.of ht,λw=> ?_,λ_ p hp=> ?_⟩
 ·have:=w.2;rw[HT.sIx_nat,min_eq_left hn] at this;exact k tp H (Cn _) (by rw[this,Yv];exact ht)
 ·rw[Gx hn];exact k p _ (Ae hp) Ab
def ThF(H:Hp)(th:Addr)(ps:Ps):Prop:=H th=some (.dK (psK ps))/\∀p∈ps,H p.2=some (.tup (Cm p.1))
theorem Jb(n:Str):∀ps:Ps,Fo (psK ps) (.inr n:Key)=psK (ps.filter λp=>decide (p.1.1≠n))
 |[]=>rfl
 |p::ps=>by
  have ih:=Jb n ps;unfold Fo psK at ih ⊢;rw[Yp,filter_cons,filter_cons];by_cases z:p.1.1=n
  ·rw[Lt (by simp[z]),Lt (by simp[z])];exact ih
  ·rw[Yf (by simp[z]),Yf (by simp[z]),Yp,ih]
theorem Ej(ps:Ps):(ps.map (·.1)).map (·.1)=ps.map (·.1.1):=by rw[map_map];rfl
theorem O1(n:Str)(ps:Ps):(ps.filter λp=>decide (p.1.1≠n)).map (·.1)=(ps.map (·.1)).filter λt=>decide (t.1≠n):=by rw[filter_map];rfl
theorem Hg{K:Frag}{H:Hp}{Q:VK}{a b:Addr}{xs ys:List V}(ha:H a=some (.tup xs))(hb:H b=some (.tup ys))(hl:xs.length+ys.length<=10000)(k:∀t H',Same H H'->H' t=some (.tup (xs++ys))->Q (.ref t) H'):Rt K (.ref a) (.ref b) H Q:=by
 refine⟨a,b,_,_,rfl,rfl,SqT.of ha,SqT.of hb,A1 hl,λe=>k b H (Cn H) ?_,λ_ e=>k a H (Cn H) ?_,λ_ _ p hp=>k p _ (Ae hp) Ab⟩
 ·rw[e];exact hb
 ·rw[e,Zg];exact ha
theorem Fv{K:Frag}{H:Hp}{Q:VK}{a:Addr}{xs:List V}{lo hi:Option Int}(ha:H a=some (.tup xs))(k:∀t H',Same H H'->H' t=some (.tup (Da xs lo hi))->Q (.ref t) H'):Up K (.ref a) lo hi H Q:=by
 refine⟨a,xs,rfl,SqT.of ha,λw=>k a H (Cn H) ?_,λ_ p hp=>k p _ (Ae hp) Ab⟩;have:Da xs lo hi=xs:=by
  unfold Da;rw[w.1,w.2];simp
 rw[this];exact ha
end Wk
namespace Srt
open PySem PySem.W PyProof.Rows L2
theorem Mj{prog:Program}{w:World}{A:Around}{E:Value->Shared->Prop}{s:Shared}{l:Addr}{vs:List Value}{Q:List Value->Shared->Prop}(hl:IsTup s.heap l vs.toArray)(h:Q vs {s with heap:=(s.heap.push (seqObj "list" #[] 0)).update s.heap.objs.size (Obj.mapSeq (·++vs.toArray))})(hsz:vs.length<=sizeLine):
  wpAny (model prog w) A (collect (.ref l)) Q E s:=by
 obtain⟨o,ho,hc,n,hd⟩:=id hl;unfold collect;refine Gt (wpAny_runValue (codeAny_builtin entry_proto_collect' ?_));show wpAny _ _ (do again (.builtin "list.__iadd__" ⟨[<-newList [],.ref l],[]⟩)) _ _ s;refine Gt (wpAny_newList (Yg ⟨Code.quiet_builtin _ (by decide+kernel),codeAny_builtin entry_list_iadd' ?_⟩));show wpAny _ _ (Builtin.List.listExtendWith (.ref s.heap.objs.size) (.ref l) (.ref s.heap.objs.size)) _ _ {s with heap:=s.heap.push (seqObj "list" #[] 0)};unfold Builtin.List.listExtendWith;have ho':(s.heap.push (seqObj "list" #[] 0)).get? l=some o:=Is _ ho;refine Gt (wpAny_typeOf (T:="tuple") ⟨o,ho',hc⟩ ?_);have ht:(Value.type "tuple"==Value.type "tuple")=true:=by rfl
 rw[Yf (by rw[ht];simp)];refine Gt (listItems_at ho' hd ?_);refine Gt (listItems_at (xs:= #[]) (n:=0) (Yi _ rfl) rfl ?_);rw[Lt (by simp)];refine Gt (listUpdate_at (xs:= #[]) (n:=0) (Yi _ rfl) rfl ?_ (Y0 _) (by show (#[]++vs.toArray).size<=sizeLine+1;simp only[Array.size_append,size_toArray,Y9];omega));refine Yg ?_;show wpAny (model prog w) A (do
   let o <-load s.heap.objs.size
   match o.data with
   | .seq xs _=>pure xs.toList
   |_=>unsupported "internal:collect") Q E {s with heap:=(s.heap.push (seqObj "list" #[] 0)).update s.heap.objs.size (Obj.mapSeq (·++vs.toArray))}
 refine Gt (wpAny_load (get?_update_seq (Yi _ rfl) _) ?_);show wpAny _ _ (pure ((#[]:Array Value)++vs.toArray).toList) Q E _;rw[show ((#[]:Array Value)++vs.toArray).toList=vs by simp];exact Yg h
end Srt
namespace Rp
open PySem L2 PySem.Spec PyProof.Rows PySem.P
mutual
inductive RepF(H:Hp):Bool->V->PyData->Prop
 |non {f:Bool}:RepF H f .non .none
 |bl {f:Bool} (b:Bool):RepF H f (.bl b) (.bool b)
 |int {f:Bool} (i:Int):RepF H f (.int i) (.int i)
 |str {f:Bool} (x:Str):RepF H f (.str x) (.str x)
 |tup {f:Bool} {a:Addr} {xs:List V} {ds:List PyData}:H a=some (.tup xs)->RepFs H f xs ds->RepF H f (.ref a) (.tuple ds)
 |lst {a:Addr} {xs:List V} {ds:List PyData}:H a=some (.lst xs)->RepFs H false xs ds->RepF H false (.ref a) (.list ds)
 |dct {a:Addr}:H a=some (.dK [])->RepF H true (.ref a) (.dict [])
 |dc1 {a:Addr} {x:Str} {i:Int}:H a=some (.dK [(.inr x,.int i)])->RepF H true (.ref a) (.dict [(.str x,.int i)])
inductive RepFs(H:Hp):Bool->List V->List PyData->Prop
 |nil {f:Bool}:RepFs H f [] []
 |cons {f:Bool} {x:V} {xs:List V} {d:PyData} {ds:List PyData}:RepF H f x d->RepFs H f xs ds->RepFs H f (x::xs) (d::ds)
end
mutual
theorem RepF.same{H H':Hp}(s:Same H H'):∀{f:Bool} {v:V} {d:PyData},RepF H f v d->RepF H' f v d
 |_,_,_,.non=> .non
 |_,_,_,.bl b=> .bl b
 |_,_,_,.int i=> .int i
 |_,_,_,.str x=> .str x
 |_,_,_,.tup e h=> .tup (s _ _ e) (RepFs.same s h)
 |_,_,_,.lst e h=> .lst (s _ _ e) (RepFs.same s h)
 |_,_,_,.dct e=> .dct (s _ _ e)
 |_,_,_,.dc1 e=> .dc1 (s _ _ e)
theorem RepFs.same{H H':Hp}(s:Same H H'):∀{f:Bool} {vs:List V} {ds:List PyData},RepFs H f vs ds->RepFs H' f vs ds
 |_,_,_,.nil=> .nil
 |_,_,_,.cons h t=> .cons (RepF.same s h) (RepFs.same s t)
end
mutual
theorem RepF.reads{X:Cx}{pins:List (Addr×Obj)}{σ:L2.St}{H:Hp}{s:Shared}(I:Inv X pins σ H s):∀{f:Bool} {v:V} {d:PyData} {u:Value},RepF H f v d->RelV v u->∃as,Reads s.heap u d as/\(f=true->sysModules ∉ as)
 |_,_,_,_,.non,r=>by cases r;exact⟨_,.none,λ_=>by simp⟩
 |_,_,_,_,.bl b,r=>by cases r;exact⟨_,.bool b,λ_=>by simp⟩
 |_,_,_,_,.int i,r=>by obtain⟨t,rfl⟩:=r;exact⟨_,.int i t,λ_=>by simp⟩
 |_,_,_,_,.str x,r=>by obtain⟨t,rfl⟩:=r;exact⟨_,.str x t,λ_=>by simp⟩
 |_,_,_,_,.tup e h,r=>by
  cases r;obtain⟨_,its,rv,o,e1,e2,_,n,e3⟩:=I.hok _ _ e;obtain⟨as,q,na⟩:=RepFs.reads I h rv;exact⟨as,.tuple e1 e2 e3 (by simpa using q),na⟩
 |_,_,_,_,.lst e h,r=>by
  cases r;obtain⟨_,its,n,rv,e1⟩:=I.hok _ _ e;obtain⟨as,q,na⟩:=RepFs.reads I h rv;exact⟨_,.list e1 rfl rfl (by simpa using q),λz=>by cases z⟩
 |_,_,_,_,.dct (a:=a) e,r=>by
  cases r;obtain⟨_,ns,vs,kv,o,es,ep,e1,ex,e3,_,pr,_⟩:=I.hok _ _ e;have hv:vs=[]:=by cases kv;rfl
  subst hv;have he:es.toList=[]:=by
   have:=pr.length;simpa using this
  refine⟨a::[]++[],.dict (kvs:=[]) e1 ex.1 e3 (by rw[he];exact .nil) (by rw[he];exact .nil),λ_=> ?_⟩;have:a≠sysModules:=by simpa using ns
  simpa using this.symm
 |_,_,_,_,.dc1 (a:=a) (x:=x) (i:=i) e,r=>by
  cases r;obtain⟨_,ns,vs,kv,o,es,ep,e1,ex,e3,_,pr,_⟩:=I.hok _ _ e;obtain⟨u,hv,t',hu⟩:∃u,vs=[(Sum.inr x,u)]/\∃t,u=Value.int i t:=by
   cases kv with
   | @cons _ b _ _ r1 r2=>
    cases r2;obtain⟨b1,b2⟩:=b;obtain⟨z,r1⟩:=r1;cases z;exact⟨_,rfl,r1⟩
  subst hv;generalize hes:es.toList=el at pr;cases pr with
  | @cons en _ el _ h1 h2 h3=>
   cases h3;obtain⟨t,ht⟩:∃t,en.key=Value.str x t:=by
    rcases Bg (k:=Sum.inr x) (v:=en.key) h1 with⟨_,_,z,_⟩|⟨y,t,z,e'⟩
    ·cases z
    ·cases z;exact⟨t,e'⟩
   refine⟨a::([]++[])++([]++[]),.dict (kvs:=[(.str x,.int i)]) e1 ex.1 e3 ?_ ?_,λ_=> ?_⟩
   ·rw[hes];show ReadsAll s.heap [en.key] [.str x] _;rw[ht];exact .cons (.str x t) .nil
   ·rw[hes];show ReadsAll s.heap [en.val] [.int i] _;rw[h2,hu];exact .cons (.int i t') .nil
   ·have:a≠sysModules:=by simpa using ns
    simpa using this.symm
theorem RepFs.reads{X:Cx}{pins:List (Addr×Obj)}{σ:L2.St}{H:Hp}{s:Shared}(I:Inv X pins σ H s):∀{f:Bool} {vs:List V} {ds:List PyData} {us:List Value},RepFs H f vs ds->Vals vs us->∃as,ReadsAll s.heap us ds as/\(f=true->sysModules ∉ as)
 |_,_,_,_,.nil,r=>by cases r;exact⟨_,.nil,λ_=>by simp⟩
 |_,_,_,_,.cons h t,r=>by
  cases r with
  |cons r1 r2=>
   obtain⟨as,q1,n1⟩:=RepF.reads I h r1;obtain⟨bs,q2,n2⟩:=RepFs.reads I t r2;exact⟨_,.cons q1 q2,λz=>by simp[n1 z,n2 z]⟩
end
mutual
theorem RepF.nodict{H:Hp}:∀{v:V} {d:PyData},RepF H false v d->d.hasDict=false
 |_,_,.non=>rfl
 |_,_,.bl _=>rfl
 |_,_,.int _=>rfl
 |_,_,.str _=>rfl
 |_,_,.tup _ h=>by rw[PyData.hasDict];exact RepFs.nodict h
 |_,_,.lst _ h=>by rw[PyData.hasDict];exact RepFs.nodict h
theorem RepFs.nodict{H:Hp}:∀{vs:List V} {ds:List PyData},RepFs H false vs ds->PyData.hasDictAll ds=false
 |_,_,.nil=>rfl
 |_,_,.cons h t=>by rw[PyData.hasDictAll,RepF.nodict h,RepFs.nodict t];rfl
end
end Rp
namespace Wk
open PySem L2
def lsF(N:Nat)(S:List T4):List Nat:=(List.range N).filter λp=>decide ((Bn N S p)[0]? =some p)
theorem Ve{N p q:Nat}{S:List T4}(hS:InN N S)(hp:p<N)(hq:q<N)(hN:N<=60)(h:Reach S p q):Bn N S p=Bn N S q:=by
 rw[Mv hS hp hN,Mv hS hq hN,(Ov hS hp hq).mpr h]
theorem Gj{N p:Nat}{S:List T4}(hS:InN N S)(hp:p<N)(hN:N<=60):p∈Bn N S p:=(C8 hS hp hN).mpr ⟨hp,.refl⟩
theorem Qz{N p:Nat}{S:List T4}(hS:InN N S)(hp:p<N)(hN:N<=60):∃q,(Bn N S p)[0]? =some q/\q∈lsF N S/\Reach S q p:=by
 have hm:=Gj hS hp hN;have hl:0<(Bn N S p).length:=List.length_pos_of_mem hm;have h0:=C6 hl;refine⟨_,h0,?_⟩;have hq:=(C8 hS hp hN).mp (getElem_mem hl);refine⟨mem_filter.mpr ⟨mem_range.mpr hq.1,?_⟩,hq.2.symm⟩;rw[Yh,<-Ve hS hp hq.1 hN hq.2];exact h0
theorem Rq{N p:Nat}{S:List T4}(hp:p∈lsF N S):p<N:=mem_range.mp (mem_filter.mp hp).1
end Wk
namespace Srt
open PySem PySem.W PyProof.Rows L2
section
variable{prog:Program}{w:World}{A:Around}{E:Value->Shared->Prop}{s:Shared}
theorem Vc{C:Bool->Shared->Prop}{u:Value}(h:C true s):wpAny (model prog w) A (eqBool u u) C E s:=by
 unfold eqBool
 try with_reducible refine Y5 ?_
 rw[Yf (beq_self_eq_true u)];exact Gt (wpAny_rule (Yg h))
theorem Mz{b fin:Bool}{C:Bool->Shared->Prop}(h:C fin s):∀(us:List Value) (i:Nat),KatLex prog w A b fin C (us.zip us) i s
 |[],_=>h
 |u::us,i=>kat_cons (Vc (kat_yes (Mz h us (i+1))))
end
abbrev Pi:=Addr×Int×List V
def iRef(q:Pi):V:= .ref q.1
def di0:Pi:=(0,0,[])
def T0(ps:List Pi)(i j:Nat):Bool:=ltK (.inl (ps.getD i di0).2.1) (.inl (ps.getD j di0).2.1)
theorem Va(ps:List Pi):Ord (T0 ps) where
 asym:=λa b h=>by
  unfold T0 at *;generalize (Sum.inl (ps.getD a di0).2.1:Key)=x at *;generalize (Sum.inl (ps.getD b di0).2.1:Key)=y at *;cases e:ltK y x with
  |false=>rfl
  |true=>have:=Nh h e;rw[Ct] at this;cases this
 ntr:=λa b c h1 h2=>by
  unfold T0 at *;generalize (Sum.inl (ps.getD a di0).2.1:Key)=x at *;generalize (Sum.inl (ps.getD b di0).2.1:Key)=y at *;generalize (Sum.inl (ps.getD c di0).2.1:Key)=z at *;cases e:ltK x z with
  |false=>rfl
  |true=>
   rcases Os _ _ h1 with r|r
   ·rw[r,h2] at e;cases e
   ·have:=Nh r e;rw[h2] at this;cases this
theorem L7{X:Cx}{pins:List (Addr×Obj)}{σ:L2.St}{H:Hp}{s:Shared}(I:Inv X pins σ H s):∀(ps:List Pi),(∀q∈ps,SqT X.K H q.1 (V.int q.2.1::q.2.2))->
  ∃fs,KatTups s.heap (ps.map λq=>Value.ref q.1) fs/\fs.length=ps.length/\∀v∈fs,∃i t,v=Value.int i t
 |[],_=>⟨[],trivial,rfl,λv h=>nomatch h⟩
 |q::ps,h=>by
  obtain⟨fs,t,l,f⟩:=L7 I ps (λq hq=>h q (.tail _ hq));obtain⟨its,rv,⟨o,ho,hc,n,hd⟩,hz⟩:=I.tuple (h q (.head _));cases rv with
  | @cons _ u _ us ru rr=>
   obtain⟨tt,rfl⟩:=(show ∃t,u=Value.int q.2.1 t from ru)
   refine⟨Value.int q.2.1 tt::fs,.cons ho hc hd (by simp) t,by simp[l],λv hv=> ?_⟩;rcases Ym.mp hv with rfl|hv
   ·exact⟨_,_,rfl⟩
   ·exact f v hv
theorem M3{X:Cx}{pins:List (Addr×Obj)}{σ:L2.St}{H:Hp}{s:Shared}(I:Inv X pins σ H s){v:Value}{ps:List Pi}{Q:VK}(hT:∀q∈ps,SqT X.K H q.1 (V.int q.2.1::q.2.2))(hn:(ps.map (·.2.1)).Nodup)(h64:ps.length<64)(hcol:∀(Q:List Value->Shared->Prop),(∀h1 t1,(∀b o,s.heap.get? b=some o->h1.get? b=some o)->Q (ps.map λq=>Value.ref q.1) {s with heap:=h1,toks:=t1})->wpAny (model X.prog X.w) X.A.in1 (collect v) Q X.xe s)(h:∀(l:Addr) (ps':List Pi),H l=none->ps'.Perm ps->ps'.Pairwise (λa b=>¬b.2.1<a.2.1)->Q (.ref l) (upd H l (.lst (ps'.map iRef)))):
  wpAny (model X.prog X.w) X.A (call (.builtin "sorted") [v]) (EP X pins σ Q) X.xe s:=by
 have lz:(ps.map λq=>Value.ref q.1).length=ps.length:=If ..;refine Cw (κ:=tuples' true) (Va ps) (λvs=>vs=ps.map λq=>Value.ref q.1) (λvs e=>by rw[e,lz];exact h64) (λQ hq=>hcol Q λh1 t1 k=>hq _ h1 t1 rfl k) ?_ ?_ ?_
 ·rintro vs h' t' rfl k l2 Q hq;rw[lz] at l2;have I':Inv X pins σ H {s with heap:=h',toks:=t'}:=I.kept k;obtain⟨fs,t,l,f⟩:=L7 I' ps hT;refine kat_kind (s:={s with heap:=h',toks:=t'}) (T:=Value.type "int") t (by omega) (λv hv=> ?_) rfl ?_
  ·obtain⟨i,t,rfl⟩:=f v hv;exact Looks.of_pure rfl
  ·have:(Value.type "int" !=Value.type "tuple")=true:=rfl;rw[this];exact hq
 ·rintro vs h' t' rfl k i j C hi hj hC;rw[lz] at hi hj;have I':Inv X pins σ H {s with heap:=h',toks:=t'}:=I.kept k;show wpAny _ _ (keyLt' _ ((ps.map λq=>Value.ref q.1).getD i Value.none) ((ps.map λq=>Value.ref q.1).getD j Value.none)) C _ _;have ei:(ps.map λq=>Value.ref q.1).getD i Value.none=Value.ref ps[i].1:=by simp[hi]
  have ej:(ps.map λq=>Value.ref q.1).getD j Value.none=Value.ref ps[j].1:=by simp[hj]
  have fi:ps.getD i di0=ps[i]:=by simp[hi]
  have fj:ps.getD j di0=ps[j]:=by simp[hj]
  rw[ei,ej];unfold T0 at hC;rw[fi,fj] at hC;obtain⟨ui,ri,⟨oi,hoi,hci,ni,hdi⟩,zi⟩:=I'.tuple (hT ps[i] (getElem_mem hi));by_cases hij:i=j
  ·subst hij;refine kat_lt hoi hdi hoi hdi ?_;have:decide (ui.toArray.size<ui.toArray.size)=false:=by simp
   rw[this];refine Mz ?_ _ 0;have z:ltK (.inl ps[i].2.1) (.inl ps[i].2.1)=false:=Ct _;rw[z] at hC;exact hC
  ·obtain⟨uj,rj,⟨oj,hoj,hcj,nj,hdj⟩,zj⟩:=I'.tuple (hT ps[j] (getElem_mem hj));have ne:¬ps[i].2.1=ps[j].2.1:=λe=>(by
    have pw:=Y3.mp hn;rcases Nat.lt_or_gt_of_ne hij with q|q
    ·exact absurd (by rw[getElem_map,getElem_map];exact e) (pw i j (by simpa using hi) (by simpa using hj) q)
    ·exact absurd (by rw[getElem_map,getElem_map];exact e.symm) (pw j i (by simpa using hj) (by simpa using hi) q))
   refine kat_lt hoi hdi hoj hdj ?_;cases ri with
   | @cons _ u _ us ru rr=>
    cases rj with
    | @cons _ u' _ us' ru' rr'=>
     obtain⟨t1,rfl⟩:=(show ∃t,u=Value.int ps[i].2.1 t from ru)
     obtain⟨t2,rfl⟩:=(show ∃t,u'=Value.int ps[j].2.1 t from ru')
     refine kat_cons (wpAny_eqBool_int ?_);have:(ps[i].2.1==ps[j].2.1)=false:=beq_eq_false_iff_ne.mpr ne;rw[this];exact kat_no (oneLt_int hC)
 ·rintro vs p h1 h' t' l e rfl pm st k1 k zl hl;have I:Inv X pins σ H {s with heap:=h1,toks:=t'}:=I.kept k1;have pl:=pm.toList;rw[lz] at pl pm st;have hz:=pm.size;have mem:∀i∈p.toList,i<ps.length:=λi hi=>by simpa using pl.mem_iff.mp hi
  have e1:(p.toList.map λi=>(ps.map λq=>Value.ref q.1).getD i Value.none)=(p.toList.map λi=>ps.getD i di0).map λq=>Value.ref q.1:=by
   rw[map_map];refine map_congr_left λi hi=> ?_;have:=mem i hi;simp[this]
  rw[e1] at hl;have pp:(p.toList.map λi=>ps.getD i di0).Perm ps:=by
   have:=pl.map (λi=>ps.getD i di0)
   rwa [Bx] at this
  have pw:(p.toList.map λi=>ps.getD i di0).Pairwise (λa b=>¬b.2.1<a.2.1):=by
   rw[Yt];refine(st.pairwise hz).imp λ{a b} hab=> ?_;unfold T0 ltK at hab;exact of_decide_eq_false hab
  refine⟨.ref l,_,I.laid (t':=t') (o:= .lst ((p.toList.map λi=>ps.getD i di0).map iRef)) k zl ⟨?_,_,e,Jk iRef (λq=>Value.ref q.1) (λ_=>rfl) _,hl⟩,rfl,h l _ (I.hok.fresh zl) pp pw⟩;rw[If,pp.length_eq,Yr];omega
def Uy(K:Frag):List V->Hp->VK->Prop:=λxs H Q=>∃(p:Addr) (ps:List Pi),xs=[.ref p]/\SqL K H p (ps.map iRef)/\(∀q∈ps,SqT K H q.1 (V.int q.2.1::q.2.2))/\(ps.map (·.2.1)).Nodup/\ps.length<64/\∀(l:Addr) (ps':List Pi),H l=none->ps'.Perm ps->ps'.Pairwise (λa b=>¬b.2.1<a.2.1)->Q (.ref l) (upd H l (.lst (ps'.map iRef)))
theorem call_sortedNi{X:Cx}:Ca X (.builtin "sorted") (Uy X.K):=by
 intro pins s σ H xs us Q I r h;obtain⟨p,ps,rfl,hq,ok,nd,few,q⟩:=h;obtain⟨u,rfl,rx⟩:=Ck r;cases rx;obtain⟨its,rv,hp,hz⟩:=I.list hq;have e:its=ps.map λq=>Value.ref q.1:=by
  clear hq hp hz q r ok nd few
  induction ps generalizing its with
  |nil=>cases rv;rfl
  |cons a ps ih=>
   cases rv with
   |cons ru rr=>rw[Yp,<-ih _ rr];cases ru;rfl
 subst e;refine M3 I ok nd few (λQ hq=>collect_list hp.isList (hq _ _ λb o ho=> ?_) (by rw[If,Yr];omega)) q;have hlt:b<s.heap.objs.size:=Yj ho;rw[Zn _ _ _ _ (ne_of_lt hlt)];exact Is _ ho
section
variable{X:Cx}
theorem call_sortedI:Ca X (.builtin "sorted") (λxs H Q=>∃(p:Addr) (ns:List Int),xs=[.ref p]/\SqL X.K H p (ns.map V.int)/\ns.length<64/\∀(l:Addr) (ns':List Int),H l=none->ns'.Perm ns->ns'.Pairwise (λa b=>ltK (.inl b) (.inl a)=false)->Q (.ref l) (upd H l (.lst (ns'.map V.int)))):=by
 intro pins s σ H xs us Q I r h;obtain⟨p,ns,rfl,hq,h64,q⟩:=h;obtain⟨u,rfl,rx⟩:=Ck r;cases rx;obtain⟨its,rv,hp,hz⟩:=I.list hq;have len:its.length=ns.length:=by have:=rv.length;rw[If] at this;omega
 refine Cw (κ:=oneType') (Fr λi=>[Sum.inl (ns.getD i default)]) (λus=>Vals (ns.map V.int) us) (λus hu=>by have:=hu.length;rw[If] at this;omega) (λQ hq=>collect_list hp.isList (hq _ _ _ (by simpa using rv) λb o ho=> ?_) (by rw[Yr];omega)) ?_ ?_ ?_
 ·have hlt:b<s.heap.objs.size:=Yj ho;rw[Zn _ _ _ _ (ne_of_lt hlt)];exact Is _ ho
 ·intro us h' t' hu k l2 Q hq;refine kas_kind (s:={s with heap:=h',toks:=t'}) (T:=Value.type "int") l2 (λv hv=> ?_) rfl rfl hq;clear hq l2;have:∀{ns:List Int} {us:List Value},Vals (ns.map V.int) us->∀v∈us,∃x t,v=Value.int x t:=by
   intro ns
   induction ns with
   |nil=>intro us hu v hv;cases hu;cases hv
   |cons n ns ih=>
    intro us hu v hv;cases hu with
    |cons r t=>
     rcases Ym.mp hv with rfl|hv
     ·obtain⟨t,rfl⟩:=r;exact⟨_,_,rfl⟩
     ·exact ih t v hv
  obtain⟨x,t,rfl⟩:=this hu v hv;exact Looks.of_pure rfl
 ·intro us h' t' hu k i j C hi hj hC;have lu:=hu.length;rw[If] at lu;obtain⟨a,ha,ra⟩:=Vals.get hu (i:=i) (x:=V.int (ns.getD i default)) (by simp[show i<ns.length by omega]);obtain⟨b,hb,rb⟩:=Vals.get hu (i:=j) (x:=V.int (ns.getD j default)) (by simp[show j<ns.length by omega]);show wpAny _ _ (keyLt' oneType' (us.getD i Value.none) (us.getD j Value.none)) C _ _;have e1:us.getD i Value.none=a:=by simp[getD,ha]
  have e2:us.getD j Value.none=b:=by simp[getD,hb]
  rw[e1,e2,keyLt'_oneType];refine Ky (x:=Sum.inl (ns.getD i default)) (y:=Sum.inl (ns.getD j default)) rfl ra rb ?_;have:ltR [Sum.inl (ns.getD i default)] [Sum.inl (ns.getD j default)]=ltK (Sum.inl (ns.getD i default)) (Sum.inl (ns.getD j default)):=by
   unfold ltR;split
   ·rename_i e;rw[e,Ct];rfl
   ·rfl
  rw[<-this];exact hC
 ·intro us p h1 h' t' l e hu pm st k1 k zl hl;have lu:=hu.length;rw[If] at lu;have I:L2.Inv X pins σ H {s with heap:=h1,toks:=t'}:=I.kept k1;rw[<-lu] at pm st;have pl:=pm.toList;have pp:(p.toList.map λi=>ns.getD i default).Perm ns:=by
   have:=pl.map (λi=>ns.getD i (default:Int))
   rwa [Bx] at this
  have pw:(p.toList.map λi=>ns.getD i (default:Int)).Pairwise (λa b=>ltK (.inl b) (.inl a)=false):=by
   rw[Yt];refine(st.pairwise pm.size).imp λ{a b} hab=> ?_;unfold ltR at hab;split at hab
   ·rename_i e;rw[e];exact Ct _
   ·exact hab
  have mem:∀i∈p.toList,i<ns.length:=λi hi=>by simpa using pl.mem_iff.mp hi
  have vv:Vals ((p.toList.map λi=>ns.getD i default).map V.int) (p.toList.map λi=>us.getD i Value.none):=by
   clear hl pw pp pl st pm;generalize p.toList=il at mem
   induction il with
   |nil=>exact .nil
   |cons i il ih=>
    refine .cons ?_ (ih λj hj=>mem j (.tail _ hj));have hi:=mem i (.head _);obtain⟨a,ha,ra⟩:=Vals.get hu (i:=i) (x:=V.int (ns.getD i default)) (by simp[hi]);have e1:us.getD i Value.none=a:=by simp[getD,ha]
    show L2.RelV (V.int (ns.getD i default)) (us.getD i Value.none);rw[e1];exact ra
  refine⟨.ref l,_,I.laid (t':=t') (o:= .lst ((p.toList.map λi=>ns.getD i default).map V.int)) k zl ⟨?_,_,e,vv,hl⟩,rfl,q l _ (I.hok.fresh zl) pp pw⟩;rw[If,pp.length_eq,Yr];omega
theorem call_sortedIt:Ca X (.builtin "sorted") (λxs H Q=>∃(p:Addr) (ns:List Int),xs=[.ref p]/\SqT X.K H p (ns.map V.int)/\ns.length<64/\∀(l:Addr) (ns':List Int),H l=none->ns'.Perm ns->ns'.Pairwise (λa b=>ltK (.inl b) (.inl a)=false)->Q (.ref l) (upd H l (.lst (ns'.map V.int)))):=by
 intro pins s σ H xs us Q I r h;obtain⟨p,ns,rfl,hq,h64,q⟩:=h;obtain⟨u,rfl,rx⟩:=Ck r;cases rx;obtain⟨its,rv,hp,hz⟩:=I.tuple hq;have len:its.length=ns.length:=by have:=rv.length;rw[If] at this;omega
 refine Cw (κ:=oneType') (Fr λi=>[Sum.inl (ns.getD i default)]) (λus=>Vals (ns.map V.int) us) (λus hu=>by have:=hu.length;rw[If] at this;omega) (λQ hq=>Mj hp (hq _ _ _ (by simpa using rv) λb o ho=> ?_) (by rw[Yr];omega)) ?_ ?_ ?_
 ·have hlt:b<s.heap.objs.size:=Yj ho;rw[Zn _ _ _ _ (ne_of_lt hlt)];exact Is _ ho
 ·intro us h' t' hu k l2 Q hq;refine kas_kind (s:={s with heap:=h',toks:=t'}) (T:=Value.type "int") l2 (λv hv=> ?_) rfl rfl hq;clear hq l2;have:∀{ns:List Int} {us:List Value},Vals (ns.map V.int) us->∀v∈us,∃x t,v=Value.int x t:=by
   intro ns
   induction ns with
   |nil=>intro us hu v hv;cases hu;cases hv
   |cons n ns ih=>
    intro us hu v hv;cases hu with
    |cons r t=>
     rcases Ym.mp hv with rfl|hv
     ·obtain⟨t,rfl⟩:=r;exact⟨_,_,rfl⟩
     ·exact ih t v hv
  obtain⟨x,t,rfl⟩:=this hu v hv;exact Looks.of_pure rfl
 ·intro us h' t' hu k i j C hi hj hC;have lu:=hu.length;rw[If] at lu;obtain⟨a,ha,ra⟩:=Vals.get hu (i:=i) (x:=V.int (ns.getD i default)) (by simp[show i<ns.length by omega]);obtain⟨b,hb,rb⟩:=Vals.get hu (i:=j) (x:=V.int (ns.getD j default)) (by simp[show j<ns.length by omega]);show wpAny _ _ (keyLt' oneType' (us.getD i Value.none) (us.getD j Value.none)) C _ _;have e1:us.getD i Value.none=a:=by simp[getD,ha]
  have e2:us.getD j Value.none=b:=by simp[getD,hb]
  rw[e1,e2,keyLt'_oneType];refine Ky (x:=Sum.inl (ns.getD i default)) (y:=Sum.inl (ns.getD j default)) rfl ra rb ?_;have:ltR [Sum.inl (ns.getD i default)] [Sum.inl (ns.getD j default)]=ltK (Sum.inl (ns.getD i default)) (Sum.inl (ns.getD j default)):=by
   unfold ltR;split
   ·rename_i e;rw[e,Ct];rfl
   ·rfl
  rw[<-this];exact hC
 ·intro us p h1 h' t' l e hu pm st k1 k zl hl;have lu:=hu.length;rw[If] at lu;have I:L2.Inv X pins σ H {s with heap:=h1,toks:=t'}:=I.kept k1;rw[<-lu] at pm st;have pl:=pm.toList;have pp:(p.toList.map λi=>ns.getD i default).Perm ns:=by
   have:=pl.map (λi=>ns.getD i (default:Int))
   rwa [Bx] at this
  have pw:(p.toList.map λi=>ns.getD i (default:Int)).Pairwise (λa b=>ltK (.inl b) (.inl a)=false):=by
   rw[Yt];refine(st.pairwise pm.size).imp λ{a b} hab=> ?_;unfold ltR at hab;split at hab
   ·rename_i e;rw[e];exact Ct _
   ·exact hab
  have mem:∀i∈p.toList,i<ns.length:=λi hi=>by simpa using pl.mem_iff.mp hi
  have vv:Vals ((p.toList.map λi=>ns.getD i default).map V.int) (p.toList.map λi=>us.getD i Value.none):=by
   clear hl pw pp pl st pm;generalize p.toList=il at mem
   induction il with
   |nil=>exact .nil
   |cons i il ih=>
    refine .cons ?_ (ih λj hj=>mem j (.tail _ hj));have hi:=mem i (.head _);obtain⟨a,ha,ra⟩:=Vals.get hu (i:=i) (x:=V.int (ns.getD i default)) (by simp[hi]);have e1:us.getD i Value.none=a:=by simp[getD,ha]
    show L2.RelV (V.int (ns.getD i default)) (us.getD i Value.none);rw[e1];exact ra
  refine⟨.ref l,_,I.laid (t':=t') (o:= .lst ((p.toList.map λi=>ns.getD i default).map V.int)) k zl ⟨?_,_,e,vv,hl⟩,rfl,q l _ (I.hok.fresh zl) pp pw⟩;rw[If,pp.length_eq,Yr];omega
end
end Srt
namespace Wk
open PySem L2
def cntF(ds:List Dd)(m:Int):Nat:=(ds.filter λd=>decide (d.mo<=m)).length
theorem Xu(ds:List Dd)(m:Int):cntF ds m<=ds.length:=Yq _ _
end Wk
namespace K08
open PySem L2 Wk
variable{P:Program}{w:World}{K:Frag}{mg:Str->Option Value}{base:Heap}
def top(i:Nat):Stmt:=PySem.Challenge.pw_joinedever_k08_whole_deeds_and_parts.main.body.getD i (.Pass ⟨0,0,0,0⟩)
abbrev Ed:Stmt:=top 1
abbrev Jt:Stmt:=top 2
abbrev Ji:Stmt:=top 3
abbrev Ex:Stmt:=top 4
abbrev Ek:Stmt:=top 5
abbrev Gn:Stmt:=top 10
abbrev E3:Stmt:=top 11
abbrev Jl:Stmt:=top 17
abbrev E1:Stmt:=top 18
abbrev Gg:Stmt:=top 19
abbrev Pr:Stmt:=top 20
abbrev E4:Stmt:=top 21
abbrev Gy:Stmt:=top 22
abbrev Gp:Stmt:=top 23
abbrev Gf:Stmt:=top 24
abbrev Gm:Stmt:=top 25
abbrev C9:Stmt:=top 27
abbrev Ev:Stmt:=top 28
abbrev Et:Stmt:=top 29
abbrev Kj:Stmt:=top 31
abbrev Jx:Stmt:=top 32
abbrev Kb:Stmt:=top 33
abbrev Fg:Stmt:=top 34
abbrev Jz:Stmt:=top 35
abbrev E2:Stmt:=top 36
abbrev Kd:Stmt:=top 37
abbrev P5:Stmt:=top 38
abbrev Cz:Stmt:=top 39
abbrev Dx:Stmt:=top 40
abbrev Ey:Stmt:=top 41
abbrev Kh:Stmt:=top 42
abbrev G3:Stmt:=top 43
abbrev Gq:Stmt:=top 44
abbrev Eo:Stmt:=top 45
abbrev Iv:Stmt:=top 46
structure Txt(mg:Str->Option Value):Prop where
 isinstance:mg "isinstance"=none
 int:mg "int"=none
 bool:mg "bool"=none
 tuple:mg "tuple"=none
 len:mg "len"=none
 range:mg "range"=none
 sum:mg "sum"=none
 str:mg "str"=none
 max:mg "max"=none
 min:mg "min"=none
 all:mg "all"=none
 sorted:mg "sorted"=none
 list:mg "list"=none
 enumerate:mg "enumerate"=none
 places:∃t,mg "MOST_PLACES"=some (.int 24 t)
 deedsM:∃t,mg "MOST_DEEDS"=some (.int 60 t)
 letters:∃t,mg "MOST_LETTERS"=some (.int 8 t)
 amount:∃t,mg "MOST_AMOUNT"=some (.int 1000000000 t)
def StandT(H:Hp)(st:Addr)(S:List T4):Prop:=∃rs:List Addr,H st=some (.tup (rs.map V.ref))/\TiesAt H rs S
theorem StandT.mono{H H':Hp}{st:Addr}{S:List T4}(h:StandT H st S)(f:∀r zs,H r=some (.tup zs)->H' r=some (.tup zs)):StandT H' st S:=let ⟨rs,a,b⟩:=h;⟨rs,f _ _ a,b.1,λi r t e g=>f _ _ (b.2 i r t e g)⟩
theorem StandT.same{H H':Hp}{st:Addr}{S:List T4}(h:StandT H st S)(s:Same H H'):StandT H' st S:=h.mono λr zs e=>s _ _ e
def Hy:Sp:=λvs H Q _=>∃(N:Nat) (st:Addr) (S:List T4),vs=[.int (N:Int),.ref st]/\StandT H st S/\InN N S/\N<=60/\S.length<=100/\∀b H',Same H H'->BesAt H' b N (Bh S)->Q (.ref b) H'
def Nv:Sp:=λvs H Q _=>∃(N:Nat) (st:Addr) (S:List T4) (p:Nat),vs=[.int (N:Int),.ref st,.int (p:Int)]/\StandT H st S/\InN N S/\N<=60/\S.length<=100/\p<N/\∀a H',Same H H'->WaysAt H' a (Ef N S p)->Q (.ref a) H'
def Jg:Sp:=λvs H Q _=>∃(N:Nat) (st:Addr) (S:List T4) (p:Nat),vs=[.int (N:Int),.ref st,.int (p:Int)]/\StandT H st S/\InN N S/\N<=60/\S.length<=100/\p<N/\∀a H',Same H H'->H' a=some (.tup (((Bn N S p).map ofNat).map V.int))->Q (.ref a) H'
def Ht:Sp:=λvs H Q _=>∃(N:Nat) (st:Addr) (S:List T4) (p q:Nat),vs=[.int (N:Int),.ref st,.int (p:Int),.int (q:Int)]/\StandT H st S/\InN N S/\N<=60/\S.length<=100/\p<N/\∀H',Same H H'->Q (.bl (decide (q∈Bn N S p))) H'
theorem scBeside:Aw ["many","stand","beside","name","one","other","weight"] ["many","stand"] (Ag Ed):=⟨rfl,rfl,rfl,by decide+kernel,rfl,by decide+kernel,by decide+kernel⟩
theorem P7{f:Addr}{fd:FuncData}(F:Fun K "beside_of" "beside_of" Ed f fd)(T:Txt mg):
  FnOk P w K mg base CX0 1 f fd ["many","stand"] Hy:=by
 refine F.ok scBeside (λvs H Q E h=> ?_) (λcdv A outer s H vs Q E hr h=> ?_)
 ·obtain⟨_,_,_,rfl,_⟩:=h;rfl
 ·obtain⟨N,st,S,rfl,⟨rs,hst,hrs⟩,hN,N60,S100,k⟩:=h;refine⟨_,Ad (Dy (i:=2) (T:=["place"]) (F:=[]) (js:=[]) scBeside.nd rfl (Or.inl rfl) (CS.to (osc:=Ag Ed) ⟨by rfl,by decide+kernel,by decide+kernel,by decide+kernel,by decide+kernel,by decide+kernel,by decide+kernel⟩ rfl rfl) rfl (Cf rfl T.range (Aa (pv 0) Ac)) (λ_ _ _ _ _=>Am (i:=0) (show (["place"]:List Str).Nodup by decide+kernel) rfl (Or.inl rfl)) (λ_ _ _ _ _=>Dg) (λ_ _ _ _ _=>B7 Ac))
   (Ad (Ea PassesOwn.never rfl (Ec (pv 1)) (C5 rfl (Az (Am (i:=3) scBeside.nd rfl (Or.inl rfl)) (Az (Am (i:=4) scBeside.nd rfl (Or.inl rfl)) (Az (Am (i:=5) scBeside.nd rfl (Or.inl rfl)) (Az (Am (i:=6) scBeside.nd rfl (Or.inl rfl)) Ch))))) (Ad (Cl (Db Yy PySem.F.slot_list_append PySem.F.type_list_append Bu (Ax Ba (pv 2) (pv 4) (λ_ _=>rfl)) (Aa (Bv (Aa (pv 3) (Aa (pv 5) Ac))) Ac)))
   (Ah (Cl (Db Yy PySem.F.slot_list_append PySem.F.type_list_append Bu (Ax Ba (pv 2) (pv 5) (λ_ _=>rfl)) (Aa (Bv (Aa (pv 3) (Aa (pv 4) Ac))) Ac))))))
   (Ah (Ao (pv 2)))),?_⟩
  refine⟨_,rfl,(N:Int),rfl,by omega,by omega,λD hD=>C3 (lo:=0) (n:=(N:Int).toNat) (λj σ ys H2=>∃(u:Option V) (ls:List Addr),σ=[u]/\ys=ls.map V.ref/\Same H H2/\H2 D=some (.lst ys)/\ls.length=j/\ls.Nodup/\∀l∈ls,H l=none/\l≠D/\H2 l=some (.lst [])) ⟨none,[],rfl,rfl,Ae hD,Ab,rfl,nodup_nil,by simp⟩ (λj σ ys H2 _ ⟨_,_,_,_,_,e,_⟩=>e) ?_ ?_⟩
  ·rintro j σ ys H2 hj ⟨u,ls,rfl,rfl,s2,d2,ll,nd,hl⟩;have hj:j<N:=by simpa using hj
   refine⟨A1 (by simp),λp hp=> ?_⟩;have pD:p≠D:=(Ay d2 hp).symm;refine⟨by rw[Aj pD.symm];exact d2,Aq (by simp;omega),_,ls++[p],rfl,by rw[map_append];rfl,A2 (s2.trans (Ae hp)) hD,Ab,by simp[ll],?_,λl hl'=> ?_⟩
   ·refine List.nodup_append.mpr ⟨nd,Zh.mpr ⟨by simp,nodup_nil⟩,λx hx y hy=> ?_⟩;rw[mem_singleton.mp hy];exact Ay (hl x hx).2.2 hp
   ·rcases mem_append.mp hl' with q|q
    ·obtain⟨h1,h2,h3⟩:=hl l q;exact⟨h1,h2,by rw[Aj h2,Aj (Ay h3 hp)];exact h3⟩
    ·rw[mem_singleton.mp q];exact⟨Fw s2 hp,pD,by rw[Aj pD];exact Ab⟩
  rintro σ ys H2 ⟨u,ls,rfl,rfl,s2,d2,ll,nd,hl⟩;have ll:ls.length=N:=by simpa using ll
  have B0:Bes H H2 D ls N (Bh []):=⟨s2,d2,ll,nd,λl h=>⟨(hl l h).1,(hl l h).2.1⟩,λv l h=>⟨[],(hl l (mem_of_getElem? h)).2.2,rfl,λi r q e=>(by simp at e)⟩⟩
  refine⟨_,rfl,st,rfl,⟨_,SqT.of (s2 _ _ hst)⟩,K7 (K:=K) (a:=st) (xs:=rs.map V.ref) (λi σ H3=>∃(u3 u4 u5 u6:Option V),σ=[some (.int (N:Int)),some (.ref st),some (.ref D),u3,u4,u5,u6]/\Bes H H3 D ls N (Bh (S.take i))) ⟨_,_,_,_,rfl,B0⟩ (λi σ H3 _ ⟨_,_,_,_,_,B⟩=>SqT.of (B.same _ _ hst)) ?_ ?_⟩
  ·rintro i x σ H3 hx ⟨u3,u4,u5,u6,rfl,B⟩;obtain⟨r,hr',rfl⟩:=map_some hx;obtain⟨t,ht,er⟩:=hrs.get hr';have er3:=B.same _ _ er;have tN:=hN t (mem_of_getElem? ht);have h1:t.2.1<ls.length:=by omega
   have h2:t.2.2.1<ls.length:=by omega
   have tk:S.take (i+1)=S.take i++[t]:=by rw[take_add_one,ht];rfl
   have nl:∀v,(Bh (S.take i) v).length<=200:=λv=>le_trans (Mf _ _) (by rw[Yo];omega);have l1:=C6 h1;have l2:=C6 h2;obtain⟨rs1,e1,n1,_⟩:=B.prs _ _ l1;refine⟨r,_,rfl,SqT.of er3,rfl,_,_,rfl,_,_,rfl,_,_,rfl,_,_,rfl,rfl,?_⟩;refine⟨_,rfl,_,rfl,D,_,_,.ref ls[t.2.1],rfl,rfl,SqL.of B.hb,Ak (by rw[getElem?_map,l1];rfl),.inl ⟨rfl,_,SqL.of e1⟩,_,rfl,_,rfl,A1 (by simp),λp hp=> ?_⟩;refine⟨_,_,_,rfl,rfl,Ae hp _ _ e1,Aq (by rw[If];have:=nl t.2.1;omega),?_⟩;have B1:=B.app (n:=t.1) (u:=t.2.2.1) l1 hp e1;generalize upd (upd H3 p _) _ _=H4 at B1;obtain⟨rs2,e2,n2,_⟩:=B1.prs _ _ l2;refine⟨_,rfl,_,rfl,D,_,_,.ref ls[t.2.2.1],rfl,rfl,SqL.of B1.hb,Ak (by rw[getElem?_map,l2];rfl),.inl ⟨rfl,_,SqL.of e2⟩,_,rfl,_,rfl,A1 (by simp),λp' hp'=> ?_⟩;have n3:rs2.length<=201:=by
    rw[n2];split
    ·rw[Yk];have:=nl t.2.1;simp only[Yx,Y9];omega
    ·have:=nl t.2.2.1;omega
   refine⟨_,_,_,rfl,rfl,Ae hp' _ _ e2,Aq (by rw[If];omega),_,_,_,_,rfl,?_⟩;have B2:=B1.app (n:=t.1) (u:=t.2.1) l2 hp' e2;rw[Yc,<-tk] at B2;exact B2
  ·rintro σ H3 ⟨u3,u4,u5,u6,rfl,B⟩;rw[If,hrs.1,Yv] at B;exact⟨_,rfl,k D H3 B.same ⟨ls,B.hb,B.len,B.prs⟩⟩
theorem scWays:Aw ["many","stand","place","beside","ways","waiting","here","name","there"] ["many","stand","place"] (Ag Jt):=⟨rfl,rfl,rfl,by decide+kernel,rfl,by decide+kernel,by decide+kernel⟩
theorem U6{f:Addr}{fd:FuncData}(F:Fun K "ways_from" "ways_from" Jt f fd)(T:Txt mg){gBeside:Addr}{fBeside:FuncData}(kBeside:keepIn K (.ref gBeside)=true)(bBeside:Binds K fBeside ["many","stand"] [])(hBeside:mg "beside_of"=some (.ref gBeside))(GBeside:FnOk P w K mg base CX0 1 gBeside fBeside ["many","stand"] Hy):
  FnOk P w K mg base CX0 2 f fd ["many","stand","place"] Nv:=by
 refine F.ok scWays (λvs H Q E h=> ?_) (λcdv A outer s H vs Q E hr h=> ?_)
 ·obtain⟨_,_,_,_,rfl,_⟩:=h;rfl
 ·obtain⟨N,st,S,p,rfl,hst,hN,N60,S100,pN,k⟩:=h;refine⟨_,Ad (Al (i:=3) scWays.nd rfl (Or.inl rfl) (Ai GBeside hr rfl hBeside kBeside bBeside .nil Ap (Aa (pv 0) (Aa (pv 1) Ac))))
   (Ad (Al (i:=4) scWays.nd rfl (Or.inl rfl) (Ar Wy (B7 (Aa Jd Ac)) (pv 0)))
   (Ad (C4 (Bv Ac) (Kq (pv 4) (pv 2) Fp))
   (Ad (Al (i:=5) scWays.nd rfl (Or.inl rfl) (B7 (Aa (pv 2) Ac)))
   (Ad (Sl PassesOwn.never (Rs (pv 5) (λ_=>rfl)) (Ad (Al (i:=6) scWays.nd rfl (Or.inl rfl) (Db Yy PySem.F.slot_list_pop PySem.F.type_list_pop R8 (pv 5) (Aa Af Ac)))
   (Ah (Ea PassesOwn.never rfl (Ll (Ax Ba (pv 3) (pv 6) (λ_ _=>rfl))) (C5 rfl (Az (Am (i:=7) scWays.nd rfl (Or.inl rfl)) (Az (Am (i:=8) scWays.nd rfl (Or.inl rfl)) Ch))) (Ah (Be (As Xs (Ax Ba (pv 4) (pv 8) (λ_ _=>rfl)) Jd (Av _)) (Ad (C4 (Ar Eh (Ax Ba (pv 4) (pv 6) (λ_ _=>rfl)) (Bv (Aa (pv 7) Ac))) (Kq (pv 4) (pv 8) Fp))
   (Ah (Cl (Db Yy PySem.F.slot_list_append PySem.F.type_list_append Bu (pv 5) (Aa (pv 8) Ac))))) A0))))))
   (Ah (Ao (pv 4))))))),?_⟩
  refine⟨_,rfl,_,rfl,N,st,S,rfl,hst,hN,N60,S100,λb H1 s1 hb=> ?_⟩;refine⟨A1 (by simp),λq hq=>⟨_,rfl,q,_,_,rfl,rfl,Ab,by omega,by omega,A1 (by simp only[Yx,Y9];omega),λws hws=> ?_⟩⟩;have fl:(replicate (N:Int).toNat [V.non]).flatten=replicate N V.non:=by rw[List.flatten_replicate_singleton];rfl
  rw[fl];have s2:=(Ae (H:=H1) (o:= .lst [.non]) hq).trans (Ae (o:= .lst (replicate N V.non)) hws);have nw:H1 ws=none:=Fw (Ae (H:=H1) (o:= .lst [.non]) hq) hws;have e2:=Ab (H:=upd H1 q (.lst [.non])) (a:=ws) (o:= .lst (replicate N V.non));generalize upd (upd H1 q (.lst [.non])) ws (.lst (replicate N V.non))=H2 at s2 e2;have W2:WaysAt H2 ws (replicate N none):=⟨_,e2,by simp,λi x o hx ho=>by
   rw[getElem?_replicate] at hx ho;split at hx
   ·rename_i hi;rw[Yf hi] at ho;cases hx;cases ho;rfl
   ·cases hx⟩
  refine⟨A1 (by simp),λe he=> ?_⟩;have s3:=Ae (o:= .tup []) he;have W3:=W2.same s3;have e3:=s3 _ _ e2;have t3:=Ab (H:=H2) (a:=e) (o:= .tup []);generalize upd H2 e (.tup [])=H3 at s3 W3 e3 t3;have W4:WaysAt (upd H3 ws (.lst ((replicate N V.non).set p (.ref e)))) ws (Bt N p).1:=WaysAt.set (w:=[]) W3 e3 t3;have s4:Same H1 (upd H3 ws (.lst ((replicate N V.non).set p (.ref e)))):=A2 (s2.trans s3) nw;refine⟨_,rfl,_,rfl,ws,_,_,p,rfl,rfl,e3,(by have h:ixN (replicate N V.non).length (p:Int)=some p:=Lc (by simpa using pN);exact h),?_⟩;generalize upd H3 ws _=H4 at W4 s4;refine⟨_,rfl,A1 (by simp),λwt hwt=> ?_⟩;have s5:=s4.trans (Ae (o:= .lst [.int (p:Int)]) hwt);have nt:H1 wt=none:=Fw s4 hwt;have W5:=W4.same (Ae (o:= .lst [.int (p:Int)]) hwt);have t5:=Ab (H:=H4) (a:=wt) (o:= .lst [.int (p:Int)]);have wwt:ws≠wt:=by obtain⟨xs,hx,_⟩:=W4;exact Ay hx hwt
  generalize upd H4 wt (.lst [.int (p:Int)])=H5 at s5 W5 t5;dsimp only[gName,Xf];refine R9 (λm σ H6=>∃(i:Nat) (u6 u7 u8:Option V) (wl:Ws) (tl:List Nat),σ=[some (.int (N:Int)),some (.ref st),some (.int (p:Int)),some (.ref b),some (.ref ws),some (.ref wt),u6,u7,u8]/\Same H1 H6/\H6 wt=some (.lst ((tl.map ofNat).map V.int))/\WaysAt H6 ws wl/\iter S i (Bt N p)=(wl,tl)/\Kr S N p (wl,tl)/\m=Cp wl+tl.length/\i+m<=64/\tl.length<=64/\∀v x,Wk.Vis wl v x->x.length<=i)
   (m0:=Cp (Bt N p).1+1) ⟨0,_,_,_,(Bt N p).1,[p],rfl,s5,t5,W5,rfl,Wd pN,rfl,?_,by simp,λv x q=>by rw[Qu pN q];simp⟩ ?_ ?_
  ·have:Cp (Bt N p).1<=(Bt N p).1.length:=List.countP_le_length;simp only[Bt,List.length_set,List.length_replicate] at this ⊢;omega
  ·rintro m σ H6 ⟨i,u6,u7,u8,wl,tl,rfl,s6,t6,W6,it6,I6,hm,hi,tl6,sh6⟩;refine⟨_,rfl,_,.inl ⟨_,SqL.of t6,rfl⟩,?_⟩;cases tl with
   |nil=>
    refine Bp ?_;rw[<-Hk it6 (by omega)] at W6;exact⟨_,rfl,k ws H6 (s1.trans s6) W6⟩
   |cons h rest=>
    refine B9 ?_;obtain⟨w0,hv0,J⟩:=Ks I6;have hh:h<N:=by have:=(List.getElem?_eq_some_iff.mp hv0).1;rw[<-I6.len];exact this
    refine⟨_,rfl,.inl ⟨rfl,_,SqL.of t6⟩,wt,_,0,0,.int (h:Int),rfl,rfl,t6,by decide,by decide,by simp[seqIndex?],rfl,?_⟩;have W7:=W6.keep (zs:=(rest.map ofNat).map V.int) t6 wwt;have s7:Same H1 (upd H6 wt (.lst ((rest.map ofNat).map V.int))):=A2 s6 nt;have t7:=Ab (H:=H6) (a:=wt) (o:= .lst ((rest.map ofNat).map V.int));have eH:upd H6 wt (.lst (List.eraseIdx (List.map V.int (List.map ofNat (h::rest))) 0))=upd H6 wt (.lst ((rest.map ofNat).map V.int)):=rfl;rw[eH];generalize upd H6 wt (.lst ((rest.map ofNat).map V.int))=H7 at W7 s7 t7;obtain⟨ls,hls,lls,hpr⟩:=hb.same s7;have hl:=C6 (l:=ls) (i:=h) (by omega);obtain⟨rs,er,lr,hr3⟩:=hpr h _ hl;have w0len:w0.length<=64:=by have:=sh6 h w0 hv0;omega
    refine⟨_,rfl,_,rfl,b,_,_,.ref ls[h],rfl,rfl,SqL.of hls,Ak (by rw[getElem?_map,hl];rfl),_,rfl,⟨_,SqL.of er⟩,?_⟩;have key:∀H8,Same H1 H8->H8 ls[h]=some (.lst (rs.map V.ref))/\∀(i:Nat) r q,rs[i]? =some r->(Bh S h)[i]? =some q->H8 r=some (.tup [.str q.1,.int (q.2:Int)]):=by
     intro H8 s8;obtain⟨ls',hls',_,hpr'⟩:=hb;have e1:ls'=ls:=by
      have:=s7 _ _ hls';rw[hls] at this;injection this with this;injection this with this;exact(Me this).symm
     subst e1;obtain⟨rs',er',lr',hr'⟩:=hpr' h _ hl;have e2:rs'=rs:=by
      have:=s7 _ _ er';rw[er] at this;injection this with this;injection this with this;exact(Me this).symm
     subst e2;exact⟨s8 _ _ er',λi r q e f=>s8 _ _ (hr' i r q e f)⟩
    refine Tl (K:=K) (a:=ls[h]) (xs:=rs.map V.ref) (λj σ H8=>∃(u7 u8:Option V),σ=[some (.int (N:Int)),some (.ref st),some (.int (p:Int)),some (.ref b),some (.ref ws),some (.ref wt),some (.int (h:Int)),u7,u8]/\Same H1 H8/\H8 wt=some (.lst (((Bi w0 ((Bh S h).take j) (wl,rest)).2.map ofNat).map V.int))/\WaysAt H8 ws (Bi w0 ((Bh S h).take j) (wl,rest)).1)
     ⟨_,_,rfl,s7,t7,W7⟩ (λj σ H8 _ ⟨_,_,_,s8,_⟩=>SqL.of (key H8 s8).1) ?_ ?_
    ·rintro j x σ H8 hx ⟨u7',u8',rfl,s8,t8,W8⟩;obtain⟨r,hr',rfl⟩:=map_some hx;have hj:j<(Bh S h).length:=by rw[<-lr];exact(List.getElem?_eq_some_iff.mp hr').1
     have hq:=C6 hj;have er8:=(key H8 s8).2 j r _ hr' hq;have tk:(Bh S h).take (j+1)=(Bh S h).take j++[(Bh S h)[j]]:=by rw[take_add_one,hq];rfl
     have qN:((Bh S h)[j]).2<N:=L8 hN (getElem_mem hj);have jl:j<201:=by have:=Mf S h;omega
     obtain⟨vl1,vl2⟩:=Gk w0 ((Bh S h).take j) (wl,rest);have vh:=Gs w0 ((Bh S h).take j) (wl,rest) hv0;rw[tk,Fh];generalize (Bh S h)[j]=q at er8 qN;generalize Bi w0 ((Bh S h).take j) (wl,rest)=st' at *;obtain⟨wl',tl'⟩:=st';dsimp only at *;have qw:q.2<wl'.length:=by rw[vl1];show _<wl.length;rw[I6.len];exact qN
     refine⟨r,_,rfl,SqT.of er8,rfl,_,_,rfl,_,_,rfl,rfl,?_⟩;obtain⟨xs,x,hxs,hx',lxs,hxo⟩:=W8.get (C6 qw);refine⟨_,rfl,_,rfl,ws,_,_,x,rfl,rfl,SqL.of hxs,Ak hx',rfl,_,rfl,?_⟩;cases ho:wl'[q.2] with
     |some z=>
      rw[ho] at hxo;obtain⟨rz,rfl,_⟩:=hxo;rw[Vk (by dsimp only;rw[C6 qw,ho];simp)];refine Cy (λg=>absurd g (by simp)) λ_=> ?_;exact⟨_,_,rfl,s8,t8,W8⟩
     |none=>
      rw[ho] at hxo;have hxo:x= .non:=hxo;subst hxo;rw[Ro (by dsimp only;rw[C6 qw,ho])];refine Cy (λ_=> ?_) λg=>absurd (by simp) g;obtain⟨xs2,x2,hxs2,hx2,_,hxo2⟩:=W8.get vh;obtain⟨r0,rfl,er0⟩:=hxo2;rw[hxs] at hxs2;injection hxs2 with hxs2;injection hxs2 with hxs2;subst hxs2;have tl9:((tl'.map ofNat).map V.int).length<=1000:=by
       simp only[If,Yo,Yx] at vl2 tl6 ⊢;omega
      refine⟨_,rfl,_,rfl,ws,_,_,.ref r0,rfl,rfl,SqL.of hxs,Ak hx2,_,rfl,A1 (by simp),λp1 hp1=> ?_⟩;have s9:=Ae (o:= .tup [.str q.1]) hp1;have p9:=Ab (H:=H8) (a:=p1) (o:= .tup [.str q.1]);have w9:w0.length<=100:=by
       have:=(J.ht h w0 J.hv);have:=w0len;omega
      generalize upd H8 p1 (.tup [.str q.1])=H9 at s9 p9;refine⟨r0,p1,_,_,rfl,rfl,SqT.of (s9 _ _ er0),SqT.of p9,A1 (by simp;omega),λe=> ?_,λ_ e=>absurd e (by simp),λ_ _ p2 hp2=> ?_⟩
      ·have e0:w0=[]:=by simpa using e
       have e9:H9 p1=some (.tup ((w0++[q.1]).map V.str)):=by rw[e0];exact p9
       have hxs9:=s9 _ _ hxs;have W9:=(W8.same s9).set (u:=q.2) hxs9 e9;have t9:=s9 _ _ t8;refine⟨_,rfl,_,rfl,ws,_,_,q.2,rfl,rfl,hxs9,Lc (by omega),?_⟩;have s10:Same H1 (upd H9 ws (.lst (xs.set q.2 (.ref p1)))):=A2 (s8.trans s9) nw;have t10:upd H9 ws (.lst (xs.set q.2 (.ref p1))) wt=some (.lst ((tl'.map ofNat).map V.int)):=by rw[Aj wwt.symm];exact t9
       generalize upd H9 ws (.lst (xs.set q.2 (.ref p1)))=H10 at W9 s10 t10;refine⟨_,rfl,.inl ⟨rfl,_,SqL.of t10⟩,_,rfl,wt,_,_,rfl,rfl,t10,Aq tl9,_,_,rfl,A2 s10 nt,?_,W9.keep t10 wwt⟩;rw[Ab,map_append,map_append];rfl
      ·have e9:upd H9 p2 (.tup (w0.map V.str++[.str q.1])) p2=some (.tup ((w0++[q.1]).map V.str)):=by rw[Ab,map_append];rfl
       have s9:=s9.trans (Ae (o:= .tup (w0.map V.str++[.str q.1])) hp2);generalize upd H9 p2 (.tup (w0.map V.str++[.str q.1]))=H9 at s9 e9;have hxs9:=s9 _ _ hxs;have W9:=(W8.same s9).set (u:=q.2) hxs9 e9;have t9:=s9 _ _ t8;refine⟨_,rfl,_,rfl,ws,_,_,q.2,rfl,rfl,hxs9,Lc (by omega),?_⟩;have s10:Same H1 (upd H9 ws (.lst (xs.set q.2 (.ref p2)))):=A2 (s8.trans s9) nw;have t10:upd H9 ws (.lst (xs.set q.2 (.ref p2))) wt=some (.lst ((tl'.map ofNat).map V.int)):=by rw[Aj wwt.symm];exact t9
       generalize upd H9 ws (.lst (xs.set q.2 (.ref p2)))=H10 at W9 s10 t10;refine⟨_,rfl,.inl ⟨rfl,_,SqL.of t10⟩,_,rfl,wt,_,_,rfl,rfl,t10,Aq tl9,_,_,rfl,A2 s10 nt,?_,W9.keep t10 wwt⟩;rw[Ab,map_append,map_append];rfl
    ·rintro σ H8 ⟨u7',u8',rfl,s8,t8,W8⟩;rw[If,lr,Yv] at t8 W8;have eb:Dw S (wl,h::rest)=Bi w0 (Bh S h) (wl,rest):=by
      show Bi ((wl[h]?.join).getD []) (Bh S h) (wl,rest)=_;unfold Wk.Vis at hv0;rw[hv0];rfl
     obtain⟨I8,m8⟩:=L5 hN I6;have sh8:=M5 hN I6 sh6;have it8:iter S (i+1) (Bt N p)=Bi w0 (Bh S h) (wl,rest):=by rw[J3,it6,eb]
     rw[eb] at I8 m8 sh8;generalize Bi w0 (Bh S h) (wl,rest)=st' at *;obtain⟨wl',tl'⟩:=st';dsimp only at *;refine⟨Cp wl'+tl'.length,by omega,i+1,_,_,_,wl',tl',rfl,s8,t8,W8,it8,I8,rfl,by omega,by omega,sh8⟩
  ·rintro σ H6 Q Q' f ⟨v,e,b',h',q⟩;exact⟨v,e,b',h',f _ _ q⟩
theorem scPart:Aw ["many","stand","place","ways"] ["many","stand","place"] (Ag Ji):=⟨rfl,rfl,rfl,by decide+kernel,rfl,by decide+kernel,by decide+kernel⟩
theorem Vz{f:Addr}{fd:FuncData}(F:Fun K "part_of" "part_of" Ji f fd)(T:Txt mg){gWays:Addr}{fWays:FuncData}(kWays:keepIn K (.ref gWays)=true)(bWays:Binds K fWays ["many","stand","place"] [])(hWays:mg "ways_from"=some (.ref gWays))(GWays:FnOk P w K mg base CX0 2 gWays fWays ["many","stand","place"] Nv):
  FnOk P w K mg base CX0 3 f fd ["many","stand","place"] Jg:=by
 refine F.ok scPart (λvs H Q E h=> ?_) (λcdv A outer s H vs Q E hr h=> ?_)
 ·obtain⟨_,_,_,_,rfl,_⟩:=h;rfl
 ·obtain⟨N,st,S,p,rfl,hst,hN,N60,S100,pN,k⟩:=h;refine⟨_,Ad (Al (i:=3) scPart.nd rfl (Or.inr rfl) (Ai GWays hr rfl hWays kWays bWays .nil Ap (Aa (pv 0) (Aa (pv 1) (Aa (pv 2) Ac)))))
   (Ah (Ao (Bd A9 (by rfl) T.tuple (by decide+kernel) (Aa (Cu (T:=["there"]) (F:=["ways"]) (js:=[3]) (CS.to (osc:=Ag Ji) ⟨by rfl,by decide+kernel,by decide+kernel,by decide+kernel,by decide+kernel,by decide+kernel,by decide+kernel⟩ rfl rfl) rfl (Cf rfl T.range (Aa (pv 0) Ac)) (λ_ _ _ _ _=>Am (i:=0) (show (["there","ways"]:List Str).Nodup by decide+kernel) rfl (Or.inl rfl)) (λ_ _ _ _ _=>Dh (As Pa (Ax (r:=rIxL K) Ba (pv 1) (pv 0) (λ_ _=>rfl)) Jd (Av _))) (λ_ _ _ _ _=>pv 0)) Ac)))),?_⟩
  refine⟨_,rfl,_,rfl,_,rfl,N,st,S,p,rfl,hst,hN,N60,S100,pN,λa H1 s1 W1=> ?_⟩;have wl:=Rz hN pN N60;refine⟨_,rfl,(N:Int),rfl,by omega,by omega,λD hD=>C3 (lo:=0) (n:=(N:Int).toNat) (λj σ ys H2=>∃(u:Option V),σ=[u,some (.ref a)]/\ys=((((List.range j).filter λv=>((Ef N S p)[v]?.join).isSome).map ofNat).map V.int)/\H2=upd H1 D (.lst ys)) ⟨none,rfl,rfl,rfl⟩ (λj σ ys H2 _ ⟨_,_,_,e⟩=>by rw[e];exact Ab) ?_ ?_⟩
  ·rintro j σ ys H2 hj ⟨u,rfl,rfl,rfl⟩;have hj:j<N:=by simpa using hj
   have hjw:j<(Ef N S p).length:=by omega
   obtain⟨xs,x,hxs,hx,lx,hxo⟩:=(W1.same (Ae (o:= .lst ((((List.range j).filter λv=>((Ef N S p)[v]?.join).isSome).map ofNat).map V.int)) hD)).get (C6 hjw);refine⟨_,rfl,_,rfl,a,_,_,x,rfl,rfl,SqL.of hxs,by rw[Int.zero_add];exact Ak hx,rfl,_,rfl,?_⟩;have lf:((List.range j).filter λv=>((Ef N S p)[v]?.join).isSome).length<=60:=le_trans (Yq _ _) (by rw[Za];omega);cases ho:(Ef N S p)[j] with
   |none=>
    rw[ho] at hxo;have hxo:x= .non:=hxo;subst hxo;refine Cy (λg=>absurd g (by simp)) λ_=>⟨_,rfl,?_,?_⟩
    ·rw[range_succ,filter_append];simp[C6 hjw,ho]
    ·rfl
   |some z=>
    rw[ho] at hxo;obtain⟨r,rfl,_⟩:=hxo;refine Cy (λ_=>⟨_,rfl,Ab,Aq (by simp only[If];omega),_,rfl,?_,by rw[Ld]⟩) λg=>absurd (by simp) g;rw[range_succ,filter_append,map_append,map_append];simp[C6 hjw,ho]
  ·rintro σ ys H2 ⟨u,rfl,rfl,rfl⟩;exact⟨D,_,rfl,.inl ⟨SqL.of Ab,λl hl=>k l _ (s1.trans ((Ae hD).trans (Ae hl))) Ab⟩⟩
theorem Su:Aw ["many","stand","one","other"] ["many","stand","one","other"] (Ag Ex):=⟨rfl,rfl,rfl,by decide+kernel,rfl,by decide+kernel,by decide+kernel⟩
theorem Qj{f:Addr}{fd:FuncData}(F:Fun K "are_joined" "are_joined" Ex f fd)(T:Txt mg){gPart:Addr}{fPart:FuncData}(kPart:keepIn K (.ref gPart)=true)(bPart:Binds K fPart ["many","stand","place"] [])(hPart:mg "part_of"=some (.ref gPart))(GPart:FnOk P w K mg base CX0 3 gPart fPart ["many","stand","place"] Jg):
  FnOk P w K mg base CX0 4 f fd ["many","stand","one","other"] Ht:=by
 refine F.ok Su (λvs H Q E h=> ?_) (λcdv A outer s H vs Q E hr h=> ?_)
 ·obtain⟨_,_,_,_,_,rfl,_⟩:=h;rfl
 ·obtain⟨N,st,S,p,q,rfl,hst,hN,N60,S100,pN,k⟩:=h;refine⟨_,Ah (Ao (Br Dm (pv 3) (Ai GPart hr rfl hPart kPart bPart .nil Ap (Aa (pv 0) (Aa (pv 1) (Aa (pv 2) Ac)))) (by rfl))),?_⟩;refine⟨_,rfl,_,rfl,_,rfl,_,rfl,N,st,S,p,rfl,hst,hN,N60,S100,pN,λa H1 s1 e1=>⟨a,_,rfl,.inr (SqT.of e1),rfl,Dv _,?_⟩⟩;have e:inV (.int (q:Int)) (((Bn N S p).map ofNat).map V.int)=decide (q∈Bn N S p):=by
   rw[Mm,Bool.eq_iff_iff,Yh,Yh,mem_map];constructor
   ·rintro⟨x,hx,e⟩;have:x=q:=by have:(x:Int)=q:=e;omega
    rw[<-this];exact hx
   ·intro h;exact⟨q,h,rfl⟩
  show Q (.bl (inV (.int (q:Int)) (((Bn N S p).map ofNat).map V.int))) H1;rw[e];exact k _ s1
def Le:Sp:=λvs H Q _=>∃i:Int,vs=[.int i]/\Q (.bl true) H
def Eg:Sp:=λvs H Q _=>∃i lo hi:Int,vs=[.int i,.int lo,.int hi]/\lo<=i/\i<=hi/\Q (.bl true) H
def A8(x:Str):Prop:=1<=x.length/\x.length<=8/\∀c∈x.cps.toList,97<=c/\c<=122
def Lu:Sp:=λvs H Q _=>∃x:Str,vs=[.str x]/\A8 x/\∀H',Same H H'->Q (.bl true) H'
def El:Sp:=λvs H Q _=>∃i:Int,vs=[.int i]/\0<=i/\i<=1000000000/\Q (.bl true) H
def Lo:Sp:=λvs H Q _=>∃m i:Int,vs=[.int m,.int i]/\0<=i/\i<m/\Q (.bl true) H
def Ui:Sp:=λvs H Q _=>∃(N:Nat) (r:Addr) (t:T4),vs=[.int (N:Int),.ref r]/\H r=some (.tup (Cm t))/\A8 t.1/\E7 N t/\0<=t.2.2.2/\t.2.2.2<=1000000000/\∀H',Same H H'->Q (.bl true) H'
def Ku:Sp:=λvs H Q _=>∃(h tp:Addr) (N:Nat) (xs:List V) (k:Int),vs=[.ref h,.int k]/\H h=some (.tup [.int (N:Int),.ref tp])/\H tp=some (.tup xs)/\1<=N/\N<=24/\(xs.length:Int)<=k/\Q (.bl true) H
theorem Ty{a b:Nat}:(!decide ([b]<[a]:Prop))=decide (a<=b):=by
 rw[Bool.eq_iff_iff];simp only[Bool.not_eq_true',decide_eq_false_iff_not,Yh,List.cons_lt_cons_iff,List.lt_irrefl,and_false,or_false];omega
theorem V4:Aw ["thing"] ["thing"] (Ag Gn):=⟨rfl,rfl,rfl,by decide+kernel,rfl,by decide+kernel,by decide+kernel⟩
theorem Sk{f:Addr}{fd:FuncData}(F:Fun K "is_whole" "is_whole" Gn f fd)(T:Txt mg):
  FnOk P w K mg base CX0 1 f fd ["thing"] Le:=by
 refine F.ok V4 (λvs H Q E h=> ?_) (λcdv A outer s H vs Q E hr h=> ?_)
 ·obtain⟨_,rfl,_⟩:=h;rfl
 ·obtain⟨i,rfl,k⟩:=h;refine⟨_,Ah (Ao (Dj (An C1 (by rfl) T.isinstance (by decide+kernel) (Aa (pv 0) (Aa (Jn (T:="int") (by rfl) T.int (by decide+kernel)) Ac))) (Ff (Ww (An C1 (by rfl) T.isinstance (by decide+kernel) (Aa (pv 0) (Aa (Jn (T:="bool") (by rfl) T.bool (by decide+kernel)) Ac))))))),?_⟩;exact⟨_,rfl,_,_,"int",true,rfl,.int i,rfl,_,rfl,B9 ⟨_,rfl,_,_,"bool",false,rfl,.int i,rfl,_,rfl,k⟩⟩
theorem R3:Aw ["thing","low","high"] ["thing","low","high"] (Ag E3):=⟨rfl,rfl,rfl,by decide+kernel,rfl,by decide+kernel,by decide+kernel⟩
theorem Qr{f:Addr}{fd:FuncData}(F:Fun K "is_within" "is_within" E3 f fd)(T:Txt mg){gWhole:Addr}{fWhole:FuncData}(kWhole:keepIn K (.ref gWhole)=true)(bWhole:Binds K fWhole ["thing"] [])(hWhole:mg "is_whole"=some (.ref gWhole))(GWhole:FnOk P w K mg base CX0 1 gWhole fWhole ["thing"] Le):
  FnOk P w K mg base CX0 2 f fd ["thing","low","high"] Eg:=by
 refine F.ok R3 (λvs H Q E h=> ?_) (λcdv A outer s H vs Q E hr h=> ?_)
 ·obtain⟨_,_,_,rfl,_⟩:=h;rfl
 ·obtain⟨i,lo,hi,rfl,h1,h2,k⟩:=h;refine⟨_,Ah (Ao (Dj (Ai GWhole hr rfl hWhole kWhole bWhole .nil Ap (Aa (pv 0) Ac)) (Ff (Mi Kf Kf (pv 1) (pv 0) (pv 2))))),?_⟩;refine⟨_,rfl,i,rfl,_,rfl,B9 ⟨_,rfl,_,rfl,_,_,rfl,rfl,_,rfl,?_⟩⟩;rw[decide_eq_true h1];refine B9 ⟨_,rfl,_,_,rfl,rfl,?_⟩;show Q (.bl (decide (i<=hi))) H;rw[decide_eq_true h2];exact k
theorem Xl:Aw ["thing"] ["thing"] (Ag Jl):=⟨rfl,rfl,rfl,by decide+kernel,rfl,by decide+kernel,by decide+kernel⟩
theorem Uz{f:Addr}{fd:FuncData}(F:Fun K "is_name" "is_name" Jl f fd)(T:Txt mg):
  FnOk P w K mg base CX0 1 f fd ["thing"] Lu:=by
 refine F.ok Xl (λvs H Q E h=> ?_) (λcdv A outer s H vs Q E hr h=> ?_)
 ·obtain⟨_,rfl,_⟩:=h;rfl
 ·obtain⟨z,rfl,⟨c1,c2,hc⟩,k⟩:=h;obtain⟨_,hml⟩:=T.letters;refine⟨_,Ad (Be (PW.pt (Fz (Cg (Ce (An C1 (by rfl) T.isinstance (by decide+kernel) (Aa (pv 0) (Aa (Jn (T:="str") (by rfl) T.str (by decide+kernel)) Ac))))) (Eb (Cg (Rv Kf Kf Af (An K8 (by rfl) T.len PySem.boot_len (Aa (pv 0) Ac)) (Hn (by rfl) hml)))))) (Ah (Ao C0)) A0)
   (Ah (Ao (An (Ur rfl) (by rfl) T.all (by decide+kernel) (Aa (Cu (T:=["sign"]) (F:=[]) (js:=[]) (CS.to (osc:=Ag Jl) ⟨by rfl,by decide+kernel,by decide+kernel,by decide+kernel,by decide+kernel,by decide+kernel,by decide+kernel⟩ rfl rfl) rfl (Ss (pv 0)) (λ_ _ _ _ _=>Am (i:=0) (show (["sign"]:List Str).Nodup by decide+kernel) rfl (Or.inl rfl)) (λ_ _ _ _ _=>Dg) (λ_ _ _ _ _=>Mi Sw Sw Bo (pv 0) Bo)) Ac)))),?_⟩
  refine⟨_,rfl,.str z,.type "str","str",true,rfl,.str z,rfl,true,rfl,Bp ?_⟩;refine⟨_,rfl,z,rfl,A1 (by omega),_,_,rfl,rfl,_,rfl,?_⟩;rw[decide_eq_true (show (1:Int)<=(z.length:Int) by omega)];refine B9 ⟨_,_,rfl,rfl,_,rfl,?_⟩;rw[decide_eq_true (show (z.length:Int)<=8 by omega)];refine Bp ?_;dsimp only[Bj];refine⟨_,rfl,z,rfl,λD hD=>L3 (z:=z) (λi σ ys H2=>∃v,σ=[v]/\Same H H2/\H2 D=some (.lst ys)/\ys=(replicate i true).map V.bl) ⟨none,rfl,Ae hD,Ab,rfl⟩ (λi σ ys H2 _ ⟨_,_,_,e,_⟩=>e) ?_ ?_⟩
  ·rintro i c σ ys H2 hc' ⟨v,rfl,s2,e2,rfl⟩;have hil:i<z.cps.size:=(Array.getElem?_eq_some_iff.mp hc').1;have hzl:z.cps.size=z.length:=rfl;have hcm:=hc c (by rw[<-getElem?_toList] at hc';exact mem_of_getElem? hc');refine⟨_,rfl,_,_,rfl,rfl,_,rfl,?_⟩;rw[show (Str.ofString "a").cps.toList=[97] by decide,Ty,decide_eq_true hcm.1];refine B9 ⟨_,_,rfl,rfl,e2,Aq (by rw[If,List.length_replicate];omega),?_⟩;rw[show (Str.ofString "z").cps.toList=[122] by decide,Ty,decide_eq_true hcm.2];exact⟨_,rfl,A2 s2 hD,Ab,by rw[List.replicate_succ',map_append];rfl⟩
  ·rintro σ ys H2 ⟨v,rfl,s2,e2,rfl⟩;refine⟨D,replicate z.cps.size true,rfl,SqL.of e2,?_⟩;rw[show (replicate z.cps.size true).all id=true by simp];exact k H2 s2
theorem Rx:Aw ["thing"] ["thing"] (Ag E1):=⟨rfl,rfl,rfl,by decide+kernel,rfl,by decide+kernel,by decide+kernel⟩
theorem Ql{f:Addr}{fd:FuncData}(F:Fun K "is_amount" "is_amount" E1 f fd)(T:Txt mg){gWithin:Addr}{fWithin:FuncData}(kWithin:keepIn K (.ref gWithin)=true)(bWithin:Binds K fWithin ["thing","low","high"] [])(hWithin:mg "is_within"=some (.ref gWithin))(GWithin:FnOk P w K mg base CX0 2 gWithin fWithin ["thing","low","high"] Eg):
  FnOk P w K mg base CX0 3 f fd ["thing"] El:=by
 refine F.ok Rx (λvs H Q E h=> ?_) (λcdv A outer s H vs Q E hr h=> ?_)
 ·obtain⟨_,rfl,_⟩:=h;rfl
 ·obtain⟨i,rfl,i0,i1,k⟩:=h;obtain⟨_,hma⟩:=T.amount;refine⟨_,Ah (Ao (Ai GWithin hr rfl hWithin kWithin bWithin .nil Ap (Aa (pv 0) (Aa Af (Aa (Hn (by rfl) hma) Ac))))),?_⟩;exact⟨_,rfl,i,0,1000000000,rfl,i0,i1,k⟩
theorem Vl:Aw ["many","thing"] ["many","thing"] (Ag Gg):=⟨rfl,rfl,rfl,by decide+kernel,rfl,by decide+kernel,by decide+kernel⟩
theorem Ul{f:Addr}{fd:FuncData}(F:Fun K "is_place" "is_place" Gg f fd)(T:Txt mg){gWithin:Addr}{fWithin:FuncData}(kWithin:keepIn K (.ref gWithin)=true)(bWithin:Binds K fWithin ["thing","low","high"] [])(hWithin:mg "is_within"=some (.ref gWithin))(GWithin:FnOk P w K mg base CX0 2 gWithin fWithin ["thing","low","high"] Eg):
  FnOk P w K mg base CX0 3 f fd ["many","thing"] Lo:=by
 refine F.ok Vl (λvs H Q E h=> ?_) (λcdv A outer s H vs Q E hr h=> ?_)
 ·obtain⟨_,_,rfl,_⟩:=h;rfl
 ·obtain⟨m,i,rfl,i0,i1,k⟩:=h;refine⟨_,Ah (Ao (Ai GWithin hr rfl hWithin kWithin bWithin .nil Ap (Aa (pv 1) (Aa Af (Aa (Ar Ig (pv 0) Af) Ac))))),?_⟩;exact⟨_,rfl,_,rfl,_,_,rfl,rfl,i,0,m - 1,rfl,i0,by omega,k⟩
theorem scTie:Aw ["many","four","name","one","other","weight"] ["many","four"] (Ag Pr):=⟨rfl,rfl,rfl,by decide+kernel,rfl,by decide+kernel,by decide+kernel⟩
theorem Wz{f:Addr}{fd:FuncData}(F:Fun K "is_tie" "is_tie" Pr f fd)(T:Txt mg){gName:Addr}{fName:FuncData}(kName:keepIn K (.ref gName)=true)(bName:Binds K fName ["thing"] [])(hName:mg "is_name"=some (.ref gName))(GName:FnOk P w K mg base CX0 3 gName fName ["thing"] Lu){gAmount:Addr}{fAmount:FuncData}(kAmount:keepIn K (.ref gAmount)=true)(bAmount:Binds K fAmount ["thing"] [])(hAmount:mg "is_amount"=some (.ref gAmount))(GAmount:FnOk P w K mg base CX0 3 gAmount fAmount ["thing"] El){gPlace:Addr}{fPlace:FuncData}(kPlace:keepIn K (.ref gPlace)=true)(bPlace:Binds K fPlace ["many","thing"] [])(hPlace:mg "is_place"=some (.ref gPlace))(GPlace:FnOk P w K mg base CX0 3 gPlace fPlace ["many","thing"] Lo):
  FnOk P w K mg base CX0 4 f fd ["many","four"] Ui:=by
 refine F.ok scTie (λvs H Q E h=> ?_) (λcdv A outer s H vs Q E hr h=> ?_)
 ·obtain⟨_,_,_,rfl,_⟩:=h;rfl
 ·obtain⟨N,r,t,rfl,hr0,nk,tk,w0,w1,k⟩:=h;refine⟨_,Ad (C4 (pv 1) (C5 rfl (Az (Am (i:=2) scTie.nd rfl (Or.inl rfl)) (Az (Am (i:=3) scTie.nd rfl (Or.inl rfl)) (Az (Am (i:=4) scTie.nd rfl (Or.inl rfl)) (Az (Am (i:=5) scTie.nd rfl (Or.inl rfl)) Ch))))))
   (Ad (Be (PW.pt (Fz (Cg (Ce (Ai GName hr rfl hName kName bName .nil Ap (Aa (pv 2) Ac)))) (Eb (Cg (Ce (Ai GAmount hr rfl hAmount kAmount bAmount .nil Ap (Aa (pv 5) Ac))))))) (Ah (Ao C0)) A0)
   (Ah (Ao (Dj (Ai GPlace hr rfl hPlace kPlace bPlace .nil Ap (Aa (pv 0) (Aa (pv 3) Ac))) (Dj (Ai GPlace hr rfl hPlace kPlace bPlace .nil Ap (Aa (pv 0) (Aa (pv 4) Ac))) (Ff (Br L0 (pv 3) (pv 4) (Av _)))))))),?_⟩
  obtain⟨t1,t2,t3⟩:=tk;refine⟨_,rfl,r,_,rfl,SqT.of hr0,rfl,_,_,rfl,_,_,rfl,_,_,rfl,_,_,rfl,rfl,?_⟩;refine⟨_,rfl,t.1,rfl,nk,λH1 s1=>⟨_,rfl,Bp ?_⟩⟩;refine⟨_,rfl,_,rfl,w0,w1,_,rfl,Bp ?_⟩;dsimp only[Bj];refine⟨_,rfl,_,rfl,_,_,rfl,by omega,by omega,_,rfl,B9 ?_⟩;refine⟨_,rfl,_,rfl,_,_,rfl,by omega,by omega,_,rfl,B9 ?_⟩;refine⟨_,rfl,_,rfl,rfl,?_⟩;have:(decide (V.int (t.2.1:Int)=V.int (t.2.2.1:Int)))=false:=decide_eq_false (by intro z;injection z with z;omega);rw[this];exact k H1 s1
theorem scShape:Aw ["thing","most","many","rows"] ["thing","most"] (Ag Gp):=⟨rfl,rfl,rfl,by decide+kernel,rfl,by decide+kernel,by decide+kernel⟩
theorem Td{f:Addr}{fd:FuncData}(F:Fun K "has_shape" "has_shape" Gp f fd)(T:Txt mg){gWithin:Addr}{fWithin:FuncData}(kWithin:keepIn K (.ref gWithin)=true)(bWithin:Binds K fWithin ["thing","low","high"] [])(hWithin:mg "is_within"=some (.ref gWithin))(GWithin:FnOk P w K mg base CX0 2 gWithin fWithin ["thing","low","high"] Eg):
  FnOk P w K mg base CX0 3 f fd ["thing","most"] Ku:=by
 refine F.ok scShape (λvs H Q E h=> ?_) (λcdv A outer s H vs Q E hr h=> ?_)
 ·obtain⟨_,_,_,_,_,rfl,_⟩:=h;rfl
 ·obtain⟨h,tp,N,xs,q,rfl,hh,ht,N1,N24,hl,k⟩:=h;obtain⟨_,hmp⟩:=T.places;refine⟨_,Ad (Be (PW.pt (Fz (Cg (Ce (An C1 (by rfl) T.isinstance (by decide+kernel) (Aa (pv 0) (Aa (Jn (T:="tuple") (by rfl) T.tuple (by decide+kernel)) Ac))))) (Eb (As L0 (An A7 (by rfl) T.len PySem.boot_len (Aa (pv 0) Ac)) Af (Av _))))) (Ah (Ao C0)) A0)
   (Ad (C4 (pv 0) (C5 rfl (Az (Am (i:=2) scShape.nd rfl (Or.inl rfl)) (Az (Am (i:=3) scShape.nd rfl (Or.inl rfl)) Ch))))
   (Ah (Ao (Dj (Ai GWithin hr rfl hWithin kWithin bWithin .nil Ap (Aa (pv 2) (Aa Af (Aa (Hn (by rfl) hmp) Ac)))) (Dj (An C1 (by rfl) T.isinstance (by decide+kernel) (Aa (pv 3) (Aa (Jn (T:="tuple") (by rfl) T.tuple (by decide+kernel)) Ac))) (Ff (Br Kf (An A7 (by rfl) T.len PySem.boot_len (Aa (pv 3) Ac)) (pv 1) (Av _)))))))),?_⟩
  refine⟨_,rfl,.ref h,.type "tuple","tuple",true,rfl,.tup hh,rfl,_,rfl,Bp ?_⟩;refine⟨_,rfl,h,_,rfl,.inr (SqT.of hh),rfl,_,rfl,Cy (λg=>absurd g (by simp)) λ_=> ?_⟩;dsimp only[Bj];refine⟨_,rfl,h,_,rfl,SqT.of hh,rfl,_,_,rfl,_,_,rfl,rfl,?_⟩;refine⟨_,rfl,_,1,24,rfl,by omega,by omega,_,rfl,B9 ?_⟩;refine⟨_,rfl,.ref tp,.type "tuple","tuple",true,rfl,.tup ht,rfl,_,rfl,B9 ?_⟩;refine⟨_,rfl,tp,_,rfl,.inr (SqT.of ht),_,rfl,_,_,rfl,rfl,?_⟩;rw[decide_eq_true hl];exact k
def Fq:Sp:=λvs H Q _=>∃(h:Addr) (N:Nat) (ds:List Dd) (n:Nat),vs=[.ref h,.int (n:Int)]/\HistAt H h N ds/\Right N ds/\n<=ds.length/\∀st S H',Same H H'->StandT H' st S->Vx S (thr (ds.take n))->Q (.ref st) H'
theorem Oc{H H':Hp}{qs qs':List Srt.Row}{S:List T4}{st:Addr}(hat:∀q∈qs,Wp q.2/\H q.1=some (.tup (q.2.map kV)))(hS:(qs.map λq=>Idq q.2).Perm S)(perm:qs'.Perm qs)(srt:qs'.Pairwise λa b=>Srt.ltR b.2 a.2=false)(s:Same H H')(hst:H' st=some (.tup (qs'.map Srt.rRef))):
  StandT H' st (qs'.map λq=>Idq q.2)/\Vx (qs'.map λq=>Idq q.2) S:=by
 have hk:∀q∈qs',B8 (Idq q.2)=q.2:=λq hq=>by
  obtain⟨⟨t,e⟩,_⟩:=hat q (perm.mem_iff.mp hq);rw[e,C7]
 refine⟨⟨qs'.map (·.1),?_,?_⟩,(perm.map _).trans hS,?_⟩
 ·have:(qs'.map (·.1)).map V.ref=qs'.map Srt.rRef:=by rw[map_map];rfl
  rw[this];exact hst
 ·refine⟨by simp,λi a t ha ht=> ?_⟩;obtain⟨q,hq,rfl⟩:=map_some ha;rw[getElem?_map,hq] at ht;cases ht;obtain⟨⟨t,e⟩,h9⟩:=hat q (perm.mem_iff.mp (mem_of_getElem? hq));show _=some (HO.tup (Cm (Idq q.2)));rw[e,C7,<-Pw,<-e];exact s _ _ h9
 ·rw[Yt];refine srt.imp_of_mem λ{a b} ha hb h=> ?_;rw[hk a ha,hk b hb];exact h
theorem dvs1(d:Dd):d.vs[1]? =some (.int d.mo):=by cases d<;> rfl
def Er:Sp:=λvs H Q _=>∃(h:Addr) (N:Nat) (ds:List Dd) (m:Int),vs=[.ref h,.int m]/\HistAt H h N ds/\ds.length<=60/\∀H',Same H H'->Q (.int (cntF ds m:Int)) H'
def Jj:Sp:=λvs H Q _=>∃(h:Addr) (N:Nat) (ds:List Dd) (m:Int),vs=[.ref h,.int m]/\HistAt H h N ds/\Right N ds/\∀(st:Addr) (S:List T4) (H':Hp),Same H H'->StandT H' st S->Vx S (thr (ds.take (cntF ds m)))->Q (.ref st) H'
theorem scStandB:Aw ["history","n","there","deed","name"] ["history","n"] (Ag Ev):=⟨rfl,rfl,rfl,by decide+kernel,rfl,by decide+kernel,by decide+kernel⟩
theorem Qc{f:Addr}{fd:FuncData}(F:Fun K "stand_behind" "stand_behind" Ev f fd)(T:Txt mg):
  FnOk P w K mg base CX0 1 f fd ["history","n"] Fq:=by
 refine F.ok scStandB (λvs H Q E h=> ?_) (λcdv A outer s H vs Q E hr h=> ?_)
 ·obtain⟨_,_,_,_,rfl,_⟩:=h;rfl
 ·obtain⟨h,N,ds,n,rfl,⟨tp,rs,eh,et,hdd⟩,hR,hn,k⟩:=h;refine⟨_,Ad (Al (i:=2) scStandB.nd rfl (Or.inl rfl) Dr)
   (Ad (Ea PassesOwn.never rfl (Ec (PE.imp' (t':=R4 K 0 1) (Cb Ft (Ax A3 (pv 0) Af (λ_ _=>rfl)) Cv (Cj (pv 1))) R0)) (Am (i:=3) scStandB.nd rfl (Or.inl rfl)) (Ad (Al (i:=4) scStandB.nd rfl (Or.inl rfl) (Ax A3 (pv 3) Af (λ_ _=>rfl)))
   (Ah (Be (As Cd (Ax A3 (pv 3) Af (λ_ _=>rfl)) Bo (Av _)) (Ah (Hj (G5 hr) (pv 2) (pv 4) (Cb Kx (pv 3) (Cj Af) Cv) rfl)) (Ah (Vr (pv 2) (pv 4)))))))
   (Ah (Ao (Bd A9 (by rfl) T.tuple (by decide+kernel) (Aa (An (Srt.call_sortedV rfl) (by rfl) T.sorted (by decide+kernel) (Aa (Srt.pe_dvals (pv 2) rfl rfl) Ac)) Ac))))),?_⟩
  refine λth hth=> ?_;have s1:=Ae (o:= .dK []) hth;have d1:=Ab (H:=H) (a:=th) (o:= .dK []);generalize upd H th (.dK [])=H1 at s1 d1;have lrs:=hdd.1;refine⟨h,tp,_,n,rs.map V.ref,rfl,rfl,s1 _ _ eh,s1 _ _ et,by rw[If];omega,λp0 H2 s2 hp0=> ?_⟩;rw[<-map_take] at hp0;have n60:=hR.len;refine⟨p0,rfl,⟨_,SqT.of hp0⟩,K7 (K:=K) (a:=p0) (xs:=(rs.take n).map V.ref) (λi σ H3=>∃(x3 x4:Option V) (ps:Ps),σ=[some (.ref h),some (.int (n:Int)),some (.ref th),x3,x4]/\Same H H3/\H3 p0=some (.tup ((rs.take n).map V.ref))/\ThF H3 th ps/\ps.map (·.1)=thr (ds.take i)) ⟨none,none,[],rfl,s1.trans s2,hp0,⟨s2 _ _ d1,by simp⟩,rfl⟩ (λi σ H3 _ ⟨_,_,_,_,_,e,_⟩=>SqT.of e) ?_ ?_⟩
  ·rintro i x σ H3 hx ⟨x3,x4,ps,rfl,s3,p3,T3,fs⟩;obtain⟨r,er,rfl⟩:=map_some hx;have li:i<n:=by have:=(List.getElem?_eq_some_iff.mp er).1;rw[Yo] at this;omega
   rw[List.getElem?_take_of_lt li] at er;obtain⟨dd,ed,r0⟩:=hdd.get er;have r3:=s3 _ _ r0;have hok:=hR.ok i dd ed;have tl:=De ds i;have pl:ps.length<=60:=by rw[<-If (f:=(·.1)),fs];omega
   have tok:=Ja hR i (by omega);rw[Bb ed,Cc];cases dd with
   |come m t=>
    have nf:t.1 ∉ ps.map (·.1.1):=by rw[<-Ej,fs];exact hok.1
    refine⟨_,rfl,r,_,2,_,rfl,rfl,SqT.of r3,Ak (j:=2) rfl,?_⟩;refine⟨_,rfl,r,_,0,_,rfl,rfl,SqT.of r3,Ak (j:=0) rfl,rfl,_,rfl,B9 ?_⟩;refine⟨_,rfl,_,rfl,r,_,rfl,SqT.of r3,(λq=>absurd (show (2:Nat)=0 from q.1) (by decide)),λp hp=> ?_⟩;have ec:Da (Dd.come m t).vs (some 2) none=Cm t:=rfl;rw[ec];have s4:=Ae (o:= .tup (Cm t)) hp;have p4:=Ab (H:=H3) (a:=p) (o:= .tup (Cm t));generalize upd H3 p (.tup (Cm t))=H4 at s4 p4;have d4:=s4 _ _ T3.1;refine⟨_,rfl,_,rfl,th,_,rfl,DPut.k (k:=Sum.inr t.1) d4 (Aq (by unfold psK;rw[If];omega)),?_⟩;rw[Pd nf];refine⟨_,_,ps++[(t,p)],rfl,A2 (s3.trans s4) hth,by rw[Aj (A5 (s4 _ _ p3) d4 (by intro z;cases z))];exact s4 _ _ p3,⟨Ab,λq hq=> ?_⟩,by rw[map_append,fs];rfl⟩;rcases mem_append.mp hq with hq|hq
    ·rw[Aj (A5 (s4 _ _ (T3.2 q hq)) d4 (by intro z;cases z))];exact s4 _ _ (T3.2 q hq)
    ·rw[mem_singleton.mp hq,Aj (A5 p4 d4 (by intro z;cases z))];exact p4
   |go m nn=>
    refine⟨_,rfl,r,_,2,_,rfl,rfl,SqT.of r3,Ak (j:=2) rfl,?_⟩;refine⟨_,rfl,r,_,0,_,rfl,rfl,SqT.of r3,Ak (j:=0) rfl,rfl,_,rfl,Bp ?_⟩;have hin:(Bw (psK ps) (Sum.inr nn)).isSome=true:=by
     rw[Pl,Yh,<-Ej,fs];exact hok
    refine⟨_,rfl,_,rfl,th,_,Sum.inr nn,rfl,T3.1,rfl,hin,?_⟩;rw[Jb];refine⟨_,_,ps.filter (λp=>decide (p.1.1≠nn)),rfl,A2 s3 hth,by rw[Aj (A5 p3 T3.1 (by intro z;cases z))];exact p3,⟨Ab,λq hq=> ?_⟩,by rw[O1,fs];rfl⟩;rw[Aj (A5 (T3.2 q (mem_filter.mp hq).1) T3.1 (by intro z;cases z))];exact T3.2 q (mem_filter.mp hq).1
  ·rintro σ H3 ⟨x3,x4,ps,rfl,s3,p3,T3,fs⟩;have en:((rs.take n).map V.ref).length=n:=by rw[If,Yo];omega
   rw[en] at fs;have tl:=De ds n;have pl:ps.length<=60:=by rw[<-If (f:=(·.1)),fs];omega
   refine⟨_,rfl,th,_,rfl,T3.1,λv hv=> ?_⟩;have s4:=Ae (o:= .frz (Srt.viewO th) (.own 0)) hv;have v4:=Ab (H:=H3) (a:=v) (o:= .frz (Srt.viewO th) (.own 0));generalize upd H3 v (.frz (Srt.viewO th) (.own 0))=H4 at s4 v4;have hat:∀q∈ps.map (λp=>((p.2,B8 p.1):Srt.Row)),Wp q.2/\H4 q.1=some (.tup (q.2.map kV)):=λq hq=>by
    obtain⟨p,hp,rfl⟩:=mem_map.mp hq;exact⟨⟨_,rfl⟩,s4 _ _ (T3.2 p hp)⟩
   refine⟨v,th,psK ps,ps.map (λp=>((p.2,B8 p.1):Srt.Row)),rfl,v4,s4 _ _ T3.1,?_,⟨λq hq=>SqT.of (hat q hq).2,λq hq q' hq'=> ?_,λq hq=> ?_,by rw[If];omega⟩,λl ps' hl pp pw=> ?_⟩
   ·unfold psK;rw[map_map,map_map];rfl
   ·obtain⟨⟨t,e⟩,_⟩:=hat q hq;obtain⟨⟨t',e'⟩,_⟩:=hat q' hq';rw[e,e'];rfl
   ·obtain⟨⟨t,e⟩,_⟩:=hat q hq;rw[e];simp[B8]
   have sl:=Ae (o:= .lst (ps'.map Srt.rRef)) hl;have l5:=Ab (H:=H4) (a:=l) (o:= .lst (ps'.map Srt.rRef));generalize upd H4 l (.lst (ps'.map Srt.rRef))=H5 at sl l5;refine⟨l,_,rfl,.inl ⟨SqL.of l5,λst hst=> ?_⟩⟩;have ss:=Ae (o:= .tup (ps'.map Srt.rRef)) hst;have hS:((ps.map (λp=>((p.2,B8 p.1):Srt.Row))).map λq=>Idq q.2).Perm (thr (ds.take n)):=by
    rw[map_map,<-fs];refine List.Perm.of_eq (map_congr_left λp _=>C7 p.1)
   obtain⟨x1,x2⟩:=Oc hat hS pp pw (sl.trans ss) Ab;exact k st _ _ (((s3.trans s4).trans sl).trans ss) x1 x2
theorem P2:Aw ["history","moment"] ["history","moment"] (Ag C9):=⟨rfl,rfl,rfl,by decide+kernel,rfl,by decide+kernel,by decide+kernel⟩
theorem Nu{f:Addr}{fd:FuncData}(F:Fun K "deeds_by" "deeds_by" C9 f fd)(T:Txt mg):
  FnOk P w K mg base CX0 1 f fd ["history","moment"] Er:=by
 refine F.ok P2 (λvs H Q E h=> ?_) (λcdv A outer s H vs Q E hr h=> ?_)
 ·obtain⟨_,_,_,_,rfl,_⟩:=h;rfl
 ·obtain⟨h,N,ds,m,rfl,hh,d60,k⟩:=h;refine⟨_,Ah (Ao (An A7 (by rfl) T.len PySem.boot_len (Aa (Cu (T:=["deed"]) (F:=["moment"]) (js:=[1]) (CS.to (osc:=Ag C9) ⟨by rfl,by decide+kernel,by decide+kernel,by decide+kernel,by decide+kernel,by decide+kernel,by decide+kernel⟩ rfl rfl) rfl (Ec (Ax A3 (pv 0) Af (λ_ _=>rfl))) (λ_ _ _ _ _=>Am (i:=0) (show (["deed","moment"]:List Str).Nodup by decide+kernel) rfl (Or.inl rfl)) (λ_ _ _ _ _=>Dh (As Kf (Ax (r:=V5 K) A3 (pv 0) Af (λ_ _=>rfl)) (pv 1) (Av _))) (λ_ _ _ _ _=>pv 0)) Ac))),?_⟩;obtain⟨tp,rs,eh,et,hdd⟩:=id hh;refine⟨_,rfl,h,_,1,_,rfl,rfl,SqT.of eh,Ak (j:=1) rfl,tp,rfl,⟨_,SqT.of et⟩,λD hD=>Dq (K:=K) (a:=tp) (xs:=rs.map V.ref) (λj σ ys H6=>∃(u:Option V) (fs:List Addr),σ=[u,some (.int m)]/\ys=fs.map V.ref/\H6=upd H D (.lst ys)/\fs.length=((ds.take j).filter λd=>decide (d.mo<=m)).length) ⟨none,[],rfl,rfl,rfl,rfl⟩ (λj σ ys H6 _ ⟨_,_,_,_,e,_⟩=>by rw[e];exact⟨SqT.of (by rw[Aj (Ay et hD)];exact et),Ab⟩) ?_ ?_⟩
  ·rintro j x σ ys H6 hx ⟨u,fs,rfl,rfl,rfl,fl⟩;obtain⟨r,hr',rfl⟩:=map_some hx;obtain⟨d,hd,er⟩:=hdd.get hr';have er6:=Ae (o:= .lst (fs.map V.ref)) hD _ _ er;have tk:=Bb hd;have fl60:fs.length<=60:=by
    have:=Yq (λd:Dd=>decide (d.mo<=m)) (ds.take j);rw[Yo] at this;omega
   refine⟨_,rfl,r,_,1,_,rfl,rfl,SqT.of er6,Ak (j:=1) (dvs1 d),_,rfl,_,_,rfl,rfl,_,rfl,?_⟩;by_cases g:d.mo<=m
   ·rw[decide_eq_true g];refine B9 ⟨_,rfl,Ab,Aq (by rw[If];omega),_,fs++[r],rfl,by rw[map_append];rfl,by rw[Ld],?_⟩;rw[tk,filter_append,Yk,Yk,fl,Zj (by simpa using g)];rfl
   ·rw[decide_eq_false g];refine Bp ⟨_,fs,rfl,rfl,rfl,?_⟩;rw[tk,filter_append,Yk,fl,Zk (by simpa using g)];rfl
  ·rintro σ ys H6 ⟨u,fs,rfl,rfl,rfl,fl⟩;rw[If,hdd.1,Yv] at fl;refine⟨D,_,rfl,.inl (SqL.of Ab),?_⟩;have:=k _ (Ae (o:= .lst (fs.map V.ref)) hD);unfold cntF at this;rw[<-fl] at this;rw[If];exact this
theorem Si:Aw ["history","moment"] ["history","moment"] (Ag Et):=⟨rfl,rfl,rfl,by decide+kernel,rfl,by decide+kernel,by decide+kernel⟩
theorem P6{f:Addr}{fd:FuncData}(F:Fun K "stand_at" "stand_at" Et f fd)(T:Txt mg){gStandB:Addr}{fStandB:FuncData}(kStandB:keepIn K (.ref gStandB)=true)(bStandB:Binds K fStandB ["history","n"] [])(hStandB:mg "stand_behind"=some (.ref gStandB))(GStandB:FnOk P w K mg base CX0 1 gStandB fStandB ["history","n"] Fq){gDeedsBy:Addr}{fDeedsBy:FuncData}(kDeedsBy:keepIn K (.ref gDeedsBy)=true)(bDeedsBy:Binds K fDeedsBy ["history","moment"] [])(hDeedsBy:mg "deeds_by"=some (.ref gDeedsBy))(GDeedsBy:FnOk P w K mg base CX0 1 gDeedsBy fDeedsBy ["history","moment"] Er):
  FnOk P w K mg base CX0 2 f fd ["history","moment"] Jj:=by
 refine F.ok Si (λvs H Q E h=> ?_) (λcdv A outer s H vs Q E hr h=> ?_)
 ·obtain⟨_,_,_,_,rfl,_⟩:=h;rfl
 ·obtain⟨h,N,ds,m,rfl,hh,hR,k⟩:=h;refine⟨_,Ah (Ao (Ai GStandB hr rfl hStandB kStandB bStandB .nil Ap (Aa (pv 0) (Aa (Ai GDeedsBy hr rfl hDeedsBy kDeedsBy bDeedsBy .nil Ap (Aa (pv 0) (Aa (pv 1) Ac))) Ac)))),?_⟩;have d60:=hR.len;refine⟨_,rfl,_,rfl,_,rfl,h,N,ds,m,rfl,hh,d60,λH1 s1=> ?_⟩;exact⟨h,N,ds,cntF ds m,rfl,hh.same s1,hR,Xu ds m,λst S H2 s2 hs so=>k st S H2 (s1.trans s2) hs so⟩
def Ge:Dd->Bool
 | .come _ _=>true
 | .go _ _=>false
def DdF(N:Nat)(d:Dd):Prop:=A8 d.nm/\(0<=d.mo/\d.mo<=1000000000)/\∀m t,d= .come m t->E7 N t/\0<=t.2.2.2/\t.2.2.2<=1000000000
def Ib:Sp:=λvs H Q _=>∃(N:Nat) (r:Addr) (d:Dd),vs=[.int (N:Int),.ref r]/\H r=some (.tup d.vs)/\DdF N d/\∀H',Same H H'->Q (.bl (Ge d)) H'
def Kt:Sp:=λvs H Q _=>∃(r:Addr) (m:Int) (n:Str),vs=[.ref r]/\H r=some (.tup (Dd.go m n).vs)/\A8 n/\0<=m/\m<=1000000000/\∀H',Same H H'->Q (.bl true) H'
def La:Sp:=λvs H Q _=>∃(N:Nat) (x:Int) (th r:Addr) (d:Dd) (kvs:List (Key×V)),vs=[.int (N:Int),.int x,.ref th,.ref r]/\H r=some (.tup d.vs)/\DdF N d/\x<=d.mo/\H th=some (.dK kvs)/\(Bw kvs (Sum.inr d.nm)).getD (.bl false)= .bl (!Ge d)/\∀H',Same H H'->Q .non H'
def K4:Sp:=λvs H Q _=>∃(h:Addr) (N:Nat) (ds:List Dd),vs=[.ref h]/\HistAt H h N ds/\Right N ds/\(∀x∈ds,A8 x.nm)/\1<=N/\N<=24/\∀H',Same H H'->Q (.bl true) H'
theorem mo_at{N:Nat}{ds:List Dd}(h:Right N ds){i j:Nat}{d e:Dd}(hi:ds[i]? =some d)(hj:ds[j]? =some e)(l:i<j):d.mo<=e.mo:=by
 have:=Y3.mp h.up i j (List.getElem?_eq_some_iff.mp hi).1 (List.getElem?_eq_some_iff.mp hj).1 l;rw[(List.getElem?_eq_some_iff.mp hi).2,(List.getElem?_eq_some_iff.mp hj).2] at this;exact this
theorem U4{N:Nat}{ds:List Dd}(h:Right N ds){i:Nat}{d:Dd}(e:ds[i]? =some d)(n:Str):(n∈(thr (ds.take (i+1))).map (·.1))↔if n=d.nm then Ge d=true else n∈(thr (ds.take i)).map (·.1):=by
 rw[Bb e,Cc];cases d with
 |come m t=>
  show n∈(thr (ds.take i)++[t]).map (·.1)↔if n=t.1 then true=true else _
  rw[map_append,mem_append];by_cases q:n=t.1
  ·rw[Yf q];simp[q]
  ·rw[Lt q];simp[q]
 |go m x=>
  show n∈((thr (ds.take i)).filter λt=>decide (t.1≠x)).map (·.1)↔if n=x then false=true else _
  by_cases q:n=x
  ·rw[Yf q];simp[q]
  ·rw[Lt q];simp only[mem_map,mem_filter,Yh];constructor
   ·rintro⟨t,⟨ht,_⟩,e⟩;exact⟨t,ht,e⟩
   ·rintro⟨t,ht,e⟩;exact⟨t,⟨ht,by rw[e];exact q⟩,e⟩
theorem Xr{N:Nat}{ds:List Dd}(h:Right N ds){i:Nat}{d:Dd}(e:ds[i]? =some d)(n:Str):decide (n∈(thr (ds.take (i+1))).map (·.1))=if n=d.nm then Ge d else decide (n∈(thr (ds.take i)).map (·.1)):=by
 have t:=U4 h e n;by_cases q:n=d.nm
 ·rw[Yf q] at t ⊢;cases hc:Ge d with
  |false=>exact decide_eq_false λz=>by have:=t.mp z;rw[hc] at this;cases this
  |true=>exact decide_eq_true (t.mpr hc)
 ·rw[Lt q] at t ⊢;exact decide_eq_decide.mpr t
theorem Vg{N:Nat}{ds:List Dd}(h:Right N ds){i:Nat}{d:Dd}(e:ds[i]? =some d):decide (d.nm∈(thr (ds.take i)).map (·.1))= !Ge d:=by
 have:=h.ok i d e;cases d with
 |come m t=>exact decide_eq_false this.1
 |go m x=>exact decide_eq_true this
theorem X0{N:Nat}{ds:List Dd}(h:Right N ds)(z:∀x∈ds,A8 x.nm){i:Nat}{d:Dd}(e:ds[i]? =some d):DdF N d:=by
 have m:=mem_of_getElem? e;refine⟨z d m,h.mo d m,λm' t q=> ?_⟩;subst q;exact⟨(h.ok i _ e).2,h.wt m' t m⟩
theorem S5:Aw ["many","thing"] ["many","thing"] (Ag E4):=⟨rfl,rfl,rfl,by decide+kernel,rfl,by decide+kernel,by decide+kernel⟩
theorem P0{f:Addr}{fd:FuncData}(F:Fun K "is_coming" "is_coming" E4 f fd)(T:Txt mg){gAmount:Addr}{fAmount:FuncData}(kAmount:keepIn K (.ref gAmount)=true)(bAmount:Binds K fAmount ["thing"] [])(hAmount:mg "is_amount"=some (.ref gAmount))(GAmount:FnOk P w K mg base CX0 4 gAmount fAmount ["thing"] El){gTie:Addr}{fTie:FuncData}(kTie:keepIn K (.ref gTie)=true)(bTie:Binds K fTie ["many","four"] [])(hTie:mg "is_tie"=some (.ref gTie))(GTie:FnOk P w K mg base CX0 4 gTie fTie ["many","four"] Ui):
  FnOk P w K mg base CX0 5 f fd ["many","thing"] Ib:=by
 refine F.ok S5 (λvs H Q E h=> ?_) (λcdv A outer s H vs Q E hr h=> ?_)
 ·obtain⟨_,_,_,rfl,_⟩:=h;rfl
 ·obtain⟨N,r,d,rfl,h0,⟨nk,⟨m0,m1⟩,hc⟩,k⟩:=h;refine⟨_,Ad (Be (PW.pt (Fz (Cg (Ce (An C1 (by rfl) T.isinstance (by decide+kernel) (Aa (pv 1) (Aa (Jn (T:="tuple") (by rfl) T.tuple (by decide+kernel)) Ac))))) (Eb (As L0 (An A7 (by rfl) T.len PySem.boot_len (Aa (pv 1) Ac)) Af (Av _))))) (Ah (Ao C0)) A0)
   (Ah (Ao (Dj (Br Cd (Ax A3 (pv 1) Af (λ_ _=>rfl)) Bo (Av _)) (Dj (Ai GAmount hr rfl hAmount kAmount bAmount .nil Ap (Aa (Ax A3 (pv 1) Af (λ_ _=>rfl)) Ac)) (Ff (Ai GTie hr rfl hTie kTie bTie .nil Ap (Aa (pv 0) (Aa (Cb Kx (pv 1) (Cj Af) Cv) Ac)))))))),?_⟩
  refine⟨_,rfl,.ref r,.type "tuple","tuple",true,rfl,.tup h0,rfl,_,rfl,Bp ?_⟩;cases d with
  |go m n=>
   refine⟨_,rfl,r,_,rfl,.inr (SqT.of h0),rfl,_,rfl,B9 ?_⟩;exact k H (Cn H)
  |come m t=>
   obtain⟨tk,w0,w1⟩:=hc m t rfl;refine⟨_,rfl,r,_,rfl,.inr (SqT.of h0),rfl,_,rfl,Bp ?_⟩;dsimp only[Bj];refine⟨_,rfl,r,_,0,_,rfl,rfl,SqT.of h0,Ak (j:=0) rfl,rfl,_,rfl,B9 ?_⟩;refine⟨_,rfl,r,_,1,_,rfl,rfl,SqT.of h0,Ak (j:=1) rfl,m,rfl,m0,m1,_,rfl,B9 ?_⟩;refine⟨_,rfl,_,rfl,_,rfl,r,_,rfl,SqT.of h0,(λq=>absurd (show (2:Nat)=0 from q.1) (by decide)),λp hp=> ?_⟩;have ec:Da (Dd.come m t).vs (some 2) none=Cm t:=rfl;rw[ec];have sp:=Ae (o:= .tup (Cm t)) hp;exact⟨N,p,t,rfl,Ab,nk,tk,w0,w1,λH2 s2=>k H2 (sp.trans s2)⟩
theorem scGoing:Aw ["thing","word","moment","name"] ["thing"] (Ag Gy):=⟨rfl,rfl,rfl,by decide+kernel,rfl,by decide+kernel,by decide+kernel⟩
theorem Um{f:Addr}{fd:FuncData}(F:Fun K "is_going" "is_going" Gy f fd)(T:Txt mg){gAmount:Addr}{fAmount:FuncData}(kAmount:keepIn K (.ref gAmount)=true)(bAmount:Binds K fAmount ["thing"] [])(hAmount:mg "is_amount"=some (.ref gAmount))(GAmount:FnOk P w K mg base CX0 3 gAmount fAmount ["thing"] El){gName:Addr}{fName:FuncData}(kName:keepIn K (.ref gName)=true)(bName:Binds K fName ["thing"] [])(hName:mg "is_name"=some (.ref gName))(GName:FnOk P w K mg base CX0 3 gName fName ["thing"] Lu):
  FnOk P w K mg base CX0 4 f fd ["thing"] Kt:=by
 refine F.ok scGoing (λvs H Q E h=> ?_) (λcdv A outer s H vs Q E hr h=> ?_)
 ·obtain⟨_,_,_,rfl,_⟩:=h;rfl
 ·obtain⟨r,m,n,rfl,h0,nk,m0,m1,k⟩:=h;refine⟨_,Ad (Be (PW.pt (Fz (Cg (Ce (An C1 (by rfl) T.isinstance (by decide+kernel) (Aa (pv 0) (Aa (Jn (T:="tuple") (by rfl) T.tuple (by decide+kernel)) Ac))))) (Eb (As L0 (An A7 (by rfl) T.len PySem.boot_len (Aa (pv 0) Ac)) Af (Av _))))) (Ah (Ao C0)) A0)
   (Ad (C4 (pv 0) (C5 rfl (Az (Am (i:=1) scGoing.nd rfl (Or.inl rfl)) (Az (Am (i:=2) scGoing.nd rfl (Or.inl rfl)) (Az (Am (i:=3) scGoing.nd rfl (Or.inl rfl)) Ch)))))
   (Ah (Ao (Dj (Br Cd (pv 1) Bo (Av _)) (Dj (Ai GAmount hr rfl hAmount kAmount bAmount .nil Ap (Aa (pv 2) Ac)) (Ff (Ai GName hr rfl hName kName bName .nil Ap (Aa (pv 3) Ac)))))))),?_⟩
  refine⟨_,rfl,.ref r,.type "tuple","tuple",true,rfl,.tup h0,rfl,_,rfl,Bp ?_⟩;refine⟨_,rfl,r,_,rfl,.inr (SqT.of h0),rfl,_,rfl,Bp ?_⟩;dsimp only[Bj];refine⟨_,rfl,r,_,rfl,SqT.of h0,rfl,_,_,rfl,_,_,rfl,_,_,rfl,rfl,?_⟩;refine⟨_,rfl,rfl,_,rfl,B9 ?_⟩;refine⟨_,rfl,m,rfl,m0,m1,_,rfl,B9 ?_⟩;exact⟨_,rfl,n,rfl,nk,k⟩
theorem scFault:Aw ["many","ahead","there","thing","is_there"] ["many","ahead","there","thing"] (Ag Gf):=⟨rfl,rfl,rfl,by decide+kernel,rfl,by decide+kernel,by decide+kernel⟩
theorem Ue{f:Addr}{fd:FuncData}(F:Fun K "deed_fault" "deed_fault" Gf f fd)(T:Txt mg){gComing:Addr}{fComing:FuncData}(kComing:keepIn K (.ref gComing)=true)(bComing:Binds K fComing ["many","thing"] [])(hComing:mg "is_coming"=some (.ref gComing))(GComing:FnOk P w K mg base CX0 5 gComing fComing ["many","thing"] Ib){gGoing:Addr}{fGoing:FuncData}(kGoing:keepIn K (.ref gGoing)=true)(bGoing:Binds K fGoing ["thing"] [])(hGoing:mg "is_going"=some (.ref gGoing))(GGoing:FnOk P w K mg base CX0 5 gGoing fGoing ["thing"] Kt):
  FnOk P w K mg base CX0 6 f fd ["many","ahead","there","thing"] La:=by
 refine F.ok scFault (λvs H Q E h=> ?_) (λcdv A outer s H vs Q E hr h=> ?_)
 ·obtain⟨_,_,_,_,_,_,rfl,_⟩:=h;rfl
 ·obtain⟨N,x,th,r,d,kvs,rfl,h0,hf,hm,hd,hv,k⟩:=h;refine⟨_,Ad (Be (PW.pt (Ir (Cg (Ce (Ai GComing hr rfl hComing kComing bComing .nil Ap (Aa (pv 0) (Aa (pv 3) Ac))))) (Ga (Cg (Ce (Ai GGoing hr rfl hGoing kGoing bGoing .nil Ap (Aa (pv 3) Ac))))))) (Ah (Ao Bo)) A0)
   (Ad (Be (As Uh (Ax A3 (pv 3) Af (λ_ _=>rfl)) (pv 1) (Av _)) (Ah (Ao Bo)) A0)
   (Ad (Al (i:=4) scFault.nd rfl (Or.inl rfl) (Tt (G5 hr) (pv 2) (Ax A3 (pv 3) Af (λ_ _=>rfl)) C0 ⟨rfl,rfl,rfl,rfl⟩))
   (Ad (Be (PW.pt (Ir (As Cd (Ax A3 (pv 3) Af (λ_ _=>rfl)) Bo (Av _)) (Ga (Ce (pv 4))))) (Ah (Ao Bo)) A0)
   (Ad (Be (PW.pt (Ir (As Cd (Ax A3 (pv 3) Af (λ_ _=>rfl)) Bo (Av _)) (Ga (Cg (Ce (pv 4)))))) (Ah (Ao Bo)) A0)
   (Ah (Ao Jd)))))),?_⟩
  have at1:d.vs[1]? =some (.int d.mo):=by cases d<;> rfl
  have at2:d.vs[2]? =some (.str d.nm):=by cases d<;> rfl
  refine⟨_,rfl,_,rfl,N,r,d,rfl,h0,hf,λH1 s1=>⟨_,rfl,?_⟩⟩;cases hb:Ge d
  ·refine B9 ?_;obtain⟨m,n,rfl⟩:∃m n,d= .go m n:=by cases d with|come m t=>cases hb|go m n=>exact⟨m,n,rfl⟩
   refine⟨_,rfl,r,m,n,rfl,s1 _ _ h0,hf.1,hf.2.1.1,hf.2.1.2,λH2 s2=>⟨_,rfl,Bp ?_⟩⟩;have h2:=s2 _ _ (s1 _ _ h0);have d2:=s2 _ _ (s1 _ _ hd);dsimp only[Bj];refine⟨_,rfl,r,_,1,_,rfl,rfl,SqT.of h2,Ak (j:=1) at1,_,rfl,_,_,rfl,rfl,_,rfl,Cy (λg=>absurd g (by simp;omega)) λ_=> ?_⟩;dsimp only[Bj];refine⟨_,rfl,th,rfl,.inl ⟨kvs,.inl d2⟩,_,rfl,r,_,2,_,rfl,rfl,SqT.of h2,Ak (j:=2) at2,_,DGet.k (k:=Sum.inr n) d2,?_⟩;have hv:(Bw kvs (Sum.inr n)).getD (.bl false)= .bl true:=hv;rw[hv];refine⟨_,rfl,r,_,0,_,rfl,rfl,SqT.of h2,Ak (j:=0) rfl,rfl,_,rfl,Bp ?_⟩;dsimp only[Bj];refine⟨_,rfl,r,_,0,_,rfl,rfl,SqT.of h2,Ak (j:=0) rfl,rfl,_,rfl,B9 ?_⟩;exact⟨_,rfl,_,rfl,Bp (k H2 (s1.trans s2))⟩
  ·refine Bp ?_;obtain⟨m,t,rfl⟩:∃m t,d= .come m t:=by cases d with|come m t=>exact⟨m,t,rfl⟩|go m n=>cases hb
   have h2:=s1 _ _ h0;have d2:=s1 _ _ hd;dsimp only[Bj];refine⟨_,rfl,r,_,1,_,rfl,rfl,SqT.of h2,Ak (j:=1) at1,_,rfl,_,_,rfl,rfl,_,rfl,Cy (λg=>absurd g (by simp;omega)) λ_=> ?_⟩;dsimp only[Bj];refine⟨_,rfl,th,rfl,.inl ⟨kvs,.inl d2⟩,_,rfl,r,_,2,_,rfl,rfl,SqT.of h2,Ak (j:=2) at2,_,DGet.k (k:=Sum.inr t.1) d2,?_⟩;have hv:(Bw kvs (Sum.inr t.1)).getD (.bl false)= .bl false:=hv;rw[hv];refine⟨_,rfl,r,_,0,_,rfl,rfl,SqT.of h2,Ak (j:=0) rfl,rfl,_,rfl,B9 ?_⟩;refine⟨_,rfl,_,rfl,Bp ?_⟩;dsimp only[Bj];refine⟨_,rfl,r,_,0,_,rfl,rfl,SqT.of h2,Ak (j:=0) rfl,rfl,_,rfl,Bp ?_⟩;exact k H1 s1
theorem scRight:Aw ["thing","many","deeds","ahead","there","number","deed","word"] ["thing"] (Ag Gm):=⟨rfl,rfl,rfl,by decide+kernel,rfl,by decide+kernel,by decide+kernel⟩
theorem Sx{f:Addr}{fd:FuncData}(F:Fun K "right_history" "right_history" Gm f fd)(T:Txt mg){gShape:Addr}{fShape:FuncData}(kShape:keepIn K (.ref gShape)=true)(bShape:Binds K fShape ["thing","most"] [])(hShape:mg "has_shape"=some (.ref gShape))(GShape:FnOk P w K mg base CX0 6 gShape fShape ["thing","most"] Ku){gFault:Addr}{fFault:FuncData}(kFault:keepIn K (.ref gFault)=true)(bFault:Binds K fFault ["many","ahead","there","thing"] [])(hFault:mg "deed_fault"=some (.ref gFault))(GFault:FnOk P w K mg base CX0 6 gFault fFault ["many","ahead","there","thing"] La):
  FnOk P w K mg base CX0 7 f fd ["thing"] K4:=by
 refine F.ok scRight (λvs H Q E h=> ?_) (λcdv A outer s H vs Q E hr h=> ?_)
 ·obtain⟨_,_,_,rfl,_⟩:=h;rfl
 ·obtain⟨h,N,ds,rfl,⟨tp,rs,eh,et,hdd⟩,hR,hz,N1,N24,k⟩:=h;obtain⟨_,hmd⟩:=T.deedsM;refine⟨_,Ad (Be (Cg (Ce (Ai GShape hr rfl hShape kShape bShape .nil Ap (Aa (pv 0) (Aa (Hn (by rfl) hmd) Ac))))) (Ah Mk) A0)
   (Ad (C4 (pv 0) (C5 rfl (Az (Am (i:=1) scRight.nd rfl (Or.inl rfl)) (Az (Am (i:=2) scRight.nd rfl (Or.inl rfl)) Ch))))
   (Ad (Al (i:=3) scRight.nd rfl (Or.inl rfl) Af)
   (Ad (Al (i:=4) scRight.nd rfl (Or.inl rfl) Dr)
   (Ad (Ea PassesOwn.never rfl (T9 rfl T.enumerate (Aa (pv 2) Ac)) (C5 rfl (Az (Am (i:=5) scRight.nd rfl (Or.inl rfl)) (Az (Am (i:=6) scRight.nd rfl (Or.inl rfl)) Ch))) (Ad (Al (i:=7) scRight.nd rfl (Or.inl rfl) (Ai GFault hr rfl hFault kFault bFault .nil Ap (Aa (pv 1) (Aa (pv 3) (Aa (pv 4) (Aa (pv 6) Ac))))))
   (Ad (Be (As Pa (pv 7) Jd (Av _)) (Ah Mk) A0)
   (Ad (Al (i:=3) scRight.nd rfl (Or.inl rfl) (Ax A3 (pv 6) Af (λ_ _=>rfl)))
   (Ah (Hj (G5 hr) (pv 4) (Ax A3 (pv 6) Af (λ_ _=>rfl)) (Br Cd (Ax A3 (pv 6) Af (λ_ _=>rfl)) Bo (Av _)) rfl))))))
   (Ah (Ao C0)))))),?_⟩
  have lrs:=hdd.1;have n60:=hR.len;refine⟨_,rfl,h,tp,N,_,60,rfl,eh,et,N1,N24,by rw[If];omega,_,rfl,Bp ?_⟩;dsimp only[Bj];refine⟨_,rfl,h,_,rfl,SqT.of eh,rfl,_,_,rfl,_,_,rfl,rfl,?_⟩;refine λth hth=> ?_;have s1:=Ae (o:= .dK []) hth;have d1:=Ab (H:=H) (a:=th) (o:= .dK []);generalize upd H th (.dK [])=H1 at s1 d1;refine⟨_,rfl,tp,rs.map V.ref,rfl,SqT.of (s1 _ _ et),Qe (K:=K) (a:=tp) (xs:=rs.map V.ref) (λi σ H3=>∃(x:Int) (u5 u6 u7:Option V) (kvs:List (Key×V)),σ=[some (.ref h),some (.int (N:Int)),some (.ref tp),some (.int x),some (.ref th),u5,u6,u7]/\Same H H3/\H3 th=some (.dK kvs)/\kvs.length<=i/\(∀n,(Bw kvs (Sum.inr n)).getD (.bl false)= .bl (decide (n∈(thr (ds.take i)).map (·.1))))/\∀(j:Nat) e,i<=j->ds[j]? =some e->x<=e.mo) ⟨0,none,none,none,[],rfl,s1,d1,le_refl _,λn=>rfl,λj e _ q=>(hR.mo e (mem_of_getElem? q)).1⟩ (λi σ H3 _ ⟨_,_,_,_,_,_,s,_⟩=>SqT.of (s _ _ et)) ?_ ?_⟩
  ·rintro i x σ H3 TT hx ⟨xo,u5,u6,u7,kvs,rfl,s3,d3,kl,kv,up⟩ hTT;obtain⟨r,er,rfl⟩:=map_some hx;obtain⟨dd,ed,r0⟩:=hdd.get er;have li:i<ds.length:=(List.getElem?_eq_some_iff.mp ed).1;have sT:=Ae (o:= .tup [V.int (i:Int),V.ref r]) hTT;have tT:=Ab (H:=H3) (a:=TT) (o:= .tup [V.int (i:Int),V.ref r]);generalize upd H3 TT (.tup [V.int (i:Int),V.ref r])=H4 at sT tT;have at0:∃z,dd.vs[0]? =some (.str z)/\decide (V.str z=V.str (Str.ofString "come"))=Ge dd:=by
    cases dd with
    |come m t=>exact⟨_,rfl,by simp[Ge]⟩
    |go m n=>exact⟨_,rfl,V7⟩
   have at1:dd.vs[1]? =some (.int dd.mo):=by cases dd<;> rfl
   have at2:dd.vs[2]? =some (.str dd.nm):=by cases dd<;> rfl
   obtain⟨z0,at0,ez0⟩:=at0;have h4:=sT _ _ (s3 _ _ r0);refine⟨TT,_,rfl,SqT.of tT,rfl,_,_,rfl,_,_,rfl,rfl,?_⟩;refine⟨_,rfl,_,rfl,_,rfl,_,rfl,N,xo,th,r,dd,kvs,rfl,h4,X0 hR hz ed,up i dd (le_refl _) ed,sT _ _ d3,by rw[kv,Vg hR ed],λH5 s5=> ?_⟩;have h5:=s5 _ _ h4;have d5:=s5 _ _ (sT _ _ d3);refine⟨_,rfl,rfl,_,rfl,Bp ?_⟩;dsimp only[Bj];refine⟨_,rfl,r,_,1,_,rfl,rfl,SqT.of h5,Ak (j:=1) at1,?_⟩;refine⟨_,rfl,r,_,0,_,rfl,rfl,SqT.of h5,Ak (j:=0) at0,rfl,?_⟩;rw[ez0];refine⟨_,rfl,_,rfl,r,_,2,_,rfl,rfl,SqT.of h5,Ak (j:=2) at2,th,_,rfl,DPut.k (k:=Sum.inr dd.nm) d5 (Aq (by omega)),?_⟩;refine⟨_,_,_,_,_,rfl,A2 ((s3.trans sT).trans s5) hth,Ab,le_trans (Df ..) (by omega),λn=> ?_,λj e hj q=>mo_at hR ed q (by omega)⟩;rw[Fs,Xr hR ed n];by_cases q:n=dd.nm
   ·rw[Yf (by rw[q]),Yf q];rfl
   ·rw[Lt (by intro z;exact q (Sum.inr.inj z)),Lt q,kv]
  ·rintro σ H3 ⟨xo,u5,u6,u7,kvs,rfl,s3,d3,kl,kv,up⟩;exact k H3 s3
theorem Dk{α:Type}(f:α->Nat):∀{xs ys:List α},xs.Pairwise (λa b=>f a<f b)->ys.Pairwise (λa b=>f a<f b)->(∀x,x∈xs↔x∈ys)->xs=ys
 |[],[],_,_,_=>rfl
 |[],y::ys,_,_,h=>absurd ((h y).mpr (Yl ..)) (by simp)
 |x::xs,[],_,_,h=>absurd ((h x).mp (Yl ..)) (by simp)
 |x::xs,y::ys,hx,hy,h=>by
  obtain⟨hx1,hx2⟩:=Zc.mp hx;obtain⟨hy1,hy2⟩:=Zc.mp hy;have e:x=y:=by
   rcases Ym.mp ((h x).mp (Yl ..)) with q|q
   ·exact q
   ·rcases Ym.mp ((h y).mpr (Yl ..)) with q'|q'
    ·exact q'.symm
    ·exact absurd (hx1 y q') (Nat.lt_asymm (hy1 x q))
  subst e;rw[Dk f hx2 hy2 λz=>⟨λhz=> ?_,λhz=> ?_⟩]
  ·rcases Ym.mp ((h z).mp (Yn _ hz)) with q|q
   ·subst q;exact absurd (hx1 _ hz) (lt_irrefl _)
   ·exact q
  ·rcases Ym.mp ((h z).mpr (Yn _ hz)) with q|q
   ·subst q;exact absurd (hy1 _ hz) (lt_irrefl _)
   ·exact q
def hd(l:List Nat):Nat:=l.headD 0
theorem Gi{l:List Nat}(h:l≠[]):hd l∈l:=by
 cases l with
 |nil=>exact absurd rfl h
 |cons a l=>exact Yl ..
structure Pts(N:Nat)(R:Nat->Nat->Prop)(L:List (List Nat)):Prop where
 inc:∀l∈L,l.Pairwise (·<·)
 ne:∀l∈L,l≠[]
 hd:L.Pairwise λa b=>hd a<hd b
 cl:∀l∈L,∀p∈l,p<N/\∀q,q∈l↔q<N/\R p q
 al:∀p,p<N->∃l∈L,p∈l
section
variable{N:Nat}{R R':Nat->Nat->Prop}{L L':List (List Nat)}
theorem Pts.same(h:Pts N R L){l l':List Nat}(hl:l∈L)(hl':l'∈L){p:Nat}(hp:p∈l)(hp':p∈l'):l=l':=
 Dk id (h.inc l hl) (h.inc l' hl') λq=>by rw[(h.cl l hl p hp).2 q,(h.cl l' hl' p hp').2 q]
theorem Pts.sub(h:Pts N R L)(h':Pts N R L'):∀l∈L,l∈L':=by
 intro l hl;have hp:=Gi (h.ne l hl);obtain⟨l',hl',hp'⟩:=h'.al _ (h.cl l hl _ hp).1;have:l=l':=Dk id (h.inc l hl) (h'.inc l' hl') λq=>by rw[(h.cl l hl _ hp).2 q,(h'.cl l' hl' _ hp').2 q]
 rw[this];exact hl'
theorem Pts.uniq(h:Pts N R L)(h':Pts N R L'):L=L':=Dk K08.hd h.hd h'.hd λl=>⟨h.sub h' l,h'.sub h l⟩
theorem Pts.congr(h:Pts N R L)(e:∀p q,p<N->q<N->(R p q↔R' p q)):Pts N R' L:=
 ⟨h.inc,h.ne,h.hd,λl hl p hp=>⟨(h.cl l hl p hp).1,λq=>by
  rw[(h.cl l hl p hp).2 q];exact⟨λ⟨a,b⟩=>⟨a,(e p q (h.cl l hl p hp).1 a).mp b⟩,λ⟨a,b⟩=>⟨a,(e p q (h.cl l hl p hp).1 a).mpr b⟩⟩⟩,h.al⟩
theorem Pts.sym(h:Pts N R L){p q:Nat}(hp:p<N)(hq:q<N)(r:R p q):R q p:=by
 obtain⟨l,hl,pl⟩:=h.al p hp;have ql:=((h.cl l hl p pl).2 q).mpr ⟨hq,r⟩;exact(((h.cl l hl q ql).2 p).mp pl).2
theorem Pts.tra(h:Pts N R L){p q r:Nat}(hp:p<N)(hq:q<N)(hr:r<N)(x:R p q)(y:R q r):R p r:=by
 obtain⟨l,hl,pl⟩:=h.al p hp;have ql:=((h.cl l hl p pl).2 q).mpr ⟨hq,x⟩;have rl:=((h.cl l hl q ql).2 r).mpr ⟨hr,y⟩;exact(((h.cl l hl p pl).2 r).mp rl).2
theorem Pts.dis(h:Pts N R L):L.Pairwise λa b=>∀x∈a,∀y∈b,x≠y:=
 h.hd.imp_of_mem λ{a b} ha hb l x hx y hy e=>by
  subst e;rw[h.same ha hb hx hy] at l;exact lt_irrefl _ l
theorem Pts.sub_nd(h:Pts N R L){L1:List (List Nat)}(s:L1.Sublist L):L1.flatten.Nodup:=
 List.pairwise_flatten.mpr ⟨λl hl=>(h.inc l (s.subset hl)).imp λh=>ne_of_lt h,h.dis.sublist s⟩
theorem Pts.mem_flat(h:Pts N R L){p:Nat}:p∈L.flatten↔p<N:=by
 rw[mem_flatten];exact⟨λ⟨l,hl,hp⟩=>(h.cl l hl p hp).1,λhp=>h.al p hp⟩
theorem Pts.len(h:Pts N R L):L.flatten.length<=N:=by
 have:=(Nodup.length_le_of_subset (h.sub_nd (List.Sublist.refl _)) (l₂:=List.range N)) λp hp=>mem_range.mpr (h.mem_flat.mp hp)
 rwa [Za] at this
theorem Mw:∀{L:List (List Nat)},(∀l∈L,l≠[])->L.length<=L.flatten.length
 |[],_=>le_refl _
 |l::L,h=>by
  have h1:0<l.length:=List.length_pos_of_mem (Gi (h l (Yl ..)));have h2:=Mw (L:=L) λx hx=>h x (Yn _ hx);rw[Zm,Yk,Yx];omega
theorem Pts.many(h:Pts N R L):L.length<=N:=le_trans (Mw h.ne) h.len
theorem Pts.once(h:Pts N R L){ms:List Nat}(hm:ms.Perm L.flatten)(hs:ms.Pairwise (·<·)):ms=List.range N:=
 Dk id hs List.pairwise_lt_range λp=>by rw[hm.mem_iff,h.mem_flat,mem_range]
def B6(a b:Nat)(l:List Nat):Bool:=decide (a∈l)||decide (b∈l)
theorem hasB_iff{a b:Nat}{l:List Nat}:B6 a b l=true↔a∈l\/b∈l:=by unfold B6;simp
def Kl(R:Nat->Nat->Prop)(a b p q:Nat):Prop:=R p q\/(R p a/\R b q)\/(R p b/\R a q)
theorem Hv(h:Pts N R L){a b:Nat}(ha:a<N)(hb:b<N){ms:List Nat}(hm:ms.Perm (L.filter (B6 a b)).flatten)(p:Nat):p∈ms↔p<N/\(R p a\/R p b):=by
 rw[hm.mem_iff,mem_flatten];constructor
 ·rintro⟨l,hl,hp⟩;obtain⟨hl,hx⟩:=mem_filter.mp hl;refine⟨(h.cl l hl p hp).1,(hasB_iff.mp hx).imp (λz=> ?_) λz=> ?_⟩
  ·exact(((h.cl l hl p hp).2 a).mp z).2
  ·exact(((h.cl l hl p hp).2 b).mp z).2
 ·rintro⟨hp,r⟩;obtain⟨l,hl,pl⟩:=h.al p hp;refine⟨l,mem_filter.mpr ⟨hl,hasB_iff.mpr (r.imp (λz=> ?_) λz=> ?_)⟩,pl⟩
  ·exact((h.cl l hl p pl).2 a).mpr ⟨ha,z⟩
  ·exact((h.cl l hl p pl).2 b).mpr ⟨hb,z⟩
theorem Fl(h:Pts N R L){a b:Nat}{l:List Nat}(hl:l∈L.filter (λl=> !B6 a b l)):l∈L/\a ∉ l/\b ∉ l:=by
 obtain⟨hl,hx⟩:=mem_filter.mp hl;have:¬(a∈l\/b∈l):=λz=>by rw[hasB_iff.mpr z] at hx;cases hx
 exact⟨hl,λz=>this (.inl z),λz=>this (.inr z)⟩
theorem Lr(h:Pts N R L){a b:Nat}(ha:a<N)(hb:b<N){ms:List Nat}(hm:ms.Perm (L.filter (B6 a b)).flatten):ms≠[]:=by
 obtain⟨l,hl,al⟩:=h.al a ha;have:=(Hv h ha hb hm a).mpr ⟨ha,.inl (((h.cl l hl a al).2 a).mp al).2⟩;exact λz=>by rw[z] at this;cases this
theorem Pb(h:Pts N R L){a b:Nat}(ha:a<N)(hb:b<N){ms:List Nat}(hm:ms.Perm (L.filter (B6 a b)).flatten):((L.filter (λl=> !B6 a b l)++[ms]).map hd).Nodup:=by
 rw[map_append];refine List.pairwise_append.mpr ⟨?_,List.pairwise_singleton ..,?_⟩
 ·rw[Yt];exact(h.hd.sublist Y7).imp λh=>ne_of_lt h
 ·intro x hx y hy e;subst e;obtain⟨l,hl,rfl⟩:=mem_map.mp hx;obtain⟨hL,na,nb⟩:=Fl h hl;have h1:=Gi (h.ne l hL);have h2:=Gi (Lr h ha hb hm);rw[<-mem_singleton.mp hy] at h2;obtain⟨pN,r⟩:=(Hv h ha hb hm _).mp h2;rcases r with r|r
  ·exact na (((h.cl l hL _ h1).2 a).mpr ⟨ha,r⟩)
  ·exact nb (((h.cl l hL _ h1).2 b).mpr ⟨hb,r⟩)
theorem J0{M L':List (List Nat)}(nd:(M.map hd).Nodup)(hL:L'.Perm M)(hh:L'.Pairwise λa b=>¬hd b<hd a):L'.Pairwise λa b=>hd a<hd b:=by
 have n2:(L'.map hd).Nodup:=(hL.map hd).nodup_iff.mpr nd;have n3:L'.Pairwise λa b=>hd a≠hd b:=Yt.mp n2;exact(hh.and n3).imp λ⟨a,b⟩=>by omega
theorem R7(h:Pts N R L){a b:Nat}(ha:a<N)(hb:b<N){ms:List Nat}(hm:ms.Perm (L.filter (B6 a b)).flatten)(hs:ms.Pairwise (·<·))(hL:L'.Perm (L.filter (λl=> !B6 a b l)++[ms]))(hh:L'.Pairwise λa b=>¬hd b<hd a):Pts N (Kl R a b) L':=by
 have mm:=Hv h ha hb hm;have mem:∀l,l∈L'->l∈L.filter (λl=> !B6 a b l)\/l=ms:=λl hl=>by
  rcases mem_append.mp (hL.mem_iff.mp hl) with q|q
  ·exact .inl q
  ·exact .inr (mem_singleton.mp q)
 refine⟨λl hl=> ?_,λl hl=> ?_,J0 (Pb h ha hb hm) hL hh,λl hl p hp=> ?_,λp hp=> ?_⟩
 ·rcases mem l hl with q|rfl
  ·exact h.inc l (Fl h q).1
  ·exact hs
 ·rcases mem l hl with q|rfl
  ·exact h.ne l (Fl h q).1
  ·exact Lr h ha hb hm
 ·rcases mem l hl with z|rfl
  ·obtain⟨hL,na,nb⟩:=Fl h z;obtain⟨pN,c⟩:=h.cl l hL p hp;refine⟨pN,λq=> ?_⟩;rw[c q];refine⟨λ⟨x,y⟩=>⟨x,.inl y⟩,λ⟨x,y⟩=>⟨x,?_⟩⟩;rcases y with y|⟨y,_⟩|⟨y,_⟩
   ·exact y
   ·exact absurd ((c a).mpr ⟨ha,y⟩) na
   ·exact absurd ((c b).mpr ⟨hb,y⟩) nb
  ·obtain⟨pN,r⟩:=(mm p).mp hp;refine⟨pN,λq=> ?_⟩;rw[mm q];constructor
   ·rintro⟨qN,y⟩;refine⟨qN,?_⟩;rcases r with r|r<;> rcases y with y|y
    ·exact .inl (h.tra pN ha qN r (h.sym qN ha y))
    ·exact .inr (.inl ⟨r,h.sym qN hb y⟩)
    ·exact .inr (.inr ⟨r,h.sym qN ha y⟩)
    ·exact .inl (h.tra pN hb qN r (h.sym qN hb y))
   ·rintro⟨qN,y⟩;refine⟨qN,?_⟩;rcases y with y|⟨_,y⟩|⟨_,y⟩
    ·exact r.imp (λz=>h.tra qN pN ha (h.sym pN qN y) z) λz=>h.tra qN pN hb (h.sym pN qN y) z
    ·exact .inr (h.sym hb qN y)
    ·exact .inl (h.sym ha qN y)
 ·obtain⟨l,hl,pl⟩:=h.al p hp;by_cases q:B6 a b l=true
  ·refine⟨ms,hL.mem_iff.mpr (mem_append_right _ (mem_singleton.mpr rfl)),hm.mem_iff.mpr (mem_flatten.mpr ⟨l,mem_filter.mpr ⟨hl,q⟩,pl⟩)⟩
  ·exact⟨l,hL.mem_iff.mpr (mem_append_left _ (mem_filter.mpr ⟨hl,by simpa using q⟩)),pl⟩
def Trn(f:Nat->Nat)(L M:List (List Nat)):Prop:=M.length=L.length/\∀(i:Nat) l m,L[i]? =some l->M[i]? =some m->m.Perm (l.map f)/\m.Pairwise (·<·)
theorem Trn.mem{f:Nat->Nat}{M:List (List Nat)}(h:Trn f L M){m:List Nat}(hm:m∈M):∃l∈L,m.Perm (l.map f)/\m.Pairwise (·<·):=by
 obtain⟨i,hi,rfl⟩:=List.mem_iff_getElem.mp hm;have hl:i<L.length:=by rw[<-h.1];exact hi
 exact⟨L[i],getElem_mem hl,h.2 i _ _ (getElem?_eq_getElem hl) (getElem?_eq_getElem hi)⟩
theorem Trn.get{f:Nat->Nat}{M:List (List Nat)}(h:Trn f L M){l:List Nat}(hl:l∈L):∃m∈M,m.Perm (l.map f):=by
 obtain⟨i,hi,rfl⟩:=List.mem_iff_getElem.mp hl;have hm:i<M.length:=by rw[h.1];exact hi
 exact⟨M[i],getElem_mem hm,(h.2 i _ _ (getElem?_eq_getElem hi) (getElem?_eq_getElem hm)).1⟩
theorem Th(h:Pts N R L){f:Nat->Nat}(inj:∀p q,p<N->q<N->f p=f q->p=q){M:List (List Nat)}(t:Trn f L M):(M.map hd).Nodup:=by
 rw[Nodup,Yt,Y3];intro i j hi hj ij e;have li:i<L.length:=by rw[<-t.1];exact hi
 have lj:j<L.length:=by rw[<-t.1];exact hj
 obtain⟨pi,_⟩:=t.2 i _ _ (getElem?_eq_getElem li) (getElem?_eq_getElem hi);obtain⟨pj,_⟩:=t.2 j _ _ (getElem?_eq_getElem lj) (getElem?_eq_getElem hj);have ni:M[i]≠[]:=λz=>by rw[z] at pi;exact h.ne _ (getElem_mem li) (map_eq_nil_iff.mp pi.symm.eq_nil)
 have nj:M[j]≠[]:=λz=>by rw[z] at pj;exact h.ne _ (getElem_mem lj) (map_eq_nil_iff.mp pj.symm.eq_nil)
 obtain⟨x,hx,ex⟩:=mem_map.mp (pi.mem_iff.mp (Gi ni));obtain⟨y,hy,ey⟩:=mem_map.mp (pj.mem_iff.mp (Gi nj));have xy:=inj x y (h.cl _ (getElem_mem li) x hx).1 (h.cl _ (getElem_mem lj) y hy).1 (by rw[ex,ey];exact e);subst xy;exact(Y3.mp h.dis i j li lj ij) x hx x hy rfl
theorem Ug(h:Pts N R L){f:Nat->Nat}(lt:∀p,p<N->f p<N)(inj:∀p q,p<N->q<N->f p=f q->p=q)(sur:∀p,p<N->∃q,q<N/\f q=p)(hR:∀p q,p<N->q<N->(R' (f p) (f q)↔R p q)){M:List (List Nat)}(t:Trn f L M)(hL:L'.Perm M)(hh:L'.Pairwise λa b=>¬hd b<hd a):Pts N R' L':=by
 have mem:∀l∈L',∃k∈L,l.Perm (k.map f)/\l.Pairwise (·<·):=λl hl=>t.mem (hL.mem_iff.mp hl);refine⟨λl hl=> ?_,λl hl=> ?_,J0 (Th h inj t) hL hh,λl hl p hp=> ?_,λp hp=> ?_⟩
 ·obtain⟨_,_,_,q⟩:=mem l hl;exact q
 ·obtain⟨k,hk,q,_⟩:=mem l hl;exact λz=>by rw[z] at q;exact h.ne _ hk (map_eq_nil_iff.mp q.symm.eq_nil)
 ·obtain⟨k,hk,pk,_⟩:=mem l hl;obtain⟨x,hx,rfl⟩:=mem_map.mp (pk.mem_iff.mp hp);obtain⟨xN,c⟩:=h.cl k hk x hx;refine⟨lt x xN,λq=> ?_⟩;rw[pk.mem_iff,mem_map];constructor
  ·rintro⟨y,hy,rfl⟩;obtain⟨yN,r⟩:=(c y).mp hy;exact⟨lt y yN,(hR x y xN yN).mpr r⟩
  ·rintro⟨qN,r⟩;obtain⟨y,yN,rfl⟩:=sur q qN;exact⟨y,(c y).mpr ⟨yN,(hR x y xN yN).mp r⟩,rfl⟩
 ·obtain⟨x,xN,rfl⟩:=sur p hp;obtain⟨k,hk,xk⟩:=h.al x xN;obtain⟨m,hm,pm⟩:=t.get hk;exact⟨m,hL.mem_iff.mpr hm,pm.mem_iff.mpr (mem_map.mpr ⟨x,xk,rfl⟩)⟩
end
def PL(N:Nat)(S:List T4):List (List Nat):=(lsF N S).map (Bn N S)
theorem Pk{N p:Nat}{S:List T4}(hp:p∈lsF N S):hd (Bn N S p)=p:=by
 have:=(mem_filter.mp hp).2;rw[Yh] at this;cases e:Bn N S p with
 |nil=>rw[e] at this;cases this
 |cons a l=>rw[e] at this;exact Option.some.inj this
theorem Cs{N:Nat}{S:List T4}(hS:InN N S)(hN:N<=60):Pts N (Reach S) (PL N S):=by
 refine⟨λl hl=> ?_,λl hl=> ?_,?_,λl hl p hp=> ?_,λp hp=> ?_⟩
 ·obtain⟨p,hp,rfl⟩:=mem_map.mp hl;exact List.pairwise_lt_range.sublist Y7
 ·obtain⟨p,hp,rfl⟩:=mem_map.mp hl;have:=Gj hS (Rq hp) hN;exact λz=>by rw[z] at this;cases this
 ·unfold PL;rw[Yt];refine(List.pairwise_lt_range.sublist (Y7 (l:=List.range N))).imp_of_mem λ{a b} ha hb l=> ?_;rw[Pk ha,Pk hb];exact l
 ·obtain⟨o,ho,rfl⟩:=mem_map.mp hl;have oN:=Rq ho;obtain⟨pN,r⟩:=(C8 hS oN hN).mp hp;refine⟨pN,λq=> ?_⟩;rw[C8 hS oN hN];exact⟨λ⟨x,y⟩=>⟨x,r.symm.trans y⟩,λ⟨x,y⟩=>⟨x,r.trans y⟩⟩
 ·obtain⟨o,_,ho,r⟩:=Qz hS hp hN;exact⟨Bn N S o,mem_map.mpr ⟨o,ho,rfl⟩,(C8 hS (Rq ho) hN).mpr ⟨hp,r⟩⟩
theorem Vj{N p:Nat}{S:List T4}(hS:InN N S)(hp:p<N)(hN:N<=60){l:List Nat}(hl:l∈PL N S)(pl:p∈l):Bn N S p=l:=by
 refine Dk id (List.pairwise_lt_range.sublist Y7) ((Cs hS hN).inc l hl) λq=> ?_;rw[((Cs hS hN).cl l hl p pl).2 q,C8 hS hp hN]
theorem Es{S:List T4}(f:T4->T4)(g:Nat->Nat)(hf:∀t∈S,((f t).2.1=g t.2.1/\(f t).2.2.1=g t.2.2.1)\/((f t).2.1=g t.2.2.1/\(f t).2.2.1=g t.2.1)){a b:Nat}(h:Reach S a b):Reach (S.map f) (g a) (g b):=by
 obtain⟨ws,h⟩:=h
 induction h with
 |nil=>exact .refl
 | @snoc ws b c n _ q ih=>
  refine ih.trans ?_;obtain⟨t,ht,_,e⟩:=Hl q;have hm:f t∈S.map f:=mem_map.mpr ⟨t,ht,rfl⟩;have n1:=Reach.step (Ko hm);rcases hf t ht with⟨x,y⟩|⟨x,y⟩<;> rw[x,y] at n1<;> rcases e with⟨e1,e2⟩|⟨e1,e2⟩<;> rw[e1,e2] at n1
  ·exact n1
  ·exact n1.symm
  ·exact n1.symm
  ·exact n1
theorem E9{S S':List T4}(p:S.Perm S'){a b:Nat}:Reach S a b↔Reach S' a b:=⟨.mono λt h=>p.mem_iff.mp h,.mono λt h=>p.mem_iff.mpr h⟩
def trnF(N k p:Nat):Nat:=(p+k) % N
def N3(N k:Nat)(t:T4):T4:=(t.1,trnF N k t.2.1,trnF N k t.2.2.1,t.2.2.2)
theorem Dt{N k p:Nat}(hk:k<N)(hp:p<N):trnF N (N - k) (trnF N k p)=p:=by
 unfold trnF;rw[Nat.mod_add_mod,show p+k+(N - k)=p+N by omega,Nat.add_mod_right,Nat.mod_eq_of_lt hp]
theorem M6{N k p:Nat}(hk:k<N):trnF N k p<N:=mod_lt _ (by omega)
theorem Lk{N k p q:Nat}(hk:k<N)(hp:p<N)(hq:q<N)(e:trnF N k p=trnF N k q):p=q:=by rw[<-Dt hk hp,<-Dt hk hq,e]
theorem Vy{N k p:Nat}(hk:k<N)(hp:p<N):∃q,q<N/\trnF N k q=p:=by
 refine⟨trnF N (N - k) p,mod_lt _ (by omega),?_⟩;unfold trnF;rw[Nat.mod_add_mod,show p+(N - k)+k=p+N by omega,Nat.add_mod_right,Nat.mod_eq_of_lt hp]
theorem Rb{N k:Nat}{S:List T4}(hS:InN N S)(hk:k<N){p q:Nat}(hp:p<N)(hq:q<N):Reach (S.map (N3 N k)) (trnF N k p) (trnF N k q)↔Reach S p q:=by
 refine⟨λh=> ?_,λh=>Es _ (trnF N k) (λt _=> .inl ⟨rfl,rfl⟩) h⟩;have:=Es (N3 N (N - k)) (trnF N (N - k)) (λt _=> .inl ⟨rfl,rfl⟩) h;rw[Dt hk hp,Dt hk hq,map_map] at this;have e:S.map (N3 N (N - k)∘N3 N k)=S:=by
  conv=>rhs;rw[<-map_id S]
  refine map_congr_left λt ht=> ?_;show ((t.1,trnF N (N - k) (trnF N k t.2.1),trnF N (N - k) (trnF N k t.2.2.1),t.2.2.2):T4)=t;rw[Dt hk (hS t ht).1,Dt hk (hS t ht).2]
 rwa [e] at this
theorem Sz{xs:List Nat}{ns:List Int}(hp:ns.Perm (xs.map ofNat))(hs:ns.Pairwise λa b=>¬b<a)(nd:xs.Nodup):∃ms:List Nat,ns=ms.map ofNat/\ms.Perm xs/\ms.Pairwise (·<·):=by
 have pos:∀n∈ns,ofNat n.toNat=n:=λn hn=>by
  obtain⟨x,_,rfl⟩:=mem_map.mp (hp.mem_iff.mp hn);rfl
 have e:ns=(ns.map toNat).map ofNat:=by
  rw[map_map]
  conv=>lhs;rw[<-map_id ns]
  exact map_congr_left λn hn=>(pos n hn).symm
 have pm:(ns.map toNat).Perm xs:=by
  have:=hp.map toNat;rw[map_map] at this;have e2:xs.map (toNat∘ofNat)=xs:=by
   conv=>rhs;rw[<-map_id xs]
   exact map_congr_left λn _=>rfl
  rwa [e2] at this
 refine⟨ns.map toNat,e,pm,?_⟩;have n2:(ns.map toNat).Nodup:=pm.nodup_iff.mpr nd;rw[Yt];refine((hs.and (Yt.mp n2)).imp_of_mem λ{a b} ha hb ⟨x,y⟩=> ?_);have h1:=pos a ha;have h2:=pos b hb;have h3:((a.toNat:Nat):Int)=a:=h1;have h4:((b.toNat:Nat):Int)=b:=h2;have h5:a.toNat≠b.toNat:=y;omega
def DeckAt(H:Hp)(d:Addr)(b:Nat):Prop:=∃x S k:Int,H d=some (.lst [.int x,.int S,.int k])/\0<=k/\k+b<=2 ^ 32
theorem DeckAt.mono{H:Hp}{d:Addr}{b b':Nat}(h:DeckAt H d b)(l:b'<=b):DeckAt H d b':=by
 obtain⟨x,S,k,h1,h2,h3⟩:=h;exact⟨x,S,k,h1,h2,by omega⟩
def But(d:Addr)(H H':Hp):Prop:=∀b o,H b=some o->b≠d->H' b=some o
theorem But.trans{d:Addr}{H H1 H2:Hp}(h:But d H H1)(h':But d H1 H2):But d H H2:=λb o e n=>h' b o (h b o e n) n
theorem But.of{d:Addr}{H H':Hp}(s:Same H H'):But d H H':=λb o e _=>s b o e
theorem But.tup{d:Addr}{H H':Hp}(h:But d H H'){n:Nat}(D:DeckAt H d n){b:Addr}{xs:List V}(e:H b=some (.tup xs)):H' b=some (.tup xs):=by
 obtain⟨_,_,_,h1,_⟩:=D;exact h b _ e λz=>by rw[z,h1] at e;cases e
theorem DeckAt.same{H H':Hp}{d:Addr}{n:Nat}(h:DeckAt H d n)(s:Same H H'):DeckAt H' d n:=by
 obtain⟨x,S,k,h1,r⟩:=h;exact⟨x,S,k,s _ _ h1,r⟩
theorem DeckAt.ne{H:Hp}{d b:Addr}{n:Nat}(h:DeckAt H d n)(e:H b=none):b≠d:=by
 obtain⟨_,_,_,h1,_⟩:=h;exact(Ay h1 e).symm
theorem DeckAt.upd{H:Hp}{d b:Addr}{o:HO}{m:Nat}(h:DeckAt H d m)(n:b≠d):DeckAt (upd H b o) d m:=by
 obtain⟨x,S,k,h1,r⟩:=h;exact⟨x,S,k,by rw[Aj n.symm];exact h1,r⟩
theorem But.set{d:Addr}{H H1:Hp}{b:Addr}{o:HO}(h:But d H H1)(hb:H b=none):But d H (upd H1 b o):=λx u e n=>by
 rw[Aj (Ay e hb)];exact h x u e n
theorem But.none{d:Addr}{H H':Hp}{b:Addr}{n:Nat}(h:But d H H')(w:DeckAt H' d n)(hb:H' b=none):H b=none:=by
 cases e:H b with
 |none=>rfl
 |some o=>rw[h b o e (w.ne hb)] at hb;cases hb
def Nj(K:Frag):Sp:=λvs H Q _=>∃(s:Addr) (ns:List Int) (k:Nat),vs=[.ref s,.int (k:Int)]/\SqL K H s (ns.map V.int)/\ns.length<=63/\k<100/\∀v,Q (.int v) H
def N4(K:Frag):Sp:=λvs H Q _=>∃(s:Addr) (ns:List Int) (k:Nat),vs=[.ref s,.int (k:Int)]/\SqL K H s (ns.map V.int)/\ns.length<=63/\k<100/\∀d H',Same H H'->H d=none->DeckAt H' d 100000->Q (.ref d) H'
def Ee:Sp:=λvs H Q _=>∃(d:Addr) (m:Int) (b:Nat),vs=[.ref d,.int m]/\DeckAt H d (b+1)/\0<m/\m<1073741824/\∀(v:Int) (H':Hp),0<=v->v<m->But d H H'->DeckAt H' d b->Q (.int v) H'
theorem Xx:Aw ["_law_script","_law_k"] ["_law_script","_law_k"] (Ag Kj):=⟨rfl,rfl,rfl,by decide+kernel,rfl,by decide+kernel,by decide+kernel⟩
theorem Vi{f:Addr}{fd:FuncData}(F:Fun K "_law_cell_at" "_law_cell_at" Kj f fd)(T:Txt mg):
  FnOk P w K mg base CX0 1 f fd ["_law_script","_law_k"] (Nj K):=by
 refine F.ok Xx (λvs H Q E h=> ?_) (λcdv A outer s H vs Q E hr h=> ?_)
 ·obtain⟨_,_,_,rfl,_⟩:=h;rfl
 ·obtain⟨s,ns,k0,rfl,hS,hl,hk,k⟩:=h;refine⟨_,Ad (Be (As Uh (pv 1) (An A7 (by rfl) T.len PySem.boot_len (Aa (pv 0) Ac)) (Av _)) (Ah (Ao (Ax Ba (pv 0) (pv 1) (λ_ _=>rfl)))) A0)
   (Ah (Ao (Ar Bk (Ar By (An (Rr rfl) (by rfl) T.sum boot_sum (Aa (pv 0) Ac)) Af) (Ar Fd Af (pv 1))))),?_⟩
  refine⟨_,rfl,_,rfl,s,_,rfl,.inl hS,_,_,rfl,rfl,_,rfl,Cy (λg=> ?_) λg=> ?_⟩
  ·rw[If] at g;have g:=of_decide_eq_true g;exact⟨_,rfl,_,rfl,s,_,_,.int (ns[k0]'(by omega)),rfl,rfl,hS,Ak (by rw[getElem?_map,getElem?_eq_getElem (by omega)];rfl),k _⟩
  ·dsimp only[Bj];exact⟨_,rfl,s,ns,rfl,hS,_,_,rfl,rfl,(by show (0:Int)<2147483647;decide),_,rfl,_,_,rfl,rfl,.inl ⟨by decide,by decide⟩,_,_,rfl,rfl,k _⟩
theorem scDeck:Aw ["_law_script","_law_k","_law_cell"] ["_law_script","_law_k"] (Ag Jx):=⟨rfl,rfl,rfl,by decide+kernel,rfl,by decide+kernel,by decide+kernel⟩
theorem Vd{f:Addr}{fd:FuncData}(F:Fun K "_law_deck" "_law_deck" Jx f fd)(T:Txt mg){gCell:Addr}{fCell:FuncData}(kCell:keepIn K (.ref gCell)=true)(bCell:Binds K fCell ["_law_script","_law_k"] [])(hCell:mg "_law_cell_at"=some (.ref gCell))(GCell:FnOk P w K mg base CX0 1 gCell fCell ["_law_script","_law_k"] (Nj K)):
  FnOk P w K mg base CX0 2 f fd ["_law_script","_law_k"] (N4 K):=by
 refine F.ok scDeck (λvs H Q E h=> ?_) (λcdv A outer s H vs Q E hr h=> ?_)
 ·obtain⟨_,_,_,rfl,_⟩:=h;rfl
 ·obtain⟨s,ns,k0,rfl,hS,hl,hk,k⟩:=h;refine⟨_,Ad (Al (i:=2) scDeck.nd rfl (Or.inl rfl) (Ai GCell hr rfl hCell kCell bCell .nil Ap (Aa (pv 0) (Aa (pv 1) Ac))))
   (Ad (Be (As Uh (pv 2) (Ar Gc Af Af) (Av _)) (Ah (Ao (B7 (Aa Af (Aa (Ar By (pv 2) Af) (Aa Af Ac)))))) A0)
   (Ah (Ao (B7 (Aa (pv 2) (Aa (Ar By (pv 2) Af) (Aa Af Ac))))))),?_⟩
  refine⟨_,rfl,_,rfl,s,ns,k0,rfl,hS,hl,hk,λv=> ?_⟩;refine⟨_,rfl,_,_,rfl,rfl,⟨by decide,by decide,by decide⟩,_,_,rfl,rfl,_,rfl,Cy (λg=> ?_) λg=> ?_⟩
  ·exact⟨_,rfl,_,_,rfl,rfl,(by show (0:Int)<2305843009213693951;decide),A1 (by simp),λd hd=>k d _ (Ae hd) hd ⟨_,_,_,Ab,by decide,by decide⟩⟩
  ·dsimp only[Bj];exact⟨_,rfl,_,rfl,_,_,rfl,rfl,(by show (0:Int)<2305843009213693951;decide),A1 (by simp),λd hd=>k d _ (Ae hd) hd ⟨_,_,_,Ab,by decide,by decide⟩⟩
theorem scDraw:Aw ["_law_deck_here","_law_most","_law_digit","_law_mixed"] ["_law_deck_here","_law_most"] (Ag Kb):=⟨rfl,rfl,rfl,by decide+kernel,rfl,by decide+kernel,by decide+kernel⟩
theorem Vq{f:Addr}{fd:FuncData}(F:Fun K "_law_draw" "_law_draw" Kb f fd)(T:Txt mg):
  FnOk P w K mg base CX0 1 f fd ["_law_deck_here","_law_most"] Ee:=by
 refine F.ok scDraw (λvs H Q E h=> ?_) (λcdv A outer s H vs Q E hr h=> ?_)
 ·obtain⟨_,_,_,rfl,_⟩:=h;rfl
 ·obtain⟨d,m,b,rfl,⟨x,S,k0,hd,k00,kb⟩,m0,m1,k⟩:=h;refine⟨_,Ad (Be (As Ta (Ax Ba (pv 0) Af (λ_ _=>rfl)) Af (Av _)) (Ad (Al (i:=2) scDraw.nd rfl (Or.inl rfl) (Ar By (Ax Ba (pv 0) Af (λ_ _=>rfl)) (pv 1)))
   (Ad (C4 (Ar Lq (Ax Ba (pv 0) Af (λ_ _=>rfl)) (pv 1)) (Kq (pv 0) (Af) Fp))
   (Ah (Ao (pv 2))))) A0)
   (Ad (C4 (Ar Bk (Ax Ba (pv 0) Af (λ_ _=>rfl)) Af) (Kq (pv 0) (Af) Fp))
   (Ad (Al (i:=3) scDraw.nd rfl (Or.inl rfl) (Ar Bk (Ar Bk (Ax Ba (pv 0) Af (λ_ _=>rfl)) (Ar Fd (Ar Fd Af (Ax Ba (pv 0) Af (λ_ _=>rfl))) (Ax Ba (pv 0) Af (λ_ _=>rfl)))) Af))
   (Ad (Al (i:=3) scDraw.nd rfl (Or.inl rfl) (Ar By (Ar Fd (pv 3) Af) Af))
   (Ah (Ao (Ar By (Ar Lq (Ar By (Ar Bk (Ar Fd (pv 3) (pv 3)) (Ax Ba (pv 0) Af (λ_ _=>rfl))) Af) Af) (pv 1))))))),?_⟩
  refine⟨_,rfl,d,_,0,_,rfl,rfl,SqL.of hd,Ak (j:=0) rfl,_,_,rfl,rfl,_,rfl,Cy (λg=> ?_) λg=> ?_⟩
  ·refine⟨_,rfl,d,_,0,_,rfl,rfl,SqL.of hd,Ak (j:=0) rfl,_,rfl,_,_,rfl,rfl,m0,?_⟩;refine⟨_,rfl,d,_,0,_,rfl,rfl,SqL.of hd,Ak (j:=0) rfl,_,rfl,_,_,rfl,rfl,⟨m0,by omega⟩,_,rfl,d,_,0,0,rfl,rfl,hd,rfl,?_⟩;exact⟨_,rfl,k _ _ (emod_nonneg _ (by omega)) (Zo _ m0) (λc o e n=>by rw[Aj n];exact e) ⟨_,S,k0,Ab,k00,by omega⟩⟩
  ·dsimp only[Bj];refine⟨_,rfl,d,_,2,_,rfl,rfl,SqL.of hd,Ak (j:=2) rfl,_,_,rfl,rfl,_,rfl,d,_,2,2,rfl,rfl,hd,rfl,?_⟩;have h1:upd H d (.lst (([.int x,.int S,.int k0]:List V).set 2 (.int (k0+1)))) d=some (.lst [.int x,.int S,.int (k0+1)]):=Ab;have b1:But d H (upd H d (.lst (([.int x,.int S,.int k0]:List V).set 2 (.int (k0+1))))):=λc o e n=>by rw[Aj n];exact e
   generalize hH1:upd H d _=H1;rw[hH1] at h1 b1;clear hH1;refine⟨_,rfl,d,_,1,_,rfl,rfl,SqL.of h1,Ak (j:=1) rfl,_,rfl,d,_,2,_,rfl,rfl,SqL.of h1,Ak (j:=2) rfl,_,_,rfl,rfl,.inl ⟨by decide,by decide⟩,_,rfl,d,_,2,_,rfl,rfl,SqL.of h1,Ak (j:=2) rfl,_,_,rfl,rfl,.inr ⟨by omega,by omega⟩,_,_,rfl,rfl,_,_,rfl,rfl,?_⟩;dsimp only;generalize S+7919 * (k0+1) * (k0+1)+1=z1;refine⟨_,rfl,_,_,rfl,rfl,.inr ⟨by decide,by decide⟩,_,_,rfl,rfl,(by show (0:Int)<2305843009213693951;decide),?_⟩;dsimp only;have y0:=emod_nonneg (z1 * 1442695040888963407) (show (2305843009213693951:Int)≠0 by decide);have y1:=Zo (z1 * 1442695040888963407) (show (0:Int)<2305843009213693951 by decide);generalize z1 * 1442695040888963407 % 2305843009213693951=z2 at y0 y1;refine⟨_,rfl,_,rfl,_,_,rfl,rfl,.inl ⟨by omega,by omega⟩,_,rfl,d,_,2,_,rfl,rfl,SqL.of h1,Ak (j:=2) rfl,_,_,rfl,rfl,_,_,rfl,rfl,(by show (0:Int)<2305843009213693921;decide),_,_,rfl,rfl,⟨by decide,by decide⟩,_,rfl,_,_,rfl,rfl,m0,?_⟩;exact k _ _ (emod_nonneg _ (by omega)) (Zo _ m0) b1 ⟨_,_,_,h1,by omega,by omega⟩
def But2(d l:Addr)(H H':Hp):Prop:=∀b o,H b=some o->b≠d->b≠l->H' b=some o
def tNm:TS:=λD σ H=>∃(d W l hr:Addr) (u1 u2 u3 u5 u7 u9:Option V) (ws hs:List Nat) (zs:List Str) (b:Nat),σ=[some (.ref d),u1,u2,u3,some (.ref W),u5,some (.ref l),u7,some (.ref hr),u9]/\DeckAt H d (b+1)/\H W=some (.lst (ws.map sg))/\H l=some (.lst (zs.map V.str))/\H hr=some (.lst (hs.map sg))/\ws.length=8/\(∀x∈ws,97<=x/\x<=122)/\(∀x∈hs,97<=x/\x<=122)/\1<=hs.length/\hs.length<=8/\zs.length<100/\W≠d/\l≠d/\hr≠d/\
 ∀(z:Str) (u9':Option V) (H':Hp),But2 d l H H'->DeckAt H' d b->H' l=some (.lst ((zs++[z]).map V.str))->(∃r,z.cps.toList=hs++r)->A8 z->D.nx [some (.ref d),u1,u2,u3,some (.ref W),u5,some (.ref l),u7,some (.ref hr),u9'] H'
def Lg:Sp:=λvs H Q _=>∃(d:Addr) (M b:Nat),vs=[.ref d,.int (M:Int)]/\DeckAt H d (b+(10+M))/\M<=60/\∀(l:Addr) (zs:List Str) (H':Hp),But d H H'->DeckAt H' d b->H l=none->l≠d->H' l=some (.lst (zs.map V.str))->zs.length=M->zs.Nodup->(∀z∈zs,A8 z)->Q (.ref l) H'
theorem scNames:Aw ["_law_deck_here","_law_many_here","_law_letters","_law_at","_law_word","_law_first","_law_names_here","_law_k","_law_here","_law_more"] ["_law_deck_here","_law_many_here"] (Ag Fg):=⟨rfl,rfl,rfl,by decide+kernel,rfl,by decide+kernel,by decide+kernel⟩
theorem Tj{f:Addr}{fd:FuncData}(F:Fun K "_law_names" "_law_names" Fg f fd)(T:Txt mg){gDraw:Addr}{fDraw:FuncData}(kDraw:keepIn K (.ref gDraw)=true)(bDraw:Binds K fDraw ["_law_deck_here","_law_most"] [])(hDraw:mg "_law_draw"=some (.ref gDraw))(GDraw:FnOk P w K mg base CX0 1 gDraw fDraw ["_law_deck_here","_law_most"] Ee):
  FnOk P w K mg base CX0 2 f fd ["_law_deck_here","_law_many_here"] Lg:=by
 refine F.ok scNames (λvs H Q E h=> ?_) (λcdv A outer s H vs Q E hr h=> ?_)
 ·obtain⟨_,_,_,rfl,_⟩:=h;rfl
 ·obtain⟨d,M,b,rfl,hD,M60,k⟩:=h;refine⟨_,Ad (Al (i:=2) scNames.nd rfl (Or.inr rfl) Bo)
   (Ad (Al (i:=3) scNames.nd rfl (Or.inl rfl) (Ai GDraw hr rfl hDraw kDraw bDraw .nil Ap (Aa (pv 0) (Aa Af Ac))))
   (Ad (Dy (i:=4) (T:=["_law_k"]) (F:=["_law_letters","_law_deck_here"]) (js:=[2,0]) scNames.nd rfl (Or.inl rfl) (CS.to (osc:=Ag Fg) ⟨by rfl,by decide+kernel,by decide+kernel,by decide+kernel,by decide+kernel,by decide+kernel,by decide+kernel⟩ rfl rfl) rfl (Cf rfl T.range (Aa Af Ac)) (λ_ _ _ _ _=>Am (i:=0) (show (["_law_k","_law_letters","_law_deck_here"]:List Str).Nodup by decide+kernel) rfl (Or.inl rfl)) (λ_ _ _ _ _=>Dg) (λ_ _ _ _ _=>Ax K5 (pv 1) (Ai GDraw hr rfl hDraw kDraw bDraw .nil Ap (Aa (pv 2) (Aa Af Ac))) (λ_ _=>rfl)))
   (Ad (Al (i:=5) scNames.nd rfl (Or.inl rfl) (Ai GDraw hr rfl hDraw kDraw bDraw .nil Ap (Aa (pv 0) (Aa Af Ac))))
   (Ad (Al (i:=6) scNames.nd rfl (Or.inl rfl) (B7 Ac))
   (Ad (Ea PassesOwn.never rfl (Cf rfl T.range (Aa (pv 1) Ac)) (Am (i:=7) scNames.nd rfl (Or.inl rfl)) (Ad (Al (i:=8) scNames.nd rfl (Or.inl rfl) (Ar Lp (Cb Oy (pv 4) Cv (Cj (pv 3))) (B7 (Aa (Ax K5 (pv 2) (Ar By (Ar Bk (pv 5) (pv 7)) Af) (λ_ _=>rfl)) Ac))))
   (Ad (Be (As Ta (pv 1) Af (Av _)) (Ah (Al (i:=8) scNames.nd rfl (Or.inl rfl) (Ar Lp (pv 8) (B7 (Aa (Ax K5 (pv 2) (Ar By (Ar Bk (pv 5) (Ar Lq (pv 7) Af)) Af) (λ_ _=>rfl)) Ac))))) A0)
   (PSs.imp' (t':=tNm) (Ad (Al (i:=9) scNames.nd rfl (Or.inl rfl) (Ar Bk (An A7 (by rfl) T.len PySem.boot_len (Aa (pv 8) Ac)) (Ai GDraw hr rfl hDraw kDraw bDraw .nil Ap (Aa (pv 0) (Aa (Ar Ig Af (An A7 (by rfl) T.len PySem.boot_len (Aa (pv 8) Ac))) Ac)))))
   (Ah (Cl (Db Yy PySem.F.slot_list_append PySem.F.type_list_append Bu (pv 6) (Aa (Db plainAttrs_str PySem.F.slot_str_join PySem.F.type_str_join Ol Bo (Aa (Ar Lp (pv 8) (Cb Oy (pv 4) (Cj (An A7 (by rfl) T.len PySem.boot_len (Aa (pv 8) Ac))) (Cj (pv 9)))) Ac)) Ac))))) ?tail))))
   (Ah (Ao (pv 6)))))))),?_⟩
  case tail=>
   clear k hD M60;rintro D σ H ⟨d,W,l,hr',u1,u2,u3,u5,u7,u9,ws,hs,zs,b,rfl,hD,hW,hl,hh,wl,wsm,hsm,hl1',hl8,zl,nW,nl,nh,k⟩;refine⟨_,rfl,hr',_,rfl,.inl (SqL.of hh),_,rfl,_,rfl,hr',_,rfl,.inl (SqL.of hh),_,_,rfl,rfl,d,_,b,rfl,hD,by rw[If];omega,by rw[If];omega,λv H1 v0 v1 b1 D1=>⟨_,_,rfl,rfl,?_⟩⟩;rw[If] at v1 ⊢;obtain⟨v,rfl⟩:=Di v0;have hW1:=b1 _ _ hW nW;have hl1:=b1 _ _ hl nl;have hh1:=b1 _ _ hh nh;refine⟨_,rfl,.inl ⟨rfl,_,SqL.of hl1⟩,rfl,_,rfl,_,rfl,_,rfl,hr',_,rfl,.inl (SqL.of hh1),_,rfl,_,rfl,_,rfl,W,_,rfl,SqL.of hW1,λq hq=> ?_⟩;have ec:Da (ws.map sg) (some ((hs.map sg).length:Int)) (some ((hs.length:Int)+(v:Int)))=((ws.drop hs.length).take v).map sg:=by
    have e:((hs.length:Int)+(v:Int))=((hs.length+v:Nat):Int):=by omega
    rw[If,e,T8 (by rw[If];omega) (by omega),map_take,List.map_drop]
    congr 1;omega
   rw[ec];have rl:((ws.drop hs.length).take v).length<=v:=by rw[Yo];omega
   have rsm:∀x∈(ws.drop hs.length).take v,97<=x/\x<=122:=λx hx=>wsm x (List.mem_of_mem_drop (Y4 hx));generalize (ws.drop hs.length).take v=r at rl rsm;have sq:=Ae (o:= .lst (r.map sg)) hq;have hq2:=Ab (H:=H1) (a:=q) (o:= .lst (r.map sg));have D2:=D1.same sq;generalize upd H1 q (.lst (r.map sg))=H2 at sq hq2 D2;refine⟨hr',q,_,_,rfl,rfl,sq _ _ hh1,hq2,A1 (by simp;omega),λp hp=> ?_⟩;have sp:=Ae (o:= .lst (hs.map sg++r.map sg)) hp;have hp3:=Ab (H:=H2) (a:=p) (o:= .lst (hs.map sg++r.map sg));have D3:=D2.same sp;generalize upd H2 p (.lst (hs.map sg++r.map sg))=H3 at sp hp3 D3;rw[<-map_append,Ti] at hp3;have hz:=Ml (hs++r);refine⟨Str.ofString "",p,_,rfl,rfl,SqL.of hp3,?_,?_⟩
   ·rw[R5,If,Yk];show _+_ * 0<=_;omega
   generalize Txt.join (Str.ofString "") ((hs++r).map λc=>(⟨#[c]⟩:Str))=z at hz;have hl3:=sp _ _ (sq _ _ hl1);refine⟨l,_,_,rfl,rfl,hl3,Aq (by simp;omega),?_⟩;refine k z _ _ (λx o e n1 n2=>by rw[Aj n2];exact sp _ _ (sq _ _ (b1 _ _ e n1))) (D3.upd nl) (by rw[Ab,map_append];rfl) ⟨r,hz⟩ ⟨?_,?_,λch hc=> ?_⟩
   ·rw[Hi,hz,Yk];omega
   ·rw[Hi,hz,Yk];omega
   ·rw[hz] at hc;rcases mem_append.mp hc with q|q
    ·exact hsm ch q
    ·exact rsm ch q
  refine⟨_,rfl,d,7,b+(9+M),rfl,hD.mono (by omega),by decide,by decide,λat_ H1 a0 a1 b1 D1=> ?_⟩;obtain⟨at_,rfl⟩:=Di a0;have a7:at_<7:=by omega
  refine⟨8,rfl,by decide,by decide,λW hWn=>C3 (lo:=0) (n:=8) (λj σ ys H2=>∃(u:Option V) (ws:List Nat),σ=[u,some (.str LS),some (.ref d)]/\But d H1 H2/\DeckAt H2 d (b+(9+M - j))/\H2 W=some (.lst ys)/\ys=ws.map sg/\ws.length=j/\∀x∈ws,97<=x/\x<=122) ?_ (λj σ ys H2 _ ⟨_,_,_,_,_,e,_⟩=>e) ?_ ?_⟩
  ·exact⟨none,[],rfl,But.of (Ae hWn),(D1.mono (by omega)).upd (D1.ne hWn),Ab,rfl,rfl,by simp⟩
  ·rintro j σ ys H2 hj ⟨u,ws,rfl,b2,D2,e2,rfl,wl,wsm⟩;refine⟨_,rfl,_,rfl,d,26,b+(9+M - (j+1)),rfl,D2.mono (by omega),by decide,by decide,λx H3 x0 x1 b3 D3=> ?_⟩;have e3:=b3 _ _ e2 (D1.ne hWn);exact⟨_,x,_,rfl,rfl,A1 (by decide+kernel),Oz x0 x1,e3,Aq (by simp;omega),_,ws++[97+x.toNat],rfl,(b2.trans b3).set hWn,D3.upd (D1.ne hWn),Ab,by rw[map_append];rfl,by simp[wl],λy hy=>by
    rcases mem_append.mp hy with q|q
    ·exact wsm y q
    ·rw[mem_singleton.mp q];omega⟩
  rintro σ ys H2 ⟨u,ws,rfl,b2,D2,e2,rfl,wl,wsm⟩;have nW:=D1.ne hWn;refine⟨_,rfl,d,26,b+M,rfl,D2.mono (by omega),by decide,by decide,λf H3 f0 f1 b3 D3=> ?_⟩;obtain⟨f,rfl⟩:=Di f0;have e3:=b3 _ _ e2 nW;have B3:But d H H3:=(b1.trans b2).trans b3;refine⟨A1 (by simp),λl hl=> ?_⟩;have nl:=D3.ne hl;have nlW:W≠l:=Ay e3 hl;have lH:H l=none:=B3.none D3 hl;refine⟨_,rfl,(M:Int),rfl,by omega,by omega,Ez (lo:=0) (n:=(M:Int).toNat) (λi σ H5=>∃(u7 u8 u9:Option V) (zs:List Str),σ=[some (.ref d),some (.int (M:Int)),some (.str LS),some (.int (at_:Int)),some (.ref W),some (.int (f:Int)),some (.ref l),u7,u8,u9]/\But d H H5/\DeckAt H5 d (b+(M - i))/\H5 W=some (.lst (ws.map sg))/\H5 l=some (.lst (zs.map V.str))/\zs.length=i/\(∀z∈zs,A8 z)/\∀(j:Nat) (y:Str),zs[j]? =some y->Nm at_ f M j y)
   ⟨_,_,_,[],rfl,B3.set lH,(D3.mono (by omega)).upd nl,by rw[Aj nlW];exact e3,Ab,rfl,by simp,by simp⟩ ?_ ?_⟩
  ·rintro i σ H5 hi ⟨u7,u8,u9,zs,rfl,b5,D5,W5,l5,zl,z8,zn⟩;have hi:i<M:=by simpa using hi
   have m0:=emod_nonneg ((f:Int)+(0+(i:Int))) (show (26:Int)≠0 by decide);have m1:=Zo ((f:Int)+(0+(i:Int))) (show (0:Int)<26 by decide);have s0:=emod_nonneg ((f:Int)+(0+(i:Int)) / 26) (show (26:Int)≠0 by decide);have s1:=Zo ((f:Int)+(0+(i:Int)) / 26) (show (0:Int)<26 by decide);have c1:97+(((f:Int)+(0+(i:Int))) % 26).toNat=97+(f+i) % 26:=by omega
   have c2:97+(((f:Int)+(0+(i:Int)) / 26) % 26).toNat=97+(f+i / 26) % 26:=by omega
   refine⟨_,rfl,_,rfl,_,rfl,W,_,rfl,SqL.of W5,λp hp=> ?_⟩;rw[Gx (by rw[If];omega),<-map_take];have sp:=Ae (o:= .lst ((ws.take at_).map sg)) hp;have hp1:=Ab (H:=H5) (a:=p) (o:= .lst ((ws.take at_).map sg));generalize upd H5 p (.lst ((ws.take at_).map sg))=H6 at sp hp1;refine⟨_,rfl,_,rfl,_,rfl,_,_,rfl,rfl,_,_,rfl,rfl,(by show (0:Int)<26;decide),LS,_,_,rfl,rfl,A1 (by decide+kernel),Oz m0 m1,A1 (by simp),λq hq=> ?_⟩;rw[c1];have sq:=Ae (o:= .lst [V.str ⟨#[97+(f+i) % 26]⟩]) hq;have hq1:=Ab (H:=H6) (a:=q) (o:= .lst [V.str ⟨#[97+(f+i) % 26]⟩]);generalize upd H6 q (.lst [V.str ⟨#[97+(f+i) % 26]⟩])=Hq at sq hq1;refine⟨p,q,_,_,rfl,rfl,sq _ _ hp1,hq1,A1 (by simp;omega),λh hh=> ?_⟩;have sh:=Ae (o:= .lst ((ws.take at_).map sg++[V.str ⟨#[97+(f+i) % 26]⟩])) hh;have hh1:=Ab (H:=Hq) (a:=h) (o:= .lst ((ws.take at_).map sg++[V.str ⟨#[97+(f+i) % 26]⟩]));generalize upd Hq h (.lst ((ws.take at_).map sg++[V.str ⟨#[97+(f+i) % 26]⟩]))=H7 at sh hh1;have S7:=(sp.trans sq).trans sh;have tl:(ws.take at_).length=at_:=by rw[Yo];omega
   have fin:∀(h':Addr) (hs:List Nat) (H8:Hp),Same H5 H8->H8 h'=some (.lst (hs.map sg))->(∀x∈hs,97<=x/\x<=122)->hs.length<=8->hs[at_]? =some (97+(f+i) % 26)->(26<M->hs[at_+1]? =some (97+(f+i / 26) % 26))->tNm {nx:=λσ H5=>∃(u7 u8 u9:Option V) (zs:List Str),σ=[some (.ref d),some (.int (M:Int)),some (.str LS),some (.int (at_:Int)),some (.ref W),some (.int (f:Int)),some (.ref l),u7,u8,u9]/\But d H H5/\DeckAt H5 d (b+(M - (i+1)))/\H5 W=some (.lst (ws.map sg))/\H5 l=some (.lst (zs.map V.str))/\zs.length=i+1/\(∀z∈zs,A8 z)/\∀(j:Nat) (y:Str),zs[j]? =some y->Nm at_ f M j y,rt:=λ_ _=>True,bk:=λ_ _=>True,ct:=λ_ _=>True} [some (.ref d),some (.int (M:Int)),some (.str LS),some (.int (at_:Int)),some (.ref W),some (.int (f:Int)),some (.ref l),some (.int (0+(i:Int))),some (.ref h'),u9] H8:=by
    intro h' hs H8 s8 e8 hsm h8 g1 g2;have n8:h'≠d:=λe=>by
     obtain⟨x,S,k',hd,_⟩:=D5.same s8;rw[e,hd] at e8;injection e8 with e8;injection e8 with e8
     match hs,g1,e8 with
     |[],g1,_=>simp at g1
     |y::ys,_,e8=>rw[Yp] at e8;injection e8 with e8 _;cases e8
    refine⟨d,W,l,h',_,_,_,_,_,_,ws,hs,zs,b+(M - (i+1)),rfl,(D5.same s8).mono (by omega),s8 _ _ W5,s8 _ _ l5,e8,wl,wsm,hsm,(by have:=(List.getElem?_eq_some_iff.mp g1).1;omega),h8,by omega,nW,nl,n8,λz u9' H' bb DD hl' ⟨r,hz⟩ z8'=> ?_⟩;refine⟨_,_,_,zs++[z],rfl,λx o e n=> ?_,DD,bb _ _ (s8 _ _ W5) nW nlW,hl',by simp[zl],λx hx=> ?_,λj y hy=> ?_⟩
    ·exact bb _ _ (s8 _ _ (b5 _ _ e n)) n (Ay e lH)
    ·rcases mem_append.mp hx with q|q
     ·exact z8 x q
     ·rw[mem_singleton.mp q];exact z8'
    ·rw[getElem?_append] at hy;split at hy
     ·exact zn j y hy
     ·have hj:j=i:=by
       have:=(List.getElem?_eq_some_iff.mp hy).1;simp at this;omega
      subst hj;rw[show j - zs.length=0 by omega] at hy;have:z=y:=by simpa using hy
      subst this;refine⟨?_,λq=> ?_⟩
      ·rw[hz,List.getElem?_append_left (List.getElem?_eq_some_iff.mp g1).1];exact g1
      ·rw[hz,List.getElem?_append_left (List.getElem?_eq_some_iff.mp (g2 q)).1];exact g2 q
   have e7:H7 h=some (.lst ((ws.take at_++[97+(f+i) % 26]).map sg)):=by rw[hh1,map_append];rfl
   refine⟨_,rfl,_,_,rfl,rfl,_,rfl,Cy (λg=> ?_) λg=> ?_⟩
   ·refine⟨_,rfl,_,rfl,_,rfl,_,rfl,_,_,rfl,rfl,⟨by decide,by decide⟩,_,_,rfl,rfl,_,_,rfl,rfl,(by show (0:Int)<26;decide),LS,_,_,rfl,rfl,A1 (by decide+kernel),Oz s0 s1,A1 (by simp),λq2 hq2=> ?_⟩;rw[c2];have sq2:=Ae (o:= .lst [V.str ⟨#[97+(f+i / 26) % 26]⟩]) hq2;have hq3:=Ab (H:=H7) (a:=q2) (o:= .lst [V.str ⟨#[97+(f+i / 26) % 26]⟩]);generalize upd H7 q2 (.lst [V.str ⟨#[97+(f+i / 26) % 26]⟩])=H8 at sq2 hq3;refine⟨h,q2,_,_,rfl,rfl,sq2 _ _ e7,hq3,A1 (by simp;omega),λh2 hh2=> ?_⟩;refine fin h2 (ws.take at_++[97+(f+i) % 26]++[97+(f+i / 26) % 26]) _ ((S7.trans sq2).trans (Ae hh2)) (by rw[Ab,map_append (l₂:=[97+(f+i / 26) % 26])];rfl) (λx hx=> ?_) (by simp;omega) ?_ λ_=> ?_
    ·have tsm:∀x∈ws.take at_,97<=x/\x<=122:=λx hx=>wsm x (Y4 hx);rcases mem_append.mp hx with q|q
     ·rcases mem_append.mp q with q|q
      ·exact tsm x q
      ·rw[mem_singleton.mp q];omega
     ·rw[mem_singleton.mp q];omega
    ·rw[List.getElem?_append_left (by simp;omega),getElem?_append_right (by omega),tl];simp
    ·rw[getElem?_append_right (by simp;omega)];simp[tl]
   ·have g:¬(26:Int)<(M:Int):=by simpa using g
    refine fin h (ws.take at_++[97+(f+i) % 26]) H7 S7 e7 (λx hx=> ?_) (by simp;omega) ?_ λq=>absurd q (by omega)
    ·rcases mem_append.mp hx with q|q
     ·exact wsm x (Y4 q)
     ·rw[mem_singleton.mp q];omega
    rw[getElem?_append_right (by omega),tl];simp
  ·rintro σ H5 ⟨u7,u8,u9,zs,rfl,b5,D5,W5,l5,zl,z8,zn⟩;have zl:zs.length=M:=by simpa using zl
   exact⟨_,rfl,k l zs H5 b5 (D5.mono (by omega)) lH nl l5 zl (Nm.nodup zn (by omega) M60) z8⟩
def M8:Sp:=λvs H Q _=>∃(d:Addr) (b:Nat),vs=[.ref d]/\DeckAt H d (b+2)/\∀(N:Nat) (H':Hp),But d H H'->DeckAt H' d b->1<=N->N<=24->Q (.int (N:Int)) H'
def Ip:Sp:=λvs H Q _=>∃(d:Addr) (b:Nat),vs=[.ref d]/\DeckAt H d (b+2)/\∀(v:Int) (H':Hp),But d H H'->DeckAt H' d b->0<=v->v<=1000000000->Q (.int v) H'
def Nz:Sp:=λvs H Q _=>∃(d th fr:Addr) (N b:Nat) (ln:Bool) (ps:Ps) (fs:List Str),vs=[.ref d,.int (N:Int),.ref th,.ref fr,.bl ln]/\DeckAt H d (b+8)/\2<=N/\N<=24/\ThAt H th ps/\PsOk N ps/\ps.length<=60/\H fr=some (.lst (fs.map V.str))/\0<fs.length/\fs.length<=100/\th≠d/\fr≠d/\
 ∀(t:T4) (r:Addr) (H':Hp),But d H H'->DeckAt H' d b->t.1∈fs->E7 N t->0<=t.2.2.2->t.2.2.2<=1000000000->H' r=some (.tup (Cm t))->Q (.ref r) H'
def X6:TS:=λD σ H=>∃(d:Addr) (u1 u2 u3 u4 u8 u9:Option V) (n:Str) (one other b:Nat),σ=[some (.ref d),u1,u2,u3,u4,some (.str n),some (.int (one:Int)),some (.int (other:Int)),u8,u9]/\DeckAt H d (b+3)/\
 ∀(x y:Nat) (w:Int) (r:Addr) (H':Hp),((x=one/\y=other)\/(x=other/\y=one))->But d H H'->DeckAt H' d b->0<=w->w<=1000000000->H' r=some (.tup (Cm (n,x,y,w)))->D.rt (.ref r) H'
theorem Od{H H':Hp}{d th:Addr}{ps:Ps}{n:Nat}(h:ThAt H th ps)(b:But d H H')(D:DeckAt H d n)(ne:th≠d):ThAt H' th ps:=⟨b _ _ h.1 ne,λp q=>b.tup D (h.2 p q)⟩
theorem scMany:Aw ["_law_deck_here","_law_way"] ["_law_deck_here"] (Ag Jz):=⟨rfl,rfl,rfl,by decide+kernel,rfl,by decide+kernel,by decide+kernel⟩
theorem V6{f:Addr}{fd:FuncData}(F:Fun K "_law_many" "_law_many" Jz f fd)(T:Txt mg){gDraw:Addr}{fDraw:FuncData}(kDraw:keepIn K (.ref gDraw)=true)(bDraw:Binds K fDraw ["_law_deck_here","_law_most"] [])(hDraw:mg "_law_draw"=some (.ref gDraw))(GDraw:FnOk P w K mg base CX0 1 gDraw fDraw ["_law_deck_here","_law_most"] Ee):
  FnOk P w K mg base CX0 2 f fd ["_law_deck_here"] M8:=by
 refine F.ok scMany (λvs H Q E h=> ?_) (λcdv A outer s H vs Q E hr h=> ?_)
 ·obtain⟨_,_,rfl,_⟩:=h;rfl
 ·obtain⟨d,b,rfl,hD,k⟩:=h;refine⟨_,Ad (Al (i:=1) scMany.nd rfl (Or.inl rfl) (Ai GDraw hr rfl hDraw kDraw bDraw .nil Ap (Aa (pv 0) (Aa Af Ac))))
   (Ad (Be (As Cd (pv 1) Af (Av _)) (Ah (Ao Af)) A0)
   (Ad (Be (As Cd (pv 1) Af (Av _)) (Ah (Ao (Ar Bk Af (Ai GDraw hr rfl hDraw kDraw bDraw .nil Ap (Aa (pv 0) (Aa Af Ac)))))) A0)
   (Ah (Ao (Ar Bk Af (Ai GDraw hr rfl hDraw kDraw bDraw .nil Ap (Aa (pv 0) (Aa Af Ac)))))))),?_⟩
  refine⟨_,rfl,d,8,b+1,rfl,hD,by decide,by decide,λv H1 v0 v1 b1 D1=> ?_⟩;refine⟨_,rfl,rfl,_,rfl,Cy (λ_=>k 24 H1 b1 (D1.mono (by omega)) (by omega) (by omega)) λ_=> ?_⟩;dsimp only[Bj];refine⟨_,rfl,rfl,_,rfl,Cy (λ_=>⟨_,rfl,d,24,b,rfl,D1,by decide,by decide,λx H2 x0 x1 b2 D2=>⟨_,_,rfl,rfl,?_⟩⟩) λ_=> ?_⟩
  ·obtain⟨x,rfl⟩:=Di x0;have:=k (1+x) H2 (b1.trans b2) D2 (by omega) (by omega);simpa using this
  dsimp only[Bj];refine⟨_,rfl,d,6,b,rfl,D1,by decide,by decide,λx H2 x0 x1 b2 D2=>⟨_,_,rfl,rfl,?_⟩⟩;obtain⟨x,rfl⟩:=Di x0;have:=k (2+x) H2 (b1.trans b2) D2 (by omega) (by omega);simpa using this
theorem scWeight:Aw ["_law_deck_here","_law_way"] ["_law_deck_here"] (Ag E2):=⟨rfl,rfl,rfl,by decide+kernel,rfl,by decide+kernel,by decide+kernel⟩
theorem P3{f:Addr}{fd:FuncData}(F:Fun K "_law_weight" "_law_weight" E2 f fd)(T:Txt mg){gDraw:Addr}{fDraw:FuncData}(kDraw:keepIn K (.ref gDraw)=true)(bDraw:Binds K fDraw ["_law_deck_here","_law_most"] [])(hDraw:mg "_law_draw"=some (.ref gDraw))(GDraw:FnOk P w K mg base CX0 1 gDraw fDraw ["_law_deck_here","_law_most"] Ee):
  FnOk P w K mg base CX0 2 f fd ["_law_deck_here"] Ip:=by
 refine F.ok scWeight (λvs H Q E h=> ?_) (λcdv A outer s H vs Q E hr h=> ?_)
 ·obtain⟨_,_,rfl,_⟩:=h;rfl
 ·obtain⟨d,b,rfl,hD,k⟩:=h;refine okO ⟨_,Eu (K1 (Al (i:=1) scWeight.nd rfl (Or.inl rfl) (Ai GDraw hr rfl hDraw kDraw bDraw .nil Ap (Aa (pv 0) (Aa Af Ac)))))
   (Eu (K1 (Be (As Cd (pv 1) Af (Av _)) (Ah (Ao (Ai GDraw hr rfl hDraw kDraw bDraw .nil Ap (Aa (pv 0) (Aa (Ar Bk (Ar Gc Af Af) Af) Ac))))) A0))
   (Mt (Pj (Sh Ba (O0 (Bm Bs (Bm Bs (Bm Bs (Bm Bs (Bm Bs (Bm Bs (Bm (Xo Gc Bs Bs) O5)))))))) (Ry (pv 1)) (λ_ _=>rfl))))),?_⟩
  refine⟨_,rfl,d,8,b+1,rfl,hD,by decide,by decide,λv H1 v0 v1 b1 D1=> ?_⟩;refine⟨_,rfl,rfl,_,rfl,Cy (λ_=> ?_) λg=> ?_⟩
  ·refine⟨_,rfl,_,_,rfl,rfl,⟨by decide,by decide,by decide⟩,_,_,rfl,rfl,d,_,b,rfl,D1,by decide,by decide,λx H2 x0 x1 b2 D2=>k x H2 (b1.trans b2) D2 x0 (by have:x<10 ^ 9+1:=x1;omega)⟩
  dsimp only[Bj];have g:v≠7:=by simpa using g
  refine⟨_,_,rfl,rfl,⟨by decide,by decide,by decide⟩,A1 (by simp),λq hq=> ?_⟩;obtain⟨y,hy,iy⟩:=Mb [0,1,1,2,3,7,10 ^ 9] v0 (by show v<7;omega);exact⟨_,rfl,q,_,v,_,rfl,rfl,SqL.of Ab,iy,k y _ (b1.trans (But.of (Ae hq))) ((D1.mono (by omega)).upd (D1.ne hq)) (by simp at hy;omega) (by simp at hy;omega)⟩
theorem scLTie:Aw ["_law_deck_here","_law_many_here","_law_there","_law_free","_law_lined","_law_name","_law_one","_law_other","_law_way","_law_like"] ["_law_deck_here","_law_many_here","_law_there","_law_free","_law_lined"] (Ag Kd):=⟨rfl,rfl,rfl,by decide+kernel,rfl,by decide+kernel,by decide+kernel⟩
theorem Vs{f:Addr}{fd:FuncData}(F:Fun K "_law_tie" "_law_tie" Kd f fd)(T:Txt mg){gDraw:Addr}{fDraw:FuncData}(kDraw:keepIn K (.ref gDraw)=true)(bDraw:Binds K fDraw ["_law_deck_here","_law_most"] [])(hDraw:mg "_law_draw"=some (.ref gDraw))(GDraw:FnOk P w K mg base CX0 2 gDraw fDraw ["_law_deck_here","_law_most"] Ee){gWeight:Addr}{fWeight:FuncData}(kWeight:keepIn K (.ref gWeight)=true)(bWeight:Binds K fWeight ["_law_deck_here"] [])(hWeight:mg "_law_weight"=some (.ref gWeight))(GWeight:FnOk P w K mg base CX0 2 gWeight fWeight ["_law_deck_here"] Ip):
  FnOk P w K mg base CX0 3 f fd ["_law_deck_here","_law_many_here","_law_there","_law_free","_law_lined"] Nz:=by
 refine F.ok scLTie (λvs H Q E h=> ?_) (λcdv A outer s H vs Q E hr h=> ?_)
 ·obtain⟨_,_,_,_,_,_,_,_,rfl,_⟩:=h;rfl
 ·obtain⟨d,th,fr,N,b,ln,ps,fs,rfl,hD,N2,N24,hT,hP,p60,hF,f0,f100,nth,nfr,k⟩:=h;refine⟨_,Ad (Al (i:=5) scLTie.nd rfl (Or.inl rfl) (Ax Ba (pv 3) (Ai GDraw hr rfl hDraw kDraw bDraw .nil Ap (Aa (pv 0) (Aa (An A7 (by rfl) T.len PySem.boot_len (Aa (pv 3) Ac)) Ac))) (λ_ _=>rfl)))
   (Ad (Al (i:=6) scLTie.nd rfl (Or.inl rfl) (Ai GDraw hr rfl hDraw kDraw bDraw .nil Ap (Aa (pv 0) (Aa (pv 1) Ac))))
   (Ad (Al (i:=7) scLTie.nd rfl (Or.inl rfl) (Ar By (Ar Bk (Ar Bk (pv 6) Af) (Ai GDraw hr rfl hDraw kDraw bDraw .nil Ap (Aa (pv 0) (Aa (Ar Ig (pv 1) Af) Ac)))) (pv 1)))
   (Ad (Al (i:=8) scLTie.nd rfl (Or.inl rfl) (Ai GDraw hr rfl hDraw kDraw bDraw .nil Ap (Aa (pv 0) (Aa Af Ac))))
   (Ad (Be (Ce (pv 4)) (Ad (Al (i:=6) scLTie.nd rfl (Or.inl rfl) (Ar By (An Go (by rfl) T.len PySem.boot_len (Aa (pv 2) Ac)) (pv 1)))
   (Ah (Al (i:=7) scLTie.nd rfl (Or.inl rfl) (Ar By (Ar Bk (pv 6) Af) (pv 1))))) (Ah (Be (PW.pt (Ir (As Cd (pv 8) Af (Av _)) (Ga (As (J2 hr.units0) (pv 2) Dr (Av _))))) (Ad (Al (i:=9) scLTie.nd rfl (Or.inl rfl) (Oq (G5 hr) (pv 2) (Ax Ba (An (Srt.call_sortedD rfl) (by rfl) T.sorted (by decide+kernel) (Aa (pv 2) Ac)) (Ai GDraw hr rfl hDraw kDraw bDraw .nil Ap (Aa (pv 0) (Aa (An Go (by rfl) T.len PySem.boot_len (Aa (pv 2) Ac)) Ac))) (λ_ _=>rfl)) (λ_ _=>rfl)))
   (Ad (Al (i:=6) scLTie.nd rfl (Or.inl rfl) (Ax A3 (pv 9) Af (λ_ _=>rfl)))
   (Ah (Al (i:=7) scLTie.nd rfl (Or.inl rfl) (Ax A3 (pv 9) Af (λ_ _=>rfl)))))) (Ah (Be (As Cd (pv 8) Af (Av _)) (Ah (Al (i:=7) scLTie.nd rfl (Or.inl rfl) (Ar By (Ar Bk (pv 6) Af) (pv 1)))) A0)))))
   (PSs.imp' (t':=X6) (Ad (Be (As Cd (Ai GDraw hr rfl hDraw kDraw bDraw .nil Ap (Aa (pv 0) (Aa Af Ac))) Af (Av _)) (Ah (Xm (i:=6) (j:=7) rfl scLTie.nd rfl rfl (by decide) rfl rfl (Aa (pv 7) (Aa (pv 6) Ac)) rfl)) A0)
   (Ah (Ao (Bv (Aa (pv 5) (Aa (pv 6) (Aa (pv 7) (Aa (Ai GWeight hr rfl hWeight kWeight bWeight .nil Ap (Aa (pv 0) Ac)) Ac)))))))) ?tail))))),?_⟩
  case tail=>
   clear k hT hP hD hF f0 f100 p60 N2 N24;rintro D σ H ⟨d,u1,u2,u3,u4,u8,u9,n,one,other,b,rfl,hD,k⟩;refine⟨_,rfl,d,2,b+2,rfl,hD,by decide,by decide,λv H1 _ _ b1 D1=>⟨rfl,_,rfl,Cy (λ_=> ?_) λ_=> ?_⟩⟩
   ·refine⟨_,rfl,_,rfl,_,_,rfl,?_⟩;exact⟨_,rfl,_,rfl,_,rfl,_,rfl,d,b,rfl,D1,λw H2 b2 D2 w0 w1=>⟨A1 (by simp),λr hr'=>k other one w r _ (.inr ⟨rfl,rfl⟩) ((b1.trans b2).trans (But.of (Ae hr'))) (D2.upd (D2.ne hr')) w0 w1 Ab⟩⟩
   ·exact⟨_,rfl,_,rfl,_,rfl,_,rfl,d,b,rfl,D1,λw H2 b2 D2 w0 w1=>⟨A1 (by simp),λr hr'=>k one other w r _ (.inl ⟨rfl,rfl⟩) ((b1.trans b2).trans (But.of (Ae hr'))) (D2.upd (D2.ne hr')) w0 w1 Ab⟩⟩
  refine⟨_,rfl,_,rfl,_,rfl,fr,_,rfl,.inl (SqL.of hF),d,_,b+7,rfl,hD,by rw[If];omega,by rw[If];omega,λv H1 v0 v1 b1 D1=> ?_⟩;rw[If] at v1;obtain⟨n,hn,_,an⟩:=Hx fs v0 v1;refine⟨fr,_,v,_,rfl,rfl,SqL.of (b1 _ _ hF nfr),an,?_⟩;refine⟨_,rfl,_,rfl,d,_,b+6,rfl,D1,by omega,by omega,λone H2 o0 o1 b2 D2=> ?_⟩;obtain⟨one,rfl⟩:=Di o0;refine⟨_,rfl,_,_,rfl,rfl,_,rfl,_,rfl,_,_,rfl,rfl,d,_,b+5,rfl,D2,by omega,by omega,λx H3 x0 x1 b3 D3=>⟨_,_,rfl,rfl,_,rfl,_,_,rfl,rfl,(by show (0:Int)<N;omega),?_⟩⟩;obtain⟨x,rfl⟩:=Di x0;have om:=Tq (N:=N) (a:=one) (v:=x) (by omega) (by omega);have oe:((one:Int)+1+(x:Int)) % (N:Int)=(((one+1+x) % N:Nat):Int):=by rw[<-Hm];simp
  dsimp only;rw[oe];generalize (one+1+x) % N=other at om;refine⟨_,rfl,d,4,b+4,rfl,D3,by decide,by decide,λway H4 w0 w1 b4 D4=> ?_⟩;have B4:But d H H4:=((b1.trans b2).trans b3).trans b4;have T4:=Od hT B4 hD nth;have oN:one<N:=by omega
  have fin:∀(one other:Nat) (c:Nat) (u4 u8 u9:Option V) (H5:Hp),But d H H5->DeckAt H5 d (b+3)->E7 N (n,one,other,0)->X6 {nx:=λ_ _=>True,rt:=Q,bk:=λ_ _=>True,ct:=λ_ _=>True} [some (.ref d),some (.int (N:Int)),some (.ref th),some (.ref fr),u4,some (.str n),some (.int (one:Int)),some (.int (other:Int)),u8,u9] H5:=by
   intro one other c u4 u8 u9 H5 b5 D5 hok;refine⟨d,_,_,_,_,_,_,n,one,other,b,rfl,D5,λx y w r H' hxy b' D' w0 w1 hr'=> ?_⟩;refine k (n,x,y,w) r H' (b5.trans b') D' hn ?_ w0 w1 hr';obtain⟨h1,h2,h3⟩:=hok;rcases hxy with⟨rfl,rfl⟩|⟨rfl,rfl⟩
   ·exact⟨h1,h2,h3⟩
   ·exact⟨h2,h1,Ne.symm h3⟩
  cases ln with
  |true=>
   refine⟨_,rfl,_,rfl,B9 ?_⟩;refine⟨_,rfl,th,_,rfl,T4.1,_,rfl,_,_,rfl,rfl,(by show (0:Int)<N;omega),?_⟩;dsimp only;rw[Hm];have hl:(psK ps).length % N<N:=mod_lt _ (by omega);generalize (psK ps).length % N=l at hl;refine⟨_,rfl,_,_,rfl,rfl,_,rfl,_,_,rfl,rfl,(by show (0:Int)<N;omega),?_⟩;have e:((l:Int)+1) % (N:Int)=(((l+1) % N:Nat):Int):=by rw[<-Hm];simp
   dsimp only;rw[e];have:=Pe hl N2;exact fin l _ 0 _ _ _ H4 B4 (D4.mono (by omega)) ⟨hl,this.2,Ne.symm this.1⟩
  |false=>
   refine⟨_,rfl,_,rfl,Bp ?_⟩;have rest:∀(H5:Hp),But d H H5->DeckAt H5 d (b+3)->(∀t:TS,True)->tIfS (Sg (tOp rEq (Oe 8) (tC (.int 1)))) (Vf (tOp (rI (λ_ j=>0<j) λi j=> .int (i % j)) (tOp (rI0 λi j=> .int (i+j)) (Oe 6) (tC (.int 1))) (Oe 1)) (gName 7)) Bj {nx:=λσ H=>X6 {nx:=λ_ _=>True,rt:=Q,bk:=λ_ _=>True,ct:=λ_ _=>True} σ H,rt:=Q,bk:=λ_ _=>True,ct:=λ_ _=>True} [some (.ref d),some (.int (N:Int)),some (.ref th),some (.ref fr),some (.bl false),some (.str n),some (.int (one:Int)),some (.int (other:Int)),some (.int way),none] H5:=by
    intro H5 b5 D5 _;refine⟨_,rfl,rfl,_,rfl,Cy (λ_=> ?_) λ_=> ?_⟩
    ·refine⟨_,rfl,_,_,rfl,rfl,_,rfl,_,_,rfl,rfl,(by show (0:Int)<N;omega),?_⟩;have e:((one:Int)+1) % (N:Int)=(((one+1) % N:Nat):Int):=by rw[<-Hm];simp
     dsimp only;rw[e];have:=Pe oN N2;exact fin one _ 0 _ _ _ H5 b5 D5 ⟨oN,this.2,Ne.symm this.1⟩
    ·exact fin one other 0 _ _ _ H5 b5 D5 ⟨oN,om.2,Ne.symm om.1⟩
   refine⟨_,rfl,rfl,_,rfl,Cy (λ_=>⟨_,rfl,λe he=> ?_⟩) λ_=>Bp ?_⟩
   rotate_left
   ·exact rest H4 B4 (D4.mono (by omega)) λ_=>trivial
   have se:=Ae (o:= .dK []) he;have e5:=Ab (H:=H4) (a:=e) (o:= .dK []);have D5:=D4.same se;generalize upd H4 e (.dK [])=H5 at se e5 D5;have B5:But d H H5:=B4.trans (But.of se);have T5:=T4.same se;refine⟨th,e,_,rfl,rfl,T5.1,e5,_,rfl,Cy (λg=> ?_) λ_=> ?_⟩
   rotate_left
   ·exact rest H5 B5 (D5.mono (by omega)) λ_=>trivial
   have pne:ps≠[]:=λe=>by rw[e] at g;simp[psK] at g
   have pl:0<ps.length:=List.length_pos_iff.mpr pne;refine⟨_,rfl,_,rfl,th,_,_,rfl,T5.1,Ms ps,by rw[If];omega,λl ns hl perm _=> ?_⟩;have sl:=Ae (o:= .lst (ns.map V.str)) hl;have l6:=Ab (H:=H5) (a:=l) (o:= .lst (ns.map V.str));have D6:=D5.same sl;have nl:=D5.ne hl;have T6:=T5.same sl;generalize upd H5 l (.lst (ns.map V.str))=H6 at sl l6 D6 T6;have nsl:ns.length=ps.length:=by rw[perm.length_eq,If]
   have pk:(psK ps).length=ps.length:=by unfold psK;rw[If]
   refine⟨_,rfl,_,rfl,th,_,rfl,T6.1,d,_,b+3,rfl,D6,by rw[pk];omega,by rw[pk];omega,λy H7 y0 y1 b7 D7=> ?_⟩;rw[pk] at y1;obtain⟨m,hm,_,am⟩:=Hx ns y0 (by omega);have T7:=Od T6 b7 D6 nth;obtain⟨p,hp,rfl⟩:=mem_map.mp (perm.mem_iff.mp hm);refine⟨l,_,y,_,rfl,rfl,SqL.of (b7 _ _ l6 nl),am,th,_,rfl,(L4 hp hP.nd)▸DGet.k (k:=Sum.inr p.1.1) T7.1,?_⟩;have ep:=T7.2 p hp;refine⟨_,rfl,p.2,_,0,_,rfl,rfl,SqT.of ep,Ak (j:=0) rfl,?_⟩;refine⟨_,rfl,p.2,_,1,_,rfl,rfl,SqT.of ep,Ak (j:=1) rfl,?_⟩;exact fin p.1.2.1 p.1.2.2.1 0 _ _ _ H7 ((B5.trans (But.of sl)).trans b7) D7 (hP.ok p hp)
def Tx:Sp:=λvs H Q _=>∃(d:Addr) (b:Nat),vs=[.ref d]/\DeckAt H d (b+2)/\∀(v:Int) (H':Hp),But d H H'->DeckAt H' d b->0<=v->v<=1000000000->Q (.int v) H'
structure HI(d de th nm:Addr)(N:Nat)(zs:List Str)(H0:Hp)(b:Nat)(mo:Int)(ps:Ps)(rs:List Addr)(ds:List Dd)(H:Hp):Prop where
 bt:But d H0 H
 dk:DeckAt H d b
 hn:H nm=some (.lst (zs.map V.str))
 ht:ThAt H th ps
 po:PsOk N ps
 fs:ps.map (·.1)=thr ds
 hd:H de=some (.lst (rs.map V.ref))
 dd:DdsAt H rs ds
 rt:Right N ds
 m0:0<=mo
 m1:mo<=1000000000
 mu:∀x∈ds,x.mo<=mo
 nz:∀x∈ds,x.nm∈zs
structure HS(d de th nm:Addr)(N:Nat)(zs:List Str)(H0:Hp):Prop where
 nde:de≠d
 nth:th≠d
 nnm:nm≠d
 hde:H0 de=none
 hth:H0 th=none
 dnm:de≠nm
 znd:zs.Nodup
 zl:zs.length<=60
theorem HI.but{d de th nm:Addr}{N:Nat}{zs:List Str}{H0 H H':Hp}{b b':Nat}{mo:Int}{ps:Ps}{rs:List Addr}{ds:List Dd}(I:HI d de th nm N zs H0 b mo ps rs ds H)(S:HS d de th nm N zs H0)(h:But d H H')(D:DeckAt H' d b'):HI d de th nm N zs H0 b' mo ps rs ds H':=
 {I with bt:=I.bt.trans h,dk:=D,hn:=h _ _ I.hn S.nnm,ht:=Od I.ht h I.dk S.nth,hd:=h _ _ I.hd S.nde,dd:=I.dd.mono λr xs e=>h.tup I.dk e}
theorem HI.same{d de th nm:Addr}{N:Nat}{zs:List Str}{H0 H H':Hp}{b:Nat}{mo:Int}{ps:Ps}{rs:List Addr}{ds:List Dd}(I:HI d de th nm N zs H0 b mo ps rs ds H)(S:HS d de th nm N zs H0)(s:Same H H'):HI d de th nm N zs H0 b mo ps rs ds H':=I.but S (But.of s) (I.dk.same s)
theorem Ub:∀(ds:List Dd) (S:List T4) (t:T4),t∈ds.foldl E8 S->t∈S\/∃x∈ds,x.nm=t.1
 |[],S,t,h=> .inl h
 |x::ds,S,t,h=>by
  rcases Ub ds (E8 S x) t h with g|⟨y,hy,e⟩
  ·cases x with
   |come m u=>
    rcases mem_append.mp g with g|g
    ·exact .inl g
    ·exact .inr ⟨_,Yl ..,by rw[mem_singleton.mp g];rfl⟩
   |go m n=>exact .inl (mem_filter.mp g).1
  ·exact .inr ⟨y,Yn _ hy,e⟩
theorem Ik{N:Nat}{ds:List Dd}{d:Dd}(h:Right N ds)(ok:X5 N (thr ds) d)(l:ds.length<60)(m:0<=d.mo/\d.mo<=1000000000)(up:∀x∈ds,x.mo<=d.mo)(wt:∀m t,d= .come m t->0<=t.2.2.2/\t.2.2.2<=1000000000):Right N (ds++[d]):=by
 refine⟨λi x e=> ?_,by simp;omega,λx hx=> ?_,?_,λm' t hx=> ?_⟩
 ·rw[getElem?_append] at e;split at e
  ·rename_i hi;rw[List.take_append_of_le_length (by omega)];exact h.ok i x e
  ·have hi:i - ds.length=0:=by
    have:=(List.getElem?_eq_some_iff.mp e).1;simp at this;omega
   rw[hi] at e;cases e;rw[show i=ds.length by omega,List.take_left];exact ok
 ·rcases mem_append.mp hx with q|q
  ·exact h.mo x q
  ·rw[mem_singleton.mp q];exact m
 ·refine List.pairwise_append.mpr ⟨h.up,List.pairwise_singleton ..,λx hx y hy=> ?_⟩;rw[mem_singleton.mp hy];exact up x hx
 ·rcases mem_append.mp hx with q|q
  ·exact h.wt m' t q
  ·exact wt m' t (mem_singleton.mp q).symm
theorem Du{H H':Hp}{rs:List Addr}{ds:List Dd}{r:Addr}{d:Dd}(h:DdsAt H rs ds)(f:∀a xs,H a=some (.tup xs)->H' a=some (.tup xs))(hr:H' r=some (.tup d.vs)):DdsAt H' (rs++[r]) (ds++[d]):=by
 refine⟨by simp[h.1],λi a x ha hx=> ?_⟩;rw[getElem?_append] at ha hx;by_cases hi:i<rs.length
 ·rw[Yf hi] at ha;rw[Yf (by rw[<-h.1];exact hi)] at hx;exact f _ _ (h.2 i a x ha hx)
 ·rw[Lt hi] at ha;rw[Lt (by rw[<-h.1];exact hi),<-h.1] at hx;have:i - rs.length=0:=by
   have:=(List.getElem?_eq_some_iff.mp ha).1;simp at this;omega
  rw[this] at ha hx;cases ha;cases hx;exact hr
def hσ(d nm th de:Addr)(N:Nat)(u1 u4:Option V)(ln:Bool)(mo:Int)(u9 u10 u11 u12:Option V):St:=[some (.ref d),u1,some (.int (N:Int)),some (.ref nm),u4,some (.bl ln),some (.ref th),some (.int mo),some (.ref de),u9,u10,u11,u12]
def tGo:TS:=λD σ H=>∃(d de th nm:Addr) (N:Nat) (zs:List Str) (H0:Hp) (b:Nat) (mo:Int) (ps:Ps) (rs:List Addr) (ds:List Dd) (u1 u4 u9 u10 u11 u12:Option V) (ln:Bool),σ=hσ d nm th de N u1 u4 ln mo u9 u10 u11 u12/\HS d de th nm N zs H0/\HI d de th nm N zs H0 (b+1) mo ps rs ds H/\0<ps.length/\ds.length<60/\
 ∀(u11':Option V) ps' rs' ds' H',HI d de th nm N zs H0 b mo ps' rs' ds' H'->ds'.length=ds.length+1->D.nx (hσ d nm th de N u1 u4 ln mo u9 u10 u11' u12) H'
def Wr:TS:=λD σ H=>∃(d de th nm fr:Addr) (N:Nat) (zs fz:List Str) (H0:Hp) (b:Nat) (mo:Int) (ps:Ps) (rs:List Addr) (ds:List Dd) (u1 u4 u9 u11 u12:Option V) (ln:Bool),σ=hσ d nm th de N u1 u4 ln mo u9 (some (.ref fr)) u11 u12/\HS d de th nm N zs H0/\HI d de th nm N zs H0 (b+8) mo ps rs ds H/\2<=N/\N<=24/\H fr=some (.lst (fz.map V.str))/\fr≠d/\0<fz.length/\fz.length<=100/\(∀n∈fz,n ∉ ps.map (·.1.1)/\n∈zs)/\ds.length<60/\
 ∀(u12':Option V) ps' rs' ds' H',HI d de th nm N zs H0 b mo ps' rs' ds' H'->ds'.length=ds.length+1->D.nx (hσ d nm th de N u1 u4 ln mo u9 (some (.ref fr)) u11 u12') H'
def Gd:Sp:=λvs H Q _=>∃(d:Addr) (M b:Nat),vs=[.ref d,.int (M:Int)]/\M<=60/\DeckAt H d (b+800)/\∀(h:Addr) (N:Nat) (ds:List Dd) (H':Hp),But d H H'->DeckAt H' d b->HistAt H' h N ds->Right N ds->(∀x∈ds,A8 x.nm)->1<=N->N<=24->Q (.ref h) H'
def tHist:TS:=λD σ H=>∃(d nm:Addr) (N b c:Nat) (zs:List Str) (u1 u5 u6 u7 u8 u9 u10 u11 u12:Option V),σ=[some (.ref d),u1,some (.int (N:Int)),some (.ref nm),some (.int (c:Int)),u5,u6,u7,u8,u9,u10,u11,u12]/\c<=60/\DeckAt H d (b+700)/\1<=N/\N<=24/\H nm=some (.lst (zs.map V.str))/\0<zs.length/\zs.length<=60/\zs.Nodup/\(∀z∈zs,A8 z)/\nm≠d/\∀(h:Addr) (ds:List Dd) (H':Hp),But d H H'->DeckAt H' d b->HistAt H' h N ds->Right N ds->(∀x∈ds,A8 x.nm)->D.rt (.ref h) H'
theorem scGap:Aw ["_law_deck_here","_law_way"] ["_law_deck_here"] (Ag P5):=⟨rfl,rfl,rfl,by decide+kernel,rfl,by decide+kernel,by decide+kernel⟩
theorem Xq{f:Addr}{fd:FuncData}(F:Fun K "_law_gap" "_law_gap" P5 f fd)(T:Txt mg){gDraw:Addr}{fDraw:FuncData}(kDraw:keepIn K (.ref gDraw)=true)(bDraw:Binds K fDraw ["_law_deck_here","_law_most"] [])(hDraw:mg "_law_draw"=some (.ref gDraw))(GDraw:FnOk P w K mg base CX0 1 gDraw fDraw ["_law_deck_here","_law_most"] Ee):
  FnOk P w K mg base CX0 2 f fd ["_law_deck_here"] Tx:=by
 refine F.ok scGap (λvs H Q E h=> ?_) (λcdv A outer s H vs Q E hr h=> ?_)
 ·obtain⟨_,_,rfl,_⟩:=h;rfl
 ·obtain⟨d,b,rfl,hD,k⟩:=h;refine okO ⟨_,Eu (K1 (Al (i:=1) scGap.nd rfl (Or.inl rfl) (Ai GDraw hr rfl hDraw kDraw bDraw .nil Ap (Aa (pv 0) (Aa Af Ac)))))
   (Eu (K1 (Be (As Cd (pv 1) Af (Av _)) (Ah (Ao (Ai GDraw hr rfl hDraw kDraw bDraw .nil Ap (Aa (pv 0) (Aa (Ar Gc Af Af) Ac))))) A0))
   (Mt (Pj (Sh Ba (O0 (Bm Bs (Bm Bs (Bm Bs (Bm Bs (Bm Bs (Bm Bs (Bm Bs O5)))))))) (Ry (pv 1)) (λ_ _=>rfl))))),?_⟩
  refine⟨_,rfl,d,8,b+1,rfl,hD,by decide,by decide,λv H1 v0 v1 b1 D1=> ?_⟩;refine⟨_,rfl,rfl,_,rfl,Cy (λ_=> ?_) λg=> ?_⟩
  ·refine⟨_,rfl,_,_,rfl,rfl,⟨by decide,by decide,by decide⟩,d,_,b,rfl,D1,by decide,by decide,λx H2 x0 x1 b2 D2=>k x H2 (b1.trans b2) D2 x0 (by have:x<10 ^ 9:=x1;omega)⟩
  dsimp only[Bj];have g:v≠7:=by simpa using g
  refine⟨A1 (by simp),λq hq=> ?_⟩;obtain⟨y,hy,iy⟩:=Mb [0,0,1,1,2,5,0] v0 (by show v<7;omega);exact⟨_,rfl,q,_,v,_,rfl,rfl,SqL.of Ab,iy,k y _ (b1.trans (But.of (Ae hq))) ((D1.mono (by omega)).upd (D1.ne hq)) (by simp at hy;omega) (by simp at hy;omega)⟩
theorem scHistory:Aw ["_law_deck_here","_law_most","_law_many_here","_law_names_here","_law_count","_law_lined","_law_there","_law_moment","_law_deeds","_law_k","_law_free","_law_name","_law_tie_here"] ["_law_deck_here","_law_most"] (Ag Cz):=⟨rfl,rfl,rfl,by decide+kernel,rfl,by decide+kernel,by decide+kernel⟩
theorem N6{f:Addr}{fd:FuncData}(F:Fun K "_law_history" "_law_history" Cz f fd)(T:Txt mg){gDraw:Addr}{fDraw:FuncData}(kDraw:keepIn K (.ref gDraw)=true)(bDraw:Binds K fDraw ["_law_deck_here","_law_most"] [])(hDraw:mg "_law_draw"=some (.ref gDraw))(GDraw:FnOk P w K mg base CX0 3 gDraw fDraw ["_law_deck_here","_law_most"] Ee){gNames:Addr}{fNames:FuncData}(kNames:keepIn K (.ref gNames)=true)(bNames:Binds K fNames ["_law_deck_here","_law_many_here"] [])(hNames:mg "_law_names"=some (.ref gNames))(GNames:FnOk P w K mg base CX0 3 gNames fNames ["_law_deck_here","_law_many_here"] Lg){gMany:Addr}{fMany:FuncData}(kMany:keepIn K (.ref gMany)=true)(bMany:Binds K fMany ["_law_deck_here"] [])(hMany:mg "_law_many"=some (.ref gMany))(GMany:FnOk P w K mg base CX0 3 gMany fMany ["_law_deck_here"] M8){gGap:Addr}{fGap:FuncData}(kGap:keepIn K (.ref gGap)=true)(bGap:Binds K fGap ["_law_deck_here"] [])(hGap:mg "_law_gap"=some (.ref gGap))(GGap:FnOk P w K mg base CX0 3 gGap fGap ["_law_deck_here"] Tx){gLTie:Addr}{fLTie:FuncData}(kLTie:keepIn K (.ref gLTie)=true)(bLTie:Binds K fLTie ["_law_deck_here","_law_many_here","_law_there","_law_free","_law_lined"] [])(hLTie:mg "_law_tie"=some (.ref gLTie))(GLTie:FnOk P w K mg base CX0 3 gLTie fLTie ["_law_deck_here","_law_many_here","_law_there","_law_free","_law_lined"] Nz):
  FnOk P w K mg base CX0 4 f fd ["_law_deck_here","_law_most"] Gd:=by
 refine F.ok scHistory (λvs H Q E h=> ?_) (λcdv A outer s H vs Q E hr h=> ?_)
 ·obtain⟨_,_,_,rfl,_⟩:=h;rfl
 ·obtain⟨d,M,b,rfl,M60,hD,k⟩:=h;refine⟨_,Ad (Al (i:=2) scHistory.nd rfl (Or.inl rfl) (Ai GMany hr rfl hMany kMany bMany .nil Ap (Aa (pv 0) Ac)))
   (Ad (Al (i:=3) scHistory.nd rfl (Or.inl rfl) (Ai GNames hr rfl hNames kNames bNames .nil Ap (Aa (pv 0) (Aa (Ax Ba (B7 (Aa Af (Aa Af Ac))) (Bd Gu (by rfl) T.int (by decide+kernel) (Aa (Br Cd (Ai GDraw hr rfl hDraw kDraw bDraw .nil Ap (Aa (pv 0) (Aa Af Ac))) Af (Av _)) Ac)) (λ_ _=>rfl)) Ac))))
   (Ad (Al (i:=4) scHistory.nd rfl (Or.inl rfl) (Ai GDraw hr rfl hDraw kDraw bDraw .nil Ap (Aa (pv 0) (Aa Af Ac))))
   (Ad (Be (As Cd (Ai GDraw hr rfl hDraw kDraw bDraw .nil Ap (Aa (pv 0) (Aa Af Ac))) Af (Av _)) (Ah (Al (i:=4) scHistory.nd rfl (Or.inl rfl) (pv 1))) A0)
   (PSs.imp' (t':=tHist) (Ad (Al (i:=5) scHistory.nd rfl (Or.inl rfl) (Br Cd (Ai GDraw hr rfl hDraw kDraw bDraw .nil Ap (Aa (pv 0) (Aa Af Ac))) Af (Av _)))
   (Ad (Al (i:=6) scHistory.nd rfl (Or.inr rfl) Dr)
   (Ad (Al (i:=7) scHistory.nd rfl (Or.inl rfl) Af)
   (Ad (Al (i:=8) scHistory.nd rfl (Or.inl rfl) (B7 Ac))
   (Ad (Ea PassesOwn.never rfl (Cf rfl T.range (Aa (Ar Fd (pv 4) (Bd Gu (by rfl) T.int (by decide+kernel) (Aa (Br Ta (pv 2) Af (Av _)) Ac))) Ac)) (Am (i:=9) scHistory.nd rfl (Or.inl rfl)) (Ad (Al (i:=7) scHistory.nd rfl (Or.inl rfl) (An (J8 rfl) (by rfl) T.min (by decide+kernel) (Aa (Ar Gc Af Af) (Aa (Ar Bk (pv 7) (Ai GGap hr rfl hGap kGap bGap .nil Ap (Aa (pv 0) Ac))) Ac))))
   (Ad (Dy (i:=10) (T:=["_law_name"]) (F:=["_law_there"]) (js:=[6]) scHistory.nd rfl (Or.inl rfl) (CS.to (osc:=Ag Cz) ⟨by rfl,by decide+kernel,by decide+kernel,by decide+kernel,by decide+kernel,by decide+kernel,by decide+kernel⟩ rfl rfl) rfl (Ll (pv 3)) (λ_ _ _ _ _=>Am (i:=0) (show (["_law_name","_law_there"]:List Str).Nodup by decide+kernel) rfl (Or.inl rfl)) (λ_ _ _ _ _=>Dh (Xn (Qb (G5 hr) (pv 0) (pv 1)))) (λ_ _ _ _ _=>pv 0))
   (Ah (Be (PW.pt (Ir (As (J2 hr.units0) (pv 6) Dr (Av _)) (Ga (PW.pt (Fz (As (Mh hr.units) (pv 10) (B7 Ac) (Av _)) (Eb (As Cd (Ai GDraw hr rfl hDraw kDraw bDraw .nil Ap (Aa (pv 0) (Aa (Ar Bk Af (Ar Fd Af (Bd Gu (by rfl) T.int (by decide+kernel) (Aa (pv 5) Ac)))) Ac))) Af (Av _)))))))) (PSs.imp' (t':=tGo) (Ad (Al (i:=11) scHistory.nd rfl (Or.inl rfl) (Ax Ba (An (Srt.call_sortedD rfl) (by rfl) T.sorted (by decide+kernel) (Aa (pv 6) Ac)) (Ai GDraw hr rfl hDraw kDraw bDraw .nil Ap (Aa (pv 0) (Aa (An Go (by rfl) T.len PySem.boot_len (Aa (pv 6) Ac)) Ac))) (λ_ _=>rfl)))
   (Ad (Cl (Tf (pv 6) (pv 11) ⟨rfl,rfl,rfl,rfl⟩))
   (Ah (Cl (Db Yy PySem.F.slot_list_append PySem.F.type_list_append Bu (pv 8) (Aa (Bv (Aa Bo (Aa (pv 7) (Aa (pv 11) Ac)))) Ac)))))) ?go) (PSs.imp' (t':=Wr) (Ad (Al (i:=12) scHistory.nd rfl (Or.inl rfl) (Ai GLTie hr rfl hLTie kLTie bLTie .nil Ap (Aa (pv 0) (Aa (pv 2) (Aa (pv 6) (Aa (pv 10) (Aa (pv 5) Ac)))))))
   (Ad (Hj (G5 hr) (pv 6) (Ax A3 (pv 12) Af (λ_ _=>rfl)) (Cb Kx (pv 12) (Cj Af) Cv) rfl)
   (Ah (Cl (Db Yy PySem.F.slot_list_append PySem.F.type_list_append Bu (pv 8) (Aa (Ar Eh (Bv (Aa Bo (Aa (pv 7) Ac))) (pv 12)) Ac)))))) ?come))))))
   (Ah (Ao (Bv (Aa (pv 2) (Aa (Bd A9 (by rfl) T.tuple (by decide+kernel) (Aa (pv 8) Ac)) Ac)))))))))) ?tail)))),?_⟩
  case go=>
   clear k hD M60;rintro DD σ H ⟨d,de,th,nm,N,zs,H0,b,mo,ps,rs,ds,u1,u4,u9,u10,u11,u12,ln,rfl,S,I,pp,d60,k⟩;have p60:ps.length<=60:=by
    rw[<-If (f:=(·.1)),I.fs];have:=De ds ds.length;rw[Yv] at this;omega
   refine⟨_,rfl,th,_,_,rfl,I.ht.1,Ms ps,by rw[If];omega,λl ns hl perm _=> ?_⟩;have sl:=Ae (o:= .lst (ns.map V.str)) hl;have l1:=Ab (H:=H) (a:=l) (o:= .lst (ns.map V.str));have nl:=I.dk.ne hl;have I1:=I.same S sl;generalize upd H l (.lst (ns.map V.str))=H1 at sl l1 I1;have nsl:ns.length=ps.length:=by rw[perm.length_eq,If]
   have pk:(psK ps).length=ps.length:=by unfold psK;rw[If]
   refine⟨_,rfl,_,rfl,th,_,rfl,I1.ht.1,d,_,b,rfl,I1.dk,by rw[pk];omega,by rw[pk];omega,λy H2 y0 y1 b2 D2=> ?_⟩;rw[pk] at y1;obtain⟨m,hm,_,am⟩:=Hx ns y0 (by omega);have I2:=I1.but S b2 D2;have mp:=perm.mem_iff.mp hm;have mzs:m∈zs:=by
    have q:m∈(thr ds).map (·.1):=by rw[<-I2.fs,Ej];exact mp
    obtain⟨t,ht,rfl⟩:=mem_map.mp q;rcases Ub ds [] t ht with h|⟨x,hx,e⟩
    ·cases h
    ·rw[<-e];exact I2.nz x hx
   obtain⟨p,hp,ep⟩:=mem_map.mp mp;refine⟨l,_,y,_,rfl,rfl,SqL.of (b2 _ _ l1 nl),am,?_⟩;have hv:=L4 hp I2.po.nd;refine⟨_,rfl,th,rfl,.inl ⟨_,.inl I2.ht.1⟩,_,rfl,psK ps,Sum.inr m,.ref p.2,I2.ht.1,rfl,by rw[<-ep];exact hv,?_⟩;rw[Jb];have tup3:∀(a:Addr) xs,H2 a=some (.tup xs)->upd H2 th (.dK (psK (ps.filter λp=>decide (p.1.1≠m)))) a=some (.tup xs):=λa xs e=>by
    rw[Aj (A5 e I2.ht.1 (by intro z;cases z))];exact e
   have T3:ThAt (upd H2 th (.dK (psK (ps.filter λp=>decide (p.1.1≠m))))) th (ps.filter λp=>decide (p.1.1≠m)):=⟨Ab,λq hq=>tup3 _ _ (I2.ht.2 q (mem_filter.mp hq).1)⟩
   have hd3:upd H2 th (.dK (psK (ps.filter λp=>decide (p.1.1≠m)))) de=some (.lst (rs.map V.ref)):=by rw[Aj (A5 I2.hd I2.ht.1 (by intro z;cases z))];exact I2.hd
   have hn3:upd H2 th (.dK (psK (ps.filter λp=>decide (p.1.1≠m)))) nm=some (.lst (zs.map V.str)):=by rw[Aj (A5 I2.hn I2.ht.1 (by intro z;cases z))];exact I2.hn
   have dk3:=I2.dk.upd (o:= .dK (psK (ps.filter λp=>decide (p.1.1≠m)))) S.nth;have bt3:But d H0 (upd H2 th (.dK (psK (ps.filter λp=>decide (p.1.1≠m))))):=I2.bt.set S.hth;have dd3:=I2.dd.mono tup3;generalize upd H2 th (.dK (psK (ps.filter λp=>decide (p.1.1≠m))))=H3 at T3 hd3 hn3 dk3 bt3 dd3;refine⟨_,rfl,.inl ⟨rfl,_,SqL.of hd3⟩,_,rfl,_,rfl,A1 (by simp),λr hr'=> ?_⟩;have s4:=Ae (o:= .tup [V.str (Str.ofString "go"),V.int mo,V.str m]) hr';have r4:upd H3 r (.tup [V.str (Str.ofString "go"),V.int mo,V.str m]) r=some (.tup (Dd.go mo m).vs):=Ab;have hd4:=s4 _ _ hd3;have hn4:=s4 _ _ hn3;have dk4:=dk3.same s4;have T4':=T3.same s4;have bt4:=bt3.trans (But.of s4);have dd4:=dd3.mono λa xs=>s4 a (.tup xs);generalize upd H3 r (.tup [V.str (Str.ofString "go"),V.int mo,V.str m])=H4 at s4 r4 hd4 hn4 dk4 T4' bt4 dd4;have tup5:∀(a:Addr) xs,H4 a=some (.tup xs)->upd H4 de (.lst (rs.map V.ref++[.ref r])) a=some (.tup xs):=λa xs e=>by
    rw[Aj (A5 e hd4 (by intro z;cases z))];exact e
   have rl:rs.length=ds.length:=dd4.1;refine⟨de,_,_,rfl,rfl,hd4,Aq (by rw[If];omega),k _ (ps.filter λp=>decide (p.1.1≠m)) (rs++[r]) (ds++[.go mo m]) _ ⟨bt4.set S.hde,dk4.upd S.nde,by rw[Aj (Ne.symm S.dnm)];exact hn4,⟨by rw[Aj (A5 T4'.1 hd4 (by intro z;cases z))];exact T4'.1,λq hq=>tup5 _ _ (T4'.2 q hq)⟩,⟨?_,λq hq=>I2.po.ok q (mem_filter.mp hq).1⟩,by rw[O1,I2.fs,Cc];rfl,by rw[Ab,map_append];rfl,Du dd4 tup5 (tup5 _ _ r4),Ik (d:= .go mo m) I2.rt ?_ d60 ⟨I2.m0,I2.m1⟩ I2.mu (λm' t e=>by cases e),I2.m0,I2.m1,λx hx=> ?_,λx hx=>(mem_append.mp hx).elim (I2.nz x) λq=>by rw[mem_singleton.mp q];exact mzs⟩ (by simp)⟩
   ·have:(ps.filter λp=>decide (p.1.1≠m)).map (·.1.1)=(ps.map (·.1.1)).filter λx=>decide (x≠m):=by rw[filter_map];rfl
    rw[this];exact I2.po.nd.sublist Y7
   ·show m∈(thr ds).map (·.1);rw[<-I2.fs,Ej];exact mp
   ·rcases mem_append.mp hx with q|q
    ·exact I2.mu x q
    ·rw[mem_singleton.mp q];exact Int.le_refl _
  case come=>
   clear k hD M60;rintro DD σ H ⟨d,de,th,nm,fr,N,zs,fz,H0,b,mo,ps,rs,ds,u1,u4,u9,u11,u12,ln,rfl,S,I,N2,N24,hF,nF,f0,f100,fm,d60,k⟩;have p60:ps.length<=60:=by
    rw[<-If (f:=(·.1)),I.fs];have:=De ds ds.length;rw[Yv] at this;omega
   refine⟨_,rfl,_,rfl,_,rfl,_,rfl,_,rfl,d,th,fr,N,b,ln,ps,fz,rfl,I.dk,N2,N24,I.ht,I.po,p60,hF,f0,f100,S.nth,nF,λt r H1 b1 D1 tm tok w0 w1 er=> ?_⟩;have I1:=I.but S b1 D1;refine⟨_,rfl,_,rfl,r,_,rfl,SqT.of er,(λq=>absurd (show (1:Nat)=0 from q.1) (by decide)),λp hp=> ?_⟩;have ec:Da (Cm t) (some 1) none=Sm t:=rfl;rw[ec];have sp:=Ae (o:= .tup (Sm t)) hp;have p2:=Ab (H:=H1) (a:=p) (o:= .tup (Sm t));have I2:=I1.same S sp;have er2:=sp _ _ er;generalize upd H1 p (.tup (Sm t))=H2 at sp p2 I2 er2;refine⟨_,rfl,_,rfl,r,_,0,_,rfl,rfl,SqT.of er2,Ak (j:=0) rfl,th,_,rfl,DPut.k (k:=Sum.inr t.1) I2.ht.1 (Aq (by unfold psK;rw[If];omega)),?_⟩;rw[Pd (fm t.1 tm).1];have tup3:∀(a:Addr) xs,H2 a=some (.tup xs)->upd H2 th (.dK (psK (ps++[(t,p)]))) a=some (.tup xs):=λa xs e=>by
    rw[Aj (A5 e I2.ht.1 (by intro z;cases z))];exact e
   have T3:ThAt (upd H2 th (.dK (psK (ps++[(t,p)])))) th (ps++[(t,p)]):=⟨Ab,λq hq=>by
    rcases mem_append.mp hq with h|h
    ·exact tup3 _ _ (I2.ht.2 q h)
    ·rw[mem_singleton.mp h];exact tup3 _ _ p2⟩
   have hd3:upd H2 th (.dK (psK (ps++[(t,p)]))) de=some (.lst (rs.map V.ref)):=by rw[Aj (A5 I2.hd I2.ht.1 (by intro z;cases z))];exact I2.hd
   have hn3:upd H2 th (.dK (psK (ps++[(t,p)]))) nm=some (.lst (zs.map V.str)):=by rw[Aj (A5 I2.hn I2.ht.1 (by intro z;cases z))];exact I2.hn
   have dk3:=I2.dk.upd (o:= .dK (psK (ps++[(t,p)]))) S.nth;have bt3:But d H0 (upd H2 th (.dK (psK (ps++[(t,p)])))):=I2.bt.set S.hth;have dd3:=I2.dd.mono tup3;have er3:=tup3 _ _ er2;generalize upd H2 th (.dK (psK (ps++[(t,p)])))=H3 at T3 hd3 hn3 dk3 bt3 dd3 er3;refine⟨_,rfl,.inl ⟨rfl,_,SqL.of hd3⟩,_,rfl,A1 (by simp),λc hc=> ?_⟩;have sc:=Ae (o:= .tup [.str (Str.ofString "come"),.int mo]) hc;have c3:=Ab (H:=H3) (a:=c) (o:= .tup [.str (Str.ofString "come"),.int mo]);generalize hH3:upd H3 c (.tup [.str (Str.ofString "come"),.int mo])=H3' at sc c3;refine⟨_,rfl,c,r,_,_,rfl,rfl,SqT.of c3,SqT.of (sc _ _ er3),A1 (by simp[Cm]),λe=>absurd e (by simp),λ_ e=>absurd e (by simp[Cm]),λ_ _ g hg=> ?_⟩;have s4:=sc.trans (Ae (o:= .tup ([V.str (Str.ofString "come"),V.int mo]++Cm t)) hg);have r4:upd H3' g (.tup ([V.str (Str.ofString "come"),V.int mo]++Cm t)) g=some (.tup (Dd.come mo t).vs):=Ab;have hd4:=s4 _ _ hd3;have hn4:=s4 _ _ hn3;have dk4:=dk3.same s4;have T4':=T3.same s4;have bt4:=bt3.trans (But.of s4);have dd4:=dd3.mono λa xs=>s4 a (.tup xs);generalize upd H3' g (.tup ([V.str (Str.ofString "come"),V.int mo]++Cm t))=H4 at s4 r4 hd4 hn4 dk4 T4' bt4 dd4;have tup5:∀(a:Addr) xs,H4 a=some (.tup xs)->upd H4 de (.lst (rs.map V.ref++[.ref g])) a=some (.tup xs):=λa xs e=>by
    rw[Aj (A5 e hd4 (by intro z;cases z))];exact e
   have rl:rs.length=ds.length:=dd4.1;refine⟨de,_,_,rfl,rfl,hd4,Aq (by rw[If];omega),k _ (ps++[(t,p)]) (rs++[g]) (ds++[.come mo t]) _ ⟨bt4.set S.hde,dk4.upd S.nde,by rw[Aj (Ne.symm S.dnm)];exact hn4,⟨by rw[Aj (A5 T4'.1 hd4 (by intro z;cases z))];exact T4'.1,λq hq=>tup5 _ _ (T4'.2 q hq)⟩,⟨?_,λq hq=> ?_⟩,by rw[map_append,I2.fs,Cc];rfl,by rw[Ab,map_append];rfl,Du dd4 tup5 (tup5 _ _ r4),Ik (d:= .come mo t) I2.rt ⟨?_,tok⟩ d60 ⟨I2.m0,I2.m1⟩ I2.mu (λm' t' e=>by cases e;exact⟨w0,w1⟩),I2.m0,I2.m1,λx hx=> ?_,λx hx=>(mem_append.mp hx).elim (I2.nz x) λq=>by rw[mem_singleton.mp q];exact(fm t.1 tm).2⟩ (by simp)⟩
   ·rw[map_append];refine List.nodup_append.mpr ⟨I2.po.nd,Zh.mpr ⟨by simp,nodup_nil⟩,λx hx y hy=> ?_⟩;have e:y=t.1:=mem_singleton.mp hy;intro q;exact(fm t.1 tm).1 (by rw[<-e,<-q];exact hx)
   ·rcases mem_append.mp hq with h|h
    ·exact I2.po.ok q h
    ·rw[mem_singleton.mp h];exact tok
   ·rw[<-I2.fs,Ej];exact(fm t.1 tm).1
   ·rcases mem_append.mp hx with q|q
    ·exact I2.mu x q
    ·rw[mem_singleton.mp q];exact Int.le_refl _
  case tail=>
   clear k hD M60;rintro DD σ H0 ⟨d,nm,N,b,c,zs,u1,u5,u6,u7,u8,u9,u10,u11,u12,rfl,c60,hD,N1,N24,hn,z0,zl,znd,zok,nnm,k⟩;refine⟨_,rfl,d,8,b+699,rfl,hD,by decide,by decide,λv H1 _ _ b1 D1=>⟨rfl,?_⟩⟩;generalize decide (V.int v=V.int 6)=ln;intro th hth;have s2:=Ae (o:= .dK []) hth;have t2:=Ab (H:=H1) (a:=th) (o:= .dK []);have nth:=D1.ne hth;have hth0:H0 th=none:=b1.none D1 hth;have D2:=D1.same s2;have B2:=b1.trans (But.of s2);have n2:=B2 _ _ hn nnm;generalize upd H1 th (.dK [])=H2 at s2 t2 D2 B2 n2;refine⟨A1 (by simp),λde hde=> ?_⟩;have s3:=Ae (o:= .lst []) hde;have e3:=Ab (H:=H2) (a:=de) (o:= .lst []);have nde:=D2.ne hde;have hde0:H0 de=none:=B2.none D2 hde;have D3:=D2.same s3;have B3:=B2.trans (But.of s3);have n3:=s3 _ _ n2;have t3:=s3 _ _ t2;generalize upd H2 de (.lst [])=H3 at s3 e3 D3 B3 n3 t3;have SS:HS d de th nm N zs H0:=⟨nde,nth,nnm,hde0,hth0,(Ay hn hde0).symm,znd,zl⟩
   obtain⟨C,hC,eC,C2⟩:∃C:Nat,C<=60/\(c:Int) * (if decide ((1:Int)<(N:Int))=true then (1:Int) else 0)=(C:Int)/\(0<C->2<=N):=by
    by_cases g:(1:Int)<(N:Int)
    ·exact⟨c,c60,by rw[decide_eq_true g];simp,λ_=>by omega⟩
    ·exact⟨0,by omega,by rw[decide_eq_false g];simp,λh=>absurd h (by omega)⟩
   refine⟨_,rfl,_,rfl,_,_,rfl,rfl,.inr ⟨_,rfl,_,_,rfl,rfl,.inl ⟨by omega,by omega⟩,(C:Int),?_,by omega,by omega,Ez (lo:=0) (n:=(C:Int).toNat) (λi σ H5=>∃(u9 u10 u11 u12:Option V) (mo:Int) (ps:Ps) (rs:List Addr) (ds:List Dd),σ=hσ d nm th de N u1 (some (.int (c:Int))) ln mo u9 u10 u11 u12/\HI d de th nm N zs H0 (b+(C - i) * 11) mo ps rs ds H5/\ds.length=i)
    ⟨_,_,_,_,0,[],[],[],rfl,⟨B3,D3.mono (by omega),n3,⟨t3,by simp⟩,⟨nodup_nil,by simp⟩,rfl,e3,⟨rfl,λi r d e=>(by simp at e)⟩,⟨λi d e=>(by simp at e),by simp,by simp,Pairwise.nil,λm t h=>(by cases h)⟩,by decide,by decide,by simp,by simp⟩,rfl⟩ ?_ ?_⟩⟩
   ·rw[<-eC]
   ·rintro i σ H5 hi ⟨u9',u10',u11',u12',mo,ps,rs,ds,rfl,I,dl⟩;have hi:i<C:=by simpa using hi
    have N2:=C2 (by omega);have p60:ps.length<=60:=by
     rw[<-If (f:=(·.1)),I.fs];have:=De ds ds.length;rw[Yv] at this;omega
    refine⟨_,_,rfl,rfl,⟨by decide,by decide,by decide⟩,_,rfl,_,rfl,d,b+(C - (i+1)) * 11+9,rfl,I.dk.mono (by omega),λgp H6 b6 D6 g0 g1=>⟨_,_,rfl,rfl,_,_,rfl,?_⟩⟩;have I6:=I.but SS b6 D6;obtain⟨mo',em,mm0,mm1,mm2⟩:∃mo':Int,(if mo+gp<10 ^ (9:Int).toNat then mo+gp else 10 ^ (9:Int).toNat)=mo'/\0<=mo'/\mo'<=1000000000/\mo<=mo':=by
     have:=I.m0;have:=I.m1;have e9:(10:Int) ^ (9:Int).toNat=1000000000:=by decide
     rw[e9];refine⟨_,rfl,?_,?_,?_⟩<;> split<;> omega
    rw[em];have I7:HI d de th nm N zs H0 (b+(C - (i+1)) * 11+9) mo' ps rs ds H6:={I6 with m0:=mm0,m1:=mm1,mu:=λx hx=>Int.le_trans (I6.mu x hx) mm2}
    clear I I6 em b6 D6;refine⟨_,rfl,nm,rfl,⟨_,SqL.of I7.hn⟩,λF hF=>Kn (K:=K) (a:=nm) (xs:=zs.map V.str) (λj σ ys H7=>∃(u:Option V),σ=[u,some (.ref th)]/\ys=((zs.take j).filter λn=> !decide (n∈ps.map (·.1.1))).map V.str/\H7=upd H6 F (.lst ys)) ⟨none,rfl,rfl,rfl⟩ (λj σ ys H7 _ ⟨_,_,_,e⟩=>by rw[e];exact⟨SqL.of (by rw[Aj (Ay I7.hn hF)];exact I7.hn),Ab⟩) ?_ ?_⟩
    ·rintro j x σ ys H7 hx ⟨u,rfl,rfl,rfl⟩;obtain⟨z,hz,rfl⟩:=map_some hx;have tk:zs.take (j+1)=zs.take j++[z]:=by rw[take_add_one,hz];rfl
     have lf:((zs.take j).filter λn=> !decide (n∈ps.map (·.1.1))).length<=60:=le_trans (Yq _ _) (by rw[Yo];omega);refine⟨_,rfl,_,rfl,th,_,rfl,DGet.k (k:=Sum.inr z) (Ae hF _ _ I7.ht.1),_,rfl,?_⟩;rw[Pl];by_cases g:z∈ps.map (·.1.1)
     ·rw[decide_eq_true g];exact Bp ⟨_,rfl,by rw[tk,filter_append];simp[g],rfl⟩
     ·rw[decide_eq_false g];exact B9 ⟨_,rfl,Ab,Aq (by rw[If];omega),_,rfl,by rw[tk,filter_append,map_append];simp[g],by rw[Ld]⟩
    rintro σ ys H7 ⟨u,rfl,rfl,rfl⟩;rw[If,Yv];have fl:(zs.filter λn=> !decide (n∈ps.map (·.1.1))).length<=60:=le_trans (Yq _ _) (by omega);have fm:∀n∈zs.filter λn=> !decide (n∈ps.map (·.1.1)),n ∉ ps.map (·.1.1)/\n∈zs:=λn hn=>by
     have:=(mem_filter.mp hn).2;exact⟨by simpa using this,(mem_filter.mp hn).1⟩
    have f0:ps=[]->0<(zs.filter λn=> !decide (n∈ps.map (·.1.1))).length:=λe=>by subst e;rw[List.filter_eq_self.mpr (by simp)];exact z0
    generalize (zs.filter λn=> !decide (n∈ps.map (·.1.1)))=fz at fl fm f0;have sF:=Ae (o:= .lst (fz.map V.str)) hF;have F8:=Ab (H:=H6) (a:=F) (o:= .lst (fz.map V.str));have nF:=I7.dk.ne hF;have I8:=I7.same SS sF;generalize upd H6 F (.lst (fz.map V.str))=H8 at sF F8 I8;clear I7 sF hF;refine⟨_,rfl,λe he=> ?_⟩;have se:=Ae (o:= .dK []) he;have e9:=Ab (H:=H8) (a:=e) (o:= .dK []);have I9:=I8.same SS se;have F9:=se _ _ F8;generalize upd H8 e (.dK [])=H9 at se e9 I9 F9;clear I8 F8;have come:∀(HA:Hp) (bb:Nat),HI d de th nm N zs H0 bb mo' ps rs ds HA->b+(C - (i+1)) * 11+8<=bb->HA F=some (.lst (fz.map V.str))->0<fz.length->Wr {nx:=λσ H5=>∃(u9 u10 u11 u12:Option V) (mo:Int) (ps:Ps) (rs:List Addr) (ds:List Dd),σ=hσ d nm th de N u1 (some (.int (c:Int))) ln mo u9 u10 u11 u12/\HI d de th nm N zs H0 (b+(C - (i+1)) * 11) mo ps rs ds H5/\ds.length=i+1,rt:=λ_ _=>True,bk:=λ_ _=>True,ct:=λ_ _=>True} (hσ d nm th de N u1 (some (.int (c:Int))) ln mo' (some (.int (0+(i:Int)))) (some (.ref F)) u11' u12') HA:=by
     intro HA bb IA hb fA f0';exact⟨d,de,th,nm,F,N,zs,fz,H0,b+(C - (i+1)) * 11,mo',ps,rs,ds,_,_,_,_,_,ln,rfl,SS,{IA with dk:=IA.dk.mono hb},N2,N24,fA,nF,f0',by omega,fm,by omega,λu12'' ps' rs' ds' H' I' l'=>⟨_,_,_,_,_,ps',rs',ds',rfl,I',by omega⟩⟩
    have go:∀(HA:Hp) (bb:Nat),HI d de th nm N zs H0 bb mo' ps rs ds HA->b+(C - (i+1)) * 11+1<=bb->0<ps.length->tGo {nx:=λσ H5=>∃(u9 u10 u11 u12:Option V) (mo:Int) (ps:Ps) (rs:List Addr) (ds:List Dd),σ=hσ d nm th de N u1 (some (.int (c:Int))) ln mo u9 u10 u11 u12/\HI d de th nm N zs H0 (b+(C - (i+1)) * 11) mo ps rs ds H5/\ds.length=i+1,rt:=λ_ _=>True,bk:=λ_ _=>True,ct:=λ_ _=>True} (hσ d nm th de N u1 (some (.int (c:Int))) ln mo' (some (.int (0+(i:Int)))) (some (.ref F)) u11' u12') HA:=by
     intro HA bb IA hb p0;exact⟨d,de,th,nm,N,zs,H0,b+(C - (i+1)) * 11,mo',ps,rs,ds,_,_,_,_,_,_,ln,rfl,SS,{IA with dk:=IA.dk.mono hb},p0,by omega,λu11'' ps' rs' ds' H' I' l'=>⟨_,_,_,_,_,ps',rs',ds',rfl,I',by omega⟩⟩
    refine⟨th,e,_,rfl,rfl,I9.ht.1,e9,_,rfl,Cy (λg=> ?_) λg=>Bp ?_⟩
    rotate_left
    ·have pe:ps=[]:=by
      cases ps with
      |nil=>rfl
      |cons q qs=>exact absurd (by simp[psK]) g
     exact come H9 _ I9 (by omega) F9 (f0 pe)
    have pp:0<ps.length:=by
     cases ps with
     |nil=>exact absurd g (by simp[psK])
     |cons q qs=>simp
    refine⟨_,rfl,A1 (by simp),λe2 he2=> ?_⟩;have se2:=Ae (o:= .lst []) he2;have eA:=Ab (H:=H9) (a:=e2) (o:= .lst []);have IA:=I9.same SS se2;have FA:=se2 _ _ F9;generalize upd H9 e2 (.lst [])=HA at se2 eA IA FA;refine⟨F,e2,_,rfl,rfl,SqL.of FA,SqL.of eA,_,rfl,Cy (λ_=>B9 (go HA _ IA (by omega) pp)) λg2=> ?_⟩;have fp:0<fz.length:=by
     cases fz with
     |nil=>exact absurd (by simp) g2
     |cons q qs=>simp
    have hb:(0:Int)<3+9 * (if ln=true then (1:Int) else 0)/\(3+9 * (if ln=true then (1:Int) else 0))<1073741824:=by cases ln<;> decide
    refine⟨_,rfl,_,rfl,.inr ⟨_,rfl,_,_,rfl,rfl,.inl ⟨by decide,by decide⟩,_,_,rfl,rfl,d,_,b+(C - (i+1)) * 11+8,rfl,IA.dk,hb.1,hb.2,λv2 HB _ _ bB DB=>⟨rfl,_,rfl,?_⟩⟩⟩;have IB:=IA.but SS bB DB;have FB:=bB _ _ FA nF;refine Cy (λg3=> ?_) λg3=> ?_
    ·exact go HB _ IB (by omega) pp
    ·exact come HB _ IB (by omega) FB fp
   ·rintro σ H5 ⟨u9',u10',u11',u12',mo,ps,rs,ds,rfl,I,dl⟩;refine⟨_,rfl,_,rfl,de,_,rfl,.inl ⟨SqL.of I.hd,λtp htp=> ?_⟩⟩;have s6:=Ae (o:= .tup (rs.map V.ref)) htp;have t6:=Ab (H:=H5) (a:=tp) (o:= .tup (rs.map V.ref));generalize upd H5 tp (.tup (rs.map V.ref))=H6 at s6 t6;refine⟨A1 (by simp),λh hh=> ?_⟩;have s7:=Ae (o:= .tup [.int (N:Int),.ref tp]) hh;have S7:=s6.trans s7;exact k h ds _ (I.bt.trans (But.of S7)) ((I.dk.same S7).mono (by omega)) ⟨tp,rs,Ab,s7 _ _ t6,I.dd.mono λa xs=>S7 a (.tup xs)⟩ I.rt λx hx=>zok _ (I.nz x hx)
  refine⟨_,rfl,d,b+798,rfl,hD,λN H1 b1 D1 N1 N24=> ?_⟩;refine⟨_,rfl,A1 (by simp),λq hq=> ?_⟩;have sq:=Ae (o:= .lst [.int 5,.int 40]) hq;have q2:=Ab (H:=H1) (a:=q) (o:= .lst [.int 5,.int 40]);have nq:=D1.ne hq;have D2:=D1.same sq;generalize upd H1 q (.lst [.int 5,.int 40])=H2 at sq q2 D2;refine⟨_,rfl,d,8,b+797,rfl,D2,by decide,by decide,λv H3 _ _ b3 D3=>⟨rfl,.inr ⟨_,rfl,?_⟩⟩⟩;have q3:=b3 _ _ q2 nq;have B3:But d H H3:=(b1.trans (But.of sq)).trans b3;obtain⟨nn,an,n0,n60⟩:∃nn:Nat,atI ([.int 5,.int 40]:List V) (if decide (V.int v=V.int 5)=true then 1 else 0)=some (.int (nn:Int))/\0<nn/\nn<=40:=by
   by_cases g:decide (V.int v=V.int 5)=true
   ·rw[Yf g];exact⟨40,rfl,by omega,by omega⟩
   ·rw[Lt g];exact⟨5,rfl,by omega,by omega⟩
  refine⟨q,_,_,_,rfl,rfl,SqL.of q3,an,d,nn,b+740,rfl,D3.mono (by omega),by omega,λnm zs H4 b4 D4 nmn nnm n4 zl znd z8=> ?_⟩;refine⟨_,rfl,d,13,b+739,rfl,D4,by decide,by decide,λc H5 c0 c1 b5 D5=> ?_⟩;obtain⟨c,rfl⟩:=Di c0;have n5:=b5 _ _ n4 nnm;have B5:=(B3.trans b4).trans b5;refine⟨_,rfl,d,8,b+738,rfl,D5,by decide,by decide,λw H6 _ _ b6 D6=>⟨rfl,_,rfl,Cy (λ_=> ?_) λ_=> ?_⟩⟩
  ·exact⟨_,rfl,d,nm,N,b,M,zs,_,_,_,_,_,_,_,_,_,rfl,M60,D6.mono (by omega),N1,N24,b6 _ _ n5 nnm,by omega,by omega,znd,z8,nnm,λh ds H' bb DD' hh rr nn=>k h N ds H' ((B5.trans b6).trans bb) DD' hh rr nn N1 N24⟩
  ·exact⟨d,nm,N,b,c,zs,_,_,_,_,_,_,_,_,_,rfl,by omega,D6.mono (by omega),N1,N24,b6 _ _ n5 nnm,by omega,by omega,znd,z8,nnm,λh ds H' bb DD' hh rr nn=>k h N ds H' ((B5.trans b6).trans bb) DD' hh rr nn N1 N24⟩
end K08
namespace L2
open PySem PySem.Spec PyProof.Rows
theorem W0{X:Cx}{o e:Expr}{es:List Expr}{to:TE}{t:TA}{name:Str}{apos cpos:Pos}{T id:String}{r:V->List V->Hp->VK->Prop}(K:Frag)(hK:X.K=K)(pa:PlainAttrs T)(slot:Slot T name id)(hty:typeOf (.builtin id)=pure (.type "method_descriptor"))(hm:MtM X id r)(ho:PE X o to)(ha:PA X (e::es) t)(hbase:attributeBase o name X.env (eval o X.env)=eval o X.env:=by rfl)(hfew:((backTo cpos (starEach (e::es) X.env)).all (λx=> !x.1) && (backToKw cpos (keywordEach [] X.env)).all (λx=>x.1.isSome) && decide ((e::es).length+([]:List Keyword).length+(if ([]:List Keyword).isEmpty then 0 else 1)<30))=true:=by rfl)(hline:(apos.endLine==cpos.line)=true:=by rfl)(hs:starEach (e::es) X.env=(false,eval e X.env)::starEach es X.env:=by rfl)(hplain:(backTo cpos (starEach es X.env)).any (·.1)=false:=by rfl):
  PE X (.Call (.Attribute o name apos) (e::es) [] cpos) (tBM K T r to t):=by
 subst hK;exact Db pa slot hty hm ho ha hbase hfew hline hs hplain
end L2
namespace K08
variable{P:Program}{w:World}{K:Frag}{mg:Str->Option Value}{base:Heap}
open PySem L2 Wk
theorem U1:∀j,j<26->∃rest,Builtin.Str.occurrences LS ⟨#[97+j]⟩ 0 LS.length 1=j::rest:=by
 intro j hj;have:∀j:Fin 26,(Builtin.Str.occurrences LS ⟨#[97+j.1]⟩ 0 LS.length 1).head? =some j.1:=by decide+kernel
 have h:=this ⟨j,hj⟩;cases e:Builtin.Str.occurrences LS ⟨#[97+j]⟩ 0 LS.length 1 with
 |nil=>rw[e] at h;cases h
 |cons x r=>
  rw[e] at h;have:x=j:=by simpa using h
  subst this;exact⟨r,rfl⟩
def Pt(c:Nat):Nat:=97+(c - 97+1) % 26
def E5(x:Str):Str:=⟨(x.cps.toList.map Pt).toArray⟩
theorem Lv(x:Str):(E5 x).cps.toList=x.cps.toList.map Pt:=by unfold E5;simp
theorem str_ext{x y:Str}(h:x.cps.toList=y.cps.toList):x=y:=by
 cases x;cases y
 congr 1
 exact Array.toList_inj.mp h
theorem Jh{α β:Type}{f:α->β}{p:α->Prop}(h:∀x y,p x->p y->f x=f y->x=y):∀{xs ys:List α},(∀x∈xs,p x)->(∀y∈ys,p y)->xs.map f=ys.map f->xs=ys
 |[],[],_,_,_=>rfl
 |[],_::_,_,_,e=>by cases e
 |_::_,[],_,_,e=>by cases e
 |x::xs,y::ys,hx,hy,e=>by
  injection e with e1 e2;rw[h x y (hx x (Yl ..)) (hy y (Yl ..)) e1,Jh h (λz hz=>hx z (Yn _ hz)) (λz hz=>hy z (Yn _ hz)) e2]
theorem U2{x y:Str}(hx:A8 x)(hy:A8 y)(e:E5 x=E5 y):x=y:=by
 refine str_ext (Jh (f:=Pt) (p:=λc=>97<=c/\c<=122) (λc d h1 h2 e=> ?_) hx.2.2 hy.2.2 ?_)
 ·unfold Pt at e;omega
 ·rw[<-Lv,<-Lv,e]
def Nw(t:T4):T4:=(E5 t.1,t.2.2.1,t.2.1,1000000000 - t.2.2.2)
def Nf:Dd->Dd
 | .come m t=> .come m (Nw t)
 | .go m n=> .go m (E5 n)
def Qp(N k:Nat):Dd->Dd
 | .come m t=> .come m (N3 N k t)
 | .go m n=> .go m n
structure Pu(N:Nat)(D:Dd->Dd)(f:T4->T4)(g:Str->Str):Prop where
 come:∀m t,D (.come m t)= .come m (f t)
 go:∀m n,D (.go m n)= .go m (g n)
 nm:∀t,(f t).1=g t.1
 inj:∀x y,A8 x->A8 y->g x=g y->x=y
 tie:∀t,E7 N t->E7 N (f t)
 wt:∀t:T4,0<=t.2.2.2/\t.2.2.2<=1000000000->0<=(f t).2.2.2/\(f t).2.2.2<=1000000000
theorem K0(N:Nat):Pu N Nf Nw E5:=⟨λ_ _=>rfl,λ_ _=>rfl,λ_=>rfl,λ_ _=>U2,λt ⟨a,b,c⟩=>⟨b,a,λz=>c z.symm⟩,λt h=>by show 0<=(1000000000:Int) - t.2.2.2/\(1000000000:Int) - t.2.2.2<=1000000000;omega⟩
theorem Op{N k:Nat}(hk:k<N):Pu N (Qp N k) (N3 N k) id:=⟨λ_ _=>rfl,λ_ _=>rfl,λ_=>rfl,λ_ _ _ _=>id,λt ⟨a,b,c⟩=>⟨M6 hk,M6 hk,λz=>c (Lk hk a b z)⟩,λ_=>id⟩
section
variable{N:Nat}{D:Dd->Dd}{f:T4->T4}{g:Str->Str}
theorem Gb(M:Pu N D f g):∀(ds:List Dd) (S:List T4),(∀t∈S,A8 t.1)->(∀x∈ds,A8 x.nm)->(ds.map D).foldl E8 (S.map f)=(ds.foldl E8 S).map f/\∀t∈ds.foldl E8 S,A8 t.1
 |[],S,h,_=>⟨rfl,h⟩
 | .come m t::ds,S,h,hd=>by
  have e:(S.map f)++[f t]=(S++[t]).map f:=by rw[map_append];rfl
  rw[Yp,M.come,foldl_cons,foldl_cons];show ((ds.map D).foldl E8 (S.map f++[f t]))=_/\_;rw[e];exact Gb M ds (S++[t]) (λx hx=>(mem_append.mp hx).elim (h x) λq=>by rw[mem_singleton.mp q];exact hd _ (Yl ..)) λx hx=>hd x (Yn _ hx)
 | .go m n::ds,S,h,hd=>by
  have hn:A8 n:=hd _ (Yl ..);have e:((S.map f).filter λt=>decide (t.1≠g n))=(S.filter λt=>decide (t.1≠n)).map f:=by
   rw[filter_map]
   congr 1
   refine List.filter_congr λt ht=> ?_;show decide ((f t).1≠g n)=decide (t.1≠n);rw[M.nm];exact decide_eq_decide.mpr ⟨λz y=>z (by rw[y]),λz y=>z (M.inj _ _ (h t ht) hn y)⟩
  rw[Yp,M.go,foldl_cons,foldl_cons];show ((ds.map D).foldl E8 ((S.map f).filter λt=>decide (t.1≠g n)))=_/\_;rw[e];exact Gb M ds (S.filter λt=>decide (t.1≠n)) (λx hx=>h x (mem_filter.mp hx).1) λx hx=>hd x (Yn _ hx)
theorem Lb(M:Pu N D f g){ds:List Dd}(h:∀x∈ds,A8 x.nm):thr (ds.map D)=(thr ds).map f:=(Gb M ds [] (λ_ h=>by cases h) h).1
theorem Qm{ds:List Dd}(h:∀x∈ds,A8 x.nm):∀t∈thr ds,A8 t.1:=(Gb (K0 0) ds [] (λ_ h=>by cases h) h).2
theorem Nr(M:Pu N D f g)(d:Dd):(D d).mo=d.mo:=by
 cases d with
 |come m t=>rw[M.come];rfl
 |go m n=>rw[M.go];rfl
theorem Ka(M:Pu N D f g){ds:List Dd}(hR:Right N ds)(h:∀x∈ds,A8 x.nm):Right N (ds.map D):=by
 refine⟨λi d' e=> ?_,by rw[If];exact hR.len,λd' hd=> ?_,?_,λm t hd=> ?_⟩
 ·rw[getElem?_map] at e;cases ed:ds[i]? with
  |none=>rw[ed] at e;cases e
  |some d=>
   rw[ed] at e;cases e;have ht:∀x∈ds.take i,A8 x.nm:=λx hx=>h x (Y4 hx);rw[<-map_take,Lb M ht];have ok:=hR.ok i d ed;have hn:=h d (mem_of_getElem? ed);cases d with
   |come m t=>
    rw[M.come];refine⟨λz=>ok.1 ?_,M.tie t ok.2⟩;rw[map_map] at z;obtain⟨y,hy,e⟩:=mem_map.mp z;have e:g y.1=g t.1:=by rw[<-M.nm,<-M.nm];exact e
    exact mem_map.mpr ⟨y,hy,M.inj y.1 t.1 (Qm ht y hy) hn e⟩
   |go m n=>
    rw[M.go];obtain⟨y,hy,e⟩:=mem_map.mp (show n∈(thr (ds.take i)).map (·.1) from ok);show g n∈_;rw[map_map];exact mem_map.mpr ⟨y,hy,by show (f y).1=g n;rw[M.nm,e]⟩
 ·obtain⟨d,hd2,rfl⟩:=mem_map.mp hd;rw[Nr M];exact hR.mo d hd2
 ·rw[Yt];exact hR.up.imp λh=>by rw[Nr M,Nr M];exact h
 ·obtain⟨d,hd,e⟩:=mem_map.mp hd;cases d with
  |come m' t'=>
   rw[M.come] at e;injection e with _ e;rw[<-e];exact M.wt t' (hR.wt m' t' hd)
  |go m' n=>rw[M.go] at e;cases e
end
def Jm:Sp:=λvs H Q _=>∃x:Str,vs=[.str x]/\A8 x/\∀H',Same H H'->Q (.str (E5 x)) H'
def I0:Sp:=λvs H Q _=>∃(h:Addr) (N:Nat) (ds:List Dd) (k:Nat),vs=[.ref h,.int (k:Int)]/\HistAt H h N ds/\Right N ds/\(∀x∈ds,A8 x.nm)/\1<=N/\N<=24/\∀(p x y:Addr) (H':Hp),Same H H'->H' p=some (.tup [.ref x,.ref y])->HistAt H' x N (ds.map Nf)->HistAt H' y N (ds.map (Qp N k))->Q (.ref p) H'
theorem scCalled:Aw ["_law_name","_law_letters"] ["_law_name"] (Ag Dx):=⟨rfl,rfl,rfl,by decide+kernel,rfl,by decide+kernel,by decide+kernel⟩
theorem Qf{f:Addr}{fd:FuncData}(F:Fun K "_law_called" "_law_called" Dx f fd)(T:Txt mg):
  FnOk P w K mg base CX0 1 f fd ["_law_name"] Jm:=by
 refine F.ok scCalled (λvs H Q E h=> ?_) (λcdv A outer s H vs Q E hr h=> ?_)
 ·obtain⟨_,rfl,_⟩:=h;rfl
 ·obtain⟨x,rfl,⟨x1,x8,hx⟩,k⟩:=h;refine⟨_,Ad (Al (i:=1) scCalled.nd rfl (Or.inr rfl) Bo)
   (Ah (Ao (Db plainAttrs_str PySem.F.slot_str_join PySem.F.type_str_join Ol Bo (Aa (Cu (T:=["_law_sign"]) (F:=["_law_letters"]) (js:=[1]) (CS.to (osc:=Ag Dx) ⟨by rfl,by decide+kernel,by decide+kernel,by decide+kernel,by decide+kernel,by decide+kernel,by decide+kernel⟩ rfl rfl) rfl (Ss (pv 0)) (λ_ _ _ _ _=>Am (i:=0) (show (["_law_sign","_law_letters"]:List Str).Nodup by decide+kernel) rfl (Or.inl rfl)) (λ_ _ _ _ _=>Dg) (λ_ _ _ _ _=>Ax K5 (pv 1) (Ar By (Ar Bk (W0 K rfl plainAttrs_str PySem.F.slot_str_index PySem.F.type_str_index Qq (pv 1) (Aa (pv 0) Ac)) Af) Af) (λ_ _=>rfl))) Ac)))),?_⟩
  refine⟨rfl,_,rfl,x,rfl,λD hD=>L3 (z:=x) (λi σ ys H2=>∃v,σ=[v,some (.str LS)]/\Same H H2/\H2 D=some (.lst ys)/\ys=((x.cps.toList.take i).map Pt).map sg) ⟨none,rfl,Ae hD,Ab,rfl⟩ (λi σ ys H2 _ ⟨_,_,_,e,_⟩=>e) ?_ ?_⟩
  ·rintro i c σ ys H2 hc' ⟨v,rfl,s2,e2,rfl⟩;have hc2:x.cps.toList[i]? =some c:=by rw[getElem?_toList];exact hc'
   have hcm:=hx c (mem_of_getElem? hc2);have hil:i<x.cps.toList.length:=(List.getElem?_eq_some_iff.mp hc2).1;have hxl:x.cps.toList.length=x.length:=(Hi x).symm;obtain⟨rest,ho⟩:=U1 (c - 97) (by omega);rw[show 97+(c - 97)=c by omega] at ho;have m0:=emod_nonneg (((c - 97:Nat):Int)+1) (show (26:Int)≠0 by decide);have m1:=Zo (((c - 97:Nat):Int)+1) (show (0:Int)<26 by decide);refine⟨_,rfl,_,rfl,rfl,_,rfl,LS,⟨#[c]⟩,c - 97,rest,rfl,rfl,ho,_,_,rfl,rfl,_,_,rfl,rfl,(by show (0:Int)<26;decide),LS,_,_,rfl,rfl,A1 (by decide+kernel),Oz m0 m1,e2,Aq (by rw[If,If,Yo];omega),?_⟩;refine⟨_,rfl,A2 s2 hD,Ab,?_⟩;rw[Bb hc2,map_append,map_append]
   congr 1
  ·rintro σ ys H2 ⟨v,rfl,s2,e2,rfl⟩;rw[show x.cps.size=x.cps.toList.length by simp,Yv] at e2;have hz:=Ml (x.cps.toList.map Pt);rw[Ti] at e2;refine⟨Str.ofString "",D,_,rfl,rfl,SqL.of e2,?_,?_⟩
   ·rw[R5,If,If,If,<-Hi];show _+_ * 0<=_;omega
   ·rw[str_ext (x:=Txt.join (Str.ofString "") _) (y:=E5 x) (hz.trans (Lv x).symm)];exact k H2 s2
theorem scOtherw:Aw ["_law_history_here","_law_step","_law_many_here","_law_deeds","_law_called_here","_law_turned","_law_deed","_law_first"] ["_law_history_here","_law_step"] (Ag Ey):=⟨rfl,rfl,rfl,by decide+kernel,rfl,by decide+kernel,by decide+kernel⟩
theorem P1{f:Addr}{fd:FuncData}(F:Fun K "_law_otherwise" "_law_otherwise" Ey f fd)(T:Txt mg){gCalled:Addr}{fCalled:FuncData}(kCalled:keepIn K (.ref gCalled)=true)(bCalled:Binds K fCalled ["_law_name"] [])(hCalled:mg "_law_called"=some (.ref gCalled))(GCalled:FnOk P w K mg base CX0 1 gCalled fCalled ["_law_name"] Jm):
  FnOk P w K mg base CX0 2 f fd ["_law_history_here","_law_step"] I0:=by
 refine F.ok scOtherw (λvs H Q E h=> ?_) (λcdv A outer s H vs Q E hr h=> ?_)
 ·obtain⟨_,_,_,_,rfl,_⟩:=h;rfl
 ·obtain⟨h,N,ds,k0,rfl,⟨tp,rs,eh,et,hdd⟩,hR,hz,N1,N24,k⟩:=h;refine⟨_,Ad (C4 (pv 0) (C5 rfl (Az (Am (i:=2) scOtherw.nd rfl (Or.inl rfl)) (Az (Am (i:=3) scOtherw.nd rfl (Or.inl rfl)) Ch))))
   (Ad (Al (i:=4) scOtherw.nd rfl (Or.inl rfl) (B7 Ac))
   (Ad (Al (i:=5) scOtherw.nd rfl (Or.inl rfl) (B7 Ac))
   (Ad (Ea PassesOwn.never rfl (Ec (pv 3)) (Am (i:=6) scOtherw.nd rfl (Or.inl rfl)) (Ad (Al (i:=7) scOtherw.nd rfl (Or.inl rfl) (Ar Eh (Cb Ft (pv 6) Cv (Cj Af)) (Bv (Aa (Ai GCalled hr rfl hCalled kCalled bCalled .nil Ap (Aa (Ax A3 (pv 6) Af (λ_ _=>rfl)) Ac)) Ac))))
   (Ah (Be (As Cd (Ax A3 (pv 6) Af (λ_ _=>rfl)) Bo (Av _)) (Ad (Cl (Db Yy PySem.F.slot_list_append PySem.F.type_list_append Bu (pv 4) (Aa (pv 7) Ac)))
   (Ah (Cl (Db Yy PySem.F.slot_list_append PySem.F.type_list_append Bu (pv 5) (Aa (pv 6) Ac))))) (Ad (Cl (Db Yy PySem.F.slot_list_append PySem.F.type_list_append Bu (pv 4) (Aa (Ar Eh (pv 7) (Bv (Aa (Ax A3 (pv 6) Af (λ_ _=>rfl)) (Aa (Ax A3 (pv 6) Af (λ_ _=>rfl)) (Aa (Ar Ig (Ar Gc Af Af) (Ax A3 (pv 6) Af (λ_ _=>rfl))) Ac))))) Ac)))
   (Ah (Cl (Db Yy PySem.F.slot_list_append PySem.F.type_list_append Bu (pv 5) (Aa (Ar Eh (Cb Ft (pv 6) Cv (Cj Af)) (Bv (Aa (Ar By (Ar Bk (Ax A3 (pv 6) Af (λ_ _=>rfl)) (pv 1)) (pv 2)) (Aa (Ar By (Ar Bk (Ax A3 (pv 6) Af (λ_ _=>rfl)) (pv 1)) (pv 2)) (Aa (Ax A3 (pv 6) Af (λ_ _=>rfl)) Ac))))) Ac)))))))))
   (Ah (Ao (Bv (Aa (Bv (Aa (pv 2) (Aa (Bd A9 (by rfl) T.tuple (by decide+kernel) (Aa (pv 4) Ac)) Ac))) (Aa (Bv (Aa (pv 2) (Aa (Bd A9 (by rfl) T.tuple (by decide+kernel) (Aa (pv 5) Ac)) Ac))) Ac)))))))),?_⟩
  have lrs:=hdd.1;have n60:=hR.len;refine⟨_,rfl,h,_,rfl,SqT.of eh,rfl,_,_,rfl,_,_,rfl,rfl,?_⟩;refine⟨A1 (by simp),λca hca=> ?_⟩;have s1:=Ae (o:= .lst []) hca;have c1:=Ab (H:=H) (a:=ca) (o:= .lst []);generalize upd H ca (.lst [])=H1 at s1 c1;refine⟨A1 (by simp),λtu htu=> ?_⟩;have s2:=Ae (o:= .lst []) htu;have t2:=Ab (H:=H1) (a:=tu) (o:= .lst []);have nct:ca≠tu:=Ay c1 htu;have c2:=s2 _ _ c1;have htu0:H tu=none:=Fw s1 htu;generalize upd H1 tu (.lst [])=H2 at s2 t2 c2;refine⟨_,rfl,tp,rfl,⟨_,SqT.of (s2 _ _ (s1 _ _ et))⟩,K7 (K:=K) (a:=tp) (xs:=rs.map V.ref) (λi σ H3=>∃(u6 u7:Option V) (cs us:List Addr),σ=[some (.ref h),some (.int (k0:Int)),some (.int (N:Int)),some (.ref tp),some (.ref ca),some (.ref tu),u6,u7]/\Same H H3/\H3 ca=some (.lst (cs.map V.ref))/\H3 tu=some (.lst (us.map V.ref))/\DdsAt H3 cs ((ds.take i).map Nf)/\DdsAt H3 us ((ds.take i).map (Qp N k0))) ⟨none,none,[],[],rfl,s1.trans s2,c2,t2,⟨rfl,λi r d h=>by simp at h⟩,⟨rfl,λi r d h=>by simp at h⟩⟩ (λi σ H3 _ ⟨_,_,_,_,_,s,_⟩=>SqT.of (s _ _ et)) ?_ ?_⟩
  ·rintro i x σ H3 hx ⟨u6,u7,cs,us,rfl,s3,c3,t3,dc,du⟩;obtain⟨r,er,rfl⟩:=map_some hx;obtain⟨dd,ed,r0⟩:=hdd.get er;have li:i<ds.length:=(List.getElem?_eq_some_iff.mp ed).1;have hn:=hz dd (mem_of_getElem? ed);have at2:dd.vs[2]? =some (.str dd.nm):=by cases dd<;> rfl
   have lc:cs.length=i:=by rw[dc.1,If,Yo];omega
   have lu:us.length=i:=by rw[du.1,If,Yo];omega
   rw[Bb ed,map_append,map_append];have r3:=s3 _ _ r0;have nct3:∀{H':Hp},H' ca=some (.lst (cs.map V.ref))->H' tu=some (.lst (us.map V.ref))->True:=λ_ _=>trivial;cases dd with
   |go m n=>
    refine⟨_,rfl,_,rfl,Fv r3 λp H4 s4 e4=> ?_⟩;have ec:Da (Dd.go m n).vs none (some 2)=[.str (Str.ofString "go"),.int m]:=rfl;rw[ec] at e4;have r4:=s4 _ _ r3;refine⟨_,rfl,r,_,2,_,rfl,rfl,SqT.of r4,Ak (j:=2) at2,n,rfl,hn,λH5 s5=> ?_⟩;refine⟨A1 (by simp),λq hq=> ?_⟩;have sq:=Ae (o:= .tup [V.str (E5 n)]) hq;have q5:=Ab (H:=H5) (a:=q) (o:= .tup [V.str (E5 n)]);generalize upd H5 q (.tup [V.str (E5 n)])=H6 at sq q5;refine Hg (sq _ _ (s5 _ _ e4)) q5 (by show 2+1<=_;omega) λff H7 s7 e7=> ?_;have S7:=((s4.trans s5).trans sq).trans s7;have r7:=S7 _ _ r3;have c7:=S7 _ _ c3;have t7:=S7 _ _ t3;refine⟨_,rfl,r,_,0,_,rfl,rfl,SqT.of r7,Ak (j:=0) rfl,rfl,_,rfl,B9 ?_⟩;refine⟨_,rfl,.inl ⟨rfl,_,SqL.of c7⟩,_,rfl,ca,_,_,rfl,rfl,c7,Aq (by rw[If];omega),?_⟩;have dc7:=Du (d:= .go m (E5 n)) (dc.mono λa xs e=>S7 _ _ e) (λa xs e=>by rw[Aj (A5 e c7 (by intro z;cases z))];exact e) (H':=upd H7 ca (.lst (cs.map V.ref++[V.ref ff]))) (by rw[Aj (A5 e7 c7 (by intro z;cases z))];exact e7);have t8:(upd H7 ca (.lst (cs.map V.ref++[V.ref ff]))) tu=some (.lst (us.map V.ref)):=by rw[Aj (Ne.symm nct)];exact t7
    have r8:(upd H7 ca (.lst (cs.map V.ref++[V.ref ff]))) r=some (.tup (Dd.go m n).vs):=by rw[Aj (A5 r7 c7 (by intro z;cases z))];exact r7
    have du8:=du.mono (H':=upd H7 ca (.lst (cs.map V.ref++[V.ref ff]))) λa xs e=>by rw[Aj (A5 (S7 _ _ e) c7 (by intro z;cases z))];exact S7 _ _ e
    have c8:=Ab (H:=H7) (a:=ca) (o:= .lst (cs.map V.ref++[V.ref ff]));have s8:=A2 (s3.trans S7) hca (o:= .lst (cs.map V.ref++[V.ref ff]));generalize upd H7 ca (.lst (cs.map V.ref++[V.ref ff]))=H8 at dc7 t8 r8 du8 c8 s8;refine⟨_,rfl,.inl ⟨rfl,_,SqL.of t8⟩,_,rfl,tu,_,_,rfl,rfl,t8,Aq (by rw[If];omega),?_⟩;refine⟨_,_,cs++[ff],us++[r],rfl,A2 s8 htu0,by rw[Aj nct,map_append];exact c8,by rw[Ab,map_append];rfl,dc7.mono λa xs e=>by rw[Aj (A5 e t8 (by intro z;cases z))];exact e,Du (d:= .go m n) du8 (λa xs e=>by rw[Aj (A5 e t8 (by intro z;cases z))];exact e) (by rw[Aj (A5 r8 t8 (by intro z;cases z))];exact r8)⟩
   |come m t=>
    refine⟨_,rfl,_,rfl,Fv r3 λp H4 s4 e4=> ?_⟩;have ec:Da (Dd.come m t).vs none (some 2)=[.str (Str.ofString "come"),.int m]:=rfl;rw[ec] at e4;have r4:=s4 _ _ r3;refine⟨_,rfl,r,_,2,_,rfl,rfl,SqT.of r4,Ak (j:=2) at2,t.1,rfl,hn,λH5 s5=> ?_⟩;refine⟨A1 (by simp),λq hq=> ?_⟩;have sq:=Ae (o:= .tup [V.str (E5 t.1)]) hq;have q5:=Ab (H:=H5) (a:=q) (o:= .tup [V.str (E5 t.1)]);generalize upd H5 q (.tup [V.str (E5 t.1)])=H6 at sq q5;refine Hg (sq _ _ (s5 _ _ e4)) q5 (by show 2+1<=_;omega) λff H7 s7 e7=> ?_;have S7:=((s4.trans s5).trans sq).trans s7;have r7:=S7 _ _ r3;have c7:=S7 _ _ c3;have t7:=S7 _ _ t3;refine⟨_,rfl,r,_,0,_,rfl,rfl,SqT.of r7,Ak (j:=0) rfl,rfl,_,rfl,Bp ?_⟩;refine⟨_,rfl,.inl ⟨rfl,_,SqL.of c7⟩,_,rfl,?_⟩;have tk:E7 N t:=(hR.ok i _ ed).2;obtain⟨ta,tb,_⟩:=tk;refine⟨_,rfl,r,_,4,_,rfl,rfl,SqT.of r7,Ak (j:=4) rfl,_,rfl,r,_,3,_,rfl,rfl,SqT.of r7,Ak (j:=3) rfl,?_⟩;refine⟨_,_,rfl,rfl,⟨by decide,by decide,by decide⟩,_,rfl,r,_,5,_,rfl,rfl,SqT.of r7,Ak (j:=5) rfl,_,_,rfl,rfl,A1 (by simp),λw hw=> ?_⟩;have cv:(10:Int) ^ (9:Int).toNat=1000000000:=by decide
    rw[cv] at *;have sw:=Ae (o:= .tup [V.int (t.2.2.1:Int),V.int (t.2.1:Int),V.int (1000000000 - t.2.2.2)]) hw;have w7:=Ab (H:=H7) (a:=w) (o:= .tup [V.int (t.2.2.1:Int),V.int (t.2.1:Int),V.int (1000000000 - t.2.2.2)]);generalize upd H7 w (.tup [V.int (t.2.2.1:Int),V.int (t.2.1:Int),V.int (1000000000 - t.2.2.2)])=H8 at sw w7;refine Hg (sw _ _ e7) w7 (by show 2+1+3<=_;omega) λg1 H9 s9 e9=> ?_;have S9:=(S7.trans sw).trans s9;have r9:=S9 _ _ r3;have c9:=S9 _ _ c3;have t9:=S9 _ _ t3;refine⟨ca,_,_,rfl,rfl,c9,Aq (by rw[If];omega),?_⟩;have dc7:=Du (d:= .come m (Nw t)) (dc.mono λa xs e=>S9 _ _ e) (λa xs e=>by rw[Aj (A5 e c9 (by intro z;cases z))];exact e) (H':=upd H9 ca (.lst (cs.map V.ref++[V.ref g1]))) (by rw[Aj (A5 e9 c9 (by intro z;cases z))];exact e9);have t8:(upd H9 ca (.lst (cs.map V.ref++[V.ref g1]))) tu=some (.lst (us.map V.ref)):=by rw[Aj (Ne.symm nct)];exact t9
    have r8:(upd H9 ca (.lst (cs.map V.ref++[V.ref g1]))) r=some (.tup (Dd.come m t).vs):=by rw[Aj (A5 r9 c9 (by intro z;cases z))];exact r9
    have du8:=du.mono (H':=upd H9 ca (.lst (cs.map V.ref++[V.ref g1]))) λa xs e=>by rw[Aj (A5 (S9 _ _ e) c9 (by intro z;cases z))];exact S9 _ _ e
    have c8:=Ab (H:=H9) (a:=ca) (o:= .lst (cs.map V.ref++[V.ref g1]));have s8:=A2 (s3.trans S9) hca (o:= .lst (cs.map V.ref++[V.ref g1]));generalize upd H9 ca (.lst (cs.map V.ref++[V.ref g1]))=Ha at dc7 t8 r8 du8 c8 s8;refine⟨_,rfl,.inl ⟨rfl,_,SqL.of t8⟩,_,rfl,_,rfl,Fv r8 λx Hb sb eb=> ?_⟩;have ec:Da (Dd.come m t).vs none (some 3)=[.str (Str.ofString "come"),.int m,.str t.1]:=rfl;rw[ec] at eb;have rb:=sb _ _ r8;refine⟨_,rfl,r,_,3,_,rfl,rfl,SqT.of rb,Ak (j:=3) rfl,_,rfl,_,_,rfl,rfl,_,rfl,_,_,rfl,rfl,(by show (0:Int)<(N:Int);omega),?_⟩;refine⟨_,rfl,r,_,4,_,rfl,rfl,SqT.of rb,Ak (j:=4) rfl,_,rfl,_,_,rfl,rfl,_,rfl,_,_,rfl,rfl,(by show (0:Int)<(N:Int);omega),?_⟩;refine⟨_,rfl,r,_,5,_,rfl,rfl,SqT.of rb,Ak (j:=5) rfl,A1 (by simp),λy hy=> ?_⟩;have f1:((t.2.1:Int)+(k0:Int)) % (N:Int)=((trnF N k0 t.2.1:Nat):Int):=by unfold trnF;rw[Int.natCast_emod,Int.natCast_add]
    have f2:((t.2.2.1:Int)+(k0:Int)) % (N:Int)=((trnF N k0 t.2.2.1:Nat):Int):=by unfold trnF;rw[Int.natCast_emod,Int.natCast_add]
    rw[f1,f2];have sy:=Ae (o:= .tup [V.int ((trnF N k0 t.2.1:Nat):Int),V.int ((trnF N k0 t.2.2.1:Nat):Int),V.int t.2.2.2]) hy;have yb:=Ab (H:=Hb) (a:=y) (o:= .tup [V.int ((trnF N k0 t.2.1:Nat):Int),V.int ((trnF N k0 t.2.2.1:Nat):Int),V.int t.2.2.2]);generalize upd Hb y (.tup [V.int ((trnF N k0 t.2.1:Nat):Int),V.int ((trnF N k0 t.2.2.1:Nat):Int),V.int t.2.2.2])=Hc at sy yb;refine Hg (sy _ _ eb) yb (by show 3+3<=_;omega) λg2 Hd sd ed2=> ?_;have Sd:=(sb.trans sy).trans sd;have td:=Sd _ _ t8;have cd:=Sd _ _ c8;refine⟨tu,_,_,rfl,rfl,td,Aq (by rw[If];omega),?_⟩;refine⟨_,_,cs++[g1],us++[g2],rfl,A2 (s8.trans Sd) htu0,by rw[Aj nct,map_append];exact cd,by rw[Ab,map_append];rfl,dc7.mono λa xs e=>by rw[Aj (A5 (Sd _ _ e) td (by intro z;cases z))];exact Sd _ _ e,Du (d:= .come m (N3 N k0 t)) (du8.mono λa xs e=>Sd _ _ e) (λa xs e=>by rw[Aj (A5 e td (by intro z;cases z))];exact e) (by rw[Aj (A5 ed2 td (by intro z;cases z))];exact ed2)⟩
  ·rintro σ H3 ⟨u6,u7,cs,us,rfl,s3,c3,t3,dc,du⟩;rw[show (rs.map V.ref).length=ds.length by rw[If,lrs],Yv] at dc du;refine⟨_,rfl,_,rfl,ca,_,rfl,.inl ⟨SqL.of c3,λa1 h1=> ?_⟩⟩;have x1:=Ae (o:= .tup (cs.map V.ref)) h1;have y1:=Ab (H:=H3) (a:=a1) (o:= .tup (cs.map V.ref));generalize upd H3 a1 (.tup (cs.map V.ref))=H4 at x1 y1;refine⟨A1 (by simp),λp1 h2=> ?_⟩;have x2:=Ae (o:= .tup [V.int (N:Int),V.ref a1]) h2;have y2:=Ab (H:=H4) (a:=p1) (o:= .tup [V.int (N:Int),V.ref a1]);generalize upd H4 p1 (.tup [V.int (N:Int),V.ref a1])=H5 at x2 y2;refine⟨_,rfl,_,rfl,tu,_,rfl,.inl ⟨SqL.of (x2 _ _ (x1 _ _ t3)),λa2 h3=> ?_⟩⟩;have x3:=Ae (o:= .tup (us.map V.ref)) h3;have y3:=Ab (H:=H5) (a:=a2) (o:= .tup (us.map V.ref));generalize upd H5 a2 (.tup (us.map V.ref))=H6 at x3 y3;refine⟨A1 (by simp),λp2 h4=> ?_⟩;have x4:=Ae (o:= .tup [V.int (N:Int),V.ref a2]) h4;have y4:=Ab (H:=H6) (a:=p2) (o:= .tup [V.int (N:Int),V.ref a2]);generalize upd H6 p2 (.tup [V.int (N:Int),V.ref a2])=H7 at x4 y4;refine⟨A1 (by simp),λp h5=> ?_⟩;have x5:=Ae (o:= .tup [V.ref p1,V.ref p2]) h5;have S1:=((x2.trans x3).trans x4).trans x5;have S0:=x1.trans S1;refine k p p1 p2 _ (s3.trans S0) Ab ⟨a1,cs,?_,S1 _ _ y1,dc.mono λa xs e=>S0 _ _ e⟩ ⟨a2,us,x5 _ _ y4,x5 _ _ (x4 _ _ y3),du.mono λa xs e=>S0 _ _ e⟩;exact x5 _ _ (x4 _ _ (x3 _ _ y2))
def nV(ps:List Nat):List V:=(ps.map ofNat).map V.int
theorem Wq{ps:List Nat}{k v:Nat}(h:ps[k]? =some v):atI (nV ps) (k:Int)=some (.int (v:Int)):=Ak (by unfold nV;rw[getElem?_map,getElem?_map,h];rfl)
def PtsAt(H:Hp)(as:List Addr)(N:Nat)(S:List T4)(ls:List Nat):Prop:=as.length=ls.length/\∀(i:Nat) r p,as[i]? =some r->ls[i]? =some p->H r=some (.tup (nV (Bn N S p)))
def Li:Sp:=λvs H Q _=>∃(N:Nat) (st:Addr) (S:List T4),vs=[.int (N:Int),.ref st]/\StandT H st S/\InN N S/\N<=60/\S.length<=100/\∀a as H',Same H H'->H' a=some (.tup (as.map V.ref))->PtsAt H' as N S (lsF N S)->Q (.ref a) H'
theorem Mc{H:Hp}{as:List Addr}{N p:Nat}{S:List T4}{ls:List Nat}{r:Addr}(h:PtsAt H as N S ls)(hr:H r=some (.tup (nV (Bn N S p)))):PtsAt H (as++[r]) N S (ls++[p]):=by
 refine⟨by rw[Yk,Yk,h.1];rfl,λi r0 p0 e1 e2=> ?_⟩;rw[getElem?_append] at e1 e2;rw[h.1] at e1;split at e1
 ·rename_i z;rw[Yf z] at e2;exact h.2 i r0 p0 e1 e2
 ·rename_i z;rw[Lt z] at e2;have hz:i - ls.length=0:=by
   have:=(List.getElem?_eq_some_iff.mp e1).1;simp only[Yx,Y9] at this;omega
  rw[hz] at e1 e2;cases e1;cases e2;exact hr
theorem PtsAt.mono{H H':Hp}{as:List Addr}{N:Nat}{S:List T4}{ls:List Nat}(h:PtsAt H as N S ls)(f:∀r zs,H r=some (.tup zs)->H' r=some (.tup zs)):PtsAt H' as N S ls:=⟨h.1,λi r p a b=>f _ _ (h.2 i r p a b)⟩
theorem scParts:Aw ["many","stand","parts"] ["many","stand"] (Ag Ek):=⟨rfl,rfl,rfl,by decide+kernel,rfl,by decide+kernel,by decide+kernel⟩
theorem Sf{f:Addr}{fd:FuncData}(F:Fun K "parts_of" "parts_of" Ek f fd)(T:Txt mg){gPart:Addr}{fPart:FuncData}(kPart:keepIn K (.ref gPart)=true)(bPart:Binds K fPart ["many","stand","place"] [])(hPart:mg "part_of"=some (.ref gPart))(GPart:FnOk P w K mg base CX0 3 gPart fPart ["many","stand","place"] Jg):
  FnOk P w K mg base CX0 4 f fd ["many","stand"] Li:=by
 refine F.ok scParts (λvs H Q E h=> ?_) (λcdv A outer s H vs Q E hr h=> ?_)
 ·obtain⟨_,_,_,rfl,_⟩:=h;rfl
 ·obtain⟨N,st,S,rfl,hst,hN,N60,S100,k⟩:=h;refine⟨_,Ad (Dy (i:=2) (T:=["place"]) (F:=["many","stand"]) (js:=[0,1]) scParts.nd rfl (Or.inl rfl) (CS.to (osc:=Ag Ek) ⟨by rfl,by decide+kernel,by decide+kernel,by decide+kernel,by decide+kernel,by decide+kernel,by decide+kernel⟩ rfl rfl) rfl (Cf rfl T.range (Aa (pv 0) Ac)) (λ_ _ _ _ _=>Am (i:=0) (show (["place","many","stand"]:List Str).Nodup by decide+kernel) rfl (Or.inl rfl)) (λ_ _ _ _ _=>Dg) (λ_ _ _ _ _=>Ai GPart hr rfl hPart kPart bPart .nil Ap (Aa (pv 1) (Aa (pv 2) (Aa (pv 0) Ac)))))
   (Ah (Ao (Bd A9 (by rfl) T.tuple (by decide+kernel) (Aa (Cu (T:=["place","part"]) (F:=[]) (js:=[]) (CS.to (osc:=Ag Ek) ⟨by rfl,by decide+kernel,by decide+kernel,by decide+kernel,by decide+kernel,by decide+kernel,by decide+kernel⟩ rfl rfl) rfl (Rl rfl T.enumerate (Aa (pv 2) Ac)) (λ_ _ _ _ _=>Uw K 2 rfl rfl (Az (Am (i:=0) (show (["place","part"]:List Str).Nodup by decide+kernel) rfl (Or.inl rfl)) (Az (Am (i:=1) (show (["place","part"]:List Str).Nodup by decide+kernel) rfl (Or.inl rfl)) Ch))) (λ_ _ _ _ _=>Dh (As Cd (Ax (r:=V5 K) A3 (pv 1) Af (λ_ _=>rfl)) (pv 0) (Av _))) (λ_ _ _ _ _=>pv 1)) Ac)))),?_⟩
  refine⟨_,rfl,(N:Int),rfl,by omega,by omega,λD hD=>C3 (lo:=0) (n:=(N:Int).toNat) (λj σ ys H2=>∃(u:Option V) (ls:List Addr),σ=[u,some (.int (N:Int)),some (.ref st)]/\ys=ls.map V.ref/\Same H H2/\H2 D=some (.lst ys)/\PtsAt H2 ls N S (List.range j)) ⟨none,[],rfl,rfl,Ae hD,Ab,rfl,λi r p e=>by simp at e⟩ (λj σ ys H2 _ ⟨_,_,_,_,_,e,_⟩=>e) ?_ ?_⟩
  ·rintro j σ ys H2 hj ⟨u,ls,rfl,rfl,s2,d2,p2⟩;have hj:j<N:=by simpa using hj
   have ll:ls.length=j:=by rw[p2.1,Za]
   refine⟨_,rfl,_,rfl,_,rfl,N,st,S,j,by rw[Int.zero_add];rfl,hst.same s2,hN,N60,S100,hj,λr H3 s3 e3=> ?_⟩;have d3:=s3 _ _ d2;refine⟨d3,Aq (by rw[If];omega),_,ls++[r],rfl,by rw[map_append];rfl,A2 (s2.trans s3) hD,Ab,?_⟩;rw[range_succ];have kp:∀(r:Addr) (zs:List V) (o:HO),H3 r=some (.tup zs)->upd H3 D o r=some (.tup zs):=λr zs o e=>by rw[Aj (A5 e d3 (by intro z;cases z))];exact e
   exact Mc ((p2.mono λr zs e=>s3 _ _ e).mono λr zs e=>kp r zs _ e) (kp _ _ _ e3)
  rintro σ ys H2 ⟨u,ls,rfl,rfl,s2,d2,p2⟩;have en:(N:Int).toNat=N:=by omega
  rw[en] at p2;have ll:ls.length=N:=by rw[p2.1,Za]
  refine⟨_,rfl,D,_,rfl,SqL.of d2,λE hE=>Re (K:=K) (a:=D) (xs:=ls.map V.ref) (λj σ ys H5=>∃(u v:Option V) (qs:List Addr),σ=[u,v]/\Same H2 H5/\H5 E=some (.lst ys)/\ys=qs.map V.ref/\PtsAt H5 qs N S ((List.range j).filter λp=>decide ((Bn N S p)[0]? =some p))) ⟨none,none,[],rfl,Ae hE,Ab,rfl,rfl,λi r p e=>by simp at e⟩ (λj σ ys H5 _ ⟨_,_,_,_,s5,e,_⟩=>⟨SqL.of (s5 _ _ d2),e⟩) ?_ ?_⟩
  ·rintro j x σ ys H5 T hx ⟨u,v,qs,rfl,s5,e5,rfl,p5⟩ hT;obtain⟨r,er,rfl⟩:=map_some hx;have hj:j<N:=by rw[<-ll];exact(List.getElem?_eq_some_iff.mp er).1
   have s6:=Ae (o:= .tup [.int (j:Int),.ref r]) hT;have T6:=Ab (H:=H5) (a:=T) (o:= .tup [.int (j:Int),.ref r]);have e6:=s6 _ _ e5;have p6:=p5.mono λr zs e=>s6 _ _ e;generalize upd H5 T (.tup [.int (j:Int),.ref r])=H6 at s6 T6 e6 p6;have S6:=s5.trans s6;have r6:=S6 _ _ (p2.2 j r j er (getElem?_range hj));refine⟨T,_,rfl,SqT.of T6,rfl,_,_,rfl,_,_,rfl,rfl,?_⟩;have h0:0<(Bn N S j).length:=List.length_pos_of_mem (Gj hN hj N60);have hg:=C6 h0;generalize (Bn N S j)[0]=q at hg;refine⟨_,rfl,r,_,0,_,rfl,rfl,SqT.of r6,Wq (k:=0) hg,_,rfl,rfl,_,rfl,?_⟩;have ql:qs.length<=100:=by
    rw[p5.1];refine le_trans (Yq _ _) ?_;rw[Za];omega
   by_cases g:q=j
   ·rw[show decide (V.int (q:Int)=V.int (j:Int))=true from decide_eq_true (by rw[g])];have ef:(List.range (j+1)).filter (λp=>decide ((Bn N S p)[0]? =some p))=(List.range j).filter (λp=>decide ((Bn N S p)[0]? =some p))++[j]:=by
     rw[range_succ,filter_append,Zj (by rw[Yh,hg,g]),filter_nil]
    have kp:∀(r:Addr) (zs:List V) (o:HO),H6 r=some (.tup zs)->upd H6 E o r=some (.tup zs):=λr zs o e=>by rw[Aj (A5 e e6 (by intro z;cases z))];exact e
    refine B9 ⟨_,rfl,e6,Aq (by rw[If];omega),_,_,qs++[r],rfl,A2 S6 hE,Ab,by rw[map_append];rfl,?_⟩;rw[ef];exact Mc (p6.mono λr zs e=>kp r zs _ e) (kp _ _ _ r6)
   ·rw[show decide (V.int (q:Int)=V.int (j:Int))=false from decide_eq_false (λe=>g (by injection e with e;omega))];have ef:(List.range (j+1)).filter (λp=>decide ((Bn N S p)[0]? =some p))=(List.range j).filter (λp=>decide ((Bn N S p)[0]? =some p)):=by
     rw[range_succ,filter_append,Zk (by rw[Yh,hg];intro z;exact g (Option.some.inj z)),filter_nil,Zg]
    refine Bp ⟨_,_,qs,rfl,S6,e6,rfl,?_⟩;rw[ef];exact p6
  ·rintro σ ys H5 ⟨u,v,qs,rfl,s5,e5,rfl,p5⟩;rw[If,ll] at p5;refine⟨E,_,rfl,.inl ⟨SqL.of e5,λl hl=> ?_⟩⟩;exact k l qs _ ((s2.trans s5).trans (Ae hl)) Ab (p5.mono λr zs e=>Ae hl _ _ e)
end K08
namespace PySem
open Sem (wp)
theorem Jv(a b:Value):argsOk "sum" ⟨[a,b],[]⟩:=by unfold argsOk;kernel_rfl
abbrev lsO(vs:Array Value)(c:Nat):Obj:={cls:= .type "list",dict:=none,data:= .seq vs c,slots:= #[]}
open PyProof.Rows
def Co(vals:Nat->List Value):Nat->List Value
 |0=>[]
 |j+1=>Co vals j++vals j
theorem sub_tup_str:isSubtype (.type "tuple") (.type "str")=pure false:=by rw[isSubtype_type];kernel_rfl
theorem sub_tup_bytes:isSubtype (.type "tuple") (.type "bytes")=pure false:=by rw[isSubtype_type];kernel_rfl
theorem sub_tup_bytearray:isSubtype (.type "tuple") (.type "bytearray")=pure false:=by rw[isSubtype_type];kernel_rfl
def SmK(q a0 S:Addr)(h:Heap)(vals:Nat->List Value)(i:Nat)(T:Addr):Prop:=
 (i=0/\T=q)\/(i=1/\T=a0)\/(2<=i/\S<T/\L2.IsTupN h T (Co vals i).toArray)
section
variable{prog:Program}{w:World}{A:Around}{R:Result->Shared->Prop}{I:Addr}{fp wr:List Addr}{n:Nat}{P:Nat->Value->Prop}{St:Nat->Heap->Prop}
theorem Dp(W:Walks prog w A.in1 I fp wr n P St)(q:Addr)(ad:Nat->Addr)(vals:Nat->List Value)(hval:∀i v,P i v->v= .ref (ad i))(S:Addr)(hSf:∀b∈fp,b<S)(hne:∀i,i<n->vals i≠[])(hz:(Co vals n).length<=sizeLine)(hmono:∀i,i<=n->(Co vals i).length<=(Co vals n).length):
  ∀(k i:Nat) (s:Shared) (T:Addr) (c:Nat),n - i=k->i<=n->St i s.heap->s.heap.get? S=some (lsO #[.ref T] c)->PyProof.Rows.IsTup s.heap T (Co vals i).toArray->T ∉ wr->T≠S->SmK q (ad 0) S s.heap vals i T->
  (∀j,j<n->ad j ∉ wr/\ad j≠S/\PyProof.Rows.IsTup s.heap (ad j) (vals j).toArray)->
  (∀h' tk T',(∀b o,b ∉ wr->b≠S->s.heap.get? b=some o->h'.get? b=some o)->SmK q (ad 0) S h' vals n T'->R (.ok (.ret (.ref T'))) {s with heap:=h',toks:=tk})->
  codeAny (model prog w) A (.builtin "sum.loop" ⟨[.ref I,.ref S,rawInt 2,rawInt 0],[]⟩) R s:=by
 have hSw:S ∉ wr:=λh=>lt_irrefl _ (hSf S (W.sub _ h));intro k
 induction k with
 |zero=>
  intro i s T c hk hi st hS hT hTw hTS hK had hR;have hin:i=n:=by omega
  subst hin;refine codeAny_builtin F.entry_sum_loop ?_;rw[Around.under_plainId F.plain_sum_loop _];show wpAny _ A.in1 (seqItems? (.ref S) >>=_) _ _ s;refine Gt (wpAny_seqItems hS rfl ?_);show wpAny _ A.in1 (tryCatch (pyNext (.ref I)) _ >>=_) _ _ s;refine Gt (wpAny_tryCatch (W.done s _ _ st λh' tk hk'=> ?_));refine Yg (hR h' tk T (λb o hb _ e=>hk' b o hb e) ?_);rcases hK with z|z|⟨z1,z2,o,ho,z3⟩
  ·exact .inl z
  ·exact .inr (.inl z)
  ·exact .inr (.inr ⟨z1,z2,o,hk' T o hTw ho,z3⟩)
 |succ k ih=>
  intro i s T c hk hi st hS hT hTw hTS hK had hR;have hlt:i<n:=by omega
  refine codeAny_builtin F.entry_sum_loop ?_;rw[Around.under_plainId F.plain_sum_loop _];show wpAny _ A.in1 (seqItems? (.ref S) >>=_) _ _ s;refine Gt (wpAny_seqItems hS rfl ?_);show wpAny _ A.in1 (tryCatch (pyNext (.ref I)) _ >>=_) _ _ s;refine Gt (wpAny_tryCatch (W.item i s _ _ hlt st λv h' tk hP hst' hk'=> ?_));have hP:=hval i v hP;subst hP;obtain⟨a1,a2,a3⟩:=had i hlt;have kT:∀(b:Addr) its,b ∉ wr->PyProof.Rows.IsTup s.heap b its->PyProof.Rows.IsTup h' b its:=λb its hb ⟨o,ho,z⟩=>⟨o,hk' b o hb ho,z⟩
  have hS':=hk' S _ hSw hS;have hT':=kT _ _ hTw hT;have hA':=kT _ _ a1 a3;have e1:Co vals (i+1)=Co vals i++vals i:=rfl;have hz':(Co vals i).length+(vals i).length<=sizeLine:=by
   have:=hmono (i+1) hlt;rw[e1,Yk] at this;omega
  have Slt:S<h'.objs.size:=Yj hS';have add:∀{Q:Value->Shared->Prop} {E:Value->Shared->Prop},(∀(T2:Addr) (h2:Heap),(∀b o,h'.get? b=some o->h2.get? b=some o)->PyProof.Rows.IsTup h2 T2 (Co vals (i+1)).toArray->T2 ∉ wr->T2≠S->SmK q (ad 0) S h2 vals (i+1) T2->Q (.ref T2) {s with heap:=h2,toks:=tk})->wpAny (model prog w) A.in1 (binaryOp .Add (.ref T) (.ref (ad i))) Q E {s with heap:=h',toks:=tk}:=by
   intro Q E hQ;by_cases ei:i=0
   ·subst ei;obtain⟨⟨cls,dd,data,sl⟩,ho,hc,m,hd⟩:=id hT';obtain⟨⟨cls2,dd2,data2,sl2⟩,ho2,hc2,m2,hd2⟩:=id hA';simp only at hc hd hc2 hd2;subst hc hd hc2 hd2;exact PySem.concat_meets ⟨_,ho,rfl⟩ ⟨_,ho2,rfl⟩ noFill_tuple_add seq_tuple_add slot_tuple_add entry_tuple_add (args_tuple_add_2 _ _)
     (tuple_addW0 T (ad 0) _ _ m m2 dd dd2 sl sl2 (by rfl)) ⟨ho,ho2,hQ (ad 0) h' (λb o e=>e) (by rw[e1];simpa[Co] using hA') a1 a2 (.inr (.inl ⟨rfl,rfl⟩))⟩
   ·have nn:Co vals i≠[]:=by
     obtain⟨j,rfl⟩:=Nat.exists_eq_succ_of_ne_zero ei;intro z;exact hne j (by omega) (List.append_eq_nil_iff.mp (show Co vals j++vals j=[] from z)).2
    refine HT.cat_tup hT' hA' nn (λz=>absurd z (hne i hlt)) (λ_=> ?_) hz';have nw:h'.objs.size ∉ wr:=λz=>by
     exact Nat.lt_asymm (hSf _ (W.sub _ z)) Slt
    exact hQ h'.objs.size _ (λb o e=>Is _ e) (L2.IsTupN.new _ _).tup nw (Nat.ne_of_gt Slt) (.inr (.inr ⟨by omega,Slt,L2.IsTupN.new _ _⟩))
  show wpAny _ A.in1 ((holding [Value.ref (ad i)] (binaryOp .Add (.ref T) (.ref (ad i)))).attempt >>=_) _ _ _;refine Gt (wpAny_attempt (Y5 (add λT2 h2 k2 t2 w2 s2 K2=> ?_)));have hS1:=k2 _ _ hS';show wpAny _ A.in1 (updateSeq S (λ_=> #[.ref T2]) >>=_) _ _ {s with heap:=h2,toks:=tk};refine Gt (wpAny_updateSeq hS1 rfl ?_);have hS2:=Heap.get?_update_self (Obj.mapSeq λ_=> #[Value.ref T2]) hS1 rfl;refine Gt (wpAny_letGo ?_);have oth:∀b o,b≠S->h2.get? b=some o->((h2.update S (Obj.mapSeq λ_=> #[Value.ref T2])).update S (Obj.mapSeq λ_=> #[Value.ref T2])).get? b=some o:=λb o hb e=>
   (Heap.get?_update_other _ _ (Ne.symm hb)).trans ((Heap.get?_update_other _ _ (Ne.symm hb)).trans e)
  refine Gt (wpAny_updateSeq hS2 rfl (Yg ⟨plainId_quiet F.plain_sum_loop _,ih (i+1) _ T2 _ (by omega) hlt ?_ (Heap.get?_update_self _ hS2 rfl) ?_ w2 s2 ?_ (λj hj=> ?_) λh'' tk'' T'' k3 K3=> ?_⟩))
  ·refine W.frame _ _ _ hst' λb hb o e=>oth b o (λz=> ?_) (k2 _ _ e);have:=hSf b hb;rw[z] at this;exact lt_irrefl _ this
  ·obtain⟨o,ho,z⟩:=t2;exact⟨o,oth _ _ s2 ho,z⟩
  ·rcases K2 with z|z|⟨z1,z2,o,ho,z3⟩
   ·exact .inl z
   ·exact .inr (.inl z)
   ·exact .inr (.inr ⟨z1,z2,o,oth _ _ s2 ho,z3⟩)
  ·obtain⟨b1,b2,o,ho,z⟩:=had j hj;exact⟨b1,b2,o,oth _ _ b2 (k2 _ _ (hk' _ _ b1 ho)),z⟩
  ·exact hR h'' tk'' T'' (λb o hbw hbS e=>k3 b o hbw hbS (oth b o hbS (k2 _ _ (hk' b o hbw e)))) K3
end
end PySem
namespace L2
open PySem PySem.Spec PyProof.Rows
section
variable{X:Cx}
theorem O8(vals:Nat->List Value):∀i n,i<=n->(Co vals i).length<=(Co vals n).length:=by
 intro i n h
 induction n with
 |zero=>
  have:i=0:=by omega
  subst this;exact le_refl _
 |succ n ih=>
  rcases Nat.lt_or_eq_of_le h with z|z
  ·have:=ih (by omega);show _<=(Co vals n++vals n).length;rw[Yk];omega
  ·subst z;exact le_refl _
theorem Gr{nss:List (List V)}{vals:Nat->List Value}(hv:∀(i:Nat) ns,nss[i]? =some ns->Vals ns (vals i)):∀n,n<=nss.length->Vals (nss.take n).flatten (Co vals n)
 |0,_=> .nil
 |n+1,h=>by
  have hn:n<nss.length:=by omega
  have e:nss.take (n+1)=nss.take n++[nss[n]]:=by simp
  rw[e,List.flatten_append];show Vals _ (Co vals n++vals n);refine(Gr hv n (by omega)).append ?_;have:=hv n nss[n] (getElem?_eq_getElem hn);simpa using this
theorem G8{xs:List V}{us:List Value}(h:Vals xs us)(e:us=[]):xs=[]:=by
 subst e;cases h;rfl
theorem Nk(hc:X.calm=true):Ca X (.builtin "sum") (λxs H Q=>∃(p q:Addr) (as:List Addr) (nss:List (List V)),xs=[.ref p,.ref q]/\SqL X.K H p (as.map V.ref)/\SqT X.K H q []/\as.length=nss.length/\(∀(i:Nat) a ns,as[i]? =some a->nss[i]? =some ns->SqT X.K H a ns/\ns≠[])/\nss.flatten.length<=sizeLine/\∀l H',Same H H'->SqT X.K H' l nss.flatten->Q (.ref l) H'):=by
 intro pins s σ H xs us Q I r h;obtain⟨p,q,as,nss,rfl,hp,hq,hl,hin,hz,k⟩:=h;obtain⟨u,v,rfl,rx,ry⟩:=Ma r;cases rx;cases ry;obtain⟨its,rv,hpl,hpz⟩:=I.list hp;have hpi:=hpl.isList;have hps:p<s.heap.objs.size:=by obtain⟨o,ho,_⟩:=hpi;exact Yj ho
 obtain⟨itq,rq,hqt,_⟩:=I.tuple hq;have itq0:itq=[]:=by
  have:=rq.length;cases itq with
  |nil=>rfl
  |cons=>cases this
 subst itq0;have lits:=rv.length;rw[If] at lits;have inn:∀i,∃(a:Addr) (vs:List Value),i<as.length->as[i]? =some a/\PyProof.Rows.IsTup s.heap a vs.toArray/\∀ns,nss[i]? =some ns->Vals ns vs/\ns≠[]:=λi=>by
  by_cases hi:i<as.length
  ·have ea:=getElem?_eq_getElem hi;have en:=getElem?_eq_getElem (show i<nss.length by omega);obtain⟨sq,nn⟩:=hin i _ _ ea en;obtain⟨it1,r1,t1,_⟩:=I.tuple sq;exact⟨as[i],it1,λ_=>⟨ea,t1,λns hns=>by rw[en] at hns;cases hns;exact⟨r1,nn⟩⟩⟩
  ·exact⟨0,[],λz=>absurd z hi⟩
 have⟨ad,hj⟩:=Classical.axiomOfChoice inn;have⟨vals,hv⟩:=Classical.axiomOfChoice hj;have items:its.toArray.size=as.length:=by rw[size_toArray];omega
 have tot:Vals nss.flatten (Co vals its.toArray.size):=by
  have:=Gr (nss:=nss) (vals:=vals) (λi ns hns=>((hv i (by rw[hl];exact(List.getElem?_eq_some_iff.mp hns).1)).2.2 ns hns).1) nss.length (le_refl _);rw[Yv] at this;rw[items,hl];exact this
 have tz:(Co vals its.toArray.size).length<=sizeLine:=by
  have e:nss.flatten.length=(Co vals its.toArray.size).length:=tot.length;exact e▸hz
 refine call_function_tree F.kind_sum F.plain_sum F.entry_sum (Jv _ _) ?_;unfold Builtin.«sum»;simp only[Yx,Y9];rw[Lt (by decide)];refine Gt (wpAny_of_eq (show Builtin.Builtins.bindParams "sum" ["start"] 0 ⟨[.ref q],[]⟩=pure [some (.ref q)] from rfl) ?_);refine Gt (wpAny_pyIter_list hpi ?_);refine Gt (Yg ?_);simp only[List.forIn_cons,List.forIn_nil];have tq:∀(ob:Obj),({s with heap:=s.heap.push ob}:Shared).TypeIs (.ref q) "tuple":=λob=>by
  obtain⟨o,ho,hcl,_⟩:=hqt;exact⟨o,Is _ ho,hcl⟩
 refine Gt (Gt (Gt (Ze (T:="tuple") (b:=false) (tq _) PySem.sub_tup_str ?_)));simp only[Y6,Zl];refine Yg (Gt (Gt (Ze (T:="tuple") (b:=false) (tq _) PySem.sub_tup_bytes ?_)));simp only[Y6,Zl];refine Yg (Gt (Gt (Ze (T:="tuple") (b:=false) (tq _) PySem.sub_tup_bytearray ?_)));simp only[Y6,Zl];refine Yg (Yg ?_);refine Gt (Yw ?_);obtain⟨h2,eh2⟩:∃h2,h2=(s.heap.push {cls:= .type "list_iterator",data:= .fields #[.ref p,.int 0 0]}).push (lsO #[.ref q] 0):=⟨_,rfl⟩
 obtain⟨SS,eSS⟩:∃SS:Addr,SS=s.heap.objs.size+1:=⟨_,rfl⟩
 have sz1:(s.heap.push {cls:= .type "list_iterator",data:= .fields #[.ref p,.int 0 0]}).objs.size=s.heap.objs.size+1:=size_push _ _;have keep:∀b o,s.heap.get? b=some o->h2.get? b=some o:=λb o e=>by rw[eh2];exact Is _ (Is _ e)
 have gS:h2.get? SS=some (lsO #[.ref q] 0):=by rw[eh2,eSS,<-sz1];exact Yi _ rfl
 have gI:h2.IsListIter s.heap.objs.size p 0:=⟨_,by rw[eh2];exact Is _ (Yi _ rfl),rfl,rfl⟩
 have gP:h2.IsList p its.toArray:=hpi.at λo e=>keep _ _ e;have lt:∀b o,s.heap.get? b=some o->b ∉ [s.heap.objs.size]/\b≠SS:=λb o e=>by
  have h:=Yj e;exact⟨λz=>by rw[mem_singleton.mp z] at h;exact lt_irrefl _ h,by rw[eSS];exact ne_of_lt (Yz h)⟩
 have kt:∀b its,PyProof.Rows.IsTup s.heap b its->b ∉ [s.heap.objs.size]/\b≠SS/\PyProof.Rows.IsTup h2 b its:=λb its ⟨o,ho,z⟩=>⟨(lt b o ho).1,(lt b o ho).2,o,keep _ _ ho,z⟩
 have hh:X.A.in1.handled=none:=I.ok.hd hc;show wpAny (model X.prog X.w) X.A.in1 (again (Code.builtin "sum.loop" {pos:=[Value.ref s.heap.objs.size,Value.ref (s.heap.push {cls:= .type "list_iterator",data:= .fields #[.ref p,.int 0 0]}).objs.size,rawInt 2,rawInt 0]})) _ _ {s with heap:=(s.heap.push {cls:= .type "list_iterator",data:= .fields #[.ref p,.int 0 0]}).push (lsO #[.ref q] 0)};rw[sz1,<-eSS,<-eh2];refine Yg ⟨plainId_quiet F.plain_sum_loop _,Dp (s:={s with heap:=h2}) (Walks.list hh s.heap.objs.size p (ne_of_lt hps) its.toArray) q ad vals (λi v hv'=> ?_) SS (λb hb=> ?_) (λi hi=> ?_) tz (λi hi=>O8 vals i _ hi) its.toArray.size 0 q 0 rfl (Y0 _) ⟨gI,gP⟩ gS (kt _ _ hqt).2.2 (kt _ _ hqt).1 (kt _ _ hqt).2.1 (.inl ⟨rfl,rfl⟩) (λj hj=> ?_) λh' tk T' k2 K2=> ?_⟩
 ·have hi:i<as.length:=by rw[<-items];exact(Array.getElem?_eq_some_iff.mp hv').1
  obtain⟨ea,_,_⟩:=hv i hi;rw[List.getElem?_toArray] at hv';obtain⟨u,hu,ru⟩:=rv.get (i:=i) (x:=V.ref (ad i)) (by rw[getElem?_map,ea];rfl);rw[hv'] at hu;cases hu;exact ru
 ·rw[eSS];rcases Ym.mp hb with z|z
  ·rw[z];exact lt_succ_self _
  ·rw[mem_singleton.mp z];exact Yz hps
 ·have hi:i<as.length:=by rw[<-items];exact hi
  obtain⟨_,_,g⟩:=hv i hi;have en:=getElem?_eq_getElem (show i<nss.length by omega);obtain⟨g1,g2⟩:=g _ en;exact λz=>g2 (G8 g1 z)
 ·obtain⟨_,t1,_⟩:=hv j (by rw[<-items];exact hj);exact kt _ _ t1
 ·have kk:∀b o,s.heap.get? b=some o->h'.get? b=some o:=λb o e=>k2 b o (lt b o e).1 (lt b o e).2 (keep b o e);rcases K2 with⟨z,rfl⟩|⟨z,rfl⟩|⟨_,z,t3⟩
  ·have n0:nss=[]:=List.length_eq_zero_iff.mp (by omega);subst n0;exact⟨.ref T',H,I.kept (t':=tk) kk,rfl,k T' H (Same.refl _) hq⟩
  ·have h0:0<as.length:=by omega
   obtain⟨ea,_,_⟩:=hv 0 h0;have l1:nss.length=1:=by omega
   match nss,l1 with
   |[ns],_=>
    refine⟨.ref (ad 0),H,I.kept (t':=tk) kk,rfl,k (ad 0) H (Same.refl _) ?_⟩;rw[Zm,List.flatten_nil,Zg];exact(hin 0 (ad 0) ns ea rfl).1
  ·have fr:s.heap.objs.size<=T':=by rw[eSS] at z;exact le_of_lt (Nat.lt_trans (lt_succ_self _) z)
   exact⟨.ref T',_,I.laid (t':=tk) (o:= .tup nss.flatten) kk fr ⟨hz,Co vals its.toArray.size,tot,t3⟩,rfl,k T' _ (λb u e=>by rw[Aj (λz=>by rw[z,I.hok.fresh fr] at e;cases e)];exact e) (SqT.of Ab)⟩
theorem N7(hc:X.calm=true):Ca X (.builtin "sum") (λxs H Q=>∃(p q:Addr) (as:List Addr) (nss:List (List V)),xs=[.ref p,.ref q]/\SqT X.K H p (as.map V.ref)/\SqT X.K H q []/\as.length=nss.length/\(∀(i:Nat) a ns,as[i]? =some a->nss[i]? =some ns->SqT X.K H a ns/\ns≠[])/\nss.flatten.length<=sizeLine/\∀l H',Same H H'->SqT X.K H' l nss.flatten->Q (.ref l) H'):=by
 intro pins s σ H xs us Q I r h;obtain⟨p,q,as,nss,rfl,hp,hq,hl,hin,hz,k⟩:=h;obtain⟨u,v,rfl,rx,ry⟩:=Ma r;cases rx;cases ry;obtain⟨its,rv,hpl,hpz⟩:=I.tuple hp;have hpi:s.heap.IsTuple p its.toArray:=hpl;have hps:p<s.heap.objs.size:=by obtain⟨o,ho,_⟩:=hpi;exact Yj ho
 obtain⟨itq,rq,hqt,_⟩:=I.tuple hq;have itq0:itq=[]:=by
  have:=rq.length;cases itq with
  |nil=>rfl
  |cons=>cases this
 subst itq0;have lits:=rv.length;rw[If] at lits;have inn:∀i,∃(a:Addr) (vs:List Value),i<as.length->as[i]? =some a/\PyProof.Rows.IsTup s.heap a vs.toArray/\∀ns,nss[i]? =some ns->Vals ns vs/\ns≠[]:=λi=>by
  by_cases hi:i<as.length
  ·have ea:=getElem?_eq_getElem hi;have en:=getElem?_eq_getElem (show i<nss.length by omega);obtain⟨sq,nn⟩:=hin i _ _ ea en;obtain⟨it1,r1,t1,_⟩:=I.tuple sq;exact⟨as[i],it1,λ_=>⟨ea,t1,λns hns=>by rw[en] at hns;cases hns;exact⟨r1,nn⟩⟩⟩
  ·exact⟨0,[],λz=>absurd z hi⟩
 have⟨ad,hj⟩:=Classical.axiomOfChoice inn;have⟨vals,hv⟩:=Classical.axiomOfChoice hj;have items:its.toArray.size=as.length:=by rw[size_toArray];omega
 have tot:Vals nss.flatten (Co vals its.toArray.size):=by
  have:=Gr (nss:=nss) (vals:=vals) (λi ns hns=>((hv i (by rw[hl];exact(List.getElem?_eq_some_iff.mp hns).1)).2.2 ns hns).1) nss.length (le_refl _);rw[Yv] at this;rw[items,hl];exact this
 have tz:(Co vals its.toArray.size).length<=sizeLine:=by
  have e:nss.flatten.length=(Co vals its.toArray.size).length:=tot.length;exact e▸hz
 refine call_function_tree F.kind_sum F.plain_sum F.entry_sum (Jv _ _) ?_;unfold Builtin.«sum»;simp only[Yx,Y9];rw[Lt (by decide)];refine Gt (wpAny_of_eq (show Builtin.Builtins.bindParams "sum" ["start"] 0 ⟨[.ref q],[]⟩=pure [some (.ref q)] from rfl) ?_);refine Gt (wpAny_pyIter_tuple hpi ?_);refine Gt (Yg ?_);simp only[List.forIn_cons,List.forIn_nil];have tq:∀(ob:Obj),({s with heap:=s.heap.push ob}:Shared).TypeIs (.ref q) "tuple":=λob=>by
  obtain⟨o,ho,hcl,_⟩:=hqt;exact⟨o,Is _ ho,hcl⟩
 refine Gt (Gt (Gt (Ze (T:="tuple") (b:=false) (tq _) PySem.sub_tup_str ?_)));simp only[Y6,Zl];refine Yg (Gt (Gt (Ze (T:="tuple") (b:=false) (tq _) PySem.sub_tup_bytes ?_)));simp only[Y6,Zl];refine Yg (Gt (Gt (Ze (T:="tuple") (b:=false) (tq _) PySem.sub_tup_bytearray ?_)));simp only[Y6,Zl];refine Yg (Yg ?_);refine Gt (Yw ?_);obtain⟨h2,eh2⟩:∃h2,h2=(s.heap.push {cls:= .type "tuple_iterator",data:= .fields #[.ref p,.int 0 0]}).push (lsO #[.ref q] 0):=⟨_,rfl⟩
 obtain⟨SS,eSS⟩:∃SS:Addr,SS=s.heap.objs.size+1:=⟨_,rfl⟩
 have sz1:(s.heap.push {cls:= .type "tuple_iterator",data:= .fields #[.ref p,.int 0 0]}).objs.size=s.heap.objs.size+1:=size_push _ _;have keep:∀b o,s.heap.get? b=some o->h2.get? b=some o:=λb o e=>by rw[eh2];exact Is _ (Is _ e)
 have gS:h2.get? SS=some (lsO #[.ref q] 0):=by rw[eh2,eSS,<-sz1];exact Yi _ rfl
 have gI:h2.IsTupleIter s.heap.objs.size p 0:=⟨_,by rw[eh2];exact Is _ (Yi _ rfl),rfl,rfl⟩
 have gP:h2.IsTuple p its.toArray:=hpi.at λo e=>keep _ _ e;have lt:∀b o,s.heap.get? b=some o->b ∉ [s.heap.objs.size]/\b≠SS:=λb o e=>by
  have h:=Yj e;exact⟨λz=>by rw[mem_singleton.mp z] at h;exact lt_irrefl _ h,by rw[eSS];exact ne_of_lt (Yz h)⟩
 have kt:∀b its,PyProof.Rows.IsTup s.heap b its->b ∉ [s.heap.objs.size]/\b≠SS/\PyProof.Rows.IsTup h2 b its:=λb its ⟨o,ho,z⟩=>⟨(lt b o ho).1,(lt b o ho).2,o,keep _ _ ho,z⟩
 have hh:X.A.in1.handled=none:=I.ok.hd hc;show wpAny (model X.prog X.w) X.A.in1 (again (Code.builtin "sum.loop" {pos:=[Value.ref s.heap.objs.size,Value.ref (s.heap.push {cls:= .type "tuple_iterator",data:= .fields #[.ref p,.int 0 0]}).objs.size,rawInt 2,rawInt 0]})) _ _ {s with heap:=(s.heap.push {cls:= .type "tuple_iterator",data:= .fields #[.ref p,.int 0 0]}).push (lsO #[.ref q] 0)};rw[sz1,<-eSS,<-eh2];refine Yg ⟨plainId_quiet F.plain_sum_loop _,Dp (s:={s with heap:=h2}) (Walks.tuple hh s.heap.objs.size p (ne_of_lt hps) its.toArray) q ad vals (λi v hv'=> ?_) SS (λb hb=> ?_) (λi hi=> ?_) tz (λi hi=>O8 vals i _ hi) its.toArray.size 0 q 0 rfl (Y0 _) ⟨gI,gP⟩ gS (kt _ _ hqt).2.2 (kt _ _ hqt).1 (kt _ _ hqt).2.1 (.inl ⟨rfl,rfl⟩) (λj hj=> ?_) λh' tk T' k2 K2=> ?_⟩
 ·have hi:i<as.length:=by rw[<-items];exact(Array.getElem?_eq_some_iff.mp hv').1
  obtain⟨ea,_,_⟩:=hv i hi;rw[List.getElem?_toArray] at hv';obtain⟨u,hu,ru⟩:=rv.get (i:=i) (x:=V.ref (ad i)) (by rw[getElem?_map,ea];rfl);rw[hv'] at hu;cases hu;exact ru
 ·rw[eSS];rcases Ym.mp hb with z|z
  ·rw[z];exact lt_succ_self _
  ·rw[mem_singleton.mp z];exact Yz hps
 ·have hi:i<as.length:=by rw[<-items];exact hi
  obtain⟨_,_,g⟩:=hv i hi;have en:=getElem?_eq_getElem (show i<nss.length by omega);obtain⟨g1,g2⟩:=g _ en;exact λz=>g2 (G8 g1 z)
 ·obtain⟨_,t1,_⟩:=hv j (by rw[<-items];exact hj);exact kt _ _ t1
 ·have kk:∀b o,s.heap.get? b=some o->h'.get? b=some o:=λb o e=>k2 b o (lt b o e).1 (lt b o e).2 (keep b o e);rcases K2 with⟨z,rfl⟩|⟨z,rfl⟩|⟨_,z,t3⟩
  ·have n0:nss=[]:=List.length_eq_zero_iff.mp (by omega);subst n0;exact⟨.ref T',H,I.kept (t':=tk) kk,rfl,k T' H (Same.refl _) hq⟩
  ·have h0:0<as.length:=by omega
   obtain⟨ea,_,_⟩:=hv 0 h0;have l1:nss.length=1:=by omega
   match nss,l1 with
   |[ns],_=>
    refine⟨.ref (ad 0),H,I.kept (t':=tk) kk,rfl,k (ad 0) H (Same.refl _) ?_⟩;rw[Zm,List.flatten_nil,Zg];exact(hin 0 (ad 0) ns ea rfl).1
  ·have fr:s.heap.objs.size<=T':=by rw[eSS] at z;exact le_of_lt (Nat.lt_trans (lt_succ_self _) z)
   exact⟨.ref T',_,I.laid (t':=tk) (o:= .tup nss.flatten) kk fr ⟨hz,Co vals its.toArray.size,tot,t3⟩,rfl,k T' _ (λb u e=>by rw[Aj (λz=>by rw[z,I.hok.fresh fr] at e;cases e)];exact e) (SqT.of Ab)⟩
end
end L2
namespace L2
open PySem
theorem Ho:∀{as:List Addr} {us:List Value},Vals (as.map V.ref) us->us=as.map Value.ref
 |[],_,h=>by cases h;rfl
 |a::as,_,h=>by
  cases h with
  |cons r t=>cases r;rw[Ho t];rfl
def Vh(e:Addr->Bool):Value->Bool
 | .ref a=>e a
 |_=>false
theorem Uc(e:Addr->Bool)(as:List Addr):(as.map Value.ref).any (Vh e)=as.any e:=by
 rw[List.any_map];rfl
inductive Mx(K:Frag)(x:V)(y:V)(H:Hp)(Q:VK):Prop
 |mk (p:Addr) (as:List Addr) (e:Addr->Bool) (n:Nat):(y= .ref p)->(SqL K H p (as.map V.ref))->(n<=30)->(∀a∈as,Eqs K H n (.ref a) x (e a))->(Q (.bl (!as.any e)) H)->Mx K x y H Q
def O6(K:Frag):R2:=λx y H Q=>Mx K x y H Q
theorem Qa{X:Cx}(hu:X.A.units+64<cLine):OpR X (compareOp .NotIn) (O6 X.K):=by
 intro pins s σ H x y v u Q I rx ry h;obtain⟨p,as,e,n,rfl,hq,hn,he,q⟩:=h;cases ry;obtain⟨its,r,pl,hz⟩:=I.list hq;have hi:=Ho r;subst hi;refine SeqAt.notIn_listAt (Vh e) pl.isList (λw hw=> ?_) ⟨.bl _,H,I,rfl,?_⟩
 ·have hw:w∈as.map Value.ref:=by simpa using hw
  obtain⟨a,ha,rfl⟩:=mem_map.mp hw;refine Fi I n (A:=X.A.in1) ?_ (he a ha) rfl rx;have e1:X.A.in1.units<=X.A.units+1:=le_refl _;omega
 ·rw[show (as.map Value.ref).toArray.any (Vh e)=(as.map Value.ref).any (Vh e) by simp,Uc];exact q
end L2
namespace K08
variable{P:Program}{w:World}{K:Frag}{mg:Str->Option Value}{base:Heap}
open PySem L2 Wk
theorem R1{α β:Type}{f:α->β}{ys zs:List β}(h:ys.Perm zs):∀{l:List α},zs=l.map f->∃l':List α,ys=l'.map f/\l'.Perm l:=by
 induction h with
 |nil=>intro l e;exact⟨[],rfl,by cases l with|nil=>exact .nil|cons=>cases e⟩
 |cons x _ ih=>
  intro l e;cases l with
  |nil=>cases e
  |cons y l=>
   injection e with e1 e2;obtain⟨l',h1,h2⟩:=ih e2;exact⟨y::l',by rw[h1,e1];rfl,h2.cons y⟩
 |swap x y zs=>
  intro l e
  match l,e with
  |[],e=>cases e
  |[_],e=>injection e with _ e;cases e
  |u::v::l,e=>
   injection e with e1 e2;injection e2 with e2 e3;exact⟨v::u::l,by rw[e1,e2,e3];rfl,.swap u v l⟩
 |trans _ _ ih1 ih2=>
  intro l e;obtain⟨l1,h1,h2⟩:=ih2 e;obtain⟨l2,h3,h4⟩:=ih1 h1;exact⟨l2,h3,h4.trans h2⟩
def PsAt(H:Hp)(as:List Addr)(L:List (List Nat)):Prop:=as.length=L.length/\∀(i:Nat) r l,as[i]? =some r->L[i]? =some l->H r=some (.tup (nV l))
theorem PsAt.mono{H H':Hp}{as:List Addr}{L:List (List Nat)}(h:PsAt H as L)(f:∀r xs,H r=some (.tup xs)->H' r=some (.tup xs)):PsAt H' as L:=⟨h.1,λi r l a b=>f _ _ (h.2 i r l a b)⟩
theorem PsAt.same{H H':Hp}{as:List Addr}{L:List (List Nat)}(h:PsAt H as L)(s:Same H H'):PsAt H' as L:=h.mono λr xs=>s r (.tup xs)
theorem PsAt.get{H:Hp}{as:List Addr}{L:List (List Nat)}(h:PsAt H as L){i:Nat}{r:Addr}(hr:as[i]? =some r):∃l,L[i]? =some l/\H r=some (.tup (nV l)):=by
 have hi:i<L.length:=by rw[<-h.1];exact(List.getElem?_eq_some_iff.mp hr).1
 exact⟨L[i],getElem?_eq_getElem hi,h.2 i r _ hr (getElem?_eq_getElem hi)⟩
theorem PsAt.nil{H:Hp}:PsAt H [] []:=⟨rfl,λi r l h=>by simp at h⟩
theorem PsAt.snoc{H:Hp}{as:List Addr}{L:List (List Nat)}(h:PsAt H as L){r:Addr}{l:List Nat}(hr:H r=some (.tup (nV l))):PsAt H (as++[r]) (L++[l]):=by
 refine⟨by simp[h.1],λi a x ha hx=> ?_⟩;rw[getElem?_append] at ha hx;by_cases hi:i<as.length
 ·rw[Yf hi] at ha;rw[Yf (by rw[<-h.1];exact hi)] at hx;exact h.2 i a x ha hx
 ·rw[Lt hi] at ha;rw[Lt (by rw[<-h.1];exact hi),<-h.1] at hx;have:i - as.length=0:=by
   have:=(List.getElem?_eq_some_iff.mp ha).1;simp at this;omega
  rw[this] at ha hx;cases ha;cases hx;exact hr
def PlAt(H:Hp)(x:Addr)(L:List (List Nat)):Prop:=∃as:List Addr,H x=some (.tup (as.map V.ref))/\PsAt H as L
theorem PlAt.same{H H':Hp}{x:Addr}{L:List (List Nat)}(h:PlAt H x L)(s:Same H H'):PlAt H' x L:=let ⟨as,a,b⟩:=h;⟨as,s _ _ a,b.same s⟩
theorem O9{H:Hp}{as:List Addr}{N:Nat}{S:List T4}(h:PtsAt H as N S (lsF N S)):PsAt H as (PL N S):=by
 refine⟨by rw[h.1];unfold PL;rw[If],λi r l hr hl=> ?_⟩;unfold PL at hl;rw[getElem?_map] at hl;cases e:(lsF N S)[i]? with
 |none=>rw[e] at hl;cases hl
 |some p=>rw[e] at hl;cases hl;exact h.2 i r p hr e
theorem Oo(q:Nat)(ps:List Nat):inV (.int (q:Int)) (nV ps)=decide (q∈ps):=by
 unfold nV;rw[Mm,Bool.eq_iff_iff,Yh,Yh,mem_map];constructor
 ·rintro⟨x,hx,e⟩;have:x=q:=by have:(x:Int)=q:=e;omega
  rw[<-this];exact hx
 ·intro h;exact⟨q,h,rfl⟩
theorem Ny{l m:List Nat}(e:nV l=nV m):l=m:=by
 unfold nV at e;have h1:=List.map_inj_right (f:=V.int) (λx y h=>by injection h)|>.mp e;exact List.map_inj_right (f:=ofNat) (λx y h=>ofNat.inj h)|>.mp h1
theorem X8(l m:List Nat):decide (nV l=nV m)=decide (l=m):=decide_eq_decide.mpr ⟨Ny,λh=>by rw[h]⟩
theorem Us{l m:List Nat}:∀x∈nV l,∀y∈nV m,Flt x y=true:=by
 intro x hx y hy;unfold nV at hx hy;obtain⟨_,_,rfl⟩:=mem_map.mp hx;obtain⟨_,_,rfl⟩:=mem_map.mp hy;rfl
theorem Iu{K:Frag}{H:Hp}{n:Nat}{x y:Addr}{l m:List Nat}(hx:H x=some (.tup (nV l)))(hy:H y=some (.tup (nV m))):Eqs K H (n+1) (.ref x) (.ref y) (decide (l=m)):=by
 rw[<-X8];exact Eqs.flats (SqT.of hx) (SqT.of hy) Us
theorem Ds{K:Frag}{H:Hp}{n:Nat}{x y:Addr}{L M:List (List Nat)}(hx:PlAt H x L)(hy:PlAt H y M):Eqs K H (n+2) (.ref x) (.ref y) (decide (L=M)):=by
 obtain⟨as,a1,a2⟩:=hx;obtain⟨bs,b1,b2⟩:=hy;refine Eqs.seq (.inl ⟨SqT.of a1,SqT.of b1⟩) (by rw[If,a2.1]) (by rw[If,b2.1]) λj p q d e hp hq hd he=> ?_;obtain⟨r,hr,rfl⟩:=map_some hp;obtain⟨s,hs,rfl⟩:=map_some hq;exact Iu (a2.2 j r d hr hd) (b2.2 j s e hs he)
theorem Ia{as:List Addr}{L:List (List Nat)}:(L.map nV).flatten=nV L.flatten:=by
 unfold nV;rw[List.map_flatten,List.map_flatten,map_map];rfl
theorem Kg(L:List (List Nat)):((L.map nV).flatten).length=L.flatten.length:=by
 have e:∀l,(nV l).length=l.length:=λl=>by unfold nV;rw[If,If]
 rw[Ia (as:=[]),e]
def rowP(z:Addr×List Nat):Srt.Pi:=(z.1,(hd z.2:Int),(nV z.2).tail)
theorem Ox{H:Hp}{as:List Addr}{L:List (List Nat)}(h:PsAt H as L){z:Addr×List Nat}(hz:z∈as.zip L):z.2∈L/\H z.1=some (.tup (nV z.2)):=by
 obtain⟨i,hi,rfl⟩:=List.mem_iff_getElem.mp hz;rw[List.length_zip] at hi;rw[List.getElem_zip];exact⟨getElem_mem _,h.2 i _ _ (getElem?_eq_getElem (by omega)) (getElem?_eq_getElem (by omega))⟩
theorem V1{as:List Addr}{L:List (List Nat)}(h:as.length=L.length):(as.zip L).map Prod.fst=as:=List.map_fst_zip (by omega)
theorem Pf{as:List Addr}{L:List (List Nat)}(h:as.length=L.length):(as.zip L).map Prod.snd=L:=List.map_snd_zip (by omega)
theorem Uq{l:List Nat}(h:l≠[]):nV l=V.int (hd l:Int)::(nV l).tail:=by
 cases l with
 |nil=>exact absurd rfl h
 |cons a l=>rfl
theorem Il{K:Frag}{H:Hp}{as:List Addr}{L:List (List Nat)}(h:PsAt H as L)(ne:∀l∈L,l≠[])(nd:(L.map hd).Nodup)(hl:L.length<64):
  ∃ps:List Srt.Pi,as.map V.ref=ps.map Srt.iRef/\(∀q∈ps,SqT K H q.1 (V.int q.2.1::q.2.2))/\(ps.map (·.2.1)).Nodup/\ps.length<64/\
   ∀ps':List Srt.Pi,ps'.Perm ps->ps'.Pairwise (λa b=>¬b.2.1<a.2.1)->∃(bs:List Addr) (M:List (List Nat)),ps'.map Srt.iRef=bs.map V.ref/\M.Perm L/\M.Pairwise (λa b=>¬hd b<hd a)/\PsAt H bs M:=by
 refine⟨(as.zip L).map rowP,?_,λq hq=> ?_,?_,by rw[If,List.length_zip];omega,λps' hp hw=> ?_⟩
 ·conv=>lhs;rw[<-V1 h.1]
  rw[map_map,map_map];rfl
 ·obtain⟨z,hz,rfl⟩:=mem_map.mp hq;obtain⟨z1,z2⟩:=Ox h hz;refine SqT.of ?_;show H z.1=some (.tup (V.int (hd z.2:Int)::(nV z.2).tail));rw[<-Uq (ne _ z1)];exact z2
 ·rw[map_map];have e:(as.zip L).map ((λq:Srt.Pi=>q.2.1)∘rowP)=(L.map hd).map ofNat:=by
   conv=>rhs;rw[<-Pf h.1]
   rw[map_map,map_map];rfl
  rw[e,Nodup,Yt];exact nd.imp λh e=>h (ofNat.inj e)
 ·obtain⟨zs,rfl,pz⟩:=R1 hp rfl;refine⟨zs.map Prod.fst,zs.map Prod.snd,by rw[map_map,map_map];rfl,?_,?_,by rw[If,If],λi r l hr hl=> ?_⟩
  ·have:=pz.map Prod.snd
   rwa [Pf h.1] at this
  ·rw[Yt] at hw ⊢;exact hw.imp λ{a b} h q=>h (by show ((hd b.2:Nat):Int)<((hd a.2:Nat):Int);omega)
  ·rw[getElem?_map] at hr hl;cases e:zs[i]? with
   |none=>rw[e] at hr;cases hr
   |some z=>
    rw[e] at hr hl;cases hr;cases hl;exact(Ox h (pz.mem_iff.mp (mem_of_getElem? e))).2
theorem Gh{xs:List Nat}{ns:List Int}(hp:ns.Perm (xs.map ofNat))(hs:ns.Pairwise λa b=>Srt.ltK (.inl b) (.inl a)=false)(nd:xs.Nodup):∃ms:List Nat,ns=ms.map ofNat/\ms.Perm xs/\ms.Pairwise (·<·):=
 Sz hp (hs.imp λh=>of_decide_eq_false h) nd
def Nl:Sp:=λvs H Q _=>∃(N:Nat) (x:Addr) (R:Nat->Nat->Prop) (L:List (List Nat)),vs=[.int (N:Int),.ref x]/\PlAt H x L/\Pts N R L/\N<=24/\∀H',Same H H'->Q (.bl true) H'
def Nq:Sp:=λvs H Q _=>∃(N:Nat) (x:Addr) (p q:Nat) (R:Nat->Nat->Prop) (L:List (List Nat)),vs=[.ref x,.int (p:Int),.int (q:Int)]/\PlAt H x L/\Pts N R L/\N<=24/\p<N/\q<N/\∀(y:Addr) (M:List (List Nat)) H',Same H H'->PlAt H' y M->Pts N (Kl R p q) M->Q (.ref y) H'
def K9:Sp:=λvs H Q _=>∃(N:Nat) (r tt x y:Addr) (d:Dd) (t:T4) (R:Nat->Nat->Prop) (L M:List (List Nat)),vs=[.ref r,.ref tt,.ref x,.ref y]/\H r=some (.tup d.vs)/\H tt=some (.tup (Cm t))/\PlAt H x L/\PlAt H y M/\N<=24/\t.2.1<N/\t.2.2.1<N/\Pts N R (if Ge d=true then L else M)/\Pts N (Kl R t.2.1 t.2.2.1) (if Ge d=true then M else L)/\∀H',Same H H'->Q (.bl true) H'
def Kw:Sp:=λvs H Q _=>∃(N:Nat) (st x l:Addr) (S:List T4) (p:Nat) (os:List Nat),vs=[.int (N:Int),.ref st,.ref x,.int (p:Int),.ref l]/\StandT H st S/\InN N S/\N<=24/\S.length<=100/\PlAt H x (PL N S)/\p<N/\H l=some (.lst (nV os))/\(∀o∈os,o<N)/\os.length<=60/\∀H',Same H H'->Q (.bl true) H'
theorem Wx:Aw ["_law_many_here","_law_parts"] ["_law_many_here","_law_parts"] (Ag Kh):=⟨rfl,rfl,rfl,by decide+kernel,rfl,by decide+kernel,by decide+kernel⟩
theorem V3{f:Addr}{fd:FuncData}(F:Fun K "_law_all_once" "_law_all_once" Kh f fd)(T:Txt mg):
  FnOk P w K mg base CX0 1 f fd ["_law_many_here","_law_parts"] Nl:=by
 refine F.ok Wx (λvs H Q E h=> ?_) (λcdv A outer s H vs Q E hr h=> ?_)
 ·obtain⟨_,_,_,_,rfl,_⟩:=h;rfl
 ·obtain⟨N,x,R,L,rfl,hx,hp,N24,k⟩:=h;refine⟨_,Ah (Ao (Br (Ls hr.units) (An Srt.call_sortedIt (by rfl) T.sorted (by decide+kernel) (Aa (An (N7 rfl) (by rfl) T.sum boot_sum (Aa (pv 1) (Aa (Bv Ac) Ac))) Ac)) (Bd (Jq rfl) (by rfl) T.list (by decide+kernel) (Aa (Bd Lw (by rfl) T.range (by decide+kernel) (Aa (pv 0) Ac)) Ac)) (Av _))),?_⟩;obtain⟨as,ax,ap⟩:=hx;have LN:=hp.many;refine⟨_,rfl,A1 (by simp),λq hq=> ?_⟩;have s1:=Ae (o:= .tup []) hq;have q1:=Ab (H:=H) (a:=q) (o:= .tup []);generalize upd H q (.tup [])=H1 at s1 q1;have fl:=hp.len;refine⟨x,q,as,L.map nV,rfl,SqT.of (s1 _ _ ax),SqT.of q1,by rw[If,ap.1],λi r ns hr hn=> ?_,A1 (by rw[Kg];omega),λl H2 s2 hl=> ?_⟩
  ·obtain⟨m,hm,rfl⟩:∃m,L[i]? =some m/\nV m=ns:=by
    rw[getElem?_map] at hn;cases e:L[i]? with
    |none=>rw[e] at hn;cases hn
    |some m=>rw[e] at hn;cases hn;exact⟨m,rfl,rfl⟩
   refine⟨SqT.of (s1 _ _ (ap.2 i r m hr hm)),?_⟩;have:=hp.ne m (mem_of_getElem? hm);rw[Uq this];simp
  rw[Ia (as:=as)] at hl;refine⟨l,L.flatten.map ofNat,rfl,hl,by rw[If];omega,λo ns ho hpm hpw=> ?_⟩;obtain⟨ms,rfl,pm,ps⟩:=Gh hpm hpw (hp.sub_nd (List.Sublist.refl _));have em:=hp.once pm ps;subst em;have s3:=Ae (o:= .lst (((List.range N).map ofNat).map V.int)) ho;have o3:=Ab (H:=H2) (a:=o) (o:= .lst (((List.range N).map ofNat).map V.int));generalize upd H2 o (.lst (((List.range N).map ofNat).map V.int))=H3 at s3 o3;refine⟨_,rfl,(N:Int),rfl,λrg hrg=> ?_⟩;have s4:=Ae (o:= .rng 0 (N:Int)) hrg;have r4:=Ab (H:=H3) (a:=rg) (o:= .rng 0 (N:Int));generalize upd H3 rg (.rng 0 (N:Int))=H4 at s4 r4;refine⟨rg,0,(N:Int),rfl,r4,⟨by omega,by omega,by omega,by omega⟩,by omega,λb hb=> ?_⟩;have e0:((Fy 0 ((N:Int) - 0).toNat).map V.int)=((List.range N).map ofNat).map V.int:=by
   rw[show ((N:Int) - 0).toNat=N by omega];unfold Fy
   congr 1
   refine map_congr_left λi _=> ?_;show (0:Int)+(i:Int)=(i:Int);omega
  rw[e0];have s5:=Ae (o:= .lst (((List.range N).map ofNat).map V.int)) hb;have b5:=Ab (H:=H4) (a:=b) (o:= .lst (((List.range N).map ofNat).map V.int));have o5:=s5 _ _ (s4 _ _ o3);generalize upd H4 b (.lst (((List.range N).map ofNat).map V.int))=H5 at s5 b5 o5;refine⟨0,_,o,b,rfl,rfl,by decide,Eqs.seq (.inr ⟨SqL.of o5,SqL.of b5⟩) rfl rfl (λj p q d e hp hq hd he=> ?_),?_⟩
  ·rw[hp] at hd;rw[hq] at he;cases hd;cases he;exact Eqs.flat (Us p (mem_of_getElem? hp) q (mem_of_getElem? hq))
  ·rw[decide_eq_true rfl];exact k _ ((((s1.trans s2).trans s3).trans s4).trans s5)
theorem scWith:Aw ["_law_parts","_law_one","_law_other","_law_some","_law_rest"] ["_law_parts","_law_one","_law_other"] (Ag G3):=⟨rfl,rfl,rfl,by decide+kernel,rfl,by decide+kernel,by decide+kernel⟩
theorem U3{f:Addr}{fd:FuncData}(F:Fun K "_law_with" "_law_with" G3 f fd)(T:Txt mg):
  FnOk P w K mg base CX0 1 f fd ["_law_parts","_law_one","_law_other"] Nq:=by
 refine F.ok scWith (λvs H Q E h=> ?_) (λcdv A outer s H vs Q E hr h=> ?_)
 ·obtain⟨_,_,_,_,_,_,rfl,_⟩:=h;rfl
 ·obtain⟨N,x,p,q,R,L,rfl,hx,hp,N24,pN,qN,k⟩:=h;refine⟨_,Ad (Al (i:=3) scWith.nd rfl (Or.inr rfl) (Cu (T:=["_law_part"]) (F:=["_law_one","_law_other"]) (js:=[1,2]) (CS.to (osc:=Ag G3) ⟨by rfl,by decide+kernel,by decide+kernel,by decide+kernel,by decide+kernel,by decide+kernel,by decide+kernel⟩ rfl rfl) rfl (Ec (pv 0)) (λ_ _ _ _ _=>Am (i:=0) (show (["_law_part","_law_one","_law_other"]:List Str).Nodup by decide+kernel) rfl (Or.inl rfl)) (λ_ _ _ _ _=>Dh (PW.pt (Fz (As (r:=rIn K false) Dm (pv 1) (pv 0) (by rfl)) (Eb (As (r:=rIn K false) Dm (pv 2) (pv 0) (by rfl)))))) (λ_ _ _ _ _=>pv 0)))
   (Ad (Dy (i:=4) (T:=["_law_part"]) (F:=["_law_some"]) (js:=[3]) scWith.nd rfl (Or.inl rfl) (CS.to (osc:=Ag G3) ⟨by rfl,by decide+kernel,by decide+kernel,by decide+kernel,by decide+kernel,by decide+kernel,by decide+kernel⟩ rfl rfl) rfl (Ec (pv 0)) (λ_ _ _ _ _=>Am (i:=0) (show (["_law_part","_law_some"]:List Str).Nodup by decide+kernel) rfl (Or.inl rfl)) (λ_ _ _ _ _=>Dh (As (r:=O6 K) (Qa hr.units) (pv 0) (pv 1) (by rfl))) (λ_ _ _ _ _=>pv 0))
   (Ah (Ao (Bd A9 (by rfl) T.tuple (by decide+kernel) (Aa (An Srt.call_sortedNi (by rfl) T.sorted (by decide+kernel) (Aa (Ar Lp (pv 4) (B7 (Aa (Bd A9 (by rfl) T.tuple (by decide+kernel) (Aa (An Srt.call_sortedIt (by rfl) T.sorted (by decide+kernel) (Aa (An (Nk rfl) (by rfl) T.sum boot_sum (Aa (pv 3) (Aa (Bv Ac) Ac))) Ac)) Ac)) Ac))) Ac)) Ac))))),?_⟩
  obtain⟨as,ax,ap⟩:=hx;have LN:=hp.many;have fl:=hp.len;refine⟨_,rfl,x,rfl,⟨_,SqT.of ax⟩,λD hD=>Dq (K:=K) (a:=x) (xs:=as.map V.ref) (λj σ ys H6=>∃(u:Option V) (ss:List Addr),σ=[u,some (.int (p:Int)),some (.int (q:Int))]/\Same H H6/\H6 D=some (.lst ys)/\ys=ss.map V.ref/\PsAt H6 ss ((L.take j).filter (B6 p q))) ⟨none,[],rfl,Ae hD,Ab,rfl,.nil⟩ (λj σ ys H6 _ ⟨_,_,_,s,e,_⟩=>⟨SqT.of (s _ _ ax),e⟩) ?_ ?_⟩
  ·rintro j z σ ys H6 hx ⟨u,ss,rfl,s6,d6,rfl,p6⟩;obtain⟨r,er,rfl⟩:=map_some hx;obtain⟨l,el,r0⟩:=ap.get er;have r6:=s6 _ _ r0;have ln:((L.take j).filter (B6 p q)).length<=24:=by
    have h1:=Yq (B6 p q) (L.take j);have h2:(L.take j).length<=L.length:=by rw[Yo];omega
    omega
   have sl:=p6.1;have tk:=Bb el;have fin:B6 p q l=true->∀(σ:St),∃(u:Option V) (ss':List Addr),[some (V.ref r),some (.int (p:Int)),some (.int (q:Int))]=[u,some (.int (p:Int)),some (.int (q:Int))]/\Same H (upd H6 D (.lst (ss.map V.ref++[.ref r])))/\(upd H6 D (.lst (ss.map V.ref++[.ref r]))) D=some (.lst (ss.map V.ref++[.ref r]))/\ss.map V.ref++[.ref r]=ss'.map V.ref/\PsAt (upd H6 D (.lst (ss.map V.ref++[.ref r]))) ss' ((L.take (j+1)).filter (B6 p q)):=λg _=>by
    refine⟨_,ss++[r],rfl,A2 s6 hD,Ab,by rw[map_append];rfl,?_⟩;rw[tk,filter_append,Zj g,filter_nil];exact(p6.mono λa xs e=>by rw[Aj (A5 e d6 (by intro z;cases z))];exact e).snoc (by rw[Aj (A5 r6 d6 (by intro z;cases z))];exact r6)
   refine⟨_,rfl,_,rfl,r,nV l,rfl,.inr (SqT.of r6),rfl,Dv _,_,rfl,?_⟩;rw[show (if false=true then !inV (V.int (p:Int)) (nV l) else inV (V.int (p:Int)) (nV l))=decide (p∈l) from Oo p l];by_cases g1:p∈l
   ·rw[decide_eq_true g1];exact B9 ⟨_,rfl,d6,Aq (by rw[If];omega),fin (hasB_iff.mpr (.inl g1)) []⟩
   ·rw[decide_eq_false g1];refine Bp ⟨_,rfl,_,rfl,r,nV l,rfl,.inr (SqT.of r6),rfl,Dv _,_,rfl,?_⟩;rw[show (if false=true then !inV (V.int (q:Int)) (nV l) else inV (V.int (q:Int)) (nV l))=decide (q∈l) from Oo q l];by_cases g2:q∈l
    ·rw[decide_eq_true g2];exact B9 ⟨_,rfl,d6,Aq (by rw[If];omega),fin (hasB_iff.mpr (.inr g2)) []⟩
    ·rw[decide_eq_false g2];refine Bp ⟨_,ss,rfl,s6,d6,rfl,?_⟩;rw[tk,filter_append,Zk (λz=>(hasB_iff.mp z).elim g1 g2),filter_nil,Zg];exact p6
  rintro σ ys H6 ⟨u,ss,rfl,s6,d6,rfl,p6⟩;rw[If,ap.1,Yv] at p6;have lf:(L.filter (B6 p q)).length<=24:=by have:=Yq (B6 p q) L;omega
  refine⟨_,rfl,x,rfl,⟨_,SqT.of (s6 _ _ ax)⟩,λD2 hD2=>Dq (K:=K) (a:=x) (xs:=as.map V.ref) (λj σ ys H7=>∃(u:Option V) (rs:List Addr),σ=[u,some (.ref D)]/\Same H6 H7/\H7 D2=some (.lst ys)/\ys=rs.map V.ref/\PsAt H7 rs ((L.take j).filter (λl=> !B6 p q l))) ⟨none,[],rfl,Ae hD2,Ab,rfl,.nil⟩ (λj σ ys H7 _ ⟨_,_,_,s,e,_⟩=>⟨SqT.of (s _ _ (s6 _ _ ax)),e⟩) ?_ ?_⟩
  ·rintro j z σ ys H7 hx ⟨u,rs,rfl,s7,d7,rfl,p7⟩;obtain⟨r,er,rfl⟩:=map_some hx;obtain⟨l,el,r0⟩:=ap.get er;have r7:=s7 _ _ (s6 _ _ r0);have q7:=p6.same s7;have ln:((L.take j).filter (λl=> !B6 p q l)).length<=24:=by
    have h1:=Yq (λl=> !B6 p q l) (L.take j);have h2:(L.take j).length<=L.length:=by rw[Yo];omega
    omega
   have sl:=p7.1;have tk:=Bb el;have ea:ss.any (λa=> @decide (H7 a=some (.tup (nV l))) (Classical.propDecidable _))=B6 p q l:=by
    rw[Bool.eq_iff_iff,List.any_eq_true];constructor
    ·rintro⟨b,hb,e⟩;have e:= @of_decide_eq_true _ (Classical.propDecidable _) e;obtain⟨i,hi⟩:=List.mem_iff_getElem?.mp hb;obtain⟨m,hm,bm⟩:=q7.get hi;rw[e] at bm;have:l=m:=Ny (by injection bm with bm;injection bm);subst this;exact(mem_filter.mp (mem_of_getElem? hm)).2
    ·intro g;obtain⟨i,hi⟩:=List.mem_iff_getElem?.mp (mem_filter.mpr ⟨mem_of_getElem? el,g⟩);have hs:i<ss.length:=by rw[q7.1];exact(List.getElem?_eq_some_iff.mp hi).1
     exact⟨ss[i],getElem_mem hs,@decide_eq_true _ (Classical.propDecidable _) (q7.2 i _ _ (getElem?_eq_getElem hs) hi)⟩
   refine⟨_,rfl,_,rfl,D,ss,λa=> @decide (H7 a=some (.tup (nV l))) (Classical.propDecidable _),1,rfl,SqL.of (s7 _ _ d6),by decide,λb hb=> ?_,_,rfl,?_⟩
   ·obtain⟨i,hi⟩:=List.mem_iff_getElem?.mp hb;obtain⟨m,hm,bm⟩:=q7.get hi;have:=Iu (K:=K) (n:=0) bm r7;have e:decide (m=l)= @decide (H7 b=some (.tup (nV l))) (Classical.propDecidable _):=by
     rw[Bool.eq_iff_iff,Yh];constructor
     ·intro e;subst e;exact @decide_eq_true _ (Classical.propDecidable _) bm
     ·intro e;have e:= @of_decide_eq_true _ (Classical.propDecidable _) e;rw[e] at bm;exact(Ny (by injection bm with bm;injection bm)).symm
    rw[e] at this;exact this
   rw[ea];cases g:B6 p q l with
   |true=>
    refine Bp ⟨_,rs,rfl,s7,d7,rfl,?_⟩;rw[tk,filter_append,Zk (by rw[g];decide),filter_nil,Zg];exact p7
   |false=>
    refine B9 ⟨_,rfl,d7,Aq (by rw[If];omega),_,rs++[r],rfl,A2 s7 hD2,Ab,by rw[map_append];rfl,?_⟩;rw[tk,filter_append,Zj (by rw[g];rfl),filter_nil];exact(p7.mono λa xs e=>by rw[Aj (A5 e d7 (by intro z;cases z))];exact e).snoc (by rw[Aj (A5 r7 d7 (by intro z;cases z))];exact r7)
  rintro σ ys H7 ⟨u,rs,rfl,s7,d7,rfl,p7⟩;rw[If,ap.1,Yv] at p7;have lr:(L.filter λl=> !B6 p q l).length<=24:=by have:=Yq (λl=> !B6 p q l) L;omega
  have e7:=s7 _ _ d6;have q7:=p6.same s7;refine⟨_,rfl,_,rfl,A1 (by simp),λb hb=> ?_⟩;have s8:=Ae (o:= .tup []) hb;have b8:=Ab (H:=H7) (a:=b) (o:= .tup []);generalize upd H7 b (.tup [])=H8 at s8 b8;have ff:(L.filter (B6 p q)).flatten.length<=24:=by
   have h1:=Nodup.length_le_of_subset (hp.sub_nd (Y7 (p:=B6 p q) (l:=L))) (l₂:=List.range N) λz hz=>by
    obtain⟨l,hl,zl⟩:=mem_flatten.mp hz;exact mem_range.mpr (hp.cl l (mem_filter.mp hl).1 z zl).1
   rw[Za] at h1;omega
  refine⟨D,b,ss,(L.filter (B6 p q)).map nV,rfl,SqL.of (s8 _ _ e7),SqT.of b8,by rw[If,q7.1],λi r ns hr hn=> ?_,A1 (by rw[Kg];omega),λl H9 s9 hl=> ?_⟩
  ·obtain⟨m,hm,rfl⟩:∃m,(L.filter (B6 p q))[i]? =some m/\nV m=ns:=by
    rw[getElem?_map] at hn;cases e:(L.filter (B6 p q))[i]? with
    |none=>rw[e] at hn;cases hn
    |some m=>rw[e] at hn;cases hn;exact⟨m,rfl,rfl⟩
   refine⟨SqT.of (s8 _ _ (q7.2 i r m hr hm)),?_⟩;have:=hp.ne m (mem_filter.mp (mem_of_getElem? hm)).1;rw[Uq this];simp
  rw[Ia (as:=as)] at hl;refine⟨l,(L.filter (B6 p q)).flatten.map ofNat,rfl,hl,by rw[If];omega,λo ns ho hpm hpw=> ?_⟩;obtain⟨ms,rfl,pm,ps⟩:=Gh hpm hpw (hp.sub_nd Y7);have sa:=Ae (o:= .lst ((ms.map ofNat).map V.int)) ho;have oa:=Ab (H:=H9) (a:=o) (o:= .lst ((ms.map ofNat).map V.int));generalize upd H9 o (.lst ((ms.map ofNat).map V.int))=Ha at sa oa;refine⟨o,_,rfl,.inl ⟨SqL.of oa,λt ht=> ?_⟩⟩;have sb:=Ae (o:= .tup ((ms.map ofNat).map V.int)) ht;have tb:=Ab (H:=Ha) (a:=t) (o:= .tup ((ms.map ofNat).map V.int));generalize upd Ha t (.tup ((ms.map ofNat).map V.int))=Hb at sb tb;refine⟨A1 (by simp),λg hg=> ?_⟩;have sc:=Ae (o:= .lst [V.ref t]) hg;have gc:=Ab (H:=Hb) (a:=g) (o:= .lst [V.ref t]);generalize upd Hb g (.lst [V.ref t])=Hc at sc gc;have Sc:=(((s8.trans s9).trans sa).trans sb).trans sc;refine⟨D2,g,_,_,rfl,rfl,Sc _ _ d7,gc,A1 (by rw[If,p7.1];simp;omega),λc hc=> ?_⟩;have sd:=Ae (o:= .lst (rs.map V.ref++[V.ref t])) hc;have cd:=Ab (H:=Hc) (a:=c) (o:= .lst (rs.map V.ref++[V.ref t]));generalize upd Hc c (.lst (rs.map V.ref++[V.ref t]))=Hd at sd cd;have pd:PsAt Hd (rs++[t]) ((L.filter λl=> !B6 p q l)++[ms]):=(p7.same (Sc.trans sd)).snoc (sd _ _ (sc _ _ tb));have ned:∀l∈(L.filter λl=> !B6 p q l)++[ms],l≠[]:=λl hl=>by
   rcases mem_append.mp hl with z|z
   ·exact hp.ne l (mem_filter.mp z).1
   ·rw[mem_singleton.mp z];exact Lr hp pN qN pm
  obtain⟨prs,w1,w2,w3,w4,w5⟩:=Il (K:=K) pd ned (Pb hp pN qN pm) (by rw[Yk];simp;omega);refine⟨c,prs,rfl,SqL.of (by rw[<-w1,map_append];exact cd),w2,w3,w4,λf ps' hf hpf hwf=> ?_⟩;obtain⟨bs,M,m1,m2,m3,m4⟩:=w5 ps' hpf hwf;rw[m1];have se:=Ae (o:= .lst (bs.map V.ref)) hf;have fe:=Ab (H:=Hd) (a:=f) (o:= .lst (bs.map V.ref));generalize upd Hd f (.lst (bs.map V.ref))=He at se fe;refine⟨f,_,rfl,.inl ⟨SqL.of fe,λy hy=> ?_⟩⟩;have sf:=Ae (o:= .tup (bs.map V.ref)) hy;exact k y M _ ((((s6.trans s7).trans (Sc.trans sd)).trans se).trans sf) ⟨bs,Ab,(m4.same se).same sf⟩ (R7 hp pN qN pm ps m2 m3)
theorem U8:Aw ["_law_deed","_law_tie_here","_law_ahead","_law_behind"] ["_law_deed","_law_tie_here","_law_ahead","_law_behind"] (Ag Gq):=⟨rfl,rfl,rfl,by decide+kernel,rfl,by decide+kernel,by decide+kernel⟩
theorem Tr{f:Addr}{fd:FuncData}(F:Fun K "_law_step_right" "_law_step_right" Gq f fd)(T:Txt mg){gWith:Addr}{fWith:FuncData}(kWith:keepIn K (.ref gWith)=true)(bWith:Binds K fWith ["_law_parts","_law_one","_law_other"] [])(hWith:mg "_law_with"=some (.ref gWith))(GWith:FnOk P w K mg base CX0 1 gWith fWith ["_law_parts","_law_one","_law_other"] Nq):
  FnOk P w K mg base CX0 2 f fd ["_law_deed","_law_tie_here","_law_ahead","_law_behind"] K9:=by
 refine F.ok U8 (λvs H Q E h=> ?_) (λcdv A outer s H vs Q E hr h=> ?_)
 ·obtain⟨_,_,_,_,_,_,_,_,_,_,rfl,_⟩:=h;rfl
 ·obtain⟨N,r,tt,x,y,d,t,R,L,M,rfl,hr0,ht,hx,hy,N24,tN1,tN2,hp1,hp2,k⟩:=h;refine⟨_,Ad (Be (As Cd (Ax A3 (pv 0) Af (λ_ _=>rfl)) Bo (Av _)) (Ah (Ao (Br (Ls hr.units) (pv 3) (Ai GWith hr rfl hWith kWith bWith .nil Ap (Aa (pv 2) (Aa (Ax A3 (pv 1) Af (λ_ _=>rfl)) (Aa (Ax A3 (pv 1) Af (λ_ _=>rfl)) Ac)))) (Av _)))) A0)
   (Ah (Ao (pe_or (Br (Ls hr.units) (pv 3) (pv 2) (Av _)) (Ff (Br (Ls hr.units) (Ai GWith hr rfl hWith kWith bWith .nil Ap (Aa (pv 3) (Aa (Ax A3 (pv 1) Af (λ_ _=>rfl)) (Aa (Ax A3 (pv 1) Af (λ_ _=>rfl)) Ac)))) (pv 2) (Av _)))))),?_⟩
  cases d with
  |come m u=>
   have hp1:Pts N R L:=hp1;have hp2:Pts N (Kl R t.2.1 t.2.2.1) M:=hp2;refine⟨_,rfl,r,_,0,_,rfl,rfl,SqT.of hr0,Ak (j:=0) rfl,rfl,_,rfl,B9 ?_⟩;refine⟨_,rfl,_,rfl,_,rfl,tt,_,1,_,rfl,rfl,SqT.of ht,Ak (j:=1) rfl,_,rfl,tt,_,2,_,rfl,rfl,SqT.of ht,Ak (j:=2) rfl,?_⟩;refine⟨N,x,t.2.1,t.2.2.1,R,L,rfl,hx,hp1,N24,tN1,tN2,λz M' H1 s1 hz hq=> ?_⟩;have e:=hq.uniq hp2;subst e;refine⟨1,_,y,z,rfl,rfl,by decide,Ds (hy.same s1) hz,?_⟩;rw[decide_eq_true rfl];exact k H1 s1
  |go m u=>
   have hp1:Pts N R M:=hp1;have hp2:Pts N (Kl R t.2.1 t.2.2.1) L:=hp2;refine⟨_,rfl,r,_,0,_,rfl,rfl,SqT.of hr0,Ak (j:=0) rfl,rfl,_,rfl,Bp ?_⟩;dsimp only[Bj];refine⟨_,rfl,_,rfl,1,_,y,x,rfl,rfl,by decide,Ds hy hx,?_⟩;by_cases e0:M=L
   ·rw[decide_eq_true e0];exact⟨_,rfl,B9 (k H (Cn H))⟩
   ·rw[decide_eq_false e0];refine⟨_,rfl,Bp ?_⟩;refine⟨_,rfl,_,rfl,tt,_,1,_,rfl,rfl,SqT.of ht,Ak (j:=1) rfl,_,rfl,tt,_,2,_,rfl,rfl,SqT.of ht,Ak (j:=2) rfl,?_⟩;refine⟨N,y,t.2.1,t.2.2.1,R,M,rfl,hy,hp1,N24,tN1,tN2,λz M' H1 s1 hz hq=> ?_⟩;have e:=hq.uniq hp2;subst e;refine⟨_,rfl,1,_,z,x,rfl,rfl,by decide,Ds hz (hx.same s1),?_⟩;rw[decide_eq_true rfl];exact k H1 s1
theorem scPartR:Aw ["_law_many_here","_law_stand","_law_parts","_law_place","_law_others","_law_mine"] ["_law_many_here","_law_stand","_law_parts","_law_place","_law_others"] (Ag Eo):=⟨rfl,rfl,rfl,by decide+kernel,rfl,by decide+kernel,by decide+kernel⟩
theorem Ut{f:Addr}{fd:FuncData}(F:Fun K "_law_part_right" "_law_part_right" Eo f fd)(T:Txt mg){gPart:Addr}{fPart:FuncData}(kPart:keepIn K (.ref gPart)=true)(bPart:Binds K fPart ["many","stand","place"] [])(hPart:mg "part_of"=some (.ref gPart))(GPart:FnOk P w K mg base CX0 4 gPart fPart ["many","stand","place"] Jg){gJoined:Addr}{fJoined:FuncData}(kJoined:keepIn K (.ref gJoined)=true)(bJoined:Binds K fJoined ["many","stand","one","other"] [])(hJoined:mg "are_joined"=some (.ref gJoined))(GJoined:FnOk P w K mg base CX0 4 gJoined fJoined ["many","stand","one","other"] Ht):
  FnOk P w K mg base CX0 5 f fd ["_law_many_here","_law_stand","_law_parts","_law_place","_law_others"] Kw:=by
 refine F.ok scPartR (λvs H Q E h=> ?_) (λcdv A outer s H vs Q E hr h=> ?_)
 ·obtain⟨_,_,_,_,_,_,_,rfl,_⟩:=h;rfl
 ·obtain⟨N,st,x,l,S,p,os,rfl,hst,hN,N24,S100,hx,pN,hl,ho,lo,k⟩:=h;refine⟨_,Ad (Al (i:=5) scPartR.nd rfl (Or.inr rfl) (Ax Ba (Cu (T:=["_law_part"]) (F:=["_law_place"]) (js:=[3]) (CS.to (osc:=Ag Eo) ⟨by rfl,by decide+kernel,by decide+kernel,by decide+kernel,by decide+kernel,by decide+kernel,by decide+kernel⟩ rfl rfl) rfl (Ec (pv 2)) (λ_ _ _ _ _=>Am (i:=0) (show (["_law_part","_law_place"]:List Str).Nodup by decide+kernel) rfl (Or.inl rfl)) (λ_ _ _ _ _=>Dh (As (r:=rIn K false) Dm (pv 1) (pv 0) (by rfl))) (λ_ _ _ _ _=>pv 0)) Af (λ_ _=>rfl)))
   (Ad (Be (As (K6 hr.units) (Ai GPart hr rfl hPart kPart bPart .nil Ap (Aa (pv 0) (Aa (pv 1) (Aa (pv 3) Ac)))) (pv 5) (Av _)) (Ah (Ao C0)) A0)
   (Ah (Ao (Br (Mh hr.units) (Cu (T:=["_law_other"]) (F:=["_law_many_here","_law_stand","_law_place","_law_mine"]) (js:=[0,1,3,5]) (CS.to (osc:=Ag Eo) ⟨by rfl,by decide+kernel,by decide+kernel,by decide+kernel,by decide+kernel,by decide+kernel,by decide+kernel⟩ rfl rfl) rfl (Ll (pv 4)) (λ_ _ _ _ _=>Am (i:=0) (show (["_law_other","_law_many_here","_law_stand","_law_place","_law_mine"]:List Str).Nodup by decide+kernel) rfl (Or.inl rfl)) (λ_ _ _ _ _=>Dh (As L0 (Ai GJoined hr rfl hJoined kJoined bJoined .nil Ap (Aa (pv 1) (Aa (pv 2) (Aa (pv 3) (Aa (pv 0) Ac))))) (Br (r:=rIn K false) Dm (pv 0) (pv 4) (by rfl)) (Av _))) (λ_ _ _ _ _=>pv 0)) (B7 Ac) (Av _))))),?_⟩
  obtain⟨as,ax,ap⟩:=hx;have pp:=Cs hN (by omega);have LN:=pp.many;refine⟨_,rfl,x,rfl,⟨_,SqT.of ax⟩,λD hD=>Dq (K:=K) (a:=x) (xs:=as.map V.ref) (λj σ ys H6=>∃(u:Option V) (ss:List Addr),σ=[u,some (.int (p:Int))]/\Same H H6/\H6 D=some (.lst ys)/\ys=ss.map V.ref/\PsAt H6 ss (((PL N S).take j).filter λl=>decide (p∈l))) ⟨none,[],rfl,Ae hD,Ab,rfl,.nil⟩ (λj σ ys H6 _ ⟨_,_,_,s,e,_⟩=>⟨SqT.of (s _ _ ax),e⟩) ?_ ?_⟩
  ·rintro j z σ ys H6 hx ⟨u,ss,rfl,s6,d6,rfl,p6⟩;obtain⟨r,er,rfl⟩:=map_some hx;obtain⟨m,el,r0⟩:=ap.get er;have r6:=s6 _ _ r0;have ln:(((PL N S).take j).filter λl=>decide (p∈l)).length<=24:=by
    have h1:=Yq (λl=>decide (p∈l)) ((PL N S).take j);have h2:((PL N S).take j).length<=(PL N S).length:=by rw[Yo];omega
    omega
   have sl:=p6.1;refine⟨_,rfl,_,rfl,r,nV m,rfl,.inr (SqT.of r6),rfl,Dv _,_,rfl,?_⟩;rw[show (if false=true then !inV (V.int (p:Int)) (nV m) else inV (V.int (p:Int)) (nV m))=decide (p∈m) from Oo p m,Bb el,filter_append];by_cases g1:p∈m
   ·rw[decide_eq_true g1];refine B9 ⟨_,rfl,d6,Aq (by rw[If];omega),_,ss++[r],rfl,A2 s6 hD,Ab,by rw[map_append];rfl,?_⟩;rw[Zj (by simpa using g1),filter_nil];exact(p6.mono λa xs e=>by rw[Aj (A5 e d6 (by intro z;cases z))];exact e).snoc (by rw[Aj (A5 r6 d6 (by intro z;cases z))];exact r6)
   ·rw[decide_eq_false g1];refine Bp ⟨_,ss,rfl,s6,d6,rfl,?_⟩;rw[Zk (by simpa using g1),filter_nil,Zg];exact p6
  rintro σ ys H6 ⟨u,ss,rfl,s6,d6,rfl,p6⟩;rw[If,ap.1,Yv] at p6;obtain⟨m0,hm0,pm0⟩:=pp.al p pN;have f0:0<((PL N S).filter λl=>decide (p∈l)).length:=List.length_pos_of_mem (mem_filter.mpr ⟨hm0,by simpa using pm0⟩);have f1:=getElem?_eq_getElem f0;obtain⟨m1,pm1⟩:=mem_filter.mp (getElem_mem f0);generalize ((PL N S).filter λl=>decide (p∈l))[0]=m at f1 m1 pm1;have pm:p∈m:=by simpa using pm1
  have s0:0<ss.length:=by rw[p6.1];exact f0
  have h0:=getElem?_eq_getElem s0;have r0:=p6.2 0 _ _ h0 f1;generalize ss[0]=r at h0 r0;have em:=Vj hN pN (by omega) m1 pm;refine⟨D,_,0,_,rfl,rfl,SqL.of d6,Ak (j:=0) (by rw[getElem?_map,h0];rfl),?_⟩;refine⟨_,rfl,_,rfl,_,rfl,N,st,S,p,rfl,hst.same s6,hN,by omega,S100,pN,λc H7 s7 e7=> ?_⟩;have r7:=s7 _ _ r0;refine⟨_,rfl,0,_,c,r,rfl,rfl,by decide,Iu e7 r7,_,rfl,?_⟩;rw[decide_eq_true em];refine Bp ?_;dsimp only[Bj];have l7:=s7 _ _ (s6 _ _ hl);refine⟨_,rfl,l,rfl,⟨_,SqL.of l7⟩,λD2 hD2=>Kn (K:=K) (a:=l) (xs:=nV os) (λj σ ys H8=>∃(u:Option V),σ=[u,some (.int (N:Int)),some (.ref st),some (.int (p:Int)),some (.ref r)]/\Same H7 H8/\H8 D2=some (.lst ys)/\ys=[]) ⟨none,rfl,Ae hD2,Ab,rfl⟩ (λj σ ys H8 _ ⟨_,_,s,e,_⟩=>⟨SqL.of (s _ _ l7),e⟩) ?_ ?_⟩
  ·rintro j z σ ys H8 hx ⟨u,rfl,s8,d8,rfl⟩;obtain⟨o,oe,rfl⟩:∃o,os[j]? =some o/\z= .int (o:Int):=by
    unfold nV at hx;rw[getElem?_map,getElem?_map] at hx;cases e:os[j]? with
    |none=>rw[e] at hx;cases hx
    |some o=>rw[e] at hx;cases hx;exact⟨o,rfl,rfl⟩
   refine⟨_,rfl,_,rfl,_,rfl,_,rfl,N,st,S,p,o,rfl,((hst.same s6).same s7).same s8,hN,by omega,S100,pN,λH9 s9=> ?_⟩;have r9:=s9 _ _ (s8 _ _ r7);refine⟨_,rfl,_,rfl,r,nV m,rfl,.inr (SqT.of r9),rfl,Dv _,rfl,_,rfl,?_⟩;rw[show (if false=true then !inV (V.int (o:Int)) (nV m) else inV (V.int (o:Int)) (nV m))=decide (o∈m) from Oo o m,em];rw[show (decide (V.bl (decide (o∈m))=V.bl (decide (o∈m))))=true from decide_eq_true rfl];exact Bp ⟨_,rfl,s8.trans s9,s9 _ _ d8,rfl⟩
  ·rintro σ ys H8 ⟨u,rfl,s8,d8,rfl⟩;exact⟨A1 (by simp),λb hb=>⟨D2,b,[],rfl,rfl,SqL.of (Ae hb _ _ d8),SqL.of Ab,k _ (((s6.trans s7).trans s8).trans (Ae hb))⟩⟩
theorem Jw:∀{S:List T4},(S.map (·.1)).Nodup->∀{x t:T4},x∈S->t∈S->x.1=t.1->x=t
 |[],_,_,_,h,_,_=>by cases h
 |y::S,nd,x,t,hx,ht,e=>by
  have nd:y.1 ∉ S.map (·.1)/\(S.map (·.1)).Nodup:=Zh.mp nd;rcases Ym.mp hx with q|hx<;> rcases Ym.mp ht with r|ht
  ·rw[q,r]
  ·exact absurd (mem_map.mpr ⟨t,ht,by rw[<-e,q]⟩) nd.1
  ·exact absurd (mem_map.mpr ⟨x,hx,by rw[e,r]⟩) nd.1
  ·exact Jw nd.2 hx ht e
theorem Ux{N:Nat}{S S':List T4}(p:S.Perm S')(hS:InN N S)(hN:N<=60):PL N S=PL N S':=
 (Cs hS hN).uniq ((Cs (S:=S') (λt ht=>hS t (p.mem_iff.mpr ht)) hN).congr λ_ _ _ _=>(E9 p).symm)
theorem Gv{N:Nat}{ds:List Dd}(hR:Right N ds){i:Nat}(hi:i<=ds.length):InN N (thr (ds.take i)):=λt ht=>
 let ⟨a,b,_⟩:=(Ja hR i hi).ok t ht;⟨a,b⟩
theorem Ln{N:Nat}{ds:List Dd}(hR:Right N ds){n:Nat}(hn:n<=ds.length){S:List T4}(h:Vx S (thr (ds.take n))):InN N S/\S.length<=60:=by
 refine⟨λt ht=>Gv hR hn t (h.1.mem_iff.mp ht),?_⟩;rw[h.1.length_eq];have:=De ds n;have:=hR.len;omega
def Rn(ds:List Dd)(i:Nat)(t:T4):Dd->Prop
 | .come _ u=>t=u
 | .go _ n=>t∈thr (ds.take i)/\t.1=n
theorem X9{N:Nat}{ds:List Dd}(hR:Right N ds){i:Nat}{d:Dd}{t:T4}(e:ds[i]? =some d)(h:Rn ds i t d):t.2.1<N/\t.2.2.1<N:=by
 cases d with
 |come m u=>
  have:=(hR.ok i _ e).2;cases h;exact⟨this.1,this.2.1⟩
 |go m n=>exact Gv hR (le_of_lt (List.getElem?_eq_some_iff.mp e).1) t h.1
theorem Sn{N:Nat}{ds:List Dd}(hR:Right N ds)(hN:N<=60){i:Nat}{d:Dd}{t:T4}(e:ds[i]? =some d)(h:Rn ds i t d):
  ∃R,Pts N R (if Ge d=true then PL N (thr (ds.take i)) else PL N (thr (ds.take (i+1))))/\Pts N (Kl R t.2.1 t.2.2.1) (if Ge d=true then PL N (thr (ds.take (i+1))) else PL N (thr (ds.take i))):=by
 have hi:i<ds.length:=(List.getElem?_eq_some_iff.mp e).1;have i1:=Gv hR (le_of_lt hi);have i2:=Gv hR (show i+1<=ds.length from hi);cases d with
 |come m u=>
  cases h;refine⟨_,Cs i1 hN,(Cs i2 hN).congr λp q _ _=> ?_⟩;rw[Bb e,Cc];exact Hu
 |go m n=>
  refine⟨_,Cs i2 hN,(Cs i1 hN).congr λp q _ _=> ?_⟩;refine Iff.trans ?_ (Hu (t:=t));rw[Bb e,Cc];show Reach (thr (ds.take i)) p q↔Reach ((thr (ds.take i)).filter (λt=>decide (t.1≠n))++[t]) p q;have nd:=(Ja hR i (le_of_lt hi)).nd;refine⟨.mono λx hx=> ?_,.mono λx hx=> ?_⟩
  ·by_cases g:x.1=n
   ·have:x=t:=Jw nd hx h.1 (by rw[g,h.2]);exact mem_append_right _ (by rw[this];exact mem_singleton.mpr rfl)
   ·exact mem_append_left _ (mem_filter.mpr ⟨hx,decide_eq_true g⟩)
  ·rcases mem_append.mp hx with z|z
   ·exact(mem_filter.mp z).1
   ·rw[mem_singleton.mp z];exact h.1
theorem Nt{S:List T4}{f:T4->T4}(hf:∀t∈S,(f t).2.1=t.2.1/\(f t).2.2.1=t.2.2.1){a b:Nat}(h:Reach (S.map f) a b):Reach S a b:=by
 obtain⟨ws,h⟩:=h
 induction h with
 |nil=>exact .refl
 | @snoc ws b c n _ q ih=>
  refine ih.trans ?_;obtain⟨u,hu,_,e⟩:=Hl q;obtain⟨t,ht,rfl⟩:=mem_map.mp hu;have n1:=Reach.step (Ko ht);obtain⟨x,y⟩:=hf t ht;rw[x,y] at e;rcases e with⟨e1,e2⟩|⟨e1,e2⟩<;> rw[e1,e2] at n1
  ·exact n1
  ·exact n1.symm
theorem Trn.snoc{f:Nat->Nat}{L M:List (List Nat)}(h:Trn f L M){l m:List Nat}(p:m.Perm (l.map f))(q:m.Pairwise (·<·)):Trn f (L++[l]) (M++[m]):=by
 refine⟨by rw[Yk,Yk,h.1];rfl,λi a b ha hb=> ?_⟩;rw[getElem?_append] at ha hb;by_cases hi:i<L.length
 ·rw[Yf hi] at ha;rw[Yf (by rw[h.1];exact hi)] at hb;exact h.2 i a b ha hb
 ·rw[Lt hi] at ha;rw[Lt (by rw[h.1];exact hi),h.1] at hb;have:i - L.length=0:=by
   have:=(List.getElem?_eq_some_iff.mp ha).1;simp at this;omega
  rw[this] at ha hb;cases ha;cases hb;exact⟨p,q⟩
theorem Py{H H':Hp}{d st:Addr}{S:List T4}{n:Nat}(h:StandT H st S)(b:But d H H')(D:DeckAt H d n):StandT H' st S:=h.mono λr zs e=>b.tup D e
theorem Sj{H H':Hp}{d x:Addr}{L:List (List Nat)}{n:Nat}(h:PlAt H x L)(b:But d H H')(D:DeckAt H d n):PlAt H' x L:=let ⟨as,a1,a2⟩:=h;⟨as,b.tup D a1,a2.mono λr zs e=>b.tup D e⟩
theorem Tw{H H':Hp}{d x:Addr}{N:Nat}{ds:List Dd}{n:Nat}(h:HistAt H x N ds)(b:But d H H')(D:DeckAt H d n):HistAt H' x N ds:=h.mono λr zs e=>b.tup D e
theorem Qo{K:Frag}{H:Hp}{n:Nat}{x y:Addr}{S:List T4}(hx:StandT H x S)(hy:StandT H y S):Eqs K H (n+2) (.ref x) (.ref y) true:=by
 obtain⟨as,a1,a2⟩:=hx;obtain⟨bs,b1,b2⟩:=hy;have:=Eqs.seq (K:=K) (H:=H) (n:=n+1) (a:=x) (c:=y) (ds:=S.map Cm) (es:=S.map Cm) (.inl ⟨SqT.of a1,SqT.of b1⟩) (by rw[If,If,a2.1]) (by rw[If,If,b2.1]) λj p q d e hp hq hd he=>by
  obtain⟨r,hr,rfl⟩:=map_some hp;obtain⟨s,hs,rfl⟩:=map_some hq;obtain⟨t,ht,rfl⟩:=map_some hd;rw[hd] at he;cases he;refine Eqs.flats (SqT.of (a2.2 j r t hr ht)) (SqT.of (b2.2 j s t hs ht)) λu hu v hv=> ?_;simp only[Cm,Ym,not_mem_nil,or_false] at hu hv;rcases hu with rfl|rfl|rfl|rfl<;> rcases hv with rfl|rfl|rfl|rfl<;> rfl
 rwa [decide_eq_true rfl] at this
def TsAt(H:Hp)(kvs:List (Key×V))(S:List T4):Prop:=∀t∈S,∃r,Bw kvs (Sum.inr t.1)=some (.ref r)/\H r=some (.tup (Cm t))
def lσ(s d h:Addr)(N:Nat)(tp:Addr)(k0:Nat)(ch tu th ah:Addr)(u1 u11 u12 u13 u14 u15 u16:Option V):St:=[some (.ref s),u1,some (.ref d),some (.ref h),some (.int (N:Int)),some (.ref tp),some (.int (k0:Int)),some (.ref ch),some (.ref tu),some (.ref th),some (.ref ah),u11,u12,u13,u14,u15,u16]
structure LG(d h tp ch tu:Addr)(N k0:Nat)(rs:List Addr)(ds:List Dd)(H:Hp):Prop where
 eh:H h=some (.tup [.int (N:Int),.ref tp])
 et:H tp=some (.tup (rs.map V.ref))
 dd:DdsAt H rs ds
 hc:HistAt H ch N (ds.map Nf)
 ht:HistAt H tu N (ds.map (Qp N k0))
 rt:Right N ds
 nm:∀x∈ds,A8 x.nm
 n1:1<=N
 n24:N<=24
 kl:k0<N
theorem LG.hh{d h tp ch tu:Addr}{N k0:Nat}{rs:List Addr}{ds:List Dd}{H:Hp}(I:LG d h tp ch tu N k0 rs ds H):HistAt H h N ds:=⟨tp,rs,I.eh,I.et,I.dd⟩
theorem LG.mono{d h tp ch tu:Addr}{N k0:Nat}{rs:List Addr}{ds:List Dd}{H H':Hp}(I:LG d h tp ch tu N k0 rs ds H)(f:∀r zs,H r=some (.tup zs)->H' r=some (.tup zs)):LG d h tp ch tu N k0 rs ds H':=
 {I with eh:=f _ _ I.eh,et:=f _ _ I.et,dd:=I.dd.mono f,hc:=I.hc.mono f,ht:=I.ht.mono f}
theorem LG.same{d h tp ch tu:Addr}{N k0:Nat}{rs:List Addr}{ds:List Dd}{H H':Hp}(I:LG d h tp ch tu N k0 rs ds H)(s:Same H H'):LG d h tp ch tu N k0 rs ds H':=I.mono λr zs=>s r (.tup zs)
def X7(K:Frag):List V->Hp->VK->Prop:=λxs H Q=>∃p ys,xs=[.ref p]/\((SqL K H p ys/\∀l,H l=none->Q (.ref l) (upd H l (.tup ys)))\/(SqT K H p ys/\Q (.ref p) H))
def rSoI(K:Frag):List V->Hp->VK->Prop:=λxs H Q=>∃(p:Addr) (ns:List Int),xs=[.ref p]/\SqL K H p (ns.map V.int)/\ns.length<64/\∀(l:Addr) (ns':List Int),H l=none->ns'.Perm ns->ns'.Pairwise (λa b=>Srt.ltK (.inl b) (.inl a)=false)->Q (.ref l) (upd H l (.lst (ns'.map V.int)))
theorem Uu{X:Cx}{K:Frag}{tg l:Expr}{tl:TE}(hK:X.K=K)(hl:PE X l tl):PI X tg l (iTup K tl):=by subst hK;exact Ec hl
def tStep:TS:=λD σ H=>∃(s d h tp ch tu th ah r q:Addr) (N k0 i b:Nat) (rs:List Addr) (ds:List Dd) (dd:Dd) (t:T4) (kvs:List (Key×V)) (u1 u13 u14 u15 u16:Option V),σ=lσ s d h N tp k0 ch tu th ah u1 (some (.int ((i+1:Nat):Int))) (some (.ref r)) u13 u14 u15 u16/\LG d h tp ch tu N k0 rs ds H/\DeckAt H d (b+4)/\ds[i]? =some dd/\H r=some (.tup dd.vs)/\Rn ds i t dd/\H th=some (.dK kvs)/\Bw kvs (Sum.inr dd.nm)=some (.ref q)/\H q=some (.tup (Cm t))/\PlAt H ah (PL N (thr (ds.take i)))/\
 ∀(pt:Addr) (u13 u14 u15 u16:Option V) H',But d H H'->DeckAt H' d b->PlAt H' pt (PL N (thr (ds.take (i+1))))->D.nx (lσ s d h N tp k0 ch tu th pt u1 (some (.int ((i+1:Nat):Int))) (some (.ref r)) u13 u14 u15 u16) H'
def Po(K:Frag):Sp:=λvs H Q _=>∃(s:Addr) (ns:List Int),vs=[.ref s]/\SqL K H s (ns.map V.int)/\ns.length<=63/\∀H',Q (.bl true) H'
theorem scLaw:Aw ["_law_script","_law_k","_law_deck_here","_law_history_here","_law_many_here","_law_deeds","_law_step","_law_called_here","_law_turned","_law_ties","_law_ahead","_law_n","_law_deed","_law_stand","_law_parts","_law_others","_law_some"] ["_law_script"] (Ag Iv):=⟨rfl,rfl,rfl,by decide+kernel,rfl,by decide+kernel,by decide+kernel⟩
theorem Xb{f:Addr}{fd:FuncData}(F:Fun K "law" "law" Iv f fd)(T:Txt mg){gDeck:Addr}{fDeck:FuncData}(kDeck:keepIn K (.ref gDeck)=true)(bDeck:Binds K fDeck ["_law_script","_law_k"] [])(hDeck:mg "_law_deck"=some (.ref gDeck))(GDeck:FnOk P w K mg base CX0 7 gDeck fDeck ["_law_script","_law_k"] (N4 K)){gHistory:Addr}{fHistory:FuncData}(kHistory:keepIn K (.ref gHistory)=true)(bHistory:Binds K fHistory ["_law_deck_here","_law_most"] [])(hHistory:mg "_law_history"=some (.ref gHistory))(GHistory:FnOk P w K mg base CX0 7 gHistory fHistory ["_law_deck_here","_law_most"] Gd){gDraw:Addr}{fDraw:FuncData}(kDraw:keepIn K (.ref gDraw)=true)(bDraw:Binds K fDraw ["_law_deck_here","_law_most"] [])(hDraw:mg "_law_draw"=some (.ref gDraw))(GDraw:FnOk P w K mg base CX0 7 gDraw fDraw ["_law_deck_here","_law_most"] Ee){gOtherw:Addr}{fOtherw:FuncData}(kOtherw:keepIn K (.ref gOtherw)=true)(bOtherw:Binds K fOtherw ["_law_history_here","_law_step"] [])(hOtherw:mg "_law_otherwise"=some (.ref gOtherw))(GOtherw:FnOk P w K mg base CX0 7 gOtherw fOtherw ["_law_history_here","_law_step"] I0){gParts:Addr}{fParts:FuncData}(kParts:keepIn K (.ref gParts)=true)(bParts:Binds K fParts ["many","stand"] [])(hParts:mg "parts_of"=some (.ref gParts))(GParts:FnOk P w K mg base CX0 7 gParts fParts ["many","stand"] Li){gStandB:Addr}{fStandB:FuncData}(kStandB:keepIn K (.ref gStandB)=true)(bStandB:Binds K fStandB ["history","n"] [])(hStandB:mg "stand_behind"=some (.ref gStandB))(GStandB:FnOk P w K mg base CX0 7 gStandB fStandB ["history","n"] Fq){gOnce:Addr}{fOnce:FuncData}(kOnce:keepIn K (.ref gOnce)=true)(bOnce:Binds K fOnce ["_law_many_here","_law_parts"] [])(hOnce:mg "_law_all_once"=some (.ref gOnce))(GOnce:FnOk P w K mg base CX0 7 gOnce fOnce ["_law_many_here","_law_parts"] Nl){gStepR:Addr}{fStepR:FuncData}(kStepR:keepIn K (.ref gStepR)=true)(bStepR:Binds K fStepR ["_law_deed","_law_tie_here","_law_ahead","_law_behind"] [])(hStepR:mg "_law_step_right"=some (.ref gStepR))(GStepR:FnOk P w K mg base CX0 7 gStepR fStepR ["_law_deed","_law_tie_here","_law_ahead","_law_behind"] K9){gRight:Addr}{fRight:FuncData}(kRight:keepIn K (.ref gRight)=true)(bRight:Binds K fRight ["thing"] [])(hRight:mg "right_history"=some (.ref gRight))(GRight:FnOk P w K mg base CX0 7 gRight fRight ["thing"] K4){gPartR:Addr}{fPartR:FuncData}(kPartR:keepIn K (.ref gPartR)=true)(bPartR:Binds K fPartR ["_law_many_here","_law_stand","_law_parts","_law_place","_law_others"] [])(hPartR:mg "_law_part_right"=some (.ref gPartR))(GPartR:FnOk P w K mg base CX0 7 gPartR fPartR ["_law_many_here","_law_stand","_law_parts","_law_place","_law_others"] Kw){gStandA:Addr}{fStandA:FuncData}(kStandA:keepIn K (.ref gStandA)=true)(bStandA:Binds K fStandA ["history","moment"] [])(hStandA:mg "stand_at"=some (.ref gStandA))(GStandA:FnOk P w K mg base CX0 7 gStandA fStandA ["history","moment"] Jj){gDeedsBy:Addr}{fDeedsBy:FuncData}(kDeedsBy:keepIn K (.ref gDeedsBy)=true)(bDeedsBy:Binds K fDeedsBy ["history","moment"] [])(hDeedsBy:mg "deeds_by"=some (.ref gDeedsBy))(GDeedsBy:FnOk P w K mg base CX0 7 gDeedsBy fDeedsBy ["history","moment"] Er):
  FnOk P w K mg base CX0 8 f fd ["_law_script"] (Po K):=by
 refine F.ok scLaw (λvs H Q E h=> ?_) (λcdv A outer s H vs Q E hr h=> ?_)
 ·obtain⟨_,_,rfl,_⟩:=h;rfl
 ·obtain⟨s,ns,rfl,hs,hl,k⟩:=h;refine⟨_,Ad (Ea PassesOwn.never rfl (Cf rfl T.range (Aa (An (Qg rfl) (by rfl) T.max (by decide+kernel) (Aa Af (Aa (An (J8 rfl) (by rfl) T.min (by decide+kernel) (Aa Af (Aa (An A7 (by rfl) T.len PySem.boot_len (Aa (pv 0) Ac)) Ac))) Ac))) Ac)) (Am (i:=1) scLaw.nd rfl (Or.inl rfl)) (Ad (Al (i:=2) scLaw.nd rfl (Or.inr rfl) (Ai GDeck hr rfl hDeck kDeck bDeck .nil Ap (Aa (pv 0) (Aa (pv 1) Ac))))
   (Ad (Al (i:=3) scLaw.nd rfl (Or.inl rfl) (Ai GHistory hr rfl hHistory kHistory bHistory .nil Ap (Aa (pv 2) (Aa Af Ac))))
   (Ad (C4 (pv 3) (C5 rfl (Az (Am (i:=4) scLaw.nd rfl (Or.inr rfl)) (Az (Am (i:=5) scLaw.nd rfl (Or.inl rfl)) Ch))))
   (Ad (Al (i:=6) scLaw.nd rfl (Or.inr rfl) (Ai GDraw hr rfl hDraw kDraw bDraw .nil Ap (Aa (pv 2) (Aa (pv 4) Ac))))
   (Ad (C4 (Ai GOtherw hr rfl hOtherw kOtherw bOtherw .nil Ap (Aa (pv 3) (Aa (pv 6) Ac))) (C5 rfl (Az (Am (i:=7) scLaw.nd rfl (Or.inl rfl)) (Az (Am (i:=8) scLaw.nd rfl (Or.inl rfl)) Ch))))
   (Ad (Al (i:=9) scLaw.nd rfl (Or.inl rfl) Dr)
   (Ad (Al (i:=10) scLaw.nd rfl (Or.inl rfl) (Ai GParts hr rfl hParts kParts bParts .nil Ap (Aa (pv 4) (Aa (Bv Ac) Ac))))
   (Ah (Ea PassesOwn.never rfl (Qk rfl T.range (Aa Af (Aa (Ar Bk (An A7 (by rfl) T.len PySem.boot_len (Aa (pv 5) Ac)) Af) Ac))) (Am (i:=11) scLaw.nd rfl (Or.inl rfl)) (Ad (Al (i:=12) scLaw.nd rfl (Or.inl rfl) (Ax A3 (pv 5) (Ar Ig (pv 11) Af) (λ_ _=>rfl)))
   (Ad (Be (As Cd (Ax A3 (pv 12) Af (λ_ _=>rfl)) Bo (Av _)) (Ah (Hj (G5 hr) (pv 9) (Ax A3 (pv 12) Af (λ_ _=>rfl)) (Cb Ft (pv 12) (Cj Af) Cv) rfl)) A0)
   (PSs.imp' (t':=tStep) (Ad (Al (i:=13) scLaw.nd rfl (Or.inl rfl) (Ai GStandB hr rfl hStandB kStandB bStandB .nil Ap (Aa (pv 3) (Aa (pv 11) Ac))))
   (Ad (Al (i:=14) scLaw.nd rfl (Or.inl rfl) (Ai GParts hr rfl hParts kParts bParts .nil Ap (Aa (pv 4) (Aa (pv 13) Ac))))
   (Ad (Be (PW.pt (Fz (Cg (Ce (Ai GOnce hr rfl hOnce kOnce bOnce .nil Ap (Aa (pv 4) (Aa (pv 14) Ac))))) (Eb (Cg (Ce (Ai GStepR hr rfl hStepR kStepR bStepR .nil Ap (Aa (pv 12) (Aa (Oq (G5 hr) (pv 9) (Ax A3 (pv 12) Af (λ_ _=>rfl)) (λ_ _=>rfl)) (Aa (pv 10) (Aa (pv 14) Ac)))))))))) (Ah (Ao C0)) A0)
   (Ad (Be (PW.pt (Fz (As Pq (Ai GRight hr rfl hRight kRight bRight .nil Ap (Aa (Bv (Aa (pv 4) (Aa (Cb Ft (pv 5) Cv (Cj (pv 11))) Ac))) Ac)) C0 (Av _)) (Eb (As (K6 hr.units) (Ai GParts hr rfl hParts kParts bParts .nil Ap (Aa (pv 4) (Aa (Ai GStandB hr rfl hStandB kStandB bStandB .nil Ap (Aa (pv 7) (Aa (pv 11) Ac))) Ac))) (pv 14) (Av _))))) (Ah (Ao C0)) A0)
   (Ad (Dy (i:=15) (T:=["_law_part"]) (F:=["_law_many_here","_law_step"]) (js:=[4,6]) scLaw.nd rfl (Or.inl rfl) (CS.to (osc:=Ag Iv) ⟨by rfl,by decide+kernel,by decide+kernel,by decide+kernel,by decide+kernel,by decide+kernel,by decide+kernel⟩ rfl rfl) rfl (Ec (pv 14)) (λ_ _ _ _ _=>Am (i:=0) (show (["_law_part","_law_many_here","_law_step"]:List Str).Nodup by decide+kernel) rfl (Or.inl rfl)) (λ_ _ _ _ _=>Dg) (λ_ _ _ _ _=>Bd (r:=X7 K) A9 (by rfl) T.tuple (by decide+kernel) (Aa (An (r:=rSoI K) Srt.call_sortedI (by rfl) T.sorted (by decide+kernel) (Aa (Cu (T:=["_law_place"]) (F:=["_law_many_here","_law_step"]) (js:=[1,2]) (CS.to (osc:={kind:= .function,names:=[(".0",.local),("_law_part",.local),("tuple",.globalImplicit),("sorted",.globalImplicit),("_law_many_here",.cell),("_law_step",.cell)],isGenerator:=false,isCoroutine:=false}) ⟨by rfl,by decide+kernel,by decide+kernel,by decide+kernel,by decide+kernel,by decide+kernel,by decide+kernel⟩ rfl rfl) rfl (Uu (K:=K) rfl (pv 0)) (λ_ _ _ _ _=>Am (i:=0) (show (["_law_place","_law_many_here","_law_step"]:List Str).Nodup by decide+kernel) rfl (Or.inl rfl)) (λ_ _ _ _ _=>Dg) (λ_ _ _ _ _=>Ar By (Ar Bk (pv 0) (pv 2)) (pv 1))) Ac)) Ac)))
   (Ad (Be (As (K6 hr.units) (Ai GParts hr rfl hParts kParts bParts .nil Ap (Aa (pv 4) (Aa (Ai GStandB hr rfl hStandB kStandB bStandB .nil Ap (Aa (pv 8) (Aa (pv 11) Ac))) Ac))) (Bd A9 (by rfl) T.tuple (by decide+kernel) (Aa (An Srt.call_sortedNi (by rfl) T.sorted (by decide+kernel) (Aa (pv 15) Ac)) Ac)) (Av _)) (Ah (Ao C0)) A0)
   (Ad (Dy (i:=16) (T:=["_law_turn"]) (F:=["_law_deck_here","_law_many_here"]) (js:=[2,4]) scLaw.nd rfl (Or.inl rfl) (CS.to (osc:=Ag Iv) ⟨by rfl,by decide+kernel,by decide+kernel,by decide+kernel,by decide+kernel,by decide+kernel,by decide+kernel⟩ rfl rfl) rfl (Cf rfl T.range (Aa Af Ac)) (λ_ _ _ _ _=>Am (i:=0) (show (["_law_turn","_law_deck_here","_law_many_here"]:List Str).Nodup by decide+kernel) rfl (Or.inl rfl)) (λ_ _ _ _ _=>Dg) (λ_ _ _ _ _=>Ai GDraw hr rfl hDraw kDraw bDraw .nil Ap (Aa (pv 1) (Aa (pv 2) Ac))))
   (Ad (Be (Cg (Ce (Ai GPartR hr rfl hPartR kPartR bPartR .nil Ap (Aa (pv 4) (Aa (pv 13) (Aa (pv 14) (Aa (Ax Ba (pv 16) Af (λ_ _=>rfl)) (Aa (pv 16) Ac)))))))) (Ah (Ao C0)) A0)
   (Ad (Be (As (K6 hr.units) (Ai GStandA hr rfl hStandA kStandA bStandA .nil Ap (Aa (pv 3) (Aa (Ax A3 (pv 12) Af (λ_ _=>rfl)) Ac))) (Ai GStandB hr rfl hStandB kStandB bStandB .nil Ap (Aa (pv 3) (Aa (Ai GDeedsBy hr rfl hDeedsBy kDeedsBy bDeedsBy .nil Ap (Aa (pv 3) (Aa (Ax A3 (pv 12) Af (λ_ _=>rfl)) Ac))) Ac))) (Av _)) (Ah (Ao C0)) A0)
   (Ah (Al (i:=10) scLaw.nd rfl (Or.inl rfl) (pv 14)))))))))))) ?step)))))))))))))
   (Ah (Ao C0)),?_⟩
  case step=>
   clear k hs;rintro D σ H ⟨s,d,h,tp,ch,tu,th,ah,r,q,N,k0,i,b,rs,ds,dd,t,kvs,u1,u13,u14,u15,u16,rfl,I,D0,ed,r0,hto,eth,ekv,q0,hah,k⟩;have li:i<ds.length:=(List.getElem?_eq_some_iff.mp ed).1;have n60:=I.rt.len;have N1:=I.n1;have N24:=I.n24;have lrs:=I.dd.1;have at1:dd.vs[1]? =some (.int dd.mo):=by cases dd<;> rfl
   have at2:dd.vs[2]? =some (.str dd.nm):=by cases dd<;> rfl
   obtain⟨tl1,tl2⟩:=X9 I.rt ed hto;obtain⟨R,sp1,sp2⟩:=Sn I.rt (by omega) ed hto;refine⟨_,rfl,_,rfl,h,N,ds,i+1,rfl,I.hh,I.rt,li,λst S H1 s1 hst srt=> ?_⟩;obtain⟨hS,lS⟩:=Ln I.rt (show i+1<=ds.length from li) srt;have ePL:=Ux (N:=N) srt.1 hS (by omega);refine⟨_,rfl,_,rfl,N,st,S,rfl,hst,hS,by omega,by omega,λpt as H2 s2 ept pts=> ?_⟩;have hp2:PlAt H2 pt (PL N (thr (ds.take (i+1)))):=⟨as,ept,by rw[<-ePL];exact O9 pts⟩
   have S2:=s1.trans s2;have pb:=Cs (Gv I.rt (show i+1<=ds.length from li)) (show N<=60 by omega);refine⟨_,rfl,_,rfl,N,pt,_,_,rfl,hp2,pb,N24,λH3 s3=>⟨_,rfl,Bp ?_⟩⟩;have S3:=S2.trans s3;refine⟨_,rfl,_,rfl,_,rfl,r,_,2,_,rfl,rfl,SqT.of (S3 _ _ r0),Ak (j:=2) at2,th,.ref q,rfl,by rw[<-ekv];exact DGet.k (k:=Sum.inr dd.nm) (S3 _ _ eth),_,rfl,_,rfl,N,r,q,ah,pt,dd,t,R,_,_,rfl,S3 _ _ r0,S3 _ _ q0,hah.same S3,hp2.same s3,N24,tl1,tl2,sp1,sp2,λH4 s4=>⟨_,rfl,Bp ?_⟩⟩;have S4:=S3.trans s4;dsimp only[Bj];refine⟨_,rfl,_,rfl,_,rfl,_,rfl,Fv (S4 _ _ I.et) λdp H5 s5 e5=>⟨A1 (by simp),λhp hhp=> ?_⟩⟩;rw[Gx (by rw[If];omega),<-map_take] at e5;have s6:=Ae (o:= .tup [V.int (N:Int),V.ref dp]) hhp;have e6:=Ab (H:=H5) (a:=hp) (o:= .tup [V.int (N:Int),V.ref dp]);generalize upd H5 hp (.tup [V.int (N:Int),V.ref dp])=H6 at s6 e6;have S6:=(S4.trans s5).trans s6;refine⟨hp,N,ds.take (i+1),rfl,⟨dp,rs.take (i+1),e6,s6 _ _ e5,(I.dd.mono λa xs e=>S6 _ _ e).take (i+1)⟩,I.rt.take (i+1),λx hx=>I.nm x (Y4 hx),N1,N24,λH7 s7=> ?_⟩;have S7:=S6.trans s7;refine⟨_,_,rfl,rfl,_,rfl,Bp ?_⟩;have hnm:∀x∈ds.map Nf,True:=λ_ _=>trivial;have rc:=Ka (K0 N) I.rt I.nm;have rt:=Ka (Op I.kl) I.rt I.nm;have nmt:∀x∈ds.take (i+1),A8 x.nm:=λx hx=>I.nm x (Y4 hx);have lc:i+1<=(ds.map Nf).length:=by rw[If];exact li
   have lt2:i+1<=(ds.map (Qp N k0)).length:=by rw[If];exact li
   have pB:=Gv I.rt (show i+1<=ds.length from li);refine⟨_,rfl,_,rfl,_,rfl,ch,N,ds.map Nf,i+1,rfl,I.hc.same S7,rc,lc,λst2 Sc H8 s8 hst2 srt2=> ?_⟩;obtain⟨hS2,lS2⟩:=Ln rc lc srt2;refine⟨N,st2,Sc,rfl,hst2,hS2,by omega,by omega,λpt2 as2 H9 s9 ept2 pts2=> ?_⟩;have S9:=(s4.trans s5).trans ((s6.trans s7).trans (s8.trans s9));have S39:=s3.trans S9;have pc2:Pts N (Reach (thr (ds.take (i+1)))) (PL N Sc):=by
    refine(Cs hS2 (by omega)).congr λp q _ _=> ?_;rw[E9 srt2.1,<-map_take,Lb (K0 N) nmt];refine⟨λg=> ?_,Es Nw id λt _=> .inr ⟨rfl,rfl⟩⟩;have g2:=Es (λt=>Nw t) id (λt _=> .inr ⟨rfl,rfl⟩) g;rw[map_map] at g2;exact Nt (f:=(λt=>Nw t)∘Nw) (λt _=>⟨rfl,rfl⟩) g2
   have hpc:PlAt H9 pt2 (PL N (thr (ds.take (i+1)))):=⟨as2,ept2,by rw[<-pc2.uniq pb];exact O9 pts2⟩
   refine⟨_,rfl,1,_,pt2,pt,rfl,rfl,by decide,Ds hpc (hp2.same S39),_,rfl,?_⟩;rw[decide_eq_true rfl];refine Bp ?_;dsimp only[Bj];have hp9:=hp2.same S39;obtain⟨bs,x9,y9⟩:=hp9;generalize eL:PL N (thr (ds.take (i+1)))=L at *;have Lm:=pb.many;have Lf:=pb.len;refine⟨_,rfl,pt,rfl,⟨_,SqT.of x9⟩,λDD hDD=>Dq (K:=K) (a:=pt) (xs:=bs.map V.ref) (λj σ ys HA=>∃(u:Option V) (os:List Addr) (M:List (List Nat)),σ=[u,some (.int (N:Int)),some (.int (k0:Int))]/\Same H9 HA/\HA DD=some (.lst ys)/\ys=os.map V.ref/\PsAt HA os M/\Trn (trnF N k0) (L.take j) M) ⟨none,[],[],rfl,Ae hDD,Ab,rfl,.nil,rfl,λi l m h=>by simp at h⟩ (λj σ ys HA _ ⟨_,_,_,_,sA,e,_⟩=>⟨SqT.of (sA _ _ x9),e⟩) ?_ ?_⟩
   ·rintro j z σ ys HA hx ⟨u,os,M,rfl,sA,dA,rfl,pA,tA⟩;obtain⟨o,eo,rfl⟩:=map_some hx;obtain⟨l,el,o9⟩:=y9.get eo;have oA:=sA _ _ o9;have lin:=mem_of_getElem? el;have lN:∀x∈l,x<N:=λx hx=>(pb.cl l lin x hx).1;have lnd:(l.map (trnF N k0)).Nodup:=by
     rw[Nodup,Yt];exact(pb.inc l lin).imp_of_mem λ{a b} ha hb q e=>absurd (Lk I.kl (lN a ha) (lN b hb) e) (ne_of_lt q)
    have ll:l.length<=24:=by
     have:=Nodup.length_le_of_subset (l₁:=l) ((pb.inc l lin).imp λh=>ne_of_lt h) (l₂:=List.range N) λx hx=>mem_range.mpr (lN x hx);rw[Za] at this;omega
    refine⟨_,rfl,o,rfl,⟨_,SqT.of oA⟩,λD3 hD3=>Dq (K:=K) (a:=o) (xs:=nV l) (λx σ ys HB=>∃(u:Option V),σ=[u,some (.int (N:Int)),some (.int (k0:Int))]/\Same HA HB/\HB D3=some (.lst ys)/\ys=nV ((l.take x).map (trnF N k0))) ⟨none,rfl,Ae hD3,Ab,rfl⟩ (λx σ ys HB _ ⟨_,_,sB,e,_⟩=>⟨SqT.of (sB _ _ oA),e⟩) ?_ ?_⟩
    ·rintro x z σ ys HB hz ⟨u,rfl,sB,dB,rfl⟩;obtain⟨v,ev,rfl⟩:∃v,l[x]? =some v/\z= .int (v:Int):=by
      unfold nV at hz;rw[getElem?_map,getElem?_map] at hz;cases e:l[x]? with
      |none=>rw[e] at hz;cases hz
      |some v=>rw[e] at hz;cases hz;exact⟨v,rfl,rfl⟩
     refine⟨_,rfl,_,rfl,_,_,rfl,rfl,_,rfl,_,_,rfl,rfl,(by show (0:Int)<(N:Int);omega),dB,Aq (by unfold nV;rw[If,If,If,Yo];omega),_,rfl,A2 sB hD3,Ab,?_⟩;rw[Bb ev,map_append];have f1:((v:Int)+(k0:Int)) % (N:Int)=((trnF N k0 v:Nat):Int):=by unfold trnF;rw[Int.natCast_emod,Int.natCast_add]
     rw[f1];unfold nV;rw[map_append,map_append];rfl
    ·rintro σ ys HB ⟨u,rfl,sB,dB,rfl⟩;rw[show (nV l).length=l.length by unfold nV;rw[If,If],Yv] at dB;refine⟨D3,(l.map (trnF N k0)).map ofNat,rfl,SqL.of dB,by rw[If,If];omega,λw ns hw hpm hpw=> ?_⟩;obtain⟨ms,rfl,pm,pS⟩:=Gh hpm hpw lnd;have sC:=Ae (o:= .lst ((ms.map ofNat).map V.int)) hw;have wC:=Ab (H:=HB) (a:=w) (o:= .lst ((ms.map ofNat).map V.int));generalize upd HB w (.lst ((ms.map ofNat).map V.int))=HC at sC wC;refine⟨w,_,rfl,.inl ⟨SqL.of wC,λy hy=> ?_⟩⟩;have sD:=Ae (o:= .tup ((ms.map ofNat).map V.int)) hy;have yD:=Ab (H:=HC) (a:=y) (o:= .tup ((ms.map ofNat).map V.int));generalize upd HC y (.tup ((ms.map ofNat).map V.int))=HD at sD yD;have SD:=(sB.trans sC).trans sD;have dD:=SD _ _ dA;have ol:=pA.1;have ml:M.length<=24:=by rw[tA.1,Yo];omega
     refine⟨dD,Aq (by rw[If];omega),_,os++[y],M++[ms],rfl,A2 (sA.trans SD) hDD,Ab,by rw[map_append];rfl,((pA.same SD).mono λa xs e=>by rw[Aj (A5 e dD (by intro z;cases z))];exact e).snoc (by rw[Aj (A5 yD dD (by intro z;cases z))];exact yD),?_⟩;rw[Bb el];exact tA.snoc pm pS
   rintro σ ys HA ⟨u,os,M,rfl,sA,dA,rfl,pA,tA⟩;rw[If,y9.1,Yv] at tA;have SA:=S39.trans sA;have ml:M.length<=24:=by rw[tA.1];omega
   refine⟨_,rfl,_,rfl,_,rfl,tu,N,ds.map (Qp N k0),i+1,rfl,(I.ht.same S2).same SA,rt,lt2,λst3 St HB sB hst3 srt3=> ?_⟩;obtain⟨hS3,lS3⟩:=Ln rt lt2 srt3;refine⟨N,st3,St,rfl,hst3,hS3,by omega,by omega,λpt3 as3 HC sC ept3 pts3=> ?_⟩;have SC:=sB.trans sC;have neM:∀m∈M,m≠[]:=λm hm=>by
    obtain⟨l,hl,p,_⟩:=tA.mem hm;exact λz=>by rw[z] at p;exact pb.ne _ hl (map_eq_nil_iff.mp p.symm.eq_nil)
   have inj:∀p q,p<N->q<N->trnF N k0 p=trnF N k0 q->p=q:=λp q hp hq e=>Lk I.kl hp hq e;obtain⟨prs,w1,w2,w3,w4,w5⟩:=Il (K:=K) (pA.same SC) neM (Th pb inj tA) (by omega);refine⟨_,rfl,DD,prs,rfl,SqL.of (by rw[<-w1];exact SC _ _ dA),w2,w3,w4,λf ps' hf hpf hwf=> ?_⟩;obtain⟨bs',M',m1,m2,m3,m4⟩:=w5 ps' hpf hwf;rw[m1];have sD:=Ae (o:= .lst (bs'.map V.ref)) hf;have fD:=Ab (H:=HC) (a:=f) (o:= .lst (bs'.map V.ref));generalize upd HC f (.lst (bs'.map V.ref))=HD at sD fD;refine⟨f,_,rfl,.inl ⟨SqL.of fD,λy hy=> ?_⟩⟩;have sE:=Ae (o:= .tup (bs'.map V.ref)) hy;have yE:=Ab (H:=HD) (a:=y) (o:= .tup (bs'.map V.ref));generalize upd HD y (.tup (bs'.map V.ref))=HE at sE yE;have pM:Pts N (Reach St) M':=by
    refine Ug pb (λp hp=>M6 I.kl) inj (λp hp=>Vy I.kl hp) (λp q hp hq=> ?_) tA m2 m3;rw[E9 srt3.1,<-map_take,Lb (Op I.kl) nmt];exact Rb pB I.kl hp hq
   have eM:PL N St=M':=(Cs hS3 (by omega)).uniq pM;have x3:PlAt HE pt3 M':=(show PlAt HC pt3 M' from⟨as3,ept3,by rw[<-eM];exact O9 pts3⟩).same (sD.trans sE);refine⟨1,_,pt3,y,rfl,rfl,by decide,Ds x3 ⟨bs',yE,(m4.same sD).same sE⟩,_,rfl,?_⟩;rw[decide_eq_true rfl];refine Bp ?_;dsimp only[Bj];have S2E:=SA.trans (SC.trans (sD.trans sE));have SE:=S2.trans S2E;have DE:=D0.same SE;refine⟨4,rfl,by decide,by decide,λD4 hD4=>C3 (lo:=0) (n:=4) (λj σ ys HF=>∃(u:Option V) (os:List Nat),σ=[u,some (.ref d),some (.int (N:Int))]/\But d HE HF/\DeckAt HF d (b+(4 - j))/\HF D4=some (.lst ys)/\ys=nV os/\os.length=j/\∀o∈os,o<N) ⟨none,[],rfl,But.of (Ae hD4),DE.upd (DE.ne hD4),Ab,rfl,rfl,by simp⟩ (λj σ ys HF _ ⟨_,_,_,_,_,e,_⟩=>e) ?_ ?_⟩
   ·rintro j σ ys HF hj ⟨u,os,rfl,bF,DF,eF,rfl,ol,oN⟩;refine⟨_,rfl,_,rfl,d,_,b+(4 - (j+1)),rfl,DF.mono (by omega),by omega,by omega,λv HG v0 v1 bG DG=> ?_⟩;obtain⟨v,rfl⟩:=Di v0;have nD4:=DE.ne hD4;have eG:=bG _ _ eF nD4;refine⟨eG,Aq (by unfold nV;rw[If,If];omega),_,os++[v],rfl,(bF.trans bG).set hD4,DG.upd nD4,Ab,by unfold nV;rw[map_append,map_append];rfl,by simp[ol],λo ho=> ?_⟩;rcases mem_append.mp ho with z|z
    ·exact oN o z
    ·rw[mem_singleton.mp z];omega
   rintro σ ys HF ⟨u,os,rfl,bF,DF,eF,rfl,ol,oN⟩;have DF:DeckAt HF d b:=DF.mono (by omega);have hstF:=Py (hst.same (s2.trans S2E)) bF DE;have hpF:PlAt HF pt (PL N S):=by rw[ePL];exact Sj (hp2.same S2E) bF DE
   have IF:=(I.same SE).mono λr zs e=>bF.tup DE e;have rF:=bF.tup DE (SE _ _ r0);obtain⟨o0,ho0⟩:∃o0,os[0]? =some o0:=⟨_,getElem?_eq_getElem (show 0<os.length by omega)⟩
   refine⟨_,rfl,_,rfl,_,rfl,_,rfl,D4,_,0,_,rfl,rfl,SqL.of eF,Wq (k:=0) ho0,_,rfl,N,st,pt,D4,S,o0,os,rfl,hstF,hS,N24,by omega,hpF,oN o0 (mem_of_getElem? ho0),eF,oN,by omega,λHG sG=>⟨_,rfl,Bp ?_⟩⟩;dsimp only[Bj];have lcn:cntF ds dd.mo<=ds.length:=Yq _ _;refine⟨_,rfl,_,rfl,r,_,1,_,rfl,rfl,SqT.of (sG _ _ rF),Ak (j:=1) at1,h,N,ds,dd.mo,rfl,IF.hh.same sG,I.rt,λsa Sa HI sI hsa srta=> ?_⟩;have SI:=sG.trans sI;refine⟨_,rfl,_,rfl,_,rfl,r,_,1,_,rfl,rfl,SqT.of (SI _ _ rF),Ak (j:=1) at1,h,N,ds,dd.mo,rfl,IF.hh.same SI,by omega,λHJ sJ=> ?_⟩;have SJ:=SI.trans sJ;refine⟨h,N,ds,cntF ds dd.mo,rfl,IF.hh.same SJ,I.rt,lcn,λsb Sb HK sK hsb srtb=> ?_⟩;have SK:=SJ.trans sK;have eS:Sa=Sb:=G7 (srta.1.trans srtb.1.symm) srta.2 srtb.2;subst eS;refine⟨1,_,sa,sb,rfl,rfl,by decide,Qo (hsa.same (sJ.trans sK)) hsb,_,rfl,Bp ?_⟩;dsimp only[Bj];refine⟨_,rfl,?_⟩;exact k pt _ _ _ _ HK (((But.of SE).trans bF).trans (But.of SK)) (DF.same SK) ((Sj (hp2.same S2E) bF DE).same SK)
  refine⟨_,rfl,s,_,rfl,.inl hs,_,_,rfl,_,_,rfl,_,rfl,by split<;> split<;> omega,by split<;> split<;> omega,Ez (lo:=0) (λi σ H5=>∃(u1 u2 u3 u4 u5 u6 u7 u8 u9 u10 u11 u12 u13 u14 u15 u16:Option V),σ=[some (.ref s),u1,u2,u3,u4,u5,u6,u7,u8,u9,u10,u11,u12,u13,u14,u15,u16]/\Same H H5) ⟨_,_,_,_,_,_,_,_,_,_,_,_,_,_,_,_,rfl,Cn _⟩ ?_ ?_⟩
  rotate_left
  ·rintro σ H5 ⟨u1,u2,u3,u4,u5,u6,u7,u8,u9,u10,u11,u12,u13,u14,u15,u16,rfl,s5⟩;exact k H5
  rintro i0 σ H5 hi ⟨u1,u2,u3,u4,u5,u6,u7,u8,u9,u10,u11,u12,u13,u14,u15,u16,rfl,s5⟩;have hi:i0<100:=by
   have:(if (if ((ns.map V.int).length:Int)<3 then ((ns.map V.int).length:Int) else 3) > 1 then (if ((ns.map V.int).length:Int)<3 then ((ns.map V.int).length:Int) else 3) else 1)<=3:=by split<;> split<;> omega
   omega
  refine⟨_,rfl,_,rfl,s,ns,i0,by rw[Int.zero_add];rfl,Sr hs s5,hl,hi,λd H6 s6 dn D6=> ?_⟩;refine⟨_,rfl,d,60,99200,rfl,by omega,D6,λh N ds H7 b7 D7 hh rr nmz N1 N24=> ?_⟩;have S7:Same H5 H7:=λx o e=>b7 _ _ (s6 _ _ e) (Ay e dn);have d5:∀x o,H5 x=some o->x≠d:=λx o e=>Ay e dn;obtain⟨tp,rs,eh,et,hdd⟩:=id hh;have n60:=rr.len;have lrs:=hdd.1;refine⟨_,rfl,h,_,rfl,SqT.of eh,rfl,_,_,rfl,_,_,rfl,rfl,?_⟩;refine⟨_,rfl,_,rfl,d,_,90000,rfl,D7.mono (by omega),by omega,by omega,λv H8 v0 v1 b8 D8=> ?_⟩;obtain⟨k0,rfl⟩:=Di v0;have kl0:k0<N:=by omega
  have hh8:=Tw hh b8 D7;have S8:Same H5 H8:=λx o e=>b8 _ _ (S7 _ _ e) (d5 _ _ e);refine⟨_,rfl,_,rfl,h,N,ds,k0,rfl,hh8,rr,nmz,N1,N24,λp ch tu H9 s9 p9 hc9 ht9=> ?_⟩;refine⟨p,_,rfl,SqT.of p9,rfl,_,_,rfl,_,_,rfl,rfl,?_⟩;have I9:LG d h tp ch tu N k0 rs ds H9:=⟨s9 _ _ (b8.tup D7 eh),s9 _ _ (b8.tup D7 et),hdd.mono λa xs e=>s9 _ _ (b8.tup D7 e),hc9,ht9,rr,nmz,N1,N24,kl0⟩
  have S9:=S8.trans s9;have D9:=D8.same s9;refine λth hth=> ?_;have nth:=D9.ne hth;have th5:H5 th=none:=Fw S9 hth;have sa:=Ae (o:= .dK []) hth;have ta:=Ab (H:=H9) (a:=th) (o:= .dK []);generalize upd H9 th (.dK [])=Ha at sa ta;refine⟨_,rfl,A1 (by simp),λe0 he0=> ?_⟩;have sb:=Ae (o:= .tup []) he0;have eb:=Ab (H:=Ha) (a:=e0) (o:= .tup []);generalize upd Ha e0 (.tup [])=Hb at sb eb;have i0n:InN N ([]:List T4):=λt h=>by cases h
  refine⟨N,e0,[],rfl,⟨[],eb,⟨rfl,λi r t h=>by simp at h⟩⟩,i0n,by omega,by simp,λah as Hc sc ec pc=> ?_⟩;have Sc:=(sa.trans sb).trans sc;have Ic:=I9.same Sc;have Dc:=D9.same Sc;have tc:Hc th=some (.dK []):=(sb.trans sc) _ _ ta;have lz:((1:Int)+((rs.map V.ref).length:Int))=(ds.length:Int)+1:=by rw[If,lrs];omega
  refine⟨_,rfl,tp,_,rfl,.inr (SqT.of Ic.et),_,_,rfl,rfl,1,_,rfl,⟨by omega,by omega,by omega,by rw[If];omega⟩,Ez (lo:=1) (λi σ H'=>∃(ah:Addr) (kvs:List (Key×V)) (u11 u12 u13 u14 u15 u16:Option V),σ=lσ s d h N tp k0 ch tu th ah (some (.int (0+(i0:Int)))) u11 u12 u13 u14 u15 u16/\Same H5 H'/\LG d h tp ch tu N k0 rs ds H'/\DeckAt H' d (4 * (60 - i))/\H' th=some (.dK kvs)/\kvs.length<=i/\TsAt H' kvs (thr (ds.take i))/\PlAt H' ah (PL N (thr (ds.take i)))) ⟨ah,[],_,_,_,_,_,_,rfl,S9.trans Sc,Ic,Dc.mono (by omega),tc,le_refl _,(λt h=>by cases h),as,ec,O9 pc⟩ ?_ ?_⟩
  rotate_left
  ·rintro σ H' ⟨ah,kvs,u11,u12,u13,u14,u15,u16,rfl,sx,_⟩;exact⟨_,_,_,_,_,_,_,_,_,_,_,_,_,_,_,_,rfl,s5.trans sx⟩
  rintro i σ H1 hi1 ⟨ah1,kvs,u11,u12,u13,u14,u15,u16,rfl,s1,I,D1,t1,kvl,ts,pa⟩;have li:i<ds.length:=by
   have:i<((((rs.map V.ref).length:Int)+1) - 1).toNat:=hi1;rw[If] at this;omega
  have e1:((1:Int)+(i:Int))=((i+1:Nat):Int):=by omega
  rw[e1];obtain⟨r,er⟩:∃r,rs[i]? =some r:=⟨_,getElem?_eq_getElem (by rw[lrs];exact li)⟩
  obtain⟨dd,ed,r1⟩:=I.dd.get er;have nd:=(Ja rr i (le_of_lt li)).nd;have fin:∀(q:Addr) (t:T4) (kvs':List (Key×V)) (H2:Hp) (DD:Io),True:=λ_ _ _ _ _=>trivial;refine⟨_,rfl,_,rfl,_,_,rfl,rfl,tp,_,_,_,rfl,rfl,SqT.of I.et,by rw[show (((i+1:Nat):Int) - 1)=(i:Int) by omega];exact Ak (by rw[getElem?_map,er];rfl),?_⟩;cases dd with
  |come m t=>
   have fr:t.1 ∉ (thr (ds.take i)).map (·.1):=(rr.ok i _ ed).1;refine⟨_,rfl,r,_,0,_,rfl,rfl,SqT.of r1,Ak (j:=0) rfl,rfl,_,rfl,B9 ?_⟩;refine⟨_,rfl,_,rfl,Fv r1 λq H2 s2 e2=> ?_⟩;have ec:Da (Dd.come m t).vs (some 2) none=Cm t:=rfl;rw[ec] at e2;have t2:=s2 _ _ t1;have r2:=s2 _ _ r1;refine⟨_,rfl,_,rfl,r,_,2,_,rfl,rfl,SqT.of r2,Ak (j:=2) rfl,th,_,rfl,DPut.k (k:=Sum.inr t.1) t2 (Aq (by omega)),?_⟩;have kp:∀(b:Addr) (zs:List V),H2 b=some (.tup zs)->upd H2 th (.dK (Cq kvs (Sum.inr t.1) (.ref q))) b=some (.tup zs):=λb zs e=>by rw[Aj (A5 e t2 (by intro z;cases z))];exact e
   have k1:∀(b:Addr) (zs:List V),H1 b=some (.tup zs)->upd H2 th (.dK (Cq kvs (Sum.inr t.1) (.ref q))) b=some (.tup zs):=λb zs e=>kp b zs (s2 _ _ e);have s3:=A2 (s1.trans s2) th5 (o:= .dK (Cq kvs (Sum.inr t.1) (.ref q)));have t3:=Ab (H:=H2) (a:=th) (o:= .dK (Cq kvs (Sum.inr t.1) (.ref q)));have D3:=(D1.same s2).upd (o:= .dK (Cq kvs (Sum.inr t.1) (.ref q))) nth;have q3:=kp _ _ e2;have r3:=kp _ _ r2;have I3:=I.mono k1;have pa3:PlAt _ ah1 (PL N (thr (ds.take i))):=let ⟨a,b,c⟩:=pa;⟨a,k1 _ _ b,c.mono k1⟩
   have ts3:TsAt (upd H2 th (.dK (Cq kvs (Sum.inr t.1) (.ref q)))) (Cq kvs (Sum.inr t.1) (.ref q)) (thr (ds.take (i+1))):=λx hx=>by
    rw[Bb ed,Cc] at hx;rcases mem_append.mp hx with z|z
    ·obtain⟨y,y1,y2⟩:=ts x z;refine⟨y,?_,k1 _ _ y2⟩;rw[Fs,Lt (λz2=>fr (by rw[<-Sum.inr.inj z2];exact mem_map.mpr ⟨x,z,rfl⟩))];exact y1
    ·rw[mem_singleton.mp z];exact⟨q,by rw[Fs,Yf rfl],q3⟩
   have kl3:=Df kvs (Sum.inr t.1) (.ref q);have ev3:Bw (Cq kvs (Sum.inr t.1) (.ref q)) (Sum.inr (Dd.come m t).nm)=some (.ref q):=by rw[Fs];exact Yf rfl
   generalize upd H2 th (.dK (Cq kvs (Sum.inr t.1) (.ref q)))=H3 at s3 t3 D3 q3 r3 I3 pa3 ts3;refine⟨s,d,h,tp,ch,tu,th,ah1,r,q,N,k0,i,4 * (60 - (i+1)),rs,ds,_,t,_,_,_,_,_,_,rfl,I3,D3.mono (by omega),ed,r3,rfl,t3,ev3,q3,pa3,λpt v13 v14 v15 v16 H4 b4 D4 p4=> ?_⟩;exact⟨pt,_,_,_,_,_,_,_,rfl,λx o e=>b4 _ _ (s3 _ _ e) (d5 _ _ e),I3.mono λr zs e=>b4.tup D3 e,D4,b4 _ _ t3 nth,by omega,λx hx=>let ⟨y,y1,y2⟩:=ts3 x hx;⟨y,y1,b4.tup D3 y2⟩,p4⟩
  |go m n=>
   refine⟨_,rfl,r,_,0,_,rfl,rfl,SqT.of r1,Ak (j:=0) rfl,rfl,_,rfl,Bp ?_⟩;dsimp only[Bj];obtain⟨t,ht,et⟩:=mem_map.mp (show n∈(thr (ds.take i)).map (·.1) from rr.ok i _ ed);obtain⟨q,q1,q2⟩:=ts t ht;refine⟨s,d,h,tp,ch,tu,th,ah1,r,q,N,k0,i,4 * (60 - (i+1)),rs,ds,_,t,kvs,_,_,_,_,_,rfl,I,D1.mono (by omega),ed,r1,⟨ht,et⟩,t1,by rw[<-et] at *;exact q1,q2,pa,λpt v13 v14 v15 v16 H4 b4 D4 p4=> ?_⟩;refine⟨pt,_,_,_,_,_,_,_,rfl,λx o e=>b4 _ _ (s1 _ _ e) (d5 _ _ e),I.mono λr zs e=>b4.tup D1 e,D4,b4 _ _ t1 nth,by omega,λx hx=> ?_,p4⟩;rw[Bb ed,Cc] at hx;obtain⟨y,y1,y2⟩:=ts x (mem_filter.mp hx).1;exact⟨y,y1,b4.tup D1 y2⟩
theorem us1{fd:FuncData}{ps:List Str}(hp:ps.length=1)(h:∀a0:Value,bindArgs fd ⟨[a0],[]⟩=pure (ps.zip [a0])):∀us:List Value,us.length=ps.length->bindArgs fd ⟨us,[]⟩=pure (ps.zip us):=λus hl=>match us,hl.trans hp with|[a0],_=>h a0
theorem us2{fd:FuncData}{ps:List Str}(hp:ps.length=2)(h:∀a0 a1:Value,bindArgs fd ⟨[a0,a1],[]⟩=pure (ps.zip [a0,a1])):∀us:List Value,us.length=ps.length->bindArgs fd ⟨us,[]⟩=pure (ps.zip us):=λus hl=>match us,hl.trans hp with|[a0,a1],_=>h a0 a1
theorem us3{fd:FuncData}{ps:List Str}(hp:ps.length=3)(h:∀a0 a1 a2:Value,bindArgs fd ⟨[a0,a1,a2],[]⟩=pure (ps.zip [a0,a1,a2])):∀us:List Value,us.length=ps.length->bindArgs fd ⟨us,[]⟩=pure (ps.zip us):=λus hl=>match us,hl.trans hp with|[a0,a1,a2],_=>h a0 a1 a2
theorem us4{fd:FuncData}{ps:List Str}(hp:ps.length=4)(h:∀a0 a1 a2 a3:Value,bindArgs fd ⟨[a0,a1,a2,a3],[]⟩=pure (ps.zip [a0,a1,a2,a3])):∀us:List Value,us.length=ps.length->bindArgs fd ⟨us,[]⟩=pure (ps.zip us):=λus hl=>match us,hl.trans hp with|[a0,a1,a2,a3],_=>h a0 a1 a2 a3
theorem us5{fd:FuncData}{ps:List Str}(hp:ps.length=5)(h:∀a0 a1 a2 a3 a4:Value,bindArgs fd ⟨[a0,a1,a2,a3,a4],[]⟩=pure (ps.zip [a0,a1,a2,a3,a4])):∀us:List Value,us.length=ps.length->bindArgs fd ⟨us,[]⟩=pure (ps.zip us):=λus hl=>match us,hl.trans hp with|[a0,a1,a2,a3,a4],_=>h a0 a1 a2 a3 a4
theorem all_mk{l:PySem.W.OpenLaw}{w:World}{K:Frag}{h:Heap}{mg:Str->Option Value}{fa f0 f1 f2 f3 f4 f5 f6 f7 f8 f9 f10 f11 f12 f13 f14 f15 f16 f17 f18 f19 f20 f21 f22 f23 f24 f25 f26 f27 f28 f29 f30 f31 f32 f33 f34:Addr}(X:K.In h)(G:h.Ns mainGlobals mg)(hfa:mg "law"=some (.ref fa)){od0 an0 od1 an1 od2 an2 od3 an3 od4 an4 od5 an5 od6 an6 od7 an7 od8 an8 od9 an9 od10 an10 od11 an11 od12 an12 od13 an13 od14 an14 od15 an15 od16 an16 od17 an17 od18 an18 od19 an19 od20 an20 od21 an21 od22 an22 od23 an23 od24 an24 od25 an25 od26 an26 od27 an27 od28 an28 od29 an29 od30 an30 od31 an31 od32 an32 od33 an33 od34 an34:Option Addr}{sl0 sl1 sl2 sl3 sl4 sl5 sl6 sl7 sl8 sl9 sl10 sl11 sl12 sl13 sl14 sl15 sl16 sl17 sl18 sl19 sl20 sl21 sl22 sl23 sl24 sl25 sl26 sl27 sl28 sl29 sl30 sl31 sl32 sl33 sl34:Array (Option Value)}{oc0 kV0 dc0 pm0 cd0 ct0 oc1 kV1 dc1 pm1 cd1 ct1 oc2 kV2 dc2 pm2 cd2 ct2 oc3 kV3 dc3 pm3 cd3 ct3 oc4 kV4 dc4 pm4 cd4 ct4 oc5 kV5 dc5 pm5 cd5 ct5 oc6 kV6 dc6 pm6 cd6 ct6 oc7 kV7 dc7 pm7 cd7 ct7 oc8 kV8 dc8 pm8 cd8 ct8 oc9 kV9 dc9 pm9 cd9 ct9 oc10 kV10 dc10 pm10 cd10 ct10 oc11 kV11 dc11 pm11 cd11 ct11 oc12 kV12 dc12 pm12 cd12 ct12 oc13 kV13 dc13 pm13 cd13 ct13 oc14 kV14 dc14 pm14 cd14 ct14 oc15 kV15 dc15 pm15 cd15 ct15 oc16 kV16 dc16 pm16 cd16 ct16 oc17 kV17 dc17 pm17 cd17 ct17 oc18 kV18 dc18 pm18 cd18 ct18 oc19 kV19 dc19 pm19 cd19 ct19 oc20 kV20 dc20 pm20 cd20 ct20 oc21 kV21 dc21 pm21 cd21 ct21 oc22 kV22 dc22 pm22 cd22 ct22 oc23 kV23 dc23 pm23 cd23 ct23 oc24 kV24 dc24 pm24 cd24 ct24 oc25 kV25 dc25 pm25 cd25 ct25 oc26 kV26 dc26 pm26 cd26 ct26 oc27 kV27 dc27 pm27 cd27 ct27 oc28 kV28 dc28 pm28 cd28 ct28 oc29 kV29 dc29 pm29 cd29 ct29 oc30 kV30 dc30 pm30 cd30 ct30 oc31 kV31 dc31 pm31 cd31 ct31 oc32 kV32 dc32 pm32 cd32 ct32 oc33 kV33 dc33 pm33 cd33 ct33 oc34 kV34 dc34 pm34 cd34 ct34:Value}{t0 t1 t2 t3:Tok}(a0:PySem.W.nsIn K mainGlobals "beside_of"=some (some (.ref f0)))(l0:K.lookup f0=some ⟨oc0,od0,.func (PySem.W.fnOf "beside_of" "beside_of" (Au Ed) (At Ed) (Ag Ed) .none kV0 dc0 pm0 an0 cd0 ct0),sl0⟩)(c0:PySem.W.codeIn K cd0 "beside_of"=true)(k0:keepIn K (.ref f0)=true)(a1:PySem.W.nsIn K mainGlobals "ways_from"=some (some (.ref f1)))(l1:K.lookup f1=some ⟨oc1,od1,.func (PySem.W.fnOf "ways_from" "ways_from" (Au Jt) (At Jt) (Ag Jt) .none kV1 dc1 pm1 an1 cd1 ct1),sl1⟩)(c1:PySem.W.codeIn K cd1 "ways_from"=true)(k1:keepIn K (.ref f1)=true)(a2:PySem.W.nsIn K mainGlobals "part_of"=some (some (.ref f2)))(l2:K.lookup f2=some ⟨oc2,od2,.func (PySem.W.fnOf "part_of" "part_of" (Au Ji) (At Ji) (Ag Ji) .none kV2 dc2 pm2 an2 cd2 ct2),sl2⟩)(c2:PySem.W.codeIn K cd2 "part_of"=true)(k2:keepIn K (.ref f2)=true)(a3:PySem.W.nsIn K mainGlobals "are_joined"=some (some (.ref f3)))(l3:K.lookup f3=some ⟨oc3,od3,.func (PySem.W.fnOf "are_joined" "are_joined" (Au Ex) (At Ex) (Ag Ex) .none kV3 dc3 pm3 an3 cd3 ct3),sl3⟩)(c3:PySem.W.codeIn K cd3 "are_joined"=true)(k3:keepIn K (.ref f3)=true)(a4:PySem.W.nsIn K mainGlobals "parts_of"=some (some (.ref f4)))(l4:K.lookup f4=some ⟨oc4,od4,.func (PySem.W.fnOf "parts_of" "parts_of" (Au Ek) (At Ek) (Ag Ek) .none kV4 dc4 pm4 an4 cd4 ct4),sl4⟩)(c4:PySem.W.codeIn K cd4 "parts_of"=true)(k4:keepIn K (.ref f4)=true)(a5:PySem.W.nsIn K mainGlobals "is_whole"=some (some (.ref f5)))(l5:K.lookup f5=some ⟨oc5,od5,.func (PySem.W.fnOf "is_whole" "is_whole" (Au Gn) (At Gn) (Ag Gn) .none kV5 dc5 pm5 an5 cd5 ct5),sl5⟩)(c5:PySem.W.codeIn K cd5 "is_whole"=true)(k5:keepIn K (.ref f5)=true)(a6:PySem.W.nsIn K mainGlobals "is_within"=some (some (.ref f6)))(l6:K.lookup f6=some ⟨oc6,od6,.func (PySem.W.fnOf "is_within" "is_within" (Au E3) (At E3) (Ag E3) .none kV6 dc6 pm6 an6 cd6 ct6),sl6⟩)(c6:PySem.W.codeIn K cd6 "is_within"=true)(k6:keepIn K (.ref f6)=true)(a7:PySem.W.nsIn K mainGlobals "is_name"=some (some (.ref f7)))(l7:K.lookup f7=some ⟨oc7,od7,.func (PySem.W.fnOf "is_name" "is_name" (Au Jl) (At Jl) (Ag Jl) .none kV7 dc7 pm7 an7 cd7 ct7),sl7⟩)(c7:PySem.W.codeIn K cd7 "is_name"=true)(k7:keepIn K (.ref f7)=true)(a8:PySem.W.nsIn K mainGlobals "is_amount"=some (some (.ref f8)))(l8:K.lookup f8=some ⟨oc8,od8,.func (PySem.W.fnOf "is_amount" "is_amount" (Au E1) (At E1) (Ag E1) .none kV8 dc8 pm8 an8 cd8 ct8),sl8⟩)(c8:PySem.W.codeIn K cd8 "is_amount"=true)(k8:keepIn K (.ref f8)=true)(a9:PySem.W.nsIn K mainGlobals "is_place"=some (some (.ref f9)))(l9:K.lookup f9=some ⟨oc9,od9,.func (PySem.W.fnOf "is_place" "is_place" (Au Gg) (At Gg) (Ag Gg) .none kV9 dc9 pm9 an9 cd9 ct9),sl9⟩)(c9:PySem.W.codeIn K cd9 "is_place"=true)(k9:keepIn K (.ref f9)=true)(a10:PySem.W.nsIn K mainGlobals "is_tie"=some (some (.ref f10)))(l10:K.lookup f10=some ⟨oc10,od10,.func (PySem.W.fnOf "is_tie" "is_tie" (Au Pr) (At Pr) (Ag Pr) .none kV10 dc10 pm10 an10 cd10 ct10),sl10⟩)(c10:PySem.W.codeIn K cd10 "is_tie"=true)(k10:keepIn K (.ref f10)=true)(a11:PySem.W.nsIn K mainGlobals "is_coming"=some (some (.ref f11)))(l11:K.lookup f11=some ⟨oc11,od11,.func (PySem.W.fnOf "is_coming" "is_coming" (Au E4) (At E4) (Ag E4) .none kV11 dc11 pm11 an11 cd11 ct11),sl11⟩)(c11:PySem.W.codeIn K cd11 "is_coming"=true)(k11:keepIn K (.ref f11)=true)(a12:PySem.W.nsIn K mainGlobals "is_going"=some (some (.ref f12)))(l12:K.lookup f12=some ⟨oc12,od12,.func (PySem.W.fnOf "is_going" "is_going" (Au Gy) (At Gy) (Ag Gy) .none kV12 dc12 pm12 an12 cd12 ct12),sl12⟩)(c12:PySem.W.codeIn K cd12 "is_going"=true)(k12:keepIn K (.ref f12)=true)(a13:PySem.W.nsIn K mainGlobals "has_shape"=some (some (.ref f13)))(l13:K.lookup f13=some ⟨oc13,od13,.func (PySem.W.fnOf "has_shape" "has_shape" (Au Gp) (At Gp) (Ag Gp) .none kV13 dc13 pm13 an13 cd13 ct13),sl13⟩)(c13:PySem.W.codeIn K cd13 "has_shape"=true)(k13:keepIn K (.ref f13)=true)(a14:PySem.W.nsIn K mainGlobals "deed_fault"=some (some (.ref f14)))(l14:K.lookup f14=some ⟨oc14,od14,.func (PySem.W.fnOf "deed_fault" "deed_fault" (Au Gf) (At Gf) (Ag Gf) .none kV14 dc14 pm14 an14 cd14 ct14),sl14⟩)(c14:PySem.W.codeIn K cd14 "deed_fault"=true)(k14:keepIn K (.ref f14)=true)(a15:PySem.W.nsIn K mainGlobals "right_history"=some (some (.ref f15)))(l15:K.lookup f15=some ⟨oc15,od15,.func (PySem.W.fnOf "right_history" "right_history" (Au Gm) (At Gm) (Ag Gm) .none kV15 dc15 pm15 an15 cd15 ct15),sl15⟩)(c15:PySem.W.codeIn K cd15 "right_history"=true)(k15:keepIn K (.ref f15)=true)(a16:PySem.W.nsIn K mainGlobals "deeds_by"=some (some (.ref f16)))(l16:K.lookup f16=some ⟨oc16,od16,.func (PySem.W.fnOf "deeds_by" "deeds_by" (Au C9) (At C9) (Ag C9) .none kV16 dc16 pm16 an16 cd16 ct16),sl16⟩)(c16:PySem.W.codeIn K cd16 "deeds_by"=true)(k16:keepIn K (.ref f16)=true)(a17:PySem.W.nsIn K mainGlobals "stand_behind"=some (some (.ref f17)))(l17:K.lookup f17=some ⟨oc17,od17,.func (PySem.W.fnOf "stand_behind" "stand_behind" (Au Ev) (At Ev) (Ag Ev) .none kV17 dc17 pm17 an17 cd17 ct17),sl17⟩)(c17:PySem.W.codeIn K cd17 "stand_behind"=true)(k17:keepIn K (.ref f17)=true)(a18:PySem.W.nsIn K mainGlobals "stand_at"=some (some (.ref f18)))(l18:K.lookup f18=some ⟨oc18,od18,.func (PySem.W.fnOf "stand_at" "stand_at" (Au Et) (At Et) (Ag Et) .none kV18 dc18 pm18 an18 cd18 ct18),sl18⟩)(c18:PySem.W.codeIn K cd18 "stand_at"=true)(k18:keepIn K (.ref f18)=true)(a19:PySem.W.nsIn K mainGlobals "_law_cell_at"=some (some (.ref f19)))(l19:K.lookup f19=some ⟨oc19,od19,.func (PySem.W.fnOf "_law_cell_at" "_law_cell_at" (Au Kj) (At Kj) (Ag Kj) .none kV19 dc19 pm19 an19 cd19 ct19),sl19⟩)(c19:PySem.W.codeIn K cd19 "_law_cell_at"=true)(k19:keepIn K (.ref f19)=true)(a20:PySem.W.nsIn K mainGlobals "_law_deck"=some (some (.ref f20)))(l20:K.lookup f20=some ⟨oc20,od20,.func (PySem.W.fnOf "_law_deck" "_law_deck" (Au Jx) (At Jx) (Ag Jx) .none kV20 dc20 pm20 an20 cd20 ct20),sl20⟩)(c20:PySem.W.codeIn K cd20 "_law_deck"=true)(k20:keepIn K (.ref f20)=true)(a21:PySem.W.nsIn K mainGlobals "_law_draw"=some (some (.ref f21)))(l21:K.lookup f21=some ⟨oc21,od21,.func (PySem.W.fnOf "_law_draw" "_law_draw" (Au Kb) (At Kb) (Ag Kb) .none kV21 dc21 pm21 an21 cd21 ct21),sl21⟩)(c21:PySem.W.codeIn K cd21 "_law_draw"=true)(k21:keepIn K (.ref f21)=true)(a22:PySem.W.nsIn K mainGlobals "_law_names"=some (some (.ref f22)))(l22:K.lookup f22=some ⟨oc22,od22,.func (PySem.W.fnOf "_law_names" "_law_names" (Au Fg) (At Fg) (Ag Fg) .none kV22 dc22 pm22 an22 cd22 ct22),sl22⟩)(c22:PySem.W.codeIn K cd22 "_law_names"=true)(k22:keepIn K (.ref f22)=true)(a23:PySem.W.nsIn K mainGlobals "_law_many"=some (some (.ref f23)))(l23:K.lookup f23=some ⟨oc23,od23,.func (PySem.W.fnOf "_law_many" "_law_many" (Au Jz) (At Jz) (Ag Jz) .none kV23 dc23 pm23 an23 cd23 ct23),sl23⟩)(c23:PySem.W.codeIn K cd23 "_law_many"=true)(k23:keepIn K (.ref f23)=true)(a24:PySem.W.nsIn K mainGlobals "_law_weight"=some (some (.ref f24)))(l24:K.lookup f24=some ⟨oc24,od24,.func (PySem.W.fnOf "_law_weight" "_law_weight" (Au E2) (At E2) (Ag E2) .none kV24 dc24 pm24 an24 cd24 ct24),sl24⟩)(c24:PySem.W.codeIn K cd24 "_law_weight"=true)(k24:keepIn K (.ref f24)=true)(a25:PySem.W.nsIn K mainGlobals "_law_tie"=some (some (.ref f25)))(l25:K.lookup f25=some ⟨oc25,od25,.func (PySem.W.fnOf "_law_tie" "_law_tie" (Au Kd) (At Kd) (Ag Kd) .none kV25 dc25 pm25 an25 cd25 ct25),sl25⟩)(c25:PySem.W.codeIn K cd25 "_law_tie"=true)(k25:keepIn K (.ref f25)=true)(a26:PySem.W.nsIn K mainGlobals "_law_gap"=some (some (.ref f26)))(l26:K.lookup f26=some ⟨oc26,od26,.func (PySem.W.fnOf "_law_gap" "_law_gap" (Au P5) (At P5) (Ag P5) .none kV26 dc26 pm26 an26 cd26 ct26),sl26⟩)(c26:PySem.W.codeIn K cd26 "_law_gap"=true)(k26:keepIn K (.ref f26)=true)(a27:PySem.W.nsIn K mainGlobals "_law_history"=some (some (.ref f27)))(l27:K.lookup f27=some ⟨oc27,od27,.func (PySem.W.fnOf "_law_history" "_law_history" (Au Cz) (At Cz) (Ag Cz) .none kV27 dc27 pm27 an27 cd27 ct27),sl27⟩)(c27:PySem.W.codeIn K cd27 "_law_history"=true)(k27:keepIn K (.ref f27)=true)(a28:PySem.W.nsIn K mainGlobals "_law_called"=some (some (.ref f28)))(l28:K.lookup f28=some ⟨oc28,od28,.func (PySem.W.fnOf "_law_called" "_law_called" (Au Dx) (At Dx) (Ag Dx) .none kV28 dc28 pm28 an28 cd28 ct28),sl28⟩)(c28:PySem.W.codeIn K cd28 "_law_called"=true)(k28:keepIn K (.ref f28)=true)(a29:PySem.W.nsIn K mainGlobals "_law_otherwise"=some (some (.ref f29)))(l29:K.lookup f29=some ⟨oc29,od29,.func (PySem.W.fnOf "_law_otherwise" "_law_otherwise" (Au Ey) (At Ey) (Ag Ey) .none kV29 dc29 pm29 an29 cd29 ct29),sl29⟩)(c29:PySem.W.codeIn K cd29 "_law_otherwise"=true)(k29:keepIn K (.ref f29)=true)(a30:PySem.W.nsIn K mainGlobals "_law_all_once"=some (some (.ref f30)))(l30:K.lookup f30=some ⟨oc30,od30,.func (PySem.W.fnOf "_law_all_once" "_law_all_once" (Au Kh) (At Kh) (Ag Kh) .none kV30 dc30 pm30 an30 cd30 ct30),sl30⟩)(c30:PySem.W.codeIn K cd30 "_law_all_once"=true)(k30:keepIn K (.ref f30)=true)(a31:PySem.W.nsIn K mainGlobals "_law_with"=some (some (.ref f31)))(l31:K.lookup f31=some ⟨oc31,od31,.func (PySem.W.fnOf "_law_with" "_law_with" (Au G3) (At G3) (Ag G3) .none kV31 dc31 pm31 an31 cd31 ct31),sl31⟩)(c31:PySem.W.codeIn K cd31 "_law_with"=true)(k31:keepIn K (.ref f31)=true)(a32:PySem.W.nsIn K mainGlobals "_law_step_right"=some (some (.ref f32)))(l32:K.lookup f32=some ⟨oc32,od32,.func (PySem.W.fnOf "_law_step_right" "_law_step_right" (Au Gq) (At Gq) (Ag Gq) .none kV32 dc32 pm32 an32 cd32 ct32),sl32⟩)(c32:PySem.W.codeIn K cd32 "_law_step_right"=true)(k32:keepIn K (.ref f32)=true)(a33:PySem.W.nsIn K mainGlobals "_law_part_right"=some (some (.ref f33)))(l33:K.lookup f33=some ⟨oc33,od33,.func (PySem.W.fnOf "_law_part_right" "_law_part_right" (Au Eo) (At Eo) (Ag Eo) .none kV33 dc33 pm33 an33 cd33 ct33),sl33⟩)(c33:PySem.W.codeIn K cd33 "_law_part_right"=true)(k33:keepIn K (.ref f33)=true)(a34:PySem.W.nsIn K mainGlobals "law"=some (some (.ref f34)))(l34:K.lookup f34=some ⟨oc34,od34,.func (PySem.W.fnOf "law" "law" (Au Iv) (At Iv) (Ag Iv) .none kV34 dc34 pm34 an34 cd34 ct34),sl34⟩)(c34:PySem.W.codeIn K cd34 "law"=true)(k34:keepIn K (.ref f34)=true)(i0:PySem.W.nsIn K mainGlobals "MOST_PLACES"=some (some (.int 24 t0)))(i1:PySem.W.nsIn K mainGlobals "MOST_DEEDS"=some (some (.int 60 t1)))(i2:PySem.W.nsIn K mainGlobals "MOST_LETTERS"=some (some (.int 8 t2)))(i3:PySem.W.nsIn K mainGlobals "MOST_AMOUNT"=some (some (.int 1000000000 t3)))(z0:PySem.W.nsIn K mainGlobals "isinstance"=some none)(z1:PySem.W.nsIn K mainGlobals "int"=some none)(z2:PySem.W.nsIn K mainGlobals "bool"=some none)(z3:PySem.W.nsIn K mainGlobals "tuple"=some none)(z4:PySem.W.nsIn K mainGlobals "len"=some none)(z5:PySem.W.nsIn K mainGlobals "range"=some none)(z6:PySem.W.nsIn K mainGlobals "sum"=some none)(z7:PySem.W.nsIn K mainGlobals "str"=some none)(z8:PySem.W.nsIn K mainGlobals "max"=some none)(z9:PySem.W.nsIn K mainGlobals "min"=some none)(z10:PySem.W.nsIn K mainGlobals "all"=some none)(z11:PySem.W.nsIn K mainGlobals "sorted"=some none)(z12:PySem.W.nsIn K mainGlobals "list"=some none)(z13:PySem.W.nsIn K mainGlobals "enumerate"=some none):
  ∃fd:FuncData,(∀(s:Shared) (v:Value),BindsTo s fd ⟨[v],[]⟩ [("_law_script",v)])/\∀base:Heap,K.In base->base.Ns mainGlobals mg->FnOk l.prog w K mg base CX0 8 fa fd ["_law_script"] (Po K):=by
 have e:=hfa.symm.trans (Ys X G a34);cases e;have T:Txt mg:=⟨Y1 X G z0,Y1 X G z1,Y1 X G z2,Y1 X G z3,Y1 X G z4,Y1 X G z5,Y1 X G z6,Y1 X G z7,Y1 X G z8,Y1 X G z9,Y1 X G z10,Y1 X G z11,Y1 X G z12,Y1 X G z13,⟨_,Ys X G i0⟩,⟨_,Ys X G i1⟩,⟨_,Ys X G i2⟩,⟨_,Ys X G i3⟩⟩
 have F0:=A4 (st:=Ed) l0 c0 k0;have b0:=F0.binds (ps:=["many","stand"]) λ_ _ _ _ _ _=>us2 rfl λ_ _=>rfl;have m0:=Ys X G a0;have F1:=A4 (st:=Jt) l1 c1 k1;have b1:=F1.binds (ps:=["many","stand","place"]) λ_ _ _ _ _ _=>us3 rfl λ_ _ _=>rfl;have m1:=Ys X G a1;have F2:=A4 (st:=Ji) l2 c2 k2;have b2:=F2.binds (ps:=["many","stand","place"]) λ_ _ _ _ _ _=>us3 rfl λ_ _ _=>rfl;have m2:=Ys X G a2;have F3:=A4 (st:=Ex) l3 c3 k3;have b3:=F3.binds (ps:=["many","stand","one","other"]) λ_ _ _ _ _ _=>us4 rfl λ_ _ _ _=>rfl;have m3:=Ys X G a3;have F4:=A4 (st:=Ek) l4 c4 k4;have b4:=F4.binds (ps:=["many","stand"]) λ_ _ _ _ _ _=>us2 rfl λ_ _=>rfl;have m4:=Ys X G a4;have F5:=A4 (st:=Gn) l5 c5 k5;have b5:=F5.binds (ps:=["thing"]) λ_ _ _ _ _ _=>us1 rfl λ_=>rfl;have m5:=Ys X G a5;have F6:=A4 (st:=E3) l6 c6 k6;have b6:=F6.binds (ps:=["thing","low","high"]) λ_ _ _ _ _ _=>us3 rfl λ_ _ _=>rfl;have m6:=Ys X G a6;have F7:=A4 (st:=Jl) l7 c7 k7;have b7:=F7.binds (ps:=["thing"]) λ_ _ _ _ _ _=>us1 rfl λ_=>rfl;have m7:=Ys X G a7;have F8:=A4 (st:=E1) l8 c8 k8;have b8:=F8.binds (ps:=["thing"]) λ_ _ _ _ _ _=>us1 rfl λ_=>rfl;have m8:=Ys X G a8;have F9:=A4 (st:=Gg) l9 c9 k9;have b9:=F9.binds (ps:=["many","thing"]) λ_ _ _ _ _ _=>us2 rfl λ_ _=>rfl;have m9:=Ys X G a9;have F10:=A4 (st:=Pr) l10 c10 k10;have b10:=F10.binds (ps:=["many","four"]) λ_ _ _ _ _ _=>us2 rfl λ_ _=>rfl;have m10:=Ys X G a10;have F11:=A4 (st:=E4) l11 c11 k11;have b11:=F11.binds (ps:=["many","thing"]) λ_ _ _ _ _ _=>us2 rfl λ_ _=>rfl;have m11:=Ys X G a11;have F12:=A4 (st:=Gy) l12 c12 k12;have b12:=F12.binds (ps:=["thing"]) λ_ _ _ _ _ _=>us1 rfl λ_=>rfl;have m12:=Ys X G a12;have F13:=A4 (st:=Gp) l13 c13 k13;have b13:=F13.binds (ps:=["thing","most"]) λ_ _ _ _ _ _=>us2 rfl λ_ _=>rfl;have m13:=Ys X G a13;have F14:=A4 (st:=Gf) l14 c14 k14;have b14:=F14.binds (ps:=["many","ahead","there","thing"]) λ_ _ _ _ _ _=>us4 rfl λ_ _ _ _=>rfl;have m14:=Ys X G a14;have F15:=A4 (st:=Gm) l15 c15 k15;have b15:=F15.binds (ps:=["thing"]) λ_ _ _ _ _ _=>us1 rfl λ_=>rfl;have m15:=Ys X G a15;have F16:=A4 (st:=C9) l16 c16 k16;have b16:=F16.binds (ps:=["history","moment"]) λ_ _ _ _ _ _=>us2 rfl λ_ _=>rfl;have m16:=Ys X G a16;have F17:=A4 (st:=Ev) l17 c17 k17;have b17:=F17.binds (ps:=["history","n"]) λ_ _ _ _ _ _=>us2 rfl λ_ _=>rfl;have m17:=Ys X G a17;have F18:=A4 (st:=Et) l18 c18 k18;have b18:=F18.binds (ps:=["history","moment"]) λ_ _ _ _ _ _=>us2 rfl λ_ _=>rfl;have m18:=Ys X G a18;have F19:=A4 (st:=Kj) l19 c19 k19;have b19:=F19.binds (ps:=["_law_script","_law_k"]) λ_ _ _ _ _ _=>us2 rfl λ_ _=>rfl;have m19:=Ys X G a19;have F20:=A4 (st:=Jx) l20 c20 k20;have b20:=F20.binds (ps:=["_law_script","_law_k"]) λ_ _ _ _ _ _=>us2 rfl λ_ _=>rfl;have m20:=Ys X G a20;have F21:=A4 (st:=Kb) l21 c21 k21;have b21:=F21.binds (ps:=["_law_deck_here","_law_most"]) λ_ _ _ _ _ _=>us2 rfl λ_ _=>rfl;have m21:=Ys X G a21;have F22:=A4 (st:=Fg) l22 c22 k22
 have b22:=F22.binds (ps:=["_law_deck_here","_law_many_here"]) λ_ _ _ _ _ _=>us2 rfl λ_ _=>rfl;have m22:=Ys X G a22;have F23:=A4 (st:=Jz) l23 c23 k23;have b23:=F23.binds (ps:=["_law_deck_here"]) λ_ _ _ _ _ _=>us1 rfl λ_=>rfl;have m23:=Ys X G a23;have F24:=A4 (st:=E2) l24 c24 k24;have b24:=F24.binds (ps:=["_law_deck_here"]) λ_ _ _ _ _ _=>us1 rfl λ_=>rfl;have m24:=Ys X G a24;have F25:=A4 (st:=Kd) l25 c25 k25;have b25:=F25.binds (ps:=["_law_deck_here","_law_many_here","_law_there","_law_free","_law_lined"]) λ_ _ _ _ _ _=>us5 rfl λ_ _ _ _ _=>rfl;have m25:=Ys X G a25;have F26:=A4 (st:=P5) l26 c26 k26;have b26:=F26.binds (ps:=["_law_deck_here"]) λ_ _ _ _ _ _=>us1 rfl λ_=>rfl;have m26:=Ys X G a26;have F27:=A4 (st:=Cz) l27 c27 k27;have b27:=F27.binds (ps:=["_law_deck_here","_law_most"]) λ_ _ _ _ _ _=>us2 rfl λ_ _=>rfl;have m27:=Ys X G a27;have F28:=A4 (st:=Dx) l28 c28 k28;have b28:=F28.binds (ps:=["_law_name"]) λ_ _ _ _ _ _=>us1 rfl λ_=>rfl;have m28:=Ys X G a28;have F29:=A4 (st:=Ey) l29 c29 k29;have b29:=F29.binds (ps:=["_law_history_here","_law_step"]) λ_ _ _ _ _ _=>us2 rfl λ_ _=>rfl;have m29:=Ys X G a29;have F30:=A4 (st:=Kh) l30 c30 k30;have b30:=F30.binds (ps:=["_law_many_here","_law_parts"]) λ_ _ _ _ _ _=>us2 rfl λ_ _=>rfl;have m30:=Ys X G a30;have F31:=A4 (st:=G3) l31 c31 k31;have b31:=F31.binds (ps:=["_law_parts","_law_one","_law_other"]) λ_ _ _ _ _ _=>us3 rfl λ_ _ _=>rfl;have m31:=Ys X G a31;have F32:=A4 (st:=Gq) l32 c32 k32;have b32:=F32.binds (ps:=["_law_deed","_law_tie_here","_law_ahead","_law_behind"]) λ_ _ _ _ _ _=>us4 rfl λ_ _ _ _=>rfl;have m32:=Ys X G a32;have F33:=A4 (st:=Eo) l33 c33 k33;have b33:=F33.binds (ps:=["_law_many_here","_law_stand","_law_parts","_law_place","_law_others"]) λ_ _ _ _ _ _=>us5 rfl λ_ _ _ _ _=>rfl;have m33:=Ys X G a33;have F34:=A4 (st:=Iv) l34 c34 k34;have b34:=F34.binds (ps:=["_law_script"]) λ_ _ _ _ _ _=>us1 rfl λ_=>rfl;have m34:=Ys X G a34;refine⟨PySem.W.fnOf "law" "law" (Au Iv) (At Iv) (Ag Iv) .none kV34 dc34 pm34 an34 cd34 ct34,λs v=> .of_eq rfl,λbase _ _=> ?_⟩;have Q0:FnOk l.prog w K mg base CX0 1 f0 _ ["many","stand"] Hy:=P7 F0 T;have Q1:FnOk l.prog w K mg base CX0 2 f1 _ ["many","stand","place"] Nv:=U6 F1 T k0 b0 m0 (Q0.mono (by decide));have Q2:FnOk l.prog w K mg base CX0 3 f2 _ ["many","stand","place"] Jg:=Vz F2 T k1 b1 m1 (Q1.mono (by decide));have Q3:FnOk l.prog w K mg base CX0 4 f3 _ ["many","stand","one","other"] Ht:=Qj F3 T k2 b2 m2 (Q2.mono (by decide));have Q4:FnOk l.prog w K mg base CX0 4 f4 _ ["many","stand"] Li:=Sf F4 T k2 b2 m2 (Q2.mono (by decide));have Q5:FnOk l.prog w K mg base CX0 1 f5 _ ["thing"] Le:=Sk F5 T;have Q6:FnOk l.prog w K mg base CX0 2 f6 _ ["thing","low","high"] Eg:=Qr F6 T k5 b5 m5 (Q5.mono (by decide));have Q7:FnOk l.prog w K mg base CX0 1 f7 _ ["thing"] Lu:=Uz F7 T;have Q8:FnOk l.prog w K mg base CX0 3 f8 _ ["thing"] El:=Ql F8 T k6 b6 m6 (Q6.mono (by decide));have Q9:FnOk l.prog w K mg base CX0 3 f9 _ ["many","thing"] Lo:=Ul F9 T k6 b6 m6 (Q6.mono (by decide))
 have Q10:FnOk l.prog w K mg base CX0 4 f10 _ ["many","four"] Ui:=Wz F10 T k7 b7 m7 (Q7.mono (by decide)) k8 b8 m8 (Q8.mono (by decide)) k9 b9 m9 (Q9.mono (by decide));have Q11:FnOk l.prog w K mg base CX0 5 f11 _ ["many","thing"] Ib:=P0 F11 T k8 b8 m8 (Q8.mono (by decide)) k10 b10 m10 (Q10.mono (by decide));have Q12:FnOk l.prog w K mg base CX0 4 f12 _ ["thing"] Kt:=Um F12 T k8 b8 m8 (Q8.mono (by decide)) k7 b7 m7 (Q7.mono (by decide));have Q13:FnOk l.prog w K mg base CX0 3 f13 _ ["thing","most"] Ku:=Td F13 T k6 b6 m6 (Q6.mono (by decide));have Q14:FnOk l.prog w K mg base CX0 6 f14 _ ["many","ahead","there","thing"] La:=Ue F14 T k11 b11 m11 (Q11.mono (by decide)) k12 b12 m12 (Q12.mono (by decide));have Q15:FnOk l.prog w K mg base CX0 7 f15 _ ["thing"] K4:=Sx F15 T k13 b13 m13 (Q13.mono (by decide)) k14 b14 m14 (Q14.mono (by decide));have Q16:FnOk l.prog w K mg base CX0 1 f16 _ ["history","moment"] Er:=Nu F16 T;have Q17:FnOk l.prog w K mg base CX0 1 f17 _ ["history","n"] Fq:=Qc F17 T;have Q18:FnOk l.prog w K mg base CX0 2 f18 _ ["history","moment"] Jj:=P6 F18 T k17 b17 m17 (Q17.mono (by decide)) k16 b16 m16 (Q16.mono (by decide));have Q19:FnOk l.prog w K mg base CX0 1 f19 _ ["_law_script","_law_k"] (Nj K):=Vi F19 T;have Q20:FnOk l.prog w K mg base CX0 2 f20 _ ["_law_script","_law_k"] (N4 K):=Vd F20 T k19 b19 m19 (Q19.mono (by decide));have Q21:FnOk l.prog w K mg base CX0 1 f21 _ ["_law_deck_here","_law_most"] Ee:=Vq F21 T;have Q22:FnOk l.prog w K mg base CX0 2 f22 _ ["_law_deck_here","_law_many_here"] Lg:=Tj F22 T k21 b21 m21 (Q21.mono (by decide));have Q23:FnOk l.prog w K mg base CX0 2 f23 _ ["_law_deck_here"] M8:=V6 F23 T k21 b21 m21 (Q21.mono (by decide));have Q24:FnOk l.prog w K mg base CX0 2 f24 _ ["_law_deck_here"] Ip:=P3 F24 T k21 b21 m21 (Q21.mono (by decide));have Q25:FnOk l.prog w K mg base CX0 3 f25 _ ["_law_deck_here","_law_many_here","_law_there","_law_free","_law_lined"] Nz:=Vs F25 T k21 b21 m21 (Q21.mono (by decide)) k24 b24 m24 (Q24.mono (by decide));have Q26:FnOk l.prog w K mg base CX0 2 f26 _ ["_law_deck_here"] Tx:=Xq F26 T k21 b21 m21 (Q21.mono (by decide));have Q27:FnOk l.prog w K mg base CX0 4 f27 _ ["_law_deck_here","_law_most"] Gd:=N6 F27 T k21 b21 m21 (Q21.mono (by decide)) k22 b22 m22 (Q22.mono (by decide)) k23 b23 m23 (Q23.mono (by decide)) k26 b26 m26 (Q26.mono (by decide)) k25 b25 m25 (Q25.mono (by decide));have Q28:FnOk l.prog w K mg base CX0 1 f28 _ ["_law_name"] Jm:=Qf F28 T;have Q29:FnOk l.prog w K mg base CX0 2 f29 _ ["_law_history_here","_law_step"] I0:=P1 F29 T k28 b28 m28 (Q28.mono (by decide));have Q30:FnOk l.prog w K mg base CX0 1 f30 _ ["_law_many_here","_law_parts"] Nl:=V3 F30 T;have Q31:FnOk l.prog w K mg base CX0 1 f31 _ ["_law_parts","_law_one","_law_other"] Nq:=U3 F31 T;have Q32:FnOk l.prog w K mg base CX0 2 f32 _ ["_law_deed","_law_tie_here","_law_ahead","_law_behind"] K9:=Tr F32 T k31 b31 m31 (Q31.mono (by decide));have Q33:FnOk l.prog w K mg base CX0 5 f33 _ ["_law_many_here","_law_stand","_law_parts","_law_place","_law_others"] Kw:=Ut F33 T k2 b2 m2 (Q2.mono (by decide)) k3 b3 m3 (Q3.mono (by decide))
 exact Xb F34 T k20 b20 m20 (Q20.mono (by decide)) k27 b27 m27 (Q27.mono (by decide)) k21 b21 m21 (Q21.mono (by decide)) k29 b29 m29 (Q29.mono (by decide)) k4 b4 m4 (Q4.mono (by decide)) k17 b17 m17 (Q17.mono (by decide)) k30 b30 m30 (Q30.mono (by decide)) k32 b32 m32 (Q32.mono (by decide)) k15 b15 m15 (Q15.mono (by decide)) k33 b33 m33 (Q33.mono (by decide)) k18 b18 m18 (Q18.mono (by decide)) k16 b16 m16 (Q16.mono (by decide))
theorem walk{l:PySem.W.OpenLaw}{q:Program}{loose:List Str}{XP:(Str->Option Value)->Heap->Prop}{YP:World->Heap->Prop}{d:DefRec}{K:Params->Frag}(hn:l.most=some 63)(hdf:d.params.defaults=[])(hY:∀(w:World) (h:Heap),YP w h->(K w.params).In h)(F:∀(w:World) (mg:Str->Option Value) (fa:Addr) (h:Heap),(K w.params).In h->h.Ns mainGlobals mg->mg d.name=some (.ref fa)->
   ∃fd:FuncData,(∀(s:Shared) (u:Value),BindsTo s fd ⟨[u],[]⟩ [("_law_script",u)])/\∀base:Heap,(K w.params).In base->base.Ns mainGlobals mg->FnOk l.prog w (K w.params) mg base CX0 8 fa fd ["_law_script"] (Po (K w.params))):
  PySem.W.WalkO q loose XP YP l.row.toRowW d [] (λf vs=>PySem.call f vs):=
 L2.walk_of (n:=63) (k:=8) (x:="_law_script") (CX:=λ_=>CX0) (sp:=λw=>Po (K w.params)) hn (by decide) hdf ⟨rfl,by decide,by decide,rfl⟩ hY F (λ_ _ a ns hl _ hS=>⟨a,ns,rfl,hS,hl,λ_=>rfl⟩) λ_ _ _ _ _ z=>z
end K08
namespace PySem.W.Fast
def tw15843065231473469064:=0
def tw9171029967146326411:=0
def tw13907817028368356813:=0
def tw4782561675501740510:=0
def tw1133152035665736395:=0
def tw8144848960637149385:=0
def tw8719153515666971079:=0
def tw16103526871470575479:=0
def tw3856276514404720185:=0
def tw830892718967135088:=0
def tw6987686994356266557:=0
def tw6542054260424750851:=0
def tw3136582898950205745:=0
def tw6247131877198247528:=0
def tw16713477376933784845:=0
def tw2107614031472686961:=0
def tw6551045421785863108:=0
def tw4567404862600196361:=0
def tw2019438534403117813:=0
def tw2692764936792299165:=0
def tw18001105634099769018:=0
def tw12948018582209277446:=0
def tw5962976063487678634:=0
def tw14642725904348659409:=0
def tw6972752598053690859:=0
def tw16115970420066418264:=0
def tw4860869777319332806:=0
def tw12362559748422127389:=0
def tw5941614300605375228:=0
def tw4645404965500771707:=0
def tw16977813898343231332:=0
def tw11416013564151412778:=0
def tw5123608497765231303:=0
def tw14593146841494361386:=0
def tw8942782675681074929:=0
def tw16455969457456021920:=0
def tw15720107031268533083:=0
def tw7237240015087477300:=0
def tw15652430374006459162:=0
def tw15130584608239676331:=0
def tw14543589886171233884:=0
def tw10969982523292075448:=0
def tw3093598654113722870:=0
def tw2658016612971846238:=0
def tw15694610004056520122:=0
def tw16846798317047817340:=0
def tw15408285580297232933:=0
def tw10816720184427854951:=0
def tw14341335828862236811:=0
def tw12186433643395355071:=0
def tw6275634092136210838:=0
def tw17170687460278174809:=0
def tw2540505556691094392:=0
def tw10301717562766343961:=0
def tw18051160203396442047:=0
def tw8782662651311114668:=0
def tw17656282770140975831:=0
def tw1030416702290688197:=0
def tw14576631413537806026:=0
def tw13184524857967511156:=0
def tw5591727881901489199:=0
def tw6212119865759362722:=0
def tw112375797874703654:=0
def tw9664801150068607030:=0
def tw17627528992827631867:=0
def tw7536048291755264049:=0
def tw7512404342522264307:=0
def tw2026493028225787716:=0
def tw11949792498167714990:=0
def tw6195264702167676648:=0
def tw6492734803100619237:=0
def tw6167630248581176094:=0
def tw2527393683660067036:=0
def tw13994497787482135932:=0
def tw5743413746592964138:=0
def tw16046611742587695997:=0
def tw13220060707834115989:=0
def tw3180845788183679962:=0
def tw6360266474299310911:=0
def tw4086308158147282702:=0
def tw975017641405632239:=0
def tw16559386988898588191:=0
def tw12595805126835533762:=0
def tw15266394509036592496:=0
def tw13105649385241531261:=0
def tw4836625957872239840:=0
def tw12864795457173821867:=0
def tw2176447299220566485:=0
def tw1680869050906827411:=0
def tw9577816776574285668:=0
def tw14025910640516408316:=0
def tw2983592411575214603:=0
def tw13412473702612036104:=0
def tw17664872918783422736:=0
def tw5539649350918325725:=0
def tw4951260948470737403:=0
def tw7142295461218792934:=0
def tw15935335637807686677:=0
def tw16923797330715317297:=0
def tw9161565345318536499:=0
def tw13555191021289657067:=0
def tw9080295417917452651:=0
def tw7065288557950179184:=0
def tw3041938616087830013:=0
def tw10278525364571515642:=0
def tw17244906297881705624:=0
def tw3164517802250352896:=0
def tw12519213895895197298:=0
def tw14116145714155942071:=0
def tw2527710120474161841:=0
def tw9067184708692304657:=0
def tw6382316123292013770:=0
def tw18273915874303216455:=0
def tw3388026273926247720:=0
def tw15342164145027992932:=0
def tw3986203235057424756:=0
def tw11431334566011482421:=0
def tw8905709012559396641:=0
def tw8849338068697382290:=0
def tw17698109683742082159:=0
def tw16761890024165682683:=0
def tw1803163963601641714:=0
def tw11914830809464218824:=0
def tw7071961467909976764:=0
def tw5020600489241775489:=0
def tw1760776033018254252:=0
def tw6432651879675524780:=0
def tw3420195812662209431:=0
def tw1433402257807798069:=0
def tw6170611386695638204:=0
def tw4107466213443191453:=0
def tw3067540380294072769:=0
def tw16152157902967586333:=0
def tw9056030271059120004:=0
def tw10252328992260032299:=0
def tw12454309392862142740:=0
def tw1320801931578947336:=0
def tw11269304830590429062:=0
def tw14533854795109779831:=0
def tw14370301408360821464:=0
def tw5978165970870371341:=0
def tw2456518149884527171:=0
def tw478844918742980973:=0
def tw2128231275530549821:=0
def tw10290374763804875012:=0
def tw7352828304953766942:=0
def tw6332653533473600463:=0
def tw2531036833539232193:=0
def tw1182174517560192707:=0
def tw11190361734378234133:=0
end PySem.W.Fast
open PySem PySem.W PyProof.Rows
set_option maxRecDepth 100000 in
set_option maxHeartbeats 0 in
theorem PySem.Challenge.cw_joinedever_k08_whole_deeds_and_parts_holds : PySem.Challenge.rw_joinedever_k08_whole_deeds_and_parts.Holds := by
 w_on;o_law;k_head;(case hw=>w_witness2)
 k_fill
 refine K08.walk (l:=PySem.Challenge.rw_joinedever_k08_whole_deeds_and_parts) rfl rfl (fun w h Y=>PySem.W.kIn_of Y) ?F
 case F=>
  intro w mg fa h KX G hmg
  refine' K08.all_mk KX G hmg ?a0 ?l0 ?c0 ?k0 ?a1 ?l1 ?c1 ?k1 ?a2 ?l2 ?c2 ?k2 ?a3 ?l3 ?c3 ?k3 ?a4 ?l4 ?c4 ?k4 ?a5 ?l5 ?c5 ?k5 ?a6 ?l6 ?c6 ?k6 ?a7 ?l7 ?c7 ?k7 ?a8 ?l8 ?c8 ?k8 ?a9 ?l9 ?c9 ?k9 ?a10 ?l10 ?c10 ?k10 ?a11 ?l11 ?c11 ?k11 ?a12 ?l12 ?c12 ?k12 ?a13 ?l13 ?c13 ?k13 ?a14 ?l14 ?c14 ?k14 ?a15 ?l15 ?c15 ?k15 ?a16 ?l16 ?c16 ?k16 ?a17 ?l17 ?c17 ?k17 ?a18 ?l18 ?c18 ?k18 ?a19 ?l19 ?c19 ?k19 ?a20 ?l20 ?c20 ?k20 ?a21 ?l21 ?c21 ?k21 ?a22 ?l22 ?c22 ?k22 ?a23 ?l23 ?c23 ?k23 ?a24 ?l24 ?c24 ?k24 ?a25 ?l25 ?c25 ?k25 ?a26 ?l26 ?c26 ?k26 ?a27 ?l27 ?c27 ?k27 ?a28 ?l28 ?c28 ?k28 ?a29 ?l29 ?c29 ?k29 ?a30 ?l30 ?c30 ?k30 ?a31 ?l31 ?c31 ?k31 ?a32 ?l32 ?c32 ?k32 ?a33 ?l33 ?c33 ?k33 ?a34 ?l34 ?c34 ?k34 ?i0 ?i1 ?i2 ?i3 ?z0 ?z1 ?z2 ?z3 ?z4 ?z5 ?z6 ?z7 ?z8 ?z9 ?z10 ?z11 ?z12 ?z13
  (case a0|l0|c0|k0|a1|l1|c1|k1|a2|l2|c2|k2|a3|l3|c3|k3|a4|l4|c4|k4|a5|l5|c5|k5|a6|l6|c6|k6|a7|l7|c7|k7|a8|l8|c8|k8|a9|l9|c9|k9|a10|l10|c10|k10|a11|l11|c11|k11|a12|l12|c12|k12|a13|l13|c13|k13|a14|l14|c14|k14|a15|l15|c15|k15|a16|l16|c16|k16|a17|l17|c17|k17|a18|l18|c18|k18|a19|l19|c19|k19|a20|l20|c20|k20|a21|l21|c21|k21|a22|l22|c22|k22|a23|l23|c23|k23|a24|l24|c24|k24|a25|l25|c25|k25|a26|l26|c26|k26|a27|l27|c27|k27|a28|l28|c28|k28|a29|l29|c29|k29|a30|l30|c30|k30|a31|l31|c31|k31|a32|l32|c32|k32|a33|l33|c33|k33|a34|l34|c34|k34|i0|i1|i2|i3|z0|z1|z2|z3|z4|z5|z6|z7|z8|z9|z10|z11|z12|z13=>k_is)

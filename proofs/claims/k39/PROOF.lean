import PyProof.Rows.All
import Wide.All
import OpenK.AllK
import Wide.FinOn
import Lean
import PyProof.EqAt
import PyProof.EqKinds
import PyProof.TupleCall
import PySem.Challenge.RW_joinedever_k39_papers_of_any_hand
import PyProof.Draws
import PyProof.ZipIter
import PyProof.TupleIter
import PyProof.ListRange
import PyProof.CollectWalk
import KE.KSortTup
import KE.KDictSum
import PyProof.Rows.Range3
import KE.KEqDict
import KE.KRevIter
import PyProof.EnumStmt
import PyProof.CallStr
import PyProof.ReprLen
import PyProof.StrLawsRepr
import Flt.Len
set_option Elab.async false
set_option linter.all false
set_option maxRecDepth 100000
set_option maxHeartbeats 4000000
namespace L2
open PySem PySem.Spec PyProof.Rows
abbrev Key:=Sum Int Str
def keyIs:Key->Value->Bool
 | .inl k,v=>Value.isInt k v
 | .inr x,v=>Value.isStrOf x v
def keyH(w:World):Key->Int
 | .inl k=>hashInt k
 | .inr x=>hashStr w x
theorem Bg:∀{k:Key} {v:Value},keyIs k v=true->(∃i t,k=Sum.inl i/\v=Value.int i t)\/(∃x t,k=Sum.inr x/\v=Value.str x t)
 | .inl i,v,h=>by
  obtain⟨t,e⟩:=Value.isInt_shape (k:=i) (v:=v) h;exact .inl ⟨i,t,rfl,e⟩
 | .inr x,v,h=>by
  obtain⟨t,e⟩:=Value.isStrOf_shape (x:=x) (v:=v) h;exact .inr ⟨x,t,rfl,e⟩
theorem keyIs_int(i:Int)(t:Tok):keyIs (.inl i) (.int i t)=true:=by simp[keyIs,Value.isInt]
theorem keyIs_str(x:Str)(t:Tok):keyIs (.inr x) (.str x t)=true:=by simp[keyIs,Value.isStrOf]
theorem key_ll(a b:Int):decide ((Sum.inl a:Key)=Sum.inl b)=(a==b):=by
 by_cases e:a=b
 ·subst e;simp
 ·have h:¬(Sum.inl a:Key)=Sum.inl b:=λq=>e (Sum.inl.inj q);rw[decide_eq_false h];exact(beq_eq_false_iff_ne.mpr e).symm
theorem key_rr(a b:Str):decide ((Sum.inr a:Key)=Sum.inr b)=decide (a=b):=by
 by_cases e:a=b
 ·subst e;simp
 ·have h:¬(Sum.inr a:Key)=Sum.inr b:=λq=>e (Sum.inr.inj q);rw[decide_eq_false h,decide_eq_false e]
theorem key_lr(a:Int)(b:Str):decide ((Sum.inl a:Key)=Sum.inr b)=false:=decide_eq_false (λq=>nomatch q)
theorem key_rl(a:Str)(b:Int):decide ((Sum.inr a:Key)=Sum.inl b)=false:=decide_eq_false (λq=>nomatch q)
def Bl(prog:Program)(w:World):PySem.KeyKind prog w Key where
 is:=keyIs
 hash:=keyH w
 inj:=λv a b ha hb=>by
  rcases Bg ha with⟨i,t,rfl,rfl⟩|⟨x,t,rfl,rfl⟩
  ·rcases Bg hb with⟨j,u,rfl,e⟩|⟨y,u,rfl,e⟩
   ·injection e with e1 _;rw[e1]
   ·exact nomatch e
  ·rcases Bg hb with⟨j,u,rfl,e⟩|⟨y,u,rfl,e⟩
   ·exact nomatch e
   ·injection e with e1 _;rw[e1]
 byValue:=λk v h=>by
  rcases Bg h with⟨i,t,rfl,rfl⟩|⟨x,t,rfl,rfl⟩<;> rfl
 pyHash:=λhv h=>by
  rcases Bg hv with⟨i,t,rfl,rfl⟩|⟨x,t,rfl,rfl⟩
  ·exact wpAny_pyHash_int h
  ·exact wpAny_pyHash_str h
 eqBool:=λhu hv h=>by
  rcases Bg hu with⟨i,t,rfl,rfl⟩|⟨x,t,rfl,rfl⟩
  ·rcases Bg hv with⟨j,u,rfl,rfl⟩|⟨y,u,rfl,rfl⟩
   ·rw[key_ll] at h;exact wpAny_eqBool_int h
   ·rw[key_lr] at h;exact SeqAt.EqAt.int_str i t y u _ _ _ _ h
  ·rcases Bg hv with⟨j,u,rfl,rfl⟩|⟨y,u,rfl,rfl⟩
   ·rw[key_rl] at h;exact SeqAt.EqAt.str_int x t j u _ _ _ _ h
   ·rw[key_rr] at h;exact wpAny_eqBool_str h
 «strs» :=λk x t v h=>by
  rcases Bg h with⟨i,u,rfl,e⟩|⟨y,u,rfl,e⟩
  ·exact nomatch e
  ·injection e with e1 _;subst e1;cases v<;> rfl
theorem mixKind_int(prog:Program)(w:World)(i:Int)(t:Tok):(Bl prog w).is (.inl i) (.int i t)=true:=keyIs_int i t
theorem mixKind_str(prog:Program)(w:World)(x:Str)(t:Tok):(Bl prog w).is (.inr x) (.str x t)=true:=keyIs_str x t
end L2
namespace L2
open PySem PySem.Spec PyProof.Rows
inductive V where
 |non|bl (b:Bool)|int (i:Int)|str (x:Str)|byt (b:Array UInt8)|flt (b:UInt64)|ref (a:Addr)|ty (n:String)
 deriving DecidableEq
def RelV:V->Value->Prop
 | .non,u=>u=Value.none
 | .bl b,u=>u=Value.bool b
 | .int i,u=>∃t,u=Value.int i t
 | .str x,u=>∃t,u=Value.str x t
 | .byt b,u=>∃t,u=Value.bytes b t
 | .flt b,u=>∃t,u=Value.float b t
 | .ref a,u=>u=Value.ref a
 | .ty n,u=>u=Value.type n
abbrev Vals:List V->List Value->Prop:=Paired RelV
theorem Vals.length{xs:List V}{us:List Value}(r:Vals xs us):xs.length=us.length:=Paired.length r
theorem Vals.get:∀{xs:List V} {us:List Value} {i:Nat} {x:V},Vals xs us->xs[i]? =some x->∃u,us[i]? =some u/\RelV x u
 |_,_,_,_,.nil,e=>by simp at e
 |_,_,0,_,.cons r _,e=>by simp at e;subst e;exact⟨_,rfl,r⟩
 |_,_,i+1,x,.cons _ t,e=>by
  obtain⟨u,h1,h2⟩:=Vals.get (i:=i) (x:=x) t (by simpa using e);exact⟨u,by simpa using h1,h2⟩
theorem Vals.set{x:V}{u:Value}(r:RelV x u):∀{xs:List V} {us:List Value} (i:Nat),Vals xs us->Vals (xs.set i x) (us.set i u)
 |_,_,_,.nil=> .nil
 |_,_,0,.cons _ t=> .cons r t
 |_,_,i+1,.cons q t=> .cons q (Vals.set r i t)
theorem Vals.append:∀{xs ys:List V} {us ws:List Value},Vals xs us->Vals ys ws->Vals (xs++ys) (us++ws)
 |_,_,_,_,.nil,s=>s
 |_,_,_,_,.cons r t,s=> .cons r (Vals.append t s)
theorem Vals.take:∀{xs:List V} {us:List Value} (n:Nat),Vals xs us->Vals (xs.take n) (us.take n)
 |_,_,0,_=> .nil
 |_,_,_+1,.nil=> .nil
 |_,_,n+1,.cons r t=> .cons r (Vals.take n t)
theorem Vals.drop:∀{xs:List V} {us:List Value} (n:Nat),Vals xs us->Vals (xs.drop n) (us.drop n)
 |_,_,0,r=>r
 |_,_,_+1,.nil=> .nil
 |_,_,n+1,.cons _ t=>Vals.drop n t
def RelO:Option V->Option Value->Prop
 |some v,some u=>RelV v u
 |none,none=>True
 |_,_=>False
def KV{κ:Type}:List (κ×V)->List (κ×Value)->Prop:=Paired λ(p:κ×V) (q:κ×Value)=>p.1=q.1/\RelV p.2 q.2
def kV:Key->V
 | .inl i=> .int i
 | .inr x=> .str x
inductive HO where
 |lst (xs:List V)
 |tup (xs:List V)
 |dK (kvs:List (Key×V))|dT (kvs:List (List Key×V))
 |set (S:Int->Bool) (n:Nat)
 |ins (C dx:Addr) (fs:List (Str×V))
 |own (x:Addr)
 |xd (fs:List (Str×V))
 |met (f x:Addr)
 |rng (lo hi:Int)
 |frz (o:Obj) (u:HO)
 |tbl (ps:Array Value)
 |ext (φ:Heap->Prop)
abbrev Hp:=Addr->Option HO
def upd(H:Hp)(a:Addr)(o:HO):Hp:=λb=>if b=a then some o else H b
theorem Ab{H:Hp}{a:Addr}{o:HO}:upd H a o a=some o:=by unfold upd;rw[if_pos rfl]
theorem Aj{H:Hp}{a b:Addr}{o:HO}(h:b≠a):upd H a o b=H b:=by unfold upd;rw[if_neg h]
theorem upd_upd{H:Hp}{a:Addr}{o u:HO}:upd (upd H a o) a u=upd H a u:=by
 funext b;unfold upd;split<;> rfl
theorem Cr{H:Hp}{a b:Addr}{o u:HO}(h:H a=some o)(h':H b=some u)(d:o≠u):a≠b:=by
 intro e;subst e;rw[h] at h';exact d (Option.some.inj h')
theorem An{H:Hp}{a b:Addr}{o:HO}(h:H a=some o)(h':H b=none):a≠b:=by
 intro e;subst e;rw[h] at h';cases h'
def IsTupN(h:Heap)(a:Addr)(items:Array Value):Prop:=∃o,h.get? a=some o/\o.cls= .type "tuple"/\o.dict=none/\∃n,o.data= .seq items n
theorem IsTupN.new(h:Heap)(items:Array Value):IsTupN (h.push {cls:= .type "tuple",data:= .seq items}) h.objs.size items:=⟨_,Heap.get?_push_size _ rfl,rfl,rfl,_,rfl⟩
theorem IsTupN.tup{h:Heap}{a:Addr}{items:Array Value}(x:IsTupN h a items):IsTup h a items:=let ⟨o,e,c,_,n,d⟩:=x;⟨o,e,c,n,d⟩
section
variable(P:Program)(w:World)
def ObjOk(H:Hp)(h:Heap)(a:Addr):HO->Prop
 | .lst xs=>xs.length<=sizeLine/\∃(its:List Value) (n:Nat),Vals xs its/\h.get? a=some {cls:= .type "list",data:= .seq its.toArray n}
 | .tup xs=>xs.length<=sizeLine/\∃its:List Value,Vals xs its/\IsTupN h a its.toArray
 | .dK kvs=>kvs.length<=sizeLine/\(a==sysModules)=false/\∃vs,KV kvs vs/\h.DictOf (Bl P w) a vs
 | .dT kvs=>kvs.length<=sizeLine/\(a==sysModules)=false/\∃xs:List (List Key×Addr×Value),
   Paired (λ(p:List Key×V) (q:List Key×Addr×Value)=>p.1=q.1/\H q.2.1=some (.tup (p.1.map kV))/\RelV p.2 q.2.2) kvs xs/\
   ∃o es ep,h.get? a=some o/\o.ExactDict/\o.data= .dict es ep/\es.toList=xs.map (entryOfKey (tupleKind (Bl P w)))/\(xs.map (·.1)).Nodup
 | .set S n=>h.SetOf (intKind P w) a S n
 | .ins C dx fs=>H dx=some (.own a)/\fs.length<=1000/\dx≠a/\h.get? a=some (PySem.W.instObj C dx)/\
   ∃mA,h.Ns1 dx mA/\(∀f,RelO (fs.lookup f) (mA f))/\PySem.Within mA (fs.map (·.1))
 | .own _=>∃o,h.get? a=some o
 | .xd fs=>∃mA,h.Ns1 a mA/\∀f,RelO (fs.lookup f) (mA f)
 | .rng lo hi=>∃t u v,h.get? a=some {cls:= .type "range",data:= .fields #[.int lo t,.int hi u,.int 1 v]}
 | .frz o u=>h.get? a=some o/\ObjOk H h a u
 | .tbl ps=>h.get? a=some {cls:= .none,data:= .fields ps}
 | .met f x=>h.get? a=some (PySem.W.methodObj (.ref f) (.ref x))
 | .ext φ=>φ h/\(∃o,h.get? a=some o)/\∀h1 h2:Heap,φ h1->(∀o,h1.get? a=some o->h2.get? a=some o)->φ h2
def HOk(H:Hp)(h:Heap):Prop:=∀a o,H a=some o->ObjOk P w H h a o
end
section
variable{P:Program}{w:World}{H H':Hp}{h h':Heap}{a:Addr}{o:HO}
theorem ObjOk.lt(x:ObjOk P w H h a o):a<h.objs.size:=by
 cases o with
 |lst xs=>obtain⟨_,_,_,_,e⟩:=x;exact Heap.lt_size e
 |tup xs=>obtain⟨_,_,_,p⟩:=x;exact p.tup.lt
 |dK kvs=>obtain⟨_,_,_,_,o,_,_,e,_⟩:=x;exact Heap.lt_size e
 |dT kvs=>obtain⟨_,_,_,_,o,_,_,e,_⟩:=x;exact Heap.lt_size e
 |set S n=>obtain⟨o,_,_,_,e,_⟩:=x;exact Heap.lt_size e
 |ins C dx fs=>obtain⟨_,_,_,e,_⟩:=x;exact Heap.lt_size e
 |own y=>obtain⟨_,e⟩:=x;exact Heap.lt_size e
 |xd fs=>obtain⟨_,⟨_,_,_,e,_⟩,_⟩:=x;exact Heap.lt_size e
 |rng lo hi=>obtain⟨_,_,_,e⟩:=x;exact Heap.lt_size e
 |frz ob u=>obtain⟨e,_⟩:=x;exact Heap.lt_size e
 |tbl ps=>exact Heap.lt_size (show h.get? a=some _ from x)
 |met f y=>exact Heap.lt_size (show h.get? a=some _ from x)
 |ext φ=>obtain⟨_,⟨_,e⟩,_⟩:=x;exact Heap.lt_size e
theorem Paired.mapP{α β:Type}{F G:α->β->Prop}:∀{l₁:List α} {l₂:List β},Paired F l₁ l₂->(∀a b,F a b->G a b)->Paired G l₁ l₂
 |_,_,.nil,_=> .nil
 |_,_,.cons r t,f=> .cons (f _ _ r) (Paired.mapP t f)
theorem ObjOk.stay(x:ObjOk P w H h a o)(k:∀b u,(b=a\/H b=some (.own a))->h.get? b=some u->h'.get? b=some u)(ho:∀b,H b=some (.own a)->H' b=some (.own a))(ht:∀b xs,H b=some (.tup xs)->H' b=some (.tup xs)):ObjOk P w H' h' a o:=by
 induction o with
 |lst xs=>obtain⟨z,its,n,r,e⟩:=x;exact⟨z,its,n,r,k _ _ (.inl rfl) e⟩
 |tup xs=>obtain⟨z,its,r,ob,e,c⟩:=x;exact⟨z,its,r,ob,k _ _ (.inl rfl) e,c⟩
 |dK kvs=>obtain⟨z,y,vs,r,ob,es,ep,e,c⟩:=x;exact⟨z,y,vs,r,ob,es,ep,k _ _ (.inl rfl) e,c⟩
 |dT kvs=>
  obtain⟨z,y,xs,r,ob,es,ep,e,c⟩:=x;exact⟨z,y,xs,Paired.mapP r λp q z=>⟨z.1,ht _ _ z.2.1,z.2.2⟩,ob,es,ep,k _ _ (.inl rfl) e,c⟩
 |set S n=>obtain⟨ob,es,ep,t,e,c⟩:=x;exact⟨ob,es,ep,t,k _ _ (.inl rfl) e,c⟩
 |ins C dx fs=>
  obtain⟨d,z,ne,e,mA,⟨od,es,ep,e2,c⟩,r⟩:=x;exact⟨ho _ d,z,ne,k _ _ (.inl rfl) e,mA,⟨od,es,ep,k _ _ (.inr d) e2,c⟩,r⟩
 |own y=>obtain⟨ob,e⟩:=x;exact⟨ob,k _ _ (.inl rfl) e⟩
 |xd fs=>obtain⟨mA,⟨od,es,ep,e,c⟩,r⟩:=x;exact⟨mA,⟨od,es,ep,k _ _ (.inl rfl) e,c⟩,r⟩
 |rng lo hi=>obtain⟨t,u,v,e⟩:=x;exact⟨t,u,v,k _ _ (.inl rfl) e⟩
 |frz ob u ih=>obtain⟨e,q⟩:=x;exact⟨k _ _ (.inl rfl) e,ih q⟩
 |tbl ps=>
  have e:h.get? a=some {cls:= .none,data:= .fields ps}:=x;show h'.get? a=some {cls:= .none,data:= .fields ps};exact k a _ (.inl rfl) e
 |met f y=>
  have e:h.get? a=some (PySem.W.methodObj (.ref f) (.ref y)):=x;show h'.get? a=some (PySem.W.methodObj (.ref f) (.ref y));exact k a _ (.inl rfl) e
 |ext φ=>obtain⟨p,⟨o,e⟩,st⟩:=x;exact⟨st _ _ p λo q=>k _ _ (.inl rfl) q,⟨o,k _ _ (.inl rfl) e⟩,st⟩
theorem HOk.lt(x:HOk P w H h)(e:H a=some o):a<h.objs.size:=(x a o e).lt
theorem HOk.fresh(x:HOk P w H h)(e:h.objs.size<=a):H a=none:=by
 cases q:H a with
 |none=>rfl
 |some u=>exact absurd (Nat.lt_of_lt_of_le (x.lt q) e) (Nat.lt_irrefl _)
theorem HOk.kept(x:HOk P w H h)(k:∀b u,h.get? b=some u->h'.get? b=some u):HOk P w H h':=λa o e=>
 (x a o e).stay (λb u _ q=>k b u q) (λ_ q=>q) λ_ _ q=>q
theorem HOk.laid(x:HOk P w H h)(k:∀b u,h.get? b=some u->h'.get? b=some u)(hp:h.objs.size<=a)(new:ObjOk P w (upd H a o) h' a o):HOk P w (upd H a o) h':=λb u e=>by
 have hn:=x.fresh hp;by_cases hb:b=a
 ·subst hb;rw[Ab] at e;cases e;exact new
 ·rw[Aj hb] at e;exact(x b u e).stay (λc v _ q=>k c v q) (λc q=>by rw[Aj (An q hn)];exact q) λc xs q=>by rw[Aj (An q hn)];exact q
end
def Rd(H:Hp)(a:Addr)(u:HO):Prop:=H a=some u\/∃o,H a=some (.frz o u)
theorem Rd.of{H:Hp}{a:Addr}{u:HO}(h:H a=some u):Rd H a u:= .inl h
theorem Rd.ok{P:Program}{w:World}{H:Hp}{h:Heap}{a:Addr}{u:HO}(r:Rd H a u)(x:HOk P w H h):ObjOk P w H h a u:=by
 rcases r with r|⟨o,r⟩
 ·exact x a u r
 ·obtain⟨_,q⟩:=x a _ r;exact q
def Mut:Option HO->Prop
 |some (.lst _)=>True
 |some (.dK _)=>True
 |some (.dT _)=>True
 |some (.set _ _)=>True
 |some (.ins _ _ _)=>True
 |some (.ext _)=>True
 |_=>False
section
variable{P:Program}{w:World}{H:Hp}{h h':Heap}{x e:Addr}{o':HO}
theorem HOk.write(ok:HOk P w H h)(mu:Mut (H x))(he:e=x\/H e=some (.own x))(k:∀b u,b≠e->h.get? b=some u->h'.get? b=some u)(heo:∃u,h'.get? e=some u)(new:ObjOk P w (upd H x o') h' x o'):HOk P w (upd H x o') h':=λb u q=>by
 have nown:∀c y,H c=some (.own y)->c≠x:=λc y r z=>by subst z;rw[r] at mu;exact mu
 have ntup:∀c xs,H c=some (.tup xs)->c≠x:=λc xs r z=>by subst z;rw[r] at mu;exact mu
 by_cases hb:b=x
 ·subst hb;rw[Ab] at q;cases q;exact new
 ·rw[Aj hb] at q;by_cases hbe:b=e
  ·have q':H b=some (.own x):=by
    rcases he with z|z
    ·exact absurd (hbe.trans z) hb
    ·rw[hbe];exact z
   rw[q] at q';cases q';obtain⟨v,hv⟩:=heo;exact⟨v,by rw[hbe];exact hv⟩
  ·refine(ok b u q).stay (λc v hc r=>k c v ?_ r) (λc r=>by rw[Aj (nown c b r)];exact r) λc xs r=>by rw[Aj (ntup c xs r)];exact r
   rcases hc with rfl|hc
   ·exact hbe
   ·rintro rfl;rcases he with z|z
    ·exact nown c b hc z
    ·rw[hc] at z;cases z;exact hb rfl
end
structure Un(fs ex:List Addr)(H H':Hp)(h h':Heap):Prop where
 keep:∀b o,h.get? b=some o->H b=none->b ∉ fs->b ∉ ex->h'.get? b=some o
 slot:∀b o,h.get? b=some o->H b=none->b∈fs->b ∉ ex->∃sl,h'.get? b=some {o with slots:=sl}
 free:∀b o,h.get? b=some o->H b=none->b ∉ ex->H' b=none
 there:∀b o,h.get? b=some o->b ∉ ex->∃o',h'.get? b=some o'
 tups:∀b xs,H b=some (.tup xs)->H' b=some (.tup xs)
 frzs:∀b o u,H b=some (.frz o u)->H' b=some (.frz o u)
 tbls:∀b ps,H b=some (.tbl ps)->∃more,H' b=some (.tbl (ps++more))
section
variable{fs fs' ex ex':List Addr}{H H1 H2:Hp}{h h1 h2 h':Heap}{a x e:Addr}{o:HO}
theorem Un.any(u:Un fs ex H H1 h h1){b:Addr}{ob:Obj}(q:h.get? b=some ob)(n:H b=none)(hx:b ∉ ex):∃sl,h1.get? b=some {ob with slots:=sl}:=by
 by_cases hb:b∈fs
 ·exact u.slot b ob q n hb hx
 ·exact⟨ob.slots,u.keep b ob q n hb hx⟩
theorem Un.kept(k:∀b u,h.get? b=some u->h'.get? b=some u):Un fs ex H H h h':=
 ⟨λb ob q _ _ _=>k b ob q,λb ob q _ _ _=>⟨ob.slots,k b ob q⟩,λ_ _ _ n _=>n,λb ob q _=>⟨ob,k b ob q⟩,λ_ _ q=>q,λ_ _ _ q=>q,λ_ ps q=>⟨#[],by rw[q];simp⟩⟩
theorem Un.refl:Un fs ex H H h h:=Un.kept λ_ _ q=>q
theorem Un.laid(k:∀b u,h.get? b=some u->h'.get? b=some u)(hp:h.objs.size<=a)(hn:H a=none):Un fs ex H (upd H a o) h h' where
 keep:=λb u q _ _ _=>k b u q
 slot:=λb u q _ _ _=>⟨u.slots,k b u q⟩
 free:=λb u q n _=>by rw[Aj (Nat.ne_of_lt (Nat.lt_of_lt_of_le (Heap.lt_size q) hp))];exact n
 there:=λb u q _=>⟨u,k b u q⟩
 tups:=λb xs q=>by rw[Aj (An q hn)];exact q
 frzs:=λb u xs q=>by rw[Aj (An q hn)];exact q
 tbls:=λb ps q=>⟨#[],by rw[Aj (An q hn),q];simp⟩
theorem Un.write(mu:Mut (H x))(he:e=x\/H e=some (.own x))(k:∀b u,b≠e->h.get? b=some u->h'.get? b=some u)(heo:∃u,h'.get? e=some u):Un fs ex H (upd H x o) h h':=by
 have hx:∀b,H b=none->b≠x:=λb n z=>by subst z;rw[n] at mu;exact mu
 have hb:∀b,H b=none->b≠e:=λb n z=>by
  subst z;rcases he with r|r
  ·exact hx b n r
  ·rw[n] at r;cases r
 have hm:∀b u,H b=some u->¬Mut (some u)->b≠x:=λb u q nm z=>by subst z;rw[q] at mu;exact nm mu
 refine⟨λb u q n _ _=>k b u (hb b n) q,λb u q n _ _=>⟨u.slots,k b u (hb b n) q⟩,λb u q n _=>by rw[Aj (hx b n)];exact n,λb u q _=> ?_,
  λb xs q=>by rw[Aj (hm b _ q λz=>z)];exact q,λb u xs q=>by rw[Aj (hm b _ q λz=>z)];exact q,λb ps q=>⟨#[],by rw[Aj (hm b _ q λz=>z),q];simp⟩⟩
 by_cases hbe:b=e
 ·subst hbe;exact heo
 ·exact⟨u,k b u hbe q⟩
end
def trk(h:Heap)(H:Hp):List Addr:=(List.range h.objs.size).filter λa=>(H a).isSome
def hidT(h:Heap)(H:Hp):Heap:=PySem.W.hideAll h (trk h H)
theorem hidT_size(h:Heap)(H:Hp):(hidT h H).objs.size=h.objs.size:=PySem.W.hideAll_size _ _
theorem hidT_get{h:Heap}{H:Hp}{b:Addr}{o:Obj}(e:h.get? b=some o)(n:H b=none):(hidT h H).get? b=some o:=
 PySem.W.hideAll_get _ e λhm=>by
  have q:(H b).isSome=true:=(List.mem_filter.mp hm).2;rw[n] at q;simp at q
theorem of_hidT{h:Heap}{H:Hp}{b:Addr}{o:Obj}(e:(hidT h H).get? b=some o):h.get? b=some o/\H b=none:=by
 have e':h.get? b=some o:=PySem.W.of_hideAll (trk h H) e;refine⟨e',?_⟩;cases q:H b with
 |none=>rfl
 |some x=>
  have hm:b∈trk h H:=List.mem_filter.mpr ⟨List.mem_range.mpr (Heap.lt_size e'),by simp[q]⟩;have z:(hidT h H).get? b=none:=PySem.W.hideAll_none (trk h H) hm;rw[z] at e;cases e
end L2
namespace L2
open PySem PySem.Spec PyProof.Rows
structure Mod(K:PySem.W.Frag)(mg:Str->Option Value)(base:Heap):Prop where
 kin:K.In base
 glob:base.Ns mainGlobals mg
 blt:∃mb,base.Ns builtinsNs mb/\∀x:Str,x≠"__name__"->mb x=bootBuiltins x
 nolimit:base.NoLimit
structure Cx where
 prog:Program
 w:World
 K:PySem.W.Frag
 mg:Str->Option Value
 base:Heap
 A:Around
 N:List Str
 s₀:Shared
 H₀:Hp
 env:Env
 outer:List Env
 stack:List Env
 ex:List Addr
 fn:Str->Bool
 calm:Bool
 pn:List (Addr×Obj)
 xe:Value->Shared->Prop
def frs(l:List Env):List Addr:=l.filterMap (·.frame)
abbrev Cx.fs(X:Cx):List Addr:=frs X.outer
def Vis(sc:Scope)(x:Str):Prop:=sc.names.lookup x=some .local\/sc.names.lookup x=some .cell\/sc.names.lookup x=some .free
def Loc(sc:Scope)(x:Str):Prop:=sc.names.lookup x=some .local\/sc.names.lookup x=some .cell
def Look(env:Env)(h:Heap)(m:Str->Option Value)(x:Str)(u:Value):Prop:=
 (env.kindOf x=some .local/\m x=some u)\/((env.kindOf x=some .cell\/env.kindOf x=some .free)/\∃c,env.cells.lookup x=some c/\h.IsCell c (some u))
structure Cx.Ok(X:Cx):Prop where
 mod:Mod X.K X.mg X.base
 kind:X.env.scope.kind= .function
 glob:X.env.globals=mainGlobals
 blt:X.env.builtins=builtinsNs
 above:X.s₀.heap.objs.size<=X.env.locals
 inj:∀x y c,X.env.cells.lookup x=some c->X.env.cells.lookup y=some c->x=y
 has:∀x,(X.env.kindOf x=some .cell\/X.env.kindOf x=some .free)->∃c,X.env.cells.lookup x=some c
 cab:∀x c,X.fn x=true->X.env.cells.lookup x=some c->X.s₀.heap.objs.size<=c
 hd:X.calm=true->X.A.handled=none
 frames:X.A.frames=some X.stack
 stk:X.stack=X.outer\/(X.stack=X.env::X.outer/\X.env.frame=some X.env.locals)
 exf:∀b∈X.ex,b≠X.env.locals/\∀x c,X.env.cells.lookup x=some c->c≠b
 bs:∀b o,X.base.get? b=some o->X.s₀.heap.get? b=some o/\X.H₀ b=none
 bsz:X.base.objs.size<=X.s₀.heap.objs.size
 noex:∀b o,X.base.get? b=some o->b ∉ X.ex
 exfs:∀b∈X.ex,b ∉ X.fs
 funs:X.s₀.heap.FunFrames X.base X.outer
 frf:∀b∈X.fs,X.H₀ b=none
structure Inv(X:Cx)(pins:List (Addr×Obj))(σ:List (Option V))(H:Hp)(s:Shared):Prop where
 ok:X.Ok
 os:s.os=X.s₀.os
 bare:AllBare s.gens
 base:Un X.fs X.ex X.H₀ H X.s₀.heap s.heap
 loc:∃m,s.heap.Ns X.env.locals m/\∀(i:Nat) (x:Str) (v:V),X.N[i]? =some x->σ[i]? =some (some v)->Vis X.env.scope x->∃u,RelV v u/\Look X.env s.heap m x u
 cell:∀x c,X.env.cells.lookup x=some c->∃v,s.heap.IsCell c v
 free:H X.env.locals=none
 freeC:∀x c,X.env.cells.lookup x=some c->H c=none
 pin:∀p∈X.pn++pins,s.heap.get? p.1=some p.2/\H p.1=none/\p.1≠X.env.locals/\p.1 ∉ X.fs/\∀v,p.2.data≠ .cell v
 hok:HOk X.prog X.w H s.heap
 len:σ.length=X.N.length
section
variable{X:Cx}{pins:List (Addr×Obj)}{σ:List (Option V)}{H H':Hp}{s:Shared}{h':Heap}
theorem Cx.Ok.nofr(ok:X.Ok){b:Addr}{o:Obj}(e:X.base.get? b=some o):b ∉ X.fs:=λhb=>by
 have:=(ok.funs.mem hb).1;rw[e] at this;cases this
theorem Inv.bs(I:Inv X pins σ H s):∀b o,X.base.get? b=some o->s.heap.get? b=some o/\H b=none:=λb o e=>
 ⟨I.base.keep b o (I.ok.bs b o e).1 (I.ok.bs b o e).2 (I.ok.nofr e) (I.ok.noex b o e),I.base.free b o (I.ok.bs b o e).1 (I.ok.bs b o e).2 (I.ok.noex b o e)⟩
theorem Inv.bk(I:Inv X pins σ H s):∀b o,X.base.get? b=some o->s.heap.get? b=some o:=λb o e=>(I.bs b o e).1
theorem Inv.mod(I:Inv X pins σ H s):Mod X.K X.mg X.base:=I.ok.mod
theorem Inv.kIn(I:Inv X pins σ H s):X.K.In s.heap:=I.ok.mod.kin.keeps I.bk
theorem Inv.lt(I:Inv X pins σ H s):X.env.locals<s.heap.objs.size:=let ⟨_,hn,_⟩:=I.loc;hn.lt
theorem Inv.sz(I:Inv X pins σ H s):X.s₀.heap.objs.size<=s.heap.objs.size:=Nat.le_trans I.ok.above (Nat.le_of_lt I.lt)
theorem Inv.nofs(I:Inv X pins σ H s){a:Addr}(h:s.heap.objs.size<=a):a ∉ X.fs:=λhb=>by
 obtain⟨_,o,ho,_⟩:=I.ok.funs.mem hb;exact absurd (Nat.lt_of_lt_of_le (Heap.lt_size ho) (Nat.le_trans I.sz h)) (Nat.lt_irrefl _)
theorem Inv.cne(I:Inv X pins σ H s):∀x c,X.env.cells.lookup x=some c->c≠X.env.locals:=λx c e z=>by
 obtain⟨v,o,ho,hd⟩:=I.cell x c e;obtain⟨m,⟨o',es,ep,ho',hd',_⟩,_⟩:=I.loc;rw[z,ho'] at ho;cases ho;rw[hd'] at hd;cases hd
theorem Inv.funs(I:Inv X pins σ H s):s.heap.FunFrames X.base X.outer:=by
 have all:∀(l:List Env),(∀b∈frs l,b∈X.fs)->X.s₀.heap.FunFrames X.base l->s.heap.FunFrames X.base l:=by
  intro l
  induction l with
  |nil=>intro _ _;trivial
  |cons env r ih=>
   intro hs hl;obtain⟨hk,⟨L,o,hf,hn,ho,hd⟩,hr⟩:=hl;have hL:L∈X.fs:=hs L (by unfold frs;rw[List.filterMap_cons,hf];exact List.mem_cons_self);obtain⟨sl,e⟩:=I.base.slot L o ho (I.ok.frf L hL) hL λz=>I.ok.exfs L z hL;exact⟨hk,⟨L,_,hf,hn,e,hd⟩,ih (λb hb=>hs b (by unfold frs;rw[List.filterMap_cons,hf];exact List.mem_cons_of_mem _ hb)) hr⟩
 exact all X.outer (λ_ hb=>hb) I.ok.funs
theorem Inv.stack(I:Inv X pins σ H s):s.heap.FunFrames X.base X.stack:=by
 rcases I.ok.stk with e|⟨e,hf⟩
 ·rw[e];exact I.funs
 ·rw[e];obtain⟨m,hn,_⟩:=I.loc;refine .cons (by rw[I.ok.kind];decide) hf hn ?_ I.funs;exact Heap.get?_none_of_le (Nat.le_trans I.ok.bsz I.ok.above)
theorem Inv.stkSub(I:Inv X pins σ H s):∀b∈frs X.stack,b∈X.env.locals::X.fs:=λb hb=>by
 rcases I.ok.stk with e|⟨e,hf⟩
 ·rw[e] at hb;exact List.mem_cons_of_mem _ hb
 ·rw[e] at hb;unfold frs at hb;rw[List.filterMap_cons,hf] at hb;exact hb
theorem Inv.stkFree(I:Inv X pins σ H s):∀b∈frs X.stack,H b=none:=λb hb=>by
 rcases List.mem_cons.mp (I.stkSub b hb) with e|hb
 ·rw[e];exact I.free
 ·obtain⟨_,o,ho,_⟩:=I.ok.funs.mem hb;exact I.base.free b o ho (I.ok.frf b hb) λz=>I.ok.exfs b z hb
theorem Inv.step{g':Array GenState}{t':Nat}{d':Drawn}{ch:List Addr}(I:Inv X pins σ H s)(hch:∀b∈ch,(b∈X.ex\/X.s₀.heap.objs.size<=b)/\b≠X.env.locals/\(∀x c,X.env.cells.lookup x=some c->c≠b)/\∀p∈X.pn++pins,p.1≠b)(keep:∀b o,b≠X.env.locals->b ∉ X.fs->b ∉ ch->s.heap.get? b=some o->H b=none->h'.get? b=some o)(slot:∀b o,b≠X.env.locals->b∈X.fs->b ∉ ch->s.heap.get? b=some o->H b=none->∃sl,h'.get? b=some {o with slots:=sl})(free:∀b o,b ∉ ch->s.heap.get? b=some o->H b=none->H' b=none)(there:∀b o,b ∉ ch->s.heap.get? b=some o->∃o',h'.get? b=some o')(tups:∀b xs,H b=some (.tup xs)->H' b=some (.tup xs))(frzs:∀b o u,H b=some (.frz o u)->H' b=some (.frz o u))(tbls:∀b ps,H b=some (.tbl ps)->∃more,H' b=some (.tbl (ps++more)))(ns:∀m,s.heap.Ns X.env.locals m->h'.Ns X.env.locals m)(hok:HOk X.prog X.w H' h')(hg:AllBare g'):
  Inv X pins σ H' {s with heap:=h',gens:=g',drawn:=d',toks:=t'}:=by
 have neL:∀b o,X.s₀.heap.get? b=some o->b≠X.env.locals:=λb o e=>Nat.ne_of_lt (Nat.lt_of_lt_of_le (Heap.lt_size e) I.ok.above);have neC:∀b o,X.s₀.heap.get? b=some o->b ∉ X.ex->b ∉ ch:=λb o e hx hb=>by
  rcases(hch b hb).1 with z|z
  ·exact hx z
  ·exact absurd (Nat.lt_of_lt_of_le (Heap.lt_size e) z) (Nat.lt_irrefl _)
 have cellK:∀x c,X.env.cells.lookup x=some c->∀v,s.heap.IsCell c v->h'.IsCell c v:=λx c e v ⟨o,ho,hd⟩=>by
  have nch:c ∉ ch:=λz=>(hch c z).2.2.1 x c e rfl;by_cases hc:c∈X.fs
  ·obtain⟨sl,q⟩:=slot c o (I.cne x c e) hc nch ho (I.freeC x c e);exact⟨_,q,hd⟩
  ·exact⟨o,keep c o (I.cne x c e) hc nch ho (I.freeC x c e),hd⟩
 refine⟨I.ok,I.os,hg,⟨λb o e n hb hx=> ?_,λb o e n hb hx=> ?_,λb o e n hx=> ?_,λb o e hx=> ?_,λb xs e=>tups b xs (I.base.tups b xs e),λb o xs e=>frzs b o xs (I.base.frzs b o xs e),λb ps e=> ?_⟩,?_,λx c e=> ?_,?_,λx c e=> ?_,λp hp=> ?_,hok,I.len⟩
 ·exact keep b o (neL b o e) hb (neC b o e hx) (I.base.keep b o e n hb hx) (I.base.free b o e n hx)
 ·obtain⟨sl,e1⟩:=I.base.slot b o e n hb hx;obtain⟨sl',e2⟩:=slot b _ (neL b o e) hb (neC b o e hx) e1 (I.base.free b o e n hx);exact⟨sl',e2⟩
 ·obtain⟨o',e1⟩:=I.base.there b o e hx;exact free b o' (neC b o e hx) e1 (I.base.free b o e n hx)
 ·obtain⟨o',e1⟩:=I.base.there b o e hx;exact there b o' (neC b o e hx) e1
 ·obtain⟨m1,e1⟩:=I.base.tbls b ps e;obtain⟨m2,e2⟩:=tbls b _ e1;exact⟨m1++m2,by rw[e2,Array.append_assoc]⟩
 ·obtain⟨m,hn,hl⟩:=I.loc;refine⟨m,ns m hn,λi x v e1 e2 e3=> ?_⟩;obtain⟨u,r,l⟩:=hl i x v e1 e2 e3;refine⟨u,r,?_⟩;rcases l with l|⟨k,c,e,z⟩
  ·exact .inl l
  ·exact .inr ⟨k,c,e,cellK x c e _ z⟩
 ·obtain⟨v,z⟩:=I.cell x c e;exact⟨v,cellK x c e v z⟩
 ·obtain⟨m,⟨o,_,_,ho,_⟩,_⟩:=I.loc;exact free _ o (λz=>(hch _ z).2.1 rfl) ho I.free
 ·obtain⟨v,o,ho,hd⟩:=I.cell x c e;exact free c o (λz=>(hch c z).2.2.1 x c e rfl) ho (I.freeC x c e)
 ·obtain⟨e,n,ne,nf,d⟩:=I.pin p hp;have nch:p.1 ∉ ch:=λz=>(hch p.1 z).2.2.2 p hp rfl;exact⟨keep p.1 p.2 ne nf nch e n,free p.1 p.2 nch e n,ne,nf,d⟩
theorem Inv.un{t':Nat}(I:Inv X pins σ H s)(u:Un X.fs [] H H' s.heap h')(hok:HOk X.prog X.w H' h'):Inv X pins σ H' {s with heap:=h',toks:=t'}:=by
 obtain⟨m,⟨o,es,ep,ho,r⟩,_⟩:=id I.loc;obtain⟨sl,hL⟩:=u.any ho I.free (by simp);exact I.step (g':=s.gens) (d':=s.drawn) (ch:=[]) (λ_ z=>nomatch z) (λb o _ hb _ e n=>u.keep b o e n hb (by simp)) (λb o _ hb _ e n=>u.slot b o e n hb (by simp)) (λb o _ e n=>u.free b o e n (by simp)) (λb o _ e=>u.there b o e (by simp)) u.tups u.frzs u.tbls (λm' hm=>by
  obtain⟨o',es',ep',ho',r'⟩:=hm;rw[ho] at ho';cases ho';exact⟨_,es',ep',hL,r'⟩) hok I.bare
theorem Inv.call{g':Array GenState}{t':Nat}{d':Drawn}{ch:List Addr}(I:Inv X pins σ H s)(u:Un (frs X.stack) ch H H' s.heap h')(hok:HOk X.prog X.w H' h')(hg:AllBare g')(hch:∀b∈ch,(b∈X.ex\/X.s₀.heap.objs.size<=b)/\b≠X.env.locals/\(∀x c,X.env.cells.lookup x=some c->c≠b)/\∀p∈X.pn++pins,p.1≠b):
  Inv X pins σ H' {s with heap:=h',gens:=g',drawn:=d',toks:=t'}:=by
 obtain⟨m,⟨o,es,ep,ho,r⟩,_⟩:=id I.loc;obtain⟨sl,hL⟩:=u.any ho I.free λz=>(hch _ z).2.1 rfl;exact I.step (ch:=ch) hch (λb o hL hb hc e n=>u.keep b o e n (λz=>(List.mem_cons.mp (I.stkSub b z)).elim hL hb) hc) (λb o _ _ hc e n=>u.any e n hc) (λb o hc e n=>u.free b o e n hc) (λb o hc e=>u.there b o e hc) u.tups u.frzs u.tbls (λm' hm=>by
  obtain⟨o',es',ep',ho',r'⟩:=hm;rw[ho] at ho';cases ho';exact⟨_,es',ep',hL,r'⟩) hok hg
theorem Inv.turned{t':Nat}{it:Addr}(I:Inv X pins σ H s)(k:∀b o,b≠it->s.heap.get? b=some o->h'.get? b=some o)(hn:H it=none)(hL:it≠X.env.locals)(h1:it∈X.ex\/X.s₀.heap.objs.size<=it)(h2:∀x c,X.env.cells.lookup x=some c->c≠it)(h3:∀p∈X.pn++pins,p.1≠it):Inv X pins σ H {s with heap:=h',toks:=t'}:=by
 have nit:∀b u,H b=some u->b≠it:=λb u e z=>by rw[z,hn] at e;cases e
 refine I.step (g':=s.gens) (d':=s.drawn) (ch:=[it]) (λb hb=> ?_) (λb o _ _ hc e _=>k b o (λz=>hc (by simp[z])) e) (λb o _ _ hc e _=>⟨o.slots,k b o (λz=>hc (by simp[z])) e⟩) (λ_ _ _ _ n=>n)
  (λb o hc e=>⟨o,k b o (λz=>hc (by simp[z])) e⟩) (λ_ _ e=>e) (λ_ _ _ e=>e) (λb ps e=>⟨#[],by rw[e];simp⟩) (λm hm=> ?_) (λb u e=> ?_) I.bare
 ·have e:b=it:=by simpa using hb
  subst e;exact⟨h1,hL,h2,h3⟩
 ·obtain⟨o,es,ep,ho,r⟩:=hm;exact⟨o,es,ep,k _ o (Ne.symm hL) ho,r⟩
 ·refine(I.hok b u e).stay (λc v hc q=>k c v ?_ q) (λ_ q=>q) λ_ _ q=>q;rcases hc with z|z
  ·rw[z];exact nit b u e
  ·exact nit c _ z
theorem Inv.tok(I:Inv X pins σ H s)(t:Nat):Inv X pins σ H {s with toks:=t}:=I.un (h':=s.heap) (t':=t) Un.refl I.hok
theorem Inv.kept{t':Nat}(I:Inv X pins σ H s)(k:∀b u,s.heap.get? b=some u->h'.get? b=some u):Inv X pins σ H {s with heap:=h',toks:=t'}:=I.un (Un.kept k) (I.hok.kept k)
theorem Inv.laid{a:Addr}{o:HO}{t':Nat}(I:Inv X pins σ H s)(k:∀b u,s.heap.get? b=some u->h'.get? b=some u)(hp:s.heap.objs.size<=a)(new:ObjOk X.prog X.w (upd H a o) h' a o):
  Inv X pins σ (upd H a o) {s with heap:=h',toks:=t'}:=I.un (Un.laid k hp (I.hok.fresh hp)) (I.hok.laid k hp new)
theorem Inv.write{x e:Addr}{o:HO}{t':Nat}(I:Inv X pins σ H s)(mu:Mut (H x))(he:e=x\/H e=some (.own x))(k:∀b u,b≠e->s.heap.get? b=some u->h'.get? b=some u)(heo:∃u,h'.get? e=some u)(new:ObjOk X.prog X.w (upd H x o) h' x o):Inv X pins σ (upd H x o) {s with heap:=h',toks:=t'}:=I.un (Un.write mu he k heo) (I.hok.write mu he k heo new)
theorem Inv.pins_of{pins':List (Addr×Obj)}(I:Inv X pins σ H s)(h:∀p∈pins',s.heap.get? p.1=some p.2/\H p.1=none/\p.1≠X.env.locals/\p.1 ∉ X.fs/\∀v,p.2.data≠ .cell v):Inv X pins' σ H s:=
 ⟨I.ok,I.os,I.bare,I.base,I.loc,I.cell,I.free,I.freeC,λp hp=>(List.mem_append.mp hp).elim (λz=>I.pin p (List.mem_append_left _ z)) (h p),I.hok,I.len⟩
theorem nodup_ix{N:List Str}(hN:N.Nodup){i j:Nat}{x:Str}(a:N[i]? =some x)(b:N[j]? =some x):i=j:=by
 obtain⟨h1,e1⟩:=List.getElem?_eq_some_iff.mp a;obtain⟨h2,e2⟩:=List.getElem?_eq_some_iff.mp b;exact(List.getElem_inj hN).mp (e1.trans e2.symm)
theorem store_ok2{M:Model}{A:Around}{E:Value->Shared->Prop}{i:Nat}{x:Str}{v:V}{u:Value}{Q:Unit->Shared->Prop}(I:Inv X pins σ H s)(hN:X.N.Nodup)(hi:X.N[i]? =some x)(hx:Loc X.env.scope x)(r:RelV v u)(h:∀s',Inv X pins (σ.set i (some v)) H s'->(∃a,Heap.SameBut a s.heap s'.heap/\(a=X.env.locals\/X.env.cells.lookup x=some a))->Q () s')(hf:X.fn x=true\/X.env.scope.names.lookup x=some .local:=by first|exact .inl rfl|exact .inr rfl|assumption):wpAny M A (storeName X.env x u) Q E s:=by
 obtain⟨m,hn,hl⟩:=id I.loc;have hcls:(X.env.scope.kind== .class||(X.env.scope.kind== .module && X.env.locals !=X.env.globals))=false:=by rw[I.ok.kind];rfl
 have hiσ:i<σ.length:=by rw[I.len];exact(List.getElem?_eq_some_iff.mp hi).1
 have cne:=I.cne;have tracked:∀{a:Addr} {h':Heap},(∃o,s.heap.get? a=some o/\H a=none)->Heap.SameBut a s.heap h'->HOk X.prog X.w H h':=λ{a h'} ha hs b ob e=>by
  obtain⟨_,_,hfree⟩:=ha;refine(I.hok b ob e).stay (λc w' hc q=>(hs.2 c ?_).trans q) (λ_ q=>q) λ_ _ q=>q;rintro rfl;rcases hc with rfl|hc
  ·rw[hfree] at e;cases e
  ·rw[hfree] at hc;cases hc
 rcases hx with hk|hk
 ·refine wpAny_storeName_local hk hn (λh' hn' hs=> ?_) hcls;obtain⟨oL,_,_,hoL,_⟩:=id hn;refine h _ ⟨I.ok,I.os,I.bare,⟨λb o e n hb hx=> ?_,λb o e n hb hx=> ?_,I.base.free,λb o e hx=> ?_,I.base.tups,I.base.frzs,I.base.tbls⟩,⟨_,hn',λj y v' e1 e2 e3=> ?_⟩,λy c e=> ?_,I.free,I.freeC,λp hp=> ?_,tracked ⟨oL,hoL,I.free⟩ hs,by simpa using I.len⟩ ⟨_,hs,.inl rfl⟩
  ·exact(hs.2 b (Nat.ne_of_lt (Nat.lt_of_lt_of_le (Heap.lt_size e) I.ok.above))).trans (I.base.keep b o e n hb hx)
  ·obtain⟨sl,e1⟩:=I.base.slot b o e n hb hx;exact⟨sl,(hs.2 b (Nat.ne_of_lt (Nat.lt_of_lt_of_le (Heap.lt_size e) I.ok.above))).trans e1⟩
  ·obtain⟨o',e1⟩:=I.base.there b o e hx;exact⟨o',(hs.2 b (Nat.ne_of_lt (Nat.lt_of_lt_of_le (Heap.lt_size e) I.ok.above))).trans e1⟩
  ·by_cases hj:j=i
   ·subst hj;rw[hi] at e1;cases e1;rw[List.getElem?_set_self hiσ] at e2;cases e2;exact⟨u,r,.inl ⟨hk,by simp⟩⟩
   ·rw[List.getElem?_set_ne (Ne.symm hj)] at e2;obtain⟨u',r',q⟩:=hl j y v' e1 e2 e3;refine⟨u',r',?_⟩;rcases q with⟨k,e⟩|⟨k,c,e,z⟩
    ·refine .inl ⟨k,?_⟩;have:y≠x:=λe=>hj (nodup_ix hN e1 (e▸hi));simp[this,e]
    ·exact .inr ⟨k,c,e,z.sameBut hs (cne y c e)⟩
  ·obtain⟨w',z⟩:=I.cell y c e;exact⟨w',z.sameBut hs (cne y c e)⟩
  ·obtain⟨e,n,ne,nf,d⟩:=I.pin p hp;exact⟨(hs.2 p.1 ne).trans e,n,ne,nf,d⟩
 ·have hfn:X.fn x=true:=by
   rcases hf with z|z
   ·exact z
   ·rw[z] at hk;cases hk
  obtain⟨c,hc⟩:=I.ok.has x (.inl hk);obtain⟨w',z⟩:=I.cell x c hc;refine wpAny_storeName_cell I.ok.kind hk hc z (λh' hc' hs=> ?_);obtain⟨oc,hoc,hocd⟩:=id z;refine h {s with heap:=h'} ⟨I.ok,I.os,I.bare,⟨λb o e n hb hx=> ?_,λb o e n hb hx=> ?_,I.base.free,λb o e hx=> ?_,I.base.tups,I.base.frzs,I.base.tbls⟩,⟨m,hn.sameBut hs (Ne.symm (cne x c hc)),λj y v' e1 e2 e3=> ?_⟩,λy c' e=> ?_,I.free,I.freeC,λp hp=> ?_,tracked ⟨oc,hoc,I.freeC x c hc⟩ hs,by simpa using I.len⟩ ⟨c,hs,.inr hc⟩
  ·exact(hs.2 b (Nat.ne_of_lt (Nat.lt_of_lt_of_le (Heap.lt_size e) (I.ok.cab x c hfn hc)))).trans (I.base.keep b o e n hb hx)
  ·obtain⟨sl,e1⟩:=I.base.slot b o e n hb hx;exact⟨sl,(hs.2 b (Nat.ne_of_lt (Nat.lt_of_lt_of_le (Heap.lt_size e) (I.ok.cab x c hfn hc)))).trans e1⟩
  ·obtain⟨o',e1⟩:=I.base.there b o e hx;exact⟨o',(hs.2 b (Nat.ne_of_lt (Nat.lt_of_lt_of_le (Heap.lt_size e) (I.ok.cab x c hfn hc)))).trans e1⟩
  ·by_cases hj:j=i
   ·subst hj;rw[hi] at e1;cases e1;rw[List.getElem?_set_self hiσ] at e2;cases e2;exact⟨u,r,.inr ⟨.inl hk,c,hc,hc'⟩⟩
   ·rw[List.getElem?_set_ne (Ne.symm hj)] at e2;obtain⟨u',r',q⟩:=hl j y v' e1 e2 e3;refine⟨u',r',?_⟩;rcases q with q|⟨k,c',e,z'⟩
    ·exact .inl q
    ·refine .inr ⟨k,c',e,z'.sameBut hs ?_⟩;rintro rfl;exact hj (nodup_ix hN e1 (I.ok.inj _ _ _ e hc▸hi))
  ·by_cases hcc:c'=c
   ·subst hcc;exact⟨_,hc'⟩
   ·obtain⟨w2,z2⟩:=I.cell y c' e;exact⟨w2,z2.sameBut hs hcc⟩
  ·obtain⟨e,n,ne,nf,d⟩:=I.pin p hp;refine⟨(hs.2 p.1 ?_).trans e,n,ne,nf,d⟩;intro q;rw[q,hoc] at e;have q':oc=p.2:=Option.some.inj e;exact d w' (by rw[<-q'];exact hocd)
theorem store_ok{M:Model}{A:Around}{E:Value->Shared->Prop}{i:Nat}{x:Str}{v:V}{u:Value}{Q:Unit->Shared->Prop}(I:Inv X pins σ H s)(hN:X.N.Nodup)(hi:X.N[i]? =some x)(hx:Loc X.env.scope x)(r:RelV v u)(h:∀s',Inv X pins (σ.set i (some v)) H s'->Q () s')(hf:X.fn x=true\/X.env.scope.names.lookup x=some .local:=by first|exact .inl rfl|exact .inr rfl|assumption):wpAny M A (storeName X.env x u) Q E s:=
 store_ok2 I hN hi hx r (λs' I' _=>h s' I') hf
theorem Inv.call'{s':Shared}{ch:List Addr}(I:Inv X pins σ H s)(ho:s'.os=s.os)(u:Un (frs X.stack) ch H H' s.heap s'.heap)(hok:HOk X.prog X.w H' s'.heap)(hg:AllBare s'.gens)(hch:∀b∈ch,(b∈X.ex\/X.s₀.heap.objs.size<=b)/\b≠X.env.locals/\(∀x c,X.env.cells.lookup x=some c->c≠b)/\∀p∈X.pn++pins,p.1≠b):Inv X pins σ H' s':=by
 obtain⟨h',g',d',t',o'⟩:=s';have e:o'=s.os:=ho;subst e;exact I.call (g':=g') (t':=t') (d':=d') u hok hg hch
end
abbrev XK:=Value->Option Addr->Hp->Prop
abbrev St:=List (Option V)
abbrev VK:=V->Hp->Prop
abbrev TE:=St->Hp->VK->Prop
abbrev TT:=St->Hp->(Bool->Hp->Prop)->Prop
abbrev TA:=St->Hp->(List V->Hp->Prop)->Prop
structure Ends where
 nx:St->Hp->Prop
 rt:VK
 bk:St->Hp->Prop:=λ_ _=>False
 ct:St->Hp->Prop:=λ_ _=>False
abbrev TS:=Ends->St->Hp->Prop
def EP(X:Cx)(pins:List (Addr×Obj))(σ:St)(Q:VK)(u:Value)(s':Shared):Prop:=∃v H',Inv X pins σ H' s'/\RelV v u/\Q v H'
def TP(X:Cx)(pins:List (Addr×Obj))(σ:St)(Q:Bool->Hp->Prop)(b:Bool)(s':Shared):Prop:=∃H',Inv X pins σ H' s'/\Q b H'
def AP(X:Cx)(pins:List (Addr×Obj))(σ:St)(Q:List V->Hp->Prop)(us:List Value)(s':Shared):Prop:=∃vs H',Inv X pins σ H' s'/\Vals vs us/\Q vs H'
def SP(X:Cx)(pins:List (Addr×Obj))(D:Ends)(f:Flow)(s':Shared):Prop:=
 match f with
 | .next=>∃σ' H',Inv X pins σ' H' s'/\D.nx σ' H'
 | .brk=>∃σ' H',Inv X pins σ' H' s'/\D.bk σ' H'
 | .cont=>∃σ' H',Inv X pins σ' H' s'/\D.ct σ' H'
 | .ret u=>∃v σ' H',Inv X pins σ' H' s'/\RelV v u/\D.rt v H'
def PE(X:Cx)(e:Expr)(t:TE):Prop:=
 ∀(pins:List (Addr×Obj)) (s:Shared) (σ:St) (H:Hp) (Q:VK),Inv X pins σ H s->t σ H Q->wpAny (model X.prog X.w) X.A (eval e X.env) (EP X pins σ Q) X.xe s
def PT(X:Cx)(e:Expr)(t:TT):Prop:=
 ∀(pins:List (Addr×Obj)) (s:Shared) (σ:St) (H:Hp) (Q:Bool->Hp->Prop),Inv X pins σ H s->t σ H Q->wpAny (model X.prog X.w) X.A (isTrue e X.env (eval e X.env)) (TP X pins σ Q) X.xe s
def PW(X:Cx)(e:Expr)(t:TT):Prop:=
 ∀(whole:Sem Value) (pins:List (Addr×Obj)) (s:Shared) (σ:St) (H:Hp) (Q:Bool->Hp->Prop),Inv X pins σ H s->t σ H Q->wpAny (model X.prog X.w) X.A (isTrue e X.env whole) (TP X pins σ Q) X.xe s
theorem PW.pt{X:Cx}{e:Expr}{t:TT}(h:PW X e t):PT X e t:=h _
def PA(X:Cx)(es:List Expr)(t:TA):Prop:=
 ∀(pos:Pos) (pins:List (Addr×Obj)) (s:Shared) (σ:St) (H:Hp) (Q:List V->Hp->Prop),Inv X pins σ H s->t σ H Q->wpAny (model X.prog X.w) X.A (spliced (backTo pos (starEach es X.env))) (AP X pins σ Q) X.xe s
def PS(X:Cx)(st:Stmt)(t:TS):Prop:=
 ∀(pins:List (Addr×Obj)) (s:Shared) (σ:St) (H:Hp) (D:Ends),Inv X pins σ H s->t D σ H->wpAny (model X.prog X.w) X.A (exec st X.env) (SP X pins D) X.xe s
def PSs(X:Cx)(st:List Stmt)(t:TS):Prop:=
 ∀(pins:List (Addr×Obj)) (s:Shared) (σ:St) (H:Hp) (D:Ends),Inv X pins σ H s->t D σ H->wpAny (model X.prog X.w) X.A (execs st X.env) (SP X pins D) X.xe s
theorem thn{α:Type}{t:Sem α}{Q Q':α->Shared->Prop}{M:Model}{A:Around}{E:Value->Shared->Prop}{s:Shared}(h:wpAny M A t Q E s)(hQ:∀a s,Q a s->Q' a s):wpAny M A t Q' E s:=wpAny_mono h hQ λ_ _ x=>x
end L2
namespace L2
open PySem PySem.Spec PyProof.Rows
section
variable{X:Cx}
inductive TVarP(i:Nat)(σ:St)(H:Hp)(Q:VK):Prop
 |mk (v:_):(σ[i]? =some (some v))->(Q v H)->TVarP i σ H Q
def tVar(i:Nat):TE:=λσ H Q=>TVarP i σ H Q
def tC(v:V):TE:=λ_ H Q=>Q v H
theorem pe_var{i:Nat}{x:Str}{pos:Pos}(hN:X.N[i]? =some x)(hv:Vis X.env.scope x)(hd:(x==("__debug__":Str))=false:=by decide)(hcd:(x==("__classdict__":Str))=false:=by decide):PE X (.Name x pos) (tVar i):=by
 intro pins s σ H Q I h;obtain⟨v,e,h⟩:=h;obtain⟨m,hn,hl⟩:=I.loc;obtain⟨u,r,l⟩:=hl i x v hN e hv;have fin:EP X pins σ Q u s:=⟨v,H,I,r,h⟩
 rcases l with⟨hk,hm⟩|⟨hk,c,hc,hcell⟩
 ·exact wpAny_Name (wpAny_loadName_local I.ok.kind hk hn hm fin) hd
 ·rcases hk with hk|hk
  ·exact wpAny_Name (wpAny_loadName_cell I.ok.kind hk hc hcell fin) hd
  ·exact wpAny_Name (wpAny_loadName_free I.ok.kind hk hc hcell fin hcd) hd
theorem Af{i j pos}:PE X (.Constant (.int i) j pos) (tC (.int i)):=λ_ _ _ H _ I h=>wpAny_Constant_int ⟨.int i,H,I.tok _,⟨_,rfl⟩,h⟩
theorem Ch{b j pos}:PE X (.Constant (.bool b) j pos) (tC (.bl b)):=λ_ _ _ H _ I h=>Constant_bool ⟨.bl b,H,I,rfl,h⟩
theorem pe_non{j pos}:PE X (.Constant .none j pos) (tC .non):=λ_ _ _ H _ I h=>Constant_none ⟨.non,H,I,rfl,h⟩
theorem Cu{x j pos}:PE X (.Constant (.str x) j pos) (tC (.str x)):=λ_ _ _ H _ I h=>Calls.Constant_str ⟨.str x,H,I.tok _,⟨_,rfl⟩,h⟩
def Gl(X:Cx)(x:Str):Prop:=X.env.kindOf x=some .globalImplicit
theorem ld_glob{E:Value->Shared->Prop}{pins:List (Addr×Obj)}{s:Shared}{σ:St}{H:Hp}{x:Str}{u:Value}{pos:Pos}{Q:Value->Shared->Prop}(I:Inv X pins σ H s)(hg:Gl X x)(hm:X.mg x=some u)(h:Q u s)(hd:(x==("__debug__":Str))=false:=by decide):wpAny (model X.prog X.w) X.A (eval (.Name x pos) X.env) Q E s:=
 Calls.Name_function_global I.ok.kind hg (Calls.loadGlobal_global (by rw[I.ok.glob];exact I.mod.glob.keeps I.bk) hm h) hd
theorem ld_blt{E:Value->Shared->Prop}{pins:List (Addr×Obj)}{s:Shared}{σ:St}{H:Hp}{x:Str}{u:Value}{pos:Pos}{Q:Value->Shared->Prop}(I:Inv X pins σ H s)(hg:Gl X x)(hm:X.mg x=none)(hv:bootBuiltins x=some u)(h:Q u s)(hn:x≠"__name__":=by decide)(hd:(x==("__debug__":Str))=false:=by decide):wpAny (model X.prog X.w) X.A (eval (.Name x pos) X.env) Q E s:=by
 obtain⟨mb,h1,h2⟩:=I.mod.blt;exact Calls.Name_function_global I.ok.kind hg (Calls.loadGlobal_builtin (by rw[I.ok.glob];exact I.mod.glob.keeps I.bk) hm (by rw[I.ok.blt];exact h1.keeps I.bk) ((h2 x hn).trans hv) h) hd
variable{a b:Expr}{ta tb:TE}{pos:Pos}
inductive BlP(x:V)(H:Hp)(Q:Bool->Hp->Prop):Prop
 |mk (c:Bool):(x= .bl c)->(Q c H)->BlP x H Q
def tB(t:TE):TT:=λσ H Q=>t σ H λx H1=>BlP x H1 Q
theorem Bd{e:Expr}{t:TE}(h:PE X e t)(he:∀whole,isTrue e X.env whole=(do let v <-whole;standAt e.pos;holding [v] (truthy v)):=by intro _;rfl):PT X e (tB t):=by
 intro pins s σ H Q I hw;refine isTrue_plain (thn (h pins s σ H _ I hw) λv s1 ⟨x,H1,I1,r1,q1⟩=> ?_) (he _);obtain⟨d,rfl,q⟩:=q1;cases r1;exact wpAny_truthy_bool ⟨H1,I1,q⟩
variable{tA tB':TT}{rest:List Expr}
def tAnd(t u:TT):TT:=λσ H Q=>t σ H λc H1=>if c=true then u σ H1 Q else Q false H1
def tOr(t u:TT):TT:=λσ H Q=>t σ H λc H1=>if c=true then Q true H1 else u σ H1 Q
def tNot(t:TT):TT:=λσ H Q=>t σ H λc H1=>Q (!c) H1
theorem pw_and1(ha:PT X a tA):PW X (.BoolOp .And [a] pos) tA:=by
 intro wh pins s σ H Q I h;refine isTrue_and (thn (ha pins s σ H Q I h) λc s1 e=> ?_);cases c with
 |true=>exact isTrue_and_nil e
 |false=>exact e
theorem Ds(ha:PT X a tA):PW X (.BoolOp .Or [a] pos) tA:=by
 intro wh pins s σ H Q I h;refine isTrue_or (thn (ha pins s σ H Q I h) λc s1 e=> ?_);cases c with
 |false=>exact isTrue_or_nil e
 |true=>exact e
theorem pw_and(ha:PT X a tA)(hb:PW X (.BoolOp .And (b::rest) pos) tB'):PW X (.BoolOp .And (a::b::rest) pos) (tAnd tA tB'):=by
 intro wh pins s σ H Q I h;refine isTrue_and (thn (ha pins s σ H _ I h) λc s1 ⟨H1,I1,q1⟩=> ?_);cases c with
 |true=>exact hb wh pins s1 σ H1 Q I1 q1
 |false=>exact⟨H1,I1,q1⟩
theorem pw_or(ha:PT X a tA)(hb:PW X (.BoolOp .Or (b::rest) pos) tB'):PW X (.BoolOp .Or (a::b::rest) pos) (tOr tA tB'):=by
 intro wh pins s σ H Q I h;refine isTrue_or (thn (ha pins s σ H _ I h) λc s1 ⟨H1,I1,q1⟩=> ?_);cases c with
 |true=>exact⟨H1,I1,q1⟩
 |false=>exact hb wh pins s1 σ H1 Q I1 q1
theorem Bu(ha:PT X a tA):PT X (.UnaryOp .Not a pos) (tNot tA):=by
 intro pins s σ H Q I h;exact isTrue_not (ha pins s σ H (λc H1=>Q (!c) H1) I h)
def tAndV(ta tb:TE):TE:=λσ H Q=>ta σ H λx H1=>∃c,x= .bl c/\if c=true then tb σ H1 Q else Q (.bl false) H1
def tNotV(ta:TE):TE:=λσ H Q=>ta σ H λx H1=>∃c,x= .bl c/\Q (.bl (!c)) H1
theorem pe_one{op}{t:TE}(h:PE X a t):PE X (.BoolOp op [a] pos) t:=λpins s σ H Q I hw=>BoolOp_one (h pins s σ H Q I hw)
theorem pe_and(ha:PE X a ta)(hb:PE X (.BoolOp .And (b::rest) pos) tb):PE X (.BoolOp .And (a::b::rest) pos) (tAndV ta tb):=by
 intro pins s σ H Q I h;refine BoolOp_and (thn (ha pins s σ H _ I h) λv s1 ⟨x,H1,I1,r1,q1⟩=> ?_);obtain⟨c,rfl,q1⟩:=q1;cases r1;refine wpAny_truthy_bool ?_;cases c with
 |true=>exact hb pins s1 σ H1 Q I1 q1
 |false=>exact⟨.bl false,H1,I1,rfl,q1⟩
theorem pe_not(ha:PE X a ta):PE X (.UnaryOp .Not a pos) (tNotV ta):=by
 intro pins s σ H Q I h;refine UnaryOp_ (thn (ha pins s σ H _ I h) λv s1 ⟨x,H1,I1,r1,q1⟩=> ?_);obtain⟨c,rfl,q1⟩:=q1;cases r1;exact not_of (wpAny_truthy_bool ⟨.bl (!c),H1,I1,rfl,q1⟩)
def tIf(t:TT)(ta tb:TE):TE:=λσ H Q=>t σ H λc H1=>if c=true then ta σ H1 Q else tb σ H1 Q
theorem pe_ifExp{c:Expr}(hc:PT X c tA)(ha:PE X a ta)(hb:PE X b tb):PE X (.IfExp c a b pos) (tIf tA ta tb):=by
 intro pins s σ H Q I h;refine wpAny_IfExp (thn (hc pins s σ H _ I h) λd s1 ⟨H1,I1,q1⟩=> ?_);cases d with
 |true=>exact ha pins s1 σ H1 Q I1 q1
 |false=>exact hb pins s1 σ H1 Q I1 q1
end
end L2
namespace L2
open PySem PySem.Spec PyProof.Rows
def SqL(K:PySem.W.Frag)(H:Hp)(a:Addr)(xs:List V):Prop:=
 Rd H a (.lst xs)\/
  ∃(o:Obj) (its:Array Value) (n:Nat),K.lookup a=some o/\o.cls= .type "list"/\o.dict=none/\o.data= .seq its n/\its.size<=sizeLine/\Vals xs its.toList
def SqT(K:PySem.W.Frag)(H:Hp)(a:Addr)(xs:List V):Prop:=
 Rd H a (.tup xs)\/
  ∃(o:Obj) (its:Array Value) (n:Nat),K.lookup a=some o/\o.cls= .type "tuple"/\o.data= .seq its n/\its.size<=sizeLine/\Vals xs its.toList
def absV:Value->Option V
 | .none=>some .non
 | .bool b=>some (.bl b)
 | .int i _=>some (.int i)
 | .str x _=>some (.str x)
 | .bytes b _=>some (.byt b)
 | .float b _=>some (.flt b)
 | .ref a=>some (.ref a)
 | .type n=>some (.ty n)
 |_=>none
theorem RelV.abs{x:V}{u:Value}(r:RelV x u):absV u=some x:=by
 cases x with
 |non=>cases r;rfl
 |bl _=>cases r;rfl
 |int _=>obtain⟨t,rfl⟩:=r;rfl
 |str _=>obtain⟨t,rfl⟩:=r;rfl
 |byt _=>obtain⟨t,rfl⟩:=r;rfl
 |flt _=>obtain⟨t,rfl⟩:=r;rfl
 |ref _=>cases r;rfl
 |ty _=>cases r;rfl
theorem RelV.inj{x y:V}{u:Value}(r:RelV x u)(q:RelV y u):x=y:=Option.some.inj (r.abs.symm.trans q.abs)
theorem Vals.inj:∀{xs ys:List V} {us:List Value},Vals xs us->Vals ys us->xs=ys
 |_,_,_,.nil,.nil=>rfl
 |_,_,_,.cons r t,.cons r' t'=>by rw[r.inj r',Vals.inj t t']
section
variable{X:Cx}{pins:List (Addr×Obj)}{σ:St}{H:Hp}{s:Shared}{a:Addr}{xs ys:List V}
theorem SqL.of{K:PySem.W.Frag}(h:H a=some (.lst xs)):SqL K H a xs:= .inl (.inl h)
theorem SqT.of{K:PySem.W.Frag}(h:H a=some (.tup xs)):SqT K H a xs:= .inl (.inl h)
theorem Inv.list(I:Inv X pins σ H s)(h:SqL X.K H a xs):∃its:List Value,Vals xs its/\PlainL s.heap a its.toArray/\xs.length<=sizeLine:=by
 rcases h with h|⟨o,its,n,hk,hc,hd,hs,hz,r⟩
 ·obtain⟨z,its,n,r,e⟩:=h.ok I.hok;exact⟨its,r,⟨_,n,e,rfl,rfl,rfl⟩,z⟩
 ·refine⟨its.toList,r,⟨o,n,I.kIn a o hk,hc,hd,by simpa using hs⟩,?_⟩;have e:=r.length;simp only[Array.length_toList] at e;omega
theorem Inv.tuple(I:Inv X pins σ H s)(h:SqT X.K H a xs):∃its:List Value,Vals xs its/\IsTup s.heap a its.toArray/\xs.length<=sizeLine:=by
 rcases h with h|⟨o,its,n,hk,hc,hs,hz,r⟩
 ·obtain⟨z,its,r,p⟩:=h.ok I.hok;exact⟨its,r,p.tup,z⟩
 ·refine⟨its.toList,r,⟨o,I.kIn a o hk,hc,n,by simpa using hs⟩,?_⟩;have e:=r.length;simp only[Array.length_toList] at e;omega
theorem Inv.list_inj(I:Inv X pins σ H s)(h:SqL X.K H a xs)(h':SqL X.K H a ys):xs=ys:=by
 obtain⟨its,r,⟨o,n,e,_,_,d⟩,_⟩:=I.list h;obtain⟨its',r',⟨o',n',e',_,_,d'⟩,_⟩:=I.list h';rw[e] at e';cases e';rw[d] at d';injection d' with d1 _;have:its=its':=by simpa using congrArg Array.toList d1
 subst this;exact r.inj r'
theorem Inv.tuple_inj(I:Inv X pins σ H s)(h:SqT X.K H a xs)(h':SqT X.K H a ys):xs=ys:=by
 obtain⟨its,r,⟨o,e,_,n,d⟩,_⟩:=I.tuple h;obtain⟨its',r',⟨o',e',_,n',d'⟩,_⟩:=I.tuple h';rw[e] at e';cases e';rw[d] at d';injection d' with d1 _;have:its=its':=by simpa using congrArg Array.toList d1
 subst this;exact r.inj r'
end
abbrev Cx.wish(X:Cx)(E:Value->Shared->Prop):Cx:={X with xe:=E}
abbrev Cx.nox(X:Cx):Cx:=X.wish λ_ _=>False
theorem Cx.Ok.wish{X:Cx}(ok:X.Ok)(E:Value->Shared->Prop):(X.wish E).Ok:=
 ⟨ok.mod,ok.kind,ok.glob,ok.blt,ok.above,ok.inj,ok.has,ok.cab,ok.hd,ok.frames,ok.stk,ok.exf,ok.bs,ok.bsz,ok.noex,ok.exfs,ok.funs,ok.frf⟩
theorem Cx.Ok.unwish{X:Cx}{E:Value->Shared->Prop}(ok:(X.wish E).Ok):X.Ok:=
 ⟨ok.mod,ok.kind,ok.glob,ok.blt,ok.above,ok.inj,ok.has,ok.cab,ok.hd,ok.frames,ok.stk,ok.exf,ok.bs,ok.bsz,ok.noex,ok.exfs,ok.funs,ok.frf⟩
section
variable{X:Cx}{pins:List (Addr×Obj)}{σ:St}{H:Hp}{s:Shared}{E:Value->Shared->Prop}
theorem Inv.wish(I:Inv X pins σ H s)(E:Value->Shared->Prop):Inv (X.wish E) pins σ H s:=⟨I.ok.wish E,I.os,I.bare,I.base,I.loc,I.cell,I.free,I.freeC,I.pin,I.hok,I.len⟩
theorem Inv.unwish(I:Inv (X.wish E) pins σ H s):Inv X pins σ H s:=⟨I.ok.unwish,I.os,I.bare,I.base,I.loc,I.cell,I.free,I.freeC,I.pin,I.hok,I.len⟩
theorem SP.unwish{D:Ends}{f:Flow}{s':Shared}(h:SP (X.wish E) pins D f s'):SP X pins D f s':=by
 cases f with
 |next=>obtain⟨σ',H',I,q⟩:=h;exact⟨σ',H',I.unwish,q⟩
 |brk=>obtain⟨σ',H',I,q⟩:=h;exact⟨σ',H',I.unwish,q⟩
 |cont=>obtain⟨σ',H',I,q⟩:=h;exact⟨σ',H',I.unwish,q⟩
 |ret u=>obtain⟨v,σ',H',I,r,q⟩:=h;exact⟨v,σ',H',I.unwish,r,q⟩
theorem PSs.nox{st:List Stmt}{t:TS}(h:PSs X.nox st t):PSs X st t:=λpins s σ H D I hw=>
 wpAny_mono (h pins s σ H D (I.wish _) hw) (λ_ _ q=>q.unwish) λ_ _ z=>False.elim z
end
section
variable{X:Cx}{st:Stmt}{rest:List Stmt}{t u:TS}{e:Expr}{te:TE}{pos:Pos}
def Br:TS:=λD σ H=>D.nx σ H
def tSeq(t u:TS):TS:=λD σ H=>t {D with nx:=u D} σ H
theorem A2:PSs X [] Br:=λ_ _ σ H _ I h=>wpAny_execs_nil ⟨σ,H,I,h⟩
theorem Ae(h1:PS X st t)(h2:PSs X rest u):PSs X (st::rest) (tSeq t u):=by
 intro pins s σ H D I h;refine wpAny_execs_cons (thn (h1 pins s σ H {D with nx:=u D} I h) λf s1 q=> ?_);cases f with
 |next=>
  obtain⟨σ',H',I',q⟩:=q;exact h2 pins s1 σ' H' D I' q
 |ret v=>exact q
 |brk=>exact q
 |cont=>exact q
theorem Ai(h1:PS X st t):PSs X [st] t:=by
 intro pins s σ H D I h;refine wpAny_execs_cons (thn (h1 pins s σ H D I h) λf s1 q=> ?_);cases f with
 |next=>exact wpAny_execs_nil q
 |ret v=>exact q
 |brk=>exact q
 |cont=>exact q
theorem Inv.quiet{pins:List (Addr×Obj)}{σ:St}{H:Hp}{s:Shared}(I:Inv X pins σ H s):interactive X.env=false:=by simp[interactive,I.ok.kind]
def tDrop(te:TE):TS:=λD σ H=>te σ H λ_ H1=>D.nx σ H1
theorem Cw(he:PE X e te)(hs:swapsWith e none pos.line X.env=pure false:=by rfl):PS X (.Expr e pos) (tDrop te):=by
 intro pins s σ H D I h;exact wpAny_Expr_any (thn (he pins s σ H _ I h) λv s1 ⟨x,H1,I1,r1,q1⟩=>⟨σ,H1,I1,q1⟩) I.quiet hs
def tRet(te:TE):TS:=λD σ H=>te σ H D.rt
theorem Ao(he:PE X e te):PS X (.Return (some e) pos) (tRet te):=by
 intro pins s σ H D I h;exact wpAny_Return_some (thn (he pins s σ H _ I h) λv s1 ⟨x,H1,I1,r1,q1⟩=>⟨x,σ,H1,I1,r1,q1⟩)
def tIfS(c:TT)(t u:TS):TS:=λD σ H=>c σ H λb H1=>if b=true then t D σ H1 else u D σ H1
theorem Bi{c:Expr}{a b:List Stmt}{tc:TT}(hc:PT X c tc)(ha:PSs X a t)(hb:PSs X b u):PS X (.If c a b pos) (tIfS tc t u):=by
 intro pins s σ H D I h;refine wpAny_If (thn (hc pins s σ H _ I h) λd s1 ⟨H1,I1,q1⟩=> ?_);cases d with
 |true=>exact ha pins s1 σ H1 D I1 q1
 |false=>exact hb pins s1 σ H1 D I1 q1
end
abbrev TG:=V->St->Hp->(St->Hp->Prop)->Prop
abbrev TGs:=List V->St->Hp->(St->Hp->Prop)->Prop
def PG(X:Cx)(target:Expr)(t:TG):Prop:=
 ∀(pins:List (Addr×Obj)) (s:Shared) (σ:St) (H:Hp) (v:V) (u:Value) (Q:St->Hp->Prop),Inv X pins σ H s->RelV v u->t v σ H Q->
  wpAny (model X.prog X.w) X.A (assign target X.env u) (λ_ s'=>∃σ' H',Inv X pins σ' H' s'/\Q σ' H') X.xe s
def PGs(X:Cx)(ts:List Expr)(t:TGs):Prop:=
 ∀(pins:List (Addr×Obj)) (s:Shared) (σ:St) (H:Hp) (vs:List V) (us:List Value) (Q:St->Hp->Prop),Inv X pins σ H s->Vals vs us->t vs σ H Q->
  wpAny (model X.prog X.w) X.A (assignInOrder ((assignEach ts X.env).map (·.2)) us) (λ_ s'=>∃σ' H',Inv X pins σ' H' s'/\Q σ' H') X.xe s
abbrev TSet:=V->V->V->Hp->(Hp->Prop)->Prop
def PSet(X:Cx)(t:TSet):Prop:=
 ∀(pins:List (Addr×Obj)) (s:Shared) (σ:St) (H:Hp) (o i v:V) (ov iv u:Value) (Q:Hp->Prop),Inv X pins σ H s->RelV o ov->RelV i iv->RelV v u->t o i v H Q->
  wpAny (model X.prog X.w) X.A (setItem ov iv u) (λ_ s'=>∃H',Inv X pins σ H' s'/\Q H') X.xe s
abbrev TIp:=V->V->Hp->VK->Prop
def PIp(X:Cx)(op:Operator)(t:TIp):Prop:=
 ∀(pins:List (Addr×Obj)) (s:Shared) (σ:St) (H:Hp) (x y:V) (v u:Value) (Q:VK),Inv X pins σ H s->RelV x v->RelV y u->t x y H Q->
  wpAny (model X.prog X.w) X.A (inplaceOp op v u) (EP X pins σ Q) X.xe s
section
variable{X:Cx}{pos:Pos}
def gName(i:Nat):TG:=λv σ H Q=>Q (σ.set i (some v)) H
theorem Ah{i:Nat}{x:Str}(hN:X.N.Nodup)(hi:X.N[i]? =some x)(hx:Loc X.env.scope x)(hf:X.fn x=true\/X.env.scope.names.lookup x=some .local:=by first|exact .inl rfl|exact .inr rfl|assumption):PG X (.Name x pos) (gName i):=by
 intro pins s σ H v u Q I r h;exact wpAny_assign_Name (store_ok I hN hi hx r (λs' I'=>⟨_,H,I',h⟩) hf)
def gNil:TGs:=λvs σ H Q=>vs=[]/\Q σ H
def gCons(t:TG)(u:TGs):TGs:=λvs σ H Q=>∃v r,vs=v::r/\t v σ H λσ' H'=>u r σ' H' Q
theorem Bf:PGs X [] gNil:=by
 intro pins s σ H vs us Q I r h;obtain⟨e,h⟩:=h;subst e;cases r;exact assignInOrder_nil ⟨σ,H,I,h⟩
theorem Al{e:Expr}{es:List Expr}{t:TG}{u:TGs}(h1:PG X e t)(h2:PGs X es u)(hs:(assignEach (e::es) X.env).map (·.2)=assign e X.env::(assignEach es X.env).map (·.2):=by rfl):PGs X (e::es) (gCons t u):=by
 intro pins s σ H vs us Q I r h;obtain⟨v,vr,e1,h⟩:=h;subst e1;cases r with
 |cons r rr=>
  rw[hs];refine assignInOrder_cons (thn (h1 pins s σ H _ _ _ I r h) λ_ s1 ⟨σ1,H1,I1,q1⟩=> ?_);exact h2 pins s1 σ1 H1 _ _ Q I1 rr q1
def gTup(K:PySem.W.Frag)(n:Nat)(t:TGs):TG:=λv σ H Q=>∃a xs,v= .ref a/\SqT K H a xs/\xs.length=n/\t xs σ H Q
theorem Co{es:List Expr}{k:Nat}{t:TGs}{n:Nat}(hc:X.calm=true)(h:PGs X es t)(hn:(assignEach es X.env).length=n:=by rfl)(hst:(assignEach es X.env).findIdx? (·.1)=none:=by rfl):PG X (.Tuple es k pos) (gTup X.K n t):=by
 intro pins s σ H v u Q I r hw;obtain⟨a,xs,e1,hq,hl,hw⟩:=hw;subst e1;cases r;obtain⟨its,rv,ht,hz⟩:=I.tuple hq;refine assign_Tuple_tuple (I.ok.hd hc) ht (by simp[hn,<-hl,rv.length]) hst λh' hx=> ?_;have I1:Inv X pins σ H {s with heap:=h'}:=I.kept (t':=s.toks) λb o e=>hx b o (Nat.ne_of_lt (Heap.lt_size e)) e;exact h pins _ σ H xs _ Q I1 (by simpa using rv) hw
def gSub(to ti:TE)(t:TSet):TG:=λv σ H Q=>to σ H λo H1=>ti σ H1 λi H2=>t o i v H2 λH3=>Q σ H3
theorem pg_sub{o i:Expr}{to ti:TE}{t:TSet}(ho:PE X o to)(hi:PE X i ti)(hs:PSet X t)(ha:∀v,assign (.Subscript o i pos) X.env v=(do
   let ov <-holding [v] (eval o X.env)
   let iv <-holding [v,ov] (eval i X.env)
   standAt pos
   holding [v,ov,iv] (setItem ov iv v)
   release [v,ov,iv] []):=by intro _;rfl):PG X (.Subscript o i pos) (gSub to ti t):=by
 intro pins s σ H v u Q I r h;rw[ha];refine wpAny_bind (wpAny_holding (thn (ho pins s σ H _ I h) λov s1 ⟨x,H1,I1,r1,q1⟩=> ?_));refine wpAny_bind (wpAny_holding (thn (hi pins s1 σ H1 _ I1 q1) λiv s2 ⟨y,H2,I2,r2,q2⟩=> ?_));refine wpAny_bind (wpAny_standAt (wpAny_bind (wpAny_holding (thn (hs pins s2 σ H2 x y v ov iv u _ I2 r1 r2 r q2) λ_ s3 ⟨H3,I3,q3⟩=> ?_))));exact wpAny_release ⟨σ,H3,I3,q3⟩
def tAsg(te:TE)(g:TG):TS:=λD σ H=>te σ H λx H1=>g x σ H1 D.nx
theorem Cz{tg e:Expr}{te:TE}{g:TG}(he:PE X e te)(hg:PG X tg g)(hs:swapsWithSole [tg] e pos.line X.env=pure false:=by rfl)(hw:swappedStores [tg] e X.env=pure none:=by rfl)(h1:(assignEach [tg] X.env).map (·.2)=[assign tg X.env]:=by rfl):PS X (.Assign [tg] e pos) (tAsg te g):=by
 intro pins s σ H D I h;refine wpAny_Assign_stores (thn (he pins s σ H _ I h) λv s1 ⟨x,H1,I1,r1,q1⟩=> ?_) hs hw;rw[h1];exact thn (hg pins s1 σ H1 x v _ I1 r1 q1) λ_ s2 q=>q
theorem Aw{i:Nat}{x:Str}{e:Expr}{te:TE}{pos':Pos}(hN:X.N.Nodup)(hi:X.N[i]? =some x)(hx:Loc X.env.scope x)(he:PE X e te)(hs:swapsWith e (some (.Name x pos')) pos.line X.env=pure false:=by rfl)(hf:X.fn x=true\/X.env.scope.names.lookup x=some .local:=by first|exact .inl rfl|exact .inr rfl|assumption):
  PS X (.Assign [.Name x pos'] e pos) (tAsg te (gName i)):=by
 intro pins s σ H D I h;refine wpAny_Assign_Name (thn (he pins s σ H _ I h) λv s1 ⟨y,H1,I1,r1,q1⟩=> ?_) hs;exact store_ok I1 hN hi hx r1 (λs2 I2=>⟨_,H1,I2,q1⟩) hf
def tAug(i:Nat)(te:TE)(ti:TIp):TS:=λD σ H=>∃x,σ[i]? =some (some x)/\te σ H λy H1=>ti x y H1 λz H2=>D.nx (σ.set i (some z)) H2
theorem ps_aug{i:Nat}{x:Str}{e:Expr}{te:TE}{op:Operator}{ti:TIp}{pos':Pos}(hN:X.N.Nodup)(hi:X.N[i]? =some x)(hx:Loc X.env.scope x)(he:PE X e te)(ho:PIp X op ti)(hf:X.fn x=true\/X.env.scope.names.lookup x=some .local:=by first|exact .inl rfl|exact .inr rfl|assumption):
  PS X (.AugAssign (.Name x pos') op e pos) (tAug i te ti):=by
 intro pins s σ H D I h;obtain⟨v,e1,h⟩:=h;obtain⟨m,hn,hl⟩:=I.loc;have vis:Vis X.env.scope x:=by rcases hx with k|k;exact .inl k;exact .inr (.inl k)
 obtain⟨u,r,l⟩:=hl i x v hi e1 vis;refine wpAny_AugAssign_Name ?_;have go:wpAny (model X.prog X.w) X.A (eval e X.env) (λw s₂=>wpAny (model X.prog X.w) X.A (inplaceOp op u w) (λr s₃=>wpAny (model X.prog X.w) X.A (storeName X.env x r) (λ_=>SP X pins D .next) X.xe s₃) X.xe s₂) X.xe s:=by
  refine thn (he pins s σ H _ I h) λw s1 ⟨y,H1,I1,r1,q1⟩=> ?_;refine thn (ho pins s1 σ H1 v y u w _ I1 r r1 q1) λz s2 ⟨zv,H2,I2,r2,q2⟩=> ?_;exact store_ok I2 hN hi hx r2 (λs3 I3=>⟨_,H2,I3,q2⟩) hf
 rcases l with⟨hk,hm⟩|⟨hk,c,hc,hcell⟩
 ·exact wpAny_loadName_local I.ok.kind hk hn hm go
 ·rcases hk with hk|hk
  ·exact wpAny_loadName_cell I.ok.kind hk hc hcell go
  ·rcases hx with k|k
   ·have:X.env.scope.names.lookup x=some .free:=hk;rw[k] at this;cases this
   ·have:X.env.scope.names.lookup x=some .free:=hk;rw[k] at this;cases this
def ipI(f:Int->Int->Int):TIp:=λx y H Q=>∃i j,x= .int i/\y= .int j/\Q (.int (f i j)) H
theorem ip_add:PIp X .Add (ipI λi j=>i+j):=by
 intro pins s σ H x y v u Q I r1 r2 h;obtain⟨i,j,e1,e2,q⟩:=h;subst e1;subst e2;obtain⟨t,rfl⟩:=r1;obtain⟨t',rfl⟩:=r2;exact iadd_int ⟨.int _,H,I.tok _,⟨_,rfl⟩,q⟩
theorem ip_sub:PIp X .Sub (ipI λi j=>i - j):=by
 intro pins s σ H x y v u Q I r1 r2 h;obtain⟨i,j,e1,e2,q⟩:=h;subst e1;subst e2;obtain⟨t,rfl⟩:=r1;obtain⟨t',rfl⟩:=r2;exact isub_int ⟨.int _,H,I.tok _,⟨_,rfl⟩,q⟩
end
section
variable{X:Cx}{pos:Pos}
def tWhile(c:TT)(tb:TS):TS:=λD σ H=>∃W:Nat->St->Hp->Prop,(∃m,W m σ H)/\∀m σ H,W m σ H->
 c σ H λb H1=>if b=true then ∃N:St->Hp->Prop,(∀σ' H',N σ' H'->∃m',m'<m/\W m' σ' H')/\tb {D with nx:=N,ct:=N,bk:=D.nx} σ H1 else D.nx σ H1
theorem ps_while{c:Expr}{body:List Stmt}{tc:TT}{tb:TS}(hp:PassesOwn (model X.prog X.w) X.A X.env X.xe)(hc:PT X c tc)(hb:PSs X body tb):PS X (.While c body [] pos) (tWhile tc tb):=by
 intro pins s σ H D I h;obtain⟨W,⟨m0,w0⟩,turn⟩:=h;refine wpAny_While (codeAny_whileLoop (λn s'=>∃σ' H',Inv X pins σ' H' s'/\W n σ' H') ?_ m0 ⟨σ,H,I,w0⟩);rintro n s1 ⟨σ1,H1,I1,w1⟩;refine wpAny_passesOwn hp (thn (hc pins s1 σ1 H1 _ I1 (turn n σ1 H1 w1)) λb s2 ⟨H2,I2,q2⟩=> ?_);cases b with
 |true=>
  obtain⟨N,hN,q2⟩:=q2;rw[if_pos rfl];refine wpAny_passesOwn hp (thn (hb pins s2 σ1 H2 _ I2 q2) λf s3 q3=> ?_);cases f with
  |next=>
   obtain⟨σ3,H3,I3,n3⟩:=q3;obtain⟨m',hm,w3⟩:=hN σ3 H3 n3;exact⟨m',hm,σ3,H3,I3,w3⟩
  |cont=>
   obtain⟨σ3,H3,I3,n3⟩:=q3;obtain⟨m',hm,w3⟩:=hN σ3 H3 n3;exact⟨m',hm,σ3,H3,I3,w3⟩
  |brk=>exact q3
  |ret v=>exact q3
 |false=>
  rw[if_neg Bool.false_ne_true];exact wpAny_execs_nil ⟨σ1,H2,I2,q2⟩
end
structure It where
 go:Nat->Hp->Prop
 yld:Nat->Hp->V->Hp->Prop
 stop:Nat->Hp->Prop
def FpOk(X:Cx)(pins:List (Addr×Obj))(H:Hp)(b:Addr):Prop:=
 H b=none/\b≠X.env.locals/\b ∉ X.fs/\(b∈X.ex\/X.s₀.heap.objs.size<=b)/\(∀x c,X.env.cells.lookup x=some c->c≠b)/\∀p∈X.pn++pins,p.1≠b
theorem Inv.fpOk{X:Cx}{pins:List (Addr×Obj)}{σ:St}{H H':Hp}{s:Shared}{b:Addr}(I:Inv X pins σ H s)(hb:s.heap.objs.size<=b)(hn:H' b=none):FpOk X pins H' b:=by
 refine⟨hn,Nat.ne_of_gt (Nat.lt_of_lt_of_le I.lt hb),I.nofs hb,.inr (Nat.le_trans I.sz hb),λx c e z=> ?_,λp hp z=> ?_⟩
 ·obtain⟨v,q⟩:=I.cell x c e;exact absurd (Nat.lt_of_lt_of_le q.lt (by rw[z];exact hb)) (Nat.lt_irrefl _)
 ·exact absurd (Nat.lt_of_lt_of_le (Heap.lt_size (I.pin p hp).1) (by rw[z];exact hb)) (Nat.lt_irrefl _)
structure Turn(P:Program)(w:World)(K:PySem.W.Frag)(tg:Expr)(J:It)(fp:List Addr)(it:Addr)(tn:Nat->Heap->Prop):Prop where
 mem:it∈fp
 obj:∀i h,tn i h->∀b∈fp,∃o,h.get? b=some o/\∀v,o.data≠ .cell v
 keep:∀i h h',tn i h->(∀b∈fp,∀o,h.get? b=some o->h'.get? b=some o)->tn i h'
 item:∀(X:Cx),X.prog=P->X.w=w->X.K=K->X.calm=true->∀(i:Nat) (pins:List (Addr×Obj)) (s:Shared) (σ:St) (H:Hp) (E:Value->Shared->Prop),Inv X pins σ H s->(∀b∈fp,FpOk X pins H b)->tn i s.heap->J.go i H->
  wpAny (model P w) X.A (pyNext (.ref it)) (λr s1=>∃u,r=some u/\
   wpAny (model P w) X.A (letOwnedTupleGo tg (.ref it) u) (λ_ s2=>∃x H',Inv X pins σ H' s2/\RelV x u/\J.yld i H x H'/\tn (i+1) s2.heap/\∀b∈fp,H' b=none) E s1) E s
 done:∀(X:Cx),X.prog=P->X.w=w->X.K=K->X.calm=true->∀(i:Nat) (pins:List (Addr×Obj)) (s:Shared) (σ:St) (H:Hp) (E:Value->Shared->Prop),Inv X pins σ H s->(∀b∈fp,FpOk X pins H b)->tn i s.heap->J.stop i H->
  wpAny (model P w) X.A (pyNext (.ref it)) (λr s1=>r=none/\Inv X pins σ H s1) E s
 self:∀(A:Around) (i:Nat) (s:Shared) (Q:Value->Shared->Prop) (E:Value->Shared->Prop),tn i s.heap->Q (.ref it) s->wpAny (model P w) A (pyIter (.ref it)) Q E s
abbrev TI:=St->Hp->(It->Hp->Prop)->Prop
def PIE(X:Cx)(pins:List (Addr×Obj))(σ:St)(tg:Expr)(R:It->Hp->Prop)(itv:Value)(s2:Shared):Prop:=
 ∃(it:Addr) (fp:List Addr) (tn:Nat->Heap->Prop) (J:It) (H':Hp),itv= .ref it/\Inv X pins σ H' s2/\Turn X.prog X.w X.K tg J fp it tn/\tn 0 s2.heap/\(∀b∈fp,FpOk X pins H' b)/\R J H'
def PI(X:Cx)(tg iter:Expr)(wi:TI):Prop:=
 ∀(pins:List (Addr×Obj)) (s:Shared) (σ:St) (H:Hp) (R:It->Hp->Prop),Inv X pins σ H s->wi σ H R->
  wpAny (model X.prog X.w) X.A (eval iter X.env) (λv s1=>wpAny (model X.prog X.w) X.A (pyIter v) (PIE X pins σ tg R) X.xe s1) X.xe s
theorem go_of{M:Model}{A:Around}{E:Value->Shared->Prop}{s:Shared}{tg:Expr}{it:Addr}{u:Value}{o:Obj}{n:String}{vs:Array Value}{Q:Unit->Shared->Prop}(ho:s.heap.get? it=some o)(hc:o.cls= .type n)(hd:o.data= .fields vs)(hn:["enumerate","zip","dict_itemiterator","dict_reverseitemiterator","odict_iterator","itertools.zip_longest","itertools.pairwise"].contains n=false)(hQ:Q () s):wpAny M A (letOwnedTupleGo tg (.ref it) u) Q E s:=by
 unfold letOwnedTupleGo;cases tg<;> first
  |exact wpAny_pure hQ
  |(cases u<;> first
   |exact wpAny_pure hQ
   |(refine wpAny_bind (wpAny_load ho ?_)
     rw[hc,hd];show wpAny M A (if (["enumerate","zip","dict_itemiterator","dict_reverseitemiterator","odict_iterator","itertools.zip_longest","itertools.pairwise"].contains n && vs[0]? ==some (rawInt _))=true then _ else _) Q E s;rw[if_neg (by intro h;rw[hn,Bool.false_and] at h;cases h)];exact wpAny_pure hQ))
def Itl(K:PySem.W.Frag)(a:Addr):It:=
 ⟨λi H=>∃xs x,SqL K H a xs/\xs[i]? =some x,λi H x H'=>H'=H/\∀xs,SqL K H a xs->xs[i]? =some x,λi H=>∃xs,SqL K H a xs/\xs.length<=i⟩
def Itt(K:PySem.W.Frag)(a:Addr):It:=
 ⟨λi H=>∃xs x,SqT K H a xs/\xs[i]? =some x,λi H x H'=>H'=H/\∀xs,SqT K H a xs->xs[i]? =some x,λi H=>∃xs,SqT K H a xs/\xs.length<=i⟩
def Itr(lo:Int)(n:Nat):It:=⟨λi _=>i<n,λi H x H'=>H'=H/\x= .int (lo+i),λi _=>n<=i⟩
theorem turn_list{P:Program}{w:World}{K:PySem.W.Frag}{tg:Expr}(a it:Addr):Turn P w K tg (Itl K a) [it] it (λi h=>h.IsListIter it a i) where
 mem:=by simp
 obj:=λi h st b hb=>by
  have e:b=it:=by simpa using hb
  subst e;obtain⟨o,e,c,d⟩:=st;exact⟨o,e,λv z=>by rw[d] at z;cases z⟩
 keep:=λi h h' st k=>st.at λo e=>k it (by simp) o e
 item:=by
  intro X hP hw hK hc i pins s σ H E I hf st hg;subst hP hw hK;obtain⟨xs,x,hq,hx⟩:=hg;obtain⟨its,rv,p,hz⟩:=I.list hq;obtain⟨u,hu,ru⟩:=rv.get hx;obtain⟨f0,f1,f2,f3,f4,f5⟩:=hf it (by simp);refine wpAny_pyNext_list_item st p.isList (x:=u) (by simpa using hu) λh' st' sb=> ?_;have I1:Inv X pins σ H {s with heap:=h'}:=I.turned (t':=s.toks) (λb o hb e=>(sb.2 b hb).trans e) f0 f1 f3 f4 f5;obtain⟨o,e,c,d⟩:=id st';exact⟨u,rfl,go_of (s:={s with heap:=h'}) e c d (by decide) ⟨x,H,I1,ru,⟨rfl,λys hy=>by rw[I.list_inj hy hq];exact hx⟩,st',λb hb=>(hf b hb).1⟩⟩
 done:=by
  intro X hP hw hK hc i pins s σ H E I hf st hg;subst hP hw hK;obtain⟨xs,hq,hx⟩:=hg;obtain⟨its,rv,p,hz⟩:=I.list hq;obtain⟨f0,f1,f2,f3,f4,f5⟩:=hf it (by simp);have hl:=rv.length;exact wpAny_pyNext_list_end (I.ok.hd hc) st p.isList (by simp;omega) λh' eb=>⟨rfl,I.turned (t':=s.toks) (λb o hb e=>eb b o hb e) f0 f1 f3 f4 f5⟩
 self:=λ_ _ _ _ _ st h=>wpAny_pyIter_listiter st h
theorem turn_tuple{P:Program}{w:World}{K:PySem.W.Frag}{tg:Expr}(a it:Addr):Turn P w K tg (Itt K a) [it] it (λi h=>h.IsTupleIter it a i) where
 mem:=by simp
 obj:=λi h st b hb=>by
  have e:b=it:=by simpa using hb
  subst e;obtain⟨o,e,c,d⟩:=st;exact⟨o,e,λv z=>by rw[d] at z;cases z⟩
 keep:=λi h h' st k=>st.at λo e=>k it (by simp) o e
 item:=by
  intro X hP hw hK hc i pins s σ H E I hf st hg;subst hP hw hK;obtain⟨xs,x,hq,hx⟩:=hg;obtain⟨its,rv,p,hz⟩:=I.tuple hq;obtain⟨u,hu,ru⟩:=rv.get hx;obtain⟨f0,f1,f2,f3,f4,f5⟩:=hf it (by simp);refine wpAny_pyNext_tuple_item st (show s.heap.IsTuple a its.toArray from p) (x:=u) (by simpa using hu) λh' st' sb=> ?_;have I1:Inv X pins σ H {s with heap:=h'}:=I.turned (t':=s.toks) (λb o hb e=>(sb.2 b hb).trans e) f0 f1 f3 f4 f5;obtain⟨o,e,c,d⟩:=id st';exact⟨u,rfl,go_of (s:={s with heap:=h'}) e c d (by decide) ⟨x,H,I1,ru,⟨rfl,λys hy=>by rw[I.tuple_inj hy hq];exact hx⟩,st',λb hb=>(hf b hb).1⟩⟩
 done:=by
  intro X hP hw hK hc i pins s σ H E I hf st hg;subst hP hw hK;obtain⟨xs,hq,hx⟩:=hg;obtain⟨its,rv,p,hz⟩:=I.tuple hq;obtain⟨f0,f1,f2,f3,f4,f5⟩:=hf it (by simp);have hl:=rv.length;exact wpAny_pyNext_tuple_end (I.ok.hd hc) st (show s.heap.IsTuple a its.toArray from p) (by simp;omega) λh' eb=>⟨rfl,I.turned (t':=s.toks) (λb o hb e=>eb b o hb e) f0 f1 f3 f4 f5⟩
 self:=λ_ _ _ _ _ st h=>wpAny_pyIter_tupleiter st h
theorem turn_range{P:Program}{w:World}{K:PySem.W.Frag}{tg:Expr}(it:Addr)(lo:Int)(n:Nat):Turn P w K tg (Itr lo n) [it] it (λi h=>IsRangeIter h it (lo+(i:Nat) * 1) ((n:Int) - (i:Nat)) 1) where
 mem:=by simp
 obj:=λi h st b hb=>by
  have e:b=it:=by simpa using hb
  subst e;exact⟨_,st,λv z=>by
   have z':Data.fields _=Data.cell v:=z;cases z'⟩
 keep:=λi h h' st k=>k it (by simp) _ st
 item:=by
  intro X hP hw hK hc i pins s σ H E I hf st hg;subst hP hw hK;obtain⟨f0,f1,f2,f3,f4,f5⟩:=hf it (by simp);have W:=Walks.range (prog:=X.prog) (w:=X.w) (I.ok.hd hc) it lo 1 n;refine W.item i s _ _ hg st λv h' tk hv st' kk=> ?_;obtain⟨t,rfl⟩:=hv;have I1:Inv X pins σ H {s with heap:=h',toks:=tk}:=I.turned (λb o hb e=>kk b o (by simpa using hb) e) f0 f1 f3 f4 f5;refine⟨_,rfl,go_of (s:={s with heap:=h',toks:=tk}) (n:="range_iterator") st' rfl rfl (by decide) ⟨.int (lo+i),H,I1,⟨t,?_⟩,⟨rfl,rfl⟩,st',λb hb=>(hf b hb).1⟩⟩;rw[Int.mul_one]
 done:=by
  intro X hP hw hK hc i pins s σ H E I hf st hg;subst hP hw hK;obtain⟨f0,f1,f2,f3,f4,f5⟩:=hf it (by simp);exact wpAny_pyNext_range_end (I.ok.hd hc) st (by have:n<=i:=hg;omega) λh' eb=>⟨rfl,I.turned (t':=s.toks) (λb o hb e=>eb b o hb e) f0 f1 f3 f4 f5⟩
 self:=λ_ _ _ _ _ st h=>wpAny_pyIter_rangeiter st h
end L2
namespace L2
open PySem PySem.Spec PyProof.Rows
section
variable{X:Cx}{tg:Expr}
def iList(K:PySem.W.Frag)(tl:TE):TI:=λσ H R=>tl σ H λx H1=>∃a,x= .ref a/\(∃xs,SqL K H1 a xs)/\R (Itl K a) H1
def iTup(K:PySem.W.Frag)(tl:TE):TI:=λσ H R=>tl σ H λx H1=>∃a,x= .ref a/\(∃xs,SqT K H1 a xs)/\R (Itt K a) H1
theorem Ce{l:Expr}{tl:TE}(hl:PE X l tl):PI X tg l (iList X.K tl):=by
 intro pins s σ H R I h;refine thn (hl pins s σ H _ I h) λv s1 ⟨x,H1,I1,r1,q1⟩=> ?_;obtain⟨a,e,⟨xs,hq⟩,q⟩:=q1;subst e;cases r1;obtain⟨its,rv,p,hz⟩:=I1.list hq;refine wpAny_pyIter_list p.isList ?_;refine⟨s1.heap.objs.size,[s1.heap.objs.size],_,_,H1,rfl,I1.kept (t':=s1.toks) λb o e=>Heap.get?_push_of_some _ e,turn_list a _,⟨_,Heap.get?_push_size _ rfl,rfl,rfl⟩,λb hb=> ?_,q⟩;have e:b=s1.heap.objs.size:=by simpa using hb
 subst e;exact I1.fpOk (Nat.le_refl _) (I1.hok.fresh (Nat.le_refl _))
theorem Dm{l:Expr}{tl:TE}(hl:PE X l tl):PI X tg l (iTup X.K tl):=by
 intro pins s σ H R I h;refine thn (hl pins s σ H _ I h) λv s1 ⟨x,H1,I1,r1,q1⟩=> ?_;obtain⟨a,e,⟨xs,hq⟩,q⟩:=q1;subst e;cases r1;obtain⟨its,rv,p,hz⟩:=I1.tuple hq;refine wpAny_pyIter_tuple (show s1.heap.IsTuple a its.toArray from p) ?_;refine⟨s1.heap.objs.size,[s1.heap.objs.size],_,_,H1,rfl,I1.kept (t':=s1.toks) λb o e=>Heap.get?_push_of_some _ e,turn_tuple a _,⟨_,Heap.get?_push_size _ rfl,rfl,rfl⟩,λb hb=> ?_,q⟩;have e:b=s1.heap.objs.size:=by simpa using hb
 subst e;exact I1.fpOk (Nat.le_refl _) (I1.hok.fresh (Nat.le_refl _))
theorem range_it{pins:List (Addr×Obj)}{σ:St}{H:Hp}{s:Shared}{R:It->Hp->Prop}{E:Value->Shared->Prop}{lo hi:Int}{t u v:Tok}{tk:Nat}(I:Inv X pins σ H s)(h1: -(2 ^ 62)<=lo)(h2:lo<2 ^ 62)(h3: -(2 ^ 62)<=hi)(h4:hi<2 ^ 62)(q:R (Itr lo (hi - lo).toNat) H):wpAny (model X.prog X.w) X.A (pyIter (.ref s.heap.objs.size)) (PIE X pins σ tg R) E {s with heap:=s.heap.push {cls:= .type "range",data:= .fields #[.int lo t,.int hi u,.int 1 v]},toks:=tk}:=by
 refine wpAny_pyIter_range (IsRange.new ..) (small_one h1 h2 h3 h4) ?_;have I1:Inv X pins σ H {s with heap:=s.heap.push {cls:= .type "range",data:= .fields #[.int lo t,.int hi u,.int 1 v]},toks:=tk}:=I.kept λb o e=>Heap.get?_push_of_some _ e;refine⟨(s.heap.push {cls:= .type "range",data:= .fields #[.int lo t,.int hi u,.int 1 v]}).objs.size,[(s.heap.push {cls:= .type "range",data:= .fields #[.int lo t,.int hi u,.int 1 v]}).objs.size],_,_,H,rfl,
  I1.kept (t':=tk) λb o e=>Heap.get?_push_of_some _ e,turn_range _ lo (hi - lo).toNat,?_,λb hb=> ?_,q⟩
 ·have e1:lo+((0:Nat):Int) * 1=lo:=by simp
  have e2:(((hi - lo).toNat:Nat):Int) - ((0:Nat):Int)=Builtin.Range.rangeSize lo hi 1:=by rw[rangeSize_one];split<;> omega
  show IsRangeIter _ _ (lo+((0:Nat):Int) * 1) ((((hi - lo).toNat:Nat):Int) - ((0:Nat):Int)) 1;rw[e1,e2];exact Heap.get?_push_size _ rfl
 ·have e:b=(s.heap.push {cls:= .type "range",data:= .fields #[.int lo t,.int hi u,.int 1 v]}).objs.size:=by simpa using hb
  subst e;exact I1.fpOk (Nat.le_refl _) (I1.hok.fresh (Nat.le_refl _))
def iRng1(ta:TA):TI:=λσ H R=>ta σ H λvs H1=>∃j:Int,vs=[.int j]/\ -(2 ^ 62)<=j/\j<2 ^ 62/\R (Itr 0 j.toNat) H1
theorem Bt{a:Expr}{ta:TA}{p pos:Pos}(hg:Gl X "range")(hm:X.mg "range"=none)(ha:PA X [a] ta)(hs:starEach [a] X.env=[(false,eval a X.env)]:=by rfl):PI X tg (.Call (.Name "range" p) [a] [] pos) (iRng1 ta):=by
 intro pins s σ H R I h;refine Call_ (ld_blt I hg hm boot_range (PyProof.Rows.callWith_type1 (thn (ha pos pins s σ H _ I h) λus s1 ⟨vs,H1,I1,r1,q1⟩=> ?_) hs rfl));obtain⟨j,e,q1,q2,q⟩:=q1;subst e;cases r1 with
 |cons r rr=>
  cases rr;obtain⟨t,rfl⟩:=r;exact call_range_1 (range_it I1 (by decide) (by decide) q1 q2 (by simpa using q))
def tFor(wi:TI)(g:TG)(tb:TS):TS:=λD σ H=>wi σ H λJ H1=>∃W:Nat->Nat->St->Hp->Prop,(∃m,W 0 m σ H1)/\∀i m σ H,W i m σ H->
 (J.stop i H/\D.nx σ H)\/(J.go i H/\∃N:St->Hp->Prop,(∀σ' H',N σ' H'->∃m',m'<m/\W (i+1) m' σ' H')/\∀x H',J.yld i H x H'->g x σ H' λσ2 H2=>tb {D with nx:=N,ct:=N,bk:=D.nx} σ2 H2)
def pinsAt(fp:List Addr)(h:Heap):List (Addr×Obj):=fp.filterMap λb=>(h.get? b).map λo=>(b,o)
theorem mem_pinsAt{fp:List Addr}{h:Heap}{b:Addr}{o:Obj}(hb:b∈fp)(e:h.get? b=some o):(b,o)∈pinsAt fp h:=List.mem_filterMap.mpr ⟨b,hb,by rw[e];rfl⟩
theorem of_pinsAt{fp:List Addr}{h:Heap}{p:Addr×Obj}(hp:p∈pinsAt fp h):p.1∈fp/\h.get? p.1=some p.2:=by
 obtain⟨b,hb,e⟩:=List.mem_filterMap.mp hp;cases q:h.get? b with
 |none=>rw[q] at e;cases e
 |some o=>
  rw[q] at e;have e':(b,o)=p:=Option.some.inj e;subst e';exact⟨hb,q⟩
theorem Inv.pinned{pins:List (Addr×Obj)}{σ:St}{H:Hp}{s:Shared}{fp:List Addr}(I:Inv X pins σ H s)(hf:∀b∈fp,FpOk X pins H b)(ho:∀b∈fp,∃o,s.heap.get? b=some o/\∀v,o.data≠ .cell v):Inv X (pins++pinsAt fp s.heap) σ H s:=
 I.pins_of λp hp=>(List.mem_append.mp hp).elim (λz=>I.pin p (List.mem_append_right _ z)) λz=>by
  obtain⟨hb,e⟩:=of_pinsAt z;obtain⟨f0,f1,f2,_⟩:=hf p.1 hb;obtain⟨o,e',d⟩:=ho p.1 hb;rw[e] at e';cases e';exact⟨e,f0,f1,f2,d⟩
theorem Inv.unpinned{pins pl:List (Addr×Obj)}{σ:St}{H:Hp}{s:Shared}(I:Inv X (pins++pl) σ H s):Inv X pins σ H s:=I.pins_of λp hp=>I.pin p (List.mem_append_right _ (List.mem_append_left _ hp))
theorem Dx{iter:Expr}{body:List Stmt}{wi:TI}{g:TG}{tb:TS}{pos:Pos}(hp:PassesOwn (model X.prog X.w) X.A X.env X.xe)(hc:X.calm=true)(hi:PI X tg iter wi)(hg:PG X tg g)(hb:PSs X body tb)(hs:∀x,foldedSetIterable iter X.env x=pure x:=by intro _;rfl):PS X (.For tg iter body [] pos) (tFor wi g tb):=by
 intro pins s σ H D I h;refine wpAny_For (thn (hi pins s σ H _ I h) λv s1 h1=>thn h1 λitv s2 h2=> ?_) hs;obtain⟨it,fp,tn,J,H2,e,I2,T,st2,f2,W,⟨m0,w0⟩,turn⟩:=h2;subst e;have stat:∀{H':Hp},(∀b∈fp,H' b=none)->∀b∈fp,FpOk X pins H' b:=λhn b hb=>⟨hn b hb,(f2 b hb).2⟩
 refine codeAny_forLoop_any (λn s'=>∃i σ' H',Inv X pins σ' H' s'/\tn i s'.heap/\(∀b∈fp,H' b=none)/\W i n σ' H') ?_ m0 ⟨0,σ,H2,I2,st2,λb hb=>(f2 b hb).1,w0⟩;rintro n s3 ⟨i,σ3,H3,I3,st3,fr3,w3⟩;rcases turn i n σ3 H3 w3 with⟨stop,qn⟩|⟨go,N,hN,step⟩
 ·refine wpAny_passesOwn hp (thn (T.done X rfl rfl rfl hc i pins s3 σ3 H3 X.xe I3 (stat fr3) st3 stop) λr s4 ⟨hr,I4⟩=> ?_);subst hr;exact wpAny_execs_nil ⟨σ3,H3,I4,qn⟩
 ·refine wpAny_passesOwn hp (thn (T.item X rfl rfl rfl hc i pins s3 σ3 H3 X.xe I3 (stat fr3) st3 go) λr s4 ⟨u,hr,h4⟩=> ?_);subst hr;refine wpAny_passesOwn hp (thn h4 λ_ s5 ⟨x,H5,I5,r5,y5,st5,fr5⟩=> ?_);have I5':=I5.pinned (stat fr5) (T.obj _ _ st5);refine wpAny_passesOwn hp (thn (hg _ s5 σ3 H5 x u _ I5' r5 (step x H5 y5)) λ_ s6 ⟨σ6,H6,I6,q6⟩=> ?_);refine wpAny_passesOwn hp (thn (hb _ s6 σ6 H6 _ I6 q6) λf s7 q7=> ?_);have again:∀{σ7:St} {H7:Hp},Inv X (pins++pinsAt fp s5.heap) σ7 H7 s7->N σ7 H7->∃m,m<n/\∃i σ' H',Inv X pins σ' H' s7/\tn i s7.heap/\(∀b∈fp,H' b=none)/\W i m σ' H':=λ{σ7 H7} I7 n7=>by
   obtain⟨m',hm,w7⟩:=hN σ7 H7 n7;refine⟨m',hm,i+1,σ7,H7,I7.unpinned,T.keep _ _ _ st5 λb hb o e=>(I7.pin (b,o) (List.mem_append_right _ (List.mem_append_right _ (mem_pinsAt hb e)))).1,λb hb=> ?_,w7⟩;obtain⟨o,e,d⟩:=T.obj _ _ st5 b hb;exact(I7.pin (b,o) (List.mem_append_right _ (List.mem_append_right _ (mem_pinsAt hb e)))).2.1
  cases f with
  |next=>obtain⟨σ7,H7,I7,n7⟩:=q7;exact again I7 n7
  |cont=>obtain⟨σ7,H7,I7,n7⟩:=q7;exact again I7 n7
  |brk=>obtain⟨σ7,H7,I7,q7⟩:=q7;exact⟨σ7,H7,I7.unpinned,q7⟩
  |ret v=>obtain⟨x7,σ7,H7,I7,r7,q7⟩:=q7;exact⟨x7,σ7,H7,I7.unpinned,r7,q7⟩
end
theorem for_list{K:PySem.W.Frag}{a:Addr}{xs:List V}{g:TG}{tb:TS}{D:Ends}{σ:St}{H:Hp}(Pv:Nat->St->Hp->Prop)(h0:Pv 0 σ H)(hl:∀i σ H,i<=xs.length->Pv i σ H->SqL K H a xs)(hs:∀i x σ H,xs[i]? =some x->Pv i σ H->g x σ H λσ2 H2=>tb {D with nx:=Pv (i+1),ct:=Pv (i+1),bk:=D.nx} σ2 H2)(hd:∀σ H,Pv xs.length σ H->D.nx σ H):
  ∃W:Nat->Nat->St->Hp->Prop,(∃m,W 0 m σ H)/\∀i m σ H,W i m σ H->
   ((Itl K a).stop i H/\D.nx σ H)\/((Itl K a).go i H/\∃N:St->Hp->Prop,(∀σ' H',N σ' H'->∃m',m'<m/\W (i+1) m' σ' H')/\∀x H',(Itl K a).yld i H x H'->g x σ H' λσ2 H2=>tb {D with nx:=N,ct:=N,bk:=D.nx} σ2 H2):=by
 refine⟨λi m σ H=>m=xs.length - i/\i<=xs.length/\Pv i σ H,⟨xs.length,by simp,Nat.zero_le _,h0⟩,?_⟩;rintro i m σ H ⟨rfl,hi,p⟩;have q:=hl i σ H hi p;by_cases hlt:i<xs.length
 ·refine .inr ⟨⟨xs,xs[i],q,by simp[hlt]⟩,Pv (i+1),λσ' H' p'=>⟨xs.length - (i+1),by omega,rfl,hlt,p'⟩,λx H' y=> ?_⟩;obtain⟨e,y⟩:=y;subst e;exact hs i x σ _ (y xs q) p
 ·have e:i=xs.length:=by omega
  subst e;exact .inl ⟨⟨xs,q,Nat.le_refl _⟩,hd σ H p⟩
theorem for_tup{K:PySem.W.Frag}{a:Addr}{xs:List V}{g:TG}{tb:TS}{D:Ends}{σ:St}{H:Hp}(Pv:Nat->St->Hp->Prop)(h0:Pv 0 σ H)(hl:∀i σ H,i<=xs.length->Pv i σ H->SqT K H a xs)(hs:∀i x σ H,xs[i]? =some x->Pv i σ H->g x σ H λσ2 H2=>tb {D with nx:=Pv (i+1),ct:=Pv (i+1),bk:=D.nx} σ2 H2)(hd:∀σ H,Pv xs.length σ H->D.nx σ H):
  ∃W:Nat->Nat->St->Hp->Prop,(∃m,W 0 m σ H)/\∀i m σ H,W i m σ H->
   ((Itt K a).stop i H/\D.nx σ H)\/((Itt K a).go i H/\∃N:St->Hp->Prop,(∀σ' H',N σ' H'->∃m',m'<m/\W (i+1) m' σ' H')/\∀x H',(Itt K a).yld i H x H'->g x σ H' λσ2 H2=>tb {D with nx:=N,ct:=N,bk:=D.nx} σ2 H2):=by
 refine⟨λi m σ H=>m=xs.length - i/\i<=xs.length/\Pv i σ H,⟨xs.length,by simp,Nat.zero_le _,h0⟩,?_⟩;rintro i m σ H ⟨rfl,hi,p⟩;have q:=hl i σ H hi p;by_cases hlt:i<xs.length
 ·refine .inr ⟨⟨xs,xs[i],q,by simp[hlt]⟩,Pv (i+1),λσ' H' p'=>⟨xs.length - (i+1),by omega,rfl,hlt,p'⟩,λx H' y=> ?_⟩;obtain⟨e,y⟩:=y;subst e;exact hs i x σ _ (y xs q) p
 ·have e:i=xs.length:=by omega
  subst e;exact .inl ⟨⟨xs,q,Nat.le_refl _⟩,hd σ H p⟩
theorem for_range{lo:Int}{n:Nat}{g:TG}{tb:TS}{D:Ends}{σ:St}{H:Hp}(Pv:Nat->St->Hp->Prop)(h0:Pv 0 σ H)(hs:∀i σ H,i<n->Pv i σ H->g (.int (lo+i)) σ H λσ2 H2=>tb {D with nx:=Pv (i+1),ct:=Pv (i+1),bk:=D.nx} σ2 H2)(hd:∀σ H,Pv n σ H->D.nx σ H):
  ∃W:Nat->Nat->St->Hp->Prop,(∃m,W 0 m σ H)/\∀i m σ H,W i m σ H->
   ((Itr lo n).stop i H/\D.nx σ H)\/((Itr lo n).go i H/\∃N:St->Hp->Prop,(∀σ' H',N σ' H'->∃m',m'<m/\W (i+1) m' σ' H')/\∀x H',(Itr lo n).yld i H x H'->g x σ H' λσ2 H2=>tb {D with nx:=N,ct:=N,bk:=D.nx} σ2 H2):=by
 refine⟨λi m σ H=>m=n - i/\i<=n/\Pv i σ H,⟨n,by simp,Nat.zero_le _,h0⟩,?_⟩;rintro i m σ H ⟨rfl,hi,p⟩;by_cases hlt:i<n
 ·refine .inr ⟨hlt,Pv (i+1),λσ' H' p'=>⟨n - (i+1),by omega,rfl,hlt,p'⟩,λx H' y=> ?_⟩;obtain⟨e,y⟩:=y;subst e y;exact hs i σ _ hlt p
 ·have e:i=n:=by omega
  subst e;exact .inl ⟨Nat.le_refl _,hd σ H p⟩
theorem while_by{c:TT}{tb:TS}{D:Ends}{σ:St}{H:Hp}(Pv:St->Hp->Prop)(μ :St->Hp->Nat)(h0:Pv σ H)(hs:∀σ H,Pv σ H->c σ H λb H1=>if b=true then tb {D with nx:=λσ' H'=>Pv σ' H'/\μ σ' H'<μ σ H,ct:=λσ' H'=>Pv σ' H'/\μ σ' H'<μ σ H,bk:=D.nx} σ H1 else D.nx σ H1)(mono:∀σ H Q Q',(∀b H1,Q b H1->Q' b H1)->c σ H Q->c σ H Q'):tWhile c tb D σ H:=by
 refine⟨λm σ H=>m=μ σ H/\Pv σ H,⟨_,rfl,h0⟩,?_⟩;rintro m σ H ⟨rfl,p⟩;refine mono σ H _ _ (λb H1 q=> ?_) (hs σ H p);cases b with
 |true=>exact⟨_,λσ' H' ⟨p',l⟩=>⟨_,l,rfl,p'⟩,q⟩
 |false=>exact q
end L2
namespace L2
open PySem PySem.Spec PyProof.Rows
abbrev R2:=V->V->Hp->VK->Prop
def OpR(X:Cx)(f:Value->Value->Sem Value)(r:R2):Prop:=
 ∀(pins:List (Addr×Obj)) (s:Shared) (σ:St) (H:Hp) (x y:V) (v u:Value) (Q:VK),Inv X pins σ H s->RelV x v->RelV y u->r x y H Q->
  wpAny (model X.prog X.w) X.A (f v u) (EP X pins σ Q) X.xe s
def UnR(X:Cx)(f:Value->Sem Value)(r:V->Hp->VK->Prop):Prop:=
 ∀(pins:List (Addr×Obj)) (s:Shared) (σ:St) (H:Hp) (x:V) (v:Value) (Q:VK),Inv X pins σ H s->RelV x v->r x H Q->
  wpAny (model X.prog X.w) X.A (f v) (EP X pins σ Q) X.xe s
def Dw(X:Cx)(f:Value)(r:List V->Hp->VK->Prop):Prop:=
 ∀(pins:List (Addr×Obj)) (s:Shared) (σ:St) (H:Hp) (xs:List V) (us:List Value) (Q:VK),Inv X pins σ H s->Vals xs us->r xs H Q->
  wpAny (model X.prog X.w) X.A (call f us) (EP X pins σ Q) X.xe s
def TruR(X:Cx)(r:V->Hp->(Bool->Hp->Prop)->Prop):Prop:=
 ∀(pins:List (Addr×Obj)) (s:Shared) (σ:St) (H:Hp) (x:V) (v:Value) (Q:Bool->Hp->Prop),Inv X pins σ H s->RelV x v->r x H Q->
  wpAny (model X.prog X.w) X.A (truthy v) (TP X pins σ Q) X.xe s
def tOp(r:R2)(ta tb:TE):TE:=λσ H Q=>ta σ H λx H1=>tb σ H1 λy H2=>r x y H2 Q
def tUn(r:V->Hp->VK->Prop)(ta:TE):TE:=λσ H Q=>ta σ H λx H1=>r x H1 Q
inductive RIP(C:Int->Int->Prop)(g:Int->Int->V)(x:V)(y:V)(H:Hp)(Q:VK):Prop
 |mk (i j:_):(x= .int i)->(y= .int j)->(C i j)->(Q (g i j) H)->RIP C g x y H Q
def rI(C:Int->Int->Prop)(g:Int->Int->V):R2:=λx y H Q=>RIP C g x y H Q
inductive RI0P(g:Int->Int->V)(x:V)(y:V)(H:Hp)(Q:VK):Prop
 |mk (i j:_):(x= .int i)->(y= .int j)->(Q (g i j) H)->RI0P g x y H Q
def rI0(g:Int->Int->V):R2:=λx y H Q=>RI0P g x y H Q
inductive RUP(g:Int->V)(x:V)(H:Hp)(Q:VK):Prop
 |mk (i:_):(x= .int i)->(Q (g i) H)->RUP g x H Q
def rU(g:Int->V):V->Hp->VK->Prop:=λx H Q=>RUP g x H Q
section
variable{X:Cx}{a b c:Expr}{ta tb tc:TE}{pos:Pos}
theorem binT(ha:PE X a ta)(hb:PE X b tb){pins:List (Addr×Obj)}{s:Shared}{σ:St}{H:Hp}{R:V->V->Hp->Prop}(I:Inv X pins σ H s)(h:ta σ H λx H1=>tb σ H1 λy H2=>R x y H2){Q:Value->Shared->Prop}{f:Value->Value->Sem Value}(hf:∀v u s2 x y H2,Inv X pins σ H2 s2->RelV x v->RelV y u->R x y H2->wpAny (model X.prog X.w) X.A (f v u) Q X.xe s2):
  wpAny (model X.prog X.w) X.A (eval a X.env) (λv s₁=>wpAny (model X.prog X.w) X.A (eval b X.env) (λu s₂=>wpAny (model X.prog X.w) X.A (f v u) Q X.xe s₂) X.xe s₁) X.xe s:=by
 refine thn (ha pins s σ H _ I h) λv s1 ⟨x,H1,I1,r1,q1⟩=> ?_;refine thn (hb pins s1 σ H1 _ I1 q1) λu s2 ⟨y,H2,I2,r2,q2⟩=> ?_;exact hf v u s2 x y H2 I2 r1 r2 q2
theorem Az{op:Operator}{r:R2}(ho:OpR X (binaryOp op) r)(ha:PE X a ta)(hb:PE X b tb):PE X (.BinOp a op b pos) (tOp r ta tb):=by
 intro pins s σ H Q I h;exact wpAny_BinOp (binT ha hb I h λv u s2 x y H2 I2 rx ry q=>ho pins s2 σ H2 x y v u Q I2 rx ry q)
theorem pe_un{op:UnaryOp}{r:V->Hp->VK->Prop}(ho:UnR X (unaryOp op) r)(ha:PE X a ta):PE X (.UnaryOp op a pos) (tUn r ta):=by
 intro pins s σ H Q I h;exact UnaryOp_ (thn (ha pins s σ H _ I h) λv s1 ⟨x,H1,I1,r1,q1⟩=>ho pins s1 σ H1 x v Q I1 r1 q1)
theorem opI{f:Value->Value->Sem Value}{C:Int->Int->Prop}{g:Int->Int->Int}(rule:∀(i j:Int) (t u:Tok) (s:Shared) (Q:Value->Shared->Prop) (E:Value->Shared->Prop),C i j->Q (.int (g i j) s.toks) {s with toks:=s.toks+1}->wpAny (model X.prog X.w) X.A (f (.int i t) (.int j u)) Q E s):
  OpR X f (rI C λi j=> .int (g i j)):=by
 intro pins s σ H x y v u Q I rx ry h;obtain⟨i,j,rfl,rfl,hc,q⟩:=h;obtain⟨t,rfl⟩:=rx;obtain⟨t',rfl⟩:=ry;exact rule i j t t' s _ _ hc ⟨.int (g i j),H,I.tok _,⟨_,rfl⟩,q⟩
theorem opI0{f:Value->Value->Sem Value}{g:Int->Int->Int}(rule:∀(i j:Int) (t u:Tok) (s:Shared) (Q:Value->Shared->Prop) (E:Value->Shared->Prop),Q (.int (g i j) s.toks) {s with toks:=s.toks+1}->wpAny (model X.prog X.w) X.A (f (.int i t) (.int j u)) Q E s):
  OpR X f (rI0 λi j=> .int (g i j)):=by
 intro pins s σ H x y v u Q I rx ry h;obtain⟨i,j,rfl,rfl,q⟩:=h;obtain⟨t,rfl⟩:=rx;obtain⟨t',rfl⟩:=ry;exact rule i j t t' s _ _ ⟨.int (g i j),H,I.tok _,⟨_,rfl⟩,q⟩
theorem opB0{f:Value->Value->Sem Value}{g:Int->Int->Bool}(rule:∀(i j:Int) (t u:Tok) (s:Shared) (Q:Value->Shared->Prop) (E:Value->Shared->Prop),Q (.bool (g i j)) s->wpAny (model X.prog X.w) X.A (f (.int i t) (.int j u)) Q E s):
  OpR X f (rI0 λi j=> .bl (g i j)):=by
 intro pins s σ H x y v u Q I rx ry h;obtain⟨i,j,rfl,rfl,q⟩:=h;obtain⟨t,rfl⟩:=rx;obtain⟨t',rfl⟩:=ry;exact rule i j t t' s _ _ ⟨.bl (g i j),H,I,rfl,q⟩
def CDiv(i j:Int):Prop:=0<j/\j<1073741824
def CPow(i j:Int):Prop:=0<=j/\j<=1000000/\i.natAbs<2 ^ 64
def CMul(i j:Int):Prop:=(-(2 ^ 64)<i/\i<2 ^ 64)\/(-(2 ^ 64)<j/\j<2 ^ 64)
theorem CMul.ok{i j:Int}(h:CMul i j):IntMulOk i j:=by
 rcases h with⟨h1,h2⟩|⟨h1,h2⟩
 ·exact .of_left (intBits_le_64 h1 h2)
 ·exact .of_right (intBits_le_64 h1 h2)
theorem two_pow_nn(k:Nat):(0:Int)<=2 ^ k:=by
 rw[two_pow_cast];exact Int.natCast_nonneg _
theorem Bm:OpR X (binaryOp .Add) (rI0 λi j=> .int (i+j)):=opI0 λ_ _ _ _ _ _ _ q=>add_int q
theorem op_sub:OpR X (binaryOp .Sub) (rI0 λi j=> .int (i - j)):=opI0 λ_ _ _ _ _ _ _ q=>sub_int q
theorem op_mul:OpR X (binaryOp .Mult) (rI CMul λi j=> .int (i * j)):=opI λ_ _ _ _ _ _ _ hc q=>mul_int q hc.ok
theorem op_fdiv:OpR X (binaryOp .FloorDiv) (rI CDiv λi j=> .int (i / j)):=opI λi j _ _ _ _ _ hc q=>by
 have h1:(0:Int)<j:=hc.1;have h2:j<1073741824:=hc.2;exact floordiv_int (by omega) (by rw[Int.fdiv_eq_ediv_of_nonneg i (by omega)];exact q) (.inl (PyProof.noPylong_small (by omega)))
theorem op_mod:OpR X (binaryOp .Mod) (rI (λ_ j=>0<j) λi j=> .int (i % j)):=opI λi j _ _ _ _ _ hc q=>by
 have h1:(0:Int)<j:=hc;exact mod_int' (by omega) (by rw[Int.fmod_eq_emod_of_nonneg i (by omega)];exact q)
theorem op_pow:OpR X (binaryOp .Pow) (rI CPow λi j=> .int (i ^ j.toNat)):=opI λ_ _ _ _ _ _ _ hc q=>pow_int_small hc.1 hc.2.1 hc.2.2 q
theorem op_shr:OpR X (binaryOp .RShift) (rI (λ_ j=>0<=j) λi j=> .int (i / 2 ^ j.toNat)):=opI λi j _ _ _ _ _ hc q=>
 rshift_int hc (by rw[Int.fdiv_eq_ediv_of_nonneg i (two_pow_nn _)];exact q)
theorem unI{f:Value->Sem Value}{g:Int->Int}(rule:∀(i:Int) (t:Tok) (s:Shared) (Q:Value->Shared->Prop) (E:Value->Shared->Prop),Q (.int (g i) s.toks) {s with toks:=s.toks+1}->wpAny (model X.prog X.w) X.A (f (.int i t)) Q E s):
  UnR X f (rU λi=> .int (g i)):=by
 intro pins s σ H x v Q I rx h;obtain⟨i,rfl,q⟩:=h;obtain⟨t,rfl⟩:=rx;exact rule i t s _ _ ⟨.int (g i),H,I.tok _,⟨_,rfl⟩,q⟩
theorem un_neg:UnR X (unaryOp .USub) (rU λi=> .int (-i)):=unI λ_ _ _ _ _ q=>neg_int q
end
def scal:V->V->Bool
 | .non,.non=>true| .non,.int _=>true| .int _,.non=>true| .non,.bl _=>true| .bl _,.non=>true| .non,.str _=>true| .str _,.non=>true
 | .int _,.int _=>true| .bl _,.bl _=>true| .str _,.str _=>true| .byt _,.byt _=>true
 | .int _,.str _=>true| .str _,.int _=>true| .bl _,.str _=>true| .str _,.bl _=>true
 |_,_=>false
def rEq:R2:=λx y H Q=>scal x y=true/\Q (.bl (decide (x=y))) H
def rNe:R2:=λx y H Q=>scal x y=true/\Q (.bl (!decide (x=y))) H
theorem dec_int{i j:Int}:decide (V.int i=V.int j)=(i==j):=by
 rw[Bool.eq_iff_iff];simp
theorem dec_bl{i j:Bool}:decide (V.bl i=V.bl j)=(i==j):=by
 rw[Bool.eq_iff_iff];simp
theorem dec_str{i j:Str}:decide (V.str i=V.str j)=(i==j):=by
 rw[Bool.eq_iff_iff];simp
theorem dec_byt{i j:Array UInt8}:decide (V.byt i=V.byt j)=(i.toList==j.toList):=by
 rw[Bool.eq_iff_iff];cases i;cases j;simp
section
variable{X:Cx}{a b c:Expr}{ta tb tc:TE}{pos:Pos}
theorem A7{pins:List (Addr×Obj)}{σ:St}{H:Hp}{s:Shared}{Q:VK}{k k':Bool}(I:Inv X pins σ H s)(q:Q (.bl k) H)(e:k=k'):EP X pins σ Q (.bool k') s:=by
 subst e;exact⟨.bl k,H,I,rfl,q⟩
theorem Dt:OpR X (compareOp .Eq) rEq:=by
 intro pins s σ H x y v u Q I rx ry h;obtain⟨hs,q⟩:=h;cases x with
 |non=>
  cases rx;cases y with
  |non=>cases ry;exact PySem.EqNone.eq_none_none (A7 I q (by simp))
  |bl j=>cases ry;exact PySem.EqNone.eq_none_bool (A7 I q (by simp))
  |int j=>obtain⟨t',rfl⟩:=ry;exact PySem.EqNone.eq_none_int (A7 I q (by simp))
  |str j=>obtain⟨t',rfl⟩:=ry;exact PySem.EqNone.eq_none_str (A7 I q (by simp))
  |_=>exact absurd (show false=true from hs) Bool.false_ne_true
 |bl i=>
  cases rx;cases y with
  |non=>cases ry;exact PySem.EqNone.eq_bool_none (A7 I q (by simp))
  |bl j=>cases ry;exact eq_bool (A7 I q dec_bl)
  |str j=>obtain⟨t',rfl⟩:=ry;exact PySem.EqMixed.eq_bool_str (A7 I q (by simp))
  |_=>exact absurd (show false=true from hs) Bool.false_ne_true
 |int i=>
  obtain⟨t,rfl⟩:=rx;cases y with
  |non=>cases ry;exact PySem.EqNone.eq_int_none (A7 I q (by simp))
  |int j=>obtain⟨t',rfl⟩:=ry;exact eq_int (A7 I q dec_int)
  |str j=>obtain⟨t',rfl⟩:=ry;exact PySem.EqMixed.eq_int_str (A7 I q (by simp))
  |_=>exact absurd (show false=true from hs) Bool.false_ne_true
 |str i=>
  obtain⟨t,rfl⟩:=rx;cases y with
  |non=>cases ry;exact PySem.EqNone.eq_str_none (A7 I q (by simp))
  |bl j=>cases ry;exact PySem.EqMixed.eq_str_bool (A7 I q (by simp))
  |int j=>obtain⟨t',rfl⟩:=ry;exact PySem.EqMixed.eq_str_int (A7 I q (by simp))
  |str j=>obtain⟨t',rfl⟩:=ry;exact eq_str (A7 I q dec_str)
  |_=>exact absurd (show false=true from hs) Bool.false_ne_true
 |byt i=>
  obtain⟨t,rfl⟩:=rx;cases y with
  |byt j=>obtain⟨t',rfl⟩:=ry;exact PySem.W.eq_bytes (A7 I q dec_byt)
  |_=>exact absurd (show false=true from hs) Bool.false_ne_true
 |_=>cases y<;> exact absurd (show false=true from hs) Bool.false_ne_true
theorem op_ne:OpR X (compareOp .NotEq) rNe:=by
 intro pins s σ H x y v u Q I rx ry h;obtain⟨hs,q⟩:=h;cases x with
 |non=>
  cases rx;cases y with
  |non=>cases ry;exact PySem.EqNone.ne_none_none (A7 I q (by simp))
  |bl j=>cases ry;exact PySem.EqNone.ne_none_bool (A7 I q (by simp))
  |int j=>obtain⟨t',rfl⟩:=ry;exact PySem.EqNone.ne_none_int (A7 I q (by simp))
  |str j=>obtain⟨t',rfl⟩:=ry;exact PySem.EqNone.ne_none_str (A7 I q (by simp))
  |_=>exact absurd (show false=true from hs) Bool.false_ne_true
 |bl i=>
  cases rx;cases y with
  |non=>cases ry;exact PySem.EqNone.ne_bool_none (A7 I q (by simp))
  |bl j=>cases ry;exact ne_bool (A7 I q (congrArg not dec_bl))
  |str j=>obtain⟨t',rfl⟩:=ry;exact PySem.EqMixed.ne_bool_str (A7 I q (by simp))
  |_=>exact absurd (show false=true from hs) Bool.false_ne_true
 |int i=>
  obtain⟨t,rfl⟩:=rx;cases y with
  |non=>cases ry;exact PySem.EqNone.ne_int_none (A7 I q (by simp))
  |int j=>obtain⟨t',rfl⟩:=ry;exact ne_int (A7 I q (congrArg not dec_int))
  |str j=>obtain⟨t',rfl⟩:=ry;exact PySem.EqMixed.ne_int_str (A7 I q (by simp))
  |_=>exact absurd (show false=true from hs) Bool.false_ne_true
 |str i=>
  obtain⟨t,rfl⟩:=rx;cases y with
  |non=>cases ry;exact PySem.EqNone.ne_str_none (A7 I q (by simp))
  |bl j=>cases ry;exact PySem.EqMixed.ne_str_bool (A7 I q (by simp))
  |int j=>obtain⟨t',rfl⟩:=ry;exact PySem.EqMixed.ne_str_int (A7 I q (by simp))
  |str j=>obtain⟨t',rfl⟩:=ry;exact ne_str (A7 I q (congrArg not dec_str))
  |_=>exact absurd (show false=true from hs) Bool.false_ne_true
 |byt i=>
  obtain⟨t,rfl⟩:=rx;cases y with
  |byt j=>obtain⟨t',rfl⟩:=ry;exact PySem.W.ne_bytes (A7 I q (congrArg not dec_byt))
  |_=>exact absurd (show false=true from hs) Bool.false_ne_true
 |_=>cases y<;> exact absurd (show false=true from hs) Bool.false_ne_true
theorem op_lt:OpR X (compareOp .Lt) (rI0 λi j=> .bl (decide (i<j))):=opB0 λ_ _ _ _ _ _ _ q=>lt_int q
theorem op_le:OpR X (compareOp .LtE) (rI0 λi j=> .bl (decide (i<=j))):=opB0 λ_ _ _ _ _ _ _ q=>le_int q
theorem op_gt:OpR X (compareOp .Gt) (rI0 λi j=> .bl (decide (j<i))):=opB0 λ_ _ _ _ _ _ _ q=>gt_int q
theorem op_ge:OpR X (compareOp .GtE) (rI0 λi j=> .bl (decide (j<=i))):=opB0 λ_ _ _ _ _ _ _ q=>ge_int q
theorem op_lt_str:OpR X (compareOp .Lt) (λx y H Q=>∃i j,x= .str i/\y= .str j/\Q (.bl (decide (i.cps.toList<j.cps.toList))) H):=by
 intro pins s σ H x y v u Q I rx ry h;obtain⟨i,j,rfl,rfl,q⟩:=h;obtain⟨t,rfl⟩:=rx;obtain⟨t',rfl⟩:=ry;exact lt_str (A7 I q rfl)
theorem op_isN:OpR X (compareOp .Is) (λx y H Q=>y= .non/\Q (.bl (decide (x= .non))) H):=by
 intro pins s σ H x y v u Q I rx ry h;obtain⟨rfl,q⟩:=h;cases ry;refine is_none_gen (A7 I q ?_);cases x<;> first
  |(cases rx;rfl)
  |(obtain⟨t,rfl⟩:=rx;rfl)
theorem op_notN:OpR X (compareOp .IsNot) (λx y H Q=>y= .non/\Q (.bl (!decide (x= .non))) H):=by
 intro pins s σ H x y v u Q I rx ry h;obtain⟨rfl,q⟩:=h;cases ry;refine isnot_none_gen (A7 I q ?_);cases x<;> first
  |(cases rx;rfl)
  |(obtain⟨t,rfl⟩:=rx;rfl)
theorem Ay(b:Expr){op:CmpOp}(h:op≠ .In:=by decide)(h2:op≠ .NotIn:=by decide):behindInMarks op b=false:=by
 have e1:(op==CmpOp.In)=false:=by cases op<;> first|rfl|exact absurd rfl h
 have e2:(op==CmpOp.NotIn)=false:=by cases op<;> first|rfl|exact absurd rfl h2
 cases b<;> simp[behindInMarks,e1,e2]
theorem Bo{op:CmpOp}{r:R2}(ho:OpR X (compareOp op) r)(ha:PE X a ta)(hb:PE X b tb)(hm:behindInMarks op b=false):PE X (.Compare a [op] [b] pos) (tOp r ta tb):=by
 intro pins s σ H Q I h;exact wpAny_Compare1 (binT ha hb I h λv u s2 x y H2 I2 rx ry q=>ho pins s2 σ H2 x y v u Q I2 rx ry q) hm
def tTest(t:TE):TT:=λσ H Q=>t σ H λx H'=>BlP x H' Q
theorem Au{op:CmpOp}{r:R2}(ho:OpR X (compareOp op) r)(ha:PE X a ta)(hb:PE X b tb)(hm:behindInMarks op b=false):PT X (.Compare a [op] [b] pos) (tTest (tOp r ta tb)):=by
 intro pins s σ H Q I h;refine wpAny_isTrue_Compare1 (thn (ha pins s σ H _ I h) λv s1 ⟨x,H1,I1,r1,q1⟩=>thn (hb pins s1 σ H1 _ I1 q1) λu s2 ⟨y,H2,I2,r2,q2⟩=>
  thn (ho pins s2 σ H2 x y v u _ I2 r1 r2 q2) λc s3 ⟨z,H3,I3,r3,k,e,q3⟩=> ?_) hm
 subst e;cases r3;exact wpAny_truthy_bool ⟨H3,I3,q3⟩
def tChain(r r':R2)(ta tb tc:TE):TE:=λσ H Q=>ta σ H λx H1=>tb σ H1 λy H2=>r x y H2 λz H3=>∃k,z= .bl k/\
 (if k=true then tc σ H3 λw' H4=>r' y w' H4 Q else Q (.bl false) H3)
theorem pe_chain{op op':CmpOp}{r r':R2}(ho:OpR X (compareOp op) r)(ho':OpR X (compareOp op') r')(ha:PE X a ta)(hb:PE X b tb)(hc:PE X c tc)(hm:lastMarks [op,op'] [b,c]=false:=by with_unfolding_all rfl):PE X (.Compare a [op,op'] [b,c] pos) (tChain r r' ta tb tc):=by
 intro pins s σ H Q I h;refine Compare_chain (thn (ha pins s σ H _ I h) λv s1 ⟨x,H1,I1,r1,q1⟩=>chain_link (thn (hb pins s1 σ H1 _ I1 q1) λu s2 ⟨y,H2,I2,r2,q2⟩=>
  thn (ho pins s2 σ H2 x y v u _ I2 r1 r2 q2) λd s3 ⟨z,H3,I3,r3,k,e,q3⟩=> ?_)) hm
 subst e;cases r3;refine wpAny_truthy_bool ?_;cases k with
 |false=>exact ite_ff ⟨.bl false,H3,I3,rfl,q3⟩
 |true=>exact ite_tt (chain_last (thn (hc pins s3 σ H3 _ I3 q3) λw' s4 ⟨z',H4,I4,r4,q4⟩=>ho' pins s4 σ H4 y z' u w' Q I4 r2 r4 q4))
theorem pt_chain{op op':CmpOp}{r r':R2}(ho:OpR X (compareOp op) r)(ho':OpR X (compareOp op') r')(ha:PE X a ta)(hb:PE X b tb)(hc:PE X c tc)(hm:lastMarks [op,op'] [b,c]=false:=by with_unfolding_all rfl):PT X (.Compare a [op,op'] [b,c] pos) (tTest (tChain r r' ta tb tc)):=by
 intro pins s σ H Q I h;refine isTrue_chain (thn (ha pins s σ H _ I h) λv s1 ⟨x,H1,I1,r1,q1⟩=>test_link (thn (hb pins s1 σ H1 _ I1 q1) λu s2 ⟨y,H2,I2,r2,q2⟩=>
  thn (ho pins s2 σ H2 x y v u _ I2 r1 r2 q2) λd s3 ⟨z,H3,I3,r3,k,e,q3⟩=> ?_)) hm
 subst e;cases r3;refine wpAny_truthy_bool ?_;cases k with
 |false=>
  obtain⟨k',e',q'⟩:=q3;cases e';exact ite_ff ⟨H3,I3,q'⟩
 |true=>
  refine ite_tt (test_last (thn (hc pins s3 σ H3 _ I3 q3) λw' s4 ⟨z',H4,I4,r4,q4⟩=>thn (ho' pins s4 σ H4 y z' u w' _ I4 r2 r4 q4) λd' s5 ⟨z2,H5,I5,r5,k2,e2,q5⟩=> ?_));subst e2;cases r5;exact wpAny_truthy_bool ⟨H5,I5,q5⟩
def TruV(K:PySem.W.Frag)(x:V)(H:Hp)(k:Bool):Prop:=
 match x with
 | .non=>k=false
 | .bl b=>k=b
 | .int i=>k=(i !=0)
 | .str y=>y.length<=sizeLine/\k=((y.length:Int) !=0)
 | .byt y=>y.size<=sizeLine/\k=((y.size:Int) !=0)
 | .ref p=>(∃xs,SqL K H p xs/\k= !xs.isEmpty)\/(∃xs,SqT K H p xs/\k= !xs.isEmpty)\/∃kvs,H p=some (.dK kvs)/\k= !kvs.isEmpty
 |_=>False
theorem isEmpty_kv{κ:Type}{kvs:List (κ×V)}{vs:List (κ×Value)}(r:KV kvs vs):(!vs.isEmpty)= !kvs.isEmpty:=by
 cases r<;> rfl
theorem isEmpty_of{xs:List V}{its:List Value}(r:Vals xs its):(!its.toArray.isEmpty)= !xs.isEmpty:=by
 cases r<;> simp
theorem line63:(sizeLine:Nat)<2 ^ 63:=by rw[sizeLine_eq];decide
theorem tru_ok:TruR X (λx H Q=>∃k,TruV X.K x H k/\Q k H):=by
 intro pins s σ H x v Q I rx h;obtain⟨k,e,q⟩:=h;have hl:=line63;have hs:sizeLine=16777216:=sizeLine_eq;cases x with
 |non=>
  cases rx;have e':k=false:=e;subst e';exact truthy_none ⟨H,I,q⟩
 |bl b=>
  cases rx;have e':k=b:=e;subst e';exact wpAny_truthy_bool ⟨H,I,q⟩
 |int i=>
  obtain⟨t,rfl⟩:=rx;have e':k=(i !=0):=e;subst e';exact PySem.P.truthy_int ⟨H,I,q⟩
 |str y=>
  obtain⟨t,rfl⟩:=rx;obtain⟨hy,e'⟩:y.length<=sizeLine/\k=((y.length:Int) !=0):=e;subst e';exact PySem.P.truthy_str (by omega) ⟨H,I.tok _,q⟩
 |byt y=>
  obtain⟨t,rfl⟩:=rx;obtain⟨hy,e'⟩:y.size<=sizeLine/\k=((y.size:Int) !=0):=e;subst e';exact PySem.W.truthy_bytes (by exact Nat.le_trans (by assumption) (by decide)) ⟨H,I.tok _,q⟩
 |ref p=>
  cases rx;have e':(∃xs,SqL X.K H p xs/\k= !xs.isEmpty)\/(∃xs,SqT X.K H p xs/\k= !xs.isEmpty)\/∃kvs,H p=some (.dK kvs)/\k= !kvs.isEmpty:=e;rcases e' with⟨xs,hx,e'⟩|⟨xs,hx,e'⟩|⟨kvs,hx,e'⟩
  ·subst e';obtain⟨its,r,pl,hz⟩:=I.list hx;have hlen:=r.length;exact wpAny_truthy_list pl.isList (by simp only[List.size_toArray];omega) ⟨H,I.tok _,by rw[isEmpty_of r];exact q⟩
  ·subst e';obtain⟨its,r,pl,hz⟩:=I.tuple hx;have hlen:=r.length;exact truthy_tuple pl (by simp only[List.size_toArray];omega) ⟨H,I.tok _,by rw[isEmpty_of r];exact q⟩
  ·subst e';obtain⟨hz,hS,vs,r,m⟩:kvs.length<=sizeLine/\(p==sysModules)=false/\∃vs,KV kvs vs/\s.heap.DictOf (Bl X.prog X.w) p vs:=I.hok p _ hx;have hlen:kvs.length=vs.length:=Paired.length r;exact wpAny_truthy_dict hS m (by omega) ⟨H,I.tok _,by rw[isEmpty_kv r];exact q⟩
 |_=>exact(show False from e).elim
theorem pt_truth(ha:PE X a ta)(he:∀whole,isTrue a X.env whole=(do let v <-whole;standAt a.pos;holding [v] (truthy v))):
  PT X a (λσ H Q=>ta σ H λx H'=>∃k,TruV X.K x H' k/\Q k H'):=by
 intro pins s σ H Q I h;exact isTrue_plain (thn (ha pins s σ H _ I h) λv s1 ⟨x,H1,I1,r1,q1⟩=>tru_ok pins s1 σ H1 x v Q I1 r1 q1) (he _)
theorem op_add_str:OpR X (binaryOp .Add) (λx y H Q=>∃i j,x= .str i/\y= .str j/\i.length+j.length<=sizeLine/\Q (.str (i++j)) H):=by
 intro pins s σ H x y v u Q I rx ry h;obtain⟨i,j,rfl,rfl,hz,q⟩:=h;obtain⟨t,rfl⟩:=rx;obtain⟨t',rfl⟩:=ry;exact add_str (λt' tk=>⟨.str (i++j),H,I.tok _,⟨_,rfl⟩,q⟩) hz
theorem Dz{x:V}{us:List Value}(r:Vals [x] us):∃u,us=[u]/\RelV x u:=by
 cases r with
 |cons r1 r2=>cases r2;exact⟨_,rfl,r1⟩
theorem vals2{x y:V}{us:List Value}(r:Vals [x,y] us):∃u w',us=[u,w']/\RelV x u/\RelV y w':=by
 cases r with
 |cons r1 r2=>
  cases r2 with
  |cons r3 r4=>cases r4;exact⟨_,_,rfl,r1,r3⟩
theorem call_max2(hc:X.calm=true):Dw X (.builtin "max") (λxs H Q=>∃i j,xs=[.int i,.int j]/\Q (.int (if j > i then j else i)) H):=by
 intro pins s σ H xs us Q I r h;obtain⟨i,j,rfl,q⟩:=h;obtain⟨u,w',rfl,⟨t,rfl⟩,⟨t',rfl⟩⟩:=vals2 r;refine max_two_ints (I.ok.hd hc) λh' tk k=>⟨_,H,I.kept k,?_,q⟩
 by_cases hj:j > i
 ·rw[if_pos hj,if_pos hj];exact⟨_,rfl⟩
 ·rw[if_neg hj,if_neg hj];exact⟨_,rfl⟩
theorem call_min2(hc:X.calm=true):Dw X (.builtin "min") (λxs H Q=>∃i j,xs=[.int i,.int j]/\Q (.int (if j<i then j else i)) H):=by
 intro pins s σ H xs us Q I r h;obtain⟨i,j,rfl,q⟩:=h;obtain⟨u,w',rfl,⟨t,rfl⟩,⟨t',rfl⟩⟩:=vals2 r;refine min_two_ints (I.ok.hd hc) λh' tk k=>⟨_,H,I.kept k,?_,q⟩
 by_cases hj:j<i
 ·rw[if_pos hj,if_pos hj];exact⟨_,rfl⟩
 ·rw[if_neg hj,if_neg hj];exact⟨_,rfl⟩
theorem call_int1:Dw X (.type "int") (λxs H Q=>(∃i,xs=[.int i]/\Q (.int i) H)\/∃k,xs=[.bl k]/\Q (.int (if k then 1 else 0)) H):=by
 intro pins s σ H xs us Q I r h;rcases h with⟨i,rfl,q⟩|⟨k,rfl,q⟩
 ·obtain⟨u,rfl,t,rfl⟩:=Dz r;exact call_int_int ⟨.int i,H,I,⟨_,rfl⟩,q⟩
 ·obtain⟨u,rfl,r1⟩:=Dz r;cases r1;exact call_int_bool ⟨.int (if k then 1 else 0),H,I.tok _,⟨_,rfl⟩,q⟩
end
end L2
namespace L2
open PySem PySem.Spec PyProof.Rows
structure ObjM(h:Heap)(x dx C:Addr)(mA:Str->Option Value):Prop where
 obj:h.get? x=some (PySem.W.instObj C dx)
 ns:h.Ns1 dx mA
 ne:dx≠x
theorem lookIn_ns{h:Heap}{dx:Addr}{mA:Str->Option Value}(n:h.Ns1 dx mA):∃od,h.get? dx=some od/\∀name,PySem.W.lookIn name od=some (mA name):=by
 obtain⟨o,es,ep,ho,hd,hk,_,hm⟩:=n;refine⟨o,ho,λname=> ?_⟩;have e:=hm name;unfold nsFind findBy at e;rw[<-Array.find?_toList] at e;unfold PySem.W.lookIn;rw[hd];dsimp only;split
 ·rename_i y q;rw[q] at e;exact congrArg some e
 ·rename_i q;rw[q] at e;have a:es.toList.any (·.refKey)=false:=by
   rw[List.any_eq_false];intro y hy;obtain⟨z,t,hkey⟩:=hk y (Array.mem_toList_iff.mp hy);simp[DictEntry.refKey,hkey]
  have a':¬es.toList.any (·.refKey)=true:=by rw[a];exact Bool.false_ne_true
  rw[if_neg a'];exact congrArg some e
theorem ObjM.look{h:Heap}{x dx C:Addr}{mA:Str->Option Value}(I:ObjM h x dx C mA):∃od,PySem.W.InstAt h x (PySem.W.instObj C dx) C (some od)/\∀name,PySem.W.lookIn name od=some (mA name):=
 let ⟨od,ho,hl⟩:=lookIn_ns I.ns
 ⟨od,⟨I.obj,rfl,rfl,ho⟩,hl⟩
theorem RelO.some_of{v:V}{o:Option Value}(r:RelO (some v) o):∃u,o=some u/\RelV v u:=by
 cases o with
 |none=>exact(show False from r).elim
 |some u=>exact⟨u,rfl,r⟩
section
variable{P:Program}{w:World}{H H':Hp}{h h':Heap}{a C dx:Addr}{fs fs':List (Str×V)}
theorem ins_get(hok:HOk P w H h)(e:H a=some (.ins C dx fs)):∃mA,ObjM h a dx C mA/\(∀f,RelO (fs.lookup f) (mA f))/\PySem.Within mA (fs.map (·.1))/\fs.length<=1000/\H dx=some (.own a):=by
 obtain⟨d,z,ne,ob,mA,n,r,q⟩:=(show ObjOk P w H h a (.ins C dx fs) from hok a _ e)
 exact⟨mA,⟨ob,n,ne⟩,r,q,z,d⟩
end
structure Cls(K:PySem.W.Frag)(C:Addr):Prop where
 pg:PySem.W.plainGet K C Str.empty=true
 hd:PySem.W.hasDictIn K C=true
 po:PySem.W.plainOver K C=true
 sa:PySem.W.findIn K (.ref C) "__setattr__"=some (some (.builtin "object.__setattr__"))
theorem Cls.get{K:PySem.W.Frag}{C:Addr}(c:Cls K C)(f:Str):PySem.W.plainGet K C f=true:=c.pg
section
variable{X:Cx}{pins:List (Addr×Obj)}{σ:St}{H:Hp}{s:Shared}{A:Around}{E:Value->Shared->Prop}{Q:Value->Shared->Prop}{c:Value}{b:Bool}
inductive TyOf(K:PySem.W.Frag)(H:Hp):V->Value->Prop where
 |non:TyOf K H .non (.type "NoneType")
 |bl (x:Bool):TyOf K H (.bl x) (.type "bool")
 |int (i:Int):TyOf K H (.int i) (.type "int")
 |str (x:Str):TyOf K H (.str x) (.type "str")
 |flt (x:UInt64):TyOf K H (.flt x) (.type "float")
 |lst {a:Addr} {xs:List V} (e:H a=some (.lst xs)):TyOf K H (.ref a) (.type "list")
 |frz {a:Addr} {o:Obj} {xs:List V} (e:H a=some (.frz o (.lst xs))):TyOf K H (.ref a) (.type "list")
 |tup {a:Addr} {xs:List V} (e:H a=some (.tup xs)):TyOf K H (.ref a) (.type "tuple")
 |dK {a:Addr} {kvs:List (Key×V)} (e:H a=some (.dK kvs)):TyOf K H (.ref a) (.type "dict")
 |dT {a:Addr} {kvs:List (List Key×V)} (e:H a=some (.dT kvs)):TyOf K H (.ref a) (.type "dict")
 |ins {a C dx:Addr} {fs:List (Str×V)} (e:H a=some (.ins C dx fs)) (cl:Cls K C) (ha:PySem.W.findIn K (.ref C) "__class__"=some (some (.builtin "object.__class__")))
  (hn:PySem.W.specialIn K (.builtin "object.__class__") "__get__"=some (some (.builtin "getset_descriptor.__get__"))) (htk:PySem.W.takesIn K (.builtin "object.__class__")=some true)
  (hm:PySem.W.mroIn K C (.type "object")=some true):TyOf K H (.ref a) (.ref C)
theorem isinst_ok{x:V}{u t:Value}(I:Inv X pins σ H s)(rx:RelV x u)(ty:TyOf X.K H x t)(e:PySem.W.kitOne X.K t c=some b)(h:∀tk,Q (.bool b) {s with toks:=tk}):
  wpAny (model X.prog X.w) A (call (.builtin "isinstance") [u,c]) Q E s:=by
 cases ty with
 |non=>cases (show u=Value.none from rx);exact PySem.W.kia_one PySem.W.kitx_none I.kIn True.intro e (λz=>nomatch z) h
 |bl y=>cases (show u=Value.bool y from rx);exact PySem.W.kia_one PySem.W.kitx_bool I.kIn True.intro e (λz=>nomatch z) h
 |int i=>obtain⟨t,q⟩:=(show ∃t,u=Value.int i t from rx);cases q;exact PySem.W.kia_one PySem.W.kitx_int I.kIn True.intro e (λz=>nomatch z) h
 |str y=>obtain⟨t,q⟩:=(show ∃t,u=Value.str y t from rx);cases q;exact PySem.W.kia_one PySem.W.kitx_str I.kIn True.intro e (λz=>nomatch z) h
 |flt y=>obtain⟨t,q⟩:=(show ∃t,u=Value.float y t from rx);cases q;exact PySem.W.kia_one PySem.W.kitx_float I.kIn True.intro e (λz=>nomatch z) h
 | @lst a xs ea=>
  cases (show u=Value.ref a from rx);obtain⟨_,_,n,_,h1⟩:=(show ObjOk X.prog X.w H s.heap a (.lst xs) from I.hok a _ ea)
  exact PySem.W.kia_one PySem.W.kitx_list I.kIn ⟨_,h1,rfl⟩ e (λz=>nomatch z) h
 | @frz a ob xs ea=>
  cases (show u=Value.ref a from rx);obtain⟨_,_,_,n,_,h1⟩:=(show ObjOk X.prog X.w H s.heap a (.frz ob (.lst xs)) from I.hok a _ ea)
  exact PySem.W.kia_one PySem.W.kitx_list I.kIn ⟨_,h1,rfl⟩ e (λz=>nomatch z) h
 | @tup a xs ea=>
  cases (show u=Value.ref a from rx);obtain⟨_,_,_,p⟩:=(show ObjOk X.prog X.w H s.heap a (.tup xs) from I.hok a _ ea)
  obtain⟨o,h1,h2,_⟩:=p;exact PySem.W.kia_one PySem.W.kitx_tuple I.kIn ⟨o,h1,h2⟩ e (λz=>nomatch z) h
 | @dK a kvs ea=>
  cases (show u=Value.ref a from rx);obtain⟨_,_,vs,_,p⟩:=(show ObjOk X.prog X.w H s.heap a (.dK kvs) from I.hok a _ ea)
  obtain⟨o,es,ep,h1,h2,_⟩:=p;exact PySem.W.kia_one PySem.W.kitx_dict I.kIn ⟨o,h1,h2.1⟩ e (λz=>nomatch z) h
 | @dT a kvs ea=>
  cases (show u=Value.ref a from rx);obtain⟨_,_,xs,_,o,es,ep,h1,h2,_⟩:=(show ObjOk X.prog X.w H s.heap a (.dT kvs) from I.hok a _ ea)
  exact PySem.W.kia_one PySem.W.kitx_dict I.kIn ⟨o,h1,h2.1⟩ e (λz=>nomatch z) h
 | @ins a C dx fs ea cl ha hn htk hm=>
  cases (show u=Value.ref a from rx);obtain⟨mA,O,_⟩:=ins_get I.hok ea;obtain⟨od,J,_⟩:=O.look;exact PySem.W.kia_one (PySem.W.kitx_own (cl.get _) cl.hd ha hn htk hm) I.kIn J e (λz=>nomatch z) h
end
end L2
namespace L2
open PySem PySem.Spec PyProof.Rows
structure Room(k:Nat)(A:Around):Prop where
 hd:A.handled=none
 dp:A.depth+3 * k+5<recursionLimit
 un:A.units+16 * k+200<cLine
 gd:A.guards=some []
theorem Room.mono{j k:Nat}{A:Around}(r:Room k A)(h:j<=k):Room j A:=⟨r.hd,by have:=r.dp;omega,by have:=r.un;omega,r.gd⟩
theorem Room.deeper{k:Nat}{A:Around}(r:Room (k+1) A)(env:Env):Room k (A.deeper env):=
 ⟨r.hd,by have:=r.dp;show A.depth+1+3 * k+5<_;omega,by have:=r.un;show A.units+3+16 * k+200<_;omega,by show pushGuards [] A.guards=some [];rw[r.gd];rfl⟩
theorem Room.depth{k:Nat}{A:Around}(r:Room k A):A.depth<recursionLimit:=by have:=r.dp;omega
theorem Room.units{k:Nat}{A:Around}(r:Room k A):A.units+64<cLine:=by have:=r.un;omega
def tNil:TA:=λ_ H Q=>Q [] H
def tCons(ta:TE)(tr:TA):TA:=λσ H Q=>ta σ H λx H1=>tr σ H1 λxs H2=>Q (x::xs) H2
section
variable{X:Cx}{e:Expr}{es:List Expr}{te:TE}{t:TA}{pos:Pos}
theorem Ac:PA X [] tNil:=λ_ _ _ _ H Q I h=>Calls.spliced_nil ⟨[],H,I,.nil,h⟩
theorem Aa(ha:PE X e te)(hr:PA X es t)(hs:starEach (e::es) X.env=(false,eval e X.env)::starEach es X.env:=by rfl):PA X (e::es) (tCons te t):=by
 intro pos pins s σ H Q I h;rw[hs];show wpAny _ _ (spliced ((false,eval e X.env)::backTo pos (starEach es X.env))) _ _ s;refine Calls.spliced_cons (thn (ha pins s σ H _ I h) λu s1 ⟨x,H1,I1,r1,q1⟩=> ?_);exact thn (hr pos pins s1 σ H1 _ I1 q1) λus s2 ⟨xs,H2,I2,r2,q2⟩=>⟨x::xs,H2,I2,.cons r1 r2,q2⟩
def tTup(t:TA):TE:=λσ H Q=>t σ H λxs H1=>xs.length<=sizeLine/\∀p,H1 p=none->Q (.ref p) (upd H1 p (.tup xs))
def tLst(t:TA):TE:=λσ H Q=>t σ H λxs H1=>xs.length<=sizeLine/\∀p,H1 p=none->Q (.ref p) (upd H1 p (.lst xs))
theorem Bk{x1}(h:PA X es t):PE X (.Tuple es x1 pos) (tTup t):=by
 intro pins s σ H Q I hq;refine wpAny_Tuple_spliced (thn (h pos pins s σ H _ I hq) λus s1 ⟨xs,H1,I1,r,z,q⟩=>⟨by rw[<-r.length];exact z,?_⟩);have hf:H1 s1.heap.objs.size=none:=I1.hok.fresh (Nat.le_refl _);refine⟨.ref s1.heap.objs.size,upd H1 s1.heap.objs.size (.tup xs),I1.laid (t':=s1.toks) (λb u e=>Heap.get?_push_of_some _ e) (Nat.le_refl _) ?_,rfl,q _ hf⟩;exact⟨z,us,r,IsTupN.new _ _⟩
theorem Cm(h:PA X es t):PE X (.List es pos) (tLst t):=by
 intro pins s σ H Q I hq;refine wpAny_List_spliced (thn (h pos pins s σ H _ I hq) λus s1 ⟨xs,H1,I1,r,z,q⟩=>⟨by rw[<-r.length];exact z,?_⟩);have hf:H1 s1.heap.objs.size=none:=I1.hok.fresh (Nat.le_refl _);refine⟨.ref s1.heap.objs.size,upd H1 s1.heap.objs.size (.lst xs),I1.laid (t':=s1.toks) (λb u e=>Heap.get?_push_of_some _ e) (Nat.le_refl _) ?_,rfl,q _ hf⟩;exact⟨z,us,0,r,Heap.get?_push_size _ rfl⟩
end
abbrev Sp:=List V->Hp->VK->XK->Prop
abbrev CXT:=List Env->Hp->Shared->XK->Value->Shared->Prop
structure Env0(P:Program)(w:World)(K:PySem.W.Frag)(mg:Str->Option Value)(base:Heap)(A:Around)(outer:List Env)(s:Shared)(H:Hp):Prop where
 frames:A.frames=some outer
 mod:Mod K mg base
 bs:∀b o,base.get? b=some o->s.heap.get? b=some o/\H b=none
 bsz:base.objs.size<=s.heap.objs.size
 funs:s.heap.FunFrames base outer
 frf:∀b∈frs outer,H b=none
 hok:HOk P w H s.heap
 bare:AllBare s.gens
def CE(outer:List Env)(P:Program)(w:World)(H:Hp)(s:Shared)(Q:VK)(u:Value)(s':Shared):Prop:=
 ∃v H',s'.os=s.os/\AllBare s'.gens/\Un (frs outer) [] H H' s.heap s'.heap/\HOk P w H' s'.heap/\RelV v u/\Q v H'
def CR(CX:CXT)(outer:List Env)(P:Program)(w:World)(H:Hp)(s:Shared)(Q:VK)(E:XK)(r:Result)(s':Shared):Prop:=
 match r with
 | .ok (.ret u)=>CE outer P w H s Q u s'
 | .ok _=>False
 | .error e=>CX outer H s E e s'
structure FnOk(P:Program)(w:World)(K:PySem.W.Frag)(mg:Str->Option Value)(base:Heap)(CX:CXT)(k:Nat)(f:Addr)(fd:FuncData)(ps:List Str)(sp:Sp):Prop where
 len:∀vs H Q E,sp vs H Q E->vs.length=ps.length
 run:∀(A:Around) (outer:List Env) (s:Shared) (H:Hp) (args:Args) (us:List Value) (vs:List V) (Q:VK) (E:XK),Room k A->Env0 P w K mg base A outer s H->BindsTo s fd args (ps.zip us)->Vals vs us->sp vs H Q E->
  codeAny (model P w) A (.call (.ref f) args) (CR CX outer P w H s Q E) s
theorem FnOk.mono{P:Program}{w:World}{K:PySem.W.Frag}{mg:Str->Option Value}{base:Heap}{CX:CXT}{j k:Nat}{f:Addr}{fd:FuncData}{ps:List Str}{sp:Sp}(F:FnOk P w K mg base CX j f fd ps sp)(h:j<=k):
  FnOk P w K mg base CX k f fd ps sp:=⟨F.len,λA outer s H args us vs Q E hr=>F.run A outer s H args us vs Q E (hr.mono h)⟩
theorem FnOk.imp{P:Program}{w:World}{K:PySem.W.Frag}{mg:Str->Option Value}{base:Heap}{CX:CXT}{k:Nat}{f:Addr}{fd:FuncData}{ps:List Str}{sp sp':Sp}(F:FnOk P w K mg base CX k f fd ps sp)(h:∀vs H Q E,sp' vs H Q E->sp vs H Q E):FnOk P w K mg base CX k f fd ps sp':=
 ⟨λvs H Q E q=>F.len vs H Q E (h _ _ _ _ q),λA outer s H args us vs Q E hr he hb hv hs=>F.run A outer s H args us vs Q E hr he hb hv (h _ _ _ _ hs)⟩
section
variable{X:Cx}{pins:List (Addr×Obj)}{σ:St}{H:Hp}{s s':Shared}
theorem Inv.env0(I:Inv X pins σ H s):Env0 X.prog X.w X.K X.mg X.base X.A X.stack s H:=
 ⟨I.ok.frames,I.ok.mod,I.bs,Nat.le_trans I.ok.bsz I.sz,I.stack,I.stkFree,I.hok,I.bare⟩
theorem Inv.after{Q:VK}{u:Value}(I:Inv X pins σ H s)(h:CE X.stack X.prog X.w H s Q u s'):EP X pins σ Q u s':=by
 obtain⟨v,H',os,bare,un,hok,r,q⟩:=h;obtain⟨hh,g,d,t,os'⟩:=s';obtain rfl:os'=s.os:=os;exact⟨v,H',I.call (h':=hh) (g':=g) (d':=d) (t':=t) (ch:=[]) un hok bare (λb z=>absurd z (by simp)),r,q⟩
end
def tCall(sp:Sp)(dvs:List V)(E:XK)(t:TA):TE:=λσ H Q=>t σ H λvs H1=>sp (vs++dvs) H1 Q E
def Binds(K:PySem.W.Frag)(fd:FuncData)(ps:List Str)(ds:List Value):Prop:=
 ∀(s:Shared) (us:List Value),K.In s.heap->(us++ds).length=ps.length->BindsTo s fd ⟨us,[]⟩ (ps.zip (us++ds))
theorem Binds.all{K:PySem.W.Frag}{fd:FuncData}{ps:List Str}(h:∀us:List Value,us.length=ps.length->bindArgs fd ⟨us,[]⟩=pure (ps.zip us)):Binds K fd ps []:=λs us _ hl=>by
 rw[List.append_nil] at hl ⊢;exact .of_eq (h us hl)
def Passes(CX:CXT)(X:Cx)(E:XK):Prop:=∀(pins:List (Addr×Obj)) (σ:St) (H:Hp) (s:Shared) (e:Value) (s':Shared),Inv X pins σ H s->CX X.stack H s E e s'->X.xe e s'
section
variable{X:Cx}{CX:CXT}{k:Nat}{f C:Addr}{fd:FuncData}{ps:List Str}{sp:Sp}{dvs:List V}{ds:List Value}{E:XK}{x m:Str}{p pos apos:Pos}{e o:Expr}{es:List Expr}{ta:TE}{t:TA}
theorem run_fn{pins:List (Addr×Obj)}{σ:St}{H:Hp}{s:Shared}{Q:VK}{us:List Value}{vs:List V}(F:FnOk X.prog X.w X.K X.mg X.base CX k f fd ps sp)(hr:Room k X.A)(hb:Binds X.K fd ps ds)(hd:Vals dvs ds)(hx:Passes CX X E)(I:Inv X pins σ H s)(r:Vals vs us)(h:sp (vs++dvs) H Q E):wpAny (model X.prog X.w) X.A (call (.ref f) us) (EP X pins σ Q) X.xe s:=by
 have r2:Vals (vs++dvs) (us++ds):=r.append hd;have hl:(us++ds).length=ps.length:=by rw[<-r2.length];exact F.len _ _ _ _ h
 refine wpAny_call (codeAny_mono (F.run X.A X.stack s H ⟨us,[]⟩ (us++ds) (vs++dvs) Q E hr I.env0 (hb s us I.kIn hl) r2 h) λr s' hq=> ?_);cases r with
 |error e=>exact hx pins σ H s e s' I hq
 |ok fl=>
  cases fl with
  |ret u=>exact I.after hq
  |next=>exact False.elim hq
  |brk=>exact False.elim hq
  |cont=>exact False.elim hq
theorem pe_call(F:FnOk X.prog X.w X.K X.mg X.base CX k f fd ps sp)(hr:Room k X.A)(hg:Gl X x)(hm:X.mg x=some (.ref f))(hk:PySem.W.keepIn X.K (.ref f)=true)(hb:Binds X.K fd ps ds)(hd:Vals dvs ds)(hx:Passes CX X E)(ha:PA X (e::es) t)(hdb:(x==("__debug__":Str))=false:=by decide)(he:starEach (e::es) X.env=(false,eval e X.env)::starEach es X.env:=by rfl)(hpl:(backTo pos (starEach es X.env)).any (·.1)=false:=by rfl):
  PE X (.Call (.Name x p) (e::es) [] pos) (tCall sp dvs E t):=by
 intro pins s σ H Q I h;refine wpAny_Call_Name_kw (ld_glob I hg hm ?_ hdb);refine PySem.W.callWith_K (h₀:=X.base) I.ok.mod.kin hk (thn (ha pos pins s σ H _ I h) λus s1 ⟨vs,H1,I1,r,q⟩=>⟨I1.kIn,?_⟩) he hpl;exact run_fn F hr hb hd hx I1 r q
end
section
variable{X:Cx}{CX:CXT}{k:Nat}{f C:Addr}{fd:FuncData}{ps ks:List Str}{sp:Sp}{E:XK}{x m:Str}{p pos apos kpos:Pos}{e o:Expr}{es:List Expr}{kws:List Keyword}{te ta:TE}{t tk:TA}{nm:Option Str}
variable{g:List Value->List Value->List Value}{gV:List V->List V->List V}
end
structure Av(N P:List Str)(sc:Scope):Prop where
 kind:sc.kind= .function
 co:sc.isCoroutine=false
 gen:sc.isGenerator=false
 nd:N.Nodup
 pre:N.take P.length=P
 par:∀x∈P,sc.names.lookup x=some .local\/sc.names.lookup x=some .cell
 nofree:∀y∈sc.names,y.2≠ .free
theorem bindL_out{kindOf:Str->Option NameKind}{x:Str}:∀{binds:List (Str×Value)} {m:Str->Option Value},(∀v,(x,v) ∉ binds)->bindL kindOf binds m x=m x
 |[],_,_=>rfl
 |(n,v)::r,m,h=>by
  unfold bindL;rw[bindL_out λw hw=>h w (List.mem_cons_of_mem _ hw)];split
  ·have:x≠n:=by rintro rfl;exact h v List.mem_cons_self
   simp[this]
  ·rfl
theorem bindC_out{kindOf:Str->Option NameKind}{x:Str}:∀{binds:List (Str×Value)} {m:Str->Option Value},(∀v,(x,v) ∉ binds)->bindC kindOf binds m x=m x
 |[],_,_=>rfl
 |(n,v)::r,m,h=>by
  unfold bindC;rw[bindC_out λw hw=>h w (List.mem_cons_of_mem _ hw)];split
  ·rfl
  ·have:x≠n:=by rintro rfl;exact h v List.mem_cons_self
   simp[this]
theorem bindL_get{kindOf:Str->Option NameKind}{x:Str}{v:Value}:∀{P:List Str} {vs:List Value} {i:Nat} {m:Str->Option Value},P.Nodup->P[i]? =some x->vs[i]? =some v->kindOf x=some .local->
  bindL kindOf (P.zip vs) m x=some v
 |[],_,_,_,_,h,_,_=>by simp at h
 |_::_,[],_,_,_,_,h,_=>by simp at h
 |p::P,w::vs,0,m,nd,h1,h2,hk=>by
  simp at h1 h2;subst h1;subst h2;show bindL kindOf ((p,w)::P.zip vs) m p=_;unfold bindL;rw[bindL_out λv hv=>(List.nodup_cons.mp nd).1 (List.of_mem_zip hv).1,if_pos hk];simp
 |p::P,w::vs,i+1,m,nd,h1,h2,hk=>by
  show bindL kindOf ((p,w)::P.zip vs) m x=_;unfold bindL;exact bindL_get (i:=i) (List.nodup_cons.mp nd).2 (by simpa using h1) (by simpa using h2) hk
theorem bindC_get{kindOf:Str->Option NameKind}{x:Str}{v:Value}:∀{P:List Str} {vs:List Value} {i:Nat} {m:Str->Option Value},P.Nodup->P[i]? =some x->vs[i]? =some v->kindOf x≠some .local->
  bindC kindOf (P.zip vs) m x=some v
 |[],_,_,_,_,h,_,_=>by simp at h
 |_::_,[],_,_,_,_,h,_=>by simp at h
 |p::P,w::vs,0,m,nd,h1,h2,hk=>by
  simp at h1 h2;subst h1;subst h2;show bindC kindOf ((p,w)::P.zip vs) m p=_;unfold bindC;rw[bindC_out λv hv=>(List.nodup_cons.mp nd).1 (List.of_mem_zip hv).1,if_neg hk];simp
 |p::P,w::vs,i+1,m,nd,h1,h2,hk=>by
  show bindC kindOf ((p,w)::P.zip vs) m x=_;unfold bindC;exact bindC_get (i:=i) (List.nodup_cons.mp nd).2 (by simpa using h1) (by simpa using h2) hk
def start(N:List Str)(vs:List V):St:=vs.map some++List.replicate (N.length - vs.length) none
def cxOf(CX:CXT)(P:Program)(w:World)(K:PySem.W.Frag)(mg:Str->Option Value)(base:Heap)(N:List Str)(qual:Str)(scope:Scope)(f:Addr)(cd:Value)(A:Around)(outer:List Env)(s:Shared)(H:Hp)(E:XK):Cx where
 prog:=P
 w:=w
 K:=K
 mg:=mg
 base:=base
 A:=A.deeper (envOfC qual scope s.heap.objs.size f cd)
 N:=N
 s₀:=s
 H₀:=H
 env:=envOfC qual scope s.heap.objs.size f cd
 outer:=outer
 stack:=envOfC qual scope s.heap.objs.size f cd::outer
 ex:=[]
 calm:=true
 fn:=λ_=>true
 pn:=[]
 xe:=λe s'=>wpAny (model P w) (A.deeper (envOfC qual scope s.heap.objs.size f cd)) (leaving (envOfC qual scope s.heap.objs.size f cd) e) (λ_ s''=>CX outer H s E e s'') (λe' s''=>CX outer H s E e' s'') s'
theorem cell_has{sc:Scope}{n:Nat}{x:Str}(h:sc.names.lookup x=some .cell):∃c,(cellsFrom n sc.names []).lookup x=some c:=by
 have q:=PySem.W.cellsFrom_some sc.names n [] (.inl h);exact Option.isSome_iff_exists.mp q
theorem inv_start{CX:CXT}{P:Program}{w:World}{K:PySem.W.Frag}{mg:Str->Option Value}{base:Heap}{N ps:List Str}{qual:Str}{scope:Scope}{f:Addr}{cd:Value}{A:Around}{outer:List Env}{s s1:Shared}{H:Hp}{E:XK}{us:List Value}{vs:List V}(S:Av N ps scope)(hd:A.handled=none)(e0:Env0 P w K mg base A outer s H)(hl:vs.length=ps.length)(r:Vals vs us)(x:InCallC s s.heap.objs.size (bindL (envOfC qual scope s.heap.objs.size f cd).kindOf (ps.zip us) λ_=>none) (cellsFrom (s.heap.objs.size+1) scope.names []) (bindC (envOfC qual scope s.heap.objs.size f cd).kindOf (ps.zip us) λ_=>none) s1):
  Inv (cxOf CX P w K mg base N qual scope f cd A outer s H E) [] (start N vs) H s1:=by
 have hpl:ps.length<=N.length:=by have:=congrArg List.length S.pre;rw[List.length_take] at this;omega
 obtain⟨h1,tk,rfl,hk⟩:=x.done;have noA:∀b:Addr,b ∉ (cxOf CX P w K mg base N qual scope f cd A outer s H E).ex:=λb z=>absurd (show b∈([]:List Addr) from z) (by simp);refine⟨⟨e0.mod,S.kind,rfl,rfl,Nat.le_refl _,λy z c h1 h2=> ?_,λy hy=> ?_,λy c _ h=> ?_,λ_=>hd,Around.frames_deeper e0.frames,.inr ⟨rfl,rfl⟩,λb z=>absurd z (noA b),e0.bs,e0.bsz,λb _ _=>noA b,λb z=>absurd z (noA b),e0.funs,e0.frf⟩,
  rfl,e0.bare,Un.kept hk,⟨_,x.toInCall.ns,λi y v h1 h2 h3=> ?_⟩,λy c h=>⟨_,x.cell y c h⟩,e0.hok.fresh (Nat.le_refl _),λy c h=> ?_,λp hp=>absurd (show p∈([]:List (Addr×Obj)) from hp) (by simp),e0.hok.kept hk,?_⟩
 ·exact name_of_addr x.apart (PySem.mem_of_lookup h1) (PySem.mem_of_lookup h2)
 ·have hy:scope.names.lookup y=some .cell\/scope.names.lookup y=some .free:=hy;rcases hy with hy|hy
  ·exact cell_has hy
  ·exact absurd rfl (S.nofree _ (PySem.mem_of_lookup hy))
 ·exact Nat.le_of_lt (x.above y c (PySem.mem_of_lookup h))
 ·have hi:i<vs.length:=by
   unfold start at h2;by_cases hi:i<vs.length
   ·exact hi
   ·rw[List.getElem?_append_right (by simpa using hi)] at h2;rw[List.getElem?_replicate] at h2;split at h2<;> cases h2
  have ha:vs[i]? =some v:=by
   unfold start at h2;rw[List.getElem?_append_left (by simpa using hi),List.getElem?_map] at h2;cases e:vs[i]? with
   |none=>rw[e] at h2;cases h2
   |some a=>rw[e] at h2;cases h2;rfl
  obtain⟨u,hu,rv⟩:=r.get ha;have hp:ps[i]? =some y:=by
   rw[<-S.pre,List.getElem?_take_of_lt (by omega)];exact h1
  have ndP:ps.Nodup:=by rw[<-S.pre];exact S.nd.sublist (List.take_sublist _ _)
  refine⟨u,rv,?_⟩;rcases S.par y (List.mem_of_getElem? hp) with k|k
  ·exact .inl ⟨k,bindL_get ndP hp hu k⟩
  ·obtain⟨c,e⟩:=cell_has (n:=s.heap.objs.size+1) k;refine .inr ⟨.inl k,c,e,?_⟩;have q:=x.cell y c e;rw[bindC_get ndP hp hu (by show scope.names.lookup y≠_;rw[k];decide)] at q;exact q
 ·exact e0.hok.fresh (Nat.le_of_lt (x.above y c (PySem.mem_of_lookup h)))
 ·unfold start;show _=N.length;rw[List.length_append,List.length_map,List.length_replicate];omega
theorem fn_of{CX:CXT}{P:Program}{w:World}{K:PySem.W.Frag}{mg:Str->Option Value}{base:Heap}{k:Nat}{f:Addr}{name qual:Str}{params:Arguments}{body:List Stmt}{scope:Scope}{dV kV doc pm cdv ct oc:Value}{an od:Option Addr}{osl:Array (Option Value)}{N ps:List Str}{sp:Sp}(lk:K.lookup f=some ⟨oc,od,.func (PySem.W.fnOf name qual params body scope dV kV doc pm an cdv ct),osl⟩)(hcd:PySem.W.codeIn K cdv qual=true)(S:Av N ps scope)(len:∀vs H Q E,sp vs H Q E->vs.length=ps.length)(hbody:∀(A:Around) (outer:List Env) (s:Shared) (H:Hp) (vs:List V) (Q:VK) (E:XK),Room k (A.deeper (envOfC qual scope s.heap.objs.size f cdv))->sp vs H Q E->
   ∃t,PSs (cxOf CX P w K mg base N qual scope f cdv A outer s H E) body t/\t {nx:=λ_ H'=>Q .non H',rt:=Q} (start N vs) H):
  FnOk P w K mg base CX (k+1) f (PySem.W.fnOf name qual params body scope dV kV doc pm an cdv ct) ps sp:=by
 refine⟨len,λA outer s H args us vs Q E hr e0 hb r hsp=> ?_⟩;have hl:=len _ _ _ _ hsp;have KX:K.In s.heap:=e0.mod.kin.keeps λb o e=>(e0.bs b o e).1;have lim:s.heap.NoLimit:=e0.mod.nolimit.keeps λb o e=>(e0.bs b o e).1;have hkind:∀y∈ps.zip us,scope.names.lookup y.1=some .local\/(scope.names.lookup y.1=some .cell/\((cellsFrom (s.heap.objs.size+1) scope.names []).lookup y.1).isSome=true):=λ⟨n,v⟩ hy=>by
  rcases S.par n (List.of_mem_zip hy).1 with q|q
  ·exact .inl q
  ·exact .inr ⟨q,PySem.W.cellsFrom_some _ _ _ (.inl q)⟩
 refine codeAny_call_function hr.depth (KX _ _ lk) rfl S.co S.gen rfl (PySem.W.codeRec_of KX hcd) (hb _ _ _ _ ?_);refine wpAny_newFunctionEnv_cells S.kind hkind λenv he s1 x=> ?_;subst he;refine⟨lim.keeps x.toInCall.keep,codeAny_func ?_⟩;obtain⟨t,ht,hq⟩:=hbody A outer s H vs Q E (hr.deeper _) hsp;have I:Inv (cxOf CX P w K mg base N qual scope f cdv A outer s H E) [] (start N vs) H s1:=inv_start S hr.hd e0 hl r x;refine wpAny_mono (ht [] s1 (start N vs) H _ I hq) (λfl s' hs=> ?_) λe s' hs=>hs;have fin:∀{σ':St} {H':Hp} {v:V} {u:Value},Inv (cxOf CX P w K mg base N qual scope f cdv A outer s H E) [] σ' H' s'->RelV v u->Q v H'->CE outer P w H s Q u s':=
  λ{σ' H' v u} J rv q=>⟨v,H',J.os,J.bare,J.base,J.hok,rv,q⟩
 cases fl with
 |ret u=>
  obtain⟨v,σ',H',J,rv,q⟩:=hs;exact fin J rv q
 |next=>
  obtain⟨σ',H',J,q⟩:=hs;exact fin (v:=V.non) (u:=Value.none) J rfl q
 |brk=>
  obtain⟨_,_,_,q⟩:=hs;exact False.elim q
 |cont=>
  obtain⟨_,_,_,q⟩:=hs;exact False.elim q
end L2
namespace L2
open PySem PySem.Spec PyProof.Rows
section
variable{X:Cx}{x:Str}{p pos:Pos}{e:Expr}{es:List Expr}{t:TA}{id T:String}{r:List V->Hp->VK->Prop}
def tCB(r:List V->Hp->VK->Prop)(t:TA):TE:=λσ H Q=>t σ H λvs H1=>r vs H1 Q
theorem Am(hc:Dw X (.builtin id) r)(hg:Gl X x)(hm:X.mg x=none)(hv:bootBuiltins x=some (.builtin id))(ha:PA X (e::es) t)(hn:x≠"__name__":=by decide)(hdb:(x==("__debug__":Str))=false:=by decide)(he:starEach (e::es) X.env=(false,eval e X.env)::starEach es X.env:=by rfl)(hpl:(backTo pos (starEach es X.env)).any (·.1)=false:=by rfl):PE X (.Call (.Name x p) (e::es) [] pos) (tCB r t):=by
 intro pins s σ H Q I h;refine wpAny_Call_Name_kw (ld_blt I hg hm hv ?_ hn hdb);exact PyProof.Rows.callWith_builtin1 (thn (ha pos pins s σ H _ I h) λus s1 ⟨vs,H1,I1,r1,q1⟩=>hc pins s1 σ H1 vs us Q I1 r1 q1) he hpl
theorem A3(hc:Dw X (.type T) r)(hg:Gl X x)(hm:X.mg x=none)(hv:bootBuiltins x=some (.type T))(ha:PA X (e::es) t)(hn:x≠"__name__":=by decide)(hdb:(x==("__debug__":Str))=false:=by decide)(he:starEach (e::es) X.env=(false,eval e X.env)::starEach es X.env:=by rfl)(hpl:(backTo pos (starEach es X.env)).any (·.1)=false:=by rfl):PE X (.Call (.Name x p) (e::es) [] pos) (tCB r t):=by
 intro pins s σ H Q I h;refine wpAny_Call_Name_kw (ld_blt I hg hm hv ?_ hn hdb);exact PyProof.Rows.callWith_type1 (thn (ha pos pins s σ H _ I h) λus s1 ⟨vs,H1,I1,r1,q1⟩=>hc pins s1 σ H1 vs us Q I1 r1 q1) he hpl
end
end L2
namespace HT
open PySem PyProof.Rows
section
open PySem.SeqAt
open PySem.AutoSeq1 (wpAny_loadPart')
open PySem.MeetsSeq PySem.MeetsSeq2 PySem.MeetsSeq3
end
section
variable{prog:Program}{w:World}{A:Around}{E:Value->Shared->Prop}{s:Shared}
theorem cat_tup{t b:Addr}{vs ws:List Value}{Q:Value->Shared->Prop}(ht:IsTup s.heap t vs.toArray)(hb:IsTup s.heap b ws.toArray)(hv:vs≠[])(h1:ws=[]->Q (.ref t) s)(h2:ws≠[]->Q (.ref s.heap.objs.size) {s with heap:=s.heap.push {cls:= .type "tuple",data:= .seq (vs++ws).toArray}})(hsz:vs.length+ws.length<=sizeLine):wpAny (model prog w) A (binaryOp .Add (.ref t) (.ref b)) Q E s:=by
 obtain⟨⟨cls,dd,data,sl⟩,ho,hc,n,hd⟩:=id ht;obtain⟨⟨cls2,dd2,data2,sl2⟩,ho2,hc2,n2,hd2⟩:=id hb;simp only at hc hd hc2 hd2;subst hc hd hc2 hd2;have e:vs.toArray++ws.toArray=(vs++ws).toArray:=by simp
 by_cases hw:ws=[]
 ·exact concat_meets ⟨_,ho,rfl⟩ ⟨_,ho2,rfl⟩ noFill_tuple_add seq_tuple_add PySem.F.slot_tuple_add PySem.F.entry_tuple_add (PySem.F.args_tuple_add_2 _ _)
   (tuple_addW1 t b vs.toArray ws.toArray n n2 dd dd2 sl sl2 (by simpa using hv) (by simp[hw])) ⟨ho,ho2,h1 hw⟩
 ·refine concat_meets ⟨_,ho,rfl⟩ ⟨_,ho2,rfl⟩ noFill_tuple_add seq_tuple_add PySem.F.slot_tuple_add PySem.F.entry_tuple_add (PySem.F.args_tuple_add_2 _ _)
   (tuple_addW2 t b vs.toArray ws.toArray n n2 dd dd2 sl sl2 (by simpa using hv) (by simpa using hw) (by rw[List.size_toArray,List.size_toArray];exact hsz)) ⟨ho,ho2,?_⟩
  rw[e];exact h2 hw
def sIx(n d:Nat):Option Int->Nat
 |none=>d
 |some v=>if v<0 then (v+(n:Int)).toNat else min v.toNat n
theorem sIx_none(n d:Nat):sIx n d none=d:=rfl
theorem sIx_nat(n d k:Nat):sIx n d (some (k:Int))=min k n:=by
 show (if (k:Int)<0 then ((k:Int)+(n:Int)).toNat else min (k:Int).toNat n)=min k n;rw[if_neg (by omega),Int.toNat_natCast]
theorem sIx_le(n d:Nat)(hd:d<=n)(o:Option Int):sIx n d o<=n:=by
 cases o with
 |none=>exact hd
 |some v=>
  show (if v<0 then (v+(n:Int)).toNat else min v.toNat n)<=n;by_cases hv:v<0
  ·rw[if_pos hv];omega
  ·rw[if_neg hv];exact Nat.min_le_right _ _
theorem clip_eq(v:Int)(n d:Nat):(if v<0 then max (v+(n:Int)) 0 else min v (n:Int))=((sIx n d (some v):Nat):Int):=by
 show (if v<0 then max (v+(n:Int)) 0 else min v (n:Int))=(((if v<0 then (v+(n:Int)).toNat else min v.toNat n):Nat):Int);by_cases hv:v<0
 ·simp only[if_pos hv];omega
 ·simp only[if_neg hv];omega
theorem adjust_gen(lo hi:Option Int)(n:Nat):Builtin.Slice.sliceAdjust lo hi 1 (n:Int)=(((sIx n 0 lo:Nat):Int),((sIx n n hi:Nat):Int)):=by
 have h1:¬((1:Int)<0):=by decide
 unfold Builtin.Slice.sliceAdjust;simp only[h1,if_false];refine Prod.ext ?_ ?_
 ·cases lo with
  |none=>rfl
  |some v=>exact clip_eq v n 0
 ·cases hi with
  |none=>rfl
  |some v=>exact clip_eq v n n
theorem places_gen(i j:Nat):Builtin.Slice.slicePlaces (i:Int) (j:Int) 1=j - i:=by
 unfold Builtin.Slice.slicePlaces;have h1:(1:Int) > 0:=by decide
 simp only[h1,if_true,Int.ediv_one];split<;> omega
theorem slicePart_{v:Value}{o:Option Int}{Q:Option Int->Shared->Prop}(p:IsPart v o)(h:Q o s):wpAny (model prog w) A (Builtin.Slice.slicePartIndex v) Q E s:=by
 cases p with
 |none=>exact slicePart_none h
 |int i t=>exact slicePart_int h
theorem sliceApplied_gen{sl:Addr}{vl vu:Value}{lo hi:Option Int}{n:Nat}{Q:Int×Int×Nat->Shared->Prop}(hs:s.heap.IsSliceOf sl vl vu .none)(pl:IsPart vl lo)(pu:IsPart vu hi)(h:Q (((sIx n 0 lo:Nat):Int),1,sIx n n hi - sIx n 0 lo) s):wpAny (model prog w) A (Builtin.Slice.sliceApplied (.ref sl) (pure (n:Int))) Q E s:=by
 obtain⟨os,hos,hcs,hds⟩:=id hs;unfold Builtin.Slice.sliceApplied Builtin.Slice.sliceFields;refine wpAny_bind (wpAny_bind (wpAny_field hos hds (x:=vl) rfl (wpAny_bind (wpAny_field hos hds (x:=vu) rfl (wpAny_bind (wpAny_field hos hds (x:= .none) rfl (wpAny_pure ?_)))))));refine wpAny_bind (slicePart_none ?_);show wpAny _ _ (if ((1:Int)==0)=true then _ else _) _ _ s;rw[if_neg (by decide)];refine wpAny_bind (slicePart_ pl (wpAny_bind (slicePart_ pu (wpAny_bind (wpAny_pure ?_)))));show wpAny _ _ (match Builtin.Slice.sliceAdjust lo hi 1 (n:Int) with|(lo,hi)=>pure (lo,(1:Int),Builtin.Slice.slicePlaces lo hi 1)) _ _ s;rw[adjust_gen lo hi n];show wpAny _ _ (pure (((sIx n 0 lo:Nat):Int),(1:Int),Builtin.Slice.slicePlaces ((sIx n 0 lo:Nat):Int) ((sIx n n hi:Nat):Int) 1)) _ _ s;rw[places_gen];exact wpAny_pure h
theorem pick_gen(xs:Array Value)(i k:Nat):((List.range k).filterMap λ(m:Nat)=>xs[((i:Int)+(m:Int) * 1).toNat]?).toArray=((xs.toList.drop i).take k).toArray:=by
 have e:(λ(m:Nat)=>xs[((i:Int)+(m:Int) * 1).toNat]?)=λm=>xs[i+m]? :=by
  funext m
  have:((i:Int)+(m:Int) * 1).toNat=i+m:=by omega
  rw[this]
 rw[e];have:=pick_run xs i k;rw[List.filterMap_map] at this;have e2:((λx=>xs[x]?)∘λx=>i+x)=λm=>xs[i+m]? :=rfl;rw[e2] at this;rw[this]
theorem getItem_tuple_cut{t sl:Addr}{items:Array Value}{vl vu:Value}{lo hi:Option Int}{Q:Value->Shared->Prop}(ht:IsTup s.heap t items)(hs:s.heap.IsSliceOf sl vl vu .none)(pl:IsPart vl lo)(pu:IsPart vu hi)(hw:¬(sIx items.size 0 lo=0/\sIx items.size items.size hi=items.size))(h:Q (.ref s.heap.objs.size) {s with heap:=s.heap.push {cls:= .type "tuple",data:= .seq ((items.toList.drop (sIx items.size 0 lo)).take (sIx items.size items.size hi - sIx items.size 0 lo)).toArray}})(hsz:items.size<=sizeLine):wpAny (model prog w) A (getItem (.ref t) (.ref sl)) Q E s:=by
 have htake:sizeOk (.seq ((items.toList.drop (sIx items.size 0 lo)).take (sIx items.size items.size hi - sIx items.size 0 lo)).toArray):=by
  show ((items.toList.drop (sIx items.size 0 lo)).take (sIx items.size items.size hi - sIx items.size 0 lo)).toArray.size<=sizeLine;rw[List.size_toArray,List.length_take,List.length_drop,Array.length_toList];omega
 have hj:sIx items.size items.size hi<=items.size:=sIx_le _ _ (Nat.le_refl _) hi;obtain⟨os,hos,hcs,hds⟩:=id hs;have hTs:s.TypeIs (.ref sl) "slice":=⟨os,hos,hcs⟩
 unfold getItem
 try with_reducible refine wpAny_holding ?_
 first|refine wpAny_bind (wpAny_pure ?_)|skip
 refine wpAny_bind (wpAny_sequenceKey ht.typeIs (by decide) ?_);refine wpAny_bind (wpAny_callSpecial?_slot (name:=Str.ofString "__getitem__") ht.typeIs PyProof.Rows.slot_tuple_getitem
  (wpAny_call_entry PyProof.Rows.slot_tuple_getitem ht.typeIs entry_tuple_getitem ?_ (args_tuple_getitem _ _)))
 show wpAny _ _ (Builtin.Tuple.tupleItemsOf (.ref t) >>=_) _ _ s;refine wpAny_bind (tupleItemsOf_ ht ?_);refine wpAny_bind (wpAny_typeOf hTs ?_);rw[if_pos (by decide)];refine wpAny_bind (sliceApplied_gen hs pl pu ?_);have hno:¬((((sIx items.size 0 lo:Nat):Int)==0 && (1:Int)==1 && (sIx items.size items.size hi - sIx items.size 0 lo)==items.size)=true):=by
  intro q;rw[Bool.and_eq_true,Bool.and_eq_true] at q;have q1:((sIx items.size 0 lo:Nat):Int)=0:=eq_of_beq q.1.1;have q2:sIx items.size items.size hi - sIx items.size 0 lo=items.size:=eq_of_beq q.2;exact hw ⟨by omega,by omega⟩
 show wpAny _ _ (if (((sIx items.size 0 lo:Nat):Int)==0 && (1:Int)==1 && (sIx items.size items.size hi - sIx items.size 0 lo)==items.size)=true then _ else _) _ _ s;rw[if_neg hno,pick_gen]
 first
  |exact wpAny_bind (m:=Builtin.Tuple.tupleExact _) (wpAny_newObj_type (wpAny_pure ⟨_,rfl,wpAny_pure h⟩) htake)
  |exact wpAny_bind (m:=Builtin.Tuple.tupleExact _) (wpAny_newObj_type (wpAny_bind (wpAny_pure (wpAny_pure ⟨_,rfl,wpAny_pure h⟩))) htake)
  |exact wpAny_bind (wpAny_bind (m:=Builtin.Tuple.tupleExact _) (wpAny_newObj_type (wpAny_pure (wpAny_pure ⟨_,rfl,wpAny_pure h⟩)) htake))
  |exact wpAny_bind (wpAny_bind (m:=Builtin.Tuple.tupleExact _) (wpAny_newObj_type (wpAny_pure ⟨_,rfl,wpAny_pure h⟩) htake))
end
end HT
namespace L2
open PySem PySem.Spec PyProof.Rows
abbrev TO:=St->Hp->(Option Int->Hp->Prop)->Prop
def PO(X:Cx)(e:Option Expr)(t:TO):Prop:=
 ∀(pins:List (Addr×Obj)) (s:Shared) (σ:St) (H:Hp) (Q:Option Int->Hp->Prop),Inv X pins σ H s->t σ H Q->
  wpAny (model X.prog X.w) X.A (evalPart e X.env) (λu s'=>∃o H',Inv X pins σ H' s'/\IsPart u o/\Q o H') X.xe s
def tNoPart:TO:=λ_ H Q=>Q none H
def tPart(t:TE):TO:=λσ H Q=>t σ H λx H1=>∃i,x= .int i/\Q (some i) H1
theorem intsAre_of{ns:List Int}:∀{us:List Value},Vals (ns.map V.int) us->IntsAre us ns:=by
 induction ns with
 |nil=>intro us r;rw[List.map_nil] at r;cases r;exact .nil
 |cons n ns ih=>
  intro us r;rw[List.map_cons] at r;cases r with
  |cons r1 r2=>
   obtain⟨t,e⟩:=r1;subst e;exact .cons n t (ih r2)
section
variable{X:Cx}{e:Expr}{te:TE}{lo hi:Option Expr}{tl th:TO}{pos p2:Pos}
theorem Dq:PO X none tNoPart:=by
 intro pins s σ H Q I h;rw[evalPart_none];exact wpAny_pure ⟨none,H,I,.none,h⟩
theorem Bv(h:PE X e te):PO X (some e) (tPart te):=by
 intro pins s σ H Q I hw;rw[evalPart_some];refine thn (h pins s σ H _ I hw) λu s1 ⟨x,H1,I1,r1,q1⟩=> ?_;obtain⟨i,rfl,q⟩:=q1;obtain⟨t,rfl⟩:=r1;exact⟨some i,H1,I1,.int i t,q⟩
def SlR(X:Cx)(r:V->Option Int->Option Int->Hp->VK->Prop):Prop:=
 ∀(pins:List (Addr×Obj)) (s:Shared) (σ:St) (H:Hp) (x:V) (v vl vu:Value) (lo hi:Option Int) (sl:Addr) (Q:VK),Inv X pins σ H s->RelV x v->s.heap.IsSliceOf sl vl vu .none->IsPart vl lo->IsPart vu hi->r x lo hi H Q->
  ∃T id,typeLookup (.type T) "__getitem__"=pure (some (.builtin id))/\s.TypeIs v T/\wpAny (model X.prog X.w) X.A (getItem v (.ref sl)) (EP X pins σ Q) X.xe s
def tSl(r:V->Option Int->Option Int->Hp->VK->Prop)(te:TE)(tl th:TO):TE:=λσ H Q=>te σ H λx H1=>tl σ H1 λl H2=>th σ H2 λu H3=>r x l u H3 Q
theorem Cf{r:V->Option Int->Option Int->Hp->VK->Prop}(hr:SlR X r)(he:PE X e te)(hl:PO X lo tl)(hu:PO X hi th):PE X (.Subscript e (.Slice lo hi none p2) pos) (tSl r te tl th):=by
 intro pins s σ H Q I h;refine Subscript_ (thn (he pins s σ H _ I h) λv s1 ⟨x,H1,I1,r1,q1⟩=> ?_);refine wpAny_Slice (thn (hl pins s1 σ H1 _ I1 q1) λvl s2 ⟨l,H2,I2,pl,q2⟩=>thn (hu pins s2 σ H2 _ I2 q2) λvu s3 ⟨u,H3,I3,pu,q3⟩=> ?_);rw[evalPart_none];refine wpAny_pure ?_;have I4:Inv X pins σ H3 {s3 with heap:=s3.heap.push {cls:= .type "slice",data:= .fields #[vl,vu,.none]}}:=I3.kept (t':=s3.toks) λb ob q=>Heap.get?_push_of_some _ q;obtain⟨T,id,hT,ht,hg⟩:=hr pins {s3 with heap:=s3.heap.push {cls:= .type "slice",data:= .fields #[vl,vu,.none]}} σ H3 x v vl vu l u s3.heap.objs.size Q I4 r1 (Heap.IsSliceOf.new ..) pl pu q3;show wpAny (model X.prog X.w) X.A (subscriptTail e (.Slice lo hi none p2) v (.ref s3.heap.objs.size)) (EP X pins σ Q) X.xe {s3 with heap:=s3.heap.push {cls:= .type "slice",data:= .fields #[vl,vu,.none]}};exact tail_any (ops:=[.ref s3.heap.objs.size,v]) ht hT hg (by with_unfolding_all rfl)
def Dy(xs:List V)(lo hi:Option Int):List V:=(xs.drop (HT.sIx xs.length 0 lo)).take (HT.sIx xs.length xs.length hi - HT.sIx xs.length 0 lo)
theorem cutV_length(xs:List V)(lo hi:Option Int):(Dy xs lo hi).length<=xs.length:=by
 unfold Dy;rw[List.length_take,List.length_drop];omega
inductive RSlTP(K:PySem.W.Frag)(x:V)(lo:Option Int)(hi:Option Int)(H:Hp)(Q:VK):Prop
 |mk (a xs:_):(x= .ref a)->(SqT K H a xs)->(¬(HT.sIx xs.length 0 lo=0/\HT.sIx xs.length xs.length hi=xs.length))->(∀p,H p=none->Q (.ref p) (upd H p (.tup (Dy xs lo hi))))->RSlTP K x lo hi H Q
def rSlT(K:PySem.W.Frag):V->Option Int->Option Int->Hp->VK->Prop:=λx lo hi H Q=>RSlTP K x lo hi H Q
theorem sl_tup:SlR X (rSlT X.K):=by
 intro pins s σ H x v vl vu lo hi sl Q I rx hs pl pu h;obtain⟨a,xs,rfl,hx,hw,q⟩:=h;cases rx;obtain⟨its,r,ht,hz⟩:=I.tuple hx;have hlen:its.toArray.size=xs.length:=by rw[List.size_toArray];exact r.length.symm
 refine⟨"tuple",_,PyProof.Rows.slot_tuple_getitem.lookup,ht.typeIs,?_⟩;refine HT.getItem_tuple_cut ht hs pl pu (by rw[hlen];exact hw) ?_ (by rw[hlen];exact hz);rw[hlen];refine⟨.ref s.heap.objs.size,_,I.laid (t':=s.toks) (o:= .tup (Dy xs lo hi)) (λb ob q=>Heap.get?_push_of_some _ q) (Nat.le_refl _) ?_,rfl,q _ (I.hok.fresh (Nat.le_refl _))⟩;exact⟨Nat.le_trans (cutV_length xs lo hi) hz,_,(r.drop (HT.sIx xs.length 0 lo)).take (HT.sIx xs.length xs.length hi - HT.sIx xs.length 0 lo),IsTupN.new _ _⟩
theorem Vals.nil_iff{xs:List V}{us:List Value}(r:Vals xs us):us=[]↔xs=[]:=by
 cases r with
 |nil=>simp
 |cons _ _=>simp
end
end L2
namespace L2
open PySem PySem.Spec PyProof.Rows
def ixN(n:Nat)(i:Int):Option Nat:=if 0<=i then (if i<n then some i.toNat else none) else if -(n:Int)<=i then some (i+n).toNat else none
def atI{α:Type}(xs:List α)(i:Int):Option α:=(ixN xs.length i).bind λj=>xs[j]?
theorem ixN_seq{n:Nat}{i:Int}{j:Nat}(h:ixN n i=some j):seqIndex? i n=some j/\j<n/\ -(n:Int)<=i/\i<n:=by
 unfold ixN at h;by_cases h0:0<=i
 ·rw[if_pos h0] at h;by_cases h1:i<n
  ·rw[if_pos h1] at h;have e:i.toNat=j:=Option.some.inj h;exact⟨by rw[seqIndex_of h0 h1,e],by omega,by omega,h1⟩
  ·rw[if_neg h1] at h;cases h
 ·rw[if_neg h0] at h;by_cases h1: -(n:Int)<=i
  ·rw[if_pos h1] at h;have e:(i+n).toNat=j:=Option.some.inj h;exact⟨by rw[seqIndex_neg (by omega) h1,e],by omega,h1,by omega⟩
  ·rw[if_neg h1] at h;cases h
theorem atI_get{α:Type}{xs:List α}{i:Int}{v:α}(h:atI xs i=some v):∃j,seqIndex? i xs.length=some j/\xs[j]? =some v/\j<xs.length/\ -(xs.length:Int)<=i/\i<xs.length:=by
 unfold atI at h;cases e:ixN xs.length i with
 |none=>rw[e] at h;cases h
 |some j=>
  rw[e] at h;obtain⟨h1,h2,h3,h4⟩:=ixN_seq e;exact⟨j,h1,h,h2,h3,h4⟩
theorem Ap{α:Type}{xs:List α}{j:Nat}{v:α}(h:xs[j]? =some v):atI xs (j:Int)=some v:=by
 have hj:j<xs.length:=(List.getElem?_eq_some_iff.mp h).1;have e:ixN xs.length (j:Int)=some j:=by
  unfold ixN;rw[if_pos (by exact Int.natCast_nonneg _),if_pos (by omega)];simp
 unfold atI;rw[e];exact h
def PlainIx(b:Expr):Prop:=∀o i,subscripted b false o i=operate [o,i] (getItem o i)
def IxR(X:Cx)(r:R2):Prop:=
 ∀(value slice:Expr) (pins:List (Addr×Obj)) (s:Shared) (σ:St) (H:Hp) (x y:V) (v u:Value) (Q:VK),Inv X pins σ H s->RelV x v->RelV y u->r x y H Q->
  subscripted slice false v u=operate [v,u] (getItem v u)->wpAny (model X.prog X.w) X.A (subscriptTail value slice v u) (EP X pins σ Q) X.xe s
def MtR(X:Cx)(id:String)(r:V->List V->Hp->VK->Prop):Prop:=
 ∀(pins:List (Addr×Obj)) (s:Shared) (σ:St) (H:Hp) (x:V) (xs:List V) (v:Value) (us:List Value) (Q:VK),Inv X pins σ H s->RelV x v->Vals xs us->r x xs H Q->
  wpAny (model X.prog X.w) X.A (call (.builtin id) (v::us)) (EP X pins σ Q) X.xe s
section
variable{X:Cx}{a b:Expr}{ta tb:TE}{pos:Pos}
theorem A1{r:R2}(hr:IxR X r)(ha:PE X a ta)(hb:PE X b tb)(hs:PlainIx b):PE X (.Subscript a b pos) (tOp r ta tb):=by
 intro pins s σ H Q I h;exact Subscript_ (binT ha hb I h λv u s2 x y H2 I2 rx ry q=>hr a b pins s2 σ H2 x y v u Q I2 rx ry q (hs _ _))
inductive RIxLP(K:PySem.W.Frag)(x:V)(y:V)(H:Hp)(Q:VK):Prop
 |mk (p xs i v:_):(x= .ref p)->(y= .int i)->(SqL K H p xs)->(atI xs i=some v)->(Q v H)->RIxLP K x y H Q
def rIxL(K:PySem.W.Frag):R2:=λx y H Q=>RIxLP K x y H Q
inductive RIxTP(K:PySem.W.Frag)(x:V)(y:V)(H:Hp)(Q:VK):Prop
 |mk (p xs i v:_):(x= .ref p)->(y= .int i)->(SqT K H p xs)->(atI xs i=some v)->(Q v H)->RIxTP K x y H Q
def rIxT(K:PySem.W.Frag):R2:=λx y H Q=>RIxTP K x y H Q
inductive RIxSP(x:V)(y:V)(H:Hp)(Q:VK):Prop
 |mk (z i c:_):(x= .str z)->(y= .int i)->(z.length<=sizeLine)->(atI z.cps.toList i=some c)->(Q (.str ⟨#[c]⟩) H)->RIxSP x y H Q
def rIxS:R2:=λx y H Q=>RIxSP x y H Q
theorem A0:IxR X (rIxL X.K):=by
 intro value slice pins s σ H x y v u Q I rx ry h hs;obtain⟨p,xs,i,z,rfl,rfl,hq,he,q⟩:=h;cases rx;obtain⟨t,rfl⟩:=ry;obtain⟨its,r,pl,hz⟩:=I.list hq;obtain⟨j,h1,h2,h3,h4,h5⟩:=atI_get he;obtain⟨w,ew,rw'⟩:=r.get h2;have hl:=r.length;have hn:=line63;have fin:EP X pins σ Q w s:=⟨z,H,I,rw',q⟩
 by_cases h0:0<=i
 ·have hj:i.toNat=j:=by
   rw[seqIndex_of h0 h5] at h1;exact Option.some.inj h1
  exact item_listR pl.isList h0 (by omega) (by rw[hj];simpa using ew) fin hs
 ·have hj:(i+(its.toArray.size:Int)).toNat=j:=by
   rw[seqIndex_neg (by omega) h4] at h1;rw[List.size_toArray,<-hl];exact Option.some.inj h1
  exact subscriptTail_builtinR (x:=w) pl.isList.typeIs slot_list_getitem.lookup
   (wpAny_getItem_list_neg (Q:=λr s'=>r=w/\EP X pins σ Q r s') pl.isList (by omega) (by rw[List.size_toArray]<;> omega) (by omega) (by rw[hj];simpa using ew) ⟨rfl,fin⟩) hs
theorem Cg:IxR X (rIxT X.K):=by
 intro value slice pins s σ H x y v u Q I rx ry h hs;obtain⟨p,xs,i,z,rfl,rfl,hq,he,q⟩:=h;cases rx;obtain⟨t,rfl⟩:=ry;obtain⟨its,r,pl,hz⟩:=I.tuple hq;obtain⟨j,h1,h2,h3,h4,h5⟩:=atI_get he;obtain⟨w,ew,rw'⟩:=r.get h2;have hl:=r.length;have hn:=line63;have fin:EP X pins σ Q w s:=⟨z,H,I,rw',q⟩
 exact subscriptTail_builtinR (x:=w) pl.typeIs slot_tuple_getitem.lookup
  (getItem_tuple (j:=j) (Q:=λr s'=>r=w/\EP X pins σ Q r s') pl (by omega) (by omega) (by rw[List.size_toArray,<-hl];exact h1) (by simpa using ew) ⟨rfl,fin⟩) hs
theorem ix_str:IxR X rIxS:=by
 intro value slice pins s σ H x y v u Q I rx ry h hs;obtain⟨z,i,c,rfl,rfl,hz,he,q⟩:=h;obtain⟨t,rfl⟩:=rx;obtain⟨t',rfl⟩:=ry;obtain⟨j,h1,h2,h3,h4,h5⟩:=atI_get he;have hl:z.cps.toList.length=z.length:=by simp[Str.length]
 rw[hl] at h1 h4 h5;have hn:=line63;exact tail_any (typeIs_str s z t) slot_str_getitem.lookup (getItem_str (c:=c) (by
  have e1:decide (i< -(2 ^ 63:Int))=false:=decide_eq_false (by omega);have e2:decide (i ≥ 2 ^ 63)=false:=decide_eq_false (by omega);rw[e1,e2,Bool.or_false]) (by rw[h1];simpa using h2) ⟨.str ⟨#[c]⟩,H,I.tok _,⟨_,rfl⟩,q⟩) hs
theorem mapSeq_set(its:List Value)(n j:Nat)(u:Value):Obj.mapSeq (·.setIfInBounds j u) {cls:= .type "list",data:= .seq its.toArray n}={cls:= .type "list",data:= .seq (its.set j u).toArray n}:=by
 simp[Obj.mapSeq]
theorem Inv.lst{pins:List (Addr×Obj)}{σ:St}{H:Hp}{s:Shared}{p:Addr}{xs:List V}(I:Inv X pins σ H s)(h:H p=some (.lst xs)):
  ∃(its:List Value) (n:Nat),Vals xs its/\s.heap.get? p=some {cls:= .type "list",data:= .seq its.toArray n}/\xs.length<=sizeLine:=by
 obtain⟨z,its,n,r,e⟩:=I.hok p _ h;exact⟨its,n,r,e,z⟩
theorem Inv.lstUpd{pins:List (Addr×Obj)}{σ:St}{H:Hp}{s:Shared}{p:Addr}{xs ys:List V}{its its':List Value}{n n':Nat}{f:Obj->Obj}(I:Inv X pins σ H s)(h:H p=some (.lst xs))(ho:s.heap.get? p=some {cls:= .type "list",data:= .seq its.toArray n})(hf:f {cls:= .type "list",data:= .seq its.toArray n}={cls:= .type "list",data:= .seq its'.toArray n'})(r:Vals ys its')(hz:ys.length<=sizeLine)(t:Nat):
  Inv X pins σ (upd H p (.lst ys)) {s with heap:=s.heap.update p f,toks:=t}:=by
 have e:(s.heap.update p f).get? p=some {cls:= .type "list",data:= .seq its'.toArray n'}:=by
  rw[Heap.get?_update_self f ho (by rw[hf]<;> rfl),hf]
 refine I.write (x:=p) (e:=p) (by rw[h];trivial) (.inl rfl) (λb u hb q=>(Heap.get?_update_other _ _ (Ne.symm hb)).trans q) ⟨_,e⟩ ?_;exact⟨hz,its',n',r,e⟩
inductive RSetLP(o:V)(i:V)(v:V)(H:Hp)(Q:(Hp->Prop)):Prop
 |mk (p xs k j:_):(o= .ref p)->(i= .int k)->(H p=some (.lst xs))->(ixN xs.length k=some j)->(Q (upd H p (.lst (xs.set j v))))->RSetLP o i v H Q
def rSetL:V->V->V->Hp->(Hp->Prop)->Prop:=λo i v H Q=>RSetLP o i v H Q
theorem set_list:PSet X rSetL:=by
 intro pins s σ H o i v ov iv u Q I ro ri rv h;obtain⟨p,xs,k,j,rfl,rfl,hp,hj,q⟩:=h;cases ro;obtain⟨t,rfl⟩:=ri;obtain⟨its,n,r,ho,hz⟩:=I.lst hp;obtain⟨h1,h2,h3,h4⟩:=ixN_seq hj;have hl:=r.length;have hn:=line63;have I':Inv X pins σ (upd H p (.lst (xs.set j v))) {s with heap:=s.heap.update p (Obj.mapSeq (·.setIfInBounds j u))}:=
  I.lstUpd hp ho (mapSeq_set its n j u) (r.set rv j) (by rw[List.length_set];exact hz) s.toks
 by_cases h0:0<=k
 ·have hk:k.toNat=j:=by
   rw[seqIndex_of h0 h4] at h1;exact Option.some.inj h1
  exact PySem.W.ki_setAt ho h0 (by omega) (by rw[List.size_toArray,<-hl];exact h4) (by rw[hk];exact⟨_,I',q⟩)
 ·have hk:(k+(its.toArray.size:Int)).toNat=j:=by
   rw[seqIndex_neg (by omega) h3] at h1;rw[List.size_toArray,<-hl];exact Option.some.inj h1
  exact PySem.W.ki_setBack ho (by omega) (by rw[List.size_toArray,<-hl];exact h3) (by omega) (by rw[hk];exact⟨_,I',q⟩)
theorem slice_bounds(lo hi:Option Int)(n:Nat):(sliceBounds lo hi none n).1=((HT.sIx n 0 lo:Nat):Int)/\(sliceBounds lo hi none n).2.1=((HT.sIx n n hi:Nat):Int)/\(sliceBounds lo hi none n).2.2=1:=by
 refine⟨?_,?_,rfl⟩
 ·cases lo with
  |none=>simp[sliceBounds,HT.sIx]
  |some i=>
   simp only[sliceBounds,HT.sIx,Option.getD_none,show (1:Int) > 0 by decide,if_true];by_cases h:i<0
   ·simp only[h,if_true]<;> omega
   ·simp only[h,if_false]<;> omega
 ·cases hi with
  |none=>simp[sliceBounds,HT.sIx]
  |some i=>
   simp only[sliceBounds,HT.sIx,Option.getD_none,show (1:Int) > 0 by decide,if_true];by_cases h:i<0
   ·simp only[h,if_true]<;> omega
   ·simp only[h,if_false]<;> omega
theorem slicePick_cut(its:List Value)(lo hi:Option Int):slicePick its.toArray lo hi none=((its.drop (HT.sIx its.length 0 lo)).take (HT.sIx its.length its.length hi - HT.sIx its.length 0 lo)).toArray:=by
 obtain⟨h1,h2,h3⟩:=slice_bounds lo hi its.toArray.size;unfold slicePick;rw[h1,h2,h3];simp only[sliceRange_one,pick_run,List.size_toArray]<;> rfl
inductive RSlLP(K:PySem.W.Frag)(x:V)(lo:Option Int)(hi:Option Int)(H:Hp)(Q:VK):Prop
 |mk (a xs:_):(x= .ref a)->(SqL K H a xs)->(∀p,H p=none->Q (.ref p) (upd H p (.lst (Dy xs lo hi))))->RSlLP K x lo hi H Q
def rSlL(K:PySem.W.Frag):V->Option Int->Option Int->Hp->VK->Prop:=λx lo hi H Q=>RSlLP K x lo hi H Q
theorem sl_list:SlR X (rSlL X.K):=by
 intro pins s σ H x v vl vu lo hi sl Q I rx hs pl pu h;obtain⟨a,xs,rfl,hx,q⟩:=h;cases rx;obtain⟨its,r,ht,hz⟩:=I.list hx;have hlen:=r.length;refine⟨"list",_,slot_list_getitem.lookup,ht.isList.typeIs,?_⟩;refine wpAny_getItem_list_slice ht.isList hs pl pu .none (by simp) ?_ (by rw[List.size_toArray]<;> omega);rw[slicePick_cut,<-hlen];refine⟨.ref s.heap.objs.size,_,I.laid (t':=s.toks) (o:= .lst (Dy xs lo hi)) (λb ob q=>Heap.get?_push_of_some _ q) (Nat.le_refl _) ?_,rfl,q _ (I.hok.fresh (Nat.le_refl _))⟩;exact⟨Nat.le_trans (cutV_length xs lo hi) hz,_,0,(r.drop (HT.sIx xs.length 0 lo)).take (HT.sIx xs.length xs.length hi - HT.sIx xs.length 0 lo),Heap.get?_push_size _ rfl⟩
def flatV:V->Bool
 | .non=>true
 | .bl _=>true
 | .int _=>true
 | .str _=>true
 |_=>false
def eqV:V->V->Bool
 | .non,.non=>true
 | .bl a,.bl b=>a==b
 | .bl a,.int b=>(if a then 1 else 0)==b
 | .int a,.bl b=>a==(if b then 1 else 0)
 | .int a,.int b=>a==b
 | .str a,.str b=>a==b
 |_,_=>false
theorem eqAt_V{A:Around}{s:Shared}{y x:V}{u v:Value}(ry:RelV y u)(rx:RelV x v)(fy:flatV y=true)(fx:flatV x=true):SeqAt.EqAt A s u v (eqV y x):=by
 cases y with
 |non=>
  cases ry;cases x with
  |non=>cases rx;exact SeqAt.EqAt.same _
  |bl b=>cases rx;exact SeqAt.EqAt.none_bool b
  |int b=>obtain⟨t,rfl⟩:=rx;exact SeqAt.EqAt.none_int b t
  |str b=>obtain⟨t,rfl⟩:=rx;exact SeqAt.EqAt.none_str b t
  |_=>exact absurd (show false=true from fx) Bool.false_ne_true
 |bl a=>
  cases ry;cases x with
  |non=>cases rx;exact SeqAt.EqAt.bool_none a
  |bl b=>cases rx;exact SeqAt.EqAt.bool_bool a b
  |int b=>obtain⟨t,rfl⟩:=rx;exact SeqAt.EqAt.bool_int a b t
  |str b=>obtain⟨t,rfl⟩:=rx;exact SeqAt.EqAt.bool_str a b t
  |_=>exact absurd (show false=true from fx) Bool.false_ne_true
 |int a=>
  obtain⟨t',rfl⟩:=ry;cases x with
  |non=>cases rx;exact SeqAt.EqAt.int_none a t'
  |bl b=>cases rx;exact SeqAt.EqAt.int_bool a t' b
  |int b=>obtain⟨t,rfl⟩:=rx;exact SeqAt.EqAt.int_int a t' b t
  |str b=>obtain⟨t,rfl⟩:=rx;exact SeqAt.EqAt.int_str a t' b t
  |_=>exact absurd (show false=true from fx) Bool.false_ne_true
 |str a=>
  obtain⟨t',rfl⟩:=ry;cases x with
  |non=>cases rx;exact SeqAt.EqAt.str_none a t'
  |bl b=>cases rx;exact SeqAt.EqAt.str_bool a t' b
  |int b=>obtain⟨t,rfl⟩:=rx;exact SeqAt.EqAt.str_int a t' b t
  |str b=>obtain⟨t,rfl⟩:=rx;exact SeqAt.EqAt.str_str a t' b t
  |_=>exact absurd (show false=true from fx) Bool.false_ne_true
 |_=>exact absurd (show false=true from fy) Bool.false_ne_true
def eqU(x:V)(u:Value):Bool:=match u with
 | .none=>eqV .non x
 | .bool b=>eqV (.bl b) x
 | .int i _=>eqV (.int i) x
 | .str z _=>eqV (.str z) x
 |_=>false
theorem eqU_of{x y:V}{u:Value}(r:RelV y u)(f:flatV y=true):eqU x u=eqV y x:=by
 cases y with
 |non=>cases r;rfl
 |bl b=>cases r;rfl
 |int i=>obtain⟨t,rfl⟩:=r;rfl
 |str z=>obtain⟨t,rfl⟩:=r;rfl
 |_=>exact absurd (show false=true from f) Bool.false_ne_true
theorem any_eqU{x:V}:∀{xs:List V} {us:List Value},Vals xs us->xs.all flatV=true->us.any (eqU x)=xs.any λy=>eqV y x
 |_,_,.nil,_=>rfl
 |y::xs,u::us,.cons r t,f=>by
  rw[List.all_cons,Bool.and_eq_true] at f;rw[List.any_cons,List.any_cons,eqU_of r f.1,any_eqU t f.2]
theorem mem_eqAt{A:Around}{s:Shared}{x:V}{v:Value}(rx:RelV x v)(fx:flatV x=true):∀{xs:List V} {us:List Value},Vals xs us->xs.all flatV=true->∀u∈us,SeqAt.EqAt A s u v (eqU x u)
 |_,_,.nil,_=>λu hu=>by cases hu
 |y::xs,u::us,.cons r t,f=>λu' hu=>by
  rw[List.all_cons,Bool.and_eq_true] at f;rcases List.mem_cons.mp hu with rfl|hu
  ·rw[eqU_of r f.1];exact eqAt_V r rx f.1 fx
  ·exact mem_eqAt rx fx t f.2 u' hu
def inV(x:V)(xs:List V):Bool:=xs.any λy=>eqV y x
inductive RInP(K:PySem.W.Frag)(neg:Bool)(x:V)(y:V)(H:Hp)(Q:VK):Prop
 |mk (p xs:_):(y= .ref p)->((SqL K H p xs\/SqT K H p xs))->(flatV x=true)->(xs.all flatV=true)->(Q (.bl (if neg then !inV x xs else inV x xs)) H)->RInP K neg x y H Q
def rIn(K:PySem.W.Frag)(neg:Bool):R2:=λx y H Q=>RInP K neg x y H Q
theorem Dj:OpR X (compareOp .In) (rIn X.K false):=by
 intro pins s σ H x y v u Q I rx ry h;obtain⟨p,xs,rfl,hq,fx,fs,q⟩:=h;cases ry;rcases hq with hq|hq
 ·obtain⟨its,r,pl,hz⟩:=I.list hq;refine SeqAt.in_listAt (eqU x) pl.isList (λw hw=>mem_eqAt rx fx r fs w (by simpa using hw)) ⟨.bl _,H,I,rfl,?_⟩;rw[show its.toArray.any (eqU x)=its.any (eqU x) by simp,any_eqU r fs];exact q
 ·obtain⟨its,r,pl,hz⟩:=I.tuple hq;refine SeqAt.in_tupleAt (eqU x) pl (λw hw=>mem_eqAt rx fx r fs w (by simpa using hw)) ⟨.bl _,H,I,rfl,?_⟩;rw[show its.toArray.any (eqU x)=its.any (eqU x) by simp,any_eqU r fs];exact q
theorem As:Dw X (.builtin "len") (λxs H Q=>∃p ys,xs=[.ref p]/\(SqL X.K H p ys\/SqT X.K H p ys)/\Q (.int ys.length) H):=by
 intro pins s σ H xs us Q I r h;obtain⟨p,ys,rfl,hq,q⟩:=h;obtain⟨u,rfl,rx⟩:=Dz r;cases rx;have hn:=line63;rcases hq with hq|hq
 ·obtain⟨its,r',pl,hz⟩:=I.list hq;have hlen:=r'.length;exact Calls.call_len_list pl.isList (by simp only[List.size_toArray]<;> omega) ⟨.int ys.length,H,I.tok _,⟨s.toks+1,by rw[List.size_toArray,hlen]⟩,q⟩
 ·obtain⟨its,r',pl,hz⟩:=I.tuple hq;have hlen:=r'.length;exact len_tuple pl (by simp only[List.size_toArray]<;> omega) ⟨.int ys.length,H,I.tok _,⟨s.toks+1,by rw[List.size_toArray,hlen]⟩,q⟩
theorem call_len_str:Dw X (.builtin "len") (λxs H Q=>∃z,xs=[.str z]/\z.length<=sizeLine/\Q (.int z.length) H):=by
 intro pins s σ H xs us Q I r h;obtain⟨z,rfl,hz,q⟩:=h;obtain⟨u,rfl,t,rfl⟩:=Dz r;have hn:=line63;exact len_str (by omega) ⟨.int z.length,H,I.tok _,⟨_,rfl⟩,q⟩
theorem call_list_of:Dw X (.type "list") (λxs H Q=>∃p ys,xs=[.ref p]/\(SqL X.K H p ys\/SqT X.K H p ys)/\∀l,H l=none->Q (.ref l) (upd H l (.lst ys))):=by
 intro pins s σ H xs us Q I r h;obtain⟨p,ys,rfl,hq,q⟩:=h;obtain⟨u,rfl,rx⟩:=Dz r;cases rx;have fin:∀(its:List Value),Vals ys its->ys.length<=sizeLine->∀(h':Heap) (c':Nat),(∀b o',s.heap.get? b=some o'->h'.get? b=some o')->
   h'.get? s.heap.objs.size=some {cls:= .type "list",dict:=none,data:= .seq its.toArray c',slots:= #[]}->EP X pins σ Q (.ref s.heap.objs.size) {s with heap:=h'}:=λits r' hz h' c' kp e=>
  ⟨.ref s.heap.objs.size,_,I.laid (t':=s.toks) kp (Nat.le_refl _) (show ObjOk X.prog X.w _ h' _ (.lst ys) from⟨hz,its,c',r',e⟩),rfl,q _ (I.hok.fresh (Nat.le_refl _))⟩
 rcases hq with hq|hq
 ·obtain⟨its,r',pl,hz⟩:=I.list hq;have hlen:=r'.length;obtain⟨o,ho,hc,n,hd⟩:=pl.isList;exact call_list_seq p (.inl rfl) ho hc hd (λh' c' kp e=>fin its r' hz h' c' kp e) (by simp only[List.size_toArray]<;> omega)
 ·obtain⟨its,r',pl,hz⟩:=I.tuple hq;have hlen:=r'.length;obtain⟨o,ho,hc,n,hd⟩:=pl;exact call_list_seq p (.inr rfl) ho hc hd (λh' c' kp e=>fin its r' hz h' c' kp e) (by simp only[List.size_toArray]<;> omega)
theorem Bp:Dw X (.type "tuple") (λxs H Q=>∃p ys,xs=[.ref p]/\((SqL X.K H p ys/\∀l,H l=none->Q (.ref l) (upd H l (.tup ys)))\/(SqT X.K H p ys/\Q (.ref p) H))):=by
 intro pins s σ H xs us Q I r h;obtain⟨p,ys,rfl,h⟩:=h;obtain⟨u,rfl,rx⟩:=Dz r;cases rx;rcases h with⟨hq,q⟩|⟨hq,q⟩
 ·obtain⟨its,r',pl,hz⟩:=I.list hq;have hlen:=r'.length;refine call_tuple_list pl.isList (λh' kp=> ?_) (by simp only[List.size_toArray]<;> omega);have I1:Inv X pins σ H {s with heap:=h'}:=I.kept (t':=s.toks) kp;have I2:Inv X pins σ (upd H h'.objs.size (.tup ys)) {s with heap:=h'.push {cls:= .type "tuple",data:= .seq its.toArray}}:=
   I1.laid (t':=s.toks) (λb o e=>Heap.get?_push_of_some _ e) (Nat.le_refl _) (show ObjOk X.prog X.w _ _ _ (.tup ys) from⟨hz,its,r',IsTupN.new _ _⟩)
  exact⟨.ref h'.objs.size,_,I2,rfl,q _ (I1.hok.fresh (Nat.le_refl _))⟩
 ·obtain⟨its,r',pl,hz⟩:=I.tuple hq;exact call_tuple_same pl ⟨.ref p,H,I,rfl,q⟩
def tyV(K:PySem.W.Frag)(T:String)(x:V)(H:Hp):Prop:=match x with
 | .str _=>T="str"
 | .int _=>T="int"
 | .ref p=>(T="list"/\∃xs,SqL K H p xs)\/(T="tuple"/\((∃o,K.lookup p=some o/\o.cls= .type "tuple"/\o.dict=none)\/∃xs,H p=some (.tup xs)))\/
   (T="dict"/\((∃kvs,H p=some (.dK kvs))\/∃kvs,H p=some (.dT kvs)))\/(T="set"/\∃S n,H p=some (.set S n))
 |_=>False
theorem tyV_is{pins:List (Addr×Obj)}{σ:St}{H:Hp}{s:Shared}{T:String}{x:V}{v:Value}(I:Inv X pins σ H s)(r:RelV x v)(ty:tyV X.K T x H):
  s.TypeIs v T/\∀a,v= .ref a->∃ob,s.heap.get? a=some ob/\ob.dict=none:=by
 cases x with
 |str z=>
  obtain⟨t,rfl⟩:=r;cases (show T="str" from ty);exact⟨typeIs_str s z t,λ_ e=>nomatch e⟩
 |int i=>
  obtain⟨t,rfl⟩:=r;cases (show T="int" from ty);exact⟨typeIs_int s i t,λ_ e=>nomatch e⟩
 |ref p=>
  cases r;rcases ty with⟨rfl,xs,hq⟩|⟨rfl,⟨o,hk,hc,hd⟩|⟨xs,hx⟩⟩|⟨rfl,hk⟩|⟨rfl,S,n,hk⟩
  ·obtain⟨its,_,pl,_⟩:=I.list hq;refine⟨pl.isList.typeIs,λa e=> ?_⟩;cases e;obtain⟨o,n,e,c,hd,_⟩:=pl;exact⟨o,e,hd⟩
  ·refine⟨⟨o,I.kIn p o hk,hc⟩,λa e=> ?_⟩;cases e;exact⟨o,I.kIn _ o hk,hd⟩
  ·obtain⟨_,_,_,o,e,c,d,_⟩:=(show ObjOk X.prog X.w H s.heap p (.tup xs) from I.hok p _ hx)
   refine⟨⟨o,e,c⟩,λa e2=> ?_⟩;cases e2;exact⟨o,e,d⟩
  ·have z:∃o,s.heap.get? p=some o/\o.ExactDict:=by
    rcases hk with⟨kvs,hk⟩|⟨kvs,hk⟩
    ·obtain⟨_,_,_,_,o,_,_,e,ex,_⟩:=I.hok p _ hk;exact⟨o,e,ex⟩
    ·obtain⟨_,_,_,_,o,_,_,e,ex,_⟩:=I.hok p _ hk;exact⟨o,e,ex⟩
   obtain⟨o,e,ex⟩:=z;refine⟨⟨o,e,ex.1⟩,λa e2=> ?_⟩;cases e2;exact⟨o,e,ex.2.1⟩
  ·obtain⟨o,_,_,_,e,ex,_⟩:=I.hok p _ hk;refine⟨⟨o,e,ex.1⟩,λa e2=> ?_⟩;cases e2;exact⟨o,e,ex.2.1⟩
 |_=>exact False.elim ty
def tBM0(K:PySem.W.Frag)(T:String)(r:V->List V->Hp->VK->Prop)(to:TE):TE:=λσ H Q=>to σ H λx H1=>tyV K T x H1/\r x [] H1 Q
def tBM(K:PySem.W.Frag)(T:String)(r:V->List V->Hp->VK->Prop)(to:TE)(t:TA):TE:=λσ H Q=>to σ H λx H1=>tyV K T x H1/\t σ H1 λxs H2=>r x xs H2 Q
variable{o e:Expr}{es:List Expr}{to:TE}{t:TA}{name:Str}{apos cpos:Pos}{T id:String}{r:V->List V->Hp->VK->Prop}
theorem pe_bm0(pa:PlainAttrs T)(slot:Slot T name id)(hty:typeOf (.builtin id)=pure (.type "method_descriptor"))(hm:MtR X id r)(ho:PE X o to)(hbase:attributeBase o name X.env (eval o X.env)=eval o X.env:=by rfl)(hline:(apos.endLine==cpos.line)=true:=by rfl):PE X (.Call (.Attribute o name apos) [] [] cpos) (tBM0 X.K T r to):=by
 intro pins s σ H Q I h;refine wpAny_Call_method0_late hbase hline (thn (ho pins s σ H _ I h) λv s1 ⟨x,H1,I1,r1,ty,q1⟩=> ?_);obtain⟨h1,h2⟩:=tyV_is I1 r1 ty;exact⟨T,id,pa,slot,hty,h1,h2,Calls.callWith_builtin rfl (PySem.evalArgs_none (hm pins s1 σ H1 x [] v [] Q I1 r1 .nil q1))⟩
theorem pe_bm(pa:PlainAttrs T)(slot:Slot T name id)(hty:typeOf (.builtin id)=pure (.type "method_descriptor"))(hm:MtR X id r)(ho:PE X o to)(ha:PA X (e::es) t)(hbase:attributeBase o name X.env (eval o X.env)=eval o X.env:=by rfl)(hfew:((backTo cpos (starEach (e::es) X.env)).all (λx=> !x.1) && (backToKw cpos (keywordEach [] X.env)).all (λx=>x.1.isSome)
   && decide ((e::es).length+([]:List Keyword).length+(if ([]:List Keyword).isEmpty then 0 else 1)<30))=true:=by rfl)(hline:(apos.endLine==cpos.line)=true:=by rfl)(hs:starEach (e::es) X.env=(false,eval e X.env)::starEach es X.env:=by rfl)(hplain:(backTo cpos (starEach es X.env)).any (·.1)=false:=by rfl):
  PE X (.Call (.Attribute o name apos) (e::es) [] cpos) (tBM X.K T r to t):=by
 intro pins s σ H Q I h;refine wpAny_Call_method_late hbase hfew hline rfl (thn (ho pins s σ H _ I h) λv s1 ⟨x,H1,I1,r1,ty,q1⟩=> ?_);obtain⟨h1,h2⟩:=tyV_is I1 r1 ty;refine⟨T,id,pa,slot,hty,h1,h2,?_⟩;have hA:=ha cpos pins s1 σ H1 _ I1 q1;rw[hs] at hA ⊢;refine Calls.callWith_builtin (by show (false||(backTo cpos (starEach es X.env)).any (·.1))=false;rw[hplain]<;> rfl) (Calls.evalArgs_plain ?_);exact thn hA λus s2 ⟨vs,H2,I2,r2,q2⟩=>hm pins s2 σ H2 x vs v us Q I2 r1 r2 q2
end
end L2
namespace L2
open PySem PySem.Spec PyProof.Rows
def MtM(X:Cx)(id:String)(r:V->List V->Hp->VK->Prop):Prop:=
 ∀(pins:List (Addr×Obj)) (s:Shared) (σ:St) (H:Hp) (x:V) (xs:List V) (v:Value) (us:List Value) (Q:VK),Inv X pins σ H s->RelV x v->Vals xs us->r x xs H Q->
  wpAny (model X.prog X.w) X.A (call (.builtin id) (v::us)) (EP X pins σ Q) X.xe s
theorem Vals.one:∀{x:V} {us:List Value},Vals [x] us->∃u,us=[u]/\RelV x u
 |_,_,.cons r .nil=>⟨_,rfl,r⟩
theorem Vals.zero:∀{us:List Value},Vals [] us->us=[]
 |_,.nil=>rfl
theorem Vals.dropLast{xs:List V}{us:List Value}(h:Vals xs us):Vals xs.dropLast us.dropLast:=by
 induction h with
 |nil=>exact .nil
 |cons r t ih=>
  cases t with
  |nil=>exact .nil
  |cons q t'=>exact .cons r ih
theorem Vals.eraseIdx:∀{xs:List V} {us:List Value} (i:Nat),Vals xs us->Vals (xs.eraseIdx i) (us.eraseIdx i)
 |_,_,_,.nil=> .nil
 |_,_,0,.cons _ t=>t
 |_,_,i+1,.cons r t=> .cons r (Vals.eraseIdx i t)
theorem Vals.reverse{xs:List V}{us:List Value}(h:Vals xs us):Vals xs.reverse us.reverse:=by
 induction h with
 |nil=>exact .nil
 |cons r t ih=>rw[List.reverse_cons,List.reverse_cons];exact Vals.append ih (.cons r .nil)
theorem Vals.rep{xs:List V}{us:List Value}(h:Vals xs us):∀k:Nat,Vals (List.replicate k xs).flatten (List.replicate k us).flatten
 |0=> .nil
 |k+1=>by
  rw[List.replicate_succ,List.replicate_succ,List.flatten_cons,List.flatten_cons];exact Vals.append h (Vals.rep h k)
theorem erase_last{α:Type}(l:List α):l.eraseIdx (l.length - 1)=l.dropLast:=by
 induction l with
 |nil=>rfl
 |cons a r ih=>
  cases r with
  |nil=>rfl
  |cons b r=>
   have e:(a::b::r).length - 1=((b::r).length - 1)+1:=by
    have h1:(a::b::r).length=r.length+2:=rfl;have h2:(b::r).length=r.length+1:=rfl;assumption
   rw[e,List.eraseIdx_cons_succ,ih]
   all_goals rfl
theorem len_erase{α:Type}:∀(l:List α) (i:Nat),(l.eraseIdx i).length<=l.length
 |[],_=>Nat.le_refl _
 |_::_,0=>Nat.le_succ _
 |_::r,i+1=>Nat.succ_le_succ (len_erase r i)
theorem foldl_rep(its:List Value):∀(k:Nat) (acc:List Value),
  List.foldl (λx1 x2=>x1++x2) acc.toArray (List.replicate k its.toArray)=(acc++(List.replicate k its).flatten).toArray
 |0,acc=>by simp
 |k+1,acc=>by
  have e:acc.toArray++its.toArray=(acc++its).toArray:=by simp
  have e2:(acc++its)++(List.replicate k its).flatten=acc++(List.replicate (k+1) its).flatten:=by
   rw[List.replicate_succ,List.flatten_cons,List.append_assoc]
  rw[<-e2,<-foldl_rep its k (acc++its),<-e,List.replicate_succ,List.foldl_cons]
section
variable{X:Cx}{pins:List (Addr×Obj)}{σ:St}{H:Hp}{s:Shared}{l b:Addr}{xs ys zs:List V}
theorem Inv.lset{its its':List Value}{n:Nat}{f:Array Value->Array Value}{t':Nat}(I:Inv X pins σ H s)(hH:H l=some (.lst xs))(e:s.heap.get? l=some {cls:= .type "list",data:= .seq its.toArray n})(hf:f its.toArray=its'.toArray)(hv:Vals ys its')(hz:ys.length<=sizeLine):
  Inv X pins σ (upd H l (.lst ys)) {s with heap:=s.heap.update l (Obj.mapSeq f),toks:=t'}:=by
 have q:=PySem.IsL.update e f;rw[hf] at q;refine I.write (x:=l) (e:=l) (by rw[hH];exact trivial) (.inl rfl) (λb' u hb hu=>(Heap.get?_update_other s.heap (Obj.mapSeq f) (Ne.symm hb)).trans hu) ⟨_,q⟩ ?_;exact⟨hz,its',_,hv,q⟩
theorem Inv.lnew{its:List Value}{t':Nat}(I:Inv X pins σ H s)(hv:Vals ys its)(hz:ys.length<=sizeLine):
  Inv X pins σ (upd H s.heap.objs.size (.lst ys)) {s with heap:=s.heap.push {cls:= .type "list",data:= .seq its.toArray},toks:=t'}:=
 I.laid (λ_ _ q=>Heap.get?_push_of_some _ q) (Nat.le_refl _) ⟨hz,its,0,hv,Heap.get?_push_size _ rfl⟩
theorem Inv.fresh(I:Inv X pins σ H s):H s.heap.objs.size=none:=I.hok.fresh (Nat.le_refl _)
theorem Inv.lstM(I:Inv X pins σ H s)(hH:H l=some (.lst xs)):xs.length<=sizeLine/\∃(its:List Value) (n:Nat),Vals xs its/\xs.length=its.length/\s.heap.get? l=some {cls:= .type "list",data:= .seq its.toArray n}:=by
 obtain⟨z,its,n,r,e⟩:=I.hok l _ hH;exact⟨z,its,n,r,r.length,e⟩
theorem notLongL{n:Nat}(h:n<=sizeLine):Builtin.List.listTooLong n=false:=by
 unfold Builtin.List.listTooLong;exact decide_eq_false (by omega)
end
section
variable{X:Cx}
inductive RAppendP(x:V)(vs:List V)(H:Hp)(Q:VK):Prop
 |mk (l xs y:_):(x= .ref l)->(vs=[y])->(H l=some (.lst xs))->(xs.length<sizeLine)->(Q .non (upd H l (.lst (xs++[y]))))->RAppendP x vs H Q
def rAppend:V->List V->Hp->VK->Prop:=λx vs H Q=>RAppendP x vs H Q
theorem Cb:MtM X "list.append" rAppend:=by
 intro pins s σ H x vs v us Q I rx rv h;obtain⟨l,xs,y,rfl,rfl,hH,hz,q⟩:=h;cases rx;obtain⟨u,rfl,ru⟩:=rv.one;obtain⟨z,its,n,r,hl,e⟩:=I.lstM hH;refine call_meets F.slot_list_append ⟨_,e,rfl⟩ F.entry_list_append (F.args_list_append_2 _ _) (PySem.list_append l its.toArray n u (by rw[List.size_toArray];omega)) ⟨e,?_⟩;refine⟨.non,_,I.lset (its':=its++[u]) hH e (by simp) (r.append (.cons ru .nil)) ?_,rfl,q⟩;rw[List.length_append,List.length_singleton];assumption
inductive RPopP(x:V)(vs:List V)(H:Hp)(Q:VK):Prop
 |mk (l xs y:_):(x= .ref l)->(vs=[])->(H l=some (.lst xs))->(xs[xs.length - 1]? =some y)->(Q y (upd H l (.lst xs.dropLast)))->RPopP x vs H Q
def rPop:V->List V->Hp->VK->Prop:=λx vs H Q=>RPopP x vs H Q
theorem mt_pop:MtM X "list.pop" rPop:=by
 intro pins s σ H x vs v us Q I rx rv h;obtain⟨l,xs,y,rfl,rfl,hH,hy,q⟩:=h;cases rx;have hus:=rv.zero;subst hus;obtain⟨z,its,n,r,hl,e⟩:=I.lstM hH;obtain⟨u,hu,ru⟩:=r.get hy;have hy':its.toArray[its.toArray.size - 1]? =some u:=by
  show its.toArray[its.length - 1]? =some u;rw[<-Array.getElem?_toList,<-hl];exact hu
 refine call_meets F.slot_list_pop ⟨_,e,rfl⟩ F.entry_list_pop (F.args_list_pop_1 _) (MeetsSeq.list_pop_last l its.toArray n u hy' (by rw[List.size_toArray];omega)) ⟨e,?_⟩;refine⟨y,_,I.lset (its':=its.dropLast) hH e ?_ r.dropLast ?_,ru,q⟩
 ·show its.toArray.eraseIdxIfInBounds (its.toArray.size - 1)=its.dropLast.toArray;rw[List.size_toArray,List.eraseIdxIfInBounds_toArray,erase_last]
 ·rw[List.length_dropLast];omega
inductive RPopAtP(x:V)(vs:List V)(H:Hp)(Q:VK):Prop
 |mk (l xs i k y:_):(x= .ref l)->(vs=[.int i])->(H l=some (.lst xs))->(-(2 ^ 63)<=i)->(i<2 ^ 63)->(seqIndex? i xs.length=some k)->(xs[k]? =some y)->(Q y (upd H l (.lst (xs.eraseIdx k))))->RPopAtP x vs H Q
def rPopAt:V->List V->Hp->VK->Prop:=λx vs H Q=>RPopAtP x vs H Q
theorem mt_popAt:MtM X "list.pop" rPopAt:=by
 intro pins s σ H x vs v us Q I rx rv h;obtain⟨l,xs,i,k,y,rfl,rfl,hH,h1,h2,hk,hy,q⟩:=h;cases rx;obtain⟨u,rfl,ru⟩:=rv.one;obtain⟨t,rfl⟩:=ru;obtain⟨z,its,n,r,hl,e⟩:=I.lstM hH;obtain⟨w,hw,rw'⟩:=r.get hy;refine call_meets F.slot_list_pop ⟨_,e,rfl⟩ F.entry_list_pop (F.args_list_pop_2 _ _)
  (MeetsSeq.list_pop_at l its.toArray n i t k w (fitsIndex_both h1 h2) (by rw[List.size_toArray,<-hl];exact hk) (by rw[<-Array.getElem?_toList];exact hw) (by rw[List.size_toArray];omega)) ⟨e,?_⟩
 refine⟨y,_,I.lset (its':=its.eraseIdx k) hH e ?_ (r.eraseIdx k) ?_,rw',q⟩
 ·show its.toArray.eraseIdxIfInBounds k=(its.eraseIdx k).toArray;rw[List.eraseIdxIfInBounds_toArray]
 ·have:=len_erase xs k;exact Nat.le_trans (by assumption) (by assumption)
inductive RCatP(x:V)(y:V)(H:Hp)(Q:VK):Prop
 |mk (l b xs zs:_):(x= .ref l)->(y= .ref b)->(H l=some (.lst xs))->(H b=some (.lst zs))->(xs.length+zs.length<=sizeLine)->(∀p,H p=none->Q (.ref p) (upd H p (.lst (xs++zs))))->RCatP x y H Q
def rCat:R2:=λx y H Q=>RCatP x y H Q
theorem op_cat:OpR X (binaryOp .Add) rCat:=by
 intro pins s σ H x y v u Q I rx ry h;obtain⟨l,b,xs,zs,rfl,rfl,hH,hB,hz,q⟩:=h;cases rx;cases ry;obtain⟨z,its,n,r,hl,e⟩:=I.lstM hH;obtain⟨z2,its2,n2,r2,hl2,e2⟩:=I.lstM hB;refine PySem.P.add_list e e2 ?_ (by rw[List.size_toArray,List.size_toArray];omega);have ea:its.toArray++its2.toArray=(its++its2).toArray:=by simp
 rw[ea];exact⟨.ref _,_,I.lnew (t':=s.toks) (r.append r2) (by rw[List.length_append];assumption),rfl,q _ I.fresh⟩
inductive RRepP(x:V)(y:V)(H:Hp)(Q:VK):Prop
 |mk (l k xs:_):(x= .ref l)->(y= .int k)->(H l=some (.lst xs))->(-(2 ^ 63)<=k)->(k<2 ^ 63)->(xs.length * k.toNat<=sizeLine)->(∀p,H p=none->Q (.ref p) (upd H p (.lst (List.replicate k.toNat xs).flatten)))->RRepP x y H Q
def rRep:R2:=λx y H Q=>RRepP x y H Q
theorem len_rep{α:Type}(xs:List α)(k:Nat):(List.replicate k xs).flatten.length=k * xs.length:=by
 induction k with
 |zero=>simp
 |succ k ih=>rw[List.replicate_succ,List.flatten_cons,List.length_append,ih,Nat.succ_mul,Nat.add_comm]
theorem op_rep:OpR X (binaryOp .Mult) rRep:=by
 intro pins s σ H x y v u Q I rx ry h;obtain⟨l,k,xs,rfl,rfl,hH,h1,h2,hz,q⟩:=h;cases rx;obtain⟨t,rfl⟩:=ry;obtain⟨z,its,n,r,hl,e⟩:=I.lstM hH;have hlen:its.toArray.size * k.toNat<=sizeLine:=by rw[List.size_toArray,<-hl];exact hz
 have hcap:¬its.toArray.size * k.toNat > (2 ^ 63 - 1) / 8:=by
  have:(sizeLine:Nat)<=(2 ^ 63 - 1) / 8:=by decide
  omega
 have hfit:¬(!Builtin.List.listFitsIndex k)=true:=by
  rw[fitsIndex_both h1 h2];exact Bool.false_ne_true
 have hlong:¬Builtin.List.listTooLong (its.toArray.size * k.toNat)=true:=by
  rw[notLongL hlen];exact Bool.false_ne_true
 have hnew:List.foldl (λx1 x2=>x1++x2) #[] (List.replicate (if its.toArray.isEmpty=true then 0 else k.toNat) its.toArray)=(List.replicate k.toNat its).flatten.toArray:=by
  have f0:∀m:Nat,List.foldl (λx1 x2=>x1++x2) #[] (List.replicate m its.toArray)=(List.replicate m its).flatten.toArray:=λm=>by
   have:=foldl_rep its m [];rw[List.nil_append] at this;exact this
  rw[f0];cases its with
  |nil=>simp
  |cons a r'=>rw[if_neg (by simp)]
 refine wpAny_binaryOp_repeat_ref (T:="list") (U:="int") (by decide) ⟨_,e,rfl⟩ (λs'=>typeIs_int s' k t) noFill_list_mul F.fills_int_mul F.slot_int_rmul repeat_list F.slot_int_index.lookup
  (call_meets F.slot_int_rmul (typeIs_int s k t) F.entry_int_rmul (F.args_int_rmul_2 _ _) (int___rmul___int_list k t l its.toArray n)
   ⟨e,rfl,⟨_,e,rfl⟩,call_meets F.slot_list_mul ⟨_,e,rfl⟩ F.entry_list_mul (F.args_list_mul_2 _ _) (AutoListH.list___mul___list_int_3 l its.toArray n k t hfit hcap hlong) ⟨e,?_⟩⟩)
 rw[hnew];exact⟨.ref _,_,I.lnew (t':=s.toks) (r.rep k.toNat) (by rw[len_rep,Nat.mul_comm];exact hz),rfl,q _ I.fresh⟩
end
end L2
namespace L2
open PySem PySem.Spec PyProof.Rows
section
variable{κ:Type}[DecidableEq κ]
def valV(kvs:List (κ×V))(k:κ):Option V:=(kvs.find? λkv=>decide (kv.1=k)).map (·.2)
def putK(kvs:List (κ×V))(k:κ)(v:V):List (κ×V):=
 if (kvs.any λkv=>decide (kv.1=k))=true then kvs.map (λkv=>if kv.1=k then (kv.1,v) else kv) else kvs++[(k,v)]
def dropK(kvs:List (κ×V))(k:κ):List (κ×V):=kvs.filter λkv=>decide (kv.1≠k)
theorem valV_pos{p:κ×V}{r:List (κ×V)}{k:κ}(e:p.1=k):valV (p::r) k=some p.2:=by simp[valV,List.find?_cons,e]
theorem valV_neg{p:κ×V}{r:List (κ×V)}{k:κ}(e:¬p.1=k):valV (p::r) k=valV r k:=by simp[valV,List.find?_cons,e]
theorem valV_any(k:κ):∀kvs:List (κ×V),(kvs.any λkv=>decide (kv.1=k))=(valV kvs k).isSome
 |[]=>rfl
 |p::r=>by
  rw[List.any_cons];by_cases e:p.1=k
  ·simp only[valV_pos e,decide_eq_true e,Bool.true_or,Option.isSome_some]
  ·rw[valV_neg e,decide_eq_false e,Bool.false_or];exact valV_any k r
theorem length_putK(kvs:List (κ×V))(k:κ)(v:V):(putK kvs k v).length<=kvs.length+1:=by
 unfold putK;split
 ·rw[List.length_map];exact Nat.le_add_right _ _
 ·rw[List.length_append,List.length_cons,List.length_nil];exact Nat.add_le_add_left (by decide) _
theorem RelO.isSome_eq{o:Option V}{u:Option Value}(r:RelO o u):o.isSome=u.isSome:=by
 cases o with
 |none=>cases u with
  |none=>rfl
  |some _=>exact(show False from r).elim
 |some _=>cases u with
  |none=>exact(show False from r).elim
  |some _=>rfl
theorem KV.val{kvs:List (κ×V)}{vs:List (κ×Value)}(r:KV kvs vs)(k:κ):RelO (valV kvs k) (valueAt vs k):=by
 unfold KV at r
 induction r with
 |nil=>exact True.intro
 | @cons p q ps qs h t ih=>
  obtain⟨h1,h2⟩:=h;by_cases e:p.1=k
  ·have e':q.1=k:=h1.symm.trans e;have b:valueAt (q::qs) k=some q.2:=by simp[valueAt,List.find?_cons,e']
   rw[valV_pos e,b];exact h2
  ·have e':¬q.1=k:=λz=>e (h1.trans z);have b:valueAt (q::qs) k=valueAt qs k:=by simp[valueAt,List.find?_cons,e']
   rw[valV_neg e,b];exact ih
theorem KV.any{kvs:List (κ×V)}{vs:List (κ×Value)}(r:KV kvs vs)(k:κ):(kvs.any λkv=>decide (kv.1=k))=vs.any λkv=>decide (kv.1=k):=by
 unfold KV at r
 induction r with
 |nil=>rfl
 |cons h t ih=>rw[List.any_cons,List.any_cons,ih,h.1]
theorem KV.repl{kvs:List (κ×V)}{vs:List (κ×Value)}(r:KV kvs vs)(k:κ){y:V}{u:Value}(ry:RelV y u):
  KV (kvs.map λkv=>if kv.1=k then (kv.1,y) else kv) (vs.map λkv=>if kv.1=k then (kv.1,u) else kv):=by
 unfold KV at r ⊢
 induction r with
 |nil=>exact .nil
 | @cons p q ps qs h t ih=>
  rw[List.map_cons,List.map_cons];refine .cons ?_ ih;obtain⟨h1,h2⟩:=h;by_cases e:p.1=k
  ·rw[if_pos e,if_pos (h1.symm.trans e)];exact⟨h1,ry⟩
  ·rw[if_neg e,if_neg (λz=>e (h1.trans z))];exact⟨h1,h2⟩
theorem KV.put{kvs:List (κ×V)}{vs:List (κ×Value)}(r:KV kvs vs)(k:κ){y:V}{u:Value}(ry:RelV y u):KV (putK kvs k y) (stored vs k u):=by
 unfold putK stored;rw[r.any k];by_cases e:(vs.any λkv=>decide (kv.1=k))=true
 ·rw[if_pos e,if_pos e];exact r.repl k ry
 ·rw[if_neg e,if_neg e];exact Paired.snoc r ⟨rfl,ry⟩
theorem KV.drop{kvs:List (κ×V)}{vs:List (κ×Value)}(r:KV kvs vs)(k:κ):KV (dropK kvs k) (without vs k):=by
 unfold KV at r ⊢;unfold dropK without
 induction r with
 |nil=>exact .nil
 | @cons p q ps qs h t ih=>
  obtain⟨h1,h2⟩:=h;rw[List.filter_cons,List.filter_cons];by_cases e:p.1=k
  ·have a:¬decide (p.1≠k)=true:=by simp[e]
   have b:¬decide (q.1≠k)=true:=by simp[h1.symm.trans e]
   rw[if_neg a,if_neg b];exact ih
  ·have e':¬q.1=k:=λz=>e (h1.trans z);have a:decide (p.1≠k)=true:=by simp[e]
   have b:decide (q.1≠k)=true:=by simp[e']
   rw[if_pos a,if_pos b];exact .cons ⟨h1,h2⟩ ih
theorem KV.keys{kvs:List (κ×V)}{vs:List (κ×Value)}(r:KV kvs vs):kvs.map (·.1)=vs.map (·.1):=by
 unfold KV at r
 induction r with
 |nil=>rfl
 |cons h t ih=>rw[List.map_cons,List.map_cons,ih,h.1]
theorem KV.length{kvs:List (κ×V)}{vs:List (κ×Value)}(r:KV kvs vs):kvs.length=vs.length:=Paired.length r
theorem dropK_le(kvs:List (κ×V))(k:κ):(dropK kvs k).length<=kvs.length:=List.length_filter_le _ _
end
theorem kV_is{P:Program}{w:World}{k:Key}{u:Value}(r:RelV (kV k) u):(Bl P w).is k u=true:=by
 cases k with
 |inl i=>obtain⟨t,e⟩:=(show ∃t,u=Value.int i t from r);subst e;exact mixKind_int P w i t
 |inr x=>obtain⟨t,e⟩:=(show ∃t,u=Value.str x t from r);subst e;exact mixKind_str P w x t
theorem items_are{P:Program}{w:World}:∀{ks:List Key} {us:List Value},Vals (ks.map kV) us->ItemsAre (Bl P w) ks us
 |[],_,r=>by rw[List.map_nil] at r;cases r;exact .nil
 |k::ks,_,r=>by
  rw[List.map_cons] at r;cases r with
  |cons h t=>exact .cons (kV_is h) (items_are t)
abbrev KT(H:Hp):List (List Key×V)->List (List Key×Addr×Value)->Prop:=Paired λp q=>p.1=q.1/\H q.2.1=some (.tup (p.1.map kV))/\RelV p.2 q.2.2
theorem KT.val{H:Hp}{kvs:List (List Key×V)}{xs:List (List Key×Addr×Value)}(r:KT H kvs xs)(k:List Key):RelO (valV kvs k) ((atKey xs k).map (·.2)):=by
 induction r with
 |nil=>exact True.intro
 | @cons p q ps qs h t ih=>
  obtain⟨h1,_,h2⟩:=h;by_cases e:p.1=k
  ·have e':q.1=k:=h1.symm.trans e;have b:atKey (q::qs) k=some q.2:=by simp[atKey,List.find?_cons,e']
   rw[valV_pos e,b];exact h2
  ·have e':¬q.1=k:=λz=>e (h1.trans z);have b:atKey (q::qs) k=atKey qs k:=by simp[atKey,List.find?_cons,e']
   rw[valV_neg e,b];exact ih
theorem KT.repl{H:Hp}{kvs:List (List Key×V)}{xs:List (List Key×Addr×Value)}(r:KT H kvs xs)(k:List Key){y:V}{u:Value}(ry:RelV y u):
  KT H (kvs.map λkv=>if kv.1=k then (kv.1,y) else kv) (xs.map (putAt k u)):=by
 induction r with
 |nil=>exact .nil
 | @cons p q ps qs h t ih=>
  rw[List.map_cons,List.map_cons];refine .cons ?_ ih;obtain⟨h1,h2,h3⟩:=h;unfold putAt;by_cases e:p.1=k
  ·rw[if_pos e,if_pos (h1.symm.trans e)];exact⟨h1,h2,ry⟩
  ·rw[if_neg e,if_neg (λz=>e (h1.trans z))];exact⟨h1,h2,h3⟩
theorem KT.put{H:Hp}{kvs:List (List Key×V)}{xs:List (List Key×Addr×Value)}(r:KT H kvs xs)(k:List Key){b:Addr}{y:V}{u:Value}(hb:H b=some (.tup (k.map kV)))(ry:RelV y u):
  KT H (putK kvs k y) (storedH xs k b u):=by
 have e:(kvs.any λkv=>decide (kv.1=k))=(atKey xs k).isSome:=by
  rw[valV_any,(r.val k).isSome_eq,Option.isSome_map]
 unfold putK storedH;rw[e];by_cases q:(atKey xs k).isSome=true
 ·rw[if_pos q,if_pos q];exact r.repl k ry
 ·rw[if_neg q,if_neg q];exact Paired.snoc r ⟨rfl,hb,ry⟩
theorem KT.keeps{H H':Hp}{kvs:List (List Key×V)}{xs:List (List Key×Addr×Value)}(r:KT H kvs xs)(ht:∀b ys,H b=some (.tup ys)->H' b=some (.tup ys)):KT H' kvs xs:=
 Paired.mapP r λ_ _ z=>⟨z.1,ht _ _ z.2.1,z.2.2⟩
section
variable{P:Program}{w:World}{H:Hp}{h:Heap}{a:Addr}
theorem rd_of{u:HO}(ok:HOk P w H h)(e:Rd H a u):ObjOk P w H h a u:=e.ok ok
theorem dk_rd{kvs:List (Key×V)}(ok:HOk P w H h)(e:Rd H a (.dK kvs)):kvs.length<=sizeLine/\(a==sysModules)=false/\∃vs,KV kvs vs/\h.DictOf (Bl P w) a vs:=
 show ObjOk P w H h a (.dK kvs) from rd_of ok e
theorem dk_of{kvs:List (Key×V)}(ok:HOk P w H h)(e:H a=some (.dK kvs)):kvs.length<=sizeLine/\(a==sysModules)=false/\∃vs,KV kvs vs/\h.DictOf (Bl P w) a vs:=dk_rd ok (.inl e)
theorem key_of{ks:List Key}(ok:HOk P w H h)(e:H a=some (.tup (ks.map kV))):(tupleKind (Bl P w)).is h ks a:=by
 obtain⟨_,its,r,o,h1,h2,_,n,h3⟩:=(show ObjOk P w H h a (.tup (ks.map kV)) from ok a _ e)
 exact⟨o,its.toArray,n,h1,h2,h3,by simpa using items_are r⟩
theorem dt_rd{kvs:List (List Key×V)}(ok:HOk P w H h)(e:Rd H a (.dT kvs)):kvs.length<=sizeLine/\(a==sysModules)=false/\
  ∃xs,KT H kvs xs/\h.DictOfH (tupleKind (Bl P w)) a xs:=by
 obtain⟨z,y,xs,r,o,es,ep,h1,h2,h3,h4,h5⟩:=(show ObjOk P w H h a (.dT kvs) from rd_of ok e)
 refine⟨z,y,xs,r,o,es,ep,h1,h2,h3,h4,λx hx=> ?_,h5⟩;have all:∀{l:List (List Key×V)} {m:List (List Key×Addr×Value)},KT H l m->∀x∈m,(tupleKind (Bl P w)).is h x.1 x.2.1:=by
  intro l m q
  induction q with
  |nil=>intro x hx;exact nomatch hx
  | @cons p q ps qs hq t ih=>
   intro x hx;rcases List.mem_cons.mp hx with e|hx
   ·subst e;exact key_of ok (by rw[<-hq.1];exact hq.2.1)
   ·exact ih x hx
 exact all r x hx
theorem dt_of{kvs:List (List Key×V)}(ok:HOk P w H h)(e:H a=some (.dT kvs)):kvs.length<=sizeLine/\(a==sysModules)=false/\
  ∃xs,KT H kvs xs/\h.DictOfH (tupleKind (Bl P w)) a xs:=dt_rd ok (.inl e)
end
def DGet(H:Hp)(a:Addr)(y:V)(r:Option V):Prop:=
 (∃kvs k,Rd H a (.dK kvs)/\y=kV k/\r=valV kvs k)\/∃kvs k b,Rd H a (.dT kvs)/\y= .ref b/\H b=some (.tup (k.map kV))/\r=valV kvs k
def DPut(H:Hp)(a:Addr)(y v:V)(H':Hp):Prop:=
 (∃kvs k,H a=some (.dK kvs)/\y=kV k/\kvs.length<sizeLine/\H'=upd H a (.dK (putK kvs k v)))\/
 ∃kvs k b,H a=some (.dT kvs)/\y= .ref b/\H b=some (.tup (k.map kV))/\kvs.length<sizeLine/\H'=upd H a (.dT (putK kvs k v))
theorem DGet.k{H:Hp}{a:Addr}{kvs:List (Key×V)}{k:Key}(e:H a=some (.dK kvs)):DGet H a (kV k) (valV kvs k):= .inl ⟨kvs,k,.inl e,rfl,rfl⟩
section
variable{X:Cx}{pins:List (Addr×Obj)}{σ:St}{H:Hp}{s:Shared}{a:Addr}{y v:V}{u r:Value}{o:Option V}{A:Around}{E:Value->Shared->Prop}
theorem Inv.big(I:Inv X pins σ H s):sysModules<s.heap.objs.size:=by
 have h:mainGlobals<s.heap.objs.size:=(I.mod.glob.keeps I.bk).lt;exact Nat.lt_trans (by decide) h
theorem d_getItem{Q:Value->Shared->Prop}(hu:A.units+1<cLine)(I:Inv X pins σ H s)(g:DGet H a y (some v))(ry:RelV y u)(h:∀w' s',Inv X pins σ H s'->RelV v w'->Q w' s'):
  wpAny (model X.prog X.w) A (getItem (.ref a) u) Q E s:=by
 rcases g with⟨kvs,k,e,ey,l⟩|⟨kvs,k,b,e,ey,eb,l⟩
 ·subst ey;obtain⟨z,hd,vs,rel,dd⟩:=dk_rd I.hok e;obtain⟨w',hw,rw'⟩:=RelO.some_of (v:=v) (o:=valueAt vs k) (by rw[l];exact rel.val k);exact wpAny_getItem_of (kV_is ry) dd.mapOf hw (h w' _ (I.tok _) rw')
 ·subst ey;cases (show u=Value.ref b from ry);obtain⟨z,hd,xs,rel,dd⟩:=dt_rd I.hok e;obtain⟨w',hw,rw'⟩:=RelO.some_of (v:=v) (o:=(atKey xs k).map (·.2)) (by rw[l];exact rel.val k);obtain⟨p,hp,hp2⟩:=Option.map_eq_some_iff.mp hw;refine wpAny_getItem_heap (tupleKind_room_in1 hu) (key_of I.hok eb) dd hp ?_;rw[hp2];exact h w' _ (I.tok _) rw'
theorem d_write{h':Heap}{t':Nat}{ob:HO}(I:Inv X pins σ H s)(mu:Mut (H a))(hs:Heap.SameBut a s.heap h')(he:∃q,h'.get? a=some q)(new:ObjOk X.prog X.w (upd H a ob) h' a ob):
  Inv X pins σ (upd H a ob) {s with heap:=h',toks:=t'}:=
 I.write (x:=a) (e:=a) mu (.inl rfl) (λb q hb z=>(hs.2 b hb).trans z) he new
theorem dk_new{P:Program}{w:World}{H':Hp}{h':Heap}{kvs:List (Key×V)}{vs:List (Key×Value)}(z:kvs.length<=sizeLine)(hd:(a==sysModules)=false)(rel:KV kvs vs)(dd:h'.DictOf (Bl P w) a vs):
  ObjOk P w H' h' a (.dK kvs):=⟨z,hd,vs,rel,dd⟩
theorem d_setItem{H':Hp}{Q:Unit->Shared->Prop}(hu:A.units+1<cLine)(I:Inv X pins σ H s)(g:DPut H a y v H')(ry:RelV y u)(rv:RelV v r)(h:∀s',Inv X pins σ H' s'->Q () s'):
  wpAny (model X.prog X.w) A (setItem (.ref a) u r) Q E s:=by
 rcases g with⟨kvs,k,e,ey,l,eH⟩|⟨kvs,k,b,e,ey,eb,l,eH⟩
 ·subst ey eH;obtain⟨z,hd,vs,rel,dd⟩:=dk_of I.hok e;have hz:vs.length<=sizeLine:=by rw[<-rel.length];exact z
  have hl:(putK kvs k v).length<=sizeLine:=by have:=length_putK kvs k v;exact Nat.le_trans (by assumption) (by assumption)
  refine wpAny_setItem_pairs (hsz:=hz) (kV_is ry) dd λh' dd' hs=>h _ ?_;have he:∃q,h'.get? a=some q:=let ⟨q,_,_,hq,_⟩:=dd';⟨q,hq⟩
  exact d_write I (by rw[e];exact True.intro) hs he (dk_new hl hd (rel.put k rv) dd')
 ·subst ey eH;cases (show u=Value.ref b from ry);obtain⟨z,hd,xs,rel,dd⟩:=dt_of I.hok e;have hz:xs.length<=sizeLine:=by rw[<-Paired.length rel];exact z
  have hl:(putK kvs k v).length<=sizeLine:=by have:=length_putK kvs k v;exact Nat.le_trans (by assumption) (by assumption)
  refine wpAny_setItem_heap (hsz:=hz) (tupleKind_room_in1 hu) (key_of I.hok eb) dd λh' dd' hs=>h _ ?_;obtain⟨q,es,ep,hq,h2,h3,h4,_,h5⟩:=dd';refine d_write I (by rw[e];exact True.intro) hs ⟨q,hq⟩ ⟨hl,hd,_,(rel.put k eb rv).keeps λc ys ec=> ?_,q,es,ep,hq,h2,h3,h4,h5⟩;rw[Aj (Cr ec e (λz=>nomatch z))];exact ec
end
section
variable{X:Cx}{pins:List (Addr×Obj)}{σ:St}{H:Hp}{s:Shared}{a:Addr}{kvs:List (Key×V)}{k:Key}{u:Value}{A:Around}{E:Value->Shared->Prop}
theorem d_pop{v:V}{more:List Value}{Q:Value->Shared->Prop}(I:Inv X pins σ H s)(e:H a=some (.dK kvs))(ry:RelV (kV k) u)(l:valV kvs k=some v)(hm:more=[]\/∃x,more=[x])(h:∀w' s',Inv X pins σ (upd H a (.dK (dropK kvs k))) s'->RelV v w'->Q w' s'):wpAny (model X.prog X.w) A (call (.builtin "dict.pop") (.ref a::u::more)) Q E s:=by
 obtain⟨z,hd,vs,rel,dd⟩:=dk_of I.hok e;obtain⟨w',hw,rw'⟩:=RelO.some_of (v:=v) (o:=valueAt vs k) (by rw[<-l];exact rel.val k);have hp:(keyPart u).isSome=true:=by
  cases k with
  |inl i=>obtain⟨t,q⟩:=(show ∃t,u=Value.int i t from ry);subst q;rfl
  |inr x=>obtain⟨t,q⟩:=(show ∃t,u=Value.str x t from ry);subst q;rfl
 have ha:argsOk "dict.pop" ⟨.ref a::u::more,[]⟩:=by
  rcases hm with q|⟨x,q⟩
  ·subst q;exact PySem.F.args_dict_pop_2 _ _
  ·subst q;exact PySem.F.args_dict_pop_3 _ _ _
 refine call_meetsIn PySem.F.slot_dict_pop dd.typeIs PySem.F.entry_dict_pop ha (meets_dict_pop_there (Bl X.prog X.w) a (kV_is ry) more hm hp)
  ⟨vs,w',dd,by rw[<-rel.length];exact z,hw,λh' dd' hs=>h w' _ ?_ rw'⟩
 have he:∃q,h'.get? a=some q:=let ⟨q,_,_,hq,_⟩:=dd';⟨q,hq⟩
 exact d_write I (by rw[e];exact True.intro) hs he (dk_new (Nat.le_trans (dropK_le kvs k) z) hd (rel.drop k) dd')
end
def NoSl(i:Expr):Prop:=∀ov iv,subscripted i false ov iv=operate [ov,iv] (getItem ov iv)
theorem subD_of{prog:Program}{w:World}{A:Around}{E:Value->Shared->Prop}{s:Shared}{env:Env}{value slice:Expr}{pos:Pos}{T id:String}{Q:Value->Shared->Prop}(hl:typeLookup (.type T) "__getitem__"=pure (some (.builtin id)))(hs:NoSl slice)(h:wpAny (model prog w) A (eval value env) (λo s₁=>wpAny (model prog w) A (eval slice env) (λi s₂=>s₂.TypeIs o T/\wpAny (model prog w) A (getItem o i) Q E s₂) E s₁) E s):
  wpAny (model prog w) A (eval (.Subscript value slice pos) env) Q E s:=by
 refine Subscript_ (wpAny_mono h (λo s₁ h₁=>wpAny_mono h₁ (λi s₂ h₂=> ?_) λ_ _ x=>x) λ_ _ x=>x);obtain⟨hT,h₂⟩:=h₂;unfold subscriptTail;refine wpAny_bind ?_;rw[getitemInPython_of_ne hT.not_modules];refine wpAny_bind (wpAny_specialOf hT hl ?_);have fin:wpAny (model prog w) A (subscripted slice false o i) (λr s₃=>wpAny (model prog w) A (letTemporaryGo value o r >>=λ_=>pure r) Q E s₃) E s₂:=by
  rw[hs o i];exact wpAny_operating (wpAny_mono h₂ (λr s₃ h₃=>wpAny_bind (wpAny_letTemporaryGo (wpAny_pure h₃))) λ_ _ x=>x)
 first
  |exact wpAny_pure (wpAny_bind fin)
  |exact wpAny_bind (wpAny_pure (wpAny_bind fin))
  |exact wpAny_bind fin
theorem dict_typeIs{X:Cx}{pins:List (Addr×Obj)}{σ:St}{H:Hp}{s:Shared}{a:Addr}{y:V}{o:Option V}(I:Inv X pins σ H s)(g:DGet H a y o):s.TypeIs (.ref a) "dict":=by
 rcases g with⟨kvs,k,e,_,_⟩|⟨kvs,k,b,e,_,_,_⟩
 ·obtain⟨_,_,vs,_,dd⟩:=dk_rd I.hok e;exact dd.typeIs
 ·obtain⟨_,_,xs,_,dd⟩:=dt_rd I.hok e;exact dd.typeIs
def tDGet(td ty:TE):TE:=λσ H Q=>td σ H λx H1=>ty σ H1 λy H2=>∃a v,x= .ref a/\DGet H2 a y (some v)/\Q v H2
def sDPut(td ty tv:TE):TS:=λD σ H=>tv σ H λv H1=>td σ H1 λx H2=>ty σ H2 λy H3=>∃a H4,x= .ref a/\DPut H3 a y v H4/\D.nx σ H4
section
variable{X:Cx}{o i e value:Expr}{pos pos' tpos:Pos}{td ty tv:TE}
theorem Cn(hu:X.A.units+1<cLine)(ho:PE X o td)(hi:PE X i ty)(hs:NoSl i):PE X (.Subscript o i pos) (tDGet td ty):=by
 intro pins s σ H Q I h;refine subD_of PySem.F.slot_dict_getitem.lookup hs (thn (ho pins s σ H _ I h) λu s1 ⟨x,H1,I1,rx,q1⟩=>thn (hi pins s1 σ H1 _ I1 q1) λiv s2 ⟨y,H2,I2,ry,a,v,ex,g,q2⟩=> ?_);subst ex;obtain rfl:u=Value.ref a:=rx;exact⟨dict_typeIs I2 g,d_getItem hu I2 g ry λw' s3 I3 rw'=>⟨v,H2,I3,rw',q2⟩⟩
theorem ps_dput(hu:X.A.units+1<cLine)(ho:PE X o td)(hi:PE X i ty)(hv:PE X value tv)(hs:swapsWith value (some (.Subscript o i pos')) pos.line X.env=pure false):
  PS X (.Assign [.Subscript o i pos'] value pos) (sDPut td ty tv):=by
 intro pins s σ H D I h;refine wpAny_Assign_Subscript (thn (hv pins s σ H _ I h) λr s1 ⟨v,H1,I1,rv,q1⟩=>thn (ho pins s1 σ H1 _ I1 q1) λu s2 ⟨x,H2,I2,rx,q2⟩=>thn (hi pins s2 σ H2 _ I2 q2) λiv s3 ⟨y,H3,I3,ry,a,H4,ex,g,q3⟩=> ?_) hs;subst ex;obtain rfl:u=Value.ref a:=rx;exact d_setItem hu I3 g ry rv λs4 I4=>⟨σ,H4,I4,q3⟩
end
theorem dk_empty{P:Program}{w:World}{H:Hp}(h:Heap)(hb:sysModules<h.objs.size):ObjOk P w H (h.push {cls:= .type "dict",data:= .dict #[]}) h.objs.size (.dK []):=
 ⟨Nat.zero_le _,beq_eq_false_iff_ne.mpr (Ne.symm (Nat.ne_of_lt hb)),[],.nil,Heap.DictOf.new h⟩
def tPairs:List (TE×TE)->St->Hp->(List (V×V)->Hp->Prop)->Prop
 |[],_,H,Q=>Q [] H
 |(tk,tv)::r,σ,H,Q=>tk σ H λx H1=>tv σ H1 λy H2=>tPairs r σ H2 λps H3=>Q ((x,y)::ps) H3
abbrev VV:List (V×V)->List (Value×Value)->Prop:=Paired λp q=>RelV p.1 q.1/\RelV p.2 q.2
def PPs(X:Cx)(pos:Pos)(keys:List (Option Expr))(values:List Expr)(trs:List (TE×TE)):Prop:=
 ∀(pins:List (Addr×Obj)) (s:Shared) (σ:St) (H:Hp) (Q:List (V×V)->Hp->Prop),Inv X pins σ H s->tPairs trs σ H Q->
  wpAny (model X.prog X.w) X.A (evalPairs (pairTrees keys values X.env pos)) (λvs s'=>∃ps H',Inv X pins σ H' s'/\VV ps vs/\Q ps H') X.xe s
theorem pps_nil{X:Cx}{pos:Pos}:PPs X pos [] [] []:=λpins s σ H Q I h=>pairTrees_nil_walk ⟨[],H,I,.nil,h⟩
theorem pps_cons{X:Cx}{pos:Pos}{k v:Expr}{ks:List (Option Expr)}{vs:List Expr}{tk tv:TE}{trs:List (TE×TE)}(hk:PE X k tk)(hv:PE X v tv)(hr:PPs X pos ks vs trs):
  PPs X pos (some k::ks) (v::vs) ((tk,tv)::trs):=λpins s σ H Q I h=>
 pairTrees_cons_walk (thn (hk pins s σ H _ I h) λu s1 ⟨x,H1,I1,rx,q1⟩=>thn (hv pins s1 σ H1 _ I1 q1) λw2 s2 ⟨y,H2,I2,ry,q2⟩=>
  thn (hr pins s2 σ H2 _ I2 q2) λws s3 ⟨ps,H3,I3,rel,q3⟩=>⟨(x,y)::ps,H3,I3,.cons ⟨rx,ry⟩ rel,q3⟩)
def mergeK(kvs more:List (Key×V)):List (Key×V):=more.foldl (λacc kv=>putK acc kv.1 kv.2) kvs
theorem KV.merge:∀{more:List (Key×V)} {rs:List (Key×Value)} {kvs:List (Key×V)} {vs:List (Key×Value)},KV more rs->KV kvs vs->KV (mergeK kvs more) (merged vs rs):=by
 intro more rs kvs vs r;unfold KV at r
 induction r generalizing kvs vs with
 |nil=>intro q;exact q
 | @cons p q ps qs h t ih=>
  intro r0;have e:KV (putK kvs p.1 p.2) (stored vs q.1 q.2):=by
   have:=r0.put p.1 h.2;rw[<-h.1];exact this
  exact ih e
theorem length_mergeK:∀(more kvs:List (Key×V)),(mergeK kvs more).length<=kvs.length+more.length
 |[],kvs=>by show kvs.length<=kvs.length+0;exact Nat.le_add_right _ _
 |p::r,kvs=>by
  have h1:=length_mergeK r (putK kvs p.1 p.2);have h2:=length_putK kvs p.1 p.2;show (mergeK (putK kvs p.1 p.2) r).length<=_;rw[List.length_cons];omega
theorem carries_of{P:Program}{w:World}:∀{kvs:List (Key×V)} {ws:List (Value×Value)},VV (kvs.map λkv=>(kV kv.1,kv.2)) ws->∃rs,Carries (Bl P w) ws rs/\KV kvs rs
 |[],_,r=>by rw[List.map_nil] at r;cases r;exact⟨[],True.intro,.nil⟩
 |p::kvs,_,r=>by
  rw[List.map_cons] at r;cases r with
  | @cons a b as bs h t=>
   obtain⟨rs,c,q⟩:=carries_of (P:=P) (w:=w) t;obtain⟨b1,b2⟩:=b;exact⟨(p.1,b2)::rs,⟨kV_is h.1,rfl,c⟩,.cons ⟨rfl,h.2⟩ q⟩
def tDisp(trs:List (TE×TE)):TE:=λσ H Q=>∀p,H p=none->tPairs trs σ (upd H p (.dK [])) λps H2=>H2 p=some (.dK [])/\∃kvs:List (Key×V),ps=kvs.map (λkv=>(kV kv.1,kv.2))/\kvs.length<=15/\Q (.ref p) (upd H2 p (.dK (mergeK [] kvs)))
theorem pe_disp{X:Cx}{pos:Pos}{keys:List (Option Expr)}{values:List Expr}{trs:List (TE×TE)}(h:PPs X pos keys values trs)(hall:keys.all (·.isSome)=true)(hl:keys.length=values.length)(h0:keys≠[])(h15:keys.length<=15):PE X (.Dict keys values pos) (tDisp trs):=by
 intro pins s σ H Q I q;have hn:=I.hok.fresh (Nat.le_refl s.heap.objs.size);have I1:=I.laid (a:=s.heap.objs.size) (o:= .dK []) (h':=s.heap.push {cls:= .type "dict",data:= .dict #[]}) (t':=s.toks) (λ_ _ q=>Heap.get?_push_of_some _ q) (Nat.le_refl _) (dk_empty s.heap I.big);refine wpAny_Dict_walk (knd:=Bl X.prog X.w) hall hl h0 h15 (thn (h pins _ σ _ _ I1 (q _ hn)) λws s2 ⟨ps,H2,I2,rel,e,kvs,ep,lk,q2⟩=> ?_);subst ep;obtain⟨rs,c,rk⟩:=carries_of (P:=X.prog) (w:=X.w) rel;obtain⟨z,hd,vs0,r0,dd⟩:=dk_of I2.hok e;cases r0;refine⟨rs,c,dd,λh' dd' hs=>⟨.ref s.heap.objs.size,_,?_,rfl,q2⟩⟩;have hz:(mergeK [] kvs).length<=sizeLine:=by
  have h1:=length_mergeK kvs [];rw[List.length_nil] at h1;rw[sizeLine_eq];omega
 have he:∃q,h'.get? s.heap.objs.size=some q:=let ⟨q,_,_,hq,_⟩:=dd';⟨q,hq⟩
 exact d_write I2 (by rw[e];exact True.intro) hs he (dk_new hz hd (rk.merge .nil) dd')
structure M1(X:Cx)(o:Expr)(m:Str)(apos:Pos)(e:Expr)(cpos:Pos):Prop where
 base:attributeBase o m X.env (eval o X.env)=eval o X.env
 few:((backTo cpos (starEach [e] X.env)).all (λx=> !x.1) && (backToKw cpos (keywordEach [] X.env)).all (λx=>x.1.isSome)
  && decide (([e]:List Expr).length+([]:List Keyword).length+(if ([]:List Keyword).isEmpty then 0 else 1)<30))=true
 line:(apos.endLine==cpos.line)=true
 trees:backTo cpos (starEach [e] X.env)=[(false,eval e X.env)]
def IsD(H:Hp)(a:Addr):Prop:=(∃kvs,Rd H a (.dK kvs))\/∃kvs,Rd H a (.dT kvs)
theorem isD_at{X:Cx}{pins:List (Addr×Obj)}{σ:St}{H:Hp}{s:Shared}{a:Addr}(I:Inv X pins σ H s)(d:IsD H a):
  s.TypeIs (.ref a) "dict"/\(∀b,Value.ref a= .ref b->∃ob,s.heap.get? b=some ob/\ob.dict=none)/\(a==sysModules)=false:=by
 rcases d with⟨kvs,e⟩|⟨kvs,e⟩
 ·obtain⟨_,hd,vs,_,dd⟩:=dk_rd I.hok e;refine⟨dd.typeIs,λb q=> ?_,hd⟩;cases q;obtain⟨ob,_,_,h1,h2,_⟩:=dd;exact⟨ob,h1,h2.2.1⟩
 ·obtain⟨_,hd,xs,_,dd⟩:=dt_rd I.hok e;refine⟨dd.typeIs,λb q=> ?_,hd⟩;cases q;obtain⟨ob,_,_,h1,h2,_⟩:=dd;exact⟨ob,h1,h2.2.1⟩
def tDPop1(td ty:TE):TE:=λσ H Q=>td σ H λx H1=>∃a,x= .ref a/\IsD H1 a/\ty σ H1 λy H2=>∃kvs k v,H2 a=some (.dK kvs)/\y=kV k/\valV kvs k=some v/\Q v (upd H2 a (.dK (dropK kvs k)))
section
variable{X:Cx}{o e f:Expr}{apos cpos:Pos}{td ty tx:TE}
theorem pe_dpop1(ho:PE X o td)(he:PE X e ty)(m:M1 X o "pop" apos e cpos):PE X (.Call (.Attribute o "pop" apos) [e] [] cpos) (tDPop1 td ty):=by
 intro pins s σ H Q I h;refine wpAny_Call_method m.base m.few m.line PySem.F.plainAttrs_dict PySem.F.slot_dict_pop PySem.F.type_dict_pop (thn (ho pins s σ H _ I h) λu s1 ⟨x,H1,I1,rx,a,ex,d,q1⟩=> ?_);subst ex;obtain rfl:u=Value.ref a:=rx;obtain⟨t1,t2,_⟩:=isD_at I1 d;refine⟨t1,t2,?_⟩;rw[m.trees];refine Calls.callWith_builtin rfl (Calls.evalArgs_plain (Calls.spliced_cons (thn (he pins s1 σ H1 _ I1 q1) λiv s2 ⟨y,H2,I2,ry,kvs,k,v,ea,ey,l,q2⟩=>Calls.spliced_nil ?_)));subst ey;exact d_pop I2 ea ry l (.inl rfl) λw' s3 I3 rw'=>⟨v,_,I3,rw',q2⟩
end
end L2
namespace Att
open PySem PySem.W PySem.Calls PyProof.Rows
theorem ints_of_wellAll{P:Params}{h:Heap}:∀(ns:List Int) (vs:List Value),WellAll P h vs (ns.map WData.int)->IntsAre vs ns:=by
 intro ns
 induction ns with
 |nil=>
  intro vs w;rw[List.map_nil] at w;cases w;exact .nil
 |cons n ns ih=>
  intro vs w;rw[List.map_cons] at w;cases w with
  |cons a b=>
   cases a;exact .cons _ _ (ih _ b)
theorem script_of{l:OpenLaw}{n:Nat}(hn:l.most=some n){P:Params}{h:Heap}{args:List WData}{vals:List Value}(hpre:l.row.toRowW.claim.pre args=true)(hwl:WellAll P h vals args):
  ∃a vs ns,vals=[Value.ref a]/\args=[WData.list (ns.map WData.int)]/\h.get? a=some {cls:= .type "list",data:= .seq vs.toArray}/\IntsAre vs ns/\ns.length<=n:=by
 have hsh:WShape.hasAll [] args [.list .int]=true:=(pre_splitW hpre).1;have hc:l.pre.holds [] {args:=args}=true:=(pre_splitW hpre).2;obtain⟨d,r,rfl,h1,h2⟩:=hasAllW_cons hsh;obtain rfl:=hasAllW_nil h2;obtain⟨xs,rfl,h3⟩:=hasW_list h1;obtain⟨ns,rfl⟩:=items_int h3;have hlen:ns.length<=n:=by
  unfold OpenLaw.pre at hc;have h4:(WTm.not (.lt (.lit (.int (n:Int))) (.len (.arg 0)))).holds [] {args:=[.list (ns.map .int)]}=true:=by
   have h4:=(holds_andW hc).1;rw[hn] at h4;exact h4
  have h5:=condW_of h4 (w_not (w_lt w_lit (w_len_list (w_arg rfl))));rw[List.length_map] at h5;refine Nat.le_of_not_lt λq=> ?_;have q':(n:Int)<((ns.length:Nat):Int):=by omega
  first
   |(rw[decide_eq_true q'] at h5;exact absurd h5 (by decide))
   |(simp at h5;omega)
 cases hwl with
 |cons w1 w2=>
  cases w2;cases w1 with
  |list ho hall=>exact⟨_,_,ns,rfl,rfl,ho,ints_of_wellAll ns _ hall,hlen⟩
theorem post_true(l:OpenLaw)(args:List WData):l.row.toRowW.claim.post args (.bool true) args=true:=
 postW_of (r:=l.row.toRowW) (X:=(true==true))
  (show WShape.has [] (.bool true) .bool=true by first|rfl|decide|simp[WShape.has,WShape.arms,WShape.armsAll])
  (show (WTm.eq .res (.lit (.bool true))).value [] {args:=args,res:=some (.bool true),after:=args}=some (.bool (true==true)) from w_eq_bool (w_res rfl) w_lit) rfl
theorem attach_call{l:OpenLaw}{n:Nat}{q:Program}{loose:List Str}{XP:(Str->Option Value)->Heap->Prop}{YP:World->Heap->Prop}{d:DefRec}(hn:l.most=some n)(hdf:d.params.defaults=[])(call:∀(w:World) (s₀ s₁:Shared) (mg mb:Str->Option Value) (fa:Addr) (o:Obj) (pm cd doc:Value) (a:Addr) (vs:List Value) (ns:List Int),
   Ground q loose [] XP w s₀ mg mb s₁.heap->YP w s₁.heap->
   s₁.heap.get? fa=some o->o.data= .func (docDef d.name d.params d.body d.scope pm cd doc)->s₁.heap.CodeRec cd d.name->mg d.name=some (.ref fa)->
   s₁.heap.get? a=some {cls:= .type "list",data:= .seq vs.toArray}->IntsAre vs ns->ns.length<=n->s₁.gens= #[]->
   codeAny (model l.prog w) callerA (.call (.ref fa) ⟨[.ref a],[]⟩) (λr s'=>r= .ok (.ret (.bool true))/\OldK s₁.heap s'.heap/\s'.os=s₁.os/\AllBare s'.gens) s₁):
  WalkO q loose XP YP l.row.toRowW d [] (λf vs=>PySem.call f vs):=by
 intro w s₀ s₁ mg mb G Y fa o pm cd doc dV kV ho hd hcd hD hmg hg args vals as hpre hlay hrd hwl hlo;obtain rfl:dV= .none:=Dflts.none hD hdf;obtain rfl:kV= .none:=Dflts.noKw hD;obtain⟨a,vs,ns,rfl,rfl,hobj,hints,hlen⟩:=script_of hn hpre hwl;refine enter_call (codeAny_mono (call w s₀ s₁ mg mb fa o pm cd doc a vs ns G Y ho (fd_plain hd) hcd hmg hobj hints hlen hg) λr s' hq=> ?_);obtain⟨rfl,h2,h3,h4⟩:=hq;exact⟨.inl ⟨.bool true,.bool true,[],rfl,λ_=>rfl,.bool true,post_true l _,λ_=>⟨List.Pairwise.nil,λ_ hm=>(nomatch hm)⟩⟩,h2,h3,h4⟩
end Att
namespace L2
open PySem PySem.Spec PyProof.Rows
theorem vals_ints:∀{vs:List Value} {ns:List Int},IntsAre vs ns->Vals (ns.map V.int) vs
 |_,_,.nil=> .nil
 |_,_,.cons n t h=> .cons ⟨t,rfl⟩ (vals_ints h)
def Only(H:Hp):Prop:=∀b,H b=none\/∃o xs,H b=some (.frz o (.lst xs))
theorem law_call{P:Program}{w:World}{K:PySem.W.Frag}{mg mb:Str->Option Value}{CX:CXT}{k:Nat}{fa a:Addr}{fd:FuncData}{x:Str}{sp:Sp}{s₁:Shared}{vs:List Value}{ns:List Int}(KX:K.In s₁.heap)(hns:s₁.heap.Ns mainGlobals mg)(hb:s₁.heap.Ns builtinsNs mb)(hbb:∀x:Str,x≠"__name__"->mb x=bootBuiltins x)(hlim:s₁.heap.NoLimit)(hg:s₁.gens= #[])(ha:s₁.heap.get? a=some {cls:= .type "list",data:= .seq vs.toArray})(hi:IntsAre vs ns)(hl:ns.length<=sizeLine)(hr:Room k callerA)(F:∀base:Heap,K.In base->base.Ns mainGlobals mg->FnOk P w K mg base CX k fa fd [x] sp)(hbind:∀(s:Shared) (u:Value),BindsTo s fd ⟨[u],[]⟩ [(x,u)])(hsp:∀H:Hp,Only H->SqL K H a (ns.map V.int)->sp [.ref a] H (λv _=>v= .bl true) λ_ _ _=>False)(hCX:∀H e s',CX [] H s₁ (λ_ _ _=>False) e s'->False):
  codeAny (model P w) callerA (.call (.ref fa) ⟨[.ref a],[]⟩) (λr s'=>r= .ok (.ret (.bool true))/\OldK s₁.heap s'.heap/\s'.os=s₁.os/\AllBare s'.gens) s₁:=by
 have rv:=vals_ints hi;have lenV:=hi.length;have core:∀H:Hp,Only H->SqL K H a (ns.map V.int)->HOk P w H s₁.heap->(∀b,H b≠none->b=a)->(H a≠none->K.lookup a=none)->
   codeAny (model P w) callerA (.call (.ref fa) ⟨[.ref a],[]⟩) (λr s'=>r= .ok (.ret (.bool true))/\OldK s₁.heap s'.heap/\s'.os=s₁.os/\AllBare s'.gens) s₁:=by
  intro H hO hS hok hA hK;have base_of:∀{b:Addr} {o:Obj},s₁.heap.get? b=some o->H b=none->(hidT s₁.heap H).get? b=some o:=λe n=>hidT_get e n;have noA:∀{b:Addr} {o:Obj} {es:Array DictEntry} {ep:Nat},s₁.heap.get? b=some o->o.data= .dict es ep->H b=none:=λ{b o es ep} e d=>by
   cases q:H b with
   |none=>rfl
   |some u=>
    have e':b=a:=hA b (by rw[q];simp);subst e';rw[ha] at e;cases e;have d':Data.seq vs.toArray _=Data.dict es ep:=d;cases d'
  have nsK:∀{b:Addr} {m:Str->Option Value},s₁.heap.Ns b m->(hidT s₁.heap H).Ns b m:=λ{b m} ⟨o,es,ep,e,d,r⟩=>⟨o,es,ep,base_of e (noA e d),d,r⟩
  have hKb:K.In (hidT s₁.heap H):=λb o e=>base_of (KX b o e) (by
   cases q:H b with
   |none=>rfl
   |some u=>
    have e':b=a:=hA b (by rw[q];simp);subst e';rw[hK (by rw[q];simp)] at e;cases e)
  have hM:Mod K mg (hidT s₁.heap H):=⟨hKb,nsK hns,⟨mb,nsK hb,hbb⟩,let ⟨mc,h1,h2⟩:=hlim;⟨mc,nsK h1,h2⟩⟩
  have e0:Env0 P w K mg (hidT s₁.heap H) callerA [] s₁ H:=⟨rfl,hM,λb o e=>of_hidT e,Nat.le_of_eq (hidT_size _ _),trivial,λb hb=>absurd (show b∈([]:List Addr) from hb) (by simp),hok,.of_eq hg⟩
  refine codeAny_mono ((F _ hKb (nsK hns)).run callerA [] s₁ H ⟨[.ref a],[]⟩ [.ref a] [.ref a] _ _ hr e0 (hbind s₁ (.ref a)) (.cons rfl .nil) (hsp H hO hS)) λr s' h=> ?_;cases r with
  |error e=>exact(hCX H e s' h).elim
  |ok fl=>
   cases fl with
   |next=>exact False.elim h
   |brk=>exact False.elim h
   |cont=>exact False.elim h
   |ret u=>
    obtain⟨v,H',os,bare,un,hok',r',q⟩:=h;have q':v= .bl true:=q;subst q';obtain rfl:u=Value.bool true:=r';refine⟨rfl,OldK.of_keep λb o e=> ?_,os,bare⟩;cases q:H b with
    |none=>exact un.keep b o e q (by intro z;exact absurd (show b∈([]:List Addr) from z) (by simp)) (by simp)
    |some u=>
     rcases hO b with z|⟨ob,xs,z⟩
     ·rw[q] at z;cases z
     ·have z2:=un.frzs b ob _ z;obtain⟨e1,_⟩:=hok b _ z;obtain⟨e2,_⟩:=hok' b _ z2;rw[e] at e1;cases e1;exact e2
 cases hk:K.lookup a with
 |some o=>
  have e:=KX a o hk;rw[ha] at e;cases e;refine core (λ_=>none) (λ_=> .inl rfl) (.inr ⟨_,vs.toArray,_,hk,rfl,rfl,rfl,by rw[List.size_toArray,lenV];exact hl,by simpa using rv⟩) (λb u z=>by have z':(none:Option HO)=some u:=z;cases z') (λb z=>absurd rfl z) λz=>absurd rfl z
 |none=>
  refine core (λb=>if b=a then some (.frz {cls:= .type "list",data:= .seq vs.toArray} (.lst (ns.map V.int))) else none) (λb=> ?_) (.inl (.inr ⟨{cls:= .type "list",data:= .seq vs.toArray},if_pos rfl⟩)) (λb u z=> ?_) (λb z=> ?_) λ_=>hk
  ·by_cases hb:b=a
   ·exact .inr ⟨_,_,if_pos hb⟩
   ·exact .inl (if_neg hb)
  ·by_cases hb:b=a
   ·have z':=(if_pos hb).symm.trans z;cases z';subst hb;exact⟨ha,by rw[List.length_map];exact hl,vs,_,rv,ha⟩
   ·have z':=(if_neg hb).symm.trans z;cases z'
  ·by_cases hb:b=a
   ·exact hb
   ·exact absurd (if_neg hb) z
end L2
namespace L2
open PySem PySem.Spec PyProof.Rows
theorem walk_of{l:PySem.W.OpenLaw}{n k:Nat}{q:Program}{loose:List Str}{XP:(Str->Option Value)->Heap->Prop}{YP:World->Heap->Prop}{d:DefRec}{K:Params->PySem.W.Frag}{CX:World->CXT}{sp:World->Sp}{x:Str}(hn:l.most=some n)(hn2:n<=sizeLine)(hdf:d.params.defaults=[])(hr:Room k callerA)(hY:∀(w:World) (h:Heap),YP w h->(K w.params).In h)(F:∀(w:World) (mg:Str->Option Value) (fa:Addr) (h:Heap),(K w.params).In h->h.Ns mainGlobals mg->mg d.name=some (.ref fa)->
   ∃fd:FuncData,(∀(s:Shared) (u:Value),BindsTo s fd ⟨[u],[]⟩ [(x,u)])/\
    ∀base:Heap,(K w.params).In base->base.Ns mainGlobals mg->FnOk l.prog w (K w.params) mg base (CX w) k fa fd [x] (sp w))(hsp:∀(w:World) (H:Hp) (a:Addr) (ns:List Int),ns.length<=n->Only H->SqL (K w.params) H a (ns.map V.int)->sp w [.ref a] H (λv _=>v= .bl true) λ_ _ _=>False)(hCX:∀(w:World) (H:Hp) (s:Shared) (e:Value) (s':Shared),CX w [] H s (λ_ _ _=>False) e s'->False):
  PySem.W.WalkO q loose XP YP l.row.toRowW d [] (λf vs=>PySem.call f vs):=by
 refine Att.attach_call hn hdf λw s₀ s₁ mg mb fa o pm cd doc a vs ns G Y ho hd hcd hmg hobj hints hlen hg=> ?_;have KX:=hY w _ Y;obtain⟨fd,hb,hF⟩:=F w mg fa _ KX G.T.g hmg;exact law_call KX G.T.g G.T.b G.T.builtins G.T.nolimit hg hobj hints (Nat.le_trans hlen hn2) hr hF hb (λH hO hS=>hsp w H a ns hlen hO hS) λH e s'=>hCX w H s₁ e s'
end L2
namespace L2
open PySem PySem.Spec PyProof.Rows
def defArgs(s:Stmt):Arguments:=match s with
 | .FunctionDef _ a _ _ _ _ _ _ _ _=>a
 |_=>{posonlyargs:=[],args:=[],vararg:=none,kwonlyargs:=[],kw_defaults:=[],kwarg:=none,defaults:=[]}
def defBody(s:Stmt):List Stmt:=match s with
 | .FunctionDef _ _ b _ _ _ _ _ _ _=>b
 |_=>[]
def Ag(s:Stmt):Scope:=match s with
 | .FunctionDef _ _ _ _ _ _ sc _ _ _=>sc
 |_=>{kind:= .function,names:=[],isGenerator:=false,isCoroutine:=false}
abbrev CX0:CXT:=λ_ _ _ _ _ _=>False
abbrev E0:XK:=λ_ _ _=>False
theorem pass0{X:Cx}:Passes CX0 X E0:=λ_ _ _ _ _ _ _ h=>h.elim
structure Fun(K:PySem.W.Frag)(x qual:Str)(st:Stmt)(f:Addr)(fd:FuncData):Prop where
 ex:∃(oc:Value) (od:Option Addr) (kV doc pm:Value) (an:Option Addr) (cdv ct:Value) (osl:Array (Option Value)),
  fd=PySem.W.fnOf x qual (defArgs st) (defBody st) (Ag st) .none kV doc pm an cdv ct/\K.lookup f=some ⟨oc,od,.func fd,osl⟩/\PySem.W.codeIn K cdv qual=true
 kp:PySem.W.keepIn K (.ref f)=true
section
variable{P:Program}{w:World}{K:PySem.W.Frag}{mg:Str->Option Value}{base:Heap}
theorem Fun.ok{x qual:Str}{st:Stmt}{f:Addr}{fd:FuncData}{N ps:List Str}{k:Nat}{sp:Sp}(F:Fun K x qual st f fd)(S:Av N ps (Ag st))(len:∀vs H Q E,sp vs H Q E->vs.length=ps.length)(hbody:∀(cdv:Value) (A:Around) (outer:List Env) (s:Shared) (H:Hp) (vs:List V) (Q:VK) (E:XK),Room k (A.deeper (envOfC qual (Ag st) s.heap.objs.size f cdv))->sp vs H Q E->
   ∃t,PSs (cxOf CX0 P w K mg base N qual (Ag st) f cdv A outer s H E).nox (defBody st) t/\t {nx:=λ_ H'=>Q .non H',rt:=Q} (start N vs) H):FnOk P w K mg base CX0 (k+1) f fd ps sp:=by
 obtain⟨oc,od,kV,doc,pm,an,cdv,ct,osl,rfl,lk,hcd⟩:=F.ex;refine fn_of lk hcd S len λA outer s H vs Q E hr hsp=> ?_;obtain⟨t,h,q⟩:=hbody cdv A outer s H vs Q E hr hsp;exact⟨t,h.nox,q⟩
theorem Fun.binds{x qual:Str}{st:Stmt}{f:Addr}{fd:FuncData}{ps:List Str}(F:Fun K x qual st f fd)(h:∀(kV doc pm:Value) (an:Option Addr) (cdv ct:Value) (us:List Value),us.length=ps.length->bindArgs (PySem.W.fnOf x qual (defArgs st) (defBody st) (Ag st) .none kV doc pm an cdv ct) ⟨us,[]⟩=pure (ps.zip us)):Binds K fd ps []:=by
 obtain⟨oc,od,kV,doc,pm,an,cdv,ct,osl,rfl,lk,hcd⟩:=F.ex;exact .all (h kV doc pm an cdv ct)
theorem fun_mk{x qual:Str}{st:Stmt}{f:Addr}{oc:Value}{od an:Option Addr}{osl:Array (Option Value)}{kV doc pm cdv ct:Value}(l:K.lookup f=some ⟨oc,od,.func (PySem.W.fnOf x qual (defArgs st) (defBody st) (Ag st) .none kV doc pm an cdv ct),osl⟩)(c:PySem.W.codeIn K cdv qual=true)(k:PySem.W.keepIn K (.ref f)=true):Fun K x qual st f (PySem.W.fnOf x qual (defArgs st) (defBody st) (Ag st) .none kV doc pm an cdv ct):=⟨⟨oc,od,kV,doc,pm,an,cdv,ct,osl,rfl,l,c⟩,k⟩
end
theorem hu_of{A:Around}{k:Nat}(hr:Room k A):A.units+1<cLine:=Nat.lt_of_le_of_lt (Nat.add_le_add_left (by decide:1<=64) _) hr.units
theorem Ak{n:Nat}(h:n<=1000):n<sizeLine:=Nat.lt_of_le_of_lt h (by decide)
section
variable{X:Cx}
theorem pv(i:Nat){x:Str}{pos:Pos}(hN:X.N[i]? =some x:=by rfl)(hv:Vis X.env.scope x:=by first|exact Or.inl rfl|exact Or.inr (Or.inl rfl)|exact Or.inr (Or.inr rfl))(hd:(x==("__debug__":Str))=false:=by decide)(hcd:(x==("__classdict__":Str))=false:=by decide):PE X (.Name x pos) (tVar i):=pe_var hN hv hd hcd
end
theorem Ct{A B:Prop}(h:B):if false=true then A else B:=by
 rw[if_neg Bool.false_ne_true];exact h
theorem iteT{A B:Prop}(h:A):if true=true then A else B:=by
 rw[if_pos rfl];exact h
theorem Be{c A B:Prop}[Decidable c](h1:c->A)(h2:¬c->B):if c then A else B:=by
 by_cases h:c
 ·rw[if_pos h];exact h1 h
 ·rw[if_neg h];exact h2 h
def Same(H H':Hp):Prop:=∀b o,H b=some o->H' b=some o
theorem Same.trans{H H1 H2:Hp}(a:Same H H1)(b:Same H1 H2):Same H H2:=λc o h=>b c o (a c o h)
end L2
namespace L2
open PySem PySem.Spec PyProof.Rows
def Ca(env:Env):List (Str×NameKind)->List (Str×Addr)->List (Str×Addr)
 |[],cs=>cs
 |(n,k)::r,cs=>Ca env r (if k= .free then (n,(env.cells.lookup n).getD 0)::cs else cs)
theorem closes_ok{env:Env}:∀(ns:List (Str×NameKind)) (cs:List (Str×Addr)),(∀p∈ns,p.2= .free->(env.cells.lookup p.1).isSome=true)->
  (forIn ns cs λ(x:Str×NameKind) r=>(do
   let mut cs:=r
   if x.2== .free then cs:=(x.1,<-cellOf env x.1)::cs
   pure (ForInStep.yield cs):Sem (ForInStep (List (Str×Addr)))))=pure (Ca env ns cs)
 |[],cs,_=>rfl
 |(n,k)::r,cs,h=>by
  have ih:=λcs=>closes_ok (env:=env) r cs λp hp=>h p (List.mem_cons_of_mem _ hp);rw[List.forIn_cons];by_cases hk:k= .free
  ·subst hk;have q:=h (n,.free) List.mem_cons_self rfl;obtain⟨c,hc⟩:=Option.isSome_iff_exists.mp q;have e:cellOf env n=pure c:=by unfold cellOf;rw[hc]
   simp only[e];simp[Ca,hc,ih];have:=ih ((n,c)::cs);simpa using this
  ·have hb:(k==NameKind.free)=false:=by simpa using hk
   simp[Ca,hk];have:=ih cs;simpa using this
theorem closureFor_closes{scope:Scope}{env:Env}(h:∀p∈scope.names,p.2= .free->(env.cells.lookup p.1).isSome=true):closureFor scope env=pure (Ca env scope.names []):=by
 have q:=closes_ok (env:=env) scope.names [] h;unfold closureFor;simp at q ⊢;exact q
theorem closes_sub{env:Env}:∀(ns:List (Str×NameKind)) (cs:List (Str×Addr)),(∀p∈ns,p.2= .free->(env.cells.lookup p.1).isSome=true)->(∀y c,cs.lookup y=some c->env.cells.lookup y=some c)->
  ∀y c,(Ca env ns cs).lookup y=some c->env.cells.lookup y=some c
 |[],cs,_,h,y,c,e=>h y c e
 |(n,k)::r,cs,h,hc,y,c,e=>by
  unfold Ca at e;refine closes_sub r _ (λp hp=>h p (List.mem_cons_of_mem _ hp)) ?_ y c e;intro y c e;by_cases hk:k= .free
  ·subst hk;rw[if_pos rfl] at e;obtain⟨d,hd⟩:=Option.isSome_iff_exists.mp (h (n,.free) List.mem_cons_self rfl);rw[List.lookup_cons] at e;cases q:y==n with
   |true=>
    rw[q] at e;have:y=n:=by simpa using q
    subst this;rw[hd] at e ⊢;exact e
   |false=>
    rw[q] at e;exact hc y c e
  ·rw[if_neg hk] at e;exact hc y c e
theorem closes_keep{env:Env}{y:Str}:∀(ns:List (Str×NameKind)) (cs:List (Str×Addr)),(cs.lookup y).isSome=true->((Ca env ns cs).lookup y).isSome=true
 |[],cs,h=>h
 |(n,k)::r,cs,h=>by
  unfold Ca;refine closes_keep r _ ?_;split
  ·rw[List.lookup_cons];split
   ·rfl
   ·exact h
  ·exact h
theorem closes_has{env:Env}{y:Str}:∀(ns:List (Str×NameKind)) (cs:List (Str×Addr)),(y,NameKind.free)∈ns->((Ca env ns cs).lookup y).isSome=true
 |(n,k)::r,cs,h=>by
  unfold Ca;rcases List.mem_cons.mp h with e|e
  ·cases e;refine closes_keep r _ ?_;rw[if_pos rfl,List.lookup_cons];simp
  ·exact closes_has r _ e
def De(X:Cx)(scope:Scope)(N:List Str)(C:Addr)(s:Shared)(H:Hp)(ex:List Addr)(pins:List (Addr×Obj)):Cx where
 prog:=X.prog
 w:=X.w
 K:=X.K
 mg:=X.mg
 base:=X.base
 A:=X.A
 N:=N
 s₀:=s
 H₀:=H
 env:=compEnvC scope (Ca X.env scope.names []) C X.env
 outer:=X.stack
 stack:=X.stack
 ex:=ex
 fn:=λ_=>false
 calm:=X.calm
 pn:=X.pn++pins
 xe:=λ_ _=>False
def cst(nT:Nat)(js:List Nat)(σ:St):St:=List.replicate nT none++js.map λj=>(σ[j]?).join
structure CScope(X:Cx)(scope:Scope)(T F:List Str)(js:List Nat):Prop where
 kind:scope.kind= .function
 nocell:∀y∈scope.names,y.2≠ .cell
 names:∀x∈scope.names,x.2= .local->scope.names.lookup x.1=some .local
 free:∀x∈scope.names,x.2= .free->X.env.kindOf x.1=some .cell
 loc:∀y∈T,(relabel scope X.env).names.lookup y=some .local
 cel:∀y∈F,(relabel scope X.env).names.lookup y=some .cell/\X.env.kindOf y=some .cell/\(y,NameKind.free)∈scope.names
 all:∀x∈(relabel scope X.env).names,(x.2= .cell\/x.2= .free)->(x.1,NameKind.free)∈scope.names
 js:js.map (λj=>X.N[j]?)=F.map some
section
variable{X:Cx}{scope:Scope}{T F:List Str}{js:List Nat}
theorem comp_inv{pins:List (Addr×Obj)}{σ:St}{H:Hp}{s:Shared}{h1:Heap}{tk:Nat}{fp:List Addr}{m:Str->Option Value}(S:CScope X scope T F js)(I:Inv X pins σ H s)(hn:h1.Ns s.heap.objs.size m)(kk:∀b o,s.heap.get? b=some o->h1.get? b=some o)(hf:∀b∈fp,FpOk X pins H b/\∃o,s.heap.get? b=some o/\∀v,o.data≠ .cell v):
  Inv (De X scope (T++F) s.heap.objs.size s H fp pins) [] (cst T.length js σ) H {s with heap:=h1,toks:=tk}:=by
 have sub:=closes_sub (env:=X.env) scope.names [] (λp hp hk=>by
  obtain⟨c,e⟩:=I.ok.has p.1 (.inl (S.free p hp hk));rw[e];rfl) (λy c e=>by simp at e)
 have ltC:∀y c,X.env.cells.lookup y=some c->c<s.heap.objs.size:=λy c e=>by
  obtain⟨v,z⟩:=I.cell y c e;exact z.lt
 refine⟨⟨I.ok.mod,?_,I.ok.glob,I.ok.blt,Nat.le_refl _,λx y c e1 e2=>I.ok.inj x y c (sub x c e1) (sub y c e2),λx hx=> ?_,λx c hx=>absurd hx Bool.false_ne_true,I.ok.hd,I.ok.frames,.inl rfl,λb hb=> ?_,I.bs,?_,λb o e hb=> ?_,λb hb hs=> ?_,I.stack,I.stkFree⟩,
  rfl,I.bare,Un.kept kk,⟨m,hn,λi x v e1 e2 e3=> ?_⟩,λx c e=> ?_,I.hok.fresh (Nat.le_refl _),λx c e=>I.freeC x c (sub x c e),λp hp=> ?_,I.hok.kept kk,?_⟩
 ·show (relabel scope X.env).kind= .function;exact S.kind
 ·have hx:(relabel scope X.env).names.lookup x=some .cell\/(relabel scope X.env).names.lookup x=some .free:=hx;have hm:(x,NameKind.free)∈scope.names:=by
   rcases hx with h|h
   ·exact S.all _ (PySem.mem_of_lookup h) (.inl rfl)
   ·exact S.all _ (PySem.mem_of_lookup h) (.inr rfl)
  exact Option.isSome_iff_exists.mp (closes_has scope.names [] hm)
 ·obtain⟨⟨f0,f1,f2,f3,f4,f5⟩,o,ho,_⟩:=hf b hb;exact⟨Nat.ne_of_lt (Heap.lt_size ho),λx c e=>f4 x c (sub x c e)⟩
 ·exact Nat.le_trans I.ok.bsz I.sz
 ·obtain⟨⟨f0,f1,f2,f3,f4,f5⟩,_⟩:=hf b hb;rcases f3 with z|z
  ·exact I.ok.noex b o e z
  ·exact absurd (Nat.lt_of_lt_of_le (Heap.lt_size e) (Nat.le_trans I.ok.bsz z)) (Nat.lt_irrefl _)
 ·obtain⟨⟨f0,f1,f2,f3,f4,f5⟩,_⟩:=hf b hb;rcases List.mem_cons.mp (I.stkSub b hs) with z|z
  ·exact f1 z
  ·exact f2 z
 ·-- a name's value
  have hi:T.length<=i:=by
   by_cases hi:i<T.length
   ·unfold cst at e2;rw[List.getElem?_append_left (by simpa using hi),List.getElem?_replicate] at e2;split at e2<;> cases e2
   ·exact Nat.not_lt.mp (by assumption)
  obtain⟨k,rfl⟩:∃k,i=T.length+k:=⟨i - T.length,by omega⟩
  have e1:(T++F)[T.length+k]? =some x:=e1;rw[List.getElem?_append_right (by assumption)] at e1;have e1:F[k]? =some x:=by simpa using e1
  unfold cst at e2;rw[List.getElem?_append_right (by simp)] at e2;have e2:(js.map λj=>(σ[j]?).join)[k]? =some (some v):=by simpa using e2
  rw[List.getElem?_map] at e2;cases ej:js[k]? with
  |none=>rw[ej] at e2;cases e2
  |some j=>
   rw[ej] at e2;have e2:(σ[j]?).join=some v:=by simpa using e2
   have e3':σ[j]? =some (some v):=by
    cases q:σ[j]? with
    |none=>rw[q] at e2;cases e2
    |some z=>rw[q] at e2;cases z with
     |none=>cases e2
     |some z=>simp at e2;rw[e2]
   have eN:X.N[j]? =some x:=by
    have q:=congrArg (λl=>l[k]?) S.js;simp only[List.getElem?_map,ej,e1] at q;simpa using q
   obtain⟨c1,c2,c3⟩:=S.cel x (List.mem_of_getElem? e1);obtain⟨m0,hn0,hl⟩:=I.loc;obtain⟨u,ru,lk⟩:=hl j x v eN e3' (.inr (.inl c2));refine⟨u,ru,?_⟩;rcases lk with⟨z,_⟩|⟨_,c,ec,hc⟩
   ·rw[c2] at z;cases z
   ·obtain⟨c',ec'⟩:=Option.isSome_iff_exists.mp (closes_has (env:=X.env) scope.names [] c3);have:=sub x c' ec';rw[ec] at this;cases this;refine .inr ⟨.inl c1,c,ec',?_⟩;obtain⟨o,ho,hd⟩:=hc;exact⟨o,kk _ _ ho,hd⟩
 ·obtain⟨v,o,ho,hd⟩:=I.cell x c (sub x c e);exact⟨v,o,kk _ _ ho,hd⟩
 ·have hp:p∈(X.pn++pins)++[]:=hp;rw[List.append_nil] at hp;obtain⟨e,n,ne,nf,d⟩:=I.pin p hp;refine⟨kk _ _ e,n,Nat.ne_of_lt (Heap.lt_size e),λz=> ?_,d⟩;rcases List.mem_cons.mp (I.stkSub p.1 z) with q|q
  ·exact ne q
  ·exact nf q
 ·unfold cst;show _=(T++F).length;have q:=congrArg List.length S.js;simp at q;simp[q]
def PIf(X:Cx)(ifs:List Expr)(t:TT):Prop:=
 ∀(pins:List (Addr×Obj)) (s:Shared) (σ:St) (H:Hp) (Q:Bool->Hp->Prop),Inv X pins σ H s->t σ H Q->
  wpAny (model X.prog X.w) X.A (forIn ifs true λc r=>if r=true then do let ok <-isTrue c X.env (eval c X.env);pure (ForInStep.yield ok) else pure (ForInStep.yield r)) (TP X pins σ Q) X.xe s
def tYes:TT:=λ_ H Q=>Q true H
theorem A8:PIf X [] tYes:=λpins s σ H Q I h=>wpAny_tests_nil ⟨H,I,h⟩
theorem Ci{c:Expr}{t:TT}(h:PT X c t):PIf X [c] t:=λpins s σ H Q I hw=>wpAny_tests_one (h pins s σ H Q I hw)
def cturn(g:TG)(ti:TT)(te:TE)(D:Addr)(x:V)(σ:St)(ys:List V)(H:Hp)(N:St->List V->Hp->Prop):Prop:=
 g x σ H λσ2 H2=>ti σ2 H2 λb H3=>if b=true then te σ2 H3 λy H4=>H4 D=some (.lst ys)/\ys.length<sizeLine/\N σ2 (ys++[y]) (upd H4 D (.lst (ys++[y]))) else N σ2 ys H3
def cgo(J:It)(g:TG)(ti:TT)(te:TE)(D:Addr)(σ:St)(H:Hp)(Q:VK):Prop:=
 ∃W:Nat->Nat->St->List V->Hp->Prop,(∃m,W 0 m σ [] (upd H D (.lst [])))/\∀i m σ ys H,W i m σ ys H->H D=some (.lst ys)/\
  ((J.stop i H/\Q (.ref D) H)\/(J.go i H/\∃N:St->List V->Hp->Prop,(∀σ' ys' H',N σ' ys' H'->∃m',m'<m/\W (i+1) m' σ' ys' H')/\∀x H',J.yld i H x H'->cturn g ti te D x σ ys H' N))
def tComp(wi:TI)(g:TG)(ti:TT)(te:TE)(nT:Nat)(js:List Nat):TE:=λσ H Q=>wi σ H λJ H1=>∀D,H1 D=none->cgo J g ti te D (cst nT js σ) H1 Q
theorem comp_out{pins:List (Addr×Obj)}{σ σ':St}{H H':Hp}{s s':Shared}{h':Heap}{N:List Str}{fp:List Addr}(I:Inv X pins σ H s)(hf:∀b∈fp,FpOk X pins H b)(J:Inv (De X scope N s.heap.objs.size s H fp pins) [] σ' H' s')(sb:Heap.SameBut s.heap.objs.size s'.heap h'):Inv X pins σ H' {s' with heap:=h'}:=by
 have ne:∀b o,s.heap.get? b=some o->b≠s.heap.objs.size:=λb o e=>Nat.ne_of_lt (Heap.lt_size e);have u:=J.base;have u':Un (frs X.stack) fp H H' s.heap h':=
  ⟨λb o e n h1 h2=>sb.extBut b o (ne b o e) (u.keep b o e n h1 h2),λb o e n h1 h2=>by
   obtain⟨sl,q⟩:=u.slot b o e n h1 h2;exact⟨sl,sb.extBut b _ (ne b o e) q⟩,u.free,λb o e h=>by
   obtain⟨o',q⟩:=u.there b o e h;exact⟨o',sb.extBut b _ (ne b o e) q⟩,u.tups,u.frzs,u.tbls⟩
 have nC:H' s.heap.objs.size=none:=J.free;have hok:HOk X.prog X.w H' h':=λb o e=>by
  refine(J.hok b o e).stay (λc v hc q=>sb.extBut c v ?_ q) (λ_ q=>q) λ_ _ q=>q;rcases hc with z|z
  ·rw[z];intro z';rw[z',nC] at e;cases e
  ·intro z';rw[z',nC] at z;cases z
 exact I.call' (s':={s' with heap:=h'}) J.os u' hok J.bare λb hb=>by
  obtain⟨f0,f1,f2,f3,f4,f5⟩:=hf b hb;exact⟨f3,f1,f4,f5⟩
theorem comp_go{tg elt iter:Expr}{ifs:List Expr}{pos:Pos}{g:TG}{ti:TT}{te:TE}{wi:TI}{pins:List (Addr×Obj)}{σ:St}{H:Hp}{s:Shared}{use:Option (Value->Sem Unit)}{QQ:Value->Shared->Prop}{Q:VK}(S:CScope X scope T F js)(hc:X.calm=true)(hi:PI X tg iter wi)(hg:∀C s H ex pins,PG (De X scope (T++F) C s H ex pins) tg g)(hif:∀C s H ex pins,PIf (De X scope (T++F) C s H ex pins) ifs ti)(he:∀C s H ex pins,PE (De X scope (T++F) C s H ex pins) elt te)(I:Inv X pins σ H s)(h:tComp wi g ti te T.length js σ H Q)(fin:∀(D C:Addr) (s':Shared) (H':Hp) (m:Str->Option Value),s'.heap.Ns C m->Q (.ref D) H'->FpOk X pins H' C->(∀h',Heap.SameBut C s'.heap h'->Inv X pins σ H' {s' with heap:=h'})->
   compPost (model X.prog X.w) X.A X.xe use QQ (.ref D) C (.ok .next) s')(hs:∀x,foldedSetIterable iter X.env x=pure x):
  wpAny (model X.prog X.w) X.A (comprehension (.ListComp elt [⟨tg,iter,ifs,0⟩] scope pos) scope X.env (firstIterPos [⟨tg,iter,ifs,0⟩] pos) (newList []) false (eval iter X.env) use) QQ X.xe s:=by
 refine wpAny_comprehension_free (use:=use) rfl hs (closureFor_closes λp hp hk=> ?_) S.kind S.names (thn (hi pins s σ H _ I h) λv s1 h1=>thn h1 λitv s2 h2=> ?_)
 ·obtain⟨c,e⟩:=I.ok.has p.1 (.inl (S.free p hp hk));rw[e];rfl
 obtain⟨it,fp,tn,J,H2,rfl,I2,Tn,st2,f2,h2⟩:=h2;obtain⟨W,⟨m0,w0⟩,turn⟩:=h2 s2.heap.objs.size I2.fresh;refine wpAny_newObj_type (wpAny_newFunctionEnv S.nocell (by intro y hy;simp at hy) (λh₁ hns₁ hsb₁=> ?_) S.kind);have I3:=I2.lnew (t':=s2.toks) (ys:=[]) (its:=[]) Paired.nil (Nat.zero_le _);generalize hs3:({s2 with heap:=s2.heap.push {cls:= .type "list",data:= .seq ([]:List Value).toArray},toks:=s2.toks}:Shared)=s3 at I3;have hf3:∀b∈fp,FpOk X pins (upd H2 s2.heap.objs.size (.lst [])) b/\∃o,s3.heap.get? b=some o/\∀v,o.data≠ .cell v:=λb hb=>by
  obtain⟨f0,fr⟩:=f2 b hb;obtain⟨o,e,d⟩:=Tn.obj _ _ st2 b hb;refine⟨⟨by rw[Aj (Nat.ne_of_lt (Heap.lt_size e))];exact f0,fr⟩,o,?_,d⟩;rw[<-hs3];exact Heap.get?_push_of_some _ e
 have e3:s3.heap=s2.heap.push {cls:= .type "list",data:= .seq ([]:List Value).toArray}:=by rw[<-hs3]
 have kk:∀b o,s3.heap.get? b=some o->h₁.get? b=some o:=λb o e=>by
  rw[e3] at e;exact hsb₁.extBut b o (Nat.ne_of_lt (Heap.lt_size e)) (Heap.get?_push_of_some _ e)
 have hns:h₁.Ns s3.heap.objs.size (λx=>([]:List (Str×Value)).reverse.lookup x):=by rw[e3];exact hns₁
 have I4:=comp_inv (tk:=s3.toks+([]:List (Str×Value)).length) S I3 hns kk hf3;have stat:∀{H':Hp} {pl:List (Addr×Obj)},(∀p∈pl,∀b∈fp,p.1≠b)->(∀b∈fp,H' b=none)->∀b∈fp,FpOk (De X scope (T++F) s3.heap.objs.size s3 (upd H2 s2.heap.objs.size (.lst [])) fp pins) pl H' b:=λ{H' pl} hp hn b hb=>by
  obtain⟨⟨f0,f1,f2,f3,f4,f5⟩,o,e,d⟩:=hf3 b hb;obtain⟨x1,x2⟩:=I4.ok.exf b hb;refine⟨hn b hb,x1,I4.ok.exfs b hb,.inl hb,x2,λp hq=> ?_⟩;rcases List.mem_append.mp hq with z|z
  ·exact f5 p z
  ·exact hp p z b hb
 have loop:codeAny (model X.prog X.w) X.A (.compLoop (.ListComp elt [⟨tg,iter,ifs,0⟩] scope pos) 0 (.ref it) (.ref s2.heap.objs.size) (compEnvC scope (Ca X.env scope.names []) s3.heap.objs.size X.env))
   (compPost (model X.prog X.w) X.A X.xe use QQ (.ref s2.heap.objs.size) s3.heap.objs.size) {s3 with heap:=h₁,toks:=s3.toks+([]:List (Str×Value)).length}:=by
  refine codeAny_loop rfl (λn s'=>∃i σ' ys H',Inv (De X scope (T++F) s3.heap.objs.size s3 (upd H2 s2.heap.objs.size (.lst [])) fp pins) [] σ' H' s'/\tn i s'.heap/\(∀b∈fp,H' b=none)/\W i n σ' ys H') ?_ m0 ⟨0,_,[],_,I4,?_,λb hb=>(hf3 b hb).1.1,w0⟩
  ·rintro n s5 ⟨i,σ5,ys,H5,I5,st5,fr5,w5⟩;show wpAny _ X.A ((compTurn (.ListComp elt [⟨tg,iter,ifs,0⟩] scope pos) 0 (.ref it) (.ref s2.heap.objs.size) (compEnvC scope (Ca X.env scope.names []) s3.heap.objs.size X.env)).onRaise (λx=>do noteFrame x _;theTreesLotGoes x)) _ _ s5;refine wpAny_noted ?_;rw[compTurn_list];refine wpAny_bind (wpAny_standAt (wpAny_bind ?_));obtain⟨hD,tu⟩:=turn i n σ5 ys H5 w5;rcases tu with⟨stop,qq⟩|⟨go,NN,hNN,step⟩
   ·refine thn (Tn.done (De X scope (T++F) s3.heap.objs.size s3 (upd H2 s2.heap.objs.size (.lst [])) fp pins) rfl rfl rfl hc i [] s5 σ5 H5 _ I5 (stat (pl:=[]) (λ_ hp=>absurd hp List.not_mem_nil) fr5) st5 stop) λr s6 ⟨hr,I6⟩=> ?_;subst hr;refine wpAny_pure ?_;obtain⟨m6,hn6,_⟩:=I6.loc;have lC:s.heap.objs.size<=s.heap.objs.size:=Nat.le_refl _;exact fin _ _ s6 H5 m6 hn6 qq (I3.fpOk (Nat.le_refl _) I6.free) λh' sb=>comp_out I3 (λb hb=>(hf3 b hb).1) I6 sb
   ·refine thn (Tn.item (De X scope (T++F) s3.heap.objs.size s3 (upd H2 s2.heap.objs.size (.lst [])) fp pins) rfl rfl rfl hc i [] s5 σ5 H5 _ I5 (stat (pl:=[]) (λ_ hp=>absurd hp List.not_mem_nil) fr5) st5 go) λr s6 ⟨u,hr,h6⟩=> ?_;subst hr;refine wpAny_bind (thn h6 λ_ s7 ⟨x,H7,I7,r7,y7,st7,fr7⟩=> ?_);have I7':=I7.pinned (stat (pl:=[]) (λ_ hp=>absurd hp List.not_mem_nil) fr7) (Tn.obj _ _ st7);have back:∀{σ8:St} {H8:Hp} {s8:Shared} {ys8:List V} {m':Nat},Inv (De X scope (T++F) s3.heap.objs.size s3 (upd H2 s2.heap.objs.size (.lst [])) fp pins) ([]++pinsAt fp s7.heap) σ8 H8 s8->m'<n->W (i+1) m' σ8 ys8 H8->
      ∃m,m<n/\∃i σ' ys H',Inv (De X scope (T++F) s3.heap.objs.size s3 (upd H2 s2.heap.objs.size (.lst [])) fp pins) [] σ' H' s8/\tn i s8.heap/\(∀b∈fp,H' b=none)/\W i m σ' ys H':=λ{σ8 H8 s8 ys8 m'} I8 hm w8=>by
     refine⟨m',hm,i+1,σ8,ys8,H8,I8.unpinned,Tn.keep _ _ _ st7 λb hb o e=>(I8.pin (b,o) (List.mem_append_right _ (List.mem_append_right _ (mem_pinsAt hb e)))).1,λb hb=> ?_,w8⟩;obtain⟨o,e,d⟩:=Tn.obj _ _ st7 b hb;exact(I8.pin (b,o) (List.mem_append_right _ (List.mem_append_right _ (mem_pinsAt hb e)))).2.1
    refine wpAny_bind (wpAny_mono (hg _ _ _ _ _ _ s7 σ5 H7 x u _ I7' r7 (step x H7 y7)) (λ_ s8 ⟨σ8,H8,I8,q8⟩=> ?_) λ_ _ z=>z.elim);refine wpAny_bind (wpAny_mono (hif _ _ _ _ _ _ s8 σ8 H8 _ I8 q8) (λok s9 ⟨H9,I9,q9⟩=> ?_) λ_ _ z=>z.elim);cases ok with
    |false=>
     rw[if_neg Bool.false_ne_true] at q9;obtain⟨m',hm,w9⟩:=hNN _ _ _ q9;exact wpAny_pure ⟨rfl,back I9 hm w9⟩
    |true=>
     rw[if_pos rfl] at q9;refine wpAny_bind (wpAny_bind (wpAny_mono (he _ _ _ _ _ _ s9 σ8 H9 _ I9 q9) (λyv s10 ⟨y,H10,I10,r10,d10,l10,q10⟩=> ?_) λ_ _ z=>z.elim));obtain⟨m',hm,w10⟩:=hNN _ _ _ q10;obtain⟨z10,its,n10,rv,el,eo⟩:=I10.lstM d10;refine wpAny_bind (wpAny_list_append_plain (items:=its.toArray) ⟨n10,eo⟩ (λh' hl' sb'=> ?_) (by simp;omega));obtain⟨n11,eo'⟩:=hl';have I11:=I10.write (x:=s2.heap.objs.size) (e:=s2.heap.objs.size) (o:= .lst (ys++[y])) (t':=s10.toks) (by rw[d10];exact trivial) (.inl rfl) (λb o hb e=>sb'.extBut b o hb e) ⟨_,eo'⟩ ⟨by simp;assumption,its++[yv],n11,rv.append (.cons r10 .nil),by simpa using eo'⟩;exact wpAny_pure (wpAny_pure ⟨rfl,back I11 hm w10⟩)
  ·refine Tn.keep _ _ _ st2 λb hb o e=>kk b o ?_;rw[e3];exact Heap.get?_push_of_some _ e
 have st1:tn 0 h₁:=Tn.keep _ _ _ st2 λb hb o e=>kk b o (by rw[e3];exact Heap.get?_push_of_some _ e);exact codeAny_compStart_list loop (Tn.self _ 0 _ _ _ st1 loop)
theorem A5{tg elt iter:Expr}{ifs:List Expr}{pos:Pos}{g:TG}{ti:TT}{te:TE}{wi:TI}(S:CScope X scope T F js)(hc:X.calm=true)(hi:PI X tg iter wi)(hg:∀C s H ex pins,PG (De X scope (T++F) C s H ex pins) tg g)(hif:∀C s H ex pins,PIf (De X scope (T++F) C s H ex pins) ifs ti)(he:∀C s H ex pins,PE (De X scope (T++F) C s H ex pins) elt te)(hs:∀x,foldedSetIterable iter X.env x=pure x:=by intro _;rfl):PE X (.ListComp elt [⟨tg,iter,ifs,0⟩] scope pos) (tComp wi g ti te T.length js):=by
 intro pins s σ H Q I h;rw[eval_ListComp];exact comp_go (use:=none) S hc hi hg hif he I h (λD C s' H' m hn q _ hinv=>⟨m,hn,λh' sb=>⟨.ref D,H',hinv h' sb,rfl,q⟩⟩) hs
theorem Dr{i:Nat}{x:Str}{pos' spos:Pos}{tg elt iter:Expr}{ifs:List Expr}{pos:Pos}{g:TG}{ti:TT}{te:TE}{wi:TI}(hN:X.N.Nodup)(hx1:X.N[i]? =some x)(hx2:Loc X.env.scope x)(S:CScope X scope T F js)(hc:X.calm=true)(hi:PI X tg iter wi)(hg:∀C s H ex pins,PG (De X scope (T++F) C s H ex pins) tg g)(hif:∀C s H ex pins,PIf (De X scope (T++F) C s H ex pins) ifs ti)(he:∀C s H ex pins,PE (De X scope (T++F) C s H ex pins) elt te)(hsw:swapsWith (.ListComp elt [⟨tg,iter,ifs,0⟩] scope pos) (some (.Name x pos')) spos.line X.env=pure true:=by rfl)(hf:X.fn x=true\/X.env.scope.names.lookup x=some .local:=by first|exact .inl rfl|exact .inr rfl|assumption)(hs:∀x,foldedSetIterable iter X.env x=pure x:=by intro _;rfl):PS X (.Assign [.Name x pos'] (.ListComp elt [⟨tg,iter,ifs,0⟩] scope pos) spos) (tAsg (tComp wi g ti te T.length js) (gName i)):=by
 intro pins s σ H D I h;rw[exec_Assign_Name_used _ _ _ _ hsw];refine wpAny_bind (wpAny_standAt (wpAny_bind ?_));show wpAny _ X.A (do let _ <-comprehension (.ListComp elt [⟨tg,iter,ifs,0⟩] scope pos) scope X.env _ (newList []) false (eval iter X.env) (some (assign (.Name x pos') X.env))) _ _ s;refine wpAny_bind (wpAny_mono (comp_go (use:=some (assign (.Name x pos') X.env)) (QQ:=λ_ s'=>SP X pins D .next s') S hc hi hg hif he I h (λd C s' H' m hn q fC hinv=> ?_) hs) (λ_ s' hq=>wpAny_pure (wpAny_pure hq)) λ_ _ e=>e);have I1:Inv X pins σ H' s':=hinv s'.heap (Heap.SameBut.refl ..);obtain⟨oC,es,ep,ho,hd,hr⟩:=id hn;obtain⟨f0,f1,f2,f3,f4,f5⟩:=fC;have I2:Inv X (pins++[(C,oC)]) σ H' s':=I1.pins_of λp hp=>(List.mem_append.mp hp).elim (λz=>I1.pin p (List.mem_append_right _ z)) λz=>by
  have e:=List.mem_singleton.mp z;subst e;exact⟨ho,f0,f1,f2,λv z=>by rw[hd] at z;cases z⟩
 show wpAny _ X.A (assign (.Name x pos') X.env (.ref d)) _ _ _;refine wpAny_assign_Name (store_ok (v:= .ref d) I2 hN hx1 hx2 rfl (λs'' I''=> ?_) hf);have e2:=(I''.pin (C,oC) (List.mem_append_right _ (List.mem_append_right _ (List.mem_singleton.mpr rfl)))).1;refine⟨m,⟨oC,es,ep,e2,hd,hr⟩,λh' sb=> ?_⟩;exact⟨_,H',I''.unpinned.turned (t':=s''.toks) (it:=C) (λb o hb e=>sb.extBut b o hb e) f0 f1 f3 f4 f5,q⟩
end
section
variable{g:TG}{ti:TT}{te:TE}{Q:VK}{D:Addr}{σ:St}{H:Hp}
theorem Cj{K:PySem.W.Frag}{a:Addr}{xs:List V}(Pv:Nat->St->List V->Hp->Prop)(h0:Pv 0 σ [] (upd H D (.lst [])))(hl:∀i σ ys H,i<=xs.length->Pv i σ ys H->SqL K H a xs/\H D=some (.lst ys))(hs:∀i x σ ys H,xs[i]? =some x->Pv i σ ys H->cturn g ti te D x σ ys H (Pv (i+1)))(hd:∀σ ys H,Pv xs.length σ ys H->Q (.ref D) H):
  cgo (Itl K a) g ti te D σ H Q:=by
 refine⟨λi m σ ys H=>m=xs.length - i/\i<=xs.length/\Pv i σ ys H,⟨xs.length,by simp,Nat.zero_le _,h0⟩,?_⟩;rintro i m σ ys H ⟨rfl,hi,p⟩;obtain⟨q,hD⟩:=hl i σ ys H hi p;refine⟨hD,?_⟩;by_cases hlt:i<xs.length
 ·refine .inr ⟨⟨xs,xs[i],q,by simp[hlt]⟩,Pv (i+1),λσ' ys' H' p'=>⟨xs.length - (i+1),by omega,rfl,hlt,p'⟩,λx H' y=> ?_⟩;obtain⟨e,y⟩:=y;subst e;exact(hs i x σ ys _ (y xs q) p)
 ·have e:i=xs.length:=by omega
  subst e;exact .inl ⟨⟨xs,q,Nat.le_refl _⟩,hd σ ys H p⟩
theorem Cd{K:PySem.W.Frag}{a:Addr}{xs:List V}(Pv:Nat->St->List V->Hp->Prop)(h0:Pv 0 σ [] (upd H D (.lst [])))(hl:∀i σ ys H,i<=xs.length->Pv i σ ys H->SqT K H a xs/\H D=some (.lst ys))(hs:∀i x σ ys H,xs[i]? =some x->Pv i σ ys H->cturn g ti te D x σ ys H (Pv (i+1)))(hd:∀σ ys H,Pv xs.length σ ys H->Q (.ref D) H):
  cgo (Itt K a) g ti te D σ H Q:=by
 refine⟨λi m σ ys H=>m=xs.length - i/\i<=xs.length/\Pv i σ ys H,⟨xs.length,by simp,Nat.zero_le _,h0⟩,?_⟩;rintro i m σ ys H ⟨rfl,hi,p⟩;obtain⟨q,hD⟩:=hl i σ ys H hi p;refine⟨hD,?_⟩;by_cases hlt:i<xs.length
 ·refine .inr ⟨⟨xs,xs[i],q,by simp[hlt]⟩,Pv (i+1),λσ' ys' H' p'=>⟨xs.length - (i+1),by omega,rfl,hlt,p'⟩,λx H' y=> ?_⟩;obtain⟨e,y⟩:=y;subst e;exact(hs i x σ ys _ (y xs q) p)
 ·have e:i=xs.length:=by omega
  subst e;exact .inl ⟨⟨xs,q,Nat.le_refl _⟩,hd σ ys H p⟩
theorem Bn{lo:Int}{n:Nat}(Pv:Nat->St->List V->Hp->Prop)(h0:Pv 0 σ [] (upd H D (.lst [])))(hl:∀i σ ys H,i<=n->Pv i σ ys H->H D=some (.lst ys))(hs:∀i σ ys H,i<n->Pv i σ ys H->cturn g ti te D (.int (lo+i)) σ ys H (Pv (i+1)))(hd:∀σ ys H,Pv n σ ys H->Q (.ref D) H):
  cgo (Itr lo n) g ti te D σ H Q:=by
 refine⟨λi m σ ys H=>m=n - i/\i<=n/\Pv i σ ys H,⟨n,by simp,Nat.zero_le _,h0⟩,?_⟩;rintro i m σ ys H ⟨rfl,hi,p⟩;have hD:=hl i σ ys H hi p;refine⟨hD,?_⟩;by_cases hlt:i<n
 ·refine .inr ⟨hlt,Pv (i+1),λσ' ys' H' p'=>⟨n - (i+1),by omega,rfl,hlt,p'⟩,λx H' y=> ?_⟩;obtain⟨e,y⟩:=y;subst e y;exact(hs i σ ys _ hlt p)
 ·have e:i=n:=by omega
  subst e;exact .inl ⟨Nat.le_refl _,hd σ ys H p⟩
end
end L2
namespace L2
open PySem PySem.Spec PyProof.Rows
mutual
inductive Rep(K:PySem.W.Frag)(H:Hp):V->PyData->Prop
 |non:Rep K H .non .none
 |bl (b:Bool):Rep K H (.bl b) (.bool b)
 |int (i:Int):Rep K H (.int i) (.int i)
 |str (x:Str):Rep K H (.str x) (.str x)
 |lst {a:Addr} {xs:List V} {ds:List PyData}:SqL K H a xs->RepAll K H xs ds->Rep K H (.ref a) (.list ds)
 |tup {a:Addr} {xs:List V} {ds:List PyData}:SqT K H a xs->RepAll K H xs ds->Rep K H (.ref a) (.tuple ds)
inductive RepAll(K:PySem.W.Frag)(H:Hp):List V->List PyData->Prop
 |nil:RepAll K H [] []
 |cons {x:V} {xs:List V} {d:PyData} {ds:List PyData}:Rep K H x d->RepAll K H xs ds->RepAll K H (x::xs) (d::ds)
end
mutual
theorem Rep.reads{X:Cx}{pins:List (Addr×Obj)}{σ:St}{H:Hp}{s:Shared}(I:Inv X pins σ H s):∀{v:V} {d:PyData} {u:Value},Rep X.K H v d->RelV v u->∃as,Reads s.heap u d as
 |_,_,_,.non,r=>by cases r;exact⟨_,.none⟩
 |_,_,_,.bl b,r=>by cases r;exact⟨_,.bool b⟩
 |_,_,_,.int i,r=>by obtain⟨t,rfl⟩:=r;exact⟨_,.int i t⟩
 |_,_,_,.str x,r=>by obtain⟨t,rfl⟩:=r;exact⟨_,.str x t⟩
 |_,_,_,.lst hq hx,r=>by
  cases r;obtain⟨its,rv,hl,hz⟩:=I.list hq;obtain⟨as,ra⟩:=RepAll.reads I hx rv;obtain⟨o,ho,hc,n,hd⟩:=hl.isList;exact⟨_,.list ho hc hd ra⟩
 |_,_,_,.tup hq hx,r=>by
  cases r;obtain⟨its,rv,hl,hz⟩:=I.tuple hq;obtain⟨as,ra⟩:=RepAll.reads I hx rv;obtain⟨o,ho,hc,n,hd⟩:=hl;exact⟨_,.tuple ho hc hd ra⟩
theorem RepAll.reads{X:Cx}{pins:List (Addr×Obj)}{σ:St}{H:Hp}{s:Shared}(I:Inv X pins σ H s):∀{xs:List V} {ds:List PyData} {us:List Value},RepAll X.K H xs ds->Vals xs us->∃as,ReadsAll s.heap us ds as
 |_,_,_,.nil,.nil=>⟨_,.nil⟩
 |_,_,_,.cons h t,.cons r rs=>by
  obtain⟨a,ra⟩:=Rep.reads I h r;obtain⟨b,rb⟩:=RepAll.reads I t rs;exact⟨_,.cons ra rb⟩
end
section
variable{X:Cx}{a b c e:Expr}{ta tb tc te:TE}{pos p2:Pos}
inductive RNeDP(K:PySem.W.Frag)(x:V)(y:V)(H:Hp)(Q:VK):Prop
 |mk (da db:_):(Rep K H x da)->(Rep K H y db)->(da.canLay0=true)->(db.canLay0=true)->(da.depth<=20)->(Q (.bl (!PyData.eqv da db)) H)->RNeDP K x y H Q
def rNeD(K:PySem.W.Frag):R2:=λx y H Q=>RNeDP K x y H Q
theorem op_neD(hu:X.A.units+64<cLine):OpR X (compareOp .NotEq) (rNeD X.K):=by
 intro pins s σ H x y u v Q I rx ry h;obtain⟨da,db,h1,h2,h3,h4,h5,q⟩:=h;obtain⟨as,r1⟩:=h1.reads I rx;obtain⟨bs,r2⟩:=h2.reads I ry;exact SeqAt.compareNe_reads r1 r2 h3 h4 (by omega) ⟨.bl _,H,I,rfl,q⟩
theorem call_sum(hc:X.calm=true):Dw X (.builtin "sum") (λxs H Q=>∃(p:Addr) (ns:List Int),xs=[.ref p]/\SqL X.K H p (ns.map V.int)/\Q (.int ns.sum) H):=by
 intro pins s σ H xs us Q I r h;obtain⟨p,ns,rfl,hq,q⟩:=h;obtain⟨u,rfl,rx⟩:=Dz r;cases rx;obtain⟨its,rv,hl,hz⟩:=I.list hq;have hi:=intsAre_of rv;obtain⟨ys,e⟩:=hi.allInts.items;have hl':=hl.isList;rw[e] at hl';refine sum_intListG (I.ok.hd hc) hl' λh' tk t' hk=>⟨.int ns.sum,H,I.kept hk,⟨t',?_⟩,q⟩
 have e2:ys.toList.map (·.1)=ns:=by
  have q2:=nums_intItems ys;rw[<-e] at q2;rw[<-q2];exact hi.numsOf
 rw[preSum_eq,e2,List.take_of_length_le (by rw[<-e2];simp)]
theorem Cp:Dw X (.builtin "isinstance") (λxs H Q=>∃(x:V) (t:Value) (c:String) (b:Bool),xs=[x,.ty c]/\TyOf X.K H x t/\PySem.W.kitOne X.K t (.type c)=some b/\Q (.bl b) H):=by
 intro pins s σ H xs us Q I r h;obtain⟨x,t,c,b,rfl,ty,e,q⟩:=h;obtain⟨u,v,rfl,rx,ry⟩:=vals2 r;cases ry;exact isinst_ok I rx ty e λtk=>⟨.bl b,H,I.tok tk,rfl,q⟩
theorem pe_ty{x:Str}{T:String}(hg:Gl X x)(hm:X.mg x=none)(hv:bootBuiltins x=some (.type T))(hn:x≠"__name__":=by decide)(hd:(x==("__debug__":Str))=false:=by decide):PE X (.Name x pos) (tC (.ty T)):=
 λpins s σ H Q I h=>ld_blt I hg hm hv ⟨.ty T,H,I,rfl,h⟩ hn hd
def rints(i:Int)(n:Nat):List Int:=(List.range n).map λ(k:Nat)=>i+(k:Int)
theorem call_list_rng(hc:X.calm=true):Dw X (.type "list") (λxs H Q=>∃(p:Addr) (i j:Int),xs=[.ref p]/\H p=some (.rng i j)/\(-(2 ^ 62)<=i/\i<2 ^ 62/\ -(2 ^ 62)<=j/\j<2 ^ 62)/\j - i<=1000000/\∀l,H l=none->Q (.ref l) (upd H l (.lst ((rints i (j - i).toNat).map V.int)))):=by
 intro pins s σ H xs us Q I r h;obtain⟨p,i,j,rfl,hp,⟨b1,b2,b3,b4⟩,hj,q⟩:=h;obtain⟨u,rfl,rx⟩:=Dz r;cases rx;obtain⟨t,u,v,ho⟩:=(show ObjOk X.prog X.w H s.heap p (.rng i j) from I.hok p _ hp)
 refine call_list_range (n:=(j - i).toNat) (I.ok.hd hc) (show IsRange s.heap p i j 1 t u v from ho) (small_one b1 b2 b3 b4) (by rw[rangeSize_one];split<;> omega) (by omega) λh' tk acc c' hk hS hacc=> ?_;have len:acc.toList.length=(j - i).toNat:=by simpa using hacc.1
 refine⟨.ref s.heap.objs.size,_,I.laid (o:= .lst ((rints i (j - i).toNat).map V.int)) hk (Nat.le_refl _) ⟨?_,acc.toList,c',?_,by simpa using hS⟩,rfl,q _ I.fresh⟩
 ·simp[rints,sizeLine_eq];exact Int.le_trans (by assumption) (by decide)
 ·have key:∀(l:List Value) (k:Nat) (i:Int),(∀(n:Nat) (x:Value),l[n]? =some x->∃t,x= .int (i+n) t)->l.length=k->Vals ((rints i k).map V.int) l:=by
   intro l
   induction l with
   |nil=>intro k i _ e;cases e;exact .nil
   |cons x l ih=>
    intro k i h e;cases k with
    |zero=>cases e
    |succ k=>
     have h0:=h 0 x rfl;have e1:rints i (k+1)=i::rints (i+1) k:=by
      simp only[rints,List.range_succ_eq_map,List.map_cons,List.map_map];refine congr (congrArg List.cons (by simp)) (List.map_congr_left λa _=> ?_);simp only[Function.comp];omega
     rw[e1];refine .cons (by obtain⟨t,q⟩:=h0;exact⟨t,by simpa using q⟩) (ih k (i+1) (λn y hy=> ?_) (by simpa using e));obtain⟨t,q⟩:=h (n+1) y (by simpa using hy);exact⟨t,by rw[q];congr 1;omega⟩
  refine key acc.toList _ i (λn x hx=> ?_) len;obtain⟨t,q⟩:=hacc.2 n x (by simpa using hx);exact⟨t,by rw[q,Int.mul_one]⟩
def tRev(K:PySem.W.Frag)(te:TE)(ts:TO):TE:=λσ H Q=>te σ H λx H1=>ts σ H1 λo H2=>o=some (-1)/\∃(a:Addr) (xs:List V),x= .ref a/\SqL K H2 a xs/\∀p,H2 p=none->Q (.ref p) (upd H2 p (.lst xs.reverse))
theorem pe_rev{st:Expr}{ts:TO}(he:PE X e te)(hs:PO X (some st) ts)(ops:Value->Value->List Value)(hsub:∀o i,subscripted (.Slice none none (some st) p2) false o i=operate (ops o i) (getItem o i)):PE X (.Subscript e (.Slice none none (some st) p2) pos) (tRev X.K te ts):=by
 intro pins s σ H Q I h;refine Subscript_ (thn (he pins s σ H _ I h) λv s1 ⟨x,H1,I1,r1,q1⟩=> ?_);refine wpAny_Slice ?_;rw[evalPart_none];refine wpAny_pure (wpAny_pure (thn (hs pins s1 σ H1 _ I1 q1) λvs s2 ⟨o,H2,I2,ps,q2⟩=> ?_));obtain⟨rfl,a,xs,rfl,hq,q⟩:=q2;cases r1;have I4:Inv X pins σ H2 {s2 with heap:=s2.heap.push {cls:= .type "slice",data:= .fields #[.none,.none,vs]}}:=I2.kept (t':=s2.toks) λb ob q=>Heap.get?_push_of_some _ q;obtain⟨its,r,ht,hz⟩:=I4.list hq;have hlen:=r.length;show wpAny (model X.prog X.w) X.A (subscriptTail e (.Slice none none (some st) p2) (.ref a) (.ref s2.heap.objs.size)) (EP X pins σ Q) X.xe {s2 with heap:=s2.heap.push {cls:= .type "slice",data:= .fields #[.none,.none,vs]}};refine tail_any (ops:=ops (.ref a) (.ref s2.heap.objs.size)) ht.isList.typeIs slot_list_getitem.lookup ?_ (hsub _ _);refine wpAny_getItem_list_slice ht.isList (Heap.IsSliceOf.new ..) .none .none ps (by decide) ?_ (by rw[List.size_toArray]<;> omega);rw[PySem.W.krv_pick];refine⟨.ref _,_,I4.laid (t':=s2.toks) (o:= .lst xs.reverse) (λb ob q=>Heap.get?_push_of_some _ q) (Nat.le_refl _) ⟨by simpa using hz,its.reverse,0,r.reverse,Heap.get?_push_size _ rfl⟩,rfl,q _ I4.fresh⟩
inductive RCatTTP(K:PySem.W.Frag)(x:V)(y:V)(H:Hp)(Q:VK):Prop
 |mk (a b:Addr) (xs ys:List V):(x= .ref a)->(y= .ref b)->(SqT K H a xs)->(SqT K H b ys)->(xs.length+ys.length<=sizeLine)->((xs=[]->Q (.ref b) H))->((xs≠[]->ys=[]->Q (.ref a) H))->((xs≠[]->ys≠[]->∀p,H p=none->Q (.ref p) (upd H p (.tup (xs++ys)))))->RCatTTP K x y H Q
def rCatTT(K:PySem.W.Frag):R2:=λx y H Q=>RCatTTP K x y H Q
theorem op_catTT:OpR X (binaryOp .Add) (rCatTT X.K):=by
 intro pins s σ H x y u v Q I rx ry h;obtain⟨p,q,xs,ys,rfl,rfl,hx,hy,hz,h1,h2,h3⟩:=h;cases rx;cases ry;obtain⟨its,r1,t1,z1⟩:=I.tuple hx;obtain⟨its2,r2,t2,z2⟩:=I.tuple hy;have l1:=r1.length;have l2:=r2.length;by_cases e:xs=[]
 ·subst e;have ei:its=[]:=by cases its with|nil=>rfl|cons _ _=>cases l1
  subst ei;obtain⟨⟨cls,dd,data,sl⟩,ho,hc,n,hd⟩:=id t1;obtain⟨⟨cls2,dd2,data2,sl2⟩,ho2,hc2,n2,hd2⟩:=id t2;simp only at hc hd hc2 hd2;subst hc hd hc2 hd2;exact PySem.concat_meets ⟨_,ho,rfl⟩ ⟨_,ho2,rfl⟩ noFill_tuple_add seq_tuple_add PySem.F.slot_tuple_add PySem.F.entry_tuple_add (PySem.F.args_tuple_add_2 _ _)
   (tuple_addW0 p q _ _ n n2 dd dd2 sl sl2 (by rfl)) ⟨ho,ho2,⟨.ref q,H,I,rfl,h1 rfl⟩⟩
 ·refine HT.cat_tup t1 t2 (λz=>e ((Vals.nil_iff r1).mp z)) (λz=>⟨.ref p,H,I,rfl,h2 e ((Vals.nil_iff r2).mp z)⟩) (λz=> ?_) (by omega);exact⟨.ref s.heap.objs.size,_,I.laid (t':=s.toks) (o:= .tup (xs++ys)) (λb ob q=>Heap.get?_push_of_some _ q) (Nat.le_refl _) ⟨by simpa using hz,its++its2,r1.append r2,IsTupN.new _ _⟩,rfl,h3 e (λz'=>z ((Vals.nil_iff r2).mpr z')) _ I.fresh⟩
end
section
variable{prog:Program}{w:World}{A:Around}{E:Value->Shared->Prop}
theorem draw_list{it l:Addr}{items:Array Value}(hne:l≠it):∀(n i:Nat) (s:Shared) (Q:List Value->Shared->Prop),s.heap.IsListIter it l i->s.heap.IsList l items->i+n<=items.size->
  (∀h',h'.IsListIter it l (i+n)->Heap.SameBut it s.heap h'->Q ((items.toList.drop i).take n) {s with heap:=h'})->wpAny (model prog w) A (draw (.ref it) n) Q E s
 |0,i,s,Q,hit,_,_,hQ=>by
  show wpAny _ _ (pure []) Q E s;exact wpAny_pure (by simpa using hQ s.heap hit (Heap.SameBut.refl ..))
 |n+1,i,s,Q,hit,ht,hle,hQ=>by
  have hlt:i<items.size:=by omega
  show wpAny _ _ (pyNext (.ref it) >>=_) Q E s;refine wpAny_bind (wpAny_pyNext_list_item hit ht (x:=items[i]) (by simp[hlt]) λh₁ hit₁ hs₁=> ?_);refine wpAny_bind (wpAny_holding (draw_list hne n (i+1) _ _ hit₁ (ht.extBut hs₁.extBut hne) (by omega) λh₂ hit₂ hs₂=>wpAny_pure ?_));have hd:items.toList.drop i=items[i]::items.toList.drop (i+1):=by simp[List.drop_eq_getElem_cons,hlt]
  have:=hQ h₂ (by rw[show i+(n+1)=i+1+n by omega];exact hit₂) (hs₁.trans hs₂);rw[hd,List.take_succ_cons] at this;exact this
variable{s:Shared}
theorem unpackItems_list{t:Addr}{items:Array Value}{Q:List Value->Shared->Prop}(hh:A.handled=none)(ht:s.heap.IsList t items)(hQ:∀h',Heap.ExtBut s.heap.objs.size s.heap h'->Q items.toList {s with heap:=h'}):wpAny (model prog w) A (unpackItems (.ref t) items.size none) Q E s:=by
 have hlt:t≠s.heap.objs.size:=by obtain⟨o,ho,_⟩:=ht;exact Nat.ne_of_lt (Heap.lt_size ho)
 unfold unpackItems;refine wpAny_bind ?_
 ·unfold notIterableAtAll;refine wpAny_bind (wpAny_specialOf ht.typeIs PySem.slot_list_iter.lookup ?_);refine wpAny_pure ?_;simp only[Bool.false_eq_true,if_false];refine wpAny_bind (wpAny_holding (wpAny_pyIter_list ht ?_));refine wpAny_bind (wpAny_holding (draw_list hlt items.size 0 _ _ ⟨_,Heap.get?_push_size _ rfl,rfl,rfl⟩ (ht.push _) (by omega) λh₁ hit₁ hs₁=> ?_));have hall:List.take items.size (List.drop 0 items.toList)=items.toList:=by
   rw[List.drop_zero];exact List.take_of_length_le (by simp)
  rw[hall];rw[if_neg (by simp)];have ht₁:h₁.IsList t items:=(ht.push _).extBut hs₁.extBut hlt;refine wpAny_bind (wpAny_holding (wpAny_pyNext_list_end hh hit₁ ht₁ (by simp) λh₂ he₂=> ?_));simp only[Option.isSome_none,Bool.false_eq_true,if_false];refine wpAny_pure (hQ h₂ λb o hb e=>he₂ b o hb (hs₁.extBut b o hb (Heap.get?_push_of_some _ e)))
end
section
variable{X:Cx}{pos:Pos}
def gLst(K:PySem.W.Frag)(n:Nat)(t:TGs):TG:=λv σ H Q=>∃a xs,v= .ref a/\SqL K H a xs/\xs.length=n/\t xs σ H Q
theorem pg_lst{es:List Expr}{k:Nat}{t:TGs}{n:Nat}(hc:X.calm=true)(h:PGs X es t)(hn:(assignEach es X.env).length=n:=by rfl)(hst:(assignEach es X.env).findIdx? (·.1)=none:=by rfl):PG X (.Tuple es k pos) (gLst X.K n t):=by
 intro pins s σ H v u Q I r hw;obtain⟨a,xs,e1,hq,hl,hw⟩:=hw;subst e1;cases r;obtain⟨its,rv,ht,hz⟩:=I.list hq;rw[assign_Tuple];refine wpAny_bind (wpAny_standAt ?_);unfold unpack;rw[show (assignEach es X.env).length=its.toArray.size by rw[hn,<-hl,rv.length];simp,hst];refine wpAny_bind (wpAny_holding (unpackItems_list (I.ok.hd hc) ht.isList λh' hx=> ?_));have I1:Inv X pins σ H {s with heap:=h'}:=I.kept (t':=s.toks) λb o e=>hx b o (Nat.ne_of_lt (Heap.lt_size e)) e;exact h pins _ σ H xs _ Q I1 (by simpa using rv) hw
end
end L2
namespace L2
open PySem PySem.Spec PyProof.Rows
section
variable{X:Cx}{a b c e:Expr}{ta tb tc te:TE}{pos p2:Pos}
inductive RSlSP(x:V)(lo:Option Int)(hi:Option Int)(H:Hp)(Q:VK):Prop
 |mk (z:_):(x= .str z)->(z.length<=sizeLine)->(Q (.str (Txt.slice z lo hi)) H)->RSlSP x lo hi H Q
def rSlS:V->Option Int->Option Int->Hp->VK->Prop:=λx lo hi H Q=>RSlSP x lo hi H Q
theorem sl_str:SlR X rSlS:=by
 intro pins s σ H x v vl vu lo hi sl Q I rx hs pl pu h;obtain⟨z,rfl,hz,q⟩:=h;obtain⟨t,rfl⟩:=rx;refine⟨"str",_,PySem.F.slot_str_getitem.lookup,typeIs_str _ _ _,?_⟩;have fin:∀t' k,EP X pins σ Q (.str (Txt.slice z lo hi) t') {s with toks:=k}:=λt' k=>⟨.str _,H,I.tok k,⟨t',rfl⟩,q⟩
 cases pl with
 |none=>
  cases pu with
  |none=>exact wpAny_getItem_str_slice (l:=none) (u:=none) (st:=none) hs rfl (post_val_or_str ⟨Nat.le_trans (Txt.slice_le z _ _) hz,fin⟩)
  |int j tj=>exact wpAny_getItem_str_slice (l:=none) (u:=some (j,tj)) (st:=none) hs rfl (post_val_or_str ⟨Nat.le_trans (Txt.slice_le z _ _) hz,fin⟩)
 |int i ti=>
  cases pu with
  |none=>exact wpAny_getItem_str_slice (l:=some (i,ti)) (u:=none) (st:=none) hs rfl (post_val_or_str ⟨Nat.le_trans (Txt.slice_le z _ _) hz,fin⟩)
  |int j tj=>exact wpAny_getItem_str_slice (l:=some (i,ti)) (u:=some (j,tj)) (st:=none) hs rfl (post_val_or_str ⟨Nat.le_trans (Txt.slice_le z _ _) hz,fin⟩)
theorem op_leS:OpR X (compareOp .LtE) (λx y H Q=>∃i j,x= .str i/\y= .str j/\Q (.bl (!decide (j.cps.toList<i.cps.toList))) H):=by
 intro pins s σ H x y u v Q I rx ry h;obtain⟨i,j,rfl,rfl,q⟩:=h;obtain⟨t,rfl⟩:=rx;obtain⟨t',rfl⟩:=ry;exact PySem.P.le_str ⟨.bl _,H,I,rfl,q⟩
theorem strsAre_of:∀{ys:List Str} {us:List Value},Vals (ys.map V.str) us->StrsAre us ys
 |[],_,.nil=> .nil
 |y::ys,_,.cons h t=>by
  obtain⟨u,rfl⟩:=h;exact .cons y u (strsAre_of t)
inductive RJoinP(K:PySem.W.Frag)(x:V)(vs:List V)(H:Hp)(Q:VK):Prop
 |mk (z:Str) (l:Addr) (ys:List Str):(x= .str z)->(vs=[.ref l])->(SqL K H l (ys.map V.str))->((ys.map (·.length)).sum+ys.length * z.length<=16777216)->(Q (.str (Txt.join z ys)) H)->RJoinP K x vs H Q
def rJoin(K:PySem.W.Frag):V->List V->Hp->VK->Prop:=λx vs H Q=>RJoinP K x vs H Q
theorem mt_join:MtM X "str.join" (rJoin X.K):=by
 intro pins s σ H x xs v us Q I rx r h;obtain⟨z,l,ys,rfl,rfl,hl,hz,q⟩:=h;obtain⟨t,rfl⟩:=rx;obtain⟨u,rfl,ru⟩:=Dz r;cases ru;obtain⟨its,rv,hp,_⟩:=I.list hl;exact join_list hp.isList (strsAre_of rv) hz λt' k=>⟨.str _,H,I.tok k,⟨t',rfl⟩,q⟩
theorem call_all(hc:X.calm=true):Dw X (.builtin "all") (λxs H Q=>∃(p:Addr) (bs:List Bool),xs=[.ref p]/\SqL X.K H p (bs.map V.bl)/\Q (.bl (bs.all id)) H):=by
 intro pins s σ H xs us Q I r h;obtain⟨p,bs,rfl,hq,q⟩:=h;obtain⟨u,rfl,rx⟩:=Dz r;cases rx;obtain⟨its,rv,hl,hz⟩:=I.list hq;have hlen:=rv.length;rw[List.length_map] at hlen;refine call_all_walk (wpAny_pyIter_list hl.isList ?_);have hne:p≠s.heap.objs.size:=by obtain⟨o,ho,_⟩:=hl.isList;exact Nat.ne_of_lt (Heap.lt_size ho)
 refine⟨_,_,_,_,_,_,λi=>bs.getD i true,rfl,Walks.list (A:=X.A.in1) (I.ok.hd hc) _ p hne its.toArray,⟨⟨_,Heap.get?_push_size _ rfl,rfl,rfl⟩,hl.isList.push _⟩,?_,λh' tk hk=> ?_⟩
 ·intro i v s' Q' E' hP hQ;have hi:its[i]? =some v:=by simpa using hP
  have hb:∃b,bs[i]? =some b/\v= .bool b:=by
   have hil:i<bs.length:=by rw[hlen];exact(List.getElem?_eq_some_iff.mp hi).1
   obtain⟨u,e1,e2⟩:=rv.get (i:=i) (x:= .bl bs[i]) (by simp[hil]);rw[hi] at e1;cases e1;exact⟨bs[i],by simp[hil],e2⟩
  obtain⟨b,e1,rfl⟩:=hb;have:bs.getD i true=b:=by simp[List.getD,e1]
  dsimp only at hQ;rw[this] at hQ;exact wpAny_truthy_bool hQ
 ·have e:(List.range its.toArray.size).all (λi=>bs.getD i true)=bs.all id:=by
   rw[List.size_toArray,<-hlen];have key:∀(bs:List Bool),(List.range bs.length).all (λi=>bs.getD i true)=bs.all id:=by
    intro bs;rw[Bool.eq_iff_iff,List.all_eq_true,List.all_eq_true];constructor
    ·intro h b hb;obtain⟨i,hi,e⟩:=List.getElem_of_mem hb;have:=h i (List.mem_range.mpr hi);simpa[List.getD,hi,e] using this
    ·intro h i hi;have hi:=List.mem_range.mp hi;have:=h bs[i] (List.getElem_mem hi);simpa[List.getD,hi] using this
   exact key bs
  rw[e];exact⟨.bl (bs.all id),H,I.kept (λb o eo=>hk b o (by
   intro z;have z:=List.mem_singleton.mp z;exact absurd (Heap.lt_size eo) (by rw[z];exact Nat.lt_irrefl _)) (Heap.get?_push_of_some _ eo)),rfl,q⟩
def Its(z:Str):It:=⟨λi _=>i<z.cps.size,λi H x H'=>H'=H/\∃c,z.cps[i]? =some c/\x= .str ⟨#[c]⟩,λi _=>z.cps.size<=i⟩
theorem walks_str{prog:Program}{w:World}{A:Around}(hh:A.handled=none)(I:Addr)(x:Str)(t:Tok):
  Walks prog w A I [I] [I] x.cps.size (SignAt x) (λi h=>h.IsStrIter I (strIterType x) x t i):=by
 cases ha:x.cps.all (·<128)
 ·have e:strIterType x="str_iterator":=by simp[strIterType,ha]
  rw[e];exact Walks.strWide hh I x t
 ·have e:strIterType x="str_ascii_iterator":=by simp[strIterType,ha]
  rw[e];exact Walks.strAscii hh I x t
theorem turn_str{P:Program}{w:World}{K:PySem.W.Frag}{tg:Expr}(z:Str)(t:Tok)(it:Addr):Turn P w K tg (Its z) [it] it (λi h=>h.IsStrIter it (strIterType z) z t i) where
 mem:=by simp
 obj:=λi h st b hb=>by
  have e:b=it:=by simpa using hb
  subst e;obtain⟨o,e,c,d⟩:=st;exact⟨o,e,λv z=>by rw[d] at z;cases z⟩
 keep:=λi h h' st k=>let ⟨o,ho,r⟩:=st;⟨o,k it (by simp) o ho,r⟩
 item:=by
  intro X hP hw hK hc i pins s σ H E I hf st hg;subst hP hw hK;obtain⟨f0,f1,f2,f3,f4,f5⟩:=hf it (by simp);refine(walks_str (prog:=X.prog) (w:=X.w) (I.ok.hd hc) it z t).item i s _ _ hg st λv h' tk hv st' kk=> ?_;obtain⟨c,u,hcu,rfl⟩:=hv;have I1:Inv X pins σ H {s with heap:=h',toks:=tk}:=I.turned (λb o hb e=>kk b o (by simpa using hb) e) f0 f1 f3 f4 f5;obtain⟨o,e,cc,d⟩:=id st';refine⟨_,rfl,go_of (s:={s with heap:=h',toks:=tk}) e cc d ?_ ⟨.str ⟨#[c]⟩,H,I1,⟨u,rfl⟩,⟨rfl,c,hcu,rfl⟩,st',λb hb=>(hf b hb).1⟩⟩;unfold strIterType;split<;> decide
 done:=by
  intro X hP hw hK hc i pins s σ H E I hf st hg;subst hP hw hK;obtain⟨f0,f1,f2,f3,f4,f5⟩:=hf it (by simp);have hg:z.cps.size<=i:=hg;have hn:z.cps[i]? =none:=by simp[hg]
  cases ha:z.cps.all (·<128)
  ·have e:strIterType z="str_iterator":=by simp[strIterType,ha]
   rw[e] at st;exact wpAny_pyNext_wide_end (I.ok.hd hc) st hn λh' eb=>⟨rfl,I.turned (t':=s.toks) (λb o hb e=>eb b o hb e) f0 f1 f3 f4 f5⟩
  ·have e:strIterType z="str_ascii_iterator":=by simp[strIterType,ha]
   rw[e] at st;exact wpAny_pyNext_ascii_end (I.ok.hd hc) st hn λh' eb=>⟨rfl,I.turned (t':=s.toks) (λb o hb e=>eb b o hb e) f0 f1 f3 f4 f5⟩
 self:=λA i s Q E st h=>by
  cases ha:z.cps.all (·<128)
  ·have e:strIterType z="str_iterator":=by simp[strIterType,ha]
   rw[e] at st;exact wpAny_pyIter_striter_wide st h
  ·have e:strIterType z="str_ascii_iterator":=by simp[strIterType,ha]
   rw[e] at st;exact wpAny_pyIter_striter_ascii st h
def iStr(tl:TE):TI:=λσ H R=>tl σ H λx H1=>∃z,x= .str z/\R (Its z) H1
theorem pi_str{tg l:Expr}{tl:TE}(hl:PE X l tl):PI X tg l (iStr tl):=by
 intro pins s σ H R I h;refine thn (hl pins s σ H _ I h) λv s1 ⟨x,H1,I1,r1,q1⟩=> ?_;obtain⟨z,rfl,q⟩:=q1;obtain⟨t,rfl⟩:=r1;refine wpAny_pyIter_strU ?_;have I2:Inv X pins σ H1 {s1 with heap:=s1.heap.push {cls:= .type (strIterType z),data:= .fields #[.str z t,.int 0 0]}}:=I1.kept (t':=s1.toks) λb o e=>Heap.get?_push_of_some _ e;refine⟨_,[s1.heap.objs.size],_,Its z,H1,rfl,I2,turn_str z t _,⟨_,Heap.get?_push_size _ rfl,rfl,rfl⟩,λb hb=> ?_,q⟩;have e:=List.mem_singleton.mp hb;subst e;exact I1.fpOk (Nat.le_refl _) I1.fresh
end
theorem comp_str{g:TG}{ti:TT}{te:TE}{Q:VK}{D:Addr}{σ:St}{H:Hp}{z:Str}(Pv:Nat->St->List V->Hp->Prop)(h0:Pv 0 σ [] (upd H D (.lst [])))(hl:∀i σ ys H,i<=z.cps.size->Pv i σ ys H->H D=some (.lst ys))(hs:∀i c σ ys H,z.cps[i]? =some c->Pv i σ ys H->cturn g ti te D (.str ⟨#[c]⟩) σ ys H (Pv (i+1)))(hd:∀σ ys H,Pv z.cps.size σ ys H->Q (.ref D) H):
  cgo (Its z) g ti te D σ H Q:=by
 refine⟨λi m σ ys H=>m=z.cps.size - i/\i<=z.cps.size/\Pv i σ ys H,⟨z.cps.size,by simp,Nat.zero_le _,h0⟩,?_⟩;rintro i m σ ys H ⟨rfl,hi,p⟩;refine⟨hl i σ ys H hi p,?_⟩;by_cases hlt:i<z.cps.size
 ·refine .inr ⟨hlt,Pv (i+1),λσ' ys' H' p'=>⟨z.cps.size - (i+1),by omega,rfl,hlt,p'⟩,λx H' y=> ?_⟩;obtain⟨e,c,hc,y⟩:=y;subst e y;exact hs i c σ ys _ hc p
 ·have e:i=z.cps.size:=by omega
  subst e;exact .inl ⟨Nat.le_refl _,hd σ ys H p⟩
def relab(scope osc:Scope):Scope:={scope with names:=scope.names.map λ(n,k)=>if (k== .free && osc.kind== .function && osc.names.lookup n==some .cell) then (n,.cell) else (n,k)}
structure CS(osc scope:Scope)(T F:List Str):Prop where
 kind:scope.kind= .function
 nocell:∀y∈scope.names,y.2≠ .cell
 names:∀x∈scope.names,x.2= .local->scope.names.lookup x.1=some .local
 free:∀x∈scope.names,x.2= .free->osc.names.lookup x.1=some .cell
 loc:∀y∈T,(relab scope osc).names.lookup y=some .local
 cel:∀y∈F,(relab scope osc).names.lookup y=some .cell/\osc.names.lookup y=some .cell/\(y,NameKind.free)∈scope.names
 all:∀x∈(relab scope osc).names,(x.2= .cell\/x.2= .free)->(x.1,NameKind.free)∈scope.names
theorem CS.to{X:Cx}{scope osc:Scope}{T F:List Str}{js:List Nat}(h:CS osc scope T F)(hj:js.map (λj=>X.N[j]?)=F.map some)(ho:X.env.scope=osc):CScope X scope T F js:=by
 subst ho;exact⟨h.kind,h.nocell,h.names,h.free,h.loc,h.cel,h.all,hj⟩
theorem PSs.imp'{X:Cx}{st:List PySem.Stmt}{t t':TS}(h:PSs X st t)(f:∀D σ H,t' D σ H->t D σ H):PSs X st t':=λpins s σ H D I h'=>h pins s σ H D I (f D σ H h')
end L2
namespace L2
open PySem PySem.Spec PyProof.Rows
structure Cl(P:Program)(w:World)(K:PySem.W.Frag)(mg:Str->Option Value)(base:Heap)(n:Nat)(x:Str)(ps:List Str)(sp:Sp):Prop where
 ex:∃(g:Addr) (fd:FuncData),PySem.W.keepIn K (.ref g)=true/\Binds K fd ps []/\mg x=some (.ref g)/\FnOk P w K mg base CX0 n g fd ps sp
theorem Cl.up{P:Program}{w:World}{K:PySem.W.Frag}{mg:Str->Option Value}{base:Heap}{j n:Nat}{x:Str}{ps:List Str}{sp:Sp}(h:Cl P w K mg base j x ps sp)(l:j<=n:=by decide):Cl P w K mg base n x ps sp:=
 let ⟨g,fd,a,b,c,d⟩:=h.ex
 ⟨g,fd,a,b,c,d.mono l⟩
structure FA(K:PySem.W.Frag)(x:Str)(st:Stmt)(f:Addr):Prop where
 a:PySem.W.nsIn K mainGlobals x=some (some (.ref f))
 fn:∃fd,Fun K x x st f fd
theorem FA.of{K:PySem.W.Frag}{x:Str}{st:Stmt}{f:Addr}{oc:Value}{od an:Option Addr}{osl:Array (Option Value)}{kV doc pm cdv ct:Value}(a:PySem.W.nsIn K mainGlobals x=some (some (.ref f)))(l:K.lookup f=some ⟨oc,od,.func (PySem.W.fnOf x x (defArgs st) (defBody st) (Ag st) .none kV doc pm an cdv ct),osl⟩)(c:PySem.W.codeIn K cdv x=true)(k:PySem.W.keepIn K (.ref f)=true):FA K x st f:=⟨a,_,fun_mk l c k⟩
theorem Fun.bindsTo{K:PySem.W.Frag}{x qual:Str}{st:Stmt}{f:Addr}{fd:FuncData}{y:Str}(F:Fun K x qual st f fd)(h:∀(kV doc pm:Value) (an:Option Addr) (cdv ct v:Value),bindArgs (PySem.W.fnOf x qual (defArgs st) (defBody st) (Ag st) .none kV doc pm an cdv ct) ⟨[v],[]⟩=pure [(y,v)]:=by intros;rfl)(s:Shared)(v:Value):BindsTo s fd ⟨[v],[]⟩ [(y,v)]:=by
 obtain⟨oc,od,kV,doc,pm,an,cdv,ct,osl,rfl,_⟩:=F.ex;exact .of_eq (h kV doc pm an cdv ct v)
theorem Bw{K:PySem.W.Frag}{x:Str}{st:Stmt}{f:Addr}{fd:FuncData}{mg:Str->Option Value}{ps:List Str}{n:Nat}{sp:Sp}{h:Heap}(P:Program)(w:World)(base:Heap)(F:Fun K x x st f fd)(A:FA K x st f)(X:K.In h)(G:h.Ns mainGlobals mg)(b:∀(kV doc pm:Value) (an:Option Addr) (cdv ct:Value) (us:List Value),us.length=ps.length->bindArgs (PySem.W.fnOf x x (defArgs st) (defBody st) (Ag st) .none kV doc pm an cdv ct) ⟨us,[]⟩=pure (ps.zip us))(Q:FnOk P w K mg base CX0 n f fd ps sp):Cl P w K mg base n x ps sp:=
 ⟨f,fd,F.kp,F.binds b,PySem.W.mg_of X G A.a,Q⟩
section
variable{X:Cx}{k:Nat}{x:Str}{ps:List Str}{sp:Sp}{e:Expr}{es:List Expr}{t:TA}{p pos:Pos}
theorem At(C:Cl X.prog X.w X.K X.mg X.base k x ps sp)(hr:Room k X.A)(ha:PA X (e::es) t)(hg:Gl X x:=by rfl)(hdb:(x==("__debug__":Str))=false:=by decide)(he:starEach (e::es) X.env=(false,eval e X.env)::starEach es X.env:=by rfl)(hpl:(backTo pos (starEach es X.env)).any (·.1)=false:=by rfl):
  PE X (.Call (.Name x p) (e::es) [] pos) (tCall sp [] E0 t):=by
 obtain⟨g,fd,a,b,c,d⟩:=C.ex;exact pe_call d hr hg c a b .nil pass0 ha hdb he hpl
end
theorem cs{X:Cx}{scope osc:Scope}{T F:List Str}{js:List Nat}(h1:scope.kind= .function:=by rfl)(h2:∀y∈scope.names,y.2≠ .cell:=by decide+kernel)(h3:∀x∈scope.names,x.2= .local->scope.names.lookup x.1=some .local:=by decide+kernel)(h4:∀x∈scope.names,x.2= .free->osc.names.lookup x.1=some .cell:=by decide+kernel)(h5:∀y∈T,(relab scope osc).names.lookup y=some .local:=by decide+kernel)(h6:∀y∈F,(relab scope osc).names.lookup y=some .cell/\osc.names.lookup y=some .cell/\(y,NameKind.free)∈scope.names:=by decide+kernel)(h7:∀x∈(relab scope osc).names,(x.2= .cell\/x.2= .free)->(x.1,NameKind.free)∈scope.names:=by decide+kernel)(hj:js.map (λj=>X.N[j]?)=F.map some:=by rfl)(ho:X.env.scope=osc:=by rfl):CScope X scope T F js:=CS.to ⟨h1,h2,h3,h4,h5,h6,h7⟩ hj ho
end L2
namespace L2
open PySem PySem.Spec PyProof.Rows
section
variable{X:Cx}{pins:List (Addr×Obj)}{σ:St}{H:Hp}{s:Shared}
theorem Inv.turnedL{t':Nat}{h':Heap}(ch:List Addr)(I:Inv X pins σ H s)(k:∀b o,b ∉ ch->s.heap.get? b=some o->h'.get? b=some o)(hf:∀b∈ch,FpOk X pins H b):Inv X pins σ H {s with heap:=h',toks:=t'}:=by
 have out:∀b u,H b=some u->b ∉ ch:=λb u e z=>by rw[(hf b z).1] at e;cases e
 have outL:X.env.locals ∉ ch:=λz=>(hf _ z).2.1 rfl;refine I.step (g':=s.gens) (d':=s.drawn) (ch:=ch) (λb hb=>⟨(hf b hb).2.2.2.1,(hf b hb).2.1,(hf b hb).2.2.2.2.1,(hf b hb).2.2.2.2.2⟩) (λb o _ _ hc e _=>k b o hc e) (λb o _ _ hc e _=>⟨o.slots,k b o hc e⟩)
  (λ_ _ _ _ n=>n) (λb o hc e=>⟨o,k b o hc e⟩) (λ_ _ e=>e) (λ_ _ _ e=>e) (λb ps e=>⟨#[],by rw[e];simp⟩) (λm hm=> ?_) (λb u e=> ?_) I.bare
 ·obtain⟨o,es,ep,ho,r⟩:=hm;exact⟨o,es,ep,k _ o outL ho,r⟩
 ·refine(I.hok b u e).stay (λc v hc q=>k c v ?_ q) (λ_ q=>q) λ_ _ q=>q;rcases hc with z|z
  ·rw[z];exact out b u e
  ·exact out c _ z
theorem FpOk.up{b T:Addr}{o:HO}(h:FpOk X pins H b)(n:b≠T):FpOk X pins (upd H T o) b:=⟨by rw[Aj n];exact h.1,h.2⟩
end
def Ite(K:PySem.W.Frag)(a:Addr):It:=
 ⟨λi H=>∃xs x,SqL K H a xs/\xs[i]? =some x,λi H v H'=>∃T x,H T=none/\v= .ref T/\H'=upd H T (.tup [.int i,x])/\∀xs,SqL K H a xs->xs[i]? =some x,λi H=>∃xs,SqL K H a xs/\xs.length<=i⟩
theorem turn_enum{P:Program}{w:World}{K:PySem.W.Frag}{elts:List Expr}{x1}{pos:Pos}(a e it:Addr)(hei:e≠it):Turn P w K (.Tuple elts x1 pos) (Ite K a) [e,it] e (λi h=>(∃old,IsEnum h e it i old)/\h.IsListIter it a i) where
 mem:=by simp
 obj:=λi h st b hb=>by
  obtain⟨⟨old,he⟩,o,ho,hc,hd⟩:=st;rcases List.mem_cons.mp hb with rfl|hb
  ·exact⟨_,he,λv z=>by cases z⟩
  ·have:b=it:=by simpa using hb
   subst this;exact⟨o,ho,λv z=>by rw[hd] at z;cases z⟩
 keep:=λi h h' st k=>⟨let ⟨old,he⟩:=st.1;⟨old,k e (by simp) _ he⟩,st.2.at λo q=>k it (by simp) o q⟩
 item:=by
  intro X hP hw hK hc i pins s σ H E I hf st hg;subst hP hw hK;obtain⟨⟨old,he⟩,hit⟩:=st;obtain⟨xs,x,hq,hx⟩:=hg;obtain⟨its,rv,p,hz⟩:=I.list hq;obtain⟨u,hu,ru⟩:=rv.get hx;have fresh:H s.heap.objs.size=none:=I.hok.fresh (Nat.le_refl _);have elt:e<s.heap.objs.size:=Heap.lt_size he;have ilt:it<s.heap.objs.size:=by obtain⟨_,q,_⟩:=hit;exact Heap.lt_size q
  refine wpAny_pyNext_enum_item he hit p.isList (x:=u) (by simpa using hu) hei λh' eo it' hT hsz kk=>⟨_,rfl,?_⟩
  refine wpAny_letOwnedTupleGo_enum (s:={s with heap:=h',toks:=s.toks+1}) eo λh2 e2 sb=> ?_;have I1:Inv X pins σ (upd H s.heap.objs.size (.tup [.int i,x])) {s with heap:=s.heap.push {cls:= .type "tuple",data:= .seq #[.int i s.toks,u]},toks:=s.toks}:=
   I.laid (o:= .tup [.int i,x]) (λb ob q=>Heap.get?_push_of_some _ q) (Nat.le_refl _) ⟨by rw[sizeLine_eq];simp,[.int i s.toks,u],.cons ⟨_,rfl⟩ (.cons ru .nil),IsTupN.new _ _⟩
  have I2:=I1.turnedL (h':=h2) (t':=s.toks+1) [e,it] (λb o hb q=> ?_) (λb hb=> ?_)
  ·refine⟨.ref s.heap.objs.size,_,I2,rfl,⟨_,x,fresh,rfl,rfl,λys hy=>by rw[I.list_inj hy hq];exact hx⟩,⟨⟨_,by simpa using e2⟩,it'.at λo q=>(sb.2 it hei.symm).trans q⟩,λb hb=> ?_⟩;rcases List.mem_cons.mp hb with rfl|hb
   ·rw[Aj (Nat.ne_of_lt elt)];exact(hf _ (by simp)).1
   ·have:b=it:=by simpa using hb
    subst this;rw[Aj (Nat.ne_of_lt ilt)];exact(hf _ (by simp)).1
  ·have b1:b≠e:=λz=>hb (by simp[z]);have b2:b≠it:=λz=>hb (by simp[z]);refine(sb.2 b b1).trans ?_;by_cases hbs:b=s.heap.objs.size
   ·subst hbs;rw[Heap.get?_push_size _ rfl] at q;cases q;exact hT
   ·rw[Heap.get?_push_ne _ _ _ hbs] at q;exact kk b o b1 b2 q
  ·rcases List.mem_cons.mp hb with rfl|hb
   ·exact(hf _ (by simp)).up (Nat.ne_of_lt elt)
   ·have:b=it:=by simpa using hb
    subst this;exact(hf _ (by simp)).up (Nat.ne_of_lt ilt)
 done:=by
  intro X hP hw hK hc i pins s σ H E I hf st hg;subst hP hw hK;obtain⟨⟨old,he⟩,hit⟩:=st;obtain⟨xs,hq,hx⟩:=hg;obtain⟨its,rv,p,hz⟩:=I.list hq;have hl:=rv.length;exact wpAny_pyNext_enum_end (I.ok.hd hc) he hit p.isList (by simp;omega) λh' eb=>⟨rfl,I.turnedL (t':=s.toks) [e,it] (λb o hb q=>eb b o (λz=>hb (by simp[z])) q) hf⟩
 self:=λA i s Q E st h=>let ⟨⟨old,he⟩,_⟩:=st;wpAny_pyIter_enum he h
def iEnum(K:PySem.W.Frag)(ta:TA):TI:=λσ H R=>ta σ H λvs H1=>∃a xs,vs=[.ref a]/\SqL K H1 a xs/\R (Ite K a) H1
theorem pi_enumL{X:Cx}{elts:List Expr}{x1}{tpos:Pos}{a:Expr}{ta:TA}{p pos:Pos}(hg:Gl X "enumerate")(hm:X.mg "enumerate"=none)(ha:PA X [a] ta)(hs:starEach [a] X.env=[(false,eval a X.env)]:=by rfl):
  PI X (.Tuple elts x1 tpos) (.Call (.Name "enumerate" p) [a] [] pos) (iEnum X.K ta):=by
 intro pins s σ H R I h;refine Call_ (ld_blt I hg hm (show bootBuiltins "enumerate"=some (.type "enumerate") by decide+kernel) (PyProof.Rows.callWith_type1 (thn (ha pos pins s σ H _ I h) λus s1 ⟨vs,H1,I1,r1,q1⟩=> ?_) hs rfl));obtain⟨l,xs,e,hq,q⟩:=q1;subst e;obtain⟨u,rfl,ru⟩:=Dz r1;cases ru;obtain⟨its,rv,pl,hz⟩:=I1.list hq;refine call_enumerate_list pl.isList λh' he hit hsz kk=>wpAny_pyIter_enum he ?_;refine⟨s1.heap.objs.size+1,[s1.heap.objs.size+1,s1.heap.objs.size],_,_,H1,rfl,I1.kept (t':=s1.toks) kk,turn_enum l _ _ (Nat.succ_ne_self _),⟨⟨_,he⟩,hit⟩,λb hb=> ?_,q⟩;have hb:s1.heap.objs.size<=b:=by
  rcases List.mem_cons.mp hb with rfl|hb
  ·exact Nat.le_succ _
  ·have:b=s1.heap.objs.size:=by simpa using hb
   exact Nat.le_of_eq this.symm
 exact I1.fpOk hb (I1.hok.fresh hb)
section
variable{g:TG}{ti:TT}{te:TE}{Q:VK}{D:Addr}{σ:St}{H:Hp}
theorem comp_enum{K:PySem.W.Frag}{a:Addr}{xs:List V}(Pv:Nat->St->List V->Hp->Prop)(h0:Pv 0 σ [] (upd H D (.lst [])))(hl:∀i σ ys H,i<=xs.length->Pv i σ ys H->SqL K H a xs/\H D=some (.lst ys))(hs:∀i x σ ys H T,xs[i]? =some x->Pv i σ ys H->H T=none->cturn g ti te D (.ref T) σ ys (upd H T (.tup [.int (i:Nat),x])) (Pv (i+1)))(hd:∀σ ys H,Pv xs.length σ ys H->Q (.ref D) H):
  cgo (Ite K a) g ti te D σ H Q:=by
 refine⟨λi m σ ys H=>m=xs.length - i/\i<=xs.length/\Pv i σ ys H,⟨xs.length,by simp,Nat.zero_le _,h0⟩,?_⟩;rintro i m σ ys H ⟨rfl,hi,p⟩;obtain⟨q,hD⟩:=hl i σ ys H hi p;refine⟨hD,?_⟩;by_cases hlt:i<xs.length
 ·refine .inr ⟨⟨xs,xs[i],q,by simp[hlt]⟩,Pv (i+1),λσ' ys' H' p'=>⟨xs.length - (i+1),by omega,rfl,hlt,p'⟩,λx H' y=> ?_⟩;obtain⟨T,z,hT,rfl,rfl,y⟩:=y;exact hs i z σ ys H T (y xs q) p hT
 ·have e:i=xs.length:=by omega
  subst e;exact .inl ⟨⟨xs,q,Nat.le_refl _⟩,hd σ ys H p⟩
end
end L2
namespace PySem
open Builtin
section
variable{prog:Program}{w:World}{A:Around}{E:Value->Shared->Prop}{s:Shared}
theorem nextOf_tup{it t:Addr}{i:Nat}{its:Array Value}{x:Value}{Q:Value->Shared->Prop}(hi:s.heap.IsTupleIter it t i)(ht:s.heap.IsTuple t its)(hx:its[i]? =some x)(hQ:∀h',h'.IsTupleIter it t (i+1)->Heap.SameBut it s.heap h'->Q x {s with heap:=h'}):wpAny (model prog w) A (Builtin.SmallTypes.nextOf (.ref it)) Q E s:=by
 obtain⟨oi,gi,ci,di⟩:=id hi;obtain⟨ot,gt,_,nt,dt⟩:=ht;unfold Builtin.SmallTypes.nextOf;refine wpAny_bind (wpAny_callSpecial?_slot (name:=Str.ofString "__next__") hi.typeIs F.slot_tuple_iterator_next (wpAny_call_entry F.slot_tuple_iterator_next hi.typeIs F.entry_tuple_iterator_next ?_ (F.args_tuple_iterator_next_1 _)));show wpAny _ _ (field (.ref it) 0 >>=λ_=>_) _ _ s;refine wpAny_bind (wpAny_field gi di (x:= .ref t) rfl ?_);show wpAny _ _ (ite ((Value.ref t==Value.none)=true) _ _) _ _ s;have ng:¬((Value.ref t==Value.none)=true):=Bool.false_ne_true;rw[if_neg ng];show wpAny _ _ (field (.ref it) 1 >>=λ_=>_) _ _ s;refine wpAny_bind (wpAny_field gi di (x:= .int i 0) rfl ?_);show wpAny _ _ (seqItems? (.ref t) >>=λ_=>_) _ _ s;refine wpAny_bind (wpAny_seqItems gt dt ?_);simp only[Int.toNat_natCast,hx];refine wpAny_bind (wpAny_setField gi di (by simp) (wpAny_pure ⟨x,rfl,wpAny_pure (hQ _ ⟨_,Heap.get?_update_self _ gi (Obj.isFreed_of_fields (Obj.data_mapFields di _)),(Obj.cls_mapFields ..).trans ci,?_⟩ (Heap.SameBut.update ..))⟩));rw[Obj.data_mapFields di];simp[rawInt]
theorem nextOf_tup_end{it t:Addr}{i:Nat}{its:Array Value}{Q:Value->Shared->Prop}(hh:A.handled=none)(hi:s.heap.IsTupleIter it t i)(ht:s.heap.IsTuple t its)(hx:its[i]? =none)(hE:∀h' e,Heap.ExtBut it s.heap h'->(∃o,h'.get? e=some o/\o.cls= .type "StopIteration")->E (.ref e) {s with heap:=h'}):wpAny (model prog w) A (Builtin.SmallTypes.nextOf (.ref it)) Q E s:=by
 obtain⟨oi,gi,ci,di⟩:=id hi;obtain⟨ot,gt,_,nt,dt⟩:=ht;unfold Builtin.SmallTypes.nextOf;refine wpAny_bind (wpAny_callSpecial?_slot (name:=Str.ofString "__next__") hi.typeIs F.slot_tuple_iterator_next (wpAny_call_entry F.slot_tuple_iterator_next hi.typeIs F.entry_tuple_iterator_next ?_ (F.args_tuple_iterator_next_1 _)));show wpAny _ _ (field (.ref it) 0 >>=λ_=>_) _ _ s;refine wpAny_bind (wpAny_field gi di (x:= .ref t) rfl ?_);show wpAny _ _ (ite ((Value.ref t==Value.none)=true) _ _) _ _ s;have ng:¬((Value.ref t==Value.none)=true):=Bool.false_ne_true;rw[if_neg ng];show wpAny _ _ (field (.ref it) 1 >>=λ_=>_) _ _ s;refine wpAny_bind (wpAny_field gi di (x:= .int i 0) rfl ?_);show wpAny _ _ (seqItems? (.ref t) >>=λ_=>_) _ _ s;refine wpAny_bind (wpAny_seqItems gt dt ?_);simp only[Int.toNat_natCast,hx];refine wpAny_bind (wpAny_rule (wpAny_bind (wpAny_setField gi di (by simp) ?_)));show wpAny _ _ (newExc (.type "StopIteration") [] >>=λ_=>_) _ _ _;refine wpAny_bind ?_;simp only[newExc,newTuple];refine wpAny_bind (wpAny_newObj_type ?_ (by size_fits));refine wpAny_bind (m:=firstArgMember _ _) (wpAny_of_eq (a:=Value.none) (by first|rfl|(simp only[firstArgMember];rfl)) ?_);refine wpAny_newObj_type ?_ (by size_fits);simp only[raiseNew];refine wpAny_bind (wpAny_handled ?_)
 first|rw[show A.in1.handled=none from hh]|rw[hh]
 exact wpAny_bind (wpAny_pure (wpAny_throw (hE _ _ (((Heap.SameBut.update ..).extBut.push _).push _) ⟨_,Heap.get?_push_size _ rfl,rfl⟩)))
theorem Draws.tup{prog:Program}{w:World}{A:Around}(hh:A.handled=none)(it t:Addr)(hne:t≠it)(its:Array Value):
  Draws prog w A it [it,t] its.size (λi v=>its[i]? =some v) (λi h=>h.IsTupleIter it t i/\h.IsTuple t its) where
 live:=λ_ _ st=>⟨st.1.choose,st.1.choose_spec.1⟩
 frame:=λ_ _ _ st hk=>⟨st.1.at λo e=>hk it (by simp) o e,let ⟨o,ho,r⟩:=st.2;⟨o,hk t (by simp) o ho,r⟩⟩
 item:=λi s Q E hi st hQ=>by
  refine nextOf_tup st.1 st.2 (x:=its[i]) (by simp[hi]) λh' hit' hs'=> ?_;exact hQ _ h' s.toks (by simp[hi]) ⟨hit',let ⟨o,ho,r⟩:=st.2;⟨o,hs'.extBut _ _ hne ho,r⟩⟩ hs'
 done:=λs Q E st hE=>nextOf_tup_end hh st.1 st.2 (by simp) hE
end
end PySem
namespace PySem
open Builtin
structure ZAp(z TI TO i1 i2:Addr)(f1 f2:List Addr):Prop where
 a1:TI≠z
 a2:TO≠z
 a3:i1≠z
 a4:i2≠z
 a5:TI≠TO
 a6:TI≠i1
 a7:TI≠i2
 a8:TO≠i1
 a9:TO≠i2
 b1:i1≠i2
 b2:z ∉ f1
 b3:z ∉ f2
 b4:TO ∉ f1
 b5:TO ∉ f2
 b6:i1 ∉ f2
 b7:i2 ∉ f1
section
variable{prog:Program}{w:World}{A:Around}{E:Value->Shared->Prop}{s:Shared}{z TI TO i1 i2:Addr}{f1 f2:List Addr}{n1 n2:Nat}{P1 P2:Nat->Value->Prop}{S1 S2:Nat->Heap->Prop}
theorem zip_itemD{k:Nat}{a b:Value}{Q:Value->Shared->Prop}(D:ZAp z TI TO i1 i2 f1 f2)(D1:Draws prog w A i1 f1 n1 P1 S1)(D2:Draws prog w A i2 f2 n2 P2 S2)(hZ:IsZip s.heap z TI TO .none)(pI:IsPair s.heap TI (.ref i1) (.ref i2))(pO:IsPair s.heap TO a b)(t1:S1 k s.heap)(t2:S2 k s.heap)(l1:k<n1)(l2:k<n2)(hQ:∀h' tk x y,P1 k x->P2 k y->IsZip h' z TI TO (rawInt s.heap.objs.size)->IsPair h' TO x y->S1 (k+1) h'->S2 (k+1) h'->IsPair h' s.heap.objs.size x y->
   (∀c o,c≠z->c≠TO->c≠i1->c≠i2->s.heap.get? c=some o->h'.get? c=some o)->Q (.ref s.heap.objs.size) {s with heap:=h',toks:=tk}):
  wpAny (model prog w) A (Builtin.«zip.__next__» ⟨[.ref z],[]⟩) (λfin s'=>∃v,fin= .done (.ret v)/\Q v s') E s:=by
 show wpAny _ _ (field (.ref z) 2 >>=λ_=>_) _ _ _;refine wpAny_bind (wpAny_field hZ rfl (x:= .bool false) rfl ?_);show wpAny _ _ (field (.ref z) 3 >>=λ_=>_) _ _ _;refine wpAny_bind (wpAny_field hZ rfl (x:= .ref TI) rfl ?_);refine wpAny_bind (wpAny_seqItems pI rfl ?_);show wpAny _ _ (Builtin.SmallTypes.ownedTupleIsFree (.ref z) >>=λ_=>_) _ _ _;refine wpAny_bind ?_;unfold Builtin.SmallTypes.ownedTupleIsFree;refine wpAny_bind (wpAny_field hZ rfl (x:= .none) rfl (wpAny_pure ?_));simp only[if_true];refine wpAny_bind (wpAny_rule (wpAny_bind (wpAny_field hZ rfl (x:= .ref TO) rfl ?_)));refine wpAny_bind (wpAny_setField_rec hZ (by simp) λg1 zg1 k1=> ?_)
 replace zg1:IsZip g1 z TI TO .ellipsis:=zg1
 refine wpAny_bind ?_;simp only[List.zipIdx_cons,List.zipIdx_nil,List.forIn_cons,List.forIn_nil];refine wpAny_bind (wpAny_bind (wpAny_onRaise ?_));show wpAny _ _ (Builtin.SmallTypes.nextOf (.ref i1) >>=λ_=>_) _ _ _;refine wpAny_bind (D1.item k _ _ _ l1 (D1.frame _ _ _ t1 λc hc o e=>k1.extBut _ _ (λq=>D.b2 (q▸hc)) e) λx g2 tk2 px sg2 k2=>wpAny_pure ?_);have pO2:IsPair g2 TO a b:=k2.extBut _ _ D.a8 (k1.extBut _ _ D.a2 pO);refine wpAny_bind (wpAny_seqItems pO2 rfl (wpAny_bind (wpAny_updateSeq_pair pO2 λg3 pO3 k3=> ?_)))
 replace pO3:IsPair g3 TO x b:=pO3
 refine wpAny_bind (wpAny_letGo (wpAny_pure (wpAny_bind (wpAny_bind (wpAny_onRaise ?_)))));show wpAny _ _ (Builtin.SmallTypes.nextOf (.ref i2) >>=λ_=>_) _ _ _;have t2':S2 k g3:=D2.frame _ _ _ t2 λc hc o e=>k3.extBut _ _ (λq=>D.b5 (q▸hc)) (k2.extBut _ _ (λq=>D.b6 (q▸hc)) (k1.extBut _ _ (λq=>D.b3 (q▸hc)) e));refine wpAny_bind (D2.item k _ _ _ l2 t2' λy g4 tk4 py sg4 k4=>wpAny_pure ?_);have pO4:IsPair g4 TO x b:=k4.extBut _ _ D.a9 pO3;refine wpAny_bind (wpAny_seqItems pO4 rfl (wpAny_bind (wpAny_updateSeq_pair pO4 λg5 pO5 k5=> ?_)))
 replace pO5:IsPair g5 TO x y:=pO5
 refine wpAny_bind (wpAny_letGo (wpAny_pure (wpAny_pure (wpAny_bind (wpAny_seqItems pO5 rfl (wpAny_bind (wpAny_newTuple ?_)))))));have sz:g5.objs.size=s.heap.objs.size:=by rw[k5.1,k4.1,k3.1,k2.1,k1.1]
 have zg5:IsZip g5 z TI TO .ellipsis:=k5.extBut _ _ D.a2.symm (k4.extBut _ _ D.a4.symm (k3.extBut _ _ D.a2.symm (k2.extBut _ _ D.a3.symm zg1)));have kk:∀c o,c≠z->c≠TO->c≠i1->c≠i2->s.heap.get? c=some o->g5.get? c=some o:=λc o c1 c2 c3 c4 e=>k5.extBut _ _ c2 (k4.extBut _ _ c4 (k3.extBut _ _ c2 (k2.extBut _ _ c3 (k1.extBut _ _ c1 e))));have u1:S1 (k+1) g5:=D1.frame _ _ _ sg2 λc hc o e=>k5.extBut _ _ (λq=>D.b4 (q▸hc)) (k4.extBut _ _ (λq=>D.b7 (q▸hc)) (k3.extBut _ _ (λq=>D.b4 (q▸hc)) e));have u2:S2 (k+1) g5:=D2.frame _ _ _ sg4 λc hc o e=>k5.extBut _ _ (λq=>D.b5 (q▸hc)) e;have zlt:z<g5.objs.size:=Heap.lt_size zg5;show wpAny _ _ (Builtin.SmallTypes.ownedTupleHandOut (.ref z) (.ref g5.objs.size) >>=λ_=>_) _ _ _;refine wpAny_bind ?_;unfold Builtin.SmallTypes.ownedTupleHandOut;have zg6:IsZip (g5.push {cls:= .type "tuple",data:= .seq #[x,y]}) z TI TO .ellipsis:=Heap.get?_push_of_some _ zg5;refine wpAny_bind (wpAny_setField_rec zg6 (by simp) λg7 zg7 k7=> ?_)
 replace zg7:IsZip g7 z TI TO (rawInt g5.objs.size):=zg7
 refine wpAny_setField_rec zg7 (by simp) λg8 zg8 k8=> ?_
 replace zg8:IsZip g8 z TI TO (rawInt g5.objs.size):=zg8
 have up:∀c o,c≠z->g5.get? c=some o->g8.get? c=some o:=λc o c1 e=>k8.extBut _ _ c1 (k7.extBut _ _ c1 (Heap.get?_push_of_some _ e));have pT:IsPair g8 g5.objs.size x y:=k8.extBut _ _ (Nat.ne_of_gt zlt) (k7.extBut _ _ (Nat.ne_of_gt zlt) (Heap.get?_push_size _ rfl));rw[sz] at zg8 pT;refine wpAny_pure ⟨_,rfl,?_⟩;show Q (.ref g5.objs.size) _;rw[sz];exact hQ g8 _ x y px py zg8 (up _ _ D.a2 pO5) (D1.frame _ _ _ u1 λc hc o e=>up c o (λq=>D.b2 (q▸hc)) e) (D2.frame _ _ _ u2 λc hc o e=>up c o (λq=>D.b3 (q▸hc)) e) pT λc o c1 c2 c3 c4 e=>up c o c1 (kk c o c1 c2 c3 c4 e)
theorem zip_endD{k:Nat}{a b:Value}{Q:Fin->Shared->Prop}(D:ZAp z TI TO i1 i2 f1 f2)(D1:Draws prog w A i1 f1 n1 P1 S1)(D2:Draws prog w A i2 f2 n2 P2 S2)(hZ:IsZip s.heap z TI TO .none)(pI:IsPair s.heap TI (.ref i1) (.ref i2))(pO:IsPair s.heap TO a b)(t1:S1 k s.heap)(t2:S2 k s.heap)(hend:k=n1\/(k<n1/\k=n2))(hE:∀h' tk e,(∀c o,c≠z->c≠TO->c≠i1->c≠i2->s.heap.get? c=some o->h'.get? c=some o)->(∃o,h'.get? e=some o/\o.cls= .type "StopIteration")->E (.ref e) {s with heap:=h',toks:=tk}):
  wpAny (model prog w) A (Builtin.«zip.__next__» ⟨[.ref z],[]⟩) Q E s:=by
 show wpAny _ _ (field (.ref z) 2 >>=λ_=>_) _ _ _;refine wpAny_bind (wpAny_field hZ rfl (x:= .bool false) rfl ?_);show wpAny _ _ (field (.ref z) 3 >>=λ_=>_) _ _ _;refine wpAny_bind (wpAny_field hZ rfl (x:= .ref TI) rfl ?_);refine wpAny_bind (wpAny_seqItems pI rfl ?_);show wpAny _ _ (Builtin.SmallTypes.ownedTupleIsFree (.ref z) >>=λ_=>_) _ _ _;refine wpAny_bind ?_;unfold Builtin.SmallTypes.ownedTupleIsFree;refine wpAny_bind (wpAny_field hZ rfl (x:= .none) rfl (wpAny_pure ?_));simp only[if_true];refine wpAny_bind (wpAny_rule (wpAny_bind (wpAny_field hZ rfl (x:= .ref TO) rfl ?_)));refine wpAny_bind (wpAny_setField_rec hZ (by simp) λg1 zg1 k1=> ?_)
 replace zg1:IsZip g1 z TI TO .ellipsis:=zg1
 refine wpAny_bind ?_;simp only[List.zipIdx_cons,List.zipIdx_nil,List.forIn_cons,List.forIn_nil];refine wpAny_bind (wpAny_bind (wpAny_onRaise ?_));show wpAny _ _ (Builtin.SmallTypes.nextOf (.ref i1) >>=λ_=>_) _ _ _;have t1':S1 k g1:=D1.frame _ _ _ t1 λc hc o e=>k1.extBut _ _ (λq=>D.b2 (q▸hc)) e;rcases hend with rfl|⟨l1,rfl⟩
 ·refine wpAny_bind (D1.done _ _ _ t1' λg2 e k2 he=> ?_);obtain⟨oe,ge,ce⟩:=he;have zg2:IsZip g2 z TI TO .ellipsis:=k2 _ _ D.a3.symm zg1;have ne:e≠z:=λq=>by subst q;rw[zg2] at ge;cases ge;simp at ce
  exact wpAny_setField_rec zg2 (by simp) λg3 _ k3=>hE g3 _ e (λc o c1 _ c3 _ q=>k3.extBut _ _ c1 (k2 _ _ c3 (k1.extBut _ _ c1 q))) ⟨oe,k3.extBut _ _ ne ge,ce⟩
 ·refine wpAny_bind (D1.item k _ _ _ l1 t1' λx g2 tk2 px sg2 k2=>wpAny_pure ?_);have pO2:IsPair g2 TO a b:=k2.extBut _ _ D.a8 (k1.extBut _ _ D.a2 pO);refine wpAny_bind (wpAny_seqItems pO2 rfl (wpAny_bind (wpAny_updateSeq_pair pO2 λg3 pO3 k3=> ?_)));refine wpAny_bind (wpAny_letGo (wpAny_pure (wpAny_bind (wpAny_bind (wpAny_onRaise ?_)))));show wpAny _ _ (Builtin.SmallTypes.nextOf (.ref i2) >>=λ_=>_) _ _ _;have t2':S2 k g3:=D2.frame _ _ _ t2 λc hc o e=>k3.extBut _ _ (λq=>D.b5 (q▸hc)) (k2.extBut _ _ (λq=>D.b6 (q▸hc)) (k1.extBut _ _ (λq=>D.b3 (q▸hc)) e));refine wpAny_bind (D2.done _ _ _ t2' λg4 e k4 he=> ?_);obtain⟨oe,ge,ce⟩:=he;have zg4:IsZip g4 z TI TO .ellipsis:=k4 _ _ D.a4.symm (k3.extBut _ _ D.a2.symm (k2.extBut _ _ D.a3.symm zg1));have ne:e≠z:=λq=>by subst q;rw[zg4] at ge;cases ge;simp at ce
  exact wpAny_setField_rec zg4 (by simp) λg5 _ k5=>hE g5 _ e (λc o c1 c2 c3 c4 q=>k5.extBut _ _ c1 (k4 _ _ c4 (k3.extBut _ _ c2 (k2.extBut _ _ c3 (k1.extBut _ _ c1 q))))) ⟨oe,k5.extBut _ _ ne ge,ce⟩
end
end PySem
namespace PySem
open Builtin
section
variable{prog:Program}{w:World}{A:Around}{E:Value->Shared->Prop}{s:Shared}{z TI TO i1 i2:Addr}{f1 f2:List Addr}{n1 n2:Nat}{P1 P2:Nat->Value->Prop}{S1 S2:Nat->Heap->Prop}
theorem pyNext_zip_itemD{k:Nat}{a b:Value}{Q:Option Value->Shared->Prop}(D:ZAp z TI TO i1 i2 f1 f2)(D1:Draws prog w A.in1 i1 f1 n1 P1 S1)(D2:Draws prog w A.in1 i2 f2 n2 P2 S2)(hZ:IsZip s.heap z TI TO .none)(pI:IsPair s.heap TI (.ref i1) (.ref i2))(pO:IsPair s.heap TO a b)(t1:S1 k s.heap)(t2:S2 k s.heap)(l1:k<n1)(l2:k<n2)(hQ:∀h' tk x y,P1 k x->P2 k y->IsZip h' z TI TO (rawInt s.heap.objs.size)->IsPair h' TO x y->S1 (k+1) h'->S2 (k+1) h'->IsPair h' s.heap.objs.size x y->
   (∀c o,c≠z->c≠TO->c≠i1->c≠i2->s.heap.get? c=some o->h'.get? c=some o)->Q (some (.ref s.heap.objs.size)) {s with heap:=h',toks:=tk}):
  wpAny (model prog w) A (pyNext (.ref z)) Q E s:=by
 have tz:s.TypeIs (.ref z) "zip":=⟨_,hZ,rfl⟩
 unfold pyNext;exact wpAny_bind (wpAny_attempt (wpAny_callSpecial?_slot (name:=Str.ofString "__next__") tz F.slot_zip_next (wpAny_call_entry F.slot_zip_next tz F.entry_zip_next
   (zip_itemD D D1 D2 hZ pI pO t1 t2 l1 l2 λh' tk x y a1 a2 a3 a4 a5 a6 a7 a8=>wpAny_pure (hQ h' tk x y a1 a2 a3 a4 a5 a6 a7 a8)) (F.args_zip_next_1 _))))
theorem pyNext_zip_endD{k:Nat}{a b:Value}{Q:Option Value->Shared->Prop}(D:ZAp z TI TO i1 i2 f1 f2)(D1:Draws prog w A.in1 i1 f1 n1 P1 S1)(D2:Draws prog w A.in1 i2 f2 n2 P2 S2)(hZ:IsZip s.heap z TI TO .none)(pI:IsPair s.heap TI (.ref i1) (.ref i2))(pO:IsPair s.heap TO a b)(t1:S1 k s.heap)(t2:S2 k s.heap)(hend:k=n1\/(k<n1/\k=n2))(hQ:∀h' tk,(∀c o,c≠z->c≠TO->c≠i1->c≠i2->s.heap.get? c=some o->h'.get? c=some o)->Q none {s with heap:=h',toks:=tk}):
  wpAny (model prog w) A (pyNext (.ref z)) Q E s:=by
 have tz:s.TypeIs (.ref z) "zip":=⟨_,hZ,rfl⟩
 unfold pyNext;refine wpAny_bind (wpAny_attempt (wpAny_callSpecial?_slot (name:=Str.ofString "__next__") tz F.slot_zip_next (wpAny_call_entry F.slot_zip_next tz F.entry_zip_next (zip_endD D D1 D2 hZ pI pO t1 t2 hend λh' tk e hk he=> ?_) (F.args_zip_next_1 _))));obtain⟨o,ho,hc⟩:=he;exact wpAny_bind (wpAny_isInstance (T:="StopIteration") (b:=true) ⟨o,ho,hc⟩ isSubtype_stop (wpAny_pure (hQ _ _ hk)))
end
abbrev zT1(h:Heap)(a:Addr):Heap:=h.push {cls:= .type "tuple_iterator",data:= .fields #[.ref a,.int 0 0]}
abbrev zT2(h:Heap)(a b:Addr):Heap:=(zT1 h a).push {cls:= .type "tuple_iterator",data:= .fields #[.ref b,.int 0 0]}
abbrev zT3(h:Heap)(a b:Addr):Heap:=(zT2 h a b).push {cls:= .type "tuple",data:= .seq #[.ref h.objs.size,.ref (zT1 h a).objs.size]}
abbrev zT4(h:Heap)(a b:Addr):Heap:=(zT3 h a b).push {cls:= .type "tuple",data:= .seq #[.none,.none]}
abbrev zT5(h:Heap)(a b:Addr):Heap:=(zT4 h a b).push {cls:= .type "zip",data:= .fields #[.none,.bool false,.bool false,.ref (zT2 h a b).objs.size,.ref (zT3 h a b).objs.size]}
theorem meets_zip_tt(a b:Addr)(xs ys:Array Value):
  Meets (Builtin.«zip.__new__» ⟨[.type "zip",.ref a,.ref b],[]⟩) (λ_ R s=>s.heap.IsTuple a xs/\s.heap.IsTuple b ys/\R (.ok (.ret (.ref (zT4 s.heap a b).objs.size))) {s with heap:=zT5 s.heap a b}):=
 .of_wp λprog w A R s h=>by
  obtain⟨hp,g,d,tk,os⟩:=s;obtain⟨ta,tb,h⟩:=h;have hsub:=sub_zip;have q1:Heap.IsTuple (Shared.heap ⟨hp,g,d,tk,os⟩) a xs:=ta;have q2:Heap.IsTuple (Shared.heap ⟨hp.push {cls:= .type "tuple_iterator",data:= .fields #[.ref a,.int 0 0]},g,d,tk,os⟩) b ys:=let ⟨o,ho,r⟩:=tb;⟨o,Heap.get?_push_of_some _ ho,r⟩
  wp_walk using wpAny_pyIter_tuple q1,wpAny_pyIter_tuple q2
  exact⟨_,rfl,h⟩
section
variable{prog:Program}{w:World}{A:Around}{E:Value->Shared->Prop}{s:Shared}
theorem call_zip_tt{a b:Addr}{xs ys:Array Value}{Q:Value->Shared->Prop}(ta:s.heap.IsTuple a xs)(tb:s.heap.IsTuple b ys)(h:∀h',IsZip h' (s.heap.objs.size+4) (s.heap.objs.size+2) (s.heap.objs.size+3) .none->IsPair h' (s.heap.objs.size+2) (.ref s.heap.objs.size) (.ref (s.heap.objs.size+1))->IsPair h' (s.heap.objs.size+3) .none .none->
   h'.IsTupleIter s.heap.objs.size a 0->h'.IsTupleIter (s.heap.objs.size+1) b 0->(∀c o,s.heap.get? c=some o->h'.get? c=some o)->Q (.ref (s.heap.objs.size+4)) {s with heap:=h'}):
  wpAny (model prog w) A (call (.type "zip") [.ref a,.ref b]) Q E s:=by
 refine callType_new F.called_zip (by decide) (F.typeCall_zip_2 _ _) (F.newCall_zip_2 _ _) (λobj=>F.args_object_init_3 obj _ _) F.entry_zip_new (meets_zip_tt a b xs ys) ⟨ta,tb,?_⟩;have y1:(zT1 s.heap a).objs.size=s.heap.objs.size+1:=Heap.size_push ..;have y2:(zT2 s.heap a b).objs.size=s.heap.objs.size+2:=by rw[Heap.size_push,y1]
 have y3:(zT3 s.heap a b).objs.size=s.heap.objs.size+3:=by rw[Heap.size_push,y2]
 have y4:(zT4 s.heap a b).objs.size=s.heap.objs.size+4:=by rw[Heap.size_push,y3]
 have e5:(zT5 s.heap a b).get? (zT4 s.heap a b).objs.size=some _:=Heap.get?_push_size _ rfl;have e4:(zT5 s.heap a b).get? (zT3 s.heap a b).objs.size=some _:=Heap.get?_push_of_some _ (Heap.get?_push_size _ rfl);have e3:(zT5 s.heap a b).get? (zT2 s.heap a b).objs.size=some _:=Heap.get?_push_of_some _ (Heap.get?_push_of_some _ (Heap.get?_push_size _ rfl));have e2:(zT5 s.heap a b).get? (zT1 s.heap a).objs.size=some _:=Heap.get?_push_of_some _ (Heap.get?_push_of_some _ (Heap.get?_push_of_some _ (Heap.get?_push_size _ rfl)));have e1:(zT5 s.heap a b).get? s.heap.objs.size=some _:=Heap.get?_push_of_some _ (Heap.get?_push_of_some _ (Heap.get?_push_of_some _ (Heap.get?_push_of_some _ (Heap.get?_push_size _ rfl))));show _/\_;rw[y2,y3,y4] at e5;rw[y1,y2] at e3;rw[y3] at e4;rw[y1] at e2;rw[y4];refine⟨⟨_,e5,rfl⟩,h _ e5 e3 e4 ⟨_,e1,rfl,rfl⟩ ⟨_,e2,rfl,rfl⟩ λc o e=> ?_⟩;exact Heap.get?_push_of_some _ (Heap.get?_push_of_some _ (Heap.get?_push_of_some _ (Heap.get?_push_of_some _ (Heap.get?_push_of_some _ e))))
end
end PySem
namespace L2
open PySem PySem.Spec PyProof.Rows
def Itz(K:PySem.W.Frag)(a b:Addr):It:=
 ⟨λi H=>∃xs ys x y,SqT K H a xs/\SqT K H b ys/\xs[i]? =some x/\ys[i]? =some y,λi H v H'=>∃T x y,H T=none/\v= .ref T/\H'=upd H T (.tup [x,y])/\(∀xs,SqT K H a xs->xs[i]? =some x)/\∀ys,SqT K H b ys->ys[i]? =some y,
  λi H=>∃xs ys,SqT K H a xs/\SqT K H b ys/\(i=xs.length\/(i<xs.length/\i=ys.length))⟩
theorem zap_of{z TI TO i1 i2 a b:Addr}(nd:[z,TI,TO,i1,i2].Nodup)(na:a ∉ [z,TI,TO,i1,i2])(nb:b ∉ [z,TI,TO,i1,i2]):ZAp z TI TO i1 i2 [i1,a] [i2,b]:=by
 simp only[List.nodup_cons,List.mem_cons,List.mem_nil_iff,or_false,not_or,List.nodup_nil,and_true,not_false_eq_true] at nd na nb;obtain⟨⟨q1,q2,q3,q4⟩,⟨q5,q6,q7⟩,⟨q8,q9⟩,q10⟩:=nd;obtain⟨r1,r2,r3,r4,r5⟩:=na;obtain⟨s1,s2,s3,s4,s5⟩:=nb;constructor<;> first|exact Ne.symm ‹_›|assumption|(simp only[List.mem_cons,List.mem_nil_iff,or_false,not_or];constructor<;> first|assumption|exact Ne.symm ‹_›)
theorem turn_zip{P:Program}{w:World}{K:PySem.W.Frag}{elts:List Expr}{x1}{pos:Pos}(a b z TI TO i1 i2:Addr)(nd:[z,TI,TO,i1,i2].Nodup)(na:a ∉ [z,TI,TO,i1,i2])(nb:b ∉ [z,TI,TO,i1,i2]):Turn P w K (.Tuple elts x1 pos) (Itz K a b) [z,TI,TO,i1,i2] z
  (λi h=>IsZip h z TI TO .none/\IsPair h TI (.ref i1) (.ref i2)/\(∃u v,IsPair h TO u v)/\h.IsTupleIter i1 a i/\h.IsTupleIter i2 b i) where
 mem:=by simp
 obj:=λi h st c hc=>by
  obtain⟨h1,h2,⟨u,v,h3⟩,⟨o4,g4,_,d4⟩,⟨o5,g5,_,d5⟩⟩:=st;simp only[List.mem_cons,List.mem_nil_iff,or_false] at hc;rcases hc with rfl|rfl|rfl|rfl|rfl
  ·exact⟨_,h1,λv q=>by cases q⟩
  ·exact⟨_,h2,λv q=>by cases q⟩
  ·exact⟨_,h3,λv q=>by cases q⟩
  ·exact⟨_,g4,λv q=>by rw[d4] at q;cases q⟩
  ·exact⟨_,g5,λv q=>by rw[d5] at q;cases q⟩
 keep:=λi h h' st k=>by
  obtain⟨h1,h2,⟨u,v,h3⟩,h4,h5⟩:=st;exact⟨k z (by simp) _ h1,k TI (by simp) _ h2,⟨u,v,k TO (by simp) _ h3⟩,h4.at λo q=>k i1 (by simp) o q,h5.at λo q=>k i2 (by simp) o q⟩
 item:=by
  intro X hP hw hK hc i pins s σ H E I hf st hg;subst hP hw hK;obtain⟨hZ,pI,⟨u,v,pO⟩,t1,t2⟩:=st;obtain⟨xs,ys,x,y,ha,hb,hx,hy⟩:=hg;obtain⟨its,rv,p1,_⟩:=I.tuple ha;obtain⟨jts,rw',p2,_⟩:=I.tuple hb;obtain⟨ux,hux,rx⟩:=rv.get hx;obtain⟨uy,huy,ry⟩:=rw'.get hy;have AP:=zap_of nd na nb;have fresh:H s.heap.objs.size=none:=I.hok.fresh (Nat.le_refl _);have ltz:∀c∈[z,TI,TO,i1,i2],c≠s.heap.objs.size:=by
   intro c hc;obtain⟨o4,g4,_⟩:=id t1;obtain⟨o5,g5,_⟩:=id t2;simp only[List.mem_cons,List.mem_nil_iff,or_false] at hc;rcases hc with rfl|rfl|rfl|rfl|rfl
   ·exact Nat.ne_of_lt (Heap.lt_size hZ)
   ·exact Nat.ne_of_lt (Heap.lt_size pI)
   ·exact Nat.ne_of_lt (Heap.lt_size pO)
   ·exact Nat.ne_of_lt (Heap.lt_size g4)
   ·exact Nat.ne_of_lt (Heap.lt_size g5)
  refine pyNext_zip_itemD AP (Draws.tup (A:=X.A.in1) (I.ok.hd hc) i1 a (λq=>na (by simp[q])) its.toArray) (Draws.tup (A:=X.A.in1) (I.ok.hd hc) i2 b (λq=>nb (by simp[q])) jts.toArray) hZ pI pO ⟨t1,p1⟩ ⟨t2,p2⟩
   (by have:=(List.getElem?_eq_some_iff.mp hux).1;simpa using this) (by have:=(List.getElem?_eq_some_iff.mp huy).1;simpa using this) λh' tk xv yv px py z' pO' s1' s2' pT kk=>⟨_,rfl,?_⟩
  have ex:ux=xv:=Option.some.inj (hux.symm.trans (by simpa using px));have ey:uy=yv:=Option.some.inj (huy.symm.trans (by simpa using py));subst ex ey;refine wpAny_letOwnedTupleGo_zip (s:={s with heap:=h',toks:=tk}) z' λh2 z2 sb=> ?_;have I1:Inv X pins σ (upd H s.heap.objs.size (.tup [x,y])) {s with heap:=s.heap.push {cls:= .type "tuple",data:= .seq #[ux,uy]},toks:=s.toks}:=
   I.laid (o:= .tup [x,y]) (λb ob q=>Heap.get?_push_of_some _ q) (Nat.le_refl _) ⟨by rw[sizeLine_eq];simp,[ux,uy],.cons rx (.cons ry .nil),IsTupN.new _ _⟩
  have I2:=I1.turnedL (h':=h2) (t':=tk) [z,TI,TO,i1,i2] (λc o hc' q=> ?_) (λc hc'=>(hf c hc').up (ltz c hc'))
  ·refine⟨.ref s.heap.objs.size,_,I2,rfl,⟨_,x,y,fresh,rfl,rfl,λys' hy'=>by rw[I.tuple_inj hy' ha];exact hx,λys' hy'=>by rw[I.tuple_inj hy' hb];exact hy⟩,
    ⟨z2,(sb.2 TI AP.a1).trans (kk _ _ AP.a1 AP.a5 AP.a6 AP.a7 pI),⟨_,_,(sb.2 TO AP.a2).trans pO'⟩,s1'.1.at λo q=>(sb.2 i1 AP.a3).trans q,s2'.1.at λo q=>(sb.2 i2 AP.a4).trans q⟩,λc hc'=> ?_⟩
   rw[Aj (ltz c hc')];exact(hf c hc').1
  ·have c1:c≠z:=λq=>hc' (by simp[q]);have c2:c≠TO:=λq=>hc' (by simp[q]);have c3:c≠i1:=λq=>hc' (by simp[q]);have c4:c≠i2:=λq=>hc' (by simp[q]);refine(sb.2 c c1).trans ?_;by_cases hcs:c=s.heap.objs.size
   ·subst hcs;rw[Heap.get?_push_size _ rfl] at q;cases q;exact pT
   ·rw[Heap.get?_push_ne _ _ _ hcs] at q;exact kk c o c1 c2 c3 c4 q
 done:=by
  intro X hP hw hK hc i pins s σ H E I hf st hg;subst hP hw hK;obtain⟨hZ,pI,⟨u,v,pO⟩,t1,t2⟩:=st;obtain⟨xs,ys,ha,hb,hend⟩:=hg;obtain⟨its,rv,p1,_⟩:=I.tuple ha;obtain⟨jts,rw',p2,_⟩:=I.tuple hb;have AP:=zap_of nd na nb;have l1:=rv.length;have l2:=rw'.length;refine pyNext_zip_endD AP (Draws.tup (A:=X.A.in1) (I.ok.hd hc) i1 a (λq=>na (by simp[q])) its.toArray) (Draws.tup (A:=X.A.in1) (I.ok.hd hc) i2 b (λq=>nb (by simp[q])) jts.toArray) hZ pI pO ⟨t1,p1⟩ ⟨t2,p2⟩
   (by simp only[List.size_toArray];omega) λh' tk kk=>⟨rfl,I.turnedL (t':=tk) [z,TI,TO,i1,i2] (λc o hc' q=> ?_) hf⟩
  exact kk c o (λq=>hc' (by simp[q])) (λq=>hc' (by simp[q])) (λq=>hc' (by simp[q])) (λq=>hc' (by simp[q])) q
 self:=λA i s Q E st h=>wpAny_pyIter_zip st.1 h
def iZip(K:PySem.W.Frag)(ta:TA):TI:=λσ H R=>ta σ H λvs H1=>∃a b xs ys,vs=[.ref a,.ref b]/\SqT K H1 a xs/\SqT K H1 b ys/\R (Itz K a b) H1
theorem pi_zip{X:Cx}{elts:List Expr}{x1}{tpos:Pos}{e1 e2:Expr}{ta:TA}{p pos:Pos}(hg:Gl X "zip")(hm:X.mg "zip"=none)(ha:PA X [e1,e2] ta)(hs:starEach [e1,e2] X.env=[(false,eval e1 X.env),(false,eval e2 X.env)]:=by rfl)(hs2:starEach [e2] X.env=[(false,eval e2 X.env)]:=by rfl):
  PI X (.Tuple elts x1 tpos) (.Call (.Name "zip" p) [e1,e2] [] pos) (iZip X.K ta):=by
 intro pins s σ H R I h;refine Call_ (ld_blt I hg hm (show bootBuiltins "zip"=some (.type "zip") by decide+kernel) (PyProof.Rows.callWith_type1 (thn (ha pos pins s σ H _ I h) λus s1 ⟨vs,H1,I1,r1,q1⟩=> ?_) (by rw[hs,hs2]) (by rw[hs2];rfl)));obtain⟨a,b,xs,ys,e,hqa,hqb,q⟩:=q1;subst e;cases r1 with
 |cons r rr=>
  cases rr with
  |cons r' rr=>
   cases rr;cases r;cases r';obtain⟨its,rv,p1,_⟩:=I1.tuple hqa;obtain⟨jts,rw',p2,_⟩:=I1.tuple hqb;refine call_zip_tt p1 p2 λh' hZ pI pO t1 t2 kk=>wpAny_pyIter_zip hZ ?_;obtain⟨oa,ga,_⟩:=id p1;obtain⟨ob,gb,_⟩:=id p2;have la:=Heap.lt_size ga;have lb:=Heap.lt_size gb;have big:∀c∈[s1.heap.objs.size+4,s1.heap.objs.size+2,s1.heap.objs.size+3,s1.heap.objs.size,s1.heap.objs.size+1],s1.heap.objs.size<=c:=by
    intro c hc;simp only[List.mem_cons,List.mem_nil_iff,or_false] at hc;rcases hc with rfl|rfl|rfl|rfl|rfl<;> first|exact Nat.le_add_right _ _|exact Nat.le_refl _
   refine⟨s1.heap.objs.size+4,[s1.heap.objs.size+4,s1.heap.objs.size+2,s1.heap.objs.size+3,s1.heap.objs.size,s1.heap.objs.size+1],_,_,H1,rfl,I1.kept (t':=s1.toks) kk,
    turn_zip a b _ _ _ _ _ ?_ (λq=>Nat.lt_irrefl _ (Nat.lt_of_lt_of_le la (big _ q))) (λq=>Nat.lt_irrefl _ (Nat.lt_of_lt_of_le lb (big _ q))),⟨hZ,pI,⟨_,_,pO⟩,t1,t2⟩,λc hc=>I1.fpOk (big c hc) (I1.hok.fresh (big c hc)),q⟩
   generalize s1.heap.objs.size=n;show List.Nodup ([n+4,n+2,n+3,n,n+1]:List Nat);simp
section
variable{g:TG}{ti:TT}{te:TE}{Q:VK}{D:Addr}{σ:St}{H:Hp}
theorem comp_zip{K:PySem.W.Frag}{a b:Addr}{xs ys:List V}(Pv:Nat->St->List V->Hp->Prop)(h0:Pv 0 σ [] (upd H D (.lst [])))(hl:∀i σ zs H,i<=xs.length->i<=ys.length->Pv i σ zs H->SqT K H a xs/\SqT K H b ys/\H D=some (.lst zs))(hs:∀i x y σ zs H T,xs[i]? =some x->ys[i]? =some y->Pv i σ zs H->H T=none->cturn g ti te D (.ref T) σ zs (upd H T (.tup [x,y])) (Pv (i+1)))(hd:∀i σ zs H,i=min xs.length ys.length->Pv i σ zs H->Q (.ref D) H):
  cgo (Itz K a b) g ti te D σ H Q:=by
 refine⟨λi m σ zs H=>m=xs.length - i/\i<=xs.length/\i<=ys.length/\Pv i σ zs H,⟨xs.length,by simp,Nat.zero_le _,Nat.zero_le _,h0⟩,?_⟩;rintro i m σ zs H ⟨rfl,hi,hj,p⟩;obtain⟨q1,q2,hD⟩:=hl i σ zs H hi hj p;refine⟨hD,?_⟩;by_cases hlt:i<xs.length/\i<ys.length
 ·refine .inr ⟨⟨xs,ys,xs[i],ys[i],q1,q2,by simp[hlt.1],by simp[hlt.2]⟩,Pv (i+1),λσ' ys' H' p'=>⟨xs.length - (i+1),by omega,rfl,hlt.1,hlt.2,p'⟩,λx H' y=> ?_⟩;obtain⟨T,x,y,hT,rfl,rfl,y1,y2⟩:=y;exact hs i x y σ zs H T (y1 xs q1) (y2 ys q2) p hT
 ·exact .inl ⟨⟨xs,ys,q1,q2,by omega⟩,hd i σ zs H (by omega) p⟩
end
end L2
namespace HT
open PySem PyProof.Rows
section
variable{prog:Program}{w:World}{A:Around}{E:Value->Shared->Prop}{s:Shared}
theorem getItem_tuple_self{t sl:Addr}{items:Array Value}{vl vu:Value}{lo hi:Option Int}{Q:Value->Shared->Prop}(ht:IsTup s.heap t items)(hs:s.heap.IsSliceOf sl vl vu .none)(pl:IsPart vl lo)(pu:IsPart vu hi)(hw:sIx items.size 0 lo=0/\sIx items.size items.size hi=items.size)(h:Q (.ref t) s):wpAny (model prog w) A (getItem (.ref t) (.ref sl)) Q E s:=by
 obtain⟨os,hos,hcs,hds⟩:=id hs;have tsl:s.TypeIs (.ref sl) "slice":=⟨os,hos,hcs⟩
 unfold getItem
 try with_reducible refine wpAny_holding ?_
 first|refine wpAny_bind (wpAny_pure ?_)|skip
 refine wpAny_bind (wpAny_sequenceKey ht.typeIs (by decide) (wpAny_bind (wpAny_callSpecial?_slot (name:=Str.ofString "__getitem__") ht.typeIs PyProof.Rows.slot_tuple_getitem (wpAny_call_entry PyProof.Rows.slot_tuple_getitem ht.typeIs entry_tuple_getitem ?_ (args_tuple_getitem _ _)))));show wpAny _ _ (Builtin.Tuple.tupleItemsOf (.ref t) >>=λ_=>_) _ _ s;refine wpAny_bind (tupleItemsOf_ ht (wpAny_bind (wpAny_typeOf tsl ?_)));rw[if_pos (by decide)];refine wpAny_bind (sliceApplied_gen hs pl pu ?_);have yes:(((sIx items.size 0 lo:Nat):Int)==0 && (1:Int)==1 && (sIx items.size items.size hi - sIx items.size 0 lo)==items.size)=true:=by rw[hw.1,hw.2];simp
 show wpAny _ _ (ite ((((sIx items.size 0 lo:Nat):Int)==0 && (1:Int)==1 && (sIx items.size items.size hi - sIx items.size 0 lo)==items.size)=true) _ _) _ _ s;rw[if_pos yes];refine wpAny_bind (m:=Builtin.Tuple.tupleIsExact (.ref t)) ?_;unfold Builtin.Tuple.tupleIsExact;refine wpAny_bind (wpAny_typeOf ht.typeIs (wpAny_pure ?_));rw[if_pos (by decide)];exact wpAny_bind (wpAny_rule (wpAny_pure ⟨_,rfl,wpAny_pure h⟩))
end
end HT
namespace L2
open PySem PySem.Spec PyProof.Rows
section
variable{X:Cx}
inductive RSlTAP(K:PySem.W.Frag)(x:V)(lo:Option Int)(hi:Option Int)(H:Hp)(Q:VK):Prop
 |mk (a xs:_):(x= .ref a)->(SqT K H a xs)->(((HT.sIx xs.length 0 lo=0/\HT.sIx xs.length xs.length hi=xs.length)->Q (.ref a) H))->((¬(HT.sIx xs.length 0 lo=0/\HT.sIx xs.length xs.length hi=xs.length)->∀p,H p=none->Q (.ref p) (upd H p (.tup (Dy xs lo hi)))))->RSlTAP K x lo hi H Q
def rSlTA(K:PySem.W.Frag):V->Option Int->Option Int->Hp->VK->Prop:=λx lo hi H Q=>RSlTAP K x lo hi H Q
theorem sl_tupA:SlR X (rSlTA X.K):=by
 intro pins s σ H x v vl vu lo hi sl Q I rx hs pl pu h;obtain⟨a,xs,rfl,hx,q1,q2⟩:=h;by_cases hw:HT.sIx xs.length 0 lo=0/\HT.sIx xs.length xs.length hi=xs.length
 ·cases rx;obtain⟨its,r,ht,hz⟩:=I.tuple hx;have hlen:its.toArray.size=xs.length:=by rw[List.size_toArray];exact r.length.symm
  exact⟨"tuple",_,PyProof.Rows.slot_tuple_getitem.lookup,ht.typeIs,HT.getItem_tuple_self ht hs pl pu (by rw[hlen];exact hw) ⟨.ref a,H,I,rfl,q1 hw⟩⟩
 ·exact sl_tup pins s σ H _ v vl vu lo hi sl Q I rx hs pl pu ⟨a,xs,rfl,hx,hw,q2 hw⟩
theorem op_isnotB:OpR X (compareOp .IsNot) (λx y H Q=>∃c d,x= .bl c/\y= .bl d/\Q (.bl (c !=d)) H):=by
 intro pins s σ H x y v u Q I rx ry h;obtain⟨c,d,rfl,rfl,q⟩:=h;cases rx;cases ry;exact isnot_bool ⟨.bl _,H,I,rfl,q⟩
end
theorem op_eqNil{X:Cx}(hu:X.A.units+64<cLine):OpR X (compareOp .Eq) (λx y H Q=>∃(a b:Addr) (xs:List V),x= .ref a/\y= .ref b/\SqL X.K H a xs/\SqL X.K H b []/\Q (.bl xs.isEmpty) H):=by
 intro pins s σ H x y u v Q I rx ry h;obtain⟨a,b,xs,rfl,rfl,ha,hb,q⟩:=h;cases rx;cases ry;cases xs with
 |nil=>
  obtain⟨as,r1⟩:=Rep.reads (u:= .ref a) I (Rep.lst ha .nil) rfl;obtain⟨bs,r2⟩:=Rep.reads (u:= .ref b) I (Rep.lst hb .nil) rfl;exact SeqAt.compareEq_reads r1 r2 rfl rfl (by simp only[PyData.depth,PyData.depthAll];omega) ⟨.bl _,H,I,rfl,q⟩
 |cons x xs=>
  obtain⟨its,r1,h1,_⟩:=I.list ha;obtain⟨its2,r2,h2,_⟩:=I.list hb;have l1:=r1.length;have l2:=r2.length;refine SeqAt.eq_list_lengthsAt h1.isList h2.isList (by simp at l1 l2 ⊢;omega) (by omega) ⟨.bl _,H,I,rfl,q⟩
theorem pe_gint{X:Cx}{x:Str}{i:Int}{t:Tok}{pos:Pos}(hg:Gl X x)(hm:X.mg x=some (.int i t))(hd:(x==("__debug__":Str))=false:=by decide):PE X (.Name x pos) (tC (.int i)):=λpins s σ H Q I h=>ld_glob I hg hm ⟨.int i,H,I,⟨t,rfl⟩,h⟩ hd
theorem Ad{H:Hp}{p:Addr}{o:HO}(h:H p=none):Same H (upd H p o):=λb u e=>by rw[Aj (An e h)];exact e
theorem same_refl(H:Hp):Same H H:=λ_ _ e=>e
theorem small{n:Nat}(h:n<=10000):n<=sizeLine:=by rw[sizeLine_eq];exact Nat.le_trans (by assumption) (by decide)
theorem none_of{H H':Hp}{a:Addr}(s:Same H H')(h:H' a=none):H a=none:=by
 cases e:H a with
 |none=>rfl
 |some o=>rw[s _ _ e] at h;cases h
theorem pg_tupK{X:Cx}{es:List Expr}{k:Nat}{t:TGs}{pos:Pos}(K:PySem.W.Frag)(n:Nat)(hK:X.K=K)(hc:X.calm=true)(h:PGs X es t)(hn:(assignEach es X.env).length=n:=by rfl)(hst:(assignEach es X.env).findIdx? (·.1)=none:=by rfl):PG X (.Tuple es k pos) (gTup K n t):=by
 subst hK;exact Co hc h hn hst
end L2
namespace PySem
open Builtin
end PySem
namespace PySem
open Builtin
end PySem
namespace L2
open PySem PySem.Spec PyProof.Rows
section
variable{X:Cx}
theorem call_range1:Dw X (.type "range") (λxs H Q=>∃j:Int,xs=[.int j]/\∀l,H l=none->Q (.ref l) (upd H l (.rng 0 j))):=by
 intro pins s σ H xs us Q I r h;obtain⟨j,rfl,q⟩:=h;obtain⟨u,rfl,⟨t,rfl⟩⟩:=Dz r;exact call_range_1 ⟨.ref s.heap.objs.size,_,I.laid (o:= .rng 0 j) (λ_ _ q=>Heap.get?_push_of_some _ q) (Nat.le_refl _) ⟨_,_,_,Heap.get?_push_size _ rfl⟩,rfl,q _ I.fresh⟩
end
end L2
namespace PySem
open Builtin
end PySem
namespace L2
open PySem PySem.Spec PyProof.Rows
def IteT(K:PySem.W.Frag)(a:Addr):It:=
 ⟨λi H=>∃xs x,SqT K H a xs/\xs[i]? =some x,λi H v H'=>∃T x,H T=none/\v= .ref T/\H'=upd H T (.tup [.int i,x])/\∀xs,SqT K H a xs->xs[i]? =some x,λi H=>∃xs,SqT K H a xs/\i=xs.length⟩
theorem turn_enumT{P:Program}{w:World}{K:PySem.W.Frag}{elts:List Expr}{x1}{pos:Pos}(a e it:Addr)(hei:e≠it)(hae:a≠e)(hai:a≠it):Turn P w K (.Tuple elts x1 pos) (IteT K a) [e,it] e (λi h=>(∃old,IsEnum h e it i old)/\h.IsTupleIter it a i) where
 mem:=by simp
 obj:=λi h st b hb=>by
  obtain⟨⟨old,he⟩,o,ho,hc,hd⟩:=st;rcases List.mem_cons.mp hb with rfl|hb
  ·exact⟨_,he,λv z=>by cases z⟩
  ·have:b=it:=by simpa using hb
   subst this;exact⟨o,ho,λv z=>by rw[hd] at z;cases z⟩
 keep:=λi h h' st k=>⟨let ⟨old,he⟩:=st.1;⟨old,k e (by simp) _ he⟩,st.2.at λo q=>k it (by simp) o q⟩
 item:=by
  intro X hP hw hK hc i pins s σ H E I hf st hg;subst hP hw hK;obtain⟨⟨old,he⟩,hit⟩:=st;obtain⟨xs,x,hq,hx⟩:=hg;obtain⟨its,rv,p,hz⟩:=I.tuple hq;obtain⟨u,hu,ru⟩:=rv.get hx;have fresh:H s.heap.objs.size=none:=I.hok.fresh (Nat.le_refl _);have elt:e<s.heap.objs.size:=Heap.lt_size he;have ilt:it<s.heap.objs.size:=by obtain⟨_,q,_⟩:=hit;exact Heap.lt_size q
  have hil:i<its.toArray.size:=by have:=(List.getElem?_eq_some_iff.mp hu).1;simpa using this
  refine wpAny_pyNext_enum_itemD (Draws.tup (A:=X.A.in1) (I.ok.hd hc) it a hai its.toArray) he ⟨hit,p⟩ hil hei (by simp only[List.mem_cons,List.mem_nil_iff,or_false,not_or];exact⟨hei,hae.symm⟩) λuv h' tk pu eo it' hT hsz kk=>⟨_,rfl,?_⟩
  have eu:u=uv:=Option.some.inj (hu.symm.trans (by simpa using pu));subst eu;refine wpAny_letOwnedTupleGo_enum (s:={s with heap:=h',toks:=tk+1}) eo λh2 e2 sb=> ?_;have I1:Inv X pins σ (upd H s.heap.objs.size (.tup [.int i,x])) {s with heap:=s.heap.push {cls:= .type "tuple",data:= .seq #[.int i tk,u]},toks:=s.toks}:=
   I.laid (o:= .tup [.int i,x]) (λb ob q=>Heap.get?_push_of_some _ q) (Nat.le_refl _) ⟨by rw[sizeLine_eq];simp,[.int i tk,u],.cons ⟨_,rfl⟩ (.cons ru .nil),IsTupN.new _ _⟩
  have I2:=I1.turnedL (h':=h2) (t':=tk+1) [e,it] (λb o hb q=> ?_) (λb hb=> ?_)
  ·refine⟨.ref s.heap.objs.size,_,I2,rfl,⟨_,x,fresh,rfl,rfl,λys hy=>by rw[I.tuple_inj hy hq];exact hx⟩,⟨⟨_,by simpa using e2⟩,it'.1.at λo q=>(sb.2 it hei.symm).trans q⟩,λb hb=> ?_⟩;rcases List.mem_cons.mp hb with rfl|hb
   ·rw[Aj (Nat.ne_of_lt elt)];exact(hf _ (by simp)).1
   ·have:b=it:=by simpa using hb
    subst this;rw[Aj (Nat.ne_of_lt ilt)];exact(hf _ (by simp)).1
  ·have b1:b≠e:=λz=>hb (by simp[z]);have b2:b≠it:=λz=>hb (by simp[z]);refine(sb.2 b b1).trans ?_;by_cases hbs:b=s.heap.objs.size
   ·subst hbs;rw[Heap.get?_push_size _ rfl] at q;cases q;exact hT
   ·rw[Heap.get?_push_ne _ _ _ hbs] at q;exact kk b o b1 b2 q
  ·rcases List.mem_cons.mp hb with rfl|hb
   ·exact(hf _ (by simp)).up (Nat.ne_of_lt elt)
   ·have:b=it:=by simpa using hb
    subst this;exact(hf _ (by simp)).up (Nat.ne_of_lt ilt)
 done:=by
  intro X hP hw hK hc i pins s σ H E I hf st hg;subst hP hw hK;obtain⟨⟨old,he⟩,hit⟩:=st;obtain⟨xs,hq,hx⟩:=hg;obtain⟨its,rv,p,hz⟩:=I.tuple hq;have hl:=rv.length;have hn:i=its.toArray.size:=by simp;omega
  subst hn;exact wpAny_pyNext_enum_endD (Draws.tup (A:=X.A.in1) (I.ok.hd hc) it a hai its.toArray) he ⟨hit,p⟩ λh' eb=>⟨rfl,I.turnedL (t':=s.toks) [e,it] (λb o hb q=>eb b o (λz=>hb (by simp[z])) q) hf⟩
 self:=λA i s Q E st h=>let ⟨⟨old,he⟩,_⟩:=st;wpAny_pyIter_enum he h
end L2
namespace PySem
open Builtin
theorem meets_enumerate_newT(a:Addr)(items:Array Value)(n:Nat)(dd:Option Addr)(sl:Array (Option Value)):
  Meets (Builtin.«enumerate.__new__» ⟨[.type "enumerate",.ref a],[]⟩) (λ_ R s=>s.heap.get? a=some {cls:= .type "tuple",dict:=dd,data:= .seq items n,slots:=sl}/\
   R (.ok (.ret (.ref (s.heap.push {cls:= .type "tuple_iterator",data:= .fields #[.ref a,.int 0 0]}).objs.size)))
    {s with heap:=(s.heap.push {cls:= .type "tuple_iterator",data:= .fields #[.ref a,.int 0 0]}).push {cls:= .type "enumerate",data:= .fields #[.none,.bool false,.ref s.heap.objs.size,rawInt 0,.none,.none]}}):=
 .of_wp λprog w A R s h=>by
  obtain⟨hp,g,d,tk,os⟩:=s;obtain⟨ha,h⟩:=h;have hsub:=sub_enumerate;have tA:Heap.IsTuple (Shared.heap ⟨hp,g,d,tk,os⟩) a items:=⟨_,ha,rfl,n,rfl⟩
  wp_walk using AutoSeq1.wpAny_loadPart' ha
  refine wpAny_stack_any λst=>wpAny_pure ?_;split
  ·rename_i c _ _ _ _ _;cases (c==Value.type "enumerate")<;> (wp_walk using AutoSeq1.wpAny_loadPart' ha,wpAny_pyIter_tuple tA;exact⟨_,rfl,h⟩)
  ·wp_walk using AutoSeq1.wpAny_loadPart' ha,wpAny_pyIter_tuple tA
   exact⟨_,rfl,h⟩
theorem call_enumerate_tup{prog:Program}{w:World}{A:Around}{E:Value->Shared->Prop}{s:Shared}{a:Addr}{items:Array Value}{Q:Value->Shared->Prop}(tA:s.heap.IsTuple a items)(h:∀h',IsEnum h' (s.heap.objs.size+1) s.heap.objs.size 0 .none->h'.IsTupleIter s.heap.objs.size a 0->(∀b o,s.heap.get? b=some o->h'.get? b=some o)->Q (.ref (s.heap.objs.size+1)) {s with heap:=h'}):
  wpAny (model prog w) A (call (.type "enumerate") [.ref a]) Q E s:=by
 obtain⟨⟨c,dd,dt,sl⟩,ha,hc,n,hd⟩:=tA
 replace hc:c= .type "tuple":=hc
 replace hd:dt= .seq items n:=hd
 subst hc hd;refine callType_new F.called_enumerate (by decide) (F.typeCall_enumerate_1 _) (F.newCall_enumerate_1 _) (λobj=>F.args_object_init_2 obj _) F.entry_enumerate_new (meets_enumerate_newT a items n dd sl) ⟨ha,?_⟩;have y1:(s.heap.push {cls:= .type "tuple_iterator",data:= .fields #[.ref a,.int 0 0]}).objs.size=s.heap.objs.size+1:=Heap.size_push ..;have e1:((s.heap.push {cls:= .type "tuple_iterator",data:= .fields #[.ref a,.int 0 0]}).push {cls:= .type "enumerate",data:= .fields #[.none,.bool false,.ref s.heap.objs.size,rawInt 0,.none,.none]}).get? (s.heap.push {cls:= .type "tuple_iterator",data:= .fields #[.ref a,.int 0 0]}).objs.size=some _:=Heap.get?_push_size _ rfl;have e2:((s.heap.push {cls:= .type "tuple_iterator",data:= .fields #[.ref a,.int 0 0]}).push {cls:= .type "enumerate",data:= .fields #[.none,.bool false,.ref s.heap.objs.size,rawInt 0,.none,.none]}).get? s.heap.objs.size=some _:=Heap.get?_push_of_some _ (Heap.get?_push_size _ rfl);show _/\_;rw[y1] at e1 ⊢;exact⟨⟨_,e1,rfl⟩,h _ e1 ⟨_,e2,rfl,rfl⟩ λb o e=>Heap.get?_push_of_some _ (Heap.get?_push_of_some _ e)⟩
end PySem
namespace L2
open PySem PySem.Spec PyProof.Rows
def iEnumT(K:PySem.W.Frag)(ta:TA):TI:=λσ H R=>ta σ H λvs H1=>∃a xs,vs=[.ref a]/\SqT K H1 a xs/\R (IteT K a) H1
theorem pi_enumT{X:Cx}{elts:List Expr}{x1}{tpos:Pos}{a:Expr}{ta:TA}{p pos:Pos}(hg:Gl X "enumerate")(hm:X.mg "enumerate"=none)(ha:PA X [a] ta)(hs:starEach [a] X.env=[(false,eval a X.env)]:=by rfl):
  PI X (.Tuple elts x1 tpos) (.Call (.Name "enumerate" p) [a] [] pos) (iEnumT X.K ta):=by
 intro pins s σ H R I h;refine Call_ (ld_blt I hg hm (show bootBuiltins "enumerate"=some (.type "enumerate") by decide+kernel) (PyProof.Rows.callWith_type1 (thn (ha pos pins s σ H _ I h) λus s1 ⟨vs,H1,I1,r1,q1⟩=> ?_) hs rfl));obtain⟨l,xs,e,hq,q⟩:=q1;subst e;obtain⟨u,rfl,ru⟩:=Dz r1;cases ru;obtain⟨its,rv,pl,hz⟩:=I1.tuple hq;refine call_enumerate_tup pl λh' he hit kk=>wpAny_pyIter_enum he ?_;obtain⟨ol,gl,_⟩:=id pl;have ll:=Heap.lt_size gl;refine⟨s1.heap.objs.size+1,[s1.heap.objs.size+1,s1.heap.objs.size],_,_,H1,rfl,I1.kept (t':=s1.toks) kk,turn_enumT l _ _ (Nat.succ_ne_self _) (Nat.ne_of_lt (Nat.lt_succ_of_lt ll)) (Nat.ne_of_lt ll),⟨⟨_,he⟩,hit⟩,λb hb=> ?_,q⟩;have hb:s1.heap.objs.size<=b:=by
  rcases List.mem_cons.mp hb with rfl|hb
  ·exact Nat.le_succ _
  ·have:b=s1.heap.objs.size:=by simpa using hb
   exact Nat.le_of_eq this.symm
 exact I1.fpOk hb (I1.hok.fresh hb)
end L2
namespace Srt
open PySem PySem.W PyProof.Rows
structure Ord(lt:Nat->Nat->Bool):Prop where
 asym:∀a b,lt a b=true->lt b a=false
 ntr:∀a b c,lt a b=false->lt b c=false->lt a c=false
def ev{α:Type}(lt:Nat->Nat->Bool):KasT α->α
 | .ret a=>a
 | .ask i j k=>ev lt (k (lt i j))
theorem ev_bind{α β:Type}(lt:Nat->Nat->Bool)(f:α->KasT β):∀t:KasT α,ev lt (t.bind f)=ev lt (f (ev lt t))
 | .ret _=>rfl
 | .ask i j k=>ev_bind lt f (k (lt i j))
def AsksP{α:Type}(n:Nat)(P:α->Prop):KasT α->Prop
 | .ret a=>P a
 | .ask i j k=>i<n/\j<n/\∀b,AsksP n P (k b)
theorem AsksP.bind{α β:Type}{n:Nat}{P:α->Prop}{R:β->Prop}{f:α->KasT β}(hf:∀a,P a->AsksP n R (f a)):∀{t:KasT α},AsksP n P t->AsksP n R (t.bind f)
 | .ret a,h=>hf a h
 | .ask i j k,h=>⟨h.1,h.2.1,λb=>AsksP.bind hf (h.2.2 b)⟩
theorem AsksP.ev{α:Type}{n:Nat}{P:α->Prop}(lt:Nat->Nat->Bool):∀{t:KasT α},AsksP n P t->P (Srt.ev lt t)
 | .ret _,h=>h
 | .ask i j k,h=>AsksP.ev (n:=n) (P:=P) lt (t:=k (lt i j)) (h.2.2 (lt i j))
theorem AsksP.wp{α:Type}{n:Nat}{P:α->Prop}{cmp:Nat->Nat->(Bool->Shared->Prop)->Shared->Prop}{lt:Nat->Nat->Bool}{s:Shared}(hc:∀i j (C:Bool->Shared->Prop),i<n->j<n->C (lt i j) s->cmp i j C s){Q:α->Shared->Prop}:∀{t:KasT α},AsksP n P t->Q (Srt.ev lt t) s->t.kasWp cmp Q s
 | .ret _,_,q=>q
 | .ask i j k,h,q=>hc i j _ h.1 h.2.1 (AsksP.wp hc (h.2.2 (lt i j)) q)
abbrev g(p:Array Nat)(k:Nat):Nat:=p.getD k 0
theorem g_eq(p:Array Nat)(k:Nat):g p k=(p[k]?).getD 0:=by
 show p.getD k 0=_;simp[Array.getD_eq_getD_getElem?]
theorem g_rev{p:Array Nat}{i j:Nat}(hj:j<=p.size)(k:Nat):g (kas_rev p i j) k=if i<=k/\k<j then g p (i+j - 1 - k) else g p k:=by
 rw[g_eq];unfold kas_rev;rw[getElem?_mirror_all hj];split<;> rw[g_eq]
theorem g_bub{p:Array Nat}{src d:Nat}(hs:src<p.size)(hd:d<=src)(k:Nat):g (bubble p src d) k=if k=src - d then g p src else if src - d<k/\k<=src then g p (k - 1) else g p k:=by
 rw[g_eq,getElem?_bubble hs d hd,g_eq,g_eq,g_eq];split
 ·rfl
 ·split<;> rfl
theorem rev_size(p:Array Nat)(i j:Nat):(kas_rev p i j).size=p.size:=mirror_size _ _ _ _
theorem rev_perm(p:Array Nat)(i j:Nat):(kas_rev p i j).Perm p:=mirror_perm _ _ _ _
def Pm(n:Nat)(p:Array Nat):Prop:=p.Perm (List.range n).toArray
theorem Pm.size{n:Nat}{p:Array Nat}(h:Pm n p):p.size=n:=by
 have:=Array.Perm.size_eq h;simpa using this
theorem Pm.lt{n:Nat}{p:Array Nat}(h:Pm n p)(h0:0<n)(k:Nat):g p k<n:=by
 rw[g_eq];cases e:p[k]? with
 |none=>exact h0
 |some x=>
  have hx:x∈p:=Array.mem_of_getElem? e;have:=(Array.Perm.mem_iff h).mp hx;simpa using this
section
variable{n:Nat}(h0:0<n)
include h0
theorem asks_asc{p:Array Nat}(h:Pm n p):∀f m,AsksP n (λ_=>True) (kas_asc p f m)
 |0,_=>trivial
 |f+1,m=>⟨h.lt h0 _,h.lt h0 _,λb=>by cases b<;> first|exact trivial|exact asks_asc h f (m+1)⟩
theorem asks_desc:∀f {p:Array Nat} (m q:Nat),Pm n p->AsksP n (λr=>Pm n r.1) (kas_desc f p m q)
 |0,_,_,_,h=>h
 |f+1,p,m,q,h=>by
  refine⟨h.lt h0 _,h.lt h0 _,λb=> ?_⟩;cases b with
  |true=>
   show AsksP n _ (if q > 0 then _ else _);by_cases hq:q > 0
   ·rw[if_pos hq];exact asks_desc f _ _ ((rev_perm _ _ _).trans h)
   ·rw[if_neg hq];exact asks_desc f _ _ h
  |false=>
   refine⟨h.lt h0 _,h.lt h0 _,λd=> ?_⟩;cases d with
   |true=>exact h
   |false=>exact asks_desc f _ _ h
theorem asks_tail3{p:Array Nat}(m nrem:Nat)(h:Pm n p):AsksP n (λr=>Pm n r.2) (kas_tail3 m nrem p):=by
 have hr:Pm n (kas_rev p 0 m):=(rev_perm _ _ _).trans h;refine AsksP.bind (n:=n) (P:=λ_=>True) (R:=λr:Nat×Array Nat=>Pm n r.2) (λk _=> ?_) (asks_asc h0 hr _ _);exact hr
theorem asks_descPart{p:Array Nat}(m nrem:Nat)(h:Pm n p):AsksP n (λr=>Pm n r.2) (kas_descPart m nrem p):=
 (asks_desc h0 _ _ _ h).bind λr hr=>by
  by_cases hq:r.2.2 > 0
  ·rw[if_pos hq];exact asks_tail3 h0 _ _ ((rev_perm _ _ _).trans hr)
  ·rw[if_neg hq];exact asks_tail3 h0 _ _ hr
theorem asks_count{p:Array Nat}(nrem:Nat)(h:Pm n p):AsksP n (λr=>Pm n r.2) (kas_count nrem p):=
 (asks_asc h0 h _ _).bind λm _=>by
  by_cases h1:(m==nrem)=true
  ·rw[if_pos h1];exact h
  ·rw[if_neg h1];by_cases h2:m > 1
   ·rw[if_pos h2];refine⟨h.lt h0 _,h.lt h0 _,λc=> ?_⟩;cases c with
    |true=>exact h
    |false=>exact asks_descPart h0 _ _ ((rev_perm _ _ _).trans h)
   ·rw[if_neg h2];exact asks_descPart h0 _ _ h
theorem asks_place{p:Array Nat}(k:Nat)(h:Pm n p):∀f l r,AsksP n (λ_=>True) (kas_place p k f l r)
 |0,_,_=>trivial
 |f+1,l,r=>by
  show AsksP n _ (if l ≥ r then _ else _);by_cases hl:l ≥ r
  ·rw[if_pos hl];trivial
  ·rw[if_neg hl];refine⟨h.lt h0 _,h.lt h0 _,λc=> ?_⟩;cases c with
   |true=>exact asks_place k h f _ _
   |false=>exact asks_place k h f _ _
theorem asks_bin:∀f {p:Array Nat} (k:Nat),Pm n p->AsksP n (Pm n) (kas_bin f p k)
 |0,_,_,h=>h
 |f+1,p,k,h=>(asks_place h0 k h _ _ _).bind λl _=>asks_bin f (k+1) ((bubble_perm _ _ _).trans h)
theorem asks_sort:AsksP n (Pm n) (kas_sort n):=
 (asks_count h0 n (Array.Perm.refl _)).bind λr hr=>by
  by_cases h1:r.1<n
  ·rw[if_pos h1];exact asks_bin h0 _ _ hr
  ·rw[if_neg h1];exact hr
end
section
variable{lt:Nat->Nat->Bool}(O:Ord lt)
def Sto(lt:Nat->Nat->Bool)(p:Array Nat)(k:Nat):Prop:=∀i j,i<=j->j<k->lt (g p j) (g p i)=false
def Dto(lt:Nat->Nat->Bool)(p:Array Nat)(k:Nat):Prop:=∀i j,i<=j->j<k->lt (g p i) (g p j)=false
def Eqv(lt:Nat->Nat->Bool)(a b:Nat):Prop:=lt a b=false/\lt b a=false
include O
theorem irr(a:Nat):lt a a=false:=by
 cases h:lt a a with
 |false=>rfl
 |true=>have:=O.asym a a h;rw[h] at this;cases this
theorem ev_asc{p:Array Nat}:∀f m,1<=m->Sto lt p m->m<=ev lt (kas_asc p f m)/\ev lt (kas_asc p f m)<=m+f/\Sto lt p (ev lt (kas_asc p f m))/\(ev lt (kas_asc p f m)<m+f->lt (g p (ev lt (kas_asc p f m))) (g p (ev lt (kas_asc p f m) - 1))=true)
 |0,m,_,hs=>⟨Nat.le_refl _,Nat.le_refl _,hs,λh=>absurd h (Nat.lt_irrefl _)⟩
 |f+1,m,h1,hs=>by
  show m<=ev lt (if lt (g p m) (g p (m - 1))=true then .ret m else kas_asc p f (m+1))/\ev lt (if lt (g p m) (g p (m - 1))=true then .ret m else kas_asc p f (m+1))<=m+(f+1)/\Sto lt p (ev lt (if lt (g p m) (g p (m - 1))=true then .ret m else kas_asc p f (m+1)))/\(ev lt (if lt (g p m) (g p (m - 1))=true then .ret m else kas_asc p f (m+1))<m+(f+1)->lt (g p (ev lt (if lt (g p m) (g p (m - 1))=true then .ret m else kas_asc p f (m+1)))) (g p (ev lt (if lt (g p m) (g p (m - 1))=true then .ret m else kas_asc p f (m+1)) - 1))=true);by_cases c:lt (g p m) (g p (m - 1))=true
  ·rw[if_pos c];exact⟨Nat.le_refl _,Nat.le_add_right _ _,hs,λ_=>c⟩
  ·rw[if_neg c];have c:lt (g p m) (g p (m - 1))=false:=by simpa using c
   have hs':Sto lt p (m+1):=λi j hij hj=>by
    by_cases e:j=m
    ·subst e;by_cases e2:i=j
     ·subst e2;exact irr O _
     ·exact O.ntr _ _ _ c (hs i (j - 1) (by omega) (by exact Nat.sub_lt (by assumption) (by decide)))
    ·exact hs i j hij (by omega)
   obtain⟨a,b,d,e⟩:=ev_asc f (m+1) (by exact Nat.lt_succ_of_lt (by assumption)) hs';exact⟨by exact Nat.le_of_lt (by assumption),by omega,d,λh=>e (by omega)⟩
theorem Dto.eqv{p p1:Array Nat}{k:Nat}(h:Dto lt p k)(he:∀i,i<k->Eqv lt (g p1 i) (g p i)):Dto lt p1 k:=λi j hij hj=>
 O.ntr _ _ _ (he i (by exact Nat.lt_of_le_of_lt (by assumption) (by assumption))).1 (O.ntr _ _ _ (h i j hij hj) (he j hj).2)
def Blk(lt:Nat->Nat->Bool)(p:Array Nat)(m q:Nat):Prop:=q+1<=m/\∀i j,m - (q+1)<=i->i<m->m - (q+1)<=j->j<m->Eqv lt (g p i) (g p j)
theorem rev_blk{p:Array Nat}{m q:Nat}(hm:m<=p.size)(hb:Blk lt p m q):∀i,Eqv lt (g (kas_rev p (m - (q+1)) m) i) (g p i):=λi=>by
 have h1:=hb.1;rw[g_rev hm];split
 ·exact hb.2 _ _ (by omega) (by omega) (by omega) (by omega)
 ·exact⟨irr O _,irr O _⟩
theorem ev_desc:∀f {p:Array Nat} (m q:Nat),1<=m->m+f<=p.size->Dto lt p m->Blk lt p m q->
  let r:=ev lt (kas_desc f p m q);m<=r.2.1/\r.2.1<=m+f/\r.1.size=p.size/\Dto lt r.1 r.2.1/\Blk lt r.1 r.2.1 r.2.2
 |0,p,m,q,_,_,hd,hb=>⟨Nat.le_refl _,Nat.le_refl _,rfl,hd,hb⟩
 |f+1,p,m,q,h1,hz,hd,hb=>by
  intro r;have b1:=hb.1;have single:∀(p':Array Nat),Blk lt p' (m+1) 0:=λp'=>⟨by exact Nat.lt_succ_of_lt (by assumption),λi j a b c d=>by
   have:i=j:=by omega
   subst this;exact⟨irr O _,irr O _⟩⟩
  have low:lt (g p (m - 1)) (g p m)=false->Dto lt p (m+1):=λc i j hij hj=>by
   by_cases e:j=m
   ·subst e;by_cases e2:i=j
    ·subst e2;exact irr O _
    ·exact O.ntr _ _ _ (hd i (j - 1) (by omega) (by exact Nat.sub_lt (by assumption) (by decide))) c
   ·exact hd i j hij (by omega)
  by_cases c:lt (g p m) (g p (m - 1))=true
  ·have cl:=low (O.asym _ _ c);by_cases hq:q > 0
   ·have e:r=ev lt (kas_desc f (kas_rev p (m - (q+1)) m) (m+1) 0):=by
     show ev lt (if lt (g p m) (g p (m - 1))=true then (if q > 0 then _ else _) else _)=_;rw[if_pos c,if_pos hq]
    obtain⟨a,b,s,d,k⟩:=ev_desc f (p:=kas_rev p (m - (q+1)) m) (m+1) 0 (by exact Nat.lt_succ_of_lt (by assumption)) (by rw[rev_size];omega) (Dto.eqv O cl λi _=>rev_blk O (by omega) hb i) (single _);rw[e];exact⟨by exact Nat.le_of_lt (by assumption),by omega,by rw[s,rev_size],d,k⟩
   ·have e:r=ev lt (kas_desc f p (m+1) 0):=by
     show ev lt (if lt (g p m) (g p (m - 1))=true then (if q > 0 then _ else _) else _)=_;rw[if_pos c,if_neg hq]
    obtain⟨a,b,s,d,k⟩:=ev_desc f (p:=p) (m+1) 0 (by exact Nat.lt_succ_of_lt (by assumption)) (by omega) cl (single _);rw[e];exact⟨by exact Nat.le_of_lt (by assumption),by omega,s,d,k⟩
  ·have c':lt (g p m) (g p (m - 1))=false:=by simpa using c
   by_cases d1:lt (g p (m - 1)) (g p m)=true
   ·have e:r=(p,m,q):=by
     show ev lt (if lt (g p m) (g p (m - 1))=true then _ else KasT.ask _ _ λd=>if d=true then _ else _)=_;rw[if_neg c];show ev lt (if lt (g p (m - 1)) (g p m)=true then KasT.ret (p,m,q) else _)=_;rw[if_pos d1];rfl
    rw[e];exact⟨Nat.le_refl _,Nat.le_add_right _ _,rfl,hd,hb⟩
   ·have d':lt (g p (m - 1)) (g p m)=false:=by simpa using d1
    have e:r=ev lt (kas_desc f p (m+1) (q+1)):=by
     show ev lt (if lt (g p m) (g p (m - 1))=true then _ else KasT.ask _ _ λd=>if d=true then _ else _)=_;rw[if_neg c];show ev lt (if lt (g p (m - 1)) (g p m)=true then KasT.ret (p,m,q) else _)=_;rw[if_neg d1]
    have blk:Blk lt p (m+1) (q+1):=⟨by exact Nat.succ_le_succ (by assumption),λi j i1 i2 j1 j2=>by
     have to:∀k,m - (q+1)<=k->k<m+1->Eqv lt (g p k) (g p (m - 1)):=λk k1 k2=>by
      by_cases z:k=m
      ·subst z;exact⟨c',d'⟩
      ·exact hb.2 k (m - 1) k1 (by omega) (by omega) (by exact Nat.sub_lt (by assumption) (by decide))
     have a:=to i (by omega) i2;have b:=to j (by omega) j2;exact⟨O.ntr _ _ _ a.1 b.2,O.ntr _ _ _ b.1 a.2⟩⟩
    obtain⟨a,b,s,d,k⟩:=ev_desc f (p:=p) (m+1) (q+1) (by exact Nat.lt_succ_of_lt (by assumption)) (by omega) (low d') blk;rw[e];exact⟨by exact Nat.le_of_lt (by assumption),by omega,s,d,k⟩
theorem Dto.rev{p:Array Nat}{m:Nat}(hm:m<=p.size)(h:Dto lt p m):Sto lt (kas_rev p 0 m) m:=λi j hij hj=>by
 rw[g_rev hm,g_rev hm,if_pos ⟨by exact Nat.zero_le _,by assumption⟩,if_pos ⟨by exact Nat.zero_le _,by exact Nat.lt_of_le_of_lt (by assumption) (by assumption)⟩];exact h _ _ (by omega) (by omega)
theorem ev_tail3{p:Array Nat}{m nrem:Nat}(h1:1<=m)(hn:m<=nrem)(hz:nrem<=p.size)(h:Dto lt p m):let r:=ev lt (kas_tail3 m nrem p);1<=r.1/\r.1<=nrem/\Sto lt r.2 r.1:=by
 intro r;have e:r=(ev lt (kas_asc (kas_rev p 0 m) (nrem - m) m),kas_rev p 0 m):=ev_bind lt _ _;obtain⟨a,b,c,_⟩:=ev_asc O (p:=kas_rev p 0 m) (nrem - m) m h1 (Dto.rev O (by exact Nat.le_trans (by assumption) (by assumption)) h);rw[e];exact⟨by show 1<=_;exact Nat.le_trans (by assumption) (by assumption),by show _<=nrem;omega,c⟩
theorem ev_descPart{p:Array Nat}{m nrem:Nat}(hn:m+1<=nrem)(hz:nrem<=p.size)(h:Dto lt p (m+1)):let r:=ev lt (kas_descPart m nrem p);1<=r.1/\r.1<=nrem/\Sto lt r.2 r.1:=by
 intro r;have single:Blk lt p (m+1) 0:=⟨by omega,λi j a b c d=>by
  have:i=j:=by omega
  subst this;exact⟨irr O _,irr O _⟩⟩
 obtain⟨a,b,s,d,k⟩:=ev_desc O (nrem - (m+1)) (p:=p) (m+1) 0 (by omega) (by omega) h single;have e:r=ev lt (if (ev lt (kas_desc (nrem - (m+1)) p (m+1) 0)).2.2 > 0 then kas_tail3 (ev lt (kas_desc (nrem - (m+1)) p (m+1) 0)).2.1 nrem (kas_rev (ev lt (kas_desc (nrem - (m+1)) p (m+1) 0)).1 ((ev lt (kas_desc (nrem - (m+1)) p (m+1) 0)).2.1 - ((ev lt (kas_desc (nrem - (m+1)) p (m+1) 0)).2.2+1)) (ev lt (kas_desc (nrem - (m+1)) p (m+1) 0)).2.1) else kas_tail3 (ev lt (kas_desc (nrem - (m+1)) p (m+1) 0)).2.1 nrem (ev lt (kas_desc (nrem - (m+1)) p (m+1) 0)).1):=ev_bind lt _ _;rw[e];generalize ev lt (kas_desc (nrem - (m+1)) p (m+1) 0)=x at a b s d k;by_cases hq:x.2.2 > 0
 ·rw[if_pos hq];exact ev_tail3 O (by omega) (by omega) (by rw[rev_size];omega) (Dto.eqv O d λi _=>rev_blk O (by omega) k i)
 ·rw[if_neg hq];exact ev_tail3 O (by omega) (by omega) (by omega) d
theorem ev_count{p:Array Nat}{nrem:Nat}(h1:1<=nrem)(hz:nrem<=p.size):let r:=ev lt (kas_count nrem p);1<=r.1/\r.1<=nrem/\Sto lt r.2 r.1:=by
 intro r;have s1:Sto lt p 1:=λi j hij hj=>by
  have a:i=0:=by omega
  have b:j=0:=by omega
  subst a b;exact irr O _
 obtain⟨a,b,c,e⟩:=ev_asc O (p:=p) (nrem - 1) 1 (Nat.le_refl _) s1;have er:r=ev lt ((λn=>if (n==nrem)=true then KasT.ret (n,p) else if n > 1 then KasT.ask (p.getD 0 0) (p.getD (n - 1) 0) λc=>if c=true then KasT.ret (n,p) else kas_descPart n nrem (kas_rev p 0 n) else kas_descPart n nrem p) (ev lt (kas_asc p (nrem - 1) 1))):=ev_bind lt _ _;rw[er];generalize ev lt (kas_asc p (nrem - 1) 1)=m at a b c e;dsimp only;by_cases h2:(m==nrem)=true
 ·rw[if_pos h2];exact⟨a,by show m<=nrem;omega,c⟩
 ·rw[if_neg h2];have hm:m<nrem:=by
   have:m≠nrem:=by simpa using h2
   omega
  have last:=e (by omega);by_cases h3:m > 1
  ·rw[if_pos h3];show let r:=ev lt (if lt (g p 0) (g p (m - 1))=true then KasT.ret (m,p) else kas_descPart m nrem (kas_rev p 0 m));1<=r.1/\r.1<=nrem/\Sto lt r.2 r.1
   by_cases h4:lt (g p 0) (g p (m - 1))=true
   ·rw[if_pos h4];exact⟨a,by show m<=nrem;exact Nat.le_of_lt (by assumption),c⟩
   ·rw[if_neg h4];have h4:lt (g p 0) (g p (m - 1))=false:=by simpa using h4
    have all:∀i j,i<m->j<m->lt (g p i) (g p j)=false:=λi j hi hj=>O.ntr _ _ _ (O.ntr _ _ _ (c 0 i (by exact Nat.zero_le _) hi) h4) (c j (m - 1) (by omega) (by exact Nat.sub_lt (by assumption) (by decide)));have blk:Blk lt p m (m - 1):=⟨by exact Nat.sub_lt (by assumption) (by decide),λi j _ i2 _ j2=>⟨all i j i2 j2,all j i j2 i2⟩⟩
    have d1:Dto lt p (m+1):=λi j hij hj=>by
     by_cases z:j=m
     ·subst z;by_cases z2:i=j
      ·subst z2;exact irr O _
      ·exact O.ntr _ _ _ (all i (j - 1) (by omega) (by exact Nat.sub_lt (by assumption) (by decide))) (O.asym _ _ last)
     ·exact all i j (by omega) (by omega)
    have rb:=rev_blk O (by omega) blk;rw[show m - (m - 1+1)=0 by omega] at rb;exact ev_descPart O (by assumption) (by rw[rev_size];assumption) (Dto.eqv O d1 λi _=>rb i)
  ·rw[if_neg h3];have:m=1:=by omega
   subst this;refine ev_descPart O (by assumption) hz λi j hij hj=> ?_;by_cases z:i=j
   ·subst z;exact irr O _
   ·have a0:i=0:=by omega
    have b1:j=1:=by omega
    subst a0 b1;exact O.asym _ _ last
theorem ev_place{p:Array Nat}{k:Nat}:∀f l r,r - l<=f->l<=r->r<=k->(∀i,i<l->lt (g p k) (g p i)=false)->(∀i,r<=i->i<k->lt (g p k) (g p i)=true)->Sto lt p k->
  let x:=ev lt (kas_place p k f l r);x<=k/\(∀i,i<x->lt (g p k) (g p i)=false)/\∀i,x<=i->i<k->lt (g p k) (g p i)=true
 |0,l,r,hf,hlr,hrk,h1,h2,_=>by
  have:l=r:=by omega
  subst this;exact⟨hrk,h1,h2⟩
 |f+1,l,r,hf,hlr,hrk,h1,h2,hs=>by
  intro x;by_cases hl:l ≥ r
  ·have e:x=l:=by
    show ev lt (if l ≥ r then KasT.ret l else _)=l;rw[if_pos hl];rfl
   have:l=r:=by omega
   subst this;rw[e];exact⟨hrk,h1,h2⟩
  ·by_cases c:lt (g p k) (g p ((l+r) / 2))=true
   ·have e:x=ev lt (kas_place p k f l ((l+r) / 2)):=by
     show ev lt (if l ≥ r then KasT.ret l else KasT.ask _ _ λc=>if c=true then _ else _)=_;rw[if_neg hl];show ev lt (if lt (g p k) (g p ((l+r) / 2))=true then _ else _)=_;rw[if_pos c]
    rw[e];refine ev_place f l ((l+r) / 2) (by omega) (by omega) (by omega) h1 (λi i1 i2=> ?_) hs;cases z:lt (g p k) (g p i) with
    |true=>rfl
    |false=>
     have:=O.ntr _ _ _ z (hs ((l+r) / 2) i i1 i2);rw[c] at this;cases this
   ·have c':lt (g p k) (g p ((l+r) / 2))=false:=by simpa using c
    have e:x=ev lt (kas_place p k f ((l+r) / 2+1) r):=by
     show ev lt (if l ≥ r then KasT.ret l else KasT.ask _ _ λc=>if c=true then _ else _)=_;rw[if_neg hl];show ev lt (if lt (g p k) (g p ((l+r) / 2))=true then _ else _)=_;rw[if_neg c]
    rw[e];refine ev_place f ((l+r) / 2+1) r (by omega) (by omega) hrk (λi i1=>O.ntr _ _ _ c' (hs i ((l+r) / 2) (by omega) (by omega))) h2 hs
theorem ev_bin:∀f {p:Array Nat} (k:Nat),k+f=p.size->Sto lt p k->Sto lt (ev lt (kas_bin f p k)) p.size
 |0,p,k,hz,hs=>by
  have:k=p.size:=by assumption
  subst this;exact hs
 |f+1,p,k,hz,hs=>by
  have e:ev lt (kas_bin (f+1) p k)=ev lt (kas_bin f (bubble p k (k - ev lt (kas_place p k k 0 k))) (k+1)):=ev_bind lt _ _;obtain⟨x1,x2,x3⟩:=ev_place O (p:=p) (k:=k) k 0 k (by exact Nat.le_refl _) (by exact Nat.zero_le _) (Nat.le_refl _) (λi hi=>by omega) (λi i1 i2=>by omega) hs;rw[e];generalize ev lt (kas_place p k k 0 k)=x at x1 x2 x3;have hs':Sto lt (bubble p k (k - x)) (k+1):=λi j hij hj=>by
   rw[g_bub (by omega) (by exact Nat.sub_le _ _),g_bub (by omega) (by exact Nat.sub_le _ _),show k - (k - x)=x by omega];by_cases j1:j=x
   ·rw[if_pos j1];by_cases i1:i=x
    ·rw[if_pos i1];exact irr O _
    ·rw[if_neg i1,if_neg (by omega)];exact x2 i (by omega)
   ·rw[if_neg j1];by_cases j2:x<j/\j<=k
    ·rw[if_pos j2];by_cases i1:i=x
     ·rw[if_pos i1];exact O.asym _ _ (x3 (j - 1) (by omega) (by omega))
     ·rw[if_neg i1];by_cases i2:x<i/\i<=k
      ·rw[if_pos i2];exact hs (i - 1) (j - 1) (by omega) (by omega)
      ·rw[if_neg i2];exact hs i (j - 1) (by omega) (by omega)
    ·rw[if_neg j2,if_neg (by omega),if_neg (by omega)];exact hs i j hij (by omega)
  have:=ev_bin f (p:=bubble p k (k - x)) (k+1) (by rw[bubble_size];omega) hs';rw[bubble_size] at this;exact this
theorem ev_sort{n:Nat}(h1:1<=n):Sto lt (ev lt (kas_sort n)) n:=by
 have hz:(List.range n).toArray.size=n:=by simp
 have e:ev lt (kas_sort n)=ev lt ((λr:Nat×Array Nat=>if r.1<n then kas_bin (n - max r.1 1) r.2 (max r.1 1) else .ret r.2) (ev lt (kas_count n (List.range n).toArray))):=ev_bind lt _ _;obtain⟨a,b,c⟩:=ev_count O (p:=(List.range n).toArray) h1 (by omega);have pm:Pm n (ev lt (kas_count n (List.range n).toArray)).2:=(asks_count (by assumption) n (Array.Perm.refl _)).ev lt;rw[e];generalize ev lt (kas_count n (List.range n).toArray)=r at a b c pm;dsimp only;have sz:=pm.size;by_cases h:r.1<n
 ·rw[if_pos h,show max r.1 1=r.1 by omega];have:=ev_bin O (n - r.1) (p:=r.2) r.1 (by omega) c;rw[sz] at this;exact this
 ·rw[if_neg h];have:r.1=n:=by omega
  rw[this] at c;exact c
end
end Srt
namespace Srt
open PySem PySem.W PyProof.Rows
section
variable{prog:Program}{w:World}{A:Around}{E:Value->Shared->Prop}{s:Shared}
theorem list_sort_raw{κ:SortKind}{lt:Nat->Nat->Bool}(O:Ord lt){a:Addr}{vs:List Value}{n:Nat}{P:PySem.Fin->Shared->Prop}(ho:s.heap.get? a=some (seqObj "list" vs.toArray n))(h64:vs.length<64)(hk:∀h',(∀b o,b≠a->s.heap.get? b=some o->h'.get? b=some o)->2<=vs.length->∀Q:SortKind->Shared->Prop,Q κ {s with heap:=h'}->wpAny (model prog w) A (keyKind' vs.toArray) Q E {s with heap:=h'})(hc:∀h',(∀b o,b≠a->s.heap.get? b=some o->h'.get? b=some o)->∀i j (C:Bool->Shared->Prop),i<vs.length->j<vs.length->C (lt i j) {s with heap:=h'}->kas_ask prog w A κ vs i j C {s with heap:=h'})(h:∀p:Array Nat,Pm vs.length p->Sto lt p vs.length->P (.done (.ret .none)) {s with heap:=sortedHeap s.heap a vs (p.toList.map λi=>vs.getD i Value.none).toArray}):
  wpAny (model prog w) A (Builtin.«list.sort» ⟨[.ref a],[]⟩) P E s:=by
 rw[list_sort_plain];have ha:a<s.heap.objs.size:=Heap.lt_size ho;refine wpAny_bind (listItems_at ho rfl ?_);refine wpAny_bind (listUpdate_at ho rfl ?_ (by rw[List.size_toArray,sizeLine_eq];omega) (Nat.zero_le _));obtain⟨e1,ho1⟩:∃e1,(s.heap.update a (Obj.mapSeq λ_=> #[])).get? a=some (seqObj "list" #[] e1):=⟨_,get?_update_seq ho (λ_=> #[])⟩
 refine wpAny_bind (seqEpoch_at ho1 rfl ?_);refine wpAny_bind (wpAny_newTuple ?_ (by show vs.length<=_;rw[sizeLine_eq];omega));refine wpAny_bind (wpAny_newList ?_ (Nat.zero_le _));refine wpAny_holding ?_;have keep:∀b o,b≠a->s.heap.get? b=some o->(((s.heap.update a (Obj.mapSeq λ_=> #[])).push (seqObj "tuple" vs.toArray 0)).push (seqObj "list" #[] 0)).get? b=some o:=λb o ne q=>by
  have hlt:b<s.heap.objs.size:=Heap.lt_size q;rw[Heap.get?_push_ne _ _ _ (by rw[size_push',Heap.size_update];exact Nat.ne_of_lt (Nat.lt_succ_of_lt hlt)),Heap.get?_push_ne _ _ _ (by rw[Heap.size_update];exact Nat.ne_of_lt hlt),Heap.get?_update_ne _ _ _ _ ne];exact q
 have ho6:(((s.heap.update a (Obj.mapSeq λ_=> #[])).push (seqObj "tuple" vs.toArray 0)).push (seqObj "list" #[] 0)).get? a=some (seqObj "list" #[] e1):=by
  rw[Heap.get?_push_ne _ _ _ (by rw[size_push',Heap.size_update];exact Nat.ne_of_lt (Nat.lt_succ_of_lt ha)),Heap.get?_push_ne _ _ _ (by rw[Heap.size_update];exact Nat.ne_of_lt ha)];exact ho1
 show wpAny (model prog w) A _ P E {s with heap:=((s.heap.update a (Obj.mapSeq λ_=> #[])).push (seqObj "tuple" vs.toArray 0)).push (seqObj "list" #[] 0)};dsimp only;have hsz:vs.toArray.size=vs.length:=by simp
 by_cases h2:vs.toArray.size<2
 ·rw[if_pos h2,if_pos h2];refine wpAny_bind (wpAny_pure ?_);rw[StateT.run_pure];refine wpAny_bind (wpAny_pure ?_);dsimp only;refine wpAny_bind (seqEpoch_at ho6 rfl ?_);refine wpAny_bind (listUpdate_at ho6 rfl ?_ (hsz2:=by rw[Array.size_map];show (pairsOf vs).size<=_;rw[pairsOf_size,sizeLine_eq];omega));simp only[bne_self_eq_false,Bool.false_eq_true,if_false];have fin:=h (List.range vs.length).toArray (Array.Perm.refl _) (λi j hij hj=>by
   have:i=j:=by omega
   subst this;exact irr O _)
  have e:(List.range vs.length).toArray.toList.map (λi=>vs.getD i Value.none)=vs:=by
   refine List.ext_getElem? λi=> ?_;simp only[List.getElem?_map];by_cases hi:i<vs.length
   ·simp[hi]
   ·simp[Nat.le_of_not_lt hi]
  rw[e] at fin;have e2:(Array.map (λx=>x.snd) (vs.toArray.zip vs.toArray))=vs.toArray:=by
   apply Array.toList_inj.mp;simp[List.map_snd_zip]
  rw[show Array.map (λx:Keyed=>x.snd) (arrOf (SortSt.mk' general' (vs.toArray.zip vs.toArray) #[] 7 none))=vs.toArray from e2];exact wpAny_pure fin
 ·rw[if_neg h2,if_neg h2];have h2':2<=vs.length:=by rw[hsz] at h2;exact Nat.not_lt.mp (by assumption)
  refine wpAny_bind (hk _ keep h2' _ ?_);refine wpAny_bind (wpAny_mono (kat_run (ks:=vs) (vs:=vs) (κ:=κ) (Q:=λst' s'=>∃p:Array Nat,s'={s with heap:=((s.heap.update a (Obj.mapSeq λ_=> #[])).push (seqObj "tuple" vs.toArray 0)).push (seqObj "list" #[] 0)}/\Pm vs.length p/\Sto lt p vs.length/\arrOf st'=p.map (kas_item (vs.toArray.zip vs.toArray))/\failedOf st'=none)
   rfl h2' h64 (G:=λp s'=>s'={s with heap:=((s.heap.update a (Obj.mapSeq λ_=> #[])).push (seqObj "tuple" vs.toArray 0)).push (seqObj "list" #[] 0)}/\Pm vs.length p/\Sto lt p vs.length) (λp st' s' a1 a2 a3 a4=>⟨p,a4.1,a4.2.1,a4.2.2,a2,a3⟩) ?_) ?_ λ_ _ e=>e)
  ·exact AsksP.wp (lt:=lt) (hc _ keep) (asks_sort (by exact Nat.le_of_lt (by assumption))) ⟨rfl,(asks_sort (by exact Nat.le_of_lt (by assumption))).ev lt,ev_sort O (by exact Nat.le_of_lt (by assumption))⟩
  ·rintro⟨⟨⟩,st'⟩ s' ⟨p,rfl,hp,hs,har,hf⟩;dsimp only;rw[kat_snds rfl har];refine wpAny_bind (seqEpoch_at ho6 rfl ?_);refine wpAny_bind (listUpdate_at ho6 rfl ?_ (Nat.zero_le _) (by rw[List.size_toArray,List.length_map,Array.length_toList,hp.size,sizeLine_eq];omega));rw[hf];simp only[bne_self_eq_false,Bool.false_eq_true,if_false];exact wpAny_pure (h p hp hs)
theorem sorted_raw{κ:SortKind}{lt:Nat->Nat->Bool}(O:Ord lt){v:Value}(I:List Value->Prop){Q:Value->Shared->Prop}(h64:∀vs,I vs->vs.length<64)(hcol:∀(Q:List Value->Shared->Prop),(∀vs h1 t1,I vs->(∀b o,s.heap.get? b=some o->h1.get? b=some o)->Q vs {s with heap:=h1,toks:=t1})->wpAny (model prog w) A.in1 (collect v) Q E s)(hk:∀vs h' t',I vs->(∀b o,s.heap.get? b=some o->h'.get? b=some o)->2<=vs.length->∀Q:SortKind->Shared->Prop,Q κ {s with heap:=h',toks:=t'}->wpAny (model prog w) A.in1.in1 (keyKind' vs.toArray) Q E {s with heap:=h',toks:=t'})(hc:∀vs h' t',I vs->(∀b o,s.heap.get? b=some o->h'.get? b=some o)->∀i j (C:Bool->Shared->Prop),i<vs.length->j<vs.length->C (lt i j) {s with heap:=h',toks:=t'}->kas_ask prog w A.in1.in1 κ vs i j C {s with heap:=h',toks:=t'})(h:∀vs (p:Array Nat) (h1 h':Heap) t' l e,I vs->Pm vs.length p->Sto lt p vs.length->(∀b o,s.heap.get? b=some o->h1.get? b=some o)->(∀b o,h1.get? b=some o->h'.get? b=some o)->h1.objs.size<=l->h'.get? l=some (seqObj "list" (p.toList.map λi=>vs.getD i Value.none).toArray e)->Q (.ref l) {s with heap:=h',toks:=t'}):
  wpAny (model prog w) A (call (.builtin "sorted") [v]) Q E s:=by
 refine Calls.call_function_entry kind_sorted plain_sorted entry_sorted (args_sorted1 _) ?_;unfold Builtin.«sorted»;refine wpAny_bind (m:=checkCount "sorted" 1 1 _) (wpAny_pure ?_);refine wpAny_bind (hcol _ λvs h1 t1 hI k1=> ?_);have h64:=h64 vs hI;refine wpAny_bind (wpAny_newList ?_ (by rw[sizeLine_eq];omega));have hoL:(h1.push (seqObj "list" vs.toArray 0)).get? h1.objs.size=some (seqObj "list" vs.toArray 0):=Heap.get?_push_size _ rfl;show wpAny _ _ _ _ _ {s with heap:=h1.push (seqObj "list" vs.toArray 0),toks:=t1};have k3:∀b o,h1.get? b=some o->b≠h1.objs.size/\(h1.push (seqObj "list" vs.toArray 0)).get? b=some o:=λb o q=>
  ⟨Nat.ne_of_lt (Heap.lt_size q),Heap.get?_push_of_some _ q⟩
 have k2:∀b o,s.heap.get? b=some o->b≠h1.objs.size/\(h1.push (seqObj "list" vs.toArray 0)).get? b=some o:=λb o q=>k3 b o (k1 b o q);refine wpAny_bind (wpAny_holding (wpAny_call_entry slot_list_sort ⟨_,hoL,rfl⟩ entry_list_sort (list_sort_raw (s:={s with heap:=h1.push (seqObj "list" vs.toArray 0),toks:=t1}) (κ:=κ) O hoL h64 (λh' k l2 Q q=> ?_) (λh' k i j C hi hj q=> ?_) λp hp hs=>⟨_,rfl,?_⟩) (args_list_sort _)))
 ·exact hk vs h' t1 hI (λb o q=>k b o (k2 b o q).1 (k2 b o q).2) l2 Q q
 ·exact hc vs h' t1 hI (λb o q=>k b o (k2 b o q).1 (k2 b o q).2) i j C hi hj q
 ·refine wpAny_pure ⟨_,rfl,?_⟩;have hz:h1.objs.size<(h1.push (seqObj "list" vs.toArray 0)).objs.size:=by rw[size_push'];exact Nat.lt_succ_self _
  obtain⟨e,he⟩:∃e,(sortedHeap (h1.push (seqObj "list" vs.toArray 0)) h1.objs.size vs (p.toList.map λi=>vs.getD i Value.none).toArray).get? h1.objs.size=some (seqObj "list" (p.toList.map λi=>vs.getD i Value.none).toArray e):=by
   unfold sortedHeap;obtain⟨e1,ho1⟩:∃e1,((h1.push (seqObj "list" vs.toArray 0)).update h1.objs.size (Obj.mapSeq λ_=> #[])).get? h1.objs.size=some (seqObj "list" #[] e1):=⟨_,get?_update_seq hoL (λ_=> #[])⟩
   have ho6:((((h1.push (seqObj "list" vs.toArray 0)).update h1.objs.size (Obj.mapSeq λ_=> #[])).push (seqObj "tuple" vs.toArray 0)).push (seqObj "list" #[] 0)).get? h1.objs.size=some (seqObj "list" #[] e1):=by
    exact Heap.get?_push_of_some _ (Heap.get?_push_of_some _ ho1)
   exact⟨_,get?_update_seq ho6 λ_=>_⟩
  refine h vs p h1 _ t1 h1.objs.size e hI hp hs k1 (λb o q=> ?_) (Nat.le_refl _) he;have q2:=k3 b o q;unfold sortedHeap;rw[Heap.get?_update_ne _ _ _ _ q2.1];refine Heap.get?_push_of_some _ (Heap.get?_push_of_some _ ?_);rw[Heap.get?_update_ne _ _ _ _ q2.1];exact q2.2
end
end Srt
namespace Srt
open PySem PySem.W PyProof.Rows L2
def ltK:Key->Key->Bool
 | .inl a,.inl b=>decide (a<b)
 | .inr a,.inr b=>decide (a.cps.toList<b.cps.toList)
 | .inl _,.inr _=>true
 | .inr _,.inl _=>false
def ltR:List Key->List Key->Bool
 |x::xs,y::ys=>if x=y then ltR xs ys else ltK x y
 |[],_::_=>true
 |_,[]=>false
theorem str_ext{a b:Str}(h:a.cps.toList=b.cps.toList):a=b:=by
 cases a;cases b;simp at h;rw[h]
theorem ltK_irr:∀a,ltK a a=false
 | .inl a=>by simp[ltK]
 | .inr a=>by simp[ltK,List.lt_irrefl]
theorem ltK_tr:∀{a b c},ltK a b=true->ltK b c=true->ltK a c=true
 | .inl a,.inl b,.inl c,h1,h2=>by simp only[ltK,decide_eq_true_eq] at *;omega
 | .inr a,.inr b,.inr c,h1,h2=>by simp only[ltK,decide_eq_true_eq] at *;exact List.lt_trans h1 h2
 | .inl _,.inl _,.inr _,_,_=>rfl
 | .inl _,.inr _,.inr _,_,_=>rfl
 | .inl _,.inr _,.inl _,_,h2=>by simp[ltK] at h2
 | .inr _,.inl _,_,h1,_=>by simp[ltK] at h1
 | .inr _,.inr _,.inl _,_,h2=>by simp[ltK] at h2
theorem ltK_tri:∀a b,ltK a b=false->a=b\/ltK b a=true
 | .inl a,.inl b,h=>by
  simp only[ltK,decide_eq_true_eq,decide_eq_false_iff_not] at *;rcases Int.lt_trichotomy a b with x|x|x
  ·exact absurd x h
  ·exact .inl (by rw[x])
  ·exact .inr x
 | .inr a,.inr b,h=>by
  simp only[ltK,decide_eq_true_eq,decide_eq_false_iff_not] at *;by_cases e:b.cps.toList<a.cps.toList
  ·exact .inr e
  ·exact .inl (congrArg Sum.inr (str_ext (List.le_antisymm (List.not_lt.mp e) (List.not_lt.mp h))))
 | .inl _,.inr _,h=>by simp[ltK] at h
 | .inr _,.inl _,_=> .inr rfl
theorem ltR_irr:∀a,ltR a a=false
 |[]=>rfl
 |x::xs=>by simp[ltR,ltR_irr xs]
theorem ltR_tr:∀{a b c},ltR a b=true->ltR b c=true->ltR a c=true
 |_,[],_,h,_=>by simp[ltR] at h
 |_,_::_,[],_,h=>by simp[ltR] at h
 |[],_::_,_::_,_,_=>rfl
 |x::xs,y::ys,z::zs,h1,h2=>by
  unfold ltR at h1 h2 ⊢;by_cases e1:x=y
  ·subst e1;rw[if_pos rfl] at h1;by_cases e2:x=z
   ·rw[if_pos e2] at h2 ⊢;exact ltR_tr h1 h2
   ·rw[if_neg e2] at h2 ⊢;exact h2
  ·rw[if_neg e1] at h1;by_cases e2:y=z
   ·subst e2;rw[if_neg e1];exact h1
   ·rw[if_neg e2] at h2;have:=ltK_tr h1 h2;rw[if_neg (λe=>by rw[e,ltK_irr] at this;cases this)];exact this
theorem ltR_tri:∀a b,ltR a b=false->a=b\/ltR b a=true
 |[],[],_=> .inl rfl
 |[],_::_,h=>by simp[ltR] at h
 |_::_,[],_=> .inr rfl
 |x::xs,y::ys,h=>by
  unfold ltR at h ⊢;by_cases e:x=y
  ·subst e;rw[if_pos rfl] at h ⊢;rcases ltR_tri xs ys h with r|r
   ·exact .inl (by rw[r])
   ·exact .inr r
  ·rw[if_neg e] at h;rw[if_neg (λz=>e z.symm)];exact .inr ((ltK_tri _ _ h).resolve_left e)
theorem ord_rows(f:Nat->List Key):Ord λi j=>ltR (f i) (f j) where
 asym:=λa b h=>by
  cases e:ltR (f b) (f a) with
  |false=>rfl
  |true=>have:=ltR_tr h e;rw[ltR_irr] at this;cases this
 ntr:=λa b c h1 h2=>by
  cases e:ltR (f a) (f c) with
  |false=>rfl
  |true=>
   rcases ltR_tri _ _ h1 with r|r
   ·rw[r,h2] at e;cases e
   ·have:=ltR_tr r e;rw[h2] at this;cases this
def isL:Key->Bool
 | .inl _=>true
 | .inr _=>false
section
variable{prog:Program}{w:World}{A:Around}{E:Value->Shared->Prop}{s:Shared}
theorem key_lt:∀{x y:Key} {u v:Value} {b:Bool} {C:Bool->Shared->Prop},isL x=isL y->RelV (kV x) u->RelV (kV y) v->C (ltK x y) s->wpAny (model prog w) A (oneLt' b u v) C E s
 | .inl a,.inl c,_,_,true,C,_,⟨t,rfl⟩,⟨t',rfl⟩,h=>oneLt_int h
 | .inl a,.inl c,_,_,false,C,_,⟨t,rfl⟩,⟨t',rfl⟩,h=>kat_one _ _ (PyProof.Rows.lt_int (show PySem.W.BoolBack C _ s from h))
 | .inr a,.inr c,_,_,true,C,_,⟨t,rfl⟩,⟨t',rfl⟩,h=>oneLt_str h
 | .inr a,.inr c,_,_,false,C,_,⟨t,rfl⟩,⟨t',rfl⟩,h=>kat_one _ _ (PySem.P.lt_str (show PySem.W.BoolBack C _ s from h))
 | .inl _,.inr _,_,_,_,_,h,_,_,_=>by cases h
 | .inr _,.inl _,_,_,_,_,h,_,_,_=>by cases h
end
theorem Pm.toList{n:Nat}{p:Array Nat}(h:Pm n p):p.toList.Perm (List.range n):=by
 have:=(Array.perm_iff_toList_perm).mp h;simpa using this
theorem map_range_getD{α:Type}(l:List α)(d:α):(List.range l.length).map (λi=>l.getD i d)=l:=by
 refine List.ext_getElem? λi=> ?_;simp only[List.getElem?_map];by_cases hi:i<l.length
 ·simp[hi]
 ·simp[Nat.le_of_not_lt hi]
theorem Sto.pairwise{lt:Nat->Nat->Bool}{p:Array Nat}{n:Nat}(hz:p.size=n)(h:Sto lt p n):p.toList.Pairwise λi j=>lt j i=false:=by
 rw[List.pairwise_iff_getElem];intro i j hi hj hij;have:=h i j (Nat.le_of_lt hij) (by simpa[<-hz] using hj);simp only[Array.length_toList] at hi hj;have e1:g p i=p.toList[i]:=by simp[g,Array.getD,hi]
 have e2:g p j=p.toList[j]:=by simp[g,Array.getD,hj]
 rw[e1,e2] at this;exact this
theorem vals_map{α:Type}(f:α->V)(f':α->Value)(hf:∀a,RelV (f a) (f' a)):∀l:List α,Vals (l.map f) (l.map f')
 |[]=> .nil
 |a::l=> .cons (hf a) (vals_map f f' hf l)
end Srt
namespace Srt
open PySem PySem.W PyProof.Rows L2
end Srt
namespace Srt
open PySem PySem.W PyProof.Rows L2
end Srt
namespace L2
open PySem PySem.Spec PyProof.Rows
def Itd(lo:Int)(n:Nat):It:=⟨λi _=>i<n,λi H x H'=>H'=H/\x= .int (lo - i),λi _=>n<=i⟩
theorem turn_rangeD{P:Program}{w:World}{K:PySem.W.Frag}{tg:Expr}(it:Addr)(lo:Int)(n:Nat):Turn P w K tg (Itd lo n) [it] it (λi h=>IsRangeIter h it (lo+(i:Nat) * (-1)) ((n:Int) - (i:Nat)) (-1)) where
 mem:=by simp
 obj:=λi h st b hb=>by
  have e:b=it:=by simpa using hb
  subst e;exact⟨_,st,λv z=>by
   have z':Data.fields _=Data.cell v:=z;cases z'⟩
 keep:=λi h h' st k=>k it (by simp) _ st
 item:=by
  intro X hP hw hK hc i pins s σ H E I hf st hg;subst hP hw hK;obtain⟨f0,f1,f2,f3,f4,f5⟩:=hf it (by simp);have W:=Walks.range (prog:=X.prog) (w:=X.w) (I.ok.hd hc) it lo (-1) n;refine W.item i s _ _ hg st λv h' tk hv st' kk=> ?_;obtain⟨t,rfl⟩:=hv;have I1:Inv X pins σ H {s with heap:=h',toks:=tk}:=I.turned (λb o hb e=>kk b o (by simpa using hb) e) f0 f1 f3 f4 f5;refine⟨_,rfl,go_of (s:={s with heap:=h',toks:=tk}) (n:="range_iterator") st' rfl rfl (by decide) ⟨.int (lo - i),H,I1,⟨t,?_⟩,⟨rfl,rfl⟩,st',λb hb=>(hf b hb).1⟩⟩;rw[show lo+(i:Int) * (-1)=lo - i by omega]
 done:=by
  intro X hP hw hK hc i pins s σ H E I hf st hg;subst hP hw hK;obtain⟨f0,f1,f2,f3,f4,f5⟩:=hf it (by simp);exact wpAny_pyNext_range_end (I.ok.hd hc) st (by have:n<=i:=hg;omega) λh' eb=>⟨rfl,I.turned (t':=s.toks) (λb o hb e=>eb b o hb e) f0 f1 f3 f4 f5⟩
 self:=λ_ _ _ _ _ st h=>wpAny_pyIter_rangeiter st h
theorem rangeSize_down(a b:Int):Builtin.Range.rangeSize a b (-1)=if b<a then a - b else 0:=by
 unfold Builtin.Range.rangeSize;simp only[show ¬((-1:Int) > 0) by decide,if_false,show (- (-1:Int))=1 by decide,Int.ediv_one];split<;> omega
theorem small_down{a b:Int}(ha: -(2 ^ 62)<=a)(ha':a<2 ^ 62)(hb: -(2 ^ 62)<=b)(hb':b<2 ^ 62):Builtin.Range.small a b (-1)=true:=by
 unfold Builtin.Range.small;rw[rangeSize_down];simp only[Builtin.Range.rangeFitsLong,Bool.and_eq_true,Bool.or_eq_true,decide_eq_true_eq,beq_iff_eq,show ¬((-1:Int) > 0) by decide,if_false];split<;> omega
section
variable{X:Cx}{tg:Expr}
theorem range_itD{pins:List (Addr×Obj)}{σ:St}{H:Hp}{s:Shared}{R:It->Hp->Prop}{E:Value->Shared->Prop}{lo hi:Int}{t u v:Tok}{tk:Nat}(I:Inv X pins σ H s)(h1: -(2 ^ 62)<=lo)(h2:lo<2 ^ 62)(h3: -(2 ^ 62)<=hi)(h4:hi<2 ^ 62)(q:R (Itd lo (lo - hi).toNat) H):wpAny (model X.prog X.w) X.A (pyIter (.ref s.heap.objs.size)) (PIE X pins σ tg R) E {s with heap:=s.heap.push {cls:= .type "range",data:= .fields #[.int lo t,.int hi u,.int (-1) v]},toks:=tk}:=by
 refine wpAny_pyIter_range (IsRange.new ..) (small_down h1 h2 h3 h4) ?_;have I1:Inv X pins σ H {s with heap:=s.heap.push {cls:= .type "range",data:= .fields #[.int lo t,.int hi u,.int (-1) v]},toks:=tk}:=I.kept λb o e=>Heap.get?_push_of_some _ e;refine⟨(s.heap.push {cls:= .type "range",data:= .fields #[.int lo t,.int hi u,.int (-1) v]}).objs.size,[(s.heap.push {cls:= .type "range",data:= .fields #[.int lo t,.int hi u,.int (-1) v]}).objs.size],_,_,H,rfl,
  I1.kept (t':=tk) λb o e=>Heap.get?_push_of_some _ e,turn_rangeD _ lo (lo - hi).toNat,?_,λb hb=> ?_,q⟩
 ·have e1:lo+((0:Nat):Int) * (-1)=lo:=by simp
  have e2:(((lo - hi).toNat:Nat):Int) - ((0:Nat):Int)=Builtin.Range.rangeSize lo hi (-1):=by rw[rangeSize_down];split<;> omega
  show IsRangeIter _ _ (lo+((0:Nat):Int) * (-1)) ((((lo - hi).toNat:Nat):Int) - ((0:Nat):Int)) (-1);rw[e1,e2];exact Heap.get?_push_size _ rfl
 ·have e:b=(s.heap.push {cls:= .type "range",data:= .fields #[.int lo t,.int hi u,.int (-1) v]}).objs.size:=by simpa using hb
  subst e;exact I1.fpOk (Nat.le_refl _) (I1.hok.fresh (Nat.le_refl _))
def iRngD(ta:TA):TI:=λσ H R=>ta σ H λvs H1=>∃i j:Int,vs=[.int i,.int j,.int (-1)]/\(-(2 ^ 62)<=i/\i<2 ^ 62/\ -(2 ^ 62)<=j/\j<2 ^ 62)/\R (Itd i (i - j).toNat) H1
theorem pi_rangeD{a b c:Expr}{ta:TA}{p pos:Pos}(hg:Gl X "range")(hm:X.mg "range"=none)(ha:PA X [a,b,c] ta)(hs:starEach [a,b,c] X.env=[(false,eval a X.env),(false,eval b X.env),(false,eval c X.env)]:=by rfl)(hs2:starEach [b,c] X.env=[(false,eval b X.env),(false,eval c X.env)]:=by rfl):
  PI X tg (.Call (.Name "range" p) [a,b,c] [] pos) (iRngD ta):=by
 intro pins s σ H R I h;refine Call_ (ld_blt I hg hm boot_range (PyProof.Rows.callWith_type1 (thn (ha pos pins s σ H _ I h) λus s1 ⟨vs,H1,I1,r1,q1⟩=> ?_) (by rw[hs,hs2]) (by rw[hs2];rfl)));obtain⟨i,j,e,⟨q1,q2,q3,q4⟩,q⟩:=q1;subst e;cases r1 with
 |cons r rr=>
  cases rr with
  |cons r' rr=>
   cases rr with
   |cons r2 rr=>
    cases rr;obtain⟨t,rfl⟩:=r;obtain⟨t',rfl⟩:=r';obtain⟨t2,rfl⟩:=r2;exact call_range_3 (by decide) (range_itD I1 q1 q2 q3 q4 q)
end
theorem for_rangeD{lo:Int}{n:Nat}{g:TG}{tb:TS}{D:Ends}{σ:St}{H:Hp}(Pv:Nat->St->Hp->Prop)(h0:Pv 0 σ H)(hs:∀i σ H,i<n->Pv i σ H->g (.int (lo - i)) σ H λσ2 H2=>tb {D with nx:=Pv (i+1),ct:=Pv (i+1),bk:=D.nx} σ2 H2)(hd:∀σ H,Pv n σ H->D.nx σ H):
  ∃W:Nat->Nat->St->Hp->Prop,(∃m,W 0 m σ H)/\∀i m σ H,W i m σ H->
   ((Itd lo n).stop i H/\D.nx σ H)\/((Itd lo n).go i H/\∃N:St->Hp->Prop,(∀σ' H',N σ' H'->∃m',m'<m/\W (i+1) m' σ' H')/\∀x H',(Itd lo n).yld i H x H'->g x σ H' λσ2 H2=>tb {D with nx:=N,ct:=N,bk:=D.nx} σ2 H2):=by
 refine⟨λi m σ H=>m=n - i/\i<=n/\Pv i σ H,⟨n,by simp,Nat.zero_le _,h0⟩,?_⟩;rintro i m σ H ⟨rfl,hi,p⟩;by_cases hlt:i<n
 ·refine .inr ⟨hlt,Pv (i+1),λσ' H' p'=>⟨n - (i+1),by omega,rfl,hlt,p'⟩,λx H' y=> ?_⟩;obtain⟨e,y⟩:=y;subst e y;exact hs i σ _ hlt p
 ·have e:i=n:=by omega
  subst e;exact .inl ⟨Nat.le_refl _,hd σ H p⟩
end L2
namespace L2
open PySem PySem.Spec PyProof.Rows
end L2
namespace PySem
end PySem
namespace PySem
end PySem
namespace L2
open PySem PySem.Spec PyProof.Rows
end L2
namespace HT
open PySem PyProof.Rows
end HT
namespace L2
open PySem PySem.Spec PyProof.Rows
end L2
namespace HT
open PySem PyProof.Rows L2
section
open PySem.SeqAt
open PySem.AutoSeq1 (wpAny_loadPart')
open PySem.MeetsSeq PySem.MeetsSeq2 PySem.MeetsSeq3
end
end HT
namespace L2
open PySem PySem.Spec PyProof.Rows
end L2
namespace L2
open PySem PySem.Spec PyProof.Rows
theorem op_neNil{X:Cx}(hu:X.A.units+64<cLine):OpR X (compareOp .NotEq) (λx y H Q=>∃(a b:Addr) (xs:List V),x= .ref a/\y= .ref b/\SqL X.K H a xs/\SqL X.K H b []/\Q (.bl (!xs.isEmpty)) H):=by
 intro pins s σ H x y u v Q I rx ry h;obtain⟨a,b,xs,rfl,rfl,ha,hb,q⟩:=h;cases rx;cases ry;cases xs with
 |nil=>exact op_neD hu pins s σ H (.ref a) (.ref b) _ _ Q I rfl rfl ⟨.list [],.list [],.lst ha .nil,.lst hb .nil,rfl,rfl,by decide,q⟩
 |cons x xs=>
  obtain⟨its,r1,h1,_⟩:=I.list ha;obtain⟨its2,r2,h2,_⟩:=I.list hb;have l1:=r1.length;have l2:=r2.length;refine SeqAt.RcNeAt.lists_lengths h1.isList h2.isList (by simp at l1 l2 ⊢;omega) (by omega) X.prog X.w _ _ ⟨.bl _,H,I,rfl,q⟩
end L2
namespace L2
open PySem PySem.Spec PyProof.Rows
theorem for_enumT{K:PySem.W.Frag}{a:Addr}{xs:List V}{g:TG}{tb:TS}{D:Ends}{σ:St}{H:Hp}(Pv:Nat->St->Hp->Prop)(h0:Pv 0 σ H)(hl:∀i σ H,i<=xs.length->Pv i σ H->SqT K H a xs)(hs:∀i x σ H T,xs[i]? =some x->Pv i σ H->H T=none->g (.ref T) σ (upd H T (.tup [.int (i:Nat),x])) λσ2 H2=>tb {D with nx:=Pv (i+1),ct:=Pv (i+1),bk:=D.nx} σ2 H2)(hd:∀σ H,Pv xs.length σ H->D.nx σ H):
  ∃W:Nat->Nat->St->Hp->Prop,(∃m,W 0 m σ H)/\∀i m σ H,W i m σ H->
   ((IteT K a).stop i H/\D.nx σ H)\/((IteT K a).go i H/\∃N:St->Hp->Prop,(∀σ' H',N σ' H'->∃m',m'<m/\W (i+1) m' σ' H')/\∀x H',(IteT K a).yld i H x H'->g x σ H' λσ2 H2=>tb {D with nx:=N,ct:=N,bk:=D.nx} σ2 H2):=by
 refine⟨λi m σ H=>m=xs.length - i/\i<=xs.length/\Pv i σ H,⟨xs.length,by simp,Nat.zero_le _,h0⟩,?_⟩;rintro i m σ H ⟨rfl,hi,p⟩;have q:=hl i σ H hi p;by_cases hlt:i<xs.length
 ·refine .inr ⟨⟨xs,xs[i],q,by simp[hlt]⟩,Pv (i+1),λσ' H' p'=>⟨xs.length - (i+1),by omega,rfl,hlt,p'⟩,λx H' y=> ?_⟩;obtain⟨T,z,hT,rfl,rfl,y⟩:=y;exact hs i z σ H T (y xs q) p hT
 ·have e:i=xs.length:=by omega
  subst e;exact .inl ⟨⟨xs,q,rfl⟩,hd σ H p⟩
end L2
namespace L2
open PySem PySem.Spec PyProof.Rows
end L2
namespace PySem
open PyProof.Rows
end PySem
namespace L2
open PySem PySem.Spec PyProof.Rows
end L2
namespace PySem
open PyProof.Rows
namespace F
end F
end PySem
namespace L2
open PySem PySem.Spec PyProof.Rows
end L2
namespace Wk
open PySem
abbrev T4:=Str×Nat×Nat×Int
def nbT(v:Nat)(t:T4):List (Str×Nat):=(if t.2.1=v then [(t.1,t.2.2.1)] else [])++(if t.2.2.1=v then [(t.1,t.2.1)] else [])
def Bj(S:List T4)(v:Nat):List (Str×Nat):=S.flatMap (nbT v)
abbrev Ws:=List (Option (List Str))
def By(w:List Str):List (Str×Nat)->Ws×List Nat->Ws×List Nat
 |[],st=>st
 |(n,u)::r,st=>if st.1[u]? =some none then By w r (st.1.set u (some (w++[n])),st.2++[u]) else By w r st
def bstep(S:List T4)(st:Ws×List Nat):Ws×List Nat:=
 match st.2 with
 |[]=>st
 |h::rest=>By ((st.1[h]?.join).getD []) (Bj S h) (st.1,rest)
def Cq(N p:Nat):Ws×List Nat:=((List.replicate N none).set p (some []),[p])
def iter(S:List T4):Nat->Ws×List Nat->Ws×List Nat
 |0,st=>st
 |n+1,st=>iter S n (bstep S st)
def waysF(N:Nat)(S:List T4)(p:Nat):Ws:=(iter S 64 (Cq N p)).1
theorem iter_nil{S:List T4}:∀(n:Nat) {ws:Ws},iter S n (ws,[])=(ws,[])
 |0,_=>rfl
 |n+1,ws=>iter_nil n (ws:=ws)
theorem iter_snoc{S:List T4}:∀(n:Nat) (st:Ws×List Nat),iter S (n+1) st=bstep S (iter S n st)
 |0,st=>rfl
 |n+1,st=>iter_snoc n (bstep S st)
theorem iter_add{S:List T4}(m:Nat):∀(n:Nat) (st:Ws×List Nat),iter S (n+m) st=iter S m (iter S n st)
 |0,st=>by rw[Nat.zero_add];rfl
 |n+1,st=>by rw[show n+1+m=(n+m)+1 by omega];exact iter_add m n (bstep S st)
theorem ways_of{N p i:Nat}{S:List T4}{ws:Ws}(h:iter S i (Cq N p)=(ws,[]))(hi:i<=64):waysF N S p=ws:=by
 unfold waysF;rw[show 64=i+(64 - i) by omega,iter_add,h,iter_nil]
inductive Lead(S:List T4)(a:Nat):List Str->Nat->Prop
 |nil:Lead S a [] a
 |snoc {ws:List Str} {b c:Nat} {n:Str}:Lead S a ws b->(n,c)∈Bj S b->Lead S a (ws++[n]) c
def nones(ws:Ws):Nat:=ws.countP (·==none)
def Vis(ws:Ws)(v:Nat)(w:List Str):Prop:=ws[v]? =some (some w)
structure PInv(S:List T4)(N p h:Nat)(w:List Str)(st:Ws×List Nat):Prop where
 len:st.1.length=N
 lead:∀v x,Vis st.1 v x->Lead S p x v
 vis:∀v∈st.2,∃x,Vis st.1 v x
 done:∀v x,Vis st.1 v x->v∈st.2\/v=h\/∀nb∈Bj S v,∃y,Vis st.1 nb.2 y/\y.length<=x.length+1
 sorted:st.2.Pairwise λa b=>∀x y,Vis st.1 a x->Vis st.1 b y->x.length<=y.length
 top:∀v x b y,Vis st.1 v x->b∈st.2->Vis st.1 b y->x.length<=y.length+1
 hv:Vis st.1 h w
 ht:∀v x,Vis st.1 v x->x.length<=w.length+1
 hb:∀b y,b∈st.2->Vis st.1 b y->w.length<=y.length
theorem Bq{ws:Ws}{u:Nat}{z:List Str}(hu:ws[u]? =some none){v:Nat}{x:List Str}:Vis (ws.set u (some z)) v x↔(v=u/\x=z)\/Vis ws v x:=by
 unfold Vis;have hl:u<ws.length:=(List.getElem?_eq_some_iff.mp hu).1;rw[List.getElem?_set];by_cases e:u=v
 ·subst e;rw[if_pos rfl,if_pos hl,hu];constructor
  ·intro q;left;exact⟨rfl,by simpa using q.symm⟩
  ·rintro(⟨_,rfl⟩|q)
   ·rfl
   ·simp at q
 ·rw[if_neg e];constructor
  ·exact .inr
  ·rintro(⟨rfl,_⟩|q)
   ·exact absurd rfl e
   ·exact q
theorem vis_inj{ws:Ws}{v:Nat}{x y:List Str}(a:Vis ws v x)(b:Vis ws v y):x=y:=by
 unfold Vis at a b;rw[a] at b;simpa using b
theorem visit_ok{S:List T4}{N p h:Nat}{w:List Str}:∀(L:List (Str×Nat)) (st:Ws×List Nat),PInv S N p h w st->(∀nb∈L,nb∈Bj S h/\nb.2<N)->
  PInv S N p h w (By w L st)/\(∀v x,Vis st.1 v x->Vis (By w L st).1 v x)/\(∀nb∈L,∃y,Vis (By w L st).1 nb.2 y/\y.length<=w.length+1)/\nones (By w L st).1+(By w L st).2.length=nones st.1+st.2.length
 |[],st,I,_=>⟨I,λ_ _ e=>e,λnb h=>(by cases h),rfl⟩
 |(n,u)::r,st,I,hL=>by
  have hr:∀nb∈r,nb∈Bj S h/\nb.2<N:=λnb q=>hL nb (List.mem_cons_of_mem _ q);have hn:=hL (n,u) (List.mem_cons_self ..);have hu:u<st.1.length:=by rw[I.len];exact hn.2
  unfold By;by_cases e:st.1[u]? =some none
  ·rw[if_pos e];have I':PInv S N p h w (st.1.set u (some (w++[n])),st.2++[u]):=by
    have nu:∀x,¬Vis st.1 u x:=λx q=>by unfold Vis at q;rw[e] at q;simp at q
    refine⟨by simp[I.len],?_,?_,?_,?_,?_,?_,?_,?_⟩
    ·intro v x q;rcases(Bq e).mp q with⟨rfl,rfl⟩|q
     ·exact .snoc (I.lead h w I.hv) hn.1
     ·exact I.lead v x q
    ·intro v q;rcases List.mem_append.mp q with q|q
     ·obtain⟨x,hx⟩:=I.vis v q;exact⟨x,(Bq e).mpr (.inr hx)⟩
     ·rw[List.mem_singleton.mp q];exact⟨_,(Bq e).mpr (.inl ⟨rfl,rfl⟩)⟩
    ·intro v x q;rcases(Bq e).mp q with⟨rfl,rfl⟩|q
     ·exact .inl (List.mem_append_right _ (List.mem_singleton.mpr rfl))
     ·rcases I.done v x q with a|a|a
      ·exact .inl (List.mem_append_left _ a)
      ·exact .inr (.inl a)
      ·exact .inr (.inr λnb hb=>let ⟨y,hy,hl⟩:=a nb hb;⟨y,(Bq e).mpr (.inr hy),hl⟩)
    ·refine List.pairwise_append.mpr ⟨?_,List.pairwise_singleton ..,?_⟩
     ·refine(List.Pairwise.imp_of_mem ?_ I.sorted);intro a b ha hb k x y hx hy;have hx':Vis st.1 a x:=by
       rcases(Bq e).mp hx with⟨rfl,_⟩|q
       ·obtain⟨z,hz⟩:=I.vis _ ha;exact absurd hz (nu z)
       ·exact q
      have hy':Vis st.1 b y:=by
       rcases(Bq e).mp hy with⟨rfl,_⟩|q
       ·obtain⟨z,hz⟩:=I.vis _ hb;exact absurd hz (nu z)
       ·exact q
      exact k x y hx' hy'
     ·intro a ha b hb x y hx hy;rw[List.mem_singleton.mp hb] at hy;rcases(Bq e).mp hy with⟨_,rfl⟩|q
      ·rcases(Bq e).mp hx with⟨_,rfl⟩|q
       ·exact Nat.le_refl _
       ·have:=I.ht a x q;simp only[List.length_append,List.length_cons,List.length_nil];assumption
      ·exact absurd q (nu y)
    ·intro v x b y hx hb hy;have hx1:x.length<=w.length+1:=by
      rcases(Bq e).mp hx with⟨_,rfl⟩|q
      ·simp
      ·exact I.ht v x q
     have hy1:w.length<=y.length:=by
      rcases(Bq e).mp hy with⟨_,rfl⟩|q
      ·simp
      ·rcases List.mem_append.mp hb with hb|hb
       ·exact I.hb b y hb q
       ·rw[List.mem_singleton.mp hb] at q;exact absurd q (nu y)
     omega
    ·exact(Bq e).mpr (.inr I.hv)
    ·intro v x hx;rcases(Bq e).mp hx with⟨_,rfl⟩|q
     ·simp
     ·exact I.ht v x q
    ·intro b y hb hy;rcases(Bq e).mp hy with⟨_,rfl⟩|q
     ·simp
     ·rcases List.mem_append.mp hb with hb|hb
      ·exact I.hb b y hb q
      ·rw[List.mem_singleton.mp hb] at q;exact absurd q (nu y)
   obtain⟨a,b,c,d⟩:=visit_ok r _ I' hr;refine⟨a,λv x q=>b v x ((Bq e).mpr (.inr q)),λnb q=> ?_,?_⟩
   ·rcases List.mem_cons.mp q with rfl|q
    ·exact⟨_,b _ _ ((Bq e).mpr (.inl ⟨rfl,rfl⟩)),by simp⟩
    ·exact c nb q
   ·rw[d];have:nones (st.1.set u (some (w++[n])))+1=nones st.1:=by
     unfold nones;have hg:st.1[u]=none:=by have:=List.getElem?_eq_some_iff.mp e;exact this.2
     rw[List.countP_set (h:=hu),hg];have:0<st.1.countP (·==none):=List.countP_pos_iff.mpr ⟨none,by rw[<-hg];exact List.getElem_mem hu,rfl⟩;simp only[beq_self_eq_true,if_true];show st.1.countP (·==none) - 1+0+1=_;omega
    simp only[List.length_append,List.length_cons,List.length_nil];omega
  ·rw[if_neg e];obtain⟨a,b,c,d⟩:=visit_ok r st I hr;refine⟨a,b,λnb q=> ?_,d⟩;rcases List.mem_cons.mp q with rfl|q
   ·have:∃y,Vis st.1 u y:=by
     cases hh:st.1[u]? with
     |none=>rw[List.getElem?_eq_getElem hu] at hh;cases hh
     |some z=>cases z with
      |none=>exact absurd hh e
      |some y=>exact⟨y,hh⟩
    obtain⟨y,hy⟩:=this;exact⟨y,b _ _ hy,I.ht _ _ hy⟩
   ·exact c nb q
structure BInv(S:List T4)(N p:Nat)(st:Ws×List Nat):Prop where
 len:st.1.length=N
 p0:Vis st.1 p []
 lead:∀v x,Vis st.1 v x->Lead S p x v
 vis:∀v∈st.2,∃x,Vis st.1 v x
 done:∀v x,Vis st.1 v x->v∈st.2\/∀nb∈Bj S v,∃y,Vis st.1 nb.2 y/\y.length<=x.length+1
 sorted:st.2.Pairwise λa b=>∀x y,Vis st.1 a x->Vis st.1 b y->x.length<=y.length
 top:∀v x b y,Vis st.1 v x->b∈st.2->Vis st.1 b y->x.length<=y.length+1
def InN(N:Nat)(S:List T4):Prop:=∀t∈S,t.2.1<N/\t.2.2.1<N
theorem nb_lt{N:Nat}{S:List T4}(h:InN N S){v:Nat}{nb:Str×Nat}(q:nb∈Bj S v):nb.2<N:=by
 obtain⟨t,ht,q⟩:=List.mem_flatMap.mp q;have:=h t ht;unfold nbT at q;rcases List.mem_append.mp q with q|q
 ·split at q
  ·rw[List.mem_singleton.mp q];exact this.2
  ·cases q
 ·split at q
  ·rw[List.mem_singleton.mp q];exact this.1
  ·cases q
theorem binv0{S:List T4}{N p:Nat}(hp:p<N):BInv S N p (Cq N p):=by
 have hu:(List.replicate N (none:Option (List Str)))[p]? =some none:=by rw[List.getElem?_replicate];rw[if_pos hp]
 have nv:∀v x,¬Vis (List.replicate N (none:Option (List Str))) v x:=λv x q=>by
  unfold Vis at q;rw[List.getElem?_replicate] at q;split at q<;> simp at q
 have key:∀v x,Vis (Cq N p).1 v x->v=p/\x=[]:=λv x q=>by
  rcases(Bq hu).mp q with q|q
  ·exact q
  ·exact absurd q (nv v x)
 refine⟨by simp[Cq],(Bq hu).mpr (.inl ⟨rfl,rfl⟩),?_,?_,?_,?_,?_⟩
 ·intro v x q;obtain⟨rfl,rfl⟩:=key v x q;exact .nil
 ·intro v q;rw[List.mem_singleton.mp q];exact⟨_,(Bq hu).mpr (.inl ⟨rfl,rfl⟩)⟩
 ·intro v x q;obtain⟨rfl,rfl⟩:=key v x q;exact .inl (List.mem_singleton.mpr rfl)
 ·exact List.pairwise_singleton ..
 ·intro v x b y q _ q2;obtain⟨rfl,rfl⟩:=key v x q;simp
theorem binit_vis{N p:Nat}(hp:p<N){v:Nat}{x:List Str}(q:Vis (Cq N p).1 v x):x=[]:=by
 have hu:(List.replicate N (none:Option (List Str)))[p]? =some none:=by rw[List.getElem?_replicate];rw[if_pos hp]
 rcases(Bq hu).mp q with q|q
 ·exact q.2
 ·unfold Vis at q;rw[List.getElem?_replicate] at q;split at q<;> simp at q
theorem pinv_of{S:List T4}{N p h:Nat}{ws:Ws}{rest:List Nat}(I:BInv S N p (ws,h::rest)):∃w,Vis ws h w/\PInv S N p h w (ws,rest):=by
 obtain⟨w,hw⟩:=I.vis h (List.mem_cons_self ..);refine⟨w,hw,I.len,I.lead,λv q=>I.vis v (List.mem_cons_of_mem _ q),?_,(List.pairwise_cons.mp I.sorted).2,λv x b y a q=>I.top v x b y a (List.mem_cons_of_mem _ q),hw,λv x q=>I.top v x h w q (List.mem_cons_self ..) hw,λb y q hb=>(List.pairwise_cons.mp I.sorted).1 b q w y hw hb⟩;intro v x q;rcases I.done v x q with a|a
 ·rcases List.mem_cons.mp a with rfl|a
  ·exact .inr (.inl rfl)
  ·exact .inl a
 ·exact .inr (.inr a)
theorem bstep_ok{S:List T4}{N p h:Nat}{ws:Ws}{rest:List Nat}(hS:InN N S)(I:BInv S N p (ws,h::rest)):
  BInv S N p (bstep S (ws,h::rest))/\nones (bstep S (ws,h::rest)).1+(bstep S (ws,h::rest)).2.length+1=nones ws+(h::rest).length:=by
 obtain⟨w,hw,J⟩:=pinv_of I;have e:bstep S (ws,h::rest)=By w (Bj S h) (ws,rest):=by
  show By ((ws[h]?.join).getD []) (Bj S h) (ws,rest)=_;unfold Vis at hw;rw[hw];rfl
 rw[e];obtain⟨a,b,c,d⟩:=visit_ok (Bj S h) (ws,rest) J λnb q=>⟨q,nb_lt hS q⟩
 refine⟨⟨a.len,b _ _ I.p0,a.lead,a.vis,?_,a.sorted,a.top⟩,by rw[d];rfl⟩;intro v x q;rcases a.done v x q with r|rfl|r
 ·exact .inl r
 ·refine .inr λnb hb=> ?_;have:=vis_inj q a.hv;subst this;exact c nb hb
 ·exact .inr r
theorem iter_ok{S:List T4}{N p:Nat}(hS:InN N S):∀(n:Nat) (st:Ws×List Nat),BInv S N p st->BInv S N p (iter S n st)/\((iter S n st).2=[]\/nones (iter S n st).1+(iter S n st).2.length+n=nones st.1+st.2.length)
 |0,st,I=>⟨I,.inr rfl⟩
 |n+1,(ws,[]),I=>by
  have e:iter S (n+1) (ws,[])=(ws,[]):=iter_nil (n+1);rw[e];exact⟨I,.inl rfl⟩
 |n+1,(ws,h::rest),I=>by
  obtain⟨a,b⟩:=bstep_ok hS I;obtain⟨c,d⟩:=iter_ok hS n _ a;refine⟨c,?_⟩;rcases d with d|d
  ·exact .inl d
  ·refine .inr ?_;show nones (iter S n (bstep S (ws,h::rest))).1+(iter S n (bstep S (ws,h::rest))).2.length+(n+1)=nones ws+(h::rest).length;omega
theorem ways_end{S:List T4}{N p:Nat}(hS:InN N S)(hp:p<N)(hN:N<=60):∃ws,iter S 64 (Cq N p)=(ws,[])/\BInv S N p (ws,[]):=by
 obtain⟨a,b⟩:=iter_ok hS 64 (Cq N p) (binv0 hp);have:nones (Cq N p).1+(Cq N p).2.length<=N+1:=by
  have:nones (Cq N p).1<=(Cq N p).1.length:=List.countP_le_length;simp only[Cq,List.length_set,List.length_replicate,List.length_singleton] at this ⊢;exact Nat.succ_le_succ (by assumption)
 have e:(iter S 64 (Cq N p)).2=[]:=by
  rcases b with b|b
  ·exact b
  ·omega
 refine⟨(iter S 64 (Cq N p)).1,Prod.ext rfl e,?_⟩;have:iter S 64 (Cq N p)=((iter S 64 (Cq N p)).1,[]):=Prod.ext rfl e;rw[this] at a;exact a
theorem ways_len{S:List T4}{N p:Nat}(hS:InN N S)(hp:p<N)(hN:N<=60):(waysF N S p).length=N:=by
 obtain⟨ws,e,I⟩:=ways_end hS hp hN;rw[ways_of e (Nat.le_refl _)];exact I.len
theorem ways_lead{S:List T4}{N p:Nat}(hS:InN N S)(hp:p<N)(hN:N<=60){v:Nat}{x:List Str}(h:Vis (waysF N S p) v x):Lead S p x v:=by
 obtain⟨ws,e,I⟩:=ways_end hS hp hN;rw[ways_of e (Nat.le_refl _)] at h;exact I.lead v x h
theorem ways_least{S:List T4}{N p:Nat}(hS:InN N S)(hp:p<N)(hN:N<=60){v:Nat}{x:List Str}(h:Lead S p x v):∃y,Vis (waysF N S p) v y/\y.length<=x.length:=by
 obtain⟨ws,e,I⟩:=ways_end hS hp hN;rw[ways_of e (Nat.le_refl _)]
 induction h with
 |nil=>exact⟨[],I.p0,Nat.le_refl _⟩
 |snoc a b ih=>
  obtain⟨y,hy,hl⟩:=ih;rcases I.done _ _ hy with q|q
  ·cases q
  ·obtain⟨z,hz,hl2⟩:=q _ b;exact⟨z,hz,by simp only[List.length_append,List.length_cons,List.length_nil] at hl2 ⊢;omega⟩
def Ar(N:Nat)(S:List T4)(p:Nat):List Nat:=(List.range N).filter λv=>((waysF N S p)[v]?.join).isSome
def Reach(S:List T4)(a b:Nat):Prop:=∃ws,Lead S a ws b
theorem vis_iff{ws:Ws}{v:Nat}:(ws[v]?.join).isSome=true↔∃x,Vis ws v x:=by
 unfold Vis;cases ws[v]? with
 |none=>simp
 |some z=>cases z<;> simp
theorem A6{S:List T4}{N p v:Nat}(hS:InN N S)(hp:p<N)(hN:N<=60):v∈Ar N S p↔v<N/\Reach S p v:=by
 unfold Ar;rw[List.mem_filter,List.mem_range,vis_iff];constructor
 ·rintro⟨a,x,hx⟩;exact⟨a,x,ways_lead hS hp hN hx⟩
 ·rintro⟨a,x,hx⟩;obtain⟨y,hy,_⟩:=ways_least hS hp hN hx;exact⟨a,y,hy⟩
theorem Reach.refl{S:List T4}{a:Nat}:Reach S a a:=⟨[],.nil⟩
theorem nb_symm{S:List T4}{a b:Nat}{n:Str}(h:(n,b)∈Bj S a):(n,a)∈Bj S b:=by
 obtain⟨t,ht,q⟩:=List.mem_flatMap.mp h;refine List.mem_flatMap.mpr ⟨t,ht,?_⟩;unfold nbT at q ⊢;rcases List.mem_append.mp q with q|q
 ·split at q
  ·rename_i e;have:=List.mem_singleton.mp q;cases this;refine List.mem_append_right _ ?_;rw[if_pos rfl,e];exact List.mem_singleton.mpr rfl
  ·cases q
 ·split at q
  ·rename_i e;have:=List.mem_singleton.mp q;cases this;refine List.mem_append_left _ ?_;rw[if_pos rfl,e];exact List.mem_singleton.mpr rfl
  ·cases q
theorem Reach.trans{S:List T4}{a b c:Nat}(h:Reach S a b)(g:Reach S b c):Reach S a c:=by
 obtain⟨x,hx⟩:=h;obtain⟨y,hy⟩:=g
 induction hy with
 |nil=>exact⟨x,hx⟩
 |snoc _ q ih=>obtain⟨z,hz⟩:=ih;exact⟨_,.snoc hz q⟩
theorem Reach.step{S:List T4}{a b:Nat}{n:Str}(h:(n,b)∈Bj S a):Reach S a b:=⟨[]++[n],.snoc .nil h⟩
theorem Reach.symm{S:List T4}{a b:Nat}(h:Reach S a b):Reach S b a:=by
 obtain⟨x,hx⟩:=h
 induction hx with
 |nil=>exact .refl
 |snoc _ q ih=>exact(Reach.step (nb_symm q)).trans ih
theorem nb_of{S:List T4}{t:T4}(h:t∈S):(t.1,t.2.2.1)∈Bj S t.2.1:=List.mem_flatMap.mpr ⟨t,h,List.mem_append_left _ (by rw[if_pos rfl];exact List.mem_singleton.mpr rfl)⟩
theorem nb_elim{S:List T4}{a b:Nat}{n:Str}(h:(n,b)∈Bj S a):∃t∈S,t.1=n/\((t.2.1=a/\t.2.2.1=b)\/(t.2.2.1=a/\t.2.1=b)):=by
 obtain⟨t,ht,q⟩:=List.mem_flatMap.mp h;refine⟨t,ht,?_⟩;unfold nbT at q;rcases List.mem_append.mp q with q|q
 ·split at q
  ·rename_i e;have:=List.mem_singleton.mp q;cases this;exact⟨rfl,.inl ⟨e,rfl⟩⟩
  ·cases q
 ·split at q
  ·rename_i e;have:=List.mem_singleton.mp q;cases this;exact⟨rfl,.inr ⟨e,rfl⟩⟩
  ·cases q
def relab(l:List Nat)(lo hi:Nat):List Nat:=l.map λx=>if x=hi then lo else x
def labS(l:List Nat)(t:T4):List Nat:=relab l (min (l.getD t.2.1 0) (l.getD t.2.2.1 0)) (max (l.getD t.2.1 0) (l.getD t.2.2.1 0))
def labF(N:Nat)(S:List T4):List Nat:=S.foldl labS (List.range N)
theorem labS_len(l:List Nat)(t:T4):(labS l t).length=l.length:=by simp[labS,relab]
theorem relab_get{l:List Nat}{lo hi v:Nat}(hv:v<l.length):(relab l lo hi).getD v 0=if l.getD v 0=hi then lo else l.getD v 0:=by
 unfold relab;rw[List.getD_eq_getElem?_getD,List.getElem?_map,List.getElem?_eq_getElem hv,List.getD_eq_getElem?_getD,List.getElem?_eq_getElem hv];rfl
theorem labS_get{l:List Nat}{t:T4}{v:Nat}(hv:v<l.length):(labS l t).getD v 0=if l.getD v 0=max (l.getD t.2.1 0) (l.getD t.2.2.1 0) then min (l.getD t.2.1 0) (l.getD t.2.2.1 0) else l.getD v 0:=relab_get hv
theorem labs_keep{u v:Nat}(S:List T4):∀l:List Nat,u<l.length->v<l.length->l.getD u 0=l.getD v 0->(S.foldl labS l).getD u 0=(S.foldl labS l).getD v 0:=by
 induction S with
 |nil=>intro l _ _ h;exact h
 |cons t S ih=>
  intro l hu hv h;rw[List.foldl_cons];exact ih _ (by rw[labS_len];exact hu) (by rw[labS_len];exact hv) (by rw[labS_get hu,labS_get hv,h])
theorem labs_tie{N:Nat}(S:List T4):∀l:List Nat,l.length=N->InN N S->∀t∈S,(S.foldl labS l).getD t.2.1 0=(S.foldl labS l).getD t.2.2.1 0:=by
 induction S with
 |nil=>intro l _ _ t h;cases h
 |cons t S ih=>
  intro l hl hN t' h;rw[List.foldl_cons];rcases List.mem_cons.mp h with rfl|h
  ·have:=hN t' (List.mem_cons_self ..);refine labs_keep S _ (by rw[labS_len];omega) (by rw[labS_len];omega) ?_;rw[labS_get (by omega),labS_get (by omega)];split<;> split<;> omega
  ·exact ih _ (by rw[labS_len];exact hl) (λx q=>hN x (List.mem_cons_of_mem _ q)) t' h
theorem nbrs_mono{S S':List T4}(h:∀t∈S,t∈S'){v:Nat}{nb:Str×Nat}(q:nb∈Bj S v):nb∈Bj S' v:=by
 obtain⟨t,ht,q⟩:=List.mem_flatMap.mp q;exact List.mem_flatMap.mpr ⟨t,h t ht,q⟩
theorem Reach.mono{S S':List T4}(h:∀t∈S,t∈S'){a b:Nat}(q:Reach S a b):Reach S' a b:=by
 obtain⟨x,hx⟩:=q
 induction hx with
 |nil=>exact .refl
 |snoc _ q ih=>exact ih.trans (.step (nbrs_mono h q))
theorem labs_reach{N:Nat}{S0:List T4}(S:List T4):∀l:List Nat,l.length=N->InN N S->(∀t∈S,t∈S0)->(∀u v,u<N->v<N->l.getD u 0=l.getD v 0->Reach S0 u v)->∀u v,u<N->v<N->(S.foldl labS l).getD u 0=(S.foldl labS l).getD v 0->Reach S0 u v:=by
 induction S with
 |nil=>intro l _ _ _ h;exact h
 |cons t S ih=>
  intro l hl hN hS h;rw[List.foldl_cons];refine ih _ (by rw[labS_len];exact hl) (λx q=>hN x (List.mem_cons_of_mem _ q)) (λx q=>hS x (List.mem_cons_of_mem _ q)) ?_;intro u v hu hv e;have ht:=hN t (List.mem_cons_self ..);have tt:Reach S0 t.2.1 t.2.2.1:= .step (nb_of (hS t (List.mem_cons_self ..)));rw[labS_get (by omega),labS_get (by omega)] at e;have q1:∀x,x<N->(l.getD x 0=max (l.getD t.2.1 0) (l.getD t.2.2.1 0)\/l.getD x 0=min (l.getD t.2.1 0) (l.getD t.2.2.1 0))->Reach S0 x t.2.1:=by
   intro x hx hm;have:l.getD x 0=l.getD t.2.1 0\/l.getD x 0=l.getD t.2.2.1 0:=by omega
   rcases this with q|q
   ·exact h x _ hx ht.1 q
   ·exact(h x _ hx ht.2 q).trans tt.symm
  split at e
  ·split at e
   ·exact(q1 u hu (.inl (by assumption))).trans (q1 v hv (.inl (by assumption))).symm
   ·exact(q1 u hu (.inl (by assumption))).trans (q1 v hv (.inr e.symm)).symm
  ·split at e
   ·exact(q1 u hu (.inr e)).trans (q1 v hv (.inl (by assumption))).symm
   ·exact h u v hu hv e
theorem lab_iff{N:Nat}{S:List T4}(hS:InN N S){u v:Nat}(hu:u<N)(hv:v<N):(labF N S).getD u 0=(labF N S).getD v 0↔Reach S u v:=by
 constructor
 ·refine labs_reach S (List.range N) (List.length_range ..) hS (λ_ h=>h) ?_ u v hu hv;intro a b ha hb e;rw[List.getD_eq_getElem?_getD,List.getElem?_range ha,List.getD_eq_getElem?_getD,List.getElem?_range hb] at e;have:a=b:=e;subst this;exact .refl
 ·rintro⟨x,hx⟩
  induction hx with
  |nil=>rfl
  | @snoc ws b c n a q ih=>
   have hb:b<N:=by
    cases a with
    |nil=>exact hu
    |snoc _ r=>exact nb_lt hS r
   have hc:c<N:=nb_lt hS q;refine(ih hb).trans ?_;obtain⟨t,ht,_,h⟩:=nb_elim q;have:=labs_tie S (List.range N) (List.length_range ..) hS t ht;rcases h with⟨rfl,rfl⟩|⟨rfl,rfl⟩
   ·exact this
   ·exact this.symm
theorem part_lab{N p:Nat}{S:List T4}(hS:InN N S)(hp:p<N)(hN:N<=60):Ar N S p=(List.range N).filter λv=>decide ((labF N S).getD v 0=(labF N S).getD p 0):=by
 refine List.filter_congr λv hv=> ?_;have hv:=List.mem_range.mp hv;rw[Bool.eq_iff_iff,decide_eq_true_eq,lab_iff hS hv hp];have:=A6 (v:=v) hS hp hN;unfold Ar at this;rw[List.mem_filter,List.mem_range] at this;constructor
 ·intro h;exact(this.mp ⟨hv,h⟩).2.symm
 ·intro h;exact(this.mpr ⟨hv,h.symm⟩).2
end Wk
namespace L2
open PySem
theorem while_gh{c:TT}{tb:TS}{D:Ends}{σ:St}{H:Hp}(Pv:Nat->St->Hp->Prop){m0:Nat}(h0:Pv m0 σ H)(hs:∀m σ H,Pv m σ H->c σ H λb H1=>if b=true then tb {D with nx:=λσ' H'=>∃m',m'<m/\Pv m' σ' H',ct:=λσ' H'=>∃m',m'<m/\Pv m' σ' H',bk:=D.nx} σ H1 else D.nx σ H1)(mono:∀σ H Q Q',(∀b H1,Q b H1->Q' b H1)->c σ H Q->c σ H Q'):tWhile c tb D σ H:=by
 refine⟨Pv,⟨m0,h0⟩,λm σ H p=> ?_⟩;refine mono σ H _ _ (λb H1 q=> ?_) (hs m σ H p);cases b with
 |true=>exact⟨_,λ_ _ h=>h,q⟩
 |false=>exact q
theorem Aq{H0 H:Hp}{a:Addr}{o:HO}(s:Same H0 H)(n:H0 a=none):Same H0 (upd H a o):=λb u e=>by
 rw[Aj (An e n)];exact s b u e
theorem Ax{α β:Type}{f:α->β}{l:List α}{i:Nat}{x:β}(h:(l.map f)[i]? =some x):∃z,l[i]? =some z/\x=f z:=by
 rw[List.getElem?_map] at h;cases q:l[i]? with
 |none=>rw[q] at h;cases h
 |some z=>rw[q] at h;exact⟨z,rfl,(Option.some.inj h).symm⟩
theorem ixN_nat{n j:Nat}(h:j<n):ixN n (j:Int)=some j:=by
 unfold ixN;rw[if_pos (by exact Int.natCast_nonneg _),if_pos (by omega)];simp
theorem Ck{α:Type}{l:List α}{i:Nat}(h:i<l.length):l[i]? =some l[i]:=List.getElem?_eq_getElem h
end L2
namespace Wk
open PySem L2
def tieV(t:T4):List V:=[.str t.1,.int (t.2.1:Int),.int (t.2.2.1:Int),.int t.2.2.2]
def TiesAt(H:Hp)(rs:List Addr)(S:List T4):Prop:=rs.length=S.length/\∀(i:Nat) r t,rs[i]? =some r->S[i]? =some t->H r=some (.tup (tieV t))
theorem TiesAt.same{H H':Hp}{rs:List Addr}{S:List T4}(h:TiesAt H rs S)(s:Same H H'):TiesAt H' rs S:=⟨h.1,λi r t a b=>s _ _ (h.2 i r t a b)⟩
theorem TiesAt.get{H:Hp}{rs:List Addr}{S:List T4}(h:TiesAt H rs S){i:Nat}{r:Addr}(hr:rs[i]? =some r):∃t,S[i]? =some t/\H r=some (.tup (tieV t)):=by
 have hi:i<S.length:=by rw[<-h.1];exact(List.getElem?_eq_some_iff.mp hr).1
 exact⟨S[i],Ck hi,h.2 i r _ hr (Ck hi)⟩
def PrsAt(H:Hp)(l:Addr)(ps:List (Str×Nat)):Prop:=∃rs:List Addr,H l=some (.lst (rs.map V.ref))/\rs.length=ps.length/\∀(i:Nat) r q,rs[i]? =some r->ps[i]? =some q->H r=some (.tup [.str q.1,.int (q.2:Int)])
theorem PrsAt.same{H H':Hp}{l:Addr}{ps:List (Str×Nat)}(h:PrsAt H l ps)(s:Same H H'):PrsAt H' l ps:=let ⟨rs,a,b,c⟩:=h;⟨rs,s _ _ a,b,λi r q e f=>s _ _ (c i r q e f)⟩
def BesAt(H:Hp)(b:Addr)(N:Nat)(f:Nat->List (Str×Nat)):Prop:=∃ls:List Addr,H b=some (.lst (ls.map V.ref))/\ls.length=N/\∀(v:Nat) l,ls[v]? =some l->PrsAt H l (f v)
theorem BesAt.same{H H':Hp}{b:Addr}{N:Nat}{f:Nat->List (Str×Nat)}(h:BesAt H b N f)(s:Same H H'):BesAt H' b N f:=let ⟨ls,x,y,z⟩:=h;⟨ls,s _ _ x,y,λv l e=>(z v l e).same s⟩
structure Bes(H0 H:Hp)(b:Addr)(ls:List Addr)(N:Nat)(f:Nat->List (Str×Nat)):Prop where
 same:Same H0 H
 hb:H b=some (.lst (ls.map V.ref))
 len:ls.length=N
 nd:ls.Nodup
 new:∀l∈ls,H0 l=none/\l≠b
 prs:∀(v:Nat) l,ls[v]? =some l->PrsAt H l (f v)
theorem nd_ix{ls:List Addr}(h:ls.Nodup){i j:Nat}{l:Addr}(a:ls[i]? =some l)(b:ls[j]? =some l):i=j:=by
 have hi:=(List.getElem?_eq_some_iff.mp a).1;exact(List.getElem?_inj hi h).mp (by rw[a,b])
theorem Bes.app{H0 H:Hp}{b:Addr}{ls:List Addr}{N v:Nat}{f:Nat->List (Str×Nat)}{l p:Addr}{xs:List V}{n:Str}{u:Nat}(B:Bes H0 H b ls N f)(hv:ls[v]? =some l)(hp:H p=none)(hl:H l=some (.lst xs)):
  Bes H0 (upd (upd H p (.tup [.str n,.int (u:Int)])) l (.lst (xs++[.ref p]))) b ls N (λx=>if x=v then f v++[(n,u)] else f x):=by
 have lm:l∈ls:=List.mem_of_getElem? hv;have s1:=Ad (o:= .tup [.str n,.int (u:Int)]) hp;have lp:l≠p:=An hl hp;refine⟨Aq (B.same.trans s1) (B.new l lm).1,by rw[Aj (B.new l lm).2.symm];exact s1 _ _ B.hb,B.len,B.nd,B.new,λx k hx=> ?_⟩;obtain⟨rs,h1,h2,h3⟩:=B.prs x k hx;have tl:∀(r:Addr) ys,H r=some (.tup ys)->upd (upd H p (.tup [.str n,.int (u:Int)])) l (.lst (xs++[.ref p])) r=some (.tup ys):=λr ys e=>by
  rw[Aj (Cr e hl (by intro z;cases z))];exact s1 _ _ e
 by_cases e:x=v
 ·subst e;rw[hv] at hx;cases hx;rw[hl] at h1;injection h1 with h1;injection h1 with h1;simp only[if_true];refine⟨rs++[p],by rw[Ab,h1,List.map_append];rfl,by simp[h2],λi r q hr hq=> ?_⟩;rw[List.getElem?_append] at hr hq;by_cases hi:i<rs.length
  ·rw[if_pos hi] at hr;rw[if_pos (by omega)] at hq;exact tl _ _ (h3 i r q hr hq)
  ·rw[if_neg hi] at hr;rw[if_neg (by omega),<-h2] at hq;have:i - rs.length=0:=by
    have:=(List.getElem?_eq_some_iff.mp hr).1;simp at this;assumption
   rw[this] at hr hq;cases hr;cases hq;rw[Aj lp.symm];exact Ab
 ·simp only[if_neg e];have kl:k≠l:=λq=>by subst q;exact e (nd_ix B.nd hx hv)
  exact⟨rs,by rw[Aj kl];exact s1 _ _ h1,h2,λi r q hr hq=>tl _ _ (h3 i r q hr hq)⟩
theorem nbrs_snoc(S:List T4)(t:T4)(v:Nat):Bj (S++[t]) v=Bj S v++nbT v t:=by unfold Bj;rw[List.flatMap_append];simp
theorem nb_two(S:List T4)(t:T4):(λx=>if x=t.2.2.1 then (λx=>if x=t.2.1 then Bj S t.2.1++[(t.1,t.2.2.1)] else Bj S x) t.2.2.1++[(t.1,t.2.1)] else (λx=>if x=t.2.1 then Bj S t.2.1++[(t.1,t.2.2.1)] else Bj S x) x)=Bj (S++[t]):=by
 funext x
 rw[nbrs_snoc];unfold nbT;by_cases a:t.2.1=x
 ·subst a;rw[if_pos rfl];by_cases b:t.2.2.1=t.2.1
  ·rw[if_pos b,if_pos b.symm];dsimp only;rw[if_pos b];simp
  ·rw[if_neg b,if_neg (Ne.symm b)];dsimp only;rw[if_pos rfl];simp
 ·rw[if_neg a];by_cases b:t.2.2.1=x
  ·subst b;rw[if_pos rfl,if_pos rfl];dsimp only;rw[if_neg (Ne.symm a)];simp
  ·rw[if_neg b,if_neg (Ne.symm b)];dsimp only;rw[if_neg (Ne.symm a)];simp
theorem nbrs_len(S:List T4)(v:Nat):(Bj S v).length<=2 * S.length:=by
 unfold Bj
 induction S with
 |nil=>simp
 |cons t S ih=>
  rw[List.flatMap_cons,List.length_append,List.length_cons];have:(nbT v t).length<=2:=by unfold nbT;rw[List.length_append];split<;> split<;> simp
  omega
def WayV(H:Hp)(x:V):Option (List Str)->Prop
 |none=>x= .non
 |some w=>∃r,x= .ref r/\H r=some (.tup (w.map V.str))
def WaysAt(H:Hp)(a:Addr)(ws:Ws):Prop:=∃xs,H a=some (.lst xs)/\xs.length=ws.length/\∀(i:Nat) x o,xs[i]? =some x->ws[i]? =some o->WayV H x o
theorem WayV.mono{H H':Hp}{x:V}{o:Option (List Str)}(f:∀r ys,H r=some (.tup ys)->H' r=some (.tup ys))(h:WayV H x o):WayV H' x o:=by
 cases o with
 |none=>exact h
 |some w=>obtain⟨r,a,b⟩:=h;exact⟨r,a,f _ _ b⟩
theorem WaysAt.same{H H':Hp}{a:Addr}{ws:Ws}(h:WaysAt H a ws)(s:Same H H'):WaysAt H' a ws:=let ⟨xs,x,y,z⟩:=h;⟨xs,s _ _ x,y,λi u o e f=>(z i u o e f).mono λr ys=>s r (.tup ys)⟩
theorem WaysAt.keep{H:Hp}{a l:Addr}{ws:Ws}{ys zs:List V}(h:WaysAt H a ws)(hl:H l=some (.lst ys))(n:a≠l):WaysAt (upd H l (.lst zs)) a ws:=by
 obtain⟨xs,x,y,z⟩:=h;exact⟨xs,by rw[Aj n];exact x,y,λi u o e f=>(z i u o e f).mono λr ys e=>by rw[Aj (Cr e hl (by intro z;cases z))];exact e⟩
theorem WaysAt.get{H:Hp}{a:Addr}{ws:Ws}(h:WaysAt H a ws){v:Nat}{o:Option (List Str)}(hv:ws[v]? =some o):∃xs x,H a=some (.lst xs)/\xs[v]? =some x/\xs.length=ws.length/\WayV H x o:=by
 obtain⟨xs,x,y,z⟩:=h;have hl:v<xs.length:=by rw[y];exact(List.getElem?_eq_some_iff.mp hv).1
 exact⟨xs,xs[v],x,Ck hl,y,z v _ o (Ck hl) hv⟩
theorem WaysAt.set{H:Hp}{a r:Addr}{ws:Ws}{xs:List V}{u:Nat}{w:List Str}(h:WaysAt H a ws)(ha:H a=some (.lst xs))(hr:H r=some (.tup (w.map V.str))):WaysAt (upd H a (.lst (xs.set u (.ref r)))) a (ws.set u (some w)):=by
 obtain⟨xs',x,y,z⟩:=h;rw[ha] at x;injection x with x;injection x with x;subst x;have tl:∀(q:Addr) ys,H q=some (.tup ys)->upd H a (.lst (xs.set u (.ref r))) q=some (.tup ys):=λq ys e=>by
  rw[Aj (Cr e ha (by intro z;cases z))];exact e
 refine⟨_,Ab,by simp[y],λi x o hx ho=> ?_⟩;rw[List.getElem?_set] at hx ho;by_cases e:u=i
 ·rw[if_pos e] at hx ho;split at hx
  ·rw[if_pos (by omega)] at ho;cases hx;cases ho;exact⟨r,rfl,tl _ _ hr⟩
  ·cases hx
 ·rw[if_neg e] at hx ho;exact(z i x o hx ho).mono tl
def vis1(w:List Str)(q:Str×Nat)(st:Ws×List Nat):Ws×List Nat:=if st.1[q.2]? =some none then (st.1.set q.2 (some (w++[q.1])),st.2++[q.2]) else st
theorem vis1_no{w:List Str}{q:Str×Nat}{st:Ws×List Nat}(h:¬st.1[q.2]? =some none):vis1 w q st=st:=if_neg h
theorem vis1_yes{w:List Str}{q:Str×Nat}{st:Ws×List Nat}(h:st.1[q.2]? =some none):vis1 w q st=(st.1.set q.2 (some (w++[q.1])),st.2++[q.2]):=if_pos h
theorem visit_snoc(w:List Str)(q:Str×Nat):∀(L:List (Str×Nat)) (st:Ws×List Nat),By w (L++[q]) st=vis1 w q (By w L st)
 |[],st=>by unfold vis1;show By w (q::[]) st=_;unfold By;rfl
 |(n,u)::r,st=>by
  show By w ((n,u)::(r++[q])) st=_;unfold By;split
  ·exact visit_snoc w q r _
  ·exact visit_snoc w q r _
theorem visit_vis(w:List Str):∀(L:List (Str×Nat)) (st:Ws×List Nat) {v:Nat} {x:List Str},Vis st.1 v x->Vis (By w L st).1 v x
 |[],_,_,_,h=>h
 |(n,u)::r,st,v,x,h=>by
  unfold By;split
  ·rename_i e;exact visit_vis w r _ ((Bq e).mpr (.inr h))
  ·exact visit_vis w r _ h
theorem visit_len(w:List Str):∀(L:List (Str×Nat)) (st:Ws×List Nat),(By w L st).1.length=st.1.length/\(By w L st).2.length<=st.2.length+L.length
 |[],st=>⟨rfl,Nat.le_refl _⟩
 |(n,u)::r,st=>by
  unfold By;split
  ·obtain⟨a,b⟩:=visit_len w r (st.1.set u (some (w++[n])),st.2++[u]);refine⟨by rw[a];simp,?_⟩;simp only[List.length_append,List.length_cons,List.length_nil] at b ⊢;omega
  ·obtain⟨a,b⟩:=visit_len w r st;exact⟨a,by rw[List.length_cons];exact Nat.le_succ_of_le (by assumption)⟩
theorem bstep_short{S:List T4}{N p h i:Nat}{ws:Ws}{rest:List Nat}(hS:InN N S)(I:BInv S N p (ws,h::rest))(hl:∀v x,Wk.Vis ws v x->x.length<=i):∀v x,Wk.Vis (bstep S (ws,h::rest)).1 v x->x.length<=i+1:=by
 obtain⟨w,hw,J⟩:=pinv_of I;have e:bstep S (ws,h::rest)=By w (Bj S h) (ws,rest):=by
  show By ((ws[h]?.join).getD []) (Bj S h) (ws,rest)=_;unfold Wk.Vis at hw;rw[hw];rfl
 rw[e];obtain⟨a,_⟩:=visit_ok (Bj S h) (ws,rest) J λnb q=>⟨q,nb_lt hS q⟩
 intro v x q;have:=a.ht v x q;have:=hl h w hw;omega
theorem refs_inj{xs ys:List Addr}(h:xs.map V.ref=ys.map V.ref):xs=ys:=(List.map_inj_right (λ_ _ h=>by injection h)).mp h
end Wk
namespace Wk
open PySem L2
abbrev LS:Str:=Str.ofString "abcdefghijklmnopqrstuvwxyz"
theorem LS_eq:LS.cps.toList=(List.range 26).map (97+·):=by decide+kernel
theorem LS_at{v:Int}(h0:0<=v)(h1:v<26):atI LS.cps.toList v=some (97+v.toNat):=by
 obtain⟨j,rfl⟩:∃j:Nat,v=(j:Int):=⟨v.toNat,by omega⟩
 have hj:j<26:=by omega
 refine Ap ?_;rw[LS_eq,List.getElem?_map,List.getElem?_range hj];rfl
theorem cat_cps(x y:Str):(x++y).cps.toList=x.cps.toList++y.cps.toList:=by
 show (x.cps++y.cps).toList=_;rw[Array.toList_append]
def sg(c:Nat):V:= .str ⟨#[c]⟩
theorem sg_map(ws:List Nat):ws.map sg=(ws.map λc=>(⟨#[c]⟩:Str)).map V.str:=by rw[List.map_map];rfl
theorem sg_sum(ws:List Nat):((ws.map λc=>(⟨#[c]⟩:Str)).map (·.length)).sum=ws.length:=by
 induction ws with
 |nil=>rfl
 |cons c ws ih=>simp only[List.map_cons,List.sum_cons,List.length_cons,ih];show 1+ws.length=_;omega
theorem join_cps:∀ws:List Nat,(Txt.join (Str.ofString "") (ws.map λc=>(⟨#[c]⟩:Str))).cps.toList=ws:=by
 have key:∀ws:List Nat,(Str.join (Str.ofString "") (ws.map λc=>(⟨#[c]⟩:Str))).cps.toList=ws:=by
  intro ws
  induction ws with
  |nil=>rfl
  |cons c ws ih=>
   cases ws with
   |nil=>rfl
   |cons d ws=>
    simp only[List.map_cons] at ih ⊢;rw[Str.join,cat_cps,cat_cps,ih]
    ·rfl
    ·intro q;cases q
 intro ws;show (Builtin.Str.glued _ _).cps.toList=_;rw[StrLaws.glued_eq_join];exact key ws
theorem len_cps(z:Str):z.length=z.cps.toList.length:=by show z.cps.size=_;simp
theorem cutV_take{xs:List V}{n:Nat}(h:n<=xs.length):Dy xs none (some (n:Int))=xs.take n:=by
 unfold Dy;rw[HT.sIx_none,HT.sIx_nat,List.drop_zero,Nat.min_eq_left h,Nat.sub_zero]
theorem cutV_drop{xs:List V}{n:Nat}:Dy xs (some (n:Int)) none=xs.drop n:=by
 unfold Dy;rw[HT.sIx_none,HT.sIx_nat];by_cases h:n<=xs.length
 ·rw[Nat.min_eq_left h,List.take_of_length_le (by rw[List.length_drop];exact Nat.le_refl _)]
 ·rw[Nat.min_eq_right (by omega),List.drop_of_length_le (by exact Nat.le_refl _),List.drop_of_length_le (by omega)];simp
theorem inV_strs(x:Str)(zs:List Str):inV (.str x) (zs.map V.str)=decide (x∈zs):=by
 unfold inV
 induction zs with
 |nil=>simp
 |cons z zs ih=>
  rw[List.map_cons,List.any_cons,ih];have:eqV (.str z) (.str x)=decide (x=z):=by
   show (z==x)=_;rw[Bool.eq_iff_iff,beq_iff_eq,decide_eq_true_eq];exact eq_comm
  rw[this,Bool.eq_iff_iff];simp
theorem Cs{v:Int}(h0:0<=v):∃j:Nat,v=(j:Int):=⟨v.toNat,by omega⟩
end Wk
namespace Wk
open PySem L2
def TieOk(N:Nat)(t:T4):Prop:=t.2.1<N/\t.2.2.1<N/\t.2.1≠t.2.2.1
end Wk
namespace L2
open PySem
end L2
namespace Wk
open PySem L2
theorem rints_nat(N:Nat):(rints 0 ((N:Int) - 0).toNat).map V.int=((List.range N).map Int.ofNat).map V.int:=by
 unfold rints;rw[show ((N:Int) - 0).toNat=N by omega,List.map_map,List.map_map];refine List.map_congr_left λk _=> ?_;show V.int (0+(k:Int))=V.int (k:Int);rw[Int.zero_add]
end Wk
namespace Wk
open PySem L2
def labG(l:List Nat)(t:T4):List Nat:=relab l (l.getD t.2.1 0) (l.getD t.2.2.1 0)
theorem relab_same(l:List Nat)(a:Nat):relab l a a=l:=by
 unfold relab;rw[List.map_congr_left (g:=id) λx _=>by show (if x=a then a else x)=x;split<;> simp_all];simp
structure LabOk(N:Nat)(P:List T4)(l:List Nat):Prop where
 len:l.length=N
 iff:∀u v,u<N->v<N->(l.getD u 0=l.getD v 0↔Reach P u v)
theorem lab0(N:Nat):LabOk N [] (List.range N):=by
 refine⟨List.length_range ..,λu v hu hv=> ?_⟩;rw[List.getD_eq_getElem?_getD,List.getElem?_range hu,List.getD_eq_getElem?_getD,List.getElem?_range hv];constructor
 ·intro e;have:u=v:=e;subst this;exact .refl
 ·rintro⟨x,hx⟩;cases hx with
  |nil=>rfl
  |snoc _ q=>simp[Bj] at q
theorem lab_step{N:Nat}{P:List T4}{l:List Nat}(h:LabOk N P l)(hP:InN N P){t:T4}(h1:t.2.1<N)(h2:t.2.2.1<N):LabOk N (P++[t]) (labG l t):=by
 have hl:=h.len;have mono:∀{a b},Reach P a b->Reach (P++[t]) a b:=λr=>r.mono λx hx=>List.mem_append_left _ hx;have tie:Reach (P++[t]) t.2.1 t.2.2.1:= .step (nb_of (List.mem_append_right _ (List.mem_singleton.mpr rfl)));have hN:InN N (P++[t]):=λx hx=>by
  rcases List.mem_append.mp hx with hx|hx
  ·exact hP x hx
  ·rw[List.mem_singleton.mp hx];exact⟨h1,h2⟩
 have g:∀v,v<N->(labG l t).getD v 0=if l.getD v 0=l.getD t.2.2.1 0 then l.getD t.2.1 0 else l.getD v 0:=λv hv=>relab_get (by omega)
 refine⟨by unfold labG relab;rw[List.length_map];exact hl,λu v hu hv=> ?_⟩;rw[g u hu,g v hv];constructor
 ·intro e;by_cases a:l.getD u 0=l.getD t.2.2.1 0
  ·by_cases b:l.getD v 0=l.getD t.2.2.1 0
   ·exact mono ((h.iff u v hu hv).mp (a.trans b.symm))
   ·rw[if_pos a,if_neg b] at e;exact((mono ((h.iff u _ hu h2).mp a)).trans tie.symm).trans (mono ((h.iff _ v h1 hv).mp e))
  ·by_cases b:l.getD v 0=l.getD t.2.2.1 0
   ·rw[if_neg a,if_pos b] at e;exact((mono ((h.iff u _ hu h1).mp e)).trans tie).trans (mono ((h.iff v _ hv h2).mp b)).symm
   ·rw[if_neg a,if_neg b] at e;exact mono ((h.iff u v hu hv).mp e)
 ·rintro⟨x,hx⟩;rw[<-g u hu,<-g v hv];clear hv
  induction hx with
  |nil=>rfl
  | @snoc ws b c n a q ih=>
   have hb:b<N:=by
    cases a with
    |nil=>exact hu
    |snoc _ r=>exact nb_lt hN r
   have hc:c<N:=nb_lt hN q;refine ih.trans ?_;obtain⟨t',ht',_,hh⟩:=nb_elim q;have key:(labG l t).getD t'.2.1 0=(labG l t).getD t'.2.2.1 0:=by
    rcases List.mem_append.mp ht' with ht'|ht'
    ·have:=hP t' ht';rw[g _ this.1,g _ this.2,(h.iff _ _ this.1 this.2).mpr (.step (nb_of ht'))]
    ·rw[List.mem_singleton.mp ht',g _ h1,g _ h2,if_pos rfl];split
     ·rfl
     ·rfl
   rcases hh with⟨rfl,rfl⟩|⟨rfl,rfl⟩
   ·exact key
   ·exact key.symm
def NmS(zs:List Str):Prop:=zs.Pairwise λa b=>Srt.ltK (.inr b) (.inr a)=false
end Wk
namespace Wk
open PySem L2
noncomputable def leastB(P:List T4)(v:Nat):Bool:= @decide (∀u,u<v->¬Reach P u v) (Classical.propDecidable _)
noncomputable def clsF(N:Nat)(P:List T4):Nat:=(List.range N).countP (leastB P)
theorem least_iff{P:List T4}{v:Nat}:leastB P v=true↔∀u,u<v->¬Reach P u v:=by
 unfold leastB;exact @decide_eq_true_iff _ (Classical.propDecidable _)
theorem cls_congr{N:Nat}{P R:List T4}(h:∀a b,a<N->b<N->(Reach P a b↔Reach R a b)):clsF N P=clsF N R:=by
 unfold clsF;refine List.countP_congr λv hv=> ?_;have hv:=List.mem_range.mp hv;rw[least_iff,least_iff];exact⟨λq u hu r=>q u hu ((h u v (by omega) hv).mpr r),λq u hu r=>q u hu ((h u v (by omega) hv).mp r)⟩
theorem cls_nil(N:Nat):clsF N []=N:=by
 unfold clsF;have:∀v∈List.range N,leastB [] v=true:=λv _=>by
  rw[least_iff];rintro u hu ⟨x,hx⟩;cases hx with
  |nil=>omega
  |snoc _ q=>simp[Bj] at q
 rw[List.countP_eq_length.mpr this,List.length_range]
theorem least_of{P:List T4}:∀v:Nat,∃m,m<=v/\Reach P m v/\leastB P m=true:=by
 intro v
 induction v using Nat.strongRecOn with
 |_ v ih=>
  by_cases h:leastB P v=true
  ·exact⟨v,Nat.le_refl _,.refl,h⟩
  ·rw[least_iff] at h;simp only[Classical.not_forall,Classical.not_not] at h;obtain⟨u,hu,r⟩:=h;obtain⟨m,hm,rm,lm⟩:=ih u hu;exact⟨m,by omega,rm.trans r,lm⟩
theorem least_uniq{P:List T4}{m n:Nat}(hm:leastB P m=true)(hn:leastB P n=true)(r:Reach P m n):m=n:=by
 rw[least_iff] at hm hn;rcases Nat.lt_trichotomy m n with h|h|h
 ·exact absurd r (hn m h)
 ·exact h
 ·exact absurd r.symm (hm n h)
theorem reach_snoc{P:List T4}{t:T4}{a b:Nat}:Reach (P++[t]) a b↔Reach P a b\/(Reach P a t.2.1/\Reach P t.2.2.1 b)\/(Reach P a t.2.2.1/\Reach P t.2.1 b):=by
 have mono:∀{a b},Reach P a b->Reach (P++[t]) a b:=λr=>r.mono λx hx=>List.mem_append_left _ hx;have tie:Reach (P++[t]) t.2.1 t.2.2.1:= .step (nb_of (List.mem_append_right _ (List.mem_singleton.mpr rfl)));constructor
 ·rintro⟨x,hx⟩
  induction hx with
  |nil=>exact .inl .refl
  | @snoc ws b c n _ q ih=>
   obtain⟨t',ht',_,hh⟩:=nb_elim q;rcases List.mem_append.mp ht' with ht'|ht'
   ·have st:Reach P b c:=by
     rcases hh with⟨rfl,rfl⟩|⟨rfl,rfl⟩
     ·exact .step (nb_of ht')
     ·exact(Reach.step (nb_of ht')).symm
    rcases ih with h|⟨h1,h2⟩|⟨h1,h2⟩
    ·exact .inl (h.trans st)
    ·exact .inr (.inl ⟨h1,h2.trans st⟩)
    ·exact .inr (.inr ⟨h1,h2.trans st⟩)
   ·rw[List.mem_singleton.mp ht'] at hh;rcases hh with⟨e1,e2⟩|⟨e1,e2⟩
    ·subst e1;subst e2;rcases ih with h|⟨h1,h2⟩|⟨h1,h2⟩
     ·exact .inr (.inl ⟨h,.refl⟩)
     ·exact .inr (.inl ⟨h1,.refl⟩)
     ·exact .inl h1
    ·subst e1;subst e2;rcases ih with h|⟨h1,h2⟩|⟨h1,h2⟩
     ·exact .inr (.inr ⟨h,.refl⟩)
     ·exact .inl h1
     ·exact .inr (.inr ⟨h1,.refl⟩)
 ·rintro(h|⟨h1,h2⟩|⟨h1,h2⟩)
  ·exact mono h
  ·exact((mono h1).trans tie).trans (mono h2)
  ·exact((mono h1).trans tie.symm).trans (mono h2)
theorem cls_same{N:Nat}{P:List T4}{t:T4}(h:Reach P t.2.1 t.2.2.1):clsF N (P++[t])=clsF N P:=by
 refine cls_congr λa b _ _=> ?_;rw[reach_snoc];constructor
 ·rintro(q|⟨q1,q2⟩|⟨q1,q2⟩)
  ·exact q
  ·exact(q1.trans h).trans q2
  ·exact(q1.trans h.symm).trans q2
 ·exact .inl
theorem countP_one{p q:Nat->Bool}{x N:Nat}(hx:x<N)(px:p x=true)(h:∀v,v<N->(q v=true↔p v=true/\v≠x)):(List.range N).countP q+1=(List.range N).countP p:=by
 induction N with
 |zero=>omega
 |succ N ih=>
  rw[List.range_succ,List.countP_append,List.countP_append,List.countP_singleton,List.countP_singleton];by_cases e:x=N
  ·subst e;have hq:q x=false:=by
    cases z:q x with
    |false=>rfl
    |true=>exact absurd rfl ((h x hx).mp z).2
   have:(List.range x).countP q=(List.range x).countP p:=List.countP_congr λv hv=>by
    have hv:=List.mem_range.mp hv;rw[h v (by omega)];exact⟨λz=>z.1,λz=>⟨z,by omega⟩⟩
   rw[this,hq,px];simp
  ·have:=ih (by omega) λv hv=>h v (by omega);have e2:q N=p N:=by
    rw[Bool.eq_iff_iff,h N (by omega)];exact⟨λz=>z.1,λz=>⟨z,Ne.symm e⟩⟩
   rw[e2];omega
theorem cls_less{N:Nat}{P:List T4}{t:T4}(h1:t.2.1<N)(h2:t.2.2.1<N)(h:¬Reach P t.2.1 t.2.2.1):clsF N (P++[t])+1=clsF N P:=by
 obtain⟨m1,l1,r1,k1⟩:=least_of (P:=P) t.2.1;obtain⟨m2,l2,r2,k2⟩:=least_of (P:=P) t.2.2.1;have hne:m1≠m2:=λe=>h (r1.symm.trans (e▸r2));have mono:∀{a b},Reach P a b->Reach (P++[t]) a b:=λr=>r.mono λx hx=>List.mem_append_left _ hx;have tie:Reach (P++[t]) t.2.1 t.2.2.1:= .step (nb_of (List.mem_append_right _ (List.mem_singleton.mpr rfl)));have r12:Reach (P++[t]) m1 m2:=((mono r1).trans tie).trans (mono r2).symm;refine countP_one (x:=max m1 m2) (by omega) ?_ λv hv=> ?_
 ·rcases Nat.le_total m1 m2 with q|q
  ·rw[Nat.max_eq_right q];exact k2
  ·rw[Nat.max_eq_left q];exact k1
 constructor
 ·intro q;rw[least_iff] at q;refine⟨least_iff.mpr λu hu r=>q u hu (mono r),λe=> ?_⟩;rcases Nat.lt_or_gt_of_ne hne with z|z
  ·rw[Nat.max_eq_right (by omega)] at e;exact q m1 (by omega) (e▸r12)
  ·rw[Nat.max_eq_left (by omega)] at e;exact q m2 (by omega) (e▸r12.symm)
 ·rintro⟨q,hx⟩;have q':=q;rw[least_iff] at q ⊢;intro u hu r;rcases reach_snoc.mp r with z|⟨z1,z2⟩|⟨z1,z2⟩
  ·exact q u hu z
  ·-- v is the least of the other's class,u of the one's
   have ev:m2=v:=least_uniq k2 q' (r2.trans z2);have:m1<=u:=by
    obtain⟨m,lm,rm,km⟩:=least_of (P:=P) u;have:m1=m:=least_uniq k1 km (r1.trans (z1.symm.trans rm.symm));omega
   omega
  ·have ev:m1=v:=least_uniq k1 q' (r1.trans z2);have:m2<=u:=by
    obtain⟨m,lm,rm,km⟩:=least_of (P:=P) u;have:m2=m:=least_uniq k2 km (r2.trans (z1.symm.trans rm.symm));omega
   omega
end Wk
namespace Wk
open PySem L2
end Wk
namespace Wk
open PySem L2
section
variable{N:Nat}{S S':List T4}{t:T4}(hS:InN N S)(hN:N<=60)(nd:(S.map (·.1)).Nodup)(hS':InN N S')(hm:∀u,u∈S'↔u∈S\/u=t)
include hS hN hS' hm
end
section
variable{N:Nat}{S S':List T4}{x:T4}(hS:InN N S)(hN:N<=60)(nd:(S.map (·.1)).Nodup)(hx:x∈S)(hm:∀u,u∈S'↔u∈S/\u.1≠x.1)
include hS hN nd hx hm
end
end Wk
namespace Wk
open PySem L2
section
variable{N:Nat}{S S':List T4}{t:T4}(hS:InN N S)(hN:N<=60)(nd:(S.map (·.1)).Nodup)(hn:t.1 ∉ S.map (·.1))(hp:S'.Perm (S++[t]))(hS':InN N S')(sr':NmS (S'.map (·.1)))
include hS hN nd hn hp hS' sr'
end
section
variable{N:Nat}{S:List T4}{x:T4}(hS:InN N S)(hN:N<=60)(nd:(S.map (·.1)).Nodup)(sr:NmS (S.map (·.1)))(hx:x∈S)
include hS hN nd sr hx
end
end Wk
namespace L2
open PySem PySem.Spec PyProof.Rows
def Flt:V->V->Bool
 | .non,.non=>true
 | .non,.bl _=>true
 | .non,.int _=>true
 | .non,.str _=>true
 | .bl _,.non=>true
 | .bl _,.bl _=>true
 | .bl _,.str _=>true
 | .int _,.non=>true
 | .int _,.int _=>true
 | .int _,.str _=>true
 | .str _,.non=>true
 | .str _,.bl _=>true
 | .str _,.int _=>true
 | .str _,.str _=>true
 |_,_=>false
def Eqs(K:PySem.W.Frag)(H:Hp):Nat->V->V->Bool->Prop
 |0,x,y,b=>Flt x y=true/\b=decide (x=y)
 |n+1,x,y,b=>(Flt x y=true/\b=decide (x=y))\/
  (∃(a c:Addr) (xs ys:List V) (e:Nat->Bool),x= .ref a/\y= .ref c/\((SqT K H a xs/\SqT K H c ys)\/(SqL K H a xs/\SqL K H c ys))/\(∀(j:Nat) p q,xs[j]? =some p->ys[j]? =some q->Eqs K H n p q (e j))/\b=((List.range (min xs.length ys.length)).all e && xs.length==ys.length))\/
  (∃(a:Addr) (xs:List V),x= .ref a/\y= .non/\SqT K H a xs/\b=false)\/
  (∃(a:Addr) (xs:List V),x= .non/\y= .ref a/\SqT K H a xs/\b=false)
theorem Eqs.flat{K:PySem.W.Frag}{H:Hp}{n:Nat}{x y:V}(h:Flt x y=true):Eqs K H n x y (decide (x=y)):=by
 cases n with
 |zero=>exact⟨h,rfl⟩
 |succ n=>exact .inl ⟨h,rfl⟩
theorem all_dec{α:Type}[DecidableEq α]{xs ys:List V}{ds es:List α}(l1:ds.length=xs.length)(l2:es.length=ys.length):((List.range (min xs.length ys.length)).all (λj=>decide (ds[j]? =es[j]?)) && xs.length==ys.length)=decide (ds=es):=by
 by_cases h:xs.length=ys.length
 ·rw[Bool.eq_iff_iff,Bool.and_eq_true,List.all_eq_true,decide_eq_true_eq];constructor
  ·rintro⟨ha,_⟩;refine List.ext_getElem? λi=> ?_;by_cases hi:i<xs.length
   ·exact of_decide_eq_true (ha i (List.mem_range.mpr (by omega)))
   ·rw[List.getElem?_eq_none (by omega),List.getElem?_eq_none (by omega)]
  ·rintro rfl;exact⟨λj _=>decide_eq_true rfl,by simpa using h⟩
 ·have:(xs.length==ys.length)=false:=by simpa using h
  rw[this,Bool.and_false,decide_eq_false λe=>h (by rw[<-l1,<-l2,e])]
theorem Eqs.seq{K:PySem.W.Frag}{H:Hp}{n:Nat}{a c:Addr}{xs ys:List V}{α:Type}[DecidableEq α]{ds es:List α}(hh:(SqT K H a xs/\SqT K H c ys)\/(SqL K H a xs/\SqL K H c ys))(l1:ds.length=xs.length)(l2:es.length=ys.length)(h:∀(j:Nat) p q d e,xs[j]? =some p->ys[j]? =some q->ds[j]? =some d->es[j]? =some e->Eqs K H n p q (decide (d=e))):Eqs K H (n+1) (.ref a) (.ref c) (decide (ds=es)):=by
 refine .inr (.inl ⟨a,c,xs,ys,λj=>decide (ds[j]? =es[j]?),rfl,rfl,hh,λj p q hp hq=> ?_,(all_dec l1 l2).symm⟩);have j1:j<ds.length:=by rw[l1];exact(List.getElem?_eq_some_iff.mp hp).1
 have j2:j<es.length:=by rw[l2];exact(List.getElem?_eq_some_iff.mp hq).1
 have:=h j p q ds[j] es[j] hp hq (List.getElem?_eq_getElem j1) (List.getElem?_eq_getElem j2);show Eqs K H n p q (decide (ds[j]? =es[j]?));rw[List.getElem?_eq_getElem j1,List.getElem?_eq_getElem j2];have e:decide (some ds[j]=some es[j])=decide (ds[j]=es[j]):=by
  rw[Bool.eq_iff_iff,decide_eq_true_eq,decide_eq_true_eq];exact⟨λh=>Option.some.inj h,λh=>by rw[h]⟩
 rw[e];exact this
theorem Eqs.flats{K:PySem.W.Frag}{H:Hp}{n:Nat}{a c:Addr}{xs ys:List V}(h1:SqT K H a xs)(h2:SqT K H c ys)(h:∀x∈xs,∀y∈ys,Flt x y=true):Eqs K H (n+1) (.ref a) (.ref c) (decide (xs=ys)):=
 Eqs.seq (.inl ⟨h1,h2⟩) rfl rfl λj p q d e hp hq hd he=>by
  rw[hp] at hd;rw[hq] at he;cases hd;cases he;exact Eqs.flat (h _ (List.mem_of_getElem? hp) _ (List.mem_of_getElem? hq))
theorem Eqs.pair{K:PySem.W.Frag}{H:Hp}{n:Nat}{a c:Addr}{x1 x2 y1 y2:V}{b1 b2:Bool}(h1:SqT K H a [x1,x2])(h2:SqT K H c [y1,y2])(e1:Eqs K H n x1 y1 b1)(e2:Eqs K H n x2 y2 b2):Eqs K H (n+1) (.ref a) (.ref c) (b1 && b2):=by
 refine .inr (.inl ⟨a,c,_,_,λj=>if j=0 then b1 else b2,rfl,rfl,.inl ⟨h1,h2⟩,λj p q hp hq=> ?_,?_⟩)
 ·match j,hp,hq with
  |0,hp,hq=>cases hp;cases hq;exact e1
  |1,hp,hq=>cases hp;cases hq;exact e2
  |j+2,hp,_=>simp at hp
 ·show (b1 && b2)=((List.range 2).all (λj=>if j=0 then b1 else b2) && (2==2));simp[List.range_succ,List.all_append]
section
variable{X:Cx}{pins:List (Addr×Obj)}{σ:St}{H:Hp}{s:Shared}
theorem eqs_refl(I:Inv X pins σ H s):∀(n:Nat) {x:V} {b:Bool},Eqs X.K H n x x b->b=true
 |0,x,b,⟨_,e⟩=>by rw[e,decide_eq_true rfl]
 |n+1,x,b,h=>by
  rcases h with⟨_,e⟩|⟨a,c,xs,ys,e,e1,e2,hh,hj,eb⟩|⟨a,xs,e1,e2,_⟩|⟨a,xs,e1,e2,_⟩
  ·rw[e,decide_eq_true rfl]
  ·rw[e1] at e2;injection e2 with e2;subst e2;have ex:xs=ys:=by
    rcases hh with⟨h1,h2⟩|⟨h1,h2⟩
    ·exact I.tuple_inj h1 h2
    ·exact I.list_inj h1 h2
   subst ex;rw[eb,Bool.and_eq_true];refine⟨List.all_eq_true.mpr λj hj'=> ?_,by simp⟩;have hj':=List.mem_range.mp hj';have hjx:j<xs.length:=by omega
   exact eqs_refl I n (hj j _ _ (List.getElem?_eq_getElem hjx) (List.getElem?_eq_getElem hjx))
  ·rw[e1] at e2;cases e2
  ·rw[e1] at e2;cases e2
theorem flt_at{x y:V}{v u:Value}(h:Flt x y=true)(rx:RelV x v)(ry:RelV y u)(A:Around):SeqAt.EqAt A s v u (decide (x=y)):=by
 have sw:∀{b c:Bool},SeqAt.EqAt A s v u b->b=c->SeqAt.EqAt A s v u c:=λh e=>e▸h;cases x<;> cases y<;> simp only[Flt,Bool.false_eq_true] at h<;> simp only[RelV] at rx ry
 ·subst rx;subst ry;exact SeqAt.EqAt.same _
 ·subst rx;subst ry;exact sw (SeqAt.EqAt.none_bool _) (by simp)
 ·obtain⟨t,rfl⟩:=ry;subst rx;exact sw (SeqAt.EqAt.none_int _ _) (by simp)
 ·obtain⟨t,rfl⟩:=ry;subst rx;exact sw (SeqAt.EqAt.none_str _ _) (by simp)
 ·subst rx;subst ry;exact sw (SeqAt.EqAt.bool_none _) (by simp)
 ·subst rx;subst ry;exact sw (SeqAt.EqAt.bool_bool _ _) (by rw[Bool.eq_iff_iff];simp)
 ·obtain⟨t,rfl⟩:=ry;subst rx;exact sw (SeqAt.EqAt.bool_str _ _ _) (by simp)
 ·obtain⟨t,rfl⟩:=rx;subst ry;exact sw (SeqAt.EqAt.int_none _ _) (by simp)
 ·obtain⟨t,rfl⟩:=rx;obtain⟨t',rfl⟩:=ry;exact sw (SeqAt.EqAt.int_int _ _ _ _) (by rw[Bool.eq_iff_iff];simp)
 ·obtain⟨t,rfl⟩:=rx;obtain⟨t',rfl⟩:=ry;exact sw (SeqAt.EqAt.int_str _ _ _ _) (by simp)
 ·obtain⟨t,rfl⟩:=rx;subst ry;exact sw (SeqAt.EqAt.str_none _ _) (by simp)
 ·obtain⟨t,rfl⟩:=rx;subst ry;exact sw (SeqAt.EqAt.str_bool _ _ _) (by simp)
 ·obtain⟨t,rfl⟩:=rx;obtain⟨t',rfl⟩:=ry;exact sw (SeqAt.EqAt.str_int _ _ _ _) (by simp)
 ·obtain⟨t,rfl⟩:=rx;obtain⟨t',rfl⟩:=ry;exact sw (SeqAt.EqAt.str_str _ _ _ _) (by rw[Bool.eq_iff_iff];simp)
theorem val_at{xs:List V}{its:List Value}(r:Vals xs its){j:Nat}(h:j<its.toArray.size):∃x,xs[j]? =some x/\RelV x its.toArray[j]:=by
 have l:=r.length;have hj:j<xs.length:=by simpa[l] using h
 obtain⟨v,e,rv⟩:=r.get (i:=j) (x:=xs[j]) (by simp[hj]);have w1:its.toArray[j]=v:=by
  have:=(List.getElem?_eq_some_iff.mp e).2;simpa using this
 exact⟨xs[j],by simp[hj],by rw[w1];exact rv⟩
theorem in1_units(A:Around):A.in1.units<=A.units+1:=by first|exact Nat.le_refl _|exact Nat.le_succ _
theorem eqs_at(I:Inv X pins σ H s):∀(n:Nat) {x y:V} {b:Bool} {v u:Value} {A:Around},A.units+n<cLine->Eqs X.K H n x y b->RelV x v->RelV y u->SeqAt.EqAt A s v u b
 |0,x,y,b,v,u,A,_,⟨h,e⟩,rx,ry=>by rw[e];exact flt_at h rx ry A
 |n+1,x,y,b,v,u,A,hu,h,rx,ry=>by
  rcases id h with⟨h,e⟩|⟨a,c,xs,ys,e,rfl,rfl,hh,hj,eb⟩|⟨a,xs,rfl,rfl,h1,e⟩|⟨a,xs,rfl,rfl,h1,e⟩
  ·rw[e];exact flt_at h rx ry A
  ·cases rx;cases ry;by_cases hne:a=c
   ·subst hne;rw[eqs_refl I (n+1) h];exact SeqAt.EqAt.same _
   refine SeqAt.EqAt.of_refs hne ?_;have iu:=in1_units A;rcases hh with⟨h1,h2⟩|⟨h1,h2⟩
   ·obtain⟨its,r1,p1,_⟩:=I.tuple h1;obtain⟨its2,r2,p2,_⟩:=I.tuple h2;have:=SeqAt.RcAt.tuples (A:=A) (e:=e) p1 p2 (by omega) λj j1 j2=> ?_
    ·rw[List.size_toArray,List.size_toArray,<-r1.length,<-r2.length] at this;rw[eb];exact this
    ·obtain⟨p,ep,rp⟩:=val_at r1 j1;obtain⟨q,eq,rq⟩:=val_at r2 j2;exact eqs_at I n (by omega) (hj j p q ep eq) rp rq
   ·obtain⟨its,r1,p1,_⟩:=I.list h1;obtain⟨its2,r2,p2,_⟩:=I.list h2;have m1:=r1.length;have m2:=r2.length;by_cases hl:xs.length=ys.length
    ·have:=SeqAt.RcAt.lists (A:=A) (e:=e) p1.isList p2.isList (by rw[List.size_toArray,List.size_toArray];omega) (by omega) λj j1 j2=> ?_
     ·rw[List.size_toArray,<-m1] at this;rw[eb,hl,Nat.min_self,<-hl];simpa using this
     ·obtain⟨p,ep,rp⟩:=val_at r1 j1;obtain⟨q,eq,rq⟩:=val_at r2 j2;exact eqs_at I n (by omega) (hj j p q ep eq) rp rq
    ·have:=SeqAt.RcAt.lists_lengths (A:=A) p1.isList p2.isList (by rw[List.size_toArray,List.size_toArray];simp;omega) (by omega);have eb':b=false:=by rw[eb];simp[hl]
     rw[eb'];exact this
  ·cases rx;cases ry;obtain⟨its,r1,p1,_⟩:=I.tuple h1;rw[e];exact SeqAt.EqAt.tuple_none p1 (by omega)
  ·cases rx;cases ry;obtain⟨its,r1,p1,_⟩:=I.tuple h1;rw[e];exact SeqAt.EqAt.none_tuple p1 (by omega)
end
section
variable{X:Cx}
inductive REqsP(K:PySem.W.Frag)(x:V)(y:V)(H:Hp)(Q:VK):Prop
 |mk (n:Nat) (b:Bool) (a c:Addr):(x= .ref a)->(y= .ref c)->(n<=30)->(Eqs K H (n+1) x y b)->(Q (.bl b) H)->REqsP K x y H Q
def rEqs(K:PySem.W.Frag):V->V->Hp->VK->Prop:=λx y H Q=>REqsP K x y H Q
inductive RNesP(K:PySem.W.Frag)(x:V)(y:V)(H:Hp)(Q:VK):Prop
 |mk (n:Nat) (b:Bool) (a c:Addr):(x= .ref a)->(y= .ref c)->(n<=30)->(Eqs K H (n+1) x y b)->(Q (.bl (!b)) H)->RNesP K x y H Q
def rNes(K:PySem.W.Frag):V->V->Hp->VK->Prop:=λx y H Q=>RNesP K x y H Q
theorem op_eqs(hu:X.A.units+64<cLine):OpR X (compareOp .Eq) (rEqs X.K):=by
 intro pins s σ H x y v u Q I rx ry h;obtain⟨n,b,a,c,rfl,rfl,hn,h,q⟩:=h;cases rx;cases ry;have iu:=in1_units X.A;rcases h with⟨h,_⟩|⟨a',c',xs,ys,e,e1,e2,hh,hj,eb⟩|⟨_,_,_,e2,_⟩|⟨_,_,e1,_⟩
 ·cases h
 ·cases e1;cases e2;rcases hh with⟨h1,h2⟩|⟨h1,h2⟩
  ·obtain⟨its,r1,p1,_⟩:=I.tuple h1;obtain⟨its2,r2,p2,_⟩:=I.tuple h2;refine(SeqAt.RcAt.tuples (A:=X.A) (e:=e) p1 p2 (by omega) λj j1 j2=> ?_) X.prog X.w X.xe _ ⟨.bl _,H,I,rfl,?_⟩
   ·obtain⟨p,ep,rp⟩:=val_at r1 j1;obtain⟨q,eq,rq⟩:=val_at r2 j2;exact eqs_at I n (by omega) (hj j p q ep eq) rp rq
   ·rw[List.size_toArray,List.size_toArray,<-r1.length,<-r2.length,<-eb];exact q
  ·obtain⟨its,r1,p1,_⟩:=I.list h1;obtain⟨its2,r2,p2,_⟩:=I.list h2;have m1:=r1.length;have m2:=r2.length;by_cases hl:xs.length=ys.length
   ·refine(SeqAt.RcAt.lists (A:=X.A) (e:=e) p1.isList p2.isList (by rw[List.size_toArray,List.size_toArray];omega) (by omega) λj j1 j2=> ?_) X.prog X.w X.xe _ ⟨.bl _,H,I,rfl,?_⟩
    ·obtain⟨p,ep,rp⟩:=val_at r1 j1;obtain⟨q,eq,rq⟩:=val_at r2 j2;exact eqs_at I n (by omega) (hj j p q ep eq) rp rq
    ·have:b=(List.range its.toArray.size).all e:=by
      rw[eb,hl,Nat.min_self,<-hl,List.size_toArray,<-m1];simp
     rw[<-this];exact q
   ·refine(SeqAt.RcAt.lists_lengths (A:=X.A) p1.isList p2.isList (by rw[List.size_toArray,List.size_toArray];simp;omega) (by omega)) X.prog X.w X.xe _ ⟨.bl _,H,I,rfl,?_⟩;have eb':b=false:=by rw[eb];simp[hl]
    rw[<-eb'];exact q
 ·cases e2
 ·cases e1
theorem op_nes(hu:X.A.units+64<cLine):OpR X (compareOp .NotEq) (rNes X.K):=by
 intro pins s σ H x y v u Q I rx ry h;obtain⟨n,b,a,c,rfl,rfl,hn,h,q⟩:=h;cases rx;cases ry;have iu:=in1_units X.A;rcases h with⟨h,_⟩|⟨a',c',xs,ys,e,e1,e2,hh,hj,eb⟩|⟨_,_,_,e2,_⟩|⟨_,_,e1,_⟩
 ·cases h
 ·cases e1;cases e2;rcases hh with⟨h1,h2⟩|⟨h1,h2⟩
  ·obtain⟨its,r1,p1,_⟩:=I.tuple h1;obtain⟨its2,r2,p2,_⟩:=I.tuple h2;refine(SeqAt.RcNeAt.tuples (A:=X.A) (e:=e) p1 p2 (by omega) λj j1 j2=> ?_) X.prog X.w X.xe _ ⟨.bl _,H,I,rfl,?_⟩
   ·obtain⟨p,ep,rp⟩:=val_at r1 j1;obtain⟨q,eq,rq⟩:=val_at r2 j2;exact eqs_at I n (by omega) (hj j p q ep eq) rp rq
   ·rw[List.size_toArray,List.size_toArray,<-r1.length,<-r2.length,<-eb];exact q
  ·obtain⟨its,r1,p1,_⟩:=I.list h1;obtain⟨its2,r2,p2,_⟩:=I.list h2;have m1:=r1.length;have m2:=r2.length;by_cases hl:xs.length=ys.length
   ·refine(SeqAt.RcNeAt.lists (A:=X.A) (e:=e) p1.isList p2.isList (by rw[List.size_toArray,List.size_toArray];omega) (by omega) λj j1 j2=> ?_) X.prog X.w X.xe _ ⟨.bl _,H,I,rfl,?_⟩
    ·obtain⟨p,ep,rp⟩:=val_at r1 j1;obtain⟨q,eq,rq⟩:=val_at r2 j2;exact eqs_at I n (by omega) (hj j p q ep eq) rp rq
    ·have:b=(List.range its.toArray.size).all e:=by
      rw[eb,hl,Nat.min_self,<-hl,List.size_toArray,<-m1];simp
     rw[<-this];exact q
   ·refine(SeqAt.RcNeAt.lists_lengths (A:=X.A) p1.isList p2.isList (by rw[List.size_toArray,List.size_toArray];simp;omega) (by omega)) X.prog X.w X.xe _ ⟨.bl _,H,I,rfl,?_⟩;have eb':b=false:=by rw[eb];simp[hl]
    rw[eb'] at q;exact q
 ·cases e2
 ·cases e1
end
end L2
namespace HT
open PySem PyProof.Rows L2
section
open PySem.SeqAt
open PySem.AutoSeq1 (wpAny_loadPart')
open PySem.MeetsSeq PySem.MeetsSeq2 PySem.MeetsSeq3
end
section
open PySem.SeqAt
open PySem.AutoSeq1 (wpAny_loadPart')
open PySem.MeetsSeq PySem.MeetsSeq2 PySem.MeetsSeq3
end
end HT
namespace L2
open PySem PySem.Spec PyProof.Rows
end L2
namespace Wk
open PySem L2
end Wk
namespace L2
open PySem PySem.Spec PyProof.Rows
end L2
namespace Wk
open PySem L2
theorem A4{α:Type}{l:List α}{i:Nat}{d:α}(h:l[i]? =some d):l.take (i+1)=l.take i++[d]:=by rw[List.take_add_one,h];rfl
end Wk
namespace Wk
open PySem L2
end Wk
namespace L2
open PySem PySem.Spec PyProof.Rows
end L2
namespace Wk
open PySem L2
theorem part_up{N p:Nat}{S:List T4}:(Ar N S p).Pairwise (·<·):=by
 unfold Ar;exact(List.pairwise_lt_range).sublist List.filter_sublist
end Wk
namespace HT
open PySem PyProof.Rows
end HT
namespace L2
open PySem PySem.Spec PyProof.Rows
end L2
namespace Wk
open PySem L2
theorem cat_any{K:PySem.W.Frag}{H:Hp}{Q:VK}{a b:Addr}{xs ys:List V}(ha:H a=some (.tup xs))(hb:H b=some (.tup ys))(hl:xs.length+ys.length<=10000)(k:∀t H',Same H H'->H' t=some (.tup (xs++ys))->Q (.ref t) H'):rCatTT K (.ref a) (.ref b) H Q:=by
 refine⟨a,b,_,_,rfl,rfl,SqT.of ha,SqT.of hb,small hl,λe=>k b H (same_refl H) ?_,λ_ e=>k a H (same_refl H) ?_,λ_ _ p hp=>k p _ (Ad hp) Ab⟩
 ·rw[e];exact hb
 ·rw[e,List.append_nil];exact ha
theorem cut_any{K:PySem.W.Frag}{H:Hp}{Q:VK}{a:Addr}{xs:List V}{lo hi:Option Int}(ha:H a=some (.tup xs))(k:∀t H',Same H H'->H' t=some (.tup (Dy xs lo hi))->Q (.ref t) H'):rSlTA K (.ref a) lo hi H Q:=by
 refine⟨a,xs,rfl,SqT.of ha,λw=>k a H (same_refl H) ?_,λ_ p hp=>k p _ (Ad hp) Ab⟩;have:Dy xs lo hi=xs:=by
  unfold Dy;rw[w.1,w.2];simp
 rw[this];exact ha
end Wk
namespace Wk
open PySem L2
end Wk
namespace Srt
open PySem PySem.W PyProof.Rows L2
theorem collect_tup{prog:Program}{w:World}{A:Around}{E:Value->Shared->Prop}{s:Shared}{l:Addr}{vs:List Value}{Q:List Value->Shared->Prop}(hl:IsTup s.heap l vs.toArray)(h:Q vs {s with heap:=(s.heap.push (seqObj "list" #[] 0)).update s.heap.objs.size (Obj.mapSeq (·++vs.toArray))})(hsz:vs.length<=sizeLine):
  wpAny (model prog w) A (collect (.ref l)) Q E s:=by
 obtain⟨o,ho,hc,n,hd⟩:=id hl;unfold collect;refine wpAny_bind (wpAny_runValue (codeAny_builtin entry_proto_collect' ?_));show wpAny _ _ (do again (.builtin "list.__iadd__" ⟨[<-newList [],.ref l],[]⟩)) _ _ s;refine wpAny_bind (wpAny_newList (wpAny_pure ⟨Code.quiet_builtin _ (by decide+kernel),codeAny_builtin entry_list_iadd' ?_⟩));show wpAny _ _ (Builtin.List.listExtendWith (.ref s.heap.objs.size) (.ref l) (.ref s.heap.objs.size)) _ _ {s with heap:=s.heap.push (seqObj "list" #[] 0)};unfold Builtin.List.listExtendWith;have ho':(s.heap.push (seqObj "list" #[] 0)).get? l=some o:=Heap.get?_push_of_some _ ho;refine wpAny_bind (wpAny_typeOf (T:="tuple") ⟨o,ho',hc⟩ ?_);have ht:(Value.type "tuple"==Value.type "tuple")=true:=by rfl
 rw[if_pos (by rw[ht];simp)];refine wpAny_bind (listItems_at ho' hd ?_);refine wpAny_bind (listItems_at (xs:= #[]) (n:=0) (Heap.get?_push_size _ rfl) rfl ?_);rw[if_neg (by simp)];refine wpAny_bind (listUpdate_at (xs:= #[]) (n:=0) (Heap.get?_push_size _ rfl) rfl ?_ (Nat.zero_le _) (by show (#[]++vs.toArray).size<=sizeLine+1;simp only[Array.size_append,List.size_toArray,List.length_nil];omega));refine wpAny_pure ?_;show wpAny (model prog w) A (do
   let o <-load s.heap.objs.size
   match o.data with
   | .seq xs _=>pure xs.toList
   |_=>unsupported "internal:collect") Q E {s with heap:=(s.heap.push (seqObj "list" #[] 0)).update s.heap.objs.size (Obj.mapSeq (·++vs.toArray))}
 refine wpAny_bind (wpAny_load (get?_update_seq (Heap.get?_push_size _ rfl) _) ?_);show wpAny _ _ (pure ((#[]:Array Value)++vs.toArray).toList) Q E _;rw[show ((#[]:Array Value)++vs.toArray).toList=vs by simp];exact wpAny_pure h
section
variable{X:Cx}
theorem call_sortedSt:Dw X (.builtin "sorted") (λxs H Q=>∃(p:Addr) (ns:List Str),xs=[.ref p]/\SqT X.K H p (ns.map V.str)/\ns.length<64/\∀(l:Addr) (ns':List Str),H l=none->ns'.Perm ns->ns'.Pairwise (λa b=>ltK (.inr b) (.inr a)=false)->Q (.ref l) (upd H l (.lst (ns'.map V.str)))):=by
 intro pins s σ H xs us Q I r h;obtain⟨p,ns,rfl,hq,h64,q⟩:=h;obtain⟨u,rfl,rx⟩:=Dz r;cases rx;obtain⟨its,rv,hp,hz⟩:=I.tuple hq;have len:its.length=ns.length:=by have:=rv.length;rw[List.length_map] at this;omega
 refine sorted_raw (κ:=oneType') (ord_rows λi=>[Sum.inr (ns.getD i default)]) (λus=>Vals (ns.map V.str) us) (λus hu=>by have:=hu.length;rw[List.length_map] at this;omega) (λQ hq=>collect_tup hp (hq _ _ _ (by simpa using rv) λb o ho=> ?_) (by rw[sizeLine_eq];omega)) ?_ ?_ ?_
 ·have hlt:b<s.heap.objs.size:=Heap.lt_size ho;rw[Heap.get?_update_ne _ _ _ _ (Nat.ne_of_lt hlt)];exact Heap.get?_push_of_some _ ho
 ·intro us h' t' hu k l2 Q hq;refine kas_kind (s:={s with heap:=h',toks:=t'}) (T:=Value.type "str") l2 (λv hv=> ?_) rfl rfl hq;clear hq l2;have:∀{ns:List Str} {us:List Value},Vals (ns.map V.str) us->∀v∈us,∃x t,v=Value.str x t:=by
   intro ns
   induction ns with
   |nil=>intro us hu v hv;cases hu;cases hv
   |cons n ns ih=>
    intro us hu v hv;cases hu with
    |cons r t=>
     rcases List.mem_cons.mp hv with rfl|hv
     ·obtain⟨t,rfl⟩:=r;exact⟨_,_,rfl⟩
     ·exact ih t v hv
  obtain⟨x,t,rfl⟩:=this hu v hv;exact Looks.of_pure rfl
 ·intro us h' t' hu k i j C hi hj hC;have lu:=hu.length;rw[List.length_map] at lu;obtain⟨a,ha,ra⟩:=Vals.get hu (i:=i) (x:=V.str (ns.getD i default)) (by simp[show i<ns.length by omega]);obtain⟨b,hb,rb⟩:=Vals.get hu (i:=j) (x:=V.str (ns.getD j default)) (by simp[show j<ns.length by omega]);show wpAny _ _ (keyLt' oneType' (us.getD i Value.none) (us.getD j Value.none)) C _ _;have e1:us.getD i Value.none=a:=by simp[List.getD,ha]
  have e2:us.getD j Value.none=b:=by simp[List.getD,hb]
  rw[e1,e2,keyLt'_oneType];refine key_lt (x:=Sum.inr (ns.getD i default)) (y:=Sum.inr (ns.getD j default)) rfl ra rb ?_;have:ltR [Sum.inr (ns.getD i default)] [Sum.inr (ns.getD j default)]=ltK (Sum.inr (ns.getD i default)) (Sum.inr (ns.getD j default)):=by
   unfold ltR;split
   ·rename_i e;rw[e,ltK_irr];rfl
   ·rfl
  rw[<-this];exact hC
 ·intro us p h1 h' t' l e hu pm st k1 k zl hl;have lu:=hu.length;rw[List.length_map] at lu;have I:L2.Inv X pins σ H {s with heap:=h1,toks:=t'}:=I.kept k1;rw[<-lu] at pm st;have pl:=pm.toList;have pp:(p.toList.map λi=>ns.getD i default).Perm ns:=by
   have:=pl.map (λi=>ns.getD i (default:Str))
   rwa [map_range_getD] at this
  have pw:(p.toList.map λi=>ns.getD i (default:Str)).Pairwise (λa b=>ltK (.inr b) (.inr a)=false):=by
   rw[List.pairwise_map];refine(st.pairwise pm.size).imp λ{a b} hab=> ?_;unfold ltR at hab;split at hab
   ·rename_i e;rw[e];exact ltK_irr _
   ·exact hab
  have mem:∀i∈p.toList,i<ns.length:=λi hi=>by simpa using pl.mem_iff.mp hi
  have vv:Vals ((p.toList.map λi=>ns.getD i default).map V.str) (p.toList.map λi=>us.getD i Value.none):=by
   clear hl pw pp pl st pm;generalize p.toList=il at mem
   induction il with
   |nil=>exact .nil
   |cons i il ih=>
    refine .cons ?_ (ih λj hj=>mem j (.tail _ hj));have hi:=mem i (.head _);obtain⟨a,ha,ra⟩:=Vals.get hu (i:=i) (x:=V.str (ns.getD i default)) (by simp[hi]);have e1:us.getD i Value.none=a:=by simp[List.getD,ha]
    show L2.RelV (V.str (ns.getD i default)) (us.getD i Value.none);rw[e1];exact ra
  refine⟨.ref l,_,I.laid (t':=t') (o:= .lst ((p.toList.map λi=>ns.getD i default).map V.str)) k zl ⟨?_,_,e,vv,hl⟩,rfl,q l _ (I.hok.fresh zl) pp pw⟩;rw[List.length_map,pp.length_eq,sizeLine_eq];omega
end
end Srt
namespace PySem
open PySem.Spec PyProof.Rows
end PySem
namespace L2
open PySem PySem.Spec PyProof.Rows
end L2
namespace Wk
open PySem L2
end Wk
namespace L2
open PySem PySem.Spec PyProof.Rows
theorem op_eqNilT{X:Cx}(hu:X.A.units+64<cLine):OpR X (compareOp .Eq) (λx y H Q=>∃(a b:Addr) (xs:List V),x= .ref a/\y= .ref b/\SqT X.K H a xs/\SqT X.K H b []/\Q (.bl xs.isEmpty) H):=by
 intro pins s σ H x y u v Q I rx ry h;obtain⟨a,b,xs,rfl,rfl,ha,hb,q⟩:=h;cases rx;cases ry;obtain⟨its,r1,h1,_⟩:=I.tuple ha;obtain⟨its2,r2,h2,_⟩:=I.tuple hb;have l1:=r1.length;have l2:=r2.length;have e2:its2=[]:=by cases its2 with|nil=>rfl|cons _ _=>simp at l2
 subst e2;refine SeqAt.eq_tupleAt (e:=λ_=>true) h1 h2 (by omega) (λj g1 g2=>absurd g2 (by simp)) ?_;refine⟨.bl _,H,I,rfl,?_⟩;have:((List.range (min its.toArray.size ([]:List Value).toArray.size)).all (λ_=>true) && its.toArray.size==([]:List Value).toArray.size)=xs.isEmpty:=by
  cases xs with
  |nil=>cases its with|nil=>rfl|cons _ _=>simp at l1
  |cons x xs=>cases its with|nil=>simp at l1|cons _ _=>simp
 rw[this];exact q
end L2
namespace L2
open PySem PySem.Spec PyProof.Rows
end L2
namespace L2
open PySem PySem.Spec PyProof.Rows
end L2
namespace Rp
open PySem L2 PySem.Spec PyProof.Rows PySem.P
mutual
inductive RepF(H:Hp):Bool->V->PyData->Prop
 |non {f:Bool}:RepF H f .non .none
 |bl {f:Bool} (b:Bool):RepF H f (.bl b) (.bool b)
 |int {f:Bool} (i:Int):RepF H f (.int i) (.int i)
 |str {f:Bool} (x:Str):RepF H f (.str x) (.str x)
 |tup {f:Bool} {a:Addr} {xs:List V} {ds:List PyData}:H a=some (.tup xs)->RepFs H f xs ds->RepF H f (.ref a) (.tuple ds)
 |lst {a:Addr} {xs:List V} {ds:List PyData}:H a=some (.lst xs)->RepFs H false xs ds->RepF H false (.ref a) (.list ds)
 |dct {a:Addr}:H a=some (.dK [])->RepF H true (.ref a) (.dict [])
 |dc1 {a:Addr} {x:Str} {i:Int}:H a=some (.dK [(.inr x,.int i)])->RepF H true (.ref a) (.dict [(.str x,.int i)])
inductive RepFs(H:Hp):Bool->List V->List PyData->Prop
 |nil {f:Bool}:RepFs H f [] []
 |cons {f:Bool} {x:V} {xs:List V} {d:PyData} {ds:List PyData}:RepF H f x d->RepFs H f xs ds->RepFs H f (x::xs) (d::ds)
end
mutual
theorem RepF.same{H H':Hp}(s:Same H H'):∀{f:Bool} {v:V} {d:PyData},RepF H f v d->RepF H' f v d
 |_,_,_,.non=> .non
 |_,_,_,.bl b=> .bl b
 |_,_,_,.int i=> .int i
 |_,_,_,.str x=> .str x
 |_,_,_,.tup e h=> .tup (s _ _ e) (RepFs.same s h)
 |_,_,_,.lst e h=> .lst (s _ _ e) (RepFs.same s h)
 |_,_,_,.dct e=> .dct (s _ _ e)
 |_,_,_,.dc1 e=> .dc1 (s _ _ e)
theorem RepFs.same{H H':Hp}(s:Same H H'):∀{f:Bool} {vs:List V} {ds:List PyData},RepFs H f vs ds->RepFs H' f vs ds
 |_,_,_,.nil=> .nil
 |_,_,_,.cons h t=> .cons (RepF.same s h) (RepFs.same s t)
end
mutual
theorem RepF.reads{X:Cx}{pins:List (Addr×Obj)}{σ:L2.St}{H:Hp}{s:Shared}(I:Inv X pins σ H s):∀{f:Bool} {v:V} {d:PyData} {u:Value},RepF H f v d->RelV v u->∃as,Reads s.heap u d as/\(f=true->sysModules ∉ as)
 |_,_,_,_,.non,r=>by cases r;exact⟨_,.none,λ_=>by simp⟩
 |_,_,_,_,.bl b,r=>by cases r;exact⟨_,.bool b,λ_=>by simp⟩
 |_,_,_,_,.int i,r=>by obtain⟨t,rfl⟩:=r;exact⟨_,.int i t,λ_=>by simp⟩
 |_,_,_,_,.str x,r=>by obtain⟨t,rfl⟩:=r;exact⟨_,.str x t,λ_=>by simp⟩
 |_,_,_,_,.tup e h,r=>by
  cases r;obtain⟨_,its,rv,o,e1,e2,_,n,e3⟩:=I.hok _ _ e;obtain⟨as,q,na⟩:=RepFs.reads I h rv;exact⟨as,.tuple e1 e2 e3 (by simpa using q),na⟩
 |_,_,_,_,.lst e h,r=>by
  cases r;obtain⟨_,its,n,rv,e1⟩:=I.hok _ _ e;obtain⟨as,q,na⟩:=RepFs.reads I h rv;exact⟨_,.list e1 rfl rfl (by simpa using q),λz=>by cases z⟩
 |_,_,_,_,.dct (a:=a) e,r=>by
  cases r;obtain⟨_,ns,vs,kv,o,es,ep,e1,ex,e3,_,pr,_⟩:=I.hok _ _ e;have hv:vs=[]:=by cases kv;rfl
  subst hv;have he:es.toList=[]:=by
   have:=pr.length;simpa using this
  refine⟨a::[]++[],.dict (kvs:=[]) e1 ex.1 e3 (by rw[he];exact .nil) (by rw[he];exact .nil),λ_=> ?_⟩;have:a≠sysModules:=by simpa using ns
  simpa using this.symm
 |_,_,_,_,.dc1 (a:=a) (x:=x) (i:=i) e,r=>by
  cases r;obtain⟨_,ns,vs,kv,o,es,ep,e1,ex,e3,_,pr,_⟩:=I.hok _ _ e;obtain⟨u,hv,t',hu⟩:∃u,vs=[(Sum.inr x,u)]/\∃t,u=Value.int i t:=by
   cases kv with
   | @cons _ b _ _ r1 r2=>
    cases r2;obtain⟨b1,b2⟩:=b;obtain⟨z,r1⟩:=r1;cases z;exact⟨_,rfl,r1⟩
  subst hv;generalize hes:es.toList=el at pr;cases pr with
  | @cons en _ el _ h1 h2 h3=>
   cases h3;obtain⟨t,ht⟩:∃t,en.key=Value.str x t:=by
    rcases Bg (k:=Sum.inr x) (v:=en.key) h1 with⟨_,_,z,_⟩|⟨y,t,z,e'⟩
    ·cases z
    ·cases z;exact⟨t,e'⟩
   refine⟨a::([]++[])++([]++[]),.dict (kvs:=[(.str x,.int i)]) e1 ex.1 e3 ?_ ?_,λ_=> ?_⟩
   ·rw[hes];show ReadsAll s.heap [en.key] [.str x] _;rw[ht];exact .cons (.str x t) .nil
   ·rw[hes];show ReadsAll s.heap [en.val] [.int i] _;rw[h2,hu];exact .cons (.int i t') .nil
   ·have:a≠sysModules:=by simpa using ns
    simpa using this.symm
theorem RepFs.reads{X:Cx}{pins:List (Addr×Obj)}{σ:L2.St}{H:Hp}{s:Shared}(I:Inv X pins σ H s):∀{f:Bool} {vs:List V} {ds:List PyData} {us:List Value},RepFs H f vs ds->Vals vs us->∃as,ReadsAll s.heap us ds as/\(f=true->sysModules ∉ as)
 |_,_,_,_,.nil,r=>by cases r;exact⟨_,.nil,λ_=>by simp⟩
 |_,_,_,_,.cons h t,r=>by
  cases r with
  |cons r1 r2=>
   obtain⟨as,q1,n1⟩:=RepF.reads I h r1;obtain⟨bs,q2,n2⟩:=RepFs.reads I t r2;exact⟨_,.cons q1 q2,λz=>by simp[n1 z,n2 z]⟩
end
mutual
theorem RepF.nodict{H:Hp}:∀{v:V} {d:PyData},RepF H false v d->d.hasDict=false
 |_,_,.non=>rfl
 |_,_,.bl _=>rfl
 |_,_,.int _=>rfl
 |_,_,.str _=>rfl
 |_,_,.tup _ h=>by rw[PyData.hasDict];exact RepFs.nodict h
 |_,_,.lst _ h=>by rw[PyData.hasDict];exact RepFs.nodict h
theorem RepFs.nodict{H:Hp}:∀{vs:List V} {ds:List PyData},RepFs H false vs ds->PyData.hasDictAll ds=false
 |_,_,.nil=>rfl
 |_,_,.cons h t=>by rw[PyData.hasDictAll,RepF.nodict h,RepFs.nodict t];rfl
end
end Rp
namespace L2
open PySem PySem.Spec PyProof.Rows Rp PySem.P
end L2
namespace Rp
open PySem L2
end Rp
namespace Wk
open PySem L2
def lsF(N:Nat)(S:List T4):List Nat:=(List.range N).filter λp=>decide ((Ar N S p)[0]? =some p)
theorem part_eq{N p q:Nat}{S:List T4}(hS:InN N S)(hp:p<N)(hq:q<N)(hN:N<=60)(h:Reach S p q):Ar N S p=Ar N S q:=by
 rw[part_lab hS hp hN,part_lab hS hq hN,(lab_iff hS hp hq).mpr h]
theorem part_self{N p:Nat}{S:List T4}(hS:InN N S)(hp:p<N)(hN:N<=60):p∈Ar N S p:=(A6 hS hp hN).mpr ⟨hp,.refl⟩
theorem part_head{N p:Nat}{S:List T4}(hS:InN N S)(hp:p<N)(hN:N<=60):∃q,(Ar N S p)[0]? =some q/\q∈lsF N S/\Reach S q p:=by
 have hm:=part_self hS hp hN;have hl:0<(Ar N S p).length:=List.length_pos_of_mem hm;have h0:=Ck hl;refine⟨_,h0,?_⟩;have hq:=(A6 hS hp hN).mp (List.getElem_mem hl);refine⟨List.mem_filter.mpr ⟨List.mem_range.mpr hq.1,?_⟩,hq.2.symm⟩;rw[decide_eq_true_eq,<-part_eq hS hp hq.1 hN hq.2];exact h0
theorem ls_lt{N p:Nat}{S:List T4}(hp:p∈lsF N S):p<N:=List.mem_range.mp (List.mem_filter.mp hp).1
end Wk
namespace Wk
open PySem L2
theorem ls_nil{N:Nat}(hN:N<=60):lsF N []=List.range N/\∀p,p<N->Ar N [] p=[p]:=by
 have hS:InN N []:=λt ht=>by cases ht
 have hp:∀p,p<N->Ar N [] p=[p]:=λp hp=>by
  have key:∀v∈Ar N [] p,v=p:=λv hv=>by
   obtain⟨_,ws,l⟩:=(A6 hS hp hN).mp hv;cases l with
   |nil=>rfl
   |snoc _ q=>cases q
  have hm:=part_self hS hp hN;have up:=part_up (N:=N) (p:=p) (S:=[]);cases h:Ar N [] p with
  |nil=>rw[h] at hm;cases hm
  |cons a l=>
   rw[h] at key up;have ea:=key a (List.mem_cons_self ..);cases l with
   |nil=>rw[ea]
   |cons b l=>
    have eb:=key b (List.mem_cons_of_mem _ (List.mem_cons_self ..));have:=(List.pairwise_cons.mp up).1 b (List.mem_cons_self ..);omega
 refine⟨?_,hp⟩;unfold lsF;refine List.filter_eq_self.mpr λp h=> ?_;rw[hp p (List.mem_range.mp h)];simp
end Wk
namespace StT
open PySem
end StT
namespace StT
open PySem
end StT
namespace StT
open PySem
end StT
namespace StT
open PySem PyProof.Rows
end StT
namespace StT
open PySem PyProof.Rows
end StT
namespace StT
open PySem PyProof.Rows
end StT
namespace StT
open PySem PyProof.Rows
end StT
namespace StT
open PySem PyProof.Rows
end StT
namespace StT
open PySem PyProof.Rows
end StT
namespace Srt
open PySem PySem.W PyProof.Rows
end Srt
namespace StT
open PySem PyProof.Rows L2
end StT
namespace StT
open PySem PySem.W PyProof.Rows L2 Srt
end StT
namespace L2
open PySem PySem.W PyProof.Rows StT
end L2
namespace L2
open PySem PySem.W PySem.Spec PyProof.Rows StT Srt
section
variable{X:Cx}
theorem vals_intsV:∀{ns:List Int} {us:List Value},Vals (ns.map V.int) us->∀y∈us,∃j t',y= .int j t':=by
 intro ns us hv
 induction ns generalizing us with
 |nil=>cases hv;intro y hy;cases hy
 |cons n ns ih=>
  cases hv with
  |cons h tl=>
   intro y hy;rcases List.mem_cons.mp hy with rfl|hy
   ·obtain⟨u,rfl⟩:=h;exact⟨n,u,rfl⟩
   ·exact ih tl y hy
def isIv(i:Int):Value->Bool
 | .int j _=>j==i
 |_=>false
theorem countI{i:Int}:∀{ns:List Int} {us:List Value},Vals (ns.map V.int) us->us.countP (isIv i)=ns.count i
 |[],_,.nil=>rfl
 |n::ns,_,.cons h t=>by
  obtain⟨u,rfl⟩:=h;rw[List.countP_cons,List.count_cons,countI t];rfl
inductive RCountLP(x:V)(vs:List V)(H:Hp)(Q:VK):Prop
 |mk (a:Addr) (ns:List Int) (i:Int):(x= .ref a)->(vs=[.int i])->(H a=some (.lst (ns.map V.int)))->(Q (.int (ns.count i:Nat)) H)->RCountLP x vs H Q
def rCountL:V->List V->Hp->VK->Prop:=λx vs H Q=>RCountLP x vs H Q
theorem mt_countL:MtM X "list.count" rCountL:=by
 intro pins s σ H x xs v us Q I rx r h;obtain⟨a,ns,i,rfl,rfl,ha,q⟩:=h;cases rx;obtain⟨u,rfl,⟨t,rfl⟩⟩:=Dz r;obtain⟨hz,its,n,rv,hlen,ho⟩:=I.lstM ha;refine call_meets PySem.F.slot_list_count ⟨_,ho,rfl⟩ PySem.F.entry_list_count (PySem.F.args_list_count_2 _ _) (SeqAt.list_countAt a its.toArray n none #[] (.int i t) (isIv i)) ⟨ho,?_,?_⟩
 ·intro y hy;have hy:y∈its:=by simpa using hy
  obtain⟨j,t',rfl⟩:=vals_intsV rv y hy;exact SeqAt.EqAt.int_int j t' i t
 ·refine⟨.int _,H,I.tok _,⟨_,rfl⟩,?_⟩;rw[show its.toArray.toList.countP (isIv i)=ns.count i from countI rv];exact q
end
end L2
namespace L2
open PySem PySem.Spec PyProof.Rows
end L2
namespace PySem
open Sem (wp)
section
variable{prog:Program}{w:World}{A:Around}{E:Value->Shared->Prop}{h:Heap}{g:Array GenState}{d:Drawn}{t:Nat}{os:OsState}{K:PySem.W.Frag}
variable{nm q:Str}{C N f:Addr}{bs bm:List Value}{hdct:Bool}{sn:List Str}{sub:List Value}{ab:Bool}{col:Option Bool}{dd:Option Addr}{k0 k1 k2 k3 k5:Option Value}
end
end PySem
namespace L2
open PySem PySem.Spec PyProof.Rows
end L2
namespace PySem
open Sem (wp)
end PySem
namespace L2
open PySem PySem.Spec PyProof.Rows
end L2
namespace PySem
open Sem (wp)
end PySem
namespace L2
open PySem PySem.Spec PyProof.Rows
end L2
namespace L2
open PySem PySem.Spec PyProof.Rows
end L2
namespace L2
open PySem PySem.Spec PyProof.Rows
end L2
namespace PySem
open Sem (wp)
end PySem
namespace L2
open PySem PySem.Spec PyProof.Rows
end L2
namespace L2
open PySem PySem.Spec PyProof.Rows
end L2
namespace PySem
open Sem (wp)
end PySem
namespace L2
open PySem PySem.Spec PyProof.Rows
end L2
namespace L2
open PySem PySem.Spec PyProof.Rows
section
variable{X:Cx}{K:PySem.W.Frag}{T:String}{name:Str}{id:String}{r:V->List V->Hp->VK->Prop}{o e:Expr}{es:List Expr}{apos cpos:Pos}{to:TE}{t:TA}
theorem pe_bmK(hK:X.K=K)(pa:PlainAttrs T)(slot:Slot T name id)(hty:typeOf (.builtin id)=pure (.type "method_descriptor"))(hm:MtR X id r)(ho:PE X o to)(ha:PA X (e::es) t)(hbase:attributeBase o name X.env (eval o X.env)=eval o X.env:=by rfl)(hfew:((backTo cpos (starEach (e::es) X.env)).all (λx=> !x.1) && (backToKw cpos (keywordEach [] X.env)).all (λx=>x.1.isSome)
   && decide ((e::es).length+([]:List Keyword).length+(if ([]:List Keyword).isEmpty then 0 else 1)<30))=true:=by rfl)(hline:(apos.endLine==cpos.line)=true:=by rfl)(hs:starEach (e::es) X.env=(false,eval e X.env)::starEach es X.env:=by rfl)(hplain:(backTo cpos (starEach es X.env)).any (·.1)=false:=by rfl):
  PE X (.Call (.Attribute o name apos) (e::es) [] cpos) (tBM K T r to t):=by
 subst hK;exact pe_bm pa slot hty hm ho ha hbase hfew hline hs hplain
end
end L2
namespace L2
open PySem
end L2
namespace L2
open PySem PySem.Spec PyProof.Rows
theorem FnOk.or{P:Program}{w:World}{K:PySem.W.Frag}{mg:Str->Option Value}{base:Heap}{CX:CXT}{k:Nat}{f:Addr}{fd:FuncData}{ps:List Str}{sp sp':Sp}(F:FnOk P w K mg base CX k f fd ps sp)(G:FnOk P w K mg base CX k f fd ps sp'):
  FnOk P w K mg base CX k f fd ps λvs H Q E=>sp vs H Q E\/sp' vs H Q E:=
 ⟨λvs H Q E h=>h.elim (F.len vs H Q E) (G.len vs H Q E),λA outer s H args us vs Q E hr he hb hv h=>h.elim (F.run A outer s H args us vs Q E hr he hb hv) (G.run A outer s H args us vs Q E hr he hb hv)⟩
end L2
namespace Srt
open PySem PySem.W PyProof.Rows L2
section
variable{prog:Program}{w:World}{A:Around}{E:Value->Shared->Prop}{s:Shared}
theorem eq_self{C:Bool->Shared->Prop}{u:Value}(h:C true s):wpAny (model prog w) A (eqBool u u) C E s:=by
 unfold eqBool
 try with_reducible refine wpAny_holding ?_
 rw[if_pos (beq_self_eq_true u)];exact wpAny_bind (wpAny_rule (wpAny_pure h))
theorem lex_self{b fin:Bool}{C:Bool->Shared->Prop}(h:C fin s):∀(us:List Value) (i:Nat),KatLex prog w A b fin C (us.zip us) i s
 |[],_=>h
 |u::us,i=>kat_cons (eq_self (kat_yes (lex_self h us (i+1))))
end
end Srt
namespace Srt
open PySem PySem.W PyProof.Rows L2
abbrev Pn:=Addr×Str×List V
def nRef(q:Pn):V:= .ref q.1
def d0:Pn:=(0,"",[])
def ltN(ps:List Pn)(i j:Nat):Bool:=ltK (.inr (ps.getD i d0).2.1) (.inr (ps.getD j d0).2.1)
theorem ord_nms(ps:List Pn):Ord (ltN ps) where
 asym:=λa b h=>by
  unfold ltN at *;generalize (Sum.inr (ps.getD a d0).2.1:Key)=x at *;generalize (Sum.inr (ps.getD b d0).2.1:Key)=y at *;cases e:ltK y x with
  |false=>rfl
  |true=>have:=ltK_tr h e;rw[ltK_irr] at this;cases this
 ntr:=λa b c h1 h2=>by
  unfold ltN at *;generalize (Sum.inr (ps.getD a d0).2.1:Key)=x at *;generalize (Sum.inr (ps.getD b d0).2.1:Key)=y at *;generalize (Sum.inr (ps.getD c d0).2.1:Key)=z at *;cases e:ltK x z with
  |false=>rfl
  |true=>
   rcases ltK_tri _ _ h1 with r|r
   ·rw[r,h2] at e;cases e
   ·have:=ltK_tr r e;rw[h2] at this;cases this
theorem tups_nms{X:Cx}{pins:List (Addr×Obj)}{σ:L2.St}{H:Hp}{s:Shared}(I:Inv X pins σ H s):∀(ps:List Pn),(∀q∈ps,SqT X.K H q.1 (.str q.2.1::q.2.2))->
  ∃fs,KatTups s.heap (ps.map λq=>Value.ref q.1) fs/\fs.length=ps.length/\∀v∈fs,∃i t,v=Value.str i t
 |[],_=>⟨[],trivial,rfl,λv h=>nomatch h⟩
 |q::ps,h=>by
  obtain⟨fs,t,l,f⟩:=tups_nms I ps (λq hq=>h q (.tail _ hq));obtain⟨its,rv,⟨o,ho,hc,n,hd⟩,hz⟩:=I.tuple (h q (.head _));cases rv with
  | @cons _ u _ us ru rr=>
   obtain⟨tt,rfl⟩:=(show ∃t,u=Value.str q.2.1 t from ru)
   refine⟨Value.str q.2.1 tt::fs,.cons ho hc hd (by simp) t,by simp[l],λv hv=> ?_⟩;rcases List.mem_cons.mp hv with rfl|hv
   ·exact⟨_,_,rfl⟩
   ·exact f v hv
theorem sortN_core{X:Cx}{pins:List (Addr×Obj)}{σ:L2.St}{H:Hp}{s:Shared}(I:Inv X pins σ H s){v:Value}{ps:List Pn}{Q:VK}(hT:∀q∈ps,SqT X.K H q.1 (.str q.2.1::q.2.2))(hn:(ps.map (·.2.1)).Nodup)(h64:ps.length<64)(hcol:∀(Q:List Value->Shared->Prop),(∀h1 t1,(∀b o,s.heap.get? b=some o->h1.get? b=some o)->Q (ps.map λq=>Value.ref q.1) {s with heap:=h1,toks:=t1})->wpAny (model X.prog X.w) X.A.in1 (collect v) Q X.xe s)(h:∀(l:Addr) (ps':List Pn),H l=none->ps'.Perm ps->ps'.Pairwise (λa b=>¬b.2.1.cps.toList<a.2.1.cps.toList)->Q (.ref l) (upd H l (.lst (ps'.map nRef)))):
  wpAny (model X.prog X.w) X.A (call (.builtin "sorted") [v]) (EP X pins σ Q) X.xe s:=by
 have lz:(ps.map λq=>Value.ref q.1).length=ps.length:=List.length_map ..;refine sorted_raw (κ:=tuples' true) (ord_nms ps) (λvs=>vs=ps.map λq=>Value.ref q.1) (λvs e=>by rw[e,lz];exact h64) (λQ hq=>hcol Q λh1 t1 k=>hq _ h1 t1 rfl k) ?_ ?_ ?_
 ·rintro vs h' t' rfl k l2 Q hq;rw[lz] at l2;have I':Inv X pins σ H {s with heap:=h',toks:=t'}:=I.kept k;obtain⟨fs,t,l,f⟩:=tups_nms I' ps hT;refine kat_kind (s:={s with heap:=h',toks:=t'}) (T:=Value.type "str") t (by omega) (λv hv=> ?_) rfl ?_
  ·obtain⟨i,t,rfl⟩:=f v hv;exact Looks.of_pure rfl
  ·have:(Value.type "str" !=Value.type "tuple")=true:=rfl;rw[this];exact hq
 ·rintro vs h' t' rfl k i j C hi hj hC;rw[lz] at hi hj;have I':Inv X pins σ H {s with heap:=h',toks:=t'}:=I.kept k;show wpAny _ _ (keyLt' _ ((ps.map λq=>Value.ref q.1).getD i Value.none) ((ps.map λq=>Value.ref q.1).getD j Value.none)) C _ _;have ei:(ps.map λq=>Value.ref q.1).getD i Value.none=Value.ref ps[i].1:=by simp[hi]
  have ej:(ps.map λq=>Value.ref q.1).getD j Value.none=Value.ref ps[j].1:=by simp[hj]
  have fi:ps.getD i d0=ps[i]:=by simp[hi]
  have fj:ps.getD j d0=ps[j]:=by simp[hj]
  rw[ei,ej];unfold ltN at hC;rw[fi,fj] at hC;obtain⟨ui,ri,⟨oi,hoi,hci,ni,hdi⟩,zi⟩:=I'.tuple (hT ps[i] (List.getElem_mem hi));by_cases hij:i=j
  ·subst hij;refine kat_lt hoi hdi hoi hdi ?_;have:decide (ui.toArray.size<ui.toArray.size)=false:=by simp
   rw[this];refine lex_self ?_ _ 0;have z:ltK (.inr ps[i].2.1) (.inr ps[i].2.1)=false:=ltK_irr _;rw[z] at hC;exact hC
  ·obtain⟨uj,rj,⟨oj,hoj,hcj,nj,hdj⟩,zj⟩:=I'.tuple (hT ps[j] (List.getElem_mem hj));have ne:¬ps[i].2.1=ps[j].2.1:=λe=>(by
    have pw:=List.pairwise_iff_getElem.mp hn;rcases Nat.lt_or_gt_of_ne hij with q|q
    ·exact absurd (by rw[List.getElem_map,List.getElem_map];exact e) (pw i j (by simpa using hi) (by simpa using hj) q)
    ·exact absurd (by rw[List.getElem_map,List.getElem_map];exact e.symm) (pw j i (by simpa using hj) (by simpa using hi) q))
   refine kat_lt hoi hdi hoj hdj ?_;cases ri with
   | @cons _ u _ us ru rr=>
    cases rj with
    | @cons _ u' _ us' ru' rr'=>
     obtain⟨t1,rfl⟩:=(show ∃t,u=Value.str ps[i].2.1 t from ru)
     obtain⟨t2,rfl⟩:=(show ∃t,u'=Value.str ps[j].2.1 t from ru')
     refine kat_cons (wpAny_eqBool_str ?_);have:decide (ps[i].2.1=ps[j].2.1)=false:=decide_eq_false ne;rw[this];exact kat_no (oneLt_str hC)
 ·rintro vs p h1 h' t' l e rfl pm st k1 k zl hl;have I:Inv X pins σ H {s with heap:=h1,toks:=t'}:=I.kept k1;have pl:=pm.toList;rw[lz] at pl pm st;have hz:=pm.size;have mem:∀i∈p.toList,i<ps.length:=λi hi=>by simpa using pl.mem_iff.mp hi
  have e1:(p.toList.map λi=>(ps.map λq=>Value.ref q.1).getD i Value.none)=(p.toList.map λi=>ps.getD i d0).map λq=>Value.ref q.1:=by
   rw[List.map_map];refine List.map_congr_left λi hi=> ?_;have:=mem i hi;simp[this]
  rw[e1] at hl;have pp:(p.toList.map λi=>ps.getD i d0).Perm ps:=by
   have:=pl.map (λi=>ps.getD i d0)
   rwa [map_range_getD] at this
  have pw:(p.toList.map λi=>ps.getD i d0).Pairwise (λa b=>¬b.2.1.cps.toList<a.2.1.cps.toList):=by
   rw[List.pairwise_map];refine(st.pairwise hz).imp λ{a b} hab=> ?_;unfold ltN ltK at hab;exact of_decide_eq_false hab
  refine⟨.ref l,_,I.laid (t':=t') (o:= .lst ((p.toList.map λi=>ps.getD i d0).map nRef)) k zl ⟨?_,_,e,vals_map nRef (λq=>Value.ref q.1) (λ_=>rfl) _,hl⟩,rfl,h l _ (I.hok.fresh zl) pp pw⟩;rw[List.length_map,pp.length_eq,sizeLine_eq];omega
def rSortN(K:PySem.W.Frag):List V->Hp->VK->Prop:=λxs H Q=>∃(p:Addr) (ps:List Pn),xs=[.ref p]/\SqL K H p (ps.map nRef)/\(∀q∈ps,SqT K H q.1 (.str q.2.1::q.2.2))/\(ps.map (·.2.1)).Nodup/\ps.length<64/\∀(l:Addr) (ps':List Pn),H l=none->ps'.Perm ps->ps'.Pairwise (λa b=>¬b.2.1.cps.toList<a.2.1.cps.toList)->Q (.ref l) (upd H l (.lst (ps'.map nRef)))
theorem call_sortedN{X:Cx}:Dw X (.builtin "sorted") (rSortN X.K):=by
 intro pins s σ H xs us Q I r h;obtain⟨p,ps,rfl,hq,ok,nd,few,q⟩:=h;obtain⟨u,rfl,rx⟩:=Dz r;cases rx;obtain⟨its,rv,hp,hz⟩:=I.list hq;have e:its=ps.map λq=>Value.ref q.1:=by
  clear hq hp hz q r ok nd few
  induction ps generalizing its with
  |nil=>cases rv;rfl
  |cons a ps ih=>
   cases rv with
   |cons ru rr=>rw[List.map_cons,<-ih _ rr];cases ru;rfl
 subst e;refine sortN_core I ok nd few (λQ hq=>collect_list hp.isList (hq _ _ λb o ho=> ?_) (by rw[List.length_map,sizeLine_eq];omega)) q;have hlt:b<s.heap.objs.size:=Heap.lt_size ho;rw[Heap.get?_update_ne _ _ _ _ (Nat.ne_of_lt hlt)];exact Heap.get?_push_of_some _ ho
end Srt
namespace Srt
open PySem PySem.W PyProof.Rows L2
end Srt
namespace PySem
open Builtin
abbrev zL1(h:Heap)(a:Addr):Heap:=h.push {cls:= .type "list_iterator",data:= .fields #[.ref a,.int 0 0]}
abbrev zL2(h:Heap)(a b:Addr):Heap:=(zL1 h a).push {cls:= .type "list_iterator",data:= .fields #[.ref b,.int 0 0]}
abbrev zL3(h:Heap)(a b:Addr):Heap:=(zL2 h a b).push {cls:= .type "tuple",data:= .seq #[.ref h.objs.size,.ref (zL1 h a).objs.size]}
abbrev zL4(h:Heap)(a b:Addr):Heap:=(zL3 h a b).push {cls:= .type "tuple",data:= .seq #[.none,.none]}
abbrev zL5(h:Heap)(a b:Addr):Heap:=(zL4 h a b).push {cls:= .type "zip",data:= .fields #[.none,.bool false,.bool false,.ref (zL2 h a b).objs.size,.ref (zL3 h a b).objs.size]}
theorem meets_zip_ll(a b:Addr)(xs ys:Array Value):
  Meets (Builtin.«zip.__new__» ⟨[.type "zip",.ref a,.ref b],[]⟩) (λ_ R s=>s.heap.IsList a xs/\s.heap.IsList b ys/\R (.ok (.ret (.ref (zL4 s.heap a b).objs.size))) {s with heap:=zL5 s.heap a b}):=
 .of_wp λprog w A R s h=>by
  obtain⟨hp,g,d,tk,os⟩:=s;obtain⟨ta,tb,h⟩:=h;have hsub:=sub_zip;have q1:Heap.IsList (Shared.heap ⟨hp,g,d,tk,os⟩) a xs:=ta;have q2:Heap.IsList (Shared.heap ⟨hp.push {cls:= .type "list_iterator",data:= .fields #[.ref a,.int 0 0]},g,d,tk,os⟩) b ys:=let ⟨o,ho,r⟩:=tb;⟨o,Heap.get?_push_of_some _ ho,r⟩
  wp_walk using wpAny_pyIter_list q1,wpAny_pyIter_list q2
  exact⟨_,rfl,h⟩
section
variable{prog:Program}{w:World}{A:Around}{E:Value->Shared->Prop}{s:Shared}
theorem call_zip_ll{a b:Addr}{xs ys:Array Value}{Q:Value->Shared->Prop}(ta:s.heap.IsList a xs)(tb:s.heap.IsList b ys)(h:∀h',IsZip h' (s.heap.objs.size+4) (s.heap.objs.size+2) (s.heap.objs.size+3) .none->IsPair h' (s.heap.objs.size+2) (.ref s.heap.objs.size) (.ref (s.heap.objs.size+1))->IsPair h' (s.heap.objs.size+3) .none .none->
   h'.IsListIter s.heap.objs.size a 0->h'.IsListIter (s.heap.objs.size+1) b 0->(∀c o,s.heap.get? c=some o->h'.get? c=some o)->Q (.ref (s.heap.objs.size+4)) {s with heap:=h'}):
  wpAny (model prog w) A (call (.type "zip") [.ref a,.ref b]) Q E s:=by
 refine callType_new F.called_zip (by decide) (F.typeCall_zip_2 _ _) (F.newCall_zip_2 _ _) (λobj=>F.args_object_init_3 obj _ _) F.entry_zip_new (meets_zip_ll a b xs ys) ⟨ta,tb,?_⟩;have y1:(zL1 s.heap a).objs.size=s.heap.objs.size+1:=Heap.size_push ..;have y2:(zL2 s.heap a b).objs.size=s.heap.objs.size+2:=by rw[Heap.size_push,y1]
 have y3:(zL3 s.heap a b).objs.size=s.heap.objs.size+3:=by rw[Heap.size_push,y2]
 have y4:(zL4 s.heap a b).objs.size=s.heap.objs.size+4:=by rw[Heap.size_push,y3]
 have e5:(zL5 s.heap a b).get? (zL4 s.heap a b).objs.size=some _:=Heap.get?_push_size _ rfl;have e4:(zL5 s.heap a b).get? (zL3 s.heap a b).objs.size=some _:=Heap.get?_push_of_some _ (Heap.get?_push_size _ rfl);have e3:(zL5 s.heap a b).get? (zL2 s.heap a b).objs.size=some _:=Heap.get?_push_of_some _ (Heap.get?_push_of_some _ (Heap.get?_push_size _ rfl));have e2:(zL5 s.heap a b).get? (zL1 s.heap a).objs.size=some _:=Heap.get?_push_of_some _ (Heap.get?_push_of_some _ (Heap.get?_push_of_some _ (Heap.get?_push_size _ rfl)));have e1:(zL5 s.heap a b).get? s.heap.objs.size=some _:=Heap.get?_push_of_some _ (Heap.get?_push_of_some _ (Heap.get?_push_of_some _ (Heap.get?_push_of_some _ (Heap.get?_push_size _ rfl))));show _/\_;rw[y2,y3,y4] at e5;rw[y1,y2] at e3;rw[y3] at e4;rw[y1] at e2;rw[y4];refine⟨⟨_,e5,rfl⟩,h _ e5 e3 e4 ⟨_,e1,rfl,rfl⟩ ⟨_,e2,rfl,rfl⟩ λc o e=> ?_⟩;exact Heap.get?_push_of_some _ (Heap.get?_push_of_some _ (Heap.get?_push_of_some _ (Heap.get?_push_of_some _ (Heap.get?_push_of_some _ e))))
end
end PySem
namespace L2
open PySem PySem.Spec PyProof.Rows
def ItzL(K:PySem.W.Frag)(a b:Addr):It:=
 ⟨λi H=>∃xs ys x y,SqL K H a xs/\SqL K H b ys/\xs[i]? =some x/\ys[i]? =some y,λi H v H'=>∃T x y,H T=none/\v= .ref T/\H'=upd H T (.tup [x,y])/\(∀xs,SqL K H a xs->xs[i]? =some x)/\∀ys,SqL K H b ys->ys[i]? =some y,
  λi H=>∃xs ys,SqL K H a xs/\SqL K H b ys/\(i=xs.length\/(i<xs.length/\i=ys.length))⟩
theorem turn_zipL{P:Program}{w:World}{K:PySem.W.Frag}{elts:List Expr}{x1}{pos:Pos}(a b z TI TO i1 i2:Addr)(nd:[z,TI,TO,i1,i2].Nodup)(na:a ∉ [z,TI,TO,i1,i2])(nb:b ∉ [z,TI,TO,i1,i2]):Turn P w K (.Tuple elts x1 pos) (ItzL K a b) [z,TI,TO,i1,i2] z
  (λi h=>IsZip h z TI TO .none/\IsPair h TI (.ref i1) (.ref i2)/\(∃u v,IsPair h TO u v)/\h.IsListIter i1 a i/\h.IsListIter i2 b i) where
 mem:=by simp
 obj:=λi h st c hc=>by
  obtain⟨h1,h2,⟨u,v,h3⟩,⟨o4,g4,_,d4⟩,⟨o5,g5,_,d5⟩⟩:=st;simp only[List.mem_cons,List.mem_nil_iff,or_false] at hc;rcases hc with rfl|rfl|rfl|rfl|rfl
  ·exact⟨_,h1,λv q=>by cases q⟩
  ·exact⟨_,h2,λv q=>by cases q⟩
  ·exact⟨_,h3,λv q=>by cases q⟩
  ·exact⟨_,g4,λv q=>by rw[d4] at q;cases q⟩
  ·exact⟨_,g5,λv q=>by rw[d5] at q;cases q⟩
 keep:=λi h h' st k=>by
  obtain⟨h1,h2,⟨u,v,h3⟩,h4,h5⟩:=st;exact⟨k z (by simp) _ h1,k TI (by simp) _ h2,⟨u,v,k TO (by simp) _ h3⟩,h4.at λo q=>k i1 (by simp) o q,h5.at λo q=>k i2 (by simp) o q⟩
 item:=by
  intro X hP hw hK hc i pins s σ H E I hf st hg;subst hP hw hK;obtain⟨hZ,pI,⟨u,v,pO⟩,t1,t2⟩:=st;obtain⟨xs,ys,x,y,ha,hb,hx,hy⟩:=hg;obtain⟨its,rv,p1,_⟩:=I.list ha;obtain⟨jts,rw',p2,_⟩:=I.list hb;obtain⟨ux,hux,rx⟩:=rv.get hx;obtain⟨uy,huy,ry⟩:=rw'.get hy;have AP:=zap_of nd na nb;have fresh:H s.heap.objs.size=none:=I.hok.fresh (Nat.le_refl _);have ltz:∀c∈[z,TI,TO,i1,i2],c≠s.heap.objs.size:=by
   intro c hc;obtain⟨o4,g4,_⟩:=id t1;obtain⟨o5,g5,_⟩:=id t2;simp only[List.mem_cons,List.mem_nil_iff,or_false] at hc;rcases hc with rfl|rfl|rfl|rfl|rfl
   ·exact Nat.ne_of_lt (Heap.lt_size hZ)
   ·exact Nat.ne_of_lt (Heap.lt_size pI)
   ·exact Nat.ne_of_lt (Heap.lt_size pO)
   ·exact Nat.ne_of_lt (Heap.lt_size g4)
   ·exact Nat.ne_of_lt (Heap.lt_size g5)
  refine pyNext_zip_itemD AP (Draws.list (A:=X.A.in1) (I.ok.hd hc) i1 a (λq=>na (by simp[q])) its.toArray) (Draws.list (A:=X.A.in1) (I.ok.hd hc) i2 b (λq=>nb (by simp[q])) jts.toArray) hZ pI pO ⟨t1,p1.isList⟩ ⟨t2,p2.isList⟩
   (by have:=(List.getElem?_eq_some_iff.mp hux).1;simpa using this) (by have:=(List.getElem?_eq_some_iff.mp huy).1;simpa using this) λh' tk xv yv px py z' pO' s1' s2' pT kk=>⟨_,rfl,?_⟩
  have ex:ux=xv:=Option.some.inj (hux.symm.trans (by simpa using px));have ey:uy=yv:=Option.some.inj (huy.symm.trans (by simpa using py));subst ex ey;refine wpAny_letOwnedTupleGo_zip (s:={s with heap:=h',toks:=tk}) z' λh2 z2 sb=> ?_;have I1:Inv X pins σ (upd H s.heap.objs.size (.tup [x,y])) {s with heap:=s.heap.push {cls:= .type "tuple",data:= .seq #[ux,uy]},toks:=s.toks}:=
   I.laid (o:= .tup [x,y]) (λb ob q=>Heap.get?_push_of_some _ q) (Nat.le_refl _) ⟨by rw[sizeLine_eq];simp,[ux,uy],.cons rx (.cons ry .nil),IsTupN.new _ _⟩
  have I2:=I1.turnedL (h':=h2) (t':=tk) [z,TI,TO,i1,i2] (λc o hc' q=> ?_) (λc hc'=>(hf c hc').up (ltz c hc'))
  ·refine⟨.ref s.heap.objs.size,_,I2,rfl,⟨_,x,y,fresh,rfl,rfl,λys' hy'=>by rw[I.list_inj hy' ha];exact hx,λys' hy'=>by rw[I.list_inj hy' hb];exact hy⟩,
    ⟨z2,(sb.2 TI AP.a1).trans (kk _ _ AP.a1 AP.a5 AP.a6 AP.a7 pI),⟨_,_,(sb.2 TO AP.a2).trans pO'⟩,s1'.1.at λo q=>(sb.2 i1 AP.a3).trans q,s2'.1.at λo q=>(sb.2 i2 AP.a4).trans q⟩,λc hc'=> ?_⟩
   rw[Aj (ltz c hc')];exact(hf c hc').1
  ·have c1:c≠z:=λq=>hc' (by simp[q]);have c2:c≠TO:=λq=>hc' (by simp[q]);have c3:c≠i1:=λq=>hc' (by simp[q]);have c4:c≠i2:=λq=>hc' (by simp[q]);refine(sb.2 c c1).trans ?_;by_cases hcs:c=s.heap.objs.size
   ·subst hcs;rw[Heap.get?_push_size _ rfl] at q;cases q;exact pT
   ·rw[Heap.get?_push_ne _ _ _ hcs] at q;exact kk c o c1 c2 c3 c4 q
 done:=by
  intro X hP hw hK hc i pins s σ H E I hf st hg;subst hP hw hK;obtain⟨hZ,pI,⟨u,v,pO⟩,t1,t2⟩:=st;obtain⟨xs,ys,ha,hb,hend⟩:=hg;obtain⟨its,rv,p1,_⟩:=I.list ha;obtain⟨jts,rw',p2,_⟩:=I.list hb;have AP:=zap_of nd na nb;have l1:=rv.length;have l2:=rw'.length;refine pyNext_zip_endD AP (Draws.list (A:=X.A.in1) (I.ok.hd hc) i1 a (λq=>na (by simp[q])) its.toArray) (Draws.list (A:=X.A.in1) (I.ok.hd hc) i2 b (λq=>nb (by simp[q])) jts.toArray) hZ pI pO ⟨t1,p1.isList⟩ ⟨t2,p2.isList⟩
   (by simp only[List.size_toArray];omega) λh' tk kk=>⟨rfl,I.turnedL (t':=tk) [z,TI,TO,i1,i2] (λc o hc' q=> ?_) hf⟩
  exact kk c o (λq=>hc' (by simp[q])) (λq=>hc' (by simp[q])) (λq=>hc' (by simp[q])) (λq=>hc' (by simp[q])) q
 self:=λA i s Q E st h=>wpAny_pyIter_zip st.1 h
def iZipL(K:PySem.W.Frag)(ta:TA):TI:=λσ H R=>ta σ H λvs H1=>∃a b xs ys,vs=[.ref a,.ref b]/\SqL K H1 a xs/\SqL K H1 b ys/\R (ItzL K a b) H1
theorem pi_zipL{X:Cx}{elts:List Expr}{x1}{tpos:Pos}{e1 e2:Expr}{ta:TA}{p pos:Pos}(hg:Gl X "zip")(hm:X.mg "zip"=none)(ha:PA X [e1,e2] ta)(hs:starEach [e1,e2] X.env=[(false,eval e1 X.env),(false,eval e2 X.env)]:=by rfl)(hs2:starEach [e2] X.env=[(false,eval e2 X.env)]:=by rfl):
  PI X (.Tuple elts x1 tpos) (.Call (.Name "zip" p) [e1,e2] [] pos) (iZipL X.K ta):=by
 intro pins s σ H R I h;refine Call_ (ld_blt I hg hm (show bootBuiltins "zip"=some (.type "zip") by decide+kernel) (PyProof.Rows.callWith_type1 (thn (ha pos pins s σ H _ I h) λus s1 ⟨vs,H1,I1,r1,q1⟩=> ?_) (by rw[hs,hs2]) (by rw[hs2];rfl)));obtain⟨a,b,xs,ys,e,hqa,hqb,q⟩:=q1;subst e;cases r1 with
 |cons r rr=>
  cases rr with
  |cons r' rr=>
   cases rr;cases r;cases r';obtain⟨its,rv,p1,_⟩:=I1.list hqa;obtain⟨jts,rw',p2,_⟩:=I1.list hqb;refine call_zip_ll p1.isList p2.isList λh' hZ pI pO t1 t2 kk=>wpAny_pyIter_zip hZ ?_;obtain⟨oa,ga,_⟩:=id p1.isList;obtain⟨ob,gb,_⟩:=id p2.isList;have la:=Heap.lt_size ga;have lb:=Heap.lt_size gb;have big:∀c∈[s1.heap.objs.size+4,s1.heap.objs.size+2,s1.heap.objs.size+3,s1.heap.objs.size,s1.heap.objs.size+1],s1.heap.objs.size<=c:=by
    intro c hc;simp only[List.mem_cons,List.mem_nil_iff,or_false] at hc;rcases hc with rfl|rfl|rfl|rfl|rfl<;> first|exact Nat.le_add_right _ _|exact Nat.le_refl _
   refine⟨s1.heap.objs.size+4,[s1.heap.objs.size+4,s1.heap.objs.size+2,s1.heap.objs.size+3,s1.heap.objs.size,s1.heap.objs.size+1],_,_,H1,rfl,I1.kept (t':=s1.toks) kk,
    turn_zipL a b _ _ _ _ _ ?_ (λq=>Nat.lt_irrefl _ (Nat.lt_of_lt_of_le la (big _ q))) (λq=>Nat.lt_irrefl _ (Nat.lt_of_lt_of_le lb (big _ q))),⟨hZ,pI,⟨_,_,pO⟩,t1,t2⟩,λc hc=>I1.fpOk (big c hc) (I1.hok.fresh (big c hc)),q⟩
   generalize s1.heap.objs.size=n;show List.Nodup ([n+4,n+2,n+3,n,n+1]:List Nat);simp
end L2
namespace K39
open PySem L2 Wk
def top(i:Nat):Stmt:=PySem.Challenge.pw_joinedever_k39_papers_of_any_hand.main.body.getD i (.Pass ⟨0,0,0,0⟩)
abbrev sWhole:Stmt:=top 1
abbrev sWithin:Stmt:=top 2
abbrev sName:Stmt:=top 7
abbrev sAmount:Stmt:=top 8
abbrev sPlace:Stmt:=top 9
abbrev sPlaces:Stmt:=top 10
abbrev sTie:Stmt:=top 11
abbrev sShape:Stmt:=top 12
abbrev sBeside:Stmt:=top 14
abbrev sWays:Stmt:=top 15
abbrev sPart:Stmt:=top 16
abbrev sParts:Stmt:=top 17
abbrev sHasR:Stmt:=top 18
abbrev sRoom:Stmt:=top 21
abbrev sMost:Stmt:=top 22
abbrev sTies:Stmt:=top 23
abbrev sKept:Stmt:=top 24
abbrev sRow:Stmt:=top 25
abbrev sForm:Stmt:=top 26
abbrev sHolds:Stmt:=top 27
abbrev sHold:Stmt:=top 28
abbrev sRowOf:Stmt:=top 30
abbrev sWithout:Stmt:=top 31
abbrev sLesser:Stmt:=top 32
abbrev sLoose:Stmt:=top 33
abbrev sBehind:Stmt:=top 34
abbrev sBehinds:Stmt:=top 35
abbrev sLooked:Stmt:=top 37
abbrev sRound:Stmt:=top 38
abbrev sRowsBy:Stmt:=top 39
abbrev sGoing:Stmt:=top 40
abbrev sMixed:Stmt:=top 42
abbrev sDeck:Stmt:=top 43
abbrev sTake:Stmt:=top 44
abbrev sNames:Stmt:=top 45
abbrev sMany:Stmt:=top 46
abbrev sWeight:Stmt:=top 47
abbrev sMerged:Stmt:=top 48
abbrev sLayered:Stmt:=top 49
abbrev sStand:Stmt:=top 50
abbrev sGroups:Stmt:=top 51
abbrev sKnown:Stmt:=top 52
abbrev sRows:Stmt:=top 53
abbrev sPartsL:Stmt:=top 54
abbrev sOfLayer:Stmt:=top 55
abbrev sRise:Stmt:=top 56
abbrev sTurned:Stmt:=top 57
abbrev sPaper:Stmt:=top 58
abbrev sSome:Stmt:=top 59
abbrev sLaw:Stmt:=top 60
structure Txt(mg:Str->Option Value):Prop where
 isinstance:mg "isinstance"=none
 int:mg "int"=none
 bool:mg "bool"=none
 tuple:mg "tuple"=none
 len:mg "len"=none
 range:mg "range"=none
 sum:mg "sum"=none
 str:mg "str"=none
 max:mg "max"=none
 min:mg "min"=none
 all:mg "all"=none
 zip:mg "zip"=none
 sorted:mg "sorted"=none
 list:mg "list"=none
 enumerate:mg "enumerate"=none
 dict:mg "dict"=none
 places:∃t,mg "MOST_PLACES"=some (.int 24 t)
 tiesM:∃t,mg "MOST_TIES"=some (.int 60 t)
 letters:∃t,mg "MOST_LETTERS"=some (.int 8 t)
 amount:∃t,mg "MOST_AMOUNT"=some (.int 1000000000 t)
def StandAt(H:Hp)(st:Addr)(S:List T4):Prop:=∃rs:List Addr,H st=some (.lst (rs.map V.ref))/\TiesAt H rs S
theorem StandAt.same{H H':Hp}{st:Addr}{S:List T4}(h:StandAt H st S)(s:Same H H'):StandAt H' st S:=let ⟨rs,a,b⟩:=h;⟨rs,s _ _ a,b.same s⟩
def StandT(H:Hp)(st:Addr)(S:List T4):Prop:=∃rs:List Addr,H st=some (.tup (rs.map V.ref))/\TiesAt H rs S
theorem StandT.mono{H H':Hp}{st:Addr}{S:List T4}(h:StandT H st S)(f:∀r zs,H r=some (.tup zs)->H' r=some (.tup zs)):StandT H' st S:=let ⟨rs,a,b⟩:=h;⟨rs,f _ _ a,b.1,λi r t e g=>f _ _ (b.2 i r t e g)⟩
theorem StandT.same{H H':Hp}{st:Addr}{S:List T4}(h:StandT H st S)(s:Same H H'):StandT H' st S:=h.mono λr zs e=>s _ _ e
def StandX(H:Hp)(st:Addr)(S:List T4):Prop:=StandAt H st S\/StandT H st S
theorem StandX.same{H H':Hp}{st:Addr}{S:List T4}(h:StandX H st S)(s:Same H H'):StandX H' st S:=h.elim (λh=> .inl (h.same s)) λh=> .inr (h.same s)
def spBesideL:Sp:=λvs H Q _=>∃(N:Nat) (st:Addr) (S:List T4),vs=[.int (N:Int),.ref st]/\StandAt H st S/\InN N S/\N<=60/\S.length<=100/\∀b H',Same H H'->BesAt H' b N (Bj S)->Q (.ref b) H'
def spBesideT:Sp:=λvs H Q _=>∃(N:Nat) (st:Addr) (S:List T4),vs=[.int (N:Int),.ref st]/\StandT H st S/\InN N S/\N<=60/\S.length<=100/\∀b H',Same H H'->BesAt H' b N (Bj S)->Q (.ref b) H'
def spBeside:Sp:=λvs H Q _=>∃(N:Nat) (st:Addr) (S:List T4),vs=[.int (N:Int),.ref st]/\StandX H st S/\InN N S/\N<=60/\S.length<=100/\∀b H',Same H H'->BesAt H' b N (Bj S)->Q (.ref b) H'
def spWays:Sp:=λvs H Q _=>∃(N:Nat) (st:Addr) (S:List T4) (p:Nat),vs=[.int (N:Int),.ref st,.int (p:Int)]/\StandX H st S/\InN N S/\N<=60/\S.length<=100/\p<N/\∀a H',Same H H'->WaysAt H' a (waysF N S p)->Q (.ref a) H'
def spPart:Sp:=λvs H Q _=>∃(N:Nat) (st:Addr) (S:List T4) (p:Nat),vs=[.int (N:Int),.ref st,.int (p:Int)]/\StandX H st S/\InN N S/\N<=60/\S.length<=100/\p<N/\∀a H',Same H H'->H' a=some (.tup (((Ar N S p).map Int.ofNat).map V.int))->Q (.ref a) H'
section
variable{P:Program}{w:World}{K:PySem.W.Frag}{mg:Str->Option Value}{base:Heap}
theorem scBeside:Av ["many","stand","beside","name","one","other","weight"] ["many","stand"] (Ag sBeside):=⟨rfl,rfl,rfl,by decide+kernel,rfl,by decide+kernel,by decide+kernel⟩
theorem ok_BesideL{f:Addr}{fd:FuncData}(F:Fun K "beside_of" "beside_of" sBeside f fd)(T:Txt mg):
  FnOk P w K mg base CX0 1 f fd ["many","stand"] spBesideL:=by
 refine F.ok scBeside (λvs H Q E h=> ?_) (λcdv A outer s H vs Q E hr h=> ?_)
 ·obtain⟨_,_,_,rfl,_⟩:=h;rfl
 ·obtain⟨N,st,S,rfl,⟨rs,hst,hrs⟩,hN,N60,S100,k⟩:=h;refine⟨_,Ae (Dr (i:=2) (T:=["place"]) (F:=[]) (js:=[]) scBeside.nd rfl (Or.inl rfl) (cs (osc:=Ag sBeside)) rfl (Bt rfl T.range (Aa (pv 0) Ac)) (λ_ _ _ _ _=>Ah (i:=0) (show (["place"]:List Str).Nodup by decide+kernel) rfl (Or.inl rfl)) (λ_ _ _ _ _=>A8) (λ_ _ _ _ _=>Cm Ac))
   (Ae (Dx PassesOwn.never rfl (Ce (pv 1)) (Co rfl (Al (Ah (i:=3) scBeside.nd rfl (Or.inl rfl)) (Al (Ah (i:=4) scBeside.nd rfl (Or.inl rfl)) (Al (Ah (i:=5) scBeside.nd rfl (Or.inl rfl)) (Al (Ah (i:=6) scBeside.nd rfl (Or.inl rfl)) Bf))))) (Ae (Cw (pe_bm PySem.F.plainAttrs_list PySem.F.slot_list_append PySem.F.type_list_append Cb (A1 A0 (pv 2) (pv 4) (λ_ _=>rfl)) (Aa (Bk (Aa (pv 3) (Aa (pv 5) Ac))) Ac)))
   (Ai (Cw (pe_bm PySem.F.plainAttrs_list PySem.F.slot_list_append PySem.F.type_list_append Cb (A1 A0 (pv 2) (pv 5) (λ_ _=>rfl)) (Aa (Bk (Aa (pv 3) (Aa (pv 4) Ac))) Ac))))))
   (Ai (Ao (pv 2)))),?_⟩
  refine⟨_,rfl,(N:Int),rfl,by omega,by omega,λD hD=>Bn (lo:=0) (n:=(N:Int).toNat) (λj σ ys H2=>∃(u:Option V) (ls:List Addr),σ=[u]/\ys=ls.map V.ref/\Same H H2/\H2 D=some (.lst ys)/\ls.length=j/\ls.Nodup/\∀l∈ls,H l=none/\l≠D/\H2 l=some (.lst [])) ⟨none,[],rfl,rfl,Ad hD,Ab,rfl,List.nodup_nil,by simp⟩ (λj σ ys H2 _ ⟨_,_,_,_,_,e,_⟩=>e) ?_ ?_⟩
  ·rintro j σ ys H2 hj ⟨u,ls,rfl,rfl,s2,d2,ll,nd,hl⟩;have hj:j<N:=by simpa using hj
   refine⟨small (by simp),λp hp=> ?_⟩;have pD:p≠D:=(An d2 hp).symm;refine⟨by rw[Aj pD.symm];exact d2,Ak (by simp;omega),_,ls++[p],rfl,by rw[List.map_append];rfl,Aq (s2.trans (Ad hp)) hD,Ab,by simp[ll],?_,λl hl'=> ?_⟩
   ·refine List.nodup_append.mpr ⟨nd,List.nodup_cons.mpr ⟨by simp,List.nodup_nil⟩,λx hx y hy=> ?_⟩;rw[List.mem_singleton.mp hy];exact An (hl x hx).2.2 hp
   ·rcases List.mem_append.mp hl' with q|q
    ·obtain⟨h1,h2,h3⟩:=hl l q;exact⟨h1,h2,by rw[Aj h2,Aj (An h3 hp)];exact h3⟩
    ·rw[List.mem_singleton.mp q];exact⟨none_of s2 hp,pD,by rw[Aj pD];exact Ab⟩
  rintro σ ys H2 ⟨u,ls,rfl,rfl,s2,d2,ll,nd,hl⟩;have ll:ls.length=N:=by simpa using ll
  have B0:Bes H H2 D ls N (Bj []):=⟨s2,d2,ll,nd,λl h=>⟨(hl l h).1,(hl l h).2.1⟩,λv l h=>⟨[],(hl l (List.mem_of_getElem? h)).2.2,rfl,λi r q e=>(by simp at e)⟩⟩
  refine⟨_,rfl,st,rfl,⟨_,SqL.of (s2 _ _ hst)⟩,for_list (K:=K) (a:=st) (xs:=rs.map V.ref) (λi σ H3=>∃(u3 u4 u5 u6:Option V),σ=[some (.int (N:Int)),some (.ref st),some (.ref D),u3,u4,u5,u6]/\Bes H H3 D ls N (Bj (S.take i))) ⟨_,_,_,_,rfl,B0⟩ (λi σ H3 _ ⟨_,_,_,_,_,B⟩=>SqL.of (B.same _ _ hst)) ?_ ?_⟩
  ·rintro i x σ H3 hx ⟨u3,u4,u5,u6,rfl,B⟩;obtain⟨r,hr',rfl⟩:=Ax hx;obtain⟨t,ht,er⟩:=hrs.get hr';have er3:=B.same _ _ er;have tN:=hN t (List.mem_of_getElem? ht);have h1:t.2.1<ls.length:=by omega
   have h2:t.2.2.1<ls.length:=by omega
   have tk:S.take (i+1)=S.take i++[t]:=by rw[List.take_add_one,ht];rfl
   have nl:∀v,(Bj (S.take i) v).length<=200:=λv=>Nat.le_trans (nbrs_len _ _) (by rw[List.length_take];omega);have l1:=Ck h1;have l2:=Ck h2;obtain⟨rs1,e1,n1,_⟩:=B.prs _ _ l1;refine⟨r,_,rfl,SqT.of er3,rfl,_,_,rfl,_,_,rfl,_,_,rfl,_,_,rfl,rfl,?_⟩;refine⟨_,rfl,_,rfl,D,_,_,.ref ls[t.2.1],rfl,rfl,SqL.of B.hb,Ap (by rw[List.getElem?_map,l1];rfl),.inl ⟨rfl,_,SqL.of e1⟩,_,rfl,_,rfl,small (by simp),λp hp=> ?_⟩;refine⟨_,_,_,rfl,rfl,Ad hp _ _ e1,Ak (by rw[List.length_map];have:=nl t.2.1;omega),?_⟩;have B1:=B.app (n:=t.1) (u:=t.2.2.1) l1 hp e1;generalize upd (upd H3 p _) _ _=H4 at B1;obtain⟨rs2,e2,n2,_⟩:=B1.prs _ _ l2;refine⟨_,rfl,_,rfl,D,_,_,.ref ls[t.2.2.1],rfl,rfl,SqL.of B1.hb,Ap (by rw[List.getElem?_map,l2];rfl),.inl ⟨rfl,_,SqL.of e2⟩,_,rfl,_,rfl,small (by simp),λp' hp'=> ?_⟩;have n3:rs2.length<=201:=by
    rw[n2];split
    ·rw[List.length_append];have:=nl t.2.1;simp only[List.length_cons,List.length_nil];omega
    ·have:=nl t.2.2.1;omega
   refine⟨_,_,_,rfl,rfl,Ad hp' _ _ e2,Ak (by rw[List.length_map];omega),_,_,_,_,rfl,?_⟩;have B2:=B1.app (n:=t.1) (u:=t.2.1) l2 hp' e2;rw[nb_two,<-tk] at B2;exact B2
  ·rintro σ H3 ⟨u3,u4,u5,u6,rfl,B⟩;rw[List.length_map,hrs.1,List.take_length] at B;exact⟨_,rfl,k D H3 B.same ⟨ls,B.hb,B.len,B.prs⟩⟩
theorem ok_BesideT{f:Addr}{fd:FuncData}(F:Fun K "beside_of" "beside_of" sBeside f fd)(T:Txt mg):
  FnOk P w K mg base CX0 1 f fd ["many","stand"] spBesideT:=by
 refine F.ok scBeside (λvs H Q E h=> ?_) (λcdv A outer s H vs Q E hr h=> ?_)
 ·obtain⟨_,_,_,rfl,_⟩:=h;rfl
 ·obtain⟨N,st,S,rfl,⟨rs,hst,hrs⟩,hN,N60,S100,k⟩:=h;refine⟨_,Ae (Dr (i:=2) (T:=["place"]) (F:=[]) (js:=[]) scBeside.nd rfl (Or.inl rfl) (cs (osc:=Ag sBeside)) rfl (Bt rfl T.range (Aa (pv 0) Ac)) (λ_ _ _ _ _=>Ah (i:=0) (show (["place"]:List Str).Nodup by decide+kernel) rfl (Or.inl rfl)) (λ_ _ _ _ _=>A8) (λ_ _ _ _ _=>Cm Ac))
   (Ae (Dx PassesOwn.never rfl (Dm (pv 1)) (Co rfl (Al (Ah (i:=3) scBeside.nd rfl (Or.inl rfl)) (Al (Ah (i:=4) scBeside.nd rfl (Or.inl rfl)) (Al (Ah (i:=5) scBeside.nd rfl (Or.inl rfl)) (Al (Ah (i:=6) scBeside.nd rfl (Or.inl rfl)) Bf))))) (Ae (Cw (pe_bm PySem.F.plainAttrs_list PySem.F.slot_list_append PySem.F.type_list_append Cb (A1 A0 (pv 2) (pv 4) (λ_ _=>rfl)) (Aa (Bk (Aa (pv 3) (Aa (pv 5) Ac))) Ac)))
   (Ai (Cw (pe_bm PySem.F.plainAttrs_list PySem.F.slot_list_append PySem.F.type_list_append Cb (A1 A0 (pv 2) (pv 5) (λ_ _=>rfl)) (Aa (Bk (Aa (pv 3) (Aa (pv 4) Ac))) Ac))))))
   (Ai (Ao (pv 2)))),?_⟩
  refine⟨_,rfl,(N:Int),rfl,by omega,by omega,λD hD=>Bn (lo:=0) (n:=(N:Int).toNat) (λj σ ys H2=>∃(u:Option V) (ls:List Addr),σ=[u]/\ys=ls.map V.ref/\Same H H2/\H2 D=some (.lst ys)/\ls.length=j/\ls.Nodup/\∀l∈ls,H l=none/\l≠D/\H2 l=some (.lst [])) ⟨none,[],rfl,rfl,Ad hD,Ab,rfl,List.nodup_nil,by simp⟩ (λj σ ys H2 _ ⟨_,_,_,_,_,e,_⟩=>e) ?_ ?_⟩
  ·rintro j σ ys H2 hj ⟨u,ls,rfl,rfl,s2,d2,ll,nd,hl⟩;have hj:j<N:=by simpa using hj
   refine⟨small (by simp),λp hp=> ?_⟩;have pD:p≠D:=(An d2 hp).symm;refine⟨by rw[Aj pD.symm];exact d2,Ak (by simp;omega),_,ls++[p],rfl,by rw[List.map_append];rfl,Aq (s2.trans (Ad hp)) hD,Ab,by simp[ll],?_,λl hl'=> ?_⟩
   ·refine List.nodup_append.mpr ⟨nd,List.nodup_cons.mpr ⟨by simp,List.nodup_nil⟩,λx hx y hy=> ?_⟩;rw[List.mem_singleton.mp hy];exact An (hl x hx).2.2 hp
   ·rcases List.mem_append.mp hl' with q|q
    ·obtain⟨h1,h2,h3⟩:=hl l q;exact⟨h1,h2,by rw[Aj h2,Aj (An h3 hp)];exact h3⟩
    ·rw[List.mem_singleton.mp q];exact⟨none_of s2 hp,pD,by rw[Aj pD];exact Ab⟩
  rintro σ ys H2 ⟨u,ls,rfl,rfl,s2,d2,ll,nd,hl⟩;have ll:ls.length=N:=by simpa using ll
  have B0:Bes H H2 D ls N (Bj []):=⟨s2,d2,ll,nd,λl h=>⟨(hl l h).1,(hl l h).2.1⟩,λv l h=>⟨[],(hl l (List.mem_of_getElem? h)).2.2,rfl,λi r q e=>(by simp at e)⟩⟩
  refine⟨_,rfl,st,rfl,⟨_,SqT.of (s2 _ _ hst)⟩,for_tup (K:=K) (a:=st) (xs:=rs.map V.ref) (λi σ H3=>∃(u3 u4 u5 u6:Option V),σ=[some (.int (N:Int)),some (.ref st),some (.ref D),u3,u4,u5,u6]/\Bes H H3 D ls N (Bj (S.take i))) ⟨_,_,_,_,rfl,B0⟩ (λi σ H3 _ ⟨_,_,_,_,_,B⟩=>SqT.of (B.same _ _ hst)) ?_ ?_⟩
  ·rintro i x σ H3 hx ⟨u3,u4,u5,u6,rfl,B⟩;obtain⟨r,hr',rfl⟩:=Ax hx;obtain⟨t,ht,er⟩:=hrs.get hr';have er3:=B.same _ _ er;have tN:=hN t (List.mem_of_getElem? ht);have h1:t.2.1<ls.length:=by omega
   have h2:t.2.2.1<ls.length:=by omega
   have tk:S.take (i+1)=S.take i++[t]:=by rw[List.take_add_one,ht];rfl
   have nl:∀v,(Bj (S.take i) v).length<=200:=λv=>Nat.le_trans (nbrs_len _ _) (by rw[List.length_take];omega);have l1:=Ck h1;have l2:=Ck h2;obtain⟨rs1,e1,n1,_⟩:=B.prs _ _ l1;refine⟨r,_,rfl,SqT.of er3,rfl,_,_,rfl,_,_,rfl,_,_,rfl,_,_,rfl,rfl,?_⟩;refine⟨_,rfl,_,rfl,D,_,_,.ref ls[t.2.1],rfl,rfl,SqL.of B.hb,Ap (by rw[List.getElem?_map,l1];rfl),.inl ⟨rfl,_,SqL.of e1⟩,_,rfl,_,rfl,small (by simp),λp hp=> ?_⟩;refine⟨_,_,_,rfl,rfl,Ad hp _ _ e1,Ak (by rw[List.length_map];have:=nl t.2.1;omega),?_⟩;have B1:=B.app (n:=t.1) (u:=t.2.2.1) l1 hp e1;generalize upd (upd H3 p _) _ _=H4 at B1;obtain⟨rs2,e2,n2,_⟩:=B1.prs _ _ l2;refine⟨_,rfl,_,rfl,D,_,_,.ref ls[t.2.2.1],rfl,rfl,SqL.of B1.hb,Ap (by rw[List.getElem?_map,l2];rfl),.inl ⟨rfl,_,SqL.of e2⟩,_,rfl,_,rfl,small (by simp),λp' hp'=> ?_⟩;have n3:rs2.length<=201:=by
    rw[n2];split
    ·rw[List.length_append];have:=nl t.2.1;simp only[List.length_cons,List.length_nil];omega
    ·have:=nl t.2.2.1;omega
   refine⟨_,_,_,rfl,rfl,Ad hp' _ _ e2,Ak (by rw[List.length_map];omega),_,_,_,_,rfl,?_⟩;have B2:=B1.app (n:=t.1) (u:=t.2.1) l2 hp' e2;rw[nb_two,<-tk] at B2;exact B2
  ·rintro σ H3 ⟨u3,u4,u5,u6,rfl,B⟩;rw[List.length_map,hrs.1,List.take_length] at B;exact⟨_,rfl,k D H3 B.same ⟨ls,B.hb,B.len,B.prs⟩⟩
theorem ok_Beside{f:Addr}{fd:FuncData}(F:Fun K "beside_of" "beside_of" sBeside f fd)(T:Txt mg):FnOk P w K mg base CX0 1 f fd ["many","stand"] spBeside:=
 ((ok_BesideL F T).or (ok_BesideT F T)).imp λvs H Q E ⟨N,st,S,e,h,r⟩=>h.elim (λh=> .inl ⟨N,st,S,e,h,r⟩) λh=> .inr ⟨N,st,S,e,h,r⟩
theorem scWays:Av ["many","stand","place","beside","ways","waiting","here","name","there"] ["many","stand","place"] (Ag sWays):=⟨rfl,rfl,rfl,by decide+kernel,rfl,by decide+kernel,by decide+kernel⟩
theorem ok_Ways{f:Addr}{fd:FuncData}(F:Fun K "ways_from" "ways_from" sWays f fd)(T:Txt mg)(GBeside:Cl P w K mg base 1 "beside_of" ["many","stand"] spBeside):
  FnOk P w K mg base CX0 2 f fd ["many","stand","place"] spWays:=by
 refine F.ok scWays (λvs H Q E h=> ?_) (λcdv A outer s H vs Q E hr h=> ?_)
 ·obtain⟨_,_,_,_,rfl,_⟩:=h;rfl
 ·obtain⟨N,st,S,p,rfl,hst,hN,N60,S100,pN,k⟩:=h;refine⟨_,Ae (Aw (i:=3) scWays.nd rfl (Or.inl rfl) (At GBeside hr (Aa (pv 0) (Aa (pv 1) Ac))))
   (Ae (Aw (i:=4) scWays.nd rfl (Or.inl rfl) (Az op_rep (Cm (Aa pe_non Ac)) (pv 0)))
   (Ae (Cz (Bk Ac) (pg_sub (pv 4) (pv 2) set_list))
   (Ae (Aw (i:=5) scWays.nd rfl (Or.inl rfl) (Cm (Aa (pv 2) Ac)))
   (Ae (ps_while PassesOwn.never (pt_truth (pv 5) (λ_=>rfl)) (Ae (Aw (i:=6) scWays.nd rfl (Or.inl rfl) (pe_bm PySem.F.plainAttrs_list PySem.F.slot_list_pop PySem.F.type_list_pop mt_popAt (pv 5) (Aa Af Ac)))
   (Ai (Dx PassesOwn.never rfl (Ce (A1 A0 (pv 3) (pv 6) (λ_ _=>rfl))) (Co rfl (Al (Ah (i:=7) scWays.nd rfl (Or.inl rfl)) (Al (Ah (i:=8) scWays.nd rfl (Or.inl rfl)) Bf))) (Ai (Bi (Au op_isN (A1 A0 (pv 4) (pv 8) (λ_ _=>rfl)) pe_non (Ay _)) (Ae (Cz (Az op_catTT (A1 A0 (pv 4) (pv 6) (λ_ _=>rfl)) (Bk (Aa (pv 7) Ac))) (pg_sub (pv 4) (pv 8) set_list))
   (Ai (Cw (pe_bm PySem.F.plainAttrs_list PySem.F.slot_list_append PySem.F.type_list_append Cb (pv 5) (Aa (pv 8) Ac))))) A2))))))
   (Ai (Ao (pv 4))))))),?_⟩
  refine⟨_,rfl,_,rfl,N,st,S,rfl,hst,hN,N60,S100,λb H1 s1 hb=> ?_⟩;refine⟨small (by simp),λq hq=>⟨_,rfl,q,_,_,rfl,rfl,Ab,by omega,by omega,small (by simp only[List.length_cons,List.length_nil];omega),λws hws=> ?_⟩⟩;have fl:(List.replicate (N:Int).toNat [V.non]).flatten=List.replicate N V.non:=by rw[List.flatten_replicate_singleton];rfl
  rw[fl];have s2:=(Ad (H:=H1) (o:= .lst [.non]) hq).trans (Ad (o:= .lst (List.replicate N V.non)) hws);have nw:H1 ws=none:=none_of (Ad (H:=H1) (o:= .lst [.non]) hq) hws;have e2:=Ab (H:=upd H1 q (.lst [.non])) (a:=ws) (o:= .lst (List.replicate N V.non));generalize upd (upd H1 q (.lst [.non])) ws (.lst (List.replicate N V.non))=H2 at s2 e2;have W2:WaysAt H2 ws (List.replicate N none):=⟨_,e2,by simp,λi x o hx ho=>by
   rw[List.getElem?_replicate] at hx ho;split at hx
   ·rename_i hi;rw[if_pos hi] at ho;cases hx;cases ho;rfl
   ·cases hx⟩
  refine⟨small (by simp),λe he=> ?_⟩;have s3:=Ad (o:= .tup []) he;have W3:=W2.same s3;have e3:=s3 _ _ e2;have t3:=Ab (H:=H2) (a:=e) (o:= .tup []);generalize upd H2 e (.tup [])=H3 at s3 W3 e3 t3;have W4:WaysAt (upd H3 ws (.lst ((List.replicate N V.non).set p (.ref e)))) ws (Cq N p).1:=WaysAt.set (w:=[]) W3 e3 t3;have s4:Same H1 (upd H3 ws (.lst ((List.replicate N V.non).set p (.ref e)))):=Aq (s2.trans s3) nw;refine⟨_,rfl,_,rfl,ws,_,_,p,rfl,rfl,e3,(by have h:ixN (List.replicate N V.non).length (p:Int)=some p:=ixN_nat (by simpa using pN);exact h),?_⟩;generalize upd H3 ws _=H4 at W4 s4;refine⟨_,rfl,small (by simp),λwt hwt=> ?_⟩;have s5:=s4.trans (Ad (o:= .lst [.int (p:Int)]) hwt);have nt:H1 wt=none:=none_of s4 hwt;have W5:=W4.same (Ad (o:= .lst [.int (p:Int)]) hwt);have t5:=Ab (H:=H4) (a:=wt) (o:= .lst [.int (p:Int)]);have wwt:ws≠wt:=by obtain⟨xs,hx,_⟩:=W4;exact An hx hwt
  generalize upd H4 wt (.lst [.int (p:Int)])=H5 at s5 W5 t5;dsimp only[gName,tSeq];refine while_gh (λm σ H6=>∃(i:Nat) (u6 u7 u8:Option V) (wl:Ws) (tl:List Nat),σ=[some (.int (N:Int)),some (.ref st),some (.int (p:Int)),some (.ref b),some (.ref ws),some (.ref wt),u6,u7,u8]/\Same H1 H6/\H6 wt=some (.lst ((tl.map Int.ofNat).map V.int))/\WaysAt H6 ws wl/\iter S i (Cq N p)=(wl,tl)/\BInv S N p (wl,tl)/\m=nones wl+tl.length/\i+m<=64/\tl.length<=64/\∀v x,Wk.Vis wl v x->x.length<=i)
   (m0:=nones (Cq N p).1+1) ⟨0,_,_,_,(Cq N p).1,[p],rfl,s5,t5,W5,rfl,binv0 pN,rfl,?_,by simp,λv x q=>by rw[binit_vis pN q];simp⟩ ?_ ?_
  ·have:nones (Cq N p).1<=(Cq N p).1.length:=List.countP_le_length;simp only[Cq,List.length_set,List.length_replicate] at this ⊢;omega
  ·rintro m σ H6 ⟨i,u6,u7,u8,wl,tl,rfl,s6,t6,W6,it6,I6,hm,hi,tl6,sh6⟩;refine⟨_,rfl,_,.inl ⟨_,SqL.of t6,rfl⟩,?_⟩;cases tl with
   |nil=>
    refine Ct ?_;rw[<-ways_of it6 (by omega)] at W6;exact⟨_,rfl,k ws H6 (s1.trans s6) W6⟩
   |cons h rest=>
    refine iteT ?_;obtain⟨w0,hv0,J⟩:=pinv_of I6;have hh:h<N:=by have:=(List.getElem?_eq_some_iff.mp hv0).1;rw[<-I6.len];exact this
    refine⟨_,rfl,.inl ⟨rfl,_,SqL.of t6⟩,wt,_,0,0,.int (h:Int),rfl,rfl,t6,by decide,by decide,by simp[seqIndex?],rfl,?_⟩;have W7:=W6.keep (zs:=(rest.map Int.ofNat).map V.int) t6 wwt;have s7:Same H1 (upd H6 wt (.lst ((rest.map Int.ofNat).map V.int))):=Aq s6 nt;have t7:=Ab (H:=H6) (a:=wt) (o:= .lst ((rest.map Int.ofNat).map V.int));have eH:upd H6 wt (.lst (List.eraseIdx (List.map V.int (List.map Int.ofNat (h::rest))) 0))=upd H6 wt (.lst ((rest.map Int.ofNat).map V.int)):=rfl;rw[eH];generalize upd H6 wt (.lst ((rest.map Int.ofNat).map V.int))=H7 at W7 s7 t7;obtain⟨ls,hls,lls,hpr⟩:=hb.same s7;have hl:=Ck (l:=ls) (i:=h) (by omega);obtain⟨rs,er,lr,hr3⟩:=hpr h _ hl;have w0len:w0.length<=64:=by have:=sh6 h w0 hv0;omega
    refine⟨_,rfl,_,rfl,b,_,_,.ref ls[h],rfl,rfl,SqL.of hls,Ap (by rw[List.getElem?_map,hl];rfl),_,rfl,⟨_,SqL.of er⟩,?_⟩;have key:∀H8,Same H1 H8->H8 ls[h]=some (.lst (rs.map V.ref))/\∀(i:Nat) r q,rs[i]? =some r->(Bj S h)[i]? =some q->H8 r=some (.tup [.str q.1,.int (q.2:Int)]):=by
     intro H8 s8;obtain⟨ls',hls',_,hpr'⟩:=hb;have e1:ls'=ls:=by
      have:=s7 _ _ hls';rw[hls] at this;injection this with this;injection this with this;exact(refs_inj this).symm
     subst e1;obtain⟨rs',er',lr',hr'⟩:=hpr' h _ hl;have e2:rs'=rs:=by
      have:=s7 _ _ er';rw[er] at this;injection this with this;injection this with this;exact(refs_inj this).symm
     subst e2;exact⟨s8 _ _ er',λi r q e f=>s8 _ _ (hr' i r q e f)⟩
    refine for_list (K:=K) (a:=ls[h]) (xs:=rs.map V.ref) (λj σ H8=>∃(u7 u8:Option V),σ=[some (.int (N:Int)),some (.ref st),some (.int (p:Int)),some (.ref b),some (.ref ws),some (.ref wt),some (.int (h:Int)),u7,u8]/\Same H1 H8/\H8 wt=some (.lst (((By w0 ((Bj S h).take j) (wl,rest)).2.map Int.ofNat).map V.int))/\WaysAt H8 ws (By w0 ((Bj S h).take j) (wl,rest)).1)
     ⟨_,_,rfl,s7,t7,W7⟩ (λj σ H8 _ ⟨_,_,_,s8,_⟩=>SqL.of (key H8 s8).1) ?_ ?_
    ·rintro j x σ H8 hx ⟨u7',u8',rfl,s8,t8,W8⟩;obtain⟨r,hr',rfl⟩:=Ax hx;have hj:j<(Bj S h).length:=by rw[<-lr];exact(List.getElem?_eq_some_iff.mp hr').1
     have hq:=Ck hj;have er8:=(key H8 s8).2 j r _ hr' hq;have tk:(Bj S h).take (j+1)=(Bj S h).take j++[(Bj S h)[j]]:=by rw[List.take_add_one,hq];rfl
     have qN:((Bj S h)[j]).2<N:=nb_lt hN (List.getElem_mem hj);have jl:j<201:=by have:=nbrs_len S h;omega
     obtain⟨vl1,vl2⟩:=visit_len w0 ((Bj S h).take j) (wl,rest);have vh:=visit_vis w0 ((Bj S h).take j) (wl,rest) hv0;rw[tk,visit_snoc];generalize (Bj S h)[j]=q at er8 qN;generalize By w0 ((Bj S h).take j) (wl,rest)=st' at *;obtain⟨wl',tl'⟩:=st';dsimp only at *;have qw:q.2<wl'.length:=by rw[vl1];show _<wl.length;rw[I6.len];exact qN
     refine⟨r,_,rfl,SqT.of er8,rfl,_,_,rfl,_,_,rfl,rfl,?_⟩;obtain⟨xs,x,hxs,hx',lxs,hxo⟩:=W8.get (Ck qw);refine⟨_,rfl,_,rfl,ws,_,_,x,rfl,rfl,SqL.of hxs,Ap hx',rfl,_,rfl,?_⟩;cases ho:wl'[q.2] with
     |some z=>
      rw[ho] at hxo;obtain⟨rz,rfl,_⟩:=hxo;rw[vis1_no (by dsimp only;rw[Ck qw,ho];simp)];refine Be (λg=>absurd g (by simp)) λ_=> ?_;exact⟨_,_,rfl,s8,t8,W8⟩
     |none=>
      rw[ho] at hxo;have hxo:x= .non:=hxo;subst hxo;rw[vis1_yes (by dsimp only;rw[Ck qw,ho])];refine Be (λ_=> ?_) λg=>absurd (by simp) g;obtain⟨xs2,x2,hxs2,hx2,_,hxo2⟩:=W8.get vh;obtain⟨r0,rfl,er0⟩:=hxo2;rw[hxs] at hxs2;injection hxs2 with hxs2;injection hxs2 with hxs2;subst hxs2;have tl9:((tl'.map Int.ofNat).map V.int).length<=1000:=by
       simp only[List.length_map,List.length_take,List.length_cons] at vl2 tl6 ⊢;omega
      refine⟨_,rfl,_,rfl,ws,_,_,.ref r0,rfl,rfl,SqL.of hxs,Ap hx2,_,rfl,small (by simp),λp1 hp1=> ?_⟩;have s9:=Ad (o:= .tup [.str q.1]) hp1;have p9:=Ab (H:=H8) (a:=p1) (o:= .tup [.str q.1]);have w9:w0.length<=100:=by
       have:=(J.ht h w0 J.hv);have:=w0len;omega
      generalize upd H8 p1 (.tup [.str q.1])=H9 at s9 p9;refine⟨r0,p1,_,_,rfl,rfl,SqT.of (s9 _ _ er0),SqT.of p9,small (by simp;omega),λe=> ?_,λ_ e=>absurd e (by simp),λ_ _ p2 hp2=> ?_⟩
      ·have e0:w0=[]:=by simpa using e
       have e9:H9 p1=some (.tup ((w0++[q.1]).map V.str)):=by rw[e0];exact p9
       have hxs9:=s9 _ _ hxs;have W9:=(W8.same s9).set (u:=q.2) hxs9 e9;have t9:=s9 _ _ t8;refine⟨_,rfl,_,rfl,ws,_,_,q.2,rfl,rfl,hxs9,ixN_nat (by omega),?_⟩;have s10:Same H1 (upd H9 ws (.lst (xs.set q.2 (.ref p1)))):=Aq (s8.trans s9) nw;have t10:upd H9 ws (.lst (xs.set q.2 (.ref p1))) wt=some (.lst ((tl'.map Int.ofNat).map V.int)):=by rw[Aj wwt.symm];exact t9
       generalize upd H9 ws (.lst (xs.set q.2 (.ref p1)))=H10 at W9 s10 t10;refine⟨_,rfl,.inl ⟨rfl,_,SqL.of t10⟩,_,rfl,wt,_,_,rfl,rfl,t10,Ak tl9,_,_,rfl,Aq s10 nt,?_,W9.keep t10 wwt⟩;rw[Ab,List.map_append,List.map_append];rfl
      ·have e9:upd H9 p2 (.tup (w0.map V.str++[.str q.1])) p2=some (.tup ((w0++[q.1]).map V.str)):=by rw[Ab,List.map_append];rfl
       have s9:=s9.trans (Ad (o:= .tup (w0.map V.str++[.str q.1])) hp2);generalize upd H9 p2 (.tup (w0.map V.str++[.str q.1]))=H9 at s9 e9;have hxs9:=s9 _ _ hxs;have W9:=(W8.same s9).set (u:=q.2) hxs9 e9;have t9:=s9 _ _ t8;refine⟨_,rfl,_,rfl,ws,_,_,q.2,rfl,rfl,hxs9,ixN_nat (by omega),?_⟩;have s10:Same H1 (upd H9 ws (.lst (xs.set q.2 (.ref p2)))):=Aq (s8.trans s9) nw;have t10:upd H9 ws (.lst (xs.set q.2 (.ref p2))) wt=some (.lst ((tl'.map Int.ofNat).map V.int)):=by rw[Aj wwt.symm];exact t9
       generalize upd H9 ws (.lst (xs.set q.2 (.ref p2)))=H10 at W9 s10 t10;refine⟨_,rfl,.inl ⟨rfl,_,SqL.of t10⟩,_,rfl,wt,_,_,rfl,rfl,t10,Ak tl9,_,_,rfl,Aq s10 nt,?_,W9.keep t10 wwt⟩;rw[Ab,List.map_append,List.map_append];rfl
    ·rintro σ H8 ⟨u7',u8',rfl,s8,t8,W8⟩;rw[List.length_map,lr,List.take_length] at t8 W8;have eb:bstep S (wl,h::rest)=By w0 (Bj S h) (wl,rest):=by
      show By ((wl[h]?.join).getD []) (Bj S h) (wl,rest)=_;unfold Wk.Vis at hv0;rw[hv0];rfl
     obtain⟨I8,m8⟩:=bstep_ok hN I6;have sh8:=bstep_short hN I6 sh6;have it8:iter S (i+1) (Cq N p)=By w0 (Bj S h) (wl,rest):=by rw[iter_snoc,it6,eb]
     rw[eb] at I8 m8 sh8;generalize By w0 (Bj S h) (wl,rest)=st' at *;obtain⟨wl',tl'⟩:=st';dsimp only at *;refine⟨nones wl'+tl'.length,by omega,i+1,_,_,_,wl',tl',rfl,s8,t8,W8,it8,I8,rfl,by omega,by omega,sh8⟩
  ·rintro σ H6 Q Q' f ⟨v,e,b',h',q⟩;exact⟨v,e,b',h',f _ _ q⟩
theorem scPart:Av ["many","stand","place","ways"] ["many","stand","place"] (Ag sPart):=⟨rfl,rfl,rfl,by decide+kernel,rfl,by decide+kernel,by decide+kernel⟩
theorem ok_Part{f:Addr}{fd:FuncData}(F:Fun K "part_of" "part_of" sPart f fd)(T:Txt mg)(GWays:Cl P w K mg base 2 "ways_from" ["many","stand","place"] spWays):
  FnOk P w K mg base CX0 3 f fd ["many","stand","place"] spPart:=by
 refine F.ok scPart (λvs H Q E h=> ?_) (λcdv A outer s H vs Q E hr h=> ?_)
 ·obtain⟨_,_,_,_,rfl,_⟩:=h;rfl
 ·obtain⟨N,st,S,p,rfl,hst,hN,N60,S100,pN,k⟩:=h;refine⟨_,Ae (Aw (i:=3) scPart.nd rfl (Or.inr rfl) (At GWays hr (Aa (pv 0) (Aa (pv 1) (Aa (pv 2) Ac)))))
   (Ai (Ao (A3 Bp (by rfl) T.tuple (by decide+kernel) (Aa (A5 (T:=["there"]) (F:=["ways"]) (js:=[3]) (cs (osc:=Ag sPart)) rfl (Bt rfl T.range (Aa (pv 0) Ac)) (λ_ _ _ _ _=>Ah (i:=0) (show (["there","ways"]:List Str).Nodup by decide+kernel) rfl (Or.inl rfl)) (λ_ _ _ _ _=>Ci (Au op_notN (A1 (r:=rIxL K) A0 (pv 1) (pv 0) (λ_ _=>rfl)) pe_non (Ay _))) (λ_ _ _ _ _=>pv 0)) Ac)))),?_⟩
  refine⟨_,rfl,_,rfl,_,rfl,N,st,S,p,rfl,hst,hN,N60,S100,pN,λa H1 s1 W1=> ?_⟩;have wl:=ways_len hN pN N60;refine⟨_,rfl,(N:Int),rfl,by omega,by omega,λD hD=>Bn (lo:=0) (n:=(N:Int).toNat) (λj σ ys H2=>∃(u:Option V),σ=[u,some (.ref a)]/\ys=((((List.range j).filter λv=>((waysF N S p)[v]?.join).isSome).map Int.ofNat).map V.int)/\H2=upd H1 D (.lst ys)) ⟨none,rfl,rfl,rfl⟩ (λj σ ys H2 _ ⟨_,_,_,e⟩=>by rw[e];exact Ab) ?_ ?_⟩
  ·rintro j σ ys H2 hj ⟨u,rfl,rfl,rfl⟩;have hj:j<N:=by simpa using hj
   have hjw:j<(waysF N S p).length:=by omega
   obtain⟨xs,x,hxs,hx,lx,hxo⟩:=(W1.same (Ad (o:= .lst ((((List.range j).filter λv=>((waysF N S p)[v]?.join).isSome).map Int.ofNat).map V.int)) hD)).get (Ck hjw);refine⟨_,rfl,_,rfl,a,_,_,x,rfl,rfl,SqL.of hxs,by rw[Int.zero_add];exact Ap hx,rfl,_,rfl,?_⟩;have lf:((List.range j).filter λv=>((waysF N S p)[v]?.join).isSome).length<=60:=Nat.le_trans (List.length_filter_le _ _) (by rw[List.length_range];omega);cases ho:(waysF N S p)[j] with
   |none=>
    rw[ho] at hxo;have hxo:x= .non:=hxo;subst hxo;refine Be (λg=>absurd g (by simp)) λ_=>⟨_,rfl,?_,?_⟩
    ·rw[List.range_succ,List.filter_append];simp[Ck hjw,ho]
    ·rfl
   |some z=>
    rw[ho] at hxo;obtain⟨r,rfl,_⟩:=hxo;refine Be (λ_=>⟨_,rfl,Ab,Ak (by simp only[List.length_map];omega),_,rfl,?_,by rw[upd_upd]⟩) λg=>absurd (by simp) g;rw[List.range_succ,List.filter_append,List.map_append,List.map_append];simp[Ck hjw,ho]
  ·rintro σ ys H2 ⟨u,rfl,rfl,rfl⟩;exact⟨D,_,rfl,.inl ⟨SqL.of Ab,λl hl=>k l _ (s1.trans ((Ad hD).trans (Ad hl))) Ab⟩⟩
end
end K39
namespace Wk
open PySem L2
theorem part_head_le{N p q u:Nat}{S:List T4}(h:(Ar N S p)[0]? =some q)(hu:u∈Ar N S p):q<=u:=by
 have pw:(Ar N S p).Pairwise (·<·):=(List.pairwise_lt_range (n:=N)).filter _;cases e:Ar N S p with
 |nil=>rw[e] at hu;cases hu
 |cons a r=>
  rw[e] at h hu pw;simp at h;subst h;rcases List.mem_cons.mp hu with rfl|hu
  ·exact Nat.le_refl _
  ·exact Nat.le_of_lt ((List.pairwise_cons.mp pw).1 u hu)
theorem ls_least{N p:Nat}{S:List T4}(hS:InN N S)(hN:N<=60)(hp:p<N):decide ((Ar N S p)[0]? =some p)=leastB S p:=by
 rw[Bool.eq_iff_iff,decide_eq_true_eq,least_iff];constructor
 ·intro h u hu r;have:u∈Ar N S p:=(A6 hS hp hN).mpr ⟨by omega,r.symm⟩;have:=part_head_le h this;omega
 ·intro h;obtain⟨q,h1,h2,h3⟩:=part_head hS hp hN;have le:=part_head_le h1 (part_self hS hp hN);rcases Nat.lt_or_ge q p with c|c
  ·exact absurd h3 (h q c)
  ·rw[h1,show q=p by omega]
theorem ls_cls{N:Nat}{S:List T4}(hS:InN N S)(hN:N<=60):(lsF N S).length=clsF N S:=by
 unfold lsF clsF;rw[<-List.countP_eq_length_filter];exact List.countP_congr λp hp=>by rw[ls_least hS hN (List.mem_range.mp hp)]
end Wk
namespace K39
open PySem L2 Wk
def nV(ps:List Nat):List V:=(ps.map Int.ofNat).map V.int
theorem nV_at{ps:List Nat}{k v:Nat}(h:ps[k]? =some v):atI (nV ps) (k:Int)=some (.int (v:Int)):=Ap (by unfold nV;rw[List.getElem?_map,List.getElem?_map,h];rfl)
def PtsAt(H:Hp)(as:List Addr)(N:Nat)(S:List T4)(ls:List Nat):Prop:=as.length=ls.length/\∀(i:Nat) r p,as[i]? =some r->ls[i]? =some p->H r=some (.tup (nV (Ar N S p)))
def spParts:Sp:=λvs H Q _=>∃(N:Nat) (st:Addr) (S:List T4),vs=[.int (N:Int),.ref st]/\StandX H st S/\InN N S/\N<=60/\S.length<=100/\∀a as H',Same H H'->H' a=some (.tup (as.map V.ref))->PtsAt H' as N S (lsF N S)->Q (.ref a) H'
theorem pts_snoc{H:Hp}{as:List Addr}{N p:Nat}{S:List T4}{ls:List Nat}{r:Addr}(h:PtsAt H as N S ls)(hr:H r=some (.tup (nV (Ar N S p)))):PtsAt H (as++[r]) N S (ls++[p]):=by
 refine⟨by rw[List.length_append,List.length_append,h.1];rfl,λi r0 p0 e1 e2=> ?_⟩;rw[List.getElem?_append] at e1 e2;rw[h.1] at e1;split at e1
 ·rename_i z;rw[if_pos z] at e2;exact h.2 i r0 p0 e1 e2
 ·rename_i z;rw[if_neg z] at e2;have hz:i - ls.length=0:=by
   have:=(List.getElem?_eq_some_iff.mp e1).1;simp only[List.length_cons,List.length_nil] at this;omega
  rw[hz] at e1 e2;cases e1;cases e2;exact hr
theorem PtsAt.mono{H H':Hp}{as:List Addr}{N:Nat}{S:List T4}{ls:List Nat}(h:PtsAt H as N S ls)(f:∀r zs,H r=some (.tup zs)->H' r=some (.tup zs)):PtsAt H' as N S ls:=⟨h.1,λi r p a b=>f _ _ (h.2 i r p a b)⟩
def spHasR:Sp:=λvs H Q _=>∃(N:Nat) (st:Addr) (F:List T4),vs=[.int (N:Int),.ref st]/\StandAt H st F/\InN N F/\N<=60/\F.length<=100/\∀H',Same H H'->Q (.bl (decide ((N:Int) - ((lsF N F).length:Nat)<(F.length:Nat)))) H'
section
variable{P:Program}{w:World}{K:PySem.W.Frag}{mg:Str->Option Value}{base:Heap}
theorem scParts:Av ["many","stand","parts"] ["many","stand"] (Ag sParts):=⟨rfl,rfl,rfl,by decide+kernel,rfl,by decide+kernel,by decide+kernel⟩
theorem ok_Parts{f:Addr}{fd:FuncData}(F:Fun K "parts_of" "parts_of" sParts f fd)(T:Txt mg)(GPart:Cl P w K mg base 3 "part_of" ["many","stand","place"] spPart):
  FnOk P w K mg base CX0 4 f fd ["many","stand"] spParts:=by
 refine F.ok scParts (λvs H Q E h=> ?_) (λcdv A outer s H vs Q E hr h=> ?_)
 ·obtain⟨_,_,_,rfl,_⟩:=h;rfl
 ·obtain⟨N,st,S,rfl,hst,hN,N60,S100,k⟩:=h;refine⟨_,Ae (Dr (i:=2) (T:=["place"]) (F:=["many","stand"]) (js:=[0,1]) scParts.nd rfl (Or.inl rfl) (cs (osc:=Ag sParts)) rfl (Bt rfl T.range (Aa (pv 0) Ac)) (λ_ _ _ _ _=>Ah (i:=0) (show (["place","many","stand"]:List Str).Nodup by decide+kernel) rfl (Or.inl rfl)) (λ_ _ _ _ _=>A8) (λ_ _ _ _ _=>At GPart hr (Aa (pv 1) (Aa (pv 2) (Aa (pv 0) Ac)))))
   (Ai (Ao (A3 Bp (by rfl) T.tuple (by decide+kernel) (Aa (A5 (T:=["place","part"]) (F:=[]) (js:=[]) (cs (osc:=Ag sParts)) rfl (pi_enumL rfl T.enumerate (Aa (pv 2) Ac)) (λ_ _ _ _ _=>pg_tupK K 2 rfl rfl (Al (Ah (i:=0) (show (["place","part"]:List Str).Nodup by decide+kernel) rfl (Or.inl rfl)) (Al (Ah (i:=1) (show (["place","part"]:List Str).Nodup by decide+kernel) rfl (Or.inl rfl)) Bf))) (λ_ _ _ _ _=>Ci (Au Dt (A1 (r:=rIxT K) Cg (pv 1) Af (λ_ _=>rfl)) (pv 0) (Ay _))) (λ_ _ _ _ _=>pv 1)) Ac)))),?_⟩
  refine⟨_,rfl,(N:Int),rfl,by omega,by omega,λD hD=>Bn (lo:=0) (n:=(N:Int).toNat) (λj σ ys H2=>∃(u:Option V) (ls:List Addr),σ=[u,some (.int (N:Int)),some (.ref st)]/\ys=ls.map V.ref/\Same H H2/\H2 D=some (.lst ys)/\PtsAt H2 ls N S (List.range j)) ⟨none,[],rfl,rfl,Ad hD,Ab,rfl,λi r p e=>by simp at e⟩ (λj σ ys H2 _ ⟨_,_,_,_,_,e,_⟩=>e) ?_ ?_⟩
  ·rintro j σ ys H2 hj ⟨u,ls,rfl,rfl,s2,d2,p2⟩;have hj:j<N:=by simpa using hj
   have ll:ls.length=j:=by rw[p2.1,List.length_range]
   refine⟨_,rfl,_,rfl,_,rfl,N,st,S,j,by rw[Int.zero_add];rfl,hst.same s2,hN,N60,S100,hj,λr H3 s3 e3=> ?_⟩;have d3:=s3 _ _ d2;refine⟨d3,Ak (by rw[List.length_map];omega),_,ls++[r],rfl,by rw[List.map_append];rfl,Aq (s2.trans s3) hD,Ab,?_⟩;rw[List.range_succ];have kp:∀(r:Addr) (zs:List V) (o:HO),H3 r=some (.tup zs)->upd H3 D o r=some (.tup zs):=λr zs o e=>by rw[Aj (Cr e d3 (by intro z;cases z))];exact e
   exact pts_snoc ((p2.mono λr zs e=>s3 _ _ e).mono λr zs e=>kp r zs _ e) (kp _ _ _ e3)
  rintro σ ys H2 ⟨u,ls,rfl,rfl,s2,d2,p2⟩;have en:(N:Int).toNat=N:=by omega
  rw[en] at p2;have ll:ls.length=N:=by rw[p2.1,List.length_range]
  refine⟨_,rfl,D,_,rfl,SqL.of d2,λE hE=>comp_enum (K:=K) (a:=D) (xs:=ls.map V.ref) (λj σ ys H5=>∃(u v:Option V) (qs:List Addr),σ=[u,v]/\Same H2 H5/\H5 E=some (.lst ys)/\ys=qs.map V.ref/\PtsAt H5 qs N S ((List.range j).filter λp=>decide ((Ar N S p)[0]? =some p))) ⟨none,none,[],rfl,Ad hE,Ab,rfl,rfl,λi r p e=>by simp at e⟩ (λj σ ys H5 _ ⟨_,_,_,_,s5,e,_⟩=>⟨SqL.of (s5 _ _ d2),e⟩) ?_ ?_⟩
  ·rintro j x σ ys H5 T hx ⟨u,v,qs,rfl,s5,e5,rfl,p5⟩ hT;obtain⟨r,er,rfl⟩:=Ax hx;have hj:j<N:=by rw[<-ll];exact(List.getElem?_eq_some_iff.mp er).1
   have s6:=Ad (o:= .tup [.int (j:Int),.ref r]) hT;have T6:=Ab (H:=H5) (a:=T) (o:= .tup [.int (j:Int),.ref r]);have e6:=s6 _ _ e5;have p6:=p5.mono λr zs e=>s6 _ _ e;generalize upd H5 T (.tup [.int (j:Int),.ref r])=H6 at s6 T6 e6 p6;have S6:=s5.trans s6;have r6:=S6 _ _ (p2.2 j r j er (List.getElem?_range hj));refine⟨T,_,rfl,SqT.of T6,rfl,_,_,rfl,_,_,rfl,rfl,?_⟩;have h0:0<(Ar N S j).length:=List.length_pos_of_mem (part_self hN hj N60);have hg:=Ck h0;generalize (Ar N S j)[0]=q at hg;refine⟨_,rfl,r,_,0,_,rfl,rfl,SqT.of r6,nV_at (k:=0) hg,_,rfl,rfl,_,rfl,?_⟩;have ql:qs.length<=100:=by
    rw[p5.1];refine Nat.le_trans (List.length_filter_le _ _) ?_;rw[List.length_range];omega
   by_cases g:q=j
   ·rw[show decide (V.int (q:Int)=V.int (j:Int))=true from decide_eq_true (by rw[g])];have ef:(List.range (j+1)).filter (λp=>decide ((Ar N S p)[0]? =some p))=(List.range j).filter (λp=>decide ((Ar N S p)[0]? =some p))++[j]:=by
     rw[List.range_succ,List.filter_append,List.filter_cons_of_pos (by rw[decide_eq_true_eq,hg,g]),List.filter_nil]
    have kp:∀(r:Addr) (zs:List V) (o:HO),H6 r=some (.tup zs)->upd H6 E o r=some (.tup zs):=λr zs o e=>by rw[Aj (Cr e e6 (by intro z;cases z))];exact e
    refine iteT ⟨_,rfl,e6,Ak (by rw[List.length_map];omega),_,_,qs++[r],rfl,Aq S6 hE,Ab,by rw[List.map_append];rfl,?_⟩;rw[ef];exact pts_snoc (p6.mono λr zs e=>kp r zs _ e) (kp _ _ _ r6)
   ·rw[show decide (V.int (q:Int)=V.int (j:Int))=false from decide_eq_false (λe=>g (by injection e with e;omega))];have ef:(List.range (j+1)).filter (λp=>decide ((Ar N S p)[0]? =some p))=(List.range j).filter (λp=>decide ((Ar N S p)[0]? =some p)):=by
     rw[List.range_succ,List.filter_append,List.filter_cons_of_neg (by rw[decide_eq_true_eq,hg];intro z;exact g (Option.some.inj z)),List.filter_nil,List.append_nil]
    refine Ct ⟨_,_,qs,rfl,S6,e6,rfl,?_⟩;rw[ef];exact p6
  ·rintro σ ys H5 ⟨u,v,qs,rfl,s5,e5,rfl,p5⟩;rw[List.length_map,ll] at p5;refine⟨E,_,rfl,.inl ⟨SqL.of e5,λl hl=> ?_⟩⟩;exact k l qs _ ((s2.trans s5).trans (Ad hl)) Ab (p5.mono λr zs e=>Ad hl _ _ e)
theorem scHasR:Av ["many","stand"] ["many","stand"] (Ag sHasR):=⟨rfl,rfl,rfl,by decide+kernel,rfl,by decide+kernel,by decide+kernel⟩
theorem ok_HasR{f:Addr}{fd:FuncData}(F:Fun K "has_ring" "has_ring" sHasR f fd)(T:Txt mg)(GParts:Cl P w K mg base 4 "parts_of" ["many","stand"] spParts):
  FnOk P w K mg base CX0 5 f fd ["many","stand"] spHasR:=by
 refine F.ok scHasR (λvs H Q E h=> ?_) (λcdv A outer s H vs Q E hr h=> ?_)
 ·obtain⟨_,_,_,rfl,_⟩:=h;rfl
 ·obtain⟨N,st,F,rfl,hst,hN,N60,F100,k⟩:=h;refine⟨_,Ai (Ao (Bo op_gt (Am As (by rfl) T.len PySem.boot_len (Aa (pv 1) Ac)) (Az op_sub (pv 0) (Am As (by rfl) T.len PySem.boot_len (Aa (At GParts hr (Aa (pv 0) (Aa (pv 1) Ac))) Ac))) (Ay _))),?_⟩;obtain⟨rs,hst1,hrs⟩:=id hst;refine⟨_,rfl,st,_,rfl,.inl (SqL.of hst1),_,rfl,_,rfl,_,rfl,N,st,F,rfl,.inl hst,hN,N60,F100,λa as H1 s1 ha hp=> ?_⟩;refine⟨a,_,rfl,.inr (SqT.of ha),_,_,rfl,rfl,_,_,rfl,rfl,?_⟩;rw[List.length_map,List.length_map,hp.1,hrs.1];exact k H1 s1
end
end K39
namespace K39
open PySem L2 Wk
def lay(m:Int):Int:=if m<4 then 0 else if m<8 then 1 else if m<16 then 2 else 3
theorem lay_0(m:Int):0<=lay m:=by unfold lay;split<;> (try split)<;> (try split)<;> omega
theorem lay_4(m:Int):lay m<=3:=by unfold lay;split<;> (try split)<;> (try split)<;> omega
def rm(m k:Int):Int:=m / 2 ^ k.toNat
theorem rm_1{m k:Int}(h1:1<=m)(h2:m<=24)(k0:0<=k)(h:k<=lay m):1<=rm m k:=by
 have:=lay_4 m;obtain⟨j,rfl⟩:∃j:Nat,k=(j:Int):=⟨k.toNat,by omega⟩
 have hj:j=0\/j=1\/j=2\/j=3:=by omega
 unfold lay at h;unfold rm;rcases hj with rfl|rfl|rfl|rfl<;> simp<;> revert h<;> split<;> (try split)<;> (try split)<;> omega
theorem rm_ge{m:Int}{k:Nat}(h1:1<=m)(h2:m<=24):2<=rm m ((k:Int)+1)↔(k:Int)+1<=lay m:=by
 unfold lay rm;by_cases hk:k<=3
 ·have hj:k=0\/k=1\/k=2\/k=3:=by omega
  rcases hj with rfl|rfl|rfl|rfl<;> simp<;> split<;> (try split)<;> (try split)<;> omega
 ·constructor
  ·intro h;exfalso;have e:(2:Int) ^ ((k:Int)+1).toNat=2 ^ (k - 3) * 16:=by
    rw[show ((k:Int)+1).toNat=(k - 3)+4 by omega,Int.pow_add];rfl
   rw[e] at h;have p:(1:Int)<=2 ^ (k - 3):=by
    have:(0:Int)<2 ^ (k - 3):=Int.pow_pos (by decide);omega
   have p2:(2:Int)<=2 ^ (k - 3):=by
    rw[show k - 3=(k - 4)+1 by omega,Int.pow_succ];have:(0:Int)<2 ^ (k - 4):=Int.pow_pos (by decide);omega
   have:m / (2 ^ (k - 3) * 16)=0:=Int.ediv_eq_zero_of_lt (by omega) (by omega);omega
  ·intro h;exfalso
   revert h
   split<;> (try split)<;> (try split)<;> omega
def spWhole:Sp:=λvs H Q _=>∃i:Int,vs=[.int i]/\Q (.bl true) H
def spWithin:Sp:=λvs H Q _=>∃i lo hi:Int,vs=[.int i,.int lo,.int hi]/\lo<=i/\i<=hi/\Q (.bl true) H
def spRoom:Sp:=λvs H Q _=>∃m k:Int,vs=[.int m,.int k]/\0<=k/\Q (.int (rm m k)) H
def spMost:Sp:=λvs H Q _=>∃m:Int,vs=[.int m]/\1<=m/\m<=24/\Q (.int (lay m)) H
def NameOk(x:Str):Prop:=1<=x.length/\x.length<=8/\∀c∈x.cps.toList,97<=c/\c<=122
abbrev R6:=T4×Nat×Bool
def rowV(x:R6):List V:=tieV x.1++[.int (x.2.1:Int),.bl x.2.2]
def RowOk(N:Nat)(x:R6):Prop:=NameOk x.1.1/\TieOk N x.1/\(0<=x.1.2.2.2/\x.1.2.2.2<=1000000000)/\(x.2.1:Int)<=lay (N:Int)
def RowsAt(H:Hp)(rs:List Addr)(R:List R6):Prop:=rs.length=R.length/\∀(i:Nat) r x,rs[i]? =some r->R[i]? =some x->H r=some (.tup (rowV x))
theorem RowsAt.mono{H H':Hp}{rs:List Addr}{R:List R6}(h:RowsAt H rs R)(f:∀r xs,H r=some (.tup xs)->H' r=some (.tup xs)):RowsAt H' rs R:=⟨h.1,λi r x a b=>f _ _ (h.2 i r x a b)⟩
theorem RowsAt.get{H:Hp}{rs:List Addr}{R:List R6}(h:RowsAt H rs R){i:Nat}{r:Addr}(hr:rs[i]? =some r):∃x,R[i]? =some x/\H r=some (.tup (rowV x)):=by
 have hi:i<R.length:=by rw[<-h.1];exact(List.getElem?_eq_some_iff.mp hr).1
 exact⟨R[i],Ck hi,h.2 i r _ hr (Ck hi)⟩
def LayAt(H:Hp)(h:Addr)(N:Nat)(R:List R6):Prop:=∃(tp:Addr) (rs:List Addr),H h=some (.tup [.int (N:Int),.ref tp])/\H tp=some (.tup (rs.map V.ref))/\RowsAt H rs R
def frB(L:Nat)(x:R6):Bool:=decide (L<=x.2.1)
def kpB(L:Nat)(x:R6):Bool:=decide (L<=x.2.1) && x.2.2
def spName:Sp:=λvs H Q _=>∃x:Str,vs=[.str x]/\NameOk x/\∀H',Same H H'->Q (.bl true) H'
def spAmount:Sp:=λvs H Q _=>∃i:Int,vs=[.int i]/\0<=i/\i<=1000000000/\Q (.bl true) H
def spPlace:Sp:=λvs H Q _=>∃m i:Int,vs=[.int m,.int i]/\0<=i/\i<m/\Q (.bl true) H
def spTie:Sp:=λvs H Q _=>∃(N:Nat) (r:Addr) (t:T4),vs=[.int (N:Int),.ref r]/\H r=some (.tup (tieV t))/\NameOk t.1/\TieOk N t/\0<=t.2.2.2/\t.2.2.2<=1000000000/\∀H',Same H H'->Q (.bl true) H'
def spShape:Sp:=λvs H Q _=>∃(h tp:Addr) (N:Nat) (xs:List V) (k:Int),vs=[.ref h,.int k]/\H h=some (.tup [.int (N:Int),.ref tp])/\H tp=some (.tup xs)/\1<=N/\N<=24/\(xs.length:Int)<=k/\Q (.bl true) H
def spRow:Sp:=λvs H Q _=>∃(N:Nat) (r:Addr) (x:R6),vs=[.int (N:Int),.ref r]/\H r=some (.tup (rowV x))/\RowOk N x/\1<=N/\N<=24/\∀H',Same H H'->Q (.bl true) H'
def spTies:Sp:=λvs H Q _=>∃(tp:Addr) (rs:List Addr) (R:List R6) (L:Nat),vs=[.ref tp,.int (L:Int)]/\H tp=some (.tup (rs.map V.ref))/\RowsAt H rs R/\R.length<=60/\∀st H',Same H H'->StandAt H' st ((R.filter (frB L)).map (·.1))->Q (.ref st) H'
def spKept:Sp:=λvs H Q _=>∃(tp:Addr) (rs:List Addr) (R:List R6) (L:Nat),vs=[.ref tp,.int (L:Int)]/\H tp=some (.tup (rs.map V.ref))/\RowsAt H rs R/\R.length<=60/\∀st H',Same H H'->StandAt H' st ((R.filter (kpB L)).map (·.1))->Q (.ref st) H'
theorem le_one{a b:Nat}:(!decide ([b]<[a]:Prop))=decide (a<=b):=by
 rw[Bool.eq_iff_iff];simp only[Bool.not_eq_true',decide_eq_false_iff_not,decide_eq_true_eq,List.cons_lt_cons_iff,List.lt_irrefl,and_false,or_false];omega
section
variable{P:Program}{w:World}{K:PySem.W.Frag}{mg:Str->Option Value}{base:Heap}
theorem scWhole:Av ["thing"] ["thing"] (Ag sWhole):=⟨rfl,rfl,rfl,by decide+kernel,rfl,by decide+kernel,by decide+kernel⟩
theorem ok_Whole{f:Addr}{fd:FuncData}(F:Fun K "is_whole" "is_whole" sWhole f fd)(T:Txt mg):
  FnOk P w K mg base CX0 1 f fd ["thing"] spWhole:=by
 refine F.ok scWhole (λvs H Q E h=> ?_) (λcdv A outer s H vs Q E hr h=> ?_)
 ·obtain⟨_,rfl,_⟩:=h;rfl
 ·obtain⟨i,rfl,k⟩:=h;refine⟨_,Ai (Ao (pe_and (Am Cp (by rfl) T.isinstance (by decide+kernel) (Aa (pv 0) (Aa (pe_ty (T:="int") (by rfl) T.int (by decide+kernel)) Ac))) (pe_one (pe_not (Am Cp (by rfl) T.isinstance (by decide+kernel) (Aa (pv 0) (Aa (pe_ty (T:="bool") (by rfl) T.bool (by decide+kernel)) Ac))))))),?_⟩;exact⟨_,rfl,_,_,"int",true,rfl,.int i,rfl,_,rfl,iteT ⟨_,rfl,_,_,"bool",false,rfl,.int i,rfl,_,rfl,k⟩⟩
theorem scWithin:Av ["thing","low","high"] ["thing","low","high"] (Ag sWithin):=⟨rfl,rfl,rfl,by decide+kernel,rfl,by decide+kernel,by decide+kernel⟩
theorem ok_Within{f:Addr}{fd:FuncData}(F:Fun K "is_within" "is_within" sWithin f fd)(T:Txt mg)(GWhole:Cl P w K mg base 1 "is_whole" ["thing"] spWhole):
  FnOk P w K mg base CX0 2 f fd ["thing","low","high"] spWithin:=by
 refine F.ok scWithin (λvs H Q E h=> ?_) (λcdv A outer s H vs Q E hr h=> ?_)
 ·obtain⟨_,_,_,rfl,_⟩:=h;rfl
 ·obtain⟨i,lo,hi,rfl,h1,h2,k⟩:=h;refine⟨_,Ai (Ao (pe_and (At GWhole hr (Aa (pv 0) Ac)) (pe_one (pe_chain op_le op_le (pv 1) (pv 0) (pv 2))))),?_⟩;refine⟨_,rfl,i,rfl,_,rfl,iteT ⟨_,rfl,_,rfl,_,_,rfl,rfl,_,rfl,?_⟩⟩;rw[decide_eq_true h1];refine iteT ⟨_,rfl,_,_,rfl,rfl,?_⟩;show Q (.bl (decide (i<=hi))) H;rw[decide_eq_true h2];exact k
theorem scRoom:Av ["many","layer"] ["many","layer"] (Ag sRoom):=⟨rfl,rfl,rfl,by decide+kernel,rfl,by decide+kernel,by decide+kernel⟩
theorem ok_Room{f:Addr}{fd:FuncData}(F:Fun K "room_at" "room_at" sRoom f fd)(T:Txt mg):
  FnOk P w K mg base CX0 1 f fd ["many","layer"] spRoom:=by
 refine F.ok scRoom (λvs H Q E h=> ?_) (λcdv A outer s H vs Q E hr h=> ?_)
 ·obtain⟨_,_,rfl,_⟩:=h;rfl
 ·obtain⟨m,k0,rfl,hk,k⟩:=h;refine⟨_,Ai (Ao (Az op_shr (pv 0) (pv 1))),?_⟩;exact⟨_,rfl,_,rfl,_,_,rfl,rfl,hk,k⟩
theorem scMost:Av ["many","layer"] ["many"] (Ag sMost):=⟨rfl,rfl,rfl,by decide+kernel,rfl,by decide+kernel,by decide+kernel⟩
theorem ok_Most{f:Addr}{fd:FuncData}(F:Fun K "most_layer" "most_layer" sMost f fd)(T:Txt mg)(GRoom:Cl P w K mg base 1 "room_at" ["many","layer"] spRoom):
  FnOk P w K mg base CX0 2 f fd ["many"] spMost:=by
 refine F.ok scMost (λvs H Q E h=> ?_) (λcdv A outer s H vs Q E hr h=> ?_)
 ·obtain⟨_,rfl,_⟩:=h;rfl
 ·obtain⟨m,rfl,m1,m2,k⟩:=h;refine⟨_,Ae (Aw (i:=1) scMost.nd rfl (Or.inl rfl) Af)
   (Ae (ps_while PassesOwn.never (Au op_ge (At GRoom hr (Aa (pv 0) (Aa (Az Bm (pv 1) Af) Ac))) Af (Ay _)) (Ai (ps_aug (i:=1) scMost.nd rfl (Or.inl rfl) Af ip_add)))
   (Ai (Ao (pv 1)))),?_⟩
  dsimp only[tSeq,tAsg,gName];show tWhile _ _ _ _ _;refine while_by (λσ H1=>∃j:Nat,σ=[some (.int m),some (.int (j:Int))]/\(j:Int)<=lay m/\H1=H) (λσ _=>match σ with|[_,some (.int j)]=>(10 - j).toNat|_=>0) ⟨0,rfl,lay_0 m,rfl⟩ ?_ (λσ H5 Q Q' f h=>by
   obtain⟨v,e,v2,e2,i1,i2,q1,q2,m',k',q3,q4,i3,i4,q5,q6,k2,q7,q8⟩:=h;exact⟨v,e,v2,e2,i1,i2,q1,q2,m',k',q3,q4,i3,i4,q5,q6,k2,q7,f _ _ q8⟩)
  rintro σ H1 ⟨j,rfl,hj,rfl⟩;have l4:=lay_4 m;refine⟨_,rfl,_,rfl,_,_,rfl,rfl,m,_,rfl,by omega,_,_,rfl,rfl,_,rfl,?_⟩;refine Be (λc=> ?_) λc=> ?_
  ·have c:=(rm_ge (k:=j) m1 m2).mp (by simpa using c);refine⟨_,rfl,_,_,rfl,rfl,⟨j+1,rfl,by push_cast;omega,rfl⟩,?_⟩;show (10 - ((j:Int)+1)).toNat<(10 - (j:Int)).toNat;omega
  ·have c:¬(j:Int)+1<=lay m:=λq=>c (by simpa using(rm_ge (k:=j) m1 m2).mpr q);have e:(j:Int)=lay m:=by omega
   rw[<-e] at k;exact⟨_,rfl,k⟩
theorem scName:Av ["thing"] ["thing"] (Ag sName):=⟨rfl,rfl,rfl,by decide+kernel,rfl,by decide+kernel,by decide+kernel⟩
theorem ok_Name{f:Addr}{fd:FuncData}(F:Fun K "is_name" "is_name" sName f fd)(T:Txt mg):
  FnOk P w K mg base CX0 1 f fd ["thing"] spName:=by
 refine F.ok scName (λvs H Q E h=> ?_) (λcdv A outer s H vs Q E hr h=> ?_)
 ·obtain⟨_,rfl,_⟩:=h;rfl
 ·obtain⟨z,rfl,⟨c1,c2,hc⟩,k⟩:=h;obtain⟨_,hml⟩:=T.letters;refine⟨_,Ae (Bi (PW.pt (pw_or (Bu (Bd (Am Cp (by rfl) T.isinstance (by decide+kernel) (Aa (pv 0) (Aa (pe_ty (T:="str") (by rfl) T.str (by decide+kernel)) Ac))))) (Ds (Bu (pt_chain op_le op_le Af (Am call_len_str (by rfl) T.len PySem.boot_len (Aa (pv 0) Ac)) (pe_gint (by rfl) hml)))))) (Ai (Ao Ch)) A2)
   (Ai (Ao (Am (call_all rfl) (by rfl) T.all (by decide+kernel) (Aa (A5 (T:=["sign"]) (F:=[]) (js:=[]) (cs (osc:=Ag sName)) rfl (pi_str (pv 0)) (λ_ _ _ _ _=>Ah (i:=0) (show (["sign"]:List Str).Nodup by decide+kernel) rfl (Or.inl rfl)) (λ_ _ _ _ _=>A8) (λ_ _ _ _ _=>pe_chain op_leS op_leS Cu (pv 0) Cu)) Ac)))),?_⟩
  refine⟨_,rfl,.str z,.type "str","str",true,rfl,.str z,rfl,true,rfl,Ct ?_⟩;refine⟨_,rfl,z,rfl,small (by omega),_,_,rfl,rfl,_,rfl,?_⟩;rw[decide_eq_true (show (1:Int)<=(z.length:Int) by omega)];refine iteT ⟨_,_,rfl,rfl,_,rfl,?_⟩;rw[decide_eq_true (show (z.length:Int)<=8 by omega)];refine Ct ?_;dsimp only[Br];refine⟨_,rfl,z,rfl,λD hD=>comp_str (z:=z) (λi σ ys H2=>∃v,σ=[v]/\Same H H2/\H2 D=some (.lst ys)/\ys=(List.replicate i true).map V.bl) ⟨none,rfl,Ad hD,Ab,rfl⟩ (λi σ ys H2 _ ⟨_,_,_,e,_⟩=>e) ?_ ?_⟩
  ·rintro i c σ ys H2 hc' ⟨v,rfl,s2,e2,rfl⟩;have hil:i<z.cps.size:=(Array.getElem?_eq_some_iff.mp hc').1;have hzl:z.cps.size=z.length:=rfl;have hcm:=hc c (by rw[<-Array.getElem?_toList] at hc';exact List.mem_of_getElem? hc');refine⟨_,rfl,_,_,rfl,rfl,_,rfl,?_⟩;rw[show (Str.ofString "a").cps.toList=[97] by decide,le_one,decide_eq_true hcm.1];refine iteT ⟨_,_,rfl,rfl,e2,Ak (by rw[List.length_map,List.length_replicate];omega),?_⟩;rw[show (Str.ofString "z").cps.toList=[122] by decide,le_one,decide_eq_true hcm.2];exact⟨_,rfl,Aq s2 hD,Ab,by rw[List.replicate_succ',List.map_append];rfl⟩
  ·rintro σ ys H2 ⟨v,rfl,s2,e2,rfl⟩;refine⟨D,List.replicate z.cps.size true,rfl,SqL.of e2,?_⟩;rw[show (List.replicate z.cps.size true).all id=true by simp];exact k H2 s2
theorem scAmount:Av ["thing"] ["thing"] (Ag sAmount):=⟨rfl,rfl,rfl,by decide+kernel,rfl,by decide+kernel,by decide+kernel⟩
theorem ok_Amount{f:Addr}{fd:FuncData}(F:Fun K "is_amount" "is_amount" sAmount f fd)(T:Txt mg)(GWithin:Cl P w K mg base 2 "is_within" ["thing","low","high"] spWithin):
  FnOk P w K mg base CX0 3 f fd ["thing"] spAmount:=by
 refine F.ok scAmount (λvs H Q E h=> ?_) (λcdv A outer s H vs Q E hr h=> ?_)
 ·obtain⟨_,rfl,_⟩:=h;rfl
 ·obtain⟨i,rfl,i0,i1,k⟩:=h;obtain⟨_,hma⟩:=T.amount;refine⟨_,Ai (Ao (At GWithin hr (Aa (pv 0) (Aa Af (Aa (pe_gint (by rfl) hma) Ac))))),?_⟩;exact⟨_,rfl,i,0,1000000000,rfl,i0,i1,k⟩
theorem scPlace:Av ["many","thing"] ["many","thing"] (Ag sPlace):=⟨rfl,rfl,rfl,by decide+kernel,rfl,by decide+kernel,by decide+kernel⟩
theorem ok_Place{f:Addr}{fd:FuncData}(F:Fun K "is_place" "is_place" sPlace f fd)(T:Txt mg)(GWithin:Cl P w K mg base 2 "is_within" ["thing","low","high"] spWithin):
  FnOk P w K mg base CX0 3 f fd ["many","thing"] spPlace:=by
 refine F.ok scPlace (λvs H Q E h=> ?_) (λcdv A outer s H vs Q E hr h=> ?_)
 ·obtain⟨_,_,rfl,_⟩:=h;rfl
 ·obtain⟨m,i,rfl,i0,i1,k⟩:=h;refine⟨_,Ai (Ao (At GWithin hr (Aa (pv 1) (Aa Af (Aa (Az op_sub (pv 0) Af) Ac))))),?_⟩;exact⟨_,rfl,_,rfl,_,_,rfl,rfl,i,0,m - 1,rfl,i0,by omega,k⟩
theorem scTie:Av ["many","four","name","one","other","weight"] ["many","four"] (Ag sTie):=⟨rfl,rfl,rfl,by decide+kernel,rfl,by decide+kernel,by decide+kernel⟩
theorem ok_Tie{f:Addr}{fd:FuncData}(F:Fun K "is_tie" "is_tie" sTie f fd)(T:Txt mg)(GName:Cl P w K mg base 3 "is_name" ["thing"] spName)(GAmount:Cl P w K mg base 3 "is_amount" ["thing"] spAmount)(GPlace:Cl P w K mg base 3 "is_place" ["many","thing"] spPlace):
  FnOk P w K mg base CX0 4 f fd ["many","four"] spTie:=by
 refine F.ok scTie (λvs H Q E h=> ?_) (λcdv A outer s H vs Q E hr h=> ?_)
 ·obtain⟨_,_,_,rfl,_⟩:=h;rfl
 ·obtain⟨N,r,t,rfl,hr0,nk,tk,w0,w1,k⟩:=h;refine⟨_,Ae (Cz (pv 1) (Co rfl (Al (Ah (i:=2) scTie.nd rfl (Or.inl rfl)) (Al (Ah (i:=3) scTie.nd rfl (Or.inl rfl)) (Al (Ah (i:=4) scTie.nd rfl (Or.inl rfl)) (Al (Ah (i:=5) scTie.nd rfl (Or.inl rfl)) Bf))))))
   (Ae (Bi (PW.pt (pw_or (Bu (Bd (At GName hr (Aa (pv 2) Ac)))) (Ds (Bu (Bd (At GAmount hr (Aa (pv 5) Ac))))))) (Ai (Ao Ch)) A2)
   (Ai (Ao (pe_and (At GPlace hr (Aa (pv 0) (Aa (pv 3) Ac))) (pe_and (At GPlace hr (Aa (pv 0) (Aa (pv 4) Ac))) (pe_one (Bo op_ne (pv 3) (pv 4) (Ay _)))))))),?_⟩
  obtain⟨t1,t2,t3⟩:=tk;refine⟨_,rfl,r,_,rfl,SqT.of hr0,rfl,_,_,rfl,_,_,rfl,_,_,rfl,_,_,rfl,rfl,?_⟩;refine⟨_,rfl,t.1,rfl,nk,λH1 s1=>⟨_,rfl,Ct ?_⟩⟩;refine⟨_,rfl,_,rfl,w0,w1,_,rfl,Ct ?_⟩;dsimp only[Br];refine⟨_,rfl,_,rfl,_,_,rfl,by omega,by omega,_,rfl,iteT ?_⟩;refine⟨_,rfl,_,rfl,_,_,rfl,by omega,by omega,_,rfl,iteT ?_⟩;refine⟨_,rfl,_,rfl,rfl,?_⟩;have:(decide (V.int (t.2.1:Int)=V.int (t.2.2.1:Int)))=false:=decide_eq_false (by intro z;injection z with z;omega);rw[this];exact k H1 s1
theorem scShape:Av ["thing","most","many","rows"] ["thing","most"] (Ag sShape):=⟨rfl,rfl,rfl,by decide+kernel,rfl,by decide+kernel,by decide+kernel⟩
theorem ok_Shape{f:Addr}{fd:FuncData}(F:Fun K "has_shape" "has_shape" sShape f fd)(T:Txt mg)(GWithin:Cl P w K mg base 2 "is_within" ["thing","low","high"] spWithin):
  FnOk P w K mg base CX0 3 f fd ["thing","most"] spShape:=by
 refine F.ok scShape (λvs H Q E h=> ?_) (λcdv A outer s H vs Q E hr h=> ?_)
 ·obtain⟨_,_,_,_,_,rfl,_⟩:=h;rfl
 ·obtain⟨h,tp,N,xs,q,rfl,hh,ht,N1,N24,hl,k⟩:=h;obtain⟨_,hmp⟩:=T.places;refine⟨_,Ae (Bi (PW.pt (pw_or (Bu (Bd (Am Cp (by rfl) T.isinstance (by decide+kernel) (Aa (pv 0) (Aa (pe_ty (T:="tuple") (by rfl) T.tuple (by decide+kernel)) Ac))))) (Ds (Au op_ne (Am As (by rfl) T.len PySem.boot_len (Aa (pv 0) Ac)) Af (Ay _))))) (Ai (Ao Ch)) A2)
   (Ae (Cz (pv 0) (Co rfl (Al (Ah (i:=2) scShape.nd rfl (Or.inl rfl)) (Al (Ah (i:=3) scShape.nd rfl (Or.inl rfl)) Bf))))
   (Ai (Ao (pe_and (At GWithin hr (Aa (pv 2) (Aa Af (Aa (pe_gint (by rfl) hmp) Ac)))) (pe_and (Am Cp (by rfl) T.isinstance (by decide+kernel) (Aa (pv 3) (Aa (pe_ty (T:="tuple") (by rfl) T.tuple (by decide+kernel)) Ac))) (pe_one (Bo op_le (Am As (by rfl) T.len PySem.boot_len (Aa (pv 3) Ac)) (pv 1) (Ay _)))))))),?_⟩
  refine⟨_,rfl,.ref h,.type "tuple","tuple",true,rfl,.tup hh,rfl,_,rfl,Ct ?_⟩;refine⟨_,rfl,h,_,rfl,.inr (SqT.of hh),rfl,_,rfl,Be (λg=>absurd g (by simp)) λ_=> ?_⟩;dsimp only[Br];refine⟨_,rfl,h,_,rfl,SqT.of hh,rfl,_,_,rfl,_,_,rfl,rfl,?_⟩;refine⟨_,rfl,_,1,24,rfl,by omega,by omega,_,rfl,iteT ?_⟩;refine⟨_,rfl,.ref tp,.type "tuple","tuple",true,rfl,.tup ht,rfl,_,rfl,iteT ?_⟩;refine⟨_,rfl,tp,_,rfl,.inr (SqT.of ht),_,rfl,_,_,rfl,rfl,?_⟩;rw[decide_eq_true hl];exact k
theorem scRow:Av ["many","thing"] ["many","thing"] (Ag sRow):=⟨rfl,rfl,rfl,by decide+kernel,rfl,by decide+kernel,by decide+kernel⟩
theorem ok_Row{f:Addr}{fd:FuncData}(F:Fun K "is_row" "is_row" sRow f fd)(T:Txt mg)(GTie:Cl P w K mg base 4 "is_tie" ["many","four"] spTie)(GWithin:Cl P w K mg base 4 "is_within" ["thing","low","high"] spWithin)(GMost:Cl P w K mg base 4 "most_layer" ["many"] spMost):
  FnOk P w K mg base CX0 5 f fd ["many","thing"] spRow:=by
 refine F.ok scRow (λvs H Q E h=> ?_) (λcdv A outer s H vs Q E hr h=> ?_)
 ·obtain⟨_,_,_,rfl,_⟩:=h;rfl
 ·obtain⟨N,r,x,rfl,hr0,⟨nk,tk,⟨w0,w1⟩,hl⟩,N1,N24,k⟩:=h;refine⟨_,Ae (Bi (PW.pt (pw_or (Bu (Bd (Am Cp (by rfl) T.isinstance (by decide+kernel) (Aa (pv 1) (Aa (pe_ty (T:="tuple") (by rfl) T.tuple (by decide+kernel)) Ac))))) (Ds (Au op_ne (Am As (by rfl) T.len PySem.boot_len (Aa (pv 1) Ac)) Af (Ay _))))) (Ai (Ao Ch)) A2)
   (Ai (Ao (pe_and (At GTie hr (Aa (pv 0) (Aa (Cf sl_tupA (pv 1) Dq (Bv Af)) Ac))) (pe_and (At GWithin hr (Aa (A1 Cg (pv 1) Af (λ_ _=>rfl)) (Aa Af (Aa (At GMost hr (Aa (pv 0) Ac)) Ac)))) (pe_one (Am Cp (by rfl) T.isinstance (by decide+kernel) (Aa (A1 Cg (pv 1) Af (λ_ _=>rfl)) (Aa (pe_ty (T:="bool") (by rfl) T.bool (by decide+kernel)) Ac)))))))),?_⟩
  refine⟨_,rfl,.ref r,.type "tuple","tuple",true,rfl,.tup hr0,rfl,_,rfl,Ct ?_⟩;refine⟨_,rfl,r,_,rfl,.inr (SqT.of hr0),rfl,_,rfl,Be (λg=>absurd g (by simp[rowV,tieV])) λ_=> ?_⟩;dsimp only[Br];refine⟨_,rfl,_,rfl,_,rfl,cut_any hr0 λr4 H1 s1 e1=> ?_⟩;rw[show (some (4:Int))=some ((4:Nat):Int) from rfl,cutV_take (by show 4<=6;decide)] at e1;refine⟨N,r4,x.1,rfl,e1,nk,tk,w0,w1,λH2 s2=>⟨_,rfl,iteT ?_⟩⟩;have h2:=s2 _ _ (s1 _ _ hr0);refine⟨_,rfl,r,_,4,_,rfl,rfl,SqT.of h2,Ap (j:=4) rfl,_,rfl,(N:Int),rfl,by omega,by omega,?_⟩;refine⟨_,_,_,rfl,by omega,hl,_,rfl,iteT ?_⟩;exact⟨_,rfl,r,_,5,_,rfl,rfl,SqT.of h2,Ap (j:=5) rfl,.bl x.2.2,.type "bool","bool",true,rfl,.bl _,rfl,k H2 (s1.trans s2)⟩
end
end K39
namespace Wk
open PySem L2
end Wk
namespace K39
open PySem L2 Wk
def tiF(R:List R6)(p:R6->Bool):List T4:=(R.filter p).map (·.1)
theorem mem_ti{R:List R6}{p:R6->Bool}{t:T4}:t∈tiF R p↔∃x∈R,p x=true/\x.1=t:=by
 unfold tiF;rw[List.mem_map];constructor
 ·rintro⟨x,h,e⟩;exact⟨x,(List.mem_filter.mp h).1,(List.mem_filter.mp h).2,e⟩
 ·rintro⟨x,h,g,e⟩;exact⟨x,List.mem_filter.mpr ⟨h,g⟩,e⟩
theorem part_congr{N:Nat}{S S':List T4}(hS:InN N S)(hS':InN N S')(hN:N<=60)(h:∀a b,Reach S a b↔Reach S' a b){p:Nat}(hp:p<N):Ar N S p=Ar N S' p:=by
 have h1:= @A6 S N p;have h2:= @A6 S' N p;unfold Ar at h1 h2 ⊢;refine List.filter_congr λv hv=> ?_;have q1:=h1 (v:=v) hS hp hN;have q2:=h2 (v:=v) hS' hp hN;rw[List.mem_filter] at q1 q2;have:=(q1.trans (and_congr_right λ_=>h p v)).trans q2.symm;rw[Bool.eq_iff_iff];exact⟨λz=>(this.mp ⟨hv,z⟩).2,λz=>(this.mpr ⟨hv,z⟩).2⟩
theorem ls_congr{N:Nat}{S S':List T4}(hS:InN N S)(hS':InN N S')(hN:N<=60)(h:∀a b,Reach S a b↔Reach S' a b):lsF N S=lsF N S':=by
 unfold lsF;refine List.filter_congr λv hv=> ?_;rw[part_congr hS hS' hN h (List.mem_range.mp hv)]
structure LGood(N:Nat)(R:List R6):Prop where
 ok:∀x∈R,RowOk N x
 nd:(R.map (·.1.1)).Nodup
 len:R.length<=60
 same:∀L:Nat,(L:Int)<=lay N->∀a b,Reach (tiF R (frB L)) a b->Reach (tiF R (kpB L)) a b
 size:∀L:Nat,(L:Int)<=lay N->∀p,p<N->((Ar N (tiF R (frB L)) p).length:Int)<=rm N L
 forest:clsF N (tiF R (kpB 0))+(tiF R (kpB 0)).length<=N
theorem LGood.inN{N:Nat}{R:List R6}(h:LGood N R)(p:R6->Bool):InN N (tiF R p):=λt ht=>by
 obtain⟨x,hx,_,rfl⟩:=mem_ti.mp ht;exact⟨(h.ok x hx).2.1.1,(h.ok x hx).2.1.2.1⟩
theorem kp_sub{R:List R6}{L:Nat}:∀t∈tiF R (kpB L),t∈tiF R (frB L):=λt ht=>by
 obtain⟨x,hx,g,rfl⟩:=mem_ti.mp ht;exact mem_ti.mpr ⟨x,hx,(Bool.and_eq_true _ _▸g:_/\_).1,rfl⟩
theorem LGood.iff{N:Nat}{R:List R6}(h:LGood N R){L:Nat}(hL:(L:Int)<=lay N)(a b:Nat):Reach (tiF R (frB L)) a b↔Reach (tiF R (kpB L)) a b:=⟨h.same L hL a b,λq=>q.mono kp_sub⟩
theorem ti_perm{R R':List R6}(p:R'.Perm R)(f:R6->Bool):(tiF R' f).Perm (tiF R f):=(p.filter f).map _
theorem reach_perm{S S':List T4}(p:S'.Perm S)(a b:Nat):Reach S' a b↔Reach S a b:=⟨λh=>h.mono λt ht=>p.mem_iff.mp ht,λh=>h.mono λt ht=>p.mem_iff.mpr ht⟩
theorem LGood.perm{N:Nat}{R R':List R6}(h:LGood N R)(N60:N<=60)(p:R'.Perm R):LGood N R' where
 ok:=λx hx=>h.ok x (p.mem_iff.mp hx)
 nd:=((p.map _).nodup_iff).mpr h.nd
 len:=by rw[p.length_eq];exact h.len
 same:=λL hL a b q=>(reach_perm (ti_perm p _) a b).mpr (h.same L hL a b ((reach_perm (ti_perm p _) a b).mp q))
 size:=λL hL v hv=>by
  have i1:InN N (tiF R' (frB L)):=λt ht=>h.inN (frB L) t ((ti_perm p _).mem_iff.mp ht);rw[part_congr i1 (h.inN _) N60 (λa b=>reach_perm (ti_perm p _) a b) hv];exact h.size L hL v hv
 forest:=by
  rw[cls_congr (R:=tiF R (kpB 0)) λa b _ _=>reach_perm (ti_perm p _) a b,(ti_perm p _).length_eq];exact h.forest
theorem rm_mono{m:Int}{a b:Nat}(m0:0<=m)(h:a<=b):rm m b<=rm m a:=by
 unfold rm;obtain⟨d,rfl⟩:=Nat.exists_eq_add_of_le h;rw[show ((a:Nat):Int).toNat=a by omega,show (((a+d:Nat)):Int).toNat=a+d by omega,Int.pow_add,<-Int.ediv_ediv_of_nonneg (Int.le_of_lt (Int.pow_pos (by decide)))];exact Int.ediv_le_self _ (Int.ediv_nonneg m0 (Int.le_of_lt (Int.pow_pos (by decide))))
theorem ti_snoc{R:List R6}{x:R6}{p:R6->Bool}:tiF (R++[x]) p=tiF R p++(if p x=true then [x.1] else []):=by
 unfold tiF;rw[List.filter_append,List.map_append]
 congr 1
 by_cases g:p x=true
 ·rw[if_pos g,List.filter_cons_of_pos g];rfl
 ·rw[if_neg g,List.filter_cons_of_neg g];rfl
theorem part_two{N:Nat}{S:List T4}{t:T4}(hS:InN N S)(h1:t.2.1<N)(h2:t.2.2.1<N)(hN:N<=60){p:Nat}(hp:p<N):
  (Ar N (S++[t]) p).length<=(Ar N S t.2.1).length+(Ar N S t.2.2.1).length\/Ar N (S++[t]) p=Ar N S p:=by
 have hS':InN N (S++[t]):=λu hu=>by
  rcases List.mem_append.mp hu with q|q
  ·exact hS u q
  ·rw[List.mem_singleton.mp q];exact⟨h1,h2⟩
 by_cases g:Reach S p t.2.1\/Reach S p t.2.2.1
 ·left;have:∀v∈Ar N (S++[t]) p,v∈Ar N S t.2.1++Ar N S t.2.2.1:=λv hv=>by
   obtain⟨vN,r⟩:=(A6 hS' hp hN).mp hv;rw[List.mem_append,A6 hS h1 hN,A6 hS h2 hN];rcases reach_snoc.mp r with r|⟨_,r⟩|⟨_,r⟩
   ·rcases g with g|g
    ·exact .inl ⟨vN,g.symm.trans r⟩
    ·exact .inr ⟨vN,g.symm.trans r⟩
   ·exact .inr ⟨vN,r⟩
   ·exact .inl ⟨vN,r⟩
  have nd:(Ar N (S++[t]) p).Nodup:=(List.nodup_range).sublist List.filter_sublist;rw[<-List.length_append];exact List.Nodup.length_le_of_subset nd this
 ·right;have h1':= @A6 (S++[t]) N p;have h2':= @A6 S N p;unfold Ar at h1' h2' ⊢;refine List.filter_congr λv hv=> ?_;have q1:=h1' (v:=v) hS' hp hN;have q2:=h2' (v:=v) hS hp hN;rw[List.mem_filter] at q1 q2;have e:Reach (S++[t]) p v↔Reach S p v:=by
   rw[reach_snoc];exact⟨λz=>z.elim id λz=>z.elim (λz=>absurd (.inl z.1) g) λz=>absurd (.inr z.1) g,.inl⟩
  have:=(q1.trans (and_congr_right λ_=>e)).trans q2.symm;rw[Bool.eq_iff_iff];exact⟨λz=>(this.mp ⟨hv,z⟩).2,λz=>(this.mpr ⟨hv,z⟩).2⟩
end K39
namespace K39
open PySem L2 Wk
theorem eqs_all{K:PySem.W.Frag}{H:Hp}{n:Nat}{a c:Addr}{xs ys:List V}(h1:SqT K H a xs)(h2:SqT K H c ys)(l:xs.length=ys.length)(h:∀(j:Nat) p q,xs[j]? =some p->ys[j]? =some q->Eqs K H n p q true):Eqs K H (n+1) (.ref a) (.ref c) true:=
 .inr (.inl ⟨a,c,xs,ys,λ_=>true,rfl,rfl,.inl ⟨h1,h2⟩,h,by simp[l]⟩)
theorem eqs_flat{K:PySem.W.Frag}{H:Hp}{n:Nat}{a c:Addr}{xs:List V}(h1:SqT K H a xs)(h2:SqT K H c xs)(h:∀x∈xs,Flt x x=true):Eqs K H (n+1) (.ref a) (.ref c) true:=
 eqs_all h1 h2 rfl λj p q hp hq=>by
  rw[hp] at hq;cases hq;have:=Eqs.flat (K:=K) (H:=H) (n:=n) (h p (List.mem_of_getElem? hp))
  rwa [decide_eq_true rfl] at this
theorem ties_snoc{H:Hp}{qs:List Addr}{S:List T4}{r:Addr}{t:T4}(h:TiesAt H qs S)(hr:H r=some (.tup (tieV t))):TiesAt H (qs++[r]) (S++[t]):=by
 refine⟨by rw[List.length_append,List.length_append,h.1];rfl,λi r0 p0 e1 e2=> ?_⟩;rw[List.getElem?_append] at e1 e2;rw[h.1] at e1;split at e1
 ·rename_i z;rw[if_pos z] at e2;exact h.2 i r0 p0 e1 e2
 ·rename_i z;rw[if_neg z] at e2;have hz:i - S.length=0:=by
   have:=(List.getElem?_eq_some_iff.mp e1).1;simp only[List.length_cons,List.length_nil] at this;omega
  rw[hz] at e1 e2;cases e1;cases e2;exact hr
theorem ties_mono{H H':Hp}{rs:List Addr}{S:List T4}(h:TiesAt H rs S)(f:∀r xs,H r=some (.tup xs)->H' r=some (.tup xs)):TiesAt H' rs S:=⟨h.1,λi r t a b=>f _ _ (h.2 i r t a b)⟩
theorem cut4(x:R6):Dy (rowV x) none (some (4:Int))=tieV x.1:=by
 rw[show (some (4:Int))=some ((4:Nat):Int) from rfl,cutV_take (by show 4<=6;decide)];rfl
theorem ti_take{R:List R6}{j:Nat}{y:R6}(e:R[j]? =some y)(p:R6->Bool):tiF (R.take (j+1)) p=tiF (R.take j) p++(if p y=true then [y.1] else []):=by rw[A4 e,ti_snoc]
theorem ti_len(R:List R6)(p:R6->Bool):(tiF R p).length<=R.length:=by unfold tiF;rw[List.length_map];exact List.length_filter_le _ _
theorem LayAt.mono{H H':Hp}{h:Addr}{N:Nat}{R:List R6}(x:LayAt H h N R)(f:∀r xs,H r=some (.tup xs)->H' r=some (.tup xs)):LayAt H' h N R:=let ⟨tp,rs,a,b,c⟩:=x;⟨tp,rs,f _ _ a,f _ _ b,c.mono f⟩
theorem LayAt.same{H H':Hp}{h:Addr}{N:Nat}{R:List R6}(x:LayAt H h N R)(s:Same H H'):LayAt H' h N R:=x.mono λr xs=>s r (.tup xs)
def rLenX(K:PySem.W.Frag):List V->Hp->VK->Prop:=λxs H Q=>∃p ys,xs=[.ref p]/\(SqL K H p ys\/SqT K H p ys)/\Q (.int ys.length) H
def Up(R:List R6):Prop:=∀(i:Nat) x y,R[i]? =some x->R[i+1]? =some y->x.1.1.cps.toList<y.1.1.cps.toList
def spForm:Sp:=λvs H Q _=>∃(h:Addr) (N:Nat) (R:List R6),vs=[.ref h]/\LayAt H h N R/\R.length<=60/\1<=N/\N<=24/\(∀x∈R,RowOk N x)/\Up R/\∀H',Same H H'->Q (.bl true) H'
def spHolds:Sp:=λvs H Q _=>∃(tp:Addr) (rs:List Addr) (N:Nat) (R:List R6) (L:Nat),vs=[.int (N:Int),.ref tp,.int (L:Int)]/\H tp=some (.tup (rs.map V.ref))/\RowsAt H rs R/\1<=N/\N<=24/\LGood N R/\(L:Int)<=lay N/\∀H',Same H H'->Q (.bl true) H'
def spHold:Sp:=λvs H Q _=>∃(h:Addr) (N:Nat) (R:List R6),vs=[.ref h]/\LayAt H h N R/\1<=N/\N<=24/\LGood N R/\Up R/\∀H',Same H H'->Q (.bl true) H'
section
variable{P:Program}{w:World}{K:PySem.W.Frag}{mg:Str->Option Value}{base:Heap}
theorem scTies:Av ["rows","layer"] ["rows","layer"] (Ag sTies):=⟨rfl,rfl,rfl,by decide+kernel,rfl,by decide+kernel,by decide+kernel⟩
theorem ok_Ties{f:Addr}{fd:FuncData}(F:Fun K "ties_from" "ties_from" sTies f fd)(T:Txt mg):
  FnOk P w K mg base CX0 1 f fd ["rows","layer"] spTies:=by
 refine F.ok scTies (λvs H Q E h=> ?_) (λcdv A outer s H vs Q E hr h=> ?_)
 ·obtain⟨_,_,_,_,rfl,_⟩:=h;rfl
 ·obtain⟨tp,rs,R,L,rfl,ht,hR,lR,k⟩:=h;refine⟨_,Ai (Ao (A5 (T:=["row"]) (F:=["layer"]) (js:=[1]) (cs (osc:=Ag sTies)) rfl (Dm (pv 0)) (λ_ _ _ _ _=>Ah (i:=0) (show (["row","layer"]:List Str).Nodup by decide+kernel) rfl (Or.inl rfl)) (λ_ _ _ _ _=>Ci (Au op_ge (A1 (r:=rIxT K) Cg (pv 0) Af (λ_ _=>rfl)) (pv 1) (Ay _))) (λ_ _ _ _ _=>Cf (r:=rSlTA K) sl_tupA (pv 0) Dq (Bv Af)))),?_⟩;refine⟨_,rfl,tp,rfl,⟨_,SqT.of ht⟩,λD hD=>Cd (K:=K) (a:=tp) (xs:=rs.map V.ref) (λj σ ys H2=>∃(u:Option V) (qs:List Addr),σ=[u,some (.int (L:Int))]/\ys=qs.map V.ref/\Same H H2/\H2 D=some (.lst ys)/\TiesAt H2 qs (tiF (R.take j) (frB L))) ⟨none,[],rfl,rfl,Ad hD,Ab,rfl,λi r t e=>by simp at e⟩ (λj σ ys H2 _ ⟨_,_,_,_,s,e,_⟩=>⟨SqT.of (s _ _ ht),e⟩) ?_ ?_⟩
  ·rintro j x σ ys H2 hx ⟨u,qs,rfl,rfl,s2,d2,p2⟩;obtain⟨r,er,rfl⟩:=Ax hx;obtain⟨y,ey,hy⟩:=hR.get er;have h2:=s2 _ _ hy;have ql:qs.length<=60:=by
    rw[p2.1];exact Nat.le_trans (ti_len _ _) (Nat.le_trans (List.length_take_le' _ _) lR)
   have yes:frB L y=true->tSl (rSlTA K) (tVar 0) tNoPart (tPart (tC (.int 4))) [some (.ref r),some (.int (L:Int))] H2 (λx H3=>H3 D=some (.lst (qs.map V.ref))/\(qs.map V.ref).length<sizeLine/\(∃(u:Option V) (qs':List Addr),[some (.ref r),some (.int (L:Int))]=[u,some (.int (L:Int))]/\qs.map V.ref++[x]=qs'.map V.ref/\Same H (upd H3 D (.lst (qs.map V.ref++[x])))/\upd H3 D (.lst (qs.map V.ref++[x])) D=some (.lst (qs.map V.ref++[x]))/\TiesAt (upd H3 D (.lst (qs.map V.ref++[x]))) qs' (tiF (R.take (j+1)) (frB L)))):=λg=>by
    refine⟨_,rfl,_,rfl,cut_any h2 λr4 H3 s3 e3=> ?_⟩;rw[cut4] at e3;have d3:=s3 _ _ d2;have kp:∀(r:Addr) (zs:List V) (o:HO),H3 r=some (.tup zs)->upd H3 D o r=some (.tup zs):=λr zs o e=>by rw[Aj (Cr e d3 (by intro z;cases z))];exact e
    refine⟨d3,Ak (by rw[List.length_map];omega),_,qs++[r4],rfl,by rw[List.map_append];rfl,Aq (s2.trans s3) hD,Ab,?_⟩;rw[ti_take ey,if_pos g];exact ties_snoc (ties_mono (p2.same s3) λr zs e=>kp r zs _ e) (kp _ _ _ e3)
   have no:¬frB L y=true->(∃(u:Option V) (qs':List Addr),[some (.ref r),some (.int (L:Int))]=[u,some (.int (L:Int))]/\qs.map V.ref=qs'.map V.ref/\Same H H2/\H2 D=some (.lst (qs.map V.ref))/\TiesAt H2 qs' (tiF (R.take (j+1)) (frB L))):=λg=>⟨_,qs,rfl,rfl,s2,d2,by rw[ti_take ey,if_neg g,List.append_nil];exact p2⟩
   refine⟨_,rfl,r,_,4,_,rfl,rfl,SqT.of h2,Ap (j:=4) rfl,_,rfl,_,_,rfl,rfl,_,rfl,?_⟩;refine Be (λc=> ?_) λc=> ?_
   ·have c:L<=y.2.1:=by have:=of_decide_eq_true c;omega
    exact yes (show frB L y=true by simp[frB,c])
   ·have c:¬L<=y.2.1:=λz=>c (decide_eq_true (by omega));exact no (show ¬frB L y=true by simp[frB,c])
  rintro σ ys H2 ⟨u,qs,rfl,rfl,s2,d2,p2⟩;rw[List.length_map,hR.1,List.take_length] at p2;exact k D H2 s2 ⟨qs,d2,p2⟩
theorem scKept:Av ["rows","layer"] ["rows","layer"] (Ag sKept):=⟨rfl,rfl,rfl,by decide+kernel,rfl,by decide+kernel,by decide+kernel⟩
theorem ok_Kept{f:Addr}{fd:FuncData}(F:Fun K "kept_from" "kept_from" sKept f fd)(T:Txt mg):
  FnOk P w K mg base CX0 1 f fd ["rows","layer"] spKept:=by
 refine F.ok scKept (λvs H Q E h=> ?_) (λcdv A outer s H vs Q E hr h=> ?_)
 ·obtain⟨_,_,_,_,rfl,_⟩:=h;rfl
 ·obtain⟨tp,rs,R,L,rfl,ht,hR,lR,k⟩:=h;refine⟨_,Ai (Ao (A5 (T:=["row"]) (F:=["layer"]) (js:=[1]) (cs (osc:=Ag sKept)) rfl (Dm (pv 0)) (λ_ _ _ _ _=>Ah (i:=0) (show (["row","layer"]:List Str).Nodup by decide+kernel) rfl (Or.inl rfl)) (λ_ _ _ _ _=>Ci (PW.pt (pw_and (Au op_ge (A1 (r:=rIxT K) Cg (pv 0) Af (λ_ _=>rfl)) (pv 1) (Ay _)) (pw_and1 (Bd (A1 (r:=rIxT K) Cg (pv 0) Af (λ_ _=>rfl))))))) (λ_ _ _ _ _=>Cf (r:=rSlTA K) sl_tupA (pv 0) Dq (Bv Af)))),?_⟩;refine⟨_,rfl,tp,rfl,⟨_,SqT.of ht⟩,λD hD=>Cd (K:=K) (a:=tp) (xs:=rs.map V.ref) (λj σ ys H2=>∃(u:Option V) (qs:List Addr),σ=[u,some (.int (L:Int))]/\ys=qs.map V.ref/\Same H H2/\H2 D=some (.lst ys)/\TiesAt H2 qs (tiF (R.take j) (kpB L))) ⟨none,[],rfl,rfl,Ad hD,Ab,rfl,λi r t e=>by simp at e⟩ (λj σ ys H2 _ ⟨_,_,_,_,s,e,_⟩=>⟨SqT.of (s _ _ ht),e⟩) ?_ ?_⟩
  ·rintro j x σ ys H2 hx ⟨u,qs,rfl,rfl,s2,d2,p2⟩;obtain⟨r,er,rfl⟩:=Ax hx;obtain⟨y,ey,hy⟩:=hR.get er;have h2:=s2 _ _ hy;have ql:qs.length<=60:=by
    rw[p2.1];exact Nat.le_trans (ti_len _ _) (Nat.le_trans (List.length_take_le' _ _) lR)
   have yes:kpB L y=true->tSl (rSlTA K) (tVar 0) tNoPart (tPart (tC (.int 4))) [some (.ref r),some (.int (L:Int))] H2 (λx H3=>H3 D=some (.lst (qs.map V.ref))/\(qs.map V.ref).length<sizeLine/\(∃(u:Option V) (qs':List Addr),[some (.ref r),some (.int (L:Int))]=[u,some (.int (L:Int))]/\qs.map V.ref++[x]=qs'.map V.ref/\Same H (upd H3 D (.lst (qs.map V.ref++[x])))/\upd H3 D (.lst (qs.map V.ref++[x])) D=some (.lst (qs.map V.ref++[x]))/\TiesAt (upd H3 D (.lst (qs.map V.ref++[x]))) qs' (tiF (R.take (j+1)) (kpB L)))):=λg=>by
    refine⟨_,rfl,_,rfl,cut_any h2 λr4 H3 s3 e3=> ?_⟩;rw[cut4] at e3;have d3:=s3 _ _ d2;have kp:∀(r:Addr) (zs:List V) (o:HO),H3 r=some (.tup zs)->upd H3 D o r=some (.tup zs):=λr zs o e=>by rw[Aj (Cr e d3 (by intro z;cases z))];exact e
    refine⟨d3,Ak (by rw[List.length_map];omega),_,qs++[r4],rfl,by rw[List.map_append];rfl,Aq (s2.trans s3) hD,Ab,?_⟩;rw[ti_take ey,if_pos g];exact ties_snoc (ties_mono (p2.same s3) λr zs e=>kp r zs _ e) (kp _ _ _ e3)
   have no:¬kpB L y=true->(∃(u:Option V) (qs':List Addr),[some (.ref r),some (.int (L:Int))]=[u,some (.int (L:Int))]/\qs.map V.ref=qs'.map V.ref/\Same H H2/\H2 D=some (.lst (qs.map V.ref))/\TiesAt H2 qs' (tiF (R.take (j+1)) (kpB L))):=λg=>⟨_,qs,rfl,rfl,s2,d2,by rw[ti_take ey,if_neg g,List.append_nil];exact p2⟩
   refine⟨_,rfl,r,_,4,_,rfl,rfl,SqT.of h2,Ap (j:=4) rfl,_,rfl,_,_,rfl,rfl,_,rfl,?_⟩;refine Be (λc=> ?_) λc=> ?_
   ·have c:L<=y.2.1:=by have:=of_decide_eq_true c;omega
    refine⟨_,rfl,r,_,5,_,rfl,rfl,SqT.of h2,Ap (j:=5) rfl,_,rfl,?_⟩;refine Be (λc2=> ?_) λc2=> ?_
    ·have c2:y.2.2=true:=c2;refine yes (show kpB L y=true by simp[kpB,c,c2])
    ·have c2:¬y.2.2=true:=c2;exact no (show ¬kpB L y=true by simp[kpB,c2])
   ·have c:¬L<=y.2.1:=λz=>c (decide_eq_true (by omega));exact Ct (no (show ¬kpB L y=true by simp[kpB,c]))
  rintro σ ys H2 ⟨u,qs,rfl,rfl,s2,d2,p2⟩;rw[List.length_map,hR.1,List.take_length] at p2;exact k D H2 s2 ⟨qs,d2,p2⟩
theorem scForm:Av ["thing","many","rows"] ["thing"] (Ag sForm):=⟨rfl,rfl,rfl,by decide+kernel,rfl,by decide+kernel,by decide+kernel⟩
theorem ok_Form{f:Addr}{fd:FuncData}(F:Fun K "has_form" "has_form" sForm f fd)(T:Txt mg)(GShape:Cl P w K mg base 5 "has_shape" ["thing","most"] spShape)(GRow:Cl P w K mg base 5 "is_row" ["many","thing"] spRow):
  FnOk P w K mg base CX0 6 f fd ["thing"] spForm:=by
 refine F.ok scForm (λvs H Q E h=> ?_) (λcdv A outer s H vs Q E hr h=> ?_)
 ·obtain⟨_,_,_,rfl,_⟩:=h;rfl
 ·obtain⟨h,N,R,rfl,⟨tp,rs,hh,ht,hR⟩,lR,N1,N24,ok,up,k⟩:=h;obtain⟨_,hmt⟩:=T.tiesM;refine⟨_,Ae (Bi (Bu (Bd (At GShape hr (Aa (pv 0) (Aa (pe_gint (by rfl) hmt) Ac))))) (Ai (Ao Ch)) A2)
   (Ae (Cz (pv 0) (Co rfl (Al (Ah (i:=1) scForm.nd rfl (Or.inr rfl)) (Al (Ah (i:=2) scForm.nd rfl (Or.inl rfl)) Bf))))
   (Ae (Bi (Bu (Bd (Am (call_all rfl) (by rfl) T.all (by decide+kernel) (Aa (A5 (T:=["row"]) (F:=["many"]) (js:=[1]) (cs (osc:=Ag sForm)) rfl (Dm (pv 2)) (λ_ _ _ _ _=>Ah (i:=0) (show (["row","many"]:List Str).Nodup by decide+kernel) rfl (Or.inl rfl)) (λ_ _ _ _ _=>A8) (λ_ _ _ _ _=>At GRow hr (Aa (pv 1) (Aa (pv 0) Ac)))) Ac)))) (Ai (Ao Ch)) A2)
   (Ai (Ao (Am (call_all rfl) (by rfl) T.all (by decide+kernel) (Aa (A5 (T:=["ahead","row"]) (F:=[]) (js:=[]) (cs (osc:=Ag sForm)) rfl (pi_zip rfl T.zip (Aa (pv 2) (Aa (Cf sl_tupA (pv 2) (Bv Af) Dq) Ac))) (λ_ _ _ _ _=>pg_tupK K 2 rfl rfl (Al (Ah (i:=0) (show (["ahead","row"]:List Str).Nodup by decide+kernel) rfl (Or.inl rfl)) (Al (Ah (i:=1) (show (["ahead","row"]:List Str).Nodup by decide+kernel) rfl (Or.inl rfl)) Bf))) (λ_ _ _ _ _=>A8) (λ_ _ _ _ _=>Bo op_lt_str (A1 (r:=rIxT K) Cg (pv 0) Af (λ_ _=>rfl)) (A1 (r:=rIxT K) Cg (pv 1) Af (λ_ _=>rfl)) (Ay _))) Ac)))))),?_⟩
  refine⟨_,rfl,h,tp,N,_,60,rfl,hh,ht,N1,N24,by rw[List.length_map,hR.1];omega,_,rfl,Ct ?_⟩;dsimp only[Br];refine⟨_,rfl,h,_,rfl,SqT.of hh,rfl,_,_,rfl,_,_,rfl,rfl,?_⟩;refine⟨_,rfl,tp,rfl,⟨_,SqT.of ht⟩,λD hD=>Cd (K:=K) (a:=tp) (xs:=rs.map V.ref) (λj σ ys H2=>∃u:Option V,σ=[u,some (.int (N:Int))]/\ys=(List.replicate j true).map V.bl/\Same H H2/\H2 D=some (.lst ys)) ⟨none,rfl,rfl,Ad hD,Ab⟩ (λj σ ys H2 _ ⟨_,_,_,s,e⟩=>⟨SqT.of (s _ _ ht),e⟩) ?_ ?_⟩
  ·rintro j x σ ys H2 hx ⟨u,rfl,rfl,s2,d2⟩;obtain⟨r,er,rfl⟩:=Ax hx;obtain⟨y,ey,hy⟩:=hR.get er;have jl:j<60:=by have:=(List.getElem?_eq_some_iff.mp ey).1;omega
   refine⟨_,rfl,_,rfl,N,r,y,rfl,s2 _ _ hy,ok y (List.mem_of_getElem? ey),N1,N24,λH3 s3=> ?_⟩;exact⟨s3 _ _ d2,Ak (by rw[List.length_map,List.length_replicate];omega),_,rfl,by rw[List.replicate_succ',List.map_append];rfl,Aq (s2.trans s3) hD,Ab⟩
  rintro σ ys H2 ⟨u,rfl,rfl,s2,d2⟩;refine⟨D,List.replicate _ true,rfl,SqL.of d2,_,rfl,?_⟩;rw[show (List.replicate (rs.map V.ref).length true).all id=true by simp];refine Ct ?_;dsimp only[Br];refine⟨_,rfl,_,rfl,_,rfl,cut_any (s2 _ _ ht) λt2 H3 s3 e3=> ?_⟩;rw[show (some (1:Int))=some ((1:Nat):Int) from rfl,cutV_drop] at e3;have T3:=(s2.trans s3) _ _ ht;refine⟨tp,t2,_,_,rfl,SqT.of T3,SqT.of e3,λE hE=>comp_zip (K:=K) (a:=tp) (b:=t2) (xs:=rs.map V.ref) (ys:=(rs.map V.ref).drop 1) (λj σ ys H4=>∃u v:Option V,σ=[u,v]/\ys=(List.replicate j true).map V.bl/\Same H3 H4/\H4 E=some (.lst ys)) ⟨none,none,rfl,rfl,Ad hE,Ab⟩ (λj σ ys H4 _ _ ⟨_,_,_,_,s,e⟩=>⟨SqT.of (s _ _ T3),SqT.of (s _ _ e3),e⟩) ?_ ?_⟩
  ·rintro j x y σ ys H4 C hx hy ⟨u,v,rfl,rfl,s4,d4⟩ hC;rw[List.getElem?_drop] at hy;obtain⟨r,er,rfl⟩:=Ax hx;obtain⟨r',er',rfl⟩:=Ax hy;obtain⟨z,ez,hz⟩:=hR.get er;obtain⟨z',ez',hz'⟩:=hR.get er';have jl:j<60:=by have:=(List.getElem?_eq_some_iff.mp ez).1;omega
   have s5:=s4.trans (Ad (o:= .tup [.ref r,.ref r']) hC);have C5:=Ab (H:=H4) (a:=C) (o:= .tup [.ref r,.ref r']);have d5:=Ad (o:= .tup [.ref r,.ref r']) hC _ _ d4;generalize upd H4 C (.tup [.ref r,.ref r'])=H5 at s5 C5 d5;have S5:=(s2.trans s3).trans s5;refine⟨C,_,rfl,SqT.of C5,rfl,_,_,rfl,_,_,rfl,rfl,?_⟩;refine⟨_,rfl,r,_,0,_,rfl,rfl,SqT.of (S5 _ _ hz),Ap (j:=0) rfl,_,rfl,r',_,0,_,rfl,rfl,SqT.of (S5 _ _ hz'),Ap (j:=0) rfl,_,_,rfl,rfl,?_⟩;rw[decide_eq_true (up j z z' ez (by rw[Nat.add_comm];exact ez'))];exact⟨d5,Ak (by rw[List.length_map,List.length_replicate];omega),_,_,rfl,by rw[List.replicate_succ',List.map_append];rfl,Aq s5 hE,Ab⟩
  rintro i σ ys H4 _ ⟨u,v,rfl,rfl,s4,d4⟩;refine⟨E,List.replicate _ true,rfl,SqL.of d4,?_⟩;rw[show (List.replicate i true).all id=true by simp];exact k H4 ((s2.trans s3).trans s4)
theorem scHolds:Av ["many","rows","layer","parts"] ["many","rows","layer"] (Ag sHolds):=⟨rfl,rfl,rfl,by decide+kernel,rfl,by decide+kernel,by decide+kernel⟩
theorem ok_Holds{f:Addr}{fd:FuncData}(F:Fun K "holds_at" "holds_at" sHolds f fd)(T:Txt mg)(GParts:Cl P w K mg base 4 "parts_of" ["many","stand"] spParts)(GTies:Cl P w K mg base 4 "ties_from" ["rows","layer"] spTies)(GKept:Cl P w K mg base 4 "kept_from" ["rows","layer"] spKept)(GRoom:Cl P w K mg base 4 "room_at" ["many","layer"] spRoom):
  FnOk P w K mg base CX0 5 f fd ["many","rows","layer"] spHolds:=by
 refine F.ok scHolds (λvs H Q E h=> ?_) (λcdv A outer s H vs Q E hr h=> ?_)
 ·obtain⟨_,_,_,_,_,rfl,_⟩:=h;rfl
 ·obtain⟨tp,rs,N,R,L,rfl,ht,hR,N1,N24,G,hL,k⟩:=h;refine⟨_,Ae (Aw (i:=3) scHolds.nd rfl (Or.inl rfl) (At GParts hr (Aa (pv 0) (Aa (At GTies hr (Aa (pv 1) (Aa (pv 2) Ac))) Ac))))
   (Ae (Bi (Au (op_nes hr.units) (pv 3) (At GParts hr (Aa (pv 0) (Aa (At GKept hr (Aa (pv 1) (Aa (pv 2) Ac))) Ac))) (Ay _)) (Ai (Ao Ch)) A2)
   (Ai (Ao (Am (call_all rfl) (by rfl) T.all (by decide+kernel) (Aa (A5 (T:=["part"]) (F:=["many","layer"]) (js:=[0,2]) (cs (osc:=Ag sHolds)) rfl (Dm (pv 3)) (λ_ _ _ _ _=>Ah (i:=0) (show (["part","many","layer"]:List Str).Nodup by decide+kernel) rfl (Or.inl rfl)) (λ_ _ _ _ _=>A8) (λ_ _ _ _ _=>Bo op_le (Am (r:=rLenX K) As (by rfl) T.len PySem.boot_len (Aa (pv 0) Ac)) (At GRoom hr (Aa (pv 1) (Aa (pv 2) Ac))) (Ay _))) Ac))))),?_⟩
  have N60:N<=60:=by omega
  refine⟨_,rfl,_,rfl,_,rfl,tp,rs,R,L,rfl,ht,hR,G.len,λst H1 s1 h1=> ?_⟩;refine⟨N,st,tiF R (frB L),rfl,.inl h1,G.inN _,N60,Nat.le_trans (ti_len _ _) (by have:=G.len;omega),λp as H2 s2 hp ha=> ?_⟩;have T2:=s2 _ _ (s1 _ _ ht);have R2:=hR.mono λr xs e=>s2 _ _ (s1 _ _ e);refine⟨_,rfl,_,rfl,_,rfl,_,rfl,tp,rs,R,L,rfl,T2,R2,G.len,λsu H3 s3 h3=> ?_⟩;refine⟨N,su,tiF R (kpB L),rfl,.inl h3,G.inN _,N60,Nat.le_trans (ti_len _ _) (by have:=G.len;omega),λq bs H4 s4 hq hb=> ?_⟩;have p4:=s4 _ _ (s3 _ _ hp);have a4:=(ha.mono λr zs e=>s3 _ _ e).mono λr zs e=>s4 _ _ e;have eL:=ls_congr (G.inN (frB L)) (G.inN (kpB L)) N60 (G.iff hL);refine⟨1,true,p,q,rfl,rfl,by decide,?_,_,rfl,Ct ?_⟩
  ·refine eqs_all (SqT.of p4) (SqT.of hq) (by rw[List.length_map,List.length_map,ha.1,hb.1,eL]) λj x y hx hy=> ?_;obtain⟨r,er,rfl⟩:=Ax hx;obtain⟨r',er',rfl⟩:=Ax hy;have jl:j<(lsF N (tiF R (frB L))).length:=by rw[<-ha.1];exact(List.getElem?_eq_some_iff.mp er).1
   have e1:=a4.2 j r _ er (Ck jl);have e2:=hb.2 j r' _ er' (by rw[<-eL];exact Ck jl);rw[<-part_congr (G.inN (frB L)) (G.inN (kpB L)) N60 (G.iff hL) (ls_lt (List.getElem_mem jl))] at e2;refine eqs_flat (SqT.of e1) (SqT.of e2) λx hx=> ?_;obtain⟨i,_,rfl⟩:=List.mem_map.mp hx;rfl
  dsimp only[Br];refine⟨_,rfl,p,rfl,⟨_,SqT.of p4⟩,λD hD=>Cd (K:=K) (a:=p) (xs:=as.map V.ref) (λj σ ys H5=>∃u:Option V,σ=[u,some (.int (N:Int)),some (.int (L:Int))]/\ys=(List.replicate j true).map V.bl/\Same H4 H5/\H5 D=some (.lst ys)) ⟨none,rfl,rfl,Ad hD,Ab⟩ (λj σ ys H2 _ ⟨_,_,_,s,e⟩=>⟨SqT.of (s _ _ p4),e⟩) ?_ ?_⟩
  ·rintro j x σ ys H5 hx ⟨u,rfl,rfl,s5,d5⟩;obtain⟨r,er,rfl⟩:=Ax hx;have jl:j<(lsF N (tiF R (frB L))).length:=by rw[<-ha.1];exact(List.getElem?_eq_some_iff.mp er).1
   have jl2:j<60:=by
    have:(lsF N (tiF R (frB L))).length<=N:=by
     unfold lsF;refine Nat.le_trans (List.length_filter_le _ _) ?_;rw[List.length_range];exact Nat.le_refl _
    omega
   have e1:=s5 _ _ (a4.2 j r _ er (Ck jl));have sz:=G.size L hL _ (ls_lt (List.getElem_mem jl));refine⟨_,rfl,r,_,rfl,.inr (SqT.of e1),_,rfl,_,rfl,(N:Int),(L:Int),rfl,by omega,_,_,rfl,rfl,?_⟩;rw[decide_eq_true (by unfold nV;rw[List.length_map,List.length_map];exact sz)];exact⟨d5,Ak (by rw[List.length_map,List.length_replicate];omega),_,rfl,by rw[List.replicate_succ',List.map_append];rfl,Aq s5 hD,Ab⟩
  rintro σ ys H5 ⟨u,rfl,rfl,s5,d5⟩;refine⟨D,List.replicate _ true,rfl,SqL.of d5,?_⟩;rw[show (List.replicate (as.map V.ref).length true).all id=true by simp];exact k H5 ((((s1.trans s2).trans s3).trans s4).trans s5)
theorem scHold:Av ["thing","many","rows"] ["thing"] (Ag sHold):=⟨rfl,rfl,rfl,by decide+kernel,rfl,by decide+kernel,by decide+kernel⟩
theorem ok_Hold{f:Addr}{fd:FuncData}(F:Fun K "layers_hold" "layers_hold" sHold f fd)(T:Txt mg)(GForm:Cl P w K mg base 6 "has_form" ["thing"] spForm)(GHasR:Cl P w K mg base 6 "has_ring" ["many","stand"] spHasR)(GKept:Cl P w K mg base 6 "kept_from" ["rows","layer"] spKept)(GHolds:Cl P w K mg base 6 "holds_at" ["many","rows","layer"] spHolds)(GMost:Cl P w K mg base 6 "most_layer" ["many"] spMost):
  FnOk P w K mg base CX0 7 f fd ["thing"] spHold:=by
 refine F.ok scHold (λvs H Q E h=> ?_) (λcdv A outer s H vs Q E hr h=> ?_)
 ·obtain⟨_,_,_,rfl,_⟩:=h;rfl
 ·obtain⟨h,N,R,rfl,hl,N1,N24,G,up,k⟩:=h;refine⟨_,Ae (Bi (Bu (Bd (At GForm hr (Aa (pv 0) Ac)))) (Ai (Ao Ch)) A2)
   (Ae (Cz (pv 0) (Co rfl (Al (Ah (i:=1) scHold.nd rfl (Or.inr rfl)) (Al (Ah (i:=2) scHold.nd rfl (Or.inr rfl)) Bf))))
   (Ae (Bi (Bd (At GHasR hr (Aa (pv 1) (Aa (At GKept hr (Aa (pv 2) (Aa Af Ac))) Ac)))) (Ai (Ao Ch)) A2)
   (Ai (Ao (Am (call_all rfl) (by rfl) T.all (by decide+kernel) (Aa (A5 (T:=["layer"]) (F:=["many","rows"]) (js:=[1,2]) (cs (osc:=Ag sHold)) rfl (Bt rfl T.range (Aa (Az Bm (At GMost hr (Aa (pv 1) Ac)) Af) Ac)) (λ_ _ _ _ _=>Ah (i:=0) (show (["layer","many","rows"]:List Str).Nodup by decide+kernel) rfl (Or.inl rfl)) (λ_ _ _ _ _=>A8) (λ_ _ _ _ _=>At GHolds hr (Aa (pv 1) (Aa (pv 2) (Aa (pv 0) Ac))))) Ac)))))),?_⟩
  refine⟨_,rfl,h,N,R,rfl,hl,G.len,N1,N24,G.ok,up,λH1 s1=>⟨_,rfl,Ct ?_⟩⟩;dsimp only[Br];obtain⟨tp,rs,hh,ht,hR⟩:=hl.same s1;refine⟨_,rfl,h,_,rfl,SqT.of hh,rfl,_,_,rfl,_,_,rfl,rfl,?_⟩;refine⟨_,rfl,_,rfl,tp,rs,R,0,rfl,ht,hR,G.len,λst H2 s2 h2=> ?_⟩;refine⟨N,st,tiF R (kpB 0),rfl,h2,G.inN _,by omega,Nat.le_trans (ti_len _ _) (by have:=G.len;omega),λH3 s3=>⟨_,rfl,?_⟩⟩;have fo:=G.forest;rw[<-ls_cls (G.inN (kpB 0)) (by omega)] at fo;rw[decide_eq_false (by omega)];refine Ct ?_;dsimp only[Br];have S3:=s2.trans s3;have l0:=lay_0 (N:Int);have l4:=lay_4 (N:Int);refine⟨_,rfl,(N:Int),rfl,by omega,by omega,_,_,rfl,rfl,lay N+1,rfl,by omega,by omega,λD hD=>Bn (lo:=0) (n:=(lay (N:Int)+1).toNat) (λj σ ys H4=>∃u:Option V,σ=[u,some (.int (N:Int)),some (.ref tp)]/\ys=(List.replicate j true).map V.bl/\Same H3 H4/\H4 D=some (.lst ys)) ⟨none,rfl,rfl,Ad hD,Ab⟩ (λj σ ys H2 _ ⟨_,_,_,s,e⟩=>e) ?_ ?_⟩
  ·rintro j σ ys H4 hj ⟨u,rfl,rfl,s4,d4⟩;have S4:=S3.trans s4;refine⟨_,rfl,_,rfl,_,rfl,tp,rs,N,R,j,by rw[Int.zero_add];rfl,S4 _ _ ht,hR.mono λr xs e=>S4 _ _ e,N1,N24,G,by omega,λH5 s5=> ?_⟩;exact⟨s5 _ _ d4,Ak (by rw[List.length_map,List.length_replicate];omega),_,rfl,by rw[List.replicate_succ',List.map_append];rfl,Aq (s4.trans s5) hD,Ab⟩
  rintro σ ys H4 ⟨u,rfl,rfl,s4,d4⟩;refine⟨D,List.replicate _ true,rfl,SqL.of d4,?_⟩;rw[show (List.replicate (lay (N:Int)+1).toNat true).all id=true by simp];exact k H4 (s1.trans (S3.trans s4))
end
end K39
namespace K39
open PySem L2 Wk
theorem RowsAt.snoc{H:Hp}{rs:List Addr}{R:List R6}{r:Addr}{x:R6}(h:RowsAt H rs R)(hr:H r=some (.tup (rowV x))):RowsAt H (rs++[r]) (R++[x]):=by
 refine⟨by rw[List.length_append,List.length_append,h.1];rfl,λi r0 p0 e1 e2=> ?_⟩;rw[List.getElem?_append] at e1 e2;rw[h.1] at e1;split at e1
 ·rename_i z;rw[if_pos z] at e2;exact h.2 i r0 p0 e1 e2
 ·rename_i z;rw[if_neg z] at e2;have hz:i - R.length=0:=by
   have:=(List.getElem?_eq_some_iff.mp e1).1;simp only[List.length_cons,List.length_nil] at this;omega
  rw[hz] at e1 e2;cases e1;cases e2;exact hr
def Dh(x:R6):List V:=[.int (x.1.2.1:Int),.int (x.1.2.2.1:Int),.int x.1.2.2.2,.int (x.2.1:Int),.bl x.2.2]
def pnOf(q:Addr×R6):Srt.Pn:=(q.1,q.2.1.1,Dh q.2)
theorem pn_ref{rs:List Addr}{R:List R6}(h:rs.length=R.length):((rs.zip R).map pnOf).map Srt.nRef=rs.map V.ref:=by
 rw[List.map_map];have e:(rs.zip R).map Prod.fst=rs:=List.map_fst_zip (Nat.le_of_eq h)
 conv=>rhs;rw[<-e,List.map_map]
 rfl
theorem pn_nm{rs:List Addr}{R:List R6}(h:rs.length=R.length):((rs.zip R).map pnOf).map (·.2.1)=R.map (·.1.1):=by
 rw[List.map_map];have e:(rs.zip R).map Prod.snd=R:=List.map_snd_zip (Nat.le_of_eq h.symm)
 conv=>rhs;rw[<-e,List.map_map]
 rfl
theorem RowsAt.zip{H:Hp}{rs:List Addr}{R:List R6}(h:RowsAt H rs R):∀q∈rs.zip R,H q.1=some (.tup (rowV q.2)):=λq hq=>by
 obtain⟨i,hi,e⟩:=List.getElem_of_mem hq;rw[List.getElem_zip] at e;rw[List.length_zip] at hi;subst e;exact h.2 i _ _ (Ck (by omega)) (Ck (by omega))
theorem RowsAt.unzip{H:Hp}{l:List (Addr×R6)}(h:∀q∈l,H q.1=some (.tup (rowV q.2))):RowsAt H (l.map (·.1)) (l.map (·.2)):=⟨by rw[List.length_map,List.length_map],λi r x e1 e2=>by
 rw[List.getElem?_map] at e1 e2;cases e:l[i]? with
 |none=>rw[e] at e1;cases e1
 |some q=>
  rw[e] at e1 e2;cases e1;cases e2;exact h q (List.mem_of_getElem? e)⟩
theorem str_ext{x y:Str}(h:x.cps.toList=y.cps.toList):x=y:=by
 cases x;cases y;congr 1;exact Array.toList_inj.mp h
def UpP(R:List R6):Prop:=R.Pairwise λx y=>x.1.1.cps.toList<y.1.1.cps.toList
def Bx(R:List R6)(n:Str):List R6:=R.filter λx=> !decide (x.1.1=n)
def spRowOf:Sp:=λvs H Q _=>∃(tp:Addr) (rs:List Addr) (R:List R6) (n:Str),vs=[.ref tp,.str n]/\H tp=some (.tup (rs.map V.ref))/\RowsAt H rs R/\(∀(r:Addr) (x:R6),H r=some (.tup (rowV x))->x∈R->x.1.1=n->Q (.ref r) H)/\(n ∉ R.map (·.1.1)->Q .non H)
def spWithout:Sp:=λvs H Q _=>∃(tp:Addr) (rs:List Addr) (R:List R6) (n:Str),vs=[.ref tp,.str n]/\H tp=some (.tup (rs.map V.ref))/\RowsAt H rs R/\R.length<=60/\∀(tq:Addr) (qs:List Addr) (H':Hp),Same H H'->H' tq=some (.tup (qs.map V.ref))->RowsAt H' qs (Bx R n)->Q (.ref tq) H'
theorem get_mem{R:List R6}{j:Nat}{y:R6}(h:R[j]? =some y):y∈R:=List.mem_of_getElem? h
section
variable{P:Program}{w:World}{K:PySem.W.Frag}{mg:Str->Option Value}{base:Heap}
theorem scRowOf:Av ["rows","name","row"] ["rows","name"] (Ag sRowOf):=⟨rfl,rfl,rfl,by decide+kernel,rfl,by decide+kernel,by decide+kernel⟩
theorem ok_RowOf{f:Addr}{fd:FuncData}(F:Fun K "row_of" "row_of" sRowOf f fd)(T:Txt mg):
  FnOk P w K mg base CX0 1 f fd ["rows","name"] spRowOf:=by
 refine F.ok scRowOf (λvs H Q E h=> ?_) (λcdv A outer s H vs Q E hr h=> ?_)
 ·obtain⟨_,_,_,_,rfl,_⟩:=h;rfl
 ·obtain⟨tp,rs,R,n,rfl,ht,hR,k1,k2⟩:=h;refine⟨_,Ae (Dx PassesOwn.never rfl (Dm (pv 0)) (Ah (i:=2) scRowOf.nd rfl (Or.inl rfl)) (Ai (Bi (Au Dt (A1 Cg (pv 2) Af (λ_ _=>rfl)) (pv 1) (Ay _)) (Ai (Ao (pv 2))) A2)))
   (Ai (Ao pe_non)),?_⟩
  refine⟨_,rfl,tp,rfl,⟨_,SqT.of ht⟩,for_tup (K:=K) (a:=tp) (xs:=rs.map V.ref) (λj σ H2=>∃u:Option V,σ=[some (.ref tp),some (.str n),u]/\H2=H/\n ∉ (R.take j).map (·.1.1)) ⟨none,rfl,rfl,by simp⟩ (λj σ H2 _ ⟨_,_,e,_⟩=>SqT.of (e▸ht)) ?_ ?_⟩
  ·rintro j x σ H2 hx ⟨u,rfl,rfl,hn⟩;obtain⟨r,er,rfl⟩:=Ax hx;obtain⟨y,ey,hy⟩:=hR.get er;refine⟨_,rfl,r,_,0,_,rfl,rfl,SqT.of hy,Ap (j:=0) rfl,_,rfl,rfl,_,rfl,Be (λc=> ?_) λc=> ?_⟩
   ·have c:y.1.1=n:=by simpa using c
    exact⟨_,rfl,k1 r y hy (get_mem ey) c⟩
   ·have c:¬y.1.1=n:=by simpa using c
    refine⟨_,rfl,rfl,?_⟩;rw[List.take_add_one,ey,List.map_append,List.mem_append];rintro(z|z)
    ·exact hn z
    ·exact c (List.mem_singleton.mp z).symm
  rintro σ H2 ⟨u,rfl,rfl,hn⟩;rw[List.length_map,hR.1,List.take_length] at hn;exact k2 hn
theorem scWithout:Av ["rows","name"] ["rows","name"] (Ag sWithout):=⟨rfl,rfl,rfl,by decide+kernel,rfl,by decide+kernel,by decide+kernel⟩
theorem ok_Without{f:Addr}{fd:FuncData}(F:Fun K "rows_without" "rows_without" sWithout f fd)(T:Txt mg):
  FnOk P w K mg base CX0 1 f fd ["rows","name"] spWithout:=by
 refine F.ok scWithout (λvs H Q E h=> ?_) (λcdv A outer s H vs Q E hr h=> ?_)
 ·obtain⟨_,_,_,_,rfl,_⟩:=h;rfl
 ·obtain⟨tp,rs,R,n,rfl,ht,hR,R60,k⟩:=h;refine⟨_,Ai (Ao (A3 Bp (by rfl) T.tuple (by decide+kernel) (Aa (A5 (T:=["row"]) (F:=["name"]) (js:=[1]) (cs (osc:=Ag sWithout)) rfl (Dm (pv 0)) (λ_ _ _ _ _=>Ah (i:=0) (show (["row","name"]:List Str).Nodup by decide+kernel) rfl (Or.inl rfl)) (λ_ _ _ _ _=>Ci (Au op_ne (A1 (r:=rIxT K) Cg (pv 0) Af (λ_ _=>rfl)) (pv 1) (Ay _))) (λ_ _ _ _ _=>pv 0)) Ac))),?_⟩;refine⟨_,rfl,tp,rfl,⟨_,SqT.of ht⟩,λD hD=>Cd (K:=K) (a:=tp) (xs:=rs.map V.ref) (λj σ ys H2=>∃(u:Option V) (qs:List Addr),σ=[u,some (.str n)]/\ys=qs.map V.ref/\Same H H2/\H2 D=some (.lst ys)/\RowsAt H2 qs (Bx (R.take j) n)) ⟨none,[],rfl,rfl,Ad hD,Ab,rfl,λi r t e=>by simp at e⟩ (λj σ ys H2 _ ⟨_,_,_,_,s,e,_⟩=>⟨SqT.of (s _ _ ht),e⟩) ?_ ?_⟩
  ·rintro j x σ ys H2 hx ⟨u,qs,rfl,rfl,s2,d2,p2⟩;obtain⟨r,er,rfl⟩:=Ax hx;obtain⟨y,ey,hy⟩:=hR.get er;have h2:=s2 _ _ hy;have ql:qs.length<=60:=by
    rw[p2.1];refine Nat.le_trans (List.length_filter_le _ _) ?_;rw[List.length_take];omega
   have tk:R.take (j+1)=R.take j++[y]:=by rw[List.take_add_one,ey];rfl
   refine⟨_,rfl,r,_,0,_,rfl,rfl,SqT.of h2,Ap (j:=0) rfl,_,rfl,rfl,_,rfl,Be (λc=> ?_) λc=> ?_⟩
   ·have c:¬y.1.1=n:=by simpa using c
    have kp:∀(r:Addr) (zs:List V) (o:HO),H2 r=some (.tup zs)->upd H2 D o r=some (.tup zs):=λr zs o e=>by rw[Aj (Cr e d2 (by intro z;cases z))];exact e
    refine⟨_,rfl,d2,Ak (by rw[List.length_map];omega),_,qs++[r],rfl,by rw[List.map_append];rfl,Aq s2 hD,Ab,?_⟩;rw[tk];unfold Bx;rw[List.filter_append,List.filter_cons_of_pos (by simpa using c)];exact(p2.mono λr zs e=>kp r zs _ e).snoc (kp _ _ _ h2)
   ·have c:y.1.1=n:=by simpa using c
    refine⟨_,qs,rfl,rfl,s2,d2,?_⟩;rw[tk];unfold Bx;rw[List.filter_append,List.filter_cons_of_neg (by simpa using c),List.filter_nil,List.append_nil];exact p2
  rintro σ ys H2 ⟨u,qs,rfl,rfl,s2,d2,p2⟩;rw[List.length_map,hR.1,List.take_length] at p2;refine⟨D,_,rfl,.inl ⟨SqL.of d2,λtq htq=> ?_⟩⟩;exact k tq qs _ (s2.trans (Ad htq)) Ab (p2.mono λr zs e=>Ad htq _ _ e)
end
end K39
namespace K39
open PySem L2 Wk
theorem cut_ints{ns:List Int}{lo hi:Option Int}:∃ms:List Int,Dy (ns.map V.int) lo hi=ms.map V.int/\ms.length<=ns.length:=by
 unfold Dy;rw[List.length_map];exact⟨_,by rw[<-List.map_drop,<-List.map_take],by simp;omega⟩
def kd(c:Addr)(S k g:Int):List (Key×V):=[(.inr "cells",.ref c),(.inr "seed",.int S),(.inr "turn",.int k),(.inr "great",.int g)]
theorem kd_c(c:Addr)(S k g:Int):valV (kd c S k g) (.inr "cells")=some (.ref c):=by
 unfold kd;rfl
theorem kd_s(c:Addr)(S k g:Int):valV (kd c S k g) (.inr "seed")=some (.int S):=by
 unfold kd;rfl
theorem kd_k(c:Addr)(S k g:Int):valV (kd c S k g) (.inr "turn")=some (.int k):=by
 unfold kd;rfl
theorem kd_g(c:Addr)(S k g:Int):valV (kd c S k g) (.inr "great")=some (.int g):=by
 unfold kd;rfl
theorem kd_putk(c:Addr)(S k g z:Int):putK (kd c S k g) (.inr "turn") (.int z)=kd c S z g:=by
 unfold kd;rfl
theorem kd_putg(c:Addr)(S k g z:Int):putK (kd c S k g) (.inr "great") (.int z)=kd c S k z:=by
 unfold kd;rfl
theorem kd_new(c:Addr)(S k g:Int):mergeK [] [(.inr "cells",.ref c),(.inr "seed",.int S),(.inr "turn",.int k),(.inr "great",.int g)]=kd c S k g:=by
 unfold kd;rfl
def DeckAt(H:Hp)(d c:Addr):Prop:=∃(cs:List Int) (S k g:Int),H d=some (.dK (kd c S k g))/\H c=some (.lst (cs.map V.int))/\cs.length<=63/\d≠c
def But(d c:Addr)(H H':Hp):Prop:=∀b o,H b=some o->b≠d->b≠c->H' b=some o
theorem But.trans{d c:Addr}{H H1 H2:Hp}(h:But d c H H1)(h':But d c H1 H2):But d c H H2:=λb o e n1 n2=>h' b o (h b o e n1 n2) n1 n2
theorem But.tup{d c:Addr}{H H':Hp}(h:But d c H H')(D:DeckAt H d c){b:Addr}{xs:List V}(e:H b=some (.tup xs)):H' b=some (.tup xs):=by
 obtain⟨_,_,_,_,h1,h2,_⟩:=D;exact h b _ e (λz=>by rw[z,h1] at e;cases e) λz=>by rw[z,h2] at e;cases e
theorem DeckAt.same{H H':Hp}{d c:Addr}(h:DeckAt H d c)(s:Same H H'):DeckAt H' d c:=by
 obtain⟨cs,S,k,g,h1,h2,r⟩:=h;exact⟨cs,S,k,g,s _ _ h1,s _ _ h2,r⟩
theorem DeckAt.nd{H:Hp}{d c b:Addr}(h:DeckAt H d c)(e:H b=none):b≠d:=by
 obtain⟨_,_,_,_,h1,_⟩:=h;exact(An h1 e).symm
theorem DeckAt.nc{H:Hp}{d c b:Addr}(h:DeckAt H d c)(e:H b=none):b≠c:=by
 obtain⟨_,_,_,_,_,h2,_⟩:=h;exact(An h2 e).symm
theorem But.of{d c:Addr}{H H':Hp}(s:Same H H'):But d c H H':=λb o e _ _=>s b o e
def spDeck(K:PySem.W.Frag):Sp:=λvs H Q _=>∃(s:Addr) (ns:List Int),vs=[.ref s]/\SqL K H s (ns.map V.int)/\ns.length<=63/\∀(d c:Addr) (H':Hp),Same H H'->DeckAt H' d c->Q (.ref d) H'
def spMixed:Sp:=λvs H Q _=>∃c k:Int,vs=[.int c,.int k]/\∀v,Q (.int v) H
def spTake:Sp:=λvs H Q _=>∃(d c:Addr) (m:Int),vs=[.ref d,.int m]/\DeckAt H d c/\0<m/\m<1073741824/\∀(v:Int) (H':Hp),0<=v->v<m->But d c H H'->DeckAt H' d c->Q (.int v) H'
def spMany:Sp:=λvs H Q _=>∃d c:Addr,vs=[.ref d]/\DeckAt H d c/\∀(N:Nat) (H':Hp),1<=N->N<=24->But d c H H'->DeckAt H' d c->Q (.int (N:Int)) H'
def spWeight:Sp:=λvs H Q _=>∃d c:Addr,vs=[.ref d]/\DeckAt H d c/\∀(v:Int) (H':Hp),0<=v->v<=1000000000->But d c H H'->DeckAt H' d c->Q (.int v) H'
section
variable{P:Program}{w:World}{K:PySem.W.Frag}{mg:Str->Option Value}{base:Heap}
theorem scMixed:Av ["_law_cell","_law_turn","_law_number"] ["_law_cell","_law_turn"] (Ag sMixed):=⟨rfl,rfl,rfl,by decide+kernel,rfl,by decide+kernel,by decide+kernel⟩
theorem ok_Mixed{f:Addr}{fd:FuncData}(F:Fun K "_law_mixed" "_law_mixed" sMixed f fd)(T:Txt mg):
  FnOk P w K mg base CX0 1 f fd ["_law_cell","_law_turn"] spMixed:=by
 refine F.ok scMixed (λvs H Q E h=> ?_) (λcdv A outer s H vs Q E hr h=> ?_)
 ·obtain⟨_,_,rfl,_⟩:=h;rfl
 ·obtain⟨c,k0,rfl,k⟩:=h;refine⟨_,Ae (Aw (i:=2) scMixed.nd rfl (Or.inl rfl) (Az op_mod (Az op_mul (Az Bm (Az Bm (Az op_mod (pv 0) Af) (Az op_mul Af (pv 1))) Af) Af) Af))
   (Ae (Aw (i:=2) scMixed.nd rfl (Or.inl rfl) (Az op_mod (Az Bm (Az Bm (Az op_mul (pv 2) (pv 2)) (Az op_mul Af (pv 1))) (pv 2)) Af))
   (Ai (Ao (Az op_fdiv (pv 2) Af)))),?_⟩
  refine⟨_,rfl,_,_,rfl,rfl,(show (0:Int)<2147483647 by decide),_,rfl,_,_,rfl,rfl,.inl ⟨by decide,by decide⟩,_,_,rfl,rfl,_,_,rfl,rfl,_,_,rfl,rfl,.inr ⟨by decide,by decide⟩,_,_,rfl,rfl,(show (0:Int)<2147483629 by decide),?_⟩;dsimp only;generalize (c % 2147483647+16807 * k0+3) * 48271=z1;have y0:=Int.emod_nonneg z1 (show (2147483629:Int)≠0 by decide);have y1:=Int.emod_lt_of_pos z1 (show (0:Int)<2147483629 by decide);generalize z1 % 2147483629=z2 at y0 y1;refine⟨_,rfl,_,rfl,_,_,rfl,rfl,.inl ⟨by omega,by omega⟩,_,rfl,_,_,rfl,rfl,.inl ⟨by decide,by decide⟩,_,_,rfl,rfl,_,rfl,_,_,rfl,rfl,_,_,rfl,rfl,(show (0:Int)<2147483587 by decide),?_⟩;exact⟨_,rfl,_,_,rfl,rfl,⟨by decide,by decide⟩,k _⟩
theorem scDeck:Av ["_law_script","_law_cells","_law_seed"] ["_law_script"] (Ag sDeck):=⟨rfl,rfl,rfl,by decide+kernel,rfl,by decide+kernel,by decide+kernel⟩
theorem ok_Deck{f:Addr}{fd:FuncData}(F:Fun K "_law_deck" "_law_deck" sDeck f fd)(T:Txt mg):
  FnOk P w K mg base CX0 1 f fd ["_law_script"] (spDeck K):=by
 refine F.ok scDeck (λvs H Q E h=> ?_) (λcdv A outer s H vs Q E hr h=> ?_)
 ·obtain⟨_,_,rfl,_⟩:=h;rfl
 ·obtain⟨s,ns,rfl,hS,hl,k⟩:=h;refine⟨_,Ae (Aw (i:=1) scDeck.nd rfl (Or.inl rfl) (A3 call_list_of (by rfl) T.list (by decide+kernel) (Aa (Cf sl_list (pv 0) Dq (Bv Af)) Ac)))
   (Ae (Aw (i:=2) scDeck.nd rfl (Or.inl rfl) (Az Bm (Am (call_sum rfl) (by rfl) T.sum PyProof.Rows.boot_sum (Aa (A5 (T:=["_law_cell"]) (F:=[]) (js:=[]) (cs (osc:=Ag sDeck)) rfl (Ce (pv 1)) (λ_ _ _ _ _=>Ah (i:=0) (show (["_law_cell"]:List Str).Nodup by decide+kernel) rfl (Or.inl rfl)) (λ_ _ _ _ _=>A8) (λ_ _ _ _ _=>Az op_mod (pv 0) Af)) Ac)) (Az op_mul Af (Am As (by rfl) T.len PySem.boot_len (Aa (pv 1) Ac)))))
   (Ai (Ao (pe_disp (pps_cons Cu (pe_rev (pv 1) (Bv (pe_un un_neg Af)) (λo i=>[o,i]) (λ_ _=>by with_unfolding_all rfl)) (pps_cons Cu (pv 2) (pps_cons Cu Af (pps_cons Cu Af pps_nil)))) rfl rfl (by simp) (by simp))))),?_⟩
  obtain⟨ms,em,lm⟩:=cut_ints (ns:=ns) (lo:=none) (hi:=some 63);refine⟨_,rfl,_,rfl,s,_,rfl,hS,λq hq=> ?_⟩;rw[em];have s1:=Ad (o:= .lst (ms.map V.int)) hq;have q1:=Ab (H:=H) (a:=q) (o:= .lst (ms.map V.int));generalize upd H q (.lst (ms.map V.int))=H1 at s1 q1;refine⟨q,_,rfl,.inl (SqL.of q1),λcl hc=> ?_⟩;have s2:=s1.trans (Ad (o:= .lst (ms.map V.int)) hc);have c2:=Ab (H:=H1) (a:=cl) (o:= .lst (ms.map V.int));generalize upd H1 cl (.lst (ms.map V.int))=H2 at s2 c2;refine⟨_,rfl,cl,rfl,⟨_,SqL.of c2⟩,λD hD=>Cj (K:=K) (a:=cl) (xs:=ms.map V.int) (λj σ ys H3=>∃(u:Option V) (zs:List Int),σ=[u]/\ys=zs.map V.int/\Same H2 H3/\H3 D=some (.lst ys)/\zs.length=j) ⟨none,[],rfl,rfl,Ad hD,Ab,rfl⟩ (λj σ ys H3 _ ⟨_,_,_,_,s,e,_⟩=>⟨SqL.of (s _ _ c2),e⟩) ?_ ?_⟩
  ·rintro j x σ ys H3 hx ⟨u,zs,rfl,rfl,s3,d3,zl⟩;have jl:j<ms.length:=by have:=(List.getElem?_eq_some_iff.mp hx).1;rwa [List.length_map] at this
   obtain⟨c,hc,rfl⟩:=Ax hx;exact⟨_,rfl,_,_,rfl,rfl,(by show (0:Int)<1000003;decide),d3,Ak (by simp;omega),_,zs++[c % 1000003],rfl,by simp,Aq s3 hD,Ab,by simp[zl]⟩
  rintro σ ys H3 ⟨u,zs,rfl,rfl,s3,d3,zl⟩;have c3:=s3 _ _ c2;refine⟨D,zs,rfl,SqL.of d3,_,rfl,cl,_,rfl,.inl (SqL.of c3),_,_,rfl,rfl,.inl ⟨by decide,by decide⟩,_,_,rfl,rfl,?_⟩;refine λd hd=> ?_;have s4:=Ad (o:= .dK []) hd;have d4:=Ab (H:=H3) (a:=d) (o:= .dK []);have S4:=(s2.trans s3).trans s4;have dn:H d=none:=none_of (s2.trans s3) hd;generalize upd H3 d (.dK [])=H4 at s4 d4 S4;refine⟨_,rfl,_,rfl,_,rfl,rfl,cl,_,rfl,SqL.of (s4 _ _ c3),λp hp=> ?_⟩;have s5:=Ad (o:= .lst (ms.map V.int).reverse) hp;have p5:=Ab (H:=H4) (a:=p) (o:= .lst (ms.map V.int).reverse);have dp:d≠p:=An d4 hp;generalize upd H4 p (.lst (ms.map V.int).reverse)=H5 at s5 p5;refine⟨_,rfl,s5 _ _ d4,[(.inr "cells",.ref p),(.inr "seed",.int (zs.sum+7 * ((ms.map V.int).length:Int))),(.inr "turn",.int 0),(.inr "great",.int 0)],rfl,by simp,?_⟩;rw[kd_new];have S5:=S4.trans s5;refine k d p _ (λb o e=> ?_) ⟨ms.reverse,_,0,0,Ab,by rw[Aj dp.symm,p5,List.map_reverse],by simp;omega,dp⟩;rw[Aj (An e dn)];exact S5 _ _ e
theorem scTake:Av ["_law_deck_here","_law_most","_law_cell"] ["_law_deck_here","_law_most"] (Ag sTake):=⟨rfl,rfl,rfl,by decide+kernel,rfl,by decide+kernel,by decide+kernel⟩
theorem ok_Take{f:Addr}{fd:FuncData}(F:Fun K "_law_take" "_law_take" sTake f fd)(T:Txt mg)(GMixed:Cl P w K mg base 1 "_law_mixed" ["_law_cell","_law_turn"] spMixed):
  FnOk P w K mg base CX0 2 f fd ["_law_deck_here","_law_most"] spTake:=by
 refine F.ok scTake (λvs H Q E h=> ?_) (λcdv A outer s H vs Q E hr h=> ?_)
 ·obtain⟨_,_,_,rfl,_⟩:=h;rfl
 ·obtain⟨d,c,m,rfl,⟨cs,S,k0,g0,hd,hc,cl,ndc⟩,m0,m1,k⟩:=h;refine⟨_,Ae (Bi (Au op_gt (Cn (hu_of hr) (pv 0) Cu (λ_ _=>rfl)) Af (Ay _)) (Ae (Aw (i:=2) scTake.nd rfl (Or.inl rfl) (Cn (hu_of hr) (pv 0) Cu (λ_ _=>rfl)))
   (Ae (ps_dput (hu_of hr) (pv 0) Cu (Az op_fdiv (pv 2) (pv 1)) rfl)
   (Ai (Ao (Az op_mod (pv 2) (pv 1)))))) A2)
   (Ae (ps_dput (hu_of hr) (pv 0) Cu (Az Bm (Cn (hu_of hr) (pv 0) Cu (λ_ _=>rfl)) Af) rfl)
   (Ae (Aw (i:=2) scTake.nd rfl (Or.inl rfl) (Cn (hu_of hr) (pv 0) Cu (λ_ _=>rfl)))
   (Ae (Bi (Au (op_neNil hr.units) (Cn (hu_of hr) (pv 0) Cu (λ_ _=>rfl)) (Cm Ac) (Ay _)) (Ai (Aw (i:=2) scTake.nd rfl (Or.inl rfl) (pe_bm0 PySem.F.plainAttrs_list PySem.F.slot_list_pop PySem.F.type_list_pop mt_pop (Cn (hu_of hr) (pv 0) Cu (λ_ _=>rfl))))) A2)
   (Ae (Bi (Au op_ge (pv 2) (Az op_pow Af Af) (Ay _)) (Ae (ps_dput (hu_of hr) (pv 0) Cu (Az op_fdiv (pv 2) (pv 1)) rfl)
   (Ai (Ao (Az op_mod (pv 2) (pv 1))))) A2)
   (Ai (Ao (Az op_mod (At GMixed hr (Aa (pv 2) (Aa (Cn (hu_of hr) (pv 0) Cu (λ_ _=>rfl)) Ac))) (pv 1)))))))),?_⟩
  have last:∀(v:Int) (H':Hp),But d c H H'->DeckAt H' d c->Q (.int (v % m)) H':=λv H' b e=>k _ _ (Int.emod_nonneg _ (by omega)) (Int.emod_lt_of_pos _ m0) b e;refine⟨_,rfl,d,_,rfl,kd_g c S k0 g0▸DGet.k (k:= .inr "great") hd,_,_,rfl,rfl,_,rfl,Be (λg=> ?_) λg=> ?_⟩
  ·refine⟨_,rfl,d,_,rfl,kd_g c S k0 g0▸DGet.k (k:= .inr "great") hd,?_⟩;refine⟨_,rfl,_,rfl,_,_,rfl,rfl,⟨m0,by omega⟩,_,rfl,d,_,rfl,.inl ⟨_,.inr "great",hd,rfl,Ak (by simp[kd]),rfl⟩,?_⟩;rw[kd_putg];exact⟨_,rfl,_,rfl,_,_,rfl,rfl,m0,last g0 _ (λb o e n1 n2=>by rw[Aj n1];exact e) ⟨cs,_,_,_,Ab,by rw[Aj ndc.symm];exact hc,cl,ndc⟩⟩
  dsimp only[Br];refine⟨_,rfl,d,_,rfl,kd_k c S k0 g0▸DGet.k (k:= .inr "turn") hd,_,_,rfl,rfl,_,rfl,d,_,rfl,.inl ⟨_,.inr "turn",hd,rfl,Ak (by simp[kd]),rfl⟩,?_⟩;rw[kd_putk];have d1:=Ab (H:=H) (a:=d) (o:= .dK (kd c S (k0+1) g0));have c1:upd H d (.dK (kd c S (k0+1) g0)) c=some (.lst (cs.map V.int)):=by rw[Aj ndc.symm];exact hc
  have b1:But d c H (upd H d (.dK (kd c S (k0+1) g0))):=λb o e n1 n2=>by rw[Aj n1];exact e
  generalize upd H d (.dK (kd c S (k0+1) g0))=H1 at d1 c1 b1;refine⟨_,rfl,d,_,rfl,kd_s c S (k0+1) g0▸DGet.k (k:= .inr "seed") d1,?_⟩;refine⟨_,rfl,d,_,rfl,kd_c c S (k0+1) g0▸DGet.k (k:= .inr "cells") d1,small (by simp),λq hq=> ?_⟩;have s2:=Ad (o:= .lst []) hq;have q2:=Ab (H:=H1) (a:=q) (o:= .lst []);generalize upd H1 q (.lst [])=H2 at s2 q2;have d2:=s2 _ _ d1;have c2:=s2 _ _ c1;have b2:But d c H H2:=λb o e n1 n2=>s2 _ _ (b1 b o e n1 n2);refine⟨c,q,_,rfl,rfl,SqL.of c2,SqL.of q2,_,rfl,Be (λg1=> ?_) λg1=> ?_⟩
  ·have g1:cs≠[]:=λz=>by subst z;simp at g1
   obtain⟨cs',x,rfl⟩:∃cs' x,cs=cs'++[x]:=⟨cs.dropLast,cs.getLast g1,(List.dropLast_concat_getLast g1).symm⟩
   have lc:cs'.length<=63:=by simp at cl;omega
   refine⟨_,rfl,d,_,rfl,kd_c c S (k0+1) g0▸DGet.k (k:= .inr "cells") d2,?_⟩;refine⟨.inl ⟨rfl,_,SqL.of c2⟩,c,_,.int x,rfl,rfl,c2,by simp,?_⟩;generalize hH3:upd H2 c _=H3;have c3:H3 c=some (.lst (cs'.map V.int)):=by
    rw[<-hH3,Ab,List.map_append,List.map_cons,List.map_nil,List.dropLast_concat]
   have d3:H3 d=some (.dK (kd c S (k0+1) g0)):=by rw[<-hH3,Aj ndc];exact d2
   have b3:But d c H H3:=λb o e n1 n2=>by rw[<-hH3,Aj n2];exact b2 b o e n1 n2
   clear hH3;have b3:But d c H H3:=b3;refine⟨_,rfl,_,_,rfl,rfl,⟨by decide,by decide,by decide⟩,_,_,rfl,rfl,_,rfl,Be (λg=> ?_) λg=> ?_⟩
   ·refine⟨_,rfl,_,rfl,_,_,rfl,rfl,⟨m0,by omega⟩,_,rfl,d,_,rfl,.inl ⟨_,.inr "great",d3,rfl,Ak (by simp[kd]),rfl⟩,?_⟩;rw[kd_putg];exact⟨_,rfl,_,rfl,_,_,rfl,rfl,m0,last x _ (λb o e n1 n2=>by rw[Aj n1];exact b3 b o e n1 n2) ⟨cs',_,_,_,Ab,by rw[Aj ndc.symm];exact c3,lc,ndc⟩⟩
   ·dsimp only[Br];exact⟨_,rfl,_,rfl,d,_,rfl,kd_k c S (k0+1) g0▸DGet.k (k:= .inr "turn") d3,_,_,rfl,λv=>⟨_,rfl,_,_,rfl,rfl,m0,last v _ b3 ⟨cs',_,_,_,d3,c3,lc,ndc⟩⟩⟩
  ·dsimp only[Br];have lc:=cl;have d3:=d2;have c3:=c2;have b3:=b2;generalize H2=H3 at *;generalize cs=cs' at *;have b3:But d c H H3:=b3;refine⟨_,rfl,_,_,rfl,rfl,⟨by decide,by decide,by decide⟩,_,_,rfl,rfl,_,rfl,Be (λg=> ?_) λg=> ?_⟩
   ·refine⟨_,rfl,_,rfl,_,_,rfl,rfl,⟨m0,by omega⟩,_,rfl,d,_,rfl,.inl ⟨_,.inr "great",d3,rfl,Ak (by simp[kd]),rfl⟩,?_⟩;rw[kd_putg];exact⟨_,rfl,_,rfl,_,_,rfl,rfl,m0,last _ _ (λb o e n1 n2=>by rw[Aj n1];exact b3 b o e n1 n2) ⟨cs',_,_,_,Ab,by rw[Aj ndc.symm];exact c3,lc,ndc⟩⟩
   ·dsimp only[Br];exact⟨_,rfl,_,rfl,d,_,rfl,kd_k c S (k0+1) g0▸DGet.k (k:= .inr "turn") d3,_,_,rfl,λv=>⟨_,rfl,_,_,rfl,rfl,m0,last v _ b3 ⟨cs',_,_,_,d3,c3,lc,ndc⟩⟩⟩
theorem scMany:Av ["_law_deck_here","_law_way"] ["_law_deck_here"] (Ag sMany):=⟨rfl,rfl,rfl,by decide+kernel,rfl,by decide+kernel,by decide+kernel⟩
theorem ok_Many{f:Addr}{fd:FuncData}(F:Fun K "_law_many" "_law_many" sMany f fd)(T:Txt mg)(GTake:Cl P w K mg base 2 "_law_take" ["_law_deck_here","_law_most"] spTake):
  FnOk P w K mg base CX0 3 f fd ["_law_deck_here"] spMany:=by
 refine F.ok scMany (λvs H Q E h=> ?_) (λcdv A outer s H vs Q E hr h=> ?_)
 ·obtain⟨_,_,rfl,_⟩:=h;rfl
 ·obtain⟨d,c,rfl,hD,k⟩:=h;refine⟨_,Ae (Aw (i:=1) scMany.nd rfl (Or.inl rfl) (At GTake hr (Aa (pv 0) (Aa Af Ac))))
   (Ae (Bi (Au Dt (pv 1) Af (Ay _)) (Ai (Ao Af)) A2)
   (Ae (Bi (Au Dt (pv 1) Af (Ay _)) (Ai (Ao (Az Bm Af (At GTake hr (Aa (pv 0) (Aa Af Ac)))))) A2)
   (Ai (Ao (Az Bm Af (At GTake hr (Aa (pv 0) (Aa (A1 A0 (Cm (Aa Af (Aa Af Ac))) (A3 call_int1 (by rfl) T.int (by decide+kernel) (Aa (Bo op_gt (pv 1) Af (Ay _)) Ac)) (λ_ _=>rfl)) Ac)))))))),?_⟩
  refine⟨_,rfl,d,c,8,rfl,hD,by decide,by decide,λv H1 v0 v1 b1 D1=> ?_⟩;refine⟨_,rfl,rfl,_,rfl,Be (λg=> ?_) λg=> ?_⟩
  ·exact k 24 _ (by decide) (by decide) b1 D1
  dsimp only[Br];refine⟨_,rfl,rfl,_,rfl,Be (λg=> ?_) λg=> ?_⟩
  ·refine⟨_,rfl,d,c,4,rfl,D1,by decide,by decide,λw H2 w0 w1 b2 D2=>⟨_,_,rfl,rfl,?_⟩⟩;obtain⟨w,rfl⟩:=Cs w0;have q:=k (1+w) _ (by omega) (by omega) (b1.trans b2) D2;rw[show ((1+w:Nat):Int)=1+(w:Int) by omega] at q;exact q
  dsimp only[Br];refine⟨_,rfl,small (by simp),λl hl=> ?_⟩;have s2:=Ad (o:= .lst [.int 7,.int 15]) hl;have l2:=Ab (H:=H1) (a:=l) (o:= .lst [.int 7,.int 15]);generalize upd H1 l (.lst [.int 7,.int 15])=H2 at s2 l2;have fin:∀m:Int,0<m->m<=15->∀(w:Int) (H':Hp),0<=w->w<m->But d c H2 H'->DeckAt H' d c->Q (.int (2+w)) H':=λm m0 m1 w H' w0 w1 b2 D2=>by
   obtain⟨w,rfl⟩:=Cs w0;have q:=k (2+w) _ (by omega) (by omega) ((b1.trans (But.of s2)).trans b2) D2;rw[show ((2+w:Nat):Int)=2+(w:Int) by omega] at q;exact q
  refine⟨_,rfl,_,_,rfl,rfl,.inr ⟨_,rfl,?_⟩⟩;by_cases g3:(5:Int)<v
  ·rw[decide_eq_true g3];exact⟨l,_,1,_,rfl,rfl,SqL.of l2,Ap (j:=1) rfl,d,c,15,rfl,D1.same s2,by decide,by decide,λw H3 w0 w1 b3 D3=>⟨_,_,rfl,rfl,fin 15 (by decide) (by decide) w H3 w0 w1 b3 D3⟩⟩
  ·rw[decide_eq_false g3];exact⟨l,_,0,_,rfl,rfl,SqL.of l2,Ap (j:=0) rfl,d,c,7,rfl,D1.same s2,by decide,by decide,λw H3 w0 w1 b3 D3=>⟨_,_,rfl,rfl,fin 7 (by decide) (by decide) w H3 w0 w1 b3 D3⟩⟩
theorem scWeight:Av ["_law_deck_here","_law_way"] ["_law_deck_here"] (Ag sWeight):=⟨rfl,rfl,rfl,by decide+kernel,rfl,by decide+kernel,by decide+kernel⟩
theorem ok_Weight{f:Addr}{fd:FuncData}(F:Fun K "_law_weight" "_law_weight" sWeight f fd)(T:Txt mg)(GTake:Cl P w K mg base 2 "_law_take" ["_law_deck_here","_law_most"] spTake):
  FnOk P w K mg base CX0 3 f fd ["_law_deck_here"] spWeight:=by
 refine F.ok scWeight (λvs H Q E h=> ?_) (λcdv A outer s H vs Q E hr h=> ?_)
 ·obtain⟨_,_,rfl,_⟩:=h;rfl
 ·obtain⟨d,c,rfl,hD,k⟩:=h;refine⟨_,Ae (Aw (i:=1) scWeight.nd rfl (Or.inl rfl) (At GTake hr (Aa (pv 0) (Aa Af Ac))))
   (Ae (Bi (Au op_lt (pv 1) Af (Ay _)) (Ai (Ao (A1 A0 (Cm (Aa Af (Aa (Az op_pow Af Af) (Aa Af Ac)))) (pv 1) (λ_ _=>rfl)))) A2)
   (Ai (Ao (At GTake hr (Aa (pv 0) (Aa (Az Bm (Az op_pow Af Af) Af) Ac)))))),?_⟩
  refine⟨_,rfl,d,c,4,rfl,hD,by decide,by decide,λv H1 v0 v1 b1 D1=> ?_⟩;refine⟨_,rfl,_,_,rfl,rfl,_,rfl,Be (λg=> ?_) λg=> ?_⟩
  ·have g:v<3:=by simpa using g
   obtain⟨v,rfl⟩:=Cs v0;refine⟨_,_,rfl,rfl,⟨by decide,by decide,by decide⟩,small (by simp),λl hl=>⟨_,rfl,l,_,_,V.int ([0,1000000000,5].getD v 0),rfl,rfl,SqL.of Ab,Ap ?_,?_⟩⟩
   ·have hv:v=0\/v=1\/v=2:=by omega
    rcases hv with rfl|rfl|rfl<;> rfl
   ·have hv:v=0\/v=1\/v=2:=by omega
    refine k _ _ ?_ ?_ (b1.trans (But.of (Ad hl))) (D1.same (Ad hl))
    ·rcases hv with rfl|rfl|rfl<;> decide
    ·rcases hv with rfl|rfl|rfl<;> decide
  dsimp only[Br];refine⟨_,rfl,_,_,rfl,rfl,⟨by decide,by decide,by decide⟩,_,_,rfl,rfl,d,c,1000000001,rfl,D1,by decide,by decide,λw H2 w0 w1 b2 D2=>k w _ w0 (by omega) (b1.trans b2) D2⟩
end
end K39
namespace K39
open PySem L2 Wk
theorem slice_cs{z:Str}{j:Int}(h:0<=j/\j<=z.length):(Txt.slice z none (some j)).cps.toList=z.cps.toList.take j.toNat:=by
 have:=StrLaws.sliceText_to (x:=z) (j:=j) ⟨h.1,by rw[<-len_cps];exact h.2⟩;rw[show Txt.slice z none (some j)=StrLaws.sliceText z none (some j) from rfl,this,Int.sub_zero];simp
def NmT(f s st k:Nat)(z:Str):Prop:=z.cps.toList[0]? =some (97+(f+st * k) % 26)/\((z.cps.toList[1]? =none/\k<26)\/z.cps.toList[1]? =some (97+(s+k / 26) % 26))
theorem NmT.inj{f s st j k:Nat}{z:Str}(hs:st=1\/st=3\/st=5\/st=7)(a:NmT f s st j z)(b:NmT f s st k z)(jk:j<k)(k60:k<60):False:=by
 have e1:=Option.some.inj (a.1.symm.trans b.1);rcases b.2 with⟨_,q⟩|q
 ·rcases hs with rfl|rfl|rfl|rfl<;> omega
 ·rcases a.2 with⟨p,_⟩|p
  ·rw[p] at q;cases q
  ·have e2:=Option.some.inj (p.symm.trans q);rcases hs with rfl|rfl|rfl|rfl<;> omega
theorem NmT.nodup{f s st:Nat}{zs:List Str}(hs:st=1\/st=3\/st=5\/st=7)(h:∀(j:Nat) z,zs[j]? =some z->NmT f s st j z)(hl:zs.length<=60):zs.Nodup:=by
 rw[List.nodup_iff_pairwise_ne,List.pairwise_iff_getElem];intro i j hi hj hij e;exact NmT.inj hs (h i _ (Ck hi)) (by rw[e];exact h j _ (Ck hj)) hij (by omega)
def spNames:Sp:=λvs H Q _=>∃(d c:Addr) (M:Nat),vs=[.ref d,.int (M:Int)]/\DeckAt H d c/\M<=60/\∀(l:Addr) (zs:List Str) (H':Hp),But d c H H'->DeckAt H' d c->H l=none->H' l=some (.lst (zs.map V.str))->zs.length=M->zs.Nodup->(∀z∈zs,NameOk z)->Q (.ref l) H'
theorem But.none{d c:Addr}{H H':Hp}(h:But d c H H')(D:DeckAt H d c)(D':DeckAt H' d c){b:Addr}(e:H' b=none):H b=none:=by
 cases g:H b with
 |none=>rfl
 |some o=>rw[h b o g (D'.nd e) (D'.nc e)] at e;cases e
theorem DeckAt.set{H:Hp}{d c b:Addr}{o:HO}(h:DeckAt H d c)(n1:b≠d)(n2:b≠c):DeckAt (upd H b o) d c:=by
 obtain⟨cs,S,k,g,h1,h2,r⟩:=h;exact⟨cs,S,k,g,by rw[Aj n1.symm];exact h1,by rw[Aj n2.symm];exact h2,r⟩
theorem nm_cut{f s st i:Nat}{ws:List Nat}{nm:Str}{L:Int}(h:nm.cps.toList=(97+(f+st * i) % 26)::(97+(s+i / 26) % 26)::ws)(hw:ws.length=6)(wr:∀x∈ws,97<=x/\x<=122)(L1:1<=L)(L8:L<=8)(L2:25<i->2<=L):NmT f s st i (Txt.slice nm none (some L))/\NameOk (Txt.slice nm none (some L)):=by
 obtain⟨n,rfl⟩:∃n:Nat,L=(n:Int):=⟨L.toNat,by omega⟩
 have len:nm.length=8:=by rw[len_cps,h,List.length_cons,List.length_cons,hw]
 have e:(Txt.slice nm none (some (n:Int))).cps.toList=nm.cps.toList.take n:=by rw[slice_cs ⟨by omega,by rw[len];omega⟩,Int.toNat_natCast]
 have el:(Txt.slice nm none (some (n:Int))).length=n:=by rw[len_cps,e,List.length_take,<-len_cps,len];omega
 refine⟨?_,by omega,by omega,λc hc=> ?_⟩
 ·unfold NmT;rw[e,h];obtain⟨m,rfl⟩:∃m,n=m+1:=⟨n - 1,by omega⟩
  refine⟨rfl,?_⟩;cases m with
  |zero=>exact .inl ⟨rfl,by omega⟩
  |succ m=>exact .inr rfl
 ·rw[e] at hc;have hm:=List.mem_of_mem_take hc;rw[h,List.mem_cons,List.mem_cons] at hm;rcases hm with rfl|rfl|hx
  ·omega
  ·omega
  ·exact wr c hx
section
variable{P:Program}{w:World}{K:PySem.W.Frag}{mg:Str->Option Value}{base:Heap}
theorem scNames:Av ["_law_deck_here","_law_many_here","_law_letters","_law_first","_law_second","_law_step","_law_cut","_law_wide","_law_tail","_law_found","_law_k","_law_front","_law_name"] ["_law_deck_here","_law_many_here"] (Ag sNames):=⟨rfl,rfl,rfl,by decide+kernel,rfl,by decide+kernel,by decide+kernel⟩
theorem ok_Names{f:Addr}{fd:FuncData}(F:Fun K "_law_names" "_law_names" sNames f fd)(T:Txt mg)(GTake:Cl P w K mg base 2 "_law_take" ["_law_deck_here","_law_most"] spTake):
  FnOk P w K mg base CX0 3 f fd ["_law_deck_here","_law_many_here"] spNames:=by
 refine F.ok scNames (λvs H Q E h=> ?_) (λcdv A outer s H vs Q E hr h=> ?_)
 ·obtain⟨_,_,_,rfl,_⟩:=h;rfl
 ·obtain⟨d,c,M,rfl,hD,M60,k⟩:=h;refine⟨_,Ae (Aw (i:=2) scNames.nd rfl (Or.inr rfl) Cu)
   (Ae (Aw (i:=3) scNames.nd rfl (Or.inl rfl) (At GTake hr (Aa (pv 0) (Aa Af Ac))))
   (Ae (Aw (i:=4) scNames.nd rfl (Or.inl rfl) (At GTake hr (Aa (pv 0) (Aa Af Ac))))
   (Ae (Aw (i:=5) scNames.nd rfl (Or.inl rfl) (A1 A0 (Cm (Aa Af (Aa Af (Aa Af (Aa Af Ac))))) (At GTake hr (Aa (pv 0) (Aa Af Ac))) (λ_ _=>rfl)))
   (Ae (Aw (i:=6) scNames.nd rfl (Or.inl rfl) (At GTake hr (Aa (pv 0) (Aa Af Ac))))
   (Ae (Aw (i:=7) scNames.nd rfl (Or.inl rfl) (At GTake hr (Aa (pv 0) (Aa Af Ac))))
   (Ae (Aw (i:=8) scNames.nd rfl (Or.inl rfl) (pe_bm PySem.F.plainAttrs_str PySem.F.slot_str_join PySem.F.type_str_join mt_join Cu (Aa (A5 (T:=["_law_k"]) (F:=["_law_letters","_law_deck_here"]) (js:=[2,0]) (cs (osc:=Ag sNames)) rfl (Bt rfl T.range (Aa Af Ac)) (λ_ _ _ _ _=>Ah (i:=0) (show (["_law_k","_law_letters","_law_deck_here"]:List Str).Nodup by decide+kernel) rfl (Or.inl rfl)) (λ_ _ _ _ _=>A8) (λ_ _ _ _ _=>A1 ix_str (pv 1) (At GTake hr (Aa (pv 2) (Aa Af Ac))) (λ_ _=>rfl))) Ac)))
   (Ae (Aw (i:=9) scNames.nd rfl (Or.inl rfl) (Cm Ac))
   (Ae (Dx PassesOwn.never rfl (Bt rfl T.range (Aa (pv 1) Ac)) (Ah (i:=10) scNames.nd rfl (Or.inl rfl)) (Ae (Aw (i:=11) scNames.nd rfl (Or.inl rfl) (A1 ix_str (pv 2) (Az op_mod (Az Bm (pv 3) (Az op_mul (pv 5) (pv 10))) Af) (λ_ _=>rfl)))
   (Ae (Aw (i:=12) scNames.nd rfl (Or.inl rfl) (Az op_add_str (Az op_add_str (pv 11) (A1 ix_str (pv 2) (Az op_mod (Az Bm (pv 4) (Az op_fdiv (pv 10) Af)) Af) (λ_ _=>rfl))) (pv 8)))
   (Ai (Cw (pe_bm PySem.F.plainAttrs_list PySem.F.slot_list_append PySem.F.type_list_append Cb (pv 9) (Aa (Cf sl_str (pv 12) Dq (Bv (Am (call_max2 rfl) (by rfl) T.max (by decide+kernel) (Aa (Az Bm Af (A3 call_int1 (by rfl) T.int (by decide+kernel) (Aa (Bo op_gt (pv 10) Af (Ay _)) Ac))) (Aa (Az Bm Af (Az op_mod (Az Bm (pv 6) (Az op_mul (pv 7) (pv 10))) Af)) Ac))))) Ac)))))))
   (Ai (Ao (pv 9))))))))))),?_⟩
  refine⟨_,rfl,d,c,26,rfl,hD,by decide,by decide,λf H1 f0 f1 b1 D1=>⟨_,rfl,d,c,26,rfl,D1,by decide,by decide,λs2 H2 g0 g1 b2 D2=> ?_⟩⟩;obtain⟨f,rfl⟩:=Cs f0;obtain⟨s2,rfl⟩:=Cs g0;have B2:=b1.trans b2;clear b1 b2 D1 f0 g0;refine⟨small (by simp),λl0 hl0=> ?_⟩;have s3:=Ad (o:= .lst [.int 1,.int 3,.int 5,.int 7]) hl0;have l3:=Ab (H:=H2) (a:=l0) (o:= .lst [.int 1,.int 3,.int 5,.int 7]);have n3:l0≠d:=D2.nd hl0;have n3':l0≠c:=D2.nc hl0;have D3:=D2.same s3;have B3:=B2.trans (But.of s3);clear B2;generalize upd H2 l0 (.lst [.int 1,.int 3,.int 5,.int 7])=H3 at s3 l3 D3 B3;refine⟨_,rfl,d,c,4,rfl,D3,by decide,by decide,λw H4 w0 w1 b4 D4=> ?_⟩;obtain⟨w,rfl⟩:=Cs w0;have B4:=B3.trans b4;have l4:=b4 _ _ l3 n3 n3';obtain⟨st,est,hst⟩:∃st:Nat,([V.int 1,.int 3,.int 5,.int 7]:List V)[w]? =some (.int (st:Int))/\(st=1\/st=3\/st=5\/st=7):=by
   have hw:w=0\/w=1\/w=2\/w=3:=by omega
   rcases hw with rfl|rfl|rfl|rfl
   ·exact⟨1,rfl,by decide⟩
   ·exact⟨3,rfl,by decide⟩
   ·exact⟨5,rfl,by decide⟩
   ·exact⟨7,rfl,by decide⟩
  refine⟨l0,_,_,_,rfl,rfl,SqL.of l4,Ap est,?_⟩;clear B3 b4 l3 l4 D3 s3 w0 w1 D2;refine⟨_,rfl,d,c,8,rfl,D4,by decide,by decide,λcu H5 u0 u1 b5 D5=>⟨_,rfl,d,c,8,rfl,D5,by decide,by decide,λwi H6 i0 i1 b6 D6=> ?_⟩⟩;obtain⟨cu,rfl⟩:=Cs u0;obtain⟨wi,rfl⟩:=Cs i0;have B6:=(B4.trans b5).trans b6;clear B4 b5 b6 D5 D4 u0 i0;refine⟨rfl,6,rfl,by decide,by decide,λW hWn=>Bn (lo:=0) (n:=6) (λj σ ys H2=>∃(u:Option V) (ws:List Nat),σ=[u,some (.str LS),some (.ref d)]/\But d c H6 H2/\DeckAt H2 d c/\H2 W=some (.lst ys)/\ys=ws.map sg/\ws.length=j/\∀x∈ws,97<=x/\x<=122) ?_ (λj σ ys H2 _ ⟨_,_,_,_,_,e,_⟩=>e) ?_ ?_⟩
  ·exact⟨none,[],rfl,But.of (Ad hWn),D6.same (Ad hWn),Ab,rfl,rfl,by simp⟩
  ·rintro j σ ys H2 hj ⟨u,ws,rfl,b2,D2,e2,rfl,wl,wr⟩;refine⟨_,rfl,_,rfl,d,c,26,rfl,D2,by decide,by decide,λx H3 x0 x1 b3 D3=> ?_⟩;have e3:=b3 _ _ e2 (D6.nd hWn) (D6.nc hWn);refine⟨_,x,_,rfl,rfl,small (by decide+kernel),LS_at x0 x1,e3,Ak (by simp;omega),_,ws++[97+x.toNat],rfl,λb o e q1 q2=> ?_,?_,Ab,by rw[List.map_append];rfl,by simp[wl],?_⟩
   ·rw[Aj (An e hWn)];exact b3 _ _ (b2 _ _ e q1 q2) q1 q2
   ·exact D3.set (D6.nd hWn) (D6.nc hWn)
   ·intro y hy;rcases List.mem_append.mp hy with hy|hy
    ·exact wr y hy
    ·rw[List.mem_singleton.mp hy];omega
  rintro σ ys H7 ⟨u,ws,rfl,b7,D7,e7,rfl,wl,wr⟩;rw[sg_map] at e7;refine⟨Str.ofString "",W,_,rfl,rfl,SqL.of e7,?_,?_⟩
  ·rw[sg_sum,List.length_map];show _+_ * 0<=_;rw[wl];decide
  have hz:=join_cps ws;generalize Txt.join (Str.ofString "") (ws.map λc=>(⟨#[c]⟩:Str))=tl at hz;have B7:=B6.trans b7;have tl6:tl.length=6:=by rw[len_cps,hz,wl]
  refine⟨small (by simp),λl hl=> ?_⟩;have s8:=Ad (o:= .lst []) hl;have l8:=Ab (H:=H7) (a:=l) (o:= .lst []);generalize upd H7 l (.lst [])=H8 at s8 l8;refine⟨_,rfl,(M:Int),rfl,by omega,by omega,for_range (lo:=0) (n:=M) (λi σ H5=>∃(u10 u11 u12:Option V) (zs:List Str),σ=[some (.ref d),some (.int (M:Int)),some (.str LS),some (.int (f:Int)),some (.int (s2:Int)),some (.int (st:Int)),some (.int (cu:Int)),some (.int (wi:Int)),some (.str tl),some (.ref l),u10,u11,u12]/\Same H7 H5/\H5 l=some (.lst (zs.map V.str))/\zs.length=i/\(∀(j:Nat) z,zs[j]? =some z->NmT f s2 st j z)/\∀z∈zs,NameOk z) ⟨_,_,_,[],rfl,s8,l8,rfl,λj z e=>by simp at e,by simp⟩ ?_ ?_⟩
  ·rintro i σ H5 hi ⟨u10,u11,u12,zs,rfl,s5,l5,zl,zn,zo⟩;have hi:i<M:=hi;have m0:=Int.emod_nonneg ((f:Int)+(st:Int) * (0+(i:Int))) (show (26:Int)≠0 by decide);have m1:=Int.emod_lt_of_pos ((f:Int)+(st:Int) * (0+(i:Int))) (show (0:Int)<26 by decide);have p0:=Int.emod_nonneg ((s2:Int)+(0+(i:Int)) / 26) (show (26:Int)≠0 by decide);have p1:=Int.emod_lt_of_pos ((s2:Int)+(0+(i:Int)) / 26) (show (0:Int)<26 by decide);have c1:97+(((f:Int)+(st:Int) * (0+(i:Int))) % 26).toNat=97+(f+st * i) % 26:=by rcases hst with rfl|rfl|rfl|rfl<;> omega
   have c2:97+(((s2:Int)+(0+(i:Int)) / 26) % 26).toNat=97+(s2+i / 26) % 26:=by omega
   refine⟨_,rfl,_,rfl,_,rfl,_,rfl,_,_,rfl,rfl,.inl ⟨by omega,by omega⟩,_,_,rfl,rfl,_,_,rfl,rfl,(by show (0:Int)<26;decide),LS,_,_,rfl,rfl,small (by decide+kernel),LS_at m0 m1,?_⟩;rw[c1];refine⟨_,rfl,_,rfl,_,rfl,_,rfl,_,_,rfl,rfl,⟨by decide,by decide⟩,_,_,rfl,rfl,_,_,rfl,rfl,(by show (0:Int)<26;decide),LS,_,_,rfl,rfl,small (by decide+kernel),LS_at p0 p1,_,_,rfl,rfl,(by show 1+1<=_;decide),_,rfl,_,_,rfl,rfl,?_,?_⟩
   ·rw[show ∀a b:Str,(a++b).length=(a++b).cps.toList.length from λa b=>len_cps _,cat_cps,List.length_append,tl6];show 1+1+6<=_;decide
   rw[c2];have en:((⟨#[97+(f+st * i) % 26]⟩:Str)++(⟨#[97+(s2+i / 26) % 26]⟩:Str)++tl).cps.toList=(97+(f+st * i) % 26)::(97+(s2+i / 26) % 26)::ws:=by
    rw[cat_cps,cat_cps,hz];rfl
   generalize ((⟨#[97+(f+st * i) % 26]⟩:Str)++(⟨#[97+(s2+i / 26) % 26]⟩:Str)++tl)=nm at en;have len:nm.length=8:=by rw[len_cps,en,List.length_cons,List.length_cons,wl]
   have y0:=Int.emod_nonneg ((cu:Int)+(wi:Int) * (0+(i:Int))) (show (8:Int)≠0 by decide);have y1:=Int.emod_lt_of_pos ((cu:Int)+(wi:Int) * (0+(i:Int))) (show (0:Int)<8 by decide);refine⟨_,rfl,.inl ⟨rfl,_,SqL.of l5⟩,_,rfl,_,rfl,_,_,rfl,rfl,.inr ⟨_,rfl,_,_,rfl,rfl,_,rfl,_,rfl,_,rfl,_,_,rfl,rfl,.inl ⟨by omega,by omega⟩,_,_,rfl,rfl,_,_,rfl,rfl,(by show (0:Int)<8;decide),_,_,rfl,rfl,_,_,rfl,_,rfl,nm,rfl,by rw[len];decide,l,_,_,rfl,rfl,l5,Ak (by simp;omega),?_⟩⟩;generalize ((cu:Int)+(wi:Int) * (0+(i:Int))) % 8=y at y0 y1 ⊢;obtain⟨n1,n2⟩:=nm_cut (L:=if 1+y > 1+(if decide ((25:Int)<0+(i:Int))=true then 1 else 0) then 1+y else 1+(if decide ((25:Int)<0+(i:Int))=true then 1 else 0)) en wl wr (by split<;> split<;> omega) (by split<;> split<;> omega) (λh=>by
    rw[decide_eq_true (show (25:Int)<0+(i:Int) by omega),if_pos rfl];split<;> omega)
   refine⟨_,_,_,zs++[_],rfl,Aq s5 hl,by rw[Ab,List.map_append];rfl,by simp[zl],λj z e=> ?_,λz hz=> ?_⟩
   ·rw[List.getElem?_append] at e;split at e
    ·exact zn j z e
    ·have hj:j=i:=by
      have:=(List.getElem?_eq_some_iff.mp e).1;simp at this;omega
     subst hj;rw[show j - zs.length=0 by omega,List.getElem?_cons_zero] at e;cases e;exact n1
   ·rcases List.mem_append.mp hz with hz|hz
    ·exact zo z hz
    ·rw[List.mem_singleton.mp hz];exact n2
  rintro σ H5 ⟨u10,u11,u12,zs,rfl,s5,l5,zl,zn,zo⟩;exact⟨_,rfl,k l zs _ (B7.trans (But.of s5)) (D7.same s5) (B7.none hD D7 hl) l5 zl (NmT.nodup hst zn (by omega)) zo⟩
end
end K39
namespace K39
open PySem L2 Wk
theorem rties{S R:List T4}(h:∀t∈S,Reach R t.2.1 t.2.2.1){a b:Nat}(r:Reach S a b):Reach R a b:=by
 obtain⟨ws,hw⟩:=r
 induction hw with
 |nil=>exact .refl
 |snoc _ q ih=>
  obtain⟨t,ht,_,hh⟩:=nb_elim q;have r:=h t ht;rcases hh with⟨e1,e2⟩|⟨e1,e2⟩
  ·rw[e1,e2] at r;exact ih.trans r
  ·rw[e1,e2] at r;exact ih.trans r.symm
theorem rtie{R:List T4}{t:T4}(ht:t∈R):Reach R t.2.1 t.2.2.1:= .step (nb_of ht)
def A9(L:Nat)(ps:List Nat)(ks:List Str)(fo:Option Str)(x:R6):R6:=
 if fo=some x.1.1 then (x.1,x.2.1,true) else if (x.2.2=true/\x.2.1=L/\x.1.2.1∈ps/\x.1.2.2.1∈ps)\/x.1.1∈ks then (x.1,x.2.1+1,x.2.2) else x
theorem Cy(L:Nat)(ps:List Nat)(ks:List Str)(fo:Option Str)(x:R6):(A9 L ps ks fo x).1=x.1:=by
 unfold A9;split
 ·rfl
 ·split<;> rfl
structure Mid(N:Nat)(t0:T4)(i:Nat)(R:List R6):Prop where
 e1:t0.2.1<N
 e2:t0.2.2.1<N
 ok:∀x∈R,RowOk N x
 nd:(R.map (·.1.1)).Nodup
 len:R.length<=60
 hi:∀j,i<=j->∀x∈R,j<=x.2.1->Reach (tiF R (kpB j)) x.1.2.1 x.1.2.2.1
 lo:∀j,j<i->∀x∈R,j<=x.2.1->Reach (tiF R (kpB j)++[t0]) x.1.2.1 x.1.2.2.1
 shi:∀j:Nat,i<=j->(j:Int)<=lay N->∀p,p<N->((Ar N (tiF R (kpB j)) p).length:Int)<=rm N j
 slo:∀j:Nat,j<i->(j:Int)<=lay N->∀p,p<N->((Ar N (tiF R (kpB j)++[t0]) p).length:Int)<=rm N j
 forest:clsF N (tiF R (kpB 0)++[t0])+(tiF R (kpB 0)).length+1<=N
theorem Mid.inN{N:Nat}{t0:T4}{i:Nat}{R:List R6}(h:Mid N t0 i R)(p:R6->Bool):InN N (tiF R p):=λt ht=>by
 obtain⟨x,hx,_,rfl⟩:=mem_ti.mp ht;exact⟨(h.ok x hx).2.1.1,(h.ok x hx).2.1.2.1⟩
theorem in_snoc{N:Nat}{S:List T4}{t:T4}(hS:InN N S)(h1:t.2.1<N)(h2:t.2.2.1<N):InN N (S++[t]):=λu hu=>by
 rcases List.mem_append.mp hu with q|q
 ·exact hS u q
 ·rw[List.mem_singleton.mp q];exact⟨h1,h2⟩
theorem Dv{N:Nat}{S S':List T4}(hS:InN N S)(hS':InN N S')(hN:N<=60){p:Nat}(hp:p<N)(h:∀v,Reach S p v->Reach S' p v):(Ar N S p).length<=(Ar N S' p).length:=by
 have nd:(Ar N S p).Nodup:=(List.nodup_range).sublist List.filter_sublist;refine List.Nodup.length_le_of_subset nd λv hv=> ?_;obtain⟨vN,r⟩:=(A6 hS hp hN).mp hv;exact(A6 hS' hp hN).mpr ⟨vN,h v r⟩
theorem kp_le{R:List R6}{i j:Nat}(h:i<=j):∀t∈tiF R (kpB j),t∈tiF R (kpB i):=λt ht=>by
 obtain⟨x,hx,g,rfl⟩:=mem_ti.mp ht;refine mem_ti.mpr ⟨x,hx,?_,rfl⟩;unfold kpB at g ⊢;rw[Bool.and_eq_true,decide_eq_true_eq] at g ⊢;exact⟨by omega,g.2⟩
theorem kp_iff{j:Nat}{x:R6}:kpB j x=true↔j<=x.2.1/\x.2.2=true:=by
 unfold kpB;rw[Bool.and_eq_true,decide_eq_true_eq]
theorem fr_iff{j:Nat}{x:R6}:frB j x=true↔j<=x.2.1:=by
 unfold frB;rw[decide_eq_true_eq]
theorem Mid.good{N:Nat}{t0:T4}{R:List R6}(h:Mid N t0 0 R)(hN:N<=60):LGood N R where
 ok:=h.ok
 nd:=h.nd
 len:=h.len
 same:=λL _ a b q=>rties (λt ht=>by
  obtain⟨x,hx,g,rfl⟩:=mem_ti.mp ht;exact h.hi L (Nat.zero_le _) x hx (fr_iff.mp g)) q
 size:=λL hL p hp=>by
  have:=Dv (h.inN (frB L)) (h.inN (kpB L)) hN hp λv q=>rties (λt ht=>by
   obtain⟨x,hx,g,rfl⟩:=mem_ti.mp ht;exact h.hi L (Nat.zero_le _) x hx (fr_iff.mp g)) q
  have:=h.shi L (Nat.zero_le _) hL p hp;omega
 forest:=by
  have f:=h.forest;by_cases g:Reach (tiF R (kpB 0)) t0.2.1 t0.2.2.1
  ·rw[cls_same g] at f;omega
  ·have:=cls_less h.e1 h.e2 g;omega
theorem ti_drop{R:List R6}{x:R6}(hx:x∈R)(nd:(R.map (·.1.1)).Nodup){p:R6->Bool}{t:T4}(ht:t∈tiF R p):t∈tiF (Bx R x.1.1) p\/(t=x.1/\p x=true):=by
 obtain⟨y,hy,g,rfl⟩:=mem_ti.mp ht;by_cases e:y.1.1=x.1.1
 ·right;have:y=x:=by
   obtain⟨i,hi,rfl⟩:=List.getElem_of_mem hy;obtain⟨j,hj,rfl⟩:=List.getElem_of_mem hx;have:i=j:=by
    refine(List.getElem_inj (h₀:=by rw[List.length_map];exact hi) (h₁:=by rw[List.length_map];exact hj) nd).mp ?_;rw[List.getElem_map,List.getElem_map];exact e
   subst this;rfl
  subst this;exact⟨rfl,g⟩
 ·left;exact mem_ti.mpr ⟨y,List.mem_filter.mpr ⟨hy,by simpa using e⟩,g,rfl⟩
theorem drop_ti{R:List R6}{n:Str}{p:R6->Bool}{t:T4}(ht:t∈tiF (Bx R n) p):t∈tiF R p:=by
 obtain⟨y,hy,g,rfl⟩:=mem_ti.mp ht;exact mem_ti.mpr ⟨y,(List.mem_filter.mp hy).1,g,rfl⟩
theorem ti_split{A B:List R6}{x:R6}{p:R6->Bool}:tiF (A++x::B) p=tiF A p++((if p x=true then [x.1] else [])++tiF B p):=by
 unfold tiF;rw[List.filter_append,List.map_append,List.filter_cons];split
 ·rfl
 ·rfl
theorem row_split{R:List R6}{x:R6}(hx:x∈R)(nd:(R.map (·.1.1)).Nodup):∃A B,R=A++x::B/\(∀y∈A++B,y.1.1≠x.1.1):=by
 obtain⟨A,B,rfl⟩:=List.append_of_mem hx;refine⟨A,B,rfl,λy hy e=> ?_⟩;rw[List.map_append,List.map_cons,List.nodup_append] at nd;obtain⟨_,n2,n3⟩:=nd;rw[List.nodup_cons] at n2;rcases List.mem_append.mp hy with hy|hy
 ·exact n3 _ (List.mem_map.mpr ⟨y,hy,rfl⟩) _ (List.mem_cons_self ..) e
 ·exact n2.1 (List.mem_map.mpr ⟨y,hy,e⟩)
theorem drop_split{A B:List R6}{x:R6}(h:∀y∈A++B,y.1.1≠x.1.1):Bx (A++x::B) x.1.1=A++B:=by
 unfold Bx;rw[List.filter_append,List.filter_cons_of_neg (by simp),<-List.filter_append];exact List.filter_eq_self.mpr λy hy=>by simpa using h y hy
theorem LGood.gone{N:Nat}{R:List R6}(h:LGood N R)(hN:N<=60){x:R6}(hx:x∈R)(xk:x.2.2=true):Mid N x.1 (x.2.1+1) (Bx R x.1.1) where
 e1:=(h.ok x hx).2.1.1
 e2:=(h.ok x hx).2.1.2.1
 ok:=λy hy=>h.ok y (List.mem_filter.mp hy).1
 nd:=h.nd.sublist ((List.filter_sublist).map _)
 len:=Nat.le_trans (List.length_filter_le _ _) h.len
 hi:=λj hj y hy g=>by
  have yR:=(List.mem_filter.mp hy).1;have lj:(j:Int)<=lay N:=by have:=(h.ok y yR).2.2.2;omega
  have r:=h.same j lj _ _ (rtie (mem_ti.mpr ⟨y,yR,fr_iff.mpr g,rfl⟩));refine r.mono λt ht=> ?_;rcases ti_drop hx h.nd ht with q|⟨_,q⟩
  ·exact q
  ·have:=(kp_iff.mp q).1;omega
 lo:=λj hj y hy g=>by
  have yR:=(List.mem_filter.mp hy).1;have lj:(j:Int)<=lay N:=by have:=(h.ok y yR).2.2.2;omega
  have r:=h.same j lj _ _ (rtie (mem_ti.mpr ⟨y,yR,fr_iff.mpr g,rfl⟩));refine r.mono λt ht=> ?_;rcases ti_drop hx h.nd ht with q|⟨q,_⟩
  ·exact List.mem_append_left _ q
  ·rw[q];exact List.mem_append_right _ (List.mem_singleton.mpr rfl)
 shi:=λj hj lj p hp=>by
  have i1:InN N (tiF (Bx R x.1.1) (kpB j)):=λt ht=>h.inN (kpB j) t (drop_ti ht);have:=Dv i1 (h.inN (frB j)) hN hp λv q=>q.mono λt ht=>kp_sub t (drop_ti ht);have:=h.size j lj p hp;omega
 slo:=λj hj lj p hp=>by
  have i1:InN N (tiF (Bx R x.1.1) (kpB j)++[x.1]):=in_snoc (λt ht=>h.inN (kpB j) t (drop_ti ht)) (h.ok x hx).2.1.1 (h.ok x hx).2.1.2.1;have:=Dv i1 (h.inN (frB j)) hN hp λv q=>q.mono λt ht=>by
   rcases List.mem_append.mp ht with ht|ht
   ·exact kp_sub t (drop_ti ht)
   ·rw[List.mem_singleton.mp ht];exact mem_ti.mpr ⟨x,hx,fr_iff.mpr (by omega),rfl⟩
  have:=h.size j lj p hp;omega
 forest:=by
  obtain⟨A,B,e,ne⟩:=row_split hx h.nd;have f:=h.forest;have kx:kpB 0 x=true:=kp_iff.mpr ⟨Nat.zero_le _,xk⟩;have e2:Bx R x.1.1=A++B:=by rw[e];exact drop_split ne
  have l1:(tiF R (kpB 0)).length=(tiF (Bx R x.1.1) (kpB 0)).length+1:=by
   rw[e2,e,ti_split,if_pos kx,List.length_append,List.length_append];unfold tiF;rw[List.filter_append,List.map_append,List.length_append];simp only[List.length_cons,List.length_nil];omega
  have c1:clsF N (tiF (Bx R x.1.1) (kpB 0)++[x.1])=clsF N (tiF R (kpB 0)):=by
   refine cls_congr λa b _ _=>⟨λr=>r.mono λt ht=> ?_,λr=>r.mono λt ht=> ?_⟩
   ·rcases List.mem_append.mp ht with ht|ht
    ·exact drop_ti ht
    ·rw[List.mem_singleton.mp ht];exact mem_ti.mpr ⟨x,hx,kx,rfl⟩
   ·rcases ti_drop hx h.nd ht with q|⟨q,_⟩
    ·exact List.mem_append_left _ q
    ·rw[q];exact List.mem_append_right _ (List.mem_singleton.mpr rfl)
  rw[c1];omega
end K39
namespace K39
open PySem L2 Wk
theorem reach_lt{N:Nat}{S:List T4}(hS:InN N S){a b:Nat}(ha:a<N)(r:Reach S a b):b<N:=by
 obtain⟨ws,hw⟩:=r;cases hw with
 |nil=>exact ha
 |snoc _ q=>exact nb_lt hS q
theorem cls_low{N:Nat}:∀{S:List T4},InN N S->N<=clsF N S+S.length:=by
 intro S
 induction h:S.length generalizing S with
 |zero=>
  intro _;have:S=[]:=List.length_eq_zero_iff.mp h;subst this;rw[cls_nil];omega
 |succ n ih=>
  intro hS;obtain⟨S',t,rfl⟩:∃S' t,S=S'++[t]:=by
   rcases List.eq_nil_or_concat S with h'|⟨L,b,h'⟩
   ·rw[h'] at h;cases h
   ·exact⟨L,b,by rw[h'];simp⟩
  have hS':InN N S':=λu hu=>hS u (List.mem_append_left _ hu);have ht:=hS t (List.mem_append_right _ (List.mem_singleton.mpr rfl));have l:S'.length=n:=by rw[List.length_append] at h;simpa using h
  have:=ih l hS';by_cases g:Reach S' t.2.1 t.2.2.1
  ·rw[cls_same g];omega
  ·have:=cls_less ht.1 ht.2 g;omega
theorem Mid.sep{N:Nat}{t0:T4}{i:Nat}{R:List R6}(h:Mid N t0 i R)(j:Nat):¬Reach (tiF R (kpB j)) t0.2.1 t0.2.2.1:=λr=>by
 have r0:=r.mono (kp_le (Nat.zero_le j));have f:=h.forest;rw[cls_same r0] at f;have:=cls_low (h.inN (kpB 0));omega
structure Half(N:Nat)(t0:T4)(i:Nat)(R:List R6)(P:List Nat)(e:Nat):Prop where
 he:e=t0.2.1\/e=t0.2.2.1
 hP:P=Ar N (tiF R (kpB i)) e
 le:P.length<=(Ar N (tiF R (kpB i)) t0.2.1).length/\P.length<=(Ar N (tiF R (kpB i)) t0.2.2.1).length
theorem rm_half{N:Nat}{i:Nat}{k:Nat}(h:((k+k:Nat):Int)<=rm N i):(k:Int)<=rm N ((i:Int)+1):=by
 unfold rm at h ⊢;have e1:((i:Int)).toNat=i:=by omega
 have e2:((i:Int)+1).toNat=i+1:=by omega
 rw[e1] at h;rw[e2,Int.pow_succ,<-Int.ediv_ediv_of_nonneg (Int.le_of_lt (Int.pow_pos (by decide)))];omega
section
variable{N:Nat}{t0:T4}{i:Nat}{R:List R6}{P:List Nat}{e:Nat}
theorem Half.lt(h:Mid N t0 (i+1) R)(q:Half N t0 i R P e):e<N:=by
 rcases q.he with z|z
 ·rw[z];exact h.e1
 ·rw[z];exact h.e2
theorem Half.mem(h:Mid N t0 (i+1) R)(N60:N<=60)(q:Half N t0 i R P e){v:Nat}:v∈P↔v<N/\Reach (tiF R (kpB i)) e v:=by
 rw[q.hP];exact A6 (h.inN _) (q.lt h) N60
theorem Half.closed(h:Mid N t0 (i+1) R)(N60:N<=60)(q:Half N t0 i R P e){a b:Nat}(ha:a∈P)(r:Reach (tiF R (kpB i)) a b):b∈P:=by
 obtain⟨aN,ra⟩:=(q.mem h N60).mp ha;exact(q.mem h N60).mpr ⟨reach_lt (h.inN _) aN r,ra.trans r⟩
theorem Half.join(h:Mid N t0 (i+1) R)(N60:N<=60)(q:Half N t0 i R P e){a b:Nat}(ha:a∈P)(hb:b∈P):Reach (tiF R (kpB i)) a b:=
 ((q.mem h N60).mp ha).2.symm.trans ((q.mem h N60).mp hb).2
theorem Half.small(h:Mid N t0 (i+1) R)(N60:N<=60)(q:Half N t0 i R P e)(li:(i:Int)<=lay N):(P.length:Int)<=rm N ((i:Int)+1):=by
 refine rm_half ?_;have s:=h.slo i (Nat.lt_succ_self i) li t0.2.1 h.e1;have hS:=h.inN (kpB i);have hS':=in_snoc hS h.e1 h.e2;have nd1:(Ar N (tiF R (kpB i)) t0.2.1).Nodup:=(List.nodup_range).sublist List.filter_sublist;have nd2:(Ar N (tiF R (kpB i)) t0.2.2.1).Nodup:=(List.nodup_range).sublist List.filter_sublist;have nd:(Ar N (tiF R (kpB i)) t0.2.1++Ar N (tiF R (kpB i)) t0.2.2.1).Nodup:=by
  rw[List.nodup_append];refine⟨nd1,nd2,λa ha b hb z=> ?_⟩;subst z;have r1:=((A6 hS h.e1 N60).mp ha).2;have r2:=((A6 hS h.e2 N60).mp hb).2;exact h.sep i (r1.trans r2.symm)
 have sub:∀v∈Ar N (tiF R (kpB i)) t0.2.1++Ar N (tiF R (kpB i)) t0.2.2.1,v∈Ar N (tiF R (kpB i)++[t0]) t0.2.1:=λv hv=>by
  rw[A6 hS' h.e1 N60];rcases List.mem_append.mp hv with hv|hv
  ·obtain⟨a,b⟩:=(A6 hS h.e1 N60).mp hv;exact⟨a,b.mono λt ht=>List.mem_append_left _ ht⟩
  ·obtain⟨a,b⟩:=(A6 hS h.e2 N60).mp hv;exact⟨a,(rtie (List.mem_append_right _ (List.mem_singleton.mpr rfl))).trans (b.mono λt ht=>List.mem_append_left _ ht)⟩
 have l:=List.Nodup.length_le_of_subset nd sub;rw[List.length_append] at l;have:=q.le;omega
def Across(P:List Nat)(x:R6):Prop:=(x.1.2.1∈P/\x.1.2.2.1 ∉ P)\/(x.1.2.1 ∉ P/\x.1.2.2.1∈P)
structure Deal(i:Nat)(R:List R6)(P:List Nat)(ks:List Str)(fo:Option Str):Prop where
 hk:∀n∈ks,∃x∈R,x.1.1=n/\x.2.1=i/\x.2.2=false/\x.1.2.1∈P/\x.1.2.2.1∈P
 hf:∀f,fo=some f->∃x∈R,x.1.1=f/\x.2.1=i/\x.2.2=false/\Across P x
 hn:fo=none->∀x∈R,x.2.1=i->x.2.2=false->¬Across P x
theorem one_of(nd:(R.map (·.1.1)).Nodup){x y:R6}(hx:x∈R)(hy:y∈R)(z:y.1.1=x.1.1):y=x:=by
 obtain⟨i,hi,rfl⟩:=List.getElem_of_mem hy;obtain⟨j,hj,rfl⟩:=List.getElem_of_mem hx;have:i=j:=by
  refine(List.getElem_inj (h₀:=by rw[List.length_map];exact hi) (h₁:=by rw[List.length_map];exact hj) nd).mp ?_;rw[List.getElem_map,List.getElem_map];exact z
 subst this;rfl
theorem Cc(nd:(R.map (·.1.1)).Nodup){ks:List Str}{fo:Option Str}(D:Deal i R P ks fo){y:R6}(hy:y∈R):
  (fo=some y.1.1/\A9 i P ks fo y=(y.1,y.2.1,true)/\y.2.1=i/\y.2.2=false/\Across P y)\/
  (A9 i P ks fo y=(y.1,y.2.1+1,y.2.2)/\y.2.1=i/\y.1.2.1∈P/\y.1.2.2.1∈P)\/
  (A9 i P ks fo y=y/\¬(y.2.2=true/\y.2.1=i/\y.1.2.1∈P/\y.1.2.2.1∈P)):=by
 unfold A9;by_cases a:fo=some y.1.1
 ·left;obtain⟨x,hx,xn,xi,xk,xa⟩:=D.hf _ a;have:=one_of nd hx hy xn.symm;subst this;exact⟨a,by rw[if_pos a],xi,xk,xa⟩
 ·right;by_cases b:(y.2.2=true/\y.2.1=i/\y.1.2.1∈P/\y.1.2.2.1∈P)\/y.1.1∈ks
  ·left;rw[if_neg a,if_pos b];refine⟨rfl,?_⟩;rcases b with b|b
   ·exact⟨b.2.1,b.2.2⟩
   ·obtain⟨x,hx,xn,xi,xk,xp⟩:=D.hk _ b;have:=one_of nd hx hy xn.symm;subst this;exact⟨xi,xp⟩
  ·right;rw[if_neg a,if_neg b];exact⟨rfl,λz=>b (.inl z)⟩
variable{ks:List Str}{fo:Option Str}
theorem keep_low(nd:(R.map (·.1.1)).Nodup)(D:Deal i R P ks fo){j:Nat}(_:j<=i):∀t∈tiF R (kpB j),t∈tiF (R.map (A9 i P ks fo)) (kpB j):=λt ht=>by
 obtain⟨y,hy,g,rfl⟩:=mem_ti.mp ht;have g:=kp_iff.mp g;refine mem_ti.mpr ⟨A9 i P ks fo y,List.mem_map.mpr ⟨y,hy,rfl⟩,kp_iff.mpr ?_,Cy ..⟩;rcases Cc nd D hy with⟨_,_,_,z,_⟩|⟨z,_,_⟩|⟨z,_⟩
 ·rw[g.2] at z;cases z
 ·rw[z];exact⟨Nat.le_succ_of_le g.1,g.2⟩
 ·rw[z];exact g
theorem low_keep(nd:(R.map (·.1.1)).Nodup)(D:Deal i R P ks fo){j:Nat}(hj:j<=i):∀t∈tiF (R.map (A9 i P ks fo)) (kpB j),t∈tiF R (kpB j)\/∃y∈R,fo=some y.1.1/\t=y.1/\y.2.1=i/\y.2.2=false/\Across P y:=λt ht=>by
 obtain⟨y',hy',g,rfl⟩:=mem_ti.mp ht;obtain⟨y,hy,rfl⟩:=List.mem_map.mp hy';rw[Cy];have g:=kp_iff.mp g;rcases Cc nd D hy with⟨a,z,b,c,d⟩|⟨z,b,_⟩|⟨z,_⟩
 ·exact .inr ⟨y,hy,a,rfl,b,c,d⟩
 ·rw[z] at g;exact .inl (mem_ti.mpr ⟨y,hy,kp_iff.mpr ⟨by omega,g.2⟩,rfl⟩)
 ·rw[z] at g;exact .inl (mem_ti.mpr ⟨y,hy,kp_iff.mpr g,rfl⟩)
theorem keep_high(nd:(R.map (·.1.1)).Nodup)(D:Deal i R P ks fo){j:Nat}(hj:i+1<=j):∀t∈tiF R (kpB j),t∈tiF (R.map (A9 i P ks fo)) (kpB j):=λt ht=>by
 obtain⟨y,hy,g,rfl⟩:=mem_ti.mp ht;have g:=kp_iff.mp g;refine mem_ti.mpr ⟨A9 i P ks fo y,List.mem_map.mpr ⟨y,hy,rfl⟩,kp_iff.mpr ?_,Cy ..⟩;rcases Cc nd D hy with⟨_,_,z,_,_⟩|⟨_,z,_⟩|⟨z,_⟩
 ·omega
 ·omega
 ·rw[z];exact g
theorem high_keep(nd:(R.map (·.1.1)).Nodup)(D:Deal i R P ks fo){j:Nat}(hj:i+1<=j):∀t∈tiF (R.map (A9 i P ks fo)) (kpB j),t∈tiF R (kpB j)\/(j=i+1/\t∈tiF R (kpB i)/\t.2.1∈P/\t.2.2.1∈P):=λt ht=>by
 obtain⟨y',hy',g,rfl⟩:=mem_ti.mp ht;obtain⟨y,hy,rfl⟩:=List.mem_map.mp hy';rw[Cy];have g:=kp_iff.mp g;rcases Cc nd D hy with⟨_,z,b,_,_⟩|⟨z,b,c⟩|⟨z,_⟩
 ·rw[z] at g;have g1:j<=y.2.1:=g.1;omega
 ·rw[z] at g;have g1:j<=y.2.1+1:=g.1;exact .inr ⟨by omega,mem_ti.mpr ⟨y,hy,kp_iff.mpr ⟨by omega,g.2⟩,rfl⟩,c⟩
 ·rw[z] at g;exact .inl (mem_ti.mpr ⟨y,hy,kp_iff.mpr g,rfl⟩)
theorem within_risen(nd:(R.map (·.1.1)).Nodup)(D:Deal i R P ks fo){t:T4}(ht:t∈tiF R (kpB i))(hp:t.2.1∈P)(hq:t.2.2.1∈P):t∈tiF (R.map (A9 i P ks fo)) (kpB (i+1)):=by
 obtain⟨y,hy,g,rfl⟩:=mem_ti.mp ht;have g:=kp_iff.mp g;refine mem_ti.mpr ⟨A9 i P ks fo y,List.mem_map.mpr ⟨y,hy,rfl⟩,kp_iff.mpr ?_,Cy ..⟩;rcases Cc nd D hy with⟨_,_,_,z,_⟩|⟨z,b,_⟩|⟨z,n⟩
 ·rw[g.2] at z;cases z
 ·rw[z];exact⟨by show i+1<=y.2.1+1;omega,g.2⟩
 ·rw[z];refine⟨?_,g.2⟩;by_cases e:y.2.1=i
  ·exact absurd ⟨g.2,e,hp,hq⟩ n
  ·omega
theorem in_part(h:Mid N t0 (i+1) R)(N60:N<=60)(q:Half N t0 i R P e)(D:Deal i R P ks fo){a b:Nat}(ha:a∈P)(r:Reach (tiF R (kpB i)) a b):Reach (tiF (R.map (A9 i P ks fo)) (kpB (i+1))) a b:=by
 obtain⟨ws,hw⟩:=r
 induction hw with
 |nil=>exact .refl
 | @snoc ws c b n hw qq ih=>
  have hc:=q.closed h N60 ha ⟨ws,hw⟩;have hb:=q.closed h N60 hc (.step qq);obtain⟨t,ht,_,hh⟩:=nb_elim qq;refine ih.trans ?_;rcases hh with⟨e1,e2⟩|⟨e1,e2⟩
  ·have:=rtie (within_risen h.nd D ht (by rw[e1];exact hc) (by rw[e2];exact hb))
   rwa [e1,e2] at this
  ·have:=rtie (within_risen h.nd D ht (by rw[e2];exact hb) (by rw[e1];exact hc));rw[e1,e2] at this;exact this.symm
theorem out_part(h:Mid N t0 (i+1) R)(N60:N<=60)(q:Half N t0 i R P e)(D:Deal i R P ks fo){a b:Nat}(ha:a ∉ P)(r:Reach (tiF (R.map (A9 i P ks fo)) (kpB (i+1))) a b):b ∉ P/\Reach (tiF R (kpB (i+1))) a b:=by
 obtain⟨ws,hw⟩:=r
 induction hw with
 |nil=>exact⟨ha,.refl⟩
 | @snoc ws c b n hw qq ih=>
  obtain⟨hc,rc⟩:=ih;obtain⟨t,ht,_,hh⟩:=nb_elim qq;have ht':t∈tiF R (kpB (i+1)):=by
   rcases high_keep h.nd D (Nat.le_refl _) t ht with z|⟨_,_,z1,z2⟩
   ·exact z
   ·rcases hh with⟨e1,e2⟩|⟨e1,e2⟩
    ·rw[e1] at z1;exact absurd z1 hc
    ·rw[e1] at z2;exact absurd z2 hc
  have rcb:Reach (tiF R (kpB (i+1))) c b:=by
   have:=rtie ht';rcases hh with⟨e1,e2⟩|⟨e1,e2⟩
   ·rwa [e1,e2] at this
   ·rw[e1,e2] at this;exact this.symm
  exact⟨λhb=>hc (q.closed h N60 hb (rcb.symm.mono (kp_le (Nat.le_succ i)))),rc.trans rcb⟩
theorem above_hi(h:Mid N t0 (i+1) R)(N60:N<=60)(q:Half N t0 i R P e)(D:Deal i R P ks fo){j:Nat}(hj:i+1<=j){y:R6}(hy:y∈R)(g:j<=(A9 i P ks fo y).2.1):Reach (tiF (R.map (A9 i P ks fo)) (kpB j)) y.1.2.1 y.1.2.2.1:=by
 rcases Cc h.nd D hy with⟨_,z,b,_,_⟩|⟨z,b,c1,c2⟩|⟨z,_⟩
 ·rw[z] at g;have g:j<=y.2.1:=g;omega
 ·rw[z] at g;have g:j<=y.2.1+1:=g;have:j=i+1:=by omega
  subst this;exact in_part h N60 q D c1 (q.join h N60 c1 c2)
 ·rw[z] at g;exact(h.hi j hj y hy g).mono (keep_high h.nd D hj)
theorem inN_beh(h:Mid N t0 (i+1) R)(p:R6->Bool):InN N (tiF (R.map (A9 i P ks fo)) p):=λt ht=>by
 obtain⟨y',hy',_,rfl⟩:=mem_ti.mp ht;obtain⟨y,hy,rfl⟩:=List.mem_map.mp hy';rw[Cy];exact⟨(h.ok y hy).2.1.1,(h.ok y hy).2.1.2.1⟩
theorem above_shi(h:Mid N t0 (i+1) R)(N60:N<=60)(q:Half N t0 i R P e)(D:Deal i R P ks fo){j:Nat}(hj:i+1<=j)(lj:(j:Int)<=lay N){p:Nat}(hp:p<N):((Ar N (tiF (R.map (A9 i P ks fo)) (kpB j)) p).length:Int)<=rm N j:=by
 have s:=h.shi j hj lj p hp;by_cases g:j=i+1
 ·subst g;by_cases gp:p∈P
  ·have nd:(Ar N (tiF (R.map (A9 i P ks fo)) (kpB (i+1))) p).Nodup:=(List.nodup_range).sublist List.filter_sublist;have sub:∀v∈Ar N (tiF (R.map (A9 i P ks fo)) (kpB (i+1))) p,v∈P:=λv hv=>by
    have r:=((A6 (inN_beh h _) hp N60).mp hv).2;refine Classical.byContradiction λhn=> ?_;exact(out_part h N60 q D hn r.symm).1 gp
   have l:=List.Nodup.length_le_of_subset nd sub;have:=q.small h N60 (by omega);rw[show ((i+1:Nat):Int)=(i:Int)+1 by omega];omega
  ·have:=Dv (inN_beh (P:=P) (ks:=ks) (fo:=fo) h (kpB (i+1))) (h.inN (kpB (i+1))) N60 hp λv r=>(out_part h N60 q D gp r).2;omega
 ·have:=Dv (inN_beh (P:=P) (ks:=ks) (fo:=fo) h (kpB j)) (h.inN (kpB j)) N60 hp λv r=>r.mono λt ht=>(high_keep h.nd D hj t ht).elim id λz=>absurd z.1 g;omega
theorem beh_ok(h:Mid N t0 (i+1) R)(N24:N<=24)(q:Half N t0 i R P e)(D:Deal i R P ks fo):∀x∈R.map (A9 i P ks fo),RowOk N x:=λx hx=>by
 obtain⟨y,hy,rfl⟩:=List.mem_map.mp hx;obtain⟨o1,o2,o3,o4⟩:=h.ok y hy;rcases Cc h.nd D hy with⟨_,z,_,_,_⟩|⟨z,b,c1,c2⟩|⟨z,_⟩
 ·rw[z];exact⟨o1,o2,o3,o4⟩
 ·rw[z];refine⟨o1,o2,o3,?_⟩;have s:=q.small h (by omega) (by omega);have two:2<=P.length:=by
   have:=List.Nodup.length_le_of_subset (l₁:=[y.1.2.1,y.1.2.2.1]) (l₂:=P) (by simp[o2.2.2]) (λv hv=>by
    rcases List.mem_cons.mp hv with rfl|hv
    ·exact c1
    ·rw[List.mem_singleton.mp hv];exact c2)
   exact this
  have:=(rm_ge (m:=(N:Int)) (k:=i) (by have:=h.e1;omega) (by omega)).mp (by omega);show ((y.2.1+1:Nat):Int)<=lay N;omega
 ·rw[z];exact⟨o1,o2,o3,o4⟩
theorem beh_nd(nd:(R.map (·.1.1)).Nodup):((R.map (A9 i P ks fo)).map (·.1.1)).Nodup:=by
 rw[List.map_map];have:((·.1.1)∘A9 i P ks fo:R6->Str)=(·.1.1):=by funext x;show (A9 i P ks fo x).1.1=x.1.1;rw[Cy]
 rw[this];exact nd
theorem ti_beh(R:List R6)(hn:∀x∈R,(A9 i P ks fo x).2.2=x.2.2):tiF (R.map (A9 i P ks fo)) (kpB 0)=tiF R (kpB 0):=by
 unfold tiF;rw[List.filter_map,List.map_map];have e1:((·.1)∘A9 i P ks fo:R6->T4)=(·.1):=by funext x;exact Cy ..
 rw[e1]
 congr 1
 refine List.filter_congr λx hx=> ?_;show kpB 0 (A9 i P ks fo x)=kpB 0 x;unfold kpB;rw[hn x hx];simp
theorem across_join(h:Mid N t0 (i+1) R)(N60:N<=60)(q:Half N t0 i R P e){y:R6}(hy:y∈R)(yi:y.2.1=i)(ya:Across P y):(Reach (tiF R (kpB i)) y.1.2.1 t0.2.1/\Reach (tiF R (kpB i)) t0.2.2.1 y.1.2.2.1)\/(Reach (tiF R (kpB i)) y.1.2.1 t0.2.2.1/\Reach (tiF R (kpB i)) t0.2.1 y.1.2.2.1):=by
 have r:=h.lo i (Nat.lt_succ_self i) y hy (by omega);rcases reach_snoc.mp r with r|r|r
 ·exfalso;rcases ya with⟨a,b⟩|⟨a,b⟩
  ·exact b (q.closed h N60 a r)
  ·exact a (q.closed h N60 b r.symm)
 ·exact .inl r
 ·exact .inr r
theorem Mid.next(h:Mid N t0 (i+1) R)(N24:N<=24)(q:Half N t0 i R P e)(D:Deal i R P ks none):Mid N t0 i (R.map (A9 i P ks none)) where
 e1:=h.e1
 e2:=h.e2
 ok:=beh_ok h N24 q D
 nd:=beh_nd h.nd
 len:=by rw[List.length_map];exact h.len
 hi:=λj hj x hx g=>by
  have N60:N<=60:=by omega
  obtain⟨y,hy,rfl⟩:=List.mem_map.mp hx;rw[Cy];by_cases gj:i+1<=j
  ·exact above_hi h N60 q D gj hy g
  ·have:j=i:=by omega
   subst this;have yi:j<=y.2.1:=by
    rcases Cc h.nd D hy with⟨a,_⟩|⟨_,b,_⟩|⟨z,_⟩
    ·cases a
    ·omega
    ·rw[z] at g;exact g
   refine Reach.mono (keep_low h.nd D (Nat.le_refl _)) ?_;by_cases y1:j+1<=y.2.1
   ·exact(h.hi (j+1) (Nat.le_refl _) y hy y1).mono (kp_le (Nat.le_succ j))
   ·have yj:y.2.1=j:=by omega
    cases yk:y.2.2 with
    |true=>exact rtie (mem_ti.mpr ⟨y,hy,kp_iff.mpr ⟨yi,yk⟩,rfl⟩)
    |false=>
     refine Classical.byContradiction λnr=> ?_;refine D.hn rfl y hy yj yk ?_;rcases reach_snoc.mp (h.lo j (Nat.lt_succ_self j) y hy yi) with r|⟨r1,r2⟩|⟨r1,r2⟩
     ·exact absurd r nr
     ·rcases q.he with z|z
      ·have hp:y.1.2.1∈P:=(q.mem h N60).mpr ⟨(h.ok y hy).2.1.1,by rw[z];exact r1.symm⟩;exact .inl ⟨hp,λhq=>nr (q.join h N60 hp hq)⟩
      ·have hq:y.1.2.2.1∈P:=(q.mem h N60).mpr ⟨(h.ok y hy).2.1.2.1,by rw[z];exact r2⟩;exact .inr ⟨λhp=>nr (q.join h N60 hp hq),hq⟩
     ·rcases q.he with z|z
      ·have hq:y.1.2.2.1∈P:=(q.mem h N60).mpr ⟨(h.ok y hy).2.1.2.1,by rw[z];exact r2⟩;exact .inr ⟨λhp=>nr (q.join h N60 hp hq),hq⟩
      ·have hp:y.1.2.1∈P:=(q.mem h N60).mpr ⟨(h.ok y hy).2.1.1,by rw[z];exact r1.symm⟩;exact .inl ⟨hp,λhq=>nr (q.join h N60 hp hq)⟩
 lo:=λj hj x hx g=>by
  obtain⟨y,hy,rfl⟩:=List.mem_map.mp hx;rw[Cy];have yj:j<=y.2.1:=by
   rcases Cc h.nd D hy with⟨a,_⟩|⟨_,b,_⟩|⟨z,_⟩
   ·cases a
   ·omega
   ·rw[z] at g;exact g
  refine(h.lo j (by omega) y hy yj).mono λt ht=> ?_;rcases List.mem_append.mp ht with ht|ht
  ·exact List.mem_append_left _ (keep_low h.nd D (by omega) t ht)
  ·exact List.mem_append_right _ ht
 shi:=λj hj lj p hp=>by
  have N60:N<=60:=by omega
  by_cases gj:i+1<=j
  ·exact above_shi h N60 q D gj lj hp
  ·have:j=i:=by omega
   subst this;have:=Dv (inN_beh (P:=P) (ks:=ks) (fo:=none) h (kpB j)) (in_snoc (h.inN (kpB j)) h.e1 h.e2) N60 hp λv r=>r.mono λt ht=>List.mem_append_left _ ((low_keep h.nd D (Nat.le_refl _) t ht).elim id λ⟨_,_,z,_⟩=>by cases z);have:=h.slo j (Nat.lt_succ_self j) lj p hp;omega
 slo:=λj hj lj p hp=>by
  have N60:N<=60:=by omega
  have:=Dv (in_snoc (inN_beh (P:=P) (ks:=ks) (fo:=none) h (kpB j)) h.e1 h.e2) (in_snoc (h.inN (kpB j)) h.e1 h.e2) N60 hp λv r=>r.mono λt ht=>by
   rcases List.mem_append.mp ht with ht|ht
   ·exact List.mem_append_left _ ((low_keep h.nd D (by omega) t ht).elim id λ⟨_,_,z,_⟩=>by cases z)
   ·exact List.mem_append_right _ ht
  have:=h.slo j (by omega) lj p hp;omega
 forest:=by
  have:tiF (R.map (A9 i P ks none)) (kpB 0)=tiF R (kpB 0):=ti_beh R λx hx=>by
   rcases Cc h.nd D hx with⟨a,_⟩|⟨z,_⟩|⟨z,_⟩
   ·cases a
   ·rw[z]
   ·rw[z]
  rw[this];exact h.forest
theorem Mid.found(h:Mid N t0 (i+1) R)(N24:N<=24)(q:Half N t0 i R P e){f:Str}(D:Deal i R P ks (some f)):LGood N (R.map (A9 i P ks (some f))):=by
 have N60:N<=60:=by omega
 obtain⟨y0,hy0,yn,yi,yk,ya⟩:=D.hf f rfl;have bf:A9 i P ks (some f) y0=(y0.1,y0.2.1,true):=by
  unfold A9;rw[if_pos (by rw[yn])]
 have inF:∀j,j<=i->y0.1∈tiF (R.map (A9 i P ks (some f))) (kpB j):=λj hj=>
  mem_ti.mpr ⟨(y0.1,y0.2.1,true),List.mem_map.mpr ⟨y0,hy0,bf⟩,kp_iff.mpr ⟨by show j<=y0.2.1;omega,rfl⟩,rfl⟩
 have jn:=across_join h N60 q hy0 yi ya;have low:∀{j},j<=i->∀{a b},Reach (tiF R (kpB j)++[t0]) a b->Reach (tiF (R.map (A9 i P ks (some f))) (kpB j)) a b:=λ{j} hj {a b} r=>by
  have sub:∀{a b},Reach (tiF R (kpB j)) a b->Reach (tiF (R.map (A9 i P ks (some f))) (kpB j)) a b:=λr=>r.mono (keep_low h.nd D hj);have subi:∀{a b},Reach (tiF R (kpB i)) a b->Reach (tiF (R.map (A9 i P ks (some f))) (kpB j)) a b:=λr=>sub (r.mono (kp_le hj));have t:=rtie (inF j hj);have pq:Reach (tiF (R.map (A9 i P ks (some f))) (kpB j)) t0.2.1 t0.2.2.1:=by
   rcases jn with⟨r1,r2⟩|⟨r1,r2⟩
   ·exact((subi r1).symm.trans t).trans (subi r2).symm
   ·exact(subi r2).trans (t.symm.trans (subi r1))
  rcases reach_snoc.mp r with r|⟨r1,r2⟩|⟨r1,r2⟩
  ·exact sub r
  ·exact((sub r1).trans pq).trans (sub r2)
  ·exact((sub r1).trans pq.symm).trans (sub r2)
 have back:∀{j},j<=i->∀{a b},Reach (tiF (R.map (A9 i P ks (some f))) (kpB j)) a b->Reach (tiF R (kpB j)++[t0]) a b:=λ{j} hj {a b} r=>rties (λt ht=>by
  rcases low_keep h.nd D hj t ht with z|⟨y,hy,e1,rfl,e2,_,e4⟩
  ·exact rtie (List.mem_append_left _ z)
  ·have subi:∀{a b},Reach (tiF R (kpB i)) a b->Reach (tiF R (kpB j)++[t0]) a b:=λr=>(r.mono (kp_le hj)).mono λt ht=>List.mem_append_left _ ht;have t:=rtie (R:=tiF R (kpB j)++[t0]) (t:=t0) (List.mem_append_right _ (List.mem_singleton.mpr rfl));rcases across_join h N60 q hy e2 e4 with⟨r1,r2⟩|⟨r1,r2⟩
   ·exact((subi r1).trans t).trans (subi r2)
   ·exact((subi r1).trans t.symm).trans (subi r2)) r
 have same:∀L:Nat,(L:Int)<=lay N->∀x∈R.map (A9 i P ks (some f)),L<=x.2.1->Reach (tiF (R.map (A9 i P ks (some f))) (kpB L)) x.1.2.1 x.1.2.2.1:=λL hL x hx g=>by
  obtain⟨y,hy,rfl⟩:=List.mem_map.mp hx;rw[Cy];by_cases gL:i+1<=L
  ·exact above_hi h N60 q D gL hy g
  ·refine low (by omega) (h.lo L (by omega) y hy ?_);rcases Cc h.nd D hy with⟨_,_,b,_,_⟩|⟨_,b,_⟩|⟨z,_⟩
   ·omega
   ·omega
   ·rw[z] at g;exact g
 refine⟨beh_ok h N24 q D,beh_nd h.nd,by rw[List.length_map];exact h.len,λL hL a b r=>rties (λt ht=> ?_) r,λL hL p hp=> ?_,?_⟩
 ·obtain⟨x,hx,g,rfl⟩:=mem_ti.mp ht;exact same L hL x hx (fr_iff.mp g)
 ·have c:=Dv (inN_beh (P:=P) (ks:=ks) (fo:=some f) h (frB L)) (inN_beh (P:=P) (ks:=ks) (fo:=some f) h (kpB L)) N60 hp λv r=>rties (λt ht=>by
   obtain⟨x,hx,g,rfl⟩:=mem_ti.mp ht;exact same L hL x hx (fr_iff.mp g)) r
  by_cases gL:i+1<=L
  ·have:=above_shi h N60 q D gL hL hp;omega
  ·have:=Dv (inN_beh (P:=P) (ks:=ks) (fo:=some f) h (kpB L)) (in_snoc (h.inN (kpB L)) h.e1 h.e2) N60 hp λv r=>back (by omega) r;have:=h.slo L (by omega) hL p hp;omega
 ·have c:clsF N (tiF (R.map (A9 i P ks (some f))) (kpB 0))=clsF N (tiF R (kpB 0)++[t0]):=cls_congr λa b _ _=>⟨back (Nat.zero_le _),low (Nat.zero_le _)⟩
  have l:(tiF (R.map (A9 i P ks (some f))) (kpB 0)).length=(tiF R (kpB 0)).length+1:=by
   obtain⟨A,B,eR,ne⟩:=row_split hy0 h.nd;have oth:∀y∈A++B,(A9 i P ks (some f) y).2.2=y.2.2:=λy hy=>by
    have yR:y∈R:=by
     rw[eR];rcases List.mem_append.mp hy with hy|hy
     ·exact List.mem_append_left _ hy
     ·exact List.mem_append_right _ (List.mem_cons_of_mem _ hy)
    rcases Cc h.nd D yR with⟨a,_⟩|⟨z,_⟩|⟨z,_⟩
    ·exact absurd ((Option.some.inj a).symm.trans yn.symm) (ne y hy)
    ·rw[z]
    ·rw[z]
   have tA:=ti_beh (i:=i) (P:=P) (ks:=ks) (fo:=some f) A λy hy=>oth y (List.mem_append_left _ hy);have tB:=ti_beh (i:=i) (P:=P) (ks:=ks) (fo:=some f) B λy hy=>oth y (List.mem_append_right _ hy);rw[eR,List.map_append,List.map_cons,bf,ti_split,ti_split,tA,tB,if_pos (kp_iff.mpr ⟨Nat.zero_le _,rfl⟩),if_neg (λz=>by have:=(kp_iff.mp z).2;rw[yk] at this;cases this)];simp only[List.length_append,List.length_cons,List.length_nil];omega
  have:=h.forest;rw[c,l];omega
end
end K39
namespace K39
open PySem L2 Wk
abbrev M4:=Nat×Nat×Nat×Bool
def tM(x:M4):T4:=(default,x.1,x.2.1,0)
def kM(T:List M4)(L:Nat):List T4:=(T.filter λx=>decide (L<=x.2.2.1) && x.2.2.2).map tM
theorem mem_kM{T:List M4}{L:Nat}{t:T4}:t∈kM T L↔∃x∈T,L<=x.2.2.1/\x.2.2.2=true/\tM x=t:=by
 unfold kM;rw[List.mem_map];constructor
 ·rintro⟨x,h,e⟩;have:=List.mem_filter.mp h;rw[Bool.and_eq_true,decide_eq_true_eq] at this;exact⟨x,this.1,this.2.1,this.2.2,e⟩
 ·rintro⟨x,h,a,b,e⟩;exact⟨x,List.mem_filter.mpr ⟨h,by rw[Bool.and_eq_true,decide_eq_true_eq];exact⟨a,b⟩⟩,e⟩
structure LG(N:Nat)(T:List M4):Prop where
 ok:∀x∈T,x.1<N/\x.2.1<N/\x.1≠x.2.1/\(x.2.2.1:Int)<=lay N
 same:∀L:Nat,∀x∈T,L<=x.2.2.1->Reach (kM T L) x.1 x.2.1
 size:∀L:Nat,(L:Int)<=lay N->∀p,p<N->((Ar N (kM T L) p).length:Int)<=rm N L
 forest:clsF N (kM T 0)+(kM T 0).length<=N
theorem LG.inN{N:Nat}{T:List M4}(h:LG N T)(L:Nat):InN N (kM T L):=λt ht=>by
 obtain⟨x,hx,_,_,rfl⟩:=mem_kM.mp ht;exact⟨(h.ok x hx).1,(h.ok x hx).2.1⟩
theorem LG.nil{N:Nat}(N1:1<=N)(N24:N<=24):LG N [] where
 ok:=λx hx=>nomatch hx
 same:=λL x hx=>nomatch hx
 size:=λL hL v hv=>by
  rw[show kM [] L=[] from rfl,(ls_nil (N:=N) (by omega)).2 v hv];exact rm_1 (by omega) (by omega) (by omega) hL
 forest:=by
  rw[show kM [] 0=[] from rfl,cls_nil];exact Nat.le_refl _
theorem kM_snoc(T:List M4)(x:M4)(L:Nat):kM (T++[x]) L=kM T L++(if (decide (L<=x.2.2.1) && x.2.2.2)=true then [tM x] else []):=by
 unfold kM;rw[List.filter_append,List.map_append]
 congr 1
 rw[List.filter_cons,List.filter_nil];split
 ·rfl
 ·rfl
theorem LG.loose{N:Nat}{T:List M4}(h:LG N T){p q L:Nat}(hp:p<N)(hq:q<N)(ne:p≠q)(hL:(L:Int)<=lay N)(r:Reach (kM T L) p q):LG N (T++[(p,q,L,false)]):=by
 have e:∀j,kM (T++[(p,q,L,false)]) j=kM T j:=λj=>by
  rw[kM_snoc,if_neg (by simp),List.append_nil]
 refine⟨λx hx=> ?_,λj x hx g=> ?_,λj hj v hv=> ?_,?_⟩
 ·rcases List.mem_append.mp hx with hx|hx
  ·exact h.ok x hx
  ·rw[List.mem_singleton.mp hx];exact⟨hp,hq,ne,hL⟩
 ·rw[e];rcases List.mem_append.mp hx with hx|hx
  ·exact h.same j x hx g
  ·rw[List.mem_singleton.mp hx] at g ⊢;have g:j<=L:=g;refine r.mono λt ht=> ?_;obtain⟨y,hy,a,b,e⟩:=mem_kM.mp ht;exact mem_kM.mpr ⟨y,hy,by omega,b,e⟩
 ·rw[e];exact h.size j hj v hv
 ·rw[e];exact h.forest
theorem LG.kept{N:Nat}{T:List M4}(h:LG N T)(N60:N<=60){p q L:Nat}(lo:∀x∈T,L<=x.2.2.1)(hp:p<N)(hq:q<N)(hL:(L:Int)<=lay N)(nr:¬Reach (kM T L) p q)(hs:((Ar N (kM T L) p).length+(Ar N (kM T L) q).length:Int)<=rm N L):LG N (T++[(p,q,L,true)]):=by
 have low:∀j,j<=L->kM T j=kM T L:=λj hj=>by
  unfold kM
  congr 1
  refine List.filter_congr λx hx=> ?_;have:=lo x hx;rw[decide_eq_true (show j<=x.2.2.1 by omega),decide_eq_true this]
 have e1:∀j,j<=L->kM (T++[(p,q,L,true)]) j=kM T L++[tM (p,q,L,true)]:=λj hj=>by
  rw[kM_snoc,if_pos (by simp[hj]),low j hj]
 have e2:∀j,¬j<=L->kM (T++[(p,q,L,true)]) j=kM T j:=λj hj=>by
  rw[kM_snoc,if_neg (by simp[hj]),List.append_nil]
 refine⟨λx hx=> ?_,λj x hx g=> ?_,λj hj v hv=> ?_,?_⟩
 ·rcases List.mem_append.mp hx with hx|hx
  ·exact h.ok x hx
  ·rw[List.mem_singleton.mp hx];exact⟨hp,hq,λz=>nr (by have z:p=q:=z;rw[z];exact .refl),hL⟩
 ·by_cases gj:j<=L
  ·rw[e1 j gj];rcases List.mem_append.mp hx with hx|hx
   ·have:=h.same j x hx g;rw[low j gj] at this;exact this.mono λt ht=>List.mem_append_left _ ht
   ·rw[List.mem_singleton.mp hx];exact rtie (t:=tM (p,q,L,true)) (List.mem_append_right _ (List.mem_singleton.mpr rfl))
  ·rw[e2 j gj];rcases List.mem_append.mp hx with hx|hx
   ·exact h.same j x hx g
   ·rw[List.mem_singleton.mp hx] at g;exact absurd g gj
 ·by_cases gj:j<=L
  ·rw[e1 j gj];have old:=h.size j hj v hv;rw[low j gj] at old;have mo:=rm_mono (m:=(N:Int)) (by omega) gj;rcases part_two (t:=tM (p,q,L,true)) (h.inN L) hp hq N60 hv with z|z
   ·have z:(Ar N (kM T L++[tM (p,q,L,true)]) v).length<=(Ar N (kM T L) p).length+(Ar N (kM T L) q).length:=z;omega
   ·rw[z];exact old
  ·rw[e2 j gj];exact h.size j hj v hv
 ·rw[e1 0 (Nat.zero_le _)];have f:=h.forest;rw[low 0 (Nat.zero_le _)] at f;have:=cls_less (t:=tM (p,q,L,true)) hp hq nr;rw[List.length_append];show _+(_+1)<=N;omega
theorem count_labs{N p:Nat}{S:List T4}{ls:List Nat}(hl:LabOk N S ls)(hS:InN N S)(hp:p<N)(hN:N<=60):ls.count (ls.getD p 0)=(Ar N S p).length:=by
 have e:ls=(List.range N).map λv=>ls.getD v 0:=by
  refine List.ext_getElem (by rw[List.length_map,List.length_range,hl.len]) λi h1 h2=> ?_;rw[List.getElem_map,List.getElem_range,List.getD_eq_getElem?_getD,List.getElem?_eq_getElem h1];rfl
 have c:ls.count (ls.getD p 0)=((List.range N).filter λv=>decide (ls.getD v 0=ls.getD p 0)).length:=by
  conv=>lhs;arg 2;rw[e]
  rw[List.count_eq_countP,List.countP_map,List.countP_eq_length_filter];rfl
 rw[c]
 congr 1
 have:∀v∈List.range N,decide (ls.getD v 0=ls.getD p 0)=decide (v∈Ar N S p):=λv hv=>by
  have hv:=List.mem_range.mp hv;rw[Bool.eq_iff_iff,decide_eq_true_eq,decide_eq_true_eq,hl.iff v p hv hp,A6 hS hp hN];exact⟨λh=>⟨hv,h.symm⟩,λh=>h.2.symm⟩
 rw[List.filter_congr this];unfold Ar;refine List.filter_congr λv hv=> ?_;rw[Bool.eq_iff_iff,decide_eq_true_eq,List.mem_filter];exact⟨λh=>h.2,λh=>⟨hv,h⟩⟩
theorem cls_pos{N:Nat}(h:1<=N)(S:List T4):1<=clsF N S:=by
 refine Classical.byContradiction λz=> ?_;have z:clsF N S=0:=by omega
 unfold clsF at z;rw[List.countP_eq_zero] at z;have:=z 0 (List.mem_range.mpr h);exact this (by unfold leastB;simp)
def mOf(x:R6):M4:=(x.1.2.1,x.1.2.2.1,x.2.1,x.2.2)
theorem kM_rows(R:List R6)(L:Nat):kM (R.map mOf) L=(tiF R (kpB L)).map λt=>tM (t.2.1,t.2.2.1,0,false):=by
 unfold kM tiF;rw[List.filter_map,List.map_map,List.map_map];rfl
theorem LG.rows{N:Nat}{R:List R6}(h:LG N (R.map mOf))(N60:N<=60)(nd:(R.map (·.1.1)).Nodup)(len:R.length<=60)(nm:∀x∈R,NameOk x.1.1)(wt:∀x∈R,0<=x.1.2.2.2/\x.1.2.2.2<=1000000000):LGood N R:=by
 have to:∀{L:Nat} {a b:Nat},Reach (kM (R.map mOf) L) a b->Reach (tiF R (kpB L)) a b:=λ{L a b} r=>rties (λt ht=>by
  rw[kM_rows] at ht;obtain⟨u,hu,rfl⟩:=List.mem_map.mp ht;exact(rtie (t:=u) hu:Reach _ u.2.1 u.2.2.1)) r
 have fro:∀{L:Nat} {a b:Nat},Reach (tiF R (kpB L)) a b->Reach (kM (R.map mOf) L) a b:=λ{L a b} r=>rties (λt ht=>by
  rw[kM_rows];exact rtie (t:=tM (t.2.1,t.2.2.1,0,false)) (List.mem_map.mpr ⟨t,ht,rfl⟩)) r
 have ok:∀x∈R,RowOk N x:=λx hx=>by
  have:=h.ok (mOf x) (List.mem_map.mpr ⟨x,hx,rfl⟩);exact⟨nm x hx,⟨this.1,this.2.1,this.2.2.1⟩,wt x hx,this.2.2.2⟩
 have inT:∀p,InN N (tiF R p):=λp t ht=>by
  obtain⟨x,hx,_,rfl⟩:=mem_ti.mp ht;exact⟨(ok x hx).2.1.1,(ok x hx).2.1.2.1⟩
 have con:∀L:Nat,∀t∈tiF R (frB L),Reach (tiF R (kpB L)) t.2.1 t.2.2.1:=λL t ht=>by
  obtain⟨x,hx,g,rfl⟩:=mem_ti.mp ht;exact to (h.same L (mOf x) (List.mem_map.mpr ⟨x,hx,rfl⟩) (fr_iff.mp g))
 refine⟨ok,nd,len,λL _ a b r=>rties (con L) r,λL hL p hp=> ?_,?_⟩
 ·have:=Dv (inT (frB L)) (h.inN L) N60 hp λv r=>fro (rties (con L) r);have:=h.size L hL p hp;omega
 ·have c:clsF N (tiF R (kpB 0))=clsF N (kM (R.map mOf) 0):=cls_congr λa b _ _=>⟨fro,to⟩
  have l:(kM (R.map mOf) 0).length=(tiF R (kpB 0)).length:=by rw[kM_rows,List.length_map]
  have:=h.forest;omega
end K39
namespace K39
open PySem L2 Wk
def psV(ps:List Nat):List V:=ps.map λ(p:Nat)=>V.int (p:Int)
theorem psV_int(ps:List Nat):psV ps=(ps.map Int.ofNat).map V.int:=by unfold psV;rw[List.map_map];rfl
theorem ps_at'{l:List Nat}{v:Nat}(h:v<l.length):(psV l)[v]? =some (.int ((l.getD v 0:Nat):Int)):=by
 unfold psV;rw[List.getElem?_map,List.getElem?_eq_getElem h,List.getD_eq_getElem?_getD,List.getElem?_eq_getElem h];rfl
theorem count_ps(l:List Nat)(a:Nat):(l.map Int.ofNat).count (a:Int)=l.count a:=by
 rw[List.count_eq_countP,List.countP_map,List.count_eq_countP];refine List.countP_congr λx _=> ?_;show ((Int.ofNat x==(a:Int))=true)↔((x==a)=true);rw[beq_iff_eq,beq_iff_eq];exact⟨λz=>Int.ofNat.inj z,λz=>congrArg Int.ofNat z⟩
def m4V(x:M4):List V:=[.int (x.1:Int),.int (x.2.1:Int),.int (x.2.2.1:Int),.bl x.2.2.2]
def M4At(H:Hp)(ts:List Addr)(T:List M4):Prop:=ts.length=T.length/\∀(i:Nat) r x,ts[i]? =some r->T[i]? =some x->H r=some (.tup (m4V x))
theorem M4At.mono{H H':Hp}{ts:List Addr}{T:List M4}(h:M4At H ts T)(f:∀r xs,H r=some (.tup xs)->H' r=some (.tup xs)):M4At H' ts T:=⟨h.1,λi r x a b=>f _ _ (h.2 i r x a b)⟩
theorem M4At.get{H:Hp}{ts:List Addr}{T:List M4}(h:M4At H ts T){i:Nat}{r:Addr}(hr:ts[i]? =some r):∃x,T[i]? =some x/\H r=some (.tup (m4V x)):=by
 have hi:i<T.length:=by rw[<-h.1];exact(List.getElem?_eq_some_iff.mp hr).1
 exact⟨T[i],Ck hi,h.2 i r _ hr (Ck hi)⟩
theorem M4At.snoc{H:Hp}{ts:List Addr}{T:List M4}{r:Addr}{x:M4}(h:M4At H ts T)(hr:H r=some (.tup (m4V x))):M4At H (ts++[r]) (T++[x]):=by
 refine⟨by rw[List.length_append,List.length_append,h.1];rfl,λi r0 p0 e1 e2=> ?_⟩;rw[List.getElem?_append] at e1 e2;rw[h.1] at e1;split at e1
 ·rename_i z;rw[if_pos z] at e2;exact h.2 i r0 p0 e1 e2
 ·rename_i z;rw[if_neg z] at e2;have hz:i - T.length=0:=by
   have:=(List.getElem?_eq_some_iff.mp e1).1;simp only[List.length_cons,List.length_nil] at this;omega
  rw[hz] at e1 e2;cases e1;cases e2;exact hr
def PrsAt(H:Hp)(N:Nat)(qs:List Addr):Prop:=∀q∈qs,∃i j:Nat,i<N/\j<N/\H q=some (.tup [.int (i:Int),.int (j:Int)])
theorem PrsAt.mono{H H':Hp}{N:Nat}{qs:List Addr}(h:PrsAt H N qs)(f:∀r xs,H r=some (.tup xs)->H' r=some (.tup xs)):PrsAt H' N qs:=λq hq=>by
 obtain⟨i,j,a,b,e⟩:=h q hq;exact⟨i,j,a,b,f _ _ e⟩
theorem PrsAt.snoc{H:Hp}{N:Nat}{qs:List Addr}{r:Addr}{i j:Nat}(h:PrsAt H N qs)(hi:i<N)(hj:j<N)(e:H r=some (.tup [.int (i:Int),.int (j:Int)])):PrsAt H N (qs++[r]):=λq hq=>by
 rcases List.mem_append.mp hq with hq|hq
 ·exact h q hq
 ·rw[List.mem_singleton.mp hq];exact⟨i,j,hi,hj,e⟩
def But3(d c ti:Addr)(H H':Hp):Prop:=∀b o,H b=some o->b≠d->b≠c->b≠ti->H' b=some o
theorem But3.trans{d c ti:Addr}{H H1 H2:Hp}(h:But3 d c ti H H1)(h':But3 d c ti H1 H2):But3 d c ti H H2:=λb o e n1 n2 n3=>h' b o (h b o e n1 n2 n3) n1 n2 n3
theorem But.b3{d c ti:Addr}{H H':Hp}(h:But d c H H'):But3 d c ti H H':=λb o e n1 n2 _=>h b o e n1 n2
theorem But.tp{d c:Addr}{H H':Hp}(h:But d c H H')(D:DeckAt H d c):∀r xs,H r=some (.tup xs)->H' r=some (.tup xs):=λr xs e=>h.tup D e
def MOut(d c ti lb:Addr)(N L:Nat)(T:List M4)(H:Hp)(F:Addr->Hp->Prop):Prop:=∀(lb':Addr) (ls':List Nat) (ts':List Addr) (T2:List M4) (H':Hp),But3 d c ti H H'->DeckAt H' d c->H' lb'=some (.lst (psV ls'))->LabOk N (kM (T++T2) L) ls'->H' ti=some (.lst (ts'.map V.ref))->M4At H' ts' (T++T2)->T2.length<=N->(∀x∈T2,x.2.2.1=L/\x.2.2.2=true)->LG N (T++T2)->(lb'=lb\/H lb'=none)->F lb' H'
theorem MOut.mono{d c ti lb:Addr}{N L:Nat}{T:List M4}{H H':Hp}{F:Addr->Hp->Prop}(k:MOut d c ti lb N L T H F)(b:But d c H H')(D:DeckAt H d c)(D':DeckAt H' d c):MOut d c ti lb N L T H' F:=λlb' ls' ts' T2 H2 b3 D2 e l t M q o g f=>k lb' ls' ts' T2 H2 (b.b3.trans b3) D2 e l t M q o g (f.imp_right λz=>b.none D D' z)
structure MIn(N L:Nat)(ro:Int)(ls:List Nat)(T:List M4):Prop where
 N1:1<=N
 N24:N<=24
 lay:(L:Int)<=lay N
 room:ro=rm N L
 lab:LabOk N (kM T L) ls
 good:LG N T
 up:∀x∈T,L<=x.2.2.1
 few:T.length<=200
def spMerged:Sp:=λvs H Q _=>∃(d c lb ti:Addr) (N L:Nat) (Li ro:Int) (ls:List Nat) (ts:List Addr) (T:List M4),vs=[.ref d,.int (N:Int),.int Li,.int ro,.ref lb,.ref ti]/\Li=(L:Int)/\DeckAt H d c/\MIn N L ro ls T/\H lb=some (.lst (psV ls))/\lb≠d/\lb≠c/\H ti=some (.lst (ts.map V.ref))/\ti≠d/\ti≠c/\M4At H ts T/\MOut d c ti lb N L T H λr H'=>Q (.ref r) H'
def tPrs:TS:=λD σ H=>∃(d c lb ti pr:Addr) (N L:Nat) (ro:Int) (ls:List Nat) (ts qs:List Addr) (T:List M4),σ=[some (.ref d),some (.int (N:Int)),some (.int (L:Int)),some (.int ro),some (.ref lb),some (.ref ti),some (.ref pr),none,none,none,none,none]/\DeckAt H d c/\MIn N L ro ls T/\H lb=some (.lst (psV ls))/\H ti=some (.lst (ts.map V.ref))/\ti≠d/\ti≠c/\M4At H ts T/\H pr=some (.lst (qs.map V.ref))/\pr≠ti/\PrsAt H N qs/\qs.length<=N/\MOut d c ti lb N L T H λr H'=>D.rt (.ref r) H'
theorem lb_ti{H:Hp}{lb ti:Addr}{ls:List Nat}{ts:List Addr}(h1:H lb=some (.lst (psV ls)))(h2:H ti=some (.lst (ts.map V.ref)))(h:1<=ls.length):lb≠ti:=λz=>by
 rw[z,h2] at h1;injection h1 with h1;injection h1 with h1
 match ls,ts,h1,h with
 |[],_,_,h=>exact absurd h (by simp)
 |_::_,[],h1,_=>cases h1
 |_::_,_::_,h1,_=>cases h1
theorem ixL{xs:List Int}{i:Nat}(h:i<xs.length):(xs.map V.int)[i]? =some (.int xs[i]):=by rw[List.getElem?_map,Ck h];rfl
section
variable{P:Program}{w:World}{K:PySem.W.Frag}{mg:Str->Option Value}{base:Heap}
theorem scMerged:Av ["_law_deck_here","_law_many_here","_law_layer","_law_room","_law_labels","_law_ties","_law_pairs","_law_one","_law_other","_law_size","_law_near","_law_far"] ["_law_deck_here","_law_many_here","_law_layer","_law_room","_law_labels","_law_ties"] (Ag sMerged):=⟨rfl,rfl,rfl,by decide+kernel,rfl,by decide+kernel,by decide+kernel⟩
theorem ok_Merged{f:Addr}{fd:FuncData}(F:Fun K "_law_merged" "_law_merged" sMerged f fd)(T:Txt mg)(GTake:Cl P w K mg base 2 "_law_take" ["_law_deck_here","_law_most"] spTake):
  FnOk P w K mg base CX0 3 f fd ["_law_deck_here","_law_many_here","_law_layer","_law_room","_law_labels","_law_ties"] spMerged:=by
 refine F.ok scMerged (λvs H Q E h=> ?_) (λcdv A outer s H vs Q E hr h=> ?_)
 ·obtain⟨_,_,_,_,_,_,_,_,_,_,_,rfl,_⟩:=h;rfl
 ·obtain⟨d,c,lb,ti,N,L,Li,ro,ls,ts,T',rfl,rfl,hD,hI,hlb,nbd,nbc,hti,ntd,ntc,hT,k⟩:=h;have N1:=hI.N1;have N24:=hI.N24;refine⟨_,Ae (Dr (i:=6) (T:=["_law_place"]) (F:=[]) (js:=[]) scMerged.nd rfl (Or.inl rfl) (cs (osc:=Ag sMerged)) rfl (Bt rfl T.range (Aa (Az op_sub (pv 1) Af) Ac)) (λ_ _ _ _ _=>Ah (i:=0) (show (["_law_place"]:List Str).Nodup by decide+kernel) rfl (Or.inl rfl)) (λ_ _ _ _ _=>A8) (λ_ _ _ _ _=>Bk (Aa (pv 0) (Aa (Az Bm (pv 0) Af) Ac))))
   (Ae (Bi (PW.pt (pw_or (Au op_gt (pv 2) Af (Ay _)) (Ds (Au op_ne (At GTake hr (Aa (pv 0) (Aa Af Ac))) Af (Ay _))))) (Ai (Dr (i:=6) (T:=["_law_turn"]) (F:=["_law_deck_here","_law_many_here"]) (js:=[0,1]) scMerged.nd rfl (Or.inl rfl) (cs (osc:=Ag sMerged)) rfl (Bt rfl T.range (Aa (At GTake hr (Aa (pv 0) (Aa (Az Bm (pv 1) Af) Ac))) Ac)) (λ_ _ _ _ _=>Ah (i:=0) (show (["_law_turn","_law_deck_here","_law_many_here"]:List Str).Nodup by decide+kernel) rfl (Or.inl rfl)) (λ_ _ _ _ _=>A8) (λ_ _ _ _ _=>Bk (Aa (At GTake hr (Aa (pv 1) (Aa (pv 2) Ac))) (Aa (At GTake hr (Aa (pv 1) (Aa (pv 2) Ac))) Ac))))) A2)
   (PSs.imp' (t':=tPrs) (Ae (Dx PassesOwn.never rfl (Ce (pv 6)) (Co rfl (Al (Ah (i:=7) scMerged.nd rfl (Or.inl rfl)) (Al (Ah (i:=8) scMerged.nd rfl (Or.inl rfl)) Bf))) (Ae (Aw (i:=9) scMerged.nd rfl (Or.inl rfl) (Az Bm (pe_bm PySem.F.plainAttrs_list PySem.F.slot_list_count PySem.F.type_list_count mt_countL (pv 4) (Aa (A1 A0 (pv 4) (pv 7) (λ_ _=>rfl)) Ac)) (pe_bm PySem.F.plainAttrs_list PySem.F.slot_list_count PySem.F.type_list_count mt_countL (pv 4) (Aa (A1 A0 (pv 4) (pv 8) (λ_ _=>rfl)) Ac))))
   (Ai (Bi (PW.pt (pw_and (Au op_ne (A1 A0 (pv 4) (pv 7) (λ_ _=>rfl)) (A1 A0 (pv 4) (pv 8) (λ_ _=>rfl)) (Ay _)) (pw_and1 (Au op_le (pv 9) (pv 3) (Ay _))))) (Ae (Cw (pe_bm PySem.F.plainAttrs_list PySem.F.slot_list_append PySem.F.type_list_append Cb (pv 5) (Aa (Bk (Aa (pv 7) (Aa (pv 8) (Aa (pv 2) (Aa Ch Ac))))) Ac)))
   (Ae (Cz (Bk (Aa (A1 A0 (pv 4) (pv 7) (λ_ _=>rfl)) (Aa (A1 A0 (pv 4) (pv 8) (λ_ _=>rfl)) Ac))) (Co rfl (Al (Ah (i:=10) scMerged.nd rfl (Or.inr rfl)) (Al (Ah (i:=11) scMerged.nd rfl (Or.inr rfl)) Bf))))
   (Ai (Dr (i:=4) (T:=["_law_label"]) (F:=["_law_near","_law_far"]) (js:=[10,11]) scMerged.nd rfl (Or.inl rfl) (cs (osc:=Ag sMerged)) rfl (Ce (pv 4)) (λ_ _ _ _ _=>Ah (i:=0) (show (["_law_label","_law_near","_law_far"]:List Str).Nodup by decide+kernel) rfl (Or.inl rfl)) (λ_ _ _ _ _=>A8) (λ_ _ _ _ _=>pe_ifExp (Au Dt (pv 0) (pv 2) (Ay _)) (pv 1) (pv 0)))))) A2))))
   (Ai (Ao (pv 4)))) ?prs)),?_⟩
  case prs=>
   clear k hD hlb hti hT;rintro Dd σ H ⟨d,c,lb,ti,pr,N,L,ro,ls,ts,qs,T,rfl,hD,hI,hlb,hti,ntd,ntc,hT,hpr,npt,hP,ql,k⟩;have N24:=hI.N24;have T200:=hI.few;have N60:N<=60:=by omega
   refine⟨_,rfl,pr,rfl,⟨_,SqL.of hpr⟩,for_list (K:=K) (a:=pr) (xs:=qs.map V.ref) (λj σ H2=>∃(lb':Addr) (ls':List Nat) (ts':List Addr) (T2:List M4) (u7 u8 u9 u10 u11:Option V),σ=[some (.ref d),some (.int (N:Int)),some (.int (L:Int)),some (.int ro),some (.ref lb'),some (.ref ti),some (.ref pr),u7,u8,u9,u10,u11]/\(∀b o,H b=some o->b≠ti->H2 b=some o)/\H2 lb'=some (.lst (psV ls'))/\LabOk N (kM (T++T2) L) ls'/\H2 ti=some (.lst (ts'.map V.ref))/\M4At H2 ts' (T++T2)/\T2.length<=j/\(∀x∈T2,x.2.2.1=L/\x.2.2.2=true)/\LG N (T++T2)/\(lb'=lb\/H lb'=none)) ⟨lb,ls,ts,[],_,_,_,_,_,rfl,λb o e _=>e,hlb,by rw[List.append_nil];exact hI.lab,hti,by rw[List.append_nil];exact hT,Nat.le_refl _,(λx hx=>by cases hx),by rw[List.append_nil];exact hI.good,.inl rfl⟩ (λj σ H2 _ ⟨_,_,_,_,_,_,_,_,_,_,b2,_⟩=>SqL.of (b2 _ _ hpr npt)) ?_ ?_⟩
   ·rintro j x σ H2 hx ⟨lb',ls',ts',T2,u7,u8,u9,u10,u11,rfl,b2,h2,lok,ti2,hT',Tl,Tok',gd,fr⟩;have lsl':=lok.len;have h2':=h2;rw[psV_int] at h2';obtain⟨q,eq,rfl⟩:=Ax hx;obtain⟨p,r,hp,hr0,hq⟩:=hP q (List.mem_of_getElem? eq);have jq:j<qs.length:=(List.getElem?_eq_some_iff.mp eq).1;have hq2:=b2 _ _ hq (Cr hq hti (by intro z;cases z));have ip:=ps_at' (l:=ls') (v:=p) (by omega);have ir:=ps_at' (l:=ls') (v:=r) (by omega);have lT:(T++T2).length<=260:=by rw[List.length_append];omega
    refine⟨q,_,rfl,SqT.of hq2,rfl,_,_,rfl,_,_,rfl,rfl,?_⟩;refine⟨_,rfl,.inl ⟨rfl,_,SqL.of h2⟩,_,rfl,_,rfl,lb',_,_,_,rfl,rfl,SqL.of h2,Ap ip,lb',ls'.map Int.ofNat,_,rfl,rfl,h2',_,rfl,.inl ⟨rfl,_,SqL.of h2⟩,_,rfl,_,rfl,lb',_,_,_,rfl,rfl,SqL.of h2,Ap ir,lb',ls'.map Int.ofNat,_,rfl,rfl,h2',_,_,rfl,rfl,?_⟩;refine⟨_,rfl,_,rfl,lb',_,_,_,rfl,rfl,SqL.of h2,Ap ip,_,rfl,_,rfl,lb',_,_,_,rfl,rfl,SqL.of h2,Ap ir,rfl,_,rfl,Be (λg=> ?_) λg=> ?_⟩
    ·refine⟨_,rfl,_,rfl,_,_,rfl,rfl,_,rfl,Be (λg2=> ?_) λg2=> ?_⟩
     ·have pr':ls'.getD p 0≠ls'.getD r 0:=λz=>by rw[z] at g;simp at g
      have nr:¬Reach (kM (T++T2) L) p r:=λz=>pr' ((lok.iff p r hp hr0).mpr z);have g2:=of_decide_eq_true g2;rw[count_ps,count_ps,count_labs lok (gd.inN L) hp N60,count_labs lok (gd.inN L) hr0 N60,hI.room] at g2;have lo:∀x∈T++T2,L<=x.2.2.1:=λx hx=>by
       rcases List.mem_append.mp hx with hx|hx
       ·exact hI.up x hx
       ·rw[(Tok' x hx).1];exact Nat.le_refl _
      have gd':=gd.kept N60 lo hp hr0 hI.lay nr g2;have ek:kM (T++T2++[(p,r,L,true)]) L=kM (T++T2) L++[tM (p,r,L,true)]:=by rw[kM_snoc,if_pos (by simp)]
      have lok':LabOk N (kM (T++T2++[(p,r,L,true)]) L) (Wk.relab ls' (ls'.getD p 0) (ls'.getD r 0)):=by
       rw[ek];exact lab_step lok (gd.inN L) (t:=tM (p,r,L,true)) hp hr0
      rw[List.append_assoc] at gd' lok';have nlt:=lb_ti h2 ti2 (by omega);refine⟨_,rfl,.inl ⟨rfl,_,SqL.of ti2⟩,_,rfl,_,rfl,_,rfl,small (by simp),λr1 hr1=> ?_⟩;have s3:=Ad (o:= .tup (m4V (p,r,L,true))) hr1;have e3:=Ab (H:=H2) (a:=r1) (o:= .tup (m4V (p,r,L,true)));refine⟨ti,_,_,rfl,rfl,s3 _ _ ti2,Ak (by rw[List.length_map,hT'.1];omega),?_⟩;have s3:Same H2 (upd H2 r1 (.tup [.int (p:Int),.int (r:Int),.int (L:Int),.bl true])):=s3;have e3:upd H2 r1 (.tup [.int (p:Int),.int (r:Int),.int (L:Int),.bl true]) r1=some (.tup (m4V (p,r,L,true))):=e3;generalize upd H2 r1 (.tup [.int (p:Int),.int (r:Int),.int (L:Int),.bl true])=H3 at s3 e3 ⊢;have B4:∀b o,H b=some o->b≠ti->upd H3 ti (.lst (ts'.map V.ref++[.ref r1])) b=some o:=λb o e n=>by rw[Aj n];exact s3 _ _ (b2 b o e n)
      have h4:upd H3 ti (.lst (ts'.map V.ref++[.ref r1])) lb'=some (.lst (psV ls')):=by rw[Aj nlt];exact s3 _ _ h2
      have ti4:upd H3 ti (.lst (ts'.map V.ref++[.ref r1])) ti=some (.lst ((ts'++[r1]).map V.ref)):=by rw[Ab,List.map_append];rfl
      have kp:∀(r:Addr) (zs:List V),H3 r=some (.tup zs)->upd H3 ti (.lst (ts'.map V.ref++[.ref r1])) r=some (.tup zs):=λr zs e=>by rw[Aj (Cr e (s3 _ _ ti2) (by intro z;cases z))];exact e
      have M5:M4At (upd H3 ti (.lst (ts'.map V.ref++[.ref r1]))) (ts'++[r1]) (T++(T2++[(p,r,L,true)])):=by
       rw[<-List.append_assoc];exact(hT'.mono λr xs e=>kp _ _ (s3 _ _ e)).snoc (kp _ _ e3)
      generalize upd H3 ti (.lst (ts'.map V.ref++[.ref r1]))=H4 at B4 h4 ti4 M5 ⊢;refine⟨_,rfl,_,rfl,lb',_,_,_,rfl,rfl,SqL.of h4,Ap ip,_,rfl,_,rfl,lb',_,_,_,rfl,rfl,SqL.of h4,Ap ir,small (by simp),λt2 ht2=> ?_⟩;refine⟨t2,_,rfl,SqT.of Ab,rfl,_,_,rfl,_,_,rfl,rfl,?_⟩;have s5:=Ad (o:= .tup [.int ((ls'.getD p 0:Nat):Int),.int ((ls'.getD r 0:Nat):Int)]) ht2;generalize upd H4 t2 (.tup [.int ((ls'.getD p 0:Nat):Int),.int ((ls'.getD r 0:Nat):Int)])=H5 at s5 ⊢;generalize ls'.getD p 0=na at lok' ⊢;generalize ls'.getD r 0=fa at lok' ⊢;refine⟨_,rfl,lb',rfl,⟨_,SqL.of (s5 _ _ h4)⟩,λDn hDn=>Cj (K:=K) (a:=lb') (xs:=psV ls') (λj σ ys H6=>∃(u:Option V),σ=[u,some (.int (na:Int)),some (.int (fa:Int))]/\ys=psV (Wk.relab (ls'.take j) na fa)/\Same H5 H6/\H6 Dn=some (.lst ys)) ⟨none,rfl,rfl,Ad hDn,Ab⟩ (λj σ ys H6 _ ⟨_,_,_,s,e⟩=>⟨SqL.of (s _ _ (s5 _ _ h4)),e⟩) ?_ ?_⟩
      ·rintro i x σ ys H6 hx ⟨u,rfl,rfl,s6,d6⟩;obtain⟨z,ez,rfl⟩:∃z:Nat,ls'[i]? =some z/\x= .int (z:Int):=by
        unfold psV at hx;obtain⟨z,ez,rfl⟩:=Ax hx;exact⟨z,ez,rfl⟩
       have il:i<N:=by rw[<-lsl'];exact(List.getElem?_eq_some_iff.mp ez).1
       have len:(psV (Wk.relab (ls'.take i) na fa)).length<=60:=by
        unfold psV Wk.relab;rw[List.length_map,List.length_map,List.length_take];omega
       have nx:∀w:Nat,(if z=fa then na else z)=w->psV (Wk.relab (ls'.take i) na fa)++[V.int (w:Int)]=psV (Wk.relab (ls'.take (i+1)) na fa):=λw hw=>by
        unfold Wk.relab psV;rw[A4 ez,List.map_append,List.map_append,List.map_cons,List.map_nil,hw];rfl
       refine⟨_,rfl,_,rfl,rfl,_,rfl,Be (λg=> ?_) λg=> ?_⟩
       ·exact⟨_,rfl,d6,Ak (by omega),_,rfl,nx _ (if_pos (Int.ofNat.inj (V.int.inj (of_decide_eq_true g)))),Aq s6 hDn,Ab⟩
       ·exact⟨_,rfl,d6,Ak (by omega),_,rfl,nx _ (if_neg λz=>g (decide_eq_true (by rw[z]))),Aq s6 hDn,Ab⟩
      rintro σ ys H6 ⟨u,rfl,rfl,s6,d6⟩;have tl:ls'.take (psV ls').length=ls':=by unfold psV;rw[List.length_map,List.take_length]
      rw[tl] at d6;have B6:∀b o,H b=some o->b≠ti->H6 b=some o:=λb o e n=>s6 _ _ (s5 _ _ (B4 b o e n));refine⟨Dn,_,ts'++[r1],T2++[(p,r,L,true)],_,_,_,_,_,rfl,B6,d6,lok',s6 _ _ (s5 _ _ ti4),M5.mono λr xs e=>s6 _ _ (s5 _ _ e),by rw[List.length_append];simp;omega,λx hx=> ?_,gd',.inr ?_⟩
      ·rcases List.mem_append.mp hx with hx|hx
       ·exact Tok' x hx
       ·rw[List.mem_singleton.mp hx];exact⟨rfl,rfl⟩
      ·cases g9:H Dn with
       |none=>rfl
       |some o=>
        have nD:Dn≠ti:=λz=>by rw[z,s5 _ _ ti4] at hDn;cases hDn
        rw[s5 _ _ (B4 _ _ g9 nD)] at hDn;cases hDn
     ·exact⟨lb',ls',ts',T2,_,_,_,_,_,rfl,b2,h2,lok,ti2,hT',by omega,Tok',gd,fr⟩
    ·exact⟨lb',ls',ts',T2,_,_,_,_,_,rfl,b2,h2,lok,ti2,hT',by omega,Tok',gd,fr⟩
   rintro σ H2 ⟨lb',ls',ts',T2,u7,u8,u9,u10,u11,rfl,b2,h2,lok,ti2,hT',Tl,Tok',gd,fr⟩;rw[List.length_map] at Tl;refine⟨_,rfl,k lb' ls' ts' T2 H2 (λb o e _ _ n3=>b2 b o e n3) ?_ h2 lok ti2 hT' (by omega) Tok' gd fr⟩;obtain⟨cs,S,k0,g,h1,h3,r⟩:=hD;exact⟨cs,S,k0,g,b2 _ _ h1 ntd.symm,b2 _ _ h3 ntc.symm,r⟩
  refine⟨_,rfl,_,_,rfl,rfl,(N:Int) - 1,rfl,by omega,by omega,λDp hDp=>Bn (lo:=0) (n:=((N:Int) - 1).toNat) (λj σ ys H2=>∃(u:Option V) (qs:List Addr),σ=[u]/\ys=qs.map V.ref/\Same H H2/\H2 Dp=some (.lst ys)/\PrsAt H2 N qs/\qs.length=j) ⟨none,[],rfl,rfl,Ad hDp,Ab,(λq hq=>by cases hq),rfl⟩ (λj σ ys H2 _ ⟨_,_,_,_,_,e,_⟩=>e) ?_ ?_⟩
  ·rintro j σ ys H2 hj ⟨u,qs,rfl,rfl,s2,d2,p2,l2⟩;refine⟨_,rfl,_,rfl,_,_,rfl,rfl,small (by simp),λt ht=> ?_⟩;have s8:=Ad (o:= .tup [.int (0+(j:Int)),.int (0+(j:Int)+1)]) ht;have kp:∀(r:Addr) (zs:List V) (o:HO),upd H2 t (.tup [.int (0+(j:Int)),.int (0+(j:Int)+1)]) r=some (.tup zs)->upd (upd H2 t (.tup [.int (0+(j:Int)),.int (0+(j:Int)+1)])) Dp o r=some (.tup zs):=λr zs o e=>by rw[Aj (Cr e (s8 _ _ d2) (by intro z;cases z))];exact e
   refine⟨s8 _ _ d2,Ak (by rw[List.length_map];omega),_,qs++[t],rfl,by rw[List.map_append];rfl,Aq (s2.trans s8) hDp,Ab,?_,by simp[l2]⟩;refine(p2.mono λr zs e=>kp _ _ _ (s8 _ _ e)).snoc (i:=j) (j:=j+1) (by omega) (by omega) (kp _ _ _ ?_);rw[Ab,Int.zero_add];rfl
  rintro σ ys H2 ⟨u,qs,rfl,rfl,s2,d2,p2,l2⟩;have D2:=hD.same s2;refine⟨_,rfl,_,_,rfl,rfl,_,rfl,Be (λg=> ?_) λg=> ?_⟩
  ·refine⟨_,rfl,_,rfl,_,_,rfl,rfl,d,c,_,rfl,D2,by omega,by omega,λm H4 m0 m1 b4 D4=>⟨m,rfl,by omega,by omega,λDp hDp=>Bn (lo:=0) (n:=m.toNat) (λj σ ys H5=>∃(u:Option V) (qs:List Addr),σ=[u,some (.ref d),some (.int (N:Int))]/\ys=qs.map V.ref/\But d c H4 H5/\DeckAt H5 d c/\H5 Dp=some (.lst ys)/\PrsAt H5 N qs/\qs.length=j) ⟨none,[],rfl,rfl,But.of (Ad hDp),D4.same (Ad hDp),Ab,(λq hq=>by cases hq),rfl⟩ (λj σ ys H5 _ ⟨_,_,_,_,_,_,e,_⟩=>e) ?_ ?_⟩⟩
   ·rintro j σ ys H5 hj ⟨u,qs,rfl,rfl,b5,D5,d5,p5,l5⟩;have nDd:=D4.nd hDp;have nDc:=D4.nc hDp;refine⟨_,rfl,_,rfl,d,c,_,rfl,D5,by omega,by omega,λx H6 x0 x1 b6 D6=>⟨_,rfl,_,rfl,d,c,_,rfl,D6,by omega,by omega,λy H7 y0 y1 b7 D7=>⟨small (by simp),λt ht=> ?_⟩⟩⟩;obtain⟨x,rfl⟩:=Cs x0;obtain⟨y,rfl⟩:=Cs y0;have d7:=b7 _ _ (b6 _ _ d5 nDd nDc) nDd nDc;have s8:=Ad (o:= .tup [.int (x:Int),.int (y:Int)]) ht;have kp:∀(r:Addr) (zs:List V) (o:HO),upd H7 t (.tup [.int (x:Int),.int (y:Int)]) r=some (.tup zs)->upd (upd H7 t (.tup [.int (x:Int),.int (y:Int)])) Dp o r=some (.tup zs):=λr zs o e=>by rw[Aj (Cr e (s8 _ _ d7) (by intro z;cases z))];exact e
    refine⟨s8 _ _ d7,Ak (by rw[List.length_map];omega),_,qs++[t],rfl,by rw[List.map_append];rfl,λb o e n1 n2=> ?_,(D7.same s8).set nDd nDc,Ab,?_,by simp[l5]⟩
    ·rw[Aj (An e hDp)];exact s8 _ _ (b7 _ _ (b6 _ _ (b5 _ _ e n1 n2) n1 n2) n1 n2)
    ·exact((p5.mono λr zs e=>kp _ _ _ (s8 _ _ (b7.tp D6 _ _ (b6.tp D5 _ _ e)))).snoc (by omega) (by omega) (kp _ _ _ Ab))
   rintro σ ys H5 ⟨u,qs,rfl,rfl,b5,D5,d5,p5,l5⟩;have B5:=((But.of s2).trans b4).trans b5;have hti5:=B5 _ _ hti ntd ntc;have tpl:Dp≠ti:=λz=>by
    rw[z,b4 _ _ (s2 _ _ hti) ntd ntc] at hDp;cases hDp
   exact⟨d,c,lb,ti,Dp,N,L,ro,ls,ts,qs,T',rfl,D5,hI,B5 _ _ hlb nbd nbc,hti5,ntd,ntc,hT.mono (B5.tp hD),d5,tpl,p5,by omega,k.mono B5 hD D5⟩
  refine⟨_,rfl,d,c,8,rfl,D2,by decide,by decide,λv H3 v0 v1 b3 D3=>⟨rfl,_,rfl,Be (λg=> ?_) λg=> ?_⟩⟩
  ·refine⟨_,rfl,_,rfl,_,_,rfl,rfl,d,c,_,rfl,D3,by omega,by omega,λm H4 m0 m1 b4 D4=>⟨m,rfl,by omega,by omega,λDp hDp=>Bn (lo:=0) (n:=m.toNat) (λj σ ys H5=>∃(u:Option V) (qs:List Addr),σ=[u,some (.ref d),some (.int (N:Int))]/\ys=qs.map V.ref/\But d c H4 H5/\DeckAt H5 d c/\H5 Dp=some (.lst ys)/\PrsAt H5 N qs/\qs.length=j) ⟨none,[],rfl,rfl,But.of (Ad hDp),D4.same (Ad hDp),Ab,(λq hq=>by cases hq),rfl⟩ (λj σ ys H5 _ ⟨_,_,_,_,_,_,e,_⟩=>e) ?_ ?_⟩⟩
   ·rintro j σ ys H5 hj ⟨u,qs,rfl,rfl,b5,D5,d5,p5,l5⟩;have nDd:=D4.nd hDp;have nDc:=D4.nc hDp;refine⟨_,rfl,_,rfl,d,c,_,rfl,D5,by omega,by omega,λx H6 x0 x1 b6 D6=>⟨_,rfl,_,rfl,d,c,_,rfl,D6,by omega,by omega,λy H7 y0 y1 b7 D7=>⟨small (by simp),λt ht=> ?_⟩⟩⟩;obtain⟨x,rfl⟩:=Cs x0;obtain⟨y,rfl⟩:=Cs y0;have d7:=b7 _ _ (b6 _ _ d5 nDd nDc) nDd nDc;have s8:=Ad (o:= .tup [.int (x:Int),.int (y:Int)]) ht;have kp:∀(r:Addr) (zs:List V) (o:HO),upd H7 t (.tup [.int (x:Int),.int (y:Int)]) r=some (.tup zs)->upd (upd H7 t (.tup [.int (x:Int),.int (y:Int)])) Dp o r=some (.tup zs):=λr zs o e=>by rw[Aj (Cr e (s8 _ _ d7) (by intro z;cases z))];exact e
    refine⟨s8 _ _ d7,Ak (by rw[List.length_map];omega),_,qs++[t],rfl,by rw[List.map_append];rfl,λb o e n1 n2=> ?_,(D7.same s8).set nDd nDc,Ab,?_,by simp[l5]⟩
    ·rw[Aj (An e hDp)];exact s8 _ _ (b7 _ _ (b6 _ _ (b5 _ _ e n1 n2) n1 n2) n1 n2)
    ·exact((p5.mono λr zs e=>kp _ _ _ (s8 _ _ (b7.tp D6 _ _ (b6.tp D5 _ _ e)))).snoc (by omega) (by omega) (kp _ _ _ Ab))
   rintro σ ys H5 ⟨u,qs,rfl,rfl,b5,D5,d5,p5,l5⟩;have B5:=(((But.of s2).trans b3).trans b4).trans b5;have hti5:=B5 _ _ hti ntd ntc;have tpl:Dp≠ti:=λz=>by
    rw[z,b4 _ _ (b3 _ _ (s2 _ _ hti) ntd ntc) ntd ntc] at hDp;cases hDp
   exact⟨d,c,lb,ti,Dp,N,L,ro,ls,ts,qs,T',rfl,D5,hI,B5 _ _ hlb nbd nbc,hti5,ntd,ntc,hT.mono (B5.tp hD),d5,tpl,p5,by omega,k.mono B5 hD D5⟩
  ·dsimp only[Br];have B5:=(But.of (d:=d) (c:=c) s2).trans b3;have hti5:=B5 _ _ hti ntd ntc;have tpl:Dp≠ti:=(An hti hDp).symm;have d3:=b3 _ _ d2 (hD.nd hDp) (hD.nc hDp);exact⟨d,c,lb,ti,Dp,N,L,ro,ls,ts,qs,T',rfl,D3,hI,B5 _ _ hlb nbd nbc,hti5,ntd,ntc,hT.mono (B5.tp hD),d3,tpl,p2.mono (b3.tp D2),by omega,k.mono B5 hD D3⟩
end
end K39
namespace L2
open PySem PySem.Spec PyProof.Rows
theorem for_zipL{K:PySem.W.Frag}{a b:Addr}{xs ys:List V}{g:TG}{tb:TS}{D:Ends}{σ:St}{H:Hp}(Pv:Nat->St->Hp->Prop)(h0:Pv 0 σ H)(hl:∀i σ H,i<=xs.length->i<=ys.length->Pv i σ H->SqL K H a xs/\SqL K H b ys)(hs:∀i x y σ H T,xs[i]? =some x->ys[i]? =some y->Pv i σ H->H T=none->g (.ref T) σ (upd H T (.tup [x,y])) λσ2 H2=>tb {D with nx:=Pv (i+1),ct:=Pv (i+1),bk:=D.nx} σ2 H2)(hd:∀i σ H,i=min xs.length ys.length->Pv i σ H->D.nx σ H):
  ∃W:Nat->Nat->St->Hp->Prop,(∃m,W 0 m σ H)/\∀i m σ H,W i m σ H->
   ((ItzL K a b).stop i H/\D.nx σ H)\/((ItzL K a b).go i H/\∃N:St->Hp->Prop,(∀σ' H',N σ' H'->∃m',m'<m/\W (i+1) m' σ' H')/\∀x H',(ItzL K a b).yld i H x H'->g x σ H' λσ2 H2=>tb {D with nx:=N,ct:=N,bk:=D.nx} σ2 H2):=by
 refine⟨λi m σ H=>m=xs.length - i/\i<=xs.length/\i<=ys.length/\Pv i σ H,⟨xs.length,by simp,Nat.zero_le _,Nat.zero_le _,h0⟩,?_⟩;rintro i m σ H ⟨rfl,hi,hj,p⟩;obtain⟨q1,q2⟩:=hl i σ H hi hj p;by_cases hlt:i<xs.length/\i<ys.length
 ·refine .inr ⟨⟨xs,ys,xs[i],ys[i],q1,q2,by simp[hlt.1],by simp[hlt.2]⟩,Pv (i+1),λσ' H' p'=>⟨xs.length - (i+1),by omega,rfl,hlt.1,hlt.2,p'⟩,λx H' y=> ?_⟩;obtain⟨T,x,y,hT,rfl,rfl,y1,y2⟩:=y;exact hs i x y σ H T (y1 xs q1) (y2 ys q2) p hT
 ·exact .inl ⟨⟨xs,ys,q1,q2,by omega⟩,hd i σ H (by omega) p⟩
theorem pick_tl:∀its:List Value,its.length<=5->slicePick its.toArray none (some 0) (some (-1))=its.tail.reverse.toArray
 |[],_=>rfl
 |[_],_=>rfl
 |[a,b],_=>by
  have e1:sliceBounds none (some 0) (some (-1)) ([a,b]:List Value).toArray.size=(1,0,-1):=by rfl
  have e2:sliceRange 1 0 (-1)=[1]:=by decide+kernel
  unfold slicePick;rw[e1];show ((sliceRange 1 0 (-1)).filterMap _).toArray=_;rw[e2];rfl
 |[a,b,c],_=>by
  have e1:sliceBounds none (some 0) (some (-1)) ([a,b,c]:List Value).toArray.size=(2,0,-1):=by rfl
  have e2:sliceRange 2 0 (-1)=[2,1]:=by decide+kernel
  unfold slicePick;rw[e1];show ((sliceRange 2 0 (-1)).filterMap _).toArray=_;rw[e2];rfl
 |[a,b,c,d],_=>by
  have e1:sliceBounds none (some 0) (some (-1)) ([a,b,c,d]:List Value).toArray.size=(3,0,-1):=by rfl
  have e2:sliceRange 3 0 (-1)=[3,2,1]:=by decide+kernel
  unfold slicePick;rw[e1];show ((sliceRange 3 0 (-1)).filterMap _).toArray=_;rw[e2];rfl
 |[a,b,c,d,e],_=>by
  have e1:sliceBounds none (some 0) (some (-1)) ([a,b,c,d,e]:List Value).toArray.size=(4,0,-1):=by rfl
  have e2:sliceRange 4 0 (-1)=[4,3,2,1]:=by decide+kernel
  unfold slicePick;rw[e1];show ((sliceRange 4 0 (-1)).filterMap _).toArray=_;rw[e2];rfl
 |_::_::_::_::_::_::_,h=>by simp at h
theorem Vals.tail'{xs:List V}{us:List Value}(r:Vals xs us):Vals xs.tail us.tail:=by
 cases r with
 |nil=>exact .nil
 |cons _ t=>exact t
def tRevZ(K:PySem.W.Frag)(te:TE)(th ts:TO):TE:=λσ H Q=>te σ H λx H0=>th σ H0 λu H1=>ts σ H1 λo H2=>u=some 0/\o=some (-1)/\∃(a:Addr) (xs:List V),x= .ref a/\SqL K H2 a xs/\xs.length<=5/\∀p,H2 p=none->Q (.ref p) (upd H2 p (.lst xs.tail.reverse))
section
variable{X:Cx}
theorem pe_revZ{e up st:Expr}{te:TE}{th ts:TO}{p2 pos:Pos}(he:PE X e te)(hu:PO X (some up) th)(hs:PO X (some st) ts)(ops:Value->Value->List Value)(hsub:∀o i,subscripted (.Slice none (some up) (some st) p2) false o i=operate (ops o i) (getItem o i)):PE X (.Subscript e (.Slice none (some up) (some st) p2) pos) (tRevZ X.K te th ts):=by
 intro pins s σ H Q I h;refine Subscript_ (thn (he pins s σ H _ I h) λv s1 ⟨x,H1,I1,r1,q1⟩=> ?_);refine wpAny_Slice ?_;rw[evalPart_none];refine wpAny_pure (thn (hu pins s1 σ H1 _ I1 q1) λvu s2 ⟨u,H2,I2,pu,q2⟩=>thn (hs pins s2 σ H2 _ I2 q2) λvs s3 ⟨o,H3,I3,ps,q3⟩=> ?_);obtain⟨rfl,rfl,a,xs,rfl,hq,h5,q⟩:=q3;cases r1;have I4:Inv X pins σ H3 {s3 with heap:=s3.heap.push {cls:= .type "slice",data:= .fields #[.none,vu,vs]}}:=I3.kept (t':=s3.toks) λb ob q=>Heap.get?_push_of_some _ q;obtain⟨its,r,ht,hz⟩:=I4.list hq;have hlen:=r.length;show wpAny (model X.prog X.w) X.A (subscriptTail e (.Slice none (some up) (some st) p2) (.ref a) (.ref s3.heap.objs.size)) (EP X pins σ Q) X.xe {s3 with heap:=s3.heap.push {cls:= .type "slice",data:= .fields #[.none,vu,vs]}};refine tail_any (ops:=ops (.ref a) (.ref s3.heap.objs.size)) ht.isList.typeIs slot_list_getitem.lookup ?_ (hsub _ _);refine wpAny_getItem_list_slice ht.isList (Heap.IsSliceOf.new ..) .none pu ps (by decide) ?_ (by rw[List.size_toArray]<;> omega);rw[pick_tl its (by omega)];refine⟨.ref _,_,I4.laid (t':=s3.toks) (o:= .lst xs.tail.reverse) (λb ob q=>Heap.get?_push_of_some _ q) (Nat.le_refl _) ⟨by rw[List.length_reverse,List.length_tail];omega,its.tail.reverse,0,(Vals.tail' r).reverse,Heap.get?_push_size _ rfl⟩,rfl,q _ I4.fresh⟩
end
end L2
namespace K39
open PySem L2 Wk
theorem up_of{R:List R6}(h:R.Pairwise λx y=>¬y.1.1.cps.toList<x.1.1.cps.toList)(nd:(R.map (·.1.1)).Nodup):UpP R:=by
 rw[List.nodup_iff_pairwise_ne,List.pairwise_map] at nd;refine(h.and nd).imp λ{x y} ⟨h1,h2⟩=> ?_;rcases List.le_iff_lt_or_eq.mp (List.not_lt.mp h1) with z|z
 ·exact z
 ·exact absurd (str_ext z) h2
theorem perm_map{α β:Type}{f:α->β}{ys zs:List β}(h:ys.Perm zs):∀{l:List α},zs=l.map f->∃l':List α,ys=l'.map f/\l'.Perm l:=by
 induction h with
 |nil=>intro l e;exact⟨[],rfl,by cases l with|nil=>exact .nil|cons=>cases e⟩
 |cons x _ ih=>
  intro l e;cases l with
  |nil=>cases e
  |cons y l=>
   injection e with e1 e2;obtain⟨l',h1,h2⟩:=ih e2;exact⟨y::l',by rw[h1,e1];rfl,h2.cons y⟩
 |swap x y zs=>
  intro l e
  match l,e with
  |[],e=>cases e
  |[_],e=>injection e with _ e;cases e
  |u::v::l,e=>
   injection e with e1 e2;injection e2 with e2 e3;exact⟨v::u::l,by rw[e1,e2,e3];rfl,.swap u v l⟩
 |trans _ _ ih1 ih2=>
  intro l e;obtain⟨l1,h1,h2⟩:=ih2 e;obtain⟨l2,h3,h4⟩:=ih1 h1;exact⟨l2,h3,h4.trans h2⟩
theorem sort_rowsL{K:PySem.W.Frag}{H:Hp}{Q:VK}{w:Addr}{rs:List Addr}{R:List R6}(hw:H w=some (.lst (rs.map V.ref)))(hR:RowsAt H rs R)(nd:(R.map (·.1.1)).Nodup)(few:R.length<64)(k:∀(l:Addr) (rs':List Addr) (R':List R6),H l=none->RowsAt H rs' R'->R'.Perm R->UpP R'->Q (.ref l) (upd H l (.lst (rs'.map V.ref)))):Srt.rSortN K [.ref w] H Q:=by
 refine⟨w,(rs.zip R).map pnOf,rfl,SqL.of (by rw[pn_ref hR.1];exact hw),λq hq=> ?_,?_,?_,λl ps' hl hp hw=> ?_⟩
 ·obtain⟨q',hq',rfl⟩:=List.mem_map.mp hq;exact SqT.of (hR.zip q' hq')
 ·rw[pn_nm hR.1];exact nd
 ·rw[List.length_map,List.length_zip,hR.1];omega
 obtain⟨l',rfl,hp'⟩:=perm_map hp rfl;have r8:RowsAt H (l'.map (·.1)) (l'.map (·.2)):=RowsAt.unzip λq hq=>hR.zip q (hp'.mem_iff.mp hq);have e2R:(rs.zip R).map (·.2)=R:=List.map_snd_zip (Nat.le_of_eq hR.1.symm);have pR:(l'.map (·.2)).Perm R:=by have:=hp'.map (·.2);rwa [e2R] at this
 have up:UpP (l'.map (·.2)):=up_of (by rw[List.pairwise_map] at hw ⊢;exact hw) (((pR.map _).nodup_iff).mpr nd);have en:(l'.map pnOf).map Srt.nRef=(l'.map (·.1)).map V.ref:=by rw[List.map_map,List.map_map];rfl
 rw[en];exact k l _ _ hl r8 pR up
theorem m4_lo(x:M4):Dy (m4V x) none (some 2)=[.int (x.1:Int),.int (x.2.1:Int)]:=by
 unfold Dy m4V;rfl
theorem m4_hi(x:M4):Dy (m4V x) (some 2) none=[.int (x.2.2.1:Int),.bl x.2.2.2]:=by
 unfold Dy m4V;rfl
structure Stand(N:Nat)(R:List R6):Prop where
 nd:(R.map (·.1.1)).Nodup
 ok:∀x∈R,NameOk x.1.1/\(x.1.2.1<N/\x.1.2.2.1<N/\x.1.2.1≠x.1.2.2.1)/\(0<=x.1.2.2.2/\x.1.2.2.2<=1000000000)/\x.2.1<=3
 len:R.length<=60
 up:UpP R
 good:LGood N R
def spLayered:Sp:=λvs H Q _=>∃(d c ln:Addr) (N most:Nat) (zs:List Str),vs=[.ref d,.int (N:Int),.ref ln,.int (most:Int)]/\DeckAt H d c/\1<=N/\N<=24/\most<=36/\H ln=some (.lst (zs.map V.str))/\ln≠d/\ln≠c/\zs.length<=60/\zs.length=24+most/\zs.Nodup/\(∀z∈zs,NameOk z)/\∀(tp:Addr) (rs:List Addr) (R:List R6) (H':Hp),But d c H H'->DeckAt H' d c->H' tp=some (.tup (rs.map V.ref))->RowsAt H' rs R->Stand N R->Q (.ref tp) H'
theorem at_last{xs:List V}{x:V}:atI (xs++[x]) (-1)=some x:=by
 have l:(xs++[x]).length=xs.length+1:=by rw[List.length_append];rfl
 unfold atI ixN;rw[if_neg (by decide),if_pos (by rw[l];omega),l,show (-1+((xs.length+1:Nat):Int)).toNat=xs.length by omega];show (xs++[x])[xs.length]? =_;rw[List.getElem?_append_right (Nat.le_refl _),Nat.sub_self];rfl
def StgAt(H:Hp)(N:Nat)(ss:List Addr)(S:Nat->List T4)(no:List Addr):Prop:=∀(i:Nat) l,ss[i]? =some l->l ∉ no/\∃ls:List Nat,LabOk N (S i) ls/\H l=some (.lst (psV ls))
theorem StgAt.mono{H H':Hp}{N:Nat}{ss no:List Addr}{S:Nat->List T4}(h:StgAt H N ss S no)(f:∀l xs,l ∉ no->H l=some (.lst xs)->H' l=some (.lst xs)):StgAt H' N ss S no:=λi l hl=>by
 obtain⟨a,ls,b,e⟩:=h i l hl;exact⟨a,ls,b,f _ _ a e⟩
theorem rm_succ(N k:Nat):rm N ((k:Int)+1)=rm N k / 2:=by
 unfold rm;rw[show ((k:Int)+1).toNat=k+1 by omega,show ((k:Int)).toNat=k by omega,Int.pow_succ,<-Int.ediv_ediv_of_nonneg (Int.le_of_lt (Int.pow_pos (by decide)))]
theorem rm_zero(N:Nat):rm N ((0:Nat):Int)=(N:Int):=by
 unfold rm;show (N:Int) / 2 ^ 0=N;rw[Int.pow_zero,Int.ediv_one]
theorem kM_low{T:List M4}{i j:Nat}(h:∀x∈T,j<=x.2.2.1)(hij:i<=j):kM T i=kM T j:=by
 unfold kM
 congr 1
 refine List.filter_congr λx hx=> ?_;have:=h x hx;rw[decide_eq_true (show i<=x.2.2.1 by omega),decide_eq_true this]
theorem kM_app{T T2:List M4}{L j:Nat}(h:∀x∈T2,x.2.2.1=L/\x.2.2.2=true)(hj:L<j):kM (T++T2) j=kM T j:=by
 unfold kM;rw[List.filter_append,List.filter_eq_nil_iff.mpr (show ∀x∈T2,¬(decide (j<=x.2.2.1) && x.2.2.2)=true from λx hx z=>by
  rw[Bool.and_eq_true,decide_eq_true_eq] at z;have:=(h x hx).1;omega),List.append_nil]
theorem kM_all{T:List M4}(h:∀x∈T,x.2.2.2=true):(kM T 0).length=T.length:=by
 unfold kM;rw[List.length_map,List.filter_eq_self.mpr (show ∀x∈T,(decide (0<=x.2.2.1) && x.2.2.2)=true from λx hx=>by rw[h x hx];simp)]
theorem rms_ix{ms:List Int}{N j:Nat}(h:∀j,j<ms.length->ms[j]? =some (rm N j))(hj:j<ms.length):(ms.map V.int)[j]? =some (.int (rm N j)):=by
 rw[List.getElem?_map,h j hj];rfl
section
variable{P:Program}{w:World}{K:PySem.W.Frag}{mg:Str->Option Value}{base:Heap}
theorem scLayered:Av ["_law_deck_here","_law_many_here","_law_names_here","_law_most","_law_rooms","_law_ties","_law_stages","_law_layer","_law_turn","_law_one","_law_other","_law_levels","_law_rows_here","_law_name","_law_tie"] ["_law_deck_here","_law_many_here","_law_names_here","_law_most"] (Ag sLayered):=⟨rfl,rfl,rfl,by decide+kernel,rfl,by decide+kernel,by decide+kernel⟩
theorem ok_Layered{f:Addr}{fd:FuncData}(F:Fun K "_law_layered" "_law_layered" sLayered f fd)(T:Txt mg)(GTake:Cl P w K mg base 3 "_law_take" ["_law_deck_here","_law_most"] spTake)(GMerged:Cl P w K mg base 3 "_law_merged" ["_law_deck_here","_law_many_here","_law_layer","_law_room","_law_labels","_law_ties"] spMerged)(GWeight:Cl P w K mg base 3 "_law_weight" ["_law_deck_here"] spWeight):
  FnOk P w K mg base CX0 4 f fd ["_law_deck_here","_law_many_here","_law_names_here","_law_most"] spLayered:=by
 refine F.ok scLayered (λvs H Q E h=> ?_) (λcdv A outer s H vs Q E hr h=> ?_)
 ·obtain⟨_,_,_,_,_,_,rfl,_⟩:=h;rfl
 ·obtain⟨d,c,ln,N,most,zs,rfl,hD,N1,N24,m36,hln,nnd,nnc,z60,zlen,znd,zok,k⟩:=h;refine⟨_,Ae (Aw (i:=4) scLayered.nd rfl (Or.inl rfl) (Cm (Aa (pv 1) Ac)))
   (Ae (ps_while PassesOwn.never (Au op_gt (Az op_fdiv (A1 A0 (pv 4) (pe_un un_neg Af) (λ_ _=>rfl)) Af) Af (Ay _)) (Ai (Cw (pe_bm PySem.F.plainAttrs_list PySem.F.slot_list_append PySem.F.type_list_append Cb (pv 4) (Aa (Az op_fdiv (A1 A0 (pv 4) (pe_un un_neg Af) (λ_ _=>rfl)) Af) Ac)))))
   (Ae (Aw (i:=5) scLayered.nd rfl (Or.inl rfl) (Cm Ac))
   (Ae (Aw (i:=6) scLayered.nd rfl (Or.inr rfl) (Cm (Aa (A3 (call_list_rng rfl) (by rfl) T.list (by decide+kernel) (Aa (A3 call_range1 (by rfl) T.range (by decide+kernel) (Aa (pv 1) Ac)) Ac)) Ac)))
   (Ae (Dx PassesOwn.never rfl (pi_rangeD rfl T.range (Aa (Az op_sub (Am As (by rfl) T.len PySem.boot_len (Aa (pv 4) Ac)) Af) (Aa (pe_un un_neg Af) (Aa (pe_un un_neg Af) Ac)))) (Ah (i:=7) scLayered.nd rfl (Or.inl rfl)) (Ai (Cw (pe_bm PySem.F.plainAttrs_list PySem.F.slot_list_append PySem.F.type_list_append Cb (pv 6) (Aa (At GMerged hr (Aa (pv 0) (Aa (pv 1) (Aa (pv 7) (Aa (A1 A0 (pv 4) (pv 7) (λ_ _=>rfl)) (Aa (A1 A0 (pv 6) (pe_un un_neg Af) (λ_ _=>rfl)) (Aa (pv 5) Ac))))))) Ac)))))
   (Ae (Aw (i:=6) scLayered.nd rfl (Or.inr rfl) (pe_revZ (pv 6) (Bv Af) (Bv (pe_un un_neg Af)) (λo i=>[o,i]) (λ_ _=>by with_unfolding_all rfl)))
   (Ae (Dx PassesOwn.never rfl (Bt rfl T.range (Aa (At GTake hr (Aa (pv 0) (Aa (Az Bm (pv 3) Af) Ac))) Ac)) (Ah (i:=8) scLayered.nd rfl (Or.inl rfl)) (Ae (Aw (i:=9) scLayered.nd rfl (Or.inr rfl) (At GTake hr (Aa (pv 0) (Aa (pv 1) Ac))))
   (Ae (Aw (i:=10) scLayered.nd rfl (Or.inr rfl) (Az op_mod (Az Bm (Az Bm (pv 9) Af) (At GTake hr (Aa (pv 0) (Aa (Am (call_max2 rfl) (by rfl) T.max (by decide+kernel) (Aa Af (Aa (Az op_sub (pv 1) Af) Ac))) Ac)))) (pv 1)))
   (Ae (Dr (i:=11) (T:=["_law_layer"]) (F:=["_law_one","_law_other","_law_stages"]) (js:=[9,10,6]) scLayered.nd rfl (Or.inl rfl) (cs (osc:=Ag sLayered)) rfl (Bt rfl T.range (Aa (Am As (by rfl) T.len PySem.boot_len (Aa (pv 4) Ac)) Ac)) (λ_ _ _ _ _=>Ah (i:=0) (show (["_law_layer","_law_one","_law_other","_law_stages"]:List Str).Nodup by decide+kernel) rfl (Or.inl rfl)) (λ_ _ _ _ _=>Ci (PW.pt (pw_and (Au op_ne (pv 1) (pv 2) (Ay _)) (pw_and1 (Au Dt (A1 (r:=rIxL K) A0 (A1 (r:=rIxL K) A0 (pv 3) (pv 0) (λ_ _=>rfl)) (pv 1) (λ_ _=>rfl)) (A1 (r:=rIxL K) A0 (A1 (r:=rIxL K) A0 (pv 3) (pv 0) (λ_ _=>rfl)) (pv 2) (λ_ _=>rfl)) (Ay _)))))) (λ_ _ _ _ _=>pv 0))
   (Ai (Bi (Au (op_neNil hr.units) (pv 11) (Cm Ac) (Ay _)) (Ai (Cw (pe_bm PySem.F.plainAttrs_list PySem.F.slot_list_append PySem.F.type_list_append Cb (pv 5) (Aa (Bk (Aa (pv 9) (Aa (pv 10) (Aa (A1 A0 (pv 11) (At GTake hr (Aa (pv 0) (Aa (Am As (by rfl) T.len PySem.boot_len (Aa (pv 11) Ac)) Ac))) (λ_ _=>rfl)) (Aa Ch Ac))))) Ac)))) A2))))))
   (Ae (Aw (i:=12) scLayered.nd rfl (Or.inl rfl) (Cm Ac))
   (Ae (Dx PassesOwn.never rfl (pi_zipL rfl T.zip (Aa (pv 2) (Aa (pv 5) Ac))) (Co rfl (Al (Ah (i:=13) scLayered.nd rfl (Or.inl rfl)) (Al (Ah (i:=14) scLayered.nd rfl (Or.inl rfl)) Bf))) (Ai (Cw (pe_bm PySem.F.plainAttrs_list PySem.F.slot_list_append PySem.F.type_list_append Cb (pv 12) (Aa (Az op_catTT (Az op_catTT (Az op_catTT (Bk (Aa (pv 13) Ac)) (Cf (r:=rSlTA K) sl_tupA (pv 14) Dq (Bv Af))) (Bk (Aa (At GWeight hr (Aa (pv 0) Ac)) Ac))) (Cf (r:=rSlTA K) sl_tupA (pv 14) (Bv Af) Dq)) Ac)))))
   (Ai (Ao (A3 Bp (by rfl) T.tuple (by decide+kernel) (Aa (Am Srt.call_sortedN (by rfl) T.sorted (by decide+kernel) (Aa (pv 12) Ac)) Ac)))))))))))),?_⟩
  refine⟨_,rfl,small (by simp),λro hro=> ?_⟩;have s1:=Ad (o:= .lst [.int (N:Int)]) hro;have r1:=Ab (H:=H) (a:=ro) (o:= .lst [.int (N:Int)]);generalize upd H ro (.lst [.int (N:Int)])=H1 at s1 r1;dsimp only[gName,tSeq];refine while_gh (λm σ H'=>∃(ns:List Int) (x:Int) (k:Nat),σ=[some (.ref d),some (.int (N:Int)),some (.ref ln),some (.int (most:Int)),some (.ref ro),none,none,none,none,none,none,none,none,none,none]/\Same H H'/\H' ro=some (.lst ((ns++[x]).map V.int))/\ns=(List.range k).map (λj=>rm N (j:Nat))/\x=rm N k/\(k:Int)<=lay N/\m=x.toNat) (m0:=N) ⟨[],(N:Int),0,rfl,s1,r1,rfl,(rm_zero N).symm,lay_0 _,by simp⟩ ?_ ?_
  ·rintro m σ H2 ⟨ns,x,kk,rfl,s2,r2,hns,hxe,hk,rfl⟩;have lay3:=lay_4 (N:Int);have nsl:ns.length=kk:=by rw[hns,List.length_map,List.length_range]
   have hall:∀j,j<(ns++[x]).length->(ns++[x])[j]? =some (rm N j):=λj hj=>by
    have e:ns++[x]=(List.range (kk+1)).map (λj=>rm N (j:Nat)):=by rw[List.range_succ,List.map_append,hns,hxe];rfl
    rw[List.length_append,nsl,List.length_singleton] at hj;rw[e,List.getElem?_map,List.getElem?_range hj];rfl
   have al:atI ((ns++[x]).map V.int) (-1)=some (.int x):=by rw[List.map_append];exact at_last
   have x2:x / 2=rm N ((kk:Int)+1):=by rw[rm_succ,hxe]
   have ge:=rm_ge (m:=(N:Int)) (k:=kk) (by omega) (by omega);refine⟨_,rfl,_,rfl,ro,_,_,_,rfl,rfl,SqL.of r2,al,_,_,rfl,rfl,⟨by decide,by decide⟩,_,_,rfl,rfl,_,rfl,Be (λg=> ?_) λg=> ?_⟩
   ·have g:1<x / 2:=by simpa using g
    have k1:=ge.mp (by omega);refine⟨_,rfl,.inl ⟨rfl,_,SqL.of r2⟩,_,rfl,_,rfl,ro,_,_,_,rfl,rfl,SqL.of r2,al,_,_,rfl,rfl,⟨by decide,by decide⟩,ro,_,_,rfl,rfl,r2,Ak (by simp;omega),?_⟩;exact⟨(x / 2).toNat,by omega,ns++[x],x / 2,kk+1,rfl,Aq s2 hro,by rw[Ab,List.map_append (l₂:=[x / 2])];rfl,by rw[List.range_succ,List.map_append,hns,hxe];rfl,x2,by omega,rfl⟩
   ·clear s1 r1;have g:¬1<x / 2:=by simpa using g
    have k1:(kk:Int)=lay N:=by
     have:¬((kk:Int)+1<=lay N):=λz=>g (by have:=ge.mpr z;omega);omega
    have rl:(((ns++[x]).length:Nat):Int)=lay N+1:=by rw[List.length_append,nsl,List.length_singleton];omega
    generalize ns++[x]=rms at r2 rl hall;clear nsl hns hxe hk x2 ge g k1 al;refine⟨small (by simp),λti hti=> ?_⟩;have s3:=s2.trans (Ad (o:= .lst []) hti);have r3:=Ad (o:= .lst []) hti _ _ r2;have t3:=Ab (H:=H2) (a:=ti) (o:= .lst []);have D3:=hD.same s3;have nro:ro≠ti:=An r2 hti;have nroD:=hD.nd hro;have nroC:=hD.nc hro;have ntd:=(hD.same s2).nd hti;have ntc:=(hD.same s2).nc hti;generalize upd H2 ti (.lst [])=H3 at s3 r3 t3 D3;refine⟨_,rfl,(N:Int),rfl,λq hq=>⟨q,0,(N:Int),rfl,Ab,⟨by decide,by decide,by omega,by omega⟩,by omega,λlb hlb=> ?_⟩⟩;have s4:=(Ad (o:= .rng 0 (N:Int)) hq).trans (Ad (o:= .lst ((rints 0 ((N:Int) - 0).toNat).map V.int)) hlb);have lb4:=Ab (H:=upd H3 q (.rng 0 (N:Int))) (a:=lb) (o:= .lst ((rints 0 ((N:Int) - 0).toNat).map V.int));have fl:H3 lb=none:=none_of (Ad (o:= .rng 0 (N:Int)) hq) hlb;generalize upd (upd H3 q (.rng 0 (N:Int))) lb (.lst ((rints 0 ((N:Int) - 0).toNat).map V.int))=H4 at s4 lb4;have ll:(rints 0 ((N:Int) - 0).toNat).map V.int=psV (List.range N):=by
     have:((N:Int) - 0).toNat=N:=by omega
     rw[this,psV_int];unfold rints
     congr 1
     exact List.map_congr_left λv _=>by show (0:Int)+(v:Int)=_;rw[Int.zero_add];rfl
    rw[ll] at lb4;clear ll;refine⟨small (by simp),λsg hsg=> ?_⟩;have s5:=s4.trans (Ad (o:= .lst [.ref lb]) hsg);have sg5:=Ab (H:=H4) (a:=sg) (o:= .lst [.ref lb]);have lb5:=Ad (o:= .lst [.ref lb]) hsg _ _ lb4;have nsl:lb≠sg:=An lb4 hsg;have fs:H3 sg=none:=none_of s4 hsg;generalize upd H4 sg (.lst [.ref lb])=H5 at s5 sg5 lb5;have D5:=D3.same s5;have B5:But d c H H5:=But.of (s3.trans s5);have r5:=s5 _ _ r3;have t5:=s5 _ _ t3;have nsd:=D3.nd fs;have nsc:=D3.nc fs;have nst:sg≠ti:=(An t3 fs).symm;have nsr:sg≠ro:=(An r3 fs).symm;have st5:StgAt H5 N [lb] (λk=>kM [] (rms.length - k)) [d,c,ti,sg]:=λi l hl=>by
     have hl:l=lb:=by
      match i,hl with
      |0,hl=>cases hl;rfl
      |n+1,hl=>exact absurd hl (by simp)
     subst hl;refine⟨?_,List.range N,lab0 N,lb5⟩;simp only[List.mem_cons,List.not_mem_nil,or_false,not_or];exact⟨D3.nd fl,D3.nc fl,(An t3 fl).symm,nsl⟩
    have nT:H ti=none:=none_of s2 hti;have nS:H sg=none:=none_of s3 fs;clear lb4 lb5 s4 s3 r3 t3 D3 fl fs nsl hlb hsg hq hti hro r2 s2 s5;refine⟨_,rfl,ro,_,rfl,.inl (SqL.of r5),_,_,rfl,rfl,_,rfl,_,rfl,_,_,rfl,⟨by rw[List.length_map];omega,by rw[List.length_map];omega,by decide,by decide⟩,for_rangeD (λi σ H'=>∃(u7:Option V) (ts:List Addr) (T:List M4) (ss:List Addr),σ=[some (.ref d),some (.int (N:Int)),some (.ref ln),some (.int (most:Int)),some (.ref ro),some (.ref ti),some (.ref sg),u7,none,none,none,none,none,none,none]/\But d c H H'/\DeckAt H' d c/\H' ro=some (.lst (rms.map V.int))/\H' ti=some (.lst (ts.map V.ref))/\M4At H' ts T/\T.length<=24 * i/\LG N T/\(∀x∈T,rms.length - i<=x.2.2.1/\x.2.2.2=true)/\H' sg=some (.lst (ss.map V.ref))/\ss.length=i+1/\StgAt H' N ss (λk=>kM T (rms.length - k)) [d,c,ti,sg]) ⟨none,[],[],[lb],rfl,B5,D5,r5,t5,⟨rfl,λi r t e=>by simp at e⟩,Nat.le_refl _,LG.nil N1 N24,by simp,sg5,rfl,st5⟩ ?_ ?_⟩
    ·rintro i σ H6 hi ⟨u7,ts,T,ss,rfl,B6,D6,r6,t6,M6,Tl,gd,Tk,sg6,sl,st6⟩;rw[List.length_map] at hi;have hi:i<rms.length:=by omega
     obtain⟨ss',l,rfl⟩:∃ss' l,ss=ss'++[l]:=by
      rcases List.eq_nil_or_concat ss with z|⟨ss',l,z⟩
      ·rw[z] at sl;simp at sl
      ·exact⟨ss',l,by rw[z,List.concat_eq_append]⟩
     have al:atI ((ss'++[l]).map V.ref) (-1)=some (.ref l):=by rw[List.map_append];exact at_last
     have sl':ss'.length=i:=by rw[List.length_append] at sl;simpa using sl
     obtain⟨hno,ls,hls,hl⟩:=st6 i l (by rw[List.getElem?_append_right (by omega),sl',Nat.sub_self];rfl);have hno':=hno;simp only[List.mem_cons,List.not_mem_nil,or_false,not_or] at hno;have eL:((rms.map V.int).length:Int) - 1 - (i:Int)=((rms.length - 1 - i:Nat):Int):=by rw[List.length_map];omega
     have ar:atI (rms.map V.int) (((rms.map V.int).length:Int) - 1 - (i:Int))=some (.int (rm N ((rms.length - 1 - i:Nat):Int))):=by rw[eL];exact Ap (rms_ix hall (by omega))
     have min:MIn N (rms.length - 1 - i) (rm N ((rms.length - 1 - i:Nat):Int)) ls T:=⟨N1,N24,by omega,rfl,by rw[kM_low (j:=rms.length - i) (λx hx=>(Tk x hx).1) (by omega)];exact hls,gd,λx hx=>by have:=(Tk x hx).1;omega,by omega⟩
     refine⟨_,rfl,.inl ⟨rfl,_,SqL.of sg6⟩,_,rfl,_,rfl,_,rfl,_,rfl,_,rfl,ro,_,_,_,rfl,rfl,SqL.of r6,ar,_,rfl,_,rfl,sg,_,_,_,rfl,rfl,SqL.of sg6,al,_,rfl,d,c,l,ti,N,rms.length - 1 - i,_,_,ls,ts,T,rfl,eL,D6,min,hl,hno.1,hno.2.1,t6,ntd,ntc,M6,λlb' ls' ts' T2 H7 b7 D7 e7 l7 t7 M7 q7 o7 g7 f7=> ?_⟩;have sg7:=b7 _ _ sg6 nsd nsc nst;refine⟨sg,_,_,rfl,rfl,sg7,Ak (by rw[List.length_map];omega),?_⟩;have kp:∀(r:Addr) (zs:List V) (o:HO),H7 r=some (.tup zs)->upd H7 sg o r=some (.tup zs):=λr zs o e=>by rw[Aj (Cr e sg7 (by intro z;cases z))];exact e
     refine⟨_,ts',T++T2,(ss'++[l])++[lb'],rfl,λb o e n1 n2=> ?_,D7.set nsd nsc,?_,?_,M7.mono λr xs e=>kp r xs _ e,by rw[List.length_append];omega,g7,λx hx=> ?_,by rw[Ab,List.map_append (l₂:=[lb'])];rfl,by rw[List.length_append,sl];rfl,λk2 l2 hl2=> ?_⟩
     ·rw[Aj (An e nS)];exact b7 _ _ (B6 _ _ e n1 n2) n1 n2 (An e nT)
     ·rw[Aj nsr.symm];exact b7 _ _ r6 nroD nroC nro
     ·rw[Aj nst.symm];exact t7
     ·rcases List.mem_append.mp hx with hx|hx
      ·exact⟨by have:=(Tk x hx).1;omega,(Tk x hx).2⟩
      ·exact⟨by rw[(o7 x hx).1];omega,(o7 x hx).2⟩
     ·have old:∀k2 l2,(ss'++[l])[k2]? =some l2->l2 ∉ [d,c,ti,sg]/\∃ls:List Nat,LabOk N (kM (T++T2) (rms.length - k2)) ls/\upd H7 sg (.lst ((ss'++[l]).map V.ref++[.ref lb'])) l2=some (.lst (psV ls)):=λk2 l2 hl2=>by
       have k2i:k2<i+1:=by have:=(List.getElem?_eq_some_iff.mp hl2).1;omega
       obtain⟨h1,ls2,h2,h3⟩:=st6 k2 l2 hl2;have h1':=h1;simp only[List.mem_cons,List.not_mem_nil,or_false,not_or] at h1';exact⟨h1,ls2,by rw[kM_app o7 (by omega)];exact h2,by rw[Aj h1'.2.2.2];exact b7 _ _ h3 h1'.1 h1'.2.1 h1'.2.2.1⟩
      by_cases hk:k2<i+1
      ·rw[List.getElem?_append_left (by omega)] at hl2;exact old k2 l2 hl2
      ·have hk2:k2=i+1:=by
        have:=(List.getElem?_eq_some_iff.mp hl2).1;rw[List.length_append,sl] at this;simp only[List.length_cons,List.length_nil] at this;omega
       subst hk2;rw[List.getElem?_append_right (by omega),sl,Nat.sub_self] at hl2;cases hl2;have ek:rms.length - (i+1)=rms.length - 1 - i:=by omega
       rcases f7 with rfl|f7
       ·have hno2:=hno;exact⟨hno',ls',(show LabOk N (kM (T++T2) (rms.length - (i+1))) ls' from by rw[ek];exact l7),by rw[Aj hno2.2.2.2];exact e7⟩
       ·have m1:=D6.nd f7;have m2:=D6.nc f7;have m3:lb'≠ti:=(An t6 f7).symm;have m4:lb'≠sg:=(An sg6 f7).symm;refine⟨?_,ls',(show LabOk N (kM (T++T2) (rms.length - (i+1))) ls' from by rw[ek];exact l7),by rw[Aj m4];exact e7⟩;simp only[List.mem_cons,List.not_mem_nil,or_false,not_or];exact⟨m1,m2,m3,m4⟩
    rintro σ H6 ⟨u7,ts,T,ss,rfl,B6,D6,r6,t6,M6,Tl,gd,Tk,sg6,sl,st6⟩;rw[List.length_map] at Tl sl;have ei:((rms.length:Int) - 1 - -1).toNat=rms.length:=by omega
    have sl:ss.length=rms.length+1:=by omega
    have Tall:∀x∈T,x.2.2.2=true:=λx hx=>(Tk x hx).2;have T23:T.length<=23:=by
     have:=kM_all Tall;have:=gd.forest;have:=cls_pos N1 (kM T 0);omega
    clear Tl;refine⟨_,rfl,_,rfl,_,rfl,_,rfl,rfl,rfl,sg,_,rfl,SqL.of sg6,by rw[List.length_map];omega,λsv hsv=> ?_⟩;have es:(ss.map V.ref).tail.reverse=ss.tail.reverse.map V.ref:=by rw[<-List.map_tail,List.map_reverse]
    rw[es];have lv:ss.tail.reverse.length=rms.length:=by rw[List.length_reverse,List.length_tail,sl];rfl
    have sv5:StgAt H6 N ss.tail.reverse (λj=>kM T j) [d,c,ti,sg]:=λj l hl=>by
     have jl:j<ss.tail.length:=by have:=(List.getElem?_eq_some_iff.mp hl).1;rwa [List.length_reverse] at this
     have tl:ss.tail.length=rms.length:=by rw[List.length_tail,sl];rfl
     rw[List.getElem?_reverse jl,List.getElem?_tail] at hl;have this:l ∉ [d,c,ti,sg]/\∃ls:List Nat,LabOk N (kM T (rms.length - (ss.tail.length - 1 - j+1))) ls/\H6 l=some (.lst (psV ls)):=st6 _ l hl;have e:rms.length - (ss.tail.length - 1 - j+1)=j:=by omega
     rw[e] at this;exact this
    generalize ss.tail.reverse=sw at lv sv5;have s7:=Ad (o:= .lst (sw.map V.ref)) hsv;have sv7:=Ab (H:=H6) (a:=sv) (o:= .lst (sw.map V.ref));have B7:=B6.trans (But.of s7);have D7:=D6.same s7;have r7:=s7 _ _ r6;have t7:=s7 _ _ t6;have M7:=M6.mono λr xs e=>s7 _ _ e;have st7:StgAt (upd H6 sv (.lst (sw.map V.ref))) N sw (λj=>kM T j) [d,c,ti,sg]:=sv5.mono λl xs _ e=>s7 _ _ e;have nvd:=D6.nd hsv;have nvc:=D6.nc hsv;have nvt:sv≠ti:=(An t6 hsv).symm;generalize upd H6 sv (.lst (sw.map V.ref))=H7 at sv7 B7 D7 r7 t7 M7 st7;clear s7 hsv sv5 es B6 D6 r6 t6 M6 st6 sg6 sl sg5 st5 B5 D5 r5 t5;have stF:∀j:Nat,kM T j=kM T j:=λ_=>rfl;generalize hT0:T=T0 at stF T23 st7;have gd0:∀j:Nat,kM T j=kM T0 j:=λj=>by rw[hT0]
    have Tl0:T.length<=T0.length+0:=by rw[hT0];omega
    refine⟨_,rfl,_,rfl,_,_,rfl,rfl,d,c,_,rfl,D7,by omega,by omega,λm H8 m0 m1 b8 D8=>⟨m,rfl,by omega,by omega,for_range (lo:=0) (n:=m.toNat) (λi σ H'=>∃(u8 u9 u10 u11:Option V) (ts:List Addr) (T:List M4),σ=[some (.ref d),some (.int (N:Int)),some (.ref ln),some (.int (most:Int)),some (.ref ro),some (.ref ti),some (.ref sv),u7,u8,u9,u10,u11,none,none,none]/\But d c H H'/\DeckAt H' d c/\H' ro=some (.lst (rms.map V.int))/\H' ti=some (.lst (ts.map V.ref))/\M4At H' ts T/\T.length<=T0.length+i/\LG N T/\(∀j:Nat,kM T j=kM T0 j)/\H' sv=some (.lst (sw.map V.ref))/\StgAt H' N sw (λj=>kM T0 j) [d,c,ti,sg]) ⟨none,none,none,none,ts,T,rfl,B7.trans b8,D8,b8 _ _ r7 nroD nroC,b8 _ _ t7 ntd ntc,M7.mono (b8.tp D7),Tl0,gd,gd0,b8 _ _ sv7 nvd nvc,st7.mono λl xs hn e=>b8 _ _ e (λz=>hn (by simp[z])) λz=>hn (by simp[z])⟩ ?_ ?_⟩⟩
    ·clear B7 D7 r7 t7 M7 st7 sv7 b8 D8 gd gd0 Tl0 Tk Tall hT0 stF;rintro i σ H9 hi ⟨u8,u9,u10,u11,ts,T,rfl,B9,D9,r9,t9,M9,Tl,gd,gT,sv9,st9⟩;have hi:i<37:=by omega
     refine⟨_,rfl,_,rfl,d,c,_,rfl,D9,by omega,by omega,λx Ha x0 x1 ba Da=> ?_⟩;obtain⟨x,rfl⟩:=Cs x0;refine⟨_,rfl,_,_,rfl,rfl,_,rfl,_,rfl,_,_,rfl,rfl,_,_,rfl,d,c,_,rfl,Da,by split<;> omega,by split<;> omega,λw Hb w0 w1 bb Db=>⟨_,_,rfl,rfl,_,rfl,_,_,rfl,rfl,by omega,?_⟩⟩;dsimp only;have y0:=Int.emod_nonneg ((x:Int)+1+w) (show (N:Int)≠0 by omega);have y1:=Int.emod_lt_of_pos ((x:Int)+1+w) (show (0:Int)<(N:Int) by omega);generalize ((x:Int)+1+w) % (N:Int)=y at y0 y1;obtain⟨y,rfl⟩:=Cs y0;have bab:=ba.trans bb;have rb:=bab _ _ r9 nroD nroC;have svb:=bab _ _ sv9 nvd nvc;have tb:=bab _ _ t9 ntd ntc;have Mb:=M9.mono (bab.tp D9);have stb:StgAt Hb N sw (λj=>kM T0 j) [d,c,ti,sg]:=st9.mono λl xs hn e=>bab _ _ e (λz=>hn (by simp[z])) λz=>hn (by simp[z]);have Bb:=B9.trans bab;clear bab ba bb Da r9 sv9 t9 M9 st9 B9 D9 w0 w1 x0 y0;refine⟨_,rfl,ro,_,rfl,.inl (SqL.of rb),_,rfl,by omega,by rw[List.length_map];omega,λDl hDl=>Bn (lo:=0) (n:=(rms.map V.int).length) (λj σ ys H'=>∃(u:Option V) (lv:List Int),σ=[u,some (.int (x:Int)),some (.int (y:Int)),some (.ref sv)]/\ys=lv.map V.int/\Same Hb H'/\H' Dl=some (.lst ys)/\(∀z∈lv,∃L:Nat,z=(L:Int)/\(L:Int)<=lay N/\Reach (kM T0 L) x y)/\(lv≠[]->x≠y)/\lv.length<=j) ⟨none,[],rfl,rfl,Ad hDl,Ab,by simp,by simp,Nat.le_refl _⟩ (λj σ ys H' _ ⟨_,_,_,_,_,e,_⟩=>e) ?_ ?_⟩
     ·rintro j σ ys Hc hj ⟨u,lv,rfl,rfl,sc,dc,lz,ln0,ll⟩;rw[List.length_map] at hj;refine⟨_,rfl,_,rfl,rfl,_,rfl,Be (λg=> ?_) λg=> ?_⟩
      ·have g:x≠y:=λz=>by subst z;simp at g
       have hj':j<sw.length:=by omega
       obtain⟨hno,ls,hls,hl⟩:=stb j sw[j] (Ck hj');have ix:=ps_at' (l:=ls) (v:=x) (by rw[hls.len];omega);have iy:=ps_at' (l:=ls) (v:=y) (by rw[hls.len];omega);have aj:atI (sw.map V.ref) (0+(j:Int))=some (.ref sw[j]):=by rw[Int.zero_add];exact Ap (by rw[List.getElem?_map,Ck hj'];rfl)
       refine⟨_,rfl,_,rfl,sv,_,_,_,rfl,rfl,SqL.of (sc _ _ svb),aj,_,rfl,sw[j],_,_,_,rfl,rfl,SqL.of (sc _ _ hl),Ap ix,_,rfl,_,rfl,sv,_,_,_,rfl,rfl,SqL.of (sc _ _ svb),aj,_,rfl,sw[j],_,_,_,rfl,rfl,SqL.of (sc _ _ hl),Ap iy,rfl,_,rfl,Be (λg2=> ?_) λg2=> ?_⟩
       ·refine⟨_,rfl,dc,Ak (by rw[List.length_map];omega),_,lv++[0+(j:Int)],rfl,by rw[List.map_append];rfl,Aq sc hDl,Ab,λz hz=> ?_,λ_=>g,by rw[List.length_append,List.length_singleton];omega⟩;rcases List.mem_append.mp hz with hz|hz
        ·exact lz z hz
        ·have g2:ls.getD x 0=ls.getD y 0:=Int.ofNat.inj (V.int.inj (of_decide_eq_true g2));exact⟨j,by rw[List.mem_singleton.mp hz,Int.zero_add],by omega,(hls.iff x y (by omega) (by omega)).mp g2⟩
       ·exact⟨_,lv,rfl,rfl,sc,dc,lz,ln0,by omega⟩
      ·exact⟨_,lv,rfl,rfl,sc,dc,lz,ln0,by omega⟩
     rintro σ ys Hc ⟨u,lv,rfl,rfl,sc,dc,lz,ln0,ll⟩;rw[List.length_map] at ll;have Dc:=Db.same sc;have rc:=sc _ _ rb;have svc:=sc _ _ svb;have tc:=sc _ _ tb;have Mc:=Mb.mono λr xs e=>sc _ _ e;have stc:StgAt Hc N sw (λj=>kM T0 j) [d,c,ti,sg]:=stb.mono λl xs _ e=>sc _ _ e;have Bc:=Bb.trans (But.of sc);have nDd:=Db.nd hDl;have nDc:=Db.nc hDl;have nDt:Dl≠ti:=(An tb hDl).symm;clear rb svb tb Mb stb Bb Db sc hDl;refine⟨_,rfl,small (by simp),λq hq=> ?_⟩;have sq:=Ad (o:= .lst []) hq;have q1:=Ab (H:=Hc) (a:=q) (o:= .lst []);generalize upd Hc q (.lst [])=He at sq q1;refine⟨Dl,q,_,rfl,rfl,SqL.of (sq _ _ dc),SqL.of q1,_,rfl,Be (λg=> ?_) λg=> ?_⟩
     ·have g:lv≠[]:=λz=>by subst z;simp at g
      have l1:1<=lv.length:=List.length_pos_iff.mpr g;refine⟨_,rfl,.inl ⟨rfl,_,SqL.of (sq _ _ tc)⟩,_,rfl,_,rfl,_,rfl,_,rfl,_,rfl,Dl,_,rfl,.inl (SqL.of (sq _ _ dc)),d,c,_,rfl,Dc.same sq,by rw[List.length_map];omega,by rw[List.length_map];omega,λv Hg v0 v1 bg Dg=> ?_⟩;rw[List.length_map] at v1;obtain⟨v,rfl⟩:=Cs v0;have hv:v<lv.length:=by omega
      obtain⟨L,eL,lL,rL⟩:=lz lv[v] (List.getElem_mem _);have bcg:=(But.of (d:=d) (c:=c) sq).trans bg;refine⟨Dl,_,_,_,rfl,rfl,SqL.of (bcg _ _ dc nDd nDc),Ap (ixL hv),small (by simp),λr1 hr1=> ?_⟩;rw[eL];have gd':=gd.loose (p:=x) (q:=y) (L:=L) (by omega) (by omega) (ln0 g) lL (by rw[gT];exact rL);have s3:=Ad (o:= .tup (m4V (x,y,L,false))) hr1;have e3:=Ab (H:=Hg) (a:=r1) (o:= .tup (m4V (x,y,L,false)));have s3:Same Hg (upd Hg r1 (.tup [.int (x:Int),.int (y:Int),.int (L:Int),.bl false])):=s3;have e3:upd Hg r1 (.tup [.int (x:Int),.int (y:Int),.int (L:Int),.bl false]) r1=some (.tup (m4V (x,y,L,false))):=e3;generalize upd Hg r1 (.tup [.int (x:Int),.int (y:Int),.int (L:Int),.bl false])=H3 at s3 e3 ⊢;have bc3:=bcg.trans (But.of s3);have t3:=bc3 _ _ tc ntd ntc;refine⟨ti,_,_,rfl,rfl,t3,Ak (by rw[List.length_map,Mc.1];omega),?_⟩;have kp:∀(r:Addr) (zs:List V) (o:HO),H3 r=some (.tup zs)->upd H3 ti o r=some (.tup zs):=λr zs o e=>by rw[Aj (Cr e t3 (by intro z;cases z))];exact e
      refine⟨_,_,_,_,ts++[r1],T++[(x,y,L,false)],rfl,λb o e n1 n2=> ?_,(Dg.same s3).set ntd ntc,?_,by rw[Ab,List.map_append];rfl,(Mc.mono λr xs e=>kp r xs _ (bc3.tp Dc _ _ e)).snoc (kp _ _ _ e3),by rw[List.length_append,List.length_singleton];omega,gd',λj=>by rw[kM_snoc,if_neg (by simp),List.append_nil];exact gT j,?_,stc.mono λl xs hn e=> ?_⟩
      ·rw[Aj (An e nT)];exact bc3 _ _ (Bc _ _ e n1 n2) n1 n2
      ·rw[Aj nro];exact bc3 _ _ rc nroD nroC
      ·rw[Aj nvt];exact bc3 _ _ svc nvd nvc
      ·rw[Aj (λz=>hn (by simp[z]))];exact bc3 _ _ e (λz=>hn (by simp[z])) λz=>hn (by simp[z])
     ·dsimp only[Br];exact⟨_,_,_,_,ts,T,rfl,Bc.trans (But.of sq),Dc.same sq,sq _ _ rc,sq _ _ tc,Mc.mono λr xs e=>sq _ _ e,by omega,gd,gT,sq _ _ svc,stc.mono λl xs _ e=>sq _ _ e⟩
    clear B7 D7 r7 t7 M7 st7 sv7 b8 D8 gd gd0 Tl0 Tk Tall hT0 stF;rintro σ H9 ⟨u8,u9,u10,u11,ts,T,rfl,B9,D9,r9,t9,M9,Tl,gd,gT,sv9,st9⟩;have Tz:T.length<=zs.length:=by omega
    clear r9 sv9 st9;have ln9:=B9 _ _ hln nnd nnc;refine⟨small (by simp),λrw' hrw=> ?_⟩;have sr:=Ad (o:= .lst []) hrw;have rw1:=Ab (H:=H9) (a:=rw') (o:= .lst []);have Ba:=B9.trans (But.of sr);have Da:=D9.same sr;have ta:=sr _ _ t9;have Ma:=M9.mono λr xs e=>sr _ _ e;have lna:=sr _ _ ln9;have nrd:=D9.nd hrw;have nrc:=D9.nc hrw;have nrt:rw'≠ti:=(An t9 hrw).symm;have nrl:rw'≠ln:=(An ln9 hrw).symm;have nR:H rw'=none:=B9.none hD D9 hrw;generalize upd H9 rw' (.lst [])=Ha at sr rw1 Ba Da ta Ma lna;clear sr B9 D9 t9 M9 ln9 hrw;refine⟨_,rfl,_,rfl,ln,ti,_,_,rfl,SqL.of lna,SqL.of ta,for_zipL (K:=K) (a:=ln) (b:=ti) (xs:=zs.map V.str) (ys:=ts.map V.ref) (λi σ H'=>∃(u13 u14:Option V) (rs:List Addr) (R:List R6),σ=[some (.ref d),some (.int (N:Int)),some (.ref ln),some (.int (most:Int)),some (.ref ro),some (.ref ti),some (.ref sv),u7,u8,u9,u10,u11,some (.ref rw'),u13,u14]/\But d c H H'/\DeckAt H' d c/\H' ln=some (.lst (zs.map V.str))/\H' ti=some (.lst (ts.map V.ref))/\M4At H' ts T/\H' rw'=some (.lst (rs.map V.ref))/\RowsAt H' rs R/\R.map (·.1.1)=zs.take i/\R.length=i/\R.map mOf=T.take i/\∀x∈R,NameOk x.1.1/\(0<=x.1.2.2.2/\x.1.2.2.2<=1000000000)) ⟨none,none,[],[],rfl,Ba,Da,lna,ta,Ma,rw1,⟨rfl,λi r t e=>by simp at e⟩,rfl,rfl,rfl,by simp⟩ (λi σ H' _ _ ⟨_,_,_,_,_,_,_,a,b,_⟩=>⟨SqL.of a,SqL.of b⟩) ?_ ?_⟩
    ·clear Ba Da ta Ma lna rw1;rintro i nx tx σ Hb Tt hnx htx ⟨u13,u14,rs,R,rfl,Bb,Db,lnb,tb,Mb,rwb,Rb,Rn,Rl,Rm,Rok⟩ hTt;obtain⟨n,hn,rfl⟩:=Ax hnx;obtain⟨r,hr0,rfl⟩:=Ax htx;obtain⟨x,hx,er⟩:=Mb.get hr0;have zi:i<zs.length:=(List.getElem?_eq_some_iff.mp hn).1;have nok:=zok n (List.mem_of_getElem? hn);have s0:=Ad (o:= .tup [.str n,.ref r]) hTt;refine⟨Tt,_,rfl,SqT.of Ab,rfl,_,_,rfl,_,_,rfl,rfl,?_⟩;generalize upd Hb Tt (.tup [.str n,.ref r])=Hc at s0;refine⟨_,rfl,.inl ⟨rfl,_,SqL.of (s0 _ _ rwb)⟩,_,rfl,small (by simp),λt1 ht1=> ?_⟩;have s1:=s0.trans (Ad (o:= .tup [.str n]) ht1);have e1:=Ab (H:=Hc) (a:=t1) (o:= .tup [.str n]);generalize upd Hc t1 (.tup [.str n])=Hd at s1 e1;refine⟨_,rfl,_,rfl,cut_any (s1 _ _ er) λt2 He s2 e2=> ?_⟩;rw[m4_lo] at e2;refine cat_any (s2 _ _ e1) e2 (by show 1+2<=_;decide) λt3 Hf s3 e3=> ?_;have S3:=(s1.trans s2).trans s3;refine⟨_,rfl,d,c,rfl,Db.same S3,λw Hg w0 w1 bg Dg=>⟨small (by simp),λt4 ht4=> ?_⟩⟩;have s4:=Ad (o:= .tup [.int w]) ht4;have e4:=Ab (H:=Hg) (a:=t4) (o:= .tup [.int w]);have D4:=Dg.same s4;have B4:=bg.trans (But.of s4);generalize upd Hg t4 (.tup [.int w])=Hh at s4 e4 D4 B4;refine cat_any (B4.tup (Db.same S3) e3) e4 (by show 1+2+1<=_;decide) λt5 Hi s5 e5=> ?_;refine⟨_,rfl,_,rfl,cut_any (s5 _ _ (B4.tup (Db.same S3) (S3 _ _ er))) λt6 Hj s6 e6=> ?_⟩;rw[m4_hi] at e6;refine cat_any (s6 _ _ e5) e6 (by show 1+2+1+2<=_;decide) λt7 Hk s7 e7=> ?_;have S7:=(s5.trans s6).trans s7;have BB:But d c Hb Hk:=((But.of S3).trans B4).trans (But.of S7);have rwk:=BB _ _ rwb nrd nrc;refine⟨rw',_,_,rfl,rfl,rwk,Ak (by rw[List.length_map,Rb.1];omega),?_⟩;have kp:∀(r:Addr) (zs:List V) (o:HO),Hk r=some (.tup zs)->upd Hk rw' o r=some (.tup zs):=λr zs o e=>by rw[Aj (Cr e rwk (by intro z;cases z))];exact e
     have e8:Hk t7=some (.tup (rowV ((n,x.1,x.2.1,w),x.2.2.1,x.2.2.2))):=e7;refine⟨_,_,rs++[t7],R++[((n,x.1,x.2.1,w),x.2.2.1,x.2.2.2)],rfl,λb o e n1 n2=> ?_,(D4.same S7).set nrd nrc,?_,?_,Mb.mono λr xs e=>kp _ _ _ (BB.tup Db e),by rw[Ab,List.map_append];rfl,(Rb.mono λr xs e=>kp _ _ _ (BB.tup Db e)).snoc (kp _ _ _ e8),?_,by rw[List.length_append,Rl];rfl,by rw[List.map_append,Rm,A4 hx];rfl,λy hy=> ?_⟩
     ·rw[Aj (An e nR)];exact BB _ _ (Bb _ _ e n1 n2) n1 n2
     ·rw[Aj nrl.symm];exact BB _ _ lnb nnd nnc
     ·rw[Aj nrt.symm];exact BB _ _ tb ntd ntc
     ·rw[List.map_append,Rn,List.take_add_one,hn];rfl
     ·rcases List.mem_append.mp hy with hy|hy
      ·exact Rok y hy
      ·rw[List.mem_singleton.mp hy];exact⟨nok,w0,w1⟩
    clear Ba Da ta Ma lna rw1;rintro i σ Hb hi ⟨u13,u14,rs,R,rfl,Bb,Db,lnb,tb,Mb,rwb,Rb,Rn,Rl,Rm,Rok⟩;have nd:(R.map (·.1.1)).Nodup:=by rw[Rn];exact List.Sublist.nodup (List.take_sublist _ _) znd
    have R60:R.length<=60:=by
     have:=congrArg List.length Rn;rw[List.length_map,List.length_take] at this;omega
    have tT:T.take i=T:=by
     refine List.take_of_length_le ?_;rw[List.length_map,List.length_map,Mb.1] at hi;omega
    rw[tT] at Rm;have gR:LGood N R:=LG.rows (by rw[Rm];exact gd) (by omega) nd R60 (λx hx=>(Rok x hx).1) (λx hx=>(Rok x hx).2);refine⟨_,rfl,?_⟩;dsimp only[tNil];show Srt.rSortN K [.ref rw'] Hb _;refine sort_rowsL (K:=K) rwb Rb nd (by omega) λl rs' R' hl Rb' pm up=> ?_;refine⟨l,_,rfl,.inl ⟨SqL.of Ab,λtq htq=> ?_⟩⟩;have s9:=(Ad (o:= .lst (rs'.map V.ref)) hl).trans (Ad (o:= .tup (rs'.map V.ref)) htq);exact k tq rs' R' _ (Bb.trans (But.of s9)) (Db.same s9) Ab (Rb'.mono λr xs e=>s9 _ _ e) ⟨((pm.map _).nodup_iff).mpr nd,λx hx=>⟨((gR.ok x (pm.mem_iff.mp hx)).1),(gR.ok x (pm.mem_iff.mp hx)).2.1,(gR.ok x (pm.mem_iff.mp hx)).2.2.1,by have:=(gR.ok x (pm.mem_iff.mp hx)).2.2.2;have:=lay_4 (N:Int);omega⟩,by rw[pm.length_eq];exact R60,up,gR.perm (by omega) pm⟩
  ·intro σ H' Q1 Q2 f h;obtain⟨v,e,i2,e2,h⟩:=h;obtain⟨a1,a2,a3,a4,h1,h2,h3,h4,h⟩:=h;obtain⟨b1,b2,h5,h6,h7,h⟩:=h;obtain⟨c1,c2,h8,h9,t,ht,h⟩:=h;exact⟨v,e,i2,e2,⟨a1,a2,a3,a4,h1,h2,h3,h4,⟨b1,b2,h5,h6,h7,⟨c1,c2,h8,h9,t,ht,f _ _ h⟩⟩⟩⟩
end
def spStand:Sp:=λvs H Q _=>∃(d c:Addr) (most:Nat),vs=[.ref d,.int (most:Int)]/\DeckAt H d c/\most<=36/\∀(r tp ln:Addr) (N:Nat) (rs:List Addr) (R:List R6) (zs:List Str) (H':Hp),But d c H H'->DeckAt H' d c->H' r=some (.tup [.int (N:Int),.ref tp,.ref ln])->1<=N->N<=24->H' tp=some (.tup (rs.map V.ref))->RowsAt H' rs R->Stand N R->H' ln=some (.lst (zs.map V.str))->zs.length=24+most->ln≠d->ln≠c->Q (.ref r) H'
section
variable{P:Program}{w:World}{K:PySem.W.Frag}{mg:Str->Option Value}{base:Heap}
theorem scStand:Av ["_law_deck_here","_law_most","_law_many_here","_law_names_here"] ["_law_deck_here","_law_most"] (Ag sStand):=⟨rfl,rfl,rfl,by decide+kernel,rfl,by decide+kernel,by decide+kernel⟩
theorem ok_Stand{f:Addr}{fd:FuncData}(F:Fun K "_law_stand" "_law_stand" sStand f fd)(T:Txt mg)(GMany:Cl P w K mg base 4 "_law_many" ["_law_deck_here"] spMany)(GNames:Cl P w K mg base 4 "_law_names" ["_law_deck_here","_law_many_here"] spNames)(GLayered:Cl P w K mg base 4 "_law_layered" ["_law_deck_here","_law_many_here","_law_names_here","_law_most"] spLayered):
  FnOk P w K mg base CX0 5 f fd ["_law_deck_here","_law_most"] spStand:=by
 refine F.ok scStand (λvs H Q E h=> ?_) (λcdv A outer s H vs Q E hr h=> ?_)
 ·obtain⟨_,_,_,rfl,_⟩:=h;rfl
 ·obtain⟨d,c,most,rfl,hD,m36,k⟩:=h;refine⟨_,Ae (Aw (i:=2) scStand.nd rfl (Or.inl rfl) (At GMany hr (Aa (pv 0) Ac)))
   (Ae (Aw (i:=3) scStand.nd rfl (Or.inl rfl) (At GNames hr (Aa (pv 0) (Aa (Az Bm Af (pv 1)) Ac))))
   (Ai (Ao (Bk (Aa (pv 2) (Aa (At GLayered hr (Aa (pv 0) (Aa (pv 2) (Aa (pv 3) (Aa (pv 1) Ac))))) (Aa (pv 3) Ac))))))),?_⟩
  refine⟨_,rfl,d,c,rfl,hD,λN H1 N1 N24 b1 D1=> ?_⟩;refine⟨_,rfl,_,rfl,_,_,rfl,rfl,d,c,24+most,?_,D1,by omega,λln zs H2 b2 D2 hl0 hl zl znd zok=> ?_⟩
  ·rw[show ((24+most:Nat):Int)=24+(most:Int) by omega];rfl
  have nd:ln≠d:=D1.nd hl0;have nc:ln≠c:=D1.nc hl0;refine⟨_,rfl,_,rfl,_,rfl,_,rfl,_,rfl,d,c,ln,N,most,zs,rfl,D2,N1,N24,m36,hl,nd,nc,by omega,zl,znd,zok,λtp rs R H3 b3 D3 ht hR S=>⟨_,rfl,small (by simp),λr hr=> ?_⟩⟩;have s4:=Ad (o:= .tup [.int (N:Int),.ref tp,.ref ln]) hr;exact k r tp ln N rs R zs _ (((b1.trans b2).trans b3).trans (But.of s4)) (D3.same s4) Ab N1 N24 (s4 _ _ ht) (hR.mono λr xs e=>s4 _ _ e) S (s4 _ _ (b3 _ _ hl nd nc)) zl nd nc
end
end K39
namespace K39
open PySem L2 Wk
def foV:Option Str->V
 |none=> .non
 |some f=> .str f
structure ToldAt(H:Hp)(tl:Addr)(L:Nat)(ps:List Nat)(ks:List Str)(fo:Option Str):Prop where
 ex:∃pl lk:Addr,H tl=some (.tup [.int (L:Int),.ref pl,.ref lk,foV fo])/\H pl=some (.tup (psV ps))/\H lk=some (.tup (ks.map V.str))
theorem ToldAt.same{H H':Hp}{tl:Addr}{L:Nat}{ps:List Nat}{ks:List Str}{fo:Option Str}(h:ToldAt H tl L ps ks fo)(s:Same H H'):ToldAt H' tl L ps ks fo:=by
 obtain⟨pl,lk,a,b,c⟩:=h.ex;exact⟨pl,lk,s _ _ a,s _ _ b,s _ _ c⟩
def spBehind:Sp:=λvs H Q _=>∃(r tl:Addr) (x:R6) (L:Nat) (ps:List Nat) (ks:List Str) (fo:Option Str),vs=[.ref r,.ref tl]/\H r=some (.tup (rowV x))/\ToldAt H tl L ps ks fo/\∀(r':Addr) (H':Hp),Same H H'->H' r'=some (.tup (rowV (A9 L ps ks fo x)))->Q (.ref r') H'
def tWith:TS:=λD σ H=>∃(r tl pl lk:Addr) (x:R6) (L:Nat) (ps:List Nat) (ks:List Str) (fo:Option Str) (b:Bool),σ=[some (.ref r),some (.ref tl),some (.int (L:Int)),some (.ref pl),some (.ref lk),some (foV fo),some (.str x.1.1),some (.int (x.1.2.1:Int)),some (.int (x.1.2.2.1:Int)),some (.int x.1.2.2.2),some (.int (x.2.1:Int)),some (.bl x.2.2),some (.bl b)]/\H r=some (.tup (rowV x))/\H lk=some (.tup (ks.map V.str))/\fo≠some x.1.1/\(b=true↔x.2.2=true/\x.2.1=L/\x.1.2.1∈ps/\x.1.2.2.1∈ps)/\∀(r':Addr) (H':Hp),Same H H'->H' r'=some (.tup (rowV (A9 L ps ks fo x)))->D.rt (.ref r') H'
theorem psV_flat(ps:List Nat):(psV ps).all flatV=true:=by
 rw[List.all_eq_true];intro x hx;obtain⟨z,_,rfl⟩:=List.mem_map.mp hx;rfl
theorem strs_fl(zs:List Str):(zs.map V.str).all flatV=true:=by
 rw[List.all_eq_true];intro x hx;obtain⟨z,_,rfl⟩:=List.mem_map.mp hx;rfl
theorem inV_ps(p:Nat)(ps:List Nat):inV (.int (p:Int)) (psV ps)=decide (p∈ps):=by
 unfold inV psV;rw[List.any_map,Bool.eq_iff_iff,decide_eq_true_eq,List.any_eq_true];constructor
 ·rintro⟨q,hq,e⟩;have e:eqV (.int (q:Int)) (.int (p:Int))=true:=e;have:(q:Int)=(p:Int):=by simpa[eqV] using e
  rw[<-Int.ofNat.inj this];exact hq
 ·intro h;exact⟨p,h,by show eqV (.int (p:Int)) (.int (p:Int))=true;simp[eqV]⟩
section
variable{P:Program}{w:World}{K:PySem.W.Frag}{mg:Str->Option Value}{base:Heap}
theorem scBehind:Av ["row","told","layer","places","looked","found","name","one","other","weight","at","kept","lies_within"] ["row","told"] (Ag sBehind):=⟨rfl,rfl,rfl,by decide+kernel,rfl,by decide+kernel,by decide+kernel⟩
theorem ok_Behind{f:Addr}{fd:FuncData}(F:Fun K "row_behind" "row_behind" sBehind f fd)(T:Txt mg):
  FnOk P w K mg base CX0 1 f fd ["row","told"] spBehind:=by
 refine F.ok scBehind (λvs H Q E h=> ?_) (λcdv A outer s H vs Q E hr h=> ?_)
 ·obtain⟨_,_,_,_,_,_,_,rfl,_⟩:=h;rfl
 ·obtain⟨r,tl,x,L,ps,ks,fo,rfl,hr0,T1,k⟩:=h;refine⟨_,Ae (Cz (pv 1) (Co rfl (Al (Ah (i:=2) scBehind.nd rfl (Or.inl rfl)) (Al (Ah (i:=3) scBehind.nd rfl (Or.inl rfl)) (Al (Ah (i:=4) scBehind.nd rfl (Or.inl rfl)) (Al (Ah (i:=5) scBehind.nd rfl (Or.inl rfl)) Bf))))))
   (Ae (Cz (pv 0) (Co rfl (Al (Ah (i:=6) scBehind.nd rfl (Or.inl rfl)) (Al (Ah (i:=7) scBehind.nd rfl (Or.inl rfl)) (Al (Ah (i:=8) scBehind.nd rfl (Or.inl rfl)) (Al (Ah (i:=9) scBehind.nd rfl (Or.inl rfl)) (Al (Ah (i:=10) scBehind.nd rfl (Or.inl rfl)) (Al (Ah (i:=11) scBehind.nd rfl (Or.inl rfl)) Bf))))))))
   (Ae (Bi (Au Dt (pv 6) (pv 5) (Ay _)) (Ai (Ao (Bk (Aa (pv 6) (Aa (pv 7) (Aa (pv 8) (Aa (pv 9) (Aa (pv 10) (Aa Ch Ac))))))))) A2)
   (Ae (Aw (i:=12) scBehind.nd rfl (Or.inl rfl) (pe_and (pv 11) (pe_and (Bo Dt (pv 10) (pv 2) (Ay _)) (pe_and (Bo Dj (pv 7) (pv 3) (by rfl)) (pe_one (Bo Dj (pv 8) (pv 3) (by rfl)))))))
   (PSs.imp' (t':=tWith) (Ae (Bi (PW.pt (pw_or (Bd (pv 12)) (Ds (Au Dj (pv 6) (pv 4) (by rfl))))) (Ai (Ao (Bk (Aa (pv 6) (Aa (pv 7) (Aa (pv 8) (Aa (pv 9) (Aa (Az Bm (pv 10) Af) (Aa (pv 11) Ac))))))))) A2)
   (Ai (Ao (pv 0)))) ?rest)))),?_⟩
  case rest=>
   clear hr0 T1 k;rintro D σ H ⟨r,tl,pl,lk,x,L,ps,ks,fo,b,rfl,h0,e3,nf,hb,k⟩;have fin:∀{y:R6} {r':Addr} {H':Hp},A9 L ps ks fo x=y->Same H H'->H' r'=some (.tup (rowV y))->D.rt (.ref r') H':=λe s h=>k _ _ s (by rw[e];exact h);have up:b=true\/x.1.1∈ks->∀(q:Addr),H q=none->D.rt (.ref q) (upd H q (.tup [.str x.1.1,.int (x.1.2.1:Int),.int (x.1.2.2.1:Int),.int x.1.2.2.2,.int ((x.2.1:Int)+1),.bl x.2.2])):=λz q hq=>by
    refine fin (y:=(x.1,x.2.1+1,x.2.2)) ?_ (Ad hq) Ab;unfold A9;rw[if_neg nf,if_pos (by rw[<-hb];exact z)]
   refine⟨_,rfl,_,rfl,Be (λg=> ?_) λg=> ?_⟩
   ·exact⟨_,rfl,_,rfl,_,rfl,_,rfl,_,rfl,_,_,rfl,rfl,_,rfl,small (by simp),λq hq=>up (.inl g) q hq⟩
   ·refine⟨_,rfl,_,rfl,lk,_,rfl,.inr (SqT.of e3),rfl,strs_fl _,_,rfl,Be (λg2=> ?_) λg2=> ?_⟩
    ·have g2:x.1.1∈ks:=by
      rw[if_neg (by decide),inV_strs] at g2;simpa using g2
     exact⟨_,rfl,_,rfl,_,rfl,_,rfl,_,rfl,_,_,rfl,rfl,_,rfl,small (by simp),λq hq=>up (.inr g2) q hq⟩
    ·have g2:x.1.1 ∉ ks:=by
      rw[if_neg (by decide),inV_strs] at g2;simpa using g2
     dsimp only[Br];refine⟨_,rfl,fin (y:=x) ?_ (same_refl _) h0⟩;unfold A9;rw[if_neg nf,if_neg (by rw[<-hb];rintro(z|z);exact g z;exact g2 z)]
  obtain⟨pl,lk,e1,e2,e3⟩:=T1.ex;refine⟨_,rfl,tl,_,rfl,SqT.of e1,rfl,_,_,rfl,_,_,rfl,_,_,rfl,_,_,rfl,rfl,?_⟩;refine⟨_,rfl,r,_,rfl,SqT.of hr0,rfl,_,_,rfl,_,_,rfl,_,_,rfl,_,_,rfl,_,_,rfl,_,_,rfl,rfl,?_⟩;have fin:∀{y:R6} {r':Addr} {H':Hp},A9 L ps ks fo x=y->Same H H'->H' r'=some (.tup (rowV y))->Q (.ref r') H':=λe s h=>k _ _ s (by rw[e];exact h);refine⟨_,rfl,_,rfl,(by cases fo<;> rfl),_,rfl,Be (λg=> ?_) λg=> ?_⟩
  ·have g:fo=some x.1.1:=by
    cases fo with
    |none=>exact absurd g (by simp[foV])
    |some f=>
     have:V.str x.1.1=V.str f:=by simpa[foV] using g
     rw[V.str.inj this]
   refine⟨_,rfl,_,rfl,_,rfl,_,rfl,_,rfl,small (by simp),λq hq=> ?_⟩;exact fin (y:=(x.1,x.2.1,true)) (if_pos g) (Ad hq) Ab
  have g:¬fo=some x.1.1:=λz=>by subst z;simp[foV] at g
  dsimp only[Br];have out:∀b:Bool,(b=true↔x.2.2=true/\x.2.1=L/\x.1.2.1∈ps/\x.1.2.2.1∈ps)->tWith {nx:=λx H'=>Q V.non H',rt:=Q} [some (.ref r),some (.ref tl),some (.int (L:Int)),some (.ref pl),some (.ref lk),some (foV fo),some (.str x.1.1),some (.int (x.1.2.1:Int)),some (.int (x.1.2.2.1:Int)),some (.int x.1.2.2.2),some (.int (x.2.1:Int)),some (.bl x.2.2),some (.bl b)] H:=λb hb=>⟨r,tl,pl,lk,x,L,ps,ks,fo,b,rfl,hr0,e3,g,hb,k⟩
  have i1:∀p:Nat,(if false=true then !inV (.int (p:Int)) (psV ps) else inV (.int (p:Int)) (psV ps))=decide (p∈ps):=λp=>by rw[if_neg (by decide)];exact inV_ps p ps
  refine⟨_,rfl,_,rfl,Be (λg1=> ?_) λg1=> ?_⟩
  ·refine⟨_,rfl,_,rfl,rfl,_,rfl,Be (λg2=> ?_) λg2=> ?_⟩
   ·have g2:x.2.1=L:=by
     have:=of_decide_eq_true g2;exact Int.ofNat.inj (V.int.inj this)
    refine⟨_,rfl,_,rfl,pl,_,rfl,.inr (SqT.of e2),rfl,psV_flat _,?_⟩;rw[i1];refine⟨_,rfl,Be (λg3=> ?_) λg3=> ?_⟩
    ·have g3:x.1.2.1∈ps:=of_decide_eq_true g3;refine⟨_,rfl,_,rfl,pl,_,rfl,.inr (SqT.of e2),rfl,psV_flat _,?_⟩;rw[i1];exact out _ ⟨λz=>⟨g1,g2,g3,of_decide_eq_true z⟩,λz=>decide_eq_true z.2.2.2⟩
    ·exact out _ ⟨λz=>(by cases z),λz=>absurd (decide_eq_true z.2.2.1) g3⟩
   ·exact out _ ⟨λz=>(by cases z),λz=>absurd (by rw[z.2.1];exact decide_eq_true rfl) g2⟩
  ·exact out _ ⟨λz=>(by cases z),λz=>absurd z.1 g1⟩
end
end K39
namespace K39
open PySem L2 Wk
def spBehinds:Sp:=λvs H Q _=>∃(tp tl:Addr) (rs:List Addr) (R:List R6) (L:Nat) (ps:List Nat) (ks:List Str) (fo:Option Str),vs=[.ref tp,.ref tl]/\H tp=some (.tup (rs.map V.ref))/\RowsAt H rs R/\R.length<=60/\ToldAt H tl L ps ks fo/\∀(tq:Addr) (qs:List Addr) (H':Hp),Same H H'->H' tq=some (.tup (qs.map V.ref))->RowsAt H' qs (R.map (A9 L ps ks fo))->Q (.ref tq) H'
section
variable{P:Program}{w:World}{K:PySem.W.Frag}{mg:Str->Option Value}{base:Heap}
theorem scBehinds:Av ["rows","told"] ["rows","told"] (Ag sBehinds):=⟨rfl,rfl,rfl,by decide+kernel,rfl,by decide+kernel,by decide+kernel⟩
theorem ok_Behinds{f:Addr}{fd:FuncData}(F:Fun K "rows_behind" "rows_behind" sBehinds f fd)(T:Txt mg)(GBehind:Cl P w K mg base 1 "row_behind" ["row","told"] spBehind):
  FnOk P w K mg base CX0 2 f fd ["rows","told"] spBehinds:=by
 refine F.ok scBehinds (λvs H Q E h=> ?_) (λcdv A outer s H vs Q E hr h=> ?_)
 ·obtain⟨_,_,_,_,_,_,_,_,rfl,_⟩:=h;rfl
 ·obtain⟨tp,tl,rs,R,L,ps,ks,fo,rfl,ht,hR,R60,T1,k⟩:=h;refine⟨_,Ai (Ao (A3 Bp (by rfl) T.tuple (by decide+kernel) (Aa (A5 (T:=["row"]) (F:=["told"]) (js:=[1]) (cs (osc:=Ag sBehinds)) rfl (Dm (pv 0)) (λ_ _ _ _ _=>Ah (i:=0) (show (["row","told"]:List Str).Nodup by decide+kernel) rfl (Or.inl rfl)) (λ_ _ _ _ _=>A8) (λ_ _ _ _ _=>At GBehind hr (Aa (pv 0) (Aa (pv 1) Ac)))) Ac))),?_⟩;refine⟨_,rfl,tp,rfl,⟨_,SqT.of ht⟩,λD hD=>Cd (K:=K) (a:=tp) (xs:=rs.map V.ref) (λj σ ys H2=>∃(u:Option V) (qs:List Addr),σ=[u,some (.ref tl)]/\ys=qs.map V.ref/\Same H H2/\H2 D=some (.lst ys)/\RowsAt H2 qs ((R.take j).map (A9 L ps ks fo))) ⟨none,[],rfl,rfl,Ad hD,Ab,rfl,λi r t e=>by simp at e⟩ (λj σ ys H2 _ ⟨_,_,_,_,s,e,_⟩=>⟨SqT.of (s _ _ ht),e⟩) ?_ ?_⟩
  ·rintro j x σ ys H2 hx ⟨u,qs,rfl,rfl,s2,d2,p2⟩;obtain⟨r,er,rfl⟩:=Ax hx;obtain⟨y,ey,hy⟩:=hR.get er;have ql:qs.length<=60:=by rw[p2.1,List.length_map,List.length_take];omega
   refine⟨_,rfl,_,rfl,r,tl,y,L,ps,ks,fo,rfl,s2 _ _ hy,T1.same s2,λr' H3 s3 e3=> ?_⟩;have d3:=s3 _ _ d2;have kp:∀(r:Addr) (zs:List V) (o:HO),H3 r=some (.tup zs)->upd H3 D o r=some (.tup zs):=λr zs o e=>by rw[Aj (Cr e d3 (by intro z;cases z))];exact e
   refine⟨d3,Ak (by rw[List.length_map];omega),_,qs++[r'],rfl,by rw[List.map_append];rfl,Aq (s2.trans s3) hD,Ab,?_⟩;rw[List.take_add_one,ey,List.map_append];exact(p2.mono λr zs e=>kp r zs _ (s3 _ _ e)).snoc (kp _ _ _ e3)
  rintro σ ys H2 ⟨u,qs,rfl,rfl,s2,d2,p2⟩;rw[List.length_map,hR.1,List.take_length] at p2;refine⟨D,_,rfl,.inl ⟨SqL.of d2,λtq htq=> ?_⟩⟩;exact k tq qs _ (s2.trans (Ad htq)) Ab (p2.mono λr xs e=>Ad htq _ _ e)
end
end K39
namespace K39
open PySem L2 Wk
theorem pi_tupK{X:Cx}{tg l:Expr}{tl:TE}(K:PySem.W.Frag)(hK:X.K=K)(hl:PE X l tl):PI X tg l (iTup K tl):=by subst hK;exact Dm hl
def looF(R:List R6)(L:Nat):List R6:=R.filter λx=>decide (x.2.1=L) && !x.2.2
def cntF(ps:List Nat)(x:R6):Nat:=([x.1.2.1,x.1.2.2.1].filter λp=>decide (p∈ps)).length
def Bs(R:List R6)(L:Nat)(ps:List Nat)(e:Nat):List Str:=((looF R L).filter λx=>decide (cntF ps x=e)).map (·.1.1)
def spLoose:Sp:=λvs H Q _=>∃(tp pl:Addr) (rs:List Addr) (R:List R6) (L e:Nat) (ps:List Nat),vs=[.ref tp,.int (L:Int),.ref pl,.int (e:Int)]/\H tp=some (.tup (rs.map V.ref))/\RowsAt H rs R/\R.length<=60/\H pl=some (.tup (psV ps))/\∀(l:Addr) (H':Hp),Same H H'->H' l=some (.lst ((Bs R L ps e).map V.str))->Q (.ref l) H'
theorem cut13(x:R6):Dy (rowV x) (some 1) (some 3)=[.int (x.1.2.1:Int),.int (x.1.2.2.1:Int)]:=by
 unfold Dy rowV tieV;rfl
section
variable{P:Program}{w:World}{K:PySem.W.Frag}{mg:Str->Option Value}{base:Heap}
theorem scLoose:Av ["rows","layer","places","ends","loose"] ["rows","layer","places","ends"] (Ag sLoose):=⟨rfl,rfl,rfl,by decide+kernel,rfl,by decide+kernel,by decide+kernel⟩
theorem ok_Loose{f:Addr}{fd:FuncData}(F:Fun K "loose_names" "loose_names" sLoose f fd)(T:Txt mg):
  FnOk P w K mg base CX0 1 f fd ["rows","layer","places","ends"] spLoose:=by
 refine F.ok scLoose (λvs H Q E h=> ?_) (λcdv A outer s H vs Q E hr h=> ?_)
 ·obtain⟨_,_,_,_,_,_,_,rfl,_⟩:=h;rfl
 ·obtain⟨tp,pl,rs,R,L,e,ps,rfl,ht,hR,R60,hp,k⟩:=h;refine⟨_,Ae (Dr (i:=4) (T:=["row"]) (F:=["layer"]) (js:=[1]) scLoose.nd rfl (Or.inl rfl) (cs (osc:=Ag sLoose)) rfl (Dm (pv 0)) (λ_ _ _ _ _=>Ah (i:=0) (show (["row","layer"]:List Str).Nodup by decide+kernel) rfl (Or.inl rfl)) (λ_ _ _ _ _=>Ci (PW.pt (pw_and (Au Dt (A1 (r:=rIxT K) Cg (pv 0) Af (λ_ _=>rfl)) (pv 1) (Ay _)) (pw_and1 (Bu (Bd (A1 (r:=rIxT K) Cg (pv 0) Af (λ_ _=>rfl)))))))) (λ_ _ _ _ _=>pv 0))
   (Ai (Ao (A5 (T:=["row"]) (F:=["ends","places"]) (js:=[3,2]) (cs (osc:=Ag sLoose)) rfl (Ce (pv 4)) (λ_ _ _ _ _=>Ah (i:=0) (show (["row","ends","places"]:List Str).Nodup by decide+kernel) rfl (Or.inl rfl)) (λ_ _ _ _ _=>Ci (Au Dt (Am (r:=rLenX K) As (by rfl) T.len PySem.boot_len (Aa (A5 (T:=["place"]) (F:=["places"]) (js:=[2]) (cs (osc:={kind:= .function,names:=[(".0",.local),("row",.local),("len",.globalImplicit),("ends",.cell),("places",.cell)],isGenerator:=false,isCoroutine:=false})) rfl (pi_tupK K rfl (Cf (r:=rSlTA K) sl_tupA (pv 0) (Bv Af) (Bv Af))) (λ_ _ _ _ _=>Ah (i:=0) (show (["place","places"]:List Str).Nodup by decide+kernel) rfl (Or.inl rfl)) (λ_ _ _ _ _=>Ci (Au (r:=rIn K false) Dj (pv 0) (pv 1) (by rfl))) (λ_ _ _ _ _=>pv 0)) Ac)) (pv 1) (Ay _))) (λ_ _ _ _ _=>A1 (r:=rIxT K) Cg (pv 0) Af (λ_ _=>rfl))))),?_⟩
  refine⟨_,rfl,tp,rfl,⟨_,SqT.of ht⟩,λD hD=>Cd (K:=K) (a:=tp) (xs:=rs.map V.ref) (λj σ ys H2=>∃(u:Option V) (qs:List Addr),σ=[u,some (.int (L:Int))]/\ys=qs.map V.ref/\Same H H2/\H2 D=some (.lst ys)/\RowsAt H2 qs (looF (R.take j) L)) ⟨none,[],rfl,rfl,Ad hD,Ab,rfl,λi r t e=>by simp at e⟩ (λj σ ys H2 _ ⟨_,_,_,_,s,e,_⟩=>⟨SqT.of (s _ _ ht),e⟩) ?_ ?_⟩
  ·rintro j x σ ys H2 hx ⟨u,qs,rfl,rfl,s2,d2,p2⟩;obtain⟨r,er,rfl⟩:=Ax hx;obtain⟨y,ey,hy⟩:=hR.get er;have h2:=s2 _ _ hy;have ql:qs.length<=60:=by
    rw[p2.1];refine Nat.le_trans (List.length_filter_le _ _) ?_;rw[List.length_take];omega
   have tk:R.take (j+1)=R.take j++[y]:=by rw[List.take_add_one,ey];rfl
   have no:(decide (y.2.1=L) && !y.2.2)=false->looF (R.take (j+1)) L=looF (R.take j) L:=λz=>by
    unfold looF;rw[tk,List.filter_append,List.filter_cons_of_neg (by rw[z];decide),List.filter_nil,List.append_nil]
   refine⟨_,rfl,r,_,4,_,rfl,rfl,SqT.of h2,Ap (j:=4) rfl,_,rfl,rfl,_,rfl,Be (λg=> ?_) λg=> ?_⟩
   ·have g:y.2.1=L:=Int.ofNat.inj (V.int.inj (of_decide_eq_true g));refine⟨_,rfl,r,_,5,_,rfl,rfl,SqT.of h2,Ap (j:=5) rfl,_,rfl,Be (λg2=> ?_) λg2=> ?_⟩
    ·have kp:∀(r:Addr) (zs:List V) (o:HO),H2 r=some (.tup zs)->upd H2 D o r=some (.tup zs):=λr zs o e=>by rw[Aj (Cr e d2 (by intro z;cases z))];exact e
     refine⟨_,rfl,d2,Ak (by rw[List.length_map];omega),_,qs++[r],rfl,by rw[List.map_append];rfl,Aq s2 hD,Ab,?_⟩;unfold looF at p2 ⊢;rw[tk,List.filter_append,List.filter_cons_of_pos (by rw[decide_eq_true g,g2];rfl)];exact(p2.mono λr zs e=>kp r zs _ e).snoc (kp _ _ _ h2)
    ·refine⟨_,qs,rfl,rfl,s2,d2,?_⟩;rw[no (by cases h:y.2.2 with|true=>simp|false=>rw[h] at g2;exact absurd rfl g2)];exact p2
   ·refine⟨_,qs,rfl,rfl,s2,d2,?_⟩;rw[no (by rw[decide_eq_false (λz=>g (by rw[z];exact decide_eq_true rfl))];rfl)];exact p2
  rintro σ ys H2 ⟨u,qs,rfl,rfl,s2,d2,p2⟩;rw[List.length_map,hR.1,List.take_length] at p2;have hp2:=s2 _ _ hp;have l2:(looF R L).length<=60:=Nat.le_trans (List.length_filter_le _ _) R60;refine⟨_,rfl,D,rfl,⟨_,SqL.of d2⟩,λE1 hE1=>Cj (K:=K) (a:=D) (xs:=qs.map V.ref) (λj σ ys H3=>∃(u:Option V),σ=[u,some (.int (e:Int)),some (.ref pl)]/\ys=((((looF R L).take j).filter λx=>decide (cntF ps x=e)).map (·.1.1)).map V.str/\Same H2 H3/\H3 E1=some (.lst ys)) ⟨none,rfl,rfl,Ad hE1,Ab⟩ (λj σ ys H3 _ ⟨_,_,_,s,e⟩=>⟨SqL.of (s _ _ d2),e⟩) ?_ ?_⟩
  ·rintro j x σ ys H3 hx ⟨u,rfl,rfl,s3,d3⟩;obtain⟨r,er,rfl⟩:=Ax hx;obtain⟨y,ey,hy⟩:=p2.get er;have h3:=s3 _ _ hy;have hp3:=s3 _ _ hp2;have tk:(looF R L).take (j+1)=(looF R L).take j++[y]:=by rw[List.take_add_one,ey];rfl
   have jl:(((((looF R L).take j).filter λx=>decide (cntF ps x=e)).map (·.1.1)).map V.str).length<=60:=by
    rw[List.length_map,List.length_map];refine Nat.le_trans (List.length_filter_le _ _) ?_;rw[List.length_take];omega
   refine⟨_,rfl,_,rfl,_,rfl,cut_any h3 λr4 H4 s4 e4=> ?_⟩;rw[cut13] at e4;have hp4:=s4 _ _ hp3;have d4:=s4 _ _ d3;refine⟨r4,rfl,⟨_,SqT.of e4⟩,λD2 hD2=>Cd (K:=K) (a:=r4) (xs:=[.int (y.1.2.1:Int),.int (y.1.2.2.1:Int)]) (λi σ zs H5=>∃(u:Option V),σ=[u,some (.ref pl)]/\zs=(([y.1.2.1,y.1.2.2.1].take i).filter λp=>decide (p∈ps)).map (λ(p:Nat)=>V.int (p:Int))/\Same H4 H5/\H5 D2=some (.lst zs)) ⟨none,rfl,rfl,Ad hD2,Ab⟩ (λi σ zs H5 _ ⟨_,_,_,s,e⟩=>⟨SqT.of (s _ _ e4),e⟩) ?_ ?_⟩
   ·rintro i v σ zs H5 hv ⟨u2,rfl,rfl,s5,d5⟩;obtain⟨q,hq,rfl⟩:∃q:Nat,[y.1.2.1,y.1.2.2.1][i]? =some q/\v= .int (q:Int):=by
     match i,hv with
     |0,hv=>exact⟨_,rfl,(Option.some.inj hv).symm⟩
     |1,hv=>exact⟨_,rfl,(Option.some.inj hv).symm⟩
     |n+2,hv=>exact absurd hv (by simp)
    have tk2:[y.1.2.1,y.1.2.2.1].take (i+1)=[y.1.2.1,y.1.2.2.1].take i++[q]:=by rw[List.take_add_one,hq];rfl
    have l5:((([y.1.2.1,y.1.2.2.1].take i).filter λp=>decide (p∈ps)).map (λ(p:Nat)=>V.int (p:Int))).length<=2:=by
     rw[List.length_map];refine Nat.le_trans (List.length_filter_le _ _) ?_;rw[List.length_take];exact Nat.min_le_right _ _
    refine⟨_,rfl,_,rfl,pl,_,rfl,.inr (SqT.of (s5 _ _ hp4)),rfl,psV_flat _,_,rfl,Be (λg=> ?_) λg=> ?_⟩
    ·have g:q∈ps:=by rw[if_neg (by decide),inV_ps] at g;exact of_decide_eq_true g
     refine⟨_,rfl,d5,Ak (by omega),_,rfl,?_,Aq s5 hD2,Ab⟩;rw[tk2,List.filter_append,List.filter_cons_of_pos (by simpa using g),List.map_append];rfl
    ·have g:q ∉ ps:=λz=>g (by rw[if_neg (by decide),inV_ps];exact decide_eq_true z);refine⟨_,rfl,?_,s5,?_⟩
     ·rw[tk2,List.filter_append,List.filter_cons_of_neg (by simpa using g),List.filter_nil,List.append_nil]
     ·exact d5
   rintro σ zs H5 ⟨u2,rfl,rfl,s5,d5⟩;have ln:(((([y.1.2.1,y.1.2.2.1].take 2).filter λp=>decide (p∈ps)).map (λ(p:Nat)=>V.int (p:Int))).length:Int)=((cntF ps y:Nat):Int):=by
    rw[List.length_map];rfl
   have h5:=s5 _ _ (s4 _ _ h3);have d6:=s5 _ _ d4;refine⟨D2,_,rfl,.inl (SqL.of d5),?_⟩;refine⟨_,rfl,rfl,_,rfl,Be (λg=> ?_) λg=> ?_⟩
   ·have g:cntF ps y=e:=by
     have:=of_decide_eq_true g;exact Int.ofNat.inj (ln.symm.trans (V.int.inj this))
    refine⟨_,rfl,r,_,0,_,rfl,rfl,SqT.of h5,Ap (j:=0) rfl,d6,Ak (by omega),_,rfl,?_,Aq (s3.trans (s4.trans s5)) hE1,Ab⟩;rw[tk,List.filter_append,List.filter_cons_of_pos (by simpa using g),List.map_append,List.map_append];rfl
   ·have g:cntF ps y≠e:=λz=>g (decide_eq_true (congrArg V.int (ln.trans (by rw[z]))));refine⟨_,rfl,?_,s3.trans (s4.trans s5),?_⟩
    ·rw[tk,List.filter_append,List.filter_cons_of_neg (by simpa using g),List.filter_nil,List.append_nil]
    ·exact d6
  rintro σ ys H3 ⟨u,rfl,rfl,s3,d3⟩;rw[List.length_map,p2.1,List.take_length] at d3;exact k E1 H3 (s2.trans s3) d3
end
end K39
namespace L2
open PySem PySem.Spec PyProof.Rows
section
variable{X:Cx}
theorem num_at(ys:Array (Int×Tok)){i:Nat}(h:i<ys.size):∃t,(intItems ys)[i]? =some (.int (numAt ys i) t)/\(ys.toList.map (·.1))[i]? =some (numAt ys i):=by
 refine⟨ys[i].2,?_,?_⟩
 ·unfold intItems numAt;simp[h]
 ·unfold numAt;simp[h]
theorem call_minL(hc:X.calm=true):Dw X (.builtin "min") (λxs H Q=>∃(p:Addr) (ns:List Int),xs=[.ref p]/\SqL X.K H p (ns.map V.int)/\ns≠[]/\∀m,m∈ns->(∀n∈ns,m<=n)->Q (.int m) H):=by
 intro pins s σ H xs us Q I r h;obtain⟨p,ns,rfl,hq,hne,q⟩:=h;obtain⟨u,rfl,rx⟩:=Dz r;cases rx;obtain⟨its,rv,hl,hz⟩:=I.list hq;have hi:=intsAre_of rv;obtain⟨ys,e⟩:=hi.allInts.items;have hl':=hl.isList;rw[e] at hl';have e2:ys.toList.map (·.1)=ns:=by
  have q2:=nums_intItems ys;rw[<-e] at q2;rw[<-q2];exact hi.numsOf
 have sz:ys.size=ns.length:=by rw[<-e2];simp
 have pos:0<ys.size:=by rw[sz];exact List.length_pos_iff.mpr hne
 refine min_intList (I.ok.hd hc) hl' pos λv h' tk hv hk=> ?_;obtain⟨b1,b2⟩:=argBest_lt (numAt ys) (ys.size - 1);obtain⟨t,g1,g2⟩:=num_at ys (i:=argBest (λi j=>decide (numAt ys i<numAt ys j)) (ys.size - 1)) (by omega);rw[g1] at hv;cases hv;rw[e2] at g2;refine⟨.int _,H,I.kept hk,⟨t,rfl⟩,q _ (List.mem_of_getElem? g2) λn hn=> ?_⟩;obtain⟨j,hj,rfl⟩:=List.mem_iff_getElem.mp hn;obtain⟨_,_,g3⟩:=num_at ys (i:=j) (by omega);rw[e2,List.getElem?_eq_getElem hj] at g3;rw[Option.some.inj g3];exact b2 j (by omega)
end
end L2
namespace K39
open PySem L2 Wk
def PtA(H:Hp)(qs:List Addr)(P:List (List Nat)):Prop:=qs.length=P.length/\∀(i:Nat) r x,qs[i]? =some r->P[i]? =some x->H r=some (.tup (psV x))
theorem PtA.same{H H':Hp}{qs:List Addr}{P:List (List Nat)}(h:PtA H qs P)(s:∀r xs,H r=some (.tup xs)->H' r=some (.tup xs)):PtA H' qs P:=⟨h.1,λi r x a b=>s _ _ (h.2 i r x a b)⟩
theorem PtA.get{H:Hp}{qs:List Addr}{P:List (List Nat)}(h:PtA H qs P){i:Nat}{r:Addr}(hr:qs[i]? =some r):∃x,P[i]? =some x/\H r=some (.tup (psV x)):=by
 have hi:i<P.length:=by rw[<-h.1];exact(List.getElem?_eq_some_iff.mp hr).1
 exact⟨P[i],Ck hi,h.2 i r _ hr (Ck hi)⟩
theorem PtA.snoc{H:Hp}{qs:List Addr}{P:List (List Nat)}{r:Addr}{x:List Nat}(h:PtA H qs P)(hr:H r=some (.tup (psV x))):PtA H (qs++[r]) (P++[x]):=by
 refine⟨by rw[List.length_append,List.length_append,h.1];rfl,λi r0 p0 e1 e2=> ?_⟩;rw[List.getElem?_append] at e1 e2;rw[h.1] at e1;split at e1
 ·rename_i z;rw[if_pos z] at e2;exact h.2 i r0 p0 e1 e2
 ·rename_i z;rw[if_neg z] at e2;have hz:i - P.length=0:=by
   have:=(List.getElem?_eq_some_iff.mp e1).1;simp only[List.length_cons,List.length_nil] at this;omega
  rw[hz] at e1 e2;cases e1;cases e2;exact hr
theorem psV_eq(ps:List Nat):(ps.map Int.ofNat).map V.int=psV ps:=by unfold psV;rw[List.map_map];rfl
def Do(N:Nat)(S:List T4)(x:R6):List (List Nat):=[Ar N S x.1.2.1,Ar N S x.1.2.2.1]
theorem pair_at{y:R6}{i:Nat}{v:V}(hv:([.int (y.1.2.1:Int),.int (y.1.2.2.1:Int)]:List V)[i]? =some v):∃q:Nat,[y.1.2.1,y.1.2.2.1][i]? =some q/\v= .int (q:Int):=by
 match i,hv with
 |0,hv=>exact⟨_,rfl,(Option.some.inj hv).symm⟩
 |1,hv=>exact⟨_,rfl,(Option.some.inj hv).symm⟩
 |n+2,hv=>exact absurd hv (by simp)
theorem two_at{N:Nat}{S:List T4}{y:R6}{i q:Nat}(hq:[y.1.2.1,y.1.2.2.1][i]? =some q):(Do N S y)[i]? =some (Ar N S q):=by
 match i,hq with
 |0,hq=>cases hq;rfl
 |1,hq=>cases hq;rfl
 |n+2,hq=>exact absurd hq (by simp)
def spLesser:Sp:=λvs H Q _=>∃(N:Nat) (tp tr:Addr) (rs:List Addr) (R:List R6) (L:Nat) (x:R6),vs=[.int (N:Int),.ref tp,.int (L:Int),.ref tr]/\H tp=some (.tup (rs.map V.ref))/\RowsAt H rs R/\R.length<=60/\InN N (tiF R (kpB L))/\N<=60/\H tr=some (.tup (rowV x))/\x.1.2.1<N/\x.1.2.2.1<N/\∀(l:Addr) (qs:List Addr) (m:Nat) (H':Hp),Same H H'->H' l=some (.lst (qs.map V.ref))->PtA H' qs ((Do N (tiF R (kpB L)) x).filter λp=>decide (p.length=m))->m∈(Do N (tiF R (kpB L)) x).map List.length->(∀n∈(Do N (tiF R (kpB L)) x).map List.length,m<=n)->Q (.ref l) H'
section
variable{P:Program}{w:World}{K:PySem.W.Frag}{mg:Str->Option Value}{base:Heap}
theorem scLesser:Av ["many","rows","layer","tie","ties","parts","least"] ["many","rows","layer","tie"] (Ag sLesser):=⟨rfl,rfl,rfl,by decide+kernel,rfl,by decide+kernel,by decide+kernel⟩
theorem ok_Lesser{f:Addr}{fd:FuncData}(F:Fun K "lesser_parts" "lesser_parts" sLesser f fd)(T:Txt mg)(GKept:Cl P w K mg base 3 "kept_from" ["rows","layer"] spKept)(GPart:Cl P w K mg base 3 "part_of" ["many","stand","place"] spPart):
  FnOk P w K mg base CX0 4 f fd ["many","rows","layer","tie"] spLesser:=by
 refine F.ok scLesser (λvs H Q E h=> ?_) (λcdv A outer s H vs Q E hr h=> ?_)
 ·obtain⟨_,_,_,_,_,_,_,rfl,_⟩:=h;rfl
 ·obtain⟨N,tp,tr,rs,R,L,x,rfl,ht,hR,R60,hN,N60,hx,hp,hq,k⟩:=h;refine⟨_,Ae (Aw (i:=4) scLesser.nd rfl (Or.inr rfl) (At GKept hr (Aa (pv 1) (Aa (pv 2) Ac))))
   (Ae (Dr (i:=5) (T:=["place"]) (F:=["many","ties"]) (js:=[0,4]) scLesser.nd rfl (Or.inl rfl) (cs (osc:=Ag sLesser)) rfl (Dm (Cf sl_tupA (pv 3) (Bv Af) (Bv Af))) (λ_ _ _ _ _=>Ah (i:=0) (show (["place","many","ties"]:List Str).Nodup by decide+kernel) rfl (Or.inl rfl)) (λ_ _ _ _ _=>A8) (λ_ _ _ _ _=>At GPart hr (Aa (pv 1) (Aa (pv 2) (Aa (pv 0) Ac)))))
   (Ae (Aw (i:=6) scLesser.nd rfl (Or.inr rfl) (Am (call_minL rfl) (by rfl) T.min (by decide+kernel) (Aa (A5 (T:=["part"]) (F:=[]) (js:=[]) (cs (osc:=Ag sLesser)) rfl (Ce (pv 5)) (λ_ _ _ _ _=>Ah (i:=0) (show (["part"]:List Str).Nodup by decide+kernel) rfl (Or.inl rfl)) (λ_ _ _ _ _=>A8) (λ_ _ _ _ _=>Am (r:=rLenX K) As (by rfl) T.len PySem.boot_len (Aa (pv 0) Ac))) Ac)))
   (Ai (Ao (A5 (T:=["part"]) (F:=["least"]) (js:=[6]) (cs (osc:=Ag sLesser)) rfl (Ce (pv 5)) (λ_ _ _ _ _=>Ah (i:=0) (show (["part","least"]:List Str).Nodup by decide+kernel) rfl (Or.inl rfl)) (λ_ _ _ _ _=>Ci (Au Dt (Am (r:=rLenX K) As (by rfl) T.len PySem.boot_len (Aa (pv 0) Ac)) (pv 1) (Ay _))) (λ_ _ _ _ _=>pv 0)))))),?_⟩
  refine⟨_,rfl,_,rfl,tp,rs,R,L,rfl,ht,hR,R60,λst H1 s1 e1=> ?_⟩;have e1:StandAt H1 st (tiF R (kpB L)):=e1;have l1:(tiF R (kpB L)).length<=100:=Nat.le_trans (ti_len _ _) (by omega);generalize tiF R (kpB L)=S at hN e1 l1 k ⊢;have hx1:=s1 _ _ hx;clear ht hR R60;refine⟨_,rfl,_,rfl,_,rfl,cut_any hx1 λr4 H2 s2 e2=> ?_⟩;rw[cut13] at e2;have e1:=e1.same s2;have s12:=s1.trans s2;refine⟨r4,rfl,⟨_,SqT.of e2⟩,λD hD=>Cd (K:=K) (a:=r4) (xs:=[.int (x.1.2.1:Int),.int (x.1.2.2.1:Int)]) (λi σ zs H3=>∃(u:Option V) (qs:List Addr),σ=[u,some (.int (N:Int)),some (.ref st)]/\zs=qs.map V.ref/\Same H2 H3/\H3 D=some (.lst zs)/\qs.length=i/\PtA H3 qs ((Do N S x).take i)) ⟨none,[],rfl,rfl,Ad hD,Ab,rfl,rfl,λi r x e=>by simp at e⟩ (λi σ zs H3 _ ⟨_,_,_,_,s,e,_⟩=>⟨SqT.of (s _ _ e2),e⟩) ?_ ?_⟩
  ·rintro i v σ zs H3 hv ⟨u,qs,rfl,rfl,s3,d3,ql,p3⟩;obtain⟨q,hq1,rfl⟩:=pair_at hv;have i2:i<2:=(List.getElem?_eq_some_iff.mp hv).1;have qN:q<N:=by
    match i,hq1 with
    |0,hq1=>cases hq1;exact hp
    |1,hq1=>cases hq1;exact hq
    |n+2,hq1=>exact absurd hq1 (by simp)
   refine⟨_,rfl,_,rfl,_,rfl,N,st,S,q,rfl,.inl (e1.same s3),hN,N60,l1,qN,λpt H4 s4 e4=> ?_⟩;have d4:=s4 _ _ d3;have kp:∀(r:Addr) (zs:List V) (o:HO),H4 r=some (.tup zs)->upd H4 D o r=some (.tup zs):=λr zs o e=>by rw[Aj (Cr e d4 (by intro z;cases z))];exact e
   refine⟨d4,Ak (by rw[List.length_map];omega),_,qs++[pt],rfl,by rw[List.map_append];rfl,Aq (s3.trans s4) hD,Ab,by rw[List.length_append,ql];rfl,?_⟩;rw[A4 (two_at hq1)];rw[psV_eq] at e4;exact(p3.same λr xs e=>kp _ _ _ (s4 _ _ e)).snoc (kp _ _ _ e4)
  rintro σ zs H3 ⟨u,qs,rfl,rfl,s3,d3,ql,p3⟩;have p3:PtA H3 qs (Do N S x):=p3;have ql:qs.length=2:=ql;clear hD e2 hx1 hp hq;refine⟨_,rfl,D,rfl,⟨_,SqL.of d3⟩,λD2 hD2=>Cj (K:=K) (a:=D) (xs:=qs.map V.ref) (λi σ zs H4=>∃(u:Option V),σ=[u]/\zs=(((Do N S x).take i).map λp=>V.int (p.length:Int))/\Same H3 H4/\H4 D2=some (.lst zs)) ⟨none,rfl,rfl,Ad hD2,Ab⟩ (λi σ zs H4 _ ⟨_,_,_,s,e⟩=>⟨SqL.of (s _ _ d3),e⟩) ?_ ?_⟩
  ·rintro i v σ zs H4 hv ⟨u,rfl,rfl,s4,d4⟩;obtain⟨r,er,rfl⟩:=Ax hv;obtain⟨p,ep,hp⟩:=p3.get er;have i2:i<2:=by have:=(List.getElem?_eq_some_iff.mp er).1;omega
   refine⟨_,rfl,r,_,rfl,.inr (SqT.of (s4 _ _ hp)),d4,Ak (by rw[List.length_map,List.length_take];omega),_,rfl,?_,Aq s4 hD2,Ab⟩;rw[A4 ep,List.map_append,List.map_cons,List.map_nil];unfold psV;rw[List.length_map]
  rintro σ zs H4 ⟨u,rfl,rfl,s4,d4⟩;have tl:(Do N S x).take (qs.map V.ref).length=Do N S x:=by rw[List.length_map,ql];rfl
  rw[tl] at d4;refine⟨D2,((Do N S x).map List.length).map Int.ofNat,rfl,?_,by unfold Do;simp,λm hm hl=> ?_⟩
  ·rw[List.map_map,List.map_map];exact SqL.of d4
  obtain⟨m',hm',rfl⟩:=List.mem_map.mp hm;have hmin:∀n∈(Do N S x).map List.length,m'<=n:=λn hn=>by
   have:=hl (Int.ofNat n) (List.mem_map.mpr ⟨n,hn,rfl⟩);exact Int.ofNat_le.mp this
  have d34:=s4 _ _ d3;have p4:=p3.same λr xs e=>s4 r _ e;refine⟨_,rfl,D,rfl,⟨_,SqL.of d34⟩,λD3 hD3=>Cj (K:=K) (a:=D) (xs:=qs.map V.ref) (λi σ zs H5=>∃(u:Option V) (qs':List Addr),σ=[u,some (.int (Int.ofNat m'))]/\zs=qs'.map V.ref/\Same H4 H5/\H5 D3=some (.lst zs)/\qs'.length<=i/\PtA H5 qs' (((Do N S x).take i).filter λp=>decide (p.length=m'))) ⟨none,[],rfl,rfl,Ad hD3,Ab,Nat.le_refl _,rfl,λi r x e=>by simp at e⟩ (λi σ zs H5 _ ⟨_,_,_,_,s,e,_⟩=>⟨SqL.of (s _ _ d34),e⟩) ?_ ?_⟩
  ·rintro i v σ zs H5 hv ⟨u,qs',rfl,rfl,s5,d5,ql',p5⟩;obtain⟨r,er,rfl⟩:=Ax hv;obtain⟨p,ep,hp⟩:=p4.get er;have i2:i<2:=by have:=(List.getElem?_eq_some_iff.mp er).1;omega
   have h5:=s5 _ _ hp;refine⟨_,rfl,r,_,rfl,.inr (SqT.of h5),_,rfl,rfl,_,rfl,Be (λg=> ?_) λg=> ?_⟩
   ·have g:p.length=m':=by
     have:=V.int.inj (of_decide_eq_true g);unfold psV at this;rw[List.length_map] at this;exact Int.ofNat.inj this
    have kp:∀(r:Addr) (zs:List V) (o:HO),H5 r=some (.tup zs)->upd H5 D3 o r=some (.tup zs):=λr zs o e=>by rw[Aj (Cr e d5 (by intro z;cases z))];exact e
    refine⟨_,rfl,d5,Ak (by rw[List.length_map];omega),_,qs'++[r],rfl,by rw[List.map_append];rfl,Aq s5 hD3,Ab,by rw[List.length_append];simp;omega,?_⟩;rw[A4 ep,List.filter_append,List.filter_cons_of_pos (by simpa using g)];exact(p5.same λr xs e=>kp _ _ _ e).snoc (kp _ _ _ h5)
   ·have g:¬p.length=m':=λz=>g (by
     refine decide_eq_true (congrArg V.int ?_);unfold psV;rw[List.length_map,z];rfl)
    refine⟨_,qs',rfl,rfl,s5,d5,by omega,?_⟩;rw[A4 ep,List.filter_append,List.filter_cons_of_neg (by simpa using g),List.filter_nil,List.append_nil];exact p5
  rintro σ zs H5 ⟨u,qs',rfl,rfl,s5,d5,ql',p5⟩;rw[tl] at p5;exact k D3 qs' m' H5 (s12.trans (s3.trans (s4.trans s5))) d5 p5 hm' hmin
end
end K39
namespace K39
open PySem L2 Wk
abbrev Rd4:=Nat×List Nat×List Str×Option Str
def Du(R:List R6)(r:Rd4):List R6:=R.map (A9 r.1 r.2.1 r.2.2.1 r.2.2.2)
def TlAt(H:Hp)(tl:Addr)(r:Rd4):Prop:=ToldAt H tl r.1 r.2.1 r.2.2.1 r.2.2.2
def TlsAt(H:Hp)(ts:List Addr)(F:List Rd4):Prop:=ts.length=F.length/\∀(i:Nat) t r,ts[i]? =some t->F[i]? =some r->TlAt H t r
theorem TlAt.mono{H H':Hp}{tl:Addr}{r:Rd4}(h:TlAt H tl r)(s:∀r xs,H r=some (.tup xs)->H' r=some (.tup xs)):TlAt H' tl r:=by
 obtain⟨pl,lk,a,b,c⟩:=h.ex;exact⟨pl,lk,s _ _ a,s _ _ b,s _ _ c⟩
theorem TlsAt.mono{H H':Hp}{ts:List Addr}{F:List Rd4}(h:TlsAt H ts F)(s:∀r xs,H r=some (.tup xs)->H' r=some (.tup xs)):TlsAt H' ts F:=⟨h.1,λi t r a b=>(h.2 i t r a b).mono s⟩
theorem TlsAt.snoc{H:Hp}{qs:List Addr}{P:List Rd4}{r:Addr}{x:Rd4}(h:TlsAt H qs P)(hr:TlAt H r x):TlsAt H (qs++[r]) (P++[x]):=by
 refine⟨by rw[List.length_append,List.length_append,h.1];rfl,λi r0 p0 e1 e2=> ?_⟩;rw[List.getElem?_append] at e1 e2;rw[h.1] at e1;split at e1
 ·rename_i z;rw[if_pos z] at e2;exact h.2 i r0 p0 e1 e2
 ·rename_i z;rw[if_neg z] at e2;have hz:i - P.length=0:=by
   have:=(List.getElem?_eq_some_iff.mp e1).1;simp only[List.length_cons,List.length_nil] at this;omega
  rw[hz] at e1 e2;cases e1;cases e2;exact hr
def PlN(N:Nat)(R:List R6):Prop:=∀y∈R,y.1.2.1<N/\y.1.2.2.1<N
theorem PlN.step{N:Nat}{R:List R6}(h:PlN N R)(r:Rd4):PlN N (Du R r):=λy hy=>by
 obtain⟨x,hx,rfl⟩:=List.mem_map.mp hy;rw[Cy];exact h x hx
theorem PlN.inN{N:Nat}{R:List R6}(h:PlN N R)(p:R6->Bool):InN N (tiF R p):=λt ht=>by
 unfold tiF at ht;obtain⟨x,hx,rfl⟩:=List.mem_map.mp ht;exact h x (List.mem_filter.mp hx).1
end K39
namespace K39
open PySem L2 Wk
def PLsAt(H:Hp)(qs:List Addr)(S:List T4):Prop:=qs.length=S.length/\∀(i:Nat) q t,qs[i]? =some q->S[i]? =some t->H q=some (.lst [.int (t.2.1:Int),.int (t.2.2.1:Int)])
def spGroups:Sp:=λvs H Q _=>∃(N:Nat) (pr:Addr) (qs:List Addr) (S:List T4),vs=[.int (N:Int),.ref pr]/\H pr=some (.lst (qs.map V.ref))/\PLsAt H qs S/\InN N S/\N<=60/\∀(l:Addr) (ls:List Nat) (H':Hp),Same H H'->H' l=some (.lst (psV ls))->LabOk N S ls->Q (.ref l) H'
theorem ps_range(N:Nat):(rints 0 ((N:Int) - 0).toNat).map V.int=psV (List.range N):=by rw[rints_nat,psV_eq]
theorem ps_ix{l:List Nat}{v:Nat}(h:v<l.length):(psV l)[v]? =some (.int ((l.getD v 0:Nat):Int)):=by
 unfold psV;rw[List.getElem?_map,List.getElem?_eq_getElem h,List.getD_eq_getElem?_getD,List.getElem?_eq_getElem h];rfl
section
variable{P:Program}{w:World}{K:PySem.W.Frag}{mg:Str->Option Value}{base:Heap}
theorem scGroups:Av ["_law_many_here","_law_pairs","_law_labels","_law_one","_law_other","_law_near","_law_far"] ["_law_many_here","_law_pairs"] (Ag sGroups):=⟨rfl,rfl,rfl,by decide+kernel,rfl,by decide+kernel,by decide+kernel⟩
theorem ok_Groups{f:Addr}{fd:FuncData}(F:Fun K "_law_groups" "_law_groups" sGroups f fd)(T:Txt mg):
  FnOk P w K mg base CX0 1 f fd ["_law_many_here","_law_pairs"] spGroups:=by
 refine F.ok scGroups (λvs H Q E h=> ?_) (λcdv A outer s H vs Q E hr h=> ?_)
 ·obtain⟨_,_,_,_,rfl,_⟩:=h;rfl
 ·obtain⟨N,pr,qs,S,rfl,hp,hP,hN,N60,k⟩:=h;refine⟨_,Ae (Aw (i:=2) scGroups.nd rfl (Or.inl rfl) (A3 (call_list_rng rfl) (by rfl) T.list (by decide+kernel) (Aa (A3 call_range1 (by rfl) T.range (by decide+kernel) (Aa (pv 0) Ac)) Ac)))
   (Ae (Dx PassesOwn.never rfl (Ce (pv 1)) (pg_lst rfl (Al (Ah (i:=3) scGroups.nd rfl (Or.inl rfl)) (Al (Ah (i:=4) scGroups.nd rfl (Or.inl rfl)) Bf))) (Ai (Bi (Au op_ne (A1 A0 (pv 2) (pv 3) (λ_ _=>rfl)) (A1 A0 (pv 2) (pv 4) (λ_ _=>rfl)) (Ay _)) (Ae (Cz (Bk (Aa (A1 A0 (pv 2) (pv 3) (λ_ _=>rfl)) (Aa (A1 A0 (pv 2) (pv 4) (λ_ _=>rfl)) Ac))) (Co rfl (Al (Ah (i:=5) scGroups.nd rfl (Or.inr rfl)) (Al (Ah (i:=6) scGroups.nd rfl (Or.inr rfl)) Bf))))
   (Ai (Dr (i:=2) (T:=["_law_label"]) (F:=["_law_near","_law_far"]) (js:=[5,6]) scGroups.nd rfl (Or.inl rfl) (cs (osc:=Ag sGroups)) rfl (Ce (pv 2)) (λ_ _ _ _ _=>Ah (i:=0) (show (["_law_label","_law_near","_law_far"]:List Str).Nodup by decide+kernel) rfl (Or.inl rfl)) (λ_ _ _ _ _=>A8) (λ_ _ _ _ _=>pe_ifExp (Au Dt (pv 0) (pv 2) (Ay _)) (pv 1) (pv 0))))) A2)))
   (Ai (Ao (pv 2)))),?_⟩
  refine⟨_,rfl,(N:Int),rfl,λrg hrg=> ?_⟩;have s1:=Ad (o:= .rng 0 (N:Int)) hrg;refine⟨rg,0,(N:Int),rfl,Ab,⟨by decide,by decide,by omega,by omega⟩,by omega,λl0 hl0=> ?_⟩;have s2:=s1.trans (Ad (o:= .lst ((rints 0 ((N:Int) - 0).toNat).map V.int)) hl0);have e2:=Ab (H:=upd H rg (.rng 0 (N:Int))) (a:=l0) (o:= .lst ((rints 0 ((N:Int) - 0).toNat).map V.int));generalize upd (upd H rg (.rng 0 (N:Int))) l0 (.lst ((rints 0 ((N:Int) - 0).toNat).map V.int))=H1 at s2 e2 ⊢;rw[ps_range] at e2;refine⟨_,rfl,pr,rfl,⟨_,SqL.of (s2 _ _ hp)⟩,for_list (K:=K) (a:=pr) (xs:=qs.map V.ref) (λj σ H2=>∃(l:Addr) (ls:List Nat) (u3 u4 u5 u6:Option V),σ=[some (.int (N:Int)),some (.ref pr),some (.ref l),u3,u4,u5,u6]/\Same H H2/\H2 l=some (.lst (psV ls))/\LabOk N (S.take j) ls) ⟨l0,_,_,_,_,_,rfl,s2,e2,lab0 N⟩ (λj σ H2 _ ⟨_,_,_,_,_,_,_,s,_⟩=>SqL.of (s _ _ hp)) ?_ ?_⟩
  ·rintro j v σ H2 hv ⟨l,ls,u3,u4,u5,u6,rfl,s3,e3,hl⟩;obtain⟨q,eq,rfl⟩:=Ax hv;have jl:j<S.length:=by rw[<-hP.1];exact(List.getElem?_eq_some_iff.mp eq).1
   have et:=Ck jl;have hq:=s3 _ _ (hP.2 j q _ eq et);have tin:=hN _ (List.getElem_mem jl);rw[A4 et];generalize S[j]=t at hq tin ⊢;have hst:=lab_step hl (λu hu=>hN u (List.mem_of_mem_take hu)) tin.1 tin.2;have ip:=ps_ix (l:=ls) (v:=t.2.1) (by rw[hl.len];exact tin.1);have ir:=ps_ix (l:=ls) (v:=t.2.2.1) (by rw[hl.len];exact tin.2);refine⟨q,_,rfl,SqL.of hq,rfl,_,_,rfl,_,_,rfl,rfl,?_⟩;refine⟨_,rfl,_,rfl,l,_,_,_,rfl,rfl,SqL.of e3,Ap ip,_,rfl,_,rfl,l,_,_,_,rfl,rfl,SqL.of e3,Ap ir,rfl,_,rfl,Be (λg=> ?_) λg=> ?_⟩
   ·refine⟨_,rfl,_,rfl,l,_,_,_,rfl,rfl,SqL.of e3,Ap ip,_,rfl,_,rfl,l,_,_,_,rfl,rfl,SqL.of e3,Ap ir,small (by simp),λt2 ht2=> ?_⟩;refine⟨t2,_,rfl,SqT.of Ab,rfl,_,_,rfl,_,_,rfl,rfl,?_⟩;have s4:=Ad (o:= .tup [.int ((ls.getD t.2.1 0:Nat):Int),.int ((ls.getD t.2.2.1 0:Nat):Int)]) ht2;generalize upd H2 t2 (.tup [.int ((ls.getD t.2.1 0:Nat):Int),.int ((ls.getD t.2.2.1 0:Nat):Int)])=H4 at s4 ⊢;have e4:=s4 _ _ e3;have s34:=s3.trans s4;refine⟨_,rfl,l,rfl,⟨_,SqL.of e4⟩,λD hD=>Cj (K:=K) (a:=l) (xs:=psV ls) (λi σ ys H5=>∃(u:Option V),σ=[u,some (.int ((ls.getD t.2.1 0:Nat):Int)),some (.int ((ls.getD t.2.2.1 0:Nat):Int))]/\ys=psV (relab (ls.take i) (ls.getD t.2.1 0) (ls.getD t.2.2.1 0))/\Same H4 H5/\H5 D=some (.lst ys)) ⟨none,rfl,rfl,Ad hD,Ab⟩ (λi σ ys H5 _ ⟨_,_,_,s,e⟩=>⟨SqL.of (s _ _ e4),e⟩) ?_ ?_⟩
    ·rintro i x σ ys H5 hx ⟨u,rfl,rfl,s5,d5⟩;obtain⟨z,ez,rfl⟩:∃z:Nat,ls[i]? =some z/\x= .int (z:Int):=by
      unfold psV at hx;obtain⟨z,ez,rfl⟩:=Ax hx;exact⟨z,ez,rfl⟩
     have il:i<N:=by rw[<-hl.len];exact(List.getElem?_eq_some_iff.mp ez).1
     have len:(psV (relab (ls.take i) (ls.getD t.2.1 0) (ls.getD t.2.2.1 0))).length<=60:=by
      unfold psV Wk.relab;rw[List.length_map,List.length_map,List.length_take];omega
     have nx:∀w:Nat,(if z=ls.getD t.2.2.1 0 then ls.getD t.2.1 0 else z)=w->psV (relab (ls.take i) (ls.getD t.2.1 0) (ls.getD t.2.2.1 0))++[V.int (w:Int)]=psV (relab (ls.take (i+1)) (ls.getD t.2.1 0) (ls.getD t.2.2.1 0)):=λw hw=>by
      unfold Wk.relab psV;rw[A4 ez,List.map_append,List.map_append,List.map_cons,List.map_nil,hw];rfl
     refine⟨_,rfl,_,rfl,rfl,_,rfl,Be (λg=> ?_) λg=> ?_⟩
     ·exact⟨_,rfl,d5,Ak (by omega),_,rfl,nx _ (if_pos (Int.ofNat.inj (V.int.inj (of_decide_eq_true g)))),Aq s5 hD,Ab⟩
     ·exact⟨_,rfl,d5,Ak (by omega),_,rfl,nx _ (if_neg λz=>g (decide_eq_true (by rw[z]))),Aq s5 hD,Ab⟩
    ·rintro σ ys H5 ⟨u,rfl,rfl,s5,d5⟩;have tl:ls.take (psV ls).length=ls:=by unfold psV;rw[List.length_map,List.take_length]
     rw[tl] at d5;exact⟨D,_,_,_,_,_,rfl,s34.trans s5,d5,hst⟩
   ·have g:ls.getD t.2.1 0=ls.getD t.2.2.1 0:=by
     have g:¬(!decide ((V.int ((ls.getD t.2.1 0:Nat):Int))=(V.int ((ls.getD t.2.2.1 0:Nat):Int))))=true:=g;have:=Bool.of_not_eq_true g;rw[Bool.not_eq_false'] at this;exact Int.ofNat.inj (V.int.inj (of_decide_eq_true this))
    unfold labG at hst;rw[g,relab_same] at hst;exact⟨l,ls,_,_,_,_,rfl,s3,e3,hst⟩
  ·rintro σ H2 ⟨l,ls,u3,u4,u5,u6,rfl,s3,e3,hl⟩;rw[List.length_map,hP.1,List.take_length] at hl;exact⟨_,rfl,k l ls H2 s3 e3 hl⟩
end
end K39
namespace L2
open PySem PySem.Spec PyProof.Rows
section
variable{X:Cx}{pins:List (Addr×Obj)}{σ:St}{H:Hp}{s:Shared}{a:Addr}{kvs:List (Key×V)}
theorem Inv.fz(I:Inv X pins σ H s)(e:H a=some (.dK kvs)):∃(o:Obj) (es:Array DictEntry) (ep:Nat),o.data= .dict es ep/\Inv X pins σ (upd H a (.frz o (.dK kvs))) s:=by
 obtain⟨z,lo,vs,rel,dd⟩:=dk_of I.hok e;obtain⟨o,es,ep,ho,hc,hd,hr⟩:=dd;have na:∀b,H b=none->b≠a:=λb n z=>by rw[z,e] at n;cases n
 have nu:∀b u,H b=some u->(∀k,u≠ .dK k)->upd H a (.frz o (.dK kvs)) b=some u:=λb u q n=>by
  rw[Aj]
  ·exact q
  ·intro z;rw[z,e] at q;cases q;exact n _ rfl
 have B:=I.base;refine⟨o,es,ep,hd,⟨I.ok,I.os,I.bare,⟨B.keep,B.slot,λb u q n x=> ?_,B.there,λb xs q=>nu _ _ (B.tups b xs q) (λk z=>by cases z),λb u v q=>nu _ _ (B.frzs b u v q) (λk z=>by cases z),λb ps q=> ?_⟩,I.loc,I.cell,?_,λx c q=> ?_,λp hp=> ?_,λb u q=> ?_,I.len⟩⟩
 ·rw[Aj (na b (B.free b u q n x))];exact B.free b u q n x
 ·obtain⟨m,h⟩:=B.tbls b ps q;exact⟨m,nu _ _ h (λk z=>by cases z)⟩
 ·rw[Aj (na _ I.free)];exact I.free
 ·rw[Aj (na _ (I.freeC x c q))];exact I.freeC x c q
 ·obtain⟨h1,h2,h3⟩:=I.pin p hp;exact⟨h1,by rw[Aj (na _ h2)];exact h2,h3⟩
 ·by_cases hb:b=a
  ·subst hb;rw[Ab] at q;cases q;exact⟨ho,z,lo,vs,rel,o,es,ep,ho,hc,hd,hr⟩
  ·rw[Aj hb] at q;exact(I.hok b u q).stay (λc v _ r=>r) (λc r=>nu _ _ r λk z=>by cases z) λc xs r=>nu _ _ r λk z=>by cases z
theorem fz_at{o:Obj}(I:Inv X pins σ H s)(e:H a=some (.frz o (.dK kvs))):(a==sysModules)=false/\∃(vs:List (Key×Value)) (ep:Nat) (es:Array DictEntry),KV kvs vs/\o.data= .dict es ep/\s.heap.DictAt (Bl X.prog X.w) a vs ep:=by
 obtain⟨ho,z,lo,vs,rel,dd⟩:=(show ObjOk X.prog X.w H s.heap a (.frz o (.dK kvs)) from I.hok a _ e)
 obtain⟨ep,hat⟩:=dd.dictAt;obtain⟨o',es,h1,h2,h3,h4⟩:=id hat;rw[ho] at h1;cases h1;exact⟨lo,vs,ep,es,rel,h3,hat⟩
end
theorem pss_fz{X:Cx}{st:List PySem.Stmt}{t:TS}(h:PSs X st t):PSs X st λD σ H=>∃(a:Addr) (kvs:List (Key×V)),H a=some (.dK kvs)/\∀(o:Obj) (es:Array DictEntry) (ep:Nat),o.data= .dict es ep->t D σ (upd H a (.frz o (.dK kvs))):=by
 intro pins s σ H D I ⟨a,kvs,e,k⟩;obtain⟨o,es,ep,hd,I'⟩:=I.fz e;exact h pins s σ _ D I' (k o es ep hd)
def Itkf(d:Addr)(o:Obj)(ns:List Str):It:=
 ⟨λi H=>∃kvs,H d=some (.frz o (.dK kvs))/\kvs.map (·.1)=ns.map Sum.inr/\i<ns.length,λi H x H'=>H'=H/\∃n,ns[i]? =some n/\x= .str n,λi H=>∃kvs,H d=some (.frz o (.dK kvs))/\kvs.map (·.1)=ns.map Sum.inr/\ns.length<=i⟩
theorem keys_eq{κ:Type}{kvs:List (κ×V)}{vs:List (κ×Value)}(r:KV kvs vs):vs.map (·.1)=kvs.map (·.1):=by
 induction r with
 |nil=>rfl
 |cons r t ih=>rw[List.map_cons,List.map_cons,ih,r.1]
theorem turn_dictF{P:Program}{w:World}{K:PySem.W.Frag}{tg:Expr}{d it:Addr}{o:Obj}{es:Array DictEntry}{ep:Nat}(hd:o.data= .dict es ep)(ns:List Str):Turn P w K tg (Itkf d o ns) [it] it (λi h=>h.IsKeyIter it d i ns.length ep) where
 mem:=by simp
 obj:=λi h st b hb=>by
  have e:b=it:=by simpa using hb
  subst e;obtain⟨o,e,c,d⟩:=st;exact⟨o,e,λv z=>by rw[d] at z;cases z⟩
 keep:=λi h h' st k=>st.at λo e=>k it (by simp) o e
 item:=by
  intro X hP hw hK hc i pins s σ H E I hf st hg;subst hP hw hK;obtain⟨kvs,hq,ek,hi⟩:=hg;obtain⟨lo,vs,ep',es',rel,hd',hat⟩:=fz_at I hq;rw[hd] at hd';cases hd';have e2:vs.map (·.1)=ns.map Sum.inr:=(keys_eq rel).trans ek;have len:vs.length=ns.length:=by simpa using congrArg List.length e2
  obtain⟨f0,f1,f2,f3,f4,f5⟩:=hf it (by simp);have hx:vs[i]? =some (.inr ns[i],(vs[i]'(by omega)).2):=by
   rw[List.getElem?_eq_getElem (by omega)]
   congr 1
   have:(vs.map (·.1))[i]? =(ns.map Sum.inr)[i]? :=by rw[e2]
   rw[List.getElem?_map,List.getElem?_map,List.getElem?_eq_getElem hi,List.getElem?_eq_getElem (by omega)] at this;have:=Option.some.inj this;exact Prod.ext this rfl
  refine wpAny_pyNext_dict_item (by rw[len];exact st) hat hx λkey h' hk st' sb=> ?_;rw[len] at st';have I1:Inv X pins σ H {s with heap:=h'}:=I.turned (t':=s.toks) (λb o hb e=>(sb.2 b hb).trans e) f0 f1 f3 f4 f5;have rk:RelV (.str ns[i]) key:=by
   rcases Bg (show keyIs (Sum.inr ns[i]) key=true from hk) with⟨i,t,a,_⟩|⟨y,t,a,b⟩
   ·cases a
   ·cases a;exact⟨t,b⟩
  obtain⟨oi,e,c,dd⟩:=id st';exact⟨key,rfl,go_of (s:={s with heap:=h'}) e c dd (by decide) ⟨.str ns[i],H,I1,rk,⟨rfl,_,List.getElem?_eq_getElem hi,rfl⟩,st',λb hb=>(hf b hb).1⟩⟩
 done:=by
  intro X hP hw hK hc i pins s σ H E I hf st hg;subst hP hw hK;obtain⟨kvs,hq,ek,hi⟩:=hg;obtain⟨lo,vs,ep',es',rel,hd',hat⟩:=fz_at I hq;rw[hd] at hd';cases hd';have e2:vs.map (·.1)=ns.map Sum.inr:=(keys_eq rel).trans ek;have len:vs.length=ns.length:=by simpa using congrArg List.length e2
  obtain⟨f0,f1,f2,f3,f4,f5⟩:=hf it (by simp);exact wpAny_pyNext_dict_end (I.ok.hd hc) (by rw[len];exact st) hat (List.getElem?_eq_none (by omega)) λh' eb=>⟨rfl,I.turned (t':=s.toks) (λb o hb e=>eb b o hb e) f0 f1 f3 f4 f5⟩
 self:=λ_ _ _ _ _ st h=>wpAny_pyIter_keyiter st h
def iDF(td:TE):TI:=λσ H R=>td σ H λx H1=>∃(d:Addr) (o:Obj) (kvs:List (Key×V)) (ns:List Str),x= .ref d/\H1 d=some (.frz o (.dK kvs))/\kvs.map (·.1)=ns.map Sum.inr/\R (Itkf d o ns) H1
theorem pi_dF{X:Cx}{tg l:Expr}{tl:TE}(hl:PE X l tl):PI X tg l (iDF tl):=by
 intro pins s σ H R I h;refine thn (hl pins s σ H _ I h) λv s1 ⟨x,H1,I1,r1,q1⟩=> ?_;obtain⟨a,o,kvs,ns,e,hq,ek,q⟩:=q1;subst e;cases r1;obtain⟨lo,vs,ep,es,rel,hd,hat⟩:=fz_at I1 hq;have e2:vs.map (·.1)=ns.map Sum.inr:=(keys_eq rel).trans ek;have len:vs.length=ns.length:=by simpa using congrArg List.length e2
 refine wpAny_pyIter_dict lo hat ?_;rw[len];refine⟨s1.heap.objs.size,[s1.heap.objs.size],_,_,H1,rfl,I1.kept (t':=s1.toks) λb o e=>Heap.get?_push_of_some _ e,turn_dictF hd ns,⟨_,Heap.get?_push_size _ rfl,rfl,rfl⟩,λb hb=> ?_,q⟩;have e:b=s1.heap.objs.size:=by simpa using hb
 subst e;exact I1.fpOk (Nat.le_refl _) (I1.hok.fresh (Nat.le_refl _))
theorem for_dF{d:Addr}{o:Obj}{ns:List Str}{g:TG}{tb:TS}{D:Ends}{σ:St}{H:Hp}(Pv:Nat->St->Hp->Prop)(h0:Pv 0 σ H)(hl:∀i σ H,i<=ns.length->Pv i σ H->∃kvs,H d=some (.frz o (.dK kvs))/\kvs.map (·.1)=ns.map Sum.inr)(hs:∀i x σ H,ns[i]? =some x->Pv i σ H->g (.str x) σ H λσ2 H2=>tb {D with nx:=Pv (i+1),ct:=Pv (i+1),bk:=D.nx} σ2 H2)(hd:∀σ H,Pv ns.length σ H->D.nx σ H):
  ∃W:Nat->Nat->St->Hp->Prop,(∃m,W 0 m σ H)/\∀i m σ H,W i m σ H->
   ((Itkf d o ns).stop i H/\D.nx σ H)\/((Itkf d o ns).go i H/\∃N:St->Hp->Prop,(∀σ' H',N σ' H'->∃m',m'<m/\W (i+1) m' σ' H')/\∀x H',(Itkf d o ns).yld i H x H'->g x σ H' λσ2 H2=>tb {D with nx:=N,ct:=N,bk:=D.nx} σ2 H2):=by
 refine⟨λi m σ H=>m=ns.length - i/\i<=ns.length/\Pv i σ H,⟨ns.length,by simp,Nat.zero_le _,h0⟩,?_⟩;rintro i m σ H ⟨rfl,hi,p⟩;obtain⟨kvs,q,ek⟩:=hl i σ H hi p;by_cases hlt:i<ns.length
 ·refine .inr ⟨⟨kvs,q,ek,hlt⟩,Pv (i+1),λσ' H' p'=>⟨ns.length - (i+1),by omega,rfl,hlt,p'⟩,λx H' y=> ?_⟩;obtain⟨e,n,hn,rfl⟩:=y;subst e;exact hs i n σ _ hn p
 ·have e:i=ns.length:=by omega
  subst e;exact .inl ⟨⟨kvs,q,ek,Nat.le_refl _⟩,hd σ H p⟩
theorem comp_dF{g:TG}{ti:TT}{te:TE}{Q:VK}{D:Addr}{σ:St}{H:Hp}{d:Addr}{o:Obj}{ns:List Str}(Pv:Nat->St->List V->Hp->Prop)(h0:Pv 0 σ [] (upd H D (.lst [])))(hl:∀i σ ys H,i<=ns.length->Pv i σ ys H->(∃kvs,H d=some (.frz o (.dK kvs))/\kvs.map (·.1)=ns.map Sum.inr)/\H D=some (.lst ys))(hs:∀i x σ ys H,ns[i]? =some x->Pv i σ ys H->cturn g ti te D (.str x) σ ys H (Pv (i+1)))(hd:∀σ ys H,Pv ns.length σ ys H->Q (.ref D) H):
  cgo (Itkf d o ns) g ti te D σ H Q:=by
 refine⟨λi m σ ys H=>m=ns.length - i/\i<=ns.length/\Pv i σ ys H,⟨ns.length,by simp,Nat.zero_le _,h0⟩,?_⟩;rintro i m σ ys H ⟨rfl,hi,p⟩;obtain⟨⟨kvs,q,ek⟩,hD⟩:=hl i σ ys H hi p;refine⟨hD,?_⟩;by_cases hlt:i<ns.length
 ·refine .inr ⟨⟨kvs,q,ek,hlt⟩,Pv (i+1),λσ' ys' H' p'=>⟨ns.length - (i+1),by omega,rfl,hlt,p'⟩,λx H' y=> ?_⟩;obtain⟨e,n,hn,rfl⟩:=y;subst e;exact hs i n σ ys _ hn p
 ·have e:i=ns.length:=by omega
  subst e;exact .inl ⟨⟨kvs,q,ek,Nat.le_refl _⟩,hd σ ys H p⟩
end L2
namespace Srt
open PySem PySem.W PyProof.Rows L2
section
variable{X:Cx}
theorem call_sortedDR(hc:X.calm=true):Dw X (.builtin "sorted") (λxs H Q=>∃(d:Addr) (kvs:List (Key×V)) (ns:List Str),xs=[.ref d]/\Rd H d (.dK kvs)/\kvs.map (·.1)=ns.map Sum.inr/\ns.length<64/\∀(l:Addr) (ns':List Str),H l=none->ns'.Perm ns->ns'.Pairwise (λa b=>ltK (.inr b) (.inr a)=false)->Q (.ref l) (upd H l (.lst (ns'.map V.str)))):=by
 intro pins s σ H xs us Q I r h;obtain⟨d,kvs,ns,rfl,hd,e,h64,q⟩:=h;obtain⟨u,rfl,rx⟩:=Dz r;cases rx;obtain⟨z,lo,vs,rel,dd⟩:=dk_rd I.hok hd;obtain⟨ep,hat⟩:=dd.dictAt;have ek:vs.map (·.1)=ns.map Sum.inr:=by
  rw[<-e];clear hat dd e q z hd
  induction rel with
  |nil=>rfl
  |cons r t ih=>rw[List.map_cons,List.map_cons,ih,r.1]
 have len:vs.length=ns.length:=by simpa using congrArg List.length ek
 refine sorted_raw (κ:=oneType') (ord_rows λi=>[Sum.inr (ns.getD i default)]) (λus=>Vals (ns.map V.str) us) (λus hu=>by have:=hu.length;rw[List.length_map] at this;omega) (λQ hq=> ?_) ?_ ?_ ?_
 ·refine kdu_collect (A:=X.A.in1) (kdl_dict (knd:=Bl X.prog X.w) (kvs:=vs) (ep:=ep) lo) (I.ok.hd hc) hat (by rw[<-rel.length];exact z) λh' tk acc hk hacc=>hq _ h' tk ?_ hk;have go:∀(vs:List (Key×Value)) (ns:List Str) (us:List Value),vs.map (·.1)=ns.map Sum.inr->us.length=vs.length->(∀(j:Nat) (u:Value),us[j]? =some u->∃k x,vs[j]? =some (k,x)/\(Bl X.prog X.w).is k u=true)->Vals (ns.map V.str) us:=by
   intro vs
   induction vs with
   |nil=>
    intro ns us e1 e2 _;cases ns with
    |nil=>cases us with
     |nil=>exact .nil
     |cons _ _=>cases e2
    |cons _ _=>cases e1
   |cons p vs ih=>
    intro ns us e1 e2 h;cases ns with
    |nil=>cases e1
    |cons n ns=>
     cases us with
     |nil=>cases e2
     |cons u us=>
      simp only[List.map_cons,List.cons.injEq] at e1;refine .cons ?_ (ih ns us e1.2 (by simpa using e2) λj u hj=>h (j+1) u (by simpa using hj));obtain⟨k,x,hx,hk⟩:=h 0 u rfl;simp only[List.getElem?_cons_zero,Option.some.injEq] at hx;have:k=Sum.inr n:=by rw[<-e1.1,hx]
      subst this;rcases Bg (show keyIs (Sum.inr n) u=true from hk) with⟨i,t,a,_⟩|⟨y,t,a,b⟩
      ·cases a
      ·cases a;exact⟨t,b⟩
  exact go vs ns acc.toList ek (by rw[Array.length_toList];exact hacc.1) λj u hj=>hacc.2 j u (by rw[<-Array.getElem?_toList];exact hj)
 ·intro us h' t' hu k l2 Q hq;refine kas_kind (s:={s with heap:=h',toks:=t'}) (T:=Value.type "str") l2 (λv hv=> ?_) rfl rfl hq;clear hq l2;have:∀{ns:List Str} {us:List Value},Vals (ns.map V.str) us->∀v∈us,∃x t,v=Value.str x t:=by
   intro ns
   induction ns with
   |nil=>intro us hu v hv;cases hu;cases hv
   |cons n ns ih=>
    intro us hu v hv;cases hu with
    |cons r t=>
     rcases List.mem_cons.mp hv with rfl|hv
     ·obtain⟨t,rfl⟩:=r;exact⟨_,_,rfl⟩
     ·exact ih t v hv
  obtain⟨x,t,rfl⟩:=this hu v hv;exact Looks.of_pure rfl
 ·intro us h' t' hu k i j C hi hj hC;have lu:=hu.length;rw[List.length_map] at lu;obtain⟨a,ha,ra⟩:=Vals.get hu (i:=i) (x:=V.str (ns.getD i default)) (by simp[show i<ns.length by omega]);obtain⟨b,hb,rb⟩:=Vals.get hu (i:=j) (x:=V.str (ns.getD j default)) (by simp[show j<ns.length by omega]);show wpAny _ _ (keyLt' oneType' (us.getD i Value.none) (us.getD j Value.none)) C _ _;have e1:us.getD i Value.none=a:=by simp[List.getD,ha]
  have e2:us.getD j Value.none=b:=by simp[List.getD,hb]
  rw[e1,e2,keyLt'_oneType];refine key_lt (x:=Sum.inr (ns.getD i default)) (y:=Sum.inr (ns.getD j default)) rfl ra rb ?_;have:ltR [Sum.inr (ns.getD i default)] [Sum.inr (ns.getD j default)]=ltK (Sum.inr (ns.getD i default)) (Sum.inr (ns.getD j default)):=by
   unfold ltR;split
   ·rename_i e;rw[e,ltK_irr];rfl
   ·rfl
  rw[<-this];exact hC
 ·intro us p h1 h' t' l e hu pm st k1 k zl hl;have lu:=hu.length;rw[List.length_map] at lu;have I:L2.Inv X pins σ H {s with heap:=h1,toks:=t'}:=I.kept k1;rw[<-lu] at pm st;have pl:=pm.toList;have pp:(p.toList.map λi=>ns.getD i default).Perm ns:=by
   have:=pl.map (λi=>ns.getD i (default:Str))
   rwa [map_range_getD] at this
  have pw:(p.toList.map λi=>ns.getD i (default:Str)).Pairwise (λa b=>ltK (.inr b) (.inr a)=false):=by
   rw[List.pairwise_map];refine(st.pairwise pm.size).imp λ{a b} hab=> ?_;unfold ltR at hab;split at hab
   ·rename_i e;rw[e];exact ltK_irr _
   ·exact hab
  have mem:∀i∈p.toList,i<ns.length:=λi hi=>by simpa using pl.mem_iff.mp hi
  have vv:Vals ((p.toList.map λi=>ns.getD i default).map V.str) (p.toList.map λi=>us.getD i Value.none):=by
   clear hl pw pp pl st pm;generalize p.toList=il at mem
   induction il with
   |nil=>exact .nil
   |cons i il ih=>
    refine .cons ?_ (ih λj hj=>mem j (.tail _ hj));have hi:=mem i (.head _);obtain⟨a,ha,ra⟩:=Vals.get hu (i:=i) (x:=V.str (ns.getD i default)) (by simp[hi]);have e1:us.getD i Value.none=a:=by simp[List.getD,ha]
    show L2.RelV (V.str (ns.getD i default)) (us.getD i Value.none);rw[e1];exact ra
  refine⟨.ref l,_,I.laid (t':=t') (o:= .lst ((p.toList.map λi=>ns.getD i default).map V.str)) k zl ⟨?_,_,e,vv,hl⟩,rfl,q l _ (I.hok.fresh zl) pp pw⟩;rw[List.length_map,pp.length_eq,sizeLine_eq];omega
end
end Srt
namespace PySem
namespace F
theorem lk_list_keys:typeLookup (.type "list") "keys"=pure none:=by rw[typeLookup_type,builtinLookup_eq_fast];kernel_rfl
theorem lk_list_getattr:typeLookup (.type "list") "__getattr__"=pure none:=by rw[typeLookup_type,builtinLookup_eq_fast];kernel_rfl
end F
section
variable{prog:Program}{w:World}{A:Around}{E:Value->Shared->Prop}{h:Heap}{g:Array GenState}{d:Drawn}{t:Nat}{os:OsState}{a:Addr}{n:Nat}{its:Array Value}
theorem first_attr(v:Value):firstArgMember (.type "AttributeError") [v]=pure Value.none:=by kernel_rfl
theorem sub_attr_self:isSubtype (.type "AttributeError") (.type "AttributeError")=pure true:=by rw[isSubtype_type];kernel_rfl
theorem raise_attr{α:Type}{s:Shared}{o:Value}{name msg:Str}{Q:α->Shared->Prop}(hm:msg.length<=sizeLine)(hh:A.handled=none)(hq:∀(h':Heap) (e:Addr) (t':Nat),(∀b o,s.heap.get? b=some o->h'.get? b=some o)->(∃o,h'.get? e=some o/\o.cls= .type "AttributeError")->E (.ref e) {s with heap:=h',toks:=t'}):
  wpAny (model prog w) A (raiseAttrError o name msg:Sem α) Q E s:=by
 unfold raiseAttrError;refine wpAny_bind (wpAny_mkStr ?_ hm);unfold newExc newTuple;refine wpAny_bind (wpAny_bind (wpAny_newObj_type ?_));refine wpAny_bind (m:=firstArgMember _ _) (wpAny_of_eq (first_attr _) ?_);refine wpAny_newObj_type ?_;refine wpAny_bind (wpAny_mkText ?_);generalize eh1:(s.heap.push {cls:= .type "tuple",data:= .seq #[Value.str msg s.toks]})=h1;have k1:∀b o,s.heap.get? b=some o->h1.get? b=some o:=λb o e=>by rw[<-eh1];exact Heap.get?_push_of_some _ e
 have ge:=Heap.get?_push_size h1 (o:={cls:= .type "AttributeError",data:= .fields (#[Value.ref s.heap.objs.size,.none,.none,.none,.bool false,.none]++ownMembersOf (.type "AttributeError") [Value.str msg s.toks])}) rfl;have k2:∀b o,h1.get? b=some o->(h1.push {cls:= .type "AttributeError",data:= .fields (#[Value.ref s.heap.objs.size,.none,.none,.none,.bool false,.none]++ownMembersOf (.type "AttributeError") [Value.str msg s.toks])}).get? b=some o:=λb o e=>Heap.get?_push_of_some _ e;have nw:h1.get? h1.objs.size=none:=Heap.get?_none_of_le (Nat.le_refl _);generalize h1.objs.size=e at ge nw ⊢;have eo:(#[Value.ref s.heap.objs.size,.none,.none,.none,.bool false,.none]++ownMembersOf (.type "AttributeError") [Value.str msg s.toks])= #[Value.ref s.heap.objs.size,.none,.none,.none,.bool false,.none,rawInt 0,rawInt 0]:=rfl;rw[eo] at ge k2 ⊢;generalize (h1.push {cls:= .type "AttributeError",data:= .fields #[Value.ref s.heap.objs.size,.none,.none,.none,.bool false,.none,rawInt 0,rawInt 0]})=h2 at ge k2 ⊢;have hT:Shared.TypeIs {s with heap:=h2,toks:=s.toks+1+1} (.ref e) "AttributeError":=⟨_,ge,rfl⟩
 have sb:=sub_attr_self;refine wpAny_bind ?_;unfold noteAttr;dsimp only;refine wpAny_bind ?_;unfold lacksNameAndObj;dsimp only;refine wpAny_bind (wpAny_isInstance hT sb ?_);simp only[Bool.not_true,Bool.false_eq_true,if_false];refine wpAny_bind (wpAny_load ge ?_);refine wpAny_of_eq (a:=true) (by rfl) ?_;simp only[if_true];refine wpAny_bind (wpAny_rule ?_);refine wpAny_bind (wpAny_typeOf hT ?_);dsimp only;unfold layMembers;refine wpAny_bind (wpAny_load ge ?_);dsimp only;refine wpAny_update ge ?_;refine wpAny_raiseNew_none hh (hq _ e _ (λb o' eb=> ?_) ⟨_,Heap.get?_update_self _ ge rfl,rfl⟩);have eb2:=k1 _ _ eb;exact Heap.get?_update_of_ne _ (λz=>by rw[<-z,nw] at eb2;cases eb2) (k2 _ _ (k1 _ _ eb))
theorem keys_entry{tk:Tok}{Q:Fin->Shared->Prop}(hx:h.get? a=some {cls:= .type "list",data:= .seq its n})(hh:A.handled=none)(hq:∀(h':Heap) (e:Addr) (t':Nat),(∀b o,h.get? b=some o->h'.get? b=some o)->(∃o,h'.get? e=some o/\o.cls= .type "AttributeError")->E (.ref e) ⟨h',g,d,t',os⟩):
  wpAny (model prog w) A (Builtin.«object.__getattribute__» ⟨[.ref a,.str "keys" tk],[]⟩) Q E ⟨h,g,d,t,os⟩:=by
 have hT:(⟨h,g,d,t,os⟩:Shared).TypeIs (.ref a) "list":=⟨_,hx,rfl⟩
 have f4:=F.lk_list_keys
 repeat (any_goals (first|assumption|wp_step))
 exact raise_attr (by size_fits) hh hq
theorem keys_call{tk:Tok}{R:Result->Shared->Prop}(hx:h.get? a=some {cls:= .type "list",data:= .seq its n})(hh:A.handled=none)(hq:∀(h':Heap) (e:Addr) (t':Nat),(∀b o,h.get? b=some o->h'.get? b=some o)->(∃o,h'.get? e=some o/\o.cls= .type "AttributeError")->R (.error (.ref e)) ⟨h',g,d,t',os⟩):
  codeAny (model prog w) A (.call (.builtin "list.__getattribute__") ⟨[.ref a,.str "keys" tk],[]⟩) R ⟨h,g,d,t,os⟩:=
 codeAny_call_builtin F.slot_list_getattribute.plain F.entry_list_ga (F.slot_list_getattribute.check _ _ _ _ _ _ _ _ (show (⟨h,g,d,t,os⟩:Shared).TypeIs (.ref a) "list" from⟨_,hx,rfl⟩) (F.args_list_getattribute_2 _ _) (keys_entry hx (by simpa using hh) hq))
theorem keys_by{tk:Tok}{Q:Value->Shared->Prop}(hx:h.get? a=some {cls:= .type "list",data:= .seq its n})(hh:A.handled=none)(hq:∀(h':Heap) (e:Addr) (t':Nat),(∀b o,h.get? b=some o->h'.get? b=some o)->(∃o,h'.get? e=some o/\o.cls= .type "AttributeError")->E (.ref e) ⟨h',g,d,t',os⟩):
  wpAny (model prog w) A (getAttrBy (.ref a) (.str "keys" tk) false) Q E ⟨h,g,d,t,os⟩:=by
 have hT:(⟨h,g,d,t,os⟩:Shared).TypeIs (.ref a) "list":=⟨_,hx,rfl⟩
 have f2:=F.slot_list_getattribute.lookup;have f3:=F.slot_list_getattribute.bind (.ref a)
 repeat (any_goals (first|assumption|wp_step))
 refine keys_call hx hh λh' e t' k ⟨o,ho,hc⟩=> ?_;have hT2:(⟨h',g,d,t',os⟩:Shared).TypeIs (.ref e) "AttributeError":=⟨_,ho,hc⟩
 show wpAny _ _ (getattributeRaised _ _ _ _ _ _ _) _ _ _;unfold getattributeRaised;refine wpAny_bind (wpAny_isInstance hT2 sub_attr_self ?_);simp only[if_true];refine wpAny_bind (m:=hookBehind _ _) (wpAny_of_eq (show hookBehind (.type "list") none=pure none from F.lk_list_getattr) ?_);unfold hookOrError;unfold attributeErrorLeaves;simp only[Bool.not_false,if_true];exact wpAny_bind (wpAny_throw (hq h' e t' k ⟨o,ho,hc⟩))
theorem keys_attr{Q:Option Value->Shared->Prop}(hx:h.get? a=some {cls:= .type "list",data:= .seq its n})(hh:A.handled=none)(hq:∀(h':Heap) (t':Nat),(∀b o,h.get? b=some o->h'.get? b=some o)->Q none ⟨h',g,d,t',os⟩):
  wpAny (model prog w) A (getAttr? (.ref a) "keys") Q E ⟨h,g,d,t,os⟩:=by
 unfold getAttr? getAttrBy?;refine wpAny_bind (wpAny_mkText ?_);refine wpAny_bind (wpAny_attempt (keys_by hx hh λh' e t' k ⟨o,ho,hc⟩=> ?_));have hT2:(⟨h',g,d,t',os⟩:Shared).TypeIs (.ref e) "AttributeError":=⟨_,ho,hc⟩
 dsimp only;refine wpAny_bind (wpAny_isInstance hT2 sub_attr_self ?_);simp only[if_true];exact wpAny_pure (hq h' t' k)
end
end PySem
namespace PySem
namespace F
theorem entry_dict_update_loop:entryFor table "dict.update.loop"=some Builtin.«dict.update.loop» :=entryFor_of_tree (by kernel_rfl)
theorem plain_dict_update_loop:plainId "dict.update.loop"=true:=by decide+kernel
theorem mro_dict:mroOf (.type "dict")=pure [.type "dict",.type "object"]:=by rw[mroOf_type];kernel_rfl
theorem lookup_dict_new:typeLookup (.type "dict") "__new__"=pure (some (.builtin "dict.__new__")):=by rw[typeLookup_type,builtinLookup_eq_fast];kernel_rfl
theorem called_dict:TypeCalled "dict" "dict.__new__" "dict.__init__":=
 ⟨by decide+kernel,by decide+kernel,⟨_,_,mro_dict⟩,madeBy_type mro_dict lookup_dict_new (by decide+kernel),by decide+kernel,by rw[isSubtype_type];kernel_rfl,slot_dict_init⟩
theorem typeCall_dict_1(a:Value):checkTypeCall "dict" ⟨[a],[]⟩=pure ():=by kernel_rfl
theorem newCall_dict_1(a:Value):checkBuiltinCall "dict.__new__" ⟨[.type "dict",a],[]⟩=pure ():=by kernel_rfl
theorem entry_dict_new:entryFor table "dict.__new__"=some Builtin.«dict.__new__» :=entryFor_of_tree (by kernel_rfl)
theorem plain_dict_new:plainId "dict.__new__"=true:=by decide+kernel
end F
theorem sub_dict_self:isSubtype (.type "dict") (.type "dict")=pure true:=by rw[isSubtype_type];kernel_rfl
section
variable{prog:Program}{w:World}{A:Around}{E:Value->Shared->Prop}{s:Shared}
theorem code_dict_new(a:Value){Q₁:Value->Shared->Prop}(h:Q₁ (.ref s.heap.objs.size) {s with heap:=s.heap.push {cls:= .type "dict",data:= .dict #[]}}):
  codeAny (model prog w) A (.call (.builtin "dict.__new__") ⟨[.type "dict",a],[]⟩) (wants Q₁ E) s:=by
 refine codeAny_of_tree ?_;show wpAny _ A.in1 (do checkBuiltinCall "dict.__new__" ⟨[.type "dict",a],[]⟩;again (.builtin "dict.__new__" ⟨[.type "dict",a],[]⟩)) _ _ s;refine wpAny_bind (wpAny_of_eq (F.newCall_dict_1 a) (wpAny_pure ⟨plainId_quiet F.plain_dict_new _,codeAny_builtin F.entry_dict_new ?_⟩));rw[Around.under_plainId F.plain_dict_new _];unfold Builtin.«dict.__new__»;have hsub:=sub_dict_self;have hm:=F.mro_dict;obtain⟨hp,g,d,tk,os⟩:=s;dsimp only
 wp_walk
 exact h
end
section
variable{prog:Program}{w:World}{A:Around}{R:Result->Shared->Prop}{K:Type}[DecidableEq K]{knd:KeyKind prog w K}{I:Addr}{fp wr:List Addr}{G:Array GenState->Array GenState->Prop}{n:Nat}{P:Nat->Value->Prop}{St:Nat->Shared->Prop}
theorem dict_loop(W:WalksS prog w A.in1 I fp wr G n P St)(D:Addr)(hDf:D ∉ fp)(kvs:List (K×Value))(hn:kvs.length=n)(h0:Heap)(hval:∀i v,P i v->∃(r:Addr) (kv:K×Value) (key:Value) (o:Obj) (m:Nat),v= .ref r/\kvs[i]? =some kv/\knd.is kv.1 key=true/\r≠D/\r ∉ wr/\h0.get? r=some o/\o.cls= .type "tuple"/\o.data= .seq #[key,kv.2] m)(hb:n<=sizeLine):
  ∀(k i:Nat) (s:Shared),n - i=k->i<=n->St i s->s.heap.DictOf knd D (merged [] (kvs.take i))->(∀b o,b≠D->b ∉ wr->h0.get? b=some o->s.heap.get? b=some o)->
   (∀s',Moved (D::wr) G s s'->s'.heap.DictOf knd D (merged [] kvs)->R (.ok (.ret .none)) s')->
   codeAny (model prog w) A (.builtin "dict.update.loop" ⟨[.ref D,.ref I,rawInt i,.none],[]⟩) R s:=by
 have hDw:D ∉ wr:=λh=>hDf (W.sub _ h);have hsub:∀b∈wr,b∈D::wr:=λb hb=>List.mem_cons_of_mem _ hb;intro k
 induction k with
 |zero=>
  intro i s hk hi hst hS hkp hR;have hin:i=n:=by omega
  subst hin;refine codeAny_builtin F.entry_dict_update_loop ?_;rw[Around.under_plainId F.plain_dict_update_loop _];show wpAny _ A.in1 (pyNext (.ref I) >>=_) _ _ s;refine wpAny_bind (W.done s _ _ hst λs' hm=> ?_);rw[List.take_of_length_le (by omega)] at hS;dsimp only;unfold Builtin.Dict.addKeywords;have hS':s'.heap.DictOf knd D (merged [] kvs):=by
   obtain⟨o,es,ep,ho,rest⟩:=hS;exact⟨o,es,ep,hm.heap D _ hDw ho,rest⟩
  exact wpAny_bind (wpAny_pure (wpAny_pure (hR s' (hm.mono hsub) hS')))
 |succ k ih=>
  intro i s hk hi hst hS hkp hR;have hlt:i<n:=by omega
  refine codeAny_builtin F.entry_dict_update_loop ?_;rw[Around.under_plainId F.plain_dict_update_loop _];show wpAny _ A.in1 (pyNext (.ref I) >>=_) _ _ s;refine wpAny_bind (W.item i s _ _ hlt hst λv s' hP hst' hm=> ?_);obtain⟨r,kv,key,o,m,rfl,hkv,hkey,rD,rw_,ho,hc,hd⟩:=hval i v hP;have hS':s'.heap.DictOf knd D (merged [] (kvs.take i)):=by
   obtain⟨o,es,ep,ho,rest⟩:=hS;exact⟨o,es,ep,hm.heap D _ hDw ho,rest⟩
  have ho':s'.heap.get? r=some o:=hm.heap r _ rw_ (hkp r o rD rw_ ho);have hT:s'.TypeIs (.ref r) "tuple":=⟨_,ho',hc⟩
  dsimp only;obtain⟨hp,g,d,tk,os⟩:=s';obtain⟨oc,od,oda,osl⟩:=o;simp only at hc hd;subst hc;subst hd;refine wpAny_bind (wpAny_holding (wpAny_bind ?_));refine wpAny_tryCatch ?_;unfold Builtin.Dict.pairItems;refine wpAny_bind (wpAny_typeOf hT ?_);have e1:(Value.type "tuple"==Value.type "list"||Value.type "tuple"==Value.type "tuple")=true:=by decide
  simp only[e1,if_true];refine wpAny_bind (wpAny_seqItems ho' rfl (wpAny_pure ?_));show wpAny _ _ (holding [key,kv.2] (dictSet D key kv.2)) _ _ _;have hl:(merged [] (kvs.take i)).length<=i:=by
   have:=merged_length_le [] (kvs.take i);rw[List.length_take] at this;simp only[List.length_nil] at this;omega
  refine wpAny_holding (wpAny_dictSet_pairs hkey hS' (λh' hS2 hsb=> ?_) (by omega));rw[<-merged_take_succ [] kvs i kv hkv] at hS2;refine wpAny_pure ⟨plainId_quiet F.plain_dict_update_loop _,?_⟩;refine ih (i+1) _ (by omega) hlt (W.frame _ _ h' _ hst' (Nat.le_succ _) λb hb o e=> ?_) hS2 (λb o hb hw e=> ?_) λs'' hm'' hS''=> ?_
  ·rw[hsb.2 b (λh:b=D=>hDf (by rw[<-h];exact hb))];exact e
  ·rw[hsb.2 b hb];exact hm.heap b _ hw (hkp b o hb hw e)
  ·refine hR s'' (Moved.trans W.gtrans ((hm.mono hsub).then_heap (Nat.le_succ _) λb o hb e=> ?_) hm'') hS'';rw[hsb.2 b (λh:b=D=>hb (by rw[h];exact List.mem_cons_self))];exact e
end
end PySem
namespace PySem
section
variable{prog:Program}{w:World}{A:Around}{E:Value->Shared->Prop}{K:Type}[DecidableEq K]{knd:KeyKind prog w K}
theorem call_dict_list{s:Shared}{l:Addr}{items:Array Value}{m0:Nat}{kvs:List (K×Value)}{Q:Value->Shared->Prop}(hh:A.handled=none)(hl:s.heap.get? l=some {cls:= .type "list",data:= .seq items m0})(hi:∀(i:Nat) (v:Value),items[i]? =some v->∃(r:Addr) (kv:K×Value) (key:Value) (o:Obj) (m:Nat),v= .ref r/\kvs[i]? =some kv/\knd.is kv.1 key=true/\s.heap.get? r=some o/\o.cls= .type "tuple"/\o.data= .seq #[key,kv.2] m)(hn:kvs.length=items.size)(hb:items.size<=sizeLine)(nd:(kvs.map (·.1)).Nodup)(h:∀(h':Heap) (tk:Nat),h'.DictOf knd s.heap.objs.size kvs->(∀b o,s.heap.get? b=some o->h'.get? b=some o)->Q (.ref s.heap.objs.size) {s with heap:=h',toks:=tk}):
  wpAny (model prog w) A (call (.type "dict") [.ref l]) Q E s:=by
 refine callType_codes (Q₁:=λobj s₁=>obj= .ref s.heap.objs.size/\s₁={s with heap:=s.heap.push {cls:= .type "dict",data:= .dict #[]}}) F.called_dict (F.typeCall_dict_1 _) F.entry_dict_init
  (code_dict_new _ ⟨rfl,rfl⟩) λobj s₁ h₁=> ?_
 obtain⟨rfl,rfl⟩:=h₁;have hS:(s.heap.push {cls:= .type "dict",data:= .dict #[]}).get? s.heap.objs.size=some {cls:= .type "dict",data:= .dict #[]}:=Heap.get?_push_size _ rfl;have hT:Shared.TypeIs {s with heap:=s.heap.push {cls:= .type "dict",data:= .dict #[]}} (.ref s.heap.objs.size) "dict":=⟨_,hS,rfl⟩
 refine⟨hT,F.args_dict_init_2 _ _,?_⟩;have hlS:l<s.heap.objs.size:=Heap.lt_size hl;have hne:l≠s.heap.objs.size:=Nat.ne_of_lt hlS;have k1:∀b o,s.heap.get? b=some o->(s.heap.push {cls:= .type "dict",data:= .dict #[]}).get? b=some o:=λb o e=>Heap.get?_push_of_some _ e;have hz:s.heap.get? s.heap.objs.size=none:=Heap.get?_none_of_le (Nat.le_refl _);generalize s.heap.push {cls:= .type "dict",data:= .dict #[]}=h1 at hS hT k1 ⊢;generalize s.heap.objs.size=D at hS hT hne hz h hlS ⊢;unfold Builtin.«dict.__init__» Builtin.Dict.selfAndRest Builtin.Dict.notOrdered;dsimp only;refine wpAny_bind (wpAny_bind ?_);rw[if_pos (by decide+kernel)];refine wpAny_bind (wpAny_typeOf hT ?_);rw[if_neg (by decide+kernel)];refine wpAny_pure ?_;refine wpAny_bind (m:=Builtin.Dict.addrOf (.ref D)) (wpAny_of_eq (a:=D) rfl ?_);refine wpAny_pure ?_;show wpAny _ _ (Builtin.Dict.updateFrom "dict.__init__" D (.ref l) [] .none) _ _ _;unfold Builtin.Dict.updateFrom;have hl1:=k1 _ _ hl;have hTl:Shared.TypeIs {s with heap:=h1} (.ref l) "list":=⟨_,hl1,rfl⟩
 refine wpAny_bind (wpAny_typeOf hTl ?_);rw[if_pos (by decide+kernel)];refine wpAny_bind (keys_attr (t:=s.toks) hl1 (by simpa using hh) λh2 t2 k2=> ?_);dsimp only;simp only[Option.isNone_none,if_true];refine wpAny_bind (wpAny_rule ?_);have hl2:=k2 _ _ hl1;have hL2:h2.IsList l items:=⟨_,hl2,rfl,m0,rfl⟩
 refine wpAny_bind (wpAny_pyIter_list hL2 ?_);refine wpAny_pure ⟨plainId_quiet F.plain_dict_update_loop _,?_⟩;have hS2:=k2 _ _ hS;have hDlt:D<h2.objs.size:=Heap.lt_size hS2;have hllt:l<h2.objs.size:=Heap.lt_size hl2;have hz2:h2.get? h2.objs.size=none:=Heap.get?_none_of_le (Nat.le_refl _);have kI:∀b o,h2.get? b=some o->(h2.push {cls:= .type "list_iterator",data:= .fields #[.ref l,.int 0 0]}).get? b=some o:=λb o e=>Heap.get?_push_of_some _ e;have hDict:Heap.DictOf knd (h2.push {cls:= .type "list_iterator",data:= .fields #[.ref l,.int 0 0]}) D (merged [] (kvs.take 0)):=by
  have e0:Heap.DictOf knd h2 D ([]:List (K×Value)):=⟨_,#[],_,hS2,⟨rfl,rfl,rfl⟩,rfl,(by intro _ h;simp at h),.nil,.nil⟩
  exact e0.push _
 refine dict_loop (knd:=knd) ((Walks.list (by simpa using hh) _ l (Nat.ne_of_lt hllt) items).toS) D ?_ kvs hn s.heap ?_ hb (items.size - 0) 0 _ (by omega) (Nat.zero_le _) ⟨⟨_,Heap.get?_push_size _ rfl,rfl,rfl⟩,hL2.push _⟩ hDict ?_ ?_
 ·simp only[List.mem_cons,List.mem_singleton,List.not_mem_nil,or_false,not_or];exact⟨Nat.ne_of_lt hDlt,λe=>hne e.symm⟩
 ·intro i v hv;obtain⟨r,kv,key,o,m,e1,e2,e3,e4,e5,e6⟩:=hi i v hv;refine⟨r,kv,key,o,m,e1,e2,e3,λz=> ?_,λz=> ?_,e4,e5,e6⟩
  ·rw[z,hz] at e4;cases e4
  ·have z:=List.mem_singleton.mp z;have:=k2 _ _ (k1 _ _ e4);rw[z,hz2] at this;cases this
 ·intro b o hb hw e;exact kI _ _ (k2 _ _ (k1 _ _ e))
 ·intro s' hm hS';obtain⟨h',g',d',tk',os'⟩:=s';have eg:g'=s.gens:=hm.gens;have ed:d'=s.drawn:=hm.drawn;have eo:os'=s.os:=hm.os;subst eg;subst ed;subst eo;rw[merged_nil_of_nodup kvs nd] at hS';refine⟨rfl,h h' tk' hS' λb o e=> ?_⟩;refine hm.heap b o ?_ (kI _ _ (k2 _ _ (k1 _ _ e)));simp only[List.mem_cons,List.mem_singleton,List.not_mem_nil,or_false,not_or];refine⟨λz=> ?_,λz=> ?_⟩
  ·rw[z,hz] at e;cases e
  ·have:=k2 _ _ (k1 _ _ e);rw[z,hz2] at this;cases this
end
end PySem
namespace L2
open PySem PySem.Spec PyProof.Rows
section
variable{X:Cx}{pins:List (Addr×Obj)}{σ:St}{H:Hp}{s:Shared}
theorem pairs_vals(I:Inv X pins σ H s):∀(rs:List Addr) (kvs:List (Key×V)),rs.length=kvs.length->(∀(i:Nat) (r:Addr) (kv:Key×V),rs[i]? =some r->kvs[i]? =some kv->H r=some (.tup [kV kv.1,kv.2]))->
  ∃vs:List (Key×Value),KV kvs vs/\∀(i:Nat) (r:Addr),rs[i]? =some r->∃(kv:Key×Value) (key:Value) (o:Obj) (m:Nat),vs[i]? =some kv/\(Bl X.prog X.w).is kv.1 key=true/\s.heap.get? r=some o/\o.cls= .type "tuple"/\o.data= .seq #[key,kv.2] m
 |[],[],_,_=>⟨[],.nil,λi r h=>by simp at h⟩
 |[],_::_,h,_=>by simp at h
 |_::_,[],h,_=>by simp at h
 |r::rs,kv::kvs,h,hk=>by
  obtain⟨vs,k1,k2⟩:=pairs_vals I rs kvs (by simpa using h) (λi r' kv' e1 e2=>hk (i+1) r' kv' (by simpa using e1) (by simpa using e2));obtain⟨its,v,⟨o,eo,ec,m,ed⟩,_⟩:=I.tuple (SqT.of (K:=X.K) (hk 0 r kv rfl rfl));obtain⟨u1,u2,rfl,r1,r2⟩:=vals2 v;refine⟨(kv.1,u2)::vs,.cons ⟨rfl,r2⟩ k1,λi r' e=> ?_⟩;cases i with
  |zero=>
   have e:r=r':=by simpa using e
   subst e;exact⟨(kv.1,u2),u1,o,m,rfl,kV_is r1,eo,ec,ed⟩
  |succ i=>
   obtain⟨kv',key,o',m',a1,a2⟩:=k2 i r' (by simpa using e);exact⟨kv',key,o',m',by simpa using a1,a2⟩
theorem call_dict_of(hc:X.calm=true):Dw X (.type "dict") (λxs H Q=>∃(p:Addr) (rs:List Addr) (kvs:List (Key×V)),xs=[.ref p]/\H p=some (.lst (rs.map V.ref))/\rs.length=kvs.length/\(∀(i:Nat) (r:Addr) (kv:Key×V),rs[i]? =some r->kvs[i]? =some kv->H r=some (.tup [kV kv.1,kv.2]))/\(kvs.map (·.1)).Nodup/\∀l,H l=none->Q (.ref l) (upd H l (.dK kvs))):=by
 intro pins s σ H xs us Q I r h;obtain⟨p,rs,kvs,rfl,hp,hl,hk,nd,q⟩:=h;obtain⟨u,rfl,rx⟩:=Dz r;cases rx;obtain⟨hz,its,m0,rv,hlen,eo⟩:=I.lstM hp;rw[List.length_map] at hz hlen;obtain⟨vs,kv,hv⟩:=pairs_vals I rs kvs hl hk;have kl:=kv.length;refine call_dict_list (knd:=Bl X.prog X.w) (items:=its.toArray) (kvs:=vs) (I.ok.hd hc) eo (λi v hi=> ?_) (by rw[List.size_toArray];omega) (by rw[List.size_toArray];omega) (by rw[<-kv.keys];exact nd) λh' tk dd kp=> ?_
 ·have hi:its[i]? =some v:=by simpa using hi
  have il:i<rs.length:=by rw[hlen];exact(List.getElem?_eq_some_iff.mp hi).1
  obtain⟨u,e1,e2⟩:=rv.get (i:=i) (x:= .ref rs[i]) (by simp[il]);rw[hi] at e1;cases e1;obtain⟨kv',key,o,m,a1,a2,a3,a4,a5⟩:=hv i rs[i] (by simp[il]);exact⟨rs[i],kv',key,o,m,e2,a1,a2,a3,a4,a5⟩
 ·exact⟨.ref s.heap.objs.size,_,I.laid (a:=s.heap.objs.size) (o:= .dK kvs) (t':=tk) kp (Nat.le_refl _) (dk_new (by omega) (beq_eq_false_iff_ne.mpr (Ne.symm (Nat.ne_of_lt I.big))) kv dd),rfl,q _ (I.hok.fresh (Nat.le_refl _))⟩
end
end L2
namespace K39
open PySem L2 Wk
abbrev RC:=R6×Addr
def nmZ(Z:List RC):List Str:=Z.map (·.1.1.1)
def adZ(Z:List RC):List Addr:=Z.map (·.2)
def rwZ(Z:List RC):List R6:=Z.map (·.1)
def kvZ(Z:List RC):List (Key×V):=Z.map λz=>(Sum.inr z.1.1.1,V.ref z.2)
def CelZ(H:Hp)(Z:List RC):Prop:=∀z∈Z,H z.2=some (.lst (Dh z.1))
theorem kvZ_keys(Z:List RC):(kvZ Z).map (·.1)=(nmZ Z).map Sum.inr:=by unfold kvZ nmZ;rw[List.map_map,List.map_map];rfl
theorem nmZ_rw(Z:List RC):nmZ Z=(rwZ Z).map (·.1.1):=by unfold nmZ rwZ;rw[List.map_map];rfl
theorem kvZ_val:∀{Z:List RC},(nmZ Z).Nodup->∀{z:RC},z∈Z->valV (kvZ Z) (Sum.inr z.1.1.1)=some (.ref z.2)
 |[],_,_,h=>by cases h
 |y::Z,nd,z,h=>by
  have nd':y.1.1.1 ∉ nmZ Z/\(nmZ Z).Nodup:=List.nodup_cons.mp nd;rcases List.mem_cons.mp h with rfl|h
  ·exact valV_pos (p:=(Sum.inr z.1.1.1,V.ref z.2)) rfl
  ·have ne:¬(Sum.inr y.1.1.1:Key)=Sum.inr z.1.1.1:=λe=>nd'.1 (by
    rw[Sum.inr.inj e];exact List.mem_map.mpr ⟨z,h,rfl⟩)
   show valV ((Sum.inr y.1.1.1,V.ref y.2)::kvZ Z) _=_;rw[valV_neg (p:=(Sum.inr y.1.1.1,V.ref y.2)) ne];exact kvZ_val nd'.2 h
theorem UpP.nd{R:List R6}(h:UpP R):(R.map (·.1.1)).Nodup:=by
 unfold UpP at h;rw[List.nodup_iff_pairwise_ne,List.pairwise_map];exact h.imp λ{x y} l e=>by rw[e] at l;exact List.lt_irrefl _ l
theorem asc_same:∀{a b:List Str},a.Perm b->a.Pairwise (λx y=>¬y.cps.toList<x.cps.toList)->b.Pairwise (λx y=>x.cps.toList<y.cps.toList)->a=b
 |[],[],_,_,_=>rfl
 |[],_::_,p,_,_=>by cases p.length_eq
 |_::_,[],p,_,_=>by cases p.length_eq
 |x::a,y::b,p,ha,hb=>by
  rw[List.pairwise_cons] at ha hb;have e:x=y:=by
   have h1:x∈y::b:=p.mem_iff.mp List.mem_cons_self;have h2:y∈x::a:=p.mem_iff.mpr List.mem_cons_self;rcases List.mem_cons.mp h1 with h1|h1
   ·exact h1
   rcases List.mem_cons.mp h2 with h2|h2
   ·exact h2.symm
   exact absurd (hb.1 x h1) (ha.1 y h2)
  subst e;rw[asc_same ((List.perm_cons x).mp p) ha.2 hb.2]
theorem UpP.nms{R:List R6}(h:UpP R){ns:List Str}(p:ns.Perm (R.map (·.1.1)))(w:ns.Pairwise λa b=>Srt.ltK (.inr b) (.inr a)=false):ns=R.map (·.1.1):=by
 refine asc_same p (w.imp λ{x y} l=>of_decide_eq_false l) ?_;unfold UpP at h;rw[List.pairwise_map];exact h
def spKnown:Sp:=λvs H Q _=>∃(tp:Addr) (rs:List Addr) (R:List R6),vs=[.ref tp]/\H tp=some (.tup (rs.map V.ref))/\RowsAt H rs R/\R.length<=60/\(R.map (·.1.1)).Nodup/\∀(d:Addr) (Z:List RC) (H':Hp),Same H H'->H' d=some (.dK (kvZ Z))->H d=none->rwZ Z=R->CelZ H' Z->(adZ Z).Nodup->(∀b∈adZ Z,H b=none)->Q (.ref d) H'
structure KnZ(H:Hp)(d:Addr)(o:Obj)(Z:List RC):Prop where
 dict:H d=some (.frz o (.dK (kvZ Z)))
 cel:CelZ H Z
 few:Z.length<=60
 up:UpP (rwZ Z)
 nd:(adZ Z).Nodup
theorem KnZ.nms{H:Hp}{d:Addr}{o:Obj}{Z:List RC}(h:KnZ H d o Z):(nmZ Z).Nodup:=by rw[nmZ_rw];exact h.up.nd
theorem KnZ.get{H:Hp}{d:Addr}{o:Obj}{Z:List RC}(h:KnZ H d o Z){z:RC}(hz:z∈Z):DGet H d (.str z.1.1.1) (some (.ref z.2)):= .inl ⟨kvZ Z,Sum.inr z.1.1.1,.inr ⟨o,h.dict⟩,rfl,(kvZ_val h.nms hz).symm⟩
theorem KnZ.same{H H':Hp}{d:Addr}{o:Obj}{Z:List RC}(h:KnZ H d o Z)(s:Same H H'):KnZ H' d o Z:=⟨s _ _ h.dict,λz hz=>s _ _ (h.cel z hz),h.few,h.up,h.nd⟩
theorem nm_at{Z:List RC}{i:Nat}{n:Str}(h:(nmZ Z)[i]? =some n):∃z,Z[i]? =some z/\n=z.1.1.1:=by
 unfold nmZ at h;rw[List.getElem?_map] at h;cases e:Z[i]? with
 |none=>rw[e] at h;cases h
 |some z=>rw[e] at h;cases h;exact⟨z,rfl,rfl⟩
def spRowsL:Sp:=λvs H Q _=>∃(d:Addr) (o:Obj) (Z:List RC),vs=[.ref d]/\KnZ H d o Z/\∀(tp:Addr) (rs:List Addr) (H':Hp),Same H H'->H' tp=some (.tup (rs.map V.ref))->RowsAt H' rs (rwZ Z)->Q (.ref tp) H'
def rLstOf(K:PySem.W.Frag):List V->Hp->VK->Prop:=λxs H Q=>∃p ys,xs=[.ref p]/\(SqL K H p ys\/SqT K H p ys)/\∀l,H l=none->Q (.ref l) (upd H l (.lst ys))
def rTupOf(K:PySem.W.Frag):List V->Hp->VK->Prop:=λxs H Q=>∃p ys,xs=[.ref p]/\((SqL K H p ys/\∀l,H l=none->Q (.ref l) (upd H l (.tup ys)))\/(SqT K H p ys/\Q (.ref p) H))
theorem cut_row(x:R6):Dy (rowV x) (some 1) none=Dh x:=by unfold Dy rowV tieV Dh;rfl
def PrAt(H:Hp)(ps:List Addr)(Z:List RC):Prop:=ps.length=Z.length/\∀(i:Nat) r z,ps[i]? =some r->Z[i]? =some z->H r=some (.tup [.str z.1.1.1,.ref z.2])
theorem PrAt.mono{H H':Hp}{ps:List Addr}{Z:List RC}(h:PrAt H ps Z)(s:∀r xs,H r=some (.tup xs)->H' r=some (.tup xs)):PrAt H' ps Z:=⟨h.1,λi r x a b=>s _ _ (h.2 i r x a b)⟩
theorem PrAt.snoc{H:Hp}{qs:List Addr}{P:List RC}{r:Addr}{x:RC}(h:PrAt H qs P)(hr:H r=some (.tup [.str x.1.1.1,.ref x.2])):PrAt H (qs++[r]) (P++[x]):=by
 refine⟨by rw[List.length_append,List.length_append,h.1];rfl,λi r0 p0 e1 e2=> ?_⟩;rw[List.getElem?_append] at e1 e2;rw[h.1] at e1;split at e1
 ·rename_i z;rw[if_pos z] at e2;exact h.2 i r0 p0 e1 e2
 ·rename_i z;rw[if_neg z] at e2;have hz:i - P.length=0:=by
   have:=(List.getElem?_eq_some_iff.mp e1).1;simp only[List.length_cons,List.length_nil] at this;omega
  rw[hz] at e1 e2;cases e1;cases e2;exact hr
section
variable{P:Program}{w:World}{K:PySem.W.Frag}{mg:Str->Option Value}{base:Heap}
theorem scKnown:Av ["_law_rows_here"] ["_law_rows_here"] (Ag sKnown):=⟨rfl,rfl,rfl,by decide+kernel,rfl,by decide+kernel,by decide+kernel⟩
theorem ok_Known{f:Addr}{fd:FuncData}(F:Fun K "_law_known" "_law_known" sKnown f fd)(T:Txt mg):
  FnOk P w K mg base CX0 1 f fd ["_law_rows_here"] spKnown:=by
 refine F.ok scKnown (λvs H Q E h=> ?_) (λcdv A outer s H vs Q E hr h=> ?_)
 ·obtain⟨_,_,_,rfl,_⟩:=h;rfl
 ·obtain⟨tp,rs,R,rfl,ht,hR,R60,nd,k⟩:=h;refine⟨_,Ai (Ao (A3 (call_dict_of rfl) (by rfl) T.dict (by decide+kernel) (Aa (A5 (T:=["_law_row"]) (F:=[]) (js:=[]) (cs (osc:=Ag sKnown)) rfl (Dm (pv 0)) (λ_ _ _ _ _=>Ah (i:=0) (show (["_law_row"]:List Str).Nodup by decide+kernel) rfl (Or.inl rfl)) (λ_ _ _ _ _=>A8) (λ_ _ _ _ _=>Bk (Aa (A1 (r:=rIxT K) Cg (pv 0) Af (λ_ _=>rfl)) (Aa (A3 (r:=rLstOf K) call_list_of (by rfl) T.list (by decide+kernel) (Aa (Cf (r:=rSlTA K) sl_tupA (pv 0) (Bv Af) Dq) Ac)) Ac)))) Ac))),?_⟩;refine⟨_,rfl,tp,rfl,⟨_,SqT.of ht⟩,λD hD=>Cd (K:=K) (a:=tp) (xs:=rs.map V.ref) (λj σ ys H2=>∃(u:Option V) (ps:List Addr) (Z:List RC),σ=[u]/\ys=ps.map V.ref/\Same H H2/\H2 D=some (.lst ys)/\PrAt H2 ps Z/\rwZ Z=R.take j/\CelZ H2 Z/\(adZ Z).Nodup/\∀b∈adZ Z,H b=none/\b≠D) ⟨none,[],[],rfl,rfl,Ad hD,Ab,⟨rfl,λi r t e=>by simp at e⟩,rfl,(λz hz=>by cases hz),List.nodup_nil,λb hb=>by cases hb⟩ (λj σ ys H2 _ ⟨_,_,_,_,_,s,e,_⟩=>⟨SqT.of (s _ _ ht),e⟩) ?_ ?_⟩
  ·rintro j x σ ys H2 hx ⟨u,ps,Z,rfl,rfl,s2,d2,p2,rz,cz,nz,fz⟩;obtain⟨r,er,rfl⟩:=Ax hx;obtain⟨y,ey,hy⟩:=hR.get er;have h2:=s2 _ _ hy;have zl:Z.length<=60:=by
    have:=congrArg List.length rz;unfold rwZ at this;rw[List.length_map,List.length_take] at this;omega
   have ql:ps.length<=60:=by rw[p2.1];exact zl
   refine⟨_,rfl,r,_,0,_,rfl,rfl,SqT.of h2,Ap (j:=0) rfl,?_⟩;refine⟨_,rfl,_,rfl,cut_any h2 λr4 H3 s3 e3=> ?_⟩;rw[cut_row] at e3;refine⟨r4,_,rfl,.inr (SqT.of e3),λl hl=> ?_⟩;have s4:=s3.trans (Ad (o:= .lst (Dh y)) hl);have e4:upd H3 l (.lst (Dh y)) l=some (.lst (Dh y)):=Ab;have lH2:H2 l=none:=by
    cases h:H2 l with
    |none=>rfl
    |some o=>rw[s3 _ _ h] at hl;cases hl
   generalize upd H3 l (.lst (Dh y))=H4 at s4 e4 ⊢;refine⟨small (by simp),λq hq=> ?_⟩;have s5:=s4.trans (Ad (o:= .tup [.str y.1.1,.ref l]) hq);have e5:upd H4 q (.tup [.str y.1.1,.ref l]) l=some (.lst (Dh y)):=Ad hq _ _ e4;have e6:upd H4 q (.tup [.str y.1.1,.ref l]) q=some (.tup [.str y.1.1,.ref l]):=Ab;show _/\_;generalize upd H4 q (.tup [.str y.1.1,.ref l])=H5 at s5 e5 e6 ⊢;have d5:=s5 _ _ d2;have lD:l≠D:=λz=>by rw[z,d2] at lH2;cases lH2
   have kp:∀(r:Addr) (zs:List V) (o:HO),H5 r=some (.tup zs)->upd H5 D o r=some (.tup zs):=λr zs o e=>by rw[Aj (Cr e d5 (by intro z;cases z))];exact e
   refine⟨d5,Ak (by rw[List.length_map];omega),_,ps++[q],Z++[(y,l)],rfl,by rw[List.map_append];rfl,Aq (s2.trans s5) hD,Ab,?_,?_,λz hz=> ?_,?_,λb hb=> ?_⟩
   ·exact(p2.mono λr xs e=>kp _ _ _ (s5 _ _ e)).snoc (x:=(y,l)) (kp _ _ _ e6)
   ·unfold rwZ at rz ⊢;rw[List.map_append,rz,A4 ey];rfl
   ·rcases List.mem_append.mp hz with hz|hz
    ·have zD:z.2≠D:=(fz _ (List.mem_map.mpr ⟨z,hz,rfl⟩)).2;rw[Aj zD];exact s5 _ _ (cz z hz)
    ·rw[List.mem_singleton.mp hz,Aj (a:=D) lD];exact e5
   ·unfold adZ;rw[List.map_append,List.nodup_append];refine⟨nz,by simp,λb hb c hc=> ?_⟩;rw[List.mem_singleton.mp hc];rintro rfl;obtain⟨z,hz,rfl⟩:=List.mem_map.mp hb;rw[cz z hz] at lH2;cases lH2
   ·unfold adZ at hb;rw[List.map_append] at hb;rcases List.mem_append.mp hb with hb|hb
    ·exact fz b hb
    ·rw[List.mem_singleton.mp hb];refine⟨?_,lD⟩;cases h:H l with
     |none=>rfl
     |some o=>rw[s2 _ _ h] at lH2;cases lH2
  rintro σ ys H2 ⟨u,ps,Z,rfl,rfl,s2,d2,p2,rz,cz,nz,fz⟩;rw[List.length_map,hR.1,List.take_length] at rz;have len:(kvZ Z).length=Z.length:=by unfold kvZ;rw[List.length_map]
  refine⟨D,ps,kvZ Z,rfl,d2,by rw[len];exact p2.1,λi r kv e1 e2=> ?_,?_,λl hl=> ?_⟩
  ·unfold kvZ at e2;obtain⟨z,ez,rfl⟩:=Ax e2;exact p2.2 i r z e1 ez
  ·rw[kvZ_keys,nmZ_rw,rz];exact nd.map _ (λa b n z=>n (Sum.inr.inj z))
  ·have sl:=Ad (o:= .dK (kvZ Z)) hl;refine k l Z _ (s2.trans sl) Ab ?_ rz (λz hz=>sl _ _ (cz z hz)) nz λb hb=>(fz b hb).1;cases h:H l with
   |none=>rfl
   |some o=>rw[s2 _ _ h] at hl;cases hl
theorem scRows:Av ["_law_known_here"] ["_law_known_here"] (Ag sRows):=⟨rfl,rfl,rfl,by decide+kernel,rfl,by decide+kernel,by decide+kernel⟩
theorem ok_Rows{f:Addr}{fd:FuncData}(F:Fun K "_law_rows" "_law_rows" sRows f fd)(T:Txt mg):
  FnOk P w K mg base CX0 1 f fd ["_law_known_here"] spRowsL:=by
 refine F.ok scRows (λvs H Q E h=> ?_) (λcdv A outer s H vs Q E hr h=> ?_)
 ·obtain⟨_,_,_,rfl,_⟩:=h;rfl
 ·obtain⟨d,o,Z,rfl,hZ,k⟩:=h;refine⟨_,Ai (Ao (A3 Bp (by rfl) T.tuple (by decide+kernel) (Aa (A5 (T:=["_law_name"]) (F:=["_law_known_here"]) (js:=[0]) (cs (osc:=Ag sRows)) rfl (Ce (Am (Srt.call_sortedDR rfl) (by rfl) T.sorted (by decide+kernel) (Aa (pv 0) Ac))) (λ_ _ _ _ _=>Ah (i:=0) (show (["_law_name","_law_known_here"]:List Str).Nodup by decide+kernel) rfl (Or.inl rfl)) (λ_ _ _ _ _=>A8) (λ_ _ _ _ _=>Az (r:=rCatTT K) op_catTT (Bk (Aa (pv 0) Ac)) (A3 (r:=rTupOf K) Bp (by rfl) T.tuple (by decide+kernel) (Aa (Cn (hu_of hr) (pv 1) (pv 0) (λ_ _=>rfl)) Ac)))) Ac))),?_⟩;have nl:(nmZ Z).length=Z.length:=by unfold nmZ;rw[List.length_map]
  refine⟨_,rfl,d,kvZ Z,nmZ Z,rfl,.inr ⟨o,hZ.dict⟩,kvZ_keys Z,by have:=hZ.few;omega,λsl ns hsl hp hw=> ?_⟩;have en:ns=nmZ Z:=by
   rw[nmZ_rw];rw[nmZ_rw] at hp;exact hZ.up.nms hp hw
  subst en;have s1:=Ad (o:= .lst ((nmZ Z).map V.str)) hsl;have e1:upd H sl (.lst ((nmZ Z).map V.str)) sl=some (.lst ((nmZ Z).map V.str)):=Ab;generalize upd H sl (.lst ((nmZ Z).map V.str))=H1 at s1 e1 ⊢;have h1:=hZ.same s1;refine⟨sl,rfl,⟨_,SqL.of e1⟩,λD hD=>Cj (K:=K) (a:=sl) (xs:=(nmZ Z).map V.str) (λj σ ys H2=>∃(u:Option V) (rs:List Addr),σ=[u,some (.ref d)]/\ys=rs.map V.ref/\Same H1 H2/\H2 D=some (.lst ys)/\RowsAt H2 rs (rwZ (Z.take j))) ⟨none,[],rfl,rfl,Ad hD,Ab,rfl,λi r t e=>by simp at e⟩ (λj σ ys H2 _ ⟨_,_,_,_,s,e,_⟩=>⟨SqL.of (s _ _ e1),e⟩) ?_ ?_⟩
  ·rintro j x σ ys H2 hx ⟨u,rs,rfl,rfl,s2,d2,p2⟩;obtain⟨n,hn,rfl⟩:=Ax hx;obtain⟨z,ez,rfl⟩:=nm_at hn;have hz:z∈Z:=List.mem_of_getElem? ez;have h2:=h1.same s2;have ql:rs.length<=60:=by
    rw[p2.1];unfold rwZ;rw[List.length_map,List.length_take];have:=hZ.few;omega
   refine⟨_,rfl,small (by simp),λq hq=> ?_⟩;have s3:=Ad (o:= .tup [.str z.1.1.1]) hq;have e3:upd H2 q (.tup [.str z.1.1.1]) q=some (.tup [.str z.1.1.1]):=Ab;generalize upd H2 q (.tup [.str z.1.1.1])=H3 at s3 e3 ⊢;have h3:=h2.same s3;refine⟨_,rfl,_,rfl,d,_,rfl,h3.get hz,?_⟩;refine⟨z.2,_,rfl,.inl ⟨SqL.of (h3.cel z hz),λq2 hq2=> ?_⟩⟩;have s4:=Ad (o:= .tup (Dh z.1)) hq2;have e4:upd H3 q2 (.tup (Dh z.1)) q2=some (.tup (Dh z.1)):=Ab;generalize upd H3 q2 (.tup (Dh z.1))=H4 at s4 e4 ⊢;have e34:=s4 _ _ e3;refine⟨q,q2,_,_,rfl,rfl,SqT.of e34,SqT.of e4,Ak (by simp),(λz=>by cases z),(λ_ z=>by cases z),λ_ _ r hr=> ?_⟩;have s5:=(s3.trans s4).trans (Ad (o:= .tup ([.str z.1.1.1]++Dh z.1)) hr);have e5:upd H4 r (.tup ([.str z.1.1.1]++Dh z.1)) r=some (.tup (rowV z.1)):=Ab;show _/\_;generalize upd H4 r (.tup ([.str z.1.1.1]++Dh z.1))=H5 at s5 e5 ⊢;have d5:=s5 _ _ d2;have kp:∀(r:Addr) (zs:List V) (o:HO),H5 r=some (.tup zs)->upd H5 D o r=some (.tup zs):=λr zs o e=>by rw[Aj (Cr e d5 (by intro z;cases z))];exact e
   refine⟨d5,Ak (by rw[List.length_map];omega),_,rs++[r],rfl,by rw[List.map_append];rfl,Aq (s2.trans s5) hD,Ab,?_⟩;rw[A4 ez];unfold rwZ;rw[List.map_append];exact(p2.mono λr xs e=>kp _ _ _ (s5 _ _ e)).snoc (kp _ _ _ e5)
  rintro σ ys H2 ⟨u,rs,rfl,rfl,s2,d2,p2⟩;have tl:Z.take ((nmZ Z).map V.str).length=Z:=by rw[List.length_map,nl,List.take_length]
  rw[tl] at p2;refine⟨D,_,rfl,.inl ⟨SqL.of d2,λtq htq=> ?_⟩⟩;exact k tq rs _ (s1.trans (s2.trans (Ad htq))) Ab (p2.mono λr zs e=>Ad htq _ _ e)
end
end K39
namespace L2
open PySem PySem.Spec PyProof.Rows
def layCl(x:Str×NameKind)(cs:List (Str×Addr)):Sem (ForInStep (List (Str×Addr))):=
 if (x.snd==NameKind.cell)=true then do
  let a <-alloc {cls:= .type "cell",data:= .cell none}
  pure (ForInStep.yield ((x.fst,a)::cs))
 else pure (ForInStep.yield cs)
theorem layCl_none{ns:List (Str×NameKind)}(h:∀x∈ns,x.2≠ .cell)(cs:List (Str×Addr)):forIn ns cs layCl=pure cs:=by
 induction ns with
 |nil=>rfl
 |cons x r ih=>
  rw[List.forIn_cons];have hb:(x.2==NameKind.cell)=false:=by simpa using h x List.mem_cons_self
  unfold layCl;simp only[hb,Bool.false_eq_true,if_false,pure_bind];exact ih λz hz=>h z (List.mem_cons_of_mem _ hz)
theorem layCl_one{M:Model}{A:Around}{E:Value->Shared->Prop}{s:Shared}{y:Str}{post:List (Str×NameKind)}{cl:List (Str×Addr)}{Q:List (Str×Addr)->Shared->Prop}(h2:∀x∈post,x.2≠ .cell):
  ∀{pre:List (Str×NameKind)},(∀x∈pre,x.2≠ .cell)->Q ((y,s.heap.objs.size)::cl) {s with heap:=s.heap.push {cls:= .type "cell",data:= .cell none}}->wpAny M A (forIn (pre++(y,.cell)::post) cl layCl) Q E s
 |[],_,q=>by
  rw[List.nil_append,List.forIn_cons];refine wpAny_bind ?_;refine wpAny_bind (wpAny_alloc (wpAny_pure ?_));show wpAny M A (forIn post ((y,s.heap.objs.size)::cl) layCl) Q E _;rw[layCl_none h2];exact wpAny_pure q
 |x::pre,h1,q=>by
  rw[List.cons_append,List.forIn_cons];have hb:(x.2==NameKind.cell)=false:=by simpa using h1 x List.mem_cons_self
  have e:layCl x cl=pure (ForInStep.yield cl):=by unfold layCl;simp only[hb,Bool.false_eq_true,if_false]
  rw[e,pure_bind];exact layCl_one h2 (λz hz=>h1 z (List.mem_cons_of_mem _ hz)) q
section
variable{M:Model}{A:Around}{E:Value->Shared->Prop}{s:Shared}
theorem wpAny_newEnv_cell{scope:Scope}{y:Str}{pre post:List (Str×NameKind)}{globals:Addr}{cl:List (Str×Addr)}{qual:Str}{func:Option Addr}{code:Value}{outer:Env}{builtins:Addr}{Q:Env->Shared->Prop}(hs:scope.names=pre++(y,.cell)::post)(h1:∀x∈pre,x.2≠ .cell)(h2:∀x∈post,x.2≠ .cell)(hQ:Q (newEnv scope s.heap.objs.size globals ((y,s.heap.objs.size+1)::cl) qual func code (some outer) builtins) {s with heap:=(s.heap.push {cls:= .type "dict",data:= .dict #[]}).push {cls:= .type "cell",data:= .cell none}}):
  wpAny M A (newFunctionEnv scope globals cl [] qual func code (some outer) builtins) Q E s:=by
 simp only[newFunctionEnv,Option.isSome_some,if_true];refine wpAny_bind (wpAny_alloc ?_);rw[hs];refine wpAny_bind (layCl_one (cl:=cl) h2 h1 ?_);rw[List.forIn_nil];refine wpAny_pure ?_;have e:(s.heap.push {cls:= .type "dict",data:= .dict #[]}).objs.size=s.heap.objs.size+1:=Heap.size_push ..;show Q {scope:=scope,locals:=s.heap.objs.size,globals:=globals,cells:=(y,(s.heap.push {cls:= .type "dict",data:= .dict #[]}).objs.size)::cl,qual:=qual,func:=func,code:=outer.code,frame:=outer.frame,builtins:=outer.builtins} _;rw[e];exact hQ
end
def Cv(X:Cx)(scope:Scope)(y:Str)(N:List Str)(C:Addr)(s:Shared)(H:Hp)(ex:List Addr)(pins:List (Addr×Obj)):Cx where
 prog:=X.prog
 w:=X.w
 K:=X.K
 mg:=X.mg
 base:=X.base
 A:=X.A
 N:=N
 s₀:=s
 H₀:=H
 env:=compEnvC scope ((y,C+1)::Ca X.env scope.names []) C X.env
 outer:=X.stack
 stack:=X.stack
 ex:=ex
 fn:=λx=>decide (x=y)
 calm:=X.calm
 pn:=X.pn++pins
 xe:=λ_ _=>False
structure CScopeC(X:Cx)(scope:Scope)(y:Str)(F:List Str)(js:List Nat):Prop where
 kind:scope.kind= .function
 cut:∃pre post,scope.names=pre++(y,.cell)::post/\(∀x∈pre,x.2≠ .cell)/\∀x∈post,x.2≠ .cell
 names:∀x∈scope.names,x.2= .local->scope.names.lookup x.1=some .local
 free:∀x∈scope.names,x.2= .free->X.env.kindOf x.1=some .cell
 own:∀x∈scope.names,x.2= .free->x.1≠y
 cel:∀z∈F,(relabel scope X.env).names.lookup z=some .cell/\X.env.kindOf z=some .cell/\(z,NameKind.free)∈scope.names
 all:∀x∈(relabel scope X.env).names,(x.2= .cell\/x.2= .free)->(x.1,NameKind.free)∈scope.names\/x.1=y
 js:js.map (λj=>X.N[j]?)=F.map some
section
variable{X:Cx}{scope:Scope}{y:Str}{F:List Str}{js:List Nat}
theorem comp_invC{pins:List (Addr×Obj)}{σ:St}{H:Hp}{s:Shared}{h1:Heap}{tk:Nat}{fp:List Addr}{m:Str->Option Value}(S:CScopeC X scope y F js)(I:Inv X pins σ H s)(hn:h1.Ns s.heap.objs.size m)(hcl:h1.IsCell (s.heap.objs.size+1) none)(kk:∀b o,s.heap.get? b=some o->h1.get? b=some o)(hf:∀b∈fp,FpOk X pins H b/\∃o,s.heap.get? b=some o/\∀v,o.data≠ .cell v):
  Inv (Cv X scope y (y::F) s.heap.objs.size s H fp pins) [] (cst 1 js σ) H {s with heap:=h1,toks:=tk}:=by
 have sub:=closes_sub (env:=X.env) scope.names [] (λp hp hk=>by
  obtain⟨c,e⟩:=I.ok.has p.1 (.inl (S.free p hp hk));rw[e];rfl) (λy c e=>by simp at e)
 have ltC:∀y c,X.env.cells.lookup y=some c->c<s.heap.objs.size:=λy c e=>by
  obtain⟨v,z⟩:=I.cell y c e;exact z.lt
 have two:∀x c,((y,s.heap.objs.size+1)::Ca X.env scope.names []).lookup x=some c->(x=y/\c=s.heap.objs.size+1)\/(x≠y/\(Ca X.env scope.names []).lookup x=some c):=λx c e=>by
  rw[List.lookup_cons] at e;cases q:x==y with
  |true=>rw[q] at e;exact .inl ⟨by simpa using q,(Option.some.inj e).symm⟩
  |false=>rw[q] at e;exact .inr ⟨by simpa using q,e⟩
 have skip:∀{x c},x≠y->(Ca X.env scope.names []).lookup x=some c->((y,s.heap.objs.size+1)::Ca X.env scope.names []).lookup x=some c:=λ{x c} n e=>by
  rw[List.lookup_cons];have q:(x==y)=false:=by simpa using n
  rw[q];exact e
 refine⟨⟨I.ok.mod,?_,I.ok.glob,I.ok.blt,Nat.le_refl _,λx z c e1 e2=> ?_,λx hx=> ?_,λx c hx e=> ?_,I.ok.hd,I.ok.frames,.inl rfl,λb hb=> ?_,I.bs,?_,λb o e hb=> ?_,λb hb hs=> ?_,I.stack,I.stkFree⟩,
  rfl,I.bare,Un.kept kk,⟨m,hn,λi x v e1 e2 e3=> ?_⟩,λx c e=> ?_,I.hok.fresh (Nat.le_refl _),λx c e=> ?_,λp hp=> ?_,I.hok.kept kk,?_⟩
 ·show (relabel scope X.env).kind= .function;exact S.kind
 ·rcases two x c e1 with⟨a1,a2⟩|⟨a1,a2⟩
  ·rcases two z c e2 with⟨b1,b2⟩|⟨b1,b2⟩
   ·rw[a1,b1]
   ·exact absurd (a2▸ltC z c (sub z c b2)) (Nat.not_lt.mpr (Nat.le_succ _))
  ·rcases two z c e2 with⟨b1,b2⟩|⟨b1,b2⟩
   ·exact absurd (b2▸ltC x c (sub x c a2)) (Nat.not_lt.mpr (Nat.le_succ _))
   ·exact I.ok.inj x z c (sub x c a2) (sub z c b2)
 ·have hx:(relabel scope X.env).names.lookup x=some .cell\/(relabel scope X.env).names.lookup x=some .free:=hx;have hm:(x,NameKind.free)∈scope.names\/x=y:=by
   rcases hx with h|h
   ·exact S.all _ (PySem.mem_of_lookup h) (.inl rfl)
   ·exact S.all _ (PySem.mem_of_lookup h) (.inr rfl)
  show ∃c,((y,s.heap.objs.size+1)::Ca X.env scope.names []).lookup x=some c;by_cases n:x=y
  ·exact⟨s.heap.objs.size+1,by rw[List.lookup_cons,n];simp⟩
  ·obtain⟨c,e⟩:=Option.isSome_iff_exists.mp (closes_has (env:=X.env) scope.names [] (hm.resolve_right n));exact⟨c,skip n e⟩
 ·have hx:x=y:=of_decide_eq_true hx;rcases two x c e with⟨_,a2⟩|⟨a1,_⟩
  ·show s.heap.objs.size<=c;omega
  ·exact absurd hx a1
 ·obtain⟨⟨f0,f1,f2,f3,f4,f5⟩,o,ho,_⟩:=hf b hb;refine⟨Nat.ne_of_lt (Heap.lt_size ho),λx c e=> ?_⟩;rcases two x c e with⟨_,a2⟩|⟨_,a2⟩
  ·intro z;have hb:=Heap.lt_size ho;rw[<-z,a2] at hb;exact absurd hb (Nat.not_lt.mpr (Nat.le_succ _))
  ·exact f4 x c (sub x c a2)
 ·exact Nat.le_trans I.ok.bsz I.sz
 ·obtain⟨⟨f0,f1,f2,f3,f4,f5⟩,_⟩:=hf b hb;rcases f3 with z|z
  ·exact I.ok.noex b o e z
  ·exact absurd (Nat.lt_of_lt_of_le (Heap.lt_size e) (Nat.le_trans I.ok.bsz z)) (Nat.lt_irrefl _)
 ·obtain⟨⟨f0,f1,f2,f3,f4,f5⟩,_⟩:=hf b hb;rcases List.mem_cons.mp (I.stkSub b hs) with z|z
  ·exact f1 z
  ·exact f2 z
 ·have hi:1<=i:=by
   by_cases hi:i<1
   ·unfold cst at e2;rw[List.getElem?_append_left (by simpa using hi),List.getElem?_replicate] at e2;split at e2<;> cases e2
   ·exact Nat.not_lt.mp (by assumption)
  obtain⟨k,rfl⟩:∃k,i=1+k:=⟨i - 1,by omega⟩
  have e1:([y]++F)[1+k]? =some x:=e1;rw[List.getElem?_append_right (by simp)] at e1;have e1:F[k]? =some x:=by simpa using e1
  unfold cst at e2;rw[List.getElem?_append_right (by simp)] at e2;have e2:(js.map λj=>(σ[j]?).join)[k]? =some (some v):=by simpa using e2
  rw[List.getElem?_map] at e2;cases ej:js[k]? with
  |none=>rw[ej] at e2;cases e2
  |some j=>
   rw[ej] at e2;have e2:(σ[j]?).join=some v:=by simpa using e2
   have e3':σ[j]? =some (some v):=by
    cases q:σ[j]? with
    |none=>rw[q] at e2;cases e2
    |some z=>rw[q] at e2;cases z with
     |none=>cases e2
     |some z=>simp at e2;rw[e2]
   have eN:X.N[j]? =some x:=by
    have q:=congrArg (λl=>l[k]?) S.js;simp only[List.getElem?_map,ej,e1] at q;simpa using q
   obtain⟨c1,c2,c3⟩:=S.cel x (List.mem_of_getElem? e1);obtain⟨m0,hn0,hl⟩:=I.loc;obtain⟨u,ru,lk⟩:=hl j x v eN e3' (.inr (.inl c2));refine⟨u,ru,?_⟩;rcases lk with⟨z,_⟩|⟨_,c,ec,hc⟩
   ·rw[c2] at z;cases z
   ·obtain⟨c',ec'⟩:=Option.isSome_iff_exists.mp (closes_has (env:=X.env) scope.names [] c3);have:=sub x c' ec';rw[ec] at this;cases this;refine .inr ⟨.inl c1,c,skip (S.own _ c3 rfl) ec',?_⟩;obtain⟨o,ho,hd⟩:=hc;exact⟨o,kk _ _ ho,hd⟩
 ·rcases two x c e with⟨_,a2⟩|⟨_,a2⟩
  ·rw[a2];exact⟨none,hcl⟩
  ·obtain⟨v,o,ho,hd⟩:=I.cell x c (sub x c a2);exact⟨v,o,kk _ _ ho,hd⟩
 ·rcases two x c e with⟨_,a2⟩|⟨_,a2⟩
  ·rw[a2];exact I.hok.fresh (Nat.le_succ _)
  ·exact I.freeC x c (sub x c a2)
 ·have hp:p∈(X.pn++pins)++[]:=hp;rw[List.append_nil] at hp;obtain⟨e,n,ne,nf,d⟩:=I.pin p hp;refine⟨kk _ _ e,n,Nat.ne_of_lt (Heap.lt_size e),λz=> ?_,d⟩;rcases List.mem_cons.mp (I.stkSub p.1 z) with q|q
  ·exact ne q
  ·exact nf q
 ·unfold cst;show _=([y]++F).length;have q:=congrArg List.length S.js;simp at q;simp[q]
theorem comp_outC{pins:List (Addr×Obj)}{σ σ':St}{H H':Hp}{s s':Shared}{h':Heap}{N:List Str}{y:Str}{fp:List Addr}(I:Inv X pins σ H s)(hf:∀b∈fp,FpOk X pins H b)(J:Inv (Cv X scope y N s.heap.objs.size s H fp pins) [] σ' H' s')(sb:Heap.SameBut s.heap.objs.size s'.heap h'):Inv X pins σ H' {s' with heap:=h'}:=by
 have ne:∀b o,s.heap.get? b=some o->b≠s.heap.objs.size:=λb o e=>Nat.ne_of_lt (Heap.lt_size e);have u:=J.base;have u':Un (frs X.stack) fp H H' s.heap h':=
  ⟨λb o e n h1 h2=>sb.extBut b o (ne b o e) (u.keep b o e n h1 h2),λb o e n h1 h2=>by
   obtain⟨sl,q⟩:=u.slot b o e n h1 h2;exact⟨sl,sb.extBut b _ (ne b o e) q⟩,u.free,λb o e h=>by
   obtain⟨o',q⟩:=u.there b o e h;exact⟨o',sb.extBut b _ (ne b o e) q⟩,u.tups,u.frzs,u.tbls⟩
 have nC:H' s.heap.objs.size=none:=J.free;have hok:HOk X.prog X.w H' h':=λb o e=>by
  refine(J.hok b o e).stay (λc v hc q=>sb.extBut c v ?_ q) (λ_ q=>q) λ_ _ q=>q;rcases hc with z|z
  ·rw[z];intro z';rw[z',nC] at e;cases e
  ·intro z';rw[z',nC] at z;cases z
 exact I.call' (s':={s' with heap:=h'}) J.os u' hok J.bare λb hb=>by
  obtain⟨f0,f1,f2,f3,f4,f5⟩:=hf b hb;exact⟨f3,f1,f4,f5⟩
theorem comp_goC{tg elt iter:Expr}{ifs:List Expr}{pos:Pos}{g:TG}{ti:TT}{te:TE}{wi:TI}{pins:List (Addr×Obj)}{σ:St}{H:Hp}{s:Shared}{use:Option (Value->Sem Unit)}{QQ:Value->Shared->Prop}{Q:VK}(S:CScopeC X scope y F js)(hc:X.calm=true)(hi:PI X tg iter wi)(hg:∀C s H ex pins,PG (Cv X scope y (y::F) C s H ex pins) tg g)(hif:∀C s H ex pins,PIf (Cv X scope y (y::F) C s H ex pins) ifs ti)(he:∀C s H ex pins,PE (Cv X scope y (y::F) C s H ex pins) elt te)(I:Inv X pins σ H s)(h:tComp wi g ti te 1 js σ H Q)(fin:∀(D C:Addr) (s':Shared) (H':Hp) (m:Str->Option Value),s'.heap.Ns C m->Q (.ref D) H'->FpOk X pins H' C->(∀h',Heap.SameBut C s'.heap h'->Inv X pins σ H' {s' with heap:=h'})->
   compPost (model X.prog X.w) X.A X.xe use QQ (.ref D) C (.ok .next) s')(hs:∀x,foldedSetIterable iter X.env x=pure x):
  wpAny (model X.prog X.w) X.A (comprehension (.ListComp elt [⟨tg,iter,ifs,0⟩] scope pos) scope X.env (firstIterPos [⟨tg,iter,ifs,0⟩] pos) (newList []) false (eval iter X.env) use) QQ X.xe s:=by
 refine wpAny_comprehension_free (use:=use) rfl hs (closureFor_closes λp hp hk=> ?_) S.kind S.names (thn (hi pins s σ H _ I h) λv s1 h1=>thn h1 λitv s2 h2=> ?_)
 ·obtain⟨c,e⟩:=I.ok.has p.1 (.inl (S.free p hp hk));rw[e];rfl
 obtain⟨it,fp,tn,J,H2,rfl,I2,Tn,st2,f2,h2⟩:=h2;obtain⟨W,⟨m0,w0⟩,turn⟩:=h2 s2.heap.objs.size I2.fresh;obtain⟨pre,post,cut,cut1,cut2⟩:=S.cut;refine wpAny_newObj_type (wpAny_newEnv_cell cut cut1 cut2 ?_);have I3:=I2.lnew (t':=s2.toks) (ys:=[]) (its:=[]) Paired.nil (Nat.zero_le _);generalize hs3:({s2 with heap:=s2.heap.push {cls:= .type "list",data:= .seq ([]:List Value).toArray},toks:=s2.toks}:Shared)=s3 at I3;have hf3:∀b∈fp,FpOk X pins (upd H2 s2.heap.objs.size (.lst [])) b/\∃o,s3.heap.get? b=some o/\∀v,o.data≠ .cell v:=λb hb=>by
  obtain⟨f0,fr⟩:=f2 b hb;obtain⟨o,e,d⟩:=Tn.obj _ _ st2 b hb;refine⟨⟨by rw[Aj (Nat.ne_of_lt (Heap.lt_size e))];exact f0,fr⟩,o,?_,d⟩;rw[<-hs3];exact Heap.get?_push_of_some _ e
 have e3:s3.heap=s2.heap.push {cls:= .type "list",data:= .seq ([]:List Value).toArray}:=by rw[<-hs3]
 generalize hh1:(s3.heap.push {cls:= .type "dict",data:= .dict #[]}).push {cls:= .type "cell",data:= .cell none}=h₁;have kk:∀b o,s3.heap.get? b=some o->h₁.get? b=some o:=λb o e=>by
  rw[<-hh1];exact Heap.get?_push_of_some _ (Heap.get?_push_of_some _ e)
 have hns:h₁.Ns s3.heap.objs.size (λ_=>none):=by
  rw[<-hh1];exact(Heap.Ns.new s3.heap (.type "dict")).keeps λb o e=>Heap.get?_push_of_some _ e
 have hcl:h₁.IsCell (s3.heap.objs.size+1) none:=by
  rw[<-hh1];have e:(s3.heap.push {cls:= .type "dict",data:= .dict #[]}).objs.size=s3.heap.objs.size+1:=Heap.size_push ..;rw[<-e];exact⟨_,Heap.get?_push_size _ rfl,rfl⟩
 have I4:=comp_invC (tk:=s3.toks) S I3 hns hcl kk hf3;have stat:∀{H':Hp} {pl:List (Addr×Obj)},(∀p∈pl,∀b∈fp,p.1≠b)->(∀b∈fp,H' b=none)->∀b∈fp,FpOk (Cv X scope y (y::F) s3.heap.objs.size s3 (upd H2 s2.heap.objs.size (.lst [])) fp pins) pl H' b:=λ{H' pl} hp hn b hb=>by
  obtain⟨⟨f0,f1,f2,f3,f4,f5⟩,o,e,d⟩:=hf3 b hb;obtain⟨x1,x2⟩:=I4.ok.exf b hb;refine⟨hn b hb,x1,I4.ok.exfs b hb,.inl hb,x2,λp hq=> ?_⟩;rcases List.mem_append.mp hq with z|z
  ·exact f5 p z
  ·exact hp p z b hb
 have loop:codeAny (model X.prog X.w) X.A (.compLoop (.ListComp elt [⟨tg,iter,ifs,0⟩] scope pos) 0 (.ref it) (.ref s2.heap.objs.size) (compEnvC scope ((y,s3.heap.objs.size+1)::Ca X.env scope.names []) s3.heap.objs.size X.env))
   (compPost (model X.prog X.w) X.A X.xe use QQ (.ref s2.heap.objs.size) s3.heap.objs.size) {s3 with heap:=h₁,toks:=s3.toks}:=by
  refine codeAny_loop rfl (λn s'=>∃i σ' ys H',Inv (Cv X scope y (y::F) s3.heap.objs.size s3 (upd H2 s2.heap.objs.size (.lst [])) fp pins) [] σ' H' s'/\tn i s'.heap/\(∀b∈fp,H' b=none)/\W i n σ' ys H') ?_ m0 ⟨0,_,[],_,I4,?_,λb hb=>(hf3 b hb).1.1,w0⟩
  ·rintro n s5 ⟨i,σ5,ys,H5,I5,st5,fr5,w5⟩;show wpAny _ X.A ((compTurn (.ListComp elt [⟨tg,iter,ifs,0⟩] scope pos) 0 (.ref it) (.ref s2.heap.objs.size) (compEnvC scope ((y,s3.heap.objs.size+1)::Ca X.env scope.names []) s3.heap.objs.size X.env)).onRaise (λx=>do noteFrame x _;theTreesLotGoes x)) _ _ s5;refine wpAny_noted ?_;rw[compTurn_list];refine wpAny_bind (wpAny_standAt (wpAny_bind ?_));obtain⟨hD,tu⟩:=turn i n σ5 ys H5 w5;rcases tu with⟨stop,qq⟩|⟨go,NN,hNN,step⟩
   ·refine thn (Tn.done (Cv X scope y (y::F) s3.heap.objs.size s3 (upd H2 s2.heap.objs.size (.lst [])) fp pins) rfl rfl rfl hc i [] s5 σ5 H5 _ I5 (stat (pl:=[]) (λ_ hp=>absurd hp List.not_mem_nil) fr5) st5 stop) λr s6 ⟨hr,I6⟩=> ?_;subst hr;refine wpAny_pure ?_;obtain⟨m6,hn6,_⟩:=I6.loc;have lC:s.heap.objs.size<=s.heap.objs.size:=Nat.le_refl _;exact fin _ _ s6 H5 m6 hn6 qq (I3.fpOk (Nat.le_refl _) I6.free) λh' sb=>comp_outC I3 (λb hb=>(hf3 b hb).1) I6 sb
   ·refine thn (Tn.item (Cv X scope y (y::F) s3.heap.objs.size s3 (upd H2 s2.heap.objs.size (.lst [])) fp pins) rfl rfl rfl hc i [] s5 σ5 H5 _ I5 (stat (pl:=[]) (λ_ hp=>absurd hp List.not_mem_nil) fr5) st5 go) λr s6 ⟨u,hr,h6⟩=> ?_;subst hr;refine wpAny_bind (thn h6 λ_ s7 ⟨x,H7,I7,r7,y7,st7,fr7⟩=> ?_);have I7':=I7.pinned (stat (pl:=[]) (λ_ hp=>absurd hp List.not_mem_nil) fr7) (Tn.obj _ _ st7);have back:∀{σ8:St} {H8:Hp} {s8:Shared} {ys8:List V} {m':Nat},Inv (Cv X scope y (y::F) s3.heap.objs.size s3 (upd H2 s2.heap.objs.size (.lst [])) fp pins) ([]++pinsAt fp s7.heap) σ8 H8 s8->m'<n->W (i+1) m' σ8 ys8 H8->
      ∃m,m<n/\∃i σ' ys H',Inv (Cv X scope y (y::F) s3.heap.objs.size s3 (upd H2 s2.heap.objs.size (.lst [])) fp pins) [] σ' H' s8/\tn i s8.heap/\(∀b∈fp,H' b=none)/\W i m σ' ys H':=λ{σ8 H8 s8 ys8 m'} I8 hm w8=>by
     refine⟨m',hm,i+1,σ8,ys8,H8,I8.unpinned,Tn.keep _ _ _ st7 λb hb o e=>(I8.pin (b,o) (List.mem_append_right _ (List.mem_append_right _ (mem_pinsAt hb e)))).1,λb hb=> ?_,w8⟩;obtain⟨o,e,d⟩:=Tn.obj _ _ st7 b hb;exact(I8.pin (b,o) (List.mem_append_right _ (List.mem_append_right _ (mem_pinsAt hb e)))).2.1
    refine wpAny_bind (wpAny_mono (hg _ _ _ _ _ _ s7 σ5 H7 x u _ I7' r7 (step x H7 y7)) (λ_ s8 ⟨σ8,H8,I8,q8⟩=> ?_) λ_ _ z=>z.elim);refine wpAny_bind (wpAny_mono (hif _ _ _ _ _ _ s8 σ8 H8 _ I8 q8) (λok s9 ⟨H9,I9,q9⟩=> ?_) λ_ _ z=>z.elim);cases ok with
    |false=>
     rw[if_neg Bool.false_ne_true] at q9;obtain⟨m',hm,w9⟩:=hNN _ _ _ q9;exact wpAny_pure ⟨rfl,back I9 hm w9⟩
    |true=>
     rw[if_pos rfl] at q9;refine wpAny_bind (wpAny_bind (wpAny_mono (he _ _ _ _ _ _ s9 σ8 H9 _ I9 q9) (λyv s10 ⟨y,H10,I10,r10,d10,l10,q10⟩=> ?_) λ_ _ z=>z.elim));obtain⟨m',hm,w10⟩:=hNN _ _ _ q10;obtain⟨z10,its,n10,rv,el,eo⟩:=I10.lstM d10;refine wpAny_bind (wpAny_list_append_plain (items:=its.toArray) ⟨n10,eo⟩ (λh' hl' sb'=> ?_) (by simp;omega));obtain⟨n11,eo'⟩:=hl';have I11:=I10.write (x:=s2.heap.objs.size) (e:=s2.heap.objs.size) (o:= .lst (ys++[y])) (t':=s10.toks) (by rw[d10];exact trivial) (.inl rfl) (λb o hb e=>sb'.extBut b o hb e) ⟨_,eo'⟩ ⟨by simp;assumption,its++[yv],n11,rv.append (.cons r10 .nil),by simpa using eo'⟩;exact wpAny_pure (wpAny_pure ⟨rfl,back I11 hm w10⟩)
  ·refine Tn.keep _ _ _ st2 λb hb o e=>kk b o ?_;rw[e3];exact Heap.get?_push_of_some _ e
 have st1:tn 0 h₁:=Tn.keep _ _ _ st2 λb hb o e=>kk b o (by rw[e3];exact Heap.get?_push_of_some _ e);exact codeAny_compStart_list loop (Tn.self _ 0 _ _ _ st1 loop)
theorem pe_compC{tg elt iter:Expr}{ifs:List Expr}{pos:Pos}{g:TG}{ti:TT}{te:TE}{wi:TI}(S:CScopeC X scope y F js)(hc:X.calm=true)(hi:PI X tg iter wi)(hg:∀C s H ex pins,PG (Cv X scope y (y::F) C s H ex pins) tg g)(hif:∀C s H ex pins,PIf (Cv X scope y (y::F) C s H ex pins) ifs ti)(he:∀C s H ex pins,PE (Cv X scope y (y::F) C s H ex pins) elt te)(hs:∀x,foldedSetIterable iter X.env x=pure x:=by intro _;rfl):PE X (.ListComp elt [⟨tg,iter,ifs,0⟩] scope pos) (tComp wi g ti te 1 js):=by
 intro pins s σ H Q I h;rw[eval_ListComp];exact comp_goC (use:=none) S hc hi hg hif he I h (λD C s' H' m hn q _ hinv=>⟨m,hn,λh' sb=>⟨.ref D,H',hinv h' sb,rfl,q⟩⟩) hs
end
structure CSC(osc scope:Scope)(y:Str)(F:List Str):Prop where
 kind:scope.kind= .function
 cut:∃pre post,scope.names=pre++(y,.cell)::post/\(∀x∈pre,x.2≠ .cell)/\∀x∈post,x.2≠ .cell
 names:∀x∈scope.names,x.2= .local->scope.names.lookup x.1=some .local
 free:∀x∈scope.names,x.2= .free->osc.names.lookup x.1=some .cell
 own:∀x∈scope.names,x.2= .free->x.1≠y
 cel:∀z∈F,(relab scope osc).names.lookup z=some .cell/\osc.names.lookup z=some .cell/\(z,NameKind.free)∈scope.names
 all:∀x∈(relab scope osc).names,(x.2= .cell\/x.2= .free)->(x.1,NameKind.free)∈scope.names\/x.1=y
theorem CSC.to{X:Cx}{scope osc:Scope}{y:Str}{F:List Str}{js:List Nat}(h:CSC osc scope y F)(hj:js.map (λj=>X.N[j]?)=F.map some)(ho:X.env.scope=osc):CScopeC X scope y F js:=by
 subst ho;exact⟨h.kind,h.cut,h.names,h.free,h.own,h.cel,h.all,hj⟩
end L2
namespace K39
open PySem L2 Wk
theorem cutT2(x:R6):Dy (Dh x) none (some 2)=[.int (x.1.2.1:Int),.int (x.1.2.2.1:Int)]:=by unfold Dy Dh;rfl
theorem PLsAt.snoc{H:Hp}{qs:List Addr}{S:List T4}{r:Addr}{t:T4}(h:PLsAt H qs S)(hr:H r=some (.lst [.int (t.2.1:Int),.int (t.2.2.1:Int)])):PLsAt H (qs++[r]) (S++[t]):=by
 refine⟨by rw[List.length_append,List.length_append,h.1];rfl,λi r0 p0 e1 e2=> ?_⟩;rw[List.getElem?_append] at e1 e2;rw[h.1] at e1;split at e1
 ·rename_i z;rw[if_pos z] at e2;exact h.2 i r0 p0 e1 e2
 ·rename_i z;rw[if_neg z] at e2;have hz:i - S.length=0:=by
   have:=(List.getElem?_eq_some_iff.mp e1).1;simp only[List.length_cons,List.length_nil] at this;omega
  rw[hz] at e1 e2;cases e1;cases e2;exact hr
theorem PLsAt.mono{H H':Hp}{qs:List Addr}{S:List T4}(h:PLsAt H qs S)(s:∀q∈qs,∀u,H q=some u->H' q=some u):PLsAt H' qs S:=⟨h.1,λi r x a b=>s _ (List.mem_of_getElem? a) _ (h.2 i r x a b)⟩
theorem rw_take{Z:List RC}{j:Nat}{z:RC}(e:Z[j]? =some z):rwZ (Z.take (j+1))=rwZ (Z.take j)++[z.1]:=by
 unfold rwZ;rw[A4 e,List.map_append];rfl
theorem tiz_snoc{Z:List RC}{j:Nat}{z:RC}(e:Z[j]? =some z)(p:R6->Bool):tiF (rwZ (Z.take (j+1))) p=tiF (rwZ (Z.take j)) p++(if p z.1=true then [z.1.1] else []):=by rw[rw_take e,ti_snoc]
theorem part_labs{N p:Nat}{S:List T4}{ls:List Nat}(hl:LabOk N S ls)(hS:InN N S)(hp:p<N)(hN:N<=60):(List.range N).filter (λv=>decide (ls.getD v 0=ls.getD p 0))=Ar N S p:=by
 have:∀v∈List.range N,decide (ls.getD v 0=ls.getD p 0)=decide (v∈Ar N S p):=λv hv=>by
  have hv:=List.mem_range.mp hv;rw[Bool.eq_iff_iff,decide_eq_true_eq,decide_eq_true_eq,hl.iff v p hv hp,A6 hS hp hN];exact⟨λh=>⟨hv,h.symm⟩,λh=>h.2.symm⟩
 rw[List.filter_congr this];unfold Ar;refine List.filter_congr λv hv=> ?_;rw[Bool.eq_iff_iff,decide_eq_true_eq,List.mem_filter];exact⟨λh=>h.2,λh=>⟨hv,h⟩⟩
theorem lsi{ls:List Nat}{v:Nat}(h:v<ls.length):(psV ls)[v]? =some (.int ((ls.getD v 0:Nat):Int)):=ps_ix h
def spPartsL:Sp:=λvs H Q _=>∃(N:Nat) (d e:Addr) (o:Obj) (Z:List RC) (L:Nat) (x:R6),vs=[.int (N:Int),.ref d,.int (L:Int),.ref e]/\KnZ H d o Z/\PlN N (rwZ Z)/\N<=60/\H e=some (.lst [.int (x.1.2.1:Int),.int (x.1.2.2.1:Int)])/\x.1.2.1<N/\x.1.2.2.1<N/\∀(l:Addr) (qs:List Addr) (H':Hp),Same H H'->H' l=some (.lst (qs.map V.ref))->PtA H' qs (Do N (tiF (rwZ Z) (kpB L)) x)->Q (.ref l) H'
section
variable{P:Program}{w:World}{K:PySem.W.Frag}{mg:Str->Option Value}{base:Heap}
theorem scPartsL:Av ["_law_many_here","_law_known_here","_law_layer","_law_ends","_law_pairs","_law_labels"] ["_law_many_here","_law_known_here","_law_layer","_law_ends"] (Ag sPartsL):=⟨rfl,rfl,rfl,by decide+kernel,rfl,by decide+kernel,by decide+kernel⟩
theorem ok_PartsL{f:Addr}{fd:FuncData}(F:Fun K "_law_parts" "_law_parts" sPartsL f fd)(T:Txt mg)(GGroups:Cl P w K mg base 1 "_law_groups" ["_law_many_here","_law_pairs"] spGroups):
  FnOk P w K mg base CX0 2 f fd ["_law_many_here","_law_known_here","_law_layer","_law_ends"] spPartsL:=by
 refine F.ok scPartsL (λvs H Q E h=> ?_) (λcdv A outer s H vs Q E hr h=> ?_)
 ·obtain⟨_,_,_,_,_,_,_,rfl,_⟩:=h;rfl
 ·obtain⟨N,d,e,o,Z,L,x,rfl,hZ,hPl,N60,he,hp,hq,k⟩:=h;refine⟨_,Ae (Dr (i:=4) (T:=["_law_name"]) (F:=["_law_layer","_law_known_here"]) (js:=[2,1]) scPartsL.nd rfl (Or.inl rfl) (cs (osc:=Ag sPartsL)) rfl (pi_dF (pv 1)) (λ_ _ _ _ _=>Ah (i:=0) (show (["_law_name","_law_layer","_law_known_here"]:List Str).Nodup by decide+kernel) rfl (Or.inl rfl)) (λ_ _ _ _ _=>Ci (PW.pt (pw_and (Bd (A1 (r:=rIxL K) A0 (Cn (hu_of hr) (pv 2) (pv 0) (λ_ _=>rfl)) Af (λ_ _=>rfl))) (pw_and1 (Au op_ge (A1 (r:=rIxL K) A0 (Cn (hu_of hr) (pv 2) (pv 0) (λ_ _=>rfl)) Af (λ_ _=>rfl)) (pv 1) (Ay _)))))) (λ_ _ _ _ _=>Cf (r:=rSlL K) sl_list (Cn (hu_of hr) (pv 2) (pv 0) (λ_ _=>rfl)) Dq (Bv Af)))
   (Ae (Aw (i:=5) scPartsL.nd rfl (Or.inr rfl) (At GGroups hr (Aa (pv 0) (Aa (pv 4) Ac))))
   (Ai (Ao (pe_compC (y:="_law_end") (F:=["_law_many_here","_law_labels"]) (js:=[0,5]) (CSC.to (osc:=Ag sPartsL) ⟨by rfl,⟨[(".0",.local)],_,rfl,by decide+kernel,by decide+kernel⟩,by decide+kernel,by decide+kernel,by decide+kernel,by decide+kernel,by decide+kernel⟩ rfl rfl) rfl (Ce (pv 3)) (λ_ _ _ _ _=>Ah (i:=0) (show (["_law_end","_law_many_here","_law_labels"]:List Str).Nodup by decide+kernel) rfl (Or.inr rfl)) (λ_ _ _ _ _=>A8) (λ_ _ _ _ _=>A3 (r:=rTupOf K) Bp (by rfl) T.tuple (by decide+kernel) (Aa (A5 (T:=["_law_place"]) (F:=["_law_labels","_law_end"]) (js:=[2,0]) (cs (osc:={kind:= .function,names:=[(".0",.local),("_law_end",.cell),("tuple",.globalImplicit),("range",.globalImplicit),("_law_labels",.cell),("_law_many_here",.cell)],isGenerator:=false,isCoroutine:=false})) rfl (Bt rfl T.range (Aa (pv 1) Ac)) (λ_ _ _ _ _=>Ah (i:=0) (show (["_law_place","_law_labels","_law_end"]:List Str).Nodup by decide+kernel) rfl (Or.inl rfl)) (λ_ _ _ _ _=>Ci (Au Dt (A1 (r:=rIxL K) A0 (pv 1) (pv 0) (λ_ _=>rfl)) (A1 (r:=rIxL K) A0 (pv 1) (pv 2) (λ_ _=>rfl)) (Ay _))) (λ_ _ _ _ _=>pv 0)) Ac)))))),?_⟩
  refine⟨_,rfl,d,o,kvZ Z,nmZ Z,rfl,hZ.dict,kvZ_keys Z,λD hD=>comp_dF (λi σ ys H2=>∃(u:Option V) (ps:List Addr),σ=[u,some (.int (L:Int)),some (.ref d)]/\ys=ps.map V.ref/\Same H H2/\H2 D=some (.lst ys)/\PLsAt H2 ps (tiF (rwZ (Z.take i)) (kpB L))/\∀q∈ps,q≠D) ⟨none,[],rfl,rfl,Ad hD,Ab,⟨rfl,λi r t e=>by simp at e⟩,λq hq=>by cases hq⟩ (λi σ ys H2 _ ⟨_,_,_,_,s,e,_⟩=>⟨⟨_,s _ _ hZ.dict,kvZ_keys Z⟩,e⟩) ?_ ?_⟩
  ·rintro i n σ ys H2 hn ⟨u,ps,rfl,rfl,s2,d2,p2,nD⟩;obtain⟨z,ez,rfl⟩:=nm_at hn;have hz:z∈Z:=List.mem_of_getElem? ez;have h2:=hZ.same s2;have ql:ps.length<=60:=by
    rw[p2.1];refine Nat.le_trans (ti_len _ _) ?_;unfold rwZ;rw[List.length_map,List.length_take];have:=hZ.few;omega
   have no:kpB L z.1=false->(∃(u:Option V) (ps':List Addr),[some (.str z.1.1.1),some (.int (L:Int)),some (.ref d)]=[u,some (.int (L:Int)),some (.ref d)]/\ps.map V.ref=ps'.map V.ref/\Same H H2/\H2 D=some (.lst (ps.map V.ref))/\PLsAt H2 ps' (tiF (rwZ (Z.take (i+1))) (kpB L))/\∀q∈ps',q≠D):=λg=>⟨_,ps,rfl,rfl,s2,d2,by rw[tiz_snoc ez,if_neg (by rw[g];decide),List.append_nil];exact p2,nD⟩
   refine⟨_,rfl,_,rfl,d,_,rfl,h2.get hz,z.2,_,4,_,rfl,rfl,SqL.of (h2.cel z hz),Ap (j:=4) rfl,_,rfl,?_⟩;refine Be (λc2=> ?_) λc2=> ?_
   ·have c2:z.1.2.2=true:=c2;refine⟨_,rfl,_,rfl,d,_,rfl,h2.get hz,z.2,_,3,_,rfl,rfl,SqL.of (h2.cel z hz),Ap (j:=3) rfl,_,rfl,_,_,rfl,rfl,_,rfl,?_⟩;refine Be (λc=> ?_) λc=> ?_
    ·have c:L<=z.1.2.1:=by have:=of_decide_eq_true c;omega
     refine⟨_,rfl,_,rfl,d,_,rfl,h2.get hz,_,rfl,z.2,_,rfl,SqL.of (h2.cel z hz),λq hq=> ?_⟩;rw[cutT2];have s3:=Ad (o:= .lst [.int (z.1.1.2.1:Int),.int (z.1.1.2.2.1:Int)]) hq;have e3:upd H2 q (.lst [.int (z.1.1.2.1:Int),.int (z.1.1.2.2.1:Int)]) q=some (.lst [.int (z.1.1.2.1:Int),.int (z.1.1.2.2.1:Int)]):=Ab;have qD:q≠D:=λy=>by rw[y,d2] at hq;cases hq
     show _/\_;generalize upd H2 q (.lst [.int (z.1.1.2.1:Int),.int (z.1.1.2.2.1:Int)])=H3 at s3 e3 ⊢;have d3:=s3 _ _ d2;have yes:kpB L z.1=true:=by simp[kpB,c,c2]
     refine⟨d3,Ak (by rw[List.length_map];omega),_,ps++[q],rfl,by rw[List.map_append];rfl,Aq (s2.trans s3) hD,Ab,?_,λb hb=> ?_⟩
     ·rw[tiz_snoc ez,if_pos yes];exact(p2.mono λb hb u e=>by rw[Aj (nD b hb)];exact s3 _ _ e).snoc (by rw[Aj qD];exact e3)
     ·rcases List.mem_append.mp hb with hb|hb
      ·exact nD b hb
      ·rw[List.mem_singleton.mp hb];exact qD
    ·have c:¬L<=z.1.2.1:=λy=>c (decide_eq_true (by omega));exact no (by simp[kpB,c])
   ·have c2:¬z.1.2.2=true:=c2;exact no (by simp[kpB,c2])
  rintro σ ys H2 ⟨u,ps,rfl,rfl,s2,d2,p2,nD⟩;have tl:Z.take (nmZ Z).length=Z:=by
   have:(nmZ Z).length=Z.length:=by unfold nmZ;rw[List.length_map]
   rw[this,List.take_length]
  rw[tl] at p2;have hS:InN N (tiF (rwZ Z) (kpB L)):=hPl.inN _;generalize tiF (rwZ Z) (kpB L)=S at p2 hS k;refine⟨_,rfl,_,rfl,N,D,ps,S,rfl,d2,p2,hS,N60,λl ls H3 s3 e3 hl=> ?_⟩;have s23:=s2.trans s3;have he3:=s23 _ _ he;refine⟨_,rfl,e,rfl,⟨_,SqL.of he3⟩,λD2 hD2=>Cj (K:=K) (a:=e) (xs:=[.int (x.1.2.1:Int),.int (x.1.2.2.1:Int)]) (λi σ zs H4=>∃(u:Option V) (qs:List Addr),σ=[u,some (.int (N:Int)),some (.ref l)]/\zs=qs.map V.ref/\Same H3 H4/\H4 D2=some (.lst zs)/\qs.length=i/\PtA H4 qs ((Do N S x).take i)) ⟨none,[],rfl,rfl,Ad hD2,Ab,rfl,rfl,λi r x e=>by simp at e⟩ (λi σ zs H4 _ ⟨_,_,_,_,s,e,_⟩=>⟨SqL.of (s _ _ he3),e⟩) ?_ ?_⟩
  ·rintro i v σ zs H4 hv ⟨u,qs,rfl,rfl,s4,d4,ql,p4⟩;obtain⟨q,hq1,rfl⟩:=pair_at hv;have i2:i<2:=(List.getElem?_eq_some_iff.mp hv).1;have qN:q<N:=by
    match i,hq1 with
    |0,hq1=>cases hq1;exact hp
    |1,hq1=>cases hq1;exact hq
    |n+2,hq1=>exact absurd hq1 (by simp)
   have e4:=s4 _ _ e3;refine⟨_,rfl,(N:Int),rfl,by omega,by omega,λE1 hE1=>Bn (lo:=0) (n:=(N:Int).toNat) (λj σ ys H5=>∃(u:Option V),σ=[u,some (.ref l),some (.int (q:Int))]/\ys=psV ((List.range j).filter λv=>decide (ls.getD v 0=ls.getD q 0))/\Same H4 H5/\H5 E1=some (.lst ys)) ⟨none,rfl,rfl,Ad hE1,Ab⟩ (λj σ ys H5 _ ⟨_,_,_,_,e⟩=>e) ?_ ?_⟩
   ·rintro j σ ys H5 hj ⟨u,rfl,rfl,s5,d5⟩;have hj:j<N:=by omega
    have e5:=s5 _ _ e4;have ij:=lsi (ls:=ls) (v:=j) (by rw[hl.len];exact hj);have iq:=lsi (ls:=ls) (v:=q) (by rw[hl.len];exact qN);have len:(psV ((List.range j).filter λv=>decide (ls.getD v 0=ls.getD q 0))).length<=60:=by
     unfold psV;rw[List.length_map];exact Nat.le_trans (List.length_filter_le _ _) (by rw[List.length_range];omega)
    have j0:(0:Int)+(j:Int)=(j:Int):=by omega
    rw[j0];refine⟨_,rfl,_,rfl,l,_,_,_,rfl,rfl,SqL.of e5,Ap ij,_,rfl,_,rfl,l,_,_,_,rfl,rfl,SqL.of e5,Ap iq,rfl,_,rfl,Be (λg=> ?_) λg=> ?_⟩
    ·have g:ls.getD j 0=ls.getD q 0:=Int.ofNat.inj (V.int.inj (of_decide_eq_true g));refine⟨_,rfl,d5,Ak (by omega),_,rfl,?_,Aq s5 hE1,Ab⟩;rw[List.range_succ,List.filter_append,List.filter_cons_of_pos (by rw[g];exact decide_eq_true rfl)];unfold psV;rw[List.map_append];rfl
    ·have g:¬ls.getD j 0=ls.getD q 0:=λy=>g (decide_eq_true (by rw[y]));refine⟨_,rfl,?_,s5,d5⟩;rw[List.range_succ,List.filter_append,List.filter_cons_of_neg (by simpa using g),List.filter_nil,List.append_nil]
   rintro σ ys H5 ⟨u,rfl,rfl,s5,d5⟩;rw[show (N:Int).toNat=N by omega,part_labs hl hS qN N60] at d5;refine⟨E1,_,rfl,.inl ⟨SqL.of d5,λpt hpt=> ?_⟩⟩;have s6:=s5.trans (Ad (o:= .tup (psV (Ar N S q))) hpt);have e6:upd H5 pt (.tup (psV (Ar N S q))) pt=some (.tup (psV (Ar N S q))):=Ab;show _/\_;generalize upd H5 pt (.tup (psV (Ar N S q)))=H6 at s6 e6 ⊢;have d6:=s6 _ _ d4;have kp:∀(r:Addr) (zs:List V) (o:HO),H6 r=some (.tup zs)->upd H6 D2 o r=some (.tup zs):=λr zs o e=>by rw[Aj (Cr e d6 (by intro z;cases z))];exact e
   refine⟨d6,Ak (by rw[List.length_map];omega),_,qs++[pt],rfl,by rw[List.map_append];rfl,Aq (s4.trans s6) hD2,Ab,by rw[List.length_append,ql];rfl,?_⟩;rw[A4 (two_at hq1)];exact(p4.same λr xs e=>kp _ _ _ (s6 _ _ e)).snoc (kp _ _ _ e6)
  rintro σ zs H4 ⟨u,qs,rfl,rfl,s4,d4,ql,p4⟩;exact k D2 qs H4 (s23.trans s4) d4 p4
end
end K39
namespace K39
open PySem L2 Wk
def ofF(R:List R6)(L:Nat)(ps:List Nat)(b:Bool)(e:Nat):List Str:=(R.filter λx=>decide (x.2.1=L) && (decide (x.2.2=b) && decide (cntF ps x=e))).map (·.1.1)
theorem of_loose(R:List R6)(L:Nat)(ps:List Nat)(e:Nat):ofF R L ps false e=Bs R L ps e:=by
 unfold ofF Bs looF;rw[List.filter_filter]
 congr 1
 refine List.filter_congr λx _=> ?_;cases x.2.2<;> cases decide (x.2.1=L)<;> cases decide (cntF ps x=e)<;> rfl
theorem cnt_sum(ps:List Nat)(x:R6):((if decide (x.1.2.1∈ps)=true then (1:Int) else 0)+(if decide (x.1.2.2.1∈ps)=true then (1:Int) else 0))=((cntF ps x:Nat):Int):=by
 unfold cntF;rw[List.filter_cons,List.filter_cons,List.filter_nil];by_cases a:x.1.2.1∈ps<;> by_cases b:x.1.2.2.1∈ps<;> simp[a,b]
theorem of_len(R:List R6)(L:Nat)(ps:List Nat)(b:Bool)(e:Nat):(ofF R L ps b e).length<=R.length:=by
 unfold ofF;rw[List.length_map];exact List.length_filter_le _ _
theorem of_snoc{R:List R6}{x:R6}{L:Nat}{ps:List Nat}{b:Bool}{e:Nat}:ofF (R++[x]) L ps b e=ofF R L ps b e++(if (decide (x.2.1=L) && (decide (x.2.2=b) && decide (cntF ps x=e)))=true then [x.1.1] else []):=by
 unfold ofF;rw[List.filter_append,List.map_append]
 congr 1
 rw[List.filter_cons,List.filter_nil];by_cases g:(decide (x.2.1=L) && (decide (x.2.2=b) && decide (cntF ps x=e)))=true
 ·rw[if_pos g,if_pos g];rfl
 ·rw[if_neg g,if_neg g];rfl
theorem cnt_raw(ps:List Nat)(x:R6):((if (if false=true then !inV (.int (x.1.2.1:Int)) (psV ps) else inV (.int (x.1.2.1:Int)) (psV ps))=true then (1:Int) else 0)+(if (if false=true then !inV (.int (x.1.2.2.1:Int)) (psV ps) else inV (.int (x.1.2.2.1:Int)) (psV ps))=true then (1:Int) else 0))=((cntF ps x:Nat):Int):=by
 have i1:∀p:Nat,(if false=true then !inV (.int (p:Int)) (psV ps) else inV (.int (p:Int)) (psV ps))=decide (p∈ps):=λp=>by rw[if_neg (by decide)];exact inV_ps p ps
 rw[i1,i1];exact cnt_sum ps x
def spOfLayer:Sp:=λvs H Q _=>∃(d pl:Addr) (o:Obj) (Z:List RC) (L e:Nat) (ps:List Nat) (b:Bool),vs=[.ref d,.int (L:Int),.ref pl,.bl b,.int (e:Int)]/\KnZ H d o Z/\H pl=some (.tup (psV ps))/\∀(l:Addr) (H':Hp),Same H H'->H l=none->H' l=some (.lst ((ofF (rwZ Z) L ps b e).map V.str))->Q (.ref l) H'
section
variable{P:Program}{w:World}{K:PySem.W.Frag}{mg:Str->Option Value}{base:Heap}
theorem scOfLayer:Av ["_law_known_here","_law_layer","_law_places","_law_is_kept","_law_ends","_law_found","_law_name","_law_row"] ["_law_known_here","_law_layer","_law_places","_law_is_kept","_law_ends"] (Ag sOfLayer):=⟨rfl,rfl,rfl,by decide+kernel,rfl,by decide+kernel,by decide+kernel⟩
theorem ok_OfLayer{f:Addr}{fd:FuncData}(F:Fun K "_law_of_layer" "_law_of_layer" sOfLayer f fd)(T:Txt mg):
  FnOk P w K mg base CX0 1 f fd ["_law_known_here","_law_layer","_law_places","_law_is_kept","_law_ends"] spOfLayer:=by
 refine F.ok scOfLayer (λvs H Q E h=> ?_) (λcdv A outer s H vs Q E hr h=> ?_)
 ·obtain⟨_,_,_,_,_,_,_,_,rfl,_⟩:=h;rfl
 ·obtain⟨d,pl,o,Z,L,e,ps,b,rfl,hZ,hp,k⟩:=h;refine⟨_,Ae (Aw (i:=5) scOfLayer.nd rfl (Or.inl rfl) (Cm Ac))
   (Ae (Dx PassesOwn.never rfl (pi_dF (pv 0)) (Ah (i:=6) scOfLayer.nd rfl (Or.inl rfl)) (Ae (Aw (i:=7) scOfLayer.nd rfl (Or.inl rfl) (Cn (hu_of hr) (pv 0) (pv 6) (λ_ _=>rfl)))
   (Ai (Bi (PW.pt (pw_and (Au Dt (A1 A0 (pv 7) Af (λ_ _=>rfl)) (pv 1) (Ay _)) (pw_and (Au Dt (A1 A0 (pv 7) Af (λ_ _=>rfl)) (pv 3) (Ay _)) (pw_and1 (Au Dt (Az Bm (A3 call_int1 (by rfl) T.int (by decide+kernel) (Aa (Bo Dj (A1 A0 (pv 7) Af (λ_ _=>rfl)) (pv 2) (by rfl)) Ac)) (A3 call_int1 (by rfl) T.int (by decide+kernel) (Aa (Bo Dj (A1 A0 (pv 7) Af (λ_ _=>rfl)) (pv 2) (by rfl)) Ac))) (pv 4) (Ay _)))))) (Ai (Cw (pe_bm PySem.F.plainAttrs_list PySem.F.slot_list_append PySem.F.type_list_append Cb (pv 5) (Aa (pv 6) Ac)))) A2))))
   (Ai (Ao (pv 5)))),?_⟩
  refine⟨small (by simp),λfl hfl=> ?_⟩;have s1:=Ad (o:= .lst []) hfl;have e1:upd H fl (.lst []) fl=some (.lst []):=Ab;generalize upd H fl (.lst [])=H1 at s1 e1 ⊢;have h1:=hZ.same s1;refine⟨_,rfl,d,o,kvZ Z,nmZ Z,rfl,h1.dict,kvZ_keys Z,for_dF (λi σ H2=>∃(u6 u7:Option V),σ=[some (.ref d),some (.int (L:Int)),some (.ref pl),some (.bl b),some (.int (e:Int)),some (.ref fl),u6,u7]/\Same H H2/\H2 fl=some (.lst ((ofF (rwZ (Z.take i)) L ps b e).map V.str))) ⟨none,none,rfl,s1,e1⟩ (λi σ H2 _ ⟨_,_,_,s,_⟩=>⟨_,s _ _ hZ.dict,kvZ_keys Z⟩) ?_ ?_⟩
  ·rintro i n σ H2 hn ⟨u6,u7,rfl,s2,d2⟩;obtain⟨z,ez,rfl⟩:=nm_at hn;have hz:z∈Z:=List.mem_of_getElem? ez;have h2:=hZ.same s2;have c2:=h2.cel z hz;have p2:=s2 _ _ hp;have ql:((ofF (rwZ (Z.take i)) L ps b e).map V.str).length<=60:=by
    rw[List.length_map];refine Nat.le_trans (of_len _ _ _ _ _) ?_;unfold rwZ;rw[List.length_map,List.length_take];have:=hZ.few;omega
   have tk:=rw_take ez;have no:∀(u7:Option V),¬((decide (z.1.2.1=L) && (decide (z.1.2.2=b) && decide (cntF ps z.1=e)))=true)->∃(v6 v7:Option V),[some (.ref d),some (.int (L:Int)),some (.ref pl),some (.bl b),some (.int (e:Int)),some (.ref fl),some (.str z.1.1.1),u7]=[some (.ref d),some (.int (L:Int)),some (.ref pl),some (.bl b),some (.int (e:Int)),some (.ref fl),v6,v7]/\Same H H2/\H2 fl=some (.lst ((ofF (rwZ (Z.take (i+1))) L ps b e).map V.str)):=λu7 g=>⟨_,_,rfl,s2,by rw[tk,of_snoc,if_neg g,List.append_nil];exact d2⟩
   refine⟨_,rfl,_,rfl,d,_,rfl,h2.get hz,?_⟩;refine⟨_,rfl,z.2,_,3,_,rfl,rfl,SqL.of c2,Ap (j:=3) rfl,_,rfl,rfl,_,rfl,Be (λg1=> ?_) λg1=> ?_⟩
   ·have g1:z.1.2.1=L:=Int.ofNat.inj (V.int.inj (of_decide_eq_true g1));refine⟨_,rfl,z.2,_,4,_,rfl,rfl,SqL.of c2,Ap (j:=4) rfl,_,rfl,rfl,_,rfl,Be (λg2=> ?_) λg2=> ?_⟩
    ·have g2:z.1.2.2=b:=V.bl.inj (of_decide_eq_true g2);refine⟨_,rfl,z.2,_,0,_,rfl,rfl,SqL.of c2,Ap (j:=0) rfl,_,rfl,pl,_,rfl,.inr (SqT.of p2),rfl,psV_flat _,.inr ⟨_,rfl,?_⟩⟩;refine⟨_,rfl,z.2,_,1,_,rfl,rfl,SqL.of c2,Ap (j:=1) rfl,_,rfl,pl,_,rfl,.inr (SqT.of p2),rfl,psV_flat _,.inr ⟨_,rfl,?_⟩⟩;refine⟨_,_,rfl,rfl,?_⟩;refine⟨_,rfl,rfl,_,rfl,Be (λg3=> ?_) λg3=> ?_⟩
     ·have g3:cntF ps z.1=e:=Int.ofNat.inj ((cnt_raw ps z.1).symm.trans (V.int.inj (of_decide_eq_true g3)));refine⟨_,rfl,.inl ⟨rfl,_,SqL.of d2⟩,_,rfl,fl,_,_,rfl,rfl,d2,Ak (by omega),_,_,rfl,Aq s2 hfl,?_⟩;rw[Ab,tk,of_snoc,if_pos (by rw[decide_eq_true g1,decide_eq_true g2,decide_eq_true g3];rfl),List.map_append];rfl
     ·have g3:¬cntF ps z.1=e:=λy=>g3 (decide_eq_true (congrArg V.int ((cnt_raw ps z.1).trans (by rw[y]))));exact no _ (by rw[decide_eq_false g3,Bool.and_false,Bool.and_false];decide)
    ·have g2:¬z.1.2.2=b:=λy=>g2 (decide_eq_true (congrArg V.bl y));exact Ct (no _ (by rw[decide_eq_false g2,Bool.false_and,Bool.and_false];decide))
   ·have g1:¬z.1.2.1=L:=λy=>g1 (decide_eq_true (by rw[y]));exact Ct (no _ (by rw[decide_eq_false g1,Bool.false_and];decide))
  rintro σ H2 ⟨u6,u7,rfl,s2,d2⟩;have tl:Z.take (nmZ Z).length=Z:=by
   have:(nmZ Z).length=Z.length:=by unfold nmZ;rw[List.length_map]
   rw[this,List.take_length]
  rw[tl] at d2;exact⟨_,rfl,k fl H2 s2 hfl d2⟩
end
end K39
namespace K39
open PySem L2 Wk
def putZ(Z:List RC)(c:Addr)(x:R6):List RC:=Z.map λy=>if y.2=c then (x,y.2) else y
theorem adZ_put(Z:List RC)(c:Addr)(x:R6):adZ (putZ Z c x)=adZ Z:=by
 unfold adZ putZ;rw[List.map_map];refine List.map_congr_left λy _=> ?_;show (if y.2=c then (x,y.2) else y).2=y.2;split<;> rfl
theorem one_cell:∀{Z:List RC},(adZ Z).Nodup->∀{y z:RC},y∈Z->z∈Z->y.2=z.2->y=z
 |[],_,_,_,h,_,_=>by cases h
 |w::Z,nd,y,z,hy,hz,e=>by
  have nd':w.2 ∉ adZ Z/\(adZ Z).Nodup:=List.nodup_cons.mp nd;rcases List.mem_cons.mp hy with a1|a1
  ·rcases List.mem_cons.mp hz with a2|a2
   ·rw[a1,a2]
   ·exact absurd (List.mem_map.mpr ⟨z,a2,by rw[<-e,a1]⟩) nd'.1
  ·rcases List.mem_cons.mp hz with a2|a2
   ·exact absurd (List.mem_map.mpr ⟨y,a1,by rw[e,a2]⟩) nd'.1
   ·exact one_cell nd'.2 a1 a2 e
theorem tie_put{Z:List RC}(nd:(adZ Z).Nodup){z:RC}(hz:z∈Z){x:R6}(hx:x.1=z.1.1):(putZ Z z.2 x).map (·.1.1)=Z.map (·.1.1):=by
 unfold putZ;rw[List.map_map];refine List.map_congr_left λy hy=> ?_;show (if y.2=z.2 then (x,y.2) else y).1.1=y.1.1;split
 ·rename_i e;rw[one_cell nd hy hz e];exact hx
 ·rfl
theorem nmZ_tie{Z Y:List RC}(h:Y.map (·.1.1)=Z.map (·.1.1)):nmZ Y=nmZ Z:=by
 have:=congrArg (List.map (·.1)) h;rw[List.map_map,List.map_map] at this;exact this
theorem up_nm{Z:List RC}:UpP (rwZ Z)↔(nmZ Z).Pairwise (λa b=>a.cps.toList<b.cps.toList):=by
 unfold UpP rwZ nmZ;rw[List.pairwise_map,List.pairwise_map]
theorem kvZ_zip{Z Y:List RC}(h:Y.map (·.1.1)=Z.map (·.1.1))(g:adZ Y=adZ Z):kvZ Y=kvZ Z:=by
 have e:∀W:List RC,kvZ W=((W.map (·.1.1)).zip (adZ W)).map λq=>(Sum.inr q.1.1,V.ref q.2):=λW=>by
  unfold kvZ adZ;rw[List.zip_map',List.map_map];rfl
 rw[e,e,h,g]
theorem put_ne{Z:List RC}{c:Addr}{x:R6}{H:Hp}{d:Addr}{o:Obj}(h:KnZ H d o Z)(hc:c∈adZ Z):d≠c:=λe=>by
 obtain⟨z,hz,rfl⟩:=List.mem_map.mp hc;have:=h.cel z hz;rw[<-e,h.dict] at this;cases this
theorem KnZ.put{H:Hp}{d:Addr}{o:Obj}{Z:List RC}(h:KnZ H d o Z){z:RC}(hz:z∈Z){x:R6}(hx:x.1=z.1.1):KnZ (upd H z.2 (.lst (Dh x))) d o (putZ Z z.2 x):=by
 have ht:=tie_put h.nd hz hx;refine⟨?_,λy hy=> ?_,?_,?_,?_⟩
 ·rw[kvZ_zip ht (adZ_put ..),Aj (put_ne (x:=x) h (List.mem_map.mpr ⟨z,hz,rfl⟩))];exact h.dict
 ·unfold putZ at hy;obtain⟨w,hw,rfl⟩:=List.mem_map.mp hy;by_cases e:w.2=z.2
  ·rw[if_pos e];show upd _ _ _ w.2=_;rw[e];exact Ab
  ·rw[if_neg e,Aj e];exact h.cel w hw
 ·unfold putZ;rw[List.length_map];exact h.few
 ·rw[up_nm,nmZ_tie ht,<-up_nm];exact h.up
 ·rw[adZ_put];exact h.nd
def B8(ns:List Str)(x:R6):R6:=if x.1.1∈ns then (x.1,x.2.1+1,x.2.2) else x
def Bh(ns:List Str)(Z:List RC):List RC:=Z.map λz=>(B8 ns z.1,z.2)
theorem rise_tie(ns:List Str)(x:R6):(B8 ns x).1=x.1:=by unfold B8;split<;> rfl
theorem riseZ_ad(ns:List Str)(Z:List RC):adZ (Bh ns Z)=adZ Z:=by unfold adZ Bh;rw[List.map_map];rfl
theorem riseZ_tie(ns:List Str)(Z:List RC):(Bh ns Z).map (·.1.1)=Z.map (·.1.1):=by
 unfold Bh;rw[List.map_map];exact List.map_congr_left λz _=>rise_tie ns z.1
theorem riseZ_rw(ns:List Str)(Z:List RC):rwZ (Bh ns Z)=(rwZ Z).map (B8 ns):=by unfold rwZ Bh;rw[List.map_map,List.map_map];rfl
theorem riseZ_nil(Z:List RC):Bh [] Z=Z:=by
 unfold Bh B8
 conv=>rhs;rw[<-List.map_id Z]
 exact List.map_congr_left λz _=>by simp
theorem rise_snoc{Z:List RC}(nd:(adZ Z).Nodup)(nn:(nmZ Z).Nodup){ns:List Str}{z:RC}(hz:z∈Z)(hn:z.1.1.1 ∉ ns):putZ (Bh ns Z) z.2 (z.1.1,z.1.2.1+1,z.1.2.2)=Bh (ns++[z.1.1.1]) Z:=by
 unfold putZ Bh;rw[List.map_map];refine List.map_congr_left λy hy=> ?_;show (if y.2=z.2 then (((z.1.1,z.1.2.1+1,z.1.2.2):R6),y.2) else (B8 ns y.1,y.2))=(B8 (ns++[z.1.1.1]) y.1,y.2);by_cases e:y.2=z.2
 ·rw[if_pos e];have:=one_cell nd hy hz e;subst this;unfold B8;rw[if_pos (List.mem_append_right _ (List.mem_singleton.mpr rfl))]
 ·rw[if_neg e];have ne:y.1.1.1≠z.1.1.1:=λh=>e (by
   have a1:=kvZ_val nn hy;rw[h,kvZ_val nn hz] at a1;injection a1 with a1;injection a1 with a1;exact a1.symm)
  unfold B8;by_cases g:y.1.1.1∈ns
  ·rw[if_pos g,if_pos (List.mem_append_left _ g)]
  ·rw[if_neg g,if_neg (λh=>by
    rcases List.mem_append.mp h with h|h
    ·exact g h
    ·exact ne (List.mem_singleton.mp h))]
def BtZ(Z:List RC)(H H':Hp):Prop:=∀b o,H b=some o->b ∉ adZ Z->H' b=some o
def spRise:Sp:=λvs H Q _=>∃(d nl:Addr) (o:Obj) (Z:List RC) (ns:List Str),vs=[.ref d,.ref nl]/\KnZ H d o Z/\H nl=some (.lst (ns.map V.str))/\ns.Nodup/\(∀n∈ns,n∈nmZ Z)/\∀(H':Hp),BtZ Z H H'->KnZ H' d o (Bh ns Z)->Q .non H'
section
variable{P:Program}{w:World}{K:PySem.W.Frag}{mg:Str->Option Value}{base:Heap}
theorem scRise:Av ["_law_known_here","_law_names_here","_law_name"] ["_law_known_here","_law_names_here"] (Ag sRise):=⟨rfl,rfl,rfl,by decide+kernel,rfl,by decide+kernel,by decide+kernel⟩
theorem ok_Rise{f:Addr}{fd:FuncData}(F:Fun K "_law_rise" "_law_rise" sRise f fd)(T:Txt mg):
  FnOk P w K mg base CX0 1 f fd ["_law_known_here","_law_names_here"] spRise:=by
 refine F.ok scRise (λvs H Q E h=> ?_) (λcdv A outer s H vs Q E hr h=> ?_)
 ·obtain⟨_,_,_,_,_,rfl,_⟩:=h;rfl
 ·obtain⟨d,nl,o,Z,ns,rfl,hZ,hl,nd,hin,k⟩:=h;refine⟨_,Ai (Dx PassesOwn.never rfl (Ce (pv 1)) (Ah (i:=2) scRise.nd rfl (Or.inl rfl)) (Ai (Cz (Az Bm (A1 A0 (Cn (hu_of hr) (pv 0) (pv 2) (λ_ _=>rfl)) Af (λ_ _=>rfl)) Af) (pg_sub (Cn (hu_of hr) (pv 0) (pv 2) (λ_ _=>rfl)) (Af) set_list)))),?_⟩;have nlZ:nl ∉ adZ Z:=λh=>by
   obtain⟨z,hz,e⟩:=List.mem_map.mp h;have:=hZ.cel z hz;have e:z.2=nl:=e;rw[e,hl] at this;injection this with this;injection this with this;unfold Dh at this;cases ns with
   |nil=>cases this
   |cons n ns=>rw[List.map_cons] at this;injection this with this;cases this
  refine⟨_,rfl,nl,rfl,⟨_,SqL.of hl⟩,for_list (K:=K) (a:=nl) (xs:=ns.map V.str) (λj σ H2=>∃(u:Option V),σ=[some (.ref d),some (.ref nl),u]/\BtZ Z H H2/\KnZ H2 d o (Bh (ns.take j) Z)) ⟨none,rfl,λb o h _=>h,by rw[List.take_zero,riseZ_nil];exact hZ⟩ (λj σ H2 _ ⟨_,_,b,_⟩=>SqL.of (b _ _ hl nlZ)) ?_ ?_⟩
  ·rintro j x σ H2 hx ⟨u,rfl,b2,h2⟩;obtain⟨n,en,rfl⟩:=Ax hx;obtain⟨z,hz,rfl⟩:=List.mem_map.mp (hin n (List.mem_of_getElem? en));have hn:z.1.1.1 ∉ ns.take j:=λh=>by
    have hj:=(List.getElem?_eq_some_iff.mp en).1;rw[<-List.take_append_drop j ns,List.nodup_append] at nd;refine nd.2.2 _ h _ ?_ rfl;rw[List.mem_iff_getElem?];exact⟨0,by rw[List.getElem?_drop];exact en⟩
   have rz:(B8 (ns.take j) z.1,z.2)=z:=by unfold B8;rw[if_neg hn]
   have hz2:z∈Bh (ns.take j) Z:=List.mem_map.mpr ⟨z,hz,rz⟩;have c2:=h2.cel z hz2;refine⟨_,rfl,_,rfl,d,_,rfl,h2.get hz2,z.2,_,3,_,rfl,rfl,SqL.of c2,Ap (j:=3) rfl,_,_,rfl,rfl,?_⟩;refine⟨_,rfl,_,rfl,d,_,rfl,h2.get hz2,z.2,_,3,3,rfl,rfl,c2,rfl,?_⟩;refine⟨_,rfl,λb w e nb=> ?_,?_⟩
   ·rw[Aj (λy=>nb (by rw[y];exact List.mem_map.mpr ⟨z,hz,rfl⟩))];exact b2 b w e nb
   ·have:=h2.put hz2 (x:=(z.1.1,z.1.2.1+1,z.1.2.2)) rfl;rw[rise_snoc hZ.nd hZ.nms hz hn] at this;rw[A4 en];exact this
  rintro σ H2 ⟨u,rfl,b2,h2⟩;rw[List.length_map,List.take_length] at h2;exact k H2 b2 h2
end
end K39
namespace K39
open PySem L2 Wk
theorem seq_nat{v:Int}{n:Nat}(h0:0<=v)(h1:v<(n:Int)):PySem.seqIndex? v n=some v.toNat:=by
 unfold PySem.seqIndex?;dsimp only;rw[if_neg (show ¬v<0 by omega)];simp[h0,h1]
theorem erase_map{α β:Type}(f:α->β):∀(l:List α) (i:Nat),(l.map f).eraseIdx i=(l.eraseIdx i).map f
 |[],_=>rfl
 |_::_,0=>rfl
 |x::l,i+1=>by
  show f x::(l.map f).eraseIdx i=f x::(l.eraseIdx i).map f;rw[erase_map f l i]
def spSome:Sp:=λvs H Q _=>∃(d c ln:Addr) (most:Nat) (zs:List Str),vs=[.ref d,.ref ln,.int (most:Int)]/\DeckAt H d c/\H ln=some (.lst (zs.map V.str))/\ln≠d/\ln≠c/\zs.length<=60/\most<=60/\∀(l:Addr) (ms:List Str) (H':Hp),But d c H H'->DeckAt H' d c->H' l=some (.lst (ms.map V.str))->l≠d->l≠c->ms.length<=60->(∀m∈ms,m∈zs)->Q (.ref l) H'
theorem DeckAt.one{H:Hp}{d c:Addr}(D:DeckAt H d c):H d≠none/\H c≠none:=by
 obtain⟨_,_,_,_,h1,h2,_⟩:=D;exact⟨(by rw[h1];intro z;cases z),(by rw[h2];intro z;cases z)⟩
theorem Bz{H:Hp}{d c x:Addr}(D:DeckAt H d c)(h:H x=none):x≠d/\x≠c:=⟨λe=>D.one.1 (e▸h),λe=>D.one.2 (e▸h)⟩
theorem But.of_same{d c:Addr}{H H':Hp}(s:Same H H'):But d c H H':=λb o e _ _=>s b o e
theorem deck_same{H H':Hp}{d c:Addr}(D:DeckAt H d c)(hd:H' d=H d)(hc:H' c=H c):DeckAt H' d c:=by
 obtain⟨cs,S,k,g,h1,h2,l,n⟩:=D;exact⟨cs,S,k,g,hd▸h1,hc▸h2,l,n⟩
section
variable{P:Program}{w:World}{K:PySem.W.Frag}{mg:Str->Option Value}{base:Heap}
theorem scSome:Av ["_law_deck_here","_law_names_here","_law_most","_law_left"] ["_law_deck_here","_law_names_here","_law_most"] (Ag sSome):=⟨rfl,rfl,rfl,by decide+kernel,rfl,by decide+kernel,by decide+kernel⟩
theorem ok_Some{f:Addr}{fd:FuncData}(F:Fun K "_law_some" "_law_some" sSome f fd)(T:Txt mg)(GTake:Cl P w K mg base 2 "_law_take" ["_law_deck_here","_law_most"] spTake):
  FnOk P w K mg base CX0 3 f fd ["_law_deck_here","_law_names_here","_law_most"] spSome:=by
 refine F.ok scSome (λvs H Q E h=> ?_) (λcdv A outer s H vs Q E hr h=> ?_)
 ·obtain⟨_,_,_,_,_,rfl,_⟩:=h;rfl
 ·obtain⟨d,c,ln,most,zs,rfl,hD,hln,nd,nc,z60,m60,k⟩:=h;refine⟨_,Ae (Aw (i:=3) scSome.nd rfl (Or.inr rfl) (A3 call_list_of (by rfl) T.list (by decide+kernel) (Aa (pv 1) Ac)))
   (Ai (Ao (A5 (T:=["_law_k"]) (F:=["_law_left","_law_deck_here"]) (js:=[3,0]) (cs (osc:=Ag sSome)) rfl (Bt rfl T.range (Aa (Am (call_min2 rfl) (by rfl) T.min (by decide+kernel) (Aa (pv 2) (Aa (Am As (by rfl) T.len PySem.boot_len (Aa (pv 1) Ac)) Ac))) Ac)) (λ_ _ _ _ _=>Ah (i:=0) (show (["_law_k","_law_left","_law_deck_here"]:List Str).Nodup by decide+kernel) rfl (Or.inl rfl)) (λ_ _ _ _ _=>A8) (λ_ _ _ _ _=>pe_bmK (K:=K) rfl PySem.F.plainAttrs_list PySem.F.slot_list_pop PySem.F.type_list_pop mt_popAt (pv 1) (Aa (At GTake hr (Aa (pv 2) (Aa (Am (r:=rLenX K) As (by rfl) T.len PySem.boot_len (Aa (pv 1) Ac)) Ac))) Ac))))),?_⟩
  refine⟨_,rfl,ln,_,rfl,.inl (SqL.of hln),λll hll=> ?_⟩;have s1:=Ad (o:= .lst (zs.map V.str)) hll;have e1:upd H ll (.lst (zs.map V.str)) ll=some (.lst (zs.map V.str)):=Ab;have D1:=hD.same s1;have fl:=Bz hD hll;generalize upd H ll (.lst (zs.map V.str))=H1 at s1 e1 D1 ⊢;obtain⟨M,hM,Mz,M6⟩:∃M:Nat,(if ((zs.map V.str).length:Int)<(most:Int) then ((zs.map V.str).length:Int) else (most:Int))=(M:Int)/\M<=zs.length/\M<=60:=by
   rw[List.length_map];split
   ·exact⟨zs.length,rfl,Nat.le_refl _,z60⟩
   ·exact⟨most,rfl,by omega,m60⟩
  refine⟨_,rfl,_,rfl,ln,_,rfl,.inl (SqL.of (s1 _ _ hln)),_,_,rfl,?_⟩;rw[hM];refine⟨(M:Int),rfl,by omega,by omega,λD hD0=>Bn (lo:=0) (n:=(M:Int).toNat) (λj σ ys H2=>∃(u:Option V) (ms ls:List Str),σ=[u,some (.ref ll),some (.ref d)]/\ys=ms.map V.str/\But d c H H2/\DeckAt H2 d c/\H2 D=some (.lst ys)/\H2 ll=some (.lst (ls.map V.str))/\ls.length+j=zs.length/\ms.length=j/\(∀m∈ms,m∈zs)/\∀m∈ls,m∈zs) ⟨none,[],zs,rfl,rfl,But.of_same (s1.trans (Ad hD0)),D1.same (Ad hD0),Ab,Ad hD0 _ _ e1,by omega,rfl,(λm h=>by cases h),λm h=>h⟩ (λj σ ys H2 _ ⟨_,_,_,_,_,_,_,e,_⟩=>e) ?_ ?_⟩
  ·rintro j σ ys H2 hj ⟨u,ms,ls,rfl,rfl,b2,D2,d2,l2,lj,mj,hm,hl⟩;have hj:j<M:=by omega
   have fD:=Bz D1 hD0;have Dl:D≠ll:=λe=>by rw[e,e1] at hD0;cases hD0
   refine⟨_,rfl,.inl ⟨rfl,_,SqL.of l2⟩,_,rfl,_,rfl,ll,_,rfl,.inl (SqL.of l2),d,c,_,rfl,D2,by rw[List.length_map];omega,by rw[List.length_map];omega,λv H3 v0 v1 b3 D3=> ?_⟩;rw[List.length_map] at v1;have l3:=b3 _ _ l2 fl.1 fl.2;have d3:=b3 _ _ d2 fD.1 fD.2;have hv:v.toNat<ls.length:=by omega
   have gv:(ls.map V.str)[v.toNat]? =some (.str ls[v.toNat]):=by rw[List.getElem?_map,List.getElem?_eq_getElem hv];rfl
   refine⟨ll,ls.map V.str,v,v.toNat,.str ls[v.toNat],rfl,rfl,l3,by omega,by omega,seq_nat v0 (by rw[List.length_map];exact v1),gv,?_⟩;have em:(ls.map V.str).eraseIdx v.toNat=(ls.eraseIdx v.toNat).map V.str:=erase_map _ _ _;rw[em];have b4:But d c H (upd H3 ll (.lst ((ls.eraseIdx v.toNat).map V.str))):=λb o e n1 n2=>by
    rw[Aj (An e hll)];exact b3 b o (b2 b o e n1 n2) n1 n2
   have D4:DeckAt (upd H3 ll (.lst ((ls.eraseIdx v.toNat).map V.str))) d c:=deck_same D3 (Aj (Ne.symm fl.1)) (Aj (Ne.symm fl.2));have d4:upd H3 ll (.lst ((ls.eraseIdx v.toNat).map V.str)) D=some (.lst (ms.map V.str)):=by rw[Aj Dl];exact d3
   have l4:upd H3 ll (.lst ((ls.eraseIdx v.toNat).map V.str)) ll=some (.lst ((ls.eraseIdx v.toNat).map V.str)):=Ab;generalize upd H3 ll (.lst ((ls.eraseIdx v.toNat).map V.str))=H4 at b4 D4 d4 l4 ⊢;refine⟨d4,Ak (by rw[List.length_map];omega),_,ms++[ls[v.toNat]],ls.eraseIdx v.toNat,rfl,by rw[List.map_append];rfl,λb o e n1 n2=> ?_,deck_same D4 (Aj (Ne.symm fD.1)) (Aj (Ne.symm fD.2)),Ab,by rw[Aj (Ne.symm Dl)];exact l4,?_,by rw[List.length_append,mj];rfl,λm h=> ?_,λm h=>hl m (List.mem_of_mem_eraseIdx h)⟩
   ·have bD:b≠D:=λz=>by
     have:=s1 _ _ e;rw[z,hD0] at this;cases this
    rw[Aj bD];exact b4 b o e n1 n2
   ·rw[List.length_eraseIdx_of_lt hv];omega
   ·rcases List.mem_append.mp h with h|h
    ·exact hm m h
    ·rw[List.mem_singleton.mp h];exact hl _ (List.getElem_mem hv)
  rintro σ ys H2 ⟨u,ms,ls,rfl,rfl,b2,D2,d2,l2,lj,mj,hm,hl⟩;have fD:=Bz D1 hD0;exact k D ms H2 b2 D2 d2 fD.1 fD.2 (by omega) hm
end
end K39
namespace StT
open PySem PySem.W PyProof.Rows L2 Srt
end StT
namespace L2
open PySem PySem.W PyProof.Rows StT Srt
end L2
namespace L2
open PySem PySem.W PySem.Spec PyProof.Rows StT Srt
end L2
namespace K39
open PySem L2 Wk
theorem mem_of{R:List R6}(nd:(R.map (·.1.1)).Nodup){x:R6}(hx:x∈R)(L:Nat)(ps:List Nat)(b:Bool)(e:Nat):x.1.1∈ofF R L ps b e↔x.2.1=L/\x.2.2=b/\cntF ps x=e:=by
 unfold ofF;constructor
 ·intro h;obtain⟨y,hy,ey⟩:=List.mem_map.mp h;obtain⟨y1,y2⟩:=List.mem_filter.mp hy;have:y=x:=by
   obtain⟨i,hi,rfl⟩:=List.getElem_of_mem y1;obtain⟨j,hj,rfl⟩:=List.getElem_of_mem hx;have:i=j:=by
    refine(List.getElem_inj (h₀:=by rw[List.length_map];exact hi) (h₁:=by rw[List.length_map];exact hj) nd).mp ?_;rw[List.getElem_map,List.getElem_map];exact ey
   subst this;rfl
  subst this;simpa using y2
 ·rintro⟨a1,a2,a3⟩;exact List.mem_map.mpr ⟨x,List.mem_filter.mpr ⟨hx,by rw[decide_eq_true a1,decide_eq_true a2,decide_eq_true a3];rfl⟩,rfl⟩
theorem cnt2(ps:List Nat)(x:R6):cntF ps x=2↔x.1.2.1∈ps/\x.1.2.2.1∈ps:=by
 unfold cntF;rw[List.filter_cons,List.filter_cons,List.filter_nil];by_cases a:x.1.2.1∈ps<;> by_cases b:x.1.2.2.1∈ps<;> simp[a,b]
theorem rise_none{R:List R6}(nd:(R.map (·.1.1)).Nodup)(L:Nat)(ps:List Nat)(ks:List Str){x:R6}(hx:x∈R):B8 (ofF R L ps true 2++ks) x=(if (x.2.2=true/\x.2.1=L/\x.1.2.1∈ps/\x.1.2.2.1∈ps)\/x.1.1∈ks then (x.1,x.2.1+1,x.2.2) else x):=by
 unfold B8;have e:x.1.1∈ofF R L ps true 2++ks↔(x.2.2=true/\x.2.1=L/\x.1.2.1∈ps/\x.1.2.2.1∈ps)\/x.1.1∈ks:=by
  rw[List.mem_append,mem_of nd hx,cnt2];constructor
  ·rintro(⟨a,b,c⟩|h)
   ·exact .inl ⟨b,a,c⟩
   ·exact .inr h
  ·rintro(⟨b,a,c⟩|h)
   ·exact .inl ⟨a,b,c⟩
   ·exact .inr h
 by_cases g:x.1.1∈ofF R L ps true 2++ks
 ·rw[if_pos g,if_pos (e.mp g)]
 ·rw[if_neg g,if_neg λz=>g (e.mpr z)]
theorem step_none{R:List R6}(nd:(R.map (·.1.1)).Nodup)(L:Nat)(ps:List Nat)(ks:List Str):R.map (B8 (ofF R L ps true 2++ks))=Du R (L,ps,ks,none):=by
 unfold Du;refine List.map_congr_left λx hx=> ?_;rw[rise_none nd L ps ks hx];have ne:¬((L,ps,ks,(none:Option Str)).2.2.2=some x.1.1):=by intro z;cases z
 unfold A9;rw[if_neg ne]
theorem loose_mem{R:List R6}(nd:(R.map (·.1.1)).Nodup){L:Nat}{ps:List Nat}{e:Nat}{n:Str}(h:n∈Bs R L ps e):∃x∈R,x.1.1=n/\x.2.1=L/\x.2.2=false/\cntF ps x=e:=by
 rw[<-of_loose] at h;have h':=h;unfold ofF at h';obtain⟨x,hx,rfl⟩:=List.mem_map.mp h';have xR:=(List.mem_filter.mp hx).1;exact⟨x,xR,rfl,(mem_of nd xR L ps false e).mp h⟩
theorem step_some{Z:List RC}(na:(adZ Z).Nodup)(nn:(nmZ Z).Nodup)(L:Nat)(ps:List Nat)(ks:List Str){z:RC}(hz:z∈Z)(hf:z.1.1.1∈Bs (rwZ Z) L ps 1)(hk:∀n∈ks,n∈Bs (rwZ Z) L ps 2):
  rwZ (putZ (Bh (ofF (rwZ Z) L ps true 2++ks) Z) z.2 (z.1.1,z.1.2.1,true))=Du (rwZ Z) (L,ps,ks,some z.1.1.1):=by
 have nd:((rwZ Z).map (·.1.1)).Nodup:=by rw[<-nmZ_rw];exact nn
 unfold putZ Bh rwZ Du;rw[List.map_map,List.map_map,List.map_map];refine List.map_congr_left λy hy=> ?_;have yR:y.1∈rwZ Z:=List.mem_map.mpr ⟨y,hy,rfl⟩;show (if y.2=z.2 then (((z.1.1,z.1.2.1,true):R6),y.2) else (B8 (ofF (rwZ Z) L ps true 2++ks) y.1,y.2)).1=A9 L ps ks (some z.1.1.1) y.1;by_cases e:y.2=z.2
 ·rw[if_pos e];have:=one_cell na hy hz e;subst this;unfold A9;rw[if_pos rfl]
 ·rw[if_neg e];have ne:y.1.1.1≠z.1.1.1:=λh=>e (by
   have a1:=kvZ_val nn hy;rw[h,kvZ_val nn hz] at a1;injection a1 with a1;injection a1 with a1;exact a1.symm)
  show B8 _ y.1=_;rw[rise_none nd L ps ks yR];unfold A9;rw[if_neg (λh=>ne (Option.some.inj h).symm)]
theorem of_in{R:List R6}{L:Nat}{ps:List Nat}{b:Bool}{e:Nat}{n:Str}(h:n∈ofF R L ps b e):n∈R.map (·.1.1):=by
 unfold ofF at h;obtain⟨x,hx,rfl⟩:=List.mem_map.mp h;exact List.mem_map.mpr ⟨x,(List.mem_filter.mp hx).1,rfl⟩
theorem inV_strs(n:Str)(ns:List Str):inV (.str n) (ns.map V.str)=decide (n∈ns):=by
 unfold inV;rw[List.any_map,Bool.eq_iff_iff,decide_eq_true_eq,List.any_eq_true];constructor
 ·rintro⟨q,hq,e⟩;have e:eqV (.str q) (.str n)=true:=e;have:q=n:=by simpa[eqV] using e
  rw[<-this];exact hq
 ·intro h;exact⟨n,h,by show eqV (.str n) (.str n)=true;simp[eqV]⟩
end K39
namespace L2
open PySem
theorem vals_refsD:∀{as:List Addr} {us:List Value},Vals (as.map V.ref) us->us=as.map Value.ref
 |[],_,h=>by cases h;rfl
 |a::as,_,h=>by
  cases h with
  |cons r t=>cases r;rw[vals_refsD t];rfl
def refB(e:Addr->Bool):Value->Bool
 | .ref a=>e a
 |_=>false
theorem any_refB(e:Addr->Bool)(as:List Addr):(as.map Value.ref).any (refB e)=as.any e:=by
 rw[List.any_map];rfl
end L2
namespace L2
open PySem
inductive RNotInLP(K:PySem.W.Frag)(x:V)(y:V)(H:Hp)(Q:VK):Prop
 |mk (p:Addr) (as:List Addr) (e:Addr->Bool) (n:Nat):(y= .ref p)->(SqL K H p (as.map V.ref))->(n<=30)->(∀a∈as,Eqs K H n (.ref a) x (e a))->(Q (.bl (!as.any e)) H)->RNotInLP K x y H Q
def rNotInL(K:PySem.W.Frag):R2:=λx y H Q=>RNotInLP K x y H Q
theorem op_notInL{X:Cx}(hu:X.A.units+64<cLine):OpR X (compareOp .NotIn) (rNotInL X.K):=by
 intro pins s σ H x y v u Q I rx ry h;obtain⟨p,as,e,n,rfl,hq,hn,he,q⟩:=h;cases ry;obtain⟨its,r,pl,hz⟩:=I.list hq;have hi:=vals_refsD r;subst hi;refine SeqAt.notIn_listAt (refB e) pl.isList (λw hw=> ?_) ⟨.bl _,H,I,rfl,?_⟩
 ·have hw:w∈as.map Value.ref:=by simpa using hw
  obtain⟨a,ha,rfl⟩:=List.mem_map.mp hw;refine eqs_at I n (A:=X.A.in1) ?_ (he a ha) rfl rx;have e1:X.A.in1.units<=X.A.units+1:=Nat.le_refl _;omega
 ·rw[show (as.map Value.ref).toArray.any (refB e)=(as.map Value.ref).any (refB e) by simp,any_refB];exact q
end L2
namespace K39
open PySem L2 Wk
def Asc(ps:List Nat):Prop:=ps.Pairwise (·<·)
theorem part_asc(N:Nat)(S:List T4)(p:Nat):Asc (Ar N S p):=by
 unfold Asc Ar;exact List.Pairwise.sublist List.filter_sublist List.pairwise_lt_range
def spPlaces:Sp:=λvs H Q _=>∃(N:Nat) (pl:Addr) (ps:List Nat),vs=[.int (N:Int),.ref pl]/\H pl=some (.tup (psV ps))/\Asc ps/\(∀p∈ps,p<N)/\ps.length<=60/\∀(H':Hp),Same H H'->Q (.bl true) H'
theorem all_true(n:Nat):(List.replicate n true).all id=true:=by
 rw[List.all_eq_true];intro b hb;rw[List.eq_of_mem_replicate hb];rfl
theorem cut1(ps:List Nat):Dy (psV ps) (some 1) none=psV (ps.drop 1):=by
 rw[show (some (1:Int))=some ((1:Nat):Int) from rfl];rw[cutV_drop];unfold psV;rw[List.map_drop]
def spLooked:Sp:=λvs H Q _=>∃(wl kl:Addr) (W ks:List Str),vs=[.ref wl,.ref kl]/\H wl=some (.lst (W.map V.str))/\H kl=some (.tup (ks.map V.str))/\W.length<=60/\W.Pairwise (λx y=>x.cps.toList<y.cps.toList)/\ks.Nodup/\(∀n∈ks,n∈W)/\ks.length<=60/\∀(H':Hp),Same H H'->Q (.bl true) H'
theorem asc_nd{W:List Str}(h:W.Pairwise λx y=>x.cps.toList<y.cps.toList):W.Nodup:=by
 rw[List.nodup_iff_pairwise_ne];exact h.imp λ{x y} l e=>by rw[e] at l;exact List.lt_irrefl _ l
section
variable{P:Program}{w:World}{K:PySem.W.Frag}{mg:Str->Option Value}{base:Heap}
theorem scPlaces:Av ["many","thing"] ["many","thing"] (Ag sPlaces):=⟨rfl,rfl,rfl,by decide+kernel,rfl,by decide+kernel,by decide+kernel⟩
theorem ok_Places{f:Addr}{fd:FuncData}(F:Fun K "is_places" "is_places" sPlaces f fd)(T:Txt mg)(GPlace:Cl P w K mg base 3 "is_place" ["many","thing"] spPlace):
  FnOk P w K mg base CX0 4 f fd ["many","thing"] spPlaces:=by
 refine F.ok scPlaces (λvs H Q E h=> ?_) (λcdv A outer s H vs Q E hr h=> ?_)
 ·obtain⟨_,_,_,rfl,_⟩:=h;rfl
 ·obtain⟨N,pl,ps,rfl,hp,hasc,hlt,l60,k⟩:=h;refine⟨_,Ae (Bi (PW.pt (pw_or (Bu (Bd (Am Cp (by rfl) T.isinstance (by decide+kernel) (Aa (pv 1) (Aa (pe_ty (T:="tuple") (by rfl) T.tuple (by decide+kernel)) Ac))))) (Ds (Bu (Bd (Am (call_all rfl) (by rfl) T.all (by decide+kernel) (Aa (A5 (T:=["place"]) (F:=["many"]) (js:=[0]) (cs (osc:=Ag sPlaces)) rfl (Dm (pv 1)) (λ_ _ _ _ _=>Ah (i:=0) (show (["place","many"]:List Str).Nodup by decide+kernel) rfl (Or.inl rfl)) (λ_ _ _ _ _=>A8) (λ_ _ _ _ _=>At GPlace hr (Aa (pv 1) (Aa (pv 0) Ac)))) Ac))))))) (Ai (Ao Ch)) A2)
   (Ai (Ao (Am (call_all rfl) (by rfl) T.all (by decide+kernel) (Aa (A5 (T:=["ahead","place"]) (F:=[]) (js:=[]) (cs (osc:=Ag sPlaces)) rfl (pi_zip rfl T.zip (Aa (pv 1) (Aa (Cf sl_tupA (pv 1) (Bv Af) Dq) Ac))) (λ_ _ _ _ _=>pg_tupK K 2 rfl rfl (Al (Ah (i:=0) (show (["ahead","place"]:List Str).Nodup by decide+kernel) rfl (Or.inl rfl)) (Al (Ah (i:=1) (show (["ahead","place"]:List Str).Nodup by decide+kernel) rfl (Or.inl rfl)) Bf))) (λ_ _ _ _ _=>A8) (λ_ _ _ _ _=>Bo op_lt (pv 0) (pv 1) (Ay _))) Ac)))),?_⟩
  have lp:(psV ps).length=ps.length:=by unfold psV;rw[List.length_map]
  refine⟨_,rfl,.ref pl,.type "tuple","tuple",true,rfl,.tup hp,rfl,_,rfl,Ct ?_⟩;refine⟨_,rfl,pl,rfl,⟨_,SqT.of hp⟩,λD hD=>Cd (K:=K) (a:=pl) (xs:=psV ps) (λi σ zs H2=>∃(u:Option V),σ=[u,some (.int (N:Int))]/\zs=(List.replicate i true).map V.bl/\Same H H2/\H2 D=some (.lst zs)) ⟨none,rfl,rfl,Ad hD,Ab⟩ (λi σ zs H2 _ ⟨_,_,_,s,e⟩=>⟨SqT.of (s _ _ hp),e⟩) ?_ ?_⟩
  ·rintro i v σ zs H2 hv ⟨u,rfl,rfl,s2,d2⟩;obtain⟨p,hpi,rfl⟩:∃p:Nat,ps[i]? =some p/\v= .int (p:Int):=by
    unfold psV at hv;obtain⟨p,e,rfl⟩:=Ax hv;exact⟨p,e,rfl⟩
   have hi:i<ps.length:=(List.getElem?_eq_some_iff.mp hpi).1;have pN:=hlt p (List.mem_of_getElem? hpi);refine⟨_,rfl,_,rfl,(N:Int),(p:Int),rfl,by omega,by omega,d2,Ak (by rw[List.length_map,List.length_replicate];omega),_,rfl,by rw[List.replicate_succ',List.map_append];rfl,Aq s2 hD,Ab⟩
  rintro σ zs H2 ⟨u,rfl,rfl,s2,d2⟩;refine⟨D,_,rfl,SqL.of d2,_,rfl,?_⟩;rw[all_true];refine Ct ?_;dsimp only[Br];refine⟨_,rfl,_,rfl,_,rfl,cut_any (s2 _ _ hp) λr2 H3 s3 e3=> ?_⟩;rw[cut1] at e3;have s23:=s2.trans s3;have hp3:=s23 _ _ hp;refine⟨pl,r2,psV ps,psV (ps.drop 1),rfl,SqT.of hp3,SqT.of e3,λD3 hD3=>comp_zip (K:=K) (a:=pl) (b:=r2) (xs:=psV ps) (ys:=psV (ps.drop 1)) (λi σ zs H4=>∃(u v:Option V),σ=[u,v]/\zs=(List.replicate i true).map V.bl/\Same H3 H4/\H4 D3=some (.lst zs)) ⟨none,none,rfl,rfl,Ad hD3,Ab⟩ (λi σ zs H4 _ _ ⟨_,_,_,_,s,e⟩=>⟨SqT.of (s _ _ hp3),SqT.of (s _ _ e3),e⟩) ?_ ?_⟩
  ·rintro i x y σ zs H4 t hx hy ⟨u,v,rfl,rfl,s4,d4⟩ ht;obtain⟨p,hpi,rfl⟩:∃p:Nat,ps[i]? =some p/\x= .int (p:Int):=by
    unfold psV at hx;obtain⟨p,e,rfl⟩:=Ax hx;exact⟨p,e,rfl⟩
   obtain⟨q,hqi,rfl⟩:∃q:Nat,ps[i+1]? =some q/\y= .int (q:Int):=by
    unfold psV at hy;obtain⟨q,e,rfl⟩:=Ax hy;rw[List.getElem?_drop,Nat.add_comm] at e;exact⟨q,e,rfl⟩
   have hi:i<ps.length:=(List.getElem?_eq_some_iff.mp hpi).1;have lt:p<q:=by
    obtain⟨h1,e1⟩:=List.getElem?_eq_some_iff.mp hpi;obtain⟨h2,e2⟩:=List.getElem?_eq_some_iff.mp hqi;rw[<-e1,<-e2];exact List.pairwise_iff_getElem.mp hasc i (i+1) h1 h2 (by omega)
   have s5:=s4.trans (Ad (o:= .tup [.int (p:Int),.int (q:Int)]) ht);have d5:=Ad (o:= .tup [.int (p:Int),.int (q:Int)]) ht _ _ d4;refine⟨t,_,rfl,SqT.of Ab,rfl,_,_,rfl,_,_,rfl,rfl,_,rfl,_,rfl,_,_,rfl,rfl,?_⟩;rw[decide_eq_true (show (p:Int)<(q:Int) by omega)];exact⟨d5,Ak (by rw[List.length_map,List.length_replicate];omega),_,_,rfl,by rw[List.replicate_succ',List.map_append];rfl,Aq s5 hD3,Ab⟩
  rintro i σ zs H4 _ ⟨u,v,rfl,rfl,s4,d4⟩;refine⟨D3,_,rfl,SqL.of d4,?_⟩;rw[all_true];exact k _ (s23.trans s4)
theorem scLooked:Av ["within","thing"] ["within","thing"] (Ag sLooked):=⟨rfl,rfl,rfl,by decide+kernel,rfl,by decide+kernel,by decide+kernel⟩
theorem ok_Looked{f:Addr}{fd:FuncData}(F:Fun K "are_looked" "are_looked" sLooked f fd)(T:Txt mg):
  FnOk P w K mg base CX0 1 f fd ["within","thing"] spLooked:=by
 refine F.ok scLooked (λvs H Q E h=> ?_) (λcdv A outer s H vs Q E hr h=> ?_)
 ·obtain⟨_,_,_,_,rfl,_⟩:=h;rfl
 ·obtain⟨wl,kl,W,ks,rfl,hw,hk,w60,wasc,kn,kin,k60,k⟩:=h;refine⟨_,Ae (Bi (PW.pt (pw_or (Bu (Bd (Am Cp (by rfl) T.isinstance (by decide+kernel) (Aa (pv 1) (Aa (pe_ty (T:="tuple") (by rfl) T.tuple (by decide+kernel)) Ac))))) (Ds (Bu (Bd (Am (call_all rfl) (by rfl) T.all (by decide+kernel) (Aa (A5 (T:=["name"]) (F:=["within"]) (js:=[0]) (cs (osc:=Ag sLooked)) rfl (Dm (pv 1)) (λ_ _ _ _ _=>Ah (i:=0) (show (["name","within"]:List Str).Nodup by decide+kernel) rfl (Or.inl rfl)) (λ_ _ _ _ _=>A8) (λ_ _ _ _ _=>Bo (r:=rIn K false) Dj (pv 0) (pv 1) (by rfl))) Ac))))))) (Ai (Ao Ch)) A2)
   (Ai (Ao (Bo (r:=rEqs K) (op_eqs hr.units) (Am Srt.call_sortedSt (by rfl) T.sorted (by decide+kernel) (Aa (pv 1) Ac)) (A5 (T:=["name"]) (F:=["thing"]) (js:=[1]) (cs (osc:=Ag sLooked)) rfl (Ce (pv 0)) (λ_ _ _ _ _=>Ah (i:=0) (show (["name","thing"]:List Str).Nodup by decide+kernel) rfl (Or.inl rfl)) (λ_ _ _ _ _=>Ci (Au (r:=rIn K false) Dj (pv 0) (pv 1) (by rfl))) (λ_ _ _ _ _=>pv 0)) (Ay _)))),?_⟩
  refine⟨_,rfl,.ref kl,.type "tuple","tuple",true,rfl,.tup hk,rfl,_,rfl,Ct ?_⟩;refine⟨_,rfl,kl,rfl,⟨_,SqT.of hk⟩,λD hD=>Cd (K:=K) (a:=kl) (xs:=ks.map V.str) (λi σ zs H2=>∃(u:Option V),σ=[u,some (.ref wl)]/\zs=(List.replicate i true).map V.bl/\Same H H2/\H2 D=some (.lst zs)) ⟨none,rfl,rfl,Ad hD,Ab⟩ (λi σ zs H2 _ ⟨_,_,_,s,e⟩=>⟨SqT.of (s _ _ hk),e⟩) ?_ ?_⟩
  ·rintro i v σ zs H2 hv ⟨u,rfl,rfl,s2,d2⟩;obtain⟨n,hn,rfl⟩:=Ax hv;have hi:i<ks.length:=(List.getElem?_eq_some_iff.mp hn).1;refine⟨_,rfl,_,rfl,wl,_,rfl,.inl (SqL.of (s2 _ _ hw)),rfl,strs_fl _,?_⟩;rw[if_neg (by decide),inV_strs,decide_eq_true (kin n (List.mem_of_getElem? hn))];exact⟨d2,Ak (by rw[List.length_map,List.length_replicate];omega),_,rfl,by rw[List.replicate_succ',List.map_append];rfl,Aq s2 hD,Ab⟩
  rintro σ zs H2 ⟨u,rfl,rfl,s2,d2⟩;refine⟨D,_,rfl,SqL.of d2,_,rfl,?_⟩;rw[all_true];refine Ct ?_;dsimp only[Br];refine⟨_,rfl,kl,ks,rfl,SqT.of (s2 _ _ hk),by omega,λsl ms hsl hp hwk=> ?_⟩;have s3:=s2.trans (Ad (o:= .lst (ms.map V.str)) hsl);have e3:upd H2 sl (.lst (ms.map V.str)) sl=some (.lst (ms.map V.str)):=Ab;generalize upd H2 sl (.lst (ms.map V.str))=H3 at s3 e3 ⊢;have em:ms=W.filter λn=>decide (n∈ks):=by
   refine asc_same ?_ (hwk.imp λ{x y} l=>of_decide_eq_false l) (List.Pairwise.sublist List.filter_sublist wasc);have fn:(W.filter λn=>decide (n∈ks)).Nodup:=(asc_nd wasc).sublist List.filter_sublist;refine hp.trans ((List.perm_ext_iff_of_nodup kn fn).mpr λx=> ?_);rw[List.mem_filter,decide_eq_true_eq];exact⟨λh=>⟨kin x h,h⟩,λh=>h.2⟩
  refine⟨_,rfl,wl,rfl,⟨_,SqL.of (s3 _ _ hw)⟩,λD4 hD4=>Cj (K:=K) (a:=wl) (xs:=W.map V.str) (λi σ zs H4=>∃(u:Option V),σ=[u,some (.ref kl)]/\zs=((W.take i).filter λn=>decide (n∈ks)).map V.str/\Same H3 H4/\H4 D4=some (.lst zs)) ⟨none,rfl,rfl,Ad hD4,Ab⟩ (λi σ zs H4 _ ⟨_,_,_,s,e⟩=>⟨SqL.of (s _ _ (s3 _ _ hw)),e⟩) ?_ ?_⟩
  ·rintro i v σ zs H4 hv ⟨u,rfl,rfl,s4,d4⟩;obtain⟨n,hn,rfl⟩:=Ax hv;have hi:i<W.length:=(List.getElem?_eq_some_iff.mp hn).1;have ln:(((W.take i).filter λn=>decide (n∈ks)).map V.str).length<=60:=by
    rw[List.length_map];refine Nat.le_trans (List.length_filter_le _ _) ?_;rw[List.length_take];omega
   refine⟨_,rfl,_,rfl,kl,_,rfl,.inr (SqT.of (s4 _ _ (s3 _ _ hk))),rfl,strs_fl _,_,rfl,Be (λg=> ?_) λg=> ?_⟩
   ·have g:n∈ks:=by rw[if_neg (by decide),inV_strs] at g;exact of_decide_eq_true g
    refine⟨_,rfl,d4,Ak (by omega),_,rfl,?_,Aq s4 hD4,Ab⟩;rw[A4 hn,List.filter_append,List.filter_cons_of_pos (by simpa using g),List.map_append];rfl
   ·have g:n ∉ ks:=λz=>g (by rw[if_neg (by decide),inV_strs];exact decide_eq_true z);refine⟨_,rfl,?_,s4,d4⟩;rw[A4 hn,List.filter_append,List.filter_cons_of_neg (by simpa using g),List.filter_nil,List.append_nil]
  rintro σ zs H4 ⟨u,rfl,rfl,s4,d4⟩;rw[List.length_map,List.take_length,<-em] at d4;have e4:=s4 _ _ e3;refine⟨0,true,sl,D4,rfl,rfl,by decide,?_,k _ (s3.trans s4)⟩;have:=Eqs.seq (K:=K) (H:=H4) (n:=0) (a:=sl) (c:=D4) (xs:=ms.map V.str) (ys:=ms.map V.str) (ds:=ms) (es:=ms) (.inr ⟨SqL.of e4,SqL.of d4⟩) (by rw[List.length_map]) (by rw[List.length_map]) λj p q d e hp hq hd he=>by
   rw[hd] at he;cases he;rw[List.getElem?_map,hd] at hp hq;cases hp;cases hq;have:=Eqs.flat (K:=K) (H:=H4) (n:=0) (x:= .str d) (y:= .str d) rfl
   rwa [decide_eq_true rfl] at this ⊢
  rwa [decide_eq_true rfl] at this
end
end K39
namespace K39
open PySem L2 Wk
structure DealOk(N:Nat)(x:R6)(R:List R6)(L:Nat)(r:Rd4):Prop where
 lay:r.1=L
 part:r.2.1∈Do N (tiF R (kpB L)) x
 least:∀p∈Do N (tiF R (kpB L)) x,r.2.1.length<=p.length
 kn:r.2.2.1.Nodup
 kin:∀n∈r.2.2.1,n∈Bs R L r.2.1 2
 found:∀f,r.2.2.2=some f->f∈Bs R L r.2.1 1
 none:r.2.2.2=none->Bs R L r.2.1 1=[]/\r.2.2.1.length=(Bs R L r.2.1 2).length
def PapOk(N:Nat)(x:R6):Nat->List R6->List Rd4->List R6->Prop
 |0,R,F,R'=>F=[]/\R'=R
 |L+1,R,F,R'=>∃(r:Rd4) (F':List Rd4),F=r::F'/\DealOk N x R L r/\(r.2.2.2=none->PapOk N x L (Du R r) F' R')/\(r.2.2.2≠none->F'=[]/\R'=Du R r)
theorem part_lt{N:Nat}{S:List T4}{p v:Nat}(h:v∈Ar N S p):v<N:=by
 unfold Ar at h;exact List.mem_range.mp (List.mem_filter.mp h).1
theorem loose_asc{R:List R6}(h:UpP R)(L:Nat)(ps:List Nat)(e:Nat):(Bs R L ps e).Pairwise λx y=>x.cps.toList<y.cps.toList:=by
 rw[<-of_loose];unfold ofF UpP at *;rw[List.pairwise_map];exact List.Pairwise.sublist List.filter_sublist h
theorem loo_len(R:List R6)(L:Nat)(ps:List Nat)(e:Nat):(Bs R L ps e).length<=R.length:=by
 unfold Bs looF;rw[List.length_map];exact Nat.le_trans (List.length_filter_le _ _) (List.length_filter_le _ _)
def spRound:Sp:=λvs H Q _=>∃(N:Nat) (tp tr tl:Addr) (rs:List Addr) (R:List R6) (L:Nat) (x:R6) (r:Rd4),vs=[.int (N:Int),.ref tp,.int (L:Int),.ref tr,.ref tl]/\H tp=some (.tup (rs.map V.ref))/\RowsAt H rs R/\R.length<=60/\UpP R/\PlN N R/\N<=60/\H tr=some (.tup (rowV x))/\x.1.2.1<N/\x.1.2.2.1<N/\TlAt H tl r/\DealOk N x R L r/\∀(H':Hp),Same H H'->Q (.bl true) H'
def spRowsBy:Sp:=λvs H Q _=>∃(N:Nat) (tp tr p:Addr) (rs ts:List Addr) (R R':List R6) (x:R6) (F:List Rd4),vs=[.int (N:Int),.ref tp,.ref tr,.ref p]/\H tp=some (.tup (rs.map V.ref))/\RowsAt H rs R/\R.length<=60/\UpP R/\PlN N R/\N<=60/\H tr=some (.tup (rowV x))/\x.1.2.1<N/\x.1.2.2.1<N/\H p=some (.tup (ts.map V.ref))/\TlsAt H ts F/\(x.2.2=true->PapOk N x (x.2.1+1) R F R')/\(x.2.2=false->F=[]/\R'=R)/\∀(tq:Addr) (qs:List Addr) (H':Hp),Same H H'->H' tq=some (.tup (qs.map V.ref))->RowsAt H' qs R'->Q (.ref tq) H'
theorem UpP.step{R:List R6}(h:UpP R)(r:Rd4):UpP (Du R r):=by
 unfold UpP Du at *;rw[List.pairwise_map];refine h.imp λ{x y} l=> ?_;rw[Cy,Cy];exact l
section
variable{P:Program}{w:World}{K:PySem.W.Frag}{mg:Str->Option Value}{base:Heap}
theorem scRound:Av ["many","rows","layer","tie","thing","at","places","looked","found","within","leading"] ["many","rows","layer","tie","thing"] (Ag sRound):=⟨rfl,rfl,rfl,by decide+kernel,rfl,by decide+kernel,by decide+kernel⟩
theorem ok_Round{f:Addr}{fd:FuncData}(F:Fun K "is_round" "is_round" sRound f fd)(T:Txt mg)(GWhole:Cl P w K mg base 4 "is_whole" ["thing"] spWhole)(GPlaces:Cl P w K mg base 4 "is_places" ["many","thing"] spPlaces)(GLesser:Cl P w K mg base 4 "lesser_parts" ["many","rows","layer","tie"] spLesser)(GLoose:Cl P w K mg base 4 "loose_names" ["rows","layer","places","ends"] spLoose)(GLooked:Cl P w K mg base 4 "are_looked" ["within","thing"] spLooked):
  FnOk P w K mg base CX0 5 f fd ["many","rows","layer","tie","thing"] spRound:=by
 refine F.ok scRound (λvs H Q E h=> ?_) (λcdv A outer s H vs Q E hr h=> ?_)
 ·obtain⟨_,_,_,_,_,_,_,_,_,rfl,_⟩:=h;rfl
 ·obtain⟨N,tp,tr,tl,rs,R,L,x,r,rfl,ht,hR,R60,hU,hPl,N60,hx,hp,hq,T1,D,k⟩:=h;refine⟨_,Ae (Bi (PW.pt (pw_or (Bu (Bd (Am Cp (by rfl) T.isinstance (by decide+kernel) (Aa (pv 4) (Aa (pe_ty (T:="tuple") (by rfl) T.tuple (by decide+kernel)) Ac))))) (Ds (Au op_ne (Am As (by rfl) T.len PySem.boot_len (Aa (pv 4) Ac)) Af (Ay _))))) (Ai (Ao Ch)) A2)
   (Ae (Cz (pv 4) (Co rfl (Al (Ah (i:=5) scRound.nd rfl (Or.inl rfl)) (Al (Ah (i:=6) scRound.nd rfl (Or.inl rfl)) (Al (Ah (i:=7) scRound.nd rfl (Or.inl rfl)) (Al (Ah (i:=8) scRound.nd rfl (Or.inl rfl)) Bf))))))
   (Ae (Bi (PW.pt (pw_or (Bu (Bd (At GWhole hr (Aa (pv 5) Ac)))) (Ds (Au op_ne (pv 5) (pv 2) (Ay _))))) (Ai (Ao Ch)) A2)
   (Ae (Bi (PW.pt (pw_or (Bu (Bd (At GPlaces hr (Aa (pv 0) (Aa (pv 6) Ac))))) (Ds (Au (op_notInL hr.units) (pv 6) (At GLesser hr (Aa (pv 0) (Aa (pv 1) (Aa (pv 2) (Aa (pv 3) Ac))))) (by rfl))))) (Ai (Ao Ch)) A2)
   (Ae (Aw (i:=9) scRound.nd rfl (Or.inl rfl) (At GLoose hr (Aa (pv 1) (Aa (pv 2) (Aa (pv 6) (Aa Af Ac))))))
   (Ae (Bi (Bu (Bd (At GLooked hr (Aa (pv 9) (Aa (pv 7) Ac))))) (Ai (Ao Ch)) A2)
   (Ae (Aw (i:=10) scRound.nd rfl (Or.inl rfl) (At GLoose hr (Aa (pv 1) (Aa (pv 2) (Aa (pv 6) (Aa Af Ac))))))
   (Ae (Bi (Au op_isN (pv 8) pe_non (Ay _)) (Ai (Ao (pe_and (Bo (op_eqNil hr.units) (pv 10) (Cm Ac) (Ay _)) (pe_one (Bo Dt (Am As (by rfl) T.len PySem.boot_len (Aa (pv 7) Ac)) (Am As (by rfl) T.len PySem.boot_len (Aa (pv 9) Ac)) (Ay _)))))) A2)
   (Ai (Ao (Bo Dj (pv 8) (pv 10) (by rfl))))))))))),?_⟩
  obtain⟨pl,lk,t1,t2,t3⟩:=T1.ex;have hS:InN N (tiF R (kpB L)):=hPl.inN _;have rL:=D.lay;obtain⟨p0,p1⟩:(r.2.1.length<=60/\Asc r.2.1)/\∀p∈r.2.1,p<N:=by
   have h:=D.part;unfold Do at h;have ok:∀q,((Ar N (tiF R (kpB L)) q).length<=60/\Asc (Ar N (tiF R (kpB L)) q))/\∀p∈Ar N (tiF R (kpB L)) q,p<N:=λq=>by
    refine⟨⟨?_,part_asc _ _ _⟩,λp=>part_lt⟩;unfold Ar;exact Nat.le_trans (List.length_filter_le _ _) (by rw[List.length_range];exact N60)
   rcases List.mem_cons.mp h with h|h
   ·rw[h];exact ok _
   ·rw[List.mem_singleton.mp h];exact ok _
  have k60:r.2.2.1.length<=60:=Nat.le_trans (List.Nodup.length_le_of_subset D.kn D.kin) (Nat.le_trans (loo_len _ _ _ _) R60);obtain⟨rl,ps,ks,fo⟩:=r;have rL:rl=L:=rL;subst rL;have t1:H tl=some (.tup [.int (rl:Int),.ref pl,.ref lk,foV fo]):=t1;have t2:H pl=some (.tup (psV ps)):=t2;have t3:H lk=some (.tup (ks.map V.str)):=t3;have Dp:ps∈Do N (tiF R (kpB rl)) x:=D.part;have Dl:∀p∈Do N (tiF R (kpB rl)) x,ps.length<=p.length:=D.least;have Dk:ks.Nodup:=D.kn;have Di:∀n∈ks,n∈Bs R rl ps 2:=D.kin;have Df:∀f,fo=some f->f∈Bs R rl ps 1:=D.found;have Dn:fo=none->Bs R rl ps 1=[]/\ks.length=(Bs R rl ps 2).length:=D.none;have p60:ps.length<=60:=p0.1;have pasc:Asc ps:=p0.2;have plt:∀p∈ps,p<N:=p1;have k60:ks.length<=60:=k60;clear T1 D p0 p1;refine⟨_,rfl,.ref tl,.type "tuple","tuple",true,rfl,.tup t1,rfl,_,rfl,Ct ⟨_,rfl,tl,_,rfl,.inr (SqT.of t1),rfl,_,rfl,Be (λg=>absurd g (by simp)) λ_=> ?_⟩⟩;dsimp only[Br];refine⟨_,rfl,tl,_,rfl,SqT.of t1,rfl,_,_,rfl,_,_,rfl,_,_,rfl,_,_,rfl,rfl,?_⟩;refine⟨_,rfl,(rl:Int),rfl,_,rfl,Ct ⟨_,rfl,_,rfl,rfl,_,rfl,Be (λg=>absurd g (by simp)) λ_=> ?_⟩⟩;dsimp only[Br];refine⟨_,rfl,_,rfl,N,pl,ps,rfl,t2,pasc,plt,p60,λH1 s1=>⟨_,rfl,Ct ?_⟩⟩;refine⟨_,rfl,_,rfl,_,rfl,_,rfl,_,rfl,N,tp,tr,rs,R,rl,x,rfl,s1 _ _ ht,hR.mono λr xs=>s1 r _,R60,hS,N60,s1 _ _ hx,hp,hq,λl qs m H2 s2 e2 p2 hm hmin=> ?_⟩;have s12:=s1.trans s2;have lm:ps.length=m:=by
   obtain⟨p,hp,e⟩:=List.mem_map.mp hm;have h1:=Dl p hp;have h2:=hmin ps.length (List.mem_map.mpr ⟨ps,Dp,rfl⟩);omega
  have t2':=s12 _ _ t2;have inj:∀{p:List Nat},psV p=psV ps->p=ps:=λ{p} e=>by
   unfold psV at e;refine(List.map_inj_right λa b z=> ?_).mp e;exact Int.ofNat.inj (V.int.inj z)
  refine⟨l,qs,λb=> @decide (H2 b=some (.tup (psV ps))) (Classical.propDecidable _),1,rfl,SqL.of e2,by decide,λb hb=> ?_,_,rfl,?_⟩
  ·obtain⟨i,hi,rfl⟩:=List.getElem_of_mem hb;obtain⟨p,ep,hp2⟩:=p2.get (Ck hi);have:=Eqs.flats (K:=K) (H:=H2) (n:=0) (SqT.of hp2) (SqT.of t2') (λu hu v hv=>by
    obtain⟨u',_,rfl⟩:=List.mem_map.mp hu;obtain⟨v',_,rfl⟩:=List.mem_map.mp hv;rfl)
   have e:decide (psV p=psV ps)= @decide (H2 qs[i]=some (.tup (psV ps))) (Classical.propDecidable _):=by
    rw[Bool.eq_iff_iff,decide_eq_true_eq,@decide_eq_true_iff _ (Classical.propDecidable _),hp2];exact⟨λz=>by rw[z],λz=>by injection z with z;injection z⟩
   rw[e] at this;exact this
  have hany:(qs.any λb=> @decide (H2 b=some (.tup (psV ps))) (Classical.propDecidable _))=true:=by
   have hin:ps∈(Do N (tiF R (kpB rl)) x).filter λp=>decide (p.length=m):=List.mem_filter.mpr ⟨Dp,decide_eq_true lm⟩;obtain⟨i,hi,e⟩:=List.getElem_of_mem hin;have hi':i<qs.length:=by rw[p2.1];exact hi
   refine List.any_eq_true.mpr ⟨qs[i],List.getElem_mem hi',?_⟩;rw[@decide_eq_true_iff _ (Classical.propDecidable _)];exact p2.2 i _ _ (Ck hi') (by rw[List.getElem?_eq_getElem hi,e])
  rw[hany];refine Ct ?_;dsimp only[Br];clear hany e2 p2 hm hmin;refine⟨_,rfl,_,rfl,_,rfl,tp,pl,rs,R,rl,2,ps,rfl,s12 _ _ ht,hR.mono λr xs=>s12 r _,R60,t2',λwl H3 s3 e3=> ?_⟩;have s13:=s12.trans s3;refine⟨_,rfl,_,rfl,wl,lk,Bs R rl ps 2,ks,rfl,e3,s13 _ _ t3,Nat.le_trans (loo_len _ _ _ _) R60,loose_asc hU _ _ _,Dk,Di,k60,λH4 s4=>⟨_,rfl,Ct ?_⟩⟩;dsimp only[Br];have s14:=s13.trans s4;refine⟨_,rfl,_,rfl,_,rfl,tp,pl,rs,R,rl,1,ps,rfl,s14 _ _ ht,hR.mono λr xs=>s14 r _,R60,s14 _ _ t2,λal H5 s5 e5=> ?_⟩;have s15:=s14.trans s5;cases fo with
  |none=>
   obtain⟨n1,n2⟩:=Dn rfl;rw[n1] at e5;refine⟨_,rfl,rfl,_,rfl,iteT ⟨_,rfl,small (by simp),λE1 hE1=> ?_⟩⟩;have s6:=Ad (o:= .lst []) hE1;refine⟨al,E1,[],rfl,rfl,SqL.of (s6 _ _ e5),SqL.of Ab,_,rfl,iteT ?_⟩;have s16:=s15.trans s6;refine⟨_,rfl,lk,_,rfl,.inr (SqT.of (s16 _ _ t3)),_,rfl,wl,_,rfl,.inl (SqL.of (s6 _ _ (s5 _ _ (s4 _ _ e3)))),rfl,?_⟩;rw[List.length_map,List.length_map,n2,decide_eq_true rfl];exact k _ s16
  |some f=>
   have hf:=Df f rfl;refine⟨_,rfl,rfl,_,rfl,Ct ?_⟩;dsimp only[Br];refine⟨_,rfl,_,rfl,al,_,rfl,.inl (SqL.of e5),rfl,strs_fl _,?_⟩;have ef:(if false=true then !inV (foV (some f)) ((Bs R rl ps 1).map V.str) else inV (foV (some f)) ((Bs R rl ps 1).map V.str))=true:=by
    rw[if_neg (by decide)];show inV (.str f) _=true;rw[inV_strs,decide_eq_true hf]
   rw[ef];exact k _ s15
theorem scRowsBy:Av ["many","rows","tie","paper","layer","number","thing"] ["many","rows","tie","paper"] (Ag sRowsBy):=⟨rfl,rfl,rfl,by decide+kernel,rfl,by decide+kernel,by decide+kernel⟩
theorem ok_RowsBy{f:Addr}{fd:FuncData}(F:Fun K "rows_by" "rows_by" sRowsBy f fd)(T:Txt mg)(GRound:Cl P w K mg base 5 "is_round" ["many","rows","layer","tie","thing"] spRound)(GBehinds:Cl P w K mg base 5 "rows_behind" ["rows","told"] spBehinds):
  FnOk P w K mg base CX0 6 f fd ["many","rows","tie","paper"] spRowsBy:=by
 refine F.ok scRowsBy (λvs H Q E h=> ?_) (λcdv A outer s H vs Q E hr h=> ?_)
 ·obtain⟨_,_,_,_,_,_,_,_,_,_,rfl,_⟩:=h;rfl
 ·obtain⟨N,tp,tr,p,rs,ts,R,R',x,F,rfl,ht,hR,R60,hU,hPl,N60,hx,hp,hq,hpp,hT,hk,hn,k⟩:=h;refine⟨_,Ae (Bi (Bu (Bd (A1 Cg (pv 2) Af (λ_ _=>rfl)))) (Ai (Ao (pe_ifExp (Au (op_eqNilT hr.units) (pv 3) (Bk Ac) (Ay _)) (pv 1) pe_non))) A2)
   (Ae (Aw (i:=4) scRowsBy.nd rfl (Or.inl rfl) (A1 Cg (pv 2) Af (λ_ _=>rfl)))
   (Ae (Dx PassesOwn.never rfl (pi_enumT rfl T.enumerate (Aa (pv 3) Ac)) (Co rfl (Al (Ah (i:=5) scRowsBy.nd rfl (Or.inl rfl)) (Al (Ah (i:=6) scRowsBy.nd rfl (Or.inl rfl)) Bf))) (Ae (Bi (Bu (Bd (At GRound hr (Aa (pv 0) (Aa (pv 1) (Aa (pv 4) (Aa (pv 2) (Aa (pv 6) Ac)))))))) (Ai (Ao pe_non)) A2)
   (Ae (Aw (i:=1) scRowsBy.nd rfl (Or.inl rfl) (At GBehinds hr (Aa (pv 1) (Aa (pv 6) Ac))))
   (Ae (Bi (PW.pt (pw_or (Au op_notN (A1 Cg (pv 6) Af (λ_ _=>rfl)) pe_non (Ay _)) (Ds (Au Dt (pv 4) Af (Ay _))))) (Ai (Ao (pe_ifExp (Au Dt (pv 5) (Az op_sub (Am As (by rfl) T.len PySem.boot_len (Aa (pv 3) Ac)) Af) (Ay _)) (pv 1) pe_non))) A2)
   (Ai (ps_aug (i:=4) scRowsBy.nd rfl (Or.inl rfl) Af ip_sub))))))
   (Ai (Ao pe_non)))),?_⟩
  refine⟨_,rfl,tr,_,5,_,rfl,rfl,SqT.of hx,Ap (j:=5) rfl,_,rfl,?_⟩;cases xk:x.2.2 with
  |false=>
   obtain⟨f1,f2⟩:=hn xk;have tn:ts=[]:=List.length_eq_zero_iff.mp (by rw[hT.1,f1];rfl);rw[tn] at hpp;refine iteT ⟨_,rfl,small (by simp),λE1 hE1=> ?_⟩;have s1:=Ad (o:= .tup []) hE1;refine⟨p,E1,[],rfl,rfl,SqT.of (s1 _ _ hpp),SqT.of Ab,_,rfl,iteT ⟨_,rfl,?_⟩⟩;rw[f2] at k;exact k tp rs _ s1 (s1 _ _ ht) (hR.mono λr xs=>s1 r _)
  |true=>
   have hk:=hk xk;refine Ct ?_;dsimp only[Br];clear hn;refine⟨_,rfl,tr,_,4,_,rfl,rfl,SqT.of hx,Ap (j:=4) rfl,?_⟩;refine⟨_,rfl,p,_,rfl,SqT.of hpp,for_enumT (K:=K) (a:=p) (xs:=ts.map V.ref) (λj σ H2=>∃(L:Nat) (tq:Addr) (qs:List Addr) (R2:List R6) (u5 u6:Option V),σ=[some (.int (N:Int)),some (.ref tq),some (.ref tr),some (.ref p),some (.int (L:Int)),u5,u6]/\Same H H2/\H2 tq=some (.tup (qs.map V.ref))/\RowsAt H2 qs R2/\R2.length<=60/\UpP R2/\PlN N R2/\PapOk N x (L+1) R2 (F.drop j) R') ⟨x.2.1,tp,rs,R,none,none,rfl,same_refl _,ht,hR,R60,hU,hPl,hk⟩ (λj σ H2 _ ⟨_,_,_,_,_,_,_,s,_⟩=>SqT.of (s _ _ hpp)) ?_ ?_⟩
   ·rintro j v σ H2 T1 hv ⟨L,tq,qs,R2,u5,u6,rfl,s2,e2,r2,l2,U2,P2,pk⟩ hT1;obtain⟨tl,et,rfl⟩:=Ax hv;have jF:j<F.length:=by rw[<-hT.1];exact(List.getElem?_eq_some_iff.mp et).1
    have Tr:=hT.2 j tl _ et (Ck jF);rw[List.drop_eq_getElem_cons jF] at pk;generalize F[j]=r at Tr pk;obtain⟨r',F',eF,D,d1,d2⟩:=pk;injection eF with e1 eF;subst e1;have s3:=s2.trans (Ad (o:= .tup [.int (j:Nat),.ref tl]) hT1);have e3:=Ad (o:= .tup [.int (j:Nat),.ref tl]) hT1 _ _ e2;have r3:=r2.mono λq xs=>Ad (o:= .tup [.int (j:Nat),.ref tl]) hT1 q (.tup xs);have t3:upd H2 T1 (.tup [.int (j:Nat),.ref tl]) T1=some (.tup [.int (j:Nat),.ref tl]):=Ab;generalize upd H2 T1 (.tup [.int (j:Nat),.ref tl])=H3 at s3 e3 r3 t3 ⊢;refine⟨T1,_,rfl,SqT.of t3,rfl,_,_,rfl,_,_,rfl,rfl,?_⟩;refine⟨_,rfl,_,rfl,_,rfl,_,rfl,_,rfl,N,tq,tr,tl,qs,R2,L,x,r,rfl,e3,r3,l2,U2,P2,N60,s3 _ _ hx,hp,hq,Tr.mono λq xs e=>s3 _ _ e,D,λH4 s4=>⟨_,rfl,Ct ?_⟩⟩;dsimp only[Br];have s34:=s3.trans s4;refine⟨_,rfl,_,rfl,tq,tl,qs,R2,r.1,r.2.1,r.2.2.1,r.2.2.2,rfl,s4 _ _ e3,r3.mono λq xs=>s4 q _,l2,Tr.mono λq xs e=>s34 _ _ e,λtq2 qs2 H5 s5 e5 p5=> ?_⟩;have p5:RowsAt H5 qs2 (Du R2 r):=p5;have s35:=s34.trans s5;obtain⟨pl,lk,t1,_,_⟩:=(Tr.mono λq xs e=>s35 _ _ e:TlAt H5 tl r).ex;have jt:(ts.map V.ref).length=F.length:=by rw[List.length_map,hT.1]
    refine⟨_,rfl,tl,_,3,_,rfl,rfl,SqT.of t1,Ap (j:=3) rfl,rfl,_,rfl,?_⟩;have back:F.drop (j+1)=[]->R'=Du R2 r->((V.int (j:Int))=V.int (((ts.map V.ref).length:Int) - 1))/\Q (.ref tq2) H5:=λh1 h2=>by
     have:=congrArg List.length h1;rw[List.length_drop,List.length_nil] at this;refine⟨congrArg V.int (by rw[jt];omega),k tq2 qs2 H5 s35 e5 (by rw[h2];exact p5)⟩
    cases hfo:r.2.2.2 with
    |some f=>
     obtain⟨f1,f2⟩:=d2 (by rw[hfo];intro z;cases z);rw[<-eF] at f1;obtain⟨b1,b2⟩:=back f1 f2;refine iteT ⟨_,rfl,_,rfl,p,_,rfl,.inr (SqT.of (s35 _ _ hpp)),_,_,rfl,rfl,rfl,_,rfl,Be (λ_=>⟨_,rfl,b2⟩) λg=>absurd (decide_eq_true b1) g⟩
    |none=>
     have d1:=d1 hfo;refine Ct ⟨_,rfl,rfl,_,rfl,Be (λg=> ?_) λg=> ?_⟩
     ·have L0:L=0:=by
       have:=V.int.inj (of_decide_eq_true g);omega
      subst L0;obtain⟨f1,f2⟩:=d1;rw[<-eF] at f1;obtain⟨b1,b2⟩:=back f1 f2;exact⟨_,rfl,_,rfl,p,_,rfl,.inr (SqT.of (s35 _ _ hpp)),_,_,rfl,rfl,rfl,_,rfl,Be (λ_=>⟨_,rfl,b2⟩) λg=>absurd (decide_eq_true b1) g⟩
     ·have L0:L≠0:=λz=>g (decide_eq_true (by rw[z];rfl));obtain⟨L',rfl⟩:∃L',L=L'+1:=⟨L - 1,by omega⟩
      dsimp only[Br];refine⟨_,rfl,_,_,rfl,rfl,?_⟩;have eL:(((L'+1:Nat):Int) - 1)=(L':Int):=by omega
      exact⟨L',tq2,qs2,Du R2 r,_,_,by rw[<-eL];rfl,s35,e5,p5,by unfold Du;rw[List.length_map];exact l2,U2.step r,P2.step r,by rw[eF];exact d1⟩
   rintro σ H2 ⟨L,tq,qs,R2,u5,u6,rfl,s2,e2,r2,l2,U2,P2,pk⟩;rw[List.length_map,hT.1,List.drop_length] at pk;obtain⟨r',F',eF,_⟩:=pk;cases eF
end
end K39
namespace K39
open PySem L2 Wk
theorem UpP.up{R:List R6}(h:UpP R):Up R:=λi x y h1 h2=>by
 obtain⟨a1,e1⟩:=List.getElem?_eq_some_iff.mp h1;obtain⟨a2,e2⟩:=List.getElem?_eq_some_iff.mp h2;rw[<-e1,<-e2];exact List.pairwise_iff_getElem.mp h i (i+1) a1 a2 (by omega)
theorem UpP.drop{R:List R6}(h:UpP R)(n:Str):UpP (Bx R n):=by
 unfold UpP Bx at *;exact List.Pairwise.sublist List.filter_sublist h
theorem PlN.drop{N:Nat}{R:List R6}(h:PlN N R)(n:Str):PlN N (Bx R n):=λy hy=>h y (List.mem_filter.mp hy).1
theorem eqs_lay{K:PySem.W.Frag}{H:Hp}{a b:Addr}{N:Nat}{R:List R6}(ha:LayAt H a N R)(hb:LayAt H b N R):Eqs K H 3 (.ref a) (.ref b) true:=by
 obtain⟨tp,rs,a1,a2,a3⟩:=ha;obtain⟨tq,qs,b1,b2,b3⟩:=hb;have rows:Eqs K H 2 (.ref tp) (.ref tq) true:=eqs_all (SqT.of a2) (SqT.of b2) (by rw[List.length_map,List.length_map,a3.1,b3.1]) λj p q hp hq=>by
  obtain⟨r,er,rfl⟩:=Ax hp;obtain⟨s,es,rfl⟩:=Ax hq;obtain⟨x,ex,hx⟩:=a3.get er;exact eqs_flat (SqT.of hx) (SqT.of (b3.2 j s x es ex)) λv hv=>by
   unfold rowV tieV at hv;simp only[List.cons_append,List.nil_append,List.mem_cons,List.not_mem_nil,or_false] at hv;rcases hv with rfl|rfl|rfl|rfl|rfl|rfl<;> rfl
 have num:Eqs K H 2 (.int (N:Int)) (.int (N:Int)) true:=by
  have:=Eqs.flat (K:=K) (H:=H) (n:=2) (x:= .int (N:Int)) (y:= .int (N:Int)) rfl
  rwa [decide_eq_true rfl] at this
 exact Eqs.pair (b1:=true) (b2:=true) (SqT.of a1) (SqT.of b1) num rows
structure GoIn(N:Nat)(R R':List R6)(n:Str)(x:R6)(F:List Rd4):Prop where
 N1:1<=N
 N24:N<=24
 len:R.length<=60
 up:UpP R
 pl:PlN N R
 hx:x∈R
 xn:x.1.1=n
 one:∀y∈R,y.1.1=n->y=x
 good:LGood N R'
 up':UpP R'
 kept:x.2.2=true->PapOk N x (x.2.1+1) (Bx R n) F R'
 not:x.2.2=false->F=[]/\R'=Bx R n
def spGoing:Sp:=λvs H Q _=>∃(h g b p:Addr) (N:Nat) (R R':List R6) (n:Str) (x:R6) (F:List Rd4) (ts:List Addr),vs=[.ref h,.str n,.ref g]/\LayAt H h N R/\GoIn N R R' n x F/\H g=some (.tup [.ref b,.ref p])/\LayAt H b N R'/\H p=some (.tup (ts.map V.ref))/\TlsAt H ts F/\∀(H':Hp),Same H H'->Q (.bl true) H'
section
variable{P:Program}{w:World}{K:PySem.W.Frag}{mg:Str->Option Value}{base:Heap}
theorem scGoing:Av ["layers","name","thing","behind","paper","many","rows","told"] ["layers","name","thing"] (Ag sGoing):=⟨rfl,rfl,rfl,by decide+kernel,rfl,by decide+kernel,by decide+kernel⟩
theorem ok_Going{f:Addr}{fd:FuncData}(F:Fun K "going_holds" "going_holds" sGoing f fd)(T:Txt mg)(GHold:Cl P w K mg base 7 "layers_hold" ["thing"] spHold)(GRowsBy:Cl P w K mg base 7 "rows_by" ["many","rows","tie","paper"] spRowsBy)(GWithout:Cl P w K mg base 7 "rows_without" ["rows","name"] spWithout)(GRowOf:Cl P w K mg base 7 "row_of" ["rows","name"] spRowOf):
  FnOk P w K mg base CX0 8 f fd ["layers","name","thing"] spGoing:=by
 refine F.ok scGoing (λvs H Q E h=> ?_) (λcdv A outer s H vs Q E hr h=> ?_)
 ·obtain⟨_,_,_,_,_,_,_,_,_,_,_,rfl,_⟩:=h;rfl
 ·obtain⟨h,g,b,p,N,R,R',n,x,F,ts,rfl,⟨tp,rs,hh,ht,hR⟩,G,hg,hL,hp,hT,k⟩:=h;refine⟨_,Ae (Bi (PW.pt (pw_or (Bu (Bd (Am Cp (by rfl) T.isinstance (by decide+kernel) (Aa (pv 2) (Aa (pe_ty (T:="tuple") (by rfl) T.tuple (by decide+kernel)) Ac))))) (Ds (Au op_ne (Am As (by rfl) T.len PySem.boot_len (Aa (pv 2) Ac)) Af (Ay _))))) (Ai (Ao Ch)) A2)
   (Ae (Cz (pv 2) (Co rfl (Al (Ah (i:=3) scGoing.nd rfl (Or.inl rfl)) (Al (Ah (i:=4) scGoing.nd rfl (Or.inl rfl)) Bf))))
   (Ae (Bi (PW.pt (pw_or (Bu (Bd (At GHold hr (Aa (pv 3) Ac)))) (Ds (Bu (Bd (Am Cp (by rfl) T.isinstance (by decide+kernel) (Aa (pv 4) (Aa (pe_ty (T:="tuple") (by rfl) T.tuple (by decide+kernel)) Ac)))))))) (Ai (Ao Ch)) A2)
   (Ae (Cz (pv 0) (Co rfl (Al (Ah (i:=5) scGoing.nd rfl (Or.inl rfl)) (Al (Ah (i:=6) scGoing.nd rfl (Or.inl rfl)) Bf))))
   (Ae (Aw (i:=7) scGoing.nd rfl (Or.inl rfl) (At GRowsBy hr (Aa (pv 5) (Aa (At GWithout hr (Aa (pv 6) (Aa (pv 1) Ac))) (Aa (At GRowOf hr (Aa (pv 6) (Aa (pv 1) Ac))) (Aa (pv 4) Ac))))))
   (Ai (Ao (pe_and (Bo op_notN (pv 7) pe_non (Ay _)) (pe_one (Bo (r:=rEqs K) (op_eqs hr.units) (pv 3) (Bk (Aa (pv 5) (Aa (pv 7) Ac))) (Ay _)))))))))),?_⟩
  refine⟨_,rfl,.ref g,.type "tuple","tuple",true,rfl,.tup hg,rfl,_,rfl,Ct ⟨_,rfl,g,_,rfl,.inr (SqT.of hg),rfl,_,rfl,Be (λg=>absurd g (by simp)) λ_=> ?_⟩⟩;dsimp only[Br];refine⟨_,rfl,g,_,rfl,SqT.of hg,rfl,_,_,rfl,_,_,rfl,rfl,?_⟩;refine⟨_,rfl,b,N,R',rfl,hL,G.N1,G.N24,G.good,G.up'.up,λH1 s1=>⟨_,rfl,Ct ?_⟩⟩;refine⟨_,rfl,.ref p,.type "tuple","tuple",true,rfl,.tup (s1 _ _ hp),rfl,_,rfl,Ct ?_⟩;dsimp only[Br];refine⟨_,rfl,h,_,rfl,SqT.of (s1 _ _ hh),rfl,_,_,rfl,_,_,rfl,rfl,?_⟩;have N60:N<=60:=by have:=G.N24;omega
  have ld:(Bx R n).length<=60:=Nat.le_trans (List.length_filter_le _ _) G.len;have hpp:=G.pl x G.hx;refine⟨_,rfl,_,rfl,_,rfl,tp,rs,R,n,rfl,s1 _ _ ht,hR.mono λr xs=>s1 r _,G.len,λtq qs H2 s2 e2 p2=> ?_⟩;have s12:=s1.trans s2;refine⟨_,rfl,_,rfl,tp,rs,R,n,rfl,s12 _ _ ht,hR.mono λr xs=>s12 r _,λr y hr0 hy yn=> ?_,λz=>absurd (List.mem_map.mpr ⟨x,G.hx,G.xn⟩) z⟩;rw[G.one y hy yn] at hr0;refine⟨_,rfl,N,tq,r,p,qs,ts,Bx R n,R',x,F,rfl,e2,p2,ld,G.up.drop n,G.pl.drop n,N60,hr0,hpp.1,hpp.2,s12 _ _ hp,hT.mono λr xs e=>s12 _ _ e,G.kept,G.not,λtz zs H3 s3 e3 p3=> ?_⟩;have s13:=s12.trans s3;refine⟨_,rfl,rfl,_,rfl,iteT ⟨_,rfl,_,rfl,_,rfl,small (by simp),λt ht'=> ?_⟩⟩;have s4:=s13.trans (Ad (o:= .tup [.int (N:Int),.ref tz]) ht');have s34:=Ad (H:=H3) (o:= .tup [.int (N:Int),.ref tz]) ht';exact⟨2,true,b,t,rfl,rfl,by decide,eqs_lay (hL.same s4) ⟨tz,zs,Ab,s34 _ _ e3,p3.mono λr xs e=>s34 _ _ e⟩,k _ s4⟩
end
end K39
namespace K39
open PySem L2 Wk
theorem cnt1(ps:List Nat)(x:R6):cntF ps x=1↔Across ps x:=by
 unfold cntF Across;rw[List.filter_cons,List.filter_cons,List.filter_nil];by_cases a:x.1.2.1∈ps<;> by_cases b:x.1.2.2.1∈ps<;> simp[a,b]
theorem mem_loose{R:List R6}(nd:(R.map (·.1.1)).Nodup){x:R6}(hx:x∈R)(L:Nat)(ps:List Nat)(e:Nat):x.1.1∈Bs R L ps e↔x.2.1=L/\x.2.2=false/\cntF ps x=e:=by
 rw[<-of_loose];exact mem_of nd hx L ps false e
theorem DealOk.deal{N:Nat}{x:R6}{R:List R6}{L:Nat}{r:Rd4}(h:DealOk N x R L r)(nd:(R.map (·.1.1)).Nodup):Deal L R r.2.1 r.2.2.1 r.2.2.2 where
 hk:=λn hn=>by
  obtain⟨y,yR,yn,a,b,c⟩:=loose_mem nd (h.kin n hn);have c:=(cnt2 _ _).mp c;exact⟨y,yR,yn,a,b,c.1,c.2⟩
 hf:=λf hf=>by
  obtain⟨y,yR,yn,a,b,c⟩:=loose_mem nd (h.found f hf);exact⟨y,yR,yn,a,b,(cnt1 _ _).mp c⟩
 hn:=λhn y yR a b c=>by
  have:=(mem_loose nd yR L r.2.1 1).mpr ⟨a,b,(cnt1 _ _).mpr c⟩;rw[(h.none hn).1] at this;cases this
theorem DealOk.half{N:Nat}{x:R6}{R:List R6}{L:Nat}{r:Rd4}(h:DealOk N x R L r):∃e,Half N x.1 L R r.2.1 e:=by
 have p:=h.part;have l1:=h.least (Ar N (tiF R (kpB L)) x.1.2.1) (List.mem_cons_self ..);have l2:=h.least (Ar N (tiF R (kpB L)) x.1.2.2.1) (List.mem_cons_of_mem _ (List.mem_cons_self ..));unfold Do at p;rcases List.mem_cons.mp p with p|p
 ·exact⟨x.1.2.1,.inl rfl,p,l1,l2⟩
 ·exact⟨x.1.2.2.1,.inr rfl,List.mem_singleton.mp p,l1,l2⟩
theorem DealOk.next{N:Nat}{x:R6}{R:List R6}{L:Nat}{r:Rd4}(h:DealOk N x R L r)(M:Mid N x.1 (L+1) R)(N24:N<=24)(e:r.2.2.2=Option.none):Mid N x.1 L (Du R r):=by
 obtain⟨p,q⟩:=h.half;have D:=h.deal M.nd;have rl:=h.lay;obtain⟨r1,r2,r3,r4⟩:=r;have e:r4=Option.none:=e;have rl:r1=L:=rl;subst e rl;exact M.next N24 q D
theorem DealOk.last{N:Nat}{x:R6}{R:List R6}{L:Nat}{r:Rd4}(h:DealOk N x R L r)(M:Mid N x.1 (L+1) R)(N24:N<=24)(e:r.2.2.2≠Option.none):LGood N (Du R r):=by
 obtain⟨p,q⟩:=h.half;have D:=h.deal M.nd;have rl:=h.lay;obtain⟨r1,r2,r3,r4⟩:=r;have rl:r1=L:=rl;subst rl;cases r4 with
 |none=>exact absurd rfl e
 |some f=>exact M.found N24 q D
theorem LGood.drop{N:Nat}{R:List R6}(h:LGood N R)(hN:N<=60){x:R6}(hx:x∈R)(xk:x.2.2=false):LGood N (Bx R x.1.1):=by
 have sub:∀L,∀t∈tiF R (kpB L),t∈tiF (Bx R x.1.1) (kpB L):=λL t ht=>by
  rcases ti_drop hx h.nd ht with q|⟨_,q⟩
  ·exact q
  ·have:=(kp_iff.mp q).2;rw[xk] at this;cases this
 refine⟨λy hy=>h.ok y (List.mem_filter.mp hy).1,h.nd.sublist ((List.filter_sublist).map _),Nat.le_trans (List.length_filter_le _ _) h.len,λL hL a b r=>(h.same L hL a b (r.mono λt ht=>drop_ti ht)).mono (sub L),λL hL p hp=> ?_,?_⟩
 ·have i1:InN N (tiF (Bx R x.1.1) (frB L)):=λt ht=>h.inN (frB L) t (drop_ti ht);have:=Dv i1 (h.inN (frB L)) hN hp λv q=>q.mono λt ht=>drop_ti ht;have:=h.size L hL p hp;omega
 ·obtain⟨A,B,e,ne⟩:=row_split hx h.nd;have e2:Bx R x.1.1=A++B:=by rw[e];exact drop_split ne
  have el:tiF (A++B) (kpB 0)=tiF R (kpB 0):=by
   rw[e,ti_split,if_neg (λz=>by have:=(kp_iff.mp z).2;rw[xk] at this;cases this)];unfold tiF;rw[List.filter_append,List.map_append];rfl
  rw[e2,el];exact h.forest
theorem rise_two{Z:List RC}{A ks:List Str}(h:∀n∈A,n ∉ ks):Bh ks (Bh A Z)=Bh (A++ks) Z:=by
 unfold Bh;rw[List.map_map];refine List.map_congr_left λz _=> ?_;show (B8 ks (B8 A z.1),z.2)=(B8 (A++ks) z.1,z.2);have e:B8 ks (B8 A z.1)=B8 (A++ks) z.1:=by
  unfold B8;by_cases a:z.1.1.1∈A
  ·have b:=h _ a;rw[if_pos a,if_pos (List.mem_append_left _ a)];exact if_neg b
  ·rw[if_neg a];by_cases b:z.1.1.1∈ks
   ·rw[if_pos b,if_pos (List.mem_append_right _ b)]
   ·rw[if_neg b,if_neg (λz=>(List.mem_append.mp z).elim a b)]
 rw[e]
theorem rise_put{W:List RC}{c:Addr}{x:R6}{ks:List Str}(h:x.1.1 ∉ ks):Bh ks (putZ W c x)=putZ (Bh ks W) c x:=by
 unfold Bh putZ;rw[List.map_map,List.map_map];refine List.map_congr_left λz _=> ?_;show (B8 ks (if z.2=c then (x,z.2) else z).1,(if z.2=c then (x,z.2) else z).2)=(if z.2=c then (x,z.2) else (B8 ks z.1,z.2));by_cases e:z.2=c
 ·rw[if_pos e,if_pos e];have:B8 ks x=x:=by unfold B8;rw[if_neg h]
  show (B8 ks x,z.2)=(x,z.2);rw[this]
 ·rw[if_neg e,if_neg e]
theorem erase_perm{α:Type}:∀{l:List α} {i:Nat} (h:i<l.length),(l[i]::l.eraseIdx i).Perm l
 |[],_,h=>by cases h
 |x::l,0,_=> .refl _
 |x::l,i+1,h=>by
  have:=erase_perm (l:=l) (i:=i) (by simpa using h);exact(List.Perm.swap _ _ _).trans (this.cons x)
def spTurned:Sp:=λvs H Q _=>∃(d c ln:Addr) (zs:List Str),vs=[.ref d,.ref ln]/\DeckAt H d c/\H ln=some (.lst (zs.map V.str))/\ln≠d/\ln≠c/\zs.length<=60/\∀(l:Addr) (ms:List Str) (H':Hp),But d c H H'->DeckAt H' d c->H' l=some (.lst (ms.map V.str))->H l=none->ms.Perm zs->Q (.ref l) H'
section
variable{P:Program}{w:World}{K:PySem.W.Frag}{mg:Str->Option Value}{base:Heap}
theorem scTurned:Av ["_law_deck_here","_law_names_here","_law_left"] ["_law_deck_here","_law_names_here"] (Ag sTurned):=⟨rfl,rfl,rfl,by decide+kernel,rfl,by decide+kernel,by decide+kernel⟩
theorem ok_Turned{f:Addr}{fd:FuncData}(F:Fun K "_law_turned" "_law_turned" sTurned f fd)(T:Txt mg)(GTake:Cl P w K mg base 2 "_law_take" ["_law_deck_here","_law_most"] spTake):
  FnOk P w K mg base CX0 3 f fd ["_law_deck_here","_law_names_here"] spTurned:=by
 refine F.ok scTurned (λvs H Q E h=> ?_) (λcdv A outer s H vs Q E hr h=> ?_)
 ·obtain⟨_,_,_,_,rfl,_⟩:=h;rfl
 ·obtain⟨d,c,ln,zs,rfl,hD,hln,nd,nc,z60,k⟩:=h;refine⟨_,Ae (Aw (i:=2) scTurned.nd rfl (Or.inr rfl) (A3 call_list_of (by rfl) T.list (by decide+kernel) (Aa (pv 1) Ac)))
   (Ai (Ao (A5 (T:=["_law_k"]) (F:=["_law_left","_law_deck_here"]) (js:=[2,0]) (cs (osc:=Ag sTurned)) rfl (Bt rfl T.range (Aa (Am As (by rfl) T.len PySem.boot_len (Aa (pv 1) Ac)) Ac)) (λ_ _ _ _ _=>Ah (i:=0) (show (["_law_k","_law_left","_law_deck_here"]:List Str).Nodup by decide+kernel) rfl (Or.inl rfl)) (λ_ _ _ _ _=>A8) (λ_ _ _ _ _=>pe_bmK (K:=K) rfl PySem.F.plainAttrs_list PySem.F.slot_list_pop PySem.F.type_list_pop mt_popAt (pv 1) (Aa (At GTake hr (Aa (pv 2) (Aa (Am (r:=rLenX K) As (by rfl) T.len PySem.boot_len (Aa (pv 1) Ac)) Ac))) Ac))))),?_⟩
  refine⟨_,rfl,ln,_,rfl,.inl (SqL.of hln),λll hll=> ?_⟩;have s1:=Ad (o:= .lst (zs.map V.str)) hll;have e1:upd H ll (.lst (zs.map V.str)) ll=some (.lst (zs.map V.str)):=Ab;have D1:=hD.same s1;have fl:=Bz hD hll;generalize upd H ll (.lst (zs.map V.str))=H1 at s1 e1 D1 ⊢;refine⟨_,rfl,ln,_,rfl,.inl (SqL.of (s1 _ _ hln)),((zs.map V.str).length:Int),rfl,by omega,by rw[List.length_map];omega,λD hD0=>Bn (lo:=0) (n:=((zs.map V.str).length:Int).toNat) (λj σ ys H2=>∃(u:Option V) (ms ls:List Str),σ=[u,some (.ref ll),some (.ref d)]/\ys=ms.map V.str/\But d c H H2/\DeckAt H2 d c/\H2 D=some (.lst ys)/\H2 ll=some (.lst (ls.map V.str))/\ms.length=j/\(ms++ls).Perm zs) ⟨none,[],zs,rfl,rfl,But.of_same (s1.trans (Ad hD0)),D1.same (Ad hD0),Ab,Ad hD0 _ _ e1,rfl,.refl _⟩ (λj σ ys H2 _ ⟨_,_,_,_,_,_,_,e,_⟩=>e) ?_ ?_⟩
  ·rintro j σ ys H2 hj ⟨u,ms,ls,rfl,rfl,b2,D2,d2,l2,mj,hp⟩;have pl:=hp.length_eq;rw[List.length_append] at pl;have hj:j<zs.length:=by rw[List.length_map] at hj;omega
   have fD:=Bz D1 hD0;have Dl:D≠ll:=λe=>by rw[e,e1] at hD0;cases hD0
   refine⟨_,rfl,.inl ⟨rfl,_,SqL.of l2⟩,_,rfl,_,rfl,ll,_,rfl,.inl (SqL.of l2),d,c,_,rfl,D2,by rw[List.length_map];omega,by rw[List.length_map];omega,λv H3 v0 v1 b3 D3=> ?_⟩;rw[List.length_map] at v1;have l3:=b3 _ _ l2 fl.1 fl.2;have d3:=b3 _ _ d2 fD.1 fD.2;have hv:v.toNat<ls.length:=by omega
   have gv:(ls.map V.str)[v.toNat]? =some (.str ls[v.toNat]):=by rw[List.getElem?_map,List.getElem?_eq_getElem hv];rfl
   refine⟨ll,ls.map V.str,v,v.toNat,.str ls[v.toNat],rfl,rfl,l3,by omega,by omega,seq_nat v0 (by rw[List.length_map];exact v1),gv,?_⟩;have em:(ls.map V.str).eraseIdx v.toNat=(ls.eraseIdx v.toNat).map V.str:=erase_map _ _ _;rw[em];have b4:But d c H (upd H3 ll (.lst ((ls.eraseIdx v.toNat).map V.str))):=λb o e n1 n2=>by
    rw[Aj (An e hll)];exact b3 b o (b2 b o e n1 n2) n1 n2
   have D4:DeckAt (upd H3 ll (.lst ((ls.eraseIdx v.toNat).map V.str))) d c:=deck_same D3 (Aj (Ne.symm fl.1)) (Aj (Ne.symm fl.2));have d4:upd H3 ll (.lst ((ls.eraseIdx v.toNat).map V.str)) D=some (.lst (ms.map V.str)):=by rw[Aj Dl];exact d3
   have l4:upd H3 ll (.lst ((ls.eraseIdx v.toNat).map V.str)) ll=some (.lst ((ls.eraseIdx v.toNat).map V.str)):=Ab;generalize upd H3 ll (.lst ((ls.eraseIdx v.toNat).map V.str))=H4 at b4 D4 d4 l4 ⊢;refine⟨d4,Ak (by rw[List.length_map];omega),_,ms++[ls[v.toNat]],ls.eraseIdx v.toNat,rfl,by rw[List.map_append];rfl,λb o e n1 n2=> ?_,deck_same D4 (Aj (Ne.symm fD.1)) (Aj (Ne.symm fD.2)),Ab,by rw[Aj (Ne.symm Dl)];exact l4,by rw[List.length_append,mj];rfl,?_⟩
   ·have bD:b≠D:=λz=>by
     have:=s1 _ _ e;rw[z,hD0] at this;cases this
    rw[Aj bD];exact b4 b o e n1 n2
   ·rw[List.append_assoc];exact((erase_perm hv).append_left ms).trans hp
  rintro σ ys H2 ⟨u,ms,ls,rfl,rfl,b2,D2,d2,l2,mj,hp⟩;have pl:=hp.length_eq;rw[List.length_append] at pl;have l0:ls=[]:=List.length_eq_zero_iff.mp (by rw[List.length_map] at mj;omega);rw[l0,List.append_nil] at hp;refine k D ms H2 b2 D2 d2 ?_ hp;cases h:H D with
  |none=>rfl
  |some o=>rw[s1 _ _ h] at hD0;cases hD0
end
end K39
namespace K39
open PySem L2 Wk
theorem kvZ_drop(Z:List RC)(n:Str):dropK (kvZ Z) (Sum.inr n)=kvZ (Z.filter λz=> !decide (z.1.1.1=n)):=by
 unfold dropK kvZ;rw[List.filter_map]
 congr 1
 refine List.filter_congr λz _=> ?_;rw[Bool.eq_iff_iff];simp
theorem rwZ_drop(Z:List RC)(n:Str):rwZ (Z.filter λz=> !decide (z.1.1.1=n))=Bx (rwZ Z) n:=by
 unfold rwZ Bx;rw[List.filter_map];rfl
theorem KnZ.but{H H':Hp}{d d0 c:Addr}{o:Obj}{Z:List RC}(h:KnZ H d o Z)(b:But d0 c H H')(n1:d≠d0)(n2:d≠c)(f:∀x∈adZ Z,x≠d0/\x≠c):KnZ H' d o Z:=
 ⟨b _ _ h.dict n1 n2,λz hz=>by
  have:=f z.2 (List.mem_map.mpr ⟨z,hz,rfl⟩);exact b _ _ (h.cel z hz) this.1 this.2,h.few,h.up,h.nd⟩
theorem DeckAt.bt{H H':Hp}{d0 c:Addr}{Z:List RC}(D:DeckAt H d0 c)(b:BtZ Z H H')(f:∀x∈adZ Z,x≠d0/\x≠c):DeckAt H' d0 c:=by
 obtain⟨cs,S,k,g,h1,h2,l,n⟩:=D;exact⟨cs,S,k,g,b _ _ h1 λz=>(f _ z).1 rfl,b _ _ h2 λz=>(f _ z).2 rfl,l,n⟩
theorem KnZ.fresh{H:Hp}{d:Addr}{o:Obj}{Z:List RC}(h:KnZ H d o Z){l:Addr}(hl:H l=none):l ∉ adZ Z:=λhm=>by
 obtain⟨z,hz,rfl⟩:=List.mem_map.mp hm;have:=h.cel z hz;rw[hl] at this;cases this
theorem BtZ.tup{H H':Hp}{d:Addr}{o:Obj}{Z:List RC}(b:BtZ Z H H')(h:KnZ H d o Z){r:Addr}{xs:List V}(e:H r=some (.tup xs)):H' r=some (.tup xs):=b _ _ e λhm=>by
 obtain⟨z,hz,rfl⟩:=List.mem_map.mp hm;rw[h.cel z hz] at e;cases e
theorem cut_take(ms:List Str)(v:Nat)(h:v<=ms.length):Dy (ms.map V.str) none (some (v:Int))=(ms.take v).map V.str:=by
 rw[cutV_take (by rw[List.length_map];exact h),List.map_take]
structure PIn(H:Hp)(d0 c d:Addr)(Z:List RC)(N:Nat)(n:Str)(x:R6):Prop where
 kv:H d=some (.dK (kvZ Z))
 cel:CelZ H Z
 few:Z.length<=60
 up:UpP (rwZ Z)
 nd:(adZ Z).Nodup
 good:LGood N (rwZ Z)
 N24:N<=24
 hx:x∈rwZ Z
 xn:x.1.1=n
 n1:d≠d0
 n2:d≠c
 fa:∀b∈adZ Z,b≠d0/\b≠c
def FrZ(d0 c d:Addr)(Z:List RC)(H H':Hp):Prop:=∀b o,H b=some o->b≠d0->b≠c->b≠d->b ∉ adZ Z->H' b=some o
def spPaper:Sp:=λvs H Q _=>∃(d0 c d:Addr) (Z:List RC) (N:Nat) (n:Str) (x:R6),vs=[.ref d0,.int (N:Int),.ref d,.str n]/\DeckAt H d0 c/\PIn H d0 c d Z N n x/\∀(p:Addr) (ts:List Addr) (F:List Rd4) (o:Obj) (Z':List RC) (H':Hp),FrZ d0 c d Z H H'->DeckAt H' d0 c->KnZ H' d o Z'->H' p=some (.tup (ts.map V.ref))->TlsAt H' ts F->(x.2.2=true->PapOk N x (x.2.1+1) (Bx (rwZ Z) n) F (rwZ Z'))->(x.2.2=false->F=[]/\rwZ Z'=Bx (rwZ Z) n)->LGood N (rwZ Z')->Q (.ref p) H'
structure LpS(H H':Hp)(d0 c d:Addr)(Z Z2:List RC)(o:Obj)(p:Addr)(ts:List Addr)(F1:List Rd4):Prop where
 fr:FrZ d0 c d Z H H'
 dk:DeckAt H' d0 c
 kn:KnZ H' d o Z2
 pp:H' p=some (.tup (ts.map V.ref))
 tl:TlsAt H' ts F1
section
variable{H H1 H2:Hp}{d0 c d:Addr}{Z Z2 Z3:List RC}{o:Obj}{p:Addr}{ts:List Addr}{F1:List Rd4}
theorem LpS.same(h:LpS H H1 d0 c d Z Z2 o p ts F1)(s:Same H1 H2):LpS H H2 d0 c d Z Z2 o p ts F1:=
 ⟨λb u e n1 n2 n3 n4=>s _ _ (h.fr b u e n1 n2 n3 n4),h.dk.same s,h.kn.same s,s _ _ h.pp,h.tl.mono λr xs e=>s _ _ e⟩
theorem LpS.but(h:LpS H H1 d0 c d Z Z2 o p ts F1)(b:But d0 c H1 H2)(D:DeckAt H2 d0 c)(n1:d≠d0)(n2:d≠c)(f:∀x∈adZ Z2,x≠d0/\x≠c):LpS H H2 d0 c d Z Z2 o p ts F1:=
 ⟨λb' u e m1 m2 m3 m4=>b _ _ (h.fr b' u e m1 m2 m3 m4) m1 m2,D,h.kn.but b n1 n2 f,b.tup h.dk h.pp,h.tl.mono λr xs e=>b.tup h.dk e⟩
theorem LpS.bt(h:LpS H H1 d0 c d Z Z2 o p ts F1)(b:BtZ Z2 H1 H2)(k:KnZ H2 d o Z3)(f:∀x∈adZ Z2,x≠d0/\x≠c)(s:∀x∈adZ Z2,x∈adZ Z):LpS H H2 d0 c d Z Z3 o p ts F1:=
 ⟨λb' u e m1 m2 m3 m4=>b _ _ (h.fr b' u e m1 m2 m3 m4) λz=>m4 (s _ z),h.dk.bt b f,k,b.tup h.kn h.pp,h.tl.mono λr xs e=>b.tup h.kn e⟩
end
theorem pap_next{N:Nat}{x:R6}{L:Nat}{R R0:List R6}{r:Rd4}{m:Nat}{F1:List Rd4}(D:DealOk N x R L r)(cont:∀F2 Re,PapOk N x (L+1) R F2 Re->PapOk N x m R0 (F1++F2) Re)(e:r.2.2.2=none)(F2:List Rd4)(Re:List R6)(h:PapOk N x L (Du R r) F2 Re):PapOk N x m R0 (F1++[r]++F2) Re:=by
 rw[List.append_assoc];exact cont (r::F2) Re ⟨r,F2,rfl,D,λ_=>h,λz=>absurd e z⟩
theorem pap_last{N:Nat}{x:R6}{L:Nat}{R R0:List R6}{r:Rd4}{m:Nat}{F1:List Rd4}(D:DealOk N x R L r)(cont:∀F2 Re,PapOk N x (L+1) R F2 Re->PapOk N x m R0 (F1++F2) Re)(e:r.2.2.2≠none)(F2:List Rd4)(Re:List R6)(h:PapOk N x 0 (Du R r) F2 Re):PapOk N x m R0 (F1++[r]++F2) Re:=by
 rw[List.append_assoc];exact cont (r::F2) Re ⟨r,F2,rfl,D,λz=>absurd z e,λ_=>h⟩
def tPap:TS:=λD σ H=>∃(u10 u11 u12 u15:Option V) (d0 d pl kl p:Addr) (N L:Nat) (n:Str) (p0 q0:Nat) (w:Int) (o:Obj) (Z3:List RC) (ps:List Nat) (ks:List Str) (fo:Option Str) (ts:List Addr) (F1:List Rd4),σ=[some (.ref d0),some (.int (N:Int)),some (.ref d),some (.str n),some (.int (p0:Int)),some (.int (q0:Int)),some (.int w),some (.int (L:Int)),some (.bl true),some (.ref p),u10,u11,u12,some (.ref pl),some (.ref kl),u15,some (foV fo)]/\KnZ H d o Z3/\H pl=some (.tup (psV ps))/\H kl=some (.lst (ks.map V.str))/\kl ∉ adZ Z3/\ks.Nodup/\(∀m∈ks,m∈nmZ Z3)/\ks.length<=60/\H p=some (.tup (ts.map V.ref))/\TlsAt H ts F1/\F1.length<=61/\∀(p':Addr) (ts':List Addr) (H':Hp),BtZ Z3 H H'->KnZ H' d o (Bh ks Z3)->H' p'=some (.tup (ts'.map V.ref))->TlsAt H' ts' (F1++[(L,ps,ks,fo)])->D.nx [some (.ref d0),some (.int (N:Int)),some (.ref d),some (.str n),some (.int (p0:Int)),some (.int (q0:Int)),some (.int w),some (.int (if fo=none then (L:Int) - 1 else -1)),some (.bl true),some (.ref p'),u10,u11,u12,some (.ref pl),some (.ref kl),u15,some (foV fo)] H'
section
variable{P:Program}{w:World}{K:PySem.W.Frag}{mg:Str->Option Value}{base:Heap}
theorem scPaper:Av ["_law_deck_here","_law_many_here","_law_known_here","_law_name","_law_one","_law_other","_law_weight_here","_law_layer","_law_is_kept","_law_paper_here","_law_parts_here","_law_least","_law_some_here","_law_places","_law_looked","_law_across","_law_found"] ["_law_deck_here","_law_many_here","_law_known_here","_law_name"] (Ag sPaper):=⟨rfl,rfl,rfl,by decide+kernel,rfl,by decide+kernel,by decide+kernel⟩
theorem ok_Paper{f:Addr}{fd:FuncData}(F:Fun K "_law_paper" "_law_paper" sPaper f fd)(T:Txt mg)(GPartsL:Cl P w K mg base 3 "_law_parts" ["_law_many_here","_law_known_here","_law_layer","_law_ends"] spPartsL)(GTake:Cl P w K mg base 3 "_law_take" ["_law_deck_here","_law_most"] spTake)(GTurned:Cl P w K mg base 3 "_law_turned" ["_law_deck_here","_law_names_here"] spTurned)(GOfLayer:Cl P w K mg base 3 "_law_of_layer" ["_law_known_here","_law_layer","_law_places","_law_is_kept","_law_ends"] spOfLayer)(GRise:Cl P w K mg base 3 "_law_rise" ["_law_known_here","_law_names_here"] spRise):
  FnOk P w K mg base CX0 4 f fd ["_law_deck_here","_law_many_here","_law_known_here","_law_name"] spPaper:=by
 refine F.ok scPaper (λvs H Q E h=> ?_) (λcdv A outer s H vs Q E hr h=> ?_)
 ·obtain⟨_,_,_,_,_,_,_,rfl,_⟩:=h;rfl
 ·obtain⟨d0,c,d,Z,N,n,x,rfl,hD,P0,k⟩:=h;refine⟨_,Ae (Cz (pe_dpop1 (pv 2) (pv 3) ⟨rfl,rfl,rfl,rfl⟩) (pg_lst rfl (Al (Ah (i:=4) scPaper.nd rfl (Or.inl rfl)) (Al (Ah (i:=5) scPaper.nd rfl (Or.inl rfl)) (Al (Ah (i:=6) scPaper.nd rfl (Or.inl rfl)) (Al (Ah (i:=7) scPaper.nd rfl (Or.inl rfl)) (Al (Ah (i:=8) scPaper.nd rfl (Or.inl rfl)) Bf)))))))
   (pss_fz (Ae (Aw (i:=9) scPaper.nd rfl (Or.inl rfl) (Bk Ac))
   (Ae (ps_while PassesOwn.never (PW.pt (pw_and (Bd (pv 8)) (pw_and1 (Au op_ge (pv 7) Af (Ay _))))) (Ae (Aw (i:=10) scPaper.nd rfl (Or.inl rfl) (At GPartsL hr (Aa (pv 1) (Aa (pv 2) (Aa (pv 7) (Aa (Cm (Aa (pv 4) (Aa (pv 5) Ac))) Ac))))))
   (Ae (Aw (i:=11) scPaper.nd rfl (Or.inr rfl) (Am (call_minL rfl) (by rfl) T.min (by decide+kernel) (Aa (A5 (T:=["_law_part"]) (F:=[]) (js:=[]) (cs (osc:=Ag sPaper)) rfl (Ce (pv 10)) (λ_ _ _ _ _=>Ah (i:=0) (show (["_law_part"]:List Str).Nodup by decide+kernel) rfl (Or.inl rfl)) (λ_ _ _ _ _=>A8) (λ_ _ _ _ _=>Am (r:=rLenX K) As (by rfl) T.len PySem.boot_len (Aa (pv 0) Ac))) Ac)))
   (Ae (Dr (i:=12) (T:=["_law_part"]) (F:=["_law_least"]) (js:=[11]) scPaper.nd rfl (Or.inl rfl) (cs (osc:=Ag sPaper)) rfl (Ce (pv 10)) (λ_ _ _ _ _=>Ah (i:=0) (show (["_law_part","_law_least"]:List Str).Nodup by decide+kernel) rfl (Or.inl rfl)) (λ_ _ _ _ _=>Ci (Au Dt (Am (r:=rLenX K) As (by rfl) T.len PySem.boot_len (Aa (pv 0) Ac)) (pv 1) (Ay _))) (λ_ _ _ _ _=>pv 0))
   (Ae (Aw (i:=13) scPaper.nd rfl (Or.inl rfl) (A1 A0 (pv 12) (At GTake hr (Aa (pv 0) (Aa (Am As (by rfl) T.len PySem.boot_len (Aa (pv 12) Ac)) Ac))) (λ_ _=>rfl)))
   (Ae (Aw (i:=14) scPaper.nd rfl (Or.inl rfl) (At GTurned hr (Aa (pv 0) (Aa (At GOfLayer hr (Aa (pv 2) (Aa (pv 7) (Aa (pv 13) (Aa Ch (Aa Af Ac)))))) Ac))))
   (Ae (Aw (i:=15) scPaper.nd rfl (Or.inl rfl) (At GOfLayer hr (Aa (pv 2) (Aa (pv 7) (Aa (pv 13) (Aa Ch (Aa Af Ac)))))))
   (Ae (Cw (At GRise hr (Aa (pv 2) (Aa (At GOfLayer hr (Aa (pv 2) (Aa (pv 7) (Aa (pv 13) (Aa Ch (Aa Af Ac)))))) Ac))))
   (Ae (Aw (i:=16) scPaper.nd rfl (Or.inl rfl) pe_non)
   (Ae (Bi (Au (op_neNil hr.units) (pv 15) (Cm Ac) (Ay _)) (Ae (Aw (i:=16) scPaper.nd rfl (Or.inl rfl) (A1 A0 (pv 15) (At GTake hr (Aa (pv 0) (Aa (Am As (by rfl) T.len PySem.boot_len (Aa (pv 15) Ac)) Ac))) (λ_ _=>rfl)))
   (Ae (Aw (i:=14) scPaper.nd rfl (Or.inl rfl) (Cf sl_list (pv 14) Dq (Bv (At GTake hr (Aa (pv 0) (Aa (Az Bm (Am As (by rfl) T.len PySem.boot_len (Aa (pv 14) Ac)) Af) Ac))))))
   (Ai (Cz Ch (pg_sub (Cn (hu_of hr) (pv 2) (pv 16) (λ_ _=>rfl)) (Af) set_list))))) A2)
   (PSs.imp' (t':=tPap) (Ae (Cw (At GRise hr (Aa (pv 2) (Aa (pv 14) Ac))))
   (Ae (Aw (i:=9) scPaper.nd rfl (Or.inl rfl) (Az op_catTT (pv 9) (Bk (Aa (Bk (Aa (pv 7) (Aa (pv 13) (Aa (A3 Bp (by rfl) T.tuple (by decide+kernel) (Aa (pv 14) Ac)) (Aa (pv 16) Ac))))) Ac))))
   (Ai (Aw (i:=7) scPaper.nd rfl (Or.inl rfl) (A1 A0 (Cm (Aa (Az op_sub (pv 7) Af) (Aa (pe_un un_neg Af) Ac))) (A3 call_int1 (by rfl) T.int (by decide+kernel) (Aa (Bo op_notN (pv 16) pe_non (Ay _)) Ac)) (λ_ _=>rfl)))))) ?pap)))))))))))
   (Ai (Ao (pv 9)))))),?_⟩
  case pap=>
   clear hD P0 k;rintro D σ H ⟨u10,u11,u12,u15,d0,d,pl,kl,p,N,L,n,p0,q0,w,o,Z3,ps,ks,fo,ts,F1,rfl,hZ,hpl,hkl,nkl,kn,kin,k60,hp,hT,F61,k⟩;refine⟨_,rfl,_,rfl,d,kl,o,Z3,ks,rfl,hZ,hkl,kn,kin,λH1 b1 k1=> ?_⟩;have hp1:=b1.tup hZ hp;have pl1:=b1.tup hZ hpl;have kl1:=b1 _ _ hkl nkl;have T1:TlsAt H1 ts F1:=hT.mono λr xs e=>b1.tup hZ e;refine⟨_,rfl,_,rfl,_,rfl,_,rfl,kl,_,rfl,.inl ⟨SqL.of kl1,λt2 ht2=> ?_⟩⟩;have s2:=Ad (o:= .tup (ks.map V.str)) ht2;have e2:upd H1 t2 (.tup (ks.map V.str)) t2=some (.tup (ks.map V.str)):=Ab;generalize upd H1 t2 (.tup (ks.map V.str))=H2 at s2 e2 ⊢;refine⟨_,rfl,small (by simp),λt3 ht3=> ?_⟩;have s3:=s2.trans (Ad (o:= .tup [.int (L:Int),.ref pl,.ref t2,foV fo]) ht3);have e3:upd H2 t3 (.tup [.int (L:Int),.ref pl,.ref t2,foV fo]) t3=some (.tup [.int (L:Int),.ref pl,.ref t2,foV fo]):=Ab;have e2:=Ad (o:= .tup [.int (L:Int),.ref pl,.ref t2,foV fo]) ht3 _ _ e2;generalize upd H2 t3 (.tup [.int (L:Int),.ref pl,.ref t2,foV fo])=H3 at s3 e3 e2 ⊢;refine⟨small (by simp),λt4 ht4=> ?_⟩;have s4:=s3.trans (Ad (o:= .tup [.ref t3]) ht4);have e4:upd H3 t4 (.tup [.ref t3]) t4=some (.tup [.ref t3]):=Ab;have e3:=Ad (o:= .tup [.ref t3]) ht4 _ _ e3;have e2:=Ad (o:= .tup [.ref t3]) ht4 _ _ e2;generalize upd H3 t4 (.tup [.ref t3])=H4 at s4 e4 e3 e2 ⊢;refine cat_any (s4 _ _ hp1) e4 (by rw[List.length_map,hT.1];simp;omega) λp' H5 s5 e5=> ?_;have s15:=s4.trans s5;have e5:H5 p'=some (.tup ((ts++[t3]).map V.ref)):=by rw[e5,List.map_append];rfl
   have T5:TlsAt H5 (ts++[t3]) (F1++[(L,ps,ks,fo)]):=(T1.mono λr xs e=>s15 _ _ e).snoc ⟨pl,t2,s5 _ _ e3,s15 _ _ pl1,s5 _ _ e2⟩;refine⟨_,rfl,_,_,rfl,rfl,_,rfl,small (by simp),λl6 hl6=> ?_⟩;have s6:=Ad (o:= .lst [.int ((L:Int) - 1),.int (-1)]) hl6;have e6:upd H5 l6 (.lst [.int ((L:Int) - 1),.int (-1)]) l6=some (.lst [.int ((L:Int) - 1),.int (-1)]):=Ab;have fin:=k p' (ts++[t3]) (upd H5 l6 (.lst [.int ((L:Int) - 1),.int (-1)])) (λb u e nb=>s6 _ _ (s15 _ _ (b1 b u e nb))) (k1.same (s15.trans s6)) (s6 _ _ e5) (T5.mono λr xs e=>s6 _ _ e);refine⟨_,rfl,rfl,.inr ⟨_,rfl,?_⟩⟩;cases fo with
   |none=>
    rw[if_pos rfl] at fin;exact⟨l6,_,0,_,rfl,rfl,SqL.of e6,rfl,fin⟩
   |some f=>
    rw[if_neg (by intro z;cases z)] at fin;exact⟨l6,_,1,_,rfl,rfl,SqL.of e6,rfl,fin⟩
  have N24:=P0.N24;have N60:N<=60:=by omega
  have nn:(nmZ Z).Nodup:=by rw[nmZ_rw];exact P0.up.nd
  obtain⟨z,hz,zx⟩:∃z∈Z,z.1=x:=List.mem_map.mp P0.hx;have vz:=kvZ_val nn hz;rw[zx,P0.xn] at vz;have c1:=P0.cel z hz;rw[zx] at c1;have fc:∀b∈adZ Z,b≠d:=λb hb e=>by
   obtain⟨y,hy,rfl⟩:=List.mem_map.mp hb;have:=P0.cel y hy;rw[e,P0.kv] at this;cases this
  have zd:z.2≠d:=fc _ (List.mem_map.mpr ⟨z,hz,rfl⟩);refine⟨_,rfl,d,rfl,.inl ⟨_,.of P0.kv⟩,_,rfl,kvZ Z,Sum.inr n,_,P0.kv,rfl,vz,?_⟩;rw[kvZ_drop];refine⟨z.2,_,rfl,SqL.of (by rw[Aj zd];exact c1),rfl,_,_,rfl,_,_,rfl,_,_,rfl,_,_,rfl,_,_,rfl,rfl,?_⟩;refine⟨d,kvZ (Z.filter λz=> !decide (z.1.1.1=n)),Ab,λo es ep ho=> ?_⟩;rw[upd_upd];have k2:KnZ (upd H d (.frz o (.dK (kvZ (Z.filter λz=> !decide (z.1.1.1=n)))))) d o (Z.filter λz=> !decide (z.1.1.1=n)):=by
   refine⟨Ab,λy hy=> ?_,Nat.le_trans (List.length_filter_le _ _) P0.few,?_,?_⟩
   ·have yZ:=(List.mem_filter.mp hy).1;rw[Aj (fc _ (List.mem_map.mpr ⟨y,yZ,rfl⟩))];exact P0.cel y yZ
   ·rw[rwZ_drop];exact P0.up.drop n
   ·unfold adZ;exact P0.nd.sublist (List.filter_sublist.map _)
  have f2:FrZ d0 c d Z H (upd H d (.frz o (.dK (kvZ (Z.filter λz=> !decide (z.1.1.1=n)))))):=λb u e _ _ n3 _=>by rw[Aj n3];exact e
  have D2:DeckAt (upd H d (.frz o (.dK (kvZ (Z.filter λz=> !decide (z.1.1.1=n)))))) d0 c:=deck_same hD (Aj P0.n1.symm) (Aj P0.n2.symm);have rd:rwZ (Z.filter λz=> !decide (z.1.1.1=n))=Bx (rwZ Z) n:=rwZ_drop Z n;have sa:∀b∈adZ (Z.filter λz=> !decide (z.1.1.1=n)),b∈adZ Z:=λb hb=>by
   obtain⟨y,hy,rfl⟩:=List.mem_map.mp hb;exact List.mem_map.mpr ⟨y,(List.mem_filter.mp hy).1,rfl⟩
  generalize upd H d (.frz o (.dK (kvZ (Z.filter λz=> !decide (z.1.1.1=n)))))=H2 at k2 f2 D2 ⊢;generalize (Z.filter λz=> !decide (z.1.1.1=n))=Z0 at k2 rd sa;have fa0:∀b∈adZ Z0,b≠d0/\b≠c:=λb hb=>P0.fa b (sa b hb);refine⟨small (by simp),λpp hpp=> ?_⟩;have s3:=Ad (o:= .tup []) hpp;have k3:=k2.same s3;have D3:=D2.same s3;have p3:upd H2 pp (.tup []) pp=some (.tup ([].map V.ref)):=Ab;have f3:FrZ d0 c d Z H (upd H2 pp (.tup [])):=λb u e n1 n2 n3 n4=>s3 _ _ (f2 b u e n1 n2 n3 n4);generalize upd H2 pp (.tup [])=H3 at k3 D3 p3 f3 ⊢;clear hpp s3 k2 D2 f2 c1 zd fc vz nn hz zx;cases xk:x.2.2 with
  |false=>
   dsimp only[gName,tSeq];refine while_gh (λm σ H'=>H'=H3/\σ=[some (.ref d0),some (.int (N:Int)),some (.ref d),some (.str n),some (.int (x.1.2.1:Int)),some (.int (x.1.2.2.1:Int)),some (.int x.1.2.2.2),some (.int (x.2.1:Int)),some (.bl false),some (.ref pp),none,none,none,none,none,none,none]) (m0:=0) ⟨rfl,by rw[<-xk];rfl⟩ ?_ ?_
   ·rintro m σ H' ⟨rfl,rfl⟩;refine⟨_,rfl,_,rfl,Ct (Ct ?_)⟩;have rd2:rwZ Z0=Bx (rwZ Z) x.1.1:=by rw[rd,P0.xn]
    exact⟨_,rfl,k pp [] [] o Z0 H' f3 D3 k3 p3 ⟨rfl,λi t r e=>by simp at e⟩ (λz=>by rw[xk] at z;cases z) (λ_=>⟨rfl,rd⟩) (by rw[rd2];exact P0.good.drop N60 P0.hx xk)⟩
   ·intro σ H' Q1 Q2 f h;obtain⟨v,e,h⟩:=h;obtain⟨c,e2,h⟩:=h;refine⟨v,e,c,e2,?_⟩;cases c with
    |false=>exact f _ _ h
    |true=>
     obtain⟨v2,e3,h⟩:=h;obtain⟨i,j,e4,e5,h⟩:=h;obtain⟨c2,e6,h⟩:=h;exact⟨v2,e3,i,j,e4,e5,c2,e6,f _ _ h⟩
  |true=>
   have M0:Mid N x.1 (x.2.1+1) (rwZ Z0):=by rw[rd,<-P0.xn];exact P0.good.gone N60 P0.hx xk
   have x1:((x.2.1+1:Nat):Int) - 1=(x.2.1:Int):=by omega
   have xl:x.2.1<=3:=by
    have:=(P0.good.ok x P0.hx).2.2.2;have:=lay_4 (N:Int);omega
   have hpN:=(P0.good.ok x P0.hx).2.1.1;have hqN:=(P0.good.ok x P0.hx).2.1.2.1;dsimp only[gName,tSeq];refine while_gh (λm σ H'=>∃(Z2:List RC) (p:Addr) (ts:List Addr) (F1:List Rd4) (u10 u11 u12 u13 u14 u15 u16:Option V),σ=[some (.ref d0),some (.int (N:Int)),some (.ref d),some (.str n),some (.int (x.1.2.1:Int)),some (.int (x.1.2.2.1:Int)),some (.int x.1.2.2.2),some (.int ((m:Int) - 1)),some (.bl true),some (.ref p),u10,u11,u12,u13,u14,u15,u16]/\LpS H H' d0 c d Z Z2 o p ts F1/\adZ Z2=adZ Z0/\F1.length+m<=61/\(m=0->LGood N (rwZ Z2))/\(0<m->Mid N x.1 m (rwZ Z2))/\(∀F2 Re,PapOk N x m (rwZ Z2) F2 Re->PapOk N x (x.2.1+1) (Bx (rwZ Z) n) (F1++F2) Re)) (m0:=x.2.1+1) ⟨Z0,pp,[],[],none,none,none,none,none,none,none,by rw[x1,<-xk];rfl,⟨f3,D3,k3,p3,⟨rfl,λi t r e=>by simp at e⟩⟩,rfl,by show 0+_<=61;omega,λz=>by omega,λ_=>M0,λF2 Re h=>by rw[rd] at h;exact h⟩ ?_ ?_
   ·rintro m σ H4 ⟨Z2,p,ts,F1,u10,u11,u12,u13,u14,u15,u16,rfl,S4,ad4,l4,g0,g1,cont⟩;cases m with
    |zero=>
     refine⟨_,rfl,_,rfl,iteT ⟨_,rfl,_,_,rfl,rfl,_,rfl,Be (λg=>absurd (of_decide_eq_true g) (by decide)) λ_=> ?_⟩⟩;exact⟨_,rfl,k p ts F1 o Z2 H4 S4.fr S4.dk S4.kn S4.pp S4.tl (λ_=>by have:=cont [] (rwZ Z2) ⟨rfl,rfl⟩;rwa [List.append_nil] at this) (λz=>by rw[xk] at z;cases z) (g0 rfl)⟩
    |succ L=>
     have eL:(((L+1:Nat):Int) - 1)=(L:Int):=by omega
     rw[eL];have M:=g1 (Nat.succ_pos L);clear g0 g1 M0 f3 D3 k3 p3;have fa2:∀b∈adZ Z2,b≠d0/\b≠c:=λb hb=>fa0 b (by rw[<-ad4];exact hb);have sa2:∀b∈adZ Z2,b∈adZ Z:=λb hb=>sa b (by rw[<-ad4];exact hb);refine⟨_,rfl,_,rfl,iteT ⟨_,rfl,_,_,rfl,rfl,_,rfl,Be (λ_=> ?_) λg=>absurd (decide_eq_true (by omega)) g⟩⟩;refine⟨_,rfl,_,rfl,_,rfl,_,rfl,_,rfl,small (by simp),λe he=> ?_⟩;have S5:=S4.same (Ad (o:= .lst [.int (x.1.2.1:Int),.int (x.1.2.2.1:Int)]) he);have e5:upd H4 e (.lst [.int (x.1.2.1:Int),.int (x.1.2.2.1:Int)]) e=some (.lst [.int (x.1.2.1:Int),.int (x.1.2.2.1:Int)]):=Ab;generalize upd H4 e (.lst [.int (x.1.2.1:Int),.int (x.1.2.2.1:Int)])=H5 at S5 e5 ⊢;clear he S4;have plN:PlN N (rwZ Z2):=λy hy=>⟨(M.ok y hy).2.1.1,(M.ok y hy).2.1.2.1⟩
     have nd:((rwZ Z2).map (·.1.1)).Nodup:=M.nd;refine⟨N,d,e,o,Z2,L,x,rfl,S5.kn,plN,N60,e5,hpN,hqN,λl qs H6 s6 e6 p6=> ?_⟩;have S6:=S5.same s6;have ql:qs.length=2:=p6.1;clear S5 s6 e5;refine⟨_,rfl,l,rfl,⟨_,SqL.of e6⟩,λD2 hD2=>Cj (K:=K) (a:=l) (xs:=qs.map V.ref) (λi σ zs H7=>∃(u:Option V),σ=[u]/\zs=(((Do N (tiF (rwZ Z2) (kpB L)) x).take i).map λp=>V.int (p.length:Int))/\Same H6 H7/\H7 D2=some (.lst zs)) ⟨none,rfl,rfl,Ad hD2,Ab⟩ (λi σ zs H7 _ ⟨_,_,_,s,e⟩=>⟨SqL.of (s _ _ e6),e⟩) ?_ ?_⟩
     ·rintro i v σ zs H7 hv ⟨u,rfl,rfl,s7,d7⟩;obtain⟨r,er,rfl⟩:=Ax hv;obtain⟨pt,ep,hpt⟩:=p6.get er;have i2:i<2:=by have:=(List.getElem?_eq_some_iff.mp er).1;omega
      refine⟨_,rfl,r,_,rfl,.inr (SqT.of (s7 _ _ hpt)),d7,Ak (by rw[List.length_map,List.length_take];omega),_,rfl,?_,Aq s7 hD2,Ab⟩;rw[A4 ep,List.map_append,List.map_cons,List.map_nil];unfold psV;rw[List.length_map]
     rintro σ zs H7 ⟨u,rfl,rfl,s7,d7⟩;have tl2:(Do N (tiF (rwZ Z2) (kpB L)) x).take (qs.map V.ref).length=Do N (tiF (rwZ Z2) (kpB L)) x:=by rw[List.length_map,ql];rfl
     rw[tl2] at d7;refine⟨D2,((Do N (tiF (rwZ Z2) (kpB L)) x).map List.length).map Int.ofNat,rfl,?_,by unfold Do;simp,λm' hm hl=> ?_⟩
     ·rw[List.map_map,List.map_map];exact SqL.of d7
     obtain⟨m,hm2,rfl⟩:=List.mem_map.mp hm;have hmin:∀n∈(Do N (tiF (rwZ Z2) (kpB L)) x).map List.length,m<=n:=λn hn=>by
      have:=hl (Int.ofNat n) (List.mem_map.mpr ⟨n,hn,rfl⟩);exact Int.ofNat_le.mp this
     have S7:=S6.same s7;have e7:=s7 _ _ e6;have p7:=p6.same λr xs e=>s7 r _ e;clear hl d7 s7 S6 e6 p6 tl2 hD2;refine⟨_,rfl,l,rfl,⟨_,SqL.of e7⟩,λD3 hD3=>Cj (K:=K) (a:=l) (xs:=qs.map V.ref) (λi σ zs H8=>∃(u:Option V) (qs':List Addr),σ=[u,some (.int (Int.ofNat m))]/\zs=qs'.map V.ref/\Same H7 H8/\H8 D3=some (.lst zs)/\qs'.length<=i/\PtA H8 qs' (((Do N (tiF (rwZ Z2) (kpB L)) x).take i).filter λp=>decide (p.length=m))) ⟨none,[],rfl,rfl,Ad hD3,Ab,Nat.le_refl _,rfl,λi r x e=>by simp at e⟩ (λi σ zs H8 _ ⟨_,_,_,_,s,e,_⟩=>⟨SqL.of (s _ _ e7),e⟩) ?_ ?_⟩
     ·rintro i v σ zs H8 hv ⟨u,qs',rfl,rfl,s8,d8,ql',p8⟩;obtain⟨r,er,rfl⟩:=Ax hv;obtain⟨pt,ep,hpt⟩:=p7.get er;have i2:i<2:=by have:=(List.getElem?_eq_some_iff.mp er).1;omega
      have h8:=s8 _ _ hpt;refine⟨_,rfl,r,_,rfl,.inr (SqT.of h8),_,rfl,rfl,_,rfl,Be (λg=> ?_) λg=> ?_⟩
      ·have g:pt.length=m:=by
        have:=V.int.inj (of_decide_eq_true g);unfold psV at this;rw[List.length_map] at this;exact Int.ofNat.inj this
       have kp:∀(r:Addr) (zs:List V) (o:HO),H8 r=some (.tup zs)->upd H8 D3 o r=some (.tup zs):=λr zs o e=>by rw[Aj (Cr e d8 (by intro z;cases z))];exact e
       refine⟨_,rfl,d8,Ak (by rw[List.length_map];omega),_,qs'++[r],rfl,by rw[List.map_append];rfl,Aq s8 hD3,Ab,by rw[List.length_append];simp;omega,?_⟩;rw[A4 ep,List.filter_append,List.filter_cons_of_pos (by simpa using g)];exact(p8.same λr xs e=>kp _ _ _ e).snoc (kp _ _ _ h8)
      ·have g:¬pt.length=m:=λz=>g (by
        refine decide_eq_true (congrArg V.int ?_);unfold psV;rw[List.length_map,z];rfl)
       refine⟨_,qs',rfl,rfl,s8,d8,by omega,?_⟩;rw[A4 ep,List.filter_append,List.filter_cons_of_neg (by simpa using g),List.filter_nil,List.append_nil];exact p8
     rintro σ zs H8 ⟨u,qs',rfl,rfl,s8,d8,ql',p8⟩;have tl2:(Do N (tiF (rwZ Z2) (kpB L)) x).take (qs.map V.ref).length=Do N (tiF (rwZ Z2) (kpB L)) x:=by rw[List.length_map,ql];rfl
     rw[tl2] at p8;have S8:=S7.same s8;have q1:1<=qs'.length:=by
      rw[p8.1];obtain⟨pt,hpt,ept⟩:=List.mem_map.mp hm2;exact List.length_pos_of_mem (List.mem_filter.mpr ⟨hpt,decide_eq_true ept⟩)
     have q2:qs'.length<=2:=by rw[List.length_map] at ql';omega
     have nD3:=Bz S7.dk hD3;clear S7 s8 e7 p7 tl2 hD3;refine⟨_,rfl,_,rfl,_,rfl,D3,_,rfl,.inl (SqL.of d8),d0,c,_,rfl,S8.dk,by rw[List.length_map];omega,by rw[List.length_map];omega,λv H9 v0 v1 b9 D9=> ?_⟩;obtain⟨v,rfl⟩:=Cs v0;rw[List.length_map] at v1;have hv:v<qs'.length:=by omega
     have S9:=S8.but b9 D9 P0.n1 P0.n2 fa2;have d9:=b9 _ _ d8 nD3.1 nD3.2;obtain⟨ps,eps,hps8⟩:=p8.get (Ck hv);have hps:=b9.tup S8.dk hps8;have hin:ps∈Do N (tiF (rwZ Z2) (kpB L)) x/\ps.length=m:=by
      have:=List.mem_filter.mp (List.mem_of_getElem? eps);exact⟨this.1,of_decide_eq_true this.2⟩
     have pleast:∀p∈Do N (tiF (rwZ Z2) (kpB L)) x,ps.length<=p.length:=λp hp=>by
      rw[hin.2];exact hmin _ (List.mem_map.mpr ⟨p,hp,rfl⟩)
     have av:(qs'.map V.ref)[v]? =some (.ref qs'[v]):=by rw[List.getElem?_map,Ck hv];rfl
     refine⟨D3,_,_,_,rfl,rfl,SqL.of d9,Ap av,?_⟩;generalize qs'[v]=pl at hps hps8 av ⊢;clear d9 d8 p8 q1 q2 nD3 hmin hm hm2 S8 b9 D9 av eps hps8 hv v1;refine⟨_,rfl,_,rfl,_,rfl,_,rfl,d,pl,o,Z2,L,2,ps,false,rfl,S9.kn,hps,λil H10 s10 hil i10=> ?_⟩;rw[of_loose] at i10;have S10:=S9.same s10;have hps:=s10 _ _ hps;have few:(rwZ Z2).length<=60:=M.len;have l60:=Nat.le_trans (loo_len (rwZ Z2) L ps 2) few;have nil:=Bz S9.dk hil;refine⟨d0,c,il,Bs (rwZ Z2) L ps 2,rfl,S10.dk,i10,nil.1,nil.2,l60,λkl ms H11 b11 D11 e11 hkl hms=> ?_⟩;have S11:=S10.but b11 D11 P0.n1 P0.n2 fa2;have hps:=b11.tup S10.dk hps;have nkl:=S10.kn.fresh hkl;have nkd:=Bz S10.dk hkl;clear S9 S10 s10 hil i10 nil b11 D11 hkl;have msn:ms.Nodup:=(hms.nodup_iff).mpr (asc_nd (loose_asc S11.kn.up L ps 2));have msin:∀n∈ms,n∈Bs (rwZ Z2) L ps 2:=λn hn=>hms.mem_iff.mp hn;have ms60:ms.length<=60:=by rw[hms.length_eq];exact l60
     refine⟨_,rfl,_,rfl,_,rfl,d,pl,o,Z2,L,1,ps,false,rfl,S11.kn,hps,λal H12 s12 hal a12=> ?_⟩;rw[of_loose] at a12;have S12:=S11.same s12;have hps:=s12 _ _ hps;have e12:=s12 _ _ e11;have nal:=S11.kn.fresh hal;have nad:=Bz S11.dk hal;have al60:=Nat.le_trans (loo_len (rwZ Z2) L ps 1) few;clear S11 s12 e11 hal;refine⟨_,rfl,_,rfl,_,rfl,_,rfl,d,pl,o,Z2,L,2,ps,true,rfl,S12.kn,hps,λol H13 s13 hol o13=> ?_⟩;have S13:=S12.same s13;have hps:=s13 _ _ hps;have e13:=s13 _ _ e12;have a13:=s13 _ _ a12;clear S12 s13 e12 a12 hol;have ond:(ofF (rwZ Z2) L ps true 2).Nodup:=by
      unfold ofF;exact nd.sublist (List.filter_sublist.map _)
     refine⟨d,ol,o,Z2,ofF (rwZ Z2) L ps true 2,rfl,S13.kn,o13,ond,(λn hn=>by rw[nmZ_rw];exact of_in hn),λH14 b14 k14=> ?_⟩;have S14:=S13.bt b14 k14 fa2 sa2;have hps:=b14.tup S13.kn hps;have e14:=b14 _ _ e13 nkl;have a14:=b14 _ _ a13 nal;clear S13 b14 k14 e13 a13 o13;have hA:∀n∈ofF (rwZ Z2) L ps true 2,n ∉ ms:=λn hn hm=>by
      obtain⟨y,yR,yn,h1,h2,h3⟩:=loose_mem nd (msin n hm);rw[<-yn] at hn;have:=(mem_of nd yR L ps true 2).mp hn;rw[h2] at this;exact absurd this.2.1 (by decide)
     have nmR:nmZ (Bh (ofF (rwZ Z2) L ps true 2) Z2)=nmZ Z2:=nmZ_tie (riseZ_tie _ _);have adR:adZ (Bh (ofF (rwZ Z2) L ps true 2) Z2)=adZ Z2:=riseZ_ad _ _;have msnm:∀n∈ms,n∈nmZ Z2:=λn hn=>by
      obtain⟨y,yR,yn,_⟩:=loose_mem nd (msin n hn);rw[nmZ_rw,<-yn];exact List.mem_map.mpr ⟨y,yR,rfl⟩
     have nn2:(nmZ Z2).Nodup:=by rw[nmZ_rw];exact nd
     have na2:(adZ Z2).Nodup:=by have:=S14.kn.nd;rwa [adR] at this
     refine⟨_,rfl,small (by simp),λE1 hE1=> ?_⟩;have s15:=Ad (o:= .lst []) hE1;have S15:=S14.same s15;have hps:=s15 _ _ hps;have e15:=s15 _ _ e14;have a15:=s15 _ _ a14;have E15:upd H14 E1 (.lst []) E1=some (.lst []):=Ab;generalize upd H14 E1 (.lst [])=H15 at S15 hps e15 a15 E15 ⊢;clear S14 s15 e14 a14 hE1;refine⟨al,E1,_,rfl,rfl,SqL.of a15,SqL.of E15,_,rfl,?_⟩;cases hlo:Bs (rwZ Z2) L ps 1 with
     |nil=>
      refine Ct ?_;dsimp only[Br];have Dk:DealOk N x (rwZ Z2) L (L,ps,ms,none):=⟨rfl,hin.1,pleast,msn,msin,(λf hf=>by cases hf),λ_=>⟨hlo,hms.length_eq⟩⟩
      refine⟨_,_,_,_,d0,d,pl,kl,p,N,L,n,_,_,_,o,Bh (ofF (rwZ Z2) L ps true 2) Z2,ps,ms,none,ts,F1,rfl,S15.kn,hps,e15,by rw[adR];exact nkl,msn,(λn hn=>by rw[nmR];exact msnm n hn),ms60,S15.pp,S15.tl,by omega,λp' ts' H16 b16 k16 e16 T16=> ?_⟩;rw[rise_two hA] at k16;have er:rwZ (Bh (ofF (rwZ Z2) L ps true 2++ms) Z2)=Du (rwZ Z2) (L,ps,ms,none):=by rw[riseZ_rw];exact step_none nd L ps ms
      refine⟨L,Nat.lt_succ_self L,Bh (ofF (rwZ Z2) L ps true 2++ms) Z2,p',ts',F1++[(L,ps,ms,none)],_,_,_,_,_,_,_,rfl,⟨?_,S15.dk.bt b16 (by rw[adR];exact fa2),k16,e16,T16⟩,by rw[riseZ_ad];exact ad4,by rw[List.length_append];simp;omega,λz=> ?_,λz=> ?_,λF2 Re h=> ?_⟩
      ·exact λb u e m1 m2 m3 m4=>b16 _ _ (S15.fr b u e m1 m2 m3 m4) λz=>m4 (sa2 _ (by rw[adR] at z;exact z))
      ·subst z;rw[er];exact(Dk.next M N24 rfl).good N60
      ·rw[er];exact Dk.next M N24 rfl
      ·rw[er] at h;exact pap_next Dk cont rfl F2 Re h
     |cons f0 rest=>
      refine iteT ?_;rw[hlo] at a15 al60;have al1:(f0::rest).length<=60:=al60;refine⟨_,rfl,_,rfl,_,rfl,al,_,rfl,.inl (SqL.of a15),d0,c,_,rfl,S15.dk,by rw[List.length_map];show 0<(((rest.length+1:Nat)):Int);omega,by rw[List.length_map];omega,λv H16 v0 v1 b16 D16=> ?_⟩;obtain⟨v,rfl⟩:=Cs v0;rw[List.length_map] at v1;have hv:v<(f0::rest).length:=by omega
      have fa3:∀b∈adZ (Bh (ofF (rwZ Z2) L ps true 2) Z2),b≠d0/\b≠c:=λb hb=>fa2 b (by rw[adR] at hb;exact hb);have S16:=S15.but b16 D16 P0.n1 P0.n2 fa3;have hps:=b16.tup S15.dk hps;have e16:=b16 _ _ e15 nkd.1 nkd.2;have a16:=b16 _ _ a15 nad.1 nad.2;have av:((f0::rest).map V.str)[v]? =some (.str (f0::rest)[v]):=by rw[List.getElem?_map,Ck hv];rfl
      have hfl:(f0::rest)[v]∈Bs (rwZ Z2) L ps 1:=by rw[hlo];exact List.getElem_mem hv
      refine⟨al,_,_,_,rfl,rfl,SqL.of a16,Ap av,?_⟩;generalize (f0::rest)[v]=f at hfl av ⊢;clear S15 b16 D16 e15 a15 a16 av v1 hv v0;refine⟨_,rfl,_,rfl,_,rfl,kl,_,rfl,.inl (SqL.of e16),_,_,rfl,rfl,d0,c,_,rfl,S16.dk,by rw[List.length_map];omega,by rw[List.length_map];omega,λv2 H17 w0 w1 b17 D17=> ?_⟩;obtain⟨v2,rfl⟩:=Cs w0;rw[List.length_map] at w1;have S17:=S16.but b17 D17 P0.n1 P0.n2 fa3;have hps:=b17.tup S16.dk hps;have e17:=b17 _ _ e16 nkd.1 nkd.2;refine⟨_,rfl,kl,_,rfl,SqL.of e17,λk2 hk2=> ?_⟩;rw[cut_take ms v2 (by omega)];have s18:=Ad (o:= .lst ((ms.take v2).map V.str)) hk2;have e18:upd H17 k2 (.lst ((ms.take v2).map V.str)) k2=some (.lst ((ms.take v2).map V.str)):=Ab;have S18:=S17.same s18;have hps:=s18 _ _ hps;have nk2:=S17.kn.fresh hk2;generalize upd H17 k2 (.lst ((ms.take v2).map V.str))=H18 at s18 e18 S18 hps ⊢;clear S16 S17 b17 D17 e16 e17 hk2 s18 w1 w0;obtain⟨y,yR,yf,y1,y2,y3⟩:=loose_mem nd hfl;obtain⟨z,hz,rfl⟩:=List.mem_map.mp yR;have yf:z.1.1.1=f:=yf;subst yf;have nA:z.1.1.1 ∉ ofF (rwZ Z2) L ps true 2:=λh=>by
       have:=(mem_of nd yR L ps true 2).mp h;rw[y2] at this;exact absurd this.2.1 (by decide)
      have nks:∀n∈ms.take v2,n∈Bs (rwZ Z2) L ps 2:=λn hn=>msin n (List.mem_of_mem_take hn);have nK:z.1.1.1 ∉ ms.take v2:=λh=>by
       have:=(mem_loose nd yR L ps 2).mp (nks _ h);rw[y3] at this;exact absurd this.2.2 (by decide)
      have rz:(B8 (ofF (rwZ Z2) L ps true 2) z.1,z.2)=z:=by unfold B8;rw[if_neg nA]
      have hz3:z∈Bh (ofF (rwZ Z2) L ps true 2) Z2:=List.mem_map.mpr ⟨z,hz,rz⟩;have c18:=S18.kn.cel z hz3;refine⟨_,rfl,_,rfl,d,_,rfl,S18.kn.get hz3,z.2,_,4,4,rfl,rfl,c18,rfl,?_⟩;have k19:=S18.kn.put hz3 (x:=(z.1.1,z.1.2.1,true)) rfl;have b19:BtZ (Bh (ofF (rwZ Z2) L ps true 2) Z2) H18 (upd H18 z.2 (.lst (Dh (z.1.1,z.1.2.1,true)))):=λb u e nb=>by
       rw[Aj (λy=>nb (by rw[y];exact List.mem_map.mpr ⟨z,hz3,rfl⟩))];exact e
      have S19:=S18.bt b19 k19 fa3 (λb hb=>sa2 b (by rw[adR] at hb;exact hb));have hps:=b19.tup S18.kn hps;have e19:=b19 _ _ e18 nk2;have adP:adZ (putZ (Bh (ofF (rwZ Z2) L ps true 2) Z2) z.2 (z.1.1,z.1.2.1,true))=adZ Z2:=by rw[adZ_put,adR]
      have nmP:nmZ (putZ (Bh (ofF (rwZ Z2) L ps true 2) Z2) z.2 (z.1.1,z.1.2.1,true))=nmZ Z2:=by
       rw[nmZ_tie (tie_put (x:=(z.1.1,z.1.2.1,true)) S18.kn.nd hz3 rfl),nmR]
      have nk3:k2 ∉ adZ (putZ (Bh (ofF (rwZ Z2) L ps true 2) Z2) z.2 (z.1.1,z.1.2.1,true)):=by rw[adZ_put];exact nk2
      dsimp only[Br];show tPap _ _ (upd H18 z.2 (.lst (Dh (z.1.1,z.1.2.1,true))));generalize upd H18 z.2 (.lst (Dh (z.1.1,z.1.2.1,true)))=H19 at k19 b19 S19 hps e19 ⊢;clear S18 b19 k19 e18 c18;have Dk:DealOk N x (rwZ Z2) L (L,ps,ms.take v2,some z.1.1.1):=⟨rfl,hin.1,pleast,msn.sublist (List.take_sublist _ _),nks,(λf hf=>by cases hf;exact hfl),λh=>by cases h⟩
      refine⟨_,_,_,_,d0,d,pl,k2,p,N,L,n,_,_,_,o,putZ (Bh (ofF (rwZ Z2) L ps true 2) Z2) z.2 (z.1.1,z.1.2.1,true),ps,ms.take v2,some z.1.1.1,ts,F1,rfl,S19.kn,hps,e19,nk3,msn.sublist (List.take_sublist _ _),(λn hn=>by rw[nmP];exact msnm n (List.mem_of_mem_take hn)),by rw[List.length_take];omega,S19.pp,S19.tl,by omega,λp' ts' H16 b16 k16 e16 T16=> ?_⟩;have hA2:∀n∈ofF (rwZ Z2) L ps true 2,n ∉ ms.take v2:=λn hn h=>hA n hn (List.mem_of_mem_take h);rw[rise_put (x:=(z.1.1,z.1.2.1,true)) nK,rise_two hA2] at k16;have er:rwZ (putZ (Bh (ofF (rwZ Z2) L ps true 2++ms.take v2) Z2) z.2 (z.1.1,z.1.2.1,true))=Du (rwZ Z2) (L,ps,ms.take v2,some z.1.1.1):=step_some na2 nn2 L ps (ms.take v2) hz hfl nks;refine⟨0,Nat.succ_pos L,putZ (Bh (ofF (rwZ Z2) L ps true 2++ms.take v2) Z2) z.2 (z.1.1,z.1.2.1,true),p',ts',F1++[(L,ps,ms.take v2,some z.1.1.1)],_,_,_,_,_,_,_,rfl,⟨?_,S19.dk.bt b16 (by rw[adP];exact fa2),k16,e16,T16⟩,by rw[adZ_put,riseZ_ad];exact ad4,by rw[List.length_append];simp;omega,λ_=> ?_,λz=>absurd z (Nat.lt_irrefl 0),λF2 Re h=> ?_⟩
      ·exact λb u e m1 m2 m3 m4=>b16 _ _ (S19.fr b u e m1 m2 m3 m4) λz=>m4 (sa2 _ (by rw[adP] at z;exact z))
      ·rw[er];exact Dk.last M N24 (by intro z;cases z)
      ·rw[er] at h;exact pap_last Dk cont (by intro z;cases z) F2 Re h
   ·intro σ H' Q1 Q2 f h;obtain⟨v,e,h⟩:=h;obtain⟨c,e2,h⟩:=h;refine⟨v,e,c,e2,?_⟩;cases c with
    |false=>exact f _ _ h
    |true=>
     obtain⟨v2,e3,h⟩:=h;obtain⟨i,j,e4,e5,h⟩:=h;obtain⟨c2,e6,h⟩:=h;exact⟨v2,e3,i,j,e4,e5,c2,e6,f _ _ h⟩
end
end K39
namespace K39
open PySem L2 Wk
def kpN(b:Bool)(R:List R6):List Str:=(R.filter λx=>decide (x.2.2=b)).map (·.1.1)
theorem kp_snoc{b:Bool}{R:List R6}{x:R6}:kpN b (R++[x])=kpN b R++(if x.2.2=b then [x.1.1] else []):=by
 unfold kpN;rw[List.filter_append,List.map_append]
 congr 1
 rw[List.filter_cons,List.filter_nil];by_cases g:x.2.2=b
 ·rw[if_pos g,if_pos (decide_eq_true g)];rfl
 ·rw[if_neg g,if_neg (by simpa using g)];rfl
theorem kp_len(b:Bool)(R:List R6):(kpN b R).length<=R.length:=by
 unfold kpN;rw[List.length_map];exact List.length_filter_le _ _
theorem kp_in{b:Bool}{R:List R6}{n:Str}(h:n∈kpN b R):∃x∈R,x.1.1=n:=by
 unfold kpN at h;obtain⟨x,hx,e⟩:=List.mem_map.mp h;exact⟨x,(List.mem_filter.mp hx).1,e⟩
def spLaw(K:PySem.W.Frag):Sp:=λvs H Q _=>∃(s:Addr) (ns:List Int),vs=[.ref s]/\SqL K H s (ns.map V.int)/\ns.length<=63/\∀H',Q (.bl true) H'
def tLaw:TS:=λD σ H=>∃(s d c ln l:Addr) (u3:Addr) (N:Nat) (tp:Addr) (rs:List Addr) (R:List R6) (ms:List Str),σ=[some (.ref s),some (.ref d),some (.int (N:Int)),some (.ref tp),some (.ref ln),some (.ref l),none,none,none,none]/\DeckAt H d c/\1<=N/\N<=24/\H tp=some (.tup (rs.map V.ref))/\RowsAt H rs R/\Stand N R/\H l=some (.lst (ms.map V.str))/\l≠d/\l≠c/\ms.length<=60/\(∀m∈ms,∃x∈R,x.1.1=m)/\∀H',D.rt (.bl true) H'
section
variable{P:Program}{w:World}{K:PySem.W.Frag}{mg:Str->Option Value}{base:Heap}
theorem scLaw:Av ["_law_script","_law_deck_here","_law_many_here","_law_rows_here","_law_names_here","_law_kept_names","_law_name","_law_known_here","_law_paper_here","_law_thing"] ["_law_script"] (Ag sLaw):=⟨rfl,rfl,rfl,by decide+kernel,rfl,by decide+kernel,by decide+kernel⟩
theorem ok_Law{f:Addr}{fd:FuncData}(F:Fun K "law" "law" sLaw f fd)(T:Txt mg)(GDeck:Cl P w K mg base 8 "_law_deck" ["_law_script"] (spDeck K))(GStand:Cl P w K mg base 8 "_law_stand" ["_law_deck_here","_law_most"] spStand)(GSome:Cl P w K mg base 8 "_law_some" ["_law_deck_here","_law_names_here","_law_most"] spSome)(GKnown:Cl P w K mg base 8 "_law_known" ["_law_rows_here"] spKnown)(GPaper:Cl P w K mg base 8 "_law_paper" ["_law_deck_here","_law_many_here","_law_known_here","_law_name"] spPaper)(GRows:Cl P w K mg base 8 "_law_rows" ["_law_known_here"] spRowsL)(GGoing:Cl P w K mg base 8 "going_holds" ["layers","name","thing"] spGoing):
  FnOk P w K mg base CX0 9 f fd ["_law_script"] (spLaw K):=by
 refine F.ok scLaw (λvs H Q E h=> ?_) (λcdv A outer s H vs Q E hr h=> ?_)
 ·obtain⟨_,_,rfl,_⟩:=h;rfl
 ·obtain⟨s,ns,rfl,hS,hl,k⟩:=h;refine⟨_,Ae (Aw (i:=1) scLaw.nd rfl (Or.inl rfl) (At GDeck hr (Aa (pv 0) Ac)))
   (Ae (Cz (At GStand hr (Aa (pv 1) (Aa Af Ac))) (Co rfl (Al (Ah (i:=2) scLaw.nd rfl (Or.inl rfl)) (Al (Ah (i:=3) scLaw.nd rfl (Or.inl rfl)) (Al (Ah (i:=4) scLaw.nd rfl (Or.inl rfl)) Bf)))))
   (Ae (Aw (i:=5) scLaw.nd rfl (Or.inl rfl) (At GSome hr (Aa (pv 1) (Aa (A5 (T:=["_law_row"]) (F:=[]) (js:=[]) (cs (osc:=Ag sLaw)) rfl (Dm (pv 3)) (λ_ _ _ _ _=>Ah (i:=0) (show (["_law_row"]:List Str).Nodup by decide+kernel) rfl (Or.inl rfl)) (λ_ _ _ _ _=>Ci (Bd (A1 (r:=rIxT K) Cg (pv 0) Af (λ_ _=>rfl)))) (λ_ _ _ _ _=>A1 (r:=rIxT K) Cg (pv 0) Af (λ_ _=>rfl))) (Aa Af Ac)))))
   (PSs.imp' (t':=tLaw) (Ae (Dx PassesOwn.never rfl (Ce (Az op_cat (Az op_rep (pv 5) Af) (At GSome hr (Aa (pv 1) (Aa (A5 (T:=["_law_row"]) (F:=[]) (js:=[]) (cs (osc:=Ag sLaw)) rfl (Dm (pv 3)) (λ_ _ _ _ _=>Ah (i:=0) (show (["_law_row"]:List Str).Nodup by decide+kernel) rfl (Or.inl rfl)) (λ_ _ _ _ _=>Ci (Bu (Bd (A1 (r:=rIxT K) Cg (pv 0) Af (λ_ _=>rfl))))) (λ_ _ _ _ _=>A1 (r:=rIxT K) Cg (pv 0) Af (λ_ _=>rfl))) (Aa Af Ac)))))) (Ah (i:=6) scLaw.nd rfl (Or.inl rfl)) (Ae (Aw (i:=7) scLaw.nd rfl (Or.inl rfl) (At GKnown hr (Aa (pv 3) Ac)))
   (Ae (Aw (i:=8) scLaw.nd rfl (Or.inl rfl) (At GPaper hr (Aa (pv 1) (Aa (pv 2) (Aa (pv 7) (Aa (pv 6) Ac))))))
   (Ae (Aw (i:=9) scLaw.nd rfl (Or.inl rfl) (Bk (Aa (Bk (Aa (pv 2) (Aa (At GRows hr (Aa (pv 7) Ac)) Ac))) (Aa (pv 8) Ac))))
   (Ai (Bi (PW.pt (pw_or (Au op_isnotB (At GGoing hr (Aa (Bk (Aa (pv 2) (Aa (pv 3) Ac))) (Aa (pv 6) (Aa (pv 9) Ac)))) Ch (Ay _)) (Ds (Au op_isnotB (At GGoing hr (Aa (Bk (Aa (pv 2) (Aa (pv 3) Ac))) (Aa (pv 6) (Aa (pv 9) Ac)))) Ch (Ay _))))) (Ai (Ao Ch)) A2))))))
   (Ai (Ao Ch))) ?loop))),?_⟩
  case loop=>
   clear hS hl k;rintro Dd σ H2 ⟨s,d,c,ln,l,u3,N,tp,rs,R,ms,rfl,D2,N1,N24,ht,hR,S,hl,nld,nlc,m60,hm,k⟩;have R60:=S.len;refine⟨_,rfl,l,3,ms.map V.str,rfl,rfl,hl,by decide,by decide,Nat.le_of_lt (Ak (by rw[List.length_map];show ms.length * 3<=1000;omega)),λl3 hl3=> ?_⟩;have e3':(List.replicate (3:Int).toNat (ms.map V.str)).flatten=(ms++(ms++ms)).map V.str:=by
    show (ms.map V.str)++((ms.map V.str)++((ms.map V.str)++[]))=_;rw[List.append_nil,List.map_append,List.map_append]
   rw[e3'];have sA:=Ad (o:= .lst ((ms++(ms++ms)).map V.str)) hl3;have l3e:upd H2 l3 (.lst ((ms++(ms++ms)).map V.str)) l3=some (.lst ((ms++(ms++ms)).map V.str)):=Ab;have n3:=Bz D2 hl3;have D2:=D2.same sA;have ht:=sA _ _ ht;have hR:=hR.mono λr xs e=>sA r (.tup xs) e;generalize upd H2 l3 (.lst ((ms++(ms++ms)).map V.str))=H2 at D2 ht hR l3e ⊢;clear sA hl3 e3' hl;refine⟨_,rfl,_,rfl,tp,rfl,⟨_,SqT.of ht⟩,λD hD=>Cd (K:=K) (a:=tp) (xs:=rs.map V.ref) (λj σ ys H3=>∃u:Option V,σ=[u]/\ys=(kpN false (R.take j)).map V.str/\Same H2 H3/\H3 D=some (.lst ys)) ⟨none,rfl,rfl,Ad hD,Ab⟩ (λj σ ys H3 _ ⟨_,_,_,s,e⟩=>⟨SqT.of (s _ _ ht),e⟩) ?_ ?_⟩
   ·rintro j x σ ys H3 hx ⟨u,rfl,rfl,s3,d3⟩;obtain⟨r',er,rfl⟩:=Ax hx;obtain⟨y,ey,hy⟩:=hR.get er;have tk:=A4 ey;refine⟨_,rfl,r',_,5,_,rfl,rfl,SqT.of (s3 _ _ hy),Ap (j:=5) rfl,_,rfl,Be (λg=> ?_) λg=> ?_⟩
    ·have g:y.2.2=false:=by cases h:y.2.2 with
      |false=>rfl
      |true=>rw[h] at g;cases g
     refine⟨_,rfl,r',_,0,_,rfl,rfl,SqT.of (s3 _ _ hy),Ap (j:=0) rfl,d3,Ak (by rw[List.length_map];exact Nat.le_trans (kp_len _ _) (Nat.le_trans (List.length_take_le' _ _) (by omega))),_,rfl,?_,Aq s3 hD,Ab⟩;rw[tk,kp_snoc,if_pos g,List.map_append];rfl
    ·have g:¬y.2.2=false:=λz=>g (by rw[z];rfl);refine⟨_,rfl,?_,s3,d3⟩;rw[tk,kp_snoc,if_neg g,List.append_nil]
   rintro σ ys H3 ⟨u,rfl,rfl,s3,d3⟩;rw[List.length_map,hR.1,List.take_length] at d3;have fD:=Bz D2 hD;refine⟨d,c,D,3,kpN false R,rfl,D2.same s3,d3,fD.1,fD.2,Nat.le_trans (kp_len _ R) R60,by decide,λl2 ms2 H4 b4 D4 hl2 _ _ m260 hm2=> ?_⟩;have tup:∀(r:Addr) (xs:List V),H2 r=some (.tup xs)->H4 r=some (.tup xs):=λr xs e=>b4.tup (D2.same s3) (s3 _ _ e);have ht:=tup _ _ ht;have hR:=hR.mono tup;have l34:=b4 _ _ (s3 _ _ l3e) n3.1 n3.2;have hall:∀n∈(ms++(ms++ms))++ms2,∃x∈R,x.1.1=n:=λn hn=>by
    rcases List.mem_append.mp hn with hn|hn
    ·refine hm n ?_;rcases List.mem_append.mp hn with hn|hn
     ·exact hn
     ·rcases List.mem_append.mp hn with hn|hn
      ·exact hn
      ·exact hn
    ·exact kp_in (hm2 n hn)
   have lall:((ms++(ms++ms))++ms2).length<=240:=by simp only[List.length_append];omega
   refine⟨l3,l2,_,_,rfl,rfl,l34,hl2,Nat.le_of_lt (Ak (by rw[List.length_map,List.length_map];simp only[List.length_append] at lall ⊢;omega)),λnl hnl=> ?_⟩;rw[<-List.map_append];generalize (ms++(ms++ms))++ms2=mm at hall lall ⊢;have sB:=Ad (o:= .lst (mm.map V.str)) hnl;have eB:upd H4 nl (.lst (mm.map V.str)) nl=some (.lst (mm.map V.str)):=Ab;have nn:=Bz D4 hnl;have D5:=D4.same sB;have ht:=sB _ _ ht;have hR:=hR.mono λr xs e=>sB r (.tup xs) e;generalize upd H4 nl (.lst (mm.map V.str))=H5 at D5 ht hR eB ⊢;clear sB hnl l34 hl2 tup b4 D4 s3 d3 fD hD hm2 hm D2 l3e n3;have hPl:PlN N R:=λy hy=>⟨(S.ok y hy).2.1.1,(S.ok y hy).2.1.2.1⟩
   refine⟨nl,rfl,⟨_,SqL.of eB⟩,for_list (K:=K) (a:=nl) (xs:=mm.map V.str) (λj σ H6=>∃u6 u7 u8 u9:Option V,σ=[some (.ref s),some (.ref d),some (.int (N:Int)),some (.ref tp),some (.ref ln),some (.ref l),u6,u7,u8,u9]/\But d c H5 H6/\DeckAt H6 d c) ⟨none,none,none,none,rfl,But.of_same (same_refl _),D5⟩ (λj σ H6 _ ⟨_,_,_,_,_,b,_⟩=>SqL.of (b _ _ eB nn.1 nn.2)) ?_ ?_⟩
   ·rintro j x0 σ H6 hx0 ⟨u6,u7,u8,u9,rfl,b6,D6⟩;obtain⟨n,en,rfl⟩:=Ax hx0;obtain⟨x,hx,xn⟩:=hall n (List.mem_of_getElem? en);have tup6:∀(r:Addr) (xs:List V),H5 r=some (.tup xs)->H6 r=some (.tup xs):=λr xs e=>b6.tup D5 e;have ht6:=tup6 _ _ ht;have hR6:=hR.mono tup6;refine⟨_,rfl,tp,rs,R,rfl,ht6,hR6,R60,S.nd,λdk Z H7 s7 e7 hdk rz cz nz fz=> ?_⟩;have few:Z.length<=60:=by
     have:=congrArg List.length rz;unfold rwZ at this;rw[List.length_map] at this;omega
    have nk:=Bz D6 hdk;have D7:=D6.same s7;have P0:PIn H7 d c dk Z N n x:=⟨e7,cz,few,by rw[rz];exact S.up,nz,by rw[rz];exact S.good,N24,by rw[rz];exact hx,xn,nk.1,nk.2,λb hb=>Bz D6 (fz b hb)⟩
    refine⟨_,rfl,_,rfl,_,rfl,_,rfl,d,c,dk,Z,N,n,x,rfl,D7,P0,λp ts F o Z' H8 f8 D8 k8 p8 T8 hk8 hn8 g8=> ?_⟩;rw[rz] at hk8 hn8;have b8:But d c H5 H8:=λb u e n1 n2=>by
     have e6:=b6 b u e n1 n2;refine f8 b u (s7 _ _ e6) n1 n2 (λz=> ?_) λz=> ?_
     ·rw[z,hdk] at e6;cases e6
     ·rw[fz b z] at e6;cases e6
    have tup8:∀(r:Addr) (xs:List V),H5 r=some (.tup xs)->H8 r=some (.tup xs):=λr xs e=>b8.tup D5 e;have ht8:=tup8 _ _ ht;have hR8:=hR.mono tup8;clear f8 P0 D7 e7 cz nz fz hdk nk few s7 ht6 hR6 tup6 b6 D6;refine⟨_,rfl,_,rfl,dk,o,Z',rfl,k8,λtq qs H9 s9 e9 r9=>⟨small (by simp),λb hb=>⟨_,rfl,small (by simp),λg hg=> ?_⟩⟩⟩;have s10:=Ad (H:=H9) (o:= .tup [.int (N:Int),.ref tq]) hb;have b10:upd H9 b (.tup [.int (N:Int),.ref tq]) b=some (.tup [.int (N:Int),.ref tq]):=Ab;generalize upd H9 b (.tup [.int (N:Int),.ref tq])=H10 at s10 b10 hg ⊢;have s11:=Ad (o:= .tup [.ref b,.ref p]) hg;have g11:upd H10 g (.tup [.ref b,.ref p]) g=some (.tup [.ref b,.ref p]):=Ab;generalize upd H10 g (.tup [.ref b,.ref p])=H11 at s11 g11 ⊢;have s8:Same H8 H11:=(s9.trans s10).trans s11;have L11:LayAt H11 b N (rwZ Z'):=⟨tq,qs,s11 _ _ b10,s11 _ _ (s10 _ _ e9),r9.mono λr xs e=>s11 _ _ (s10 _ _ e)⟩
    have G:GoIn N R (rwZ Z') n x F:=⟨N1,N24,R60,S.up,hPl,hx,xn,λy hy yn=>one_of S.nd hx hy (yn.trans xn.symm),g8,k8.up,hk8,hn8⟩
    refine⟨_,rfl,_,rfl,small (by simp),λh1 hh1=>⟨_,rfl,_,rfl,?_⟩⟩;have s12:=Ad (o:= .tup [.int (N:Int),.ref tp]) hh1;have s8':=s8.trans s12;refine⟨h1,g,b,p,N,R,rwZ Z',n,x,F,ts,rfl,⟨tp,rs,Ab,s8' _ _ ht8,hR8.mono λr xs e=>s8' _ _ e⟩,G,s12 _ _ g11,L11.same s12,s8' _ _ p8,T8.mono λr xs e=>s8' _ _ e,λH12 s13=>⟨true,true,rfl,rfl,_,rfl,Ct ?_⟩⟩;have s9:=s8'.trans s13;have s14:=s12.trans s13;refine⟨_,rfl,_,rfl,small (by simp),λh2 hh2=>⟨_,rfl,_,rfl,?_⟩⟩;have s15:=Ad (o:= .tup [.int (N:Int),.ref tp]) hh2;have s16:=s9.trans s15;have s17:=s14.trans s15;refine⟨h2,g,b,p,N,R,rwZ Z',n,x,F,ts,rfl,⟨tp,rs,Ab,s16 _ _ ht8,hR8.mono λr xs e=>s16 _ _ e⟩,G,s17 _ _ g11,L11.same s17,s16 _ _ p8,T8.mono λr xs e=>s16 _ _ e,λH13 s18=>⟨true,true,rfl,rfl,_,rfl,Ct ?_⟩⟩;have sf:=s16.trans s18;exact⟨_,_,_,_,rfl,λb u e n1 n2=>sf _ _ (b8 b u e n1 n2),D8.same sf⟩
   rintro σ H6 ⟨u6,u7,u8,u9,rfl,b6,D6⟩;exact k H6
  refine⟨_,rfl,s,ns,rfl,hS,hl,λd c H1 s1 D1=> ?_⟩;refine⟨_,rfl,d,c,36,rfl,D1,by decide,λr tp ln N rs R zs H2 b2 D2 er N1 N24 ht hR S hln zl nd nc=>⟨r,_,rfl,SqT.of er,rfl,_,_,rfl,_,_,rfl,_,_,rfl,rfl,?_⟩⟩;clear b2 s1 er hS hln zl nd nc D1;have R60:=S.len;refine⟨_,rfl,_,rfl,tp,rfl,⟨_,SqT.of ht⟩,λD hD=>Cd (K:=K) (a:=tp) (xs:=rs.map V.ref) (λj σ ys H3=>∃u:Option V,σ=[u]/\ys=(kpN true (R.take j)).map V.str/\Same H2 H3/\H3 D=some (.lst ys)) ⟨none,rfl,rfl,Ad hD,Ab⟩ (λj σ ys H3 _ ⟨_,_,_,s,e⟩=>⟨SqT.of (s _ _ ht),e⟩) ?_ ?_⟩
  ·rintro j x σ ys H3 hx ⟨u,rfl,rfl,s3,d3⟩;obtain⟨r',er,rfl⟩:=Ax hx;obtain⟨y,ey,hy⟩:=hR.get er;have tk:=A4 ey;refine⟨_,rfl,r',_,5,_,rfl,rfl,SqT.of (s3 _ _ hy),Ap (j:=5) rfl,_,rfl,Be (λg=> ?_) λg=> ?_⟩
   ·have g:y.2.2=true:=g;refine⟨_,rfl,r',_,0,_,rfl,rfl,SqT.of (s3 _ _ hy),Ap (j:=0) rfl,d3,Ak (by rw[List.length_map];exact Nat.le_trans (kp_len _ _) (Nat.le_trans (List.length_take_le' _ _) (by omega))),_,rfl,?_,Aq s3 hD,Ab⟩;rw[tk,kp_snoc,if_pos g,List.map_append];rfl
   ·have g:¬y.2.2=true:=g;refine⟨_,rfl,?_,s3,d3⟩;rw[tk,kp_snoc,if_neg g,List.append_nil]
  rintro σ ys H3 ⟨u,rfl,rfl,s3,d3⟩;rw[List.length_map,hR.1,List.take_length] at d3;have fD:=Bz D2 hD;refine⟨d,c,D,4,kpN true R,rfl,D2.same s3,d3,fD.1,fD.2,Nat.le_trans (kp_len _ R) R60,by decide,λl ms H4 b4 D4 hl4 nl1 nl2 m60 hm=> ?_⟩;have tup:∀(r:Addr) (xs:List V),H2 r=some (.tup xs)->H4 r=some (.tup xs):=λr xs e=>b4.tup (D2.same s3) (s3 _ _ e);exact⟨s,d,c,ln,l,0,N,tp,rs,R,ms,rfl,D4,N1,N24,tup _ _ ht,hR.mono tup,S,hl4,nl1,nl2,m60,λm h=>kp_in (hm m h),k⟩
end
end K39
namespace K39
open PySem L2 Wk
theorem us1{fd:FuncData}{ps:List Str}(hp:ps.length=1)(h:∀a0:Value,bindArgs fd ⟨[a0],[]⟩=pure (ps.zip [a0])):∀us:List Value,us.length=ps.length->bindArgs fd ⟨us,[]⟩=pure (ps.zip us):=λus hl=>match us,hl.trans hp with|[a0],_=>h a0
theorem us2{fd:FuncData}{ps:List Str}(hp:ps.length=2)(h:∀a0 a1:Value,bindArgs fd ⟨[a0,a1],[]⟩=pure (ps.zip [a0,a1])):∀us:List Value,us.length=ps.length->bindArgs fd ⟨us,[]⟩=pure (ps.zip us):=λus hl=>match us,hl.trans hp with|[a0,a1],_=>h a0 a1
theorem us3{fd:FuncData}{ps:List Str}(hp:ps.length=3)(h:∀a0 a1 a2:Value,bindArgs fd ⟨[a0,a1,a2],[]⟩=pure (ps.zip [a0,a1,a2])):∀us:List Value,us.length=ps.length->bindArgs fd ⟨us,[]⟩=pure (ps.zip us):=λus hl=>match us,hl.trans hp with|[a0,a1,a2],_=>h a0 a1 a2
theorem us4{fd:FuncData}{ps:List Str}(hp:ps.length=4)(h:∀a0 a1 a2 a3:Value,bindArgs fd ⟨[a0,a1,a2,a3],[]⟩=pure (ps.zip [a0,a1,a2,a3])):∀us:List Value,us.length=ps.length->bindArgs fd ⟨us,[]⟩=pure (ps.zip us):=λus hl=>match us,hl.trans hp with|[a0,a1,a2,a3],_=>h a0 a1 a2 a3
theorem us5{fd:FuncData}{ps:List Str}(hp:ps.length=5)(h:∀a0 a1 a2 a3 a4:Value,bindArgs fd ⟨[a0,a1,a2,a3,a4],[]⟩=pure (ps.zip [a0,a1,a2,a3,a4])):∀us:List Value,us.length=ps.length->bindArgs fd ⟨us,[]⟩=pure (ps.zip us):=λus hl=>match us,hl.trans hp with|[a0,a1,a2,a3,a4],_=>h a0 a1 a2 a3 a4
theorem us6{fd:FuncData}{ps:List Str}(hp:ps.length=6)(h:∀a0 a1 a2 a3 a4 a5:Value,bindArgs fd ⟨[a0,a1,a2,a3,a4,a5],[]⟩=pure (ps.zip [a0,a1,a2,a3,a4,a5])):∀us:List Value,us.length=ps.length->bindArgs fd ⟨us,[]⟩=pure (ps.zip us):=λus hl=>match us,hl.trans hp with|[a0,a1,a2,a3,a4,a5],_=>h a0 a1 a2 a3 a4 a5
theorem all_mk{l:PySem.W.OpenLaw}{w:World}{K:PySem.W.Frag}{h:Heap}{mg:Str->Option Value}{fa f0 f1 f2 f3 f4 f5 f6 f7 f8 f9 f10 f11 f12 f13 f14 f15 f16 f17 f18 f19 f20 f21 f22 f23 f24 f25 f26 f27 f28 f29 f30 f31 f32 f33 f34 f35 f36 f37 f38 f39 f40 f41 f42 f43 f44 f45 f46 f47 f48 f49:Addr}(X:K.In h)(G:h.Ns mainGlobals mg)(hfa:mg "law"=some (.ref fa)){t0 t1 t2 t3:Tok}(x0:FA K "is_whole" sWhole f0)(x1:FA K "is_within" sWithin f1)(x2:FA K "is_name" sName f2)(x3:FA K "is_amount" sAmount f3)(x4:FA K "is_place" sPlace f4)(x5:FA K "is_places" sPlaces f5)(x6:FA K "is_tie" sTie f6)(x7:FA K "has_shape" sShape f7)(x8:FA K "beside_of" sBeside f8)(x9:FA K "ways_from" sWays f9)(x10:FA K "part_of" sPart f10)(x11:FA K "parts_of" sParts f11)(x12:FA K "has_ring" sHasR f12)(x13:FA K "room_at" sRoom f13)(x14:FA K "most_layer" sMost f14)(x15:FA K "ties_from" sTies f15)(x16:FA K "kept_from" sKept f16)(x17:FA K "is_row" sRow f17)(x18:FA K "has_form" sForm f18)(x19:FA K "holds_at" sHolds f19)(x20:FA K "layers_hold" sHold f20)(x21:FA K "row_of" sRowOf f21)(x22:FA K "rows_without" sWithout f22)(x23:FA K "lesser_parts" sLesser f23)(x24:FA K "loose_names" sLoose f24)(x25:FA K "row_behind" sBehind f25)(x26:FA K "rows_behind" sBehinds f26)(x27:FA K "are_looked" sLooked f27)(x28:FA K "is_round" sRound f28)(x29:FA K "rows_by" sRowsBy f29)(x30:FA K "going_holds" sGoing f30)(x31:FA K "_law_mixed" sMixed f31)(x32:FA K "_law_deck" sDeck f32)(x33:FA K "_law_take" sTake f33)(x34:FA K "_law_names" sNames f34)(x35:FA K "_law_many" sMany f35)(x36:FA K "_law_weight" sWeight f36)(x37:FA K "_law_merged" sMerged f37)(x38:FA K "_law_layered" sLayered f38)(x39:FA K "_law_stand" sStand f39)(x40:FA K "_law_groups" sGroups f40)(x41:FA K "_law_known" sKnown f41)(x42:FA K "_law_rows" sRows f42)(x43:FA K "_law_parts" sPartsL f43)(x44:FA K "_law_of_layer" sOfLayer f44)(x45:FA K "_law_rise" sRise f45)(x46:FA K "_law_turned" sTurned f46)(x47:FA K "_law_paper" sPaper f47)(x48:FA K "_law_some" sSome f48)(x49:FA K "law" sLaw f49)(i0:PySem.W.nsIn K mainGlobals "MOST_PLACES"=some (some (.int 24 t0)))(i1:PySem.W.nsIn K mainGlobals "MOST_TIES"=some (some (.int 60 t1)))(i2:PySem.W.nsIn K mainGlobals "MOST_LETTERS"=some (some (.int 8 t2)))(i3:PySem.W.nsIn K mainGlobals "MOST_AMOUNT"=some (some (.int 1000000000 t3)))(z0:PySem.W.nsIn K mainGlobals "isinstance"=some none)(z1:PySem.W.nsIn K mainGlobals "int"=some none)(z2:PySem.W.nsIn K mainGlobals "bool"=some none)(z3:PySem.W.nsIn K mainGlobals "tuple"=some none)(z4:PySem.W.nsIn K mainGlobals "len"=some none)(z5:PySem.W.nsIn K mainGlobals "range"=some none)(z6:PySem.W.nsIn K mainGlobals "sum"=some none)(z7:PySem.W.nsIn K mainGlobals "str"=some none)(z8:PySem.W.nsIn K mainGlobals "max"=some none)(z9:PySem.W.nsIn K mainGlobals "min"=some none)(z10:PySem.W.nsIn K mainGlobals "all"=some none)(z11:PySem.W.nsIn K mainGlobals "zip"=some none)(z12:PySem.W.nsIn K mainGlobals "sorted"=some none)(z13:PySem.W.nsIn K mainGlobals "list"=some none)(z14:PySem.W.nsIn K mainGlobals "enumerate"=some none)(z15:PySem.W.nsIn K mainGlobals "dict"=some none):
  ∃fd:FuncData,(∀(s:Shared) (v:Value),BindsTo s fd ⟨[v],[]⟩ [("_law_script",v)])/\∀base:Heap,K.In base->base.Ns mainGlobals mg->FnOk l.prog w K mg base CX0 9 fa fd ["_law_script"] (spLaw K):=by
 have e:=hfa.symm.trans (PySem.W.mg_of X G x49.a);cases e;have T:Txt mg:=⟨PySem.W.mg_none_of X G z0,PySem.W.mg_none_of X G z1,PySem.W.mg_none_of X G z2,PySem.W.mg_none_of X G z3,PySem.W.mg_none_of X G z4,PySem.W.mg_none_of X G z5,PySem.W.mg_none_of X G z6,PySem.W.mg_none_of X G z7,PySem.W.mg_none_of X G z8,PySem.W.mg_none_of X G z9,PySem.W.mg_none_of X G z10,PySem.W.mg_none_of X G z11,PySem.W.mg_none_of X G z12,PySem.W.mg_none_of X G z13,PySem.W.mg_none_of X G z14,PySem.W.mg_none_of X G z15,⟨_,PySem.W.mg_of X G i0⟩,⟨_,PySem.W.mg_of X G i1⟩,⟨_,PySem.W.mg_of X G i2⟩,⟨_,PySem.W.mg_of X G i3⟩⟩
 obtain⟨d0,F0⟩:=x0.fn;obtain⟨d1,F1⟩:=x1.fn;obtain⟨d2,F2⟩:=x2.fn;obtain⟨d3,F3⟩:=x3.fn;obtain⟨d4,F4⟩:=x4.fn;obtain⟨d5,F5⟩:=x5.fn;obtain⟨d6,F6⟩:=x6.fn;obtain⟨d7,F7⟩:=x7.fn;obtain⟨d8,F8⟩:=x8.fn;obtain⟨d9,F9⟩:=x9.fn;obtain⟨d10,F10⟩:=x10.fn;obtain⟨d11,F11⟩:=x11.fn;obtain⟨d12,F12⟩:=x12.fn;obtain⟨d13,F13⟩:=x13.fn;obtain⟨d14,F14⟩:=x14.fn;obtain⟨d15,F15⟩:=x15.fn;obtain⟨d16,F16⟩:=x16.fn;obtain⟨d17,F17⟩:=x17.fn;obtain⟨d18,F18⟩:=x18.fn;obtain⟨d19,F19⟩:=x19.fn;obtain⟨d20,F20⟩:=x20.fn;obtain⟨d21,F21⟩:=x21.fn;obtain⟨d22,F22⟩:=x22.fn;obtain⟨d23,F23⟩:=x23.fn;obtain⟨d24,F24⟩:=x24.fn;obtain⟨d25,F25⟩:=x25.fn;obtain⟨d26,F26⟩:=x26.fn;obtain⟨d27,F27⟩:=x27.fn;obtain⟨d28,F28⟩:=x28.fn;obtain⟨d29,F29⟩:=x29.fn;obtain⟨d30,F30⟩:=x30.fn;obtain⟨d31,F31⟩:=x31.fn;obtain⟨d32,F32⟩:=x32.fn;obtain⟨d33,F33⟩:=x33.fn;obtain⟨d34,F34⟩:=x34.fn;obtain⟨d35,F35⟩:=x35.fn;obtain⟨d36,F36⟩:=x36.fn;obtain⟨d37,F37⟩:=x37.fn;obtain⟨d38,F38⟩:=x38.fn;obtain⟨d39,F39⟩:=x39.fn;obtain⟨d40,F40⟩:=x40.fn;obtain⟨d41,F41⟩:=x41.fn;obtain⟨d42,F42⟩:=x42.fn;obtain⟨d43,F43⟩:=x43.fn;obtain⟨d44,F44⟩:=x44.fn;obtain⟨d45,F45⟩:=x45.fn;obtain⟨d46,F46⟩:=x46.fn;obtain⟨d47,F47⟩:=x47.fn;obtain⟨d48,F48⟩:=x48.fn;obtain⟨d49,F49⟩:=x49.fn;refine⟨d49,F49.bindsTo,λbase _ _=> ?_⟩;have C0:=Bw l.prog w base F0 x0 X G (λ_ _ _ _ _ _=>us1 rfl λ_=>rfl) (ok_Whole F0 T);have C1:=Bw l.prog w base F1 x1 X G (λ_ _ _ _ _ _=>us3 rfl λ_ _ _=>rfl) (ok_Within F1 T C0.up);have C2:=Bw l.prog w base F2 x2 X G (λ_ _ _ _ _ _=>us1 rfl λ_=>rfl) (ok_Name F2 T);have C3:=Bw l.prog w base F3 x3 X G (λ_ _ _ _ _ _=>us1 rfl λ_=>rfl) (ok_Amount F3 T C1.up);have C4:=Bw l.prog w base F4 x4 X G (λ_ _ _ _ _ _=>us2 rfl λ_ _=>rfl) (ok_Place F4 T C1.up);have C5:=Bw l.prog w base F5 x5 X G (λ_ _ _ _ _ _=>us2 rfl λ_ _=>rfl) (ok_Places F5 T C4.up);have C6:=Bw l.prog w base F6 x6 X G (λ_ _ _ _ _ _=>us2 rfl λ_ _=>rfl) (ok_Tie F6 T C2.up C3.up C4.up);have C7:=Bw l.prog w base F7 x7 X G (λ_ _ _ _ _ _=>us2 rfl λ_ _=>rfl) (ok_Shape F7 T C1.up);have C8:=Bw l.prog w base F8 x8 X G (λ_ _ _ _ _ _=>us2 rfl λ_ _=>rfl) (ok_Beside F8 T);have C9:=Bw l.prog w base F9 x9 X G (λ_ _ _ _ _ _=>us3 rfl λ_ _ _=>rfl) (ok_Ways F9 T C8.up);have C10:=Bw l.prog w base F10 x10 X G (λ_ _ _ _ _ _=>us3 rfl λ_ _ _=>rfl) (ok_Part F10 T C9.up);have C11:=Bw l.prog w base F11 x11 X G (λ_ _ _ _ _ _=>us2 rfl λ_ _=>rfl) (ok_Parts F11 T C10.up);have C12:=Bw l.prog w base F12 x12 X G (λ_ _ _ _ _ _=>us2 rfl λ_ _=>rfl) (ok_HasR F12 T C11.up);have C13:=Bw l.prog w base F13 x13 X G (λ_ _ _ _ _ _=>us2 rfl λ_ _=>rfl) (ok_Room F13 T);have C14:=Bw l.prog w base F14 x14 X G (λ_ _ _ _ _ _=>us1 rfl λ_=>rfl) (ok_Most F14 T C13.up);have C15:=Bw l.prog w base F15 x15 X G (λ_ _ _ _ _ _=>us2 rfl λ_ _=>rfl) (ok_Ties F15 T);have C16:=Bw l.prog w base F16 x16 X G (λ_ _ _ _ _ _=>us2 rfl λ_ _=>rfl) (ok_Kept F16 T);have C17:=Bw l.prog w base F17 x17 X G (λ_ _ _ _ _ _=>us2 rfl λ_ _=>rfl) (ok_Row F17 T C6.up C1.up C14.up);have C18:=Bw l.prog w base F18 x18 X G (λ_ _ _ _ _ _=>us1 rfl λ_=>rfl) (ok_Form F18 T C7.up C17.up)
 have C19:=Bw l.prog w base F19 x19 X G (λ_ _ _ _ _ _=>us3 rfl λ_ _ _=>rfl) (ok_Holds F19 T C11.up C15.up C16.up C13.up);have C20:=Bw l.prog w base F20 x20 X G (λ_ _ _ _ _ _=>us1 rfl λ_=>rfl) (ok_Hold F20 T C18.up C12.up C16.up C19.up C14.up);have C21:=Bw l.prog w base F21 x21 X G (λ_ _ _ _ _ _=>us2 rfl λ_ _=>rfl) (ok_RowOf F21 T);have C22:=Bw l.prog w base F22 x22 X G (λ_ _ _ _ _ _=>us2 rfl λ_ _=>rfl) (ok_Without F22 T);have C23:=Bw l.prog w base F23 x23 X G (λ_ _ _ _ _ _=>us4 rfl λ_ _ _ _=>rfl) (ok_Lesser F23 T C16.up C10.up);have C24:=Bw l.prog w base F24 x24 X G (λ_ _ _ _ _ _=>us4 rfl λ_ _ _ _=>rfl) (ok_Loose F24 T);have C25:=Bw l.prog w base F25 x25 X G (λ_ _ _ _ _ _=>us2 rfl λ_ _=>rfl) (ok_Behind F25 T);have C26:=Bw l.prog w base F26 x26 X G (λ_ _ _ _ _ _=>us2 rfl λ_ _=>rfl) (ok_Behinds F26 T C25.up);have C27:=Bw l.prog w base F27 x27 X G (λ_ _ _ _ _ _=>us2 rfl λ_ _=>rfl) (ok_Looked F27 T);have C28:=Bw l.prog w base F28 x28 X G (λ_ _ _ _ _ _=>us5 rfl λ_ _ _ _ _=>rfl) (ok_Round F28 T C0.up C5.up C23.up C24.up C27.up);have C29:=Bw l.prog w base F29 x29 X G (λ_ _ _ _ _ _=>us4 rfl λ_ _ _ _=>rfl) (ok_RowsBy F29 T C28.up C26.up);have C30:=Bw l.prog w base F30 x30 X G (λ_ _ _ _ _ _=>us3 rfl λ_ _ _=>rfl) (ok_Going F30 T C20.up C29.up C22.up C21.up);have C31:=Bw l.prog w base F31 x31 X G (λ_ _ _ _ _ _=>us2 rfl λ_ _=>rfl) (ok_Mixed F31 T);have C32:=Bw l.prog w base F32 x32 X G (λ_ _ _ _ _ _=>us1 rfl λ_=>rfl) (ok_Deck F32 T);have C33:=Bw l.prog w base F33 x33 X G (λ_ _ _ _ _ _=>us2 rfl λ_ _=>rfl) (ok_Take F33 T C31.up);have C34:=Bw l.prog w base F34 x34 X G (λ_ _ _ _ _ _=>us2 rfl λ_ _=>rfl) (ok_Names F34 T C33.up);have C35:=Bw l.prog w base F35 x35 X G (λ_ _ _ _ _ _=>us1 rfl λ_=>rfl) (ok_Many F35 T C33.up);have C36:=Bw l.prog w base F36 x36 X G (λ_ _ _ _ _ _=>us1 rfl λ_=>rfl) (ok_Weight F36 T C33.up);have C37:=Bw l.prog w base F37 x37 X G (λ_ _ _ _ _ _=>us6 rfl λ_ _ _ _ _ _=>rfl) (ok_Merged F37 T C33.up);have C38:=Bw l.prog w base F38 x38 X G (λ_ _ _ _ _ _=>us4 rfl λ_ _ _ _=>rfl) (ok_Layered F38 T C33.up C37.up C36.up);have C39:=Bw l.prog w base F39 x39 X G (λ_ _ _ _ _ _=>us2 rfl λ_ _=>rfl) (ok_Stand F39 T C35.up C34.up C38.up);have C40:=Bw l.prog w base F40 x40 X G (λ_ _ _ _ _ _=>us2 rfl λ_ _=>rfl) (ok_Groups F40 T);have C41:=Bw l.prog w base F41 x41 X G (λ_ _ _ _ _ _=>us1 rfl λ_=>rfl) (ok_Known F41 T);have C42:=Bw l.prog w base F42 x42 X G (λ_ _ _ _ _ _=>us1 rfl λ_=>rfl) (ok_Rows F42 T);have C43:=Bw l.prog w base F43 x43 X G (λ_ _ _ _ _ _=>us4 rfl λ_ _ _ _=>rfl) (ok_PartsL F43 T C40.up);have C44:=Bw l.prog w base F44 x44 X G (λ_ _ _ _ _ _=>us5 rfl λ_ _ _ _ _=>rfl) (ok_OfLayer F44 T);have C45:=Bw l.prog w base F45 x45 X G (λ_ _ _ _ _ _=>us2 rfl λ_ _=>rfl) (ok_Rise F45 T);have C46:=Bw l.prog w base F46 x46 X G (λ_ _ _ _ _ _=>us2 rfl λ_ _=>rfl) (ok_Turned F46 T C33.up);have C47:=Bw l.prog w base F47 x47 X G (λ_ _ _ _ _ _=>us4 rfl λ_ _ _ _=>rfl) (ok_Paper F47 T C43.up C33.up C46.up C44.up C45.up)
 have C48:=Bw l.prog w base F48 x48 X G (λ_ _ _ _ _ _=>us3 rfl λ_ _ _=>rfl) (ok_Some F48 T C33.up);exact ok_Law F49 T C32.up C39.up C48.up C41.up C47.up C42.up C30.up
theorem walk{l:PySem.W.OpenLaw}{q:Program}{loose:List Str}{XP:(Str->Option Value)->Heap->Prop}{YP:World->Heap->Prop}{d:DefRec}{K:Params->PySem.W.Frag}(hn:l.most=some 63)(hdf:d.params.defaults=[])(hY:∀(w:World) (h:Heap),YP w h->(K w.params).In h)(F:∀(w:World) (mg:Str->Option Value) (fa:Addr) (h:Heap),(K w.params).In h->h.Ns mainGlobals mg->mg d.name=some (.ref fa)->
   ∃fd:FuncData,(∀(s:Shared) (u:Value),BindsTo s fd ⟨[u],[]⟩ [("_law_script",u)])/\∀base:Heap,(K w.params).In base->base.Ns mainGlobals mg->FnOk l.prog w (K w.params) mg base CX0 9 fa fd ["_law_script"] (spLaw (K w.params))):
  PySem.W.WalkO q loose XP YP l.row.toRowW d [] (λf vs=>PySem.call f vs):=
 L2.walk_of (n:=63) (k:=9) (x:="_law_script") (CX:=λ_=>CX0) (sp:=λw=>spLaw (K w.params)) hn (by decide) hdf ⟨rfl,by decide,by decide,rfl⟩ hY F (λ_ _ a ns hl _ hS=>⟨a,ns,rfl,hS,hl,λ_=>rfl⟩) λ_ _ _ _ _ z=>z
end K39
namespace PySem.W.Fast
def tw15226468139185960168:=0
def tw1398888064187261242:=0
def tw3428987863440750445:=0
def tw8184191696923908031:=0
def tw11216990314727165577:=0
def tw6811899306268666260:=0
def tw7011595801443120071:=0
def tw13539981421225111439:=0
def tw5957764714972837048:=0
def tw10832593492246454481:=0
def tw13421502214591120337:=0
def tw8377936688825796212:=0
def tw2129660438625479983:=0
def tw2822709693843903161:=0
def tw7944916051572610253:=0
def tw11290282329969889480:=0
def tw4172963322626049808:=0
def tw13712183422552290303:=0
def tw4878492682656588029:=0
def tw5795144039364702854:=0
def tw11344100344616943180:=0
def tw12058806886391306290:=0
def tw4055766504865644500:=0
def tw7327539985689562846:=0
def tw5735523973369499916:=0
def tw14360181157414594871:=0
def tw13726859555044694322:=0
def tw1527946768733827590:=0
def tw12730582267515038980:=0
def tw15514568275940234037:=0
def tw12670714629322930099:=0
def tw12971318461718135963:=0
def tw13756196745868125149:=0
def tw11051723163739063820:=0
def tw7851140829936165939:=0
def tw9618382934328938632:=0
def tw979032180620311582:=0
def tw16616376899381755793:=0
def tw4781300786049543991:=0
def tw16629184589764389583:=0
def tw14723305359863236209:=0
def tw17921519722681762092:=0
def tw6550811492730239761:=0
def tw3718221750370781196:=0
def tw7893950052464698311:=0
def tw1882218322649156695:=0
def tw5678265229824753854:=0
def tw538921182027640614:=0
def tw13498304781589196295:=0
def tw8786845890991073043:=0
def tw4305895996197898584:=0
def tw5805857631283489341:=0
def tw2929814641576360339:=0
def tw7501339478271798020:=0
def tw8632223512970765734:=0
def tw3326584373456121748:=0
def tw12215721541257626028:=0
def tw7942520356619235109:=0
def tw17458652086711767051:=0
def tw10350760623047502460:=0
def tw1392542553779870845:=0
def tw13820169364876083403:=0
def tw15497828409954803481:=0
def tw4482027561031952644:=0
def tw14075000672039710735:=0
def tw15454248129516899252:=0
def tw15181844931728830501:=0
def tw10756208693180606313:=0
def tw7475779519487016142:=0
def tw7594969253549990773:=0
def tw7423821869960092305:=0
def tw17177394386400108875:=0
def tw6514725863330700973:=0
def tw4394963626853464497:=0
def tw12165187047791914524:=0
def tw14221722007548796827:=0
def tw9765318090326740126:=0
def tw734050849531930268:=0
def tw83561449846627538:=0
def tw1067520773533205970:=0
def tw13860075474497957059:=0
def tw7960095260430109987:=0
def tw16353975481720932410:=0
def tw2538835766630573461:=0
def tw5259660188114262054:=0
def tw18336674312935750441:=0
def tw14340310140905467261:=0
def tw6016666797172107959:=0
def tw2494436423043669151:=0
def tw2760785211473262172:=0
def tw12801059083145368528:=0
def tw12229770756782677008:=0
def tw8150650979733759160:=0
def tw8414677723241478427:=0
def tw12414021732929742526:=0
def tw10141879375815498726:=0
def tw7664465926204249086:=0
def tw18218258110779111423:=0
def tw269628767732678109:=0
def tw491807910055664011:=0
def tw7290166375365388389:=0
def tw10139473306971890864:=0
def tw15561386340495152500:=0
def tw15240182877229142955:=0
def tw3981991707538142050:=0
def tw5890316561687096159:=0
def tw12382675626914969682:=0
def tw7076784416462426262:=0
def tw17209567243341732641:=0
def tw7867045015078242506:=0
def tw4489737260554008064:=0
def tw17566554366224282616:=0
def tw6076562532704585560:=0
def tw16051001369461095868:=0
def tw268220847381135268:=0
def tw17553857896782720313:=0
def tw12765057668870061393:=0
def tw17230720519309633461:=0
def tw5904431425948332065:=0
def tw3150276527622155141:=0
def tw3609004474492224344:=0
def tw9552849271100813780:=0
def tw12609342642778671834:=0
def tw17031124610693797341:=0
def tw17877223451319665932:=0
def tw9206399827985773003:=0
def tw10008605309329102683:=0
def tw2132649718622685786:=0
def tw9332605152860571156:=0
def tw78800089678120090:=0
def tw4182236465410358127:=0
def tw2501023116198455096:=0
def tw16623863884340644506:=0
def tw3004294284707796113:=0
def tw10288703439220051680:=0
def tw8908127700402170819:=0
def tw8164894660915477649:=0
def tw8102174088073210279:=0
def tw11647984404470292279:=0
def tw12317693379544827196:=0
def tw514442946102100606:=0
def tw15237553001379021995:=0
def tw1451484948385443096:=0
def tw12130328978037067704:=0
def tw11871811250367746827:=0
def tw11825549552633231946:=0
def tw10514292375298935519:=0
def tw8871272896458304379:=0
def tw7990257028236097668:=0
def tw7195308257241872854:=0
def tw9253397709348689398:=0
def tw1719011280949655714:=0
def tw1751741976751713969:=0
def tw8335985189878605253:=0
def tw7913505988318696215:=0
def tw6888205912803211784:=0
def tw3287850303253642093:=0
def tw14677822336898384795:=0
def tw11409403985413927684:=0
def tw11158307294316721529:=0
def tw10359524908000140834:=0
def tw4711709836247352675:=0
def tw13179072897335784206:=0
def tw16933957654298450472:=0
def tw14064258017001523402:=0
def tw13998643757408557909:=0
def tw12151580737685924272:=0
def tw11063918327317940100:=0
def tw13608116154162922316:=0
def tw3545522484519596094:=0
def tw15272018636343161157:=0
def tw11170898841742440611:=0
def tw6121290016235111836:=0
def tw4371323223623930880:=0
def tw5884781821956329327:=0
def tw8633791356990060683:=0
def tw14819745128813966123:=0
def tw3122386617461198789:=0
def tw11948896072639127644:=0
end PySem.W.Fast
open PySem PySem.W PyProof.Rows
set_option maxRecDepth 100000 in
set_option maxHeartbeats 0 in
theorem PySem.Challenge.cw_joinedever_k39_papers_of_any_hand_holds : PySem.Challenge.rw_joinedever_k39_papers_of_any_hand.Holds := by
 w_on;o_law;k_head;(case hw=>w_witness2)
 k_fill
 refine K39.walk (l:=PySem.Challenge.rw_joinedever_k39_papers_of_any_hand) rfl rfl (fun w h Y=>PySem.W.kIn_of Y) ?F
 case F=>
  intro w mg fa h KX G hmg
  refine' K39.all_mk KX G hmg (.of ?a0 ?l0 ?c0 ?k0) (.of ?a1 ?l1 ?c1 ?k1) (.of ?a2 ?l2 ?c2 ?k2) (.of ?a3 ?l3 ?c3 ?k3) (.of ?a4 ?l4 ?c4 ?k4) (.of ?a5 ?l5 ?c5 ?k5) (.of ?a6 ?l6 ?c6 ?k6) (.of ?a7 ?l7 ?c7 ?k7) (.of ?a8 ?l8 ?c8 ?k8) (.of ?a9 ?l9 ?c9 ?k9) (.of ?a10 ?l10 ?c10 ?k10) (.of ?a11 ?l11 ?c11 ?k11) (.of ?a12 ?l12 ?c12 ?k12) (.of ?a13 ?l13 ?c13 ?k13) (.of ?a14 ?l14 ?c14 ?k14) (.of ?a15 ?l15 ?c15 ?k15) (.of ?a16 ?l16 ?c16 ?k16) (.of ?a17 ?l17 ?c17 ?k17) (.of ?a18 ?l18 ?c18 ?k18) (.of ?a19 ?l19 ?c19 ?k19) (.of ?a20 ?l20 ?c20 ?k20) (.of ?a21 ?l21 ?c21 ?k21) (.of ?a22 ?l22 ?c22 ?k22) (.of ?a23 ?l23 ?c23 ?k23) (.of ?a24 ?l24 ?c24 ?k24) (.of ?a25 ?l25 ?c25 ?k25) (.of ?a26 ?l26 ?c26 ?k26) (.of ?a27 ?l27 ?c27 ?k27) (.of ?a28 ?l28 ?c28 ?k28) (.of ?a29 ?l29 ?c29 ?k29) (.of ?a30 ?l30 ?c30 ?k30) (.of ?a31 ?l31 ?c31 ?k31) (.of ?a32 ?l32 ?c32 ?k32) (.of ?a33 ?l33 ?c33 ?k33) (.of ?a34 ?l34 ?c34 ?k34) (.of ?a35 ?l35 ?c35 ?k35) (.of ?a36 ?l36 ?c36 ?k36) (.of ?a37 ?l37 ?c37 ?k37) (.of ?a38 ?l38 ?c38 ?k38) (.of ?a39 ?l39 ?c39 ?k39) (.of ?a40 ?l40 ?c40 ?k40) (.of ?a41 ?l41 ?c41 ?k41) (.of ?a42 ?l42 ?c42 ?k42) (.of ?a43 ?l43 ?c43 ?k43) (.of ?a44 ?l44 ?c44 ?k44) (.of ?a45 ?l45 ?c45 ?k45) (.of ?a46 ?l46 ?c46 ?k46) (.of ?a47 ?l47 ?c47 ?k47) (.of ?a48 ?l48 ?c48 ?k48) (.of ?a49 ?l49 ?c49 ?k49) ?i0 ?i1 ?i2 ?i3 ?z0 ?z1 ?z2 ?z3 ?z4 ?z5 ?z6 ?z7 ?z8 ?z9 ?z10 ?z11 ?z12 ?z13 ?z14 ?z15
  (case a0=>k_is)
  (case l0=>k_is)
  (case c0=>k_is)
  (case k0=>k_is)
  (case a1=>k_is)
  (case l1=>k_is)
  (case c1=>k_is)
  (case k1=>k_is)
  (case a2=>k_is)
  (case l2=>k_is)
  (case c2=>k_is)
  (case k2=>k_is)
  (case a3=>k_is)
  (case l3=>k_is)
  (case c3=>k_is)
  (case k3=>k_is)
  (case a4=>k_is)
  (case l4=>k_is)
  (case c4=>k_is)
  (case k4=>k_is)
  (case a5=>k_is)
  (case l5=>k_is)
  (case c5=>k_is)
  (case k5=>k_is)
  (case a6=>k_is)
  (case l6=>k_is)
  (case c6=>k_is)
  (case k6=>k_is)
  (case a7=>k_is)
  (case l7=>k_is)
  (case c7=>k_is)
  (case k7=>k_is)
  (case a8=>k_is)
  (case l8=>k_is)
  (case c8=>k_is)
  (case k8=>k_is)
  (case a9=>k_is)
  (case l9=>k_is)
  (case c9=>k_is)
  (case k9=>k_is)
  (case a10=>k_is)
  (case l10=>k_is)
  (case c10=>k_is)
  (case k10=>k_is)
  (case a11=>k_is)
  (case l11=>k_is)
  (case c11=>k_is)
  (case k11=>k_is)
  (case a12=>k_is)
  (case l12=>k_is)
  (case c12=>k_is)
  (case k12=>k_is)
  (case a13=>k_is)
  (case l13=>k_is)
  (case c13=>k_is)
  (case k13=>k_is)
  (case a14=>k_is)
  (case l14=>k_is)
  (case c14=>k_is)
  (case k14=>k_is)
  (case a15=>k_is)
  (case l15=>k_is)
  (case c15=>k_is)
  (case k15=>k_is)
  (case a16=>k_is)
  (case l16=>k_is)
  (case c16=>k_is)
  (case k16=>k_is)
  (case a17=>k_is)
  (case l17=>k_is)
  (case c17=>k_is)
  (case k17=>k_is)
  (case a18=>k_is)
  (case l18=>k_is)
  (case c18=>k_is)
  (case k18=>k_is)
  (case a19=>k_is)
  (case l19=>k_is)
  (case c19=>k_is)
  (case k19=>k_is)
  (case a20=>k_is)
  (case l20=>k_is)
  (case c20=>k_is)
  (case k20=>k_is)
  (case a21=>k_is)
  (case l21=>k_is)
  (case c21=>k_is)
  (case k21=>k_is)
  (case a22=>k_is)
  (case l22=>k_is)
  (case c22=>k_is)
  (case k22=>k_is)
  (case a23=>k_is)
  (case l23=>k_is)
  (case c23=>k_is)
  (case k23=>k_is)
  (case a24=>k_is)
  (case l24=>k_is)
  (case c24=>k_is)
  (case k24=>k_is)
  (case a25=>k_is)
  (case l25=>k_is)
  (case c25=>k_is)
  (case k25=>k_is)
  (case a26=>k_is)
  (case l26=>k_is)
  (case c26=>k_is)
  (case k26=>k_is)
  (case a27=>k_is)
  (case l27=>k_is)
  (case c27=>k_is)
  (case k27=>k_is)
  (case a28=>k_is)
  (case l28=>k_is)
  (case c28=>k_is)
  (case k28=>k_is)
  (case a29=>k_is)
  (case l29=>k_is)
  (case c29=>k_is)
  (case k29=>k_is)
  (case a30=>k_is)
  (case l30=>k_is)
  (case c30=>k_is)
  (case k30=>k_is)
  (case a31=>k_is)
  (case l31=>k_is)
  (case c31=>k_is)
  (case k31=>k_is)
  (case a32=>k_is)
  (case l32=>k_is)
  (case c32=>k_is)
  (case k32=>k_is)
  (case a33=>k_is)
  (case l33=>k_is)
  (case c33=>k_is)
  (case k33=>k_is)
  (case a34=>k_is)
  (case l34=>k_is)
  (case c34=>k_is)
  (case k34=>k_is)
  (case a35=>k_is)
  (case l35=>k_is)
  (case c35=>k_is)
  (case k35=>k_is)
  (case a36=>k_is)
  (case l36=>k_is)
  (case c36=>k_is)
  (case k36=>k_is)
  (case a37=>k_is)
  (case l37=>k_is)
  (case c37=>k_is)
  (case k37=>k_is)
  (case a38=>k_is)
  (case l38=>k_is)
  (case c38=>k_is)
  (case k38=>k_is)
  (case a39=>k_is)
  (case l39=>k_is)
  (case c39=>k_is)
  (case k39=>k_is)
  (case a40=>k_is)
  (case l40=>k_is)
  (case c40=>k_is)
  (case k40=>k_is)
  (case a41=>k_is)
  (case l41=>k_is)
  (case c41=>k_is)
  (case k41=>k_is)
  (case a42=>k_is)
  (case l42=>k_is)
  (case c42=>k_is)
  (case k42=>k_is)
  (case a43=>k_is)
  (case l43=>k_is)
  (case c43=>k_is)
  (case k43=>k_is)
  (case a44=>k_is)
  (case l44=>k_is)
  (case c44=>k_is)
  (case k44=>k_is)
  (case a45=>k_is)
  (case l45=>k_is)
  (case c45=>k_is)
  (case k45=>k_is)
  (case a46=>k_is)
  (case l46=>k_is)
  (case c46=>k_is)
  (case k46=>k_is)
  (case a47=>k_is)
  (case l47=>k_is)
  (case c47=>k_is)
  (case k47=>k_is)
  (case a48=>k_is)
  (case l48=>k_is)
  (case c48=>k_is)
  (case k48=>k_is)
  (case a49=>k_is)
  (case l49=>k_is)
  (case c49=>k_is)
  (case k49=>k_is)
  (case i0=>k_is)
  (case i1=>k_is)
  (case i2=>k_is)
  (case i3=>k_is)
  (case z0=>k_is)
  (case z1=>k_is)
  (case z2=>k_is)
  (case z3=>k_is)
  (case z4=>k_is)
  (case z5=>k_is)
  (case z6=>k_is)
  (case z7=>k_is)
  (case z8=>k_is)
  (case z9=>k_is)
  (case z10=>k_is)
  (case z11=>k_is)
  (case z12=>k_is)
  (case z13=>k_is)
  (case z14=>k_is)
  (case z15=>k_is)

import PyProof.Rows.All
import Wide.All
import OpenK.AllK
import Wide.FinOn
import Lean
import PyProof.EqAt
import PyProof.EqKinds
import PyProof.TupleCall
import PySem.Challenge.RW_joinedever_k28_beginnings_answer_alike
import PyProof.Draws
import PyProof.ZipIter
import PyProof.TupleIter
import PyProof.ListRange
import PyProof.CollectWalk
import KE.KSortTup
import KE.KDictSum
import PyProof.Rows.Range3
import KE.KEqDict
import KE.KRevIter
import PyProof.EnumStmt
import PyProof.CallStr
import PyProof.ReprLen
import PyProof.StrLawsRepr
import Flt.Len
import PyProof.Rows.TupDisplay
set_option Elab.async false
set_option linter.all false
set_option maxRecDepth 100000
set_option maxHeartbeats 4000000
namespace L2
open PySem PySem.Spec PyProof.Rows
abbrev Key:=Sum Int Str
def keyIs:Key→Value→Bool
 | .inl k,v=>Value.isInt k v
 | .inr x,v=>Value.isStrOf x v
def keyH (w:World):Key→Int
 | .inl k=>hashInt k
 | .inr x=>hashStr w x
theorem Bp:∀{k:Key} {v:Value},keyIs k v=true→(∃i t,k=Sum.inl i∧v=Value.int i t)∨(∃x t,k=Sum.inr x∧v=Value.str x t)
 | .inl i,v,h=>by
  obtain ⟨t,e⟩:=Value.isInt_shape (k:=i) (v:=v) h
  exact .inl ⟨i,t,rfl,e⟩
 | .inr x,v,h=>by
  obtain ⟨t,e⟩:=Value.isStrOf_shape (x:=x) (v:=v) h
  exact .inr ⟨x,t,rfl,e⟩
theorem keyIs_int (i:Int) (t:Tok):keyIs (.inl i) (.int i t)=true:=by simp [keyIs,Value.isInt]
theorem keyIs_str (x:Str) (t:Tok):keyIs (.inr x) (.str x t)=true:=by simp [keyIs,Value.isStrOf]
theorem key_ll (a b:Int):decide ((Sum.inl a:Key)=Sum.inl b)=(a==b):=by
 by_cases e:a=b
 ·subst e;simp
 ·have h:¬(Sum.inl a:Key)=Sum.inl b:=fun q=>e (Sum.inl.inj q)
  rw [decide_eq_false h]
  exact (beq_eq_false_iff_ne.mpr e).symm
theorem key_rr (a b:Str):decide ((Sum.inr a:Key)=Sum.inr b)=decide (a=b):=by
 by_cases e:a=b
 ·subst e;simp
 ·have h:¬(Sum.inr a:Key)=Sum.inr b:=fun q=>e (Sum.inr.inj q)
  rw [decide_eq_false h,decide_eq_false e]
theorem key_lr (a:Int) (b:Str):decide ((Sum.inl a:Key)=Sum.inr b)=false:=decide_eq_false (fun q=>nomatch q)
theorem key_rl (a:Str) (b:Int):decide ((Sum.inr a:Key)=Sum.inl b)=false:=decide_eq_false (fun q=>nomatch q)
def Bj (prog:Program) (w:World):PySem.KeyKind prog w Key where
 is:=keyIs
 hash:=keyH w
 inj:=fun v a b ha hb=>by
  rcases Bp ha with ⟨i,t,rfl,rfl⟩|⟨x,t,rfl,rfl⟩
  ·rcases Bp hb with ⟨j,u,rfl,e⟩|⟨y,u,rfl,e⟩
   ·injection e with e1 _;rw [e1]
   ·exact nomatch e
  ·rcases Bp hb with ⟨j,u,rfl,e⟩|⟨y,u,rfl,e⟩
   ·exact nomatch e
   ·injection e with e1 _;rw [e1]
 byValue:=fun k v h=>by
  rcases Bp h with ⟨i,t,rfl,rfl⟩|⟨x,t,rfl,rfl⟩<;> rfl
 pyHash:=fun hv h=>by
  rcases Bp hv with ⟨i,t,rfl,rfl⟩|⟨x,t,rfl,rfl⟩
  ·exact wpAny_pyHash_int h
  ·exact wpAny_pyHash_str h
 eqBool:=fun hu hv h=>by
  rcases Bp hu with ⟨i,t,rfl,rfl⟩|⟨x,t,rfl,rfl⟩
  ·rcases Bp hv with ⟨j,u,rfl,rfl⟩|⟨y,u,rfl,rfl⟩
   ·rw [key_ll] at h;exact wpAny_eqBool_int h
   ·rw [key_lr] at h;exact SeqAt.EqAt.int_str i t y u _ _ _ _ h
  ·rcases Bp hv with ⟨j,u,rfl,rfl⟩|⟨y,u,rfl,rfl⟩
   ·rw [key_rl] at h;exact SeqAt.EqAt.str_int x t j u _ _ _ _ h
   ·rw [key_rr] at h;exact wpAny_eqBool_str h
 «strs» :=fun k x t v h=>by
  rcases Bp h with ⟨i,u,rfl,e⟩|⟨y,u,rfl,e⟩
  ·exact nomatch e
  ·injection e with e1 _
   subst e1
   cases v<;> rfl
theorem mixKind_int (prog:Program) (w:World) (i:Int) (t:Tok):(Bj prog w).is (.inl i) (.int i t)=true:=keyIs_int i t
theorem mixKind_str (prog:Program) (w:World) (x:Str) (t:Tok):(Bj prog w).is (.inr x) (.str x t)=true:=keyIs_str x t
end L2
namespace L2
open PySem PySem.Spec PyProof.Rows
inductive V where
 |non|bl (b:Bool)|int (i:Int)|str (x:Str)|byt (b:Array UInt8)|flt (b:UInt64)|ref (a:Addr)|ty (n:String)
 deriving DecidableEq
def RelV:V→Value→Prop
 | .non,u=>u=Value.none
 | .bl b,u=>u=Value.bool b
 | .int i,u=>∃t,u=Value.int i t
 | .str x,u=>∃t,u=Value.str x t
 | .byt b,u=>∃t,u=Value.bytes b t
 | .flt b,u=>∃t,u=Value.float b t
 | .ref a,u=>u=Value.ref a
 | .ty n,u=>u=Value.type n
abbrev Vals:List V→List Value→Prop:=Paired RelV
theorem Vals.length {xs:List V} {us:List Value} (r:Vals xs us):xs.length=us.length:=Paired.length r
theorem Vals.get:∀{xs:List V} {us:List Value} {i:Nat} {x:V},Vals xs us→xs[i]? =some x→∃u,us[i]? =some u∧RelV x u
 |_,_,_,_,.nil,e=>by simp at e
 |_,_,0,_,.cons r _,e=>by simp at e;subst e;exact ⟨_,rfl,r⟩
 |_,_,i+1,x,.cons _ t,e=>by
  obtain ⟨u,h1,h2⟩:=Vals.get (i:=i) (x:=x) t (by simpa using e)
  exact ⟨u,by simpa using h1,h2⟩
theorem Vals.set {x:V} {u:Value} (r:RelV x u):∀{xs:List V} {us:List Value} (i:Nat),Vals xs us→Vals (xs.set i x) (us.set i u)
 |_,_,_,.nil=> .nil
 |_,_,0,.cons _ t=> .cons r t
 |_,_,i+1,.cons q t=> .cons q (Vals.set r i t)
theorem Vals.append:∀{xs ys:List V} {us ws:List Value},Vals xs us→Vals ys ws→Vals (xs++ys) (us++ws)
 |_,_,_,_,.nil,s=>s
 |_,_,_,_,.cons r t,s=> .cons r (Vals.append t s)
theorem Vals.take:∀{xs:List V} {us:List Value} (n:Nat),Vals xs us→Vals (xs.take n) (us.take n)
 |_,_,0,_=> .nil
 |_,_,_+1,.nil=> .nil
 |_,_,n+1,.cons r t=> .cons r (Vals.take n t)
theorem Vals.drop:∀{xs:List V} {us:List Value} (n:Nat),Vals xs us→Vals (xs.drop n) (us.drop n)
 |_,_,0,r=>r
 |_,_,_+1,.nil=> .nil
 |_,_,n+1,.cons _ t=>Vals.drop n t
def RelO:Option V→Option Value→Prop
 |some v,some u=>RelV v u
 |none,none=>True
 |_,_=>False
def KV {κ:Type}:List (κ×V)→List (κ×Value)→Prop:=Paired fun (p:κ×V) (q:κ×Value)=>p.1=q.1∧RelV p.2 q.2
def kV:Key→V
 | .inl i=> .int i
 | .inr x=> .str x
inductive HO where
 |lst (xs:List V)
 |tup (xs:List V)
 |dK (kvs:List (Key×V))|dT (kvs:List (List Key×V))
 |set (S:Int→Bool) (n:Nat)
 |ins (C dx:Addr) (fs:List (Str×V))
 |own (x:Addr)
 |xd (fs:List (Str×V))
 |met (f x:Addr)
 |rng (lo hi:Int)
 |frz (o:Obj) (u:HO)
 |tbl (ps:Array Value)
 |ext (φ:Heap→Prop)
abbrev Hp:=Addr→Option HO
def upd (H:Hp) (a:Addr) (o:HO):Hp:=fun b=>if b=a then some o else H b
theorem Ab {H:Hp} {a:Addr} {o:HO}:upd H a o a=some o:=by unfold upd;rw [if_pos rfl]
theorem Ai {H:Hp} {a b:Addr} {o:HO} (h:b≠a):upd H a o b=H b:=by unfold upd;rw [if_neg h]
theorem upd_upd {H:Hp} {a:Addr} {o u:HO}:upd (upd H a o) a u=upd H a u:=by
 funext b;unfold upd;split<;> rfl
theorem Ao {H:Hp} {a b:Addr} {o u:HO} (h:H a=some o) (h':H b=some u) (d:o≠u):a≠b:=by
 intro e;subst e;rw [h] at h';exact d (Option.some.inj h')
theorem Aj {H:Hp} {a b:Addr} {o:HO} (h:H a=some o) (h':H b=none):a≠b:=by
 intro e;subst e;rw [h] at h';cases h'
def IsTupN (h:Heap) (a:Addr) (items:Array Value):Prop:=∃o,h.get? a=some o∧o.cls= .type "tuple"∧o.dict=none∧∃n,o.data= .seq items n
theorem IsTupN.new (h:Heap) (items:Array Value):IsTupN (h.push {cls:= .type "tuple",data:= .seq items}) h.objs.size items:=⟨_,Heap.get?_push_size _ rfl,rfl,rfl,_,rfl⟩
theorem IsTupN.tup {h:Heap} {a:Addr} {items:Array Value} (x:IsTupN h a items):IsTup h a items:=let ⟨o,e,c,_,n,d⟩:=x;⟨o,e,c,n,d⟩
section
variable (P:Program) (w:World)
def ObjOk (H:Hp) (h:Heap) (a:Addr):HO→Prop
 | .lst xs=>xs.length≤sizeLine∧∃(its:List Value) (n:Nat),Vals xs its∧h.get? a=some {cls:= .type "list",data:= .seq its.toArray n}
 | .tup xs=>xs.length≤sizeLine∧∃its:List Value,Vals xs its∧IsTupN h a its.toArray
 | .dK kvs=>kvs.length≤sizeLine∧(a==sysModules)=false∧∃vs,KV kvs vs∧h.DictOf (Bj P w) a vs
 | .dT kvs=>kvs.length≤sizeLine∧(a==sysModules)=false∧∃xs:List (List Key×Addr×Value),
   Paired (fun (p:List Key×V) (q:List Key×Addr×Value)=>p.1=q.1∧H q.2.1=some (.tup (p.1.map kV))∧RelV p.2 q.2.2) kvs xs∧
   ∃o es ep,h.get? a=some o∧o.ExactDict∧o.data= .dict es ep∧es.toList=xs.map (entryOfKey (tupleKind (Bj P w)))∧(xs.map (·.1)).Nodup
 | .set S n=>h.SetOf (intKind P w) a S n
 | .ins C dx fs=>H dx=some (.own a)∧fs.length≤1000∧dx≠a∧h.get? a=some (PySem.W.instObj C dx)∧
   ∃mA,h.Ns1 dx mA∧(∀f,RelO (fs.lookup f) (mA f))∧PySem.Within mA (fs.map (·.1))
 | .own _=>∃o,h.get? a=some o
 | .xd fs=>∃mA,h.Ns1 a mA∧∀f,RelO (fs.lookup f) (mA f)
 | .rng lo hi=>∃t u v,h.get? a=some {cls:= .type "range",data:= .fields #[.int lo t,.int hi u,.int 1 v]}
 | .frz o u=>h.get? a=some o∧ObjOk H h a u
 | .tbl ps=>h.get? a=some {cls:= .none,data:= .fields ps}
 | .met f x=>h.get? a=some (PySem.W.methodObj (.ref f) (.ref x))
 | .ext φ=>φ h∧(∃o,h.get? a=some o)∧∀h1 h2:Heap,φ h1→(∀o,h1.get? a=some o→h2.get? a=some o)→φ h2
def HOk (H:Hp) (h:Heap):Prop:=∀a o,H a=some o→ObjOk P w H h a o
end
section
variable {P:Program} {w:World} {H H':Hp} {h h':Heap} {a:Addr} {o:HO}
theorem ObjOk.lt (x:ObjOk P w H h a o):a<h.objs.size:=by
 cases o with
 |lst xs=>obtain ⟨_,_,_,_,e⟩:=x;exact Heap.lt_size e
 |tup xs=>obtain ⟨_,_,_,p⟩:=x;exact p.tup.lt
 |dK kvs=>obtain ⟨_,_,_,_,o,_,_,e,_⟩:=x;exact Heap.lt_size e
 |dT kvs=>obtain ⟨_,_,_,_,o,_,_,e,_⟩:=x;exact Heap.lt_size e
 |set S n=>obtain ⟨o,_,_,_,e,_⟩:=x;exact Heap.lt_size e
 |ins C dx fs=>obtain ⟨_,_,_,e,_⟩:=x;exact Heap.lt_size e
 |own y=>obtain ⟨_,e⟩:=x;exact Heap.lt_size e
 |xd fs=>obtain ⟨_,⟨_,_,_,e,_⟩,_⟩:=x;exact Heap.lt_size e
 |rng lo hi=>obtain ⟨_,_,_,e⟩:=x;exact Heap.lt_size e
 |frz ob u=>obtain ⟨e,_⟩:=x;exact Heap.lt_size e
 |tbl ps=>exact Heap.lt_size (show h.get? a=some _ from x)
 |met f y=>exact Heap.lt_size (show h.get? a=some _ from x)
 |ext φ=>obtain ⟨_,⟨_,e⟩,_⟩:=x;exact Heap.lt_size e
theorem Paired.mapP {α β:Type} {F G:α→β→Prop}:∀{l₁:List α} {l₂:List β},Paired F l₁ l₂→(∀a b,F a b→G a b)→Paired G l₁ l₂
 |_,_,.nil,_=> .nil
 |_,_,.cons r t,f=> .cons (f _ _ r) (Paired.mapP t f)
theorem ObjOk.stay (x:ObjOk P w H h a o) (k:∀b u,(b=a∨H b=some (.own a))→h.get? b=some u→h'.get? b=some u)
  (ho:∀b,H b=some (.own a)→H' b=some (.own a)) (ht:∀b xs,H b=some (.tup xs)→H' b=some (.tup xs)):ObjOk P w H' h' a o:=by
 induction o with
 |lst xs=>obtain ⟨z,its,n,r,e⟩:=x;exact ⟨z,its,n,r,k _ _ (.inl rfl) e⟩
 |tup xs=>obtain ⟨z,its,r,ob,e,c⟩:=x;exact ⟨z,its,r,ob,k _ _ (.inl rfl) e,c⟩
 |dK kvs=>obtain ⟨z,y,vs,r,ob,es,ep,e,c⟩:=x;exact ⟨z,y,vs,r,ob,es,ep,k _ _ (.inl rfl) e,c⟩
 |dT kvs=>
  obtain ⟨z,y,xs,r,ob,es,ep,e,c⟩:=x
  exact ⟨z,y,xs,Paired.mapP r fun p q z=>⟨z.1,ht _ _ z.2.1,z.2.2⟩,ob,es,ep,k _ _ (.inl rfl) e,c⟩
 |set S n=>obtain ⟨ob,es,ep,t,e,c⟩:=x;exact ⟨ob,es,ep,t,k _ _ (.inl rfl) e,c⟩
 |ins C dx fs=>
  obtain ⟨d,z,ne,e,mA,⟨od,es,ep,e2,c⟩,r⟩:=x
  exact ⟨ho _ d,z,ne,k _ _ (.inl rfl) e,mA,⟨od,es,ep,k _ _ (.inr d) e2,c⟩,r⟩
 |own y=>obtain ⟨ob,e⟩:=x;exact ⟨ob,k _ _ (.inl rfl) e⟩
 |xd fs=>obtain ⟨mA,⟨od,es,ep,e,c⟩,r⟩:=x;exact ⟨mA,⟨od,es,ep,k _ _ (.inl rfl) e,c⟩,r⟩
 |rng lo hi=>obtain ⟨t,u,v,e⟩:=x;exact ⟨t,u,v,k _ _ (.inl rfl) e⟩
 |frz ob u ih=>obtain ⟨e,q⟩:=x;exact ⟨k _ _ (.inl rfl) e,ih q⟩
 |tbl ps=>
  have e:h.get? a=some {cls:= .none,data:= .fields ps}:=x
  show h'.get? a=some {cls:= .none,data:= .fields ps}
  exact k a _ (.inl rfl) e
 |met f y=>
  have e:h.get? a=some (PySem.W.methodObj (.ref f) (.ref y)):=x
  show h'.get? a=some (PySem.W.methodObj (.ref f) (.ref y))
  exact k a _ (.inl rfl) e
 |ext φ=>obtain ⟨p,⟨o,e⟩,st⟩:=x;exact ⟨st _ _ p fun o q=>k _ _ (.inl rfl) q,⟨o,k _ _ (.inl rfl) e⟩,st⟩
theorem HOk.lt (x:HOk P w H h) (e:H a=some o):a<h.objs.size:=(x a o e).lt
theorem HOk.fresh (x:HOk P w H h) (e:h.objs.size≤a):H a=none:=by
 cases q:H a with
 |none=>rfl
 |some u=>exact absurd (Nat.lt_of_lt_of_le (x.lt q) e) (Nat.lt_irrefl _)
theorem HOk.kept (x:HOk P w H h) (k:∀b u,h.get? b=some u→h'.get? b=some u):HOk P w H h':=fun a o e=>
 (x a o e).stay (fun b u _ q=>k b u q) (fun _ q=>q) fun _ _ q=>q
theorem HOk.laid (x:HOk P w H h) (k:∀b u,h.get? b=some u→h'.get? b=some u) (hp:h.objs.size≤a) (new:ObjOk P w (upd H a o) h' a o):HOk P w (upd H a o) h':=fun b u e=>by
 have hn:=x.fresh hp
 by_cases hb:b=a
 ·subst hb;rw [Ab] at e;cases e;exact new
 ·rw [Ai hb] at e
  exact (x b u e).stay (fun c v _ q=>k c v q) (fun c q=>by rw [Ai (Aj q hn)];exact q) fun c xs q=>by rw [Ai (Aj q hn)];exact q
end
def Rd (H:Hp) (a:Addr) (u:HO):Prop:=H a=some u∨∃o,H a=some (.frz o u)
theorem Rd.ok {P:Program} {w:World} {H:Hp} {h:Heap} {a:Addr} {u:HO} (r:Rd H a u) (x:HOk P w H h):ObjOk P w H h a u:=by
 rcases r with r|⟨o,r⟩
 ·exact x a u r
 ·obtain ⟨_,q⟩:=x a _ r
  exact q
def Mut:Option HO→Prop
 |some (.lst _)=>True
 |some (.dK _)=>True
 |some (.dT _)=>True
 |some (.set _ _)=>True
 |some (.ins _ _ _)=>True
 |some (.ext _)=>True
 |_=>False
section
variable {P:Program} {w:World} {H:Hp} {h h':Heap} {x e:Addr} {o':HO}
theorem HOk.write (ok:HOk P w H h) (mu:Mut (H x)) (he:e=x∨H e=some (.own x)) (k:∀b u,b≠e→h.get? b=some u→h'.get? b=some u) (heo:∃u,h'.get? e=some u)
  (new:ObjOk P w (upd H x o') h' x o'):HOk P w (upd H x o') h':=fun b u q=>by
 have nown:∀c y,H c=some (.own y)→c≠x:=fun c y r z=>by subst z;rw [r] at mu;exact mu
 have ntup:∀c xs,H c=some (.tup xs)→c≠x:=fun c xs r z=>by subst z;rw [r] at mu;exact mu
 by_cases hb:b=x
 ·subst hb;rw [Ab] at q;cases q;exact new
 ·rw [Ai hb] at q
  by_cases hbe:b=e
  ·have q':H b=some (.own x):=by
    rcases he with z|z
    ·exact absurd (hbe.trans z) hb
    ·rw [hbe];exact z
   rw [q] at q';cases q'
   obtain ⟨v,hv⟩:=heo
   exact ⟨v,by rw [hbe];exact hv⟩
  ·refine (ok b u q).stay (fun c v hc r=>k c v ?_ r) (fun c r=>by rw [Ai (nown c b r)];exact r) fun c xs r=>by rw [Ai (ntup c xs r)];exact r
   rcases hc with rfl|hc
   ·exact hbe
   ·rintro rfl
    rcases he with z|z
    ·exact nown c b hc z
    ·rw [hc] at z;cases z;exact hb rfl
end
structure Un (fs ex:List Addr) (H H':Hp) (h h':Heap):Prop where
 keep:∀b o,h.get? b=some o→H b=none→b ∉ fs→b ∉ ex→h'.get? b=some o
 slot:∀b o,h.get? b=some o→H b=none→b∈fs→b ∉ ex→∃sl,h'.get? b=some {o with slots:=sl}
 free:∀b o,h.get? b=some o→H b=none→b ∉ ex→H' b=none
 there:∀b o,h.get? b=some o→b ∉ ex→∃o',h'.get? b=some o'
 tups:∀b xs,H b=some (.tup xs)→H' b=some (.tup xs)
 frzs:∀b o u,H b=some (.frz o u)→H' b=some (.frz o u)
 tbls:∀b ps,H b=some (.tbl ps)→∃more,H' b=some (.tbl (ps++more))
section
variable {fs fs' ex ex':List Addr} {H H1 H2:Hp} {h h1 h2 h':Heap} {a x e:Addr} {o:HO}
theorem Un.any (u:Un fs ex H H1 h h1) {b:Addr} {ob:Obj} (q:h.get? b=some ob) (n:H b=none) (hx:b ∉ ex):∃sl,h1.get? b=some {ob with slots:=sl}:=by
 by_cases hb:b∈fs
 ·exact u.slot b ob q n hb hx
 ·exact ⟨ob.slots,u.keep b ob q n hb hx⟩
theorem Un.kept (k:∀b u,h.get? b=some u→h'.get? b=some u):Un fs ex H H h h':=
 ⟨fun b ob q _ _ _=>k b ob q,fun b ob q _ _ _=>⟨ob.slots,k b ob q⟩,fun _ _ _ n _=>n,fun b ob q _=>⟨ob,k b ob q⟩,fun _ _ q=>q,fun _ _ _ q=>q,fun _ ps q=>⟨#[],by rw [q];simp⟩⟩
theorem Un.refl:Un fs ex H H h h:=Un.kept fun _ _ q=>q
theorem Un.laid (k:∀b u,h.get? b=some u→h'.get? b=some u) (hp:h.objs.size≤a) (hn:H a=none):Un fs ex H (upd H a o) h h' where
 keep:=fun b u q _ _ _=>k b u q
 slot:=fun b u q _ _ _=>⟨u.slots,k b u q⟩
 free:=fun b u q n _=>by rw [Ai (Nat.ne_of_lt (Nat.lt_of_lt_of_le (Heap.lt_size q) hp))];exact n
 there:=fun b u q _=>⟨u,k b u q⟩
 tups:=fun b xs q=>by rw [Ai (Aj q hn)];exact q
 frzs:=fun b u xs q=>by rw [Ai (Aj q hn)];exact q
 tbls:=fun b ps q=>⟨#[],by rw [Ai (Aj q hn),q];simp⟩
theorem Un.write (mu:Mut (H x)) (he:e=x∨H e=some (.own x)) (k:∀b u,b≠e→h.get? b=some u→h'.get? b=some u) (heo:∃u,h'.get? e=some u):Un fs ex H (upd H x o) h h':=by
 have hx:∀b,H b=none→b≠x:=fun b n z=>by subst z;rw [n] at mu;exact mu
 have hb:∀b,H b=none→b≠e:=fun b n z=>by
  subst z
  rcases he with r|r
  ·exact hx b n r
  ·rw [n] at r;cases r
 have hm:∀b u,H b=some u→¬Mut (some u)→b≠x:=fun b u q nm z=>by subst z;rw [q] at mu;exact nm mu
 refine ⟨fun b u q n _ _=>k b u (hb b n) q,fun b u q n _ _=>⟨u.slots,k b u (hb b n) q⟩,fun b u q n _=>by rw [Ai (hx b n)];exact n,fun b u q _=> ?_,
  fun b xs q=>by rw [Ai (hm b _ q fun z=>z)];exact q,fun b u xs q=>by rw [Ai (hm b _ q fun z=>z)];exact q,fun b ps q=>⟨#[],by rw [Ai (hm b _ q fun z=>z),q];simp⟩⟩
 by_cases hbe:b=e
 ·subst hbe;exact heo
 ·exact ⟨u,k b u hbe q⟩
end
def trk (h:Heap) (H:Hp):List Addr:=(List.range h.objs.size).filter fun a=>(H a).isSome
def hidT (h:Heap) (H:Hp):Heap:=PySem.W.hideAll h (trk h H)
theorem hidT_size (h:Heap) (H:Hp):(hidT h H).objs.size=h.objs.size:=PySem.W.hideAll_size _ _
theorem hidT_get {h:Heap} {H:Hp} {b:Addr} {o:Obj} (e:h.get? b=some o) (n:H b=none):(hidT h H).get? b=some o:=
 PySem.W.hideAll_get _ e fun hm=>by
  have q:(H b).isSome=true:=(List.mem_filter.mp hm).2
  rw [n] at q;simp at q
theorem of_hidT {h:Heap} {H:Hp} {b:Addr} {o:Obj} (e:(hidT h H).get? b=some o):h.get? b=some o∧H b=none:=by
 have e':h.get? b=some o:=PySem.W.of_hideAll (trk h H) e
 refine ⟨e',?_⟩
 cases q:H b with
 |none=>rfl
 |some x=>
  have hm:b∈trk h H:=List.mem_filter.mpr ⟨List.mem_range.mpr (Heap.lt_size e'),by simp [q]⟩
  have z:(hidT h H).get? b=none:=PySem.W.hideAll_none (trk h H) hm
  rw [z] at e;cases e
end L2
namespace L2
open PySem PySem.Spec PyProof.Rows
structure Mod (K:PySem.W.Frag) (mg:Str→Option Value) (base:Heap):Prop where
 kin:K.In base
 glob:base.Ns mainGlobals mg
 blt:∃mb,base.Ns builtinsNs mb∧∀x:Str,x≠"__name__"→mb x=bootBuiltins x
 nolimit:base.NoLimit
structure Cx where
 prog:Program
 w:World
 K:PySem.W.Frag
 mg:Str→Option Value
 base:Heap
 A:Around
 N:List Str
 s₀:Shared
 H₀:Hp
 env:Env
 outer:List Env
 stack:List Env
 ex:List Addr
 fn:Str→Bool
 calm:Bool
 pn:List (Addr×Obj)
 xe:Value→Shared→Prop
def frs (l:List Env):List Addr:=l.filterMap (·.frame)
abbrev Cx.fs (X:Cx):List Addr:=frs X.outer
def Vis (sc:Scope) (x:Str):Prop:=sc.names.lookup x=some .local∨sc.names.lookup x=some .cell∨sc.names.lookup x=some .free
def Loc (sc:Scope) (x:Str):Prop:=sc.names.lookup x=some .local∨sc.names.lookup x=some .cell
def Look (env:Env) (h:Heap) (m:Str→Option Value) (x:Str) (u:Value):Prop:=
 (env.kindOf x=some .local∧m x=some u)∨((env.kindOf x=some .cell∨env.kindOf x=some .free)∧∃c,env.cells.lookup x=some c∧h.IsCell c (some u))
structure Cx.Ok (X:Cx):Prop where
 mod:Mod X.K X.mg X.base
 kind:X.env.scope.kind= .function
 glob:X.env.globals=mainGlobals
 blt:X.env.builtins=builtinsNs
 above:X.s₀.heap.objs.size≤X.env.locals
 inj:∀x y c,X.env.cells.lookup x=some c→X.env.cells.lookup y=some c→x=y
 has:∀x,(X.env.kindOf x=some .cell∨X.env.kindOf x=some .free)→∃c,X.env.cells.lookup x=some c
 cab:∀x c,X.fn x=true→X.env.cells.lookup x=some c→X.s₀.heap.objs.size≤c
 hd:X.calm=true→X.A.handled=none
 frames:X.A.frames=some X.stack
 stk:X.stack=X.outer∨(X.stack=X.env::X.outer∧X.env.frame=some X.env.locals)
 exf:∀b∈X.ex,b≠X.env.locals∧∀x c,X.env.cells.lookup x=some c→c≠b
 bs:∀b o,X.base.get? b=some o→X.s₀.heap.get? b=some o∧X.H₀ b=none
 bsz:X.base.objs.size≤X.s₀.heap.objs.size
 noex:∀b o,X.base.get? b=some o→b ∉ X.ex
 exfs:∀b∈X.ex,b ∉ X.fs
 funs:X.s₀.heap.FunFrames X.base X.outer
 frf:∀b∈X.fs,X.H₀ b=none
structure Inv (X:Cx) (pins:List (Addr×Obj)) (σ:List (Option V)) (H:Hp) (s:Shared):Prop where
 ok:X.Ok
 os:s.os=X.s₀.os
 bare:AllBare s.gens
 base:Un X.fs X.ex X.H₀ H X.s₀.heap s.heap
 loc:∃m,s.heap.Ns X.env.locals m∧∀(i:Nat) (x:Str) (v:V),X.N[i]? =some x→σ[i]? =some (some v)→Vis X.env.scope x→∃u,RelV v u∧Look X.env s.heap m x u
 cell:∀x c,X.env.cells.lookup x=some c→∃v,s.heap.IsCell c v
 free:H X.env.locals=none
 freeC:∀x c,X.env.cells.lookup x=some c→H c=none
 pin:∀p∈X.pn++pins,s.heap.get? p.1=some p.2∧H p.1=none∧p.1≠X.env.locals∧p.1 ∉ X.fs∧∀v,p.2.data≠ .cell v
 hok:HOk X.prog X.w H s.heap
 len:σ.length=X.N.length
section
variable {X:Cx} {pins:List (Addr×Obj)} {σ:List (Option V)} {H H':Hp} {s:Shared} {h':Heap}
theorem Cx.Ok.nofr (ok:X.Ok) {b:Addr} {o:Obj} (e:X.base.get? b=some o):b ∉ X.fs:=fun hb=>by
 have:=(ok.funs.mem hb).1
 rw [e] at this;cases this
theorem Inv.bs (I:Inv X pins σ H s):∀b o,X.base.get? b=some o→s.heap.get? b=some o∧H b=none:=fun b o e=>
 ⟨I.base.keep b o (I.ok.bs b o e).1 (I.ok.bs b o e).2 (I.ok.nofr e) (I.ok.noex b o e),I.base.free b o (I.ok.bs b o e).1 (I.ok.bs b o e).2 (I.ok.noex b o e)⟩
theorem Inv.bk (I:Inv X pins σ H s):∀b o,X.base.get? b=some o→s.heap.get? b=some o:=fun b o e=>(I.bs b o e).1
theorem Inv.mod (I:Inv X pins σ H s):Mod X.K X.mg X.base:=I.ok.mod
theorem Inv.kIn (I:Inv X pins σ H s):X.K.In s.heap:=I.ok.mod.kin.keeps I.bk
theorem Inv.lt (I:Inv X pins σ H s):X.env.locals<s.heap.objs.size:=let ⟨_,hn,_⟩:=I.loc;hn.lt
theorem Inv.sz (I:Inv X pins σ H s):X.s₀.heap.objs.size≤s.heap.objs.size:=Nat.le_trans I.ok.above (Nat.le_of_lt I.lt)
theorem Inv.nofs (I:Inv X pins σ H s) {a:Addr} (h:s.heap.objs.size≤a):a ∉ X.fs:=fun hb=>by
 obtain ⟨_,o,ho,_⟩:=I.ok.funs.mem hb
 exact absurd (Nat.lt_of_lt_of_le (Heap.lt_size ho) (Nat.le_trans I.sz h)) (Nat.lt_irrefl _)
theorem Inv.cne (I:Inv X pins σ H s):∀x c,X.env.cells.lookup x=some c→c≠X.env.locals:=fun x c e z=>by
 obtain ⟨v,o,ho,hd⟩:=I.cell x c e
 obtain ⟨m,⟨o',es,ep,ho',hd',_⟩,_⟩:=I.loc
 rw [z,ho'] at ho;cases ho;rw [hd'] at hd;cases hd
theorem Inv.funs (I:Inv X pins σ H s):s.heap.FunFrames X.base X.outer:=by
 have all:∀(l:List Env),(∀b∈frs l,b∈X.fs)→X.s₀.heap.FunFrames X.base l→s.heap.FunFrames X.base l:=by
  intro l
  induction l with
  |nil=>intro _ _;trivial
  |cons env r ih=>
   intro hs hl
   obtain ⟨hk,⟨L,o,hf,hn,ho,hd⟩,hr⟩:=hl
   have hL:L∈X.fs:=hs L (by unfold frs;rw [List.filterMap_cons,hf];exact List.mem_cons_self)
   obtain ⟨sl,e⟩:=I.base.slot L o ho (I.ok.frf L hL) hL fun z=>I.ok.exfs L z hL
   exact ⟨hk,⟨L,_,hf,hn,e,hd⟩,ih (fun b hb=>hs b (by unfold frs;rw [List.filterMap_cons,hf];exact List.mem_cons_of_mem _ hb)) hr⟩
 exact all X.outer (fun _ hb=>hb) I.ok.funs
theorem Inv.stack (I:Inv X pins σ H s):s.heap.FunFrames X.base X.stack:=by
 rcases I.ok.stk with e|⟨e,hf⟩
 ·rw [e];exact I.funs
 ·rw [e]
  obtain ⟨m,hn,_⟩:=I.loc
  refine .cons (by rw [I.ok.kind];decide) hf hn ?_ I.funs
  exact Heap.get?_none_of_le (Nat.le_trans I.ok.bsz I.ok.above)
theorem Inv.stkSub (I:Inv X pins σ H s):∀b∈frs X.stack,b∈X.env.locals::X.fs:=fun b hb=>by
 rcases I.ok.stk with e|⟨e,hf⟩
 ·rw [e] at hb;exact List.mem_cons_of_mem _ hb
 ·rw [e] at hb
  unfold frs at hb
  rw [List.filterMap_cons,hf] at hb
  exact hb
theorem Inv.stkFree (I:Inv X pins σ H s):∀b∈frs X.stack,H b=none:=fun b hb=>by
 rcases List.mem_cons.mp (I.stkSub b hb) with e|hb
 ·rw [e];exact I.free
 ·obtain ⟨_,o,ho,_⟩:=I.ok.funs.mem hb
  exact I.base.free b o ho (I.ok.frf b hb) fun z=>I.ok.exfs b z hb
theorem Inv.step {g':Array GenState} {t':Nat} {d':Drawn} {ch:List Addr} (I:Inv X pins σ H s)
  (hch:∀b∈ch,(b∈X.ex∨X.s₀.heap.objs.size≤b)∧b≠X.env.locals∧(∀x c,X.env.cells.lookup x=some c→c≠b)∧∀p∈X.pn++pins,p.1≠b)
  (keep:∀b o,b≠X.env.locals→b ∉ X.fs→b ∉ ch→s.heap.get? b=some o→H b=none→h'.get? b=some o)
  (slot:∀b o,b≠X.env.locals→b∈X.fs→b ∉ ch→s.heap.get? b=some o→H b=none→∃sl,h'.get? b=some {o with slots:=sl}) (free:∀b o,b ∉ ch→s.heap.get? b=some o→H b=none→H' b=none)
  (there:∀b o,b ∉ ch→s.heap.get? b=some o→∃o',h'.get? b=some o')
  (tups:∀b xs,H b=some (.tup xs)→H' b=some (.tup xs)) (frzs:∀b o u,H b=some (.frz o u)→H' b=some (.frz o u)) (tbls:∀b ps,H b=some (.tbl ps)→∃more,H' b=some (.tbl (ps++more)))
  (ns:∀m,s.heap.Ns X.env.locals m→h'.Ns X.env.locals m) (hok:HOk X.prog X.w H' h') (hg:AllBare g'):
  Inv X pins σ H' {s with heap:=h',gens:=g',drawn:=d',toks:=t'}:=by
 have neL:∀b o,X.s₀.heap.get? b=some o→b≠X.env.locals:=fun b o e=>Nat.ne_of_lt (Nat.lt_of_lt_of_le (Heap.lt_size e) I.ok.above)
 have neC:∀b o,X.s₀.heap.get? b=some o→b ∉ X.ex→b ∉ ch:=fun b o e hx hb=>by
  rcases (hch b hb).1 with z|z
  ·exact hx z
  ·exact absurd (Nat.lt_of_lt_of_le (Heap.lt_size e) z) (Nat.lt_irrefl _)
 have cellK:∀x c,X.env.cells.lookup x=some c→∀v,s.heap.IsCell c v→h'.IsCell c v:=fun x c e v ⟨o,ho,hd⟩=>by
  have nch:c ∉ ch:=fun z=>(hch c z).2.2.1 x c e rfl
  by_cases hc:c∈X.fs
  ·obtain ⟨sl,q⟩:=slot c o (I.cne x c e) hc nch ho (I.freeC x c e)
   exact ⟨_,q,hd⟩
  ·exact ⟨o,keep c o (I.cne x c e) hc nch ho (I.freeC x c e),hd⟩
 refine ⟨I.ok,I.os,hg,⟨fun b o e n hb hx=> ?_,fun b o e n hb hx=> ?_,fun b o e n hx=> ?_,fun b o e hx=> ?_,fun b xs e=>tups b xs (I.base.tups b xs e),fun b o xs e=>frzs b o xs (I.base.frzs b o xs e),fun b ps e=> ?_⟩,?_,fun x c e=> ?_,?_,fun x c e=> ?_,fun p hp=> ?_,hok,I.len⟩
 ·exact keep b o (neL b o e) hb (neC b o e hx) (I.base.keep b o e n hb hx) (I.base.free b o e n hx)
 ·obtain ⟨sl,e1⟩:=I.base.slot b o e n hb hx
  obtain ⟨sl',e2⟩:=slot b _ (neL b o e) hb (neC b o e hx) e1 (I.base.free b o e n hx)
  exact ⟨sl',e2⟩
 ·obtain ⟨o',e1⟩:=I.base.there b o e hx
  exact free b o' (neC b o e hx) e1 (I.base.free b o e n hx)
 ·obtain ⟨o',e1⟩:=I.base.there b o e hx
  exact there b o' (neC b o e hx) e1
 ·obtain ⟨m1,e1⟩:=I.base.tbls b ps e
  obtain ⟨m2,e2⟩:=tbls b _ e1
  exact ⟨m1++m2,by rw [e2,Array.append_assoc]⟩
 ·obtain ⟨m,hn,hl⟩:=I.loc
  refine ⟨m,ns m hn,fun i x v e1 e2 e3=> ?_⟩
  obtain ⟨u,r,l⟩:=hl i x v e1 e2 e3
  refine ⟨u,r,?_⟩
  rcases l with l|⟨k,c,e,z⟩
  ·exact .inl l
  ·exact .inr ⟨k,c,e,cellK x c e _ z⟩
 ·obtain ⟨v,z⟩:=I.cell x c e
  exact ⟨v,cellK x c e v z⟩
 ·obtain ⟨m,⟨o,_,_,ho,_⟩,_⟩:=I.loc
  exact free _ o (fun z=>(hch _ z).2.1 rfl) ho I.free
 ·obtain ⟨v,o,ho,hd⟩:=I.cell x c e
  exact free c o (fun z=>(hch c z).2.2.1 x c e rfl) ho (I.freeC x c e)
 ·obtain ⟨e,n,ne,nf,d⟩:=I.pin p hp
  have nch:p.1 ∉ ch:=fun z=>(hch p.1 z).2.2.2 p hp rfl
  exact ⟨keep p.1 p.2 ne nf nch e n,free p.1 p.2 nch e n,ne,nf,d⟩
theorem Inv.un {t':Nat} (I:Inv X pins σ H s) (u:Un X.fs [] H H' s.heap h') (hok:HOk X.prog X.w H' h'):Inv X pins σ H' {s with heap:=h',toks:=t'}:=by
 obtain ⟨m,⟨o,es,ep,ho,r⟩,_⟩:=id I.loc
 obtain ⟨sl,hL⟩:=u.any ho I.free (by simp)
 exact I.step (g':=s.gens) (d':=s.drawn) (ch:=[]) (fun _ z=>nomatch z) (fun b o _ hb _ e n=>u.keep b o e n hb (by simp)) (fun b o _ hb _ e n=>u.slot b o e n hb (by simp)) (fun b o _ e n=>u.free b o e n (by simp)) (fun b o _ e=>u.there b o e (by simp)) u.tups u.frzs u.tbls (fun m' hm=>by
  obtain ⟨o',es',ep',ho',r'⟩:=hm
  rw [ho] at ho';cases ho'
  exact ⟨_,es',ep',hL,r'⟩) hok I.bare
theorem Inv.call {g':Array GenState} {t':Nat} {d':Drawn} {ch:List Addr} (I:Inv X pins σ H s) (u:Un (frs X.stack) ch H H' s.heap h') (hok:HOk X.prog X.w H' h') (hg:AllBare g')
  (hch:∀b∈ch,(b∈X.ex∨X.s₀.heap.objs.size≤b)∧b≠X.env.locals∧(∀x c,X.env.cells.lookup x=some c→c≠b)∧∀p∈X.pn++pins,p.1≠b):
  Inv X pins σ H' {s with heap:=h',gens:=g',drawn:=d',toks:=t'}:=by
 obtain ⟨m,⟨o,es,ep,ho,r⟩,_⟩:=id I.loc
 obtain ⟨sl,hL⟩:=u.any ho I.free fun z=>(hch _ z).2.1 rfl
 exact I.step (ch:=ch) hch (fun b o hL hb hc e n=>u.keep b o e n (fun z=>(List.mem_cons.mp (I.stkSub b z)).elim hL hb) hc) (fun b o _ _ hc e n=>u.any e n hc) (fun b o hc e n=>u.free b o e n hc) (fun b o hc e=>u.there b o e hc) u.tups u.frzs u.tbls (fun m' hm=>by
  obtain ⟨o',es',ep',ho',r'⟩:=hm
  rw [ho] at ho';cases ho'
  exact ⟨_,es',ep',hL,r'⟩) hok hg
theorem Inv.turned {t':Nat} {it:Addr} (I:Inv X pins σ H s) (k:∀b o,b≠it→s.heap.get? b=some o→h'.get? b=some o) (hn:H it=none) (hL:it≠X.env.locals)
  (h1:it∈X.ex∨X.s₀.heap.objs.size≤it) (h2:∀x c,X.env.cells.lookup x=some c→c≠it) (h3:∀p∈X.pn++pins,p.1≠it):Inv X pins σ H {s with heap:=h',toks:=t'}:=by
 have nit:∀b u,H b=some u→b≠it:=fun b u e z=>by rw [z,hn] at e;cases e
 refine I.step (g':=s.gens) (d':=s.drawn) (ch:=[it]) (fun b hb=> ?_) (fun b o _ _ hc e _=>k b o (fun z=>hc (by simp [z])) e) (fun b o _ _ hc e _=>⟨o.slots,k b o (fun z=>hc (by simp [z])) e⟩) (fun _ _ _ _ n=>n)
  (fun b o hc e=>⟨o,k b o (fun z=>hc (by simp [z])) e⟩) (fun _ _ e=>e) (fun _ _ _ e=>e) (fun b ps e=>⟨#[],by rw [e];simp⟩) (fun m hm=> ?_) (fun b u e=> ?_) I.bare
 ·have e:b=it:=by simpa using hb
  subst e
  exact ⟨h1,hL,h2,h3⟩
 ·obtain ⟨o,es,ep,ho,r⟩:=hm
  exact ⟨o,es,ep,k _ o (Ne.symm hL) ho,r⟩
 ·refine (I.hok b u e).stay (fun c v hc q=>k c v ?_ q) (fun _ q=>q) fun _ _ q=>q
  rcases hc with z|z
  ·rw [z];exact nit b u e
  ·exact nit c _ z
theorem Inv.tok (I:Inv X pins σ H s) (t:Nat):Inv X pins σ H {s with toks:=t}:=I.un (h':=s.heap) (t':=t) Un.refl I.hok
theorem Inv.kept {t':Nat} (I:Inv X pins σ H s) (k:∀b u,s.heap.get? b=some u→h'.get? b=some u):Inv X pins σ H {s with heap:=h',toks:=t'}:=I.un (Un.kept k) (I.hok.kept k)
theorem Inv.laid {a:Addr} {o:HO} {t':Nat} (I:Inv X pins σ H s) (k:∀b u,s.heap.get? b=some u→h'.get? b=some u) (hp:s.heap.objs.size≤a) (new:ObjOk X.prog X.w (upd H a o) h' a o):
  Inv X pins σ (upd H a o) {s with heap:=h',toks:=t'}:=I.un (Un.laid k hp (I.hok.fresh hp)) (I.hok.laid k hp new)
theorem Inv.write {x e:Addr} {o:HO} {t':Nat} (I:Inv X pins σ H s) (mu:Mut (H x)) (he:e=x∨H e=some (.own x)) (k:∀b u,b≠e→s.heap.get? b=some u→h'.get? b=some u) (heo:∃u,h'.get? e=some u)
  (new:ObjOk X.prog X.w (upd H x o) h' x o):Inv X pins σ (upd H x o) {s with heap:=h',toks:=t'}:=I.un (Un.write mu he k heo) (I.hok.write mu he k heo new)
theorem Inv.pins_of {pins':List (Addr×Obj)} (I:Inv X pins σ H s) (h:∀p∈pins',s.heap.get? p.1=some p.2∧H p.1=none∧p.1≠X.env.locals∧p.1 ∉ X.fs∧∀v,p.2.data≠ .cell v):Inv X pins' σ H s:=
 ⟨I.ok,I.os,I.bare,I.base,I.loc,I.cell,I.free,I.freeC,fun p hp=>(List.mem_append.mp hp).elim (fun z=>I.pin p (List.mem_append_left _ z)) (h p),I.hok,I.len⟩
theorem nodup_ix {N:List Str} (hN:N.Nodup) {i j:Nat} {x:Str} (a:N[i]? =some x) (b:N[j]? =some x):i=j:=by
 obtain ⟨h1,e1⟩:=List.getElem?_eq_some_iff.mp a
 obtain ⟨h2,e2⟩:=List.getElem?_eq_some_iff.mp b
 exact (List.getElem_inj hN).mp (e1.trans e2.symm)
theorem store_ok2 {M:Model} {A:Around} {E:Value→Shared→Prop} {i:Nat} {x:Str} {v:V} {u:Value} {Q:Unit→Shared→Prop} (I:Inv X pins σ H s) (hN:X.N.Nodup) (hi:X.N[i]? =some x) (hx:Loc X.env.scope x) (r:RelV v u)
  (h:∀s',Inv X pins (σ.set i (some v)) H s'→(∃a,Heap.SameBut a s.heap s'.heap∧(a=X.env.locals∨X.env.cells.lookup x=some a))→Q () s') (hf:X.fn x=true∨X.env.scope.names.lookup x=some .local:=by first|exact .inl rfl|exact .inr rfl|assumption):wpAny M A (storeName X.env x u) Q E s:=by
 obtain ⟨m,hn,hl⟩:=id I.loc
 have hcls:(X.env.scope.kind== .class||(X.env.scope.kind== .module && X.env.locals !=X.env.globals))=false:=by rw [I.ok.kind];rfl
 have hiσ:i<σ.length:=by rw [I.len];exact (List.getElem?_eq_some_iff.mp hi).1
 have cne:=I.cne
 have tracked:∀{a:Addr} {h':Heap},(∃o,s.heap.get? a=some o∧H a=none)→Heap.SameBut a s.heap h'→HOk X.prog X.w H h':=fun {a h'} ha hs b ob e=>by
  obtain ⟨_,_,hfree⟩:=ha
  refine (I.hok b ob e).stay (fun c w' hc q=>(hs.2 c ?_).trans q) (fun _ q=>q) fun _ _ q=>q
  rintro rfl
  rcases hc with rfl|hc
  ·rw [hfree] at e;cases e
  ·rw [hfree] at hc;cases hc
 rcases hx with hk|hk
 ·refine wpAny_storeName_local hk hn (fun h' hn' hs=> ?_) hcls
  obtain ⟨oL,_,_,hoL,_⟩:=id hn
  refine h _ ⟨I.ok,I.os,I.bare,⟨fun b o e n hb hx=> ?_,fun b o e n hb hx=> ?_,I.base.free,fun b o e hx=> ?_,I.base.tups,I.base.frzs,I.base.tbls⟩,⟨_,hn',fun j y v' e1 e2 e3=> ?_⟩,fun y c e=> ?_,I.free,I.freeC,fun p hp=> ?_,tracked ⟨oL,hoL,I.free⟩ hs,by simpa using I.len⟩ ⟨_,hs,.inl rfl⟩
  ·exact (hs.2 b (Nat.ne_of_lt (Nat.lt_of_lt_of_le (Heap.lt_size e) I.ok.above))).trans (I.base.keep b o e n hb hx)
  ·obtain ⟨sl,e1⟩:=I.base.slot b o e n hb hx
   exact ⟨sl,(hs.2 b (Nat.ne_of_lt (Nat.lt_of_lt_of_le (Heap.lt_size e) I.ok.above))).trans e1⟩
  ·obtain ⟨o',e1⟩:=I.base.there b o e hx
   exact ⟨o',(hs.2 b (Nat.ne_of_lt (Nat.lt_of_lt_of_le (Heap.lt_size e) I.ok.above))).trans e1⟩
  ·by_cases hj:j=i
   ·subst hj
    rw [hi] at e1;cases e1
    rw [List.getElem?_set_self hiσ] at e2
    cases e2
    exact ⟨u,r,.inl ⟨hk,by simp⟩⟩
   ·rw [List.getElem?_set_ne (Ne.symm hj)] at e2
    obtain ⟨u',r',q⟩:=hl j y v' e1 e2 e3
    refine ⟨u',r',?_⟩
    rcases q with ⟨k,e⟩|⟨k,c,e,z⟩
    ·refine .inl ⟨k,?_⟩
     have:y≠x:=fun e=>hj (nodup_ix hN e1 (e▸hi))
     simp [this,e]
    ·exact .inr ⟨k,c,e,z.sameBut hs (cne y c e)⟩
  ·obtain ⟨w',z⟩:=I.cell y c e
   exact ⟨w',z.sameBut hs (cne y c e)⟩
  ·obtain ⟨e,n,ne,nf,d⟩:=I.pin p hp
   exact ⟨(hs.2 p.1 ne).trans e,n,ne,nf,d⟩
 ·have hfn:X.fn x=true:=by
   rcases hf with z|z
   ·exact z
   ·rw [z] at hk;cases hk
  obtain ⟨c,hc⟩:=I.ok.has x (.inl hk)
  obtain ⟨w',z⟩:=I.cell x c hc
  refine wpAny_storeName_cell I.ok.kind hk hc z (fun h' hc' hs=> ?_)
  obtain ⟨oc,hoc,hocd⟩:=id z
  refine h {s with heap:=h'} ⟨I.ok,I.os,I.bare,⟨fun b o e n hb hx=> ?_,fun b o e n hb hx=> ?_,I.base.free,fun b o e hx=> ?_,I.base.tups,I.base.frzs,I.base.tbls⟩,⟨m,hn.sameBut hs (Ne.symm (cne x c hc)),fun j y v' e1 e2 e3=> ?_⟩,fun y c' e=> ?_,I.free,I.freeC,fun p hp=> ?_,tracked ⟨oc,hoc,I.freeC x c hc⟩ hs,by simpa using I.len⟩ ⟨c,hs,.inr hc⟩
  ·exact (hs.2 b (Nat.ne_of_lt (Nat.lt_of_lt_of_le (Heap.lt_size e) (I.ok.cab x c hfn hc)))).trans (I.base.keep b o e n hb hx)
  ·obtain ⟨sl,e1⟩:=I.base.slot b o e n hb hx
   exact ⟨sl,(hs.2 b (Nat.ne_of_lt (Nat.lt_of_lt_of_le (Heap.lt_size e) (I.ok.cab x c hfn hc)))).trans e1⟩
  ·obtain ⟨o',e1⟩:=I.base.there b o e hx
   exact ⟨o',(hs.2 b (Nat.ne_of_lt (Nat.lt_of_lt_of_le (Heap.lt_size e) (I.ok.cab x c hfn hc)))).trans e1⟩
  ·by_cases hj:j=i
   ·subst hj
    rw [hi] at e1;cases e1
    rw [List.getElem?_set_self hiσ] at e2
    cases e2
    exact ⟨u,r,.inr ⟨.inl hk,c,hc,hc'⟩⟩
   ·rw [List.getElem?_set_ne (Ne.symm hj)] at e2
    obtain ⟨u',r',q⟩:=hl j y v' e1 e2 e3
    refine ⟨u',r',?_⟩
    rcases q with q|⟨k,c',e,z'⟩
    ·exact .inl q
    ·refine .inr ⟨k,c',e,z'.sameBut hs ?_⟩
     rintro rfl
     exact hj (nodup_ix hN e1 (I.ok.inj _ _ _ e hc▸hi))
  ·by_cases hcc:c'=c
   ·subst hcc;exact ⟨_,hc'⟩
   ·obtain ⟨w2,z2⟩:=I.cell y c' e
    exact ⟨w2,z2.sameBut hs hcc⟩
  ·obtain ⟨e,n,ne,nf,d⟩:=I.pin p hp
   refine ⟨(hs.2 p.1 ?_).trans e,n,ne,nf,d⟩
   intro q
   rw [q,hoc] at e
   have q':oc=p.2:=Option.some.inj e
   exact d w' (by rw [←q'];exact hocd)
theorem store_ok {M:Model} {A:Around} {E:Value→Shared→Prop} {i:Nat} {x:Str} {v:V} {u:Value} {Q:Unit→Shared→Prop} (I:Inv X pins σ H s) (hN:X.N.Nodup) (hi:X.N[i]? =some x) (hx:Loc X.env.scope x) (r:RelV v u)
  (h:∀s',Inv X pins (σ.set i (some v)) H s'→Q () s') (hf:X.fn x=true∨X.env.scope.names.lookup x=some .local:=by first|exact .inl rfl|exact .inr rfl|assumption):wpAny M A (storeName X.env x u) Q E s:=
 store_ok2 I hN hi hx r (fun s' I' _=>h s' I') hf
theorem Inv.call' {s':Shared} {ch:List Addr} (I:Inv X pins σ H s) (ho:s'.os=s.os) (u:Un (frs X.stack) ch H H' s.heap s'.heap) (hok:HOk X.prog X.w H' s'.heap) (hg:AllBare s'.gens)
  (hch:∀b∈ch,(b∈X.ex∨X.s₀.heap.objs.size≤b)∧b≠X.env.locals∧(∀x c,X.env.cells.lookup x=some c→c≠b)∧∀p∈X.pn++pins,p.1≠b):Inv X pins σ H' s':=by
 obtain ⟨h',g',d',t',o'⟩:=s'
 have e:o'=s.os:=ho
 subst e
 exact I.call (g':=g') (t':=t') (d':=d') u hok hg hch
end
abbrev XK:=Value→Option Addr→Hp→Prop
abbrev St:=List (Option V)
abbrev VK:=V→Hp→Prop
abbrev TE:=St→Hp→VK→Prop
abbrev TT:=St→Hp→(Bool→Hp→Prop)→Prop
abbrev TA:=St→Hp→(List V→Hp→Prop)→Prop
structure Ends where
 nx:St→Hp→Prop
 rt:VK
 bk:St→Hp→Prop:=fun _ _=>False
 ct:St→Hp→Prop:=fun _ _=>False
abbrev TS:=Ends→St→Hp→Prop
def EP (X:Cx) (pins:List (Addr×Obj)) (σ:St) (Q:VK) (u:Value) (s':Shared):Prop:=∃v H',Inv X pins σ H' s'∧RelV v u∧Q v H'
def TP (X:Cx) (pins:List (Addr×Obj)) (σ:St) (Q:Bool→Hp→Prop) (b:Bool) (s':Shared):Prop:=∃H',Inv X pins σ H' s'∧Q b H'
def AP (X:Cx) (pins:List (Addr×Obj)) (σ:St) (Q:List V→Hp→Prop) (us:List Value) (s':Shared):Prop:=∃vs H',Inv X pins σ H' s'∧Vals vs us∧Q vs H'
def SP (X:Cx) (pins:List (Addr×Obj)) (D:Ends) (f:Flow) (s':Shared):Prop:=
 match f with
 | .next=>∃σ' H',Inv X pins σ' H' s'∧D.nx σ' H'
 | .brk=>∃σ' H',Inv X pins σ' H' s'∧D.bk σ' H'
 | .cont=>∃σ' H',Inv X pins σ' H' s'∧D.ct σ' H'
 | .ret u=>∃v σ' H',Inv X pins σ' H' s'∧RelV v u∧D.rt v H'
def PE (X:Cx) (e:Expr) (t:TE):Prop:=
 ∀(pins:List (Addr×Obj)) (s:Shared) (σ:St) (H:Hp) (Q:VK),Inv X pins σ H s→t σ H Q→wpAny (model X.prog X.w) X.A (eval e X.env) (EP X pins σ Q) X.xe s
def PT (X:Cx) (e:Expr) (t:TT):Prop:=
 ∀(pins:List (Addr×Obj)) (s:Shared) (σ:St) (H:Hp) (Q:Bool→Hp→Prop),Inv X pins σ H s→t σ H Q→wpAny (model X.prog X.w) X.A (isTrue e X.env (eval e X.env)) (TP X pins σ Q) X.xe s
def PW (X:Cx) (e:Expr) (t:TT):Prop:=
 ∀(whole:Sem Value) (pins:List (Addr×Obj)) (s:Shared) (σ:St) (H:Hp) (Q:Bool→Hp→Prop),Inv X pins σ H s→t σ H Q→wpAny (model X.prog X.w) X.A (isTrue e X.env whole) (TP X pins σ Q) X.xe s
theorem PW.pt {X:Cx} {e:Expr} {t:TT} (h:PW X e t):PT X e t:=h _
def PA (X:Cx) (es:List Expr) (t:TA):Prop:=
 ∀(pos:Pos) (pins:List (Addr×Obj)) (s:Shared) (σ:St) (H:Hp) (Q:List V→Hp→Prop),Inv X pins σ H s→t σ H Q→wpAny (model X.prog X.w) X.A (spliced (backTo pos (starEach es X.env))) (AP X pins σ Q) X.xe s
def PS (X:Cx) (st:Stmt) (t:TS):Prop:=
 ∀(pins:List (Addr×Obj)) (s:Shared) (σ:St) (H:Hp) (D:Ends),Inv X pins σ H s→t D σ H→wpAny (model X.prog X.w) X.A (exec st X.env) (SP X pins D) X.xe s
def PSs (X:Cx) (st:List Stmt) (t:TS):Prop:=
 ∀(pins:List (Addr×Obj)) (s:Shared) (σ:St) (H:Hp) (D:Ends),Inv X pins σ H s→t D σ H→wpAny (model X.prog X.w) X.A (execs st X.env) (SP X pins D) X.xe s
theorem thn {α:Type} {t:Sem α} {Q Q':α→Shared→Prop} {M:Model} {A:Around} {E:Value→Shared→Prop} {s:Shared} (h:wpAny M A t Q E s) (hQ:∀a s,Q a s→Q' a s):wpAny M A t Q' E s:=wpAny_mono h hQ fun _ _ x=>x
end L2
namespace L2
open PySem PySem.Spec PyProof.Rows
section
variable {X:Cx}
inductive TVarP (i:Nat) (σ:St) (H:Hp) (Q:VK):Prop
 |mk (v:_):(σ[i]? =some (some v))→(Q v H)→TVarP i σ H Q
def tVar (i:Nat):TE:=fun σ H Q=>TVarP i σ H Q
def tC (v:V):TE:=fun _ H Q=>Q v H
theorem pe_var {i:Nat} {x:Str} {pos:Pos} (hN:X.N[i]? =some x) (hv:Vis X.env.scope x) (hd:(x==("__debug__":Str))=false:=by decide) (hcd:(x==("__classdict__":Str))=false:=by decide):PE X (.Name x pos) (tVar i):=by
 intro pins s σ H Q I h
 obtain ⟨v,e,h⟩:=h
 obtain ⟨m,hn,hl⟩:=I.loc
 obtain ⟨u,r,l⟩:=hl i x v hN e hv
 have fin:EP X pins σ Q u s:=⟨v,H,I,r,h⟩
 rcases l with ⟨hk,hm⟩|⟨hk,c,hc,hcell⟩
 ·exact wpAny_Name (wpAny_loadName_local I.ok.kind hk hn hm fin) hd
 ·rcases hk with hk|hk
  ·exact wpAny_Name (wpAny_loadName_cell I.ok.kind hk hc hcell fin) hd
  ·exact wpAny_Name (wpAny_loadName_free I.ok.kind hk hc hcell fin hcd) hd
theorem Ae {i j pos}:PE X (.Constant (.int i) j pos) (tC (.int i)):=fun _ _ _ H _ I h=>wpAny_Constant_int ⟨.int i,H,I.tok _,⟨_,rfl⟩,h⟩
theorem pe_bl {b j pos}:PE X (.Constant (.bool b) j pos) (tC (.bl b)):=fun _ _ _ H _ I h=>Constant_bool ⟨.bl b,H,I,rfl,h⟩
theorem pe_non {j pos}:PE X (.Constant .none j pos) (tC .non):=fun _ _ _ H _ I h=>Constant_none ⟨.non,H,I,rfl,h⟩
theorem Bw {x j pos}:PE X (.Constant (.str x) j pos) (tC (.str x)):=fun _ _ _ H _ I h=>Calls.Constant_str ⟨.str x,H,I.tok _,⟨_,rfl⟩,h⟩
def Gl (X:Cx) (x:Str):Prop:=X.env.kindOf x=some .globalImplicit
theorem ld_glob {E:Value→Shared→Prop} {pins:List (Addr×Obj)} {s:Shared} {σ:St} {H:Hp} {x:Str} {u:Value} {pos:Pos} {Q:Value→Shared→Prop} (I:Inv X pins σ H s) (hg:Gl X x) (hm:X.mg x=some u) (h:Q u s)
  (hd:(x==("__debug__":Str))=false:=by decide):wpAny (model X.prog X.w) X.A (eval (.Name x pos) X.env) Q E s:=
 Calls.Name_function_global I.ok.kind hg (Calls.loadGlobal_global (by rw [I.ok.glob];exact I.mod.glob.keeps I.bk) hm h) hd
theorem ld_blt {E:Value→Shared→Prop} {pins:List (Addr×Obj)} {s:Shared} {σ:St} {H:Hp} {x:Str} {u:Value} {pos:Pos} {Q:Value→Shared→Prop} (I:Inv X pins σ H s) (hg:Gl X x) (hm:X.mg x=none) (hv:bootBuiltins x=some u) (h:Q u s)
  (hn:x≠"__name__":=by decide) (hd:(x==("__debug__":Str))=false:=by decide):wpAny (model X.prog X.w) X.A (eval (.Name x pos) X.env) Q E s:=by
 obtain ⟨mb,h1,h2⟩:=I.mod.blt
 exact Calls.Name_function_global I.ok.kind hg (Calls.loadGlobal_builtin (by rw [I.ok.glob];exact I.mod.glob.keeps I.bk) hm (by rw [I.ok.blt];exact h1.keeps I.bk) ((h2 x hn).trans hv) h) hd
variable {a b:Expr} {ta tb:TE} {pos:Pos}
def PC (X:Cx) (op:CmpOp) (a b:Expr) (t:TE):Prop:=
 ∀(pins:List (Addr×Obj)) (s:Shared) (σ:St) (H:Hp) (Q:VK),Inv X pins σ H s→t σ H Q→
  wpAny (model X.prog X.w) X.A (eval a X.env) (fun v s₁=>wpAny (model X.prog X.w) X.A (eval b X.env) (fun u s₂=>wpAny (model X.prog X.w) X.A (compareOp op v u) (EP X pins σ Q) X.xe s₂) X.xe s₁) X.xe s
inductive BlP (x:V) (H:Hp) (Q:Bool→Hp→Prop):Prop
 |mk (c:Bool):(x= .bl c)→(Q c H)→BlP x H Q
def tB (t:TE):TT:=fun σ H Q=>t σ H fun x H1=>BlP x H1 Q
theorem pt_cmp {op:CmpOp} {t:TE} (h:PC X op a b t) (h1:behindInMarks op b=false:=by first|exact nobehind _ (by decide) (by decide)|rfl):PT X (.Compare a [op] [b] pos) (tB t):=by
 intro pins s σ H Q I hw
 refine wpAny_isTrue_Compare1 (thn (h pins s σ H _ I hw) fun v s1 h1=>thn h1 fun u s2 h2=>thn h2 fun c s3 ⟨x,H1,I1,r1,q1⟩=> ?_) h1
 obtain ⟨d,rfl,q⟩:=q1
 cases r1
 exact wpAny_truthy_bool ⟨H1,I1,q⟩
theorem pt_val {e:Expr} {t:TE} (h:PE X e t) (he:∀whole,isTrue e X.env whole=(do let v ←whole;standAt e.pos;holding [v] (truthy v)):=by intro _;rfl):PT X e (tB t):=by
 intro pins s σ H Q I hw
 refine isTrue_plain (thn (h pins s σ H _ I hw) fun v s1 ⟨x,H1,I1,r1,q1⟩=> ?_) (he _)
 obtain ⟨d,rfl,q⟩:=q1
 cases r1
 exact wpAny_truthy_bool ⟨H1,I1,q⟩
variable {tA tB':TT} {rest:List Expr}
def tAnd (t u:TT):TT:=fun σ H Q=>t σ H fun c H1=>if c=true then u σ H1 Q else Q false H1
def tOr (t u:TT):TT:=fun σ H Q=>t σ H fun c H1=>if c=true then Q true H1 else u σ H1 Q
def tNot (t:TT):TT:=fun σ H Q=>t σ H fun c H1=>Q (!c) H1
theorem pw_and1 (ha:PT X a tA):PW X (.BoolOp .And [a] pos) tA:=by
 intro wh pins s σ H Q I h
 refine isTrue_and (thn (ha pins s σ H Q I h) fun c s1 e=> ?_)
 cases c with
 |true=>exact isTrue_and_nil e
 |false=>exact e
theorem pw_or1 (ha:PT X a tA):PW X (.BoolOp .Or [a] pos) tA:=by
 intro wh pins s σ H Q I h
 refine isTrue_or (thn (ha pins s σ H Q I h) fun c s1 e=> ?_)
 cases c with
 |false=>exact isTrue_or_nil e
 |true=>exact e
theorem pw_and (ha:PT X a tA) (hb:PW X (.BoolOp .And (b::rest) pos) tB'):PW X (.BoolOp .And (a::b::rest) pos) (tAnd tA tB'):=by
 intro wh pins s σ H Q I h
 refine isTrue_and (thn (ha pins s σ H _ I h) fun c s1 ⟨H1,I1,q1⟩=> ?_)
 cases c with
 |true=>exact hb wh pins s1 σ H1 Q I1 q1
 |false=>exact ⟨H1,I1,q1⟩
theorem pw_or (ha:PT X a tA) (hb:PW X (.BoolOp .Or (b::rest) pos) tB'):PW X (.BoolOp .Or (a::b::rest) pos) (tOr tA tB'):=by
 intro wh pins s σ H Q I h
 refine isTrue_or (thn (ha pins s σ H _ I h) fun c s1 ⟨H1,I1,q1⟩=> ?_)
 cases c with
 |true=>exact ⟨H1,I1,q1⟩
 |false=>exact hb wh pins s1 σ H1 Q I1 q1
theorem pt_not (ha:PT X a tA):PT X (.UnaryOp .Not a pos) (tNot tA):=by
 intro pins s σ H Q I h
 exact isTrue_not (ha pins s σ H (fun c H1=>Q (!c) H1) I h)
def tAndV (ta tb:TE):TE:=fun σ H Q=>ta σ H fun x H1=>∃c,x= .bl c∧if c=true then tb σ H1 Q else Q (.bl false) H1
def tOrV (ta tb:TE):TE:=fun σ H Q=>ta σ H fun x H1=>∃c,x= .bl c∧if c=true then Q (.bl true) H1 else tb σ H1 Q
def tNotV (ta:TE):TE:=fun σ H Q=>ta σ H fun x H1=>∃c,x= .bl c∧Q (.bl (!c)) H1
theorem pe_one {op} {t:TE} (h:PE X a t):PE X (.BoolOp op [a] pos) t:=fun pins s σ H Q I hw=>BoolOp_one (h pins s σ H Q I hw)
theorem pe_and (ha:PE X a ta) (hb:PE X (.BoolOp .And (b::rest) pos) tb):PE X (.BoolOp .And (a::b::rest) pos) (tAndV ta tb):=by
 intro pins s σ H Q I h
 refine BoolOp_and (thn (ha pins s σ H _ I h) fun v s1 ⟨x,H1,I1,r1,q1⟩=> ?_)
 obtain ⟨c,rfl,q1⟩:=q1
 cases r1
 refine wpAny_truthy_bool ?_
 cases c with
 |true=>exact hb pins s1 σ H1 Q I1 q1
 |false=>exact ⟨.bl false,H1,I1,rfl,q1⟩
theorem pe_or (ha:PE X a ta) (hb:PE X (.BoolOp .Or (b::rest) pos) tb):PE X (.BoolOp .Or (a::b::rest) pos) (tOrV ta tb):=by
 intro pins s σ H Q I h
 refine BoolOp_or (thn (ha pins s σ H _ I h) fun v s1 ⟨x,H1,I1,r1,q1⟩=> ?_)
 obtain ⟨c,rfl,q1⟩:=q1
 cases r1
 refine wpAny_truthy_bool ?_
 cases c with
 |false=>exact hb pins s1 σ H1 Q I1 q1
 |true=>exact ⟨.bl true,H1,I1,rfl,q1⟩
theorem pe_not (ha:PE X a ta):PE X (.UnaryOp .Not a pos) (tNotV ta):=by
 intro pins s σ H Q I h
 refine UnaryOp_ (thn (ha pins s σ H _ I h) fun v s1 ⟨x,H1,I1,r1,q1⟩=> ?_)
 obtain ⟨c,rfl,q1⟩:=q1
 cases r1
 exact not_of (wpAny_truthy_bool ⟨.bl (!c),H1,I1,rfl,q1⟩)
def tIf (t:TT) (ta tb:TE):TE:=fun σ H Q=>t σ H fun c H1=>if c=true then ta σ H1 Q else tb σ H1 Q
theorem pe_ifExp {c:Expr} (hc:PT X c tA) (ha:PE X a ta) (hb:PE X b tb):PE X (.IfExp c a b pos) (tIf tA ta tb):=by
 intro pins s σ H Q I h
 refine wpAny_IfExp (thn (hc pins s σ H _ I h) fun d s1 ⟨H1,I1,q1⟩=> ?_)
 cases d with
 |true=>exact ha pins s1 σ H1 Q I1 q1
 |false=>exact hb pins s1 σ H1 Q I1 q1
end
end L2
namespace L2
open PySem PySem.Spec PyProof.Rows
def SqL (K:PySem.W.Frag) (H:Hp) (a:Addr) (xs:List V):Prop:=
 Rd H a (.lst xs)∨
  ∃(o:Obj) (its:Array Value) (n:Nat),K.lookup a=some o∧o.cls= .type "list"∧o.dict=none∧o.data= .seq its n∧its.size≤sizeLine∧Vals xs its.toList
def SqT (K:PySem.W.Frag) (H:Hp) (a:Addr) (xs:List V):Prop:=
 Rd H a (.tup xs)∨
  ∃(o:Obj) (its:Array Value) (n:Nat),K.lookup a=some o∧o.cls= .type "tuple"∧o.data= .seq its n∧its.size≤sizeLine∧Vals xs its.toList
def absV:Value→Option V
 | .none=>some .non
 | .bool b=>some (.bl b)
 | .int i _=>some (.int i)
 | .str x _=>some (.str x)
 | .bytes b _=>some (.byt b)
 | .float b _=>some (.flt b)
 | .ref a=>some (.ref a)
 | .type n=>some (.ty n)
 |_=>none
theorem RelV.abs {x:V} {u:Value} (r:RelV x u):absV u=some x:=by
 cases x with
 |non=>cases r;rfl
 |bl _=>cases r;rfl
 |int _=>obtain ⟨t,rfl⟩:=r;rfl
 |str _=>obtain ⟨t,rfl⟩:=r;rfl
 |byt _=>obtain ⟨t,rfl⟩:=r;rfl
 |flt _=>obtain ⟨t,rfl⟩:=r;rfl
 |ref _=>cases r;rfl
 |ty _=>cases r;rfl
theorem RelV.inj {x y:V} {u:Value} (r:RelV x u) (q:RelV y u):x=y:=Option.some.inj (r.abs.symm.trans q.abs)
theorem Vals.inj:∀{xs ys:List V} {us:List Value},Vals xs us→Vals ys us→xs=ys
 |_,_,_,.nil,.nil=>rfl
 |_,_,_,.cons r t,.cons r' t'=>by rw [r.inj r',Vals.inj t t']
section
variable {X:Cx} {pins:List (Addr×Obj)} {σ:St} {H:Hp} {s:Shared} {a:Addr} {xs ys:List V}
theorem SqL.of {K:PySem.W.Frag} (h:H a=some (.lst xs)):SqL K H a xs:= .inl (.inl h)
theorem SqT.of {K:PySem.W.Frag} (h:H a=some (.tup xs)):SqT K H a xs:= .inl (.inl h)
theorem Inv.list (I:Inv X pins σ H s) (h:SqL X.K H a xs):∃its:List Value,Vals xs its∧PlainL s.heap a its.toArray∧xs.length≤sizeLine:=by
 rcases h with h|⟨o,its,n,hk,hc,hd,hs,hz,r⟩
 ·obtain ⟨z,its,n,r,e⟩:=h.ok I.hok
  exact ⟨its,r,⟨_,n,e,rfl,rfl,rfl⟩,z⟩
 ·refine ⟨its.toList,r,⟨o,n,I.kIn a o hk,hc,hd,by simpa using hs⟩,?_⟩
  have e:=r.length
  simp only [Array.length_toList] at e
  omega
theorem Inv.tuple (I:Inv X pins σ H s) (h:SqT X.K H a xs):∃its:List Value,Vals xs its∧IsTup s.heap a its.toArray∧xs.length≤sizeLine:=by
 rcases h with h|⟨o,its,n,hk,hc,hs,hz,r⟩
 ·obtain ⟨z,its,r,p⟩:=h.ok I.hok
  exact ⟨its,r,p.tup,z⟩
 ·refine ⟨its.toList,r,⟨o,I.kIn a o hk,hc,n,by simpa using hs⟩,?_⟩
  have e:=r.length
  simp only [Array.length_toList] at e
  omega
theorem Inv.list_inj (I:Inv X pins σ H s) (h:SqL X.K H a xs) (h':SqL X.K H a ys):xs=ys:=by
 obtain ⟨its,r,⟨o,n,e,_,_,d⟩,_⟩:=I.list h
 obtain ⟨its',r',⟨o',n',e',_,_,d'⟩,_⟩:=I.list h'
 rw [e] at e';cases e'
 rw [d] at d'
 injection d' with d1 _
 have:its=its':=by simpa using congrArg Array.toList d1
 subst this
 exact r.inj r'
theorem Inv.tuple_inj (I:Inv X pins σ H s) (h:SqT X.K H a xs) (h':SqT X.K H a ys):xs=ys:=by
 obtain ⟨its,r,⟨o,e,_,n,d⟩,_⟩:=I.tuple h
 obtain ⟨its',r',⟨o',e',_,n',d'⟩,_⟩:=I.tuple h'
 rw [e] at e';cases e'
 rw [d] at d'
 injection d' with d1 _
 have:its=its':=by simpa using congrArg Array.toList d1
 subst this
 exact r.inj r'
end
abbrev Cx.wish (X:Cx) (E:Value→Shared→Prop):Cx:={X with xe:=E}
abbrev Cx.nox (X:Cx):Cx:=X.wish fun _ _=>False
theorem Cx.Ok.wish {X:Cx} (ok:X.Ok) (E:Value→Shared→Prop):(X.wish E).Ok:=
 ⟨ok.mod,ok.kind,ok.glob,ok.blt,ok.above,ok.inj,ok.has,ok.cab,ok.hd,ok.frames,ok.stk,ok.exf,ok.bs,ok.bsz,ok.noex,ok.exfs,ok.funs,ok.frf⟩
theorem Cx.Ok.unwish {X:Cx} {E:Value→Shared→Prop} (ok:(X.wish E).Ok):X.Ok:=
 ⟨ok.mod,ok.kind,ok.glob,ok.blt,ok.above,ok.inj,ok.has,ok.cab,ok.hd,ok.frames,ok.stk,ok.exf,ok.bs,ok.bsz,ok.noex,ok.exfs,ok.funs,ok.frf⟩
section
variable {X:Cx} {pins:List (Addr×Obj)} {σ:St} {H:Hp} {s:Shared} {E:Value→Shared→Prop}
theorem Inv.wish (I:Inv X pins σ H s) (E:Value→Shared→Prop):Inv (X.wish E) pins σ H s:=⟨I.ok.wish E,I.os,I.bare,I.base,I.loc,I.cell,I.free,I.freeC,I.pin,I.hok,I.len⟩
theorem Inv.unwish (I:Inv (X.wish E) pins σ H s):Inv X pins σ H s:=⟨I.ok.unwish,I.os,I.bare,I.base,I.loc,I.cell,I.free,I.freeC,I.pin,I.hok,I.len⟩
theorem SP.unwish {D:Ends} {f:Flow} {s':Shared} (h:SP (X.wish E) pins D f s'):SP X pins D f s':=by
 cases f with
 |next=>obtain ⟨σ',H',I,q⟩:=h;exact ⟨σ',H',I.unwish,q⟩
 |brk=>obtain ⟨σ',H',I,q⟩:=h;exact ⟨σ',H',I.unwish,q⟩
 |cont=>obtain ⟨σ',H',I,q⟩:=h;exact ⟨σ',H',I.unwish,q⟩
 |ret u=>obtain ⟨v,σ',H',I,r,q⟩:=h;exact ⟨v,σ',H',I.unwish,r,q⟩
theorem PSs.nox {st:List Stmt} {t:TS} (h:PSs X.nox st t):PSs X st t:=fun pins s σ H D I hw=>
 wpAny_mono (h pins s σ H D (I.wish _) hw) (fun _ _ q=>q.unwish) fun _ _ z=>False.elim z
end
section
variable {X:Cx} {st:Stmt} {rest:List Stmt} {t u:TS} {e:Expr} {te:TE} {pos:Pos}
def Cr:TS:=fun D σ H=>D.nx σ H
def tSeq (t u:TS):TS:=fun D σ H=>t {D with nx:=u D} σ H
theorem Bk:PSs X [] Cr:=fun _ _ σ H _ I h=>wpAny_execs_nil ⟨σ,H,I,h⟩
theorem Af (h1:PS X st t) (h2:PSs X rest u):PSs X (st::rest) (tSeq t u):=by
 intro pins s σ H D I h
 refine wpAny_execs_cons (thn (h1 pins s σ H {D with nx:=u D} I h) fun f s1 q=> ?_)
 cases f with
 |next=>
  obtain ⟨σ',H',I',q⟩:=q
  exact h2 pins s1 σ' H' D I' q
 |ret v=>exact q
 |brk=>exact q
 |cont=>exact q
theorem Ah (h1:PS X st t):PSs X [st] t:=by
 intro pins s σ H D I h
 refine wpAny_execs_cons (thn (h1 pins s σ H D I h) fun f s1 q=> ?_)
 cases f with
 |next=>exact wpAny_execs_nil q
 |ret v=>exact q
 |brk=>exact q
 |cont=>exact q
theorem Inv.quiet {pins:List (Addr×Obj)} {σ:St} {H:Hp} {s:Shared} (I:Inv X pins σ H s):interactive X.env=false:=by simp [interactive,I.ok.kind]
def tDrop (te:TE):TS:=fun D σ H=>te σ H fun _ H1=>D.nx σ H1
theorem Ci (he:PE X e te) (hs:swapsWith e none pos.line X.env=pure false:=by rfl):PS X (.Expr e pos) (tDrop te):=by
 intro pins s σ H D I h
 exact wpAny_Expr_any (thn (he pins s σ H _ I h) fun v s1 ⟨x,H1,I1,r1,q1⟩=>⟨σ,H1,I1,q1⟩) I.quiet hs
def tRet (te:TE):TS:=fun D σ H=>te σ H D.rt
theorem Ay (he:PE X e te):PS X (.Return (some e) pos) (tRet te):=by
 intro pins s σ H D I h
 exact wpAny_Return_some (thn (he pins s σ H _ I h) fun v s1 ⟨x,H1,I1,r1,q1⟩=>⟨x,σ,H1,I1,r1,q1⟩)
def tIfS (c:TT) (t u:TS):TS:=fun D σ H=>c σ H fun b H1=>if b=true then t D σ H1 else u D σ H1
theorem B3 {c:Expr} {a b:List Stmt} {tc:TT} (hc:PT X c tc) (ha:PSs X a t) (hb:PSs X b u):PS X (.If c a b pos) (tIfS tc t u):=by
 intro pins s σ H D I h
 refine wpAny_If (thn (hc pins s σ H _ I h) fun d s1 ⟨H1,I1,q1⟩=> ?_)
 cases d with
 |true=>exact ha pins s1 σ H1 D I1 q1
 |false=>exact hb pins s1 σ H1 D I1 q1
def tNever:TS:=fun _ _ _=>False
theorem ps_never:PS X st tNever:=fun _ _ _ _ _ _ h=>h.elim
theorem pss_never {sts:List Stmt}:PSs X sts tNever:=fun _ _ _ _ _ _ h=>h.elim
end
abbrev TG:=V→St→Hp→(St→Hp→Prop)→Prop
abbrev TGs:=List V→St→Hp→(St→Hp→Prop)→Prop
def PG (X:Cx) (target:Expr) (t:TG):Prop:=
 ∀(pins:List (Addr×Obj)) (s:Shared) (σ:St) (H:Hp) (v:V) (u:Value) (Q:St→Hp→Prop),Inv X pins σ H s→RelV v u→t v σ H Q→
  wpAny (model X.prog X.w) X.A (assign target X.env u) (fun _ s'=>∃σ' H',Inv X pins σ' H' s'∧Q σ' H') X.xe s
def PGs (X:Cx) (ts:List Expr) (t:TGs):Prop:=
 ∀(pins:List (Addr×Obj)) (s:Shared) (σ:St) (H:Hp) (vs:List V) (us:List Value) (Q:St→Hp→Prop),Inv X pins σ H s→Vals vs us→t vs σ H Q→
  wpAny (model X.prog X.w) X.A (assignInOrder ((assignEach ts X.env).map (·.2)) us) (fun _ s'=>∃σ' H',Inv X pins σ' H' s'∧Q σ' H') X.xe s
abbrev TSet:=V→V→V→Hp→(Hp→Prop)→Prop
def PSet (X:Cx) (t:TSet):Prop:=
 ∀(pins:List (Addr×Obj)) (s:Shared) (σ:St) (H:Hp) (o i v:V) (ov iv u:Value) (Q:Hp→Prop),Inv X pins σ H s→RelV o ov→RelV i iv→RelV v u→t o i v H Q→
  wpAny (model X.prog X.w) X.A (setItem ov iv u) (fun _ s'=>∃H',Inv X pins σ H' s'∧Q H') X.xe s
abbrev TIp:=V→V→Hp→VK→Prop
def PIp (X:Cx) (op:Operator) (t:TIp):Prop:=
 ∀(pins:List (Addr×Obj)) (s:Shared) (σ:St) (H:Hp) (x y:V) (v u:Value) (Q:VK),Inv X pins σ H s→RelV x v→RelV y u→t x y H Q→
  wpAny (model X.prog X.w) X.A (inplaceOp op v u) (EP X pins σ Q) X.xe s
section
variable {X:Cx} {pos:Pos}
def gName (i:Nat):TG:=fun v σ H Q=>Q (σ.set i (some v)) H
theorem An {i:Nat} {x:Str} (hN:X.N.Nodup) (hi:X.N[i]? =some x) (hx:Loc X.env.scope x) (hf:X.fn x=true∨X.env.scope.names.lookup x=some .local:=by first|exact .inl rfl|exact .inr rfl|assumption):PG X (.Name x pos) (gName i):=by
 intro pins s σ H v u Q I r h
 exact wpAny_assign_Name (store_ok I hN hi hx r (fun s' I'=>⟨_,H,I',h⟩) hf)
def gNil:TGs:=fun vs σ H Q=>vs=[]∧Q σ H
def gCons (t:TG) (u:TGs):TGs:=fun vs σ H Q=>∃v r,vs=v::r∧t v σ H fun σ' H'=>u r σ' H' Q
theorem Bu:PGs X [] gNil:=by
 intro pins s σ H vs us Q I r h
 obtain ⟨e,h⟩:=h
 subst e
 cases r
 exact assignInOrder_nil ⟨σ,H,I,h⟩
theorem At {e:Expr} {es:List Expr} {t:TG} {u:TGs} (h1:PG X e t) (h2:PGs X es u)
  (hs:(assignEach (e::es) X.env).map (·.2)=assign e X.env::(assignEach es X.env).map (·.2):=by rfl):PGs X (e::es) (gCons t u):=by
 intro pins s σ H vs us Q I r h
 obtain ⟨v,vr,e1,h⟩:=h
 subst e1
 cases r with
 |cons r rr=>
  rw [hs]
  refine assignInOrder_cons (thn (h1 pins s σ H _ _ _ I r h) fun _ s1 ⟨σ1,H1,I1,q1⟩=> ?_)
  exact h2 pins s1 σ1 H1 _ _ Q I1 rr q1
def gTup (K:PySem.W.Frag) (n:Nat) (t:TGs):TG:=fun v σ H Q=>∃a xs,v= .ref a∧SqT K H a xs∧xs.length=n∧t xs σ H Q
theorem pg_tup {es:List Expr} {k:Nat} {t:TGs} {n:Nat} (hc:X.calm=true) (h:PGs X es t)
  (hn:(assignEach es X.env).length=n:=by rfl) (hst:(assignEach es X.env).findIdx? (·.1)=none:=by rfl):PG X (.Tuple es k pos) (gTup X.K n t):=by
 intro pins s σ H v u Q I r hw
 obtain ⟨a,xs,e1,hq,hl,hw⟩:=hw
 subst e1
 cases r
 obtain ⟨its,rv,ht,hz⟩:=I.tuple hq
 refine assign_Tuple_tuple (I.ok.hd hc) ht (by simp [hn,←hl,rv.length]) hst fun h' hx=> ?_
 have I1:Inv X pins σ H {s with heap:=h'}:=I.kept (t':=s.toks) fun b o e=>hx b o (Nat.ne_of_lt (Heap.lt_size e)) e
 exact h pins _ σ H xs _ Q I1 (by simpa using rv) hw
def gSub (to ti:TE) (t:TSet):TG:=fun v σ H Q=>to σ H fun o H1=>ti σ H1 fun i H2=>t o i v H2 fun H3=>Q σ H3
theorem pg_sub {o i:Expr} {to ti:TE} {t:TSet} (ho:PE X o to) (hi:PE X i ti) (hs:PSet X t)
  (ha:∀v,assign (.Subscript o i pos) X.env v=(do
   let ov ←holding [v] (eval o X.env)
   let iv ←holding [v,ov] (eval i X.env)
   standAt pos
   holding [v,ov,iv] (setItem ov iv v)
   release [v,ov,iv] []):=by intro _;rfl):PG X (.Subscript o i pos) (gSub to ti t):=by
 intro pins s σ H v u Q I r h
 rw [ha]
 refine wpAny_bind (wpAny_holding (thn (ho pins s σ H _ I h) fun ov s1 ⟨x,H1,I1,r1,q1⟩=> ?_))
 refine wpAny_bind (wpAny_holding (thn (hi pins s1 σ H1 _ I1 q1) fun iv s2 ⟨y,H2,I2,r2,q2⟩=> ?_))
 refine wpAny_bind (wpAny_standAt (wpAny_bind (wpAny_holding (thn (hs pins s2 σ H2 x y v ov iv u _ I2 r1 r2 r q2) fun _ s3 ⟨H3,I3,q3⟩=> ?_))))
 exact wpAny_release ⟨σ,H3,I3,q3⟩
def tAsg (te:TE) (g:TG):TS:=fun D σ H=>te σ H fun x H1=>g x σ H1 D.nx
theorem ps_asg {tg e:Expr} {te:TE} {g:TG} (he:PE X e te) (hg:PG X tg g) (hs:swapsWithSole [tg] e pos.line X.env=pure false:=by rfl) (hw:swappedStores [tg] e X.env=pure none:=by rfl)
  (h1:(assignEach [tg] X.env).map (·.2)=[assign tg X.env]:=by rfl):PS X (.Assign [tg] e pos) (tAsg te g):=by
 intro pins s σ H D I h
 refine wpAny_Assign_stores (thn (he pins s σ H _ I h) fun v s1 ⟨x,H1,I1,r1,q1⟩=> ?_) hs hw
 rw [h1]
 exact thn (hg pins s1 σ H1 x v _ I1 r1 q1) fun _ s2 q=>q
theorem Aq {i:Nat} {x:Str} {e:Expr} {te:TE} {pos':Pos} (hN:X.N.Nodup) (hi:X.N[i]? =some x) (hx:Loc X.env.scope x) (he:PE X e te) (hs:swapsWith e (some (.Name x pos')) pos.line X.env=pure false:=by rfl) (hf:X.fn x=true∨X.env.scope.names.lookup x=some .local:=by first|exact .inl rfl|exact .inr rfl|assumption):
  PS X (.Assign [.Name x pos'] e pos) (tAsg te (gName i)):=by
 intro pins s σ H D I h
 refine wpAny_Assign_Name (thn (he pins s σ H _ I h) fun v s1 ⟨y,H1,I1,r1,q1⟩=> ?_) hs
 exact store_ok I1 hN hi hx r1 (fun s2 I2=>⟨_,H1,I2,q1⟩) hf
def tPar (i j:Nat) (ta:TA):TS:=fun D σ H=>ta σ H fun vs H1=>∃v w,vs=[v,w]∧D.nx ((σ.set i (some v)).set j (some w)) H1
theorem ps_par {i j:Nat} {x y:Str} {a b:Expr} {ta:TA} {px py pt:Pos} {kt k2 pt2} (hc:X.calm=true) (hN:X.N.Nodup) (hi:X.N[i]? =some x) (hj:X.N[j]? =some y) (hij:i≠j)
  (hx:X.env.scope.names.lookup x=some .local) (hy:X.env.scope.names.lookup y=some .local) (ha:PA X [a,b] ta)
  (hw:swappedStores [.Tuple [.Name x px,.Name y py] kt pt] (.Tuple [a,b] k2 pt2) X.env=pure (some [x,y]))
  (hs:swapsWithSole [.Tuple [.Name x px,.Name y py] kt pt] (.Tuple [a,b] k2 pt2) pos.line X.env=pure false:=by rfl):
  PS X (.Assign [.Tuple [.Name x px,.Name y py] kt pt] (.Tuple [a,b] k2 pt2) pos) (tPar i j ta):=by
 intro pins s σ H D I h
 rw [exec_Assign_arm]
 refine wpAny_bind (wpAny_standAt ?_)
 rw [hs]
 refine wpAny_bind (wpAny_pure ?_)
 rw [if_neg (by decide)]
 refine wpAny_bind (Tuple_ (thn (ha _ pins s σ H _ I h) fun us s1 ⟨vs,H1,I1,r1,q1⟩=> ?_))
 obtain ⟨v,w,e1,q1⟩:=q1
 subst e1
 obtain ⟨u1,u2,rfl,rv,rw'⟩:∃u1 u2,us=[u1,u2]∧RelV v u1∧RelV w u2:=by
  cases r1 with
  |cons p q=>
   cases q with
   |cons p' q'=>
    cases q'
    exact ⟨_,_,rfl,p,p'⟩
 refine wpAny_newObj_type ?_ (by show 2≤sizeLine;decide)
 have I2:Inv X pins σ H1 {s1 with heap:=s1.heap.push {cls:= .type "tuple",data:= .seq [u1,u2].toArray}}:=I1.kept (t':=s1.toks) fun b o e=>Heap.get?_push_of_some _ e
 rw [hw]
 refine wpAny_bind (wpAny_pure ?_)
 show wpAny (model X.prog X.w) X.A (do rule "assign.swapped-stores";let items ←unpackItems (.ref s1.heap.objs.size) 2 none;assignInOrder [fun v=>bindName X.env y v,fun v=>bindName X.env x v] items.reverse;pure Flow.next) _ _ _
 refine wpAny_bind (wpAny_rule (wpAny_bind (unpackItems_tuple (items:= #[u1,u2]) (I.ok.hd hc) (IsTup.new s1.heap _) fun h' hx'=> ?_)))
 have I3:=I2.kept (h':=h') (t':=s1.toks) fun b o e=>hx' b o (Nat.ne_of_lt (Heap.lt_size e)) e
 show wpAny _ _ (assignInOrder [fun v=>bindName X.env y v,fun v=>bindName X.env x v] [u2,u1] >>=fun _=>pure Flow.next) _ _ _
 refine wpAny_bind (assignInOrder_cons (wpAny_bindName (store_ok I3 hN hj (.inl hy) rw' (fun s2 I4=> ?_) (.inr hy))))
 refine assignInOrder_cons (wpAny_bindName (store_ok I4 hN hi (.inl hx) rv (fun s3 I5=>assignInOrder_nil (wpAny_pure ?_)) (.inr hx)))
 rw [List.set_comm _ _ (Ne.symm hij)] at I5
 exact ⟨_,H1,I5,q1⟩
def tAug (i:Nat) (te:TE) (ti:TIp):TS:=fun D σ H=>∃x,σ[i]? =some (some x)∧te σ H fun y H1=>ti x y H1 fun z H2=>D.nx (σ.set i (some z)) H2
theorem ps_aug {i:Nat} {x:Str} {e:Expr} {te:TE} {op:Operator} {ti:TIp} {pos':Pos} (hN:X.N.Nodup) (hi:X.N[i]? =some x) (hx:Loc X.env.scope x) (he:PE X e te) (ho:PIp X op ti) (hf:X.fn x=true∨X.env.scope.names.lookup x=some .local:=by first|exact .inl rfl|exact .inr rfl|assumption):
  PS X (.AugAssign (.Name x pos') op e pos) (tAug i te ti):=by
 intro pins s σ H D I h
 obtain ⟨v,e1,h⟩:=h
 obtain ⟨m,hn,hl⟩:=I.loc
 have vis:Vis X.env.scope x:=by rcases hx with k|k;exact .inl k;exact .inr (.inl k)
 obtain ⟨u,r,l⟩:=hl i x v hi e1 vis
 refine wpAny_AugAssign_Name ?_
 have go:wpAny (model X.prog X.w) X.A (eval e X.env) (fun w s₂=>wpAny (model X.prog X.w) X.A (inplaceOp op u w) (fun r s₃=>wpAny (model X.prog X.w) X.A (storeName X.env x r) (fun _=>SP X pins D .next) X.xe s₃) X.xe s₂) X.xe s:=by
  refine thn (he pins s σ H _ I h) fun w s1 ⟨y,H1,I1,r1,q1⟩=> ?_
  refine thn (ho pins s1 σ H1 v y u w _ I1 r r1 q1) fun z s2 ⟨zv,H2,I2,r2,q2⟩=> ?_
  exact store_ok I2 hN hi hx r2 (fun s3 I3=>⟨_,H2,I3,q2⟩) hf
 rcases l with ⟨hk,hm⟩|⟨hk,c,hc,hcell⟩
 ·exact wpAny_loadName_local I.ok.kind hk hn hm go
 ·rcases hk with hk|hk
  ·exact wpAny_loadName_cell I.ok.kind hk hc hcell go
  ·rcases hx with k|k
   ·have:X.env.scope.names.lookup x=some .free:=hk
    rw [k] at this;cases this
   ·have:X.env.scope.names.lookup x=some .free:=hk
    rw [k] at this;cases this
def ipI (f:Int→Int→Int):TIp:=fun x y H Q=>∃i j,x= .int i∧y= .int j∧Q (.int (f i j)) H
theorem ip_add:PIp X .Add (ipI fun i j=>i+j):=by
 intro pins s σ H x y v u Q I r1 r2 h
 obtain ⟨i,j,e1,e2,q⟩:=h
 subst e1;subst e2
 obtain ⟨t,rfl⟩:=r1
 obtain ⟨t',rfl⟩:=r2
 exact iadd_int ⟨.int _,H,I.tok _,⟨_,rfl⟩,q⟩
end
section
variable {X:Cx} {pos:Pos}
def tWhile (c:TT) (tb:TS):TS:=fun D σ H=>∃W:Nat→St→Hp→Prop,(∃m,W m σ H)∧∀m σ H,W m σ H→
 c σ H fun b H1=>if b=true then ∃N:St→Hp→Prop,(∀σ' H',N σ' H'→∃m',m'<m∧W m' σ' H')∧tb {D with nx:=N,ct:=N,bk:=D.nx} σ H1 else D.nx σ H1
theorem ps_while {c:Expr} {body:List Stmt} {tc:TT} {tb:TS} (hp:PassesOwn (model X.prog X.w) X.A X.env X.xe) (hc:PT X c tc) (hb:PSs X body tb):PS X (.While c body [] pos) (tWhile tc tb):=by
 intro pins s σ H D I h
 obtain ⟨W,⟨m0,w0⟩,turn⟩:=h
 refine wpAny_While (codeAny_whileLoop (fun n s'=>∃σ' H',Inv X pins σ' H' s'∧W n σ' H') ?_ m0 ⟨σ,H,I,w0⟩)
 rintro n s1 ⟨σ1,H1,I1,w1⟩
 refine wpAny_passesOwn hp (thn (hc pins s1 σ1 H1 _ I1 (turn n σ1 H1 w1)) fun b s2 ⟨H2,I2,q2⟩=> ?_)
 cases b with
 |true=>
  obtain ⟨N,hN,q2⟩:=q2
  rw [if_pos rfl]
  refine wpAny_passesOwn hp (thn (hb pins s2 σ1 H2 _ I2 q2) fun f s3 q3=> ?_)
  cases f with
  |next=>
   obtain ⟨σ3,H3,I3,n3⟩:=q3
   obtain ⟨m',hm,w3⟩:=hN σ3 H3 n3
   exact ⟨m',hm,σ3,H3,I3,w3⟩
  |cont=>
   obtain ⟨σ3,H3,I3,n3⟩:=q3
   obtain ⟨m',hm,w3⟩:=hN σ3 H3 n3
   exact ⟨m',hm,σ3,H3,I3,w3⟩
  |brk=>exact q3
  |ret v=>exact q3
 |false=>
  rw [if_neg Bool.false_ne_true]
  exact wpAny_execs_nil ⟨σ1,H2,I2,q2⟩
end
structure It where
 go:Nat→Hp→Prop
 yld:Nat→Hp→V→Hp→Prop
 stop:Nat→Hp→Prop
def FpOk (X:Cx) (pins:List (Addr×Obj)) (H:Hp) (b:Addr):Prop:=
 H b=none∧b≠X.env.locals∧b ∉ X.fs∧(b∈X.ex∨X.s₀.heap.objs.size≤b)∧(∀x c,X.env.cells.lookup x=some c→c≠b)∧∀p∈X.pn++pins,p.1≠b
theorem Inv.fpOk {X:Cx} {pins:List (Addr×Obj)} {σ:St} {H H':Hp} {s:Shared} {b:Addr} (I:Inv X pins σ H s) (hb:s.heap.objs.size≤b) (hn:H' b=none):FpOk X pins H' b:=by
 refine ⟨hn,Nat.ne_of_gt (Nat.lt_of_lt_of_le I.lt hb),I.nofs hb,.inr (Nat.le_trans I.sz hb),fun x c e z=> ?_,fun p hp z=> ?_⟩
 ·obtain ⟨v,q⟩:=I.cell x c e
  exact absurd (Nat.lt_of_lt_of_le q.lt (by rw [z];exact hb)) (Nat.lt_irrefl _)
 ·exact absurd (Nat.lt_of_lt_of_le (Heap.lt_size (I.pin p hp).1) (by rw [z];exact hb)) (Nat.lt_irrefl _)
structure Turn (P:Program) (w:World) (K:PySem.W.Frag) (tg:Expr) (J:It) (fp:List Addr) (it:Addr) (tn:Nat→Heap→Prop):Prop where
 mem:it∈fp
 obj:∀i h,tn i h→∀b∈fp,∃o,h.get? b=some o∧∀v,o.data≠ .cell v
 keep:∀i h h',tn i h→(∀b∈fp,∀o,h.get? b=some o→h'.get? b=some o)→tn i h'
 item:∀(X:Cx),X.prog=P→X.w=w→X.K=K→X.calm=true→∀(i:Nat) (pins:List (Addr×Obj)) (s:Shared) (σ:St) (H:Hp) (E:Value→Shared→Prop),Inv X pins σ H s→(∀b∈fp,FpOk X pins H b)→tn i s.heap→J.go i H→
  wpAny (model P w) X.A (pyNext (.ref it)) (fun r s1=>∃u,r=some u∧
   wpAny (model P w) X.A (letOwnedTupleGo tg (.ref it) u) (fun _ s2=>∃x H',Inv X pins σ H' s2∧RelV x u∧J.yld i H x H'∧tn (i+1) s2.heap∧∀b∈fp,H' b=none) E s1) E s
 done:∀(X:Cx),X.prog=P→X.w=w→X.K=K→X.calm=true→∀(i:Nat) (pins:List (Addr×Obj)) (s:Shared) (σ:St) (H:Hp) (E:Value→Shared→Prop),Inv X pins σ H s→(∀b∈fp,FpOk X pins H b)→tn i s.heap→J.stop i H→
  wpAny (model P w) X.A (pyNext (.ref it)) (fun r s1=>r=none∧Inv X pins σ H s1) E s
 self:∀(A:Around) (i:Nat) (s:Shared) (Q:Value→Shared→Prop) (E:Value→Shared→Prop),tn i s.heap→Q (.ref it) s→wpAny (model P w) A (pyIter (.ref it)) Q E s
abbrev TI:=St→Hp→(It→Hp→Prop)→Prop
def PIE (X:Cx) (pins:List (Addr×Obj)) (σ:St) (tg:Expr) (R:It→Hp→Prop) (itv:Value) (s2:Shared):Prop:=
 ∃(it:Addr) (fp:List Addr) (tn:Nat→Heap→Prop) (J:It) (H':Hp),itv= .ref it∧Inv X pins σ H' s2∧Turn X.prog X.w X.K tg J fp it tn∧tn 0 s2.heap∧(∀b∈fp,FpOk X pins H' b)∧R J H'
def PI (X:Cx) (tg iter:Expr) (wi:TI):Prop:=
 ∀(pins:List (Addr×Obj)) (s:Shared) (σ:St) (H:Hp) (R:It→Hp→Prop),Inv X pins σ H s→wi σ H R→
  wpAny (model X.prog X.w) X.A (eval iter X.env) (fun v s1=>wpAny (model X.prog X.w) X.A (pyIter v) (PIE X pins σ tg R) X.xe s1) X.xe s
theorem go_of {M:Model} {A:Around} {E:Value→Shared→Prop} {s:Shared} {tg:Expr} {it:Addr} {u:Value} {o:Obj} {n:String} {vs:Array Value} {Q:Unit→Shared→Prop} (ho:s.heap.get? it=some o) (hc:o.cls= .type n) (hd:o.data= .fields vs)
  (hn:["enumerate","zip","dict_itemiterator","dict_reverseitemiterator","odict_iterator","itertools.zip_longest","itertools.pairwise"].contains n=false) (hQ:Q () s):wpAny M A (letOwnedTupleGo tg (.ref it) u) Q E s:=by
 unfold letOwnedTupleGo
 cases tg<;> first
  |exact wpAny_pure hQ
  |(cases u<;> first
   |exact wpAny_pure hQ
   |(refine wpAny_bind (wpAny_load ho ?_)
     rw [hc,hd]
     show wpAny M A (if (["enumerate","zip","dict_itemiterator","dict_reverseitemiterator","odict_iterator","itertools.zip_longest","itertools.pairwise"].contains n && vs[0]? ==some (rawInt _))=true then _ else _) Q E s
     rw [if_neg (by intro h;rw [hn,Bool.false_and] at h;cases h)]
     exact wpAny_pure hQ))
def Itl (K:PySem.W.Frag) (a:Addr):It:=
 ⟨fun i H=>∃xs x,SqL K H a xs∧xs[i]? =some x,fun i H x H'=>H'=H∧∀xs,SqL K H a xs→xs[i]? =some x,fun i H=>∃xs,SqL K H a xs∧xs.length≤i⟩
def Itt (K:PySem.W.Frag) (a:Addr):It:=
 ⟨fun i H=>∃xs x,SqT K H a xs∧xs[i]? =some x,fun i H x H'=>H'=H∧∀xs,SqT K H a xs→xs[i]? =some x,fun i H=>∃xs,SqT K H a xs∧xs.length≤i⟩
def Itr (lo:Int) (n:Nat):It:=⟨fun i _=>i<n,fun i H x H'=>H'=H∧x= .int (lo+i),fun i _=>n≤i⟩
theorem turn_list {P:Program} {w:World} {K:PySem.W.Frag} {tg:Expr} (a it:Addr):Turn P w K tg (Itl K a) [it] it (fun i h=>h.IsListIter it a i) where
 mem:=by simp
 obj:=fun i h st b hb=>by
  have e:b=it:=by simpa using hb
  subst e
  obtain ⟨o,e,c,d⟩:=st
  exact ⟨o,e,fun v z=>by rw [d] at z;cases z⟩
 keep:=fun i h h' st k=>st.at fun o e=>k it (by simp) o e
 item:=by
  intro X hP hw hK hc i pins s σ H E I hf st hg
  subst hP hw hK
  obtain ⟨xs,x,hq,hx⟩:=hg
  obtain ⟨its,rv,p,hz⟩:=I.list hq
  obtain ⟨u,hu,ru⟩:=rv.get hx
  obtain ⟨f0,f1,f2,f3,f4,f5⟩:=hf it (by simp)
  refine wpAny_pyNext_list_item st p.isList (x:=u) (by simpa using hu) fun h' st' sb=> ?_
  have I1:Inv X pins σ H {s with heap:=h'}:=I.turned (t':=s.toks) (fun b o hb e=>(sb.2 b hb).trans e) f0 f1 f3 f4 f5
  obtain ⟨o,e,c,d⟩:=id st'
  exact ⟨u,rfl,go_of (s:={s with heap:=h'}) e c d (by decide) ⟨x,H,I1,ru,⟨rfl,fun ys hy=>by rw [I.list_inj hy hq];exact hx⟩,st',fun b hb=>(hf b hb).1⟩⟩
 done:=by
  intro X hP hw hK hc i pins s σ H E I hf st hg
  subst hP hw hK
  obtain ⟨xs,hq,hx⟩:=hg
  obtain ⟨its,rv,p,hz⟩:=I.list hq
  obtain ⟨f0,f1,f2,f3,f4,f5⟩:=hf it (by simp)
  have hl:=rv.length
  exact wpAny_pyNext_list_end (I.ok.hd hc) st p.isList (by simp;omega) fun h' eb=>⟨rfl,I.turned (t':=s.toks) (fun b o hb e=>eb b o hb e) f0 f1 f3 f4 f5⟩
 self:=fun _ _ _ _ _ st h=>wpAny_pyIter_listiter st h
theorem turn_tuple {P:Program} {w:World} {K:PySem.W.Frag} {tg:Expr} (a it:Addr):Turn P w K tg (Itt K a) [it] it (fun i h=>h.IsTupleIter it a i) where
 mem:=by simp
 obj:=fun i h st b hb=>by
  have e:b=it:=by simpa using hb
  subst e
  obtain ⟨o,e,c,d⟩:=st
  exact ⟨o,e,fun v z=>by rw [d] at z;cases z⟩
 keep:=fun i h h' st k=>st.at fun o e=>k it (by simp) o e
 item:=by
  intro X hP hw hK hc i pins s σ H E I hf st hg
  subst hP hw hK
  obtain ⟨xs,x,hq,hx⟩:=hg
  obtain ⟨its,rv,p,hz⟩:=I.tuple hq
  obtain ⟨u,hu,ru⟩:=rv.get hx
  obtain ⟨f0,f1,f2,f3,f4,f5⟩:=hf it (by simp)
  refine wpAny_pyNext_tuple_item st (show s.heap.IsTuple a its.toArray from p) (x:=u) (by simpa using hu) fun h' st' sb=> ?_
  have I1:Inv X pins σ H {s with heap:=h'}:=I.turned (t':=s.toks) (fun b o hb e=>(sb.2 b hb).trans e) f0 f1 f3 f4 f5
  obtain ⟨o,e,c,d⟩:=id st'
  exact ⟨u,rfl,go_of (s:={s with heap:=h'}) e c d (by decide) ⟨x,H,I1,ru,⟨rfl,fun ys hy=>by rw [I.tuple_inj hy hq];exact hx⟩,st',fun b hb=>(hf b hb).1⟩⟩
 done:=by
  intro X hP hw hK hc i pins s σ H E I hf st hg
  subst hP hw hK
  obtain ⟨xs,hq,hx⟩:=hg
  obtain ⟨its,rv,p,hz⟩:=I.tuple hq
  obtain ⟨f0,f1,f2,f3,f4,f5⟩:=hf it (by simp)
  have hl:=rv.length
  exact wpAny_pyNext_tuple_end (I.ok.hd hc) st (show s.heap.IsTuple a its.toArray from p) (by simp;omega) fun h' eb=>⟨rfl,I.turned (t':=s.toks) (fun b o hb e=>eb b o hb e) f0 f1 f3 f4 f5⟩
 self:=fun _ _ _ _ _ st h=>wpAny_pyIter_tupleiter st h
theorem turn_range {P:Program} {w:World} {K:PySem.W.Frag} {tg:Expr} (it:Addr) (lo:Int) (n:Nat):Turn P w K tg (Itr lo n) [it] it (fun i h=>IsRangeIter h it (lo+(i:Nat) * 1) ((n:Int) - (i:Nat)) 1) where
 mem:=by simp
 obj:=fun i h st b hb=>by
  have e:b=it:=by simpa using hb
  subst e
  exact ⟨_,st,fun v z=>by
   have z':Data.fields _=Data.cell v:=z
   cases z'⟩
 keep:=fun i h h' st k=>k it (by simp) _ st
 item:=by
  intro X hP hw hK hc i pins s σ H E I hf st hg
  subst hP hw hK
  obtain ⟨f0,f1,f2,f3,f4,f5⟩:=hf it (by simp)
  have W:=Walks.range (prog:=X.prog) (w:=X.w) (I.ok.hd hc) it lo 1 n
  refine W.item i s _ _ hg st fun v h' tk hv st' kk=> ?_
  obtain ⟨t,rfl⟩:=hv
  have I1:Inv X pins σ H {s with heap:=h',toks:=tk}:=I.turned (fun b o hb e=>kk b o (by simpa using hb) e) f0 f1 f3 f4 f5
  refine ⟨_,rfl,go_of (s:={s with heap:=h',toks:=tk}) (n:="range_iterator") st' rfl rfl (by decide) ⟨.int (lo+i),H,I1,⟨t,?_⟩,⟨rfl,rfl⟩,st',fun b hb=>(hf b hb).1⟩⟩
  rw [Int.mul_one]
 done:=by
  intro X hP hw hK hc i pins s σ H E I hf st hg
  subst hP hw hK
  obtain ⟨f0,f1,f2,f3,f4,f5⟩:=hf it (by simp)
  exact wpAny_pyNext_range_end (I.ok.hd hc) st (by have:n≤i:=hg;omega) fun h' eb=>⟨rfl,I.turned (t':=s.toks) (fun b o hb e=>eb b o hb e) f0 f1 f3 f4 f5⟩
 self:=fun _ _ _ _ _ st h=>wpAny_pyIter_rangeiter st h
end L2
namespace L2
open PySem PySem.Spec PyProof.Rows
section
variable {X:Cx} {tg:Expr}
def iList (K:PySem.W.Frag) (tl:TE):TI:=fun σ H R=>tl σ H fun x H1=>∃a,x= .ref a∧(∃xs,SqL K H1 a xs)∧R (Itl K a) H1
def iTup (K:PySem.W.Frag) (tl:TE):TI:=fun σ H R=>tl σ H fun x H1=>∃a,x= .ref a∧(∃xs,SqT K H1 a xs)∧R (Itt K a) H1
theorem pi_list {l:Expr} {tl:TE} (hl:PE X l tl):PI X tg l (iList X.K tl):=by
 intro pins s σ H R I h
 refine thn (hl pins s σ H _ I h) fun v s1 ⟨x,H1,I1,r1,q1⟩=> ?_
 obtain ⟨a,e,⟨xs,hq⟩,q⟩:=q1
 subst e
 cases r1
 obtain ⟨its,rv,p,hz⟩:=I1.list hq
 refine wpAny_pyIter_list p.isList ?_
 refine ⟨s1.heap.objs.size,[s1.heap.objs.size],_,_,H1,rfl,I1.kept (t':=s1.toks) fun b o e=>Heap.get?_push_of_some _ e,turn_list a _,⟨_,Heap.get?_push_size _ rfl,rfl,rfl⟩,fun b hb=> ?_,q⟩
 have e:b=s1.heap.objs.size:=by simpa using hb
 subst e
 exact I1.fpOk (Nat.le_refl _) (I1.hok.fresh (Nat.le_refl _))
theorem pi_tup {l:Expr} {tl:TE} (hl:PE X l tl):PI X tg l (iTup X.K tl):=by
 intro pins s σ H R I h
 refine thn (hl pins s σ H _ I h) fun v s1 ⟨x,H1,I1,r1,q1⟩=> ?_
 obtain ⟨a,e,⟨xs,hq⟩,q⟩:=q1
 subst e
 cases r1
 obtain ⟨its,rv,p,hz⟩:=I1.tuple hq
 refine wpAny_pyIter_tuple (show s1.heap.IsTuple a its.toArray from p) ?_
 refine ⟨s1.heap.objs.size,[s1.heap.objs.size],_,_,H1,rfl,I1.kept (t':=s1.toks) fun b o e=>Heap.get?_push_of_some _ e,turn_tuple a _,⟨_,Heap.get?_push_size _ rfl,rfl,rfl⟩,fun b hb=> ?_,q⟩
 have e:b=s1.heap.objs.size:=by simpa using hb
 subst e
 exact I1.fpOk (Nat.le_refl _) (I1.hok.fresh (Nat.le_refl _))
theorem range_it {pins:List (Addr×Obj)} {σ:St} {H:Hp} {s:Shared} {R:It→Hp→Prop} {E:Value→Shared→Prop} {lo hi:Int} {t u v:Tok} {tk:Nat} (I:Inv X pins σ H s) (h1: -(2 ^ 62)≤lo) (h2:lo<2 ^ 62) (h3: -(2 ^ 62)≤hi) (h4:hi<2 ^ 62)
  (q:R (Itr lo (hi - lo).toNat) H):wpAny (model X.prog X.w) X.A (pyIter (.ref s.heap.objs.size)) (PIE X pins σ tg R) E {s with heap:=s.heap.push {cls:= .type "range",data:= .fields #[.int lo t,.int hi u,.int 1 v]},toks:=tk}:=by
 refine wpAny_pyIter_range (IsRange.new ..) (small_one h1 h2 h3 h4) ?_
 have I1:Inv X pins σ H {s with heap:=s.heap.push {cls:= .type "range",data:= .fields #[.int lo t,.int hi u,.int 1 v]},toks:=tk}:=I.kept fun b o e=>Heap.get?_push_of_some _ e
 refine ⟨(s.heap.push {cls:= .type "range",data:= .fields #[.int lo t,.int hi u,.int 1 v]}).objs.size,[(s.heap.push {cls:= .type "range",data:= .fields #[.int lo t,.int hi u,.int 1 v]}).objs.size],_,_,H,rfl,
  I1.kept (t':=tk) fun b o e=>Heap.get?_push_of_some _ e,turn_range _ lo (hi - lo).toNat,?_,fun b hb=> ?_,q⟩
 ·have e1:lo+((0:Nat):Int) * 1=lo:=by simp
  have e2:(((hi - lo).toNat:Nat):Int) - ((0:Nat):Int)=Builtin.Range.rangeSize lo hi 1:=by rw [rangeSize_one];split<;> omega
  show IsRangeIter _ _ (lo+((0:Nat):Int) * 1) ((((hi - lo).toNat:Nat):Int) - ((0:Nat):Int)) 1
  rw [e1,e2]
  exact Heap.get?_push_size _ rfl
 ·have e:b=(s.heap.push {cls:= .type "range",data:= .fields #[.int lo t,.int hi u,.int 1 v]}).objs.size:=by simpa using hb
  subst e
  exact I1.fpOk (Nat.le_refl _) (I1.hok.fresh (Nat.le_refl _))
def iRng1 (ta:TA):TI:=fun σ H R=>ta σ H fun vs H1=>∃j:Int,vs=[.int j]∧ -(2 ^ 62)≤j∧j<2 ^ 62∧R (Itr 0 j.toNat) H1
theorem Ct {a:Expr} {ta:TA} {p pos:Pos} (hg:Gl X "range") (hm:X.mg "range"=none) (ha:PA X [a] ta) (hs:starEach [a] X.env=[(false,eval a X.env)]:=by rfl):PI X tg (.Call (.Name "range" p) [a] [] pos) (iRng1 ta):=by
 intro pins s σ H R I h
 refine Call_ (ld_blt I hg hm boot_range (PyProof.Rows.callWith_type1 (thn (ha pos pins s σ H _ I h) fun us s1 ⟨vs,H1,I1,r1,q1⟩=> ?_) hs rfl))
 obtain ⟨j,e,q1,q2,q⟩:=q1
 subst e
 cases r1 with
 |cons r rr=>
  cases rr
  obtain ⟨t,rfl⟩:=r
  exact call_range_1 (range_it I1 (by decide) (by decide) q1 q2 (by simpa using q))
def tFor (wi:TI) (g:TG) (tb:TS):TS:=fun D σ H=>wi σ H fun J H1=>∃W:Nat→Nat→St→Hp→Prop,(∃m,W 0 m σ H1)∧∀i m σ H,W i m σ H→
 (J.stop i H∧D.nx σ H)∨(J.go i H∧∃N:St→Hp→Prop,(∀σ' H',N σ' H'→∃m',m'<m∧W (i+1) m' σ' H')∧∀x H',J.yld i H x H'→g x σ H' fun σ2 H2=>tb {D with nx:=N,ct:=N,bk:=D.nx} σ2 H2)
def pinsAt (fp:List Addr) (h:Heap):List (Addr×Obj):=fp.filterMap fun b=>(h.get? b).map fun o=>(b,o)
theorem mem_pinsAt {fp:List Addr} {h:Heap} {b:Addr} {o:Obj} (hb:b∈fp) (e:h.get? b=some o):(b,o)∈pinsAt fp h:=List.mem_filterMap.mpr ⟨b,hb,by rw [e];rfl⟩
theorem of_pinsAt {fp:List Addr} {h:Heap} {p:Addr×Obj} (hp:p∈pinsAt fp h):p.1∈fp∧h.get? p.1=some p.2:=by
 obtain ⟨b,hb,e⟩:=List.mem_filterMap.mp hp
 cases q:h.get? b with
 |none=>rw [q] at e;cases e
 |some o=>
  rw [q] at e
  have e':(b,o)=p:=Option.some.inj e
  subst e'
  exact ⟨hb,q⟩
theorem Inv.pinned {pins:List (Addr×Obj)} {σ:St} {H:Hp} {s:Shared} {fp:List Addr} (I:Inv X pins σ H s) (hf:∀b∈fp,FpOk X pins H b) (ho:∀b∈fp,∃o,s.heap.get? b=some o∧∀v,o.data≠ .cell v):Inv X (pins++pinsAt fp s.heap) σ H s:=
 I.pins_of fun p hp=>(List.mem_append.mp hp).elim (fun z=>I.pin p (List.mem_append_right _ z)) fun z=>by
  obtain ⟨hb,e⟩:=of_pinsAt z
  obtain ⟨f0,f1,f2,_⟩:=hf p.1 hb
  obtain ⟨o,e',d⟩:=ho p.1 hb
  rw [e] at e';cases e'
  exact ⟨e,f0,f1,f2,d⟩
theorem Inv.unpinned {pins pl:List (Addr×Obj)} {σ:St} {H:Hp} {s:Shared} (I:Inv X (pins++pl) σ H s):Inv X pins σ H s:=I.pins_of fun p hp=>I.pin p (List.mem_append_right _ (List.mem_append_left _ hp))
theorem Cs {iter:Expr} {body:List Stmt} {wi:TI} {g:TG} {tb:TS} {pos:Pos} (hp:PassesOwn (model X.prog X.w) X.A X.env X.xe) (hc:X.calm=true) (hi:PI X tg iter wi) (hg:PG X tg g) (hb:PSs X body tb)
  (hs:∀x,foldedSetIterable iter X.env x=pure x:=by intro _;rfl):PS X (.For tg iter body [] pos) (tFor wi g tb):=by
 intro pins s σ H D I h
 refine wpAny_For (thn (hi pins s σ H _ I h) fun v s1 h1=>thn h1 fun itv s2 h2=> ?_) hs
 obtain ⟨it,fp,tn,J,H2,e,I2,T,st2,f2,W,⟨m0,w0⟩,turn⟩:=h2
 subst e
 have stat:∀{H':Hp},(∀b∈fp,H' b=none)→∀b∈fp,FpOk X pins H' b:=fun hn b hb=>⟨hn b hb,(f2 b hb).2⟩
 refine codeAny_forLoop_any (fun n s'=>∃i σ' H',Inv X pins σ' H' s'∧tn i s'.heap∧(∀b∈fp,H' b=none)∧W i n σ' H') ?_ m0 ⟨0,σ,H2,I2,st2,fun b hb=>(f2 b hb).1,w0⟩
 rintro n s3 ⟨i,σ3,H3,I3,st3,fr3,w3⟩
 rcases turn i n σ3 H3 w3 with ⟨stop,qn⟩|⟨go,N,hN,step⟩
 ·refine wpAny_passesOwn hp (thn (T.done X rfl rfl rfl hc i pins s3 σ3 H3 X.xe I3 (stat fr3) st3 stop) fun r s4 ⟨hr,I4⟩=> ?_)
  subst hr
  exact wpAny_execs_nil ⟨σ3,H3,I4,qn⟩
 ·refine wpAny_passesOwn hp (thn (T.item X rfl rfl rfl hc i pins s3 σ3 H3 X.xe I3 (stat fr3) st3 go) fun r s4 ⟨u,hr,h4⟩=> ?_)
  subst hr
  refine wpAny_passesOwn hp (thn h4 fun _ s5 ⟨x,H5,I5,r5,y5,st5,fr5⟩=> ?_)
  have I5':=I5.pinned (stat fr5) (T.obj _ _ st5)
  refine wpAny_passesOwn hp (thn (hg _ s5 σ3 H5 x u _ I5' r5 (step x H5 y5)) fun _ s6 ⟨σ6,H6,I6,q6⟩=> ?_)
  refine wpAny_passesOwn hp (thn (hb _ s6 σ6 H6 _ I6 q6) fun f s7 q7=> ?_)
  have again:∀{σ7:St} {H7:Hp},Inv X (pins++pinsAt fp s5.heap) σ7 H7 s7→N σ7 H7→∃m,m<n∧∃i σ' H',Inv X pins σ' H' s7∧tn i s7.heap∧(∀b∈fp,H' b=none)∧W i m σ' H':=fun {σ7 H7} I7 n7=>by
   obtain ⟨m',hm,w7⟩:=hN σ7 H7 n7
   refine ⟨m',hm,i+1,σ7,H7,I7.unpinned,T.keep _ _ _ st5 fun b hb o e=>(I7.pin (b,o) (List.mem_append_right _ (List.mem_append_right _ (mem_pinsAt hb e)))).1,fun b hb=> ?_,w7⟩
   obtain ⟨o,e,d⟩:=T.obj _ _ st5 b hb
   exact (I7.pin (b,o) (List.mem_append_right _ (List.mem_append_right _ (mem_pinsAt hb e)))).2.1
  cases f with
  |next=>obtain ⟨σ7,H7,I7,n7⟩:=q7;exact again I7 n7
  |cont=>obtain ⟨σ7,H7,I7,n7⟩:=q7;exact again I7 n7
  |brk=>obtain ⟨σ7,H7,I7,q7⟩:=q7;exact ⟨σ7,H7,I7.unpinned,q7⟩
  |ret v=>obtain ⟨x7,σ7,H7,I7,r7,q7⟩:=q7;exact ⟨x7,σ7,H7,I7.unpinned,r7,q7⟩
end
theorem for_list {K:PySem.W.Frag} {a:Addr} {xs:List V} {g:TG} {tb:TS} {D:Ends} {σ:St} {H:Hp} (Pv:Nat→St→Hp→Prop) (h0:Pv 0 σ H) (hl:∀i σ H,i≤xs.length→Pv i σ H→SqL K H a xs)
  (hs:∀i x σ H,xs[i]? =some x→Pv i σ H→g x σ H fun σ2 H2=>tb {D with nx:=Pv (i+1),ct:=Pv (i+1),bk:=D.nx} σ2 H2) (hd:∀σ H,Pv xs.length σ H→D.nx σ H):
  ∃W:Nat→Nat→St→Hp→Prop,(∃m,W 0 m σ H)∧∀i m σ H,W i m σ H→
   ((Itl K a).stop i H∧D.nx σ H)∨((Itl K a).go i H∧∃N:St→Hp→Prop,(∀σ' H',N σ' H'→∃m',m'<m∧W (i+1) m' σ' H')∧∀x H',(Itl K a).yld i H x H'→g x σ H' fun σ2 H2=>tb {D with nx:=N,ct:=N,bk:=D.nx} σ2 H2):=by
 refine ⟨fun i m σ H=>m=xs.length - i∧i≤xs.length∧Pv i σ H,⟨xs.length,by simp,Nat.zero_le _,h0⟩,?_⟩
 rintro i m σ H ⟨rfl,hi,p⟩
 have q:=hl i σ H hi p
 by_cases hlt:i<xs.length
 ·refine .inr ⟨⟨xs,xs[i],q,by simp [hlt]⟩,Pv (i+1),fun σ' H' p'=>⟨xs.length - (i+1),by omega,rfl,hlt,p'⟩,fun x H' y=> ?_⟩
  obtain ⟨e,y⟩:=y
  subst e
  exact hs i x σ _ (y xs q) p
 ·have e:i=xs.length:=by omega
  subst e
  exact .inl ⟨⟨xs,q,Nat.le_refl _⟩,hd σ H p⟩
theorem for_tup {K:PySem.W.Frag} {a:Addr} {xs:List V} {g:TG} {tb:TS} {D:Ends} {σ:St} {H:Hp} (Pv:Nat→St→Hp→Prop) (h0:Pv 0 σ H) (hl:∀i σ H,i≤xs.length→Pv i σ H→SqT K H a xs)
  (hs:∀i x σ H,xs[i]? =some x→Pv i σ H→g x σ H fun σ2 H2=>tb {D with nx:=Pv (i+1),ct:=Pv (i+1),bk:=D.nx} σ2 H2) (hd:∀σ H,Pv xs.length σ H→D.nx σ H):
  ∃W:Nat→Nat→St→Hp→Prop,(∃m,W 0 m σ H)∧∀i m σ H,W i m σ H→
   ((Itt K a).stop i H∧D.nx σ H)∨((Itt K a).go i H∧∃N:St→Hp→Prop,(∀σ' H',N σ' H'→∃m',m'<m∧W (i+1) m' σ' H')∧∀x H',(Itt K a).yld i H x H'→g x σ H' fun σ2 H2=>tb {D with nx:=N,ct:=N,bk:=D.nx} σ2 H2):=by
 refine ⟨fun i m σ H=>m=xs.length - i∧i≤xs.length∧Pv i σ H,⟨xs.length,by simp,Nat.zero_le _,h0⟩,?_⟩
 rintro i m σ H ⟨rfl,hi,p⟩
 have q:=hl i σ H hi p
 by_cases hlt:i<xs.length
 ·refine .inr ⟨⟨xs,xs[i],q,by simp [hlt]⟩,Pv (i+1),fun σ' H' p'=>⟨xs.length - (i+1),by omega,rfl,hlt,p'⟩,fun x H' y=> ?_⟩
  obtain ⟨e,y⟩:=y
  subst e
  exact hs i x σ _ (y xs q) p
 ·have e:i=xs.length:=by omega
  subst e
  exact .inl ⟨⟨xs,q,Nat.le_refl _⟩,hd σ H p⟩
theorem for_range {lo:Int} {n:Nat} {g:TG} {tb:TS} {D:Ends} {σ:St} {H:Hp} (Pv:Nat→St→Hp→Prop) (h0:Pv 0 σ H)
  (hs:∀i σ H,i<n→Pv i σ H→g (.int (lo+i)) σ H fun σ2 H2=>tb {D with nx:=Pv (i+1),ct:=Pv (i+1),bk:=D.nx} σ2 H2) (hd:∀σ H,Pv n σ H→D.nx σ H):
  ∃W:Nat→Nat→St→Hp→Prop,(∃m,W 0 m σ H)∧∀i m σ H,W i m σ H→
   ((Itr lo n).stop i H∧D.nx σ H)∨((Itr lo n).go i H∧∃N:St→Hp→Prop,(∀σ' H',N σ' H'→∃m',m'<m∧W (i+1) m' σ' H')∧∀x H',(Itr lo n).yld i H x H'→g x σ H' fun σ2 H2=>tb {D with nx:=N,ct:=N,bk:=D.nx} σ2 H2):=by
 refine ⟨fun i m σ H=>m=n - i∧i≤n∧Pv i σ H,⟨n,by simp,Nat.zero_le _,h0⟩,?_⟩
 rintro i m σ H ⟨rfl,hi,p⟩
 by_cases hlt:i<n
 ·refine .inr ⟨hlt,Pv (i+1),fun σ' H' p'=>⟨n - (i+1),by omega,rfl,hlt,p'⟩,fun x H' y=> ?_⟩
  obtain ⟨e,y⟩:=y
  subst e y
  exact hs i σ _ hlt p
 ·have e:i=n:=by omega
  subst e
  exact .inl ⟨Nat.le_refl _,hd σ H p⟩
end L2
namespace L2
open PySem PySem.Spec PyProof.Rows
abbrev R2:=V→V→Hp→VK→Prop
def OpR (X:Cx) (f:Value→Value→Sem Value) (r:R2):Prop:=
 ∀(pins:List (Addr×Obj)) (s:Shared) (σ:St) (H:Hp) (x y:V) (v u:Value) (Q:VK),Inv X pins σ H s→RelV x v→RelV y u→r x y H Q→
  wpAny (model X.prog X.w) X.A (f v u) (EP X pins σ Q) X.xe s
def UnR (X:Cx) (f:Value→Sem Value) (r:V→Hp→VK→Prop):Prop:=
 ∀(pins:List (Addr×Obj)) (s:Shared) (σ:St) (H:Hp) (x:V) (v:Value) (Q:VK),Inv X pins σ H s→RelV x v→r x H Q→
  wpAny (model X.prog X.w) X.A (f v) (EP X pins σ Q) X.xe s
def CallR (X:Cx) (f:Value) (r:List V→Hp→VK→Prop):Prop:=
 ∀(pins:List (Addr×Obj)) (s:Shared) (σ:St) (H:Hp) (xs:List V) (us:List Value) (Q:VK),Inv X pins σ H s→Vals xs us→r xs H Q→
  wpAny (model X.prog X.w) X.A (call f us) (EP X pins σ Q) X.xe s
def TruR (X:Cx) (r:V→Hp→(Bool→Hp→Prop)→Prop):Prop:=
 ∀(pins:List (Addr×Obj)) (s:Shared) (σ:St) (H:Hp) (x:V) (v:Value) (Q:Bool→Hp→Prop),Inv X pins σ H s→RelV x v→r x H Q→
  wpAny (model X.prog X.w) X.A (truthy v) (TP X pins σ Q) X.xe s
def tOp (r:R2) (ta tb:TE):TE:=fun σ H Q=>ta σ H fun x H1=>tb σ H1 fun y H2=>r x y H2 Q
def tUn (r:V→Hp→VK→Prop) (ta:TE):TE:=fun σ H Q=>ta σ H fun x H1=>r x H1 Q
inductive RIP (C:Int→Int→Prop) (g:Int→Int→V) (x:V) (y:V) (H:Hp) (Q:VK):Prop
 |mk (i j:_):(x= .int i)→(y= .int j)→(C i j)→(Q (g i j) H)→RIP C g x y H Q
def rI (C:Int→Int→Prop) (g:Int→Int→V):R2:=fun x y H Q=>RIP C g x y H Q
inductive RI0P (g:Int→Int→V) (x:V) (y:V) (H:Hp) (Q:VK):Prop
 |mk (i j:_):(x= .int i)→(y= .int j)→(Q (g i j) H)→RI0P g x y H Q
def rI0 (g:Int→Int→V):R2:=fun x y H Q=>RI0P g x y H Q
inductive RUP (g:Int→V) (x:V) (H:Hp) (Q:VK):Prop
 |mk (i:_):(x= .int i)→(Q (g i) H)→RUP g x H Q
def rU (g:Int→V):V→Hp→VK→Prop:=fun x H Q=>RUP g x H Q
section
variable {X:Cx} {a b c:Expr} {ta tb tc:TE} {pos:Pos}
theorem binT (ha:PE X a ta) (hb:PE X b tb) {pins:List (Addr×Obj)} {s:Shared} {σ:St} {H:Hp} {R:V→V→Hp→Prop} (I:Inv X pins σ H s)
  (h:ta σ H fun x H1=>tb σ H1 fun y H2=>R x y H2) {Q:Value→Shared→Prop} {f:Value→Value→Sem Value}
  (hf:∀v u s2 x y H2,Inv X pins σ H2 s2→RelV x v→RelV y u→R x y H2→wpAny (model X.prog X.w) X.A (f v u) Q X.xe s2):
  wpAny (model X.prog X.w) X.A (eval a X.env) (fun v s₁=>wpAny (model X.prog X.w) X.A (eval b X.env) (fun u s₂=>wpAny (model X.prog X.w) X.A (f v u) Q X.xe s₂) X.xe s₁) X.xe s:=by
 refine thn (ha pins s σ H _ I h) fun v s1 ⟨x,H1,I1,r1,q1⟩=> ?_
 refine thn (hb pins s1 σ H1 _ I1 q1) fun u s2 ⟨y,H2,I2,r2,q2⟩=> ?_
 exact hf v u s2 x y H2 I2 r1 r2 q2
theorem As {op:Operator} {r:R2} (ho:OpR X (binaryOp op) r) (ha:PE X a ta) (hb:PE X b tb):PE X (.BinOp a op b pos) (tOp r ta tb):=by
 intro pins s σ H Q I h
 exact wpAny_BinOp (binT ha hb I h fun v u s2 x y H2 I2 rx ry q=>ho pins s2 σ H2 x y v u Q I2 rx ry q)
theorem pe_un {op:UnaryOp} {r:V→Hp→VK→Prop} (ho:UnR X (unaryOp op) r) (ha:PE X a ta):PE X (.UnaryOp op a pos) (tUn r ta):=by
 intro pins s σ H Q I h
 exact UnaryOp_ (thn (ha pins s σ H _ I h) fun v s1 ⟨x,H1,I1,r1,q1⟩=>ho pins s1 σ H1 x v Q I1 r1 q1)
theorem opI {f:Value→Value→Sem Value} {C:Int→Int→Prop} {g:Int→Int→Int}
  (rule:∀(i j:Int) (t u:Tok) (s:Shared) (Q:Value→Shared→Prop) (E:Value→Shared→Prop),C i j→Q (.int (g i j) s.toks) {s with toks:=s.toks+1}→wpAny (model X.prog X.w) X.A (f (.int i t) (.int j u)) Q E s):
  OpR X f (rI C fun i j=> .int (g i j)):=by
 intro pins s σ H x y v u Q I rx ry h
 obtain ⟨i,j,rfl,rfl,hc,q⟩:=h
 obtain ⟨t,rfl⟩:=rx
 obtain ⟨t',rfl⟩:=ry
 exact rule i j t t' s _ _ hc ⟨.int (g i j),H,I.tok _,⟨_,rfl⟩,q⟩
theorem opI0 {f:Value→Value→Sem Value} {g:Int→Int→Int}
  (rule:∀(i j:Int) (t u:Tok) (s:Shared) (Q:Value→Shared→Prop) (E:Value→Shared→Prop),Q (.int (g i j) s.toks) {s with toks:=s.toks+1}→wpAny (model X.prog X.w) X.A (f (.int i t) (.int j u)) Q E s):
  OpR X f (rI0 fun i j=> .int (g i j)):=by
 intro pins s σ H x y v u Q I rx ry h
 obtain ⟨i,j,rfl,rfl,q⟩:=h
 obtain ⟨t,rfl⟩:=rx
 obtain ⟨t',rfl⟩:=ry
 exact rule i j t t' s _ _ ⟨.int (g i j),H,I.tok _,⟨_,rfl⟩,q⟩
theorem opB0 {f:Value→Value→Sem Value} {g:Int→Int→Bool}
  (rule:∀(i j:Int) (t u:Tok) (s:Shared) (Q:Value→Shared→Prop) (E:Value→Shared→Prop),Q (.bool (g i j)) s→wpAny (model X.prog X.w) X.A (f (.int i t) (.int j u)) Q E s):
  OpR X f (rI0 fun i j=> .bl (g i j)):=by
 intro pins s σ H x y v u Q I rx ry h
 obtain ⟨i,j,rfl,rfl,q⟩:=h
 obtain ⟨t,rfl⟩:=rx
 obtain ⟨t',rfl⟩:=ry
 exact rule i j t t' s _ _ ⟨.bl (g i j),H,I,rfl,q⟩
def CDiv (i j:Int):Prop:=0<j∧j<1073741824
def CPow (i j:Int):Prop:=0≤j∧j≤1000000∧i.natAbs<2 ^ 64
def CMul (i j:Int):Prop:=(-(2 ^ 64)<i∧i<2 ^ 64)∨(-(2 ^ 64)<j∧j<2 ^ 64)
theorem CMul.ok {i j:Int} (h:CMul i j):IntMulOk i j:=by
 rcases h with ⟨h1,h2⟩|⟨h1,h2⟩
 ·exact .of_left (intBits_le_64 h1 h2)
 ·exact .of_right (intBits_le_64 h1 h2)
theorem Bl:OpR X (binaryOp .Add) (rI0 fun i j=> .int (i+j)):=opI0 fun _ _ _ _ _ _ _ q=>add_int q
theorem op_sub:OpR X (binaryOp .Sub) (rI0 fun i j=> .int (i - j)):=opI0 fun _ _ _ _ _ _ _ q=>sub_int q
theorem op_mul:OpR X (binaryOp .Mult) (rI CMul fun i j=> .int (i * j)):=opI fun _ _ _ _ _ _ _ hc q=>mul_int q hc.ok
theorem op_fdiv:OpR X (binaryOp .FloorDiv) (rI CDiv fun i j=> .int (i / j)):=opI fun i j _ _ _ _ _ hc q=>by
 have h1:(0:Int)<j:=hc.1
 have h2:j<1073741824:=hc.2
 exact floordiv_int (by omega) (by rw [Int.fdiv_eq_ediv_of_nonneg i (by omega)];exact q) (.inl (PyProof.noPylong_small (by omega)))
theorem Co:OpR X (binaryOp .Mod) (rI (fun _ j=>0<j) fun i j=> .int (i % j)):=opI fun i j _ _ _ _ _ hc q=>by
 have h1:(0:Int)<j:=hc
 exact mod_int' (by omega) (by rw [Int.fmod_eq_emod_of_nonneg i (by omega)];exact q)
theorem op_pow:OpR X (binaryOp .Pow) (rI CPow fun i j=> .int (i ^ j.toNat)):=opI fun _ _ _ _ _ _ _ hc q=>pow_int_small hc.1 hc.2.1 hc.2.2 q
theorem op_xor:OpR X (binaryOp .BitXor) (rI0 fun i j=> .int (Builtin.bitXor i j)):=opI0 fun _ _ _ _ _ _ _ q=>xor_int q
theorem unI {f:Value→Sem Value} {g:Int→Int}
  (rule:∀(i:Int) (t:Tok) (s:Shared) (Q:Value→Shared→Prop) (E:Value→Shared→Prop),Q (.int (g i) s.toks) {s with toks:=s.toks+1}→wpAny (model X.prog X.w) X.A (f (.int i t)) Q E s):
  UnR X f (rU fun i=> .int (g i)):=by
 intro pins s σ H x v Q I rx h
 obtain ⟨i,rfl,q⟩:=h
 obtain ⟨t,rfl⟩:=rx
 exact rule i t s _ _ ⟨.int (g i),H,I.tok _,⟨_,rfl⟩,q⟩
theorem un_neg:UnR X (unaryOp .USub) (rU fun i=> .int (-i)):=unI fun _ _ _ _ _ q=>neg_int q
end
def scal:V→V→Bool
 | .non,.non=>true| .non,.int _=>true| .int _,.non=>true| .non,.bl _=>true| .bl _,.non=>true| .non,.str _=>true| .str _,.non=>true
 | .int _,.int _=>true| .bl _,.bl _=>true| .str _,.str _=>true| .byt _,.byt _=>true
 | .int _,.str _=>true| .str _,.int _=>true| .bl _,.str _=>true| .str _,.bl _=>true
 |_,_=>false
def rEq:R2:=fun x y H Q=>scal x y=true∧Q (.bl (decide (x=y))) H
def rNe:R2:=fun x y H Q=>scal x y=true∧Q (.bl (!decide (x=y))) H
theorem dec_int {i j:Int}:decide (V.int i=V.int j)=(i==j):=by
 rw [Bool.eq_iff_iff]
 simp
theorem dec_bl {i j:Bool}:decide (V.bl i=V.bl j)=(i==j):=by
 rw [Bool.eq_iff_iff]
 simp
theorem dec_str {i j:Str}:decide (V.str i=V.str j)=(i==j):=by
 rw [Bool.eq_iff_iff]
 simp
theorem dec_byt {i j:Array UInt8}:decide (V.byt i=V.byt j)=(i.toList==j.toList):=by
 rw [Bool.eq_iff_iff]
 cases i
 cases j
 simp
section
variable {X:Cx} {a b c:Expr} {ta tb tc:TE} {pos:Pos}
theorem Bg {pins:List (Addr×Obj)} {σ:St} {H:Hp} {s:Shared} {Q:VK} {k k':Bool} (I:Inv X pins σ H s) (q:Q (.bl k) H) (e:k=k'):EP X pins σ Q (.bool k') s:=by
 subst e
 exact ⟨.bl k,H,I,rfl,q⟩
theorem By:OpR X (compareOp .Eq) rEq:=by
 intro pins s σ H x y v u Q I rx ry h
 obtain ⟨hs,q⟩:=h
 cases x with
 |non=>
  cases rx
  cases y with
  |non=>cases ry;exact PySem.EqNone.eq_none_none (Bg I q (by simp))
  |bl j=>cases ry;exact PySem.EqNone.eq_none_bool (Bg I q (by simp))
  |int j=>obtain ⟨t',rfl⟩:=ry;exact PySem.EqNone.eq_none_int (Bg I q (by simp))
  |str j=>obtain ⟨t',rfl⟩:=ry;exact PySem.EqNone.eq_none_str (Bg I q (by simp))
  |_=>exact absurd (show false=true from hs) Bool.false_ne_true
 |bl i=>
  cases rx
  cases y with
  |non=>cases ry;exact PySem.EqNone.eq_bool_none (Bg I q (by simp))
  |bl j=>cases ry;exact eq_bool (Bg I q dec_bl)
  |str j=>obtain ⟨t',rfl⟩:=ry;exact PySem.EqMixed.eq_bool_str (Bg I q (by simp))
  |_=>exact absurd (show false=true from hs) Bool.false_ne_true
 |int i=>
  obtain ⟨t,rfl⟩:=rx
  cases y with
  |non=>cases ry;exact PySem.EqNone.eq_int_none (Bg I q (by simp))
  |int j=>obtain ⟨t',rfl⟩:=ry;exact eq_int (Bg I q dec_int)
  |str j=>obtain ⟨t',rfl⟩:=ry;exact PySem.EqMixed.eq_int_str (Bg I q (by simp))
  |_=>exact absurd (show false=true from hs) Bool.false_ne_true
 |str i=>
  obtain ⟨t,rfl⟩:=rx
  cases y with
  |non=>cases ry;exact PySem.EqNone.eq_str_none (Bg I q (by simp))
  |bl j=>cases ry;exact PySem.EqMixed.eq_str_bool (Bg I q (by simp))
  |int j=>obtain ⟨t',rfl⟩:=ry;exact PySem.EqMixed.eq_str_int (Bg I q (by simp))
  |str j=>obtain ⟨t',rfl⟩:=ry;exact eq_str (Bg I q dec_str)
  |_=>exact absurd (show false=true from hs) Bool.false_ne_true
 |byt i=>
  obtain ⟨t,rfl⟩:=rx
  cases y with
  |byt j=>obtain ⟨t',rfl⟩:=ry;exact PySem.W.eq_bytes (Bg I q dec_byt)
  |_=>exact absurd (show false=true from hs) Bool.false_ne_true
 |_=>cases y<;> exact absurd (show false=true from hs) Bool.false_ne_true
theorem op_ne:OpR X (compareOp .NotEq) rNe:=by
 intro pins s σ H x y v u Q I rx ry h
 obtain ⟨hs,q⟩:=h
 cases x with
 |non=>
  cases rx
  cases y with
  |non=>cases ry;exact PySem.EqNone.ne_none_none (Bg I q (by simp))
  |bl j=>cases ry;exact PySem.EqNone.ne_none_bool (Bg I q (by simp))
  |int j=>obtain ⟨t',rfl⟩:=ry;exact PySem.EqNone.ne_none_int (Bg I q (by simp))
  |str j=>obtain ⟨t',rfl⟩:=ry;exact PySem.EqNone.ne_none_str (Bg I q (by simp))
  |_=>exact absurd (show false=true from hs) Bool.false_ne_true
 |bl i=>
  cases rx
  cases y with
  |non=>cases ry;exact PySem.EqNone.ne_bool_none (Bg I q (by simp))
  |bl j=>cases ry;exact ne_bool (Bg I q (congrArg not dec_bl))
  |str j=>obtain ⟨t',rfl⟩:=ry;exact PySem.EqMixed.ne_bool_str (Bg I q (by simp))
  |_=>exact absurd (show false=true from hs) Bool.false_ne_true
 |int i=>
  obtain ⟨t,rfl⟩:=rx
  cases y with
  |non=>cases ry;exact PySem.EqNone.ne_int_none (Bg I q (by simp))
  |int j=>obtain ⟨t',rfl⟩:=ry;exact ne_int (Bg I q (congrArg not dec_int))
  |str j=>obtain ⟨t',rfl⟩:=ry;exact PySem.EqMixed.ne_int_str (Bg I q (by simp))
  |_=>exact absurd (show false=true from hs) Bool.false_ne_true
 |str i=>
  obtain ⟨t,rfl⟩:=rx
  cases y with
  |non=>cases ry;exact PySem.EqNone.ne_str_none (Bg I q (by simp))
  |bl j=>cases ry;exact PySem.EqMixed.ne_str_bool (Bg I q (by simp))
  |int j=>obtain ⟨t',rfl⟩:=ry;exact PySem.EqMixed.ne_str_int (Bg I q (by simp))
  |str j=>obtain ⟨t',rfl⟩:=ry;exact ne_str (Bg I q (congrArg not dec_str))
  |_=>exact absurd (show false=true from hs) Bool.false_ne_true
 |byt i=>
  obtain ⟨t,rfl⟩:=rx
  cases y with
  |byt j=>obtain ⟨t',rfl⟩:=ry;exact PySem.W.ne_bytes (Bg I q (congrArg not dec_byt))
  |_=>exact absurd (show false=true from hs) Bool.false_ne_true
 |_=>cases y<;> exact absurd (show false=true from hs) Bool.false_ne_true
theorem op_lt:OpR X (compareOp .Lt) (rI0 fun i j=> .bl (decide (i<j))):=opB0 fun _ _ _ _ _ _ _ q=>lt_int q
theorem op_le:OpR X (compareOp .LtE) (rI0 fun i j=> .bl (decide (i≤j))):=opB0 fun _ _ _ _ _ _ _ q=>le_int q
theorem op_gt:OpR X (compareOp .Gt) (rI0 fun i j=> .bl (decide (j<i))):=opB0 fun _ _ _ _ _ _ _ q=>gt_int q
theorem op_ge:OpR X (compareOp .GtE) (rI0 fun i j=> .bl (decide (j≤i))):=opB0 fun _ _ _ _ _ _ _ q=>ge_int q
theorem op_isN:OpR X (compareOp .Is) (fun x y H Q=>y= .non∧Q (.bl (decide (x= .non))) H):=by
 intro pins s σ H x y v u Q I rx ry h
 obtain ⟨rfl,q⟩:=h
 cases ry
 refine is_none_gen (Bg I q ?_)
 cases x<;> first
  |(cases rx;rfl)
  |(obtain ⟨t,rfl⟩:=rx;rfl)
theorem op_notN:OpR X (compareOp .IsNot) (fun x y H Q=>y= .non∧Q (.bl (!decide (x= .non))) H):=by
 intro pins s σ H x y v u Q I rx ry h
 obtain ⟨rfl,q⟩:=h
 cases ry
 refine isnot_none_gen (Bg I q ?_)
 cases x<;> first
  |(cases rx;rfl)
  |(obtain ⟨t,rfl⟩:=rx;rfl)
theorem A1 (b:Expr) {op:CmpOp} (h:op≠ .In:=by decide) (h2:op≠ .NotIn:=by decide):behindInMarks op b=false:=by
 have e1:(op==CmpOp.In)=false:=by cases op<;> first|rfl|exact absurd rfl h
 have e2:(op==CmpOp.NotIn)=false:=by cases op<;> first|rfl|exact absurd rfl h2
 cases b<;> simp [behindInMarks,e1,e2]
theorem Cv {op:CmpOp} {r:R2} (ho:OpR X (compareOp op) r) (ha:PE X a ta) (hb:PE X b tb) (hm:behindInMarks op b=false):PE X (.Compare a [op] [b] pos) (tOp r ta tb):=by
 intro pins s σ H Q I h
 exact wpAny_Compare1 (binT ha hb I h fun v u s2 x y H2 I2 rx ry q=>ho pins s2 σ H2 x y v u Q I2 rx ry q) hm
def tTest (t:TE):TT:=fun σ H Q=>t σ H fun x H'=>BlP x H' Q
theorem A0 {op:CmpOp} {r:R2} (ho:OpR X (compareOp op) r) (ha:PE X a ta) (hb:PE X b tb) (hm:behindInMarks op b=false):PT X (.Compare a [op] [b] pos) (tTest (tOp r ta tb)):=by
 intro pins s σ H Q I h
 refine wpAny_isTrue_Compare1 (thn (ha pins s σ H _ I h) fun v s1 ⟨x,H1,I1,r1,q1⟩=>thn (hb pins s1 σ H1 _ I1 q1) fun u s2 ⟨y,H2,I2,r2,q2⟩=>
  thn (ho pins s2 σ H2 x y v u _ I2 r1 r2 q2) fun c s3 ⟨z,H3,I3,r3,k,e,q3⟩=> ?_) hm
 subst e
 cases r3
 exact wpAny_truthy_bool ⟨H3,I3,q3⟩
def tChain (r r':R2) (ta tb tc:TE):TE:=fun σ H Q=>ta σ H fun x H1=>tb σ H1 fun y H2=>r x y H2 fun z H3=>∃k,z= .bl k∧
 (if k=true then tc σ H3 fun w' H4=>r' y w' H4 Q else Q (.bl false) H3)
theorem pe_chain {op op':CmpOp} {r r':R2} (ho:OpR X (compareOp op) r) (ho':OpR X (compareOp op') r') (ha:PE X a ta) (hb:PE X b tb) (hc:PE X c tc)
  (hm:lastMarks [op,op'] [b,c]=false:=by with_unfolding_all rfl):PE X (.Compare a [op,op'] [b,c] pos) (tChain r r' ta tb tc):=by
 intro pins s σ H Q I h
 refine Compare_chain (thn (ha pins s σ H _ I h) fun v s1 ⟨x,H1,I1,r1,q1⟩=>chain_link (thn (hb pins s1 σ H1 _ I1 q1) fun u s2 ⟨y,H2,I2,r2,q2⟩=>
  thn (ho pins s2 σ H2 x y v u _ I2 r1 r2 q2) fun d s3 ⟨z,H3,I3,r3,k,e,q3⟩=> ?_)) hm
 subst e
 cases r3
 refine wpAny_truthy_bool ?_
 cases k with
 |false=>exact ite_ff ⟨.bl false,H3,I3,rfl,q3⟩
 |true=>exact ite_tt (chain_last (thn (hc pins s3 σ H3 _ I3 q3) fun w' s4 ⟨z',H4,I4,r4,q4⟩=>ho' pins s4 σ H4 y z' u w' Q I4 r2 r4 q4))
def TruV (K:PySem.W.Frag) (x:V) (H:Hp) (k:Bool):Prop:=
 match x with
 | .non=>k=false
 | .bl b=>k=b
 | .int i=>k=(i !=0)
 | .str y=>y.length≤sizeLine∧k=((y.length:Int) !=0)
 | .byt y=>y.size≤sizeLine∧k=((y.size:Int) !=0)
 | .ref p=>(∃xs,SqL K H p xs∧k= !xs.isEmpty)∨(∃xs,SqT K H p xs∧k= !xs.isEmpty)∨∃kvs,H p=some (.dK kvs)∧k= !kvs.isEmpty
 |_=>False
theorem isEmpty_kv {κ:Type} {kvs:List (κ×V)} {vs:List (κ×Value)} (r:KV kvs vs):(!vs.isEmpty)= !kvs.isEmpty:=by
 cases r<;> rfl
theorem isEmpty_of {xs:List V} {its:List Value} (r:Vals xs its):(!its.toArray.isEmpty)= !xs.isEmpty:=by
 cases r<;> simp
theorem line63:(sizeLine:Nat)<2 ^ 63:=by rw [sizeLine_eq];decide
theorem tru_ok:TruR X (fun x H Q=>∃k,TruV X.K x H k∧Q k H):=by
 intro pins s σ H x v Q I rx h
 obtain ⟨k,e,q⟩:=h
 have hl:=line63
 have hs:sizeLine=16777216:=sizeLine_eq
 cases x with
 |non=>
  cases rx
  have e':k=false:=e
  subst e'
  exact truthy_none ⟨H,I,q⟩
 |bl b=>
  cases rx
  have e':k=b:=e
  subst e'
  exact wpAny_truthy_bool ⟨H,I,q⟩
 |int i=>
  obtain ⟨t,rfl⟩:=rx
  have e':k=(i !=0):=e
  subst e'
  exact PySem.P.truthy_int ⟨H,I,q⟩
 |str y=>
  obtain ⟨t,rfl⟩:=rx
  obtain ⟨hy,e'⟩:y.length≤sizeLine∧k=((y.length:Int) !=0):=e
  subst e'
  exact PySem.P.truthy_str (by omega) ⟨H,I.tok _,q⟩
 |byt y=>
  obtain ⟨t,rfl⟩:=rx
  obtain ⟨hy,e'⟩:y.size≤sizeLine∧k=((y.size:Int) !=0):=e
  subst e'
  exact PySem.W.truthy_bytes (by exact Nat.le_trans (by assumption) (by decide)) ⟨H,I.tok _,q⟩
 |ref p=>
  cases rx
  have e':(∃xs,SqL X.K H p xs∧k= !xs.isEmpty)∨(∃xs,SqT X.K H p xs∧k= !xs.isEmpty)∨∃kvs,H p=some (.dK kvs)∧k= !kvs.isEmpty:=e
  rcases e' with ⟨xs,hx,e'⟩|⟨xs,hx,e'⟩|⟨kvs,hx,e'⟩
  ·subst e'
   obtain ⟨its,r,pl,hz⟩:=I.list hx
   have hlen:=r.length
   exact wpAny_truthy_list pl.isList (by simp only [List.size_toArray];omega) ⟨H,I.tok _,by rw [isEmpty_of r];exact q⟩
  ·subst e'
   obtain ⟨its,r,pl,hz⟩:=I.tuple hx
   have hlen:=r.length
   exact truthy_tuple pl (by simp only [List.size_toArray];omega) ⟨H,I.tok _,by rw [isEmpty_of r];exact q⟩
  ·subst e'
   obtain ⟨hz,hS,vs,r,m⟩:kvs.length≤sizeLine∧(p==sysModules)=false∧∃vs,KV kvs vs∧s.heap.DictOf (Bj X.prog X.w) p vs:=I.hok p _ hx
   have hlen:kvs.length=vs.length:=Paired.length r
   exact wpAny_truthy_dict hS m (by omega) ⟨H,I.tok _,by rw [isEmpty_kv r];exact q⟩
 |_=>exact (show False from e).elim
theorem pt_truth (ha:PE X a ta) (he:∀whole,isTrue a X.env whole=(do let v ←whole;standAt a.pos;holding [v] (truthy v))):
  PT X a (fun σ H Q=>ta σ H fun x H'=>∃k,TruV X.K x H' k∧Q k H'):=by
 intro pins s σ H Q I h
 exact isTrue_plain (thn (ha pins s σ H _ I h) fun v s1 ⟨x,H1,I1,r1,q1⟩=>tru_ok pins s1 σ H1 x v Q I1 r1 q1) (he _)
theorem op_add_str:OpR X (binaryOp .Add) (fun x y H Q=>∃i j,x= .str i∧y= .str j∧i.length+j.length≤sizeLine∧Q (.str (i++j)) H):=by
 intro pins s σ H x y v u Q I rx ry h
 obtain ⟨i,j,rfl,rfl,hz,q⟩:=h
 obtain ⟨t,rfl⟩:=rx
 obtain ⟨t',rfl⟩:=ry
 exact add_str (fun t' tk=>⟨.str (i++j),H,I.tok _,⟨_,rfl⟩,q⟩) hz
theorem Cy {x:V} {us:List Value} (r:Vals [x] us):∃u,us=[u]∧RelV x u:=by
 cases r with
 |cons r1 r2=>cases r2;exact ⟨_,rfl,r1⟩
theorem vals2 {x y:V} {us:List Value} (r:Vals [x,y] us):∃u w',us=[u,w']∧RelV x u∧RelV y w':=by
 cases r with
 |cons r1 r2=>
  cases r2 with
  |cons r3 r4=>cases r4;exact ⟨_,_,rfl,r1,r3⟩
theorem call_min2 (hc:X.calm=true):CallR X (.builtin "min") (fun xs H Q=>∃i j,xs=[.int i,.int j]∧Q (.int (if j<i then j else i)) H):=by
 intro pins s σ H xs us Q I r h
 obtain ⟨i,j,rfl,q⟩:=h
 obtain ⟨u,w',rfl,⟨t,rfl⟩,⟨t',rfl⟩⟩:=vals2 r
 refine min_two_ints (I.ok.hd hc) fun h' tk k=>⟨_,H,I.kept k,?_,q⟩
 by_cases hj:j<i
 ·rw [if_pos hj,if_pos hj];exact ⟨_,rfl⟩
 ·rw [if_neg hj,if_neg hj];exact ⟨_,rfl⟩
theorem call_int1:CallR X (.type "int") (fun xs H Q=>(∃i,xs=[.int i]∧Q (.int i) H)∨∃k,xs=[.bl k]∧Q (.int (if k then 1 else 0)) H):=by
 intro pins s σ H xs us Q I r h
 rcases h with ⟨i,rfl,q⟩|⟨k,rfl,q⟩
 ·obtain ⟨u,rfl,t,rfl⟩:=Cy r
  exact call_int_int ⟨.int i,H,I,⟨_,rfl⟩,q⟩
 ·obtain ⟨u,rfl,r1⟩:=Cy r
  cases r1
  exact call_int_bool ⟨.int (if k then 1 else 0),H,I.tok _,⟨_,rfl⟩,q⟩
end
end L2
namespace L2
open PySem PySem.Spec PyProof.Rows
structure ObjM (h:Heap) (x dx C:Addr) (mA:Str→Option Value):Prop where
 obj:h.get? x=some (PySem.W.instObj C dx)
 ns:h.Ns1 dx mA
 ne:dx≠x
theorem lookIn_ns {h:Heap} {dx:Addr} {mA:Str→Option Value} (n:h.Ns1 dx mA):∃od,h.get? dx=some od∧∀name,PySem.W.lookIn name od=some (mA name):=by
 obtain ⟨o,es,ep,ho,hd,hk,_,hm⟩:=n
 refine ⟨o,ho,fun name=> ?_⟩
 have e:=hm name
 unfold nsFind findBy at e
 rw [←Array.find?_toList] at e
 unfold PySem.W.lookIn
 rw [hd]
 dsimp only
 split
 ·rename_i y q
  rw [q] at e
  exact congrArg some e
 ·rename_i q
  rw [q] at e
  have a:es.toList.any (·.refKey)=false:=by
   rw [List.any_eq_false]
   intro y hy
   obtain ⟨z,t,hkey⟩:=hk y (Array.mem_toList_iff.mp hy)
   simp [DictEntry.refKey,hkey]
  have a':¬es.toList.any (·.refKey)=true:=by rw [a];exact Bool.false_ne_true
  rw [if_neg a']
  exact congrArg some e
theorem ObjM.look {h:Heap} {x dx C:Addr} {mA:Str→Option Value} (I:ObjM h x dx C mA):∃od,PySem.W.InstAt h x (PySem.W.instObj C dx) C (some od)∧∀name,PySem.W.lookIn name od=some (mA name):=
 let ⟨od,ho,hl⟩:=lookIn_ns I.ns
 ⟨od,⟨I.obj,rfl,rfl,ho⟩,hl⟩
section
variable {prog:Program} {w:World} {A:Around} {E:Value→Shared→Prop} {s:Shared} {K:PySem.W.Frag} {x dx C f:Addr} {mA:Str→Option Value} {name:Str} {v:Value}
theorem get_map {expr:Bool} {Q:Value→Shared→Prop} (X:K.In s.heap) (I:ObjM s.heap x dx C mA) (hg:PySem.W.plainGet K C name=true) (hh:PySem.W.hasDictIn K C=true)
  (ha:PySem.W.findIn K (.ref C) name=some none) (hv:mA name=some v) (hv':PySem.W.handedIn v=true) (h:Q v {s with toks:=s.toks+1}):
  wpAny (model prog w) A (getAttr (.ref x) name expr) Q E s:=by
 obtain ⟨od,J,hl⟩:=I.look
 exact PySem.W.get_value X J (PySem.W.plainGet_of hg).1 (PySem.W.findObj_own hh ha rfl (by rw [hl,hv])) hv' h
theorem get_meth {pl:Sem Bool} {Q:Value×List Value→Shared→Prop} (X:K.In s.heap) (I:ObjM s.heap x dx C mA) (hg:PySem.W.plainGet K C name=true)
  (hf:PySem.W.findIn K (.ref C) name=some (some (.ref f))) (ht:PySem.W.isFn K (.ref f)=true) (hv:mA name=none) (h:Q (.ref f,[.ref x]) s):
  wpAny (model prog w) A (getMethod (.ref x) name pl) Q E s:=by
 obtain ⟨od,J,hl⟩:=I.look
 exact PySem.W.method_fn X J (PySem.W.plainGet_of hg).1 (PySem.W.plainGet_of hg).2 hf (beq_iff_eq.mp ht) (by show (PySem.W.lookIn name od).map (·.isSome)=some false;rw [hl,hv];rfl) h
theorem set_map {ns:List Str} {Q:Unit→Shared→Prop} (X:K.In s.heap) (I:ObjM s.heap x dx C mA)
  (hs:PySem.W.findIn K (.ref C) "__setattr__"=some (some (.builtin "object.__setattr__"))) (hp:PySem.W.plainOver K C=true) (ht:PySem.W.takerIn K C name=some none) (hh:PySem.W.hasDictIn K C=true)
  (hw:PySem.Within mA ns) (hsz:ns.length≤sizeLine)
  (h:∀h',ObjM h' x dx C (fun y=>if y=name then some v else mA y)→Heap.SameBut dx s.heap h'→Q () {s with heap:=h',toks:=s.toks+2}):
  wpAny (model prog w) A (setAttr (.ref x) name v) Q E s:=by
 obtain ⟨od,J,hl⟩:=I.look
 refine PySem.W.set_plain X J hs (PySem.W.osa_open (s:={s with toks:=s.toks+1}) (r:=none) X J hp ht fun b=> ?_)
 obtain ⟨cd,hc,hd'⟩:=PySem.W.any_some hh
 have hx:s.heap.get? x=some ⟨.ref C,some dx,.plain,#[]⟩:=I.obj
 refine wpAny_bind (wpAny_pure (wpAny_bind (wpAny_bind (wpAny_loadPart hx (wpAny_bind (PySem.W.Looks.here (s:={s with toks:=s.toks+1}) (PySem.W.looks_clsIn X hc) ?_))))))
 rw [hd']
 refine wpAny_pure (a:=some dx) (wpAny_bind (wpAny_pure (wpAny_bind ?_)))
 refine wpAny_nsSet1 (s:={s with toks:=s.toks+1}) I.ns fun h' hn2 hs2=> ?_
 obtain ⟨oD,esD,epD,hoD,hdD,hcD⟩:=hn2.count (PySem.Within.cons name v hw)
 refine wpAny_bind (wpAny_lookBehind hoD (by rw [hdD];exact pastItsLine_dict (Nat.le_trans hcD (by rw [List.length_cons];exact Nat.lt_of_le_of_lt (by assumption) (by decide)))) ?_)
 exact wpAny_pure (h _ ⟨(hs2.2 _ (Ne.symm I.ne)).trans I.obj,hn2,I.ne⟩ hs2)
theorem make_map {R:Result→Shared→Prop} {vs:List Value} {kw:List (Str×Value)} (X:K.In s.heap) (hm:PySem.W.makesIn K C=true)
  (hi:PySem.W.findIn K (.ref C) "__init__"=some (some (.ref f))) (hf:PySem.W.typeIn K (.ref f)=some (.type "function"))
  (h:codeAny (model prog w) (A.under (.builtin "type.__call__" ⟨.ref C::vs,kw⟩)) (.call (.ref f) ⟨.ref (s.heap.objs.size+1)::vs,kw⟩) (PySem.W.InitBack (s.heap.objs.size+1) R)
   {s with heap:=(s.heap.push PySem.W.emptyDict).push (PySem.W.instObj C s.heap.objs.size)}):
  codeAny (model prog w) A (.call (.ref C) ⟨vs,kw⟩) R s:=by
 obtain ⟨hh,g,d,t,os⟩:=s
 exact PySem.W.make_core (PySem.W.makes_of X hm) (PySem.W.looks_findIn X hi) (fun self=>PySem.W.bind_fn X self hf) (.inl rfl) h
end
def putF (f:Str) (v:V):List (Str×V)→List (Str×V)
 |[]=>[(f,v)]
 |(g,x)::r=>if g=f then (g,v)::r else (g,x)::putF f v r
theorem lookup_putF (f g:Str) (v:V):∀fs:List (Str×V),(putF f v fs).lookup g=if g=f then some v else fs.lookup g
 |[]=>by
  show List.lookup g [(f,v)]=_
  by_cases h:g=f
  ·have hb:(g==f)=true:=beq_iff_eq.mpr h
   simp only [List.lookup,hb,if_pos h]
  ·have hb:(g==f)=false:=beq_eq_false_iff_ne.mpr h
   simp only [List.lookup,hb,if_neg h]
 |(k,x)::r=>by
  have ih:=lookup_putF f g v r
  rw [show putF f v ((k,x)::r)=(if k=f then (k,v)::r else (k,x)::putF f v r) from rfl]
  by_cases hk:k=f
  ·rw [if_pos hk]
   by_cases h:g=k
   ·have hb:(g==k)=true:=beq_iff_eq.mpr h
    simp only [List.lookup,hb,if_pos (h.trans hk)]
   ·have hb:(g==k)=false:=beq_eq_false_iff_ne.mpr h
    simp only [List.lookup,hb,if_neg (fun e:g=f=>h (e.trans hk.symm))]
  ·rw [if_neg hk]
   by_cases h:g=k
   ·have hb:(g==k)=true:=beq_iff_eq.mpr h
    simp only [List.lookup,hb,if_neg (fun e:g=f=>hk (h.symm.trans e))]
   ·have hb:(g==k)=false:=beq_eq_false_iff_ne.mpr h
    simp only [List.lookup,hb]
    exact ih
theorem keys_putF (f:Str) (v:V):∀fs:List (Str×V),f∈(putF f v fs).map (·.1)∧∀g,g∈fs.map (·.1)→g∈(putF f v fs).map (·.1)
 |[]=>⟨by simp [putF],fun g h=>by simp at h⟩
 |(k,x)::r=>by
  obtain ⟨i1,i2⟩:=keys_putF f v r
  rw [show putF f v ((k,x)::r)=(if k=f then (k,v)::r else (k,x)::putF f v r) from rfl]
  by_cases hk:k=f
  ·rw [if_pos hk]
   subst hk
   exact ⟨by simp,fun g h=>by simpa using h⟩
  ·rw [if_neg hk]
   refine ⟨?_,fun g h=> ?_⟩
   ·rw [List.map_cons]
    exact List.mem_cons_of_mem _ i1
   ·rw [List.map_cons] at h ⊢
    rcases List.mem_cons.mp h with e|e
    ·exact List.mem_cons.mpr (.inl e)
    ·exact List.mem_cons_of_mem _ (i2 g e)
theorem length_putF (f:Str) (v:V):∀fs:List (Str×V),(putF f v fs).length≤fs.length+1
 |[]=>by simp [putF]
 |(k,x)::r=>by
  have ih:=length_putF f v r
  rw [show putF f v ((k,x)::r)=(if k=f then (k,v)::r else (k,x)::putF f v r) from rfl]
  by_cases hk:k=f
  ·rw [if_pos hk,List.length_cons,List.length_cons];exact Nat.le_add_right _ _
  ·rw [if_neg hk,List.length_cons,List.length_cons];exact Nat.succ_le_succ (by assumption)
theorem RelO.some_of {v:V} {o:Option Value} (r:RelO (some v) o):∃u,o=some u∧RelV v u:=by
 cases o with
 |none=>exact (show False from r).elim
 |some u=>exact ⟨u,rfl,r⟩
theorem RelO.none_of {o:Option Value} (r:RelO none o):o=none:=by
 cases o with
 |none=>rfl
 |some u=>exact (show False from r).elim
theorem handed_of {v:V} {u:Value} (r:RelV v u):PySem.W.handedIn u=true:=by
 cases v with
 |non=>cases (show u=Value.none from r);rfl
 |bl b=>cases (show u=Value.bool b from r);rfl
 |int i=>obtain ⟨t,e⟩:=(show ∃t,u=Value.int i t from r);cases e;rfl
 |str x=>obtain ⟨t,e⟩:=(show ∃t,u=Value.str x t from r);cases e;rfl
 |byt b=>obtain ⟨t,e⟩:=(show ∃t,u=Value.bytes b t from r);cases e;rfl
 |flt b=>obtain ⟨t,e⟩:=(show ∃t,u=Value.float b t from r);cases e;rfl
 |ref a=>cases (show u=Value.ref a from r);rfl
 |ty n=>cases (show u=Value.type n from r);rfl
section
variable {P:Program} {w:World} {H H':Hp} {h h':Heap} {a C dx:Addr} {fs fs':List (Str×V)}
theorem ins_get (hok:HOk P w H h) (e:H a=some (.ins C dx fs)):∃mA,ObjM h a dx C mA∧(∀f,RelO (fs.lookup f) (mA f))∧PySem.Within mA (fs.map (·.1))∧fs.length≤1000∧H dx=some (.own a):=by
 obtain ⟨d,z,ne,ob,mA,n,r,q⟩:=(show ObjOk P w H h a (.ins C dx fs) from hok a _ e)
 exact ⟨mA,⟨ob,n,ne⟩,r,q,z,d⟩
end
structure Cls (K:PySem.W.Frag) (C:Addr):Prop where
 pg:PySem.W.plainGet K C Str.empty=true
 hd:PySem.W.hasDictIn K C=true
 po:PySem.W.plainOver K C=true
 sa:PySem.W.findIn K (.ref C) "__setattr__"=some (some (.builtin "object.__setattr__"))
theorem Cls.get {K:PySem.W.Frag} {C:Addr} (c:Cls K C) (f:Str):PySem.W.plainGet K C f=true:=c.pg
def NoAttr (K:PySem.W.Frag) (C:Addr) (f:Str):Prop:=PySem.W.findIn K (.ref C) f=some none
theorem NoAttr.taker {K:PySem.W.Frag} {C:Addr} {f:Str} (n:NoAttr K C f):PySem.W.takerIn K C f=some none:=by
 unfold PySem.W.takerIn
 rw [show PySem.W.findIn K (.ref C) f=some none from n]
 rfl
structure Meth (K:PySem.W.Frag) (C:Addr) (m:Str) (f:Addr):Prop where
 at_:PySem.W.findIn K (.ref C) m=some (some (.ref f))
 fn:PySem.W.isFn K (.ref f)=true
 kp:PySem.W.keepIn K (.ref f)=true
section
variable {X:Cx} {pins:List (Addr×Obj)} {σ:St} {H:Hp} {s:Shared} {a C dx:Addr} {fs:List (Str×V)} {f:Str} {v:V} {A:Around} {E:Value→Shared→Prop}
theorem getattr_ok {b:Bool} {Q:Value→Shared→Prop} (I:Inv X pins σ H s) (e:H a=some (.ins C dx fs)) (c:Cls X.K C) (n:NoAttr X.K C f) (l:fs.lookup f=some v)
  (h:∀u s',Inv X pins σ H s'→RelV v u→Q u s'):wpAny (model X.prog X.w) A (getAttr (.ref a) f b) Q E s:=by
 obtain ⟨mA,O,r,_,_,_⟩:=ins_get I.hok e
 obtain ⟨u,hu,ru⟩:=RelO.some_of (v:=v) (o:=mA f) (by rw [←l];exact r f)
 exact get_map I.kIn O (c.get f) c.hd n hu (handed_of ru) (h u _ (I.tok _) ru)
theorem getmeth_ok {m:Str} {g:Addr} {pl:Sem Bool} {Q:Value×List Value→Shared→Prop} (I:Inv X pins σ H s) (e:H a=some (.ins C dx fs)) (c:Cls X.K C) (k:Meth X.K C m g) (l:fs.lookup m=none)
  (h:Q (.ref g,[.ref a]) s):wpAny (model X.prog X.w) A (getMethod (.ref a) m pl) Q E s:=by
 obtain ⟨mA,O,r,_,_,_⟩:=ins_get I.hok e
 have hn:mA m=none:=RelO.none_of (by rw [←l];exact r m)
 exact get_meth I.kIn O (c.get m) k.at_ k.fn hn h
theorem setattr_ok {y:V} {u:Value} {Q:Unit→Shared→Prop} (I:Inv X pins σ H s) (e:H a=some (.ins C dx fs)) (c:Cls X.K C) (n:NoAttr X.K C f) (hl:fs.length<1000) (ry:RelV y u)
  (h:∀s',Inv X pins σ (upd H a (.ins C dx (putF f y fs))) s'→Q () s'):wpAny (model X.prog X.w) A (setAttr (.ref a) f u) Q E s:=by
 obtain ⟨mA,O,r,wi,_,ho⟩:=ins_get I.hok e
 have hz:(fs.map (·.1)).length≤sizeLine:=by rw [List.length_map,sizeLine_eq];exact Nat.le_trans (by assumption) (by decide)
 refine set_map I.kIn O c.sa c.po n.taker c.hd wi hz fun h' O' sb=>h _ ?_
 have hd:∃o,h'.get? dx=some o:=let ⟨o,_,_,e',_⟩:=O'.ns;⟨o,e'⟩
 refine I.write (x:=a) (e:=dx) (by rw [e];exact True.intro) (.inr ho) (fun b q hb z=>(sb.2 b hb).trans z) hd ?_
 refine ⟨by rw [Ai O.ne];exact ho,?_,O.ne,O'.obj,_,O'.ns,fun g=> ?_,fun g hg=> ?_⟩
 ·have:=length_putF f y fs;exact Nat.le_trans (by assumption) (by assumption)
 ·show RelO ((putF f y fs).lookup g) (if g=f then some u else mA g)
  rw [lookup_putF]
  by_cases q:g=f
  ·rw [if_pos q,if_pos q];exact ry
  ·rw [if_neg q,if_neg q];exact r g
 ·by_cases q:g=f
  ·rw [q];exact (keys_putF f y fs).1
  ·refine (keys_putF f y fs).2 g (wi g fun z=>hg ?_)
   show (if g=f then some u else mA g)=none
   rw [if_neg q];exact z
theorem Inv.made (I:Inv X pins σ H s):Inv X pins σ (upd (upd H s.heap.objs.size (.own (s.heap.objs.size+1))) (s.heap.objs.size+1) (.ins C s.heap.objs.size []))
  {s with heap:=(s.heap.push PySem.W.emptyDict).push (PySem.W.instObj C s.heap.objs.size)}:=by
 have e1:(s.heap.push PySem.W.emptyDict).get? s.heap.objs.size=some PySem.W.emptyDict:=Heap.get?_push_size s.heap rfl
 have e2:((s.heap.push PySem.W.emptyDict).push (PySem.W.instObj C s.heap.objs.size)).get? (s.heap.objs.size+1)=some (PySem.W.instObj C s.heap.objs.size):=by
  have:=Heap.get?_push_size (s.heap.push PySem.W.emptyDict) (o:=PySem.W.instObj C s.heap.objs.size) rfl
  rwa [Heap.size_push] at this
 have e3:(s.heap.push PySem.W.emptyDict).Ns s.heap.objs.size (fun _=>none):=⟨PySem.W.emptyDict,#[],_,e1,rfl,(fun e he=>absurd he (by simp)),fun _=>rfl⟩
 have I1:=I.laid (a:=s.heap.objs.size) (o:= .own (s.heap.objs.size+1)) (h':=s.heap.push PySem.W.emptyDict) (t':=s.toks) (fun b u q=>Heap.get?_push_of_some _ q) (Nat.le_refl _) ⟨_,e1⟩
 refine I1.laid (a:=s.heap.objs.size+1) (o:= .ins C s.heap.objs.size []) (t':=s.toks) (fun b u q=>Heap.get?_push_of_some _ q) (Nat.le_of_eq (Heap.size_push _ _)) ?_
 have ne:s.heap.objs.size≠s.heap.objs.size+1:=Nat.ne_of_lt (Nat.lt_succ_self _)
 refine ⟨by rw [Ai ne,Ab],Nat.zero_le _,ne,e2,fun _=>none,(Heap.Ns1.of_empty e3).at fun o q=>Heap.get?_push_of_some _ q,fun _=>True.intro,fun y hy=>absurd rfl hy⟩
theorem attr_of {prog:Program} {w:World} {env:Env} {e:Expr} {f:Str} {pos:Pos} {s:Shared} {Q:Value→Shared→Prop} (hb:attributeBase e f env (eval e env)=eval e env)
  (h:wpAny (model prog w) A (eval e env) (fun o s₁=>wpAny (model prog w) A (getAttr o f true) Q E s₁) E s):wpAny (model prog w) A (eval (.Attribute e f pos) env) Q E s:=
 Attribute_any_ h (by rw [arm_eval_Attribute,hb])
end
def tFld (K:PySem.W.Frag) (ta:TE) (f:Str):TE:=fun σ H Q=>ta σ H fun x H1=>∃a C dx fs v,x= .ref a∧H1 a=some (.ins C dx fs)∧Cls K C∧NoAttr K C f∧fs.lookup f=some v∧Q v H1
def sFld (K:PySem.W.Frag) (ta tv:TE) (f:Str):TS:=fun D σ H=>tv σ H fun y H1=>ta σ H1 fun x H2=>∃a C dx fs,x= .ref a∧H2 a=some (.ins C dx fs)∧Cls K C∧NoAttr K C f∧fs.length<1000∧
 D.nx σ (upd H2 a (.ins C dx (putF f y fs)))
section
variable {X:Cx} {o e value:Expr} {f:Str} {pos pos' tpos:Pos} {ta tv:TE}
theorem pe_fld (he:PE X e ta) (hb:attributeBase e f X.env (eval e X.env)=eval e X.env):PE X (.Attribute e f pos) (tFld X.K ta f):=by
 intro pins s σ H Q I h
 refine attr_of hb (thn (he pins s σ H _ I h) fun u s1 ⟨x,H1,I1,rx,a,C,dx,fs,v,ex,ea,c,n,l,q⟩=> ?_)
 subst ex
 obtain rfl:u=Value.ref a:=rx
 exact getattr_ok I1 ea c n l fun u' s2 I2 ru=>⟨v,H1,I2,ru,q⟩
theorem ps_fld (ha:PE X o ta) (hv:PE X value tv) (hs:swapsWith value (some (.Attribute o f pos')) pos.line X.env=pure false):PS X (.Assign [.Attribute o f pos'] value pos) (sFld X.K ta tv f):=by
 intro pins s σ H D I h
 refine plainObj_wpAny_Assign_Attribute (thn (hv pins s σ H _ I h) fun u s1 ⟨y,H1,I1,ry,q⟩=>thn (ha pins s1 σ H1 _ I1 q) fun ov s2 ⟨x,H2,I2,rx,a,C,dx,fs,ex,ea,c,n,l,q2⟩=> ?_) hs
 subst ex
 obtain rfl:ov=Value.ref a:=rx
 exact setattr_ok I2 ea c n l ry fun s3 I3=>⟨σ,_,I3,q2⟩
end
section
variable {X:Cx} {pins:List (Addr×Obj)} {σ:St} {H:Hp} {s:Shared} {A:Around} {E:Value→Shared→Prop} {Q:Value→Shared→Prop} {c:Value} {b:Bool}
inductive TyOf (K:PySem.W.Frag) (H:Hp):V→Value→Prop where
 |non:TyOf K H .non (.type "NoneType")
 |bl (x:Bool):TyOf K H (.bl x) (.type "bool")
 |int (i:Int):TyOf K H (.int i) (.type "int")
 |str (x:Str):TyOf K H (.str x) (.type "str")
 |flt (x:UInt64):TyOf K H (.flt x) (.type "float")
 |lst {a:Addr} {xs:List V} (e:H a=some (.lst xs)):TyOf K H (.ref a) (.type "list")
 |frz {a:Addr} {o:Obj} {xs:List V} (e:H a=some (.frz o (.lst xs))):TyOf K H (.ref a) (.type "list")
 |tup {a:Addr} {xs:List V} (e:H a=some (.tup xs)):TyOf K H (.ref a) (.type "tuple")
 |dK {a:Addr} {kvs:List (Key×V)} (e:H a=some (.dK kvs)):TyOf K H (.ref a) (.type "dict")
 |dT {a:Addr} {kvs:List (List Key×V)} (e:H a=some (.dT kvs)):TyOf K H (.ref a) (.type "dict")
 |ins {a C dx:Addr} {fs:List (Str×V)} (e:H a=some (.ins C dx fs)) (cl:Cls K C) (ha:PySem.W.findIn K (.ref C) "__class__"=some (some (.builtin "object.__class__")))
  (hn:PySem.W.specialIn K (.builtin "object.__class__") "__get__"=some (some (.builtin "getset_descriptor.__get__"))) (htk:PySem.W.takesIn K (.builtin "object.__class__")=some true)
  (hm:PySem.W.mroIn K C (.type "object")=some true):TyOf K H (.ref a) (.ref C)
theorem isinst_ok {x:V} {u t:Value} (I:Inv X pins σ H s) (rx:RelV x u) (ty:TyOf X.K H x t) (e:PySem.W.kitOne X.K t c=some b) (h:∀tk,Q (.bool b) {s with toks:=tk}):
  wpAny (model X.prog X.w) A (call (.builtin "isinstance") [u,c]) Q E s:=by
 cases ty with
 |non=>cases (show u=Value.none from rx);exact PySem.W.kia_one PySem.W.kitx_none I.kIn True.intro e (fun z=>nomatch z) h
 |bl y=>cases (show u=Value.bool y from rx);exact PySem.W.kia_one PySem.W.kitx_bool I.kIn True.intro e (fun z=>nomatch z) h
 |int i=>obtain ⟨t,q⟩:=(show ∃t,u=Value.int i t from rx);cases q;exact PySem.W.kia_one PySem.W.kitx_int I.kIn True.intro e (fun z=>nomatch z) h
 |str y=>obtain ⟨t,q⟩:=(show ∃t,u=Value.str y t from rx);cases q;exact PySem.W.kia_one PySem.W.kitx_str I.kIn True.intro e (fun z=>nomatch z) h
 |flt y=>obtain ⟨t,q⟩:=(show ∃t,u=Value.float y t from rx);cases q;exact PySem.W.kia_one PySem.W.kitx_float I.kIn True.intro e (fun z=>nomatch z) h
 | @lst a xs ea=>
  cases (show u=Value.ref a from rx)
  obtain ⟨_,_,n,_,h1⟩:=(show ObjOk X.prog X.w H s.heap a (.lst xs) from I.hok a _ ea)
  exact PySem.W.kia_one PySem.W.kitx_list I.kIn ⟨_,h1,rfl⟩ e (fun z=>nomatch z) h
 | @frz a ob xs ea=>
  cases (show u=Value.ref a from rx)
  obtain ⟨_,_,_,n,_,h1⟩:=(show ObjOk X.prog X.w H s.heap a (.frz ob (.lst xs)) from I.hok a _ ea)
  exact PySem.W.kia_one PySem.W.kitx_list I.kIn ⟨_,h1,rfl⟩ e (fun z=>nomatch z) h
 | @tup a xs ea=>
  cases (show u=Value.ref a from rx)
  obtain ⟨_,_,_,p⟩:=(show ObjOk X.prog X.w H s.heap a (.tup xs) from I.hok a _ ea)
  obtain ⟨o,h1,h2,_⟩:=p
  exact PySem.W.kia_one PySem.W.kitx_tuple I.kIn ⟨o,h1,h2⟩ e (fun z=>nomatch z) h
 | @dK a kvs ea=>
  cases (show u=Value.ref a from rx)
  obtain ⟨_,_,vs,_,p⟩:=(show ObjOk X.prog X.w H s.heap a (.dK kvs) from I.hok a _ ea)
  obtain ⟨o,es,ep,h1,h2,_⟩:=p
  exact PySem.W.kia_one PySem.W.kitx_dict I.kIn ⟨o,h1,h2.1⟩ e (fun z=>nomatch z) h
 | @dT a kvs ea=>
  cases (show u=Value.ref a from rx)
  obtain ⟨_,_,xs,_,o,es,ep,h1,h2,_⟩:=(show ObjOk X.prog X.w H s.heap a (.dT kvs) from I.hok a _ ea)
  exact PySem.W.kia_one PySem.W.kitx_dict I.kIn ⟨o,h1,h2.1⟩ e (fun z=>nomatch z) h
 | @ins a C dx fs ea cl ha hn htk hm=>
  cases (show u=Value.ref a from rx)
  obtain ⟨mA,O,_⟩:=ins_get I.hok ea
  obtain ⟨od,J,_⟩:=O.look
  exact PySem.W.kia_one (PySem.W.kitx_own (cl.get _) cl.hd ha hn htk hm) I.kIn J e (fun z=>nomatch z) h
end
end L2
namespace L2
open PySem PySem.Spec PyProof.Rows
structure Room (k:Nat) (A:Around):Prop where
 hd:A.handled=none
 dp:A.depth+3 * k+5<recursionLimit
 un:A.units+16 * k+200<cLine
 gd:A.guards=some []
theorem Room.mono {j k:Nat} {A:Around} (r:Room k A) (h:j≤k):Room j A:=⟨r.hd,by have:=r.dp;omega,by have:=r.un;omega,r.gd⟩
theorem Room.deeper {k:Nat} {A:Around} (r:Room (k+1) A) (env:Env):Room k (A.deeper env):=
 ⟨r.hd,by have:=r.dp;show A.depth+1+3 * k+5<_;omega,by have:=r.un;show A.units+3+16 * k+200<_;omega,by show pushGuards [] A.guards=some [];rw [r.gd];rfl⟩
theorem make_depth {A:Around} {C:Addr} {us:List Value} {kw:List (Str×Value)}:(A.under (.builtin "type.__call__" ⟨.ref C::us,kw⟩)).depth=A.depth+1:=by
 first|rfl|simp [Around.under,Code.weight,Code.isCreation,Code.isGuard,Code.isCaller,Code.frames,Code.isFrame,guardIds]
theorem make_units {A:Around} {C:Addr} {us:List Value} {kw:List (Str×Value)}:(A.under (.builtin "type.__call__" ⟨.ref C::us,kw⟩)).units=A.units+1:=by
 first|rfl|simp [Around.under,Code.cUnits,Code.frames,Code.isFrame]
theorem make_guards {A:Around} {C:Addr} {us:List Value} {kw:List (Str×Value)}:(A.under (.builtin "type.__call__" ⟨.ref C::us,kw⟩)).guards=A.guards:=by
 cases h:A.guards<;> simp [Around.under,Code.guards,Code.isGuard,guardIds,pushGuards,h]
theorem Room.make {k:Nat} {A:Around} (r:Room (k+1) A) (C:Addr) (us:List Value) (kw:List (Str×Value)):Room k (A.under (.builtin "type.__call__" ⟨.ref C::us,kw⟩)):=
 ⟨r.hd,by have:=r.dp;rw [make_depth];omega,by have:=r.un;rw [make_units];omega,by rw [make_guards];exact r.gd⟩
theorem Room.depth {k:Nat} {A:Around} (r:Room k A):A.depth<recursionLimit:=by have:=r.dp;omega
theorem Room.units {k:Nat} {A:Around} (r:Room k A):A.units+64<cLine:=by have:=r.un;omega
theorem Room.units0 {k:Nat} {A:Around} (r:Room k A):A.units<cLine:=by have:=r.un;omega
def tNil:TA:=fun _ H Q=>Q [] H
def tCons (ta:TE) (tr:TA):TA:=fun σ H Q=>ta σ H fun x H1=>tr σ H1 fun xs H2=>Q (x::xs) H2
section
variable {X:Cx} {e:Expr} {es:List Expr} {te:TE} {t:TA} {pos:Pos}
theorem Ad:PA X [] tNil:=fun _ _ _ _ H Q I h=>Calls.spliced_nil ⟨[],H,I,.nil,h⟩
theorem Aa (ha:PE X e te) (hr:PA X es t) (hs:starEach (e::es) X.env=(false,eval e X.env)::starEach es X.env:=by rfl):PA X (e::es) (tCons te t):=by
 intro pos pins s σ H Q I h
 rw [hs]
 show wpAny _ _ (spliced ((false,eval e X.env)::backTo pos (starEach es X.env))) _ _ s
 refine Calls.spliced_cons (thn (ha pins s σ H _ I h) fun u s1 ⟨x,H1,I1,r1,q1⟩=> ?_)
 exact thn (hr pos pins s1 σ H1 _ I1 q1) fun us s2 ⟨xs,H2,I2,r2,q2⟩=>⟨x::xs,H2,I2,.cons r1 r2,q2⟩
def tTup (t:TA):TE:=fun σ H Q=>t σ H fun xs H1=>xs.length≤sizeLine∧∀p,H1 p=none→Q (.ref p) (upd H1 p (.tup xs))
def tLst (t:TA):TE:=fun σ H Q=>t σ H fun xs H1=>xs.length≤sizeLine∧∀p,H1 p=none→Q (.ref p) (upd H1 p (.lst xs))
theorem Ba {x1} (h:PA X es t):PE X (.Tuple es x1 pos) (tTup t):=by
 intro pins s σ H Q I hq
 refine wpAny_Tuple_spliced (thn (h pos pins s σ H _ I hq) fun us s1 ⟨xs,H1,I1,r,z,q⟩=>⟨by rw [←r.length];exact z,?_⟩)
 have hf:H1 s1.heap.objs.size=none:=I1.hok.fresh (Nat.le_refl _)
 refine ⟨.ref s1.heap.objs.size,upd H1 s1.heap.objs.size (.tup xs),I1.laid (t':=s1.toks) (fun b u e=>Heap.get?_push_of_some _ e) (Nat.le_refl _) ?_,rfl,q _ hf⟩
 exact ⟨z,us,r,IsTupN.new _ _⟩
theorem Bh (h:PA X es t):PE X (.List es pos) (tLst t):=by
 intro pins s σ H Q I hq
 refine wpAny_List_spliced (thn (h pos pins s σ H _ I hq) fun us s1 ⟨xs,H1,I1,r,z,q⟩=>⟨by rw [←r.length];exact z,?_⟩)
 have hf:H1 s1.heap.objs.size=none:=I1.hok.fresh (Nat.le_refl _)
 refine ⟨.ref s1.heap.objs.size,upd H1 s1.heap.objs.size (.lst xs),I1.laid (t':=s1.toks) (fun b u e=>Heap.get?_push_of_some _ e) (Nat.le_refl _) ?_,rfl,q _ hf⟩
 exact ⟨z,us,0,r,Heap.get?_push_size _ rfl⟩
end
abbrev Sp:=List V→Hp→VK→XK→Prop
abbrev CXT:=List Env→Hp→Shared→XK→Value→Shared→Prop
structure Env0 (P:Program) (w:World) (K:PySem.W.Frag) (mg:Str→Option Value) (base:Heap) (A:Around) (outer:List Env) (s:Shared) (H:Hp):Prop where
 frames:A.frames=some outer
 mod:Mod K mg base
 bs:∀b o,base.get? b=some o→s.heap.get? b=some o∧H b=none
 bsz:base.objs.size≤s.heap.objs.size
 funs:s.heap.FunFrames base outer
 frf:∀b∈frs outer,H b=none
 hok:HOk P w H s.heap
 bare:AllBare s.gens
def CE (outer:List Env) (P:Program) (w:World) (H:Hp) (s:Shared) (Q:VK) (u:Value) (s':Shared):Prop:=
 ∃v H',s'.os=s.os∧AllBare s'.gens∧Un (frs outer) [] H H' s.heap s'.heap∧HOk P w H' s'.heap∧RelV v u∧Q v H'
def CR (CX:CXT) (outer:List Env) (P:Program) (w:World) (H:Hp) (s:Shared) (Q:VK) (E:XK) (r:Result) (s':Shared):Prop:=
 match r with
 | .ok (.ret u)=>CE outer P w H s Q u s'
 | .ok _=>False
 | .error e=>CX outer H s E e s'
structure FnOk (P:Program) (w:World) (K:PySem.W.Frag) (mg:Str→Option Value) (base:Heap) (CX:CXT) (k:Nat) (f:Addr) (fd:FuncData) (ps:List Str) (sp:Sp):Prop where
 len:∀vs H Q E,sp vs H Q E→vs.length=ps.length
 run:∀(A:Around) (outer:List Env) (s:Shared) (H:Hp) (args:Args) (us:List Value) (vs:List V) (Q:VK) (E:XK),Room k A→Env0 P w K mg base A outer s H→BindsTo s fd args (ps.zip us)→Vals vs us→sp vs H Q E→
  codeAny (model P w) A (.call (.ref f) args) (CR CX outer P w H s Q E) s
theorem FnOk.mono {P:Program} {w:World} {K:PySem.W.Frag} {mg:Str→Option Value} {base:Heap} {CX:CXT} {j k:Nat} {f:Addr} {fd:FuncData} {ps:List Str} {sp:Sp} (F:FnOk P w K mg base CX j f fd ps sp) (h:j≤k):
  FnOk P w K mg base CX k f fd ps sp:=⟨F.len,fun A outer s H args us vs Q E hr=>F.run A outer s H args us vs Q E (hr.mono h)⟩
theorem Env0.make {P:Program} {w:World} {K:PySem.W.Frag} {mg:Str→Option Value} {base:Heap} {A:Around} {outer:List Env} {s:Shared} {H:Hp} (e:Env0 P w K mg base A outer s H) (C:Addr) (us:List Value) (kw:List (Str×Value)):
  Env0 P w K mg base (A.under (.builtin "type.__call__" ⟨.ref C::us,kw⟩)) outer s H:=⟨by first|exact e.frames|(simpa [Around.under,Code.envs,Code.isFrame,pushEnvs] using e.frames),e.mod,e.bs,e.bsz,e.funs,e.frf,e.hok,e.bare⟩
section
variable {X:Cx} {pins:List (Addr×Obj)} {σ:St} {H:Hp} {s s':Shared}
theorem Inv.env0 (I:Inv X pins σ H s):Env0 X.prog X.w X.K X.mg X.base X.A X.stack s H:=
 ⟨I.ok.frames,I.ok.mod,I.bs,Nat.le_trans I.ok.bsz I.sz,I.stack,I.stkFree,I.hok,I.bare⟩
theorem Inv.after {Q:VK} {u:Value} (I:Inv X pins σ H s) (h:CE X.stack X.prog X.w H s Q u s'):EP X pins σ Q u s':=by
 obtain ⟨v,H',os,bare,un,hok,r,q⟩:=h
 obtain ⟨hh,g,d,t,os'⟩:=s'
 obtain rfl:os'=s.os:=os
 exact ⟨v,H',I.call (h':=hh) (g':=g) (d':=d) (t':=t) (ch:=[]) un hok bare (fun b z=>absurd z (by simp)),r,q⟩
end
def tCall (sp:Sp) (dvs:List V) (E:XK) (t:TA):TE:=fun σ H Q=>t σ H fun vs H1=>sp (vs++dvs) H1 Q E
def tMeth (C:Addr) (m:Str) (sp:Sp) (dvs:List V) (E:XK) (ta:TE) (t:TA):TE:=fun σ H Q=>ta σ H fun x H1=>∃a dx fs,x= .ref a∧H1 a=some (.ins C dx fs)∧fs.lookup m=none∧
 t σ H1 fun vs H2=>sp (x::(vs++dvs)) H2 Q E
def tMake (C:Addr) (sp:Sp) (dvs:List V) (E:XK) (t:TA):TE:=fun σ H Q=>t σ H fun vs H1=>∀x dx,H1 x=none→H1 dx=none→dx≠x→
 sp (.ref x::(vs++dvs)) (upd (upd H1 dx (.own x)) x (.ins C dx [])) (fun v H2=>v= .non∧Q (.ref x) H2) E
def Binds (K:PySem.W.Frag) (fd:FuncData) (ps:List Str) (ds:List Value):Prop:=
 ∀(s:Shared) (us:List Value),K.In s.heap→(us++ds).length=ps.length→BindsTo s fd ⟨us,[]⟩ (ps.zip (us++ds))
theorem Binds.all {K:PySem.W.Frag} {fd:FuncData} {ps:List Str} (h:∀us:List Value,us.length=ps.length→bindArgs fd ⟨us,[]⟩=pure (ps.zip us)):Binds K fd ps []:=fun s us _ hl=>by
 rw [List.append_nil] at hl ⊢
 exact .of_eq (h us hl)
def Passes (CX:CXT) (X:Cx) (E:XK):Prop:=∀(pins:List (Addr×Obj)) (σ:St) (H:Hp) (s:Shared) (e:Value) (s':Shared),Inv X pins σ H s→CX X.stack H s E e s'→X.xe e s'
section
variable {X:Cx} {CX:CXT} {k:Nat} {f C:Addr} {fd:FuncData} {ps:List Str} {sp:Sp} {dvs:List V} {ds:List Value} {E:XK} {x m:Str} {p pos apos:Pos} {e o:Expr} {es:List Expr} {ta:TE} {t:TA}
theorem run_fn {pins:List (Addr×Obj)} {σ:St} {H:Hp} {s:Shared} {Q:VK} {us:List Value} {vs:List V} (F:FnOk X.prog X.w X.K X.mg X.base CX k f fd ps sp) (hr:Room k X.A) (hb:Binds X.K fd ps ds) (hd:Vals dvs ds) (hx:Passes CX X E)
  (I:Inv X pins σ H s) (r:Vals vs us) (h:sp (vs++dvs) H Q E):wpAny (model X.prog X.w) X.A (call (.ref f) us) (EP X pins σ Q) X.xe s:=by
 have r2:Vals (vs++dvs) (us++ds):=r.append hd
 have hl:(us++ds).length=ps.length:=by rw [←r2.length];exact F.len _ _ _ _ h
 refine wpAny_call (codeAny_mono (F.run X.A X.stack s H ⟨us,[]⟩ (us++ds) (vs++dvs) Q E hr I.env0 (hb s us I.kIn hl) r2 h) fun r s' hq=> ?_)
 cases r with
 |error e=>exact hx pins σ H s e s' I hq
 |ok fl=>
  cases fl with
  |ret u=>exact I.after hq
  |next=>exact False.elim hq
  |brk=>exact False.elim hq
  |cont=>exact False.elim hq
theorem Al (F:FnOk X.prog X.w X.K X.mg X.base CX k f fd ps sp) (hr:Room k X.A) (hg:Gl X x) (hm:X.mg x=some (.ref f)) (hk:PySem.W.keepIn X.K (.ref f)=true) (hb:Binds X.K fd ps ds) (hd:Vals dvs ds) (hx:Passes CX X E)
  (ha:PA X (e::es) t) (hdb:(x==("__debug__":Str))=false:=by decide) (he:starEach (e::es) X.env=(false,eval e X.env)::starEach es X.env:=by rfl) (hpl:(backTo pos (starEach es X.env)).any (·.1)=false:=by rfl):
  PE X (.Call (.Name x p) (e::es) [] pos) (tCall sp dvs E t):=by
 intro pins s σ H Q I h
 refine wpAny_Call_Name_kw (ld_glob I hg hm ?_ hdb)
 refine PySem.W.callWith_K (h₀:=X.base) I.ok.mod.kin hk (thn (ha pos pins s σ H _ I h) fun us s1 ⟨vs,H1,I1,r,q⟩=>⟨I1.kIn,?_⟩) he hpl
 exact run_fn F hr hb hd hx I1 r q
theorem pe_meth {pl:Sem Bool} (he:PE X o ta) (c:Cls X.K C) (hm:Meth X.K C m f) (F:FnOk X.prog X.w X.K X.mg X.base CX k f fd ps sp) (hr:Room k X.A) (hb:Binds X.K fd ps ds) (hd:Vals dvs ds) (hx:Passes CX X E) (ha:PA X (e::es) t)
  (hst:starEach (e::es) X.env=(false,eval e X.env)::starEach es X.env:=by rfl) (hpl:(backTo pos (starEach es X.env)).any (·.1)=false:=by rfl)
  (ht:eval (.Call (.Attribute o m apos) (e::es) [] pos) X.env=(do
   let ov ←eval o X.env
   standAt apos.atName
   let (f,first) ←holding [ov] (getMethod ov m pl)
   callWith pos f first (backTo pos (starEach (e::es) X.env)) (backToKw pos (keywordEach [] X.env))):=by rfl):
  PE X (.Call (.Attribute o m apos) (e::es) [] pos) (tMeth C m sp dvs E ta t):=by
 intro pins s σ H Q I h
 refine PySem.W.methodCall_KW (pl:=pl) (thn (he pins s σ H _ I h) fun u s1 ⟨x,H1,I1,rx,a,dx,fs,ex,ea,l,q⟩=> ?_) ht
 subst ex
 obtain rfl:u=Value.ref a:=rx
 refine getmeth_ok I1 ea c hm l ?_
 refine PySem.W.callWith_K (first:=[.ref a]) (h₀:=X.base) I.ok.mod.kin hm.kp (thn (ha pos pins s1 σ H1 _ I1 q) fun us s2 ⟨vs,H2,I2,r,q2⟩=>⟨I2.kIn,?_⟩) hst hpl
 exact run_fn (us:= .ref a::us) (vs:= .ref a::vs) F hr hb hd hx I2 (.cons rfl r) q2
theorem Cz {pl:Sem Bool} (he:PE X o ta) (c:Cls X.K C) (hm:Meth X.K C m f) (F:FnOk X.prog X.w X.K X.mg X.base CX k f fd ps sp) (hr:Room k X.A) (hb:Binds X.K fd ps ds) (hd:Vals dvs ds) (hx:Passes CX X E)
  (ht:eval (.Call (.Attribute o m apos) [] [] pos) X.env=(do
   let ov ←eval o X.env
   standAt apos.atName
   let (f,first) ←holding [ov] (getMethod ov m pl)
   callWith pos f first (backTo pos (starEach [] X.env)) (backToKw pos (keywordEach [] X.env))):=by rfl):
  PE X (.Call (.Attribute o m apos) [] [] pos) (tMeth C m sp dvs E ta tNil):=by
 intro pins s σ H Q I h
 refine PySem.W.methodCall_KW (pl:=pl) (thn (he pins s σ H _ I h) fun u s1 ⟨x,H1,I1,rx,a,dx,fs,ex,ea,l,q⟩=> ?_) ht
 subst ex
 obtain rfl:u=Value.ref a:=rx
 refine getmeth_ok I1 ea c hm l ?_
 exact PySem.W.callWith_K0 (first:=[.ref a]) I1.kIn hm.kp (run_fn (us:=[.ref a]) (vs:=[.ref a]) F hr hb hd hx I1 (.cons rfl .nil) q)
structure Mk (K:PySem.W.Frag) (C f:Addr):Prop where
 makes:PySem.W.makesIn K C=true
 init:PySem.W.findIn K (.ref C) "__init__"=some (some (.ref f))
 fn:PySem.W.isFn K (.ref f)=true
 kp:PySem.W.keepIn K (.ref C)=true
theorem run_make {pins:List (Addr×Obj)} {σ:St} {H:Hp} {s:Shared} {Q:VK} {us:List Value} {vs:List V} (M:Mk X.K C f) (F:FnOk X.prog X.w X.K X.mg X.base CX k f fd ps sp) (hr:Room (k+1) X.A) (hb:Binds X.K fd ps ds) (hd:Vals dvs ds)
  (hx:Passes CX X E) (I:Inv X pins σ H s) (r:Vals vs us)
  (h:∀x dx,H x=none→H dx=none→dx≠x→sp (.ref x::(vs++dvs)) (upd (upd H dx (.own x)) x (.ins C dx [])) (fun v H2=>v= .non∧Q (.ref x) H2) E):
  wpAny (model X.prog X.w) X.A (call (.ref C) us) (EP X pins σ Q) X.xe s:=by
 have hq:=h (s.heap.objs.size+1) s.heap.objs.size (I.hok.fresh (Nat.le_succ _)) (I.hok.fresh (Nat.le_refl _)) (Nat.ne_of_lt (Nat.lt_succ_self _))
 have I2:=Inv.made (C:=C) I
 have r2:Vals (V.ref (s.heap.objs.size+1)::(vs++dvs)) (Value.ref (s.heap.objs.size+1)::(us++ds)):= .cons rfl (r.append hd)
 have hl:(Value.ref (s.heap.objs.size+1)::us++ds).length=ps.length:=by
  have e:=r2.length
  rw [F.len _ _ _ _ hq] at e
  exact e.symm
 refine wpAny_call (make_map (f:=f) I.kIn M.makes M.init (beq_iff_eq.mp M.fn) (codeAny_mono (F.run _ X.stack _ _ ⟨Value.ref (s.heap.objs.size+1)::us,[]⟩ (Value.ref (s.heap.objs.size+1)::(us++ds)) _ _ E (hr.make C us [])
  (I2.env0.make C us []) (hb _ (Value.ref (s.heap.objs.size+1)::us) I2.kIn hl) r2 hq) fun r s' hq'=> ?_))
 cases r with
 |error e=>exact hx pins σ _ _ e s' I2 hq'
 |ok fl=>
  cases fl with
  |ret u=>
   obtain ⟨v,H',I3,rv,ev,q3⟩:=I2.after hq'
   subst ev
   exact ⟨rv,⟨V.ref (s.heap.objs.size+1),H',I3,rfl,q3⟩⟩
  |next=>exact False.elim hq'
  |brk=>exact False.elim hq'
  |cont=>exact False.elim hq'
theorem pe_make (M:Mk X.K C f) (F:FnOk X.prog X.w X.K X.mg X.base CX k f fd ps sp) (hr:Room (k+1) X.A) (hg:Gl X x) (hm:X.mg x=some (.ref C)) (hb:Binds X.K fd ps ds) (hd:Vals dvs ds) (hx:Passes CX X E)
  (ha:PA X (e::es) t) (hdb:(x==("__debug__":Str))=false:=by decide) (he:starEach (e::es) X.env=(false,eval e X.env)::starEach es X.env:=by rfl) (hpl:(backTo pos (starEach es X.env)).any (·.1)=false:=by rfl):
  PE X (.Call (.Name x p) (e::es) [] pos) (tMake C sp dvs E t):=by
 intro pins s σ H Q I h
 refine wpAny_Call_Name_kw (ld_glob I hg hm ?_ hdb)
 refine PySem.W.callWith_K (h₀:=X.base) I.ok.mod.kin M.kp (thn (ha pos pins s σ H _ I h) fun us s1 ⟨vs,H1,I1,r,q⟩=>⟨I1.kIn,?_⟩) he hpl
 exact run_make M F hr hb hd hx I1 r q
end
section
variable {X:Cx} {CX:CXT} {k:Nat} {f C:Addr} {fd:FuncData} {ps ks:List Str} {sp:Sp} {E:XK} {x m:Str} {p pos apos kpos:Pos} {e o:Expr} {es:List Expr} {kws:List Keyword} {te ta:TE} {t tk:TA} {nm:Option Str}
variable {g:List Value→List Value→List Value} {gV:List V→List V→List V}
end
structure Ax (N P:List Str) (sc:Scope):Prop where
 kind:sc.kind= .function
 co:sc.isCoroutine=false
 gen:sc.isGenerator=false
 nd:N.Nodup
 pre:N.take P.length=P
 par:∀x∈P,sc.names.lookup x=some .local∨sc.names.lookup x=some .cell
 nofree:∀y∈sc.names,y.2≠ .free
theorem bindL_out {kindOf:Str→Option NameKind} {x:Str}:∀{binds:List (Str×Value)} {m:Str→Option Value},(∀v,(x,v) ∉ binds)→bindL kindOf binds m x=m x
 |[],_,_=>rfl
 |(n,v)::r,m,h=>by
  unfold bindL
  rw [bindL_out fun w hw=>h w (List.mem_cons_of_mem _ hw)]
  split
  ·have:x≠n:=by rintro rfl;exact h v List.mem_cons_self
   simp [this]
  ·rfl
theorem bindC_out {kindOf:Str→Option NameKind} {x:Str}:∀{binds:List (Str×Value)} {m:Str→Option Value},(∀v,(x,v) ∉ binds)→bindC kindOf binds m x=m x
 |[],_,_=>rfl
 |(n,v)::r,m,h=>by
  unfold bindC
  rw [bindC_out fun w hw=>h w (List.mem_cons_of_mem _ hw)]
  split
  ·rfl
  ·have:x≠n:=by rintro rfl;exact h v List.mem_cons_self
   simp [this]
theorem bindL_get {kindOf:Str→Option NameKind} {x:Str} {v:Value}:∀{P:List Str} {vs:List Value} {i:Nat} {m:Str→Option Value},P.Nodup→P[i]? =some x→vs[i]? =some v→kindOf x=some .local→
  bindL kindOf (P.zip vs) m x=some v
 |[],_,_,_,_,h,_,_=>by simp at h
 |_::_,[],_,_,_,_,h,_=>by simp at h
 |p::P,w::vs,0,m,nd,h1,h2,hk=>by
  simp at h1 h2;subst h1;subst h2
  show bindL kindOf ((p,w)::P.zip vs) m p=_
  unfold bindL
  rw [bindL_out fun v hv=>(List.nodup_cons.mp nd).1 (List.of_mem_zip hv).1,if_pos hk]
  simp
 |p::P,w::vs,i+1,m,nd,h1,h2,hk=>by
  show bindL kindOf ((p,w)::P.zip vs) m x=_
  unfold bindL
  exact bindL_get (i:=i) (List.nodup_cons.mp nd).2 (by simpa using h1) (by simpa using h2) hk
theorem bindC_get {kindOf:Str→Option NameKind} {x:Str} {v:Value}:∀{P:List Str} {vs:List Value} {i:Nat} {m:Str→Option Value},P.Nodup→P[i]? =some x→vs[i]? =some v→kindOf x≠some .local→
  bindC kindOf (P.zip vs) m x=some v
 |[],_,_,_,_,h,_,_=>by simp at h
 |_::_,[],_,_,_,_,h,_=>by simp at h
 |p::P,w::vs,0,m,nd,h1,h2,hk=>by
  simp at h1 h2;subst h1;subst h2
  show bindC kindOf ((p,w)::P.zip vs) m p=_
  unfold bindC
  rw [bindC_out fun v hv=>(List.nodup_cons.mp nd).1 (List.of_mem_zip hv).1,if_neg hk]
  simp
 |p::P,w::vs,i+1,m,nd,h1,h2,hk=>by
  show bindC kindOf ((p,w)::P.zip vs) m x=_
  unfold bindC
  exact bindC_get (i:=i) (List.nodup_cons.mp nd).2 (by simpa using h1) (by simpa using h2) hk
def start (N:List Str) (vs:List V):St:=vs.map some++List.replicate (N.length - vs.length) none
def cxOf (CX:CXT) (P:Program) (w:World) (K:PySem.W.Frag) (mg:Str→Option Value) (base:Heap) (N:List Str) (qual:Str) (scope:Scope) (f:Addr) (cd:Value) (A:Around) (outer:List Env) (s:Shared) (H:Hp) (E:XK):Cx where
 prog:=P
 w:=w
 K:=K
 mg:=mg
 base:=base
 A:=A.deeper (envOfC qual scope s.heap.objs.size f cd)
 N:=N
 s₀:=s
 H₀:=H
 env:=envOfC qual scope s.heap.objs.size f cd
 outer:=outer
 stack:=envOfC qual scope s.heap.objs.size f cd::outer
 ex:=[]
 calm:=true
 fn:=fun _=>true
 pn:=[]
 xe:=fun e s'=>wpAny (model P w) (A.deeper (envOfC qual scope s.heap.objs.size f cd)) (leaving (envOfC qual scope s.heap.objs.size f cd) e) (fun _ s''=>CX outer H s E e s'') (fun e' s''=>CX outer H s E e' s'') s'
theorem cell_has {sc:Scope} {n:Nat} {x:Str} (h:sc.names.lookup x=some .cell):∃c,(cellsFrom n sc.names []).lookup x=some c:=by
 have q:=PySem.W.cellsFrom_some sc.names n [] (.inl h)
 exact Option.isSome_iff_exists.mp q
theorem inv_start {CX:CXT} {P:Program} {w:World} {K:PySem.W.Frag} {mg:Str→Option Value} {base:Heap} {N ps:List Str} {qual:Str} {scope:Scope} {f:Addr} {cd:Value} {A:Around} {outer:List Env} {s s1:Shared} {H:Hp} {E:XK} {us:List Value} {vs:List V}
  (S:Ax N ps scope) (hd:A.handled=none) (e0:Env0 P w K mg base A outer s H) (hl:vs.length=ps.length) (r:Vals vs us)
  (x:InCallC s s.heap.objs.size (bindL (envOfC qual scope s.heap.objs.size f cd).kindOf (ps.zip us) fun _=>none) (cellsFrom (s.heap.objs.size+1) scope.names []) (bindC (envOfC qual scope s.heap.objs.size f cd).kindOf (ps.zip us) fun _=>none) s1):
  Inv (cxOf CX P w K mg base N qual scope f cd A outer s H E) [] (start N vs) H s1:=by
 have hpl:ps.length≤N.length:=by have:=congrArg List.length S.pre;rw [List.length_take] at this;omega
 obtain ⟨h1,tk,rfl,hk⟩:=x.done
 have noA:∀b:Addr,b ∉ (cxOf CX P w K mg base N qual scope f cd A outer s H E).ex:=fun b z=>absurd (show b∈([]:List Addr) from z) (by simp)
 refine ⟨⟨e0.mod,S.kind,rfl,rfl,Nat.le_refl _,fun y z c h1 h2=> ?_,fun y hy=> ?_,fun y c _ h=> ?_,fun _=>hd,Around.frames_deeper e0.frames,.inr ⟨rfl,rfl⟩,fun b z=>absurd z (noA b),e0.bs,e0.bsz,fun b _ _=>noA b,fun b z=>absurd z (noA b),e0.funs,e0.frf⟩,
  rfl,e0.bare,Un.kept hk,⟨_,x.toInCall.ns,fun i y v h1 h2 h3=> ?_⟩,fun y c h=>⟨_,x.cell y c h⟩,e0.hok.fresh (Nat.le_refl _),fun y c h=> ?_,fun p hp=>absurd (show p∈([]:List (Addr×Obj)) from hp) (by simp),e0.hok.kept hk,?_⟩
 ·exact name_of_addr x.apart (PySem.mem_of_lookup h1) (PySem.mem_of_lookup h2)
 ·have hy:scope.names.lookup y=some .cell∨scope.names.lookup y=some .free:=hy
  rcases hy with hy|hy
  ·exact cell_has hy
  ·exact absurd rfl (S.nofree _ (PySem.mem_of_lookup hy))
 ·exact Nat.le_of_lt (x.above y c (PySem.mem_of_lookup h))
 ·have hi:i<vs.length:=by
   unfold start at h2
   by_cases hi:i<vs.length
   ·exact hi
   ·rw [List.getElem?_append_right (by simpa using hi)] at h2
    rw [List.getElem?_replicate] at h2
    split at h2<;> cases h2
  have ha:vs[i]? =some v:=by
   unfold start at h2
   rw [List.getElem?_append_left (by simpa using hi),List.getElem?_map] at h2
   cases e:vs[i]? with
   |none=>rw [e] at h2;cases h2
   |some a=>rw [e] at h2;cases h2;rfl
  obtain ⟨u,hu,rv⟩:=r.get ha
  have hp:ps[i]? =some y:=by
   rw [←S.pre,List.getElem?_take_of_lt (by omega)];exact h1
  have ndP:ps.Nodup:=by rw [←S.pre];exact S.nd.sublist (List.take_sublist _ _)
  refine ⟨u,rv,?_⟩
  rcases S.par y (List.mem_of_getElem? hp) with k|k
  ·exact .inl ⟨k,bindL_get ndP hp hu k⟩
  ·obtain ⟨c,e⟩:=cell_has (n:=s.heap.objs.size+1) k
   refine .inr ⟨.inl k,c,e,?_⟩
   have q:=x.cell y c e
   rw [bindC_get ndP hp hu (by show scope.names.lookup y≠_;rw [k];decide)] at q
   exact q
 ·exact e0.hok.fresh (Nat.le_of_lt (x.above y c (PySem.mem_of_lookup h)))
 ·unfold start
  show _=N.length
  rw [List.length_append,List.length_map,List.length_replicate]
  omega
theorem fn_of {CX:CXT} {P:Program} {w:World} {K:PySem.W.Frag} {mg:Str→Option Value} {base:Heap} {k:Nat} {f:Addr} {name qual:Str} {params:Arguments} {body:List Stmt} {scope:Scope} {dV kV doc pm cdv ct oc:Value} {an od:Option Addr}
  {osl:Array (Option Value)} {N ps:List Str} {sp:Sp} (lk:K.lookup f=some ⟨oc,od,.func (PySem.W.fnOf name qual params body scope dV kV doc pm an cdv ct),osl⟩) (hcd:PySem.W.codeIn K cdv qual=true) (S:Ax N ps scope)
  (len:∀vs H Q E,sp vs H Q E→vs.length=ps.length)
  (hbody:∀(A:Around) (outer:List Env) (s:Shared) (H:Hp) (vs:List V) (Q:VK) (E:XK),Room k (A.deeper (envOfC qual scope s.heap.objs.size f cdv))→sp vs H Q E→
   ∃t,PSs (cxOf CX P w K mg base N qual scope f cdv A outer s H E) body t∧t {nx:=fun _ H'=>Q .non H',rt:=Q} (start N vs) H):
  FnOk P w K mg base CX (k+1) f (PySem.W.fnOf name qual params body scope dV kV doc pm an cdv ct) ps sp:=by
 refine ⟨len,fun A outer s H args us vs Q E hr e0 hb r hsp=> ?_⟩
 have hl:=len _ _ _ _ hsp
 have KX:K.In s.heap:=e0.mod.kin.keeps fun b o e=>(e0.bs b o e).1
 have lim:s.heap.NoLimit:=e0.mod.nolimit.keeps fun b o e=>(e0.bs b o e).1
 have hkind:∀y∈ps.zip us,scope.names.lookup y.1=some .local∨(scope.names.lookup y.1=some .cell∧((cellsFrom (s.heap.objs.size+1) scope.names []).lookup y.1).isSome=true):=fun ⟨n,v⟩ hy=>by
  rcases S.par n (List.of_mem_zip hy).1 with q|q
  ·exact .inl q
  ·exact .inr ⟨q,PySem.W.cellsFrom_some _ _ _ (.inl q)⟩
 refine codeAny_call_function hr.depth (KX _ _ lk) rfl S.co S.gen rfl (PySem.W.codeRec_of KX hcd) (hb _ _ _ _ ?_)
 refine wpAny_newFunctionEnv_cells S.kind hkind fun env he s1 x=> ?_
 subst he
 refine ⟨lim.keeps x.toInCall.keep,codeAny_func ?_⟩
 obtain ⟨t,ht,hq⟩:=hbody A outer s H vs Q E (hr.deeper _) hsp
 have I:Inv (cxOf CX P w K mg base N qual scope f cdv A outer s H E) [] (start N vs) H s1:=inv_start S hr.hd e0 hl r x
 refine wpAny_mono (ht [] s1 (start N vs) H _ I hq) (fun fl s' hs=> ?_) fun e s' hs=>hs
 have fin:∀{σ':St} {H':Hp} {v:V} {u:Value},Inv (cxOf CX P w K mg base N qual scope f cdv A outer s H E) [] σ' H' s'→RelV v u→Q v H'→CE outer P w H s Q u s':=
  fun {σ' H' v u} J rv q=>⟨v,H',J.os,J.bare,J.base,J.hok,rv,q⟩
 cases fl with
 |ret u=>
  obtain ⟨v,σ',H',J,rv,q⟩:=hs
  exact fin J rv q
 |next=>
  obtain ⟨σ',H',J,q⟩:=hs
  exact fin (v:=V.non) (u:=Value.none) J rfl q
 |brk=>
  obtain ⟨_,_,_,q⟩:=hs
  exact False.elim q
 |cont=>
  obtain ⟨_,_,_,q⟩:=hs
  exact False.elim q
end L2
namespace L2
open PySem PySem.Spec PyProof.Rows
section
variable {X:Cx} {x:Str} {p pos:Pos} {e:Expr} {es:List Expr} {t:TA} {id T:String} {r:List V→Hp→VK→Prop}
def tCB (r:List V→Hp→VK→Prop) (t:TA):TE:=fun σ H Q=>t σ H fun vs H1=>r vs H1 Q
theorem A8 (hc:CallR X (.builtin id) r) (hg:Gl X x) (hm:X.mg x=none) (hv:bootBuiltins x=some (.builtin id)) (ha:PA X (e::es) t) (hn:x≠"__name__":=by decide) (hdb:(x==("__debug__":Str))=false:=by decide)
  (he:starEach (e::es) X.env=(false,eval e X.env)::starEach es X.env:=by rfl) (hpl:(backTo pos (starEach es X.env)).any (·.1)=false:=by rfl):PE X (.Call (.Name x p) (e::es) [] pos) (tCB r t):=by
 intro pins s σ H Q I h
 refine wpAny_Call_Name_kw (ld_blt I hg hm hv ?_ hn hdb)
 exact PyProof.Rows.callWith_builtin1 (thn (ha pos pins s σ H _ I h) fun us s1 ⟨vs,H1,I1,r1,q1⟩=>hc pins s1 σ H1 vs us Q I1 r1 q1) he hpl
theorem Be (hc:CallR X (.type T) r) (hg:Gl X x) (hm:X.mg x=none) (hv:bootBuiltins x=some (.type T)) (ha:PA X (e::es) t) (hn:x≠"__name__":=by decide) (hdb:(x==("__debug__":Str))=false:=by decide)
  (he:starEach (e::es) X.env=(false,eval e X.env)::starEach es X.env:=by rfl) (hpl:(backTo pos (starEach es X.env)).any (·.1)=false:=by rfl):PE X (.Call (.Name x p) (e::es) [] pos) (tCB r t):=by
 intro pins s σ H Q I h
 refine wpAny_Call_Name_kw (ld_blt I hg hm hv ?_ hn hdb)
 exact PyProof.Rows.callWith_type1 (thn (ha pos pins s σ H _ I h) fun us s1 ⟨vs,H1,I1,r1,q1⟩=>hc pins s1 σ H1 vs us Q I1 r1 q1) he hpl
end
end L2
namespace HT
open PySem PyProof.Rows
section
open PySem.SeqAt
open PySem.AutoSeq1 (wpAny_loadPart')
open PySem.MeetsSeq PySem.MeetsSeq2 PySem.MeetsSeq3
end
section
variable {prog:Program} {w:World} {A:Around} {E:Value→Shared→Prop} {s:Shared}
theorem cat_tup {t b:Addr} {vs ws:List Value} {Q:Value→Shared→Prop} (ht:IsTup s.heap t vs.toArray) (hb:IsTup s.heap b ws.toArray) (hv:vs≠[])
  (h1:ws=[]→Q (.ref t) s) (h2:ws≠[]→Q (.ref s.heap.objs.size) {s with heap:=s.heap.push {cls:= .type "tuple",data:= .seq (vs++ws).toArray}})
  (hsz:vs.length+ws.length≤sizeLine):wpAny (model prog w) A (binaryOp .Add (.ref t) (.ref b)) Q E s:=by
 obtain ⟨⟨cls,dd,data,sl⟩,ho,hc,n,hd⟩:=id ht
 obtain ⟨⟨cls2,dd2,data2,sl2⟩,ho2,hc2,n2,hd2⟩:=id hb
 simp only at hc hd hc2 hd2
 subst hc hd hc2 hd2
 have e:vs.toArray++ws.toArray=(vs++ws).toArray:=by simp
 by_cases hw:ws=[]
 ·exact concat_meets ⟨_,ho,rfl⟩ ⟨_,ho2,rfl⟩ noFill_tuple_add seq_tuple_add PySem.F.slot_tuple_add PySem.F.entry_tuple_add (PySem.F.args_tuple_add_2 _ _)
   (tuple_addW1 t b vs.toArray ws.toArray n n2 dd dd2 sl sl2 (by simpa using hv) (by simp [hw])) ⟨ho,ho2,h1 hw⟩
 ·refine concat_meets ⟨_,ho,rfl⟩ ⟨_,ho2,rfl⟩ noFill_tuple_add seq_tuple_add PySem.F.slot_tuple_add PySem.F.entry_tuple_add (PySem.F.args_tuple_add_2 _ _)
   (tuple_addW2 t b vs.toArray ws.toArray n n2 dd dd2 sl sl2 (by simpa using hv) (by simpa using hw) (by rw [List.size_toArray,List.size_toArray];exact hsz)) ⟨ho,ho2,?_⟩
  rw [e]
  exact h2 hw
def sIx (n d:Nat):Option Int→Nat
 |none=>d
 |some v=>if v<0 then (v+(n:Int)).toNat else min v.toNat n
theorem sIx_none (n d:Nat):sIx n d none=d:=rfl
theorem sIx_nat (n d k:Nat):sIx n d (some (k:Int))=min k n:=by
 show (if (k:Int)<0 then ((k:Int)+(n:Int)).toNat else min (k:Int).toNat n)=min k n
 rw [if_neg (by omega),Int.toNat_natCast]
theorem sIx_le (n d:Nat) (hd:d≤n) (o:Option Int):sIx n d o≤n:=by
 cases o with
 |none=>exact hd
 |some v=>
  show (if v<0 then (v+(n:Int)).toNat else min v.toNat n)≤n
  by_cases hv:v<0
  ·rw [if_pos hv];omega
  ·rw [if_neg hv];exact Nat.min_le_right _ _
theorem clip_eq (v:Int) (n d:Nat):(if v<0 then max (v+(n:Int)) 0 else min v (n:Int))=((sIx n d (some v):Nat):Int):=by
 show (if v<0 then max (v+(n:Int)) 0 else min v (n:Int))=(((if v<0 then (v+(n:Int)).toNat else min v.toNat n):Nat):Int)
 by_cases hv:v<0
 ·simp only [if_pos hv];omega
 ·simp only [if_neg hv];omega
theorem adjust_gen (lo hi:Option Int) (n:Nat):Builtin.Slice.sliceAdjust lo hi 1 (n:Int)=(((sIx n 0 lo:Nat):Int),((sIx n n hi:Nat):Int)):=by
 have h1:¬((1:Int)<0):=by decide
 unfold Builtin.Slice.sliceAdjust
 simp only [h1,if_false]
 refine Prod.ext ?_ ?_
 ·cases lo with
  |none=>rfl
  |some v=>exact clip_eq v n 0
 ·cases hi with
  |none=>rfl
  |some v=>exact clip_eq v n n
theorem places_gen (i j:Nat):Builtin.Slice.slicePlaces (i:Int) (j:Int) 1=j - i:=by
 unfold Builtin.Slice.slicePlaces
 have h1:(1:Int) > 0:=by decide
 simp only [h1,if_true,Int.ediv_one]
 split<;> omega
theorem slicePart_ {v:Value} {o:Option Int} {Q:Option Int→Shared→Prop} (p:IsPart v o) (h:Q o s):wpAny (model prog w) A (Builtin.Slice.slicePartIndex v) Q E s:=by
 cases p with
 |none=>exact slicePart_none h
 |int i t=>exact slicePart_int h
theorem sliceApplied_gen {sl:Addr} {vl vu:Value} {lo hi:Option Int} {n:Nat} {Q:Int×Int×Nat→Shared→Prop} (hs:s.heap.IsSliceOf sl vl vu .none) (pl:IsPart vl lo) (pu:IsPart vu hi)
  (h:Q (((sIx n 0 lo:Nat):Int),1,sIx n n hi - sIx n 0 lo) s):wpAny (model prog w) A (Builtin.Slice.sliceApplied (.ref sl) (pure (n:Int))) Q E s:=by
 obtain ⟨os,hos,hcs,hds⟩:=id hs
 unfold Builtin.Slice.sliceApplied Builtin.Slice.sliceFields
 refine wpAny_bind (wpAny_bind (wpAny_field hos hds (x:=vl) rfl (wpAny_bind (wpAny_field hos hds (x:=vu) rfl (wpAny_bind (wpAny_field hos hds (x:= .none) rfl (wpAny_pure ?_)))))))
 refine wpAny_bind (slicePart_none ?_)
 show wpAny _ _ (if ((1:Int)==0)=true then _ else _) _ _ s
 rw [if_neg (by decide)]
 refine wpAny_bind (slicePart_ pl (wpAny_bind (slicePart_ pu (wpAny_bind (wpAny_pure ?_)))))
 show wpAny _ _ (match Builtin.Slice.sliceAdjust lo hi 1 (n:Int) with|(lo,hi)=>pure (lo,(1:Int),Builtin.Slice.slicePlaces lo hi 1)) _ _ s
 rw [adjust_gen lo hi n]
 show wpAny _ _ (pure (((sIx n 0 lo:Nat):Int),(1:Int),Builtin.Slice.slicePlaces ((sIx n 0 lo:Nat):Int) ((sIx n n hi:Nat):Int) 1)) _ _ s
 rw [places_gen]
 exact wpAny_pure h
theorem pick_gen (xs:Array Value) (i k:Nat):((List.range k).filterMap fun (m:Nat)=>xs[((i:Int)+(m:Int) * 1).toNat]?).toArray=((xs.toList.drop i).take k).toArray:=by
 have e:(fun (m:Nat)=>xs[((i:Int)+(m:Int) * 1).toNat]?)=fun m=>xs[i+m]? :=by
  funext m
  have:((i:Int)+(m:Int) * 1).toNat=i+m:=by omega
  rw [this]
 rw [e]
 have:=pick_run xs i k
 rw [List.filterMap_map] at this
 have e2:((fun x=>xs[x]?)∘fun x=>i+x)=fun m=>xs[i+m]? :=rfl
 rw [e2] at this
 rw [this]
theorem getItem_tuple_cut {t sl:Addr} {items:Array Value} {vl vu:Value} {lo hi:Option Int} {Q:Value→Shared→Prop} (ht:IsTup s.heap t items) (hs:s.heap.IsSliceOf sl vl vu .none) (pl:IsPart vl lo) (pu:IsPart vu hi)
  (hw:¬(sIx items.size 0 lo=0∧sIx items.size items.size hi=items.size))
  (h:Q (.ref s.heap.objs.size) {s with heap:=s.heap.push {cls:= .type "tuple",data:= .seq ((items.toList.drop (sIx items.size 0 lo)).take (sIx items.size items.size hi - sIx items.size 0 lo)).toArray}})
  (hsz:items.size≤sizeLine):wpAny (model prog w) A (getItem (.ref t) (.ref sl)) Q E s:=by
 have htake:sizeOk (.seq ((items.toList.drop (sIx items.size 0 lo)).take (sIx items.size items.size hi - sIx items.size 0 lo)).toArray):=by
  show ((items.toList.drop (sIx items.size 0 lo)).take (sIx items.size items.size hi - sIx items.size 0 lo)).toArray.size≤sizeLine
  rw [List.size_toArray,List.length_take,List.length_drop,Array.length_toList]
  omega
 have hj:sIx items.size items.size hi≤items.size:=sIx_le _ _ (Nat.le_refl _) hi
 obtain ⟨os,hos,hcs,hds⟩:=id hs
 have hTs:s.TypeIs (.ref sl) "slice":=⟨os,hos,hcs⟩
 unfold getItem
 try with_reducible refine wpAny_holding ?_
 first|refine wpAny_bind (wpAny_pure ?_)|skip
 refine wpAny_bind (wpAny_sequenceKey ht.typeIs (by decide) ?_)
 refine wpAny_bind (wpAny_callSpecial?_slot (name:=Str.ofString "__getitem__") ht.typeIs PyProof.Rows.slot_tuple_getitem
  (wpAny_call_entry PyProof.Rows.slot_tuple_getitem ht.typeIs entry_tuple_getitem ?_ (args_tuple_getitem _ _)))
 show wpAny _ _ (Builtin.Tuple.tupleItemsOf (.ref t) >>=_) _ _ s
 refine wpAny_bind (tupleItemsOf_ ht ?_)
 refine wpAny_bind (wpAny_typeOf hTs ?_)
 rw [if_pos (by decide)]
 refine wpAny_bind (sliceApplied_gen hs pl pu ?_)
 have hno:¬((((sIx items.size 0 lo:Nat):Int)==0 && (1:Int)==1 && (sIx items.size items.size hi - sIx items.size 0 lo)==items.size)=true):=by
  intro q
  rw [Bool.and_eq_true,Bool.and_eq_true] at q
  have q1:((sIx items.size 0 lo:Nat):Int)=0:=eq_of_beq q.1.1
  have q2:sIx items.size items.size hi - sIx items.size 0 lo=items.size:=eq_of_beq q.2
  exact hw ⟨by omega,by omega⟩
 show wpAny _ _ (if (((sIx items.size 0 lo:Nat):Int)==0 && (1:Int)==1 && (sIx items.size items.size hi - sIx items.size 0 lo)==items.size)=true then _ else _) _ _ s
 rw [if_neg hno,pick_gen]
 first
  |exact wpAny_bind (m:=Builtin.Tuple.tupleExact _) (wpAny_newObj_type (wpAny_pure ⟨_,rfl,wpAny_pure h⟩) htake)
  |exact wpAny_bind (m:=Builtin.Tuple.tupleExact _) (wpAny_newObj_type (wpAny_bind (wpAny_pure (wpAny_pure ⟨_,rfl,wpAny_pure h⟩))) htake)
  |exact wpAny_bind (wpAny_bind (m:=Builtin.Tuple.tupleExact _) (wpAny_newObj_type (wpAny_pure (wpAny_pure ⟨_,rfl,wpAny_pure h⟩)) htake))
  |exact wpAny_bind (wpAny_bind (m:=Builtin.Tuple.tupleExact _) (wpAny_newObj_type (wpAny_pure ⟨_,rfl,wpAny_pure h⟩) htake))
end
end HT
namespace L2
open PySem PySem.Spec PyProof.Rows
abbrev TO:=St→Hp→(Option Int→Hp→Prop)→Prop
def PO (X:Cx) (e:Option Expr) (t:TO):Prop:=
 ∀(pins:List (Addr×Obj)) (s:Shared) (σ:St) (H:Hp) (Q:Option Int→Hp→Prop),Inv X pins σ H s→t σ H Q→
  wpAny (model X.prog X.w) X.A (evalPart e X.env) (fun u s'=>∃o H',Inv X pins σ H' s'∧IsPart u o∧Q o H') X.xe s
def tNoPart:TO:=fun _ H Q=>Q none H
def tPart (t:TE):TO:=fun σ H Q=>t σ H fun x H1=>∃i,x= .int i∧Q (some i) H1
theorem intsAre_of {ns:List Int}:∀{us:List Value},Vals (ns.map V.int) us→IntsAre us ns:=by
 induction ns with
 |nil=>intro us r;rw [List.map_nil] at r;cases r;exact .nil
 |cons n ns ih=>
  intro us r
  rw [List.map_cons] at r
  cases r with
  |cons r1 r2=>
   obtain ⟨t,e⟩:=r1
   subst e
   exact .cons n t (ih r2)
section
variable {X:Cx} {e:Expr} {te:TE} {lo hi:Option Expr} {tl th:TO} {pos p2:Pos}
theorem Cj:PO X none tNoPart:=by
 intro pins s σ H Q I h
 rw [evalPart_none]
 exact wpAny_pure ⟨none,H,I,.none,h⟩
theorem Bv (h:PE X e te):PO X (some e) (tPart te):=by
 intro pins s σ H Q I hw
 rw [evalPart_some]
 refine thn (h pins s σ H _ I hw) fun u s1 ⟨x,H1,I1,r1,q1⟩=> ?_
 obtain ⟨i,rfl,q⟩:=q1
 obtain ⟨t,rfl⟩:=r1
 exact ⟨some i,H1,I1,.int i t,q⟩
def SlR (X:Cx) (r:V→Option Int→Option Int→Hp→VK→Prop):Prop:=
 ∀(pins:List (Addr×Obj)) (s:Shared) (σ:St) (H:Hp) (x:V) (v vl vu:Value) (lo hi:Option Int) (sl:Addr) (Q:VK),Inv X pins σ H s→RelV x v→s.heap.IsSliceOf sl vl vu .none→IsPart vl lo→IsPart vu hi→r x lo hi H Q→
  ∃T id,typeLookup (.type T) "__getitem__"=pure (some (.builtin id))∧s.TypeIs v T∧wpAny (model X.prog X.w) X.A (getItem v (.ref sl)) (EP X pins σ Q) X.xe s
def tSl (r:V→Option Int→Option Int→Hp→VK→Prop) (te:TE) (tl th:TO):TE:=fun σ H Q=>te σ H fun x H1=>tl σ H1 fun l H2=>th σ H2 fun u H3=>r x l u H3 Q
theorem Bs {r:V→Option Int→Option Int→Hp→VK→Prop} (hr:SlR X r) (he:PE X e te) (hl:PO X lo tl) (hu:PO X hi th):PE X (.Subscript e (.Slice lo hi none p2) pos) (tSl r te tl th):=by
 intro pins s σ H Q I h
 refine Subscript_ (thn (he pins s σ H _ I h) fun v s1 ⟨x,H1,I1,r1,q1⟩=> ?_)
 refine wpAny_Slice (thn (hl pins s1 σ H1 _ I1 q1) fun vl s2 ⟨l,H2,I2,pl,q2⟩=>thn (hu pins s2 σ H2 _ I2 q2) fun vu s3 ⟨u,H3,I3,pu,q3⟩=> ?_)
 rw [evalPart_none]
 refine wpAny_pure ?_
 have I4:Inv X pins σ H3 {s3 with heap:=s3.heap.push {cls:= .type "slice",data:= .fields #[vl,vu,.none]}}:=I3.kept (t':=s3.toks) fun b ob q=>Heap.get?_push_of_some _ q
 obtain ⟨T,id,hT,ht,hg⟩:=hr pins {s3 with heap:=s3.heap.push {cls:= .type "slice",data:= .fields #[vl,vu,.none]}} σ H3 x v vl vu l u s3.heap.objs.size Q I4 r1 (Heap.IsSliceOf.new ..) pl pu q3
 show wpAny (model X.prog X.w) X.A (subscriptTail e (.Slice lo hi none p2) v (.ref s3.heap.objs.size)) (EP X pins σ Q) X.xe {s3 with heap:=s3.heap.push {cls:= .type "slice",data:= .fields #[vl,vu,.none]}}
 exact tail_any (ops:=[.ref s3.heap.objs.size,v]) ht hT hg (by with_unfolding_all rfl)
def cutV (xs:List V) (lo hi:Option Int):List V:=(xs.drop (HT.sIx xs.length 0 lo)).take (HT.sIx xs.length xs.length hi - HT.sIx xs.length 0 lo)
theorem cutV_length (xs:List V) (lo hi:Option Int):(cutV xs lo hi).length≤xs.length:=by
 unfold cutV
 rw [List.length_take,List.length_drop]
 omega
inductive RSlTP (K:PySem.W.Frag) (x:V) (lo:Option Int) (hi:Option Int) (H:Hp) (Q:VK):Prop
 |mk (a xs:_):(x= .ref a)→(SqT K H a xs)→(¬(HT.sIx xs.length 0 lo=0∧HT.sIx xs.length xs.length hi=xs.length))→(∀p,H p=none→Q (.ref p) (upd H p (.tup (cutV xs lo hi))))→RSlTP K x lo hi H Q
def rSlT (K:PySem.W.Frag):V→Option Int→Option Int→Hp→VK→Prop:=fun x lo hi H Q=>RSlTP K x lo hi H Q
theorem sl_tup:SlR X (rSlT X.K):=by
 intro pins s σ H x v vl vu lo hi sl Q I rx hs pl pu h
 obtain ⟨a,xs,rfl,hx,hw,q⟩:=h
 cases rx
 obtain ⟨its,r,ht,hz⟩:=I.tuple hx
 have hlen:its.toArray.size=xs.length:=by rw [List.size_toArray];exact r.length.symm
 refine ⟨"tuple",_,PyProof.Rows.slot_tuple_getitem.lookup,ht.typeIs,?_⟩
 refine HT.getItem_tuple_cut ht hs pl pu (by rw [hlen];exact hw) ?_ (by rw [hlen];exact hz)
 rw [hlen]
 refine ⟨.ref s.heap.objs.size,_,I.laid (t':=s.toks) (o:= .tup (cutV xs lo hi)) (fun b ob q=>Heap.get?_push_of_some _ q) (Nat.le_refl _) ?_,rfl,q _ (I.hok.fresh (Nat.le_refl _))⟩
 exact ⟨Nat.le_trans (cutV_length xs lo hi) hz,_,(r.drop (HT.sIx xs.length 0 lo)).take (HT.sIx xs.length xs.length hi - HT.sIx xs.length 0 lo),IsTupN.new _ _⟩
theorem Vals.nil_iff {xs:List V} {us:List Value} (r:Vals xs us):us=[]↔xs=[]:=by
 cases r with
 |nil=>simp
 |cons _ _=>simp
end
end L2
namespace L2
open PySem PySem.Spec PyProof.Rows
def ixN (n:Nat) (i:Int):Option Nat:=if 0≤i then (if i<n then some i.toNat else none) else if -(n:Int)≤i then some (i+n).toNat else none
def atI {α:Type} (xs:List α) (i:Int):Option α:=(ixN xs.length i).bind fun j=>xs[j]?
theorem ixN_seq {n:Nat} {i:Int} {j:Nat} (h:ixN n i=some j):seqIndex? i n=some j∧j<n∧ -(n:Int)≤i∧i<n:=by
 unfold ixN at h
 by_cases h0:0≤i
 ·rw [if_pos h0] at h
  by_cases h1:i<n
  ·rw [if_pos h1] at h
   have e:i.toNat=j:=Option.some.inj h
   exact ⟨by rw [seqIndex_of h0 h1,e],by omega,by omega,h1⟩
  ·rw [if_neg h1] at h;cases h
 ·rw [if_neg h0] at h
  by_cases h1: -(n:Int)≤i
  ·rw [if_pos h1] at h
   have e:(i+n).toNat=j:=Option.some.inj h
   exact ⟨by rw [seqIndex_neg (by omega) h1,e],by omega,h1,by omega⟩
  ·rw [if_neg h1] at h;cases h
theorem atI_get {α:Type} {xs:List α} {i:Int} {v:α} (h:atI xs i=some v):∃j,seqIndex? i xs.length=some j∧xs[j]? =some v∧j<xs.length∧ -(xs.length:Int)≤i∧i<xs.length:=by
 unfold atI at h
 cases e:ixN xs.length i with
 |none=>rw [e] at h;cases h
 |some j=>
  rw [e] at h
  obtain ⟨h1,h2,h3,h4⟩:=ixN_seq e
  exact ⟨j,h1,h,h2,h3,h4⟩
theorem Am {α:Type} {xs:List α} {j:Nat} {v:α} (h:xs[j]? =some v):atI xs (j:Int)=some v:=by
 have hj:j<xs.length:=(List.getElem?_eq_some_iff.mp h).1
 have e:ixN xs.length (j:Int)=some j:=by
  unfold ixN
  rw [if_pos (by exact Int.natCast_nonneg _),if_pos (by omega)];simp
 unfold atI;rw [e];exact h
theorem atI_last {α:Type} (xs:List α) (v:α):atI (xs++[v]) (-1)=some v:=by
 have hl:(xs++[v]).length=xs.length+1:=by simp
 have e:ixN (xs++[v]).length (-1)=some xs.length:=by
  unfold ixN
  rw [hl,if_neg (by decide),if_pos (by omega)]
  congr 1
  omega
 unfold atI
 rw [e]
 show (xs++[v])[xs.length]? =some v
 simp
def PlainIx (b:Expr):Prop:=∀o i,subscripted b false o i=operate [o,i] (getItem o i)
def IxR (X:Cx) (r:R2):Prop:=
 ∀(value slice:Expr) (pins:List (Addr×Obj)) (s:Shared) (σ:St) (H:Hp) (x y:V) (v u:Value) (Q:VK),Inv X pins σ H s→RelV x v→RelV y u→r x y H Q→
  subscripted slice false v u=operate [v,u] (getItem v u)→wpAny (model X.prog X.w) X.A (subscriptTail value slice v u) (EP X pins σ Q) X.xe s
def MtR (X:Cx) (id:String) (r:V→List V→Hp→VK→Prop):Prop:=
 ∀(pins:List (Addr×Obj)) (s:Shared) (σ:St) (H:Hp) (x:V) (xs:List V) (v:Value) (us:List Value) (Q:VK),Inv X pins σ H s→RelV x v→Vals xs us→r x xs H Q→
  wpAny (model X.prog X.w) X.A (call (.builtin id) (v::us)) (EP X pins σ Q) X.xe s
section
variable {X:Cx} {a b:Expr} {ta tb:TE} {pos:Pos}
theorem Ap {r:R2} (hr:IxR X r) (ha:PE X a ta) (hb:PE X b tb) (hs:PlainIx b):PE X (.Subscript a b pos) (tOp r ta tb):=by
 intro pins s σ H Q I h
 exact Subscript_ (binT ha hb I h fun v u s2 x y H2 I2 rx ry q=>hr a b pins s2 σ H2 x y v u Q I2 rx ry q (hs _ _))
inductive RIxLP (K:PySem.W.Frag) (x:V) (y:V) (H:Hp) (Q:VK):Prop
 |mk (p xs i v:_):(x= .ref p)→(y= .int i)→(SqL K H p xs)→(atI xs i=some v)→(Q v H)→RIxLP K x y H Q
def rIxL (K:PySem.W.Frag):R2:=fun x y H Q=>RIxLP K x y H Q
inductive RIxTP (K:PySem.W.Frag) (x:V) (y:V) (H:Hp) (Q:VK):Prop
 |mk (p xs i v:_):(x= .ref p)→(y= .int i)→(SqT K H p xs)→(atI xs i=some v)→(Q v H)→RIxTP K x y H Q
def rIxT (K:PySem.W.Frag):R2:=fun x y H Q=>RIxTP K x y H Q
inductive RIxSP (x:V) (y:V) (H:Hp) (Q:VK):Prop
 |mk (z i c:_):(x= .str z)→(y= .int i)→(z.length≤sizeLine)→(atI z.cps.toList i=some c)→(Q (.str ⟨#[c]⟩) H)→RIxSP x y H Q
def rIxS:R2:=fun x y H Q=>RIxSP x y H Q
theorem Bb:IxR X (rIxL X.K):=by
 intro value slice pins s σ H x y v u Q I rx ry h hs
 obtain ⟨p,xs,i,z,rfl,rfl,hq,he,q⟩:=h
 cases rx
 obtain ⟨t,rfl⟩:=ry
 obtain ⟨its,r,pl,hz⟩:=I.list hq
 obtain ⟨j,h1,h2,h3,h4,h5⟩:=atI_get he
 obtain ⟨w,ew,rw'⟩:=r.get h2
 have hl:=r.length
 have hn:=line63
 have fin:EP X pins σ Q w s:=⟨z,H,I,rw',q⟩
 by_cases h0:0≤i
 ·have hj:i.toNat=j:=by
   rw [seqIndex_of h0 h5] at h1
   exact Option.some.inj h1
  exact item_listR pl.isList h0 (by omega) (by rw [hj];simpa using ew) fin hs
 ·have hj:(i+(its.toArray.size:Int)).toNat=j:=by
   rw [seqIndex_neg (by omega) h4] at h1
   rw [List.size_toArray,←hl]
   exact Option.some.inj h1
  exact subscriptTail_builtinR (x:=w) pl.isList.typeIs slot_list_getitem.lookup
   (wpAny_getItem_list_neg (Q:=fun r s'=>r=w∧EP X pins σ Q r s') pl.isList (by omega) (by rw [List.size_toArray]<;> omega) (by omega) (by rw [hj];simpa using ew) ⟨rfl,fin⟩) hs
theorem Az:IxR X (rIxT X.K):=by
 intro value slice pins s σ H x y v u Q I rx ry h hs
 obtain ⟨p,xs,i,z,rfl,rfl,hq,he,q⟩:=h
 cases rx
 obtain ⟨t,rfl⟩:=ry
 obtain ⟨its,r,pl,hz⟩:=I.tuple hq
 obtain ⟨j,h1,h2,h3,h4,h5⟩:=atI_get he
 obtain ⟨w,ew,rw'⟩:=r.get h2
 have hl:=r.length
 have hn:=line63
 have fin:EP X pins σ Q w s:=⟨z,H,I,rw',q⟩
 exact subscriptTail_builtinR (x:=w) pl.typeIs slot_tuple_getitem.lookup
  (getItem_tuple (j:=j) (Q:=fun r s'=>r=w∧EP X pins σ Q r s') pl (by omega) (by omega) (by rw [List.size_toArray,←hl];exact h1) (by simpa using ew) ⟨rfl,fin⟩) hs
theorem ix_str:IxR X rIxS:=by
 intro value slice pins s σ H x y v u Q I rx ry h hs
 obtain ⟨z,i,c,rfl,rfl,hz,he,q⟩:=h
 obtain ⟨t,rfl⟩:=rx
 obtain ⟨t',rfl⟩:=ry
 obtain ⟨j,h1,h2,h3,h4,h5⟩:=atI_get he
 have hl:z.cps.toList.length=z.length:=by simp [Str.length]
 rw [hl] at h1 h4 h5
 have hn:=line63
 exact tail_any (typeIs_str s z t) slot_str_getitem.lookup (getItem_str (c:=c) (by
  have e1:decide (i< -(2 ^ 63:Int))=false:=decide_eq_false (by omega)
  have e2:decide (i ≥ 2 ^ 63)=false:=decide_eq_false (by omega)
  rw [e1,e2,Bool.or_false]) (by rw [h1];simpa using h2) ⟨.str ⟨#[c]⟩,H,I.tok _,⟨_,rfl⟩,q⟩) hs
theorem mapSeq_set (its:List Value) (n j:Nat) (u:Value):Obj.mapSeq (·.setIfInBounds j u) {cls:= .type "list",data:= .seq its.toArray n}={cls:= .type "list",data:= .seq (its.set j u).toArray n}:=by
 simp [Obj.mapSeq]
theorem Inv.lst {pins:List (Addr×Obj)} {σ:St} {H:Hp} {s:Shared} {p:Addr} {xs:List V} (I:Inv X pins σ H s) (h:H p=some (.lst xs)):
  ∃(its:List Value) (n:Nat),Vals xs its∧s.heap.get? p=some {cls:= .type "list",data:= .seq its.toArray n}∧xs.length≤sizeLine:=by
 obtain ⟨z,its,n,r,e⟩:=I.hok p _ h
 exact ⟨its,n,r,e,z⟩
theorem Inv.lstUpd {pins:List (Addr×Obj)} {σ:St} {H:Hp} {s:Shared} {p:Addr} {xs ys:List V} {its its':List Value} {n n':Nat} {f:Obj→Obj} (I:Inv X pins σ H s) (h:H p=some (.lst xs))
  (ho:s.heap.get? p=some {cls:= .type "list",data:= .seq its.toArray n}) (hf:f {cls:= .type "list",data:= .seq its.toArray n}={cls:= .type "list",data:= .seq its'.toArray n'}) (r:Vals ys its') (hz:ys.length≤sizeLine) (t:Nat):
  Inv X pins σ (upd H p (.lst ys)) {s with heap:=s.heap.update p f,toks:=t}:=by
 have e:(s.heap.update p f).get? p=some {cls:= .type "list",data:= .seq its'.toArray n'}:=by
  rw [Heap.get?_update_self f ho (by rw [hf]<;> rfl),hf]
 refine I.write (x:=p) (e:=p) (by rw [h];trivial) (.inl rfl) (fun b u hb q=>(Heap.get?_update_other _ _ (Ne.symm hb)).trans q) ⟨_,e⟩ ?_
 exact ⟨hz,its',n',r,e⟩
inductive RSetLP (o:V) (i:V) (v:V) (H:Hp) (Q:(Hp→Prop)):Prop
 |mk (p xs k j:_):(o= .ref p)→(i= .int k)→(H p=some (.lst xs))→(ixN xs.length k=some j)→(Q (upd H p (.lst (xs.set j v))))→RSetLP o i v H Q
def rSetL:V→V→V→Hp→(Hp→Prop)→Prop:=fun o i v H Q=>RSetLP o i v H Q
theorem set_list:PSet X rSetL:=by
 intro pins s σ H o i v ov iv u Q I ro ri rv h
 obtain ⟨p,xs,k,j,rfl,rfl,hp,hj,q⟩:=h
 cases ro
 obtain ⟨t,rfl⟩:=ri
 obtain ⟨its,n,r,ho,hz⟩:=I.lst hp
 obtain ⟨h1,h2,h3,h4⟩:=ixN_seq hj
 have hl:=r.length
 have hn:=line63
 have I':Inv X pins σ (upd H p (.lst (xs.set j v))) {s with heap:=s.heap.update p (Obj.mapSeq (·.setIfInBounds j u))}:=
  I.lstUpd hp ho (mapSeq_set its n j u) (r.set rv j) (by rw [List.length_set];exact hz) s.toks
 by_cases h0:0≤k
 ·have hk:k.toNat=j:=by
   rw [seqIndex_of h0 h4] at h1
   exact Option.some.inj h1
  exact PySem.W.ki_setAt ho h0 (by omega) (by rw [List.size_toArray,←hl];exact h4) (by rw [hk];exact ⟨_,I',q⟩)
 ·have hk:(k+(its.toArray.size:Int)).toNat=j:=by
   rw [seqIndex_neg (by omega) h3] at h1
   rw [List.size_toArray,←hl]
   exact Option.some.inj h1
  exact PySem.W.ki_setBack ho (by omega) (by rw [List.size_toArray,←hl];exact h3) (by omega) (by rw [hk];exact ⟨_,I',q⟩)
theorem slice_bounds (lo hi:Option Int) (n:Nat):(sliceBounds lo hi none n).1=((HT.sIx n 0 lo:Nat):Int)∧(sliceBounds lo hi none n).2.1=((HT.sIx n n hi:Nat):Int)∧(sliceBounds lo hi none n).2.2=1:=by
 refine ⟨?_,?_,rfl⟩
 ·cases lo with
  |none=>simp [sliceBounds,HT.sIx]
  |some i=>
   simp only [sliceBounds,HT.sIx,Option.getD_none,show (1:Int) > 0 by decide,if_true]
   by_cases h:i<0
   ·simp only [h,if_true]<;> omega
   ·simp only [h,if_false]<;> omega
 ·cases hi with
  |none=>simp [sliceBounds,HT.sIx]
  |some i=>
   simp only [sliceBounds,HT.sIx,Option.getD_none,show (1:Int) > 0 by decide,if_true]
   by_cases h:i<0
   ·simp only [h,if_true]<;> omega
   ·simp only [h,if_false]<;> omega
theorem slicePick_cut (its:List Value) (lo hi:Option Int):slicePick its.toArray lo hi none=((its.drop (HT.sIx its.length 0 lo)).take (HT.sIx its.length its.length hi - HT.sIx its.length 0 lo)).toArray:=by
 obtain ⟨h1,h2,h3⟩:=slice_bounds lo hi its.toArray.size
 unfold slicePick
 rw [h1,h2,h3]
 simp only [sliceRange_one,pick_run,List.size_toArray]<;> rfl
inductive RSlLP (K:PySem.W.Frag) (x:V) (lo:Option Int) (hi:Option Int) (H:Hp) (Q:VK):Prop
 |mk (a xs:_):(x= .ref a)→(SqL K H a xs)→(∀p,H p=none→Q (.ref p) (upd H p (.lst (cutV xs lo hi))))→RSlLP K x lo hi H Q
def rSlL (K:PySem.W.Frag):V→Option Int→Option Int→Hp→VK→Prop:=fun x lo hi H Q=>RSlLP K x lo hi H Q
theorem sl_list:SlR X (rSlL X.K):=by
 intro pins s σ H x v vl vu lo hi sl Q I rx hs pl pu h
 obtain ⟨a,xs,rfl,hx,q⟩:=h
 cases rx
 obtain ⟨its,r,ht,hz⟩:=I.list hx
 have hlen:=r.length
 refine ⟨"list",_,slot_list_getitem.lookup,ht.isList.typeIs,?_⟩
 refine wpAny_getItem_list_slice ht.isList hs pl pu .none (by simp) ?_ (by rw [List.size_toArray]<;> omega)
 rw [slicePick_cut,←hlen]
 refine ⟨.ref s.heap.objs.size,_,I.laid (t':=s.toks) (o:= .lst (cutV xs lo hi)) (fun b ob q=>Heap.get?_push_of_some _ q) (Nat.le_refl _) ?_,rfl,q _ (I.hok.fresh (Nat.le_refl _))⟩
 exact ⟨Nat.le_trans (cutV_length xs lo hi) hz,_,0,(r.drop (HT.sIx xs.length 0 lo)).take (HT.sIx xs.length xs.length hi - HT.sIx xs.length 0 lo),Heap.get?_push_size _ rfl⟩
def flatV:V→Bool
 | .non=>true
 | .bl _=>true
 | .int _=>true
 | .str _=>true
 |_=>false
def eqV:V→V→Bool
 | .non,.non=>true
 | .bl a,.bl b=>a==b
 | .bl a,.int b=>(if a then 1 else 0)==b
 | .int a,.bl b=>a==(if b then 1 else 0)
 | .int a,.int b=>a==b
 | .str a,.str b=>a==b
 |_,_=>false
theorem eqAt_V {A:Around} {s:Shared} {y x:V} {u v:Value} (ry:RelV y u) (rx:RelV x v) (fy:flatV y=true) (fx:flatV x=true):SeqAt.EqAt A s u v (eqV y x):=by
 cases y with
 |non=>
  cases ry
  cases x with
  |non=>cases rx;exact SeqAt.EqAt.same _
  |bl b=>cases rx;exact SeqAt.EqAt.none_bool b
  |int b=>obtain ⟨t,rfl⟩:=rx;exact SeqAt.EqAt.none_int b t
  |str b=>obtain ⟨t,rfl⟩:=rx;exact SeqAt.EqAt.none_str b t
  |_=>exact absurd (show false=true from fx) Bool.false_ne_true
 |bl a=>
  cases ry
  cases x with
  |non=>cases rx;exact SeqAt.EqAt.bool_none a
  |bl b=>cases rx;exact SeqAt.EqAt.bool_bool a b
  |int b=>obtain ⟨t,rfl⟩:=rx;exact SeqAt.EqAt.bool_int a b t
  |str b=>obtain ⟨t,rfl⟩:=rx;exact SeqAt.EqAt.bool_str a b t
  |_=>exact absurd (show false=true from fx) Bool.false_ne_true
 |int a=>
  obtain ⟨t',rfl⟩:=ry
  cases x with
  |non=>cases rx;exact SeqAt.EqAt.int_none a t'
  |bl b=>cases rx;exact SeqAt.EqAt.int_bool a t' b
  |int b=>obtain ⟨t,rfl⟩:=rx;exact SeqAt.EqAt.int_int a t' b t
  |str b=>obtain ⟨t,rfl⟩:=rx;exact SeqAt.EqAt.int_str a t' b t
  |_=>exact absurd (show false=true from fx) Bool.false_ne_true
 |str a=>
  obtain ⟨t',rfl⟩:=ry
  cases x with
  |non=>cases rx;exact SeqAt.EqAt.str_none a t'
  |bl b=>cases rx;exact SeqAt.EqAt.str_bool a t' b
  |int b=>obtain ⟨t,rfl⟩:=rx;exact SeqAt.EqAt.str_int a t' b t
  |str b=>obtain ⟨t,rfl⟩:=rx;exact SeqAt.EqAt.str_str a t' b t
  |_=>exact absurd (show false=true from fx) Bool.false_ne_true
 |_=>exact absurd (show false=true from fy) Bool.false_ne_true
def eqU (x:V) (u:Value):Bool:=match u with
 | .none=>eqV .non x
 | .bool b=>eqV (.bl b) x
 | .int i _=>eqV (.int i) x
 | .str z _=>eqV (.str z) x
 |_=>false
theorem eqU_of {x y:V} {u:Value} (r:RelV y u) (f:flatV y=true):eqU x u=eqV y x:=by
 cases y with
 |non=>cases r;rfl
 |bl b=>cases r;rfl
 |int i=>obtain ⟨t,rfl⟩:=r;rfl
 |str z=>obtain ⟨t,rfl⟩:=r;rfl
 |_=>exact absurd (show false=true from f) Bool.false_ne_true
theorem any_eqU {x:V}:∀{xs:List V} {us:List Value},Vals xs us→xs.all flatV=true→us.any (eqU x)=xs.any fun y=>eqV y x
 |_,_,.nil,_=>rfl
 |y::xs,u::us,.cons r t,f=>by
  rw [List.all_cons,Bool.and_eq_true] at f
  rw [List.any_cons,List.any_cons,eqU_of r f.1,any_eqU t f.2]
theorem mem_eqAt {A:Around} {s:Shared} {x:V} {v:Value} (rx:RelV x v) (fx:flatV x=true):∀{xs:List V} {us:List Value},Vals xs us→xs.all flatV=true→∀u∈us,SeqAt.EqAt A s u v (eqU x u)
 |_,_,.nil,_=>fun u hu=>by cases hu
 |y::xs,u::us,.cons r t,f=>fun u' hu=>by
  rw [List.all_cons,Bool.and_eq_true] at f
  rcases List.mem_cons.mp hu with rfl|hu
  ·rw [eqU_of r f.1];exact eqAt_V r rx f.1 fx
  ·exact mem_eqAt rx fx t f.2 u' hu
def inV (x:V) (xs:List V):Bool:=xs.any fun y=>eqV y x
inductive RInP (K:PySem.W.Frag) (neg:Bool) (x:V) (y:V) (H:Hp) (Q:VK):Prop
 |mk (p xs:_):(y= .ref p)→((SqL K H p xs∨SqT K H p xs))→(flatV x=true)→(xs.all flatV=true)→(Q (.bl (if neg then !inV x xs else inV x xs)) H)→RInP K neg x y H Q
def rIn (K:PySem.W.Frag) (neg:Bool):R2:=fun x y H Q=>RInP K neg x y H Q
theorem op_in_seq:OpR X (compareOp .In) (rIn X.K false):=by
 intro pins s σ H x y v u Q I rx ry h
 obtain ⟨p,xs,rfl,hq,fx,fs,q⟩:=h
 cases ry
 rcases hq with hq|hq
 ·obtain ⟨its,r,pl,hz⟩:=I.list hq
  refine SeqAt.in_listAt (eqU x) pl.isList (fun w hw=>mem_eqAt rx fx r fs w (by simpa using hw)) ⟨.bl _,H,I,rfl,?_⟩
  rw [show its.toArray.any (eqU x)=its.any (eqU x) by simp,any_eqU r fs]
  exact q
 ·obtain ⟨its,r,pl,hz⟩:=I.tuple hq
  refine SeqAt.in_tupleAt (eqU x) pl (fun w hw=>mem_eqAt rx fx r fs w (by simpa using hw)) ⟨.bl _,H,I,rfl,?_⟩
  rw [show its.toArray.any (eqU x)=its.any (eqU x) by simp,any_eqU r fs]
  exact q
theorem A4:CallR X (.builtin "len") (fun xs H Q=>∃p ys,xs=[.ref p]∧(SqL X.K H p ys∨SqT X.K H p ys)∧Q (.int ys.length) H):=by
 intro pins s σ H xs us Q I r h
 obtain ⟨p,ys,rfl,hq,q⟩:=h
 obtain ⟨u,rfl,rx⟩:=Cy r
 cases rx
 have hn:=line63
 rcases hq with hq|hq
 ·obtain ⟨its,r',pl,hz⟩:=I.list hq
  have hlen:=r'.length
  exact Calls.call_len_list pl.isList (by simp only [List.size_toArray]<;> omega) ⟨.int ys.length,H,I.tok _,⟨s.toks+1,by rw [List.size_toArray,hlen]⟩,q⟩
 ·obtain ⟨its,r',pl,hz⟩:=I.tuple hq
  have hlen:=r'.length
  exact len_tuple pl (by simp only [List.size_toArray]<;> omega) ⟨.int ys.length,H,I.tok _,⟨s.toks+1,by rw [List.size_toArray,hlen]⟩,q⟩
theorem call_list_of:CallR X (.type "list") (fun xs H Q=>∃p ys,xs=[.ref p]∧(SqL X.K H p ys∨SqT X.K H p ys)∧∀l,H l=none→Q (.ref l) (upd H l (.lst ys))):=by
 intro pins s σ H xs us Q I r h
 obtain ⟨p,ys,rfl,hq,q⟩:=h
 obtain ⟨u,rfl,rx⟩:=Cy r
 cases rx
 have fin:∀(its:List Value),Vals ys its→ys.length≤sizeLine→∀(h':Heap) (c':Nat),(∀b o',s.heap.get? b=some o'→h'.get? b=some o')→
   h'.get? s.heap.objs.size=some {cls:= .type "list",dict:=none,data:= .seq its.toArray c',slots:= #[]}→EP X pins σ Q (.ref s.heap.objs.size) {s with heap:=h'}:=fun its r' hz h' c' kp e=>
  ⟨.ref s.heap.objs.size,_,I.laid (t':=s.toks) kp (Nat.le_refl _) (show ObjOk X.prog X.w _ h' _ (.lst ys) from ⟨hz,its,c',r',e⟩),rfl,q _ (I.hok.fresh (Nat.le_refl _))⟩
 rcases hq with hq|hq
 ·obtain ⟨its,r',pl,hz⟩:=I.list hq
  have hlen:=r'.length
  obtain ⟨o,ho,hc,n,hd⟩:=pl.isList
  exact call_list_seq p (.inl rfl) ho hc hd (fun h' c' kp e=>fin its r' hz h' c' kp e) (by simp only [List.size_toArray]<;> omega)
 ·obtain ⟨its,r',pl,hz⟩:=I.tuple hq
  have hlen:=r'.length
  obtain ⟨o,ho,hc,n,hd⟩:=pl
  exact call_list_seq p (.inr rfl) ho hc hd (fun h' c' kp e=>fin its r' hz h' c' kp e) (by simp only [List.size_toArray]<;> omega)
theorem Bc:CallR X (.type "tuple") (fun xs H Q=>∃p ys,xs=[.ref p]∧((SqL X.K H p ys∧∀l,H l=none→Q (.ref l) (upd H l (.tup ys)))∨(SqT X.K H p ys∧Q (.ref p) H))):=by
 intro pins s σ H xs us Q I r h
 obtain ⟨p,ys,rfl,h⟩:=h
 obtain ⟨u,rfl,rx⟩:=Cy r
 cases rx
 rcases h with ⟨hq,q⟩|⟨hq,q⟩
 ·obtain ⟨its,r',pl,hz⟩:=I.list hq
  have hlen:=r'.length
  refine call_tuple_list pl.isList (fun h' kp=> ?_) (by simp only [List.size_toArray]<;> omega)
  have I1:Inv X pins σ H {s with heap:=h'}:=I.kept (t':=s.toks) kp
  have I2:Inv X pins σ (upd H h'.objs.size (.tup ys)) {s with heap:=h'.push {cls:= .type "tuple",data:= .seq its.toArray}}:=
   I1.laid (t':=s.toks) (fun b o e=>Heap.get?_push_of_some _ e) (Nat.le_refl _) (show ObjOk X.prog X.w _ _ _ (.tup ys) from ⟨hz,its,r',IsTupN.new _ _⟩)
  exact ⟨.ref h'.objs.size,_,I2,rfl,q _ (I1.hok.fresh (Nat.le_refl _))⟩
 ·obtain ⟨its,r',pl,hz⟩:=I.tuple hq
  exact call_tuple_same pl ⟨.ref p,H,I,rfl,q⟩
def tyV (K:PySem.W.Frag) (T:String) (x:V) (H:Hp):Prop:=match x with
 | .str _=>T="str"
 | .int _=>T="int"
 | .ref p=>(T="list"∧∃xs,SqL K H p xs)∨(T="tuple"∧((∃o,K.lookup p=some o∧o.cls= .type "tuple"∧o.dict=none)∨∃xs,H p=some (.tup xs)))∨
   (T="dict"∧((∃kvs,H p=some (.dK kvs))∨∃kvs,H p=some (.dT kvs)))∨(T="set"∧∃S n,H p=some (.set S n))
 |_=>False
theorem tyV_is {pins:List (Addr×Obj)} {σ:St} {H:Hp} {s:Shared} {T:String} {x:V} {v:Value} (I:Inv X pins σ H s) (r:RelV x v) (ty:tyV X.K T x H):
  s.TypeIs v T∧∀a,v= .ref a→∃ob,s.heap.get? a=some ob∧ob.dict=none:=by
 cases x with
 |str z=>
  obtain ⟨t,rfl⟩:=r
  cases (show T="str" from ty)
  exact ⟨typeIs_str s z t,fun _ e=>nomatch e⟩
 |int i=>
  obtain ⟨t,rfl⟩:=r
  cases (show T="int" from ty)
  exact ⟨typeIs_int s i t,fun _ e=>nomatch e⟩
 |ref p=>
  cases r
  rcases ty with ⟨rfl,xs,hq⟩|⟨rfl,⟨o,hk,hc,hd⟩|⟨xs,hx⟩⟩|⟨rfl,hk⟩|⟨rfl,S,n,hk⟩
  ·obtain ⟨its,_,pl,_⟩:=I.list hq
   refine ⟨pl.isList.typeIs,fun a e=> ?_⟩
   cases e
   obtain ⟨o,n,e,c,hd,_⟩:=pl
   exact ⟨o,e,hd⟩
  ·refine ⟨⟨o,I.kIn p o hk,hc⟩,fun a e=> ?_⟩
   cases e
   exact ⟨o,I.kIn _ o hk,hd⟩
  ·obtain ⟨_,_,_,o,e,c,d,_⟩:=(show ObjOk X.prog X.w H s.heap p (.tup xs) from I.hok p _ hx)
   refine ⟨⟨o,e,c⟩,fun a e2=> ?_⟩
   cases e2
   exact ⟨o,e,d⟩
  ·have z:∃o,s.heap.get? p=some o∧o.ExactDict:=by
    rcases hk with ⟨kvs,hk⟩|⟨kvs,hk⟩
    ·obtain ⟨_,_,_,_,o,_,_,e,ex,_⟩:=I.hok p _ hk
     exact ⟨o,e,ex⟩
    ·obtain ⟨_,_,_,_,o,_,_,e,ex,_⟩:=I.hok p _ hk
     exact ⟨o,e,ex⟩
   obtain ⟨o,e,ex⟩:=z
   refine ⟨⟨o,e,ex.1⟩,fun a e2=> ?_⟩
   cases e2
   exact ⟨o,e,ex.2.1⟩
  ·obtain ⟨o,_,_,_,e,ex,_⟩:=I.hok p _ hk
   refine ⟨⟨o,e,ex.1⟩,fun a e2=> ?_⟩
   cases e2
   exact ⟨o,e,ex.2.1⟩
 |_=>exact False.elim ty
def tBM0 (K:PySem.W.Frag) (T:String) (r:V→List V→Hp→VK→Prop) (to:TE):TE:=fun σ H Q=>to σ H fun x H1=>tyV K T x H1∧r x [] H1 Q
def tBM (K:PySem.W.Frag) (T:String) (r:V→List V→Hp→VK→Prop) (to:TE) (t:TA):TE:=fun σ H Q=>to σ H fun x H1=>tyV K T x H1∧t σ H1 fun xs H2=>r x xs H2 Q
variable {o e:Expr} {es:List Expr} {to:TE} {t:TA} {name:Str} {apos cpos:Pos} {T id:String} {r:V→List V→Hp→VK→Prop}
theorem pe_bm0 (pa:PlainAttrs T) (slot:Slot T name id) (hty:typeOf (.builtin id)=pure (.type "method_descriptor")) (hm:MtR X id r) (ho:PE X o to)
  (hbase:attributeBase o name X.env (eval o X.env)=eval o X.env:=by rfl) (hline:(apos.endLine==cpos.line)=true:=by rfl):PE X (.Call (.Attribute o name apos) [] [] cpos) (tBM0 X.K T r to):=by
 intro pins s σ H Q I h
 refine wpAny_Call_method0_late hbase hline (thn (ho pins s σ H _ I h) fun v s1 ⟨x,H1,I1,r1,ty,q1⟩=> ?_)
 obtain ⟨h1,h2⟩:=tyV_is I1 r1 ty
 exact ⟨T,id,pa,slot,hty,h1,h2,Calls.callWith_builtin rfl (PySem.evalArgs_none (hm pins s1 σ H1 x [] v [] Q I1 r1 .nil q1))⟩
theorem pe_bm (pa:PlainAttrs T) (slot:Slot T name id) (hty:typeOf (.builtin id)=pure (.type "method_descriptor")) (hm:MtR X id r) (ho:PE X o to) (ha:PA X (e::es) t)
  (hbase:attributeBase o name X.env (eval o X.env)=eval o X.env:=by rfl)
  (hfew:((backTo cpos (starEach (e::es) X.env)).all (fun x=> !x.1) && (backToKw cpos (keywordEach [] X.env)).all (fun x=>x.1.isSome)
   && decide ((e::es).length+([]:List Keyword).length+(if ([]:List Keyword).isEmpty then 0 else 1)<30))=true:=by rfl)
  (hline:(apos.endLine==cpos.line)=true:=by rfl) (hs:starEach (e::es) X.env=(false,eval e X.env)::starEach es X.env:=by rfl) (hplain:(backTo cpos (starEach es X.env)).any (·.1)=false:=by rfl):
  PE X (.Call (.Attribute o name apos) (e::es) [] cpos) (tBM X.K T r to t):=by
 intro pins s σ H Q I h
 refine wpAny_Call_method_late hbase hfew hline rfl (thn (ho pins s σ H _ I h) fun v s1 ⟨x,H1,I1,r1,ty,q1⟩=> ?_)
 obtain ⟨h1,h2⟩:=tyV_is I1 r1 ty
 refine ⟨T,id,pa,slot,hty,h1,h2,?_⟩
 have hA:=ha cpos pins s1 σ H1 _ I1 q1
 rw [hs] at hA ⊢
 refine Calls.callWith_builtin (by show (false||(backTo cpos (starEach es X.env)).any (·.1))=false;rw [hplain]<;> rfl) (Calls.evalArgs_plain ?_)
 exact thn hA fun us s2 ⟨vs,H2,I2,r2,q2⟩=>hm pins s2 σ H2 x vs v us Q I2 r1 r2 q2
end
end L2
namespace L2
open PySem PySem.Spec PyProof.Rows
def MtM (X:Cx) (id:String) (r:V→List V→Hp→VK→Prop):Prop:=
 ∀(pins:List (Addr×Obj)) (s:Shared) (σ:St) (H:Hp) (x:V) (xs:List V) (v:Value) (us:List Value) (Q:VK),Inv X pins σ H s→RelV x v→Vals xs us→r x xs H Q→
  wpAny (model X.prog X.w) X.A (call (.builtin id) (v::us)) (EP X pins σ Q) X.xe s
theorem Vals.one:∀{x:V} {us:List Value},Vals [x] us→∃u,us=[u]∧RelV x u
 |_,_,.cons r .nil=>⟨_,rfl,r⟩
theorem Vals.zero:∀{us:List Value},Vals [] us→us=[]
 |_,.nil=>rfl
theorem Vals.dropLast {xs:List V} {us:List Value} (h:Vals xs us):Vals xs.dropLast us.dropLast:=by
 induction h with
 |nil=>exact .nil
 |cons r t ih=>
  cases t with
  |nil=>exact .nil
  |cons q t'=>exact .cons r ih
theorem Vals.eraseIdx:∀{xs:List V} {us:List Value} (i:Nat),Vals xs us→Vals (xs.eraseIdx i) (us.eraseIdx i)
 |_,_,_,.nil=> .nil
 |_,_,0,.cons _ t=>t
 |_,_,i+1,.cons r t=> .cons r (Vals.eraseIdx i t)
theorem Vals.reverse {xs:List V} {us:List Value} (h:Vals xs us):Vals xs.reverse us.reverse:=by
 induction h with
 |nil=>exact .nil
 |cons r t ih=>rw [List.reverse_cons,List.reverse_cons];exact Vals.append ih (.cons r .nil)
theorem Vals.rep {xs:List V} {us:List Value} (h:Vals xs us):∀k:Nat,Vals (List.replicate k xs).flatten (List.replicate k us).flatten
 |0=> .nil
 |k+1=>by
  rw [List.replicate_succ,List.replicate_succ,List.flatten_cons,List.flatten_cons]
  exact Vals.append h (Vals.rep h k)
theorem erase_last {α:Type} (l:List α):l.eraseIdx (l.length - 1)=l.dropLast:=by
 induction l with
 |nil=>rfl
 |cons a r ih=>
  cases r with
  |nil=>rfl
  |cons b r=>
   have e:(a::b::r).length - 1=((b::r).length - 1)+1:=by
    have h1:(a::b::r).length=r.length+2:=rfl
    have h2:(b::r).length=r.length+1:=rfl
    assumption
   rw [e,List.eraseIdx_cons_succ,ih]
   all_goals rfl
theorem len_erase {α:Type}:∀(l:List α) (i:Nat),(l.eraseIdx i).length≤l.length
 |[],_=>Nat.le_refl _
 |_::_,0=>Nat.le_succ _
 |_::r,i+1=>Nat.succ_le_succ (len_erase r i)
theorem foldl_rep (its:List Value):∀(k:Nat) (acc:List Value),
  List.foldl (fun x1 x2=>x1++x2) acc.toArray (List.replicate k its.toArray)=(acc++(List.replicate k its).flatten).toArray
 |0,acc=>by simp
 |k+1,acc=>by
  have e:acc.toArray++its.toArray=(acc++its).toArray:=by simp
  have e2:(acc++its)++(List.replicate k its).flatten=acc++(List.replicate (k+1) its).flatten:=by
   rw [List.replicate_succ,List.flatten_cons,List.append_assoc]
  rw [←e2,←foldl_rep its k (acc++its),←e,List.replicate_succ,List.foldl_cons]
section
variable {X:Cx} {pins:List (Addr×Obj)} {σ:St} {H:Hp} {s:Shared} {l b:Addr} {xs ys zs:List V}
theorem Inv.lset {its its':List Value} {n:Nat} {f:Array Value→Array Value} {t':Nat} (I:Inv X pins σ H s) (hH:H l=some (.lst xs))
  (e:s.heap.get? l=some {cls:= .type "list",data:= .seq its.toArray n}) (hf:f its.toArray=its'.toArray) (hv:Vals ys its') (hz:ys.length≤sizeLine):
  Inv X pins σ (upd H l (.lst ys)) {s with heap:=s.heap.update l (Obj.mapSeq f),toks:=t'}:=by
 have q:=PySem.IsL.update e f
 rw [hf] at q
 refine I.write (x:=l) (e:=l) (by rw [hH];exact trivial) (.inl rfl) (fun b' u hb hu=>(Heap.get?_update_other s.heap (Obj.mapSeq f) (Ne.symm hb)).trans hu) ⟨_,q⟩ ?_
 exact ⟨hz,its',_,hv,q⟩
theorem Inv.lnew {its:List Value} {t':Nat} (I:Inv X pins σ H s) (hv:Vals ys its) (hz:ys.length≤sizeLine):
  Inv X pins σ (upd H s.heap.objs.size (.lst ys)) {s with heap:=s.heap.push {cls:= .type "list",data:= .seq its.toArray},toks:=t'}:=
 I.laid (fun _ _ q=>Heap.get?_push_of_some _ q) (Nat.le_refl _) ⟨hz,its,0,hv,Heap.get?_push_size _ rfl⟩
theorem Inv.fresh (I:Inv X pins σ H s):H s.heap.objs.size=none:=I.hok.fresh (Nat.le_refl _)
theorem Inv.lstM (I:Inv X pins σ H s) (hH:H l=some (.lst xs)):xs.length≤sizeLine∧∃(its:List Value) (n:Nat),Vals xs its∧xs.length=its.length∧s.heap.get? l=some {cls:= .type "list",data:= .seq its.toArray n}:=by
 obtain ⟨z,its,n,r,e⟩:=I.hok l _ hH
 exact ⟨z,its,n,r,r.length,e⟩
theorem notLongL {n:Nat} (h:n≤sizeLine):Builtin.List.listTooLong n=false:=by
 unfold Builtin.List.listTooLong
 exact decide_eq_false (by omega)
end
section
variable {X:Cx}
inductive RAppendP (x:V) (vs:List V) (H:Hp) (Q:VK):Prop
 |mk (l xs y:_):(x= .ref l)→(vs=[y])→(H l=some (.lst xs))→(xs.length<sizeLine)→(Q .non (upd H l (.lst (xs++[y]))))→RAppendP x vs H Q
def rAppend:V→List V→Hp→VK→Prop:=fun x vs H Q=>RAppendP x vs H Q
theorem Cf:MtM X "list.append" rAppend:=by
 intro pins s σ H x vs v us Q I rx rv h
 obtain ⟨l,xs,y,rfl,rfl,hH,hz,q⟩:=h
 cases rx
 obtain ⟨u,rfl,ru⟩:=rv.one
 obtain ⟨z,its,n,r,hl,e⟩:=I.lstM hH
 refine call_meets F.slot_list_append ⟨_,e,rfl⟩ F.entry_list_append (F.args_list_append_2 _ _) (PySem.list_append l its.toArray n u (by rw [List.size_toArray];omega)) ⟨e,?_⟩
 refine ⟨.non,_,I.lset (its':=its++[u]) hH e (by simp) (r.append (.cons ru .nil)) ?_,rfl,q⟩
 rw [List.length_append,List.length_singleton]
 assumption
inductive RPopP (x:V) (vs:List V) (H:Hp) (Q:VK):Prop
 |mk (l xs y:_):(x= .ref l)→(vs=[])→(H l=some (.lst xs))→(xs[xs.length - 1]? =some y)→(Q y (upd H l (.lst xs.dropLast)))→RPopP x vs H Q
def rPop:V→List V→Hp→VK→Prop:=fun x vs H Q=>RPopP x vs H Q
theorem mt_pop:MtM X "list.pop" rPop:=by
 intro pins s σ H x vs v us Q I rx rv h
 obtain ⟨l,xs,y,rfl,rfl,hH,hy,q⟩:=h
 cases rx
 have hus:=rv.zero
 subst hus
 obtain ⟨z,its,n,r,hl,e⟩:=I.lstM hH
 obtain ⟨u,hu,ru⟩:=r.get hy
 have hy':its.toArray[its.toArray.size - 1]? =some u:=by
  show its.toArray[its.length - 1]? =some u
  rw [←Array.getElem?_toList,←hl]
  exact hu
 refine call_meets F.slot_list_pop ⟨_,e,rfl⟩ F.entry_list_pop (F.args_list_pop_1 _) (MeetsSeq.list_pop_last l its.toArray n u hy' (by rw [List.size_toArray];omega)) ⟨e,?_⟩
 refine ⟨y,_,I.lset (its':=its.dropLast) hH e ?_ r.dropLast ?_,ru,q⟩
 ·show its.toArray.eraseIdxIfInBounds (its.toArray.size - 1)=its.dropLast.toArray
  rw [List.size_toArray,List.eraseIdxIfInBounds_toArray,erase_last]
 ·rw [List.length_dropLast]
  omega
inductive RPopAtP (x:V) (vs:List V) (H:Hp) (Q:VK):Prop
 |mk (l xs i k y:_):(x= .ref l)→(vs=[.int i])→(H l=some (.lst xs))→(-(2 ^ 63)≤i)→(i<2 ^ 63)→(seqIndex? i xs.length=some k)→(xs[k]? =some y)→(Q y (upd H l (.lst (xs.eraseIdx k))))→RPopAtP x vs H Q
def rPopAt:V→List V→Hp→VK→Prop:=fun x vs H Q=>RPopAtP x vs H Q
theorem mt_popAt:MtM X "list.pop" rPopAt:=by
 intro pins s σ H x vs v us Q I rx rv h
 obtain ⟨l,xs,i,k,y,rfl,rfl,hH,h1,h2,hk,hy,q⟩:=h
 cases rx
 obtain ⟨u,rfl,ru⟩:=rv.one
 obtain ⟨t,rfl⟩:=ru
 obtain ⟨z,its,n,r,hl,e⟩:=I.lstM hH
 obtain ⟨w,hw,rw'⟩:=r.get hy
 refine call_meets F.slot_list_pop ⟨_,e,rfl⟩ F.entry_list_pop (F.args_list_pop_2 _ _)
  (MeetsSeq.list_pop_at l its.toArray n i t k w (fitsIndex_both h1 h2) (by rw [List.size_toArray,←hl];exact hk) (by rw [←Array.getElem?_toList];exact hw) (by rw [List.size_toArray];omega)) ⟨e,?_⟩
 refine ⟨y,_,I.lset (its':=its.eraseIdx k) hH e ?_ (r.eraseIdx k) ?_,rw',q⟩
 ·show its.toArray.eraseIdxIfInBounds k=(its.eraseIdx k).toArray
  rw [List.eraseIdxIfInBounds_toArray]
 ·have:=len_erase xs k
  exact Nat.le_trans (by assumption) (by assumption)
inductive RCatP (x:V) (y:V) (H:Hp) (Q:VK):Prop
 |mk (l b xs zs:_):(x= .ref l)→(y= .ref b)→(H l=some (.lst xs))→(H b=some (.lst zs))→(xs.length+zs.length≤sizeLine)→(∀p,H p=none→Q (.ref p) (upd H p (.lst (xs++zs))))→RCatP x y H Q
def rCat:R2:=fun x y H Q=>RCatP x y H Q
theorem op_cat:OpR X (binaryOp .Add) rCat:=by
 intro pins s σ H x y v u Q I rx ry h
 obtain ⟨l,b,xs,zs,rfl,rfl,hH,hB,hz,q⟩:=h
 cases rx
 cases ry
 obtain ⟨z,its,n,r,hl,e⟩:=I.lstM hH
 obtain ⟨z2,its2,n2,r2,hl2,e2⟩:=I.lstM hB
 refine PySem.P.add_list e e2 ?_ (by rw [List.size_toArray,List.size_toArray];omega)
 have ea:its.toArray++its2.toArray=(its++its2).toArray:=by simp
 rw [ea]
 exact ⟨.ref _,_,I.lnew (t':=s.toks) (r.append r2) (by rw [List.length_append];assumption),rfl,q _ I.fresh⟩
inductive RRepP (x:V) (y:V) (H:Hp) (Q:VK):Prop
 |mk (l k xs:_):(x= .ref l)→(y= .int k)→(H l=some (.lst xs))→(-(2 ^ 63)≤k)→(k<2 ^ 63)→(xs.length * k.toNat≤sizeLine)→(∀p,H p=none→Q (.ref p) (upd H p (.lst (List.replicate k.toNat xs).flatten)))→RRepP x y H Q
def rRep:R2:=fun x y H Q=>RRepP x y H Q
theorem len_rep {α:Type} (xs:List α) (k:Nat):(List.replicate k xs).flatten.length=k * xs.length:=by
 induction k with
 |zero=>simp
 |succ k ih=>rw [List.replicate_succ,List.flatten_cons,List.length_append,ih,Nat.succ_mul,Nat.add_comm]
theorem op_rep:OpR X (binaryOp .Mult) rRep:=by
 intro pins s σ H x y v u Q I rx ry h
 obtain ⟨l,k,xs,rfl,rfl,hH,h1,h2,hz,q⟩:=h
 cases rx
 obtain ⟨t,rfl⟩:=ry
 obtain ⟨z,its,n,r,hl,e⟩:=I.lstM hH
 have hlen:its.toArray.size * k.toNat≤sizeLine:=by rw [List.size_toArray,←hl];exact hz
 have hcap:¬its.toArray.size * k.toNat > (2 ^ 63 - 1) / 8:=by
  have:(sizeLine:Nat)≤(2 ^ 63 - 1) / 8:=by decide
  omega
 have hfit:¬(!Builtin.List.listFitsIndex k)=true:=by
  rw [fitsIndex_both h1 h2]
  exact Bool.false_ne_true
 have hlong:¬Builtin.List.listTooLong (its.toArray.size * k.toNat)=true:=by
  rw [notLongL hlen]
  exact Bool.false_ne_true
 have hnew:List.foldl (fun x1 x2=>x1++x2) #[] (List.replicate (if its.toArray.isEmpty=true then 0 else k.toNat) its.toArray)=(List.replicate k.toNat its).flatten.toArray:=by
  have f0:∀m:Nat,List.foldl (fun x1 x2=>x1++x2) #[] (List.replicate m its.toArray)=(List.replicate m its).flatten.toArray:=fun m=>by
   have:=foldl_rep its m []
   rw [List.nil_append] at this
   exact this
  rw [f0]
  cases its with
  |nil=>simp
  |cons a r'=>rw [if_neg (by simp)]
 refine wpAny_binaryOp_repeat_ref (T:="list") (U:="int") (by decide) ⟨_,e,rfl⟩ (fun s'=>typeIs_int s' k t) noFill_list_mul F.fills_int_mul F.slot_int_rmul repeat_list F.slot_int_index.lookup
  (call_meets F.slot_int_rmul (typeIs_int s k t) F.entry_int_rmul (F.args_int_rmul_2 _ _) (int___rmul___int_list k t l its.toArray n)
   ⟨e,rfl,⟨_,e,rfl⟩,call_meets F.slot_list_mul ⟨_,e,rfl⟩ F.entry_list_mul (F.args_list_mul_2 _ _) (AutoListH.list___mul___list_int_3 l its.toArray n k t hfit hcap hlong) ⟨e,?_⟩⟩)
 rw [hnew]
 exact ⟨.ref _,_,I.lnew (t':=s.toks) (r.rep k.toNat) (by rw [len_rep,Nat.mul_comm];exact hz),rfl,q _ I.fresh⟩
end
end L2
namespace L2
open PySem PySem.Spec PyProof.Rows
section
variable {κ:Type} [DecidableEq κ]
def Bn (kvs:List (κ×V)) (k:κ):Option V:=(kvs.find? fun kv=>decide (kv.1=k)).map (·.2)
def Cm (kvs:List (κ×V)) (k:κ) (v:V):List (κ×V):=
 if (kvs.any fun kv=>decide (kv.1=k))=true then kvs.map (fun kv=>if kv.1=k then (kv.1,v) else kv) else kvs++[(k,v)]
def dropK (kvs:List (κ×V)) (k:κ):List (κ×V):=kvs.filter fun kv=>decide (kv.1≠k)
theorem Cd {p:κ×V} {r:List (κ×V)} {k:κ} (e:p.1=k):Bn (p::r) k=some p.2:=by simp [Bn,List.find?_cons,e]
theorem Bz {p:κ×V} {r:List (κ×V)} {k:κ} (e:¬p.1=k):Bn (p::r) k=Bn r k:=by simp [Bn,List.find?_cons,e]
theorem valV_any (k:κ):∀kvs:List (κ×V),(kvs.any fun kv=>decide (kv.1=k))=(Bn kvs k).isSome
 |[]=>rfl
 |p::r=>by
  rw [List.any_cons]
  by_cases e:p.1=k
  ·simp only [Cd e,decide_eq_true e,Bool.true_or,Option.isSome_some]
  ·rw [Bz e,decide_eq_false e,Bool.false_or];exact valV_any k r
theorem valV_map (k j:κ) (y:V):∀kvs:List (κ×V),Bn (kvs.map fun kv=>if kv.1=k then (kv.1,y) else kv) j=(Bn kvs j).map fun x=>if j=k then y else x
 |[]=>rfl
 |p::r=>by
  have ih:=valV_map k j y r
  rw [List.map_cons]
  by_cases h:p.1=k
  ·rw [if_pos h]
   by_cases e:p.1=j
   ·rw [Cd (p:=(p.1,y)) e,Cd e,Option.map_some,if_pos (e.symm.trans h)]
   ·rw [Bz (p:=(p.1,y)) e,Bz e,ih]
  ·rw [if_neg h]
   by_cases e:p.1=j
   ·rw [Cd (p:=p) e,Cd e,Option.map_some,if_neg (fun z=>h (e.trans z))]
   ·rw [Bz (p:=p) e,Bz e,ih]
theorem valV_snoc (k j:κ) (y:V):∀kvs:List (κ×V),Bn kvs k=none→Bn (kvs++[(k,y)]) j=if j=k then some y else Bn kvs j
 |[],_=>by
  by_cases e:k=j
  ·rw [if_pos e.symm];exact Cd (p:=(k,y)) e
  ·rw [if_neg (fun z=>e z.symm)];exact Bz (p:=(k,y)) e
 |p::r,hn=>by
  rw [List.cons_append]
  have hk:¬p.1=k:=fun z=>by rw [Cd z] at hn;cases hn
  rw [Bz hk] at hn
  have ih:=valV_snoc k j y r hn
  by_cases e:p.1=j
  ·rw [Cd e,Cd e,if_neg (fun z=>hk (e.trans z))]
  ·rw [Bz e,Bz e,ih]
theorem valV_put (kvs:List (κ×V)) (k j:κ) (y:V):Bn (Cm kvs k y) j=if j=k then some y else Bn kvs j:=by
 unfold Cm
 by_cases a:(kvs.any fun kv=>decide (kv.1=k))=true
 ·rw [if_pos a,valV_map]
  rw [valV_any] at a
  by_cases e:j=k
  ·obtain ⟨x,hx⟩:=Option.isSome_iff_exists.mp a
   rw [if_pos e,e,hx,Option.map_some,if_pos rfl]
  ·rw [if_neg e]
   cases Bn kvs j with
   |none=>rfl
   |some x=>rw [Option.map_some,if_neg e]
 ·rw [if_neg a]
  refine valV_snoc k j y kvs ?_
  rw [valV_any] at a
  cases q:Bn kvs k with
  |none=>rfl
  |some x=>rw [q] at a;exact (a rfl).elim
theorem length_putK (kvs:List (κ×V)) (k:κ) (v:V):(Cm kvs k v).length≤kvs.length+1:=by
 unfold Cm
 split
 ·rw [List.length_map];exact Nat.le_add_right _ _
 ·rw [List.length_append,List.length_cons,List.length_nil];exact Nat.add_le_add_left (by decide) _
theorem putK_new {kvs:List (κ×V)} {k:κ} (v:V) (h:Bn kvs k=none):Cm kvs k v=kvs++[(k,v)]:=by
 unfold Cm
 rw [valV_any,h]
 exact if_neg (by decide)
theorem RelO.isSome_eq {o:Option V} {u:Option Value} (r:RelO o u):o.isSome=u.isSome:=by
 cases o with
 |none=>cases u with
  |none=>rfl
  |some _=>exact (show False from r).elim
 |some _=>cases u with
  |none=>exact (show False from r).elim
  |some _=>rfl
theorem RelO.getD {o:Option V} {u:Option Value} {d:V} {d':Value} (r:RelO o u) (rd:RelV d d'):RelV (o.getD d) (u.getD d'):=by
 cases o with
 |none=>cases u with
  |none=>exact rd
  |some _=>exact (show False from r).elim
 |some _=>cases u with
  |none=>exact (show False from r).elim
  |some _=>exact r
theorem KV.val {kvs:List (κ×V)} {vs:List (κ×Value)} (r:KV kvs vs) (k:κ):RelO (Bn kvs k) (valueAt vs k):=by
 unfold KV at r
 induction r with
 |nil=>exact True.intro
 | @cons p q ps qs h t ih=>
  obtain ⟨h1,h2⟩:=h
  by_cases e:p.1=k
  ·have e':q.1=k:=h1.symm.trans e
   have b:valueAt (q::qs) k=some q.2:=by simp [valueAt,List.find?_cons,e']
   rw [Cd e,b];exact h2
  ·have e':¬q.1=k:=fun z=>e (h1.trans z)
   have b:valueAt (q::qs) k=valueAt qs k:=by simp [valueAt,List.find?_cons,e']
   rw [Bz e,b];exact ih
theorem KV.any {kvs:List (κ×V)} {vs:List (κ×Value)} (r:KV kvs vs) (k:κ):(kvs.any fun kv=>decide (kv.1=k))=vs.any fun kv=>decide (kv.1=k):=by
 unfold KV at r
 induction r with
 |nil=>rfl
 |cons h t ih=>rw [List.any_cons,List.any_cons,ih,h.1]
theorem KV.repl {kvs:List (κ×V)} {vs:List (κ×Value)} (r:KV kvs vs) (k:κ) {y:V} {u:Value} (ry:RelV y u):
  KV (kvs.map fun kv=>if kv.1=k then (kv.1,y) else kv) (vs.map fun kv=>if kv.1=k then (kv.1,u) else kv):=by
 unfold KV at r ⊢
 induction r with
 |nil=>exact .nil
 | @cons p q ps qs h t ih=>
  rw [List.map_cons,List.map_cons]
  refine .cons ?_ ih
  obtain ⟨h1,h2⟩:=h
  by_cases e:p.1=k
  ·rw [if_pos e,if_pos (h1.symm.trans e)];exact ⟨h1,ry⟩
  ·rw [if_neg e,if_neg (fun z=>e (h1.trans z))];exact ⟨h1,h2⟩
theorem KV.put {kvs:List (κ×V)} {vs:List (κ×Value)} (r:KV kvs vs) (k:κ) {y:V} {u:Value} (ry:RelV y u):KV (Cm kvs k y) (stored vs k u):=by
 unfold Cm stored
 rw [r.any k]
 by_cases e:(vs.any fun kv=>decide (kv.1=k))=true
 ·rw [if_pos e,if_pos e];exact r.repl k ry
 ·rw [if_neg e,if_neg e];exact Paired.snoc r ⟨rfl,ry⟩
theorem KV.drop {kvs:List (κ×V)} {vs:List (κ×Value)} (r:KV kvs vs) (k:κ):KV (dropK kvs k) (without vs k):=by
 unfold KV at r ⊢
 unfold dropK without
 induction r with
 |nil=>exact .nil
 | @cons p q ps qs h t ih=>
  obtain ⟨h1,h2⟩:=h
  rw [List.filter_cons,List.filter_cons]
  by_cases e:p.1=k
  ·have a:¬decide (p.1≠k)=true:=by simp [e]
   have b:¬decide (q.1≠k)=true:=by simp [h1.symm.trans e]
   rw [if_neg a,if_neg b];exact ih
  ·have e':¬q.1=k:=fun z=>e (h1.trans z)
   have a:decide (p.1≠k)=true:=by simp [e]
   have b:decide (q.1≠k)=true:=by simp [e']
   rw [if_pos a,if_pos b];exact .cons ⟨h1,h2⟩ ih
theorem KV.length {kvs:List (κ×V)} {vs:List (κ×Value)} (r:KV kvs vs):kvs.length=vs.length:=Paired.length r
theorem dropK_le (kvs:List (κ×V)) (k:κ):(dropK kvs k).length≤kvs.length:=List.length_filter_le _ _
end
theorem kV_is {P:Program} {w:World} {k:Key} {u:Value} (r:RelV (kV k) u):(Bj P w).is k u=true:=by
 cases k with
 |inl i=>obtain ⟨t,e⟩:=(show ∃t,u=Value.int i t from r);subst e;exact mixKind_int P w i t
 |inr x=>obtain ⟨t,e⟩:=(show ∃t,u=Value.str x t from r);subst e;exact mixKind_str P w x t
theorem items_are {P:Program} {w:World}:∀{ks:List Key} {us:List Value},Vals (ks.map kV) us→ItemsAre (Bj P w) ks us
 |[],_,r=>by rw [List.map_nil] at r;cases r;exact .nil
 |k::ks,_,r=>by
  rw [List.map_cons] at r
  cases r with
  |cons h t=>exact .cons (kV_is h) (items_are t)
abbrev KT (H:Hp):List (List Key×V)→List (List Key×Addr×Value)→Prop:=Paired fun p q=>p.1=q.1∧H q.2.1=some (.tup (p.1.map kV))∧RelV p.2 q.2.2
theorem KT.val {H:Hp} {kvs:List (List Key×V)} {xs:List (List Key×Addr×Value)} (r:KT H kvs xs) (k:List Key):RelO (Bn kvs k) ((atKey xs k).map (·.2)):=by
 induction r with
 |nil=>exact True.intro
 | @cons p q ps qs h t ih=>
  obtain ⟨h1,_,h2⟩:=h
  by_cases e:p.1=k
  ·have e':q.1=k:=h1.symm.trans e
   have b:atKey (q::qs) k=some q.2:=by simp [atKey,List.find?_cons,e']
   rw [Cd e,b];exact h2
  ·have e':¬q.1=k:=fun z=>e (h1.trans z)
   have b:atKey (q::qs) k=atKey qs k:=by simp [atKey,List.find?_cons,e']
   rw [Bz e,b];exact ih
theorem KT.repl {H:Hp} {kvs:List (List Key×V)} {xs:List (List Key×Addr×Value)} (r:KT H kvs xs) (k:List Key) {y:V} {u:Value} (ry:RelV y u):
  KT H (kvs.map fun kv=>if kv.1=k then (kv.1,y) else kv) (xs.map (putAt k u)):=by
 induction r with
 |nil=>exact .nil
 | @cons p q ps qs h t ih=>
  rw [List.map_cons,List.map_cons]
  refine .cons ?_ ih
  obtain ⟨h1,h2,h3⟩:=h
  unfold putAt
  by_cases e:p.1=k
  ·rw [if_pos e,if_pos (h1.symm.trans e)];exact ⟨h1,h2,ry⟩
  ·rw [if_neg e,if_neg (fun z=>e (h1.trans z))];exact ⟨h1,h2,h3⟩
theorem KT.put {H:Hp} {kvs:List (List Key×V)} {xs:List (List Key×Addr×Value)} (r:KT H kvs xs) (k:List Key) {b:Addr} {y:V} {u:Value} (hb:H b=some (.tup (k.map kV))) (ry:RelV y u):
  KT H (Cm kvs k y) (storedH xs k b u):=by
 have e:(kvs.any fun kv=>decide (kv.1=k))=(atKey xs k).isSome:=by
  rw [valV_any,(r.val k).isSome_eq,Option.isSome_map]
 unfold Cm storedH
 rw [e]
 by_cases q:(atKey xs k).isSome=true
 ·rw [if_pos q,if_pos q];exact r.repl k ry
 ·rw [if_neg q,if_neg q];exact Paired.snoc r ⟨rfl,hb,ry⟩
theorem KT.keeps {H H':Hp} {kvs:List (List Key×V)} {xs:List (List Key×Addr×Value)} (r:KT H kvs xs) (ht:∀b ys,H b=some (.tup ys)→H' b=some (.tup ys)):KT H' kvs xs:=
 Paired.mapP r fun _ _ z=>⟨z.1,ht _ _ z.2.1,z.2.2⟩
section
variable {P:Program} {w:World} {H:Hp} {h:Heap} {a:Addr}
theorem rd_of {u:HO} (ok:HOk P w H h) (e:Rd H a u):ObjOk P w H h a u:=e.ok ok
theorem dk_rd {kvs:List (Key×V)} (ok:HOk P w H h) (e:Rd H a (.dK kvs)):kvs.length≤sizeLine∧(a==sysModules)=false∧∃vs,KV kvs vs∧h.DictOf (Bj P w) a vs:=
 show ObjOk P w H h a (.dK kvs) from rd_of ok e
theorem dk_of {kvs:List (Key×V)} (ok:HOk P w H h) (e:H a=some (.dK kvs)):kvs.length≤sizeLine∧(a==sysModules)=false∧∃vs,KV kvs vs∧h.DictOf (Bj P w) a vs:=dk_rd ok (.inl e)
theorem key_of {ks:List Key} (ok:HOk P w H h) (e:H a=some (.tup (ks.map kV))):(tupleKind (Bj P w)).is h ks a:=by
 obtain ⟨_,its,r,o,h1,h2,_,n,h3⟩:=(show ObjOk P w H h a (.tup (ks.map kV)) from ok a _ e)
 exact ⟨o,its.toArray,n,h1,h2,h3,by simpa using items_are r⟩
theorem dt_rd {kvs:List (List Key×V)} (ok:HOk P w H h) (e:Rd H a (.dT kvs)):kvs.length≤sizeLine∧(a==sysModules)=false∧
  ∃xs,KT H kvs xs∧h.DictOfH (tupleKind (Bj P w)) a xs:=by
 obtain ⟨z,y,xs,r,o,es,ep,h1,h2,h3,h4,h5⟩:=(show ObjOk P w H h a (.dT kvs) from rd_of ok e)
 refine ⟨z,y,xs,r,o,es,ep,h1,h2,h3,h4,fun x hx=> ?_,h5⟩
 have all:∀{l:List (List Key×V)} {m:List (List Key×Addr×Value)},KT H l m→∀x∈m,(tupleKind (Bj P w)).is h x.1 x.2.1:=by
  intro l m q
  induction q with
  |nil=>intro x hx;exact nomatch hx
  | @cons p q ps qs hq t ih=>
   intro x hx
   rcases List.mem_cons.mp hx with e|hx
   ·subst e
    exact key_of ok (by rw [←hq.1];exact hq.2.1)
   ·exact ih x hx
 exact all r x hx
theorem dt_of {kvs:List (List Key×V)} (ok:HOk P w H h) (e:H a=some (.dT kvs)):kvs.length≤sizeLine∧(a==sysModules)=false∧
  ∃xs,KT H kvs xs∧h.DictOfH (tupleKind (Bj P w)) a xs:=dt_rd ok (.inl e)
end
def DGet (H:Hp) (a:Addr) (y:V) (r:Option V):Prop:=
 (∃kvs k,Rd H a (.dK kvs)∧y=kV k∧r=Bn kvs k)∨∃kvs k b,Rd H a (.dT kvs)∧y= .ref b∧H b=some (.tup (k.map kV))∧r=Bn kvs k
def DPut (H:Hp) (a:Addr) (y v:V) (H':Hp):Prop:=
 (∃kvs k,H a=some (.dK kvs)∧y=kV k∧kvs.length<sizeLine∧H'=upd H a (.dK (Cm kvs k v)))∨
 ∃kvs k b,H a=some (.dT kvs)∧y= .ref b∧H b=some (.tup (k.map kV))∧kvs.length<sizeLine∧H'=upd H a (.dT (Cm kvs k v))
theorem DGet.k {H:Hp} {a:Addr} {kvs:List (Key×V)} {k:Key} (e:H a=some (.dK kvs)):DGet H a (kV k) (Bn kvs k):= .inl ⟨kvs,k,.inl e,rfl,rfl⟩
theorem DGet.t {H:Hp} {a b:Addr} {kvs:List (List Key×V)} {k:List Key} (e:H a=some (.dT kvs)) (eb:H b=some (.tup (k.map kV))):DGet H a (.ref b) (Bn kvs k):= .inr ⟨kvs,k,b,.inl e,rfl,eb,rfl⟩
theorem DPut.k {H:Hp} {a:Addr} {kvs:List (Key×V)} {k:Key} {v:V} (e:H a=some (.dK kvs)) (hl:kvs.length<sizeLine):DPut H a (kV k) v (upd H a (.dK (Cm kvs k v))):= .inl ⟨kvs,k,e,rfl,hl,rfl⟩
section
variable {X:Cx} {pins:List (Addr×Obj)} {σ:St} {H:Hp} {s:Shared} {a:Addr} {y v:V} {u r:Value} {o:Option V} {A:Around} {E:Value→Shared→Prop}
theorem Inv.big (I:Inv X pins σ H s):sysModules<s.heap.objs.size:=by
 have h:mainGlobals<s.heap.objs.size:=(I.mod.glob.keeps I.bk).lt
 exact Nat.lt_trans (by decide) h
theorem d_getItem {Q:Value→Shared→Prop} (hu:A.units+1<cLine) (I:Inv X pins σ H s) (g:DGet H a y (some v)) (ry:RelV y u) (h:∀w' s',Inv X pins σ H s'→RelV v w'→Q w' s'):
  wpAny (model X.prog X.w) A (getItem (.ref a) u) Q E s:=by
 rcases g with ⟨kvs,k,e,ey,l⟩|⟨kvs,k,b,e,ey,eb,l⟩
 ·subst ey
  obtain ⟨z,hd,vs,rel,dd⟩:=dk_rd I.hok e
  obtain ⟨w',hw,rw'⟩:=RelO.some_of (v:=v) (o:=valueAt vs k) (by rw [l];exact rel.val k)
  exact wpAny_getItem_of (kV_is ry) dd.mapOf hw (h w' _ (I.tok _) rw')
 ·subst ey
  cases (show u=Value.ref b from ry)
  obtain ⟨z,hd,xs,rel,dd⟩:=dt_rd I.hok e
  obtain ⟨w',hw,rw'⟩:=RelO.some_of (v:=v) (o:=(atKey xs k).map (·.2)) (by rw [l];exact rel.val k)
  obtain ⟨p,hp,hp2⟩:=Option.map_eq_some_iff.mp hw
  refine wpAny_getItem_heap (tupleKind_room_in1 hu) (key_of I.hok eb) dd hp ?_
  rw [hp2]
  exact h w' _ (I.tok _) rw'
theorem d_notIn {Q:Value→Shared→Prop} (hu:A.units+1<cLine) (I:Inv X pins σ H s) (g:DGet H a y o) (ry:RelV y u) (h:∀s',Inv X pins σ H s'→Q (.bool (!o.isSome)) s'):
  wpAny (model X.prog X.w) A (compareOp .NotIn u (.ref a)) Q E s:=by
 rcases g with ⟨kvs,k,e,ey,l⟩|⟨kvs,k,b,e,ey,eb,l⟩
 ·subst ey
  obtain ⟨z,hd,vs,rel,dd⟩:=dk_rd I.hok e
  refine wpAny_notIn_of (kV_is ry) hd dd.mapOf ?_
  rw [←(rel.val k).isSome_eq,←l]
  exact h _ (I.tok _)
 ·subst ey
  cases (show u=Value.ref b from ry)
  obtain ⟨z,hd,xs,rel,dd⟩:=dt_rd I.hok e
  refine wpAny_notIn_heap (tupleKind_room_in1 hu) (key_of I.hok eb) hd dd ?_
  have q:=(rel.val k).isSome_eq
  rw [Option.isSome_map] at q
  rw [←q,←l]
  exact h _ (I.tok _)
theorem d_write {h':Heap} {t':Nat} {ob:HO} (I:Inv X pins σ H s) (mu:Mut (H a)) (hs:Heap.SameBut a s.heap h') (he:∃q,h'.get? a=some q) (new:ObjOk X.prog X.w (upd H a ob) h' a ob):
  Inv X pins σ (upd H a ob) {s with heap:=h',toks:=t'}:=
 I.write (x:=a) (e:=a) mu (.inl rfl) (fun b q hb z=>(hs.2 b hb).trans z) he new
theorem dk_new {P:Program} {w:World} {H':Hp} {h':Heap} {kvs:List (Key×V)} {vs:List (Key×Value)} (z:kvs.length≤sizeLine) (hd:(a==sysModules)=false) (rel:KV kvs vs) (dd:h'.DictOf (Bj P w) a vs):
  ObjOk P w H' h' a (.dK kvs):=⟨z,hd,vs,rel,dd⟩
theorem d_setItem {H':Hp} {Q:Unit→Shared→Prop} (hu:A.units+1<cLine) (I:Inv X pins σ H s) (g:DPut H a y v H') (ry:RelV y u) (rv:RelV v r) (h:∀s',Inv X pins σ H' s'→Q () s'):
  wpAny (model X.prog X.w) A (setItem (.ref a) u r) Q E s:=by
 rcases g with ⟨kvs,k,e,ey,l,eH⟩|⟨kvs,k,b,e,ey,eb,l,eH⟩
 ·subst ey eH
  obtain ⟨z,hd,vs,rel,dd⟩:=dk_of I.hok e
  have hz:vs.length≤sizeLine:=by rw [←rel.length];exact z
  have hl:(Cm kvs k v).length≤sizeLine:=by have:=length_putK kvs k v;exact Nat.le_trans (by assumption) (by assumption)
  refine wpAny_setItem_pairs (hsz:=hz) (kV_is ry) dd fun h' dd' hs=>h _ ?_
  have he:∃q,h'.get? a=some q:=let ⟨q,_,_,hq,_⟩:=dd';⟨q,hq⟩
  exact d_write I (by rw [e];exact True.intro) hs he (dk_new hl hd (rel.put k rv) dd')
 ·subst ey eH
  cases (show u=Value.ref b from ry)
  obtain ⟨z,hd,xs,rel,dd⟩:=dt_of I.hok e
  have hz:xs.length≤sizeLine:=by rw [←Paired.length rel];exact z
  have hl:(Cm kvs k v).length≤sizeLine:=by have:=length_putK kvs k v;exact Nat.le_trans (by assumption) (by assumption)
  refine wpAny_setItem_heap (hsz:=hz) (tupleKind_room_in1 hu) (key_of I.hok eb) dd fun h' dd' hs=>h _ ?_
  obtain ⟨q,es,ep,hq,h2,h3,h4,_,h5⟩:=dd'
  refine d_write I (by rw [e];exact True.intro) hs ⟨q,hq⟩ ⟨hl,hd,_,(rel.put k eb rv).keeps fun c ys ec=> ?_,q,es,ep,hq,h2,h3,h4,h5⟩
  rw [Ai (Ao ec e (fun z=>nomatch z))]
  exact ec
end
section
variable {X:Cx} {pins:List (Addr×Obj)} {σ:St} {H:Hp} {s:Shared} {a:Addr} {kvs:List (Key×V)} {k:Key} {u:Value} {A:Around} {E:Value→Shared→Prop}
theorem d_delItem {Q:Unit→Shared→Prop} (I:Inv X pins σ H s) (e:H a=some (.dK kvs)) (ry:RelV (kV k) u) (l:(Bn kvs k).isSome=true) (h:∀s',Inv X pins σ (upd H a (.dK (dropK kvs k))) s'→Q () s'):
  wpAny (model X.prog X.w) A (delItem (.ref a) u) Q E s:=by
 obtain ⟨z,hd,vs,rel,dd⟩:=dk_of I.hok e
 refine wpAny_delItem_slot dd.typeIs (by decide) PySem.F.slot_dict_delitem
  (call_meetsIn PySem.F.slot_dict_delitem dd.typeIs PySem.F.entry_dict_delitem (PySem.F.args_dict_delitem_2 _ _) (meets_dict_delitem_pairs (Bj X.prog X.w) a (kV_is ry)) ⟨vs,dd,by rw [←rel.length];exact z,by rw [←(rel.val k).isSome_eq];exact l,fun h' dd' hs=>h _ ?_⟩)
 have he:∃q,h'.get? a=some q:=let ⟨q,_,_,hq,_⟩:=dd';⟨q,hq⟩
 exact d_write I (by rw [e];exact True.intro) hs he (dk_new (Nat.le_trans (dropK_le kvs k) z) hd (rel.drop k) dd')
theorem d_pop {v:V} {more:List Value} {Q:Value→Shared→Prop} (I:Inv X pins σ H s) (e:H a=some (.dK kvs)) (ry:RelV (kV k) u) (l:Bn kvs k=some v) (hm:more=[]∨∃x,more=[x])
  (h:∀w' s',Inv X pins σ (upd H a (.dK (dropK kvs k))) s'→RelV v w'→Q w' s'):wpAny (model X.prog X.w) A (call (.builtin "dict.pop") (.ref a::u::more)) Q E s:=by
 obtain ⟨z,hd,vs,rel,dd⟩:=dk_of I.hok e
 obtain ⟨w',hw,rw'⟩:=RelO.some_of (v:=v) (o:=valueAt vs k) (by rw [←l];exact rel.val k)
 have hp:(keyPart u).isSome=true:=by
  cases k with
  |inl i=>obtain ⟨t,q⟩:=(show ∃t,u=Value.int i t from ry);subst q;rfl
  |inr x=>obtain ⟨t,q⟩:=(show ∃t,u=Value.str x t from ry);subst q;rfl
 have ha:argsOk "dict.pop" ⟨.ref a::u::more,[]⟩:=by
  rcases hm with q|⟨x,q⟩
  ·subst q;exact PySem.F.args_dict_pop_2 _ _
  ·subst q;exact PySem.F.args_dict_pop_3 _ _ _
 refine call_meetsIn PySem.F.slot_dict_pop dd.typeIs PySem.F.entry_dict_pop ha (meets_dict_pop_there (Bj X.prog X.w) a (kV_is ry) more hm hp)
  ⟨vs,w',dd,by rw [←rel.length];exact z,hw,fun h' dd' hs=>h w' _ ?_ rw'⟩
 have he:∃q,h'.get? a=some q:=let ⟨q,_,_,hq,_⟩:=dd';⟨q,hq⟩
 exact d_write I (by rw [e];exact True.intro) hs he (dk_new (Nat.le_trans (dropK_le kvs k) z) hd (rel.drop k) dd')
theorem d_len {Q:Value→Shared→Prop} (I:Inv X pins σ H s) (e:Rd H a (.dK kvs)) (h:∀t s',Inv X pins σ H s'→Q (.int kvs.length t) s'):wpAny (model X.prog X.w) A (call (.builtin "len") [.ref a]) Q E s:=by
 obtain ⟨z,hd,vs,rel,dd⟩:=dk_rd I.hok e
 refine call_len_dict hd dd (by rw [←rel.length];rw [sizeLine_eq] at z;omega) ?_
 rw [←rel.length]
 exact h _ _ (I.tok _)
end
def NoSl (i:Expr):Prop:=∀ov iv,subscripted i false ov iv=operate [ov,iv] (getItem ov iv)
theorem subD_of {prog:Program} {w:World} {A:Around} {E:Value→Shared→Prop} {s:Shared} {env:Env} {value slice:Expr} {pos:Pos} {T id:String} {Q:Value→Shared→Prop}
  (hl:typeLookup (.type T) "__getitem__"=pure (some (.builtin id))) (hs:NoSl slice)
  (h:wpAny (model prog w) A (eval value env) (fun o s₁=>wpAny (model prog w) A (eval slice env) (fun i s₂=>s₂.TypeIs o T∧wpAny (model prog w) A (getItem o i) Q E s₂) E s₁) E s):
  wpAny (model prog w) A (eval (.Subscript value slice pos) env) Q E s:=by
 refine Subscript_ (wpAny_mono h (fun o s₁ h₁=>wpAny_mono h₁ (fun i s₂ h₂=> ?_) fun _ _ x=>x) fun _ _ x=>x)
 obtain ⟨hT,h₂⟩:=h₂
 unfold subscriptTail
 refine wpAny_bind ?_
 rw [getitemInPython_of_ne hT.not_modules]
 refine wpAny_bind (wpAny_specialOf hT hl ?_)
 have fin:wpAny (model prog w) A (subscripted slice false o i) (fun r s₃=>wpAny (model prog w) A (letTemporaryGo value o r >>=fun _=>pure r) Q E s₃) E s₂:=by
  rw [hs o i]
  exact wpAny_operating (wpAny_mono h₂ (fun r s₃ h₃=>wpAny_bind (wpAny_letTemporaryGo (wpAny_pure h₃))) fun _ _ x=>x)
 first
  |exact wpAny_pure (wpAny_bind fin)
  |exact wpAny_bind (wpAny_pure (wpAny_bind fin))
  |exact wpAny_bind fin
theorem dict_typeIs {X:Cx} {pins:List (Addr×Obj)} {σ:St} {H:Hp} {s:Shared} {a:Addr} {y:V} {o:Option V} (I:Inv X pins σ H s) (g:DGet H a y o):s.TypeIs (.ref a) "dict":=by
 rcases g with ⟨kvs,k,e,_,_⟩|⟨kvs,k,b,e,_,_,_⟩
 ·obtain ⟨_,_,vs,_,dd⟩:=dk_rd I.hok e
  exact dd.typeIs
 ·obtain ⟨_,_,xs,_,dd⟩:=dt_rd I.hok e
  exact dd.typeIs
def tDGet (td ty:TE):TE:=fun σ H Q=>td σ H fun x H1=>ty σ H1 fun y H2=>∃a v,x= .ref a∧DGet H2 a y (some v)∧Q v H2
def tDNotIn (ty td:TE):TE:=fun σ H Q=>ty σ H fun y H1=>td σ H1 fun x H2=>∃a o,x= .ref a∧DGet H2 a y o∧Q (.bl (!o.isSome)) H2
def sDPut (td ty tv:TE):TS:=fun D σ H=>tv σ H fun v H1=>td σ H1 fun x H2=>ty σ H2 fun y H3=>∃a H4,x= .ref a∧DPut H3 a y v H4∧D.nx σ H4
def sDDel (td ty:TE):TS:=fun D σ H=>td σ H fun x H1=>ty σ H1 fun y H2=>∃a kvs k,x= .ref a∧H2 a=some (.dK kvs)∧y=kV k∧(Bn kvs k).isSome=true∧D.nx σ (upd H2 a (.dK (dropK kvs k)))
section
variable {X:Cx} {o i e value:Expr} {pos pos' tpos:Pos} {td ty tv:TE}
theorem pe_dget (hu:X.A.units+1<cLine) (ho:PE X o td) (hi:PE X i ty) (hs:NoSl i):PE X (.Subscript o i pos) (tDGet td ty):=by
 intro pins s σ H Q I h
 refine subD_of PySem.F.slot_dict_getitem.lookup hs (thn (ho pins s σ H _ I h) fun u s1 ⟨x,H1,I1,rx,q1⟩=>thn (hi pins s1 σ H1 _ I1 q1) fun iv s2 ⟨y,H2,I2,ry,a,v,ex,g,q2⟩=> ?_)
 subst ex
 obtain rfl:u=Value.ref a:=rx
 exact ⟨dict_typeIs I2 g,d_getItem hu I2 g ry fun w' s3 I3 rw'=>⟨v,H2,I3,rw',q2⟩⟩
theorem pc_dnotin (hu:X.A.units+1<cLine) (hi:PE X i ty) (ho:PE X o td):PC X .NotIn i o (tDNotIn ty td):=by
 intro pins s σ H Q I h
 refine thn (hi pins s σ H _ I h) fun iv s1 ⟨y,H1,I1,ry,q1⟩=>thn (ho pins s1 σ H1 _ I1 q1) fun u s2 ⟨x,H2,I2,rx,a,ov,ex,g,q2⟩=> ?_
 subst ex
 obtain rfl:u=Value.ref a:=rx
 exact d_notIn hu I2 g ry fun s3 I3=>⟨.bl (!ov.isSome),H2,I3,rfl,q2⟩
theorem ps_dput (hu:X.A.units+1<cLine) (ho:PE X o td) (hi:PE X i ty) (hv:PE X value tv) (hs:swapsWith value (some (.Subscript o i pos')) pos.line X.env=pure false):
  PS X (.Assign [.Subscript o i pos'] value pos) (sDPut td ty tv):=by
 intro pins s σ H D I h
 refine wpAny_Assign_Subscript (thn (hv pins s σ H _ I h) fun r s1 ⟨v,H1,I1,rv,q1⟩=>thn (ho pins s1 σ H1 _ I1 q1) fun u s2 ⟨x,H2,I2,rx,q2⟩=>thn (hi pins s2 σ H2 _ I2 q2) fun iv s3 ⟨y,H3,I3,ry,a,H4,ex,g,q3⟩=> ?_) hs
 subst ex
 obtain rfl:u=Value.ref a:=rx
 exact d_setItem hu I3 g ry rv fun s4 I4=>⟨σ,H4,I4,q3⟩
theorem ps_ddel (ho:PE X o td) (hi:PE X i ty):PS X (.Delete [.Subscript o i tpos] pos) (sDDel td ty):=by
 intro pins s σ H D I h
 refine wpAny_Delete (wpAny_deleteEach_cons (wpAny_delete_Subscript (thn (ho pins s σ H _ I h) fun u s1 ⟨x,H1,I1,rx,q1⟩=>thn (hi pins s1 σ H1 _ I1 q1) fun iv s2 ⟨y,H2,I2,ry,a,kvs,k,ex,e,ey,l,q2⟩=> ?_)))
 subst ex ey
 obtain rfl:u=Value.ref a:=rx
 exact d_delItem I2 e ry l fun s3 I3=>wpAny_deleteEach_nil ⟨σ,_,I3,q2⟩
end
theorem dk_empty {P:Program} {w:World} {H:Hp} (h:Heap) (hb:sysModules<h.objs.size):ObjOk P w H (h.push {cls:= .type "dict",data:= .dict #[]}) h.objs.size (.dK []):=
 ⟨Nat.zero_le _,beq_eq_false_iff_ne.mpr (Ne.symm (Nat.ne_of_lt hb)),[],.nil,Heap.DictOf.new h⟩
theorem dt_empty {P:Program} {w:World} {H:Hp} (h:Heap) (hb:sysModules<h.objs.size):ObjOk P w H (h.push {cls:= .type "dict",data:= .dict #[]}) h.objs.size (.dT []):=
 ⟨Nat.zero_le _,beq_eq_false_iff_ne.mpr (Ne.symm (Nat.ne_of_lt hb)),[],.nil,_,#[],0,Heap.get?_push_size _ rfl,⟨rfl,rfl,rfl⟩,rfl,rfl,List.nodup_nil⟩
def tDNewK:TE:=fun _ H Q=>∀p,H p=none→Q (.ref p) (upd H p (.dK []))
def tDNewT:TE:=fun _ H Q=>∀p,H p=none→Q (.ref p) (upd H p (.dT []))
section
variable {X:Cx} {pos:Pos}
theorem pe_dnewK:PE X (.Dict [] [] pos) tDNewK:=fun pins s σ H Q I h=>
 wpAny_Dict_empty ⟨.ref s.heap.objs.size,_,I.laid (a:=s.heap.objs.size) (o:= .dK []) (t':=s.toks) (fun _ _ q=>Heap.get?_push_of_some _ q) (Nat.le_refl _) (dk_empty s.heap I.big),rfl,h _ (I.hok.fresh (Nat.le_refl _))⟩
theorem pe_dnewT:PE X (.Dict [] [] pos) tDNewT:=fun pins s σ H Q I h=>
 wpAny_Dict_empty ⟨.ref s.heap.objs.size,_,I.laid (a:=s.heap.objs.size) (o:= .dT []) (t':=s.toks) (fun _ _ q=>Heap.get?_push_of_some _ q) (Nat.le_refl _) (dt_empty s.heap I.big),rfl,h _ (I.hok.fresh (Nat.le_refl _))⟩
end
structure M1 (X:Cx) (o:Expr) (m:Str) (apos:Pos) (e:Expr) (cpos:Pos):Prop where
 base:attributeBase o m X.env (eval o X.env)=eval o X.env
 few:((backTo cpos (starEach [e] X.env)).all (fun x=> !x.1) && (backToKw cpos (keywordEach [] X.env)).all (fun x=>x.1.isSome)
  && decide (([e]:List Expr).length+([]:List Keyword).length+(if ([]:List Keyword).isEmpty then 0 else 1)<30))=true
 line:(apos.endLine==cpos.line)=true
 trees:backTo cpos (starEach [e] X.env)=[(false,eval e X.env)]
structure M2 (X:Cx) (o:Expr) (m:Str) (apos:Pos) (e f:Expr) (cpos:Pos):Prop where
 base:attributeBase o m X.env (eval o X.env)=eval o X.env
 few:((backTo cpos (starEach [e,f] X.env)).all (fun x=> !x.1) && (backToKw cpos (keywordEach [] X.env)).all (fun x=>x.1.isSome)
  && decide (([e,f]:List Expr).length+([]:List Keyword).length+(if ([]:List Keyword).isEmpty then 0 else 1)<30))=true
 line:(apos.endLine==cpos.line)=true
 trees:backTo cpos (starEach [e,f] X.env)=[(false,eval e X.env),(false,eval f X.env)]
def IsD (H:Hp) (a:Addr):Prop:=(∃kvs,Rd H a (.dK kvs))∨∃kvs,Rd H a (.dT kvs)
theorem isD_at {X:Cx} {pins:List (Addr×Obj)} {σ:St} {H:Hp} {s:Shared} {a:Addr} (I:Inv X pins σ H s) (d:IsD H a):
  s.TypeIs (.ref a) "dict"∧(∀b,Value.ref a= .ref b→∃ob,s.heap.get? b=some ob∧ob.dict=none)∧(a==sysModules)=false:=by
 rcases d with ⟨kvs,e⟩|⟨kvs,e⟩
 ·obtain ⟨_,hd,vs,_,dd⟩:=dk_rd I.hok e
  refine ⟨dd.typeIs,fun b q=> ?_,hd⟩
  cases q
  obtain ⟨ob,_,_,h1,h2,_⟩:=dd
  exact ⟨ob,h1,h2.2.1⟩
 ·obtain ⟨_,hd,xs,_,dd⟩:=dt_rd I.hok e
  refine ⟨dd.typeIs,fun b q=> ?_,hd⟩
  cases q
  obtain ⟨ob,_,_,h1,h2,_⟩:=dd
  exact ⟨ob,h1,h2.2.1⟩
section
variable {X:Cx} {pins:List (Addr×Obj)} {σ:St} {H:Hp} {s:Shared} {a:Addr} {y d:V} {u r:Value} {o:Option V} {A:Around} {E:Value→Shared→Prop}
theorem d_get2 {Q:Value→Shared→Prop} (hu:A.units+1<cLine) (I:Inv X pins σ H s) (g:DGet H a y o) (ry:RelV y u) (rd:RelV d r) (h:∀w' s',Inv X pins σ H s'→RelV (o.getD d) w'→Q w' s'):
  wpAny (model X.prog X.w) A (call (.builtin "dict.get") [.ref a,u,r]) Q E s:=by
 rcases g with ⟨kvs,k,e,ey,l⟩|⟨kvs,k,b,e,ey,eb,l⟩
 ·subst ey
  obtain ⟨z,hd,vs,rel,dd⟩:=dk_rd I.hok e
  refine call_meetsIn PySem.F.slot_dict_get dd.typeIs PySem.F.entry_dict_get (PySem.F.args_dict_get_3 _ _ _) (meets_dict_get_default (Bj X.prog X.w) a (kV_is ry) hd r) ⟨_,dd.mapOf,h _ _ (I.tok _) ?_⟩
  rw [l]
  exact (rel.val k).getD rd
 ·subst ey
  cases (show u=Value.ref b from ry)
  obtain ⟨z,hd,xs,rel,dd⟩:=dt_rd I.hok e
  refine call_meetsIn PySem.F.slot_dict_get dd.typeIs PySem.F.entry_dict_get (PySem.F.args_dict_get_3 _ _ _) (meetsH_dict_get_default (tupleKind (Bj X.prog X.w)) a b hd r) ⟨tupleKind_room_in1 hu,k,xs,key_of I.hok eb,dd,h _ _ (I.tok _) ?_⟩
  rw [l]
  exact (rel.val k).getD rd
end
def tDGet2 (td ty tx:TE):TE:=fun σ H Q=>td σ H fun x H1=>∃a,x= .ref a∧IsD H1 a∧ty σ H1 fun y H2=>tx σ H2 fun z H3=>∃o,DGet H3 a y o∧Q (o.getD z) H3
def tDPop1 (td ty:TE):TE:=fun σ H Q=>td σ H fun x H1=>∃a,x= .ref a∧IsD H1 a∧ty σ H1 fun y H2=>∃kvs k v,H2 a=some (.dK kvs)∧y=kV k∧Bn kvs k=some v∧Q v (upd H2 a (.dK (dropK kvs k)))
section
variable {X:Cx} {o e f:Expr} {apos cpos:Pos} {td ty tx:TE}
theorem pe_dget2 (hu:X.A.units+1<cLine) (ho:PE X o td) (he:PE X e ty) (hf:PE X f tx) (m:M2 X o "get" apos e f cpos):PE X (.Call (.Attribute o "get" apos) [e,f] [] cpos) (tDGet2 td ty tx):=by
 intro pins s σ H Q I h
 refine wpAny_Call_method m.base m.few m.line PySem.F.plainAttrs_dict PySem.F.slot_dict_get PySem.F.type_dict_get (thn (ho pins s σ H _ I h) fun u s1 ⟨x,H1,I1,rx,a,ex,d,q1⟩=> ?_)
 subst ex
 obtain rfl:u=Value.ref a:=rx
 obtain ⟨t1,t2,_⟩:=isD_at I1 d
 refine ⟨t1,t2,?_⟩
 rw [m.trees]
 refine Calls.callWith_builtin rfl (Calls.evalArgs_plain (Calls.spliced_cons (thn (he pins s1 σ H1 _ I1 q1) fun iv s2 ⟨y,H2,I2,ry,q2⟩=>
  Calls.spliced_cons (thn (hf pins s2 σ H2 _ I2 q2) fun fv s3 ⟨z,H3,I3,rz,ov,g,q3⟩=>Calls.spliced_nil ?_))))
 exact d_get2 hu I3 g ry rz fun w' s4 I4 rw'=>⟨_,H3,I4,rw',q3⟩
theorem pe_dpop1 (ho:PE X o td) (he:PE X e ty) (m:M1 X o "pop" apos e cpos):PE X (.Call (.Attribute o "pop" apos) [e] [] cpos) (tDPop1 td ty):=by
 intro pins s σ H Q I h
 refine wpAny_Call_method m.base m.few m.line PySem.F.plainAttrs_dict PySem.F.slot_dict_pop PySem.F.type_dict_pop (thn (ho pins s σ H _ I h) fun u s1 ⟨x,H1,I1,rx,a,ex,d,q1⟩=> ?_)
 subst ex
 obtain rfl:u=Value.ref a:=rx
 obtain ⟨t1,t2,_⟩:=isD_at I1 d
 refine ⟨t1,t2,?_⟩
 rw [m.trees]
 refine Calls.callWith_builtin rfl (Calls.evalArgs_plain (Calls.spliced_cons (thn (he pins s1 σ H1 _ I1 q1) fun iv s2 ⟨y,H2,I2,ry,kvs,k,v,ea,ey,l,q2⟩=>Calls.spliced_nil ?_)))
 subst ey
 exact d_pop I2 ea ry l (.inl rfl) fun w' s3 I3 rw'=>⟨v,_,I3,rw',q2⟩
end
end L2
namespace Att
open PySem PySem.W PySem.Calls PyProof.Rows
theorem ints_of_wellAll {P:Params} {h:Heap}:∀(ns:List Int) (vs:List Value),WellAll P h vs (ns.map WData.int)→IntsAre vs ns:=by
 intro ns
 induction ns with
 |nil=>
  intro vs w
  rw [List.map_nil] at w
  cases w
  exact .nil
 |cons n ns ih=>
  intro vs w
  rw [List.map_cons] at w
  cases w with
  |cons a b=>
   cases a
   exact .cons _ _ (ih _ b)
theorem script_of {l:OpenLaw} {n:Nat} (hn:l.most=some n) {P:Params} {h:Heap} {args:List WData} {vals:List Value}
  (hpre:l.row.toRowW.claim.pre args=true) (hwl:WellAll P h vals args):
  ∃a vs ns,vals=[Value.ref a]∧args=[WData.list (ns.map WData.int)]∧h.get? a=some {cls:= .type "list",data:= .seq vs.toArray}∧IntsAre vs ns∧ns.length≤n:=by
 have hsh:WShape.hasAll [] args [.list .int]=true:=(pre_splitW hpre).1
 have hc:l.pre.holds [] {args:=args}=true:=(pre_splitW hpre).2
 obtain ⟨d,r,rfl,h1,h2⟩:=hasAllW_cons hsh
 obtain rfl:=hasAllW_nil h2
 obtain ⟨xs,rfl,h3⟩:=hasW_list h1
 obtain ⟨ns,rfl⟩:=items_int h3
 have hlen:ns.length≤n:=by
  unfold OpenLaw.pre at hc
  have h4:(WTm.not (.lt (.lit (.int (n:Int))) (.len (.arg 0)))).holds [] {args:=[.list (ns.map .int)]}=true:=by
   have h4:=(holds_andW hc).1
   rw [hn] at h4
   exact h4
  have h5:=condW_of h4 (w_not (w_lt w_lit (w_len_list (w_arg rfl))))
  rw [List.length_map] at h5
  refine Nat.le_of_not_lt fun q=> ?_
  have q':(n:Int)<((ns.length:Nat):Int):=by omega
  first
   |(rw [decide_eq_true q'] at h5;exact absurd h5 (by decide))
   |(simp at h5;omega)
 cases hwl with
 |cons w1 w2=>
  cases w2
  cases w1 with
  |list ho hall=>exact ⟨_,_,ns,rfl,rfl,ho,ints_of_wellAll ns _ hall,hlen⟩
theorem post_true (l:OpenLaw) (args:List WData):l.row.toRowW.claim.post args (.bool true) args=true:=
 postW_of (r:=l.row.toRowW) (X:=(true==true))
  (show WShape.has [] (.bool true) .bool=true by first|rfl|decide|simp [WShape.has,WShape.arms,WShape.armsAll])
  (show (WTm.eq .res (.lit (.bool true))).value [] {args:=args,res:=some (.bool true),after:=args}=some (.bool (true==true)) from w_eq_bool (w_res rfl) w_lit) rfl
theorem attach_call {l:OpenLaw} {n:Nat} {q:Program} {loose:List Str} {XP:(Str→Option Value)→Heap→Prop} {YP:World→Heap→Prop} {d:DefRec}
  (hn:l.most=some n) (hdf:d.params.defaults=[])
  (call:∀(w:World) (s₀ s₁:Shared) (mg mb:Str→Option Value) (fa:Addr) (o:Obj) (pm cd doc:Value) (a:Addr) (vs:List Value) (ns:List Int),
   Ground q loose [] XP w s₀ mg mb s₁.heap→YP w s₁.heap→
   s₁.heap.get? fa=some o→o.data= .func (docDef d.name d.params d.body d.scope pm cd doc)→s₁.heap.CodeRec cd d.name→mg d.name=some (.ref fa)→
   s₁.heap.get? a=some {cls:= .type "list",data:= .seq vs.toArray}→IntsAre vs ns→ns.length≤n→s₁.gens= #[]→
   codeAny (model l.prog w) callerA (.call (.ref fa) ⟨[.ref a],[]⟩) (fun r s'=>r= .ok (.ret (.bool true))∧OldK s₁.heap s'.heap∧s'.os=s₁.os∧AllBare s'.gens) s₁):
  WalkO q loose XP YP l.row.toRowW d [] (fun f vs=>PySem.call f vs):=by
 intro w s₀ s₁ mg mb G Y fa o pm cd doc dV kV ho hd hcd hD hmg hg args vals as hpre hlay hrd hwl hlo
 obtain rfl:dV= .none:=Dflts.none hD hdf
 obtain rfl:kV= .none:=Dflts.noKw hD
 obtain ⟨a,vs,ns,rfl,rfl,hobj,hints,hlen⟩:=script_of hn hpre hwl
 refine enter_call (codeAny_mono (call w s₀ s₁ mg mb fa o pm cd doc a vs ns G Y ho (fd_plain hd) hcd hmg hobj hints hlen hg) fun r s' hq=> ?_)
 obtain ⟨rfl,h2,h3,h4⟩:=hq
 exact ⟨.inl ⟨.bool true,.bool true,[],rfl,fun _=>rfl,.bool true,post_true l _,fun _=>⟨List.Pairwise.nil,fun _ hm=>(nomatch hm)⟩⟩,h2,h3,h4⟩
end Att
namespace L2
open PySem PySem.Spec PyProof.Rows
theorem vals_ints:∀{vs:List Value} {ns:List Int},IntsAre vs ns→Vals (ns.map V.int) vs
 |_,_,.nil=> .nil
 |_,_,.cons n t h=> .cons ⟨t,rfl⟩ (vals_ints h)
def Only (H:Hp):Prop:=∀b,H b=none∨∃o xs,H b=some (.frz o (.lst xs))
theorem law_call {P:Program} {w:World} {K:PySem.W.Frag} {mg mb:Str→Option Value} {CX:CXT} {k:Nat} {fa a:Addr} {fd:FuncData} {x:Str} {sp:Sp} {s₁:Shared} {vs:List Value} {ns:List Int}
  (KX:K.In s₁.heap) (hns:s₁.heap.Ns mainGlobals mg) (hb:s₁.heap.Ns builtinsNs mb) (hbb:∀x:Str,x≠"__name__"→mb x=bootBuiltins x) (hlim:s₁.heap.NoLimit) (hg:s₁.gens= #[])
  (ha:s₁.heap.get? a=some {cls:= .type "list",data:= .seq vs.toArray}) (hi:IntsAre vs ns) (hl:ns.length≤sizeLine) (hr:Room k callerA)
  (F:∀base:Heap,K.In base→base.Ns mainGlobals mg→FnOk P w K mg base CX k fa fd [x] sp) (hbind:∀(s:Shared) (u:Value),BindsTo s fd ⟨[u],[]⟩ [(x,u)])
  (hsp:∀H:Hp,Only H→SqL K H a (ns.map V.int)→sp [.ref a] H (fun v _=>v= .bl true) fun _ _ _=>False)
  (hCX:∀H e s',CX [] H s₁ (fun _ _ _=>False) e s'→False):
  codeAny (model P w) callerA (.call (.ref fa) ⟨[.ref a],[]⟩) (fun r s'=>r= .ok (.ret (.bool true))∧OldK s₁.heap s'.heap∧s'.os=s₁.os∧AllBare s'.gens) s₁:=by
 have rv:=vals_ints hi
 have lenV:=hi.length
 have core:∀H:Hp,Only H→SqL K H a (ns.map V.int)→HOk P w H s₁.heap→(∀b,H b≠none→b=a)→(H a≠none→K.lookup a=none)→
   codeAny (model P w) callerA (.call (.ref fa) ⟨[.ref a],[]⟩) (fun r s'=>r= .ok (.ret (.bool true))∧OldK s₁.heap s'.heap∧s'.os=s₁.os∧AllBare s'.gens) s₁:=by
  intro H hO hS hok hA hK
  have base_of:∀{b:Addr} {o:Obj},s₁.heap.get? b=some o→H b=none→(hidT s₁.heap H).get? b=some o:=fun e n=>hidT_get e n
  have noA:∀{b:Addr} {o:Obj} {es:Array DictEntry} {ep:Nat},s₁.heap.get? b=some o→o.data= .dict es ep→H b=none:=fun {b o es ep} e d=>by
   cases q:H b with
   |none=>rfl
   |some u=>
    have e':b=a:=hA b (by rw [q];simp)
    subst e'
    rw [ha] at e;cases e
    have d':Data.seq vs.toArray _=Data.dict es ep:=d
    cases d'
  have nsK:∀{b:Addr} {m:Str→Option Value},s₁.heap.Ns b m→(hidT s₁.heap H).Ns b m:=fun {b m} ⟨o,es,ep,e,d,r⟩=>⟨o,es,ep,base_of e (noA e d),d,r⟩
  have hKb:K.In (hidT s₁.heap H):=fun b o e=>base_of (KX b o e) (by
   cases q:H b with
   |none=>rfl
   |some u=>
    have e':b=a:=hA b (by rw [q];simp)
    subst e'
    rw [hK (by rw [q];simp)] at e;cases e)
  have hM:Mod K mg (hidT s₁.heap H):=⟨hKb,nsK hns,⟨mb,nsK hb,hbb⟩,let ⟨mc,h1,h2⟩:=hlim;⟨mc,nsK h1,h2⟩⟩
  have e0:Env0 P w K mg (hidT s₁.heap H) callerA [] s₁ H:=⟨rfl,hM,fun b o e=>of_hidT e,Nat.le_of_eq (hidT_size _ _),trivial,fun b hb=>absurd (show b∈([]:List Addr) from hb) (by simp),hok,.of_eq hg⟩
  refine codeAny_mono ((F _ hKb (nsK hns)).run callerA [] s₁ H ⟨[.ref a],[]⟩ [.ref a] [.ref a] _ _ hr e0 (hbind s₁ (.ref a)) (.cons rfl .nil) (hsp H hO hS)) fun r s' h=> ?_
  cases r with
  |error e=>exact (hCX H e s' h).elim
  |ok fl=>
   cases fl with
   |next=>exact False.elim h
   |brk=>exact False.elim h
   |cont=>exact False.elim h
   |ret u=>
    obtain ⟨v,H',os,bare,un,hok',r',q⟩:=h
    have q':v= .bl true:=q
    subst q'
    obtain rfl:u=Value.bool true:=r'
    refine ⟨rfl,OldK.of_keep fun b o e=> ?_,os,bare⟩
    cases q:H b with
    |none=>exact un.keep b o e q (by intro z;exact absurd (show b∈([]:List Addr) from z) (by simp)) (by simp)
    |some u=>
     rcases hO b with z|⟨ob,xs,z⟩
     ·rw [q] at z;cases z
     ·have z2:=un.frzs b ob _ z
      obtain ⟨e1,_⟩:=hok b _ z
      obtain ⟨e2,_⟩:=hok' b _ z2
      rw [e] at e1;cases e1
      exact e2
 cases hk:K.lookup a with
 |some o=>
  have e:=KX a o hk
  rw [ha] at e
  cases e
  refine core (fun _=>none) (fun _=> .inl rfl) (.inr ⟨_,vs.toArray,_,hk,rfl,rfl,rfl,by rw [List.size_toArray,lenV];exact hl,by simpa using rv⟩) (fun b u z=>by have z':(none:Option HO)=some u:=z;cases z') (fun b z=>absurd rfl z) fun z=>absurd rfl z
 |none=>
  refine core (fun b=>if b=a then some (.frz {cls:= .type "list",data:= .seq vs.toArray} (.lst (ns.map V.int))) else none) (fun b=> ?_) (.inl (.inr ⟨{cls:= .type "list",data:= .seq vs.toArray},if_pos rfl⟩)) (fun b u z=> ?_) (fun b z=> ?_) fun _=>hk
  ·by_cases hb:b=a
   ·exact .inr ⟨_,_,if_pos hb⟩
   ·exact .inl (if_neg hb)
  ·by_cases hb:b=a
   ·have z':=(if_pos hb).symm.trans z
    cases z'
    subst hb
    exact ⟨ha,by rw [List.length_map];exact hl,vs,_,rv,ha⟩
   ·have z':=(if_neg hb).symm.trans z
    cases z'
  ·by_cases hb:b=a
   ·exact hb
   ·exact absurd (if_neg hb) z
end L2
namespace L2
open PySem PySem.Spec PyProof.Rows
theorem walk_of {l:PySem.W.OpenLaw} {n k:Nat} {q:Program} {loose:List Str} {XP:(Str→Option Value)→Heap→Prop} {YP:World→Heap→Prop} {d:DefRec} {K:Params→PySem.W.Frag} {CX:World→CXT} {sp:World→Sp} {x:Str}
  (hn:l.most=some n) (hn2:n≤sizeLine) (hdf:d.params.defaults=[]) (hr:Room k callerA)
  (hY:∀(w:World) (h:Heap),YP w h→(K w.params).In h)
  (F:∀(w:World) (mg:Str→Option Value) (fa:Addr) (h:Heap),(K w.params).In h→h.Ns mainGlobals mg→mg d.name=some (.ref fa)→
   ∃fd:FuncData,(∀(s:Shared) (u:Value),BindsTo s fd ⟨[u],[]⟩ [(x,u)])∧
    ∀base:Heap,(K w.params).In base→base.Ns mainGlobals mg→FnOk l.prog w (K w.params) mg base (CX w) k fa fd [x] (sp w))
  (hsp:∀(w:World) (H:Hp) (a:Addr) (ns:List Int),ns.length≤n→Only H→SqL (K w.params) H a (ns.map V.int)→sp w [.ref a] H (fun v _=>v= .bl true) fun _ _ _=>False)
  (hCX:∀(w:World) (H:Hp) (s:Shared) (e:Value) (s':Shared),CX w [] H s (fun _ _ _=>False) e s'→False):
  PySem.W.WalkO q loose XP YP l.row.toRowW d [] (fun f vs=>PySem.call f vs):=by
 refine Att.attach_call hn hdf fun w s₀ s₁ mg mb fa o pm cd doc a vs ns G Y ho hd hcd hmg hobj hints hlen hg=> ?_
 have KX:=hY w _ Y
 obtain ⟨fd,hb,hF⟩:=F w mg fa _ KX G.T.g hmg
 exact law_call KX G.T.g G.T.b G.T.builtins G.T.nolimit hg hobj hints (Nat.le_trans hlen hn2) hr hF hb (fun H hO hS=>hsp w H a ns hlen hO hS) fun H e s'=>hCX w H s₁ e s'
end L2
/- THE LAST THEOREM (shape;LID,My.* are yours):
  My.Adr:a structure of the addresses that your layer names (classes,functions);My.Txt K t:a structure (Prop) of the equations over K;
  My.txt_mk:{K} {implicit addresses ..} (e1:nsIn K mainGlobals "law"=some (some (.ref f))) (e2:K.lookup f=some ⟨oc,od,.func (fnOf "law" "law" params body scope dV kV doc pm an cdv ct),sl⟩) (e3:codeIn K cdv "law"=true) .. :∃t,My.Txt K t
set_option maxRecDepth 100000 in
set_option maxHeartbeats 0 in
theorem PySem.Challenge.cw_LID_holds : PySem.Challenge.rw_LID.Holds := by
 w_on;o_law;k_head;(case hw=>w_witness2)
 k_fill
 refine L2.walk_of (l:=PySem.Challenge.rw_LID) (n:=63) (k:=40) (x:="script") (CX:=fun w=> ..) (sp:=fun _=>My.sp_law) rfl (by decide) rfl ⟨rfl,by decide,by decide⟩ (fun w h Y=>PySem.W.kIn_of Y) ?F ?S ?C
 case F=>
  intro w mg fa h KX G hmg
  have T:∃t,My.Txt (L2.KOf KX) t:=by
   dsimp only [L2.KOf]                          -- K must stand as «<heap const> w.params» for k_is
   refine' My.txt_mk ?e1 ?e2 ?e3 ..
   (case e1=>PySem.W.k_is)                    -- in the order:a name -> its address -> its object -> its parts
   (case e2=>PySem.W.k_is)
   ..
  obtain ⟨t,T⟩:=T
  have e0:=hmg.symm.trans (PySem.W.mg_of KX G T.law)
  cases e0                                       -- fa is the law's own address
  exact ⟨_,fun s u=> .of_eq rfl,fun base kb nb=>My.law_fn T kb nb⟩     -- if «.of_eq rfl» comes too early:refine' ⟨_,?b,fun base kb nb=>My.law_fn T kb nb⟩;exact fun s u=> .of_eq rfl
 case S=>exact fun w H a ns hl hO hS=> ..
 case C=>exact ..
(the tactic k_is has no namespace:write k_is) -/
namespace L2
open PySem PySem.Spec PyProof.Rows
def Av (s:Stmt):Arguments:=match s with
 | .FunctionDef _ a _ _ _ _ _ _ _ _=>a
 |_=>{posonlyargs:=[],args:=[],vararg:=none,kwonlyargs:=[],kw_defaults:=[],kwarg:=none,defaults:=[]}
def Au (s:Stmt):List Stmt:=match s with
 | .FunctionDef _ _ b _ _ _ _ _ _ _=>b
 |_=>[]
def Ag (s:Stmt):Scope:=match s with
 | .FunctionDef _ _ _ _ _ _ sc _ _ _=>sc
 |_=>{kind:= .function,names:=[],isGenerator:=false,isCoroutine:=false}
abbrev CX0:CXT:=fun _ _ _ _ _ _=>False
abbrev E0:XK:=fun _ _ _=>False
theorem Ar {X:Cx}:Passes CX0 X E0:=fun _ _ _ _ _ _ _ h=>h.elim
structure Fun (K:PySem.W.Frag) (x qual:Str) (st:Stmt) (f:Addr) (fd:FuncData):Prop where
 ex:∃(oc:Value) (od:Option Addr) (kV doc pm:Value) (an:Option Addr) (cdv ct:Value) (osl:Array (Option Value)),
  fd=PySem.W.fnOf x qual (Av st) (Au st) (Ag st) .none kV doc pm an cdv ct∧K.lookup f=some ⟨oc,od,.func fd,osl⟩∧PySem.W.codeIn K cdv qual=true
 kp:PySem.W.keepIn K (.ref f)=true
section
variable {P:Program} {w:World} {K:PySem.W.Frag} {mg:Str→Option Value} {base:Heap}
theorem Fun.ok {x qual:Str} {st:Stmt} {f:Addr} {fd:FuncData} {N ps:List Str} {k:Nat} {sp:Sp} (F:Fun K x qual st f fd) (S:Ax N ps (Ag st)) (len:∀vs H Q E,sp vs H Q E→vs.length=ps.length)
  (hbody:∀(cdv:Value) (A:Around) (outer:List Env) (s:Shared) (H:Hp) (vs:List V) (Q:VK) (E:XK),Room k (A.deeper (envOfC qual (Ag st) s.heap.objs.size f cdv))→sp vs H Q E→
   ∃t,PSs (cxOf CX0 P w K mg base N qual (Ag st) f cdv A outer s H E).nox (Au st) t∧t {nx:=fun _ H'=>Q .non H',rt:=Q} (start N vs) H):FnOk P w K mg base CX0 (k+1) f fd ps sp:=by
 obtain ⟨oc,od,kV,doc,pm,an,cdv,ct,osl,rfl,lk,hcd⟩:=F.ex
 refine fn_of lk hcd S len fun A outer s H vs Q E hr hsp=> ?_
 obtain ⟨t,h,q⟩:=hbody cdv A outer s H vs Q E hr hsp
 exact ⟨t,h.nox,q⟩
theorem Fun.binds {x qual:Str} {st:Stmt} {f:Addr} {fd:FuncData} {ps:List Str} (F:Fun K x qual st f fd)
  (h:∀(kV doc pm:Value) (an:Option Addr) (cdv ct:Value) (us:List Value),us.length=ps.length→bindArgs (PySem.W.fnOf x qual (Av st) (Au st) (Ag st) .none kV doc pm an cdv ct) ⟨us,[]⟩=pure (ps.zip us)):Binds K fd ps []:=by
 obtain ⟨oc,od,kV,doc,pm,an,cdv,ct,osl,rfl,lk,hcd⟩:=F.ex
 exact .all (h kV doc pm an cdv ct)
theorem A3 {x qual:Str} {st:Stmt} {f:Addr} {oc:Value} {od an:Option Addr} {osl:Array (Option Value)} {kV doc pm cdv ct:Value} (l:K.lookup f=some ⟨oc,od,.func (PySem.W.fnOf x qual (Av st) (Au st) (Ag st) .none kV doc pm an cdv ct),osl⟩)
  (c:PySem.W.codeIn K cdv qual=true) (k:PySem.W.keepIn K (.ref f)=true):Fun K x qual st f (PySem.W.fnOf x qual (Av st) (Au st) (Ag st) .none kV doc pm an cdv ct):=⟨⟨oc,od,kV,doc,pm,an,cdv,ct,osl,rfl,l,c⟩,k⟩
end
theorem hu_of {A:Around} {k:Nat} (hr:Room k A):A.units+1<cLine:=Nat.lt_of_le_of_lt (Nat.add_le_add_left (by decide:1≤64) _) hr.units
theorem Aw {n:Nat} (h:n≤1000):n<sizeLine:=Nat.lt_of_le_of_lt h (by decide)
section
variable {X:Cx}
theorem pv (i:Nat) {x:Str} {pos:Pos} (hN:X.N[i]? =some x:=by rfl) (hv:Vis X.env.scope x:=by first|exact Or.inl rfl|exact Or.inr (Or.inl rfl)|exact Or.inr (Or.inr rfl)) (hd:(x==("__debug__":Str))=false:=by decide)
  (hcd:(x==("__classdict__":Str))=false:=by decide):PE X (.Name x pos) (tVar i):=pe_var hN hv hd hcd
theorem call_lenD:CallR X (.builtin "len") (fun xs H Q=>∃a kvs,xs=[V.ref a]∧H a=some (.dK kvs)∧Q (.int kvs.length) H):=by
 intro pins s σ H xs us Q I r h
 obtain ⟨a,kvs,rfl,ha,q⟩:=h
 obtain ⟨u,rfl,ru⟩:=Cy r
 cases ru
 exact d_len I (.inl ha) fun t s' I'=>⟨.int kvs.length,H,I',⟨t,rfl⟩,q⟩
end
theorem C3 {A B:Prop} (h:B):if false=true then A else B:=by
 rw [if_neg Bool.false_ne_true]
 exact h
theorem iteT {A B:Prop} (h:A):if true=true then A else B:=by
 rw [if_pos rfl]
 exact h
theorem Cw {c A B:Prop} [Decidable c] (h1:c→A) (h2:¬c→B):if c then A else B:=by
 by_cases h:c
 ·rw [if_pos h]
  exact h1 h
 ·rw [if_neg h]
  exact h2 h
def Same (H H':Hp):Prop:=∀b o,H b=some o→H' b=some o
theorem Same.trans {H H1 H2:Hp} (a:Same H H1) (b:Same H1 H2):Same H H2:=fun c o h=>b c o (a c o h)
theorem Same.free {H H':Hp} (e:Same H H') {l:Addr} (h:H' l=Option.none):H l=Option.none:=by
 cases q:H l with
 |none=>rfl
 |some o=>
  rw [e l o q] at h
  cases h
end L2
namespace L2
theorem Cg {p:Prop} (h:∀G:Prop,(p→G)→G):p:=h p id
end L2
namespace L2
open PySem PySem.Spec PyProof.Rows
def C0 (env:Env):List (Str×NameKind)→List (Str×Addr)→List (Str×Addr)
 |[],cs=>cs
 |(n,k)::r,cs=>C0 env r (if k= .free then (n,(env.cells.lookup n).getD 0)::cs else cs)
theorem closes_ok {env:Env}:∀(ns:List (Str×NameKind)) (cs:List (Str×Addr)),(∀p∈ns,p.2= .free→(env.cells.lookup p.1).isSome=true)→
  (forIn ns cs fun (x:Str×NameKind) r=>(do
   let mut cs:=r
   if x.2== .free then cs:=(x.1,←cellOf env x.1)::cs
   pure (ForInStep.yield cs):Sem (ForInStep (List (Str×Addr)))))=pure (C0 env ns cs)
 |[],cs,_=>rfl
 |(n,k)::r,cs,h=>by
  have ih:=fun cs=>closes_ok (env:=env) r cs fun p hp=>h p (List.mem_cons_of_mem _ hp)
  rw [List.forIn_cons]
  by_cases hk:k= .free
  ·subst hk
   have q:=h (n,.free) List.mem_cons_self rfl
   obtain ⟨c,hc⟩:=Option.isSome_iff_exists.mp q
   have e:cellOf env n=pure c:=by unfold cellOf;rw [hc]
   simp only [e]
   simp [C0,hc,ih]
   have:=ih ((n,c)::cs)
   simpa using this
  ·have hb:(k==NameKind.free)=false:=by simpa using hk
   simp [C0,hk]
   have:=ih cs
   simpa using this
theorem closureFor_closes {scope:Scope} {env:Env} (h:∀p∈scope.names,p.2= .free→(env.cells.lookup p.1).isSome=true):closureFor scope env=pure (C0 env scope.names []):=by
 have q:=closes_ok (env:=env) scope.names [] h
 unfold closureFor
 simp at q ⊢
 exact q
theorem closes_sub {env:Env}:∀(ns:List (Str×NameKind)) (cs:List (Str×Addr)),(∀p∈ns,p.2= .free→(env.cells.lookup p.1).isSome=true)→(∀y c,cs.lookup y=some c→env.cells.lookup y=some c)→
  ∀y c,(C0 env ns cs).lookup y=some c→env.cells.lookup y=some c
 |[],cs,_,h,y,c,e=>h y c e
 |(n,k)::r,cs,h,hc,y,c,e=>by
  unfold C0 at e
  refine closes_sub r _ (fun p hp=>h p (List.mem_cons_of_mem _ hp)) ?_ y c e
  intro y c e
  by_cases hk:k= .free
  ·subst hk
   rw [if_pos rfl] at e
   obtain ⟨d,hd⟩:=Option.isSome_iff_exists.mp (h (n,.free) List.mem_cons_self rfl)
   rw [List.lookup_cons] at e
   cases q:y==n with
   |true=>
    rw [q] at e
    have:y=n:=by simpa using q
    subst this
    rw [hd] at e ⊢
    exact e
   |false=>
    rw [q] at e
    exact hc y c e
  ·rw [if_neg hk] at e
   exact hc y c e
theorem closes_keep {env:Env} {y:Str}:∀(ns:List (Str×NameKind)) (cs:List (Str×Addr)),(cs.lookup y).isSome=true→((C0 env ns cs).lookup y).isSome=true
 |[],cs,h=>h
 |(n,k)::r,cs,h=>by
  unfold C0
  refine closes_keep r _ ?_
  split
  ·rw [List.lookup_cons]
   split
   ·rfl
   ·exact h
  ·exact h
theorem closes_has {env:Env} {y:Str}:∀(ns:List (Str×NameKind)) (cs:List (Str×Addr)),(y,NameKind.free)∈ns→((C0 env ns cs).lookup y).isSome=true
 |(n,k)::r,cs,h=>by
  unfold C0
  rcases List.mem_cons.mp h with e|e
  ·cases e
   refine closes_keep r _ ?_
   rw [if_pos rfl,List.lookup_cons]
   simp
  ·exact closes_has r _ e
def Cl (X:Cx) (scope:Scope) (N:List Str) (C:Addr) (s:Shared) (H:Hp) (ex:List Addr) (pins:List (Addr×Obj)):Cx where
 prog:=X.prog
 w:=X.w
 K:=X.K
 mg:=X.mg
 base:=X.base
 A:=X.A
 N:=N
 s₀:=s
 H₀:=H
 env:=compEnvC scope (C0 X.env scope.names []) C X.env
 outer:=X.stack
 stack:=X.stack
 ex:=ex
 fn:=fun _=>false
 calm:=X.calm
 pn:=X.pn++pins
 xe:=fun _ _=>False
def cst (nT:Nat) (js:List Nat) (σ:St):St:=List.replicate nT none++js.map fun j=>(σ[j]?).join
structure CScope (X:Cx) (scope:Scope) (T F:List Str) (js:List Nat):Prop where
 kind:scope.kind= .function
 nocell:∀y∈scope.names,y.2≠ .cell
 names:∀x∈scope.names,x.2= .local→scope.names.lookup x.1=some .local
 free:∀x∈scope.names,x.2= .free→X.env.kindOf x.1=some .cell
 loc:∀y∈T,(relabel scope X.env).names.lookup y=some .local
 cel:∀y∈F,(relabel scope X.env).names.lookup y=some .cell∧X.env.kindOf y=some .cell∧(y,NameKind.free)∈scope.names
 all:∀x∈(relabel scope X.env).names,(x.2= .cell∨x.2= .free)→(x.1,NameKind.free)∈scope.names
 js:js.map (fun j=>X.N[j]?)=F.map some
section
variable {X:Cx} {scope:Scope} {T F:List Str} {js:List Nat}
theorem comp_inv {pins:List (Addr×Obj)} {σ:St} {H:Hp} {s:Shared} {h1:Heap} {tk:Nat} {fp:List Addr} {m:Str→Option Value} (S:CScope X scope T F js) (I:Inv X pins σ H s)
  (hn:h1.Ns s.heap.objs.size m) (kk:∀b o,s.heap.get? b=some o→h1.get? b=some o) (hf:∀b∈fp,FpOk X pins H b∧∃o,s.heap.get? b=some o∧∀v,o.data≠ .cell v):
  Inv (Cl X scope (T++F) s.heap.objs.size s H fp pins) [] (cst T.length js σ) H {s with heap:=h1,toks:=tk}:=by
 have sub:=closes_sub (env:=X.env) scope.names [] (fun p hp hk=>by
  obtain ⟨c,e⟩:=I.ok.has p.1 (.inl (S.free p hp hk))
  rw [e];rfl) (fun y c e=>by simp at e)
 have ltC:∀y c,X.env.cells.lookup y=some c→c<s.heap.objs.size:=fun y c e=>by
  obtain ⟨v,z⟩:=I.cell y c e
  exact z.lt
 refine ⟨⟨I.ok.mod,?_,I.ok.glob,I.ok.blt,Nat.le_refl _,fun x y c e1 e2=>I.ok.inj x y c (sub x c e1) (sub y c e2),fun x hx=> ?_,fun x c hx=>absurd hx Bool.false_ne_true,I.ok.hd,I.ok.frames,.inl rfl,fun b hb=> ?_,I.bs,?_,fun b o e hb=> ?_,fun b hb hs=> ?_,I.stack,I.stkFree⟩,
  rfl,I.bare,Un.kept kk,⟨m,hn,fun i x v e1 e2 e3=> ?_⟩,fun x c e=> ?_,I.hok.fresh (Nat.le_refl _),fun x c e=>I.freeC x c (sub x c e),fun p hp=> ?_,I.hok.kept kk,?_⟩
 ·show (relabel scope X.env).kind= .function
  exact S.kind
 ·have hx:(relabel scope X.env).names.lookup x=some .cell∨(relabel scope X.env).names.lookup x=some .free:=hx
  have hm:(x,NameKind.free)∈scope.names:=by
   rcases hx with h|h
   ·exact S.all _ (PySem.mem_of_lookup h) (.inl rfl)
   ·exact S.all _ (PySem.mem_of_lookup h) (.inr rfl)
  exact Option.isSome_iff_exists.mp (closes_has scope.names [] hm)
 ·obtain ⟨⟨f0,f1,f2,f3,f4,f5⟩,o,ho,_⟩:=hf b hb
  exact ⟨Nat.ne_of_lt (Heap.lt_size ho),fun x c e=>f4 x c (sub x c e)⟩
 ·exact Nat.le_trans I.ok.bsz I.sz
 ·obtain ⟨⟨f0,f1,f2,f3,f4,f5⟩,_⟩:=hf b hb
  rcases f3 with z|z
  ·exact I.ok.noex b o e z
  ·exact absurd (Nat.lt_of_lt_of_le (Heap.lt_size e) (Nat.le_trans I.ok.bsz z)) (Nat.lt_irrefl _)
 ·obtain ⟨⟨f0,f1,f2,f3,f4,f5⟩,_⟩:=hf b hb
  rcases List.mem_cons.mp (I.stkSub b hs) with z|z
  ·exact f1 z
  ·exact f2 z
 ·-- a name's value
  have hi:T.length≤i:=by
   by_cases hi:i<T.length
   ·unfold cst at e2
    rw [List.getElem?_append_left (by simpa using hi),List.getElem?_replicate] at e2
    split at e2<;> cases e2
   ·exact Nat.not_lt.mp (by assumption)
  obtain ⟨k,rfl⟩:∃k,i=T.length+k:=⟨i - T.length,by omega⟩
  have e1:(T++F)[T.length+k]? =some x:=e1
  rw [List.getElem?_append_right (by assumption)] at e1
  have e1:F[k]? =some x:=by simpa using e1
  unfold cst at e2
  rw [List.getElem?_append_right (by simp)] at e2
  have e2:(js.map fun j=>(σ[j]?).join)[k]? =some (some v):=by simpa using e2
  rw [List.getElem?_map] at e2
  cases ej:js[k]? with
  |none=>rw [ej] at e2;cases e2
  |some j=>
   rw [ej] at e2
   have e2:(σ[j]?).join=some v:=by simpa using e2
   have e3':σ[j]? =some (some v):=by
    cases q:σ[j]? with
    |none=>rw [q] at e2;cases e2
    |some z=>rw [q] at e2;cases z with
     |none=>cases e2
     |some z=>simp at e2;rw [e2]
   have eN:X.N[j]? =some x:=by
    have q:=congrArg (fun l=>l[k]?) S.js
    simp only [List.getElem?_map,ej,e1] at q
    simpa using q
   obtain ⟨c1,c2,c3⟩:=S.cel x (List.mem_of_getElem? e1)
   obtain ⟨m0,hn0,hl⟩:=I.loc
   obtain ⟨u,ru,lk⟩:=hl j x v eN e3' (.inr (.inl c2))
   refine ⟨u,ru,?_⟩
   rcases lk with ⟨z,_⟩|⟨_,c,ec,hc⟩
   ·rw [c2] at z;cases z
   ·obtain ⟨c',ec'⟩:=Option.isSome_iff_exists.mp (closes_has (env:=X.env) scope.names [] c3)
    have:=sub x c' ec'
    rw [ec] at this;cases this
    refine .inr ⟨.inl c1,c,ec',?_⟩
    obtain ⟨o,ho,hd⟩:=hc
    exact ⟨o,kk _ _ ho,hd⟩
 ·obtain ⟨v,o,ho,hd⟩:=I.cell x c (sub x c e)
  exact ⟨v,o,kk _ _ ho,hd⟩
 ·have hp:p∈(X.pn++pins)++[]:=hp
  rw [List.append_nil] at hp
  obtain ⟨e,n,ne,nf,d⟩:=I.pin p hp
  refine ⟨kk _ _ e,n,Nat.ne_of_lt (Heap.lt_size e),fun z=> ?_,d⟩
  rcases List.mem_cons.mp (I.stkSub p.1 z) with q|q
  ·exact ne q
  ·exact nf q
 ·unfold cst
  show _=(T++F).length
  have q:=congrArg List.length S.js
  simp at q
  simp [q]
def PIf (X:Cx) (ifs:List Expr) (t:TT):Prop:=
 ∀(pins:List (Addr×Obj)) (s:Shared) (σ:St) (H:Hp) (Q:Bool→Hp→Prop),Inv X pins σ H s→t σ H Q→
  wpAny (model X.prog X.w) X.A (forIn ifs true fun c r=>if r=true then do let ok ←isTrue c X.env (eval c X.env);pure (ForInStep.yield ok) else pure (ForInStep.yield r)) (TP X pins σ Q) X.xe s
def tYes:TT:=fun _ H Q=>Q true H
theorem C4:PIf X [] tYes:=fun pins s σ H Q I h=>wpAny_tests_nil ⟨H,I,h⟩
theorem pif_one {c:Expr} {t:TT} (h:PT X c t):PIf X [c] t:=fun pins s σ H Q I hw=>wpAny_tests_one (h pins s σ H Q I hw)
def cturn (g:TG) (ti:TT) (te:TE) (D:Addr) (x:V) (σ:St) (ys:List V) (H:Hp) (N:St→List V→Hp→Prop):Prop:=
 g x σ H fun σ2 H2=>ti σ2 H2 fun b H3=>if b=true then te σ2 H3 fun y H4=>H4 D=some (.lst ys)∧ys.length<sizeLine∧N σ2 (ys++[y]) (upd H4 D (.lst (ys++[y]))) else N σ2 ys H3
def cgo (J:It) (g:TG) (ti:TT) (te:TE) (D:Addr) (σ:St) (H:Hp) (Q:VK):Prop:=
 ∃W:Nat→Nat→St→List V→Hp→Prop,(∃m,W 0 m σ [] (upd H D (.lst [])))∧∀i m σ ys H,W i m σ ys H→H D=some (.lst ys)∧
  ((J.stop i H∧Q (.ref D) H)∨(J.go i H∧∃N:St→List V→Hp→Prop,(∀σ' ys' H',N σ' ys' H'→∃m',m'<m∧W (i+1) m' σ' ys' H')∧∀x H',J.yld i H x H'→cturn g ti te D x σ ys H' N))
def tComp (wi:TI) (g:TG) (ti:TT) (te:TE) (nT:Nat) (js:List Nat):TE:=fun σ H Q=>wi σ H fun J H1=>∀D,H1 D=none→cgo J g ti te D (cst nT js σ) H1 Q
theorem comp_out {pins:List (Addr×Obj)} {σ σ':St} {H H':Hp} {s s':Shared} {h':Heap} {N:List Str} {fp:List Addr} (I:Inv X pins σ H s) (hf:∀b∈fp,FpOk X pins H b)
  (J:Inv (Cl X scope N s.heap.objs.size s H fp pins) [] σ' H' s') (sb:Heap.SameBut s.heap.objs.size s'.heap h'):Inv X pins σ H' {s' with heap:=h'}:=by
 have ne:∀b o,s.heap.get? b=some o→b≠s.heap.objs.size:=fun b o e=>Nat.ne_of_lt (Heap.lt_size e)
 have u:=J.base
 have u':Un (frs X.stack) fp H H' s.heap h':=
  ⟨fun b o e n h1 h2=>sb.extBut b o (ne b o e) (u.keep b o e n h1 h2),fun b o e n h1 h2=>by
   obtain ⟨sl,q⟩:=u.slot b o e n h1 h2
   exact ⟨sl,sb.extBut b _ (ne b o e) q⟩,u.free,fun b o e h=>by
   obtain ⟨o',q⟩:=u.there b o e h
   exact ⟨o',sb.extBut b _ (ne b o e) q⟩,u.tups,u.frzs,u.tbls⟩
 have nC:H' s.heap.objs.size=none:=J.free
 have hok:HOk X.prog X.w H' h':=fun b o e=>by
  refine (J.hok b o e).stay (fun c v hc q=>sb.extBut c v ?_ q) (fun _ q=>q) fun _ _ q=>q
  rcases hc with z|z
  ·rw [z];intro z';rw [z',nC] at e;cases e
  ·intro z';rw [z',nC] at z;cases z
 exact I.call' (s':={s' with heap:=h'}) J.os u' hok J.bare fun b hb=>by
  obtain ⟨f0,f1,f2,f3,f4,f5⟩:=hf b hb
  exact ⟨f3,f1,f4,f5⟩
theorem comp_go {tg elt iter:Expr} {ifs:List Expr} {pos:Pos} {g:TG} {ti:TT} {te:TE} {wi:TI} {pins:List (Addr×Obj)} {σ:St} {H:Hp} {s:Shared} {use:Option (Value→Sem Unit)} {QQ:Value→Shared→Prop} {Q:VK} (S:CScope X scope T F js) (hc:X.calm=true)
  (hi:PI X tg iter wi) (hg:∀C s H ex pins,PG (Cl X scope (T++F) C s H ex pins) tg g) (hif:∀C s H ex pins,PIf (Cl X scope (T++F) C s H ex pins) ifs ti) (he:∀C s H ex pins,PE (Cl X scope (T++F) C s H ex pins) elt te)
  (I:Inv X pins σ H s) (h:tComp wi g ti te T.length js σ H Q)
  (fin:∀(D C:Addr) (s':Shared) (H':Hp) (m:Str→Option Value),s'.heap.Ns C m→Q (.ref D) H'→FpOk X pins H' C→(∀h',Heap.SameBut C s'.heap h'→Inv X pins σ H' {s' with heap:=h'})→
   compPost (model X.prog X.w) X.A X.xe use QQ (.ref D) C (.ok .next) s')
  (hs:∀x,foldedSetIterable iter X.env x=pure x):
  wpAny (model X.prog X.w) X.A (comprehension (.ListComp elt [⟨tg,iter,ifs,0⟩] scope pos) scope X.env (firstIterPos [⟨tg,iter,ifs,0⟩] pos) (newList []) false (eval iter X.env) use) QQ X.xe s:=by
 refine wpAny_comprehension_free (use:=use) rfl hs (closureFor_closes fun p hp hk=> ?_) S.kind S.names (thn (hi pins s σ H _ I h) fun v s1 h1=>thn h1 fun itv s2 h2=> ?_)
 ·obtain ⟨c,e⟩:=I.ok.has p.1 (.inl (S.free p hp hk))
  rw [e];rfl
 obtain ⟨it,fp,tn,J,H2,rfl,I2,Tn,st2,f2,h2⟩:=h2
 obtain ⟨W,⟨m0,w0⟩,turn⟩:=h2 s2.heap.objs.size I2.fresh
 refine wpAny_newObj_type (wpAny_newFunctionEnv S.nocell (by intro y hy;simp at hy) (fun h₁ hns₁ hsb₁=> ?_) S.kind)
 have I3:=I2.lnew (t':=s2.toks) (ys:=[]) (its:=[]) Paired.nil (Nat.zero_le _)
 generalize hs3:({s2 with heap:=s2.heap.push {cls:= .type "list",data:= .seq ([]:List Value).toArray},toks:=s2.toks}:Shared)=s3 at I3
 have hf3:∀b∈fp,FpOk X pins (upd H2 s2.heap.objs.size (.lst [])) b∧∃o,s3.heap.get? b=some o∧∀v,o.data≠ .cell v:=fun b hb=>by
  obtain ⟨f0,fr⟩:=f2 b hb
  obtain ⟨o,e,d⟩:=Tn.obj _ _ st2 b hb
  refine ⟨⟨by rw [Ai (Nat.ne_of_lt (Heap.lt_size e))];exact f0,fr⟩,o,?_,d⟩
  rw [←hs3]
  exact Heap.get?_push_of_some _ e
 have e3:s3.heap=s2.heap.push {cls:= .type "list",data:= .seq ([]:List Value).toArray}:=by rw [←hs3]
 have kk:∀b o,s3.heap.get? b=some o→h₁.get? b=some o:=fun b o e=>by
  rw [e3] at e
  exact hsb₁.extBut b o (Nat.ne_of_lt (Heap.lt_size e)) (Heap.get?_push_of_some _ e)
 have hns:h₁.Ns s3.heap.objs.size (fun x=>([]:List (Str×Value)).reverse.lookup x):=by rw [e3];exact hns₁
 have I4:=comp_inv (tk:=s3.toks+([]:List (Str×Value)).length) S I3 hns kk hf3
 have stat:∀{H':Hp} {pl:List (Addr×Obj)},(∀p∈pl,∀b∈fp,p.1≠b)→(∀b∈fp,H' b=none)→∀b∈fp,FpOk (Cl X scope (T++F) s3.heap.objs.size s3 (upd H2 s2.heap.objs.size (.lst [])) fp pins) pl H' b:=fun {H' pl} hp hn b hb=>by
  obtain ⟨⟨f0,f1,f2,f3,f4,f5⟩,o,e,d⟩:=hf3 b hb
  obtain ⟨x1,x2⟩:=I4.ok.exf b hb
  refine ⟨hn b hb,x1,I4.ok.exfs b hb,.inl hb,x2,fun p hq=> ?_⟩
  rcases List.mem_append.mp hq with z|z
  ·exact f5 p z
  ·exact hp p z b hb
 have loop:codeAny (model X.prog X.w) X.A (.compLoop (.ListComp elt [⟨tg,iter,ifs,0⟩] scope pos) 0 (.ref it) (.ref s2.heap.objs.size) (compEnvC scope (C0 X.env scope.names []) s3.heap.objs.size X.env))
   (compPost (model X.prog X.w) X.A X.xe use QQ (.ref s2.heap.objs.size) s3.heap.objs.size) {s3 with heap:=h₁,toks:=s3.toks+([]:List (Str×Value)).length}:=by
  refine codeAny_loop rfl (fun n s'=>∃i σ' ys H',Inv (Cl X scope (T++F) s3.heap.objs.size s3 (upd H2 s2.heap.objs.size (.lst [])) fp pins) [] σ' H' s'∧tn i s'.heap∧(∀b∈fp,H' b=none)∧W i n σ' ys H') ?_ m0 ⟨0,_,[],_,I4,?_,fun b hb=>(hf3 b hb).1.1,w0⟩
  ·rintro n s5 ⟨i,σ5,ys,H5,I5,st5,fr5,w5⟩
   show wpAny _ X.A ((compTurn (.ListComp elt [⟨tg,iter,ifs,0⟩] scope pos) 0 (.ref it) (.ref s2.heap.objs.size) (compEnvC scope (C0 X.env scope.names []) s3.heap.objs.size X.env)).onRaise (fun x=>do noteFrame x _;theTreesLotGoes x)) _ _ s5
   refine wpAny_noted ?_
   rw [compTurn_list]
   refine wpAny_bind (wpAny_standAt (wpAny_bind ?_))
   obtain ⟨hD,tu⟩:=turn i n σ5 ys H5 w5
   rcases tu with ⟨stop,qq⟩|⟨go,NN,hNN,step⟩
   ·refine thn (Tn.done (Cl X scope (T++F) s3.heap.objs.size s3 (upd H2 s2.heap.objs.size (.lst [])) fp pins) rfl rfl rfl hc i [] s5 σ5 H5 _ I5 (stat (pl:=[]) (fun _ hp=>absurd hp List.not_mem_nil) fr5) st5 stop) fun r s6 ⟨hr,I6⟩=> ?_
    subst hr
    refine wpAny_pure ?_
    obtain ⟨m6,hn6,_⟩:=I6.loc
    have lC:s.heap.objs.size≤s.heap.objs.size:=Nat.le_refl _
    exact fin _ _ s6 H5 m6 hn6 qq (I3.fpOk (Nat.le_refl _) I6.free) fun h' sb=>comp_out I3 (fun b hb=>(hf3 b hb).1) I6 sb
   ·refine thn (Tn.item (Cl X scope (T++F) s3.heap.objs.size s3 (upd H2 s2.heap.objs.size (.lst [])) fp pins) rfl rfl rfl hc i [] s5 σ5 H5 _ I5 (stat (pl:=[]) (fun _ hp=>absurd hp List.not_mem_nil) fr5) st5 go) fun r s6 ⟨u,hr,h6⟩=> ?_
    subst hr
    refine wpAny_bind (thn h6 fun _ s7 ⟨x,H7,I7,r7,y7,st7,fr7⟩=> ?_)
    have I7':=I7.pinned (stat (pl:=[]) (fun _ hp=>absurd hp List.not_mem_nil) fr7) (Tn.obj _ _ st7)
    have back:∀{σ8:St} {H8:Hp} {s8:Shared} {ys8:List V} {m':Nat},Inv (Cl X scope (T++F) s3.heap.objs.size s3 (upd H2 s2.heap.objs.size (.lst [])) fp pins) ([]++pinsAt fp s7.heap) σ8 H8 s8→m'<n→W (i+1) m' σ8 ys8 H8→
      ∃m,m<n∧∃i σ' ys H',Inv (Cl X scope (T++F) s3.heap.objs.size s3 (upd H2 s2.heap.objs.size (.lst [])) fp pins) [] σ' H' s8∧tn i s8.heap∧(∀b∈fp,H' b=none)∧W i m σ' ys H':=fun {σ8 H8 s8 ys8 m'} I8 hm w8=>by
     refine ⟨m',hm,i+1,σ8,ys8,H8,I8.unpinned,Tn.keep _ _ _ st7 fun b hb o e=>(I8.pin (b,o) (List.mem_append_right _ (List.mem_append_right _ (mem_pinsAt hb e)))).1,fun b hb=> ?_,w8⟩
     obtain ⟨o,e,d⟩:=Tn.obj _ _ st7 b hb
     exact (I8.pin (b,o) (List.mem_append_right _ (List.mem_append_right _ (mem_pinsAt hb e)))).2.1
    refine wpAny_bind (wpAny_mono (hg _ _ _ _ _ _ s7 σ5 H7 x u _ I7' r7 (step x H7 y7)) (fun _ s8 ⟨σ8,H8,I8,q8⟩=> ?_) fun _ _ z=>z.elim)
    refine wpAny_bind (wpAny_mono (hif _ _ _ _ _ _ s8 σ8 H8 _ I8 q8) (fun ok s9 ⟨H9,I9,q9⟩=> ?_) fun _ _ z=>z.elim)
    cases ok with
    |false=>
     rw [if_neg Bool.false_ne_true] at q9
     obtain ⟨m',hm,w9⟩:=hNN _ _ _ q9
     exact wpAny_pure ⟨rfl,back I9 hm w9⟩
    |true=>
     rw [if_pos rfl] at q9
     refine wpAny_bind (wpAny_bind (wpAny_mono (he _ _ _ _ _ _ s9 σ8 H9 _ I9 q9) (fun yv s10 ⟨y,H10,I10,r10,d10,l10,q10⟩=> ?_) fun _ _ z=>z.elim))
     obtain ⟨m',hm,w10⟩:=hNN _ _ _ q10
     obtain ⟨z10,its,n10,rv,el,eo⟩:=I10.lstM d10
     refine wpAny_bind (wpAny_list_append_plain (items:=its.toArray) ⟨n10,eo⟩ (fun h' hl' sb'=> ?_) (by simp;omega))
     obtain ⟨n11,eo'⟩:=hl'
     have I11:=I10.write (x:=s2.heap.objs.size) (e:=s2.heap.objs.size) (o:= .lst (ys++[y])) (t':=s10.toks) (by rw [d10];exact trivial) (.inl rfl) (fun b o hb e=>sb'.extBut b o hb e) ⟨_,eo'⟩ ⟨by simp;assumption,its++[yv],n11,rv.append (.cons r10 .nil),by simpa using eo'⟩
     exact wpAny_pure (wpAny_pure ⟨rfl,back I11 hm w10⟩)
  ·refine Tn.keep _ _ _ st2 fun b hb o e=>kk b o ?_
   rw [e3]
   exact Heap.get?_push_of_some _ e
 have st1:tn 0 h₁:=Tn.keep _ _ _ st2 fun b hb o e=>kk b o (by rw [e3];exact Heap.get?_push_of_some _ e)
 exact codeAny_compStart_list loop (Tn.self _ 0 _ _ _ st1 loop)
theorem C5 {tg elt iter:Expr} {ifs:List Expr} {pos:Pos} {g:TG} {ti:TT} {te:TE} {wi:TI} (S:CScope X scope T F js) (hc:X.calm=true)
  (hi:PI X tg iter wi) (hg:∀C s H ex pins,PG (Cl X scope (T++F) C s H ex pins) tg g) (hif:∀C s H ex pins,PIf (Cl X scope (T++F) C s H ex pins) ifs ti) (he:∀C s H ex pins,PE (Cl X scope (T++F) C s H ex pins) elt te)
  (hs:∀x,foldedSetIterable iter X.env x=pure x:=by intro _;rfl):PE X (.ListComp elt [⟨tg,iter,ifs,0⟩] scope pos) (tComp wi g ti te T.length js):=by
 intro pins s σ H Q I h
 rw [eval_ListComp]
 exact comp_go (use:=none) S hc hi hg hif he I h (fun D C s' H' m hn q _ hinv=>⟨m,hn,fun h' sb=>⟨.ref D,H',hinv h' sb,rfl,q⟩⟩) hs
theorem ps_comp {i:Nat} {x:Str} {pos' spos:Pos} {tg elt iter:Expr} {ifs:List Expr} {pos:Pos} {g:TG} {ti:TT} {te:TE} {wi:TI} (hN:X.N.Nodup) (hx1:X.N[i]? =some x) (hx2:Loc X.env.scope x) (S:CScope X scope T F js) (hc:X.calm=true)
  (hi:PI X tg iter wi) (hg:∀C s H ex pins,PG (Cl X scope (T++F) C s H ex pins) tg g) (hif:∀C s H ex pins,PIf (Cl X scope (T++F) C s H ex pins) ifs ti) (he:∀C s H ex pins,PE (Cl X scope (T++F) C s H ex pins) elt te)
  (hsw:swapsWith (.ListComp elt [⟨tg,iter,ifs,0⟩] scope pos) (some (.Name x pos')) spos.line X.env=pure true:=by rfl)
  (hf:X.fn x=true∨X.env.scope.names.lookup x=some .local:=by first|exact .inl rfl|exact .inr rfl|assumption)
  (hs:∀x,foldedSetIterable iter X.env x=pure x:=by intro _;rfl):PS X (.Assign [.Name x pos'] (.ListComp elt [⟨tg,iter,ifs,0⟩] scope pos) spos) (tAsg (tComp wi g ti te T.length js) (gName i)):=by
 intro pins s σ H D I h
 rw [exec_Assign_Name_used _ _ _ _ hsw]
 refine wpAny_bind (wpAny_standAt (wpAny_bind ?_))
 show wpAny _ X.A (do let _ ←comprehension (.ListComp elt [⟨tg,iter,ifs,0⟩] scope pos) scope X.env _ (newList []) false (eval iter X.env) (some (assign (.Name x pos') X.env))) _ _ s
 refine wpAny_bind (wpAny_mono (comp_go (use:=some (assign (.Name x pos') X.env)) (QQ:=fun _ s'=>SP X pins D .next s') S hc hi hg hif he I h (fun d C s' H' m hn q fC hinv=> ?_) hs) (fun _ s' hq=>wpAny_pure (wpAny_pure hq)) fun _ _ e=>e)
 have I1:Inv X pins σ H' s':=hinv s'.heap (Heap.SameBut.refl ..)
 obtain ⟨oC,es,ep,ho,hd,hr⟩:=id hn
 obtain ⟨f0,f1,f2,f3,f4,f5⟩:=fC
 have I2:Inv X (pins++[(C,oC)]) σ H' s':=I1.pins_of fun p hp=>(List.mem_append.mp hp).elim (fun z=>I1.pin p (List.mem_append_right _ z)) fun z=>by
  have e:=List.mem_singleton.mp z
  subst e
  exact ⟨ho,f0,f1,f2,fun v z=>by rw [hd] at z;cases z⟩
 show wpAny _ X.A (assign (.Name x pos') X.env (.ref d)) _ _ _
 refine wpAny_assign_Name (store_ok (v:= .ref d) I2 hN hx1 hx2 rfl (fun s'' I''=> ?_) hf)
 have e2:=(I''.pin (C,oC) (List.mem_append_right _ (List.mem_append_right _ (List.mem_singleton.mpr rfl)))).1
 refine ⟨m,⟨oC,es,ep,e2,hd,hr⟩,fun h' sb=> ?_⟩
 exact ⟨_,H',I''.unpinned.turned (t':=s''.toks) (it:=C) (fun b o hb e=>sb.extBut b o hb e) f0 f1 f3 f4 f5,q⟩
end
section
variable {g:TG} {ti:TT} {te:TE} {Q:VK} {D:Addr} {σ:St} {H:Hp}
theorem comp_list {K:PySem.W.Frag} {a:Addr} {xs:List V} (Pv:Nat→St→List V→Hp→Prop) (h0:Pv 0 σ [] (upd H D (.lst []))) (hl:∀i σ ys H,i≤xs.length→Pv i σ ys H→SqL K H a xs∧H D=some (.lst ys))
  (hs:∀i x σ ys H,xs[i]? =some x→Pv i σ ys H→cturn g ti te D x σ ys H (Pv (i+1))) (hd:∀σ ys H,Pv xs.length σ ys H→Q (.ref D) H):
  cgo (Itl K a) g ti te D σ H Q:=by
 refine ⟨fun i m σ ys H=>m=xs.length - i∧i≤xs.length∧Pv i σ ys H,⟨xs.length,by simp,Nat.zero_le _,h0⟩,?_⟩
 rintro i m σ ys H ⟨rfl,hi,p⟩
 obtain ⟨q,hD⟩:=hl i σ ys H hi p
 refine ⟨hD,?_⟩
 by_cases hlt:i<xs.length
 ·refine .inr ⟨⟨xs,xs[i],q,by simp [hlt]⟩,Pv (i+1),fun σ' ys' H' p'=>⟨xs.length - (i+1),by omega,rfl,hlt,p'⟩,fun x H' y=> ?_⟩
  obtain ⟨e,y⟩:=y
  subst e
  exact (hs i x σ ys _ (y xs q) p)
 ·have e:i=xs.length:=by omega
  subst e
  exact .inl ⟨⟨xs,q,Nat.le_refl _⟩,hd σ ys H p⟩
theorem comp_tup {K:PySem.W.Frag} {a:Addr} {xs:List V} (Pv:Nat→St→List V→Hp→Prop) (h0:Pv 0 σ [] (upd H D (.lst []))) (hl:∀i σ ys H,i≤xs.length→Pv i σ ys H→SqT K H a xs∧H D=some (.lst ys))
  (hs:∀i x σ ys H,xs[i]? =some x→Pv i σ ys H→cturn g ti te D x σ ys H (Pv (i+1))) (hd:∀σ ys H,Pv xs.length σ ys H→Q (.ref D) H):
  cgo (Itt K a) g ti te D σ H Q:=by
 refine ⟨fun i m σ ys H=>m=xs.length - i∧i≤xs.length∧Pv i σ ys H,⟨xs.length,by simp,Nat.zero_le _,h0⟩,?_⟩
 rintro i m σ ys H ⟨rfl,hi,p⟩
 obtain ⟨q,hD⟩:=hl i σ ys H hi p
 refine ⟨hD,?_⟩
 by_cases hlt:i<xs.length
 ·refine .inr ⟨⟨xs,xs[i],q,by simp [hlt]⟩,Pv (i+1),fun σ' ys' H' p'=>⟨xs.length - (i+1),by omega,rfl,hlt,p'⟩,fun x H' y=> ?_⟩
  obtain ⟨e,y⟩:=y
  subst e
  exact (hs i x σ ys _ (y xs q) p)
 ·have e:i=xs.length:=by omega
  subst e
  exact .inl ⟨⟨xs,q,Nat.le_refl _⟩,hd σ ys H p⟩
theorem comp_range {lo:Int} {n:Nat} (Pv:Nat→St→List V→Hp→Prop) (h0:Pv 0 σ [] (upd H D (.lst []))) (hl:∀i σ ys H,i≤n→Pv i σ ys H→H D=some (.lst ys))
  (hs:∀i σ ys H,i<n→Pv i σ ys H→cturn g ti te D (.int (lo+i)) σ ys H (Pv (i+1))) (hd:∀σ ys H,Pv n σ ys H→Q (.ref D) H):
  cgo (Itr lo n) g ti te D σ H Q:=by
 refine ⟨fun i m σ ys H=>m=n - i∧i≤n∧Pv i σ ys H,⟨n,by simp,Nat.zero_le _,h0⟩,?_⟩
 rintro i m σ ys H ⟨rfl,hi,p⟩
 have hD:=hl i σ ys H hi p
 refine ⟨hD,?_⟩
 by_cases hlt:i<n
 ·refine .inr ⟨hlt,Pv (i+1),fun σ' ys' H' p'=>⟨n - (i+1),by omega,rfl,hlt,p'⟩,fun x H' y=> ?_⟩
  obtain ⟨e,y⟩:=y
  subst e y
  exact (hs i σ ys _ hlt p)
 ·have e:i=n:=by omega
  subst e
  exact .inl ⟨Nat.le_refl _,hd σ ys H p⟩
end
end L2
namespace L2
open PySem PySem.Spec PyProof.Rows
mutual
inductive Rep (K:PySem.W.Frag) (H:Hp):V→PyData→Prop
 |non:Rep K H .non .none
 |bl (b:Bool):Rep K H (.bl b) (.bool b)
 |int (i:Int):Rep K H (.int i) (.int i)
 |str (x:Str):Rep K H (.str x) (.str x)
 |lst {a:Addr} {xs:List V} {ds:List PyData}:SqL K H a xs→RepAll K H xs ds→Rep K H (.ref a) (.list ds)
 |tup {a:Addr} {xs:List V} {ds:List PyData}:SqT K H a xs→RepAll K H xs ds→Rep K H (.ref a) (.tuple ds)
inductive RepAll (K:PySem.W.Frag) (H:Hp):List V→List PyData→Prop
 |nil:RepAll K H [] []
 |cons {x:V} {xs:List V} {d:PyData} {ds:List PyData}:Rep K H x d→RepAll K H xs ds→RepAll K H (x::xs) (d::ds)
end
mutual
theorem Rep.reads {X:Cx} {pins:List (Addr×Obj)} {σ:St} {H:Hp} {s:Shared} (I:Inv X pins σ H s):∀{v:V} {d:PyData} {u:Value},Rep X.K H v d→RelV v u→∃as,Reads s.heap u d as
 |_,_,_,.non,r=>by cases r;exact ⟨_,.none⟩
 |_,_,_,.bl b,r=>by cases r;exact ⟨_,.bool b⟩
 |_,_,_,.int i,r=>by obtain ⟨t,rfl⟩:=r;exact ⟨_,.int i t⟩
 |_,_,_,.str x,r=>by obtain ⟨t,rfl⟩:=r;exact ⟨_,.str x t⟩
 |_,_,_,.lst hq hx,r=>by
  cases r
  obtain ⟨its,rv,hl,hz⟩:=I.list hq
  obtain ⟨as,ra⟩:=RepAll.reads I hx rv
  obtain ⟨o,ho,hc,n,hd⟩:=hl.isList
  exact ⟨_,.list ho hc hd ra⟩
 |_,_,_,.tup hq hx,r=>by
  cases r
  obtain ⟨its,rv,hl,hz⟩:=I.tuple hq
  obtain ⟨as,ra⟩:=RepAll.reads I hx rv
  obtain ⟨o,ho,hc,n,hd⟩:=hl
  exact ⟨_,.tuple ho hc hd ra⟩
theorem RepAll.reads {X:Cx} {pins:List (Addr×Obj)} {σ:St} {H:Hp} {s:Shared} (I:Inv X pins σ H s):∀{xs:List V} {ds:List PyData} {us:List Value},RepAll X.K H xs ds→Vals xs us→∃as,ReadsAll s.heap us ds as
 |_,_,_,.nil,.nil=>⟨_,.nil⟩
 |_,_,_,.cons h t,.cons r rs=>by
  obtain ⟨a,ra⟩:=Rep.reads I h r
  obtain ⟨b,rb⟩:=RepAll.reads I t rs
  exact ⟨_,.cons ra rb⟩
end
section
variable {X:Cx} {a b c e:Expr} {ta tb tc te:TE} {pos p2:Pos}
inductive RNeDP (K:PySem.W.Frag) (x:V) (y:V) (H:Hp) (Q:VK):Prop
 |mk (da db:_):(Rep K H x da)→(Rep K H y db)→(da.canLay0=true)→(db.canLay0=true)→(da.depth≤20)→(Q (.bl (!PyData.eqv da db)) H)→RNeDP K x y H Q
def rNeD (K:PySem.W.Frag):R2:=fun x y H Q=>RNeDP K x y H Q
theorem op_neD (hu:X.A.units+64<cLine):OpR X (compareOp .NotEq) (rNeD X.K):=by
 intro pins s σ H x y u v Q I rx ry h
 obtain ⟨da,db,h1,h2,h3,h4,h5,q⟩:=h
 obtain ⟨as,r1⟩:=h1.reads I rx
 obtain ⟨bs,r2⟩:=h2.reads I ry
 exact SeqAt.compareNe_reads r1 r2 h3 h4 (by omega) ⟨.bl _,H,I,rfl,q⟩
theorem call_sum (hc:X.calm=true):CallR X (.builtin "sum") (fun xs H Q=>∃(p:Addr) (ns:List Int),xs=[.ref p]∧SqL X.K H p (ns.map V.int)∧Q (.int ns.sum) H):=by
 intro pins s σ H xs us Q I r h
 obtain ⟨p,ns,rfl,hq,q⟩:=h
 obtain ⟨u,rfl,rx⟩:=Cy r
 cases rx
 obtain ⟨its,rv,hl,hz⟩:=I.list hq
 have hi:=intsAre_of rv
 obtain ⟨ys,e⟩:=hi.allInts.items
 have hl':=hl.isList
 rw [e] at hl'
 refine sum_intListG (I.ok.hd hc) hl' fun h' tk t' hk=>⟨.int ns.sum,H,I.kept hk,⟨t',?_⟩,q⟩
 have e2:ys.toList.map (·.1)=ns:=by
  have q2:=nums_intItems ys
  rw [←e] at q2
  rw [←q2]
  exact hi.numsOf
 rw [preSum_eq,e2,List.take_of_length_le (by rw [←e2];simp)]
theorem call_isi:CallR X (.builtin "isinstance") (fun xs H Q=>∃(x:V) (t:Value) (c:String) (b:Bool),xs=[x,.ty c]∧TyOf X.K H x t∧PySem.W.kitOne X.K t (.type c)=some b∧Q (.bl b) H):=by
 intro pins s σ H xs us Q I r h
 obtain ⟨x,t,c,b,rfl,ty,e,q⟩:=h
 obtain ⟨u,v,rfl,rx,ry⟩:=vals2 r
 cases ry
 exact isinst_ok I rx ty e fun tk=>⟨.bl b,H,I.tok tk,rfl,q⟩
theorem pe_ty {x:Str} {T:String} (hg:Gl X x) (hm:X.mg x=none) (hv:bootBuiltins x=some (.type T)) (hn:x≠"__name__":=by decide) (hd:(x==("__debug__":Str))=false:=by decide):PE X (.Name x pos) (tC (.ty T)):=
 fun pins s σ H Q I h=>ld_blt I hg hm hv ⟨.ty T,H,I,rfl,h⟩ hn hd
def rints (i:Int) (n:Nat):List Int:=(List.range n).map fun (k:Nat)=>i+(k:Int)
def tRev (K:PySem.W.Frag) (te:TE) (ts:TO):TE:=fun σ H Q=>te σ H fun x H1=>ts σ H1 fun o H2=>o=some (-1)∧∃(a:Addr) (xs:List V),x= .ref a∧SqL K H2 a xs∧∀p,H2 p=none→Q (.ref p) (upd H2 p (.lst xs.reverse))
theorem pe_rev {st:Expr} {ts:TO} (he:PE X e te) (hs:PO X (some st) ts) (ops:Value→Value→List Value) (hsub:∀o i,subscripted (.Slice none none (some st) p2) false o i=operate (ops o i) (getItem o i)):PE X (.Subscript e (.Slice none none (some st) p2) pos) (tRev X.K te ts):=by
 intro pins s σ H Q I h
 refine Subscript_ (thn (he pins s σ H _ I h) fun v s1 ⟨x,H1,I1,r1,q1⟩=> ?_)
 refine wpAny_Slice ?_
 rw [evalPart_none]
 refine wpAny_pure (wpAny_pure (thn (hs pins s1 σ H1 _ I1 q1) fun vs s2 ⟨o,H2,I2,ps,q2⟩=> ?_))
 obtain ⟨rfl,a,xs,rfl,hq,q⟩:=q2
 cases r1
 have I4:Inv X pins σ H2 {s2 with heap:=s2.heap.push {cls:= .type "slice",data:= .fields #[.none,.none,vs]}}:=I2.kept (t':=s2.toks) fun b ob q=>Heap.get?_push_of_some _ q
 obtain ⟨its,r,ht,hz⟩:=I4.list hq
 have hlen:=r.length
 show wpAny (model X.prog X.w) X.A (subscriptTail e (.Slice none none (some st) p2) (.ref a) (.ref s2.heap.objs.size)) (EP X pins σ Q) X.xe {s2 with heap:=s2.heap.push {cls:= .type "slice",data:= .fields #[.none,.none,vs]}}
 refine tail_any (ops:=ops (.ref a) (.ref s2.heap.objs.size)) ht.isList.typeIs slot_list_getitem.lookup ?_ (hsub _ _)
 refine wpAny_getItem_list_slice ht.isList (Heap.IsSliceOf.new ..) .none .none ps (by decide) ?_ (by rw [List.size_toArray]<;> omega)
 rw [PySem.W.krv_pick]
 refine ⟨.ref _,_,I4.laid (t':=s2.toks) (o:= .lst xs.reverse) (fun b ob q=>Heap.get?_push_of_some _ q) (Nat.le_refl _) ⟨by simpa using hz,its.reverse,0,r.reverse,Heap.get?_push_size _ rfl⟩,rfl,q _ I4.fresh⟩
inductive RCatTTP (K:PySem.W.Frag) (x:V) (y:V) (H:Hp) (Q:VK):Prop
 |mk (a b:Addr) (xs ys:List V):(x= .ref a)→(y= .ref b)→(SqT K H a xs)→(SqT K H b ys)→(xs.length+ys.length≤sizeLine)→((xs=[]→Q (.ref b) H))→((xs≠[]→ys=[]→Q (.ref a) H))→((xs≠[]→ys≠[]→∀p,H p=none→Q (.ref p) (upd H p (.tup (xs++ys)))))→RCatTTP K x y H Q
def rCatTT (K:PySem.W.Frag):R2:=fun x y H Q=>RCatTTP K x y H Q
theorem op_catTT:OpR X (binaryOp .Add) (rCatTT X.K):=by
 intro pins s σ H x y u v Q I rx ry h
 obtain ⟨p,q,xs,ys,rfl,rfl,hx,hy,hz,h1,h2,h3⟩:=h
 cases rx;cases ry
 obtain ⟨its,r1,t1,z1⟩:=I.tuple hx
 obtain ⟨its2,r2,t2,z2⟩:=I.tuple hy
 have l1:=r1.length
 have l2:=r2.length
 by_cases e:xs=[]
 ·subst e
  have ei:its=[]:=by cases its with|nil=>rfl|cons _ _=>cases l1
  subst ei
  obtain ⟨⟨cls,dd,data,sl⟩,ho,hc,n,hd⟩:=id t1
  obtain ⟨⟨cls2,dd2,data2,sl2⟩,ho2,hc2,n2,hd2⟩:=id t2
  simp only at hc hd hc2 hd2
  subst hc hd hc2 hd2
  exact PySem.concat_meets ⟨_,ho,rfl⟩ ⟨_,ho2,rfl⟩ noFill_tuple_add seq_tuple_add PySem.F.slot_tuple_add PySem.F.entry_tuple_add (PySem.F.args_tuple_add_2 _ _)
   (tuple_addW0 p q _ _ n n2 dd dd2 sl sl2 (by rfl)) ⟨ho,ho2,⟨.ref q,H,I,rfl,h1 rfl⟩⟩
 ·refine HT.cat_tup t1 t2 (fun z=>e ((Vals.nil_iff r1).mp z)) (fun z=>⟨.ref p,H,I,rfl,h2 e ((Vals.nil_iff r2).mp z)⟩) (fun z=> ?_) (by omega)
  exact ⟨.ref s.heap.objs.size,_,I.laid (t':=s.toks) (o:= .tup (xs++ys)) (fun b ob q=>Heap.get?_push_of_some _ q) (Nat.le_refl _) ⟨by simpa using hz,its++its2,r1.append r2,IsTupN.new _ _⟩,rfl,h3 e (fun z'=>z ((Vals.nil_iff r2).mpr z')) _ I.fresh⟩
end
section
variable {prog:Program} {w:World} {A:Around} {E:Value→Shared→Prop}
variable {s:Shared}
end
end L2
namespace L2
open PySem PySem.Spec PyProof.Rows
section
variable {X:Cx} {a b c e:Expr} {ta tb tc te:TE} {pos p2:Pos}
inductive RSlSP (x:V) (lo:Option Int) (hi:Option Int) (H:Hp) (Q:VK):Prop
 |mk (z:_):(x= .str z)→(z.length≤sizeLine)→(Q (.str (Txt.slice z lo hi)) H)→RSlSP x lo hi H Q
def rSlS:V→Option Int→Option Int→Hp→VK→Prop:=fun x lo hi H Q=>RSlSP x lo hi H Q
theorem sl_str:SlR X rSlS:=by
 intro pins s σ H x v vl vu lo hi sl Q I rx hs pl pu h
 obtain ⟨z,rfl,hz,q⟩:=h
 obtain ⟨t,rfl⟩:=rx
 refine ⟨"str",_,PySem.F.slot_str_getitem.lookup,typeIs_str _ _ _,?_⟩
 have fin:∀t' k,EP X pins σ Q (.str (Txt.slice z lo hi) t') {s with toks:=k}:=fun t' k=>⟨.str _,H,I.tok k,⟨t',rfl⟩,q⟩
 cases pl with
 |none=>
  cases pu with
  |none=>exact wpAny_getItem_str_slice (l:=none) (u:=none) (st:=none) hs rfl (post_val_or_str ⟨Nat.le_trans (Txt.slice_le z _ _) hz,fin⟩)
  |int j tj=>exact wpAny_getItem_str_slice (l:=none) (u:=some (j,tj)) (st:=none) hs rfl (post_val_or_str ⟨Nat.le_trans (Txt.slice_le z _ _) hz,fin⟩)
 |int i ti=>
  cases pu with
  |none=>exact wpAny_getItem_str_slice (l:=some (i,ti)) (u:=none) (st:=none) hs rfl (post_val_or_str ⟨Nat.le_trans (Txt.slice_le z _ _) hz,fin⟩)
  |int j tj=>exact wpAny_getItem_str_slice (l:=some (i,ti)) (u:=some (j,tj)) (st:=none) hs rfl (post_val_or_str ⟨Nat.le_trans (Txt.slice_le z _ _) hz,fin⟩)
theorem strsAre_of:∀{ys:List Str} {us:List Value},Vals (ys.map V.str) us→StrsAre us ys
 |[],_,.nil=> .nil
 |y::ys,_,.cons h t=>by
  obtain ⟨u,rfl⟩:=h
  exact .cons y u (strsAre_of t)
inductive RJoinP (K:PySem.W.Frag) (x:V) (vs:List V) (H:Hp) (Q:VK):Prop
 |mk (z:Str) (l:Addr) (ys:List Str):(x= .str z)→(vs=[.ref l])→(SqL K H l (ys.map V.str))→((ys.map (·.length)).sum+ys.length * z.length≤16777216)→(Q (.str (Txt.join z ys)) H)→RJoinP K x vs H Q
def rJoin (K:PySem.W.Frag):V→List V→Hp→VK→Prop:=fun x vs H Q=>RJoinP K x vs H Q
theorem mt_join:MtM X "str.join" (rJoin X.K):=by
 intro pins s σ H x xs v us Q I rx r h
 obtain ⟨z,l,ys,rfl,rfl,hl,hz,q⟩:=h
 obtain ⟨t,rfl⟩:=rx
 obtain ⟨u,rfl,ru⟩:=Cy r
 cases ru
 obtain ⟨its,rv,hp,_⟩:=I.list hl
 exact join_list hp.isList (strsAre_of rv) hz fun t' k=>⟨.str _,H,I.tok k,⟨t',rfl⟩,q⟩
end
def relab (scope osc:Scope):Scope:={scope with names:=scope.names.map fun (n,k)=>if (k== .free && osc.kind== .function && osc.names.lookup n==some .cell) then (n,.cell) else (n,k)}
structure CS (osc scope:Scope) (T F:List Str):Prop where
 kind:scope.kind= .function
 nocell:∀y∈scope.names,y.2≠ .cell
 names:∀x∈scope.names,x.2= .local→scope.names.lookup x.1=some .local
 free:∀x∈scope.names,x.2= .free→osc.names.lookup x.1=some .cell
 loc:∀y∈T,(relab scope osc).names.lookup y=some .local
 cel:∀y∈F,(relab scope osc).names.lookup y=some .cell∧osc.names.lookup y=some .cell∧(y,NameKind.free)∈scope.names
 all:∀x∈(relab scope osc).names,(x.2= .cell∨x.2= .free)→(x.1,NameKind.free)∈scope.names
theorem CS.to {X:Cx} {scope osc:Scope} {T F:List Str} {js:List Nat} (h:CS osc scope T F) (hj:js.map (fun j=>X.N[j]?)=F.map some) (ho:X.env.scope=osc):CScope X scope T F js:=by
 subst ho
 exact ⟨h.kind,h.nocell,h.names,h.free,h.loc,h.cel,h.all,hj⟩
theorem PSs.imp' {X:Cx} {st:List PySem.Stmt} {t t':TS} (h:PSs X st t) (f:∀D σ H,t' D σ H→t D σ H):PSs X st t':=fun pins s σ H D I h'=>h pins s σ H D I (f D σ H h')
end L2
namespace L2
open PySem PySem.Spec PyProof.Rows
section
variable {X:Cx} {pins:List (Addr×Obj)} {σ:St} {H:Hp} {s:Shared}
theorem Inv.turnedL {t':Nat} {h':Heap} (ch:List Addr) (I:Inv X pins σ H s) (k:∀b o,b ∉ ch→s.heap.get? b=some o→h'.get? b=some o) (hf:∀b∈ch,FpOk X pins H b):Inv X pins σ H {s with heap:=h',toks:=t'}:=by
 have out:∀b u,H b=some u→b ∉ ch:=fun b u e z=>by rw [(hf b z).1] at e;cases e
 have outL:X.env.locals ∉ ch:=fun z=>(hf _ z).2.1 rfl
 refine I.step (g':=s.gens) (d':=s.drawn) (ch:=ch) (fun b hb=>⟨(hf b hb).2.2.2.1,(hf b hb).2.1,(hf b hb).2.2.2.2.1,(hf b hb).2.2.2.2.2⟩) (fun b o _ _ hc e _=>k b o hc e) (fun b o _ _ hc e _=>⟨o.slots,k b o hc e⟩)
  (fun _ _ _ _ n=>n) (fun b o hc e=>⟨o,k b o hc e⟩) (fun _ _ e=>e) (fun _ _ _ e=>e) (fun b ps e=>⟨#[],by rw [e];simp⟩) (fun m hm=> ?_) (fun b u e=> ?_) I.bare
 ·obtain ⟨o,es,ep,ho,r⟩:=hm
  exact ⟨o,es,ep,k _ o outL ho,r⟩
 ·refine (I.hok b u e).stay (fun c v hc q=>k c v ?_ q) (fun _ q=>q) fun _ _ q=>q
  rcases hc with z|z
  ·rw [z];exact out b u e
  ·exact out c _ z
theorem FpOk.up {b T:Addr} {o:HO} (h:FpOk X pins H b) (n:b≠T):FpOk X pins (upd H T o) b:=⟨by rw [Ai n];exact h.1,h.2⟩
end
def Ite (K:PySem.W.Frag) (a:Addr):It:=
 ⟨fun i H=>∃xs x,SqL K H a xs∧xs[i]? =some x,fun i H v H'=>∃T x,H T=none∧v= .ref T∧H'=upd H T (.tup [.int i,x])∧∀xs,SqL K H a xs→xs[i]? =some x,fun i H=>∃xs,SqL K H a xs∧xs.length≤i⟩
theorem turn_enum {P:Program} {w:World} {K:PySem.W.Frag} {elts:List Expr} {x1} {pos:Pos} (a e it:Addr) (hei:e≠it):Turn P w K (.Tuple elts x1 pos) (Ite K a) [e,it] e (fun i h=>(∃old,IsEnum h e it i old)∧h.IsListIter it a i) where
 mem:=by simp
 obj:=fun i h st b hb=>by
  obtain ⟨⟨old,he⟩,o,ho,hc,hd⟩:=st
  rcases List.mem_cons.mp hb with rfl|hb
  ·exact ⟨_,he,fun v z=>by cases z⟩
  ·have:b=it:=by simpa using hb
   subst this
   exact ⟨o,ho,fun v z=>by rw [hd] at z;cases z⟩
 keep:=fun i h h' st k=>⟨let ⟨old,he⟩:=st.1;⟨old,k e (by simp) _ he⟩,st.2.at fun o q=>k it (by simp) o q⟩
 item:=by
  intro X hP hw hK hc i pins s σ H E I hf st hg
  subst hP hw hK
  obtain ⟨⟨old,he⟩,hit⟩:=st
  obtain ⟨xs,x,hq,hx⟩:=hg
  obtain ⟨its,rv,p,hz⟩:=I.list hq
  obtain ⟨u,hu,ru⟩:=rv.get hx
  have fresh:H s.heap.objs.size=none:=I.hok.fresh (Nat.le_refl _)
  have elt:e<s.heap.objs.size:=Heap.lt_size he
  have ilt:it<s.heap.objs.size:=by obtain ⟨_,q,_⟩:=hit;exact Heap.lt_size q
  refine wpAny_pyNext_enum_item he hit p.isList (x:=u) (by simpa using hu) hei fun h' eo it' hT hsz kk=>⟨_,rfl,?_⟩
  refine wpAny_letOwnedTupleGo_enum (s:={s with heap:=h',toks:=s.toks+1}) eo fun h2 e2 sb=> ?_
  have I1:Inv X pins σ (upd H s.heap.objs.size (.tup [.int i,x])) {s with heap:=s.heap.push {cls:= .type "tuple",data:= .seq #[.int i s.toks,u]},toks:=s.toks}:=
   I.laid (o:= .tup [.int i,x]) (fun b ob q=>Heap.get?_push_of_some _ q) (Nat.le_refl _) ⟨by rw [sizeLine_eq];simp,[.int i s.toks,u],.cons ⟨_,rfl⟩ (.cons ru .nil),IsTupN.new _ _⟩
  have I2:=I1.turnedL (h':=h2) (t':=s.toks+1) [e,it] (fun b o hb q=> ?_) (fun b hb=> ?_)
  ·refine ⟨.ref s.heap.objs.size,_,I2,rfl,⟨_,x,fresh,rfl,rfl,fun ys hy=>by rw [I.list_inj hy hq];exact hx⟩,⟨⟨_,by simpa using e2⟩,it'.at fun o q=>(sb.2 it hei.symm).trans q⟩,fun b hb=> ?_⟩
   rcases List.mem_cons.mp hb with rfl|hb
   ·rw [Ai (Nat.ne_of_lt elt)];exact (hf _ (by simp)).1
   ·have:b=it:=by simpa using hb
    subst this
    rw [Ai (Nat.ne_of_lt ilt)];exact (hf _ (by simp)).1
  ·have b1:b≠e:=fun z=>hb (by simp [z])
   have b2:b≠it:=fun z=>hb (by simp [z])
   refine (sb.2 b b1).trans ?_
   by_cases hbs:b=s.heap.objs.size
   ·subst hbs
    rw [Heap.get?_push_size _ rfl] at q
    cases q
    exact hT
   ·rw [Heap.get?_push_ne _ _ _ hbs] at q
    exact kk b o b1 b2 q
  ·rcases List.mem_cons.mp hb with rfl|hb
   ·exact (hf _ (by simp)).up (Nat.ne_of_lt elt)
   ·have:b=it:=by simpa using hb
    subst this
    exact (hf _ (by simp)).up (Nat.ne_of_lt ilt)
 done:=by
  intro X hP hw hK hc i pins s σ H E I hf st hg
  subst hP hw hK
  obtain ⟨⟨old,he⟩,hit⟩:=st
  obtain ⟨xs,hq,hx⟩:=hg
  obtain ⟨its,rv,p,hz⟩:=I.list hq
  have hl:=rv.length
  exact wpAny_pyNext_enum_end (I.ok.hd hc) he hit p.isList (by simp;omega) fun h' eb=>⟨rfl,I.turnedL (t':=s.toks) [e,it] (fun b o hb q=>eb b o (fun z=>hb (by simp [z])) q) hf⟩
 self:=fun A i s Q E st h=>let ⟨⟨old,he⟩,_⟩:=st;wpAny_pyIter_enum he h
def iEnum (K:PySem.W.Frag) (ta:TA):TI:=fun σ H R=>ta σ H fun vs H1=>∃a xs,vs=[.ref a]∧SqL K H1 a xs∧R (Ite K a) H1
theorem pi_enumL {X:Cx} {elts:List Expr} {x1} {tpos:Pos} {a:Expr} {ta:TA} {p pos:Pos} (hg:Gl X "enumerate") (hm:X.mg "enumerate"=none) (ha:PA X [a] ta) (hs:starEach [a] X.env=[(false,eval a X.env)]:=by rfl):
  PI X (.Tuple elts x1 tpos) (.Call (.Name "enumerate" p) [a] [] pos) (iEnum X.K ta):=by
 intro pins s σ H R I h
 refine Call_ (ld_blt I hg hm (show bootBuiltins "enumerate"=some (.type "enumerate") by decide+kernel) (PyProof.Rows.callWith_type1 (thn (ha pos pins s σ H _ I h) fun us s1 ⟨vs,H1,I1,r1,q1⟩=> ?_) hs rfl))
 obtain ⟨l,xs,e,hq,q⟩:=q1
 subst e
 obtain ⟨u,rfl,ru⟩:=Cy r1
 cases ru
 obtain ⟨its,rv,pl,hz⟩:=I1.list hq
 refine call_enumerate_list pl.isList fun h' he hit hsz kk=>wpAny_pyIter_enum he ?_
 refine ⟨s1.heap.objs.size+1,[s1.heap.objs.size+1,s1.heap.objs.size],_,_,H1,rfl,I1.kept (t':=s1.toks) kk,turn_enum l _ _ (Nat.succ_ne_self _),⟨⟨_,he⟩,hit⟩,fun b hb=> ?_,q⟩
 have hb:s1.heap.objs.size≤b:=by
  rcases List.mem_cons.mp hb with rfl|hb
  ·exact Nat.le_succ _
  ·have:b=s1.heap.objs.size:=by simpa using hb
   exact Nat.le_of_eq this.symm
 exact I1.fpOk hb (I1.hok.fresh hb)
section
variable {g:TG} {ti:TT} {te:TE} {Q:VK} {D:Addr} {σ:St} {H:Hp}
theorem comp_enum {K:PySem.W.Frag} {a:Addr} {xs:List V} (Pv:Nat→St→List V→Hp→Prop) (h0:Pv 0 σ [] (upd H D (.lst []))) (hl:∀i σ ys H,i≤xs.length→Pv i σ ys H→SqL K H a xs∧H D=some (.lst ys))
  (hs:∀i x σ ys H T,xs[i]? =some x→Pv i σ ys H→H T=none→cturn g ti te D (.ref T) σ ys (upd H T (.tup [.int (i:Nat),x])) (Pv (i+1))) (hd:∀σ ys H,Pv xs.length σ ys H→Q (.ref D) H):
  cgo (Ite K a) g ti te D σ H Q:=by
 refine ⟨fun i m σ ys H=>m=xs.length - i∧i≤xs.length∧Pv i σ ys H,⟨xs.length,by simp,Nat.zero_le _,h0⟩,?_⟩
 rintro i m σ ys H ⟨rfl,hi,p⟩
 obtain ⟨q,hD⟩:=hl i σ ys H hi p
 refine ⟨hD,?_⟩
 by_cases hlt:i<xs.length
 ·refine .inr ⟨⟨xs,xs[i],q,by simp [hlt]⟩,Pv (i+1),fun σ' ys' H' p'=>⟨xs.length - (i+1),by omega,rfl,hlt,p'⟩,fun x H' y=> ?_⟩
  obtain ⟨T,z,hT,rfl,rfl,y⟩:=y
  exact hs i z σ ys H T (y xs q) p hT
 ·have e:i=xs.length:=by omega
  subst e
  exact .inl ⟨⟨xs,q,Nat.le_refl _⟩,hd σ ys H p⟩
end
end L2
namespace PySem
open Builtin
section
variable {prog:Program} {w:World} {A:Around} {E:Value→Shared→Prop} {s:Shared}
theorem nextOf_tup {it t:Addr} {i:Nat} {its:Array Value} {x:Value} {Q:Value→Shared→Prop} (hi:s.heap.IsTupleIter it t i) (ht:s.heap.IsTuple t its) (hx:its[i]? =some x)
  (hQ:∀h',h'.IsTupleIter it t (i+1)→Heap.SameBut it s.heap h'→Q x {s with heap:=h'}):wpAny (model prog w) A (Builtin.SmallTypes.nextOf (.ref it)) Q E s:=by
 obtain ⟨oi,gi,ci,di⟩:=id hi
 obtain ⟨ot,gt,_,nt,dt⟩:=ht
 unfold Builtin.SmallTypes.nextOf
 refine wpAny_bind (wpAny_callSpecial?_slot (name:=Str.ofString "__next__") hi.typeIs F.slot_tuple_iterator_next (wpAny_call_entry F.slot_tuple_iterator_next hi.typeIs F.entry_tuple_iterator_next ?_ (F.args_tuple_iterator_next_1 _)))
 show wpAny _ _ (field (.ref it) 0 >>=fun _=>_) _ _ s
 refine wpAny_bind (wpAny_field gi di (x:= .ref t) rfl ?_)
 show wpAny _ _ (ite ((Value.ref t==Value.none)=true) _ _) _ _ s
 have ng:¬((Value.ref t==Value.none)=true):=Bool.false_ne_true
 rw [if_neg ng]
 show wpAny _ _ (field (.ref it) 1 >>=fun _=>_) _ _ s
 refine wpAny_bind (wpAny_field gi di (x:= .int i 0) rfl ?_)
 show wpAny _ _ (seqItems? (.ref t) >>=fun _=>_) _ _ s
 refine wpAny_bind (wpAny_seqItems gt dt ?_)
 simp only [Int.toNat_natCast,hx]
 refine wpAny_bind (wpAny_setField gi di (by simp) (wpAny_pure ⟨x,rfl,wpAny_pure (hQ _ ⟨_,Heap.get?_update_self _ gi (Obj.isFreed_of_fields (Obj.data_mapFields di _)),(Obj.cls_mapFields ..).trans ci,?_⟩ (Heap.SameBut.update ..))⟩))
 rw [Obj.data_mapFields di]
 simp [rawInt]
theorem nextOf_tup_end {it t:Addr} {i:Nat} {its:Array Value} {Q:Value→Shared→Prop} (hh:A.handled=none) (hi:s.heap.IsTupleIter it t i) (ht:s.heap.IsTuple t its) (hx:its[i]? =none)
  (hE:∀h' e,Heap.ExtBut it s.heap h'→(∃o,h'.get? e=some o∧o.cls= .type "StopIteration")→E (.ref e) {s with heap:=h'}):wpAny (model prog w) A (Builtin.SmallTypes.nextOf (.ref it)) Q E s:=by
 obtain ⟨oi,gi,ci,di⟩:=id hi
 obtain ⟨ot,gt,_,nt,dt⟩:=ht
 unfold Builtin.SmallTypes.nextOf
 refine wpAny_bind (wpAny_callSpecial?_slot (name:=Str.ofString "__next__") hi.typeIs F.slot_tuple_iterator_next (wpAny_call_entry F.slot_tuple_iterator_next hi.typeIs F.entry_tuple_iterator_next ?_ (F.args_tuple_iterator_next_1 _)))
 show wpAny _ _ (field (.ref it) 0 >>=fun _=>_) _ _ s
 refine wpAny_bind (wpAny_field gi di (x:= .ref t) rfl ?_)
 show wpAny _ _ (ite ((Value.ref t==Value.none)=true) _ _) _ _ s
 have ng:¬((Value.ref t==Value.none)=true):=Bool.false_ne_true
 rw [if_neg ng]
 show wpAny _ _ (field (.ref it) 1 >>=fun _=>_) _ _ s
 refine wpAny_bind (wpAny_field gi di (x:= .int i 0) rfl ?_)
 show wpAny _ _ (seqItems? (.ref t) >>=fun _=>_) _ _ s
 refine wpAny_bind (wpAny_seqItems gt dt ?_)
 simp only [Int.toNat_natCast,hx]
 refine wpAny_bind (wpAny_rule (wpAny_bind (wpAny_setField gi di (by simp) ?_)))
 show wpAny _ _ (newExc (.type "StopIteration") [] >>=fun _=>_) _ _ _
 refine wpAny_bind ?_
 simp only [newExc,newTuple]
 refine wpAny_bind (wpAny_newObj_type ?_ (by size_fits))
 refine wpAny_bind (m:=firstArgMember _ _) (wpAny_of_eq (a:=Value.none) (by first|rfl|(simp only [firstArgMember];rfl)) ?_)
 refine wpAny_newObj_type ?_ (by size_fits)
 simp only [raiseNew]
 refine wpAny_bind (wpAny_handled ?_)
 first|rw [show A.in1.handled=none from hh]|rw [hh]
 exact wpAny_bind (wpAny_pure (wpAny_throw (hE _ _ (((Heap.SameBut.update ..).extBut.push _).push _) ⟨_,Heap.get?_push_size _ rfl,rfl⟩)))
theorem Draws.tup {prog:Program} {w:World} {A:Around} (hh:A.handled=none) (it t:Addr) (hne:t≠it) (its:Array Value):
  Draws prog w A it [it,t] its.size (fun i v=>its[i]? =some v) (fun i h=>h.IsTupleIter it t i∧h.IsTuple t its) where
 live:=fun _ _ st=>⟨st.1.choose,st.1.choose_spec.1⟩
 frame:=fun _ _ _ st hk=>⟨st.1.at fun o e=>hk it (by simp) o e,let ⟨o,ho,r⟩:=st.2;⟨o,hk t (by simp) o ho,r⟩⟩
 item:=fun i s Q E hi st hQ=>by
  refine nextOf_tup st.1 st.2 (x:=its[i]) (by simp [hi]) fun h' hit' hs'=> ?_
  exact hQ _ h' s.toks (by simp [hi]) ⟨hit',let ⟨o,ho,r⟩:=st.2;⟨o,hs'.extBut _ _ hne ho,r⟩⟩ hs'
 done:=fun s Q E st hE=>nextOf_tup_end hh st.1 st.2 (by simp) hE
end
end PySem
namespace PySem
open Builtin
structure ZAp (z TI TO i1 i2:Addr) (f1 f2:List Addr):Prop where
 a1:TI≠z
 a2:TO≠z
 a3:i1≠z
 a4:i2≠z
 a5:TI≠TO
 a6:TI≠i1
 a7:TI≠i2
 a8:TO≠i1
 a9:TO≠i2
 b1:i1≠i2
 b2:z ∉ f1
 b3:z ∉ f2
 b4:TO ∉ f1
 b5:TO ∉ f2
 b6:i1 ∉ f2
 b7:i2 ∉ f1
section
variable {prog:Program} {w:World} {A:Around} {E:Value→Shared→Prop} {s:Shared} {z TI TO i1 i2:Addr} {f1 f2:List Addr} {n1 n2:Nat} {P1 P2:Nat→Value→Prop} {S1 S2:Nat→Heap→Prop}
theorem zip_itemD {k:Nat} {a b:Value} {Q:Value→Shared→Prop} (D:ZAp z TI TO i1 i2 f1 f2) (D1:Draws prog w A i1 f1 n1 P1 S1) (D2:Draws prog w A i2 f2 n2 P2 S2)
  (hZ:IsZip s.heap z TI TO .none) (pI:IsPair s.heap TI (.ref i1) (.ref i2)) (pO:IsPair s.heap TO a b) (t1:S1 k s.heap) (t2:S2 k s.heap) (l1:k<n1) (l2:k<n2)
  (hQ:∀h' tk x y,P1 k x→P2 k y→IsZip h' z TI TO (rawInt s.heap.objs.size)→IsPair h' TO x y→S1 (k+1) h'→S2 (k+1) h'→IsPair h' s.heap.objs.size x y→
   (∀c o,c≠z→c≠TO→c≠i1→c≠i2→s.heap.get? c=some o→h'.get? c=some o)→Q (.ref s.heap.objs.size) {s with heap:=h',toks:=tk}):
  wpAny (model prog w) A (Builtin.«zip.__next__» ⟨[.ref z],[]⟩) (fun fin s'=>∃v,fin= .done (.ret v)∧Q v s') E s:=by
 show wpAny _ _ (field (.ref z) 2 >>=fun _=>_) _ _ _
 refine wpAny_bind (wpAny_field hZ rfl (x:= .bool false) rfl ?_)
 show wpAny _ _ (field (.ref z) 3 >>=fun _=>_) _ _ _
 refine wpAny_bind (wpAny_field hZ rfl (x:= .ref TI) rfl ?_)
 refine wpAny_bind (wpAny_seqItems pI rfl ?_)
 show wpAny _ _ (Builtin.SmallTypes.ownedTupleIsFree (.ref z) >>=fun _=>_) _ _ _
 refine wpAny_bind ?_
 unfold Builtin.SmallTypes.ownedTupleIsFree
 refine wpAny_bind (wpAny_field hZ rfl (x:= .none) rfl (wpAny_pure ?_))
 simp only [if_true]
 refine wpAny_bind (wpAny_rule (wpAny_bind (wpAny_field hZ rfl (x:= .ref TO) rfl ?_)))
 refine wpAny_bind (wpAny_setField_rec hZ (by simp) fun g1 zg1 k1=> ?_)
 replace zg1:IsZip g1 z TI TO .ellipsis:=zg1
 refine wpAny_bind ?_
 simp only [List.zipIdx_cons,List.zipIdx_nil,List.forIn_cons,List.forIn_nil]
 refine wpAny_bind (wpAny_bind (wpAny_onRaise ?_))
 show wpAny _ _ (Builtin.SmallTypes.nextOf (.ref i1) >>=fun _=>_) _ _ _
 refine wpAny_bind (D1.item k _ _ _ l1 (D1.frame _ _ _ t1 fun c hc o e=>k1.extBut _ _ (fun q=>D.b2 (q▸hc)) e) fun x g2 tk2 px sg2 k2=>wpAny_pure ?_)
 have pO2:IsPair g2 TO a b:=k2.extBut _ _ D.a8 (k1.extBut _ _ D.a2 pO)
 refine wpAny_bind (wpAny_seqItems pO2 rfl (wpAny_bind (wpAny_updateSeq_pair pO2 fun g3 pO3 k3=> ?_)))
 replace pO3:IsPair g3 TO x b:=pO3
 refine wpAny_bind (wpAny_letGo (wpAny_pure (wpAny_bind (wpAny_bind (wpAny_onRaise ?_)))))
 show wpAny _ _ (Builtin.SmallTypes.nextOf (.ref i2) >>=fun _=>_) _ _ _
 have t2':S2 k g3:=D2.frame _ _ _ t2 fun c hc o e=>k3.extBut _ _ (fun q=>D.b5 (q▸hc)) (k2.extBut _ _ (fun q=>D.b6 (q▸hc)) (k1.extBut _ _ (fun q=>D.b3 (q▸hc)) e))
 refine wpAny_bind (D2.item k _ _ _ l2 t2' fun y g4 tk4 py sg4 k4=>wpAny_pure ?_)
 have pO4:IsPair g4 TO x b:=k4.extBut _ _ D.a9 pO3
 refine wpAny_bind (wpAny_seqItems pO4 rfl (wpAny_bind (wpAny_updateSeq_pair pO4 fun g5 pO5 k5=> ?_)))
 replace pO5:IsPair g5 TO x y:=pO5
 refine wpAny_bind (wpAny_letGo (wpAny_pure (wpAny_pure (wpAny_bind (wpAny_seqItems pO5 rfl (wpAny_bind (wpAny_newTuple ?_)))))))
 have sz:g5.objs.size=s.heap.objs.size:=by rw [k5.1,k4.1,k3.1,k2.1,k1.1]
 have zg5:IsZip g5 z TI TO .ellipsis:=k5.extBut _ _ D.a2.symm (k4.extBut _ _ D.a4.symm (k3.extBut _ _ D.a2.symm (k2.extBut _ _ D.a3.symm zg1)))
 have kk:∀c o,c≠z→c≠TO→c≠i1→c≠i2→s.heap.get? c=some o→g5.get? c=some o:=fun c o c1 c2 c3 c4 e=>k5.extBut _ _ c2 (k4.extBut _ _ c4 (k3.extBut _ _ c2 (k2.extBut _ _ c3 (k1.extBut _ _ c1 e))))
 have u1:S1 (k+1) g5:=D1.frame _ _ _ sg2 fun c hc o e=>k5.extBut _ _ (fun q=>D.b4 (q▸hc)) (k4.extBut _ _ (fun q=>D.b7 (q▸hc)) (k3.extBut _ _ (fun q=>D.b4 (q▸hc)) e))
 have u2:S2 (k+1) g5:=D2.frame _ _ _ sg4 fun c hc o e=>k5.extBut _ _ (fun q=>D.b5 (q▸hc)) e
 have zlt:z<g5.objs.size:=Heap.lt_size zg5
 show wpAny _ _ (Builtin.SmallTypes.ownedTupleHandOut (.ref z) (.ref g5.objs.size) >>=fun _=>_) _ _ _
 refine wpAny_bind ?_
 unfold Builtin.SmallTypes.ownedTupleHandOut
 have zg6:IsZip (g5.push {cls:= .type "tuple",data:= .seq #[x,y]}) z TI TO .ellipsis:=Heap.get?_push_of_some _ zg5
 refine wpAny_bind (wpAny_setField_rec zg6 (by simp) fun g7 zg7 k7=> ?_)
 replace zg7:IsZip g7 z TI TO (rawInt g5.objs.size):=zg7
 refine wpAny_setField_rec zg7 (by simp) fun g8 zg8 k8=> ?_
 replace zg8:IsZip g8 z TI TO (rawInt g5.objs.size):=zg8
 have up:∀c o,c≠z→g5.get? c=some o→g8.get? c=some o:=fun c o c1 e=>k8.extBut _ _ c1 (k7.extBut _ _ c1 (Heap.get?_push_of_some _ e))
 have pT:IsPair g8 g5.objs.size x y:=k8.extBut _ _ (Nat.ne_of_gt zlt) (k7.extBut _ _ (Nat.ne_of_gt zlt) (Heap.get?_push_size _ rfl))
 rw [sz] at zg8 pT
 refine wpAny_pure ⟨_,rfl,?_⟩
 show Q (.ref g5.objs.size) _
 rw [sz]
 exact hQ g8 _ x y px py zg8 (up _ _ D.a2 pO5) (D1.frame _ _ _ u1 fun c hc o e=>up c o (fun q=>D.b2 (q▸hc)) e) (D2.frame _ _ _ u2 fun c hc o e=>up c o (fun q=>D.b3 (q▸hc)) e) pT fun c o c1 c2 c3 c4 e=>up c o c1 (kk c o c1 c2 c3 c4 e)
theorem zip_endD {k:Nat} {a b:Value} {Q:Fin→Shared→Prop} (D:ZAp z TI TO i1 i2 f1 f2) (D1:Draws prog w A i1 f1 n1 P1 S1) (D2:Draws prog w A i2 f2 n2 P2 S2)
  (hZ:IsZip s.heap z TI TO .none) (pI:IsPair s.heap TI (.ref i1) (.ref i2)) (pO:IsPair s.heap TO a b) (t1:S1 k s.heap) (t2:S2 k s.heap) (hend:k=n1∨(k<n1∧k=n2))
  (hE:∀h' tk e,(∀c o,c≠z→c≠TO→c≠i1→c≠i2→s.heap.get? c=some o→h'.get? c=some o)→(∃o,h'.get? e=some o∧o.cls= .type "StopIteration")→E (.ref e) {s with heap:=h',toks:=tk}):
  wpAny (model prog w) A (Builtin.«zip.__next__» ⟨[.ref z],[]⟩) Q E s:=by
 show wpAny _ _ (field (.ref z) 2 >>=fun _=>_) _ _ _
 refine wpAny_bind (wpAny_field hZ rfl (x:= .bool false) rfl ?_)
 show wpAny _ _ (field (.ref z) 3 >>=fun _=>_) _ _ _
 refine wpAny_bind (wpAny_field hZ rfl (x:= .ref TI) rfl ?_)
 refine wpAny_bind (wpAny_seqItems pI rfl ?_)
 show wpAny _ _ (Builtin.SmallTypes.ownedTupleIsFree (.ref z) >>=fun _=>_) _ _ _
 refine wpAny_bind ?_
 unfold Builtin.SmallTypes.ownedTupleIsFree
 refine wpAny_bind (wpAny_field hZ rfl (x:= .none) rfl (wpAny_pure ?_))
 simp only [if_true]
 refine wpAny_bind (wpAny_rule (wpAny_bind (wpAny_field hZ rfl (x:= .ref TO) rfl ?_)))
 refine wpAny_bind (wpAny_setField_rec hZ (by simp) fun g1 zg1 k1=> ?_)
 replace zg1:IsZip g1 z TI TO .ellipsis:=zg1
 refine wpAny_bind ?_
 simp only [List.zipIdx_cons,List.zipIdx_nil,List.forIn_cons,List.forIn_nil]
 refine wpAny_bind (wpAny_bind (wpAny_onRaise ?_))
 show wpAny _ _ (Builtin.SmallTypes.nextOf (.ref i1) >>=fun _=>_) _ _ _
 have t1':S1 k g1:=D1.frame _ _ _ t1 fun c hc o e=>k1.extBut _ _ (fun q=>D.b2 (q▸hc)) e
 rcases hend with rfl|⟨l1,rfl⟩
 ·refine wpAny_bind (D1.done _ _ _ t1' fun g2 e k2 he=> ?_)
  obtain ⟨oe,ge,ce⟩:=he
  have zg2:IsZip g2 z TI TO .ellipsis:=k2 _ _ D.a3.symm zg1
  have ne:e≠z:=fun q=>by subst q;rw [zg2] at ge;cases ge;simp at ce
  exact wpAny_setField_rec zg2 (by simp) fun g3 _ k3=>hE g3 _ e (fun c o c1 _ c3 _ q=>k3.extBut _ _ c1 (k2 _ _ c3 (k1.extBut _ _ c1 q))) ⟨oe,k3.extBut _ _ ne ge,ce⟩
 ·refine wpAny_bind (D1.item k _ _ _ l1 t1' fun x g2 tk2 px sg2 k2=>wpAny_pure ?_)
  have pO2:IsPair g2 TO a b:=k2.extBut _ _ D.a8 (k1.extBut _ _ D.a2 pO)
  refine wpAny_bind (wpAny_seqItems pO2 rfl (wpAny_bind (wpAny_updateSeq_pair pO2 fun g3 pO3 k3=> ?_)))
  refine wpAny_bind (wpAny_letGo (wpAny_pure (wpAny_bind (wpAny_bind (wpAny_onRaise ?_)))))
  show wpAny _ _ (Builtin.SmallTypes.nextOf (.ref i2) >>=fun _=>_) _ _ _
  have t2':S2 k g3:=D2.frame _ _ _ t2 fun c hc o e=>k3.extBut _ _ (fun q=>D.b5 (q▸hc)) (k2.extBut _ _ (fun q=>D.b6 (q▸hc)) (k1.extBut _ _ (fun q=>D.b3 (q▸hc)) e))
  refine wpAny_bind (D2.done _ _ _ t2' fun g4 e k4 he=> ?_)
  obtain ⟨oe,ge,ce⟩:=he
  have zg4:IsZip g4 z TI TO .ellipsis:=k4 _ _ D.a4.symm (k3.extBut _ _ D.a2.symm (k2.extBut _ _ D.a3.symm zg1))
  have ne:e≠z:=fun q=>by subst q;rw [zg4] at ge;cases ge;simp at ce
  exact wpAny_setField_rec zg4 (by simp) fun g5 _ k5=>hE g5 _ e (fun c o c1 c2 c3 c4 q=>k5.extBut _ _ c1 (k4 _ _ c4 (k3.extBut _ _ c2 (k2.extBut _ _ c3 (k1.extBut _ _ c1 q))))) ⟨oe,k5.extBut _ _ ne ge,ce⟩
end
end PySem
namespace PySem
open Builtin
section
variable {prog:Program} {w:World} {A:Around} {E:Value→Shared→Prop} {s:Shared} {z TI TO i1 i2:Addr} {f1 f2:List Addr} {n1 n2:Nat} {P1 P2:Nat→Value→Prop} {S1 S2:Nat→Heap→Prop}
theorem pyNext_zip_itemD {k:Nat} {a b:Value} {Q:Option Value→Shared→Prop} (D:ZAp z TI TO i1 i2 f1 f2) (D1:Draws prog w A.in1 i1 f1 n1 P1 S1) (D2:Draws prog w A.in1 i2 f2 n2 P2 S2)
  (hZ:IsZip s.heap z TI TO .none) (pI:IsPair s.heap TI (.ref i1) (.ref i2)) (pO:IsPair s.heap TO a b) (t1:S1 k s.heap) (t2:S2 k s.heap) (l1:k<n1) (l2:k<n2)
  (hQ:∀h' tk x y,P1 k x→P2 k y→IsZip h' z TI TO (rawInt s.heap.objs.size)→IsPair h' TO x y→S1 (k+1) h'→S2 (k+1) h'→IsPair h' s.heap.objs.size x y→
   (∀c o,c≠z→c≠TO→c≠i1→c≠i2→s.heap.get? c=some o→h'.get? c=some o)→Q (some (.ref s.heap.objs.size)) {s with heap:=h',toks:=tk}):
  wpAny (model prog w) A (pyNext (.ref z)) Q E s:=by
 have tz:s.TypeIs (.ref z) "zip":=⟨_,hZ,rfl⟩
 unfold pyNext
 exact wpAny_bind (wpAny_attempt (wpAny_callSpecial?_slot (name:=Str.ofString "__next__") tz F.slot_zip_next (wpAny_call_entry F.slot_zip_next tz F.entry_zip_next
   (zip_itemD D D1 D2 hZ pI pO t1 t2 l1 l2 fun h' tk x y a1 a2 a3 a4 a5 a6 a7 a8=>wpAny_pure (hQ h' tk x y a1 a2 a3 a4 a5 a6 a7 a8)) (F.args_zip_next_1 _))))
theorem pyNext_zip_endD {k:Nat} {a b:Value} {Q:Option Value→Shared→Prop} (D:ZAp z TI TO i1 i2 f1 f2) (D1:Draws prog w A.in1 i1 f1 n1 P1 S1) (D2:Draws prog w A.in1 i2 f2 n2 P2 S2)
  (hZ:IsZip s.heap z TI TO .none) (pI:IsPair s.heap TI (.ref i1) (.ref i2)) (pO:IsPair s.heap TO a b) (t1:S1 k s.heap) (t2:S2 k s.heap) (hend:k=n1∨(k<n1∧k=n2))
  (hQ:∀h' tk,(∀c o,c≠z→c≠TO→c≠i1→c≠i2→s.heap.get? c=some o→h'.get? c=some o)→Q none {s with heap:=h',toks:=tk}):
  wpAny (model prog w) A (pyNext (.ref z)) Q E s:=by
 have tz:s.TypeIs (.ref z) "zip":=⟨_,hZ,rfl⟩
 unfold pyNext
 refine wpAny_bind (wpAny_attempt (wpAny_callSpecial?_slot (name:=Str.ofString "__next__") tz F.slot_zip_next (wpAny_call_entry F.slot_zip_next tz F.entry_zip_next (zip_endD D D1 D2 hZ pI pO t1 t2 hend fun h' tk e hk he=> ?_) (F.args_zip_next_1 _))))
 obtain ⟨o,ho,hc⟩:=he
 exact wpAny_bind (wpAny_isInstance (T:="StopIteration") (b:=true) ⟨o,ho,hc⟩ isSubtype_stop (wpAny_pure (hQ _ _ hk)))
end
abbrev zT1 (h:Heap) (a:Addr):Heap:=h.push {cls:= .type "tuple_iterator",data:= .fields #[.ref a,.int 0 0]}
abbrev zT2 (h:Heap) (a b:Addr):Heap:=(zT1 h a).push {cls:= .type "tuple_iterator",data:= .fields #[.ref b,.int 0 0]}
abbrev zT3 (h:Heap) (a b:Addr):Heap:=(zT2 h a b).push {cls:= .type "tuple",data:= .seq #[.ref h.objs.size,.ref (zT1 h a).objs.size]}
abbrev zT4 (h:Heap) (a b:Addr):Heap:=(zT3 h a b).push {cls:= .type "tuple",data:= .seq #[.none,.none]}
abbrev zT5 (h:Heap) (a b:Addr):Heap:=(zT4 h a b).push {cls:= .type "zip",data:= .fields #[.none,.bool false,.bool false,.ref (zT2 h a b).objs.size,.ref (zT3 h a b).objs.size]}
theorem meets_zip_tt (a b:Addr) (xs ys:Array Value):
  Meets (Builtin.«zip.__new__» ⟨[.type "zip",.ref a,.ref b],[]⟩) (fun _ R s=>s.heap.IsTuple a xs∧s.heap.IsTuple b ys∧R (.ok (.ret (.ref (zT4 s.heap a b).objs.size))) {s with heap:=zT5 s.heap a b}):=
 .of_wp fun prog w A R s h=>by
  obtain ⟨hp,g,d,tk,os⟩:=s
  obtain ⟨ta,tb,h⟩:=h
  have hsub:=sub_zip
  have q1:Heap.IsTuple (Shared.heap ⟨hp,g,d,tk,os⟩) a xs:=ta
  have q2:Heap.IsTuple (Shared.heap ⟨hp.push {cls:= .type "tuple_iterator",data:= .fields #[.ref a,.int 0 0]},g,d,tk,os⟩) b ys:=let ⟨o,ho,r⟩:=tb;⟨o,Heap.get?_push_of_some _ ho,r⟩
  wp_walk using wpAny_pyIter_tuple q1,wpAny_pyIter_tuple q2
  exact ⟨_,rfl,h⟩
section
variable {prog:Program} {w:World} {A:Around} {E:Value→Shared→Prop} {s:Shared}
theorem call_zip_tt {a b:Addr} {xs ys:Array Value} {Q:Value→Shared→Prop} (ta:s.heap.IsTuple a xs) (tb:s.heap.IsTuple b ys)
  (h:∀h',IsZip h' (s.heap.objs.size+4) (s.heap.objs.size+2) (s.heap.objs.size+3) .none→IsPair h' (s.heap.objs.size+2) (.ref s.heap.objs.size) (.ref (s.heap.objs.size+1))→IsPair h' (s.heap.objs.size+3) .none .none→
   h'.IsTupleIter s.heap.objs.size a 0→h'.IsTupleIter (s.heap.objs.size+1) b 0→(∀c o,s.heap.get? c=some o→h'.get? c=some o)→Q (.ref (s.heap.objs.size+4)) {s with heap:=h'}):
  wpAny (model prog w) A (call (.type "zip") [.ref a,.ref b]) Q E s:=by
 refine callType_new F.called_zip (by decide) (F.typeCall_zip_2 _ _) (F.newCall_zip_2 _ _) (fun obj=>F.args_object_init_3 obj _ _) F.entry_zip_new (meets_zip_tt a b xs ys) ⟨ta,tb,?_⟩
 have y1:(zT1 s.heap a).objs.size=s.heap.objs.size+1:=Heap.size_push ..
 have y2:(zT2 s.heap a b).objs.size=s.heap.objs.size+2:=by rw [Heap.size_push,y1]
 have y3:(zT3 s.heap a b).objs.size=s.heap.objs.size+3:=by rw [Heap.size_push,y2]
 have y4:(zT4 s.heap a b).objs.size=s.heap.objs.size+4:=by rw [Heap.size_push,y3]
 have e5:(zT5 s.heap a b).get? (zT4 s.heap a b).objs.size=some _:=Heap.get?_push_size _ rfl
 have e4:(zT5 s.heap a b).get? (zT3 s.heap a b).objs.size=some _:=Heap.get?_push_of_some _ (Heap.get?_push_size _ rfl)
 have e3:(zT5 s.heap a b).get? (zT2 s.heap a b).objs.size=some _:=Heap.get?_push_of_some _ (Heap.get?_push_of_some _ (Heap.get?_push_size _ rfl))
 have e2:(zT5 s.heap a b).get? (zT1 s.heap a).objs.size=some _:=Heap.get?_push_of_some _ (Heap.get?_push_of_some _ (Heap.get?_push_of_some _ (Heap.get?_push_size _ rfl)))
 have e1:(zT5 s.heap a b).get? s.heap.objs.size=some _:=Heap.get?_push_of_some _ (Heap.get?_push_of_some _ (Heap.get?_push_of_some _ (Heap.get?_push_of_some _ (Heap.get?_push_size _ rfl))))
 show _∧_
 rw [y2,y3,y4] at e5
 rw [y1,y2] at e3
 rw [y3] at e4
 rw [y1] at e2
 rw [y4]
 refine ⟨⟨_,e5,rfl⟩,h _ e5 e3 e4 ⟨_,e1,rfl,rfl⟩ ⟨_,e2,rfl,rfl⟩ fun c o e=> ?_⟩
 exact Heap.get?_push_of_some _ (Heap.get?_push_of_some _ (Heap.get?_push_of_some _ (Heap.get?_push_of_some _ (Heap.get?_push_of_some _ e))))
end
end PySem
namespace L2
open PySem PySem.Spec PyProof.Rows
def Itz (K:PySem.W.Frag) (a b:Addr):It:=
 ⟨fun i H=>∃xs ys x y,SqT K H a xs∧SqT K H b ys∧xs[i]? =some x∧ys[i]? =some y,fun i H v H'=>∃T x y,H T=none∧v= .ref T∧H'=upd H T (.tup [x,y])∧(∀xs,SqT K H a xs→xs[i]? =some x)∧∀ys,SqT K H b ys→ys[i]? =some y,
  fun i H=>∃xs ys,SqT K H a xs∧SqT K H b ys∧(i=xs.length∨(i<xs.length∧i=ys.length))⟩
theorem zap_of {z TI TO i1 i2 a b:Addr} (nd:[z,TI,TO,i1,i2].Nodup) (na:a ∉ [z,TI,TO,i1,i2]) (nb:b ∉ [z,TI,TO,i1,i2]):ZAp z TI TO i1 i2 [i1,a] [i2,b]:=by
 simp only [List.nodup_cons,List.mem_cons,List.mem_nil_iff,or_false,not_or,List.nodup_nil,and_true,not_false_eq_true] at nd na nb
 obtain ⟨⟨q1,q2,q3,q4⟩,⟨q5,q6,q7⟩,⟨q8,q9⟩,q10⟩:=nd
 obtain ⟨r1,r2,r3,r4,r5⟩:=na
 obtain ⟨s1,s2,s3,s4,s5⟩:=nb
 constructor<;> first|exact Ne.symm ‹_›|assumption|(simp only [List.mem_cons,List.mem_nil_iff,or_false,not_or];constructor<;> first|assumption|exact Ne.symm ‹_›)
theorem turn_zip {P:Program} {w:World} {K:PySem.W.Frag} {elts:List Expr} {x1} {pos:Pos} (a b z TI TO i1 i2:Addr) (nd:[z,TI,TO,i1,i2].Nodup) (na:a ∉ [z,TI,TO,i1,i2]) (nb:b ∉ [z,TI,TO,i1,i2]):Turn P w K (.Tuple elts x1 pos) (Itz K a b) [z,TI,TO,i1,i2] z
  (fun i h=>IsZip h z TI TO .none∧IsPair h TI (.ref i1) (.ref i2)∧(∃u v,IsPair h TO u v)∧h.IsTupleIter i1 a i∧h.IsTupleIter i2 b i) where
 mem:=by simp
 obj:=fun i h st c hc=>by
  obtain ⟨h1,h2,⟨u,v,h3⟩,⟨o4,g4,_,d4⟩,⟨o5,g5,_,d5⟩⟩:=st
  simp only [List.mem_cons,List.mem_nil_iff,or_false] at hc
  rcases hc with rfl|rfl|rfl|rfl|rfl
  ·exact ⟨_,h1,fun v q=>by cases q⟩
  ·exact ⟨_,h2,fun v q=>by cases q⟩
  ·exact ⟨_,h3,fun v q=>by cases q⟩
  ·exact ⟨_,g4,fun v q=>by rw [d4] at q;cases q⟩
  ·exact ⟨_,g5,fun v q=>by rw [d5] at q;cases q⟩
 keep:=fun i h h' st k=>by
  obtain ⟨h1,h2,⟨u,v,h3⟩,h4,h5⟩:=st
  exact ⟨k z (by simp) _ h1,k TI (by simp) _ h2,⟨u,v,k TO (by simp) _ h3⟩,h4.at fun o q=>k i1 (by simp) o q,h5.at fun o q=>k i2 (by simp) o q⟩
 item:=by
  intro X hP hw hK hc i pins s σ H E I hf st hg
  subst hP hw hK
  obtain ⟨hZ,pI,⟨u,v,pO⟩,t1,t2⟩:=st
  obtain ⟨xs,ys,x,y,ha,hb,hx,hy⟩:=hg
  obtain ⟨its,rv,p1,_⟩:=I.tuple ha
  obtain ⟨jts,rw',p2,_⟩:=I.tuple hb
  obtain ⟨ux,hux,rx⟩:=rv.get hx
  obtain ⟨uy,huy,ry⟩:=rw'.get hy
  have AP:=zap_of nd na nb
  have fresh:H s.heap.objs.size=none:=I.hok.fresh (Nat.le_refl _)
  have ltz:∀c∈[z,TI,TO,i1,i2],c≠s.heap.objs.size:=by
   intro c hc
   obtain ⟨o4,g4,_⟩:=id t1
   obtain ⟨o5,g5,_⟩:=id t2
   simp only [List.mem_cons,List.mem_nil_iff,or_false] at hc
   rcases hc with rfl|rfl|rfl|rfl|rfl
   ·exact Nat.ne_of_lt (Heap.lt_size hZ)
   ·exact Nat.ne_of_lt (Heap.lt_size pI)
   ·exact Nat.ne_of_lt (Heap.lt_size pO)
   ·exact Nat.ne_of_lt (Heap.lt_size g4)
   ·exact Nat.ne_of_lt (Heap.lt_size g5)
  refine pyNext_zip_itemD AP (Draws.tup (A:=X.A.in1) (I.ok.hd hc) i1 a (fun q=>na (by simp [q])) its.toArray) (Draws.tup (A:=X.A.in1) (I.ok.hd hc) i2 b (fun q=>nb (by simp [q])) jts.toArray) hZ pI pO ⟨t1,p1⟩ ⟨t2,p2⟩
   (by have:=(List.getElem?_eq_some_iff.mp hux).1;simpa using this) (by have:=(List.getElem?_eq_some_iff.mp huy).1;simpa using this) fun h' tk xv yv px py z' pO' s1' s2' pT kk=>⟨_,rfl,?_⟩
  have ex:ux=xv:=Option.some.inj (hux.symm.trans (by simpa using px))
  have ey:uy=yv:=Option.some.inj (huy.symm.trans (by simpa using py))
  subst ex ey
  refine wpAny_letOwnedTupleGo_zip (s:={s with heap:=h',toks:=tk}) z' fun h2 z2 sb=> ?_
  have I1:Inv X pins σ (upd H s.heap.objs.size (.tup [x,y])) {s with heap:=s.heap.push {cls:= .type "tuple",data:= .seq #[ux,uy]},toks:=s.toks}:=
   I.laid (o:= .tup [x,y]) (fun b ob q=>Heap.get?_push_of_some _ q) (Nat.le_refl _) ⟨by rw [sizeLine_eq];simp,[ux,uy],.cons rx (.cons ry .nil),IsTupN.new _ _⟩
  have I2:=I1.turnedL (h':=h2) (t':=tk) [z,TI,TO,i1,i2] (fun c o hc' q=> ?_) (fun c hc'=>(hf c hc').up (ltz c hc'))
  ·refine ⟨.ref s.heap.objs.size,_,I2,rfl,⟨_,x,y,fresh,rfl,rfl,fun ys' hy'=>by rw [I.tuple_inj hy' ha];exact hx,fun ys' hy'=>by rw [I.tuple_inj hy' hb];exact hy⟩,
    ⟨z2,(sb.2 TI AP.a1).trans (kk _ _ AP.a1 AP.a5 AP.a6 AP.a7 pI),⟨_,_,(sb.2 TO AP.a2).trans pO'⟩,s1'.1.at fun o q=>(sb.2 i1 AP.a3).trans q,s2'.1.at fun o q=>(sb.2 i2 AP.a4).trans q⟩,fun c hc'=> ?_⟩
   rw [Ai (ltz c hc')];exact (hf c hc').1
  ·have c1:c≠z:=fun q=>hc' (by simp [q])
   have c2:c≠TO:=fun q=>hc' (by simp [q])
   have c3:c≠i1:=fun q=>hc' (by simp [q])
   have c4:c≠i2:=fun q=>hc' (by simp [q])
   refine (sb.2 c c1).trans ?_
   by_cases hcs:c=s.heap.objs.size
   ·subst hcs
    rw [Heap.get?_push_size _ rfl] at q
    cases q
    exact pT
   ·rw [Heap.get?_push_ne _ _ _ hcs] at q
    exact kk c o c1 c2 c3 c4 q
 done:=by
  intro X hP hw hK hc i pins s σ H E I hf st hg
  subst hP hw hK
  obtain ⟨hZ,pI,⟨u,v,pO⟩,t1,t2⟩:=st
  obtain ⟨xs,ys,ha,hb,hend⟩:=hg
  obtain ⟨its,rv,p1,_⟩:=I.tuple ha
  obtain ⟨jts,rw',p2,_⟩:=I.tuple hb
  have AP:=zap_of nd na nb
  have l1:=rv.length
  have l2:=rw'.length
  refine pyNext_zip_endD AP (Draws.tup (A:=X.A.in1) (I.ok.hd hc) i1 a (fun q=>na (by simp [q])) its.toArray) (Draws.tup (A:=X.A.in1) (I.ok.hd hc) i2 b (fun q=>nb (by simp [q])) jts.toArray) hZ pI pO ⟨t1,p1⟩ ⟨t2,p2⟩
   (by simp only [List.size_toArray];omega) fun h' tk kk=>⟨rfl,I.turnedL (t':=tk) [z,TI,TO,i1,i2] (fun c o hc' q=> ?_) hf⟩
  exact kk c o (fun q=>hc' (by simp [q])) (fun q=>hc' (by simp [q])) (fun q=>hc' (by simp [q])) (fun q=>hc' (by simp [q])) q
 self:=fun A i s Q E st h=>wpAny_pyIter_zip st.1 h
def iZip (K:PySem.W.Frag) (ta:TA):TI:=fun σ H R=>ta σ H fun vs H1=>∃a b xs ys,vs=[.ref a,.ref b]∧SqT K H1 a xs∧SqT K H1 b ys∧R (Itz K a b) H1
theorem pi_zip {X:Cx} {elts:List Expr} {x1} {tpos:Pos} {e1 e2:Expr} {ta:TA} {p pos:Pos} (hg:Gl X "zip") (hm:X.mg "zip"=none) (ha:PA X [e1,e2] ta) (hs:starEach [e1,e2] X.env=[(false,eval e1 X.env),(false,eval e2 X.env)]:=by rfl) (hs2:starEach [e2] X.env=[(false,eval e2 X.env)]:=by rfl):
  PI X (.Tuple elts x1 tpos) (.Call (.Name "zip" p) [e1,e2] [] pos) (iZip X.K ta):=by
 intro pins s σ H R I h
 refine Call_ (ld_blt I hg hm (show bootBuiltins "zip"=some (.type "zip") by decide+kernel) (PyProof.Rows.callWith_type1 (thn (ha pos pins s σ H _ I h) fun us s1 ⟨vs,H1,I1,r1,q1⟩=> ?_) (by rw [hs,hs2]) (by rw [hs2];rfl)))
 obtain ⟨a,b,xs,ys,e,hqa,hqb,q⟩:=q1
 subst e
 cases r1 with
 |cons r rr=>
  cases rr with
  |cons r' rr=>
   cases rr
   cases r
   cases r'
   obtain ⟨its,rv,p1,_⟩:=I1.tuple hqa
   obtain ⟨jts,rw',p2,_⟩:=I1.tuple hqb
   refine call_zip_tt p1 p2 fun h' hZ pI pO t1 t2 kk=>wpAny_pyIter_zip hZ ?_
   obtain ⟨oa,ga,_⟩:=id p1
   obtain ⟨ob,gb,_⟩:=id p2
   have la:=Heap.lt_size ga
   have lb:=Heap.lt_size gb
   have big:∀c∈[s1.heap.objs.size+4,s1.heap.objs.size+2,s1.heap.objs.size+3,s1.heap.objs.size,s1.heap.objs.size+1],s1.heap.objs.size≤c:=by
    intro c hc
    simp only [List.mem_cons,List.mem_nil_iff,or_false] at hc
    rcases hc with rfl|rfl|rfl|rfl|rfl<;> first|exact Nat.le_add_right _ _|exact Nat.le_refl _
   refine ⟨s1.heap.objs.size+4,[s1.heap.objs.size+4,s1.heap.objs.size+2,s1.heap.objs.size+3,s1.heap.objs.size,s1.heap.objs.size+1],_,_,H1,rfl,I1.kept (t':=s1.toks) kk,
    turn_zip a b _ _ _ _ _ ?_ (fun q=>Nat.lt_irrefl _ (Nat.lt_of_lt_of_le la (big _ q))) (fun q=>Nat.lt_irrefl _ (Nat.lt_of_lt_of_le lb (big _ q))),⟨hZ,pI,⟨_,_,pO⟩,t1,t2⟩,fun c hc=>I1.fpOk (big c hc) (I1.hok.fresh (big c hc)),q⟩
   generalize s1.heap.objs.size=n
   show List.Nodup ([n+4,n+2,n+3,n,n+1]:List Nat)
   simp
section
variable {g:TG} {ti:TT} {te:TE} {Q:VK} {D:Addr} {σ:St} {H:Hp}
theorem comp_zip {K:PySem.W.Frag} {a b:Addr} {xs ys:List V} (Pv:Nat→St→List V→Hp→Prop) (h0:Pv 0 σ [] (upd H D (.lst []))) (hl:∀i σ zs H,i≤xs.length→i≤ys.length→Pv i σ zs H→SqT K H a xs∧SqT K H b ys∧H D=some (.lst zs))
  (hs:∀i x y σ zs H T,xs[i]? =some x→ys[i]? =some y→Pv i σ zs H→H T=none→cturn g ti te D (.ref T) σ zs (upd H T (.tup [x,y])) (Pv (i+1))) (hd:∀i σ zs H,i=min xs.length ys.length→Pv i σ zs H→Q (.ref D) H):
  cgo (Itz K a b) g ti te D σ H Q:=by
 refine ⟨fun i m σ zs H=>m=xs.length - i∧i≤xs.length∧i≤ys.length∧Pv i σ zs H,⟨xs.length,by simp,Nat.zero_le _,Nat.zero_le _,h0⟩,?_⟩
 rintro i m σ zs H ⟨rfl,hi,hj,p⟩
 obtain ⟨q1,q2,hD⟩:=hl i σ zs H hi hj p
 refine ⟨hD,?_⟩
 by_cases hlt:i<xs.length∧i<ys.length
 ·refine .inr ⟨⟨xs,ys,xs[i],ys[i],q1,q2,by simp [hlt.1],by simp [hlt.2]⟩,Pv (i+1),fun σ' ys' H' p'=>⟨xs.length - (i+1),by omega,rfl,hlt.1,hlt.2,p'⟩,fun x H' y=> ?_⟩
  obtain ⟨T,x,y,hT,rfl,rfl,y1,y2⟩:=y
  exact hs i x y σ zs H T (y1 xs q1) (y2 ys q2) p hT
 ·exact .inl ⟨⟨xs,ys,q1,q2,by omega⟩,hd i σ zs H (by omega) p⟩
end
end L2
namespace HT
open PySem PyProof.Rows
section
variable {prog:Program} {w:World} {A:Around} {E:Value→Shared→Prop} {s:Shared}
theorem getItem_tuple_self {t sl:Addr} {items:Array Value} {vl vu:Value} {lo hi:Option Int} {Q:Value→Shared→Prop} (ht:IsTup s.heap t items) (hs:s.heap.IsSliceOf sl vl vu .none) (pl:IsPart vl lo) (pu:IsPart vu hi)
  (hw:sIx items.size 0 lo=0∧sIx items.size items.size hi=items.size) (h:Q (.ref t) s):wpAny (model prog w) A (getItem (.ref t) (.ref sl)) Q E s:=by
 obtain ⟨os,hos,hcs,hds⟩:=id hs
 have tsl:s.TypeIs (.ref sl) "slice":=⟨os,hos,hcs⟩
 unfold getItem
 try with_reducible refine wpAny_holding ?_
 first|refine wpAny_bind (wpAny_pure ?_)|skip
 refine wpAny_bind (wpAny_sequenceKey ht.typeIs (by decide) (wpAny_bind (wpAny_callSpecial?_slot (name:=Str.ofString "__getitem__") ht.typeIs PyProof.Rows.slot_tuple_getitem (wpAny_call_entry PyProof.Rows.slot_tuple_getitem ht.typeIs entry_tuple_getitem ?_ (args_tuple_getitem _ _)))))
 show wpAny _ _ (Builtin.Tuple.tupleItemsOf (.ref t) >>=fun _=>_) _ _ s
 refine wpAny_bind (tupleItemsOf_ ht (wpAny_bind (wpAny_typeOf tsl ?_)))
 rw [if_pos (by decide)]
 refine wpAny_bind (sliceApplied_gen hs pl pu ?_)
 have yes:(((sIx items.size 0 lo:Nat):Int)==0 && (1:Int)==1 && (sIx items.size items.size hi - sIx items.size 0 lo)==items.size)=true:=by rw [hw.1,hw.2];simp
 show wpAny _ _ (ite ((((sIx items.size 0 lo:Nat):Int)==0 && (1:Int)==1 && (sIx items.size items.size hi - sIx items.size 0 lo)==items.size)=true) _ _) _ _ s
 rw [if_pos yes]
 refine wpAny_bind (m:=Builtin.Tuple.tupleIsExact (.ref t)) ?_
 unfold Builtin.Tuple.tupleIsExact
 refine wpAny_bind (wpAny_typeOf ht.typeIs (wpAny_pure ?_))
 rw [if_pos (by decide)]
 exact wpAny_bind (wpAny_rule (wpAny_pure ⟨_,rfl,wpAny_pure h⟩))
end
end HT
namespace L2
open PySem PySem.Spec PyProof.Rows
section
variable {X:Cx}
inductive RSlTAP (K:PySem.W.Frag) (x:V) (lo:Option Int) (hi:Option Int) (H:Hp) (Q:VK):Prop
 |mk (a xs:_):(x= .ref a)→(SqT K H a xs)→(((HT.sIx xs.length 0 lo=0∧HT.sIx xs.length xs.length hi=xs.length)→Q (.ref a) H))→((¬(HT.sIx xs.length 0 lo=0∧HT.sIx xs.length xs.length hi=xs.length)→∀p,H p=none→Q (.ref p) (upd H p (.tup (cutV xs lo hi)))))→RSlTAP K x lo hi H Q
def rSlTA (K:PySem.W.Frag):V→Option Int→Option Int→Hp→VK→Prop:=fun x lo hi H Q=>RSlTAP K x lo hi H Q
theorem sl_tupA:SlR X (rSlTA X.K):=by
 intro pins s σ H x v vl vu lo hi sl Q I rx hs pl pu h
 obtain ⟨a,xs,rfl,hx,q1,q2⟩:=h
 by_cases hw:HT.sIx xs.length 0 lo=0∧HT.sIx xs.length xs.length hi=xs.length
 ·cases rx
  obtain ⟨its,r,ht,hz⟩:=I.tuple hx
  have hlen:its.toArray.size=xs.length:=by rw [List.size_toArray];exact r.length.symm
  exact ⟨"tuple",_,PyProof.Rows.slot_tuple_getitem.lookup,ht.typeIs,HT.getItem_tuple_self ht hs pl pu (by rw [hlen];exact hw) ⟨.ref a,H,I,rfl,q1 hw⟩⟩
 ·exact sl_tup pins s σ H _ v vl vu lo hi sl Q I rx hs pl pu ⟨a,xs,rfl,hx,hw,q2 hw⟩
end
theorem Ac {H:Hp} {p:Addr} {o:HO} (h:H p=none):Same H (upd H p o):=fun b u e=>by rw [Ai (Aj e h)];exact e
theorem Cp (H:Hp):Same H H:=fun _ _ e=>e
theorem small {n:Nat} (h:n≤10000):n≤sizeLine:=by rw [sizeLine_eq];exact Nat.le_trans (by assumption) (by decide)
theorem none_of {H H':Hp} {a:Addr} (s:Same H H') (h:H' a=none):H a=none:=by
 cases e:H a with
 |none=>rfl
 |some o=>rw [s _ _ e] at h;cases h
theorem pg_tupK {X:Cx} {es:List Expr} {k:Nat} {t:TGs} {pos:Pos} (K:PySem.W.Frag) (n:Nat) (hK:X.K=K) (hc:X.calm=true) (h:PGs X es t) (hn:(assignEach es X.env).length=n:=by rfl) (hst:(assignEach es X.env).findIdx? (·.1)=none:=by rfl):PG X (.Tuple es k pos) (gTup K n t):=by
 subst hK
 exact pg_tup hc h hn hst
end L2
namespace PySem
open Builtin
section
variable {prog:Program} {w:World} {A:Around} {E:Value→Shared→Prop} {s:Shared}
theorem collect_rng {Q:List Value→Shared→Prop} {r:Addr} {a b c:Int} {t u v:Tok} {n:Nat} (hh:A.handled=none) (hr:IsRange s.heap r a b c t u v) (hsmall:Builtin.Range.small a b c=true) (hn:Builtin.Range.rangeSize a b c=n) (hlen:n≤2 ^ 24)
  (hQ:∀(h':Heap) (tk:Nat) (acc:Array Value),(∀b o,s.heap.get? b=some o→h'.get? b=some o)→ItemsOf (fun i v=>∃t,v= .int (a+i * c) t) acc n→Q acc.toList {s with heap:=h',toks:=tk}):wpAny (model prog w) A (collect (.ref r)) Q E s:=by
 unfold collect
 refine wpAny_bind (wpAny_runValue (codeAny_builtin F.entry_proto_collect ?_))
 rw [Around.under_plainId F.plain_proto_collect _]
 show wpAny _ A.in1 (newList [] >>=fun l=>again (.builtin "list.__iadd__" ⟨[l,.ref r],[]⟩)) _ _ s
 refine wpAny_bind (wpAny_newObj_type (wpAny_pure ⟨plainId_quiet F.plain_list_iadd _,codeAny_builtin F.entry_list_iadd ?_⟩))
 rw [Around.under_plainId F.plain_list_iadd _]
 show wpAny _ A.in1 (Builtin.List.listExtendWith (.ref s.heap.objs.size) (.ref r) (.ref s.heap.objs.size)) _ _ _
 have oS:(s.heap.push {cls:= .type "list",data:= .seq ([]:List Value).toArray}).get? s.heap.objs.size=some {cls:= .type "list",data:= .seq ([]:List Value).toArray}:=Heap.get?_push_size _ rfl
 have key:=wpAny_extend_range (prog:=prog) (w:=w) (A:=A) (s:={s with heap:=s.heap.push {cls:= .type "list",data:= .seq ([]:List Value).toArray}})
  (R:=fun r' s'=>∃(h':Heap) (tk:Nat) (acc:Array Value) (c':Nat),r'= .ok (.ret (.ref s.heap.objs.size))∧s'={s with heap:=h',toks:=tk}∧(∀b o,s.heap.get? b=some o→h'.get? b=some o)∧h'.get? s.heap.objs.size=some {cls:= .type "list",dict:=none,data:= .seq acc c',slots:= #[]}∧ItemsOf (fun i v=>∃t,v= .int (a+i * c) t) acc n)
  hh (Heap.get?_push_of_some _ hr) hsmall hn hlen s.heap.objs.size (.ref s.heap.objs.size) _ oS fun h' tk acc' c' hk hS' hacc=>⟨h',tk,acc',c',rfl,rfl,fun b o e=>hk b o (Nat.ne_of_lt (Heap.lt_size e)) (Heap.get?_push_of_some _ e),hS',hacc⟩
 have out:∀(r':Result) (s':Shared),(∃(h':Heap) (tk:Nat) (acc:Array Value) (c':Nat),r'= .ok (.ret (.ref s.heap.objs.size))∧s'={s with heap:=h',toks:=tk}∧(∀b o,s.heap.get? b=some o→h'.get? b=some o)∧h'.get? s.heap.objs.size=some {cls:= .type "list",dict:=none,data:= .seq acc c',slots:= #[]}∧ItemsOf (fun i v=>∃t,v= .int (a+i * c) t) acc n)→
   ∃(acc:Array Value) (c':Nat),r'= .ok (.ret (.ref s.heap.objs.size))∧s'.heap.get? s.heap.objs.size=some {cls:= .type "list",dict:=none,data:= .seq acc c',slots:= #[]}∧Q acc.toList s':=by
  rintro r' s' ⟨h',tk,acc,c',e1,rfl,e3,e4,e5⟩
  exact ⟨acc,c',e1,e4,hQ h' tk acc e3 e5⟩
 refine wpAny_mono key (fun fin s' hf=> ?_) fun e s' he=> ?_
 ·cases fin with
  |done f=>
   obtain ⟨acc,c',e1,e2,e3⟩:=out _ _ hf
   cases e1
   show wpAny _ A (load s.heap.objs.size >>=fun _=>_) _ _ _
   exact wpAny_bind (wpAny_load e2 (wpAny_pure e3))
  |again c'=>
   refine ⟨hf.1,codeAny_mono hf.2 fun r' s' h'=> ?_⟩
   obtain ⟨acc,c',e1,e2,e3⟩:=out _ _ h'
   subst e1
   show wpAny _ A (load s.heap.objs.size >>=fun _=>_) _ _ _
   exact wpAny_bind (wpAny_load e2 (wpAny_pure e3))
 ·obtain ⟨_,_,e1,_⟩:=out _ _ he
  cases e1
end
theorem meets_tuple_rng (r:Addr) (a b c:Int) (t u v:Tok) (n:Nat) (hsmall:Builtin.Range.small a b c=true) (hn:Builtin.Range.rangeSize a b c=n) (hlen:n≤2 ^ 24) (hz:n≤sizeLine):
  Meets (Builtin.«tuple.__new__» ⟨[.type "tuple",.ref r],[]⟩)
   (fun A R s=>A.handled=none∧IsRange s.heap r a b c t u v∧∀(h':Heap) (tk:Nat) (acc:Array Value),(∀b o,s.heap.get? b=some o→h'.get? b=some o)→ItemsOf (fun i v=>∃t,v= .int (a+i * c) t) acc n→
    R (.ok (.ret (.ref h'.objs.size))) {s with heap:=h'.push {cls:= .type "tuple",data:= .seq acc},toks:=tk}):=
 .of_wp fun prog w A R s h=>by
  obtain ⟨hh,hr,h⟩:=h
  have hsub:=sub_tuple_self
  have hinit:=init_tuple_lookup
  have hmh:=madeHere_tuple
  have tr:s.TypeIs (.ref r) "range":=⟨_,hr,rfl⟩
  have hh1:A.in1.handled=none:=hh
  wp_walk using wpAny_typeOf tr,collect_rng hh1 hr hsmall hn hlen
  intro h' tk acc hk hacc
  show wpAny _ _ (Builtin.Tuple.tupleExact acc.toList.toArray >>=fun v=>ret v) _ _ _
  unfold Builtin.Tuple.tupleExact
  refine wpAny_bind (wpAny_newObj_type ?_ (show acc.toList.toArray.size≤sizeLine by simp only [Array.toArray_toList];rw [hacc.1];exact hz))
  refine wpAny_pure ⟨_,rfl,?_⟩
  have e:acc.toList.toArray=acc:=by simp
  rw [e]
  exact h h' tk acc hk hacc
section
variable {prog:Program} {w:World} {A:Around} {E:Value→Shared→Prop} {s:Shared}
theorem call_tuple_rng' {Q:Value→Shared→Prop} {r:Addr} {a b c:Int} {t u v:Tok} {n:Nat} (hh:A.handled=none) (hr:IsRange s.heap r a b c t u v) (hsmall:Builtin.Range.small a b c=true) (hn:Builtin.Range.rangeSize a b c=n) (hlen:n≤2 ^ 24) (hz:n≤sizeLine)
  (h:∀(h':Heap) (tk:Nat) (acc:Array Value),(∀b o,s.heap.get? b=some o→h'.get? b=some o)→ItemsOf (fun i v=>∃t,v= .int (a+i * c) t) acc n→Q (.ref h'.objs.size) {s with heap:=h'.push {cls:= .type "tuple",data:= .seq acc},toks:=tk}):
  wpAny (model prog w) A (call (.type "tuple") [.ref r]) Q E s:=
 callType_new F.called_tuple (by decide) (F.typeCall_tuple_1 _) (F.newCall_tuple_1 _) (fun obj=>F.args_object_init_2 obj _) F.entry_tuple_new (meets_tuple_rng r a b c t u v n hsmall hn hlen hz) ⟨hh,hr,fun h' tk acc hk hacc=>⟨⟨_,Heap.get?_push_size _ rfl,rfl⟩,h h' tk acc hk hacc⟩⟩
end
end PySem
namespace PySem
open Builtin
end PySem
namespace L2
open PySem PySem.Spec PyProof.Rows
section
variable {X:Cx}
theorem countP_vals {i:Int}:∀{ns:List Int} {us:List Value},Vals (ns.map V.int) us→us.countP (fun v=>match v with| .int j _=>j==i|_=>false)=ns.count i
 |[],_,.nil=>rfl
 |n::ns,_,.cons h t=>by
  obtain ⟨u,rfl⟩:=h
  rw [List.countP_cons,List.count_cons,countP_vals t]
inductive RCountTP (K:PySem.W.Frag) (x:V) (vs:List V) (H:Hp) (Q:VK):Prop
 |mk (a:Addr) (ns:List Int) (i:Int):(x= .ref a)→(vs=[.int i])→(SqT K H a (ns.map V.int))→(Q (.int (ns.count i:Nat)) H)→RCountTP K x vs H Q
def rCountT (K:PySem.W.Frag):V→List V→Hp→VK→Prop:=fun x vs H Q=>RCountTP K x vs H Q
theorem mt_countT:MtM X "tuple.count" (rCountT X.K):=by
 intro pins s σ H x xs v us Q I rx r h
 obtain ⟨a,ns,i,rfl,rfl,ha,q⟩:=h
 cases rx
 obtain ⟨u,rfl,⟨t,rfl⟩⟩:=Cy r
 obtain ⟨its,rv,p,hz⟩:=I.tuple ha
 obtain ⟨⟨cls,dd,data,sl⟩,ho,hc,n,hd⟩:=id p
 simp only at hc hd
 subst hc hd
 refine call_meets PySem.F.slot_tuple_count ⟨_,ho,rfl⟩ PySem.F.entry_tuple_count (PySem.F.args_tuple_count_2 _ _) (SeqAt.tuple_countAt a its.toArray n dd sl (.int i t) (fun v=>match v with| .int j _=>j==i|_=>false)) ⟨ho,?_,?_⟩
 ·intro y hy
  have hy:y∈its:=by simpa using hy
  have:∀{ns:List Int} {us:List Value},Vals (ns.map V.int) us→∀y∈us,∃j t',y= .int j t':=by
   intro ns us hv
   induction ns generalizing us with
   |nil=>cases hv;intro y hy;cases hy
   |cons n ns ih=>
    cases hv with
    |cons h tl=>
     intro y hy
     rcases List.mem_cons.mp hy with rfl|hy
     ·obtain ⟨u,rfl⟩:=h;exact ⟨n,u,rfl⟩
     ·exact ih tl y hy
  obtain ⟨j,t',rfl⟩:=this rv y hy
  exact SeqAt.EqAt.int_int j t' i t
 ·refine ⟨.int _,H,I.tok _,⟨_,rfl⟩,?_⟩
  have:=countP_vals (i:=i) rv
  simp only [List.toList_toArray]
  rw [this]
  exact q
theorem call_range1:CallR X (.type "range") (fun xs H Q=>∃j:Int,xs=[.int j]∧∀l,H l=none→Q (.ref l) (upd H l (.rng 0 j))):=by
 intro pins s σ H xs us Q I r h
 obtain ⟨j,rfl,q⟩:=h
 obtain ⟨u,rfl,⟨t,rfl⟩⟩:=Cy r
 exact call_range_1 ⟨.ref s.heap.objs.size,_,I.laid (o:= .rng 0 j) (fun _ _ q=>Heap.get?_push_of_some _ q) (Nat.le_refl _) ⟨_,_,_,Heap.get?_push_size _ rfl⟩,rfl,q _ I.fresh⟩
theorem vals_rng:∀(l:List Value) (k:Nat) (i:Int),(∀(n:Nat) (x:Value),l[n]? =some x→∃t,x= .int (i+n) t)→l.length=k→Vals ((rints i k).map V.int) l:=by
 intro l
 induction l with
 |nil=>intro k i _ e;cases e;exact .nil
 |cons x l ih=>
  intro k i h e
  cases k with
  |zero=>cases e
  |succ k=>
   have h0:=h 0 x rfl
   have e1:rints i (k+1)=i::rints (i+1) k:=by
    simp only [rints,List.range_succ_eq_map,List.map_cons,List.map_map]
    refine congr (congrArg List.cons (by simp)) (List.map_congr_left fun a _=> ?_)
    simp only [Function.comp];omega
   rw [e1]
   refine .cons (by obtain ⟨t,q⟩:=h0;exact ⟨t,by simpa using q⟩) (ih k (i+1) (fun n y hy=> ?_) (by simpa using e))
   obtain ⟨t,q⟩:=h (n+1) y (by simpa using hy)
   exact ⟨t,by rw [q];congr 1;omega⟩
theorem call_tuple_rng (hc:X.calm=true):CallR X (.type "tuple") (fun xs H Q=>∃(p:Addr) (j:Int),xs=[.ref p]∧H p=some (.rng 0 j)∧0≤j∧j≤1000∧∀l H',Same H H'→H' l=some (.tup ((rints 0 j.toNat).map V.int))→Q (.ref l) H'):=by
 intro pins s σ H xs us Q I r h
 obtain ⟨p,j,rfl,hp,b1,b2,q⟩:=h
 obtain ⟨u,rfl,rx⟩:=Cy r
 cases rx
 obtain ⟨t,u,v,ho⟩:=(show ObjOk X.prog X.w H s.heap p (.rng 0 j) from I.hok p _ hp)
 refine call_tuple_rng' (n:=j.toNat) (I.ok.hd hc) (show IsRange s.heap p 0 j 1 t u v from ho) (small_one (by decide) (by decide) (by omega) (by omega)) (by rw [rangeSize_one];split<;> omega) (by omega) (by rw [sizeLine_eq];omega) fun h' tk acc hk hacc=> ?_
 have I1:Inv X pins σ H {s with heap:=h',toks:=tk}:=I.kept hk
 have fr:H h'.objs.size=none:=I1.hok.fresh (Nat.le_refl _)
 refine ⟨.ref h'.objs.size,_,I1.laid (o:= .tup ((rints 0 j.toNat).map V.int)) (t':=tk) (fun b ob q=>Heap.get?_push_of_some _ q) (Nat.le_refl _) ⟨by simp [rints,sizeLine_eq];omega,acc.toList,?_,?_⟩,rfl,q _ _ (Ac fr) Ab⟩
 ·refine vals_rng acc.toList _ 0 (fun n x hx=> ?_) (by simpa using hacc.1)
  obtain ⟨t,q⟩:=hacc.2 n x (by simpa using hx)
  exact ⟨t,by rw [q,Int.mul_one]⟩
 ·exact ⟨_,Heap.get?_push_size _ rfl,rfl,rfl,0,by simp⟩
end
end L2
namespace PySem
open Builtin
theorem noFill_tup_mul:fillsNumberSlot (.type "tuple") "mul"=pure false:=fillsNumberSlot_seq (id:="tuple.__mul__") (r:=some (.builtin "tuple.__rmul__")) F.slot_tuple_mul.lookup (by decide+kernel) F.slot_tuple_rmul.lookup (by decide+kernel)
theorem repeat_tup:seqRepeat? (.type "tuple")=pure (some (.builtin "tuple.__mul__")):=by
 unfold seqRepeat?
 rw [seqSlot_of (T:="tuple") (name:="__mul__") (id:="tuple.__mul__") F.slot_tuple_mul.lookup (by decide+kernel),seqSlot_of (T:="tuple") (name:="__rmul__") (id:="tuple.__rmul__") F.slot_tuple_rmul.lookup (by decide+kernel)]
 rfl
theorem int_rmul_tup (a:Int) (t:Tok) (l:Addr) (items:Array Value) (n:Nat) (dd:Option Addr) (sl:Array (Option Value)):
  Meets (Builtin.«int.__rmul__» ⟨[.int a t,.ref l],[]⟩) (fun _ R s=>s.heap.get? l=some {cls:= .type "tuple",dict:=dd,data:= .seq items n,slots:=sl}∧R (.ok (.ret Value.notImplemented)) s):=
 .of_wp fun prog w A R s h=>by
  obtain ⟨hp,g,d,tk,os⟩:=s
  obtain ⟨hl,h⟩:=h
  wp_walk
  exact ⟨_,rfl,h⟩
theorem tup_mul (l:Addr) (items:Array Value) (n:Nat) (dd:Option Addr) (sl:Array (Option Value)) (k:Int) (t:Tok) (hk:1≤k) (hk2:k≤1000) (h1:items.size=1):
  Meets (Builtin.«tuple.__mul__» ⟨[.ref l,.int k t],[]⟩) (fun _ R s=>s.heap.get? l=some {cls:= .type "tuple",dict:=dd,data:= .seq items n,slots:=sl}∧(k=1→R (.ok (.ret (.ref l))) s)∧
   (k≠1→R (.ok (.ret (.ref s.heap.objs.size))) {s with heap:=s.heap.push {cls:= .type "tuple",data:= .seq ((List.replicate k.toNat items).foldl (·++·) #[])}})):=
 .of_wp fun prog w A R s h=>by
  obtain ⟨hp,g,d,tk,os⟩:=s
  obtain ⟨hl,q1,q2⟩:=h
  have f1:=AutoSeq1.idx_int
  have b1:(decide (k< -(2 ^ 63))||decide (k ≥ 2 ^ 63))=false:=by rw [decide_eq_false (by omega),decide_eq_false (by omega)];rfl
  have b2:items.isEmpty=false:=by rw [Array.isEmpty];simp [h1]
  have hT:Shared.TypeIs ⟨hp,g,d,tk,os⟩ (.ref l) "tuple":=⟨_,hl,rfl⟩
  by_cases hk1:k=1
  ·subst hk1
   have z:=q1 rfl
   wp_walk using AutoSeq1.wpAny_loadPart' hl,wpAny_typeOf hT
   exact ⟨_,rfl,z⟩
  ·have z:=q2 hk1
   have c1:(items.isEmpty||k==1)=false:=by rw [b2];simpa using hk1
   have c2:(decide (k≤0)||items.isEmpty)=false:=by rw [b2,decide_eq_false (by omega)];rfl
   have c3:¬((items.size:Int) * k > (2 ^ 63 - 1) / 8):=by rw [h1];omega
   have c4:Builtin.Tuple.tupleTooMany ((items.size:Int) * k)=false:=by unfold Builtin.Tuple.tupleTooMany;rw [h1,sizeLine_eq];exact decide_eq_false (by omega)
   wp_walk using AutoSeq1.wpAny_loadPart' hl,wpAny_typeOf hT
   rw [if_neg (by rw [b1];decide)]
   wp_walk using AutoSeq1.wpAny_loadPart' hl,wpAny_typeOf hT
   rw [if_neg (by rw [c2];decide)]
   wp_walk using AutoSeq1.wpAny_loadPart' hl,wpAny_typeOf hT
   rw [if_neg c3]
   wp_walk using AutoSeq1.wpAny_loadPart' hl,wpAny_typeOf hT
   rw [if_neg (by rw [c4];decide)]
   have len:((List.replicate k.toNat items).foldl (·++·) #[]).size≤sizeLine:=by
    have key:∀(m:Nat) (acc:Array Value),((List.replicate m items).foldl (·++·) acc).size=acc.size+m:=by
     intro m
     induction m with
     |zero=>intro acc;rfl
     |succ m ih=>intro acc;rw [List.replicate_succ,List.foldl_cons,ih,Array.size_append,h1];omega
    rw [key,sizeLine_eq]
    simp
    omega
   refine wpAny_bind (m:=Builtin.Tuple.tupleExact _) ?_
   unfold Builtin.Tuple.tupleExact
   exact wpAny_newObj_type (wpAny_pure ⟨_,rfl,z⟩) len
end PySem
namespace L2
open PySem PySem.Spec PyProof.Rows
section
variable {X:Cx}
theorem foldl_one (u:Value):∀(m:Nat) (acc:Array Value),(List.replicate m (#[u]:Array Value)).foldl (·++·) acc=(acc.toList++List.replicate m u).toArray:=by
 intro m
 induction m with
 |zero=>intro acc;simp
 |succ m ih=>intro acc;rw [List.replicate_succ,List.foldl_cons,ih,List.replicate_succ];simp
theorem vals_rep {x:V} {u:Value} (r:RelV x u):∀m:Nat,Vals (List.replicate m x) (List.replicate m u)
 |0=> .nil
 |m+1=>by rw [List.replicate_succ,List.replicate_succ];exact .cons r (vals_rep r m)
theorem op_repT1:OpR X (binaryOp .Mult) (fun x y H Q=>∃(a:Addr) (z:V) (k:Int),x= .ref a∧y= .int k∧SqT X.K H a [z]∧1≤k∧k≤1000∧(k=1→Q (.ref a) H)∧(k≠1→∀p,H p=none→Q (.ref p) (upd H p (.tup (List.replicate k.toNat z))))):=by
 intro pins s σ H x y v u Q I rx ry h
 obtain ⟨a,z,k,rfl,rfl,ha,k1,k2,q1,q2⟩:=h
 cases rx
 obtain ⟨t,rfl⟩:=ry
 obtain ⟨its,rv,p,hz⟩:=I.tuple ha
 obtain ⟨u0,rfl,ru⟩:=Cy rv
 obtain ⟨⟨cls,dd,data,sl⟩,ho,hc,n,hd⟩:=id p
 simp only at hc hd
 subst hc hd
 refine wpAny_binaryOp_repeat_ref (T:="tuple") (U:="int") (by decide) ⟨_,ho,rfl⟩ (fun s'=>typeIs_int s' k t) noFill_tup_mul PySem.F.fills_int_mul PySem.F.slot_int_rmul repeat_tup PySem.F.slot_int_index.lookup
  (call_meets PySem.F.slot_int_rmul (typeIs_int s k t) PySem.F.entry_int_rmul (PySem.F.args_int_rmul_2 _ _) (int_rmul_tup k t a _ n dd sl)
   ⟨ho,rfl,⟨_,ho,rfl⟩,call_meets PySem.F.slot_tuple_mul ⟨_,ho,rfl⟩ PySem.F.entry_tuple_mul (PySem.F.args_tuple_mul_2 _ _) (tup_mul a _ n dd sl k t k1 k2 (by simp)) ⟨ho,fun e=> ?_,fun e=> ?_⟩⟩)
 ·exact ⟨.ref a,H,I,rfl,q1 e⟩
 ·refine ⟨.ref s.heap.objs.size,_,I.laid (o:= .tup (List.replicate k.toNat z)) (fun b ob q=>Heap.get?_push_of_some _ q) (Nat.le_refl _) ⟨by simp [sizeLine_eq];omega,List.replicate k.toNat u0,vals_rep ru _,?_⟩,rfl,q2 e _ I.fresh⟩
  have e:=foldl_one u0 k.toNat #[]
  rw [show ([u0].toArray:Array Value)= #[u0] from rfl,e]
  simp only [List.nil_append]
  exact IsTupN.new _ _
end
section
variable {X:Cx}
theorem op_repT2:OpR X (binaryOp .Mult) (fun x y H Q=>∃(a:Addr) (z:V) (k:Int),x= .ref a∧y= .int k∧H a=some (.tup [z])∧1≤k∧k≤1000∧∀p H',Same H H'→H' p=some (.tup (List.replicate k.toNat z))→Q (.ref p) H'):=by
 intro pins s σ H x y v u Q I rx ry h
 obtain ⟨a,z,k,hx,hy,ha,k1,k2,q⟩:=h
 exact op_repT1 pins s σ H x y v u Q I rx ry ⟨a,z,k,hx,hy,SqT.of ha,k1,k2,fun e=>q a H (Cp H) (by rw [ha,e];rfl),fun _ p hp=>q p _ (Ac hp) Ab⟩
end
def IteT (K:PySem.W.Frag) (a:Addr):It:=
 ⟨fun i H=>∃xs x,SqT K H a xs∧xs[i]? =some x,fun i H v H'=>∃T x,H T=none∧v= .ref T∧H'=upd H T (.tup [.int i,x])∧∀xs,SqT K H a xs→xs[i]? =some x,fun i H=>∃xs,SqT K H a xs∧i=xs.length⟩
theorem turn_enumT {P:Program} {w:World} {K:PySem.W.Frag} {elts:List Expr} {x1} {pos:Pos} (a e it:Addr) (hei:e≠it) (hae:a≠e) (hai:a≠it):Turn P w K (.Tuple elts x1 pos) (IteT K a) [e,it] e (fun i h=>(∃old,IsEnum h e it i old)∧h.IsTupleIter it a i) where
 mem:=by simp
 obj:=fun i h st b hb=>by
  obtain ⟨⟨old,he⟩,o,ho,hc,hd⟩:=st
  rcases List.mem_cons.mp hb with rfl|hb
  ·exact ⟨_,he,fun v z=>by cases z⟩
  ·have:b=it:=by simpa using hb
   subst this
   exact ⟨o,ho,fun v z=>by rw [hd] at z;cases z⟩
 keep:=fun i h h' st k=>⟨let ⟨old,he⟩:=st.1;⟨old,k e (by simp) _ he⟩,st.2.at fun o q=>k it (by simp) o q⟩
 item:=by
  intro X hP hw hK hc i pins s σ H E I hf st hg
  subst hP hw hK
  obtain ⟨⟨old,he⟩,hit⟩:=st
  obtain ⟨xs,x,hq,hx⟩:=hg
  obtain ⟨its,rv,p,hz⟩:=I.tuple hq
  obtain ⟨u,hu,ru⟩:=rv.get hx
  have fresh:H s.heap.objs.size=none:=I.hok.fresh (Nat.le_refl _)
  have elt:e<s.heap.objs.size:=Heap.lt_size he
  have ilt:it<s.heap.objs.size:=by obtain ⟨_,q,_⟩:=hit;exact Heap.lt_size q
  have hil:i<its.toArray.size:=by have:=(List.getElem?_eq_some_iff.mp hu).1;simpa using this
  refine wpAny_pyNext_enum_itemD (Draws.tup (A:=X.A.in1) (I.ok.hd hc) it a hai its.toArray) he ⟨hit,p⟩ hil hei (by simp only [List.mem_cons,List.mem_nil_iff,or_false,not_or];exact ⟨hei,hae.symm⟩) fun uv h' tk pu eo it' hT hsz kk=>⟨_,rfl,?_⟩
  have eu:u=uv:=Option.some.inj (hu.symm.trans (by simpa using pu))
  subst eu
  refine wpAny_letOwnedTupleGo_enum (s:={s with heap:=h',toks:=tk+1}) eo fun h2 e2 sb=> ?_
  have I1:Inv X pins σ (upd H s.heap.objs.size (.tup [.int i,x])) {s with heap:=s.heap.push {cls:= .type "tuple",data:= .seq #[.int i tk,u]},toks:=s.toks}:=
   I.laid (o:= .tup [.int i,x]) (fun b ob q=>Heap.get?_push_of_some _ q) (Nat.le_refl _) ⟨by rw [sizeLine_eq];simp,[.int i tk,u],.cons ⟨_,rfl⟩ (.cons ru .nil),IsTupN.new _ _⟩
  have I2:=I1.turnedL (h':=h2) (t':=tk+1) [e,it] (fun b o hb q=> ?_) (fun b hb=> ?_)
  ·refine ⟨.ref s.heap.objs.size,_,I2,rfl,⟨_,x,fresh,rfl,rfl,fun ys hy=>by rw [I.tuple_inj hy hq];exact hx⟩,⟨⟨_,by simpa using e2⟩,it'.1.at fun o q=>(sb.2 it hei.symm).trans q⟩,fun b hb=> ?_⟩
   rcases List.mem_cons.mp hb with rfl|hb
   ·rw [Ai (Nat.ne_of_lt elt)];exact (hf _ (by simp)).1
   ·have:b=it:=by simpa using hb
    subst this
    rw [Ai (Nat.ne_of_lt ilt)];exact (hf _ (by simp)).1
  ·have b1:b≠e:=fun z=>hb (by simp [z])
   have b2:b≠it:=fun z=>hb (by simp [z])
   refine (sb.2 b b1).trans ?_
   by_cases hbs:b=s.heap.objs.size
   ·subst hbs
    rw [Heap.get?_push_size _ rfl] at q
    cases q
    exact hT
   ·rw [Heap.get?_push_ne _ _ _ hbs] at q
    exact kk b o b1 b2 q
  ·rcases List.mem_cons.mp hb with rfl|hb
   ·exact (hf _ (by simp)).up (Nat.ne_of_lt elt)
   ·have:b=it:=by simpa using hb
    subst this
    exact (hf _ (by simp)).up (Nat.ne_of_lt ilt)
 done:=by
  intro X hP hw hK hc i pins s σ H E I hf st hg
  subst hP hw hK
  obtain ⟨⟨old,he⟩,hit⟩:=st
  obtain ⟨xs,hq,hx⟩:=hg
  obtain ⟨its,rv,p,hz⟩:=I.tuple hq
  have hl:=rv.length
  have hn:i=its.toArray.size:=by simp;omega
  subst hn
  exact wpAny_pyNext_enum_endD (Draws.tup (A:=X.A.in1) (I.ok.hd hc) it a hai its.toArray) he ⟨hit,p⟩ fun h' eb=>⟨rfl,I.turnedL (t':=s.toks) [e,it] (fun b o hb q=>eb b o (fun z=>hb (by simp [z])) q) hf⟩
 self:=fun A i s Q E st h=>let ⟨⟨old,he⟩,_⟩:=st;wpAny_pyIter_enum he h
end L2
namespace PySem
open Builtin
theorem meets_enumerate_newT (a:Addr) (items:Array Value) (n:Nat) (dd:Option Addr) (sl:Array (Option Value)):
  Meets (Builtin.«enumerate.__new__» ⟨[.type "enumerate",.ref a],[]⟩) (fun _ R s=>s.heap.get? a=some {cls:= .type "tuple",dict:=dd,data:= .seq items n,slots:=sl}∧
   R (.ok (.ret (.ref (s.heap.push {cls:= .type "tuple_iterator",data:= .fields #[.ref a,.int 0 0]}).objs.size)))
    {s with heap:=(s.heap.push {cls:= .type "tuple_iterator",data:= .fields #[.ref a,.int 0 0]}).push {cls:= .type "enumerate",data:= .fields #[.none,.bool false,.ref s.heap.objs.size,rawInt 0,.none,.none]}}):=
 .of_wp fun prog w A R s h=>by
  obtain ⟨hp,g,d,tk,os⟩:=s
  obtain ⟨ha,h⟩:=h
  have hsub:=sub_enumerate
  have tA:Heap.IsTuple (Shared.heap ⟨hp,g,d,tk,os⟩) a items:=⟨_,ha,rfl,n,rfl⟩
  wp_walk using AutoSeq1.wpAny_loadPart' ha
  refine wpAny_stack_any fun st=>wpAny_pure ?_
  split
  ·rename_i c _ _ _ _ _
   cases (c==Value.type "enumerate")<;> (wp_walk using AutoSeq1.wpAny_loadPart' ha,wpAny_pyIter_tuple tA;exact ⟨_,rfl,h⟩)
  ·wp_walk using AutoSeq1.wpAny_loadPart' ha,wpAny_pyIter_tuple tA
   exact ⟨_,rfl,h⟩
theorem call_enumerate_tup {prog:Program} {w:World} {A:Around} {E:Value→Shared→Prop} {s:Shared} {a:Addr} {items:Array Value} {Q:Value→Shared→Prop} (tA:s.heap.IsTuple a items)
  (h:∀h',IsEnum h' (s.heap.objs.size+1) s.heap.objs.size 0 .none→h'.IsTupleIter s.heap.objs.size a 0→(∀b o,s.heap.get? b=some o→h'.get? b=some o)→Q (.ref (s.heap.objs.size+1)) {s with heap:=h'}):
  wpAny (model prog w) A (call (.type "enumerate") [.ref a]) Q E s:=by
 obtain ⟨⟨c,dd,dt,sl⟩,ha,hc,n,hd⟩:=tA
 replace hc:c= .type "tuple":=hc
 replace hd:dt= .seq items n:=hd
 subst hc hd
 refine callType_new F.called_enumerate (by decide) (F.typeCall_enumerate_1 _) (F.newCall_enumerate_1 _) (fun obj=>F.args_object_init_2 obj _) F.entry_enumerate_new (meets_enumerate_newT a items n dd sl) ⟨ha,?_⟩
 have y1:(s.heap.push {cls:= .type "tuple_iterator",data:= .fields #[.ref a,.int 0 0]}).objs.size=s.heap.objs.size+1:=Heap.size_push ..
 have e1:((s.heap.push {cls:= .type "tuple_iterator",data:= .fields #[.ref a,.int 0 0]}).push {cls:= .type "enumerate",data:= .fields #[.none,.bool false,.ref s.heap.objs.size,rawInt 0,.none,.none]}).get? (s.heap.push {cls:= .type "tuple_iterator",data:= .fields #[.ref a,.int 0 0]}).objs.size=some _:=Heap.get?_push_size _ rfl
 have e2:((s.heap.push {cls:= .type "tuple_iterator",data:= .fields #[.ref a,.int 0 0]}).push {cls:= .type "enumerate",data:= .fields #[.none,.bool false,.ref s.heap.objs.size,rawInt 0,.none,.none]}).get? s.heap.objs.size=some _:=Heap.get?_push_of_some _ (Heap.get?_push_size _ rfl)
 show _∧_
 rw [y1] at e1 ⊢
 exact ⟨⟨_,e1,rfl⟩,h _ e1 ⟨_,e2,rfl,rfl⟩ fun b o e=>Heap.get?_push_of_some _ (Heap.get?_push_of_some _ e)⟩
end PySem
namespace L2
open PySem PySem.Spec PyProof.Rows
def iEnumT (K:PySem.W.Frag) (ta:TA):TI:=fun σ H R=>ta σ H fun vs H1=>∃a xs,vs=[.ref a]∧SqT K H1 a xs∧R (IteT K a) H1
theorem pi_enumT {X:Cx} {elts:List Expr} {x1} {tpos:Pos} {a:Expr} {ta:TA} {p pos:Pos} (hg:Gl X "enumerate") (hm:X.mg "enumerate"=none) (ha:PA X [a] ta) (hs:starEach [a] X.env=[(false,eval a X.env)]:=by rfl):
  PI X (.Tuple elts x1 tpos) (.Call (.Name "enumerate" p) [a] [] pos) (iEnumT X.K ta):=by
 intro pins s σ H R I h
 refine Call_ (ld_blt I hg hm (show bootBuiltins "enumerate"=some (.type "enumerate") by decide+kernel) (PyProof.Rows.callWith_type1 (thn (ha pos pins s σ H _ I h) fun us s1 ⟨vs,H1,I1,r1,q1⟩=> ?_) hs rfl))
 obtain ⟨l,xs,e,hq,q⟩:=q1
 subst e
 obtain ⟨u,rfl,ru⟩:=Cy r1
 cases ru
 obtain ⟨its,rv,pl,hz⟩:=I1.tuple hq
 refine call_enumerate_tup pl fun h' he hit kk=>wpAny_pyIter_enum he ?_
 obtain ⟨ol,gl,_⟩:=id pl
 have ll:=Heap.lt_size gl
 refine ⟨s1.heap.objs.size+1,[s1.heap.objs.size+1,s1.heap.objs.size],_,_,H1,rfl,I1.kept (t':=s1.toks) kk,turn_enumT l _ _ (Nat.succ_ne_self _) (Nat.ne_of_lt (Nat.lt_succ_of_lt ll)) (Nat.ne_of_lt ll),⟨⟨_,he⟩,hit⟩,fun b hb=> ?_,q⟩
 have hb:s1.heap.objs.size≤b:=by
  rcases List.mem_cons.mp hb with rfl|hb
  ·exact Nat.le_succ _
  ·have:b=s1.heap.objs.size:=by simpa using hb
   exact Nat.le_of_eq this.symm
 exact I1.fpOk hb (I1.hok.fresh hb)
section
variable {g:TG} {ti:TT} {te:TE} {Q:VK} {D:Addr} {σ:St} {H:Hp}
theorem comp_enumT {K:PySem.W.Frag} {a:Addr} {xs:List V} (Pv:Nat→St→List V→Hp→Prop) (h0:Pv 0 σ [] (upd H D (.lst []))) (hl:∀i σ ys H,i≤xs.length→Pv i σ ys H→SqT K H a xs∧H D=some (.lst ys))
  (hs:∀i x σ ys H T,xs[i]? =some x→Pv i σ ys H→H T=none→cturn g ti te D (.ref T) σ ys (upd H T (.tup [.int (i:Nat),x])) (Pv (i+1))) (hd:∀σ ys H,Pv xs.length σ ys H→Q (.ref D) H):
  cgo (IteT K a) g ti te D σ H Q:=by
 refine ⟨fun i m σ ys H=>m=xs.length - i∧i≤xs.length∧Pv i σ ys H,⟨xs.length,by simp,Nat.zero_le _,h0⟩,?_⟩
 rintro i m σ ys H ⟨rfl,hi,p⟩
 obtain ⟨q,hD⟩:=hl i σ ys H hi p
 refine ⟨hD,?_⟩
 by_cases hlt:i<xs.length
 ·refine .inr ⟨⟨xs,xs[i],q,by simp [hlt]⟩,Pv (i+1),fun σ' ys' H' p'=>⟨xs.length - (i+1),by omega,rfl,hlt,p'⟩,fun x H' y=> ?_⟩
  obtain ⟨T,z,hT,rfl,rfl,y⟩:=y
  exact hs i z σ ys H T (y xs q) p hT
 ·have e:i=xs.length:=by omega
  subst e
  exact .inl ⟨⟨xs,q,rfl⟩,hd σ ys H p⟩
end
end L2
namespace Srt
open PySem PySem.W PyProof.Rows
structure Ord (lt:Nat→Nat→Bool):Prop where
 asym:∀a b,lt a b=true→lt b a=false
 ntr:∀a b c,lt a b=false→lt b c=false→lt a c=false
def ev {α:Type} (lt:Nat→Nat→Bool):KasT α→α
 | .ret a=>a
 | .ask i j k=>ev lt (k (lt i j))
theorem ev_bind {α β:Type} (lt:Nat→Nat→Bool) (f:α→KasT β):∀t:KasT α,ev lt (t.bind f)=ev lt (f (ev lt t))
 | .ret _=>rfl
 | .ask i j k=>ev_bind lt f (k (lt i j))
def AsksP {α:Type} (n:Nat) (P:α→Prop):KasT α→Prop
 | .ret a=>P a
 | .ask i j k=>i<n∧j<n∧∀b,AsksP n P (k b)
theorem AsksP.bind {α β:Type} {n:Nat} {P:α→Prop} {R:β→Prop} {f:α→KasT β} (hf:∀a,P a→AsksP n R (f a)):∀{t:KasT α},AsksP n P t→AsksP n R (t.bind f)
 | .ret a,h=>hf a h
 | .ask i j k,h=>⟨h.1,h.2.1,fun b=>AsksP.bind hf (h.2.2 b)⟩
theorem AsksP.ev {α:Type} {n:Nat} {P:α→Prop} (lt:Nat→Nat→Bool):∀{t:KasT α},AsksP n P t→P (Srt.ev lt t)
 | .ret _,h=>h
 | .ask i j k,h=>AsksP.ev (n:=n) (P:=P) lt (t:=k (lt i j)) (h.2.2 (lt i j))
theorem AsksP.wp {α:Type} {n:Nat} {P:α→Prop} {cmp:Nat→Nat→(Bool→Shared→Prop)→Shared→Prop} {lt:Nat→Nat→Bool} {s:Shared} (hc:∀i j (C:Bool→Shared→Prop),i<n→j<n→C (lt i j) s→cmp i j C s) {Q:α→Shared→Prop}:∀{t:KasT α},AsksP n P t→Q (Srt.ev lt t) s→t.kasWp cmp Q s
 | .ret _,_,q=>q
 | .ask i j k,h,q=>hc i j _ h.1 h.2.1 (AsksP.wp hc (h.2.2 (lt i j)) q)
abbrev g (p:Array Nat) (k:Nat):Nat:=p.getD k 0
theorem g_eq (p:Array Nat) (k:Nat):g p k=(p[k]?).getD 0:=by
 show p.getD k 0=_
 simp [Array.getD_eq_getD_getElem?]
theorem g_rev {p:Array Nat} {i j:Nat} (hj:j≤p.size) (k:Nat):g (kas_rev p i j) k=if i≤k∧k<j then g p (i+j - 1 - k) else g p k:=by
 rw [g_eq]
 unfold kas_rev
 rw [getElem?_mirror_all hj]
 split<;> rw [g_eq]
theorem g_bub {p:Array Nat} {src d:Nat} (hs:src<p.size) (hd:d≤src) (k:Nat):g (bubble p src d) k=if k=src - d then g p src else if src - d<k∧k≤src then g p (k - 1) else g p k:=by
 rw [g_eq,getElem?_bubble hs d hd,g_eq,g_eq,g_eq]
 split
 ·rfl
 ·split<;> rfl
theorem rev_size (p:Array Nat) (i j:Nat):(kas_rev p i j).size=p.size:=mirror_size _ _ _ _
theorem rev_perm (p:Array Nat) (i j:Nat):(kas_rev p i j).Perm p:=mirror_perm _ _ _ _
def Pm (n:Nat) (p:Array Nat):Prop:=p.Perm (List.range n).toArray
theorem Pm.size {n:Nat} {p:Array Nat} (h:Pm n p):p.size=n:=by
 have:=Array.Perm.size_eq h
 simpa using this
theorem Pm.lt {n:Nat} {p:Array Nat} (h:Pm n p) (h0:0<n) (k:Nat):g p k<n:=by
 rw [g_eq]
 cases e:p[k]? with
 |none=>exact h0
 |some x=>
  have hx:x∈p:=Array.mem_of_getElem? e
  have:=(Array.Perm.mem_iff h).mp hx
  simpa using this
section
variable {n:Nat} (h0:0<n)
include h0
theorem asks_asc {p:Array Nat} (h:Pm n p):∀f m,AsksP n (fun _=>True) (kas_asc p f m)
 |0,_=>trivial
 |f+1,m=>⟨h.lt h0 _,h.lt h0 _,fun b=>by cases b<;> first|exact trivial|exact asks_asc h f (m+1)⟩
theorem asks_desc:∀f {p:Array Nat} (m q:Nat),Pm n p→AsksP n (fun r=>Pm n r.1) (kas_desc f p m q)
 |0,_,_,_,h=>h
 |f+1,p,m,q,h=>by
  refine ⟨h.lt h0 _,h.lt h0 _,fun b=> ?_⟩
  cases b with
  |true=>
   show AsksP n _ (if q > 0 then _ else _)
   by_cases hq:q > 0
   ·rw [if_pos hq];exact asks_desc f _ _ ((rev_perm _ _ _).trans h)
   ·rw [if_neg hq];exact asks_desc f _ _ h
  |false=>
   refine ⟨h.lt h0 _,h.lt h0 _,fun d=> ?_⟩
   cases d with
   |true=>exact h
   |false=>exact asks_desc f _ _ h
theorem asks_tail3 {p:Array Nat} (m nrem:Nat) (h:Pm n p):AsksP n (fun r=>Pm n r.2) (kas_tail3 m nrem p):=by
 have hr:Pm n (kas_rev p 0 m):=(rev_perm _ _ _).trans h
 refine AsksP.bind (n:=n) (P:=fun _=>True) (R:=fun r:Nat×Array Nat=>Pm n r.2) (fun k _=> ?_) (asks_asc h0 hr _ _)
 exact hr
theorem asks_descPart {p:Array Nat} (m nrem:Nat) (h:Pm n p):AsksP n (fun r=>Pm n r.2) (kas_descPart m nrem p):=
 (asks_desc h0 _ _ _ h).bind fun r hr=>by
  by_cases hq:r.2.2 > 0
  ·rw [if_pos hq];exact asks_tail3 h0 _ _ ((rev_perm _ _ _).trans hr)
  ·rw [if_neg hq];exact asks_tail3 h0 _ _ hr
theorem asks_count {p:Array Nat} (nrem:Nat) (h:Pm n p):AsksP n (fun r=>Pm n r.2) (kas_count nrem p):=
 (asks_asc h0 h _ _).bind fun m _=>by
  by_cases h1:(m==nrem)=true
  ·rw [if_pos h1];exact h
  ·rw [if_neg h1]
   by_cases h2:m > 1
   ·rw [if_pos h2]
    refine ⟨h.lt h0 _,h.lt h0 _,fun c=> ?_⟩
    cases c with
    |true=>exact h
    |false=>exact asks_descPart h0 _ _ ((rev_perm _ _ _).trans h)
   ·rw [if_neg h2];exact asks_descPart h0 _ _ h
theorem asks_place {p:Array Nat} (k:Nat) (h:Pm n p):∀f l r,AsksP n (fun _=>True) (kas_place p k f l r)
 |0,_,_=>trivial
 |f+1,l,r=>by
  show AsksP n _ (if l ≥ r then _ else _)
  by_cases hl:l ≥ r
  ·rw [if_pos hl];trivial
  ·rw [if_neg hl]
   refine ⟨h.lt h0 _,h.lt h0 _,fun c=> ?_⟩
   cases c with
   |true=>exact asks_place k h f _ _
   |false=>exact asks_place k h f _ _
theorem asks_bin:∀f {p:Array Nat} (k:Nat),Pm n p→AsksP n (Pm n) (kas_bin f p k)
 |0,_,_,h=>h
 |f+1,p,k,h=>(asks_place h0 k h _ _ _).bind fun l _=>asks_bin f (k+1) ((bubble_perm _ _ _).trans h)
theorem asks_sort:AsksP n (Pm n) (kas_sort n):=
 (asks_count h0 n (Array.Perm.refl _)).bind fun r hr=>by
  by_cases h1:r.1<n
  ·rw [if_pos h1];exact asks_bin h0 _ _ hr
  ·rw [if_neg h1];exact hr
end
section
variable {lt:Nat→Nat→Bool} (O:Ord lt)
def Sto (lt:Nat→Nat→Bool) (p:Array Nat) (k:Nat):Prop:=∀i j,i≤j→j<k→lt (g p j) (g p i)=false
def Dto (lt:Nat→Nat→Bool) (p:Array Nat) (k:Nat):Prop:=∀i j,i≤j→j<k→lt (g p i) (g p j)=false
def Eqv (lt:Nat→Nat→Bool) (a b:Nat):Prop:=lt a b=false∧lt b a=false
include O
theorem irr (a:Nat):lt a a=false:=by
 cases h:lt a a with
 |false=>rfl
 |true=>have:=O.asym a a h;rw [h] at this;cases this
theorem ev_asc {p:Array Nat}:∀f m,1≤m→Sto lt p m→m≤ev lt (kas_asc p f m)∧ev lt (kas_asc p f m)≤m+f∧Sto lt p (ev lt (kas_asc p f m))∧(ev lt (kas_asc p f m)<m+f→lt (g p (ev lt (kas_asc p f m))) (g p (ev lt (kas_asc p f m) - 1))=true)
 |0,m,_,hs=>⟨Nat.le_refl _,Nat.le_refl _,hs,fun h=>absurd h (Nat.lt_irrefl _)⟩
 |f+1,m,h1,hs=>by
  show m≤ev lt (if lt (g p m) (g p (m - 1))=true then .ret m else kas_asc p f (m+1))∧ev lt (if lt (g p m) (g p (m - 1))=true then .ret m else kas_asc p f (m+1))≤m+(f+1)∧Sto lt p (ev lt (if lt (g p m) (g p (m - 1))=true then .ret m else kas_asc p f (m+1)))∧(ev lt (if lt (g p m) (g p (m - 1))=true then .ret m else kas_asc p f (m+1))<m+(f+1)→lt (g p (ev lt (if lt (g p m) (g p (m - 1))=true then .ret m else kas_asc p f (m+1)))) (g p (ev lt (if lt (g p m) (g p (m - 1))=true then .ret m else kas_asc p f (m+1)) - 1))=true)
  by_cases c:lt (g p m) (g p (m - 1))=true
  ·rw [if_pos c]
   exact ⟨Nat.le_refl _,Nat.le_add_right _ _,hs,fun _=>c⟩
  ·rw [if_neg c]
   have c:lt (g p m) (g p (m - 1))=false:=by simpa using c
   have hs':Sto lt p (m+1):=fun i j hij hj=>by
    by_cases e:j=m
    ·subst e
     by_cases e2:i=j
     ·subst e2;exact irr O _
     ·exact O.ntr _ _ _ c (hs i (j - 1) (by omega) (by exact Nat.sub_lt (by assumption) (by decide)))
    ·exact hs i j hij (by omega)
   obtain ⟨a,b,d,e⟩:=ev_asc f (m+1) (by exact Nat.lt_succ_of_lt (by assumption)) hs'
   exact ⟨by exact Nat.le_of_lt (by assumption),by omega,d,fun h=>e (by omega)⟩
theorem Dto.eqv {p p1:Array Nat} {k:Nat} (h:Dto lt p k) (he:∀i,i<k→Eqv lt (g p1 i) (g p i)):Dto lt p1 k:=fun i j hij hj=>
 O.ntr _ _ _ (he i (by exact Nat.lt_of_le_of_lt (by assumption) (by assumption))).1 (O.ntr _ _ _ (h i j hij hj) (he j hj).2)
def Blk (lt:Nat→Nat→Bool) (p:Array Nat) (m q:Nat):Prop:=q+1≤m∧∀i j,m - (q+1)≤i→i<m→m - (q+1)≤j→j<m→Eqv lt (g p i) (g p j)
theorem rev_blk {p:Array Nat} {m q:Nat} (hm:m≤p.size) (hb:Blk lt p m q):∀i,Eqv lt (g (kas_rev p (m - (q+1)) m) i) (g p i):=fun i=>by
 have h1:=hb.1
 rw [g_rev hm]
 split
 ·exact hb.2 _ _ (by omega) (by omega) (by omega) (by omega)
 ·exact ⟨irr O _,irr O _⟩
theorem ev_desc:∀f {p:Array Nat} (m q:Nat),1≤m→m+f≤p.size→Dto lt p m→Blk lt p m q→
  let r:=ev lt (kas_desc f p m q);m≤r.2.1∧r.2.1≤m+f∧r.1.size=p.size∧Dto lt r.1 r.2.1∧Blk lt r.1 r.2.1 r.2.2
 |0,p,m,q,_,_,hd,hb=>⟨Nat.le_refl _,Nat.le_refl _,rfl,hd,hb⟩
 |f+1,p,m,q,h1,hz,hd,hb=>by
  intro r
  have b1:=hb.1
  have single:∀(p':Array Nat),Blk lt p' (m+1) 0:=fun p'=>⟨by exact Nat.lt_succ_of_lt (by assumption),fun i j a b c d=>by
   have:i=j:=by omega
   subst this;exact ⟨irr O _,irr O _⟩⟩
  have low:lt (g p (m - 1)) (g p m)=false→Dto lt p (m+1):=fun c i j hij hj=>by
   by_cases e:j=m
   ·subst e
    by_cases e2:i=j
    ·subst e2;exact irr O _
    ·exact O.ntr _ _ _ (hd i (j - 1) (by omega) (by exact Nat.sub_lt (by assumption) (by decide))) c
   ·exact hd i j hij (by omega)
  by_cases c:lt (g p m) (g p (m - 1))=true
  ·have cl:=low (O.asym _ _ c)
   by_cases hq:q > 0
   ·have e:r=ev lt (kas_desc f (kas_rev p (m - (q+1)) m) (m+1) 0):=by
     show ev lt (if lt (g p m) (g p (m - 1))=true then (if q > 0 then _ else _) else _)=_
     rw [if_pos c,if_pos hq]
    obtain ⟨a,b,s,d,k⟩:=ev_desc f (p:=kas_rev p (m - (q+1)) m) (m+1) 0 (by exact Nat.lt_succ_of_lt (by assumption)) (by rw [rev_size];omega) (Dto.eqv O cl fun i _=>rev_blk O (by omega) hb i) (single _)
    rw [e]
    exact ⟨by exact Nat.le_of_lt (by assumption),by omega,by rw [s,rev_size],d,k⟩
   ·have e:r=ev lt (kas_desc f p (m+1) 0):=by
     show ev lt (if lt (g p m) (g p (m - 1))=true then (if q > 0 then _ else _) else _)=_
     rw [if_pos c,if_neg hq]
    obtain ⟨a,b,s,d,k⟩:=ev_desc f (p:=p) (m+1) 0 (by exact Nat.lt_succ_of_lt (by assumption)) (by omega) cl (single _)
    rw [e]
    exact ⟨by exact Nat.le_of_lt (by assumption),by omega,s,d,k⟩
  ·have c':lt (g p m) (g p (m - 1))=false:=by simpa using c
   by_cases d1:lt (g p (m - 1)) (g p m)=true
   ·have e:r=(p,m,q):=by
     show ev lt (if lt (g p m) (g p (m - 1))=true then _ else KasT.ask _ _ fun d=>if d=true then _ else _)=_
     rw [if_neg c]
     show ev lt (if lt (g p (m - 1)) (g p m)=true then KasT.ret (p,m,q) else _)=_
     rw [if_pos d1]
     rfl
    rw [e]
    exact ⟨Nat.le_refl _,Nat.le_add_right _ _,rfl,hd,hb⟩
   ·have d':lt (g p (m - 1)) (g p m)=false:=by simpa using d1
    have e:r=ev lt (kas_desc f p (m+1) (q+1)):=by
     show ev lt (if lt (g p m) (g p (m - 1))=true then _ else KasT.ask _ _ fun d=>if d=true then _ else _)=_
     rw [if_neg c]
     show ev lt (if lt (g p (m - 1)) (g p m)=true then KasT.ret (p,m,q) else _)=_
     rw [if_neg d1]
    have blk:Blk lt p (m+1) (q+1):=⟨by exact Nat.succ_le_succ (by assumption),fun i j i1 i2 j1 j2=>by
     have to:∀k,m - (q+1)≤k→k<m+1→Eqv lt (g p k) (g p (m - 1)):=fun k k1 k2=>by
      by_cases z:k=m
      ·subst z;exact ⟨c',d'⟩
      ·exact hb.2 k (m - 1) k1 (by omega) (by omega) (by exact Nat.sub_lt (by assumption) (by decide))
     have a:=to i (by omega) i2
     have b:=to j (by omega) j2
     exact ⟨O.ntr _ _ _ a.1 b.2,O.ntr _ _ _ b.1 a.2⟩⟩
    obtain ⟨a,b,s,d,k⟩:=ev_desc f (p:=p) (m+1) (q+1) (by exact Nat.lt_succ_of_lt (by assumption)) (by omega) (low d') blk
    rw [e]
    exact ⟨by exact Nat.le_of_lt (by assumption),by omega,s,d,k⟩
theorem Dto.rev {p:Array Nat} {m:Nat} (hm:m≤p.size) (h:Dto lt p m):Sto lt (kas_rev p 0 m) m:=fun i j hij hj=>by
 rw [g_rev hm,g_rev hm,if_pos ⟨by exact Nat.zero_le _,by assumption⟩,if_pos ⟨by exact Nat.zero_le _,by exact Nat.lt_of_le_of_lt (by assumption) (by assumption)⟩]
 exact h _ _ (by omega) (by omega)
theorem ev_tail3 {p:Array Nat} {m nrem:Nat} (h1:1≤m) (hn:m≤nrem) (hz:nrem≤p.size) (h:Dto lt p m):let r:=ev lt (kas_tail3 m nrem p);1≤r.1∧r.1≤nrem∧Sto lt r.2 r.1:=by
 intro r
 have e:r=(ev lt (kas_asc (kas_rev p 0 m) (nrem - m) m),kas_rev p 0 m):=ev_bind lt _ _
 obtain ⟨a,b,c,_⟩:=ev_asc O (p:=kas_rev p 0 m) (nrem - m) m h1 (Dto.rev O (by exact Nat.le_trans (by assumption) (by assumption)) h)
 rw [e]
 exact ⟨by show 1≤_;exact Nat.le_trans (by assumption) (by assumption),by show _≤nrem;omega,c⟩
theorem ev_descPart {p:Array Nat} {m nrem:Nat} (hn:m+1≤nrem) (hz:nrem≤p.size) (h:Dto lt p (m+1)):let r:=ev lt (kas_descPart m nrem p);1≤r.1∧r.1≤nrem∧Sto lt r.2 r.1:=by
 intro r
 have single:Blk lt p (m+1) 0:=⟨by omega,fun i j a b c d=>by
  have:i=j:=by omega
  subst this;exact ⟨irr O _,irr O _⟩⟩
 obtain ⟨a,b,s,d,k⟩:=ev_desc O (nrem - (m+1)) (p:=p) (m+1) 0 (by omega) (by omega) h single
 have e:r=ev lt (if (ev lt (kas_desc (nrem - (m+1)) p (m+1) 0)).2.2 > 0 then kas_tail3 (ev lt (kas_desc (nrem - (m+1)) p (m+1) 0)).2.1 nrem (kas_rev (ev lt (kas_desc (nrem - (m+1)) p (m+1) 0)).1 ((ev lt (kas_desc (nrem - (m+1)) p (m+1) 0)).2.1 - ((ev lt (kas_desc (nrem - (m+1)) p (m+1) 0)).2.2+1)) (ev lt (kas_desc (nrem - (m+1)) p (m+1) 0)).2.1) else kas_tail3 (ev lt (kas_desc (nrem - (m+1)) p (m+1) 0)).2.1 nrem (ev lt (kas_desc (nrem - (m+1)) p (m+1) 0)).1):=ev_bind lt _ _
 rw [e]
 generalize ev lt (kas_desc (nrem - (m+1)) p (m+1) 0)=x at a b s d k
 by_cases hq:x.2.2 > 0
 ·rw [if_pos hq]
  exact ev_tail3 O (by omega) (by omega) (by rw [rev_size];omega) (Dto.eqv O d fun i _=>rev_blk O (by omega) k i)
 ·rw [if_neg hq]
  exact ev_tail3 O (by omega) (by omega) (by omega) d
theorem ev_count {p:Array Nat} {nrem:Nat} (h1:1≤nrem) (hz:nrem≤p.size):let r:=ev lt (kas_count nrem p);1≤r.1∧r.1≤nrem∧Sto lt r.2 r.1:=by
 intro r
 have s1:Sto lt p 1:=fun i j hij hj=>by
  have a:i=0:=by omega
  have b:j=0:=by omega
  subst a b;exact irr O _
 obtain ⟨a,b,c,e⟩:=ev_asc O (p:=p) (nrem - 1) 1 (Nat.le_refl _) s1
 have er:r=ev lt ((fun n=>if (n==nrem)=true then KasT.ret (n,p) else if n > 1 then KasT.ask (p.getD 0 0) (p.getD (n - 1) 0) fun c=>if c=true then KasT.ret (n,p) else kas_descPart n nrem (kas_rev p 0 n) else kas_descPart n nrem p) (ev lt (kas_asc p (nrem - 1) 1))):=ev_bind lt _ _
 rw [er]
 generalize ev lt (kas_asc p (nrem - 1) 1)=m at a b c e
 dsimp only
 by_cases h2:(m==nrem)=true
 ·rw [if_pos h2]
  exact ⟨a,by show m≤nrem;omega,c⟩
 ·rw [if_neg h2]
  have hm:m<nrem:=by
   have:m≠nrem:=by simpa using h2
   omega
  have last:=e (by omega)
  by_cases h3:m > 1
  ·rw [if_pos h3]
   show let r:=ev lt (if lt (g p 0) (g p (m - 1))=true then KasT.ret (m,p) else kas_descPart m nrem (kas_rev p 0 m));1≤r.1∧r.1≤nrem∧Sto lt r.2 r.1
   by_cases h4:lt (g p 0) (g p (m - 1))=true
   ·rw [if_pos h4]
    exact ⟨a,by show m≤nrem;exact Nat.le_of_lt (by assumption),c⟩
   ·rw [if_neg h4]
    have h4:lt (g p 0) (g p (m - 1))=false:=by simpa using h4
    have all:∀i j,i<m→j<m→lt (g p i) (g p j)=false:=fun i j hi hj=>O.ntr _ _ _ (O.ntr _ _ _ (c 0 i (by exact Nat.zero_le _) hi) h4) (c j (m - 1) (by omega) (by exact Nat.sub_lt (by assumption) (by decide)))
    have blk:Blk lt p m (m - 1):=⟨by exact Nat.sub_lt (by assumption) (by decide),fun i j _ i2 _ j2=>⟨all i j i2 j2,all j i j2 i2⟩⟩
    have d1:Dto lt p (m+1):=fun i j hij hj=>by
     by_cases z:j=m
     ·subst z
      by_cases z2:i=j
      ·subst z2;exact irr O _
      ·exact O.ntr _ _ _ (all i (j - 1) (by omega) (by exact Nat.sub_lt (by assumption) (by decide))) (O.asym _ _ last)
     ·exact all i j (by omega) (by omega)
    have rb:=rev_blk O (by omega) blk
    rw [show m - (m - 1+1)=0 by omega] at rb
    exact ev_descPart O (by assumption) (by rw [rev_size];assumption) (Dto.eqv O d1 fun i _=>rb i)
  ·rw [if_neg h3]
   have:m=1:=by omega
   subst this
   refine ev_descPart O (by assumption) hz fun i j hij hj=> ?_
   by_cases z:i=j
   ·subst z;exact irr O _
   ·have a0:i=0:=by omega
    have b1:j=1:=by omega
    subst a0 b1
    exact O.asym _ _ last
theorem ev_place {p:Array Nat} {k:Nat}:∀f l r,r - l≤f→l≤r→r≤k→(∀i,i<l→lt (g p k) (g p i)=false)→(∀i,r≤i→i<k→lt (g p k) (g p i)=true)→Sto lt p k→
  let x:=ev lt (kas_place p k f l r);x≤k∧(∀i,i<x→lt (g p k) (g p i)=false)∧∀i,x≤i→i<k→lt (g p k) (g p i)=true
 |0,l,r,hf,hlr,hrk,h1,h2,_=>by
  have:l=r:=by omega
  subst this
  exact ⟨hrk,h1,h2⟩
 |f+1,l,r,hf,hlr,hrk,h1,h2,hs=>by
  intro x
  by_cases hl:l ≥ r
  ·have e:x=l:=by
    show ev lt (if l ≥ r then KasT.ret l else _)=l
    rw [if_pos hl];rfl
   have:l=r:=by omega
   subst this
   rw [e]
   exact ⟨hrk,h1,h2⟩
  ·by_cases c:lt (g p k) (g p ((l+r) / 2))=true
   ·have e:x=ev lt (kas_place p k f l ((l+r) / 2)):=by
     show ev lt (if l ≥ r then KasT.ret l else KasT.ask _ _ fun c=>if c=true then _ else _)=_
     rw [if_neg hl]
     show ev lt (if lt (g p k) (g p ((l+r) / 2))=true then _ else _)=_
     rw [if_pos c]
    rw [e]
    refine ev_place f l ((l+r) / 2) (by omega) (by omega) (by omega) h1 (fun i i1 i2=> ?_) hs
    cases z:lt (g p k) (g p i) with
    |true=>rfl
    |false=>
     have:=O.ntr _ _ _ z (hs ((l+r) / 2) i i1 i2)
     rw [c] at this;cases this
   ·have c':lt (g p k) (g p ((l+r) / 2))=false:=by simpa using c
    have e:x=ev lt (kas_place p k f ((l+r) / 2+1) r):=by
     show ev lt (if l ≥ r then KasT.ret l else KasT.ask _ _ fun c=>if c=true then _ else _)=_
     rw [if_neg hl]
     show ev lt (if lt (g p k) (g p ((l+r) / 2))=true then _ else _)=_
     rw [if_neg c]
    rw [e]
    refine ev_place f ((l+r) / 2+1) r (by omega) (by omega) hrk (fun i i1=>O.ntr _ _ _ c' (hs i ((l+r) / 2) (by omega) (by omega))) h2 hs
theorem ev_bin:∀f {p:Array Nat} (k:Nat),k+f=p.size→Sto lt p k→Sto lt (ev lt (kas_bin f p k)) p.size
 |0,p,k,hz,hs=>by
  have:k=p.size:=by assumption
  subst this;exact hs
 |f+1,p,k,hz,hs=>by
  have e:ev lt (kas_bin (f+1) p k)=ev lt (kas_bin f (bubble p k (k - ev lt (kas_place p k k 0 k))) (k+1)):=ev_bind lt _ _
  obtain ⟨x1,x2,x3⟩:=ev_place O (p:=p) (k:=k) k 0 k (by exact Nat.le_refl _) (by exact Nat.zero_le _) (Nat.le_refl _) (fun i hi=>by omega) (fun i i1 i2=>by omega) hs
  rw [e]
  generalize ev lt (kas_place p k k 0 k)=x at x1 x2 x3
  have hs':Sto lt (bubble p k (k - x)) (k+1):=fun i j hij hj=>by
   rw [g_bub (by omega) (by exact Nat.sub_le _ _),g_bub (by omega) (by exact Nat.sub_le _ _),show k - (k - x)=x by omega]
   by_cases j1:j=x
   ·rw [if_pos j1]
    by_cases i1:i=x
    ·rw [if_pos i1];exact irr O _
    ·rw [if_neg i1,if_neg (by omega)]
     exact x2 i (by omega)
   ·rw [if_neg j1]
    by_cases j2:x<j∧j≤k
    ·rw [if_pos j2]
     by_cases i1:i=x
     ·rw [if_pos i1];exact O.asym _ _ (x3 (j - 1) (by omega) (by omega))
     ·rw [if_neg i1]
      by_cases i2:x<i∧i≤k
      ·rw [if_pos i2];exact hs (i - 1) (j - 1) (by omega) (by omega)
      ·rw [if_neg i2];exact hs i (j - 1) (by omega) (by omega)
    ·rw [if_neg j2,if_neg (by omega),if_neg (by omega)]
     exact hs i j hij (by omega)
  have:=ev_bin f (p:=bubble p k (k - x)) (k+1) (by rw [bubble_size];omega) hs'
  rw [bubble_size] at this
  exact this
theorem ev_sort {n:Nat} (h1:1≤n):Sto lt (ev lt (kas_sort n)) n:=by
 have hz:(List.range n).toArray.size=n:=by simp
 have e:ev lt (kas_sort n)=ev lt ((fun r:Nat×Array Nat=>if r.1<n then kas_bin (n - max r.1 1) r.2 (max r.1 1) else .ret r.2) (ev lt (kas_count n (List.range n).toArray))):=ev_bind lt _ _
 obtain ⟨a,b,c⟩:=ev_count O (p:=(List.range n).toArray) h1 (by omega)
 have pm:Pm n (ev lt (kas_count n (List.range n).toArray)).2:=(asks_count (by assumption) n (Array.Perm.refl _)).ev lt
 rw [e]
 generalize ev lt (kas_count n (List.range n).toArray)=r at a b c pm
 dsimp only
 have sz:=pm.size
 by_cases h:r.1<n
 ·rw [if_pos h,show max r.1 1=r.1 by omega]
  have:=ev_bin O (n - r.1) (p:=r.2) r.1 (by omega) c
  rw [sz] at this
  exact this
 ·rw [if_neg h]
  have:r.1=n:=by omega
  rw [this] at c
  exact c
end
end Srt
namespace Srt
open PySem PySem.W PyProof.Rows
section
variable {prog:Program} {w:World} {A:Around} {E:Value→Shared→Prop} {s:Shared}
theorem list_sort_raw {κ:SortKind} {lt:Nat→Nat→Bool} (O:Ord lt) {a:Addr} {vs:List Value} {n:Nat} {P:PySem.Fin→Shared→Prop} (ho:s.heap.get? a=some (seqObj "list" vs.toArray n)) (h64:vs.length<64)
  (hk:∀h',(∀b o,b≠a→s.heap.get? b=some o→h'.get? b=some o)→2≤vs.length→∀Q:SortKind→Shared→Prop,Q κ {s with heap:=h'}→wpAny (model prog w) A (keyKind' vs.toArray) Q E {s with heap:=h'})
  (hc:∀h',(∀b o,b≠a→s.heap.get? b=some o→h'.get? b=some o)→∀i j (C:Bool→Shared→Prop),i<vs.length→j<vs.length→C (lt i j) {s with heap:=h'}→kas_ask prog w A κ vs i j C {s with heap:=h'})
  (h:∀p:Array Nat,Pm vs.length p→Sto lt p vs.length→P (.done (.ret .none)) {s with heap:=sortedHeap s.heap a vs (p.toList.map fun i=>vs.getD i Value.none).toArray}):
  wpAny (model prog w) A (Builtin.«list.sort» ⟨[.ref a],[]⟩) P E s:=by
 rw [list_sort_plain]
 have ha:a<s.heap.objs.size:=Heap.lt_size ho
 refine wpAny_bind (listItems_at ho rfl ?_)
 refine wpAny_bind (listUpdate_at ho rfl ?_ (by rw [List.size_toArray,sizeLine_eq];omega) (Nat.zero_le _))
 obtain ⟨e1,ho1⟩:∃e1,(s.heap.update a (Obj.mapSeq fun _=> #[])).get? a=some (seqObj "list" #[] e1):=⟨_,get?_update_seq ho (fun _=> #[])⟩
 refine wpAny_bind (seqEpoch_at ho1 rfl ?_)
 refine wpAny_bind (wpAny_newTuple ?_ (by show vs.length≤_;rw [sizeLine_eq];omega))
 refine wpAny_bind (wpAny_newList ?_ (Nat.zero_le _))
 refine wpAny_holding ?_
 have keep:∀b o,b≠a→s.heap.get? b=some o→(((s.heap.update a (Obj.mapSeq fun _=> #[])).push (seqObj "tuple" vs.toArray 0)).push (seqObj "list" #[] 0)).get? b=some o:=fun b o ne q=>by
  have hlt:b<s.heap.objs.size:=Heap.lt_size q
  rw [Heap.get?_push_ne _ _ _ (by rw [size_push',Heap.size_update];exact Nat.ne_of_lt (Nat.lt_succ_of_lt hlt)),Heap.get?_push_ne _ _ _ (by rw [Heap.size_update];exact Nat.ne_of_lt hlt),Heap.get?_update_ne _ _ _ _ ne]
  exact q
 have ho6:(((s.heap.update a (Obj.mapSeq fun _=> #[])).push (seqObj "tuple" vs.toArray 0)).push (seqObj "list" #[] 0)).get? a=some (seqObj "list" #[] e1):=by
  rw [Heap.get?_push_ne _ _ _ (by rw [size_push',Heap.size_update];exact Nat.ne_of_lt (Nat.lt_succ_of_lt ha)),Heap.get?_push_ne _ _ _ (by rw [Heap.size_update];exact Nat.ne_of_lt ha)]
  exact ho1
 show wpAny (model prog w) A _ P E {s with heap:=((s.heap.update a (Obj.mapSeq fun _=> #[])).push (seqObj "tuple" vs.toArray 0)).push (seqObj "list" #[] 0)}
 dsimp only
 have hsz:vs.toArray.size=vs.length:=by simp
 by_cases h2:vs.toArray.size<2
 ·rw [if_pos h2,if_pos h2]
  refine wpAny_bind (wpAny_pure ?_)
  rw [StateT.run_pure]
  refine wpAny_bind (wpAny_pure ?_)
  dsimp only
  refine wpAny_bind (seqEpoch_at ho6 rfl ?_)
  refine wpAny_bind (listUpdate_at ho6 rfl ?_ (hsz2:=by rw [Array.size_map];show (pairsOf vs).size≤_;rw [pairsOf_size,sizeLine_eq];omega))
  simp only [bne_self_eq_false,Bool.false_eq_true,if_false]
  have fin:=h (List.range vs.length).toArray (Array.Perm.refl _) (fun i j hij hj=>by
   have:i=j:=by omega
   subst this;exact irr O _)
  have e:(List.range vs.length).toArray.toList.map (fun i=>vs.getD i Value.none)=vs:=by
   refine List.ext_getElem? fun i=> ?_
   simp only [List.getElem?_map]
   by_cases hi:i<vs.length
   ·simp [hi]
   ·simp [Nat.le_of_not_lt hi]
  rw [e] at fin
  have e2:(Array.map (fun x=>x.snd) (vs.toArray.zip vs.toArray))=vs.toArray:=by
   apply Array.toList_inj.mp
   simp [List.map_snd_zip]
  rw [show Array.map (fun x:Keyed=>x.snd) (arrOf (SortSt.mk' general' (vs.toArray.zip vs.toArray) #[] 7 none))=vs.toArray from e2]
  exact wpAny_pure fin
 ·rw [if_neg h2,if_neg h2]
  have h2':2≤vs.length:=by rw [hsz] at h2;exact Nat.not_lt.mp (by assumption)
  refine wpAny_bind (hk _ keep h2' _ ?_)
  refine wpAny_bind (wpAny_mono (kat_run (ks:=vs) (vs:=vs) (κ:=κ) (Q:=fun st' s'=>∃p:Array Nat,s'={s with heap:=((s.heap.update a (Obj.mapSeq fun _=> #[])).push (seqObj "tuple" vs.toArray 0)).push (seqObj "list" #[] 0)}∧Pm vs.length p∧Sto lt p vs.length∧arrOf st'=p.map (kas_item (vs.toArray.zip vs.toArray))∧failedOf st'=none)
   rfl h2' h64 (G:=fun p s'=>s'={s with heap:=((s.heap.update a (Obj.mapSeq fun _=> #[])).push (seqObj "tuple" vs.toArray 0)).push (seqObj "list" #[] 0)}∧Pm vs.length p∧Sto lt p vs.length) (fun p st' s' a1 a2 a3 a4=>⟨p,a4.1,a4.2.1,a4.2.2,a2,a3⟩) ?_) ?_ fun _ _ e=>e)
  ·exact AsksP.wp (lt:=lt) (hc _ keep) (asks_sort (by exact Nat.le_of_lt (by assumption))) ⟨rfl,(asks_sort (by exact Nat.le_of_lt (by assumption))).ev lt,ev_sort O (by exact Nat.le_of_lt (by assumption))⟩
  ·rintro ⟨⟨⟩,st'⟩ s' ⟨p,rfl,hp,hs,har,hf⟩
   dsimp only
   rw [kat_snds rfl har]
   refine wpAny_bind (seqEpoch_at ho6 rfl ?_)
   refine wpAny_bind (listUpdate_at ho6 rfl ?_ (Nat.zero_le _) (by rw [List.size_toArray,List.length_map,Array.length_toList,hp.size,sizeLine_eq];omega))
   rw [hf]
   simp only [bne_self_eq_false,Bool.false_eq_true,if_false]
   exact wpAny_pure (h p hp hs)
theorem sorted_raw {κ:SortKind} {lt:Nat→Nat→Bool} (O:Ord lt) {v:Value} (I:List Value→Prop) {Q:Value→Shared→Prop} (h64:∀vs,I vs→vs.length<64)
  (hcol:∀(Q:List Value→Shared→Prop),(∀vs h1 t1,I vs→(∀b o,s.heap.get? b=some o→h1.get? b=some o)→Q vs {s with heap:=h1,toks:=t1})→wpAny (model prog w) A.in1 (collect v) Q E s)
  (hk:∀vs h' t',I vs→(∀b o,s.heap.get? b=some o→h'.get? b=some o)→2≤vs.length→∀Q:SortKind→Shared→Prop,Q κ {s with heap:=h',toks:=t'}→wpAny (model prog w) A.in1.in1 (keyKind' vs.toArray) Q E {s with heap:=h',toks:=t'})
  (hc:∀vs h' t',I vs→(∀b o,s.heap.get? b=some o→h'.get? b=some o)→∀i j (C:Bool→Shared→Prop),i<vs.length→j<vs.length→C (lt i j) {s with heap:=h',toks:=t'}→kas_ask prog w A.in1.in1 κ vs i j C {s with heap:=h',toks:=t'})
  (h:∀vs (p:Array Nat) (h1 h':Heap) t' l e,I vs→Pm vs.length p→Sto lt p vs.length→(∀b o,s.heap.get? b=some o→h1.get? b=some o)→(∀b o,h1.get? b=some o→h'.get? b=some o)→h1.objs.size≤l→h'.get? l=some (seqObj "list" (p.toList.map fun i=>vs.getD i Value.none).toArray e)→Q (.ref l) {s with heap:=h',toks:=t'}):
  wpAny (model prog w) A (call (.builtin "sorted") [v]) Q E s:=by
 refine Calls.call_function_entry kind_sorted plain_sorted entry_sorted (args_sorted1 _) ?_
 unfold Builtin.«sorted»
 refine wpAny_bind (m:=checkCount "sorted" 1 1 _) (wpAny_pure ?_)
 refine wpAny_bind (hcol _ fun vs h1 t1 hI k1=> ?_)
 have h64:=h64 vs hI
 refine wpAny_bind (wpAny_newList ?_ (by rw [sizeLine_eq];omega))
 have hoL:(h1.push (seqObj "list" vs.toArray 0)).get? h1.objs.size=some (seqObj "list" vs.toArray 0):=Heap.get?_push_size _ rfl
 show wpAny _ _ _ _ _ {s with heap:=h1.push (seqObj "list" vs.toArray 0),toks:=t1}
 have k3:∀b o,h1.get? b=some o→b≠h1.objs.size∧(h1.push (seqObj "list" vs.toArray 0)).get? b=some o:=fun b o q=>
  ⟨Nat.ne_of_lt (Heap.lt_size q),Heap.get?_push_of_some _ q⟩
 have k2:∀b o,s.heap.get? b=some o→b≠h1.objs.size∧(h1.push (seqObj "list" vs.toArray 0)).get? b=some o:=fun b o q=>k3 b o (k1 b o q)
 refine wpAny_bind (wpAny_holding (wpAny_call_entry slot_list_sort ⟨_,hoL,rfl⟩ entry_list_sort (list_sort_raw (s:={s with heap:=h1.push (seqObj "list" vs.toArray 0),toks:=t1}) (κ:=κ) O hoL h64 (fun h' k l2 Q q=> ?_) (fun h' k i j C hi hj q=> ?_) fun p hp hs=>⟨_,rfl,?_⟩) (args_list_sort _)))
 ·exact hk vs h' t1 hI (fun b o q=>k b o (k2 b o q).1 (k2 b o q).2) l2 Q q
 ·exact hc vs h' t1 hI (fun b o q=>k b o (k2 b o q).1 (k2 b o q).2) i j C hi hj q
 ·refine wpAny_pure ⟨_,rfl,?_⟩
  have hz:h1.objs.size<(h1.push (seqObj "list" vs.toArray 0)).objs.size:=by rw [size_push'];exact Nat.lt_succ_self _
  obtain ⟨e,he⟩:∃e,(sortedHeap (h1.push (seqObj "list" vs.toArray 0)) h1.objs.size vs (p.toList.map fun i=>vs.getD i Value.none).toArray).get? h1.objs.size=some (seqObj "list" (p.toList.map fun i=>vs.getD i Value.none).toArray e):=by
   unfold sortedHeap
   obtain ⟨e1,ho1⟩:∃e1,((h1.push (seqObj "list" vs.toArray 0)).update h1.objs.size (Obj.mapSeq fun _=> #[])).get? h1.objs.size=some (seqObj "list" #[] e1):=⟨_,get?_update_seq hoL (fun _=> #[])⟩
   have ho6:((((h1.push (seqObj "list" vs.toArray 0)).update h1.objs.size (Obj.mapSeq fun _=> #[])).push (seqObj "tuple" vs.toArray 0)).push (seqObj "list" #[] 0)).get? h1.objs.size=some (seqObj "list" #[] e1):=by
    exact Heap.get?_push_of_some _ (Heap.get?_push_of_some _ ho1)
   exact ⟨_,get?_update_seq ho6 fun _=>_⟩
  refine h vs p h1 _ t1 h1.objs.size e hI hp hs k1 (fun b o q=> ?_) (Nat.le_refl _) he
  have q2:=k3 b o q
  unfold sortedHeap
  rw [Heap.get?_update_ne _ _ _ _ q2.1]
  refine Heap.get?_push_of_some _ (Heap.get?_push_of_some _ ?_)
  rw [Heap.get?_update_ne _ _ _ _ q2.1]
  exact q2.2
end
end Srt
namespace Srt
open PySem PySem.W PyProof.Rows L2
def ltK:Key→Key→Bool
 | .inl a,.inl b=>decide (a<b)
 | .inr a,.inr b=>decide (a.cps.toList<b.cps.toList)
 | .inl _,.inr _=>true
 | .inr _,.inl _=>false
def ltR:List Key→List Key→Bool
 |x::xs,y::ys=>if x=y then ltR xs ys else ltK x y
 |[],_::_=>true
 |_,[]=>false
theorem str_ext {a b:Str} (h:a.cps.toList=b.cps.toList):a=b:=by
 cases a;cases b;simp at h;rw [h]
theorem ltK_irr:∀a,ltK a a=false
 | .inl a=>by simp [ltK]
 | .inr a=>by simp [ltK,List.lt_irrefl]
theorem ltK_tr:∀{a b c},ltK a b=true→ltK b c=true→ltK a c=true
 | .inl a,.inl b,.inl c,h1,h2=>by simp only [ltK,decide_eq_true_eq] at *;omega
 | .inr a,.inr b,.inr c,h1,h2=>by simp only [ltK,decide_eq_true_eq] at *;exact List.lt_trans h1 h2
 | .inl _,.inl _,.inr _,_,_=>rfl
 | .inl _,.inr _,.inr _,_,_=>rfl
 | .inl _,.inr _,.inl _,_,h2=>by simp [ltK] at h2
 | .inr _,.inl _,_,h1,_=>by simp [ltK] at h1
 | .inr _,.inr _,.inl _,_,h2=>by simp [ltK] at h2
theorem ltK_tri:∀a b,ltK a b=false→a=b∨ltK b a=true
 | .inl a,.inl b,h=>by
  simp only [ltK,decide_eq_true_eq,decide_eq_false_iff_not] at *
  rcases Int.lt_trichotomy a b with x|x|x
  ·exact absurd x h
  ·exact .inl (by rw [x])
  ·exact .inr x
 | .inr a,.inr b,h=>by
  simp only [ltK,decide_eq_true_eq,decide_eq_false_iff_not] at *
  by_cases e:b.cps.toList<a.cps.toList
  ·exact .inr e
  ·exact .inl (congrArg Sum.inr (str_ext (List.le_antisymm (List.not_lt.mp e) (List.not_lt.mp h))))
 | .inl _,.inr _,h=>by simp [ltK] at h
 | .inr _,.inl _,_=> .inr rfl
theorem ltR_irr:∀a,ltR a a=false
 |[]=>rfl
 |x::xs=>by simp [ltR,ltR_irr xs]
theorem ltR_tr:∀{a b c},ltR a b=true→ltR b c=true→ltR a c=true
 |_,[],_,h,_=>by simp [ltR] at h
 |_,_::_,[],_,h=>by simp [ltR] at h
 |[],_::_,_::_,_,_=>rfl
 |x::xs,y::ys,z::zs,h1,h2=>by
  unfold ltR at h1 h2 ⊢
  by_cases e1:x=y
  ·subst e1
   rw [if_pos rfl] at h1
   by_cases e2:x=z
   ·rw [if_pos e2] at h2 ⊢;exact ltR_tr h1 h2
   ·rw [if_neg e2] at h2 ⊢;exact h2
  ·rw [if_neg e1] at h1
   by_cases e2:y=z
   ·subst e2
    rw [if_neg e1];exact h1
   ·rw [if_neg e2] at h2
    have:=ltK_tr h1 h2
    rw [if_neg (fun e=>by rw [e,ltK_irr] at this;cases this)]
    exact this
theorem ltR_tri:∀a b,ltR a b=false→a=b∨ltR b a=true
 |[],[],_=> .inl rfl
 |[],_::_,h=>by simp [ltR] at h
 |_::_,[],_=> .inr rfl
 |x::xs,y::ys,h=>by
  unfold ltR at h ⊢
  by_cases e:x=y
  ·subst e
   rw [if_pos rfl] at h ⊢
   rcases ltR_tri xs ys h with r|r
   ·exact .inl (by rw [r])
   ·exact .inr r
  ·rw [if_neg e] at h
   rw [if_neg (fun z=>e z.symm)]
   exact .inr ((ltK_tri _ _ h).resolve_left e)
theorem ord_rows (f:Nat→List Key):Ord fun i j=>ltR (f i) (f j) where
 asym:=fun a b h=>by
  cases e:ltR (f b) (f a) with
  |false=>rfl
  |true=>have:=ltR_tr h e;rw [ltR_irr] at this;cases this
 ntr:=fun a b c h1 h2=>by
  cases e:ltR (f a) (f c) with
  |false=>rfl
  |true=>
   rcases ltR_tri _ _ h1 with r|r
   ·rw [r,h2] at e;cases e
   ·have:=ltR_tr r e;rw [h2] at this;cases this
def isL:Key→Bool
 | .inl _=>true
 | .inr _=>false
section
variable {prog:Program} {w:World} {A:Around} {E:Value→Shared→Prop} {s:Shared}
theorem key_eq:∀{x y:Key} {u v:Value} {C:Bool→Shared→Prop},isL x=isL y→RelV (kV x) u→RelV (kV y) v→C (decide (x=y)) s→wpAny (model prog w) A (eqBool u v) C E s
 | .inl a,.inl b,_,_,C,_,⟨t,rfl⟩,⟨t',rfl⟩,h=>wpAny_eqBool_int (by
   have:(a==b)=decide ((Sum.inl a:Key)=Sum.inl b):=by simp only [Sum.inl.injEq];rfl
   rw [this];exact h)
 | .inr a,.inr b,_,_,C,_,⟨t,rfl⟩,⟨t',rfl⟩,h=>wpAny_eqBool_str (by
   have:decide (a=b)=decide ((Sum.inr a:Key)=Sum.inr b):=by simp
   rw [this];exact h)
 | .inl _,.inr _,_,_,_,h,_,_,_=>by cases h
 | .inr _,.inl _,_,_,_,h,_,_,_=>by cases h
theorem key_lt:∀{x y:Key} {u v:Value} {b:Bool} {C:Bool→Shared→Prop},isL x=isL y→RelV (kV x) u→RelV (kV y) v→C (ltK x y) s→wpAny (model prog w) A (oneLt' b u v) C E s
 | .inl a,.inl c,_,_,true,C,_,⟨t,rfl⟩,⟨t',rfl⟩,h=>oneLt_int h
 | .inl a,.inl c,_,_,false,C,_,⟨t,rfl⟩,⟨t',rfl⟩,h=>kat_one _ _ (PyProof.Rows.lt_int (show PySem.W.BoolBack C _ s from h))
 | .inr a,.inr c,_,_,true,C,_,⟨t,rfl⟩,⟨t',rfl⟩,h=>oneLt_str h
 | .inr a,.inr c,_,_,false,C,_,⟨t,rfl⟩,⟨t',rfl⟩,h=>kat_one _ _ (PySem.P.lt_str (show PySem.W.BoolBack C _ s from h))
 | .inl _,.inr _,_,_,_,_,h,_,_,_=>by cases h
 | .inr _,.inl _,_,_,_,_,h,_,_,_=>by cases h
theorem lex_go {b fin:Bool} {C:Bool→Shared→Prop} (hf:fin=false):∀{x y:List Key} {us vs:List Value} (i:Nat),x.map isL=y.map isL→Vals (x.map kV) us→Vals (y.map kV) vs→C (ltR x y) s→KatLex prog w A b fin C (us.zip vs) i s
 |[],[],_,_,i,_,.nil,.nil,h=>by subst hf;exact h
 |[],_::_,_,_,_,e,_,_,_=>by cases e
 |_::_,[],_,_,_,e,_,_,_=>by cases e
 |x::xs,y::ys,_,_,i,e,.cons r1 r2,.cons q1 q2,h=>by
  simp only [List.map_cons,List.cons.injEq] at e
  refine kat_cons (key_eq e.1 r1 q1 ?_)
  unfold ltR at h
  by_cases z:x=y
  ·rw [decide_eq_true z]
   rw [if_pos z] at h
   exact kat_yes (lex_go hf (i+1) e.2 r2 q2 h)
  ·rw [decide_eq_false z]
   rw [if_neg z] at h
   exact kat_no (key_lt e.1 r1 q1 h)
end
abbrev Row:=Addr×List Key
def rRef (q:Row):V:= .ref q.1
theorem tups_of {X:Cx} {pins:List (Addr×Obj)} {σ:L2.St} {H:Hp} {s:Shared} (I:Inv X pins σ H s):∀(ps:List Row),(∀q∈ps,SqT X.K H q.1 (q.2.map kV))→(∀q∈ps,q.2≠[])→
  ∃fs,KatTups s.heap (ps.map fun q=>Value.ref q.1) fs∧fs.length=ps.length∧∀v∈fs,∃q∈ps,∃k r,q.2=k::r∧RelV (kV k) v
 |[],_,_=>⟨[],trivial,rfl,fun v h=>nomatch h⟩
 |q::ps,h,h0=>by
  obtain ⟨fs,t,l,f⟩:=tups_of I ps (fun q hq=>h q (.tail _ hq)) fun q hq=>h0 q (.tail _ hq)
  obtain ⟨its,rv,⟨o,ho,hc,n,hd⟩,hz⟩:=I.tuple (h q (.head _))
  cases e:q.2 with
  |nil=>exact absurd e (h0 q (.head _))
  |cons k r=>
   rw [e,List.map_cons] at rv
   cases rv with
   | @cons _ u _ us ru rr=>
    refine ⟨u::fs,.cons ho hc hd (by simp) t,by simp [l],fun v hv=> ?_⟩
    rcases List.mem_cons.mp hv with rfl|hv
    ·exact ⟨q,.head _,k,r,e,ru⟩
    ·obtain ⟨q',h1,k',r',h2,h3⟩:=f v hv
     exact ⟨q',.tail _ h1,k',r',h2,h3⟩
theorem looks_key {M:Model} {h:Heap}:∀{k:Key} {v:Value},RelV (kV k) v→Looks M h (typeOf v) (if isL k=true then Value.type "int" else Value.type "str")
 | .inl i,v,⟨t,e⟩=>by subst e;exact Looks.of_pure rfl
 | .inr x,v,⟨t,e⟩=>by subst e;exact Looks.of_pure rfl
theorem Pm.toList {n:Nat} {p:Array Nat} (h:Pm n p):p.toList.Perm (List.range n):=by
 have:=(Array.perm_iff_toList_perm).mp h
 simpa using this
theorem map_range_getD {α:Type} (l:List α) (d:α):(List.range l.length).map (fun i=>l.getD i d)=l:=by
 refine List.ext_getElem? fun i=> ?_
 simp only [List.getElem?_map]
 by_cases hi:i<l.length
 ·simp [hi]
 ·simp [Nat.le_of_not_lt hi]
theorem Sto.pairwise {lt:Nat→Nat→Bool} {p:Array Nat} {n:Nat} (hz:p.size=n) (h:Sto lt p n):p.toList.Pairwise fun i j=>lt j i=false:=by
 rw [List.pairwise_iff_getElem]
 intro i j hi hj hij
 have:=h i j (Nat.le_of_lt hij) (by simpa [←hz] using hj)
 simp only [Array.length_toList] at hi hj
 have e1:g p i=p.toList[i]:=by simp [g,Array.getD,hi]
 have e2:g p j=p.toList[j]:=by simp [g,Array.getD,hj]
 rw [e1,e2] at this
 exact this
theorem vals_map {α:Type} (f:α→V) (f':α→Value) (hf:∀a,RelV (f a) (f' a)):∀l:List α,Vals (l.map f) (l.map f')
 |[]=> .nil
 |a::l=> .cons (hf a) (vals_map f f' hf l)
theorem sortT_core {X:Cx} {pins:List (Addr×Obj)} {σ:L2.St} {H:Hp} {s:Shared} (I:Inv X pins σ H s) {v:Value} {ps:List Row} {Q:VK} (hT:∀q∈ps,SqT X.K H q.1 (q.2.map kV)) (hS:∀q∈ps,∀q'∈ps,q.2.map isL=q'.2.map isL) (h0:∀q∈ps,q.2≠[]) (h64:ps.length<64)
  (hcol:∀(Q:List Value→Shared→Prop),(∀h1 t1,(∀b o,s.heap.get? b=some o→h1.get? b=some o)→Q (ps.map fun q=>Value.ref q.1) {s with heap:=h1,toks:=t1})→wpAny (model X.prog X.w) X.A.in1 (collect v) Q X.xe s)
  (h:∀(l:Addr) (ps':List Row),H l=none→ps'.Perm ps→ps'.Pairwise (fun a b=>ltR b.2 a.2=false)→Q (.ref l) (upd H l (.lst (ps'.map rRef)))):
  wpAny (model X.prog X.w) X.A (call (.builtin "sorted") [v]) (EP X pins σ Q) X.xe s:=by
 have lz:(ps.map fun q=>Value.ref q.1).length=ps.length:=List.length_map ..
 refine sorted_raw (κ:=tuples' true) (ord_rows fun i=>(ps.getD i (0,[])).2) (fun vs=>vs=ps.map fun q=>Value.ref q.1) (fun vs e=>by rw [e,lz];exact h64) (fun Q hq=>hcol Q fun h1 t1 k=>hq _ h1 t1 rfl k) ?_ ?_ ?_
 ·rintro vs h' t' rfl k l2 Q hq
  rw [lz] at l2
  have I':Inv X pins σ H {s with heap:=h',toks:=t'}:=I.kept k
  obtain ⟨fs,t,l,f⟩:=tups_of I' ps hT h0
  obtain ⟨q0,r0,e0⟩:∃q0 r0,ps=q0::r0:=by
   match ps,l2 with
   |q0::r0,_=>exact ⟨q0,r0,rfl⟩
  have m0:q0∈ps:=by rw [e0];exact .head _
  obtain ⟨k0,r1,e1⟩:∃k0 r1,q0.2=k0::r1:=by
   cases e:q0.2 with
   |nil=>exact absurd e (h0 q0 m0)
   |cons k r=>exact ⟨k,r,rfl⟩
  refine kat_kind (s:={s with heap:=h',toks:=t'}) (T:=if isL k0=true then Value.type "int" else Value.type "str") t (by omega) (fun v hv=> ?_) (by split<;> rfl) ?_
  ·obtain ⟨q,hq,k',r',e',rk⟩:=f v hv
   have:=hS q hq q0 m0
   rw [e',e1] at this
   simp only [List.map_cons,List.cons.injEq] at this
   rw [←this.1]
   exact looks_key rk
  ·have:((if isL k0=true then Value.type "int" else Value.type "str") !=Value.type "tuple")=true:=by split<;> rfl
   rw [this];exact hq
 ·rintro vs h' t' rfl k i j C hi hj hC
  rw [lz] at hi hj
  have I':Inv X pins σ H {s with heap:=h',toks:=t'}:=I.kept k
  show wpAny _ _ (keyLt' _ ((ps.map fun q=>Value.ref q.1).getD i Value.none) ((ps.map fun q=>Value.ref q.1).getD j Value.none)) C _ _
  have ei:(ps.map fun q=>Value.ref q.1).getD i Value.none=Value.ref ps[i].1:=by simp [hi]
  have ej:(ps.map fun q=>Value.ref q.1).getD j Value.none=Value.ref ps[j].1:=by simp [hj]
  have fi:ps.getD i (0,[])=ps[i]:=by simp [hi]
  have fj:ps.getD j (0,[])=ps[j]:=by simp [hj]
  rw [ei,ej]
  rw [fi,fj] at hC
  obtain ⟨ui,ri,⟨oi,hoi,hci,ni,hdi⟩,zi⟩:=I'.tuple (hT ps[i] (List.getElem_mem hi))
  obtain ⟨uj,rj,⟨oj,hoj,hcj,nj,hdj⟩,zj⟩:=I'.tuple (hT ps[j] (List.getElem_mem hj))
  have sh:=hS _ (List.getElem_mem hi) _ (List.getElem_mem hj)
  have el:ui.length=uj.length:=by
   rw [←ri.length,←rj.length,List.length_map,List.length_map]
   simpa using congrArg List.length sh
  refine kat_lt hoi hdi hoj hdj (lex_go (by simp [el]) 0 sh ri rj hC)
 ·rintro vs p h1 h' t' l e rfl pm st k1 k zl hl
  have I:Inv X pins σ H {s with heap:=h1,toks:=t'}:=I.kept k1
  have pl:=pm.toList
  rw [lz] at pl pm st
  have hz:=pm.size
  have mem:∀i∈p.toList,i<ps.length:=fun i hi=>by simpa using pl.mem_iff.mp hi
  have e1:(p.toList.map fun i=>(ps.map fun q=>Value.ref q.1).getD i Value.none)=(p.toList.map fun i=>ps.getD i (0,[])).map fun q=>Value.ref q.1:=by
   rw [List.map_map]
   refine List.map_congr_left fun i hi=> ?_
   have:=mem i hi
   simp [this]
  rw [e1] at hl
  have pp:(p.toList.map fun i=>ps.getD i (0,[])).Perm ps:=by
   have:=pl.map (fun i=>ps.getD i ((0,[]):Row))
   rwa [map_range_getD] at this
  have pw:(p.toList.map fun i=>ps.getD i ((0,[]):Row)).Pairwise (fun a b=>ltR b.2 a.2=false):=by
   rw [List.pairwise_map]
   exact st.pairwise hz
  refine ⟨.ref l,_,I.laid (t':=t') (o:= .lst ((p.toList.map fun i=>ps.getD i (0,[])).map rRef)) k zl ⟨?_,_,e,vals_map rRef (fun q=>Value.ref q.1) (fun _=>rfl) _,hl⟩,rfl,h l _ (I.hok.fresh zl) pp pw⟩
  rw [List.length_map,pp.length_eq,sizeLine_eq]
  omega
end Srt
namespace Srt
open PySem PySem.W PyProof.Rows L2
structure RowsOk (K:PySem.W.Frag) (H:Hp) (ps:List Row):Prop where
 at':∀q∈ps,SqT K H q.1 (q.2.map kV)
 sh:∀q∈ps,∀q'∈ps,q.2.map isL=q'.2.map isL
 ne:∀q∈ps,q.2≠[]
 few:ps.length<64
section
variable {X:Cx}
def viewO (d:Addr):Obj:={cls:= .type "dict_values",data:= .fields #[.ref d]}
theorem vals_acc {kvs:List (Key×V)} {vs:List (Key×Value)} {ps:List Row} (rel:KV kvs vs) (e:kvs.map (·.2)=ps.map rRef):vs.map (·.2)=ps.map fun q=>Value.ref q.1:=by
 induction rel generalizing ps with
 |nil=>
  cases ps with
  |nil=>rfl
  |cons _ _=>cases e
 | @cons a b l1 l2 r t ih=>
  cases ps with
  |nil=>cases e
  |cons q ps=>
   simp only [List.map_cons,List.cons.injEq] at e ⊢
   refine ⟨?_,ih e.2⟩
   have:=r.2
   rw [e.1] at this
   exact this
theorem call_sortedV (hc:X.calm=true):CallR X (.builtin "sorted") (fun xs H Q=>∃(v d:Addr) (kvs:List (Key×V)) (ps:List Row),xs=[.ref v]∧H v=some (.frz (viewO d) (.own 0))∧H d=some (.dK kvs)∧kvs.map (·.2)=ps.map rRef∧RowsOk X.K H ps∧∀(l:Addr) (ps':List Row),H l=none→ps'.Perm ps→ps'.Pairwise (fun a b=>ltR b.2 a.2=false)→Q (.ref l) (upd H l (.lst (ps'.map rRef)))):=by
 intro pins s σ H xs us Q I r h
 obtain ⟨v,d,kvs,ps,rfl,hv,hd,e,ok,q⟩:=h
 obtain ⟨u,rfl,rx⟩:=Cy r
 cases rx
 obtain ⟨z,lo,vs,rel,dd⟩:=dk_of I.hok hd
 obtain ⟨ep,hat⟩:=dd.dictAt
 obtain ⟨ho,_⟩:=(show ObjOk X.prog X.w H s.heap v (.frz (viewO d) (.own 0)) from I.hok v _ hv)
 refine sortT_core I ok.at' ok.sh ok.ne ok.few (fun Q hq=> ?_) q
 refine kdu_collect (A:=X.A.in1) (kdl_values (knd:=Bj X.prog X.w) (r:=v) (kvs:=vs) (ep:=ep)) (I.ok.hd hc) ⟨⟨_,ho,rfl,rfl⟩,hat⟩ (by rw [←rel.length];exact z) fun h' tk acc hk hacc=> ?_
 have ea:acc.toList=ps.map fun q=>Value.ref q.1:=by
  rw [←vals_acc rel e]
  refine List.ext_getElem? fun i=> ?_
  rw [List.getElem?_map]
  by_cases hi:i<vs.length
  ·have hi':i<acc.size:=by rw [hacc.1];exact hi
   obtain ⟨k,hx⟩:=hacc.2 i acc[i] (by simp [hi'])
   rw [hx]
   simp [hi']
  ·rw [List.getElem?_eq_none (by rw [Array.length_toList,hacc.1];exact Nat.not_lt.mp (by assumption)),List.getElem?_eq_none (by exact Nat.not_lt.mp (by assumption))]
   rfl
 rw [ea]
 exact hq h' tk hk
theorem call_sortedD (hc:X.calm=true):CallR X (.builtin "sorted") (fun xs H Q=>∃(d:Addr) (kvs:List (Key×V)) (ns:List Str),xs=[.ref d]∧H d=some (.dK kvs)∧kvs.map (·.1)=ns.map Sum.inr∧ns.length<64∧∀(l:Addr) (ns':List Str),H l=none→ns'.Perm ns→ns'.Pairwise (fun a b=>ltK (.inr b) (.inr a)=false)→Q (.ref l) (upd H l (.lst (ns'.map V.str)))):=by
 intro pins s σ H xs us Q I r h
 obtain ⟨d,kvs,ns,rfl,hd,e,h64,q⟩:=h
 obtain ⟨u,rfl,rx⟩:=Cy r
 cases rx
 obtain ⟨z,lo,vs,rel,dd⟩:=dk_of I.hok hd
 obtain ⟨ep,hat⟩:=dd.dictAt
 have ek:vs.map (·.1)=ns.map Sum.inr:=by
  rw [←e]
  clear hat dd e q z hd
  induction rel with
  |nil=>rfl
  |cons r t ih=>rw [List.map_cons,List.map_cons,ih,r.1]
 have len:vs.length=ns.length:=by simpa using congrArg List.length ek
 refine sorted_raw (κ:=oneType') (ord_rows fun i=>[Sum.inr (ns.getD i default)]) (fun us=>Vals (ns.map V.str) us) (fun us hu=>by have:=hu.length;rw [List.length_map] at this;omega) (fun Q hq=> ?_) ?_ ?_ ?_
 ·refine kdu_collect (A:=X.A.in1) (kdl_dict (knd:=Bj X.prog X.w) (kvs:=vs) (ep:=ep) lo) (I.ok.hd hc) hat (by rw [←rel.length];exact z) fun h' tk acc hk hacc=>hq _ h' tk ?_ hk
  have go:∀(vs:List (Key×Value)) (ns:List Str) (us:List Value),vs.map (·.1)=ns.map Sum.inr→us.length=vs.length→(∀(j:Nat) (u:Value),us[j]? =some u→∃k x,vs[j]? =some (k,x)∧(Bj X.prog X.w).is k u=true)→Vals (ns.map V.str) us:=by
   intro vs
   induction vs with
   |nil=>
    intro ns us e1 e2 _
    cases ns with
    |nil=>cases us with
     |nil=>exact .nil
     |cons _ _=>cases e2
    |cons _ _=>cases e1
   |cons p vs ih=>
    intro ns us e1 e2 h
    cases ns with
    |nil=>cases e1
    |cons n ns=>
     cases us with
     |nil=>cases e2
     |cons u us=>
      simp only [List.map_cons,List.cons.injEq] at e1
      refine .cons ?_ (ih ns us e1.2 (by simpa using e2) fun j u hj=>h (j+1) u (by simpa using hj))
      obtain ⟨k,x,hx,hk⟩:=h 0 u rfl
      simp only [List.getElem?_cons_zero,Option.some.injEq] at hx
      have:k=Sum.inr n:=by rw [←e1.1,hx]
      subst this
      rcases Bp (show keyIs (Sum.inr n) u=true from hk) with ⟨i,t,a,_⟩|⟨y,t,a,b⟩
      ·cases a
      ·cases a;exact ⟨t,b⟩
  exact go vs ns acc.toList ek (by rw [Array.length_toList];exact hacc.1) fun j u hj=>hacc.2 j u (by rw [←Array.getElem?_toList];exact hj)
 ·intro us h' t' hu k l2 Q hq
  refine kas_kind (s:={s with heap:=h',toks:=t'}) (T:=Value.type "str") l2 (fun v hv=> ?_) rfl rfl hq
  clear hq l2
  have:∀{ns:List Str} {us:List Value},Vals (ns.map V.str) us→∀v∈us,∃x t,v=Value.str x t:=by
   intro ns
   induction ns with
   |nil=>intro us hu v hv;cases hu;cases hv
   |cons n ns ih=>
    intro us hu v hv
    cases hu with
    |cons r t=>
     rcases List.mem_cons.mp hv with rfl|hv
     ·obtain ⟨t,rfl⟩:=r;exact ⟨_,_,rfl⟩
     ·exact ih t v hv
  obtain ⟨x,t,rfl⟩:=this hu v hv
  exact Looks.of_pure rfl
 ·intro us h' t' hu k i j C hi hj hC
  have lu:=hu.length
  rw [List.length_map] at lu
  obtain ⟨a,ha,ra⟩:=Vals.get hu (i:=i) (x:=V.str (ns.getD i default)) (by simp [show i<ns.length by omega])
  obtain ⟨b,hb,rb⟩:=Vals.get hu (i:=j) (x:=V.str (ns.getD j default)) (by simp [show j<ns.length by omega])
  show wpAny _ _ (keyLt' oneType' (us.getD i Value.none) (us.getD j Value.none)) C _ _
  have e1:us.getD i Value.none=a:=by simp [List.getD,ha]
  have e2:us.getD j Value.none=b:=by simp [List.getD,hb]
  rw [e1,e2,keyLt'_oneType]
  refine key_lt (x:=Sum.inr (ns.getD i default)) (y:=Sum.inr (ns.getD j default)) rfl ra rb ?_
  have:ltR [Sum.inr (ns.getD i default)] [Sum.inr (ns.getD j default)]=ltK (Sum.inr (ns.getD i default)) (Sum.inr (ns.getD j default)):=by
   unfold ltR
   split
   ·rename_i e;rw [e,ltK_irr];rfl
   ·rfl
  rw [←this];exact hC
 ·intro us p h1 h' t' l e hu pm st k1 k zl hl
  have lu:=hu.length
  rw [List.length_map] at lu
  have I:L2.Inv X pins σ H {s with heap:=h1,toks:=t'}:=I.kept k1
  rw [←lu] at pm st
  have pl:=pm.toList
  have pp:(p.toList.map fun i=>ns.getD i default).Perm ns:=by
   have:=pl.map (fun i=>ns.getD i (default:Str))
   rwa [map_range_getD] at this
  have pw:(p.toList.map fun i=>ns.getD i (default:Str)).Pairwise (fun a b=>ltK (.inr b) (.inr a)=false):=by
   rw [List.pairwise_map]
   refine (st.pairwise pm.size).imp fun {a b} hab=> ?_
   unfold ltR at hab
   split at hab
   ·rename_i e;rw [e];exact ltK_irr _
   ·exact hab
  have mem:∀i∈p.toList,i<ns.length:=fun i hi=>by simpa using pl.mem_iff.mp hi
  have vv:Vals ((p.toList.map fun i=>ns.getD i default).map V.str) (p.toList.map fun i=>us.getD i Value.none):=by
   clear hl pw pp pl st pm
   generalize p.toList=il at mem
   induction il with
   |nil=>exact .nil
   |cons i il ih=>
    refine .cons ?_ (ih fun j hj=>mem j (.tail _ hj))
    have hi:=mem i (.head _)
    obtain ⟨a,ha,ra⟩:=Vals.get hu (i:=i) (x:=V.str (ns.getD i default)) (by simp [hi])
    have e1:us.getD i Value.none=a:=by simp [List.getD,ha]
    show L2.RelV (V.str (ns.getD i default)) (us.getD i Value.none)
    rw [e1];exact ra
  refine ⟨.ref l,_,I.laid (t':=t') (o:= .lst ((p.toList.map fun i=>ns.getD i default).map V.str)) k zl ⟨?_,_,e,vv,hl⟩,rfl,q l _ (I.hok.fresh zl) pp pw⟩
  rw [List.length_map,pp.length_eq,sizeLine_eq]
  omega
def tDVals (td:TE):TE:=fun σ H Q=>td σ H fun x H1=>∃a kvs,x= .ref a∧H1 a=some (.dK kvs)∧∀v,H1 v=none→Q (.ref v) (upd H1 v (.frz (viewO a) (.own 0)))
theorem pe_dvals {o:Expr} {td:TE} {apos cpos:Pos} (ho:PE X o td) (hbase:attributeBase o "values" X.env (eval o X.env)=eval o X.env) (hline:(apos.endLine==cpos.line)=true):PE X (.Call (.Attribute o "values" apos) [] [] cpos) (tDVals td):=by
 intro pins s σ H Q I h
 refine wpAny_Call_method hbase rfl hline PySem.F.plainAttrs_dict PySem.F.slot_dict_values PySem.F.type_dict_values (thn (ho pins s σ H _ I h) fun u s1 ⟨x,H1,I1,rx,a,kvs,ex,d,q1⟩=> ?_)
 subst ex
 obtain rfl:u=Value.ref a:=rx
 obtain ⟨t1,t2,_⟩:=isD_at I1 (.inl ⟨kvs,.inl d⟩)
 refine ⟨t1,t2,?_⟩
 obtain ⟨z,lo,vs,rel,dd⟩:=dk_of I1.hok d
 refine Calls.callWith_builtin rfl (PySem.evalArgs_none ?_)
 exact call_meetsIn PySem.F.slot_dict_values dd.typeIs PySem.F.entry_dict_values (PySem.F.args_dict_values_1 _) (meets_dict_values (Bj X.prog X.w) a lo) ⟨⟨vs,dd⟩,.ref s1.heap.objs.size,_,I1.laid (t':=s1.toks) (o:= .frz (viewO a) (.own 0)) (fun _ _ q=>Heap.get?_push_of_some _ q) (Nat.le_refl _) ⟨Heap.get?_push_size _ rfl,_,Heap.get?_push_size _ rfl⟩,rfl,q1 _ I1.fresh⟩
end
end Srt
namespace L2
open PySem PySem.Spec PyProof.Rows
end L2
namespace L2
open PySem PySem.Spec PyProof.Rows
end L2
namespace PySem
end PySem
namespace PySem
end PySem
namespace L2
open PySem PySem.Spec PyProof.Rows
end L2
namespace HT
open PySem PyProof.Rows
end HT
namespace L2
open PySem PySem.Spec PyProof.Rows
end L2
namespace HT
open PySem PyProof.Rows L2
section
open PySem.SeqAt
open PySem.AutoSeq1 (wpAny_loadPart')
open PySem.MeetsSeq PySem.MeetsSeq2 PySem.MeetsSeq3
end
end HT
namespace L2
open PySem PySem.Spec PyProof.Rows
section
variable {X:Cx}
inductive RIndexSP (x:V) (vs:List V) (H:Hp) (Q:VK):Prop
 |mk (z y:Str) (i:Nat) (rest:List Nat):(x= .str z)→(vs=[.str y])→(Builtin.Str.occurrences z y 0 z.length 1=i::rest)→(Q (.int i) H)→RIndexSP x vs H Q
def rIndexS:V→List V→Hp→VK→Prop:=fun x vs H Q=>RIndexSP x vs H Q
theorem mt_indexS:MtM X "str.index" rIndexS:=by
 intro pins s σ H x xs v us Q I rx r h
 obtain ⟨z,y,i,rest,rfl,rfl,ho,q⟩:=h
 obtain ⟨t,rfl⟩:=rx
 obtain ⟨u,rfl,⟨t2,rfl⟩⟩:=Cy r
 refine call_gives PySem.F.slot_str_index (typeIs_str _ _ _) PySem.F.entry_str_index (PySem.F.args_str_index_2 _ _) (gives_str_index z y t t2 i rest ho) ?_
 exact ⟨.int i,H,I.tok _,⟨_,rfl⟩,q⟩
end
end L2
namespace L2
open PySem PySem.Spec PyProof.Rows
theorem op_neNil {X:Cx} (hu:X.A.units+64<cLine):OpR X (compareOp .NotEq) (fun x y H Q=>∃(a b:Addr) (xs:List V),x= .ref a∧y= .ref b∧SqL X.K H a xs∧SqL X.K H b []∧Q (.bl (!xs.isEmpty)) H):=by
 intro pins s σ H x y u v Q I rx ry h
 obtain ⟨a,b,xs,rfl,rfl,ha,hb,q⟩:=h
 cases rx
 cases ry
 cases xs with
 |nil=>exact op_neD hu pins s σ H (.ref a) (.ref b) _ _ Q I rfl rfl ⟨.list [],.list [],.lst ha .nil,.lst hb .nil,rfl,rfl,by decide,q⟩
 |cons x xs=>
  obtain ⟨its,r1,h1,_⟩:=I.list ha
  obtain ⟨its2,r2,h2,_⟩:=I.list hb
  have l1:=r1.length
  have l2:=r2.length
  refine SeqAt.RcNeAt.lists_lengths h1.isList h2.isList (by simp at l1 l2 ⊢;omega) (by omega) X.prog X.w _ _ ⟨.bl _,H,I,rfl,q⟩
end L2
namespace L2
open PySem PySem.Spec PyProof.Rows
theorem for_enumT {K:PySem.W.Frag} {a:Addr} {xs:List V} {g:TG} {tb:TS} {D:Ends} {σ:St} {H:Hp} (Pv:Nat→St→Hp→Prop) (h0:Pv 0 σ H) (hl:∀i σ H,i≤xs.length→Pv i σ H→SqT K H a xs)
  (hs:∀i x σ H T,xs[i]? =some x→Pv i σ H→H T=none→g (.ref T) σ (upd H T (.tup [.int (i:Nat),x])) fun σ2 H2=>tb {D with nx:=Pv (i+1),ct:=Pv (i+1),bk:=D.nx} σ2 H2) (hd:∀σ H,Pv xs.length σ H→D.nx σ H):
  ∃W:Nat→Nat→St→Hp→Prop,(∃m,W 0 m σ H)∧∀i m σ H,W i m σ H→
   ((IteT K a).stop i H∧D.nx σ H)∨((IteT K a).go i H∧∃N:St→Hp→Prop,(∀σ' H',N σ' H'→∃m',m'<m∧W (i+1) m' σ' H')∧∀x H',(IteT K a).yld i H x H'→g x σ H' fun σ2 H2=>tb {D with nx:=N,ct:=N,bk:=D.nx} σ2 H2):=by
 refine ⟨fun i m σ H=>m=xs.length - i∧i≤xs.length∧Pv i σ H,⟨xs.length,by simp,Nat.zero_le _,h0⟩,?_⟩
 rintro i m σ H ⟨rfl,hi,p⟩
 have q:=hl i σ H hi p
 by_cases hlt:i<xs.length
 ·refine .inr ⟨⟨xs,xs[i],q,by simp [hlt]⟩,Pv (i+1),fun σ' H' p'=>⟨xs.length - (i+1),by omega,rfl,hlt,p'⟩,fun x H' y=> ?_⟩
  obtain ⟨T,z,hT,rfl,rfl,y⟩:=y
  exact hs i z σ H T (y xs q) p hT
 ·have e:i=xs.length:=by omega
  subst e
  exact .inl ⟨⟨xs,q,rfl⟩,hd σ H p⟩
end L2
namespace L2
open PySem PySem.Spec PyProof.Rows
theorem op_neDict {X:Cx} (hu:X.A.units<cLine):OpR X (compareOp .NotEq) (fun x y H Q=>∃(a b:Addr) (kvs:List (Key×V)),x= .ref a∧y= .ref b∧H a=some (.dK kvs)∧H b=some (.dK [])∧Q (.bl (!kvs.isEmpty)) H):=by
 intro pins s σ H x y u v Q I rx ry h
 obtain ⟨a,b,kvs,rfl,rfl,ha,hb,q⟩:=h
 cases rx
 cases ry
 obtain ⟨z,lo,vs,rel,dd⟩:=dk_of I.hok ha
 obtain ⟨z2,lo2,vs2,rel2,dd2⟩:=dk_of I.hok hb
 cases rel2
 have e:=rel.length
 refine PySem.W.keq_ne (r:=true) lo lo2 dd dd2 hu (fun l=> ?_) ⟨.bl (!kvs.isEmpty),H,I,?_,q⟩
 ·have:vs=[]:=List.length_eq_zero_iff.mp l
  subst this
  exact .nil
 ·have:(!(vs.length==([]:List (Key×Value)).length && true))= !kvs.isEmpty:=by
   cases kvs with
   |nil=>cases rel;rfl
   |cons _ _=>cases rel;rfl
  rw [this]
  rfl
end L2
namespace PySem
open PyProof.Rows
end PySem
namespace L2
open PySem PySem.Spec PyProof.Rows
end L2
namespace PySem
open PyProof.Rows
namespace F
end F
end PySem
namespace L2
open PySem PySem.Spec PyProof.Rows
end L2
namespace Wk
open PySem
abbrev T4:=Str×Nat×Nat×Int
def nbT (v:Nat) (t:T4):List (Str×Nat):=(if t.2.1=v then [(t.1,t.2.2.1)] else [])++(if t.2.2.1=v then [(t.1,t.2.1)] else [])
def Br (S:List T4) (v:Nat):List (Str×Nat):=S.flatMap (nbT v)
abbrev Ws:=List (Option (List Str))
def Bt (w:List Str):List (Str×Nat)→Ws×List Nat→Ws×List Nat
 |[],st=>st
 |(n,u)::r,st=>if st.1[u]? =some none then Bt w r (st.1.set u (some (w++[n])),st.2++[u]) else Bt w r st
def bstep (S:List T4) (st:Ws×List Nat):Ws×List Nat:=
 match st.2 with
 |[]=>st
 |h::rest=>Bt ((st.1[h]?.join).getD []) (Br S h) (st.1,rest)
def Ca (N p:Nat):Ws×List Nat:=((List.replicate N none).set p (some []),[p])
def iter (S:List T4):Nat→Ws×List Nat→Ws×List Nat
 |0,st=>st
 |n+1,st=>iter S n (bstep S st)
def waysF (N:Nat) (S:List T4) (p:Nat):Ws:=(iter S 64 (Ca N p)).1
theorem iter_nil {S:List T4}:∀(n:Nat) {ws:Ws},iter S n (ws,[])=(ws,[])
 |0,_=>rfl
 |n+1,ws=>iter_nil n (ws:=ws)
theorem iter_snoc {S:List T4}:∀(n:Nat) (st:Ws×List Nat),iter S (n+1) st=bstep S (iter S n st)
 |0,st=>rfl
 |n+1,st=>iter_snoc n (bstep S st)
theorem iter_add {S:List T4} (m:Nat):∀(n:Nat) (st:Ws×List Nat),iter S (n+m) st=iter S m (iter S n st)
 |0,st=>by rw [Nat.zero_add];rfl
 |n+1,st=>by rw [show n+1+m=(n+m)+1 by omega];exact iter_add m n (bstep S st)
theorem ways_of {N p i:Nat} {S:List T4} {ws:Ws} (h:iter S i (Ca N p)=(ws,[])) (hi:i≤64):waysF N S p=ws:=by
 unfold waysF
 rw [show 64=i+(64 - i) by omega,iter_add,h,iter_nil]
inductive Lead (S:List T4) (a:Nat):List Str→Nat→Prop
 |nil:Lead S a [] a
 |snoc {ws:List Str} {b c:Nat} {n:Str}:Lead S a ws b→(n,c)∈Br S b→Lead S a (ws++[n]) c
def Cq (ws:Ws):Nat:=ws.countP (·==none)
def Vis (ws:Ws) (v:Nat) (w:List Str):Prop:=ws[v]? =some (some w)
structure PInv (S:List T4) (N p h:Nat) (w:List Str) (st:Ws×List Nat):Prop where
 len:st.1.length=N
 lead:∀v x,Vis st.1 v x→Lead S p x v
 vis:∀v∈st.2,∃x,Vis st.1 v x
 done:∀v x,Vis st.1 v x→v∈st.2∨v=h∨∀nb∈Br S v,∃y,Vis st.1 nb.2 y∧y.length≤x.length+1
 sorted:st.2.Pairwise fun a b=>∀x y,Vis st.1 a x→Vis st.1 b y→x.length≤y.length
 top:∀v x b y,Vis st.1 v x→b∈st.2→Vis st.1 b y→x.length≤y.length+1
 hv:Vis st.1 h w
 ht:∀v x,Vis st.1 v x→x.length≤w.length+1
 hb:∀b y,b∈st.2→Vis st.1 b y→w.length≤y.length
theorem Bm {ws:Ws} {u:Nat} {z:List Str} (hu:ws[u]? =some none) {v:Nat} {x:List Str}:Vis (ws.set u (some z)) v x↔(v=u∧x=z)∨Vis ws v x:=by
 unfold Vis
 have hl:u<ws.length:=(List.getElem?_eq_some_iff.mp hu).1
 rw [List.getElem?_set]
 by_cases e:u=v
 ·subst e
  rw [if_pos rfl,if_pos hl,hu]
  constructor
  ·intro q;left;exact ⟨rfl,by simpa using q.symm⟩
  ·rintro (⟨_,rfl⟩|q)
   ·rfl
   ·simp at q
 ·rw [if_neg e]
  constructor
  ·exact .inr
  ·rintro (⟨rfl,_⟩|q)
   ·exact absurd rfl e
   ·exact q
theorem vis_inj {ws:Ws} {v:Nat} {x y:List Str} (a:Vis ws v x) (b:Vis ws v y):x=y:=by
 unfold Vis at a b;rw [a] at b;simpa using b
theorem visit_ok {S:List T4} {N p h:Nat} {w:List Str}:∀(L:List (Str×Nat)) (st:Ws×List Nat),PInv S N p h w st→(∀nb∈L,nb∈Br S h∧nb.2<N)→
  PInv S N p h w (Bt w L st)∧(∀v x,Vis st.1 v x→Vis (Bt w L st).1 v x)∧(∀nb∈L,∃y,Vis (Bt w L st).1 nb.2 y∧y.length≤w.length+1)∧Cq (Bt w L st).1+(Bt w L st).2.length=Cq st.1+st.2.length
 |[],st,I,_=>⟨I,fun _ _ e=>e,fun nb h=>(by cases h),rfl⟩
 |(n,u)::r,st,I,hL=>by
  have hr:∀nb∈r,nb∈Br S h∧nb.2<N:=fun nb q=>hL nb (List.mem_cons_of_mem _ q)
  have hn:=hL (n,u) (List.mem_cons_self ..)
  have hu:u<st.1.length:=by rw [I.len];exact hn.2
  unfold Bt
  by_cases e:st.1[u]? =some none
  ·rw [if_pos e]
   have I':PInv S N p h w (st.1.set u (some (w++[n])),st.2++[u]):=by
    have nu:∀x,¬Vis st.1 u x:=fun x q=>by unfold Vis at q;rw [e] at q;simp at q
    refine ⟨by simp [I.len],?_,?_,?_,?_,?_,?_,?_,?_⟩
    ·intro v x q
     rcases (Bm e).mp q with ⟨rfl,rfl⟩|q
     ·exact .snoc (I.lead h w I.hv) hn.1
     ·exact I.lead v x q
    ·intro v q
     rcases List.mem_append.mp q with q|q
     ·obtain ⟨x,hx⟩:=I.vis v q;exact ⟨x,(Bm e).mpr (.inr hx)⟩
     ·rw [List.mem_singleton.mp q];exact ⟨_,(Bm e).mpr (.inl ⟨rfl,rfl⟩)⟩
    ·intro v x q
     rcases (Bm e).mp q with ⟨rfl,rfl⟩|q
     ·exact .inl (List.mem_append_right _ (List.mem_singleton.mpr rfl))
     ·rcases I.done v x q with a|a|a
      ·exact .inl (List.mem_append_left _ a)
      ·exact .inr (.inl a)
      ·exact .inr (.inr fun nb hb=>let ⟨y,hy,hl⟩:=a nb hb;⟨y,(Bm e).mpr (.inr hy),hl⟩)
    ·refine List.pairwise_append.mpr ⟨?_,List.pairwise_singleton ..,?_⟩
     ·refine (List.Pairwise.imp_of_mem ?_ I.sorted)
      intro a b ha hb k x y hx hy
      have hx':Vis st.1 a x:=by
       rcases (Bm e).mp hx with ⟨rfl,_⟩|q
       ·obtain ⟨z,hz⟩:=I.vis _ ha;exact absurd hz (nu z)
       ·exact q
      have hy':Vis st.1 b y:=by
       rcases (Bm e).mp hy with ⟨rfl,_⟩|q
       ·obtain ⟨z,hz⟩:=I.vis _ hb;exact absurd hz (nu z)
       ·exact q
      exact k x y hx' hy'
     ·intro a ha b hb x y hx hy
      rw [List.mem_singleton.mp hb] at hy
      rcases (Bm e).mp hy with ⟨_,rfl⟩|q
      ·rcases (Bm e).mp hx with ⟨_,rfl⟩|q
       ·exact Nat.le_refl _
       ·have:=I.ht a x q;simp only [List.length_append,List.length_cons,List.length_nil];assumption
      ·exact absurd q (nu y)
    ·intro v x b y hx hb hy
     have hx1:x.length≤w.length+1:=by
      rcases (Bm e).mp hx with ⟨_,rfl⟩|q
      ·simp
      ·exact I.ht v x q
     have hy1:w.length≤y.length:=by
      rcases (Bm e).mp hy with ⟨_,rfl⟩|q
      ·simp
      ·rcases List.mem_append.mp hb with hb|hb
       ·exact I.hb b y hb q
       ·rw [List.mem_singleton.mp hb] at q;exact absurd q (nu y)
     omega
    ·exact (Bm e).mpr (.inr I.hv)
    ·intro v x hx
     rcases (Bm e).mp hx with ⟨_,rfl⟩|q
     ·simp
     ·exact I.ht v x q
    ·intro b y hb hy
     rcases (Bm e).mp hy with ⟨_,rfl⟩|q
     ·simp
     ·rcases List.mem_append.mp hb with hb|hb
      ·exact I.hb b y hb q
      ·rw [List.mem_singleton.mp hb] at q;exact absurd q (nu y)
   obtain ⟨a,b,c,d⟩:=visit_ok r _ I' hr
   refine ⟨a,fun v x q=>b v x ((Bm e).mpr (.inr q)),fun nb q=> ?_,?_⟩
   ·rcases List.mem_cons.mp q with rfl|q
    ·exact ⟨_,b _ _ ((Bm e).mpr (.inl ⟨rfl,rfl⟩)),by simp⟩
    ·exact c nb q
   ·rw [d]
    have:Cq (st.1.set u (some (w++[n])))+1=Cq st.1:=by
     unfold Cq
     have hg:st.1[u]=none:=by have:=List.getElem?_eq_some_iff.mp e;exact this.2
     rw [List.countP_set (h:=hu),hg]
     have:0<st.1.countP (·==none):=List.countP_pos_iff.mpr ⟨none,by rw [←hg];exact List.getElem_mem hu,rfl⟩
     simp only [beq_self_eq_true,if_true]
     show st.1.countP (·==none) - 1+0+1=_
     omega
    simp only [List.length_append,List.length_cons,List.length_nil]
    omega
  ·rw [if_neg e]
   obtain ⟨a,b,c,d⟩:=visit_ok r st I hr
   refine ⟨a,b,fun nb q=> ?_,d⟩
   rcases List.mem_cons.mp q with rfl|q
   ·have:∃y,Vis st.1 u y:=by
     cases hh:st.1[u]? with
     |none=>rw [List.getElem?_eq_getElem hu] at hh;cases hh
     |some z=>cases z with
      |none=>exact absurd hh e
      |some y=>exact ⟨y,hh⟩
    obtain ⟨y,hy⟩:=this
    exact ⟨y,b _ _ hy,I.ht _ _ hy⟩
   ·exact c nb q
structure BInv (S:List T4) (N p:Nat) (st:Ws×List Nat):Prop where
 len:st.1.length=N
 p0:Vis st.1 p []
 lead:∀v x,Vis st.1 v x→Lead S p x v
 vis:∀v∈st.2,∃x,Vis st.1 v x
 done:∀v x,Vis st.1 v x→v∈st.2∨∀nb∈Br S v,∃y,Vis st.1 nb.2 y∧y.length≤x.length+1
 sorted:st.2.Pairwise fun a b=>∀x y,Vis st.1 a x→Vis st.1 b y→x.length≤y.length
 top:∀v x b y,Vis st.1 v x→b∈st.2→Vis st.1 b y→x.length≤y.length+1
def InN (N:Nat) (S:List T4):Prop:=∀t∈S,t.2.1<N∧t.2.2.1<N
theorem nb_lt {N:Nat} {S:List T4} (h:InN N S) {v:Nat} {nb:Str×Nat} (q:nb∈Br S v):nb.2<N:=by
 obtain ⟨t,ht,q⟩:=List.mem_flatMap.mp q
 have:=h t ht
 unfold nbT at q
 rcases List.mem_append.mp q with q|q
 ·split at q
  ·rw [List.mem_singleton.mp q];exact this.2
  ·cases q
 ·split at q
  ·rw [List.mem_singleton.mp q];exact this.1
  ·cases q
theorem binv0 {S:List T4} {N p:Nat} (hp:p<N):BInv S N p (Ca N p):=by
 have hu:(List.replicate N (none:Option (List Str)))[p]? =some none:=by rw [List.getElem?_replicate];rw [if_pos hp]
 have nv:∀v x,¬Vis (List.replicate N (none:Option (List Str))) v x:=fun v x q=>by
  unfold Vis at q;rw [List.getElem?_replicate] at q;split at q<;> simp at q
 have key:∀v x,Vis (Ca N p).1 v x→v=p∧x=[]:=fun v x q=>by
  rcases (Bm hu).mp q with q|q
  ·exact q
  ·exact absurd q (nv v x)
 refine ⟨by simp [Ca],(Bm hu).mpr (.inl ⟨rfl,rfl⟩),?_,?_,?_,?_,?_⟩
 ·intro v x q;obtain ⟨rfl,rfl⟩:=key v x q;exact .nil
 ·intro v q;rw [List.mem_singleton.mp q];exact ⟨_,(Bm hu).mpr (.inl ⟨rfl,rfl⟩)⟩
 ·intro v x q;obtain ⟨rfl,rfl⟩:=key v x q;exact .inl (List.mem_singleton.mpr rfl)
 ·exact List.pairwise_singleton ..
 ·intro v x b y q _ q2;obtain ⟨rfl,rfl⟩:=key v x q;simp
theorem binit_vis {N p:Nat} (hp:p<N) {v:Nat} {x:List Str} (q:Vis (Ca N p).1 v x):x=[]:=by
 have hu:(List.replicate N (none:Option (List Str)))[p]? =some none:=by rw [List.getElem?_replicate];rw [if_pos hp]
 rcases (Bm hu).mp q with q|q
 ·exact q.2
 ·unfold Vis at q;rw [List.getElem?_replicate] at q;split at q<;> simp at q
theorem pinv_of {S:List T4} {N p h:Nat} {ws:Ws} {rest:List Nat} (I:BInv S N p (ws,h::rest)):∃w,Vis ws h w∧PInv S N p h w (ws,rest):=by
 obtain ⟨w,hw⟩:=I.vis h (List.mem_cons_self ..)
 refine ⟨w,hw,I.len,I.lead,fun v q=>I.vis v (List.mem_cons_of_mem _ q),?_,(List.pairwise_cons.mp I.sorted).2,fun v x b y a q=>I.top v x b y a (List.mem_cons_of_mem _ q),hw,fun v x q=>I.top v x h w q (List.mem_cons_self ..) hw,fun b y q hb=>(List.pairwise_cons.mp I.sorted).1 b q w y hw hb⟩
 intro v x q
 rcases I.done v x q with a|a
 ·rcases List.mem_cons.mp a with rfl|a
  ·exact .inr (.inl rfl)
  ·exact .inl a
 ·exact .inr (.inr a)
theorem bstep_ok {S:List T4} {N p h:Nat} {ws:Ws} {rest:List Nat} (hS:InN N S) (I:BInv S N p (ws,h::rest)):
  BInv S N p (bstep S (ws,h::rest))∧Cq (bstep S (ws,h::rest)).1+(bstep S (ws,h::rest)).2.length+1=Cq ws+(h::rest).length:=by
 obtain ⟨w,hw,J⟩:=pinv_of I
 have e:bstep S (ws,h::rest)=Bt w (Br S h) (ws,rest):=by
  show Bt ((ws[h]?.join).getD []) (Br S h) (ws,rest)=_
  unfold Vis at hw
  rw [hw];rfl
 rw [e]
 obtain ⟨a,b,c,d⟩:=visit_ok (Br S h) (ws,rest) J fun nb q=>⟨q,nb_lt hS q⟩
 refine ⟨⟨a.len,b _ _ I.p0,a.lead,a.vis,?_,a.sorted,a.top⟩,by rw [d];rfl⟩
 intro v x q
 rcases a.done v x q with r|rfl|r
 ·exact .inl r
 ·refine .inr fun nb hb=> ?_
  have:=vis_inj q a.hv
  subst this
  exact c nb hb
 ·exact .inr r
theorem iter_ok {S:List T4} {N p:Nat} (hS:InN N S):∀(n:Nat) (st:Ws×List Nat),BInv S N p st→BInv S N p (iter S n st)∧((iter S n st).2=[]∨Cq (iter S n st).1+(iter S n st).2.length+n=Cq st.1+st.2.length)
 |0,st,I=>⟨I,.inr rfl⟩
 |n+1,(ws,[]),I=>by
  have e:iter S (n+1) (ws,[])=(ws,[]):=iter_nil (n+1)
  rw [e];exact ⟨I,.inl rfl⟩
 |n+1,(ws,h::rest),I=>by
  obtain ⟨a,b⟩:=bstep_ok hS I
  obtain ⟨c,d⟩:=iter_ok hS n _ a
  refine ⟨c,?_⟩
  rcases d with d|d
  ·exact .inl d
  ·refine .inr ?_
   show Cq (iter S n (bstep S (ws,h::rest))).1+(iter S n (bstep S (ws,h::rest))).2.length+(n+1)=Cq ws+(h::rest).length
   omega
theorem ways_end {S:List T4} {N p:Nat} (hS:InN N S) (hp:p<N) (hN:N≤60):∃ws,iter S 64 (Ca N p)=(ws,[])∧BInv S N p (ws,[]):=by
 obtain ⟨a,b⟩:=iter_ok hS 64 (Ca N p) (binv0 hp)
 have:Cq (Ca N p).1+(Ca N p).2.length≤N+1:=by
  have:Cq (Ca N p).1≤(Ca N p).1.length:=List.countP_le_length
  simp only [Ca,List.length_set,List.length_replicate,List.length_singleton] at this ⊢
  exact Nat.succ_le_succ (by assumption)
 have e:(iter S 64 (Ca N p)).2=[]:=by
  rcases b with b|b
  ·exact b
  ·omega
 refine ⟨(iter S 64 (Ca N p)).1,Prod.ext rfl e,?_⟩
 have:iter S 64 (Ca N p)=((iter S 64 (Ca N p)).1,[]):=Prod.ext rfl e
 rw [this] at a
 exact a
theorem ways_len {S:List T4} {N p:Nat} (hS:InN N S) (hp:p<N) (hN:N≤60):(waysF N S p).length=N:=by
 obtain ⟨ws,e,I⟩:=ways_end hS hp hN
 rw [ways_of e (Nat.le_refl _)];exact I.len
theorem ways_lead {S:List T4} {N p:Nat} (hS:InN N S) (hp:p<N) (hN:N≤60) {v:Nat} {x:List Str} (h:Vis (waysF N S p) v x):Lead S p x v:=by
 obtain ⟨ws,e,I⟩:=ways_end hS hp hN
 rw [ways_of e (Nat.le_refl _)] at h;exact I.lead v x h
theorem ways_least {S:List T4} {N p:Nat} (hS:InN N S) (hp:p<N) (hN:N≤60) {v:Nat} {x:List Str} (h:Lead S p x v):∃y,Vis (waysF N S p) v y∧y.length≤x.length:=by
 obtain ⟨ws,e,I⟩:=ways_end hS hp hN
 rw [ways_of e (Nat.le_refl _)]
 induction h with
 |nil=>exact ⟨[],I.p0,Nat.le_refl _⟩
 |snoc a b ih=>
  obtain ⟨y,hy,hl⟩:=ih
  rcases I.done _ _ hy with q|q
  ·cases q
  ·obtain ⟨z,hz,hl2⟩:=q _ b
   exact ⟨z,hz,by simp only [List.length_append,List.length_cons,List.length_nil] at hl2 ⊢;omega⟩
def Bd (N:Nat) (S:List T4) (p:Nat):List Nat:=(List.range N).filter fun v=>((waysF N S p)[v]?.join).isSome
def Reach (S:List T4) (a b:Nat):Prop:=∃ws,Lead S a ws b
theorem vis_iff {ws:Ws} {v:Nat}:(ws[v]?.join).isSome=true↔∃x,Vis ws v x:=by
 unfold Vis
 cases ws[v]? with
 |none=>simp
 |some z=>cases z<;> simp
theorem C1 {S:List T4} {N p v:Nat} (hS:InN N S) (hp:p<N) (hN:N≤60):v∈Bd N S p↔v<N∧Reach S p v:=by
 unfold Bd
 rw [List.mem_filter,List.mem_range,vis_iff]
 constructor
 ·rintro ⟨a,x,hx⟩;exact ⟨a,x,ways_lead hS hp hN hx⟩
 ·rintro ⟨a,x,hx⟩;obtain ⟨y,hy,_⟩:=ways_least hS hp hN hx;exact ⟨a,y,hy⟩
theorem Reach.refl {S:List T4} {a:Nat}:Reach S a a:=⟨[],.nil⟩
theorem nb_symm {S:List T4} {a b:Nat} {n:Str} (h:(n,b)∈Br S a):(n,a)∈Br S b:=by
 obtain ⟨t,ht,q⟩:=List.mem_flatMap.mp h
 refine List.mem_flatMap.mpr ⟨t,ht,?_⟩
 unfold nbT at q ⊢
 rcases List.mem_append.mp q with q|q
 ·split at q
  ·rename_i e
   have:=List.mem_singleton.mp q
   cases this
   refine List.mem_append_right _ ?_
   rw [if_pos rfl,e];exact List.mem_singleton.mpr rfl
  ·cases q
 ·split at q
  ·rename_i e
   have:=List.mem_singleton.mp q
   cases this
   refine List.mem_append_left _ ?_
   rw [if_pos rfl,e];exact List.mem_singleton.mpr rfl
  ·cases q
theorem Reach.trans {S:List T4} {a b c:Nat} (h:Reach S a b) (g:Reach S b c):Reach S a c:=by
 obtain ⟨x,hx⟩:=h
 obtain ⟨y,hy⟩:=g
 induction hy with
 |nil=>exact ⟨x,hx⟩
 |snoc _ q ih=>obtain ⟨z,hz⟩:=ih;exact ⟨_,.snoc hz q⟩
theorem Reach.step {S:List T4} {a b:Nat} {n:Str} (h:(n,b)∈Br S a):Reach S a b:=⟨[]++[n],.snoc .nil h⟩
theorem Reach.symm {S:List T4} {a b:Nat} (h:Reach S a b):Reach S b a:=by
 obtain ⟨x,hx⟩:=h
 induction hx with
 |nil=>exact .refl
 |snoc _ q ih=>exact (Reach.step (nb_symm q)).trans ih
theorem nb_of {S:List T4} {t:T4} (h:t∈S):(t.1,t.2.2.1)∈Br S t.2.1:=List.mem_flatMap.mpr ⟨t,h,List.mem_append_left _ (by rw [if_pos rfl];exact List.mem_singleton.mpr rfl)⟩
theorem nb_elim {S:List T4} {a b:Nat} {n:Str} (h:(n,b)∈Br S a):∃t∈S,t.1=n∧((t.2.1=a∧t.2.2.1=b)∨(t.2.2.1=a∧t.2.1=b)):=by
 obtain ⟨t,ht,q⟩:=List.mem_flatMap.mp h
 refine ⟨t,ht,?_⟩
 unfold nbT at q
 rcases List.mem_append.mp q with q|q
 ·split at q
  ·rename_i e
   have:=List.mem_singleton.mp q
   cases this
   exact ⟨rfl,.inl ⟨e,rfl⟩⟩
  ·cases q
 ·split at q
  ·rename_i e
   have:=List.mem_singleton.mp q
   cases this
   exact ⟨rfl,.inr ⟨e,rfl⟩⟩
  ·cases q
def relab (l:List Nat) (lo hi:Nat):List Nat:=l.map fun x=>if x=hi then lo else x
def labS (l:List Nat) (t:T4):List Nat:=relab l (min (l.getD t.2.1 0) (l.getD t.2.2.1 0)) (max (l.getD t.2.1 0) (l.getD t.2.2.1 0))
def labF (N:Nat) (S:List T4):List Nat:=S.foldl labS (List.range N)
theorem labS_len (l:List Nat) (t:T4):(labS l t).length=l.length:=by simp [labS,relab]
theorem relab_get {l:List Nat} {lo hi v:Nat} (hv:v<l.length):(relab l lo hi).getD v 0=if l.getD v 0=hi then lo else l.getD v 0:=by
 unfold relab
 rw [List.getD_eq_getElem?_getD,List.getElem?_map,List.getElem?_eq_getElem hv,List.getD_eq_getElem?_getD,List.getElem?_eq_getElem hv];rfl
theorem labS_get {l:List Nat} {t:T4} {v:Nat} (hv:v<l.length):(labS l t).getD v 0=if l.getD v 0=max (l.getD t.2.1 0) (l.getD t.2.2.1 0) then min (l.getD t.2.1 0) (l.getD t.2.2.1 0) else l.getD v 0:=relab_get hv
theorem labs_keep {u v:Nat} (S:List T4):∀l:List Nat,u<l.length→v<l.length→l.getD u 0=l.getD v 0→(S.foldl labS l).getD u 0=(S.foldl labS l).getD v 0:=by
 induction S with
 |nil=>intro l _ _ h;exact h
 |cons t S ih=>
  intro l hu hv h
  rw [List.foldl_cons]
  exact ih _ (by rw [labS_len];exact hu) (by rw [labS_len];exact hv) (by rw [labS_get hu,labS_get hv,h])
theorem labs_tie {N:Nat} (S:List T4):∀l:List Nat,l.length=N→InN N S→∀t∈S,(S.foldl labS l).getD t.2.1 0=(S.foldl labS l).getD t.2.2.1 0:=by
 induction S with
 |nil=>intro l _ _ t h;cases h
 |cons t S ih=>
  intro l hl hN t' h
  rw [List.foldl_cons]
  rcases List.mem_cons.mp h with rfl|h
  ·have:=hN t' (List.mem_cons_self ..)
   refine labs_keep S _ (by rw [labS_len];omega) (by rw [labS_len];omega) ?_
   rw [labS_get (by omega),labS_get (by omega)]
   split<;> split<;> omega
  ·exact ih _ (by rw [labS_len];exact hl) (fun x q=>hN x (List.mem_cons_of_mem _ q)) t' h
theorem nbrs_mono {S S':List T4} (h:∀t∈S,t∈S') {v:Nat} {nb:Str×Nat} (q:nb∈Br S v):nb∈Br S' v:=by
 obtain ⟨t,ht,q⟩:=List.mem_flatMap.mp q
 exact List.mem_flatMap.mpr ⟨t,h t ht,q⟩
theorem Reach.mono {S S':List T4} (h:∀t∈S,t∈S') {a b:Nat} (q:Reach S a b):Reach S' a b:=by
 obtain ⟨x,hx⟩:=q
 induction hx with
 |nil=>exact .refl
 |snoc _ q ih=>exact ih.trans (.step (nbrs_mono h q))
theorem labs_reach {N:Nat} {S0:List T4} (S:List T4):∀l:List Nat,l.length=N→InN N S→(∀t∈S,t∈S0)→(∀u v,u<N→v<N→l.getD u 0=l.getD v 0→Reach S0 u v)→∀u v,u<N→v<N→(S.foldl labS l).getD u 0=(S.foldl labS l).getD v 0→Reach S0 u v:=by
 induction S with
 |nil=>intro l _ _ _ h;exact h
 |cons t S ih=>
  intro l hl hN hS h
  rw [List.foldl_cons]
  refine ih _ (by rw [labS_len];exact hl) (fun x q=>hN x (List.mem_cons_of_mem _ q)) (fun x q=>hS x (List.mem_cons_of_mem _ q)) ?_
  intro u v hu hv e
  have ht:=hN t (List.mem_cons_self ..)
  have tt:Reach S0 t.2.1 t.2.2.1:= .step (nb_of (hS t (List.mem_cons_self ..)))
  rw [labS_get (by omega),labS_get (by omega)] at e
  have q1:∀x,x<N→(l.getD x 0=max (l.getD t.2.1 0) (l.getD t.2.2.1 0)∨l.getD x 0=min (l.getD t.2.1 0) (l.getD t.2.2.1 0))→Reach S0 x t.2.1:=by
   intro x hx hm
   have:l.getD x 0=l.getD t.2.1 0∨l.getD x 0=l.getD t.2.2.1 0:=by omega
   rcases this with q|q
   ·exact h x _ hx ht.1 q
   ·exact (h x _ hx ht.2 q).trans tt.symm
  split at e
  ·split at e
   ·exact (q1 u hu (.inl (by assumption))).trans (q1 v hv (.inl (by assumption))).symm
   ·exact (q1 u hu (.inl (by assumption))).trans (q1 v hv (.inr e.symm)).symm
  ·split at e
   ·exact (q1 u hu (.inr e)).trans (q1 v hv (.inl (by assumption))).symm
   ·exact h u v hu hv e
theorem lab_iff {N:Nat} {S:List T4} (hS:InN N S) {u v:Nat} (hu:u<N) (hv:v<N):(labF N S).getD u 0=(labF N S).getD v 0↔Reach S u v:=by
 constructor
 ·refine labs_reach S (List.range N) (List.length_range ..) hS (fun _ h=>h) ?_ u v hu hv
  intro a b ha hb e
  rw [List.getD_eq_getElem?_getD,List.getElem?_range ha,List.getD_eq_getElem?_getD,List.getElem?_range hb] at e
  have:a=b:=e
  subst this;exact .refl
 ·rintro ⟨x,hx⟩
  induction hx with
  |nil=>rfl
  | @snoc ws b c n a q ih=>
   have hb:b<N:=by
    cases a with
    |nil=>exact hu
    |snoc _ r=>exact nb_lt hS r
   have hc:c<N:=nb_lt hS q
   refine (ih hb).trans ?_
   obtain ⟨t,ht,_,h⟩:=nb_elim q
   have:=labs_tie S (List.range N) (List.length_range ..) hS t ht
   rcases h with ⟨rfl,rfl⟩|⟨rfl,rfl⟩
   ·exact this
   ·exact this.symm
theorem part_lab {N p:Nat} {S:List T4} (hS:InN N S) (hp:p<N) (hN:N≤60):Bd N S p=(List.range N).filter fun v=>decide ((labF N S).getD v 0=(labF N S).getD p 0):=by
 refine List.filter_congr fun v hv=> ?_
 have hv:=List.mem_range.mp hv
 rw [Bool.eq_iff_iff,decide_eq_true_eq,lab_iff hS hv hp]
 have:=C1 (v:=v) hS hp hN
 unfold Bd at this
 rw [List.mem_filter,List.mem_range] at this
 constructor
 ·intro h;exact (this.mp ⟨hv,h⟩).2.symm
 ·intro h;exact (this.mpr ⟨hv,h.symm⟩).2
end Wk
namespace L2
open PySem
theorem while_gh {c:TT} {tb:TS} {D:Ends} {σ:St} {H:Hp} (Pv:Nat→St→Hp→Prop) {m0:Nat} (h0:Pv m0 σ H)
  (hs:∀m σ H,Pv m σ H→c σ H fun b H1=>if b=true then tb {D with nx:=fun σ' H'=>∃m',m'<m∧Pv m' σ' H',ct:=fun σ' H'=>∃m',m'<m∧Pv m' σ' H',bk:=D.nx} σ H1 else D.nx σ H1)
  (mono:∀σ H Q Q',(∀b H1,Q b H1→Q' b H1)→c σ H Q→c σ H Q'):tWhile c tb D σ H:=by
 refine ⟨Pv,⟨m0,h0⟩,fun m σ H p=> ?_⟩
 refine mono σ H _ _ (fun b H1 q=> ?_) (hs m σ H p)
 cases b with
 |true=>exact ⟨_,fun _ _ h=>h,q⟩
 |false=>exact q
theorem Bi {H0 H:Hp} {a:Addr} {o:HO} (s:Same H0 H) (n:H0 a=none):Same H0 (upd H a o):=fun b u e=>by
 rw [Ai (Aj e n)];exact s b u e
theorem inV_ints (x:Int) (zs:List Int):inV (.int x) (zs.map V.int)=decide (x∈zs):=by
 unfold inV
 induction zs with
 |nil=>simp
 |cons z zs ih=>
  rw [List.map_cons,List.any_cons,ih]
  have:eqV (.int z) (.int x)=decide (x=z):=by
   show (z==x)=_
   rw [Bool.eq_iff_iff,beq_iff_eq,decide_eq_true_eq];exact eq_comm
  rw [this,Bool.eq_iff_iff];simp
theorem flat_ints (ns:List Int):(ns.map V.int).all flatV=true:=by
 induction ns with
 |nil=>rfl
 |cons n ns ih=>rw [List.map_cons,List.all_cons,ih];rfl
theorem map_some {α β:Type} {f:α→β} {l:List α} {i:Nat} {x:β} (h:(l.map f)[i]? =some x):∃z,l[i]? =some z∧x=f z:=by
 rw [List.getElem?_map] at h
 cases q:l[i]? with
 |none=>rw [q] at h;cases h
 |some z=>rw [q] at h;exact ⟨z,rfl,(Option.some.inj h).symm⟩
theorem ixN_nat {n j:Nat} (h:j<n):ixN n (j:Int)=some j:=by
 unfold ixN
 rw [if_pos (by exact Int.natCast_nonneg _),if_pos (by omega)];simp
theorem Cc {α:Type} {l:List α} {i:Nat} (h:i<l.length):l[i]? =some l[i]:=List.getElem?_eq_getElem h
end L2
namespace Wk
open PySem L2
def tieV (t:T4):List V:=[.str t.1,.int (t.2.1:Int),.int (t.2.2.1:Int),.int t.2.2.2]
def TiesAt (H:Hp) (rs:List Addr) (S:List T4):Prop:=rs.length=S.length∧∀(i:Nat) r t,rs[i]? =some r→S[i]? =some t→H r=some (.tup (tieV t))
theorem TiesAt.same {H H':Hp} {rs:List Addr} {S:List T4} (h:TiesAt H rs S) (s:Same H H'):TiesAt H' rs S:=⟨h.1,fun i r t a b=>s _ _ (h.2 i r t a b)⟩
theorem TiesAt.get {H:Hp} {rs:List Addr} {S:List T4} (h:TiesAt H rs S) {i:Nat} {r:Addr} (hr:rs[i]? =some r):∃t,S[i]? =some t∧H r=some (.tup (tieV t)):=by
 have hi:i<S.length:=by rw [←h.1];exact (List.getElem?_eq_some_iff.mp hr).1
 exact ⟨S[i],Cc hi,h.2 i r _ hr (Cc hi)⟩
def PrsAt (H:Hp) (l:Addr) (ps:List (Str×Nat)):Prop:=∃rs:List Addr,H l=some (.lst (rs.map V.ref))∧rs.length=ps.length∧∀(i:Nat) r q,rs[i]? =some r→ps[i]? =some q→H r=some (.tup [.str q.1,.int (q.2:Int)])
theorem PrsAt.same {H H':Hp} {l:Addr} {ps:List (Str×Nat)} (h:PrsAt H l ps) (s:Same H H'):PrsAt H' l ps:=let ⟨rs,a,b,c⟩:=h;⟨rs,s _ _ a,b,fun i r q e f=>s _ _ (c i r q e f)⟩
def BesAt (H:Hp) (b:Addr) (N:Nat) (f:Nat→List (Str×Nat)):Prop:=∃ls:List Addr,H b=some (.lst (ls.map V.ref))∧ls.length=N∧∀(v:Nat) l,ls[v]? =some l→PrsAt H l (f v)
theorem BesAt.same {H H':Hp} {b:Addr} {N:Nat} {f:Nat→List (Str×Nat)} (h:BesAt H b N f) (s:Same H H'):BesAt H' b N f:=let ⟨ls,x,y,z⟩:=h;⟨ls,s _ _ x,y,fun v l e=>(z v l e).same s⟩
structure Bes (H0 H:Hp) (b:Addr) (ls:List Addr) (N:Nat) (f:Nat→List (Str×Nat)):Prop where
 same:Same H0 H
 hb:H b=some (.lst (ls.map V.ref))
 len:ls.length=N
 nd:ls.Nodup
 new:∀l∈ls,H0 l=none∧l≠b
 prs:∀(v:Nat) l,ls[v]? =some l→PrsAt H l (f v)
theorem nd_ix {ls:List Addr} (h:ls.Nodup) {i j:Nat} {l:Addr} (a:ls[i]? =some l) (b:ls[j]? =some l):i=j:=by
 have hi:=(List.getElem?_eq_some_iff.mp a).1
 exact (List.getElem?_inj hi h).mp (by rw [a,b])
theorem Bes.app {H0 H:Hp} {b:Addr} {ls:List Addr} {N v:Nat} {f:Nat→List (Str×Nat)} {l p:Addr} {xs:List V} {n:Str} {u:Nat} (B:Bes H0 H b ls N f) (hv:ls[v]? =some l) (hp:H p=none) (hl:H l=some (.lst xs)):
  Bes H0 (upd (upd H p (.tup [.str n,.int (u:Int)])) l (.lst (xs++[.ref p]))) b ls N (fun x=>if x=v then f v++[(n,u)] else f x):=by
 have lm:l∈ls:=List.mem_of_getElem? hv
 have s1:=Ac (o:= .tup [.str n,.int (u:Int)]) hp
 have lp:l≠p:=Aj hl hp
 refine ⟨Bi (B.same.trans s1) (B.new l lm).1,by rw [Ai (B.new l lm).2.symm];exact s1 _ _ B.hb,B.len,B.nd,B.new,fun x k hx=> ?_⟩
 obtain ⟨rs,h1,h2,h3⟩:=B.prs x k hx
 have tl:∀(r:Addr) ys,H r=some (.tup ys)→upd (upd H p (.tup [.str n,.int (u:Int)])) l (.lst (xs++[.ref p])) r=some (.tup ys):=fun r ys e=>by
  rw [Ai (Ao e hl (by intro z;cases z))];exact s1 _ _ e
 by_cases e:x=v
 ·subst e
  rw [hv] at hx
  cases hx
  rw [hl] at h1
  injection h1 with h1
  injection h1 with h1
  simp only [if_true]
  refine ⟨rs++[p],by rw [Ab,h1,List.map_append];rfl,by simp [h2],fun i r q hr hq=> ?_⟩
  rw [List.getElem?_append] at hr hq
  by_cases hi:i<rs.length
  ·rw [if_pos hi] at hr
   rw [if_pos (by omega)] at hq
   exact tl _ _ (h3 i r q hr hq)
  ·rw [if_neg hi] at hr
   rw [if_neg (by omega),←h2] at hq
   have:i - rs.length=0:=by
    have:=(List.getElem?_eq_some_iff.mp hr).1
    simp at this;assumption
   rw [this] at hr hq
   cases hr
   cases hq
   rw [Ai lp.symm];exact Ab
 ·simp only [if_neg e]
  have kl:k≠l:=fun q=>by subst q;exact e (nd_ix B.nd hx hv)
  exact ⟨rs,by rw [Ai kl];exact s1 _ _ h1,h2,fun i r q hr hq=>tl _ _ (h3 i r q hr hq)⟩
theorem nbrs_snoc (S:List T4) (t:T4) (v:Nat):Br (S++[t]) v=Br S v++nbT v t:=by unfold Br;rw [List.flatMap_append];simp
theorem nb_two (S:List T4) (t:T4):(fun x=>if x=t.2.2.1 then (fun x=>if x=t.2.1 then Br S t.2.1++[(t.1,t.2.2.1)] else Br S x) t.2.2.1++[(t.1,t.2.1)] else (fun x=>if x=t.2.1 then Br S t.2.1++[(t.1,t.2.2.1)] else Br S x) x)=Br (S++[t]):=by
 funext x
 rw [nbrs_snoc]
 unfold nbT
 by_cases a:t.2.1=x
 ·subst a
  rw [if_pos rfl]
  by_cases b:t.2.2.1=t.2.1
  ·rw [if_pos b,if_pos b.symm];dsimp only;rw [if_pos b];simp
  ·rw [if_neg b,if_neg (Ne.symm b)];dsimp only;rw [if_pos rfl];simp
 ·rw [if_neg a]
  by_cases b:t.2.2.1=x
  ·subst b
   rw [if_pos rfl,if_pos rfl];dsimp only;rw [if_neg (Ne.symm a)];simp
  ·rw [if_neg b,if_neg (Ne.symm b)];dsimp only;rw [if_neg (Ne.symm a)];simp
theorem nbrs_len (S:List T4) (v:Nat):(Br S v).length≤2 * S.length:=by
 unfold Br
 induction S with
 |nil=>simp
 |cons t S ih=>
  rw [List.flatMap_cons,List.length_append,List.length_cons]
  have:(nbT v t).length≤2:=by unfold nbT;rw [List.length_append];split<;> split<;> simp
  omega
def WayV (H:Hp) (x:V):Option (List Str)→Prop
 |none=>x= .non
 |some w=>∃r,x= .ref r∧H r=some (.tup (w.map V.str))
def WaysAt (H:Hp) (a:Addr) (ws:Ws):Prop:=∃xs,H a=some (.lst xs)∧xs.length=ws.length∧∀(i:Nat) x o,xs[i]? =some x→ws[i]? =some o→WayV H x o
theorem WayV.mono {H H':Hp} {x:V} {o:Option (List Str)} (f:∀r ys,H r=some (.tup ys)→H' r=some (.tup ys)) (h:WayV H x o):WayV H' x o:=by
 cases o with
 |none=>exact h
 |some w=>obtain ⟨r,a,b⟩:=h;exact ⟨r,a,f _ _ b⟩
theorem WaysAt.same {H H':Hp} {a:Addr} {ws:Ws} (h:WaysAt H a ws) (s:Same H H'):WaysAt H' a ws:=let ⟨xs,x,y,z⟩:=h;⟨xs,s _ _ x,y,fun i u o e f=>(z i u o e f).mono fun r ys=>s r (.tup ys)⟩
theorem WaysAt.keep {H:Hp} {a l:Addr} {ws:Ws} {ys zs:List V} (h:WaysAt H a ws) (hl:H l=some (.lst ys)) (n:a≠l):WaysAt (upd H l (.lst zs)) a ws:=by
 obtain ⟨xs,x,y,z⟩:=h
 exact ⟨xs,by rw [Ai n];exact x,y,fun i u o e f=>(z i u o e f).mono fun r ys e=>by rw [Ai (Ao e hl (by intro z;cases z))];exact e⟩
theorem WaysAt.get {H:Hp} {a:Addr} {ws:Ws} (h:WaysAt H a ws) {v:Nat} {o:Option (List Str)} (hv:ws[v]? =some o):∃xs x,H a=some (.lst xs)∧xs[v]? =some x∧xs.length=ws.length∧WayV H x o:=by
 obtain ⟨xs,x,y,z⟩:=h
 have hl:v<xs.length:=by rw [y];exact (List.getElem?_eq_some_iff.mp hv).1
 exact ⟨xs,xs[v],x,Cc hl,y,z v _ o (Cc hl) hv⟩
theorem WaysAt.set {H:Hp} {a r:Addr} {ws:Ws} {xs:List V} {u:Nat} {w:List Str} (h:WaysAt H a ws) (ha:H a=some (.lst xs)) (hr:H r=some (.tup (w.map V.str))):WaysAt (upd H a (.lst (xs.set u (.ref r)))) a (ws.set u (some w)):=by
 obtain ⟨xs',x,y,z⟩:=h
 rw [ha] at x
 injection x with x
 injection x with x
 subst x
 have tl:∀(q:Addr) ys,H q=some (.tup ys)→upd H a (.lst (xs.set u (.ref r))) q=some (.tup ys):=fun q ys e=>by
  rw [Ai (Ao e ha (by intro z;cases z))];exact e
 refine ⟨_,Ab,by simp [y],fun i x o hx ho=> ?_⟩
 rw [List.getElem?_set] at hx ho
 by_cases e:u=i
 ·rw [if_pos e] at hx ho
  split at hx
  ·rw [if_pos (by omega)] at ho
   cases hx
   cases ho
   exact ⟨r,rfl,tl _ _ hr⟩
  ·cases hx
 ·rw [if_neg e] at hx ho
  exact (z i x o hx ho).mono tl
def vis1 (w:List Str) (q:Str×Nat) (st:Ws×List Nat):Ws×List Nat:=if st.1[q.2]? =some none then (st.1.set q.2 (some (w++[q.1])),st.2++[q.2]) else st
theorem vis1_no {w:List Str} {q:Str×Nat} {st:Ws×List Nat} (h:¬st.1[q.2]? =some none):vis1 w q st=st:=if_neg h
theorem vis1_yes {w:List Str} {q:Str×Nat} {st:Ws×List Nat} (h:st.1[q.2]? =some none):vis1 w q st=(st.1.set q.2 (some (w++[q.1])),st.2++[q.2]):=if_pos h
theorem visit_snoc (w:List Str) (q:Str×Nat):∀(L:List (Str×Nat)) (st:Ws×List Nat),Bt w (L++[q]) st=vis1 w q (Bt w L st)
 |[],st=>by unfold vis1;show Bt w (q::[]) st=_;unfold Bt;rfl
 |(n,u)::r,st=>by
  show Bt w ((n,u)::(r++[q])) st=_
  unfold Bt
  split
  ·exact visit_snoc w q r _
  ·exact visit_snoc w q r _
theorem visit_vis (w:List Str):∀(L:List (Str×Nat)) (st:Ws×List Nat) {v:Nat} {x:List Str},Vis st.1 v x→Vis (Bt w L st).1 v x
 |[],_,_,_,h=>h
 |(n,u)::r,st,v,x,h=>by
  unfold Bt
  split
  ·rename_i e;exact visit_vis w r _ ((Bm e).mpr (.inr h))
  ·exact visit_vis w r _ h
theorem visit_len (w:List Str):∀(L:List (Str×Nat)) (st:Ws×List Nat),(Bt w L st).1.length=st.1.length∧(Bt w L st).2.length≤st.2.length+L.length
 |[],st=>⟨rfl,Nat.le_refl _⟩
 |(n,u)::r,st=>by
  unfold Bt
  split
  ·obtain ⟨a,b⟩:=visit_len w r (st.1.set u (some (w++[n])),st.2++[u])
   refine ⟨by rw [a];simp,?_⟩
   simp only [List.length_append,List.length_cons,List.length_nil] at b ⊢
   omega
  ·obtain ⟨a,b⟩:=visit_len w r st
   exact ⟨a,by rw [List.length_cons];exact Nat.le_succ_of_le (by assumption)⟩
theorem bstep_short {S:List T4} {N p h i:Nat} {ws:Ws} {rest:List Nat} (hS:InN N S) (I:BInv S N p (ws,h::rest)) (hl:∀v x,Wk.Vis ws v x→x.length≤i):∀v x,Wk.Vis (bstep S (ws,h::rest)).1 v x→x.length≤i+1:=by
 obtain ⟨w,hw,J⟩:=pinv_of I
 have e:bstep S (ws,h::rest)=Bt w (Br S h) (ws,rest):=by
  show Bt ((ws[h]?.join).getD []) (Br S h) (ws,rest)=_
  unfold Wk.Vis at hw
  rw [hw];rfl
 rw [e]
 obtain ⟨a,_⟩:=visit_ok (Br S h) (ws,rest) J fun nb q=>⟨q,nb_lt hS q⟩
 intro v x q
 have:=a.ht v x q
 have:=hl h w hw
 omega
theorem refs_inj {xs ys:List Addr} (h:xs.map V.ref=ys.map V.ref):xs=ys:=(List.map_inj_right (fun _ _ h=>by injection h)).mp h
end Wk
namespace L2
open PySem
section
variable {g:TG} {tb:TS} {D:Ends} {σ:St} {H:Hp}
theorem for_tupL {K:PySem.W.Frag} {a:Addr} {xs:List V} (Pv:Nat→St→Hp→Prop) (h0:Pv 0 σ H) (hl:∀i σ H,i≤xs.length→Pv i σ H→SqT K H a xs)
  (hs:∀i x σ H,xs[i]? =some x→Pv i σ H→let E:Ends:={D with nx:=Pv (i+1),ct:=Pv (i+1),bk:=D.nx};g x σ H fun σ2 H2=>tb E σ2 H2) (hd:∀σ H,Pv xs.length σ H→D.nx σ H):
  ∃W:Nat→Nat→St→Hp→Prop,(∃m,W 0 m σ H)∧∀i m σ H,W i m σ H→
   ((Itt K a).stop i H∧D.nx σ H)∨((Itt K a).go i H∧∃N:St→Hp→Prop,(∀σ' H',N σ' H'→∃m',m'<m∧W (i+1) m' σ' H')∧∀x H',(Itt K a).yld i H x H'→g x σ H' fun σ2 H2=>tb {D with nx:=N,ct:=N,bk:=D.nx} σ2 H2):=
 for_tup Pv h0 hl hs hd
theorem while_ghL {c:TT} (Pv:Nat→St→Hp→Prop) {m0:Nat} (h0:Pv m0 σ H)
  (hs:∀m σ H,Pv m σ H→let E:Ends:={D with nx:=fun σ' H'=>∃m',m'<m∧Pv m' σ' H',ct:=fun σ' H'=>∃m',m'<m∧Pv m' σ' H',bk:=D.nx};c σ H fun b H1=>if b=true then tb E σ H1 else D.nx σ H1)
  (mono:∀σ H Q Q',(∀b H1,Q b H1→Q' b H1)→c σ H Q→c σ H Q'):tWhile c tb D σ H:=
 while_gh Pv h0 hs mono
end
end L2
namespace Srt
open PySem PySem.W PyProof.Rows L2
end Srt
namespace Wk
open PySem L2
abbrev LS:Str:=Str.ofString "abcdefghijklmnopqrstuvwxyz"
theorem LS_eq:LS.cps.toList=(List.range 26).map (97+·):=by decide+kernel
theorem LS_at {v:Int} (h0:0≤v) (h1:v<26):atI LS.cps.toList v=some (97+v.toNat):=by
 obtain ⟨j,rfl⟩:∃j:Nat,v=(j:Int):=⟨v.toNat,by omega⟩
 have hj:j<26:=by omega
 refine Am ?_
 rw [LS_eq,List.getElem?_map,List.getElem?_range hj]
 rfl
theorem cat_cps (x y:Str):(x++y).cps.toList=x.cps.toList++y.cps.toList:=by
 show (x.cps++y.cps).toList=_
 rw [Array.toList_append]
theorem join_cps:∀ws:List Nat,(Txt.join (Str.ofString "") (ws.map fun c=>(⟨#[c]⟩:Str))).cps.toList=ws:=by
 have key:∀ws:List Nat,(Str.join (Str.ofString "") (ws.map fun c=>(⟨#[c]⟩:Str))).cps.toList=ws:=by
  intro ws
  induction ws with
  |nil=>rfl
  |cons c ws ih=>
   cases ws with
   |nil=>rfl
   |cons d ws=>
    simp only [List.map_cons] at ih ⊢
    rw [Str.join,cat_cps,cat_cps,ih]
    ·rfl
    ·intro q;cases q
 intro ws
 show (Builtin.Str.glued _ _).cps.toList=_
 rw [StrLaws.glued_eq_join]
 exact key ws
theorem cutV_take {xs:List V} {n:Nat} (h:n≤xs.length):cutV xs none (some (n:Int))=xs.take n:=by
 unfold cutV
 rw [HT.sIx_none,HT.sIx_nat,List.drop_zero,Nat.min_eq_left h,Nat.sub_zero]
theorem cutV_drop {xs:List V} {n:Nat}:cutV xs (some (n:Int)) none=xs.drop n:=by
 unfold cutV
 rw [HT.sIx_none,HT.sIx_nat]
 by_cases h:n≤xs.length
 ·rw [Nat.min_eq_left h,List.take_of_length_le (by rw [List.length_drop];exact Nat.le_refl _)]
 ·rw [Nat.min_eq_right (by omega),List.drop_of_length_le (by exact Nat.le_refl _),List.drop_of_length_le (by omega)];simp
theorem nat_of {v:Int} (h0:0≤v):∃j:Nat,v=(j:Int):=⟨v.toNat,by omega⟩
end Wk
namespace Wk
open PySem L2
abbrev Ps:=List (T4×Addr)
def psK (ps:Ps):List (Key×V):=ps.map fun p=>(Sum.inr p.1.1,V.ref p.2)
def TieOk (N:Nat) (t:T4):Prop:=t.2.1<N∧t.2.2.1<N∧t.2.1≠t.2.2.1
theorem val_none {ps:Ps} {n:Str} (h:n ∉ ps.map (·.1.1)):Bn (psK ps) (Sum.inr n)=none:=by
 unfold psK
 induction ps with
 |nil=>rfl
 |cons p ps ih=>
  rw [List.map_cons,List.mem_cons,not_or] at h
  rw [List.map_cons,Bz (by intro e;exact h.1 (by injection e with e;exact e.symm))]
  exact ih h.2
theorem val_has {ps:Ps} {n:Str}:(Bn (psK ps) (Sum.inr n)).isSome=decide (n∈ps.map (·.1.1)):=by
 unfold psK
 induction ps with
 |nil=>rfl
 |cons q ps ih=>
  rw [List.map_cons,List.map_cons]
  by_cases e:q.1.1=n
  ·rw [Cd (by rw [e])];simp [e]
  ·rw [Bz (by intro h;injection h with h;exact e h),ih]
   rw [Bool.eq_iff_iff];simp [Ne.symm e]
theorem psK_put {ps:Ps} {t:T4} {r:Addr} (h:t.1 ∉ ps.map (·.1.1)):Cm (psK ps) (Sum.inr t.1) (.ref r)=psK (ps++[(t,r)]):=by
 rw [putK_new _ (val_none h)]
 unfold psK
 rw [List.map_append];rfl
theorem nodup_le {α:Type} [DecidableEq α]:∀(xs ys:List α),xs.Nodup→(∀x∈xs,x∈ys)→xs.length≤ys.length
 |[],_,_,_=>Nat.zero_le _
 |x::xs,ys,nd,h=>by
  have nd:=List.nodup_cons.mp nd
  have hx:=h x (List.mem_cons_self ..)
  have:=nodup_le xs (ys.erase x) nd.2 fun y hy=>(List.mem_erase_of_ne (fun e=>nd.1 (by rw [←e];exact hy))).mpr (h y (List.mem_cons_of_mem _ hy))
  rw [List.length_erase_of_mem hx] at this
  have:=List.length_pos_of_mem hx
  rw [List.length_cons];omega
theorem mod_ne {N a v:Nat} (ha:a<N) (hv:v<N - 1):(a+1+v) % N≠a∧(a+1+v) % N<N:=by
 refine ⟨?_,Nat.mod_lt _ (by omega)⟩
 by_cases h:a+1+v<N
 ·rw [Nat.mod_eq_of_lt h];omega
 ·rw [Nat.mod_eq_sub_mod (by exact Nat.not_lt.mp (by assumption)),Nat.mod_eq_of_lt (by omega)];omega
theorem mod_ne1 {N a:Nat} (ha:a<N) (hN:2≤N):(a+1) % N≠a∧(a+1) % N<N:=by
 have:=mod_ne (v:=0) ha (by omega)
 simpa using this
theorem mod_int {a b:Nat}:((a:Int) % (b:Int))=((a % b:Nat):Int):=by simp
end Wk
namespace L2
open PySem
section
variable {X:Cx} {pos:Pos} {e a b:Expr} {te ta tb:TE} {es:List Expr} {t u:TS} {st:Stmt} {rest:List Stmt}
theorem PE.imp' {t t':TE} (h:PE X e t) (f:∀σ H Q,t' σ H Q→t σ H Q):PE X e t':=fun pins s σ H Q I h'=>h pins s σ H Q I (f σ H Q h')
end
end L2
namespace Wk
open PySem L2
def keysOf (t:T4):List Key:=[.inr t.1,.inl (t.2.1:Int),.inl (t.2.2.1:Int),.inl t.2.2.2]
def tieOf:List Key→T4
 |[.inr n,.inl a,.inl b,.inl w]=>(n,a.toNat,b.toNat,w)
 |_=>(Str.ofString "",0,0,0)
theorem tieOf_keys (t:T4):tieOf (keysOf t)=t:=by
 obtain ⟨n,a,b,w⟩:=t
 show (n,(a:Int).toNat,(b:Int).toNat,w)=_
 simp
theorem keys_tieV (t:T4):(keysOf t).map kV=tieV t:=rfl
def IsTie (ks:List Key):Prop:=∃t,ks=keysOf t
end Wk
namespace Wk
open PySem L2
def NmS (zs:List Str):Prop:=zs.Pairwise fun a b=>Srt.ltK (.inr b) (.inr a)=false
end Wk
namespace L2
open PySem PySem.Spec PyProof.Rows
end L2
namespace Wk
open PySem L2
inductive Dd where
 |come (m:Int) (t:T4)
 |go (m:Int) (n:Str)
def Dd.vs:Dd→List V
 | .come m t=> .str (Str.ofString "come"):: .int m::tieV t
 | .go m n=>[.str (Str.ofString "go"),.int m,.str n]
def Dd.mo:Dd→Int
 | .come m _=>m
 | .go m _=>m
def stepD (S:List T4):Dd→List T4
 | .come _ t=>S++[t]
 | .go _ n=>S.filter fun t=>decide (t.1≠n)
def thr (ds:List Dd):List T4:=ds.foldl stepD []
theorem thr_snoc (ds:List Dd) (d:Dd):thr (ds++[d])=stepD (thr ds) d:=by unfold thr;rw [List.foldl_append];rfl
def DdOk (N:Nat) (S:List T4):Dd→Prop
 | .come _ t=>t.1 ∉ S.map (·.1)∧TieOk N t
 | .go _ n=>n∈S.map (·.1)
structure Right (N:Nat) (ds:List Dd):Prop where
 ok:∀(i:Nat) d,ds[i]? =some d→DdOk N (thr (ds.take i)) d
 len:ds.length≤60
 mo:∀d∈ds,0≤d.mo∧d.mo≤1000000000
 up:ds.Pairwise fun a b=>a.mo≤b.mo
 wt:∀(m:Int) t,Dd.come m t∈ds→0≤t.2.2.2∧t.2.2.2≤1000000000
theorem Ce {α:Type} {l:List α} {i:Nat} {d:α} (h:l[i]? =some d):l.take (i+1)=l.take i++[d]:=by rw [List.take_add_one,h];rfl
theorem Right.take {N:Nat} {ds:List Dd} (h:Right N ds) (n:Nat):Right N (ds.take n):=by
 refine ⟨fun i d e=> ?_,by rw [List.length_take];have:=h.len;omega,fun d hd=>h.mo d (List.mem_of_mem_take hd),h.up.sublist (List.take_sublist ..),fun m t ht=>h.wt m t (List.mem_of_mem_take ht)⟩
 have hi:i<n:=by have:=(List.getElem?_eq_some_iff.mp e).1;rw [List.length_take] at this;omega
 rw [List.getElem?_take_of_lt hi] at e
 rw [List.take_take,Nat.min_eq_left (by exact Nat.le_of_lt (by assumption))]
 exact h.ok i d e
structure ThrOk (N:Nat) (S:List T4):Prop where
 nd:(S.map (·.1)).Nodup
 ok:∀t∈S,TieOk N t
theorem filt_names (n:Str) (S:List T4):(S.filter fun t=>decide (t.1≠n)).map (·.1)=(S.map (·.1)).filter fun m=>decide (m≠n):=by rw [List.filter_map];rfl
theorem step_ok {N:Nat} {S:List T4} {d:Dd} (h:ThrOk N S) (g:DdOk N S d):ThrOk N (stepD S d):=by
 cases d with
 |come m t=>
  refine ⟨?_,fun u hu=> ?_⟩
  ·show ((S++[t]).map (·.1)).Nodup
   rw [List.map_append]
   refine List.nodup_append.mpr ⟨h.nd,List.nodup_cons.mpr ⟨by simp,List.nodup_nil⟩,fun x hx y hy=> ?_⟩
   have e:=List.mem_singleton.mp hy
   intro q
   exact g.1 (by have e:y=t.1:=e;rw [←e,←q];exact hx)
  ·rcases List.mem_append.mp hu with q|q
   ·exact h.ok u q
   ·rw [List.mem_singleton.mp q];exact g.2
 |go m n=>
  refine ⟨?_,fun u hu=>h.ok u (List.mem_filter.mp hu).1⟩
  show ((S.filter fun t=>decide (t.1≠n)).map (·.1)).Nodup
  rw [filt_names]
  exact h.nd.sublist List.filter_sublist
theorem thr_ok {N:Nat} {ds:List Dd} (h:Right N ds):∀i,i≤ds.length→ThrOk N (thr (ds.take i))
 |0,_=>⟨List.nodup_nil,by simp [thr]⟩
 |i+1,hi=>by
  have e:=Cc (l:=ds) (i:=i) (by assumption)
  rw [Ce e,thr_snoc]
  exact step_ok (thr_ok h i (by exact Nat.le_of_lt (by assumption))) (h.ok i _ e)
theorem thr_len (ds:List Dd):∀i,(thr (ds.take i)).length≤i
 |0=>by simp [thr]
 |i+1=>by
  cases e:ds[i]? with
  |none=>
   have:ds.length≤i:=by
    rcases Nat.lt_or_ge i ds.length with h|h
    ·rw [Cc h] at e;cases e
    ·exact h
   have:=thr_len ds i
   rw [List.take_of_length_le (by omega)] at this ⊢
   exact Nat.le_succ_of_le (by assumption)
  |some d=>
   rw [Ce e,thr_snoc]
   have:=thr_len ds i
   cases d with
   |come m t=>show (_++[t]).length≤_;simp;assumption
   |go m n=>exact Nat.le_trans (List.length_filter_le _ _) (by exact Nat.le_succ_of_le (by assumption))
def Srtd (S T:List T4):Prop:=S.Perm T∧S.Pairwise fun a b=>Srt.ltR (keysOf b) (keysOf a)=false
def DdsAt (H:Hp) (rs:List Addr) (ds:List Dd):Prop:=rs.length=ds.length∧∀(i:Nat) r d,rs[i]? =some r→ds[i]? =some d→H r=some (.tup d.vs)
theorem DdsAt.mono {H H':Hp} {rs:List Addr} {ds:List Dd} (h:DdsAt H rs ds) (f:∀r xs,H r=some (.tup xs)→H' r=some (.tup xs)):DdsAt H' rs ds:=⟨h.1,fun i r d a b=>f _ _ (h.2 i r d a b)⟩
theorem DdsAt.get {H:Hp} {rs:List Addr} {ds:List Dd} (h:DdsAt H rs ds) {i:Nat} {r:Addr} (hr:rs[i]? =some r):∃d,ds[i]? =some d∧H r=some (.tup d.vs):=by
 have hi:i<ds.length:=by rw [←h.1];exact (List.getElem?_eq_some_iff.mp hr).1
 exact ⟨ds[i],Cc hi,h.2 i r _ hr (Cc hi)⟩
theorem DdsAt.take {H:Hp} {rs:List Addr} {ds:List Dd} (h:DdsAt H rs ds) (n:Nat):DdsAt H (rs.take n) (ds.take n):=by
 refine ⟨by rw [List.length_take,List.length_take,h.1],fun i r d a b=> ?_⟩
 have hi:i<n:=by have:=(List.getElem?_eq_some_iff.mp a).1;rw [List.length_take] at this;omega
 rw [List.getElem?_take_of_lt hi] at a b
 exact h.2 i r d a b
def HistAt (H:Hp) (h:Addr) (N:Nat) (ds:List Dd):Prop:=∃(tp:Addr) (rs:List Addr),H h=some (.tup [.int (N:Int),.ref tp])∧H tp=some (.tup (rs.map V.ref))∧DdsAt H rs ds
theorem HistAt.mono {H H':Hp} {h:Addr} {N:Nat} {ds:List Dd} (x:HistAt H h N ds) (f:∀r xs,H r=some (.tup xs)→H' r=some (.tup xs)):HistAt H' h N ds:=let ⟨tp,rs,a,b,c⟩:=x;⟨tp,rs,f _ _ a,f _ _ b,c.mono f⟩
theorem HistAt.same {H H':Hp} {h:Addr} {N:Nat} {ds:List Dd} (x:HistAt H h N ds) (s:Same H H'):HistAt H' h N ds:=x.mono fun r xs=>s r (.tup xs)
end Wk
namespace Wk
open PySem L2
inductive TTakeHP (K:PySem.W.Frag) (i j:Nat) (σ:St) (H:Hp) (Q:VK):Prop
 |mk (h tp:Addr) (x:V) (n:Nat) (xs:List V):(σ[i]? =some (some (.ref h)))→(σ[j]? =some (some (.int (n:Int))))→(H h=some (.tup [x,.ref tp]))→(H tp=some (.tup xs))→(n≤xs.length)→(∀c H',Same H H'→H' c=some (.tup (xs.take n))→Q (.ref c) H')→TTakeHP K i j σ H Q
def tTakeH (K:PySem.W.Frag) (i j:Nat):TE:=fun σ H Q=>TTakeHP K i j σ H Q
theorem takeH_ok {K:PySem.W.Frag} {i j:Nat}:∀σ H Q,tTakeH K i j σ H Q→tSl (rSlTA K) (tOp (rIxT K) (tVar i) (tC (.int 1))) tNoPart (tPart (tVar j)) σ H Q:=by
 rintro σ H Q ⟨h,tp,x,n,xs,ei,ej,hh,ht,hn,k⟩
 refine ⟨_,ei,h,_,1,_,rfl,rfl,SqT.of hh,Am (j:=1) rfl,_,ej,_,rfl,tp,xs,rfl,SqT.of ht,fun w=> ?_,fun _ p hp=> ?_⟩
 ·have:=w.2
  rw [HT.sIx_nat,Nat.min_eq_left hn] at this
  exact k tp H (Cp _) (by rw [this,List.take_length];exact ht)
 ·rw [cutV_take hn]
  exact k p _ (Ac hp) Ab
def ThF (H:Hp) (th:Addr) (ps:Ps):Prop:=H th=some (.dK (psK ps))∧∀p∈ps,H p.2=some (.tup (tieV p.1))
theorem psK_drop (n:Str):∀ps:Ps,dropK (psK ps) (.inr n:Key)=psK (ps.filter fun p=>decide (p.1.1≠n))
 |[]=>rfl
 |p::ps=>by
  have ih:=psK_drop n ps
  unfold dropK psK at ih ⊢
  rw [List.map_cons,List.filter_cons,List.filter_cons]
  by_cases z:p.1.1=n
  ·rw [if_neg (by simp [z]),if_neg (by simp [z])];exact ih
  ·rw [if_pos (by simp [z]),if_pos (by simp [z]),List.map_cons,ih]
theorem ps_names (ps:Ps):(ps.map (·.1)).map (·.1)=ps.map (·.1.1):=by rw [List.map_map];rfl
theorem ps_filt (n:Str) (ps:Ps):(ps.filter fun p=>decide (p.1.1≠n)).map (·.1)=(ps.map (·.1)).filter fun t=>decide (t.1≠n):=by rw [List.filter_map];rfl
end Wk
namespace Wk
open PySem L2
theorem iter_short {S:List T4} {N p:Nat} (hS:InN N S):∀(n:Nat) (st:Ws×List Nat) (i:Nat),BInv S N p st→(∀v x,Wk.Vis st.1 v x→x.length≤i)→∀v x,Wk.Vis (iter S n st).1 v x→x.length≤i+(Cq st.1+st.2.length)
 |0,st,i,_,h=>fun v x q=>by have:=h v x q;omega
 |n+1,(ws,[]),i,_,h=>fun v x q=>by
  rw [iter_nil (n+1)] at q
  have:=h v x q;omega
 |n+1,(ws,h'::rest),i,I,h=>fun v x q=>by
  obtain ⟨a,b⟩:=bstep_ok hS I
  have:=iter_short hS n _ (i+1) a (bstep_short hS I h) v x q
  have e:Cq (ws,h'::rest).1+(ws,h'::rest).2.length=Cq ws+(h'::rest).length:=rfl
  omega
theorem nones_init {N p:Nat} (hp:p<N):Cq (Ca N p).1+1=N:=by
 unfold Cq Ca
 have hl:p<(List.replicate N (none:Option (List Str))).length:=by simpa using hp
 have hg:(List.replicate N (none:Option (List Str)))[p]=none:=by simp
 rw [List.countP_set (h:=hl),hg]
 have:(List.replicate N (none:Option (List Str))).countP (·==none)=N:=by simp [List.countP_replicate]
 rw [this]
 simp only [beq_self_eq_true,if_true]
 show N - 1+0+1=N
 omega
theorem ways_short {S:List T4} {N p:Nat} (hS:InN N S) (hp:p<N) {v:Nat} {x:List Str} (h:Wk.Vis (waysF N S p) v x):x.length≤N:=by
 have:=iter_short hS 64 (Ca N p) 0 (binv0 hp) (fun v x q=>by rw [binit_vis hp q];simp) v x h
 have:=nones_init hp
 have e:(Ca N p).2.length=1:=rfl
 omega
end Wk
namespace L2
open PySem PySem.Spec PyProof.Rows
end L2
namespace Wk
open PySem L2
end Wk
namespace HT
open PySem PyProof.Rows
theorem fm_congr {f g:Nat→Option Value}:∀{l:List Nat},(∀k∈l,f k=g k)→l.filterMap f=l.filterMap g
 |[],_=>rfl
 |a::l,h=>by
  rw [List.filterMap_cons,List.filterMap_cons,h a (List.mem_cons_self),fm_congr (l:=l) fun k hk=>h k (List.mem_cons_of_mem _ hk)]
theorem rev_pick (xs:Array Value):((List.range xs.size).filterMap fun (k:Nat)=>xs[(((xs.size:Int) - 1)+(k:Int) * (-1)).toNat]?)=xs.toList.reverse:=by
 have h:((List.range xs.size).filterMap fun (k:Nat)=>xs[(((xs.size:Int) - 1)+(k:Int) * (-1)).toNat]?)=(List.range xs.size).filterMap fun k=>xs.toList.reverse[k]? :=by
  refine fm_congr fun k hk=> ?_
  have hk:=List.mem_range.mp hk
  have e:(((xs.size:Int) - 1)+(k:Int) * (-1)).toNat=xs.size - 1 - k:=by omega
  rw [e,List.getElem?_reverse (by simpa using hk)]
  simp
 rw [h]
 have:∀(l:List Value),(List.range l.length).filterMap (fun k=>l[k]?)=l:=by
  intro l
  refine List.ext_getElem? fun i=> ?_
  have e:(List.range l.length).filterMap (fun k=>l[k]?)=(List.range l.length).map (fun k=>l.getD k .none):=by
   rw [←List.filterMap_eq_map]
   refine fm_congr fun k hk=> ?_
   have hk:=List.mem_range.mp hk
   show l[k]? =some (l.getD k .none)
   rw [List.getD_eq_getElem?_getD,List.getElem?_eq_getElem hk];rfl
  rw [e,List.getElem?_map]
  by_cases hi:i<l.length
  ·rw [List.getElem?_range hi,List.getElem?_eq_getElem hi]
   simp [hi]
  ·rw [List.getElem?_eq_none (by simpa using hi),List.getElem?_eq_none (by simpa using hi)];rfl
 have:=this xs.toList.reverse
 rw [List.length_reverse,Array.length_toList] at this
 exact this
section
variable {prog:Program} {w:World} {A:Around} {E:Value→Shared→Prop} {s:Shared}
theorem applied_rev {sl:Addr} {u:Tok} {n:Nat} {Q:Int×Int×Nat→Shared→Prop} (hs:s.heap.IsSliceOf sl .none .none (.int (-1) u))
  (h:Q ((n:Int) - 1,-1,n) s):wpAny (model prog w) A (Builtin.Slice.sliceApplied (.ref sl) (pure (n:Int))) Q E s:=by
 obtain ⟨os,hos,hcs,hds⟩:=id hs
 unfold Builtin.Slice.sliceApplied Builtin.Slice.sliceFields
 refine wpAny_bind (wpAny_bind (wpAny_field hos hds (x:= .none) rfl (wpAny_bind (wpAny_field hos hds (x:= .none) rfl (wpAny_bind (wpAny_field hos hds (x:= .int (-1) u) rfl (wpAny_pure ?_)))))))
 refine wpAny_bind (slicePart_int ?_)
 show wpAny _ _ (if ((-1:Int)==0)=true then _ else _) _ _ s
 rw [if_neg (by decide)]
 refine wpAny_bind (slicePart_none (wpAny_bind (slicePart_none (wpAny_bind (wpAny_pure (wpAny_pure ?_))))))
 have e:Builtin.Slice.slicePlaces ((n:Int) - 1) (-1) (-1)=n:=by
  unfold Builtin.Slice.slicePlaces
  rw [if_neg (by decide)]
  split
  ·rw [show (-(-1):Int)=1 from rfl,Int.ediv_one];omega
  ·omega
 show Q ((n:Int) - 1,-1,Builtin.Slice.slicePlaces ((n:Int) - 1) (-1) (-1)) s
 rw [e];exact h
theorem getItem_tup_rev {t sl:Addr} {xs:Array Value} {u:Tok} {Q:Value→Shared→Prop} (ht:IsTup s.heap t xs) (hs:s.heap.IsSliceOf sl .none .none (.int (-1) u)) (hz:xs.size≤10000)
  (h:Q (.ref s.heap.objs.size) {s with heap:=s.heap.push {cls:= .type "tuple",data:= .seq xs.toList.reverse.toArray}}):wpAny (model prog w) A (getItem (.ref t) (.ref sl)) Q E s:=by
 obtain ⟨os,hos,hcs,hds⟩:=id hs
 have tsl:s.TypeIs (.ref sl) "slice":=⟨os,hos,hcs⟩
 unfold getItem
 try with_reducible refine wpAny_holding ?_
 first|refine wpAny_bind (wpAny_pure ?_)|skip
 refine wpAny_bind (wpAny_sequenceKey ht.typeIs (by decide) (wpAny_bind (wpAny_callSpecial?_slot (name:=Str.ofString "__getitem__") ht.typeIs PyProof.Rows.slot_tuple_getitem (wpAny_call_entry PyProof.Rows.slot_tuple_getitem ht.typeIs entry_tuple_getitem ?_ (args_tuple_getitem _ _)))))
 show wpAny _ _ (Builtin.Tuple.tupleItemsOf (.ref t) >>=fun _=>_) _ _ s
 refine wpAny_bind (tupleItemsOf_ ht (wpAny_bind (wpAny_typeOf tsl ?_)))
 rw [if_pos (by decide)]
 refine wpAny_bind (applied_rev hs ?_)
 show wpAny _ _ (ite ((((xs.size:Int) - 1)==0 && (-1:Int)==1 && xs.size==xs.size)=true) _ _) _ _ s
 rw [if_neg (by simp)]
 refine wpAny_bind (m:=Builtin.Tuple.tupleExact _) ?_
 unfold Builtin.Tuple.tupleExact
 rw [rev_pick]
 refine wpAny_newObj_type ?_ (L2.small (by simpa using hz))
 exact wpAny_pure ⟨_,rfl,wpAny_pure h⟩
end
end HT
namespace L2
open PySem PySem.Spec PyProof.Rows
section
variable {X:Cx} {e:Expr} {te:TE} {pos p2:Pos}
def tRevT (K:PySem.W.Frag) (te:TE) (ts:TO):TE:=fun σ H Q=>te σ H fun x H1=>ts σ H1 fun o H2=>∃(a:Addr) (xs:List V),o=some (-1)∧x= .ref a∧SqT K H2 a xs∧xs.length≤10000∧∀p,H2 p=none→Q (.ref p) (upd H2 p (.tup xs.reverse))
theorem pe_revT {st:Expr} {ts:TO} (he:PE X e te) (hs:PO X (some st) ts) (ops:Value→Value→List Value) (hsub:∀o i,subscripted (.Slice none none (some st) p2) false o i=operate (ops o i) (getItem o i)):PE X (.Subscript e (.Slice none none (some st) p2) pos) (tRevT X.K te ts):=by
 intro pins s σ H Q I h
 refine Subscript_ (thn (he pins s σ H _ I h) fun v s1 ⟨x,H1,I1,r1,q1⟩=>wpAny_Slice ?_)
 rw [evalPart_none]
 refine wpAny_pure (wpAny_pure (thn (hs pins s1 σ H1 _ I1 q1) fun vs s2 ⟨o,H2,I2,ps,a,xs,q2⟩=> ?_))
 obtain ⟨rfl,rfl,hq,hl,q⟩:=q2
 cases r1
 have I4:Inv X pins σ H2 {s2 with heap:=s2.heap.push {cls:= .type "slice",data:= .fields #[.none,.none,vs]}}:=I2.kept (t':=s2.toks) fun b ob q=>Heap.get?_push_of_some _ q
 obtain ⟨its,r,ht,hz⟩:=I4.tuple hq
 have hlen:=r.length
 show wpAny (model X.prog X.w) X.A (subscriptTail e (.Slice none none (some st) p2) (.ref a) (.ref s2.heap.objs.size)) (EP X pins σ Q) X.xe {s2 with heap:=s2.heap.push {cls:= .type "slice",data:= .fields #[.none,.none,vs]}}
 refine tail_any (ops:=ops (.ref a) (.ref s2.heap.objs.size)) ht.typeIs PyProof.Rows.slot_tuple_getitem.lookup ?_ (hsub _ _)
 cases ps with
 |int i t=>
  refine HT.getItem_tup_rev ht (Heap.IsSliceOf.new ..) (by rw [List.size_toArray];omega) ⟨.ref _,_,I4.laid (t':=s2.toks) (o:= .tup xs.reverse) (fun b ob q=>Heap.get?_push_of_some _ q) (Nat.le_refl _) ⟨small (by rw [List.length_reverse];exact hl),its.reverse,r.reverse,?_⟩,rfl,q _ I4.fresh⟩
  exact IsTupN.new _ _
end
end L2
namespace Wk
open PySem L2
def B7 (S:List T4) (v:Nat) (n:Str):Option Nat:=match S.find? fun t=>decide (t.1=n) with
 |none=>none
 |some t=>if v=t.2.1 then some t.2.2.1 else if v=t.2.2.1 then some t.2.1 else none
def goF (S:List T4):Nat→List Str→Option Nat
 |v,[]=>some v
 |v,n::ns=>match B7 S v n with
  |none=>none
  |some u=>goF S u ns
theorem goF_snoc {S:List T4} {n:Str}:∀{ws:List Str} {v u:Nat},goF S v ws=some u→goF S v (ws++[n])=B7 S u n
 |[],v,u,h=>by
  cases h
  show (match B7 S v n with|none=>none|some u=>goF S u [])=_
  cases B7 S v n<;> rfl
 |m::ws,v,u,h=>by
  show (match B7 S v m with|none=>none|some u=>goF S u (ws++[n]))=_
  have h:(match B7 S v m with|none=>none|some u=>goF S u ws)=some u:=h
  cases g:B7 S v m with
  |none=>rw [g] at h;cases h
  |some z=>rw [g] at h;exact goF_snoc h
theorem find_tie {S:List T4} (nd:(S.map (·.1)).Nodup) {t:T4} (ht:t∈S):S.find? (fun u=>decide (u.1=t.1))=some t:=by
 induction S with
 |nil=>cases ht
 |cons a S ih=>
  rw [List.map_cons,List.nodup_cons] at nd
  rw [List.find?_cons]
  rcases List.mem_cons.mp ht with rfl|h
  ·simp
  ·have:a.1≠t.1:=fun e=>nd.1 (by rw [e];exact List.mem_map_of_mem h)
   simp only [this,decide_false]
   exact ih nd.2 h
theorem over_tie {S:List T4} (nd:(S.map (·.1)).Nodup) {t:T4} (ht:t∈S):B7 S t.2.1 t.1=some t.2.2.1∧B7 S t.2.2.1 t.1=some t.2.1:=by
 unfold B7
 rw [find_tie nd ht]
 refine ⟨by simp,?_⟩
 show (if t.2.2.1=t.2.1 then some t.2.2.1 else if t.2.2.1=t.2.2.1 then some t.2.1 else none)=_
 by_cases g:t.2.2.1=t.2.1
 ·rw [if_pos g,g]
 ·rw [if_neg g,if_pos rfl]
theorem cat_any {K:PySem.W.Frag} {H:Hp} {Q:VK} {a b:Addr} {xs ys:List V} (ha:H a=some (.tup xs)) (hb:H b=some (.tup ys)) (hl:xs.length+ys.length≤10000)
  (k:∀t H',Same H H'→H' t=some (.tup (xs++ys))→Q (.ref t) H'):rCatTT K (.ref a) (.ref b) H Q:=by
 refine ⟨a,b,_,_,rfl,rfl,SqT.of ha,SqT.of hb,small hl,fun e=>k b H (Cp H) ?_,fun _ e=>k a H (Cp H) ?_,fun _ _ p hp=>k p _ (Ac hp) Ab⟩
 ·rw [e];exact hb
 ·rw [e,List.append_nil];exact ha
theorem cut_any {K:PySem.W.Frag} {H:Hp} {Q:VK} {a:Addr} {xs:List V} {lo hi:Option Int} (ha:H a=some (.tup xs)) (k:∀t H',Same H H'→H' t=some (.tup (cutV xs lo hi))→Q (.ref t) H'):rSlTA K (.ref a) lo hi H Q:=by
 refine ⟨a,xs,rfl,SqT.of ha,fun w=>k a H (Cp H) ?_,fun _ p hp=>k p _ (Ac hp) Ab⟩
 have:cutV xs lo hi=xs:=by
  unfold cutV
  rw [w.1,w.2]
  simp
 rw [this]
 exact ha
theorem noPart {σ:L2.St} {H:Hp} {f:Option Int→Hp→Prop} (h:f none H):tNoPart σ H f:=h
end Wk
namespace L2
open PySem PySem.Spec PyProof.Rows
end L2
namespace PySem
namespace F
end F
end PySem
namespace PySem
namespace F
end F
end PySem
namespace PySem
end PySem
namespace L2
open PySem PySem.Spec PyProof.Rows
end L2
namespace L2
open PySem PySem.Spec PyProof.Rows
end L2
namespace PySem
open PySem.Spec PyProof.Rows
end PySem
namespace L2
open PySem PySem.Spec PyProof.Rows
end L2
namespace Wk
open PySem L2
theorem goF_app {S:List T4} {ys:List Str}:∀{xs:List Str} {p u:Nat},goF S p xs=some u→goF S p (xs++ys)=goF S u ys
 |[],p,u,h=>by cases h;rfl
 |n::xs,p,u,h=>by
  show (match B7 S p n with|none=>none|some z=>goF S z (xs++ys))=_
  have h:(match B7 S p n with|none=>none|some z=>goF S z xs)=some u:=h
  cases g:B7 S p n with
  |none=>rw [g] at h;cases h
  |some z=>rw [g] at h;exact goF_app h
theorem goF_cut {S:List T4} {ys:List Str}:∀{xs:List Str} {p q:Nat},goF S p (xs++ys)=some q→∃u,goF S p xs=some u∧goF S u ys=some q
 |[],p,q,h=>⟨p,rfl,h⟩
 |n::xs,p,q,h=>by
  have h:(match B7 S p n with|none=>none|some z=>goF S z (xs++ys))=some q:=h
  cases g:B7 S p n with
  |none=>rw [g] at h;cases h
  |some z=>
   rw [g] at h
   obtain ⟨u,h1,h2⟩:=goF_cut h
   refine ⟨u,?_,h2⟩
   show (match B7 S p n with|none=>none|some z=>goF S z xs)=_
   rw [g];exact h1
theorem over_at {S:List T4} {v u:Nat} {n:Str} (h:B7 S v n=some u):∃t∈S,t.1=n∧((v=t.2.1∧u=t.2.2.1)∨(v=t.2.2.1∧u=t.2.1)):=by
 unfold B7 at h
 cases g:S.find? fun t=>decide (t.1=n) with
 |none=>rw [g] at h;cases h
 |some t=>
  rw [g] at h
  have h:(if v=t.2.1 then some t.2.2.1 else if v=t.2.2.1 then some t.2.1 else none)=some u:=h
  refine ⟨t,List.mem_of_find?_eq_some g,by simpa using List.find?_some g,?_⟩
  split at h
  ·rename_i e;exact .inl ⟨e,(Option.some.inj h).symm⟩
  ·split at h
   ·rename_i e;exact .inr ⟨e,(Option.some.inj h).symm⟩
   ·cases h
theorem over_back {S:List T4} (nd:(S.map (·.1)).Nodup) {v u:Nat} {n:Str} (h:B7 S v n=some u):B7 S u n=some v:=by
 obtain ⟨t,ht,rfl,⟨e1,e2⟩|⟨e1,e2⟩⟩:=over_at h
 ·rw [e1,e2];exact (over_tie nd ht).2
 ·rw [e1,e2];exact (over_tie nd ht).1
theorem over_lt {N:Nat} {S:List T4} (SN:InN N S) {v u:Nat} {n:Str} (h:B7 S v n=some u):u<N:=by
 obtain ⟨t,ht,_,⟨_,e⟩|⟨_,e⟩⟩:=over_at h
 ·rw [e];exact (SN t ht).2
 ·rw [e];exact (SN t ht).1
theorem goF_lt {N:Nat} {S:List T4} (SN:InN N S):∀{ws:List Str} {p q:Nat},p<N→goF S p ws=some q→q<N
 |[],p,q,hp,h=>by cases h;exact hp
 |n::ws,p,q,hp,h=>by
  have h:(match B7 S p n with|none=>none|some z=>goF S z ws)=some q:=h
  cases g:B7 S p n with
  |none=>rw [g] at h;cases h
  |some z=>rw [g] at h;exact goF_lt SN (over_lt SN g) h
theorem goF_one {S:List T4} {p u:Nat} {n:Str} (h:B7 S p n=some u):goF S p [n]=some u:=by
 show (match B7 S p n with|none=>none|some z=>goF S z [])=_
 rw [h];rfl
theorem goF_rev {S:List T4} (nd:(S.map (·.1)).Nodup):∀{ws:List Str} {p q:Nat},goF S p ws=some q→goF S q ws.reverse=some p
 |[],p,q,h=>by cases h;rfl
 |n::ws,p,q,h=>by
  have h:(match B7 S p n with|none=>none|some z=>goF S z ws)=some q:=h
  cases g:B7 S p n with
  |none=>rw [g] at h;cases h
  |some z=>
   rw [g] at h
   rw [List.reverse_cons,goF_app (goF_rev nd h)]
   exact goF_one (over_back nd g)
def Ring (N:Nat) (S:List T4) (ws:List Str):Prop:=ws.length % 2=1∧∃p,p<N∧goF S p ws=some p
theorem go_sides {S:List T4} {f:Nat→Int} (two:∀v,f v=0∨f v=1) (h:∀t∈S,f t.2.1≠f t.2.2.1):∀{ws:List Str} {p q:Nat},goF S p ws=some q→(ws.length % 2=0↔f p=f q)
 |[],p,q,g=>by cases g;simp
 |n::ws,p,q,g=>by
  have g:(match B7 S p n with|none=>none|some z=>goF S z ws)=some q:=g
  cases o:B7 S p n with
  |none=>rw [o] at g;cases g
  |some z=>
   rw [o] at g
   have ih:=go_sides two h g
   have hne:f p≠f z:=by
    obtain ⟨t,ht,_,⟨e1,e2⟩|⟨e1,e2⟩⟩:=over_at o
    ·rw [e1,e2];exact h t ht
    ·rw [e1,e2];exact Ne.symm (h t ht)
   have a:=two p
   have b:=two z
   have c:=two q
   rw [List.length_cons]
   constructor
   ·intro e
    have:¬f z=f q:=fun k=>by have:=ih.mpr k;omega
    omega
   ·intro e
    have:¬ws.length % 2=0:=fun k=>by have:=ih.mp k;omega
    omega
theorem ring_sides {N:Nat} {S:List T4} {f:Nat→Int} {ws:List Str} (hr:Ring N S ws) (two:∀v,f v=0∨f v=1):¬∀t∈S,f t.2.1≠f t.2.2.1:=fun h=>by
 obtain ⟨h1,p,hp,g⟩:=hr
 have:=(go_sides two h g).mpr rfl
 omega
end Wk
namespace Wk
open PySem L2
theorem lead_go {S:List T4} (nd:(S.map (·.1)).Nodup) {a b:Nat} {ws:List Str} (h:Lead S a ws b):goF S a ws=some b:=by
 induction h with
 |nil=>rfl
 | @snoc ws b c n _ q ih=>
  rw [goF_snoc ih]
  obtain ⟨t,ht,rfl,⟨e1,e2⟩|⟨e1,e2⟩⟩:=nb_elim q
  ·rw [←e1,←e2];exact (over_tie nd ht).1
  ·rw [←e1,←e2];exact (over_tie nd ht).2
def lsF (N:Nat) (S:List T4):List Nat:=(List.range N).filter fun p=>decide ((Bd N S p)[0]? =some p)
theorem part_eq {N p q:Nat} {S:List T4} (hS:InN N S) (hp:p<N) (hq:q<N) (hN:N≤60) (h:Reach S p q):Bd N S p=Bd N S q:=by
 rw [part_lab hS hp hN,part_lab hS hq hN,(lab_iff hS hp hq).mpr h]
theorem part_self {N p:Nat} {S:List T4} (hS:InN N S) (hp:p<N) (hN:N≤60):p∈Bd N S p:=(C1 hS hp hN).mpr ⟨hp,.refl⟩
theorem part_head {N p:Nat} {S:List T4} (hS:InN N S) (hp:p<N) (hN:N≤60):∃q,(Bd N S p)[0]? =some q∧q∈lsF N S∧Reach S q p:=by
 have hm:=part_self hS hp hN
 have hl:0<(Bd N S p).length:=List.length_pos_of_mem hm
 have h0:=Cc hl
 refine ⟨_,h0,?_⟩
 have hq:=(C1 hS hp hN).mp (List.getElem_mem hl)
 refine ⟨List.mem_filter.mpr ⟨List.mem_range.mpr hq.1,?_⟩,hq.2.symm⟩
 rw [decide_eq_true_eq,←part_eq hS hp hq.1 hN hq.2]
 exact h0
theorem ls_uniq {N p q:Nat} {S:List T4} (hS:InN N S) (hN:N≤60) (hp:p∈lsF N S) (hq:q∈lsF N S) (h:Reach S p q):p=q:=by
 obtain ⟨p1,p2⟩:=List.mem_filter.mp hp
 obtain ⟨q1,q2⟩:=List.mem_filter.mp hq
 rw [decide_eq_true_eq] at p2 q2
 rw [part_eq hS (List.mem_range.mp p1) (List.mem_range.mp q1) hN h,q2] at p2
 exact (Option.some.inj p2).symm
theorem ls_lt {N p:Nat} {S:List T4} (hp:p∈lsF N S):p<N:=List.mem_range.mp (List.mem_filter.mp hp).1
def FL (N:Nat) (S:List T4) (v:Nat) (ws:List Str):Prop:=∃p∈lsF N S,Vis (waysF N S p) v ws
theorem FL.len {N v:Nat} {S:List T4} {ws:List Str} (hS:InN N S) (h:FL N S v ws):ws.length≤N:=by
 obtain ⟨p,hp,hv⟩:=h
 exact ways_short hS (ls_lt hp) hv
theorem FL.tie {N:Nat} {S:List T4} {x y:List Str} {t:T4} (hS:InN N S) (hN:N≤60) (ht:t∈S) (hx:FL N S t.2.1 x) (hy:FL N S t.2.2.1 y):∃p,p<N∧Lead S p x t.2.1∧Lead S p y t.2.2.1∧x.length≤y.length+1∧y.length≤x.length+1:=by
 obtain ⟨p,hp,vx⟩:=hx
 obtain ⟨q,hq,vy⟩:=hy
 have pN:=ls_lt hp
 have qN:=ls_lt hq
 have lx:=ways_lead hS pN hN vx
 have ly:=ways_lead hS qN hN vy
 have e:p=q:=ls_uniq hS hN hp hq ((Reach.trans ⟨x,lx⟩ (.step (nb_of ht))).trans (Reach.symm ⟨y,ly⟩))
 subst e
 obtain ⟨y',vy',hy'⟩:=ways_least hS pN hN (Lead.snoc lx (nb_of ht))
 obtain ⟨x',vx',hx'⟩:=ways_least hS pN hN (Lead.snoc ly (nb_symm (nb_of ht)))
 rw [vis_inj vy' vy,List.length_append] at hy'
 rw [vis_inj vx' vx,List.length_append] at hx'
 exact ⟨p,pN,lx,ly,hx',hy'⟩
def Two (S:List T4):Prop:=∃f:Nat→Int,(∀v,f v=0∨f v=1)∧∀t∈S,f t.2.1≠f t.2.2.1
theorem Two.mono {S S':List T4} (h:Two S) (s:∀t∈S',t∈S):Two S':=let ⟨f,a,b⟩:=h;⟨f,a,fun t ht=>b t (s t ht)⟩
theorem Ring.not {N:Nat} {S:List T4} {ws:List Str} (h:Ring N S ws):¬Two S:=fun ⟨f,a,b⟩=>ring_sides h a b
theorem ring_made {N p:Nat} {S:List T4} {x y c x' y':List Str} {t:T4} (hS:InN N S) (nd:(S.map (·.1)).Nodup) (pN:p<N) (ht:t∈S) (lx:Lead S p x t.2.1) (ly:Lead S p y t.2.2.1) (ex:x=c++x') (ey:y=c++y') (hl:x.length=y.length):Ring N S (x'++[t.1]++y'.reverse):=by
 have gx:=lead_go nd lx
 have gy:=lead_go nd ly
 rw [ex] at gx
 rw [ey] at gy
 obtain ⟨u,hu,h1⟩:=goF_cut gx
 obtain ⟨u',hu',h2⟩:=goF_cut gy
 rw [hu] at hu'
 cases hu'
 have hl':x'.length=y'.length:=by rw [ex,ey,List.length_append,List.length_append] at hl;omega
 refine ⟨by rw [List.length_append,List.length_append,List.length_reverse];show (_+1+_) % 2=1;omega,u,goF_lt hS pN hu,?_⟩
 have h3:goF S t.2.1 [t.1]=some t.2.2.1:=goF_one (over_tie nd ht).1
 rw [List.append_assoc,goF_app h1,goF_app h3]
 exact goF_rev nd h2
end Wk
namespace Wk
open PySem L2
end Wk
namespace Wk
open PySem L2
def Par (N:Nat) (S:List T4) (v:Nat) (s:Int):Prop:=∃p∈lsF N S,∃ws,Lead S p ws v∧s=((ws.length % 2:Nat):Int)
theorem FL.par {N v:Nat} {S:List T4} {ws:List Str} (hS:InN N S) (hN:N≤60) (h:FL N S v ws):Par N S v ((ws.length % 2:Nat):Int):=by
 obtain ⟨p,hp,hv⟩:=h
 exact ⟨p,hp,ws,ways_lead hS (ls_lt hp) hN hv,rfl⟩
end Wk
namespace L2
open PySem
section
variable {g:TG} {tb:TS} {D:Ends} {σ:St} {H:Hp}
theorem for_tupH {K:PySem.W.Frag} {a:Addr} {xs:List V} (Pv:Nat→St→Hp→Prop) (h0:Pv 0 σ H) (hl:∀i σ H,i≤xs.length→Pv i σ H→SqT K H a xs)
  (hs:∀i x σ H,xs[i]? =some x→Pv i σ H→∀E:Ends,(∀σ H,Pv (i+1) σ H→E.nx σ H)→(∀v H,D.rt v H→E.rt v H)→g x σ H fun σ2 H2=>tb E σ2 H2) (hd:∀σ H,Pv xs.length σ H→D.nx σ H):
  ∃W:Nat→Nat→St→Hp→Prop,(∃m,W 0 m σ H)∧∀i m σ H,W i m σ H→
   ((Itt K a).stop i H∧D.nx σ H)∨((Itt K a).go i H∧∃N:St→Hp→Prop,(∀σ' H',N σ' H'→∃m',m'<m∧W (i+1) m' σ' H')∧∀x H',(Itt K a).yld i H x H'→g x σ H' fun σ2 H2=>tb {D with nx:=N,ct:=N,bk:=D.nx} σ2 H2):=
 for_tup Pv h0 hl (fun i x σ H hx p=>hs i x σ H hx p _ (fun _ _ h=>h) (fun _ _ h=>h)) hd
theorem for_listH {K:PySem.W.Frag} {a:Addr} {xs:List V} (Pv:Nat→St→Hp→Prop) (h0:Pv 0 σ H) (hl:∀i σ H,i≤xs.length→Pv i σ H→SqL K H a xs)
  (hs:∀i x σ H,xs[i]? =some x→Pv i σ H→∀E:Ends,(∀σ H,Pv (i+1) σ H→E.nx σ H)→(∀v H,D.rt v H→E.rt v H)→g x σ H fun σ2 H2=>tb E σ2 H2) (hd:∀σ H,Pv xs.length σ H→D.nx σ H):
  ∃W:Nat→Nat→St→Hp→Prop,(∃m,W 0 m σ H)∧∀i m σ H,W i m σ H→
   ((Itl K a).stop i H∧D.nx σ H)∨((Itl K a).go i H∧∃N:St→Hp→Prop,(∀σ' H',N σ' H'→∃m',m'<m∧W (i+1) m' σ' H')∧∀x H',(Itl K a).yld i H x H'→g x σ H' fun σ2 H2=>tb {D with nx:=N,ct:=N,bk:=D.nx} σ2 H2):=
 for_list Pv h0 hl (fun i x σ H hx p=>hs i x σ H hx p _ (fun _ _ h=>h) (fun _ _ h=>h)) hd
theorem while_ghH {c:TT} (Pv:Nat→St→Hp→Prop) {m0:Nat} (h0:Pv m0 σ H)
  (hs:∀m σ H,Pv m σ H→∀E:Ends,(∀m' σ' H',m'<m→Pv m' σ' H'→E.nx σ' H')→(∀v H,D.rt v H→E.rt v H)→c σ H fun b H1=>if b=true then tb E σ H1 else D.nx σ H1)
  (mono:∀σ H Q Q',(∀b H1,Q b H1→Q' b H1)→c σ H Q→c σ H Q'):tWhile c tb D σ H:=
 while_gh Pv h0 (fun m σ H p=>hs m σ H p _ (fun m' _ _ l h=>⟨m',l,h⟩) (fun _ _ h=>h)) mono
end
end L2
namespace StT
open PySem
end StT
namespace StT
open PySem
end StT
namespace StT
open PySem
end StT
namespace StT
open PySem PyProof.Rows
end StT
namespace StT
open PySem PyProof.Rows
end StT
namespace StT
open PySem PyProof.Rows
end StT
namespace StT
open PySem PyProof.Rows
end StT
namespace StT
open PySem PyProof.Rows
end StT
namespace StT
open PySem PyProof.Rows
end StT
namespace Srt
open PySem PySem.W PyProof.Rows
end Srt
namespace StT
open PySem PyProof.Rows L2
end StT
namespace StT
open PySem PySem.W PyProof.Rows L2 Srt
end StT
namespace L2
open PySem PySem.W PyProof.Rows StT
end L2
namespace L2
open PySem PySem.W PySem.Spec PyProof.Rows StT Srt
end L2
namespace Wk
open PySem L2
noncomputable def leastB (P:List T4) (v:Nat):Bool:= @decide (∀u,u<v→¬Reach P u v) (Classical.propDecidable _)
noncomputable def clsF (N:Nat) (P:List T4):Nat:=(List.range N).countP (leastB P)
theorem least_iff {P:List T4} {v:Nat}:leastB P v=true↔∀u,u<v→¬Reach P u v:=by
 unfold leastB
 exact @decide_eq_true_iff _ (Classical.propDecidable _)
theorem cls_congr {N:Nat} {P R:List T4} (h:∀a b,a<N→b<N→(Reach P a b↔Reach R a b)):clsF N P=clsF N R:=by
 unfold clsF
 refine List.countP_congr fun v hv=> ?_
 have hv:=List.mem_range.mp hv
 rw [least_iff,least_iff]
 exact ⟨fun q u hu r=>q u hu ((h u v (by omega) hv).mpr r),fun q u hu r=>q u hu ((h u v (by omega) hv).mp r)⟩
theorem cls_nil (N:Nat):clsF N []=N:=by
 unfold clsF
 have:∀v∈List.range N,leastB [] v=true:=fun v _=>by
  rw [least_iff]
  rintro u hu ⟨x,hx⟩
  cases hx with
  |nil=>omega
  |snoc _ q=>simp [Br] at q
 rw [List.countP_eq_length.mpr this,List.length_range]
theorem least_of {P:List T4}:∀v:Nat,∃m,m≤v∧Reach P m v∧leastB P m=true:=by
 intro v
 induction v using Nat.strongRecOn with
 |_ v ih=>
  by_cases h:leastB P v=true
  ·exact ⟨v,Nat.le_refl _,.refl,h⟩
  ·rw [least_iff] at h
   simp only [Classical.not_forall,Classical.not_not] at h
   obtain ⟨u,hu,r⟩:=h
   obtain ⟨m,hm,rm,lm⟩:=ih u hu
   exact ⟨m,by omega,rm.trans r,lm⟩
theorem least_uniq {P:List T4} {m n:Nat} (hm:leastB P m=true) (hn:leastB P n=true) (r:Reach P m n):m=n:=by
 rw [least_iff] at hm hn
 rcases Nat.lt_trichotomy m n with h|h|h
 ·exact absurd r (hn m h)
 ·exact h
 ·exact absurd r.symm (hm n h)
theorem reach_snoc {P:List T4} {t:T4} {a b:Nat}:Reach (P++[t]) a b↔Reach P a b∨(Reach P a t.2.1∧Reach P t.2.2.1 b)∨(Reach P a t.2.2.1∧Reach P t.2.1 b):=by
 have mono:∀{a b},Reach P a b→Reach (P++[t]) a b:=fun r=>r.mono fun x hx=>List.mem_append_left _ hx
 have tie:Reach (P++[t]) t.2.1 t.2.2.1:= .step (nb_of (List.mem_append_right _ (List.mem_singleton.mpr rfl)))
 constructor
 ·rintro ⟨x,hx⟩
  induction hx with
  |nil=>exact .inl .refl
  | @snoc ws b c n _ q ih=>
   obtain ⟨t',ht',_,hh⟩:=nb_elim q
   rcases List.mem_append.mp ht' with ht'|ht'
   ·have st:Reach P b c:=by
     rcases hh with ⟨rfl,rfl⟩|⟨rfl,rfl⟩
     ·exact .step (nb_of ht')
     ·exact (Reach.step (nb_of ht')).symm
    rcases ih with h|⟨h1,h2⟩|⟨h1,h2⟩
    ·exact .inl (h.trans st)
    ·exact .inr (.inl ⟨h1,h2.trans st⟩)
    ·exact .inr (.inr ⟨h1,h2.trans st⟩)
   ·rw [List.mem_singleton.mp ht'] at hh
    rcases hh with ⟨e1,e2⟩|⟨e1,e2⟩
    ·subst e1;subst e2
     rcases ih with h|⟨h1,h2⟩|⟨h1,h2⟩
     ·exact .inr (.inl ⟨h,.refl⟩)
     ·exact .inr (.inl ⟨h1,.refl⟩)
     ·exact .inl h1
    ·subst e1;subst e2
     rcases ih with h|⟨h1,h2⟩|⟨h1,h2⟩
     ·exact .inr (.inr ⟨h,.refl⟩)
     ·exact .inl h1
     ·exact .inr (.inr ⟨h1,.refl⟩)
 ·rintro (h|⟨h1,h2⟩|⟨h1,h2⟩)
  ·exact mono h
  ·exact ((mono h1).trans tie).trans (mono h2)
  ·exact ((mono h1).trans tie.symm).trans (mono h2)
theorem cls_same {N:Nat} {P:List T4} {t:T4} (h:Reach P t.2.1 t.2.2.1):clsF N (P++[t])=clsF N P:=by
 refine cls_congr fun a b _ _=> ?_
 rw [reach_snoc]
 constructor
 ·rintro (q|⟨q1,q2⟩|⟨q1,q2⟩)
  ·exact q
  ·exact (q1.trans h).trans q2
  ·exact (q1.trans h.symm).trans q2
 ·exact .inl
theorem countP_one {p q:Nat→Bool} {x N:Nat} (hx:x<N) (px:p x=true) (h:∀v,v<N→(q v=true↔p v=true∧v≠x)):(List.range N).countP q+1=(List.range N).countP p:=by
 induction N with
 |zero=>omega
 |succ N ih=>
  rw [List.range_succ,List.countP_append,List.countP_append,List.countP_singleton,List.countP_singleton]
  by_cases e:x=N
  ·subst e
   have hq:q x=false:=by
    cases z:q x with
    |false=>rfl
    |true=>exact absurd rfl ((h x hx).mp z).2
   have:(List.range x).countP q=(List.range x).countP p:=List.countP_congr fun v hv=>by
    have hv:=List.mem_range.mp hv
    rw [h v (by omega)]
    exact ⟨fun z=>z.1,fun z=>⟨z,by omega⟩⟩
   rw [this,hq,px];simp
  ·have:=ih (by omega) fun v hv=>h v (by omega)
   have e2:q N=p N:=by
    rw [Bool.eq_iff_iff,h N (by omega)]
    exact ⟨fun z=>z.1,fun z=>⟨z,Ne.symm e⟩⟩
   rw [e2];omega
theorem cls_less {N:Nat} {P:List T4} {t:T4} (h1:t.2.1<N) (h2:t.2.2.1<N) (h:¬Reach P t.2.1 t.2.2.1):clsF N (P++[t])+1=clsF N P:=by
 obtain ⟨m1,l1,r1,k1⟩:=least_of (P:=P) t.2.1
 obtain ⟨m2,l2,r2,k2⟩:=least_of (P:=P) t.2.2.1
 have hne:m1≠m2:=fun e=>h (r1.symm.trans (e▸r2))
 have mono:∀{a b},Reach P a b→Reach (P++[t]) a b:=fun r=>r.mono fun x hx=>List.mem_append_left _ hx
 have tie:Reach (P++[t]) t.2.1 t.2.2.1:= .step (nb_of (List.mem_append_right _ (List.mem_singleton.mpr rfl)))
 have r12:Reach (P++[t]) m1 m2:=((mono r1).trans tie).trans (mono r2).symm
 refine countP_one (x:=max m1 m2) (by omega) ?_ fun v hv=> ?_
 ·rcases Nat.le_total m1 m2 with q|q
  ·rw [Nat.max_eq_right q];exact k2
  ·rw [Nat.max_eq_left q];exact k1
 constructor
 ·intro q
  rw [least_iff] at q
  refine ⟨least_iff.mpr fun u hu r=>q u hu (mono r),fun e=> ?_⟩
  rcases Nat.lt_or_gt_of_ne hne with z|z
  ·rw [Nat.max_eq_right (by omega)] at e
   exact q m1 (by omega) (e▸r12)
  ·rw [Nat.max_eq_left (by omega)] at e
   exact q m2 (by omega) (e▸r12.symm)
 ·rintro ⟨q,hx⟩
  have q':=q
  rw [least_iff] at q ⊢
  intro u hu r
  rcases reach_snoc.mp r with z|⟨z1,z2⟩|⟨z1,z2⟩
  ·exact q u hu z
  ·-- v is the least of the other's class,u of the one's
   have ev:m2=v:=least_uniq k2 q' (r2.trans z2)
   have:m1≤u:=by
    obtain ⟨m,lm,rm,km⟩:=least_of (P:=P) u
    have:m1=m:=least_uniq k1 km (r1.trans (z1.symm.trans rm.symm))
    omega
   omega
  ·have ev:m1=v:=least_uniq k1 q' (r1.trans z2)
   have:m2≤u:=by
    obtain ⟨m,lm,rm,km⟩:=least_of (P:=P) u
    have:m2=m:=least_uniq k2 km (r2.trans (z1.symm.trans rm.symm))
    omega
   omega
end Wk
namespace Wk
open PySem L2
section
variable {N:Nat} {S S':List T4} {t:T4} (hS:InN N S) (hN:N≤60) (nd:(S.map (·.1)).Nodup) (hS':InN N S') (hm:∀u,u∈S'↔u∈S∨u=t)
include hS hN hS' hm
end
section
variable {N:Nat} {S S':List T4} {x:T4} (hS:InN N S) (hN:N≤60) (nd:(S.map (·.1)).Nodup) (hx:x∈S) (hm:∀u,u∈S'↔u∈S∧u.1≠x.1)
include hS hN nd hx hm
end
end Wk
namespace Wk
open PySem L2
section
variable {N:Nat} {S S':List T4} {t:T4} (hS:InN N S) (hN:N≤60) (nd:(S.map (·.1)).Nodup) (hn:t.1 ∉ S.map (·.1)) (hp:S'.Perm (S++[t])) (hS':InN N S') (sr':NmS (S'.map (·.1)))
include hS hN nd hn hp hS' sr'
end
section
variable {N:Nat} {S:List T4} {x:T4} (hS:InN N S) (hN:N≤60) (nd:(S.map (·.1)).Nodup) (sr:NmS (S.map (·.1))) (hx:x∈S)
include hS hN nd sr hx
end
end Wk
namespace L2
open PySem PySem.Spec PyProof.Rows
def Flt:V→V→Bool
 | .non,.non=>true
 | .non,.bl _=>true
 | .non,.int _=>true
 | .non,.str _=>true
 | .bl _,.non=>true
 | .bl _,.bl _=>true
 | .bl _,.str _=>true
 | .int _,.non=>true
 | .int _,.int _=>true
 | .int _,.str _=>true
 | .str _,.non=>true
 | .str _,.bl _=>true
 | .str _,.int _=>true
 | .str _,.str _=>true
 |_,_=>false
def Eqs (K:PySem.W.Frag) (H:Hp):Nat→V→V→Bool→Prop
 |0,x,y,b=>Flt x y=true∧b=decide (x=y)
 |n+1,x,y,b=>(Flt x y=true∧b=decide (x=y))∨
  (∃(a c:Addr) (xs ys:List V) (e:Nat→Bool),x= .ref a∧y= .ref c∧((SqT K H a xs∧SqT K H c ys)∨(SqL K H a xs∧SqL K H c ys))∧(∀(j:Nat) p q,xs[j]? =some p→ys[j]? =some q→Eqs K H n p q (e j))∧b=((List.range (min xs.length ys.length)).all e && xs.length==ys.length))∨
  (∃(a:Addr) (xs:List V),x= .ref a∧y= .non∧SqT K H a xs∧b=false)∨
  (∃(a:Addr) (xs:List V),x= .non∧y= .ref a∧SqT K H a xs∧b=false)
theorem Eqs.flat {K:PySem.W.Frag} {H:Hp} {n:Nat} {x y:V} (h:Flt x y=true):Eqs K H n x y (decide (x=y)):=by
 cases n with
 |zero=>exact ⟨h,rfl⟩
 |succ n=>exact .inl ⟨h,rfl⟩
theorem all_dec {α:Type} [DecidableEq α] {xs ys:List V} {ds es:List α} (l1:ds.length=xs.length) (l2:es.length=ys.length):((List.range (min xs.length ys.length)).all (fun j=>decide (ds[j]? =es[j]?)) && xs.length==ys.length)=decide (ds=es):=by
 by_cases h:xs.length=ys.length
 ·rw [Bool.eq_iff_iff,Bool.and_eq_true,List.all_eq_true,decide_eq_true_eq]
  constructor
  ·rintro ⟨ha,_⟩
   refine List.ext_getElem? fun i=> ?_
   by_cases hi:i<xs.length
   ·exact of_decide_eq_true (ha i (List.mem_range.mpr (by omega)))
   ·rw [List.getElem?_eq_none (by omega),List.getElem?_eq_none (by omega)]
  ·rintro rfl
   exact ⟨fun j _=>decide_eq_true rfl,by simpa using h⟩
 ·have:(xs.length==ys.length)=false:=by simpa using h
  rw [this,Bool.and_false,decide_eq_false fun e=>h (by rw [←l1,←l2,e])]
theorem Eqs.seq {K:PySem.W.Frag} {H:Hp} {n:Nat} {a c:Addr} {xs ys:List V} {α:Type} [DecidableEq α] {ds es:List α} (hh:(SqT K H a xs∧SqT K H c ys)∨(SqL K H a xs∧SqL K H c ys)) (l1:ds.length=xs.length) (l2:es.length=ys.length)
  (h:∀(j:Nat) p q d e,xs[j]? =some p→ys[j]? =some q→ds[j]? =some d→es[j]? =some e→Eqs K H n p q (decide (d=e))):Eqs K H (n+1) (.ref a) (.ref c) (decide (ds=es)):=by
 refine .inr (.inl ⟨a,c,xs,ys,fun j=>decide (ds[j]? =es[j]?),rfl,rfl,hh,fun j p q hp hq=> ?_,(all_dec l1 l2).symm⟩)
 have j1:j<ds.length:=by rw [l1];exact (List.getElem?_eq_some_iff.mp hp).1
 have j2:j<es.length:=by rw [l2];exact (List.getElem?_eq_some_iff.mp hq).1
 have:=h j p q ds[j] es[j] hp hq (List.getElem?_eq_getElem j1) (List.getElem?_eq_getElem j2)
 show Eqs K H n p q (decide (ds[j]? =es[j]?))
 rw [List.getElem?_eq_getElem j1,List.getElem?_eq_getElem j2]
 have e:decide (some ds[j]=some es[j])=decide (ds[j]=es[j]):=by
  rw [Bool.eq_iff_iff,decide_eq_true_eq,decide_eq_true_eq]
  exact ⟨fun h=>Option.some.inj h,fun h=>by rw [h]⟩
 rw [e];exact this
section
variable {X:Cx} {pins:List (Addr×Obj)} {σ:St} {H:Hp} {s:Shared}
theorem eqs_refl (I:Inv X pins σ H s):∀(n:Nat) {x:V} {b:Bool},Eqs X.K H n x x b→b=true
 |0,x,b,⟨_,e⟩=>by rw [e,decide_eq_true rfl]
 |n+1,x,b,h=>by
  rcases h with ⟨_,e⟩|⟨a,c,xs,ys,e,e1,e2,hh,hj,eb⟩|⟨a,xs,e1,e2,_⟩|⟨a,xs,e1,e2,_⟩
  ·rw [e,decide_eq_true rfl]
  ·rw [e1] at e2
   injection e2 with e2
   subst e2
   have ex:xs=ys:=by
    rcases hh with ⟨h1,h2⟩|⟨h1,h2⟩
    ·exact I.tuple_inj h1 h2
    ·exact I.list_inj h1 h2
   subst ex
   rw [eb,Bool.and_eq_true]
   refine ⟨List.all_eq_true.mpr fun j hj'=> ?_,by simp⟩
   have hj':=List.mem_range.mp hj'
   have hjx:j<xs.length:=by omega
   exact eqs_refl I n (hj j _ _ (List.getElem?_eq_getElem hjx) (List.getElem?_eq_getElem hjx))
  ·rw [e1] at e2;cases e2
  ·rw [e1] at e2;cases e2
theorem flt_at {x y:V} {v u:Value} (h:Flt x y=true) (rx:RelV x v) (ry:RelV y u) (A:Around):SeqAt.EqAt A s v u (decide (x=y)):=by
 have sw:∀{b c:Bool},SeqAt.EqAt A s v u b→b=c→SeqAt.EqAt A s v u c:=fun h e=>e▸h
 cases x<;> cases y<;> simp only [Flt,Bool.false_eq_true] at h<;> simp only [RelV] at rx ry
 ·subst rx;subst ry;exact SeqAt.EqAt.same _
 ·subst rx;subst ry;exact sw (SeqAt.EqAt.none_bool _) (by simp)
 ·obtain ⟨t,rfl⟩:=ry;subst rx;exact sw (SeqAt.EqAt.none_int _ _) (by simp)
 ·obtain ⟨t,rfl⟩:=ry;subst rx;exact sw (SeqAt.EqAt.none_str _ _) (by simp)
 ·subst rx;subst ry;exact sw (SeqAt.EqAt.bool_none _) (by simp)
 ·subst rx;subst ry;exact sw (SeqAt.EqAt.bool_bool _ _) (by rw [Bool.eq_iff_iff];simp)
 ·obtain ⟨t,rfl⟩:=ry;subst rx;exact sw (SeqAt.EqAt.bool_str _ _ _) (by simp)
 ·obtain ⟨t,rfl⟩:=rx;subst ry;exact sw (SeqAt.EqAt.int_none _ _) (by simp)
 ·obtain ⟨t,rfl⟩:=rx;obtain ⟨t',rfl⟩:=ry;exact sw (SeqAt.EqAt.int_int _ _ _ _) (by rw [Bool.eq_iff_iff];simp)
 ·obtain ⟨t,rfl⟩:=rx;obtain ⟨t',rfl⟩:=ry;exact sw (SeqAt.EqAt.int_str _ _ _ _) (by simp)
 ·obtain ⟨t,rfl⟩:=rx;subst ry;exact sw (SeqAt.EqAt.str_none _ _) (by simp)
 ·obtain ⟨t,rfl⟩:=rx;subst ry;exact sw (SeqAt.EqAt.str_bool _ _ _) (by simp)
 ·obtain ⟨t,rfl⟩:=rx;obtain ⟨t',rfl⟩:=ry;exact sw (SeqAt.EqAt.str_int _ _ _ _) (by simp)
 ·obtain ⟨t,rfl⟩:=rx;obtain ⟨t',rfl⟩:=ry;exact sw (SeqAt.EqAt.str_str _ _ _ _) (by rw [Bool.eq_iff_iff];simp)
theorem val_at {xs:List V} {its:List Value} (r:Vals xs its) {j:Nat} (h:j<its.toArray.size):∃x,xs[j]? =some x∧RelV x its.toArray[j]:=by
 have l:=r.length
 have hj:j<xs.length:=by simpa [l] using h
 obtain ⟨v,e,rv⟩:=r.get (i:=j) (x:=xs[j]) (by simp [hj])
 have w1:its.toArray[j]=v:=by
  have:=(List.getElem?_eq_some_iff.mp e).2
  simpa using this
 exact ⟨xs[j],by simp [hj],by rw [w1];exact rv⟩
theorem in1_units (A:Around):A.in1.units≤A.units+1:=by first|exact Nat.le_refl _|exact Nat.le_succ _
theorem eqs_at (I:Inv X pins σ H s):∀(n:Nat) {x y:V} {b:Bool} {v u:Value} {A:Around},A.units+n<cLine→Eqs X.K H n x y b→RelV x v→RelV y u→SeqAt.EqAt A s v u b
 |0,x,y,b,v,u,A,_,⟨h,e⟩,rx,ry=>by rw [e];exact flt_at h rx ry A
 |n+1,x,y,b,v,u,A,hu,h,rx,ry=>by
  rcases id h with ⟨h,e⟩|⟨a,c,xs,ys,e,rfl,rfl,hh,hj,eb⟩|⟨a,xs,rfl,rfl,h1,e⟩|⟨a,xs,rfl,rfl,h1,e⟩
  ·rw [e];exact flt_at h rx ry A
  ·cases rx
   cases ry
   by_cases hne:a=c
   ·subst hne
    rw [eqs_refl I (n+1) h]
    exact SeqAt.EqAt.same _
   refine SeqAt.EqAt.of_refs hne ?_
   have iu:=in1_units A
   rcases hh with ⟨h1,h2⟩|⟨h1,h2⟩
   ·obtain ⟨its,r1,p1,_⟩:=I.tuple h1
    obtain ⟨its2,r2,p2,_⟩:=I.tuple h2
    have:=SeqAt.RcAt.tuples (A:=A) (e:=e) p1 p2 (by omega) fun j j1 j2=> ?_
    ·rw [List.size_toArray,List.size_toArray,←r1.length,←r2.length] at this
     rw [eb];exact this
    ·obtain ⟨p,ep,rp⟩:=val_at r1 j1
     obtain ⟨q,eq,rq⟩:=val_at r2 j2
     exact eqs_at I n (by omega) (hj j p q ep eq) rp rq
   ·obtain ⟨its,r1,p1,_⟩:=I.list h1
    obtain ⟨its2,r2,p2,_⟩:=I.list h2
    have m1:=r1.length
    have m2:=r2.length
    by_cases hl:xs.length=ys.length
    ·have:=SeqAt.RcAt.lists (A:=A) (e:=e) p1.isList p2.isList (by rw [List.size_toArray,List.size_toArray];omega) (by omega) fun j j1 j2=> ?_
     ·rw [List.size_toArray,←m1] at this
      rw [eb,hl,Nat.min_self,←hl]
      simpa using this
     ·obtain ⟨p,ep,rp⟩:=val_at r1 j1
      obtain ⟨q,eq,rq⟩:=val_at r2 j2
      exact eqs_at I n (by omega) (hj j p q ep eq) rp rq
    ·have:=SeqAt.RcAt.lists_lengths (A:=A) p1.isList p2.isList (by rw [List.size_toArray,List.size_toArray];simp;omega) (by omega)
     have eb':b=false:=by rw [eb];simp [hl]
     rw [eb'];exact this
  ·cases rx
   cases ry
   obtain ⟨its,r1,p1,_⟩:=I.tuple h1
   rw [e];exact SeqAt.EqAt.tuple_none p1 (by omega)
  ·cases rx
   cases ry
   obtain ⟨its,r1,p1,_⟩:=I.tuple h1
   rw [e];exact SeqAt.EqAt.none_tuple p1 (by omega)
end
section
variable {X:Cx}
inductive RNesP (K:PySem.W.Frag) (x:V) (y:V) (H:Hp) (Q:VK):Prop
 |mk (n:Nat) (b:Bool) (a c:Addr):(x= .ref a)→(y= .ref c)→(n≤30)→(Eqs K H (n+1) x y b)→(Q (.bl (!b)) H)→RNesP K x y H Q
def rNes (K:PySem.W.Frag):V→V→Hp→VK→Prop:=fun x y H Q=>RNesP K x y H Q
theorem op_nes (hu:X.A.units+64<cLine):OpR X (compareOp .NotEq) (rNes X.K):=by
 intro pins s σ H x y v u Q I rx ry h
 obtain ⟨n,b,a,c,rfl,rfl,hn,h,q⟩:=h
 cases rx
 cases ry
 have iu:=in1_units X.A
 rcases h with ⟨h,_⟩|⟨a',c',xs,ys,e,e1,e2,hh,hj,eb⟩|⟨_,_,_,e2,_⟩|⟨_,_,e1,_⟩
 ·cases h
 ·cases e1
  cases e2
  rcases hh with ⟨h1,h2⟩|⟨h1,h2⟩
  ·obtain ⟨its,r1,p1,_⟩:=I.tuple h1
   obtain ⟨its2,r2,p2,_⟩:=I.tuple h2
   refine (SeqAt.RcNeAt.tuples (A:=X.A) (e:=e) p1 p2 (by omega) fun j j1 j2=> ?_) X.prog X.w X.xe _ ⟨.bl _,H,I,rfl,?_⟩
   ·obtain ⟨p,ep,rp⟩:=val_at r1 j1
    obtain ⟨q,eq,rq⟩:=val_at r2 j2
    exact eqs_at I n (by omega) (hj j p q ep eq) rp rq
   ·rw [List.size_toArray,List.size_toArray,←r1.length,←r2.length,←eb]
    exact q
  ·obtain ⟨its,r1,p1,_⟩:=I.list h1
   obtain ⟨its2,r2,p2,_⟩:=I.list h2
   have m1:=r1.length
   have m2:=r2.length
   by_cases hl:xs.length=ys.length
   ·refine (SeqAt.RcNeAt.lists (A:=X.A) (e:=e) p1.isList p2.isList (by rw [List.size_toArray,List.size_toArray];omega) (by omega) fun j j1 j2=> ?_) X.prog X.w X.xe _ ⟨.bl _,H,I,rfl,?_⟩
    ·obtain ⟨p,ep,rp⟩:=val_at r1 j1
     obtain ⟨q,eq,rq⟩:=val_at r2 j2
     exact eqs_at I n (by omega) (hj j p q ep eq) rp rq
    ·have:b=(List.range its.toArray.size).all e:=by
      rw [eb,hl,Nat.min_self,←hl,List.size_toArray,←m1]
      simp
     rw [←this];exact q
   ·refine (SeqAt.RcNeAt.lists_lengths (A:=X.A) p1.isList p2.isList (by rw [List.size_toArray,List.size_toArray];simp;omega) (by omega)) X.prog X.w X.xe _ ⟨.bl _,H,I,rfl,?_⟩
    have eb':b=false:=by rw [eb];simp [hl]
    rw [eb'] at q;exact q
 ·cases e2
 ·cases e1
end
end L2
namespace HT
open PySem PyProof.Rows L2
section
open PySem.SeqAt
open PySem.AutoSeq1 (wpAny_loadPart')
open PySem.MeetsSeq PySem.MeetsSeq2 PySem.MeetsSeq3
end
section
open PySem.SeqAt
open PySem.AutoSeq1 (wpAny_loadPart')
open PySem.MeetsSeq PySem.MeetsSeq2 PySem.MeetsSeq3
end
end HT
namespace L2
open PySem PySem.Spec PyProof.Rows
end L2
namespace Wk
open PySem L2
end Wk
namespace Wk
open PySem L2
end Wk
namespace Wk
open PySem L2
end Wk
namespace Wk
open PySem L2
end Wk
namespace Rp
open PySem L2 PySem.Spec PyProof.Rows PySem.P
mutual
inductive RepF (H:Hp):Bool→V→PyData→Prop
 |non {f:Bool}:RepF H f .non .none
 |bl {f:Bool} (b:Bool):RepF H f (.bl b) (.bool b)
 |int {f:Bool} (i:Int):RepF H f (.int i) (.int i)
 |str {f:Bool} (x:Str):RepF H f (.str x) (.str x)
 |tup {f:Bool} {a:Addr} {xs:List V} {ds:List PyData}:H a=some (.tup xs)→RepFs H f xs ds→RepF H f (.ref a) (.tuple ds)
 |lst {a:Addr} {xs:List V} {ds:List PyData}:H a=some (.lst xs)→RepFs H false xs ds→RepF H false (.ref a) (.list ds)
 |dct {a:Addr}:H a=some (.dK [])→RepF H true (.ref a) (.dict [])
 |dc1 {a:Addr} {x:Str} {i:Int}:H a=some (.dK [(.inr x,.int i)])→RepF H true (.ref a) (.dict [(.str x,.int i)])
inductive RepFs (H:Hp):Bool→List V→List PyData→Prop
 |nil {f:Bool}:RepFs H f [] []
 |cons {f:Bool} {x:V} {xs:List V} {d:PyData} {ds:List PyData}:RepF H f x d→RepFs H f xs ds→RepFs H f (x::xs) (d::ds)
end
mutual
theorem RepF.same {H H':Hp} (s:Same H H'):∀{f:Bool} {v:V} {d:PyData},RepF H f v d→RepF H' f v d
 |_,_,_,.non=> .non
 |_,_,_,.bl b=> .bl b
 |_,_,_,.int i=> .int i
 |_,_,_,.str x=> .str x
 |_,_,_,.tup e h=> .tup (s _ _ e) (RepFs.same s h)
 |_,_,_,.lst e h=> .lst (s _ _ e) (RepFs.same s h)
 |_,_,_,.dct e=> .dct (s _ _ e)
 |_,_,_,.dc1 e=> .dc1 (s _ _ e)
theorem RepFs.same {H H':Hp} (s:Same H H'):∀{f:Bool} {vs:List V} {ds:List PyData},RepFs H f vs ds→RepFs H' f vs ds
 |_,_,_,.nil=> .nil
 |_,_,_,.cons h t=> .cons (RepF.same s h) (RepFs.same s t)
end
mutual
theorem RepF.reads {X:Cx} {pins:List (Addr×Obj)} {σ:L2.St} {H:Hp} {s:Shared} (I:Inv X pins σ H s):∀{f:Bool} {v:V} {d:PyData} {u:Value},RepF H f v d→RelV v u→∃as,Reads s.heap u d as∧(f=true→sysModules ∉ as)
 |_,_,_,_,.non,r=>by cases r;exact ⟨_,.none,fun _=>by simp⟩
 |_,_,_,_,.bl b,r=>by cases r;exact ⟨_,.bool b,fun _=>by simp⟩
 |_,_,_,_,.int i,r=>by obtain ⟨t,rfl⟩:=r;exact ⟨_,.int i t,fun _=>by simp⟩
 |_,_,_,_,.str x,r=>by obtain ⟨t,rfl⟩:=r;exact ⟨_,.str x t,fun _=>by simp⟩
 |_,_,_,_,.tup e h,r=>by
  cases r
  obtain ⟨_,its,rv,o,e1,e2,_,n,e3⟩:=I.hok _ _ e
  obtain ⟨as,q,na⟩:=RepFs.reads I h rv
  exact ⟨as,.tuple e1 e2 e3 (by simpa using q),na⟩
 |_,_,_,_,.lst e h,r=>by
  cases r
  obtain ⟨_,its,n,rv,e1⟩:=I.hok _ _ e
  obtain ⟨as,q,na⟩:=RepFs.reads I h rv
  exact ⟨_,.list e1 rfl rfl (by simpa using q),fun z=>by cases z⟩
 |_,_,_,_,.dct (a:=a) e,r=>by
  cases r
  obtain ⟨_,ns,vs,kv,o,es,ep,e1,ex,e3,_,pr,_⟩:=I.hok _ _ e
  have hv:vs=[]:=by cases kv;rfl
  subst hv
  have he:es.toList=[]:=by
   have:=pr.length
   simpa using this
  refine ⟨a::[]++[],.dict (kvs:=[]) e1 ex.1 e3 (by rw [he];exact .nil) (by rw [he];exact .nil),fun _=> ?_⟩
  have:a≠sysModules:=by simpa using ns
  simpa using this.symm
 |_,_,_,_,.dc1 (a:=a) (x:=x) (i:=i) e,r=>by
  cases r
  obtain ⟨_,ns,vs,kv,o,es,ep,e1,ex,e3,_,pr,_⟩:=I.hok _ _ e
  obtain ⟨u,hv,t',hu⟩:∃u,vs=[(Sum.inr x,u)]∧∃t,u=Value.int i t:=by
   cases kv with
   | @cons _ b _ _ r1 r2=>
    cases r2
    obtain ⟨b1,b2⟩:=b
    obtain ⟨z,r1⟩:=r1
    cases z
    exact ⟨_,rfl,r1⟩
  subst hv
  generalize hes:es.toList=el at pr
  cases pr with
  | @cons en _ el _ h1 h2 h3=>
   cases h3
   obtain ⟨t,ht⟩:∃t,en.key=Value.str x t:=by
    rcases Bp (k:=Sum.inr x) (v:=en.key) h1 with ⟨_,_,z,_⟩|⟨y,t,z,e'⟩
    ·cases z
    ·cases z;exact ⟨t,e'⟩
   refine ⟨a::([]++[])++([]++[]),.dict (kvs:=[(.str x,.int i)]) e1 ex.1 e3 ?_ ?_,fun _=> ?_⟩
   ·rw [hes];show ReadsAll s.heap [en.key] [.str x] _;rw [ht];exact .cons (.str x t) .nil
   ·rw [hes];show ReadsAll s.heap [en.val] [.int i] _;rw [h2,hu];exact .cons (.int i t') .nil
   ·have:a≠sysModules:=by simpa using ns
    simpa using this.symm
theorem RepFs.reads {X:Cx} {pins:List (Addr×Obj)} {σ:L2.St} {H:Hp} {s:Shared} (I:Inv X pins σ H s):∀{f:Bool} {vs:List V} {ds:List PyData} {us:List Value},RepFs H f vs ds→Vals vs us→∃as,ReadsAll s.heap us ds as∧(f=true→sysModules ∉ as)
 |_,_,_,_,.nil,r=>by cases r;exact ⟨_,.nil,fun _=>by simp⟩
 |_,_,_,_,.cons h t,r=>by
  cases r with
  |cons r1 r2=>
   obtain ⟨as,q1,n1⟩:=RepF.reads I h r1
   obtain ⟨bs,q2,n2⟩:=RepFs.reads I t r2
   exact ⟨_,.cons q1 q2,fun z=>by simp [n1 z,n2 z]⟩
end
mutual
theorem RepF.nodict {H:Hp}:∀{v:V} {d:PyData},RepF H false v d→d.hasDict=false
 |_,_,.non=>rfl
 |_,_,.bl _=>rfl
 |_,_,.int _=>rfl
 |_,_,.str _=>rfl
 |_,_,.tup _ h=>by rw [PyData.hasDict];exact RepFs.nodict h
 |_,_,.lst _ h=>by rw [PyData.hasDict];exact RepFs.nodict h
theorem RepFs.nodict {H:Hp}:∀{vs:List V} {ds:List PyData},RepFs H false vs ds→PyData.hasDictAll ds=false
 |_,_,.nil=>rfl
 |_,_,.cons h t=>by rw [PyData.hasDictAll,RepF.nodict h,RepFs.nodict t];rfl
end
end Rp
namespace L2
open PySem PySem.Spec PyProof.Rows Rp PySem.P
section
variable {X:Cx}
theorem call_reprF (hu:X.A.units+64<cLine) (hg:X.A.guards=some []):CallR X (.builtin "repr") (fun xs H Q=>∃(v:V) (d:PyData) (f:Bool),xs=[v]∧RepF H f v d∧d.showable=true∧d.depth≤20∧d.shown.length≤sizeLine∧Q (.str d.shown) H):=by
 intro pins s σ H xs us Q I r h
 obtain ⟨v,d,f,rfl,hp,h1,h3,h4,q⟩:=h
 obtain ⟨u,rfl,rx⟩:=Cy r
 have hr:=hp.reads I rx
 cases hp with
 |non=>cases rx;exact repr_of_none ⟨.str _,H,I.tok _,⟨_,rfl⟩,q⟩
 |bl b=>cases rx;exact repr_of_bool ⟨.str _,H,I.tok _,⟨_,rfl⟩,by cases b<;> exact q⟩
 |int i=>
  obtain ⟨t,rfl⟩:=rx
  exact repr_of_int (by simpa [PyData.showable] using h1) ⟨.str _,H,I.tok _,⟨_,rfl⟩,q⟩
 |str x=>
  obtain ⟨t,rfl⟩:=rx
  exact repr_of_str ⟨.str _,H,I.tok _,⟨_,rfl⟩,q⟩ h4
 |tup e h=>
  have hp:RepF H f _ _:= .tup e h
  cases rx
  obtain ⟨as,r1,na⟩:=hr
  refine repr_of_reads' r1 h1 (fun hd=> ?_) hg (by omega) (fun _ _ e=>e) (fun h' u tk hk=>⟨.str _,H,I.kept hk,⟨u,rfl⟩,q⟩) h4
  cases f with
  |true=>exact na rfl
  |false=>rw [hp.nodict] at hd;cases hd
 |lst e h=>
  have hp:RepF H false _ _:= .lst e h
  cases rx
  obtain ⟨as,r1,na⟩:=hr
  exact repr_of_reads' r1 h1 (fun hd=>by rw [hp.nodict] at hd;cases hd) hg (by omega) (fun _ _ e=>e) (fun h' u tk hk=>⟨.str _,H,I.kept hk,⟨u,rfl⟩,q⟩) h4
 |dct e=>
  cases rx
  obtain ⟨as,r1,na⟩:=hr
  exact repr_of_reads' r1 h1 (fun _=>na rfl) hg (by omega) (fun _ _ e=>e) (fun h' u tk hk=>⟨.str _,H,I.kept hk,⟨u,rfl⟩,q⟩) h4
 |dc1 e=>
  cases rx
  obtain ⟨as,r1,na⟩:=hr
  exact repr_of_reads' r1 h1 (fun _=>na rfl) hg (by omega) (fun _ _ e=>e) (fun h' u tk hk=>⟨.str _,H,I.kept hk,⟨u,rfl⟩,q⟩) h4
end
end L2
namespace Rp
open PySem L2
structure Fine (n k:Nat) (d:PyData):Prop where
 sh:d.showable=true
 ln:d.shown.length≤n
 dp:d.depth≤k
theorem len_of (s:String):(Str.ofString s).length=s.toList.length:=by
 rw [Str.ofString_eq_toList]
 simp [Str.length]
theorem int_len {i:Int} (h:i.natAbs<10 ^ 45):((toString i:String):Str).length≤46:=by
 show (Str.ofString (toString i)).length≤46
 rw [len_of]
 cases i with
 |ofNat n=>
  have:=PySem.Flt.repr_len (k:=45) (by decide) (show n<10 ^ 45 from h)
  show (Nat.repr n).toList.length≤46
  omega
 |negSucc n=>
  have:=PySem.Flt.repr_len (k:=45) (by decide) (show n+1<10 ^ 45 from h)
  show (("-":String)++Nat.repr (n+1)).toList.length≤46
  rw [String.toList_append,List.length_append]
  have e:("-":String).toList.length=1:=by decide
  omega
theorem int_log {i:Int} (h:i.natAbs<10 ^ 45):i.natAbs.log2<1920:=by
 refine PySem.Flt.log2_lt_of (by decide) (Nat.lt_of_lt_of_le h ?_)
 exact Nat.le_trans (show (10:Nat) ^ 45≤2 ^ 200 by decide+kernel) (Nat.pow_le_pow_right (by decide) (by decide))
theorem Fine.int {i:Int} (h:i.natAbs<10 ^ 45):Fine 46 0 (.int i):=⟨by simpa [PyData.showable] using int_log h,int_len h,Nat.le_refl _⟩
theorem Fine.bl (b:Bool):Fine 46 0 (.bool b):=⟨rfl,by cases b<;> (show (Str.ofString _).length≤46;rw [len_of];decide),Nat.le_refl _⟩
theorem all_fine {n k:Nat}:∀{ds:List PyData},(∀d∈ds,Fine n k d)→PyData.showableAll ds=true∧((PyData.shownAll ds).map (·.length)).sum≤n * ds.length∧(PyData.shownAll ds).length=ds.length∧PyData.depthAll ds≤k
 |[],_=>⟨rfl,by simp [PyData.shownAll],rfl,by simp [PyData.depthAll]⟩
 |d::ds,h=>by
  obtain ⟨a,b,c,e⟩:=all_fine fun d' hd=>h d' (List.mem_cons_of_mem _ hd)
  obtain ⟨h1,h2,h3⟩:=h d List.mem_cons_self
  refine ⟨by rw [PyData.showableAll,h1,a];rfl,?_,by rw [PyData.shownAll,List.length_cons,c,List.length_cons],by rw [PyData.depthAll];omega⟩
  rw [PyData.shownAll,List.map_cons,List.sum_cons,List.length_cons,Nat.mul_succ]
  omega
theorem Fine.tup {n k l:Nat} {ds:List PyData} (h:∀d∈ds,Fine n k d) (hl:ds.length≤l):Fine (n * l+2 * l+3) (k+1) (.tuple ds):=by
 obtain ⟨a,b,c,e⟩:=all_fine h
 have q:=tupleText_len_le (PyData.shownAll ds)
 have m1:=Nat.mul_le_mul_left n hl
 exact ⟨by rw [PyData.showable];exact a,by rw [PyData.shown];omega,by rw [PyData.depth];omega⟩
end Rp
namespace Srt
open PySem PySem.W PyProof.Rows L2
end Srt
namespace L2
open PySem PySem.Spec PyProof.Rows
end L2
namespace M24
def pin:Nat→Int→Int→Int→Int→List (Int×Int)
 |0,f,l,lo,hi=>if lo≤f∧l≤hi then [(f,l)] else []
 |n+1,f,l,lo,hi=>if lo≤f∧l≤hi then [(f,l)] else if l≤lo∨hi≤f then [] else pin n f ((f+l) / 2) lo hi++pin n ((f+l) / 2) l lo hi
theorem pin_in:∀(n:Nat) (f l lo hi:Int),f<l→l - f≤2 ^ n→∀x∈pin n f l lo hi,f≤x.1∧x.1<x.2∧x.2≤l
 |0,f,l,lo,hi,h,_,x,hx=>by
  unfold pin at hx
  split at hx
  ·simp at hx;subst hx;simp;omega
  ·simp at hx
 |n+1,f,l,lo,hi,h,h2,x,hx=>by
  have h2:l - f≤2 * 2 ^ n:=by rw [Int.pow_succ] at h2;omega
  unfold pin at hx
  split at hx
  ·simp at hx;subst hx;simp;omega
  ·split at hx
   ·simp at hx
   ·rcases List.mem_append.mp hx with hx|hx
    ·have:=pin_in n f ((f+l) / 2) lo hi (by omega) (by omega) x hx;omega
    ·have:=pin_in n ((f+l) / 2) l lo hi (by omega) (by omega) x hx;omega
theorem pin_len:∀(n:Nat) (f l lo hi:Int),(pin n f l lo hi).length≤2 ^ n
 |0,f,l,lo,hi=>by unfold pin;split<;> simp
 |n+1,f,l,lo,hi=>by
  have p:1≤2 ^ n:=Nat.one_le_two_pow
  unfold pin
  split
  ·simp;rw [Nat.pow_succ];omega
  ·split
   ·simp
   ·rw [List.length_append,Nat.pow_succ]
    have a:=pin_len n f ((f+l) / 2) lo hi
    have b:=pin_len n ((f+l) / 2) l lo hi
    omega
def ri (a b:Int):List Int:=(List.range (b - a).toNat).map fun (k:Nat)=>a+(k:Int)
theorem ri_cat {a b c:Int} (h1:a≤b) (h2:b≤c):ri a b++ri b c=ri a c:=by
 unfold ri
 rw [show (c - a).toNat=(b - a).toNat+(c - b).toNat by omega,List.range_add,List.map_append,List.map_map]
 congr 1
 refine List.map_congr_left fun k _=> ?_
 simp only [Function.comp];omega
end M24
namespace M24
end M24
namespace L2
open PySem PySem.Spec PyProof.Rows
end L2
namespace PySem
open Sem (wp)
section
variable {prog:Program} {w:World} {K:Type} [DecidableEq K] {knd:HeapKind prog w K} {A:Around} {E:Value→Shared→Prop} {s:Shared}
theorem sdf_core {d a:Addr} {xs:List (K×Addr×Value)} {k:K} {v:Value} {Q:Value→Shared→Prop} (hu:knd.room A) (hkey:knd.is s.heap k a) (hm:s.heap.DictOfH knd d xs)
  (hsz:xs.length≤sizeLine) (h1:∀u,(atKey xs k).map (·.2)=some u→Q u {s with toks:=s.toks+knd.draws k})
  (hQ:(atKey xs k).map (·.2)=none→∀h',h'.DictOfH knd d (storedH xs k a v)→Heap.SameBut d s.heap h'→Q v {s with heap:=h',toks:=s.toks+knd.draws k}):
  wpAny (model prog w) A (dictSetDefault d (.ref a) v) Q E s:=by
 obtain ⟨o,es,ep,ho,hc,hd,he,his,hn⟩:=hm
 unfold dictSetDefault
 try with_reducible refine wpAny_holding ?_
 refine wpAny_bind (knd.pyHash hu hkey (wpAny_bind (wpAny_dictFind_heap (s:={s with toks:=s.toks+knd.draws k}) hu hkey ho hd he his hn ?_ ?_)))
 ·intro hno
  have hnot:k ∉ xs.map (·.1):=not_mem_keys_of_get hno
  have hz:(atKey xs k).map (·.2)=none:=by rw [atKey_none_of_get hno];rfl
  refine wpAny_bind (wpAny_rule (wpAny_bind (wpAny_updateDictKeys (hz:=by have e:=size_of_entries he;omega) (s:={s with toks:=s.toks+knd.draws k}) ho hd (wpAny_pure (hQ hz _ ⟨_,_,ep+1,Heap.get?_update_self _ ho (Obj.isFreed_of_dict (Obj.data_mapDictKeys hd _)),
   hc.mapDictKeys _,Obj.data_mapDictKeys hd _,?_,?_,?_⟩ (Heap.SameBut.update ..))))))
  ·rw [storedH_new (atKey_none_of_get hno)]
   simp [he,entryOfKey]
  ·rw [storedH_new (atKey_none_of_get hno)]
   intro x hx
   rcases List.mem_append.mp hx with hx|hx
   ·exact knd.keeps (his x hx) ho hd (Heap.SameBut.update ..)
   ·simp only [List.mem_singleton] at hx
    subst hx
    exact knd.keeps hkey ho hd (Heap.SameBut.update ..)
  ·rw [storedH_new (atKey_none_of_get hno)]
   rw [List.map_append,List.nodup_append]
   refine ⟨hn,by simp,?_⟩
   intro x hx y hy
   simp only [List.map_cons,List.map_nil,List.mem_singleton] at hy
   subst hy
   exact fun e=>hnot (e▸hx)
 ·intro j p hj
  refine wpAny_bind (wpAny_dictEntries (s:={s with toks:=s.toks+knd.draws k}) ho hd ?_)
  rw [entry_at he j,hj]
  exact wpAny_bind (wpAny_rule (wpAny_pure (h1 _ (by rw [atKey_of_get hn hj];rfl))))
theorem sdf_meets (knd:HeapKind prog w K) (d a:Addr) (hd:(d==sysModules)=false) (dflt:Value):
  MeetsIn prog w (Builtin.«dict.setdefault» ⟨[.ref d,.ref a,dflt],[]⟩) (fun A R s=>knd.room A.in1∧∃k xs,knd.is s.heap k a∧s.heap.DictOfH knd d xs∧xs.length≤sizeLine∧
   (∀v,(atKey xs k).map (·.2)=some v→R (.ok (.ret v)) {s with toks:=s.toks+knd.draws k})∧
   ((atKey xs k).map (·.2)=none→∀h',h'.DictOfH knd d (storedH xs k a dflt)→Heap.SameBut d s.heap h'→R (.ok (.ret dflt)) {s with heap:=h',toks:=s.toks+knd.draws k})):=
 .of_wp fun A R s ⟨hu,k,xs,hkey,hm,hz,h1,h2⟩=>by
  unfold Builtin.«dict.setdefault»
  refine wpAny_bind ?_
  unfold Builtin.Dict.keyAndDefault
  refine wpAny_bind (wpAny_notOrdered_dict hm.typeIs ?_)
  show wpAny _ _ (pure (d,Value.ref a,some dflt)) _ _ s
  refine wpAny_pure ?_
  show wpAny _ _ (if (d==sysModules)=true then _ else (dictSetDefault d (.ref a) dflt >>=_)) _ _ s
  rw [if_neg (by rw [hd];exact Bool.false_ne_true)]
  exact wpAny_bind (sdf_core hu hkey hm hz (fun v hv=>wpAny_pure ⟨v,rfl,h1 v hv⟩) fun hn h' hm' hs'=>wpAny_pure ⟨dflt,rfl,h2 hn h' hm' hs'⟩)
end
end PySem
namespace L2
open PySem PySem.Spec PyProof.Rows
section
variable {X:Cx} {pins:List (Addr×Obj)} {σ:St} {H:Hp} {s:Shared} {a b:Addr} {kvs:List (List Key×V)} {k:List Key} {z:V} {r:Value} {A:Around} {E:Value→Shared→Prop}
theorem d_setdef {Q:Value→Shared→Prop} (hu:A.units+1<cLine) (I:Inv X pins σ H s) (e:H a=some (.dT kvs)) (eb:H b=some (.tup (k.map kV))) (l:kvs.length<sizeLine) (rv:RelV z r)
  (h1:∀v w' s',Bn kvs k=some v→Inv X pins σ H s'→RelV v w'→Q w' s') (h2:∀s',Bn kvs k=none→Inv X pins σ (upd H a (.dT (Cm kvs k z))) s'→Q r s'):
  wpAny (model X.prog X.w) A (call (.builtin "dict.setdefault") [.ref a,.ref b,r]) Q E s:=by
 obtain ⟨_,hd,xs,rel,dd⟩:=dt_of I.hok e
 have hz:xs.length≤sizeLine:=by rw [←Paired.length rel];exact Nat.le_of_lt l
 have hl:(Cm kvs k z).length≤sizeLine:=by have:=length_putK kvs k z;omega
 have rl:=rel.val k
 refine call_meetsIn PySem.F.slot_dict_setdefault dd.typeIs PySem.F.entry_dict_setdefault (PySem.F.args_dict_setdefault_3 _ _ _) (sdf_meets (tupleKind (Bj X.prog X.w)) a b hd r) ⟨tupleKind_room_in1 hu,k,xs,key_of I.hok eb,dd,hz,fun v hv=> ?_,fun hn h' dd' hs=> ?_⟩
 ·rw [hv] at rl
  cases hx:Bn kvs k with
  |none=>rw [hx] at rl;exact rl.elim
  |some v'=>rw [hx] at rl;exact h1 _ _ _ hx (I.tok _) rl
 ·rw [hn] at rl
  have hx:Bn kvs k=none:=by
   cases hx:Bn kvs k with
   |none=>rfl
   |some v'=>rw [hx] at rl;exact rl.elim
  refine h2 _ hx ?_
  obtain ⟨q,es,ep,hq,h2',h3,h4,_,h5⟩:=dd'
  refine d_write I (by rw [e];exact True.intro) hs ⟨q,hq⟩ ⟨hl,hd,_,(rel.put k eb rv).keeps fun c ys ec=> ?_,q,es,ep,hq,h2',h3,h4,h5⟩
  rw [Ai (Ao ec e (fun z=>nomatch z))]
  exact ec
end
def tDSd (td ty tx:TE):TE:=fun σ H Q=>td σ H fun x H1=>∃a,x= .ref a∧IsD H1 a∧ty σ H1 fun y H2=>tx σ H2 fun z H3=>∃kvs k b,H3 a=some (.dT kvs)∧y= .ref b∧H3 b=some (.tup (k.map kV))∧kvs.length<sizeLine∧
 (∀v,Bn kvs k=some v→Q v H3)∧(Bn kvs k=none→Q z (upd H3 a (.dT (Cm kvs k z))))
section
variable {X:Cx} {o e f:Expr} {apos cpos:Pos} {td ty tx:TE}
theorem pe_dsetd (hu:X.A.units+1<cLine) (ho:PE X o td) (he:PE X e ty) (hf:PE X f tx) (m:M2 X o "setdefault" apos e f cpos):PE X (.Call (.Attribute o "setdefault" apos) [e,f] [] cpos) (tDSd td ty tx):=by
 intro pins s σ H Q I h
 refine wpAny_Call_method m.base m.few m.line PySem.F.plainAttrs_dict PySem.F.slot_dict_setdefault PySem.F.type_dict_setdefault (thn (ho pins s σ H _ I h) fun u s1 ⟨x,H1,I1,rx,a,ex,d,q1⟩=> ?_)
 subst ex
 obtain rfl:u=Value.ref a:=rx
 obtain ⟨t1,t2,_⟩:=isD_at I1 d
 refine ⟨t1,t2,?_⟩
 rw [m.trees]
 refine Calls.callWith_builtin rfl (Calls.evalArgs_plain (Calls.spliced_cons (thn (he pins s1 σ H1 _ I1 q1) fun iv s2 ⟨y,H2,I2,ry,q2⟩=>Calls.spliced_cons (thn (hf pins s2 σ H2 _ I2 q2) fun jv s3 ⟨z,H3,I3,rz,kvs,k,b,e1,e2,e3,e4,g1,g2⟩=>Calls.spliced_nil ?_))))
 subst e2
 obtain rfl:iv=Value.ref b:=ry
 exact d_setdef hu I3 e1 e3 e4 rz (fun v w' s' hv I' r'=>⟨_,_,I',r',g1 v hv⟩) fun s' hn I'=>⟨_,_,I',rz,g2 hn⟩
end
end L2
namespace Srt
open PySem PySem.W PyProof.Rows L2
section
variable {prog:Program} {w:World} {A:Around} {E:Value→Shared→Prop} {s:Shared}
theorem eq_self {C:Bool→Shared→Prop} {u:Value} (h:C true s):wpAny (model prog w) A (eqBool u u) C E s:=by
 unfold eqBool
 try with_reducible refine wpAny_holding ?_
 rw [if_pos (beq_self_eq_true u)]
 exact wpAny_bind (wpAny_rule (wpAny_pure h))
theorem lex_self {b fin:Bool} {C:Bool→Shared→Prop} (h:C fin s):∀(us:List Value) (i:Nat),KatLex prog w A b fin C (us.zip us) i s
 |[],_=>h
 |u::us,i=>kat_cons (eq_self (kat_yes (lex_self h us (i+1))))
end
abbrev Pr':=Addr×Int×V
def pRef (q:Pr'):V:= .ref q.1
def ltP (ps:List Pr') (i j:Nat):Bool:=decide ((ps.getD i (0,0,.non)).2.1<(ps.getD j (0,0,.non)).2.1)
theorem ord_prs (ps:List Pr'):Ord (ltP ps) where
 asym:=fun a b h=>by unfold ltP at *;simp only [decide_eq_true_eq,decide_eq_false_iff_not] at *;omega
 ntr:=fun a b c h1 h2=>by unfold ltP at *;simp only [decide_eq_true_eq,decide_eq_false_iff_not] at *;omega
theorem tups_prs {X:Cx} {pins:List (Addr×Obj)} {σ:L2.St} {H:Hp} {s:Shared} (I:Inv X pins σ H s):∀(ps:List Pr'),(∀q∈ps,SqT X.K H q.1 [.int q.2.1,q.2.2])→
  ∃fs,KatTups s.heap (ps.map fun q=>Value.ref q.1) fs∧fs.length=ps.length∧∀v∈fs,∃i t,v=Value.int i t
 |[],_=>⟨[],trivial,rfl,fun v h=>nomatch h⟩
 |q::ps,h=>by
  obtain ⟨fs,t,l,f⟩:=tups_prs I ps (fun q hq=>h q (.tail _ hq))
  obtain ⟨its,rv,⟨o,ho,hc,n,hd⟩,hz⟩:=I.tuple (h q (.head _))
  cases rv with
  | @cons _ u _ us ru rr=>
   obtain ⟨tt,rfl⟩:=(show ∃t,u=Value.int q.2.1 t from ru)
   refine ⟨Value.int q.2.1 tt::fs,.cons ho hc hd (by simp) t,by simp [l],fun v hv=> ?_⟩
   rcases List.mem_cons.mp hv with rfl|hv
   ·exact ⟨_,_,rfl⟩
   ·exact f v hv
theorem sortP_core {X:Cx} {pins:List (Addr×Obj)} {σ:L2.St} {H:Hp} {s:Shared} (I:Inv X pins σ H s) {v:Value} {ps:List Pr'} {Q:VK} (hT:∀q∈ps,SqT X.K H q.1 [.int q.2.1,q.2.2]) (hn:(ps.map (·.2.1)).Nodup) (h64:ps.length<64)
  (hcol:∀(Q:List Value→Shared→Prop),(∀h1 t1,(∀b o,s.heap.get? b=some o→h1.get? b=some o)→Q (ps.map fun q=>Value.ref q.1) {s with heap:=h1,toks:=t1})→wpAny (model X.prog X.w) X.A.in1 (collect v) Q X.xe s)
  (h:∀(l:Addr) (ps':List Pr'),H l=none→ps'.Perm ps→ps'.Pairwise (fun a b=>a.2.1≤b.2.1)→Q (.ref l) (upd H l (.lst (ps'.map pRef)))):
  wpAny (model X.prog X.w) X.A (call (.builtin "sorted") [v]) (EP X pins σ Q) X.xe s:=by
 have lz:(ps.map fun q=>Value.ref q.1).length=ps.length:=List.length_map ..
 refine sorted_raw (κ:=tuples' true) (ord_prs ps) (fun vs=>vs=ps.map fun q=>Value.ref q.1) (fun vs e=>by rw [e,lz];exact h64) (fun Q hq=>hcol Q fun h1 t1 k=>hq _ h1 t1 rfl k) ?_ ?_ ?_
 ·rintro vs h' t' rfl k l2 Q hq
  rw [lz] at l2
  have I':Inv X pins σ H {s with heap:=h',toks:=t'}:=I.kept k
  obtain ⟨fs,t,l,f⟩:=tups_prs I' ps hT
  refine kat_kind (s:={s with heap:=h',toks:=t'}) (T:=Value.type "int") t (by omega) (fun v hv=> ?_) rfl ?_
  ·obtain ⟨i,t,rfl⟩:=f v hv
   exact Looks.of_pure rfl
  ·have:(Value.type "int" !=Value.type "tuple")=true:=rfl
   rw [this];exact hq
 ·rintro vs h' t' rfl k i j C hi hj hC
  rw [lz] at hi hj
  have I':Inv X pins σ H {s with heap:=h',toks:=t'}:=I.kept k
  show wpAny _ _ (keyLt' _ ((ps.map fun q=>Value.ref q.1).getD i Value.none) ((ps.map fun q=>Value.ref q.1).getD j Value.none)) C _ _
  have ei:(ps.map fun q=>Value.ref q.1).getD i Value.none=Value.ref ps[i].1:=by simp [hi]
  have ej:(ps.map fun q=>Value.ref q.1).getD j Value.none=Value.ref ps[j].1:=by simp [hj]
  have fi:ps.getD i (0,0,.non)=ps[i]:=by simp [hi]
  have fj:ps.getD j (0,0,.non)=ps[j]:=by simp [hj]
  rw [ei,ej]
  unfold ltP at hC
  rw [fi,fj] at hC
  obtain ⟨ui,ri,⟨oi,hoi,hci,ni,hdi⟩,zi⟩:=I'.tuple (hT ps[i] (List.getElem_mem hi))
  by_cases hij:i=j
  ·subst hij
   refine kat_lt hoi hdi hoi hdi ?_
   have:decide (ui.toArray.size<ui.toArray.size)=false:=by simp
   rw [this]
   refine lex_self ?_ _ 0
   have z:decide (ps[i].2.1<ps[i].2.1)=false:=by simp
   rw [z] at hC;exact hC
  ·obtain ⟨uj,rj,⟨oj,hoj,hcj,nj,hdj⟩,zj⟩:=I'.tuple (hT ps[j] (List.getElem_mem hj))
   have ne:¬ps[i].2.1=ps[j].2.1:=fun e=>(by
    have pw:=List.pairwise_iff_getElem.mp hn
    rcases Nat.lt_or_gt_of_ne hij with q|q
    ·exact absurd (by rw [List.getElem_map,List.getElem_map];exact e) (pw i j (by simpa using hi) (by simpa using hj) q)
    ·exact absurd (by rw [List.getElem_map,List.getElem_map];exact e.symm) (pw j i (by simpa using hj) (by simpa using hi) q))
   refine kat_lt hoi hdi hoj hdj ?_
   cases ri with
   | @cons _ u _ us ru rr=>
    cases rj with
    | @cons _ u' _ us' ru' rr'=>
     obtain ⟨t1,rfl⟩:=(show ∃t,u=Value.int ps[i].2.1 t from ru)
     obtain ⟨t2,rfl⟩:=(show ∃t,u'=Value.int ps[j].2.1 t from ru')
     refine kat_cons (wpAny_eqBool_int ?_)
     have:(ps[i].2.1==ps[j].2.1)=false:=by simpa using ne
     rw [this]
     exact kat_no (oneLt_int hC)
 ·rintro vs p h1 h' t' l e rfl pm st k1 k zl hl
  have I:Inv X pins σ H {s with heap:=h1,toks:=t'}:=I.kept k1
  have pl:=pm.toList
  rw [lz] at pl pm st
  have hz:=pm.size
  have mem:∀i∈p.toList,i<ps.length:=fun i hi=>by simpa using pl.mem_iff.mp hi
  have e1:(p.toList.map fun i=>(ps.map fun q=>Value.ref q.1).getD i Value.none)=(p.toList.map fun i=>ps.getD i (0,0,.non)).map fun q=>Value.ref q.1:=by
   rw [List.map_map]
   refine List.map_congr_left fun i hi=> ?_
   have:=mem i hi
   simp [this]
  rw [e1] at hl
  have pp:(p.toList.map fun i=>ps.getD i (0,0,.non)).Perm ps:=by
   have:=pl.map (fun i=>ps.getD i ((0,0,.non):Pr'))
   rwa [map_range_getD] at this
  have pw:(p.toList.map fun i=>ps.getD i ((0,0,.non):Pr')).Pairwise (fun a b=>a.2.1≤b.2.1):=by
   rw [List.pairwise_map]
   refine (st.pairwise hz).imp fun {a b} hab=> ?_
   unfold ltP at hab
   simp only [decide_eq_false_iff_not] at hab
   omega
  refine ⟨.ref l,_,I.laid (t':=t') (o:= .lst ((p.toList.map fun i=>ps.getD i (0,0,.non)).map pRef)) k zl ⟨?_,_,e,vals_map pRef (fun q=>Value.ref q.1) (fun _=>rfl) _,hl⟩,rfl,h l _ (I.hok.fresh zl) pp pw⟩
  rw [List.length_map,pp.length_eq,sizeLine_eq]
  omega
def rSortP (K:PySem.W.Frag):List V→Hp→VK→Prop:=fun xs H Q=>∃(p:Addr) (ps:List Pr'),xs=[.ref p]∧SqL K H p (ps.map pRef)∧(∀q∈ps,SqT K H q.1 [.int q.2.1,q.2.2])∧(ps.map (·.2.1)).Nodup∧ps.length<64∧∀(l:Addr) (ps':List Pr'),H l=none→ps'.Perm ps→ps'.Pairwise (fun a b=>a.2.1≤b.2.1)→Q (.ref l) (upd H l (.lst (ps'.map pRef)))
theorem call_sortedP {X:Cx}:CallR X (.builtin "sorted") (rSortP X.K):=by
 intro pins s σ H xs us Q I r h
 obtain ⟨p,ps,rfl,hq,ok,nd,few,q⟩:=h
 obtain ⟨u,rfl,rx⟩:=Cy r
 cases rx
 obtain ⟨its,rv,hp,hz⟩:=I.list hq
 have e:its=ps.map fun q=>Value.ref q.1:=by
  clear hq hp hz q r ok nd few
  induction ps generalizing its with
  |nil=>cases rv;rfl
  |cons a ps ih=>
   cases rv with
   |cons ru rr=>rw [List.map_cons,←ih _ rr];cases ru;rfl
 subst e
 refine sortP_core I ok nd few (fun Q hq=>collect_list hp.isList (hq _ _ fun b o ho=> ?_) (by rw [List.length_map,sizeLine_eq];omega)) q
 have hlt:b<s.heap.objs.size:=Heap.lt_size ho
 rw [Heap.get?_update_ne _ _ _ _ (Nat.ne_of_lt hlt)]
 exact Heap.get?_push_of_some _ ho
end Srt
namespace K28
open PySem L2 Wk
def top (i:Nat):Stmt:=PySem.Challenge.pw_joinedever_k28_beginnings_answer_alike.main.body.getD i (.Pass ⟨0,0,0,0⟩)
def meth (i j:Nat):Stmt:=match top i with
 | .ClassDef (body:=b) .. =>b.getD j (.Pass ⟨0,0,0,0⟩)
 |s=>s
abbrev sWhole:Stmt:=top 4
abbrev sWithin:Stmt:=top 5
abbrev sStays:Stmt:=top 12
abbrev sJp:Stmt:=top 13
abbrev sInit:Stmt:=meth 14 0
abbrev sJoin:Stmt:=meth 14 1
abbrev sTop:Stmt:=meth 14 2
abbrev sSize:Stmt:=meth 14 4
abbrev sParts:Stmt:=meth 14 5
abbrev sOdd:Stmt:=meth 14 6
abbrev sJoins:Stmt:=meth 14 7
abbrev sShown:Stmt:=meth 14 8
abbrev sBack:Stmt:=meth 14 9
abbrev sDeck:Stmt:=top 37
abbrev sTake:Stmt:=top 38
abbrev sRare:Stmt:=top 39
abbrev sNames:Stmt:=top 40
abbrev sPlaces:Stmt:=top 41
abbrev sTie:Stmt:=top 42
abbrev sDeeds:Stmt:=top 43
abbrev sAsks:Stmt:=top 44
abbrev sLives:Stmt:=top 7
abbrev sPin:Stmt:=top 1
abbrev sPo:Stmt:=top 2
abbrev sLaid:Stmt:=top 16
abbrev sAby:Stmt:=top 17
abbrev sTold:Stmt:=top 18
abbrev sHalf:Stmt:=top 19
abbrev sBeside:Stmt:=top 21
abbrev sWays:Stmt:=top 22
abbrev sPart:Stmt:=top 23
abbrev sPtsOf:Stmt:=top 25
abbrev sWLeast:Stmt:=top 27
abbrev sRingO:Stmt:=top 28
abbrev sSidesOf:Stmt:=top 29
abbrev sHaveTwo:Stmt:=top 30
abbrev sStandB:Stmt:=top 32
abbrev sJoined:Stmt:=top 24
abbrev sAns:Stmt:=top 34
abbrev sPlain:Stmt:=top 35
abbrev sHeavy:Stmt:=top 45
abbrev sAnswers:Stmt:=top 46
abbrev sRightL:Stmt:=top 47
abbrev sLaw:Stmt:=top 48
structure Txt (K:PySem.W.Frag) (mg:Str→Option Value) (C I:Addr):Prop where
 cl:Cls K C
 nS:NoAttr K C "states"
 mkC:Mk K C I
 mgC:mg "Takes"=some (.ref C)
 isinstance:mg "isinstance"=none
 int:mg "int"=none
 bool:mg "bool"=none
 tuple:mg "tuple"=none
 len:mg "len"=none
 range:mg "range"=none
 sum:mg "sum"=none
 min:mg "min"=none
 zip:mg "zip"=none
 sorted:mg "sorted"=none
 list:mg "list"=none
 enumerate:mg "enumerate"=none
 set:mg "set"=none
 repr:mg "repr"=none
structure S3 where
 tops:List Int
 sides:List Int
 odds:Int
def staysB (tops:List Int) (a b:Int):Bool:=decide (0<(tops.count a:Int) - (tops.count b:Int))||(decide ((tops.count a:Int) - (tops.count b:Int)=0) && decide (a<b))
def Ck (tops:List Int) (kept taken:Int):List Int:=tops.map fun t=>if t=taken then kept else t
def Bq (tops sides:List Int) (taken turn:Int):List Int:=List.zipWith (fun t s=>if t=taken then Builtin.bitXor s turn else s) tops sides
def kt (tops:List Int) (a b:Int):Int×Int:=if staysB tops a b then (a,b) else (b,a)
def Bo (s t:Int):Int:=if s=t then 1 else 0
def joinS (st:S3) (i j:Nat):S3×Bool:=
 let a:=st.tops.getD i 0
 let b:=st.tops.getD j 0
 if a=b then (⟨st.tops,st.sides,st.odds+Bo (st.sides.getD i 0) (st.sides.getD j 0)⟩,false)
 else (⟨Ck st.tops (kt st.tops a b).1 (kt st.tops a b).2,Bq st.tops st.sides (kt st.tops a b).2 (Bo (st.sides.getD i 0) (st.sides.getD j 0)),st.odds⟩,true)
def partsN (tops:List Int):Nat:=((List.range tops.length).filter fun p=>decide (tops.getD p 0=(p:Nat))).length
def StAt (H:Hp) (r:Addr) (st:S3):Prop:=∃a b:Addr,H r=some (.tup [.ref a,.ref b,.int st.odds])∧H a=some (.tup (st.tops.map V.int))∧H b=some (.tup (st.sides.map V.int))
def TupS (H H':Hp):Prop:=∀b xs,H b=some (.tup xs)→H' b=some (.tup xs)
theorem StAt.tup {H H':Hp} {r:Addr} {st:S3} (h:StAt H r st) (t:TupS H H'):StAt H' r st:=by
 obtain ⟨a,b,h1,h2,h3⟩:=h
 exact ⟨a,b,t _ _ h1,t _ _ h2,t _ _ h3⟩
def StsAt (H:Hp):List Addr→List S3→Prop
 |[],[]=>True
 |r::rs,st::sts=>StAt H r st∧StsAt H rs sts
 |_,_=>False
theorem StsAt.tup {H H':Hp} (t:TupS H H'):∀{rs:List Addr} {sts:List S3},StsAt H rs sts→StsAt H' rs sts
 |[],[],_=>trivial
 |_::_,_::_,h=>⟨h.1.tup t,StsAt.tup t h.2⟩
theorem StsAt.snoc {H:Hp} {r:Addr} {st:S3} (t:StAt H r st):∀{rs:List Addr} {sts:List S3},StsAt H rs sts→StsAt H (rs++[r]) (sts++[st])
 |[],[],_=>⟨t,trivial⟩
 |_::_,_::_,h=>⟨h.1,StsAt.snoc t h.2⟩
theorem StsAt.len {H:Hp}:∀{rs:List Addr} {sts:List S3},StsAt H rs sts→rs.length=sts.length
 |[],[],_=>rfl
 |_::_,_::_,h=>by simp [StsAt.len h.2]
theorem StsAt.take {H:Hp} (k:Nat):∀{rs:List Addr} {sts:List S3},StsAt H rs sts→StsAt H (rs.take k) (sts.take k):=by
 induction k with
 |zero=>intro rs sts _;simp [StsAt]
 |succ k ih=>
  intro rs sts h
  match rs,sts,h with
  |[],[],_=>exact trivial
  |_::_,_::_,h=>exact ⟨h.1,ih h.2⟩
theorem StsAt.last {H:Hp}:∀{rs:List Addr} {pre:List S3} {st:S3},StsAt H rs (pre++[st])→∃rs' r,rs=rs'++[r]∧StAt H r st∧StsAt H rs' pre
 |[],[],_,h=>h.elim
 |[],_::_,_,h=>h.elim
 |r::rs,[],st,h=>by
  match rs,h with
  |[],h=>exact ⟨[],r,rfl,h.1,trivial⟩
  |_::_,h=>exact h.2.elim
 |r::rs,p::pre,st,h=>by
  obtain ⟨rs',r',e,h1,h2⟩:=StsAt.last (pre:=pre) h.2
  exact ⟨r::rs',r',by rw [e];rfl,h1,h.1,h2⟩
def flds (S:Addr):List (Str×V):=putF "states" (.ref S) []
theorem flds_at (S:Addr):(flds S).lookup ("states":Str)=some (.ref S):=by
 unfold flds
 rw [lookup_putF,if_pos rfl]
theorem Ch (S:Addr) {m:Str} (h:¬m="states"):(flds S).lookup m=none:=by
 unfold flds
 rw [lookup_putF,if_neg h]
 rfl
theorem flds_put (S S':Addr):putF "states" (.ref S') (flds S)=flds S':=by
 unfold flds
 show (if ("states":Str)="states" then _ else _)=_
 rw [if_pos rfl]
 rfl
structure TkAt (C:Addr) (H:Hp) (x S:Addr) (sts:List S3):Prop where
 ob:∃dx,H x=some (.ins C dx (flds S))
 st:∃rs:List Addr,H S=some (.lst (rs.map V.ref))∧StsAt H rs sts
 le:sts.length≤200
structure Ok (n:Nat) (st:S3):Prop where
 t:st.tops.length=n
 s:st.sides.length=n
 n1:1≤n
 n2:n≤24
def spWhole:Sp:=fun vs H Q _=>∃i:Int,vs=[.int i]∧Q (.bl true) H
def spWithin:Sp:=fun vs H Q _=>∃i lo hi:Int,vs=[.int i,.int lo,.int hi]∧lo≤i∧i≤hi∧Q (.bl true) H
def spStays (K:PySem.W.Frag):Sp:=fun vs H Q _=>∃(t:Addr) (tops:List Int) (a b:Int),vs=[.ref t,.int a,.int b]∧H t=some (.tup (tops.map V.int))∧Q (.bl (staysB tops a b)) H
def spJp (K:PySem.W.Frag):Sp:=fun vs H Q _=>∃(t s:Addr) (st:S3) (n i j:Nat),vs=[.ref t,.ref s,.int (i:Nat),.int (j:Nat)]∧H t=some (.tup (st.tops.map V.int))∧H s=some (.tup (st.sides.map V.int))∧Ok n st∧i<n∧j<n∧
 ∀(r a b:Addr) (H':Hp),Same H H'→H' r=some (.tup [.ref a,.ref b])→H' a=some (.tup ((Ck st.tops (kt st.tops (st.tops.getD i 0) (st.tops.getD j 0)).1 (kt st.tops (st.tops.getD i 0) (st.tops.getD j 0)).2).map V.int))→
  H' b=some (.tup ((Bq st.tops st.sides (kt st.tops (st.tops.getD i 0) (st.tops.getD j 0)).2 (Bo (st.sides.getD i 0) (st.sides.getD j 0))).map V.int))→Q (.ref r) H'
def Cu (m:Int):S3:=⟨rints 0 m.toNat,List.replicate m.toNat 0,0⟩
def spInit (C:Addr):Sp:=fun vs H Q _=>∃(x dx:Addr) (m:Int),vs=[.ref x,.int m]∧H x=some (.ins C dx [])∧1≤m∧m≤24∧∀(S:Addr) (H':Hp),H S=none→TkAt C H' x S [Cu m]→(∀b o,H b=some o→b≠x→H' b=some o)→Q .non H'
def spShown (C:Addr):Sp:=fun vs H Q _=>∃(x S:Addr) (pre:List S3) (st:S3),vs=[.ref x]∧TkAt C H x S (pre++[st])∧∀r,StAt H r st→Q (.ref r) H
def spTop (C:Addr):Sp:=fun vs H Q _=>∃(x S:Addr) (pre:List S3) (st:S3) (n i:Nat),vs=[.ref x,.int (i:Nat)]∧TkAt C H x S (pre++[st])∧Ok n st∧i<n∧Q (.int (st.tops.getD i 0)) H
def spSize (C:Addr):Sp:=fun vs H Q _=>∃(x S:Addr) (pre:List S3) (st:S3) (n i:Nat),vs=[.ref x,.int (i:Nat)]∧TkAt C H x S (pre++[st])∧Ok n st∧i<n∧Q (.int (st.tops.count (st.tops.getD i 0):Nat)) H
def spOdd (C:Addr):Sp:=fun vs H Q _=>∃(x S:Addr) (pre:List S3) (st:S3),vs=[.ref x]∧TkAt C H x S (pre++[st])∧Q (.int st.odds) H
def spJoins (C:Addr):Sp:=fun vs H Q _=>∃(x S:Addr) (sts:List S3),vs=[.ref x]∧TkAt C H x S sts∧Q (.int ((sts.length:Int) - 1)) H
def spParts (C:Addr):Sp:=fun vs H Q _=>∃(x S:Addr) (pre:List S3) (st:S3) (n:Nat),vs=[.ref x]∧TkAt C H x S (pre++[st])∧Ok n st∧∀H',Same H H'→Q (.int (partsN st.tops:Nat)) H'
def spJoin (C:Addr):Sp:=fun vs H Q _=>∃(x S:Addr) (pre:List S3) (st:S3) (n i j:Nat),vs=[.ref x,.int (i:Nat),.int (j:Nat)]∧TkAt C H x S (pre++[st])∧pre.length≤150∧Ok n st∧i<n∧j<n∧
 ∀H',(∀b o,H b=some o→b≠S→H' b=some o)→TkAt C H' x S (pre++[st]++[(joinS st i j).1])→Q (.bl (joinS st i j).2) H'
def spBack (C:Addr):Sp:=fun vs H Q _=>∃(x S:Addr) (sts:List S3) (k:Nat),vs=[.ref x,.int (k:Nat)]∧TkAt C H x S sts∧k<sts.length∧∀(S':Addr) (H':Hp),H S'=none→(∀b o,H b=some o→b≠x→H' b=some o)→TkAt C H' x S' (sts.take (k+1))→Q .non H'
theorem getD_at {ns:List Int} {i:Nat} (h:i<ns.length):atI (ns.map V.int) (i:Int)=some (.int (ns.getD i 0)):=Am (by rw [List.getElem?_map,List.getElem?_eq_getElem h];simp [List.getD,h])
theorem at_last {r:V} {xs:List V}:atI (xs++[r]) (-1)=some r:=by
 unfold atI ixN
 rw [if_neg (by decide),if_pos (by simp;omega)]
 have:((-1:Int)+((xs++[r]).length:Int)).toNat=xs.length:=by simp;omega
 rw [this]
 simp
section
variable {P:Program} {w:World} {K:PySem.W.Frag} {mg:Str→Option Value} {base:Heap} {C I:Addr}
theorem scWhole:Ax ["thing"] ["thing"] (Ag sWhole):=⟨rfl,rfl,rfl,by decide+kernel,rfl,by decide+kernel,by decide+kernel⟩
theorem ok_Whole {f:Addr} {fd:FuncData} (F:Fun K "is_whole" "is_whole" sWhole f fd) (T:Txt K mg C I):
  FnOk P w K mg base CX0 1 f fd ["thing"] spWhole:=by
 refine F.ok scWhole (fun vs H Q E h=> ?_) (fun cdv A outer s H vs Q E hr h=> ?_)
 ·obtain ⟨_,rfl,_⟩:=h;rfl
 ·obtain ⟨i,rfl,k⟩:=h
  refine ⟨_,Ah (Ay (pe_and (A8 call_isi (by rfl) T.isinstance (by decide+kernel) (Aa (pv 0) (Aa (pe_ty (T:="int") (by rfl) T.int (by decide+kernel)) Ad))) (pe_one (pe_not (A8 call_isi (by rfl) T.isinstance (by decide+kernel) (Aa (pv 0) (Aa (pe_ty (T:="bool") (by rfl) T.bool (by decide+kernel)) Ad))))))),?_⟩
  exact ⟨_,rfl,_,_,"int",true,rfl,.int i,rfl,_,rfl,iteT ⟨_,rfl,_,_,"bool",false,rfl,.int i,rfl,_,rfl,k⟩⟩
theorem scWithin:Ax ["thing","low","high"] ["thing","low","high"] (Ag sWithin):=⟨rfl,rfl,rfl,by decide+kernel,rfl,by decide+kernel,by decide+kernel⟩
theorem ok_Within {f:Addr} {fd:FuncData} (F:Fun K "is_within" "is_within" sWithin f fd) (T:Txt K mg C I)
  {gWhole:Addr} {fWhole:FuncData} (kWhole:PySem.W.keepIn K (.ref gWhole)=true) (bWhole:Binds K fWhole ["thing"] []) (hWhole:mg "is_whole"=some (.ref gWhole)) (GWhole:FnOk P w K mg base CX0 1 gWhole fWhole ["thing"] spWhole):
  FnOk P w K mg base CX0 2 f fd ["thing","low","high"] spWithin:=by
 refine F.ok scWithin (fun vs H Q E h=> ?_) (fun cdv A outer s H vs Q E hr h=> ?_)
 ·obtain ⟨_,_,_,rfl,_⟩:=h;rfl
 ·obtain ⟨i,lo,hi,rfl,h1,h2,k⟩:=h
  refine ⟨_,Ah (Ay (pe_and (Al GWhole hr rfl hWhole kWhole bWhole .nil Ar (Aa (pv 0) Ad)) (pe_one (pe_chain op_le op_le (pv 1) (pv 0) (pv 2))))),?_⟩
  refine ⟨_,rfl,i,rfl,_,rfl,iteT ⟨_,rfl,_,rfl,_,_,rfl,rfl,_,rfl,?_⟩⟩
  rw [decide_eq_true h1]
  refine iteT ⟨_,rfl,_,_,rfl,rfl,?_⟩
  show Q (.bl (decide (i≤hi))) H
  rw [decide_eq_true h2]
  exact k
theorem scStays:Ax ["tops","one","other","more"] ["tops","one","other"] (Ag sStays):=⟨rfl,rfl,rfl,by decide+kernel,rfl,by decide+kernel,by decide+kernel⟩
theorem ok_Stays {f:Addr} {fd:FuncData} (F:Fun K "stays" "stays" sStays f fd) (T:Txt K mg C I):
  FnOk P w K mg base CX0 1 f fd ["tops","one","other"] (spStays K):=by
 refine F.ok scStays (fun vs H Q E h=> ?_) (fun cdv A outer s H vs Q E hr h=> ?_)
 ·obtain ⟨_,_,_,_,rfl,_⟩:=h;rfl
 ·obtain ⟨t,tops,a,b,rfl,ht,k⟩:=h
  refine ⟨_,Af (Aq (i:=3) scStays.nd rfl (Or.inl rfl) (As op_sub (pe_bm PySem.F.plainAttrs_tuple PySem.F.slot_tuple_count PySem.F.type_tuple_count mt_countT (pv 0) (Aa (pv 1) Ad)) (pe_bm PySem.F.plainAttrs_tuple PySem.F.slot_tuple_count PySem.F.type_tuple_count mt_countT (pv 0) (Aa (pv 2) Ad))))
   (Ah (Ay (pe_or (Cv op_gt (pv 3) Ae (A1 _)) (pe_one (pe_and (Cv By (pv 3) Ae (A1 _)) (pe_one (Cv op_lt (pv 1) (pv 2) (A1 _)))))))),?_⟩
  refine ⟨_,rfl,.inr (.inl ⟨rfl,.inr ⟨_,ht⟩⟩),_,rfl,t,tops,a,rfl,rfl,SqT.of ht,_,rfl,.inr (.inl ⟨rfl,.inr ⟨_,ht⟩⟩),_,rfl,t,tops,b,rfl,rfl,SqT.of ht,_,_,rfl,rfl,?_⟩
  refine ⟨_,rfl,_,_,rfl,rfl,_,rfl,Cw (fun c=> ?_) fun c=> ?_⟩
  ·have e:staysB tops a b=true:=by unfold staysB;rw [c];rfl
   rw [e] at k
   exact k
  ·have c:decide (0<(tops.count a:Int) - (tops.count b:Int))=false:=by simpa using c
   refine ⟨_,rfl,rfl,_,rfl,Cw (fun c2=> ?_) fun c2=> ?_⟩
   ·have c2:(tops.count a:Int) - (tops.count b:Int)=0:=by simpa using c2
    have e:staysB tops a b=decide (a<b):=by unfold staysB;rw [c,decide_eq_true c2];rfl
    rw [e] at k
    exact ⟨_,rfl,_,rfl,_,_,rfl,rfl,k⟩
   ·have c2:¬(tops.count a:Int) - (tops.count b:Int)=0:=by simpa using c2
    have e:staysB tops a b=false:=by unfold staysB;rw [c,decide_eq_false c2];rfl
    rw [e] at k
    exact k
def tTail:TS:=fun D σ H=>∃(t s:Addr) (tops sides:List Int) (i j kept taken turn:Int) (n:Nat),σ=[some (.ref t),some (.ref s),some (.int i),some (.int j),some (.int kept),some (.int taken),some (.int turn),none,none]∧H t=some (.tup (tops.map V.int))∧H s=some (.tup (sides.map V.int))∧tops.length=n∧sides.length=n∧n≤24∧
 ∀(r a b:Addr) (H':Hp),Same H H'→H' r=some (.tup [.ref a,.ref b])→H' a=some (.tup ((Ck tops kept taken).map V.int))→H' b=some (.tup ((Bq tops sides taken turn).map V.int))→D.rt (.ref r) H'
theorem int_of {ms:List Int} {j:Nat} {x:V} (h:(ms.map V.int)[j]? =some x):∃c,ms[j]? =some c∧x= .int c:=by
 rw [List.getElem?_map] at h
 cases hq:ms[j]? with
 |none=>rw [hq] at h;cases h
 |some z=>rw [hq] at h;exact ⟨z,rfl,(Option.some.inj h).symm⟩
theorem scJp:Ax ["tops","sides","one","other","kept","taken","turn","new_tops","new_sides"] ["tops","sides","one","other"] (Ag sJp):=⟨rfl,rfl,rfl,by decide+kernel,rfl,by decide+kernel,by decide+kernel⟩
theorem ok_Jp {f:Addr} {fd:FuncData} (F:Fun K "joined_parts" "joined_parts" sJp f fd) (T:Txt K mg C I)
  {gStays:Addr} {fStays:FuncData} (kStays:PySem.W.keepIn K (.ref gStays)=true) (bStays:Binds K fStays ["tops","one","other"] []) (hStays:mg "stays"=some (.ref gStays)) (GStays:FnOk P w K mg base CX0 1 gStays fStays ["tops","one","other"] (spStays K)):
  FnOk P w K mg base CX0 2 f fd ["tops","sides","one","other"] (spJp K):=by
 refine F.ok scJp (fun vs H Q E h=> ?_) (fun cdv A outer s H vs Q E hr h=> ?_)
 ·obtain ⟨_,_,_,_,_,_,rfl,_⟩:=h;rfl
 ·obtain ⟨t,s',st,n,i,j,rfl,ht,hs,ok,hi,hj,k⟩:=h
  refine ⟨_,Af (ps_asg (Ba (Aa (Ap Az (pv 0) (pv 2) (fun _ _=>rfl)) (Aa (Ap Az (pv 0) (pv 3) (fun _ _=>rfl)) Ad))) (pg_tup rfl (At (An (i:=4) scJp.nd rfl (Or.inr rfl)) (At (An (i:=5) scJp.nd rfl (Or.inr rfl)) Bu))))
   (Af (B3 (pt_not (pt_val (Al GStays hr rfl hStays kStays bStays .nil Ar (Aa (pv 0) (Aa (pv 4) (Aa (pv 5) Ad)))))) (Ah (ps_asg (Ba (Aa (pv 5) (Aa (pv 4) Ad))) (pg_tup rfl (At (An (i:=4) scJp.nd rfl (Or.inr rfl)) (At (An (i:=5) scJp.nd rfl (Or.inr rfl)) Bu))))) Bk)
   (Af (Aq (i:=6) scJp.nd rfl (Or.inr rfl) (pe_ifExp (A0 By (Ap Az (pv 1) (pv 2) (fun _ _=>rfl)) (Ap Az (pv 1) (pv 3) (fun _ _=>rfl)) (A1 _)) Ae Ae))
   (PSs.imp' (t':=tTail) (Af (ps_comp (i:=7) (T:=["top"]) (F:=["kept","taken"]) (js:=[4,5]) scJp.nd rfl (Or.inl rfl) (CS.to (osc:=Ag sJp) ⟨by rfl,by decide+kernel,by decide+kernel,by decide+kernel,by decide+kernel,by decide+kernel,by decide+kernel⟩ rfl rfl) rfl (pi_tup (pv 0)) (fun _ _ _ _ _=>An (i:=0) (show (["top","kept","taken"]:List Str).Nodup by decide+kernel) rfl (Or.inl rfl)) (fun _ _ _ _ _=>C4) (fun _ _ _ _ _=>pe_ifExp (A0 By (pv 0) (pv 2) (A1 _)) (pv 1) (pv 0)))
   (Af (ps_comp (i:=8) (T:=["top","side"]) (F:=["taken","turn"]) (js:=[5,6]) scJp.nd rfl (Or.inl rfl) (CS.to (osc:=Ag sJp) ⟨by rfl,by decide+kernel,by decide+kernel,by decide+kernel,by decide+kernel,by decide+kernel,by decide+kernel⟩ rfl rfl) rfl (pi_zip rfl T.zip (Aa (pv 0) (Aa (pv 1) Ad))) (fun _ _ _ _ _=>pg_tupK K 2 rfl rfl (At (An (i:=0) (show (["top","side","taken","turn"]:List Str).Nodup by decide+kernel) rfl (Or.inl rfl)) (At (An (i:=1) (show (["top","side","taken","turn"]:List Str).Nodup by decide+kernel) rfl (Or.inl rfl)) Bu))) (fun _ _ _ _ _=>C4) (fun _ _ _ _ _=>pe_ifExp (A0 By (pv 0) (pv 2) (A1 _)) (As op_xor (pv 1) (pv 3)) (pv 1)))
   (Ah (Ay (Ba (Aa (Be Bc (by rfl) T.tuple (by decide+kernel) (Aa (pv 7) Ad)) (Aa (Be Bc (by rfl) T.tuple (by decide+kernel) (Aa (pv 8) Ad)) Ad))))))) ?tail))),?_⟩
  case tail=>
   rintro D σ H ⟨t,s',tops,sides,i,j,kept,taken,turn,n,rfl,ht,hs,tl,sl,n2,k⟩
   refine ⟨_,rfl,t,rfl,⟨_,SqT.of ht⟩,fun D1 hD1=>comp_tup (K:=K) (a:=t) (xs:=tops.map V.int) (fun j σ ys H2=>∃u:Option V,σ=[u,some (.int kept),some (.int taken)]∧Same H H2∧H2 D1=some (.lst ys)∧ys=((Ck tops kept taken).take j).map V.int)
    ⟨none,rfl,Ac hD1,Ab,rfl⟩ (fun j σ ys H2 _ ⟨_,_,s2,e,_⟩=>⟨SqT.of (s2 _ _ ht),e⟩) ?_ ?_⟩
   ·rintro m x σ ys H2 hx ⟨u,rfl,s2,e2,rfl⟩
    obtain ⟨c,hc,rfl⟩:=int_of hx
    have ml:m<tops.length:=(List.getElem?_eq_some_iff.mp hc).1
    have nx:(Ck tops kept taken)[m]? =some (if c=taken then kept else c):=by unfold Ck;rw [List.getElem?_map,hc];rfl
    refine ⟨_,rfl,_,rfl,rfl,_,rfl,Cw (fun g=> ?_) fun g=> ?_⟩
    ·have g:c=taken:=by simpa using g
     rw [if_pos g] at nx
     exact ⟨_,rfl,e2,Aw (by simp;omega),_,rfl,fun b o e=>by rw [Ai (Aj e hD1)];exact s2 _ _ e,Ab,by rw [List.take_add_one,nx];simp⟩
    ·have g:¬c=taken:=by simpa using g
     rw [if_neg g] at nx
     exact ⟨_,rfl,e2,Aw (by simp;omega),_,rfl,fun b o e=>by rw [Ai (Aj e hD1)];exact s2 _ _ e,Ab,by rw [List.take_add_one,nx];simp⟩
   rintro σ ys H2 ⟨u,rfl,s2,e2,rfl⟩
   rw [List.take_of_length_le (by simp [Ck])] at e2
   refine ⟨_,rfl,_,rfl,t,s',_,_,rfl,SqT.of (s2 _ _ ht),SqT.of (s2 _ _ hs),fun D2 hD2=>comp_zip (K:=K) (a:=t) (b:=s') (xs:=tops.map V.int) (ys:=sides.map V.int) (fun j σ ys H3=>∃u1 u2:Option V,σ=[u1,u2,some (.int taken),some (.int turn)]∧Same H2 H3∧H3 D2=some (.lst ys)∧ys=((Bq tops sides taken turn).take j).map V.int)
    ⟨none,none,rfl,Ac hD2,Ab,rfl⟩ (fun j σ ys H3 _ _ ⟨_,_,_,s3,e,_⟩=>⟨SqT.of (s3 _ _ (s2 _ _ ht)),SqT.of (s3 _ _ (s2 _ _ hs)),e⟩) ?_ ?_⟩
   ·rintro m x y σ ys H3 T' hx hy ⟨u1,u2,rfl,s3,e3,rfl⟩ hT
    obtain ⟨c,hc,rfl⟩:=int_of hx
    obtain ⟨d,hd,rfl⟩:=int_of hy
    have ml:m<tops.length:=(List.getElem?_eq_some_iff.mp hc).1
    have nx:(Bq tops sides taken turn)[m]? =some (if c=taken then Builtin.bitXor d turn else d):=by unfold Bq;rw [List.getElem?_zipWith,hc,hd]
    have s4:=s3.trans (Ac (o:= .tup [.int c,.int d]) hT)
    have T4:=Ab (H:=H3) (a:=T') (o:= .tup [.int c,.int d])
    have D4:=Ac (o:= .tup [.int c,.int d]) hT _ _ e3
    generalize upd H3 T' (.tup [.int c,.int d])=H4 at s4 T4 D4
    refine ⟨T',_,rfl,SqT.of T4,rfl,_,_,rfl,_,_,rfl,rfl,?_⟩
    have ll:(((Bq tops sides taken turn).take m).map V.int).length≤24:=by simp [Bq];omega
    refine ⟨_,rfl,_,rfl,rfl,_,rfl,Cw (fun g=> ?_) fun g=> ?_⟩
    ·have g:c=taken:=by simpa using g
     rw [if_pos g] at nx
     exact ⟨_,rfl,_,rfl,_,_,rfl,rfl,D4,Aw (by omega),_,_,rfl,fun b o e=>by rw [Ai (Aj e hD2)];exact s4 _ _ e,Ab,by rw [List.take_add_one,nx];simp⟩
    ·have g:¬c=taken:=by simpa using g
     rw [if_neg g] at nx
     exact ⟨_,rfl,D4,Aw (by omega),_,_,rfl,fun b o e=>by rw [Ai (Aj e hD2)];exact s4 _ _ e,Ab,by rw [List.take_add_one,nx];simp⟩
   rintro m σ ys H3 hm ⟨u1,u2,rfl,s3,e3,rfl⟩
   rw [List.take_of_length_le (by simp [Bq,hm])] at e3
   refine ⟨_,rfl,D1,_,rfl,.inl ⟨SqL.of (s3 _ _ e2),fun q hq=>⟨_,rfl,D2,_,rfl,.inl ⟨SqL.of (Ac hq _ _ e3),fun q2 hq2=>⟨small (by simp),fun r hr'=> ?_⟩⟩⟩⟩⟩
   exact k r q q2 _ (((s2.trans s3).trans (Ac hq)).trans ((Ac hq2).trans (Ac hr'))) Ab (Ac hr' _ _ (Ac hq2 _ _ Ab)) (Ac hr' _ _ Ab)
  have gi:=getD_at (ns:=st.tops) (i:=i) (by rw [ok.t];exact hi)
  have gj:=getD_at (ns:=st.tops) (i:=j) (by rw [ok.t];exact hj)
  have si:=getD_at (ns:=st.sides) (i:=i) (by rw [ok.s];exact hi)
  have sj:=getD_at (ns:=st.sides) (i:=j) (by rw [ok.s];exact hj)
  refine ⟨_,rfl,_,rfl,t,_,_,_,rfl,rfl,SqT.of ht,gi,_,rfl,_,rfl,t,_,_,_,rfl,rfl,SqT.of ht,gj,small (by simp),fun p hp=>⟨p,_,rfl,SqT.of Ab,rfl,_,_,rfl,_,_,rfl,rfl,?_⟩⟩
  have s1:=Ac (o:= .tup [.int (st.tops.getD i 0),.int (st.tops.getD j 0)]) hp
  generalize upd H p (.tup [.int (st.tops.getD i 0),.int (st.tops.getD j 0)])=H1 at s1
  refine ⟨_,rfl,_,rfl,_,rfl,t,st.tops,_,_,rfl,s1 _ _ ht,_,rfl,Cw (fun c=> ?_) fun c=> ?_⟩
  ·have c:staysB st.tops (st.tops.getD i 0) (st.tops.getD j 0)=false:=by simpa using c
   have ek:kt st.tops (st.tops.getD i 0) (st.tops.getD j 0)=(st.tops.getD j 0,st.tops.getD i 0):=by unfold kt;rw [c];rfl
   rw [ek] at k
   refine ⟨_,rfl,_,rfl,small (by simp),fun p2 hp2=>⟨p2,_,rfl,SqT.of Ab,rfl,_,_,rfl,_,_,rfl,rfl,?_⟩⟩
   have s2:=s1.trans (Ac (o:= .tup [.int (st.tops.getD j 0),.int (st.tops.getD i 0)]) hp2)
   generalize upd H1 p2 (.tup [.int (st.tops.getD j 0),.int (st.tops.getD i 0)])=H2 at s2
   refine ⟨_,rfl,_,rfl,s',_,_,_,rfl,rfl,SqT.of (s2 _ _ hs),si,_,rfl,_,rfl,s',_,_,_,rfl,rfl,SqT.of (s2 _ _ hs),sj,rfl,_,rfl,Cw (fun g=> ?_) fun g=> ?_⟩
   ·have g:st.sides.getD i 0=st.sides.getD j 0:=by simpa using g
    have eg:Bo (st.sides.getD i 0) (st.sides.getD j 0)=1:=by unfold Bo;rw [if_pos g]
    rw [eg] at k
    exact ⟨t,s',st.tops,st.sides,_,_,_,_,1,n,rfl,s2 _ _ ht,s2 _ _ hs,ok.t,ok.s,ok.n2,fun r a b H' s3=>k r a b H' (s2.trans s3)⟩
   ·have g:¬st.sides.getD i 0=st.sides.getD j 0:=by simpa using g
    have eg:Bo (st.sides.getD i 0) (st.sides.getD j 0)=0:=by unfold Bo;rw [if_neg g]
    rw [eg] at k
    exact ⟨t,s',st.tops,st.sides,_,_,_,_,0,n,rfl,s2 _ _ ht,s2 _ _ hs,ok.t,ok.s,ok.n2,fun r a b H' s3=>k r a b H' (s2.trans s3)⟩
  ·have c:staysB st.tops (st.tops.getD i 0) (st.tops.getD j 0)=true:=by simpa using c
   have ek:kt st.tops (st.tops.getD i 0) (st.tops.getD j 0)=(st.tops.getD i 0,st.tops.getD j 0):=by unfold kt;rw [c];rfl
   rw [ek] at k
   dsimp only [Cr]
   refine ⟨_,rfl,_,rfl,s',_,_,_,rfl,rfl,SqT.of (s1 _ _ hs),si,_,rfl,_,rfl,s',_,_,_,rfl,rfl,SqT.of (s1 _ _ hs),sj,rfl,_,rfl,Cw (fun g=> ?_) fun g=> ?_⟩
   ·have g:st.sides.getD i 0=st.sides.getD j 0:=by simpa using g
    have eg:Bo (st.sides.getD i 0) (st.sides.getD j 0)=1:=by unfold Bo;rw [if_pos g]
    rw [eg] at k
    exact ⟨t,s',st.tops,st.sides,_,_,_,_,1,n,rfl,s1 _ _ ht,s1 _ _ hs,ok.t,ok.s,ok.n2,fun r a b H' s3=>k r a b H' (s1.trans s3)⟩
   ·have g:¬st.sides.getD i 0=st.sides.getD j 0:=by simpa using g
    have eg:Bo (st.sides.getD i 0) (st.sides.getD j 0)=0:=by unfold Bo;rw [if_neg g]
    rw [eg] at k
    exact ⟨t,s',st.tops,st.sides,_,_,_,_,0,n,rfl,s1 _ _ ht,s1 _ _ hs,ok.t,ok.s,ok.n2,fun r a b H' s3=>k r a b H' (s1.trans s3)⟩
end
end K28
namespace K28
open PySem L2 Wk
inductive Deed where
 |come (m:Int) (n:Str) (a b w:Int)
 |go (m:Int) (n:Str)
def Deed.vs:Deed→List V
 | .come m n a b w=>[.str "come",.int m,.str n,.int a,.int b,.int w]
 | .go m n=>[.str "go",.int m,.str n]
def DeedsAt (H:Hp) (rs:List Addr) (ds:List Deed):Prop:=rs.length=ds.length∧∀(i:Nat) r d,rs[i]? =some r→ds[i]? =some d→H r=some (.tup d.vs)
def hereR:List Deed→Str→Bool
 |[],_=>false
 | .come _ n' _ _ _::r,n=>if n'=n then true else hereR r n
 | .go _ n'::r,n=>if n'=n then false else hereR r n
def Tup (H H':Hp):Prop:=∀b xs,H b=some (.tup xs)→H' b=some (.tup xs)
theorem Tup.trans {H H1 H2:Hp} (a:Tup H H1) (b:Tup H1 H2):Tup H H2:=fun x xs e=>b x xs (a x xs e)
theorem Tup.of {H H':Hp} (s:Same H H'):Tup H H':=fun b xs e=>s _ _ e
theorem Tup.lst {H:Hp} {l:Addr} {xs ys:List V} (h:H l=some (.lst xs)):Tup H (upd H l (.lst ys)):=fun b zs e=>by
 rw [Ai (Ao e h (by intro z;cases z))];exact e
def HistD (H:Hp) (h:Addr) (ds:List Deed):Prop:=∃(many:Int) (t:Addr) (rs:List Addr),H h=some (.tup [.int many,.ref t])∧H t=some (.tup (rs.map V.ref))∧DeedsAt H rs ds∧ds.length≤60
def isGo:Deed→Str→Bool
 | .go _ n',n=>decide (n'=n)
 | .come ..,_=>false
def fstGo (n:Str):List Deed→Nat→Option Nat
 |[],_=>none
 |d::r,j=>if isGo d n=true then some j else fstGo n r (j+1)
structure Life where
 n:Str
 s:Nat
 e:Nat
 a:Int
 b:Int
 w:Int
def Life.vs (l:Life):List V:=[.str l.n,.int (l.s:Int),.int (l.e:Int),.int l.a,.int l.b,.int l.w]
def endOf (ds:List Deed) (k:Nat) (n:Str):Nat:=(fstGo n (ds.drop (k+1)) (k+1)).getD ds.length
def Bx (ds:List Deed) (k:Nat):List Life:=match ds[k]? with
 |some (.come _ n a b w)=>[⟨n,k,endOf ds k n,a,b,w⟩]
 |_=>[]
def Bf (ds:List Deed):Nat→List Life
 |0=>[]
 |j+1=>Bf ds j++Bx ds j
theorem fst_le (n:Str):∀(l:List Deed) (j t:Nat),fstGo n l j=some t→j≤t∧t<j+l.length∧∃d,l[t - j]? =some d∧isGo d n=true
 |[],_,_,h=>by cases h
 |x::l,j,t,h=>by
  unfold fstGo at h
  by_cases g:isGo x n=true
  ·rw [if_pos g] at h
   cases h
   exact ⟨Nat.le_refl _,by simp,x,by simp,g⟩
  ·rw [if_neg g] at h
   obtain ⟨h1,h2,d,h3,h4⟩:=fst_le n l (j+1) t h
   refine ⟨by omega,by simp;omega,d,?_,h4⟩
   rw [show t - j=(t - (j+1))+1 by omega]
   simpa using h3
theorem fst_first (n:Str):∀(l:List Deed) (j m:Nat) (d:Deed),l[m]? =some d→isGo d n=true→∃t,fstGo n l j=some t∧t≤j+m
 |[],_,_,_,h,_=>by simp at h
 |x::l,j,m,d,h,g=>by
  unfold fstGo
  by_cases gx:isGo x n=true
  ·exact ⟨j,if_pos gx,by omega⟩
  ·rw [if_neg gx]
   cases m with
   |zero=>
    have:x=d:=by simpa using h
    exact absurd (this▸g) gx
   |succ m=>
    obtain ⟨t,h1,h2⟩:=fst_first n l (j+1) m d (by simpa using h) g
    exact ⟨t,h1,by omega⟩
theorem end_gt (ds:List Deed) (k:Nat) (n:Str) (hk:k<ds.length):k<endOf ds k n:=by
 unfold endOf
 cases e:fstGo n (ds.drop (k+1)) (k+1) with
 |none=>exact hk
 |some t=>have:=fst_le n _ _ _ e;show k<t;omega
theorem end_go {ds:List Deed} {k:Nat} {n:Str} {i:Nat} {d:Deed} (hd:ds[i]? =some d) (he:endOf ds k n=i):isGo d n=true:=by
 unfold endOf at he
 cases e:fstGo n (ds.drop (k+1)) (k+1) with
 |none=>
  rw [e] at he
  have:i<ds.length:=(List.getElem?_eq_some_iff.mp hd).1
  have he:ds.length=i:=he
  omega
 |some t=>
  rw [e] at he
  have he:t=i:=he
  subst he
  obtain ⟨h1,_,d',h2,h3⟩:=fst_le n _ _ _ e
  rw [List.getElem?_drop,show k+1+(t - (k+1))=t by omega,hd] at h2
  cases h2
  exact h3
theorem end_first {ds:List Deed} {k:Nat} {n:Str} {i:Nat} {d:Deed} (hd:ds[i]? =some d) (hg:isGo d n=true) (hk:k<i):endOf ds k n≤i:=by
 obtain ⟨t,h1,h2⟩:=fst_first n (ds.drop (k+1)) (k+1) (i - (k+1)) d (by rw [List.getElem?_drop,show k+1+(i - (k+1))=i by omega];exact hd) hg
 unfold endOf
 rw [h1]
 show t≤i
 omega
def Cb (ds:List Deed) (i:Nat):List Life:=(Bf ds i).filter fun l=>decide (i≤l.e)
theorem mem_lives {ds:List Deed}:∀{j:Nat} {l:Life},l∈Bf ds j→∃m,l.s<j∧ds[l.s]? =some (.come m l.n l.a l.b l.w)∧l.e=endOf ds l.s l.n
 |0,_,h=>by cases h
 |j+1,l,h=>by
  rcases List.mem_append.mp h with h|h
  ·obtain ⟨m,h1,h2⟩:=mem_lives h
   exact ⟨m,by omega,h2⟩
  ·unfold Bx at h
   split at h
   ·rename_i m n a b w e
    rw [List.mem_singleton.mp h]
    exact ⟨m,by show j<j+1;omega,e,rfl⟩
   ·cases h
theorem there_come {ds:List Deed} {i:Nat} {m:Int} {n:Str} {a b w:Int} (h:ds[i]? =some (.come m n a b w)):Cb ds (i+1)=Cb ds i++[⟨n,i,endOf ds i n,a,b,w⟩]:=by
 unfold Cb
 show (Bf ds i++Bx ds i).filter _=_
 have e:Bx ds i=[⟨n,i,endOf ds i n,a,b,w⟩]:=by unfold Bx;rw [h]
 have hi:i<ds.length:=(List.getElem?_eq_some_iff.mp h).1
 rw [e,List.filter_append]
 have g:=end_gt ds i n hi
 have:decide (i+1≤endOf ds i n)=true:=decide_eq_true (by omega)
 rw [List.filter_cons_of_pos (by simpa using this),List.filter_nil]
 congr 1
 refine List.filter_congr fun l hl=> ?_
 obtain ⟨m',h1,h2,h3⟩:=mem_lives hl
 rw [decide_eq_decide]
 have:l.e≠i:=fun z=>by
  rw [h3] at z
  have:=end_go h z
  cases this
 omega
theorem there_go {ds:List Deed} {i:Nat} {m:Int} {n:Str} (h:ds[i]? =some (.go m n)):Cb ds (i+1)=(Cb ds i).filter fun l=>decide (l.n≠n):=by
 unfold Cb
 show (Bf ds i++Bx ds i).filter _=_
 have e:Bx ds i=[]:=by unfold Bx;rw [h]
 rw [e,List.append_nil,List.filter_filter]
 refine List.filter_congr fun l hl=> ?_
 obtain ⟨m',h1,h2,h3⟩:=mem_lives hl
 rw [Bool.eq_iff_iff,Bool.and_eq_true,decide_eq_true_eq,decide_eq_true_eq,decide_eq_true_eq]
 constructor
 ·intro z
  refine ⟨fun q=> ?_,by omega⟩
  have:=end_first (k:=l.s) (n:=l.n) h (by simp [isGo,q]) h1
  omega
 ·rintro ⟨z1,z2⟩
  rcases Nat.lt_or_ge i l.e with q|q
  ·exact q
  ·have q:endOf ds l.s l.n=i:=by omega
   have:=end_go h q
   exact absurd (by simpa [isGo] using this:n=l.n).symm z1
theorem lives_split (ds:List Deed) (i:Nat):∀k,(Bf ds (i+k)).filter (fun l=>decide (l.s<i) && decide (i≤l.e))=Cb ds i
 |0=>by
  unfold Cb
  refine List.filter_congr fun l hl=> ?_
  obtain ⟨m',h1,_⟩:=mem_lives hl
  rw [decide_eq_true (show l.s<i by omega),Bool.true_and]
 |k+1=>by
  show (Bf ds (i+k)++Bx ds (i+k)).filter _=_
  rw [List.filter_append,lives_split ds i k]
  have:(Bx ds (i+k)).filter (fun l=>decide (l.s<i) && decide (i≤l.e))=[]:=by
   unfold Bx
   split
   ·rw [List.filter_cons_of_neg,List.filter_nil]
    simp
    intro z;omega
   ·rfl
  rw [this,List.append_nil]
theorem lives_there (ds:List Deed) {i:Nat} (hi:i≤ds.length):(Bf ds ds.length).filter (fun l=>decide (l.s<i) && decide (i≤l.e))=Cb ds i:=by
 have:=lives_split ds i (ds.length - i)
 rwa [show i+(ds.length - i)=ds.length by omega] at this
def okAt:List Deed→Deed→Prop
 |r,.come _ n _ _ _=>hereR r n=false
 |r,.go _ n=>hereR r n=true
def RightN (ds:List Deed):Prop:=∀(i:Nat) (d:Deed),ds[i]? =some d→okAt (ds.take i).reverse d
theorem here_there {ds:List Deed} (hR:RightN ds):∀i,i≤ds.length→∀n,hereR (ds.take i).reverse n=true↔∃l∈Cb ds i,l.n=n
 |0,_,n=>by simp [hereR,Cb,Bf]
 |i+1,hi,n=>by
  have ih:=here_there hR i (by omega)
  obtain ⟨d,hd⟩:∃d,ds[i]? =some d:=⟨ds[i],List.getElem?_eq_getElem (by omega)⟩
  have tk:(ds.take (i+1)).reverse=d::(ds.take i).reverse:=by rw [List.take_succ,hd];simp
  rw [tk]
  cases d with
  |come m n' a b w=>
   rw [there_come hd]
   show (if n'=n then true else hereR (ds.take i).reverse n)=true↔_
   by_cases e:n'=n
   ·rw [if_pos e]
    exact ⟨fun _=>⟨_,List.mem_append_right _ (.head _),e⟩,fun _=>rfl⟩
   ·rw [if_neg e,ih n]
    constructor
    ·rintro ⟨l,h1,h2⟩;exact ⟨l,List.mem_append_left _ h1,h2⟩
    ·rintro ⟨l,h1,h2⟩
     rcases List.mem_append.mp h1 with h1|h1
     ·exact ⟨l,h1,h2⟩
     ·rw [List.mem_singleton.mp h1] at h2;exact absurd h2 e
  |go m n'=>
   rw [there_go hd]
   show (if n'=n then false else hereR (ds.take i).reverse n)=true↔_
   by_cases e:n'=n
   ·rw [if_pos e]
    refine ⟨fun z=>(by cases z),?_⟩
    rintro ⟨l,h1,h2⟩
    have:=(List.mem_filter.mp h1).2
    simp at this
    exact absurd (h2.trans e.symm) this
   ·rw [if_neg e,ih n]
    constructor
    ·rintro ⟨l,h1,h2⟩;exact ⟨l,List.mem_filter.mpr ⟨h1,by simp;exact fun z=>e (z.symm.trans h2)⟩,h2⟩
    ·rintro ⟨l,h1,h2⟩;exact ⟨l,(List.mem_filter.mp h1).1,h2⟩
def RowsL (H:Hp) (qs:List Addr) (L:List Life):Prop:=qs.length=L.length∧∀(i:Nat) q l,qs[i]? =some q→L[i]? =some l→H q=some (.tup l.vs)
theorem RowsL.tup {H H':Hp} {qs:List Addr} {L:List Life} (h:RowsL H qs L) (t:Tup H H'):RowsL H' qs L:=⟨h.1,fun i r d e1 e2=>t _ _ (h.2 i r d e1 e2)⟩
theorem RowsL.snoc {H:Hp} {rs:List Addr} {ds:List Life} {r:Addr} {d:Life} (h:RowsL H rs ds) (e:H r=some (.tup d.vs)):RowsL H (rs++[r]) (ds++[d]):=by
 refine ⟨by simp [h.1],fun i r' d' e1 e2=> ?_⟩
 rcases Nat.lt_or_ge i rs.length with q|q
 ·rw [List.getElem?_append_left q] at e1
  rw [List.getElem?_append_left (by rw [←h.1];exact q)] at e2
  exact h.2 i r' d' e1 e2
 ·rw [List.getElem?_append_right q] at e1
  rw [List.getElem?_append_right (by rw [←h.1];exact q),←h.1] at e2
  cases z:i - rs.length with
  |zero=>
   rw [z] at e1 e2
   cases e1;cases e2
   exact e
  |succ n=>rw [z] at e1;cases e1
def LivesAt (H:Hp) (r:Addr) (L:List Life):Prop:=∃qs:List Addr,H r=some (.tup (qs.map V.ref))∧RowsL H qs L
theorem lives_len (ds:List Deed):∀j,(Bf ds j).length≤j
 |0=>Nat.le_refl _
 |j+1=>by
  have:=lives_len ds j
  show (Bf ds j++Bx ds j).length≤_
  have:(Bx ds j).length≤1:=by unfold Bx;split<;> simp
  simp
  omega
end K28
namespace K28
open PySem L2 Wk
theorem mem_lives_of {ds:List Deed} {k:Nat} {m:Int} {n:Str} {a b w:Int} (h:ds[k]? =some (.come m n a b w)):∀j,k<j→(⟨n,k,endOf ds k n,a,b,w⟩:Life)∈Bf ds j
 |0,hj=>absurd hj (Nat.not_lt_zero _)
 |j+1,hj=>by
  show _∈Bf ds j++Bx ds j
  rcases Nat.lt_or_ge k j with q|q
  ·exact List.mem_append_left _ (mem_lives_of h j q)
  ·have:k=j:=by omega
   subst this
   refine List.mem_append_right _ ?_
   unfold Bx
   rw [h]
   exact .head _
theorem there_nodup {ds:List Deed} (hR:RightN ds):∀i,i≤ds.length→(Cb ds i).Pairwise fun l l'=>l.n≠l'.n
 |0,_=> .nil
 |i+1,hi=>by
  have ih:=there_nodup hR i (by omega)
  obtain ⟨d,hd⟩:∃d,ds[i]? =some d:=⟨ds[i],List.getElem?_eq_getElem (by omega)⟩
  have ok:=hR i d hd
  cases d with
  |come m n a b w=>
   rw [there_come hd,List.pairwise_append]
   refine ⟨ih,List.pairwise_singleton _ _,fun l hl l' hl'=> ?_⟩
   rw [List.mem_singleton.mp hl']
   intro e
   have e:l.n=n:=e
   have:=(here_there hR i (by omega) n).mpr ⟨l,hl,e⟩
   have ok:hereR (ds.take i).reverse n=false:=ok
   rw [this] at ok
   cases ok
  |go m n=>
   rw [there_go hd]
   exact ih.sublist List.filter_sublist
theorem there_uniq {ds:List Deed} (hR:RightN ds) {i:Nat} (hi:i≤ds.length) {l l':Life} (h:l∈Cb ds i) (h':l'∈Cb ds i) (e:l.n=l'.n):l=l':=by
 have:=there_nodup hR i hi
 generalize Cb ds i=L at this h h'
 induction L with
 |nil=>cases h
 |cons x L ih=>
  have q:=List.pairwise_cons.mp this
  rcases List.mem_cons.mp h with e1|h1
  ·rcases List.mem_cons.mp h' with e2|h2
   ·rw [e1,e2]
   ·exact absurd e (e1▸q.1 _ h2)
  ·rcases List.mem_cons.mp h' with e2|h2
   ·exact absurd e.symm (e2▸q.1 _ h1)
   ·exact ih q.2 h1 h2
def endI (ds:List Deed) (i k:Nat):Int:=match ds[k]? with
 |some (.come _ n _ _ _)=>if endOf ds k n<i then (endOf ds k n:Int) else (ds.length:Int)
 |_=>(ds.length:Int)
theorem endI_zero (ds:List Deed) (k:Nat):endI ds 0 k=(ds.length:Int):=by
 unfold endI
 split
 ·rw [if_neg (Nat.not_lt_zero _)]
 ·rfl
theorem end_le (ds:List Deed) (k:Nat) (n:Str):endOf ds k n≤ds.length:=by
 unfold endOf
 cases e:fstGo n (ds.drop (k+1)) (k+1) with
 |none=>exact Nat.le_refl _
 |some t=>
  have:=fst_le n _ _ _ e
  rw [List.length_drop] at this
  show t≤_
  omega
theorem endI_come {ds:List Deed} {i k:Nat} {m:Int} {n:Str} {a b w:Int} (h:ds[i]? =some (.come m n a b w)):endI ds (i+1) k=endI ds i k:=by
 unfold endI
 split
 ·rename_i m' n' a' b' w' e
  have:endOf ds k n'≠i:=fun z=>by have:=end_go h z;cases this
  by_cases q:endOf ds k n'<i
  ·rw [if_pos q,if_pos (by omega)]
  ·rw [if_neg q,if_neg (by omega)]
 ·rfl
theorem endI_go {ds:List Deed} (hR:RightN ds) {i k:Nat} {m:Int} {n:Str} (h:ds[i]? =some (.go m n)) {l:Life} (hl:l∈Cb ds i) (hn:l.n=n):endI ds (i+1) k=if k=l.s then (i:Int) else endI ds i k:=by
 have hi:i<ds.length:=(List.getElem?_eq_some_iff.mp h).1
 obtain ⟨hl1,hl2⟩:=List.mem_filter.mp hl
 have hl2:i≤l.e:=by simpa using hl2
 obtain ⟨m',s1,s2,s3⟩:=mem_lives hl1
 by_cases ek:k=l.s
 ·rw [if_pos ek]
  subst ek
  unfold endI
  rw [s2]
  have:=end_first (k:=l.s) (n:=l.n) h (by simp [isGo,hn]) s1
  have:endOf ds l.s l.n=i:=by omega
  dsimp only
  rw [this,if_pos (by omega)]
 ·rw [if_neg ek]
  unfold endI
  split
  ·rename_i m2 n2 a2 b2 w2 e
   have:endOf ds k n2≠i:=fun z=>by
    have g:=end_go h z
    have g:n=n2:=by simpa [isGo] using g
    have kl:k<ds.length:=(List.getElem?_eq_some_iff.mp e).1
    have:=end_gt ds k n2 kl
    have mem:(⟨n2,k,endOf ds k n2,a2,b2,w2⟩:Life)∈Cb ds i:=List.mem_filter.mpr ⟨mem_lives_of e i (by omega),by simp;omega⟩
    have:=there_uniq hR (by omega) mem hl (by show n2=l.n;rw [hn,g])
    exact ek (by rw [←this])
   by_cases q:endOf ds k n2<i
   ·rw [if_pos q,if_pos (by omega)]
   ·rw [if_neg q,if_neg (by omega)]
  ·rfl
theorem flat_rep (x:V):∀k:Nat,(List.replicate k [x]).flatten=List.replicate k x
 |0=>rfl
 |k+1=>by rw [List.replicate_succ,List.flatten_cons,flat_rep x k];rfl
def spLives:Sp:=fun vs H Q _=>∃(h:Addr) (ds:List Deed),vs=[.ref h]∧HistD H h ds∧RightN ds∧∀(r:Addr) (H':Hp),Same H H'→LivesAt H' r (Bf ds ds.length)→Q (.ref r) H'
structure LI (H:Hp) (d E:Addr) (ds:List Deed) (i:Nat) (kvs:List (Key×V)) (es:List Int) (H2:Hp):Prop where
 sm:Same H H2
 hd:H2 d=some (.dK kvs)
 hE:H2 E=some (.lst (es.map V.int))
 ln:es.length=ds.length
 lk:kvs.length≤i
 ev:∀k,k<ds.length→es[k]? =some (endI ds i k)
 kv:∀l∈Cb ds i,Bn kvs (.inr l.n)=some (.int (l.s:Int))
section
variable {P:Program} {w:World} {K:PySem.W.Frag} {mg:Str→Option Value} {base:Heap} {C I:Addr}
theorem scLives:Ax ["history","deeds","came","ends","number","deed"] ["history"] (Ag sLives):=⟨rfl,rfl,rfl,by decide+kernel,rfl,by decide+kernel,by decide+kernel⟩
theorem ok_Lives {f:Addr} {fd:FuncData} (F:Fun K "lives_of" "lives_of" sLives f fd) (T:Txt K mg C I):
  FnOk P w K mg base CX0 1 f fd ["history"] spLives:=by
 refine F.ok scLives (fun vs H Q E h=> ?_) (fun cdv A outer s H vs Q E hr h=> ?_)
 ·obtain ⟨_,_,rfl,_⟩:=h;rfl
 ·obtain ⟨h,ds,rfl,⟨many,t,rs,eh,et,hdd,l60⟩,hR,k⟩:=h
  refine ⟨_,Af (Aq (i:=1) scLives.nd rfl (Or.inl rfl) (Ap Az (pv 0) Ae (fun _ _=>rfl)))
   (Af (Aq (i:=2) scLives.nd rfl (Or.inl rfl) pe_dnewK)
   (Af (Aq (i:=3) scLives.nd rfl (Or.inr rfl) (As op_rep (Bh (Aa (A8 A4 (by rfl) T.len PySem.boot_len (Aa (pv 1) Ad)) Ad)) (A8 A4 (by rfl) T.len PySem.boot_len (Aa (pv 1) Ad))))
   (Af (Cs PassesOwn.never rfl (pi_enumT rfl T.enumerate (Aa (pv 1) Ad)) (pg_tup rfl (At (An (i:=4) scLives.nd rfl (Or.inl rfl)) (At (An (i:=5) scLives.nd rfl (Or.inl rfl)) Bu))) (Ah (B3 (A0 By (Ap Az (pv 5) Ae (fun _ _=>rfl)) Bw (A1 _)) (Ah (ps_dput (hu_of hr) (pv 2) (Ap Az (pv 5) Ae (fun _ _=>rfl)) (pv 4) rfl)) (Ah (ps_asg (pv 4) (pg_sub (pv 3) (pe_dget (hu_of hr) (pv 2) (Ap Az (pv 5) Ae (fun _ _=>rfl)) (fun _ _=>rfl)) set_list))))))
   (Ah (Ay (Be Bc (by rfl) T.tuple (by decide+kernel) (Aa (C5 (T:=["number","deed"]) (F:=["ends"]) (js:=[3]) (CS.to (osc:=Ag sLives) ⟨by rfl,by decide+kernel,by decide+kernel,by decide+kernel,by decide+kernel,by decide+kernel,by decide+kernel⟩ rfl rfl) rfl (pi_enumT rfl T.enumerate (Aa (pv 1) Ad)) (fun _ _ _ _ _=>pg_tupK K 2 rfl rfl (At (An (i:=0) (show (["number","deed","ends"]:List Str).Nodup by decide+kernel) rfl (Or.inl rfl)) (At (An (i:=1) (show (["number","deed","ends"]:List Str).Nodup by decide+kernel) rfl (Or.inl rfl)) Bu))) (fun _ _ _ _ _=>pif_one (A0 By (Ap (r:=rIxT K) Az (pv 1) Ae (fun _ _=>rfl)) Bw (A1 _))) (fun _ _ _ _ _=>Ba (Aa (Ap (r:=rIxT K) Az (pv 1) Ae (fun _ _=>rfl)) (Aa (pv 0) (Aa (Ap (r:=rIxL K) Bb (pv 2) (pv 0) (fun _ _=>rfl)) (Aa (Ap (r:=rIxT K) Az (pv 1) Ae (fun _ _=>rfl)) (Aa (Ap (r:=rIxT K) Az (pv 1) Ae (fun _ _=>rfl)) (Aa (Ap (r:=rIxT K) Az (pv 1) Ae (fun _ _=>rfl)) Ad)))))))) Ad))))))),?_⟩
  have lrs:=hdd.1
  refine ⟨_,rfl,h,_,1,_,rfl,rfl,SqT.of eh,Am (j:=1) rfl,?_⟩
  refine fun d hd=> ?_
  have s1:=Ac (o:= .dK []) hd
  have d1:=Ab (H:=H) (a:=d) (o:= .dK [])
  generalize upd H d (.dK [])=H1 at s1 d1
  refine ⟨_,rfl,t,_,rfl,.inr (SqT.of (s1 _ _ et)),small (by simp),fun q hq=> ?_⟩
  have s2:=s1.trans (Ac (o:= .lst [.int ((rs.map V.ref).length:Int)]) hq)
  have d2:=Ac (o:= .lst [.int ((rs.map V.ref).length:Int)]) hq _ _ d1
  have q2:=Ab (H:=H1) (a:=q) (o:= .lst [.int ((rs.map V.ref).length:Int)])
  generalize upd H1 q (.lst [.int ((rs.map V.ref).length:Int)])=H2 at s2 d2 q2
  refine ⟨_,rfl,t,_,rfl,.inr (SqT.of (s2 _ _ et)),q,_,_,rfl,rfl,q2,by rw [List.length_map];omega,by rw [List.length_map];omega,by rw [List.length_map,Int.toNat_natCast];exact small (by simp;omega),fun E hE=> ?_⟩
  rw [flat_rep,List.length_map,Int.toNat_natCast,lrs]
  have I0:LI H d E ds 0 [] (List.replicate ds.length (ds.length:Int)) (upd H2 E (.lst (List.replicate ds.length (V.int (ds.length:Int))))):={
   sm:=s2.trans (Ac hE)
   hd:=Ac hE _ _ d2
   hE:=by rw [Ab,List.map_replicate]
   ln:=by simp
   lk:=Nat.le_refl _
   ev:=fun k hk=>by rw [endI_zero];simp [hk]
   kv:=fun l hl=>by cases hl}
  have dE:d≠E:=Aj d2 hE
  have Ef:H E=none:=by
   cases z:H E with
   |none=>rfl
   |some o=>rw [s2 _ _ z] at hE;cases hE
  show tSeq _ _ _ _ _
  generalize upd H2 E (.lst (List.replicate ds.length (V.int (ds.length:Int))))=H3 at I0
  refine ⟨_,rfl,t,_,rfl,SqT.of (I0.sm _ _ et),for_enumT (K:=K) (a:=t) (xs:=rs.map V.ref) (fun i σ H4=>∃(x4 x5:Option V) (kvs:List (Key×V)) (es:List Int),σ=[some (.ref h),some (.ref t),some (.ref d),some (.ref E),x4,x5]∧LI H d E ds i kvs es H4) ⟨none,none,[],_,rfl,I0⟩ (fun i σ H4 _ ⟨_,_,_,_,_,I⟩=>SqT.of (I.sm _ _ et)) ?_ ?_⟩
  ·rintro i x σ H4 T hx ⟨x4,x5,kvs,es,rfl,I⟩ hT
   obtain ⟨r,er,rfl⟩:∃r,rs[i]? =some r∧x= .ref r:=by
    rw [List.getElem?_map] at hx
    cases q:rs[i]? with
    |none=>rw [q] at hx;cases hx
    |some z=>rw [q] at hx;exact ⟨z,rfl,(Option.some.inj hx).symm⟩
   have li:i<ds.length:=by rw [←lrs];exact (List.getElem?_eq_some_iff.mp er).1
   obtain ⟨dd,ed⟩:∃dd,ds[i]? =some dd:=⟨_,List.getElem?_eq_getElem li⟩
   have s5:=Ac (o:= .tup [.int (i:Int),.ref r]) hT
   have T5:=Ab (H:=H4) (a:=T) (o:= .tup [.int (i:Int),.ref r])
   generalize upd H4 T (.tup [.int (i:Int),.ref r])=H5 at s5 T5
   have I5:LI H d E ds i kvs es H5:=⟨I.sm.trans s5,s5 _ _ I.hd,s5 _ _ I.hE,I.ln,I.lk,I.ev,I.kv⟩
   have r5:=I5.sm _ _ (hdd.2 i r dd er ed)
   refine ⟨T,_,rfl,SqT.of T5,rfl,_,_,rfl,_,_,rfl,rfl,?_⟩
   cases dd with
   |come m n a b w'=>
    refine ⟨_,rfl,r,_,0,_,rfl,rfl,SqT.of r5,Am (j:=0) rfl,rfl,_,rfl,iteT ?_⟩
    refine ⟨_,rfl,_,rfl,_,rfl,r,_,2,_,rfl,rfl,SqT.of r5,Am (j:=2) rfl,d,_,rfl,DPut.k (k:= .inr n) I5.hd (Aw (by have:=I5.lk;omega)),_,_,Cm kvs (.inr n) (.int (i:Int)),es,rfl,?_⟩
    have nf:∀l∈Cb ds i,l.n≠n:=fun l hl e=>by
     have ok:hereR (ds.take i).reverse n=false:=hR i _ ed
     rw [(here_there hR i (by omega) n).mpr ⟨l,hl,e⟩] at ok
     cases ok
    exact {
     sm:=fun c o e=>by rw [Ai (Aj e hd)];exact I5.sm _ _ e
     hd:=Ab
     hE:=by rw [Ai dE.symm];exact I5.hE
     ln:=I5.ln
     lk:=by have:=length_putK kvs (.inr n) (.int (i:Int));have:=I5.lk;omega
     ev:=fun k hk=>by rw [endI_come ed];exact I5.ev k hk
     kv:=fun l hl=>by
      rw [there_come ed] at hl
      rw [valV_put]
      rcases List.mem_append.mp hl with hl|hl
      ·rw [if_neg (fun e=>nf l hl (by cases e;rfl))]
       exact I5.kv l hl
      ·rw [List.mem_singleton.mp hl,if_pos rfl]}
   |go m n=>
    obtain ⟨l,hl,hn⟩:=(here_there hR i (by omega) n).mp (hR i _ ed)
    have hv:=I5.kv l hl
    rw [hn] at hv
    have ls:l.s<es.length:=by
     rw [I5.ln]
     obtain ⟨_,s1,_⟩:=mem_lives (List.mem_filter.mp hl).1
     omega
    refine ⟨_,rfl,r,_,0,_,rfl,rfl,SqT.of r5,Am (j:=0) rfl,rfl,_,rfl,C3 ?_⟩
    refine ⟨_,rfl,_,rfl,_,rfl,_,rfl,r,_,2,_,rfl,rfl,SqT.of r5,Am (j:=2) rfl,d,_,rfl,hv▸DGet.k (k:= .inr n) I5.hd,E,_,_,l.s,rfl,rfl,I5.hE,?_,_,_,kvs,es.set l.s (i:Int),rfl,?_⟩
    ·rw [List.length_map]
     unfold ixN
     rw [if_pos (by omega),if_pos (by omega),Int.toNat_natCast]
    exact {
     sm:=fun c o e=>by rw [Ai (Aj e Ef)];exact I5.sm _ _ e
     hd:=by rw [Ai dE];exact I5.hd
     hE:=by rw [Ab,List.map_set]
     ln:=by rw [List.length_set];exact I5.ln
     lk:=by have:=I5.lk;omega
     ev:=fun k hk=>by
      rw [endI_go hR ed hl hn,List.getElem?_set]
      by_cases e:k=l.s
      ·rw [if_pos e.symm,if_pos e,if_pos ls]
      ·rw [if_neg (fun z=>e z.symm),if_neg e];exact I5.ev k hk
     kv:=fun l' hl'=>by
      rw [there_go ed] at hl'
      exact I5.kv l' (List.mem_filter.mp hl').1}
  rintro σ H4 ⟨x4,x5,kvs,es,rfl,I⟩
  rw [List.length_map,lrs] at I
  have t4:=I.sm _ _ et
  refine ⟨_,rfl,t,_,rfl,SqT.of t4,fun D hD=>comp_enumT (K:=K) (a:=t) (xs:=rs.map V.ref) (fun j σ ys H5=>∃(u v:Option V) (qs:List Addr),σ=[u,v,some (.ref E)]∧Same H4 H5∧H5 D=some (.lst ys)∧ys=qs.map V.ref∧RowsL H5 qs (Bf ds j)) ⟨none,none,[],rfl,Ac hD,Ab,rfl,rfl,fun i q l e=>by simp at e⟩ (fun j σ ys H5 _ ⟨_,_,_,_,s5,e,_⟩=>⟨SqT.of (s5 _ _ t4),e⟩) ?_ ?_⟩
  ·rintro j x σ ys H5 T hx ⟨u,v,qs,rfl,s5,e5,rfl,hq⟩ hT
   obtain ⟨r,er,rfl⟩:∃r,rs[j]? =some r∧x= .ref r:=by
    rw [List.getElem?_map] at hx
    cases q:rs[j]? with
    |none=>rw [q] at hx;cases hx
    |some z=>rw [q] at hx;exact ⟨z,rfl,(Option.some.inj hx).symm⟩
   have li:j<ds.length:=by rw [←lrs];exact (List.getElem?_eq_some_iff.mp er).1
   obtain ⟨dd,ed⟩:∃dd,ds[j]? =some dd:=⟨_,List.getElem?_eq_getElem li⟩
   have s6:=Ac (o:= .tup [.int (j:Int),.ref r]) hT
   have T6:=Ab (H:=H5) (a:=T) (o:= .tup [.int (j:Int),.ref r])
   generalize upd H5 T (.tup [.int (j:Int),.ref r])=H6 at s6 T6
   have S6:=s5.trans s6
   have r6:=S6 _ _ (I.sm _ _ (hdd.2 j r dd er ed))
   have E6:=S6 _ _ I.hE
   have D6:=s6 _ _ e5
   have ll:=lives_len ds j
   have lq:=hq.1
   refine ⟨T,_,rfl,SqT.of T6,rfl,_,_,rfl,_,_,rfl,rfl,?_⟩
   cases dd with
   |come m n a b w'=>
    have ev:=I.ev j li
    have ej:endI ds ds.length j=(endOf ds j n:Int):=by
     unfold endI
     rw [ed]
     dsimp only
     have:=end_le ds j n
     split
     ·rfl
     ·have:endOf ds j n=ds.length:=by omega
      rw [this]
    rw [ej] at ev
    refine ⟨_,rfl,r,_,0,_,rfl,rfl,SqT.of r6,Am (j:=0) rfl,rfl,_,rfl,iteT ?_⟩
    refine ⟨_,rfl,r,_,2,_,rfl,rfl,SqT.of r6,Am (j:=2) rfl,_,rfl,_,rfl,_,rfl,E,_,_,_,rfl,rfl,SqL.of E6,Am (by rw [List.getElem?_map,ev];rfl),_,rfl,r,_,3,_,rfl,rfl,SqT.of r6,Am (j:=3) rfl,_,rfl,r,_,4,_,rfl,rfl,SqT.of r6,Am (j:=4) rfl,_,rfl,r,_,5,_,rfl,rfl,SqT.of r6,Am (j:=5) rfl,small (by simp),fun p hp=> ?_⟩
    have s7:=Ac (o:= .tup (Life.vs ⟨n,j,endOf ds j n,a,b,w'⟩)) hp
    have p7:=Ab (H:=H6) (a:=p) (o:= .tup (Life.vs ⟨n,j,endOf ds j n,a,b,w'⟩))
    have D7:=s7 _ _ D6
    have tf:Tup (upd H6 p (.tup (Life.vs ⟨n,j,endOf ds j n,a,b,w'⟩))) (upd (upd H6 p (.tup (Life.vs ⟨n,j,endOf ds j n,a,b,w'⟩))) D (.lst (qs.map V.ref++[.ref p]))):=Tup.lst D7
    have lf:Bx ds j=[⟨n,j,endOf ds j n,a,b,w'⟩]:=by unfold Bx;rw [ed]
    refine ⟨D7,Aw (by simp;omega),_,_,qs++[p],rfl,fun c o e=> ?_,Ab,by rw [List.map_append];rfl,?_⟩
    ·rw [Ai (Aj e hD)]
     exact s7 _ _ (S6 _ _ e)
    ·show RowsL _ _ (Bf ds j++Bx ds j)
     rw [lf]
     exact (hq.tup (((Tup.of s6).trans (Tup.of s7)).trans tf)).snoc (tf _ _ p7)
   |go m n=>
    refine ⟨_,rfl,r,_,0,_,rfl,rfl,SqT.of r6,Am (j:=0) rfl,rfl,_,rfl,C3 ?_⟩
    have lf:Bx ds j=[]:=by unfold Bx;rw [ed]
    refine ⟨_,_,qs,rfl,S6,D6,rfl,?_⟩
    show RowsL _ _ (Bf ds j++Bx ds j)
    rw [lf,List.append_nil]
    exact hq.tup (Tup.of s6)
  ·rintro σ ys H5 ⟨u,v,qs,rfl,s5,e5,rfl,hq⟩
   rw [List.length_map,lrs] at hq
   refine ⟨D,_,rfl,.inl ⟨SqL.of e5,fun p hp=> ?_⟩⟩
   have s6:=Ac (o:= .tup (qs.map V.ref)) hp
   exact k p _ ((I.sm.trans s5).trans s6) ⟨qs,Ab,hq.tup (Tup.of s6)⟩
end
end K28
namespace K28
open PySem L2 Wk
def tau (st:S3) (i:Nat):Int:=st.tops.getD i 0
def sig (st:S3) (i:Nat):Int:=st.sides.getD i 0
structure UF (N:Nat) (P:List T4) (st:S3):Prop where
 inn:InN N P
 lt:st.tops.length=N
 ls:st.sides.length=N
 tp:∀i,i<N→∃r,r<N∧tau st i=(r:Int)∧tau st r=(r:Int)
 rc:∀i j,i<N→j<N→(tau st i=tau st j↔Reach P i j)
 sd:∀i,sig st i=0∨sig st i=1
 od:st.odds=(P.countP (fun t=>decide (sig st t.2.1=sig st t.2.2.1)):Nat)
 co:∀f:Nat→Int,(∀v,f v=0∨f v=1)→(∀t∈P,f t.2.1≠f t.2.2.1)→∀i j,i<N→j<N→tau st i=tau st j→(sig st i=sig st j↔f i=f j)
 pn:partsN st.tops=clsF N P
theorem rints_getD {N i:Nat} (h:i<N):(rints 0 N).getD i 0=(i:Int):=by
 simp [rints,List.getD,h]
theorem start_tau {N i:Nat} (h:i<N):tau (Cu N) i=(i:Int):=by
 unfold tau Cu
 exact rints_getD h
theorem start_sig {N i:Nat}:sig (Cu N) i=0:=by
 unfold sig Cu
 by_cases h:i<N<;> simp [List.getD,List.getElem?_replicate,h]
theorem reach_nil {a b:Nat} (h:Reach [] a b):a=b:=by
 obtain ⟨x,hx⟩:=h
 cases hx with
 |nil=>rfl
 |snoc _ q=>simp [Br] at q
theorem uf_start (N:Nat):UF N [] (Cu N):=by
 refine ⟨fun t h=>by simp at h,by simp [Cu,rints],by simp [Cu],fun i h=>⟨i,h,start_tau h,start_tau h⟩,fun i j hi hj=> ?_,fun i=> .inl start_sig,rfl,fun f _ _ i j hi hj e=> ?_,?_⟩
 ·rw [start_tau hi,start_tau hj]
  constructor
  ·intro e
   have:i=j:=by omega
   subst this
   exact .refl
  ·intro r
   rw [reach_nil r]
 ·rw [start_tau hi,start_tau hj] at e
  have:i=j:=by omega
  subst this
  simp
 ·rw [cls_nil]
  unfold partsN
  have e1:(Cu N).tops.length=N:=by simp [Cu,rints]
  rw [e1]
  have:((List.range N).filter fun p=>decide ((Cu (N:Int)).tops.getD p 0=((p:Nat):Int)))=List.range N:=by
   rw [List.filter_eq_self]
   intro p hp
   have:=start_tau (List.mem_range.mp hp)
   unfold tau at this
   rw [this]
   simp
  rw [this,List.length_range]
theorem partsN_eq (tops:List Int):partsN tops=(List.range tops.length).countP fun p=>decide (tops.getD p 0=(p:Nat)):=by
 unfold partsN
 rw [List.countP_eq_length_filter]
theorem newTops_getD {tops:List Int} {k t:Int} {i:Nat} (h:i<tops.length):(Ck tops k t).getD i 0=if tops.getD i 0=t then k else tops.getD i 0:=by
 simp [Ck,List.getD,h]
theorem newSides_getD {tops sides:List Int} {t u:Int} {i:Nat} (h:i<tops.length) (h':i<sides.length):(Bq tops sides t u).getD i 0=if tops.getD i 0=t then Builtin.bitXor (sides.getD i 0) u else sides.getD i 0:=by
 simp [Bq,List.getD,List.getElem?_zipWith,h,h']
theorem newSides_off {tops sides:List Int} {t u:Int} {i:Nat} (h:¬i<tops.length):(Bq tops sides t u).getD i 0=0:=by
 simp [Bq,List.getD,List.getElem?_zipWith,List.getElem?_eq_none (Nat.le_of_not_lt h)]
theorem xor_bits:Builtin.bitXor 0 0=0∧Builtin.bitXor 0 1=1∧Builtin.bitXor 1 0=1∧Builtin.bitXor 1 1=0:=by decide+kernel
theorem xor_bit {s u:Int} (hs:s=0∨s=1) (hu:u=0∨u=1):(Builtin.bitXor s u=0∨Builtin.bitXor s u=1)∧(Builtin.bitXor s u=0↔s=u):=by
 obtain ⟨a,b,c,d⟩:=xor_bits
 rcases hs with rfl|rfl<;> rcases hu with rfl|rfl
 ·rw [a];simp
 ·rw [b];simp
 ·rw [c];simp
 ·rw [d];simp
theorem turn_bit {s t:Int}:(Bo s t=0∨Bo s t=1)∧(Bo s t=1↔s=t):=by
 unfold Bo
 split
 ·rename_i h;simp [h]
 ·rename_i h;simp [h]
theorem uf_snoc {N:Nat} {P:List T4} {st:S3} {t:T4} (U:UF N P st) (h1:t.2.1<N) (h2:t.2.2.1<N) (N24:N≤24):UF N (P++[t]) (joinS st t.2.1 t.2.2.1).1:=by
 have inn':InN N (P++[t]):=fun u hu=>by
  rcases List.mem_append.mp hu with q|q
  ·exact U.inn u q
  ·rw [List.mem_singleton.mp q];exact ⟨h1,h2⟩
 by_cases e:tau st t.2.1=tau st t.2.2.1
 ·have hj:(joinS st t.2.1 t.2.2.1).1=⟨st.tops,st.sides,st.odds+Bo (sig st t.2.1) (sig st t.2.2.1)⟩:=by
   unfold joinS
   have e':st.tops.getD t.2.1 0=st.tops.getD t.2.2.1 0:=e
   simp only [e',if_true]
   rfl
  rw [hj]
  have hr:=(U.rc _ _ h1 h2).mp e
  have sn:∀a b,Reach (P++[t]) a b↔Reach P a b:=fun a b=>by
   rw [reach_snoc]
   constructor
   ·rintro (h|⟨h,h'⟩|⟨h,h'⟩)
    ·exact h
    ·exact (h.trans hr).trans h'
    ·exact (h.trans hr.symm).trans h'
   ·exact .inl
  refine ⟨inn',U.lt,U.ls,U.tp,fun i j hi hj=>by rw [sn];exact U.rc i j hi hj,U.sd,?_,fun f f2 fp=>U.co f f2 (fun u hu=>fp u (List.mem_append_left _ hu)),?_⟩
  ·show st.odds+Bo (sig st t.2.1) (sig st t.2.2.1)=_
   rw [List.countP_append,U.od]
   show _=(((P.countP fun t=>decide (sig st t.2.1=sig st t.2.2.1))+_:Nat):Int)
   rw [List.countP_singleton]
   unfold Bo
   by_cases g:sig st t.2.1=sig st t.2.2.1
   ·rw [if_pos g,if_pos (decide_eq_true (by exact g))];rfl
   ·rw [if_neg g,if_neg (by exact fun z=>g (of_decide_eq_true z))];rfl
  ·rw [cls_same hr];exact U.pn
 ·have hkt:(kt st.tops (tau st t.2.1) (tau st t.2.2.1)=(tau st t.2.1,tau st t.2.2.1)∨kt st.tops (tau st t.2.1) (tau st t.2.2.1)=(tau st t.2.2.1,tau st t.2.1)):=by
   unfold kt
   split
   ·exact .inl rfl
   ·exact .inr rfl
  obtain ⟨kp,tk,hk,hK⟩:∃kp tk,kt st.tops (tau st t.2.1) (tau st t.2.2.1)=(kp,tk)∧((kp=tau st t.2.1∧tk=tau st t.2.2.1)∨(kp=tau st t.2.2.1∧tk=tau st t.2.1)):=by
   rcases hkt with h|h
   ·exact ⟨_,_,h,.inl ⟨rfl,rfl⟩⟩
   ·exact ⟨_,_,h,.inr ⟨rfl,rfl⟩⟩
  obtain ⟨u,hu⟩:∃u,u=Bo (sig st t.2.1) (sig st t.2.2.1):=⟨_,rfl⟩
  obtain ⟨u2,u1⟩:=turn_bit (s:=sig st t.2.1) (t:=sig st t.2.2.1)
  rw [←hu] at u2 u1
  obtain ⟨st',hst⟩:∃st',st'=(joinS st t.2.1 t.2.2.1).1:=⟨_,rfl⟩
  have hj:st'=⟨Ck st.tops kp tk,Bq st.tops st.sides tk u,st.odds⟩:=by
   rw [hst,hu]
   unfold joinS
   have e':¬(st.tops.getD t.2.1 0=st.tops.getD t.2.2.1 0):=e
   have hk':kt st.tops (st.tops.getD t.2.1 0) (st.tops.getD t.2.2.1 0)=(kp,tk):=hk
   simp only [if_neg e',hk']
   rfl
  rw [←hst]
  have T':∀i,i<N→tau st' i=if tau st i=tk then kp else tau st i:=fun i hi=>by
   rw [hj]
   exact newTops_getD (by rw [U.lt];exact hi)
  have S':∀i,i<N→sig st' i=if tau st i=tk then Builtin.bitXor (sig st i) u else sig st i:=fun i hi=>by
   rw [hj]
   exact newSides_getD (by rw [U.lt];exact hi) (by rw [U.ls];exact hi)
  have O':∀i,¬i<N→sig st' i=0:=fun i hi=>by
   rw [hj]
   exact newSides_off (by rw [U.lt];exact hi)
  have odds':st'.odds=st.odds:=by rw [hj]
  have l1:st'.tops.length=N:=by rw [hj];simp [Ck,U.lt]
  have l2:st'.sides.length=N:=by rw [hj];simp [Bq,U.lt,U.ls]
  have tops':st'.tops=Ck st.tops kp tk:=by rw [hj]
  clear hj hst
  have kne:kp≠tk:=by rcases hK with ⟨a,b⟩|⟨a,b⟩<;> rw [a,b]<;> intro z<;> first|exact e z|exact e z.symm
  have rc':∀i j,i<N→j<N→(tau st' i=tau st' j↔(tau st i=tau st j∨(tau st i=tau st t.2.1∧tau st t.2.2.1=tau st j)∨(tau st i=tau st t.2.2.1∧tau st t.2.1=tau st j))):=fun i j hi hj=>by
   rw [T' i hi,T' j hj]
   rcases hK with ⟨rfl,rfl⟩|⟨rfl,rfl⟩<;> split<;> split<;> omega
  have nr:¬Reach P t.2.1 t.2.2.1:=fun r=>e ((U.rc _ _ h1 h2).mpr r)
  have x2:=U.sd
  have sd':∀i,sig st' i=0∨sig st' i=1:=fun i=>by
   by_cases hi:i<N
   ·rw [S' i hi]
    split
    ·exact (xor_bit (U.sd i) u2).1
    ·exact U.sd i
   ·exact .inl (O' i hi)
  have same':∀i j,i<N→j<N→tau st i=tau st j→(sig st' i=sig st' j↔sig st i=sig st j):=fun i j hi hj q=>by
   rw [S' i hi,S' j hj,q]
   split
   ·have a:=xor_bit (U.sd i) u2
    have b:=xor_bit (U.sd j) u2
    have:=U.sd i
    have:=U.sd j
    omega
   ·exact Iff.rfl
  have new':∀i j,i<N→j<N→tau st i=tau st t.2.1→tau st j=tau st t.2.2.1→(sig st' i=sig st' j↔((sig st i=sig st t.2.1)↔¬(sig st j=sig st t.2.2.1))):=fun i j hi hj p q=>by
   have s1:=U.sd i
   have s2:=U.sd j
   have s3:=U.sd t.2.1
   have s4:=U.sd t.2.2.1
   rw [S' i hi,S' j hj,p,q]
   rcases hK with ⟨rfl,rfl⟩|⟨rfl,rfl⟩
   ·rw [if_neg e,if_pos rfl]
    have b:=xor_bit s2 u2
    omega
   ·rw [if_pos rfl,if_neg (fun z=>e z.symm)]
    have b:=xor_bit s1 u2
    omega
  have inP:∀u∈P,tau st u.2.1=tau st u.2.2.1:=fun u hu=>(U.rc _ _ (U.inn u hu).1 (U.inn u hu).2).mpr (.step (nb_of hu))
  refine ⟨inn',l1,l2,fun i hi=> ?_,fun i j hi hj=> ?_,sd',?_,fun f f2 fp i j hi hj q=> ?_,?_⟩
  ·obtain ⟨r,hr,e1,e2⟩:=U.tp i hi
   by_cases g:tau st i=tk
   ·obtain ⟨k,hk1,ek1,ek2⟩:∃k,k<N∧kp=(k:Int)∧tau st k=(k:Int):=by
     rcases hK with ⟨a,_⟩|⟨a,_⟩
     ·obtain ⟨k,x,y,z⟩:=U.tp _ h1
      exact ⟨k,x,a.trans y,z⟩
     ·obtain ⟨k,x,y,z⟩:=U.tp _ h2
      exact ⟨k,x,a.trans y,z⟩
    refine ⟨k,hk1,by rw [T' i hi,if_pos g,ek1],?_⟩
    rw [T' k hk1,if_neg (by rw [ek2,←ek1];exact kne),ek2]
   ·refine ⟨r,hr,by rw [T' i hi,if_neg g,e1],?_⟩
    rw [T' r hr,if_neg (by rw [e2,←e1];exact g),e2]
  ·rw [rc' i j hi hj,reach_snoc,U.rc i j hi hj,U.rc i _ hi h1,U.rc _ j h2 hj,U.rc i _ hi h2,U.rc _ j h1 hj]
  ·rw [odds',U.od,List.countP_append,List.countP_singleton,if_neg (fun z=> ?_)]
   ·rw [Nat.add_zero]
    congr 1
    refine List.countP_congr fun u hu=> ?_
    rw [decide_eq_true_eq,decide_eq_true_eq]
    exact (same' _ _ (U.inn u hu).1 (U.inn u hu).2 (inP u hu)).symm
   ·have:=(new' _ _ h1 h2 rfl rfl).mp (of_decide_eq_true z)
    simp at this
  ·have ft:=fp t (List.mem_append_right _ (List.mem_singleton.mpr rfl))
   have fP:∀u∈P,f u.2.1≠f u.2.2.1:=fun u hu=>fp u (List.mem_append_left _ hu)
   have co:=U.co f f2 fP
   have a1:=f2 i
   have a2:=f2 j
   have a3:=f2 t.2.1
   have a4:=f2 t.2.2.1
   rcases (rc' i j hi hj).mp q with g|⟨g,g'⟩|⟨g,g'⟩
   ·rw [same' i j hi hj g];exact co i j hi hj g
   ·rw [new' i j hi hj g g'.symm,co i _ hi h1 g,co j _ hj h2 g'.symm]
    omega
   ·rw [eq_comm,new' j i hj hi g'.symm g,co j _ hj h1 g'.symm,co i _ hi h2 g]
    omega
  ·have c:=cls_less (N:=N) h1 h2 nr
   have p:=U.pn
   rw [partsN_eq,U.lt] at p
   rw [partsN_eq,l1]
   obtain ⟨k,hk1,ek1,ek2⟩:∃k,k<N∧tk=(k:Int)∧tau st k=(k:Int):=by
    rcases hK with ⟨_,a⟩|⟨_,a⟩
    ·obtain ⟨k,x,y,z⟩:=U.tp _ h2
     exact ⟨k,x,a.trans y,z⟩
    ·obtain ⟨k,x,y,z⟩:=U.tp _ h1
     exact ⟨k,x,a.trans y,z⟩
   obtain ⟨k',hk',ek',ek''⟩:∃k,k<N∧kp=(k:Int)∧tau st k=(k:Int):=by
    rcases hK with ⟨a,_⟩|⟨a,_⟩
    ·obtain ⟨k,x,y,z⟩:=U.tp _ h1
     exact ⟨k,x,a.trans y,z⟩
    ·obtain ⟨k,x,y,z⟩:=U.tp _ h2
     exact ⟨k,x,a.trans y,z⟩
   have:=countP_one (p:=fun p=>decide (st.tops.getD p 0=(p:Nat))) (q:=fun p=>decide (st'.tops.getD p 0=(p:Nat))) (x:=k) (N:=N) hk1 (decide_eq_true ek2) (fun v hv=> ?_)
   ·omega
   ·rw [decide_eq_true_eq,decide_eq_true_eq]
    have:=T' v hv
    unfold tau at this ek2 ek''
    rw [this]
    split
    ·rename_i g
     constructor
     ·intro z
      have:v=k':=by omega
      subst this
      rw [ek''] at g
      omega
     ·intro z;omega
    ·rename_i g
     constructor
     ·intro z
      exact ⟨z,fun w=>by subst w;omega⟩
     ·exact fun z=>z.1
def stF (N:Nat) (P:List T4):S3:=P.foldl (fun st t=>(joinS st t.2.1 t.2.2.1).1) (Cu N)
theorem stF_snoc {N:Nat} {P:List T4} {t:T4}:stF N (P++[t])=(joinS (stF N P) t.2.1 t.2.2.1).1:=by
 unfold stF
 rw [List.foldl_append];rfl
theorem uf_more {N:Nat} (N24:N≤24):∀{T P:List T4} {st:S3},UF N P st→InN N T→UF N (P++T) (T.foldl (fun st t=>(joinS st t.2.1 t.2.2.1).1) st)
 |[],P,st,U,_=>by rw [List.append_nil];exact U
 |t::T,P,st,U,h=>by
  have ht:=h t (List.mem_cons_self ..)
  have:=uf_more N24 (uf_snoc U ht.1 ht.2 N24) (T:=T) fun u hu=>h u (List.mem_cons_of_mem _ hu)
  rw [List.append_assoc] at this
  exact this
theorem uf_fin {N:Nat} (N24:N≤24) {P:List T4} (h:InN N P):UF N P (stF N P):=uf_more (T:=P) N24 (uf_start N) h
theorem UF.two {N:Nat} {P:List T4} {st:S3} (U:UF N P st):st.odds=0↔Two P:=by
 constructor
 ·intro h
  have h0:P.countP (fun t=>decide (sig st t.2.1=sig st t.2.2.1))=0:=by have:=U.od;omega
  refine ⟨sig st,U.sd,fun t ht e=> ?_⟩
  have:=List.countP_eq_zero.mp h0 t ht
  exact this (decide_eq_true e)
 ·rintro ⟨f,f2,fp⟩
  rw [U.od,List.countP_eq_zero.mpr]
  ·rfl
  intro t ht z
  have ht':=U.inn t ht
  have e:=(U.rc _ _ ht'.1 ht'.2).mpr (.step (nb_of ht))
  exact fp t ht ((U.co f f2 fp _ _ ht'.1 ht'.2 e).mp (of_decide_eq_true z))
theorem tops_map {N:Nat} {P:List T4} {st:S3} (U:UF N P st):st.tops=(List.range N).map (tau st):=by
 apply List.ext_getElem
 ·rw [U.lt];simp
 ·intro i h h'
  simp [tau,List.getD,h]
theorem UF.size {N p:Nat} {P S:List T4} {st:S3} (U:UF N P st) (hm:∀u,u∈P↔u∈S) (hp:p<N) (hN:N≤60):st.tops.count (tau st p)=(Bd N S p).length:=by
 have hS:InN N S:=fun u hu=>U.inn u ((hm u).mpr hu)
 rw [tops_map U,List.count_eq_countP,List.countP_map]
 have e:Bd N S p=(List.range N).filter fun v=>decide (v∈Bd N S p):=by
  unfold Bd
  refine List.filter_congr fun v hv=> ?_
  simp [hv,List.mem_range.mp hv]
 rw [e,←List.countP_eq_length_filter]
 refine List.countP_congr fun v hv=> ?_
 have hv:=List.mem_range.mp hv
 have h1:=C1 (v:=v) hS hp hN
 rw [decide_eq_true_eq,h1]
 show (tau st v==tau st p)=true↔_
 rw [beq_iff_eq,U.rc v p hv hp]
 have sw:Reach P v p↔Reach S p v:=⟨fun r=>r.symm.mono fun t=>(hm t).mp,fun r=>(r.mono fun t=>(hm t).mpr).symm⟩
 rw [sw]
 exact ⟨fun r=>⟨hv,r⟩,fun r=>r.2⟩
theorem UF.joined {N p q:Nat} {P S:List T4} {st:S3} (U:UF N P st) (hm:∀u,u∈P↔u∈S) (hp:p<N) (hq:q<N) (hN:N≤60):tau st p=tau st q↔q∈Bd N S p:=by
 have hS:InN N S:=fun u hu=>U.inn u ((hm u).mpr hu)
 rw [U.rc p q hp hq,C1 hS hp hN]
 exact ⟨fun r=>⟨hq,r.mono fun t=>(hm t).mp⟩,fun r=>r.2.mono fun t=>(hm t).mpr⟩
theorem part_least {N p q u:Nat} {S:List T4} (h:(Bd N S p)[0]? =some q) (hu:u∈Bd N S p):¬u<q:=by
 intro hlt
 have pw:(Bd N S p).Pairwise (·<·):=List.Pairwise.filter _ List.pairwise_lt_range
 generalize Bd N S p=l at h hu pw
 cases l with
 |nil=>simp at hu
 |cons x l=>
  simp at h
  subst h
  rcases List.mem_cons.mp hu with rfl|hu
  ·omega
  ·have:=(List.pairwise_cons.mp pw).1 u hu
   omega
theorem ls_cls {N:Nat} {S:List T4} (hS:InN N S) (hN:N≤60):(lsF N S).length=clsF N S:=by
 unfold lsF clsF
 rw [←List.countP_eq_length_filter]
 refine List.countP_congr fun p hp=> ?_
 have hp:=List.mem_range.mp hp
 rw [decide_eq_true_eq,least_iff]
 obtain ⟨q,hq,hl,hr⟩:=part_head hS hp hN
 have qN:=ls_lt hl
 constructor
 ·intro h u hu r
  rw [h] at hq
  cases hq
  have ep:=part_eq hS (Nat.lt_trans hu hp) hp hN r
  have hu':u∈Bd N S p:=ep▸part_self hS (Nat.lt_trans hu hp) hN
  exact part_least h hu' hu
 ·intro h
  have:¬q<p:=fun z=>h q z hr
  have hp':p∈Bd N S p:=part_self hS hp hN
  rw [hq]
  by_cases e:q=p
  ·rw [e]
  ·exact absurd (part_least hq hp') (by omega)
theorem UF.parts {N:Nat} {P S:List T4} {st:S3} (U:UF N P st) (hm:∀u,u∈P↔u∈S) (hN:N≤60):partsN st.tops=(lsF N S).length:=by
 have hS:InN N S:=fun u hu=>U.inn u ((hm u).mpr hu)
 rw [U.pn,ls_cls hS hN]
 exact cls_congr fun a b _ _=>⟨fun r=>r.mono fun t=>(hm t).mp,fun r=>r.mono fun t=>(hm t).mpr⟩
end K28
namespace K28
open PySem L2 Wk
theorem tupS_same {H H':Hp} (s:Same H H'):TupS H H':=fun b xs e=>s _ _ e
theorem TkAt.same {C:Addr} {H H':Hp} {x S:Addr} {sts:List S3} (h:TkAt C H x S sts) (s:Same H H'):TkAt C H' x S sts:=by
 obtain ⟨⟨dx,e1⟩,⟨rs,e2,e3⟩,l⟩:=h
 exact ⟨⟨dx,s _ _ e1⟩,⟨rs,s _ _ e2,e3.tup (tupS_same s)⟩,l⟩
theorem at0 {x:V} {xs:List V}:atI (x::xs) 0=some x:=Am (j:=0) rfl
theorem at2 {x y z:V} {xs:List V}:atI (x::y::z::xs) 2=some z:=Am (j:=2) rfl
def tTailJ (C:Addr):TS:=fun D σ H=>∃(x S a b:Addr) (sts:List S3) (nw:S3) (i j:Int) (bb:Bool),σ=[some (.ref x),some (.int i),some (.int j),some (.ref a),some (.ref b),some (.int nw.odds),some (.bl bb)]∧TkAt C H x S sts∧sts.length≤160∧H a=some (.tup (nw.tops.map V.int))∧H b=some (.tup (nw.sides.map V.int))∧
 ∀H',(∀c o,H c=some o→c≠S→H' c=some o)→TkAt C H' x S (sts++[nw])→D.rt (.bl bb) H'
section
variable {P:Program} {w:World} {K:PySem.W.Frag} {mg:Str→Option Value} {base:Heap} {C I:Addr}
theorem scInit:Ax ["self","many"] ["self","many"] (Ag sInit):=⟨rfl,rfl,rfl,by decide+kernel,rfl,by decide+kernel,by decide+kernel⟩
theorem ok_Init {f:Addr} {fd:FuncData} (F:Fun K "__init__" "Takes.__init__" sInit f fd) (T:Txt K mg C I):
  FnOk P w K mg base CX0 1 f fd ["self","many"] (spInit C):=by
 refine F.ok scInit (fun vs H Q E h=> ?_) (fun cdv A outer s H vs Q E hr h=> ?_)
 ·obtain ⟨_,_,_,rfl,_⟩:=h;rfl
 ·obtain ⟨x,dx,m,rfl,hx,m1,m2,k⟩:=h
  refine ⟨_,Ah (ps_fld (pv 0) (Bh (Aa (Ba (Aa (Be (call_tuple_rng rfl) (by rfl) T.tuple (by decide+kernel) (Aa (Be call_range1 (by rfl) T.range (by decide+kernel) (Aa (pv 1) Ad)) Ad)) (Aa (As op_repT2 (Ba (Aa Ae Ad)) (pv 1)) (Aa Ae Ad)))) Ad)) rfl),?_⟩
  refine ⟨_,rfl,m,rfl,fun g hg=>⟨g,m,rfl,Ab,by omega,by omega,fun a H1 s1 e1=> ?_⟩⟩
  have s1':=(Ac (o:= .rng 0 m) hg).trans s1
  refine ⟨small (by simp),fun z hz=>⟨_,rfl,z,.int 0,m,rfl,rfl,Ab,m1,by omega,fun b H2 s2 e2=>⟨small (by simp),fun r hr'=>⟨small (by simp),fun S hS=> ?_⟩⟩⟩⟩
  have sA:=(s1'.trans (Ac (o:= .tup [.int 0]) hz)).trans s2
  have sB:=sA.trans (Ac (o:= .tup [.ref a,.ref b,.int 0]) hr')
  have sC:=sB.trans (Ac (o:= .lst [.ref r]) hS)
  have eS:=Ab (H:=upd H2 r (.tup [.ref a,.ref b,.int 0])) (a:=S) (o:= .lst [.ref r])
  have er:=Ac (o:= .lst [.ref r]) hS _ _ (Ab (H:=H2) (a:=r) (o:= .tup [.ref a,.ref b,.int 0]))
  have ea:=Ac (o:= .lst [.ref r]) hS _ _ (Ac (o:= .tup [.ref a,.ref b,.int 0]) hr' _ _ (s2 _ _ (Ac (o:= .tup [.int 0]) hz _ _ e1)))
  have eb:=Ac (o:= .lst [.ref r]) hS _ _ (Ac (o:= .tup [.ref a,.ref b,.int 0]) hr' _ _ e2)
  have nS:H S=none:=none_of sB hS
  generalize upd (upd H2 r (.tup [.ref a,.ref b,.int 0])) S (.lst [.ref r])=H3 at sC eS er ea eb
  have x3:=sC _ _ hx
  have xS:x≠S:=Ao x3 eS (by intro z;cases z)
  have xr:x≠r:=Ao x3 er (by intro z;cases z)
  have xa:x≠a:=Ao x3 ea (by intro z;cases z)
  have xb:x≠b:=Ao x3 eb (by intro z;cases z)
  refine ⟨_,rfl,x,C,dx,[],rfl,x3,T.cl,T.nS,by simp,?_⟩
  refine k S _ nS ⟨⟨dx,Ab⟩,⟨[r],by rw [Ai xS.symm];exact eS,⟨a,b,by rw [Ai xr.symm];exact er,by rw [Ai xa.symm];exact ea,by rw [Ai xb.symm,eb];simp [Cu]⟩,trivial⟩,by simp⟩ fun c o e n=>by rw [Ai n];exact sC _ _ e
theorem scShown:Ax ["self"] ["self"] (Ag sShown):=⟨rfl,rfl,rfl,by decide+kernel,rfl,by decide+kernel,by decide+kernel⟩
theorem ok_Shown {f:Addr} {fd:FuncData} (F:Fun K "shown" "Takes.shown" sShown f fd) (T:Txt K mg C I):
  FnOk P w K mg base CX0 1 f fd ["self"] (spShown C):=by
 refine F.ok scShown (fun vs H Q E h=> ?_) (fun cdv A outer s H vs Q E hr h=> ?_)
 ·obtain ⟨_,_,_,_,rfl,_⟩:=h;rfl
 ·obtain ⟨x,S,pre,st,rfl,hT,k⟩:=h
  refine ⟨_,Ah (Ay (Ap Bb (pe_fld (pv 0) rfl) (pe_un un_neg Ae) (fun _ _=>rfl))),?_⟩
  obtain ⟨⟨dx,e1⟩,⟨rs,e2,e3⟩,l⟩:=id hT
  obtain ⟨rs',r,rfl,h1,h2⟩:=e3.last
  refine ⟨_,rfl,x,C,dx,_,_,rfl,e1,T.cl,T.nS,flds_at S,_,rfl,S,_,-1,_,rfl,rfl,SqL.of e2,?_,k r h1⟩
  rw [List.map_append]
  exact at_last
theorem scTop:Ax ["self","place"] ["self","place"] (Ag sTop):=⟨rfl,rfl,rfl,by decide+kernel,rfl,by decide+kernel,by decide+kernel⟩
theorem ok_Top {f:Addr} {fd:FuncData} (F:Fun K "top" "Takes.top" sTop f fd) (T:Txt K mg C I)
  {gShown:Addr} {fShown:FuncData} (bShown:Binds K fShown ["self"] []) (hShown:Meth K C "shown" gShown) (GShown:FnOk P w K mg base CX0 1 gShown fShown ["self"] (spShown C)):
  FnOk P w K mg base CX0 2 f fd ["self","place"] (spTop C):=by
 refine F.ok scTop (fun vs H Q E h=> ?_) (fun cdv A outer s H vs Q E hr h=> ?_)
 ·obtain ⟨_,_,_,_,_,_,rfl,_⟩:=h;rfl
 ·obtain ⟨x,S,pre,st,n,i,rfl,hT,ok,hi,k⟩:=h
  refine ⟨_,Ah (Ay (Ap Az (Ap Az (Cz (pv 0) T.cl hShown GShown hr bShown .nil Ar) Ae (fun _ _=>rfl)) (pv 1) (fun _ _=>rfl))),?_⟩
  obtain ⟨⟨dx,e1⟩,_,_⟩:=id hT
  refine ⟨_,rfl,x,dx,_,rfl,e1,Ch S (by decide+kernel),x,S,pre,st,rfl,hT,fun r hst=> ?_⟩
  obtain ⟨a,b,h1,h2,h3⟩:=hst
  exact ⟨r,_,0,_,rfl,rfl,SqT.of h1,at0,_,rfl,_,_,_,_,rfl,rfl,SqT.of h2,getD_at (by rw [ok.t];exact hi),k⟩
theorem scOdd:Ax ["self"] ["self"] (Ag sOdd):=⟨rfl,rfl,rfl,by decide+kernel,rfl,by decide+kernel,by decide+kernel⟩
theorem ok_Odd {f:Addr} {fd:FuncData} (F:Fun K "odd" "Takes.odd" sOdd f fd) (T:Txt K mg C I)
  {gShown:Addr} {fShown:FuncData} (bShown:Binds K fShown ["self"] []) (hShown:Meth K C "shown" gShown) (GShown:FnOk P w K mg base CX0 1 gShown fShown ["self"] (spShown C)):
  FnOk P w K mg base CX0 2 f fd ["self"] (spOdd C):=by
 refine F.ok scOdd (fun vs H Q E h=> ?_) (fun cdv A outer s H vs Q E hr h=> ?_)
 ·obtain ⟨_,_,_,_,rfl,_⟩:=h;rfl
 ·obtain ⟨x,S,pre,st,rfl,hT,k⟩:=h
  refine ⟨_,Ah (Ay (Ap Az (Cz (pv 0) T.cl hShown GShown hr bShown .nil Ar) Ae (fun _ _=>rfl))),?_⟩
  obtain ⟨⟨dx,e1⟩,_,_⟩:=id hT
  refine ⟨_,rfl,x,dx,_,rfl,e1,Ch S (by decide+kernel),x,S,pre,st,rfl,hT,fun r hst=> ?_⟩
  obtain ⟨a,b,h1,h2,h3⟩:=hst
  exact ⟨r,_,2,_,rfl,rfl,SqT.of h1,at2,k⟩
theorem scJoins:Ax ["self"] ["self"] (Ag sJoins):=⟨rfl,rfl,rfl,by decide+kernel,rfl,by decide+kernel,by decide+kernel⟩
theorem ok_Joins {f:Addr} {fd:FuncData} (F:Fun K "joins" "Takes.joins" sJoins f fd) (T:Txt K mg C I):
  FnOk P w K mg base CX0 1 f fd ["self"] (spJoins C):=by
 refine F.ok scJoins (fun vs H Q E h=> ?_) (fun cdv A outer s H vs Q E hr h=> ?_)
 ·obtain ⟨_,_,_,rfl,_⟩:=h;rfl
 ·obtain ⟨x,S,sts,rfl,hT,k⟩:=h
  refine ⟨_,Ah (Ay (As op_sub (A8 A4 (by rfl) T.len PySem.boot_len (Aa (pe_fld (pv 0) rfl) Ad)) Ae)),?_⟩
  obtain ⟨⟨dx,e1⟩,⟨rs,e2,e3⟩,l⟩:=id hT
  refine ⟨_,rfl,x,C,dx,_,_,rfl,e1,T.cl,T.nS,flds_at S,S,_,rfl,.inl (SqL.of e2),_,_,rfl,rfl,?_⟩
  show Q (.int (((rs.map V.ref).length:Int) - 1)) H
  rw [List.length_map,e3.len]
  exact k
theorem scSize:Ax ["self","place"] ["self","place"] (Ag sSize):=⟨rfl,rfl,rfl,by decide+kernel,rfl,by decide+kernel,by decide+kernel⟩
theorem ok_Size {f:Addr} {fd:FuncData} (F:Fun K "size" "Takes.size" sSize f fd) (T:Txt K mg C I)
  {gShown:Addr} {fShown:FuncData} (bShown:Binds K fShown ["self"] []) (hShown:Meth K C "shown" gShown) (GShown:FnOk P w K mg base CX0 2 gShown fShown ["self"] (spShown C))
  {gTop:Addr} {fTop:FuncData} (bTop:Binds K fTop ["self","place"] []) (hTop:Meth K C "top" gTop) (GTop:FnOk P w K mg base CX0 2 gTop fTop ["self","place"] (spTop C)):
  FnOk P w K mg base CX0 3 f fd ["self","place"] (spSize C):=by
 refine F.ok scSize (fun vs H Q E h=> ?_) (fun cdv A outer s H vs Q E hr h=> ?_)
 ·obtain ⟨_,_,_,_,_,_,rfl,_⟩:=h;rfl
 ·obtain ⟨x,S,pre,st,n,i,rfl,hT,ok,hi,k⟩:=h
  refine ⟨_,Ah (Ay (pe_bm PySem.F.plainAttrs_tuple PySem.F.slot_tuple_count PySem.F.type_tuple_count mt_countT (Ap Az (Cz (pv 0) T.cl hShown GShown hr bShown .nil Ar) Ae (fun _ _=>rfl)) (Aa (pe_meth (pv 0) T.cl hTop GTop hr bTop .nil Ar (Aa (pv 1) Ad)) Ad))),?_⟩
  obtain ⟨⟨dx,e1⟩,_,_⟩:=id hT
  refine ⟨_,rfl,x,dx,_,rfl,e1,Ch S (by decide+kernel),x,S,pre,st,rfl,hT,fun r hst=> ?_⟩
  obtain ⟨a,b,h1,h2,h3⟩:=hst
  refine ⟨r,_,0,_,rfl,rfl,SqT.of h1,at0,.inr (.inl ⟨rfl,.inr ⟨_,h2⟩⟩),_,rfl,x,dx,_,rfl,e1,Ch S (by decide+kernel),_,rfl,x,S,pre,st,n,i,rfl,hT,ok,hi,?_⟩
  exact ⟨a,st.tops,_,rfl,rfl,SqT.of h2,k⟩
theorem scParts:Ax ["self"] ["self"] (Ag sParts):=⟨rfl,rfl,rfl,by decide+kernel,rfl,by decide+kernel,by decide+kernel⟩
theorem ok_Parts {f:Addr} {fd:FuncData} (F:Fun K "parts" "Takes.parts" sParts f fd) (T:Txt K mg C I)
  {gShown:Addr} {fShown:FuncData} (bShown:Binds K fShown ["self"] []) (hShown:Meth K C "shown" gShown) (GShown:FnOk P w K mg base CX0 1 gShown fShown ["self"] (spShown C)):
  FnOk P w K mg base CX0 2 f fd ["self"] (spParts C):=by
 refine F.ok scParts (fun vs H Q E h=> ?_) (fun cdv A outer s H vs Q E hr h=> ?_)
 ·obtain ⟨_,_,_,_,_,rfl,_⟩:=h;rfl
 ·obtain ⟨x,S,pre,st,n,rfl,hT,ok,k⟩:=h
  refine ⟨_,Ah (Ay (A8 A4 (by rfl) T.len PySem.boot_len (Aa (C5 (T:=["place","top"]) (F:=[]) (js:=[]) (CS.to (osc:=Ag sParts) ⟨by rfl,by decide+kernel,by decide+kernel,by decide+kernel,by decide+kernel,by decide+kernel,by decide+kernel⟩ rfl rfl) rfl (pi_enumT rfl T.enumerate (Aa (Ap Az (Cz (pv 0) T.cl hShown GShown hr bShown .nil Ar) Ae (fun _ _=>rfl)) Ad)) (fun _ _ _ _ _=>pg_tupK K 2 rfl rfl (At (An (i:=0) (show (["place","top"]:List Str).Nodup by decide+kernel) rfl (Or.inl rfl)) (At (An (i:=1) (show (["place","top"]:List Str).Nodup by decide+kernel) rfl (Or.inl rfl)) Bu))) (fun _ _ _ _ _=>pif_one (A0 By (pv 1) (pv 0) (A1 _))) (fun _ _ _ _ _=>pv 0)) Ad))),?_⟩
  obtain ⟨⟨dx,e1⟩,_,_⟩:=id hT
  refine ⟨_,rfl,x,dx,_,rfl,e1,Ch S (by decide+kernel),x,S,pre,st,rfl,hT,fun r hst=> ?_⟩
  obtain ⟨a,b,h1,h2,h3⟩:=hst
  refine ⟨r,_,0,_,rfl,rfl,SqT.of h1,at0,a,_,rfl,SqT.of h2,fun D hD=>comp_enumT (K:=K) (a:=a) (xs:=st.tops.map V.int) (fun j σ ys H2=>∃u1 u2:Option V,σ=[u1,u2]∧Same H H2∧H2 D=some (.lst ys)∧ys=((List.range j).filter fun p=>decide (st.tops.getD p 0=(p:Nat))).map fun p=>V.int (p:Nat))
   ⟨none,none,rfl,Ac hD,Ab,rfl⟩ (fun j σ ys H2 _ ⟨_,_,_,s2,e,_⟩=>⟨SqT.of (s2 _ _ h2),e⟩) ?_ ?_⟩
  ·rintro j v σ ys H2 T' hv ⟨u1,u2,rfl,s2,e2,rfl⟩ hT'
   obtain ⟨c,hc,rfl⟩:=int_of hv
   have jl:j<st.tops.length:=(List.getElem?_eq_some_iff.mp hc).1
   have gd:st.tops.getD j 0=c:=by simp [List.getD,hc]
   have s4:=s2.trans (Ac (o:= .tup [.int (j:Nat),.int c]) hT')
   have T4:=Ab (H:=H2) (a:=T') (o:= .tup [.int (j:Nat),.int c])
   have D4:=Ac (o:= .tup [.int (j:Nat),.int c]) hT' _ _ e2
   generalize upd H2 T' (.tup [.int (j:Nat),.int c])=H4 at s4 T4 D4
   refine ⟨T',_,rfl,SqT.of T4,rfl,_,_,rfl,_,_,rfl,rfl,?_⟩
   have ll:(((List.range j).filter fun p=>decide (st.tops.getD p 0=(p:Nat))).map fun p=>V.int ((p:Nat):Int)).length≤24:=by
    rw [List.length_map]
    refine Nat.le_trans (List.length_filter_le _ _) ?_
    have:=ok.t
    have:=ok.n2
    simp;omega
   refine ⟨_,rfl,_,rfl,rfl,_,rfl,Cw (fun g=> ?_) fun g=> ?_⟩
   ·have g:c=(j:Int):=by simpa using g
    refine ⟨_,rfl,D4,Aw (by omega),_,_,rfl,fun b o e=>by rw [Ai (Aj e hD)];exact s4 _ _ e,Ab,?_⟩
    rw [List.range_succ,List.filter_append,List.map_append]
    have f1:List.filter (fun p=>decide (st.tops.getD p 0=((p:Nat):Int))) [j]=[j]:=by rw [List.filter_cons,if_pos (by rw [gd,g];simp)];rfl
    rw [f1]
    rfl
   ·have g:¬c=(j:Int):=by simpa using g
    refine ⟨_,_,rfl,s4,D4,?_⟩
    rw [List.range_succ,List.filter_append,List.map_append]
    have f1:List.filter (fun p=>decide (st.tops.getD p 0=((p:Nat):Int))) [j]=[]:=by rw [List.filter_cons,if_neg (by rw [gd];simpa using g)];rfl
    rw [f1]
    simp
  rintro σ ys H2 ⟨u1,u2,rfl,s2,e2,rfl⟩
  refine ⟨D,_,rfl,.inl (SqL.of e2),?_⟩
  show Q (.int _) H2
  rw [List.length_map,List.length_map]
  exact k H2 s2
theorem scJoin:Ax ["self","one","other","tops","sides","odds","is_new"] ["self","one","other"] (Ag sJoin):=⟨rfl,rfl,rfl,by decide+kernel,rfl,by decide+kernel,by decide+kernel⟩
theorem ok_Join {f:Addr} {fd:FuncData} (F:Fun K "join" "Takes.join" sJoin f fd) (T:Txt K mg C I)
  {gShown:Addr} {fShown:FuncData} (bShown:Binds K fShown ["self"] []) (hShown:Meth K C "shown" gShown) (GShown:FnOk P w K mg base CX0 2 gShown fShown ["self"] (spShown C))
  {gJp:Addr} {fJp:FuncData} (kJp:PySem.W.keepIn K (.ref gJp)=true) (bJp:Binds K fJp ["tops","sides","one","other"] []) (hJp:mg "joined_parts"=some (.ref gJp)) (GJp:FnOk P w K mg base CX0 2 gJp fJp ["tops","sides","one","other"] (spJp K)):
  FnOk P w K mg base CX0 3 f fd ["self","one","other"] (spJoin C):=by
 refine F.ok scJoin (fun vs H Q E h=> ?_) (fun cdv A outer s H vs Q E hr h=> ?_)
 ·obtain ⟨_,_,_,_,_,_,_,rfl,_⟩:=h;rfl
 ·obtain ⟨x,S,pre,st,n,i,j,rfl,hT,pl,ok,hi,hj,k⟩:=h
  refine ⟨_,Af (ps_asg (Cz (pv 0) T.cl hShown GShown hr bShown .nil Ar) (pg_tup rfl (At (An (i:=3) scJoin.nd rfl (Or.inl rfl)) (At (An (i:=4) scJoin.nd rfl (Or.inl rfl)) (At (An (i:=5) scJoin.nd rfl (Or.inl rfl)) Bu)))))
   (Af (Aq (i:=6) scJoin.nd rfl (Or.inl rfl) (Cv op_ne (Ap Az (pv 3) (pv 1) (fun _ _=>rfl)) (Ap Az (pv 3) (pv 2) (fun _ _=>rfl)) (A1 _)))
   (Af (B3 (pt_val (pv 6)) (Ah (ps_asg (Al GJp hr rfl hJp kJp bJp .nil Ar (Aa (pv 3) (Aa (pv 4) (Aa (pv 1) (Aa (pv 2) Ad))))) (pg_tup rfl (At (An (i:=3) scJoin.nd rfl (Or.inl rfl)) (At (An (i:=4) scJoin.nd rfl (Or.inl rfl)) Bu))))) (Ah (B3 (A0 By (Ap Az (pv 4) (pv 1) (fun _ _=>rfl)) (Ap Az (pv 4) (pv 2) (fun _ _=>rfl)) (A1 _)) (Ah (ps_aug (i:=5) scJoin.nd rfl (Or.inl rfl) Ae ip_add)) Bk)))
   (PSs.imp' (t':=tTailJ C) (Af (Ci (pe_bm PySem.F.plainAttrs_list PySem.F.slot_list_append PySem.F.type_list_append Cf (pe_fld (pv 0) rfl) (Aa (Ba (Aa (pv 3) (Aa (pv 4) (Aa (pv 5) Ad)))) Ad)))
   (Ah (Ay (pv 6)))) ?tail))),?_⟩
  case tail=>
   rintro D σ H ⟨x,S,a,b,sts,nw,i,j,bb,rfl,hT,sl,ha,hb,k⟩
   obtain ⟨⟨dx,e1⟩,⟨rs,e2,e3⟩,l⟩:=id hT
   have rl:=e3.len
   refine ⟨_,rfl,x,C,dx,_,_,rfl,e1,T.cl,T.nS,flds_at S,.inl ⟨rfl,_,SqL.of e2⟩,_,rfl,_,rfl,_,rfl,small (by simp),fun r hr'=> ?_⟩
   have s1:=Ac (o:= .tup [.ref a,.ref b,.int nw.odds]) hr'
   have r1:=Ab (H:=H) (a:=r) (o:= .tup [.ref a,.ref b,.int nw.odds])
   have S1:=s1 _ _ e2
   generalize upd H r (.tup [.ref a,.ref b,.int nw.odds])=H1 at s1 r1 S1
   refine ⟨S,_,_,rfl,rfl,S1,Aw (by simp;omega),?_⟩
   have up:∀c o,H c=some o→c≠S→upd H1 S (.lst (rs.map V.ref++[.ref r])) c=some o:=fun c o e nc=>by rw [Ai nc];exact s1 _ _ e
   have tup:TupS H1 (upd H1 S (.lst (rs.map V.ref++[.ref r]))):=fun c xs e=>by rw [Ai (Ao e S1 (by intro z;cases z))];exact e
   refine ⟨_,rfl,k _ up ⟨⟨dx,up _ _ e1 (Ao e1 e2 (by intro z;cases z))⟩,⟨rs++[r],by rw [Ab,List.map_append];rfl,StsAt.snoc ⟨a,b,tup _ _ r1,tup _ _ (s1 _ _ ha),tup _ _ (s1 _ _ hb)⟩ ((e3.tup (tupS_same s1)).tup tup)⟩,by simp;omega⟩⟩
  obtain ⟨⟨dx,e1⟩,_,_⟩:=id hT
  refine ⟨_,rfl,x,dx,_,rfl,e1,Ch S (by decide+kernel),x,S,pre,st,rfl,hT,fun r hst=> ?_⟩
  obtain ⟨a,b,h1,h2,h3⟩:=id hst
  refine ⟨r,_,rfl,SqT.of h1,rfl,_,_,rfl,_,_,rfl,_,_,rfl,rfl,?_⟩
  have gi:=getD_at (ns:=st.tops) (i:=i) (by rw [ok.t];exact hi)
  have gj:=getD_at (ns:=st.tops) (i:=j) (by rw [ok.t];exact hj)
  have si:=getD_at (ns:=st.sides) (i:=i) (by rw [ok.s];exact hi)
  have sj:=getD_at (ns:=st.sides) (i:=j) (by rw [ok.s];exact hj)
  refine ⟨_,rfl,_,rfl,a,_,_,_,rfl,rfl,SqT.of h2,gi,_,rfl,_,rfl,a,_,_,_,rfl,rfl,SqT.of h2,gj,rfl,?_⟩
  by_cases hab:st.tops.getD i 0=st.tops.getD j 0
  ·have ej:joinS st i j=(⟨st.tops,st.sides,st.odds+Bo (st.sides.getD i 0) (st.sides.getD j 0)⟩,false):=by unfold joinS;simp only;rw [if_pos hab]
   rw [ej] at k
   rw [hab,decide_eq_true rfl]
   refine ⟨_,rfl,false,rfl,C3 ?_⟩
   refine ⟨_,rfl,_,rfl,b,_,_,_,rfl,rfl,SqT.of h3,si,_,rfl,_,rfl,b,_,_,_,rfl,rfl,SqT.of h3,sj,rfl,_,rfl,Cw (fun g=> ?_) fun g=> ?_⟩
   ·have g:st.sides.getD i 0=st.sides.getD j 0:=by simpa using g
    have eg:Bo (st.sides.getD i 0) (st.sides.getD j 0)=1:=by unfold Bo;rw [if_pos g]
    rw [eg] at k
    exact ⟨_,rfl,_,_,rfl,rfl,x,S,a,b,_,⟨st.tops,st.sides,st.odds+1⟩,_,_,false,rfl,hT,by simp;omega,h2,h3,k⟩
   ·have g:¬st.sides.getD i 0=st.sides.getD j 0:=by simpa using g
    have eg:Bo (st.sides.getD i 0) (st.sides.getD j 0)=0:=by unfold Bo;rw [if_neg g]
    rw [eg,Int.add_zero] at k
    exact ⟨x,S,a,b,_,⟨st.tops,st.sides,st.odds⟩,_,_,false,rfl,hT,by simp;omega,h2,h3,k⟩
  ·have ej:joinS st i j=(⟨Ck st.tops (kt st.tops (st.tops.getD i 0) (st.tops.getD j 0)).1 (kt st.tops (st.tops.getD i 0) (st.tops.getD j 0)).2,Bq st.tops st.sides (kt st.tops (st.tops.getD i 0) (st.tops.getD j 0)).2 (Bo (st.sides.getD i 0) (st.sides.getD j 0)),st.odds⟩,true):=by unfold joinS;simp only;rw [if_neg hab]
   rw [ej] at k
   rw [decide_eq_false (show ¬V.int (st.tops.getD i 0)=V.int (st.tops.getD j 0) by simpa using hab)]
   refine ⟨_,rfl,true,rfl,iteT ?_⟩
   refine ⟨_,rfl,_,rfl,_,rfl,_,rfl,a,b,st,n,i,j,rfl,h2,h3,ok,hi,hj,fun r2 a2 b2 H1 s1 g1 g2 g3=> ?_⟩
   refine ⟨r2,_,rfl,SqT.of g1,rfl,_,_,rfl,_,_,rfl,rfl,?_⟩
   exact ⟨x,S,a2,b2,_,⟨Ck st.tops (kt st.tops (st.tops.getD i 0) (st.tops.getD j 0)).1 (kt st.tops (st.tops.getD i 0) (st.tops.getD j 0)).2,Bq st.tops st.sides (kt st.tops (st.tops.getD i 0) (st.tops.getD j 0)).2 (Bo (st.sides.getD i 0) (st.sides.getD j 0)),st.odds⟩,_,_,true,rfl,hT.same s1,by simp;omega,g2,g3,fun H' u T'=>k H' (fun c o e nc=>u c o (s1 _ _ e) nc) T'⟩
theorem scBack:Ax ["self","thing"] ["self","thing"] (Ag sBack):=⟨rfl,rfl,rfl,by decide+kernel,rfl,by decide+kernel,by decide+kernel⟩
theorem ok_Back {f:Addr} {fd:FuncData} (F:Fun K "back" "Takes.back" sBack f fd) (T:Txt K mg C I)
  {gWithin:Addr} {fWithin:FuncData} (kWithin:PySem.W.keepIn K (.ref gWithin)=true) (bWithin:Binds K fWithin ["thing","low","high"] []) (hWithin:mg "is_within"=some (.ref gWithin)) (GWithin:FnOk P w K mg base CX0 2 gWithin fWithin ["thing","low","high"] spWithin)
  {gJoins:Addr} {fJoins:FuncData} (bJoins:Binds K fJoins ["self"] []) (hJoins:Meth K C "joins" gJoins) (GJoins:FnOk P w K mg base CX0 2 gJoins fJoins ["self"] (spJoins C)):
  FnOk P w K mg base CX0 3 f fd ["self","thing"] (spBack C):=by
 refine F.ok scBack (fun vs H Q E h=> ?_) (fun cdv A outer s H vs Q E hr h=> ?_)
 ·obtain ⟨_,_,_,_,rfl,_⟩:=h;rfl
 ·obtain ⟨x,S,sts,kk,rfl,hT,hk,k⟩:=h
  refine ⟨_,Af (B3 (pt_not (pt_val (Al GWithin hr rfl hWithin kWithin bWithin .nil Ar (Aa (pv 1) (Aa Ae (Aa (Cz (pv 0) T.cl hJoins GJoins hr bJoins .nil Ar) Ad)))))) (Ah ps_never) Bk)
   (Ah (ps_fld (pv 0) (Bs sl_list (pe_fld (pv 0) rfl) Cj (Bv (As Bl (pv 1) Ae))) rfl)),?_⟩
  obtain ⟨⟨dx,e1⟩,⟨rs,e2,e3⟩,l⟩:=id hT
  have rl:=e3.len
  refine ⟨_,rfl,_,rfl,x,dx,_,rfl,e1,Ch S (by decide+kernel),x,S,sts,rfl,hT,_,_,_,rfl,by omega,by omega,true,rfl,C3 ?_⟩
  dsimp only [Cr]
  refine ⟨_,rfl,x,C,dx,_,_,rfl,e1,T.cl,T.nS,flds_at S,_,rfl,_,_,rfl,rfl,_,rfl,S,_,rfl,SqL.of e2,fun p hp=> ?_⟩
  have cut:cutV (rs.map V.ref) none (some ((kk:Int)+1))=(rs.take (kk+1)).map V.ref:=by
   unfold cutV
   simp only [HT.sIx,List.drop_zero,Nat.sub_zero]
   rw [if_neg (by omega),List.map_take,show min ((kk:Int)+1).toNat (rs.map V.ref).length=kk+1 by simp;omega]
  rw [cut]
  have s1:=Ac (o:= .lst ((rs.take (kk+1)).map V.ref)) hp
  have p1:=Ab (H:=H) (a:=p) (o:= .lst ((rs.take (kk+1)).map V.ref))
  generalize upd H p (.lst ((rs.take (kk+1)).map V.ref))=H1 at s1 p1
  have x1:=s1 _ _ e1
  refine ⟨_,rfl,x,C,dx,_,rfl,x1,T.cl,T.nS,(show 1<1000 by decide),?_⟩
  have tup:TupS H (upd H1 x (.ins C dx (flds p))):=fun c xs e=>by rw [Ai (Ao (s1 _ _ e) x1 (by intro z;cases z))];exact s1 _ _ e
  rw [flds_put]
  exact k p _ hp (fun c o e nc=>by rw [Ai nc];exact s1 _ _ e) ⟨⟨dx,Ab⟩,⟨rs.take (kk+1),by rw [Ai (Ao p1 x1 (by intro z;cases z))];exact p1,(e3.take _).tup tup⟩,by rw [List.length_take];omega⟩
end
end K28
namespace K28
open PySem L2 Wk
def stsF (N:Nat) (Q:List T4):List S3:=(List.range (Q.length+1)).map fun i=>stF N (Q.take i)
theorem sts_last (N:Nat) (Q:List T4):∃pre:List S3,stsF N Q=pre++[stF N Q]∧pre.length=Q.length:=by
 refine ⟨(List.range Q.length).map fun i=>stF N (Q.take i),?_,by rw [List.length_map,List.length_range]⟩
 unfold stsF
 rw [List.range_succ,List.map_append]
 simp
theorem sts_len (N:Nat) (Q:List T4):(stsF N Q).length=Q.length+1:=by unfold stsF;rw [List.length_map,List.length_range]
theorem sts_snoc {N:Nat} {Q:List T4} {t:T4}:stsF N (Q++[t])=stsF N Q++[(joinS (stF N Q) t.2.1 t.2.2.1).1]:=by
 unfold stsF
 rw [List.length_append,List.length_singleton,List.range_succ (n:=Q.length+1),List.map_append]
 congr 1
 ·refine List.map_congr_left fun i hi=> ?_
  have:=List.mem_range.mp hi
  rw [List.take_append_of_le_length (by omega)]
 ·rw [List.map_singleton,List.take_of_length_le (by simp),stF_snoc]
theorem sts_take {N k:Nat} {Q:List T4} (h:k≤Q.length):(stsF N Q).take (k+1)=stsF N (Q.take k):=by
 unfold stsF
 rw [←List.map_take,List.take_range,List.length_take,Nat.min_eq_left (by omega),Nat.min_eq_left h]
 refine List.map_congr_left fun i hi=> ?_
 have:=List.mem_range.mp hi
 rw [List.take_take,Nat.min_eq_left (by omega)]
end K28
namespace K28
open PySem L2 Wk
structure DeckAt (H:Hp) (a c:Addr):Prop where
 ne:a≠c
 ex:∃(S k:Int) (cs:List Int),H a=some (.lst [.ref c,.int S,.int k])∧H c=some (.lst (cs.map V.int))∧cs.length≤63
def But (a c:Addr) (H H':Hp):Prop:=∀b o,H b=some o→b≠a→b≠c→H' b=some o
theorem But.trans {a c:Addr} {H H1 H2:Hp} (h:But a c H H1) (h':But a c H1 H2):But a c H H2:=fun b o e n1 n2=>h' b o (h b o e n1 n2) n1 n2
theorem DeckAt.ne' {H:Hp} {a c b:Addr} (h:DeckAt H a c) (hb:H b=none):b≠a∧b≠c:=by
 obtain ⟨_,_,_,_,h1,h2,_⟩:=h
 exact ⟨(Aj h1 hb).symm,(Aj h2 hb).symm⟩
theorem DeckAt.same {H H':Hp} {a c:Addr} (h:DeckAt H a c) (s:Same H H'):DeckAt H' a c:=by
 obtain ⟨n,S,k,cs,h1,h2,r⟩:=h
 exact ⟨n,S,k,cs,s _ _ h1,s _ _ h2,r⟩
theorem DeckAt.upd {H:Hp} {a c b:Addr} {o:HO} (h:DeckAt H a c) (n:b≠a∧b≠c):DeckAt (upd H b o) a c:=by
 obtain ⟨m,S,k,cs,h1,h2,r⟩:=h
 exact ⟨m,S,k,cs,by rw [Ai n.1.symm];exact h1,by rw [Ai n.2.symm];exact h2,r⟩
theorem But.of {a c:Addr} {H H':Hp} (s:Same H H'):But a c H H':=fun b o e _ _=>s b o e
theorem But.set {a c:Addr} {H H1:Hp} {b:Addr} {o:HO} (h:But a c H H1) (hb:H b=none):But a c H (upd H1 b o):=fun x u e n m=>by
 rw [Ai (Aj e hb)];exact h x u e n m
theorem But.none {a c:Addr} {H H':Hp} {b:Addr} (h:But a c H H') (w:DeckAt H' a c) (hb:H' b=none):H b=none:=by
 cases e:H b with
 |none=>rfl
 |some o=>
  have n:=w.ne' hb
  rw [h b o e n.1 n.2] at hb
  cases hb
theorem But.tup {a c:Addr} {H H':Hp} (h:But a c H H') (w:DeckAt H a c) {b:Addr} {xs:List V} (e:H b=some (.tup xs)):H' b=some (.tup xs):=by
 obtain ⟨_,_,_,_,h1,h2,_⟩:=w
 exact h _ _ e (Ao e h1 (by intro z;cases z)) (Ao e h2 (by intro z;cases z))
theorem But.dct {a c:Addr} {H H':Hp} (h:But a c H H') (w:DeckAt H a c) {b:Addr} {xs:List (Key×V)} (e:H b=some (.dK xs)):H' b=some (.dK xs):=by
 obtain ⟨_,_,_,_,h1,h2,_⟩:=w
 exact h _ _ e (Ao e h1 (by intro z;cases z)) (Ao e h2 (by intro z;cases z))
def spDeck (K:PySem.W.Frag):Sp:=fun vs H Q _=>∃(s:Addr) (ns:List Int),vs=[.ref s]∧SqL K H s (ns.map V.int)∧ns.length≤63∧
 ∀(a c:Addr) (H':Hp),Same H H'→H a=none→H c=none→DeckAt H' a c→Q (.ref a) H'
def spTake:Sp:=fun vs H Q _=>∃(a c:Addr) (m:Int),vs=[.ref a,.int m]∧DeckAt H a c∧0<m∧m<1073741824∧
 ∀(v:Int) (H':Hp),0≤v→v<m→But a c H H'→DeckAt H' a c→Q (.int v) H'
theorem cut63 {ns:List Int} (h:ns.length≤63):cutV (ns.map V.int) none (some 63)=ns.map V.int:=by
 unfold cutV
 rw [HT.sIx_none,show (63:Int)=((63:Nat):Int) from rfl,HT.sIx_nat]
 simp only [List.length_map,List.drop_zero]
 exact List.take_of_length_le (by simp;omega)
theorem repInts {K:PySem.W.Frag} {H:Hp}:∀ns:List Int,RepAll K H (ns.map V.int) (ns.map PyData.int)
 |[]=> .nil
 |n::ns=> .cons (.int n) (repInts ns)
theorem layAllInts:∀ns:List Int,PyData.canLayAll0 (ns.map PyData.int)=true
 |[]=>rfl
 |n::ns=>by rw [List.map_cons,PyData.canLayAll0,layAllInts ns];rfl
theorem layInts (ns:List Int):(PyData.list (ns.map PyData.int)).canLay0=true:=layAllInts ns
theorem depthAllInts:∀ns:List Int,PyData.depthAll (ns.map PyData.int)≤1
 |[]=>by decide
 |n::ns=>by
  have:=depthAllInts ns
  rw [List.map_cons]
  simp only [PyData.depthAll,PyData.depth]
  omega
theorem depthInts (ns:List Int):(PyData.list (ns.map PyData.int)).depth≤20:=by
 have:=depthAllInts ns
 simp only [PyData.depth]
 omega
theorem eqvNil (xs:List PyData):PyData.eqv (.list xs) (.list [])=xs.isEmpty:=by
 cases xs<;> simp [PyData.eqv,PyData.eqvAll]
def spRare:Sp:=fun vs H Q _=>∃(a c:Addr) (x y:Int),vs=[.ref a,.int x,.int y]∧DeckAt H a c∧∀(v:Int) (H':Hp),(v=x∨v=y)→But a c H H'→DeckAt H' a c→Q (.int v) H'
def spPlaces:Sp:=fun vs H Q _=>∃(a c:Addr) (N:Nat) (sh:Int) (k:Nat),vs=[.ref a,.int (N:Int),.int sh,.int (k:Int)]∧DeckAt H a c∧2≤N∧N≤24∧0≤sh∧sh<4∧∀(r:Addr) (p q:Nat) (H':Hp),But a c H H'→DeckAt H' a c→H' r=some (.tup [.int (p:Int),.int (q:Int)])→p<N→q<N→p≠q→Q (.ref r) H'
theorem pick2 {x y:Int} {v:Int} (h0:0≤v) (h1:v<2) {p q:V}:∃z,atI [p,q] v=some z∧(z=p∨z=q):=by
 obtain ⟨j,rfl⟩:∃j:Nat,v=(j:Int):=⟨v.toNat,by omega⟩
 match j,h1 with
 |0,_=>exact ⟨p,rfl,.inl rfl⟩
 |1,_=>exact ⟨q,rfl,.inr rfl⟩
theorem pick4 {v:Int} (h0:0≤v) (h1:v<4) {p q r s:V}:∃z,atI [p,q,r,s] v=some z∧(z=p∨z=q∨z=r∨z=s):=by
 obtain ⟨j,rfl⟩:∃j:Nat,v=(j:Int):=⟨v.toNat,by omega⟩
 match j,h1 with
 |0,_=>exact ⟨p,rfl,.inl rfl⟩
 |1,_=>exact ⟨q,rfl,.inr (.inl rfl)⟩
 |2,_=>exact ⟨r,rfl,.inr (.inr (.inl rfl))⟩
 |3,_=>exact ⟨s,rfl,.inr (.inr (.inr rfl))⟩
section
variable {P:Program} {w:World} {K:PySem.W.Frag} {mg:Str→Option Value} {base:Heap} {C I:Addr}
theorem scDeck:Ax ["_law_script","_law_cells"] ["_law_script"] (Ag sDeck):=⟨rfl,rfl,rfl,by decide+kernel,rfl,by decide+kernel,by decide+kernel⟩
theorem ok_Deck {f:Addr} {fd:FuncData} (F:Fun K "_law_deck" "_law_deck" sDeck f fd) (T:Txt K mg C I):FnOk P w K mg base CX0 1 f fd ["_law_script"] (spDeck K):=by
 refine F.ok scDeck (fun vs H Q E h=> ?_) (fun cdv A outer s H vs Q E hr h=> ?_)
 ·obtain ⟨_,_,rfl,_⟩:=h;rfl
 ·obtain ⟨sa,ns,rfl,hS,hl,k⟩:=h
  refine ⟨_,Af (Aq (i:=1) scDeck.nd rfl (Or.inl rfl) (Be call_list_of (by rfl) T.list (by decide+kernel) (Aa (Bs sl_list (pv 0) Cj (Bv Ae)) Ad)))
   (Ah (Ay (Bh (Aa (pe_rev (pv 1) (Bv (pe_un un_neg Ae)) (fun o i=>[o,i]) (fun _ _=>by with_unfolding_all rfl)) (Aa (As Bl (As Co (A8 (call_sum rfl) (by rfl) T.sum PyProof.Rows.boot_sum (Aa (pv 1) Ad)) Ae)
    (A8 A4 (by rfl) T.len PySem.boot_len (Aa (pv 1) Ad))) (Aa Ae Ad)))))),?_⟩
  refine ⟨_,rfl,63,rfl,sa,_,rfl,hS,fun p hp=> ?_⟩
  rw [cut63 hl]
  refine ⟨p,_,rfl,.inl (SqL.of Ab),fun d hd=> ?_⟩
  refine ⟨_,rfl,_,rfl,_,rfl,rfl,d,_,rfl,SqL.of Ab,fun c hc=> ?_⟩
  have e1:Same H (upd (upd (upd H p (.lst (ns.map V.int))) d (.lst (ns.map V.int))) c (.lst (ns.map V.int).reverse)):=((Ac hp).trans (Ac hd)).trans (Ac hc)
  have cd:upd (upd (upd H p (.lst (ns.map V.int))) d (.lst (ns.map V.int))) c (.lst (ns.map V.int).reverse) d=some (.lst (ns.map V.int)):=Ac hc _ _ Ab
  refine ⟨_,rfl,d,ns,rfl,SqL.of cd,_,_,rfl,rfl,(by show (0:Int)<2147483629;decide),_,rfl,d,_,rfl,.inl (SqL.of cd),_,_,rfl,rfl,small (by simp),fun a ha=> ?_⟩
  refine k a c _ (e1.trans (Ac ha)) (e1.free ha) (((Ac hp).trans (Ac hd)).free hc) ⟨?_,_,_,ns.reverse,Ab,?_,by simpa using hl⟩
  ·exact (Aj Ab ha).symm
  ·rw [Ai (Aj Ab ha),Ab,List.map_reverse]
theorem scTake:Ax ["_law_deck_here","_law_most","_law_number"] ["_law_deck_here","_law_most"] (Ag sTake):=⟨rfl,rfl,rfl,by decide+kernel,rfl,by decide+kernel,by decide+kernel⟩
def tMix:TS:=fun D σ H=>∃(a c:Addr) (m num S k:Int) ,σ=[some (.ref a),some (.int m),some (.int num)]∧H a=some (.lst [.ref c,.int S,.int k])∧0<m∧∀v,0≤v→v<m→D.rt (.int v) H
theorem ok_Take {f:Addr} {fd:FuncData} (F:Fun K "_law_take" "_law_take" sTake f fd) (T:Txt K mg C I):FnOk P w K mg base CX0 1 f fd ["_law_deck_here","_law_most"] spTake:=by
 refine F.ok scTake (fun vs H Q E h=> ?_) (fun cdv A outer s H vs Q E hr h=> ?_)
 ·obtain ⟨_,_,_,rfl,_⟩:=h;rfl
 ·obtain ⟨a,c,m,rfl,DA,h1,h2,k⟩:=h
  obtain ⟨nac,S,k0,cs,ha,hc,hl⟩:=id DA
  refine ⟨_,Af (ps_asg (As Bl (Ap Bb (pv 0) Ae (fun _ _=>rfl)) Ae) (pg_sub (pv 0) Ae set_list))
   (Af (Aq (i:=2) scTake.nd rfl (Or.inl rfl) (Ap Bb (pv 0) Ae (fun _ _=>rfl)))
   (Af (B3 (A0 (op_neD hr.units) (Ap Bb (pv 0) Ae (fun _ _=>rfl)) (Bh Ad) (A1 _))
    (Af (Aq (i:=2) scTake.nd rfl (Or.inl rfl) (pe_bm0 PySem.F.plainAttrs_list PySem.F.slot_list_pop PySem.F.type_list_pop mt_pop (Ap Bb (pv 0) Ae (fun _ _=>rfl))))
    (Ah (B3 (A0 op_ge (pv 2) (As op_pow Ae Ae) (A1 _))
     (Af (Ci (pe_bm PySem.F.plainAttrs_list PySem.F.slot_list_append PySem.F.type_list_append Cf (Ap Bb (pv 0) Ae (fun _ _=>rfl)) (Aa (As op_fdiv (pv 2) (pv 1)) Ad)))
     (Ah (Ay (As Co (pv 2) (pv 1))))) Bk))) Bk)
   (PSs.imp' (t':=tMix) (Af (Aq (i:=2) scTake.nd rfl (Or.inl rfl) (As Co (As Bl (As Bl (As op_mul (As Co (pv 2) Ae) Ae) (As op_mul Ae (Ap Bb (pv 0) Ae (fun _ _=>rfl)))) Ae) Ae))
    (Af (Aq (i:=2) scTake.nd rfl (Or.inl rfl) (As Co (As op_mul (pv 2) (pv 2)) Ae))
    (Ah (Ay (As Co (As op_fdiv (As Co (As op_mul (pv 2) (As Bl (pv 2) Ae)) Ae) Ae) (pv 1)))))) ?f))),?_⟩
  case f=>
   rintro D σ H' ⟨a,c,m,num,S,k0,rfl,ha,hm,q⟩
   refine ⟨_,rfl,_,_,rfl,rfl,(by show (0:Int)<2147483647;decide),_,_,rfl,rfl,.inr ⟨by decide,by decide⟩,_,rfl,a,_,2,_,rfl,rfl,SqL.of ha,rfl,_,_,rfl,rfl,.inl ⟨by decide,by decide⟩,_,_,rfl,rfl,_,_,rfl,rfl,_,_,rfl,rfl,(by show (0:Int)<2147483629;decide),?_⟩
   generalize (num % 2147483647 * 48271+69621 * k0+7919)=z1
   have b1:=Int.emod_nonneg z1 (show (2147483629:Int)≠0 by decide)
   have b2:=Int.emod_lt_of_pos z1 (show (0:Int)<2147483629 by decide)
   generalize z1 % 2147483629=z2 at b1 b2
   refine ⟨_,rfl,_,rfl,_,_,rfl,rfl,.inl ⟨by omega,by omega⟩,_,_,rfl,rfl,(by show (0:Int)<2147483587;decide),?_⟩
   generalize z2 * z2=z3
   have b3:=Int.emod_nonneg z3 (show (2147483587:Int)≠0 by decide)
   have b4:=Int.emod_lt_of_pos z3 (show (0:Int)<2147483587 by decide)
   generalize z3 % 2147483587=z4 at b3 b4
   refine ⟨_,rfl,_,rfl,_,_,rfl,rfl,_,_,rfl,rfl,.inl ⟨by omega,by omega⟩,_,_,rfl,rfl,(by show (0:Int)<2147483563;decide),_,_,rfl,rfl,⟨by decide,by decide⟩,_,rfl,_,_,rfl,rfl,hm,?_⟩
   exact q _ (Int.emod_nonneg _ (by omega)) (Int.emod_lt_of_pos _ hm)
  refine ⟨_,rfl,a,_,2,_,rfl,rfl,SqL.of ha,rfl,_,_,rfl,rfl,_,rfl,a,_,2,2,rfl,rfl,ha,rfl,?_⟩
  generalize hH1:upd H a _=H1
  have ha1:H1 a=some (.lst [.ref c,.int S,.int (k0+1)]):=by rw [←hH1];exact Ab
  have ne2:∀{b:Addr} {o:HO},H b=some o→b≠a→H1 b=some o:=fun {b o} e n=>by rw [←hH1,Ai n];exact e
  refine ⟨_,rfl,a,_,1,_,rfl,rfl,SqL.of ha1,rfl,?_⟩
  refine ⟨_,rfl,a,_,0,_,rfl,rfl,SqL.of ha1,rfl,small (by simp),fun e he=> ?_⟩
  have s2:=Ac (o:= .lst []) he
  have he2:upd H1 e (.lst []) e=some (.lst []):=Ab
  generalize upd H1 e (.lst [])=H2 at s2 he2
  have ha2:=s2 _ _ ha1
  have hc2:=s2 _ _ (ne2 hc nac.symm)
  have bt:But a c H H2:=fun b o e n1 n2=>s2 _ _ (ne2 e n1)
  refine ⟨.list (cs.map PyData.int),.list [],.lst (SqL.of hc2) (repInts cs),.lst (SqL.of he2) .nil,layInts cs,rfl,depthInts cs,_,rfl,?_⟩
  rw [eqvNil]
  refine Cw (fun d=> ?_) (fun d=> ?_)
  ·-- a cell
   have d:cs≠[]:=by cases cs with
    |nil=>simp at d
    |cons _ _=>simp
   obtain ⟨init,z,rfl⟩:∃init z,cs=init++[z]:=⟨cs.dropLast,cs.getLast d,(List.dropLast_concat_getLast d).symm⟩
   have hli:init.length+1≤63:=by simpa using hl
   refine ⟨_,rfl,a,_,0,_,rfl,rfl,SqL.of ha2,rfl,.inl ⟨rfl,_,SqL.of hc2⟩,c,_,.int z,rfl,rfl,hc2,(by simp),?_⟩
   have e3:(List.map V.int (init++[z])).dropLast=init.map V.int:=by rw [←List.map_dropLast];simp
   rw [e3]
   have ha3:upd H2 c (.lst (init.map V.int)) a=some (.lst [.ref c,.int S,.int (k0+1)]):=by rw [Ai nac];exact ha2
   have bt3:But a c H (upd H2 c (.lst (init.map V.int))):=fun b o e n1 n2=>by rw [Ai n2];exact bt b o e n1 n2
   refine ⟨_,rfl,_,_,rfl,rfl,⟨by decide,by decide,by decide⟩,_,_,rfl,rfl,_,rfl,?_⟩
   refine Cw (fun g=> ?_) (fun g=> ?_)
   ·refine ⟨_,rfl,a,_,0,_,rfl,rfl,SqL.of ha3,rfl,.inl ⟨rfl,_,SqL.of Ab⟩,_,rfl,_,rfl,_,_,rfl,rfl,⟨h1,by omega⟩,c,_,_,rfl,rfl,Ab,small (n:=_+1) (by simp;omega),?_⟩
    refine ⟨_,rfl,_,rfl,_,_,rfl,rfl,h1,?_⟩
    refine k _ _ (Int.emod_nonneg _ (by omega)) (Int.emod_lt_of_pos _ h1) (fun b o e n1 n2=>by rw [Ai n2];exact bt3 b o e n1 n2) ⟨nac,S,k0+1,init++[z / m],?_,?_,by simpa using hli⟩
    ·rw [Ai nac];exact ha3
    ·rw [Ab,List.map_append];rfl
   ·exact ⟨a,c,m,z,S,k0+1,rfl,ha3,h1,fun v v1 v2=>k v _ v1 v2 bt3 ⟨nac,S,k0+1,init,ha3,Ab,by omega⟩⟩
  ·exact ⟨a,c,m,S,S,k0+1,rfl,ha2,h1,fun v v1 v2=>k v _ v1 v2 bt ⟨nac,S,k0+1,cs,ha2,hc2,hl⟩⟩
theorem scRare:Ax ["_law_deck_here","_law_often","_law_rare_here"] ["_law_deck_here","_law_often","_law_rare_here"] (Ag sRare):=⟨rfl,rfl,rfl,by decide+kernel,rfl,by decide+kernel,by decide+kernel⟩
theorem ok_Rare {f:Addr} {fd:FuncData} (F:Fun K "_law_rare" "_law_rare" sRare f fd) (T:Txt K mg C I)
  {gTake:Addr} {fTake:FuncData} (kTake:PySem.W.keepIn K (.ref gTake)=true) (bTake:Binds K fTake ["_law_deck_here","_law_most"] []) (hTake:mg "_law_take"=some (.ref gTake)) (GTake:FnOk P w K mg base CX0 1 gTake fTake ["_law_deck_here","_law_most"] spTake):
  FnOk P w K mg base CX0 2 f fd ["_law_deck_here","_law_often","_law_rare_here"] spRare:=by
 refine F.ok scRare (fun vs H Q E h=> ?_) (fun cdv A outer s H vs Q E hr h=> ?_)
 ·obtain ⟨_,_,_,_,rfl,_⟩:=h;rfl
 ·obtain ⟨a,c,x,y,rfl,D0,k⟩:=h
  refine ⟨_,Ah (Ay (Ap Bb (Bh (Aa (pv 1) (Aa (pv 2) Ad))) (Be call_int1 (by rfl) T.int (by decide+kernel) (Aa (Cv By (Al GTake hr rfl hTake kTake bTake .nil Ar (Aa (pv 0) (Aa Ae Ad))) Ae (A1 _)) Ad)) (fun _ _=>rfl))),?_⟩
  refine ⟨_,rfl,_,rfl,small (by simp),fun l hl=> ?_⟩
  have s1:=Ac (o:= .lst [.int x,.int y]) hl
  have l1:=Ab (H:=H) (a:=l) (o:= .lst [.int x,.int y])
  have ln:=D0.ne' hl
  generalize upd H l (.lst [.int x,.int y])=H1 at s1 l1
  refine ⟨_,rfl,a,c,8,rfl,D0.same s1,by decide,by decide,fun v H2 v0 v1 b2 D2=>⟨rfl,.inr ⟨_,rfl,?_⟩⟩⟩
  have l2:=b2 _ _ l1 ln.1 ln.2
  by_cases g:v=5
  ·exact ⟨l,_,_,.int y,rfl,rfl,SqL.of l2,by rw [g,decide_eq_true rfl];rfl,k y H2 (.inr rfl) ((But.of s1).trans b2) D2⟩
  ·exact ⟨l,_,_,.int x,rfl,rfl,SqL.of l2,by rw [decide_eq_false (fun e=>g (by injection e))];rfl,k x H2 (.inl rfl) ((But.of s1).trans b2) D2⟩
end
end K28
namespace K28
open PySem L2 Wk
theorem len_toList (z:Str):z.length=z.cps.toList.length:=by simp [Str.length]
theorem cat_len (x y:Str):(x++y).length=x.length+y.length:=by
 show (x.cps++y.cps).size=_
 rw [Array.size_append];rfl
theorem occ_all:∀j,j<26→∃rest,Builtin.Str.occurrences LS ⟨#[97+j]⟩ 0 LS.length 1=j::rest:=by
 intro j hj
 have:∀j:Fin 26,(Builtin.Str.occurrences LS ⟨#[97+j.1]⟩ 0 LS.length 1).head? =some j.1:=by decide+kernel
 have h:=this ⟨j,hj⟩
 cases e:Builtin.Str.occurrences LS ⟨#[97+j]⟩ 0 LS.length 1 with
 |nil=>rw [e] at h;cases h
 |cons x r=>
  rw [e] at h
  have:x=j:=by simpa using h
  subst this
  exact ⟨r,rfl⟩
def cA (j0:Int) (k:Nat):Nat:=97+((j0+(0+(k:Int)) / 8) % 26).toNat
def cB (j0:Int) (k:Nat):Nat:=97+((j0+(0+(k:Int)) / 26) % 26).toNat
def dB (j1:Int) (k:Nat):Nat:=97+((j1+(0+(k:Int))) % 26).toNat
def NmA (j0:Int) (k:Nat) (z:Str):Prop:=∃p,z.cps.toList=cA j0 k::p∧p.length=k % 8
def NmB (j0 j1:Int) (h:List Nat) (k:Nat) (z:Str):Prop:=z.cps.toList=h++[cB j0 k,dB j1 k]
theorem nmA_inj {j0:Int} {j k:Nat} (hj:j<70) (hk:k<70) {z:Str} (a:NmA j0 j z) (b:NmA j0 k z):j=k:=by
 obtain ⟨p,e,l⟩:=a
 obtain ⟨p',e',l'⟩:=b
 have e:=e.symm.trans e'
 injection e with e1 e2
 rw [e2] at l
 unfold cA at e1
 omega
theorem nmB_inj {j0 j1:Int} {h:List Nat} {j k:Nat} (hj:j<70) (hk:k<70) {z:Str} (a:NmB j0 j1 h j z) (b:NmB j0 j1 h k z):j=k:=by
 have e:=List.append_cancel_left (a.symm.trans b)
 injection e with e1 e2
 injection e2 with e2 _
 unfold cB at e1
 unfold dB at e2
 omega
theorem nd_of {zs:List Str} {p:Nat→Str→Prop} (hl:zs.length≤70) (inj:∀{j k:Nat} {z:Str},j<70→k<70→p j z→p k z→j=k) (h:∀(j:Nat) (y:Str),zs[j]? =some y→p j y):zs.Nodup:=by
 rw [List.nodup_iff_pairwise_ne,List.pairwise_iff_getElem]
 intro i j hi hj hij e
 have h1:=h i zs[i] (Cc hi)
 have h2:=h j zs[j] (Cc hj)
 rw [e] at h1
 exact absurd (inj (by omega) (by omega) h1 h2) (by omega)
theorem slice_1 {z:Str} {m:Nat} (hz:z.length=8) (hm:m<8):(Txt.slice z (some 1) (some (1+(m:Int)))).cps.toList.length=m:=by
 have hz':z.cps.toList.length=8:=by rw [←len_toList];exact hz
 have:=StrLaws.sliceText_plain (x:=z) (i:=1) (j:=1+(m:Int)) ⟨by decide,by omega,by omega⟩
 rw [show Txt.slice z (some 1) (some (1+(m:Int)))=StrLaws.sliceText z (some 1) (some (1+(m:Int))) from rfl,this,show (1+(m:Int) - 1).toNat=m by omega,show ((1:Int)).toNat=1 from rfl]
 show ((z.cps.toList.drop 1).take m).toArray.toList.length=m
 rw [List.toList_toArray,List.length_take,List.length_drop]
 omega
def spNames:Sp:=fun vs H Q _=>∃(a c:Addr),vs=[.ref a]∧DeckAt H a c∧∀(l:Addr) (zs:List Str) (H':Hp),But a c H H'→DeckAt H' a c→H' l=some (.lst (zs.map V.str))→l≠a→l≠c→zs.length=70→zs.Nodup→Q (.ref l) H'
theorem zs_snoc {zs:List Str} {i:Nat} {y:Str} {p:Nat→Str→Prop} (zl:zs.length=i) (h:∀(j:Nat) (y:Str),zs[j]? =some y→p j y) (hy:p i y):∀(j:Nat) (x:Str),(zs++[y])[j]? =some x→p j x:=fun j x hx=>by
 rw [List.getElem?_append] at hx
 split at hx
 ·exact h j x hx
 ·have hj:j=i:=by
   have:=(List.getElem?_eq_some_iff.mp hx).1
   simp at this;omega
  subst hj
  rw [show j - zs.length=0 by omega] at hx
  have:y=x:=by simpa using hx
  rw [←this];exact hy
section
variable {P:Program} {w:World} {K:PySem.W.Frag} {mg:Str→Option Value} {base:Heap} {C I:Addr}
theorem scNames:Ax ["_law_deck_here","_law_letters","_law_base","_law_first","_law_last","_law_head","_law_found","_law_k","_law_name"] ["_law_deck_here"] (Ag sNames):=⟨rfl,rfl,rfl,by decide+kernel,rfl,by decide+kernel,by decide+kernel⟩
theorem ok_Names {f:Addr} {fd:FuncData} (F:Fun K "_law_names" "_law_names" sNames f fd) (T:Txt K mg C I)
  {gTake:Addr} {fTake:FuncData} (kTake:PySem.W.keepIn K (.ref gTake)=true) (bTake:Binds K fTake ["_law_deck_here","_law_most"] []) (hTake:mg "_law_take"=some (.ref gTake)) (GTake:FnOk P w K mg base CX0 1 gTake fTake ["_law_deck_here","_law_most"] spTake):
  FnOk P w K mg base CX0 2 f fd ["_law_deck_here"] spNames:=by
 refine F.ok scNames (fun vs H Q E h=> ?_) (fun cdv A outer s H vs Q E hr h=> ?_)
 ·obtain ⟨_,_,rfl,_⟩:=h;rfl
 ·obtain ⟨a,c,rfl,hw,k⟩:=h
  refine ⟨_,Af (Aq (i:=1) scNames.nd rfl (Or.inr rfl) Bw)
   (Af (Aq (i:=2) scNames.nd rfl (Or.inr rfl) (pe_bm PySem.F.plainAttrs_str PySem.F.slot_str_join PySem.F.type_str_join mt_join Bw (Aa (C5 (T:=["_law_k"]) (F:=["_law_letters","_law_deck_here"]) (js:=[1,0]) (CS.to (osc:=Ag sNames) ⟨by rfl,by decide+kernel,by decide+kernel,by decide+kernel,by decide+kernel,by decide+kernel,by decide+kernel⟩ rfl rfl) rfl (Ct rfl T.range (Aa Ae Ad)) (fun _ _ _ _ _=>An (i:=0) (show (["_law_k","_law_letters","_law_deck_here"]:List Str).Nodup by decide+kernel) rfl (Or.inl rfl)) (fun _ _ _ _ _=>C4) (fun _ _ _ _ _=>Ap ix_str (pv 1) (Al GTake hr rfl hTake kTake bTake .nil Ar (Aa (pv 2) (Aa Ae Ad))) (fun _ _=>rfl))) Ad)))
   (Af (Aq (i:=3) scNames.nd rfl (Or.inr rfl) (pe_bm PySem.F.plainAttrs_str PySem.F.slot_str_index PySem.F.type_str_index mt_indexS (pv 1) (Aa (Ap ix_str (pv 2) Ae (fun _ _=>rfl)) Ad)))
   (Af (Aq (i:=4) scNames.nd rfl (Or.inl rfl) (pe_bm PySem.F.plainAttrs_str PySem.F.slot_str_index PySem.F.type_str_index mt_indexS (pv 1) (Aa (Ap ix_str (pv 2) Ae (fun _ _=>rfl)) Ad)))
   (Af (B3 (A0 By (Al GTake hr rfl hTake kTake bTake .nil Ar (Aa (pv 0) (Aa Ae Ad))) Ae (A1 _)) (Ah (Ay (C5 (T:=["_law_k"]) (F:=["_law_letters","_law_base","_law_first"]) (js:=[1,2,3]) (CS.to (osc:=Ag sNames) ⟨by rfl,by decide+kernel,by decide+kernel,by decide+kernel,by decide+kernel,by decide+kernel,by decide+kernel⟩ rfl rfl) rfl (Ct rfl T.range (Aa Ae Ad)) (fun _ _ _ _ _=>An (i:=0) (show (["_law_k","_law_letters","_law_base","_law_first"]:List Str).Nodup by decide+kernel) rfl (Or.inl rfl)) (fun _ _ _ _ _=>C4) (fun _ _ _ _ _=>As op_add_str (Ap ix_str (pv 1) (As Co (As Bl (pv 3) (As op_fdiv (pv 0) Ae)) Ae) (fun _ _=>rfl)) (Bs sl_str (pv 2) (Bv Ae) (Bv (As Bl Ae (As Co (pv 0) Ae)))))))) Bk)
   (Af (Aq (i:=5) scNames.nd rfl (Or.inl rfl) (Bs sl_str (pv 2) Cj (Bv (Al GTake hr rfl hTake kTake bTake .nil Ar (Aa (pv 0) (Aa Ae Ad))))))
   (Af (Aq (i:=6) scNames.nd rfl (Or.inl rfl) (Bh Ad))
   (Af (Cs PassesOwn.never rfl (Ct rfl T.range (Aa Ae Ad)) (An (i:=7) scNames.nd rfl (Or.inl rfl)) (Af (Aq (i:=8) scNames.nd rfl (Or.inl rfl) (As op_add_str (pv 5) (Ap ix_str (pv 1) (As Co (As Bl (pv 3) (As op_fdiv (pv 7) Ae)) Ae) (fun _ _=>rfl))))
   (Ah (Ci (pe_bm PySem.F.plainAttrs_list PySem.F.slot_list_append PySem.F.type_list_append Cf (pv 6) (Aa (As op_add_str (pv 8) (Ap ix_str (pv 1) (As Co (As Bl (pv 4) (pv 7)) Ae) (fun _ _=>rfl))) Ad))))))
   (Ah (Ay (pv 6)))))))))),?_⟩
  refine ⟨rfl,8,rfl,by decide,by decide,fun D hD=>comp_range (lo:=0) (n:=8) (fun j σ ys H2=>∃(u:Option V) (ws:List Nat),σ=[u,some (.str LS),some (.ref a)]∧But a c H H2∧DeckAt H2 a c∧H2 D=some (.lst ys)∧ys=ws.map (fun c=>V.str ⟨#[c]⟩)∧ws.length=j∧∀x∈ws,97≤x∧x<123) ?_ (fun j σ ys H2 _ ⟨_,_,_,_,_,e,_⟩=>e) ?_ ?_⟩
  ·exact ⟨none,[],rfl,But.of (Ac hD),hw.upd (hw.ne' hD),Ab,rfl,rfl,by simp⟩
  ·rintro j σ ys H2 hj ⟨u,ws,rfl,b2,w2,e2,rfl,wl,wb⟩
   refine ⟨_,rfl,_,rfl,a,c,26,rfl,w2,by decide,by decide,fun x H3 x0 x1 b3 w3=> ?_⟩
   have e3:=b3 _ _ e2 (hw.ne' hD).1 (hw.ne' hD).2
   refine ⟨_,x,_,rfl,rfl,small (by decide+kernel),LS_at x0 x1,e3,Aw (by simp;omega),_,ws++[97+x.toNat],rfl,(b2.trans b3).set hD,w3.upd (hw.ne' hD),Ab,by simp,by simp [wl],fun y hy=> ?_⟩
   rcases List.mem_append.mp hy with q|q
   ·exact wb y q
   ·have:=List.mem_singleton.mp q
    omega
  rintro σ ys H2 ⟨u,ws,rfl,b2,w2,e2,rfl,wl,wb⟩
  have hz:=join_cps ws
  have ez:(ws.map fun c=>V.str ⟨#[c]⟩)=((ws.map fun c=>(⟨#[c]⟩:Str)).map V.str):=by rw [List.map_map];rfl
  refine ⟨_,D,_,rfl,rfl,SqL.of (by rw [←ez];exact e2),?_,?_⟩
  ·have:∀ws:List Nat,((ws.map fun c=>(⟨#[c]⟩:Str)).map (·.length)).sum=ws.length:=by
    intro ws
    induction ws with
    |nil=>rfl
    |cons c ws ih=>simp only [List.map_cons,List.sum_cons,List.length_cons,ih];show 1+ws.length=_;omega
   rw [this,List.length_map];show _+_ * 0≤_;omega
  generalize Txt.join (Str.ofString "") (ws.map fun c=>(⟨#[c]⟩:Str))=z at hz
  have zl:z.length=8:=by rw [len_toList,hz,wl]
  obtain ⟨j0,hj0,a0⟩:∃j0:Nat,j0<26∧atI z.cps.toList 0=some (97+j0):=by
   match ws,wl,wb,hz with
   |x::r,_,wb,hz=>
    have:=wb x (by simp)
    exact ⟨x - 97,by omega,by rw [hz,show 97+(x - 97)=x by omega];exact Am (j:=0) rfl⟩
  obtain ⟨j1,hj1,a1⟩:∃j1:Nat,j1<26∧atI z.cps.toList 1=some (97+j1):=by
   match ws,wl,wb,hz with
   |x::y::r,_,wb,hz=>
    have:=wb y (by simp)
    exact ⟨y - 97,by omega,by rw [hz,show 97+(y - 97)=y by omega];exact Am (j:=1) rfl⟩
  obtain ⟨r0,o0⟩:=occ_all j0 hj0
  obtain ⟨r1,o1⟩:=occ_all j1 hj1
  refine ⟨_,rfl,rfl,_,rfl,z,0,_,rfl,rfl,small (by omega),a0,LS,_,j0,r0,rfl,rfl,o0,?_⟩
  refine ⟨_,rfl,rfl,_,rfl,z,1,_,rfl,rfl,small (by omega),a1,LS,_,j1,r1,rfl,rfl,o1,?_⟩
  refine ⟨_,rfl,a,c,2,rfl,w2,by decide,by decide,fun way H4 y0 y1 b4 w4=>⟨rfl,_,rfl,?_⟩⟩
  have B4:But a c H H4:=b2.trans b4
  by_cases g:way=0
  ·subst g
   rw [decide_eq_true rfl]
   refine iteT ⟨70,rfl,by decide,by decide,fun l hl=>comp_range (lo:=0) (n:=70) (fun i σ ys H5=>∃(u0:Option V) (zs:List Str),σ=[u0,some (.str LS),some (.str z),some (.int (j0:Int))]∧ys=zs.map V.str∧Same H4 H5∧H5 l=some (.lst ys)∧zs.length=i∧∀(j:Nat) (y:Str),zs[j]? =some y→NmA (j0:Int) j y) ⟨none,[],rfl,rfl,Ac hl,Ab,rfl,by simp⟩ (fun j σ ys H5 _ ⟨_,_,_,_,_,e,_⟩=>e) ?_ ?_⟩
   ·rintro i σ ys H5 hi ⟨u0,zs,rfl,rfl,s5,l5,zsl,zsw⟩
    have m0:=Int.emod_nonneg ((j0:Int)+(0+(i:Int)) / 8) (show (26:Int)≠0 by decide)
    have m1:=Int.emod_lt_of_pos ((j0:Int)+(0+(i:Int)) / 8) (show (0:Int)<26 by decide)
    have s8:(Txt.slice z (some 1) (some (1+(0+(i:Int)) % 8))).cps.toList.length=i % 8:=by
     have:=slice_1 (m:=i % 8) zl (by omega)
     rw [show (1+(0+(i:Int)) % 8)=1+((i % 8:Nat):Int) by omega]
     exact this
    have s9:=Txt.slice_le z (some 1) (some (1+(0+(i:Int)) % 8))
    refine ⟨_,rfl,_,rfl,_,rfl,_,_,rfl,rfl,⟨by decide,by decide⟩,_,_,rfl,rfl,_,_,rfl,rfl,(by show (0:Int)<26;decide),LS,_,_,rfl,rfl,small (by decide+kernel),LS_at m0 m1,?_⟩
    refine ⟨_,rfl,_,rfl,_,rfl,_,_,rfl,rfl,(by show (0:Int)<8;decide),_,_,rfl,rfl,_,rfl,z,rfl,small (by omega),_,_,rfl,rfl,small (by show 1+_≤_;omega),?_⟩
    refine ⟨l5,Aw (by simp;omega),_,zs++[_],rfl,by rw [List.map_append];rfl,Bi s5 hl,Ab,by simp [zsl],?_⟩
    exact zs_snoc zsl zsw ⟨_,by rw [cat_cps];rfl,s8⟩
   ·rintro σ ys H5 ⟨u0,zs,rfl,rfl,s5,l5,zsl,zsw⟩
    exact k l zs H5 (B4.trans (But.of s5)) (w4.same s5) l5 (w4.ne' hl).1 (w4.ne' hl).2 zsl (nd_of (p:=NmA (j0:Int)) (by omega) (fun h1 h2 a b=>nmA_inj h1 h2 a b) zsw)
  ·rw [decide_eq_false (fun e=>g (by injection e))]
   refine C3 ?_
   dsimp only [Cr]
   refine ⟨_,rfl,noPart ⟨_,rfl,a,c,7,rfl,w4,by decide,by decide,fun x H5 x0 x1 b5 w5=> ?_⟩⟩
   have hd8:=Txt.slice_le z none (some x)
   refine ⟨_,rfl,z,rfl,small (by omega),?_⟩
   generalize Txt.slice z none (some x)=hd at hd8
   refine ⟨small (by simp),fun l hl=> ?_⟩
   have B5:=B4.trans b5
   have lH:H l=none:=B5.none w5 hl
   have ln:=w5.ne' hl
   refine ⟨70,rfl,by decide,by decide,for_range (lo:=0) (n:=70) (fun i σ H6=>∃(u7 u8:Option V) (zs:List Str),σ=[some (.ref a),some (.str LS),some (.str z),some (.int (j0:Int)),some (.int (j1:Int)),some (.str hd),some (.ref l),u7,u8]∧But a c H H6∧DeckAt H6 a c∧H6 l=some (.lst (zs.map V.str))∧zs.length=i∧∀(j:Nat) (y:Str),zs[j]? =some y→NmB (j0:Int) (j1:Int) hd.cps.toList j y) ⟨_,_,[],rfl,B5.trans (But.of (Ac hl)),w5.upd ln,Ab,rfl,by simp⟩ ?_ ?_⟩
   ·rintro i σ H6 hi ⟨u7,u8,zs,rfl,b6,w6,l6,zsl,zsw⟩
    have m0:=Int.emod_nonneg ((j0:Int)+(0+(i:Int)) / 26) (show (26:Int)≠0 by decide)
    have m1:=Int.emod_lt_of_pos ((j0:Int)+(0+(i:Int)) / 26) (show (0:Int)<26 by decide)
    have n0:=Int.emod_nonneg ((j1:Int)+(0+(i:Int))) (show (26:Int)≠0 by decide)
    have n1:=Int.emod_lt_of_pos ((j1:Int)+(0+(i:Int))) (show (0:Int)<26 by decide)
    refine ⟨_,rfl,_,rfl,_,rfl,_,rfl,_,_,rfl,rfl,⟨by decide,by decide⟩,_,_,rfl,rfl,_,_,rfl,rfl,(by show (0:Int)<26;decide),LS,_,_,rfl,rfl,small (by decide+kernel),LS_at m0 m1,_,_,rfl,rfl,small (by show _+1≤_;omega),?_⟩
    refine ⟨_,rfl,.inl ⟨rfl,_,SqL.of l6⟩,_,rfl,_,rfl,_,rfl,_,rfl,_,_,rfl,rfl,_,_,rfl,rfl,(by show (0:Int)<26;decide),LS,_,_,rfl,rfl,small (by decide+kernel),LS_at n0 n1,_,_,rfl,rfl,small (by rw [cat_len];show _+1+1≤_;omega),?_⟩
    refine ⟨l,_,_,rfl,rfl,l6,Aw (by simp;omega),_,_,zs++[_],rfl,b6.set lH,w6.upd ln,by rw [Ab,List.map_append];rfl,by simp [zsl],?_⟩
    exact zs_snoc zsl zsw (by unfold NmB;rw [cat_cps,cat_cps,List.append_assoc];rfl)
   ·rintro σ H6 ⟨u7,u8,zs,rfl,b6,w6,l6,zsl,zsw⟩
    exact ⟨_,rfl,k l zs H6 b6 w6 l6 ln.1 ln.2 zsl (nd_of (p:=NmB (j0:Int) (j1:Int) hd.cps.toList) (by omega) (fun h1 h2 a b=>nmB_inj h1 h2 a b) zsw)⟩
end
end K28
namespace K28
open PySem L2 Wk
def Pr2 (N:Nat) (x:V) (H:Hp):Prop:=∃(r:Addr) (p q:Nat),x= .ref r∧H r=some (.tup [.int (p:Int),.int (q:Int)])∧p<N∧q<N∧p≠q
section
variable {P:Program} {w:World} {K:PySem.W.Frag} {mg:Str→Option Value} {base:Heap} {C I:Addr}
theorem scPlaces:Ax ["_law_deck_here","_law_many","_law_shape","_law_turn","_law_one","_law_other","_law_few","_law_at","_law_some"] ["_law_deck_here","_law_many","_law_shape","_law_turn"] (Ag sPlaces):=⟨rfl,rfl,rfl,by decide+kernel,rfl,by decide+kernel,by decide+kernel⟩
theorem ok_Places {f:Addr} {fd:FuncData} (F:Fun K "_law_places" "_law_places" sPlaces f fd) (T:Txt K mg C I)
  {gTake:Addr} {fTake:FuncData} (kTake:PySem.W.keepIn K (.ref gTake)=true) (bTake:Binds K fTake ["_law_deck_here","_law_most"] []) (hTake:mg "_law_take"=some (.ref gTake)) (GTake:FnOk P w K mg base CX0 1 gTake fTake ["_law_deck_here","_law_most"] spTake):
  FnOk P w K mg base CX0 2 f fd ["_law_deck_here","_law_many","_law_shape","_law_turn"] spPlaces:=by
 refine F.ok scPlaces (fun vs H Q E h=> ?_) (fun cdv A outer s H vs Q E hr h=> ?_)
 ·obtain ⟨_,_,_,_,_,rfl,_⟩:=h;rfl
 ·obtain ⟨a,c,N,sh,tn,rfl,D0,N2,N24,h0,h4,k⟩:=h
  refine ⟨_,Af (Aq (i:=4) scPlaces.nd rfl (Or.inl rfl) (Al GTake hr rfl hTake kTake bTake .nil Ar (Aa (pv 0) (Aa (pv 1) Ad))))
   (Af (Aq (i:=5) scPlaces.nd rfl (Or.inl rfl) (As Co (As Bl (As Bl (pv 4) Ae) (Al GTake hr rfl hTake kTake bTake .nil Ar (Aa (pv 0) (Aa (As op_sub (pv 1) Ae) Ad)))) (pv 1)))
   (Af (Aq (i:=6) scPlaces.nd rfl (Or.inl rfl) (A8 (call_min2 rfl) (by rfl) T.min (by decide+kernel) (Aa Ae (Aa (pv 1) Ad))))
   (Af (Aq (i:=7) scPlaces.nd rfl (Or.inl rfl) (As Co (pv 3) (As op_sub (pv 1) Ae)))
   (Af (Aq (i:=8) scPlaces.nd rfl (Or.inl rfl) (Bh (Aa (Ba (Aa (pv 4) (Aa (pv 5) Ad))) (Aa (Ba (Aa (pv 7) (Aa (As Bl (pv 7) Ae) Ad))) (Aa (Ba (Aa (As Co (pv 4) (pv 6)) (Aa (As Co (As Bl (pv 4) Ae) (pv 6)) Ad))) (Aa (Ba (Aa Ae (Aa (As Bl (pv 7) Ae) Ad))) Ad))))))
   (Af (ps_asg (Ap Bb (pv 8) (pv 2) (fun _ _=>rfl)) (pg_tup rfl (At (An (i:=4) scPlaces.nd rfl (Or.inl rfl)) (At (An (i:=5) scPlaces.nd rfl (Or.inl rfl)) Bu))))
   (Ah (Ay (Ap Bb (Bh (Aa (Ba (Aa (pv 4) (Aa (pv 5) Ad))) (Aa (Ba (Aa (pv 5) (Aa (pv 4) Ad))) Ad))) (Al GTake hr rfl hTake kTake bTake .nil Ar (Aa (pv 0) (Aa Ae Ad))) (fun _ _=>rfl))))))))),?_⟩
  refine ⟨_,rfl,_,rfl,a,c,(N:Int),rfl,D0,by omega,by omega,fun x H1 x0 x1 b1 D1=> ?_⟩
  obtain ⟨p,rfl⟩:=nat_of x0
  have hp:p<N:=by omega
  refine ⟨_,rfl,_,_,rfl,rfl,_,rfl,_,rfl,_,_,rfl,rfl,a,c,(N:Int) - 1,rfl,D1,by omega,by omega,fun y H2 y0 y1 b2 D2=> ?_⟩
  obtain ⟨m,rfl⟩:=nat_of y0
  refine ⟨_,_,rfl,rfl,_,rfl,_,_,rfl,rfl,(by show (0:Int)<(N:Int);omega),?_⟩
  have eq1:((p:Int)+1+(m:Int)) % (N:Int)=(((p+1+m) % N:Nat):Int):=by rw [←mod_int];congr 1
  rw [eq1]
  have q1:=mod_ne (N:=N) (a:=p) (v:=m) hp (by omega)
  generalize (p+1+m) % N=q at q1
  refine ⟨_,rfl,3,(N:Int),rfl,?_⟩
  have hfew:∃few:Nat,(if (N:Int)<3 then (N:Int) else 3)=(few:Int)∧2≤few∧few≤N:=by
   by_cases g:(N:Int)<3
   ·exact ⟨N,by rw [if_pos g],N2,Nat.le_refl _⟩
   ·exact ⟨3,by rw [if_neg g];rfl,by decide,by omega⟩
  obtain ⟨few,ef,f2,fN⟩:=hfew
  rw [ef]
  refine ⟨_,rfl,_,rfl,_,_,rfl,rfl,_,_,rfl,rfl,(by show (0:Int)<(N:Int) - 1;omega),?_⟩
  have eat:(tn:Int) % ((N:Int) - 1)=((tn % (N - 1):Nat):Int):=by rw [show (N:Int) - 1=((N - 1:Nat):Int) by omega,mod_int]
  have hat:tn % (N - 1)<N - 1:=Nat.mod_lt _ (by omega)
  rw [eat]
  generalize tn % (N - 1)=at0 at hat
  have m1:(p:Int) % (few:Int)=((p % few:Nat):Int):=mod_int
  have m2:((p:Int)+1) % (few:Int)=(((p+1) % few:Nat):Int):=by rw [←mod_int];congr 1
  have l1:p % few<few:=Nat.mod_lt _ (by omega)
  have l2:(p+1) % few<few:=Nat.mod_lt _ (by omega)
  have l3:p % few≠(p+1) % few:=by
   have:=mod_ne1 (N:=few) (a:=p % few) l1 f2
   rw [Nat.add_mod,Nat.mod_eq_of_lt (show 1<few by omega)]
   exact fun e=>this.1 e.symm
  have fin:∀(x:V) (H3:Hp),But a c H H3→DeckAt H3 a c→Pr2 N x H3→∀(u4 u5:Option V) (u8:Addr) (D:Ends),D.rt=Q→True:=fun _ _ _ _ _ _ _ _ _ _=>trivial
  refine ⟨_,rfl,_,rfl,small (by simp),fun t1 ht1=> ?_⟩
  have s1:=Ac (o:= .tup [.int (p:Int),.int (q:Int)]) ht1
  have e1:=Ab (H:=H2) (a:=t1) (o:= .tup [.int (p:Int),.int (q:Int)])
  generalize upd H2 t1 (.tup [.int (p:Int),.int (q:Int)])=G1 at s1 e1
  refine ⟨_,rfl,_,rfl,_,_,rfl,rfl,small (by simp),fun t2 ht2=> ?_⟩
  have s2:=Ac (o:= .tup [.int (at0:Int),.int ((at0:Int)+1)]) ht2
  have e2:=Ab (H:=G1) (a:=t2) (o:= .tup [.int (at0:Int),.int ((at0:Int)+1)])
  generalize upd G1 t2 (.tup [.int (at0:Int),.int ((at0:Int)+1)])=G2 at s2 e2
  refine ⟨_,rfl,_,rfl,_,_,rfl,rfl,(by show (0:Int)<(few:Int);omega),_,rfl,_,_,rfl,rfl,_,rfl,_,_,rfl,rfl,(by show (0:Int)<(few:Int);omega),?_⟩
  rw [m1,m2]
  refine ⟨small (by simp),fun t3 ht3=> ?_⟩
  have s3:=Ac (o:= .tup [.int ((p % few:Nat):Int),.int (((p+1) % few:Nat):Int)]) ht3
  have e3:=Ab (H:=G2) (a:=t3) (o:= .tup [.int ((p % few:Nat):Int),.int (((p+1) % few:Nat):Int)])
  generalize upd G2 t3 (.tup [.int ((p % few:Nat):Int),.int (((p+1) % few:Nat):Int)])=G3 at s3 e3
  refine ⟨_,rfl,_,_,rfl,rfl,small (by simp),fun t4 ht4=> ?_⟩
  have s4:=Ac (o:= .tup [.int 0,.int ((at0:Int)+1)]) ht4
  have e4:=Ab (H:=G3) (a:=t4) (o:= .tup [.int 0,.int ((at0:Int)+1)])
  generalize upd G3 t4 (.tup [.int 0,.int ((at0:Int)+1)])=G4 at s4 e4
  refine ⟨small (by simp),fun l hl=> ?_⟩
  have s5:=Ac (o:= .lst [.ref t1,.ref t2,.ref t3,.ref t4]) hl
  have l5:=Ab (H:=G4) (a:=l) (o:= .lst [.ref t1,.ref t2,.ref t3,.ref t4])
  generalize upd G4 l (.lst [.ref t1,.ref t2,.ref t3,.ref t4])=G5 at s5 l5
  obtain ⟨z,hz,hz4⟩:=pick4 (p:= .ref t1) (q:= .ref t2) (r:= .ref t3) (s:= .ref t4) h0 h4
  obtain ⟨r,p',q',rfl,hr',hp',hq',hne⟩:Pr2 N z G5:=by
   rcases hz4 with rfl|rfl|rfl|rfl
   ·exact ⟨t1,p,q,rfl,s5 _ _ (s4 _ _ (s3 _ _ (s2 _ _ e1))),hp,q1.2,fun e=>q1.1 e.symm⟩
   ·exact ⟨t2,at0,at0+1,rfl,s5 _ _ (s4 _ _ (s3 _ _ e2)),by omega,by omega,by omega⟩
   ·exact ⟨t3,p % few,(p+1) % few,rfl,s5 _ _ (s4 _ _ e3),by omega,by omega,l3⟩
   ·exact ⟨t4,0,at0+1,rfl,s5 _ _ e4,by omega,by omega,by omega⟩
  have s25:=((((s1.trans s2).trans s3).trans s4).trans s5)
  have D5:=D2.same s25
  have B5:=(b1.trans b2).trans (But.of s25)
  clear hz4 e1 e2 e3 e4 s1 s2 s3 s4 s5
  refine ⟨_,rfl,_,rfl,l,_,_,_,rfl,rfl,SqL.of l5,hz,r,_,rfl,SqT.of hr',rfl,_,_,rfl,_,_,rfl,rfl,?_⟩
  refine ⟨_,rfl,_,rfl,small (by simp),fun v1 hv1=> ?_⟩
  have s6:=Ac (o:= .tup [.int (p':Int),.int (q':Int)]) hv1
  have e6:=Ab (H:=G5) (a:=v1) (o:= .tup [.int (p':Int),.int (q':Int)])
  generalize upd G5 v1 (.tup [.int (p':Int),.int (q':Int)])=G6 at s6 e6
  refine ⟨_,rfl,_,rfl,small (by simp),fun v2 hv2=> ?_⟩
  have s7:=Ac (o:= .tup [.int (q':Int),.int (p':Int)]) hv2
  have e7:=Ab (H:=G6) (a:=v2) (o:= .tup [.int (q':Int),.int (p':Int)])
  generalize upd G6 v2 (.tup [.int (q':Int),.int (p':Int)])=G7 at s7 e7
  refine ⟨small (by simp),fun w hw=> ?_⟩
  have s8:=Ac (o:= .lst [.ref v1,.ref v2]) hw
  have w8:=Ab (H:=G7) (a:=w) (o:= .lst [.ref v1,.ref v2])
  have wn:=((D5.same s6).same s7).ne' hw
  generalize upd G7 w (.lst [.ref v1,.ref v2])=G8 at s8 w8
  have D8:=((D5.same s6).same s7).same s8
  have B8:=B5.trans (But.of ((s6.trans s7).trans s8))
  refine ⟨_,rfl,a,c,2,rfl,D8,by decide,by decide,fun v H9 v0 v3 b9 D9=> ?_⟩
  obtain ⟨z2,hz2,hzz⟩:=pick2 (x:=0) (y:=0) v0 v3 (p:= .ref v1) (q:= .ref v2)
  refine ⟨w,_,_,_,rfl,rfl,SqL.of (b9 _ _ w8 wn.1 wn.2),hz2,?_⟩
  rcases hzz with rfl|rfl
  ·exact k v1 p' q' H9 (B8.trans b9) D9 (b9.tup D8 (s8 _ _ (s7 _ _ e6))) hp' hq' hne
  ·exact k v2 q' p' H9 (B8.trans b9) D9 (b9.tup D8 (s8 _ _ e7)) hq' hp' hne.symm
end
end K28
namespace K28
open PySem L2 Wk
def ThK (H:Hp) (th:Addr) (ks:List Str):Prop:=∃kvs:List (Key×V),H th=some (.dK kvs)∧kvs.map (·.1)=ks.map Sum.inr
theorem ThK.same {H H':Hp} {th:Addr} {ks:List Str} (h:ThK H th ks) (s:Same H H'):ThK H' th ks:=let ⟨kvs,a,b⟩:=h;⟨kvs,s _ _ a,b⟩
theorem ThK.but {H H':Hp} {a c th:Addr} {ks:List Str} (h:ThK H th ks) (b:But a c H H') (D:DeckAt H a c):ThK H' th ks:=let ⟨kvs,x,y⟩:=h;⟨kvs,b.dct D x,y⟩
theorem keys_len {kvs:List (Key×V)} {ks:List Str} (h:kvs.map (·.1)=ks.map Sum.inr):kvs.length=ks.length:=by
 have:=congrArg List.length h
 simpa using this
theorem keys_some:∀{kvs:List (Key×V)} {ks:List Str} (n:Str),kvs.map (·.1)=ks.map Sum.inr→(Bn kvs (Sum.inr n)).isSome=decide (n∈ks)
 |[],[],n,_=>rfl
 |p::kvs,[],n,h=>by simp at h
 |[],k::ks,n,h=>by simp at h
 |p::kvs,k::ks,n,h=>by
  rw [List.map_cons,List.map_cons] at h
  injection h with h1 h2
  by_cases e:k=n
  ·rw [Cd (by rw [h1,e]),decide_eq_true (by rw [e];exact List.mem_cons_self ..)];rfl
  ·rw [Bz (by rw [h1];exact fun z=>e (by injection z)),keys_some n h2,Bool.eq_iff_iff,decide_eq_true_eq,decide_eq_true_eq,List.mem_cons]
   exact ⟨.inr,fun z=>z.elim (fun y=>absurd y.symm e) id⟩
theorem keys_none {kvs:List (Key×V)} {ks:List Str} {n:Str} (h:kvs.map (·.1)=ks.map Sum.inr) (hn:n ∉ ks):Bn kvs (Sum.inr n)=none:=by
 have:=keys_some n h
 rw [decide_eq_false hn] at this
 simpa using this
theorem keys_put {kvs:List (Key×V)} {ks:List Str} {n:Str} {v:V} (h:kvs.map (·.1)=ks.map Sum.inr) (hn:n ∉ ks):(Cm kvs (Sum.inr n) v).map (·.1)=(ks++[n]).map Sum.inr:=by
 rw [putK_new v (keys_none h hn),List.map_append,List.map_append,h];rfl
theorem keys_drop:∀{kvs:List (Key×V)} {ks:List Str} (n:Str),kvs.map (·.1)=ks.map Sum.inr→(dropK kvs (Sum.inr n)).map (·.1)=(ks.filter fun m=>decide (m≠n)).map Sum.inr
 |[],[],n,_=>rfl
 |p::kvs,[],n,h=>by simp at h
 |[],k::ks,n,h=>by simp at h
 |p::kvs,k::ks,n,h=>by
  rw [List.map_cons,List.map_cons] at h
  injection h with h1 h2
  have ih:=keys_drop n h2
  unfold dropK at ih ⊢
  by_cases e:k=n
  ·rw [List.filter_cons_of_neg (by rw [h1,e];simp),List.filter_cons_of_neg (by rw [e];simp)]
   exact ih
  ·rw [List.filter_cons_of_pos (by rw [h1];simp [e]),List.filter_cons_of_pos (by simp [e]),List.map_cons,List.map_cons,ih,h1]
def Mostly (a c th ud:Addr) (H H':Hp):Prop:=∀b o,H b=some o→b≠a→b≠c→b≠th→b≠ud→H' b=some o
def spTie:Sp:=fun vs H Q _=>∃(a c nm th ud:Addr) (N:Nat) (sh:Int) (zs ks us:List Str),vs=[.ref a,.int (N:Int),.ref nm,.int sh,.ref th,.ref ud]∧DeckAt H a c∧2≤N∧N≤24∧0≤sh∧sh<4∧H nm=some (.lst (zs.map V.str))∧zs.length=70∧zs.Nodup∧H ud=some (.lst (us.map V.str))∧us=zs.take us.length∧us.length≤65∧ThK H th ks∧ks.length≤100∧(∀n∈ks,n∈us)∧nm≠a∧nm≠c∧ud≠a∧ud≠c∧
 ∀(r:Addr) (t:T4) (us':List Str) (H':Hp),Mostly a c th ud H H'→DeckAt H' a c→H' r=some (.tup (tieV t))→t.1 ∉ ks→t.1∈us'→(∀n∈us,n∈us')→TieOk N t→0≤t.2.2.2→t.2.2.2≤1000000000→ThK H' th (ks++[t.1])→H' ud=some (.lst (us'.map V.str))→us'=zs.take us'.length→us'.length≤us.length+1→Q (.ref r) H'
def tRest:TS:=fun D σ H=>∃(a c nm th ud:Addr) (N:Nat) (sh:Int) (ks us:List Str) (n:Str) (u6 u8 u9 u10:Option V),σ=[some (.ref a),some (.int (N:Int)),some (.ref nm),some (.int sh),some (.ref th),some (.ref ud),u6,some (.str n),u8,u9,u10]∧DeckAt H a c∧2≤N∧N≤24∧0≤sh∧sh<4∧H ud=some (.lst (us.map V.str))∧1≤us.length∧ud≠a∧ud≠c∧ThK H th ks∧ks.length≤100∧n ∉ ks∧
 ∀(r:Addr) (t:T4) (H':Hp),(∀b o,H b=some o→b≠a→b≠c→b≠th→H' b=some o)→DeckAt H' a c→H' r=some (.tup (tieV t))→t.1=n→TieOk N t→0≤t.2.2.2→t.2.2.2≤1000000000→ThK H' th (ks++[n])→D.rt (.ref r) H'
theorem pick6 {v:Int} (h0:0≤v) (h1:v<6) {y:Int} (y0:0≤y) (y1:y≤1000000000):∃z:Int,atI [V.int 0,.int 1,.int 1,.int 2,.int (10 ^ Int.toNat 9),.int y] v=some (.int z)∧0≤z∧z≤1000000000:=by
 obtain ⟨j,rfl⟩:∃j:Nat,v=(j:Int):=⟨v.toNat,by omega⟩
 match j,h1 with
 |0,_=>exact ⟨0,rfl,by decide,by decide⟩
 |1,_=>exact ⟨1,rfl,by decide,by decide⟩
 |2,_=>exact ⟨1,rfl,by decide,by decide⟩
 |3,_=>exact ⟨2,rfl,by decide,by decide⟩
 |4,_=>exact ⟨10 ^ Int.toNat 9,rfl,by decide,by decide⟩
 |5,_=>exact ⟨y,rfl,y0,y1⟩
section
variable {P:Program} {w:World} {K:PySem.W.Frag} {mg:Str→Option Value} {base:Heap} {C I:Addr}
theorem scTie:Ax ["_law_deck_here","_law_many","_law_names_here","_law_shape","_law_there","_law_used","_law_again","_law_name","_law_one","_law_other","_law_weight"] ["_law_deck_here","_law_many","_law_names_here","_law_shape","_law_there","_law_used"] (Ag sTie):=⟨rfl,rfl,rfl,by decide+kernel,rfl,by decide+kernel,by decide+kernel⟩
theorem ok_Tie {f:Addr} {fd:FuncData} (F:Fun K "_law_tie" "_law_tie" sTie f fd) (T:Txt K mg C I)
  {gTake:Addr} {fTake:FuncData} (kTake:PySem.W.keepIn K (.ref gTake)=true) (bTake:Binds K fTake ["_law_deck_here","_law_most"] []) (hTake:mg "_law_take"=some (.ref gTake)) (GTake:FnOk P w K mg base CX0 2 gTake fTake ["_law_deck_here","_law_most"] spTake)
  {gPlaces:Addr} {fPlaces:FuncData} (kPlaces:PySem.W.keepIn K (.ref gPlaces)=true) (bPlaces:Binds K fPlaces ["_law_deck_here","_law_many","_law_shape","_law_turn"] []) (hPlaces:mg "_law_places"=some (.ref gPlaces)) (GPlaces:FnOk P w K mg base CX0 2 gPlaces fPlaces ["_law_deck_here","_law_many","_law_shape","_law_turn"] spPlaces):
  FnOk P w K mg base CX0 3 f fd ["_law_deck_here","_law_many","_law_names_here","_law_shape","_law_there","_law_used"] spTie:=by
 refine F.ok scTie (fun vs H Q E h=> ?_) (fun cdv A outer s H vs Q E hr h=> ?_)
 ·obtain ⟨_,_,_,_,_,_,_,_,_,_,rfl,_⟩:=h;rfl
 ·obtain ⟨a,c,nm,th,ud,N,sh,zs,ks,us,rfl,D0,N2,N24,h0,h4,hn,z70,znd,hu,upre,u65,hth,k100,sub,nna,nnc,una,unc,k⟩:=h
  refine ⟨_,Af (ps_comp (i:=6) (T:=["_law_name"]) (F:=["_law_there"]) (js:=[4]) scTie.nd rfl (Or.inl rfl) (CS.to (osc:=Ag sTie) ⟨by rfl,by decide+kernel,by decide+kernel,by decide+kernel,by decide+kernel,by decide+kernel,by decide+kernel⟩ rfl rfl) rfl (pi_list (pv 5)) (fun _ _ _ _ _=>An (i:=0) (show (["_law_name","_law_there"]:List Str).Nodup by decide+kernel) rfl (Or.inl rfl)) (fun _ _ _ _ _=>pif_one (pt_cmp (pc_dnotin (hu_of hr) (pv 0) (pv 1)))) (fun _ _ _ _ _=>pv 0))
   (Af (Aq (i:=7) scTie.nd rfl (Or.inl rfl) (Ap Bb (pv 2) (A8 A4 (by rfl) T.len PySem.boot_len (Aa (pv 5) Ad)) (fun _ _=>rfl)))
   (Af (B3 (PW.pt (pw_and (A0 (op_neNil hr.units) (pv 6) (Bh Ad) (A1 _)) (pw_and1 (A0 By (Al GTake hr rfl hTake kTake bTake .nil Ar (Aa (pv 0) (Aa Ae Ad))) Ae (A1 _))))) (Ah (Aq (i:=7) scTie.nd rfl (Or.inl rfl) (Ap Bb (pv 6) (Al GTake hr rfl hTake kTake bTake .nil Ar (Aa (pv 0) (Aa (A8 A4 (by rfl) T.len PySem.boot_len (Aa (pv 6) Ad)) Ad))) (fun _ _=>rfl)))) (Ah (Ci (pe_bm PySem.F.plainAttrs_list PySem.F.slot_list_append PySem.F.type_list_append Cf (pv 5) (Aa (pv 7) Ad)))))
   (PSs.imp' (t':=tRest) (Af (ps_asg (Al GPlaces hr rfl hPlaces kPlaces bPlaces .nil Ar (Aa (pv 0) (Aa (pv 1) (Aa (pv 3) (Aa (As op_sub (A8 A4 (by rfl) T.len PySem.boot_len (Aa (pv 5) Ad)) Ae) Ad))))) (pg_tup rfl (At (An (i:=8) scTie.nd rfl (Or.inl rfl)) (At (An (i:=9) scTie.nd rfl (Or.inl rfl)) Bu))))
   (Af (Aq (i:=10) scTie.nd rfl (Or.inl rfl) (Ap Bb (Bh (Aa Ae (Aa Ae (Aa Ae (Aa Ae (Aa (As op_pow Ae Ae) (Aa (Al GTake hr rfl hTake kTake bTake .nil Ar (Aa (pv 0) (Aa (As op_pow Ae Ae) Ad))) Ad))))))) (Al GTake hr rfl hTake kTake bTake .nil Ar (Aa (pv 0) (Aa Ae Ad))) (fun _ _=>rfl)))
   (Af (ps_dput (hu_of hr) (pv 4) (pv 7) (Ba (Aa (pv 8) (Aa (pv 9) Ad))) rfl)
   (Ah (Ay (Ba (Aa (pv 7) (Aa (pv 8) (Aa (pv 9) (Aa (pv 10) Ad)))))))))) ?tail))),?_⟩
  case tail=>
   clear k sub hth hu hn D0
   rintro D σ H ⟨a,c,nm,th,ud,N,sh,ks,us,n,u6,u8,u9,u10,rfl,D0,N2,N24,h0,h4,hu,u1,una,unc,hth,k100,nk,k⟩
   refine ⟨_,rfl,_,rfl,_,rfl,_,rfl,ud,_,rfl,.inl (SqL.of hu),_,_,rfl,rfl,a,c,N,sh,us.length - 1,by rw [List.length_map,show ((us.length - 1:Nat):Int)=(us.length:Int) - 1 by omega];rfl,D0,N2,N24,h0,h4,fun r0 p q H1 b1 D1 er pN qN pq=> ?_⟩
   refine ⟨r0,_,rfl,SqT.of er,rfl,_,_,rfl,_,_,rfl,rfl,?_⟩
   refine ⟨_,_,rfl,rfl,⟨by decide,by decide,by decide⟩,_,rfl,_,_,rfl,rfl,⟨by decide,by decide,by decide⟩,a,c,_,rfl,D1,by decide,by decide,fun y H2 y0 y1 b2 D2=>⟨small (by simp),fun l hl=> ?_⟩⟩
   have ln:=D2.ne' hl
   have s3:=Ac (o:= .lst [.int 0,.int 1,.int 1,.int 2,.int (10 ^ Int.toNat 9),.int y]) hl
   have l3:=Ab (H:=H2) (a:=l) (o:= .lst [.int 0,.int 1,.int 1,.int 2,.int (10 ^ Int.toNat 9),.int y])
   change TVarP _ _ _ _
   generalize upd H2 l (.lst [.int 0,.int 1,.int 1,.int 2,.int (10 ^ Int.toNat 9),.int y])=H3 at s3 l3
   refine ⟨_,rfl,a,c,6,rfl,D2.same s3,by decide,by decide,fun z H4 z0 z1 b4 D4=> ?_⟩
   obtain ⟨wt,hw,w0,w1⟩:=pick6 z0 z1 y0 (Int.le_of_lt y1)
   refine ⟨l,_,z,_,rfl,rfl,SqL.of (b4 _ _ l3 ln.1 ln.2),hw,?_⟩
   refine ⟨_,rfl,_,rfl,small (by simp),fun pr hpr=> ?_⟩
   have B4:=((b1.trans b2).trans (But.of s3)).trans b4
   have hth4:=hth.but B4 D0
   have s5:=Ac (o:= .tup [.int (p:Int),.int (q:Int)]) hpr
   generalize upd H4 pr (.tup [.int (p:Int),.int (q:Int)])=H5 at s5
   obtain ⟨kvs,t5,ek⟩:=hth4.same s5
   have B5:=B4.trans (But.of s5)
   have D5:=D4.same s5
   have thn:th≠a∧th≠c:=by
    obtain ⟨_,_,_,_,x1,x2,_⟩:=D5
    exact ⟨Ao t5 x1 (by intro z;cases z),Ao t5 x2 (by intro z;cases z)⟩
   refine ⟨_,rfl,_,rfl,th,_,rfl,DPut.k (k:=Sum.inr n) t5 (Aw (by rw [keys_len ek];omega)),?_⟩
   have T6:ThK (upd H5 th (.dK (Cm kvs (Sum.inr n) (.ref pr)))) th (ks++[n]):=⟨_,Ab,keys_put ek nk⟩
   have D6:DeckAt (upd H5 th (.dK (Cm kvs (Sum.inr n) (.ref pr)))) a c:=D5.upd thn
   have M6:∀b o,H b=some o→b≠a→b≠c→b≠th→upd H5 th (.dK (Cm kvs (Sum.inr n) (.ref pr))) b=some o:=fun b o e n1 n2 n3=>by rw [Ai n3];exact B5 b o e n1 n2
   generalize upd H5 th (.dK (Cm kvs (Sum.inr n) (.ref pr)))=H6 at T6 D6 M6
   refine ⟨_,rfl,_,rfl,_,rfl,_,rfl,small (by simp),fun r hr'=> ?_⟩
   have s7:=Ac (o:= .tup [.str n,.int (p:Int),.int (q:Int),.int wt]) hr'
   exact k r (n,p,q,wt) _ (fun b o e n1 n2 n3=>s7 _ _ (M6 b o e n1 n2 n3)) (D6.same s7) Ab rfl ⟨pN,qN,pq⟩ w0 w1 (T6.same s7)
  obtain ⟨kvs,t0,ek⟩:=id hth
  refine ⟨_,rfl,ud,rfl,⟨_,SqL.of hu⟩,fun F hF=>comp_list (K:=K) (a:=ud) (xs:=us.map V.str) (fun j σ ys H7=>∃(u:Option V),σ=[u,some (.ref th)]∧ys=((us.take j).filter fun n=> !decide (n∈ks)).map V.str∧Same H H7∧H7 F=some (.lst ys)) ⟨none,rfl,rfl,Ac hF,Ab⟩ (fun j σ ys H7 _ ⟨_,_,_,e,f⟩=>⟨SqL.of (e _ _ hu),f⟩) ?_ ?_⟩
  ·rintro j x σ ys H7 hx ⟨u,rfl,rfl,s7,F7⟩
   obtain ⟨z,hz,rfl⟩:=map_some hx
   have tk:us.take (j+1)=us.take j++[z]:=by rw [List.take_add_one,hz];rfl
   have lf:((us.take j).filter fun n=> !decide (n∈ks)).length≤70:=Nat.le_trans (List.length_filter_le _ _) (by rw [List.length_take];omega)
   refine ⟨_,rfl,_,rfl,th,_,rfl,DGet.k (k:=Sum.inr z) (s7 _ _ t0),_,rfl,?_⟩
   rw [keys_some z ek]
   by_cases g:z∈ks
   ·rw [decide_eq_true g]
    exact C3 ⟨_,rfl,by rw [tk,List.filter_append];simp [g],s7,F7⟩
   ·rw [decide_eq_false g]
    exact iteT ⟨_,rfl,F7,Aw (by rw [List.length_map];omega),_,rfl,by rw [tk,List.filter_append,List.map_append];simp [g],Bi s7 hF,Ab⟩
  rintro σ ys H7 ⟨u,rfl,rfl,s7,F7⟩
  rw [List.length_map,List.take_length] at F7
  have fl:(us.filter fun n=> !decide (n∈ks)).length≤70:=Nat.le_trans (List.length_filter_le _ _) (by omega)
  have fm:∀n∈us.filter fun n=> !decide (n∈ks),n∈us∧n ∉ ks:=fun n hn=>by
   obtain ⟨x,y⟩:=List.mem_filter.mp hn
   exact ⟨x,by simpa using y⟩
  generalize (us.filter fun n=> !decide (n∈ks))=fz at F7 fl fm
  have hu7:=s7 _ _ hu
  have hn7:=s7 _ _ hn
  have iu:us.length<zs.length:=by omega
  have hz0:=Cc iu
  have nin:zs[us.length] ∉ us:=fun hin=>by
   have hin:zs[us.length]∈zs.take us.length:=by rw [←upre];exact hin
   obtain ⟨i,hi,e⟩:=List.mem_iff_getElem.mp hin
   rw [List.getElem_take] at e
   rw [List.length_take] at hi
   have:=(List.getElem_inj znd).mp e
   omega
  generalize zs[us.length]=n0 at hz0 nin
  refine ⟨_,rfl,_,rfl,ud,_,rfl,.inl (SqL.of hu7),nm,_,_,_,rfl,rfl,SqL.of hn7,by rw [List.length_map];exact Am (by rw [List.getElem?_map,hz0];rfl),?_⟩
  refine ⟨_,rfl,small (by simp),fun e he=> ?_⟩
  have Fn:=D0.ne' hF
  have D7:=D0.same s7
  have s8:=Ac (o:= .lst []) he
  have e8:=Ab (H:=H7) (a:=e) (o:= .lst [])
  generalize upd H7 e (.lst [])=H8 at s8 e8
  have F8:=s8 _ _ F7
  have D8:=D7.same s8
  have S8:=s7.trans s8
  have new:∀(H9:Hp) (E9:Ends) (u8 u9 u10:Option V),But a c H H9→DeckAt H9 a c→E9.rt=Q→(∀H',H'=upd H9 ud (.lst ((us++[n0]).map V.str))→tRest E9 [some (.ref a),some (.int (N:Int)),some (.ref nm),some (.int sh),some (.ref th),some (.ref ud),some (.ref F),some (.str n0),u8,u9,u10] H'):=fun H9 E9 u8 u9 u10 b9 D9 eQ H' eH=>by
   have hth9:=hth.but b9 D0
   obtain ⟨kv9,t9,ek9⟩:=id hth9
   have hu9:=b9 _ _ hu una unc
   refine ⟨a,c,nm,th,ud,N,sh,ks,us++[n0],n0,_,_,_,_,rfl,by rw [eH];exact D9.upd ⟨una,unc⟩,N2,N24,h0,h4,by rw [eH];exact Ab,by simp,una,unc,⟨kv9,by rw [eH,Ai (Ao t9 hu9 (by intro z;cases z))];exact t9,ek9⟩,k100,fun z=>nin (sub _ z),fun r t H'' M D'' er et tok w0 w1 T''=> ?_⟩
   rw [eQ]
   have hud:H'' ud=some (.lst ((us++[n0]).map V.str)):=M ud _ (by rw [eH];exact Ab) una unc (Ao hu9 t9 (by intro z;cases z))
   refine k r t (us++[n0]) H'' (fun b o e n1 n2 n3 n4=>M b o (by rw [eH,Ai n4];exact b9 b o e n1 n2) n1 n2 n3) D'' er (by rw [et];exact fun z=>nin (sub _ z)) (by rw [et];simp) (fun n hn=>List.mem_append_left _ hn) tok w0 w1 (by rw [et];exact T'') hud ?_ (by simp)
   rw [List.length_append]
   show _=zs.take (us.length+1)
   rw [List.take_add_one,←upre,hz0];rfl
  refine ⟨F,e,_,rfl,rfl,SqL.of F8,SqL.of e8,_,rfl,Cw (fun g=> ?_) fun g=>C3 ?_⟩
  rotate_left
  ·exact ⟨_,rfl,.inl ⟨rfl,_,SqL.of (s8 _ _ hu7)⟩,_,rfl,ud,_,_,rfl,rfl,s8 _ _ hu7,Aw (by rw [List.length_map];omega),new H8 _ _ _ _ (But.of S8) D8 rfl _ (by rw [List.map_append];rfl)⟩
  have f0:0<fz.length:=by
   cases fz with
   |nil=>exact absurd g (by simp)
   |cons q qs=>simp
  refine ⟨_,rfl,a,c,3,rfl,D8,by decide,by decide,fun v H9 v0 v1 b9 D9=>⟨rfl,_,rfl,Cw (fun g2=> ?_) fun g2=> ?_⟩⟩
  ·refine ⟨_,rfl,_,rfl,_,rfl,F,_,rfl,.inl (SqL.of (b9 _ _ F8 Fn.1 Fn.2)),a,c,_,rfl,D9,by rw [List.length_map];omega,by rw [List.length_map];omega,fun x HA x0 x1 bA DA=> ?_⟩
   rw [List.length_map] at x1
   obtain ⟨i,rfl⟩:=nat_of x0
   have hi:=Cc (show i<fz.length by omega)
   have hfm:=fm _ (List.mem_of_getElem? hi)
   generalize fz[i]=n1 at hi hfm
   have B:=((But.of S8).trans b9).trans bA
   have FA:=bA _ _ (b9 _ _ F8 Fn.1 Fn.2) Fn.1 Fn.2
   refine ⟨F,_,_,_,rfl,rfl,SqL.of FA,Am (by rw [List.getElem?_map,hi];rfl),?_⟩
   have huA:=B _ _ hu una unc
   obtain ⟨kvA,tA,ekA⟩:=hth.but B D0
   refine ⟨a,c,nm,th,ud,N,sh,ks,us,n1,_,_,_,_,rfl,DA,N2,N24,h0,h4,huA,List.length_pos_of_mem hfm.1,una,unc,⟨kvA,tA,ekA⟩,k100,hfm.2,fun r t H'' M D'' er et tok w0 w1 T''=> ?_⟩
   have hud:H'' ud=some (.lst (us.map V.str)):=M ud _ huA una unc (Ao huA tA (by intro z;cases z))
   exact k r t us H'' (fun b o e n1 n2 n3 n4=>M b o (B b o e n1 n2) n1 n2 n3) D'' er (by rw [et];exact hfm.2) (by rw [et];exact hfm.1) (fun n hn=>hn) tok w0 w1 (by rw [et];exact T'') hud upre (by omega)
  ·have hu9:=b9 _ _ (s8 _ _ hu7) una unc
   exact ⟨_,rfl,.inl ⟨rfl,_,SqL.of hu9⟩,_,rfl,ud,_,_,rfl,rfl,hu9,Aw (by rw [List.length_map];omega),new H9 _ _ _ _ ((But.of S8).trans b9) D9 rfl _ (by rw [List.map_append];rfl)⟩
end
end K28
namespace K28
open PySem L2 Wk
theorem right_snoc {N:Nat} {ds:List Dd} {d:Dd} (h:Right N ds) (ok:DdOk N (thr ds) d) (l:ds.length<60) (m:0≤d.mo∧d.mo≤1000000000) (up:∀x∈ds,x.mo≤d.mo) (wt:∀m t,d= .come m t→0≤t.2.2.2∧t.2.2.2≤1000000000):Right N (ds++[d]):=by
 refine ⟨fun i x e=> ?_,by simp;omega,fun x hx=> ?_,?_,fun m' t hx=> ?_⟩
 ·rw [List.getElem?_append] at e
  split at e
  ·rename_i hi
   rw [List.take_append_of_le_length (by exact Nat.le_of_lt (by assumption))]
   exact h.ok i x e
  ·have hi:i - ds.length=0:=by
    have:=(List.getElem?_eq_some_iff.mp e).1
    simp at this;assumption
   rw [hi] at e
   cases e
   rw [show i=ds.length by omega,List.take_left]
   exact ok
 ·rcases List.mem_append.mp hx with q|q
  ·exact h.mo x q
  ·rw [List.mem_singleton.mp q];exact m
 ·refine List.pairwise_append.mpr ⟨h.up,List.pairwise_singleton ..,fun x hx y hy=> ?_⟩
  rw [List.mem_singleton.mp hy];exact up x hx
 ·rcases List.mem_append.mp hx with q|q
  ·exact h.wt m' t q
  ·exact wt m' t (List.mem_singleton.mp q).symm
theorem dds_snoc {H H':Hp} {rs:List Addr} {ds:List Dd} {r:Addr} {d:Dd} (h:DdsAt H rs ds) (f:∀a xs,H a=some (.tup xs)→H' a=some (.tup xs)) (hr:H' r=some (.tup d.vs)):DdsAt H' (rs++[r]) (ds++[d]):=by
 refine ⟨by simp [h.1],fun i a x ha hx=> ?_⟩
 rw [List.getElem?_append] at ha hx
 by_cases hi:i<rs.length
 ·rw [if_pos hi] at ha
  rw [if_pos (by rw [←h.1];exact hi)] at hx
  exact f _ _ (h.2 i a x ha hx)
 ·rw [if_neg hi] at ha
  rw [if_neg (by rw [←h.1];exact hi),←h.1] at hx
  have:i - rs.length=0:=by
   have:=(List.getElem?_eq_some_iff.mp ha).1
   simp at this;assumption
  rw [this] at ha hx
  cases ha
  cases hx
  exact hr
structure HD (a c th ud nm de:Addr) (zs ks us:List Str) (rs:List Addr) (ds:List Dd) (H0 H:Hp):Prop where
 bt:But a c H0 H
 dk:DeckAt H a c
 hn:H nm=some (.lst (zs.map V.str))
 hu:H ud=some (.lst (us.map V.str))
 ht:ThK H th ks
 hd:H de=some (.lst (rs.map V.ref))
 dd:DdsAt H rs ds
structure HSt (a c th ud nm de:Addr) (H0:Hp):Prop where
 nn:nm≠a∧nm≠c
 un:ud≠a∧ud≠c
 dn:de≠a∧de≠c
 tn:th≠a∧th≠c
 du:de≠ud
 dm:de≠nm
 um:ud≠nm
 h0t:H0 th=none
 h0u:H0 ud=none
 h0d:H0 de=none
structure HP (N:Nat) (zs ks us:List Str) (mo:Int) (ds:List Dd):Prop where
 nk:ks.Nodup
 sub:∀n∈ks,n∈us
 mem:∀n,n∈ks↔n∈(thr ds).map (·.1)
 pre:us=zs.take us.length
 ul:us.length≤ds.length
 rt:Right N ds
 m0:0≤mo
 m1:mo≤1000000000
 mu:∀x∈ds,x.mo≤mo
theorem HD.but {a c th ud nm de:Addr} {zs ks us:List Str} {rs:List Addr} {ds:List Dd} {H0 H H':Hp} (S:HSt a c th ud nm de H0) (I:HD a c th ud nm de zs ks us rs ds H0 H) (b:But a c H H') (D:DeckAt H' a c):HD a c th ud nm de zs ks us rs ds H0 H':=
 ⟨I.bt.trans b,D,b _ _ I.hn S.nn.1 S.nn.2,b _ _ I.hu S.un.1 S.un.2,I.ht.but b I.dk,b _ _ I.hd S.dn.1 S.dn.2,I.dd.mono fun r xs e=>b.tup I.dk e⟩
theorem HD.same {a c th ud nm de:Addr} {zs ks us:List Str} {rs:List Addr} {ds:List Dd} {H0 H H':Hp} (S:HSt a c th ud nm de H0) (I:HD a c th ud nm de zs ks us rs ds H0 H) (s:Same H H'):HD a c th ud nm de zs ks us rs ds H0 H':=I.but S (But.of s) (I.dk.same s)
theorem HP.len {N:Nat} {zs ks us:List Str} {mo:Int} {ds:List Dd} (P:HP N zs ks us mo ds):ks.length≤ds.length:=by
 have h1:=nodup_le ks ((thr ds).map (·.1)) P.nk fun n hn=>(P.mem n).mp hn
 have h2:=thr_len ds ds.length
 rw [List.take_length] at h2
 rw [List.length_map] at h1
 omega
theorem pick6b {v:Int} (h0:0≤v) (h1:v<6) {x y:Int} (x0:0≤x) (y0:0≤y):∃z:Int,atI [V.int 0,.int 1,.int 0,.int 2,.int x,.int y] v=some (.int z)∧0≤z:=by
 obtain ⟨j,rfl⟩:∃j:Nat,v=(j:Int):=⟨v.toNat,by omega⟩
 match j,h1 with
 |0,_=>exact ⟨0,rfl,by decide⟩
 |1,_=>exact ⟨1,rfl,by decide⟩
 |2,_=>exact ⟨0,rfl,by decide⟩
 |3,_=>exact ⟨2,rfl,by decide⟩
 |4,_=>exact ⟨x,rfl,x0⟩
 |5,_=>exact ⟨y,rfl,y0⟩
theorem pick4b {v:Int} (h0:0≤v) (h1:v<4) {y:Int} (y0:0≤y) (y1:y≤1000000000):∃z:Int,atI [V.int 0,.int 0,.int y,.int (10 ^ Int.toNat 9 - 3)] v=some (.int z)∧0≤z∧z≤1000000000:=by
 obtain ⟨j,rfl⟩:∃j:Nat,v=(j:Int):=⟨v.toNat,by omega⟩
 match j,h1 with
 |0,_=>exact ⟨0,rfl,by decide,by decide⟩
 |1,_=>exact ⟨0,rfl,by decide,by decide⟩
 |2,_=>exact ⟨y,rfl,y0,y1⟩
 |3,_=>exact ⟨10 ^ Int.toNat 9 - 3,rfl,by decide,by decide⟩
def spDeeds:Sp:=fun vs H Q _=>∃(a c nm:Addr) (N C:Nat) (zs:List Str),vs=[.ref a,.int (N:Int),.ref nm,.int (C:Int)]∧DeckAt H a c∧1≤N∧N≤24∧H nm=some (.lst (zs.map V.str))∧zs.length=70∧zs.Nodup∧nm≠a∧nm≠c∧C≤60∧
 ∀(r:Addr) (rs:List Addr) (ds:List Dd) (H':Hp),But a c H H'→DeckAt H' a c→H' r=some (.tup (rs.map V.ref))→DdsAt H' rs ds→Right N ds→Q (.ref r) H'
section
variable {P:Program} {w:World} {K:PySem.W.Frag} {mg:Str→Option Value} {base:Heap} {C I:Addr}
theorem scDeeds:Ax ["_law_deck_here","_law_many","_law_names_here","_law_count","_law_there","_law_used","_law_deeds_here","_law_shape","_law_moment","_law_k","_law_name"] ["_law_deck_here","_law_many","_law_names_here","_law_count"] (Ag sDeeds):=⟨rfl,rfl,rfl,by decide+kernel,rfl,by decide+kernel,by decide+kernel⟩
theorem ok_Deeds {f:Addr} {fd:FuncData} (F:Fun K "_law_deeds" "_law_deeds" sDeeds f fd) (T:Txt K mg C I)
  {gTake:Addr} {fTake:FuncData} (kTake:PySem.W.keepIn K (.ref gTake)=true) (bTake:Binds K fTake ["_law_deck_here","_law_most"] []) (hTake:mg "_law_take"=some (.ref gTake)) (GTake:FnOk P w K mg base CX0 3 gTake fTake ["_law_deck_here","_law_most"] spTake)
  {gTie:Addr} {fTie:FuncData} (kTie:PySem.W.keepIn K (.ref gTie)=true) (bTie:Binds K fTie ["_law_deck_here","_law_many","_law_names_here","_law_shape","_law_there","_law_used"] []) (hTie:mg "_law_tie"=some (.ref gTie)) (GTie:FnOk P w K mg base CX0 3 gTie fTie ["_law_deck_here","_law_many","_law_names_here","_law_shape","_law_there","_law_used"] spTie):
  FnOk P w K mg base CX0 4 f fd ["_law_deck_here","_law_many","_law_names_here","_law_count"] spDeeds:=by
 refine F.ok scDeeds (fun vs H Q E h=> ?_) (fun cdv A outer s H vs Q E hr h=> ?_)
 ·obtain ⟨_,_,_,_,_,_,rfl,_⟩:=h;rfl
 ·obtain ⟨a,c,nm,N,C,zs,rfl,D0,N1,N24,hn,z70,znd,nna,nnc,C60,k⟩:=h
  refine ⟨_,Af (Aq (i:=4) scDeeds.nd rfl (Or.inl rfl) pe_dnewK)
   (Af (Aq (i:=5) scDeeds.nd rfl (Or.inl rfl) (Bh Ad))
   (Af (Aq (i:=6) scDeeds.nd rfl (Or.inl rfl) (Bh Ad))
   (Af (Aq (i:=7) scDeeds.nd rfl (Or.inl rfl) (Al GTake hr rfl hTake kTake bTake .nil Ar (Aa (pv 0) (Aa Ae Ad))))
   (Af (Aq (i:=8) scDeeds.nd rfl (Or.inl rfl) (Ap Bb (Bh (Aa Ae (Aa Ae (Aa (Al GTake hr rfl hTake kTake bTake .nil Ar (Aa (pv 0) (Aa (As op_pow Ae Ae) Ad))) (Aa (As op_sub (As op_pow Ae Ae) Ae) Ad))))) (Al GTake hr rfl hTake kTake bTake .nil Ar (Aa (pv 0) (Aa Ae Ad))) (fun _ _=>rfl)))
   (Af (Cs PassesOwn.never rfl (Ct rfl T.range (Aa (As op_mul (pv 3) (Be call_int1 (by rfl) T.int (by decide+kernel) (Aa (Cv op_gt (pv 1) Ae (A1 _)) Ad))) Ad)) (An (i:=9) scDeeds.nd rfl (Or.inl rfl)) (Af (Aq (i:=8) scDeeds.nd rfl (Or.inl rfl) (A8 (call_min2 rfl) (by rfl) T.min (by decide+kernel) (Aa (As op_pow Ae Ae) (Aa (As Bl (pv 8) (Ap Bb (Bh (Aa Ae (Aa Ae (Aa Ae (Aa Ae (Aa (Al GTake hr rfl hTake kTake bTake .nil Ar (Aa (pv 0) (Aa Ae Ad))) (Aa (Al GTake hr rfl hTake kTake bTake .nil Ar (Aa (pv 0) (Aa (As op_pow Ae Ae) Ad))) Ad))))))) (Al GTake hr rfl hTake kTake bTake .nil Ar (Aa (pv 0) (Aa Ae Ad))) (fun _ _=>rfl))) Ad))))
   (Ah (B3 (PW.pt (pw_and (A0 (op_neDict hr.units0) (pv 4) pe_dnewK (A1 _)) (pw_and1 (A0 By (Al GTake hr rfl hTake kTake bTake .nil Ar (Aa (pv 0) (Aa Ae Ad))) Ae (A1 _))))) (Af (Aq (i:=10) scDeeds.nd rfl (Or.inl rfl) (Ap Bb (A8 (Srt.call_sortedD rfl) (by rfl) T.sorted (by decide+kernel) (Aa (pv 4) Ad)) (Al GTake hr rfl hTake kTake bTake .nil Ar (Aa (pv 0) (Aa (A8 call_lenD (by rfl) T.len PySem.boot_len (Aa (pv 4) Ad)) Ad))) (fun _ _=>rfl)))
   (Af (Ci (pe_dpop1 (pv 4) (pv 10) ⟨rfl,rfl,rfl,rfl⟩))
   (Ah (Ci (pe_bm PySem.F.plainAttrs_list PySem.F.slot_list_append PySem.F.type_list_append Cf (pv 6) (Aa (Ba (Aa Bw (Aa (pv 8) (Aa (pv 10) Ad)))) Ad)))))) (Ah (Ci (pe_bm PySem.F.plainAttrs_list PySem.F.slot_list_append PySem.F.type_list_append Cf (pv 6) (Aa (As op_catTT (Ba (Aa Bw (Aa (pv 8) Ad))) (Al GTie hr rfl hTie kTie bTie .nil Ar (Aa (pv 0) (Aa (pv 1) (Aa (pv 2) (Aa (pv 7) (Aa (pv 4) (Aa (pv 5) Ad)))))))) Ad))))))))
   (Ah (Ay (Be Bc (by rfl) T.tuple (by decide+kernel) (Aa (pv 6) Ad))))))))),?_⟩
  refine fun th hth=> ?_
  have s1:=Ac (o:= .dK []) hth
  have t1:=Ab (H:=H) (a:=th) (o:= .dK [])
  have tn:=D0.ne' hth
  generalize upd H th (.dK [])=H1 at s1 t1
  refine ⟨small (by simp),fun ud hud=> ?_⟩
  have D1:=D0.same s1
  have un:=D1.ne' hud
  have h0u:=s1.free hud
  have s2:=Ac (o:= .lst []) hud
  have u2:=Ab (H:=H1) (a:=ud) (o:= .lst [])
  have um:ud≠nm:=(Aj (s1 _ _ hn) hud).symm
  generalize upd H1 ud (.lst [])=H2 at s2 u2
  refine ⟨small (by simp),fun de hde=> ?_⟩
  have D2:=D1.same s2
  have dn:=D2.ne' hde
  have h0d:=(s1.trans s2).free hde
  have s3:=Ac (o:= .lst []) hde
  have d3:=Ab (H:=H2) (a:=de) (o:= .lst [])
  have dm:de≠nm:=(Aj ((s1.trans s2) _ _ hn) hde).symm
  have du:de≠ud:=(Aj u2 hde).symm
  generalize upd H2 de (.lst [])=H3 at s3 d3
  have SS:HSt a c th ud nm de H:=⟨⟨nna,nnc⟩,un,dn,tn,du,dm,um,hth,h0u,h0d⟩
  have s13:=(s1.trans s2).trans s3
  have I3:HD a c th ud nm de zs [] [] [] [] H H3:=⟨But.of s13,D2.same s3,s13 _ _ hn,s3 _ _ u2,⟨[],s3 _ _ (s2 _ _ t1),rfl⟩,d3,rfl,fun i r d e=>by simp at e⟩
  refine ⟨_,rfl,a,c,4,rfl,I3.dk,by decide,by decide,fun sh H4 h0 h4 b4 D4=> ?_⟩
  have I4:=I3.but SS b4 D4
  refine ⟨_,rfl,_,_,rfl,rfl,⟨by decide,by decide,by decide⟩,a,c,_,rfl,D4,by decide,by decide,fun y H5 y0 y1 b5 D5=>⟨_,_,rfl,rfl,⟨by decide,by decide,by decide⟩,_,_,rfl,rfl,small (by simp),fun l hl=> ?_⟩⟩
  have I5:=I4.but SS b5 D5
  have ln:=D5.ne' hl
  have sl:=Ac (o:= .lst [.int 0,.int 0,.int y,.int (10 ^ Int.toNat 9 - 3)]) hl
  have l6:=Ab (H:=H5) (a:=l) (o:= .lst [.int 0,.int 0,.int y,.int (10 ^ Int.toNat 9 - 3)])
  have I6:=I5.same SS sl
  change TVarP _ _ _ _
  generalize upd H5 l (.lst [.int 0,.int 0,.int y,.int (10 ^ Int.toNat 9 - 3)])=H6 at sl l6 I6
  refine ⟨_,rfl,a,c,4,rfl,I6.dk,by decide,by decide,fun z H7 z0 z1 b7 D7=> ?_⟩
  obtain ⟨mo,hmo,m0,m1⟩:=pick4b z0 z1 y0 (Int.le_of_lt y1)
  refine ⟨l,_,z,_,rfl,rfl,SqL.of (b7 _ _ l6 ln.1 ln.2),hmo,?_⟩
  have I7:=I6.but SS b7 D7
  clear I3 I4 I5 I6 b4 b5 b7 l6 sl D7 D5 D4 s13 s1 s2 s3 t1 u2 d3
  obtain ⟨M,hM,eM,M2⟩:∃M:Nat,M≤60∧(C:Int) * (if decide ((1:Int)<(N:Int))=true then (1:Int) else 0)=(M:Int)∧(0<M→2≤N):=by
   by_cases g:(1:Int)<(N:Int)
   ·exact ⟨C,C60,by rw [decide_eq_true g];simp,fun _=>by omega⟩
   ·exact ⟨0,by omega,by rw [decide_eq_false g];simp,fun h=>absurd h (by omega)⟩
  refine ⟨_,rfl,_,rfl,_,_,rfl,rfl,.inr ⟨_,rfl,_,_,rfl,rfl,.inl ⟨by omega,by omega⟩,(M:Int),?_,by omega,by omega,for_range (lo:=0) (n:=(M:Int).toNat) (fun i σ H8=>∃(mo:Int) (u9 u10:Option V) (ks us:List Str) (rs:List Addr) (ds:List Dd),σ=[some (.ref a),some (.int (N:Int)),some (.ref nm),some (.int (C:Int)),some (.ref th),some (.ref ud),some (.ref de),some (.int sh),some (.int mo),u9,u10]∧HD a c th ud nm de zs ks us rs ds H H8∧HP N zs ks us mo ds∧ds.length=i) ⟨mo,_,_,[],[],[],[],rfl,I7,⟨List.nodup_nil,(by simp),(fun n=>by simp [thr]),rfl,Nat.le_refl _,⟨(fun i d e=>by simp at e),(by simp),(by simp),List.Pairwise.nil,fun m t h=>by cases h⟩,m0,m1,by simp⟩,rfl⟩ ?_ ?_⟩⟩
  ·rw [←eM]
  ·rintro i σ H8 hi ⟨mo,u9,u10,ks,us,rs,ds,rfl,I8,P,dl⟩
   have hi:i<M:=by simpa using hi
   have N2:=M2 (by omega)
   have kl:=P.len
   have m0:=P.m0
   have m1:=P.m1
   refine ⟨_,_,rfl,rfl,⟨by decide,by decide,by decide⟩,_,rfl,_,rfl,a,c,99,rfl,I8.dk,by decide,by decide,fun x H9 x0 x1 b9 D9=> ?_⟩
   refine ⟨_,rfl,_,_,rfl,rfl,⟨by decide,by decide,by decide⟩,a,c,_,rfl,D9,by decide,by decide,fun y HA y0 y1 bA DA=>⟨small (by simp),fun l hl=> ?_⟩⟩
   have IA:=(I8.but SS b9 D9).but SS bA DA
   have ln:=DA.ne' hl
   have sl:=Ac (o:= .lst [.int 0,.int 1,.int 0,.int 2,.int x,.int y]) hl
   have lB:=Ab (H:=HA) (a:=l) (o:= .lst [.int 0,.int 1,.int 0,.int 2,.int x,.int y])
   have IB:=IA.same SS sl
   change TVarP _ _ _ _
   generalize upd HA l (.lst [.int 0,.int 1,.int 0,.int 2,.int x,.int y])=HB at sl lB IB
   refine ⟨_,rfl,a,c,6,rfl,IB.dk,by decide,by decide,fun z HC z0 z1 bC DC=> ?_⟩
   obtain ⟨gp,hgp,g0⟩:=pick6b z0 z1 x0 y0
   refine ⟨l,_,z,_,rfl,rfl,SqL.of (bC _ _ lB ln.1 ln.2),hgp,_,_,rfl,rfl,_,_,rfl,?_⟩
   have IC:=IB.but SS bC DC
   obtain ⟨mo',em,mm0,mm1,mm2⟩:∃mo':Int,(if mo+gp<10 ^ (9:Int).toNat then mo+gp else 10 ^ (9:Int).toNat)=mo'∧0≤mo'∧mo'≤1000000000∧mo≤mo':=by
    have e9:(10:Int) ^ (9:Int).toNat=1000000000:=by decide
    rw [e9]
    refine ⟨_,rfl,?_,?_,?_⟩<;> split<;> omega
   rw [em]
   have mu':∀x∈ds,x.mo≤mo':=fun x hx=>Int.le_trans (P.mu x hx) mm2
   clear em hgp lB sl b9 bA bC D9 DA DC I8 IA IB
   refine ⟨_,rfl,fun e he=> ?_⟩
   have se:=Ac (o:= .dK []) he
   have eD:=Ab (H:=HC) (a:=e) (o:= .dK [])
   have ID:=IC.same SS se
   generalize upd HC e (.dK [])=HD' at se eD ID
   clear IC se
   have rl:=ID.dd.1
   have come:∀(HE:Hp) (E:Ends) (u10:Option V),HD a c th ud nm de zs ks us rs ds H HE→(∀σ H8,(∃(mo:Int) (u9 u10:Option V) (ks us:List Str) (rs:List Addr) (ds:List Dd),σ=[some (.ref a),some (.int (N:Int)),some (.ref nm),some (.int (C:Int)),some (.ref th),some (.ref ud),some (.ref de),some (.int sh),some (.int mo),u9,u10]∧HD a c th ud nm de zs ks us rs ds H H8∧HP N zs ks us mo ds∧ds.length=i+1)→E.nx σ H8)→∀c0,HE c0=none→∀(r:Addr) (t:T4) (us':List Str) (HG:Hp),Mostly a c th ud (upd HE c0 (.tup [.str (Str.ofString "come"),.int mo'])) HG→DeckAt HG a c→HG r=some (.tup (tieV t))→t.1 ∉ ks→t.1∈us'→(∀n∈us,n∈us')→TieOk N t→0≤t.2.2.2→t.2.2.2≤1000000000→ThK HG th (ks++[t.1])→HG ud=some (.lst (us'.map V.str))→us'=zs.take us'.length→us'.length≤us.length+1→∀g,HG g=none→E.nx [some (.ref a),some (.int (N:Int)),some (.ref nm),some (.int (C:Int)),some (.ref th),some (.ref ud),some (.ref de),some (.int sh),some (.int mo'),some (.int (0+(i:Int))),u10] (upd (upd HG g (.tup ([V.str (Str.ofString "come"),V.int mo']++tieV t))) de (.lst (rs.map V.ref++[.ref g]))):=by
    intro HE E u10 IE hE c0 hc0 r t us' HG MG DG er nk tin usub tok w0 w1 TG uG upre' ul' g hg
    have sc:=Ac (o:= .tup [.str (Str.ofString "come"),.int mo']) hc0
    have IF:=IE.same SS sc
    obtain ⟨kvF,tF,_⟩:=IF.ht
    have sg:=Ac (o:= .tup (Dd.come mo' t).vs) hg
    have gg:=Ab (H:=HG) (a:=g) (o:= .tup (Dd.come mo' t).vs)
    have dG:HG de=some (.lst (rs.map V.ref)):=MG _ _ IF.hd SS.dn.1 SS.dn.2 (Ao IF.hd tF (by intro z;cases z)) SS.du
    have nG:HG nm=some (.lst (zs.map V.str)):=MG _ _ IF.hn SS.nn.1 SS.nn.2 (Ao IF.hn tF (by intro z;cases z)) SS.um.symm
    have tG:∀b xs,HE b=some (.tup xs)→HG b=some (.tup xs):=fun b xs e=>by
     obtain ⟨_,_,_,_,x1,x2,_⟩:=IF.dk
     have e:=sc _ _ e
     exact MG b _ e (Ao e x1 (by intro z;cases z)) (Ao e x2 (by intro z;cases z)) (Ao e tF (by intro z;cases z)) (Ao e IF.hu (by intro z;cases z))
    show E.nx _ (upd (upd HG g (.tup (Dd.come mo' t).vs)) de (.lst (rs.map V.ref++[.ref g])))
    have dg:=sg _ _ dG
    have D2g:=DG.same sg
    have bg:But a c H (upd HG g (.tup (Dd.come mo' t).vs)):=fun b o e n1 n2=>by
     have:=IF.bt b o e n1 n2
     refine sg _ _ (MG b o this n1 n2 (fun z=> ?_) fun z=> ?_)
     ·subst z;rw [SS.h0t] at e;cases e
     ·subst z;rw [SS.h0u] at e;cases e
    have ng:=sg _ _ nG
    have ug:=sg _ _ uG
    have Tg:=TG.same sg
    generalize upd HG g (.tup (Dd.come mo' t).vs)=HK at sg gg dg D2g bg ng ug Tg
    have tK:∀b xs,HK b=some (.tup xs)→upd HK de (.lst (rs.map V.ref++[.ref g])) b=some (.tup xs):=fun b xs e=>by rw [Ai (Ao e dg (by intro z;cases z))];exact e
    obtain ⟨kvK,tKK,ekK⟩:=Tg
    refine hE _ _ ⟨mo',_,_,ks++[t.1],us',rs++[g],ds++[.come mo' t],rfl,⟨bg.set SS.h0d,D2g.upd SS.dn,by rw [Ai SS.dm.symm];exact ng,by rw [Ai SS.du.symm];exact ug,⟨kvK,by rw [Ai (Ao tKK dg (by intro z;cases z))];exact tKK,ekK⟩,by rw [Ab,List.map_append];rfl,dds_snoc (H:=HE) IE.dd (fun b xs e=>tK _ _ (sg _ _ (tG b xs e))) (tK _ _ gg)⟩,⟨?_,?_,?_,upre',?_,right_snoc (d:= .come mo' t) P.rt ⟨?_,tok⟩ (by omega) ⟨mm0,mm1⟩ mu' (fun m' t' e=>by cases e;exact ⟨w0,w1⟩),mm0,mm1,?_⟩,by rw [List.length_append,dl];rfl⟩
    ·exact List.nodup_append.mpr ⟨P.nk,by simp,fun x hx y hy=>by rw [List.mem_singleton.mp hy];rintro rfl;exact nk hx⟩
    ·intro n hn
     rcases List.mem_append.mp hn with q|q
     ·exact usub n (P.sub n q)
     ·rw [List.mem_singleton.mp q];exact tin
    ·intro n
     rw [thr_snoc]
     show _↔n∈(thr ds++[t]).map (·.1)
     rw [List.map_append,List.mem_append,List.mem_append,P.mem]
     rfl
    ·rw [List.length_append];have:=P.ul;show _≤ds.length+1;omega
    ·exact fun z=>nk ((P.mem _).mpr z)
    ·intro x hx
     rcases List.mem_append.mp hx with q|q
     ·exact mu' x q
     ·rw [List.mem_singleton.mp q];exact Int.le_refl _
   obtain ⟨kvs,tD,ekD⟩:=ID.ht
   refine ⟨th,e,_,rfl,rfl,tD,eD,_,rfl,Cw (fun g=> ?_) fun g=>C3 ?_⟩
   rotate_left
   ·refine ⟨_,rfl,.inl ⟨rfl,_,SqL.of ID.hd⟩,_,rfl,small (by simp),fun c0 hc=> ?_⟩
    have sc:=Ac (o:= .tup [.str (Str.ofString "come"),.int mo']) hc
    have c3:=Ab (H:=HD') (a:=c0) (o:= .tup [.str (Str.ofString "come"),.int mo'])
    have IF:=ID.same SS sc
    refine ⟨_,rfl,_,rfl,_,rfl,_,rfl,_,rfl,_,rfl,a,c,nm,th,ud,N,sh,zs,ks,us,rfl,IF.dk,N2,N24,h0,h4,IF.hn,z70,znd,IF.hu,P.pre,by have:=P.ul;omega,IF.ht,by omega,P.sub,nna,nnc,SS.un.1,SS.un.2,fun r t us' HG MG DG er nk tin usub tok w0 w1 TG uG upre' ul'=> ?_⟩
    have cG:HG c0=some (.tup [.str (Str.ofString "come"),.int mo']):=by
     obtain ⟨_,_,_,_,x1,x2,_⟩:=IF.dk
     obtain ⟨kvF,tF,_⟩:=IF.ht
     exact MG c0 _ c3 (Ao c3 x1 (by intro z;cases z)) (Ao c3 x2 (by intro z;cases z)) (Ao c3 tF (by intro z;cases z)) (Ao c3 IF.hu (by intro z;cases z))
    have dG:HG de=some (.lst (rs.map V.ref)):=by
     obtain ⟨kvF,tF,_⟩:=IF.ht
     exact MG _ _ IF.hd SS.dn.1 SS.dn.2 (Ao IF.hd tF (by intro z;cases z)) SS.du
    refine ⟨c0,r,_,_,rfl,rfl,SqT.of cG,SqT.of er,small (by simp [tieV]),fun e=>absurd e (by simp),fun _ e=>absurd e (by simp [tieV]),fun _ _ gg hg=>⟨de,_,_,rfl,rfl,Ac hg _ _ dG,Aw (by rw [List.length_map];omega),?_⟩⟩
    exact come HD' _ _ ID (fun σ H8 h=>h) c0 hc r t us' HG MG DG er nk tin usub tok w0 w1 TG uG upre' ul' gg hg
   have k0:0<ks.length:=by
    rw [←keys_len ekD]
    cases kvs with
    |nil=>exact absurd g (by simp)
    |cons q qs=>simp
   refine ⟨_,rfl,a,c,3,rfl,ID.dk,by decide,by decide,fun v HE v0 v1 bE DE=>⟨rfl,_,rfl,Cw (fun g2=> ?_) fun g2=> ?_⟩⟩
   rotate_left
   ·have IE:=ID.but SS bE DE
    refine ⟨_,rfl,.inl ⟨rfl,_,SqL.of IE.hd⟩,_,rfl,small (by simp),fun c0 hc=> ?_⟩
    have sc:=Ac (o:= .tup [.str (Str.ofString "come"),.int mo']) hc
    have c3:=Ab (H:=HE) (a:=c0) (o:= .tup [.str (Str.ofString "come"),.int mo'])
    have IF:=IE.same SS sc
    refine ⟨_,rfl,_,rfl,_,rfl,_,rfl,_,rfl,_,rfl,a,c,nm,th,ud,N,sh,zs,ks,us,rfl,IF.dk,N2,N24,h0,h4,IF.hn,z70,znd,IF.hu,P.pre,by have:=P.ul;omega,IF.ht,by omega,P.sub,nna,nnc,SS.un.1,SS.un.2,fun r t us' HG MG DG er nk tin usub tok w0 w1 TG uG upre' ul'=> ?_⟩
    have cG:HG c0=some (.tup [.str (Str.ofString "come"),.int mo']):=by
     obtain ⟨_,_,_,_,x1,x2,_⟩:=IF.dk
     obtain ⟨kvF,tF,_⟩:=IF.ht
     exact MG c0 _ c3 (Ao c3 x1 (by intro z;cases z)) (Ao c3 x2 (by intro z;cases z)) (Ao c3 tF (by intro z;cases z)) (Ao c3 IF.hu (by intro z;cases z))
    have dG:HG de=some (.lst (rs.map V.ref)):=by
     obtain ⟨kvF,tF,_⟩:=IF.ht
     exact MG _ _ IF.hd SS.dn.1 SS.dn.2 (Ao IF.hd tF (by intro z;cases z)) SS.du
    refine ⟨c0,r,_,_,rfl,rfl,SqT.of cG,SqT.of er,small (by simp [tieV]),fun e=>absurd e (by simp),fun _ e=>absurd e (by simp [tieV]),fun _ _ gg hg=>⟨de,_,_,rfl,rfl,Ac hg _ _ dG,Aw (by rw [List.length_map];omega),?_⟩⟩
    exact come HE _ _ IE (fun σ H8 h=>h) c0 hc r t us' HG MG DG er nk tin usub tok w0 w1 TG uG upre' ul' gg hg
   have IE:=ID.but SS bE DE
   clear come ID tD eD bE
   obtain ⟨kvs,tE,ekE⟩:=IE.ht
   refine ⟨_,rfl,th,kvs,ks,rfl,tE,ekE,by omega,fun l ns hl perm _=> ?_⟩
   have ln:=IE.dk.ne' hl
   have sl:=Ac (o:= .lst (ns.map V.str)) hl
   have lF:=Ab (H:=HE) (a:=l) (o:= .lst (ns.map V.str))
   have IF:=IE.same SS sl
   have tF:=sl _ _ tE
   generalize upd HE l (.lst (ns.map V.str))=HF at sl lF IF tF
   refine ⟨_,rfl,_,rfl,th,kvs,rfl,tF,a,c,_,rfl,IF.dk,by rw [keys_len ekE];omega,by rw [keys_len ekE];omega,fun y HG y0 y1 bG DG=> ?_⟩
   rw [keys_len ekE] at y1
   obtain ⟨j,rfl⟩:=nat_of y0
   have jl:j<ns.length:=by rw [perm.length_eq];omega
   have hj:=Cc jl
   have hin:=perm.mem_iff.mp (List.mem_of_getElem? hj)
   generalize ns[j]=n at hj hin
   refine ⟨l,_,_,_,rfl,rfl,SqL.of (bG _ _ lF ln.1 ln.2),Am (by rw [List.getElem?_map,hj];rfl),?_⟩
   have IG:=IF.but SS bG DG
   have tG:=bG.dct IF.dk tF
   obtain ⟨vv,hvv⟩:=Option.isSome_iff_exists.mp (show (Bn kvs (Sum.inr n)).isSome=true by rw [keys_some n ekE];exact decide_eq_true hin)
   refine ⟨_,rfl,th,rfl,.inl ⟨_,.inl tG⟩,_,rfl,kvs,Sum.inr n,vv,tG,rfl,hvv,?_⟩
   have tup5:∀b xs,HG b=some (.tup xs)→upd HG th (.dK (dropK kvs (Sum.inr n))) b=some (.tup xs):=fun b xs e=>by rw [Ai (Ao e tG (by intro z;cases z))];exact e
   have I5:HD a c th ud nm de zs (ks.filter fun m=>decide (m≠n)) us rs ds H (upd HG th (.dK (dropK kvs (Sum.inr n)))):=⟨IG.bt.set SS.h0t,IG.dk.upd SS.tn,by rw [Ai (Ao IG.hn tG (by intro z;cases z))];exact IG.hn,by rw [Ai (Ao IG.hu tG (by intro z;cases z))];exact IG.hu,⟨_,Ab,keys_drop n ekE⟩,by rw [Ai (Ao IG.hd tG (by intro z;cases z))];exact IG.hd,IG.dd.mono tup5⟩
   generalize upd HG th (.dK (dropK kvs (Sum.inr n)))=H5 at I5
   refine ⟨_,rfl,.inl ⟨rfl,_,SqL.of I5.hd⟩,_,rfl,_,rfl,small (by simp),fun r hr'=> ?_⟩
   have sr:=Ac (o:= .tup (Dd.go mo' n).vs) hr'
   have r6:=Ab (H:=H5) (a:=r) (o:= .tup (Dd.go mo' n).vs)
   have I6:=I5.same SS sr
   refine ⟨de,_,_,rfl,rfl,I6.hd,Aw (by rw [List.length_map];omega),?_⟩
   change ∃(mo:Int) (u9 u10:Option V) (ks us:List Str) (rs':List Addr) (ds':List Dd),_
   have dd6:DdsAt (upd (upd H5 r (.tup (Dd.go mo' n).vs)) de (.lst (rs.map V.ref++[.ref r]))) (rs++[r]) (ds++[.go mo' n]):=dds_snoc (H:=upd H5 r (.tup (Dd.go mo' n).vs)) I6.dd (fun b xs e=>by rw [Ai (Ao e I6.hd (by intro z;cases z))];exact e) (by rw [Ai (Ao r6 I6.hd (by intro z;cases z))];exact r6)
   obtain ⟨kv6,t6,ek6⟩:=I6.ht
   have IH:HD a c th ud nm de zs (ks.filter fun m=>decide (m≠n)) us (rs++[r]) (ds++[.go mo' n]) H (upd (upd H5 r (.tup (Dd.go mo' n).vs)) de (.lst (rs.map V.ref++[.ref r]))):=⟨I6.bt.set SS.h0d,I6.dk.upd SS.dn,by rw [Ai SS.dm.symm];exact I6.hn,by rw [Ai SS.du.symm];exact I6.hu,⟨kv6,by rw [Ai (Ao t6 I6.hd (by intro z;cases z))];exact t6,ek6⟩,by rw [Ab,List.map_append];rfl,dd6⟩
   refine ⟨mo',_,_,ks.filter fun m=>decide (m≠n),us,rs++[r],ds++[.go mo' n],rfl,IH,⟨P.nk.filter _,fun m hm=>P.sub m (List.mem_filter.mp hm).1,fun m=> ?_,P.pre,by rw [List.length_append];have:=P.ul;show _≤ds.length+1;omega,right_snoc (d:= .go mo' n) P.rt ((P.mem n).mp hin) (by omega) ⟨mm0,mm1⟩ mu' (fun m' t' e=>by cases e),mm0,mm1,fun x hx=> ?_⟩,by rw [List.length_append,dl];rfl⟩
   ·rw [thr_snoc]
    show _↔m∈((thr ds).filter fun t=>decide (t.1≠n)).map (·.1)
    rw [filt_names,List.mem_filter,List.mem_filter,P.mem]
   ·rcases List.mem_append.mp hx with q|q
    ·exact mu' x q
    ·rw [List.mem_singleton.mp q];exact Int.le_refl _
  ·rintro σ H8 ⟨mo,u9,u10,ks,us,rs,ds,rfl,I8,P,dl⟩
   exact ⟨_,rfl,de,_,rfl,.inl ⟨SqL.of I8.hd,fun r hr'=>k r rs ds _ (I8.bt.trans (But.of (Ac hr'))) (I8.dk.same (Ac hr')) Ab (I8.dd.mono fun b xs e=>Ac hr' _ _ e) P.rt⟩⟩
end
end K28
namespace K28
open PySem L2 Wk
inductive Ak where
 |jo (n p q:Nat)
 |pa (n:Nat)
 |si (n p:Nat)
 |ev (n:Nat)
def Ak.vs:Ak→List V
 | .jo n p q=>[.str (Str.ofString "joined"),.int (n:Int),.int (p:Int),.int (q:Int)]
 | .pa n=>[.str (Str.ofString "parts"),.int (n:Int)]
 | .si n p=>[.str (Str.ofString "size"),.int (n:Int),.int (p:Int)]
 | .ev n=>[.str (Str.ofString "even"),.int (n:Int)]
def Ak.n:Ak→Nat
 | .jo n _ _=>n
 | .pa n=>n
 | .si n _=>n
 | .ev n=>n
def AkOk (N L:Nat):Ak→Prop
 | .jo n p q=>n≤L∧p<N∧q<N
 | .pa n=>n≤L
 | .si n p=>n≤L∧p<N
 | .ev n=>n≤L
theorem AkOk.le {N L:Nat} {k:Ak} (h:AkOk N L k):k.n≤L:=by
 cases k<;> first|exact h|exact h.1
def AksAt (H:Hp) (rs:List Addr) (ks:List Ak):Prop:=rs.length=ks.length∧∀(i:Nat) r k,rs[i]? =some r→ks[i]? =some k→H r=some (.tup k.vs)
theorem AksAt.mono {H H':Hp} {rs:List Addr} {ks:List Ak} (h:AksAt H rs ks) (f:∀r xs,H r=some (.tup xs)→H' r=some (.tup xs)):AksAt H' rs ks:=⟨h.1,fun i r k a b=>f _ _ (h.2 i r k a b)⟩
theorem AksAt.get {H:Hp} {rs:List Addr} {ks:List Ak} (h:AksAt H rs ks) {i:Nat} {r:Addr} (hr:rs[i]? =some r):∃k,ks[i]? =some k∧H r=some (.tup k.vs):=by
 have hi:i<ks.length:=by rw [←h.1];exact (List.getElem?_eq_some_iff.mp hr).1
 exact ⟨ks[i],Cc hi,h.2 i r _ hr (Cc hi)⟩
theorem AksAt.snoc {H:Hp} {rs:List Addr} {ks:List Ak} {r:Addr} {k:Ak} (h:AksAt H rs ks) (hr:H r=some (.tup k.vs)):AksAt H (rs++[r]) (ks++[k]):=by
 refine ⟨by rw [List.length_append,List.length_append,h.1];rfl,fun i r0 p0 e1 e2=> ?_⟩
 rw [List.getElem?_append] at e1 e2
 rw [h.1] at e1
 split at e1
 ·rename_i c
  rw [if_pos c] at e2
  exact h.2 i r0 p0 e1 e2
 ·rename_i c
  rw [if_neg c] at e2
  have hz:i - ks.length=0:=by
   have:=(List.getElem?_eq_some_iff.mp e1).1
   simp only [List.length_cons,List.length_nil] at this
   omega
  rw [hz] at e1 e2
  cases e1
  cases e2
  exact hr
theorem pick5 {v:Int} (h0:0≤v) (h1:v<5) {p q r s t:V}:∃z,atI [p,q,r,s,t] v=some z∧(z=p∨z=q∨z=r∨z=s∨z=t):=by
 obtain ⟨j,rfl⟩:∃j:Nat,v=(j:Int):=⟨v.toNat,by omega⟩
 match j,h1 with
 |0,_=>exact ⟨p,rfl,.inl rfl⟩
 |1,_=>exact ⟨q,rfl,.inr (.inl rfl)⟩
 |2,_=>exact ⟨r,rfl,.inr (.inr (.inl rfl))⟩
 |3,_=>exact ⟨s,rfl,.inr (.inr (.inr (.inl rfl)))⟩
 |4,_=>exact ⟨t,rfl,.inr (.inr (.inr (.inr rfl)))⟩
def spAsks:Sp:=fun vs H Q _=>∃(a c:Addr) (N L C:Nat),vs=[.ref a,.int (N:Int),.int (L:Int),.int (C:Int)]∧DeckAt H a c∧1≤N∧N≤24∧L≤60∧C≤60∧
 ∀(r:Addr) (rs:List Addr) (ks:List Ak) (H':Hp),But a c H H'→DeckAt H' a c→H' r=some (.tup (rs.map V.ref))→AksAt H' rs ks→(∀k∈ks,AkOk N L k)→ks.length≤60→Q (.ref r) H'
theorem ixN_neg1 {n:Nat} (h:0<n):ixN n (-1)=some (n - 1):=by
 unfold ixN
 rw [if_neg (by decide),if_pos (by omega)]
 congr 1
 omega
theorem set_end {rs:List Addr} {x y:Addr}:((rs++[x]).map V.ref).set rs.length (.ref y)=(rs++[y]).map V.ref:=by simp
section
variable {P:Program} {w:World} {K:PySem.W.Frag} {mg:Str→Option Value} {base:Heap} {C I:Addr}
theorem scAsks:Ax ["_law_deck_here","_law_many","_law_last","_law_count","_law_asks_here","_law_k","_law_way","_law_n","_law_one","_law_other","_law_some"] ["_law_deck_here","_law_many","_law_last","_law_count"] (Ag sAsks):=⟨rfl,rfl,rfl,by decide+kernel,rfl,by decide+kernel,by decide+kernel⟩
theorem ok_Asks {f:Addr} {fd:FuncData} (F:Fun K "_law_asks" "_law_asks" sAsks f fd) (T:Txt K mg C I)
  {gTake:Addr} {fTake:FuncData} (kTake:PySem.W.keepIn K (.ref gTake)=true) (bTake:Binds K fTake ["_law_deck_here","_law_most"] []) (hTake:mg "_law_take"=some (.ref gTake)) (GTake:FnOk P w K mg base CX0 1 gTake fTake ["_law_deck_here","_law_most"] spTake):
  FnOk P w K mg base CX0 2 f fd ["_law_deck_here","_law_many","_law_last","_law_count"] spAsks:=by
 refine F.ok scAsks (fun vs H Q E h=> ?_) (fun cdv A outer s H vs Q E hr h=> ?_)
 ·obtain ⟨_,_,_,_,_,rfl,_⟩:=h;rfl
 ·obtain ⟨a,c,N,L,C,rfl,D0,N1,N24,L60,C60,k⟩:=h
  refine ⟨_,Af (Aq (i:=4) scAsks.nd rfl (Or.inl rfl) (Bh Ad))
   (Af (Cs PassesOwn.never rfl (Ct rfl T.range (Aa (pv 3) Ad)) (An (i:=5) scAsks.nd rfl (Or.inl rfl)) (Af (Aq (i:=6) scAsks.nd rfl (Or.inl rfl) (Al GTake hr rfl hTake kTake bTake .nil Ar (Aa (pv 0) (Aa Ae Ad))))
   (Af (Aq (i:=7) scAsks.nd rfl (Or.inl rfl) (Ap Bb (Bh (Aa (Al GTake hr rfl hTake kTake bTake .nil Ar (Aa (pv 0) (Aa (As Bl (pv 2) Ae) Ad))) (Aa (Ap Bb (Bh (Aa Ae (Aa (pv 2) Ad))) (As Co (pv 6) Ae) (fun _ _=>rfl)) Ad))) (Be call_int1 (by rfl) T.int (by decide+kernel) (Aa (Cv op_gt (pv 6) Ae (A1 _)) Ad)) (fun _ _=>rfl)))
   (Af (Aq (i:=8) scAsks.nd rfl (Or.inl rfl) (Al GTake hr rfl hTake kTake bTake .nil Ar (Aa (pv 0) (Aa (pv 1) Ad))))
   (Af (Aq (i:=9) scAsks.nd rfl (Or.inl rfl) (Al GTake hr rfl hTake kTake bTake .nil Ar (Aa (pv 0) (Aa (pv 1) Ad))))
   (Af (Aq (i:=10) scAsks.nd rfl (Or.inl rfl) (Bh (Aa (Ba (Aa Bw (Aa (pv 7) (Aa (pv 8) (Aa (pv 9) Ad))))) (Aa (Ba (Aa Bw (Aa (pv 7) Ad))) (Aa (Ba (Aa Bw (Aa (pv 7) (Aa (pv 8) Ad)))) (Aa (Ba (Aa Bw (Aa (pv 7) Ad))) (Aa (Ba (Aa Bw (Aa (pv 7) (Aa (pv 9) (Aa (pv 8) Ad))))) Ad)))))))
   (Af (Ci (pe_bm PySem.F.plainAttrs_list PySem.F.slot_list_append PySem.F.type_list_append Cf (pv 4) (Aa (Ap Bb (pv 10) (Al GTake hr rfl hTake kTake bTake .nil Ar (Aa (pv 0) (Aa Ae Ad))) (fun _ _=>rfl)) Ad)))
   (Ah (B3 (A0 By (Al GTake hr rfl hTake kTake bTake .nil Ar (Aa (pv 0) (Aa Ae Ad))) Ae (A1 _)) (Ah (ps_asg (Ap Bb (pv 4) (Al GTake hr rfl hTake kTake bTake .nil Ar (Aa (pv 0) (Aa (A8 A4 (by rfl) T.len PySem.boot_len (Aa (pv 4) Ad)) Ad))) (fun _ _=>rfl)) (pg_sub (pv 4) (pe_un un_neg Ae) set_list))) Bk)))))))))
   (Ah (Ay (Be Bc (by rfl) T.tuple (by decide+kernel) (Aa (pv 4) Ad))))),?_⟩
  refine ⟨small (by simp),fun aq haq=> ?_⟩
  have qn:=D0.ne' haq
  have s1:=Ac (o:= .lst []) haq
  have q1:=Ab (H:=H) (a:=aq) (o:= .lst [])
  generalize upd H aq (.lst [])=H1 at s1 q1
  refine ⟨_,rfl,(C:Int),rfl,by omega,by omega,for_range (lo:=0) (n:=(C:Int).toNat) (fun i σ H2=>∃(u5 u6 u7 u8 u9 u10:Option V) (rs:List Addr) (ks:List Ak),σ=[some (.ref a),some (.int (N:Int)),some (.int (L:Int)),some (.int (C:Int)),some (.ref aq),u5,u6,u7,u8,u9,u10]∧But a c H H2∧DeckAt H2 a c∧H2 aq=some (.lst (rs.map V.ref))∧AksAt H2 rs ks∧(∀k∈ks,AkOk N L k)∧ks.length=i) ⟨_,_,_,_,_,_,[],[],rfl,But.of s1,D0.same s1,q1,⟨rfl,fun i r k e=>by simp at e⟩,by simp,rfl⟩ ?_ ?_⟩
  ·rintro i σ H2 hi ⟨u5,u6,u7,u8,u9,u10,rs,ks,rfl,b2,D2,q2,A2,ok,kl⟩
   have hi:i<C:=by simpa using hi
   have rl:=A2.1
   refine ⟨_,rfl,a,c,8,rfl,D2,by decide,by decide,fun wy H3 w0 w1 b3 D3=> ?_⟩
   refine ⟨_,rfl,_,rfl,_,_,rfl,rfl,a,c,_,rfl,D3,by omega,by omega,fun x H4 x0 x1 b4 D4=> ?_⟩
   refine ⟨_,rfl,small (by simp),fun l0 hl0=> ?_⟩
   have s5:=Ac (o:= .lst [.int 0,.int (L:Int)]) hl0
   have e5:=Ab (H:=H4) (a:=l0) (o:= .lst [.int 0,.int (L:Int)])
   generalize upd H4 l0 (.lst [.int 0,.int (L:Int)])=H5 at s5 e5
   have m0:=Int.emod_nonneg wy (show (2:Int)≠0 by decide)
   have m1:=Int.emod_lt_of_pos wy (show (0:Int)<2 by decide)
   obtain ⟨y,hy,hy2⟩:=pick2 (x:=0) (y:=0) m0 m1 (p:= .int 0) (q:= .int (L:Int))
   refine ⟨_,rfl,_,_,rfl,rfl,(by show (0:Int)<2;decide),l0,_,_,_,rfl,rfl,SqL.of e5,hy,small (by simp),fun l1 hl1=> ?_⟩
   have s6:=Ac (o:= .lst [.int x,y]) hl1
   have e6:=Ab (H:=H5) (a:=l1) (o:= .lst [.int x,y])
   generalize upd H5 l1 (.lst [.int x,y])=H6 at s6 e6
   obtain ⟨nn,hnn,nL⟩:∃nn:Nat,atI [V.int x,y] (if decide ((5:Int)<wy)=true then (1:Int) else 0)=some (.int (nn:Int))∧nn≤L:=by
    by_cases g:(5:Int)<wy
    ·rw [decide_eq_true g]
     rcases hy2 with rfl|rfl
     ·exact ⟨0,rfl,by omega⟩
     ·exact ⟨L,rfl,Nat.le_refl _⟩
    ·rw [decide_eq_false g]
     obtain ⟨j,rfl⟩:=nat_of x0
     exact ⟨j,rfl,by omega⟩
   refine ⟨_,rfl,_,_,rfl,rfl,.inr ⟨_,rfl,l1,_,_,_,rfl,rfl,SqL.of e6,hnn,?_⟩⟩
   have D6:=(D4.same s5).same s6
   have B6:=((b3.trans b4).trans (But.of s5)).trans (But.of s6)
   clear e5 e6 s5 s6 b3 b4 hy hy2 hnn D3 D4
   refine ⟨_,rfl,_,rfl,a,c,(N:Int),rfl,D6,by omega,by omega,fun p H7 p0 p1 b7 D7=> ?_⟩
   refine ⟨_,rfl,_,rfl,a,c,(N:Int),rfl,D7,by omega,by omega,fun q H8 q0 q1' b8 D8=> ?_⟩
   obtain ⟨p,rfl⟩:=nat_of p0
   obtain ⟨q,rfl⟩:=nat_of q0
   have B8:=(B6.trans b7).trans b8
   refine ⟨_,rfl,_,rfl,_,rfl,small (by simp),fun t1 ht1=> ?_⟩
   have s1:=Ac (o:= .tup (Ak.jo nn p q).vs) ht1
   have e1:=Ab (H:=H8) (a:=t1) (o:= .tup (Ak.jo nn p q).vs)
   change TVarP _ _ _ _
   generalize hG1:upd H8 t1 (.tup (Ak.jo nn p q).vs)=G1 at s1 e1
   rw [show upd H8 t1 (.tup [.str (Str.ofString "joined"),.int (nn:Int),.int (p:Int),.int (q:Int)])=G1 from hG1]
   clear hG1
   refine ⟨_,rfl,small (by simp),fun t2 ht2=> ?_⟩
   have s2:=Ac (o:= .tup (Ak.pa nn).vs) ht2
   have e2:=Ab (H:=G1) (a:=t2) (o:= .tup (Ak.pa nn).vs)
   change TVarP _ _ _ _
   generalize hG2:upd G1 t2 (.tup (Ak.pa nn).vs)=G2 at s2 e2
   rw [show upd G1 t2 (.tup [.str (Str.ofString "parts"),.int (nn:Int)])=G2 from hG2]
   clear hG2
   refine ⟨_,rfl,_,rfl,small (by simp),fun t3 ht3=> ?_⟩
   have s3:=Ac (o:= .tup (Ak.si nn p).vs) ht3
   have e3:=Ab (H:=G2) (a:=t3) (o:= .tup (Ak.si nn p).vs)
   change TVarP _ _ _ _
   generalize hG3:upd G2 t3 (.tup (Ak.si nn p).vs)=G3 at s3 e3
   rw [show upd G2 t3 (.tup [.str (Str.ofString "size"),.int (nn:Int),.int (p:Int)])=G3 from hG3]
   clear hG3
   refine ⟨_,rfl,small (by simp),fun t4 ht4=> ?_⟩
   have s4:=Ac (o:= .tup (Ak.ev nn).vs) ht4
   have e4:=Ab (H:=G3) (a:=t4) (o:= .tup (Ak.ev nn).vs)
   change TVarP _ _ _ _
   generalize hG4:upd G3 t4 (.tup (Ak.ev nn).vs)=G4 at s4 e4
   rw [show upd G3 t4 (.tup [.str (Str.ofString "even"),.int (nn:Int)])=G4 from hG4]
   clear hG4
   refine ⟨_,rfl,_,rfl,_,rfl,small (by simp),fun t5 ht5=> ?_⟩
   have s5:=Ac (o:= .tup (Ak.jo nn q p).vs) ht5
   have e5:=Ab (H:=G4) (a:=t5) (o:= .tup (Ak.jo nn q p).vs)
   generalize hG5:upd G4 t5 (.tup (Ak.jo nn q p).vs)=G5 at s5 e5
   rw [show upd G4 t5 (.tup [.str (Str.ofString "joined"),.int (nn:Int),.int (q:Int),.int (p:Int)])=G5 from hG5]
   clear hG5
   refine ⟨small (by simp),fun l hl=> ?_⟩
   have s6:=Ac (o:= .lst [.ref t1,.ref t2,.ref t3,.ref t4,.ref t5]) hl
   have l6:=Ab (H:=G5) (a:=l) (o:= .lst [.ref t1,.ref t2,.ref t3,.ref t4,.ref t5])
   have sG5:=(((s1.trans s2).trans s3).trans s4).trans s5
   have ln:=(D8.same sG5).ne' hl
   have sG:=sG5.trans s6
   change TVarP _ _ _ _
   generalize upd G5 l (.lst [.ref t1,.ref t2,.ref t3,.ref t4,.ref t5])=G6 at s6 l6 sG
   have D9:=D8.same sG
   have B9:=B8.trans (But.of sG)
   have tups:∀z,(z=V.ref t1∨z=V.ref t2∨z=V.ref t3∨z=V.ref t4∨z=V.ref t5)→∃(tz:Addr) (kz:Ak),z= .ref tz∧G6 tz=some (.tup kz.vs)∧AkOk N L kz:=fun z hz=>by
    rcases hz with rfl|rfl|rfl|rfl|rfl
    ·exact ⟨t1,.jo nn p q,rfl,s6 _ _ (s5 _ _ (s4 _ _ (s3 _ _ (s2 _ _ e1)))),nL,by omega,by omega⟩
    ·exact ⟨t2,.pa nn,rfl,s6 _ _ (s5 _ _ (s4 _ _ (s3 _ _ e2))),nL⟩
    ·exact ⟨t3,.si nn p,rfl,s6 _ _ (s5 _ _ (s4 _ _ e3)),nL,by omega⟩
    ·exact ⟨t4,.ev nn,rfl,s6 _ _ (s5 _ _ e4),nL⟩
    ·exact ⟨t5,.jo nn q p,rfl,s6 _ _ e5,nL,by omega,by omega⟩
   have q9:=B9 _ _ q2 qn.1 qn.2
   have A9:=A2.mono fun r xs e=>B9.tup D2 e
   clear s1 s2 s3 s4 s5 s6 e1 e2 e3 e4 e5 sG5 sG ht1 ht2 ht3 ht4 ht5
   refine ⟨_,rfl,.inl ⟨rfl,_,SqL.of q9⟩,_,rfl,_,rfl,a,c,5,rfl,D9,by decide,by decide,fun v H10 v0 v1 b10 D10=> ?_⟩
   obtain ⟨z,hz,hz5⟩:=pick5 v0 v1 (p:= .ref t1) (q:= .ref t2) (r:= .ref t3) (s:= .ref t4) (t:= .ref t5)
   obtain ⟨tz,kz,rfl,ez,okz⟩:=tups z hz5
   have q10:=b10 _ _ q9 qn.1 qn.2
   have ez10:=b10.tup D9 ez
   have A10:=(A9.mono fun r xs e=>b10.tup D9 e).snoc ez10
   refine ⟨l,_,v,_,rfl,rfl,SqL.of (b10 _ _ l6 ln.1 ln.2),hz,aq,_,_,rfl,rfl,q10,Aw (by rw [List.length_map];omega),?_⟩
   have haq0:∀o,¬H aq=some o:=fun o e=>by rw [haq] at e;cases e
   have q11:upd H10 aq (.lst (rs.map V.ref++[.ref tz])) aq=some (.lst ((rs++[tz]).map V.ref)):=by rw [Ab,List.map_append];rfl
   have A11:AksAt (upd H10 aq (.lst (rs.map V.ref++[.ref tz]))) (rs++[tz]) (ks++[kz]):=A10.mono fun r xs e=>by rw [Ai (Ao e q10 (by intro z;cases z))];exact e
   have D11:DeckAt (upd H10 aq (.lst (rs.map V.ref++[.ref tz]))) a c:=D10.upd qn
   have B11:But a c H (upd H10 aq (.lst (rs.map V.ref++[.ref tz]))):=((b2.trans B9).trans b10).set haq
   generalize upd H10 aq (.lst (rs.map V.ref++[.ref tz]))=H11 at q11 A11 D11 B11
   have ok':∀k∈ks++[kz],AkOk N L k:=fun k hk=>by
    rcases List.mem_append.mp hk with h|h
    ·exact ok k h
    ·rw [List.mem_singleton.mp h];exact okz
   have kl':(ks++[kz]).length=i+1:=by rw [List.length_append,kl];rfl
   have rl':(rs++[tz]).length=i+1:=by rw [A11.1];exact kl'
   refine ⟨_,rfl,a,c,8,rfl,D11,by decide,by decide,fun x H12 x0 x1 b12 D12=>⟨rfl,_,rfl,Cw (fun _=> ?_) fun _=> ?_⟩⟩
   ·have q12:=b12 _ _ q11 qn.1 qn.2
    refine ⟨_,rfl,_,rfl,_,rfl,aq,_,rfl,.inl (SqL.of q12),a,c,_,rfl,D12,by rw [List.length_map,rl'];omega,by rw [List.length_map,rl'];omega,fun y H13 y0 y1 b13 D13=> ?_⟩
    rw [List.length_map,rl'] at y1
    obtain ⟨j,rfl⟩:=nat_of y0
    have q13:=b13 _ _ q12 qn.1 qn.2
    have jl:j<(rs++[tz]).length:=by omega
    have hj:=Cc jl
    have A13:=(A11.mono fun r xs e=>b12.tup D11 e).mono fun r xs e=>b13.tup D12 e
    obtain ⟨ky,hky,ey⟩:=A13.get hj
    generalize (rs++[tz])[j]=ry at hj ey
    refine ⟨aq,_,_,_,rfl,rfl,SqL.of q13,Am (by rw [List.getElem?_map,hj];rfl),?_⟩
    refine ⟨_,rfl,_,rfl,aq,_,-1,rs.length,rfl,rfl,q13,by rw [List.length_map,rl',ixN_neg1 (by omega)];congr 1;rw [List.length_append] at rl';have:rs.length+1=i+1:=rl';omega,?_⟩
    rw [set_end]
    have A13':AksAt H13 rs ks:=((A10.mono fun r xs e=>e)|> fun _=>A9.mono fun r xs e=>b10.tup D9 e)|> fun h=>⟨h.1,fun i' r k e1 e2=>A13.2 i' r k (by rw [List.getElem?_append_left (List.getElem?_eq_some_iff.mp e1).1];exact e1) (by rw [List.getElem?_append_left (List.getElem?_eq_some_iff.mp e2).1];exact e2)⟩
    have A14:=A13'.snoc ey
    refine ⟨_,_,_,_,_,_,rs++[ry],ks++[ky],rfl,((B11.trans b12).trans b13).set haq,D13.upd qn,Ab,A14.mono fun r xs e=>by rw [Ai (Ao e q13 (by intro z;cases z))];exact e,fun k hk=> ?_,by rw [List.length_append,kl];rfl⟩
    rcases List.mem_append.mp hk with h|h
    ·exact ok k h
    ·rw [List.mem_singleton.mp h];exact ok' _ (List.mem_of_getElem? hky)
   ·dsimp only [Cr]
    exact ⟨_,_,_,_,_,_,rs++[tz],ks++[kz],rfl,B11.trans b12,D12,b12 _ _ q11 qn.1 qn.2,A11.mono fun r xs e=>b12.tup D11 e,ok',kl'⟩
  ·rintro σ H2 ⟨u5,u6,u7,u8,u9,u10,rs,ks,rfl,b2,D2,q2,A2,ok,kl⟩
   exact ⟨_,rfl,aq,_,rfl,.inl ⟨SqL.of q2,fun r hr'=>k r rs ks _ (b2.trans (But.of (Ac hr'))) (D2.same (Ac hr')) Ab (A2.mono fun b xs e=>Ac hr' _ _ e) ok (by rw [kl];simpa using C60)⟩⟩
end
end K28
namespace K28
open PySem L2 Wk
def StandAt (H:Hp) (st:Addr) (S:List T4):Prop:=∃rs:List Addr,H st=some (.tup (rs.map V.ref))∧TiesAt H rs S
theorem StandAt.same {H H':Hp} {st:Addr} {S:List T4} (h:StandAt H st S) (s:Same H H'):StandAt H' st S:=let ⟨rs,a,b⟩:=h;⟨rs,s _ _ a,b.same s⟩
inductive SpBesideP (vs:List V) (H:Hp) (Q:VK) (u_3:XK):Prop
 |mk (N:Nat) (st:Addr) (S:List T4):(vs=[.int (N:Int),.ref st])→(StandAt H st S)→(InN N S)→(N≤60)→(S.length≤100)→(∀b H',Same H H'→BesAt H' b N (Br S)→Q (.ref b) H')→SpBesideP vs H Q u_3
def spBeside:Sp:=fun vs H Q u_3=>SpBesideP vs H Q u_3
inductive SpWaysP (vs:List V) (H:Hp) (Q:VK) (u_3:XK):Prop
 |mk (N:Nat) (st:Addr) (S:List T4) (p:Nat):(vs=[.int (N:Int),.ref st,.int (p:Int)])→(StandAt H st S)→(InN N S)→(N≤60)→(S.length≤100)→(p<N)→(∀a H',Same H H'→WaysAt H' a (waysF N S p)→Q (.ref a) H')→SpWaysP vs H Q u_3
def spWays:Sp:=fun vs H Q u_3=>SpWaysP vs H Q u_3
inductive SpPartP (vs:List V) (H:Hp) (Q:VK) (u_3:XK):Prop
 |mk (N:Nat) (st:Addr) (S:List T4) (p:Nat):(vs=[.int (N:Int),.ref st,.int (p:Int)])→(StandAt H st S)→(InN N S)→(N≤60)→(S.length≤100)→(p<N)→(∀a H',Same H H'→H' a=some (.tup (((Bd N S p).map Int.ofNat).map V.int))→Q (.ref a) H')→SpPartP vs H Q u_3
def spPart:Sp:=fun vs H Q u_3=>SpPartP vs H Q u_3
inductive SpJoinedP (vs:List V) (H:Hp) (Q:VK) (u_3:XK):Prop
 |mk (N:Nat) (st:Addr) (S:List T4) (p q:Nat):(vs=[.int (N:Int),.ref st,.int (p:Int),.int (q:Int)])→(StandAt H st S)→(InN N S)→(N≤60)→(S.length≤100)→(p<N)→(∀H',Same H H'→Q (.bl (decide (q∈Bd N S p))) H')→SpJoinedP vs H Q u_3
def spJoined:Sp:=fun vs H Q u_3=>SpJoinedP vs H Q u_3
section
variable {P:Program} {w:World} {K:PySem.W.Frag} {mg:Str→Option Value} {base:Heap} {C I:Addr}
theorem scBeside:Ax ["many","stand","beside","name","one","other","weight"] ["many","stand"] (Ag sBeside):=⟨rfl,rfl,rfl,by decide+kernel,rfl,by decide+kernel,by decide+kernel⟩
theorem ok_Beside {f:Addr} {fd:FuncData} (F:Fun K "beside_of" "beside_of" sBeside f fd) (T:Txt K mg C I):
  FnOk P w K mg base CX0 1 f fd ["many","stand"] spBeside:=by
 refine F.ok scBeside (fun vs H Q E h=> ?_) (fun cdv A outer s H vs Q E hr h=> ?_)
 ·obtain ⟨_,_,_,rfl,_⟩:=h;rfl
 ·obtain ⟨N,st,S,rfl,⟨rs,hst,hrs⟩,hN,N60,S100,k⟩:=h
  refine ⟨_,Af (ps_comp (i:=2) (T:=["place"]) (F:=[]) (js:=[]) scBeside.nd rfl (Or.inl rfl) (CS.to (osc:=Ag sBeside) ⟨by rfl,by decide+kernel,by decide+kernel,by decide+kernel,by decide+kernel,by decide+kernel,by decide+kernel⟩ rfl rfl) rfl (Ct rfl T.range (Aa (pv 0) Ad)) (fun _ _ _ _ _=>An (i:=0) (show (["place"]:List Str).Nodup by decide+kernel) rfl (Or.inl rfl)) (fun _ _ _ _ _=>C4) (fun _ _ _ _ _=>Bh Ad))
   (Af (Cs PassesOwn.never rfl (pi_tup (pv 1)) (pg_tup rfl (At (An (i:=3) scBeside.nd rfl (Or.inl rfl)) (At (An (i:=4) scBeside.nd rfl (Or.inl rfl)) (At (An (i:=5) scBeside.nd rfl (Or.inl rfl)) (At (An (i:=6) scBeside.nd rfl (Or.inl rfl)) Bu))))) (Af (Ci (pe_bm PySem.F.plainAttrs_list PySem.F.slot_list_append PySem.F.type_list_append Cf (Ap Bb (pv 2) (pv 4) (fun _ _=>rfl)) (Aa (Ba (Aa (pv 3) (Aa (pv 5) Ad))) Ad)))
   (Ah (Ci (pe_bm PySem.F.plainAttrs_list PySem.F.slot_list_append PySem.F.type_list_append Cf (Ap Bb (pv 2) (pv 5) (fun _ _=>rfl)) (Aa (Ba (Aa (pv 3) (Aa (pv 4) Ad))) Ad))))))
   (Ah (Ay (pv 2)))),?_⟩
  refine ⟨_,rfl,(N:Int),rfl,by omega,by omega,fun D hD=>comp_range (lo:=0) (n:=(N:Int).toNat) (fun j σ ys H2=>∃(u:Option V) (ls:List Addr),σ=[u]∧ys=ls.map V.ref∧Same H H2∧H2 D=some (.lst ys)∧ls.length=j∧ls.Nodup∧∀l∈ls,H l=none∧l≠D∧H2 l=some (.lst [])) ⟨none,[],rfl,rfl,Ac hD,Ab,rfl,List.nodup_nil,by simp⟩ (fun j σ ys H2 _ ⟨_,_,_,_,_,e,_⟩=>e) ?_ ?_⟩
  ·intro j σ ys H2 hj hI5_
   refine Cg fun G_ hG_=> ?_
   obtain ⟨u,ls,rfl,rfl,s2,d2,ll,nd,hl⟩:=hI5_
   have hj:j<N:=by simpa using hj
   refine hG_ ?_
   refine ⟨small (by simp),fun p hp=> ?_⟩
   have pD:p≠D:=(Aj d2 hp).symm
   refine ⟨by rw [Ai pD.symm];exact d2,Aw (by simp;omega),_,ls++[p],rfl,by rw [List.map_append];rfl,Bi (s2.trans (Ac hp)) hD,Ab,by simp [ll],?_,fun l hl'=> ?_⟩
   ·refine List.nodup_append.mpr ⟨nd,List.nodup_cons.mpr ⟨by simp,List.nodup_nil⟩,fun x hx y hy=> ?_⟩
    rw [List.mem_singleton.mp hy]
    exact Aj (hl x hx).2.2 hp
   ·rcases List.mem_append.mp hl' with q|q
    ·obtain ⟨h1,h2,h3⟩:=hl l q
     exact ⟨h1,h2,by rw [Ai h2,Ai (Aj h3 hp)];exact h3⟩
    ·rw [List.mem_singleton.mp q]
     exact ⟨none_of s2 hp,pD,by rw [Ai pD];exact Ab⟩
  intro σ ys H2 hI3_
  refine Cg fun G_ hG_=> ?_
  obtain ⟨u,ls,rfl,rfl,s2,d2,ll,nd,hl⟩:=hI3_
  have ll:ls.length=N:=by simpa using ll
  have B0:Bes H H2 D ls N (Br []):=⟨s2,d2,ll,nd,fun l h=>⟨(hl l h).1,(hl l h).2.1⟩,fun v l h=>⟨[],(hl l (List.mem_of_getElem? h)).2.2,rfl,fun i r q e=>(by simp at e)⟩⟩
  refine hG_ ?_
  refine ⟨_,rfl,st,rfl,⟨_,SqT.of (s2 _ _ hst)⟩,for_tupL (K:=K) (a:=st) (xs:=rs.map V.ref) (fun i σ H3=>∃(u3 u4 u5 u6:Option V),σ=[some (.int (N:Int)),some (.ref st),some (.ref D),u3,u4,u5,u6]∧Bes H H3 D ls N (Br (S.take i))) ⟨_,_,_,_,rfl,B0⟩ (fun i σ H3 _ ⟨_,_,_,_,_,B⟩=>SqT.of (B.same _ _ hst)) ?_ ?_⟩
  ·intro i x σ H3 hx hI5_ E_
   refine Cg fun G_ hG_=> ?_
   obtain ⟨u3,u4,u5,u6,rfl,B⟩:=hI5_
   obtain ⟨r,hr',rfl⟩:=map_some hx
   obtain ⟨t,ht,er⟩:=hrs.get hr'
   have er3:=B.same _ _ er
   have tN:=hN t (List.mem_of_getElem? ht)
   have h1:t.2.1<ls.length:=by omega
   have h2:t.2.2.1<ls.length:=by omega
   have tk:S.take (i+1)=S.take i++[t]:=by rw [List.take_add_one,ht];rfl
   have nl:∀v,(Br (S.take i) v).length≤200:=fun v=>Nat.le_trans (nbrs_len _ _) (by rw [List.length_take];omega)
   have l1:=Cc h1
   have l2:=Cc h2
   obtain ⟨rs1,e1,n1,_⟩:=B.prs _ _ l1
   refine hG_ ?_
   refine ⟨r,_,rfl,SqT.of er3,rfl,_,_,rfl,_,_,rfl,_,_,rfl,_,_,rfl,rfl,?_⟩
   refine ⟨_,rfl,_,rfl,D,_,_,.ref ls[t.2.1],rfl,rfl,SqL.of B.hb,Am (by rw [List.getElem?_map,l1];rfl),.inl ⟨rfl,_,SqL.of e1⟩,_,rfl,_,rfl,small (by simp),fun p hp=> ?_⟩
   refine ⟨_,_,_,rfl,rfl,Ac hp _ _ e1,Aw (by rw [List.length_map];have:=nl t.2.1;omega),?_⟩
   have B1:=B.app (n:=t.1) (u:=t.2.2.1) l1 hp e1
   generalize upd (upd H3 p _) _ _=H4 at B1
   obtain ⟨rs2,e2,n2,_⟩:=B1.prs _ _ l2
   refine ⟨_,rfl,_,rfl,D,_,_,.ref ls[t.2.2.1],rfl,rfl,SqL.of B1.hb,Am (by rw [List.getElem?_map,l2];rfl),.inl ⟨rfl,_,SqL.of e2⟩,_,rfl,_,rfl,small (by simp),fun p' hp'=> ?_⟩
   have n3:rs2.length≤201:=by
    rw [n2]
    split
    ·rw [List.length_append];have:=nl t.2.1;simp only [List.length_cons,List.length_nil];exact Nat.lt_of_le_of_lt (by assumption) (by decide)
    ·have:=nl t.2.2.1;exact Nat.le_trans (by assumption) (by decide)
   refine ⟨_,_,_,rfl,rfl,Ac hp' _ _ e2,Aw (by rw [List.length_map];exact Nat.le_trans (by assumption) (by decide)),_,_,_,_,rfl,?_⟩
   have B2:=B1.app (n:=t.1) (u:=t.2.1) l2 hp' e2
   rw [nb_two,←tk] at B2
   exact B2
  ·intro σ H3 hI2_
   refine Cg fun G_ hG_=> ?_
   obtain ⟨u3,u4,u5,u6,rfl,B⟩:=hI2_
   refine hG_ ?_
   rw [List.length_map,hrs.1,List.take_length] at B
   exact ⟨_,rfl,k D H3 B.same ⟨ls,B.hb,B.len,B.prs⟩⟩
theorem scWays:Ax ["many","stand","place","beside","ways","waiting","here","name","there"] ["many","stand","place"] (Ag sWays):=⟨rfl,rfl,rfl,by decide+kernel,rfl,by decide+kernel,by decide+kernel⟩
theorem ok_Ways {f:Addr} {fd:FuncData} (F:Fun K "ways_from" "ways_from" sWays f fd) (T:Txt K mg C I)
  {gBeside:Addr} {fBeside:FuncData} (kBeside:PySem.W.keepIn K (.ref gBeside)=true) (bBeside:Binds K fBeside ["many","stand"] []) (hBeside:mg "beside_of"=some (.ref gBeside)) (GBeside:FnOk P w K mg base CX0 1 gBeside fBeside ["many","stand"] spBeside):
  FnOk P w K mg base CX0 2 f fd ["many","stand","place"] spWays:=by
 refine F.ok scWays (fun vs H Q E h=> ?_) (fun cdv A outer s H vs Q E hr h=> ?_)
 ·obtain ⟨_,_,_,_,rfl,_⟩:=h;rfl
 ·obtain ⟨N,st,S,p,rfl,hst,hN,N60,S100,pN,k⟩:=h
  refine ⟨_,Af (Aq (i:=3) scWays.nd rfl (Or.inl rfl) (Al GBeside hr rfl hBeside kBeside bBeside .nil Ar (Aa (pv 0) (Aa (pv 1) Ad))))
   (Af (Aq (i:=4) scWays.nd rfl (Or.inl rfl) (As op_rep (Bh (Aa pe_non Ad)) (pv 0)))
   (Af (ps_asg (Ba Ad) (pg_sub (pv 4) (pv 2) set_list))
   (Af (Aq (i:=5) scWays.nd rfl (Or.inl rfl) (Bh (Aa (pv 2) Ad)))
   (Af (ps_while PassesOwn.never (pt_truth (pv 5) (fun _=>rfl)) (Af (Aq (i:=6) scWays.nd rfl (Or.inl rfl) (pe_bm PySem.F.plainAttrs_list PySem.F.slot_list_pop PySem.F.type_list_pop mt_popAt (pv 5) (Aa Ae Ad)))
   (Ah (Cs PassesOwn.never rfl (pi_list (Ap Bb (pv 3) (pv 6) (fun _ _=>rfl))) (pg_tup rfl (At (An (i:=7) scWays.nd rfl (Or.inl rfl)) (At (An (i:=8) scWays.nd rfl (Or.inl rfl)) Bu))) (Ah (B3 (A0 op_isN (Ap Bb (pv 4) (pv 8) (fun _ _=>rfl)) pe_non (A1 _)) (Af (ps_asg (As op_catTT (Ap Bb (pv 4) (pv 6) (fun _ _=>rfl)) (Ba (Aa (pv 7) Ad))) (pg_sub (pv 4) (pv 8) set_list))
   (Ah (Ci (pe_bm PySem.F.plainAttrs_list PySem.F.slot_list_append PySem.F.type_list_append Cf (pv 5) (Aa (pv 8) Ad))))) Bk))))))
   (Ah (Ay (pv 4))))))),?_⟩
  refine ⟨_,rfl,_,rfl,N,st,S,rfl,hst,hN,N60,S100,fun b H1 s1 hb=> ?_⟩
  refine ⟨small (by simp),fun q hq=>⟨_,rfl,q,_,_,rfl,rfl,Ab,by omega,by omega,small (by simp only [List.length_cons,List.length_nil];omega),fun ws hws=> ?_⟩⟩
  have fl:(List.replicate (N:Int).toNat [V.non]).flatten=List.replicate N V.non:=by rw [List.flatten_replicate_singleton];rfl
  rw [fl]
  have s2:=(Ac (H:=H1) (o:= .lst [.non]) hq).trans (Ac (o:= .lst (List.replicate N V.non)) hws)
  have nw:H1 ws=none:=none_of (Ac (H:=H1) (o:= .lst [.non]) hq) hws
  have e2:=Ab (H:=upd H1 q (.lst [.non])) (a:=ws) (o:= .lst (List.replicate N V.non))
  generalize upd (upd H1 q (.lst [.non])) ws (.lst (List.replicate N V.non))=H2 at s2 e2
  have W2:WaysAt H2 ws (List.replicate N none):=⟨_,e2,by simp,fun i x o hx ho=>by
   rw [List.getElem?_replicate] at hx ho
   split at hx
   ·rename_i hi
    rw [if_pos hi] at ho
    cases hx
    cases ho
    rfl
   ·cases hx⟩
  refine ⟨small (by simp),fun e he=> ?_⟩
  have s3:=Ac (o:= .tup []) he
  have W3:=W2.same s3
  have e3:=s3 _ _ e2
  have t3:=Ab (H:=H2) (a:=e) (o:= .tup [])
  generalize upd H2 e (.tup [])=H3 at s3 W3 e3 t3
  have W4:WaysAt (upd H3 ws (.lst ((List.replicate N V.non).set p (.ref e)))) ws (Ca N p).1:=WaysAt.set (w:=[]) W3 e3 t3
  have s4:Same H1 (upd H3 ws (.lst ((List.replicate N V.non).set p (.ref e)))):=Bi (s2.trans s3) nw
  refine ⟨_,rfl,_,rfl,ws,_,_,p,rfl,rfl,e3,(by have h:ixN (List.replicate N V.non).length (p:Int)=some p:=ixN_nat (by simpa using pN);exact h),?_⟩
  generalize upd H3 ws _=H4 at W4 s4
  refine ⟨_,rfl,small (by simp),fun wt hwt=> ?_⟩
  have s5:=s4.trans (Ac (o:= .lst [.int (p:Int)]) hwt)
  have nt:H1 wt=none:=none_of s4 hwt
  have W5:=W4.same (Ac (o:= .lst [.int (p:Int)]) hwt)
  have t5:=Ab (H:=H4) (a:=wt) (o:= .lst [.int (p:Int)])
  have wwt:ws≠wt:=by obtain ⟨xs,hx,_⟩:=W4;exact Aj hx hwt
  generalize upd H4 wt (.lst [.int (p:Int)])=H5 at s5 W5 t5
  dsimp only [gName,tSeq]
  refine while_ghH (fun m σ H6=>∃(i:Nat) (u6 u7 u8:Option V) (wl:Ws) (tl:List Nat),σ=[some (.int (N:Int)),some (.ref st),some (.int (p:Int)),some (.ref b),some (.ref ws),some (.ref wt),u6,u7,u8]∧Same H1 H6∧H6 wt=some (.lst ((tl.map Int.ofNat).map V.int))∧WaysAt H6 ws wl∧iter S i (Ca N p)=(wl,tl)∧BInv S N p (wl,tl)∧m=Cq wl+tl.length∧i+m≤64∧tl.length≤64∧∀v x,Wk.Vis wl v x→x.length≤i)
   (m0:=Cq (Ca N p).1+1) ⟨0,_,_,_,(Ca N p).1,[p],rfl,s5,t5,W5,rfl,binv0 pN,rfl,?_,by simp,fun v x q=>by rw [binit_vis pN q];simp⟩ ?_ ?_
  ·have:Cq (Ca N p).1≤(Ca N p).1.length:=List.countP_le_length
   simp only [Ca,List.length_set,List.length_replicate] at this ⊢
   omega
  ·intro m σ H6 hI3_ E6 hE6 _
   refine Cg fun G_ hG_=> ?_
   obtain ⟨i,u6,u7,u8,wl,tl,rfl,s6,t6,W6,it6,I6,hm,hi,tl6,sh6⟩:=hI3_
   refine hG_ ?_
   refine ⟨_,rfl,_,.inl ⟨_,SqL.of t6,rfl⟩,?_⟩
   cases tl with
   |nil=>
    refine C3 ?_
    rw [←ways_of it6 (by omega)] at W6
    exact ⟨_,rfl,k ws H6 (s1.trans s6) W6⟩
   |cons h rest=>
    refine iteT ?_
    obtain ⟨w0,hv0,J⟩:=pinv_of I6
    have hh:h<N:=by have:=(List.getElem?_eq_some_iff.mp hv0).1;rw [←I6.len];exact this
    refine ⟨_,rfl,.inl ⟨rfl,_,SqL.of t6⟩,wt,_,0,0,.int (h:Int),rfl,rfl,t6,by decide,by decide,by simp [seqIndex?],rfl,?_⟩
    have W7:=W6.keep (zs:=(rest.map Int.ofNat).map V.int) t6 wwt
    have s7:Same H1 (upd H6 wt (.lst ((rest.map Int.ofNat).map V.int))):=Bi s6 nt
    have t7:=Ab (H:=H6) (a:=wt) (o:= .lst ((rest.map Int.ofNat).map V.int))
    have eH:upd H6 wt (.lst (List.eraseIdx (List.map V.int (List.map Int.ofNat (h::rest))) 0))=upd H6 wt (.lst ((rest.map Int.ofNat).map V.int)):=rfl
    rw [eH]
    generalize upd H6 wt (.lst ((rest.map Int.ofNat).map V.int))=H7 at W7 s7 t7
    obtain ⟨ls,hls,lls,hpr⟩:=hb.same s7
    have hl:=Cc (l:=ls) (i:=h) (by omega)
    obtain ⟨rs,er,lr,hr3⟩:=hpr h _ hl
    have w0len:w0.length≤64:=by have:=sh6 h w0 hv0;omega
    refine ⟨_,rfl,_,rfl,b,_,_,.ref ls[h],rfl,rfl,SqL.of hls,Am (by rw [List.getElem?_map,hl];rfl),_,rfl,⟨_,SqL.of er⟩,?_⟩
    have key:∀H8,Same H1 H8→H8 ls[h]=some (.lst (rs.map V.ref))∧∀(i:Nat) r q,rs[i]? =some r→(Br S h)[i]? =some q→H8 r=some (.tup [.str q.1,.int (q.2:Int)]):=by
     intro H8 s8
     obtain ⟨ls',hls',_,hpr'⟩:=hb
     have e1:ls'=ls:=by
      have:=s7 _ _ hls'
      rw [hls] at this
      injection this with this
      injection this with this
      exact (refs_inj this).symm
     subst e1
     obtain ⟨rs',er',lr',hr'⟩:=hpr' h _ hl
     have e2:rs'=rs:=by
      have:=s7 _ _ er'
      rw [er] at this
      injection this with this
      injection this with this
      exact (refs_inj this).symm
     subst e2
     exact ⟨s8 _ _ er',fun i r q e f=>s8 _ _ (hr' i r q e f)⟩
    refine for_listH (K:=K) (a:=ls[h]) (xs:=rs.map V.ref) (fun j σ H8=>∃(u7 u8:Option V),σ=[some (.int (N:Int)),some (.ref st),some (.int (p:Int)),some (.ref b),some (.ref ws),some (.ref wt),some (.int (h:Int)),u7,u8]∧Same H1 H8∧H8 wt=some (.lst (((Bt w0 ((Br S h).take j) (wl,rest)).2.map Int.ofNat).map V.int))∧WaysAt H8 ws (Bt w0 ((Br S h).take j) (wl,rest)).1)
     ⟨_,_,rfl,s7,t7,W7⟩ (fun j σ H8 _ ⟨_,_,_,s8,_⟩=>SqL.of (key H8 s8).1) ?_ ?_
    ·intro j x σ H8 hx hI5_ E8 hE8 _
     refine Cg fun G_ hG_=> ?_
     obtain ⟨u7',u8',rfl,s8,t8,W8⟩:=hI5_
     obtain ⟨r,hr',rfl⟩:=map_some hx
     have hj:j<(Br S h).length:=by rw [←lr];exact (List.getElem?_eq_some_iff.mp hr').1
     have hq:=Cc hj
     have er8:=(key H8 s8).2 j r _ hr' hq
     have tk:(Br S h).take (j+1)=(Br S h).take j++[(Br S h)[j]]:=by rw [List.take_add_one,hq];rfl
     have qN:((Br S h)[j]).2<N:=nb_lt hN (List.getElem_mem hj)
     have jl:j<201:=by have:=nbrs_len S h;omega
     obtain ⟨vl1,vl2⟩:=visit_len w0 ((Br S h).take j) (wl,rest)
     have vh:=visit_vis w0 ((Br S h).take j) (wl,rest) hv0
     refine hG_ ?_
     rw [tk,visit_snoc] at hE8
     generalize (Br S h)[j]=q at er8 qN hE8
     generalize Bt w0 ((Br S h).take j) (wl,rest)=st' at *
     obtain ⟨wl',tl'⟩:=st'
     dsimp only at *
     have qw:q.2<wl'.length:=by rw [vl1];show _<wl.length;rw [I6.len];exact qN
     refine ⟨r,_,rfl,SqT.of er8,rfl,_,_,rfl,_,_,rfl,rfl,?_⟩
     obtain ⟨xs,x,hxs,hx',lxs,hxo⟩:=W8.get (Cc qw)
     refine ⟨_,rfl,_,rfl,ws,_,_,x,rfl,rfl,SqL.of hxs,Am hx',rfl,_,rfl,?_⟩
     cases ho:wl'[q.2] with
     |some z=>
      rw [ho] at hxo
      obtain ⟨rz,rfl,_⟩:=hxo
      rw [vis1_no (by dsimp only;rw [Cc qw,ho];simp)] at hE8
      refine Cw (fun g=>absurd g (by simp)) fun _=> ?_
      exact hE8 _ _ ⟨_,_,rfl,s8,t8,W8⟩
     |none=>
      rw [ho] at hxo
      have hxo:x= .non:=hxo
      subst hxo
      rw [vis1_yes (by dsimp only;rw [Cc qw,ho])] at hE8
      refine Cw (fun _=> ?_) fun g=>absurd (by simp) g
      obtain ⟨xs2,x2,hxs2,hx2,_,hxo2⟩:=W8.get vh
      obtain ⟨r0,rfl,er0⟩:=hxo2
      rw [hxs] at hxs2
      injection hxs2 with hxs2
      injection hxs2 with hxs2
      subst hxs2
      have tl9:((tl'.map Int.ofNat).map V.int).length≤1000:=by
       simp only [List.length_map,List.length_take,List.length_cons] at vl2 tl6 ⊢
       omega
      refine ⟨_,rfl,_,rfl,ws,_,_,.ref r0,rfl,rfl,SqL.of hxs,Am hx2,_,rfl,small (by simp),fun p1 hp1=> ?_⟩
      have s9:=Ac (o:= .tup [.str q.1]) hp1
      have p9:=Ab (H:=H8) (a:=p1) (o:= .tup [.str q.1])
      have w9:w0.length≤100:=by
       have:=(J.ht h w0 J.hv);have:=w0len;exact Nat.le_trans (by assumption) (by decide)
      generalize upd H8 p1 (.tup [.str q.1])=H9 at s9 p9
      refine ⟨r0,p1,_,_,rfl,rfl,SqT.of (s9 _ _ er0),SqT.of p9,small (by simp;exact Nat.le_trans (by assumption) (by decide)),fun e=> ?_,fun _ e=>absurd e (by simp),fun _ _ p2 hp2=> ?_⟩
      ·have e0:w0=[]:=by simpa using e
       have e9:H9 p1=some (.tup ((w0++[q.1]).map V.str)):=by rw [e0];exact p9
       have hxs9:=s9 _ _ hxs
       have W9:=(W8.same s9).set (u:=q.2) hxs9 e9
       have t9:=s9 _ _ t8
       refine ⟨_,rfl,_,rfl,ws,_,_,q.2,rfl,rfl,hxs9,ixN_nat (by omega),?_⟩
       have s10:Same H1 (upd H9 ws (.lst (xs.set q.2 (.ref p1)))):=Bi (s8.trans s9) nw
       have t10:upd H9 ws (.lst (xs.set q.2 (.ref p1))) wt=some (.lst ((tl'.map Int.ofNat).map V.int)):=by rw [Ai wwt.symm];exact t9
       generalize upd H9 ws (.lst (xs.set q.2 (.ref p1)))=H10 at W9 s10 t10
       refine ⟨_,rfl,.inl ⟨rfl,_,SqL.of t10⟩,_,rfl,wt,_,_,rfl,rfl,t10,Aw tl9,hE8 _ _ ⟨_,_,rfl,Bi s10 nt,?_,W9.keep t10 wwt⟩⟩
       rw [Ab,List.map_append,List.map_append];rfl
      ·have e9:upd H9 p2 (.tup (w0.map V.str++[.str q.1])) p2=some (.tup ((w0++[q.1]).map V.str)):=by rw [Ab,List.map_append];rfl
       have s9:=s9.trans (Ac (o:= .tup (w0.map V.str++[.str q.1])) hp2)
       generalize upd H9 p2 (.tup (w0.map V.str++[.str q.1]))=H9 at s9 e9
       have hxs9:=s9 _ _ hxs
       have W9:=(W8.same s9).set (u:=q.2) hxs9 e9
       have t9:=s9 _ _ t8
       refine ⟨_,rfl,_,rfl,ws,_,_,q.2,rfl,rfl,hxs9,ixN_nat (by omega),?_⟩
       have s10:Same H1 (upd H9 ws (.lst (xs.set q.2 (.ref p2)))):=Bi (s8.trans s9) nw
       have t10:upd H9 ws (.lst (xs.set q.2 (.ref p2))) wt=some (.lst ((tl'.map Int.ofNat).map V.int)):=by rw [Ai wwt.symm];exact t9
       generalize upd H9 ws (.lst (xs.set q.2 (.ref p2)))=H10 at W9 s10 t10
       refine ⟨_,rfl,.inl ⟨rfl,_,SqL.of t10⟩,_,rfl,wt,_,_,rfl,rfl,t10,Aw tl9,hE8 _ _ ⟨_,_,rfl,Bi s10 nt,?_,W9.keep t10 wwt⟩⟩
       rw [Ab,List.map_append,List.map_append];rfl
    ·intro σ H8 hI2_
     refine Cg fun G_ hG_=> ?_
     obtain ⟨u7',u8',rfl,s8,t8,W8⟩:=hI2_
     refine hG_ ?_
     rw [List.length_map,lr,List.take_length] at t8 W8
     have eb:bstep S (wl,h::rest)=Bt w0 (Br S h) (wl,rest):=by
      show Bt ((wl[h]?.join).getD []) (Br S h) (wl,rest)=_
      unfold Wk.Vis at hv0
      rw [hv0];rfl
     obtain ⟨I8,m8⟩:=bstep_ok hN I6
     have sh8:=bstep_short hN I6 sh6
     have it8:iter S (i+1) (Ca N p)=Bt w0 (Br S h) (wl,rest):=by rw [iter_snoc,it6,eb]
     rw [eb] at I8 m8 sh8
     generalize Bt w0 (Br S h) (wl,rest)=st' at *
     obtain ⟨wl',tl'⟩:=st'
     dsimp only at *
     refine hE6 (Cq wl'+tl'.length) _ _ (by omega) ⟨i+1,_,_,_,wl',tl',rfl,s8,t8,W8,it8,I8,rfl,by omega,by omega,sh8⟩
  ·intro σ H6 Q Q' f hI5_
   refine Cg fun G_ hG_=> ?_
   obtain ⟨v,e,b',h',q⟩:=hI5_
   refine hG_ ?_
   exact ⟨v,e,b',h',f _ _ q⟩
theorem scPart:Ax ["many","stand","place","ways"] ["many","stand","place"] (Ag sPart):=⟨rfl,rfl,rfl,by decide+kernel,rfl,by decide+kernel,by decide+kernel⟩
theorem ok_Part {f:Addr} {fd:FuncData} (F:Fun K "part_of" "part_of" sPart f fd) (T:Txt K mg C I)
  {gWays:Addr} {fWays:FuncData} (kWays:PySem.W.keepIn K (.ref gWays)=true) (bWays:Binds K fWays ["many","stand","place"] []) (hWays:mg "ways_from"=some (.ref gWays)) (GWays:FnOk P w K mg base CX0 2 gWays fWays ["many","stand","place"] spWays):
  FnOk P w K mg base CX0 3 f fd ["many","stand","place"] spPart:=by
 refine F.ok scPart (fun vs H Q E h=> ?_) (fun cdv A outer s H vs Q E hr h=> ?_)
 ·obtain ⟨_,_,_,_,rfl,_⟩:=h;rfl
 ·obtain ⟨N,st,S,p,rfl,hst,hN,N60,S100,pN,k⟩:=h
  refine ⟨_,Af (Aq (i:=3) scPart.nd rfl (Or.inr rfl) (Al GWays hr rfl hWays kWays bWays .nil Ar (Aa (pv 0) (Aa (pv 1) (Aa (pv 2) Ad)))))
   (Ah (Ay (Be Bc (by rfl) T.tuple (by decide+kernel) (Aa (C5 (T:=["there"]) (F:=["ways"]) (js:=[3]) (CS.to (osc:=Ag sPart) ⟨by rfl,by decide+kernel,by decide+kernel,by decide+kernel,by decide+kernel,by decide+kernel,by decide+kernel⟩ rfl rfl) rfl (Ct rfl T.range (Aa (pv 0) Ad)) (fun _ _ _ _ _=>An (i:=0) (show (["there","ways"]:List Str).Nodup by decide+kernel) rfl (Or.inl rfl)) (fun _ _ _ _ _=>pif_one (A0 op_notN (Ap (r:=rIxL K) Bb (pv 1) (pv 0) (fun _ _=>rfl)) pe_non (A1 _))) (fun _ _ _ _ _=>pv 0)) Ad)))),?_⟩
  refine ⟨_,rfl,_,rfl,_,rfl,N,st,S,p,rfl,hst,hN,N60,S100,pN,fun a H1 s1 W1=> ?_⟩
  have wl:=ways_len hN pN N60
  refine ⟨_,rfl,(N:Int),rfl,by omega,by omega,fun D hD=>comp_range (lo:=0) (n:=(N:Int).toNat) (fun j σ ys H2=>∃(u:Option V),σ=[u,some (.ref a)]∧ys=((((List.range j).filter fun v=>((waysF N S p)[v]?.join).isSome).map Int.ofNat).map V.int)∧H2=upd H1 D (.lst ys)) ⟨none,rfl,rfl,rfl⟩ (fun j σ ys H2 _ ⟨_,_,_,e⟩=>by rw [e];exact Ab) ?_ ?_⟩
  ·intro j σ ys H2 hj hI5_
   refine Cg fun G_ hG_=> ?_
   obtain ⟨u,rfl,rfl,rfl⟩:=hI5_
   have hj:j<N:=by simpa using hj
   have hjw:j<(waysF N S p).length:=by omega
   obtain ⟨xs,x,hxs,hx,lx,hxo⟩:=(W1.same (Ac (o:= .lst ((((List.range j).filter fun v=>((waysF N S p)[v]?.join).isSome).map Int.ofNat).map V.int)) hD)).get (Cc hjw)
   refine hG_ ?_
   refine ⟨_,rfl,_,rfl,a,_,_,x,rfl,rfl,SqL.of hxs,by rw [Int.zero_add];exact Am hx,rfl,_,rfl,?_⟩
   have lf:((List.range j).filter fun v=>((waysF N S p)[v]?.join).isSome).length≤60:=Nat.le_trans (List.length_filter_le _ _) (by rw [List.length_range];omega)
   cases ho:(waysF N S p)[j] with
   |none=>
    rw [ho] at hxo
    have hxo:x= .non:=hxo
    subst hxo
    refine Cw (fun g=>absurd g (by simp)) fun _=>⟨_,rfl,?_,?_⟩
    ·rw [List.range_succ,List.filter_append];simp [Cc hjw,ho]
    ·rfl
   |some z=>
    rw [ho] at hxo
    obtain ⟨r,rfl,_⟩:=hxo
    refine Cw (fun _=>⟨_,rfl,Ab,Aw (by simp only [List.length_map];exact Nat.le_trans (by assumption) (by decide)),_,rfl,?_,by rw [upd_upd]⟩) fun g=>absurd (by simp) g
    rw [List.range_succ,List.filter_append,List.map_append,List.map_append]
    simp [Cc hjw,ho]
  ·intro σ ys H2 hI3_
   refine Cg fun G_ hG_=> ?_
   obtain ⟨u,rfl,rfl,rfl⟩:=hI3_
   refine hG_ ?_
   exact ⟨D,_,rfl,.inl ⟨SqL.of Ab,fun l hl=>k l _ (s1.trans ((Ac hD).trans (Ac hl))) Ab⟩⟩
theorem scJoined:Ax ["many","stand","one","other"] ["many","stand","one","other"] (Ag sJoined):=⟨rfl,rfl,rfl,by decide+kernel,rfl,by decide+kernel,by decide+kernel⟩
theorem ok_Joined {f:Addr} {fd:FuncData} (F:Fun K "are_joined" "are_joined" sJoined f fd) (T:Txt K mg C I)
  {gPart:Addr} {fPart:FuncData} (kPart:PySem.W.keepIn K (.ref gPart)=true) (bPart:Binds K fPart ["many","stand","place"] []) (hPart:mg "part_of"=some (.ref gPart)) (GPart:FnOk P w K mg base CX0 3 gPart fPart ["many","stand","place"] spPart):
  FnOk P w K mg base CX0 4 f fd ["many","stand","one","other"] spJoined:=by
 refine F.ok scJoined (fun vs H Q E h=> ?_) (fun cdv A outer s H vs Q E hr h=> ?_)
 ·obtain ⟨_,_,_,_,_,rfl,_⟩:=h;rfl
 ·obtain ⟨N,st,S,p,q,rfl,hst,hN,N60,S100,pN,k⟩:=h
  refine ⟨_,Ah (Ay (Cv op_in_seq (pv 3) (Al GPart hr rfl hPart kPart bPart .nil Ar (Aa (pv 0) (Aa (pv 1) (Aa (pv 2) Ad)))) (by rfl))),?_⟩
  refine ⟨_,rfl,_,rfl,_,rfl,_,rfl,N,st,S,p,rfl,hst,hN,N60,S100,pN,fun a H1 s1 e1=>⟨a,_,rfl,.inr (SqT.of e1),rfl,flat_ints _,?_⟩⟩
  have e:inV (.int (q:Int)) (((Bd N S p).map Int.ofNat).map V.int)=decide (q∈Bd N S p):=by
   rw [inV_ints,Bool.eq_iff_iff,decide_eq_true_eq,decide_eq_true_eq,List.mem_map]
   constructor
   ·rintro ⟨x,hx,e⟩
    have:x=q:=by have:(x:Int)=q:=e;clear S100 pN e;omega
    rw [←this];exact hx
   ·intro h;exact ⟨q,h,rfl⟩
  show Q (.bl (inV (.int (q:Int)) (((Bd N S p).map Int.ofNat).map V.int))) H1
  rw [e]
  exact k _ s1
end
end K28
namespace K28
open PySem L2 Wk
def nV (ps:List Nat):List V:=(ps.map Int.ofNat).map V.int
theorem nV_at {ps:List Nat} {k v:Nat} (h:ps[k]? =some v):atI (nV ps) (k:Int)=some (.int (v:Int)):=Am (by unfold nV;rw [List.getElem?_map,List.getElem?_map,h];rfl)
def PtsAt (H:Hp) (as:List Addr) (N:Nat) (S:List T4) (ls:List Nat):Prop:=as.length=ls.length∧∀(i:Nat) r p,as[i]? =some r→ls[i]? =some p→H r=some (.tup (nV (Bd N S p)))
inductive SpPtsOfP (vs:List V) (H:Hp) (Q:VK) (u_3:XK):Prop
 |mk (N:Nat) (st:Addr) (S:List T4):(vs=[.int (N:Int),.ref st])→(StandAt H st S)→(InN N S)→(N≤60)→(S.length≤100)→(∀a as H',Same H H'→H' a=some (.tup (as.map V.ref))→PtsAt H' as N S (lsF N S)→Q (.ref a) H')→SpPtsOfP vs H Q u_3
def spPtsOf:Sp:=fun vs H Q u_3=>SpPtsOfP vs H Q u_3
theorem pts_snoc {H:Hp} {as:List Addr} {N p:Nat} {S:List T4} {ls:List Nat} {r:Addr} (h:PtsAt H as N S ls) (hr:H r=some (.tup (nV (Bd N S p)))):PtsAt H (as++[r]) N S (ls++[p]):=by
 refine ⟨by rw [List.length_append,List.length_append,h.1];rfl,fun i r0 p0 e1 e2=> ?_⟩
 rw [List.getElem?_append] at e1 e2
 rw [h.1] at e1
 split at e1
 ·rename_i z
  rw [if_pos z] at e2
  exact h.2 i r0 p0 e1 e2
 ·rename_i z
  rw [if_neg z] at e2
  have hz:i - ls.length=0:=by
   have:=(List.getElem?_eq_some_iff.mp e1).1
   simp only [List.length_cons,List.length_nil] at this
   omega
  rw [hz] at e1 e2
  cases e1
  cases e2
  exact hr
theorem PtsAt.mono {H H':Hp} {as:List Addr} {N:Nat} {S:List T4} {ls:List Nat} (h:PtsAt H as N S ls) (f:∀r zs,H r=some (.tup zs)→H' r=some (.tup zs)):PtsAt H' as N S ls:=⟨h.1,fun i r p a b=>f _ _ (h.2 i r p a b)⟩
section
variable {P:Program} {w:World} {K:PySem.W.Frag} {mg:Str→Option Value} {base:Heap} {C I:Addr}
theorem scPtsOf:Ax ["many","stand","parts"] ["many","stand"] (Ag sPtsOf):=⟨rfl,rfl,rfl,by decide+kernel,rfl,by decide+kernel,by decide+kernel⟩
theorem ok_PtsOf {f:Addr} {fd:FuncData} (F:Fun K "parts_of" "parts_of" sPtsOf f fd) (T:Txt K mg C I)
  {gPart:Addr} {fPart:FuncData} (kPart:PySem.W.keepIn K (.ref gPart)=true) (bPart:Binds K fPart ["many","stand","place"] []) (hPart:mg "part_of"=some (.ref gPart)) (GPart:FnOk P w K mg base CX0 3 gPart fPart ["many","stand","place"] spPart):
  FnOk P w K mg base CX0 4 f fd ["many","stand"] spPtsOf:=by
 refine F.ok scPtsOf (fun vs H Q E h=> ?_) (fun cdv A outer s H vs Q E hr h=> ?_)
 ·obtain ⟨_,_,_,rfl,_⟩:=h;rfl
 ·obtain ⟨N,st,S,rfl,hst,hN,N60,S100,k⟩:=h
  refine ⟨_,Af (ps_comp (i:=2) (T:=["place"]) (F:=["many","stand"]) (js:=[0,1]) scPtsOf.nd rfl (Or.inl rfl) (CS.to (osc:=Ag sPtsOf) ⟨by rfl,by decide+kernel,by decide+kernel,by decide+kernel,by decide+kernel,by decide+kernel,by decide+kernel⟩ rfl rfl) rfl (Ct rfl T.range (Aa (pv 0) Ad)) (fun _ _ _ _ _=>An (i:=0) (show (["place","many","stand"]:List Str).Nodup by decide+kernel) rfl (Or.inl rfl)) (fun _ _ _ _ _=>C4) (fun _ _ _ _ _=>Al GPart hr rfl hPart kPart bPart .nil Ar (Aa (pv 1) (Aa (pv 2) (Aa (pv 0) Ad)))))
   (Ah (Ay (Be Bc (by rfl) T.tuple (by decide+kernel) (Aa (C5 (T:=["place","part"]) (F:=[]) (js:=[]) (CS.to (osc:=Ag sPtsOf) ⟨by rfl,by decide+kernel,by decide+kernel,by decide+kernel,by decide+kernel,by decide+kernel,by decide+kernel⟩ rfl rfl) rfl (pi_enumL rfl T.enumerate (Aa (pv 2) Ad)) (fun _ _ _ _ _=>pg_tupK K 2 rfl rfl (At (An (i:=0) (show (["place","part"]:List Str).Nodup by decide+kernel) rfl (Or.inl rfl)) (At (An (i:=1) (show (["place","part"]:List Str).Nodup by decide+kernel) rfl (Or.inl rfl)) Bu))) (fun _ _ _ _ _=>pif_one (A0 By (Ap (r:=rIxT K) Az (pv 1) Ae (fun _ _=>rfl)) (pv 0) (A1 _))) (fun _ _ _ _ _=>pv 1)) Ad)))),?_⟩
  refine ⟨_,rfl,(N:Int),rfl,by omega,by omega,fun D hD=>comp_range (lo:=0) (n:=(N:Int).toNat) (fun j σ ys H2=>∃(u:Option V) (ls:List Addr),σ=[u,some (.int (N:Int)),some (.ref st)]∧ys=ls.map V.ref∧Same H H2∧H2 D=some (.lst ys)∧PtsAt H2 ls N S (List.range j)) ⟨none,[],rfl,rfl,Ac hD,Ab,rfl,fun i r p e=>by simp at e⟩ (fun j σ ys H2 _ ⟨_,_,_,_,_,e,_⟩=>e) ?_ ?_⟩
  ·intro j σ ys H2 hj hI5_
   refine Cg fun G_ hG_=> ?_
   obtain ⟨u,ls,rfl,rfl,s2,d2,p2⟩:=hI5_
   have hj:j<N:=by simpa using hj
   have ll:ls.length=j:=by rw [p2.1,List.length_range]
   refine hG_ ?_
   refine ⟨_,rfl,_,rfl,_,rfl,N,st,S,j,by rw [Int.zero_add];rfl,hst.same s2,hN,N60,S100,hj,fun r H3 s3 e3=> ?_⟩
   have d3:=s3 _ _ d2
   refine ⟨d3,Aw (by rw [List.length_map];omega),_,ls++[r],rfl,by rw [List.map_append];rfl,Bi (s2.trans s3) hD,Ab,?_⟩
   rw [List.range_succ]
   have kp:∀(r:Addr) (zs:List V) (o:HO),H3 r=some (.tup zs)→upd H3 D o r=some (.tup zs):=fun r zs o e=>by rw [Ai (Ao e d3 (by intro z;cases z))];exact e
   exact pts_snoc ((p2.mono fun r zs e=>s3 _ _ e).mono fun r zs e=>kp r zs _ e) (kp _ _ _ e3)
  intro σ ys H2 hI3_
  refine Cg fun G_ hG_=> ?_
  obtain ⟨u,ls,rfl,rfl,s2,d2,p2⟩:=hI3_
  have en:(N:Int).toNat=N:=by omega
  refine hG_ ?_
  rw [en] at p2
  have ll:ls.length=N:=by rw [p2.1,List.length_range]
  refine ⟨_,rfl,D,_,rfl,SqL.of d2,fun E hE=>comp_enum (K:=K) (a:=D) (xs:=ls.map V.ref) (fun j σ ys H5=>∃(u v:Option V) (qs:List Addr),σ=[u,v]∧Same H2 H5∧H5 E=some (.lst ys)∧ys=qs.map V.ref∧PtsAt H5 qs N S ((List.range j).filter fun p=>decide ((Bd N S p)[0]? =some p))) ⟨none,none,[],rfl,Ac hE,Ab,rfl,rfl,fun i r p e=>by simp at e⟩ (fun j σ ys H5 _ ⟨_,_,_,_,s5,e,_⟩=>⟨SqL.of (s5 _ _ d2),e⟩) ?_ ?_⟩
  ·intro j x σ ys H5 T hx hI7_ hT
   refine Cg fun G_ hG_=> ?_
   obtain ⟨u,v,qs,rfl,s5,e5,rfl,p5⟩:=hI7_
   obtain ⟨r,er,rfl⟩:=map_some hx
   have hj:j<N:=by rw [←ll];exact (List.getElem?_eq_some_iff.mp er).1
   have s6:=Ac (o:= .tup [.int (j:Int),.ref r]) hT
   have T6:=Ab (H:=H5) (a:=T) (o:= .tup [.int (j:Int),.ref r])
   have e6:=s6 _ _ e5
   have p6:=p5.mono fun r zs e=>s6 _ _ e
   refine hG_ ?_
   generalize upd H5 T (.tup [.int (j:Int),.ref r])=H6 at s6 T6 e6 p6
   have S6:=s5.trans s6
   have r6:=S6 _ _ (p2.2 j r j er (List.getElem?_range hj))
   refine ⟨T,_,rfl,SqT.of T6,rfl,_,_,rfl,_,_,rfl,rfl,?_⟩
   have h0:0<(Bd N S j).length:=List.length_pos_of_mem (part_self hN hj N60)
   have hg:=Cc h0
   generalize (Bd N S j)[0]=q at hg
   refine ⟨_,rfl,r,_,0,_,rfl,rfl,SqT.of r6,nV_at (k:=0) hg,_,rfl,rfl,_,rfl,?_⟩
   have ql:qs.length≤100:=by
    rw [p5.1]
    refine Nat.le_trans (List.length_filter_le _ _) ?_
    rw [List.length_range];omega
   by_cases g:q=j
   ·rw [show decide (V.int (q:Int)=V.int (j:Int))=true from decide_eq_true (by rw [g])]
    have ef:(List.range (j+1)).filter (fun p=>decide ((Bd N S p)[0]? =some p))=(List.range j).filter (fun p=>decide ((Bd N S p)[0]? =some p))++[j]:=by
     rw [List.range_succ,List.filter_append,List.filter_cons_of_pos (by rw [decide_eq_true_eq,hg,g]),List.filter_nil]
    have kp:∀(r:Addr) (zs:List V) (o:HO),H6 r=some (.tup zs)→upd H6 E o r=some (.tup zs):=fun r zs o e=>by rw [Ai (Ao e e6 (by intro z;cases z))];exact e
    refine iteT ⟨_,rfl,e6,Aw (by rw [List.length_map];exact Nat.le_trans (by assumption) (by decide)),_,_,qs++[r],rfl,Bi S6 hE,Ab,by rw [List.map_append];rfl,?_⟩
    rw [ef]
    exact pts_snoc (p6.mono fun r zs e=>kp r zs _ e) (kp _ _ _ r6)
   ·rw [show decide (V.int (q:Int)=V.int (j:Int))=false from decide_eq_false (fun e=>g (by injection e with e;omega))]
    have ef:(List.range (j+1)).filter (fun p=>decide ((Bd N S p)[0]? =some p))=(List.range j).filter (fun p=>decide ((Bd N S p)[0]? =some p)):=by
     rw [List.range_succ,List.filter_append,List.filter_cons_of_neg (by rw [decide_eq_true_eq,hg];intro z;exact g (Option.some.inj z)),List.filter_nil,List.append_nil]
    refine C3 ⟨_,_,qs,rfl,S6,e6,rfl,?_⟩
    rw [ef];exact p6
  ·intro σ ys H5 hI3_
   refine Cg fun G_ hG_=> ?_
   obtain ⟨u,v,qs,rfl,s5,e5,rfl,p5⟩:=hI3_
   refine hG_ ?_
   rw [List.length_map,ll] at p5
   refine ⟨E,_,rfl,.inl ⟨SqL.of e5,fun l hl=> ?_⟩⟩
   exact k l qs _ ((s2.trans s5).trans (Ac hl)) Ab (p5.mono fun r zs e=>Ac hl _ _ e)
end
end K28
namespace K28
open PySem L2 Wk
def FLAt (H:Hp) (l:Addr) (N:Nat) (S:List T4):Prop:=∃as:List Addr,H l=some (.lst (as.map V.ref))∧as.length=N∧∀(v:Nat) a,as[v]? =some a→∃ws,H a=some (.tup (ws.map V.str))∧FL N S v ws
inductive SpWLeastP (vs:List V) (H:Hp) (Q:VK) (u_3:XK):Prop
 |mk (N:Nat) (st:Addr) (S:List T4):(vs=[.int (N:Int),.ref st])→(StandAt H st S)→(InN N S)→(N≤60)→(S.length≤100)→(∀l H',Same H H'→FLAt H' l N S→Q (.ref l) H')→SpWLeastP vs H Q u_3
def spWLeast:Sp:=fun vs H Q u_3=>SpWLeastP vs H Q u_3
theorem rep_refs {t0:Addr} (N:Nat):(List.replicate N [V.ref t0]).flatten=(List.replicate N t0).map V.ref:=by
 induction N with
 |zero=>rfl
 |succ N ih=>rw [List.replicate_succ,List.flatten_cons,ih,List.replicate_succ];rfl
section
variable {P:Program} {w:World} {K:PySem.W.Frag} {mg:Str→Option Value} {base:Heap} {C I:Addr}
theorem scWLeast:Ax ["many","stand","told","part","ways","place"] ["many","stand"] (Ag sWLeast):=⟨rfl,rfl,rfl,by decide+kernel,rfl,by decide+kernel,by decide+kernel⟩
theorem ok_WLeast {f:Addr} {fd:FuncData} (F:Fun K "ways_from_least" "ways_from_least" sWLeast f fd) (T:Txt K mg C I)
  {gPtsOf:Addr} {fPtsOf:FuncData} (kPtsOf:PySem.W.keepIn K (.ref gPtsOf)=true) (bPtsOf:Binds K fPtsOf ["many","stand"] []) (hPtsOf:mg "parts_of"=some (.ref gPtsOf)) (GPtsOf:FnOk P w K mg base CX0 4 gPtsOf fPtsOf ["many","stand"] spPtsOf)
  {gWays:Addr} {fWays:FuncData} (kWays:PySem.W.keepIn K (.ref gWays)=true) (bWays:Binds K fWays ["many","stand","place"] []) (hWays:mg "ways_from"=some (.ref gWays)) (GWays:FnOk P w K mg base CX0 4 gWays fWays ["many","stand","place"] spWays):
  FnOk P w K mg base CX0 5 f fd ["many","stand"] spWLeast:=by
 refine F.ok scWLeast (fun vs H Q E h=> ?_) (fun cdv A outer s H vs Q E hr h=> ?_)
 ·obtain ⟨_,_,_,rfl,_⟩:=h;rfl
 ·obtain ⟨N,st,S,rfl,hst,hN,N60,S100,k⟩:=h
  refine ⟨_,Af (Aq (i:=2) scWLeast.nd rfl (Or.inl rfl) (As op_rep (Bh (Aa (Ba Ad) Ad)) (pv 0)))
   (Af (Cs PassesOwn.never rfl (pi_tup (Al GPtsOf hr rfl hPtsOf kPtsOf bPtsOf .nil Ar (Aa (pv 0) (Aa (pv 1) Ad)))) (An (i:=3) scWLeast.nd rfl (Or.inl rfl)) (Af (Aq (i:=4) scWLeast.nd rfl (Or.inl rfl) (Al GWays hr rfl hWays kWays bWays .nil Ar (Aa (pv 0) (Aa (pv 1) (Aa (Ap Az (pv 3) Ae (fun _ _=>rfl)) Ad)))))
   (Ah (Cs PassesOwn.never rfl (pi_tup (pv 3)) (An (i:=5) scWLeast.nd rfl (Or.inl rfl)) (Ah (ps_asg (Ap Bb (pv 4) (pv 5) (fun _ _=>rfl)) (pg_sub (pv 2) (pv 5) set_list)))))))
   (Ah (Ay (pv 2)))),?_⟩
  refine ⟨small (by simp),fun t0 ht0=> ?_⟩
  have s1:=Ac (o:= .tup []) ht0
  generalize upd H t0 (.tup [])=H1 at s1
  refine ⟨small (by simp),fun q hq=> ?_⟩
  have s2:=Ac (o:= .lst [.ref t0]) hq
  have q2:=Ab (H:=H1) (a:=q) (o:= .lst [.ref t0])
  generalize upd H1 q (.lst [.ref t0])=H2 at s2 q2
  refine ⟨_,rfl,q,(N:Int),_,rfl,rfl,q2,by omega,by omega,small (by show 1 * (N:Int).toNat≤10000;omega),fun l hl=> ?_⟩
  have eN:(N:Int).toNat=N:=by omega
  rw [eN,rep_refs]
  have s3:=Ac (o:= .lst ((List.replicate N t0).map V.ref)) hl
  have l3:=Ab (H:=H2) (a:=l) (o:= .lst ((List.replicate N t0).map V.ref))
  have S3:=(s1.trans s2).trans s3
  have hl0:H l=none:=none_of (s1.trans s2) hl
  generalize upd H2 l (.lst ((List.replicate N t0).map V.ref))=H3 at s3 l3 S3
  refine ⟨_,rfl,_,rfl,N,st,S,rfl,hst.same S3,hN,N60,S100,fun pa ps H4 s4 e4 p4=> ?_⟩
  have S4:=S3.trans s4
  have l4:=s4 _ _ l3
  refine ⟨pa,rfl,⟨_,SqT.of e4⟩,for_tupH (K:=K) (a:=pa) (xs:=ps.map V.ref) (fun i σ H5=>∃(u3 u4 u5:Option V) (as:List Addr),σ=[some (.int (N:Int)),some (.ref st),some (.ref l),u3,u4,u5]∧Same H H5∧(∀r zs,H4 r=some (.tup zs)→H5 r=some (.tup zs))∧H5 l=some (.lst (as.map V.ref))∧as.length=N∧∀(j p:Nat),j<i→(lsF N S)[j]? =some p→∀v∈Bd N S p,∃a ws,as[v]? =some a∧H5 a=some (.tup (ws.map V.str))∧FL N S v ws) ⟨_,_,_,List.replicate N t0,rfl,S4,fun _ _ e=>e,l4,by simp,fun j p h=>absurd h (by omega)⟩ (fun i σ H5 _ ⟨_,_,_,_,_,_,f,_⟩=>SqT.of (f _ _ e4)) ?_ ?_⟩
  ·intro i x σ H5 hx hI5_ E5 hE5 _
   refine Cg fun G_ hG_=> ?_
   obtain ⟨u3,u4,u5,as,rfl,S5,t5,l5,al,d5⟩:=hI5_
   obtain ⟨r,er,rfl⟩:=map_some hx
   have hi:i<(lsF N S).length:=by rw [←p4.1];exact (List.getElem?_eq_some_iff.mp er).1
   have hp:=Cc hi
   refine hG_ ?_
   generalize (lsF N S)[i]=p at hp
   have pm:=List.mem_of_getElem? hp
   have pN:=ls_lt pm
   have r5:=t5 _ _ (p4.2 i r p er hp)
   have p0:(Bd N S p)[0]? =some p:=by simpa using (List.mem_filter.mp pm).2
   refine ⟨_,rfl,_,rfl,_,rfl,r,_,0,_,rfl,rfl,SqT.of r5,nV_at (k:=0) p0,N,st,S,p,rfl,hst.same S5,hN,N60,S100,pN,fun wa H6 s6 W6=> ?_⟩
   have r6:=s6 _ _ r5
   have S6:=S5.trans s6
   have l6:=s6 _ _ l5
   have t6:∀r zs,H4 r=some (.tup zs)→H6 r=some (.tup zs):=fun r zs e=>s6 _ _ (t5 _ _ e)
   have wl:=ways_len hN pN N60
   refine ⟨_,rfl,r,rfl,⟨_,SqT.of r6⟩,for_tupH (K:=K) (a:=r) (xs:=nV (Bd N S p)) (fun j σ H7=>∃(u5:Option V) (as:List Addr),σ=[some (.int (N:Int)),some (.ref st),some (.ref l),some (.ref r),some (.ref wa),u5]∧Same H H7∧(∀r zs,H6 r=some (.tup zs)→H7 r=some (.tup zs))∧H7 l=some (.lst (as.map V.ref))∧as.length=N∧WaysAt H7 wa (waysF N S p)∧(∀(j p:Nat),j<i→(lsF N S)[j]? =some p→∀v∈Bd N S p,∃a ws,as[v]? =some a∧H7 a=some (.tup (ws.map V.str))∧FL N S v ws)∧∀v∈(Bd N S p).take j,∃a ws,as[v]? =some a∧H7 a=some (.tup (ws.map V.str))∧FL N S v ws) ⟨_,as,rfl,S6,fun _ _ e=>e,l6,al,W6,fun j p hj hp v hv=>let ⟨a,ws,x,y,z⟩:=d5 j p hj hp v hv;⟨a,ws,x,s6 _ _ y,z⟩,by simp⟩ (fun j σ H7 _ ⟨_,_,_,_,f,_⟩=>SqT.of (f _ _ r6)) ?_ ?_⟩
   ·intro j x σ H7 hx hI5_ E7 hE7 _
    refine Cg fun G_ hG_=> ?_
    obtain ⟨u5,as,rfl,S7,t7,l7,al,W7,d7,v7⟩:=hI5_
    refine hG_ ?_
    unfold nV at hx
    obtain ⟨z',hz',rfl⟩:=map_some hx
    obtain ⟨v,hv,rfl⟩:=map_some hz'
    have vm:=List.mem_of_getElem? hv
    have vN:=((C1 hN pN N60).mp vm).1
    obtain ⟨ws,hws⟩:∃ws,Vis (waysF N S p) v ws:=vis_iff.mp (by have:=(List.mem_filter.mp vm).2;simpa using this)
    obtain ⟨xs,x,hxs,hx,_,a,rfl,ha⟩:=W7.get hws
    have fl:FL N S v ws:=⟨p,pm,hws⟩
    have tk:(Bd N S p).take (j+1)=(Bd N S p).take j++[v]:=by rw [List.take_add_one,hv];rfl
    refine ⟨_,rfl,_,rfl,wa,_,_,_,rfl,rfl,SqL.of hxs,Am hx,_,rfl,_,rfl,l,_,_,v,rfl,rfl,l7,(by have h:ixN (as.map V.ref).length (v:Int)=some v:=ixN_nat (by rw [List.length_map];omega);exact h),?_⟩
    have kp:∀(r:Addr) (zs:List V) (o:HO),H7 r=some (.tup zs)→upd H7 l o r=some (.tup zs):=fun r zs o e=>by rw [Ai (Ao e l7 (by intro z;cases z))];exact e
    have es:(as.map V.ref).set v (.ref a)=(as.set v a).map V.ref:=by rw [List.map_set]
    rw [es]
    have W8:WaysAt (upd H7 l (.lst ((as.set v a).map V.ref))) wa (waysF N S p):=by
     by_cases nwl:wa=l
     ·rw [nwl] at hxs W7 ⊢
      rw [l7] at hxs
      cases hxs
      have e:(as.set v a).map V.ref=as.map V.ref:=by
       rw [←es]
       obtain ⟨hh,ee⟩:=List.getElem?_eq_some_iff.mp hx
       rw [←ee,List.set_getElem_self]
      rw [e]
      obtain ⟨xs,x1,x2,x3⟩:=W7
      rw [l7] at x1
      cases x1
      exact ⟨_,Ab,x2,fun i u o e f=>(x3 i u o e f).mono fun r ys h=>kp _ _ _ h⟩
     ·exact W7.keep l7 nwl
    have up:∀u,(∃a' ws',as[u]? =some a'∧H7 a'=some (.tup (ws'.map V.str))∧FL N S u ws')→∃a' ws',(as.set v a)[u]? =some a'∧upd H7 l (.lst ((as.set v a).map V.ref)) a'=some (.tup (ws'.map V.str))∧FL N S u ws':=fun u ⟨a',ws',x,y,z⟩=>by
     by_cases e:v=u
     ·subst e
      exact ⟨a,ws,List.getElem?_set_self (by omega),kp _ _ _ ha,fl⟩
     ·exact ⟨a',ws',by rw [List.getElem?_set_ne e];exact x,kp _ _ _ y,z⟩
    refine hE7 _ _ ⟨_,as.set v a,rfl,Bi S7 hl0,fun r zs e=>kp _ _ _ (t7 _ _ e),Ab,by rw [List.length_set];exact al,W8,fun j p hj hp u hu=>up u (d7 j p hj hp u hu),fun u hu=> ?_⟩
    rw [tk] at hu
    rcases List.mem_append.mp hu with h|h
    ·exact up u (v7 u h)
    ·rw [List.mem_singleton.mp h]
     exact ⟨a,ws,List.getElem?_set_self (by omega),kp _ _ _ ha,fl⟩
   ·intro σ H7 hI2_
    refine Cg fun G_ hG_=> ?_
    obtain ⟨u5,as,rfl,S7,t7,l7,al,W7,d7,v7⟩:=hI2_
    have eln:(nV (Bd N S p)).length=(Bd N S p).length:=by unfold nV;rw [List.length_map,List.length_map]
    refine hG_ ?_
    rw [eln,List.take_length] at v7
    refine hE5 _ _ ⟨_,_,_,as,rfl,S7,fun r zs e=>t7 _ _ (t6 _ _ e),l7,al,fun j p' hj hp' v hv=> ?_⟩
    by_cases e:j=i
    ·subst e
     rw [hp] at hp'
     cases hp'
     exact v7 v hv
    ·exact d7 j p' (by omega) hp' v hv
  ·intro σ H5 hI2_
   refine Cg fun G_ hG_=> ?_
   obtain ⟨u3,u4,u5,as,rfl,S5,t5,l5,al,d5⟩:=hI2_
   refine hG_ ?_
   rw [List.length_map,p4.1] at d5
   refine ⟨_,rfl,k l H5 S5 ⟨as,l5,al,fun v a hv=> ?_⟩⟩
   have vN:v<N:=by rw [←al];exact (List.getElem?_eq_some_iff.mp hv).1
   obtain ⟨p,_,pm,pr⟩:=part_head hN vN N60
   obtain ⟨j,hj⟩:=List.getElem?_of_mem pm
   obtain ⟨a',ws,x,y,z⟩:=d5 j p (List.getElem?_eq_some_iff.mp hj).1 hj v ((C1 hN (ls_lt pm) N60).mpr ⟨vN,pr⟩)
   rw [hv] at x
   cases x
   exact ⟨ws,y,z⟩
end
end K28
namespace K28
open PySem L2 Wk
def rLenX (K:PySem.W.Frag):List V→Hp→VK→Prop:=fun xs H Q=>∃p ys,xs=[.ref p]∧(SqL K H p ys∨SqT K H p ys)∧Q (.int ys.length) H
structure Good (N:Nat) (S:List T4) (ns:List Int):Prop where
 len:ns.length=N
 two:∀v,v<N→ns.getD v 0=0∨ns.getD v 0=1
 ties:∀t∈S,ns.getD t.2.1 0≠ns.getD t.2.2.1 0
theorem int_at {ns:List Int} {v:Nat} (h:v<ns.length):atI (ns.map V.int) (v:Int)=some (.int (ns.getD v 0)):=Am (by rw [List.getElem?_map,Cc h,List.getD_eq_getElem?_getD,Cc h];rfl)
theorem FL.uniq {N v:Nat} {S:List T4} {x y:List Str} (hS:InN N S) (hN:N≤60) (hx:FL N S v x) (hy:FL N S v y):x=y:=by
 obtain ⟨p,hp,vx⟩:=hx
 obtain ⟨q,hq,vy⟩:=hy
 have e:p=q:=ls_uniq hS hN hp hq (Reach.trans ⟨x,ways_lead hS (ls_lt hp) hN vx⟩ (Reach.symm ⟨y,ways_lead hS (ls_lt hq) hN vy⟩))
 subst e
 exact vis_inj vx vy
def RingAs (N:Nat) (S:List T4) (ws:List Str):Prop:=∃(i:Nat) (t:T4) (x y c x' y':List Str),S[i]? =some t∧FL N S t.2.1 x∧FL N S t.2.2.1 y∧x.length % 2=y.length % 2∧(∀u∈S.take i,∀a b,FL N S u.2.1 a→FL N S u.2.2.1 b→a.length % 2≠b.length % 2)∧x=c++x'∧y=c++y'∧x'.head? ≠y'.head? ∧ws=x'++[t.1]++y'.reverse
def Told (N:Nat) (S:List T4) (sd:Bool) (xs:List V):Prop:=(sd=true∧∃ns:List Int,xs=ns.map V.int∧Good N S ns∧∀v,v<N→Par N S v (ns.getD v 0))∨(sd=false∧∃ws:List Str,xs=ws.map V.str∧Ring N S ws∧ws.length≤61∧RingAs N S ws)
theorem Good.two' {N:Nat} {S:List T4} {ns:List Int} (h:Good N S ns) (hS:InN N S):Two S:=⟨fun v=>if v<N then ns.getD v 0 else 0,fun v=>by
 show (if v<N then ns.getD v 0 else 0)=0∨(if v<N then ns.getD v 0 else 0)=1
 split
 ·rename_i hv;exact h.two v hv
 ·exact .inl rfl,fun t ht=>by
 have tN:=hS t ht
 show (if t.2.1<N then ns.getD t.2.1 0 else 0)≠(if t.2.2.1<N then ns.getD t.2.2.1 0 else 0)
 rw [if_pos tN.1,if_pos tN.2]
 exact h.ties t ht⟩
def wordF (sd:Bool):Str:=Str.ofString (if sd then "sides" else "ring")
structure SOk (N:Nat) (S:List T4):Prop where
 inn:InN N S
 nd:(S.map (·.1)).Nodup
 ne:∀t∈S,t.2.1≠t.2.2.1
 len:S.length≤60
inductive SpRingOP (vs:List V) (H:Hp) (Q:VK) (u_3:XK):Prop
 |mk (l tr a1 a2:Addr) (as:List Addr) (t:T4) (x y:List Str):(vs=[.ref l,.ref tr])→(H l=some (.lst (as.map V.ref)))→(H tr=some (.tup (tieV t)))→(as[t.2.1]? =some a1)→(as[t.2.2.1]? =some a2)→(H a1=some (.tup (x.map V.str)))→(H a2=some (.tup (y.map V.str)))→(x.length=y.length)→(x≠y)→(x.length≤100)→(∀(r:Addr) (c x' y':List Str) (H':Hp),Same H H'→x=c++x'→y=c++y'→x'.head? ≠y'.head? →H' r=some (.tup ((x'++[t.1]++y'.reverse).map V.str))→Q (.ref r) H')→SpRingOP vs H Q u_3
def spRingO:Sp:=fun vs H Q u_3=>SpRingOP vs H Q u_3
inductive SpSidesOfP (vs:List V) (H:Hp) (Q:VK) (u_3:XK):Prop
 |mk (N:Nat) (st:Addr) (S:List T4):(vs=[.int (N:Int),.ref st])→(StandAt H st S)→(SOk N S)→(N≤30)→(∀(r wa:Addr) (sd:Bool) (xs:List V) (H':Hp),Same H H'→H' r=some (.tup [.str (wordF sd),.ref wa])→H' wa=some (.tup xs)→Told N S sd xs→Q (.ref r) H')→SpSidesOfP vs H Q u_3
def spSidesOf:Sp:=fun vs H Q u_3=>SpSidesOfP vs H Q u_3
theorem str_eq (a b:Str):decide (V.str a=V.str b)=decide (a=b):=by
 rw [Bool.eq_iff_iff,decide_eq_true_eq,decide_eq_true_eq]
 exact ⟨fun e=>by injection e,fun e=>by rw [e]⟩
section
variable {P:Program} {w:World} {K:PySem.W.Frag} {mg:Str→Option Value} {base:Heap} {C I:Addr}
theorem scRingO:Ax ["ways","tie","there","back"] ["ways","tie"] (Ag sRingO):=⟨rfl,rfl,rfl,by decide+kernel,rfl,by decide+kernel,by decide+kernel⟩
theorem ok_RingO {f:Addr} {fd:FuncData} (F:Fun K "ring_over" "ring_over" sRingO f fd) (T:Txt K mg C I):
  FnOk P w K mg base CX0 1 f fd ["ways","tie"] spRingO:=by
 refine F.ok scRingO (fun vs H Q E h=> ?_) (fun cdv A outer s H vs Q E hr h=> ?_)
 ·obtain ⟨_,_,_,_,_,_,_,_,rfl,_⟩:=h;rfl
 ·obtain ⟨l,tr,a1,a2,as,t,x,y,rfl,hl,htr,e1,e2,h1,h2,xy,ne,x100,k⟩:=h
  refine ⟨_,Af (ps_par (i:=2) (j:=3) rfl scRingO.nd rfl rfl (by decide) rfl rfl (Aa (Ap Bb (pv 0) (Ap Az (pv 1) Ae (fun _ _=>rfl)) (fun _ _=>rfl)) (Aa (Ap Bb (pv 0) (Ap Az (pv 1) Ae (fun _ _=>rfl)) (fun _ _=>rfl)) Ad)) rfl)
   (Af (ps_while PassesOwn.never (A0 By (Ap Az (pv 2) Ae (fun _ _=>rfl)) (Ap Az (pv 3) Ae (fun _ _=>rfl)) (A1 _)) (Ah (ps_par (i:=2) (j:=3) rfl scRingO.nd rfl rfl (by decide) rfl rfl (Aa (Bs sl_tupA (pv 2) (Bv Ae) Cj) (Aa (Bs sl_tupA (pv 3) (Bv Ae) Cj) Ad)) rfl)))
   (Ah (Ay (As op_catTT (As op_catTT (pv 2) (Ba (Aa (Ap Az (pv 1) Ae (fun _ _=>rfl)) Ad))) (pe_revT (pv 3) (Bv (pe_un un_neg Ae)) (fun o i=>[o,i]) (fun _ _=>by with_unfolding_all rfl)))))),?_⟩
  refine ⟨_,rfl,_,rfl,tr,_,1,_,rfl,rfl,SqT.of htr,Am (j:=1) rfl,l,_,_,_,rfl,rfl,SqL.of hl,Am (by rw [List.getElem?_map,e1];rfl),_,rfl,_,rfl,tr,_,2,_,rfl,rfl,SqT.of htr,Am (j:=2) rfl,l,_,_,_,rfl,rfl,SqL.of hl,Am (by rw [List.getElem?_map,e2];rfl),_,_,rfl,?_⟩
  dsimp only [gName,tSeq]
  refine while_ghL (fun m σ H5=>∃(th ba:Addr) (c x' y':List Str),σ=[some (.ref l),some (.ref tr),some (.ref th),some (.ref ba)]∧Same H H5∧x=c++x'∧y=c++y'∧H5 th=some (.tup (x'.map V.str))∧H5 ba=some (.tup (y'.map V.str))∧m=x'.length) (m0:=x.length) ⟨a1,a2,[],x,y,rfl,Cp _,rfl,rfl,h1,h2,rfl⟩ ?_ ?_
  rotate_left
  ·intro σ H Q Q' f hI5_
   refine Cg fun G_ hG_=> ?_
   obtain ⟨v2,e2,a,xs,i,u,ea,ei,ha,hu,v3,e3,b,ys,j,w,eb,ej,hb,hw,h1,bb,ebb,q⟩:=hI5_
   refine hG_ ?_
   exact ⟨v2,e2,a,xs,i,u,ea,ei,ha,hu,v3,e3,b,ys,j,w,eb,ej,hb,hw,h1,bb,ebb,f _ _ q⟩
  intro m σ H5 hI3_ E_
  refine Cg fun G_ hG_=> ?_
  obtain ⟨th,ba,c,x',y',rfl,s5,ex,ey,hth,hba,hm⟩:=hI3_
  have hl':x'.length=y'.length:=by rw [ex,ey,List.length_append,List.length_append] at xy;omega
  have hne:x'≠y':=fun e=>ne (by rw [ex,ey,e])
  obtain ⟨n,x2,rfl⟩:∃n x2,x'=n::x2:=by
   cases x' with
   |nil=>cases y' with
    |nil=>exact absurd rfl hne
    |cons _ _=>cases hl'
   |cons n x2=>exact ⟨n,x2,rfl⟩
  obtain ⟨n',y2,rfl⟩:∃n' y2,y'=n'::y2:=by
   cases y' with
   |nil=>cases hl'
   |cons n y2=>exact ⟨n,y2,rfl⟩
  refine hG_ ?_
  refine ⟨_,rfl,th,_,0,_,rfl,rfl,SqT.of hth,Am (j:=0) rfl,_,rfl,ba,_,0,_,rfl,rfl,SqT.of hba,Am (j:=0) rfl,rfl,_,rfl,?_⟩
  rw [str_eq]
  by_cases g:n=n'
  ·rw [decide_eq_true g]
   refine iteT ?_
   subst g
   refine ⟨_,rfl,_,rfl,noPart (cut_any hth fun t1 H6 s6 e6=> ?_)⟩
   have e6:H6 t1=some (.tup (x2.map V.str)):=by rw [e6];exact congrArg (fun z=>some (HO.tup z)) (cutV_drop (xs:=(n::x2).map V.str) (n:=1))
   refine ⟨_,rfl,_,rfl,noPart (cut_any (s6 _ _ hba) fun t2 H7 s7 e7=> ?_)⟩
   have e7:H7 t2=some (.tup (y2.map V.str)):=by rw [e7];exact congrArg (fun z=>some (HO.tup z)) (cutV_drop (xs:=(n::y2).map V.str) (n:=1))
   exact ⟨_,_,rfl,x2.length,by rw [hm,List.length_cons];exact Nat.le_refl _,t1,t2,c++[n],x2,y2,rfl,(s5.trans s6).trans s7,by rw [ex,List.append_assoc];rfl,by rw [ey,List.append_assoc];rfl,s7 _ _ e6,e7,rfl⟩
  rw [decide_eq_false g]
  refine C3 ?_
  have x2l:(n::x2).length≤100:=by rw [ex,List.length_append] at x100;omega
  refine ⟨_,rfl,_,rfl,tr,_,0,_,rfl,rfl,SqT.of (s5 _ _ htr),Am (j:=0) rfl,small (by simp),fun q hq=> ?_⟩
  have s6:=Ac (o:= .tup [.str t.1]) hq
  have q6:upd H5 q (.tup [.str t.1]) q=some (.tup ([t.1].map V.str)):=Ab
  generalize upd H5 q (.tup [.str t.1])=H6 at s6 q6
  refine cat_any (s6 _ _ hth) q6 (by rw [List.length_map,List.length_map];show _+1≤_;exact Nat.lt_of_le_of_lt (by assumption) (by decide)) fun r1 H7 s7 e7=> ?_
  rw [←List.map_append] at e7
  have ba7:=(s6.trans s7) _ _ hba
  refine ⟨_,rfl,_,rfl,_,rfl,ba,_,rfl,rfl,SqT.of ba7,by rw [List.length_map];omega,fun z hz=> ?_⟩
  have s8:=Ac (o:= .tup ((n'::y2).map V.str).reverse) hz
  have z8:upd H7 z (.tup ((n'::y2).map V.str).reverse) z=some (.tup ((n'::y2).reverse.map V.str)):=by rw [Ab,List.map_reverse]
  generalize upd H7 z (.tup ((n'::y2).map V.str).reverse)=H8 at s8 z8
  refine cat_any (s8 _ _ e7) z8 (by rw [List.length_map,List.length_map,List.length_append,List.length_reverse];show _+1+_≤_;omega) fun r2 H9 s9 e9=> ?_
  rw [←List.map_append] at e9
  exact k r2 c _ _ H9 ((((s5.trans s6).trans s7).trans s8).trans s9) ex ey (fun z=>g (Option.some.inj z)) e9
theorem scSidesOf:Ax ["many","stand","ways","numbers","tie"] ["many","stand"] (Ag sSidesOf):=⟨rfl,rfl,rfl,by decide+kernel,rfl,by decide+kernel,by decide+kernel⟩
theorem ok_SidesOf {f:Addr} {fd:FuncData} (F:Fun K "sides_of" "sides_of" sSidesOf f fd) (T:Txt K mg C I)
  {gWLeast:Addr} {fWLeast:FuncData} (kWLeast:PySem.W.keepIn K (.ref gWLeast)=true) (bWLeast:Binds K fWLeast ["many","stand"] []) (hWLeast:mg "ways_from_least"=some (.ref gWLeast)) (GWLeast:FnOk P w K mg base CX0 5 gWLeast fWLeast ["many","stand"] spWLeast)
  {gRingO:Addr} {fRingO:FuncData} (kRingO:PySem.W.keepIn K (.ref gRingO)=true) (bRingO:Binds K fRingO ["ways","tie"] []) (hRingO:mg "ring_over"=some (.ref gRingO)) (GRingO:FnOk P w K mg base CX0 5 gRingO fRingO ["ways","tie"] spRingO):
  FnOk P w K mg base CX0 6 f fd ["many","stand"] spSidesOf:=by
 refine F.ok scSidesOf (fun vs H Q E h=> ?_) (fun cdv A outer s H vs Q E hr h=> ?_)
 ·obtain ⟨_,_,_,rfl,_⟩:=h;rfl
 ·obtain ⟨N,st,S,rfl,hst,hS,N30,k⟩:=h
  refine ⟨_,Af (Aq (i:=2) scSidesOf.nd rfl (Or.inl rfl) (Al GWLeast hr rfl hWLeast kWLeast bWLeast .nil Ar (Aa (pv 0) (Aa (pv 1) Ad))))
   (Af (Aq (i:=3) scSidesOf.nd rfl (Or.inl rfl) (Be Bc (by rfl) T.tuple (by decide+kernel) (Aa (C5 (T:=["way"]) (F:=[]) (js:=[]) (CS.to (osc:=Ag sSidesOf) ⟨by rfl,by decide+kernel,by decide+kernel,by decide+kernel,by decide+kernel,by decide+kernel,by decide+kernel⟩ rfl rfl) rfl (pi_list (pv 2)) (fun _ _ _ _ _=>An (i:=0) (show (["way"]:List Str).Nodup by decide+kernel) rfl (Or.inl rfl)) (fun _ _ _ _ _=>C4) (fun _ _ _ _ _=>As Co (A8 (r:=rLenX K) A4 (by rfl) T.len PySem.boot_len (Aa (pv 0) Ad)) Ae)) Ad)))
   (Af (Cs PassesOwn.never rfl (pi_tup (pv 1)) (An (i:=4) scSidesOf.nd rfl (Or.inl rfl)) (Ah (B3 (A0 By (Ap Az (pv 3) (Ap Az (pv 4) Ae (fun _ _=>rfl)) (fun _ _=>rfl)) (Ap Az (pv 3) (Ap Az (pv 4) Ae (fun _ _=>rfl)) (fun _ _=>rfl)) (A1 _)) (Ah (Ay (Ba (Aa Bw (Aa (Al GRingO hr rfl hRingO kRingO bRingO .nil Ar (Aa (pv 2) (Aa (pv 4) Ad))) Ad))))) Bk)))
   (Ah (Ay (Ba (Aa Bw (Aa (pv 3) Ad))))))),?_⟩
  have S60:=hS.len
  have hN:=hS.inn
  refine ⟨_,rfl,_,rfl,N,st,S,rfl,hst,hN,by exact Nat.le_trans (by assumption) (by decide),by exact Nat.le_trans (by assumption) (by decide),fun l H1 s1 F1=> ?_⟩
  obtain ⟨as,hl,al,hf⟩:=F1
  refine ⟨_,rfl,l,rfl,⟨_,SqL.of hl⟩,fun D hD=>comp_list (K:=K) (a:=l) (xs:=as.map V.ref) (fun j σ ys H6=>∃(u:Option V) (ns:List Int),σ=[u]∧ys=ns.map V.int∧Same H1 H6∧H6 D=some (.lst ys)∧ns.length=j∧∀v,v<j→∃a ws,as[v]? =some a∧H1 a=some (.tup (ws.map V.str))∧FL N S v ws∧ns.getD v 0=((ws.length % 2:Nat):Int)) ⟨none,[],rfl,rfl,Ac hD,Ab,rfl,fun v h=>absurd h (by omega)⟩ (fun j σ ys H6 _ ⟨_,_,_,_,e,f,_⟩=>⟨SqL.of (e _ _ hl),f⟩) ?_ ?_⟩
  ·intro j x σ ys H6 hx hI6_
   refine Cg fun G_ hG_=> ?_
   obtain ⟨u,ns,rfl,rfl,s6,D6,nl,nv⟩:=hI6_
   obtain ⟨a,ha,rfl⟩:=map_some hx
   have hj:j<N:=by rw [←al];exact (List.getElem?_eq_some_iff.mp ha).1
   obtain ⟨ws,hw,fl⟩:=hf j a ha
   refine hG_ ?_
   refine ⟨_,rfl,a,_,rfl,.inr (SqT.of (s6 _ _ hw)),_,_,rfl,rfl,(by show (0:Int)<2;decide),D6,Aw (by rw [List.length_map];omega),_,ns++[((ws.map V.str).length:Int) % 2],rfl,by rw [List.map_append];rfl,Bi s6 hD,Ab,by simp [nl],fun v hv=> ?_⟩
   by_cases e:v=j
   ·subst e
    refine ⟨a,ws,ha,hw,fl,?_⟩
    rw [List.getD_eq_getElem?_getD,List.getElem?_append_right (by exact Nat.le_of_eq (by assumption)),nl,Nat.sub_self,List.length_map]
    show (ws.length:Int) % 2=_
    omega
   ·obtain ⟨a',ws',x1,x2,x3,x4⟩:=nv v (by omega)
    refine ⟨a',ws',x1,x2,x3,?_⟩
    rw [List.getD_eq_getElem?_getD,List.getElem?_append_left (by omega),←List.getD_eq_getElem?_getD]
    exact x4
  intro σ ys H6 hI3_
  refine Cg fun G_ hG_=> ?_
  obtain ⟨u,ns,rfl,rfl,s6,D6,nl,nv⟩:=hI3_
  refine hG_ ?_
  rw [List.length_map,al] at nl nv
  refine ⟨D,_,rfl,.inl ⟨SqL.of D6,fun nt hnt=> ?_⟩⟩
  have s7:=Ac (o:= .tup (ns.map V.int)) hnt
  have n7:=Ab (H:=H6) (a:=nt) (o:= .tup (ns.map V.int))
  generalize upd H6 nt (.tup (ns.map V.int))=H7 at s7 n7
  have S17:=s6.trans s7
  have S7:=s1.trans S17
  obtain ⟨rs,est,hrs⟩:=id hst
  have st7:=S7 _ _ est
  refine ⟨_,rfl,st,rfl,⟨_,SqT.of st7⟩,for_tupL (K:=K) (a:=st) (xs:=rs.map V.ref) (fun i σ H5=>∃(u4:Option V),σ=[some (.int (N:Int)),some (.ref st),some (.ref l),some (.ref nt),u4]∧H5=H7∧∀t∈S.take i,ns.getD t.2.1 0≠ns.getD t.2.2.1 0) ⟨_,rfl,rfl,by simp⟩ (fun i σ H5 _ ⟨_,_,e,_⟩=>by rw [e];exact SqT.of st7) ?_ ?_⟩
  ·intro i x σ H5 hx hI5_ E_
   refine Cg fun G_ hG_=> ?_
   obtain ⟨u4,rfl,rfl,no⟩:=hI5_
   obtain ⟨r,hr',rfl⟩:=map_some hx
   obtain ⟨t,ht,er⟩:=hrs.get hr'
   have tm:=List.mem_of_getElem? ht
   have tN:=hN t tm
   have tk:S.take (i+1)=S.take i++[t]:=by rw [List.take_add_one,ht];rfl
   have er7:=S7 _ _ er
   refine hG_ ?_
   refine ⟨_,rfl,_,rfl,r,_,1,_,rfl,rfl,SqT.of er7,Am (j:=1) rfl,nt,_,_,_,rfl,rfl,SqT.of n7,int_at (by omega),_,rfl,_,rfl,r,_,2,_,rfl,rfl,SqT.of er7,Am (j:=2) rfl,nt,_,_,_,rfl,rfl,SqT.of n7,int_at (by omega),rfl,_,rfl,?_⟩
   by_cases g:ns.getD t.2.1 0=ns.getD t.2.2.1 0
   ·rw [show decide (V.int (ns.getD t.2.1 0)=V.int (ns.getD t.2.2.1 0))=true from decide_eq_true (by rw [g])]
    refine iteT ?_
    obtain ⟨a1,x,ea1,ha1,fx,nx⟩:=nv _ tN.1
    obtain ⟨a2,y,ea2,ha2,fy,ny⟩:=nv _ tN.2
    obtain ⟨p,pN,lx,ly,d1,d2⟩:=FL.tie hN (by exact Nat.le_trans (by assumption) (by decide)) tm fx fy
    have hl':x.length=y.length:=by rw [nx,ny] at g;omega
    have hxy:x≠y:=fun e=>hS.ne t tm (by
     have g1:=lead_go hS.nd lx
     have g2:=lead_go hS.nd ly
     rw [e,g2] at g1
     exact (Option.some.inj g1).symm)
    have xl:=FL.len hN fx
    refine ⟨_,rfl,_,rfl,l,r,a1,a2,as,t,x,y,rfl,S17 _ _ hl,er7,ea1,ea2,S17 _ _ ha1,S17 _ _ ha2,hl',hxy,by omega,fun w c x' y' H8 s8 ex ey hd ew=>⟨small (by simp),fun q hq=> ?_⟩⟩
    have rg:=ring_made hN hS.nd pN tm lx ly ex ey hl'
    have sq:=Ac (o:= .tup [.str (Str.ofString "ring"),.ref w]) hq
    have xl1:x'.length≤30:=by rw [ex,List.length_append] at xl;omega
    have yl1:y'.length≤30:=by rw [hl',ey,List.length_append] at xl;omega
    refine k q w false _ _ ((S7.trans s8).trans sq) Ab (sq _ _ ew) (.inr ⟨rfl,_,rfl,rg,by rw [List.length_append,List.length_append,List.length_reverse];show _+1+_≤61;omega,i,t,x,y,c,x',y',ht,fx,fy,by omega,fun u hu a b fa fb=> ?_,ex,ey,hd,rfl⟩)
    have uN:=hN u (List.mem_of_mem_take hu)
    obtain ⟨_,a',_,_,fa',na⟩:=nv _ uN.1
    obtain ⟨_,b',_,_,fb',nb⟩:=nv _ uN.2
    have:=no u hu
    rw [na,nb,FL.uniq hN (by exact Nat.le_trans (by assumption) (by decide)) fa' fa,FL.uniq hN (by exact Nat.le_trans (by assumption) (by decide)) fb' fb] at this
    omega
   ·rw [show decide (V.int (ns.getD t.2.1 0)=V.int (ns.getD t.2.2.1 0))=false from decide_eq_false (fun e=>g (by injection e))]
    refine C3 ⟨_,rfl,rfl,fun t' ht'=> ?_⟩
    rw [tk] at ht'
    rcases List.mem_append.mp ht' with h|h
    ·exact no t' h
    ·rw [List.mem_singleton.mp h];exact g
  ·intro σ H5 hI2_
   refine Cg fun G_ hG_=> ?_
   obtain ⟨u4,rfl,rfl,no⟩:=hI2_
   refine hG_ ?_
   rw [List.length_map,hrs.1,List.take_length] at no
   refine ⟨_,rfl,small (by simp),fun r hr'=> ?_⟩
   have sq:=Ac (o:= .tup [.str (Str.ofString "sides"),.ref nt]) hr'
   refine k r nt true _ _ (S7.trans sq) Ab (sq _ _ n7) (.inl ⟨rfl,ns,rfl,⟨nl,fun v hv=> ?_,no⟩,fun v hv=> ?_⟩)
   ·obtain ⟨_,ws,_,_,_,e⟩:=nv v hv
    rw [e];omega
   ·obtain ⟨_,ws,_,_,f,e⟩:=nv v hv
    rw [e];exact f.par hN (by exact Nat.le_trans (by assumption) (by decide))
end
end K28
namespace K28
open PySem L2 Wk
inductive SpStandBP (vs:List V) (H:Hp) (Q:VK) (u_3:XK):Prop
 |mk (h:Addr) (N:Nat) (ds:List Dd) (n:Nat):(vs=[.ref h,.int (n:Int)])→(HistAt H h N ds)→(Right N ds)→(n≤ds.length)→(∀st S H',Same H H'→StandAt H' st S→Srtd S (thr (ds.take n))→Q (.ref st) H')→SpStandBP vs H Q u_3
def spStandB:Sp:=fun vs H Q u_3=>SpStandBP vs H Q u_3
theorem rows_stand {H H':Hp} {qs qs':List Srt.Row} {S:List T4} {st:Addr} (hat:∀q∈qs,IsTie q.2∧H q.1=some (.tup (q.2.map kV))) (hS:(qs.map fun q=>tieOf q.2).Perm S) (perm:qs'.Perm qs) (srt:qs'.Pairwise fun a b=>Srt.ltR b.2 a.2=false) (s:Same H H') (hst:H' st=some (.tup (qs'.map Srt.rRef))):
  StandAt H' st (qs'.map fun q=>tieOf q.2)∧Srtd (qs'.map fun q=>tieOf q.2) S:=by
 have hk:∀q∈qs',keysOf (tieOf q.2)=q.2:=fun q hq=>by
  obtain ⟨⟨t,e⟩,_⟩:=hat q (perm.mem_iff.mp hq)
  rw [e,tieOf_keys]
 refine ⟨⟨qs'.map (·.1),?_,?_⟩,(perm.map _).trans hS,?_⟩
 ·have:(qs'.map (·.1)).map V.ref=qs'.map Srt.rRef:=by rw [List.map_map];rfl
  rw [this];exact hst
 ·refine ⟨by simp,fun i a t ha ht=> ?_⟩
  obtain ⟨q,hq,rfl⟩:=map_some ha
  rw [List.getElem?_map,hq] at ht
  cases ht
  obtain ⟨⟨t,e⟩,h9⟩:=hat q (perm.mem_iff.mp (List.mem_of_getElem? hq))
  show _=some (HO.tup (tieV (tieOf q.2)))
  rw [e,tieOf_keys,←keys_tieV,←e]
  exact s _ _ h9
 ·rw [List.pairwise_map]
  refine srt.imp_of_mem fun {a b} ha hb h=> ?_
  rw [hk a ha,hk b hb];exact h
section
variable {P:Program} {w:World} {K:PySem.W.Frag} {mg:Str→Option Value} {base:Heap} {C I:Addr}
theorem scStandB:Ax ["history","n","there","deed","name"] ["history","n"] (Ag sStandB):=⟨rfl,rfl,rfl,by decide+kernel,rfl,by decide+kernel,by decide+kernel⟩
theorem ok_StandB {f:Addr} {fd:FuncData} (F:Fun K "stand_behind" "stand_behind" sStandB f fd) (T:Txt K mg C I):
  FnOk P w K mg base CX0 1 f fd ["history","n"] spStandB:=by
 refine F.ok scStandB (fun vs H Q E h=> ?_) (fun cdv A outer s H vs Q E hr h=> ?_)
 ·obtain ⟨_,_,_,_,rfl,_⟩:=h;rfl
 ·obtain ⟨h,N,ds,n,rfl,⟨tp,rs,eh,et,hdd⟩,hR,hn,k⟩:=h
  refine ⟨_,Af (Aq (i:=2) scStandB.nd rfl (Or.inl rfl) pe_dnewK)
   (Af (Cs PassesOwn.never rfl (pi_tup (PE.imp' (t':=tTakeH K 0 1) (Bs sl_tupA (Ap Az (pv 0) Ae (fun _ _=>rfl)) Cj (Bv (pv 1))) takeH_ok)) (An (i:=3) scStandB.nd rfl (Or.inl rfl)) (Af (Aq (i:=4) scStandB.nd rfl (Or.inl rfl) (Ap Az (pv 3) Ae (fun _ _=>rfl)))
   (Ah (B3 (A0 By (Ap Az (pv 3) Ae (fun _ _=>rfl)) Bw (A1 _)) (Ah (ps_dput (hu_of hr) (pv 2) (pv 4) (Bs sl_tup (pv 3) (Bv Ae) Cj) rfl)) (Ah (ps_ddel (pv 2) (pv 4)))))))
   (Ah (Ay (Be Bc (by rfl) T.tuple (by decide+kernel) (Aa (A8 (Srt.call_sortedV rfl) (by rfl) T.sorted (by decide+kernel) (Aa (Srt.pe_dvals (pv 2) rfl rfl) Ad)) Ad))))),?_⟩
  refine fun th hth=> ?_
  have s1:=Ac (o:= .dK []) hth
  have d1:=Ab (H:=H) (a:=th) (o:= .dK [])
  generalize upd H th (.dK [])=H1 at s1 d1
  have lrs:=hdd.1
  refine ⟨h,tp,_,n,rs.map V.ref,rfl,rfl,s1 _ _ eh,s1 _ _ et,by rw [List.length_map];omega,fun p0 H2 s2 hp0=> ?_⟩
  rw [←List.map_take] at hp0
  have n60:=hR.len
  refine ⟨p0,rfl,⟨_,SqT.of hp0⟩,for_tupH (K:=K) (a:=p0) (xs:=(rs.take n).map V.ref) (fun i σ H3=>∃(x3 x4:Option V) (ps:Ps),σ=[some (.ref h),some (.int (n:Int)),some (.ref th),x3,x4]∧Same H H3∧H3 p0=some (.tup ((rs.take n).map V.ref))∧ThF H3 th ps∧ps.map (·.1)=thr (ds.take i)) ⟨none,none,[],rfl,s1.trans s2,hp0,⟨s2 _ _ d1,by simp⟩,rfl⟩ (fun i σ H3 _ ⟨_,_,_,_,_,e,_⟩=>SqT.of e) ?_ ?_⟩
  ·intro i x σ H3 hx hI5_ E3 hE3 _
   refine Cg fun G_ hG_=> ?_
   obtain ⟨x3,x4,ps,rfl,s3,p3,T3,fs⟩:=hI5_
   obtain ⟨r,er,rfl⟩:=map_some hx
   have li:i<n:=by have:=(List.getElem?_eq_some_iff.mp er).1;rw [List.length_take] at this;omega
   refine hG_ ?_
   rw [List.getElem?_take_of_lt li] at er
   obtain ⟨dd,ed,r0⟩:=hdd.get er
   have r3:=s3 _ _ r0
   have hok:=hR.ok i dd ed
   have tl:=thr_len ds i
   have pl:ps.length≤60:=by rw [←List.length_map (f:=(·.1)),fs];omega
   have tok:=thr_ok hR i (by omega)
   rw [Ce ed,thr_snoc] at hE3
   cases dd with
   |come m t=>
    have nf:t.1 ∉ ps.map (·.1.1):=by rw [←ps_names,fs];exact hok.1
    refine ⟨_,rfl,r,_,2,_,rfl,rfl,SqT.of r3,Am (j:=2) rfl,?_⟩
    refine ⟨_,rfl,r,_,0,_,rfl,rfl,SqT.of r3,Am (j:=0) rfl,rfl,_,rfl,iteT ?_⟩
    refine ⟨_,rfl,_,rfl,r,_,rfl,SqT.of r3,(fun q=>absurd (show (2:Nat)=0 from q.1) (by decide)),fun p hp=> ?_⟩
    have ec:cutV (Dd.come m t).vs (some 2) none=tieV t:=rfl
    rw [ec]
    have s4:=Ac (o:= .tup (tieV t)) hp
    have p4:=Ab (H:=H3) (a:=p) (o:= .tup (tieV t))
    generalize upd H3 p (.tup (tieV t))=H4 at s4 p4
    have d4:=s4 _ _ T3.1
    refine ⟨_,rfl,_,rfl,th,_,rfl,DPut.k (k:=Sum.inr t.1) d4 (Aw (by unfold psK;rw [List.length_map];exact Nat.le_trans (by assumption) (by decide))),?_⟩
    rw [psK_put nf]
    refine hE3 _ _ ⟨_,_,ps++[(t,p)],rfl,Bi (s3.trans s4) hth,by rw [Ai (Ao (s4 _ _ p3) d4 (by intro z;cases z))];exact s4 _ _ p3,⟨Ab,fun q hq=> ?_⟩,by rw [List.map_append,fs];rfl⟩
    rcases List.mem_append.mp hq with hq|hq
    ·rw [Ai (Ao (s4 _ _ (T3.2 q hq)) d4 (by intro z;cases z))];exact s4 _ _ (T3.2 q hq)
    ·rw [List.mem_singleton.mp hq,Ai (Ao p4 d4 (by intro z;cases z))];exact p4
   |go m nn=>
    refine ⟨_,rfl,r,_,2,_,rfl,rfl,SqT.of r3,Am (j:=2) rfl,?_⟩
    refine ⟨_,rfl,r,_,0,_,rfl,rfl,SqT.of r3,Am (j:=0) rfl,rfl,_,rfl,C3 ?_⟩
    have hin:(Bn (psK ps) (Sum.inr nn)).isSome=true:=by
     rw [val_has,decide_eq_true_eq,←ps_names,fs];exact hok
    refine ⟨_,rfl,_,rfl,th,_,Sum.inr nn,rfl,T3.1,rfl,hin,?_⟩
    rw [psK_drop]
    refine hE3 _ _ ⟨_,_,ps.filter (fun p=>decide (p.1.1≠nn)),rfl,Bi s3 hth,by rw [Ai (Ao p3 T3.1 (by intro z;cases z))];exact p3,⟨Ab,fun q hq=> ?_⟩,by rw [ps_filt,fs];rfl⟩
    rw [Ai (Ao (T3.2 q (List.mem_filter.mp hq).1) T3.1 (by intro z;cases z))];exact T3.2 q (List.mem_filter.mp hq).1
  ·intro σ H3 hI2_
   refine Cg fun G_ hG_=> ?_
   obtain ⟨x3,x4,ps,rfl,s3,p3,T3,fs⟩:=hI2_
   have en:((rs.take n).map V.ref).length=n:=by rw [List.length_map,List.length_take];omega
   refine hG_ ?_
   rw [en] at fs
   have tl:=thr_len ds n
   have pl:ps.length≤60:=by rw [←List.length_map (f:=(·.1)),fs];omega
   refine ⟨_,rfl,th,_,rfl,T3.1,fun v hv=> ?_⟩
   have s4:=Ac (o:= .frz (Srt.viewO th) (.own 0)) hv
   have v4:=Ab (H:=H3) (a:=v) (o:= .frz (Srt.viewO th) (.own 0))
   generalize upd H3 v (.frz (Srt.viewO th) (.own 0))=H4 at s4 v4
   have hat:∀q∈ps.map (fun p=>((p.2,keysOf p.1):Srt.Row)),IsTie q.2∧H4 q.1=some (.tup (q.2.map kV)):=fun q hq=>by
    obtain ⟨p,hp,rfl⟩:=List.mem_map.mp hq
    exact ⟨⟨_,rfl⟩,s4 _ _ (T3.2 p hp)⟩
   refine ⟨v,th,psK ps,ps.map (fun p=>((p.2,keysOf p.1):Srt.Row)),rfl,v4,s4 _ _ T3.1,?_,⟨fun q hq=>SqT.of (hat q hq).2,fun q hq q' hq'=> ?_,fun q hq=> ?_,by rw [List.length_map];exact Nat.lt_of_le_of_lt (by assumption) (by decide)⟩,fun l ps' hl pp pw=> ?_⟩
   ·unfold psK
    rw [List.map_map,List.map_map]
    rfl
   ·obtain ⟨⟨t,e⟩,_⟩:=hat q hq
    obtain ⟨⟨t',e'⟩,_⟩:=hat q' hq'
    rw [e,e'];rfl
   ·obtain ⟨⟨t,e⟩,_⟩:=hat q hq
    rw [e];simp [keysOf]
   have sl:=Ac (o:= .lst (ps'.map Srt.rRef)) hl
   have l5:=Ab (H:=H4) (a:=l) (o:= .lst (ps'.map Srt.rRef))
   generalize upd H4 l (.lst (ps'.map Srt.rRef))=H5 at sl l5
   refine ⟨l,_,rfl,.inl ⟨SqL.of l5,fun st hst=> ?_⟩⟩
   have ss:=Ac (o:= .tup (ps'.map Srt.rRef)) hst
   have hS:((ps.map (fun p=>((p.2,keysOf p.1):Srt.Row))).map fun q=>tieOf q.2).Perm (thr (ds.take n)):=by
    rw [List.map_map,←fs]
    refine List.Perm.of_eq (List.map_congr_left fun p _=>tieOf_keys p.1)
   obtain ⟨x1,x2⟩:=rows_stand hat hS pp pw (sl.trans ss) Ab
   exact k st _ _ (((s3.trans s4).trans sl).trans ss) x1 x2
end
end K28
namespace K28
open PySem L2 Wk
noncomputable def twoB (S:List T4):Bool:= @decide (Two S) (Classical.propDecidable _)
theorem twoB_t {S:List T4} (h:Two S):twoB S=true:=by unfold twoB;exact @decide_eq_true _ (Classical.propDecidable _) h
theorem twoB_f {S:List T4} (h:¬Two S):twoB S=false:=by unfold twoB;exact @decide_eq_false _ (Classical.propDecidable _) h
theorem twoB_perm {S S':List T4} (h:S.Perm S'):twoB S=twoB S':=by
 by_cases g:Two S
 ·rw [twoB_t g,twoB_t (g.mono fun t ht=>h.mem_iff.mpr ht)]
 ·rw [twoB_f g,twoB_f fun g'=>g (g'.mono fun t ht=>h.mem_iff.mp ht)]
theorem srtd_sok {N:Nat} {ds:List Dd} (hR:Right N ds) {n:Nat} (hn:n≤ds.length) {S:List T4} (h:Srtd S (thr (ds.take n))):SOk N S:=by
 have tk:=thr_ok hR n hn
 refine ⟨fun t ht=> ?_,?_,fun t ht=> ?_,?_⟩
 ·have:=tk.ok t (h.1.mem_iff.mp ht)
  exact ⟨this.1,this.2.1⟩
 ·rw [List.Perm.nodup_iff (h.1.map _)];exact tk.nd
 ·exact (tk.ok t (h.1.mem_iff.mp ht)).2.2
 ·rw [h.1.length_eq]
  have:=thr_len ds n
  have:=hR.len
  omega
inductive SpHaveTwoP (vs:List V) (H:Hp) (Q:VK) (u_3:XK):Prop
 |mk (N:Nat) (st:Addr) (S:List T4):(vs=[.int (N:Int),.ref st])→(StandAt H st S)→(SOk N S)→(N≤30)→(∀H',Same H H'→Q (.bl (twoB S)) H')→SpHaveTwoP vs H Q u_3
def spHaveTwo:Sp:=fun vs H Q u_3=>SpHaveTwoP vs H Q u_3
section
variable {P:Program} {w:World} {K:PySem.W.Frag} {mg:Str→Option Value} {base:Heap} {C I:Addr}
theorem scHaveTwo:Ax ["many","stand"] ["many","stand"] (Ag sHaveTwo):=⟨rfl,rfl,rfl,by decide+kernel,rfl,by decide+kernel,by decide+kernel⟩
theorem ok_HaveTwo {f:Addr} {fd:FuncData} (F:Fun K "have_two_sides" "have_two_sides" sHaveTwo f fd) (T:Txt K mg C I)
  {gSidesOf:Addr} {fSidesOf:FuncData} (kSidesOf:PySem.W.keepIn K (.ref gSidesOf)=true) (bSidesOf:Binds K fSidesOf ["many","stand"] []) (hSidesOf:mg "sides_of"=some (.ref gSidesOf)) (GSidesOf:FnOk P w K mg base CX0 6 gSidesOf fSidesOf ["many","stand"] spSidesOf):
  FnOk P w K mg base CX0 7 f fd ["many","stand"] spHaveTwo:=by
 refine F.ok scHaveTwo (fun vs H Q E h=> ?_) (fun cdv A outer s H vs Q E hr h=> ?_)
 ·obtain ⟨_,_,_,rfl,_⟩:=h;rfl
 ·obtain ⟨N,st,S,rfl,hst,hS,N30,k⟩:=h
  refine ⟨_,Ah (Ay (Cv By (Ap Az (Al GSidesOf hr rfl hSidesOf kSidesOf bSidesOf .nil Ar (Aa (pv 0) (Aa (pv 1) Ad))) Ae (fun _ _=>rfl)) Bw (A1 _))),?_⟩
  refine ⟨_,rfl,_,rfl,N,st,S,rfl,hst,hS,N30,fun r wa sd xs H1 s1 er ew told=>⟨r,_,0,_,rfl,rfl,SqT.of er,Am (j:=0) rfl,rfl,?_⟩⟩
  have e:decide (V.str (wordF sd)=V.str (Str.ofString "sides"))=twoB S:=by
   rcases told with ⟨rfl,ns,_,g,_⟩|⟨rfl,ws,_,ring,_⟩
   ·rw [twoB_t (g.two' hS.inn)];decide+kernel
   ·rw [twoB_f ring.not];decide+kernel
  rw [e]
  exact k H1 s1
end
end K28
namespace K28
open PySem L2 Wk
def prV (t:T4):List V:=[.int (t.2.1:Int),.int (t.2.2.1:Int)]
def Prs (H:Hp) (rs:List Addr) (S:List T4):Prop:=rs.length=S.length∧∀(i:Nat) r t,rs[i]? =some r→S[i]? =some t→H r=some (.tup (prV t))
theorem Prs.mono {H H':Hp} {rs:List Addr} {S:List T4} (h:Prs H rs S) (f:∀r xs,H r=some (.tup xs)→H' r=some (.tup xs)):Prs H' rs S:=⟨h.1,fun i r k a b=>f _ _ (h.2 i r k a b)⟩
theorem Prs.get {H:Hp} {rs:List Addr} {S:List T4} (h:Prs H rs S) {i:Nat} {r:Addr} (hr:rs[i]? =some r):∃k,S[i]? =some k∧H r=some (.tup (prV k)):=by
 have hi:i<S.length:=by rw [←h.1];exact (List.getElem?_eq_some_iff.mp hr).1
 exact ⟨S[i],Cc hi,h.2 i r _ hr (Cc hi)⟩
theorem Prs.snoc {H:Hp} {rs:List Addr} {S:List T4} {r:Addr} {k:T4} (h:Prs H rs S) (hr:H r=some (.tup (prV k))):Prs H (rs++[r]) (S++[k]):=by
 refine ⟨by rw [List.length_append,List.length_append,h.1];rfl,fun i r0 p0 e1 e2=> ?_⟩
 rw [List.getElem?_append] at e1 e2
 rw [h.1] at e1
 split at e1
 ·rename_i c
  rw [if_pos c] at e2
  exact h.2 i r0 p0 e1 e2
 ·rename_i c
  rw [if_neg c] at e2
  have hz:i - S.length=0:=by
   have:=(List.getElem?_eq_some_iff.mp e1).1
   simp only [List.length_cons,List.length_nil] at this
   omega
  rw [hz] at e1 e2
  cases e1
  cases e2
  exact hr
end K28
namespace K28
open PySem L2 Wk
theorem reach_perm {S T:List T4} (h:S.Perm T) {a b:Nat}:Reach S a b↔Reach T a b:=⟨fun r=>r.mono fun t ht=>h.mem_iff.mp ht,fun r=>r.mono fun t ht=>h.mem_iff.mpr ht⟩
theorem in_perm {N:Nat} {S T:List T4} (h:S.Perm T) (hS:InN N S):InN N T:=fun t ht=>hS t (h.mem_iff.mpr ht)
theorem part_perm {N p:Nat} {S T:List T4} (h:S.Perm T) (hS:InN N S) (hN:N≤60) (hp:p<N):Bd N S p=Bd N T p:=by
 have hT:=in_perm h hS
 unfold Bd
 refine List.filter_congr fun v hv=> ?_
 have h1:=C1 (v:=v) hS hp hN
 have h2:=C1 (v:=v) hT hp hN
 unfold Bd at h1 h2
 rw [List.mem_filter] at h1 h2
 rw [Bool.eq_iff_iff]
 constructor
 ·intro e
  obtain ⟨a,b⟩:=h1.mp ⟨hv,e⟩
  exact (h2.mpr ⟨a,(reach_perm h).mp b⟩).2
 ·intro e
  obtain ⟨a,b⟩:=h2.mp ⟨hv,e⟩
  exact (h1.mpr ⟨a,(reach_perm h).mpr b⟩).2
theorem ls_perm {N:Nat} {S T:List T4} (h:S.Perm T) (hS:InN N S) (hN:N≤60):lsF N S=lsF N T:=by
 unfold lsF
 refine List.filter_congr fun v hv=> ?_
 rw [part_perm h hS hN (List.mem_range.mp hv)]
noncomputable def ansS (N:Nat) (S:List T4):Ak→V
 | .jo _ p q=> .bl (decide (q∈Bd N S p))
 | .pa _=> .int ((lsF N S).length:Nat)
 | .si _ p=> .int ((Bd N S p).length:Nat)
 | .ev _=> .bl (twoB S)
theorem ans_perm {N L:Nat} {S T:List T4} (h:S.Perm T) (hS:InN N S) (hN:N≤60) {k:Ak} (ok:AkOk N L k):ansS N S k=ansS N T k:=by
 cases k with
 |jo n p q=>unfold ansS;simp only;rw [part_perm h hS hN ok.2.1]
 |pa n=>unfold ansS;simp only;rw [ls_perm h hS hN]
 |si n p=>unfold ansS;simp only;rw [part_perm h hS hN ok.2]
 |ev n=>unfold ansS;simp only;rw [twoB_perm h]
noncomputable def ansF (N:Nat) (ds:List Dd) (k:Ak):V:=ansS N (thr (ds.take k.n)) k
theorem vs_1 (k:Ak):k.vs[1]? =some (.int (k.n:Int)):=by cases k<;> rfl
theorem thr_in {N:Nat} {ds:List Dd} (h:Right N ds) {n:Nat} (hn:n≤ds.length):InN N (thr (ds.take n)):=fun t ht=>let z:=(thr_ok h n hn).ok t ht;⟨z.1,z.2.1⟩
end K28
namespace K28
open PySem L2 Wk
def spAns:Sp:=fun vs H Q _=>∃(N L:Nat) (st r:Addr) (S:List T4) (k:Ak),vs=[.int (N:Int),.ref st,.ref r]∧StandAt H st S∧SOk N S∧N≤30∧H r=some (.tup k.vs)∧AkOk N L k∧∀H',Same H H'→Q (ansS N S k) H'
def spPlain:Sp:=fun vs H Q _=>∃(h ta:Addr) (N:Nat) (ds:List Dd) (rs:List Addr) (ks:List Ak),vs=[.ref h,.ref ta]∧HistAt H h N ds∧Right N ds∧N≤24∧H ta=some (.tup (rs.map V.ref))∧AksAt H rs ks∧(∀k∈ks,AkOk N ds.length k)∧ks.length≤60∧∀r H',Same H H'→H' r=some (.tup (ks.map (ansF N ds)))→Q (.ref r) H'
section
variable {P:Program} {w:World} {K:PySem.W.Frag} {mg:Str→Option Value} {base:Heap} {C I:Addr}
theorem scAns:Ax ["many","stand","ask","word"] ["many","stand","ask"] (Ag sAns):=⟨rfl,rfl,rfl,by decide+kernel,rfl,by decide+kernel,by decide+kernel⟩
theorem ok_Ans {f:Addr} {fd:FuncData} (F:Fun K "answer_of" "answer_of" sAns f fd) (T:Txt K mg C I)
  {gJoined:Addr} {fJoined:FuncData} (kJoined:PySem.W.keepIn K (.ref gJoined)=true) (bJoined:Binds K fJoined ["many","stand","one","other"] []) (hJoined:mg "are_joined"=some (.ref gJoined)) (GJoined:FnOk P w K mg base CX0 7 gJoined fJoined ["many","stand","one","other"] spJoined)
  {gPtsOf:Addr} {fPtsOf:FuncData} (kPtsOf:PySem.W.keepIn K (.ref gPtsOf)=true) (bPtsOf:Binds K fPtsOf ["many","stand"] []) (hPtsOf:mg "parts_of"=some (.ref gPtsOf)) (GPtsOf:FnOk P w K mg base CX0 7 gPtsOf fPtsOf ["many","stand"] spPtsOf)
  {gPart:Addr} {fPart:FuncData} (kPart:PySem.W.keepIn K (.ref gPart)=true) (bPart:Binds K fPart ["many","stand","place"] []) (hPart:mg "part_of"=some (.ref gPart)) (GPart:FnOk P w K mg base CX0 7 gPart fPart ["many","stand","place"] spPart)
  {gHaveTwo:Addr} {fHaveTwo:FuncData} (kHaveTwo:PySem.W.keepIn K (.ref gHaveTwo)=true) (bHaveTwo:Binds K fHaveTwo ["many","stand"] []) (hHaveTwo:mg "have_two_sides"=some (.ref gHaveTwo)) (GHaveTwo:FnOk P w K mg base CX0 7 gHaveTwo fHaveTwo ["many","stand"] spHaveTwo):
  FnOk P w K mg base CX0 8 f fd ["many","stand","ask"] spAns:=by
 refine F.ok scAns (fun vs H Q E h=> ?_) (fun cdv A outer s H vs Q E hr h=> ?_)
 ·obtain ⟨_,_,_,_,_,_,rfl,_⟩:=h;rfl
 ·obtain ⟨N,L,st,r,S,kk,rfl,hst,sok,N30,hr1,ok,k⟩:=h
  refine ⟨_,Af (Aq (i:=3) scAns.nd rfl (Or.inl rfl) (Ap Az (pv 2) Ae (fun _ _=>rfl)))
   (Af (B3 (A0 By (pv 3) Bw (A1 _)) (Ah (Ay (Al GJoined hr rfl hJoined kJoined bJoined .nil Ar (Aa (pv 0) (Aa (pv 1) (Aa (Ap Az (pv 2) Ae (fun _ _=>rfl)) (Aa (Ap Az (pv 2) Ae (fun _ _=>rfl)) Ad))))))) Bk)
   (Af (B3 (A0 By (pv 3) Bw (A1 _)) (Ah (Ay (A8 A4 (by rfl) T.len PySem.boot_len (Aa (Al GPtsOf hr rfl hPtsOf kPtsOf bPtsOf .nil Ar (Aa (pv 0) (Aa (pv 1) Ad))) Ad)))) Bk)
   (Af (B3 (A0 By (pv 3) Bw (A1 _)) (Ah (Ay (A8 A4 (by rfl) T.len PySem.boot_len (Aa (Al GPart hr rfl hPart kPart bPart .nil Ar (Aa (pv 0) (Aa (pv 1) (Aa (Ap Az (pv 2) Ae (fun _ _=>rfl)) Ad)))) Ad)))) Bk)
   (Ah (Ay (Al GHaveTwo hr rfl hHaveTwo kHaveTwo bHaveTwo .nil Ar (Aa (pv 0) (Aa (pv 1) Ad)))))))),?_⟩
  have Sl:=sok.len
  cases kk with
  |jo n p q=>
   refine ⟨_,rfl,r,_,0,_,rfl,rfl,SqT.of hr1,Am (j:=0) rfl,?_⟩
   refine ⟨_,rfl,rfl,_,rfl,iteT ?_⟩
   exact ⟨_,rfl,_,rfl,_,rfl,r,_,2,_,rfl,rfl,SqT.of hr1,Am (j:=2) rfl,_,rfl,r,_,3,_,rfl,rfl,SqT.of hr1,Am (j:=3) rfl,N,st,S,p,q,rfl,hst,sok.inn,by omega,by omega,ok.2.1,k⟩
  |pa n=>
   refine ⟨_,rfl,r,_,0,_,rfl,rfl,SqT.of hr1,Am (j:=0) rfl,?_⟩
   refine ⟨_,rfl,rfl,_,rfl,C3 ?_⟩
   dsimp only [Cr]
   refine ⟨_,rfl,rfl,_,rfl,iteT ?_⟩
   refine ⟨_,rfl,_,rfl,N,st,S,rfl,hst,sok.inn,by omega,by omega,fun a as H' s' ha hp=>⟨a,_,rfl,.inr (SqT.of ha),?_⟩⟩
   rw [List.length_map,hp.1]
   exact k H' s'
  |si n p=>
   refine ⟨_,rfl,r,_,0,_,rfl,rfl,SqT.of hr1,Am (j:=0) rfl,?_⟩
   refine ⟨_,rfl,rfl,_,rfl,C3 ?_⟩
   dsimp only [Cr]
   refine ⟨_,rfl,rfl,_,rfl,C3 ?_⟩
   dsimp only [Cr]
   refine ⟨_,rfl,rfl,_,rfl,iteT ?_⟩
   refine ⟨_,rfl,_,rfl,_,rfl,r,_,2,_,rfl,rfl,SqT.of hr1,Am (j:=2) rfl,N,st,S,p,rfl,hst,sok.inn,by omega,by omega,ok.2,fun a H' s' ha=>⟨a,_,rfl,.inr (SqT.of ha),?_⟩⟩
   rw [List.length_map,List.length_map]
   exact k H' s'
  |ev n=>
   refine ⟨_,rfl,r,_,0,_,rfl,rfl,SqT.of hr1,Am (j:=0) rfl,?_⟩
   refine ⟨_,rfl,rfl,_,rfl,C3 ?_⟩
   dsimp only [Cr]
   refine ⟨_,rfl,rfl,_,rfl,C3 ?_⟩
   dsimp only [Cr]
   refine ⟨_,rfl,rfl,_,rfl,C3 ?_⟩
   dsimp only [Cr]
   exact ⟨_,rfl,_,rfl,N,st,S,rfl,hst,sok,N30,k⟩
theorem scPlain:Ax ["history","asks"] ["history","asks"] (Ag sPlain):=⟨rfl,rfl,rfl,by decide+kernel,rfl,by decide+kernel,by decide+kernel⟩
theorem ok_Plain {f:Addr} {fd:FuncData} (F:Fun K "answers_plainly" "answers_plainly" sPlain f fd) (T:Txt K mg C I)
  {gAns:Addr} {fAns:FuncData} (kAns:PySem.W.keepIn K (.ref gAns)=true) (bAns:Binds K fAns ["many","stand","ask"] []) (hAns:mg "answer_of"=some (.ref gAns)) (GAns:FnOk P w K mg base CX0 8 gAns fAns ["many","stand","ask"] spAns)
  {gStandB:Addr} {fStandB:FuncData} (kStandB:PySem.W.keepIn K (.ref gStandB)=true) (bStandB:Binds K fStandB ["history","n"] []) (hStandB:mg "stand_behind"=some (.ref gStandB)) (GStandB:FnOk P w K mg base CX0 8 gStandB fStandB ["history","n"] spStandB):
  FnOk P w K mg base CX0 9 f fd ["history","asks"] spPlain:=by
 refine F.ok scPlain (fun vs H Q E h=> ?_) (fun cdv A outer s H vs Q E hr h=> ?_)
 ·obtain ⟨_,_,_,_,_,_,rfl,_⟩:=h;rfl
 ·obtain ⟨h,ta,N,ds,rs,ks,rfl,hist,hR,N24,hta,hA,ok,k60,k⟩:=h
  refine ⟨_,Ah (Ay (Be Bc (by rfl) T.tuple (by decide+kernel) (Aa (C5 (T:=["ask"]) (F:=["history"]) (js:=[0]) (CS.to (osc:=Ag sPlain) ⟨by rfl,by decide+kernel,by decide+kernel,by decide+kernel,by decide+kernel,by decide+kernel,by decide+kernel⟩ rfl rfl) rfl (pi_tup (pv 1)) (fun _ _ _ _ _=>An (i:=0) (show (["ask","history"]:List Str).Nodup by decide+kernel) rfl (Or.inl rfl)) (fun _ _ _ _ _=>C4) (fun _ _ _ _ _=>Al GAns hr rfl hAns kAns bAns .nil Ar (Aa (Ap (r:=rIxT K) Az (pv 1) Ae (fun _ _=>rfl)) (Aa (Al GStandB hr rfl hStandB kStandB bStandB .nil Ar (Aa (pv 1) (Aa (Ap (r:=rIxT K) Az (pv 0) Ae (fun _ _=>rfl)) Ad))) (Aa (pv 0) Ad))))) Ad))),?_⟩
  obtain ⟨tp,rs0,eh,et,hdd⟩:=id hist
  refine ⟨_,rfl,ta,rfl,⟨_,SqT.of hta⟩,fun D hD=>comp_tup (K:=K) (a:=ta) (xs:=rs.map V.ref) (fun j σ ys H6=>∃(u:Option V),σ=[u,some (.ref h)]∧ys=(ks.take j).map (ansF N ds)∧Same H H6∧H6 D=some (.lst ys)) ⟨none,rfl,rfl,Ac hD,Ab⟩ (fun j σ ys H6 _ ⟨_,_,_,e,f⟩=>⟨SqT.of (e _ _ hta),f⟩) ?_ ?_⟩
  ·rintro j x σ ys H6 hx ⟨u,rfl,rfl,s6,D6⟩
   obtain ⟨r,hr',rfl⟩:=map_some hx
   obtain ⟨kk,hk,er⟩:=hA.get hr'
   have hj:j<ks.length:=(List.getElem?_eq_some_iff.mp hk).1
   have okk:=ok kk (List.mem_of_getElem? hk)
   have er6:=s6 _ _ er
   have tk:(ks.take (j+1)).map (ansF N ds)=(ks.take j).map (ansF N ds)++[ansF N ds kk]:=by rw [List.take_add_one,hk,List.map_append];rfl
   refine ⟨_,rfl,h,_,0,_,rfl,rfl,SqT.of (s6 _ _ eh),Am (j:=0) rfl,_,rfl,_,rfl,r,_,1,_,rfl,rfl,SqT.of er6,Am (j:=1) (vs_1 kk),h,N,ds,kk.n,rfl,hist.same s6,hR,okk.le,fun st S H7 s7 hst srt=> ?_⟩
   have sok:=srtd_sok hR okk.le srt
   refine ⟨_,rfl,N,ds.length,st,r,S,kk,rfl,hst,sok,by omega,s7 _ _ er6,okk,fun H8 s8=> ?_⟩
   rw [ans_perm srt.1 sok.inn (by omega) okk]
   refine ⟨s8 _ _ (s7 _ _ D6),Aw (by rw [List.length_map,List.length_take];omega),_,rfl,tk.symm,Bi ((s6.trans s7).trans s8) hD,Ab⟩
  rintro σ ys H6 ⟨u,rfl,rfl,s6,D6⟩
  rw [List.length_map,hA.1,List.take_length] at D6
  exact ⟨D,_,rfl,.inl ⟨SqL.of D6,fun z hz=>k z _ (s6.trans (Ac hz)) Ab⟩⟩
end
end K28
namespace K28
open PySem L2 Wk
def datV:V→PyData
 | .bl b=> .bool b
 | .int i=> .int i
 |_=> .none
theorem ans_rep {H:Hp} {N:Nat} {S:List T4} (k:Ak):Rp.RepF H false (ansS N S k) (datV (ansS N S k)):=by
 cases k with
 |jo n p q=>exact .bl _
 |pa n=>exact .int _
 |si n p=>exact .int _
 |ev n=>exact .bl _
theorem ans_fine {N L:Nat} {S:List T4} (hN:N≤60) (k:Ak):Rp.Fine 46 0 (datV (ansS N S k)):=by
 cases k with
 |jo n p q=>exact .bl _
 |pa n=>
  refine .int ?_
  have:(lsF N S).length≤N:=Nat.le_trans (List.length_filter_le ..) (by rw [List.length_range];exact Nat.le_refl _)
  show ((lsF N S).length:Int).natAbs<_
  rw [Int.natAbs_natCast]
  exact Nat.lt_of_le_of_lt (Nat.le_trans this hN) (by decide)
 |si n p=>
  refine .int ?_
  have:(Bd N S p).length≤N:=Nat.le_trans (List.length_filter_le ..) (by rw [List.length_range];exact Nat.le_refl _)
  show ((Bd N S p).length:Int).natAbs<_
  rw [Int.natAbs_natCast]
  exact Nat.lt_of_le_of_lt (Nat.le_trans this hN) (by decide)
 |ev n=>exact .bl _
theorem reps_all {H:Hp} {f:Ak→V} (h:∀k,Rp.RepF H false (f k) (datV (f k))):∀ks:List Ak,Rp.RepFs H false (ks.map f) ((ks.map f).map datV)
 |[]=> .nil
 |k::ks=> .cons (h k) (reps_all h ks)
def spLaw (K:PySem.W.Frag):Sp:=fun vs H Q _=>∃(s:Addr) (ns:List Int),vs=[.ref s]∧SqL K H s (ns.map V.int)∧ns.length≤63∧∀H',Q (.bl true) H'
end K28
namespace K28
open PySem L2 Wk M24
def PrI (H:Hp):List Addr→List (Int×Int)→Prop
 |[],[]=>True
 |r::rs,x::xs=>H r=some (.tup [.int x.1,.int x.2])∧PrI H rs xs
 |_,_=>False
theorem PrI.same {H H':Hp} (e:Same H H'):∀{rs:List Addr} {xs:List (Int×Int)},PrI H rs xs→PrI H' rs xs
 |[],[],_=>trivial
 |r::rs,x::xs,h=>⟨e _ _ h.1,PrI.same e h.2⟩
theorem PrI.app {H:Hp}:∀{rs rs':List Addr} {xs ys:List (Int×Int)},PrI H rs xs→PrI H rs' ys→PrI H (rs++rs') (xs++ys)
 |[],_,[],_,_,h=>h
 |r::rs,_,x::xs,_,h,h'=>⟨h.1,PrI.app h.2 h'⟩
theorem PrI.len {H:Hp}:∀{rs:List Addr} {xs:List (Int×Int)},PrI H rs xs→rs.length=xs.length
 |[],[],_=>rfl
 |r::rs,x::xs,h=>by simp [PrI.len h.2]
theorem PrI.get {H:Hp}:∀{rs:List Addr} {xs:List (Int×Int)} {i:Nat} {r:Addr},PrI H rs xs→rs[i]? =some r→∃x,xs[i]? =some x∧H r=some (.tup [.int x.1,.int x.2])
 |[],[],i,r,_,e=>by simp at e
 |r'::rs,x::xs,0,r,h,e=>by simp at e;subst e;exact ⟨x,rfl,h.1⟩
 |r'::rs,x::xs,i+1,r,h,e=>by
  obtain ⟨y,h1,h2⟩:=PrI.get (i:=i) h.2 (by simpa using e)
  exact ⟨y,by simpa using h1,h2⟩
theorem PrI.one {H:Hp} {r:Addr} {a b:Int} (h:H r=some (.tup [.int a,.int b])):PrI H [r] [(a,b)]:=⟨h,trivial⟩
theorem tAnd_of {t u:TT} {σ:St} {H:Hp} {Q:Bool→Hp→Prop} (x y:Bool) (h1:∀Q':Bool→Hp→Prop,Q' x H→t σ H Q') (h2:∀Q':Bool→Hp→Prop,Q' y H→u σ H Q') (h:Q (x && y) H):tAnd t u σ H Q:=by
 refine h1 _ ?_
 cases x with
 |true=>exact iteT (h2 _ h)
 |false=>exact C3 h
theorem tOr_of {t u:TT} {σ:St} {H:Hp} {Q:Bool→Hp→Prop} (x y:Bool) (h1:∀Q':Bool→Hp→Prop,Q' x H→t σ H Q') (h2:∀Q':Bool→Hp→Prop,Q' y H→u σ H Q') (h:Q (x||y) H):tOr t u σ H Q:=by
 refine h1 _ ?_
 cases x with
 |true=>exact iteT h
 |false=>exact C3 (h2 _ h)
def spPin (n:Nat):Sp:=fun vs H Q _=>∃(f l lo hi:Int),vs=[.int f,.int l,.int lo,.int hi]∧f<l∧l - f≤2 ^ n∧n≤6∧
 ∀(a:Addr) (rs:List Addr) (H':Hp),Same H H'→H a=none→H' a=some (.lst (rs.map V.ref))→PrI H' rs (pin n f l lo hi)→Q (.ref a) H'
def spPo:Sp:=fun vs H Q _=>∃(sz lo hi:Int),vs=[.int sz,.int lo,.int hi]∧0<sz∧sz≤64∧
 ∀(a:Addr) (rs:List Addr) (H':Hp),Same H H'→H' a=some (.tup (rs.map V.ref))→PrI H' rs (pin 6 0 sz lo hi)→Q (.ref a) H'
section
variable {P:Program} {w:World} {K:PySem.W.Frag} {mg:Str→Option Value} {base:Heap} {C I:Addr}
theorem scPin:Ax ["first","last","low","high","middle"] ["first","last","low","high"] (Ag sPin):=⟨rfl,rfl,rfl,by decide+kernel,rfl,by decide+kernel,by decide+kernel⟩
theorem ok_pin {f:Addr} {fd:FuncData} (F:Fun K "pieces_in" "pieces_in" sPin f fd) (b:Binds K fd ["first","last","low","high"] []) (hm:mg "pieces_in"=some (.ref f)):
  ∀n,FnOk P w K mg base CX0 (n+1) f fd ["first","last","low","high"] (spPin n):=by
 intro n
 induction n with
 |zero=>
  refine F.ok scPin (fun vs H Q E h=> ?_) (fun cdv A outer s H vs Q E hr h=> ?_)
  ·obtain ⟨_,_,_,_,rfl,_⟩:=h;rfl
  ·obtain ⟨f',l,lo,hi,rfl,h1,h2,h3,k⟩:=h
   have h2:l - f'≤1:=h2
   refine ⟨_,Af (B3 (PW.pt (pw_and (A0 op_le (pv 2) (pv 0) (A1 _)) (pw_and1 (A0 op_le (pv 1) (pv 3) (A1 _))))) (Ah (Ay (Bh (Aa (Ba (Aa (pv 0) (Aa (pv 1) Ad))) Ad)))) Bk)
    (Af (B3 (PW.pt (pw_or (A0 op_le (pv 1) (pv 2) (A1 _)) (pw_or1 (A0 op_le (pv 3) (pv 0) (A1 _))))) (Ah (Ay (Bh Ad))) Bk) pss_never),?_⟩
   refine tAnd_of (decide (lo≤f')) (decide (l≤hi)) (fun Q' q=>⟨_,rfl,_,rfl,_,_,rfl,rfl,_,rfl,q⟩) (fun Q' q=>⟨_,rfl,_,rfl,_,_,rfl,rfl,_,rfl,q⟩) ?_
   refine Cw (fun c=> ?_) (fun c=> ?_)
   ·have c:lo≤f'∧l≤hi:=by simpa using c
    refine ⟨_,rfl,_,rfl,small (by simp),fun t ht=>⟨small (by simp),fun a ha=> ?_⟩⟩
    have ha':H a=none:=(Ac ht).free ha
    refine k a [t] _ ((Ac ht).trans (Ac ha)) ha' Ab ?_
    have e:pin 0 f' l lo hi=[(f',l)]:=by rw [pin,if_pos c]
    rw [e]
    exact PrI.one (Ac ha _ _ Ab)
   ·have c:¬(lo≤f'∧l≤hi):=by simpa using c
    dsimp only [Cr]
    refine tOr_of (decide (l≤lo)) (decide (hi≤f')) (fun Q' q=>⟨_,rfl,_,rfl,_,_,rfl,rfl,_,rfl,q⟩) (fun Q' q=>⟨_,rfl,_,rfl,_,_,rfl,rfl,_,rfl,q⟩) ?_
    refine Cw (fun d=> ?_) (fun d=> ?_)
    ·refine ⟨small (by simp),fun a ha=> ?_⟩
     have e:pin 0 f' l lo hi=[]:=by rw [pin,if_neg c]
     exact k a [] _ (Ac ha) ha Ab (by rw [e];trivial)
    ·have d:¬(l≤lo∨hi≤f'):=by simpa using d
     omega
 |succ n ih=>
  refine F.ok scPin (fun vs H Q E h=> ?_) (fun cdv A outer s H vs Q E hr h=> ?_)
  ·obtain ⟨_,_,_,_,rfl,_⟩:=h;rfl
  ·obtain ⟨f',l,lo,hi,rfl,h1,h2,h3,k⟩:=h
   have h2:l - f'≤2 * 2 ^ n:=by rw [Int.pow_succ] at h2;omega
   refine ⟨_,Af (B3 (PW.pt (pw_and (A0 op_le (pv 2) (pv 0) (A1 _)) (pw_and1 (A0 op_le (pv 1) (pv 3) (A1 _))))) (Ah (Ay (Bh (Aa (Ba (Aa (pv 0) (Aa (pv 1) Ad))) Ad)))) Bk)
    (Af (B3 (PW.pt (pw_or (A0 op_le (pv 1) (pv 2) (A1 _)) (pw_or1 (A0 op_le (pv 3) (pv 0) (A1 _))))) (Ah (Ay (Bh Ad))) Bk)
    (Af (Aq (i:=4) scPin.nd rfl (Or.inl rfl) (As op_fdiv (As Bl (pv 0) (pv 1)) Ae))
    (Ah (Ay (As op_cat (Al ih hr rfl hm F.kp b .nil Ar (Aa (pv 0) (Aa (pv 4) (Aa (pv 2) (Aa (pv 3) Ad)))))
     (Al ih hr rfl hm F.kp b .nil Ar (Aa (pv 4) (Aa (pv 1) (Aa (pv 2) (Aa (pv 3) Ad)))))))))),?_⟩
   refine tAnd_of (decide (lo≤f')) (decide (l≤hi)) (fun Q' q=>⟨_,rfl,_,rfl,_,_,rfl,rfl,_,rfl,q⟩) (fun Q' q=>⟨_,rfl,_,rfl,_,_,rfl,rfl,_,rfl,q⟩) ?_
   refine Cw (fun c=> ?_) (fun c=> ?_)
   ·have c:lo≤f'∧l≤hi:=by simpa using c
    refine ⟨_,rfl,_,rfl,small (by simp),fun t ht=>⟨small (by simp),fun a ha=> ?_⟩⟩
    have ha':H a=none:=(Ac ht).free ha
    refine k a [t] _ ((Ac ht).trans (Ac ha)) ha' Ab ?_
    have e:pin (n+1) f' l lo hi=[(f',l)]:=by rw [pin,if_pos c]
    rw [e]
    exact PrI.one (Ac ha _ _ Ab)
   ·have c:¬(lo≤f'∧l≤hi):=by simpa using c
    dsimp only [Cr]
    refine tOr_of (decide (l≤lo)) (decide (hi≤f')) (fun Q' q=>⟨_,rfl,_,rfl,_,_,rfl,rfl,_,rfl,q⟩) (fun Q' q=>⟨_,rfl,_,rfl,_,_,rfl,rfl,_,rfl,q⟩) ?_
    refine Cw (fun d=> ?_) (fun d=> ?_)
    ·have d:l≤lo∨hi≤f':=by simpa using d
     refine ⟨small (by simp),fun a ha=> ?_⟩
     have e:pin (n+1) f' l lo hi=[]:=by rw [pin,if_neg c,if_pos d]
     exact k a [] _ (Ac ha) ha Ab (by rw [e];trivial)
    ·have d:¬(l≤lo∨hi≤f'):=by simpa using d
     have e:pin (n+1) f' l lo hi=pin n f' ((f'+l) / 2) lo hi++pin n ((f'+l) / 2) l lo hi:=by rw [pin,if_neg c,if_neg d]
     dsimp only [Cr]
     refine ⟨_,rfl,_,rfl,_,_,rfl,rfl,_,_,rfl,rfl,⟨by decide,by decide⟩,?_⟩
     have hp:(1:Int)≤2 ^ n:=by
      have:=Int.pow_pos (n:=2) (m:=n) (by decide);omega
     refine ⟨_,rfl,_,rfl,_,rfl,_,rfl,_,_,_,_,rfl,by omega,by omega,by omega,fun a1 rs1 H1 s1 n1 l1 p1=> ?_⟩
     refine ⟨_,rfl,_,rfl,_,rfl,_,rfl,_,_,_,_,rfl,by omega,by omega,by omega,fun a2 rs2 H2 s2 n2 l2 p2=> ?_⟩
     have q1:=p1.len
     have q2:=p2.len
     have m1:=pin_len n f' ((f'+l) / 2) lo hi
     have m2:=pin_len n ((f'+l) / 2) l lo hi
     have m3:2 ^ n≤2 ^ 6:=Nat.pow_le_pow_right (by decide) (by omega)
     refine ⟨a1,a2,_,_,rfl,rfl,s2 _ _ l1,l2,small (by simp;omega),fun a ha=> ?_⟩
     have s3:=(s1.trans s2).trans (Ac (o:= .lst (rs1.map V.ref++rs2.map V.ref)) ha)
     refine k a (rs1++rs2) _ s3 ((s1.trans s2).free ha) (by rw [Ab,List.map_append]) ?_
     rw [e]
     exact ((p1.same s2).app p2).same (Ac ha)
end
end K28
namespace K28
open PySem L2 Wk M24
def toD:Dd→Deed
 | .come m t=> .come m t.1 (t.2.1:Int) (t.2.2.1:Int) t.2.2.2
 | .go m n=> .go m n
theorem toD_vs (d:Dd):(toD d).vs=d.vs:=by cases d<;> rfl
def Life.t4 (l:Life):T4:=(l.n,l.a.toNat,l.b.toNat,l.w)
theorem map_take_get {ds:List Dd} {i:Nat} {d:Dd} (h:ds[i]? =some d):(ds.map toD)[i]? =some (toD d):=by rw [List.getElem?_map,h];rfl
theorem here_thr {ds:List Dd} (n:Str):∀i,i≤ds.length→(hereR ((ds.map toD).take i).reverse n=true↔n∈(thr (ds.take i)).map (·.1))
 |0,_=>by simp [thr,hereR]
 |i+1,hi=>by
  have e:=Cc (l:=ds) (i:=i) (by omega)
  have ih:=here_thr (ds:=ds) n i (by omega)
  rw [Ce (map_take_get e),Ce e,thr_snoc,List.reverse_append]
  cases hd:ds[i] with
  |come m t=>
   show hereR (Deed.come m t.1 _ _ _::_) n=true↔_
   unfold hereR
   show _↔n∈(thr (ds.take i)++[t]).map (·.1)
   rw [List.map_append,List.mem_append,←ih]
   by_cases q:t.1=n
   ·simp [q]
   ·simp [q];intro z;exact absurd z.symm q
  |go m k=>
   show hereR (Deed.go m k::_) n=true↔_
   unfold hereR
   show _↔n∈((thr (ds.take i)).filter fun t=>decide (t.1≠k)).map (·.1)
   rw [filt_names,List.mem_filter,←ih]
   by_cases q:k=n
   ·simp [q]
   ·have:n≠k:=fun z=>q z.symm
    simp [q,this]
theorem rightN {N:Nat} {ds:List Dd} (h:Right N ds):RightN (ds.map toD):=by
 intro i d hd
 rw [List.getElem?_map] at hd
 cases e:ds[i]? with
 |none=>rw [e] at hd;cases hd
 |some d0=>
  rw [e] at hd
  have hi:i<ds.length:=(List.getElem?_eq_some_iff.mp e).1
  cases Option.some.inj hd
  have ok:=h.ok i d0 e
  cases d0 with
  |come m t=>
   show hereR _ t.1=false
   cases z:hereR ((ds.map toD).take i).reverse t.1 with
   |false=>rfl
   |true=>exact absurd ((here_thr t.1 i (by omega)).mp z) ok.1
  |go m n=>exact (here_thr n i (by omega)).mpr ok
theorem there_thr {ds:List Dd}:∀i,i≤ds.length→(Cb (ds.map toD) i).map Life.t4=thr (ds.take i)
 |0,_=>by simp [Cb,Bf,thr]
 |i+1,hi=>by
  have e:=Cc (l:=ds) (i:=i) (by omega)
  have ih:=there_thr (ds:=ds) i (by omega)
  have em:=map_take_get e
  rw [Ce e,thr_snoc]
  cases hd:ds[i] with
  |come m t=>
   rw [hd] at em
   rw [there_come em,List.map_append,ih]
   rfl
  |go m k=>
   rw [hd] at em
   rw [there_go em]
   show _=(thr (ds.take i)).filter fun t=>decide (t.1≠k)
   rw [←ih,List.filter_map]
   rfl
def pth:Nat→Int→Int→Int→List (Int×Int)
 |0,f,l,_=>[(f,l)]
 |d+1,f,l,n=>(f,l)::if l - f=1 then [] else if n<(f+l) / 2 then pth d f ((f+l) / 2) n else pth d ((f+l) / 2) l n
theorem pth_in:∀(d:Nat) (f l n:Int),f≤n→n<l→∀x∈pth d f l n,f≤x.1∧x.1≤n∧n<x.2∧x.2≤l
 |0,f,l,n,h1,h2,x,hx=>by
  cases List.mem_singleton.mp hx
  exact ⟨Int.le_refl _,h1,h2,Int.le_refl _⟩
 |d+1,f,l,n,h1,h2,x,hx=>by
  unfold pth at hx
  rcases List.mem_cons.mp hx with rfl|hx
  ·exact ⟨Int.le_refl _,h1,h2,Int.le_refl _⟩
  ·by_cases e:l - f=1
   ·rw [if_pos e] at hx;cases hx
   ·rw [if_neg e] at hx
    by_cases c:n<(f+l) / 2
    ·rw [if_pos c] at hx
     have:=pth_in d f _ n h1 c x hx
     omega
    ·rw [if_neg c] at hx
     have:=pth_in d _ l n (by omega) h2 x hx
     omega
theorem pth_self (d:Nat) (f l n:Int):(f,l)∈pth d f l n:=by
 cases d with
 |zero=>exact List.mem_singleton.mpr rfl
 |succ d=>exact List.mem_cons_self
theorem pth_pin:∀(d:Nat) (f l lo hi n:Int),f<l→l - f≤2 ^ d→f≤n→n<l→((∃x∈pin d f l lo hi,x∈pth d f l n)↔lo≤n∧n<hi)
 |0,f,l,lo,hi,n,h1,h2,h3,h4=>by
  have h2:l - f≤1:=h2
  unfold pin
  by_cases c:lo≤f∧l≤hi
  ·rw [if_pos c]
   exact ⟨fun _=>by omega,fun _=>⟨_,List.mem_singleton.mpr rfl,pth_self _ _ _ _⟩⟩
  ·rw [if_neg c]
   exact ⟨fun ⟨x,hx,_⟩=>by (cases hx),fun z=>by omega⟩
 |d+1,f,l,lo,hi,n,h1,h2,h3,h4=>by
  unfold pin
  by_cases c:lo≤f∧l≤hi
  ·rw [if_pos c]
   exact ⟨fun _=>by omega,fun _=>⟨_,List.mem_singleton.mpr rfl,pth_self _ _ _ _⟩⟩
  ·rw [if_neg c]
   by_cases c2:l≤lo∨hi≤f
   ·rw [if_pos c2]
    exact ⟨fun ⟨x,hx,_⟩=>by (cases hx),fun z=>by omega⟩
   ·rw [if_neg c2]
    have e1:¬l - f=1:=by omega
    have p2:(2:Int) ^ (d+1)=2 * 2 ^ d:=by rw [Int.pow_succ];omega
    rw [p2] at h2
    have ih1:=pth_pin d f ((f+l) / 2) lo hi n (by omega) (by omega)
    have ih2:=pth_pin d ((f+l) / 2) l lo hi n (by omega) (by omega)
    have i1:=pin_in d f ((f+l) / 2) lo hi (by omega) (by omega)
    have i2:=pin_in d ((f+l) / 2) l lo hi (by omega) (by omega)
    unfold pth
    rw [if_neg e1]
    by_cases c3:n<(f+l) / 2
    ·rw [if_pos c3,←ih1 h3 c3]
     constructor
     ·rintro ⟨x,hx,hp⟩
      rcases List.mem_append.mp hx with hx|hx
      ·rcases List.mem_cons.mp hp with rfl|hp
       ·have:=i1 _ hx;simp only at this;omega
       ·exact ⟨x,hx,hp⟩
      ·rcases List.mem_cons.mp hp with rfl|hp
       ·have:=i2 _ hx;simp only at this;omega
       ·have:=i2 _ hx;have:=pth_in d _ _ _ h3 c3 _ hp;omega
     ·rintro ⟨x,hx,hp⟩
      exact ⟨x,List.mem_append.mpr (.inl hx),List.mem_cons_of_mem _ hp⟩
    ·rw [if_neg c3,←ih2 (by omega) h4]
     constructor
     ·rintro ⟨x,hx,hp⟩
      rcases List.mem_append.mp hx with hx|hx
      ·rcases List.mem_cons.mp hp with rfl|hp
       ·have:=i1 _ hx;simp only at this;omega
       ·have:=i1 _ hx;have:=pth_in d _ _ _ (Int.not_lt.mp c3) h4 _ hp;omega
      ·rcases List.mem_cons.mp hp with rfl|hp
       ·have:=i2 _ hx;simp only at this;omega
       ·exact ⟨x,hx,hp⟩
     ·rintro ⟨x,hx,hp⟩
      exact ⟨x,List.mem_append.mpr (.inr hx),List.mem_cons_of_mem _ hp⟩
def lifeIn (sz:Int) (l:Life):List (Int×Int):=pin 6 0 sz ((l.s:Int)+1) ((l.e:Int)+1)
def laidF (sz:Int) (L:List Life) (x:Int×Int):List T4:=L.flatMap fun l=>((lifeIn sz l).filter fun y=>decide (y=x)).map fun _=>l.t4
theorem mem_laid {sz:Int} {L:List Life} {x:Int×Int} {t:T4}:t∈laidF sz L x↔∃l∈L,x∈lifeIn sz l∧l.t4=t:=by
 unfold laidF
 rw [List.mem_flatMap]
 constructor
 ·rintro ⟨l,hl,h⟩
  obtain ⟨y,hy,e⟩:=List.mem_map.mp h
  obtain ⟨h1,h2⟩:=List.mem_filter.mp hy
  rw [decide_eq_true_eq] at h2
  exact ⟨l,hl,h2▸h1,e⟩
 ·rintro ⟨l,hl,h,e⟩
  exact ⟨l,hl,List.mem_map.mpr ⟨x,List.mem_filter.mpr ⟨h,decide_eq_true rfl⟩,e⟩⟩
theorem laid_path {ds:List Dd} {n:Nat} (hn:n≤ds.length) (h60:ds.length≤60) (t:T4):
  t∈(pth 6 0 ((ds.length:Int)+1) (n:Int)).flatMap (laidF ((ds.length:Int)+1) (Bf (ds.map toD) (ds.map toD).length))↔t∈thr (ds.take n):=by
 rw [←there_thr n hn,←lives_there (ds.map toD) (i:=n) (by rw [List.length_map];exact hn),List.mem_flatMap,List.mem_map]
 have key:=fun l:Life=>pth_pin 6 0 ((ds.length:Int)+1) ((l.s:Int)+1) ((l.e:Int)+1) (n:Int) (by omega) (by omega) (by omega) (by omega)
 constructor
 ·rintro ⟨x,hx,ht⟩
  obtain ⟨l,hl,h1,h2⟩:=mem_laid.mp ht
  have:=(key l).mp ⟨x,h1,hx⟩
  refine ⟨l,List.mem_filter.mpr ⟨hl,?_⟩,h2⟩
  rw [Bool.and_eq_true,decide_eq_true_eq,decide_eq_true_eq]
  omega
 ·rintro ⟨l,hl,h2⟩
  obtain ⟨hl,h3⟩:=List.mem_filter.mp hl
  rw [Bool.and_eq_true,decide_eq_true_eq,decide_eq_true_eq] at h3
  obtain ⟨x,h1,hx⟩:=(key l).mpr (by omega)
  exact ⟨x,hx,mem_laid.mpr ⟨l,hl,h1,h2⟩⟩
def ansT (st:S3):Ak→V
 | .jo _ p q=> .bl (decide (V.int (st.tops.getD p 0)=V.int (st.tops.getD q 0)))
 | .pa _=> .int (partsN st.tops:Nat)
 | .si _ p=> .int (st.tops.count (st.tops.getD p 0):Nat)
 | .ev _=> .bl (decide (V.int st.odds=V.int 0))
end K28
namespace K28
open PySem L2 Wk M24
theorem ans_uf {N L:Nat} {P S:List T4} {st:S3} (U:UF N P st) (hm:∀u,u∈P↔u∈S) (hN:N≤60) {k:Ak} (ok:AkOk N L k):ansT st k=ansS N S k:=by
 cases k with
 |jo n p q=>
  show V.bl _=V.bl _
  have:=U.joined hm ok.2.1 ok.2.2 hN
  congr 1
  rw [Bool.eq_iff_iff,decide_eq_true_eq,decide_eq_true_eq,←this]
  unfold tau
  exact ⟨fun z=>by injection z,fun z=>by rw [z]⟩
 |pa n=>
  show V.int _=V.int _
  rw [U.parts hm hN]
 |si n p=>
  show V.int _=V.int _
  rw [←U.size hm ok.2 hN];rfl
 |ev n=>
  show V.bl _=V.bl _
  congr 1
  have h2:Two P↔Two S:=⟨fun h=>h.mono fun t=>(hm t).mpr,fun h=>h.mono fun t=>(hm t).mp⟩
  by_cases z:Two S
  ·rw [twoB_t z,decide_eq_true_eq,U.two.mpr (h2.mpr z)]
  ·rw [twoB_f z,decide_eq_false_iff_not]
   intro q
   exact z (h2.mp (U.two.mp (by injection q)))
def tellAt (st:S3) (lo:Int) (ks:List Ak):List (Int×V):=(ks.zipIdx.filter fun p=>decide ((p.1.n:Int)=lo)).map fun p=>((p.2:Int),ansT st p.1)
theorem tell_snoc {st:S3} {lo:Int} {ks:List Ak} {i:Nat} {k:Ak} (h:ks[i]? =some k):tellAt st lo (ks.take (i+1))=tellAt st lo (ks.take i)++(if (k.n:Int)=lo then [((i:Int),ansT st k)] else []):=by
 have li:i<ks.length:=(List.getElem?_eq_some_iff.mp h).1
 unfold tellAt
 rw [Ce h,List.zipIdx_append,List.filter_append,List.map_append]
 congr 1
 have:(ks.take i).length=i:=by rw [List.length_take];omega
 rw [this]
 by_cases c:(k.n:Int)=lo
 ·simp [c]
 ·simp [c]
def tellsF (N:Nat) (F:Int×Int→List T4) (ks:List Ak):Nat→Int→Int→List T4→List (Int×V)
 |0,lo,hi,Q=>tellAt (stF N (Q++F (lo,hi))) lo ks
 |d+1,lo,hi,Q=>if hi - lo=1 then tellAt (stF N (Q++F (lo,hi))) lo ks else tellsF N F ks d lo ((lo+hi) / 2) (Q++F (lo,hi))++tellsF N F ks d ((lo+hi) / 2) hi (Q++F (lo,hi))
theorem mem_ri {a b n:Int}:n∈ri a b↔a≤n∧n<b:=by
 unfold ri
 rw [List.mem_map]
 constructor
 ·rintro ⟨k,hk,rfl⟩
  have:=List.mem_range.mp hk
  omega
 ·rintro ⟨h1,h2⟩
  exact ⟨(n - a).toNat,List.mem_range.mpr (by omega),by omega⟩
theorem ri_one (a:Int):ri a (a+1)=[a]:=by
 unfold ri
 have:(a+1 - a).toNat=1:=by omega
 rw [this];simp
theorem flat_congr {α β:Type} {f g:α→List β}:∀{l:List α},(∀x∈l,f x=g x)→l.flatMap f=l.flatMap g
 |[],_=>rfl
 |x::l,h=>by rw [List.flatMap_cons,List.flatMap_cons,h x List.mem_cons_self,flat_congr fun y hy=>h y (List.mem_cons_of_mem _ hy)]
theorem tells_flat {N:Nat} {F:Int×Int→List T4} {ks:List Ak}:∀(d:Nat) (lo hi:Int) (Q:List T4),lo<hi→hi - lo≤2 ^ d→
  tellsF N F ks d lo hi Q=(ri lo hi).flatMap fun n=>tellAt (stF N (Q++(pth d lo hi n).flatMap F)) n ks
 |0,lo,hi,Q,h1,h2=>by
  have h2:hi - lo≤1:=h2
  obtain rfl:hi=lo+1:=by omega
  rw [ri_one]
  simp [tellsF,pth]
 |d+1,lo,hi,Q,h1,h2=>by
  have p2:(2:Int) ^ (d+1)=2 * 2 ^ d:=by rw [Int.pow_succ];omega
  rw [p2] at h2
  unfold tellsF
  by_cases e:hi - lo=1
  ·obtain rfl:hi=lo+1:=by omega
   rw [if_pos e,ri_one,List.flatMap_cons,List.flatMap_nil,List.append_nil]
   conv=>rhs;unfold pth
   rw [if_pos e,List.flatMap_cons,List.flatMap_nil,List.append_nil]
  ·rw [if_neg e,tells_flat d lo _ _ (by omega) (by omega),tells_flat d _ hi _ (by omega) (by omega),←ri_cat (a:=lo) (b:=(lo+hi) / 2) (c:=hi) (by omega) (by omega),List.flatMap_append]
   congr 1
   ·refine flat_congr fun n hn=> ?_
    have:=mem_ri.mp hn
    conv=>rhs;unfold pth
    rw [if_neg e,if_pos this.2,List.flatMap_cons,List.append_assoc]
   ·refine flat_congr fun n hn=> ?_
    have:=mem_ri.mp hn
    conv=>rhs;unfold pth
    rw [if_neg e,if_neg (by omega),List.flatMap_cons,List.append_assoc]
theorem part_perm' {α:Type} {f:α→Int}:∀{L:List Int},L.Nodup→∀{E:List α},(∀e∈E,f e∈L)→(L.flatMap fun n=>E.filter fun e=>decide (f e=n)).Perm E
 |[],_,E,h=>by
  cases E with
  |nil=>exact .nil
  |cons e E=>exact absurd (h e List.mem_cons_self) (by simp)
 |n::L,nd,E,h=>by
  rw [List.flatMap_cons]
  obtain ⟨n1,n2⟩:=List.nodup_cons.mp nd
  have ih:=part_perm' n2 (E:=E.filter fun e=> !decide (f e=n)) fun e he=>by
   obtain ⟨a,b⟩:=List.mem_filter.mp he
   rcases List.mem_cons.mp (h e a) with z|z
   ·rw [z] at b;simp at b
   ·exact z
  have e2:(L.flatMap fun m=>(E.filter fun e=> !decide (f e=n)).filter fun e=>decide (f e=m))=L.flatMap fun m=>E.filter fun e=>decide (f e=m):=by
   refine flat_congr fun m hm=> ?_
   rw [List.filter_filter]
   refine List.filter_congr fun e _=> ?_
   by_cases z:f e=m
   ·have:¬m=n:=fun q=>n1 (q▸hm)
    simp [z,this]
   ·simp [z]
  rw [e2] at ih
  exact (List.Perm.append_left _ ih).trans (List.filter_append_perm _ _)
theorem ri_nodup (a b:Int):(ri a b).Nodup:=by
 unfold ri
 refine List.pairwise_map.mpr ((List.nodup_range (n:=(b - a).toNat)).imp fun {x y} h e=>h (by omega))
def dueP (f:Ak→V) (ks:List Ak):List (Int×V):=ks.zipIdx.map fun p=>((p.2:Int),f p.1)
theorem tells_all {N:Nat} {ds:List Dd} (hR:Right N ds) (hN:N≤24) {ks:List Ak} (ok:∀k∈ks,AkOk N ds.length k):
  (tellsF N (laidF ((ds.length:Int)+1) (Bf (ds.map toD) (ds.map toD).length)) ks 6 0 ((ds.length:Int)+1) []).Perm (dueP (ansF N ds) ks):=by
 have h60:=hR.len
 rw [tells_flat 6 _ _ _ (by omega) (by omega)]
 have e:((ri 0 ((ds.length:Int)+1)).flatMap fun n=>tellAt (stF N ([]++(pth 6 0 ((ds.length:Int)+1) n).flatMap (laidF ((ds.length:Int)+1) (Bf (ds.map toD) (ds.map toD).length)))) n ks)
   =((ri 0 ((ds.length:Int)+1)).flatMap fun n=>ks.zipIdx.filter fun p=>decide ((p.1.n:Int)=n)).map fun p=>((p.2:Int),ansF N ds p.1):=by
  rw [List.map_flatMap]
  refine flat_congr fun n hn=> ?_
  obtain ⟨n0,n1⟩:=mem_ri.mp hn
  obtain ⟨m,rfl⟩:∃m:Nat,n=(m:Int):=⟨n.toNat,by omega⟩
  have hm:m≤ds.length:=by omega
  have mem:=fun t=>laid_path (ds:=ds) hm h60 t
  have inn:InN N ((pth 6 0 ((ds.length:Int)+1) (m:Int)).flatMap (laidF ((ds.length:Int)+1) (Bf (ds.map toD) (ds.map toD).length))):=fun t ht=>thr_in hR hm t ((mem t).mp ht)
  unfold tellAt
  rw [List.nil_append]
  refine List.map_congr_left fun p hp=> ?_
  obtain ⟨hp1,hp2⟩:=List.mem_filter.mp hp
  rw [decide_eq_true_eq] at hp2
  have hk:p.1∈ks:=by
   obtain ⟨k,i⟩:=p
   exact (List.mem_zipIdx hp1).2.2▸List.getElem_mem _
  congr 1
  rw [ans_uf (uf_fin hN inn) mem (by omega) (ok _ hk)]
  unfold ansF
  congr 3
  omega
 rw [e]
 unfold dueP
 refine List.Perm.map _ (part_perm' (f:=fun p:Ak×Nat=>((p.1.n:Nat):Int)) (ri_nodup _ _) fun p hp=> ?_)
 have hk:p.1∈ks:=by
  obtain ⟨k,i⟩:=p
  exact (List.mem_zipIdx hp).2.2▸List.getElem_mem _
 have:=(ok _ hk).le
 exact mem_ri.mpr ⟨by omega,by omega⟩
theorem due_keys (f:Ak→V) (ks:List Ak):(dueP f ks).map (·.1)=(List.range ks.length).map Int.ofNat:=by
 unfold dueP
 rw [List.map_map]
 refine List.ext_getElem? fun i=> ?_
 rw [List.getElem?_map,List.getElem?_map,List.getElem?_zipIdx]
 by_cases h:i<ks.length
 ·simp [h]
 ·simp [Nat.le_of_not_lt h]
theorem due_vals (f:Ak→V) (ks:List Ak):(dueP f ks).map (·.2)=ks.map f:=by
 unfold dueP
 rw [List.map_map]
 refine List.ext_getElem? fun i=> ?_
 rw [List.getElem?_map,List.getElem?_map,List.getElem?_zipIdx]
 cases ks[i]? <;> simp
theorem keys_nodup (f:Ak→V) (ks:List Ak):((dueP f ks).map (·.1)).Nodup:=by
 rw [due_keys]
 exact List.pairwise_map.mpr ((List.nodup_range (n:=ks.length)).imp fun {x y} h e=>h (Int.ofNat.inj e))
theorem due_sorted {f:Ak→V} {ks:List Ak} {l:List (Int×V)} (p:l.Perm (dueP f ks)) (s:l.Pairwise fun a b=>a.1≤b.1):l.map (·.2)=ks.map f:=by
 have e:l=dueP f ks:=by
  have nd:=keys_nodup f ks
  have s2:(dueP f ks).Pairwise fun a b=>a.1≤b.1:=by
   have:((dueP f ks).map (·.1)).Pairwise (·≤·):=by
    rw [due_keys,List.pairwise_map]
    exact List.pairwise_le_range.imp fun h=>by simpa using h
   rw [List.pairwise_map] at this
   exact this
  refine List.Perm.eq_of_pairwise (le:=fun a b=>a.1≤b.1) (fun a b ha hb h1 h2=> ?_) s s2 p
  have ha:=p.mem_iff.mp ha
  obtain ⟨i,hi,rfl⟩:=List.getElem_of_mem ha
  obtain ⟨j,hj,rfl⟩:=List.getElem_of_mem hb
  have q:(dueP f ks)[i].1=(dueP f ks)[j].1:=by omega
  have pw:=List.pairwise_iff_getElem.mp nd
  rcases Nat.lt_trichotomy i j with z|z|z
  ·exact absurd (by rw [List.getElem_map,List.getElem_map];exact q) (pw i j (by simpa using hi) (by simpa using hj) z)
  ·subst z;rfl
  ·exact absurd (by rw [List.getElem_map,List.getElem_map];exact q.symm) (pw j i (by simpa using hj) (by simpa using hi) z)
 rw [e,due_vals]
end K28
namespace K28
open PySem L2 Wk
def spAby (C:Addr):Sp:=fun vs H Q _=>∃(x S r:Addr) (pre:List S3) (st:S3) (N L:Nat) (k:Ak),vs=[.ref x,.ref r]∧TkAt C H x S (pre++[st])∧Ok N st∧H r=some (.tup k.vs)∧AkOk N L k∧∀H',Same H H'→Q (ansT st k) H'
section
variable {P:Program} {w:World} {K:PySem.W.Frag} {mg:Str→Option Value} {base:Heap} {C I:Addr}
theorem scAby:Ax ["takes","ask","word"] ["takes","ask"] (Ag sAby):=⟨rfl,rfl,rfl,by decide+kernel,rfl,by decide+kernel,by decide+kernel⟩
theorem ok_Aby {f:Addr} {fd:FuncData} (F:Fun K "answer_by" "answer_by" sAby f fd) (T:Txt K mg C I)
  {gTop:Addr} {fTop:FuncData} (bTop:Binds K fTop ["self","place"] []) (hTop:Meth K C "top" gTop) (GTop:FnOk P w K mg base CX0 4 gTop fTop ["self","place"] (spTop C))
  {gParts:Addr} {fParts:FuncData} (bParts:Binds K fParts ["self"] []) (hParts:Meth K C "parts" gParts) (GParts:FnOk P w K mg base CX0 4 gParts fParts ["self"] (spParts C))
  {gSize:Addr} {fSize:FuncData} (bSize:Binds K fSize ["self","place"] []) (hSize:Meth K C "size" gSize) (GSize:FnOk P w K mg base CX0 4 gSize fSize ["self","place"] (spSize C))
  {gOdd:Addr} {fOdd:FuncData} (bOdd:Binds K fOdd ["self"] []) (hOdd:Meth K C "odd" gOdd) (GOdd:FnOk P w K mg base CX0 4 gOdd fOdd ["self"] (spOdd C)):
  FnOk P w K mg base CX0 5 f fd ["takes","ask"] (spAby C):=by
 refine F.ok scAby (fun vs H Q E h=> ?_) (fun cdv A outer s H vs Q E hr h=> ?_)
 ·obtain ⟨_,_,_,_,_,_,_,_,rfl,_⟩:=h;rfl
 ·obtain ⟨x,S,r,pre,st,N,L,kk,rfl,hT,ok,hr1,ak,k⟩:=h
  refine ⟨_,Af (Aq (i:=2) scAby.nd rfl (Or.inl rfl) (Ap Az (pv 1) Ae (fun _ _=>rfl)))
   (Af (B3 (A0 By (pv 2) Bw (A1 _)) (Ah (Ay (Cv By (pe_meth (pv 0) T.cl hTop GTop hr bTop .nil Ar (Aa (Ap Az (pv 1) Ae (fun _ _=>rfl)) Ad)) (pe_meth (pv 0) T.cl hTop GTop hr bTop .nil Ar (Aa (Ap Az (pv 1) Ae (fun _ _=>rfl)) Ad)) (A1 _)))) Bk)
   (Af (B3 (A0 By (pv 2) Bw (A1 _)) (Ah (Ay (Cz (pv 0) T.cl hParts GParts hr bParts .nil Ar))) Bk)
   (Af (B3 (A0 By (pv 2) Bw (A1 _)) (Ah (Ay (pe_meth (pv 0) T.cl hSize GSize hr bSize .nil Ar (Aa (Ap Az (pv 1) Ae (fun _ _=>rfl)) Ad)))) Bk)
   (Ah (Ay (Cv By (Cz (pv 0) T.cl hOdd GOdd hr bOdd .nil Ar) Ae (A1 _))))))),?_⟩
  obtain ⟨dx,e0⟩:=hT.ob
  cases kk with
  |jo n p q=>
   refine ⟨_,rfl,r,_,0,_,rfl,rfl,SqT.of hr1,Am (j:=0) rfl,?_⟩
   refine ⟨_,rfl,rfl,_,rfl,iteT ?_⟩
   exact ⟨_,rfl,x,dx,_,rfl,e0,Ch S (by decide+kernel),_,rfl,r,_,2,_,rfl,rfl,SqT.of hr1,Am (j:=2) rfl,x,S,pre,st,N,p,rfl,hT,ok,ak.2.1,_,rfl,x,dx,_,rfl,e0,Ch S (by decide+kernel),_,rfl,r,_,3,_,rfl,rfl,SqT.of hr1,Am (j:=3) rfl,x,S,pre,st,N,q,rfl,hT,ok,ak.2.2,rfl,k _ (fun _ _ e=>e)⟩
  |pa n=>
   refine ⟨_,rfl,r,_,0,_,rfl,rfl,SqT.of hr1,Am (j:=0) rfl,?_⟩
   refine ⟨_,rfl,rfl,_,rfl,C3 ?_⟩
   dsimp only [Cr]
   refine ⟨_,rfl,rfl,_,rfl,iteT ?_⟩
   exact ⟨_,rfl,x,dx,_,rfl,e0,Ch S (by decide+kernel),x,S,pre,st,N,rfl,hT,ok,fun H' s'=>k H' s'⟩
  |si n p=>
   refine ⟨_,rfl,r,_,0,_,rfl,rfl,SqT.of hr1,Am (j:=0) rfl,?_⟩
   refine ⟨_,rfl,rfl,_,rfl,C3 ?_⟩
   dsimp only [Cr]
   refine ⟨_,rfl,rfl,_,rfl,C3 ?_⟩
   dsimp only [Cr]
   refine ⟨_,rfl,rfl,_,rfl,iteT ?_⟩
   exact ⟨_,rfl,x,dx,_,rfl,e0,Ch S (by decide+kernel),_,rfl,r,_,2,_,rfl,rfl,SqT.of hr1,Am (j:=2) rfl,x,S,pre,st,N,p,rfl,hT,ok,ak.2,k _ (fun _ _ e=>e)⟩
  |ev n=>
   refine ⟨_,rfl,r,_,0,_,rfl,rfl,SqT.of hr1,Am (j:=0) rfl,?_⟩
   refine ⟨_,rfl,rfl,_,rfl,C3 ?_⟩
   dsimp only [Cr]
   refine ⟨_,rfl,rfl,_,rfl,C3 ?_⟩
   dsimp only [Cr]
   refine ⟨_,rfl,rfl,_,rfl,C3 ?_⟩
   dsimp only [Cr]
   exact ⟨_,rfl,x,dx,_,rfl,e0,Ch S (by decide+kernel),x,S,pre,st,rfl,hT,rfl,k _ (fun _ _ e=>e)⟩
end
end K28
namespace K28
open PySem L2 Wk
open M24
def kk (x:Int×Int):List Key:=[.inl x.1,.inl x.2]
theorem kk_inj {x y:Int×Int} (h:kk x=kk y):x=y:=by
 unfold kk at h
 injection h with h1 h2
 injection h1 with h1
 injection h2 with h2 _
 injection h2 with h2
 exact Prod.ext h1 h2
structure LD (H0 H:Hp) (d:Addr) (m n:Nat) (F:Int×Int→List T4) (kvs:List (List Key×V)):Prop where
 hd:H d=some (.dT kvs)
 d0:H0 d=none
 sm:Same H0 H
 len:kvs.length≤m
 at':∀x,(∃(a:Addr) (rs:List Addr),Bn kvs (kk x)=some (.ref a)∧H a=some (.lst (rs.map V.ref))∧Prs H rs (F x)∧H0 a=none)∨(Bn kvs (kk x)=none∧F x=[])
 inj:∀x y a,Bn kvs (kk x)=some (.ref a)→Bn kvs (kk y)=some (.ref a)→x=y
 fl:∀x,(F x).length≤n
def putF' (F:Int×Int→List T4) (x:Int×Int) (t:T4):Int×Int→List T4:=fun y=>if y=x then F y++[t] else F y
theorem LD.same {H0 H H':Hp} {d:Addr} {m n:Nat} {F:Int×Int→List T4} {kvs:List (List Key×V)} (L:LD H0 H d m n F kvs) (s:Same H H'):LD H0 H' d m n F kvs:=
 ⟨s _ _ L.hd,L.d0,L.sm.trans s,L.len,fun x=>(L.at' x).imp (fun ⟨a,rs,h1,h2,h3,h4⟩=>⟨a,rs,h1,s _ _ h2,h3.mono fun r xs e=>s _ _ e,h4⟩) id,L.inj,L.fl⟩
theorem LD.more {H0 H:Hp} {d:Addr} {m m' n n':Nat} {F:Int×Int→List T4} {kvs:List (List Key×V)} (L:LD H0 H d m n F kvs) (h:m≤m') (h':n≤n'):LD H0 H d m' n' F kvs:=
 ⟨L.hd,L.d0,L.sm,Nat.le_trans L.len h,L.at',L.inj,fun x=>Nat.le_trans (L.fl x) h'⟩
theorem LD.found {H0 H H1:Hp} {d a z:Addr} {m n:Nat} {F:Int×Int→List T4} {kvs:List (List Key×V)} {x:Int×Int} {t:T4} {xs:List V} (L:LD H0 H d m n F kvs) (e:Bn kvs (kk x)=some (.ref a)) (s1:Same H H1) (hz:H1 z=some (.tup (prV t))) (ha:H1 a=some (.lst xs)):
  LD H0 (upd H1 a (.lst (xs++[.ref z]))) d m (n+1) (putF' F x t) kvs:=by
 have L1:=L.same s1
 obtain ⟨rs,hxs,hp,h0⟩:∃rs:List Addr,xs=rs.map V.ref∧Prs H1 rs (F x)∧H0 a=none:=by
  rcases L1.at' x with ⟨a',rs,h1,h2,h3,h4⟩|⟨h1,_⟩
  ·rw [e] at h1
   cases h1
   rw [ha] at h2
   cases h2
   exact ⟨rs,rfl,h3,h4⟩
  ·rw [e] at h1;cases h1
 subst hxs
 have up:∀r ys,H1 r=some (.tup ys)→upd H1 a (.lst (rs.map V.ref++[.ref z])) r=some (.tup ys):=fun r ys q=>by rw [Ai (Ao q ha (by intro w;cases w))];exact q
 have da:d≠a:=Ao L1.hd ha (by intro w;cases w)
 refine ⟨by rw [Ai da];exact L1.hd,L1.d0,fun b o q=>by rw [Ai (Aj q h0)];exact L1.sm _ _ q,L1.len,fun y=> ?_,L1.inj,fun y=> ?_⟩
 ·unfold putF'
  by_cases c:y=x
  ·subst c
   rw [if_pos rfl]
   exact .inl ⟨a,rs++[z],e,by rw [Ab,List.map_append];rfl,(hp.mono up).snoc (up _ _ hz),h0⟩
  ·rw [if_neg c]
   refine (L1.at' y).imp (fun ⟨b,qs,h1,h2,h3,h4⟩=>⟨b,qs,h1,?_,h3.mono up,h4⟩) id
   have:b≠a:=fun q=>c (L1.inj _ _ _ h1 (q▸e))
   rw [Ai this];exact h2
 ·unfold putF'
  have:=L1.fl y
  split
  ·rw [List.length_append,List.length_singleton];omega
  ·omega
theorem LD.fresh {H0 H:Hp} {d p:Addr} {m n:Nat} {F:Int×Int→List T4} {kvs:List (List Key×V)} {x:Int×Int} (L:LD H0 H d m n F kvs) (e:Bn kvs (kk x)=none) (hp:H p=none):
  LD H0 (upd (upd H p (.lst [])) d (.dT (Cm kvs (kk x) (.ref p)))) d (m+1) n F (Cm kvs (kk x) (.ref p)):=by
 have p0:H0 p=none:=by
  cases q:H0 p with
  |none=>rfl
  |some o=>rw [L.sm _ _ q] at hp;cases hp
 have dp:d≠p:=Aj L.hd hp
 have ol:∀b o,H b=some o→b≠d→upd (upd H p (.lst [])) d (.dT (Cm kvs (kk x) (.ref p))) b=some o:=fun b o q n=>by rw [Ai n,Ai (Aj q hp)];exact q
 have up:∀r ys,H r=some (.tup ys)→upd (upd H p (.lst [])) d (.dT (Cm kvs (kk x) (.ref p))) r=some (.tup ys):=fun r ys q=>ol _ _ q (Ao q L.hd (by intro w;cases w))
 have hpe:upd (upd H p (.lst [])) d (.dT (Cm kvs (kk x) (.ref p))) p=some (.lst []):=by rw [Ai dp.symm,Ab]
 have fx:F x=[]:=by
  rcases L.at' x with ⟨a,rs,h1,_⟩|⟨_,h⟩
  ·rw [e] at h1;cases h1
  ·exact h
 refine ⟨Ab,L.d0,fun b o q=>ol _ _ (L.sm _ _ q) (Aj q L.d0),by have:=length_putK kvs (kk x) (.ref p);have:=L.len;omega,fun y=> ?_,fun y z a h1 h2=> ?_,L.fl⟩
 ·rw [valV_put]
  by_cases c:y=x
  ·subst c
   rw [if_pos rfl]
   exact .inl ⟨p,[],rfl,hpe,by rw [fx];exact ⟨rfl,fun i r t h=>by (cases h)⟩,p0⟩
  ·rw [if_neg (fun q=>c (kk_inj q))]
   refine (L.at' y).imp (fun ⟨b,qs,h1,h2,h3,h4⟩=>⟨b,qs,h1,ol _ _ h2 (Ao h2 L.hd (by intro w;cases w)),h3.mono up,h4⟩) id
 ·have old:∀w,Bn kvs (kk w)=some (.ref a)→a≠p:=fun w h=>by
   rcases L.at' w with ⟨b,qs,h3,h4,_⟩|⟨h3,_⟩
   ·rw [h] at h3;cases h3;exact Aj h4 hp
   ·rw [h] at h3;cases h3
  rw [valV_put] at h1 h2
  by_cases c1:y=x
  ·by_cases c2:z=x
   ·rw [c1,c2]
   ·rw [if_pos (by rw [c1])] at h1
    rw [if_neg (fun q=>c2 (kk_inj q))] at h2
    cases h1
    exact absurd rfl (old _ h2)
  ·rw [if_neg (fun q=>c1 (kk_inj q))] at h1
   by_cases c2:z=x
   ·rw [if_pos (by rw [c2])] at h2
    cases h2
    exact absurd rfl (old _ h1)
   ·rw [if_neg (fun q=>c2 (kk_inj q))] at h2
    exact L.inj _ _ _ h1 h2
theorem small4000 {n:Nat} (h:n≤9000):n<sizeLine:=Nat.lt_of_le_of_lt h (by decide)
def LaidAt (H:Hp) (d:Addr) (F:Int×Int→List T4):Prop:=∃kvs:List (List Key×V),H d=some (.dT kvs)∧∀x,(∃(a:Addr) (rs:List Addr),Bn kvs (kk x)=some (.ref a)∧H a=some (.lst (rs.map V.ref))∧Prs H rs (F x))∨(Bn kvs (kk x)=none∧F x=[])
noncomputable def laidH (ds:List Dd):Int×Int→List T4:=laidF ((ds.length:Int)+1) (Bf (ds.map toD) (ds.map toD).length)
def laidI (sz:Int) (L:List Life) (l:Life) (j:Nat) (x:Int×Int):List T4:=laidF sz L x++(((lifeIn sz l).take j).filter fun y=>decide (y=x)).map fun _=>l.t4
theorem laidI_zero (sz:Int) (L:List Life) (l:Life):laidI sz L l 0=laidF sz L:=by
 funext x;unfold laidI;simp
theorem laidI_snoc {sz:Int} {L:List Life} {l:Life} {j:Nat} {x:Int×Int} (h:(lifeIn sz l)[j]? =some x):putF' (laidI sz L l j) x l.t4=laidI sz L l (j+1):=by
 funext y
 unfold putF' laidI
 rw [Ce h,List.filter_append,List.map_append]
 by_cases c:y=x
 ·subst c;simp
 ·have:¬x=y:=fun q=>c q.symm
  simp [c,this]
theorem laidI_all {sz:Int} {L:List Life} {l:Life}:laidI sz L l (lifeIn sz l).length=laidF sz (L++[l]):=by
 funext y
 unfold laidI laidF
 rw [List.take_length,List.flatMap_append]
 simp
def spLaid:Sp:=fun vs H Q _=>∃(h:Addr) (N:Nat) (ds:List Dd),vs=[.ref h]∧HistAt H h N ds∧Right N ds∧∀(d:Addr) (H':Hp),Same H H'→LaidAt H' d (laidH ds)→Q (.ref d) H'
theorem histD {H:Hp} {h:Addr} {N:Nat} {ds:List Dd} (x:HistAt H h N ds) (hR:Right N ds):HistD H h (ds.map toD):=by
 obtain ⟨tp,rs,e1,e2,e3⟩:=x
 refine ⟨_,tp,rs,e1,e2,⟨by rw [List.length_map];exact e3.1,fun i r d a b=> ?_⟩,by rw [List.length_map];exact hR.len⟩
 rw [List.getElem?_map] at b
 cases q:ds[i]? with
 |none=>rw [q] at b;cases b
 |some d0=>
  rw [q] at b
  cases Option.some.inj b
  rw [toD_vs]
  exact e3.2 i r d0 a q
theorem lives_places {N:Nat} {ds:List Dd} (hR:Right N ds) {l:Life} (hl:l∈Bf (ds.map toD) (ds.map toD).length):l.vs=[.str l.n,.int (l.s:Int),.int (l.e:Int),.int (l.t4.2.1:Int),.int (l.t4.2.2.1:Int),.int l.w]∧l.t4.2.1<N∧l.t4.2.2.1<N∧l.s<l.e∧l.e≤ds.length:=by
 obtain ⟨m,h1,h2,h3⟩:=mem_lives hl
 rw [List.length_map] at h1
 have e:=Cc (l:=ds) h1
 rw [map_take_get e] at h2
 have ok:=hR.ok _ _ e
 have g:=end_gt (ds.map toD) l.s l.n (by rw [List.length_map];exact h1)
 have g2:=end_le (ds.map toD) l.s l.n
 rw [List.length_map] at g2
 cases hd:ds[l.s] with
 |go m' n'=>rw [hd] at h2;cases h2
 |come m' t=>
  rw [hd] at h2 ok
  injection Option.some.inj h2 with q1 q2 q3 q4 q5
  have ta:l.t4.2.1=t.2.1:=by show l.a.toNat=_;rw [←q3];exact Int.toNat_natCast _
  have tb:l.t4.2.2.1=t.2.2.1:=by show l.b.toNat=_;rw [←q4];exact Int.toNat_natCast _
  refine ⟨?_,?_,?_,by omega,by omega⟩
  ·unfold Life.vs;rw [ta,tb,q3,q4]
  ·rw [ta];exact ok.2.1
  ·rw [tb];exact ok.2.2.1
section
variable {P:Program} {w:World} {K:PySem.W.Frag} {mg:Str→Option Value} {base:Heap} {C I:Addr}
theorem scLaid:Ax ["history","size","laid","name","start","stop","one","other","weight","half"] ["history"] (Ag sLaid):=⟨rfl,rfl,rfl,by decide+kernel,rfl,by decide+kernel,by decide+kernel⟩
theorem ok_Laid {f:Addr} {fd:FuncData} (F:Fun K "joins_laid" "joins_laid" sLaid f fd) (T:Txt K mg C I)
  {gLives:Addr} {fLives:FuncData} (kLives:PySem.W.keepIn K (.ref gLives)=true) (bLives:Binds K fLives ["history"] []) (hLives:mg "lives_of"=some (.ref gLives)) (GLives:FnOk P w K mg base CX0 9 gLives fLives ["history"] spLives)
  {gPo:Addr} {fPo:FuncData} (kPo:PySem.W.keepIn K (.ref gPo)=true) (bPo:Binds K fPo ["size","low","high"] []) (hPo:mg "pieces_of"=some (.ref gPo)) (GPo:FnOk P w K mg base CX0 9 gPo fPo ["size","low","high"] spPo):
  FnOk P w K mg base CX0 10 f fd ["history"] spLaid:=by
 refine F.ok scLaid (fun vs H Q E h=> ?_) (fun cdv A outer s H vs Q E hr h=> ?_)
 ·obtain ⟨_,_,_,rfl,_⟩:=h;rfl
 ·obtain ⟨h,N,ds,rfl,hist,hR,k⟩:=h
  refine ⟨_,Af (Aq (i:=1) scLaid.nd rfl (Or.inl rfl) (As Bl (A8 A4 (by rfl) T.len PySem.boot_len (Aa (Ap Az (pv 0) Ae (fun _ _=>rfl)) Ad)) Ae))
   (Af (Aq (i:=2) scLaid.nd rfl (Or.inl rfl) pe_dnewT)
   (Af (Cs PassesOwn.never rfl (pi_tup (Al GLives hr rfl hLives kLives bLives .nil Ar (Aa (pv 0) Ad))) (pg_tup rfl (At (An (i:=3) scLaid.nd rfl (Or.inl rfl)) (At (An (i:=4) scLaid.nd rfl (Or.inl rfl)) (At (An (i:=5) scLaid.nd rfl (Or.inl rfl)) (At (An (i:=6) scLaid.nd rfl (Or.inl rfl)) (At (An (i:=7) scLaid.nd rfl (Or.inl rfl)) (At (An (i:=8) scLaid.nd rfl (Or.inl rfl)) Bu))))))) (Ah (Cs PassesOwn.never rfl (pi_tup (Al GPo hr rfl hPo kPo bPo .nil Ar (Aa (pv 1) (Aa (As Bl (pv 4) Ae) (Aa (As Bl (pv 5) Ae) Ad))))) (An (i:=9) scLaid.nd rfl (Or.inl rfl)) (Ah (Ci (pe_bm PySem.F.plainAttrs_list PySem.F.slot_list_append PySem.F.type_list_append Cf (pe_dsetd (hu_of hr) (pv 2) (pv 9) (Bh Ad) ⟨rfl,rfl,rfl,rfl⟩) (Aa (Ba (Aa (pv 6) (Aa (pv 7) Ad))) Ad)))))))
   (Ah (Ay (pv 2))))),?_⟩
  obtain ⟨tp,rs0,eh,et,hdd⟩:=id hist
  have d60:=hR.len
  have ll:(rs0.map V.ref).length=ds.length:=by rw [List.length_map,hdd.1]
  refine ⟨_,rfl,h,_,1,_,rfl,rfl,SqT.of eh,Am (j:=1) rfl,tp,_,rfl,.inr (SqT.of et),_,_,rfl,rfl,?_⟩
  rw [ll]
  refine fun d hd=> ?_
  have s1:=Ac (o:= .dT []) hd
  have d1:=Ab (H:=H) (a:=d) (o:= .dT [])
  have L0:LD H (upd H d (.dT [])) d 0 0 (fun _=>[]) []:=⟨d1,hd,s1,Nat.le_refl _,fun x=> .inr ⟨rfl,rfl⟩,fun x y a e=>(by cases e),fun x=>Nat.le_refl _⟩
  show tSeq _ _ _ _ _
  generalize upd H d (.dT [])=H1 at s1 d1 L0
  refine ⟨_,rfl,h,ds.map toD,rfl,histD (hist.same s1) hR,rightN hR,fun lv H2 s2 hlv=> ?_⟩
  obtain ⟨qs,hqs,hrl⟩:=hlv
  obtain ⟨LL,hLL⟩:∃LL,LL=Bf (ds.map toD) (ds.map toD).length:=⟨_,rfl⟩
  rw [←hLL] at hrl
  have lL:LL.length≤60:=by have:=lives_len (ds.map toD) (ds.map toD).length;rw [hLL];rw [List.length_map] at this ⊢;omega
  have L2':=L0.same s2
  refine ⟨lv,rfl,⟨_,SqT.of hqs⟩,for_tup (K:=K) (a:=lv) (xs:=qs.map V.ref) (fun i σ H3=>∃(u3 u4 u5 u6 u7 u8 u9:Option V) (kvs:List (List Key×V)),σ=[some (.ref h),some (.int ((ds.length:Int)+1)),some (.ref d),u3,u4,u5,u6,u7,u8,u9]∧LD H H3 d (64 * i) (64 * i) (laidF ((ds.length:Int)+1) (LL.take i)) kvs∧(∀b xs,H2 b=some (.tup xs)→H3 b=some (.tup xs))) ⟨none,none,none,none,none,none,none,[],rfl,(by rw [List.take_zero];exact L2'),fun b xs e=>e⟩ (fun i σ H3 _ ⟨_,_,_,_,_,_,_,_,_,_,f⟩=>SqT.of (f _ _ hqs)) ?_ ?_⟩
  ·rintro i x σ H3 hx ⟨u3,u4,u5,u6,u7,u8,u9,kvs,rfl,L3,f3⟩
   obtain ⟨q,hq,rfl⟩:=map_some hx
   have li:i<LL.length:=by rw [←hrl.1];exact (List.getElem?_eq_some_iff.mp hq).1
   have el:=Cc (l:=LL) li
   obtain ⟨l,hl⟩:∃l,LL[i]=l:=⟨_,rfl⟩
   rw [hl] at el
   obtain ⟨evs,p1,p2,p3,p4⟩:=lives_places hR (l:=l) (hLL▸List.mem_of_getElem? el)
   have eq3:=f3 _ _ (hrl.2 i q l hq el)
   rw [evs] at eq3
   refine ⟨q,_,rfl,SqT.of eq3,rfl,_,_,rfl,_,_,rfl,_,_,rfl,_,_,rfl,_,_,rfl,_,_,rfl,rfl,?_⟩
   refine ⟨_,rfl,_,rfl,_,_,rfl,rfl,_,rfl,_,_,rfl,rfl,_,_,_,rfl,by omega,by omega,fun pa prs H4 s4 hpa hpr=> ?_⟩
   have L4:=L3.same s4
   have plen:(lifeIn ((ds.length:Int)+1) l).length≤64:=pin_len 6 _ _ _ _
   refine ⟨pa,rfl,⟨_,SqT.of hpa⟩,for_tup (K:=K) (a:=pa) (xs:=prs.map V.ref) (fun j σ H5=>∃(u9:Option V) (kvs:List (List Key×V)),σ=[some (.ref h),some (.int ((ds.length:Int)+1)),some (.ref d),some (.str l.n),some (.int (l.s:Int)),some (.int (l.e:Int)),some (.int (l.t4.2.1:Int)),some (.int (l.t4.2.2.1:Int)),some (.int l.w),u9]∧LD H H5 d (64 * i+j) (64 * i+j) (laidI ((ds.length:Int)+1) (LL.take i) l j) kvs∧(∀b xs,H4 b=some (.tup xs)→H5 b=some (.tup xs))) ⟨_,kvs,rfl,(by rw [laidI_zero];exact L4),fun b xs e=>e⟩ (fun j σ H5 _ ⟨_,_,_,_,f⟩=>SqT.of (f _ _ hpa)) ?_ ?_⟩
   ·rintro j x σ H5 hx ⟨u9',kvs5,rfl,L5,f5⟩
    obtain ⟨hf,hhf,rfl⟩:=map_some hx
    obtain ⟨y,hy,ey⟩:=hpr.get hhf
    have jl:j<64:=by have:=(List.getElem?_eq_some_iff.mp hy).1;unfold lifeIn at plen;omega
    have ey5:=f5 _ _ ey
    refine ⟨_,rfl,d,rfl,.inr ⟨_,.inl L5.hd⟩,_,rfl,small (by simp),fun p hp=> ?_⟩
    have s6:=Ac (o:= .lst []) hp
    have L6:=L5.same s6
    have len5:=L5.len
    refine ⟨kvs5,kk y,hf,L6.hd,rfl,s6 _ _ ey5,small4000 (by omega),fun v hv=> ?_,fun hn=> ?_⟩
    ·rcases L6.at' y with ⟨a,rs,g1,g2,g3,g4⟩|⟨g1,_⟩
     ·rw [hv] at g1
      cases g1
      refine ⟨.inl ⟨rfl,_,SqL.of g2⟩,_,rfl,_,rfl,small (by simp),fun z hz=> ?_⟩
      have s7:=Ac (o:= .tup [.int (l.t4.2.1:Int),.int (l.t4.2.2.1:Int)]) hz
      have z7:=Ab (H:=upd H5 p (.lst [])) (a:=z) (o:= .tup [.int (l.t4.2.1:Int),.int (l.t4.2.2.1:Int)])
      have L8:=L6.found hv s7 (t:=l.t4) z7 (s7 _ _ g2)
      have rl:rs.length≤64 * i+j:=by rw [g3.1];exact L6.fl y
      refine ⟨a,_,_,rfl,rfl,s7 _ _ g2,small4000 (by rw [List.length_map];omega),_,kvs5,rfl,?_,fun b xs e=> ?_⟩
      ·rw [laidI_snoc hy] at L8
       exact L8.more (by omega) (Nat.le_refl _)
      ·have e6:=s7 _ _ (s6 _ _ (f5 _ _ e))
       rw [Ai (Ao e6 (s7 _ _ g2) (by intro w;cases w))];exact e6
     ·rw [hv] at g1;cases g1
    ·have L7:=L5.fresh hn hp
     have p7:upd (upd H5 p (.lst [])) d (.dT (Cm kvs5 (kk y) (.ref p))) p=some (.lst []):=by rw [Ai (Aj L5.hd hp).symm,Ab]
     have t7:∀b xs,H5 b=some (.tup xs)→upd (upd H5 p (.lst [])) d (.dT (Cm kvs5 (kk y) (.ref p))) b=some (.tup xs):=fun b xs e=>by
      rw [Ai (Ao e L5.hd (by intro w;cases w)),Ai (Aj e hp)];exact e
     have v7:Bn (Cm kvs5 (kk y) (.ref p)) (kk y)=some (.ref p):=by rw [valV_put,if_pos rfl]
     change tyV _ _ _ _∧_
     generalize upd (upd H5 p (.lst [])) d (.dT (Cm kvs5 (kk y) (.ref p)))=H7 at L7 p7 t7 ⊢
     refine ⟨.inl ⟨rfl,_,SqL.of p7⟩,_,rfl,_,rfl,small (by simp),fun z hz=> ?_⟩
     have s8:=Ac (o:= .tup [.int (l.t4.2.1:Int),.int (l.t4.2.2.1:Int)]) hz
     have z8:=Ab (H:=H7) (a:=z) (o:= .tup [.int (l.t4.2.1:Int),.int (l.t4.2.2.1:Int)])
     refine ⟨p,[],_,rfl,rfl,s8 _ _ p7,small (by simp),_,Cm kvs5 (kk y) (.ref p),rfl,?_,fun b xs e=> ?_⟩
     ·have L9:=L7.found v7 s8 (t:=l.t4) z8 (s8 _ _ p7)
      rw [laidI_snoc hy] at L9
      exact L9.more (Nat.le_refl _) (Nat.le_refl _)
     ·have e8:=s8 _ _ (t7 _ _ (f5 _ _ e))
      rw [Ai (Ao e8 (s8 _ _ p7) (by intro w;cases w))];exact e8
   ·rintro σ H5 ⟨u9',kvs5,rfl,L5,f5⟩
    have ple:(prs.map V.ref).length=(lifeIn ((ds.length:Int)+1) l).length:=by rw [List.length_map];exact hpr.len
    rw [ple,laidI_all,←Ce el] at L5
    exact ⟨_,_,_,_,_,_,_,kvs5,rfl,L5.more (by omega) (by omega),fun b xs e=>f5 _ _ (s4 _ _ (f3 _ _ e))⟩
  ·rintro σ H3 ⟨u3,u4,u5,u6,u7,u8,u9,kvs,rfl,L3,f3⟩
   rw [List.length_map,hrl.1,List.take_length,hLL] at L3
   exact ⟨_,rfl,k d H3 L3.sm ⟨kvs,L3.hd,fun x=>(L3.at' x).imp (fun ⟨a,rs,h1,h2,h3,_⟩=>⟨a,rs,h1,h2,h3⟩) id⟩⟩
end
end K28
namespace K28
open PySem L2 Wk
open M24
def LaidX (H:Hp) (d S:Addr) (F:Int×Int→List T4):Prop:=∃kvs:List (List Key×V),H d=some (.dT kvs)∧∀x,(∃(a:Addr) (rs:List Addr),Bn kvs (kk x)=some (.ref a)∧H a=some (.lst (rs.map V.ref))∧Prs H rs (F x)∧a≠S)∨(Bn kvs (kk x)=none∧F x=[])
theorem LaidX.mv {C:Addr} {H H':Hp} {d x S S':Addr} {F:Int×Int→List T4} {sts:List S3} (h:LaidX H d S F) (tk:TkAt C H x S sts) (fr:∀b o,H b=some o→b≠x→b≠S→H' b=some o) (s0:H S'=none):LaidX H' d S' F:=by
 obtain ⟨kvs,hd,ha⟩:=h
 obtain ⟨⟨dx,ex⟩,⟨ss,eS,_⟩,_⟩:=tk
 have tp:∀r xs,H r=some (.tup xs)→H' r=some (.tup xs):=fun r xs e=>fr _ _ e (Ao e ex (by intro z;cases z)) (Ao e eS (by intro z;cases z))
 exact ⟨kvs,fr _ _ hd (Ao hd ex (by intro z;cases z)) (Ao hd eS (by intro z;cases z)),fun y=>(ha y).imp (fun ⟨a,rs,h1,h2,h3,h4⟩=>⟨a,rs,h1,fr _ _ h2 (Ao h2 ex (by intro z;cases z)) h4,h3.mono tp,Aj h2 s0⟩) id⟩
theorem LaidX.same {H H':Hp} {d S:Addr} {F:Int×Int→List T4} (h:LaidX H d S F) (s:Same H H'):LaidX H' d S F:=by
 obtain ⟨kvs,hd,ha⟩:=h
 exact ⟨kvs,s _ _ hd,fun y=>(ha y).imp (fun ⟨a,rs,h1,h2,h3,h4⟩=>⟨a,rs,h1,s _ _ h2,h3.mono fun r xs e=>s _ _ e,h4⟩) id⟩
theorem tells_leaf {N:Nat} {F:Int×Int→List T4} {ks:List Ak} {d:Nat} {lo hi:Int} {J:List T4} (g:hi - lo=1):tellsF N F ks d lo hi J=tellAt (stF N (J++F (lo,hi))) lo ks:=by
 cases d with
 |zero=>rfl
 |succ d=>unfold tellsF;rw [if_pos g]
structure TP (C:Addr) (H:Hp) (la x hf ta S:Addr) (N L:Nat) (lo hi:Int) (d:Nat) (Fn:Int×Int→List T4) (J:List T4) (rs:List Addr) (ks:List Ak):Prop where
 eh:H hf=some (.tup [.int lo,.int hi])
 lh:lo<hi
 dp:hi - lo≤2 ^ d
 d6:d≤6
 ld:LaidX H la S Fn
 tk:TkAt C H x S (stsF N J)
 n1:1≤N
 n24:N≤24
 inn:∀y,InN N (Fn y)
 ij:InN N J
 bd:∀n,lo≤n→n<hi→(J++(pth d lo hi n).flatMap Fn).length≤60
 ea:H ta=some (.tup (rs.map V.ref))
 ak:AksAt H rs ks
 ok:∀k∈ks,AkOk N L k
 kl:ks.length≤60
structure TQ (C:Addr) (H H':Hp) (x S S' l:Addr) (sts:List S3) (G:List Srt.Pr') (te:List (Int×V)):Prop where
 fr:∀b o,H b=some o→b≠x→b≠S→H' b=some o
 tk:TkAt C H' x S' sts
 s0:H S'=none
 so:∃o,H' S=some o
 hl:H' l=some (.lst (G.map Srt.pRef))
 ls:l≠S'
 pr:∀q∈G,H' q.1=some (.tup [.int q.2.1,q.2.2])
 gt:G.map (·.2)=te
def spTold (C:Addr):Nat→Sp
 |0=>fun _ _ _ _=>False
 |d+1=>fun vs H Q _=>∃(la x hf ta S:Addr) (N L:Nat) (lo hi:Int) (Fn:Int×Int→List T4) (J:List T4) (rs:List Addr) (ks:List Ak),vs=[.ref la,.ref x,.ref hf,.ref ta]∧TP C H la x hf ta S N L lo hi d Fn J rs ks∧∀(l S':Addr) (G:List Srt.Pr') (H':Hp),TQ C H H' x S S' l (stsF N J) G (tellsF N Fn ks d lo hi J)→Q (.ref l) H'
def tTailT (C:Addr):TS:=fun D σ H=>∃(la x hf ta S l:Addr) (lo hi:Int) (sts:List S3) (k:Nat) (u7 u8 u10:Option V),σ=[some (.ref la),some (.ref x),some (.ref hf),some (.ref ta),some (.int lo),some (.int hi),some (.int (k:Int)),u7,u8,some (.ref l),u10]∧TkAt C H x S sts∧k<sts.length∧∀(S':Addr) (H':Hp),H S'=none→(∀b o,H b=some o→b≠x→H' b=some o)→TkAt C H' x S' (sts.take (k+1))→D.rt (.ref l) H'
theorem tellAt_len (st:S3) (lo:Int) (ks:List Ak):(tellAt st lo ks).length≤ks.length:=by
 unfold tellAt
 rw [List.length_map]
 exact Nat.le_trans (List.length_filter_le _ _) (by rw [List.length_zipIdx];exact Nat.le_refl _)
theorem tells_len (N:Nat) (F:Int×Int→List T4) {ks:List Ak} (h:ks.length≤60):∀(d:Nat) (lo hi:Int) (J:List T4),(tellsF N F ks d lo hi J).length≤60 * 2 ^ d
 |0,lo,hi,J=>by unfold tellsF;have:=tellAt_len (stF N (J++F (lo,hi))) lo ks;omega
 |d+1,lo,hi,J=>by
  unfold tellsF
  have p:2 ^ (d+1)=2 * 2 ^ d:=by rw [Nat.pow_succ];omega
  have q:1≤2 ^ d:=Nat.one_le_two_pow
  split
  ·have:=tellAt_len (stF N (J++F (lo,hi))) lo ks;omega
  ·rw [List.length_append]
   have h1:=tells_len N F h d lo ((lo+hi) / 2) (J++F (lo,hi))
   have h2:=tells_len N F h d ((lo+hi) / 2) hi (J++F (lo,hi))
   omega
theorem pth_head {d:Nat} {lo hi n:Int} {F:Int×Int→List T4}:(F (lo,hi)).length≤((pth d lo hi n).flatMap F).length:=by
 cases d with
 |zero=>simp [pth]
 |succ d=>unfold pth;rw [List.flatMap_cons,List.length_append];omega
theorem pth_left {d:Nat} {lo hi n:Int} (h:¬hi - lo=1) (c:n<(lo+hi) / 2):pth (d+1) lo hi n=(lo,hi)::pth d lo ((lo+hi) / 2) n:=by
 conv=>lhs;unfold pth
 rw [if_neg h,if_pos c]
theorem pth_right {d:Nat} {lo hi n:Int} (h:¬hi - lo=1) (c:¬n<(lo+hi) / 2):pth (d+1) lo hi n=(lo,hi)::pth d ((lo+hi) / 2) hi n:=by
 conv=>lhs;unfold pth
 rw [if_neg h,if_neg c]
theorem tkFree {C:Addr} {H H':Hp} {x S b:Addr} {sts sts':List S3} (tk:TkAt C H x S sts) (tk':TkAt C H' x S sts') (fr:∀b o,H b=some o→b≠x→b≠S→H' b=some o) (h:H' b=none):H b=none:=by
 obtain ⟨⟨dx,ex⟩,⟨_,eS,_⟩,_⟩:=tk'
 cases e:H b with
 |none=>rfl
 |some o=>
  rw [fr b o e (fun z=>by rw [z,ex] at h;cases h) (fun z=>by rw [z,eS] at h;cases h)] at h
  cases h
section
variable {P:Program} {w:World} {K:PySem.W.Frag} {mg:Str→Option Value} {base:Heap} {C I:Addr}
theorem scTold:Ax ["laid","takes","half","asks","low","high","mark","one","other","told","middle"] ["laid","takes","half","asks"] (Ag sTold):=⟨rfl,rfl,rfl,by decide+kernel,rfl,by decide+kernel,by decide+kernel⟩
theorem ok_Told {f:Addr} {fd:FuncData} (F:Fun K "told_in" "told_in" sTold f fd) (T:Txt K mg C I)
  {gJoins:Addr} {fJoins:FuncData} (bJoins:Binds K fJoins ["self"] []) (hJoins:Meth K C "joins" gJoins) (GJoins:FnOk P w K mg base CX0 6 gJoins fJoins ["self"] (spJoins C))
  {gJoin:Addr} {fJoin:FuncData} (bJoin:Binds K fJoin ["self","one","other"] []) (hJoin:Meth K C "join" gJoin) (GJoin:FnOk P w K mg base CX0 6 gJoin fJoin ["self","one","other"] (spJoin C))
  {gAby:Addr} {fAby:FuncData} (kAby:PySem.W.keepIn K (.ref gAby)=true) (bAby:Binds K fAby ["takes","ask"] []) (hAby:mg "answer_by"=some (.ref gAby)) (GAby:FnOk P w K mg base CX0 6 gAby fAby ["takes","ask"] (spAby C))
  {gBack:Addr} {fBack:FuncData} (bBack:Binds K fBack ["self","thing"] []) (hBack:Meth K C "back" gBack) (GBack:FnOk P w K mg base CX0 6 gBack fBack ["self","thing"] (spBack C)) (bTold:Binds K fd ["laid","takes","half","asks"] []) (hTold:mg "told_in"=some (.ref f)):
  ∀n,FnOk P w K mg base CX0 (n+6) f fd ["laid","takes","half","asks"] (spTold C n):=by
 intro n
 induction n with
 |zero=>exact F.ok scTold (fun vs H Q E h=>h.elim) (fun cdv A outer s H vs Q E hr h=>h.elim)
 |succ d ih=>
 refine F.ok scTold (fun vs H Q E h=> ?_) (fun cdv A outer s H vs Q E hr h=> ?_)
 ·obtain ⟨_,_,_,_,_,_,_,_,_,_,_,_,_,rfl,_⟩:=h;rfl
 ·obtain ⟨la,x,hf,ta,S,N,L,lo,hi,Fn,J,rs,ks,rfl,B,k⟩:=h
  refine ⟨_,Af (ps_asg (pv 2) (pg_tup rfl (At (An (i:=4) scTold.nd rfl (Or.inr rfl)) (At (An (i:=5) scTold.nd rfl (Or.inl rfl)) Bu))))
   (Af (Aq (i:=6) scTold.nd rfl (Or.inl rfl) (Cz (pv 1) T.cl hJoins GJoins (hr.mono (by omega)) bJoins .nil Ar))
   (Af (Cs PassesOwn.never rfl (pi_list (pe_dget2 (hu_of hr) (pv 0) (pv 2) (Bh Ad) ⟨rfl,rfl,rfl,rfl⟩)) (pg_tup rfl (At (An (i:=7) scTold.nd rfl (Or.inl rfl)) (At (An (i:=8) scTold.nd rfl (Or.inl rfl)) Bu))) (Ah (Ci (pe_meth (pv 1) T.cl hJoin GJoin (hr.mono (by omega)) bJoin .nil Ar (Aa (pv 7) (Aa (pv 8) Ad))))))
   (Af (B3 (A0 By (As op_sub (pv 5) (pv 4)) Ae (A1 _)) (Ah (ps_comp (i:=9) (T:=["number","ask"]) (F:=["low","takes"]) (js:=[4,1]) scTold.nd rfl (Or.inl rfl) (CS.to (osc:=Ag sTold) ⟨by rfl,by decide+kernel,by decide+kernel,by decide+kernel,by decide+kernel,by decide+kernel,by decide+kernel⟩ rfl rfl) rfl (pi_enumT rfl T.enumerate (Aa (pv 3) Ad)) (fun _ _ _ _ _=>pg_tupK K 2 rfl rfl (At (An (i:=0) (show (["number","ask","low","takes"]:List Str).Nodup by decide+kernel) rfl (Or.inl rfl)) (At (An (i:=1) (show (["number","ask","low","takes"]:List Str).Nodup by decide+kernel) rfl (Or.inl rfl)) Bu))) (fun _ _ _ _ _=>pif_one (A0 By (Ap (r:=rIxT K) Az (pv 1) Ae (fun _ _=>rfl)) (pv 2) (A1 _))) (fun _ _ _ _ _=>Ba (Aa (pv 0) (Aa (Al GAby (hr.mono (by omega)) rfl hAby kAby bAby .nil Ar (Aa (pv 3) (Aa (pv 1) Ad))) Ad))))) (Af (Aq (i:=10) scTold.nd rfl (Or.inl rfl) (As op_fdiv (As Bl (pv 4) (pv 5)) Ae))
   (Ah (Aq (i:=9) scTold.nd rfl (Or.inl rfl) (As op_cat (Al ih hr rfl hTold F.kp bTold .nil Ar (Aa (pv 0) (Aa (pv 1) (Aa (Ba (Aa (pv 4) (Aa (pv 10) Ad))) (Aa (pv 3) Ad))))) (Al ih hr rfl hTold F.kp bTold .nil Ar (Aa (pv 0) (Aa (pv 1) (Aa (Ba (Aa (pv 10) (Aa (pv 5) Ad))) (Aa (pv 3) Ad))))))))))
   (PSs.imp' (t':=tTailT C) (Af (Ci (pe_meth (pv 1) T.cl hBack GBack (hr.mono (by omega)) bBack .nil Ar (Aa (pv 6) Ad)))
   (Ah (Ay (pv 9)))) ?tail)))),?_⟩
  case tail=>
   rintro D σ H ⟨la,x,hf,ta,S,l,lo,hi,sts,k,u7,u8,u10,rfl,hT,hk,kk'⟩
   obtain ⟨dx,e0⟩:=hT.ob
   exact ⟨_,rfl,x,dx,_,rfl,e0,Ch S (by decide+kernel),_,rfl,x,S,sts,k,rfl,hT,hk,fun S' H' h1 h2 h3=>⟨_,rfl,kk' S' H' h1 h2 h3⟩⟩
  have lh:=B.lh
  have dp:=B.dp
  obtain ⟨dx,e0⟩:=B.tk.ob
  obtain ⟨rsS,eS,_⟩:=B.tk.st
  refine ⟨_,rfl,hf,_,rfl,SqT.of B.eh,rfl,_,_,rfl,_,_,rfl,rfl,?_⟩
  refine ⟨_,rfl,x,dx,_,rfl,e0,Ch S (by decide+kernel),x,S,_,rfl,B.tk,?_⟩
  have mk:(((stsF N J).length:Nat):Int) - 1=((J.length:Nat):Int):=by rw [sts_len];omega
  rw [mk]
  obtain ⟨kvs,hla,hLX⟩:=id B.ld
  refine ⟨_,rfl,la,rfl,.inr ⟨_,.inl hla⟩,_,rfl,small (by simp),fun p hp=> ?_⟩
  have s1:=Ac (o:= .lst []) hp
  have p1:=Ab (H:=H) (a:=p) (o:= .lst [])
  refine ⟨_,DGet.t (k:=kk (lo,hi)) (s1 _ _ hla) (s1 _ _ B.eh),?_⟩
  obtain ⟨c,cs,ec,hc1,hc2,hc3⟩:∃(c:Addr) (cs:List Addr),(Bn kvs (kk (lo,hi))).getD (.ref p)= .ref c∧upd H p (.lst []) c=some (.lst (cs.map V.ref))∧Prs (upd H p (.lst [])) cs (Fn (lo,hi))∧c≠S:=by
   rcases hLX (lo,hi) with ⟨a',rs',h1,h2,h3,h4⟩|⟨h1,h2⟩
   ·exact ⟨a',rs',by rw [h1];rfl,s1 _ _ h2,h3.mono fun r xs e=>s1 _ _ e,h4⟩
   ·exact ⟨p,[],by rw [h1];rfl,p1,by rw [h2];exact ⟨rfl,fun i r t z=>by (cases z)⟩,(Aj eS hp).symm⟩
  rw [ec]
  have T1:=B.tk.same s1
  generalize upd H p (.lst [])=H1 at s1 p1 hc1 hc2 T1
  obtain ⟨J',hJ'⟩:∃J',J'=J++Fn (lo,hi):=⟨_,rfl⟩
  have jl:J'.length≤60:=by
   have b1:=B.bd lo (Int.le_refl _) lh
   have b2:=pth_head (d:=d) (lo:=lo) (hi:=hi) (n:=lo) (F:=Fn)
   rw [List.length_append] at b1
   rw [hJ',List.length_append];omega
  have ijf:InN N J':=fun t ht=>by
   rw [hJ'] at ht
   rcases List.mem_append.mp ht with ht|ht
   ·exact B.ij t ht
   ·exact B.inn _ t ht
  refine ⟨c,rfl,⟨_,SqL.of hc1⟩,for_list (K:=K) (a:=c) (xs:=cs.map V.ref) (fun j σ H5=>∃(u7 u8 u9 u10:Option V),σ=[some (.ref la),some (.ref x),some (.ref hf),some (.ref ta),some (.int lo),some (.int hi),some (.int (J.length:Int)),u7,u8,u9,u10]∧(∀b o,H1 b=some o→b≠S→H5 b=some o)∧TkAt C H5 x S (stsF N (J++(Fn (lo,hi)).take j))) ⟨none,none,none,none,rfl,fun b o e _=>e,(by rw [List.take_zero,List.append_nil];exact T1)⟩ (fun j σ H5 _ ⟨_,_,_,_,_,f,_⟩=>SqL.of (f _ _ hc1 hc3)) ?_ ?_⟩
  ·rintro j y σ H5 hy ⟨u7,u8,u9,u10,rfl,f5,T5⟩
   obtain ⟨r,hr',rfl⟩:=map_some hy
   obtain ⟨t,ht,er⟩:=hc2.get hr'
   have tN:=B.inn _ t (List.mem_of_getElem? ht)
   have er5:=f5 _ _ er (Ao er (s1 _ _ eS) (by intro z;cases z))
   have jj:j<(Fn (lo,hi)).length:=(List.getElem?_eq_some_iff.mp ht).1
   have lQ:(J++(Fn (lo,hi)).take j).length≤60:=by rw [hJ',List.length_append] at jl;rw [List.length_append,List.length_take];omega
   obtain ⟨pre,ep,lp⟩:=sts_last N (J++(Fn (lo,hi)).take j)
   have T5':=T5
   rw [ep] at T5'
   obtain ⟨dx5,o5⟩:=T5.ob
   have U:=uf_fin B.n24 (P:=J++(Fn (lo,hi)).take j) fun u hu=>by
    rcases List.mem_append.mp hu with hu|hu
    ·exact B.ij u hu
    ·exact B.inn _ u (List.mem_of_mem_take hu)
   refine ⟨r,_,rfl,SqT.of er5,rfl,_,_,rfl,_,_,rfl,rfl,?_⟩
   refine ⟨_,rfl,x,dx5,_,rfl,o5,Ch S (by decide+kernel),_,rfl,_,rfl,x,S,pre,_,N,t.2.1,t.2.2.1,rfl,T5',by omega,⟨U.lt,U.ls,B.n1,B.n24⟩,tN.1,tN.2,fun H6 f6 T6=> ?_⟩
   rw [←ep,←sts_snoc,List.append_assoc,←Ce ht] at T6
   exact ⟨_,_,_,_,rfl,fun b o e n=>f6 _ _ (f5 _ _ e n) n,T6⟩
  rintro σ H5 ⟨u7,u8,u9,u10,rfl,f5,T5⟩
  have clen:(cs.map V.ref).length=(Fn (lo,hi)).length:=by rw [List.length_map];exact hc2.1
  rw [clen,List.take_length,←hJ'] at T5
  have fr5:∀b o,H b=some o→b≠x→b≠S→H5 b=some o:=fun b o e _ n=>f5 _ _ (s1 _ _ e) n
  have tp5:∀b xs,H b=some (.tup xs)→H5 b=some (.tup xs):=fun b xs e=>fr5 _ _ e (Ao e e0 (by intro z;cases z)) (Ao e eS (by intro z;cases z))
  have ld5:LaidX H5 la S Fn:=by
   refine ⟨kvs,fr5 _ _ hla (Ao hla e0 (by intro z;cases z)) (Ao hla eS (by intro z;cases z)),fun y=>(hLX y).imp (fun ⟨a',rs',h1,h2,h3,h4⟩=>⟨a',rs',h1,fr5 _ _ h2 (Ao h2 e0 (by intro z;cases z)) h4,h3.mono tp5,h4⟩) id⟩
  have stl:(stsF N J').take (J.length+1)=stsF N J:=by
   rw [sts_take (by rw [hJ',List.length_append];omega),hJ',List.take_left]
  clear hc1 hc2 p1 T1 clen hc3 ec
  refine ⟨_,rfl,_,rfl,_,_,rfl,rfl,rfl,_,rfl,Cw (fun g=> ?_) (fun g=> ?_)⟩
  ·have g:hi - lo=1:=by simpa using g
   obtain ⟨pre,ep,lp⟩:=sts_last N J'
   have T5':=T5
   rw [ep] at T5'
   have U:=uf_fin B.n24 ijf
   have ta5:=tp5 _ _ B.ea
   have A5:=B.ak.mono tp5
   have kl:=B.kl
   refine ⟨_,rfl,ta,_,rfl,SqT.of ta5,fun D hD=>comp_enumT (K:=K) (a:=ta) (xs:=rs.map V.ref) (fun j σ ys H6=>∃(u v:Option V) (G:List Srt.Pr'),σ=[u,v,some (.int lo),some (.ref x)]∧Same H5 H6∧H6 D=some (.lst ys)∧ys=G.map Srt.pRef∧(∀q∈G,H6 q.1=some (.tup [.int q.2.1,q.2.2]))∧G.map (·.2)=tellAt (stF N J') lo (ks.take j)) ⟨none,none,[],rfl,Ac hD,Ab,rfl,fun q hq=>by (cases hq),by simp [tellAt]⟩ (fun j σ ys H6 _ ⟨_,_,_,_,s6,e,_⟩=>⟨SqT.of (s6 _ _ ta5),e⟩) ?_ ?_⟩
   ·rintro j y σ ys H6 Tt hy ⟨u,v,G,rfl,s6,D6,rfl,g1,g2⟩ hT
    obtain ⟨r,hr',rfl⟩:=map_some hy
    obtain ⟨k0,hk0,er⟩:=A5.get hr'
    have jk:j<ks.length:=(List.getElem?_eq_some_iff.mp hk0).1
    have okk:=B.ok k0 (List.mem_of_getElem? hk0)
    have s7:=Ac (o:= .tup [.int (j:Int),.ref r]) hT
    have T7:=Ab (H:=H6) (a:=Tt) (o:= .tup [.int (j:Int),.ref r])
    generalize upd H6 Tt (.tup [.int (j:Int),.ref r])=H7 at s7 T7
    have S7:=s6.trans s7
    have r7:=S7 _ _ er
    have D7:=s7 _ _ D6
    have gl:G.length≤60:=by
     have e1:=congrArg List.length g2
     rw [List.length_map] at e1
     have e2:=tellAt_len (stF N J') lo (ks.take j)
     rw [List.length_take] at e2
     omega
    refine ⟨Tt,_,rfl,SqT.of T7,rfl,_,_,rfl,_,_,rfl,rfl,?_⟩
    refine ⟨_,rfl,r,_,1,_,rfl,rfl,SqT.of r7,Am (j:=1) (vs_1 k0),_,rfl,rfl,_,rfl,Cw (fun g=> ?_) fun g=> ?_⟩
    ·have g:(k0.n:Int)=lo:=by simpa using g
     refine ⟨_,rfl,_,rfl,_,rfl,x,S,r,pre,_,N,L,k0,rfl,T5'.same S7,⟨U.lt,U.ls,B.n1,B.n24⟩,r7,okk,fun H8 s8=>⟨small (by simp),fun z hz=> ?_⟩⟩
     have s9:=Ac (o:= .tup [.int (j:Int),ansT (stF N J') k0]) hz
     have z9:=Ab (H:=H8) (a:=z) (o:= .tup [.int (j:Int),ansT (stF N J') k0])
     have D9:=s9 _ _ (s8 _ _ D7)
     refine ⟨D9,Aw (by simp;omega),_,_,G++[(z,(j:Int),ansT (stF N J') k0)],rfl,fun b o e=> ?_,Ab,by rw [List.map_append];rfl,fun q hq=> ?_,?_⟩
     ·rw [Ai (Aj e hD)];exact s9 _ _ (s8 _ _ (S7 _ _ e))
     ·rcases List.mem_append.mp hq with hq|hq
      ·have e:=s9 _ _ (s8 _ _ (s7 _ _ (g1 q hq)))
       rw [Ai (Ao e D9 (by intro w;cases w))];exact e
      ·rw [List.mem_singleton.mp hq,Ai (Ao z9 D9 (by intro w;cases w))];exact z9
     ·rw [tell_snoc hk0,if_pos g,List.map_append,g2];rfl
    ·have g:¬(k0.n:Int)=lo:=by simpa using g
     exact ⟨_,_,G,rfl,S7,D7,rfl,fun q hq=>s7 _ _ (g1 q hq),by rw [tell_snoc hk0,if_neg g,List.append_nil,g2]⟩
   rintro σ ys H6 ⟨u,v,G,rfl,s6,D6,rfl,g1,g2⟩
   rw [List.length_map,A5.1,List.take_length] at g2
   have T6:=T5.same s6
   obtain ⟨dx6,x6⟩:=T6.ob
   obtain ⟨_,S6,_⟩:=T6.st
   refine ⟨la,x,hf,ta,S,D,lo,hi,stsF N J',J.length,u7,u8,u10,rfl,T6,by rw [sts_len,hJ',List.length_append];omega,fun S' H' n1 f' T'=>k D S' G H' ?_⟩
   rw [stl] at T'
   have fr6:∀b o,H b=some o→b≠x→b≠S→H6 b=some o:=fun b o e n m=>s6 _ _ (fr5 b o e n m)
   exact ⟨fun b o e n m=>f' _ _ (fr6 b o e n m) n,T',tkFree B.tk T6 fr6 n1,⟨_,f' _ _ S6 (Ao S6 x6 (by intro z;cases z))⟩,f' _ _ D6 (Ao D6 x6 (by intro z;cases z)),Aj D6 n1,fun q hq=>f' _ _ (g1 q hq) (Ao (g1 q hq) x6 (by intro z;cases z)),by rw [g2,tells_leaf g,hJ']⟩
  ·have g:¬hi - lo=1:=by simpa using g
   cases d with
   |zero=>exact absurd dp (by show ¬hi - lo≤1;omega)
   |succ d=>
   have p2:(2:Int) ^ (d+1)=2 * 2 ^ d:=by rw [Int.pow_succ];omega
   have pp:(1:Int)≤2 ^ d:=by
    have:=Int.pow_pos (n:=2) (m:=d) (by decide);omega
   rw [p2] at dp
   have d6:=B.d6
   refine ⟨_,rfl,_,rfl,_,_,rfl,rfl,_,_,rfl,rfl,⟨by decide,by decide⟩,?_⟩
   refine ⟨_,rfl,_,rfl,_,rfl,_,rfl,small (by simp),fun q1 hq1=> ?_⟩
   have s6:=Ac (o:= .tup [.int lo,.int ((lo+hi) / 2)]) hq1
   have e6:=Ab (H:=H5) (a:=q1) (o:= .tup [.int lo,.int ((lo+hi) / 2)])
   have T6:=T5.same s6
   have ld6:=ld5.same s6
   change TVarP _ _ _ _
   generalize upd H5 q1 (.tup [.int lo,.int ((lo+hi) / 2)])=H6 at s6 e6 T6 ld6
   refine ⟨_,rfl,la,x,q1,ta,S,N,L,lo,(lo+hi) / 2,Fn,J',rs,ks,rfl,⟨e6,by omega,by omega,by omega,ld6,T6,B.n1,B.n24,B.inn,ijf,fun n h1 h2=> ?_,s6 _ _ (tp5 _ _ B.ea),B.ak.mono fun r xs e=>s6 _ _ (tp5 _ _ e),B.ok,B.kl⟩,fun l1 S1 G1 H7 Q1=> ?_⟩
   ·have b:=B.bd n h1 (by omega)
    rw [pth_left g h2,List.flatMap_cons,←List.append_assoc,←hJ'] at b
    exact b
   obtain ⟨dx6,x6⟩:=T6.ob
   obtain ⟨_,S6,_⟩:=T6.st
   obtain ⟨dx7,x7⟩:=Q1.tk.ob
   obtain ⟨_,S17,_⟩:=Q1.tk.st
   have tp7:∀b xs,H b=some (.tup xs)→H7 b=some (.tup xs):=fun b xs e=>Q1.fr _ _ (s6 _ _ (tp5 _ _ e)) (Ao e e0 (by intro z;cases z)) (Ao e eS (by intro z;cases z))
   have ld7:LaidX H7 la S1 Fn:=ld6.mv T6 Q1.fr Q1.s0
   refine ⟨_,rfl,_,rfl,_,rfl,_,rfl,small (by simp),fun q2 hq2=> ?_⟩
   have s8:=Ac (o:= .tup [.int ((lo+hi) / 2),.int hi]) hq2
   have e8:=Ab (H:=H7) (a:=q2) (o:= .tup [.int ((lo+hi) / 2),.int hi])
   change TVarP _ _ _ _
   generalize upd H7 q2 (.tup [.int ((lo+hi) / 2),.int hi])=H8 at s8 e8
   refine ⟨_,rfl,la,x,q2,ta,S1,N,L,(lo+hi) / 2,hi,Fn,J',rs,ks,rfl,⟨e8,by omega,by omega,by omega,ld7.same s8,Q1.tk.same s8,B.n1,B.n24,B.inn,ijf,fun n h1 h2=> ?_,s8 _ _ (tp7 _ _ B.ea),B.ak.mono fun r xs e=>s8 _ _ (tp7 _ _ e),B.ok,B.kl⟩,fun l2 S2 G2 H9 Q2=> ?_⟩
   ·have b:=B.bd n (by omega) h2
    rw [pth_right g (by omega),List.flatMap_cons,←List.append_assoc,←hJ'] at b
    exact b
   have xS1:x≠S1:=Ao x7 S17 (by intro z;cases z)
   have f9:∀b o,H7 b=some o→b≠x→b≠S1→H9 b=some o:=fun b o e n m=>Q2.fr _ _ (s8 _ _ e) n m
   have l19:=f9 _ _ Q1.hl (Ao Q1.hl x7 (by intro z;cases z)) Q1.ls
   have S9:∃o,H9 S=some o:=let ⟨o,e⟩:=Q1.so;⟨o,f9 _ _ e (Ao eS e0 (by intro z;cases z)) (Aj S6 Q1.s0)⟩
   have fr9:∀b o,H b=some o→b≠x→b≠S→H9 b=some o:=fun b o e n m=>by
    have e6:=s6 _ _ (fr5 b o e n m)
    exact f9 _ _ (Q1.fr _ _ e6 n m) n (Aj e6 Q1.s0)
   have t1:=congrArg List.length Q1.gt
   have t2:=congrArg List.length Q2.gt
   rw [List.length_map] at t1 t2
   have m1:=tells_len N Fn B.kl d lo ((lo+hi) / 2) J'
   have m2:=tells_len N Fn B.kl d ((lo+hi) / 2) hi J'
   have m3:2 ^ d≤2 ^ 6:=Nat.pow_le_pow_right (by decide) (by omega)
   refine ⟨l1,l2,_,_,rfl,rfl,l19,Q2.hl,Nat.le_of_lt (small4000 (by simp only [List.length_append,List.length_map];omega)),fun l hl=> ?_⟩
   have sA:=Ac (o:= .lst (G1.map Srt.pRef++G2.map Srt.pRef)) hl
   have eA:=Ab (H:=H9) (a:=l) (o:= .lst (G1.map Srt.pRef++G2.map Srt.pRef))
   change tTailT C _ _ _
   generalize upd H9 l (.lst (G1.map Srt.pRef++G2.map Srt.pRef))=HA at sA eA
   have TA:=Q2.tk.same sA
   obtain ⟨dxA,xA⟩:=TA.ob
   refine ⟨la,x,hf,ta,S2,l,lo,hi,stsF N J',J.length,u7,u8,_,rfl,TA,by rw [sts_len,hJ',List.length_append];omega,fun S' H' n1 f' T'=>k l S' (G1++G2) H' ?_⟩
   rw [stl] at T'
   have frA:∀b o,H b=some o→b≠x→b≠S→HA b=some o:=fun b o e n m=>sA _ _ (fr9 b o e n m)
   have SA:∃o,HA S=some o:=let ⟨o,e⟩:=S9;⟨o,sA _ _ e⟩
   refine ⟨fun b o e n m=>f' _ _ (frA b o e n m) n,T',?_,let ⟨o,e⟩:=SA;⟨o,f' _ _ e (Ao eS e0 (by intro z;cases z))⟩,?_,Aj eA n1,fun q hq=> ?_,?_⟩
   ·cases e:H S' with
    |none=>rfl
    |some o=>
     rw [frA S' o e (fun z=>by rw [z,xA] at n1;cases n1) (fun z=>by obtain ⟨o',e'⟩:=SA;rw [z,e'] at n1;cases n1)] at n1
     cases n1
   ·rw [List.map_append];exact f' _ _ eA (Ao eA xA (by intro z;cases z))
   ·have eq9:HA q.1=some (.tup [.int q.2.1,q.2.2]):=by
     rcases List.mem_append.mp hq with hq|hq
     ·have e7:=Q1.pr q hq
      exact sA _ _ (f9 _ _ e7 (Ao e7 x7 (by intro z;cases z)) (Ao e7 S17 (by intro z;cases z)))
     ·exact sA _ _ (Q2.pr q hq)
    exact f' _ _ eq9 (Ao eq9 xA (by intro z;cases z))
   ·rw [List.map_append,Q1.gt,Q2.gt,hJ']
    conv=>rhs;unfold tellsF
    rw [if_neg g]
end
end K28
namespace K28
open PySem L2 Wk
open M24
theorem flat_add {α β:Type} {f g:α→List β}:∀l:List α,(l.flatMap fun x=>f x++g x).length=(l.flatMap f).length+(l.flatMap g).length
 |[]=>rfl
 |x::l=>by simp only [List.flatMap_cons,List.length_append,flat_add l];omega
theorem flat_none {P:List (Int×Int)}:∀{l:List (Int×Int)},(∀x∈l,∀y∈P,y≠x)→(l.flatMap fun x=>P.filter fun y=>decide (y=x)).length=0
 |[],_=>rfl
 |x::l,h=>by
  rw [List.flatMap_cons,List.length_append,flat_none fun z hz=>h z (List.mem_cons_of_mem _ hz),Nat.add_zero,List.length_eq_zero_iff,List.filter_eq_nil_iff]
  intro y hy e
  exact h x List.mem_cons_self y hy (of_decide_eq_true e)
theorem pth_once:∀(d:Nat) (f l lo hi n:Int),f<l→l - f≤2 ^ d→f≤n→n<l→((pth d f l n).flatMap fun x=>(pin d f l lo hi).filter fun y=>decide (y=x)).length≤1
 |0,f,l,lo,hi,n,h1,h2,h3,h4=>by
  unfold pin pth
  split
  ·simp
  ·simp
 |d+1,f,l,lo,hi,n,h1,h2,h3,h4=>by
  have p2:(2:Int) ^ (d+1)=2 * 2 ^ d:=by rw [Int.pow_succ];omega
  rw [p2] at h2
  have up:∀x∈(if l - f=1 then [] else if n<(f+l) / 2 then pth d f ((f+l) / 2) n else pth d ((f+l) / 2) l n),x≠(f,l):=by
   intro x hx
   by_cases e:l - f=1
   ·rw [if_pos e] at hx;cases hx
   ·rw [if_neg e] at hx
    by_cases c:n<(f+l) / 2
    ·rw [if_pos c] at hx
     have:=pth_in d _ _ _ h3 c x hx
     intro q;rw [q] at this;simp only at this;omega
    ·rw [if_neg c] at hx
     have:=pth_in d _ _ _ (Int.not_lt.mp c) h4 x hx
     intro q;rw [q] at this;simp only at this;omega
  unfold pin
  by_cases c:lo≤f∧l≤hi
  ·rw [if_pos c]
   unfold pth
   rw [List.flatMap_cons,List.length_append,flat_none fun x hx y hy=>by rw [List.mem_singleton.mp hy];exact (up x hx).symm]
   simp
  ·rw [if_neg c]
   by_cases c2:l≤lo∨hi≤f
   ·rw [if_pos c2,flat_none fun x _ y hy=>by cases hy]
    exact Nat.zero_le _
   ·rw [if_neg c2]
    have e:¬l - f=1:=by omega
    have i1:=pin_in d f ((f+l) / 2) lo hi (by omega) (by omega)
    have i2:=pin_in d ((f+l) / 2) l lo hi (by omega) (by omega)
    simp only [List.filter_append]
    rw [flat_add]
    have top:∀y∈pin d f ((f+l) / 2) lo hi,y≠(f,l):=fun y hy q=>by have:=i1 y hy;rw [q] at this;simp only at this;omega
    have top2:∀y∈pin d ((f+l) / 2) l lo hi,y≠(f,l):=fun y hy q=>by have:=i2 y hy;rw [q] at this;simp only at this;omega
    have z1:((pin d f ((f+l) / 2) lo hi).filter fun y=>decide (y=(f,l)))=[]:=List.filter_eq_nil_iff.mpr fun y hy q=>top y hy (of_decide_eq_true q)
    have z2:((pin d ((f+l) / 2) l lo hi).filter fun y=>decide (y=(f,l)))=[]:=List.filter_eq_nil_iff.mpr fun y hy q=>top2 y hy (of_decide_eq_true q)
    by_cases c3:n<(f+l) / 2
    ·rw [pth_left e c3,List.flatMap_cons,List.flatMap_cons,z1,z2,List.nil_append,List.nil_append]
     have w:=flat_none (P:=pin d ((f+l) / 2) l lo hi) (l:=pth d f ((f+l) / 2) n) fun x hx y hy q=>by
      have a1:=i2 y hy;have a2:=pth_in d _ _ _ h3 c3 x hx;rw [q] at a1;omega
     have ih:=pth_once d f ((f+l) / 2) lo hi n (by omega) (by omega) h3 c3
     omega
    ·rw [pth_right e c3,List.flatMap_cons,List.flatMap_cons,z1,z2,List.nil_append,List.nil_append]
     have w:=flat_none (P:=pin d f ((f+l) / 2) lo hi) (l:=pth d ((f+l) / 2) l n) fun x hx y hy q=>by
      have a1:=i1 y hy;have a2:=pth_in d _ _ _ (Int.not_lt.mp c3) h4 x hx;rw [q] at a1;omega
     have ih:=pth_once d ((f+l) / 2) l lo hi n (by omega) (by omega) (by omega) h4
     omega
theorem flat_map_len {α β γ:Type} {f:α→List β} {c:γ}:∀l:List α,(l.flatMap fun x=>(f x).map fun _=>c).length=(l.flatMap f).length
 |[]=>rfl
 |x::l=>by simp only [List.flatMap_cons,List.length_append,List.length_map,flat_map_len l]
theorem laid_len {sz:Int} {n:Int} (h0:0<sz) (h1:sz≤64) (h2:0≤n) (h3:n<sz):∀L:List Life,((pth 6 0 sz n).flatMap (laidF sz L)).length≤L.length
 |[]=>by
  have:(pth 6 0 sz n).flatMap (laidF sz [])=[]:=List.flatMap_eq_nil_iff.mpr fun x _=>rfl
  rw [this];exact Nat.le_refl _
 |l::L=>by
  have e:laidF sz (l::L)=fun x=>(((lifeIn sz l).filter fun y=>decide (y=x)).map fun _=>l.t4)++laidF sz L x:=by
   funext x;unfold laidF;rw [List.flatMap_cons]
  rw [e,flat_add,flat_map_len,List.length_cons]
  have a1:=pth_once 6 0 sz ((l.s:Int)+1) ((l.e:Int)+1) n h0 (by omega) h2 h3
  have a2:=laid_len h0 h1 h2 h3 L
  unfold lifeIn
  omega
theorem laid_in {N:Nat} {ds:List Dd} (hR:Right N ds) (y:Int×Int):InN N (laidH ds y):=fun t ht=>by
 obtain ⟨l,hl,_,e⟩:=mem_laid.mp ht
 have:=lives_places hR hl
 rw [←e]
 exact ⟨this.2.1,this.2.2.1⟩
def spHalf:Sp:=fun vs H Q _=>∃(h ta:Addr) (N:Nat) (ds:List Dd) (rs:List Addr) (ks:List Ak),vs=[.ref h,.ref ta]∧HistAt H h N ds∧Right N ds∧1≤N∧N≤24∧H ta=some (.tup (rs.map V.ref))∧AksAt H rs ks∧(∀k∈ks,AkOk N ds.length k)∧ks.length≤60∧∀r H',Same H H'→H' r=some (.tup (ks.map (ansF N ds)))→Q (.ref r) H'
section
variable {P:Program} {w:World} {K:PySem.W.Frag} {mg:Str→Option Value} {base:Heap} {C I:Addr}
theorem scHalf:Ax ["history","asks","whole","told"] ["history","asks"] (Ag sHalf):=⟨rfl,rfl,rfl,by decide+kernel,rfl,by decide+kernel,by decide+kernel⟩
theorem ok_Half {f:Addr} {fd:FuncData} (F:Fun K "answers_by_halves" "answers_by_halves" sHalf f fd) (T:Txt K mg C I)
  {gLaid:Addr} {fLaid:FuncData} (kLaid:PySem.W.keepIn K (.ref gLaid)=true) (bLaid:Binds K fLaid ["history"] []) (hLaid:mg "joins_laid"=some (.ref gLaid)) (GLaid:FnOk P w K mg base CX0 13 gLaid fLaid ["history"] spLaid)
  {fInit:FuncData} (bInit:Binds K fInit ["self","many"] []) (GInit:FnOk P w K mg base CX0 1 I fInit ["self","many"] (spInit C))
  {gTold:Addr} {fTold:FuncData} (kTold:PySem.W.keepIn K (.ref gTold)=true) (bTold:Binds K fTold ["laid","takes","half","asks"] []) (hTold:mg "told_in"=some (.ref gTold)) (GTold:FnOk P w K mg base CX0 13 gTold fTold ["laid","takes","half","asks"] (spTold C 7)):
  FnOk P w K mg base CX0 14 f fd ["history","asks"] spHalf:=by
 refine F.ok scHalf (fun vs H Q E h=> ?_) (fun cdv A outer s H vs Q E hr h=> ?_)
 ·obtain ⟨_,_,_,_,_,_,rfl,_⟩:=h;rfl
 ·obtain ⟨h,ta,N,ds,rs,ks,rfl,hist,hR,N1,N24,hta,hA,ok,k60,k⟩:=h
  refine ⟨_,Af (Aq (i:=2) scHalf.nd rfl (Or.inl rfl) (Ba (Aa Ae (Aa (As Bl (A8 A4 (by rfl) T.len PySem.boot_len (Aa (Ap Az (pv 0) Ae (fun _ _=>rfl)) Ad)) Ae) Ad))))
   (Af (Aq (i:=3) scHalf.nd rfl (Or.inl rfl) (Al GTold hr rfl hTold kTold bTold .nil Ar (Aa (Al GLaid hr rfl hLaid kLaid bLaid .nil Ar (Aa (pv 0) Ad)) (Aa (pe_make T.mkC GInit (hr.mono (by decide)) rfl T.mgC bInit .nil Ar (Aa (Ap Az (pv 0) Ae (fun _ _=>rfl)) Ad)) (Aa (pv 2) (Aa (pv 1) Ad))))))
   (Ah (Ay (Be Bc (by rfl) T.tuple (by decide+kernel) (Aa (C5 (T:=["number","answer"]) (F:=[]) (js:=[]) (CS.to (osc:=Ag sHalf) ⟨by rfl,by decide+kernel,by decide+kernel,by decide+kernel,by decide+kernel,by decide+kernel,by decide+kernel⟩ rfl rfl) rfl (pi_list (A8 Srt.call_sortedP (by rfl) T.sorted (by decide+kernel) (Aa (pv 3) Ad))) (fun _ _ _ _ _=>pg_tupK K 2 rfl rfl (At (An (i:=0) (show (["number","answer"]:List Str).Nodup by decide+kernel) rfl (Or.inl rfl)) (At (An (i:=1) (show (["number","answer"]:List Str).Nodup by decide+kernel) rfl (Or.inl rfl)) Bu))) (fun _ _ _ _ _=>C4) (fun _ _ _ _ _=>pv 1)) Ad))))),?_⟩
  obtain ⟨tp,rs0,eh,et,hdd⟩:=id hist
  have d60:=hR.len
  have ll:(rs0.map V.ref).length=ds.length:=by rw [List.length_map,hdd.1]
  refine ⟨_,rfl,h,_,1,_,rfl,rfl,SqT.of eh,Am (j:=1) rfl,tp,_,rfl,.inr (SqT.of et),_,_,rfl,rfl,small (by simp),fun wq hw=> ?_⟩
  rw [ll]
  have s1:=Ac (o:= .tup [.int 0,.int ((ds.length:Int)+1)]) hw
  have w1:=Ab (H:=H) (a:=wq) (o:= .tup [.int 0,.int ((ds.length:Int)+1)])
  show tSeq _ _ _ _ _
  generalize upd H wq (.tup [.int 0,.int ((ds.length:Int)+1)])=H1 at s1 w1
  refine ⟨_,rfl,h,N,ds,rfl,hist.same s1,hR,fun d H2 s2 ld=> ?_⟩
  have S2:=s1.trans s2
  refine ⟨_,rfl,h,_,0,_,rfl,rfl,SqT.of (S2 _ _ eh),Am (j:=0) rfl,fun x dx hx hdx hxd=>⟨x,dx,(N:Int),rfl,Ab,by omega,by omega,fun S H5 hS hT5 f5=>⟨rfl,?_⟩⟩⟩
  have s5:Same H2 H5:=fun b o e=>f5 b o (by rw [Ai (Aj e hx),Ai (Aj e hdx)];exact e) (Aj e hx)
  have nS:H2 S=none:=by
   cases e:H2 S with
   |none=>rfl
   |some o=>
    rw [Ai (Aj e hx),Ai (Aj e hdx),e] at hS
    cases hS
  have S5:=S2.trans s5
  have e3:stsF N []=[Cu (N:Int)]:=rfl
  rw [←e3] at hT5
  obtain ⟨kvs,hd2,ha2⟩:=ld
  refine ⟨_,rfl,_,rfl,d,x,wq,ta,S,N,ds.length,0,(ds.length:Int)+1,laidH ds,[],rs,ks,rfl,⟨s5 _ _ (s2 _ _ w1),by omega,(by show (ds.length:Int)+1 - 0≤64;omega),by decide,⟨kvs,s5 _ _ hd2,fun y=>(ha2 y).imp (fun ⟨a,rs',h1,h2,h3⟩=>⟨a,rs',h1,s5 _ _ h2,h3.mono fun r xs e=>s5 _ _ e,Aj h2 nS⟩) id⟩,hT5,N1,N24,laid_in hR,fun t ht=>by (cases ht),fun n h1 h2=> ?_,S5 _ _ hta,hA.mono fun r xs e=>S5 _ _ e,ok,k60⟩,fun l S' G H6 Q6=> ?_⟩
  ·have z:=laid_len (sz:=(ds.length:Int)+1) (n:=n) (by omega) (by omega) h1 h2 (Bf (ds.map toD) (ds.map toD).length)
   have z2:=lives_len (ds.map toD) (ds.map toD).length
   rw [List.length_map] at z2
   rw [List.nil_append]
   exact Nat.le_trans z (by rw [List.length_map];omega)
  have nx:H2 x=none:=by
   cases e:H2 x with
   |none=>rfl
   |some o=>rw [e] at hx;cases hx
  have s6:Same H H6:=fun b o e=>Q6.fr _ _ (S5 _ _ e) (Aj (S2 _ _ e) nx) (Aj (S2 _ _ e) nS)
  have pm:(G.map (·.2)).Perm (dueP (ansF N ds) ks):=by rw [Q6.gt];exact tells_all hR N24 ok
  have gl:G.length=ks.length:=by
   have:=pm.length_eq
   rw [List.length_map] at this
   rw [this];unfold dueP;rw [List.length_map,List.length_zipIdx]
  have nd:(G.map (·.2.1)).Nodup:=by
   have e:G.map (·.2.1)=(G.map (·.2)).map (·.1):=by rw [List.map_map];rfl
   rw [e]
   exact (pm.map _).nodup_iff.mpr (keys_nodup _ _)
  refine ⟨_,rfl,l,G,rfl,SqL.of Q6.hl,fun q hq=>SqT.of (Q6.pr q hq),nd,by omega,fun m ps hm perm srt=> ?_⟩
  have s7:=Ac (o:= .lst (ps.map Srt.pRef)) hm
  have m7:=Ab (H:=H6) (a:=m) (o:= .lst (ps.map Srt.pRef))
  have fin:ps.map (fun q=>q.2.2)=ks.map (ansF N ds):=by
   have p2:(ps.map (·.2)).Perm (dueP (ansF N ds) ks):=(perm.map _).trans pm
   have:=due_sorted p2 (by rw [List.pairwise_map];exact srt)
   rw [←this,List.map_map];rfl
  have pl:ps.length=ks.length:=by rw [perm.length_eq,gl]
  have pr7:∀q∈ps,upd H6 m (.lst (ps.map Srt.pRef)) q.1=some (.tup [.int q.2.1,q.2.2]):=fun q hq=>s7 _ _ (Q6.pr q (perm.mem_iff.mp hq))
  have S7:=s6.trans s7
  refine ⟨m,rfl,⟨_,SqL.of m7⟩,fun D hD=> ?_⟩
  generalize upd H6 m (.lst (ps.map Srt.pRef))=H7 at s7 m7 pr7 S7 hD ⊢
  refine comp_list (K:=K) (a:=m) (xs:=ps.map Srt.pRef) (fun j σ ys H8=>∃(u v:Option V),σ=[u,v]∧ys=(ps.take j).map (fun q=>q.2.2)∧Same H7 H8∧H8 D=some (.lst ys)) ⟨none,none,rfl,rfl,Ac hD,Ab⟩ (fun j σ ys H8 _ ⟨_,_,_,_,e,f⟩=>⟨SqL.of (e _ _ m7),f⟩) ?_ ?_
  ·rintro j y σ ys H8 hy ⟨u,v,rfl,rfl,s8,D8⟩
   obtain ⟨q,hq,rfl⟩:∃q,ps[j]? =some q∧y=Srt.pRef q:=by
    rw [List.getElem?_map] at hy
    cases e:ps[j]? with
    |none=>rw [e] at hy;cases hy
    |some z=>rw [e] at hy;exact ⟨z,rfl,(Option.some.inj hy).symm⟩
   have e8:=s8 _ _ (pr7 q (List.mem_of_getElem? hq))
   have jl:j<ps.length:=(List.getElem?_eq_some_iff.mp hq).1
   refine ⟨q.1,_,rfl,SqT.of e8,rfl,_,_,rfl,_,_,rfl,rfl,?_⟩
   refine ⟨_,rfl,D8,Aw (by rw [List.length_map,List.length_take];omega),_,_,rfl,?_,Bi s8 hD,Ab⟩
   rw [Ce hq,List.map_append];rfl
  rintro σ ys H8 ⟨u,v,rfl,rfl,s8,D8⟩
  rw [List.length_map,List.take_length,fin] at D8
  exact ⟨D,_,rfl,.inl ⟨SqL.of D8,fun z hz=>k z _ ((S7.trans s8).trans (Ac hz)) Ab⟩⟩
end
end K28
namespace K28
open PySem L2 Wk
def kd:Dd→Bool×Str
 | .come _ t=>(true,t.1)
 | .go _ n=>(false,n)
def nstep (ns:List Str) (p:Bool×Str):List Str:=if p.1=true then ns++[p.2] else ns.filter fun n=>decide (n≠p.2)
theorem names_fold:∀(ds:List Dd) (S:List T4),(ds.foldl stepD S).map (·.1)=(ds.map kd).foldl nstep (S.map (·.1))
 |[],S=>rfl
 | .come m t::ds,S=>by
  show (ds.foldl stepD (S++[t])).map (·.1)=(ds.map kd).foldl nstep (nstep (S.map (·.1)) (true,t.1))
  rw [names_fold ds,List.map_append];rfl
 | .go m n::ds,S=>by
  show (ds.foldl stepD (S.filter fun t=>decide (t.1≠n))).map (·.1)=(ds.map kd).foldl nstep (nstep (S.map (·.1)) (false,n))
  rw [names_fold ds]
  have:(S.filter fun t=>decide (t.1≠n)).map (·.1)=nstep (S.map (·.1)) (false,n):=by
   show _=(S.map (·.1)).filter fun x=>decide (x≠n)
   rw [List.filter_map];rfl
  rw [this]
theorem thr_names {ds ds':List Dd} (e:ds.map kd=ds'.map kd):(thr ds).map (·.1)=(thr ds').map (·.1):=by
 unfold thr;rw [names_fold,names_fold,e]
theorem right_tie {N:Nat} {ds:List Dd} (h:Right N ds) {m:Int} {t:T4} (ht:Dd.come m t∈ds):TieOk N t:=by
 obtain ⟨i,hi⟩:=List.getElem?_of_mem ht
 exact (h.ok i _ hi).2
theorem right_like {N:Nat} {ds ds':List Dd} (h:Right N ds) (e:ds'.map kd=ds.map kd) (tk:∀m t,Dd.come m t∈ds'→TieOk N t) (mo:∀d∈ds',0≤d.mo∧d.mo≤1000000000) (up:ds'.Pairwise fun a b=>a.mo≤b.mo) (wt:∀(m:Int) t,Dd.come m t∈ds'→0≤t.2.2.2∧t.2.2.2≤1000000000):Right N ds':=by
 have ll:ds'.length=ds.length:=by have:=congrArg List.length e;rwa [List.length_map,List.length_map] at this
 refine ⟨fun i d' e'=> ?_,by rw [ll];exact h.len,mo,up,wt⟩
 have hi:i<ds.length:=by rw [←ll];exact (List.getElem?_eq_some_iff.mp e').1
 have hd:=h.ok i ds[i] (Cc hi)
 have ek:kd d'=kd ds[i]:=by
  have:(ds'.map kd)[i]? =(ds.map kd)[i]? :=by rw [e]
  rw [List.getElem?_map,List.getElem?_map,e',Cc hi] at this
  exact Option.some.inj this
 have en:(thr (ds'.take i)).map (·.1)=(thr (ds.take i)).map (·.1):=thr_names (by rw [List.map_take,List.map_take,e])
 generalize ds[i]=d at hd ek
 cases d' with
 |come m t=>
  cases d with
  |come m2 t2=>
   have e1:t.1=t2.1:=congrArg Prod.snd ek
   exact ⟨by rw [en,e1];exact hd.1,tk m t (List.mem_of_getElem? e')⟩
  |go m2 n2=>exact absurd (congrArg Prod.fst ek) (by intro z;cases z)
 |go m n=>
  cases d with
  |come m2 t2=>exact absurd (congrArg Prod.fst ek) (by intro z;cases z)
  |go m2 n2=>
   have e1:n=n2:=congrArg Prod.snd ek
   show n∈_
   rw [en,e1];exact hd
def hv:Dd→Dd
 | .come m t=> .come m (t.1,t.2.1,t.2.2.1,1000000000 - t.2.2.2)
 | .go m n=> .go m n
theorem hv_kd (d:Dd):kd (hv d)=kd d:=by cases d<;> rfl
theorem hv_mo (d:Dd):(hv d).mo=d.mo:=by cases d<;> rfl
def wei (c:Nat) (ds:List Dd):List Dd:=ds.take c++(ds.drop c).map hv
theorem wei_map {α:Type} (f:Dd→α) (hf:∀d,f (hv d)=f d) (c:Nat) (ds:List Dd):(wei c ds).map f=ds.map f:=by
 unfold wei
 rw [List.map_append,List.map_map,show (ds.drop c).map (f∘hv)=(ds.drop c).map f from List.map_congr_left fun d _=>hf d,←List.map_append,List.take_append_drop]
theorem wei_mem {c:Nat} {ds:List Dd} {d:Dd} (h:d∈wei c ds):d∈ds∨∃d'∈ds,hv d'=d:=by
 rcases List.mem_append.mp h with g|g
 ·exact .inl (List.mem_of_mem_take g)
 ·obtain ⟨d',h',rfl⟩:=List.mem_map.mp g
  exact .inr ⟨d',List.mem_of_mem_drop h',rfl⟩
theorem wei_right {N:Nat} {ds:List Dd} (h:Right N ds) (c:Nat):Right N (wei c ds):=by
 refine right_like h (wei_map kd hv_kd c ds) (fun m t ht=> ?_) (fun d hd=> ?_) ?_ (fun m t ht=> ?_)
 ·rcases wei_mem ht with g|⟨d',g,e⟩
  ·exact right_tie h g
  ·cases d' with
   |come m2 t2=>
    have e2:=Dd.come.inj e
    have:=right_tie h g
    rw [←e2.2];exact this
   |go m2 n2=>cases e
 ·have:d.mo∈(wei c ds).map Dd.mo:=List.mem_map.mpr ⟨d,hd,rfl⟩
  rw [wei_map Dd.mo hv_mo] at this
  obtain ⟨d2,g,e⟩:=List.mem_map.mp this
  rw [←e];exact h.mo d2 g
 ·have:((wei c ds).map Dd.mo).Pairwise (·≤·):=by rw [wei_map Dd.mo hv_mo];exact List.pairwise_map.mpr h.up
  exact List.pairwise_map.mp this
 ·rcases wei_mem ht with g|⟨d',g,e⟩
  ·exact h.wt m t g
  ·cases d' with
   |come m2 t2=>
    have e2:=Dd.come.inj e
    have:=h.wt _ _ g
    rw [←e2.2]
    show 0≤1000000000 - t2.2.2.2∧1000000000 - t2.2.2.2≤1000000000
    omega
   |go m2 n2=>cases e
def atm (m:Int):Dd→Dd
 | .come _ t=> .come m t
 | .go _ n=> .go m n
theorem atm_fold (m:Int):∀(ds:List Dd) (S:List T4),(ds.map (atm m)).foldl stepD S=ds.foldl stepD S
 |[],S=>rfl
 | .come _ t::ds,S=>atm_fold m ds _
 | .go _ n::ds,S=>atm_fold m ds _
theorem atm_mem {m:Int} {ds:List Dd} {m':Int} {t:T4} (h:Dd.come m' t∈ds.map (atm m)):∃m2,Dd.come m2 t∈ds:=by
 obtain ⟨d,g,e⟩:=List.mem_map.mp h
 cases d with
 |come m2 t2=>exact ⟨m2,by rw [←(Dd.come.inj e).2];exact g⟩
 |go m2 n2=>cases e
theorem atm_mo {m:Int} (d:Dd):(atm m d).mo=m:=by cases d<;> rfl
theorem atm_right {N:Nat} {ds:List Dd} (h:Right N ds) {m:Int} (hm:0≤m∧m≤1000000000):Right N (ds.map (atm m)):=by
 refine right_like h (by rw [List.map_map];exact List.map_congr_left fun d _=>by cases d<;> rfl) (fun m' t ht=> ?_) (fun d hd=> ?_) ?_ (fun m' t ht=> ?_)
 ·obtain ⟨m2,g⟩:=atm_mem ht
  exact right_tie h g
 ·obtain ⟨d',g,rfl⟩:=List.mem_map.mp hd
  rw [atm_mo];exact hm
 ·refine List.pairwise_map.mpr ?_
  exact h.up.imp fun {a b} _=>by rw [atm_mo,atm_mo];exact Int.le_refl _
 ·obtain ⟨m2,g⟩:=atm_mem ht
  exact h.wt _ _ g
theorem ans_take {N c:Nat} {ds ds':List Dd} {k:Ak} (hk:k.n≤c) (e:ds'.take c=ds.take c):ansF N ds' k=ansF N ds k:=by
 unfold ansF
 have:ds'.take k.n=ds.take k.n:=by
  have:=congrArg (List.take k.n) e
  rwa [List.take_take,List.take_take,Nat.min_eq_left hk] at this
 rw [this]
theorem ans_atm {N:Nat} {ds:List Dd} {m:Int} (k:Ak):ansF N (ds.map (atm m)) k=ansF N ds k:=by
 unfold ansF
 rw [←List.map_take]
 unfold thr
 rw [atm_fold]
theorem AkOk.up {N L L':Nat} {k:Ak} (h:AkOk N L k) (hl:L≤L'):AkOk N L' k:=by
 cases k with
 |jo n p q=>exact ⟨Nat.le_trans h.1 hl,h.2⟩
 |pa n=>exact Nat.le_trans h hl
 |si n p=>exact ⟨Nat.le_trans h.1 hl,h.2⟩
 |ev n=>exact Nat.le_trans h hl
theorem dds_app {H:Hp} {rs rs':List Addr} {ds ds':List Dd} (h:DdsAt H rs ds) (h':DdsAt H rs' ds'):DdsAt H (rs++rs') (ds++ds'):=by
 refine ⟨by rw [List.length_append,List.length_append,h.1,h'.1],fun i x y hx hy=> ?_⟩
 by_cases hi:i<rs.length
 ·rw [List.getElem?_append_left hi] at hx
  rw [List.getElem?_append_left (by rw [←h.1];exact hi)] at hy
  exact h.2 i x y hx hy
 ·rw [List.getElem?_append_right (by omega)] at hx
  rw [List.getElem?_append_right (by rw [←h.1];omega),←h.1] at hy
  exact h'.2 _ x y hx hy
theorem dds_drop {H:Hp} {rs:List Addr} {ds:List Dd} (h:DdsAt H rs ds) (n:Nat):DdsAt H (rs.drop n) (ds.drop n):=by
 refine ⟨by rw [List.length_drop,List.length_drop,h.1],fun i r k a b=> ?_⟩
 rw [List.getElem?_drop] at a b
 exact h.2 _ r k a b
noncomputable def txt (N:Nat) (ds:List Dd) (ks:List Ak):Str:=(PyData.tuple ((ks.map (ansF N ds)).map datV)).shown
def spHeavy:Sp:=fun vs H Q _=>∃(r:Addr) (d:Dd),vs=[.ref r]∧H r=some (.tup d.vs)∧∀r' H',Same H H'→H' r'=some (.tup (hv d).vs)→Q (.ref r') H'
def spAnswers:Sp:=fun vs H Q _=>∃(h ta:Addr) (N:Nat) (ds:List Dd) (rs:List Addr) (ks:List Ak),vs=[.ref h,.ref ta]∧HistAt H h N ds∧Right N ds∧1≤N∧N≤24∧H ta=some (.tup (rs.map V.ref))∧AksAt H rs ks∧(∀k∈ks,AkOk N ds.length k)∧ks.length≤60∧∀l H',Same H H'→H' l=some (.lst [.str (txt N ds ks),.str (txt N ds ks)])→Q (.ref l) H'
section
variable {P:Program} {w:World} {K:PySem.W.Frag} {mg:Str→Option Value} {base:Heap} {C I:Addr}
theorem scHeavy:Ax ["_law_deed"] ["_law_deed"] (Ag sHeavy):=⟨rfl,rfl,rfl,by decide+kernel,rfl,by decide+kernel,by decide+kernel⟩
theorem ok_Heavy {f:Addr} {fd:FuncData} (F:Fun K "_law_heavier" "_law_heavier" sHeavy f fd) (T:Txt K mg C I):
  FnOk P w K mg base CX0 1 f fd ["_law_deed"] spHeavy:=by
 refine F.ok scHeavy (fun vs H Q E h=> ?_) (fun cdv A outer s H vs Q E hr h=> ?_)
 ·obtain ⟨_,_,rfl,_⟩:=h;rfl
 ·obtain ⟨r,d,rfl,hr0,k⟩:=h
  refine ⟨_,Af (B3 (A0 By (Ap Az (pv 0) Ae (fun _ _=>rfl)) Bw (A1 _)) (Ah (Ay (pv 0))) Bk)
   (Ah (Ay (As op_catTT (Bs sl_tupA (pv 0) Cj (Bv Ae)) (Ba (Aa (As op_sub (As op_pow Ae Ae) (Ap Az (pv 0) Ae (fun _ _=>rfl))) Ad))))),?_⟩
  cases d with
  |go m n=>
   refine ⟨_,rfl,r,_,0,_,rfl,rfl,SqT.of hr0,Am (j:=0) rfl,rfl,_,rfl,Cw (fun _=> ?_) (fun g=>absurd (by decide+kernel) g)⟩
   exact ⟨_,rfl,k r H (Cp _) hr0⟩
  |come m t=>
   refine ⟨_,rfl,r,_,0,_,rfl,rfl,SqT.of hr0,Am (j:=0) rfl,rfl,_,rfl,Cw (fun g=>absurd g (by decide+kernel)) (fun _=> ?_)⟩
   refine ⟨_,rfl,_,rfl,cut_any hr0 fun t1 H1 s1 e1=> ?_⟩
   rw [show (some (5:Int))=some ((5:Nat):Int) from rfl,cutV_take (by show 5≤6;decide)] at e1
   refine ⟨10,9,rfl,rfl,⟨by decide,by decide,by decide+kernel⟩,_,rfl,r,_,5,_,rfl,rfl,SqT.of (s1 _ _ hr0),Am (j:=5) rfl,_,_,rfl,rfl,small (by simp),fun p hp=> ?_⟩
   have e2:=Ab (H:=H1) (a:=p) (o:= .tup [.int (10 ^ (9:Int).toNat - t.2.2.2)])
   have s2:=Ac (o:= .tup [.int (10 ^ (9:Int).toNat - t.2.2.2)]) hp
   refine cat_any (s2 _ _ e1) e2 (by show 5+1≤10000;decide) fun z H3 s3 e3=>k z H3 ((s1.trans s2).trans s3) ?_
   rw [e3]
   rfl
theorem scAnswers:Ax ["_law_history","_law_asks_here"] ["_law_history","_law_asks_here"] (Ag sAnswers):=⟨rfl,rfl,rfl,by decide+kernel,rfl,by decide+kernel,by decide+kernel⟩
theorem ok_Answers {f:Addr} {fd:FuncData} (F:Fun K "_law_answers" "_law_answers" sAnswers f fd) (T:Txt K mg C I)
  {gPlain:Addr} {fPlain:FuncData} (kPlain:PySem.W.keepIn K (.ref gPlain)=true) (bPlain:Binds K fPlain ["history","asks"] []) (hPlain:mg "answers_plainly"=some (.ref gPlain)) (GPlain:FnOk P w K mg base CX0 14 gPlain fPlain ["history","asks"] spPlain)
  {gHalf:Addr} {fHalf:FuncData} (kHalf:PySem.W.keepIn K (.ref gHalf)=true) (bHalf:Binds K fHalf ["history","asks"] []) (hHalf:mg "answers_by_halves"=some (.ref gHalf)) (GHalf:FnOk P w K mg base CX0 14 gHalf fHalf ["history","asks"] spHalf):
  FnOk P w K mg base CX0 15 f fd ["_law_history","_law_asks_here"] spAnswers:=by
 refine F.ok scAnswers (fun vs H Q E h=> ?_) (fun cdv A outer s H vs Q E hr h=> ?_)
 ·obtain ⟨_,_,_,_,_,_,rfl,_⟩:=h;rfl
 ·obtain ⟨h,ta,N,ds,rs,ks,rfl,hH,hR,N1,N24,hta,hA,ok,k60,k⟩:=h
  refine ⟨_,Ah (Ay (Bh (Aa (A8 (call_reprF hr.units hr.gd) (by rfl) T.repr (by decide+kernel) (Aa (Al GPlain hr rfl hPlain kPlain bPlain .nil Ar (Aa (pv 0) (Aa (pv 1) Ad))) Ad)) (Aa (A8 (call_reprF hr.units hr.gd) (by rfl) T.repr (by decide+kernel) (Aa (Al GHalf hr rfl hHalf kHalf bHalf .nil Ar (Aa (pv 0) (Aa (pv 1) Ad))) Ad)) Ad)))),?_⟩
  have fine:Rp.Fine (46 * 60+2 * 60+3) 1 (.tuple ((ks.map (ansF N ds)).map datV)):=Rp.Fine.tup (fun d hd=>by
   obtain ⟨v,hv,rfl⟩:=List.mem_map.mp hd
   obtain ⟨kk,_,rfl⟩:=List.mem_map.mp hv
   exact ans_fine (L:=0) (by omega) kk) (by rw [List.length_map,List.length_map];exact k60)
  refine ⟨_,rfl,_,rfl,h,ta,N,ds,rs,ks,rfl,hH,hR,N24,hta,hA,ok,k60,fun x H1 s1 ex=> ?_⟩
  have rx:Rp.RepF H1 false (.ref x) (.tuple ((ks.map (ansF N ds)).map datV)):= .tup ex (reps_all (fun kk=>ans_rep kk) ks)
  refine ⟨.ref x,_,false,rfl,rx,fine.sh,Nat.le_trans fine.dp (by decide),small (Nat.le_trans fine.ln (by decide)),?_⟩
  refine ⟨_,rfl,_,rfl,h,ta,N,ds,rs,ks,rfl,hH.same s1,hR,N1,N24,s1 _ _ hta,hA.mono (fun r xs e=>s1 _ _ e),ok,k60,fun y H2 s2 ey=> ?_⟩
  have ry:Rp.RepF H2 false (.ref y) (.tuple ((ks.map (ansF N ds)).map datV)):= .tup ey (reps_all (fun kk=>ans_rep kk) ks)
  refine ⟨.ref y,_,false,rfl,ry,fine.sh,Nat.le_trans fine.dp (by decide),small (Nat.le_trans fine.ln (by decide)),small (by simp),fun l hl=> ?_⟩
  exact k l _ ((s1.trans s2).trans (Ac hl)) Ab
end
end K28
namespace K28
open PySem L2 Wk
def Alt (H:Hp) (N c:Nat) (ds:List Dd) (ks:List Ak) (o:Addr):Prop:=∃(rs:List Addr) (ds':List Dd),H o=some (.tup (rs.map V.ref))∧DdsAt H rs ds'∧Right N ds'∧c≤ds'.length∧∀k∈ks,ansF N ds' k=ansF N ds k
theorem Alt.same {H H':Hp} {N c:Nat} {ds:List Dd} {ks:List Ak} {o:Addr} (h:Alt H N c ds ks o) (s:Same H H'):Alt H' N c ds ks o:=
 let ⟨rs,ds',a,b,c,d,e⟩:=h;⟨rs,ds',s _ _ a,b.mono fun r xs z=>s _ _ z,c,d,e⟩
theorem txt_like {N:Nat} {ds ds':List Dd} {ks:List Ak} (h:∀k∈ks,ansF N ds' k=ansF N ds k):txt N ds' ks=txt N ds ks:=by
 unfold txt;rw [List.map_congr_left h]
theorem eqs_str {K:PySem.W.Frag} {H:Hp} {x:Str} {a c:Addr} (ha:H a=some (.lst [.str x,.str x])) (hc:H c=some (.lst [.str x,.str x])):Eqs K H 1 (.ref a) (.ref c) true:=by
 have:=Eqs.seq (K:=K) (H:=H) (n:=0) (a:=a) (c:=c) (xs:=[.str x,.str x]) (ys:=[.str x,.str x]) (ds:=[x,x]) (es:=[x,x]) (.inr ⟨SqL.of ha,SqL.of hc⟩) rfl rfl (fun j p q d e hp hq hd he=>by
  have z:∀(l:List V),l=[.str x,.str x]→∀(p:V),l[j]? =some p→p= .str x:=by
   rintro l rfl p hp
   match j,hp with
   |0,hp=>exact (Option.some.inj hp).symm
   |1,hp=>exact (Option.some.inj hp).symm
  have w:∀(l:List Str),l=[x,x]→∀(p:Str),l[j]? =some p→p=x:=by
   rintro l rfl p hp
   match j,hp with
   |0,hp=>exact (Option.some.inj hp).symm
   |1,hp=>exact (Option.some.inj hp).symm
  rw [z _ rfl p hp,z _ rfl q hq,w _ rfl d hd,w _ rfl e he]
  have:=Eqs.flat (K:=K) (H:=H) (n:=0) (x:= .str x) (y:= .str x) rfl
  rwa [decide_eq_true rfl] at this ⊢)
 rwa [decide_eq_true rfl] at this
def spRightL:Sp:=fun vs H Q _=>∃(tp ta:Addr) (N c:Nat) (ds:List Dd) (rs qs:List Addr) (ks:List Ak),vs=[.int (N:Int),.ref tp,.int (c:Int),.ref ta]∧H tp=some (.tup (rs.map V.ref))∧DdsAt H rs ds∧Right N ds∧1≤N∧N≤24∧c≤ds.length∧H ta=some (.tup (qs.map V.ref))∧AksAt H qs ks∧(∀k∈ks,AkOk N c k)∧ks.length≤60∧∀H',Same H H'→Q (.bl true) H'
theorem atm_vs (m:Int) (d:Dd):d.vs.take 1++[V.int m]++d.vs.drop 2=(atm m d).vs:=by cases d<;> rfl
theorem vs_len (d:Dd):3≤d.vs.length∧d.vs.length≤6:=by cases d<;> exact ⟨by simp [Dd.vs,tieV],by simp [Dd.vs,tieV]⟩
theorem vs_mo (d:Dd):d.vs[1]? =some (.int d.mo):=by cases d<;> rfl
theorem last_mo {H:Hp} {N:Nat} {rs:List Addr} {ds:List Dd} (hdd:DdsAt H rs ds) (hR:Right N ds):∃m:Int,(0≤m∧m≤1000000000)∧(ds≠[]→∃(r:Addr) (d:Dd),(rs.map V.ref).getLast? =some (.ref r)∧H r=some (.tup d.vs)∧d.mo=m):=by
 by_cases g:ds=[]
 ·exact ⟨0,by decide,fun z=>absurd g z⟩
 ·obtain ⟨ys,d,rfl⟩:∃ys d,ds=ys++[d]:=⟨ds.dropLast,ds.getLast g,(List.dropLast_concat_getLast g).symm⟩
  have l1:=hdd.1
  rw [List.length_append] at l1
  have l2:rs.length=ys.length+1:=l1
  have hi:ys.length<rs.length:=by omega
  refine ⟨d.mo,hR.mo d (by simp),fun _=>⟨rs[ys.length],d,?_,hdd.2 ys.length _ d (Cc hi) (by simp),rfl⟩⟩
  rw [List.getLast?_eq_getElem?,List.length_map,show rs.length - 1=ys.length by omega,List.getElem?_map,Cc hi];rfl
theorem at_end {l:List V} {v:V} (h:l.getLast? =some v):atI l (-1)=some v:=by
 obtain ⟨ys,rfl⟩:=List.getLast?_eq_some_iff.mp h
 exact atI_last ys v
section
variable {P:Program} {w:World} {K:PySem.W.Frag} {mg:Str→Option Value} {base:Heap} {C I:Addr}
theorem scRightL:Ax ["_law_many","_law_deeds_here","_law_cut","_law_asks_here","_law_whole","_law_weighed","_law_at_once","_law_other"] ["_law_many","_law_deeds_here","_law_cut","_law_asks_here"] (Ag sRightL):=⟨rfl,rfl,rfl,by decide+kernel,rfl,by decide+kernel,by decide+kernel⟩
theorem ok_RightL {f:Addr} {fd:FuncData} (F:Fun K "_law_right" "_law_right" sRightL f fd) (T:Txt K mg C I)
  {gAnswers:Addr} {fAnswers:FuncData} (kAnswers:PySem.W.keepIn K (.ref gAnswers)=true) (bAnswers:Binds K fAnswers ["_law_history","_law_asks_here"] []) (hAnswers:mg "_law_answers"=some (.ref gAnswers)) (GAnswers:FnOk P w K mg base CX0 15 gAnswers fAnswers ["_law_history","_law_asks_here"] spAnswers)
  {gHeavy:Addr} {fHeavy:FuncData} (kHeavy:PySem.W.keepIn K (.ref gHeavy)=true) (bHeavy:Binds K fHeavy ["_law_deed"] []) (hHeavy:mg "_law_heavier"=some (.ref gHeavy)) (GHeavy:FnOk P w K mg base CX0 15 gHeavy fHeavy ["_law_deed"] spHeavy):
  FnOk P w K mg base CX0 16 f fd ["_law_many","_law_deeds_here","_law_cut","_law_asks_here"] spRightL:=by
 refine F.ok scRightL (fun vs H Q E h=> ?_) (fun cdv A outer s H vs Q E hr h=> ?_)
 ·obtain ⟨_,_,_,_,_,_,_,_,rfl,_⟩:=h;rfl
 ·obtain ⟨tp,ta,N,c,ds,rs,qs,ks,rfl,htp,hdd,hR,N1,N24,hc,hta,hA,ok,k60,k⟩:=h
  refine ⟨_,Af (Aq (i:=4) scRightL.nd rfl (Or.inl rfl) (Al GAnswers hr rfl hAnswers kAnswers bAnswers .nil Ar (Aa (Ba (Aa (pv 0) (Aa (pv 1) Ad))) (Aa (pv 3) Ad))))
   (Af (B3 (A0 op_ne (Ap Bb (pv 4) Ae (fun _ _=>rfl)) (Ap Bb (pv 4) Ae (fun _ _=>rfl)) (A1 _)) (Ah (Ay pe_bl)) Bk)
   (Af (Aq (i:=5) scRightL.nd rfl (Or.inl rfl) (As op_catTT (Bs sl_tupA (pv 1) Cj (Bv (pv 2))) (Be Bc (by rfl) T.tuple (by decide+kernel) (Aa (C5 (T:=["_law_deed"]) (F:=[]) (js:=[]) (CS.to (osc:=Ag sRightL) ⟨by rfl,by decide+kernel,by decide+kernel,by decide+kernel,by decide+kernel,by decide+kernel,by decide+kernel⟩ rfl rfl) rfl (pi_tup (Bs sl_tupA (pv 1) (Bv (pv 2)) Cj)) (fun _ _ _ _ _=>An (i:=0) (show (["_law_deed"]:List Str).Nodup by decide+kernel) rfl (Or.inl rfl)) (fun _ _ _ _ _=>C4) (fun _ _ _ _ _=>Al GHeavy hr rfl hHeavy kHeavy bHeavy .nil Ar (Aa (pv 0) Ad))) Ad))))
   (Af (Aq (i:=6) scRightL.nd rfl (Or.inl rfl) (Be Bc (by rfl) T.tuple (by decide+kernel) (Aa (C5 (T:=["_law_deed"]) (F:=["_law_deeds_here"]) (js:=[1]) (CS.to (osc:=Ag sRightL) ⟨by rfl,by decide+kernel,by decide+kernel,by decide+kernel,by decide+kernel,by decide+kernel,by decide+kernel⟩ rfl rfl) rfl (pi_tup (pv 1)) (fun _ _ _ _ _=>An (i:=0) (show (["_law_deed","_law_deeds_here"]:List Str).Nodup by decide+kernel) rfl (Or.inl rfl)) (fun _ _ _ _ _=>C4) (fun _ _ _ _ _=>As (r:=rCatTT K) op_catTT (As (r:=rCatTT K) op_catTT (Bs (r:=rSlTA K) sl_tupA (pv 0) Cj (Bv Ae)) (Ba (Aa (Ap (r:=rIxT K) Az (Ap (r:=rIxT K) Az (pv 1) (pe_un un_neg Ae) (fun _ _=>rfl)) Ae (fun _ _=>rfl)) Ad))) (Bs (r:=rSlTA K) sl_tupA (pv 0) (Bv Ae) Cj))) Ad)))
   (Af (Cs PassesOwn.never rfl (pi_list (Bh (Aa (Bs sl_tupA (pv 1) Cj (Bv (pv 2))) (Aa (pv 5) (Aa (pv 6) (Aa (Bs sl_tupA (pv 6) Cj (Bv (pv 2))) Ad)))))) (An (i:=7) scRightL.nd rfl (Or.inl rfl)) (Ah (B3 (A0 (op_nes hr.units) (Al GAnswers hr rfl hAnswers kAnswers bAnswers .nil Ar (Aa (Ba (Aa (pv 0) (Aa (pv 7) Ad))) (Aa (pv 3) Ad))) (pv 4) (A1 _)) (Ah (Ay pe_bl)) Bk)))
   (Ah (Ay pe_bl)))))),?_⟩
  have rl:=hdd.1
  have d60:=hR.len
  have okd:∀k∈ks,AkOk N ds.length k:=fun k hk=>(ok k hk).up hc
  refine ⟨_,rfl,_,rfl,small (by simp),fun h hh=> ?_⟩
  have sh:=Ac (o:= .tup [.int (N:Int),.ref tp]) hh
  have eh:=Ab (H:=H) (a:=h) (o:= .tup [.int (N:Int),.ref tp])
  generalize upd H h (.tup [.int (N:Int),.ref tp])=H1 at sh eh
  refine ⟨_,rfl,h,ta,N,ds,qs,ks,rfl,⟨tp,rs,eh,sh _ _ htp,hdd.mono fun r xs e=>sh _ _ e⟩,hR,N1,N24,sh _ _ hta,hA.mono (fun r xs e=>sh _ _ e),okd,k60,fun l H2 s2' el=> ?_⟩
  have s2:=sh.trans s2'
  clear sh eh s2'
  refine ⟨_,rfl,l,_,0,_,rfl,rfl,SqL.of el,Am (j:=0) rfl,_,rfl,l,_,1,_,rfl,rfl,SqL.of el,Am (j:=1) rfl,rfl,_,rfl,Cw (fun g=>absurd g (by simp)) fun _=> ?_⟩
  dsimp only [Cr]
  refine ⟨_,rfl,_,rfl,_,rfl,cut_any (s2 _ _ htp) fun t1 H3 s3' e3=> ?_⟩
  rw [cutV_take (by rw [List.length_map,rl];exact hc),←List.map_take] at e3
  have s3:=s2.trans s3'
  refine ⟨_,rfl,_,rfl,_,rfl,cut_any (s3 _ _ htp) fun t2 H4 s4' e4=> ?_⟩
  rw [cutV_drop,←List.map_drop] at e4
  have s4:=s3.trans s4'
  have e34:=s4' _ _ e3
  have el4:=s4' _ _ (s3' _ _ el)
  have dr:=dds_drop (hdd.mono fun r xs e=>s4 _ _ e) c
  refine ⟨t2,rfl,⟨_,SqT.of e4⟩,fun D hD=>comp_tup (K:=K) (a:=t2) (xs:=(rs.drop c).map V.ref) (fun j σ ys H6=>∃(u:Option V) (as:List Addr),σ=[u]∧ys=as.map V.ref∧Same H4 H6∧H6 D=some (.lst ys)∧DdsAt H6 as (((ds.drop c).take j).map hv)) ⟨none,[],rfl,rfl,Ac hD,Ab,⟨rfl,fun i r k e=>by simp at e⟩⟩ (fun j σ ys H6 _ ⟨_,_,_,_,e,f,_⟩=>⟨SqT.of (e _ _ e4),f⟩) ?_ ?_⟩
  ·rintro j x σ ys H6 hx ⟨u,as,rfl,rfl,s6,D6,A6⟩
   obtain ⟨r,hr',rfl⟩:=map_some hx
   obtain ⟨d,hd,er⟩:=dr.get hr'
   have hj:j<(ds.drop c).length:=(List.getElem?_eq_some_iff.mp hd).1
   have tk:((ds.drop c).take (j+1)).map hv=((ds.drop c).take j).map hv++[hv d]:=by rw [List.take_add_one,hd,List.map_append];rfl
   have al:as.length≤60:=by rw [A6.1,List.length_map,List.length_take,List.length_drop];omega
   refine ⟨_,rfl,r,d,rfl,s6 _ _ er,fun r' H7 s7 e7=> ?_⟩
   have D7:=s7 _ _ D6
   refine ⟨D7,Aw (by rw [List.length_map];omega),_,as++[r'],rfl,by rw [List.map_append];rfl,Bi (s6.trans s7) hD,Ab,?_⟩
   rw [tk]
   exact dds_snoc A6 (fun b xs e=>by rw [Ai (Ao (s7 _ _ e) D7 (by intro z;cases z))];exact s7 _ _ e) (by rw [Ai (Ao e7 D7 (by intro z;cases z))];exact e7)
  rintro σ ys H6 ⟨u,as,rfl,rfl,s6,D6,A6⟩
  rw [List.length_map,List.length_drop,rl,←List.length_drop,List.take_length] at A6
  refine ⟨D,_,rfl,.inl ⟨SqL.of D6,fun z hz=> ?_⟩⟩
  have s7':=s6.trans (Ac (o:= .tup (as.map V.ref)) hz)
  have e7:=Ab (H:=H6) (a:=z) (o:= .tup (as.map V.ref))
  have A7:=A6.mono fun r xs e=>Ac (o:= .tup (as.map V.ref)) hz _ _ e
  generalize upd H6 z (.tup (as.map V.ref))=H7 at s7' e7 A7
  have al:as.length≤60:=by rw [A6.1,List.length_map,List.length_drop];omega
  refine cat_any (s7' _ _ e34) e7 (by rw [List.length_map,List.length_map,List.length_take];omega) fun we H8 s8' e8=> ?_
  rw [←List.map_append] at e8
  have s78:=s7'.trans s8'
  have s8:=s4.trans s78
  have el8:=s78 _ _ el4
  have W8:Alt H8 N c ds ks we:=⟨_,wei c ds,e8,dds_app ((hdd.mono fun r xs e=>s8 _ _ e).take c) (A7.mono fun r xs e=>s8' _ _ e),wei_right hR c,by
   have:=congrArg List.length (wei_map kd hv_kd c ds)
   rw [List.length_map,List.length_map] at this
   rw [this];exact hc,fun k hk=>ans_take (c:=c) (ok k hk).le (by unfold wei;rw [List.take_append_of_le_length (by rw [List.length_take];omega),List.take_take,Nat.min_self])⟩
  clear s7' e7 A7 s6 D6 A6 hD hz e34 e4 dr s8' e8 s78 el4 e3 s4' s3' s3 s4 al
  have tp8:=s8 _ _ htp
  have dd8:=hdd.mono fun r xs e=>s8 _ _ e
  obtain ⟨m,hm,hlast⟩:=last_mo hdd hR
  refine ⟨_,rfl,tp,rfl,⟨_,SqT.of tp8⟩,fun D hD=>comp_tup (K:=K) (a:=tp) (xs:=rs.map V.ref) (fun j σ ys H6=>∃(u:Option V) (as:List Addr),σ=[u,some (.ref tp)]∧ys=as.map V.ref∧Same H8 H6∧H6 D=some (.lst ys)∧DdsAt H6 as ((ds.take j).map (atm m))) ⟨none,[],rfl,rfl,Ac hD,Ab,⟨rfl,fun i r k e=>by simp at e⟩⟩ (fun j σ ys H6 _ ⟨_,_,_,_,e,f,_⟩=>⟨SqT.of (e _ _ tp8),f⟩) ?_ ?_⟩
  ·rintro j x σ ys H6 hx ⟨u,as,rfl,rfl,s6,D6,A6⟩
   obtain ⟨r,hr',rfl⟩:=map_some hx
   obtain ⟨d,hd,er⟩:=dd8.get hr'
   have hj:j<ds.length:=(List.getElem?_eq_some_iff.mp hd).1
   have tk:(ds.take (j+1)).map (atm m)=(ds.take j).map (atm m)++[atm m d]:=by rw [List.take_add_one,hd,List.map_append];rfl
   have al:as.length≤60:=by rw [A6.1,List.length_map,List.length_take];omega
   obtain ⟨rz,dz,g1,g2,g3⟩:=hlast (by intro z;rw [z] at hj;simp at hj)
   have vl:=vs_len d
   have er6:=s6 _ _ er
   refine ⟨_,rfl,_,rfl,cut_any er6 fun q1 J1 z1 f1=> ?_⟩
   rw [show (some (1:Int))=some ((1:Nat):Int) from rfl,cutV_take (by omega)] at f1
   refine ⟨_,rfl,_,rfl,tp,_,-1,_,rfl,rfl,SqT.of (z1 _ _ (s6 _ _ tp8)),at_end g1,rz,_,1,_,rfl,rfl,SqT.of (z1 _ _ (s6 _ _ (s8 _ _ g2))),Am (j:=1) (vs_mo dz),small (by simp),fun q2 hq2=> ?_⟩
   rw [g3] at *
   have z2:=z1.trans (Ac (o:= .tup [.int m]) hq2)
   have f2:=Ab (H:=J1) (a:=q2) (o:= .tup [.int m])
   have f1':=Ac (o:= .tup [.int m]) hq2 _ _ f1
   generalize upd J1 q2 (.tup [.int m])=J2 at z2 f2 f1'
   refine cat_any f1' f2 (by rw [List.length_take];show min 1 _+1≤_;omega) fun q3 J3 z3 f3=> ?_
   refine ⟨_,rfl,_,rfl,cut_any (z3 _ _ (z2 _ _ er6)) fun q4 J4 z4 f4=> ?_⟩
   rw [show (some (2:Int))=some ((2:Nat):Int) from rfl,cutV_drop] at f4
   refine cat_any (z4 _ _ f3) f4 (by rw [List.length_append,List.length_take,List.length_drop];show min 1 _+1+_≤_;omega) fun r' H7 s7' e7=> ?_
   rw [atm_vs] at e7
   have s7:=((z2.trans z3).trans z4).trans s7'
   have D7:=s7 _ _ D6
   refine ⟨D7,Aw (by rw [List.length_map];omega),_,as++[r'],rfl,by rw [List.map_append];rfl,Bi (s6.trans s7) hD,Ab,?_⟩
   rw [tk]
   exact dds_snoc A6 (fun b xs e=>by rw [Ai (Ao (s7 _ _ e) D7 (by intro z;cases z))];exact s7 _ _ e) (by rw [Ai (Ao e7 D7 (by intro z;cases z))];exact e7)
  rintro σ ys H6 ⟨u,as,rfl,rfl,s6,D6,A6⟩
  rw [List.length_map,rl,List.take_length] at A6
  refine ⟨D,_,rfl,.inl ⟨SqL.of D6,fun ao hao=> ?_⟩⟩
  have s9':=s6.trans (Ac (o:= .tup (as.map V.ref)) hao)
  have e9:=Ab (H:=H6) (a:=ao) (o:= .tup (as.map V.ref))
  have A9:=A6.mono fun r xs e=>Ac (o:= .tup (as.map V.ref)) hao _ _ e
  generalize upd H6 ao (.tup (as.map V.ref))=H9 at s9' e9 A9
  have s9:=s8.trans s9'
  have el9:=s9' _ _ el8
  have W9:=W8.same s9'
  have aR:=atm_right hR hm
  have O9:Alt H9 N c ds ks ao:=⟨as,_,e9,A9,aR,by rw [List.length_map];exact hc,fun k _=>ans_atm k⟩
  have al9:as.length=ds.length:=by rw [A9.1,List.length_map]
  clear s9' s6 D6 A6 hD hao W8 el8 dd8 tp8 s8 hlast
  refine ⟨_,rfl,_,rfl,_,rfl,cut_any (s9 _ _ htp) fun p1 I1 i1 g1=> ?_⟩
  rw [cutV_take (by rw [List.length_map,rl];exact hc),←List.map_take] at g1
  have P1:Alt I1 N c ds ks p1:=⟨_,ds.take c,g1,(hdd.mono fun r xs e=>i1 _ _ (s9 _ _ e)).take c,hR.take c,by rw [List.length_take];omega,fun k hk=>ans_take (c:=c) (ok k hk).le (by rw [List.take_take,Nat.min_self])⟩
  refine ⟨_,rfl,_,rfl,_,rfl,_,rfl,_,rfl,cut_any (i1 _ _ e9) fun p4 I4 i4 g4=> ?_⟩
  rw [cutV_take (by rw [List.length_map,al9];exact hc),←List.map_take] at g4
  have s14:=i1.trans i4
  have P4:Alt I4 N c ds ks p4:=⟨_,(ds.map (atm m)).take c,g4,(A9.mono fun r xs e=>s14 _ _ e).take c,aR.take c,by rw [List.length_take,List.length_map];omega,fun k hk=>(ans_take (c:=c) (ok k hk).le (by rw [List.take_take,Nat.min_self])).trans (ans_atm k)⟩
  refine ⟨small (by simp),fun li hli=> ?_⟩
  have sli:=Ac (o:= .lst [.ref p1,.ref we,.ref ao,.ref p4]) hli
  have eli:=Ab (H:=I4) (a:=li) (o:= .lst [.ref p1,.ref we,.ref ao,.ref p4])
  generalize upd I4 li (.lst [.ref p1,.ref we,.ref ao,.ref p4])=I5 at sli eli
  have all:∀(i:Nat) x,[V.ref p1,.ref we,.ref ao,.ref p4][i]? =some x→∃o,x= .ref o∧Alt I5 N c ds ks o:=by
   intro i x hx
   match i,hx with
   |0,hx=>exact ⟨p1,(Option.some.inj hx).symm,P1.same (i4.trans sli)⟩
   |1,hx=>exact ⟨we,(Option.some.inj hx).symm,W9.same (s14.trans sli)⟩
   |2,hx=>exact ⟨ao,(Option.some.inj hx).symm,O9.same (s14.trans sli)⟩
   |3,hx=>exact ⟨p4,(Option.some.inj hx).symm,P4.same sli⟩
  have s15:=s14.trans sli
  have s05:=s9.trans s15
  have el5:=s15 _ _ el9
  clear P1 P4 W9 O9 s14 sli i1 i4 g1 g4 e9 A9 hli el9 s9 s15
  refine ⟨li,rfl,⟨_,SqL.of eli⟩,for_list (K:=K) (a:=li) (xs:=[V.ref p1,.ref we,.ref ao,.ref p4]) (fun i σ HX=>∃(u7:Option V),σ=[some (.int (N:Int)),some (.ref tp),some (.int (c:Int)),some (.ref ta),some (.ref l),some (.ref we),some (.ref ao),u7]∧Same I5 HX) ⟨_,rfl,Cp _⟩ (fun i σ HX _ ⟨_,_,s⟩=>SqL.of (s _ _ eli)) ?_ ?_⟩
  ·rintro i x σ HX hx ⟨u7,rfl,sX⟩
   obtain ⟨o,rfl,ao'⟩:=all i x hx
   obtain ⟨rs',ds',o1,o2,o3,o4,o5⟩:=ao'.same sX
   refine ⟨_,rfl,_,rfl,small (by simp),fun h2 hh2=> ?_⟩
   have sh:=Ac (o:= .tup [.int (N:Int),.ref o]) hh2
   have eh:=Ab (H:=HX) (a:=h2) (o:= .tup [.int (N:Int),.ref o])
   generalize upd HX h2 (.tup [.int (N:Int),.ref o])=HY at sh eh
   have sY:=(s05.trans sX).trans sh
   refine ⟨_,rfl,h2,ta,N,ds',qs,ks,rfl,⟨o,rs',eh,sh _ _ o1,o2.mono fun r xs e=>sh _ _ e⟩,o3,N1,N24,sY _ _ hta,hA.mono (fun r xs e=>sY _ _ e),fun k hk=>(ok k hk).up o4,k60,fun l2 HZ sZ e2=> ?_⟩
   rw [txt_like o5] at e2
   refine ⟨_,rfl,0,true,l2,l,rfl,rfl,by decide,eqs_str e2 (sZ _ _ (sh _ _ (sX _ _ el5))),_,rfl,C3 ?_⟩
   exact ⟨_,rfl,(sX.trans sh).trans sZ⟩
  ·rintro σ HX ⟨u7,rfl,sX⟩
   exact k HX (s05.trans sX)
end
end K28
namespace K28
open PySem L2 Wk
section
variable {P:Program} {w:World} {K:PySem.W.Frag} {mg:Str→Option Value} {base:Heap} {C I:Addr}
theorem scLaw:Ax ["_law_script","_law_deck_here","_law_names_here","_law_many","_law_deeds_here","_law_cut","_law_asks_here"] ["_law_script"] (Ag sLaw):=⟨rfl,rfl,rfl,by decide+kernel,rfl,by decide+kernel,by decide+kernel⟩
theorem ok_Law {f:Addr} {fd:FuncData} (F:Fun K "law" "law" sLaw f fd) (T:Txt K mg C I)
  {gDeck:Addr} {fDeck:FuncData} (kDeck:PySem.W.keepIn K (.ref gDeck)=true) (bDeck:Binds K fDeck ["_law_script"] []) (hDeck:mg "_law_deck"=some (.ref gDeck)) (GDeck:FnOk P w K mg base CX0 16 gDeck fDeck ["_law_script"] (spDeck K))
  {gNames:Addr} {fNames:FuncData} (kNames:PySem.W.keepIn K (.ref gNames)=true) (bNames:Binds K fNames ["_law_deck_here"] []) (hNames:mg "_law_names"=some (.ref gNames)) (GNames:FnOk P w K mg base CX0 16 gNames fNames ["_law_deck_here"] spNames)
  {gRare:Addr} {fRare:FuncData} (kRare:PySem.W.keepIn K (.ref gRare)=true) (bRare:Binds K fRare ["_law_deck_here","_law_often","_law_rare_here"] []) (hRare:mg "_law_rare"=some (.ref gRare)) (GRare:FnOk P w K mg base CX0 16 gRare fRare ["_law_deck_here","_law_often","_law_rare_here"] spRare)
  {gTake:Addr} {fTake:FuncData} (kTake:PySem.W.keepIn K (.ref gTake)=true) (bTake:Binds K fTake ["_law_deck_here","_law_most"] []) (hTake:mg "_law_take"=some (.ref gTake)) (GTake:FnOk P w K mg base CX0 16 gTake fTake ["_law_deck_here","_law_most"] spTake)
  {gDeeds:Addr} {fDeeds:FuncData} (kDeeds:PySem.W.keepIn K (.ref gDeeds)=true) (bDeeds:Binds K fDeeds ["_law_deck_here","_law_many","_law_names_here","_law_count"] []) (hDeeds:mg "_law_deeds"=some (.ref gDeeds)) (GDeeds:FnOk P w K mg base CX0 16 gDeeds fDeeds ["_law_deck_here","_law_many","_law_names_here","_law_count"] spDeeds)
  {gAsks:Addr} {fAsks:FuncData} (kAsks:PySem.W.keepIn K (.ref gAsks)=true) (bAsks:Binds K fAsks ["_law_deck_here","_law_many","_law_last","_law_count"] []) (hAsks:mg "_law_asks"=some (.ref gAsks)) (GAsks:FnOk P w K mg base CX0 16 gAsks fAsks ["_law_deck_here","_law_many","_law_last","_law_count"] spAsks)
  {gRightL:Addr} {fRightL:FuncData} (kRightL:PySem.W.keepIn K (.ref gRightL)=true) (bRightL:Binds K fRightL ["_law_many","_law_deeds_here","_law_cut","_law_asks_here"] []) (hRightL:mg "_law_right"=some (.ref gRightL)) (GRightL:FnOk P w K mg base CX0 16 gRightL fRightL ["_law_many","_law_deeds_here","_law_cut","_law_asks_here"] spRightL):
  FnOk P w K mg base CX0 17 f fd ["_law_script"] (spLaw K):=by
 refine F.ok scLaw (fun vs H Q E h=> ?_) (fun cdv A outer s H vs Q E hr h=> ?_)
 ·obtain ⟨_,_,rfl,_⟩:=h;rfl
 ·obtain ⟨s,ns,rfl,hS,hl,k⟩:=h
  refine ⟨_,Af (Aq (i:=1) scLaw.nd rfl (Or.inl rfl) (Al GDeck hr rfl hDeck kDeck bDeck .nil Ar (Aa (pv 0) Ad)))
   (Af (Aq (i:=2) scLaw.nd rfl (Or.inl rfl) (Al GNames hr rfl hNames kNames bNames .nil Ar (Aa (pv 1) Ad)))
   (Af (Aq (i:=3) scLaw.nd rfl (Or.inl rfl) (Al GRare hr rfl hRare kRare bRare .nil Ar (Aa (pv 1) (Aa (As Bl Ae (Al GTake hr rfl hTake kTake bTake .nil Ar (Aa (pv 1) (Aa Ae Ad)))) (Aa Ae Ad)))))
   (Af (Aq (i:=4) scLaw.nd rfl (Or.inl rfl) (Al GDeeds hr rfl hDeeds kDeeds bDeeds .nil Ar (Aa (pv 1) (Aa (pv 3) (Aa (pv 2) (Aa (Al GRare hr rfl hRare kRare bRare .nil Ar (Aa (pv 1) (Aa (As Bl Ae (Al GTake hr rfl hTake kTake bTake .nil Ar (Aa (pv 1) (Aa Ae Ad)))) (Aa Ae Ad)))) Ad))))))
   (Af (Cs PassesOwn.never rfl (pi_list (Bh (Aa (Al GTake hr rfl hTake kTake bTake .nil Ar (Aa (pv 1) (Aa (As Bl (A8 A4 (by rfl) T.len PySem.boot_len (Aa (pv 4) Ad)) Ae) Ad))) (Aa Ae (Aa (A8 A4 (by rfl) T.len PySem.boot_len (Aa (pv 4) Ad)) Ad))))) (An (i:=5) scLaw.nd rfl (Or.inl rfl)) (Af (Aq (i:=6) scLaw.nd rfl (Or.inl rfl) (Al GAsks hr rfl hAsks kAsks bAsks .nil Ar (Aa (pv 1) (Aa (pv 3) (Aa (pv 5) (Aa (As Bl Ae (Al GTake hr rfl hTake kTake bTake .nil Ar (Aa (pv 1) (Aa Ae Ad)))) Ad))))))
   (Ah (B3 (pt_not (pt_val (Al GRightL hr rfl hRightL kRightL bRightL .nil Ar (Aa (pv 3) (Aa (pv 4) (Aa (pv 5) (Aa (pv 6) Ad))))))) (Ah (Ay pe_bl)) Bk))))
   (Ah (Ay pe_bl)))))),?_⟩
  refine ⟨_,rfl,s,ns,rfl,hS,hl,fun a c H1 s1 an cn D1=> ?_⟩
  refine ⟨_,rfl,a,c,rfl,D1,fun nm zs H2 b2 D2 n2 nna nnc zl znd=> ?_⟩
  refine ⟨_,rfl,_,rfl,a,c,7,rfl,D2,by decide,by decide,fun x H3 x0 x1 b3 D3=>⟨_,_,rfl,rfl,a,c,_,_,rfl,D3,fun v H4 hv b4 D4=> ?_⟩⟩
  obtain ⟨N,rfl,N1,N24⟩:∃N:Nat,v=(N:Int)∧1≤N∧N≤24:=by
   rcases hv with rfl|rfl
   ·exact ⟨(2+x).toNat,by omega,by omega,by omega⟩
   ·exact ⟨24,rfl,by decide,by decide⟩
  have n4:=b4 _ _ (b3 _ _ n2 nna nnc) nna nnc
  refine ⟨_,rfl,_,rfl,_,rfl,_,rfl,_,rfl,a,c,13,rfl,D4,by decide,by decide,fun y H5 y0 y1 b5 D5=>⟨_,_,rfl,rfl,a,c,_,_,rfl,D5,fun w H6 hw b6 D6=> ?_⟩⟩
  obtain ⟨Cn,rfl,C60⟩:∃C:Nat,w=(C:Int)∧C≤60:=by
   rcases hw with rfl|rfl
   ·exact ⟨(4+y).toNat,by omega,by omega⟩
   ·exact ⟨60,rfl,Nat.le_refl _⟩
  have n6:=b6 _ _ (b5 _ _ n4 nna nnc) nna nnc
  refine ⟨a,c,nm,N,Cn,zs,rfl,D6,N1,N24,n6,zl,znd,nna,nnc,C60,fun td rsd ds H7 b7 D7 htd hdd hR=> ?_⟩
  have dl:=hdd.1
  have d60:=hR.len
  have ll:(rsd.map V.ref).length=ds.length:=by rw [List.length_map,dl]
  clear n6 n4 D1 D2 D3 D4 D5 D6 b2 b3 b4 b5 b6 b7 n2 s1 hS
  refine ⟨_,rfl,_,rfl,td,_,rfl,.inr (SqT.of htd),_,_,rfl,rfl,a,c,_,rfl,D7,by omega,by omega,fun cu H8 cu0 cu1 b8 D8=> ?_⟩
  rw [ll] at cu1
  obtain ⟨cu,rfl⟩:=nat_of cu0
  have td8:=b8.tup D7 htd
  have dd8:=hdd.mono fun r xs e=>b8.tup D7 e
  refine ⟨_,rfl,td,_,rfl,.inr (SqT.of td8),small (by simp),fun li hli=> ?_⟩
  rw [ll] at *
  have sl:=Ac (o:= .lst [.int (cu:Int),.int 0,.int (ds.length:Int)]) hli
  have el:=Ab (H:=H8) (a:=li) (o:= .lst [.int (cu:Int),.int 0,.int (ds.length:Int)])
  generalize upd H8 li (.lst [.int (cu:Int),.int 0,.int (ds.length:Int)])=H9 at sl el
  have nli:=D8.ne' hli
  have td9:=sl _ _ td8
  have dd9:=dd8.mono fun r xs e=>sl _ _ e
  have D9:=D8.same sl
  clear td8 dd8 sl D8 b8 hli htd hdd D7
  have all:∀(i:Nat) x,[V.int (cu:Int),.int 0,.int (ds.length:Int)][i]? =some x→∃o:Nat,x= .int (o:Int)∧o≤ds.length:=by
   intro i x hx
   match i,hx with
   |0,hx=>exact ⟨cu,(Option.some.inj hx).symm,by omega⟩
   |1,hx=>exact ⟨0,(Option.some.inj hx).symm,Nat.zero_le _⟩
   |2,hx=>exact ⟨ds.length,(Option.some.inj hx).symm,Nat.le_refl _⟩
  refine ⟨li,rfl,⟨_,SqL.of el⟩,for_list (K:=K) (a:=li) (xs:=[V.int (cu:Int),.int 0,.int (ds.length:Int)]) (fun i σ HX=>∃(u5 u6:Option V),σ=[some (.ref s),some (.ref a),some (.ref nm),some (.int (N:Int)),some (.ref td),u5,u6]∧But a c H9 HX∧DeckAt HX a c) ⟨_,_,rfl,But.of (Cp _),D9⟩ (fun i σ HX _ ⟨_,_,_,b,_⟩=>SqL.of (b _ _ el nli.1 nli.2)) ?_ ?_⟩
  ·rintro i x σ HX hx ⟨u5,u6,rfl,bX,DX⟩
   obtain ⟨o,rfl,ol⟩:=all i x hx
   refine ⟨_,rfl,_,rfl,_,rfl,_,rfl,a,c,12,rfl,DX,by decide,by decide,fun y2 HY y20 y21 bY DY=>⟨_,_,rfl,rfl,?_⟩⟩
   obtain ⟨C2,eC,C260⟩:∃C:Nat,1+y2=(C:Int)∧C≤60:=⟨(1+y2).toNat,by omega,by omega⟩
   rw [eC]
   refine ⟨a,c,N,o,C2,rfl,DY,N1,N24,by omega,C260,fun ta rsa ks HA bA DA hta hA ok kl=> ?_⟩
   have bb:=(bX.trans bY).trans bA
   have tdA:=bb.tup D9 td9
   have ddA:=dd9.mono fun r xs e=>bb.tup D9 e
   refine ⟨_,rfl,_,rfl,_,rfl,_,rfl,td,ta,N,o,ds,rsd,rsa,ks,rfl,tdA,ddA,hR,N1,N24,ol,hta,hA,ok,kl,fun HB sB=>⟨true,rfl,C3 ?_⟩⟩
   exact ⟨_,_,rfl,bb.trans (But.of sB),DA.same sB⟩
  ·rintro σ HX ⟨u5,u6,rfl,bX,DX⟩
   exact k HX
end
end K28
namespace K28
open PySem L2 Wk M24
section
variable {P:Program} {w:World} {K:PySem.W.Frag} {mg:Str→Option Value} {base:Heap} {C I:Addr}
theorem scPo:Ax ["size","low","high"] ["size","low","high"] (Ag sPo):=⟨rfl,rfl,rfl,by decide+kernel,rfl,by decide+kernel,by decide+kernel⟩
theorem ok_po {f g:Addr} {fd fg:FuncData} (F:Fun K "pieces_of" "pieces_of" sPo f fd) (T:Txt K mg C I) (Fg:Fun K "pieces_in" "pieces_in" sPin g fg) (bg:Binds K fg ["first","last","low","high"] []) (hm:mg "pieces_in"=some (.ref g)):
  FnOk P w K mg base CX0 8 f fd ["size","low","high"] spPo:=by
 have G:FnOk P w K mg base CX0 7 g fg ["first","last","low","high"] (spPin 6):=ok_pin Fg bg hm 6
 refine F.ok scPo (fun vs H Q E h=> ?_) (fun cdv A outer s H vs Q E hr h=> ?_)
 ·obtain ⟨_,_,_,rfl,_⟩:=h;rfl
 ·obtain ⟨sz,lo,hi,rfl,h1,h2,k⟩:=h
  refine ⟨_,Ah (Ay (Be Bc (by rfl) T.tuple (by decide+kernel) (Aa (Al G hr rfl hm Fg.kp bg .nil Ar (Aa Ae (Aa (pv 0) (Aa (pv 1) (Aa (pv 2) Ad))))) Ad))),?_⟩
  refine ⟨_,rfl,_,rfl,_,rfl,0,sz,lo,hi,rfl,by omega,by omega,by omega,fun a rs H' s1 n1 l1 p1=> ?_⟩
  exact ⟨a,_,rfl,.inl ⟨SqL.of l1,fun t ht=>k t rs _ (s1.trans (Ac ht)) Ab (p1.same (Ac ht))⟩⟩
end
end K28
namespace K28
open PySem L2 Wk
theorem us1 {fd:FuncData} {ps:List Str} (hp:ps.length=1) (h:∀a0:Value,bindArgs fd ⟨[a0],[]⟩=pure (ps.zip [a0])):∀us:List Value,us.length=ps.length→bindArgs fd ⟨us,[]⟩=pure (ps.zip us):=fun us hl=>match us,hl.trans hp with|[a0],_=>h a0
theorem us2 {fd:FuncData} {ps:List Str} (hp:ps.length=2) (h:∀a0 a1:Value,bindArgs fd ⟨[a0,a1],[]⟩=pure (ps.zip [a0,a1])):∀us:List Value,us.length=ps.length→bindArgs fd ⟨us,[]⟩=pure (ps.zip us):=fun us hl=>match us,hl.trans hp with|[a0,a1],_=>h a0 a1
theorem us3 {fd:FuncData} {ps:List Str} (hp:ps.length=3) (h:∀a0 a1 a2:Value,bindArgs fd ⟨[a0,a1,a2],[]⟩=pure (ps.zip [a0,a1,a2])):∀us:List Value,us.length=ps.length→bindArgs fd ⟨us,[]⟩=pure (ps.zip us):=fun us hl=>match us,hl.trans hp with|[a0,a1,a2],_=>h a0 a1 a2
theorem us4 {fd:FuncData} {ps:List Str} (hp:ps.length=4) (h:∀a0 a1 a2 a3:Value,bindArgs fd ⟨[a0,a1,a2,a3],[]⟩=pure (ps.zip [a0,a1,a2,a3])):∀us:List Value,us.length=ps.length→bindArgs fd ⟨us,[]⟩=pure (ps.zip us):=fun us hl=>match us,hl.trans hp with|[a0,a1,a2,a3],_=>h a0 a1 a2 a3
theorem us6 {fd:FuncData} {ps:List Str} (hp:ps.length=6) (h:∀a0 a1 a2 a3 a4 a5:Value,bindArgs fd ⟨[a0,a1,a2,a3,a4,a5],[]⟩=pure (ps.zip [a0,a1,a2,a3,a4,a5])):∀us:List Value,us.length=ps.length→bindArgs fd ⟨us,[]⟩=pure (ps.zip us):=fun us hl=>match us,hl.trans hp with|[a0,a1,a2,a3,a4,a5],_=>h a0 a1 a2 a3 a4 a5
theorem all_mk {l:PySem.W.OpenLaw} {w:World} {K:PySem.W.Frag} {h:Heap} {mg:Str→Option Value} {fa C f0 f1 f2 f3 f4 f5 f6 f7 f8 f9 f10 f11 f12 f13 f14 f15 f16 f17 f18 f19 f20 f21 f22 f23 f24 f25 f26 f27 f28 f29 f30 f31 f32 f33 f34 f35 f36 f37 f38 f39 f40 f41 f42 f43:Addr} (X:K.In h) (G:h.Ns mainGlobals mg) (hfa:mg "law"=some (.ref fa))
  {od0 an0 od1 an1 od2 an2 od3 an3 od4 an4 od5 an5 od6 an6 od7 an7 od8 an8 od9 an9 od10 an10 od11 an11 od12 an12 od13 an13 od14 an14 od15 an15 od16 an16 od17 an17 od18 an18 od19 an19 od20 an20 od21 an21 od22 an22 od23 an23 od24 an24 od25 an25 od26 an26 od27 an27 od28 an28 od29 an29 od30 an30 od31 an31 od32 an32 od33 an33 od34 an34 od35 an35 od36 an36 od37 an37 od38 an38 od39 an39 od40 an40 od41 an41 od42 an42 od43 an43:Option Addr} {sl0 sl1 sl2 sl3 sl4 sl5 sl6 sl7 sl8 sl9 sl10 sl11 sl12 sl13 sl14 sl15 sl16 sl17 sl18 sl19 sl20 sl21 sl22 sl23 sl24 sl25 sl26 sl27 sl28 sl29 sl30 sl31 sl32 sl33 sl34 sl35 sl36 sl37 sl38 sl39 sl40 sl41 sl42 sl43:Array (Option Value)} {oc0 kV0 dc0 pm0 cd0 ct0 oc1 kV1 dc1 pm1 cd1 ct1 oc2 kV2 dc2 pm2 cd2 ct2 oc3 kV3 dc3 pm3 cd3 ct3 oc4 kV4 dc4 pm4 cd4 ct4 oc5 kV5 dc5 pm5 cd5 ct5 oc6 kV6 dc6 pm6 cd6 ct6 oc7 kV7 dc7 pm7 cd7 ct7 oc8 kV8 dc8 pm8 cd8 ct8 oc9 kV9 dc9 pm9 cd9 ct9 oc10 kV10 dc10 pm10 cd10 ct10 oc11 kV11 dc11 pm11 cd11 ct11 oc12 kV12 dc12 pm12 cd12 ct12 oc13 kV13 dc13 pm13 cd13 ct13 oc14 kV14 dc14 pm14 cd14 ct14 oc15 kV15 dc15 pm15 cd15 ct15 oc16 kV16 dc16 pm16 cd16 ct16 oc17 kV17 dc17 pm17 cd17 ct17 oc18 kV18 dc18 pm18 cd18 ct18 oc19 kV19 dc19 pm19 cd19 ct19 oc20 kV20 dc20 pm20 cd20 ct20 oc21 kV21 dc21 pm21 cd21 ct21 oc22 kV22 dc22 pm22 cd22 ct22 oc23 kV23 dc23 pm23 cd23 ct23 oc24 kV24 dc24 pm24 cd24 ct24 oc25 kV25 dc25 pm25 cd25 ct25 oc26 kV26 dc26 pm26 cd26 ct26 oc27 kV27 dc27 pm27 cd27 ct27 oc28 kV28 dc28 pm28 cd28 ct28 oc29 kV29 dc29 pm29 cd29 ct29 oc30 kV30 dc30 pm30 cd30 ct30 oc31 kV31 dc31 pm31 cd31 ct31 oc32 kV32 dc32 pm32 cd32 ct32 oc33 kV33 dc33 pm33 cd33 ct33 oc34 kV34 dc34 pm34 cd34 ct34 oc35 kV35 dc35 pm35 cd35 ct35 oc36 kV36 dc36 pm36 cd36 ct36 oc37 kV37 dc37 pm37 cd37 ct37 oc38 kV38 dc38 pm38 cd38 ct38 oc39 kV39 dc39 pm39 cd39 ct39 oc40 kV40 dc40 pm40 cd40 ct40 oc41 kV41 dc41 pm41 cd41 ct41 oc42 kV42 dc42 pm42 cd42 ct42 oc43 kV43 dc43 pm43 cd43 ct43:Value}
  (aC:PySem.W.nsIn K mainGlobals "Takes"=some (some (.ref C)))
  (a0:PySem.W.nsIn K mainGlobals "is_whole"=some (some (.ref f0)))
  (l0:K.lookup f0=some ⟨oc0,od0,.func (PySem.W.fnOf "is_whole" "is_whole" (Av sWhole) (Au sWhole) (Ag sWhole) .none kV0 dc0 pm0 an0 cd0 ct0),sl0⟩) (c0:PySem.W.codeIn K cd0 "is_whole"=true) (k0:PySem.W.keepIn K (.ref f0)=true)
  (a1:PySem.W.nsIn K mainGlobals "is_within"=some (some (.ref f1)))
  (l1:K.lookup f1=some ⟨oc1,od1,.func (PySem.W.fnOf "is_within" "is_within" (Av sWithin) (Au sWithin) (Ag sWithin) .none kV1 dc1 pm1 an1 cd1 ct1),sl1⟩) (c1:PySem.W.codeIn K cd1 "is_within"=true) (k1:PySem.W.keepIn K (.ref f1)=true)
  (a2:PySem.W.nsIn K mainGlobals "stays"=some (some (.ref f2)))
  (l2:K.lookup f2=some ⟨oc2,od2,.func (PySem.W.fnOf "stays" "stays" (Av sStays) (Au sStays) (Ag sStays) .none kV2 dc2 pm2 an2 cd2 ct2),sl2⟩) (c2:PySem.W.codeIn K cd2 "stays"=true) (k2:PySem.W.keepIn K (.ref f2)=true)
  (a3:PySem.W.nsIn K mainGlobals "joined_parts"=some (some (.ref f3)))
  (l3:K.lookup f3=some ⟨oc3,od3,.func (PySem.W.fnOf "joined_parts" "joined_parts" (Av sJp) (Au sJp) (Ag sJp) .none kV3 dc3 pm3 an3 cd3 ct3),sl3⟩) (c3:PySem.W.codeIn K cd3 "joined_parts"=true) (k3:PySem.W.keepIn K (.ref f3)=true)
  (a4:PySem.W.findIn K (.ref C) "__init__"=some (some (.ref f4))) (i4:PySem.W.isFn K (.ref f4)=true)
  (l4:K.lookup f4=some ⟨oc4,od4,.func (PySem.W.fnOf "__init__" "Takes.__init__" (Av sInit) (Au sInit) (Ag sInit) .none kV4 dc4 pm4 an4 cd4 ct4),sl4⟩) (c4:PySem.W.codeIn K cd4 "Takes.__init__"=true) (k4:PySem.W.keepIn K (.ref f4)=true)
  (a5:PySem.W.findIn K (.ref C) "shown"=some (some (.ref f5))) (i5:PySem.W.isFn K (.ref f5)=true)
  (l5:K.lookup f5=some ⟨oc5,od5,.func (PySem.W.fnOf "shown" "Takes.shown" (Av sShown) (Au sShown) (Ag sShown) .none kV5 dc5 pm5 an5 cd5 ct5),sl5⟩) (c5:PySem.W.codeIn K cd5 "Takes.shown"=true) (k5:PySem.W.keepIn K (.ref f5)=true)
  (a6:PySem.W.findIn K (.ref C) "top"=some (some (.ref f6))) (i6:PySem.W.isFn K (.ref f6)=true)
  (l6:K.lookup f6=some ⟨oc6,od6,.func (PySem.W.fnOf "top" "Takes.top" (Av sTop) (Au sTop) (Ag sTop) .none kV6 dc6 pm6 an6 cd6 ct6),sl6⟩) (c6:PySem.W.codeIn K cd6 "Takes.top"=true) (k6:PySem.W.keepIn K (.ref f6)=true)
  (a7:PySem.W.findIn K (.ref C) "odd"=some (some (.ref f7))) (i7:PySem.W.isFn K (.ref f7)=true)
  (l7:K.lookup f7=some ⟨oc7,od7,.func (PySem.W.fnOf "odd" "Takes.odd" (Av sOdd) (Au sOdd) (Ag sOdd) .none kV7 dc7 pm7 an7 cd7 ct7),sl7⟩) (c7:PySem.W.codeIn K cd7 "Takes.odd"=true) (k7:PySem.W.keepIn K (.ref f7)=true)
  (a8:PySem.W.findIn K (.ref C) "joins"=some (some (.ref f8))) (i8:PySem.W.isFn K (.ref f8)=true)
  (l8:K.lookup f8=some ⟨oc8,od8,.func (PySem.W.fnOf "joins" "Takes.joins" (Av sJoins) (Au sJoins) (Ag sJoins) .none kV8 dc8 pm8 an8 cd8 ct8),sl8⟩) (c8:PySem.W.codeIn K cd8 "Takes.joins"=true) (k8:PySem.W.keepIn K (.ref f8)=true)
  (a9:PySem.W.findIn K (.ref C) "size"=some (some (.ref f9))) (i9:PySem.W.isFn K (.ref f9)=true)
  (l9:K.lookup f9=some ⟨oc9,od9,.func (PySem.W.fnOf "size" "Takes.size" (Av sSize) (Au sSize) (Ag sSize) .none kV9 dc9 pm9 an9 cd9 ct9),sl9⟩) (c9:PySem.W.codeIn K cd9 "Takes.size"=true) (k9:PySem.W.keepIn K (.ref f9)=true)
  (a10:PySem.W.findIn K (.ref C) "parts"=some (some (.ref f10))) (i10:PySem.W.isFn K (.ref f10)=true)
  (l10:K.lookup f10=some ⟨oc10,od10,.func (PySem.W.fnOf "parts" "Takes.parts" (Av sParts) (Au sParts) (Ag sParts) .none kV10 dc10 pm10 an10 cd10 ct10),sl10⟩) (c10:PySem.W.codeIn K cd10 "Takes.parts"=true) (k10:PySem.W.keepIn K (.ref f10)=true)
  (a11:PySem.W.findIn K (.ref C) "join"=some (some (.ref f11))) (i11:PySem.W.isFn K (.ref f11)=true)
  (l11:K.lookup f11=some ⟨oc11,od11,.func (PySem.W.fnOf "join" "Takes.join" (Av sJoin) (Au sJoin) (Ag sJoin) .none kV11 dc11 pm11 an11 cd11 ct11),sl11⟩) (c11:PySem.W.codeIn K cd11 "Takes.join"=true) (k11:PySem.W.keepIn K (.ref f11)=true)
  (a12:PySem.W.findIn K (.ref C) "back"=some (some (.ref f12))) (i12:PySem.W.isFn K (.ref f12)=true)
  (l12:K.lookup f12=some ⟨oc12,od12,.func (PySem.W.fnOf "back" "Takes.back" (Av sBack) (Au sBack) (Ag sBack) .none kV12 dc12 pm12 an12 cd12 ct12),sl12⟩) (c12:PySem.W.codeIn K cd12 "Takes.back"=true) (k12:PySem.W.keepIn K (.ref f12)=true)
  (a13:PySem.W.nsIn K mainGlobals "pieces_in"=some (some (.ref f13)))
  (l13:K.lookup f13=some ⟨oc13,od13,.func (PySem.W.fnOf "pieces_in" "pieces_in" (Av sPin) (Au sPin) (Ag sPin) .none kV13 dc13 pm13 an13 cd13 ct13),sl13⟩) (c13:PySem.W.codeIn K cd13 "pieces_in"=true) (k13:PySem.W.keepIn K (.ref f13)=true)
  (a14:PySem.W.nsIn K mainGlobals "pieces_of"=some (some (.ref f14)))
  (l14:K.lookup f14=some ⟨oc14,od14,.func (PySem.W.fnOf "pieces_of" "pieces_of" (Av sPo) (Au sPo) (Ag sPo) .none kV14 dc14 pm14 an14 cd14 ct14),sl14⟩) (c14:PySem.W.codeIn K cd14 "pieces_of"=true) (k14:PySem.W.keepIn K (.ref f14)=true)
  (a15:PySem.W.nsIn K mainGlobals "lives_of"=some (some (.ref f15)))
  (l15:K.lookup f15=some ⟨oc15,od15,.func (PySem.W.fnOf "lives_of" "lives_of" (Av sLives) (Au sLives) (Ag sLives) .none kV15 dc15 pm15 an15 cd15 ct15),sl15⟩) (c15:PySem.W.codeIn K cd15 "lives_of"=true) (k15:PySem.W.keepIn K (.ref f15)=true)
  (a16:PySem.W.nsIn K mainGlobals "beside_of"=some (some (.ref f16)))
  (l16:K.lookup f16=some ⟨oc16,od16,.func (PySem.W.fnOf "beside_of" "beside_of" (Av sBeside) (Au sBeside) (Ag sBeside) .none kV16 dc16 pm16 an16 cd16 ct16),sl16⟩) (c16:PySem.W.codeIn K cd16 "beside_of"=true) (k16:PySem.W.keepIn K (.ref f16)=true)
  (a17:PySem.W.nsIn K mainGlobals "ways_from"=some (some (.ref f17)))
  (l17:K.lookup f17=some ⟨oc17,od17,.func (PySem.W.fnOf "ways_from" "ways_from" (Av sWays) (Au sWays) (Ag sWays) .none kV17 dc17 pm17 an17 cd17 ct17),sl17⟩) (c17:PySem.W.codeIn K cd17 "ways_from"=true) (k17:PySem.W.keepIn K (.ref f17)=true)
  (a18:PySem.W.nsIn K mainGlobals "part_of"=some (some (.ref f18)))
  (l18:K.lookup f18=some ⟨oc18,od18,.func (PySem.W.fnOf "part_of" "part_of" (Av sPart) (Au sPart) (Ag sPart) .none kV18 dc18 pm18 an18 cd18 ct18),sl18⟩) (c18:PySem.W.codeIn K cd18 "part_of"=true) (k18:PySem.W.keepIn K (.ref f18)=true)
  (a19:PySem.W.nsIn K mainGlobals "are_joined"=some (some (.ref f19)))
  (l19:K.lookup f19=some ⟨oc19,od19,.func (PySem.W.fnOf "are_joined" "are_joined" (Av sJoined) (Au sJoined) (Ag sJoined) .none kV19 dc19 pm19 an19 cd19 ct19),sl19⟩) (c19:PySem.W.codeIn K cd19 "are_joined"=true) (k19:PySem.W.keepIn K (.ref f19)=true)
  (a20:PySem.W.nsIn K mainGlobals "parts_of"=some (some (.ref f20)))
  (l20:K.lookup f20=some ⟨oc20,od20,.func (PySem.W.fnOf "parts_of" "parts_of" (Av sPtsOf) (Au sPtsOf) (Ag sPtsOf) .none kV20 dc20 pm20 an20 cd20 ct20),sl20⟩) (c20:PySem.W.codeIn K cd20 "parts_of"=true) (k20:PySem.W.keepIn K (.ref f20)=true)
  (a21:PySem.W.nsIn K mainGlobals "ways_from_least"=some (some (.ref f21)))
  (l21:K.lookup f21=some ⟨oc21,od21,.func (PySem.W.fnOf "ways_from_least" "ways_from_least" (Av sWLeast) (Au sWLeast) (Ag sWLeast) .none kV21 dc21 pm21 an21 cd21 ct21),sl21⟩) (c21:PySem.W.codeIn K cd21 "ways_from_least"=true) (k21:PySem.W.keepIn K (.ref f21)=true)
  (a22:PySem.W.nsIn K mainGlobals "ring_over"=some (some (.ref f22)))
  (l22:K.lookup f22=some ⟨oc22,od22,.func (PySem.W.fnOf "ring_over" "ring_over" (Av sRingO) (Au sRingO) (Ag sRingO) .none kV22 dc22 pm22 an22 cd22 ct22),sl22⟩) (c22:PySem.W.codeIn K cd22 "ring_over"=true) (k22:PySem.W.keepIn K (.ref f22)=true)
  (a23:PySem.W.nsIn K mainGlobals "sides_of"=some (some (.ref f23)))
  (l23:K.lookup f23=some ⟨oc23,od23,.func (PySem.W.fnOf "sides_of" "sides_of" (Av sSidesOf) (Au sSidesOf) (Ag sSidesOf) .none kV23 dc23 pm23 an23 cd23 ct23),sl23⟩) (c23:PySem.W.codeIn K cd23 "sides_of"=true) (k23:PySem.W.keepIn K (.ref f23)=true)
  (a24:PySem.W.nsIn K mainGlobals "have_two_sides"=some (some (.ref f24)))
  (l24:K.lookup f24=some ⟨oc24,od24,.func (PySem.W.fnOf "have_two_sides" "have_two_sides" (Av sHaveTwo) (Au sHaveTwo) (Ag sHaveTwo) .none kV24 dc24 pm24 an24 cd24 ct24),sl24⟩) (c24:PySem.W.codeIn K cd24 "have_two_sides"=true) (k24:PySem.W.keepIn K (.ref f24)=true)
  (a25:PySem.W.nsIn K mainGlobals "stand_behind"=some (some (.ref f25)))
  (l25:K.lookup f25=some ⟨oc25,od25,.func (PySem.W.fnOf "stand_behind" "stand_behind" (Av sStandB) (Au sStandB) (Ag sStandB) .none kV25 dc25 pm25 an25 cd25 ct25),sl25⟩) (c25:PySem.W.codeIn K cd25 "stand_behind"=true) (k25:PySem.W.keepIn K (.ref f25)=true)
  (a26:PySem.W.nsIn K mainGlobals "answer_of"=some (some (.ref f26)))
  (l26:K.lookup f26=some ⟨oc26,od26,.func (PySem.W.fnOf "answer_of" "answer_of" (Av sAns) (Au sAns) (Ag sAns) .none kV26 dc26 pm26 an26 cd26 ct26),sl26⟩) (c26:PySem.W.codeIn K cd26 "answer_of"=true) (k26:PySem.W.keepIn K (.ref f26)=true)
  (a27:PySem.W.nsIn K mainGlobals "answers_plainly"=some (some (.ref f27)))
  (l27:K.lookup f27=some ⟨oc27,od27,.func (PySem.W.fnOf "answers_plainly" "answers_plainly" (Av sPlain) (Au sPlain) (Ag sPlain) .none kV27 dc27 pm27 an27 cd27 ct27),sl27⟩) (c27:PySem.W.codeIn K cd27 "answers_plainly"=true) (k27:PySem.W.keepIn K (.ref f27)=true)
  (a28:PySem.W.nsIn K mainGlobals "_law_deck"=some (some (.ref f28)))
  (l28:K.lookup f28=some ⟨oc28,od28,.func (PySem.W.fnOf "_law_deck" "_law_deck" (Av sDeck) (Au sDeck) (Ag sDeck) .none kV28 dc28 pm28 an28 cd28 ct28),sl28⟩) (c28:PySem.W.codeIn K cd28 "_law_deck"=true) (k28:PySem.W.keepIn K (.ref f28)=true)
  (a29:PySem.W.nsIn K mainGlobals "_law_take"=some (some (.ref f29)))
  (l29:K.lookup f29=some ⟨oc29,od29,.func (PySem.W.fnOf "_law_take" "_law_take" (Av sTake) (Au sTake) (Ag sTake) .none kV29 dc29 pm29 an29 cd29 ct29),sl29⟩) (c29:PySem.W.codeIn K cd29 "_law_take"=true) (k29:PySem.W.keepIn K (.ref f29)=true)
  (a30:PySem.W.nsIn K mainGlobals "_law_rare"=some (some (.ref f30)))
  (l30:K.lookup f30=some ⟨oc30,od30,.func (PySem.W.fnOf "_law_rare" "_law_rare" (Av sRare) (Au sRare) (Ag sRare) .none kV30 dc30 pm30 an30 cd30 ct30),sl30⟩) (c30:PySem.W.codeIn K cd30 "_law_rare"=true) (k30:PySem.W.keepIn K (.ref f30)=true)
  (a31:PySem.W.nsIn K mainGlobals "_law_names"=some (some (.ref f31)))
  (l31:K.lookup f31=some ⟨oc31,od31,.func (PySem.W.fnOf "_law_names" "_law_names" (Av sNames) (Au sNames) (Ag sNames) .none kV31 dc31 pm31 an31 cd31 ct31),sl31⟩) (c31:PySem.W.codeIn K cd31 "_law_names"=true) (k31:PySem.W.keepIn K (.ref f31)=true)
  (a32:PySem.W.nsIn K mainGlobals "_law_places"=some (some (.ref f32)))
  (l32:K.lookup f32=some ⟨oc32,od32,.func (PySem.W.fnOf "_law_places" "_law_places" (Av sPlaces) (Au sPlaces) (Ag sPlaces) .none kV32 dc32 pm32 an32 cd32 ct32),sl32⟩) (c32:PySem.W.codeIn K cd32 "_law_places"=true) (k32:PySem.W.keepIn K (.ref f32)=true)
  (a33:PySem.W.nsIn K mainGlobals "_law_tie"=some (some (.ref f33)))
  (l33:K.lookup f33=some ⟨oc33,od33,.func (PySem.W.fnOf "_law_tie" "_law_tie" (Av sTie) (Au sTie) (Ag sTie) .none kV33 dc33 pm33 an33 cd33 ct33),sl33⟩) (c33:PySem.W.codeIn K cd33 "_law_tie"=true) (k33:PySem.W.keepIn K (.ref f33)=true)
  (a34:PySem.W.nsIn K mainGlobals "_law_deeds"=some (some (.ref f34)))
  (l34:K.lookup f34=some ⟨oc34,od34,.func (PySem.W.fnOf "_law_deeds" "_law_deeds" (Av sDeeds) (Au sDeeds) (Ag sDeeds) .none kV34 dc34 pm34 an34 cd34 ct34),sl34⟩) (c34:PySem.W.codeIn K cd34 "_law_deeds"=true) (k34:PySem.W.keepIn K (.ref f34)=true)
  (a35:PySem.W.nsIn K mainGlobals "_law_asks"=some (some (.ref f35)))
  (l35:K.lookup f35=some ⟨oc35,od35,.func (PySem.W.fnOf "_law_asks" "_law_asks" (Av sAsks) (Au sAsks) (Ag sAsks) .none kV35 dc35 pm35 an35 cd35 ct35),sl35⟩) (c35:PySem.W.codeIn K cd35 "_law_asks"=true) (k35:PySem.W.keepIn K (.ref f35)=true)
  (a36:PySem.W.nsIn K mainGlobals "joins_laid"=some (some (.ref f36)))
  (l36:K.lookup f36=some ⟨oc36,od36,.func (PySem.W.fnOf "joins_laid" "joins_laid" (Av sLaid) (Au sLaid) (Ag sLaid) .none kV36 dc36 pm36 an36 cd36 ct36),sl36⟩) (c36:PySem.W.codeIn K cd36 "joins_laid"=true) (k36:PySem.W.keepIn K (.ref f36)=true)
  (a37:PySem.W.nsIn K mainGlobals "answer_by"=some (some (.ref f37)))
  (l37:K.lookup f37=some ⟨oc37,od37,.func (PySem.W.fnOf "answer_by" "answer_by" (Av sAby) (Au sAby) (Ag sAby) .none kV37 dc37 pm37 an37 cd37 ct37),sl37⟩) (c37:PySem.W.codeIn K cd37 "answer_by"=true) (k37:PySem.W.keepIn K (.ref f37)=true)
  (a38:PySem.W.nsIn K mainGlobals "told_in"=some (some (.ref f38)))
  (l38:K.lookup f38=some ⟨oc38,od38,.func (PySem.W.fnOf "told_in" "told_in" (Av sTold) (Au sTold) (Ag sTold) .none kV38 dc38 pm38 an38 cd38 ct38),sl38⟩) (c38:PySem.W.codeIn K cd38 "told_in"=true) (k38:PySem.W.keepIn K (.ref f38)=true)
  (a39:PySem.W.nsIn K mainGlobals "answers_by_halves"=some (some (.ref f39)))
  (l39:K.lookup f39=some ⟨oc39,od39,.func (PySem.W.fnOf "answers_by_halves" "answers_by_halves" (Av sHalf) (Au sHalf) (Ag sHalf) .none kV39 dc39 pm39 an39 cd39 ct39),sl39⟩) (c39:PySem.W.codeIn K cd39 "answers_by_halves"=true) (k39:PySem.W.keepIn K (.ref f39)=true)
  (a40:PySem.W.nsIn K mainGlobals "_law_heavier"=some (some (.ref f40)))
  (l40:K.lookup f40=some ⟨oc40,od40,.func (PySem.W.fnOf "_law_heavier" "_law_heavier" (Av sHeavy) (Au sHeavy) (Ag sHeavy) .none kV40 dc40 pm40 an40 cd40 ct40),sl40⟩) (c40:PySem.W.codeIn K cd40 "_law_heavier"=true) (k40:PySem.W.keepIn K (.ref f40)=true)
  (a41:PySem.W.nsIn K mainGlobals "_law_answers"=some (some (.ref f41)))
  (l41:K.lookup f41=some ⟨oc41,od41,.func (PySem.W.fnOf "_law_answers" "_law_answers" (Av sAnswers) (Au sAnswers) (Ag sAnswers) .none kV41 dc41 pm41 an41 cd41 ct41),sl41⟩) (c41:PySem.W.codeIn K cd41 "_law_answers"=true) (k41:PySem.W.keepIn K (.ref f41)=true)
  (a42:PySem.W.nsIn K mainGlobals "_law_right"=some (some (.ref f42)))
  (l42:K.lookup f42=some ⟨oc42,od42,.func (PySem.W.fnOf "_law_right" "_law_right" (Av sRightL) (Au sRightL) (Ag sRightL) .none kV42 dc42 pm42 an42 cd42 ct42),sl42⟩) (c42:PySem.W.codeIn K cd42 "_law_right"=true) (k42:PySem.W.keepIn K (.ref f42)=true)
  (a43:PySem.W.nsIn K mainGlobals "law"=some (some (.ref f43)))
  (l43:K.lookup f43=some ⟨oc43,od43,.func (PySem.W.fnOf "law" "law" (Av sLaw) (Au sLaw) (Ag sLaw) .none kV43 dc43 pm43 an43 cd43 ct43),sl43⟩) (c43:PySem.W.codeIn K cd43 "law"=true) (k43:PySem.W.keepIn K (.ref f43)=true)
  (pg:PySem.W.plainGet K C Str.empty=true) (hd:PySem.W.hasDictIn K C=true) (po:PySem.W.plainOver K C=true) (sa:PySem.W.findIn K (.ref C) "__setattr__"=some (some (.builtin "object.__setattr__"))) (mk:PySem.W.makesIn K C=true) (kc:PySem.W.keepIn K (.ref C)=true)
  (n0:PySem.W.findIn K (.ref C) "states"=some none)
  (z0:PySem.W.nsIn K mainGlobals "isinstance"=some none) (z1:PySem.W.nsIn K mainGlobals "int"=some none) (z2:PySem.W.nsIn K mainGlobals "bool"=some none) (z3:PySem.W.nsIn K mainGlobals "tuple"=some none) (z4:PySem.W.nsIn K mainGlobals "len"=some none) (z5:PySem.W.nsIn K mainGlobals "range"=some none) (z6:PySem.W.nsIn K mainGlobals "sum"=some none) (z7:PySem.W.nsIn K mainGlobals "min"=some none) (z8:PySem.W.nsIn K mainGlobals "zip"=some none) (z9:PySem.W.nsIn K mainGlobals "sorted"=some none) (z10:PySem.W.nsIn K mainGlobals "list"=some none) (z11:PySem.W.nsIn K mainGlobals "enumerate"=some none) (z12:PySem.W.nsIn K mainGlobals "set"=some none) (z13:PySem.W.nsIn K mainGlobals "repr"=some none):
  ∃fd:FuncData,(∀(s:Shared) (v:Value),BindsTo s fd ⟨[v],[]⟩ [("_law_script",v)])∧∀base:Heap,K.In base→base.Ns mainGlobals mg→FnOk l.prog w K mg base CX0 17 fa fd ["_law_script"] (spLaw K):=by
 have e:=hfa.symm.trans (PySem.W.mg_of X G a43)
 cases e
 have T:Txt K mg C f4:=⟨⟨pg,hd,po,sa⟩,n0,⟨mk,a4,i4,kc⟩,PySem.W.mg_of X G aC,PySem.W.mg_none_of X G z0,PySem.W.mg_none_of X G z1,PySem.W.mg_none_of X G z2,PySem.W.mg_none_of X G z3,PySem.W.mg_none_of X G z4,PySem.W.mg_none_of X G z5,PySem.W.mg_none_of X G z6,PySem.W.mg_none_of X G z7,PySem.W.mg_none_of X G z8,PySem.W.mg_none_of X G z9,PySem.W.mg_none_of X G z10,PySem.W.mg_none_of X G z11,PySem.W.mg_none_of X G z12,PySem.W.mg_none_of X G z13⟩
 have F0:=A3 (st:=sWhole) l0 c0 k0
 have b0:=F0.binds (ps:=["thing"]) fun _ _ _ _ _ _=>us1 rfl fun _=>rfl
 have m0:=PySem.W.mg_of X G a0
 have F1:=A3 (st:=sWithin) l1 c1 k1
 have b1:=F1.binds (ps:=["thing","low","high"]) fun _ _ _ _ _ _=>us3 rfl fun _ _ _=>rfl
 have m1:=PySem.W.mg_of X G a1
 have F2:=A3 (st:=sStays) l2 c2 k2
 have b2:=F2.binds (ps:=["tops","one","other"]) fun _ _ _ _ _ _=>us3 rfl fun _ _ _=>rfl
 have m2:=PySem.W.mg_of X G a2
 have F3:=A3 (st:=sJp) l3 c3 k3
 have b3:=F3.binds (ps:=["tops","sides","one","other"]) fun _ _ _ _ _ _=>us4 rfl fun _ _ _ _=>rfl
 have m3:=PySem.W.mg_of X G a3
 have F4:=A3 (st:=sInit) l4 c4 k4
 have b4:=F4.binds (ps:=["self","many"]) fun _ _ _ _ _ _=>us2 rfl fun _ _=>rfl
 have F5:=A3 (st:=sShown) l5 c5 k5
 have b5:=F5.binds (ps:=["self"]) fun _ _ _ _ _ _=>us1 rfl fun _=>rfl
 have F6:=A3 (st:=sTop) l6 c6 k6
 have b6:=F6.binds (ps:=["self","place"]) fun _ _ _ _ _ _=>us2 rfl fun _ _=>rfl
 have F7:=A3 (st:=sOdd) l7 c7 k7
 have b7:=F7.binds (ps:=["self"]) fun _ _ _ _ _ _=>us1 rfl fun _=>rfl
 have F8:=A3 (st:=sJoins) l8 c8 k8
 have b8:=F8.binds (ps:=["self"]) fun _ _ _ _ _ _=>us1 rfl fun _=>rfl
 have F9:=A3 (st:=sSize) l9 c9 k9
 have b9:=F9.binds (ps:=["self","place"]) fun _ _ _ _ _ _=>us2 rfl fun _ _=>rfl
 have F10:=A3 (st:=sParts) l10 c10 k10
 have b10:=F10.binds (ps:=["self"]) fun _ _ _ _ _ _=>us1 rfl fun _=>rfl
 have F11:=A3 (st:=sJoin) l11 c11 k11
 have b11:=F11.binds (ps:=["self","one","other"]) fun _ _ _ _ _ _=>us3 rfl fun _ _ _=>rfl
 have F12:=A3 (st:=sBack) l12 c12 k12
 have b12:=F12.binds (ps:=["self","thing"]) fun _ _ _ _ _ _=>us2 rfl fun _ _=>rfl
 have F13:=A3 (st:=sPin) l13 c13 k13
 have b13:=F13.binds (ps:=["first","last","low","high"]) fun _ _ _ _ _ _=>us4 rfl fun _ _ _ _=>rfl
 have m13:=PySem.W.mg_of X G a13
 have F14:=A3 (st:=sPo) l14 c14 k14
 have b14:=F14.binds (ps:=["size","low","high"]) fun _ _ _ _ _ _=>us3 rfl fun _ _ _=>rfl
 have m14:=PySem.W.mg_of X G a14
 have F15:=A3 (st:=sLives) l15 c15 k15
 have b15:=F15.binds (ps:=["history"]) fun _ _ _ _ _ _=>us1 rfl fun _=>rfl
 have m15:=PySem.W.mg_of X G a15
 have F16:=A3 (st:=sBeside) l16 c16 k16
 have b16:=F16.binds (ps:=["many","stand"]) fun _ _ _ _ _ _=>us2 rfl fun _ _=>rfl
 have m16:=PySem.W.mg_of X G a16
 have F17:=A3 (st:=sWays) l17 c17 k17
 have b17:=F17.binds (ps:=["many","stand","place"]) fun _ _ _ _ _ _=>us3 rfl fun _ _ _=>rfl
 have m17:=PySem.W.mg_of X G a17
 have F18:=A3 (st:=sPart) l18 c18 k18
 have b18:=F18.binds (ps:=["many","stand","place"]) fun _ _ _ _ _ _=>us3 rfl fun _ _ _=>rfl
 have m18:=PySem.W.mg_of X G a18
 have F19:=A3 (st:=sJoined) l19 c19 k19
 have b19:=F19.binds (ps:=["many","stand","one","other"]) fun _ _ _ _ _ _=>us4 rfl fun _ _ _ _=>rfl
 have m19:=PySem.W.mg_of X G a19
 have F20:=A3 (st:=sPtsOf) l20 c20 k20
 have b20:=F20.binds (ps:=["many","stand"]) fun _ _ _ _ _ _=>us2 rfl fun _ _=>rfl
 have m20:=PySem.W.mg_of X G a20
 have F21:=A3 (st:=sWLeast) l21 c21 k21
 have b21:=F21.binds (ps:=["many","stand"]) fun _ _ _ _ _ _=>us2 rfl fun _ _=>rfl
 have m21:=PySem.W.mg_of X G a21
 have F22:=A3 (st:=sRingO) l22 c22 k22
 have b22:=F22.binds (ps:=["ways","tie"]) fun _ _ _ _ _ _=>us2 rfl fun _ _=>rfl
 have m22:=PySem.W.mg_of X G a22
 have F23:=A3 (st:=sSidesOf) l23 c23 k23
 have b23:=F23.binds (ps:=["many","stand"]) fun _ _ _ _ _ _=>us2 rfl fun _ _=>rfl
 have m23:=PySem.W.mg_of X G a23
 have F24:=A3 (st:=sHaveTwo) l24 c24 k24
 have b24:=F24.binds (ps:=["many","stand"]) fun _ _ _ _ _ _=>us2 rfl fun _ _=>rfl
 have m24:=PySem.W.mg_of X G a24
 have F25:=A3 (st:=sStandB) l25 c25 k25
 have b25:=F25.binds (ps:=["history","n"]) fun _ _ _ _ _ _=>us2 rfl fun _ _=>rfl
 have m25:=PySem.W.mg_of X G a25
 have F26:=A3 (st:=sAns) l26 c26 k26
 have b26:=F26.binds (ps:=["many","stand","ask"]) fun _ _ _ _ _ _=>us3 rfl fun _ _ _=>rfl
 have m26:=PySem.W.mg_of X G a26
 have F27:=A3 (st:=sPlain) l27 c27 k27
 have b27:=F27.binds (ps:=["history","asks"]) fun _ _ _ _ _ _=>us2 rfl fun _ _=>rfl
 have m27:=PySem.W.mg_of X G a27
 have F28:=A3 (st:=sDeck) l28 c28 k28
 have b28:=F28.binds (ps:=["_law_script"]) fun _ _ _ _ _ _=>us1 rfl fun _=>rfl
 have m28:=PySem.W.mg_of X G a28
 have F29:=A3 (st:=sTake) l29 c29 k29
 have b29:=F29.binds (ps:=["_law_deck_here","_law_most"]) fun _ _ _ _ _ _=>us2 rfl fun _ _=>rfl
 have m29:=PySem.W.mg_of X G a29
 have F30:=A3 (st:=sRare) l30 c30 k30
 have b30:=F30.binds (ps:=["_law_deck_here","_law_often","_law_rare_here"]) fun _ _ _ _ _ _=>us3 rfl fun _ _ _=>rfl
 have m30:=PySem.W.mg_of X G a30
 have F31:=A3 (st:=sNames) l31 c31 k31
 have b31:=F31.binds (ps:=["_law_deck_here"]) fun _ _ _ _ _ _=>us1 rfl fun _=>rfl
 have m31:=PySem.W.mg_of X G a31
 have F32:=A3 (st:=sPlaces) l32 c32 k32
 have b32:=F32.binds (ps:=["_law_deck_here","_law_many","_law_shape","_law_turn"]) fun _ _ _ _ _ _=>us4 rfl fun _ _ _ _=>rfl
 have m32:=PySem.W.mg_of X G a32
 have F33:=A3 (st:=sTie) l33 c33 k33
 have b33:=F33.binds (ps:=["_law_deck_here","_law_many","_law_names_here","_law_shape","_law_there","_law_used"]) fun _ _ _ _ _ _=>us6 rfl fun _ _ _ _ _ _=>rfl
 have m33:=PySem.W.mg_of X G a33
 have F34:=A3 (st:=sDeeds) l34 c34 k34
 have b34:=F34.binds (ps:=["_law_deck_here","_law_many","_law_names_here","_law_count"]) fun _ _ _ _ _ _=>us4 rfl fun _ _ _ _=>rfl
 have m34:=PySem.W.mg_of X G a34
 have F35:=A3 (st:=sAsks) l35 c35 k35
 have b35:=F35.binds (ps:=["_law_deck_here","_law_many","_law_last","_law_count"]) fun _ _ _ _ _ _=>us4 rfl fun _ _ _ _=>rfl
 have m35:=PySem.W.mg_of X G a35
 have F36:=A3 (st:=sLaid) l36 c36 k36
 have b36:=F36.binds (ps:=["history"]) fun _ _ _ _ _ _=>us1 rfl fun _=>rfl
 have m36:=PySem.W.mg_of X G a36
 have F37:=A3 (st:=sAby) l37 c37 k37
 have b37:=F37.binds (ps:=["takes","ask"]) fun _ _ _ _ _ _=>us2 rfl fun _ _=>rfl
 have m37:=PySem.W.mg_of X G a37
 have F38:=A3 (st:=sTold) l38 c38 k38
 have b38:=F38.binds (ps:=["laid","takes","half","asks"]) fun _ _ _ _ _ _=>us4 rfl fun _ _ _ _=>rfl
 have m38:=PySem.W.mg_of X G a38
 have F39:=A3 (st:=sHalf) l39 c39 k39
 have b39:=F39.binds (ps:=["history","asks"]) fun _ _ _ _ _ _=>us2 rfl fun _ _=>rfl
 have m39:=PySem.W.mg_of X G a39
 have F40:=A3 (st:=sHeavy) l40 c40 k40
 have b40:=F40.binds (ps:=["_law_deed"]) fun _ _ _ _ _ _=>us1 rfl fun _=>rfl
 have m40:=PySem.W.mg_of X G a40
 have F41:=A3 (st:=sAnswers) l41 c41 k41
 have b41:=F41.binds (ps:=["_law_history","_law_asks_here"]) fun _ _ _ _ _ _=>us2 rfl fun _ _=>rfl
 have m41:=PySem.W.mg_of X G a41
 have F42:=A3 (st:=sRightL) l42 c42 k42
 have b42:=F42.binds (ps:=["_law_many","_law_deeds_here","_law_cut","_law_asks_here"]) fun _ _ _ _ _ _=>us4 rfl fun _ _ _ _=>rfl
 have m42:=PySem.W.mg_of X G a42
 have F43:=A3 (st:=sLaw) l43 c43 k43
 have b43:=F43.binds (ps:=["_law_script"]) fun _ _ _ _ _ _=>us1 rfl fun _=>rfl
 have m43:=PySem.W.mg_of X G a43
 refine ⟨PySem.W.fnOf "law" "law" (Av sLaw) (Au sLaw) (Ag sLaw) .none kV43 dc43 pm43 an43 cd43 ct43,fun s v=> .of_eq rfl,fun base _ _=> ?_⟩
 have Q0:FnOk l.prog w K mg base CX0 1 f0 _ ["thing"] spWhole:=ok_Whole F0 T 
 have Q1:FnOk l.prog w K mg base CX0 2 f1 _ ["thing","low","high"] spWithin:=ok_Within F1 T k0 b0 m0 (Q0.mono (by decide))
 have Q2:FnOk l.prog w K mg base CX0 1 f2 _ ["tops","one","other"] (spStays K):=ok_Stays F2 T 
 have Q3:FnOk l.prog w K mg base CX0 2 f3 _ ["tops","sides","one","other"] (spJp K):=ok_Jp F3 T k2 b2 m2 (Q2.mono (by decide))
 have Q4:FnOk l.prog w K mg base CX0 1 f4 _ ["self","many"] (spInit C):=ok_Init F4 T 
 have Q5:FnOk l.prog w K mg base CX0 1 f5 _ ["self"] (spShown C):=ok_Shown F5 T 
 have Q6:FnOk l.prog w K mg base CX0 2 f6 _ ["self","place"] (spTop C):=ok_Top F6 T b5 ⟨a5,i5,k5⟩ (Q5.mono (by decide))
 have Q7:FnOk l.prog w K mg base CX0 2 f7 _ ["self"] (spOdd C):=ok_Odd F7 T b5 ⟨a5,i5,k5⟩ (Q5.mono (by decide))
 have Q8:FnOk l.prog w K mg base CX0 1 f8 _ ["self"] (spJoins C):=ok_Joins F8 T 
 have Q9:FnOk l.prog w K mg base CX0 3 f9 _ ["self","place"] (spSize C):=ok_Size F9 T b5 ⟨a5,i5,k5⟩ (Q5.mono (by decide)) b6 ⟨a6,i6,k6⟩ (Q6.mono (by decide))
 have Q10:FnOk l.prog w K mg base CX0 2 f10 _ ["self"] (spParts C):=ok_Parts F10 T b5 ⟨a5,i5,k5⟩ (Q5.mono (by decide))
 have Q11:FnOk l.prog w K mg base CX0 3 f11 _ ["self","one","other"] (spJoin C):=ok_Join F11 T b5 ⟨a5,i5,k5⟩ (Q5.mono (by decide)) k3 b3 m3 (Q3.mono (by decide))
 have Q12:FnOk l.prog w K mg base CX0 3 f12 _ ["self","thing"] (spBack C):=ok_Back F12 T k1 b1 m1 (Q1.mono (by decide)) b8 ⟨a8,i8,k8⟩ (Q8.mono (by decide))
 have Q14:FnOk l.prog w K mg base CX0 9 f14 _ ["size","low","high"] spPo:=(ok_po F14 T F13 b13 m13).mono (by decide)
 have Q15:FnOk l.prog w K mg base CX0 1 f15 _ ["history"] spLives:=ok_Lives F15 T 
 have Q16:FnOk l.prog w K mg base CX0 1 f16 _ ["many","stand"] spBeside:=ok_Beside F16 T 
 have Q17:FnOk l.prog w K mg base CX0 2 f17 _ ["many","stand","place"] spWays:=ok_Ways F17 T k16 b16 m16 (Q16.mono (by decide))
 have Q18:FnOk l.prog w K mg base CX0 3 f18 _ ["many","stand","place"] spPart:=ok_Part F18 T k17 b17 m17 (Q17.mono (by decide))
 have Q19:FnOk l.prog w K mg base CX0 4 f19 _ ["many","stand","one","other"] spJoined:=ok_Joined F19 T k18 b18 m18 (Q18.mono (by decide))
 have Q20:FnOk l.prog w K mg base CX0 4 f20 _ ["many","stand"] spPtsOf:=ok_PtsOf F20 T k18 b18 m18 (Q18.mono (by decide))
 have Q21:FnOk l.prog w K mg base CX0 5 f21 _ ["many","stand"] spWLeast:=ok_WLeast F21 T k20 b20 m20 (Q20.mono (by decide)) k17 b17 m17 (Q17.mono (by decide))
 have Q22:FnOk l.prog w K mg base CX0 1 f22 _ ["ways","tie"] spRingO:=ok_RingO F22 T 
 have Q23:FnOk l.prog w K mg base CX0 6 f23 _ ["many","stand"] spSidesOf:=ok_SidesOf F23 T k21 b21 m21 (Q21.mono (by decide)) k22 b22 m22 (Q22.mono (by decide))
 have Q24:FnOk l.prog w K mg base CX0 7 f24 _ ["many","stand"] spHaveTwo:=ok_HaveTwo F24 T k23 b23 m23 (Q23.mono (by decide))
 have Q25:FnOk l.prog w K mg base CX0 1 f25 _ ["history","n"] spStandB:=ok_StandB F25 T 
 have Q26:FnOk l.prog w K mg base CX0 8 f26 _ ["many","stand","ask"] spAns:=ok_Ans F26 T k19 b19 m19 (Q19.mono (by decide)) k20 b20 m20 (Q20.mono (by decide)) k18 b18 m18 (Q18.mono (by decide)) k24 b24 m24 (Q24.mono (by decide))
 have Q27:FnOk l.prog w K mg base CX0 9 f27 _ ["history","asks"] spPlain:=ok_Plain F27 T k26 b26 m26 (Q26.mono (by decide)) k25 b25 m25 (Q25.mono (by decide))
 have Q28:FnOk l.prog w K mg base CX0 1 f28 _ ["_law_script"] (spDeck K):=ok_Deck F28 T 
 have Q29:FnOk l.prog w K mg base CX0 1 f29 _ ["_law_deck_here","_law_most"] spTake:=ok_Take F29 T 
 have Q30:FnOk l.prog w K mg base CX0 2 f30 _ ["_law_deck_here","_law_often","_law_rare_here"] spRare:=ok_Rare F30 T k29 b29 m29 (Q29.mono (by decide))
 have Q31:FnOk l.prog w K mg base CX0 2 f31 _ ["_law_deck_here"] spNames:=ok_Names F31 T k29 b29 m29 (Q29.mono (by decide))
 have Q32:FnOk l.prog w K mg base CX0 2 f32 _ ["_law_deck_here","_law_many","_law_shape","_law_turn"] spPlaces:=ok_Places F32 T k29 b29 m29 (Q29.mono (by decide))
 have Q33:FnOk l.prog w K mg base CX0 3 f33 _ ["_law_deck_here","_law_many","_law_names_here","_law_shape","_law_there","_law_used"] spTie:=ok_Tie F33 T k29 b29 m29 (Q29.mono (by decide)) k32 b32 m32 (Q32.mono (by decide))
 have Q34:FnOk l.prog w K mg base CX0 4 f34 _ ["_law_deck_here","_law_many","_law_names_here","_law_count"] spDeeds:=ok_Deeds F34 T k29 b29 m29 (Q29.mono (by decide)) k33 b33 m33 (Q33.mono (by decide))
 have Q35:FnOk l.prog w K mg base CX0 2 f35 _ ["_law_deck_here","_law_many","_law_last","_law_count"] spAsks:=ok_Asks F35 T k29 b29 m29 (Q29.mono (by decide))
 have Q36:FnOk l.prog w K mg base CX0 10 f36 _ ["history"] spLaid:=ok_Laid F36 T k15 b15 m15 (Q15.mono (by decide)) k14 b14 m14 (Q14.mono (by decide))
 have Q37:FnOk l.prog w K mg base CX0 5 f37 _ ["takes","ask"] (spAby C):=ok_Aby F37 T b6 ⟨a6,i6,k6⟩ (Q6.mono (by decide)) b10 ⟨a10,i10,k10⟩ (Q10.mono (by decide)) b9 ⟨a9,i9,k9⟩ (Q9.mono (by decide)) b7 ⟨a7,i7,k7⟩ (Q7.mono (by decide))
 have Q38:FnOk l.prog w K mg base CX0 13 f38 _ ["laid","takes","half","asks"] (spTold C 7):=ok_Told F38 T b8 ⟨a8,i8,k8⟩ (Q8.mono (by decide)) b11 ⟨a11,i11,k11⟩ (Q11.mono (by decide)) k37 b37 m37 (Q37.mono (by decide)) b12 ⟨a12,i12,k12⟩ (Q12.mono (by decide)) b38 m38 7
 have Q39:FnOk l.prog w K mg base CX0 14 f39 _ ["history","asks"] spHalf:=ok_Half F39 T k36 b36 m36 (Q36.mono (by decide)) b4 Q4 k38 b38 m38 (Q38.mono (by decide))
 have Q40:FnOk l.prog w K mg base CX0 1 f40 _ ["_law_deed"] spHeavy:=ok_Heavy F40 T 
 have Q41:FnOk l.prog w K mg base CX0 15 f41 _ ["_law_history","_law_asks_here"] spAnswers:=ok_Answers F41 T k27 b27 m27 (Q27.mono (by decide)) k39 b39 m39 (Q39.mono (by decide))
 have Q42:FnOk l.prog w K mg base CX0 16 f42 _ ["_law_many","_law_deeds_here","_law_cut","_law_asks_here"] spRightL:=ok_RightL F42 T k41 b41 m41 (Q41.mono (by decide)) k40 b40 m40 (Q40.mono (by decide))
 exact ok_Law F43 T k28 b28 m28 (Q28.mono (by decide)) k31 b31 m31 (Q31.mono (by decide)) k30 b30 m30 (Q30.mono (by decide)) k29 b29 m29 (Q29.mono (by decide)) k34 b34 m34 (Q34.mono (by decide)) k35 b35 m35 (Q35.mono (by decide)) k42 b42 m42 (Q42.mono (by decide))
theorem walk {l:PySem.W.OpenLaw} {q:Program} {loose:List Str} {XP:(Str→Option Value)→Heap→Prop} {YP:World→Heap→Prop} {d:DefRec} {K:Params→PySem.W.Frag} (hn:l.most=some 63) (hdf:d.params.defaults=[])
  (hY:∀(w:World) (h:Heap),YP w h→(K w.params).In h)
  (F:∀(w:World) (mg:Str→Option Value) (fa:Addr) (h:Heap),(K w.params).In h→h.Ns mainGlobals mg→mg d.name=some (.ref fa)→
   ∃fd:FuncData,(∀(s:Shared) (u:Value),BindsTo s fd ⟨[u],[]⟩ [("_law_script",u)])∧∀base:Heap,(K w.params).In base→base.Ns mainGlobals mg→FnOk l.prog w (K w.params) mg base CX0 17 fa fd ["_law_script"] (spLaw (K w.params))):
  PySem.W.WalkO q loose XP YP l.row.toRowW d [] (fun f vs=>PySem.call f vs):=
 L2.walk_of (n:=63) (k:=17) (x:="_law_script") (CX:=fun _=>CX0) (sp:=fun w=>spLaw (K w.params)) hn (by decide) hdf ⟨rfl,by decide,by decide,rfl⟩ hY F (fun _ _ a ns hl _ hS=>⟨a,ns,rfl,hS,hl,fun _=>rfl⟩) fun _ _ _ _ _ z=>z
end K28
namespace PySem.W.Fast
def tw13508324627066520290:=0
def tw16463831253384804025:=0
def tw10255433702460531941:=0
def tw24007517910934727:=0
def tw12874530189382678563:=0
def tw16247322120156168445:=0
def tw16371393376227875215:=0
def tw14127212055617899177:=0
def tw1565777776502493466:=0
def tw14621733203565402705:=0
def tw3886200782892941420:=0
def tw1365211019509629074:=0
def tw11201415355070114921:=0
def tw5730462330011476939:=0
def tw6802257074083680082:=0
def tw8669604636446699970:=0
def tw3042798591625165563:=0
def tw5660591207832774100:=0
def tw9704415566542812884:=0
def tw12035274488866543049:=0
def tw5050347671113076189:=0
def tw17876756161101395436:=0
def tw10388095087387008821:=0
def tw10832605000363495741:=0
def tw13749057542130991655:=0
def tw8655015050727947685:=0
def tw7090012821416747396:=0
def tw1383543769579999808:=0
def tw9098458986188835671:=0
def tw5233824276950891660:=0
def tw17246063597192926745:=0
def tw13145413633340455280:=0
def tw5635482373062856691:=0
def tw2287975621997292566:=0
def tw7626897759213112782:=0
def tw8182485952086809244:=0
def tw15394651772360169510:=0
def tw54576160405622888:=0
def tw13683843517777670803:=0
def tw5178131869391789579:=0
def tw7877248584114040118:=0
def tw13283211208612429192:=0
def tw12093079517663357280:=0
def tw13839930128557287444:=0
def tw216983084130906557:=0
def tw1634214324417162661:=0
def tw3502327098090178319:=0
def tw15096717916688494071:=0
def tw14462752607242534836:=0
def tw991348466068840702:=0
def tw7987705622306122615:=0
def tw2336223570343854279:=0
def tw4961466100731848830:=0
def tw7842103550231821573:=0
def tw12537620008891840293:=0
def tw18174540077477185343:=0
def tw8579629130458702005:=0
def tw5049042276665047378:=0
def tw17320883100146909291:=0
def tw5959193524377652612:=0
def tw4208163043798272434:=0
def tw10211293527486885567:=0
def tw9616776368202109727:=0
def tw17613499147310880023:=0
def tw14898671692517908070:=0
def tw13985971267200008965:=0
def tw5917969281320306034:=0
def tw15232552068210150246:=0
def tw5661654264380573461:=0
def tw11254506674957857113:=0
def tw4670232129313941099:=0
def tw259307618010787322:=0
def tw2726302228597391666:=0
def tw14993071607085709973:=0
def tw5236413493818898391:=0
def tw5916897095864799154:=0
def tw11712096341621694801:=0
def tw2770624995344945964:=0
def tw17392684718373893706:=0
def tw13335488129892075526:=0
def tw13474296248989489674:=0
def tw10051652134851506796:=0
def tw7013541549020914803:=0
def tw16444205834259678426:=0
def tw7755753938822353682:=0
def tw7753121181126900520:=0
def tw2904185395413656465:=0
def tw16956571998936523069:=0
def tw2904615122968552449:=0
def tw3793127227347880041:=0
def tw18330461652724086454:=0
def tw15066917807723418251:=0
def tw7295438452180790965:=0
def tw17472153803508989538:=0
def tw14575844074554922359:=0
def tw1858389312352097396:=0
def tw16951417764195220068:=0
def tw5824705360238766752:=0
def tw16659247868161431630:=0
def tw13607624372300902512:=0
def tw12286014479817229217:=0
def tw15486314382217225013:=0
def tw11931096331656345690:=0
def tw1476299722603837625:=0
def tw9662596285999749049:=0
def tw13029712723277072507:=0
def tw14881776983968996301:=0
def tw15634428053314044884:=0
def tw17794870840924547105:=0
def tw8383079637174904718:=0
def tw18396781770843650870:=0
def tw4456503763211846830:=0
def tw7699728157744349800:=0
def tw525919853521138936:=0
def tw12117398371544894839:=0
def tw9671050421007780616:=0
def tw3220922604602662204:=0
def tw9984675360975217323:=0
def tw690042367222010316:=0
def tw3862705604187841516:=0
def tw14576021220436085622:=0
def tw11704261810446419378:=0
def tw14297695292720701507:=0
def tw3695602670852567594:=0
def tw3886827411625522763:=0
def tw11805895427184354729:=0
def tw2679911451176717356:=0
def tw14247256555797976050:=0
def tw11313210791195934005:=0
def tw12587534624144536726:=0
def tw8988263708181534584:=0
def tw17766452413575804473:=0
def tw18110565734196185754:=0
def tw447025866428249522:=0
def tw12834824332177238092:=0
def tw5604037460810077622:=0
def tw13336568305599747038:=0
def tw6518394635639226952:=0
def tw17131585132352624041:=0
def tw14587146359599560868:=0
def tw11970900944583921159:=0
def tw5816432029913902122:=0
def tw15032437328426068575:=0
def tw15970750191017669577:=0
def tw4979511428505220809:=0
def tw9267856674706869678:=0
def tw15279154780394074583:=0
def tw3223963449338006923:=0
def tw5695500877459230586:=0
def tw3505438248803095768:=0
def tw1047176507977292907:=0
def tw7400473715529058827:=0
def tw995709923869802060:=0
def tw17016026592373607855:=0
def tw9364502575432605303:=0
def tw8076987706898183762:=0
def tw17655784162696085222:=0
def tw16156807075013733822:=0
def tw12184352623132133587:=0
def tw1704233413829520405:=0
def tw14712040892320042769:=0
def tw3258434186132936542:=0
def tw7636365539505324692:=0
def tw5821071559589632342:=0
def tw15652848853267849311:=0
def tw12927745030956309365:=0
def tw56949021838001564:=0
def tw12849906941167075496:=0
def tw8358872638921766110:=0
def tw6704872015189978273:=0
def tw3703358729284932929:=0
def tw11687483710869937099:=0
def tw8505971458201673093:=0
def tw4572617019159454184:=0
def tw9570500241104270788:=0
def tw9427416563652079645:=0
def tw4975922429814700849:=0
def tw13325873587818728971:=0
def tw3743556958314616524:=0
def tw13575350054631332529:=0
def tw11286432611009830271:=0
def tw10045645216196572230:=0
def tw9889503666472859998:=0
def tw1936535184906182609:=0
def tw18105910972971767669:=0
def tw7053432462931145425:=0
def tw12093809744840733975:=0
def tw7572330331913999584:=0
def tw2838739229747931926:=0
def tw10193393908312049967:=0
end PySem.W.Fast
open PySem PySem.W PyProof.Rows
set_option maxRecDepth 100000 in
set_option maxHeartbeats 0 in
theorem PySem.Challenge.cw_joinedever_k28_beginnings_answer_alike_holds : PySem.Challenge.rw_joinedever_k28_beginnings_answer_alike.Holds := by
 w_on;o_law;k_head;(case hw=>w_witness2)
 k_fill
 refine K28.walk (l:=PySem.Challenge.rw_joinedever_k28_beginnings_answer_alike) rfl rfl (fun w h Y=>PySem.W.kIn_of Y) ?F
 case F=>
  intro w mg fa h KX G hmg
  refine' K28.all_mk KX G hmg ?aC ?a0 ?l0 ?c0 ?k0 ?a1 ?l1 ?c1 ?k1 ?a2 ?l2 ?c2 ?k2 ?a3 ?l3 ?c3 ?k3 ?a4 ?i4 ?l4 ?c4 ?k4 ?a5 ?i5 ?l5 ?c5 ?k5 ?a6 ?i6 ?l6 ?c6 ?k6 ?a7 ?i7 ?l7 ?c7 ?k7 ?a8 ?i8 ?l8 ?c8 ?k8 ?a9 ?i9 ?l9 ?c9 ?k9 ?a10 ?i10 ?l10 ?c10 ?k10 ?a11 ?i11 ?l11 ?c11 ?k11 ?a12 ?i12 ?l12 ?c12 ?k12 ?a13 ?l13 ?c13 ?k13 ?a14 ?l14 ?c14 ?k14 ?a15 ?l15 ?c15 ?k15 ?a16 ?l16 ?c16 ?k16 ?a17 ?l17 ?c17 ?k17 ?a18 ?l18 ?c18 ?k18 ?a19 ?l19 ?c19 ?k19 ?a20 ?l20 ?c20 ?k20 ?a21 ?l21 ?c21 ?k21 ?a22 ?l22 ?c22 ?k22 ?a23 ?l23 ?c23 ?k23 ?a24 ?l24 ?c24 ?k24 ?a25 ?l25 ?c25 ?k25 ?a26 ?l26 ?c26 ?k26 ?a27 ?l27 ?c27 ?k27 ?a28 ?l28 ?c28 ?k28 ?a29 ?l29 ?c29 ?k29 ?a30 ?l30 ?c30 ?k30 ?a31 ?l31 ?c31 ?k31 ?a32 ?l32 ?c32 ?k32 ?a33 ?l33 ?c33 ?k33 ?a34 ?l34 ?c34 ?k34 ?a35 ?l35 ?c35 ?k35 ?a36 ?l36 ?c36 ?k36 ?a37 ?l37 ?c37 ?k37 ?a38 ?l38 ?c38 ?k38 ?a39 ?l39 ?c39 ?k39 ?a40 ?l40 ?c40 ?k40 ?a41 ?l41 ?c41 ?k41 ?a42 ?l42 ?c42 ?k42 ?a43 ?l43 ?c43 ?k43 ?pg ?hd ?po ?sa ?mk ?kc ?n0 ?z0 ?z1 ?z2 ?z3 ?z4 ?z5 ?z6 ?z7 ?z8 ?z9 ?z10 ?z11 ?z12 ?z13
  (case aC=>k_is)
  (case a0=>k_is)
  (case l0=>k_is)
  (case c0=>k_is)
  (case k0=>k_is)
  (case a1=>k_is)
  (case l1=>k_is)
  (case c1=>k_is)
  (case k1=>k_is)
  (case a2=>k_is)
  (case l2=>k_is)
  (case c2=>k_is)
  (case k2=>k_is)
  (case a3=>k_is)
  (case l3=>k_is)
  (case c3=>k_is)
  (case k3=>k_is)
  (case a4=>k_is)
  (case i4=>k_is)
  (case l4=>k_is)
  (case c4=>k_is)
  (case k4=>k_is)
  (case a5=>k_is)
  (case i5=>k_is)
  (case l5=>k_is)
  (case c5=>k_is)
  (case k5=>k_is)
  (case a6=>k_is)
  (case i6=>k_is)
  (case l6=>k_is)
  (case c6=>k_is)
  (case k6=>k_is)
  (case a7=>k_is)
  (case i7=>k_is)
  (case l7=>k_is)
  (case c7=>k_is)
  (case k7=>k_is)
  (case a8=>k_is)
  (case i8=>k_is)
  (case l8=>k_is)
  (case c8=>k_is)
  (case k8=>k_is)
  (case a9=>k_is)
  (case i9=>k_is)
  (case l9=>k_is)
  (case c9=>k_is)
  (case k9=>k_is)
  (case a10=>k_is)
  (case i10=>k_is)
  (case l10=>k_is)
  (case c10=>k_is)
  (case k10=>k_is)
  (case a11=>k_is)
  (case i11=>k_is)
  (case l11=>k_is)
  (case c11=>k_is)
  (case k11=>k_is)
  (case a12=>k_is)
  (case i12=>k_is)
  (case l12=>k_is)
  (case c12=>k_is)
  (case k12=>k_is)
  (case a13=>k_is)
  (case l13=>k_is)
  (case c13=>k_is)
  (case k13=>k_is)
  (case a14=>k_is)
  (case l14=>k_is)
  (case c14=>k_is)
  (case k14=>k_is)
  (case a15=>k_is)
  (case l15=>k_is)
  (case c15=>k_is)
  (case k15=>k_is)
  (case a16=>k_is)
  (case l16=>k_is)
  (case c16=>k_is)
  (case k16=>k_is)
  (case a17=>k_is)
  (case l17=>k_is)
  (case c17=>k_is)
  (case k17=>k_is)
  (case a18=>k_is)
  (case l18=>k_is)
  (case c18=>k_is)
  (case k18=>k_is)
  (case a19=>k_is)
  (case l19=>k_is)
  (case c19=>k_is)
  (case k19=>k_is)
  (case a20=>k_is)
  (case l20=>k_is)
  (case c20=>k_is)
  (case k20=>k_is)
  (case a21=>k_is)
  (case l21=>k_is)
  (case c21=>k_is)
  (case k21=>k_is)
  (case a22=>k_is)
  (case l22=>k_is)
  (case c22=>k_is)
  (case k22=>k_is)
  (case a23=>k_is)
  (case l23=>k_is)
  (case c23=>k_is)
  (case k23=>k_is)
  (case a24=>k_is)
  (case l24=>k_is)
  (case c24=>k_is)
  (case k24=>k_is)
  (case a25=>k_is)
  (case l25=>k_is)
  (case c25=>k_is)
  (case k25=>k_is)
  (case a26=>k_is)
  (case l26=>k_is)
  (case c26=>k_is)
  (case k26=>k_is)
  (case a27=>k_is)
  (case l27=>k_is)
  (case c27=>k_is)
  (case k27=>k_is)
  (case a28=>k_is)
  (case l28=>k_is)
  (case c28=>k_is)
  (case k28=>k_is)
  (case a29=>k_is)
  (case l29=>k_is)
  (case c29=>k_is)
  (case k29=>k_is)
  (case a30=>k_is)
  (case l30=>k_is)
  (case c30=>k_is)
  (case k30=>k_is)
  (case a31=>k_is)
  (case l31=>k_is)
  (case c31=>k_is)
  (case k31=>k_is)
  (case a32=>k_is)
  (case l32=>k_is)
  (case c32=>k_is)
  (case k32=>k_is)
  (case a33=>k_is)
  (case l33=>k_is)
  (case c33=>k_is)
  (case k33=>k_is)
  (case a34=>k_is)
  (case l34=>k_is)
  (case c34=>k_is)
  (case k34=>k_is)
  (case a35=>k_is)
  (case l35=>k_is)
  (case c35=>k_is)
  (case k35=>k_is)
  (case a36=>k_is)
  (case l36=>k_is)
  (case c36=>k_is)
  (case k36=>k_is)
  (case a37=>k_is)
  (case l37=>k_is)
  (case c37=>k_is)
  (case k37=>k_is)
  (case a38=>k_is)
  (case l38=>k_is)
  (case c38=>k_is)
  (case k38=>k_is)
  (case a39=>k_is)
  (case l39=>k_is)
  (case c39=>k_is)
  (case k39=>k_is)
  (case a40=>k_is)
  (case l40=>k_is)
  (case c40=>k_is)
  (case k40=>k_is)
  (case a41=>k_is)
  (case l41=>k_is)
  (case c41=>k_is)
  (case k41=>k_is)
  (case a42=>k_is)
  (case l42=>k_is)
  (case c42=>k_is)
  (case k42=>k_is)
  (case a43=>k_is)
  (case l43=>k_is)
  (case c43=>k_is)
  (case k43=>k_is)
  (case pg=>k_is)
  (case hd=>k_is)
  (case po=>k_is)
  (case sa=>k_is)
  (case mk=>k_is)
  (case kc=>k_is)
  (case n0=>k_is)
  (case z0=>k_is)
  (case z1=>k_is)
  (case z2=>k_is)
  (case z3=>k_is)
  (case z4=>k_is)
  (case z5=>k_is)
  (case z6=>k_is)
  (case z7=>k_is)
  (case z8=>k_is)
  (case z9=>k_is)
  (case z10=>k_is)
  (case z11=>k_is)
  (case z12=>k_is)
  (case z13=>k_is)

import PyProof.Rows.All
import Wide.All
import OpenK.AllK
import Wide.FinOn
import Lean
import PyProof.EqAt
import PyProof.EqKinds
import PyProof.TupleCall
import PySem.Challenge.RW_joinedever_k38_goings_of_kept_ties
import PyProof.Draws
import PyProof.ZipIter
import PyProof.TupleIter
import PyProof.ListRange
import PyProof.CollectWalk
import KE.KSortTup
import KE.KDictSum
import PyProof.Rows.Range3
import KE.KEqDict
import KE.KRevIter
import PyProof.EnumStmt
import PyProof.CallStr
import PyProof.ReprLen
import PyProof.StrLawsRepr
import Flt.Len
set_option Elab.async false
set_option linter.all false
set_option maxRecDepth 100000
set_option maxHeartbeats 4000000
namespace L2
open PySem PySem.Spec PyProof.Rows
abbrev Key:=Sum Int Str
def keyIs:Key→Value→Bool
 | .inl k,v=>Value.isInt k v
 | .inr x,v=>Value.isStrOf x v
def keyH (w:World):Key→Int
 | .inl k=>hashInt k
 | .inr x=>hashStr w x
theorem Bj:∀{k:Key} {v:Value},keyIs k v=true→(∃i t,k=Sum.inl i∧v=Value.int i t)∨(∃x t,k=Sum.inr x∧v=Value.str x t)
 | .inl i,v,h=>by
  obtain ⟨t,e⟩:=Value.isInt_shape (k:=i) (v:=v) h
  exact .inl ⟨i,t,rfl,e⟩
 | .inr x,v,h=>by
  obtain ⟨t,e⟩:=Value.isStrOf_shape (x:=x) (v:=v) h
  exact .inr ⟨x,t,rfl,e⟩
theorem keyIs_int (i:Int) (t:Tok):keyIs (.inl i) (.int i t)=true:=by simp [keyIs,Value.isInt]
theorem keyIs_str (x:Str) (t:Tok):keyIs (.inr x) (.str x t)=true:=by simp [keyIs,Value.isStrOf]
theorem key_ll (a b:Int):decide ((Sum.inl a:Key)=Sum.inl b)=(a==b):=by
 by_cases e:a=b
 ·subst e;simp
 ·have h:¬(Sum.inl a:Key)=Sum.inl b:=fun q=>e (Sum.inl.inj q)
  rw [decide_eq_false h]
  exact (beq_eq_false_iff_ne.mpr e).symm
theorem key_rr (a b:Str):decide ((Sum.inr a:Key)=Sum.inr b)=decide (a=b):=by
 by_cases e:a=b
 ·subst e;simp
 ·have h:¬(Sum.inr a:Key)=Sum.inr b:=fun q=>e (Sum.inr.inj q)
  rw [decide_eq_false h,decide_eq_false e]
theorem key_lr (a:Int) (b:Str):decide ((Sum.inl a:Key)=Sum.inr b)=false:=decide_eq_false (fun q=>nomatch q)
theorem key_rl (a:Str) (b:Int):decide ((Sum.inr a:Key)=Sum.inl b)=false:=decide_eq_false (fun q=>nomatch q)
def Bl (prog:Program) (w:World):PySem.KeyKind prog w Key where
 is:=keyIs
 hash:=keyH w
 inj:=fun v a b ha hb=>by
  rcases Bj ha with ⟨i,t,rfl,rfl⟩|⟨x,t,rfl,rfl⟩
  ·rcases Bj hb with ⟨j,u,rfl,e⟩|⟨y,u,rfl,e⟩
   ·injection e with e1 _;rw [e1]
   ·exact nomatch e
  ·rcases Bj hb with ⟨j,u,rfl,e⟩|⟨y,u,rfl,e⟩
   ·exact nomatch e
   ·injection e with e1 _;rw [e1]
 byValue:=fun k v h=>by
  rcases Bj h with ⟨i,t,rfl,rfl⟩|⟨x,t,rfl,rfl⟩<;> rfl
 pyHash:=fun hv h=>by
  rcases Bj hv with ⟨i,t,rfl,rfl⟩|⟨x,t,rfl,rfl⟩
  ·exact wpAny_pyHash_int h
  ·exact wpAny_pyHash_str h
 eqBool:=fun hu hv h=>by
  rcases Bj hu with ⟨i,t,rfl,rfl⟩|⟨x,t,rfl,rfl⟩
  ·rcases Bj hv with ⟨j,u,rfl,rfl⟩|⟨y,u,rfl,rfl⟩
   ·rw [key_ll] at h;exact wpAny_eqBool_int h
   ·rw [key_lr] at h;exact SeqAt.EqAt.int_str i t y u _ _ _ _ h
  ·rcases Bj hv with ⟨j,u,rfl,rfl⟩|⟨y,u,rfl,rfl⟩
   ·rw [key_rl] at h;exact SeqAt.EqAt.str_int x t j u _ _ _ _ h
   ·rw [key_rr] at h;exact wpAny_eqBool_str h
 «strs» :=fun k x t v h=>by
  rcases Bj h with ⟨i,u,rfl,e⟩|⟨y,u,rfl,e⟩
  ·exact nomatch e
  ·injection e with e1 _
   subst e1
   cases v<;> rfl
theorem mixKind_int (prog:Program) (w:World) (i:Int) (t:Tok):(Bl prog w).is (.inl i) (.int i t)=true:=keyIs_int i t
theorem mixKind_str (prog:Program) (w:World) (x:Str) (t:Tok):(Bl prog w).is (.inr x) (.str x t)=true:=keyIs_str x t
end L2
namespace L2
open PySem PySem.Spec PyProof.Rows
inductive V where
 |non|bl (b:Bool)|int (i:Int)|str (x:Str)|byt (b:Array UInt8)|flt (b:UInt64)|ref (a:Addr)|ty (n:String)
 deriving DecidableEq
def RelV:V→Value→Prop
 | .non,u=>u=Value.none
 | .bl b,u=>u=Value.bool b
 | .int i,u=>∃t,u=Value.int i t
 | .str x,u=>∃t,u=Value.str x t
 | .byt b,u=>∃t,u=Value.bytes b t
 | .flt b,u=>∃t,u=Value.float b t
 | .ref a,u=>u=Value.ref a
 | .ty n,u=>u=Value.type n
abbrev Vals:List V→List Value→Prop:=Paired RelV
theorem Vals.length {xs:List V} {us:List Value} (r:Vals xs us):xs.length=us.length:=Paired.length r
theorem Vals.get:∀{xs:List V} {us:List Value} {i:Nat} {x:V},Vals xs us→xs[i]? =some x→∃u,us[i]? =some u∧RelV x u
 |_,_,_,_,.nil,e=>by simp at e
 |_,_,0,_,.cons r _,e=>by simp at e;subst e;exact ⟨_,rfl,r⟩
 |_,_,i+1,x,.cons _ t,e=>by
  obtain ⟨u,h1,h2⟩:=Vals.get (i:=i) (x:=x) t (by simpa using e)
  exact ⟨u,by simpa using h1,h2⟩
theorem Vals.set {x:V} {u:Value} (r:RelV x u):∀{xs:List V} {us:List Value} (i:Nat),Vals xs us→Vals (xs.set i x) (us.set i u)
 |_,_,_,.nil=> .nil
 |_,_,0,.cons _ t=> .cons r t
 |_,_,i+1,.cons q t=> .cons q (Vals.set r i t)
theorem Vals.append:∀{xs ys:List V} {us ws:List Value},Vals xs us→Vals ys ws→Vals (xs++ys) (us++ws)
 |_,_,_,_,.nil,s=>s
 |_,_,_,_,.cons r t,s=> .cons r (Vals.append t s)
theorem Vals.take:∀{xs:List V} {us:List Value} (n:Nat),Vals xs us→Vals (xs.take n) (us.take n)
 |_,_,0,_=> .nil
 |_,_,_+1,.nil=> .nil
 |_,_,n+1,.cons r t=> .cons r (Vals.take n t)
theorem Vals.drop:∀{xs:List V} {us:List Value} (n:Nat),Vals xs us→Vals (xs.drop n) (us.drop n)
 |_,_,0,r=>r
 |_,_,_+1,.nil=> .nil
 |_,_,n+1,.cons _ t=>Vals.drop n t
def RelO:Option V→Option Value→Prop
 |some v,some u=>RelV v u
 |none,none=>True
 |_,_=>False
def KV {κ:Type}:List (κ×V)→List (κ×Value)→Prop:=Paired fun (p:κ×V) (q:κ×Value)=>p.1=q.1∧RelV p.2 q.2
def kV:Key→V
 | .inl i=> .int i
 | .inr x=> .str x
inductive HO where
 |lst (xs:List V)
 |tup (xs:List V)
 |dK (kvs:List (Key×V))|dT (kvs:List (List Key×V))
 |set (S:Int→Bool) (n:Nat)
 |ins (C dx:Addr) (fs:List (Str×V))
 |own (x:Addr)
 |xd (fs:List (Str×V))
 |met (f x:Addr)
 |rng (lo hi:Int)
 |frz (o:Obj) (u:HO)
 |tbl (ps:Array Value)
 |ext (φ:Heap→Prop)
abbrev Hp:=Addr→Option HO
def upd (H:Hp) (a:Addr) (o:HO):Hp:=fun b=>if b=a then some o else H b
theorem Ab {H:Hp} {a:Addr} {o:HO}:upd H a o a=some o:=by unfold upd;rw [if_pos rfl]
theorem Ai {H:Hp} {a b:Addr} {o:HO} (h:b≠a):upd H a o b=H b:=by unfold upd;rw [if_neg h]
theorem upd_upd {H:Hp} {a:Addr} {o u:HO}:upd (upd H a o) a u=upd H a u:=by
 funext b;unfold upd;split<;> rfl
theorem Cw {H:Hp} {a b:Addr} {o u:HO} (h:H a=some o) (h':H b=some u) (d:o≠u):a≠b:=by
 intro e;subst e;rw [h] at h';exact d (Option.some.inj h')
theorem Am {H:Hp} {a b:Addr} {o:HO} (h:H a=some o) (h':H b=none):a≠b:=by
 intro e;subst e;rw [h] at h';cases h'
def IsTupN (h:Heap) (a:Addr) (items:Array Value):Prop:=∃o,h.get? a=some o∧o.cls= .type "tuple"∧o.dict=none∧∃n,o.data= .seq items n
theorem IsTupN.new (h:Heap) (items:Array Value):IsTupN (h.push {cls:= .type "tuple",data:= .seq items}) h.objs.size items:=⟨_,Heap.get?_push_size _ rfl,rfl,rfl,_,rfl⟩
theorem IsTupN.tup {h:Heap} {a:Addr} {items:Array Value} (x:IsTupN h a items):IsTup h a items:=let ⟨o,e,c,_,n,d⟩:=x;⟨o,e,c,n,d⟩
section
variable (P:Program) (w:World)
def ObjOk (H:Hp) (h:Heap) (a:Addr):HO→Prop
 | .lst xs=>xs.length≤sizeLine∧∃(its:List Value) (n:Nat),Vals xs its∧h.get? a=some {cls:= .type "list",data:= .seq its.toArray n}
 | .tup xs=>xs.length≤sizeLine∧∃its:List Value,Vals xs its∧IsTupN h a its.toArray
 | .dK kvs=>kvs.length≤sizeLine∧(a==sysModules)=false∧∃vs,KV kvs vs∧h.DictOf (Bl P w) a vs
 | .dT kvs=>kvs.length≤sizeLine∧(a==sysModules)=false∧∃xs:List (List Key×Addr×Value),
   Paired (fun (p:List Key×V) (q:List Key×Addr×Value)=>p.1=q.1∧H q.2.1=some (.tup (p.1.map kV))∧RelV p.2 q.2.2) kvs xs∧
   ∃o es ep,h.get? a=some o∧o.ExactDict∧o.data= .dict es ep∧es.toList=xs.map (entryOfKey (tupleKind (Bl P w)))∧(xs.map (·.1)).Nodup
 | .set S n=>h.SetOf (intKind P w) a S n
 | .ins C dx fs=>H dx=some (.own a)∧fs.length≤1000∧dx≠a∧h.get? a=some (PySem.W.instObj C dx)∧
   ∃mA,h.Ns1 dx mA∧(∀f,RelO (fs.lookup f) (mA f))∧PySem.Within mA (fs.map (·.1))
 | .own _=>∃o,h.get? a=some o
 | .xd fs=>∃mA,h.Ns1 a mA∧∀f,RelO (fs.lookup f) (mA f)
 | .rng lo hi=>∃t u v,h.get? a=some {cls:= .type "range",data:= .fields #[.int lo t,.int hi u,.int 1 v]}
 | .frz o u=>h.get? a=some o∧ObjOk H h a u
 | .tbl ps=>h.get? a=some {cls:= .none,data:= .fields ps}
 | .met f x=>h.get? a=some (PySem.W.methodObj (.ref f) (.ref x))
 | .ext φ=>φ h∧(∃o,h.get? a=some o)∧∀h1 h2:Heap,φ h1→(∀o,h1.get? a=some o→h2.get? a=some o)→φ h2
def HOk (H:Hp) (h:Heap):Prop:=∀a o,H a=some o→ObjOk P w H h a o
end
section
variable {P:Program} {w:World} {H H':Hp} {h h':Heap} {a:Addr} {o:HO}
theorem ObjOk.lt (x:ObjOk P w H h a o):a<h.objs.size:=by
 cases o with
 |lst xs=>obtain ⟨_,_,_,_,e⟩:=x;exact Heap.lt_size e
 |tup xs=>obtain ⟨_,_,_,p⟩:=x;exact p.tup.lt
 |dK kvs=>obtain ⟨_,_,_,_,o,_,_,e,_⟩:=x;exact Heap.lt_size e
 |dT kvs=>obtain ⟨_,_,_,_,o,_,_,e,_⟩:=x;exact Heap.lt_size e
 |set S n=>obtain ⟨o,_,_,_,e,_⟩:=x;exact Heap.lt_size e
 |ins C dx fs=>obtain ⟨_,_,_,e,_⟩:=x;exact Heap.lt_size e
 |own y=>obtain ⟨_,e⟩:=x;exact Heap.lt_size e
 |xd fs=>obtain ⟨_,⟨_,_,_,e,_⟩,_⟩:=x;exact Heap.lt_size e
 |rng lo hi=>obtain ⟨_,_,_,e⟩:=x;exact Heap.lt_size e
 |frz ob u=>obtain ⟨e,_⟩:=x;exact Heap.lt_size e
 |tbl ps=>exact Heap.lt_size (show h.get? a=some _ from x)
 |met f y=>exact Heap.lt_size (show h.get? a=some _ from x)
 |ext φ=>obtain ⟨_,⟨_,e⟩,_⟩:=x;exact Heap.lt_size e
theorem Paired.mapP {α β:Type} {F G:α→β→Prop}:∀{l₁:List α} {l₂:List β},Paired F l₁ l₂→(∀a b,F a b→G a b)→Paired G l₁ l₂
 |_,_,.nil,_=> .nil
 |_,_,.cons r t,f=> .cons (f _ _ r) (Paired.mapP t f)
theorem ObjOk.stay (x:ObjOk P w H h a o) (k:∀b u,(b=a∨H b=some (.own a))→h.get? b=some u→h'.get? b=some u)
  (ho:∀b,H b=some (.own a)→H' b=some (.own a)) (ht:∀b xs,H b=some (.tup xs)→H' b=some (.tup xs)):ObjOk P w H' h' a o:=by
 induction o with
 |lst xs=>obtain ⟨z,its,n,r,e⟩:=x;exact ⟨z,its,n,r,k _ _ (.inl rfl) e⟩
 |tup xs=>obtain ⟨z,its,r,ob,e,c⟩:=x;exact ⟨z,its,r,ob,k _ _ (.inl rfl) e,c⟩
 |dK kvs=>obtain ⟨z,y,vs,r,ob,es,ep,e,c⟩:=x;exact ⟨z,y,vs,r,ob,es,ep,k _ _ (.inl rfl) e,c⟩
 |dT kvs=>
  obtain ⟨z,y,xs,r,ob,es,ep,e,c⟩:=x
  exact ⟨z,y,xs,Paired.mapP r fun p q z=>⟨z.1,ht _ _ z.2.1,z.2.2⟩,ob,es,ep,k _ _ (.inl rfl) e,c⟩
 |set S n=>obtain ⟨ob,es,ep,t,e,c⟩:=x;exact ⟨ob,es,ep,t,k _ _ (.inl rfl) e,c⟩
 |ins C dx fs=>
  obtain ⟨d,z,ne,e,mA,⟨od,es,ep,e2,c⟩,r⟩:=x
  exact ⟨ho _ d,z,ne,k _ _ (.inl rfl) e,mA,⟨od,es,ep,k _ _ (.inr d) e2,c⟩,r⟩
 |own y=>obtain ⟨ob,e⟩:=x;exact ⟨ob,k _ _ (.inl rfl) e⟩
 |xd fs=>obtain ⟨mA,⟨od,es,ep,e,c⟩,r⟩:=x;exact ⟨mA,⟨od,es,ep,k _ _ (.inl rfl) e,c⟩,r⟩
 |rng lo hi=>obtain ⟨t,u,v,e⟩:=x;exact ⟨t,u,v,k _ _ (.inl rfl) e⟩
 |frz ob u ih=>obtain ⟨e,q⟩:=x;exact ⟨k _ _ (.inl rfl) e,ih q⟩
 |tbl ps=>
  have e:h.get? a=some {cls:= .none,data:= .fields ps}:=x
  show h'.get? a=some {cls:= .none,data:= .fields ps}
  exact k a _ (.inl rfl) e
 |met f y=>
  have e:h.get? a=some (PySem.W.methodObj (.ref f) (.ref y)):=x
  show h'.get? a=some (PySem.W.methodObj (.ref f) (.ref y))
  exact k a _ (.inl rfl) e
 |ext φ=>obtain ⟨p,⟨o,e⟩,st⟩:=x;exact ⟨st _ _ p fun o q=>k _ _ (.inl rfl) q,⟨o,k _ _ (.inl rfl) e⟩,st⟩
theorem HOk.lt (x:HOk P w H h) (e:H a=some o):a<h.objs.size:=(x a o e).lt
theorem HOk.fresh (x:HOk P w H h) (e:h.objs.size≤a):H a=none:=by
 cases q:H a with
 |none=>rfl
 |some u=>exact absurd (Nat.lt_of_lt_of_le (x.lt q) e) (Nat.lt_irrefl _)
theorem HOk.kept (x:HOk P w H h) (k:∀b u,h.get? b=some u→h'.get? b=some u):HOk P w H h':=fun a o e=>
 (x a o e).stay (fun b u _ q=>k b u q) (fun _ q=>q) fun _ _ q=>q
theorem HOk.laid (x:HOk P w H h) (k:∀b u,h.get? b=some u→h'.get? b=some u) (hp:h.objs.size≤a) (new:ObjOk P w (upd H a o) h' a o):HOk P w (upd H a o) h':=fun b u e=>by
 have hn:=x.fresh hp
 by_cases hb:b=a
 ·subst hb;rw [Ab] at e;cases e;exact new
 ·rw [Ai hb] at e
  exact (x b u e).stay (fun c v _ q=>k c v q) (fun c q=>by rw [Ai (Am q hn)];exact q) fun c xs q=>by rw [Ai (Am q hn)];exact q
end
def Rd (H:Hp) (a:Addr) (u:HO):Prop:=H a=some u∨∃o,H a=some (.frz o u)
theorem Rd.of {H:Hp} {a:Addr} {u:HO} (h:H a=some u):Rd H a u:= .inl h
theorem Rd.ok {P:Program} {w:World} {H:Hp} {h:Heap} {a:Addr} {u:HO} (r:Rd H a u) (x:HOk P w H h):ObjOk P w H h a u:=by
 rcases r with r|⟨o,r⟩
 ·exact x a u r
 ·obtain ⟨_,q⟩:=x a _ r
  exact q
def Mut:Option HO→Prop
 |some (.lst _)=>True
 |some (.dK _)=>True
 |some (.dT _)=>True
 |some (.set _ _)=>True
 |some (.ins _ _ _)=>True
 |some (.ext _)=>True
 |_=>False
section
variable {P:Program} {w:World} {H:Hp} {h h':Heap} {x e:Addr} {o':HO}
theorem HOk.write (ok:HOk P w H h) (mu:Mut (H x)) (he:e=x∨H e=some (.own x)) (k:∀b u,b≠e→h.get? b=some u→h'.get? b=some u) (heo:∃u,h'.get? e=some u)
  (new:ObjOk P w (upd H x o') h' x o'):HOk P w (upd H x o') h':=fun b u q=>by
 have nown:∀c y,H c=some (.own y)→c≠x:=fun c y r z=>by subst z;rw [r] at mu;exact mu
 have ntup:∀c xs,H c=some (.tup xs)→c≠x:=fun c xs r z=>by subst z;rw [r] at mu;exact mu
 by_cases hb:b=x
 ·subst hb;rw [Ab] at q;cases q;exact new
 ·rw [Ai hb] at q
  by_cases hbe:b=e
  ·have q':H b=some (.own x):=by
    rcases he with z|z
    ·exact absurd (hbe.trans z) hb
    ·rw [hbe];exact z
   rw [q] at q';cases q'
   obtain ⟨v,hv⟩:=heo
   exact ⟨v,by rw [hbe];exact hv⟩
  ·refine (ok b u q).stay (fun c v hc r=>k c v ?_ r) (fun c r=>by rw [Ai (nown c b r)];exact r) fun c xs r=>by rw [Ai (ntup c xs r)];exact r
   rcases hc with rfl|hc
   ·exact hbe
   ·rintro rfl
    rcases he with z|z
    ·exact nown c b hc z
    ·rw [hc] at z;cases z;exact hb rfl
end
structure Un (fs ex:List Addr) (H H':Hp) (h h':Heap):Prop where
 keep:∀b o,h.get? b=some o→H b=none→b ∉ fs→b ∉ ex→h'.get? b=some o
 slot:∀b o,h.get? b=some o→H b=none→b∈fs→b ∉ ex→∃sl,h'.get? b=some {o with slots:=sl}
 free:∀b o,h.get? b=some o→H b=none→b ∉ ex→H' b=none
 there:∀b o,h.get? b=some o→b ∉ ex→∃o',h'.get? b=some o'
 tups:∀b xs,H b=some (.tup xs)→H' b=some (.tup xs)
 frzs:∀b o u,H b=some (.frz o u)→H' b=some (.frz o u)
 tbls:∀b ps,H b=some (.tbl ps)→∃more,H' b=some (.tbl (ps++more))
section
variable {fs fs' ex ex':List Addr} {H H1 H2:Hp} {h h1 h2 h':Heap} {a x e:Addr} {o:HO}
theorem Un.any (u:Un fs ex H H1 h h1) {b:Addr} {ob:Obj} (q:h.get? b=some ob) (n:H b=none) (hx:b ∉ ex):∃sl,h1.get? b=some {ob with slots:=sl}:=by
 by_cases hb:b∈fs
 ·exact u.slot b ob q n hb hx
 ·exact ⟨ob.slots,u.keep b ob q n hb hx⟩
theorem Un.kept (k:∀b u,h.get? b=some u→h'.get? b=some u):Un fs ex H H h h':=
 ⟨fun b ob q _ _ _=>k b ob q,fun b ob q _ _ _=>⟨ob.slots,k b ob q⟩,fun _ _ _ n _=>n,fun b ob q _=>⟨ob,k b ob q⟩,fun _ _ q=>q,fun _ _ _ q=>q,fun _ ps q=>⟨#[],by rw [q];simp⟩⟩
theorem Un.refl:Un fs ex H H h h:=Un.kept fun _ _ q=>q
theorem Un.laid (k:∀b u,h.get? b=some u→h'.get? b=some u) (hp:h.objs.size≤a) (hn:H a=none):Un fs ex H (upd H a o) h h' where
 keep:=fun b u q _ _ _=>k b u q
 slot:=fun b u q _ _ _=>⟨u.slots,k b u q⟩
 free:=fun b u q n _=>by rw [Ai (Nat.ne_of_lt (Nat.lt_of_lt_of_le (Heap.lt_size q) hp))];exact n
 there:=fun b u q _=>⟨u,k b u q⟩
 tups:=fun b xs q=>by rw [Ai (Am q hn)];exact q
 frzs:=fun b u xs q=>by rw [Ai (Am q hn)];exact q
 tbls:=fun b ps q=>⟨#[],by rw [Ai (Am q hn),q];simp⟩
theorem Un.write (mu:Mut (H x)) (he:e=x∨H e=some (.own x)) (k:∀b u,b≠e→h.get? b=some u→h'.get? b=some u) (heo:∃u,h'.get? e=some u):Un fs ex H (upd H x o) h h':=by
 have hx:∀b,H b=none→b≠x:=fun b n z=>by subst z;rw [n] at mu;exact mu
 have hb:∀b,H b=none→b≠e:=fun b n z=>by
  subst z
  rcases he with r|r
  ·exact hx b n r
  ·rw [n] at r;cases r
 have hm:∀b u,H b=some u→¬Mut (some u)→b≠x:=fun b u q nm z=>by subst z;rw [q] at mu;exact nm mu
 refine ⟨fun b u q n _ _=>k b u (hb b n) q,fun b u q n _ _=>⟨u.slots,k b u (hb b n) q⟩,fun b u q n _=>by rw [Ai (hx b n)];exact n,fun b u q _=> ?_,
  fun b xs q=>by rw [Ai (hm b _ q fun z=>z)];exact q,fun b u xs q=>by rw [Ai (hm b _ q fun z=>z)];exact q,fun b ps q=>⟨#[],by rw [Ai (hm b _ q fun z=>z),q];simp⟩⟩
 by_cases hbe:b=e
 ·subst hbe;exact heo
 ·exact ⟨u,k b u hbe q⟩
end
def trk (h:Heap) (H:Hp):List Addr:=(List.range h.objs.size).filter fun a=>(H a).isSome
def hidT (h:Heap) (H:Hp):Heap:=PySem.W.hideAll h (trk h H)
theorem hidT_size (h:Heap) (H:Hp):(hidT h H).objs.size=h.objs.size:=PySem.W.hideAll_size _ _
theorem hidT_get {h:Heap} {H:Hp} {b:Addr} {o:Obj} (e:h.get? b=some o) (n:H b=none):(hidT h H).get? b=some o:=
 PySem.W.hideAll_get _ e fun hm=>by
  have q:(H b).isSome=true:=(List.mem_filter.mp hm).2
  rw [n] at q;simp at q
theorem of_hidT {h:Heap} {H:Hp} {b:Addr} {o:Obj} (e:(hidT h H).get? b=some o):h.get? b=some o∧H b=none:=by
 have e':h.get? b=some o:=PySem.W.of_hideAll (trk h H) e
 refine ⟨e',?_⟩
 cases q:H b with
 |none=>rfl
 |some x=>
  have hm:b∈trk h H:=List.mem_filter.mpr ⟨List.mem_range.mpr (Heap.lt_size e'),by simp [q]⟩
  have z:(hidT h H).get? b=none:=PySem.W.hideAll_none (trk h H) hm
  rw [z] at e;cases e
end L2
namespace L2
open PySem PySem.Spec PyProof.Rows
structure Mod (K:PySem.W.Frag) (mg:Str→Option Value) (base:Heap):Prop where
 kin:K.In base
 glob:base.Ns mainGlobals mg
 blt:∃mb,base.Ns builtinsNs mb∧∀x:Str,x≠"__name__"→mb x=bootBuiltins x
 nolimit:base.NoLimit
structure Cx where
 prog:Program
 w:World
 K:PySem.W.Frag
 mg:Str→Option Value
 base:Heap
 A:Around
 N:List Str
 s₀:Shared
 H₀:Hp
 env:Env
 outer:List Env
 stack:List Env
 ex:List Addr
 fn:Str→Bool
 calm:Bool
 pn:List (Addr×Obj)
 xe:Value→Shared→Prop
def frs (l:List Env):List Addr:=l.filterMap (·.frame)
abbrev Cx.fs (X:Cx):List Addr:=frs X.outer
def Vis (sc:Scope) (x:Str):Prop:=sc.names.lookup x=some .local∨sc.names.lookup x=some .cell∨sc.names.lookup x=some .free
def Loc (sc:Scope) (x:Str):Prop:=sc.names.lookup x=some .local∨sc.names.lookup x=some .cell
def Look (env:Env) (h:Heap) (m:Str→Option Value) (x:Str) (u:Value):Prop:=
 (env.kindOf x=some .local∧m x=some u)∨((env.kindOf x=some .cell∨env.kindOf x=some .free)∧∃c,env.cells.lookup x=some c∧h.IsCell c (some u))
structure Cx.Ok (X:Cx):Prop where
 mod:Mod X.K X.mg X.base
 kind:X.env.scope.kind= .function
 glob:X.env.globals=mainGlobals
 blt:X.env.builtins=builtinsNs
 above:X.s₀.heap.objs.size≤X.env.locals
 inj:∀x y c,X.env.cells.lookup x=some c→X.env.cells.lookup y=some c→x=y
 has:∀x,(X.env.kindOf x=some .cell∨X.env.kindOf x=some .free)→∃c,X.env.cells.lookup x=some c
 cab:∀x c,X.fn x=true→X.env.cells.lookup x=some c→X.s₀.heap.objs.size≤c
 hd:X.calm=true→X.A.handled=none
 frames:X.A.frames=some X.stack
 stk:X.stack=X.outer∨(X.stack=X.env::X.outer∧X.env.frame=some X.env.locals)
 exf:∀b∈X.ex,b≠X.env.locals∧∀x c,X.env.cells.lookup x=some c→c≠b
 bs:∀b o,X.base.get? b=some o→X.s₀.heap.get? b=some o∧X.H₀ b=none
 bsz:X.base.objs.size≤X.s₀.heap.objs.size
 noex:∀b o,X.base.get? b=some o→b ∉ X.ex
 exfs:∀b∈X.ex,b ∉ X.fs
 funs:X.s₀.heap.FunFrames X.base X.outer
 frf:∀b∈X.fs,X.H₀ b=none
structure Inv (X:Cx) (pins:List (Addr×Obj)) (σ:List (Option V)) (H:Hp) (s:Shared):Prop where
 ok:X.Ok
 os:s.os=X.s₀.os
 bare:AllBare s.gens
 base:Un X.fs X.ex X.H₀ H X.s₀.heap s.heap
 loc:∃m,s.heap.Ns X.env.locals m∧∀(i:Nat) (x:Str) (v:V),X.N[i]? =some x→σ[i]? =some (some v)→Vis X.env.scope x→∃u,RelV v u∧Look X.env s.heap m x u
 cell:∀x c,X.env.cells.lookup x=some c→∃v,s.heap.IsCell c v
 free:H X.env.locals=none
 freeC:∀x c,X.env.cells.lookup x=some c→H c=none
 pin:∀p∈X.pn++pins,s.heap.get? p.1=some p.2∧H p.1=none∧p.1≠X.env.locals∧p.1 ∉ X.fs∧∀v,p.2.data≠ .cell v
 hok:HOk X.prog X.w H s.heap
 len:σ.length=X.N.length
section
variable {X:Cx} {pins:List (Addr×Obj)} {σ:List (Option V)} {H H':Hp} {s:Shared} {h':Heap}
theorem Cx.Ok.nofr (ok:X.Ok) {b:Addr} {o:Obj} (e:X.base.get? b=some o):b ∉ X.fs:=fun hb=>by
 have:=(ok.funs.mem hb).1
 rw [e] at this;cases this
theorem Inv.bs (I:Inv X pins σ H s):∀b o,X.base.get? b=some o→s.heap.get? b=some o∧H b=none:=fun b o e=>
 ⟨I.base.keep b o (I.ok.bs b o e).1 (I.ok.bs b o e).2 (I.ok.nofr e) (I.ok.noex b o e),I.base.free b o (I.ok.bs b o e).1 (I.ok.bs b o e).2 (I.ok.noex b o e)⟩
theorem Inv.bk (I:Inv X pins σ H s):∀b o,X.base.get? b=some o→s.heap.get? b=some o:=fun b o e=>(I.bs b o e).1
theorem Inv.mod (I:Inv X pins σ H s):Mod X.K X.mg X.base:=I.ok.mod
theorem Inv.kIn (I:Inv X pins σ H s):X.K.In s.heap:=I.ok.mod.kin.keeps I.bk
theorem Inv.lt (I:Inv X pins σ H s):X.env.locals<s.heap.objs.size:=let ⟨_,hn,_⟩:=I.loc;hn.lt
theorem Inv.sz (I:Inv X pins σ H s):X.s₀.heap.objs.size≤s.heap.objs.size:=Nat.le_trans I.ok.above (Nat.le_of_lt I.lt)
theorem Inv.nofs (I:Inv X pins σ H s) {a:Addr} (h:s.heap.objs.size≤a):a ∉ X.fs:=fun hb=>by
 obtain ⟨_,o,ho,_⟩:=I.ok.funs.mem hb
 exact absurd (Nat.lt_of_lt_of_le (Heap.lt_size ho) (Nat.le_trans I.sz h)) (Nat.lt_irrefl _)
theorem Inv.cne (I:Inv X pins σ H s):∀x c,X.env.cells.lookup x=some c→c≠X.env.locals:=fun x c e z=>by
 obtain ⟨v,o,ho,hd⟩:=I.cell x c e
 obtain ⟨m,⟨o',es,ep,ho',hd',_⟩,_⟩:=I.loc
 rw [z,ho'] at ho;cases ho;rw [hd'] at hd;cases hd
theorem Inv.funs (I:Inv X pins σ H s):s.heap.FunFrames X.base X.outer:=by
 have all:∀(l:List Env),(∀b∈frs l,b∈X.fs)→X.s₀.heap.FunFrames X.base l→s.heap.FunFrames X.base l:=by
  intro l
  induction l with
  |nil=>intro _ _;trivial
  |cons env r ih=>
   intro hs hl
   obtain ⟨hk,⟨L,o,hf,hn,ho,hd⟩,hr⟩:=hl
   have hL:L∈X.fs:=hs L (by unfold frs;rw [List.filterMap_cons,hf];exact List.mem_cons_self)
   obtain ⟨sl,e⟩:=I.base.slot L o ho (I.ok.frf L hL) hL fun z=>I.ok.exfs L z hL
   exact ⟨hk,⟨L,_,hf,hn,e,hd⟩,ih (fun b hb=>hs b (by unfold frs;rw [List.filterMap_cons,hf];exact List.mem_cons_of_mem _ hb)) hr⟩
 exact all X.outer (fun _ hb=>hb) I.ok.funs
theorem Inv.stack (I:Inv X pins σ H s):s.heap.FunFrames X.base X.stack:=by
 rcases I.ok.stk with e|⟨e,hf⟩
 ·rw [e];exact I.funs
 ·rw [e]
  obtain ⟨m,hn,_⟩:=I.loc
  refine .cons (by rw [I.ok.kind];decide) hf hn ?_ I.funs
  exact Heap.get?_none_of_le (Nat.le_trans I.ok.bsz I.ok.above)
theorem Inv.stkSub (I:Inv X pins σ H s):∀b∈frs X.stack,b∈X.env.locals::X.fs:=fun b hb=>by
 rcases I.ok.stk with e|⟨e,hf⟩
 ·rw [e] at hb;exact List.mem_cons_of_mem _ hb
 ·rw [e] at hb
  unfold frs at hb
  rw [List.filterMap_cons,hf] at hb
  exact hb
theorem Inv.stkFree (I:Inv X pins σ H s):∀b∈frs X.stack,H b=none:=fun b hb=>by
 rcases List.mem_cons.mp (I.stkSub b hb) with e|hb
 ·rw [e];exact I.free
 ·obtain ⟨_,o,ho,_⟩:=I.ok.funs.mem hb
  exact I.base.free b o ho (I.ok.frf b hb) fun z=>I.ok.exfs b z hb
theorem Inv.step {g':Array GenState} {t':Nat} {d':Drawn} {ch:List Addr} (I:Inv X pins σ H s)
  (hch:∀b∈ch,(b∈X.ex∨X.s₀.heap.objs.size≤b)∧b≠X.env.locals∧(∀x c,X.env.cells.lookup x=some c→c≠b)∧∀p∈X.pn++pins,p.1≠b)
  (keep:∀b o,b≠X.env.locals→b ∉ X.fs→b ∉ ch→s.heap.get? b=some o→H b=none→h'.get? b=some o)
  (slot:∀b o,b≠X.env.locals→b∈X.fs→b ∉ ch→s.heap.get? b=some o→H b=none→∃sl,h'.get? b=some {o with slots:=sl}) (free:∀b o,b ∉ ch→s.heap.get? b=some o→H b=none→H' b=none)
  (there:∀b o,b ∉ ch→s.heap.get? b=some o→∃o',h'.get? b=some o')
  (tups:∀b xs,H b=some (.tup xs)→H' b=some (.tup xs)) (frzs:∀b o u,H b=some (.frz o u)→H' b=some (.frz o u)) (tbls:∀b ps,H b=some (.tbl ps)→∃more,H' b=some (.tbl (ps++more)))
  (ns:∀m,s.heap.Ns X.env.locals m→h'.Ns X.env.locals m) (hok:HOk X.prog X.w H' h') (hg:AllBare g'):
  Inv X pins σ H' {s with heap:=h',gens:=g',drawn:=d',toks:=t'}:=by
 have neL:∀b o,X.s₀.heap.get? b=some o→b≠X.env.locals:=fun b o e=>Nat.ne_of_lt (Nat.lt_of_lt_of_le (Heap.lt_size e) I.ok.above)
 have neC:∀b o,X.s₀.heap.get? b=some o→b ∉ X.ex→b ∉ ch:=fun b o e hx hb=>by
  rcases (hch b hb).1 with z|z
  ·exact hx z
  ·exact absurd (Nat.lt_of_lt_of_le (Heap.lt_size e) z) (Nat.lt_irrefl _)
 have cellK:∀x c,X.env.cells.lookup x=some c→∀v,s.heap.IsCell c v→h'.IsCell c v:=fun x c e v ⟨o,ho,hd⟩=>by
  have nch:c ∉ ch:=fun z=>(hch c z).2.2.1 x c e rfl
  by_cases hc:c∈X.fs
  ·obtain ⟨sl,q⟩:=slot c o (I.cne x c e) hc nch ho (I.freeC x c e)
   exact ⟨_,q,hd⟩
  ·exact ⟨o,keep c o (I.cne x c e) hc nch ho (I.freeC x c e),hd⟩
 refine ⟨I.ok,I.os,hg,⟨fun b o e n hb hx=> ?_,fun b o e n hb hx=> ?_,fun b o e n hx=> ?_,fun b o e hx=> ?_,fun b xs e=>tups b xs (I.base.tups b xs e),fun b o xs e=>frzs b o xs (I.base.frzs b o xs e),fun b ps e=> ?_⟩,?_,fun x c e=> ?_,?_,fun x c e=> ?_,fun p hp=> ?_,hok,I.len⟩
 ·exact keep b o (neL b o e) hb (neC b o e hx) (I.base.keep b o e n hb hx) (I.base.free b o e n hx)
 ·obtain ⟨sl,e1⟩:=I.base.slot b o e n hb hx
  obtain ⟨sl',e2⟩:=slot b _ (neL b o e) hb (neC b o e hx) e1 (I.base.free b o e n hx)
  exact ⟨sl',e2⟩
 ·obtain ⟨o',e1⟩:=I.base.there b o e hx
  exact free b o' (neC b o e hx) e1 (I.base.free b o e n hx)
 ·obtain ⟨o',e1⟩:=I.base.there b o e hx
  exact there b o' (neC b o e hx) e1
 ·obtain ⟨m1,e1⟩:=I.base.tbls b ps e
  obtain ⟨m2,e2⟩:=tbls b _ e1
  exact ⟨m1++m2,by rw [e2,Array.append_assoc]⟩
 ·obtain ⟨m,hn,hl⟩:=I.loc
  refine ⟨m,ns m hn,fun i x v e1 e2 e3=> ?_⟩
  obtain ⟨u,r,l⟩:=hl i x v e1 e2 e3
  refine ⟨u,r,?_⟩
  rcases l with l|⟨k,c,e,z⟩
  ·exact .inl l
  ·exact .inr ⟨k,c,e,cellK x c e _ z⟩
 ·obtain ⟨v,z⟩:=I.cell x c e
  exact ⟨v,cellK x c e v z⟩
 ·obtain ⟨m,⟨o,_,_,ho,_⟩,_⟩:=I.loc
  exact free _ o (fun z=>(hch _ z).2.1 rfl) ho I.free
 ·obtain ⟨v,o,ho,hd⟩:=I.cell x c e
  exact free c o (fun z=>(hch c z).2.2.1 x c e rfl) ho (I.freeC x c e)
 ·obtain ⟨e,n,ne,nf,d⟩:=I.pin p hp
  have nch:p.1 ∉ ch:=fun z=>(hch p.1 z).2.2.2 p hp rfl
  exact ⟨keep p.1 p.2 ne nf nch e n,free p.1 p.2 nch e n,ne,nf,d⟩
theorem Inv.un {t':Nat} (I:Inv X pins σ H s) (u:Un X.fs [] H H' s.heap h') (hok:HOk X.prog X.w H' h'):Inv X pins σ H' {s with heap:=h',toks:=t'}:=by
 obtain ⟨m,⟨o,es,ep,ho,r⟩,_⟩:=id I.loc
 obtain ⟨sl,hL⟩:=u.any ho I.free (by simp)
 exact I.step (g':=s.gens) (d':=s.drawn) (ch:=[]) (fun _ z=>nomatch z) (fun b o _ hb _ e n=>u.keep b o e n hb (by simp)) (fun b o _ hb _ e n=>u.slot b o e n hb (by simp)) (fun b o _ e n=>u.free b o e n (by simp)) (fun b o _ e=>u.there b o e (by simp)) u.tups u.frzs u.tbls (fun m' hm=>by
  obtain ⟨o',es',ep',ho',r'⟩:=hm
  rw [ho] at ho';cases ho'
  exact ⟨_,es',ep',hL,r'⟩) hok I.bare
theorem Inv.call {g':Array GenState} {t':Nat} {d':Drawn} {ch:List Addr} (I:Inv X pins σ H s) (u:Un (frs X.stack) ch H H' s.heap h') (hok:HOk X.prog X.w H' h') (hg:AllBare g')
  (hch:∀b∈ch,(b∈X.ex∨X.s₀.heap.objs.size≤b)∧b≠X.env.locals∧(∀x c,X.env.cells.lookup x=some c→c≠b)∧∀p∈X.pn++pins,p.1≠b):
  Inv X pins σ H' {s with heap:=h',gens:=g',drawn:=d',toks:=t'}:=by
 obtain ⟨m,⟨o,es,ep,ho,r⟩,_⟩:=id I.loc
 obtain ⟨sl,hL⟩:=u.any ho I.free fun z=>(hch _ z).2.1 rfl
 exact I.step (ch:=ch) hch (fun b o hL hb hc e n=>u.keep b o e n (fun z=>(List.mem_cons.mp (I.stkSub b z)).elim hL hb) hc) (fun b o _ _ hc e n=>u.any e n hc) (fun b o hc e n=>u.free b o e n hc) (fun b o hc e=>u.there b o e hc) u.tups u.frzs u.tbls (fun m' hm=>by
  obtain ⟨o',es',ep',ho',r'⟩:=hm
  rw [ho] at ho';cases ho'
  exact ⟨_,es',ep',hL,r'⟩) hok hg
theorem Inv.turned {t':Nat} {it:Addr} (I:Inv X pins σ H s) (k:∀b o,b≠it→s.heap.get? b=some o→h'.get? b=some o) (hn:H it=none) (hL:it≠X.env.locals)
  (h1:it∈X.ex∨X.s₀.heap.objs.size≤it) (h2:∀x c,X.env.cells.lookup x=some c→c≠it) (h3:∀p∈X.pn++pins,p.1≠it):Inv X pins σ H {s with heap:=h',toks:=t'}:=by
 have nit:∀b u,H b=some u→b≠it:=fun b u e z=>by rw [z,hn] at e;cases e
 refine I.step (g':=s.gens) (d':=s.drawn) (ch:=[it]) (fun b hb=> ?_) (fun b o _ _ hc e _=>k b o (fun z=>hc (by simp [z])) e) (fun b o _ _ hc e _=>⟨o.slots,k b o (fun z=>hc (by simp [z])) e⟩) (fun _ _ _ _ n=>n)
  (fun b o hc e=>⟨o,k b o (fun z=>hc (by simp [z])) e⟩) (fun _ _ e=>e) (fun _ _ _ e=>e) (fun b ps e=>⟨#[],by rw [e];simp⟩) (fun m hm=> ?_) (fun b u e=> ?_) I.bare
 ·have e:b=it:=by simpa using hb
  subst e
  exact ⟨h1,hL,h2,h3⟩
 ·obtain ⟨o,es,ep,ho,r⟩:=hm
  exact ⟨o,es,ep,k _ o (Ne.symm hL) ho,r⟩
 ·refine (I.hok b u e).stay (fun c v hc q=>k c v ?_ q) (fun _ q=>q) fun _ _ q=>q
  rcases hc with z|z
  ·rw [z];exact nit b u e
  ·exact nit c _ z
theorem Inv.tok (I:Inv X pins σ H s) (t:Nat):Inv X pins σ H {s with toks:=t}:=I.un (h':=s.heap) (t':=t) Un.refl I.hok
theorem Inv.kept {t':Nat} (I:Inv X pins σ H s) (k:∀b u,s.heap.get? b=some u→h'.get? b=some u):Inv X pins σ H {s with heap:=h',toks:=t'}:=I.un (Un.kept k) (I.hok.kept k)
theorem Inv.laid {a:Addr} {o:HO} {t':Nat} (I:Inv X pins σ H s) (k:∀b u,s.heap.get? b=some u→h'.get? b=some u) (hp:s.heap.objs.size≤a) (new:ObjOk X.prog X.w (upd H a o) h' a o):
  Inv X pins σ (upd H a o) {s with heap:=h',toks:=t'}:=I.un (Un.laid k hp (I.hok.fresh hp)) (I.hok.laid k hp new)
theorem Inv.write {x e:Addr} {o:HO} {t':Nat} (I:Inv X pins σ H s) (mu:Mut (H x)) (he:e=x∨H e=some (.own x)) (k:∀b u,b≠e→s.heap.get? b=some u→h'.get? b=some u) (heo:∃u,h'.get? e=some u)
  (new:ObjOk X.prog X.w (upd H x o) h' x o):Inv X pins σ (upd H x o) {s with heap:=h',toks:=t'}:=I.un (Un.write mu he k heo) (I.hok.write mu he k heo new)
theorem Inv.pins_of {pins':List (Addr×Obj)} (I:Inv X pins σ H s) (h:∀p∈pins',s.heap.get? p.1=some p.2∧H p.1=none∧p.1≠X.env.locals∧p.1 ∉ X.fs∧∀v,p.2.data≠ .cell v):Inv X pins' σ H s:=
 ⟨I.ok,I.os,I.bare,I.base,I.loc,I.cell,I.free,I.freeC,fun p hp=>(List.mem_append.mp hp).elim (fun z=>I.pin p (List.mem_append_left _ z)) (h p),I.hok,I.len⟩
theorem nodup_ix {N:List Str} (hN:N.Nodup) {i j:Nat} {x:Str} (a:N[i]? =some x) (b:N[j]? =some x):i=j:=by
 obtain ⟨h1,e1⟩:=List.getElem?_eq_some_iff.mp a
 obtain ⟨h2,e2⟩:=List.getElem?_eq_some_iff.mp b
 exact (List.getElem_inj hN).mp (e1.trans e2.symm)
theorem store_ok2 {M:Model} {A:Around} {E:Value→Shared→Prop} {i:Nat} {x:Str} {v:V} {u:Value} {Q:Unit→Shared→Prop} (I:Inv X pins σ H s) (hN:X.N.Nodup) (hi:X.N[i]? =some x) (hx:Loc X.env.scope x) (r:RelV v u)
  (h:∀s',Inv X pins (σ.set i (some v)) H s'→(∃a,Heap.SameBut a s.heap s'.heap∧(a=X.env.locals∨X.env.cells.lookup x=some a))→Q () s') (hf:X.fn x=true∨X.env.scope.names.lookup x=some .local:=by first|exact .inl rfl|exact .inr rfl|assumption):wpAny M A (storeName X.env x u) Q E s:=by
 obtain ⟨m,hn,hl⟩:=id I.loc
 have hcls:(X.env.scope.kind== .class||(X.env.scope.kind== .module && X.env.locals !=X.env.globals))=false:=by rw [I.ok.kind];rfl
 have hiσ:i<σ.length:=by rw [I.len];exact (List.getElem?_eq_some_iff.mp hi).1
 have cne:=I.cne
 have tracked:∀{a:Addr} {h':Heap},(∃o,s.heap.get? a=some o∧H a=none)→Heap.SameBut a s.heap h'→HOk X.prog X.w H h':=fun {a h'} ha hs b ob e=>by
  obtain ⟨_,_,hfree⟩:=ha
  refine (I.hok b ob e).stay (fun c w' hc q=>(hs.2 c ?_).trans q) (fun _ q=>q) fun _ _ q=>q
  rintro rfl
  rcases hc with rfl|hc
  ·rw [hfree] at e;cases e
  ·rw [hfree] at hc;cases hc
 rcases hx with hk|hk
 ·refine wpAny_storeName_local hk hn (fun h' hn' hs=> ?_) hcls
  obtain ⟨oL,_,_,hoL,_⟩:=id hn
  refine h _ ⟨I.ok,I.os,I.bare,⟨fun b o e n hb hx=> ?_,fun b o e n hb hx=> ?_,I.base.free,fun b o e hx=> ?_,I.base.tups,I.base.frzs,I.base.tbls⟩,⟨_,hn',fun j y v' e1 e2 e3=> ?_⟩,fun y c e=> ?_,I.free,I.freeC,fun p hp=> ?_,tracked ⟨oL,hoL,I.free⟩ hs,by simpa using I.len⟩ ⟨_,hs,.inl rfl⟩
  ·exact (hs.2 b (Nat.ne_of_lt (Nat.lt_of_lt_of_le (Heap.lt_size e) I.ok.above))).trans (I.base.keep b o e n hb hx)
  ·obtain ⟨sl,e1⟩:=I.base.slot b o e n hb hx
   exact ⟨sl,(hs.2 b (Nat.ne_of_lt (Nat.lt_of_lt_of_le (Heap.lt_size e) I.ok.above))).trans e1⟩
  ·obtain ⟨o',e1⟩:=I.base.there b o e hx
   exact ⟨o',(hs.2 b (Nat.ne_of_lt (Nat.lt_of_lt_of_le (Heap.lt_size e) I.ok.above))).trans e1⟩
  ·by_cases hj:j=i
   ·subst hj
    rw [hi] at e1;cases e1
    rw [List.getElem?_set_self hiσ] at e2
    cases e2
    exact ⟨u,r,.inl ⟨hk,by simp⟩⟩
   ·rw [List.getElem?_set_ne (Ne.symm hj)] at e2
    obtain ⟨u',r',q⟩:=hl j y v' e1 e2 e3
    refine ⟨u',r',?_⟩
    rcases q with ⟨k,e⟩|⟨k,c,e,z⟩
    ·refine .inl ⟨k,?_⟩
     have:y≠x:=fun e=>hj (nodup_ix hN e1 (e▸hi))
     simp [this,e]
    ·exact .inr ⟨k,c,e,z.sameBut hs (cne y c e)⟩
  ·obtain ⟨w',z⟩:=I.cell y c e
   exact ⟨w',z.sameBut hs (cne y c e)⟩
  ·obtain ⟨e,n,ne,nf,d⟩:=I.pin p hp
   exact ⟨(hs.2 p.1 ne).trans e,n,ne,nf,d⟩
 ·have hfn:X.fn x=true:=by
   rcases hf with z|z
   ·exact z
   ·rw [z] at hk;cases hk
  obtain ⟨c,hc⟩:=I.ok.has x (.inl hk)
  obtain ⟨w',z⟩:=I.cell x c hc
  refine wpAny_storeName_cell I.ok.kind hk hc z (fun h' hc' hs=> ?_)
  obtain ⟨oc,hoc,hocd⟩:=id z
  refine h {s with heap:=h'} ⟨I.ok,I.os,I.bare,⟨fun b o e n hb hx=> ?_,fun b o e n hb hx=> ?_,I.base.free,fun b o e hx=> ?_,I.base.tups,I.base.frzs,I.base.tbls⟩,⟨m,hn.sameBut hs (Ne.symm (cne x c hc)),fun j y v' e1 e2 e3=> ?_⟩,fun y c' e=> ?_,I.free,I.freeC,fun p hp=> ?_,tracked ⟨oc,hoc,I.freeC x c hc⟩ hs,by simpa using I.len⟩ ⟨c,hs,.inr hc⟩
  ·exact (hs.2 b (Nat.ne_of_lt (Nat.lt_of_lt_of_le (Heap.lt_size e) (I.ok.cab x c hfn hc)))).trans (I.base.keep b o e n hb hx)
  ·obtain ⟨sl,e1⟩:=I.base.slot b o e n hb hx
   exact ⟨sl,(hs.2 b (Nat.ne_of_lt (Nat.lt_of_lt_of_le (Heap.lt_size e) (I.ok.cab x c hfn hc)))).trans e1⟩
  ·obtain ⟨o',e1⟩:=I.base.there b o e hx
   exact ⟨o',(hs.2 b (Nat.ne_of_lt (Nat.lt_of_lt_of_le (Heap.lt_size e) (I.ok.cab x c hfn hc)))).trans e1⟩
  ·by_cases hj:j=i
   ·subst hj
    rw [hi] at e1;cases e1
    rw [List.getElem?_set_self hiσ] at e2
    cases e2
    exact ⟨u,r,.inr ⟨.inl hk,c,hc,hc'⟩⟩
   ·rw [List.getElem?_set_ne (Ne.symm hj)] at e2
    obtain ⟨u',r',q⟩:=hl j y v' e1 e2 e3
    refine ⟨u',r',?_⟩
    rcases q with q|⟨k,c',e,z'⟩
    ·exact .inl q
    ·refine .inr ⟨k,c',e,z'.sameBut hs ?_⟩
     rintro rfl
     exact hj (nodup_ix hN e1 (I.ok.inj _ _ _ e hc▸hi))
  ·by_cases hcc:c'=c
   ·subst hcc;exact ⟨_,hc'⟩
   ·obtain ⟨w2,z2⟩:=I.cell y c' e
    exact ⟨w2,z2.sameBut hs hcc⟩
  ·obtain ⟨e,n,ne,nf,d⟩:=I.pin p hp
   refine ⟨(hs.2 p.1 ?_).trans e,n,ne,nf,d⟩
   intro q
   rw [q,hoc] at e
   have q':oc=p.2:=Option.some.inj e
   exact d w' (by rw [←q'];exact hocd)
theorem store_ok {M:Model} {A:Around} {E:Value→Shared→Prop} {i:Nat} {x:Str} {v:V} {u:Value} {Q:Unit→Shared→Prop} (I:Inv X pins σ H s) (hN:X.N.Nodup) (hi:X.N[i]? =some x) (hx:Loc X.env.scope x) (r:RelV v u)
  (h:∀s',Inv X pins (σ.set i (some v)) H s'→Q () s') (hf:X.fn x=true∨X.env.scope.names.lookup x=some .local:=by first|exact .inl rfl|exact .inr rfl|assumption):wpAny M A (storeName X.env x u) Q E s:=
 store_ok2 I hN hi hx r (fun s' I' _=>h s' I') hf
theorem Inv.call' {s':Shared} {ch:List Addr} (I:Inv X pins σ H s) (ho:s'.os=s.os) (u:Un (frs X.stack) ch H H' s.heap s'.heap) (hok:HOk X.prog X.w H' s'.heap) (hg:AllBare s'.gens)
  (hch:∀b∈ch,(b∈X.ex∨X.s₀.heap.objs.size≤b)∧b≠X.env.locals∧(∀x c,X.env.cells.lookup x=some c→c≠b)∧∀p∈X.pn++pins,p.1≠b):Inv X pins σ H' s':=by
 obtain ⟨h',g',d',t',o'⟩:=s'
 have e:o'=s.os:=ho
 subst e
 exact I.call (g':=g') (t':=t') (d':=d') u hok hg hch
end
abbrev XK:=Value→Option Addr→Hp→Prop
abbrev St:=List (Option V)
abbrev VK:=V→Hp→Prop
abbrev TE:=St→Hp→VK→Prop
abbrev TT:=St→Hp→(Bool→Hp→Prop)→Prop
abbrev TA:=St→Hp→(List V→Hp→Prop)→Prop
structure Ends where
 nx:St→Hp→Prop
 rt:VK
 bk:St→Hp→Prop:=fun _ _=>False
 ct:St→Hp→Prop:=fun _ _=>False
abbrev TS:=Ends→St→Hp→Prop
def EP (X:Cx) (pins:List (Addr×Obj)) (σ:St) (Q:VK) (u:Value) (s':Shared):Prop:=∃v H',Inv X pins σ H' s'∧RelV v u∧Q v H'
def TP (X:Cx) (pins:List (Addr×Obj)) (σ:St) (Q:Bool→Hp→Prop) (b:Bool) (s':Shared):Prop:=∃H',Inv X pins σ H' s'∧Q b H'
def AP (X:Cx) (pins:List (Addr×Obj)) (σ:St) (Q:List V→Hp→Prop) (us:List Value) (s':Shared):Prop:=∃vs H',Inv X pins σ H' s'∧Vals vs us∧Q vs H'
def SP (X:Cx) (pins:List (Addr×Obj)) (D:Ends) (f:Flow) (s':Shared):Prop:=
 match f with
 | .next=>∃σ' H',Inv X pins σ' H' s'∧D.nx σ' H'
 | .brk=>∃σ' H',Inv X pins σ' H' s'∧D.bk σ' H'
 | .cont=>∃σ' H',Inv X pins σ' H' s'∧D.ct σ' H'
 | .ret u=>∃v σ' H',Inv X pins σ' H' s'∧RelV v u∧D.rt v H'
def PE (X:Cx) (e:Expr) (t:TE):Prop:=
 ∀(pins:List (Addr×Obj)) (s:Shared) (σ:St) (H:Hp) (Q:VK),Inv X pins σ H s→t σ H Q→wpAny (model X.prog X.w) X.A (eval e X.env) (EP X pins σ Q) X.xe s
def PT (X:Cx) (e:Expr) (t:TT):Prop:=
 ∀(pins:List (Addr×Obj)) (s:Shared) (σ:St) (H:Hp) (Q:Bool→Hp→Prop),Inv X pins σ H s→t σ H Q→wpAny (model X.prog X.w) X.A (isTrue e X.env (eval e X.env)) (TP X pins σ Q) X.xe s
def PW (X:Cx) (e:Expr) (t:TT):Prop:=
 ∀(whole:Sem Value) (pins:List (Addr×Obj)) (s:Shared) (σ:St) (H:Hp) (Q:Bool→Hp→Prop),Inv X pins σ H s→t σ H Q→wpAny (model X.prog X.w) X.A (isTrue e X.env whole) (TP X pins σ Q) X.xe s
theorem PW.pt {X:Cx} {e:Expr} {t:TT} (h:PW X e t):PT X e t:=h _
def PA (X:Cx) (es:List Expr) (t:TA):Prop:=
 ∀(pos:Pos) (pins:List (Addr×Obj)) (s:Shared) (σ:St) (H:Hp) (Q:List V→Hp→Prop),Inv X pins σ H s→t σ H Q→wpAny (model X.prog X.w) X.A (spliced (backTo pos (starEach es X.env))) (AP X pins σ Q) X.xe s
def PS (X:Cx) (st:Stmt) (t:TS):Prop:=
 ∀(pins:List (Addr×Obj)) (s:Shared) (σ:St) (H:Hp) (D:Ends),Inv X pins σ H s→t D σ H→wpAny (model X.prog X.w) X.A (exec st X.env) (SP X pins D) X.xe s
def PSs (X:Cx) (st:List Stmt) (t:TS):Prop:=
 ∀(pins:List (Addr×Obj)) (s:Shared) (σ:St) (H:Hp) (D:Ends),Inv X pins σ H s→t D σ H→wpAny (model X.prog X.w) X.A (execs st X.env) (SP X pins D) X.xe s
theorem thn {α:Type} {t:Sem α} {Q Q':α→Shared→Prop} {M:Model} {A:Around} {E:Value→Shared→Prop} {s:Shared} (h:wpAny M A t Q E s) (hQ:∀a s,Q a s→Q' a s):wpAny M A t Q' E s:=wpAny_mono h hQ fun _ _ x=>x
end L2
namespace L2
open PySem PySem.Spec PyProof.Rows
section
variable {X:Cx}
inductive TVarP (i:Nat) (σ:St) (H:Hp) (Q:VK):Prop
 |mk (v:_):(σ[i]? =some (some v))→(Q v H)→TVarP i σ H Q
def tVar (i:Nat):TE:=fun σ H Q=>TVarP i σ H Q
def tC (v:V):TE:=fun _ H Q=>Q v H
theorem pe_var {i:Nat} {x:Str} {pos:Pos} (hN:X.N[i]? =some x) (hv:Vis X.env.scope x) (hd:(x==("__debug__":Str))=false:=by decide) (hcd:(x==("__classdict__":Str))=false:=by decide):PE X (.Name x pos) (tVar i):=by
 intro pins s σ H Q I h
 obtain ⟨v,e,h⟩:=h
 obtain ⟨m,hn,hl⟩:=I.loc
 obtain ⟨u,r,l⟩:=hl i x v hN e hv
 have fin:EP X pins σ Q u s:=⟨v,H,I,r,h⟩
 rcases l with ⟨hk,hm⟩|⟨hk,c,hc,hcell⟩
 ·exact wpAny_Name (wpAny_loadName_local I.ok.kind hk hn hm fin) hd
 ·rcases hk with hk|hk
  ·exact wpAny_Name (wpAny_loadName_cell I.ok.kind hk hc hcell fin) hd
  ·exact wpAny_Name (wpAny_loadName_free I.ok.kind hk hc hcell fin hcd) hd
theorem Ag {i j pos}:PE X (.Constant (.int i) j pos) (tC (.int i)):=fun _ _ _ H _ I h=>wpAny_Constant_int ⟨.int i,H,I.tok _,⟨_,rfl⟩,h⟩
theorem Ci {b j pos}:PE X (.Constant (.bool b) j pos) (tC (.bl b)):=fun _ _ _ H _ I h=>Constant_bool ⟨.bl b,H,I,rfl,h⟩
theorem Bk {j pos}:PE X (.Constant .none j pos) (tC .non):=fun _ _ _ H _ I h=>Constant_none ⟨.non,H,I,rfl,h⟩
theorem Cy {x j pos}:PE X (.Constant (.str x) j pos) (tC (.str x)):=fun _ _ _ H _ I h=>Calls.Constant_str ⟨.str x,H,I.tok _,⟨_,rfl⟩,h⟩
def Gl (X:Cx) (x:Str):Prop:=X.env.kindOf x=some .globalImplicit
theorem ld_glob {E:Value→Shared→Prop} {pins:List (Addr×Obj)} {s:Shared} {σ:St} {H:Hp} {x:Str} {u:Value} {pos:Pos} {Q:Value→Shared→Prop} (I:Inv X pins σ H s) (hg:Gl X x) (hm:X.mg x=some u) (h:Q u s)
  (hd:(x==("__debug__":Str))=false:=by decide):wpAny (model X.prog X.w) X.A (eval (.Name x pos) X.env) Q E s:=
 Calls.Name_function_global I.ok.kind hg (Calls.loadGlobal_global (by rw [I.ok.glob];exact I.mod.glob.keeps I.bk) hm h) hd
theorem ld_blt {E:Value→Shared→Prop} {pins:List (Addr×Obj)} {s:Shared} {σ:St} {H:Hp} {x:Str} {u:Value} {pos:Pos} {Q:Value→Shared→Prop} (I:Inv X pins σ H s) (hg:Gl X x) (hm:X.mg x=none) (hv:bootBuiltins x=some u) (h:Q u s)
  (hn:x≠"__name__":=by decide) (hd:(x==("__debug__":Str))=false:=by decide):wpAny (model X.prog X.w) X.A (eval (.Name x pos) X.env) Q E s:=by
 obtain ⟨mb,h1,h2⟩:=I.mod.blt
 exact Calls.Name_function_global I.ok.kind hg (Calls.loadGlobal_builtin (by rw [I.ok.glob];exact I.mod.glob.keeps I.bk) hm (by rw [I.ok.blt];exact h1.keeps I.bk) ((h2 x hn).trans hv) h) hd
variable {a b:Expr} {ta tb:TE} {pos:Pos}
inductive BlP (x:V) (H:Hp) (Q:Bool→Hp→Prop):Prop
 |mk (c:Bool):(x= .bl c)→(Q c H)→BlP x H Q
def tB (t:TE):TT:=fun σ H Q=>t σ H fun x H1=>BlP x H1 Q
theorem A9 {e:Expr} {t:TE} (h:PE X e t) (he:∀whole,isTrue e X.env whole=(do let v ←whole;standAt e.pos;holding [v] (truthy v)):=by intro _;rfl):PT X e (tB t):=by
 intro pins s σ H Q I hw
 refine isTrue_plain (thn (h pins s σ H _ I hw) fun v s1 ⟨x,H1,I1,r1,q1⟩=> ?_) (he _)
 obtain ⟨d,rfl,q⟩:=q1
 cases r1
 exact wpAny_truthy_bool ⟨H1,I1,q⟩
variable {tA tB':TT} {rest:List Expr}
def tAnd (t u:TT):TT:=fun σ H Q=>t σ H fun c H1=>if c=true then u σ H1 Q else Q false H1
def tOr (t u:TT):TT:=fun σ H Q=>t σ H fun c H1=>if c=true then Q true H1 else u σ H1 Q
def tNot (t:TT):TT:=fun σ H Q=>t σ H fun c H1=>Q (!c) H1
theorem pw_and1 (ha:PT X a tA):PW X (.BoolOp .And [a] pos) tA:=by
 intro wh pins s σ H Q I h
 refine isTrue_and (thn (ha pins s σ H Q I h) fun c s1 e=> ?_)
 cases c with
 |true=>exact isTrue_and_nil e
 |false=>exact e
theorem By (ha:PT X a tA):PW X (.BoolOp .Or [a] pos) tA:=by
 intro wh pins s σ H Q I h
 refine isTrue_or (thn (ha pins s σ H Q I h) fun c s1 e=> ?_)
 cases c with
 |false=>exact isTrue_or_nil e
 |true=>exact e
theorem pw_and (ha:PT X a tA) (hb:PW X (.BoolOp .And (b::rest) pos) tB'):PW X (.BoolOp .And (a::b::rest) pos) (tAnd tA tB'):=by
 intro wh pins s σ H Q I h
 refine isTrue_and (thn (ha pins s σ H _ I h) fun c s1 ⟨H1,I1,q1⟩=> ?_)
 cases c with
 |true=>exact hb wh pins s1 σ H1 Q I1 q1
 |false=>exact ⟨H1,I1,q1⟩
theorem Co (ha:PT X a tA) (hb:PW X (.BoolOp .Or (b::rest) pos) tB'):PW X (.BoolOp .Or (a::b::rest) pos) (tOr tA tB'):=by
 intro wh pins s σ H Q I h
 refine isTrue_or (thn (ha pins s σ H _ I h) fun c s1 ⟨H1,I1,q1⟩=> ?_)
 cases c with
 |true=>exact ⟨H1,I1,q1⟩
 |false=>exact hb wh pins s1 σ H1 Q I1 q1
theorem Cs (ha:PT X a tA):PT X (.UnaryOp .Not a pos) (tNot tA):=by
 intro pins s σ H Q I h
 exact isTrue_not (ha pins s σ H (fun c H1=>Q (!c) H1) I h)
def tAndV (ta tb:TE):TE:=fun σ H Q=>ta σ H fun x H1=>∃c,x= .bl c∧if c=true then tb σ H1 Q else Q (.bl false) H1
theorem C2 {op} {t:TE} (h:PE X a t):PE X (.BoolOp op [a] pos) t:=fun pins s σ H Q I hw=>BoolOp_one (h pins s σ H Q I hw)
theorem Ca (ha:PE X a ta) (hb:PE X (.BoolOp .And (b::rest) pos) tb):PE X (.BoolOp .And (a::b::rest) pos) (tAndV ta tb):=by
 intro pins s σ H Q I h
 refine BoolOp_and (thn (ha pins s σ H _ I h) fun v s1 ⟨x,H1,I1,r1,q1⟩=> ?_)
 obtain ⟨c,rfl,q1⟩:=q1
 cases r1
 refine wpAny_truthy_bool ?_
 cases c with
 |true=>exact hb pins s1 σ H1 Q I1 q1
 |false=>exact ⟨.bl false,H1,I1,rfl,q1⟩
def tIf (t:TT) (ta tb:TE):TE:=fun σ H Q=>t σ H fun c H1=>if c=true then ta σ H1 Q else tb σ H1 Q
theorem pe_ifExp {c:Expr} (hc:PT X c tA) (ha:PE X a ta) (hb:PE X b tb):PE X (.IfExp c a b pos) (tIf tA ta tb):=by
 intro pins s σ H Q I h
 refine wpAny_IfExp (thn (hc pins s σ H _ I h) fun d s1 ⟨H1,I1,q1⟩=> ?_)
 cases d with
 |true=>exact ha pins s1 σ H1 Q I1 q1
 |false=>exact hb pins s1 σ H1 Q I1 q1
end
end L2
namespace L2
open PySem PySem.Spec PyProof.Rows
def SqL (K:PySem.W.Frag) (H:Hp) (a:Addr) (xs:List V):Prop:=
 Rd H a (.lst xs)∨
  ∃(o:Obj) (its:Array Value) (n:Nat),K.lookup a=some o∧o.cls= .type "list"∧o.dict=none∧o.data= .seq its n∧its.size≤sizeLine∧Vals xs its.toList
def SqT (K:PySem.W.Frag) (H:Hp) (a:Addr) (xs:List V):Prop:=
 Rd H a (.tup xs)∨
  ∃(o:Obj) (its:Array Value) (n:Nat),K.lookup a=some o∧o.cls= .type "tuple"∧o.data= .seq its n∧its.size≤sizeLine∧Vals xs its.toList
def absV:Value→Option V
 | .none=>some .non
 | .bool b=>some (.bl b)
 | .int i _=>some (.int i)
 | .str x _=>some (.str x)
 | .bytes b _=>some (.byt b)
 | .float b _=>some (.flt b)
 | .ref a=>some (.ref a)
 | .type n=>some (.ty n)
 |_=>none
theorem RelV.abs {x:V} {u:Value} (r:RelV x u):absV u=some x:=by
 cases x with
 |non=>cases r;rfl
 |bl _=>cases r;rfl
 |int _=>obtain ⟨t,rfl⟩:=r;rfl
 |str _=>obtain ⟨t,rfl⟩:=r;rfl
 |byt _=>obtain ⟨t,rfl⟩:=r;rfl
 |flt _=>obtain ⟨t,rfl⟩:=r;rfl
 |ref _=>cases r;rfl
 |ty _=>cases r;rfl
theorem RelV.inj {x y:V} {u:Value} (r:RelV x u) (q:RelV y u):x=y:=Option.some.inj (r.abs.symm.trans q.abs)
theorem Vals.inj:∀{xs ys:List V} {us:List Value},Vals xs us→Vals ys us→xs=ys
 |_,_,_,.nil,.nil=>rfl
 |_,_,_,.cons r t,.cons r' t'=>by rw [r.inj r',Vals.inj t t']
section
variable {X:Cx} {pins:List (Addr×Obj)} {σ:St} {H:Hp} {s:Shared} {a:Addr} {xs ys:List V}
theorem SqL.of {K:PySem.W.Frag} (h:H a=some (.lst xs)):SqL K H a xs:= .inl (.inl h)
theorem SqT.of {K:PySem.W.Frag} (h:H a=some (.tup xs)):SqT K H a xs:= .inl (.inl h)
theorem Inv.list (I:Inv X pins σ H s) (h:SqL X.K H a xs):∃its:List Value,Vals xs its∧PlainL s.heap a its.toArray∧xs.length≤sizeLine:=by
 rcases h with h|⟨o,its,n,hk,hc,hd,hs,hz,r⟩
 ·obtain ⟨z,its,n,r,e⟩:=h.ok I.hok
  exact ⟨its,r,⟨_,n,e,rfl,rfl,rfl⟩,z⟩
 ·refine ⟨its.toList,r,⟨o,n,I.kIn a o hk,hc,hd,by simpa using hs⟩,?_⟩
  have e:=r.length
  simp only [Array.length_toList] at e
  omega
theorem Inv.tuple (I:Inv X pins σ H s) (h:SqT X.K H a xs):∃its:List Value,Vals xs its∧IsTup s.heap a its.toArray∧xs.length≤sizeLine:=by
 rcases h with h|⟨o,its,n,hk,hc,hs,hz,r⟩
 ·obtain ⟨z,its,r,p⟩:=h.ok I.hok
  exact ⟨its,r,p.tup,z⟩
 ·refine ⟨its.toList,r,⟨o,I.kIn a o hk,hc,n,by simpa using hs⟩,?_⟩
  have e:=r.length
  simp only [Array.length_toList] at e
  omega
theorem Inv.list_inj (I:Inv X pins σ H s) (h:SqL X.K H a xs) (h':SqL X.K H a ys):xs=ys:=by
 obtain ⟨its,r,⟨o,n,e,_,_,d⟩,_⟩:=I.list h
 obtain ⟨its',r',⟨o',n',e',_,_,d'⟩,_⟩:=I.list h'
 rw [e] at e';cases e'
 rw [d] at d'
 injection d' with d1 _
 have:its=its':=by simpa using congrArg Array.toList d1
 subst this
 exact r.inj r'
theorem Inv.tuple_inj (I:Inv X pins σ H s) (h:SqT X.K H a xs) (h':SqT X.K H a ys):xs=ys:=by
 obtain ⟨its,r,⟨o,e,_,n,d⟩,_⟩:=I.tuple h
 obtain ⟨its',r',⟨o',e',_,n',d'⟩,_⟩:=I.tuple h'
 rw [e] at e';cases e'
 rw [d] at d'
 injection d' with d1 _
 have:its=its':=by simpa using congrArg Array.toList d1
 subst this
 exact r.inj r'
end
abbrev Cx.wish (X:Cx) (E:Value→Shared→Prop):Cx:={X with xe:=E}
abbrev Cx.nox (X:Cx):Cx:=X.wish fun _ _=>False
theorem Cx.Ok.wish {X:Cx} (ok:X.Ok) (E:Value→Shared→Prop):(X.wish E).Ok:=
 ⟨ok.mod,ok.kind,ok.glob,ok.blt,ok.above,ok.inj,ok.has,ok.cab,ok.hd,ok.frames,ok.stk,ok.exf,ok.bs,ok.bsz,ok.noex,ok.exfs,ok.funs,ok.frf⟩
theorem Cx.Ok.unwish {X:Cx} {E:Value→Shared→Prop} (ok:(X.wish E).Ok):X.Ok:=
 ⟨ok.mod,ok.kind,ok.glob,ok.blt,ok.above,ok.inj,ok.has,ok.cab,ok.hd,ok.frames,ok.stk,ok.exf,ok.bs,ok.bsz,ok.noex,ok.exfs,ok.funs,ok.frf⟩
section
variable {X:Cx} {pins:List (Addr×Obj)} {σ:St} {H:Hp} {s:Shared} {E:Value→Shared→Prop}
theorem Inv.wish (I:Inv X pins σ H s) (E:Value→Shared→Prop):Inv (X.wish E) pins σ H s:=⟨I.ok.wish E,I.os,I.bare,I.base,I.loc,I.cell,I.free,I.freeC,I.pin,I.hok,I.len⟩
theorem Inv.unwish (I:Inv (X.wish E) pins σ H s):Inv X pins σ H s:=⟨I.ok.unwish,I.os,I.bare,I.base,I.loc,I.cell,I.free,I.freeC,I.pin,I.hok,I.len⟩
theorem SP.unwish {D:Ends} {f:Flow} {s':Shared} (h:SP (X.wish E) pins D f s'):SP X pins D f s':=by
 cases f with
 |next=>obtain ⟨σ',H',I,q⟩:=h;exact ⟨σ',H',I.unwish,q⟩
 |brk=>obtain ⟨σ',H',I,q⟩:=h;exact ⟨σ',H',I.unwish,q⟩
 |cont=>obtain ⟨σ',H',I,q⟩:=h;exact ⟨σ',H',I.unwish,q⟩
 |ret u=>obtain ⟨v,σ',H',I,r,q⟩:=h;exact ⟨v,σ',H',I.unwish,r,q⟩
theorem PSs.nox {st:List Stmt} {t:TS} (h:PSs X.nox st t):PSs X st t:=fun pins s σ H D I hw=>
 wpAny_mono (h pins s σ H D (I.wish _) hw) (fun _ _ q=>q.unwish) fun _ _ z=>False.elim z
end
section
variable {X:Cx} {st:Stmt} {rest:List Stmt} {t u:TS} {e:Expr} {te:TE} {pos:Pos}
def Bh:TS:=fun D σ H=>D.nx σ H
def tSeq (t u:TS):TS:=fun D σ H=>t {D with nx:=u D} σ H
theorem Av:PSs X [] Bh:=fun _ _ σ H _ I h=>wpAny_execs_nil ⟨σ,H,I,h⟩
theorem Ae (h1:PS X st t) (h2:PSs X rest u):PSs X (st::rest) (tSeq t u):=by
 intro pins s σ H D I h
 refine wpAny_execs_cons (thn (h1 pins s σ H {D with nx:=u D} I h) fun f s1 q=> ?_)
 cases f with
 |next=>
  obtain ⟨σ',H',I',q⟩:=q
  exact h2 pins s1 σ' H' D I' q
 |ret v=>exact q
 |brk=>exact q
 |cont=>exact q
theorem Ah (h1:PS X st t):PSs X [st] t:=by
 intro pins s σ H D I h
 refine wpAny_execs_cons (thn (h1 pins s σ H D I h) fun f s1 q=> ?_)
 cases f with
 |next=>exact wpAny_execs_nil q
 |ret v=>exact q
 |brk=>exact q
 |cont=>exact q
def tBreak:TS:=fun D σ H=>D.bk σ H
theorem ps_break:PS X (.Break pos) tBreak:=fun _ _ σ H _ I h=>wpAny_Break ⟨σ,H,I,h⟩
theorem Inv.quiet {pins:List (Addr×Obj)} {σ:St} {H:Hp} {s:Shared} (I:Inv X pins σ H s):interactive X.env=false:=by simp [interactive,I.ok.kind]
def tDrop (te:TE):TS:=fun D σ H=>te σ H fun _ H1=>D.nx σ H1
theorem Cp (he:PE X e te) (hs:swapsWith e none pos.line X.env=pure false:=by rfl):PS X (.Expr e pos) (tDrop te):=by
 intro pins s σ H D I h
 exact wpAny_Expr_any (thn (he pins s σ H _ I h) fun v s1 ⟨x,H1,I1,r1,q1⟩=>⟨σ,H1,I1,q1⟩) I.quiet hs
def tRet (te:TE):TS:=fun D σ H=>te σ H D.rt
theorem As (he:PE X e te):PS X (.Return (some e) pos) (tRet te):=by
 intro pins s σ H D I h
 exact wpAny_Return_some (thn (he pins s σ H _ I h) fun v s1 ⟨x,H1,I1,r1,q1⟩=>⟨x,σ,H1,I1,r1,q1⟩)
def tIfS (c:TT) (t u:TS):TS:=fun D σ H=>c σ H fun b H1=>if b=true then t D σ H1 else u D σ H1
theorem A8 {c:Expr} {a b:List Stmt} {tc:TT} (hc:PT X c tc) (ha:PSs X a t) (hb:PSs X b u):PS X (.If c a b pos) (tIfS tc t u):=by
 intro pins s σ H D I h
 refine wpAny_If (thn (hc pins s σ H _ I h) fun d s1 ⟨H1,I1,q1⟩=> ?_)
 cases d with
 |true=>exact ha pins s1 σ H1 D I1 q1
 |false=>exact hb pins s1 σ H1 D I1 q1
def tNever:TS:=fun _ _ _=>False
theorem ps_never:PS X st tNever:=fun _ _ _ _ _ _ h=>h.elim
end
abbrev TG:=V→St→Hp→(St→Hp→Prop)→Prop
abbrev TGs:=List V→St→Hp→(St→Hp→Prop)→Prop
def PG (X:Cx) (target:Expr) (t:TG):Prop:=
 ∀(pins:List (Addr×Obj)) (s:Shared) (σ:St) (H:Hp) (v:V) (u:Value) (Q:St→Hp→Prop),Inv X pins σ H s→RelV v u→t v σ H Q→
  wpAny (model X.prog X.w) X.A (assign target X.env u) (fun _ s'=>∃σ' H',Inv X pins σ' H' s'∧Q σ' H') X.xe s
def PGs (X:Cx) (ts:List Expr) (t:TGs):Prop:=
 ∀(pins:List (Addr×Obj)) (s:Shared) (σ:St) (H:Hp) (vs:List V) (us:List Value) (Q:St→Hp→Prop),Inv X pins σ H s→Vals vs us→t vs σ H Q→
  wpAny (model X.prog X.w) X.A (assignInOrder ((assignEach ts X.env).map (·.2)) us) (fun _ s'=>∃σ' H',Inv X pins σ' H' s'∧Q σ' H') X.xe s
abbrev TSet:=V→V→V→Hp→(Hp→Prop)→Prop
def PSet (X:Cx) (t:TSet):Prop:=
 ∀(pins:List (Addr×Obj)) (s:Shared) (σ:St) (H:Hp) (o i v:V) (ov iv u:Value) (Q:Hp→Prop),Inv X pins σ H s→RelV o ov→RelV i iv→RelV v u→t o i v H Q→
  wpAny (model X.prog X.w) X.A (setItem ov iv u) (fun _ s'=>∃H',Inv X pins σ H' s'∧Q H') X.xe s
section
variable {X:Cx} {pos:Pos}
def gName (i:Nat):TG:=fun v σ H Q=>Q (σ.set i (some v)) H
theorem Aj {i:Nat} {x:Str} (hN:X.N.Nodup) (hi:X.N[i]? =some x) (hx:Loc X.env.scope x) (hf:X.fn x=true∨X.env.scope.names.lookup x=some .local:=by first|exact .inl rfl|exact .inr rfl|assumption):PG X (.Name x pos) (gName i):=by
 intro pins s σ H v u Q I r h
 exact wpAny_assign_Name (store_ok I hN hi hx r (fun s' I'=>⟨_,H,I',h⟩) hf)
def gNil:TGs:=fun vs σ H Q=>vs=[]∧Q σ H
def gCons (t:TG) (u:TGs):TGs:=fun vs σ H Q=>∃v r,vs=v::r∧t v σ H fun σ' H'=>u r σ' H' Q
theorem Cc:PGs X [] gNil:=by
 intro pins s σ H vs us Q I r h
 obtain ⟨e,h⟩:=h
 subst e
 cases r
 exact assignInOrder_nil ⟨σ,H,I,h⟩
theorem Ar {e:Expr} {es:List Expr} {t:TG} {u:TGs} (h1:PG X e t) (h2:PGs X es u)
  (hs:(assignEach (e::es) X.env).map (·.2)=assign e X.env::(assignEach es X.env).map (·.2):=by rfl):PGs X (e::es) (gCons t u):=by
 intro pins s σ H vs us Q I r h
 obtain ⟨v,vr,e1,h⟩:=h
 subst e1
 cases r with
 |cons r rr=>
  rw [hs]
  refine assignInOrder_cons (thn (h1 pins s σ H _ _ _ I r h) fun _ s1 ⟨σ1,H1,I1,q1⟩=> ?_)
  exact h2 pins s1 σ1 H1 _ _ Q I1 rr q1
def gTup (K:PySem.W.Frag) (n:Nat) (t:TGs):TG:=fun v σ H Q=>∃a xs,v= .ref a∧SqT K H a xs∧xs.length=n∧t xs σ H Q
theorem pg_tup {es:List Expr} {k:Nat} {t:TGs} {n:Nat} (hc:X.calm=true) (h:PGs X es t)
  (hn:(assignEach es X.env).length=n:=by rfl) (hst:(assignEach es X.env).findIdx? (·.1)=none:=by rfl):PG X (.Tuple es k pos) (gTup X.K n t):=by
 intro pins s σ H v u Q I r hw
 obtain ⟨a,xs,e1,hq,hl,hw⟩:=hw
 subst e1
 cases r
 obtain ⟨its,rv,ht,hz⟩:=I.tuple hq
 refine assign_Tuple_tuple (I.ok.hd hc) ht (by simp [hn,←hl,rv.length]) hst fun h' hx=> ?_
 have I1:Inv X pins σ H {s with heap:=h'}:=I.kept (t':=s.toks) fun b o e=>hx b o (Nat.ne_of_lt (Heap.lt_size e)) e
 exact h pins _ σ H xs _ Q I1 (by simpa using rv) hw
def gSub (to ti:TE) (t:TSet):TG:=fun v σ H Q=>to σ H fun o H1=>ti σ H1 fun i H2=>t o i v H2 fun H3=>Q σ H3
theorem pg_sub {o i:Expr} {to ti:TE} {t:TSet} (ho:PE X o to) (hi:PE X i ti) (hs:PSet X t)
  (ha:∀v,assign (.Subscript o i pos) X.env v=(do
   let ov ←holding [v] (eval o X.env)
   let iv ←holding [v,ov] (eval i X.env)
   standAt pos
   holding [v,ov,iv] (setItem ov iv v)
   release [v,ov,iv] []):=by intro _;rfl):PG X (.Subscript o i pos) (gSub to ti t):=by
 intro pins s σ H v u Q I r h
 rw [ha]
 refine wpAny_bind (wpAny_holding (thn (ho pins s σ H _ I h) fun ov s1 ⟨x,H1,I1,r1,q1⟩=> ?_))
 refine wpAny_bind (wpAny_holding (thn (hi pins s1 σ H1 _ I1 q1) fun iv s2 ⟨y,H2,I2,r2,q2⟩=> ?_))
 refine wpAny_bind (wpAny_standAt (wpAny_bind (wpAny_holding (thn (hs pins s2 σ H2 x y v ov iv u _ I2 r1 r2 r q2) fun _ s3 ⟨H3,I3,q3⟩=> ?_))))
 exact wpAny_release ⟨σ,H3,I3,q3⟩
def tAsg (te:TE) (g:TG):TS:=fun D σ H=>te σ H fun x H1=>g x σ H1 D.nx
theorem ps_asg {tg e:Expr} {te:TE} {g:TG} (he:PE X e te) (hg:PG X tg g) (hs:swapsWithSole [tg] e pos.line X.env=pure false:=by rfl) (hw:swappedStores [tg] e X.env=pure none:=by rfl)
  (h1:(assignEach [tg] X.env).map (·.2)=[assign tg X.env]:=by rfl):PS X (.Assign [tg] e pos) (tAsg te g):=by
 intro pins s σ H D I h
 refine wpAny_Assign_stores (thn (he pins s σ H _ I h) fun v s1 ⟨x,H1,I1,r1,q1⟩=> ?_) hs hw
 rw [h1]
 exact thn (hg pins s1 σ H1 x v _ I1 r1 q1) fun _ s2 q=>q
theorem Au {i:Nat} {x:Str} {e:Expr} {te:TE} {pos':Pos} (hN:X.N.Nodup) (hi:X.N[i]? =some x) (hx:Loc X.env.scope x) (he:PE X e te) (hs:swapsWith e (some (.Name x pos')) pos.line X.env=pure false:=by rfl) (hf:X.fn x=true∨X.env.scope.names.lookup x=some .local:=by first|exact .inl rfl|exact .inr rfl|assumption):
  PS X (.Assign [.Name x pos'] e pos) (tAsg te (gName i)):=by
 intro pins s σ H D I h
 refine wpAny_Assign_Name (thn (he pins s σ H _ I h) fun v s1 ⟨y,H1,I1,r1,q1⟩=> ?_) hs
 exact store_ok I1 hN hi hx r1 (fun s2 I2=>⟨_,H1,I2,q1⟩) hf
end
section
variable {X:Cx} {pos:Pos}
def tWhile (c:TT) (tb:TS):TS:=fun D σ H=>∃W:Nat→St→Hp→Prop,(∃m,W m σ H)∧∀m σ H,W m σ H→
 c σ H fun b H1=>if b=true then ∃N:St→Hp→Prop,(∀σ' H',N σ' H'→∃m',m'<m∧W m' σ' H')∧tb {D with nx:=N,ct:=N,bk:=D.nx} σ H1 else D.nx σ H1
theorem ps_while {c:Expr} {body:List Stmt} {tc:TT} {tb:TS} (hp:PassesOwn (model X.prog X.w) X.A X.env X.xe) (hc:PT X c tc) (hb:PSs X body tb):PS X (.While c body [] pos) (tWhile tc tb):=by
 intro pins s σ H D I h
 obtain ⟨W,⟨m0,w0⟩,turn⟩:=h
 refine wpAny_While (codeAny_whileLoop (fun n s'=>∃σ' H',Inv X pins σ' H' s'∧W n σ' H') ?_ m0 ⟨σ,H,I,w0⟩)
 rintro n s1 ⟨σ1,H1,I1,w1⟩
 refine wpAny_passesOwn hp (thn (hc pins s1 σ1 H1 _ I1 (turn n σ1 H1 w1)) fun b s2 ⟨H2,I2,q2⟩=> ?_)
 cases b with
 |true=>
  obtain ⟨N,hN,q2⟩:=q2
  rw [if_pos rfl]
  refine wpAny_passesOwn hp (thn (hb pins s2 σ1 H2 _ I2 q2) fun f s3 q3=> ?_)
  cases f with
  |next=>
   obtain ⟨σ3,H3,I3,n3⟩:=q3
   obtain ⟨m',hm,w3⟩:=hN σ3 H3 n3
   exact ⟨m',hm,σ3,H3,I3,w3⟩
  |cont=>
   obtain ⟨σ3,H3,I3,n3⟩:=q3
   obtain ⟨m',hm,w3⟩:=hN σ3 H3 n3
   exact ⟨m',hm,σ3,H3,I3,w3⟩
  |brk=>exact q3
  |ret v=>exact q3
 |false=>
  rw [if_neg Bool.false_ne_true]
  exact wpAny_execs_nil ⟨σ1,H2,I2,q2⟩
end
structure It where
 go:Nat→Hp→Prop
 yld:Nat→Hp→V→Hp→Prop
 stop:Nat→Hp→Prop
def FpOk (X:Cx) (pins:List (Addr×Obj)) (H:Hp) (b:Addr):Prop:=
 H b=none∧b≠X.env.locals∧b ∉ X.fs∧(b∈X.ex∨X.s₀.heap.objs.size≤b)∧(∀x c,X.env.cells.lookup x=some c→c≠b)∧∀p∈X.pn++pins,p.1≠b
theorem Inv.fpOk {X:Cx} {pins:List (Addr×Obj)} {σ:St} {H H':Hp} {s:Shared} {b:Addr} (I:Inv X pins σ H s) (hb:s.heap.objs.size≤b) (hn:H' b=none):FpOk X pins H' b:=by
 refine ⟨hn,Nat.ne_of_gt (Nat.lt_of_lt_of_le I.lt hb),I.nofs hb,.inr (Nat.le_trans I.sz hb),fun x c e z=> ?_,fun p hp z=> ?_⟩
 ·obtain ⟨v,q⟩:=I.cell x c e
  exact absurd (Nat.lt_of_lt_of_le q.lt (by rw [z];exact hb)) (Nat.lt_irrefl _)
 ·exact absurd (Nat.lt_of_lt_of_le (Heap.lt_size (I.pin p hp).1) (by rw [z];exact hb)) (Nat.lt_irrefl _)
structure Turn (P:Program) (w:World) (K:PySem.W.Frag) (tg:Expr) (J:It) (fp:List Addr) (it:Addr) (tn:Nat→Heap→Prop):Prop where
 mem:it∈fp
 obj:∀i h,tn i h→∀b∈fp,∃o,h.get? b=some o∧∀v,o.data≠ .cell v
 keep:∀i h h',tn i h→(∀b∈fp,∀o,h.get? b=some o→h'.get? b=some o)→tn i h'
 item:∀(X:Cx),X.prog=P→X.w=w→X.K=K→X.calm=true→∀(i:Nat) (pins:List (Addr×Obj)) (s:Shared) (σ:St) (H:Hp) (E:Value→Shared→Prop),Inv X pins σ H s→(∀b∈fp,FpOk X pins H b)→tn i s.heap→J.go i H→
  wpAny (model P w) X.A (pyNext (.ref it)) (fun r s1=>∃u,r=some u∧
   wpAny (model P w) X.A (letOwnedTupleGo tg (.ref it) u) (fun _ s2=>∃x H',Inv X pins σ H' s2∧RelV x u∧J.yld i H x H'∧tn (i+1) s2.heap∧∀b∈fp,H' b=none) E s1) E s
 done:∀(X:Cx),X.prog=P→X.w=w→X.K=K→X.calm=true→∀(i:Nat) (pins:List (Addr×Obj)) (s:Shared) (σ:St) (H:Hp) (E:Value→Shared→Prop),Inv X pins σ H s→(∀b∈fp,FpOk X pins H b)→tn i s.heap→J.stop i H→
  wpAny (model P w) X.A (pyNext (.ref it)) (fun r s1=>r=none∧Inv X pins σ H s1) E s
 self:∀(A:Around) (i:Nat) (s:Shared) (Q:Value→Shared→Prop) (E:Value→Shared→Prop),tn i s.heap→Q (.ref it) s→wpAny (model P w) A (pyIter (.ref it)) Q E s
abbrev TI:=St→Hp→(It→Hp→Prop)→Prop
def PIE (X:Cx) (pins:List (Addr×Obj)) (σ:St) (tg:Expr) (R:It→Hp→Prop) (itv:Value) (s2:Shared):Prop:=
 ∃(it:Addr) (fp:List Addr) (tn:Nat→Heap→Prop) (J:It) (H':Hp),itv= .ref it∧Inv X pins σ H' s2∧Turn X.prog X.w X.K tg J fp it tn∧tn 0 s2.heap∧(∀b∈fp,FpOk X pins H' b)∧R J H'
def PI (X:Cx) (tg iter:Expr) (wi:TI):Prop:=
 ∀(pins:List (Addr×Obj)) (s:Shared) (σ:St) (H:Hp) (R:It→Hp→Prop),Inv X pins σ H s→wi σ H R→
  wpAny (model X.prog X.w) X.A (eval iter X.env) (fun v s1=>wpAny (model X.prog X.w) X.A (pyIter v) (PIE X pins σ tg R) X.xe s1) X.xe s
theorem go_of {M:Model} {A:Around} {E:Value→Shared→Prop} {s:Shared} {tg:Expr} {it:Addr} {u:Value} {o:Obj} {n:String} {vs:Array Value} {Q:Unit→Shared→Prop} (ho:s.heap.get? it=some o) (hc:o.cls= .type n) (hd:o.data= .fields vs)
  (hn:["enumerate","zip","dict_itemiterator","dict_reverseitemiterator","odict_iterator","itertools.zip_longest","itertools.pairwise"].contains n=false) (hQ:Q () s):wpAny M A (letOwnedTupleGo tg (.ref it) u) Q E s:=by
 unfold letOwnedTupleGo
 cases tg<;> first
  |exact wpAny_pure hQ
  |(cases u<;> first
   |exact wpAny_pure hQ
   |(refine wpAny_bind (wpAny_load ho ?_)
     rw [hc,hd]
     show wpAny M A (if (["enumerate","zip","dict_itemiterator","dict_reverseitemiterator","odict_iterator","itertools.zip_longest","itertools.pairwise"].contains n && vs[0]? ==some (rawInt _))=true then _ else _) Q E s
     rw [if_neg (by intro h;rw [hn,Bool.false_and] at h;cases h)]
     exact wpAny_pure hQ))
def Itl (K:PySem.W.Frag) (a:Addr):It:=
 ⟨fun i H=>∃xs x,SqL K H a xs∧xs[i]? =some x,fun i H x H'=>H'=H∧∀xs,SqL K H a xs→xs[i]? =some x,fun i H=>∃xs,SqL K H a xs∧xs.length≤i⟩
def Itt (K:PySem.W.Frag) (a:Addr):It:=
 ⟨fun i H=>∃xs x,SqT K H a xs∧xs[i]? =some x,fun i H x H'=>H'=H∧∀xs,SqT K H a xs→xs[i]? =some x,fun i H=>∃xs,SqT K H a xs∧xs.length≤i⟩
def Itr (lo:Int) (n:Nat):It:=⟨fun i _=>i<n,fun i H x H'=>H'=H∧x= .int (lo+i),fun i _=>n≤i⟩
theorem turn_list {P:Program} {w:World} {K:PySem.W.Frag} {tg:Expr} (a it:Addr):Turn P w K tg (Itl K a) [it] it (fun i h=>h.IsListIter it a i) where
 mem:=by simp
 obj:=fun i h st b hb=>by
  have e:b=it:=by simpa using hb
  subst e
  obtain ⟨o,e,c,d⟩:=st
  exact ⟨o,e,fun v z=>by rw [d] at z;cases z⟩
 keep:=fun i h h' st k=>st.at fun o e=>k it (by simp) o e
 item:=by
  intro X hP hw hK hc i pins s σ H E I hf st hg
  subst hP hw hK
  obtain ⟨xs,x,hq,hx⟩:=hg
  obtain ⟨its,rv,p,hz⟩:=I.list hq
  obtain ⟨u,hu,ru⟩:=rv.get hx
  obtain ⟨f0,f1,f2,f3,f4,f5⟩:=hf it (by simp)
  refine wpAny_pyNext_list_item st p.isList (x:=u) (by simpa using hu) fun h' st' sb=> ?_
  have I1:Inv X pins σ H {s with heap:=h'}:=I.turned (t':=s.toks) (fun b o hb e=>(sb.2 b hb).trans e) f0 f1 f3 f4 f5
  obtain ⟨o,e,c,d⟩:=id st'
  exact ⟨u,rfl,go_of (s:={s with heap:=h'}) e c d (by decide) ⟨x,H,I1,ru,⟨rfl,fun ys hy=>by rw [I.list_inj hy hq];exact hx⟩,st',fun b hb=>(hf b hb).1⟩⟩
 done:=by
  intro X hP hw hK hc i pins s σ H E I hf st hg
  subst hP hw hK
  obtain ⟨xs,hq,hx⟩:=hg
  obtain ⟨its,rv,p,hz⟩:=I.list hq
  obtain ⟨f0,f1,f2,f3,f4,f5⟩:=hf it (by simp)
  have hl:=rv.length
  exact wpAny_pyNext_list_end (I.ok.hd hc) st p.isList (by simp;omega) fun h' eb=>⟨rfl,I.turned (t':=s.toks) (fun b o hb e=>eb b o hb e) f0 f1 f3 f4 f5⟩
 self:=fun _ _ _ _ _ st h=>wpAny_pyIter_listiter st h
theorem turn_tuple {P:Program} {w:World} {K:PySem.W.Frag} {tg:Expr} (a it:Addr):Turn P w K tg (Itt K a) [it] it (fun i h=>h.IsTupleIter it a i) where
 mem:=by simp
 obj:=fun i h st b hb=>by
  have e:b=it:=by simpa using hb
  subst e
  obtain ⟨o,e,c,d⟩:=st
  exact ⟨o,e,fun v z=>by rw [d] at z;cases z⟩
 keep:=fun i h h' st k=>st.at fun o e=>k it (by simp) o e
 item:=by
  intro X hP hw hK hc i pins s σ H E I hf st hg
  subst hP hw hK
  obtain ⟨xs,x,hq,hx⟩:=hg
  obtain ⟨its,rv,p,hz⟩:=I.tuple hq
  obtain ⟨u,hu,ru⟩:=rv.get hx
  obtain ⟨f0,f1,f2,f3,f4,f5⟩:=hf it (by simp)
  refine wpAny_pyNext_tuple_item st (show s.heap.IsTuple a its.toArray from p) (x:=u) (by simpa using hu) fun h' st' sb=> ?_
  have I1:Inv X pins σ H {s with heap:=h'}:=I.turned (t':=s.toks) (fun b o hb e=>(sb.2 b hb).trans e) f0 f1 f3 f4 f5
  obtain ⟨o,e,c,d⟩:=id st'
  exact ⟨u,rfl,go_of (s:={s with heap:=h'}) e c d (by decide) ⟨x,H,I1,ru,⟨rfl,fun ys hy=>by rw [I.tuple_inj hy hq];exact hx⟩,st',fun b hb=>(hf b hb).1⟩⟩
 done:=by
  intro X hP hw hK hc i pins s σ H E I hf st hg
  subst hP hw hK
  obtain ⟨xs,hq,hx⟩:=hg
  obtain ⟨its,rv,p,hz⟩:=I.tuple hq
  obtain ⟨f0,f1,f2,f3,f4,f5⟩:=hf it (by simp)
  have hl:=rv.length
  exact wpAny_pyNext_tuple_end (I.ok.hd hc) st (show s.heap.IsTuple a its.toArray from p) (by simp;omega) fun h' eb=>⟨rfl,I.turned (t':=s.toks) (fun b o hb e=>eb b o hb e) f0 f1 f3 f4 f5⟩
 self:=fun _ _ _ _ _ st h=>wpAny_pyIter_tupleiter st h
theorem turn_range {P:Program} {w:World} {K:PySem.W.Frag} {tg:Expr} (it:Addr) (lo:Int) (n:Nat):Turn P w K tg (Itr lo n) [it] it (fun i h=>IsRangeIter h it (lo+(i:Nat) * 1) ((n:Int) - (i:Nat)) 1) where
 mem:=by simp
 obj:=fun i h st b hb=>by
  have e:b=it:=by simpa using hb
  subst e
  exact ⟨_,st,fun v z=>by
   have z':Data.fields _=Data.cell v:=z
   cases z'⟩
 keep:=fun i h h' st k=>k it (by simp) _ st
 item:=by
  intro X hP hw hK hc i pins s σ H E I hf st hg
  subst hP hw hK
  obtain ⟨f0,f1,f2,f3,f4,f5⟩:=hf it (by simp)
  have W:=Walks.range (prog:=X.prog) (w:=X.w) (I.ok.hd hc) it lo 1 n
  refine W.item i s _ _ hg st fun v h' tk hv st' kk=> ?_
  obtain ⟨t,rfl⟩:=hv
  have I1:Inv X pins σ H {s with heap:=h',toks:=tk}:=I.turned (fun b o hb e=>kk b o (by simpa using hb) e) f0 f1 f3 f4 f5
  refine ⟨_,rfl,go_of (s:={s with heap:=h',toks:=tk}) (n:="range_iterator") st' rfl rfl (by decide) ⟨.int (lo+i),H,I1,⟨t,?_⟩,⟨rfl,rfl⟩,st',fun b hb=>(hf b hb).1⟩⟩
  rw [Int.mul_one]
 done:=by
  intro X hP hw hK hc i pins s σ H E I hf st hg
  subst hP hw hK
  obtain ⟨f0,f1,f2,f3,f4,f5⟩:=hf it (by simp)
  exact wpAny_pyNext_range_end (I.ok.hd hc) st (by have:n≤i:=hg;omega) fun h' eb=>⟨rfl,I.turned (t':=s.toks) (fun b o hb e=>eb b o hb e) f0 f1 f3 f4 f5⟩
 self:=fun _ _ _ _ _ st h=>wpAny_pyIter_rangeiter st h
end L2
namespace L2
open PySem PySem.Spec PyProof.Rows
section
variable {X:Cx} {tg:Expr}
def iList (K:PySem.W.Frag) (tl:TE):TI:=fun σ H R=>tl σ H fun x H1=>∃a,x= .ref a∧(∃xs,SqL K H1 a xs)∧R (Itl K a) H1
def iTup (K:PySem.W.Frag) (tl:TE):TI:=fun σ H R=>tl σ H fun x H1=>∃a,x= .ref a∧(∃xs,SqT K H1 a xs)∧R (Itt K a) H1
theorem B8 {l:Expr} {tl:TE} (hl:PE X l tl):PI X tg l (iList X.K tl):=by
 intro pins s σ H R I h
 refine thn (hl pins s σ H _ I h) fun v s1 ⟨x,H1,I1,r1,q1⟩=> ?_
 obtain ⟨a,e,⟨xs,hq⟩,q⟩:=q1
 subst e
 cases r1
 obtain ⟨its,rv,p,hz⟩:=I1.list hq
 refine wpAny_pyIter_list p.isList ?_
 refine ⟨s1.heap.objs.size,[s1.heap.objs.size],_,_,H1,rfl,I1.kept (t':=s1.toks) fun b o e=>Heap.get?_push_of_some _ e,turn_list a _,⟨_,Heap.get?_push_size _ rfl,rfl,rfl⟩,fun b hb=> ?_,q⟩
 have e:b=s1.heap.objs.size:=by simpa using hb
 subst e
 exact I1.fpOk (Nat.le_refl _) (I1.hok.fresh (Nat.le_refl _))
theorem pi_tup {l:Expr} {tl:TE} (hl:PE X l tl):PI X tg l (iTup X.K tl):=by
 intro pins s σ H R I h
 refine thn (hl pins s σ H _ I h) fun v s1 ⟨x,H1,I1,r1,q1⟩=> ?_
 obtain ⟨a,e,⟨xs,hq⟩,q⟩:=q1
 subst e
 cases r1
 obtain ⟨its,rv,p,hz⟩:=I1.tuple hq
 refine wpAny_pyIter_tuple (show s1.heap.IsTuple a its.toArray from p) ?_
 refine ⟨s1.heap.objs.size,[s1.heap.objs.size],_,_,H1,rfl,I1.kept (t':=s1.toks) fun b o e=>Heap.get?_push_of_some _ e,turn_tuple a _,⟨_,Heap.get?_push_size _ rfl,rfl,rfl⟩,fun b hb=> ?_,q⟩
 have e:b=s1.heap.objs.size:=by simpa using hb
 subst e
 exact I1.fpOk (Nat.le_refl _) (I1.hok.fresh (Nat.le_refl _))
theorem range_it {pins:List (Addr×Obj)} {σ:St} {H:Hp} {s:Shared} {R:It→Hp→Prop} {E:Value→Shared→Prop} {lo hi:Int} {t u v:Tok} {tk:Nat} (I:Inv X pins σ H s) (h1: -(2 ^ 62)≤lo) (h2:lo<2 ^ 62) (h3: -(2 ^ 62)≤hi) (h4:hi<2 ^ 62)
  (q:R (Itr lo (hi - lo).toNat) H):wpAny (model X.prog X.w) X.A (pyIter (.ref s.heap.objs.size)) (PIE X pins σ tg R) E {s with heap:=s.heap.push {cls:= .type "range",data:= .fields #[.int lo t,.int hi u,.int 1 v]},toks:=tk}:=by
 refine wpAny_pyIter_range (IsRange.new ..) (small_one h1 h2 h3 h4) ?_
 have I1:Inv X pins σ H {s with heap:=s.heap.push {cls:= .type "range",data:= .fields #[.int lo t,.int hi u,.int 1 v]},toks:=tk}:=I.kept fun b o e=>Heap.get?_push_of_some _ e
 refine ⟨(s.heap.push {cls:= .type "range",data:= .fields #[.int lo t,.int hi u,.int 1 v]}).objs.size,[(s.heap.push {cls:= .type "range",data:= .fields #[.int lo t,.int hi u,.int 1 v]}).objs.size],_,_,H,rfl,
  I1.kept (t':=tk) fun b o e=>Heap.get?_push_of_some _ e,turn_range _ lo (hi - lo).toNat,?_,fun b hb=> ?_,q⟩
 ·have e1:lo+((0:Nat):Int) * 1=lo:=by simp
  have e2:(((hi - lo).toNat:Nat):Int) - ((0:Nat):Int)=Builtin.Range.rangeSize lo hi 1:=by rw [rangeSize_one];split<;> omega
  show IsRangeIter _ _ (lo+((0:Nat):Int) * 1) ((((hi - lo).toNat:Nat):Int) - ((0:Nat):Int)) 1
  rw [e1,e2]
  exact Heap.get?_push_size _ rfl
 ·have e:b=(s.heap.push {cls:= .type "range",data:= .fields #[.int lo t,.int hi u,.int 1 v]}).objs.size:=by simpa using hb
  subst e
  exact I1.fpOk (Nat.le_refl _) (I1.hok.fresh (Nat.le_refl _))
def iRng1 (ta:TA):TI:=fun σ H R=>ta σ H fun vs H1=>∃j:Int,vs=[.int j]∧ -(2 ^ 62)≤j∧j<2 ^ 62∧R (Itr 0 j.toNat) H1
theorem Cg {a:Expr} {ta:TA} {p pos:Pos} (hg:Gl X "range") (hm:X.mg "range"=none) (ha:PA X [a] ta) (hs:starEach [a] X.env=[(false,eval a X.env)]:=by rfl):PI X tg (.Call (.Name "range" p) [a] [] pos) (iRng1 ta):=by
 intro pins s σ H R I h
 refine Call_ (ld_blt I hg hm boot_range (PyProof.Rows.callWith_type1 (thn (ha pos pins s σ H _ I h) fun us s1 ⟨vs,H1,I1,r1,q1⟩=> ?_) hs rfl))
 obtain ⟨j,e,q1,q2,q⟩:=q1
 subst e
 cases r1 with
 |cons r rr=>
  cases rr
  obtain ⟨t,rfl⟩:=r
  exact call_range_1 (range_it I1 (by decide) (by decide) q1 q2 (by simpa using q))
def tFor (wi:TI) (g:TG) (tb:TS):TS:=fun D σ H=>wi σ H fun J H1=>∃W:Nat→Nat→St→Hp→Prop,(∃m,W 0 m σ H1)∧∀i m σ H,W i m σ H→
 (J.stop i H∧D.nx σ H)∨(J.go i H∧∃N:St→Hp→Prop,(∀σ' H',N σ' H'→∃m',m'<m∧W (i+1) m' σ' H')∧∀x H',J.yld i H x H'→g x σ H' fun σ2 H2=>tb {D with nx:=N,ct:=N,bk:=D.nx} σ2 H2)
def pinsAt (fp:List Addr) (h:Heap):List (Addr×Obj):=fp.filterMap fun b=>(h.get? b).map fun o=>(b,o)
theorem mem_pinsAt {fp:List Addr} {h:Heap} {b:Addr} {o:Obj} (hb:b∈fp) (e:h.get? b=some o):(b,o)∈pinsAt fp h:=List.mem_filterMap.mpr ⟨b,hb,by rw [e];rfl⟩
theorem of_pinsAt {fp:List Addr} {h:Heap} {p:Addr×Obj} (hp:p∈pinsAt fp h):p.1∈fp∧h.get? p.1=some p.2:=by
 obtain ⟨b,hb,e⟩:=List.mem_filterMap.mp hp
 cases q:h.get? b with
 |none=>rw [q] at e;cases e
 |some o=>
  rw [q] at e
  have e':(b,o)=p:=Option.some.inj e
  subst e'
  exact ⟨hb,q⟩
theorem Inv.pinned {pins:List (Addr×Obj)} {σ:St} {H:Hp} {s:Shared} {fp:List Addr} (I:Inv X pins σ H s) (hf:∀b∈fp,FpOk X pins H b) (ho:∀b∈fp,∃o,s.heap.get? b=some o∧∀v,o.data≠ .cell v):Inv X (pins++pinsAt fp s.heap) σ H s:=
 I.pins_of fun p hp=>(List.mem_append.mp hp).elim (fun z=>I.pin p (List.mem_append_right _ z)) fun z=>by
  obtain ⟨hb,e⟩:=of_pinsAt z
  obtain ⟨f0,f1,f2,_⟩:=hf p.1 hb
  obtain ⟨o,e',d⟩:=ho p.1 hb
  rw [e] at e';cases e'
  exact ⟨e,f0,f1,f2,d⟩
theorem Inv.unpinned {pins pl:List (Addr×Obj)} {σ:St} {H:Hp} {s:Shared} (I:Inv X (pins++pl) σ H s):Inv X pins σ H s:=I.pins_of fun p hp=>I.pin p (List.mem_append_right _ (List.mem_append_left _ hp))
theorem C3 {iter:Expr} {body:List Stmt} {wi:TI} {g:TG} {tb:TS} {pos:Pos} (hp:PassesOwn (model X.prog X.w) X.A X.env X.xe) (hc:X.calm=true) (hi:PI X tg iter wi) (hg:PG X tg g) (hb:PSs X body tb)
  (hs:∀x,foldedSetIterable iter X.env x=pure x:=by intro _;rfl):PS X (.For tg iter body [] pos) (tFor wi g tb):=by
 intro pins s σ H D I h
 refine wpAny_For (thn (hi pins s σ H _ I h) fun v s1 h1=>thn h1 fun itv s2 h2=> ?_) hs
 obtain ⟨it,fp,tn,J,H2,e,I2,T,st2,f2,W,⟨m0,w0⟩,turn⟩:=h2
 subst e
 have stat:∀{H':Hp},(∀b∈fp,H' b=none)→∀b∈fp,FpOk X pins H' b:=fun hn b hb=>⟨hn b hb,(f2 b hb).2⟩
 refine codeAny_forLoop_any (fun n s'=>∃i σ' H',Inv X pins σ' H' s'∧tn i s'.heap∧(∀b∈fp,H' b=none)∧W i n σ' H') ?_ m0 ⟨0,σ,H2,I2,st2,fun b hb=>(f2 b hb).1,w0⟩
 rintro n s3 ⟨i,σ3,H3,I3,st3,fr3,w3⟩
 rcases turn i n σ3 H3 w3 with ⟨stop,qn⟩|⟨go,N,hN,step⟩
 ·refine wpAny_passesOwn hp (thn (T.done X rfl rfl rfl hc i pins s3 σ3 H3 X.xe I3 (stat fr3) st3 stop) fun r s4 ⟨hr,I4⟩=> ?_)
  subst hr
  exact wpAny_execs_nil ⟨σ3,H3,I4,qn⟩
 ·refine wpAny_passesOwn hp (thn (T.item X rfl rfl rfl hc i pins s3 σ3 H3 X.xe I3 (stat fr3) st3 go) fun r s4 ⟨u,hr,h4⟩=> ?_)
  subst hr
  refine wpAny_passesOwn hp (thn h4 fun _ s5 ⟨x,H5,I5,r5,y5,st5,fr5⟩=> ?_)
  have I5':=I5.pinned (stat fr5) (T.obj _ _ st5)
  refine wpAny_passesOwn hp (thn (hg _ s5 σ3 H5 x u _ I5' r5 (step x H5 y5)) fun _ s6 ⟨σ6,H6,I6,q6⟩=> ?_)
  refine wpAny_passesOwn hp (thn (hb _ s6 σ6 H6 _ I6 q6) fun f s7 q7=> ?_)
  have again:∀{σ7:St} {H7:Hp},Inv X (pins++pinsAt fp s5.heap) σ7 H7 s7→N σ7 H7→∃m,m<n∧∃i σ' H',Inv X pins σ' H' s7∧tn i s7.heap∧(∀b∈fp,H' b=none)∧W i m σ' H':=fun {σ7 H7} I7 n7=>by
   obtain ⟨m',hm,w7⟩:=hN σ7 H7 n7
   refine ⟨m',hm,i+1,σ7,H7,I7.unpinned,T.keep _ _ _ st5 fun b hb o e=>(I7.pin (b,o) (List.mem_append_right _ (List.mem_append_right _ (mem_pinsAt hb e)))).1,fun b hb=> ?_,w7⟩
   obtain ⟨o,e,d⟩:=T.obj _ _ st5 b hb
   exact (I7.pin (b,o) (List.mem_append_right _ (List.mem_append_right _ (mem_pinsAt hb e)))).2.1
  cases f with
  |next=>obtain ⟨σ7,H7,I7,n7⟩:=q7;exact again I7 n7
  |cont=>obtain ⟨σ7,H7,I7,n7⟩:=q7;exact again I7 n7
  |brk=>obtain ⟨σ7,H7,I7,q7⟩:=q7;exact ⟨σ7,H7,I7.unpinned,q7⟩
  |ret v=>obtain ⟨x7,σ7,H7,I7,r7,q7⟩:=q7;exact ⟨x7,σ7,H7,I7.unpinned,r7,q7⟩
end
theorem for_list {K:PySem.W.Frag} {a:Addr} {xs:List V} {g:TG} {tb:TS} {D:Ends} {σ:St} {H:Hp} (Pv:Nat→St→Hp→Prop) (h0:Pv 0 σ H) (hl:∀i σ H,i≤xs.length→Pv i σ H→SqL K H a xs)
  (hs:∀i x σ H,xs[i]? =some x→Pv i σ H→g x σ H fun σ2 H2=>tb {D with nx:=Pv (i+1),ct:=Pv (i+1),bk:=D.nx} σ2 H2) (hd:∀σ H,Pv xs.length σ H→D.nx σ H):
  ∃W:Nat→Nat→St→Hp→Prop,(∃m,W 0 m σ H)∧∀i m σ H,W i m σ H→
   ((Itl K a).stop i H∧D.nx σ H)∨((Itl K a).go i H∧∃N:St→Hp→Prop,(∀σ' H',N σ' H'→∃m',m'<m∧W (i+1) m' σ' H')∧∀x H',(Itl K a).yld i H x H'→g x σ H' fun σ2 H2=>tb {D with nx:=N,ct:=N,bk:=D.nx} σ2 H2):=by
 refine ⟨fun i m σ H=>m=xs.length - i∧i≤xs.length∧Pv i σ H,⟨xs.length,by simp,Nat.zero_le _,h0⟩,?_⟩
 rintro i m σ H ⟨rfl,hi,p⟩
 have q:=hl i σ H hi p
 by_cases hlt:i<xs.length
 ·refine .inr ⟨⟨xs,xs[i],q,by simp [hlt]⟩,Pv (i+1),fun σ' H' p'=>⟨xs.length - (i+1),by omega,rfl,hlt,p'⟩,fun x H' y=> ?_⟩
  obtain ⟨e,y⟩:=y
  subst e
  exact hs i x σ _ (y xs q) p
 ·have e:i=xs.length:=by omega
  subst e
  exact .inl ⟨⟨xs,q,Nat.le_refl _⟩,hd σ H p⟩
theorem for_tup {K:PySem.W.Frag} {a:Addr} {xs:List V} {g:TG} {tb:TS} {D:Ends} {σ:St} {H:Hp} (Pv:Nat→St→Hp→Prop) (h0:Pv 0 σ H) (hl:∀i σ H,i≤xs.length→Pv i σ H→SqT K H a xs)
  (hs:∀i x σ H,xs[i]? =some x→Pv i σ H→g x σ H fun σ2 H2=>tb {D with nx:=Pv (i+1),ct:=Pv (i+1),bk:=D.nx} σ2 H2) (hd:∀σ H,Pv xs.length σ H→D.nx σ H):
  ∃W:Nat→Nat→St→Hp→Prop,(∃m,W 0 m σ H)∧∀i m σ H,W i m σ H→
   ((Itt K a).stop i H∧D.nx σ H)∨((Itt K a).go i H∧∃N:St→Hp→Prop,(∀σ' H',N σ' H'→∃m',m'<m∧W (i+1) m' σ' H')∧∀x H',(Itt K a).yld i H x H'→g x σ H' fun σ2 H2=>tb {D with nx:=N,ct:=N,bk:=D.nx} σ2 H2):=by
 refine ⟨fun i m σ H=>m=xs.length - i∧i≤xs.length∧Pv i σ H,⟨xs.length,by simp,Nat.zero_le _,h0⟩,?_⟩
 rintro i m σ H ⟨rfl,hi,p⟩
 have q:=hl i σ H hi p
 by_cases hlt:i<xs.length
 ·refine .inr ⟨⟨xs,xs[i],q,by simp [hlt]⟩,Pv (i+1),fun σ' H' p'=>⟨xs.length - (i+1),by omega,rfl,hlt,p'⟩,fun x H' y=> ?_⟩
  obtain ⟨e,y⟩:=y
  subst e
  exact hs i x σ _ (y xs q) p
 ·have e:i=xs.length:=by omega
  subst e
  exact .inl ⟨⟨xs,q,Nat.le_refl _⟩,hd σ H p⟩
theorem for_range {lo:Int} {n:Nat} {g:TG} {tb:TS} {D:Ends} {σ:St} {H:Hp} (Pv:Nat→St→Hp→Prop) (h0:Pv 0 σ H)
  (hs:∀i σ H,i<n→Pv i σ H→g (.int (lo+i)) σ H fun σ2 H2=>tb {D with nx:=Pv (i+1),ct:=Pv (i+1),bk:=D.nx} σ2 H2) (hd:∀σ H,Pv n σ H→D.nx σ H):
  ∃W:Nat→Nat→St→Hp→Prop,(∃m,W 0 m σ H)∧∀i m σ H,W i m σ H→
   ((Itr lo n).stop i H∧D.nx σ H)∨((Itr lo n).go i H∧∃N:St→Hp→Prop,(∀σ' H',N σ' H'→∃m',m'<m∧W (i+1) m' σ' H')∧∀x H',(Itr lo n).yld i H x H'→g x σ H' fun σ2 H2=>tb {D with nx:=N,ct:=N,bk:=D.nx} σ2 H2):=by
 refine ⟨fun i m σ H=>m=n - i∧i≤n∧Pv i σ H,⟨n,by simp,Nat.zero_le _,h0⟩,?_⟩
 rintro i m σ H ⟨rfl,hi,p⟩
 by_cases hlt:i<n
 ·refine .inr ⟨hlt,Pv (i+1),fun σ' H' p'=>⟨n - (i+1),by omega,rfl,hlt,p'⟩,fun x H' y=> ?_⟩
  obtain ⟨e,y⟩:=y
  subst e y
  exact hs i σ _ hlt p
 ·have e:i=n:=by omega
  subst e
  exact .inl ⟨Nat.le_refl _,hd σ H p⟩
end L2
namespace L2
open PySem PySem.Spec PyProof.Rows
abbrev R2:=V→V→Hp→VK→Prop
def OpR (X:Cx) (f:Value→Value→Sem Value) (r:R2):Prop:=
 ∀(pins:List (Addr×Obj)) (s:Shared) (σ:St) (H:Hp) (x y:V) (v u:Value) (Q:VK),Inv X pins σ H s→RelV x v→RelV y u→r x y H Q→
  wpAny (model X.prog X.w) X.A (f v u) (EP X pins σ Q) X.xe s
def UnR (X:Cx) (f:Value→Sem Value) (r:V→Hp→VK→Prop):Prop:=
 ∀(pins:List (Addr×Obj)) (s:Shared) (σ:St) (H:Hp) (x:V) (v:Value) (Q:VK),Inv X pins σ H s→RelV x v→r x H Q→
  wpAny (model X.prog X.w) X.A (f v) (EP X pins σ Q) X.xe s
def CallR (X:Cx) (f:Value) (r:List V→Hp→VK→Prop):Prop:=
 ∀(pins:List (Addr×Obj)) (s:Shared) (σ:St) (H:Hp) (xs:List V) (us:List Value) (Q:VK),Inv X pins σ H s→Vals xs us→r xs H Q→
  wpAny (model X.prog X.w) X.A (call f us) (EP X pins σ Q) X.xe s
def TruR (X:Cx) (r:V→Hp→(Bool→Hp→Prop)→Prop):Prop:=
 ∀(pins:List (Addr×Obj)) (s:Shared) (σ:St) (H:Hp) (x:V) (v:Value) (Q:Bool→Hp→Prop),Inv X pins σ H s→RelV x v→r x H Q→
  wpAny (model X.prog X.w) X.A (truthy v) (TP X pins σ Q) X.xe s
def tOp (r:R2) (ta tb:TE):TE:=fun σ H Q=>ta σ H fun x H1=>tb σ H1 fun y H2=>r x y H2 Q
def tUn (r:V→Hp→VK→Prop) (ta:TE):TE:=fun σ H Q=>ta σ H fun x H1=>r x H1 Q
inductive RIP (C:Int→Int→Prop) (g:Int→Int→V) (x:V) (y:V) (H:Hp) (Q:VK):Prop
 |mk (i j:_):(x= .int i)→(y= .int j)→(C i j)→(Q (g i j) H)→RIP C g x y H Q
def rI (C:Int→Int→Prop) (g:Int→Int→V):R2:=fun x y H Q=>RIP C g x y H Q
inductive RI0P (g:Int→Int→V) (x:V) (y:V) (H:Hp) (Q:VK):Prop
 |mk (i j:_):(x= .int i)→(y= .int j)→(Q (g i j) H)→RI0P g x y H Q
def rI0 (g:Int→Int→V):R2:=fun x y H Q=>RI0P g x y H Q
inductive RUP (g:Int→V) (x:V) (H:Hp) (Q:VK):Prop
 |mk (i:_):(x= .int i)→(Q (g i) H)→RUP g x H Q
def rU (g:Int→V):V→Hp→VK→Prop:=fun x H Q=>RUP g x H Q
section
variable {X:Cx} {a b c:Expr} {ta tb tc:TE} {pos:Pos}
theorem binT (ha:PE X a ta) (hb:PE X b tb) {pins:List (Addr×Obj)} {s:Shared} {σ:St} {H:Hp} {R:V→V→Hp→Prop} (I:Inv X pins σ H s)
  (h:ta σ H fun x H1=>tb σ H1 fun y H2=>R x y H2) {Q:Value→Shared→Prop} {f:Value→Value→Sem Value}
  (hf:∀v u s2 x y H2,Inv X pins σ H2 s2→RelV x v→RelV y u→R x y H2→wpAny (model X.prog X.w) X.A (f v u) Q X.xe s2):
  wpAny (model X.prog X.w) X.A (eval a X.env) (fun v s₁=>wpAny (model X.prog X.w) X.A (eval b X.env) (fun u s₂=>wpAny (model X.prog X.w) X.A (f v u) Q X.xe s₂) X.xe s₁) X.xe s:=by
 refine thn (ha pins s σ H _ I h) fun v s1 ⟨x,H1,I1,r1,q1⟩=> ?_
 refine thn (hb pins s1 σ H1 _ I1 q1) fun u s2 ⟨y,H2,I2,r2,q2⟩=> ?_
 exact hf v u s2 x y H2 I2 r1 r2 q2
theorem A1 {op:Operator} {r:R2} (ho:OpR X (binaryOp op) r) (ha:PE X a ta) (hb:PE X b tb):PE X (.BinOp a op b pos) (tOp r ta tb):=by
 intro pins s σ H Q I h
 exact wpAny_BinOp (binT ha hb I h fun v u s2 x y H2 I2 rx ry q=>ho pins s2 σ H2 x y v u Q I2 rx ry q)
theorem pe_un {op:UnaryOp} {r:V→Hp→VK→Prop} (ho:UnR X (unaryOp op) r) (ha:PE X a ta):PE X (.UnaryOp op a pos) (tUn r ta):=by
 intro pins s σ H Q I h
 exact UnaryOp_ (thn (ha pins s σ H _ I h) fun v s1 ⟨x,H1,I1,r1,q1⟩=>ho pins s1 σ H1 x v Q I1 r1 q1)
theorem opI {f:Value→Value→Sem Value} {C:Int→Int→Prop} {g:Int→Int→Int}
  (rule:∀(i j:Int) (t u:Tok) (s:Shared) (Q:Value→Shared→Prop) (E:Value→Shared→Prop),C i j→Q (.int (g i j) s.toks) {s with toks:=s.toks+1}→wpAny (model X.prog X.w) X.A (f (.int i t) (.int j u)) Q E s):
  OpR X f (rI C fun i j=> .int (g i j)):=by
 intro pins s σ H x y v u Q I rx ry h
 obtain ⟨i,j,rfl,rfl,hc,q⟩:=h
 obtain ⟨t,rfl⟩:=rx
 obtain ⟨t',rfl⟩:=ry
 exact rule i j t t' s _ _ hc ⟨.int (g i j),H,I.tok _,⟨_,rfl⟩,q⟩
theorem opI0 {f:Value→Value→Sem Value} {g:Int→Int→Int}
  (rule:∀(i j:Int) (t u:Tok) (s:Shared) (Q:Value→Shared→Prop) (E:Value→Shared→Prop),Q (.int (g i j) s.toks) {s with toks:=s.toks+1}→wpAny (model X.prog X.w) X.A (f (.int i t) (.int j u)) Q E s):
  OpR X f (rI0 fun i j=> .int (g i j)):=by
 intro pins s σ H x y v u Q I rx ry h
 obtain ⟨i,j,rfl,rfl,q⟩:=h
 obtain ⟨t,rfl⟩:=rx
 obtain ⟨t',rfl⟩:=ry
 exact rule i j t t' s _ _ ⟨.int (g i j),H,I.tok _,⟨_,rfl⟩,q⟩
theorem opB0 {f:Value→Value→Sem Value} {g:Int→Int→Bool}
  (rule:∀(i j:Int) (t u:Tok) (s:Shared) (Q:Value→Shared→Prop) (E:Value→Shared→Prop),Q (.bool (g i j)) s→wpAny (model X.prog X.w) X.A (f (.int i t) (.int j u)) Q E s):
  OpR X f (rI0 fun i j=> .bl (g i j)):=by
 intro pins s σ H x y v u Q I rx ry h
 obtain ⟨i,j,rfl,rfl,q⟩:=h
 obtain ⟨t,rfl⟩:=rx
 obtain ⟨t',rfl⟩:=ry
 exact rule i j t t' s _ _ ⟨.bl (g i j),H,I,rfl,q⟩
def CDiv (i j:Int):Prop:=0<j∧j<1073741824
def CPow (i j:Int):Prop:=0≤j∧j≤1000000∧i.natAbs<2 ^ 64
def CMul (i j:Int):Prop:=(-(2 ^ 64)<i∧i<2 ^ 64)∨(-(2 ^ 64)<j∧j<2 ^ 64)
theorem CMul.ok {i j:Int} (h:CMul i j):IntMulOk i j:=by
 rcases h with ⟨h1,h2⟩|⟨h1,h2⟩
 ·exact .of_left (intBits_le_64 h1 h2)
 ·exact .of_right (intBits_le_64 h1 h2)
theorem Bs:OpR X (binaryOp .Add) (rI0 fun i j=> .int (i+j)):=opI0 fun _ _ _ _ _ _ _ q=>add_int q
theorem op_sub:OpR X (binaryOp .Sub) (rI0 fun i j=> .int (i - j)):=opI0 fun _ _ _ _ _ _ _ q=>sub_int q
theorem op_mul:OpR X (binaryOp .Mult) (rI CMul fun i j=> .int (i * j)):=opI fun _ _ _ _ _ _ _ hc q=>mul_int q hc.ok
theorem op_fdiv:OpR X (binaryOp .FloorDiv) (rI CDiv fun i j=> .int (i / j)):=opI fun i j _ _ _ _ _ hc q=>by
 have h1:(0:Int)<j:=hc.1
 have h2:j<1073741824:=hc.2
 exact floordiv_int (by omega) (by rw [Int.fdiv_eq_ediv_of_nonneg i (by omega)];exact q) (.inl (PyProof.noPylong_small (by omega)))
theorem op_mod:OpR X (binaryOp .Mod) (rI (fun _ j=>0<j) fun i j=> .int (i % j)):=opI fun i j _ _ _ _ _ hc q=>by
 have h1:(0:Int)<j:=hc
 exact mod_int' (by omega) (by rw [Int.fmod_eq_emod_of_nonneg i (by omega)];exact q)
theorem op_pow:OpR X (binaryOp .Pow) (rI CPow fun i j=> .int (i ^ j.toNat)):=opI fun _ _ _ _ _ _ _ hc q=>pow_int_small hc.1 hc.2.1 hc.2.2 q
theorem unI {f:Value→Sem Value} {g:Int→Int}
  (rule:∀(i:Int) (t:Tok) (s:Shared) (Q:Value→Shared→Prop) (E:Value→Shared→Prop),Q (.int (g i) s.toks) {s with toks:=s.toks+1}→wpAny (model X.prog X.w) X.A (f (.int i t)) Q E s):
  UnR X f (rU fun i=> .int (g i)):=by
 intro pins s σ H x v Q I rx h
 obtain ⟨i,rfl,q⟩:=h
 obtain ⟨t,rfl⟩:=rx
 exact rule i t s _ _ ⟨.int (g i),H,I.tok _,⟨_,rfl⟩,q⟩
theorem un_neg:UnR X (unaryOp .USub) (rU fun i=> .int (-i)):=unI fun _ _ _ _ _ q=>neg_int q
end
def scal:V→V→Bool
 | .non,.non=>true| .non,.int _=>true| .int _,.non=>true| .non,.bl _=>true| .bl _,.non=>true| .non,.str _=>true| .str _,.non=>true
 | .int _,.int _=>true| .bl _,.bl _=>true| .str _,.str _=>true| .byt _,.byt _=>true
 | .int _,.str _=>true| .str _,.int _=>true| .bl _,.str _=>true| .str _,.bl _=>true
 |_,_=>false
def rEq:R2:=fun x y H Q=>scal x y=true∧Q (.bl (decide (x=y))) H
def rNe:R2:=fun x y H Q=>scal x y=true∧Q (.bl (!decide (x=y))) H
theorem dec_int {i j:Int}:decide (V.int i=V.int j)=(i==j):=by
 rw [Bool.eq_iff_iff]
 simp
theorem dec_bl {i j:Bool}:decide (V.bl i=V.bl j)=(i==j):=by
 rw [Bool.eq_iff_iff]
 simp
theorem dec_str {i j:Str}:decide (V.str i=V.str j)=(i==j):=by
 rw [Bool.eq_iff_iff]
 simp
theorem dec_byt {i j:Array UInt8}:decide (V.byt i=V.byt j)=(i.toList==j.toList):=by
 rw [Bool.eq_iff_iff]
 cases i
 cases j
 simp
section
variable {X:Cx} {a b c:Expr} {ta tb tc:TE} {pos:Pos}
theorem Bd {pins:List (Addr×Obj)} {σ:St} {H:Hp} {s:Shared} {Q:VK} {k k':Bool} (I:Inv X pins σ H s) (q:Q (.bl k) H) (e:k=k'):EP X pins σ Q (.bool k') s:=by
 subst e
 exact ⟨.bl k,H,I,rfl,q⟩
theorem Cq:OpR X (compareOp .Eq) rEq:=by
 intro pins s σ H x y v u Q I rx ry h
 obtain ⟨hs,q⟩:=h
 cases x with
 |non=>
  cases rx
  cases y with
  |non=>cases ry;exact PySem.EqNone.eq_none_none (Bd I q (by simp))
  |bl j=>cases ry;exact PySem.EqNone.eq_none_bool (Bd I q (by simp))
  |int j=>obtain ⟨t',rfl⟩:=ry;exact PySem.EqNone.eq_none_int (Bd I q (by simp))
  |str j=>obtain ⟨t',rfl⟩:=ry;exact PySem.EqNone.eq_none_str (Bd I q (by simp))
  |_=>exact absurd (show false=true from hs) Bool.false_ne_true
 |bl i=>
  cases rx
  cases y with
  |non=>cases ry;exact PySem.EqNone.eq_bool_none (Bd I q (by simp))
  |bl j=>cases ry;exact eq_bool (Bd I q dec_bl)
  |str j=>obtain ⟨t',rfl⟩:=ry;exact PySem.EqMixed.eq_bool_str (Bd I q (by simp))
  |_=>exact absurd (show false=true from hs) Bool.false_ne_true
 |int i=>
  obtain ⟨t,rfl⟩:=rx
  cases y with
  |non=>cases ry;exact PySem.EqNone.eq_int_none (Bd I q (by simp))
  |int j=>obtain ⟨t',rfl⟩:=ry;exact eq_int (Bd I q dec_int)
  |str j=>obtain ⟨t',rfl⟩:=ry;exact PySem.EqMixed.eq_int_str (Bd I q (by simp))
  |_=>exact absurd (show false=true from hs) Bool.false_ne_true
 |str i=>
  obtain ⟨t,rfl⟩:=rx
  cases y with
  |non=>cases ry;exact PySem.EqNone.eq_str_none (Bd I q (by simp))
  |bl j=>cases ry;exact PySem.EqMixed.eq_str_bool (Bd I q (by simp))
  |int j=>obtain ⟨t',rfl⟩:=ry;exact PySem.EqMixed.eq_str_int (Bd I q (by simp))
  |str j=>obtain ⟨t',rfl⟩:=ry;exact eq_str (Bd I q dec_str)
  |_=>exact absurd (show false=true from hs) Bool.false_ne_true
 |byt i=>
  obtain ⟨t,rfl⟩:=rx
  cases y with
  |byt j=>obtain ⟨t',rfl⟩:=ry;exact PySem.W.eq_bytes (Bd I q dec_byt)
  |_=>exact absurd (show false=true from hs) Bool.false_ne_true
 |_=>cases y<;> exact absurd (show false=true from hs) Bool.false_ne_true
theorem op_ne:OpR X (compareOp .NotEq) rNe:=by
 intro pins s σ H x y v u Q I rx ry h
 obtain ⟨hs,q⟩:=h
 cases x with
 |non=>
  cases rx
  cases y with
  |non=>cases ry;exact PySem.EqNone.ne_none_none (Bd I q (by simp))
  |bl j=>cases ry;exact PySem.EqNone.ne_none_bool (Bd I q (by simp))
  |int j=>obtain ⟨t',rfl⟩:=ry;exact PySem.EqNone.ne_none_int (Bd I q (by simp))
  |str j=>obtain ⟨t',rfl⟩:=ry;exact PySem.EqNone.ne_none_str (Bd I q (by simp))
  |_=>exact absurd (show false=true from hs) Bool.false_ne_true
 |bl i=>
  cases rx
  cases y with
  |non=>cases ry;exact PySem.EqNone.ne_bool_none (Bd I q (by simp))
  |bl j=>cases ry;exact ne_bool (Bd I q (congrArg not dec_bl))
  |str j=>obtain ⟨t',rfl⟩:=ry;exact PySem.EqMixed.ne_bool_str (Bd I q (by simp))
  |_=>exact absurd (show false=true from hs) Bool.false_ne_true
 |int i=>
  obtain ⟨t,rfl⟩:=rx
  cases y with
  |non=>cases ry;exact PySem.EqNone.ne_int_none (Bd I q (by simp))
  |int j=>obtain ⟨t',rfl⟩:=ry;exact ne_int (Bd I q (congrArg not dec_int))
  |str j=>obtain ⟨t',rfl⟩:=ry;exact PySem.EqMixed.ne_int_str (Bd I q (by simp))
  |_=>exact absurd (show false=true from hs) Bool.false_ne_true
 |str i=>
  obtain ⟨t,rfl⟩:=rx
  cases y with
  |non=>cases ry;exact PySem.EqNone.ne_str_none (Bd I q (by simp))
  |bl j=>cases ry;exact PySem.EqMixed.ne_str_bool (Bd I q (by simp))
  |int j=>obtain ⟨t',rfl⟩:=ry;exact PySem.EqMixed.ne_str_int (Bd I q (by simp))
  |str j=>obtain ⟨t',rfl⟩:=ry;exact ne_str (Bd I q (congrArg not dec_str))
  |_=>exact absurd (show false=true from hs) Bool.false_ne_true
 |byt i=>
  obtain ⟨t,rfl⟩:=rx
  cases y with
  |byt j=>obtain ⟨t',rfl⟩:=ry;exact PySem.W.ne_bytes (Bd I q (congrArg not dec_byt))
  |_=>exact absurd (show false=true from hs) Bool.false_ne_true
 |_=>cases y<;> exact absurd (show false=true from hs) Bool.false_ne_true
theorem op_lt:OpR X (compareOp .Lt) (rI0 fun i j=> .bl (decide (i<j))):=opB0 fun _ _ _ _ _ _ _ q=>lt_int q
theorem op_le:OpR X (compareOp .LtE) (rI0 fun i j=> .bl (decide (i≤j))):=opB0 fun _ _ _ _ _ _ _ q=>le_int q
theorem op_gt:OpR X (compareOp .Gt) (rI0 fun i j=> .bl (decide (j<i))):=opB0 fun _ _ _ _ _ _ _ q=>gt_int q
theorem op_ge:OpR X (compareOp .GtE) (rI0 fun i j=> .bl (decide (j≤i))):=opB0 fun _ _ _ _ _ _ _ q=>ge_int q
theorem op_lt_str:OpR X (compareOp .Lt) (fun x y H Q=>∃i j,x= .str i∧y= .str j∧Q (.bl (decide (i.cps.toList<j.cps.toList))) H):=by
 intro pins s σ H x y v u Q I rx ry h
 obtain ⟨i,j,rfl,rfl,q⟩:=h
 obtain ⟨t,rfl⟩:=rx
 obtain ⟨t',rfl⟩:=ry
 exact lt_str (Bd I q rfl)
theorem Cf:OpR X (compareOp .Is) (fun x y H Q=>y= .non∧Q (.bl (decide (x= .non))) H):=by
 intro pins s σ H x y v u Q I rx ry h
 obtain ⟨rfl,q⟩:=h
 cases ry
 refine is_none_gen (Bd I q ?_)
 cases x<;> first
  |(cases rx;rfl)
  |(obtain ⟨t,rfl⟩:=rx;rfl)
theorem op_notN:OpR X (compareOp .IsNot) (fun x y H Q=>y= .non∧Q (.bl (!decide (x= .non))) H):=by
 intro pins s σ H x y v u Q I rx ry h
 obtain ⟨rfl,q⟩:=h
 cases ry
 refine isnot_none_gen (Bd I q ?_)
 cases x<;> first
  |(cases rx;rfl)
  |(obtain ⟨t,rfl⟩:=rx;rfl)
theorem An (b:Expr) {op:CmpOp} (h:op≠ .In:=by decide) (h2:op≠ .NotIn:=by decide):behindInMarks op b=false:=by
 have e1:(op==CmpOp.In)=false:=by cases op<;> first|rfl|exact absurd rfl h
 have e2:(op==CmpOp.NotIn)=false:=by cases op<;> first|rfl|exact absurd rfl h2
 cases b<;> simp [behindInMarks,e1,e2]
theorem A7 {op:CmpOp} {r:R2} (ho:OpR X (compareOp op) r) (ha:PE X a ta) (hb:PE X b tb) (hm:behindInMarks op b=false):PE X (.Compare a [op] [b] pos) (tOp r ta tb):=by
 intro pins s σ H Q I h
 exact wpAny_Compare1 (binT ha hb I h fun v u s2 x y H2 I2 rx ry q=>ho pins s2 σ H2 x y v u Q I2 rx ry q) hm
def tTest (t:TE):TT:=fun σ H Q=>t σ H fun x H'=>BlP x H' Q
theorem Ao {op:CmpOp} {r:R2} (ho:OpR X (compareOp op) r) (ha:PE X a ta) (hb:PE X b tb) (hm:behindInMarks op b=false):PT X (.Compare a [op] [b] pos) (tTest (tOp r ta tb)):=by
 intro pins s σ H Q I h
 refine wpAny_isTrue_Compare1 (thn (ha pins s σ H _ I h) fun v s1 ⟨x,H1,I1,r1,q1⟩=>thn (hb pins s1 σ H1 _ I1 q1) fun u s2 ⟨y,H2,I2,r2,q2⟩=>
  thn (ho pins s2 σ H2 x y v u _ I2 r1 r2 q2) fun c s3 ⟨z,H3,I3,r3,k,e,q3⟩=> ?_) hm
 subst e
 cases r3
 exact wpAny_truthy_bool ⟨H3,I3,q3⟩
def TruV (K:PySem.W.Frag) (x:V) (H:Hp) (k:Bool):Prop:=
 match x with
 | .non=>k=false
 | .bl b=>k=b
 | .int i=>k=(i !=0)
 | .str y=>y.length≤sizeLine∧k=((y.length:Int) !=0)
 | .byt y=>y.size≤sizeLine∧k=((y.size:Int) !=0)
 | .ref p=>(∃xs,SqL K H p xs∧k= !xs.isEmpty)∨(∃xs,SqT K H p xs∧k= !xs.isEmpty)∨∃kvs,H p=some (.dK kvs)∧k= !kvs.isEmpty
 |_=>False
theorem isEmpty_kv {κ:Type} {kvs:List (κ×V)} {vs:List (κ×Value)} (r:KV kvs vs):(!vs.isEmpty)= !kvs.isEmpty:=by
 cases r<;> rfl
theorem isEmpty_of {xs:List V} {its:List Value} (r:Vals xs its):(!its.toArray.isEmpty)= !xs.isEmpty:=by
 cases r<;> simp
theorem line63:(sizeLine:Nat)<2 ^ 63:=by rw [sizeLine_eq];decide
theorem tru_ok:TruR X (fun x H Q=>∃k,TruV X.K x H k∧Q k H):=by
 intro pins s σ H x v Q I rx h
 obtain ⟨k,e,q⟩:=h
 have hl:=line63
 have hs:sizeLine=16777216:=sizeLine_eq
 cases x with
 |non=>
  cases rx
  have e':k=false:=e
  subst e'
  exact truthy_none ⟨H,I,q⟩
 |bl b=>
  cases rx
  have e':k=b:=e
  subst e'
  exact wpAny_truthy_bool ⟨H,I,q⟩
 |int i=>
  obtain ⟨t,rfl⟩:=rx
  have e':k=(i !=0):=e
  subst e'
  exact PySem.P.truthy_int ⟨H,I,q⟩
 |str y=>
  obtain ⟨t,rfl⟩:=rx
  obtain ⟨hy,e'⟩:y.length≤sizeLine∧k=((y.length:Int) !=0):=e
  subst e'
  exact PySem.P.truthy_str (by omega) ⟨H,I.tok _,q⟩
 |byt y=>
  obtain ⟨t,rfl⟩:=rx
  obtain ⟨hy,e'⟩:y.size≤sizeLine∧k=((y.size:Int) !=0):=e
  subst e'
  exact PySem.W.truthy_bytes (by exact Nat.le_trans (by assumption) (by decide)) ⟨H,I.tok _,q⟩
 |ref p=>
  cases rx
  have e':(∃xs,SqL X.K H p xs∧k= !xs.isEmpty)∨(∃xs,SqT X.K H p xs∧k= !xs.isEmpty)∨∃kvs,H p=some (.dK kvs)∧k= !kvs.isEmpty:=e
  rcases e' with ⟨xs,hx,e'⟩|⟨xs,hx,e'⟩|⟨kvs,hx,e'⟩
  ·subst e'
   obtain ⟨its,r,pl,hz⟩:=I.list hx
   have hlen:=r.length
   exact wpAny_truthy_list pl.isList (by simp only [List.size_toArray];omega) ⟨H,I.tok _,by rw [isEmpty_of r];exact q⟩
  ·subst e'
   obtain ⟨its,r,pl,hz⟩:=I.tuple hx
   have hlen:=r.length
   exact truthy_tuple pl (by simp only [List.size_toArray];omega) ⟨H,I.tok _,by rw [isEmpty_of r];exact q⟩
  ·subst e'
   obtain ⟨hz,hS,vs,r,m⟩:kvs.length≤sizeLine∧(p==sysModules)=false∧∃vs,KV kvs vs∧s.heap.DictOf (Bl X.prog X.w) p vs:=I.hok p _ hx
   have hlen:kvs.length=vs.length:=Paired.length r
   exact wpAny_truthy_dict hS m (by omega) ⟨H,I.tok _,by rw [isEmpty_kv r];exact q⟩
 |_=>exact (show False from e).elim
theorem pt_truth (ha:PE X a ta) (he:∀whole,isTrue a X.env whole=(do let v ←whole;standAt a.pos;holding [v] (truthy v))):
  PT X a (fun σ H Q=>ta σ H fun x H'=>∃k,TruV X.K x H' k∧Q k H'):=by
 intro pins s σ H Q I h
 exact isTrue_plain (thn (ha pins s σ H _ I h) fun v s1 ⟨x,H1,I1,r1,q1⟩=>tru_ok pins s1 σ H1 x v Q I1 r1 q1) (he _)
theorem op_add_str:OpR X (binaryOp .Add) (fun x y H Q=>∃i j,x= .str i∧y= .str j∧i.length+j.length≤sizeLine∧Q (.str (i++j)) H):=by
 intro pins s σ H x y v u Q I rx ry h
 obtain ⟨i,j,rfl,rfl,hz,q⟩:=h
 obtain ⟨t,rfl⟩:=rx
 obtain ⟨t',rfl⟩:=ry
 exact add_str (fun t' tk=>⟨.str (i++j),H,I.tok _,⟨_,rfl⟩,q⟩) hz
theorem vals1 {x:V} {us:List Value} (r:Vals [x] us):∃u,us=[u]∧RelV x u:=by
 cases r with
 |cons r1 r2=>cases r2;exact ⟨_,rfl,r1⟩
theorem vals2 {x y:V} {us:List Value} (r:Vals [x,y] us):∃u w',us=[u,w']∧RelV x u∧RelV y w':=by
 cases r with
 |cons r1 r2=>
  cases r2 with
  |cons r3 r4=>cases r4;exact ⟨_,_,rfl,r1,r3⟩
theorem call_max2 (hc:X.calm=true):CallR X (.builtin "max") (fun xs H Q=>∃i j,xs=[.int i,.int j]∧Q (.int (if j > i then j else i)) H):=by
 intro pins s σ H xs us Q I r h
 obtain ⟨i,j,rfl,q⟩:=h
 obtain ⟨u,w',rfl,⟨t,rfl⟩,⟨t',rfl⟩⟩:=vals2 r
 refine max_two_ints (I.ok.hd hc) fun h' tk k=>⟨_,H,I.kept k,?_,q⟩
 by_cases hj:j > i
 ·rw [if_pos hj,if_pos hj];exact ⟨_,rfl⟩
 ·rw [if_neg hj,if_neg hj];exact ⟨_,rfl⟩
theorem call_min2 (hc:X.calm=true):CallR X (.builtin "min") (fun xs H Q=>∃i j,xs=[.int i,.int j]∧Q (.int (if j<i then j else i)) H):=by
 intro pins s σ H xs us Q I r h
 obtain ⟨i,j,rfl,q⟩:=h
 obtain ⟨u,w',rfl,⟨t,rfl⟩,⟨t',rfl⟩⟩:=vals2 r
 refine min_two_ints (I.ok.hd hc) fun h' tk k=>⟨_,H,I.kept k,?_,q⟩
 by_cases hj:j<i
 ·rw [if_pos hj,if_pos hj];exact ⟨_,rfl⟩
 ·rw [if_neg hj,if_neg hj];exact ⟨_,rfl⟩
theorem call_int1:CallR X (.type "int") (fun xs H Q=>(∃i,xs=[.int i]∧Q (.int i) H)∨∃k,xs=[.bl k]∧Q (.int (if k then 1 else 0)) H):=by
 intro pins s σ H xs us Q I r h
 rcases h with ⟨i,rfl,q⟩|⟨k,rfl,q⟩
 ·obtain ⟨u,rfl,t,rfl⟩:=vals1 r
  exact call_int_int ⟨.int i,H,I,⟨_,rfl⟩,q⟩
 ·obtain ⟨u,rfl,r1⟩:=vals1 r
  cases r1
  exact call_int_bool ⟨.int (if k then 1 else 0),H,I.tok _,⟨_,rfl⟩,q⟩
end
end L2
namespace L2
open PySem PySem.Spec PyProof.Rows
structure ObjM (h:Heap) (x dx C:Addr) (mA:Str→Option Value):Prop where
 obj:h.get? x=some (PySem.W.instObj C dx)
 ns:h.Ns1 dx mA
 ne:dx≠x
theorem lookIn_ns {h:Heap} {dx:Addr} {mA:Str→Option Value} (n:h.Ns1 dx mA):∃od,h.get? dx=some od∧∀name,PySem.W.lookIn name od=some (mA name):=by
 obtain ⟨o,es,ep,ho,hd,hk,_,hm⟩:=n
 refine ⟨o,ho,fun name=> ?_⟩
 have e:=hm name
 unfold nsFind findBy at e
 rw [←Array.find?_toList] at e
 unfold PySem.W.lookIn
 rw [hd]
 dsimp only
 split
 ·rename_i y q
  rw [q] at e
  exact congrArg some e
 ·rename_i q
  rw [q] at e
  have a:es.toList.any (·.refKey)=false:=by
   rw [List.any_eq_false]
   intro y hy
   obtain ⟨z,t,hkey⟩:=hk y (Array.mem_toList_iff.mp hy)
   simp [DictEntry.refKey,hkey]
  have a':¬es.toList.any (·.refKey)=true:=by rw [a];exact Bool.false_ne_true
  rw [if_neg a']
  exact congrArg some e
theorem ObjM.look {h:Heap} {x dx C:Addr} {mA:Str→Option Value} (I:ObjM h x dx C mA):∃od,PySem.W.InstAt h x (PySem.W.instObj C dx) C (some od)∧∀name,PySem.W.lookIn name od=some (mA name):=
 let ⟨od,ho,hl⟩:=lookIn_ns I.ns
 ⟨od,⟨I.obj,rfl,rfl,ho⟩,hl⟩
theorem RelO.some_of {v:V} {o:Option Value} (r:RelO (some v) o):∃u,o=some u∧RelV v u:=by
 cases o with
 |none=>exact (show False from r).elim
 |some u=>exact ⟨u,rfl,r⟩
section
variable {P:Program} {w:World} {H H':Hp} {h h':Heap} {a C dx:Addr} {fs fs':List (Str×V)}
theorem ins_get (hok:HOk P w H h) (e:H a=some (.ins C dx fs)):∃mA,ObjM h a dx C mA∧(∀f,RelO (fs.lookup f) (mA f))∧PySem.Within mA (fs.map (·.1))∧fs.length≤1000∧H dx=some (.own a):=by
 obtain ⟨d,z,ne,ob,mA,n,r,q⟩:=(show ObjOk P w H h a (.ins C dx fs) from hok a _ e)
 exact ⟨mA,⟨ob,n,ne⟩,r,q,z,d⟩
end
structure Cls (K:PySem.W.Frag) (C:Addr):Prop where
 pg:PySem.W.plainGet K C Str.empty=true
 hd:PySem.W.hasDictIn K C=true
 po:PySem.W.plainOver K C=true
 sa:PySem.W.findIn K (.ref C) "__setattr__"=some (some (.builtin "object.__setattr__"))
theorem Cls.get {K:PySem.W.Frag} {C:Addr} (c:Cls K C) (f:Str):PySem.W.plainGet K C f=true:=c.pg
section
variable {X:Cx} {pins:List (Addr×Obj)} {σ:St} {H:Hp} {s:Shared} {A:Around} {E:Value→Shared→Prop} {Q:Value→Shared→Prop} {c:Value} {b:Bool}
inductive TyOf (K:PySem.W.Frag) (H:Hp):V→Value→Prop where
 |non:TyOf K H .non (.type "NoneType")
 |bl (x:Bool):TyOf K H (.bl x) (.type "bool")
 |int (i:Int):TyOf K H (.int i) (.type "int")
 |str (x:Str):TyOf K H (.str x) (.type "str")
 |flt (x:UInt64):TyOf K H (.flt x) (.type "float")
 |lst {a:Addr} {xs:List V} (e:H a=some (.lst xs)):TyOf K H (.ref a) (.type "list")
 |frz {a:Addr} {o:Obj} {xs:List V} (e:H a=some (.frz o (.lst xs))):TyOf K H (.ref a) (.type "list")
 |tup {a:Addr} {xs:List V} (e:H a=some (.tup xs)):TyOf K H (.ref a) (.type "tuple")
 |dK {a:Addr} {kvs:List (Key×V)} (e:H a=some (.dK kvs)):TyOf K H (.ref a) (.type "dict")
 |dT {a:Addr} {kvs:List (List Key×V)} (e:H a=some (.dT kvs)):TyOf K H (.ref a) (.type "dict")
 |ins {a C dx:Addr} {fs:List (Str×V)} (e:H a=some (.ins C dx fs)) (cl:Cls K C) (ha:PySem.W.findIn K (.ref C) "__class__"=some (some (.builtin "object.__class__")))
  (hn:PySem.W.specialIn K (.builtin "object.__class__") "__get__"=some (some (.builtin "getset_descriptor.__get__"))) (htk:PySem.W.takesIn K (.builtin "object.__class__")=some true)
  (hm:PySem.W.mroIn K C (.type "object")=some true):TyOf K H (.ref a) (.ref C)
theorem isinst_ok {x:V} {u t:Value} (I:Inv X pins σ H s) (rx:RelV x u) (ty:TyOf X.K H x t) (e:PySem.W.kitOne X.K t c=some b) (h:∀tk,Q (.bool b) {s with toks:=tk}):
  wpAny (model X.prog X.w) A (call (.builtin "isinstance") [u,c]) Q E s:=by
 cases ty with
 |non=>cases (show u=Value.none from rx);exact PySem.W.kia_one PySem.W.kitx_none I.kIn True.intro e (fun z=>nomatch z) h
 |bl y=>cases (show u=Value.bool y from rx);exact PySem.W.kia_one PySem.W.kitx_bool I.kIn True.intro e (fun z=>nomatch z) h
 |int i=>obtain ⟨t,q⟩:=(show ∃t,u=Value.int i t from rx);cases q;exact PySem.W.kia_one PySem.W.kitx_int I.kIn True.intro e (fun z=>nomatch z) h
 |str y=>obtain ⟨t,q⟩:=(show ∃t,u=Value.str y t from rx);cases q;exact PySem.W.kia_one PySem.W.kitx_str I.kIn True.intro e (fun z=>nomatch z) h
 |flt y=>obtain ⟨t,q⟩:=(show ∃t,u=Value.float y t from rx);cases q;exact PySem.W.kia_one PySem.W.kitx_float I.kIn True.intro e (fun z=>nomatch z) h
 | @lst a xs ea=>
  cases (show u=Value.ref a from rx)
  obtain ⟨_,_,n,_,h1⟩:=(show ObjOk X.prog X.w H s.heap a (.lst xs) from I.hok a _ ea)
  exact PySem.W.kia_one PySem.W.kitx_list I.kIn ⟨_,h1,rfl⟩ e (fun z=>nomatch z) h
 | @frz a ob xs ea=>
  cases (show u=Value.ref a from rx)
  obtain ⟨_,_,_,n,_,h1⟩:=(show ObjOk X.prog X.w H s.heap a (.frz ob (.lst xs)) from I.hok a _ ea)
  exact PySem.W.kia_one PySem.W.kitx_list I.kIn ⟨_,h1,rfl⟩ e (fun z=>nomatch z) h
 | @tup a xs ea=>
  cases (show u=Value.ref a from rx)
  obtain ⟨_,_,_,p⟩:=(show ObjOk X.prog X.w H s.heap a (.tup xs) from I.hok a _ ea)
  obtain ⟨o,h1,h2,_⟩:=p
  exact PySem.W.kia_one PySem.W.kitx_tuple I.kIn ⟨o,h1,h2⟩ e (fun z=>nomatch z) h
 | @dK a kvs ea=>
  cases (show u=Value.ref a from rx)
  obtain ⟨_,_,vs,_,p⟩:=(show ObjOk X.prog X.w H s.heap a (.dK kvs) from I.hok a _ ea)
  obtain ⟨o,es,ep,h1,h2,_⟩:=p
  exact PySem.W.kia_one PySem.W.kitx_dict I.kIn ⟨o,h1,h2.1⟩ e (fun z=>nomatch z) h
 | @dT a kvs ea=>
  cases (show u=Value.ref a from rx)
  obtain ⟨_,_,xs,_,o,es,ep,h1,h2,_⟩:=(show ObjOk X.prog X.w H s.heap a (.dT kvs) from I.hok a _ ea)
  exact PySem.W.kia_one PySem.W.kitx_dict I.kIn ⟨o,h1,h2.1⟩ e (fun z=>nomatch z) h
 | @ins a C dx fs ea cl ha hn htk hm=>
  cases (show u=Value.ref a from rx)
  obtain ⟨mA,O,_⟩:=ins_get I.hok ea
  obtain ⟨od,J,_⟩:=O.look
  exact PySem.W.kia_one (PySem.W.kitx_own (cl.get _) cl.hd ha hn htk hm) I.kIn J e (fun z=>nomatch z) h
end
end L2
namespace L2
open PySem PySem.Spec PyProof.Rows
structure Room (k:Nat) (A:Around):Prop where
 hd:A.handled=none
 dp:A.depth+3 * k+5<recursionLimit
 un:A.units+16 * k+200<cLine
 gd:A.guards=some []
theorem Room.mono {j k:Nat} {A:Around} (r:Room k A) (h:j≤k):Room j A:=⟨r.hd,by have:=r.dp;omega,by have:=r.un;omega,r.gd⟩
theorem Room.deeper {k:Nat} {A:Around} (r:Room (k+1) A) (env:Env):Room k (A.deeper env):=
 ⟨r.hd,by have:=r.dp;show A.depth+1+3 * k+5<_;omega,by have:=r.un;show A.units+3+16 * k+200<_;omega,by show pushGuards [] A.guards=some [];rw [r.gd];rfl⟩
theorem Room.depth {k:Nat} {A:Around} (r:Room k A):A.depth<recursionLimit:=by have:=r.dp;omega
theorem Room.units {k:Nat} {A:Around} (r:Room k A):A.units+64<cLine:=by have:=r.un;omega
def tNil:TA:=fun _ H Q=>Q [] H
def tCons (ta:TE) (tr:TA):TA:=fun σ H Q=>ta σ H fun x H1=>tr σ H1 fun xs H2=>Q (x::xs) H2
section
variable {X:Cx} {e:Expr} {es:List Expr} {te:TE} {t:TA} {pos:Pos}
theorem Ac:PA X [] tNil:=fun _ _ _ _ H Q I h=>Calls.spliced_nil ⟨[],H,I,.nil,h⟩
theorem Aa (ha:PE X e te) (hr:PA X es t) (hs:starEach (e::es) X.env=(false,eval e X.env)::starEach es X.env:=by rfl):PA X (e::es) (tCons te t):=by
 intro pos pins s σ H Q I h
 rw [hs]
 show wpAny _ _ (spliced ((false,eval e X.env)::backTo pos (starEach es X.env))) _ _ s
 refine Calls.spliced_cons (thn (ha pins s σ H _ I h) fun u s1 ⟨x,H1,I1,r1,q1⟩=> ?_)
 exact thn (hr pos pins s1 σ H1 _ I1 q1) fun us s2 ⟨xs,H2,I2,r2,q2⟩=>⟨x::xs,H2,I2,.cons r1 r2,q2⟩
def tTup (t:TA):TE:=fun σ H Q=>t σ H fun xs H1=>xs.length≤sizeLine∧∀p,H1 p=none→Q (.ref p) (upd H1 p (.tup xs))
def tLst (t:TA):TE:=fun σ H Q=>t σ H fun xs H1=>xs.length≤sizeLine∧∀p,H1 p=none→Q (.ref p) (upd H1 p (.lst xs))
theorem Bf {x1} (h:PA X es t):PE X (.Tuple es x1 pos) (tTup t):=by
 intro pins s σ H Q I hq
 refine wpAny_Tuple_spliced (thn (h pos pins s σ H _ I hq) fun us s1 ⟨xs,H1,I1,r,z,q⟩=>⟨by rw [←r.length];exact z,?_⟩)
 have hf:H1 s1.heap.objs.size=none:=I1.hok.fresh (Nat.le_refl _)
 refine ⟨.ref s1.heap.objs.size,upd H1 s1.heap.objs.size (.tup xs),I1.laid (t':=s1.toks) (fun b u e=>Heap.get?_push_of_some _ e) (Nat.le_refl _) ?_,rfl,q _ hf⟩
 exact ⟨z,us,r,IsTupN.new _ _⟩
theorem Ch (h:PA X es t):PE X (.List es pos) (tLst t):=by
 intro pins s σ H Q I hq
 refine wpAny_List_spliced (thn (h pos pins s σ H _ I hq) fun us s1 ⟨xs,H1,I1,r,z,q⟩=>⟨by rw [←r.length];exact z,?_⟩)
 have hf:H1 s1.heap.objs.size=none:=I1.hok.fresh (Nat.le_refl _)
 refine ⟨.ref s1.heap.objs.size,upd H1 s1.heap.objs.size (.lst xs),I1.laid (t':=s1.toks) (fun b u e=>Heap.get?_push_of_some _ e) (Nat.le_refl _) ?_,rfl,q _ hf⟩
 exact ⟨z,us,0,r,Heap.get?_push_size _ rfl⟩
end
abbrev Sp:=List V→Hp→VK→XK→Prop
abbrev CXT:=List Env→Hp→Shared→XK→Value→Shared→Prop
structure Env0 (P:Program) (w:World) (K:PySem.W.Frag) (mg:Str→Option Value) (base:Heap) (A:Around) (outer:List Env) (s:Shared) (H:Hp):Prop where
 frames:A.frames=some outer
 mod:Mod K mg base
 bs:∀b o,base.get? b=some o→s.heap.get? b=some o∧H b=none
 bsz:base.objs.size≤s.heap.objs.size
 funs:s.heap.FunFrames base outer
 frf:∀b∈frs outer,H b=none
 hok:HOk P w H s.heap
 bare:AllBare s.gens
def CE (outer:List Env) (P:Program) (w:World) (H:Hp) (s:Shared) (Q:VK) (u:Value) (s':Shared):Prop:=
 ∃v H',s'.os=s.os∧AllBare s'.gens∧Un (frs outer) [] H H' s.heap s'.heap∧HOk P w H' s'.heap∧RelV v u∧Q v H'
def CR (CX:CXT) (outer:List Env) (P:Program) (w:World) (H:Hp) (s:Shared) (Q:VK) (E:XK) (r:Result) (s':Shared):Prop:=
 match r with
 | .ok (.ret u)=>CE outer P w H s Q u s'
 | .ok _=>False
 | .error e=>CX outer H s E e s'
structure FnOk (P:Program) (w:World) (K:PySem.W.Frag) (mg:Str→Option Value) (base:Heap) (CX:CXT) (k:Nat) (f:Addr) (fd:FuncData) (ps:List Str) (sp:Sp):Prop where
 len:∀vs H Q E,sp vs H Q E→vs.length=ps.length
 run:∀(A:Around) (outer:List Env) (s:Shared) (H:Hp) (args:Args) (us:List Value) (vs:List V) (Q:VK) (E:XK),Room k A→Env0 P w K mg base A outer s H→BindsTo s fd args (ps.zip us)→Vals vs us→sp vs H Q E→
  codeAny (model P w) A (.call (.ref f) args) (CR CX outer P w H s Q E) s
theorem FnOk.mono {P:Program} {w:World} {K:PySem.W.Frag} {mg:Str→Option Value} {base:Heap} {CX:CXT} {j k:Nat} {f:Addr} {fd:FuncData} {ps:List Str} {sp:Sp} (F:FnOk P w K mg base CX j f fd ps sp) (h:j≤k):
  FnOk P w K mg base CX k f fd ps sp:=⟨F.len,fun A outer s H args us vs Q E hr=>F.run A outer s H args us vs Q E (hr.mono h)⟩
theorem FnOk.imp {P:Program} {w:World} {K:PySem.W.Frag} {mg:Str→Option Value} {base:Heap} {CX:CXT} {k:Nat} {f:Addr} {fd:FuncData} {ps:List Str} {sp sp':Sp} (F:FnOk P w K mg base CX k f fd ps sp)
  (h:∀vs H Q E,sp' vs H Q E→sp vs H Q E):FnOk P w K mg base CX k f fd ps sp':=
 ⟨fun vs H Q E q=>F.len vs H Q E (h _ _ _ _ q),fun A outer s H args us vs Q E hr he hb hv hs=>F.run A outer s H args us vs Q E hr he hb hv (h _ _ _ _ hs)⟩
section
variable {X:Cx} {pins:List (Addr×Obj)} {σ:St} {H:Hp} {s s':Shared}
theorem Inv.env0 (I:Inv X pins σ H s):Env0 X.prog X.w X.K X.mg X.base X.A X.stack s H:=
 ⟨I.ok.frames,I.ok.mod,I.bs,Nat.le_trans I.ok.bsz I.sz,I.stack,I.stkFree,I.hok,I.bare⟩
theorem Inv.after {Q:VK} {u:Value} (I:Inv X pins σ H s) (h:CE X.stack X.prog X.w H s Q u s'):EP X pins σ Q u s':=by
 obtain ⟨v,H',os,bare,un,hok,r,q⟩:=h
 obtain ⟨hh,g,d,t,os'⟩:=s'
 obtain rfl:os'=s.os:=os
 exact ⟨v,H',I.call (h':=hh) (g':=g) (d':=d) (t':=t) (ch:=[]) un hok bare (fun b z=>absurd z (by simp)),r,q⟩
end
def tCall (sp:Sp) (dvs:List V) (E:XK) (t:TA):TE:=fun σ H Q=>t σ H fun vs H1=>sp (vs++dvs) H1 Q E
def Binds (K:PySem.W.Frag) (fd:FuncData) (ps:List Str) (ds:List Value):Prop:=
 ∀(s:Shared) (us:List Value),K.In s.heap→(us++ds).length=ps.length→BindsTo s fd ⟨us,[]⟩ (ps.zip (us++ds))
theorem Binds.all {K:PySem.W.Frag} {fd:FuncData} {ps:List Str} (h:∀us:List Value,us.length=ps.length→bindArgs fd ⟨us,[]⟩=pure (ps.zip us)):Binds K fd ps []:=fun s us _ hl=>by
 rw [List.append_nil] at hl ⊢
 exact .of_eq (h us hl)
def Passes (CX:CXT) (X:Cx) (E:XK):Prop:=∀(pins:List (Addr×Obj)) (σ:St) (H:Hp) (s:Shared) (e:Value) (s':Shared),Inv X pins σ H s→CX X.stack H s E e s'→X.xe e s'
section
variable {X:Cx} {CX:CXT} {k:Nat} {f C:Addr} {fd:FuncData} {ps:List Str} {sp:Sp} {dvs:List V} {ds:List Value} {E:XK} {x m:Str} {p pos apos:Pos} {e o:Expr} {es:List Expr} {ta:TE} {t:TA}
theorem run_fn {pins:List (Addr×Obj)} {σ:St} {H:Hp} {s:Shared} {Q:VK} {us:List Value} {vs:List V} (F:FnOk X.prog X.w X.K X.mg X.base CX k f fd ps sp) (hr:Room k X.A) (hb:Binds X.K fd ps ds) (hd:Vals dvs ds) (hx:Passes CX X E)
  (I:Inv X pins σ H s) (r:Vals vs us) (h:sp (vs++dvs) H Q E):wpAny (model X.prog X.w) X.A (call (.ref f) us) (EP X pins σ Q) X.xe s:=by
 have r2:Vals (vs++dvs) (us++ds):=r.append hd
 have hl:(us++ds).length=ps.length:=by rw [←r2.length];exact F.len _ _ _ _ h
 refine wpAny_call (codeAny_mono (F.run X.A X.stack s H ⟨us,[]⟩ (us++ds) (vs++dvs) Q E hr I.env0 (hb s us I.kIn hl) r2 h) fun r s' hq=> ?_)
 cases r with
 |error e=>exact hx pins σ H s e s' I hq
 |ok fl=>
  cases fl with
  |ret u=>exact I.after hq
  |next=>exact False.elim hq
  |brk=>exact False.elim hq
  |cont=>exact False.elim hq
theorem Aq (F:FnOk X.prog X.w X.K X.mg X.base CX k f fd ps sp) (hr:Room k X.A) (hg:Gl X x) (hm:X.mg x=some (.ref f)) (hk:PySem.W.keepIn X.K (.ref f)=true) (hb:Binds X.K fd ps ds) (hd:Vals dvs ds) (hx:Passes CX X E)
  (ha:PA X (e::es) t) (hdb:(x==("__debug__":Str))=false:=by decide) (he:starEach (e::es) X.env=(false,eval e X.env)::starEach es X.env:=by rfl) (hpl:(backTo pos (starEach es X.env)).any (·.1)=false:=by rfl):
  PE X (.Call (.Name x p) (e::es) [] pos) (tCall sp dvs E t):=by
 intro pins s σ H Q I h
 refine wpAny_Call_Name_kw (ld_glob I hg hm ?_ hdb)
 refine PySem.W.callWith_K (h₀:=X.base) I.ok.mod.kin hk (thn (ha pos pins s σ H _ I h) fun us s1 ⟨vs,H1,I1,r,q⟩=>⟨I1.kIn,?_⟩) he hpl
 exact run_fn F hr hb hd hx I1 r q
end
section
variable {X:Cx} {CX:CXT} {k:Nat} {f C:Addr} {fd:FuncData} {ps ks:List Str} {sp:Sp} {E:XK} {x m:Str} {p pos apos kpos:Pos} {e o:Expr} {es:List Expr} {kws:List Keyword} {te ta:TE} {t tk:TA} {nm:Option Str}
variable {g:List Value→List Value→List Value} {gV:List V→List V→List V}
end
structure A4 (N P:List Str) (sc:Scope):Prop where
 kind:sc.kind= .function
 co:sc.isCoroutine=false
 gen:sc.isGenerator=false
 nd:N.Nodup
 pre:N.take P.length=P
 par:∀x∈P,sc.names.lookup x=some .local∨sc.names.lookup x=some .cell
 nofree:∀y∈sc.names,y.2≠ .free
theorem bindL_out {kindOf:Str→Option NameKind} {x:Str}:∀{binds:List (Str×Value)} {m:Str→Option Value},(∀v,(x,v) ∉ binds)→bindL kindOf binds m x=m x
 |[],_,_=>rfl
 |(n,v)::r,m,h=>by
  unfold bindL
  rw [bindL_out fun w hw=>h w (List.mem_cons_of_mem _ hw)]
  split
  ·have:x≠n:=by rintro rfl;exact h v List.mem_cons_self
   simp [this]
  ·rfl
theorem bindC_out {kindOf:Str→Option NameKind} {x:Str}:∀{binds:List (Str×Value)} {m:Str→Option Value},(∀v,(x,v) ∉ binds)→bindC kindOf binds m x=m x
 |[],_,_=>rfl
 |(n,v)::r,m,h=>by
  unfold bindC
  rw [bindC_out fun w hw=>h w (List.mem_cons_of_mem _ hw)]
  split
  ·rfl
  ·have:x≠n:=by rintro rfl;exact h v List.mem_cons_self
   simp [this]
theorem bindL_get {kindOf:Str→Option NameKind} {x:Str} {v:Value}:∀{P:List Str} {vs:List Value} {i:Nat} {m:Str→Option Value},P.Nodup→P[i]? =some x→vs[i]? =some v→kindOf x=some .local→
  bindL kindOf (P.zip vs) m x=some v
 |[],_,_,_,_,h,_,_=>by simp at h
 |_::_,[],_,_,_,_,h,_=>by simp at h
 |p::P,w::vs,0,m,nd,h1,h2,hk=>by
  simp at h1 h2;subst h1;subst h2
  show bindL kindOf ((p,w)::P.zip vs) m p=_
  unfold bindL
  rw [bindL_out fun v hv=>(List.nodup_cons.mp nd).1 (List.of_mem_zip hv).1,if_pos hk]
  simp
 |p::P,w::vs,i+1,m,nd,h1,h2,hk=>by
  show bindL kindOf ((p,w)::P.zip vs) m x=_
  unfold bindL
  exact bindL_get (i:=i) (List.nodup_cons.mp nd).2 (by simpa using h1) (by simpa using h2) hk
theorem bindC_get {kindOf:Str→Option NameKind} {x:Str} {v:Value}:∀{P:List Str} {vs:List Value} {i:Nat} {m:Str→Option Value},P.Nodup→P[i]? =some x→vs[i]? =some v→kindOf x≠some .local→
  bindC kindOf (P.zip vs) m x=some v
 |[],_,_,_,_,h,_,_=>by simp at h
 |_::_,[],_,_,_,_,h,_=>by simp at h
 |p::P,w::vs,0,m,nd,h1,h2,hk=>by
  simp at h1 h2;subst h1;subst h2
  show bindC kindOf ((p,w)::P.zip vs) m p=_
  unfold bindC
  rw [bindC_out fun v hv=>(List.nodup_cons.mp nd).1 (List.of_mem_zip hv).1,if_neg hk]
  simp
 |p::P,w::vs,i+1,m,nd,h1,h2,hk=>by
  show bindC kindOf ((p,w)::P.zip vs) m x=_
  unfold bindC
  exact bindC_get (i:=i) (List.nodup_cons.mp nd).2 (by simpa using h1) (by simpa using h2) hk
def start (N:List Str) (vs:List V):St:=vs.map some++List.replicate (N.length - vs.length) none
def cxOf (CX:CXT) (P:Program) (w:World) (K:PySem.W.Frag) (mg:Str→Option Value) (base:Heap) (N:List Str) (qual:Str) (scope:Scope) (f:Addr) (cd:Value) (A:Around) (outer:List Env) (s:Shared) (H:Hp) (E:XK):Cx where
 prog:=P
 w:=w
 K:=K
 mg:=mg
 base:=base
 A:=A.deeper (envOfC qual scope s.heap.objs.size f cd)
 N:=N
 s₀:=s
 H₀:=H
 env:=envOfC qual scope s.heap.objs.size f cd
 outer:=outer
 stack:=envOfC qual scope s.heap.objs.size f cd::outer
 ex:=[]
 calm:=true
 fn:=fun _=>true
 pn:=[]
 xe:=fun e s'=>wpAny (model P w) (A.deeper (envOfC qual scope s.heap.objs.size f cd)) (leaving (envOfC qual scope s.heap.objs.size f cd) e) (fun _ s''=>CX outer H s E e s'') (fun e' s''=>CX outer H s E e' s'') s'
theorem cell_has {sc:Scope} {n:Nat} {x:Str} (h:sc.names.lookup x=some .cell):∃c,(cellsFrom n sc.names []).lookup x=some c:=by
 have q:=PySem.W.cellsFrom_some sc.names n [] (.inl h)
 exact Option.isSome_iff_exists.mp q
theorem inv_start {CX:CXT} {P:Program} {w:World} {K:PySem.W.Frag} {mg:Str→Option Value} {base:Heap} {N ps:List Str} {qual:Str} {scope:Scope} {f:Addr} {cd:Value} {A:Around} {outer:List Env} {s s1:Shared} {H:Hp} {E:XK} {us:List Value} {vs:List V}
  (S:A4 N ps scope) (hd:A.handled=none) (e0:Env0 P w K mg base A outer s H) (hl:vs.length=ps.length) (r:Vals vs us)
  (x:InCallC s s.heap.objs.size (bindL (envOfC qual scope s.heap.objs.size f cd).kindOf (ps.zip us) fun _=>none) (cellsFrom (s.heap.objs.size+1) scope.names []) (bindC (envOfC qual scope s.heap.objs.size f cd).kindOf (ps.zip us) fun _=>none) s1):
  Inv (cxOf CX P w K mg base N qual scope f cd A outer s H E) [] (start N vs) H s1:=by
 have hpl:ps.length≤N.length:=by have:=congrArg List.length S.pre;rw [List.length_take] at this;omega
 obtain ⟨h1,tk,rfl,hk⟩:=x.done
 have noA:∀b:Addr,b ∉ (cxOf CX P w K mg base N qual scope f cd A outer s H E).ex:=fun b z=>absurd (show b∈([]:List Addr) from z) (by simp)
 refine ⟨⟨e0.mod,S.kind,rfl,rfl,Nat.le_refl _,fun y z c h1 h2=> ?_,fun y hy=> ?_,fun y c _ h=> ?_,fun _=>hd,Around.frames_deeper e0.frames,.inr ⟨rfl,rfl⟩,fun b z=>absurd z (noA b),e0.bs,e0.bsz,fun b _ _=>noA b,fun b z=>absurd z (noA b),e0.funs,e0.frf⟩,
  rfl,e0.bare,Un.kept hk,⟨_,x.toInCall.ns,fun i y v h1 h2 h3=> ?_⟩,fun y c h=>⟨_,x.cell y c h⟩,e0.hok.fresh (Nat.le_refl _),fun y c h=> ?_,fun p hp=>absurd (show p∈([]:List (Addr×Obj)) from hp) (by simp),e0.hok.kept hk,?_⟩
 ·exact name_of_addr x.apart (PySem.mem_of_lookup h1) (PySem.mem_of_lookup h2)
 ·have hy:scope.names.lookup y=some .cell∨scope.names.lookup y=some .free:=hy
  rcases hy with hy|hy
  ·exact cell_has hy
  ·exact absurd rfl (S.nofree _ (PySem.mem_of_lookup hy))
 ·exact Nat.le_of_lt (x.above y c (PySem.mem_of_lookup h))
 ·have hi:i<vs.length:=by
   unfold start at h2
   by_cases hi:i<vs.length
   ·exact hi
   ·rw [List.getElem?_append_right (by simpa using hi)] at h2
    rw [List.getElem?_replicate] at h2
    split at h2<;> cases h2
  have ha:vs[i]? =some v:=by
   unfold start at h2
   rw [List.getElem?_append_left (by simpa using hi),List.getElem?_map] at h2
   cases e:vs[i]? with
   |none=>rw [e] at h2;cases h2
   |some a=>rw [e] at h2;cases h2;rfl
  obtain ⟨u,hu,rv⟩:=r.get ha
  have hp:ps[i]? =some y:=by
   rw [←S.pre,List.getElem?_take_of_lt (by omega)];exact h1
  have ndP:ps.Nodup:=by rw [←S.pre];exact S.nd.sublist (List.take_sublist _ _)
  refine ⟨u,rv,?_⟩
  rcases S.par y (List.mem_of_getElem? hp) with k|k
  ·exact .inl ⟨k,bindL_get ndP hp hu k⟩
  ·obtain ⟨c,e⟩:=cell_has (n:=s.heap.objs.size+1) k
   refine .inr ⟨.inl k,c,e,?_⟩
   have q:=x.cell y c e
   rw [bindC_get ndP hp hu (by show scope.names.lookup y≠_;rw [k];decide)] at q
   exact q
 ·exact e0.hok.fresh (Nat.le_of_lt (x.above y c (PySem.mem_of_lookup h)))
 ·unfold start
  show _=N.length
  rw [List.length_append,List.length_map,List.length_replicate]
  omega
theorem fn_of {CX:CXT} {P:Program} {w:World} {K:PySem.W.Frag} {mg:Str→Option Value} {base:Heap} {k:Nat} {f:Addr} {name qual:Str} {params:Arguments} {body:List Stmt} {scope:Scope} {dV kV doc pm cdv ct oc:Value} {an od:Option Addr}
  {osl:Array (Option Value)} {N ps:List Str} {sp:Sp} (lk:K.lookup f=some ⟨oc,od,.func (PySem.W.fnOf name qual params body scope dV kV doc pm an cdv ct),osl⟩) (hcd:PySem.W.codeIn K cdv qual=true) (S:A4 N ps scope)
  (len:∀vs H Q E,sp vs H Q E→vs.length=ps.length)
  (hbody:∀(A:Around) (outer:List Env) (s:Shared) (H:Hp) (vs:List V) (Q:VK) (E:XK),Room k (A.deeper (envOfC qual scope s.heap.objs.size f cdv))→sp vs H Q E→
   ∃t,PSs (cxOf CX P w K mg base N qual scope f cdv A outer s H E) body t∧t {nx:=fun _ H'=>Q .non H',rt:=Q} (start N vs) H):
  FnOk P w K mg base CX (k+1) f (PySem.W.fnOf name qual params body scope dV kV doc pm an cdv ct) ps sp:=by
 refine ⟨len,fun A outer s H args us vs Q E hr e0 hb r hsp=> ?_⟩
 have hl:=len _ _ _ _ hsp
 have KX:K.In s.heap:=e0.mod.kin.keeps fun b o e=>(e0.bs b o e).1
 have lim:s.heap.NoLimit:=e0.mod.nolimit.keeps fun b o e=>(e0.bs b o e).1
 have hkind:∀y∈ps.zip us,scope.names.lookup y.1=some .local∨(scope.names.lookup y.1=some .cell∧((cellsFrom (s.heap.objs.size+1) scope.names []).lookup y.1).isSome=true):=fun ⟨n,v⟩ hy=>by
  rcases S.par n (List.of_mem_zip hy).1 with q|q
  ·exact .inl q
  ·exact .inr ⟨q,PySem.W.cellsFrom_some _ _ _ (.inl q)⟩
 refine codeAny_call_function hr.depth (KX _ _ lk) rfl S.co S.gen rfl (PySem.W.codeRec_of KX hcd) (hb _ _ _ _ ?_)
 refine wpAny_newFunctionEnv_cells S.kind hkind fun env he s1 x=> ?_
 subst he
 refine ⟨lim.keeps x.toInCall.keep,codeAny_func ?_⟩
 obtain ⟨t,ht,hq⟩:=hbody A outer s H vs Q E (hr.deeper _) hsp
 have I:Inv (cxOf CX P w K mg base N qual scope f cdv A outer s H E) [] (start N vs) H s1:=inv_start S hr.hd e0 hl r x
 refine wpAny_mono (ht [] s1 (start N vs) H _ I hq) (fun fl s' hs=> ?_) fun e s' hs=>hs
 have fin:∀{σ':St} {H':Hp} {v:V} {u:Value},Inv (cxOf CX P w K mg base N qual scope f cdv A outer s H E) [] σ' H' s'→RelV v u→Q v H'→CE outer P w H s Q u s':=
  fun {σ' H' v u} J rv q=>⟨v,H',J.os,J.bare,J.base,J.hok,rv,q⟩
 cases fl with
 |ret u=>
  obtain ⟨v,σ',H',J,rv,q⟩:=hs
  exact fin J rv q
 |next=>
  obtain ⟨σ',H',J,q⟩:=hs
  exact fin (v:=V.non) (u:=Value.none) J rfl q
 |brk=>
  obtain ⟨_,_,_,q⟩:=hs
  exact False.elim q
 |cont=>
  obtain ⟨_,_,_,q⟩:=hs
  exact False.elim q
end L2
namespace L2
open PySem PySem.Spec PyProof.Rows
section
variable {X:Cx} {x:Str} {p pos:Pos} {e:Expr} {es:List Expr} {t:TA} {id T:String} {r:List V→Hp→VK→Prop}
def tCB (r:List V→Hp→VK→Prop) (t:TA):TE:=fun σ H Q=>t σ H fun vs H1=>r vs H1 Q
theorem Ak (hc:CallR X (.builtin id) r) (hg:Gl X x) (hm:X.mg x=none) (hv:bootBuiltins x=some (.builtin id)) (ha:PA X (e::es) t) (hn:x≠"__name__":=by decide) (hdb:(x==("__debug__":Str))=false:=by decide)
  (he:starEach (e::es) X.env=(false,eval e X.env)::starEach es X.env:=by rfl) (hpl:(backTo pos (starEach es X.env)).any (·.1)=false:=by rfl):PE X (.Call (.Name x p) (e::es) [] pos) (tCB r t):=by
 intro pins s σ H Q I h
 refine wpAny_Call_Name_kw (ld_blt I hg hm hv ?_ hn hdb)
 exact PyProof.Rows.callWith_builtin1 (thn (ha pos pins s σ H _ I h) fun us s1 ⟨vs,H1,I1,r1,q1⟩=>hc pins s1 σ H1 vs us Q I1 r1 q1) he hpl
theorem A6 (hc:CallR X (.type T) r) (hg:Gl X x) (hm:X.mg x=none) (hv:bootBuiltins x=some (.type T)) (ha:PA X (e::es) t) (hn:x≠"__name__":=by decide) (hdb:(x==("__debug__":Str))=false:=by decide)
  (he:starEach (e::es) X.env=(false,eval e X.env)::starEach es X.env:=by rfl) (hpl:(backTo pos (starEach es X.env)).any (·.1)=false:=by rfl):PE X (.Call (.Name x p) (e::es) [] pos) (tCB r t):=by
 intro pins s σ H Q I h
 refine wpAny_Call_Name_kw (ld_blt I hg hm hv ?_ hn hdb)
 exact PyProof.Rows.callWith_type1 (thn (ha pos pins s σ H _ I h) fun us s1 ⟨vs,H1,I1,r1,q1⟩=>hc pins s1 σ H1 vs us Q I1 r1 q1) he hpl
end
end L2
namespace HT
open PySem PyProof.Rows
section
open PySem.SeqAt
open PySem.AutoSeq1 (wpAny_loadPart')
open PySem.MeetsSeq PySem.MeetsSeq2 PySem.MeetsSeq3
end
section
variable {prog:Program} {w:World} {A:Around} {E:Value→Shared→Prop} {s:Shared}
theorem cat_tup {t b:Addr} {vs ws:List Value} {Q:Value→Shared→Prop} (ht:IsTup s.heap t vs.toArray) (hb:IsTup s.heap b ws.toArray) (hv:vs≠[])
  (h1:ws=[]→Q (.ref t) s) (h2:ws≠[]→Q (.ref s.heap.objs.size) {s with heap:=s.heap.push {cls:= .type "tuple",data:= .seq (vs++ws).toArray}})
  (hsz:vs.length+ws.length≤sizeLine):wpAny (model prog w) A (binaryOp .Add (.ref t) (.ref b)) Q E s:=by
 obtain ⟨⟨cls,dd,data,sl⟩,ho,hc,n,hd⟩:=id ht
 obtain ⟨⟨cls2,dd2,data2,sl2⟩,ho2,hc2,n2,hd2⟩:=id hb
 simp only at hc hd hc2 hd2
 subst hc hd hc2 hd2
 have e:vs.toArray++ws.toArray=(vs++ws).toArray:=by simp
 by_cases hw:ws=[]
 ·exact concat_meets ⟨_,ho,rfl⟩ ⟨_,ho2,rfl⟩ noFill_tuple_add seq_tuple_add PySem.F.slot_tuple_add PySem.F.entry_tuple_add (PySem.F.args_tuple_add_2 _ _)
   (tuple_addW1 t b vs.toArray ws.toArray n n2 dd dd2 sl sl2 (by simpa using hv) (by simp [hw])) ⟨ho,ho2,h1 hw⟩
 ·refine concat_meets ⟨_,ho,rfl⟩ ⟨_,ho2,rfl⟩ noFill_tuple_add seq_tuple_add PySem.F.slot_tuple_add PySem.F.entry_tuple_add (PySem.F.args_tuple_add_2 _ _)
   (tuple_addW2 t b vs.toArray ws.toArray n n2 dd dd2 sl sl2 (by simpa using hv) (by simpa using hw) (by rw [List.size_toArray,List.size_toArray];exact hsz)) ⟨ho,ho2,?_⟩
  rw [e]
  exact h2 hw
def sIx (n d:Nat):Option Int→Nat
 |none=>d
 |some v=>if v<0 then (v+(n:Int)).toNat else min v.toNat n
theorem sIx_none (n d:Nat):sIx n d none=d:=rfl
theorem sIx_nat (n d k:Nat):sIx n d (some (k:Int))=min k n:=by
 show (if (k:Int)<0 then ((k:Int)+(n:Int)).toNat else min (k:Int).toNat n)=min k n
 rw [if_neg (by omega),Int.toNat_natCast]
theorem sIx_le (n d:Nat) (hd:d≤n) (o:Option Int):sIx n d o≤n:=by
 cases o with
 |none=>exact hd
 |some v=>
  show (if v<0 then (v+(n:Int)).toNat else min v.toNat n)≤n
  by_cases hv:v<0
  ·rw [if_pos hv];omega
  ·rw [if_neg hv];exact Nat.min_le_right _ _
theorem clip_eq (v:Int) (n d:Nat):(if v<0 then max (v+(n:Int)) 0 else min v (n:Int))=((sIx n d (some v):Nat):Int):=by
 show (if v<0 then max (v+(n:Int)) 0 else min v (n:Int))=(((if v<0 then (v+(n:Int)).toNat else min v.toNat n):Nat):Int)
 by_cases hv:v<0
 ·simp only [if_pos hv];omega
 ·simp only [if_neg hv];omega
theorem adjust_gen (lo hi:Option Int) (n:Nat):Builtin.Slice.sliceAdjust lo hi 1 (n:Int)=(((sIx n 0 lo:Nat):Int),((sIx n n hi:Nat):Int)):=by
 have h1:¬((1:Int)<0):=by decide
 unfold Builtin.Slice.sliceAdjust
 simp only [h1,if_false]
 refine Prod.ext ?_ ?_
 ·cases lo with
  |none=>rfl
  |some v=>exact clip_eq v n 0
 ·cases hi with
  |none=>rfl
  |some v=>exact clip_eq v n n
theorem places_gen (i j:Nat):Builtin.Slice.slicePlaces (i:Int) (j:Int) 1=j - i:=by
 unfold Builtin.Slice.slicePlaces
 have h1:(1:Int) > 0:=by decide
 simp only [h1,if_true,Int.ediv_one]
 split<;> omega
theorem slicePart_ {v:Value} {o:Option Int} {Q:Option Int→Shared→Prop} (p:IsPart v o) (h:Q o s):wpAny (model prog w) A (Builtin.Slice.slicePartIndex v) Q E s:=by
 cases p with
 |none=>exact slicePart_none h
 |int i t=>exact slicePart_int h
theorem sliceApplied_gen {sl:Addr} {vl vu:Value} {lo hi:Option Int} {n:Nat} {Q:Int×Int×Nat→Shared→Prop} (hs:s.heap.IsSliceOf sl vl vu .none) (pl:IsPart vl lo) (pu:IsPart vu hi)
  (h:Q (((sIx n 0 lo:Nat):Int),1,sIx n n hi - sIx n 0 lo) s):wpAny (model prog w) A (Builtin.Slice.sliceApplied (.ref sl) (pure (n:Int))) Q E s:=by
 obtain ⟨os,hos,hcs,hds⟩:=id hs
 unfold Builtin.Slice.sliceApplied Builtin.Slice.sliceFields
 refine wpAny_bind (wpAny_bind (wpAny_field hos hds (x:=vl) rfl (wpAny_bind (wpAny_field hos hds (x:=vu) rfl (wpAny_bind (wpAny_field hos hds (x:= .none) rfl (wpAny_pure ?_)))))))
 refine wpAny_bind (slicePart_none ?_)
 show wpAny _ _ (if ((1:Int)==0)=true then _ else _) _ _ s
 rw [if_neg (by decide)]
 refine wpAny_bind (slicePart_ pl (wpAny_bind (slicePart_ pu (wpAny_bind (wpAny_pure ?_)))))
 show wpAny _ _ (match Builtin.Slice.sliceAdjust lo hi 1 (n:Int) with|(lo,hi)=>pure (lo,(1:Int),Builtin.Slice.slicePlaces lo hi 1)) _ _ s
 rw [adjust_gen lo hi n]
 show wpAny _ _ (pure (((sIx n 0 lo:Nat):Int),(1:Int),Builtin.Slice.slicePlaces ((sIx n 0 lo:Nat):Int) ((sIx n n hi:Nat):Int) 1)) _ _ s
 rw [places_gen]
 exact wpAny_pure h
theorem pick_gen (xs:Array Value) (i k:Nat):((List.range k).filterMap fun (m:Nat)=>xs[((i:Int)+(m:Int) * 1).toNat]?).toArray=((xs.toList.drop i).take k).toArray:=by
 have e:(fun (m:Nat)=>xs[((i:Int)+(m:Int) * 1).toNat]?)=fun m=>xs[i+m]? :=by
  funext m
  have:((i:Int)+(m:Int) * 1).toNat=i+m:=by omega
  rw [this]
 rw [e]
 have:=pick_run xs i k
 rw [List.filterMap_map] at this
 have e2:((fun x=>xs[x]?)∘fun x=>i+x)=fun m=>xs[i+m]? :=rfl
 rw [e2] at this
 rw [this]
theorem getItem_tuple_cut {t sl:Addr} {items:Array Value} {vl vu:Value} {lo hi:Option Int} {Q:Value→Shared→Prop} (ht:IsTup s.heap t items) (hs:s.heap.IsSliceOf sl vl vu .none) (pl:IsPart vl lo) (pu:IsPart vu hi)
  (hw:¬(sIx items.size 0 lo=0∧sIx items.size items.size hi=items.size))
  (h:Q (.ref s.heap.objs.size) {s with heap:=s.heap.push {cls:= .type "tuple",data:= .seq ((items.toList.drop (sIx items.size 0 lo)).take (sIx items.size items.size hi - sIx items.size 0 lo)).toArray}})
  (hsz:items.size≤sizeLine):wpAny (model prog w) A (getItem (.ref t) (.ref sl)) Q E s:=by
 have htake:sizeOk (.seq ((items.toList.drop (sIx items.size 0 lo)).take (sIx items.size items.size hi - sIx items.size 0 lo)).toArray):=by
  show ((items.toList.drop (sIx items.size 0 lo)).take (sIx items.size items.size hi - sIx items.size 0 lo)).toArray.size≤sizeLine
  rw [List.size_toArray,List.length_take,List.length_drop,Array.length_toList]
  omega
 have hj:sIx items.size items.size hi≤items.size:=sIx_le _ _ (Nat.le_refl _) hi
 obtain ⟨os,hos,hcs,hds⟩:=id hs
 have hTs:s.TypeIs (.ref sl) "slice":=⟨os,hos,hcs⟩
 unfold getItem
 try with_reducible refine wpAny_holding ?_
 first|refine wpAny_bind (wpAny_pure ?_)|skip
 refine wpAny_bind (wpAny_sequenceKey ht.typeIs (by decide) ?_)
 refine wpAny_bind (wpAny_callSpecial?_slot (name:=Str.ofString "__getitem__") ht.typeIs PyProof.Rows.slot_tuple_getitem
  (wpAny_call_entry PyProof.Rows.slot_tuple_getitem ht.typeIs entry_tuple_getitem ?_ (args_tuple_getitem _ _)))
 show wpAny _ _ (Builtin.Tuple.tupleItemsOf (.ref t) >>=_) _ _ s
 refine wpAny_bind (tupleItemsOf_ ht ?_)
 refine wpAny_bind (wpAny_typeOf hTs ?_)
 rw [if_pos (by decide)]
 refine wpAny_bind (sliceApplied_gen hs pl pu ?_)
 have hno:¬((((sIx items.size 0 lo:Nat):Int)==0 && (1:Int)==1 && (sIx items.size items.size hi - sIx items.size 0 lo)==items.size)=true):=by
  intro q
  rw [Bool.and_eq_true,Bool.and_eq_true] at q
  have q1:((sIx items.size 0 lo:Nat):Int)=0:=eq_of_beq q.1.1
  have q2:sIx items.size items.size hi - sIx items.size 0 lo=items.size:=eq_of_beq q.2
  exact hw ⟨by omega,by omega⟩
 show wpAny _ _ (if (((sIx items.size 0 lo:Nat):Int)==0 && (1:Int)==1 && (sIx items.size items.size hi - sIx items.size 0 lo)==items.size)=true then _ else _) _ _ s
 rw [if_neg hno,pick_gen]
 first
  |exact wpAny_bind (m:=Builtin.Tuple.tupleExact _) (wpAny_newObj_type (wpAny_pure ⟨_,rfl,wpAny_pure h⟩) htake)
  |exact wpAny_bind (m:=Builtin.Tuple.tupleExact _) (wpAny_newObj_type (wpAny_bind (wpAny_pure (wpAny_pure ⟨_,rfl,wpAny_pure h⟩))) htake)
  |exact wpAny_bind (wpAny_bind (m:=Builtin.Tuple.tupleExact _) (wpAny_newObj_type (wpAny_pure (wpAny_pure ⟨_,rfl,wpAny_pure h⟩)) htake))
  |exact wpAny_bind (wpAny_bind (m:=Builtin.Tuple.tupleExact _) (wpAny_newObj_type (wpAny_pure ⟨_,rfl,wpAny_pure h⟩) htake))
end
end HT
namespace L2
open PySem PySem.Spec PyProof.Rows
abbrev TO:=St→Hp→(Option Int→Hp→Prop)→Prop
def PO (X:Cx) (e:Option Expr) (t:TO):Prop:=
 ∀(pins:List (Addr×Obj)) (s:Shared) (σ:St) (H:Hp) (Q:Option Int→Hp→Prop),Inv X pins σ H s→t σ H Q→
  wpAny (model X.prog X.w) X.A (evalPart e X.env) (fun u s'=>∃o H',Inv X pins σ H' s'∧IsPart u o∧Q o H') X.xe s
def tNoPart:TO:=fun _ H Q=>Q none H
def tPart (t:TE):TO:=fun σ H Q=>t σ H fun x H1=>∃i,x= .int i∧Q (some i) H1
theorem intsAre_of {ns:List Int}:∀{us:List Value},Vals (ns.map V.int) us→IntsAre us ns:=by
 induction ns with
 |nil=>intro us r;rw [List.map_nil] at r;cases r;exact .nil
 |cons n ns ih=>
  intro us r
  rw [List.map_cons] at r
  cases r with
  |cons r1 r2=>
   obtain ⟨t,e⟩:=r1
   subst e
   exact .cons n t (ih r2)
section
variable {X:Cx} {e:Expr} {te:TE} {lo hi:Option Expr} {tl th:TO} {pos p2:Pos}
theorem po_none:PO X none tNoPart:=by
 intro pins s σ H Q I h
 rw [evalPart_none]
 exact wpAny_pure ⟨none,H,I,.none,h⟩
theorem Ck (h:PE X e te):PO X (some e) (tPart te):=by
 intro pins s σ H Q I hw
 rw [evalPart_some]
 refine thn (h pins s σ H _ I hw) fun u s1 ⟨x,H1,I1,r1,q1⟩=> ?_
 obtain ⟨i,rfl,q⟩:=q1
 obtain ⟨t,rfl⟩:=r1
 exact ⟨some i,H1,I1,.int i t,q⟩
def SlR (X:Cx) (r:V→Option Int→Option Int→Hp→VK→Prop):Prop:=
 ∀(pins:List (Addr×Obj)) (s:Shared) (σ:St) (H:Hp) (x:V) (v vl vu:Value) (lo hi:Option Int) (sl:Addr) (Q:VK),Inv X pins σ H s→RelV x v→s.heap.IsSliceOf sl vl vu .none→IsPart vl lo→IsPart vu hi→r x lo hi H Q→
  ∃T id,typeLookup (.type T) "__getitem__"=pure (some (.builtin id))∧s.TypeIs v T∧wpAny (model X.prog X.w) X.A (getItem v (.ref sl)) (EP X pins σ Q) X.xe s
def tSl (r:V→Option Int→Option Int→Hp→VK→Prop) (te:TE) (tl th:TO):TE:=fun σ H Q=>te σ H fun x H1=>tl σ H1 fun l H2=>th σ H2 fun u H3=>r x l u H3 Q
theorem C0 {r:V→Option Int→Option Int→Hp→VK→Prop} (hr:SlR X r) (he:PE X e te) (hl:PO X lo tl) (hu:PO X hi th):PE X (.Subscript e (.Slice lo hi none p2) pos) (tSl r te tl th):=by
 intro pins s σ H Q I h
 refine Subscript_ (thn (he pins s σ H _ I h) fun v s1 ⟨x,H1,I1,r1,q1⟩=> ?_)
 refine wpAny_Slice (thn (hl pins s1 σ H1 _ I1 q1) fun vl s2 ⟨l,H2,I2,pl,q2⟩=>thn (hu pins s2 σ H2 _ I2 q2) fun vu s3 ⟨u,H3,I3,pu,q3⟩=> ?_)
 rw [evalPart_none]
 refine wpAny_pure ?_
 have I4:Inv X pins σ H3 {s3 with heap:=s3.heap.push {cls:= .type "slice",data:= .fields #[vl,vu,.none]}}:=I3.kept (t':=s3.toks) fun b ob q=>Heap.get?_push_of_some _ q
 obtain ⟨T,id,hT,ht,hg⟩:=hr pins {s3 with heap:=s3.heap.push {cls:= .type "slice",data:= .fields #[vl,vu,.none]}} σ H3 x v vl vu l u s3.heap.objs.size Q I4 r1 (Heap.IsSliceOf.new ..) pl pu q3
 show wpAny (model X.prog X.w) X.A (subscriptTail e (.Slice lo hi none p2) v (.ref s3.heap.objs.size)) (EP X pins σ Q) X.xe {s3 with heap:=s3.heap.push {cls:= .type "slice",data:= .fields #[vl,vu,.none]}}
 exact tail_any (ops:=[.ref s3.heap.objs.size,v]) ht hT hg (by with_unfolding_all rfl)
def cutV (xs:List V) (lo hi:Option Int):List V:=(xs.drop (HT.sIx xs.length 0 lo)).take (HT.sIx xs.length xs.length hi - HT.sIx xs.length 0 lo)
theorem cutV_length (xs:List V) (lo hi:Option Int):(cutV xs lo hi).length≤xs.length:=by
 unfold cutV
 rw [List.length_take,List.length_drop]
 omega
inductive RSlTP (K:PySem.W.Frag) (x:V) (lo:Option Int) (hi:Option Int) (H:Hp) (Q:VK):Prop
 |mk (a xs:_):(x= .ref a)→(SqT K H a xs)→(¬(HT.sIx xs.length 0 lo=0∧HT.sIx xs.length xs.length hi=xs.length))→(∀p,H p=none→Q (.ref p) (upd H p (.tup (cutV xs lo hi))))→RSlTP K x lo hi H Q
def rSlT (K:PySem.W.Frag):V→Option Int→Option Int→Hp→VK→Prop:=fun x lo hi H Q=>RSlTP K x lo hi H Q
theorem sl_tup:SlR X (rSlT X.K):=by
 intro pins s σ H x v vl vu lo hi sl Q I rx hs pl pu h
 obtain ⟨a,xs,rfl,hx,hw,q⟩:=h
 cases rx
 obtain ⟨its,r,ht,hz⟩:=I.tuple hx
 have hlen:its.toArray.size=xs.length:=by rw [List.size_toArray];exact r.length.symm
 refine ⟨"tuple",_,PyProof.Rows.slot_tuple_getitem.lookup,ht.typeIs,?_⟩
 refine HT.getItem_tuple_cut ht hs pl pu (by rw [hlen];exact hw) ?_ (by rw [hlen];exact hz)
 rw [hlen]
 refine ⟨.ref s.heap.objs.size,_,I.laid (t':=s.toks) (o:= .tup (cutV xs lo hi)) (fun b ob q=>Heap.get?_push_of_some _ q) (Nat.le_refl _) ?_,rfl,q _ (I.hok.fresh (Nat.le_refl _))⟩
 exact ⟨Nat.le_trans (cutV_length xs lo hi) hz,_,(r.drop (HT.sIx xs.length 0 lo)).take (HT.sIx xs.length xs.length hi - HT.sIx xs.length 0 lo),IsTupN.new _ _⟩
theorem Vals.nil_iff {xs:List V} {us:List Value} (r:Vals xs us):us=[]↔xs=[]:=by
 cases r with
 |nil=>simp
 |cons _ _=>simp
end
end L2
namespace L2
open PySem PySem.Spec PyProof.Rows
def ixN (n:Nat) (i:Int):Option Nat:=if 0≤i then (if i<n then some i.toNat else none) else if -(n:Int)≤i then some (i+n).toNat else none
def atI {α:Type} (xs:List α) (i:Int):Option α:=(ixN xs.length i).bind fun j=>xs[j]?
theorem ixN_seq {n:Nat} {i:Int} {j:Nat} (h:ixN n i=some j):seqIndex? i n=some j∧j<n∧ -(n:Int)≤i∧i<n:=by
 unfold ixN at h
 by_cases h0:0≤i
 ·rw [if_pos h0] at h
  by_cases h1:i<n
  ·rw [if_pos h1] at h
   have e:i.toNat=j:=Option.some.inj h
   exact ⟨by rw [seqIndex_of h0 h1,e],by omega,by omega,h1⟩
  ·rw [if_neg h1] at h;cases h
 ·rw [if_neg h0] at h
  by_cases h1: -(n:Int)≤i
  ·rw [if_pos h1] at h
   have e:(i+n).toNat=j:=Option.some.inj h
   exact ⟨by rw [seqIndex_neg (by omega) h1,e],by omega,h1,by omega⟩
  ·rw [if_neg h1] at h;cases h
theorem atI_get {α:Type} {xs:List α} {i:Int} {v:α} (h:atI xs i=some v):∃j,seqIndex? i xs.length=some j∧xs[j]? =some v∧j<xs.length∧ -(xs.length:Int)≤i∧i<xs.length:=by
 unfold atI at h
 cases e:ixN xs.length i with
 |none=>rw [e] at h;cases h
 |some j=>
  rw [e] at h
  obtain ⟨h1,h2,h3,h4⟩:=ixN_seq e
  exact ⟨j,h1,h,h2,h3,h4⟩
theorem Ap {α:Type} {xs:List α} {j:Nat} {v:α} (h:xs[j]? =some v):atI xs (j:Int)=some v:=by
 have hj:j<xs.length:=(List.getElem?_eq_some_iff.mp h).1
 have e:ixN xs.length (j:Int)=some j:=by
  unfold ixN
  rw [if_pos (by exact Int.natCast_nonneg _),if_pos (by omega)];simp
 unfold atI;rw [e];exact h
def PlainIx (b:Expr):Prop:=∀o i,subscripted b false o i=operate [o,i] (getItem o i)
def IxR (X:Cx) (r:R2):Prop:=
 ∀(value slice:Expr) (pins:List (Addr×Obj)) (s:Shared) (σ:St) (H:Hp) (x y:V) (v u:Value) (Q:VK),Inv X pins σ H s→RelV x v→RelV y u→r x y H Q→
  subscripted slice false v u=operate [v,u] (getItem v u)→wpAny (model X.prog X.w) X.A (subscriptTail value slice v u) (EP X pins σ Q) X.xe s
def MtR (X:Cx) (id:String) (r:V→List V→Hp→VK→Prop):Prop:=
 ∀(pins:List (Addr×Obj)) (s:Shared) (σ:St) (H:Hp) (x:V) (xs:List V) (v:Value) (us:List Value) (Q:VK),Inv X pins σ H s→RelV x v→Vals xs us→r x xs H Q→
  wpAny (model X.prog X.w) X.A (call (.builtin id) (v::us)) (EP X pins σ Q) X.xe s
section
variable {X:Cx} {a b:Expr} {ta tb:TE} {pos:Pos}
theorem Az {r:R2} (hr:IxR X r) (ha:PE X a ta) (hb:PE X b tb) (hs:PlainIx b):PE X (.Subscript a b pos) (tOp r ta tb):=by
 intro pins s σ H Q I h
 exact Subscript_ (binT ha hb I h fun v u s2 x y H2 I2 rx ry q=>hr a b pins s2 σ H2 x y v u Q I2 rx ry q (hs _ _))
inductive RIxLP (K:PySem.W.Frag) (x:V) (y:V) (H:Hp) (Q:VK):Prop
 |mk (p xs i v:_):(x= .ref p)→(y= .int i)→(SqL K H p xs)→(atI xs i=some v)→(Q v H)→RIxLP K x y H Q
def rIxL (K:PySem.W.Frag):R2:=fun x y H Q=>RIxLP K x y H Q
inductive RIxTP (K:PySem.W.Frag) (x:V) (y:V) (H:Hp) (Q:VK):Prop
 |mk (p xs i v:_):(x= .ref p)→(y= .int i)→(SqT K H p xs)→(atI xs i=some v)→(Q v H)→RIxTP K x y H Q
def rIxT (K:PySem.W.Frag):R2:=fun x y H Q=>RIxTP K x y H Q
inductive RIxSP (x:V) (y:V) (H:Hp) (Q:VK):Prop
 |mk (z i c:_):(x= .str z)→(y= .int i)→(z.length≤sizeLine)→(atI z.cps.toList i=some c)→(Q (.str ⟨#[c]⟩) H)→RIxSP x y H Q
def rIxS:R2:=fun x y H Q=>RIxSP x y H Q
theorem Ax:IxR X (rIxL X.K):=by
 intro value slice pins s σ H x y v u Q I rx ry h hs
 obtain ⟨p,xs,i,z,rfl,rfl,hq,he,q⟩:=h
 cases rx
 obtain ⟨t,rfl⟩:=ry
 obtain ⟨its,r,pl,hz⟩:=I.list hq
 obtain ⟨j,h1,h2,h3,h4,h5⟩:=atI_get he
 obtain ⟨w,ew,rw'⟩:=r.get h2
 have hl:=r.length
 have hn:=line63
 have fin:EP X pins σ Q w s:=⟨z,H,I,rw',q⟩
 by_cases h0:0≤i
 ·have hj:i.toNat=j:=by
   rw [seqIndex_of h0 h5] at h1
   exact Option.some.inj h1
  exact item_listR pl.isList h0 (by omega) (by rw [hj];simpa using ew) fin hs
 ·have hj:(i+(its.toArray.size:Int)).toNat=j:=by
   rw [seqIndex_neg (by omega) h4] at h1
   rw [List.size_toArray,←hl]
   exact Option.some.inj h1
  exact subscriptTail_builtinR (x:=w) pl.isList.typeIs slot_list_getitem.lookup
   (wpAny_getItem_list_neg (Q:=fun r s'=>r=w∧EP X pins σ Q r s') pl.isList (by omega) (by rw [List.size_toArray]<;> omega) (by omega) (by rw [hj];simpa using ew) ⟨rfl,fin⟩) hs
theorem Bz:IxR X (rIxT X.K):=by
 intro value slice pins s σ H x y v u Q I rx ry h hs
 obtain ⟨p,xs,i,z,rfl,rfl,hq,he,q⟩:=h
 cases rx
 obtain ⟨t,rfl⟩:=ry
 obtain ⟨its,r,pl,hz⟩:=I.tuple hq
 obtain ⟨j,h1,h2,h3,h4,h5⟩:=atI_get he
 obtain ⟨w,ew,rw'⟩:=r.get h2
 have hl:=r.length
 have hn:=line63
 have fin:EP X pins σ Q w s:=⟨z,H,I,rw',q⟩
 exact subscriptTail_builtinR (x:=w) pl.typeIs slot_tuple_getitem.lookup
  (getItem_tuple (j:=j) (Q:=fun r s'=>r=w∧EP X pins σ Q r s') pl (by omega) (by omega) (by rw [List.size_toArray,←hl];exact h1) (by simpa using ew) ⟨rfl,fin⟩) hs
theorem ix_str:IxR X rIxS:=by
 intro value slice pins s σ H x y v u Q I rx ry h hs
 obtain ⟨z,i,c,rfl,rfl,hz,he,q⟩:=h
 obtain ⟨t,rfl⟩:=rx
 obtain ⟨t',rfl⟩:=ry
 obtain ⟨j,h1,h2,h3,h4,h5⟩:=atI_get he
 have hl:z.cps.toList.length=z.length:=by simp [Str.length]
 rw [hl] at h1 h4 h5
 have hn:=line63
 exact tail_any (typeIs_str s z t) slot_str_getitem.lookup (getItem_str (c:=c) (by
  have e1:decide (i< -(2 ^ 63:Int))=false:=decide_eq_false (by omega)
  have e2:decide (i ≥ 2 ^ 63)=false:=decide_eq_false (by omega)
  rw [e1,e2,Bool.or_false]) (by rw [h1];simpa using h2) ⟨.str ⟨#[c]⟩,H,I.tok _,⟨_,rfl⟩,q⟩) hs
theorem mapSeq_set (its:List Value) (n j:Nat) (u:Value):Obj.mapSeq (·.setIfInBounds j u) {cls:= .type "list",data:= .seq its.toArray n}={cls:= .type "list",data:= .seq (its.set j u).toArray n}:=by
 simp [Obj.mapSeq]
theorem Inv.lst {pins:List (Addr×Obj)} {σ:St} {H:Hp} {s:Shared} {p:Addr} {xs:List V} (I:Inv X pins σ H s) (h:H p=some (.lst xs)):
  ∃(its:List Value) (n:Nat),Vals xs its∧s.heap.get? p=some {cls:= .type "list",data:= .seq its.toArray n}∧xs.length≤sizeLine:=by
 obtain ⟨z,its,n,r,e⟩:=I.hok p _ h
 exact ⟨its,n,r,e,z⟩
theorem Inv.lstUpd {pins:List (Addr×Obj)} {σ:St} {H:Hp} {s:Shared} {p:Addr} {xs ys:List V} {its its':List Value} {n n':Nat} {f:Obj→Obj} (I:Inv X pins σ H s) (h:H p=some (.lst xs))
  (ho:s.heap.get? p=some {cls:= .type "list",data:= .seq its.toArray n}) (hf:f {cls:= .type "list",data:= .seq its.toArray n}={cls:= .type "list",data:= .seq its'.toArray n'}) (r:Vals ys its') (hz:ys.length≤sizeLine) (t:Nat):
  Inv X pins σ (upd H p (.lst ys)) {s with heap:=s.heap.update p f,toks:=t}:=by
 have e:(s.heap.update p f).get? p=some {cls:= .type "list",data:= .seq its'.toArray n'}:=by
  rw [Heap.get?_update_self f ho (by rw [hf]<;> rfl),hf]
 refine I.write (x:=p) (e:=p) (by rw [h];trivial) (.inl rfl) (fun b u hb q=>(Heap.get?_update_other _ _ (Ne.symm hb)).trans q) ⟨_,e⟩ ?_
 exact ⟨hz,its',n',r,e⟩
inductive RSetLP (o:V) (i:V) (v:V) (H:Hp) (Q:(Hp→Prop)):Prop
 |mk (p xs k j:_):(o= .ref p)→(i= .int k)→(H p=some (.lst xs))→(ixN xs.length k=some j)→(Q (upd H p (.lst (xs.set j v))))→RSetLP o i v H Q
def rSetL:V→V→V→Hp→(Hp→Prop)→Prop:=fun o i v H Q=>RSetLP o i v H Q
theorem set_list:PSet X rSetL:=by
 intro pins s σ H o i v ov iv u Q I ro ri rv h
 obtain ⟨p,xs,k,j,rfl,rfl,hp,hj,q⟩:=h
 cases ro
 obtain ⟨t,rfl⟩:=ri
 obtain ⟨its,n,r,ho,hz⟩:=I.lst hp
 obtain ⟨h1,h2,h3,h4⟩:=ixN_seq hj
 have hl:=r.length
 have hn:=line63
 have I':Inv X pins σ (upd H p (.lst (xs.set j v))) {s with heap:=s.heap.update p (Obj.mapSeq (·.setIfInBounds j u))}:=
  I.lstUpd hp ho (mapSeq_set its n j u) (r.set rv j) (by rw [List.length_set];exact hz) s.toks
 by_cases h0:0≤k
 ·have hk:k.toNat=j:=by
   rw [seqIndex_of h0 h4] at h1
   exact Option.some.inj h1
  exact PySem.W.ki_setAt ho h0 (by omega) (by rw [List.size_toArray,←hl];exact h4) (by rw [hk];exact ⟨_,I',q⟩)
 ·have hk:(k+(its.toArray.size:Int)).toNat=j:=by
   rw [seqIndex_neg (by omega) h3] at h1
   rw [List.size_toArray,←hl]
   exact Option.some.inj h1
  exact PySem.W.ki_setBack ho (by omega) (by rw [List.size_toArray,←hl];exact h3) (by omega) (by rw [hk];exact ⟨_,I',q⟩)
theorem slice_bounds (lo hi:Option Int) (n:Nat):(sliceBounds lo hi none n).1=((HT.sIx n 0 lo:Nat):Int)∧(sliceBounds lo hi none n).2.1=((HT.sIx n n hi:Nat):Int)∧(sliceBounds lo hi none n).2.2=1:=by
 refine ⟨?_,?_,rfl⟩
 ·cases lo with
  |none=>simp [sliceBounds,HT.sIx]
  |some i=>
   simp only [sliceBounds,HT.sIx,Option.getD_none,show (1:Int) > 0 by decide,if_true]
   by_cases h:i<0
   ·simp only [h,if_true]<;> omega
   ·simp only [h,if_false]<;> omega
 ·cases hi with
  |none=>simp [sliceBounds,HT.sIx]
  |some i=>
   simp only [sliceBounds,HT.sIx,Option.getD_none,show (1:Int) > 0 by decide,if_true]
   by_cases h:i<0
   ·simp only [h,if_true]<;> omega
   ·simp only [h,if_false]<;> omega
theorem slicePick_cut (its:List Value) (lo hi:Option Int):slicePick its.toArray lo hi none=((its.drop (HT.sIx its.length 0 lo)).take (HT.sIx its.length its.length hi - HT.sIx its.length 0 lo)).toArray:=by
 obtain ⟨h1,h2,h3⟩:=slice_bounds lo hi its.toArray.size
 unfold slicePick
 rw [h1,h2,h3]
 simp only [sliceRange_one,pick_run,List.size_toArray]<;> rfl
inductive RSlLP (K:PySem.W.Frag) (x:V) (lo:Option Int) (hi:Option Int) (H:Hp) (Q:VK):Prop
 |mk (a xs:_):(x= .ref a)→(SqL K H a xs)→(∀p,H p=none→Q (.ref p) (upd H p (.lst (cutV xs lo hi))))→RSlLP K x lo hi H Q
def rSlL (K:PySem.W.Frag):V→Option Int→Option Int→Hp→VK→Prop:=fun x lo hi H Q=>RSlLP K x lo hi H Q
theorem sl_list:SlR X (rSlL X.K):=by
 intro pins s σ H x v vl vu lo hi sl Q I rx hs pl pu h
 obtain ⟨a,xs,rfl,hx,q⟩:=h
 cases rx
 obtain ⟨its,r,ht,hz⟩:=I.list hx
 have hlen:=r.length
 refine ⟨"list",_,slot_list_getitem.lookup,ht.isList.typeIs,?_⟩
 refine wpAny_getItem_list_slice ht.isList hs pl pu .none (by simp) ?_ (by rw [List.size_toArray]<;> omega)
 rw [slicePick_cut,←hlen]
 refine ⟨.ref s.heap.objs.size,_,I.laid (t':=s.toks) (o:= .lst (cutV xs lo hi)) (fun b ob q=>Heap.get?_push_of_some _ q) (Nat.le_refl _) ?_,rfl,q _ (I.hok.fresh (Nat.le_refl _))⟩
 exact ⟨Nat.le_trans (cutV_length xs lo hi) hz,_,0,(r.drop (HT.sIx xs.length 0 lo)).take (HT.sIx xs.length xs.length hi - HT.sIx xs.length 0 lo),Heap.get?_push_size _ rfl⟩
def flatV:V→Bool
 | .non=>true
 | .bl _=>true
 | .int _=>true
 | .str _=>true
 |_=>false
def eqV:V→V→Bool
 | .non,.non=>true
 | .bl a,.bl b=>a==b
 | .bl a,.int b=>(if a then 1 else 0)==b
 | .int a,.bl b=>a==(if b then 1 else 0)
 | .int a,.int b=>a==b
 | .str a,.str b=>a==b
 |_,_=>false
theorem eqAt_V {A:Around} {s:Shared} {y x:V} {u v:Value} (ry:RelV y u) (rx:RelV x v) (fy:flatV y=true) (fx:flatV x=true):SeqAt.EqAt A s u v (eqV y x):=by
 cases y with
 |non=>
  cases ry
  cases x with
  |non=>cases rx;exact SeqAt.EqAt.same _
  |bl b=>cases rx;exact SeqAt.EqAt.none_bool b
  |int b=>obtain ⟨t,rfl⟩:=rx;exact SeqAt.EqAt.none_int b t
  |str b=>obtain ⟨t,rfl⟩:=rx;exact SeqAt.EqAt.none_str b t
  |_=>exact absurd (show false=true from fx) Bool.false_ne_true
 |bl a=>
  cases ry
  cases x with
  |non=>cases rx;exact SeqAt.EqAt.bool_none a
  |bl b=>cases rx;exact SeqAt.EqAt.bool_bool a b
  |int b=>obtain ⟨t,rfl⟩:=rx;exact SeqAt.EqAt.bool_int a b t
  |str b=>obtain ⟨t,rfl⟩:=rx;exact SeqAt.EqAt.bool_str a b t
  |_=>exact absurd (show false=true from fx) Bool.false_ne_true
 |int a=>
  obtain ⟨t',rfl⟩:=ry
  cases x with
  |non=>cases rx;exact SeqAt.EqAt.int_none a t'
  |bl b=>cases rx;exact SeqAt.EqAt.int_bool a t' b
  |int b=>obtain ⟨t,rfl⟩:=rx;exact SeqAt.EqAt.int_int a t' b t
  |str b=>obtain ⟨t,rfl⟩:=rx;exact SeqAt.EqAt.int_str a t' b t
  |_=>exact absurd (show false=true from fx) Bool.false_ne_true
 |str a=>
  obtain ⟨t',rfl⟩:=ry
  cases x with
  |non=>cases rx;exact SeqAt.EqAt.str_none a t'
  |bl b=>cases rx;exact SeqAt.EqAt.str_bool a t' b
  |int b=>obtain ⟨t,rfl⟩:=rx;exact SeqAt.EqAt.str_int a t' b t
  |str b=>obtain ⟨t,rfl⟩:=rx;exact SeqAt.EqAt.str_str a t' b t
  |_=>exact absurd (show false=true from fx) Bool.false_ne_true
 |_=>exact absurd (show false=true from fy) Bool.false_ne_true
def eqU (x:V) (u:Value):Bool:=match u with
 | .none=>eqV .non x
 | .bool b=>eqV (.bl b) x
 | .int i _=>eqV (.int i) x
 | .str z _=>eqV (.str z) x
 |_=>false
theorem eqU_of {x y:V} {u:Value} (r:RelV y u) (f:flatV y=true):eqU x u=eqV y x:=by
 cases y with
 |non=>cases r;rfl
 |bl b=>cases r;rfl
 |int i=>obtain ⟨t,rfl⟩:=r;rfl
 |str z=>obtain ⟨t,rfl⟩:=r;rfl
 |_=>exact absurd (show false=true from f) Bool.false_ne_true
theorem any_eqU {x:V}:∀{xs:List V} {us:List Value},Vals xs us→xs.all flatV=true→us.any (eqU x)=xs.any fun y=>eqV y x
 |_,_,.nil,_=>rfl
 |y::xs,u::us,.cons r t,f=>by
  rw [List.all_cons,Bool.and_eq_true] at f
  rw [List.any_cons,List.any_cons,eqU_of r f.1,any_eqU t f.2]
theorem mem_eqAt {A:Around} {s:Shared} {x:V} {v:Value} (rx:RelV x v) (fx:flatV x=true):∀{xs:List V} {us:List Value},Vals xs us→xs.all flatV=true→∀u∈us,SeqAt.EqAt A s u v (eqU x u)
 |_,_,.nil,_=>fun u hu=>by cases hu
 |y::xs,u::us,.cons r t,f=>fun u' hu=>by
  rw [List.all_cons,Bool.and_eq_true] at f
  rcases List.mem_cons.mp hu with rfl|hu
  ·rw [eqU_of r f.1];exact eqAt_V r rx f.1 fx
  ·exact mem_eqAt rx fx t f.2 u' hu
def inV (x:V) (xs:List V):Bool:=xs.any fun y=>eqV y x
inductive RInP (K:PySem.W.Frag) (neg:Bool) (x:V) (y:V) (H:Hp) (Q:VK):Prop
 |mk (p xs:_):(y= .ref p)→((SqL K H p xs∨SqT K H p xs))→(flatV x=true)→(xs.all flatV=true)→(Q (.bl (if neg then !inV x xs else inV x xs)) H)→RInP K neg x y H Q
def rIn (K:PySem.W.Frag) (neg:Bool):R2:=fun x y H Q=>RInP K neg x y H Q
theorem op_in_seq:OpR X (compareOp .In) (rIn X.K false):=by
 intro pins s σ H x y v u Q I rx ry h
 obtain ⟨p,xs,rfl,hq,fx,fs,q⟩:=h
 cases ry
 rcases hq with hq|hq
 ·obtain ⟨its,r,pl,hz⟩:=I.list hq
  refine SeqAt.in_listAt (eqU x) pl.isList (fun w hw=>mem_eqAt rx fx r fs w (by simpa using hw)) ⟨.bl _,H,I,rfl,?_⟩
  rw [show its.toArray.any (eqU x)=its.any (eqU x) by simp,any_eqU r fs]
  exact q
 ·obtain ⟨its,r,pl,hz⟩:=I.tuple hq
  refine SeqAt.in_tupleAt (eqU x) pl (fun w hw=>mem_eqAt rx fx r fs w (by simpa using hw)) ⟨.bl _,H,I,rfl,?_⟩
  rw [show its.toArray.any (eqU x)=its.any (eqU x) by simp,any_eqU r fs]
  exact q
theorem C8:OpR X (compareOp .NotIn) (rIn X.K true):=by
 intro pins s σ H x y v u Q I rx ry h
 obtain ⟨p,xs,rfl,hq,fx,fs,q⟩:=h
 cases ry
 rcases hq with hq|hq
 ·obtain ⟨its,r,pl,hz⟩:=I.list hq
  refine SeqAt.notIn_listAt (eqU x) pl.isList (fun w hw=>mem_eqAt rx fx r fs w (by simpa using hw)) ⟨.bl _,H,I,rfl,?_⟩
  rw [show its.toArray.any (eqU x)=its.any (eqU x) by simp,any_eqU r fs]
  exact q
 ·obtain ⟨its,r,pl,hz⟩:=I.tuple hq
  refine SeqAt.notIn_tupleAt (eqU x) pl (fun w hw=>mem_eqAt rx fx r fs w (by simpa using hw)) ⟨.bl _,H,I,rfl,?_⟩
  rw [show its.toArray.any (eqU x)=its.any (eqU x) by simp,any_eqU r fs]
  exact q
theorem At:CallR X (.builtin "len") (fun xs H Q=>∃p ys,xs=[.ref p]∧(SqL X.K H p ys∨SqT X.K H p ys)∧Q (.int ys.length) H):=by
 intro pins s σ H xs us Q I r h
 obtain ⟨p,ys,rfl,hq,q⟩:=h
 obtain ⟨u,rfl,rx⟩:=vals1 r
 cases rx
 have hn:=line63
 rcases hq with hq|hq
 ·obtain ⟨its,r',pl,hz⟩:=I.list hq
  have hlen:=r'.length
  exact Calls.call_len_list pl.isList (by simp only [List.size_toArray]<;> omega) ⟨.int ys.length,H,I.tok _,⟨s.toks+1,by rw [List.size_toArray,hlen]⟩,q⟩
 ·obtain ⟨its,r',pl,hz⟩:=I.tuple hq
  have hlen:=r'.length
  exact len_tuple pl (by simp only [List.size_toArray]<;> omega) ⟨.int ys.length,H,I.tok _,⟨s.toks+1,by rw [List.size_toArray,hlen]⟩,q⟩
theorem call_list_of:CallR X (.type "list") (fun xs H Q=>∃p ys,xs=[.ref p]∧(SqL X.K H p ys∨SqT X.K H p ys)∧∀l,H l=none→Q (.ref l) (upd H l (.lst ys))):=by
 intro pins s σ H xs us Q I r h
 obtain ⟨p,ys,rfl,hq,q⟩:=h
 obtain ⟨u,rfl,rx⟩:=vals1 r
 cases rx
 have fin:∀(its:List Value),Vals ys its→ys.length≤sizeLine→∀(h':Heap) (c':Nat),(∀b o',s.heap.get? b=some o'→h'.get? b=some o')→
   h'.get? s.heap.objs.size=some {cls:= .type "list",dict:=none,data:= .seq its.toArray c',slots:= #[]}→EP X pins σ Q (.ref s.heap.objs.size) {s with heap:=h'}:=fun its r' hz h' c' kp e=>
  ⟨.ref s.heap.objs.size,_,I.laid (t':=s.toks) kp (Nat.le_refl _) (show ObjOk X.prog X.w _ h' _ (.lst ys) from ⟨hz,its,c',r',e⟩),rfl,q _ (I.hok.fresh (Nat.le_refl _))⟩
 rcases hq with hq|hq
 ·obtain ⟨its,r',pl,hz⟩:=I.list hq
  have hlen:=r'.length
  obtain ⟨o,ho,hc,n,hd⟩:=pl.isList
  exact call_list_seq p (.inl rfl) ho hc hd (fun h' c' kp e=>fin its r' hz h' c' kp e) (by simp only [List.size_toArray]<;> omega)
 ·obtain ⟨its,r',pl,hz⟩:=I.tuple hq
  have hlen:=r'.length
  obtain ⟨o,ho,hc,n,hd⟩:=pl
  exact call_list_seq p (.inr rfl) ho hc hd (fun h' c' kp e=>fin its r' hz h' c' kp e) (by simp only [List.size_toArray]<;> omega)
theorem Bo:CallR X (.type "tuple") (fun xs H Q=>∃p ys,xs=[.ref p]∧((SqL X.K H p ys∧∀l,H l=none→Q (.ref l) (upd H l (.tup ys)))∨(SqT X.K H p ys∧Q (.ref p) H))):=by
 intro pins s σ H xs us Q I r h
 obtain ⟨p,ys,rfl,h⟩:=h
 obtain ⟨u,rfl,rx⟩:=vals1 r
 cases rx
 rcases h with ⟨hq,q⟩|⟨hq,q⟩
 ·obtain ⟨its,r',pl,hz⟩:=I.list hq
  have hlen:=r'.length
  refine call_tuple_list pl.isList (fun h' kp=> ?_) (by simp only [List.size_toArray]<;> omega)
  have I1:Inv X pins σ H {s with heap:=h'}:=I.kept (t':=s.toks) kp
  have I2:Inv X pins σ (upd H h'.objs.size (.tup ys)) {s with heap:=h'.push {cls:= .type "tuple",data:= .seq its.toArray}}:=
   I1.laid (t':=s.toks) (fun b o e=>Heap.get?_push_of_some _ e) (Nat.le_refl _) (show ObjOk X.prog X.w _ _ _ (.tup ys) from ⟨hz,its,r',IsTupN.new _ _⟩)
  exact ⟨.ref h'.objs.size,_,I2,rfl,q _ (I1.hok.fresh (Nat.le_refl _))⟩
 ·obtain ⟨its,r',pl,hz⟩:=I.tuple hq
  exact call_tuple_same pl ⟨.ref p,H,I,rfl,q⟩
def tyV (K:PySem.W.Frag) (T:String) (x:V) (H:Hp):Prop:=match x with
 | .str _=>T="str"
 | .int _=>T="int"
 | .ref p=>(T="list"∧∃xs,SqL K H p xs)∨(T="tuple"∧((∃o,K.lookup p=some o∧o.cls= .type "tuple"∧o.dict=none)∨∃xs,H p=some (.tup xs)))∨
   (T="dict"∧((∃kvs,H p=some (.dK kvs))∨∃kvs,H p=some (.dT kvs)))∨(T="set"∧∃S n,H p=some (.set S n))
 |_=>False
theorem tyV_is {pins:List (Addr×Obj)} {σ:St} {H:Hp} {s:Shared} {T:String} {x:V} {v:Value} (I:Inv X pins σ H s) (r:RelV x v) (ty:tyV X.K T x H):
  s.TypeIs v T∧∀a,v= .ref a→∃ob,s.heap.get? a=some ob∧ob.dict=none:=by
 cases x with
 |str z=>
  obtain ⟨t,rfl⟩:=r
  cases (show T="str" from ty)
  exact ⟨typeIs_str s z t,fun _ e=>nomatch e⟩
 |int i=>
  obtain ⟨t,rfl⟩:=r
  cases (show T="int" from ty)
  exact ⟨typeIs_int s i t,fun _ e=>nomatch e⟩
 |ref p=>
  cases r
  rcases ty with ⟨rfl,xs,hq⟩|⟨rfl,⟨o,hk,hc,hd⟩|⟨xs,hx⟩⟩|⟨rfl,hk⟩|⟨rfl,S,n,hk⟩
  ·obtain ⟨its,_,pl,_⟩:=I.list hq
   refine ⟨pl.isList.typeIs,fun a e=> ?_⟩
   cases e
   obtain ⟨o,n,e,c,hd,_⟩:=pl
   exact ⟨o,e,hd⟩
  ·refine ⟨⟨o,I.kIn p o hk,hc⟩,fun a e=> ?_⟩
   cases e
   exact ⟨o,I.kIn _ o hk,hd⟩
  ·obtain ⟨_,_,_,o,e,c,d,_⟩:=(show ObjOk X.prog X.w H s.heap p (.tup xs) from I.hok p _ hx)
   refine ⟨⟨o,e,c⟩,fun a e2=> ?_⟩
   cases e2
   exact ⟨o,e,d⟩
  ·have z:∃o,s.heap.get? p=some o∧o.ExactDict:=by
    rcases hk with ⟨kvs,hk⟩|⟨kvs,hk⟩
    ·obtain ⟨_,_,_,_,o,_,_,e,ex,_⟩:=I.hok p _ hk
     exact ⟨o,e,ex⟩
    ·obtain ⟨_,_,_,_,o,_,_,e,ex,_⟩:=I.hok p _ hk
     exact ⟨o,e,ex⟩
   obtain ⟨o,e,ex⟩:=z
   refine ⟨⟨o,e,ex.1⟩,fun a e2=> ?_⟩
   cases e2
   exact ⟨o,e,ex.2.1⟩
  ·obtain ⟨o,_,_,_,e,ex,_⟩:=I.hok p _ hk
   refine ⟨⟨o,e,ex.1⟩,fun a e2=> ?_⟩
   cases e2
   exact ⟨o,e,ex.2.1⟩
 |_=>exact False.elim ty
def tBM0 (K:PySem.W.Frag) (T:String) (r:V→List V→Hp→VK→Prop) (to:TE):TE:=fun σ H Q=>to σ H fun x H1=>tyV K T x H1∧r x [] H1 Q
def tBM (K:PySem.W.Frag) (T:String) (r:V→List V→Hp→VK→Prop) (to:TE) (t:TA):TE:=fun σ H Q=>to σ H fun x H1=>tyV K T x H1∧t σ H1 fun xs H2=>r x xs H2 Q
variable {o e:Expr} {es:List Expr} {to:TE} {t:TA} {name:Str} {apos cpos:Pos} {T id:String} {r:V→List V→Hp→VK→Prop}
theorem pe_bm0 (pa:PlainAttrs T) (slot:Slot T name id) (hty:typeOf (.builtin id)=pure (.type "method_descriptor")) (hm:MtR X id r) (ho:PE X o to)
  (hbase:attributeBase o name X.env (eval o X.env)=eval o X.env:=by rfl) (hline:(apos.endLine==cpos.line)=true:=by rfl):PE X (.Call (.Attribute o name apos) [] [] cpos) (tBM0 X.K T r to):=by
 intro pins s σ H Q I h
 refine wpAny_Call_method0_late hbase hline (thn (ho pins s σ H _ I h) fun v s1 ⟨x,H1,I1,r1,ty,q1⟩=> ?_)
 obtain ⟨h1,h2⟩:=tyV_is I1 r1 ty
 exact ⟨T,id,pa,slot,hty,h1,h2,Calls.callWith_builtin rfl (PySem.evalArgs_none (hm pins s1 σ H1 x [] v [] Q I1 r1 .nil q1))⟩
theorem pe_bm (pa:PlainAttrs T) (slot:Slot T name id) (hty:typeOf (.builtin id)=pure (.type "method_descriptor")) (hm:MtR X id r) (ho:PE X o to) (ha:PA X (e::es) t)
  (hbase:attributeBase o name X.env (eval o X.env)=eval o X.env:=by rfl)
  (hfew:((backTo cpos (starEach (e::es) X.env)).all (fun x=> !x.1) && (backToKw cpos (keywordEach [] X.env)).all (fun x=>x.1.isSome)
   && decide ((e::es).length+([]:List Keyword).length+(if ([]:List Keyword).isEmpty then 0 else 1)<30))=true:=by rfl)
  (hline:(apos.endLine==cpos.line)=true:=by rfl) (hs:starEach (e::es) X.env=(false,eval e X.env)::starEach es X.env:=by rfl) (hplain:(backTo cpos (starEach es X.env)).any (·.1)=false:=by rfl):
  PE X (.Call (.Attribute o name apos) (e::es) [] cpos) (tBM X.K T r to t):=by
 intro pins s σ H Q I h
 refine wpAny_Call_method_late hbase hfew hline rfl (thn (ho pins s σ H _ I h) fun v s1 ⟨x,H1,I1,r1,ty,q1⟩=> ?_)
 obtain ⟨h1,h2⟩:=tyV_is I1 r1 ty
 refine ⟨T,id,pa,slot,hty,h1,h2,?_⟩
 have hA:=ha cpos pins s1 σ H1 _ I1 q1
 rw [hs] at hA ⊢
 refine Calls.callWith_builtin (by show (false||(backTo cpos (starEach es X.env)).any (·.1))=false;rw [hplain]<;> rfl) (Calls.evalArgs_plain ?_)
 exact thn hA fun us s2 ⟨vs,H2,I2,r2,q2⟩=>hm pins s2 σ H2 x vs v us Q I2 r1 r2 q2
end
end L2
namespace L2
open PySem PySem.Spec PyProof.Rows
def MtM (X:Cx) (id:String) (r:V→List V→Hp→VK→Prop):Prop:=
 ∀(pins:List (Addr×Obj)) (s:Shared) (σ:St) (H:Hp) (x:V) (xs:List V) (v:Value) (us:List Value) (Q:VK),Inv X pins σ H s→RelV x v→Vals xs us→r x xs H Q→
  wpAny (model X.prog X.w) X.A (call (.builtin id) (v::us)) (EP X pins σ Q) X.xe s
theorem Vals.one:∀{x:V} {us:List Value},Vals [x] us→∃u,us=[u]∧RelV x u
 |_,_,.cons r .nil=>⟨_,rfl,r⟩
theorem Vals.zero:∀{us:List Value},Vals [] us→us=[]
 |_,.nil=>rfl
theorem Vals.dropLast {xs:List V} {us:List Value} (h:Vals xs us):Vals xs.dropLast us.dropLast:=by
 induction h with
 |nil=>exact .nil
 |cons r t ih=>
  cases t with
  |nil=>exact .nil
  |cons q t'=>exact .cons r ih
theorem Vals.eraseIdx:∀{xs:List V} {us:List Value} (i:Nat),Vals xs us→Vals (xs.eraseIdx i) (us.eraseIdx i)
 |_,_,_,.nil=> .nil
 |_,_,0,.cons _ t=>t
 |_,_,i+1,.cons r t=> .cons r (Vals.eraseIdx i t)
theorem Vals.reverse {xs:List V} {us:List Value} (h:Vals xs us):Vals xs.reverse us.reverse:=by
 induction h with
 |nil=>exact .nil
 |cons r t ih=>rw [List.reverse_cons,List.reverse_cons];exact Vals.append ih (.cons r .nil)
theorem Vals.rep {xs:List V} {us:List Value} (h:Vals xs us):∀k:Nat,Vals (List.replicate k xs).flatten (List.replicate k us).flatten
 |0=> .nil
 |k+1=>by
  rw [List.replicate_succ,List.replicate_succ,List.flatten_cons,List.flatten_cons]
  exact Vals.append h (Vals.rep h k)
theorem erase_last {α:Type} (l:List α):l.eraseIdx (l.length - 1)=l.dropLast:=by
 induction l with
 |nil=>rfl
 |cons a r ih=>
  cases r with
  |nil=>rfl
  |cons b r=>
   have e:(a::b::r).length - 1=((b::r).length - 1)+1:=by
    have h1:(a::b::r).length=r.length+2:=rfl
    have h2:(b::r).length=r.length+1:=rfl
    assumption
   rw [e,List.eraseIdx_cons_succ,ih]
   all_goals rfl
theorem len_erase {α:Type}:∀(l:List α) (i:Nat),(l.eraseIdx i).length≤l.length
 |[],_=>Nat.le_refl _
 |_::_,0=>Nat.le_succ _
 |_::r,i+1=>Nat.succ_le_succ (len_erase r i)
theorem foldl_rep (its:List Value):∀(k:Nat) (acc:List Value),
  List.foldl (fun x1 x2=>x1++x2) acc.toArray (List.replicate k its.toArray)=(acc++(List.replicate k its).flatten).toArray
 |0,acc=>by simp
 |k+1,acc=>by
  have e:acc.toArray++its.toArray=(acc++its).toArray:=by simp
  have e2:(acc++its)++(List.replicate k its).flatten=acc++(List.replicate (k+1) its).flatten:=by
   rw [List.replicate_succ,List.flatten_cons,List.append_assoc]
  rw [←e2,←foldl_rep its k (acc++its),←e,List.replicate_succ,List.foldl_cons]
section
variable {X:Cx} {pins:List (Addr×Obj)} {σ:St} {H:Hp} {s:Shared} {l b:Addr} {xs ys zs:List V}
theorem Inv.lset {its its':List Value} {n:Nat} {f:Array Value→Array Value} {t':Nat} (I:Inv X pins σ H s) (hH:H l=some (.lst xs))
  (e:s.heap.get? l=some {cls:= .type "list",data:= .seq its.toArray n}) (hf:f its.toArray=its'.toArray) (hv:Vals ys its') (hz:ys.length≤sizeLine):
  Inv X pins σ (upd H l (.lst ys)) {s with heap:=s.heap.update l (Obj.mapSeq f),toks:=t'}:=by
 have q:=PySem.IsL.update e f
 rw [hf] at q
 refine I.write (x:=l) (e:=l) (by rw [hH];exact trivial) (.inl rfl) (fun b' u hb hu=>(Heap.get?_update_other s.heap (Obj.mapSeq f) (Ne.symm hb)).trans hu) ⟨_,q⟩ ?_
 exact ⟨hz,its',_,hv,q⟩
theorem Inv.lnew {its:List Value} {t':Nat} (I:Inv X pins σ H s) (hv:Vals ys its) (hz:ys.length≤sizeLine):
  Inv X pins σ (upd H s.heap.objs.size (.lst ys)) {s with heap:=s.heap.push {cls:= .type "list",data:= .seq its.toArray},toks:=t'}:=
 I.laid (fun _ _ q=>Heap.get?_push_of_some _ q) (Nat.le_refl _) ⟨hz,its,0,hv,Heap.get?_push_size _ rfl⟩
theorem Inv.fresh (I:Inv X pins σ H s):H s.heap.objs.size=none:=I.hok.fresh (Nat.le_refl _)
theorem Inv.lstM (I:Inv X pins σ H s) (hH:H l=some (.lst xs)):xs.length≤sizeLine∧∃(its:List Value) (n:Nat),Vals xs its∧xs.length=its.length∧s.heap.get? l=some {cls:= .type "list",data:= .seq its.toArray n}:=by
 obtain ⟨z,its,n,r,e⟩:=I.hok l _ hH
 exact ⟨z,its,n,r,r.length,e⟩
theorem notLongL {n:Nat} (h:n≤sizeLine):Builtin.List.listTooLong n=false:=by
 unfold Builtin.List.listTooLong
 exact decide_eq_false (by omega)
end
section
variable {X:Cx}
inductive RAppendP (x:V) (vs:List V) (H:Hp) (Q:VK):Prop
 |mk (l xs y:_):(x= .ref l)→(vs=[y])→(H l=some (.lst xs))→(xs.length<sizeLine)→(Q .non (upd H l (.lst (xs++[y]))))→RAppendP x vs H Q
def rAppend:V→List V→Hp→VK→Prop:=fun x vs H Q=>RAppendP x vs H Q
theorem Bu:MtM X "list.append" rAppend:=by
 intro pins s σ H x vs v us Q I rx rv h
 obtain ⟨l,xs,y,rfl,rfl,hH,hz,q⟩:=h
 cases rx
 obtain ⟨u,rfl,ru⟩:=rv.one
 obtain ⟨z,its,n,r,hl,e⟩:=I.lstM hH
 refine call_meets F.slot_list_append ⟨_,e,rfl⟩ F.entry_list_append (F.args_list_append_2 _ _) (PySem.list_append l its.toArray n u (by rw [List.size_toArray];omega)) ⟨e,?_⟩
 refine ⟨.non,_,I.lset (its':=its++[u]) hH e (by simp) (r.append (.cons ru .nil)) ?_,rfl,q⟩
 rw [List.length_append,List.length_singleton]
 assumption
inductive RPopP (x:V) (vs:List V) (H:Hp) (Q:VK):Prop
 |mk (l xs y:_):(x= .ref l)→(vs=[])→(H l=some (.lst xs))→(xs[xs.length - 1]? =some y)→(Q y (upd H l (.lst xs.dropLast)))→RPopP x vs H Q
def rPop:V→List V→Hp→VK→Prop:=fun x vs H Q=>RPopP x vs H Q
theorem mt_pop:MtM X "list.pop" rPop:=by
 intro pins s σ H x vs v us Q I rx rv h
 obtain ⟨l,xs,y,rfl,rfl,hH,hy,q⟩:=h
 cases rx
 have hus:=rv.zero
 subst hus
 obtain ⟨z,its,n,r,hl,e⟩:=I.lstM hH
 obtain ⟨u,hu,ru⟩:=r.get hy
 have hy':its.toArray[its.toArray.size - 1]? =some u:=by
  show its.toArray[its.length - 1]? =some u
  rw [←Array.getElem?_toList,←hl]
  exact hu
 refine call_meets F.slot_list_pop ⟨_,e,rfl⟩ F.entry_list_pop (F.args_list_pop_1 _) (MeetsSeq.list_pop_last l its.toArray n u hy' (by rw [List.size_toArray];omega)) ⟨e,?_⟩
 refine ⟨y,_,I.lset (its':=its.dropLast) hH e ?_ r.dropLast ?_,ru,q⟩
 ·show its.toArray.eraseIdxIfInBounds (its.toArray.size - 1)=its.dropLast.toArray
  rw [List.size_toArray,List.eraseIdxIfInBounds_toArray,erase_last]
 ·rw [List.length_dropLast]
  omega
inductive RPopAtP (x:V) (vs:List V) (H:Hp) (Q:VK):Prop
 |mk (l xs i k y:_):(x= .ref l)→(vs=[.int i])→(H l=some (.lst xs))→(-(2 ^ 63)≤i)→(i<2 ^ 63)→(seqIndex? i xs.length=some k)→(xs[k]? =some y)→(Q y (upd H l (.lst (xs.eraseIdx k))))→RPopAtP x vs H Q
def rPopAt:V→List V→Hp→VK→Prop:=fun x vs H Q=>RPopAtP x vs H Q
theorem mt_popAt:MtM X "list.pop" rPopAt:=by
 intro pins s σ H x vs v us Q I rx rv h
 obtain ⟨l,xs,i,k,y,rfl,rfl,hH,h1,h2,hk,hy,q⟩:=h
 cases rx
 obtain ⟨u,rfl,ru⟩:=rv.one
 obtain ⟨t,rfl⟩:=ru
 obtain ⟨z,its,n,r,hl,e⟩:=I.lstM hH
 obtain ⟨w,hw,rw'⟩:=r.get hy
 refine call_meets F.slot_list_pop ⟨_,e,rfl⟩ F.entry_list_pop (F.args_list_pop_2 _ _)
  (MeetsSeq.list_pop_at l its.toArray n i t k w (fitsIndex_both h1 h2) (by rw [List.size_toArray,←hl];exact hk) (by rw [←Array.getElem?_toList];exact hw) (by rw [List.size_toArray];omega)) ⟨e,?_⟩
 refine ⟨y,_,I.lset (its':=its.eraseIdx k) hH e ?_ (r.eraseIdx k) ?_,rw',q⟩
 ·show its.toArray.eraseIdxIfInBounds k=(its.eraseIdx k).toArray
  rw [List.eraseIdxIfInBounds_toArray]
 ·have:=len_erase xs k
  exact Nat.le_trans (by assumption) (by assumption)
inductive RCatP (x:V) (y:V) (H:Hp) (Q:VK):Prop
 |mk (l b xs zs:_):(x= .ref l)→(y= .ref b)→(H l=some (.lst xs))→(H b=some (.lst zs))→(xs.length+zs.length≤sizeLine)→(∀p,H p=none→Q (.ref p) (upd H p (.lst (xs++zs))))→RCatP x y H Q
def rCat:R2:=fun x y H Q=>RCatP x y H Q
theorem op_cat:OpR X (binaryOp .Add) rCat:=by
 intro pins s σ H x y v u Q I rx ry h
 obtain ⟨l,b,xs,zs,rfl,rfl,hH,hB,hz,q⟩:=h
 cases rx
 cases ry
 obtain ⟨z,its,n,r,hl,e⟩:=I.lstM hH
 obtain ⟨z2,its2,n2,r2,hl2,e2⟩:=I.lstM hB
 refine PySem.P.add_list e e2 ?_ (by rw [List.size_toArray,List.size_toArray];omega)
 have ea:its.toArray++its2.toArray=(its++its2).toArray:=by simp
 rw [ea]
 exact ⟨.ref _,_,I.lnew (t':=s.toks) (r.append r2) (by rw [List.length_append];assumption),rfl,q _ I.fresh⟩
inductive RRepP (x:V) (y:V) (H:Hp) (Q:VK):Prop
 |mk (l k xs:_):(x= .ref l)→(y= .int k)→(H l=some (.lst xs))→(-(2 ^ 63)≤k)→(k<2 ^ 63)→(xs.length * k.toNat≤sizeLine)→(∀p,H p=none→Q (.ref p) (upd H p (.lst (List.replicate k.toNat xs).flatten)))→RRepP x y H Q
def rRep:R2:=fun x y H Q=>RRepP x y H Q
theorem len_rep {α:Type} (xs:List α) (k:Nat):(List.replicate k xs).flatten.length=k * xs.length:=by
 induction k with
 |zero=>simp
 |succ k ih=>rw [List.replicate_succ,List.flatten_cons,List.length_append,ih,Nat.succ_mul,Nat.add_comm]
theorem op_rep:OpR X (binaryOp .Mult) rRep:=by
 intro pins s σ H x y v u Q I rx ry h
 obtain ⟨l,k,xs,rfl,rfl,hH,h1,h2,hz,q⟩:=h
 cases rx
 obtain ⟨t,rfl⟩:=ry
 obtain ⟨z,its,n,r,hl,e⟩:=I.lstM hH
 have hlen:its.toArray.size * k.toNat≤sizeLine:=by rw [List.size_toArray,←hl];exact hz
 have hcap:¬its.toArray.size * k.toNat > (2 ^ 63 - 1) / 8:=by
  have:(sizeLine:Nat)≤(2 ^ 63 - 1) / 8:=by decide
  omega
 have hfit:¬(!Builtin.List.listFitsIndex k)=true:=by
  rw [fitsIndex_both h1 h2]
  exact Bool.false_ne_true
 have hlong:¬Builtin.List.listTooLong (its.toArray.size * k.toNat)=true:=by
  rw [notLongL hlen]
  exact Bool.false_ne_true
 have hnew:List.foldl (fun x1 x2=>x1++x2) #[] (List.replicate (if its.toArray.isEmpty=true then 0 else k.toNat) its.toArray)=(List.replicate k.toNat its).flatten.toArray:=by
  have f0:∀m:Nat,List.foldl (fun x1 x2=>x1++x2) #[] (List.replicate m its.toArray)=(List.replicate m its).flatten.toArray:=fun m=>by
   have:=foldl_rep its m []
   rw [List.nil_append] at this
   exact this
  rw [f0]
  cases its with
  |nil=>simp
  |cons a r'=>rw [if_neg (by simp)]
 refine wpAny_binaryOp_repeat_ref (T:="list") (U:="int") (by decide) ⟨_,e,rfl⟩ (fun s'=>typeIs_int s' k t) noFill_list_mul F.fills_int_mul F.slot_int_rmul repeat_list F.slot_int_index.lookup
  (call_meets F.slot_int_rmul (typeIs_int s k t) F.entry_int_rmul (F.args_int_rmul_2 _ _) (int___rmul___int_list k t l its.toArray n)
   ⟨e,rfl,⟨_,e,rfl⟩,call_meets F.slot_list_mul ⟨_,e,rfl⟩ F.entry_list_mul (F.args_list_mul_2 _ _) (AutoListH.list___mul___list_int_3 l its.toArray n k t hfit hcap hlong) ⟨e,?_⟩⟩)
 rw [hnew]
 exact ⟨.ref _,_,I.lnew (t':=s.toks) (r.rep k.toNat) (by rw [len_rep,Nat.mul_comm];exact hz),rfl,q _ I.fresh⟩
end
end L2
namespace L2
open PySem PySem.Spec PyProof.Rows
section
variable {κ:Type} [DecidableEq κ]
def valV (kvs:List (κ×V)) (k:κ):Option V:=(kvs.find? fun kv=>decide (kv.1=k)).map (·.2)
def putK (kvs:List (κ×V)) (k:κ) (v:V):List (κ×V):=
 if (kvs.any fun kv=>decide (kv.1=k))=true then kvs.map (fun kv=>if kv.1=k then (kv.1,v) else kv) else kvs++[(k,v)]
def dropK (kvs:List (κ×V)) (k:κ):List (κ×V):=kvs.filter fun kv=>decide (kv.1≠k)
theorem valV_pos {p:κ×V} {r:List (κ×V)} {k:κ} (e:p.1=k):valV (p::r) k=some p.2:=by simp [valV,List.find?_cons,e]
theorem valV_neg {p:κ×V} {r:List (κ×V)} {k:κ} (e:¬p.1=k):valV (p::r) k=valV r k:=by simp [valV,List.find?_cons,e]
theorem valV_any (k:κ):∀kvs:List (κ×V),(kvs.any fun kv=>decide (kv.1=k))=(valV kvs k).isSome
 |[]=>rfl
 |p::r=>by
  rw [List.any_cons]
  by_cases e:p.1=k
  ·simp only [valV_pos e,decide_eq_true e,Bool.true_or,Option.isSome_some]
  ·rw [valV_neg e,decide_eq_false e,Bool.false_or];exact valV_any k r
theorem length_putK (kvs:List (κ×V)) (k:κ) (v:V):(putK kvs k v).length≤kvs.length+1:=by
 unfold putK
 split
 ·rw [List.length_map];exact Nat.le_add_right _ _
 ·rw [List.length_append,List.length_cons,List.length_nil];exact Nat.add_le_add_left (by decide) _
theorem RelO.isSome_eq {o:Option V} {u:Option Value} (r:RelO o u):o.isSome=u.isSome:=by
 cases o with
 |none=>cases u with
  |none=>rfl
  |some _=>exact (show False from r).elim
 |some _=>cases u with
  |none=>exact (show False from r).elim
  |some _=>rfl
theorem KV.val {kvs:List (κ×V)} {vs:List (κ×Value)} (r:KV kvs vs) (k:κ):RelO (valV kvs k) (valueAt vs k):=by
 unfold KV at r
 induction r with
 |nil=>exact True.intro
 | @cons p q ps qs h t ih=>
  obtain ⟨h1,h2⟩:=h
  by_cases e:p.1=k
  ·have e':q.1=k:=h1.symm.trans e
   have b:valueAt (q::qs) k=some q.2:=by simp [valueAt,List.find?_cons,e']
   rw [valV_pos e,b];exact h2
  ·have e':¬q.1=k:=fun z=>e (h1.trans z)
   have b:valueAt (q::qs) k=valueAt qs k:=by simp [valueAt,List.find?_cons,e']
   rw [valV_neg e,b];exact ih
theorem KV.any {kvs:List (κ×V)} {vs:List (κ×Value)} (r:KV kvs vs) (k:κ):(kvs.any fun kv=>decide (kv.1=k))=vs.any fun kv=>decide (kv.1=k):=by
 unfold KV at r
 induction r with
 |nil=>rfl
 |cons h t ih=>rw [List.any_cons,List.any_cons,ih,h.1]
theorem KV.repl {kvs:List (κ×V)} {vs:List (κ×Value)} (r:KV kvs vs) (k:κ) {y:V} {u:Value} (ry:RelV y u):
  KV (kvs.map fun kv=>if kv.1=k then (kv.1,y) else kv) (vs.map fun kv=>if kv.1=k then (kv.1,u) else kv):=by
 unfold KV at r ⊢
 induction r with
 |nil=>exact .nil
 | @cons p q ps qs h t ih=>
  rw [List.map_cons,List.map_cons]
  refine .cons ?_ ih
  obtain ⟨h1,h2⟩:=h
  by_cases e:p.1=k
  ·rw [if_pos e,if_pos (h1.symm.trans e)];exact ⟨h1,ry⟩
  ·rw [if_neg e,if_neg (fun z=>e (h1.trans z))];exact ⟨h1,h2⟩
theorem KV.put {kvs:List (κ×V)} {vs:List (κ×Value)} (r:KV kvs vs) (k:κ) {y:V} {u:Value} (ry:RelV y u):KV (putK kvs k y) (stored vs k u):=by
 unfold putK stored
 rw [r.any k]
 by_cases e:(vs.any fun kv=>decide (kv.1=k))=true
 ·rw [if_pos e,if_pos e];exact r.repl k ry
 ·rw [if_neg e,if_neg e];exact Paired.snoc r ⟨rfl,ry⟩
theorem KV.drop {kvs:List (κ×V)} {vs:List (κ×Value)} (r:KV kvs vs) (k:κ):KV (dropK kvs k) (without vs k):=by
 unfold KV at r ⊢
 unfold dropK without
 induction r with
 |nil=>exact .nil
 | @cons p q ps qs h t ih=>
  obtain ⟨h1,h2⟩:=h
  rw [List.filter_cons,List.filter_cons]
  by_cases e:p.1=k
  ·have a:¬decide (p.1≠k)=true:=by simp [e]
   have b:¬decide (q.1≠k)=true:=by simp [h1.symm.trans e]
   rw [if_neg a,if_neg b];exact ih
  ·have e':¬q.1=k:=fun z=>e (h1.trans z)
   have a:decide (p.1≠k)=true:=by simp [e]
   have b:decide (q.1≠k)=true:=by simp [e']
   rw [if_pos a,if_pos b];exact .cons ⟨h1,h2⟩ ih
theorem KV.keys {kvs:List (κ×V)} {vs:List (κ×Value)} (r:KV kvs vs):kvs.map (·.1)=vs.map (·.1):=by
 unfold KV at r
 induction r with
 |nil=>rfl
 |cons h t ih=>rw [List.map_cons,List.map_cons,ih,h.1]
theorem KV.length {kvs:List (κ×V)} {vs:List (κ×Value)} (r:KV kvs vs):kvs.length=vs.length:=Paired.length r
theorem dropK_le (kvs:List (κ×V)) (k:κ):(dropK kvs k).length≤kvs.length:=List.length_filter_le _ _
end
theorem kV_is {P:Program} {w:World} {k:Key} {u:Value} (r:RelV (kV k) u):(Bl P w).is k u=true:=by
 cases k with
 |inl i=>obtain ⟨t,e⟩:=(show ∃t,u=Value.int i t from r);subst e;exact mixKind_int P w i t
 |inr x=>obtain ⟨t,e⟩:=(show ∃t,u=Value.str x t from r);subst e;exact mixKind_str P w x t
theorem items_are {P:Program} {w:World}:∀{ks:List Key} {us:List Value},Vals (ks.map kV) us→ItemsAre (Bl P w) ks us
 |[],_,r=>by rw [List.map_nil] at r;cases r;exact .nil
 |k::ks,_,r=>by
  rw [List.map_cons] at r
  cases r with
  |cons h t=>exact .cons (kV_is h) (items_are t)
abbrev KT (H:Hp):List (List Key×V)→List (List Key×Addr×Value)→Prop:=Paired fun p q=>p.1=q.1∧H q.2.1=some (.tup (p.1.map kV))∧RelV p.2 q.2.2
theorem KT.val {H:Hp} {kvs:List (List Key×V)} {xs:List (List Key×Addr×Value)} (r:KT H kvs xs) (k:List Key):RelO (valV kvs k) ((atKey xs k).map (·.2)):=by
 induction r with
 |nil=>exact True.intro
 | @cons p q ps qs h t ih=>
  obtain ⟨h1,_,h2⟩:=h
  by_cases e:p.1=k
  ·have e':q.1=k:=h1.symm.trans e
   have b:atKey (q::qs) k=some q.2:=by simp [atKey,List.find?_cons,e']
   rw [valV_pos e,b];exact h2
  ·have e':¬q.1=k:=fun z=>e (h1.trans z)
   have b:atKey (q::qs) k=atKey qs k:=by simp [atKey,List.find?_cons,e']
   rw [valV_neg e,b];exact ih
theorem KT.repl {H:Hp} {kvs:List (List Key×V)} {xs:List (List Key×Addr×Value)} (r:KT H kvs xs) (k:List Key) {y:V} {u:Value} (ry:RelV y u):
  KT H (kvs.map fun kv=>if kv.1=k then (kv.1,y) else kv) (xs.map (putAt k u)):=by
 induction r with
 |nil=>exact .nil
 | @cons p q ps qs h t ih=>
  rw [List.map_cons,List.map_cons]
  refine .cons ?_ ih
  obtain ⟨h1,h2,h3⟩:=h
  unfold putAt
  by_cases e:p.1=k
  ·rw [if_pos e,if_pos (h1.symm.trans e)];exact ⟨h1,h2,ry⟩
  ·rw [if_neg e,if_neg (fun z=>e (h1.trans z))];exact ⟨h1,h2,h3⟩
theorem KT.put {H:Hp} {kvs:List (List Key×V)} {xs:List (List Key×Addr×Value)} (r:KT H kvs xs) (k:List Key) {b:Addr} {y:V} {u:Value} (hb:H b=some (.tup (k.map kV))) (ry:RelV y u):
  KT H (putK kvs k y) (storedH xs k b u):=by
 have e:(kvs.any fun kv=>decide (kv.1=k))=(atKey xs k).isSome:=by
  rw [valV_any,(r.val k).isSome_eq,Option.isSome_map]
 unfold putK storedH
 rw [e]
 by_cases q:(atKey xs k).isSome=true
 ·rw [if_pos q,if_pos q];exact r.repl k ry
 ·rw [if_neg q,if_neg q];exact Paired.snoc r ⟨rfl,hb,ry⟩
theorem KT.keeps {H H':Hp} {kvs:List (List Key×V)} {xs:List (List Key×Addr×Value)} (r:KT H kvs xs) (ht:∀b ys,H b=some (.tup ys)→H' b=some (.tup ys)):KT H' kvs xs:=
 Paired.mapP r fun _ _ z=>⟨z.1,ht _ _ z.2.1,z.2.2⟩
section
variable {P:Program} {w:World} {H:Hp} {h:Heap} {a:Addr}
theorem rd_of {u:HO} (ok:HOk P w H h) (e:Rd H a u):ObjOk P w H h a u:=e.ok ok
theorem dk_rd {kvs:List (Key×V)} (ok:HOk P w H h) (e:Rd H a (.dK kvs)):kvs.length≤sizeLine∧(a==sysModules)=false∧∃vs,KV kvs vs∧h.DictOf (Bl P w) a vs:=
 show ObjOk P w H h a (.dK kvs) from rd_of ok e
theorem dk_of {kvs:List (Key×V)} (ok:HOk P w H h) (e:H a=some (.dK kvs)):kvs.length≤sizeLine∧(a==sysModules)=false∧∃vs,KV kvs vs∧h.DictOf (Bl P w) a vs:=dk_rd ok (.inl e)
theorem key_of {ks:List Key} (ok:HOk P w H h) (e:H a=some (.tup (ks.map kV))):(tupleKind (Bl P w)).is h ks a:=by
 obtain ⟨_,its,r,o,h1,h2,_,n,h3⟩:=(show ObjOk P w H h a (.tup (ks.map kV)) from ok a _ e)
 exact ⟨o,its.toArray,n,h1,h2,h3,by simpa using items_are r⟩
theorem dt_rd {kvs:List (List Key×V)} (ok:HOk P w H h) (e:Rd H a (.dT kvs)):kvs.length≤sizeLine∧(a==sysModules)=false∧
  ∃xs,KT H kvs xs∧h.DictOfH (tupleKind (Bl P w)) a xs:=by
 obtain ⟨z,y,xs,r,o,es,ep,h1,h2,h3,h4,h5⟩:=(show ObjOk P w H h a (.dT kvs) from rd_of ok e)
 refine ⟨z,y,xs,r,o,es,ep,h1,h2,h3,h4,fun x hx=> ?_,h5⟩
 have all:∀{l:List (List Key×V)} {m:List (List Key×Addr×Value)},KT H l m→∀x∈m,(tupleKind (Bl P w)).is h x.1 x.2.1:=by
  intro l m q
  induction q with
  |nil=>intro x hx;exact nomatch hx
  | @cons p q ps qs hq t ih=>
   intro x hx
   rcases List.mem_cons.mp hx with e|hx
   ·subst e
    exact key_of ok (by rw [←hq.1];exact hq.2.1)
   ·exact ih x hx
 exact all r x hx
theorem dt_of {kvs:List (List Key×V)} (ok:HOk P w H h) (e:H a=some (.dT kvs)):kvs.length≤sizeLine∧(a==sysModules)=false∧
  ∃xs,KT H kvs xs∧h.DictOfH (tupleKind (Bl P w)) a xs:=dt_rd ok (.inl e)
end
def DGet (H:Hp) (a:Addr) (y:V) (r:Option V):Prop:=
 (∃kvs k,Rd H a (.dK kvs)∧y=kV k∧r=valV kvs k)∨∃kvs k b,Rd H a (.dT kvs)∧y= .ref b∧H b=some (.tup (k.map kV))∧r=valV kvs k
def DPut (H:Hp) (a:Addr) (y v:V) (H':Hp):Prop:=
 (∃kvs k,H a=some (.dK kvs)∧y=kV k∧kvs.length<sizeLine∧H'=upd H a (.dK (putK kvs k v)))∨
 ∃kvs k b,H a=some (.dT kvs)∧y= .ref b∧H b=some (.tup (k.map kV))∧kvs.length<sizeLine∧H'=upd H a (.dT (putK kvs k v))
theorem DGet.k {H:Hp} {a:Addr} {kvs:List (Key×V)} {k:Key} (e:H a=some (.dK kvs)):DGet H a (kV k) (valV kvs k):= .inl ⟨kvs,k,.inl e,rfl,rfl⟩
section
variable {X:Cx} {pins:List (Addr×Obj)} {σ:St} {H:Hp} {s:Shared} {a:Addr} {y v:V} {u r:Value} {o:Option V} {A:Around} {E:Value→Shared→Prop}
theorem Inv.big (I:Inv X pins σ H s):sysModules<s.heap.objs.size:=by
 have h:mainGlobals<s.heap.objs.size:=(I.mod.glob.keeps I.bk).lt
 exact Nat.lt_trans (by decide) h
theorem d_getItem {Q:Value→Shared→Prop} (hu:A.units+1<cLine) (I:Inv X pins σ H s) (g:DGet H a y (some v)) (ry:RelV y u) (h:∀w' s',Inv X pins σ H s'→RelV v w'→Q w' s'):
  wpAny (model X.prog X.w) A (getItem (.ref a) u) Q E s:=by
 rcases g with ⟨kvs,k,e,ey,l⟩|⟨kvs,k,b,e,ey,eb,l⟩
 ·subst ey
  obtain ⟨z,hd,vs,rel,dd⟩:=dk_rd I.hok e
  obtain ⟨w',hw,rw'⟩:=RelO.some_of (v:=v) (o:=valueAt vs k) (by rw [l];exact rel.val k)
  exact wpAny_getItem_of (kV_is ry) dd.mapOf hw (h w' _ (I.tok _) rw')
 ·subst ey
  cases (show u=Value.ref b from ry)
  obtain ⟨z,hd,xs,rel,dd⟩:=dt_rd I.hok e
  obtain ⟨w',hw,rw'⟩:=RelO.some_of (v:=v) (o:=(atKey xs k).map (·.2)) (by rw [l];exact rel.val k)
  obtain ⟨p,hp,hp2⟩:=Option.map_eq_some_iff.mp hw
  refine wpAny_getItem_heap (tupleKind_room_in1 hu) (key_of I.hok eb) dd hp ?_
  rw [hp2]
  exact h w' _ (I.tok _) rw'
theorem d_write {h':Heap} {t':Nat} {ob:HO} (I:Inv X pins σ H s) (mu:Mut (H a)) (hs:Heap.SameBut a s.heap h') (he:∃q,h'.get? a=some q) (new:ObjOk X.prog X.w (upd H a ob) h' a ob):
  Inv X pins σ (upd H a ob) {s with heap:=h',toks:=t'}:=
 I.write (x:=a) (e:=a) mu (.inl rfl) (fun b q hb z=>(hs.2 b hb).trans z) he new
theorem dk_new {P:Program} {w:World} {H':Hp} {h':Heap} {kvs:List (Key×V)} {vs:List (Key×Value)} (z:kvs.length≤sizeLine) (hd:(a==sysModules)=false) (rel:KV kvs vs) (dd:h'.DictOf (Bl P w) a vs):
  ObjOk P w H' h' a (.dK kvs):=⟨z,hd,vs,rel,dd⟩
theorem d_setItem {H':Hp} {Q:Unit→Shared→Prop} (hu:A.units+1<cLine) (I:Inv X pins σ H s) (g:DPut H a y v H') (ry:RelV y u) (rv:RelV v r) (h:∀s',Inv X pins σ H' s'→Q () s'):
  wpAny (model X.prog X.w) A (setItem (.ref a) u r) Q E s:=by
 rcases g with ⟨kvs,k,e,ey,l,eH⟩|⟨kvs,k,b,e,ey,eb,l,eH⟩
 ·subst ey eH
  obtain ⟨z,hd,vs,rel,dd⟩:=dk_of I.hok e
  have hz:vs.length≤sizeLine:=by rw [←rel.length];exact z
  have hl:(putK kvs k v).length≤sizeLine:=by have:=length_putK kvs k v;exact Nat.le_trans (by assumption) (by assumption)
  refine wpAny_setItem_pairs (hsz:=hz) (kV_is ry) dd fun h' dd' hs=>h _ ?_
  have he:∃q,h'.get? a=some q:=let ⟨q,_,_,hq,_⟩:=dd';⟨q,hq⟩
  exact d_write I (by rw [e];exact True.intro) hs he (dk_new hl hd (rel.put k rv) dd')
 ·subst ey eH
  cases (show u=Value.ref b from ry)
  obtain ⟨z,hd,xs,rel,dd⟩:=dt_of I.hok e
  have hz:xs.length≤sizeLine:=by rw [←Paired.length rel];exact z
  have hl:(putK kvs k v).length≤sizeLine:=by have:=length_putK kvs k v;exact Nat.le_trans (by assumption) (by assumption)
  refine wpAny_setItem_heap (hsz:=hz) (tupleKind_room_in1 hu) (key_of I.hok eb) dd fun h' dd' hs=>h _ ?_
  obtain ⟨q,es,ep,hq,h2,h3,h4,_,h5⟩:=dd'
  refine d_write I (by rw [e];exact True.intro) hs ⟨q,hq⟩ ⟨hl,hd,_,(rel.put k eb rv).keeps fun c ys ec=> ?_,q,es,ep,hq,h2,h3,h4,h5⟩
  rw [Ai (Cw ec e (fun z=>nomatch z))]
  exact ec
end
section
variable {X:Cx} {pins:List (Addr×Obj)} {σ:St} {H:Hp} {s:Shared} {a:Addr} {kvs:List (Key×V)} {k:Key} {u:Value} {A:Around} {E:Value→Shared→Prop}
theorem d_pop {v:V} {more:List Value} {Q:Value→Shared→Prop} (I:Inv X pins σ H s) (e:H a=some (.dK kvs)) (ry:RelV (kV k) u) (l:valV kvs k=some v) (hm:more=[]∨∃x,more=[x])
  (h:∀w' s',Inv X pins σ (upd H a (.dK (dropK kvs k))) s'→RelV v w'→Q w' s'):wpAny (model X.prog X.w) A (call (.builtin "dict.pop") (.ref a::u::more)) Q E s:=by
 obtain ⟨z,hd,vs,rel,dd⟩:=dk_of I.hok e
 obtain ⟨w',hw,rw'⟩:=RelO.some_of (v:=v) (o:=valueAt vs k) (by rw [←l];exact rel.val k)
 have hp:(keyPart u).isSome=true:=by
  cases k with
  |inl i=>obtain ⟨t,q⟩:=(show ∃t,u=Value.int i t from ry);subst q;rfl
  |inr x=>obtain ⟨t,q⟩:=(show ∃t,u=Value.str x t from ry);subst q;rfl
 have ha:argsOk "dict.pop" ⟨.ref a::u::more,[]⟩:=by
  rcases hm with q|⟨x,q⟩
  ·subst q;exact PySem.F.args_dict_pop_2 _ _
  ·subst q;exact PySem.F.args_dict_pop_3 _ _ _
 refine call_meetsIn PySem.F.slot_dict_pop dd.typeIs PySem.F.entry_dict_pop ha (meets_dict_pop_there (Bl X.prog X.w) a (kV_is ry) more hm hp)
  ⟨vs,w',dd,by rw [←rel.length];exact z,hw,fun h' dd' hs=>h w' _ ?_ rw'⟩
 have he:∃q,h'.get? a=some q:=let ⟨q,_,_,hq,_⟩:=dd';⟨q,hq⟩
 exact d_write I (by rw [e];exact True.intro) hs he (dk_new (Nat.le_trans (dropK_le kvs k) z) hd (rel.drop k) dd')
end
def NoSl (i:Expr):Prop:=∀ov iv,subscripted i false ov iv=operate [ov,iv] (getItem ov iv)
theorem subD_of {prog:Program} {w:World} {A:Around} {E:Value→Shared→Prop} {s:Shared} {env:Env} {value slice:Expr} {pos:Pos} {T id:String} {Q:Value→Shared→Prop}
  (hl:typeLookup (.type T) "__getitem__"=pure (some (.builtin id))) (hs:NoSl slice)
  (h:wpAny (model prog w) A (eval value env) (fun o s₁=>wpAny (model prog w) A (eval slice env) (fun i s₂=>s₂.TypeIs o T∧wpAny (model prog w) A (getItem o i) Q E s₂) E s₁) E s):
  wpAny (model prog w) A (eval (.Subscript value slice pos) env) Q E s:=by
 refine Subscript_ (wpAny_mono h (fun o s₁ h₁=>wpAny_mono h₁ (fun i s₂ h₂=> ?_) fun _ _ x=>x) fun _ _ x=>x)
 obtain ⟨hT,h₂⟩:=h₂
 unfold subscriptTail
 refine wpAny_bind ?_
 rw [getitemInPython_of_ne hT.not_modules]
 refine wpAny_bind (wpAny_specialOf hT hl ?_)
 have fin:wpAny (model prog w) A (subscripted slice false o i) (fun r s₃=>wpAny (model prog w) A (letTemporaryGo value o r >>=fun _=>pure r) Q E s₃) E s₂:=by
  rw [hs o i]
  exact wpAny_operating (wpAny_mono h₂ (fun r s₃ h₃=>wpAny_bind (wpAny_letTemporaryGo (wpAny_pure h₃))) fun _ _ x=>x)
 first
  |exact wpAny_pure (wpAny_bind fin)
  |exact wpAny_bind (wpAny_pure (wpAny_bind fin))
  |exact wpAny_bind fin
theorem dict_typeIs {X:Cx} {pins:List (Addr×Obj)} {σ:St} {H:Hp} {s:Shared} {a:Addr} {y:V} {o:Option V} (I:Inv X pins σ H s) (g:DGet H a y o):s.TypeIs (.ref a) "dict":=by
 rcases g with ⟨kvs,k,e,_,_⟩|⟨kvs,k,b,e,_,_,_⟩
 ·obtain ⟨_,_,vs,_,dd⟩:=dk_rd I.hok e
  exact dd.typeIs
 ·obtain ⟨_,_,xs,_,dd⟩:=dt_rd I.hok e
  exact dd.typeIs
def tDGet (td ty:TE):TE:=fun σ H Q=>td σ H fun x H1=>ty σ H1 fun y H2=>∃a v,x= .ref a∧DGet H2 a y (some v)∧Q v H2
def sDPut (td ty tv:TE):TS:=fun D σ H=>tv σ H fun v H1=>td σ H1 fun x H2=>ty σ H2 fun y H3=>∃a H4,x= .ref a∧DPut H3 a y v H4∧D.nx σ H4
section
variable {X:Cx} {o i e value:Expr} {pos pos' tpos:Pos} {td ty tv:TE}
theorem Cl (hu:X.A.units+1<cLine) (ho:PE X o td) (hi:PE X i ty) (hs:NoSl i):PE X (.Subscript o i pos) (tDGet td ty):=by
 intro pins s σ H Q I h
 refine subD_of PySem.F.slot_dict_getitem.lookup hs (thn (ho pins s σ H _ I h) fun u s1 ⟨x,H1,I1,rx,q1⟩=>thn (hi pins s1 σ H1 _ I1 q1) fun iv s2 ⟨y,H2,I2,ry,a,v,ex,g,q2⟩=> ?_)
 subst ex
 obtain rfl:u=Value.ref a:=rx
 exact ⟨dict_typeIs I2 g,d_getItem hu I2 g ry fun w' s3 I3 rw'=>⟨v,H2,I3,rw',q2⟩⟩
theorem ps_dput (hu:X.A.units+1<cLine) (ho:PE X o td) (hi:PE X i ty) (hv:PE X value tv) (hs:swapsWith value (some (.Subscript o i pos')) pos.line X.env=pure false):
  PS X (.Assign [.Subscript o i pos'] value pos) (sDPut td ty tv):=by
 intro pins s σ H D I h
 refine wpAny_Assign_Subscript (thn (hv pins s σ H _ I h) fun r s1 ⟨v,H1,I1,rv,q1⟩=>thn (ho pins s1 σ H1 _ I1 q1) fun u s2 ⟨x,H2,I2,rx,q2⟩=>thn (hi pins s2 σ H2 _ I2 q2) fun iv s3 ⟨y,H3,I3,ry,a,H4,ex,g,q3⟩=> ?_) hs
 subst ex
 obtain rfl:u=Value.ref a:=rx
 exact d_setItem hu I3 g ry rv fun s4 I4=>⟨σ,H4,I4,q3⟩
end
theorem dk_empty {P:Program} {w:World} {H:Hp} (h:Heap) (hb:sysModules<h.objs.size):ObjOk P w H (h.push {cls:= .type "dict",data:= .dict #[]}) h.objs.size (.dK []):=
 ⟨Nat.zero_le _,beq_eq_false_iff_ne.mpr (Ne.symm (Nat.ne_of_lt hb)),[],.nil,Heap.DictOf.new h⟩
def tPairs:List (TE×TE)→St→Hp→(List (V×V)→Hp→Prop)→Prop
 |[],_,H,Q=>Q [] H
 |(tk,tv)::r,σ,H,Q=>tk σ H fun x H1=>tv σ H1 fun y H2=>tPairs r σ H2 fun ps H3=>Q ((x,y)::ps) H3
abbrev VV:List (V×V)→List (Value×Value)→Prop:=Paired fun p q=>RelV p.1 q.1∧RelV p.2 q.2
def PPs (X:Cx) (pos:Pos) (keys:List (Option Expr)) (values:List Expr) (trs:List (TE×TE)):Prop:=
 ∀(pins:List (Addr×Obj)) (s:Shared) (σ:St) (H:Hp) (Q:List (V×V)→Hp→Prop),Inv X pins σ H s→tPairs trs σ H Q→
  wpAny (model X.prog X.w) X.A (evalPairs (pairTrees keys values X.env pos)) (fun vs s'=>∃ps H',Inv X pins σ H' s'∧VV ps vs∧Q ps H') X.xe s
theorem pps_nil {X:Cx} {pos:Pos}:PPs X pos [] [] []:=fun pins s σ H Q I h=>pairTrees_nil_walk ⟨[],H,I,.nil,h⟩
theorem pps_cons {X:Cx} {pos:Pos} {k v:Expr} {ks:List (Option Expr)} {vs:List Expr} {tk tv:TE} {trs:List (TE×TE)} (hk:PE X k tk) (hv:PE X v tv) (hr:PPs X pos ks vs trs):
  PPs X pos (some k::ks) (v::vs) ((tk,tv)::trs):=fun pins s σ H Q I h=>
 pairTrees_cons_walk (thn (hk pins s σ H _ I h) fun u s1 ⟨x,H1,I1,rx,q1⟩=>thn (hv pins s1 σ H1 _ I1 q1) fun w2 s2 ⟨y,H2,I2,ry,q2⟩=>
  thn (hr pins s2 σ H2 _ I2 q2) fun ws s3 ⟨ps,H3,I3,rel,q3⟩=>⟨(x,y)::ps,H3,I3,.cons ⟨rx,ry⟩ rel,q3⟩)
def mergeK (kvs more:List (Key×V)):List (Key×V):=more.foldl (fun acc kv=>putK acc kv.1 kv.2) kvs
theorem KV.merge:∀{more:List (Key×V)} {rs:List (Key×Value)} {kvs:List (Key×V)} {vs:List (Key×Value)},KV more rs→KV kvs vs→KV (mergeK kvs more) (merged vs rs):=by
 intro more rs kvs vs r
 unfold KV at r
 induction r generalizing kvs vs with
 |nil=>intro q;exact q
 | @cons p q ps qs h t ih=>
  intro r0
  have e:KV (putK kvs p.1 p.2) (stored vs q.1 q.2):=by
   have:=r0.put p.1 h.2
   rw [←h.1];exact this
  exact ih e
theorem length_mergeK:∀(more kvs:List (Key×V)),(mergeK kvs more).length≤kvs.length+more.length
 |[],kvs=>by show kvs.length≤kvs.length+0;exact Nat.le_add_right _ _
 |p::r,kvs=>by
  have h1:=length_mergeK r (putK kvs p.1 p.2)
  have h2:=length_putK kvs p.1 p.2
  show (mergeK (putK kvs p.1 p.2) r).length≤_
  rw [List.length_cons];omega
theorem carries_of {P:Program} {w:World}:∀{kvs:List (Key×V)} {ws:List (Value×Value)},VV (kvs.map fun kv=>(kV kv.1,kv.2)) ws→∃rs,Carries (Bl P w) ws rs∧KV kvs rs
 |[],_,r=>by rw [List.map_nil] at r;cases r;exact ⟨[],True.intro,.nil⟩
 |p::kvs,_,r=>by
  rw [List.map_cons] at r
  cases r with
  | @cons a b as bs h t=>
   obtain ⟨rs,c,q⟩:=carries_of (P:=P) (w:=w) t
   obtain ⟨b1,b2⟩:=b
   exact ⟨(p.1,b2)::rs,⟨kV_is h.1,rfl,c⟩,.cons ⟨rfl,h.2⟩ q⟩
def tDisp (trs:List (TE×TE)):TE:=fun σ H Q=>∀p,H p=none→tPairs trs σ (upd H p (.dK [])) fun ps H2=>H2 p=some (.dK [])∧∃kvs:List (Key×V),ps=kvs.map (fun kv=>(kV kv.1,kv.2))∧kvs.length≤15∧Q (.ref p) (upd H2 p (.dK (mergeK [] kvs)))
theorem pe_disp {X:Cx} {pos:Pos} {keys:List (Option Expr)} {values:List Expr} {trs:List (TE×TE)} (h:PPs X pos keys values trs) (hall:keys.all (·.isSome)=true) (hl:keys.length=values.length) (h0:keys≠[])
  (h15:keys.length≤15):PE X (.Dict keys values pos) (tDisp trs):=by
 intro pins s σ H Q I q
 have hn:=I.hok.fresh (Nat.le_refl s.heap.objs.size)
 have I1:=I.laid (a:=s.heap.objs.size) (o:= .dK []) (h':=s.heap.push {cls:= .type "dict",data:= .dict #[]}) (t':=s.toks) (fun _ _ q=>Heap.get?_push_of_some _ q) (Nat.le_refl _) (dk_empty s.heap I.big)
 refine wpAny_Dict_walk (knd:=Bl X.prog X.w) hall hl h0 h15 (thn (h pins _ σ _ _ I1 (q _ hn)) fun ws s2 ⟨ps,H2,I2,rel,e,kvs,ep,lk,q2⟩=> ?_)
 subst ep
 obtain ⟨rs,c,rk⟩:=carries_of (P:=X.prog) (w:=X.w) rel
 obtain ⟨z,hd,vs0,r0,dd⟩:=dk_of I2.hok e
 cases r0
 refine ⟨rs,c,dd,fun h' dd' hs=>⟨.ref s.heap.objs.size,_,?_,rfl,q2⟩⟩
 have hz:(mergeK [] kvs).length≤sizeLine:=by
  have h1:=length_mergeK kvs []
  rw [List.length_nil] at h1
  rw [sizeLine_eq];omega
 have he:∃q,h'.get? s.heap.objs.size=some q:=let ⟨q,_,_,hq,_⟩:=dd';⟨q,hq⟩
 exact d_write I2 (by rw [e];exact True.intro) hs he (dk_new hz hd (rk.merge .nil) dd')
structure M1 (X:Cx) (o:Expr) (m:Str) (apos:Pos) (e:Expr) (cpos:Pos):Prop where
 base:attributeBase o m X.env (eval o X.env)=eval o X.env
 few:((backTo cpos (starEach [e] X.env)).all (fun x=> !x.1) && (backToKw cpos (keywordEach [] X.env)).all (fun x=>x.1.isSome)
  && decide (([e]:List Expr).length+([]:List Keyword).length+(if ([]:List Keyword).isEmpty then 0 else 1)<30))=true
 line:(apos.endLine==cpos.line)=true
 trees:backTo cpos (starEach [e] X.env)=[(false,eval e X.env)]
def IsD (H:Hp) (a:Addr):Prop:=(∃kvs,Rd H a (.dK kvs))∨∃kvs,Rd H a (.dT kvs)
theorem isD_at {X:Cx} {pins:List (Addr×Obj)} {σ:St} {H:Hp} {s:Shared} {a:Addr} (I:Inv X pins σ H s) (d:IsD H a):
  s.TypeIs (.ref a) "dict"∧(∀b,Value.ref a= .ref b→∃ob,s.heap.get? b=some ob∧ob.dict=none)∧(a==sysModules)=false:=by
 rcases d with ⟨kvs,e⟩|⟨kvs,e⟩
 ·obtain ⟨_,hd,vs,_,dd⟩:=dk_rd I.hok e
  refine ⟨dd.typeIs,fun b q=> ?_,hd⟩
  cases q
  obtain ⟨ob,_,_,h1,h2,_⟩:=dd
  exact ⟨ob,h1,h2.2.1⟩
 ·obtain ⟨_,hd,xs,_,dd⟩:=dt_rd I.hok e
  refine ⟨dd.typeIs,fun b q=> ?_,hd⟩
  cases q
  obtain ⟨ob,_,_,h1,h2,_⟩:=dd
  exact ⟨ob,h1,h2.2.1⟩
def tDPop1 (td ty:TE):TE:=fun σ H Q=>td σ H fun x H1=>∃a,x= .ref a∧IsD H1 a∧ty σ H1 fun y H2=>∃kvs k v,H2 a=some (.dK kvs)∧y=kV k∧valV kvs k=some v∧Q v (upd H2 a (.dK (dropK kvs k)))
section
variable {X:Cx} {o e f:Expr} {apos cpos:Pos} {td ty tx:TE}
theorem pe_dpop1 (ho:PE X o td) (he:PE X e ty) (m:M1 X o "pop" apos e cpos):PE X (.Call (.Attribute o "pop" apos) [e] [] cpos) (tDPop1 td ty):=by
 intro pins s σ H Q I h
 refine wpAny_Call_method m.base m.few m.line PySem.F.plainAttrs_dict PySem.F.slot_dict_pop PySem.F.type_dict_pop (thn (ho pins s σ H _ I h) fun u s1 ⟨x,H1,I1,rx,a,ex,d,q1⟩=> ?_)
 subst ex
 obtain rfl:u=Value.ref a:=rx
 obtain ⟨t1,t2,_⟩:=isD_at I1 d
 refine ⟨t1,t2,?_⟩
 rw [m.trees]
 refine Calls.callWith_builtin rfl (Calls.evalArgs_plain (Calls.spliced_cons (thn (he pins s1 σ H1 _ I1 q1) fun iv s2 ⟨y,H2,I2,ry,kvs,k,v,ea,ey,l,q2⟩=>Calls.spliced_nil ?_)))
 subst ey
 exact d_pop I2 ea ry l (.inl rfl) fun w' s3 I3 rw'=>⟨v,_,I3,rw',q2⟩
end
end L2
namespace Att
open PySem PySem.W PySem.Calls PyProof.Rows
theorem ints_of_wellAll {P:Params} {h:Heap}:∀(ns:List Int) (vs:List Value),WellAll P h vs (ns.map WData.int)→IntsAre vs ns:=by
 intro ns
 induction ns with
 |nil=>
  intro vs w
  rw [List.map_nil] at w
  cases w
  exact .nil
 |cons n ns ih=>
  intro vs w
  rw [List.map_cons] at w
  cases w with
  |cons a b=>
   cases a
   exact .cons _ _ (ih _ b)
theorem script_of {l:OpenLaw} {n:Nat} (hn:l.most=some n) {P:Params} {h:Heap} {args:List WData} {vals:List Value}
  (hpre:l.row.toRowW.claim.pre args=true) (hwl:WellAll P h vals args):
  ∃a vs ns,vals=[Value.ref a]∧args=[WData.list (ns.map WData.int)]∧h.get? a=some {cls:= .type "list",data:= .seq vs.toArray}∧IntsAre vs ns∧ns.length≤n:=by
 have hsh:WShape.hasAll [] args [.list .int]=true:=(pre_splitW hpre).1
 have hc:l.pre.holds [] {args:=args}=true:=(pre_splitW hpre).2
 obtain ⟨d,r,rfl,h1,h2⟩:=hasAllW_cons hsh
 obtain rfl:=hasAllW_nil h2
 obtain ⟨xs,rfl,h3⟩:=hasW_list h1
 obtain ⟨ns,rfl⟩:=items_int h3
 have hlen:ns.length≤n:=by
  unfold OpenLaw.pre at hc
  have h4:(WTm.not (.lt (.lit (.int (n:Int))) (.len (.arg 0)))).holds [] {args:=[.list (ns.map .int)]}=true:=by
   have h4:=(holds_andW hc).1
   rw [hn] at h4
   exact h4
  have h5:=condW_of h4 (w_not (w_lt w_lit (w_len_list (w_arg rfl))))
  rw [List.length_map] at h5
  refine Nat.le_of_not_lt fun q=> ?_
  have q':(n:Int)<((ns.length:Nat):Int):=by omega
  first
   |(rw [decide_eq_true q'] at h5;exact absurd h5 (by decide))
   |(simp at h5;omega)
 cases hwl with
 |cons w1 w2=>
  cases w2
  cases w1 with
  |list ho hall=>exact ⟨_,_,ns,rfl,rfl,ho,ints_of_wellAll ns _ hall,hlen⟩
theorem post_true (l:OpenLaw) (args:List WData):l.row.toRowW.claim.post args (.bool true) args=true:=
 postW_of (r:=l.row.toRowW) (X:=(true==true))
  (show WShape.has [] (.bool true) .bool=true by first|rfl|decide|simp [WShape.has,WShape.arms,WShape.armsAll])
  (show (WTm.eq .res (.lit (.bool true))).value [] {args:=args,res:=some (.bool true),after:=args}=some (.bool (true==true)) from w_eq_bool (w_res rfl) w_lit) rfl
theorem attach_call {l:OpenLaw} {n:Nat} {q:Program} {loose:List Str} {XP:(Str→Option Value)→Heap→Prop} {YP:World→Heap→Prop} {d:DefRec}
  (hn:l.most=some n) (hdf:d.params.defaults=[])
  (call:∀(w:World) (s₀ s₁:Shared) (mg mb:Str→Option Value) (fa:Addr) (o:Obj) (pm cd doc:Value) (a:Addr) (vs:List Value) (ns:List Int),
   Ground q loose [] XP w s₀ mg mb s₁.heap→YP w s₁.heap→
   s₁.heap.get? fa=some o→o.data= .func (docDef d.name d.params d.body d.scope pm cd doc)→s₁.heap.CodeRec cd d.name→mg d.name=some (.ref fa)→
   s₁.heap.get? a=some {cls:= .type "list",data:= .seq vs.toArray}→IntsAre vs ns→ns.length≤n→s₁.gens= #[]→
   codeAny (model l.prog w) callerA (.call (.ref fa) ⟨[.ref a],[]⟩) (fun r s'=>r= .ok (.ret (.bool true))∧OldK s₁.heap s'.heap∧s'.os=s₁.os∧AllBare s'.gens) s₁):
  WalkO q loose XP YP l.row.toRowW d [] (fun f vs=>PySem.call f vs):=by
 intro w s₀ s₁ mg mb G Y fa o pm cd doc dV kV ho hd hcd hD hmg hg args vals as hpre hlay hrd hwl hlo
 obtain rfl:dV= .none:=Dflts.none hD hdf
 obtain rfl:kV= .none:=Dflts.noKw hD
 obtain ⟨a,vs,ns,rfl,rfl,hobj,hints,hlen⟩:=script_of hn hpre hwl
 refine enter_call (codeAny_mono (call w s₀ s₁ mg mb fa o pm cd doc a vs ns G Y ho (fd_plain hd) hcd hmg hobj hints hlen hg) fun r s' hq=> ?_)
 obtain ⟨rfl,h2,h3,h4⟩:=hq
 exact ⟨.inl ⟨.bool true,.bool true,[],rfl,fun _=>rfl,.bool true,post_true l _,fun _=>⟨List.Pairwise.nil,fun _ hm=>(nomatch hm)⟩⟩,h2,h3,h4⟩
end Att
namespace L2
open PySem PySem.Spec PyProof.Rows
theorem vals_ints:∀{vs:List Value} {ns:List Int},IntsAre vs ns→Vals (ns.map V.int) vs
 |_,_,.nil=> .nil
 |_,_,.cons n t h=> .cons ⟨t,rfl⟩ (vals_ints h)
def Only (H:Hp):Prop:=∀b,H b=none∨∃o xs,H b=some (.frz o (.lst xs))
theorem law_call {P:Program} {w:World} {K:PySem.W.Frag} {mg mb:Str→Option Value} {CX:CXT} {k:Nat} {fa a:Addr} {fd:FuncData} {x:Str} {sp:Sp} {s₁:Shared} {vs:List Value} {ns:List Int}
  (KX:K.In s₁.heap) (hns:s₁.heap.Ns mainGlobals mg) (hb:s₁.heap.Ns builtinsNs mb) (hbb:∀x:Str,x≠"__name__"→mb x=bootBuiltins x) (hlim:s₁.heap.NoLimit) (hg:s₁.gens= #[])
  (ha:s₁.heap.get? a=some {cls:= .type "list",data:= .seq vs.toArray}) (hi:IntsAre vs ns) (hl:ns.length≤sizeLine) (hr:Room k callerA)
  (F:∀base:Heap,K.In base→base.Ns mainGlobals mg→FnOk P w K mg base CX k fa fd [x] sp) (hbind:∀(s:Shared) (u:Value),BindsTo s fd ⟨[u],[]⟩ [(x,u)])
  (hsp:∀H:Hp,Only H→SqL K H a (ns.map V.int)→sp [.ref a] H (fun v _=>v= .bl true) fun _ _ _=>False)
  (hCX:∀H e s',CX [] H s₁ (fun _ _ _=>False) e s'→False):
  codeAny (model P w) callerA (.call (.ref fa) ⟨[.ref a],[]⟩) (fun r s'=>r= .ok (.ret (.bool true))∧OldK s₁.heap s'.heap∧s'.os=s₁.os∧AllBare s'.gens) s₁:=by
 have rv:=vals_ints hi
 have lenV:=hi.length
 have core:∀H:Hp,Only H→SqL K H a (ns.map V.int)→HOk P w H s₁.heap→(∀b,H b≠none→b=a)→(H a≠none→K.lookup a=none)→
   codeAny (model P w) callerA (.call (.ref fa) ⟨[.ref a],[]⟩) (fun r s'=>r= .ok (.ret (.bool true))∧OldK s₁.heap s'.heap∧s'.os=s₁.os∧AllBare s'.gens) s₁:=by
  intro H hO hS hok hA hK
  have base_of:∀{b:Addr} {o:Obj},s₁.heap.get? b=some o→H b=none→(hidT s₁.heap H).get? b=some o:=fun e n=>hidT_get e n
  have noA:∀{b:Addr} {o:Obj} {es:Array DictEntry} {ep:Nat},s₁.heap.get? b=some o→o.data= .dict es ep→H b=none:=fun {b o es ep} e d=>by
   cases q:H b with
   |none=>rfl
   |some u=>
    have e':b=a:=hA b (by rw [q];simp)
    subst e'
    rw [ha] at e;cases e
    have d':Data.seq vs.toArray _=Data.dict es ep:=d
    cases d'
  have nsK:∀{b:Addr} {m:Str→Option Value},s₁.heap.Ns b m→(hidT s₁.heap H).Ns b m:=fun {b m} ⟨o,es,ep,e,d,r⟩=>⟨o,es,ep,base_of e (noA e d),d,r⟩
  have hKb:K.In (hidT s₁.heap H):=fun b o e=>base_of (KX b o e) (by
   cases q:H b with
   |none=>rfl
   |some u=>
    have e':b=a:=hA b (by rw [q];simp)
    subst e'
    rw [hK (by rw [q];simp)] at e;cases e)
  have hM:Mod K mg (hidT s₁.heap H):=⟨hKb,nsK hns,⟨mb,nsK hb,hbb⟩,let ⟨mc,h1,h2⟩:=hlim;⟨mc,nsK h1,h2⟩⟩
  have e0:Env0 P w K mg (hidT s₁.heap H) callerA [] s₁ H:=⟨rfl,hM,fun b o e=>of_hidT e,Nat.le_of_eq (hidT_size _ _),trivial,fun b hb=>absurd (show b∈([]:List Addr) from hb) (by simp),hok,.of_eq hg⟩
  refine codeAny_mono ((F _ hKb (nsK hns)).run callerA [] s₁ H ⟨[.ref a],[]⟩ [.ref a] [.ref a] _ _ hr e0 (hbind s₁ (.ref a)) (.cons rfl .nil) (hsp H hO hS)) fun r s' h=> ?_
  cases r with
  |error e=>exact (hCX H e s' h).elim
  |ok fl=>
   cases fl with
   |next=>exact False.elim h
   |brk=>exact False.elim h
   |cont=>exact False.elim h
   |ret u=>
    obtain ⟨v,H',os,bare,un,hok',r',q⟩:=h
    have q':v= .bl true:=q
    subst q'
    obtain rfl:u=Value.bool true:=r'
    refine ⟨rfl,OldK.of_keep fun b o e=> ?_,os,bare⟩
    cases q:H b with
    |none=>exact un.keep b o e q (by intro z;exact absurd (show b∈([]:List Addr) from z) (by simp)) (by simp)
    |some u=>
     rcases hO b with z|⟨ob,xs,z⟩
     ·rw [q] at z;cases z
     ·have z2:=un.frzs b ob _ z
      obtain ⟨e1,_⟩:=hok b _ z
      obtain ⟨e2,_⟩:=hok' b _ z2
      rw [e] at e1;cases e1
      exact e2
 cases hk:K.lookup a with
 |some o=>
  have e:=KX a o hk
  rw [ha] at e
  cases e
  refine core (fun _=>none) (fun _=> .inl rfl) (.inr ⟨_,vs.toArray,_,hk,rfl,rfl,rfl,by rw [List.size_toArray,lenV];exact hl,by simpa using rv⟩) (fun b u z=>by have z':(none:Option HO)=some u:=z;cases z') (fun b z=>absurd rfl z) fun z=>absurd rfl z
 |none=>
  refine core (fun b=>if b=a then some (.frz {cls:= .type "list",data:= .seq vs.toArray} (.lst (ns.map V.int))) else none) (fun b=> ?_) (.inl (.inr ⟨{cls:= .type "list",data:= .seq vs.toArray},if_pos rfl⟩)) (fun b u z=> ?_) (fun b z=> ?_) fun _=>hk
  ·by_cases hb:b=a
   ·exact .inr ⟨_,_,if_pos hb⟩
   ·exact .inl (if_neg hb)
  ·by_cases hb:b=a
   ·have z':=(if_pos hb).symm.trans z
    cases z'
    subst hb
    exact ⟨ha,by rw [List.length_map];exact hl,vs,_,rv,ha⟩
   ·have z':=(if_neg hb).symm.trans z
    cases z'
  ·by_cases hb:b=a
   ·exact hb
   ·exact absurd (if_neg hb) z
end L2
namespace L2
open PySem PySem.Spec PyProof.Rows
theorem walk_of {l:PySem.W.OpenLaw} {n k:Nat} {q:Program} {loose:List Str} {XP:(Str→Option Value)→Heap→Prop} {YP:World→Heap→Prop} {d:DefRec} {K:Params→PySem.W.Frag} {CX:World→CXT} {sp:World→Sp} {x:Str}
  (hn:l.most=some n) (hn2:n≤sizeLine) (hdf:d.params.defaults=[]) (hr:Room k callerA)
  (hY:∀(w:World) (h:Heap),YP w h→(K w.params).In h)
  (F:∀(w:World) (mg:Str→Option Value) (fa:Addr) (h:Heap),(K w.params).In h→h.Ns mainGlobals mg→mg d.name=some (.ref fa)→
   ∃fd:FuncData,(∀(s:Shared) (u:Value),BindsTo s fd ⟨[u],[]⟩ [(x,u)])∧
    ∀base:Heap,(K w.params).In base→base.Ns mainGlobals mg→FnOk l.prog w (K w.params) mg base (CX w) k fa fd [x] (sp w))
  (hsp:∀(w:World) (H:Hp) (a:Addr) (ns:List Int),ns.length≤n→Only H→SqL (K w.params) H a (ns.map V.int)→sp w [.ref a] H (fun v _=>v= .bl true) fun _ _ _=>False)
  (hCX:∀(w:World) (H:Hp) (s:Shared) (e:Value) (s':Shared),CX w [] H s (fun _ _ _=>False) e s'→False):
  PySem.W.WalkO q loose XP YP l.row.toRowW d [] (fun f vs=>PySem.call f vs):=by
 refine Att.attach_call hn hdf fun w s₀ s₁ mg mb fa o pm cd doc a vs ns G Y ho hd hcd hmg hobj hints hlen hg=> ?_
 have KX:=hY w _ Y
 obtain ⟨fd,hb,hF⟩:=F w mg fa _ KX G.T.g hmg
 exact law_call KX G.T.g G.T.b G.T.builtins G.T.nolimit hg hobj hints (Nat.le_trans hlen hn2) hr hF hb (fun H hO hS=>hsp w H a ns hlen hO hS) fun H e s'=>hCX w H s₁ e s'
end L2
/- THE LAST THEOREM (shape;LID,My.* are yours):
  My.Adr:a structure of the addresses that your layer names (classes,functions);My.Txt K t:a structure (Prop) of the equations over K;
  My.txt_mk:{K} {implicit addresses ..} (e1:nsIn K mainGlobals "law"=some (some (.ref f))) (e2:K.lookup f=some ⟨oc,od,.func (fnOf "law" "law" params body scope dV kV doc pm an cdv ct),sl⟩) (e3:codeIn K cdv "law"=true) .. :∃t,My.Txt K t
set_option maxRecDepth 100000 in
set_option maxHeartbeats 0 in
theorem PySem.Challenge.cw_LID_holds : PySem.Challenge.rw_LID.Holds := by
 w_on;o_law;k_head;(case hw=>w_witness2)
 k_fill
 refine L2.walk_of (l:=PySem.Challenge.rw_LID) (n:=63) (k:=40) (x:="script") (CX:=fun w=> ..) (sp:=fun _=>My.sp_law) rfl (by decide) rfl ⟨rfl,by decide,by decide⟩ (fun w h Y=>PySem.W.kIn_of Y) ?F ?S ?C
 case F=>
  intro w mg fa h KX G hmg
  have T:∃t,My.Txt (L2.KOf KX) t:=by
   dsimp only [L2.KOf]                          -- K must stand as «<heap const> w.params» for k_is
   refine' My.txt_mk ?e1 ?e2 ?e3 ..
   (case e1=>PySem.W.k_is)                    -- in the order:a name -> its address -> its object -> its parts
   (case e2=>PySem.W.k_is)
   ..
  obtain ⟨t,T⟩:=T
  have e0:=hmg.symm.trans (PySem.W.mg_of KX G T.law)
  cases e0                                       -- fa is the law's own address
  exact ⟨_,fun s u=> .of_eq rfl,fun base kb nb=>My.law_fn T kb nb⟩     -- if «.of_eq rfl» comes too early:refine' ⟨_,?b,fun base kb nb=>My.law_fn T kb nb⟩;exact fun s u=> .of_eq rfl
 case S=>exact fun w H a ns hl hO hS=> ..
 case C=>exact ..
(the tactic k_is has no namespace:write k_is) -/
namespace L2
open PySem PySem.Spec PyProof.Rows
def A2 (s:Stmt):Arguments:=match s with
 | .FunctionDef _ a _ _ _ _ _ _ _ _=>a
 |_=>{posonlyargs:=[],args:=[],vararg:=none,kwonlyargs:=[],kw_defaults:=[],kwarg:=none,defaults:=[]}
def A0 (s:Stmt):List Stmt:=match s with
 | .FunctionDef _ _ b _ _ _ _ _ _ _=>b
 |_=>[]
def Af (s:Stmt):Scope:=match s with
 | .FunctionDef _ _ _ _ _ _ sc _ _ _=>sc
 |_=>{kind:= .function,names:=[],isGenerator:=false,isCoroutine:=false}
abbrev CX0:CXT:=fun _ _ _ _ _ _=>False
abbrev E0:XK:=fun _ _ _=>False
theorem A5 {X:Cx}:Passes CX0 X E0:=fun _ _ _ _ _ _ _ h=>h.elim
structure Fun (K:PySem.W.Frag) (x qual:Str) (st:Stmt) (f:Addr) (fd:FuncData):Prop where
 ex:∃(oc:Value) (od:Option Addr) (kV doc pm:Value) (an:Option Addr) (cdv ct:Value) (osl:Array (Option Value)),
  fd=PySem.W.fnOf x qual (A2 st) (A0 st) (Af st) .none kV doc pm an cdv ct∧K.lookup f=some ⟨oc,od,.func fd,osl⟩∧PySem.W.codeIn K cdv qual=true
 kp:PySem.W.keepIn K (.ref f)=true
section
variable {P:Program} {w:World} {K:PySem.W.Frag} {mg:Str→Option Value} {base:Heap}
theorem Fun.ok {x qual:Str} {st:Stmt} {f:Addr} {fd:FuncData} {N ps:List Str} {k:Nat} {sp:Sp} (F:Fun K x qual st f fd) (S:A4 N ps (Af st)) (len:∀vs H Q E,sp vs H Q E→vs.length=ps.length)
  (hbody:∀(cdv:Value) (A:Around) (outer:List Env) (s:Shared) (H:Hp) (vs:List V) (Q:VK) (E:XK),Room k (A.deeper (envOfC qual (Af st) s.heap.objs.size f cdv))→sp vs H Q E→
   ∃t,PSs (cxOf CX0 P w K mg base N qual (Af st) f cdv A outer s H E).nox (A0 st) t∧t {nx:=fun _ H'=>Q .non H',rt:=Q} (start N vs) H):FnOk P w K mg base CX0 (k+1) f fd ps sp:=by
 obtain ⟨oc,od,kV,doc,pm,an,cdv,ct,osl,rfl,lk,hcd⟩:=F.ex
 refine fn_of lk hcd S len fun A outer s H vs Q E hr hsp=> ?_
 obtain ⟨t,h,q⟩:=hbody cdv A outer s H vs Q E hr hsp
 exact ⟨t,h.nox,q⟩
theorem Fun.binds {x qual:Str} {st:Stmt} {f:Addr} {fd:FuncData} {ps:List Str} (F:Fun K x qual st f fd)
  (h:∀(kV doc pm:Value) (an:Option Addr) (cdv ct:Value) (us:List Value),us.length=ps.length→bindArgs (PySem.W.fnOf x qual (A2 st) (A0 st) (Af st) .none kV doc pm an cdv ct) ⟨us,[]⟩=pure (ps.zip us)):Binds K fd ps []:=by
 obtain ⟨oc,od,kV,doc,pm,an,cdv,ct,osl,rfl,lk,hcd⟩:=F.ex
 exact .all (h kV doc pm an cdv ct)
theorem Bg {x qual:Str} {st:Stmt} {f:Addr} {oc:Value} {od an:Option Addr} {osl:Array (Option Value)} {kV doc pm cdv ct:Value} (l:K.lookup f=some ⟨oc,od,.func (PySem.W.fnOf x qual (A2 st) (A0 st) (Af st) .none kV doc pm an cdv ct),osl⟩)
  (c:PySem.W.codeIn K cdv qual=true) (k:PySem.W.keepIn K (.ref f)=true):Fun K x qual st f (PySem.W.fnOf x qual (A2 st) (A0 st) (Af st) .none kV doc pm an cdv ct):=⟨⟨oc,od,kV,doc,pm,an,cdv,ct,osl,rfl,l,c⟩,k⟩
end
theorem hu_of {A:Around} {k:Nat} (hr:Room k A):A.units+1<cLine:=Nat.lt_of_le_of_lt (Nat.add_le_add_left (by decide:1≤64) _) hr.units
theorem Al {n:Nat} (h:n≤1000):n<sizeLine:=Nat.lt_of_le_of_lt h (by decide)
section
variable {X:Cx}
theorem pv (i:Nat) {x:Str} {pos:Pos} (hN:X.N[i]? =some x:=by rfl) (hv:Vis X.env.scope x:=by first|exact Or.inl rfl|exact Or.inr (Or.inl rfl)|exact Or.inr (Or.inr rfl)) (hd:(x==("__debug__":Str))=false:=by decide)
  (hcd:(x==("__classdict__":Str))=false:=by decide):PE X (.Name x pos) (tVar i):=pe_var hN hv hd hcd
end
theorem Bt {A B:Prop} (h:B):if false=true then A else B:=by
 rw [if_neg Bool.false_ne_true]
 exact h
theorem iteT {A B:Prop} (h:A):if true=true then A else B:=by
 rw [if_pos rfl]
 exact h
theorem Bp {c A B:Prop} [Decidable c] (h1:c→A) (h2:¬c→B):if c then A else B:=by
 by_cases h:c
 ·rw [if_pos h]
  exact h1 h
 ·rw [if_neg h]
  exact h2 h
def Same (H H':Hp):Prop:=∀b o,H b=some o→H' b=some o
theorem Same.trans {H H1 H2:Hp} (a:Same H H1) (b:Same H1 H2):Same H H2:=fun c o h=>b c o (a c o h)
end L2
namespace L2
open PySem PySem.Spec PyProof.Rows
def Bx (env:Env):List (Str×NameKind)→List (Str×Addr)→List (Str×Addr)
 |[],cs=>cs
 |(n,k)::r,cs=>Bx env r (if k= .free then (n,(env.cells.lookup n).getD 0)::cs else cs)
theorem closes_ok {env:Env}:∀(ns:List (Str×NameKind)) (cs:List (Str×Addr)),(∀p∈ns,p.2= .free→(env.cells.lookup p.1).isSome=true)→
  (forIn ns cs fun (x:Str×NameKind) r=>(do
   let mut cs:=r
   if x.2== .free then cs:=(x.1,←cellOf env x.1)::cs
   pure (ForInStep.yield cs):Sem (ForInStep (List (Str×Addr)))))=pure (Bx env ns cs)
 |[],cs,_=>rfl
 |(n,k)::r,cs,h=>by
  have ih:=fun cs=>closes_ok (env:=env) r cs fun p hp=>h p (List.mem_cons_of_mem _ hp)
  rw [List.forIn_cons]
  by_cases hk:k= .free
  ·subst hk
   have q:=h (n,.free) List.mem_cons_self rfl
   obtain ⟨c,hc⟩:=Option.isSome_iff_exists.mp q
   have e:cellOf env n=pure c:=by unfold cellOf;rw [hc]
   simp only [e]
   simp [Bx,hc,ih]
   have:=ih ((n,c)::cs)
   simpa using this
  ·have hb:(k==NameKind.free)=false:=by simpa using hk
   simp [Bx,hk]
   have:=ih cs
   simpa using this
theorem closureFor_closes {scope:Scope} {env:Env} (h:∀p∈scope.names,p.2= .free→(env.cells.lookup p.1).isSome=true):closureFor scope env=pure (Bx env scope.names []):=by
 have q:=closes_ok (env:=env) scope.names [] h
 unfold closureFor
 simp at q ⊢
 exact q
theorem closes_sub {env:Env}:∀(ns:List (Str×NameKind)) (cs:List (Str×Addr)),(∀p∈ns,p.2= .free→(env.cells.lookup p.1).isSome=true)→(∀y c,cs.lookup y=some c→env.cells.lookup y=some c)→
  ∀y c,(Bx env ns cs).lookup y=some c→env.cells.lookup y=some c
 |[],cs,_,h,y,c,e=>h y c e
 |(n,k)::r,cs,h,hc,y,c,e=>by
  unfold Bx at e
  refine closes_sub r _ (fun p hp=>h p (List.mem_cons_of_mem _ hp)) ?_ y c e
  intro y c e
  by_cases hk:k= .free
  ·subst hk
   rw [if_pos rfl] at e
   obtain ⟨d,hd⟩:=Option.isSome_iff_exists.mp (h (n,.free) List.mem_cons_self rfl)
   rw [List.lookup_cons] at e
   cases q:y==n with
   |true=>
    rw [q] at e
    have:y=n:=by simpa using q
    subst this
    rw [hd] at e ⊢
    exact e
   |false=>
    rw [q] at e
    exact hc y c e
  ·rw [if_neg hk] at e
   exact hc y c e
theorem closes_keep {env:Env} {y:Str}:∀(ns:List (Str×NameKind)) (cs:List (Str×Addr)),(cs.lookup y).isSome=true→((Bx env ns cs).lookup y).isSome=true
 |[],cs,h=>h
 |(n,k)::r,cs,h=>by
  unfold Bx
  refine closes_keep r _ ?_
  split
  ·rw [List.lookup_cons]
   split
   ·rfl
   ·exact h
  ·exact h
theorem closes_has {env:Env} {y:Str}:∀(ns:List (Str×NameKind)) (cs:List (Str×Addr)),(y,NameKind.free)∈ns→((Bx env ns cs).lookup y).isSome=true
 |(n,k)::r,cs,h=>by
  unfold Bx
  rcases List.mem_cons.mp h with e|e
  ·cases e
   refine closes_keep r _ ?_
   rw [if_pos rfl,List.lookup_cons]
   simp
  ·exact closes_has r _ e
def Cu (X:Cx) (scope:Scope) (N:List Str) (C:Addr) (s:Shared) (H:Hp) (ex:List Addr) (pins:List (Addr×Obj)):Cx where
 prog:=X.prog
 w:=X.w
 K:=X.K
 mg:=X.mg
 base:=X.base
 A:=X.A
 N:=N
 s₀:=s
 H₀:=H
 env:=compEnvC scope (Bx X.env scope.names []) C X.env
 outer:=X.stack
 stack:=X.stack
 ex:=ex
 fn:=fun _=>false
 calm:=X.calm
 pn:=X.pn++pins
 xe:=fun _ _=>False
def cst (nT:Nat) (js:List Nat) (σ:St):St:=List.replicate nT none++js.map fun j=>(σ[j]?).join
structure CScope (X:Cx) (scope:Scope) (T F:List Str) (js:List Nat):Prop where
 kind:scope.kind= .function
 nocell:∀y∈scope.names,y.2≠ .cell
 names:∀x∈scope.names,x.2= .local→scope.names.lookup x.1=some .local
 free:∀x∈scope.names,x.2= .free→X.env.kindOf x.1=some .cell
 loc:∀y∈T,(relabel scope X.env).names.lookup y=some .local
 cel:∀y∈F,(relabel scope X.env).names.lookup y=some .cell∧X.env.kindOf y=some .cell∧(y,NameKind.free)∈scope.names
 all:∀x∈(relabel scope X.env).names,(x.2= .cell∨x.2= .free)→(x.1,NameKind.free)∈scope.names
 js:js.map (fun j=>X.N[j]?)=F.map some
section
variable {X:Cx} {scope:Scope} {T F:List Str} {js:List Nat}
theorem comp_inv {pins:List (Addr×Obj)} {σ:St} {H:Hp} {s:Shared} {h1:Heap} {tk:Nat} {fp:List Addr} {m:Str→Option Value} (S:CScope X scope T F js) (I:Inv X pins σ H s)
  (hn:h1.Ns s.heap.objs.size m) (kk:∀b o,s.heap.get? b=some o→h1.get? b=some o) (hf:∀b∈fp,FpOk X pins H b∧∃o,s.heap.get? b=some o∧∀v,o.data≠ .cell v):
  Inv (Cu X scope (T++F) s.heap.objs.size s H fp pins) [] (cst T.length js σ) H {s with heap:=h1,toks:=tk}:=by
 have sub:=closes_sub (env:=X.env) scope.names [] (fun p hp hk=>by
  obtain ⟨c,e⟩:=I.ok.has p.1 (.inl (S.free p hp hk))
  rw [e];rfl) (fun y c e=>by simp at e)
 have ltC:∀y c,X.env.cells.lookup y=some c→c<s.heap.objs.size:=fun y c e=>by
  obtain ⟨v,z⟩:=I.cell y c e
  exact z.lt
 refine ⟨⟨I.ok.mod,?_,I.ok.glob,I.ok.blt,Nat.le_refl _,fun x y c e1 e2=>I.ok.inj x y c (sub x c e1) (sub y c e2),fun x hx=> ?_,fun x c hx=>absurd hx Bool.false_ne_true,I.ok.hd,I.ok.frames,.inl rfl,fun b hb=> ?_,I.bs,?_,fun b o e hb=> ?_,fun b hb hs=> ?_,I.stack,I.stkFree⟩,
  rfl,I.bare,Un.kept kk,⟨m,hn,fun i x v e1 e2 e3=> ?_⟩,fun x c e=> ?_,I.hok.fresh (Nat.le_refl _),fun x c e=>I.freeC x c (sub x c e),fun p hp=> ?_,I.hok.kept kk,?_⟩
 ·show (relabel scope X.env).kind= .function
  exact S.kind
 ·have hx:(relabel scope X.env).names.lookup x=some .cell∨(relabel scope X.env).names.lookup x=some .free:=hx
  have hm:(x,NameKind.free)∈scope.names:=by
   rcases hx with h|h
   ·exact S.all _ (PySem.mem_of_lookup h) (.inl rfl)
   ·exact S.all _ (PySem.mem_of_lookup h) (.inr rfl)
  exact Option.isSome_iff_exists.mp (closes_has scope.names [] hm)
 ·obtain ⟨⟨f0,f1,f2,f3,f4,f5⟩,o,ho,_⟩:=hf b hb
  exact ⟨Nat.ne_of_lt (Heap.lt_size ho),fun x c e=>f4 x c (sub x c e)⟩
 ·exact Nat.le_trans I.ok.bsz I.sz
 ·obtain ⟨⟨f0,f1,f2,f3,f4,f5⟩,_⟩:=hf b hb
  rcases f3 with z|z
  ·exact I.ok.noex b o e z
  ·exact absurd (Nat.lt_of_lt_of_le (Heap.lt_size e) (Nat.le_trans I.ok.bsz z)) (Nat.lt_irrefl _)
 ·obtain ⟨⟨f0,f1,f2,f3,f4,f5⟩,_⟩:=hf b hb
  rcases List.mem_cons.mp (I.stkSub b hs) with z|z
  ·exact f1 z
  ·exact f2 z
 ·-- a name's value
  have hi:T.length≤i:=by
   by_cases hi:i<T.length
   ·unfold cst at e2
    rw [List.getElem?_append_left (by simpa using hi),List.getElem?_replicate] at e2
    split at e2<;> cases e2
   ·exact Nat.not_lt.mp (by assumption)
  obtain ⟨k,rfl⟩:∃k,i=T.length+k:=⟨i - T.length,by omega⟩
  have e1:(T++F)[T.length+k]? =some x:=e1
  rw [List.getElem?_append_right (by assumption)] at e1
  have e1:F[k]? =some x:=by simpa using e1
  unfold cst at e2
  rw [List.getElem?_append_right (by simp)] at e2
  have e2:(js.map fun j=>(σ[j]?).join)[k]? =some (some v):=by simpa using e2
  rw [List.getElem?_map] at e2
  cases ej:js[k]? with
  |none=>rw [ej] at e2;cases e2
  |some j=>
   rw [ej] at e2
   have e2:(σ[j]?).join=some v:=by simpa using e2
   have e3':σ[j]? =some (some v):=by
    cases q:σ[j]? with
    |none=>rw [q] at e2;cases e2
    |some z=>rw [q] at e2;cases z with
     |none=>cases e2
     |some z=>simp at e2;rw [e2]
   have eN:X.N[j]? =some x:=by
    have q:=congrArg (fun l=>l[k]?) S.js
    simp only [List.getElem?_map,ej,e1] at q
    simpa using q
   obtain ⟨c1,c2,c3⟩:=S.cel x (List.mem_of_getElem? e1)
   obtain ⟨m0,hn0,hl⟩:=I.loc
   obtain ⟨u,ru,lk⟩:=hl j x v eN e3' (.inr (.inl c2))
   refine ⟨u,ru,?_⟩
   rcases lk with ⟨z,_⟩|⟨_,c,ec,hc⟩
   ·rw [c2] at z;cases z
   ·obtain ⟨c',ec'⟩:=Option.isSome_iff_exists.mp (closes_has (env:=X.env) scope.names [] c3)
    have:=sub x c' ec'
    rw [ec] at this;cases this
    refine .inr ⟨.inl c1,c,ec',?_⟩
    obtain ⟨o,ho,hd⟩:=hc
    exact ⟨o,kk _ _ ho,hd⟩
 ·obtain ⟨v,o,ho,hd⟩:=I.cell x c (sub x c e)
  exact ⟨v,o,kk _ _ ho,hd⟩
 ·have hp:p∈(X.pn++pins)++[]:=hp
  rw [List.append_nil] at hp
  obtain ⟨e,n,ne,nf,d⟩:=I.pin p hp
  refine ⟨kk _ _ e,n,Nat.ne_of_lt (Heap.lt_size e),fun z=> ?_,d⟩
  rcases List.mem_cons.mp (I.stkSub p.1 z) with q|q
  ·exact ne q
  ·exact nf q
 ·unfold cst
  show _=(T++F).length
  have q:=congrArg List.length S.js
  simp at q
  simp [q]
def PIf (X:Cx) (ifs:List Expr) (t:TT):Prop:=
 ∀(pins:List (Addr×Obj)) (s:Shared) (σ:St) (H:Hp) (Q:Bool→Hp→Prop),Inv X pins σ H s→t σ H Q→
  wpAny (model X.prog X.w) X.A (forIn ifs true fun c r=>if r=true then do let ok ←isTrue c X.env (eval c X.env);pure (ForInStep.yield ok) else pure (ForInStep.yield r)) (TP X pins σ Q) X.xe s
def tYes:TT:=fun _ H Q=>Q true H
theorem Br:PIf X [] tYes:=fun pins s σ H Q I h=>wpAny_tests_nil ⟨H,I,h⟩
theorem Cv {c:Expr} {t:TT} (h:PT X c t):PIf X [c] t:=fun pins s σ H Q I hw=>wpAny_tests_one (h pins s σ H Q I hw)
def cturn (g:TG) (ti:TT) (te:TE) (D:Addr) (x:V) (σ:St) (ys:List V) (H:Hp) (N:St→List V→Hp→Prop):Prop:=
 g x σ H fun σ2 H2=>ti σ2 H2 fun b H3=>if b=true then te σ2 H3 fun y H4=>H4 D=some (.lst ys)∧ys.length<sizeLine∧N σ2 (ys++[y]) (upd H4 D (.lst (ys++[y]))) else N σ2 ys H3
def cgo (J:It) (g:TG) (ti:TT) (te:TE) (D:Addr) (σ:St) (H:Hp) (Q:VK):Prop:=
 ∃W:Nat→Nat→St→List V→Hp→Prop,(∃m,W 0 m σ [] (upd H D (.lst [])))∧∀i m σ ys H,W i m σ ys H→H D=some (.lst ys)∧
  ((J.stop i H∧Q (.ref D) H)∨(J.go i H∧∃N:St→List V→Hp→Prop,(∀σ' ys' H',N σ' ys' H'→∃m',m'<m∧W (i+1) m' σ' ys' H')∧∀x H',J.yld i H x H'→cturn g ti te D x σ ys H' N))
def tComp (wi:TI) (g:TG) (ti:TT) (te:TE) (nT:Nat) (js:List Nat):TE:=fun σ H Q=>wi σ H fun J H1=>∀D,H1 D=none→cgo J g ti te D (cst nT js σ) H1 Q
theorem comp_out {pins:List (Addr×Obj)} {σ σ':St} {H H':Hp} {s s':Shared} {h':Heap} {N:List Str} {fp:List Addr} (I:Inv X pins σ H s) (hf:∀b∈fp,FpOk X pins H b)
  (J:Inv (Cu X scope N s.heap.objs.size s H fp pins) [] σ' H' s') (sb:Heap.SameBut s.heap.objs.size s'.heap h'):Inv X pins σ H' {s' with heap:=h'}:=by
 have ne:∀b o,s.heap.get? b=some o→b≠s.heap.objs.size:=fun b o e=>Nat.ne_of_lt (Heap.lt_size e)
 have u:=J.base
 have u':Un (frs X.stack) fp H H' s.heap h':=
  ⟨fun b o e n h1 h2=>sb.extBut b o (ne b o e) (u.keep b o e n h1 h2),fun b o e n h1 h2=>by
   obtain ⟨sl,q⟩:=u.slot b o e n h1 h2
   exact ⟨sl,sb.extBut b _ (ne b o e) q⟩,u.free,fun b o e h=>by
   obtain ⟨o',q⟩:=u.there b o e h
   exact ⟨o',sb.extBut b _ (ne b o e) q⟩,u.tups,u.frzs,u.tbls⟩
 have nC:H' s.heap.objs.size=none:=J.free
 have hok:HOk X.prog X.w H' h':=fun b o e=>by
  refine (J.hok b o e).stay (fun c v hc q=>sb.extBut c v ?_ q) (fun _ q=>q) fun _ _ q=>q
  rcases hc with z|z
  ·rw [z];intro z';rw [z',nC] at e;cases e
  ·intro z';rw [z',nC] at z;cases z
 exact I.call' (s':={s' with heap:=h'}) J.os u' hok J.bare fun b hb=>by
  obtain ⟨f0,f1,f2,f3,f4,f5⟩:=hf b hb
  exact ⟨f3,f1,f4,f5⟩
theorem comp_go {tg elt iter:Expr} {ifs:List Expr} {pos:Pos} {g:TG} {ti:TT} {te:TE} {wi:TI} {pins:List (Addr×Obj)} {σ:St} {H:Hp} {s:Shared} {use:Option (Value→Sem Unit)} {QQ:Value→Shared→Prop} {Q:VK} (S:CScope X scope T F js) (hc:X.calm=true)
  (hi:PI X tg iter wi) (hg:∀C s H ex pins,PG (Cu X scope (T++F) C s H ex pins) tg g) (hif:∀C s H ex pins,PIf (Cu X scope (T++F) C s H ex pins) ifs ti) (he:∀C s H ex pins,PE (Cu X scope (T++F) C s H ex pins) elt te)
  (I:Inv X pins σ H s) (h:tComp wi g ti te T.length js σ H Q)
  (fin:∀(D C:Addr) (s':Shared) (H':Hp) (m:Str→Option Value),s'.heap.Ns C m→Q (.ref D) H'→FpOk X pins H' C→(∀h',Heap.SameBut C s'.heap h'→Inv X pins σ H' {s' with heap:=h'})→
   compPost (model X.prog X.w) X.A X.xe use QQ (.ref D) C (.ok .next) s')
  (hs:∀x,foldedSetIterable iter X.env x=pure x):
  wpAny (model X.prog X.w) X.A (comprehension (.ListComp elt [⟨tg,iter,ifs,0⟩] scope pos) scope X.env (firstIterPos [⟨tg,iter,ifs,0⟩] pos) (newList []) false (eval iter X.env) use) QQ X.xe s:=by
 refine wpAny_comprehension_free (use:=use) rfl hs (closureFor_closes fun p hp hk=> ?_) S.kind S.names (thn (hi pins s σ H _ I h) fun v s1 h1=>thn h1 fun itv s2 h2=> ?_)
 ·obtain ⟨c,e⟩:=I.ok.has p.1 (.inl (S.free p hp hk))
  rw [e];rfl
 obtain ⟨it,fp,tn,J,H2,rfl,I2,Tn,st2,f2,h2⟩:=h2
 obtain ⟨W,⟨m0,w0⟩,turn⟩:=h2 s2.heap.objs.size I2.fresh
 refine wpAny_newObj_type (wpAny_newFunctionEnv S.nocell (by intro y hy;simp at hy) (fun h₁ hns₁ hsb₁=> ?_) S.kind)
 have I3:=I2.lnew (t':=s2.toks) (ys:=[]) (its:=[]) Paired.nil (Nat.zero_le _)
 generalize hs3:({s2 with heap:=s2.heap.push {cls:= .type "list",data:= .seq ([]:List Value).toArray},toks:=s2.toks}:Shared)=s3 at I3
 have hf3:∀b∈fp,FpOk X pins (upd H2 s2.heap.objs.size (.lst [])) b∧∃o,s3.heap.get? b=some o∧∀v,o.data≠ .cell v:=fun b hb=>by
  obtain ⟨f0,fr⟩:=f2 b hb
  obtain ⟨o,e,d⟩:=Tn.obj _ _ st2 b hb
  refine ⟨⟨by rw [Ai (Nat.ne_of_lt (Heap.lt_size e))];exact f0,fr⟩,o,?_,d⟩
  rw [←hs3]
  exact Heap.get?_push_of_some _ e
 have e3:s3.heap=s2.heap.push {cls:= .type "list",data:= .seq ([]:List Value).toArray}:=by rw [←hs3]
 have kk:∀b o,s3.heap.get? b=some o→h₁.get? b=some o:=fun b o e=>by
  rw [e3] at e
  exact hsb₁.extBut b o (Nat.ne_of_lt (Heap.lt_size e)) (Heap.get?_push_of_some _ e)
 have hns:h₁.Ns s3.heap.objs.size (fun x=>([]:List (Str×Value)).reverse.lookup x):=by rw [e3];exact hns₁
 have I4:=comp_inv (tk:=s3.toks+([]:List (Str×Value)).length) S I3 hns kk hf3
 have stat:∀{H':Hp} {pl:List (Addr×Obj)},(∀p∈pl,∀b∈fp,p.1≠b)→(∀b∈fp,H' b=none)→∀b∈fp,FpOk (Cu X scope (T++F) s3.heap.objs.size s3 (upd H2 s2.heap.objs.size (.lst [])) fp pins) pl H' b:=fun {H' pl} hp hn b hb=>by
  obtain ⟨⟨f0,f1,f2,f3,f4,f5⟩,o,e,d⟩:=hf3 b hb
  obtain ⟨x1,x2⟩:=I4.ok.exf b hb
  refine ⟨hn b hb,x1,I4.ok.exfs b hb,.inl hb,x2,fun p hq=> ?_⟩
  rcases List.mem_append.mp hq with z|z
  ·exact f5 p z
  ·exact hp p z b hb
 have loop:codeAny (model X.prog X.w) X.A (.compLoop (.ListComp elt [⟨tg,iter,ifs,0⟩] scope pos) 0 (.ref it) (.ref s2.heap.objs.size) (compEnvC scope (Bx X.env scope.names []) s3.heap.objs.size X.env))
   (compPost (model X.prog X.w) X.A X.xe use QQ (.ref s2.heap.objs.size) s3.heap.objs.size) {s3 with heap:=h₁,toks:=s3.toks+([]:List (Str×Value)).length}:=by
  refine codeAny_loop rfl (fun n s'=>∃i σ' ys H',Inv (Cu X scope (T++F) s3.heap.objs.size s3 (upd H2 s2.heap.objs.size (.lst [])) fp pins) [] σ' H' s'∧tn i s'.heap∧(∀b∈fp,H' b=none)∧W i n σ' ys H') ?_ m0 ⟨0,_,[],_,I4,?_,fun b hb=>(hf3 b hb).1.1,w0⟩
  ·rintro n s5 ⟨i,σ5,ys,H5,I5,st5,fr5,w5⟩
   show wpAny _ X.A ((compTurn (.ListComp elt [⟨tg,iter,ifs,0⟩] scope pos) 0 (.ref it) (.ref s2.heap.objs.size) (compEnvC scope (Bx X.env scope.names []) s3.heap.objs.size X.env)).onRaise (fun x=>do noteFrame x _;theTreesLotGoes x)) _ _ s5
   refine wpAny_noted ?_
   rw [compTurn_list]
   refine wpAny_bind (wpAny_standAt (wpAny_bind ?_))
   obtain ⟨hD,tu⟩:=turn i n σ5 ys H5 w5
   rcases tu with ⟨stop,qq⟩|⟨go,NN,hNN,step⟩
   ·refine thn (Tn.done (Cu X scope (T++F) s3.heap.objs.size s3 (upd H2 s2.heap.objs.size (.lst [])) fp pins) rfl rfl rfl hc i [] s5 σ5 H5 _ I5 (stat (pl:=[]) (fun _ hp=>absurd hp List.not_mem_nil) fr5) st5 stop) fun r s6 ⟨hr,I6⟩=> ?_
    subst hr
    refine wpAny_pure ?_
    obtain ⟨m6,hn6,_⟩:=I6.loc
    have lC:s.heap.objs.size≤s.heap.objs.size:=Nat.le_refl _
    exact fin _ _ s6 H5 m6 hn6 qq (I3.fpOk (Nat.le_refl _) I6.free) fun h' sb=>comp_out I3 (fun b hb=>(hf3 b hb).1) I6 sb
   ·refine thn (Tn.item (Cu X scope (T++F) s3.heap.objs.size s3 (upd H2 s2.heap.objs.size (.lst [])) fp pins) rfl rfl rfl hc i [] s5 σ5 H5 _ I5 (stat (pl:=[]) (fun _ hp=>absurd hp List.not_mem_nil) fr5) st5 go) fun r s6 ⟨u,hr,h6⟩=> ?_
    subst hr
    refine wpAny_bind (thn h6 fun _ s7 ⟨x,H7,I7,r7,y7,st7,fr7⟩=> ?_)
    have I7':=I7.pinned (stat (pl:=[]) (fun _ hp=>absurd hp List.not_mem_nil) fr7) (Tn.obj _ _ st7)
    have back:∀{σ8:St} {H8:Hp} {s8:Shared} {ys8:List V} {m':Nat},Inv (Cu X scope (T++F) s3.heap.objs.size s3 (upd H2 s2.heap.objs.size (.lst [])) fp pins) ([]++pinsAt fp s7.heap) σ8 H8 s8→m'<n→W (i+1) m' σ8 ys8 H8→
      ∃m,m<n∧∃i σ' ys H',Inv (Cu X scope (T++F) s3.heap.objs.size s3 (upd H2 s2.heap.objs.size (.lst [])) fp pins) [] σ' H' s8∧tn i s8.heap∧(∀b∈fp,H' b=none)∧W i m σ' ys H':=fun {σ8 H8 s8 ys8 m'} I8 hm w8=>by
     refine ⟨m',hm,i+1,σ8,ys8,H8,I8.unpinned,Tn.keep _ _ _ st7 fun b hb o e=>(I8.pin (b,o) (List.mem_append_right _ (List.mem_append_right _ (mem_pinsAt hb e)))).1,fun b hb=> ?_,w8⟩
     obtain ⟨o,e,d⟩:=Tn.obj _ _ st7 b hb
     exact (I8.pin (b,o) (List.mem_append_right _ (List.mem_append_right _ (mem_pinsAt hb e)))).2.1
    refine wpAny_bind (wpAny_mono (hg _ _ _ _ _ _ s7 σ5 H7 x u _ I7' r7 (step x H7 y7)) (fun _ s8 ⟨σ8,H8,I8,q8⟩=> ?_) fun _ _ z=>z.elim)
    refine wpAny_bind (wpAny_mono (hif _ _ _ _ _ _ s8 σ8 H8 _ I8 q8) (fun ok s9 ⟨H9,I9,q9⟩=> ?_) fun _ _ z=>z.elim)
    cases ok with
    |false=>
     rw [if_neg Bool.false_ne_true] at q9
     obtain ⟨m',hm,w9⟩:=hNN _ _ _ q9
     exact wpAny_pure ⟨rfl,back I9 hm w9⟩
    |true=>
     rw [if_pos rfl] at q9
     refine wpAny_bind (wpAny_bind (wpAny_mono (he _ _ _ _ _ _ s9 σ8 H9 _ I9 q9) (fun yv s10 ⟨y,H10,I10,r10,d10,l10,q10⟩=> ?_) fun _ _ z=>z.elim))
     obtain ⟨m',hm,w10⟩:=hNN _ _ _ q10
     obtain ⟨z10,its,n10,rv,el,eo⟩:=I10.lstM d10
     refine wpAny_bind (wpAny_list_append_plain (items:=its.toArray) ⟨n10,eo⟩ (fun h' hl' sb'=> ?_) (by simp;omega))
     obtain ⟨n11,eo'⟩:=hl'
     have I11:=I10.write (x:=s2.heap.objs.size) (e:=s2.heap.objs.size) (o:= .lst (ys++[y])) (t':=s10.toks) (by rw [d10];exact trivial) (.inl rfl) (fun b o hb e=>sb'.extBut b o hb e) ⟨_,eo'⟩ ⟨by simp;assumption,its++[yv],n11,rv.append (.cons r10 .nil),by simpa using eo'⟩
     exact wpAny_pure (wpAny_pure ⟨rfl,back I11 hm w10⟩)
  ·refine Tn.keep _ _ _ st2 fun b hb o e=>kk b o ?_
   rw [e3]
   exact Heap.get?_push_of_some _ e
 have st1:tn 0 h₁:=Tn.keep _ _ _ st2 fun b hb o e=>kk b o (by rw [e3];exact Heap.get?_push_of_some _ e)
 exact codeAny_compStart_list loop (Tn.self _ 0 _ _ _ st1 loop)
theorem Bn {tg elt iter:Expr} {ifs:List Expr} {pos:Pos} {g:TG} {ti:TT} {te:TE} {wi:TI} (S:CScope X scope T F js) (hc:X.calm=true)
  (hi:PI X tg iter wi) (hg:∀C s H ex pins,PG (Cu X scope (T++F) C s H ex pins) tg g) (hif:∀C s H ex pins,PIf (Cu X scope (T++F) C s H ex pins) ifs ti) (he:∀C s H ex pins,PE (Cu X scope (T++F) C s H ex pins) elt te)
  (hs:∀x,foldedSetIterable iter X.env x=pure x:=by intro _;rfl):PE X (.ListComp elt [⟨tg,iter,ifs,0⟩] scope pos) (tComp wi g ti te T.length js):=by
 intro pins s σ H Q I h
 rw [eval_ListComp]
 exact comp_go (use:=none) S hc hi hg hif he I h (fun D C s' H' m hn q _ hinv=>⟨m,hn,fun h' sb=>⟨.ref D,H',hinv h' sb,rfl,q⟩⟩) hs
theorem ps_comp {i:Nat} {x:Str} {pos' spos:Pos} {tg elt iter:Expr} {ifs:List Expr} {pos:Pos} {g:TG} {ti:TT} {te:TE} {wi:TI} (hN:X.N.Nodup) (hx1:X.N[i]? =some x) (hx2:Loc X.env.scope x) (S:CScope X scope T F js) (hc:X.calm=true)
  (hi:PI X tg iter wi) (hg:∀C s H ex pins,PG (Cu X scope (T++F) C s H ex pins) tg g) (hif:∀C s H ex pins,PIf (Cu X scope (T++F) C s H ex pins) ifs ti) (he:∀C s H ex pins,PE (Cu X scope (T++F) C s H ex pins) elt te)
  (hsw:swapsWith (.ListComp elt [⟨tg,iter,ifs,0⟩] scope pos) (some (.Name x pos')) spos.line X.env=pure true:=by rfl)
  (hf:X.fn x=true∨X.env.scope.names.lookup x=some .local:=by first|exact .inl rfl|exact .inr rfl|assumption)
  (hs:∀x,foldedSetIterable iter X.env x=pure x:=by intro _;rfl):PS X (.Assign [.Name x pos'] (.ListComp elt [⟨tg,iter,ifs,0⟩] scope pos) spos) (tAsg (tComp wi g ti te T.length js) (gName i)):=by
 intro pins s σ H D I h
 rw [exec_Assign_Name_used _ _ _ _ hsw]
 refine wpAny_bind (wpAny_standAt (wpAny_bind ?_))
 show wpAny _ X.A (do let _ ←comprehension (.ListComp elt [⟨tg,iter,ifs,0⟩] scope pos) scope X.env _ (newList []) false (eval iter X.env) (some (assign (.Name x pos') X.env))) _ _ s
 refine wpAny_bind (wpAny_mono (comp_go (use:=some (assign (.Name x pos') X.env)) (QQ:=fun _ s'=>SP X pins D .next s') S hc hi hg hif he I h (fun d C s' H' m hn q fC hinv=> ?_) hs) (fun _ s' hq=>wpAny_pure (wpAny_pure hq)) fun _ _ e=>e)
 have I1:Inv X pins σ H' s':=hinv s'.heap (Heap.SameBut.refl ..)
 obtain ⟨oC,es,ep,ho,hd,hr⟩:=id hn
 obtain ⟨f0,f1,f2,f3,f4,f5⟩:=fC
 have I2:Inv X (pins++[(C,oC)]) σ H' s':=I1.pins_of fun p hp=>(List.mem_append.mp hp).elim (fun z=>I1.pin p (List.mem_append_right _ z)) fun z=>by
  have e:=List.mem_singleton.mp z
  subst e
  exact ⟨ho,f0,f1,f2,fun v z=>by rw [hd] at z;cases z⟩
 show wpAny _ X.A (assign (.Name x pos') X.env (.ref d)) _ _ _
 refine wpAny_assign_Name (store_ok (v:= .ref d) I2 hN hx1 hx2 rfl (fun s'' I''=> ?_) hf)
 have e2:=(I''.pin (C,oC) (List.mem_append_right _ (List.mem_append_right _ (List.mem_singleton.mpr rfl)))).1
 refine ⟨m,⟨oC,es,ep,e2,hd,hr⟩,fun h' sb=> ?_⟩
 exact ⟨_,H',I''.unpinned.turned (t':=s''.toks) (it:=C) (fun b o hb e=>sb.extBut b o hb e) f0 f1 f3 f4 f5,q⟩
end
section
variable {g:TG} {ti:TT} {te:TE} {Q:VK} {D:Addr} {σ:St} {H:Hp}
theorem Ce {K:PySem.W.Frag} {a:Addr} {xs:List V} (Pv:Nat→St→List V→Hp→Prop) (h0:Pv 0 σ [] (upd H D (.lst []))) (hl:∀i σ ys H,i≤xs.length→Pv i σ ys H→SqL K H a xs∧H D=some (.lst ys))
  (hs:∀i x σ ys H,xs[i]? =some x→Pv i σ ys H→cturn g ti te D x σ ys H (Pv (i+1))) (hd:∀σ ys H,Pv xs.length σ ys H→Q (.ref D) H):
  cgo (Itl K a) g ti te D σ H Q:=by
 refine ⟨fun i m σ ys H=>m=xs.length - i∧i≤xs.length∧Pv i σ ys H,⟨xs.length,by simp,Nat.zero_le _,h0⟩,?_⟩
 rintro i m σ ys H ⟨rfl,hi,p⟩
 obtain ⟨q,hD⟩:=hl i σ ys H hi p
 refine ⟨hD,?_⟩
 by_cases hlt:i<xs.length
 ·refine .inr ⟨⟨xs,xs[i],q,by simp [hlt]⟩,Pv (i+1),fun σ' ys' H' p'=>⟨xs.length - (i+1),by omega,rfl,hlt,p'⟩,fun x H' y=> ?_⟩
  obtain ⟨e,y⟩:=y
  subst e
  exact (hs i x σ ys _ (y xs q) p)
 ·have e:i=xs.length:=by omega
  subst e
  exact .inl ⟨⟨xs,q,Nat.le_refl _⟩,hd σ ys H p⟩
theorem C7 {K:PySem.W.Frag} {a:Addr} {xs:List V} (Pv:Nat→St→List V→Hp→Prop) (h0:Pv 0 σ [] (upd H D (.lst []))) (hl:∀i σ ys H,i≤xs.length→Pv i σ ys H→SqT K H a xs∧H D=some (.lst ys))
  (hs:∀i x σ ys H,xs[i]? =some x→Pv i σ ys H→cturn g ti te D x σ ys H (Pv (i+1))) (hd:∀σ ys H,Pv xs.length σ ys H→Q (.ref D) H):
  cgo (Itt K a) g ti te D σ H Q:=by
 refine ⟨fun i m σ ys H=>m=xs.length - i∧i≤xs.length∧Pv i σ ys H,⟨xs.length,by simp,Nat.zero_le _,h0⟩,?_⟩
 rintro i m σ ys H ⟨rfl,hi,p⟩
 obtain ⟨q,hD⟩:=hl i σ ys H hi p
 refine ⟨hD,?_⟩
 by_cases hlt:i<xs.length
 ·refine .inr ⟨⟨xs,xs[i],q,by simp [hlt]⟩,Pv (i+1),fun σ' ys' H' p'=>⟨xs.length - (i+1),by omega,rfl,hlt,p'⟩,fun x H' y=> ?_⟩
  obtain ⟨e,y⟩:=y
  subst e
  exact (hs i x σ ys _ (y xs q) p)
 ·have e:i=xs.length:=by omega
  subst e
  exact .inl ⟨⟨xs,q,Nat.le_refl _⟩,hd σ ys H p⟩
theorem Cb {lo:Int} {n:Nat} (Pv:Nat→St→List V→Hp→Prop) (h0:Pv 0 σ [] (upd H D (.lst []))) (hl:∀i σ ys H,i≤n→Pv i σ ys H→H D=some (.lst ys))
  (hs:∀i σ ys H,i<n→Pv i σ ys H→cturn g ti te D (.int (lo+i)) σ ys H (Pv (i+1))) (hd:∀σ ys H,Pv n σ ys H→Q (.ref D) H):
  cgo (Itr lo n) g ti te D σ H Q:=by
 refine ⟨fun i m σ ys H=>m=n - i∧i≤n∧Pv i σ ys H,⟨n,by simp,Nat.zero_le _,h0⟩,?_⟩
 rintro i m σ ys H ⟨rfl,hi,p⟩
 have hD:=hl i σ ys H hi p
 refine ⟨hD,?_⟩
 by_cases hlt:i<n
 ·refine .inr ⟨hlt,Pv (i+1),fun σ' ys' H' p'=>⟨n - (i+1),by omega,rfl,hlt,p'⟩,fun x H' y=> ?_⟩
  obtain ⟨e,y⟩:=y
  subst e y
  exact (hs i σ ys _ hlt p)
 ·have e:i=n:=by omega
  subst e
  exact .inl ⟨Nat.le_refl _,hd σ ys H p⟩
end
end L2
namespace L2
open PySem PySem.Spec PyProof.Rows
mutual
inductive Rep (K:PySem.W.Frag) (H:Hp):V→PyData→Prop
 |non:Rep K H .non .none
 |bl (b:Bool):Rep K H (.bl b) (.bool b)
 |int (i:Int):Rep K H (.int i) (.int i)
 |str (x:Str):Rep K H (.str x) (.str x)
 |lst {a:Addr} {xs:List V} {ds:List PyData}:SqL K H a xs→RepAll K H xs ds→Rep K H (.ref a) (.list ds)
 |tup {a:Addr} {xs:List V} {ds:List PyData}:SqT K H a xs→RepAll K H xs ds→Rep K H (.ref a) (.tuple ds)
inductive RepAll (K:PySem.W.Frag) (H:Hp):List V→List PyData→Prop
 |nil:RepAll K H [] []
 |cons {x:V} {xs:List V} {d:PyData} {ds:List PyData}:Rep K H x d→RepAll K H xs ds→RepAll K H (x::xs) (d::ds)
end
mutual
theorem Rep.reads {X:Cx} {pins:List (Addr×Obj)} {σ:St} {H:Hp} {s:Shared} (I:Inv X pins σ H s):∀{v:V} {d:PyData} {u:Value},Rep X.K H v d→RelV v u→∃as,Reads s.heap u d as
 |_,_,_,.non,r=>by cases r;exact ⟨_,.none⟩
 |_,_,_,.bl b,r=>by cases r;exact ⟨_,.bool b⟩
 |_,_,_,.int i,r=>by obtain ⟨t,rfl⟩:=r;exact ⟨_,.int i t⟩
 |_,_,_,.str x,r=>by obtain ⟨t,rfl⟩:=r;exact ⟨_,.str x t⟩
 |_,_,_,.lst hq hx,r=>by
  cases r
  obtain ⟨its,rv,hl,hz⟩:=I.list hq
  obtain ⟨as,ra⟩:=RepAll.reads I hx rv
  obtain ⟨o,ho,hc,n,hd⟩:=hl.isList
  exact ⟨_,.list ho hc hd ra⟩
 |_,_,_,.tup hq hx,r=>by
  cases r
  obtain ⟨its,rv,hl,hz⟩:=I.tuple hq
  obtain ⟨as,ra⟩:=RepAll.reads I hx rv
  obtain ⟨o,ho,hc,n,hd⟩:=hl
  exact ⟨_,.tuple ho hc hd ra⟩
theorem RepAll.reads {X:Cx} {pins:List (Addr×Obj)} {σ:St} {H:Hp} {s:Shared} (I:Inv X pins σ H s):∀{xs:List V} {ds:List PyData} {us:List Value},RepAll X.K H xs ds→Vals xs us→∃as,ReadsAll s.heap us ds as
 |_,_,_,.nil,.nil=>⟨_,.nil⟩
 |_,_,_,.cons h t,.cons r rs=>by
  obtain ⟨a,ra⟩:=Rep.reads I h r
  obtain ⟨b,rb⟩:=RepAll.reads I t rs
  exact ⟨_,.cons ra rb⟩
end
section
variable {X:Cx} {a b c e:Expr} {ta tb tc te:TE} {pos p2:Pos}
inductive RNeDP (K:PySem.W.Frag) (x:V) (y:V) (H:Hp) (Q:VK):Prop
 |mk (da db:_):(Rep K H x da)→(Rep K H y db)→(da.canLay0=true)→(db.canLay0=true)→(da.depth≤20)→(Q (.bl (!PyData.eqv da db)) H)→RNeDP K x y H Q
def rNeD (K:PySem.W.Frag):R2:=fun x y H Q=>RNeDP K x y H Q
theorem op_neD (hu:X.A.units+64<cLine):OpR X (compareOp .NotEq) (rNeD X.K):=by
 intro pins s σ H x y u v Q I rx ry h
 obtain ⟨da,db,h1,h2,h3,h4,h5,q⟩:=h
 obtain ⟨as,r1⟩:=h1.reads I rx
 obtain ⟨bs,r2⟩:=h2.reads I ry
 exact SeqAt.compareNe_reads r1 r2 h3 h4 (by omega) ⟨.bl _,H,I,rfl,q⟩
theorem call_sum (hc:X.calm=true):CallR X (.builtin "sum") (fun xs H Q=>∃(p:Addr) (ns:List Int),xs=[.ref p]∧SqL X.K H p (ns.map V.int)∧Q (.int ns.sum) H):=by
 intro pins s σ H xs us Q I r h
 obtain ⟨p,ns,rfl,hq,q⟩:=h
 obtain ⟨u,rfl,rx⟩:=vals1 r
 cases rx
 obtain ⟨its,rv,hl,hz⟩:=I.list hq
 have hi:=intsAre_of rv
 obtain ⟨ys,e⟩:=hi.allInts.items
 have hl':=hl.isList
 rw [e] at hl'
 refine sum_intListG (I.ok.hd hc) hl' fun h' tk t' hk=>⟨.int ns.sum,H,I.kept hk,⟨t',?_⟩,q⟩
 have e2:ys.toList.map (·.1)=ns:=by
  have q2:=nums_intItems ys
  rw [←e] at q2
  rw [←q2]
  exact hi.numsOf
 rw [preSum_eq,e2,List.take_of_length_le (by rw [←e2];simp)]
theorem A3:CallR X (.builtin "isinstance") (fun xs H Q=>∃(x:V) (t:Value) (c:String) (b:Bool),xs=[x,.ty c]∧TyOf X.K H x t∧PySem.W.kitOne X.K t (.type c)=some b∧Q (.bl b) H):=by
 intro pins s σ H xs us Q I r h
 obtain ⟨x,t,c,b,rfl,ty,e,q⟩:=h
 obtain ⟨u,v,rfl,rx,ry⟩:=vals2 r
 cases ry
 exact isinst_ok I rx ty e fun tk=>⟨.bl b,H,I.tok tk,rfl,q⟩
theorem Bi {x:Str} {T:String} (hg:Gl X x) (hm:X.mg x=none) (hv:bootBuiltins x=some (.type T)) (hn:x≠"__name__":=by decide) (hd:(x==("__debug__":Str))=false:=by decide):PE X (.Name x pos) (tC (.ty T)):=
 fun pins s σ H Q I h=>ld_blt I hg hm hv ⟨.ty T,H,I,rfl,h⟩ hn hd
def C6 (i:Int) (n:Nat):List Int:=(List.range n).map fun (k:Nat)=>i+(k:Int)
theorem call_list_rng (hc:X.calm=true):CallR X (.type "list") (fun xs H Q=>∃(p:Addr) (i j:Int),xs=[.ref p]∧H p=some (.rng i j)∧(-(2 ^ 62)≤i∧i<2 ^ 62∧ -(2 ^ 62)≤j∧j<2 ^ 62)∧j - i≤1000000∧∀l,H l=none→Q (.ref l) (upd H l (.lst ((C6 i (j - i).toNat).map V.int)))):=by
 intro pins s σ H xs us Q I r h
 obtain ⟨p,i,j,rfl,hp,⟨b1,b2,b3,b4⟩,hj,q⟩:=h
 obtain ⟨u,rfl,rx⟩:=vals1 r
 cases rx
 obtain ⟨t,u,v,ho⟩:=(show ObjOk X.prog X.w H s.heap p (.rng i j) from I.hok p _ hp)
 refine call_list_range (n:=(j - i).toNat) (I.ok.hd hc) (show IsRange s.heap p i j 1 t u v from ho) (small_one b1 b2 b3 b4) (by rw [rangeSize_one];split<;> omega) (by omega) fun h' tk acc c' hk hS hacc=> ?_
 have len:acc.toList.length=(j - i).toNat:=by simpa using hacc.1
 refine ⟨.ref s.heap.objs.size,_,I.laid (o:= .lst ((C6 i (j - i).toNat).map V.int)) hk (Nat.le_refl _) ⟨?_,acc.toList,c',?_,by simpa using hS⟩,rfl,q _ I.fresh⟩
 ·simp [C6,sizeLine_eq];exact Int.le_trans (by assumption) (by decide)
 ·have key:∀(l:List Value) (k:Nat) (i:Int),(∀(n:Nat) (x:Value),l[n]? =some x→∃t,x= .int (i+n) t)→l.length=k→Vals ((C6 i k).map V.int) l:=by
   intro l
   induction l with
   |nil=>intro k i _ e;cases e;exact .nil
   |cons x l ih=>
    intro k i h e
    cases k with
    |zero=>cases e
    |succ k=>
     have h0:=h 0 x rfl
     have e1:C6 i (k+1)=i::C6 (i+1) k:=by
      simp only [C6,List.range_succ_eq_map,List.map_cons,List.map_map]
      refine congr (congrArg List.cons (by simp)) (List.map_congr_left fun a _=> ?_)
      simp only [Function.comp];omega
     rw [e1]
     refine .cons (by obtain ⟨t,q⟩:=h0;exact ⟨t,by simpa using q⟩) (ih k (i+1) (fun n y hy=> ?_) (by simpa using e))
     obtain ⟨t,q⟩:=h (n+1) y (by simpa using hy)
     exact ⟨t,by rw [q];congr 1;omega⟩
  refine key acc.toList _ i (fun n x hx=> ?_) len
  obtain ⟨t,q⟩:=hacc.2 n x (by simpa using hx)
  exact ⟨t,by rw [q,Int.mul_one]⟩
def tRev (K:PySem.W.Frag) (te:TE) (ts:TO):TE:=fun σ H Q=>te σ H fun x H1=>ts σ H1 fun o H2=>o=some (-1)∧∃(a:Addr) (xs:List V),x= .ref a∧SqL K H2 a xs∧∀p,H2 p=none→Q (.ref p) (upd H2 p (.lst xs.reverse))
theorem pe_rev {st:Expr} {ts:TO} (he:PE X e te) (hs:PO X (some st) ts) (ops:Value→Value→List Value) (hsub:∀o i,subscripted (.Slice none none (some st) p2) false o i=operate (ops o i) (getItem o i)):PE X (.Subscript e (.Slice none none (some st) p2) pos) (tRev X.K te ts):=by
 intro pins s σ H Q I h
 refine Subscript_ (thn (he pins s σ H _ I h) fun v s1 ⟨x,H1,I1,r1,q1⟩=> ?_)
 refine wpAny_Slice ?_
 rw [evalPart_none]
 refine wpAny_pure (wpAny_pure (thn (hs pins s1 σ H1 _ I1 q1) fun vs s2 ⟨o,H2,I2,ps,q2⟩=> ?_))
 obtain ⟨rfl,a,xs,rfl,hq,q⟩:=q2
 cases r1
 have I4:Inv X pins σ H2 {s2 with heap:=s2.heap.push {cls:= .type "slice",data:= .fields #[.none,.none,vs]}}:=I2.kept (t':=s2.toks) fun b ob q=>Heap.get?_push_of_some _ q
 obtain ⟨its,r,ht,hz⟩:=I4.list hq
 have hlen:=r.length
 show wpAny (model X.prog X.w) X.A (subscriptTail e (.Slice none none (some st) p2) (.ref a) (.ref s2.heap.objs.size)) (EP X pins σ Q) X.xe {s2 with heap:=s2.heap.push {cls:= .type "slice",data:= .fields #[.none,.none,vs]}}
 refine tail_any (ops:=ops (.ref a) (.ref s2.heap.objs.size)) ht.isList.typeIs slot_list_getitem.lookup ?_ (hsub _ _)
 refine wpAny_getItem_list_slice ht.isList (Heap.IsSliceOf.new ..) .none .none ps (by decide) ?_ (by rw [List.size_toArray]<;> omega)
 rw [PySem.W.krv_pick]
 refine ⟨.ref _,_,I4.laid (t':=s2.toks) (o:= .lst xs.reverse) (fun b ob q=>Heap.get?_push_of_some _ q) (Nat.le_refl _) ⟨by simpa using hz,its.reverse,0,r.reverse,Heap.get?_push_size _ rfl⟩,rfl,q _ I4.fresh⟩
inductive RCatTTP (K:PySem.W.Frag) (x:V) (y:V) (H:Hp) (Q:VK):Prop
 |mk (a b:Addr) (xs ys:List V):(x= .ref a)→(y= .ref b)→(SqT K H a xs)→(SqT K H b ys)→(xs.length+ys.length≤sizeLine)→((xs=[]→Q (.ref b) H))→((xs≠[]→ys=[]→Q (.ref a) H))→((xs≠[]→ys≠[]→∀p,H p=none→Q (.ref p) (upd H p (.tup (xs++ys)))))→RCatTTP K x y H Q
def rCatTT (K:PySem.W.Frag):R2:=fun x y H Q=>RCatTTP K x y H Q
theorem op_catTT:OpR X (binaryOp .Add) (rCatTT X.K):=by
 intro pins s σ H x y u v Q I rx ry h
 obtain ⟨p,q,xs,ys,rfl,rfl,hx,hy,hz,h1,h2,h3⟩:=h
 cases rx;cases ry
 obtain ⟨its,r1,t1,z1⟩:=I.tuple hx
 obtain ⟨its2,r2,t2,z2⟩:=I.tuple hy
 have l1:=r1.length
 have l2:=r2.length
 by_cases e:xs=[]
 ·subst e
  have ei:its=[]:=by cases its with|nil=>rfl|cons _ _=>cases l1
  subst ei
  obtain ⟨⟨cls,dd,data,sl⟩,ho,hc,n,hd⟩:=id t1
  obtain ⟨⟨cls2,dd2,data2,sl2⟩,ho2,hc2,n2,hd2⟩:=id t2
  simp only at hc hd hc2 hd2
  subst hc hd hc2 hd2
  exact PySem.concat_meets ⟨_,ho,rfl⟩ ⟨_,ho2,rfl⟩ noFill_tuple_add seq_tuple_add PySem.F.slot_tuple_add PySem.F.entry_tuple_add (PySem.F.args_tuple_add_2 _ _)
   (tuple_addW0 p q _ _ n n2 dd dd2 sl sl2 (by rfl)) ⟨ho,ho2,⟨.ref q,H,I,rfl,h1 rfl⟩⟩
 ·refine HT.cat_tup t1 t2 (fun z=>e ((Vals.nil_iff r1).mp z)) (fun z=>⟨.ref p,H,I,rfl,h2 e ((Vals.nil_iff r2).mp z)⟩) (fun z=> ?_) (by omega)
  exact ⟨.ref s.heap.objs.size,_,I.laid (t':=s.toks) (o:= .tup (xs++ys)) (fun b ob q=>Heap.get?_push_of_some _ q) (Nat.le_refl _) ⟨by simpa using hz,its++its2,r1.append r2,IsTupN.new _ _⟩,rfl,h3 e (fun z'=>z ((Vals.nil_iff r2).mpr z')) _ I.fresh⟩
end
section
variable {prog:Program} {w:World} {A:Around} {E:Value→Shared→Prop}
theorem draw_list {it l:Addr} {items:Array Value} (hne:l≠it):∀(n i:Nat) (s:Shared) (Q:List Value→Shared→Prop),s.heap.IsListIter it l i→s.heap.IsList l items→i+n≤items.size→
  (∀h',h'.IsListIter it l (i+n)→Heap.SameBut it s.heap h'→Q ((items.toList.drop i).take n) {s with heap:=h'})→wpAny (model prog w) A (draw (.ref it) n) Q E s
 |0,i,s,Q,hit,_,_,hQ=>by
  show wpAny _ _ (pure []) Q E s
  exact wpAny_pure (by simpa using hQ s.heap hit (Heap.SameBut.refl ..))
 |n+1,i,s,Q,hit,ht,hle,hQ=>by
  have hlt:i<items.size:=by omega
  show wpAny _ _ (pyNext (.ref it) >>=_) Q E s
  refine wpAny_bind (wpAny_pyNext_list_item hit ht (x:=items[i]) (by simp [hlt]) fun h₁ hit₁ hs₁=> ?_)
  refine wpAny_bind (wpAny_holding (draw_list hne n (i+1) _ _ hit₁ (ht.extBut hs₁.extBut hne) (by omega) fun h₂ hit₂ hs₂=>wpAny_pure ?_))
  have hd:items.toList.drop i=items[i]::items.toList.drop (i+1):=by simp [List.drop_eq_getElem_cons,hlt]
  have:=hQ h₂ (by rw [show i+(n+1)=i+1+n by omega];exact hit₂) (hs₁.trans hs₂)
  rw [hd,List.take_succ_cons] at this
  exact this
variable {s:Shared}
theorem unpackItems_list {t:Addr} {items:Array Value} {Q:List Value→Shared→Prop} (hh:A.handled=none) (ht:s.heap.IsList t items)
  (hQ:∀h',Heap.ExtBut s.heap.objs.size s.heap h'→Q items.toList {s with heap:=h'}):wpAny (model prog w) A (unpackItems (.ref t) items.size none) Q E s:=by
 have hlt:t≠s.heap.objs.size:=by obtain ⟨o,ho,_⟩:=ht;exact Nat.ne_of_lt (Heap.lt_size ho)
 unfold unpackItems
 refine wpAny_bind ?_
 ·unfold notIterableAtAll
  refine wpAny_bind (wpAny_specialOf ht.typeIs PySem.slot_list_iter.lookup ?_)
  refine wpAny_pure ?_
  simp only [Bool.false_eq_true,if_false]
  refine wpAny_bind (wpAny_holding (wpAny_pyIter_list ht ?_))
  refine wpAny_bind (wpAny_holding (draw_list hlt items.size 0 _ _ ⟨_,Heap.get?_push_size _ rfl,rfl,rfl⟩ (ht.push _) (by omega) fun h₁ hit₁ hs₁=> ?_))
  have hall:List.take items.size (List.drop 0 items.toList)=items.toList:=by
   rw [List.drop_zero];exact List.take_of_length_le (by simp)
  rw [hall]
  rw [if_neg (by simp)]
  have ht₁:h₁.IsList t items:=(ht.push _).extBut hs₁.extBut hlt
  refine wpAny_bind (wpAny_holding (wpAny_pyNext_list_end hh hit₁ ht₁ (by simp) fun h₂ he₂=> ?_))
  simp only [Option.isSome_none,Bool.false_eq_true,if_false]
  refine wpAny_pure (hQ h₂ fun b o hb e=>he₂ b o hb (hs₁.extBut b o hb (Heap.get?_push_of_some _ e)))
end
section
variable {X:Cx} {pos:Pos}
def gLst (K:PySem.W.Frag) (n:Nat) (t:TGs):TG:=fun v σ H Q=>∃a xs,v= .ref a∧SqL K H a xs∧xs.length=n∧t xs σ H Q
theorem pg_lst {es:List Expr} {k:Nat} {t:TGs} {n:Nat} (hc:X.calm=true) (h:PGs X es t)
  (hn:(assignEach es X.env).length=n:=by rfl) (hst:(assignEach es X.env).findIdx? (·.1)=none:=by rfl):PG X (.Tuple es k pos) (gLst X.K n t):=by
 intro pins s σ H v u Q I r hw
 obtain ⟨a,xs,e1,hq,hl,hw⟩:=hw
 subst e1
 cases r
 obtain ⟨its,rv,ht,hz⟩:=I.list hq
 rw [assign_Tuple]
 refine wpAny_bind (wpAny_standAt ?_)
 unfold unpack
 rw [show (assignEach es X.env).length=its.toArray.size by rw [hn,←hl,rv.length];simp,hst]
 refine wpAny_bind (wpAny_holding (unpackItems_list (I.ok.hd hc) ht.isList fun h' hx=> ?_))
 have I1:Inv X pins σ H {s with heap:=h'}:=I.kept (t':=s.toks) fun b o e=>hx b o (Nat.ne_of_lt (Heap.lt_size e)) e
 exact h pins _ σ H xs _ Q I1 (by simpa using rv) hw
end
end L2
namespace L2
open PySem PySem.Spec PyProof.Rows
section
variable {X:Cx} {a b c e:Expr} {ta tb tc te:TE} {pos p2:Pos}
inductive RSlSP (x:V) (lo:Option Int) (hi:Option Int) (H:Hp) (Q:VK):Prop
 |mk (z:_):(x= .str z)→(z.length≤sizeLine)→(Q (.str (Txt.slice z lo hi)) H)→RSlSP x lo hi H Q
def rSlS:V→Option Int→Option Int→Hp→VK→Prop:=fun x lo hi H Q=>RSlSP x lo hi H Q
theorem sl_str:SlR X rSlS:=by
 intro pins s σ H x v vl vu lo hi sl Q I rx hs pl pu h
 obtain ⟨z,rfl,hz,q⟩:=h
 obtain ⟨t,rfl⟩:=rx
 refine ⟨"str",_,PySem.F.slot_str_getitem.lookup,typeIs_str _ _ _,?_⟩
 have fin:∀t' k,EP X pins σ Q (.str (Txt.slice z lo hi) t') {s with toks:=k}:=fun t' k=>⟨.str _,H,I.tok k,⟨t',rfl⟩,q⟩
 cases pl with
 |none=>
  cases pu with
  |none=>exact wpAny_getItem_str_slice (l:=none) (u:=none) (st:=none) hs rfl (post_val_or_str ⟨Nat.le_trans (Txt.slice_le z _ _) hz,fin⟩)
  |int j tj=>exact wpAny_getItem_str_slice (l:=none) (u:=some (j,tj)) (st:=none) hs rfl (post_val_or_str ⟨Nat.le_trans (Txt.slice_le z _ _) hz,fin⟩)
 |int i ti=>
  cases pu with
  |none=>exact wpAny_getItem_str_slice (l:=some (i,ti)) (u:=none) (st:=none) hs rfl (post_val_or_str ⟨Nat.le_trans (Txt.slice_le z _ _) hz,fin⟩)
  |int j tj=>exact wpAny_getItem_str_slice (l:=some (i,ti)) (u:=some (j,tj)) (st:=none) hs rfl (post_val_or_str ⟨Nat.le_trans (Txt.slice_le z _ _) hz,fin⟩)
theorem strsAre_of:∀{ys:List Str} {us:List Value},Vals (ys.map V.str) us→StrsAre us ys
 |[],_,.nil=> .nil
 |y::ys,_,.cons h t=>by
  obtain ⟨u,rfl⟩:=h
  exact .cons y u (strsAre_of t)
inductive RJoinP (K:PySem.W.Frag) (x:V) (vs:List V) (H:Hp) (Q:VK):Prop
 |mk (z:Str) (l:Addr) (ys:List Str):(x= .str z)→(vs=[.ref l])→(SqL K H l (ys.map V.str))→((ys.map (·.length)).sum+ys.length * z.length≤16777216)→(Q (.str (Txt.join z ys)) H)→RJoinP K x vs H Q
def rJoin (K:PySem.W.Frag):V→List V→Hp→VK→Prop:=fun x vs H Q=>RJoinP K x vs H Q
theorem mt_join:MtM X "str.join" (rJoin X.K):=by
 intro pins s σ H x xs v us Q I rx r h
 obtain ⟨z,l,ys,rfl,rfl,hl,hz,q⟩:=h
 obtain ⟨t,rfl⟩:=rx
 obtain ⟨u,rfl,ru⟩:=vals1 r
 cases ru
 obtain ⟨its,rv,hp,_⟩:=I.list hl
 exact join_list hp.isList (strsAre_of rv) hz fun t' k=>⟨.str _,H,I.tok k,⟨t',rfl⟩,q⟩
end
def relab (scope osc:Scope):Scope:={scope with names:=scope.names.map fun (n,k)=>if (k== .free && osc.kind== .function && osc.names.lookup n==some .cell) then (n,.cell) else (n,k)}
structure CS (osc scope:Scope) (T F:List Str):Prop where
 kind:scope.kind= .function
 nocell:∀y∈scope.names,y.2≠ .cell
 names:∀x∈scope.names,x.2= .local→scope.names.lookup x.1=some .local
 free:∀x∈scope.names,x.2= .free→osc.names.lookup x.1=some .cell
 loc:∀y∈T,(relab scope osc).names.lookup y=some .local
 cel:∀y∈F,(relab scope osc).names.lookup y=some .cell∧osc.names.lookup y=some .cell∧(y,NameKind.free)∈scope.names
 all:∀x∈(relab scope osc).names,(x.2= .cell∨x.2= .free)→(x.1,NameKind.free)∈scope.names
theorem CS.to {X:Cx} {scope osc:Scope} {T F:List Str} {js:List Nat} (h:CS osc scope T F) (hj:js.map (fun j=>X.N[j]?)=F.map some) (ho:X.env.scope=osc):CScope X scope T F js:=by
 subst ho
 exact ⟨h.kind,h.nocell,h.names,h.free,h.loc,h.cel,h.all,hj⟩
theorem PSs.imp' {X:Cx} {st:List PySem.Stmt} {t t':TS} (h:PSs X st t) (f:∀D σ H,t' D σ H→t D σ H):PSs X st t':=fun pins s σ H D I h'=>h pins s σ H D I (f D σ H h')
end L2
namespace L2
open PySem PySem.Spec PyProof.Rows
section
variable {X:Cx} {pins:List (Addr×Obj)} {σ:St} {H:Hp} {s:Shared}
theorem Inv.turnedL {t':Nat} {h':Heap} (ch:List Addr) (I:Inv X pins σ H s) (k:∀b o,b ∉ ch→s.heap.get? b=some o→h'.get? b=some o) (hf:∀b∈ch,FpOk X pins H b):Inv X pins σ H {s with heap:=h',toks:=t'}:=by
 have out:∀b u,H b=some u→b ∉ ch:=fun b u e z=>by rw [(hf b z).1] at e;cases e
 have outL:X.env.locals ∉ ch:=fun z=>(hf _ z).2.1 rfl
 refine I.step (g':=s.gens) (d':=s.drawn) (ch:=ch) (fun b hb=>⟨(hf b hb).2.2.2.1,(hf b hb).2.1,(hf b hb).2.2.2.2.1,(hf b hb).2.2.2.2.2⟩) (fun b o _ _ hc e _=>k b o hc e) (fun b o _ _ hc e _=>⟨o.slots,k b o hc e⟩)
  (fun _ _ _ _ n=>n) (fun b o hc e=>⟨o,k b o hc e⟩) (fun _ _ e=>e) (fun _ _ _ e=>e) (fun b ps e=>⟨#[],by rw [e];simp⟩) (fun m hm=> ?_) (fun b u e=> ?_) I.bare
 ·obtain ⟨o,es,ep,ho,r⟩:=hm
  exact ⟨o,es,ep,k _ o outL ho,r⟩
 ·refine (I.hok b u e).stay (fun c v hc q=>k c v ?_ q) (fun _ q=>q) fun _ _ q=>q
  rcases hc with z|z
  ·rw [z];exact out b u e
  ·exact out c _ z
theorem FpOk.up {b T:Addr} {o:HO} (h:FpOk X pins H b) (n:b≠T):FpOk X pins (upd H T o) b:=⟨by rw [Ai n];exact h.1,h.2⟩
end
end L2
namespace PySem
open Builtin
section
variable {prog:Program} {w:World} {A:Around} {E:Value→Shared→Prop} {s:Shared}
theorem nextOf_tup {it t:Addr} {i:Nat} {its:Array Value} {x:Value} {Q:Value→Shared→Prop} (hi:s.heap.IsTupleIter it t i) (ht:s.heap.IsTuple t its) (hx:its[i]? =some x)
  (hQ:∀h',h'.IsTupleIter it t (i+1)→Heap.SameBut it s.heap h'→Q x {s with heap:=h'}):wpAny (model prog w) A (Builtin.SmallTypes.nextOf (.ref it)) Q E s:=by
 obtain ⟨oi,gi,ci,di⟩:=id hi
 obtain ⟨ot,gt,_,nt,dt⟩:=ht
 unfold Builtin.SmallTypes.nextOf
 refine wpAny_bind (wpAny_callSpecial?_slot (name:=Str.ofString "__next__") hi.typeIs F.slot_tuple_iterator_next (wpAny_call_entry F.slot_tuple_iterator_next hi.typeIs F.entry_tuple_iterator_next ?_ (F.args_tuple_iterator_next_1 _)))
 show wpAny _ _ (field (.ref it) 0 >>=fun _=>_) _ _ s
 refine wpAny_bind (wpAny_field gi di (x:= .ref t) rfl ?_)
 show wpAny _ _ (ite ((Value.ref t==Value.none)=true) _ _) _ _ s
 have ng:¬((Value.ref t==Value.none)=true):=Bool.false_ne_true
 rw [if_neg ng]
 show wpAny _ _ (field (.ref it) 1 >>=fun _=>_) _ _ s
 refine wpAny_bind (wpAny_field gi di (x:= .int i 0) rfl ?_)
 show wpAny _ _ (seqItems? (.ref t) >>=fun _=>_) _ _ s
 refine wpAny_bind (wpAny_seqItems gt dt ?_)
 simp only [Int.toNat_natCast,hx]
 refine wpAny_bind (wpAny_setField gi di (by simp) (wpAny_pure ⟨x,rfl,wpAny_pure (hQ _ ⟨_,Heap.get?_update_self _ gi (Obj.isFreed_of_fields (Obj.data_mapFields di _)),(Obj.cls_mapFields ..).trans ci,?_⟩ (Heap.SameBut.update ..))⟩))
 rw [Obj.data_mapFields di]
 simp [rawInt]
theorem nextOf_tup_end {it t:Addr} {i:Nat} {its:Array Value} {Q:Value→Shared→Prop} (hh:A.handled=none) (hi:s.heap.IsTupleIter it t i) (ht:s.heap.IsTuple t its) (hx:its[i]? =none)
  (hE:∀h' e,Heap.ExtBut it s.heap h'→(∃o,h'.get? e=some o∧o.cls= .type "StopIteration")→E (.ref e) {s with heap:=h'}):wpAny (model prog w) A (Builtin.SmallTypes.nextOf (.ref it)) Q E s:=by
 obtain ⟨oi,gi,ci,di⟩:=id hi
 obtain ⟨ot,gt,_,nt,dt⟩:=ht
 unfold Builtin.SmallTypes.nextOf
 refine wpAny_bind (wpAny_callSpecial?_slot (name:=Str.ofString "__next__") hi.typeIs F.slot_tuple_iterator_next (wpAny_call_entry F.slot_tuple_iterator_next hi.typeIs F.entry_tuple_iterator_next ?_ (F.args_tuple_iterator_next_1 _)))
 show wpAny _ _ (field (.ref it) 0 >>=fun _=>_) _ _ s
 refine wpAny_bind (wpAny_field gi di (x:= .ref t) rfl ?_)
 show wpAny _ _ (ite ((Value.ref t==Value.none)=true) _ _) _ _ s
 have ng:¬((Value.ref t==Value.none)=true):=Bool.false_ne_true
 rw [if_neg ng]
 show wpAny _ _ (field (.ref it) 1 >>=fun _=>_) _ _ s
 refine wpAny_bind (wpAny_field gi di (x:= .int i 0) rfl ?_)
 show wpAny _ _ (seqItems? (.ref t) >>=fun _=>_) _ _ s
 refine wpAny_bind (wpAny_seqItems gt dt ?_)
 simp only [Int.toNat_natCast,hx]
 refine wpAny_bind (wpAny_rule (wpAny_bind (wpAny_setField gi di (by simp) ?_)))
 show wpAny _ _ (newExc (.type "StopIteration") [] >>=fun _=>_) _ _ _
 refine wpAny_bind ?_
 simp only [newExc,newTuple]
 refine wpAny_bind (wpAny_newObj_type ?_ (by size_fits))
 refine wpAny_bind (m:=firstArgMember _ _) (wpAny_of_eq (a:=Value.none) (by first|rfl|(simp only [firstArgMember];rfl)) ?_)
 refine wpAny_newObj_type ?_ (by size_fits)
 simp only [raiseNew]
 refine wpAny_bind (wpAny_handled ?_)
 first|rw [show A.in1.handled=none from hh]|rw [hh]
 exact wpAny_bind (wpAny_pure (wpAny_throw (hE _ _ (((Heap.SameBut.update ..).extBut.push _).push _) ⟨_,Heap.get?_push_size _ rfl,rfl⟩)))
theorem Draws.tup {prog:Program} {w:World} {A:Around} (hh:A.handled=none) (it t:Addr) (hne:t≠it) (its:Array Value):
  Draws prog w A it [it,t] its.size (fun i v=>its[i]? =some v) (fun i h=>h.IsTupleIter it t i∧h.IsTuple t its) where
 live:=fun _ _ st=>⟨st.1.choose,st.1.choose_spec.1⟩
 frame:=fun _ _ _ st hk=>⟨st.1.at fun o e=>hk it (by simp) o e,let ⟨o,ho,r⟩:=st.2;⟨o,hk t (by simp) o ho,r⟩⟩
 item:=fun i s Q E hi st hQ=>by
  refine nextOf_tup st.1 st.2 (x:=its[i]) (by simp [hi]) fun h' hit' hs'=> ?_
  exact hQ _ h' s.toks (by simp [hi]) ⟨hit',let ⟨o,ho,r⟩:=st.2;⟨o,hs'.extBut _ _ hne ho,r⟩⟩ hs'
 done:=fun s Q E st hE=>nextOf_tup_end hh st.1 st.2 (by simp) hE
end
end PySem
namespace PySem
open Builtin
structure ZAp (z TI TO i1 i2:Addr) (f1 f2:List Addr):Prop where
 a1:TI≠z
 a2:TO≠z
 a3:i1≠z
 a4:i2≠z
 a5:TI≠TO
 a6:TI≠i1
 a7:TI≠i2
 a8:TO≠i1
 a9:TO≠i2
 b1:i1≠i2
 b2:z ∉ f1
 b3:z ∉ f2
 b4:TO ∉ f1
 b5:TO ∉ f2
 b6:i1 ∉ f2
 b7:i2 ∉ f1
section
variable {prog:Program} {w:World} {A:Around} {E:Value→Shared→Prop} {s:Shared} {z TI TO i1 i2:Addr} {f1 f2:List Addr} {n1 n2:Nat} {P1 P2:Nat→Value→Prop} {S1 S2:Nat→Heap→Prop}
theorem zip_itemD {k:Nat} {a b:Value} {Q:Value→Shared→Prop} (D:ZAp z TI TO i1 i2 f1 f2) (D1:Draws prog w A i1 f1 n1 P1 S1) (D2:Draws prog w A i2 f2 n2 P2 S2)
  (hZ:IsZip s.heap z TI TO .none) (pI:IsPair s.heap TI (.ref i1) (.ref i2)) (pO:IsPair s.heap TO a b) (t1:S1 k s.heap) (t2:S2 k s.heap) (l1:k<n1) (l2:k<n2)
  (hQ:∀h' tk x y,P1 k x→P2 k y→IsZip h' z TI TO (rawInt s.heap.objs.size)→IsPair h' TO x y→S1 (k+1) h'→S2 (k+1) h'→IsPair h' s.heap.objs.size x y→
   (∀c o,c≠z→c≠TO→c≠i1→c≠i2→s.heap.get? c=some o→h'.get? c=some o)→Q (.ref s.heap.objs.size) {s with heap:=h',toks:=tk}):
  wpAny (model prog w) A (Builtin.«zip.__next__» ⟨[.ref z],[]⟩) (fun fin s'=>∃v,fin= .done (.ret v)∧Q v s') E s:=by
 show wpAny _ _ (field (.ref z) 2 >>=fun _=>_) _ _ _
 refine wpAny_bind (wpAny_field hZ rfl (x:= .bool false) rfl ?_)
 show wpAny _ _ (field (.ref z) 3 >>=fun _=>_) _ _ _
 refine wpAny_bind (wpAny_field hZ rfl (x:= .ref TI) rfl ?_)
 refine wpAny_bind (wpAny_seqItems pI rfl ?_)
 show wpAny _ _ (Builtin.SmallTypes.ownedTupleIsFree (.ref z) >>=fun _=>_) _ _ _
 refine wpAny_bind ?_
 unfold Builtin.SmallTypes.ownedTupleIsFree
 refine wpAny_bind (wpAny_field hZ rfl (x:= .none) rfl (wpAny_pure ?_))
 simp only [if_true]
 refine wpAny_bind (wpAny_rule (wpAny_bind (wpAny_field hZ rfl (x:= .ref TO) rfl ?_)))
 refine wpAny_bind (wpAny_setField_rec hZ (by simp) fun g1 zg1 k1=> ?_)
 replace zg1:IsZip g1 z TI TO .ellipsis:=zg1
 refine wpAny_bind ?_
 simp only [List.zipIdx_cons,List.zipIdx_nil,List.forIn_cons,List.forIn_nil]
 refine wpAny_bind (wpAny_bind (wpAny_onRaise ?_))
 show wpAny _ _ (Builtin.SmallTypes.nextOf (.ref i1) >>=fun _=>_) _ _ _
 refine wpAny_bind (D1.item k _ _ _ l1 (D1.frame _ _ _ t1 fun c hc o e=>k1.extBut _ _ (fun q=>D.b2 (q▸hc)) e) fun x g2 tk2 px sg2 k2=>wpAny_pure ?_)
 have pO2:IsPair g2 TO a b:=k2.extBut _ _ D.a8 (k1.extBut _ _ D.a2 pO)
 refine wpAny_bind (wpAny_seqItems pO2 rfl (wpAny_bind (wpAny_updateSeq_pair pO2 fun g3 pO3 k3=> ?_)))
 replace pO3:IsPair g3 TO x b:=pO3
 refine wpAny_bind (wpAny_letGo (wpAny_pure (wpAny_bind (wpAny_bind (wpAny_onRaise ?_)))))
 show wpAny _ _ (Builtin.SmallTypes.nextOf (.ref i2) >>=fun _=>_) _ _ _
 have t2':S2 k g3:=D2.frame _ _ _ t2 fun c hc o e=>k3.extBut _ _ (fun q=>D.b5 (q▸hc)) (k2.extBut _ _ (fun q=>D.b6 (q▸hc)) (k1.extBut _ _ (fun q=>D.b3 (q▸hc)) e))
 refine wpAny_bind (D2.item k _ _ _ l2 t2' fun y g4 tk4 py sg4 k4=>wpAny_pure ?_)
 have pO4:IsPair g4 TO x b:=k4.extBut _ _ D.a9 pO3
 refine wpAny_bind (wpAny_seqItems pO4 rfl (wpAny_bind (wpAny_updateSeq_pair pO4 fun g5 pO5 k5=> ?_)))
 replace pO5:IsPair g5 TO x y:=pO5
 refine wpAny_bind (wpAny_letGo (wpAny_pure (wpAny_pure (wpAny_bind (wpAny_seqItems pO5 rfl (wpAny_bind (wpAny_newTuple ?_)))))))
 have sz:g5.objs.size=s.heap.objs.size:=by rw [k5.1,k4.1,k3.1,k2.1,k1.1]
 have zg5:IsZip g5 z TI TO .ellipsis:=k5.extBut _ _ D.a2.symm (k4.extBut _ _ D.a4.symm (k3.extBut _ _ D.a2.symm (k2.extBut _ _ D.a3.symm zg1)))
 have kk:∀c o,c≠z→c≠TO→c≠i1→c≠i2→s.heap.get? c=some o→g5.get? c=some o:=fun c o c1 c2 c3 c4 e=>k5.extBut _ _ c2 (k4.extBut _ _ c4 (k3.extBut _ _ c2 (k2.extBut _ _ c3 (k1.extBut _ _ c1 e))))
 have u1:S1 (k+1) g5:=D1.frame _ _ _ sg2 fun c hc o e=>k5.extBut _ _ (fun q=>D.b4 (q▸hc)) (k4.extBut _ _ (fun q=>D.b7 (q▸hc)) (k3.extBut _ _ (fun q=>D.b4 (q▸hc)) e))
 have u2:S2 (k+1) g5:=D2.frame _ _ _ sg4 fun c hc o e=>k5.extBut _ _ (fun q=>D.b5 (q▸hc)) e
 have zlt:z<g5.objs.size:=Heap.lt_size zg5
 show wpAny _ _ (Builtin.SmallTypes.ownedTupleHandOut (.ref z) (.ref g5.objs.size) >>=fun _=>_) _ _ _
 refine wpAny_bind ?_
 unfold Builtin.SmallTypes.ownedTupleHandOut
 have zg6:IsZip (g5.push {cls:= .type "tuple",data:= .seq #[x,y]}) z TI TO .ellipsis:=Heap.get?_push_of_some _ zg5
 refine wpAny_bind (wpAny_setField_rec zg6 (by simp) fun g7 zg7 k7=> ?_)
 replace zg7:IsZip g7 z TI TO (rawInt g5.objs.size):=zg7
 refine wpAny_setField_rec zg7 (by simp) fun g8 zg8 k8=> ?_
 replace zg8:IsZip g8 z TI TO (rawInt g5.objs.size):=zg8
 have up:∀c o,c≠z→g5.get? c=some o→g8.get? c=some o:=fun c o c1 e=>k8.extBut _ _ c1 (k7.extBut _ _ c1 (Heap.get?_push_of_some _ e))
 have pT:IsPair g8 g5.objs.size x y:=k8.extBut _ _ (Nat.ne_of_gt zlt) (k7.extBut _ _ (Nat.ne_of_gt zlt) (Heap.get?_push_size _ rfl))
 rw [sz] at zg8 pT
 refine wpAny_pure ⟨_,rfl,?_⟩
 show Q (.ref g5.objs.size) _
 rw [sz]
 exact hQ g8 _ x y px py zg8 (up _ _ D.a2 pO5) (D1.frame _ _ _ u1 fun c hc o e=>up c o (fun q=>D.b2 (q▸hc)) e) (D2.frame _ _ _ u2 fun c hc o e=>up c o (fun q=>D.b3 (q▸hc)) e) pT fun c o c1 c2 c3 c4 e=>up c o c1 (kk c o c1 c2 c3 c4 e)
theorem zip_endD {k:Nat} {a b:Value} {Q:Fin→Shared→Prop} (D:ZAp z TI TO i1 i2 f1 f2) (D1:Draws prog w A i1 f1 n1 P1 S1) (D2:Draws prog w A i2 f2 n2 P2 S2)
  (hZ:IsZip s.heap z TI TO .none) (pI:IsPair s.heap TI (.ref i1) (.ref i2)) (pO:IsPair s.heap TO a b) (t1:S1 k s.heap) (t2:S2 k s.heap) (hend:k=n1∨(k<n1∧k=n2))
  (hE:∀h' tk e,(∀c o,c≠z→c≠TO→c≠i1→c≠i2→s.heap.get? c=some o→h'.get? c=some o)→(∃o,h'.get? e=some o∧o.cls= .type "StopIteration")→E (.ref e) {s with heap:=h',toks:=tk}):
  wpAny (model prog w) A (Builtin.«zip.__next__» ⟨[.ref z],[]⟩) Q E s:=by
 show wpAny _ _ (field (.ref z) 2 >>=fun _=>_) _ _ _
 refine wpAny_bind (wpAny_field hZ rfl (x:= .bool false) rfl ?_)
 show wpAny _ _ (field (.ref z) 3 >>=fun _=>_) _ _ _
 refine wpAny_bind (wpAny_field hZ rfl (x:= .ref TI) rfl ?_)
 refine wpAny_bind (wpAny_seqItems pI rfl ?_)
 show wpAny _ _ (Builtin.SmallTypes.ownedTupleIsFree (.ref z) >>=fun _=>_) _ _ _
 refine wpAny_bind ?_
 unfold Builtin.SmallTypes.ownedTupleIsFree
 refine wpAny_bind (wpAny_field hZ rfl (x:= .none) rfl (wpAny_pure ?_))
 simp only [if_true]
 refine wpAny_bind (wpAny_rule (wpAny_bind (wpAny_field hZ rfl (x:= .ref TO) rfl ?_)))
 refine wpAny_bind (wpAny_setField_rec hZ (by simp) fun g1 zg1 k1=> ?_)
 replace zg1:IsZip g1 z TI TO .ellipsis:=zg1
 refine wpAny_bind ?_
 simp only [List.zipIdx_cons,List.zipIdx_nil,List.forIn_cons,List.forIn_nil]
 refine wpAny_bind (wpAny_bind (wpAny_onRaise ?_))
 show wpAny _ _ (Builtin.SmallTypes.nextOf (.ref i1) >>=fun _=>_) _ _ _
 have t1':S1 k g1:=D1.frame _ _ _ t1 fun c hc o e=>k1.extBut _ _ (fun q=>D.b2 (q▸hc)) e
 rcases hend with rfl|⟨l1,rfl⟩
 ·refine wpAny_bind (D1.done _ _ _ t1' fun g2 e k2 he=> ?_)
  obtain ⟨oe,ge,ce⟩:=he
  have zg2:IsZip g2 z TI TO .ellipsis:=k2 _ _ D.a3.symm zg1
  have ne:e≠z:=fun q=>by subst q;rw [zg2] at ge;cases ge;simp at ce
  exact wpAny_setField_rec zg2 (by simp) fun g3 _ k3=>hE g3 _ e (fun c o c1 _ c3 _ q=>k3.extBut _ _ c1 (k2 _ _ c3 (k1.extBut _ _ c1 q))) ⟨oe,k3.extBut _ _ ne ge,ce⟩
 ·refine wpAny_bind (D1.item k _ _ _ l1 t1' fun x g2 tk2 px sg2 k2=>wpAny_pure ?_)
  have pO2:IsPair g2 TO a b:=k2.extBut _ _ D.a8 (k1.extBut _ _ D.a2 pO)
  refine wpAny_bind (wpAny_seqItems pO2 rfl (wpAny_bind (wpAny_updateSeq_pair pO2 fun g3 pO3 k3=> ?_)))
  refine wpAny_bind (wpAny_letGo (wpAny_pure (wpAny_bind (wpAny_bind (wpAny_onRaise ?_)))))
  show wpAny _ _ (Builtin.SmallTypes.nextOf (.ref i2) >>=fun _=>_) _ _ _
  have t2':S2 k g3:=D2.frame _ _ _ t2 fun c hc o e=>k3.extBut _ _ (fun q=>D.b5 (q▸hc)) (k2.extBut _ _ (fun q=>D.b6 (q▸hc)) (k1.extBut _ _ (fun q=>D.b3 (q▸hc)) e))
  refine wpAny_bind (D2.done _ _ _ t2' fun g4 e k4 he=> ?_)
  obtain ⟨oe,ge,ce⟩:=he
  have zg4:IsZip g4 z TI TO .ellipsis:=k4 _ _ D.a4.symm (k3.extBut _ _ D.a2.symm (k2.extBut _ _ D.a3.symm zg1))
  have ne:e≠z:=fun q=>by subst q;rw [zg4] at ge;cases ge;simp at ce
  exact wpAny_setField_rec zg4 (by simp) fun g5 _ k5=>hE g5 _ e (fun c o c1 c2 c3 c4 q=>k5.extBut _ _ c1 (k4 _ _ c4 (k3.extBut _ _ c2 (k2.extBut _ _ c3 (k1.extBut _ _ c1 q))))) ⟨oe,k5.extBut _ _ ne ge,ce⟩
end
end PySem
namespace PySem
open Builtin
section
variable {prog:Program} {w:World} {A:Around} {E:Value→Shared→Prop} {s:Shared} {z TI TO i1 i2:Addr} {f1 f2:List Addr} {n1 n2:Nat} {P1 P2:Nat→Value→Prop} {S1 S2:Nat→Heap→Prop}
theorem pyNext_zip_itemD {k:Nat} {a b:Value} {Q:Option Value→Shared→Prop} (D:ZAp z TI TO i1 i2 f1 f2) (D1:Draws prog w A.in1 i1 f1 n1 P1 S1) (D2:Draws prog w A.in1 i2 f2 n2 P2 S2)
  (hZ:IsZip s.heap z TI TO .none) (pI:IsPair s.heap TI (.ref i1) (.ref i2)) (pO:IsPair s.heap TO a b) (t1:S1 k s.heap) (t2:S2 k s.heap) (l1:k<n1) (l2:k<n2)
  (hQ:∀h' tk x y,P1 k x→P2 k y→IsZip h' z TI TO (rawInt s.heap.objs.size)→IsPair h' TO x y→S1 (k+1) h'→S2 (k+1) h'→IsPair h' s.heap.objs.size x y→
   (∀c o,c≠z→c≠TO→c≠i1→c≠i2→s.heap.get? c=some o→h'.get? c=some o)→Q (some (.ref s.heap.objs.size)) {s with heap:=h',toks:=tk}):
  wpAny (model prog w) A (pyNext (.ref z)) Q E s:=by
 have tz:s.TypeIs (.ref z) "zip":=⟨_,hZ,rfl⟩
 unfold pyNext
 exact wpAny_bind (wpAny_attempt (wpAny_callSpecial?_slot (name:=Str.ofString "__next__") tz F.slot_zip_next (wpAny_call_entry F.slot_zip_next tz F.entry_zip_next
   (zip_itemD D D1 D2 hZ pI pO t1 t2 l1 l2 fun h' tk x y a1 a2 a3 a4 a5 a6 a7 a8=>wpAny_pure (hQ h' tk x y a1 a2 a3 a4 a5 a6 a7 a8)) (F.args_zip_next_1 _))))
theorem pyNext_zip_endD {k:Nat} {a b:Value} {Q:Option Value→Shared→Prop} (D:ZAp z TI TO i1 i2 f1 f2) (D1:Draws prog w A.in1 i1 f1 n1 P1 S1) (D2:Draws prog w A.in1 i2 f2 n2 P2 S2)
  (hZ:IsZip s.heap z TI TO .none) (pI:IsPair s.heap TI (.ref i1) (.ref i2)) (pO:IsPair s.heap TO a b) (t1:S1 k s.heap) (t2:S2 k s.heap) (hend:k=n1∨(k<n1∧k=n2))
  (hQ:∀h' tk,(∀c o,c≠z→c≠TO→c≠i1→c≠i2→s.heap.get? c=some o→h'.get? c=some o)→Q none {s with heap:=h',toks:=tk}):
  wpAny (model prog w) A (pyNext (.ref z)) Q E s:=by
 have tz:s.TypeIs (.ref z) "zip":=⟨_,hZ,rfl⟩
 unfold pyNext
 refine wpAny_bind (wpAny_attempt (wpAny_callSpecial?_slot (name:=Str.ofString "__next__") tz F.slot_zip_next (wpAny_call_entry F.slot_zip_next tz F.entry_zip_next (zip_endD D D1 D2 hZ pI pO t1 t2 hend fun h' tk e hk he=> ?_) (F.args_zip_next_1 _))))
 obtain ⟨o,ho,hc⟩:=he
 exact wpAny_bind (wpAny_isInstance (T:="StopIteration") (b:=true) ⟨o,ho,hc⟩ isSubtype_stop (wpAny_pure (hQ _ _ hk)))
end
abbrev zT1 (h:Heap) (a:Addr):Heap:=h.push {cls:= .type "tuple_iterator",data:= .fields #[.ref a,.int 0 0]}
abbrev zT2 (h:Heap) (a b:Addr):Heap:=(zT1 h a).push {cls:= .type "tuple_iterator",data:= .fields #[.ref b,.int 0 0]}
abbrev zT3 (h:Heap) (a b:Addr):Heap:=(zT2 h a b).push {cls:= .type "tuple",data:= .seq #[.ref h.objs.size,.ref (zT1 h a).objs.size]}
abbrev zT4 (h:Heap) (a b:Addr):Heap:=(zT3 h a b).push {cls:= .type "tuple",data:= .seq #[.none,.none]}
abbrev zT5 (h:Heap) (a b:Addr):Heap:=(zT4 h a b).push {cls:= .type "zip",data:= .fields #[.none,.bool false,.bool false,.ref (zT2 h a b).objs.size,.ref (zT3 h a b).objs.size]}
theorem meets_zip_tt (a b:Addr) (xs ys:Array Value):
  Meets (Builtin.«zip.__new__» ⟨[.type "zip",.ref a,.ref b],[]⟩) (fun _ R s=>s.heap.IsTuple a xs∧s.heap.IsTuple b ys∧R (.ok (.ret (.ref (zT4 s.heap a b).objs.size))) {s with heap:=zT5 s.heap a b}):=
 .of_wp fun prog w A R s h=>by
  obtain ⟨hp,g,d,tk,os⟩:=s
  obtain ⟨ta,tb,h⟩:=h
  have hsub:=sub_zip
  have q1:Heap.IsTuple (Shared.heap ⟨hp,g,d,tk,os⟩) a xs:=ta
  have q2:Heap.IsTuple (Shared.heap ⟨hp.push {cls:= .type "tuple_iterator",data:= .fields #[.ref a,.int 0 0]},g,d,tk,os⟩) b ys:=let ⟨o,ho,r⟩:=tb;⟨o,Heap.get?_push_of_some _ ho,r⟩
  wp_walk using wpAny_pyIter_tuple q1,wpAny_pyIter_tuple q2
  exact ⟨_,rfl,h⟩
section
variable {prog:Program} {w:World} {A:Around} {E:Value→Shared→Prop} {s:Shared}
theorem call_zip_tt {a b:Addr} {xs ys:Array Value} {Q:Value→Shared→Prop} (ta:s.heap.IsTuple a xs) (tb:s.heap.IsTuple b ys)
  (h:∀h',IsZip h' (s.heap.objs.size+4) (s.heap.objs.size+2) (s.heap.objs.size+3) .none→IsPair h' (s.heap.objs.size+2) (.ref s.heap.objs.size) (.ref (s.heap.objs.size+1))→IsPair h' (s.heap.objs.size+3) .none .none→
   h'.IsTupleIter s.heap.objs.size a 0→h'.IsTupleIter (s.heap.objs.size+1) b 0→(∀c o,s.heap.get? c=some o→h'.get? c=some o)→Q (.ref (s.heap.objs.size+4)) {s with heap:=h'}):
  wpAny (model prog w) A (call (.type "zip") [.ref a,.ref b]) Q E s:=by
 refine callType_new F.called_zip (by decide) (F.typeCall_zip_2 _ _) (F.newCall_zip_2 _ _) (fun obj=>F.args_object_init_3 obj _ _) F.entry_zip_new (meets_zip_tt a b xs ys) ⟨ta,tb,?_⟩
 have y1:(zT1 s.heap a).objs.size=s.heap.objs.size+1:=Heap.size_push ..
 have y2:(zT2 s.heap a b).objs.size=s.heap.objs.size+2:=by rw [Heap.size_push,y1]
 have y3:(zT3 s.heap a b).objs.size=s.heap.objs.size+3:=by rw [Heap.size_push,y2]
 have y4:(zT4 s.heap a b).objs.size=s.heap.objs.size+4:=by rw [Heap.size_push,y3]
 have e5:(zT5 s.heap a b).get? (zT4 s.heap a b).objs.size=some _:=Heap.get?_push_size _ rfl
 have e4:(zT5 s.heap a b).get? (zT3 s.heap a b).objs.size=some _:=Heap.get?_push_of_some _ (Heap.get?_push_size _ rfl)
 have e3:(zT5 s.heap a b).get? (zT2 s.heap a b).objs.size=some _:=Heap.get?_push_of_some _ (Heap.get?_push_of_some _ (Heap.get?_push_size _ rfl))
 have e2:(zT5 s.heap a b).get? (zT1 s.heap a).objs.size=some _:=Heap.get?_push_of_some _ (Heap.get?_push_of_some _ (Heap.get?_push_of_some _ (Heap.get?_push_size _ rfl)))
 have e1:(zT5 s.heap a b).get? s.heap.objs.size=some _:=Heap.get?_push_of_some _ (Heap.get?_push_of_some _ (Heap.get?_push_of_some _ (Heap.get?_push_of_some _ (Heap.get?_push_size _ rfl))))
 show _∧_
 rw [y2,y3,y4] at e5
 rw [y1,y2] at e3
 rw [y3] at e4
 rw [y1] at e2
 rw [y4]
 refine ⟨⟨_,e5,rfl⟩,h _ e5 e3 e4 ⟨_,e1,rfl,rfl⟩ ⟨_,e2,rfl,rfl⟩ fun c o e=> ?_⟩
 exact Heap.get?_push_of_some _ (Heap.get?_push_of_some _ (Heap.get?_push_of_some _ (Heap.get?_push_of_some _ (Heap.get?_push_of_some _ e))))
end
end PySem
namespace L2
open PySem PySem.Spec PyProof.Rows
def Itz (K:PySem.W.Frag) (a b:Addr):It:=
 ⟨fun i H=>∃xs ys x y,SqT K H a xs∧SqT K H b ys∧xs[i]? =some x∧ys[i]? =some y,fun i H v H'=>∃T x y,H T=none∧v= .ref T∧H'=upd H T (.tup [x,y])∧(∀xs,SqT K H a xs→xs[i]? =some x)∧∀ys,SqT K H b ys→ys[i]? =some y,
  fun i H=>∃xs ys,SqT K H a xs∧SqT K H b ys∧(i=xs.length∨(i<xs.length∧i=ys.length))⟩
theorem zap_of {z TI TO i1 i2 a b:Addr} (nd:[z,TI,TO,i1,i2].Nodup) (na:a ∉ [z,TI,TO,i1,i2]) (nb:b ∉ [z,TI,TO,i1,i2]):ZAp z TI TO i1 i2 [i1,a] [i2,b]:=by
 simp only [List.nodup_cons,List.mem_cons,List.mem_nil_iff,or_false,not_or,List.nodup_nil,and_true,not_false_eq_true] at nd na nb
 obtain ⟨⟨q1,q2,q3,q4⟩,⟨q5,q6,q7⟩,⟨q8,q9⟩,q10⟩:=nd
 obtain ⟨r1,r2,r3,r4,r5⟩:=na
 obtain ⟨s1,s2,s3,s4,s5⟩:=nb
 constructor<;> first|exact Ne.symm ‹_›|assumption|(simp only [List.mem_cons,List.mem_nil_iff,or_false,not_or];constructor<;> first|assumption|exact Ne.symm ‹_›)
theorem turn_zip {P:Program} {w:World} {K:PySem.W.Frag} {elts:List Expr} {x1} {pos:Pos} (a b z TI TO i1 i2:Addr) (nd:[z,TI,TO,i1,i2].Nodup) (na:a ∉ [z,TI,TO,i1,i2]) (nb:b ∉ [z,TI,TO,i1,i2]):Turn P w K (.Tuple elts x1 pos) (Itz K a b) [z,TI,TO,i1,i2] z
  (fun i h=>IsZip h z TI TO .none∧IsPair h TI (.ref i1) (.ref i2)∧(∃u v,IsPair h TO u v)∧h.IsTupleIter i1 a i∧h.IsTupleIter i2 b i) where
 mem:=by simp
 obj:=fun i h st c hc=>by
  obtain ⟨h1,h2,⟨u,v,h3⟩,⟨o4,g4,_,d4⟩,⟨o5,g5,_,d5⟩⟩:=st
  simp only [List.mem_cons,List.mem_nil_iff,or_false] at hc
  rcases hc with rfl|rfl|rfl|rfl|rfl
  ·exact ⟨_,h1,fun v q=>by cases q⟩
  ·exact ⟨_,h2,fun v q=>by cases q⟩
  ·exact ⟨_,h3,fun v q=>by cases q⟩
  ·exact ⟨_,g4,fun v q=>by rw [d4] at q;cases q⟩
  ·exact ⟨_,g5,fun v q=>by rw [d5] at q;cases q⟩
 keep:=fun i h h' st k=>by
  obtain ⟨h1,h2,⟨u,v,h3⟩,h4,h5⟩:=st
  exact ⟨k z (by simp) _ h1,k TI (by simp) _ h2,⟨u,v,k TO (by simp) _ h3⟩,h4.at fun o q=>k i1 (by simp) o q,h5.at fun o q=>k i2 (by simp) o q⟩
 item:=by
  intro X hP hw hK hc i pins s σ H E I hf st hg
  subst hP hw hK
  obtain ⟨hZ,pI,⟨u,v,pO⟩,t1,t2⟩:=st
  obtain ⟨xs,ys,x,y,ha,hb,hx,hy⟩:=hg
  obtain ⟨its,rv,p1,_⟩:=I.tuple ha
  obtain ⟨jts,rw',p2,_⟩:=I.tuple hb
  obtain ⟨ux,hux,rx⟩:=rv.get hx
  obtain ⟨uy,huy,ry⟩:=rw'.get hy
  have AP:=zap_of nd na nb
  have fresh:H s.heap.objs.size=none:=I.hok.fresh (Nat.le_refl _)
  have ltz:∀c∈[z,TI,TO,i1,i2],c≠s.heap.objs.size:=by
   intro c hc
   obtain ⟨o4,g4,_⟩:=id t1
   obtain ⟨o5,g5,_⟩:=id t2
   simp only [List.mem_cons,List.mem_nil_iff,or_false] at hc
   rcases hc with rfl|rfl|rfl|rfl|rfl
   ·exact Nat.ne_of_lt (Heap.lt_size hZ)
   ·exact Nat.ne_of_lt (Heap.lt_size pI)
   ·exact Nat.ne_of_lt (Heap.lt_size pO)
   ·exact Nat.ne_of_lt (Heap.lt_size g4)
   ·exact Nat.ne_of_lt (Heap.lt_size g5)
  refine pyNext_zip_itemD AP (Draws.tup (A:=X.A.in1) (I.ok.hd hc) i1 a (fun q=>na (by simp [q])) its.toArray) (Draws.tup (A:=X.A.in1) (I.ok.hd hc) i2 b (fun q=>nb (by simp [q])) jts.toArray) hZ pI pO ⟨t1,p1⟩ ⟨t2,p2⟩
   (by have:=(List.getElem?_eq_some_iff.mp hux).1;simpa using this) (by have:=(List.getElem?_eq_some_iff.mp huy).1;simpa using this) fun h' tk xv yv px py z' pO' s1' s2' pT kk=>⟨_,rfl,?_⟩
  have ex:ux=xv:=Option.some.inj (hux.symm.trans (by simpa using px))
  have ey:uy=yv:=Option.some.inj (huy.symm.trans (by simpa using py))
  subst ex ey
  refine wpAny_letOwnedTupleGo_zip (s:={s with heap:=h',toks:=tk}) z' fun h2 z2 sb=> ?_
  have I1:Inv X pins σ (upd H s.heap.objs.size (.tup [x,y])) {s with heap:=s.heap.push {cls:= .type "tuple",data:= .seq #[ux,uy]},toks:=s.toks}:=
   I.laid (o:= .tup [x,y]) (fun b ob q=>Heap.get?_push_of_some _ q) (Nat.le_refl _) ⟨by rw [sizeLine_eq];simp,[ux,uy],.cons rx (.cons ry .nil),IsTupN.new _ _⟩
  have I2:=I1.turnedL (h':=h2) (t':=tk) [z,TI,TO,i1,i2] (fun c o hc' q=> ?_) (fun c hc'=>(hf c hc').up (ltz c hc'))
  ·refine ⟨.ref s.heap.objs.size,_,I2,rfl,⟨_,x,y,fresh,rfl,rfl,fun ys' hy'=>by rw [I.tuple_inj hy' ha];exact hx,fun ys' hy'=>by rw [I.tuple_inj hy' hb];exact hy⟩,
    ⟨z2,(sb.2 TI AP.a1).trans (kk _ _ AP.a1 AP.a5 AP.a6 AP.a7 pI),⟨_,_,(sb.2 TO AP.a2).trans pO'⟩,s1'.1.at fun o q=>(sb.2 i1 AP.a3).trans q,s2'.1.at fun o q=>(sb.2 i2 AP.a4).trans q⟩,fun c hc'=> ?_⟩
   rw [Ai (ltz c hc')];exact (hf c hc').1
  ·have c1:c≠z:=fun q=>hc' (by simp [q])
   have c2:c≠TO:=fun q=>hc' (by simp [q])
   have c3:c≠i1:=fun q=>hc' (by simp [q])
   have c4:c≠i2:=fun q=>hc' (by simp [q])
   refine (sb.2 c c1).trans ?_
   by_cases hcs:c=s.heap.objs.size
   ·subst hcs
    rw [Heap.get?_push_size _ rfl] at q
    cases q
    exact pT
   ·rw [Heap.get?_push_ne _ _ _ hcs] at q
    exact kk c o c1 c2 c3 c4 q
 done:=by
  intro X hP hw hK hc i pins s σ H E I hf st hg
  subst hP hw hK
  obtain ⟨hZ,pI,⟨u,v,pO⟩,t1,t2⟩:=st
  obtain ⟨xs,ys,ha,hb,hend⟩:=hg
  obtain ⟨its,rv,p1,_⟩:=I.tuple ha
  obtain ⟨jts,rw',p2,_⟩:=I.tuple hb
  have AP:=zap_of nd na nb
  have l1:=rv.length
  have l2:=rw'.length
  refine pyNext_zip_endD AP (Draws.tup (A:=X.A.in1) (I.ok.hd hc) i1 a (fun q=>na (by simp [q])) its.toArray) (Draws.tup (A:=X.A.in1) (I.ok.hd hc) i2 b (fun q=>nb (by simp [q])) jts.toArray) hZ pI pO ⟨t1,p1⟩ ⟨t2,p2⟩
   (by simp only [List.size_toArray];omega) fun h' tk kk=>⟨rfl,I.turnedL (t':=tk) [z,TI,TO,i1,i2] (fun c o hc' q=> ?_) hf⟩
  exact kk c o (fun q=>hc' (by simp [q])) (fun q=>hc' (by simp [q])) (fun q=>hc' (by simp [q])) (fun q=>hc' (by simp [q])) q
 self:=fun A i s Q E st h=>wpAny_pyIter_zip st.1 h
def iZip (K:PySem.W.Frag) (ta:TA):TI:=fun σ H R=>ta σ H fun vs H1=>∃a b xs ys,vs=[.ref a,.ref b]∧SqT K H1 a xs∧SqT K H1 b ys∧R (Itz K a b) H1
theorem pi_zip {X:Cx} {elts:List Expr} {x1} {tpos:Pos} {e1 e2:Expr} {ta:TA} {p pos:Pos} (hg:Gl X "zip") (hm:X.mg "zip"=none) (ha:PA X [e1,e2] ta) (hs:starEach [e1,e2] X.env=[(false,eval e1 X.env),(false,eval e2 X.env)]:=by rfl) (hs2:starEach [e2] X.env=[(false,eval e2 X.env)]:=by rfl):
  PI X (.Tuple elts x1 tpos) (.Call (.Name "zip" p) [e1,e2] [] pos) (iZip X.K ta):=by
 intro pins s σ H R I h
 refine Call_ (ld_blt I hg hm (show bootBuiltins "zip"=some (.type "zip") by decide+kernel) (PyProof.Rows.callWith_type1 (thn (ha pos pins s σ H _ I h) fun us s1 ⟨vs,H1,I1,r1,q1⟩=> ?_) (by rw [hs,hs2]) (by rw [hs2];rfl)))
 obtain ⟨a,b,xs,ys,e,hqa,hqb,q⟩:=q1
 subst e
 cases r1 with
 |cons r rr=>
  cases rr with
  |cons r' rr=>
   cases rr
   cases r
   cases r'
   obtain ⟨its,rv,p1,_⟩:=I1.tuple hqa
   obtain ⟨jts,rw',p2,_⟩:=I1.tuple hqb
   refine call_zip_tt p1 p2 fun h' hZ pI pO t1 t2 kk=>wpAny_pyIter_zip hZ ?_
   obtain ⟨oa,ga,_⟩:=id p1
   obtain ⟨ob,gb,_⟩:=id p2
   have la:=Heap.lt_size ga
   have lb:=Heap.lt_size gb
   have big:∀c∈[s1.heap.objs.size+4,s1.heap.objs.size+2,s1.heap.objs.size+3,s1.heap.objs.size,s1.heap.objs.size+1],s1.heap.objs.size≤c:=by
    intro c hc
    simp only [List.mem_cons,List.mem_nil_iff,or_false] at hc
    rcases hc with rfl|rfl|rfl|rfl|rfl<;> first|exact Nat.le_add_right _ _|exact Nat.le_refl _
   refine ⟨s1.heap.objs.size+4,[s1.heap.objs.size+4,s1.heap.objs.size+2,s1.heap.objs.size+3,s1.heap.objs.size,s1.heap.objs.size+1],_,_,H1,rfl,I1.kept (t':=s1.toks) kk,
    turn_zip a b _ _ _ _ _ ?_ (fun q=>Nat.lt_irrefl _ (Nat.lt_of_lt_of_le la (big _ q))) (fun q=>Nat.lt_irrefl _ (Nat.lt_of_lt_of_le lb (big _ q))),⟨hZ,pI,⟨_,_,pO⟩,t1,t2⟩,fun c hc=>I1.fpOk (big c hc) (I1.hok.fresh (big c hc)),q⟩
   generalize s1.heap.objs.size=n
   show List.Nodup ([n+4,n+2,n+3,n,n+1]:List Nat)
   simp
section
variable {g:TG} {ti:TT} {te:TE} {Q:VK} {D:Addr} {σ:St} {H:Hp}
theorem comp_zip {K:PySem.W.Frag} {a b:Addr} {xs ys:List V} (Pv:Nat→St→List V→Hp→Prop) (h0:Pv 0 σ [] (upd H D (.lst []))) (hl:∀i σ zs H,i≤xs.length→i≤ys.length→Pv i σ zs H→SqT K H a xs∧SqT K H b ys∧H D=some (.lst zs))
  (hs:∀i x y σ zs H T,xs[i]? =some x→ys[i]? =some y→Pv i σ zs H→H T=none→cturn g ti te D (.ref T) σ zs (upd H T (.tup [x,y])) (Pv (i+1))) (hd:∀i σ zs H,i=min xs.length ys.length→Pv i σ zs H→Q (.ref D) H):
  cgo (Itz K a b) g ti te D σ H Q:=by
 refine ⟨fun i m σ zs H=>m=xs.length - i∧i≤xs.length∧i≤ys.length∧Pv i σ zs H,⟨xs.length,by simp,Nat.zero_le _,Nat.zero_le _,h0⟩,?_⟩
 rintro i m σ zs H ⟨rfl,hi,hj,p⟩
 obtain ⟨q1,q2,hD⟩:=hl i σ zs H hi hj p
 refine ⟨hD,?_⟩
 by_cases hlt:i<xs.length∧i<ys.length
 ·refine .inr ⟨⟨xs,ys,xs[i],ys[i],q1,q2,by simp [hlt.1],by simp [hlt.2]⟩,Pv (i+1),fun σ' ys' H' p'=>⟨xs.length - (i+1),by omega,rfl,hlt.1,hlt.2,p'⟩,fun x H' y=> ?_⟩
  obtain ⟨T,x,y,hT,rfl,rfl,y1,y2⟩:=y
  exact hs i x y σ zs H T (y1 xs q1) (y2 ys q2) p hT
 ·exact .inl ⟨⟨xs,ys,q1,q2,by omega⟩,hd i σ zs H (by omega) p⟩
end
end L2
namespace HT
open PySem PyProof.Rows
section
variable {prog:Program} {w:World} {A:Around} {E:Value→Shared→Prop} {s:Shared}
theorem getItem_tuple_self {t sl:Addr} {items:Array Value} {vl vu:Value} {lo hi:Option Int} {Q:Value→Shared→Prop} (ht:IsTup s.heap t items) (hs:s.heap.IsSliceOf sl vl vu .none) (pl:IsPart vl lo) (pu:IsPart vu hi)
  (hw:sIx items.size 0 lo=0∧sIx items.size items.size hi=items.size) (h:Q (.ref t) s):wpAny (model prog w) A (getItem (.ref t) (.ref sl)) Q E s:=by
 obtain ⟨os,hos,hcs,hds⟩:=id hs
 have tsl:s.TypeIs (.ref sl) "slice":=⟨os,hos,hcs⟩
 unfold getItem
 try with_reducible refine wpAny_holding ?_
 first|refine wpAny_bind (wpAny_pure ?_)|skip
 refine wpAny_bind (wpAny_sequenceKey ht.typeIs (by decide) (wpAny_bind (wpAny_callSpecial?_slot (name:=Str.ofString "__getitem__") ht.typeIs PyProof.Rows.slot_tuple_getitem (wpAny_call_entry PyProof.Rows.slot_tuple_getitem ht.typeIs entry_tuple_getitem ?_ (args_tuple_getitem _ _)))))
 show wpAny _ _ (Builtin.Tuple.tupleItemsOf (.ref t) >>=fun _=>_) _ _ s
 refine wpAny_bind (tupleItemsOf_ ht (wpAny_bind (wpAny_typeOf tsl ?_)))
 rw [if_pos (by decide)]
 refine wpAny_bind (sliceApplied_gen hs pl pu ?_)
 have yes:(((sIx items.size 0 lo:Nat):Int)==0 && (1:Int)==1 && (sIx items.size items.size hi - sIx items.size 0 lo)==items.size)=true:=by rw [hw.1,hw.2];simp
 show wpAny _ _ (ite ((((sIx items.size 0 lo:Nat):Int)==0 && (1:Int)==1 && (sIx items.size items.size hi - sIx items.size 0 lo)==items.size)=true) _ _) _ _ s
 rw [if_pos yes]
 refine wpAny_bind (m:=Builtin.Tuple.tupleIsExact (.ref t)) ?_
 unfold Builtin.Tuple.tupleIsExact
 refine wpAny_bind (wpAny_typeOf ht.typeIs (wpAny_pure ?_))
 rw [if_pos (by decide)]
 exact wpAny_bind (wpAny_rule (wpAny_pure ⟨_,rfl,wpAny_pure h⟩))
end
end HT
namespace L2
open PySem PySem.Spec PyProof.Rows
section
variable {X:Cx}
inductive RSlTAP (K:PySem.W.Frag) (x:V) (lo:Option Int) (hi:Option Int) (H:Hp) (Q:VK):Prop
 |mk (a xs:_):(x= .ref a)→(SqT K H a xs)→(((HT.sIx xs.length 0 lo=0∧HT.sIx xs.length xs.length hi=xs.length)→Q (.ref a) H))→((¬(HT.sIx xs.length 0 lo=0∧HT.sIx xs.length xs.length hi=xs.length)→∀p,H p=none→Q (.ref p) (upd H p (.tup (cutV xs lo hi)))))→RSlTAP K x lo hi H Q
def rSlTA (K:PySem.W.Frag):V→Option Int→Option Int→Hp→VK→Prop:=fun x lo hi H Q=>RSlTAP K x lo hi H Q
theorem sl_tupA:SlR X (rSlTA X.K):=by
 intro pins s σ H x v vl vu lo hi sl Q I rx hs pl pu h
 obtain ⟨a,xs,rfl,hx,q1,q2⟩:=h
 by_cases hw:HT.sIx xs.length 0 lo=0∧HT.sIx xs.length xs.length hi=xs.length
 ·cases rx
  obtain ⟨its,r,ht,hz⟩:=I.tuple hx
  have hlen:its.toArray.size=xs.length:=by rw [List.size_toArray];exact r.length.symm
  exact ⟨"tuple",_,PyProof.Rows.slot_tuple_getitem.lookup,ht.typeIs,HT.getItem_tuple_self ht hs pl pu (by rw [hlen];exact hw) ⟨.ref a,H,I,rfl,q1 hw⟩⟩
 ·exact sl_tup pins s σ H _ v vl vu lo hi sl Q I rx hs pl pu ⟨a,xs,rfl,hx,hw,q2 hw⟩
end
theorem Ad {H:Hp} {p:Addr} {o:HO} (h:H p=none):Same H (upd H p o):=fun b u e=>by rw [Ai (Am e h)];exact e
theorem Cd (H:Hp):Same H H:=fun _ _ e=>e
theorem small {n:Nat} (h:n≤10000):n≤sizeLine:=by rw [sizeLine_eq];exact Nat.le_trans (by assumption) (by decide)
theorem none_of {H H':Hp} {a:Addr} (s:Same H H') (h:H' a=none):H a=none:=by
 cases e:H a with
 |none=>rfl
 |some o=>rw [s _ _ e] at h;cases h
theorem pg_tupK {X:Cx} {es:List Expr} {k:Nat} {t:TGs} {pos:Pos} (K:PySem.W.Frag) (n:Nat) (hK:X.K=K) (hc:X.calm=true) (h:PGs X es t) (hn:(assignEach es X.env).length=n:=by rfl) (hst:(assignEach es X.env).findIdx? (·.1)=none:=by rfl):PG X (.Tuple es k pos) (gTup K n t):=by
 subst hK
 exact pg_tup hc h hn hst
end L2
namespace PySem
open Builtin
end PySem
namespace PySem
open Builtin
end PySem
namespace L2
open PySem PySem.Spec PyProof.Rows
section
variable {X:Cx}
theorem call_range1:CallR X (.type "range") (fun xs H Q=>∃j:Int,xs=[.int j]∧∀l,H l=none→Q (.ref l) (upd H l (.rng 0 j))):=by
 intro pins s σ H xs us Q I r h
 obtain ⟨j,rfl,q⟩:=h
 obtain ⟨u,rfl,⟨t,rfl⟩⟩:=vals1 r
 exact call_range_1 ⟨.ref s.heap.objs.size,_,I.laid (o:= .rng 0 j) (fun _ _ q=>Heap.get?_push_of_some _ q) (Nat.le_refl _) ⟨_,_,_,Heap.get?_push_size _ rfl⟩,rfl,q _ I.fresh⟩
end
end L2
namespace PySem
open Builtin
end PySem
namespace L2
open PySem PySem.Spec PyProof.Rows
end L2
namespace PySem
open Builtin
end PySem
namespace L2
open PySem PySem.Spec PyProof.Rows
end L2
namespace Srt
open PySem PySem.W PyProof.Rows
structure Ord (lt:Nat→Nat→Bool):Prop where
 asym:∀a b,lt a b=true→lt b a=false
 ntr:∀a b c,lt a b=false→lt b c=false→lt a c=false
def ev {α:Type} (lt:Nat→Nat→Bool):KasT α→α
 | .ret a=>a
 | .ask i j k=>ev lt (k (lt i j))
theorem ev_bind {α β:Type} (lt:Nat→Nat→Bool) (f:α→KasT β):∀t:KasT α,ev lt (t.bind f)=ev lt (f (ev lt t))
 | .ret _=>rfl
 | .ask i j k=>ev_bind lt f (k (lt i j))
def AsksP {α:Type} (n:Nat) (P:α→Prop):KasT α→Prop
 | .ret a=>P a
 | .ask i j k=>i<n∧j<n∧∀b,AsksP n P (k b)
theorem AsksP.bind {α β:Type} {n:Nat} {P:α→Prop} {R:β→Prop} {f:α→KasT β} (hf:∀a,P a→AsksP n R (f a)):∀{t:KasT α},AsksP n P t→AsksP n R (t.bind f)
 | .ret a,h=>hf a h
 | .ask i j k,h=>⟨h.1,h.2.1,fun b=>AsksP.bind hf (h.2.2 b)⟩
theorem AsksP.ev {α:Type} {n:Nat} {P:α→Prop} (lt:Nat→Nat→Bool):∀{t:KasT α},AsksP n P t→P (Srt.ev lt t)
 | .ret _,h=>h
 | .ask i j k,h=>AsksP.ev (n:=n) (P:=P) lt (t:=k (lt i j)) (h.2.2 (lt i j))
theorem AsksP.wp {α:Type} {n:Nat} {P:α→Prop} {cmp:Nat→Nat→(Bool→Shared→Prop)→Shared→Prop} {lt:Nat→Nat→Bool} {s:Shared} (hc:∀i j (C:Bool→Shared→Prop),i<n→j<n→C (lt i j) s→cmp i j C s) {Q:α→Shared→Prop}:∀{t:KasT α},AsksP n P t→Q (Srt.ev lt t) s→t.kasWp cmp Q s
 | .ret _,_,q=>q
 | .ask i j k,h,q=>hc i j _ h.1 h.2.1 (AsksP.wp hc (h.2.2 (lt i j)) q)
abbrev g (p:Array Nat) (k:Nat):Nat:=p.getD k 0
theorem g_eq (p:Array Nat) (k:Nat):g p k=(p[k]?).getD 0:=by
 show p.getD k 0=_
 simp [Array.getD_eq_getD_getElem?]
theorem g_rev {p:Array Nat} {i j:Nat} (hj:j≤p.size) (k:Nat):g (kas_rev p i j) k=if i≤k∧k<j then g p (i+j - 1 - k) else g p k:=by
 rw [g_eq]
 unfold kas_rev
 rw [getElem?_mirror_all hj]
 split<;> rw [g_eq]
theorem g_bub {p:Array Nat} {src d:Nat} (hs:src<p.size) (hd:d≤src) (k:Nat):g (bubble p src d) k=if k=src - d then g p src else if src - d<k∧k≤src then g p (k - 1) else g p k:=by
 rw [g_eq,getElem?_bubble hs d hd,g_eq,g_eq,g_eq]
 split
 ·rfl
 ·split<;> rfl
theorem rev_size (p:Array Nat) (i j:Nat):(kas_rev p i j).size=p.size:=mirror_size _ _ _ _
theorem rev_perm (p:Array Nat) (i j:Nat):(kas_rev p i j).Perm p:=mirror_perm _ _ _ _
def Pm (n:Nat) (p:Array Nat):Prop:=p.Perm (List.range n).toArray
theorem Pm.size {n:Nat} {p:Array Nat} (h:Pm n p):p.size=n:=by
 have:=Array.Perm.size_eq h
 simpa using this
theorem Pm.lt {n:Nat} {p:Array Nat} (h:Pm n p) (h0:0<n) (k:Nat):g p k<n:=by
 rw [g_eq]
 cases e:p[k]? with
 |none=>exact h0
 |some x=>
  have hx:x∈p:=Array.mem_of_getElem? e
  have:=(Array.Perm.mem_iff h).mp hx
  simpa using this
section
variable {n:Nat} (h0:0<n)
include h0
theorem asks_asc {p:Array Nat} (h:Pm n p):∀f m,AsksP n (fun _=>True) (kas_asc p f m)
 |0,_=>trivial
 |f+1,m=>⟨h.lt h0 _,h.lt h0 _,fun b=>by cases b<;> first|exact trivial|exact asks_asc h f (m+1)⟩
theorem asks_desc:∀f {p:Array Nat} (m q:Nat),Pm n p→AsksP n (fun r=>Pm n r.1) (kas_desc f p m q)
 |0,_,_,_,h=>h
 |f+1,p,m,q,h=>by
  refine ⟨h.lt h0 _,h.lt h0 _,fun b=> ?_⟩
  cases b with
  |true=>
   show AsksP n _ (if q > 0 then _ else _)
   by_cases hq:q > 0
   ·rw [if_pos hq];exact asks_desc f _ _ ((rev_perm _ _ _).trans h)
   ·rw [if_neg hq];exact asks_desc f _ _ h
  |false=>
   refine ⟨h.lt h0 _,h.lt h0 _,fun d=> ?_⟩
   cases d with
   |true=>exact h
   |false=>exact asks_desc f _ _ h
theorem asks_tail3 {p:Array Nat} (m nrem:Nat) (h:Pm n p):AsksP n (fun r=>Pm n r.2) (kas_tail3 m nrem p):=by
 have hr:Pm n (kas_rev p 0 m):=(rev_perm _ _ _).trans h
 refine AsksP.bind (n:=n) (P:=fun _=>True) (R:=fun r:Nat×Array Nat=>Pm n r.2) (fun k _=> ?_) (asks_asc h0 hr _ _)
 exact hr
theorem asks_descPart {p:Array Nat} (m nrem:Nat) (h:Pm n p):AsksP n (fun r=>Pm n r.2) (kas_descPart m nrem p):=
 (asks_desc h0 _ _ _ h).bind fun r hr=>by
  by_cases hq:r.2.2 > 0
  ·rw [if_pos hq];exact asks_tail3 h0 _ _ ((rev_perm _ _ _).trans hr)
  ·rw [if_neg hq];exact asks_tail3 h0 _ _ hr
theorem asks_count {p:Array Nat} (nrem:Nat) (h:Pm n p):AsksP n (fun r=>Pm n r.2) (kas_count nrem p):=
 (asks_asc h0 h _ _).bind fun m _=>by
  by_cases h1:(m==nrem)=true
  ·rw [if_pos h1];exact h
  ·rw [if_neg h1]
   by_cases h2:m > 1
   ·rw [if_pos h2]
    refine ⟨h.lt h0 _,h.lt h0 _,fun c=> ?_⟩
    cases c with
    |true=>exact h
    |false=>exact asks_descPart h0 _ _ ((rev_perm _ _ _).trans h)
   ·rw [if_neg h2];exact asks_descPart h0 _ _ h
theorem asks_place {p:Array Nat} (k:Nat) (h:Pm n p):∀f l r,AsksP n (fun _=>True) (kas_place p k f l r)
 |0,_,_=>trivial
 |f+1,l,r=>by
  show AsksP n _ (if l ≥ r then _ else _)
  by_cases hl:l ≥ r
  ·rw [if_pos hl];trivial
  ·rw [if_neg hl]
   refine ⟨h.lt h0 _,h.lt h0 _,fun c=> ?_⟩
   cases c with
   |true=>exact asks_place k h f _ _
   |false=>exact asks_place k h f _ _
theorem asks_bin:∀f {p:Array Nat} (k:Nat),Pm n p→AsksP n (Pm n) (kas_bin f p k)
 |0,_,_,h=>h
 |f+1,p,k,h=>(asks_place h0 k h _ _ _).bind fun l _=>asks_bin f (k+1) ((bubble_perm _ _ _).trans h)
theorem asks_sort:AsksP n (Pm n) (kas_sort n):=
 (asks_count h0 n (Array.Perm.refl _)).bind fun r hr=>by
  by_cases h1:r.1<n
  ·rw [if_pos h1];exact asks_bin h0 _ _ hr
  ·rw [if_neg h1];exact hr
end
section
variable {lt:Nat→Nat→Bool} (O:Ord lt)
def Sto (lt:Nat→Nat→Bool) (p:Array Nat) (k:Nat):Prop:=∀i j,i≤j→j<k→lt (g p j) (g p i)=false
def Dto (lt:Nat→Nat→Bool) (p:Array Nat) (k:Nat):Prop:=∀i j,i≤j→j<k→lt (g p i) (g p j)=false
def Eqv (lt:Nat→Nat→Bool) (a b:Nat):Prop:=lt a b=false∧lt b a=false
include O
theorem irr (a:Nat):lt a a=false:=by
 cases h:lt a a with
 |false=>rfl
 |true=>have:=O.asym a a h;rw [h] at this;cases this
theorem ev_asc {p:Array Nat}:∀f m,1≤m→Sto lt p m→m≤ev lt (kas_asc p f m)∧ev lt (kas_asc p f m)≤m+f∧Sto lt p (ev lt (kas_asc p f m))∧(ev lt (kas_asc p f m)<m+f→lt (g p (ev lt (kas_asc p f m))) (g p (ev lt (kas_asc p f m) - 1))=true)
 |0,m,_,hs=>⟨Nat.le_refl _,Nat.le_refl _,hs,fun h=>absurd h (Nat.lt_irrefl _)⟩
 |f+1,m,h1,hs=>by
  show m≤ev lt (if lt (g p m) (g p (m - 1))=true then .ret m else kas_asc p f (m+1))∧ev lt (if lt (g p m) (g p (m - 1))=true then .ret m else kas_asc p f (m+1))≤m+(f+1)∧Sto lt p (ev lt (if lt (g p m) (g p (m - 1))=true then .ret m else kas_asc p f (m+1)))∧(ev lt (if lt (g p m) (g p (m - 1))=true then .ret m else kas_asc p f (m+1))<m+(f+1)→lt (g p (ev lt (if lt (g p m) (g p (m - 1))=true then .ret m else kas_asc p f (m+1)))) (g p (ev lt (if lt (g p m) (g p (m - 1))=true then .ret m else kas_asc p f (m+1)) - 1))=true)
  by_cases c:lt (g p m) (g p (m - 1))=true
  ·rw [if_pos c]
   exact ⟨Nat.le_refl _,Nat.le_add_right _ _,hs,fun _=>c⟩
  ·rw [if_neg c]
   have c:lt (g p m) (g p (m - 1))=false:=by simpa using c
   have hs':Sto lt p (m+1):=fun i j hij hj=>by
    by_cases e:j=m
    ·subst e
     by_cases e2:i=j
     ·subst e2;exact irr O _
     ·exact O.ntr _ _ _ c (hs i (j - 1) (by omega) (by exact Nat.sub_lt (by assumption) (by decide)))
    ·exact hs i j hij (by omega)
   obtain ⟨a,b,d,e⟩:=ev_asc f (m+1) (by exact Nat.lt_succ_of_lt (by assumption)) hs'
   exact ⟨by exact Nat.le_of_lt (by assumption),by omega,d,fun h=>e (by omega)⟩
theorem Dto.eqv {p p1:Array Nat} {k:Nat} (h:Dto lt p k) (he:∀i,i<k→Eqv lt (g p1 i) (g p i)):Dto lt p1 k:=fun i j hij hj=>
 O.ntr _ _ _ (he i (by exact Nat.lt_of_le_of_lt (by assumption) (by assumption))).1 (O.ntr _ _ _ (h i j hij hj) (he j hj).2)
def Blk (lt:Nat→Nat→Bool) (p:Array Nat) (m q:Nat):Prop:=q+1≤m∧∀i j,m - (q+1)≤i→i<m→m - (q+1)≤j→j<m→Eqv lt (g p i) (g p j)
theorem rev_blk {p:Array Nat} {m q:Nat} (hm:m≤p.size) (hb:Blk lt p m q):∀i,Eqv lt (g (kas_rev p (m - (q+1)) m) i) (g p i):=fun i=>by
 have h1:=hb.1
 rw [g_rev hm]
 split
 ·exact hb.2 _ _ (by omega) (by omega) (by omega) (by omega)
 ·exact ⟨irr O _,irr O _⟩
theorem ev_desc:∀f {p:Array Nat} (m q:Nat),1≤m→m+f≤p.size→Dto lt p m→Blk lt p m q→
  let r:=ev lt (kas_desc f p m q);m≤r.2.1∧r.2.1≤m+f∧r.1.size=p.size∧Dto lt r.1 r.2.1∧Blk lt r.1 r.2.1 r.2.2
 |0,p,m,q,_,_,hd,hb=>⟨Nat.le_refl _,Nat.le_refl _,rfl,hd,hb⟩
 |f+1,p,m,q,h1,hz,hd,hb=>by
  intro r
  have b1:=hb.1
  have single:∀(p':Array Nat),Blk lt p' (m+1) 0:=fun p'=>⟨by exact Nat.lt_succ_of_lt (by assumption),fun i j a b c d=>by
   have:i=j:=by omega
   subst this;exact ⟨irr O _,irr O _⟩⟩
  have low:lt (g p (m - 1)) (g p m)=false→Dto lt p (m+1):=fun c i j hij hj=>by
   by_cases e:j=m
   ·subst e
    by_cases e2:i=j
    ·subst e2;exact irr O _
    ·exact O.ntr _ _ _ (hd i (j - 1) (by omega) (by exact Nat.sub_lt (by assumption) (by decide))) c
   ·exact hd i j hij (by omega)
  by_cases c:lt (g p m) (g p (m - 1))=true
  ·have cl:=low (O.asym _ _ c)
   by_cases hq:q > 0
   ·have e:r=ev lt (kas_desc f (kas_rev p (m - (q+1)) m) (m+1) 0):=by
     show ev lt (if lt (g p m) (g p (m - 1))=true then (if q > 0 then _ else _) else _)=_
     rw [if_pos c,if_pos hq]
    obtain ⟨a,b,s,d,k⟩:=ev_desc f (p:=kas_rev p (m - (q+1)) m) (m+1) 0 (by exact Nat.lt_succ_of_lt (by assumption)) (by rw [rev_size];omega) (Dto.eqv O cl fun i _=>rev_blk O (by omega) hb i) (single _)
    rw [e]
    exact ⟨by exact Nat.le_of_lt (by assumption),by omega,by rw [s,rev_size],d,k⟩
   ·have e:r=ev lt (kas_desc f p (m+1) 0):=by
     show ev lt (if lt (g p m) (g p (m - 1))=true then (if q > 0 then _ else _) else _)=_
     rw [if_pos c,if_neg hq]
    obtain ⟨a,b,s,d,k⟩:=ev_desc f (p:=p) (m+1) 0 (by exact Nat.lt_succ_of_lt (by assumption)) (by omega) cl (single _)
    rw [e]
    exact ⟨by exact Nat.le_of_lt (by assumption),by omega,s,d,k⟩
  ·have c':lt (g p m) (g p (m - 1))=false:=by simpa using c
   by_cases d1:lt (g p (m - 1)) (g p m)=true
   ·have e:r=(p,m,q):=by
     show ev lt (if lt (g p m) (g p (m - 1))=true then _ else KasT.ask _ _ fun d=>if d=true then _ else _)=_
     rw [if_neg c]
     show ev lt (if lt (g p (m - 1)) (g p m)=true then KasT.ret (p,m,q) else _)=_
     rw [if_pos d1]
     rfl
    rw [e]
    exact ⟨Nat.le_refl _,Nat.le_add_right _ _,rfl,hd,hb⟩
   ·have d':lt (g p (m - 1)) (g p m)=false:=by simpa using d1
    have e:r=ev lt (kas_desc f p (m+1) (q+1)):=by
     show ev lt (if lt (g p m) (g p (m - 1))=true then _ else KasT.ask _ _ fun d=>if d=true then _ else _)=_
     rw [if_neg c]
     show ev lt (if lt (g p (m - 1)) (g p m)=true then KasT.ret (p,m,q) else _)=_
     rw [if_neg d1]
    have blk:Blk lt p (m+1) (q+1):=⟨by exact Nat.succ_le_succ (by assumption),fun i j i1 i2 j1 j2=>by
     have to:∀k,m - (q+1)≤k→k<m+1→Eqv lt (g p k) (g p (m - 1)):=fun k k1 k2=>by
      by_cases z:k=m
      ·subst z;exact ⟨c',d'⟩
      ·exact hb.2 k (m - 1) k1 (by omega) (by omega) (by exact Nat.sub_lt (by assumption) (by decide))
     have a:=to i (by omega) i2
     have b:=to j (by omega) j2
     exact ⟨O.ntr _ _ _ a.1 b.2,O.ntr _ _ _ b.1 a.2⟩⟩
    obtain ⟨a,b,s,d,k⟩:=ev_desc f (p:=p) (m+1) (q+1) (by exact Nat.lt_succ_of_lt (by assumption)) (by omega) (low d') blk
    rw [e]
    exact ⟨by exact Nat.le_of_lt (by assumption),by omega,s,d,k⟩
theorem Dto.rev {p:Array Nat} {m:Nat} (hm:m≤p.size) (h:Dto lt p m):Sto lt (kas_rev p 0 m) m:=fun i j hij hj=>by
 rw [g_rev hm,g_rev hm,if_pos ⟨by exact Nat.zero_le _,by assumption⟩,if_pos ⟨by exact Nat.zero_le _,by exact Nat.lt_of_le_of_lt (by assumption) (by assumption)⟩]
 exact h _ _ (by omega) (by omega)
theorem ev_tail3 {p:Array Nat} {m nrem:Nat} (h1:1≤m) (hn:m≤nrem) (hz:nrem≤p.size) (h:Dto lt p m):let r:=ev lt (kas_tail3 m nrem p);1≤r.1∧r.1≤nrem∧Sto lt r.2 r.1:=by
 intro r
 have e:r=(ev lt (kas_asc (kas_rev p 0 m) (nrem - m) m),kas_rev p 0 m):=ev_bind lt _ _
 obtain ⟨a,b,c,_⟩:=ev_asc O (p:=kas_rev p 0 m) (nrem - m) m h1 (Dto.rev O (by exact Nat.le_trans (by assumption) (by assumption)) h)
 rw [e]
 exact ⟨by show 1≤_;exact Nat.le_trans (by assumption) (by assumption),by show _≤nrem;omega,c⟩
theorem ev_descPart {p:Array Nat} {m nrem:Nat} (hn:m+1≤nrem) (hz:nrem≤p.size) (h:Dto lt p (m+1)):let r:=ev lt (kas_descPart m nrem p);1≤r.1∧r.1≤nrem∧Sto lt r.2 r.1:=by
 intro r
 have single:Blk lt p (m+1) 0:=⟨by omega,fun i j a b c d=>by
  have:i=j:=by omega
  subst this;exact ⟨irr O _,irr O _⟩⟩
 obtain ⟨a,b,s,d,k⟩:=ev_desc O (nrem - (m+1)) (p:=p) (m+1) 0 (by omega) (by omega) h single
 have e:r=ev lt (if (ev lt (kas_desc (nrem - (m+1)) p (m+1) 0)).2.2 > 0 then kas_tail3 (ev lt (kas_desc (nrem - (m+1)) p (m+1) 0)).2.1 nrem (kas_rev (ev lt (kas_desc (nrem - (m+1)) p (m+1) 0)).1 ((ev lt (kas_desc (nrem - (m+1)) p (m+1) 0)).2.1 - ((ev lt (kas_desc (nrem - (m+1)) p (m+1) 0)).2.2+1)) (ev lt (kas_desc (nrem - (m+1)) p (m+1) 0)).2.1) else kas_tail3 (ev lt (kas_desc (nrem - (m+1)) p (m+1) 0)).2.1 nrem (ev lt (kas_desc (nrem - (m+1)) p (m+1) 0)).1):=ev_bind lt _ _
 rw [e]
 generalize ev lt (kas_desc (nrem - (m+1)) p (m+1) 0)=x at a b s d k
 by_cases hq:x.2.2 > 0
 ·rw [if_pos hq]
  exact ev_tail3 O (by omega) (by omega) (by rw [rev_size];omega) (Dto.eqv O d fun i _=>rev_blk O (by omega) k i)
 ·rw [if_neg hq]
  exact ev_tail3 O (by omega) (by omega) (by omega) d
theorem ev_count {p:Array Nat} {nrem:Nat} (h1:1≤nrem) (hz:nrem≤p.size):let r:=ev lt (kas_count nrem p);1≤r.1∧r.1≤nrem∧Sto lt r.2 r.1:=by
 intro r
 have s1:Sto lt p 1:=fun i j hij hj=>by
  have a:i=0:=by omega
  have b:j=0:=by omega
  subst a b;exact irr O _
 obtain ⟨a,b,c,e⟩:=ev_asc O (p:=p) (nrem - 1) 1 (Nat.le_refl _) s1
 have er:r=ev lt ((fun n=>if (n==nrem)=true then KasT.ret (n,p) else if n > 1 then KasT.ask (p.getD 0 0) (p.getD (n - 1) 0) fun c=>if c=true then KasT.ret (n,p) else kas_descPart n nrem (kas_rev p 0 n) else kas_descPart n nrem p) (ev lt (kas_asc p (nrem - 1) 1))):=ev_bind lt _ _
 rw [er]
 generalize ev lt (kas_asc p (nrem - 1) 1)=m at a b c e
 dsimp only
 by_cases h2:(m==nrem)=true
 ·rw [if_pos h2]
  exact ⟨a,by show m≤nrem;omega,c⟩
 ·rw [if_neg h2]
  have hm:m<nrem:=by
   have:m≠nrem:=by simpa using h2
   omega
  have last:=e (by omega)
  by_cases h3:m > 1
  ·rw [if_pos h3]
   show let r:=ev lt (if lt (g p 0) (g p (m - 1))=true then KasT.ret (m,p) else kas_descPart m nrem (kas_rev p 0 m));1≤r.1∧r.1≤nrem∧Sto lt r.2 r.1
   by_cases h4:lt (g p 0) (g p (m - 1))=true
   ·rw [if_pos h4]
    exact ⟨a,by show m≤nrem;exact Nat.le_of_lt (by assumption),c⟩
   ·rw [if_neg h4]
    have h4:lt (g p 0) (g p (m - 1))=false:=by simpa using h4
    have all:∀i j,i<m→j<m→lt (g p i) (g p j)=false:=fun i j hi hj=>O.ntr _ _ _ (O.ntr _ _ _ (c 0 i (by exact Nat.zero_le _) hi) h4) (c j (m - 1) (by omega) (by exact Nat.sub_lt (by assumption) (by decide)))
    have blk:Blk lt p m (m - 1):=⟨by exact Nat.sub_lt (by assumption) (by decide),fun i j _ i2 _ j2=>⟨all i j i2 j2,all j i j2 i2⟩⟩
    have d1:Dto lt p (m+1):=fun i j hij hj=>by
     by_cases z:j=m
     ·subst z
      by_cases z2:i=j
      ·subst z2;exact irr O _
      ·exact O.ntr _ _ _ (all i (j - 1) (by omega) (by exact Nat.sub_lt (by assumption) (by decide))) (O.asym _ _ last)
     ·exact all i j (by omega) (by omega)
    have rb:=rev_blk O (by omega) blk
    rw [show m - (m - 1+1)=0 by omega] at rb
    exact ev_descPart O (by assumption) (by rw [rev_size];assumption) (Dto.eqv O d1 fun i _=>rb i)
  ·rw [if_neg h3]
   have:m=1:=by omega
   subst this
   refine ev_descPart O (by assumption) hz fun i j hij hj=> ?_
   by_cases z:i=j
   ·subst z;exact irr O _
   ·have a0:i=0:=by omega
    have b1:j=1:=by omega
    subst a0 b1
    exact O.asym _ _ last
theorem ev_place {p:Array Nat} {k:Nat}:∀f l r,r - l≤f→l≤r→r≤k→(∀i,i<l→lt (g p k) (g p i)=false)→(∀i,r≤i→i<k→lt (g p k) (g p i)=true)→Sto lt p k→
  let x:=ev lt (kas_place p k f l r);x≤k∧(∀i,i<x→lt (g p k) (g p i)=false)∧∀i,x≤i→i<k→lt (g p k) (g p i)=true
 |0,l,r,hf,hlr,hrk,h1,h2,_=>by
  have:l=r:=by omega
  subst this
  exact ⟨hrk,h1,h2⟩
 |f+1,l,r,hf,hlr,hrk,h1,h2,hs=>by
  intro x
  by_cases hl:l ≥ r
  ·have e:x=l:=by
    show ev lt (if l ≥ r then KasT.ret l else _)=l
    rw [if_pos hl];rfl
   have:l=r:=by omega
   subst this
   rw [e]
   exact ⟨hrk,h1,h2⟩
  ·by_cases c:lt (g p k) (g p ((l+r) / 2))=true
   ·have e:x=ev lt (kas_place p k f l ((l+r) / 2)):=by
     show ev lt (if l ≥ r then KasT.ret l else KasT.ask _ _ fun c=>if c=true then _ else _)=_
     rw [if_neg hl]
     show ev lt (if lt (g p k) (g p ((l+r) / 2))=true then _ else _)=_
     rw [if_pos c]
    rw [e]
    refine ev_place f l ((l+r) / 2) (by omega) (by omega) (by omega) h1 (fun i i1 i2=> ?_) hs
    cases z:lt (g p k) (g p i) with
    |true=>rfl
    |false=>
     have:=O.ntr _ _ _ z (hs ((l+r) / 2) i i1 i2)
     rw [c] at this;cases this
   ·have c':lt (g p k) (g p ((l+r) / 2))=false:=by simpa using c
    have e:x=ev lt (kas_place p k f ((l+r) / 2+1) r):=by
     show ev lt (if l ≥ r then KasT.ret l else KasT.ask _ _ fun c=>if c=true then _ else _)=_
     rw [if_neg hl]
     show ev lt (if lt (g p k) (g p ((l+r) / 2))=true then _ else _)=_
     rw [if_neg c]
    rw [e]
    refine ev_place f ((l+r) / 2+1) r (by omega) (by omega) hrk (fun i i1=>O.ntr _ _ _ c' (hs i ((l+r) / 2) (by omega) (by omega))) h2 hs
theorem ev_bin:∀f {p:Array Nat} (k:Nat),k+f=p.size→Sto lt p k→Sto lt (ev lt (kas_bin f p k)) p.size
 |0,p,k,hz,hs=>by
  have:k=p.size:=by assumption
  subst this;exact hs
 |f+1,p,k,hz,hs=>by
  have e:ev lt (kas_bin (f+1) p k)=ev lt (kas_bin f (bubble p k (k - ev lt (kas_place p k k 0 k))) (k+1)):=ev_bind lt _ _
  obtain ⟨x1,x2,x3⟩:=ev_place O (p:=p) (k:=k) k 0 k (by exact Nat.le_refl _) (by exact Nat.zero_le _) (Nat.le_refl _) (fun i hi=>by omega) (fun i i1 i2=>by omega) hs
  rw [e]
  generalize ev lt (kas_place p k k 0 k)=x at x1 x2 x3
  have hs':Sto lt (bubble p k (k - x)) (k+1):=fun i j hij hj=>by
   rw [g_bub (by omega) (by exact Nat.sub_le _ _),g_bub (by omega) (by exact Nat.sub_le _ _),show k - (k - x)=x by omega]
   by_cases j1:j=x
   ·rw [if_pos j1]
    by_cases i1:i=x
    ·rw [if_pos i1];exact irr O _
    ·rw [if_neg i1,if_neg (by omega)]
     exact x2 i (by omega)
   ·rw [if_neg j1]
    by_cases j2:x<j∧j≤k
    ·rw [if_pos j2]
     by_cases i1:i=x
     ·rw [if_pos i1];exact O.asym _ _ (x3 (j - 1) (by omega) (by omega))
     ·rw [if_neg i1]
      by_cases i2:x<i∧i≤k
      ·rw [if_pos i2];exact hs (i - 1) (j - 1) (by omega) (by omega)
      ·rw [if_neg i2];exact hs i (j - 1) (by omega) (by omega)
    ·rw [if_neg j2,if_neg (by omega),if_neg (by omega)]
     exact hs i j hij (by omega)
  have:=ev_bin f (p:=bubble p k (k - x)) (k+1) (by rw [bubble_size];omega) hs'
  rw [bubble_size] at this
  exact this
theorem ev_sort {n:Nat} (h1:1≤n):Sto lt (ev lt (kas_sort n)) n:=by
 have hz:(List.range n).toArray.size=n:=by simp
 have e:ev lt (kas_sort n)=ev lt ((fun r:Nat×Array Nat=>if r.1<n then kas_bin (n - max r.1 1) r.2 (max r.1 1) else .ret r.2) (ev lt (kas_count n (List.range n).toArray))):=ev_bind lt _ _
 obtain ⟨a,b,c⟩:=ev_count O (p:=(List.range n).toArray) h1 (by omega)
 have pm:Pm n (ev lt (kas_count n (List.range n).toArray)).2:=(asks_count (by assumption) n (Array.Perm.refl _)).ev lt
 rw [e]
 generalize ev lt (kas_count n (List.range n).toArray)=r at a b c pm
 dsimp only
 have sz:=pm.size
 by_cases h:r.1<n
 ·rw [if_pos h,show max r.1 1=r.1 by omega]
  have:=ev_bin O (n - r.1) (p:=r.2) r.1 (by omega) c
  rw [sz] at this
  exact this
 ·rw [if_neg h]
  have:r.1=n:=by omega
  rw [this] at c
  exact c
end
end Srt
namespace Srt
open PySem PySem.W PyProof.Rows
section
variable {prog:Program} {w:World} {A:Around} {E:Value→Shared→Prop} {s:Shared}
theorem list_sort_raw {κ:SortKind} {lt:Nat→Nat→Bool} (O:Ord lt) {a:Addr} {vs:List Value} {n:Nat} {P:PySem.Fin→Shared→Prop} (ho:s.heap.get? a=some (seqObj "list" vs.toArray n)) (h64:vs.length<64)
  (hk:∀h',(∀b o,b≠a→s.heap.get? b=some o→h'.get? b=some o)→2≤vs.length→∀Q:SortKind→Shared→Prop,Q κ {s with heap:=h'}→wpAny (model prog w) A (keyKind' vs.toArray) Q E {s with heap:=h'})
  (hc:∀h',(∀b o,b≠a→s.heap.get? b=some o→h'.get? b=some o)→∀i j (C:Bool→Shared→Prop),i<vs.length→j<vs.length→C (lt i j) {s with heap:=h'}→kas_ask prog w A κ vs i j C {s with heap:=h'})
  (h:∀p:Array Nat,Pm vs.length p→Sto lt p vs.length→P (.done (.ret .none)) {s with heap:=sortedHeap s.heap a vs (p.toList.map fun i=>vs.getD i Value.none).toArray}):
  wpAny (model prog w) A (Builtin.«list.sort» ⟨[.ref a],[]⟩) P E s:=by
 rw [list_sort_plain]
 have ha:a<s.heap.objs.size:=Heap.lt_size ho
 refine wpAny_bind (listItems_at ho rfl ?_)
 refine wpAny_bind (listUpdate_at ho rfl ?_ (by rw [List.size_toArray,sizeLine_eq];omega) (Nat.zero_le _))
 obtain ⟨e1,ho1⟩:∃e1,(s.heap.update a (Obj.mapSeq fun _=> #[])).get? a=some (seqObj "list" #[] e1):=⟨_,get?_update_seq ho (fun _=> #[])⟩
 refine wpAny_bind (seqEpoch_at ho1 rfl ?_)
 refine wpAny_bind (wpAny_newTuple ?_ (by show vs.length≤_;rw [sizeLine_eq];omega))
 refine wpAny_bind (wpAny_newList ?_ (Nat.zero_le _))
 refine wpAny_holding ?_
 have keep:∀b o,b≠a→s.heap.get? b=some o→(((s.heap.update a (Obj.mapSeq fun _=> #[])).push (seqObj "tuple" vs.toArray 0)).push (seqObj "list" #[] 0)).get? b=some o:=fun b o ne q=>by
  have hlt:b<s.heap.objs.size:=Heap.lt_size q
  rw [Heap.get?_push_ne _ _ _ (by rw [size_push',Heap.size_update];exact Nat.ne_of_lt (Nat.lt_succ_of_lt hlt)),Heap.get?_push_ne _ _ _ (by rw [Heap.size_update];exact Nat.ne_of_lt hlt),Heap.get?_update_ne _ _ _ _ ne]
  exact q
 have ho6:(((s.heap.update a (Obj.mapSeq fun _=> #[])).push (seqObj "tuple" vs.toArray 0)).push (seqObj "list" #[] 0)).get? a=some (seqObj "list" #[] e1):=by
  rw [Heap.get?_push_ne _ _ _ (by rw [size_push',Heap.size_update];exact Nat.ne_of_lt (Nat.lt_succ_of_lt ha)),Heap.get?_push_ne _ _ _ (by rw [Heap.size_update];exact Nat.ne_of_lt ha)]
  exact ho1
 show wpAny (model prog w) A _ P E {s with heap:=((s.heap.update a (Obj.mapSeq fun _=> #[])).push (seqObj "tuple" vs.toArray 0)).push (seqObj "list" #[] 0)}
 dsimp only
 have hsz:vs.toArray.size=vs.length:=by simp
 by_cases h2:vs.toArray.size<2
 ·rw [if_pos h2,if_pos h2]
  refine wpAny_bind (wpAny_pure ?_)
  rw [StateT.run_pure]
  refine wpAny_bind (wpAny_pure ?_)
  dsimp only
  refine wpAny_bind (seqEpoch_at ho6 rfl ?_)
  refine wpAny_bind (listUpdate_at ho6 rfl ?_ (hsz2:=by rw [Array.size_map];show (pairsOf vs).size≤_;rw [pairsOf_size,sizeLine_eq];omega))
  simp only [bne_self_eq_false,Bool.false_eq_true,if_false]
  have fin:=h (List.range vs.length).toArray (Array.Perm.refl _) (fun i j hij hj=>by
   have:i=j:=by omega
   subst this;exact irr O _)
  have e:(List.range vs.length).toArray.toList.map (fun i=>vs.getD i Value.none)=vs:=by
   refine List.ext_getElem? fun i=> ?_
   simp only [List.getElem?_map]
   by_cases hi:i<vs.length
   ·simp [hi]
   ·simp [Nat.le_of_not_lt hi]
  rw [e] at fin
  have e2:(Array.map (fun x=>x.snd) (vs.toArray.zip vs.toArray))=vs.toArray:=by
   apply Array.toList_inj.mp
   simp [List.map_snd_zip]
  rw [show Array.map (fun x:Keyed=>x.snd) (arrOf (SortSt.mk' general' (vs.toArray.zip vs.toArray) #[] 7 none))=vs.toArray from e2]
  exact wpAny_pure fin
 ·rw [if_neg h2,if_neg h2]
  have h2':2≤vs.length:=by rw [hsz] at h2;exact Nat.not_lt.mp (by assumption)
  refine wpAny_bind (hk _ keep h2' _ ?_)
  refine wpAny_bind (wpAny_mono (kat_run (ks:=vs) (vs:=vs) (κ:=κ) (Q:=fun st' s'=>∃p:Array Nat,s'={s with heap:=((s.heap.update a (Obj.mapSeq fun _=> #[])).push (seqObj "tuple" vs.toArray 0)).push (seqObj "list" #[] 0)}∧Pm vs.length p∧Sto lt p vs.length∧arrOf st'=p.map (kas_item (vs.toArray.zip vs.toArray))∧failedOf st'=none)
   rfl h2' h64 (G:=fun p s'=>s'={s with heap:=((s.heap.update a (Obj.mapSeq fun _=> #[])).push (seqObj "tuple" vs.toArray 0)).push (seqObj "list" #[] 0)}∧Pm vs.length p∧Sto lt p vs.length) (fun p st' s' a1 a2 a3 a4=>⟨p,a4.1,a4.2.1,a4.2.2,a2,a3⟩) ?_) ?_ fun _ _ e=>e)
  ·exact AsksP.wp (lt:=lt) (hc _ keep) (asks_sort (by exact Nat.le_of_lt (by assumption))) ⟨rfl,(asks_sort (by exact Nat.le_of_lt (by assumption))).ev lt,ev_sort O (by exact Nat.le_of_lt (by assumption))⟩
  ·rintro ⟨⟨⟩,st'⟩ s' ⟨p,rfl,hp,hs,har,hf⟩
   dsimp only
   rw [kat_snds rfl har]
   refine wpAny_bind (seqEpoch_at ho6 rfl ?_)
   refine wpAny_bind (listUpdate_at ho6 rfl ?_ (Nat.zero_le _) (by rw [List.size_toArray,List.length_map,Array.length_toList,hp.size,sizeLine_eq];omega))
   rw [hf]
   simp only [bne_self_eq_false,Bool.false_eq_true,if_false]
   exact wpAny_pure (h p hp hs)
theorem sorted_raw {κ:SortKind} {lt:Nat→Nat→Bool} (O:Ord lt) {v:Value} (I:List Value→Prop) {Q:Value→Shared→Prop} (h64:∀vs,I vs→vs.length<64)
  (hcol:∀(Q:List Value→Shared→Prop),(∀vs h1 t1,I vs→(∀b o,s.heap.get? b=some o→h1.get? b=some o)→Q vs {s with heap:=h1,toks:=t1})→wpAny (model prog w) A.in1 (collect v) Q E s)
  (hk:∀vs h' t',I vs→(∀b o,s.heap.get? b=some o→h'.get? b=some o)→2≤vs.length→∀Q:SortKind→Shared→Prop,Q κ {s with heap:=h',toks:=t'}→wpAny (model prog w) A.in1.in1 (keyKind' vs.toArray) Q E {s with heap:=h',toks:=t'})
  (hc:∀vs h' t',I vs→(∀b o,s.heap.get? b=some o→h'.get? b=some o)→∀i j (C:Bool→Shared→Prop),i<vs.length→j<vs.length→C (lt i j) {s with heap:=h',toks:=t'}→kas_ask prog w A.in1.in1 κ vs i j C {s with heap:=h',toks:=t'})
  (h:∀vs (p:Array Nat) (h1 h':Heap) t' l e,I vs→Pm vs.length p→Sto lt p vs.length→(∀b o,s.heap.get? b=some o→h1.get? b=some o)→(∀b o,h1.get? b=some o→h'.get? b=some o)→h1.objs.size≤l→h'.get? l=some (seqObj "list" (p.toList.map fun i=>vs.getD i Value.none).toArray e)→Q (.ref l) {s with heap:=h',toks:=t'}):
  wpAny (model prog w) A (call (.builtin "sorted") [v]) Q E s:=by
 refine Calls.call_function_entry kind_sorted plain_sorted entry_sorted (args_sorted1 _) ?_
 unfold Builtin.«sorted»
 refine wpAny_bind (m:=checkCount "sorted" 1 1 _) (wpAny_pure ?_)
 refine wpAny_bind (hcol _ fun vs h1 t1 hI k1=> ?_)
 have h64:=h64 vs hI
 refine wpAny_bind (wpAny_newList ?_ (by rw [sizeLine_eq];omega))
 have hoL:(h1.push (seqObj "list" vs.toArray 0)).get? h1.objs.size=some (seqObj "list" vs.toArray 0):=Heap.get?_push_size _ rfl
 show wpAny _ _ _ _ _ {s with heap:=h1.push (seqObj "list" vs.toArray 0),toks:=t1}
 have k3:∀b o,h1.get? b=some o→b≠h1.objs.size∧(h1.push (seqObj "list" vs.toArray 0)).get? b=some o:=fun b o q=>
  ⟨Nat.ne_of_lt (Heap.lt_size q),Heap.get?_push_of_some _ q⟩
 have k2:∀b o,s.heap.get? b=some o→b≠h1.objs.size∧(h1.push (seqObj "list" vs.toArray 0)).get? b=some o:=fun b o q=>k3 b o (k1 b o q)
 refine wpAny_bind (wpAny_holding (wpAny_call_entry slot_list_sort ⟨_,hoL,rfl⟩ entry_list_sort (list_sort_raw (s:={s with heap:=h1.push (seqObj "list" vs.toArray 0),toks:=t1}) (κ:=κ) O hoL h64 (fun h' k l2 Q q=> ?_) (fun h' k i j C hi hj q=> ?_) fun p hp hs=>⟨_,rfl,?_⟩) (args_list_sort _)))
 ·exact hk vs h' t1 hI (fun b o q=>k b o (k2 b o q).1 (k2 b o q).2) l2 Q q
 ·exact hc vs h' t1 hI (fun b o q=>k b o (k2 b o q).1 (k2 b o q).2) i j C hi hj q
 ·refine wpAny_pure ⟨_,rfl,?_⟩
  have hz:h1.objs.size<(h1.push (seqObj "list" vs.toArray 0)).objs.size:=by rw [size_push'];exact Nat.lt_succ_self _
  obtain ⟨e,he⟩:∃e,(sortedHeap (h1.push (seqObj "list" vs.toArray 0)) h1.objs.size vs (p.toList.map fun i=>vs.getD i Value.none).toArray).get? h1.objs.size=some (seqObj "list" (p.toList.map fun i=>vs.getD i Value.none).toArray e):=by
   unfold sortedHeap
   obtain ⟨e1,ho1⟩:∃e1,((h1.push (seqObj "list" vs.toArray 0)).update h1.objs.size (Obj.mapSeq fun _=> #[])).get? h1.objs.size=some (seqObj "list" #[] e1):=⟨_,get?_update_seq hoL (fun _=> #[])⟩
   have ho6:((((h1.push (seqObj "list" vs.toArray 0)).update h1.objs.size (Obj.mapSeq fun _=> #[])).push (seqObj "tuple" vs.toArray 0)).push (seqObj "list" #[] 0)).get? h1.objs.size=some (seqObj "list" #[] e1):=by
    exact Heap.get?_push_of_some _ (Heap.get?_push_of_some _ ho1)
   exact ⟨_,get?_update_seq ho6 fun _=>_⟩
  refine h vs p h1 _ t1 h1.objs.size e hI hp hs k1 (fun b o q=> ?_) (Nat.le_refl _) he
  have q2:=k3 b o q
  unfold sortedHeap
  rw [Heap.get?_update_ne _ _ _ _ q2.1]
  refine Heap.get?_push_of_some _ (Heap.get?_push_of_some _ ?_)
  rw [Heap.get?_update_ne _ _ _ _ q2.1]
  exact q2.2
end
end Srt
namespace Srt
open PySem PySem.W PyProof.Rows L2
def ltK:Key→Key→Bool
 | .inl a,.inl b=>decide (a<b)
 | .inr a,.inr b=>decide (a.cps.toList<b.cps.toList)
 | .inl _,.inr _=>true
 | .inr _,.inl _=>false
def ltR:List Key→List Key→Bool
 |x::xs,y::ys=>if x=y then ltR xs ys else ltK x y
 |[],_::_=>true
 |_,[]=>false
theorem str_ext {a b:Str} (h:a.cps.toList=b.cps.toList):a=b:=by
 cases a;cases b;simp at h;rw [h]
theorem ltK_irr:∀a,ltK a a=false
 | .inl a=>by simp [ltK]
 | .inr a=>by simp [ltK,List.lt_irrefl]
theorem ltK_tr:∀{a b c},ltK a b=true→ltK b c=true→ltK a c=true
 | .inl a,.inl b,.inl c,h1,h2=>by simp only [ltK,decide_eq_true_eq] at *;omega
 | .inr a,.inr b,.inr c,h1,h2=>by simp only [ltK,decide_eq_true_eq] at *;exact List.lt_trans h1 h2
 | .inl _,.inl _,.inr _,_,_=>rfl
 | .inl _,.inr _,.inr _,_,_=>rfl
 | .inl _,.inr _,.inl _,_,h2=>by simp [ltK] at h2
 | .inr _,.inl _,_,h1,_=>by simp [ltK] at h1
 | .inr _,.inr _,.inl _,_,h2=>by simp [ltK] at h2
theorem ltK_tri:∀a b,ltK a b=false→a=b∨ltK b a=true
 | .inl a,.inl b,h=>by
  simp only [ltK,decide_eq_true_eq,decide_eq_false_iff_not] at *
  rcases Int.lt_trichotomy a b with x|x|x
  ·exact absurd x h
  ·exact .inl (by rw [x])
  ·exact .inr x
 | .inr a,.inr b,h=>by
  simp only [ltK,decide_eq_true_eq,decide_eq_false_iff_not] at *
  by_cases e:b.cps.toList<a.cps.toList
  ·exact .inr e
  ·exact .inl (congrArg Sum.inr (str_ext (List.le_antisymm (List.not_lt.mp e) (List.not_lt.mp h))))
 | .inl _,.inr _,h=>by simp [ltK] at h
 | .inr _,.inl _,_=> .inr rfl
theorem ltR_irr:∀a,ltR a a=false
 |[]=>rfl
 |x::xs=>by simp [ltR,ltR_irr xs]
theorem ltR_tr:∀{a b c},ltR a b=true→ltR b c=true→ltR a c=true
 |_,[],_,h,_=>by simp [ltR] at h
 |_,_::_,[],_,h=>by simp [ltR] at h
 |[],_::_,_::_,_,_=>rfl
 |x::xs,y::ys,z::zs,h1,h2=>by
  unfold ltR at h1 h2 ⊢
  by_cases e1:x=y
  ·subst e1
   rw [if_pos rfl] at h1
   by_cases e2:x=z
   ·rw [if_pos e2] at h2 ⊢;exact ltR_tr h1 h2
   ·rw [if_neg e2] at h2 ⊢;exact h2
  ·rw [if_neg e1] at h1
   by_cases e2:y=z
   ·subst e2
    rw [if_neg e1];exact h1
   ·rw [if_neg e2] at h2
    have:=ltK_tr h1 h2
    rw [if_neg (fun e=>by rw [e,ltK_irr] at this;cases this)]
    exact this
theorem ltR_tri:∀a b,ltR a b=false→a=b∨ltR b a=true
 |[],[],_=> .inl rfl
 |[],_::_,h=>by simp [ltR] at h
 |_::_,[],_=> .inr rfl
 |x::xs,y::ys,h=>by
  unfold ltR at h ⊢
  by_cases e:x=y
  ·subst e
   rw [if_pos rfl] at h ⊢
   rcases ltR_tri xs ys h with r|r
   ·exact .inl (by rw [r])
   ·exact .inr r
  ·rw [if_neg e] at h
   rw [if_neg (fun z=>e z.symm)]
   exact .inr ((ltK_tri _ _ h).resolve_left e)
theorem ord_rows (f:Nat→List Key):Ord fun i j=>ltR (f i) (f j) where
 asym:=fun a b h=>by
  cases e:ltR (f b) (f a) with
  |false=>rfl
  |true=>have:=ltR_tr h e;rw [ltR_irr] at this;cases this
 ntr:=fun a b c h1 h2=>by
  cases e:ltR (f a) (f c) with
  |false=>rfl
  |true=>
   rcases ltR_tri _ _ h1 with r|r
   ·rw [r,h2] at e;cases e
   ·have:=ltR_tr r e;rw [h2] at this;cases this
def isL:Key→Bool
 | .inl _=>true
 | .inr _=>false
section
variable {prog:Program} {w:World} {A:Around} {E:Value→Shared→Prop} {s:Shared}
theorem key_lt:∀{x y:Key} {u v:Value} {b:Bool} {C:Bool→Shared→Prop},isL x=isL y→RelV (kV x) u→RelV (kV y) v→C (ltK x y) s→wpAny (model prog w) A (oneLt' b u v) C E s
 | .inl a,.inl c,_,_,true,C,_,⟨t,rfl⟩,⟨t',rfl⟩,h=>oneLt_int h
 | .inl a,.inl c,_,_,false,C,_,⟨t,rfl⟩,⟨t',rfl⟩,h=>kat_one _ _ (PyProof.Rows.lt_int (show PySem.W.BoolBack C _ s from h))
 | .inr a,.inr c,_,_,true,C,_,⟨t,rfl⟩,⟨t',rfl⟩,h=>oneLt_str h
 | .inr a,.inr c,_,_,false,C,_,⟨t,rfl⟩,⟨t',rfl⟩,h=>kat_one _ _ (PySem.P.lt_str (show PySem.W.BoolBack C _ s from h))
 | .inl _,.inr _,_,_,_,_,h,_,_,_=>by cases h
 | .inr _,.inl _,_,_,_,_,h,_,_,_=>by cases h
end
theorem Pm.toList {n:Nat} {p:Array Nat} (h:Pm n p):p.toList.Perm (List.range n):=by
 have:=(Array.perm_iff_toList_perm).mp h
 simpa using this
theorem map_range_getD {α:Type} (l:List α) (d:α):(List.range l.length).map (fun i=>l.getD i d)=l:=by
 refine List.ext_getElem? fun i=> ?_
 simp only [List.getElem?_map]
 by_cases hi:i<l.length
 ·simp [hi]
 ·simp [Nat.le_of_not_lt hi]
theorem Sto.pairwise {lt:Nat→Nat→Bool} {p:Array Nat} {n:Nat} (hz:p.size=n) (h:Sto lt p n):p.toList.Pairwise fun i j=>lt j i=false:=by
 rw [List.pairwise_iff_getElem]
 intro i j hi hj hij
 have:=h i j (Nat.le_of_lt hij) (by simpa [←hz] using hj)
 simp only [Array.length_toList] at hi hj
 have e1:g p i=p.toList[i]:=by simp [g,Array.getD,hi]
 have e2:g p j=p.toList[j]:=by simp [g,Array.getD,hj]
 rw [e1,e2] at this
 exact this
theorem vals_map {α:Type} (f:α→V) (f':α→Value) (hf:∀a,RelV (f a) (f' a)):∀l:List α,Vals (l.map f) (l.map f')
 |[]=> .nil
 |a::l=> .cons (hf a) (vals_map f f' hf l)
end Srt
namespace Srt
open PySem PySem.W PyProof.Rows L2
end Srt
namespace Srt
open PySem PySem.W PyProof.Rows L2
end Srt
namespace L2
open PySem PySem.Spec PyProof.Rows
def Itd (lo:Int) (n:Nat):It:=⟨fun i _=>i<n,fun i H x H'=>H'=H∧x= .int (lo - i),fun i _=>n≤i⟩
theorem turn_rangeD {P:Program} {w:World} {K:PySem.W.Frag} {tg:Expr} (it:Addr) (lo:Int) (n:Nat):Turn P w K tg (Itd lo n) [it] it (fun i h=>IsRangeIter h it (lo+(i:Nat) * (-1)) ((n:Int) - (i:Nat)) (-1)) where
 mem:=by simp
 obj:=fun i h st b hb=>by
  have e:b=it:=by simpa using hb
  subst e
  exact ⟨_,st,fun v z=>by
   have z':Data.fields _=Data.cell v:=z
   cases z'⟩
 keep:=fun i h h' st k=>k it (by simp) _ st
 item:=by
  intro X hP hw hK hc i pins s σ H E I hf st hg
  subst hP hw hK
  obtain ⟨f0,f1,f2,f3,f4,f5⟩:=hf it (by simp)
  have W:=Walks.range (prog:=X.prog) (w:=X.w) (I.ok.hd hc) it lo (-1) n
  refine W.item i s _ _ hg st fun v h' tk hv st' kk=> ?_
  obtain ⟨t,rfl⟩:=hv
  have I1:Inv X pins σ H {s with heap:=h',toks:=tk}:=I.turned (fun b o hb e=>kk b o (by simpa using hb) e) f0 f1 f3 f4 f5
  refine ⟨_,rfl,go_of (s:={s with heap:=h',toks:=tk}) (n:="range_iterator") st' rfl rfl (by decide) ⟨.int (lo - i),H,I1,⟨t,?_⟩,⟨rfl,rfl⟩,st',fun b hb=>(hf b hb).1⟩⟩
  rw [show lo+(i:Int) * (-1)=lo - i by omega]
 done:=by
  intro X hP hw hK hc i pins s σ H E I hf st hg
  subst hP hw hK
  obtain ⟨f0,f1,f2,f3,f4,f5⟩:=hf it (by simp)
  exact wpAny_pyNext_range_end (I.ok.hd hc) st (by have:n≤i:=hg;omega) fun h' eb=>⟨rfl,I.turned (t':=s.toks) (fun b o hb e=>eb b o hb e) f0 f1 f3 f4 f5⟩
 self:=fun _ _ _ _ _ st h=>wpAny_pyIter_rangeiter st h
theorem rangeSize_down (a b:Int):Builtin.Range.rangeSize a b (-1)=if b<a then a - b else 0:=by
 unfold Builtin.Range.rangeSize
 simp only [show ¬((-1:Int) > 0) by decide,if_false,show (- (-1:Int))=1 by decide,Int.ediv_one]
 split<;> omega
theorem small_down {a b:Int} (ha: -(2 ^ 62)≤a) (ha':a<2 ^ 62) (hb: -(2 ^ 62)≤b) (hb':b<2 ^ 62):Builtin.Range.small a b (-1)=true:=by
 unfold Builtin.Range.small
 rw [rangeSize_down]
 simp only [Builtin.Range.rangeFitsLong,Bool.and_eq_true,Bool.or_eq_true,decide_eq_true_eq,beq_iff_eq,show ¬((-1:Int) > 0) by decide,if_false]
 split<;> omega
section
variable {X:Cx} {tg:Expr}
theorem range_itD {pins:List (Addr×Obj)} {σ:St} {H:Hp} {s:Shared} {R:It→Hp→Prop} {E:Value→Shared→Prop} {lo hi:Int} {t u v:Tok} {tk:Nat} (I:Inv X pins σ H s) (h1: -(2 ^ 62)≤lo) (h2:lo<2 ^ 62) (h3: -(2 ^ 62)≤hi) (h4:hi<2 ^ 62)
  (q:R (Itd lo (lo - hi).toNat) H):wpAny (model X.prog X.w) X.A (pyIter (.ref s.heap.objs.size)) (PIE X pins σ tg R) E {s with heap:=s.heap.push {cls:= .type "range",data:= .fields #[.int lo t,.int hi u,.int (-1) v]},toks:=tk}:=by
 refine wpAny_pyIter_range (IsRange.new ..) (small_down h1 h2 h3 h4) ?_
 have I1:Inv X pins σ H {s with heap:=s.heap.push {cls:= .type "range",data:= .fields #[.int lo t,.int hi u,.int (-1) v]},toks:=tk}:=I.kept fun b o e=>Heap.get?_push_of_some _ e
 refine ⟨(s.heap.push {cls:= .type "range",data:= .fields #[.int lo t,.int hi u,.int (-1) v]}).objs.size,[(s.heap.push {cls:= .type "range",data:= .fields #[.int lo t,.int hi u,.int (-1) v]}).objs.size],_,_,H,rfl,
  I1.kept (t':=tk) fun b o e=>Heap.get?_push_of_some _ e,turn_rangeD _ lo (lo - hi).toNat,?_,fun b hb=> ?_,q⟩
 ·have e1:lo+((0:Nat):Int) * (-1)=lo:=by simp
  have e2:(((lo - hi).toNat:Nat):Int) - ((0:Nat):Int)=Builtin.Range.rangeSize lo hi (-1):=by rw [rangeSize_down];split<;> omega
  show IsRangeIter _ _ (lo+((0:Nat):Int) * (-1)) ((((lo - hi).toNat:Nat):Int) - ((0:Nat):Int)) (-1)
  rw [e1,e2]
  exact Heap.get?_push_size _ rfl
 ·have e:b=(s.heap.push {cls:= .type "range",data:= .fields #[.int lo t,.int hi u,.int (-1) v]}).objs.size:=by simpa using hb
  subst e
  exact I1.fpOk (Nat.le_refl _) (I1.hok.fresh (Nat.le_refl _))
def iRngD (ta:TA):TI:=fun σ H R=>ta σ H fun vs H1=>∃i j:Int,vs=[.int i,.int j,.int (-1)]∧(-(2 ^ 62)≤i∧i<2 ^ 62∧ -(2 ^ 62)≤j∧j<2 ^ 62)∧R (Itd i (i - j).toNat) H1
theorem pi_rangeD {a b c:Expr} {ta:TA} {p pos:Pos} (hg:Gl X "range") (hm:X.mg "range"=none) (ha:PA X [a,b,c] ta) (hs:starEach [a,b,c] X.env=[(false,eval a X.env),(false,eval b X.env),(false,eval c X.env)]:=by rfl) (hs2:starEach [b,c] X.env=[(false,eval b X.env),(false,eval c X.env)]:=by rfl):
  PI X tg (.Call (.Name "range" p) [a,b,c] [] pos) (iRngD ta):=by
 intro pins s σ H R I h
 refine Call_ (ld_blt I hg hm boot_range (PyProof.Rows.callWith_type1 (thn (ha pos pins s σ H _ I h) fun us s1 ⟨vs,H1,I1,r1,q1⟩=> ?_) (by rw [hs,hs2]) (by rw [hs2];rfl)))
 obtain ⟨i,j,e,⟨q1,q2,q3,q4⟩,q⟩:=q1
 subst e
 cases r1 with
 |cons r rr=>
  cases rr with
  |cons r' rr=>
   cases rr with
   |cons r2 rr=>
    cases rr
    obtain ⟨t,rfl⟩:=r
    obtain ⟨t',rfl⟩:=r'
    obtain ⟨t2,rfl⟩:=r2
    exact call_range_3 (by decide) (range_itD I1 q1 q2 q3 q4 q)
end
theorem for_rangeD {lo:Int} {n:Nat} {g:TG} {tb:TS} {D:Ends} {σ:St} {H:Hp} (Pv:Nat→St→Hp→Prop) (h0:Pv 0 σ H)
  (hs:∀i σ H,i<n→Pv i σ H→g (.int (lo - i)) σ H fun σ2 H2=>tb {D with nx:=Pv (i+1),ct:=Pv (i+1),bk:=D.nx} σ2 H2) (hd:∀σ H,Pv n σ H→D.nx σ H):
  ∃W:Nat→Nat→St→Hp→Prop,(∃m,W 0 m σ H)∧∀i m σ H,W i m σ H→
   ((Itd lo n).stop i H∧D.nx σ H)∨((Itd lo n).go i H∧∃N:St→Hp→Prop,(∀σ' H',N σ' H'→∃m',m'<m∧W (i+1) m' σ' H')∧∀x H',(Itd lo n).yld i H x H'→g x σ H' fun σ2 H2=>tb {D with nx:=N,ct:=N,bk:=D.nx} σ2 H2):=by
 refine ⟨fun i m σ H=>m=n - i∧i≤n∧Pv i σ H,⟨n,by simp,Nat.zero_le _,h0⟩,?_⟩
 rintro i m σ H ⟨rfl,hi,p⟩
 by_cases hlt:i<n
 ·refine .inr ⟨hlt,Pv (i+1),fun σ' H' p'=>⟨n - (i+1),by omega,rfl,hlt,p'⟩,fun x H' y=> ?_⟩
  obtain ⟨e,y⟩:=y
  subst e y
  exact hs i σ _ hlt p
 ·have e:i=n:=by omega
  subst e
  exact .inl ⟨Nat.le_refl _,hd σ H p⟩
end L2
namespace L2
open PySem PySem.Spec PyProof.Rows
end L2
namespace PySem
end PySem
namespace PySem
end PySem
namespace L2
open PySem PySem.Spec PyProof.Rows
end L2
namespace HT
open PySem PyProof.Rows
end HT
namespace L2
open PySem PySem.Spec PyProof.Rows
end L2
namespace HT
open PySem PyProof.Rows L2
section
open PySem.SeqAt
open PySem.AutoSeq1 (wpAny_loadPart')
open PySem.MeetsSeq PySem.MeetsSeq2 PySem.MeetsSeq3
end
end HT
namespace L2
open PySem PySem.Spec PyProof.Rows
end L2
namespace L2
open PySem PySem.Spec PyProof.Rows
theorem op_neNil {X:Cx} (hu:X.A.units+64<cLine):OpR X (compareOp .NotEq) (fun x y H Q=>∃(a b:Addr) (xs:List V),x= .ref a∧y= .ref b∧SqL X.K H a xs∧SqL X.K H b []∧Q (.bl (!xs.isEmpty)) H):=by
 intro pins s σ H x y u v Q I rx ry h
 obtain ⟨a,b,xs,rfl,rfl,ha,hb,q⟩:=h
 cases rx
 cases ry
 cases xs with
 |nil=>exact op_neD hu pins s σ H (.ref a) (.ref b) _ _ Q I rfl rfl ⟨.list [],.list [],.lst ha .nil,.lst hb .nil,rfl,rfl,by decide,q⟩
 |cons x xs=>
  obtain ⟨its,r1,h1,_⟩:=I.list ha
  obtain ⟨its2,r2,h2,_⟩:=I.list hb
  have l1:=r1.length
  have l2:=r2.length
  refine SeqAt.RcNeAt.lists_lengths h1.isList h2.isList (by simp at l1 l2 ⊢;omega) (by omega) X.prog X.w _ _ ⟨.bl _,H,I,rfl,q⟩
end L2
namespace L2
open PySem PySem.Spec PyProof.Rows
end L2
namespace L2
open PySem PySem.Spec PyProof.Rows
end L2
namespace PySem
open PyProof.Rows
end PySem
namespace L2
open PySem PySem.Spec PyProof.Rows
end L2
namespace PySem
open PyProof.Rows
namespace F
end F
end PySem
namespace L2
open PySem PySem.Spec PyProof.Rows
end L2
namespace Wk
open PySem
abbrev T4:=Str×Nat×Nat×Int
def nbT (v:Nat) (t:T4):List (Str×Nat):=(if t.2.1=v then [(t.1,t.2.2.1)] else [])++(if t.2.2.1=v then [(t.1,t.2.1)] else [])
def Bm (S:List T4) (v:Nat):List (Str×Nat):=S.flatMap (nbT v)
abbrev Ws:=List (Option (List Str))
def Bw (w:List Str):List (Str×Nat)→Ws×List Nat→Ws×List Nat
 |[],st=>st
 |(n,u)::r,st=>if st.1[u]? =some none then Bw w r (st.1.set u (some (w++[n])),st.2++[u]) else Bw w r st
def bstep (S:List T4) (st:Ws×List Nat):Ws×List Nat:=
 match st.2 with
 |[]=>st
 |h::rest=>Bw ((st.1[h]?.join).getD []) (Bm S h) (st.1,rest)
def Cm (N p:Nat):Ws×List Nat:=((List.replicate N none).set p (some []),[p])
def iter (S:List T4):Nat→Ws×List Nat→Ws×List Nat
 |0,st=>st
 |n+1,st=>iter S n (bstep S st)
def waysF (N:Nat) (S:List T4) (p:Nat):Ws:=(iter S 64 (Cm N p)).1
theorem iter_nil {S:List T4}:∀(n:Nat) {ws:Ws},iter S n (ws,[])=(ws,[])
 |0,_=>rfl
 |n+1,ws=>iter_nil n (ws:=ws)
theorem iter_snoc {S:List T4}:∀(n:Nat) (st:Ws×List Nat),iter S (n+1) st=bstep S (iter S n st)
 |0,st=>rfl
 |n+1,st=>iter_snoc n (bstep S st)
theorem iter_add {S:List T4} (m:Nat):∀(n:Nat) (st:Ws×List Nat),iter S (n+m) st=iter S m (iter S n st)
 |0,st=>by rw [Nat.zero_add];rfl
 |n+1,st=>by rw [show n+1+m=(n+m)+1 by omega];exact iter_add m n (bstep S st)
theorem ways_of {N p i:Nat} {S:List T4} {ws:Ws} (h:iter S i (Cm N p)=(ws,[])) (hi:i≤64):waysF N S p=ws:=by
 unfold waysF
 rw [show 64=i+(64 - i) by omega,iter_add,h,iter_nil]
inductive Lead (S:List T4) (a:Nat):List Str→Nat→Prop
 |nil:Lead S a [] a
 |snoc {ws:List Str} {b c:Nat} {n:Str}:Lead S a ws b→(n,c)∈Bm S b→Lead S a (ws++[n]) c
def nones (ws:Ws):Nat:=ws.countP (·==none)
def Vis (ws:Ws) (v:Nat) (w:List Str):Prop:=ws[v]? =some (some w)
structure PInv (S:List T4) (N p h:Nat) (w:List Str) (st:Ws×List Nat):Prop where
 len:st.1.length=N
 lead:∀v x,Vis st.1 v x→Lead S p x v
 vis:∀v∈st.2,∃x,Vis st.1 v x
 done:∀v x,Vis st.1 v x→v∈st.2∨v=h∨∀nb∈Bm S v,∃y,Vis st.1 nb.2 y∧y.length≤x.length+1
 sorted:st.2.Pairwise fun a b=>∀x y,Vis st.1 a x→Vis st.1 b y→x.length≤y.length
 top:∀v x b y,Vis st.1 v x→b∈st.2→Vis st.1 b y→x.length≤y.length+1
 hv:Vis st.1 h w
 ht:∀v x,Vis st.1 v x→x.length≤w.length+1
 hb:∀b y,b∈st.2→Vis st.1 b y→w.length≤y.length
theorem Bq {ws:Ws} {u:Nat} {z:List Str} (hu:ws[u]? =some none) {v:Nat} {x:List Str}:Vis (ws.set u (some z)) v x↔(v=u∧x=z)∨Vis ws v x:=by
 unfold Vis
 have hl:u<ws.length:=(List.getElem?_eq_some_iff.mp hu).1
 rw [List.getElem?_set]
 by_cases e:u=v
 ·subst e
  rw [if_pos rfl,if_pos hl,hu]
  constructor
  ·intro q;left;exact ⟨rfl,by simpa using q.symm⟩
  ·rintro (⟨_,rfl⟩|q)
   ·rfl
   ·simp at q
 ·rw [if_neg e]
  constructor
  ·exact .inr
  ·rintro (⟨rfl,_⟩|q)
   ·exact absurd rfl e
   ·exact q
theorem vis_inj {ws:Ws} {v:Nat} {x y:List Str} (a:Vis ws v x) (b:Vis ws v y):x=y:=by
 unfold Vis at a b;rw [a] at b;simpa using b
theorem visit_ok {S:List T4} {N p h:Nat} {w:List Str}:∀(L:List (Str×Nat)) (st:Ws×List Nat),PInv S N p h w st→(∀nb∈L,nb∈Bm S h∧nb.2<N)→
  PInv S N p h w (Bw w L st)∧(∀v x,Vis st.1 v x→Vis (Bw w L st).1 v x)∧(∀nb∈L,∃y,Vis (Bw w L st).1 nb.2 y∧y.length≤w.length+1)∧nones (Bw w L st).1+(Bw w L st).2.length=nones st.1+st.2.length
 |[],st,I,_=>⟨I,fun _ _ e=>e,fun nb h=>(by cases h),rfl⟩
 |(n,u)::r,st,I,hL=>by
  have hr:∀nb∈r,nb∈Bm S h∧nb.2<N:=fun nb q=>hL nb (List.mem_cons_of_mem _ q)
  have hn:=hL (n,u) (List.mem_cons_self ..)
  have hu:u<st.1.length:=by rw [I.len];exact hn.2
  unfold Bw
  by_cases e:st.1[u]? =some none
  ·rw [if_pos e]
   have I':PInv S N p h w (st.1.set u (some (w++[n])),st.2++[u]):=by
    have nu:∀x,¬Vis st.1 u x:=fun x q=>by unfold Vis at q;rw [e] at q;simp at q
    refine ⟨by simp [I.len],?_,?_,?_,?_,?_,?_,?_,?_⟩
    ·intro v x q
     rcases (Bq e).mp q with ⟨rfl,rfl⟩|q
     ·exact .snoc (I.lead h w I.hv) hn.1
     ·exact I.lead v x q
    ·intro v q
     rcases List.mem_append.mp q with q|q
     ·obtain ⟨x,hx⟩:=I.vis v q;exact ⟨x,(Bq e).mpr (.inr hx)⟩
     ·rw [List.mem_singleton.mp q];exact ⟨_,(Bq e).mpr (.inl ⟨rfl,rfl⟩)⟩
    ·intro v x q
     rcases (Bq e).mp q with ⟨rfl,rfl⟩|q
     ·exact .inl (List.mem_append_right _ (List.mem_singleton.mpr rfl))
     ·rcases I.done v x q with a|a|a
      ·exact .inl (List.mem_append_left _ a)
      ·exact .inr (.inl a)
      ·exact .inr (.inr fun nb hb=>let ⟨y,hy,hl⟩:=a nb hb;⟨y,(Bq e).mpr (.inr hy),hl⟩)
    ·refine List.pairwise_append.mpr ⟨?_,List.pairwise_singleton ..,?_⟩
     ·refine (List.Pairwise.imp_of_mem ?_ I.sorted)
      intro a b ha hb k x y hx hy
      have hx':Vis st.1 a x:=by
       rcases (Bq e).mp hx with ⟨rfl,_⟩|q
       ·obtain ⟨z,hz⟩:=I.vis _ ha;exact absurd hz (nu z)
       ·exact q
      have hy':Vis st.1 b y:=by
       rcases (Bq e).mp hy with ⟨rfl,_⟩|q
       ·obtain ⟨z,hz⟩:=I.vis _ hb;exact absurd hz (nu z)
       ·exact q
      exact k x y hx' hy'
     ·intro a ha b hb x y hx hy
      rw [List.mem_singleton.mp hb] at hy
      rcases (Bq e).mp hy with ⟨_,rfl⟩|q
      ·rcases (Bq e).mp hx with ⟨_,rfl⟩|q
       ·exact Nat.le_refl _
       ·have:=I.ht a x q;simp only [List.length_append,List.length_cons,List.length_nil];assumption
      ·exact absurd q (nu y)
    ·intro v x b y hx hb hy
     have hx1:x.length≤w.length+1:=by
      rcases (Bq e).mp hx with ⟨_,rfl⟩|q
      ·simp
      ·exact I.ht v x q
     have hy1:w.length≤y.length:=by
      rcases (Bq e).mp hy with ⟨_,rfl⟩|q
      ·simp
      ·rcases List.mem_append.mp hb with hb|hb
       ·exact I.hb b y hb q
       ·rw [List.mem_singleton.mp hb] at q;exact absurd q (nu y)
     omega
    ·exact (Bq e).mpr (.inr I.hv)
    ·intro v x hx
     rcases (Bq e).mp hx with ⟨_,rfl⟩|q
     ·simp
     ·exact I.ht v x q
    ·intro b y hb hy
     rcases (Bq e).mp hy with ⟨_,rfl⟩|q
     ·simp
     ·rcases List.mem_append.mp hb with hb|hb
      ·exact I.hb b y hb q
      ·rw [List.mem_singleton.mp hb] at q;exact absurd q (nu y)
   obtain ⟨a,b,c,d⟩:=visit_ok r _ I' hr
   refine ⟨a,fun v x q=>b v x ((Bq e).mpr (.inr q)),fun nb q=> ?_,?_⟩
   ·rcases List.mem_cons.mp q with rfl|q
    ·exact ⟨_,b _ _ ((Bq e).mpr (.inl ⟨rfl,rfl⟩)),by simp⟩
    ·exact c nb q
   ·rw [d]
    have:nones (st.1.set u (some (w++[n])))+1=nones st.1:=by
     unfold nones
     have hg:st.1[u]=none:=by have:=List.getElem?_eq_some_iff.mp e;exact this.2
     rw [List.countP_set (h:=hu),hg]
     have:0<st.1.countP (·==none):=List.countP_pos_iff.mpr ⟨none,by rw [←hg];exact List.getElem_mem hu,rfl⟩
     simp only [beq_self_eq_true,if_true]
     show st.1.countP (·==none) - 1+0+1=_
     omega
    simp only [List.length_append,List.length_cons,List.length_nil]
    omega
  ·rw [if_neg e]
   obtain ⟨a,b,c,d⟩:=visit_ok r st I hr
   refine ⟨a,b,fun nb q=> ?_,d⟩
   rcases List.mem_cons.mp q with rfl|q
   ·have:∃y,Vis st.1 u y:=by
     cases hh:st.1[u]? with
     |none=>rw [List.getElem?_eq_getElem hu] at hh;cases hh
     |some z=>cases z with
      |none=>exact absurd hh e
      |some y=>exact ⟨y,hh⟩
    obtain ⟨y,hy⟩:=this
    exact ⟨y,b _ _ hy,I.ht _ _ hy⟩
   ·exact c nb q
structure BInv (S:List T4) (N p:Nat) (st:Ws×List Nat):Prop where
 len:st.1.length=N
 p0:Vis st.1 p []
 lead:∀v x,Vis st.1 v x→Lead S p x v
 vis:∀v∈st.2,∃x,Vis st.1 v x
 done:∀v x,Vis st.1 v x→v∈st.2∨∀nb∈Bm S v,∃y,Vis st.1 nb.2 y∧y.length≤x.length+1
 sorted:st.2.Pairwise fun a b=>∀x y,Vis st.1 a x→Vis st.1 b y→x.length≤y.length
 top:∀v x b y,Vis st.1 v x→b∈st.2→Vis st.1 b y→x.length≤y.length+1
def InN (N:Nat) (S:List T4):Prop:=∀t∈S,t.2.1<N∧t.2.2.1<N
theorem nb_lt {N:Nat} {S:List T4} (h:InN N S) {v:Nat} {nb:Str×Nat} (q:nb∈Bm S v):nb.2<N:=by
 obtain ⟨t,ht,q⟩:=List.mem_flatMap.mp q
 have:=h t ht
 unfold nbT at q
 rcases List.mem_append.mp q with q|q
 ·split at q
  ·rw [List.mem_singleton.mp q];exact this.2
  ·cases q
 ·split at q
  ·rw [List.mem_singleton.mp q];exact this.1
  ·cases q
theorem binv0 {S:List T4} {N p:Nat} (hp:p<N):BInv S N p (Cm N p):=by
 have hu:(List.replicate N (none:Option (List Str)))[p]? =some none:=by rw [List.getElem?_replicate];rw [if_pos hp]
 have nv:∀v x,¬Vis (List.replicate N (none:Option (List Str))) v x:=fun v x q=>by
  unfold Vis at q;rw [List.getElem?_replicate] at q;split at q<;> simp at q
 have key:∀v x,Vis (Cm N p).1 v x→v=p∧x=[]:=fun v x q=>by
  rcases (Bq hu).mp q with q|q
  ·exact q
  ·exact absurd q (nv v x)
 refine ⟨by simp [Cm],(Bq hu).mpr (.inl ⟨rfl,rfl⟩),?_,?_,?_,?_,?_⟩
 ·intro v x q;obtain ⟨rfl,rfl⟩:=key v x q;exact .nil
 ·intro v q;rw [List.mem_singleton.mp q];exact ⟨_,(Bq hu).mpr (.inl ⟨rfl,rfl⟩)⟩
 ·intro v x q;obtain ⟨rfl,rfl⟩:=key v x q;exact .inl (List.mem_singleton.mpr rfl)
 ·exact List.pairwise_singleton ..
 ·intro v x b y q _ q2;obtain ⟨rfl,rfl⟩:=key v x q;simp
theorem binit_vis {N p:Nat} (hp:p<N) {v:Nat} {x:List Str} (q:Vis (Cm N p).1 v x):x=[]:=by
 have hu:(List.replicate N (none:Option (List Str)))[p]? =some none:=by rw [List.getElem?_replicate];rw [if_pos hp]
 rcases (Bq hu).mp q with q|q
 ·exact q.2
 ·unfold Vis at q;rw [List.getElem?_replicate] at q;split at q<;> simp at q
theorem pinv_of {S:List T4} {N p h:Nat} {ws:Ws} {rest:List Nat} (I:BInv S N p (ws,h::rest)):∃w,Vis ws h w∧PInv S N p h w (ws,rest):=by
 obtain ⟨w,hw⟩:=I.vis h (List.mem_cons_self ..)
 refine ⟨w,hw,I.len,I.lead,fun v q=>I.vis v (List.mem_cons_of_mem _ q),?_,(List.pairwise_cons.mp I.sorted).2,fun v x b y a q=>I.top v x b y a (List.mem_cons_of_mem _ q),hw,fun v x q=>I.top v x h w q (List.mem_cons_self ..) hw,fun b y q hb=>(List.pairwise_cons.mp I.sorted).1 b q w y hw hb⟩
 intro v x q
 rcases I.done v x q with a|a
 ·rcases List.mem_cons.mp a with rfl|a
  ·exact .inr (.inl rfl)
  ·exact .inl a
 ·exact .inr (.inr a)
theorem bstep_ok {S:List T4} {N p h:Nat} {ws:Ws} {rest:List Nat} (hS:InN N S) (I:BInv S N p (ws,h::rest)):
  BInv S N p (bstep S (ws,h::rest))∧nones (bstep S (ws,h::rest)).1+(bstep S (ws,h::rest)).2.length+1=nones ws+(h::rest).length:=by
 obtain ⟨w,hw,J⟩:=pinv_of I
 have e:bstep S (ws,h::rest)=Bw w (Bm S h) (ws,rest):=by
  show Bw ((ws[h]?.join).getD []) (Bm S h) (ws,rest)=_
  unfold Vis at hw
  rw [hw];rfl
 rw [e]
 obtain ⟨a,b,c,d⟩:=visit_ok (Bm S h) (ws,rest) J fun nb q=>⟨q,nb_lt hS q⟩
 refine ⟨⟨a.len,b _ _ I.p0,a.lead,a.vis,?_,a.sorted,a.top⟩,by rw [d];rfl⟩
 intro v x q
 rcases a.done v x q with r|rfl|r
 ·exact .inl r
 ·refine .inr fun nb hb=> ?_
  have:=vis_inj q a.hv
  subst this
  exact c nb hb
 ·exact .inr r
theorem iter_ok {S:List T4} {N p:Nat} (hS:InN N S):∀(n:Nat) (st:Ws×List Nat),BInv S N p st→BInv S N p (iter S n st)∧((iter S n st).2=[]∨nones (iter S n st).1+(iter S n st).2.length+n=nones st.1+st.2.length)
 |0,st,I=>⟨I,.inr rfl⟩
 |n+1,(ws,[]),I=>by
  have e:iter S (n+1) (ws,[])=(ws,[]):=iter_nil (n+1)
  rw [e];exact ⟨I,.inl rfl⟩
 |n+1,(ws,h::rest),I=>by
  obtain ⟨a,b⟩:=bstep_ok hS I
  obtain ⟨c,d⟩:=iter_ok hS n _ a
  refine ⟨c,?_⟩
  rcases d with d|d
  ·exact .inl d
  ·refine .inr ?_
   show nones (iter S n (bstep S (ws,h::rest))).1+(iter S n (bstep S (ws,h::rest))).2.length+(n+1)=nones ws+(h::rest).length
   omega
theorem ways_end {S:List T4} {N p:Nat} (hS:InN N S) (hp:p<N) (hN:N≤60):∃ws,iter S 64 (Cm N p)=(ws,[])∧BInv S N p (ws,[]):=by
 obtain ⟨a,b⟩:=iter_ok hS 64 (Cm N p) (binv0 hp)
 have:nones (Cm N p).1+(Cm N p).2.length≤N+1:=by
  have:nones (Cm N p).1≤(Cm N p).1.length:=List.countP_le_length
  simp only [Cm,List.length_set,List.length_replicate,List.length_singleton] at this ⊢
  exact Nat.succ_le_succ (by assumption)
 have e:(iter S 64 (Cm N p)).2=[]:=by
  rcases b with b|b
  ·exact b
  ·omega
 refine ⟨(iter S 64 (Cm N p)).1,Prod.ext rfl e,?_⟩
 have:iter S 64 (Cm N p)=((iter S 64 (Cm N p)).1,[]):=Prod.ext rfl e
 rw [this] at a
 exact a
theorem ways_len {S:List T4} {N p:Nat} (hS:InN N S) (hp:p<N) (hN:N≤60):(waysF N S p).length=N:=by
 obtain ⟨ws,e,I⟩:=ways_end hS hp hN
 rw [ways_of e (Nat.le_refl _)];exact I.len
theorem ways_lead {S:List T4} {N p:Nat} (hS:InN N S) (hp:p<N) (hN:N≤60) {v:Nat} {x:List Str} (h:Vis (waysF N S p) v x):Lead S p x v:=by
 obtain ⟨ws,e,I⟩:=ways_end hS hp hN
 rw [ways_of e (Nat.le_refl _)] at h;exact I.lead v x h
theorem ways_least {S:List T4} {N p:Nat} (hS:InN N S) (hp:p<N) (hN:N≤60) {v:Nat} {x:List Str} (h:Lead S p x v):∃y,Vis (waysF N S p) v y∧y.length≤x.length:=by
 obtain ⟨ws,e,I⟩:=ways_end hS hp hN
 rw [ways_of e (Nat.le_refl _)]
 induction h with
 |nil=>exact ⟨[],I.p0,Nat.le_refl _⟩
 |snoc a b ih=>
  obtain ⟨y,hy,hl⟩:=ih
  rcases I.done _ _ hy with q|q
  ·cases q
  ·obtain ⟨z,hz,hl2⟩:=q _ b
   exact ⟨z,hz,by simp only [List.length_append,List.length_cons,List.length_nil] at hl2 ⊢;omega⟩
def Ct (N:Nat) (S:List T4) (p:Nat):List Nat:=(List.range N).filter fun v=>((waysF N S p)[v]?.join).isSome
def Reach (S:List T4) (a b:Nat):Prop:=∃ws,Lead S a ws b
theorem vis_iff {ws:Ws} {v:Nat}:(ws[v]?.join).isSome=true↔∃x,Vis ws v x:=by
 unfold Vis
 cases ws[v]? with
 |none=>simp
 |some z=>cases z<;> simp
theorem mem_part {S:List T4} {N p v:Nat} (hS:InN N S) (hp:p<N) (hN:N≤60):v∈Ct N S p↔v<N∧Reach S p v:=by
 unfold Ct
 rw [List.mem_filter,List.mem_range,vis_iff]
 constructor
 ·rintro ⟨a,x,hx⟩;exact ⟨a,x,ways_lead hS hp hN hx⟩
 ·rintro ⟨a,x,hx⟩;obtain ⟨y,hy,_⟩:=ways_least hS hp hN hx;exact ⟨a,y,hy⟩
theorem Reach.refl {S:List T4} {a:Nat}:Reach S a a:=⟨[],.nil⟩
theorem nb_symm {S:List T4} {a b:Nat} {n:Str} (h:(n,b)∈Bm S a):(n,a)∈Bm S b:=by
 obtain ⟨t,ht,q⟩:=List.mem_flatMap.mp h
 refine List.mem_flatMap.mpr ⟨t,ht,?_⟩
 unfold nbT at q ⊢
 rcases List.mem_append.mp q with q|q
 ·split at q
  ·rename_i e
   have:=List.mem_singleton.mp q
   cases this
   refine List.mem_append_right _ ?_
   rw [if_pos rfl,e];exact List.mem_singleton.mpr rfl
  ·cases q
 ·split at q
  ·rename_i e
   have:=List.mem_singleton.mp q
   cases this
   refine List.mem_append_left _ ?_
   rw [if_pos rfl,e];exact List.mem_singleton.mpr rfl
  ·cases q
theorem Reach.trans {S:List T4} {a b c:Nat} (h:Reach S a b) (g:Reach S b c):Reach S a c:=by
 obtain ⟨x,hx⟩:=h
 obtain ⟨y,hy⟩:=g
 induction hy with
 |nil=>exact ⟨x,hx⟩
 |snoc _ q ih=>obtain ⟨z,hz⟩:=ih;exact ⟨_,.snoc hz q⟩
theorem Reach.step {S:List T4} {a b:Nat} {n:Str} (h:(n,b)∈Bm S a):Reach S a b:=⟨[]++[n],.snoc .nil h⟩
theorem Reach.symm {S:List T4} {a b:Nat} (h:Reach S a b):Reach S b a:=by
 obtain ⟨x,hx⟩:=h
 induction hx with
 |nil=>exact .refl
 |snoc _ q ih=>exact (Reach.step (nb_symm q)).trans ih
theorem nb_of {S:List T4} {t:T4} (h:t∈S):(t.1,t.2.2.1)∈Bm S t.2.1:=List.mem_flatMap.mpr ⟨t,h,List.mem_append_left _ (by rw [if_pos rfl];exact List.mem_singleton.mpr rfl)⟩
theorem nb_elim {S:List T4} {a b:Nat} {n:Str} (h:(n,b)∈Bm S a):∃t∈S,t.1=n∧((t.2.1=a∧t.2.2.1=b)∨(t.2.2.1=a∧t.2.1=b)):=by
 obtain ⟨t,ht,q⟩:=List.mem_flatMap.mp h
 refine ⟨t,ht,?_⟩
 unfold nbT at q
 rcases List.mem_append.mp q with q|q
 ·split at q
  ·rename_i e
   have:=List.mem_singleton.mp q
   cases this
   exact ⟨rfl,.inl ⟨e,rfl⟩⟩
  ·cases q
 ·split at q
  ·rename_i e
   have:=List.mem_singleton.mp q
   cases this
   exact ⟨rfl,.inr ⟨e,rfl⟩⟩
  ·cases q
def relab (l:List Nat) (lo hi:Nat):List Nat:=l.map fun x=>if x=hi then lo else x
theorem relab_get {l:List Nat} {lo hi v:Nat} (hv:v<l.length):(relab l lo hi).getD v 0=if l.getD v 0=hi then lo else l.getD v 0:=by
 unfold relab
 rw [List.getD_eq_getElem?_getD,List.getElem?_map,List.getElem?_eq_getElem hv,List.getD_eq_getElem?_getD,List.getElem?_eq_getElem hv];rfl
theorem nbrs_mono {S S':List T4} (h:∀t∈S,t∈S') {v:Nat} {nb:Str×Nat} (q:nb∈Bm S v):nb∈Bm S' v:=by
 obtain ⟨t,ht,q⟩:=List.mem_flatMap.mp q
 exact List.mem_flatMap.mpr ⟨t,h t ht,q⟩
theorem Reach.mono {S S':List T4} (h:∀t∈S,t∈S') {a b:Nat} (q:Reach S a b):Reach S' a b:=by
 obtain ⟨x,hx⟩:=q
 induction hx with
 |nil=>exact .refl
 |snoc _ q ih=>exact ih.trans (.step (nbrs_mono h q))
end Wk
namespace L2
open PySem
theorem while_gh {c:TT} {tb:TS} {D:Ends} {σ:St} {H:Hp} (Pv:Nat→St→Hp→Prop) {m0:Nat} (h0:Pv m0 σ H)
  (hs:∀m σ H,Pv m σ H→c σ H fun b H1=>if b=true then tb {D with nx:=fun σ' H'=>∃m',m'<m∧Pv m' σ' H',ct:=fun σ' H'=>∃m',m'<m∧Pv m' σ' H',bk:=D.nx} σ H1 else D.nx σ H1)
  (mono:∀σ H Q Q',(∀b H1,Q b H1→Q' b H1)→c σ H Q→c σ H Q'):tWhile c tb D σ H:=by
 refine ⟨Pv,⟨m0,h0⟩,fun m σ H p=> ?_⟩
 refine mono σ H _ _ (fun b H1 q=> ?_) (hs m σ H p)
 cases b with
 |true=>exact ⟨_,fun _ _ h=>h,q⟩
 |false=>exact q
theorem Aw {H0 H:Hp} {a:Addr} {o:HO} (s:Same H0 H) (n:H0 a=none):Same H0 (upd H a o):=fun b u e=>by
 rw [Ai (Am e n)];exact s b u e
theorem Ay {α β:Type} {f:α→β} {l:List α} {i:Nat} {x:β} (h:(l.map f)[i]? =some x):∃z,l[i]? =some z∧x=f z:=by
 rw [List.getElem?_map] at h
 cases q:l[i]? with
 |none=>rw [q] at h;cases h
 |some z=>rw [q] at h;exact ⟨z,rfl,(Option.some.inj h).symm⟩
theorem ixN_nat {n j:Nat} (h:j<n):ixN n (j:Int)=some j:=by
 unfold ixN
 rw [if_pos (by exact Int.natCast_nonneg _),if_pos (by omega)];simp
theorem C1 {α:Type} {l:List α} {i:Nat} (h:i<l.length):l[i]? =some l[i]:=List.getElem?_eq_getElem h
end L2
namespace Wk
open PySem L2
def tieV (t:T4):List V:=[.str t.1,.int (t.2.1:Int),.int (t.2.2.1:Int),.int t.2.2.2]
def TiesAt (H:Hp) (rs:List Addr) (S:List T4):Prop:=rs.length=S.length∧∀(i:Nat) r t,rs[i]? =some r→S[i]? =some t→H r=some (.tup (tieV t))
theorem TiesAt.same {H H':Hp} {rs:List Addr} {S:List T4} (h:TiesAt H rs S) (s:Same H H'):TiesAt H' rs S:=⟨h.1,fun i r t a b=>s _ _ (h.2 i r t a b)⟩
theorem TiesAt.get {H:Hp} {rs:List Addr} {S:List T4} (h:TiesAt H rs S) {i:Nat} {r:Addr} (hr:rs[i]? =some r):∃t,S[i]? =some t∧H r=some (.tup (tieV t)):=by
 have hi:i<S.length:=by rw [←h.1];exact (List.getElem?_eq_some_iff.mp hr).1
 exact ⟨S[i],C1 hi,h.2 i r _ hr (C1 hi)⟩
def PrsAt (H:Hp) (l:Addr) (ps:List (Str×Nat)):Prop:=∃rs:List Addr,H l=some (.lst (rs.map V.ref))∧rs.length=ps.length∧∀(i:Nat) r q,rs[i]? =some r→ps[i]? =some q→H r=some (.tup [.str q.1,.int (q.2:Int)])
theorem PrsAt.same {H H':Hp} {l:Addr} {ps:List (Str×Nat)} (h:PrsAt H l ps) (s:Same H H'):PrsAt H' l ps:=let ⟨rs,a,b,c⟩:=h;⟨rs,s _ _ a,b,fun i r q e f=>s _ _ (c i r q e f)⟩
def BesAt (H:Hp) (b:Addr) (N:Nat) (f:Nat→List (Str×Nat)):Prop:=∃ls:List Addr,H b=some (.lst (ls.map V.ref))∧ls.length=N∧∀(v:Nat) l,ls[v]? =some l→PrsAt H l (f v)
theorem BesAt.same {H H':Hp} {b:Addr} {N:Nat} {f:Nat→List (Str×Nat)} (h:BesAt H b N f) (s:Same H H'):BesAt H' b N f:=let ⟨ls,x,y,z⟩:=h;⟨ls,s _ _ x,y,fun v l e=>(z v l e).same s⟩
structure Bes (H0 H:Hp) (b:Addr) (ls:List Addr) (N:Nat) (f:Nat→List (Str×Nat)):Prop where
 same:Same H0 H
 hb:H b=some (.lst (ls.map V.ref))
 len:ls.length=N
 nd:ls.Nodup
 new:∀l∈ls,H0 l=none∧l≠b
 prs:∀(v:Nat) l,ls[v]? =some l→PrsAt H l (f v)
theorem nd_ix {ls:List Addr} (h:ls.Nodup) {i j:Nat} {l:Addr} (a:ls[i]? =some l) (b:ls[j]? =some l):i=j:=by
 have hi:=(List.getElem?_eq_some_iff.mp a).1
 exact (List.getElem?_inj hi h).mp (by rw [a,b])
theorem Bes.app {H0 H:Hp} {b:Addr} {ls:List Addr} {N v:Nat} {f:Nat→List (Str×Nat)} {l p:Addr} {xs:List V} {n:Str} {u:Nat} (B:Bes H0 H b ls N f) (hv:ls[v]? =some l) (hp:H p=none) (hl:H l=some (.lst xs)):
  Bes H0 (upd (upd H p (.tup [.str n,.int (u:Int)])) l (.lst (xs++[.ref p]))) b ls N (fun x=>if x=v then f v++[(n,u)] else f x):=by
 have lm:l∈ls:=List.mem_of_getElem? hv
 have s1:=Ad (o:= .tup [.str n,.int (u:Int)]) hp
 have lp:l≠p:=Am hl hp
 refine ⟨Aw (B.same.trans s1) (B.new l lm).1,by rw [Ai (B.new l lm).2.symm];exact s1 _ _ B.hb,B.len,B.nd,B.new,fun x k hx=> ?_⟩
 obtain ⟨rs,h1,h2,h3⟩:=B.prs x k hx
 have tl:∀(r:Addr) ys,H r=some (.tup ys)→upd (upd H p (.tup [.str n,.int (u:Int)])) l (.lst (xs++[.ref p])) r=some (.tup ys):=fun r ys e=>by
  rw [Ai (Cw e hl (by intro z;cases z))];exact s1 _ _ e
 by_cases e:x=v
 ·subst e
  rw [hv] at hx
  cases hx
  rw [hl] at h1
  injection h1 with h1
  injection h1 with h1
  simp only [if_true]
  refine ⟨rs++[p],by rw [Ab,h1,List.map_append];rfl,by simp [h2],fun i r q hr hq=> ?_⟩
  rw [List.getElem?_append] at hr hq
  by_cases hi:i<rs.length
  ·rw [if_pos hi] at hr
   rw [if_pos (by omega)] at hq
   exact tl _ _ (h3 i r q hr hq)
  ·rw [if_neg hi] at hr
   rw [if_neg (by omega),←h2] at hq
   have:i - rs.length=0:=by
    have:=(List.getElem?_eq_some_iff.mp hr).1
    simp at this;assumption
   rw [this] at hr hq
   cases hr
   cases hq
   rw [Ai lp.symm];exact Ab
 ·simp only [if_neg e]
  have kl:k≠l:=fun q=>by subst q;exact e (nd_ix B.nd hx hv)
  exact ⟨rs,by rw [Ai kl];exact s1 _ _ h1,h2,fun i r q hr hq=>tl _ _ (h3 i r q hr hq)⟩
theorem nbrs_snoc (S:List T4) (t:T4) (v:Nat):Bm (S++[t]) v=Bm S v++nbT v t:=by unfold Bm;rw [List.flatMap_append];simp
theorem nb_two (S:List T4) (t:T4):(fun x=>if x=t.2.2.1 then (fun x=>if x=t.2.1 then Bm S t.2.1++[(t.1,t.2.2.1)] else Bm S x) t.2.2.1++[(t.1,t.2.1)] else (fun x=>if x=t.2.1 then Bm S t.2.1++[(t.1,t.2.2.1)] else Bm S x) x)=Bm (S++[t]):=by
 funext x
 rw [nbrs_snoc]
 unfold nbT
 by_cases a:t.2.1=x
 ·subst a
  rw [if_pos rfl]
  by_cases b:t.2.2.1=t.2.1
  ·rw [if_pos b,if_pos b.symm];dsimp only;rw [if_pos b];simp
  ·rw [if_neg b,if_neg (Ne.symm b)];dsimp only;rw [if_pos rfl];simp
 ·rw [if_neg a]
  by_cases b:t.2.2.1=x
  ·subst b
   rw [if_pos rfl,if_pos rfl];dsimp only;rw [if_neg (Ne.symm a)];simp
  ·rw [if_neg b,if_neg (Ne.symm b)];dsimp only;rw [if_neg (Ne.symm a)];simp
theorem nbrs_len (S:List T4) (v:Nat):(Bm S v).length≤2 * S.length:=by
 unfold Bm
 induction S with
 |nil=>simp
 |cons t S ih=>
  rw [List.flatMap_cons,List.length_append,List.length_cons]
  have:(nbT v t).length≤2:=by unfold nbT;rw [List.length_append];split<;> split<;> simp
  omega
def WayV (H:Hp) (x:V):Option (List Str)→Prop
 |none=>x= .non
 |some w=>∃r,x= .ref r∧H r=some (.tup (w.map V.str))
def WaysAt (H:Hp) (a:Addr) (ws:Ws):Prop:=∃xs,H a=some (.lst xs)∧xs.length=ws.length∧∀(i:Nat) x o,xs[i]? =some x→ws[i]? =some o→WayV H x o
theorem WayV.mono {H H':Hp} {x:V} {o:Option (List Str)} (f:∀r ys,H r=some (.tup ys)→H' r=some (.tup ys)) (h:WayV H x o):WayV H' x o:=by
 cases o with
 |none=>exact h
 |some w=>obtain ⟨r,a,b⟩:=h;exact ⟨r,a,f _ _ b⟩
theorem WaysAt.same {H H':Hp} {a:Addr} {ws:Ws} (h:WaysAt H a ws) (s:Same H H'):WaysAt H' a ws:=let ⟨xs,x,y,z⟩:=h;⟨xs,s _ _ x,y,fun i u o e f=>(z i u o e f).mono fun r ys=>s r (.tup ys)⟩
theorem WaysAt.keep {H:Hp} {a l:Addr} {ws:Ws} {ys zs:List V} (h:WaysAt H a ws) (hl:H l=some (.lst ys)) (n:a≠l):WaysAt (upd H l (.lst zs)) a ws:=by
 obtain ⟨xs,x,y,z⟩:=h
 exact ⟨xs,by rw [Ai n];exact x,y,fun i u o e f=>(z i u o e f).mono fun r ys e=>by rw [Ai (Cw e hl (by intro z;cases z))];exact e⟩
theorem WaysAt.get {H:Hp} {a:Addr} {ws:Ws} (h:WaysAt H a ws) {v:Nat} {o:Option (List Str)} (hv:ws[v]? =some o):∃xs x,H a=some (.lst xs)∧xs[v]? =some x∧xs.length=ws.length∧WayV H x o:=by
 obtain ⟨xs,x,y,z⟩:=h
 have hl:v<xs.length:=by rw [y];exact (List.getElem?_eq_some_iff.mp hv).1
 exact ⟨xs,xs[v],x,C1 hl,y,z v _ o (C1 hl) hv⟩
theorem WaysAt.set {H:Hp} {a r:Addr} {ws:Ws} {xs:List V} {u:Nat} {w:List Str} (h:WaysAt H a ws) (ha:H a=some (.lst xs)) (hr:H r=some (.tup (w.map V.str))):WaysAt (upd H a (.lst (xs.set u (.ref r)))) a (ws.set u (some w)):=by
 obtain ⟨xs',x,y,z⟩:=h
 rw [ha] at x
 injection x with x
 injection x with x
 subst x
 have tl:∀(q:Addr) ys,H q=some (.tup ys)→upd H a (.lst (xs.set u (.ref r))) q=some (.tup ys):=fun q ys e=>by
  rw [Ai (Cw e ha (by intro z;cases z))];exact e
 refine ⟨_,Ab,by simp [y],fun i x o hx ho=> ?_⟩
 rw [List.getElem?_set] at hx ho
 by_cases e:u=i
 ·rw [if_pos e] at hx ho
  split at hx
  ·rw [if_pos (by omega)] at ho
   cases hx
   cases ho
   exact ⟨r,rfl,tl _ _ hr⟩
  ·cases hx
 ·rw [if_neg e] at hx ho
  exact (z i x o hx ho).mono tl
def vis1 (w:List Str) (q:Str×Nat) (st:Ws×List Nat):Ws×List Nat:=if st.1[q.2]? =some none then (st.1.set q.2 (some (w++[q.1])),st.2++[q.2]) else st
theorem vis1_no {w:List Str} {q:Str×Nat} {st:Ws×List Nat} (h:¬st.1[q.2]? =some none):vis1 w q st=st:=if_neg h
theorem vis1_yes {w:List Str} {q:Str×Nat} {st:Ws×List Nat} (h:st.1[q.2]? =some none):vis1 w q st=(st.1.set q.2 (some (w++[q.1])),st.2++[q.2]):=if_pos h
theorem visit_snoc (w:List Str) (q:Str×Nat):∀(L:List (Str×Nat)) (st:Ws×List Nat),Bw w (L++[q]) st=vis1 w q (Bw w L st)
 |[],st=>by unfold vis1;show Bw w (q::[]) st=_;unfold Bw;rfl
 |(n,u)::r,st=>by
  show Bw w ((n,u)::(r++[q])) st=_
  unfold Bw
  split
  ·exact visit_snoc w q r _
  ·exact visit_snoc w q r _
theorem visit_vis (w:List Str):∀(L:List (Str×Nat)) (st:Ws×List Nat) {v:Nat} {x:List Str},Vis st.1 v x→Vis (Bw w L st).1 v x
 |[],_,_,_,h=>h
 |(n,u)::r,st,v,x,h=>by
  unfold Bw
  split
  ·rename_i e;exact visit_vis w r _ ((Bq e).mpr (.inr h))
  ·exact visit_vis w r _ h
theorem visit_len (w:List Str):∀(L:List (Str×Nat)) (st:Ws×List Nat),(Bw w L st).1.length=st.1.length∧(Bw w L st).2.length≤st.2.length+L.length
 |[],st=>⟨rfl,Nat.le_refl _⟩
 |(n,u)::r,st=>by
  unfold Bw
  split
  ·obtain ⟨a,b⟩:=visit_len w r (st.1.set u (some (w++[n])),st.2++[u])
   refine ⟨by rw [a];simp,?_⟩
   simp only [List.length_append,List.length_cons,List.length_nil] at b ⊢
   omega
  ·obtain ⟨a,b⟩:=visit_len w r st
   exact ⟨a,by rw [List.length_cons];exact Nat.le_succ_of_le (by assumption)⟩
theorem bstep_short {S:List T4} {N p h i:Nat} {ws:Ws} {rest:List Nat} (hS:InN N S) (I:BInv S N p (ws,h::rest)) (hl:∀v x,Wk.Vis ws v x→x.length≤i):∀v x,Wk.Vis (bstep S (ws,h::rest)).1 v x→x.length≤i+1:=by
 obtain ⟨w,hw,J⟩:=pinv_of I
 have e:bstep S (ws,h::rest)=Bw w (Bm S h) (ws,rest):=by
  show Bw ((ws[h]?.join).getD []) (Bm S h) (ws,rest)=_
  unfold Wk.Vis at hw
  rw [hw];rfl
 rw [e]
 obtain ⟨a,_⟩:=visit_ok (Bm S h) (ws,rest) J fun nb q=>⟨q,nb_lt hS q⟩
 intro v x q
 have:=a.ht v x q
 have:=hl h w hw
 omega
theorem refs_inj {xs ys:List Addr} (h:xs.map V.ref=ys.map V.ref):xs=ys:=(List.map_inj_right (fun _ _ h=>by injection h)).mp h
end Wk
namespace Wk
open PySem L2
abbrev LS:Str:=Str.ofString "abcdefghijklmnopqrstuvwxyz"
theorem LS_eq:LS.cps.toList=(List.range 26).map (97+·):=by decide+kernel
theorem LS_at {v:Int} (h0:0≤v) (h1:v<26):atI LS.cps.toList v=some (97+v.toNat):=by
 obtain ⟨j,rfl⟩:∃j:Nat,v=(j:Int):=⟨v.toNat,by omega⟩
 have hj:j<26:=by omega
 refine Ap ?_
 rw [LS_eq,List.getElem?_map,List.getElem?_range hj]
 rfl
theorem cat_cps (x y:Str):(x++y).cps.toList=x.cps.toList++y.cps.toList:=by
 show (x.cps++y.cps).toList=_
 rw [Array.toList_append]
def sg (c:Nat):V:= .str ⟨#[c]⟩
theorem sg_map (ws:List Nat):ws.map sg=(ws.map fun c=>(⟨#[c]⟩:Str)).map V.str:=by rw [List.map_map];rfl
theorem sg_sum (ws:List Nat):((ws.map fun c=>(⟨#[c]⟩:Str)).map (·.length)).sum=ws.length:=by
 induction ws with
 |nil=>rfl
 |cons c ws ih=>simp only [List.map_cons,List.sum_cons,List.length_cons,ih];show 1+ws.length=_;omega
theorem join_cps:∀ws:List Nat,(Txt.join (Str.ofString "") (ws.map fun c=>(⟨#[c]⟩:Str))).cps.toList=ws:=by
 have key:∀ws:List Nat,(Str.join (Str.ofString "") (ws.map fun c=>(⟨#[c]⟩:Str))).cps.toList=ws:=by
  intro ws
  induction ws with
  |nil=>rfl
  |cons c ws ih=>
   cases ws with
   |nil=>rfl
   |cons d ws=>
    simp only [List.map_cons] at ih ⊢
    rw [Str.join,cat_cps,cat_cps,ih]
    ·rfl
    ·intro q;cases q
 intro ws
 show (Builtin.Str.glued _ _).cps.toList=_
 rw [StrLaws.glued_eq_join]
 exact key ws
theorem len_cps (z:Str):z.length=z.cps.toList.length:=by show z.cps.size=_;simp
theorem cutV_take {xs:List V} {n:Nat} (h:n≤xs.length):cutV xs none (some (n:Int))=xs.take n:=by
 unfold cutV
 rw [HT.sIx_none,HT.sIx_nat,List.drop_zero,Nat.min_eq_left h,Nat.sub_zero]
theorem inV_strs (x:Str) (zs:List Str):inV (.str x) (zs.map V.str)=decide (x∈zs):=by
 unfold inV
 induction zs with
 |nil=>simp
 |cons z zs ih=>
  rw [List.map_cons,List.any_cons,ih]
  have:eqV (.str z) (.str x)=decide (x=z):=by
   show (z==x)=_
   rw [Bool.eq_iff_iff,beq_iff_eq,decide_eq_true_eq];exact eq_comm
  rw [this,Bool.eq_iff_iff];simp
theorem Cz {v:Int} (h0:0≤v):∃j:Nat,v=(j:Int):=⟨v.toNat,by omega⟩
end Wk
namespace Wk
open PySem L2
end Wk
namespace L2
open PySem
end L2
namespace Wk
open PySem L2
theorem rints_nat (N:Nat):(C6 0 ((N:Int) - 0).toNat).map V.int=((List.range N).map Int.ofNat).map V.int:=by
 unfold C6
 rw [show ((N:Int) - 0).toNat=N by omega,List.map_map,List.map_map]
 refine List.map_congr_left fun k _=> ?_
 show V.int (0+(k:Int))=V.int (k:Int)
 rw [Int.zero_add]
end Wk
namespace Wk
open PySem L2
def labG (l:List Nat) (t:T4):List Nat:=relab l (l.getD t.2.1 0) (l.getD t.2.2.1 0)
theorem relab_same (l:List Nat) (a:Nat):relab l a a=l:=by
 unfold relab
 rw [List.map_congr_left (g:=id) fun x _=>by show (if x=a then a else x)=x;split<;> simp_all]
 simp
structure LabOk (N:Nat) (P:List T4) (l:List Nat):Prop where
 len:l.length=N
 iff:∀u v,u<N→v<N→(l.getD u 0=l.getD v 0↔Reach P u v)
theorem lab0 (N:Nat):LabOk N [] (List.range N):=by
 refine ⟨List.length_range ..,fun u v hu hv=> ?_⟩
 rw [List.getD_eq_getElem?_getD,List.getElem?_range hu,List.getD_eq_getElem?_getD,List.getElem?_range hv]
 constructor
 ·intro e
  have:u=v:=e
  subst this;exact .refl
 ·rintro ⟨x,hx⟩
  cases hx with
  |nil=>rfl
  |snoc _ q=>simp [Bm] at q
theorem lab_step {N:Nat} {P:List T4} {l:List Nat} (h:LabOk N P l) (hP:InN N P) {t:T4} (h1:t.2.1<N) (h2:t.2.2.1<N):LabOk N (P++[t]) (labG l t):=by
 have hl:=h.len
 have mono:∀{a b},Reach P a b→Reach (P++[t]) a b:=fun r=>r.mono fun x hx=>List.mem_append_left _ hx
 have tie:Reach (P++[t]) t.2.1 t.2.2.1:= .step (nb_of (List.mem_append_right _ (List.mem_singleton.mpr rfl)))
 have hN:InN N (P++[t]):=fun x hx=>by
  rcases List.mem_append.mp hx with hx|hx
  ·exact hP x hx
  ·rw [List.mem_singleton.mp hx];exact ⟨h1,h2⟩
 have g:∀v,v<N→(labG l t).getD v 0=if l.getD v 0=l.getD t.2.2.1 0 then l.getD t.2.1 0 else l.getD v 0:=fun v hv=>relab_get (by omega)
 refine ⟨by unfold labG relab;rw [List.length_map];exact hl,fun u v hu hv=> ?_⟩
 rw [g u hu,g v hv]
 constructor
 ·intro e
  by_cases a:l.getD u 0=l.getD t.2.2.1 0
  ·by_cases b:l.getD v 0=l.getD t.2.2.1 0
   ·exact mono ((h.iff u v hu hv).mp (a.trans b.symm))
   ·rw [if_pos a,if_neg b] at e
    exact ((mono ((h.iff u _ hu h2).mp a)).trans tie.symm).trans (mono ((h.iff _ v h1 hv).mp e))
  ·by_cases b:l.getD v 0=l.getD t.2.2.1 0
   ·rw [if_neg a,if_pos b] at e
    exact ((mono ((h.iff u _ hu h1).mp e)).trans tie).trans (mono ((h.iff v _ hv h2).mp b)).symm
   ·rw [if_neg a,if_neg b] at e
    exact mono ((h.iff u v hu hv).mp e)
 ·rintro ⟨x,hx⟩
  rw [←g u hu,←g v hv]
  clear hv
  induction hx with
  |nil=>rfl
  | @snoc ws b c n a q ih=>
   have hb:b<N:=by
    cases a with
    |nil=>exact hu
    |snoc _ r=>exact nb_lt hN r
   have hc:c<N:=nb_lt hN q
   refine ih.trans ?_
   obtain ⟨t',ht',_,hh⟩:=nb_elim q
   have key:(labG l t).getD t'.2.1 0=(labG l t).getD t'.2.2.1 0:=by
    rcases List.mem_append.mp ht' with ht'|ht'
    ·have:=hP t' ht'
     rw [g _ this.1,g _ this.2,(h.iff _ _ this.1 this.2).mpr (.step (nb_of ht'))]
    ·rw [List.mem_singleton.mp ht',g _ h1,g _ h2,if_pos rfl]
     split
     ·rfl
     ·rfl
   rcases hh with ⟨rfl,rfl⟩|⟨rfl,rfl⟩
   ·exact key
   ·exact key.symm
def NmS (zs:List Str):Prop:=zs.Pairwise fun a b=>Srt.ltK (.inr b) (.inr a)=false
end Wk
namespace Wk
open PySem L2
end Wk
namespace Wk
open PySem L2
end Wk
namespace Wk
open PySem L2
section
variable {N:Nat} {S S':List T4} {t:T4} (hS:InN N S) (hN:N≤60) (nd:(S.map (·.1)).Nodup) (hS':InN N S') (hm:∀u,u∈S'↔u∈S∨u=t)
include hS hN hS' hm
end
section
variable {N:Nat} {S S':List T4} {x:T4} (hS:InN N S) (hN:N≤60) (nd:(S.map (·.1)).Nodup) (hx:x∈S) (hm:∀u,u∈S'↔u∈S∧u.1≠x.1)
include hS hN nd hx hm
end
end Wk
namespace Wk
open PySem L2
section
variable {N:Nat} {S S':List T4} {t:T4} (hS:InN N S) (hN:N≤60) (nd:(S.map (·.1)).Nodup) (hn:t.1 ∉ S.map (·.1)) (hp:S'.Perm (S++[t])) (hS':InN N S') (sr':NmS (S'.map (·.1)))
include hS hN nd hn hp hS' sr'
end
section
variable {N:Nat} {S:List T4} {x:T4} (hS:InN N S) (hN:N≤60) (nd:(S.map (·.1)).Nodup) (sr:NmS (S.map (·.1))) (hx:x∈S)
include hS hN nd sr hx
end
end Wk
namespace L2
open PySem PySem.Spec PyProof.Rows
end L2
namespace HT
open PySem PyProof.Rows L2
section
open PySem.SeqAt
open PySem.AutoSeq1 (wpAny_loadPart')
open PySem.MeetsSeq PySem.MeetsSeq2 PySem.MeetsSeq3
end
section
open PySem.SeqAt
open PySem.AutoSeq1 (wpAny_loadPart')
open PySem.MeetsSeq PySem.MeetsSeq2 PySem.MeetsSeq3
end
end HT
namespace L2
open PySem PySem.Spec PyProof.Rows
end L2
namespace Wk
open PySem L2
end Wk
namespace L2
open PySem PySem.Spec PyProof.Rows
end L2
namespace Wk
open PySem L2
theorem Be {α:Type} {l:List α} {i:Nat} {d:α} (h:l[i]? =some d):l.take (i+1)=l.take i++[d]:=by rw [List.take_add_one,h];rfl
end Wk
namespace Wk
open PySem L2
end Wk
namespace L2
open PySem PySem.Spec PyProof.Rows
end L2
namespace Wk
open PySem L2
end Wk
namespace HT
open PySem PyProof.Rows
end HT
namespace L2
open PySem PySem.Spec PyProof.Rows
end L2
namespace Wk
open PySem L2
theorem cat_any {K:PySem.W.Frag} {H:Hp} {Q:VK} {a b:Addr} {xs ys:List V} (ha:H a=some (.tup xs)) (hb:H b=some (.tup ys)) (hl:xs.length+ys.length≤10000)
  (k:∀t H',Same H H'→H' t=some (.tup (xs++ys))→Q (.ref t) H'):rCatTT K (.ref a) (.ref b) H Q:=by
 refine ⟨a,b,_,_,rfl,rfl,SqT.of ha,SqT.of hb,small hl,fun e=>k b H (Cd H) ?_,fun _ e=>k a H (Cd H) ?_,fun _ _ p hp=>k p _ (Ad hp) Ab⟩
 ·rw [e];exact hb
 ·rw [e,List.append_nil];exact ha
theorem cut_any {K:PySem.W.Frag} {H:Hp} {Q:VK} {a:Addr} {xs:List V} {lo hi:Option Int} (ha:H a=some (.tup xs)) (k:∀t H',Same H H'→H' t=some (.tup (cutV xs lo hi))→Q (.ref t) H'):rSlTA K (.ref a) lo hi H Q:=by
 refine ⟨a,xs,rfl,SqT.of ha,fun w=>k a H (Cd H) ?_,fun _ p hp=>k p _ (Ad hp) Ab⟩
 have:cutV xs lo hi=xs:=by
  unfold cutV
  rw [w.1,w.2]
  simp
 rw [this]
 exact ha
end Wk
namespace Wk
open PySem L2
end Wk
namespace Srt
open PySem PySem.W PyProof.Rows L2
end Srt
namespace PySem
open PySem.Spec PyProof.Rows
end PySem
namespace L2
open PySem PySem.Spec PyProof.Rows
end L2
namespace Wk
open PySem L2
end Wk
namespace L2
open PySem PySem.Spec PyProof.Rows
end L2
namespace L2
open PySem PySem.Spec PyProof.Rows
end L2
namespace L2
open PySem PySem.Spec PyProof.Rows
end L2
namespace Rp
open PySem L2 PySem.Spec PyProof.Rows PySem.P
mutual
inductive RepF (H:Hp):Bool→V→PyData→Prop
 |non {f:Bool}:RepF H f .non .none
 |bl {f:Bool} (b:Bool):RepF H f (.bl b) (.bool b)
 |int {f:Bool} (i:Int):RepF H f (.int i) (.int i)
 |str {f:Bool} (x:Str):RepF H f (.str x) (.str x)
 |tup {f:Bool} {a:Addr} {xs:List V} {ds:List PyData}:H a=some (.tup xs)→RepFs H f xs ds→RepF H f (.ref a) (.tuple ds)
 |lst {a:Addr} {xs:List V} {ds:List PyData}:H a=some (.lst xs)→RepFs H false xs ds→RepF H false (.ref a) (.list ds)
 |dct {a:Addr}:H a=some (.dK [])→RepF H true (.ref a) (.dict [])
 |dc1 {a:Addr} {x:Str} {i:Int}:H a=some (.dK [(.inr x,.int i)])→RepF H true (.ref a) (.dict [(.str x,.int i)])
inductive RepFs (H:Hp):Bool→List V→List PyData→Prop
 |nil {f:Bool}:RepFs H f [] []
 |cons {f:Bool} {x:V} {xs:List V} {d:PyData} {ds:List PyData}:RepF H f x d→RepFs H f xs ds→RepFs H f (x::xs) (d::ds)
end
mutual
theorem RepF.same {H H':Hp} (s:Same H H'):∀{f:Bool} {v:V} {d:PyData},RepF H f v d→RepF H' f v d
 |_,_,_,.non=> .non
 |_,_,_,.bl b=> .bl b
 |_,_,_,.int i=> .int i
 |_,_,_,.str x=> .str x
 |_,_,_,.tup e h=> .tup (s _ _ e) (RepFs.same s h)
 |_,_,_,.lst e h=> .lst (s _ _ e) (RepFs.same s h)
 |_,_,_,.dct e=> .dct (s _ _ e)
 |_,_,_,.dc1 e=> .dc1 (s _ _ e)
theorem RepFs.same {H H':Hp} (s:Same H H'):∀{f:Bool} {vs:List V} {ds:List PyData},RepFs H f vs ds→RepFs H' f vs ds
 |_,_,_,.nil=> .nil
 |_,_,_,.cons h t=> .cons (RepF.same s h) (RepFs.same s t)
end
mutual
theorem RepF.reads {X:Cx} {pins:List (Addr×Obj)} {σ:L2.St} {H:Hp} {s:Shared} (I:Inv X pins σ H s):∀{f:Bool} {v:V} {d:PyData} {u:Value},RepF H f v d→RelV v u→∃as,Reads s.heap u d as∧(f=true→sysModules ∉ as)
 |_,_,_,_,.non,r=>by cases r;exact ⟨_,.none,fun _=>by simp⟩
 |_,_,_,_,.bl b,r=>by cases r;exact ⟨_,.bool b,fun _=>by simp⟩
 |_,_,_,_,.int i,r=>by obtain ⟨t,rfl⟩:=r;exact ⟨_,.int i t,fun _=>by simp⟩
 |_,_,_,_,.str x,r=>by obtain ⟨t,rfl⟩:=r;exact ⟨_,.str x t,fun _=>by simp⟩
 |_,_,_,_,.tup e h,r=>by
  cases r
  obtain ⟨_,its,rv,o,e1,e2,_,n,e3⟩:=I.hok _ _ e
  obtain ⟨as,q,na⟩:=RepFs.reads I h rv
  exact ⟨as,.tuple e1 e2 e3 (by simpa using q),na⟩
 |_,_,_,_,.lst e h,r=>by
  cases r
  obtain ⟨_,its,n,rv,e1⟩:=I.hok _ _ e
  obtain ⟨as,q,na⟩:=RepFs.reads I h rv
  exact ⟨_,.list e1 rfl rfl (by simpa using q),fun z=>by cases z⟩
 |_,_,_,_,.dct (a:=a) e,r=>by
  cases r
  obtain ⟨_,ns,vs,kv,o,es,ep,e1,ex,e3,_,pr,_⟩:=I.hok _ _ e
  have hv:vs=[]:=by cases kv;rfl
  subst hv
  have he:es.toList=[]:=by
   have:=pr.length
   simpa using this
  refine ⟨a::[]++[],.dict (kvs:=[]) e1 ex.1 e3 (by rw [he];exact .nil) (by rw [he];exact .nil),fun _=> ?_⟩
  have:a≠sysModules:=by simpa using ns
  simpa using this.symm
 |_,_,_,_,.dc1 (a:=a) (x:=x) (i:=i) e,r=>by
  cases r
  obtain ⟨_,ns,vs,kv,o,es,ep,e1,ex,e3,_,pr,_⟩:=I.hok _ _ e
  obtain ⟨u,hv,t',hu⟩:∃u,vs=[(Sum.inr x,u)]∧∃t,u=Value.int i t:=by
   cases kv with
   | @cons _ b _ _ r1 r2=>
    cases r2
    obtain ⟨b1,b2⟩:=b
    obtain ⟨z,r1⟩:=r1
    cases z
    exact ⟨_,rfl,r1⟩
  subst hv
  generalize hes:es.toList=el at pr
  cases pr with
  | @cons en _ el _ h1 h2 h3=>
   cases h3
   obtain ⟨t,ht⟩:∃t,en.key=Value.str x t:=by
    rcases Bj (k:=Sum.inr x) (v:=en.key) h1 with ⟨_,_,z,_⟩|⟨y,t,z,e'⟩
    ·cases z
    ·cases z;exact ⟨t,e'⟩
   refine ⟨a::([]++[])++([]++[]),.dict (kvs:=[(.str x,.int i)]) e1 ex.1 e3 ?_ ?_,fun _=> ?_⟩
   ·rw [hes];show ReadsAll s.heap [en.key] [.str x] _;rw [ht];exact .cons (.str x t) .nil
   ·rw [hes];show ReadsAll s.heap [en.val] [.int i] _;rw [h2,hu];exact .cons (.int i t') .nil
   ·have:a≠sysModules:=by simpa using ns
    simpa using this.symm
theorem RepFs.reads {X:Cx} {pins:List (Addr×Obj)} {σ:L2.St} {H:Hp} {s:Shared} (I:Inv X pins σ H s):∀{f:Bool} {vs:List V} {ds:List PyData} {us:List Value},RepFs H f vs ds→Vals vs us→∃as,ReadsAll s.heap us ds as∧(f=true→sysModules ∉ as)
 |_,_,_,_,.nil,r=>by cases r;exact ⟨_,.nil,fun _=>by simp⟩
 |_,_,_,_,.cons h t,r=>by
  cases r with
  |cons r1 r2=>
   obtain ⟨as,q1,n1⟩:=RepF.reads I h r1
   obtain ⟨bs,q2,n2⟩:=RepFs.reads I t r2
   exact ⟨_,.cons q1 q2,fun z=>by simp [n1 z,n2 z]⟩
end
mutual
theorem RepF.nodict {H:Hp}:∀{v:V} {d:PyData},RepF H false v d→d.hasDict=false
 |_,_,.non=>rfl
 |_,_,.bl _=>rfl
 |_,_,.int _=>rfl
 |_,_,.str _=>rfl
 |_,_,.tup _ h=>by rw [PyData.hasDict];exact RepFs.nodict h
 |_,_,.lst _ h=>by rw [PyData.hasDict];exact RepFs.nodict h
theorem RepFs.nodict {H:Hp}:∀{vs:List V} {ds:List PyData},RepFs H false vs ds→PyData.hasDictAll ds=false
 |_,_,.nil=>rfl
 |_,_,.cons h t=>by rw [PyData.hasDictAll,RepF.nodict h,RepFs.nodict t];rfl
end
end Rp
namespace L2
open PySem PySem.Spec PyProof.Rows Rp PySem.P
end L2
namespace Rp
open PySem L2
end Rp
namespace Wk
open PySem L2
end Wk
namespace Wk
open PySem L2
end Wk
namespace StT
open PySem
def Up (xs:Array Nat):Prop:=xs.toList.Pairwise (·<·)
theorem Up.lt {xs:Array Nat} (h:Up xs) {i k a b:Nat} (ik:i<k) (ha:xs[i]? =some a) (hb:xs[k]? =some b):a<b:=by
 rw [←Array.getElem?_toList] at ha hb
 obtain ⟨h1,e1⟩:=List.getElem?_eq_some_iff.mp ha
 obtain ⟨h2,e2⟩:=List.getElem?_eq_some_iff.mp hb
 rw [←e1,←e2]
 exact List.pairwise_iff_getElem.mp h i k h1 h2 ik
theorem go_ok {xs:Array Nat} {j:Nat} (h:Up xs):∀(fuel lo hi:Nat),lo≤hi→hi≤xs.size→hi - lo≤fuel→(∀i a,i<lo→xs[i]? =some a→a<j)→(∀i a,hi≤i→xs[i]? =some a→j≤a)→
  SetTable.below.go xs j fuel lo hi≤xs.size∧(∀i a,i<SetTable.below.go xs j fuel lo hi→xs[i]? =some a→a<j)∧∀i a,SetTable.below.go xs j fuel lo hi≤i→xs[i]? =some a→j≤a
 |0,lo,hi,h1,h2,h3,h4,h5=>by
  have:lo=hi:=by omega
  subst this
  exact ⟨h2,h4,h5⟩
 |fuel+1,lo,hi,h1,h2,h3,h4,h5=>by
  unfold SetTable.below.go
  by_cases c:lo<hi
  ·rw [if_pos c]
   have hm:(lo+hi) / 2<xs.size:=by omega
   have hg:xs[(lo+hi) / 2]? =some (xs.getD ((lo+hi) / 2) j):=by
    rw [Array.getD_eq_getD_getElem?,Array.getElem?_eq_getElem hm];rfl
   dsimp only
   by_cases d:xs.getD ((lo+hi) / 2) j<j
   ·rw [if_pos d]
    refine go_ok h fuel _ _ (by omega) h2 (by omega) (fun i a hi' ha=> ?_) h5
    rcases Nat.lt_or_eq_of_le (show i≤(lo+hi) / 2 by omega) with z|z
    ·exact Nat.lt_trans (h.lt z ha hg) d
    ·rw [z,hg] at ha;cases ha;exact d
   ·rw [if_neg d]
    refine go_ok h fuel _ _ (by omega) (by exact Nat.le_of_lt (by assumption)) (by omega) h4 (fun i a hi' ha=> ?_)
    rcases Nat.lt_or_eq_of_le hi' with z|z
    ·have:=h.lt z hg ha;omega
    ·rw [←z,hg] at ha;cases ha;exact Nat.not_lt.mp (by assumption)
  ·rw [if_neg c]
   have:lo=hi:=by omega
   subst this
   exact ⟨h2,h4,h5⟩
theorem below_ok {xs:Array Nat} (h:Up xs) (j:Nat):SetTable.below xs j≤xs.size∧(∀i a,i<SetTable.below xs j→xs[i]? =some a→a<j)∧∀i a,SetTable.below xs j≤i→xs[i]? =some a→j≤a:=
 go_ok h xs.size 0 xs.size (Nat.zero_le _) (Nat.le_refl _) (by exact Nat.le_refl _) (fun i a hi=>absurd hi (by omega)) fun i a hi ha=>by
  have:=(Array.getElem?_eq_some_iff.mp ha).1
  omega
theorem insert_list {α:Type} (xs:Array α) (p:Nat) (x:α) (hp:p≤xs.size):(SetTable.insertAt xs p x).toList=xs.toList.take p++[x]++xs.toList.drop p:=by
 unfold SetTable.insertAt
 rw [Array.toList_append,Array.toList_push]
 congr 1
 ·congr 1
  rw [Array.toList_extract];simp
 ·rw [Array.toList_extract]
  simp only [List.extract_eq_drop_take]
  exact List.take_of_length_le (by rw [List.length_drop,Array.length_toList];exact Nat.le_refl _)
theorem mem_of_idx {xs:Array Nat} {j:Nat} (h:Up xs) (hj:j∈xs.toList):xs[SetTable.below xs j]? =some j:=by
 obtain ⟨i,hi⟩:=List.getElem?_of_mem hj
 rw [Array.getElem?_toList] at hi
 obtain ⟨b1,b2,b3⟩:=below_ok h j
 have h1:SetTable.below xs j≤i:=by
  rcases Nat.lt_or_ge i (SetTable.below xs j) with z|z
  ·exact absurd (b2 i j z hi) (Nat.lt_irrefl _)
  ·exact z
 have hl:SetTable.below xs j<xs.size:=Nat.lt_of_le_of_lt h1 (Array.getElem?_eq_some_iff.mp hi).1
 have hb:=Array.getElem?_eq_getElem hl
 have h2:=b3 _ _ (Nat.le_refl _) hb
 rcases Nat.lt_or_eq_of_le h1 with z|z
 ·have:=h.lt z hb hi;omega
 ·rw [z];exact hi
theorem up_insert {xs:Array Nat} {j:Nat} (h:Up xs) (hj:j ∉ xs.toList):Up (SetTable.insertAt xs (SetTable.below xs j) j):=by
 obtain ⟨b1,b2,b3⟩:=below_ok h j
 unfold Up
 rw [insert_list xs _ j b1]
 have lo:∀a∈xs.toList.take (SetTable.below xs j),a<j:=fun a ha=>by
  obtain ⟨i,hi⟩:=List.getElem?_of_mem ha
  rw [List.getElem?_take] at hi
  split at hi
  ·rename_i z
   rw [Array.getElem?_toList] at hi
   exact b2 i a z hi
  ·cases hi
 have hi:∀a∈xs.toList.drop (SetTable.below xs j),j<a:=fun a ha=>by
  have hm:a∈xs.toList:=List.mem_of_mem_drop ha
  obtain ⟨i,hi⟩:=List.getElem?_of_mem ha
  rw [List.getElem?_drop,Array.getElem?_toList] at hi
  have:=b3 _ a (Nat.le_add_right _ _) hi
  rcases Nat.lt_or_eq_of_le this with z|z
  ·exact z
  ·exact absurd (z▸hm) hj
 refine List.pairwise_append.mpr ⟨List.pairwise_append.mpr ⟨List.Pairwise.sublist (List.take_sublist ..) h,List.pairwise_singleton ..,fun a ha b hb=> ?_⟩,List.Pairwise.sublist (List.drop_sublist ..) h,fun a ha b hb=> ?_⟩
 ·rw [List.mem_singleton.mp hb];exact lo a ha
 ·rcases List.mem_append.mp ha with z|z
  ·exact Nat.lt_trans (lo a z) (hi b hb)
  ·rw [List.mem_singleton.mp z];exact hi b hb
structure TOk (t:SetTable) (b:Bool):Prop where
 up:Up t.place
 nod:t.dummies= #[]
 led:t.led=b
theorem TOk.fresh (b:Bool):TOk (SetTable.fresh 0 0 b) b:=⟨List.Pairwise.nil,rfl,rfl⟩
theorem TOk.plain {t:SetTable} {b p:Bool} (h:TOk t b):TOk {t with plain:=p} b:=⟨h.up,h.nod,h.led⟩
theorem TOk.standIn {t:SetTable} {b:Bool} (h:TOk t b) (n:Nat):TOk (t.standIn n) b:=by
 refine ⟨?_,rfl,h.led⟩
 show Up (Array.range n)
 unfold Up
 rw [Array.toList_range]
 exact List.pairwise_lt_range
theorem has_nil (j:Nat):SetTable.has #[] j=false:=rfl
theorem slot_cases {t:SetTable} {b:Bool} (h:TOk t b) (j:Nat):(t.slot j= .empty∧j ∉ t.place.toList)∨∃i,t.slot j= .live i:=by
 unfold SetTable.slot
 dsimp only
 by_cases c:(t.place[SetTable.below t.place j]? ==some j)=true
 ·rw [if_pos c];exact .inr ⟨_,rfl⟩
 ·rw [if_neg c,h.nod,has_nil]
  refine .inl ⟨rfl,fun hm=>c ?_⟩
  rw [mem_of_idx h.up hm];simp
theorem advance_dummy (t:SetTable) (p:SetTable.Probe):(t.advance p).dummy=p.dummy:=by
 unfold SetTable.advance
 split
 ·rfl
 ·rfl
theorem probe_free {t:SetTable} {b:Bool} (h:TOk t b) {hashAt:Nat→Int} {hh:Int} {j:Nat} {d:Option Nat}:∀(fuel:Nat) (p:SetTable.Probe),p.dummy=none→SetTable.probe.go t hashAt hh fuel p=some (.empty j d)→d=none∧j ∉ t.place.toList
 |0,p,_,e=>by simp [SetTable.probe.go] at e
 |fuel+1,p,hp,e=>by
  unfold SetTable.probe.go at e
  rcases slot_cases h p.j with ⟨s,hn⟩|⟨i,s⟩
  ·rw [s] at e
   simp only [Option.some.injEq,SetTable.Met.empty.injEq] at e
   exact ⟨by rw [←e.2,hp],by rw [←e.1];exact hn⟩
  ·rw [s] at e
   dsimp only at e
   split at e
   ·cases e
   ·exact probe_free h fuel _ (by rw [advance_dummy];exact hp) e
theorem free_ok {t:SetTable} {b:Bool} (h:TOk t b) {hh:Int} {s:Nat} {wd:Bool} (e:t.freeSlot hh=some (s,wd)):s ∉ t.place.toList:=by
 unfold SetTable.freeSlot at e
 split at e
 ·rename_i j d q
  obtain ⟨rfl,hn⟩:=probe_free h _ _ rfl q
  simp only [Option.getD_none,Option.some.injEq,Prod.mk.injEq] at e
  rw [←e.1];exact hn
 ·cases e
theorem TOk.or {t:SetTable} {b:Bool} (h:TOk t b) (n:Nat):TOk (t.orStandIn n) b:=by
 unfold SetTable.orStandIn
 split
 ·exact h
 ·exact h.standIn n
theorem layNew_ok {t:SetTable} {b:Bool} (h:TOk t b) (es:Array (Int×Value)) (hh:Int) (x:Value):TOk (layNew t es hh x).2.1 b:=by
 unfold layNew
 split
 ·rename_i s wd e
  refine TOk.or (t:=(t.put s).1) ⟨up_insert h.up (free_ok h e),?_,h.led⟩ _
  show (if SetTable.has t.dummies s then _ else t.dummies)= #[]
  rw [h.nod,has_nil];rfl
 ·exact h.standIn _
theorem laid_up {mask:Nat} {owner:Array (Option Nat)}:Up ((((List.range (mask+1)).filterMap fun j=>(owner.getD j none).map (j,·)).map (·.1)).toArray):=by
 unfold Up
 rw [List.toList_toArray]
 have:(((List.range (mask+1)).filterMap fun j=>(owner.getD j none).map (j,·)).map (·.1)).Sublist (List.range (mask+1)):=by
  generalize List.range (mask+1)=l
  induction l with
  |nil=>exact List.Sublist.refl _
  |cons a l ih=>
   rw [List.filterMap_cons]
   cases owner.getD a none with
   |none=>exact ih.cons a
   |some k=>exact ih.cons₂ a
 exact List.Pairwise.sublist this List.pairwise_lt_range
theorem relay_ok {t:SetTable} {b:Bool} (h:TOk t b) (es:Array (Int×Value)) (wanted:Nat):TOk (relayAll t es wanted).2.1 b:=by
 unfold relayAll
 split
 ·rename_i t' order e
  have ht:TOk t' b:=by
   unfold SetTable.relaid SetTable.laid at e
   cases q:SetTable.layClean (SetTable.sizeAbove wanted - 1) (es.map (·.1)) with
   |none=>rw [q] at e;cases e
   |some owner=>
    rw [q] at e
    have e:some (({mask:=SetTable.sizeAbove wanted - 1,place:=(((List.range (SetTable.sizeAbove wanted - 1+1)).filterMap fun j=>(owner.getD j none).map (j,·)).map (·.1)).toArray,dummies:= #[],finger:=t.finger,led:=t.led,moves:=t.movedTo (SetTable.sizeAbove wanted - 1),plain:=t.plain}:SetTable),(((List.range (SetTable.sizeAbove wanted - 1+1)).filterMap fun j=>(owner.getD j none).map (j,·)).map (·.2)).toArray)=some (t',order):=e
    injection e with e
    injection e with e _
    rw [←e]
    exact ⟨laid_up,rfl,h.led⟩
  dsimp only
  split
  ·exact ht
  ·exact h.standIn _
 ·exact h.standIn _
end StT
namespace StT
open PySem
end StT
namespace StT
open PySem
section
variable {prog:Program} {w:World} {K:Type} [DecidableEq K] {knd:KeyKind prog w K} {A:Around} {E:Value→Shared→Prop} {s:Shared}
def Dis (knd:KeyKind prog w K) (l:List (Int×Value)):Prop:=l.Pairwise fun e e'=>∀k,¬(knd.is k e.2=true∧knd.is k e'.2=true)
theorem Dis.perm {l l':List (Int×Value)} (h:Dis knd l) (p:l'.Perm l):Dis knd l':=(p.pairwise_iff fun {x y} z k c=>z k ⟨c.2,c.1⟩).mpr h
theorem Dis.push {l:List (Int×Value)} {S:K→Bool} (h:Dis knd l) (mem:∀k,S k=true↔∃e∈l,knd.is k e.2=true) {k:K} {x:Value} {i:Int} (hk:knd.is k x=true) (hS:S k=false):Dis knd (l++[(i,x)]):=by
 refine List.pairwise_append.mpr ⟨h,List.pairwise_singleton ..,fun e he e' he' k' c=> ?_⟩
 rw [List.mem_singleton.mp he'] at c
 have:=knd.inj x k' k c.2 hk
 subst this
 rw [(mem k').mpr ⟨e,he,c.1⟩] at hS
 cases hS
def SetU (knd:KeyKind prog w K) (h:Heap) (a:Addr) (S:K→Bool) (n:Nat) (b:Bool):Prop:=∃o es ep t,h.get? a=some o∧o.ExactSet∧o.data= .set es ep t∧ElemsOf knd es.toList∧(∀k,S k=true↔∃e∈es.toList,knd.is k e.2=true)∧es.size<scanBound∧t.fits es.size=true∧es.size=n∧TOk t b∧Dis knd es.toList
theorem SetU.congr {h:Heap} {a:Addr} {S S':K→Bool} {n n':Nat} {b:Bool} (x:SetU knd h a S n b) (e:∀k,S k=S' k) (en:n=n'):SetU knd h a S' n' b:=by
 obtain rfl:S=S':=funext e
 subst en
 exact x
theorem SetU.put {h:Heap} {a:Addr} {o:Obj} {es:Array (Int×Value)} {ep:Nat} {t:SetTable} {b:Bool} (ho:h.get? a=some o) (hex:o.ExactSet) (hd:o.data= .set es ep t) {es':Array (Int×Value)} {t':SetTable} {S':K→Bool} (el:ElemsOf knd es'.toList) (mem:∀k,S' k=true↔∃e∈es'.toList,knd.is k e.2=true) (sz:es'.size<scanBound) (fit:t'.fits es'.size=true) (ok:TOk t' b) (dis:Dis knd es'.toList):
  (h.update a (Obj.putSet es' t')).get? a=some {o with data:= .set es' (ep+1) t'}∧SetU knd (h.update a (Obj.putSet es' t')) a S' es'.size b:=by
 have z:=(SetOf_store (knd:=knd) (es':=es') (t':=t') (S':=S') ho hex hd el mem sz fit).1
 exact ⟨z,_,es',ep+1,t',z,hex,rfl,el,mem,sz,fit,rfl,ok,dis⟩
theorem add_tail {g:Bool→Sem Unit} (hg:∀(c:Bool) (s1:Shared) (Q1:Unit→Shared→Prop),Q1 () s1→wpAny (model prog w) A (g c) Q1 E s1) {a:Addr} {o:Obj} {es:Array (Int×Value)} {ep:Nat} {t:SetTable} {b:Bool} (ho:s.heap.get? a=some o) (hex:o.ExactSet) (hd:o.data= .set es ep t)
  {e1:Array (Int×Value)} {t1:SetTable} {S':K→Bool} (el:ElemsOf knd e1.toList) (mem:∀k,S' k=true↔∃e∈e1.toList,knd.is k e.2=true) (sz:e1.size<scanBound) (fit:t1.fits e1.size=true) (ok:TOk t1 b) (dis:Dis knd e1.toList) {wd:Bool} {R:Option Bool→Shared→Prop}
  (q:∀h',Heap.SameBut a s.heap h'→SetU knd h' a S' e1.size b→R (some true) {s with heap:=h'}):
  wpAny (model prog w) A (do
   storeSet a e1 t1
   if (!wd && t1.tooFull)=true then do
    g (relayAll t1 e1 (SetTable.grown e1.size)).2.2
    storeSet a (relayAll t1 e1 (SetTable.grown e1.size)).1 (relayAll t1 e1 (SetTable.grown e1.size)).2.1
    pure (some true)
   else pure (some true)) R E s:=by
 refine wpAny_bind (wpAny_storeSet_of ho hd ?_ (fits_of_scanBound sz))
 obtain ⟨ho1,u1⟩:=SetU.put (knd:=knd) ho hex hd el mem sz fit ok dis
 have sb1:=Heap.SameBut.update s.heap a (Obj.putSet e1 t1)
 split
 ·have pm:=relayAll_perm t1 e1 (SetTable.grown e1.size)
  have ft:=relayAll_fits t1 e1 (SetTable.grown e1.size)
  have tk:=relay_ok ok e1 (SetTable.grown e1.size)
  generalize relayAll t1 e1 (SetTable.grown e1.size)=Rl at pm ft tk ⊢
  obtain ⟨e2,t2,gv⟩:=Rl
  dsimp only at pm ft tk ⊢
  have sz2:e2.size=e1.size:=by rw [←Array.length_toList,pm.length_eq,Array.length_toList]
  have mem2:∀k,S' k=true↔∃e∈e2.toList,knd.is k e.2=true:=fun k=>by
   rw [mem k]
   exact ⟨fun ⟨e,he,z⟩=>⟨e,pm.mem_iff.mpr he,z⟩,fun ⟨e,he,z⟩=>⟨e,pm.mem_iff.mp he,z⟩⟩
  refine wpAny_bind (hg _ _ _ (wpAny_bind (wpAny_storeSet_of ho1 rfl ?_ (fits_of_scanBound (by omega)))))
  have u2:=(SetU.put (knd:=knd) ho1 hex rfl (el.perm pm) mem2 (by omega) ft tk (dis.perm pm)).2
  rw [sz2] at u2
  exact wpAny_pure (q _ (sb1.trans (Heap.SameBut.update _ a _)) u2)
 ·exact wpAny_pure (q _ sb1 u1)
theorem add_ok {a:Addr} {S:K→Bool} {n:Nat} {b:Bool} {k:K} {x:Value} {Q:Bool→Shared→Prop} (hk:knd.is k x=true) (hx:x.scannable=true) (hS:SetU knd s.heap a S n b) (hr:n+1<scanBound)
  (q:∀h',Heap.SameBut a s.heap h'→SetU knd h' a (fun k'=>S k'||decide (k'=k)) (if S k then n else n+1) b→Q (!S k) {s with heap:=h'}):wpAny (model prog w) A (setAddHashed a x (knd.hash k)) Q E s:=by
 obtain ⟨o,es,ep,t,ho,hex,hd,el,mem,sz,fit,hn,ok,dis⟩:=hS
 unfold setAddHashed setAddHashedIn
 refine wpAny_holding (wpAny_bind (wpAny_setState_of ho hd fit ?_))
 dsimp only
 rw [byScan_of hx sz el]
 simp only [↓reduceIte]
 unfold setAddByScan
 refine wpAny_bind (wpAny_bind (wpAny_rule (wpAny_bind (wpAny_setScan_of hk ho hd fit el ?_))))
 cases fi:List.findIdx? (fun e=>knd.is k e.2) es.toList with
 |some j=>
  dsimp only
  obtain ⟨hj,pj,_⟩:=List.findIdx?_eq_some_iff_getElem.mp fi
  have Sk:S k=true:=(mem k).mpr ⟨es.toList[j],List.getElem_mem hj,pj⟩
  refine wpAny_pure (wpAny_pure ?_)
  have z:=q s.heap (Heap.SameBut.refl a s.heap) ⟨o,es,ep,t,ho,hex,hd,el,fun k'=>by
   rw [Bool.or_eq_true,decide_eq_true_eq,←mem k']
   constructor
   ·rintro (h|rfl)
    ·exact h
    ·exact Sk
   ·exact .inl,sz,fit,by rw [Sk];exact hn,ok,dis⟩
  rw [Sk] at z
  have es:s={s with heap:=s.heap}:=by cases s;rfl
  rw [es]
  exact z
 |none=>
  dsimp only
  have Sk:S k=false:=by
   cases c:S k with
   |false=>rfl
   |true=>
    obtain ⟨e,he,z⟩:=(mem k).mp c
    have:=List.findIdx?_eq_none_iff.mp fi e he
    rw [z] at this
    cases this
  have gw:∀(c:Bool) {s1:Shared} {Q1:Unit→Shared→Prop},Q1 () s1→wpAny (model prog w) A (match c with|true=>rule "set.scan.the-table-gave-way"|false=>pure ()) Q1 E s1:=fun c s1 Q1 h1=>by
   cases c
   ·exact wpAny_pure h1
   ·exact wpAny_rule h1
  have pm:=layNew_perm t es (knd.hash k) x
  have ft:=layNew_fits t es (knd.hash k) x
  have tk:=layNew_ok ok es (knd.hash k) x
  generalize layNew t es (knd.hash k) x=L at pm ft tk ⊢
  obtain ⟨e1,t1,wd,gv⟩:=L
  dsimp only at pm ft tk ⊢
  rw [Array.toList_push] at pm
  have el1:ElemsOf knd e1.toList:=(el.push hk hx).perm pm
  have mem1:=mem_push_iff hk mem pm
  have dis1:Dis knd e1.toList:=(dis.push mem hk Sk).perm pm
  have sz1:e1.size=n+1:=by rw [←Array.length_toList,pm.length_eq,List.length_append,Array.length_toList,hn];rfl
  have fin:∀h',Heap.SameBut a s.heap h'→SetU knd h' a (fun k'=>S k'||decide (k'=k)) e1.size b→Q true {s with heap:=h'}:=fun h' sb u=>by
   have z:=q h' sb
   rw [Sk] at z
   rw [sz1] at u
   exact z u
  refine wpAny_bind (gw _ ?_)
  split
  ·refine wpAny_bind ?_
   rw [hashByValue_scannable 8 hx]
   refine wpAny_pure ?_
   refine add_tail (b:=b) ?_ ho hex hd el1 mem1 (by omega) ?_ ?_ dis1 fun h' sb u=> ?_
   ·intro c s1 Q1 h1
    cases c<;> first|exact wpAny_pure h1|exact wpAny_rule h1
   ·split
    ·exact ft
    ·exact SetTable.fits_plain_off ft
   ·split
    ·exact tk
    ·exact tk.plain
   ·dsimp only;exact wpAny_pure (fin h' sb u)
  ·refine wpAny_bind (wpAny_pure ?_)
   simp only [↓reduceIte]
   refine add_tail (b:=b) ?_ ho hex hd el1 mem1 (by omega) ft tk dis1 fun h' sb u=> ?_
   ·intro c s1 Q1 h1
    cases c<;> first|exact wpAny_pure h1|exact wpAny_rule h1
   ·dsimp only;exact wpAny_pure (fin h' sb u)
end
end StT
namespace StT
open PySem PyProof.Rows
section
variable {prog:Program} {w:World} {K:Type} [DecidableEq K] {knd:KeyKind prog w K} {A:Around} {E:Value→Shared→Prop} {s:Shared}
theorem SetU.at {h h':Heap} {a:Addr} {S:K→Bool} {n:Nat} {b:Bool} (x:SetU knd h a S n b) (f:∀o,h.get? a=some o→h'.get? a=some o):SetU knd h' a S n b:=let ⟨o,es,ep,t,ho,r⟩:=x;⟨o,es,ep,t,f o ho,r⟩
def metF (val:Nat→K) (i:Nat) (k:K):Bool:=(List.range i).any fun j=>decide (k=val j)
theorem met_succ (val:Nat→K) (i:Nat) (k:K):metF val (i+1) k=(metF val i k||decide (k=val i)):=by
 unfold metF
 rw [List.range_succ,List.any_append];simp
end
section
variable {prog:Program} {w:World} {K:Type} [DecidableEq K] {knd:KeyKind prog w K} {A:Around} {R:Result→Shared→Prop} {I:Addr} {fp wr:List Addr} {G:Array GenState→Array GenState→Prop} {n:Nat} {P:Nat→Value→Prop} {St:Nat→Shared→Prop}
theorem upd_loop (W:WalksS prog w A.in1 I fp wr G n P St) {T:Addr} (hT:T ∉ fp) {val:Nat→K} (hv:∀i v,P i v→knd.is (val i) v=true∧v.scannable=true) (hb:n+1<scanBound) {b:Bool}:
  ∀(k i:Nat) (s:Shared),n - i=k→i≤n→St i s→(∃m,m≤i∧SetU knd s.heap T (metF val i) m b)→
   (∀s',Moved (T::wr) G s s'→(∃m,m≤n∧SetU knd s'.heap T (metF val n) m b)→R (.ok (.ret .none)) s')→
   codeAny (model prog w) A (.builtin "set.update.loop" ⟨[.ref T,.ref I],[]⟩) R s
 |0,i,s,hk,hi,st,⟨m,mi,u⟩,q=>by
  obtain rfl:i=n:=by omega
  have nw:T ∉ wr:=fun z=>hT (W.sub _ z)
  refine codeAny_builtin F.entry_set_update_loop ?_
  rw [Around.under_plainId F.plain_set_update_loop _]
  refine wpAny_bind (m:=pyNext (.ref I)) (W.done s _ _ st fun s' mv=> ?_)
  exact wpAny_pure (q s' (mv.mono fun x hx=>List.mem_cons_of_mem _ hx) ⟨m,mi,u.at fun o e=>mv.heap T o nw e⟩)
 |k+1,i,s,hk,hi,st,⟨m,mi,u⟩,q=>by
  have lt:i<n:=by omega
  have nw:T ∉ wr:=fun z=>hT (W.sub _ z)
  refine codeAny_builtin F.entry_set_update_loop ?_
  rw [Around.under_plainId F.plain_set_update_loop _]
  refine wpAny_bind (m:=pyNext (.ref I)) (W.item i s _ _ lt st fun v s' pv st' mv=> ?_)
  obtain ⟨hk1,hk2⟩:=hv i v pv
  have u':=u.at (h':=s'.heap) fun o e=>mv.heap T o nw e
  refine wpAny_bind (m:=holding [v] (setAdd T v)) (wpAny_holding ?_)
  unfold setAdd
  refine wpAny_holding (wpAny_bind (knd.pyHash hk1 ?_))
  refine add_ok (s:={s' with toks:=s'.toks+1}) hk1 hk2 u' (by omega) fun h' sb u2=> ?_
  have mv2:Moved (T::wr) G s {s' with heap:=h',toks:=s'.toks+1}:=(mv.mono fun x hx=>List.mem_cons_of_mem _ hx).then_heap (Nat.le_succ _) fun x o hx e=>by
   rw [sb.2 x fun z=>hx (z▸List.mem_cons_self)];exact e
  refine wpAny_pure ⟨plainId_quiet F.plain_set_update_loop _,upd_loop W hT hv hb k (i+1) _ (by omega) lt (W.frame _ s' _ _ st' (Nat.le_succ _) fun x hx o e=> ?_) ⟨if metF val i (val i) then m else m+1,?_,u2.congr (fun k'=>(met_succ val i k').symm) rfl⟩ fun s'' m'' u''=>q s'' (Moved.trans W.gtrans mv2 m'') u''⟩
  ·rw [sb.2 x fun z=>hT (z▸hx)];exact e
  ·split<;> omega
end
section
variable {prog:Program} {w:World} {K:Type} [DecidableEq K] {knd:KeyKind prog w K} {A:Around} {E:Value→Shared→Prop} {s:Shared}
def byT (w:World):Bool:=w.params.followText "set-order"
theorem set_new (a:Value) {Q1:Value→Shared→Prop} (q:Q1 (.ref s.heap.objs.size) {s with heap:=s.heap.push {cls:= .type "set",dict:=none,data:= .set #[] 0 (.fresh 0 0 (!byT w))}}):
  codeAny (model prog w) A (.call (.builtin "set.__new__") ⟨[.type "set",a],[]⟩) (wants Q1 E) s:=by
 refine codeAny_call_builtin F.plain_set_new F.entry_set_new (wpAny_of_eq (F.newCall_set_1 a) ?_)
 unfold Builtin.«set.__new__» Builtin.Frozenset.newClass
 have hsub:=sub_set_self
 obtain ⟨hp,g,d,tk,os⟩:=s
 dsimp only
 wp_walk
 refine wpAny_askSetting (wpAny_pure ?_)
 dsimp only
 simp only [newObj]
 exact wpAny_bind (wpAny_alloc (wpAny_pure (wpAny_pure q)))
end
end StT
namespace StT
open PySem PyProof.Rows
theorem tup_set:isSubtype (.type "tuple") (.type "set")=pure false:=by rw [isSubtype_type];kernel_rfl
theorem tup_fro:isSubtype (.type "tuple") (.type "frozenset")=pure false:=by rw [isSubtype_type];kernel_rfl
section
variable {prog:Program} {w:World} {K:Type} [DecidableEq K] {knd:KeyKind prog w K} {A:Around} {E:Value→Shared→Prop} {s:Shared}
theorem call_set_list {l:Addr} {items:Array Value} {Q:Value→Shared→Prop} {val:Nat→K} (hh:A.handled=none) (hl:s.heap.IsList l items) (hv:∀i v,items[i]? =some v→knd.is (val i) v=true∧v.scannable=true) (hb:items.size+1<scanBound)
  (q:∀(h':Heap) (tk m:Nat),m≤items.size→SetU knd h' s.heap.objs.size (metF val items.size) m (!byT w)→(∀b o,s.heap.get? b=some o→h'.get? b=some o)→Q (.ref s.heap.objs.size) {s with heap:=h',toks:=tk}):wpAny (model prog w) A (call (.type "set") [.ref l]) Q E s:=by
 have cs:=F.called_set
 obtain ⟨c,tl,m1⟩:=cs.mro
 have m2:=cs.made
 have m3:=cs.sub
 refine wpAny_call (codeAny_of_tree (wpAny_pure ⟨Code.quiet_builtin _ (by decide+kernel),codeAny_builtin F.entry_type_call ?_⟩))
 rw [Around.under_plain (weight_type_call_type "set" [.ref l] []) rfl]
 have m4:=cs.notType
 have m5:=cs.canCreate
 have m6:=F.typeCall_set_1 (.ref l)
 repeat (any_goals (first|assumption|wp_step))
 have hN:(s.heap.push {cls:= .type "set",dict:=none,data:= .set #[] 0 (.fresh 0 0 (!byT w))}).get? s.heap.objs.size=some {cls:= .type "set",dict:=none,data:= .set #[] 0 (.fresh 0 0 (!byT w))}:=Heap.get?_push_size _ rfl
 refine codeAny_mono (set_new (.ref l) (E:=E) (Q1:=fun v t=>v= .ref s.heap.objs.size∧t={s with heap:=s.heap.push {cls:= .type "set",dict:=none,data:= .set #[] 0 (.fresh 0 0 (!byT w))}}) ⟨rfl,rfl⟩) fun r1 t1 z1=> ?_
 rcases r1 with e1|f1
 ·exact z1
 cases f1
 case ret v1=>
  obtain ⟨rfl,rfl⟩:=z1
  have tS:Shared.TypeIs {s with heap:=s.heap.push {cls:= .type "set",dict:=none,data:= .set #[] 0 (.fresh 0 0 (!byT w))}} (.ref s.heap.objs.size) "set":=⟨_,hN,rfl⟩
  have m7:=cs.init.lookup
  have m8:=cs.init.bind (.ref s.heap.objs.size)
  repeat (any_goals (first|assumption|wp_step))
  refine codeAny_mono (codeAny_call_builtin (R:=wants (fun v t=>v= .none∧∃h' tk m,t={s with heap:=h',toks:=tk}∧m≤items.size∧SetU knd h' s.heap.objs.size (metF val items.size) m (!byT w)∧∀b o,s.heap.get? b=some o→h'.get? b=some o) E) cs.init.plain F.entry_set_init (check_set_init_1 tS ?_)) fun r2 t2 z2=> ?_
  ·obtain ⟨⟨c0,d0,da0,s0⟩,g0,hc0,n0,hd0⟩:=id hl
   simp only at hc0 hd0
   subst hc0
   subst hd0
   have g1:(s.heap.push {cls:= .type "set",dict:=none,data:= .set #[] 0 (.fresh 0 0 (!byT w))}).get? l=some {cls:= .type "list",dict:=d0,data:= .seq items n0,slots:=s0}:=Heap.get?_push_of_some _ g0
   have a1:=F.sub_list_set
   have a2:=F.sub_list_frozenset
   have a3:(Value.type "list"==Value.type "dict")=false:=by decide
   have hl1:(s.heap.push {cls:= .type "set",dict:=none,data:= .set #[] 0 (.fresh 0 0 (!byT w))}).IsList l items:=⟨_,g1,rfl,n0,rfl⟩
   unfold Builtin.«set.__init__» noKeywords Builtin.Frozenset.updateFrom
   generalize hI:pyIter=PI
   wp_walk
   subst hI
   refine wpAny_pyIter_list hl1 (wpAny_bind (wpAny_runValue ?_))
   have lS:l<s.heap.objs.size:=Heap.lt_size g0
   have h3:A.in1.in1.in1.handled=none:=by simp [hh]
   have nI:l≠(s.heap.push {cls:= .type "set",dict:=none,data:= .set #[] 0 (.fresh 0 0 (!byT w))}).objs.size:=by
    rw [Heap.size_push];exact Nat.ne_of_lt (Nat.lt_succ_of_lt lS)
   have nS:s.heap.objs.size ∉ [(s.heap.push {cls:= .type "set",dict:=none,data:= .set #[] 0 (.fresh 0 0 (!byT w))}).objs.size,l]:=by
    rw [Heap.size_push]
    simp only [List.mem_cons,List.not_mem_nil,or_false,not_or]
    exact ⟨Nat.ne_of_lt (Nat.lt_succ_self _),Nat.ne_of_gt lS⟩
   refine upd_loop ((Walks.list h3 _ l nI items).toS) nS (val:=val) (b:= !byT w) hv hb (items.size - 0) 0 _ (by omega) (Nat.zero_le _) ⟨⟨_,Heap.get?_push_size _ rfl,rfl,rfl⟩,hl1.push _⟩ ⟨0,Nat.le_refl _,?_⟩ fun t mv ⟨m,mi,u⟩=> ?_
   ·exact ⟨_,#[],0,_,Heap.get?_push_of_some _ hN,⟨rfl,rfl,rfl⟩,rfl,fun e he=>(by simp at he),fun k=>(by simp [metF]),by unfold scanBound;decide,rfl,rfl,TOk.fresh _,List.Pairwise.nil⟩
   ·obtain ⟨h',g',d',tk',os'⟩:=t
    obtain rfl:g'=s.gens:=mv.gens
    obtain rfl:d'=s.drawn:=mv.drawn
    obtain rfl:os'=s.os:=mv.os
    refine wpAny_pure (wpAny_pure ⟨rfl,h',tk',m,rfl,mi,u,fun b o e=> ?_⟩)
    have lb:b<s.heap.objs.size:=Heap.lt_size e
    refine mv.heap b o ?_ (Heap.get?_push_of_some _ (Heap.get?_push_of_some _ e))
    rw [Heap.size_push]
    simp only [List.mem_cons,List.not_mem_nil,or_false,not_or]
    exact ⟨Nat.ne_of_lt lb,Nat.ne_of_lt (Nat.lt_succ_of_lt lb)⟩
  ·rcases r2 with e2|f2
   ·exact z2
   cases f2
   case ret v2=>
    obtain ⟨rfl,h',tk,m,rfl,mi,u,kp⟩:=z2
    repeat (any_goals (first|assumption|wp_step))
    exact q h' tk m mi u kp
   all_goals exact z2.elim
 all_goals exact z1.elim
theorem call_set_tuple {l:Addr} {items:Array Value} {Q:Value→Shared→Prop} {val:Nat→K} (hh:A.handled=none) (hl:s.heap.IsTuple l items) (hv:∀i v,items[i]? =some v→knd.is (val i) v=true∧v.scannable=true) (hb:items.size+1<scanBound)
  (q:∀(h':Heap) (tk m:Nat),m≤items.size→SetU knd h' s.heap.objs.size (metF val items.size) m (!byT w)→(∀b o,s.heap.get? b=some o→h'.get? b=some o)→Q (.ref s.heap.objs.size) {s with heap:=h',toks:=tk}):wpAny (model prog w) A (call (.type "set") [.ref l]) Q E s:=by
 have cs:=F.called_set
 obtain ⟨c,tl,m1⟩:=cs.mro
 have m2:=cs.made
 have m3:=cs.sub
 refine wpAny_call (codeAny_of_tree (wpAny_pure ⟨Code.quiet_builtin _ (by decide+kernel),codeAny_builtin F.entry_type_call ?_⟩))
 rw [Around.under_plain (weight_type_call_type "set" [.ref l] []) rfl]
 have m4:=cs.notType
 have m5:=cs.canCreate
 have m6:=F.typeCall_set_1 (.ref l)
 repeat (any_goals (first|assumption|wp_step))
 have hN:(s.heap.push {cls:= .type "set",dict:=none,data:= .set #[] 0 (.fresh 0 0 (!byT w))}).get? s.heap.objs.size=some {cls:= .type "set",dict:=none,data:= .set #[] 0 (.fresh 0 0 (!byT w))}:=Heap.get?_push_size _ rfl
 refine codeAny_mono (set_new (.ref l) (E:=E) (Q1:=fun v t=>v= .ref s.heap.objs.size∧t={s with heap:=s.heap.push {cls:= .type "set",dict:=none,data:= .set #[] 0 (.fresh 0 0 (!byT w))}}) ⟨rfl,rfl⟩) fun r1 t1 z1=> ?_
 rcases r1 with e1|f1
 ·exact z1
 cases f1
 case ret v1=>
  obtain ⟨rfl,rfl⟩:=z1
  have tS:Shared.TypeIs {s with heap:=s.heap.push {cls:= .type "set",dict:=none,data:= .set #[] 0 (.fresh 0 0 (!byT w))}} (.ref s.heap.objs.size) "set":=⟨_,hN,rfl⟩
  have m7:=cs.init.lookup
  have m8:=cs.init.bind (.ref s.heap.objs.size)
  repeat (any_goals (first|assumption|wp_step))
  refine codeAny_mono (codeAny_call_builtin (R:=wants (fun v t=>v= .none∧∃h' tk m,t={s with heap:=h',toks:=tk}∧m≤items.size∧SetU knd h' s.heap.objs.size (metF val items.size) m (!byT w)∧∀b o,s.heap.get? b=some o→h'.get? b=some o) E) cs.init.plain F.entry_set_init (check_set_init_1 tS ?_)) fun r2 t2 z2=> ?_
  ·obtain ⟨⟨c0,d0,da0,s0⟩,g0,hc0,n0,hd0⟩:=id hl
   simp only at hc0 hd0
   subst hc0
   subst hd0
   have g1:(s.heap.push {cls:= .type "set",dict:=none,data:= .set #[] 0 (.fresh 0 0 (!byT w))}).get? l=some {cls:= .type "tuple",dict:=d0,data:= .seq items n0,slots:=s0}:=Heap.get?_push_of_some _ g0
   have a1:=tup_set
   have a2:=tup_fro
   have a3:(Value.type "tuple"==Value.type "dict")=false:=by decide
   have hl1:(s.heap.push {cls:= .type "set",dict:=none,data:= .set #[] 0 (.fresh 0 0 (!byT w))}).IsTuple l items:=⟨_,g1,rfl,n0,rfl⟩
   unfold Builtin.«set.__init__» noKeywords Builtin.Frozenset.updateFrom
   generalize hI:pyIter=PI
   wp_walk
   subst hI
   refine wpAny_pyIter_tuple hl1 (wpAny_bind (wpAny_runValue ?_))
   have lS:l<s.heap.objs.size:=Heap.lt_size g0
   have h3:A.in1.in1.in1.handled=none:=by simp [hh]
   have nI:l≠(s.heap.push {cls:= .type "set",dict:=none,data:= .set #[] 0 (.fresh 0 0 (!byT w))}).objs.size:=by
    rw [Heap.size_push];exact Nat.ne_of_lt (Nat.lt_succ_of_lt lS)
   have nS:s.heap.objs.size ∉ [(s.heap.push {cls:= .type "set",dict:=none,data:= .set #[] 0 (.fresh 0 0 (!byT w))}).objs.size,l]:=by
    rw [Heap.size_push]
    simp only [List.mem_cons,List.not_mem_nil,or_false,not_or]
    exact ⟨Nat.ne_of_lt (Nat.lt_succ_self _),Nat.ne_of_gt lS⟩
   refine upd_loop ((Walks.tuple h3 _ l nI items).toS) nS (val:=val) (b:= !byT w) hv hb (items.size - 0) 0 _ (by omega) (Nat.zero_le _) ⟨⟨_,Heap.get?_push_size _ rfl,rfl,rfl⟩,hl1.push _⟩ ⟨0,Nat.le_refl _,?_⟩ fun t mv ⟨m,mi,u⟩=> ?_
   ·exact ⟨_,#[],0,_,Heap.get?_push_of_some _ hN,⟨rfl,rfl,rfl⟩,rfl,fun e he=>(by simp at he),fun k=>(by simp [metF]),by unfold scanBound;decide,rfl,rfl,TOk.fresh _,List.Pairwise.nil⟩
   ·obtain ⟨h',g',d',tk',os'⟩:=t
    obtain rfl:g'=s.gens:=mv.gens
    obtain rfl:d'=s.drawn:=mv.drawn
    obtain rfl:os'=s.os:=mv.os
    refine wpAny_pure (wpAny_pure ⟨rfl,h',tk',m,rfl,mi,u,fun b o e=> ?_⟩)
    have lb:b<s.heap.objs.size:=Heap.lt_size e
    refine mv.heap b o ?_ (Heap.get?_push_of_some _ (Heap.get?_push_of_some _ e))
    rw [Heap.size_push]
    simp only [List.mem_cons,List.not_mem_nil,or_false,not_or]
    exact ⟨Nat.ne_of_lt lb,Nat.ne_of_lt (Nat.lt_succ_of_lt lb)⟩
  ·rcases r2 with e2|f2
   ·exact z2
   cases f2
   case ret v2=>
    obtain ⟨rfl,h',tk,m,rfl,mi,u,kp⟩:=z2
    repeat (any_goals (first|assumption|wp_step))
    exact q h' tk m mi u kp
   all_goals exact z2.elim
 all_goals exact z1.elim
end
end StT
namespace StT
open PySem PyProof.Rows
end StT
namespace StT
open PySem PyProof.Rows
end StT
namespace StT
open PySem PyProof.Rows
end StT
namespace StT
open PySem PyProof.Rows
end StT
namespace Srt
open PySem PySem.W PyProof.Rows
end Srt
namespace StT
open PySem PyProof.Rows L2
end StT
namespace StT
open PySem PySem.W PyProof.Rows L2 Srt
end StT
namespace L2
open PySem PySem.W PyProof.Rows StT
end L2
namespace L2
open PySem PySem.W PySem.Spec PyProof.Rows StT Srt
section
variable {X:Cx}
theorem vals_intsV:∀{ns:List Int} {us:List Value},Vals (ns.map V.int) us→∀y∈us,∃j t',y= .int j t':=by
 intro ns us hv
 induction ns generalizing us with
 |nil=>cases hv;intro y hy;cases hy
 |cons n ns ih=>
  cases hv with
  |cons h tl=>
   intro y hy
   rcases List.mem_cons.mp hy with rfl|hy
   ·obtain ⟨u,rfl⟩:=h;exact ⟨n,u,rfl⟩
   ·exact ih tl y hy
def isIv (i:Int):Value→Bool
 | .int j _=>j==i
 |_=>false
theorem countI {i:Int}:∀{ns:List Int} {us:List Value},Vals (ns.map V.int) us→us.countP (isIv i)=ns.count i
 |[],_,.nil=>rfl
 |n::ns,_,.cons h t=>by
  obtain ⟨u,rfl⟩:=h
  rw [List.countP_cons,List.count_cons,countI t]
  rfl
inductive RCountLP (x:V) (vs:List V) (H:Hp) (Q:VK):Prop
 |mk (a:Addr) (ns:List Int) (i:Int):(x= .ref a)→(vs=[.int i])→(H a=some (.lst (ns.map V.int)))→(Q (.int (ns.count i:Nat)) H)→RCountLP x vs H Q
def rCountL:V→List V→Hp→VK→Prop:=fun x vs H Q=>RCountLP x vs H Q
theorem mt_countL:MtM X "list.count" rCountL:=by
 intro pins s σ H x xs v us Q I rx r h
 obtain ⟨a,ns,i,rfl,rfl,ha,q⟩:=h
 cases rx
 obtain ⟨u,rfl,⟨t,rfl⟩⟩:=vals1 r
 obtain ⟨hz,its,n,rv,hlen,ho⟩:=I.lstM ha
 refine call_meets PySem.F.slot_list_count ⟨_,ho,rfl⟩ PySem.F.entry_list_count (PySem.F.args_list_count_2 _ _) (SeqAt.list_countAt a its.toArray n none #[] (.int i t) (isIv i)) ⟨ho,?_,?_⟩
 ·intro y hy
  have hy:y∈its:=by simpa using hy
  obtain ⟨j,t',rfl⟩:=vals_intsV rv y hy
  exact SeqAt.EqAt.int_int j t' i t
 ·refine ⟨.int _,H,I.tok _,⟨_,rfl⟩,?_⟩
  rw [show its.toArray.toList.countP (isIv i)=ns.count i from countI rv]
  exact q
end
end L2
namespace L2
open PySem PySem.Spec PyProof.Rows
end L2
namespace PySem
open Sem (wp)
section
variable {prog:Program} {w:World} {A:Around} {E:Value→Shared→Prop} {h:Heap} {g:Array GenState} {d:Drawn} {t:Nat} {os:OsState} {K:PySem.W.Frag}
variable {nm q:Str} {C N f:Addr} {bs bm:List Value} {hdct:Bool} {sn:List Str} {sub:List Value} {ab:Bool} {col:Option Bool} {dd:Option Addr} {k0 k1 k2 k3 k5:Option Value}
end
end PySem
namespace L2
open PySem PySem.Spec PyProof.Rows
end L2
namespace PySem
open Sem (wp)
end PySem
namespace L2
open PySem PySem.Spec PyProof.Rows
end L2
namespace PySem
open Sem (wp)
end PySem
namespace L2
open PySem PySem.Spec PyProof.Rows
end L2
namespace L2
open PySem PySem.Spec PyProof.Rows
end L2
namespace L2
open PySem PySem.Spec PyProof.Rows
end L2
namespace PySem
open Sem (wp)
end PySem
namespace L2
open PySem PySem.Spec PyProof.Rows
end L2
namespace L2
open PySem PySem.Spec PyProof.Rows
end L2
namespace PySem
open Sem (wp)
end PySem
namespace L2
open PySem PySem.Spec PyProof.Rows
end L2
namespace L2
open PySem PySem.Spec PyProof.Rows
section
variable {X:Cx} {K:PySem.W.Frag} {T:String} {name:Str} {id:String} {r:V→List V→Hp→VK→Prop} {o e:Expr} {es:List Expr} {apos cpos:Pos} {to:TE} {t:TA}
theorem pe_bmK (hK:X.K=K) (pa:PlainAttrs T) (slot:Slot T name id) (hty:typeOf (.builtin id)=pure (.type "method_descriptor")) (hm:MtR X id r) (ho:PE X o to) (ha:PA X (e::es) t)
  (hbase:attributeBase o name X.env (eval o X.env)=eval o X.env:=by rfl)
  (hfew:((backTo cpos (starEach (e::es) X.env)).all (fun x=> !x.1) && (backToKw cpos (keywordEach [] X.env)).all (fun x=>x.1.isSome)
   && decide ((e::es).length+([]:List Keyword).length+(if ([]:List Keyword).isEmpty then 0 else 1)<30))=true:=by rfl)
  (hline:(apos.endLine==cpos.line)=true:=by rfl) (hs:starEach (e::es) X.env=(false,eval e X.env)::starEach es X.env:=by rfl) (hplain:(backTo cpos (starEach es X.env)).any (·.1)=false:=by rfl):
  PE X (.Call (.Attribute o name apos) (e::es) [] cpos) (tBM K T r to t):=by
 subst hK
 exact pe_bm pa slot hty hm ho ha hbase hfew hline hs hplain
end
end L2
namespace L2
open PySem
end L2
namespace L2
open PySem PySem.Spec PyProof.Rows
theorem FnOk.or {P:Program} {w:World} {K:PySem.W.Frag} {mg:Str→Option Value} {base:Heap} {CX:CXT} {k:Nat} {f:Addr} {fd:FuncData} {ps:List Str} {sp sp':Sp} (F:FnOk P w K mg base CX k f fd ps sp) (G:FnOk P w K mg base CX k f fd ps sp'):
  FnOk P w K mg base CX k f fd ps fun vs H Q E=>sp vs H Q E∨sp' vs H Q E:=
 ⟨fun vs H Q E h=>h.elim (F.len vs H Q E) (G.len vs H Q E),fun A outer s H args us vs Q E hr he hb hv h=>h.elim (F.run A outer s H args us vs Q E hr he hb hv) (G.run A outer s H args us vs Q E hr he hb hv)⟩
end L2
namespace Srt
open PySem PySem.W PyProof.Rows L2
section
variable {prog:Program} {w:World} {A:Around} {E:Value→Shared→Prop} {s:Shared}
theorem eq_self {C:Bool→Shared→Prop} {u:Value} (h:C true s):wpAny (model prog w) A (eqBool u u) C E s:=by
 unfold eqBool
 try with_reducible refine wpAny_holding ?_
 rw [if_pos (beq_self_eq_true u)]
 exact wpAny_bind (wpAny_rule (wpAny_pure h))
theorem lex_self {b fin:Bool} {C:Bool→Shared→Prop} (h:C fin s):∀(us:List Value) (i:Nat),KatLex prog w A b fin C (us.zip us) i s
 |[],_=>h
 |u::us,i=>kat_cons (eq_self (kat_yes (lex_self h us (i+1))))
end
end Srt
namespace Srt
open PySem PySem.W PyProof.Rows L2
abbrev Pn:=Addr×Str×List V
def nRef (q:Pn):V:= .ref q.1
def d0:Pn:=(0,"",[])
def ltN (ps:List Pn) (i j:Nat):Bool:=ltK (.inr (ps.getD i d0).2.1) (.inr (ps.getD j d0).2.1)
theorem ord_nms (ps:List Pn):Ord (ltN ps) where
 asym:=fun a b h=>by
  unfold ltN at *
  generalize (Sum.inr (ps.getD a d0).2.1:Key)=x at *
  generalize (Sum.inr (ps.getD b d0).2.1:Key)=y at *
  cases e:ltK y x with
  |false=>rfl
  |true=>have:=ltK_tr h e;rw [ltK_irr] at this;cases this
 ntr:=fun a b c h1 h2=>by
  unfold ltN at *
  generalize (Sum.inr (ps.getD a d0).2.1:Key)=x at *
  generalize (Sum.inr (ps.getD b d0).2.1:Key)=y at *
  generalize (Sum.inr (ps.getD c d0).2.1:Key)=z at *
  cases e:ltK x z with
  |false=>rfl
  |true=>
   rcases ltK_tri _ _ h1 with r|r
   ·rw [r,h2] at e;cases e
   ·have:=ltK_tr r e;rw [h2] at this;cases this
theorem tups_nms {X:Cx} {pins:List (Addr×Obj)} {σ:L2.St} {H:Hp} {s:Shared} (I:Inv X pins σ H s):∀(ps:List Pn),(∀q∈ps,SqT X.K H q.1 (.str q.2.1::q.2.2))→
  ∃fs,KatTups s.heap (ps.map fun q=>Value.ref q.1) fs∧fs.length=ps.length∧∀v∈fs,∃i t,v=Value.str i t
 |[],_=>⟨[],trivial,rfl,fun v h=>nomatch h⟩
 |q::ps,h=>by
  obtain ⟨fs,t,l,f⟩:=tups_nms I ps (fun q hq=>h q (.tail _ hq))
  obtain ⟨its,rv,⟨o,ho,hc,n,hd⟩,hz⟩:=I.tuple (h q (.head _))
  cases rv with
  | @cons _ u _ us ru rr=>
   obtain ⟨tt,rfl⟩:=(show ∃t,u=Value.str q.2.1 t from ru)
   refine ⟨Value.str q.2.1 tt::fs,.cons ho hc hd (by simp) t,by simp [l],fun v hv=> ?_⟩
   rcases List.mem_cons.mp hv with rfl|hv
   ·exact ⟨_,_,rfl⟩
   ·exact f v hv
theorem sortN_core {X:Cx} {pins:List (Addr×Obj)} {σ:L2.St} {H:Hp} {s:Shared} (I:Inv X pins σ H s) {v:Value} {ps:List Pn} {Q:VK} (hT:∀q∈ps,SqT X.K H q.1 (.str q.2.1::q.2.2)) (hn:(ps.map (·.2.1)).Nodup) (h64:ps.length<64)
  (hcol:∀(Q:List Value→Shared→Prop),(∀h1 t1,(∀b o,s.heap.get? b=some o→h1.get? b=some o)→Q (ps.map fun q=>Value.ref q.1) {s with heap:=h1,toks:=t1})→wpAny (model X.prog X.w) X.A.in1 (collect v) Q X.xe s)
  (h:∀(l:Addr) (ps':List Pn),H l=none→ps'.Perm ps→ps'.Pairwise (fun a b=>¬b.2.1.cps.toList<a.2.1.cps.toList)→Q (.ref l) (upd H l (.lst (ps'.map nRef)))):
  wpAny (model X.prog X.w) X.A (call (.builtin "sorted") [v]) (EP X pins σ Q) X.xe s:=by
 have lz:(ps.map fun q=>Value.ref q.1).length=ps.length:=List.length_map ..
 refine sorted_raw (κ:=tuples' true) (ord_nms ps) (fun vs=>vs=ps.map fun q=>Value.ref q.1) (fun vs e=>by rw [e,lz];exact h64) (fun Q hq=>hcol Q fun h1 t1 k=>hq _ h1 t1 rfl k) ?_ ?_ ?_
 ·rintro vs h' t' rfl k l2 Q hq
  rw [lz] at l2
  have I':Inv X pins σ H {s with heap:=h',toks:=t'}:=I.kept k
  obtain ⟨fs,t,l,f⟩:=tups_nms I' ps hT
  refine kat_kind (s:={s with heap:=h',toks:=t'}) (T:=Value.type "str") t (by omega) (fun v hv=> ?_) rfl ?_
  ·obtain ⟨i,t,rfl⟩:=f v hv
   exact Looks.of_pure rfl
  ·have:(Value.type "str" !=Value.type "tuple")=true:=rfl
   rw [this];exact hq
 ·rintro vs h' t' rfl k i j C hi hj hC
  rw [lz] at hi hj
  have I':Inv X pins σ H {s with heap:=h',toks:=t'}:=I.kept k
  show wpAny _ _ (keyLt' _ ((ps.map fun q=>Value.ref q.1).getD i Value.none) ((ps.map fun q=>Value.ref q.1).getD j Value.none)) C _ _
  have ei:(ps.map fun q=>Value.ref q.1).getD i Value.none=Value.ref ps[i].1:=by simp [hi]
  have ej:(ps.map fun q=>Value.ref q.1).getD j Value.none=Value.ref ps[j].1:=by simp [hj]
  have fi:ps.getD i d0=ps[i]:=by simp [hi]
  have fj:ps.getD j d0=ps[j]:=by simp [hj]
  rw [ei,ej]
  unfold ltN at hC
  rw [fi,fj] at hC
  obtain ⟨ui,ri,⟨oi,hoi,hci,ni,hdi⟩,zi⟩:=I'.tuple (hT ps[i] (List.getElem_mem hi))
  by_cases hij:i=j
  ·subst hij
   refine kat_lt hoi hdi hoi hdi ?_
   have:decide (ui.toArray.size<ui.toArray.size)=false:=by simp
   rw [this]
   refine lex_self ?_ _ 0
   have z:ltK (.inr ps[i].2.1) (.inr ps[i].2.1)=false:=ltK_irr _
   rw [z] at hC;exact hC
  ·obtain ⟨uj,rj,⟨oj,hoj,hcj,nj,hdj⟩,zj⟩:=I'.tuple (hT ps[j] (List.getElem_mem hj))
   have ne:¬ps[i].2.1=ps[j].2.1:=fun e=>(by
    have pw:=List.pairwise_iff_getElem.mp hn
    rcases Nat.lt_or_gt_of_ne hij with q|q
    ·exact absurd (by rw [List.getElem_map,List.getElem_map];exact e) (pw i j (by simpa using hi) (by simpa using hj) q)
    ·exact absurd (by rw [List.getElem_map,List.getElem_map];exact e.symm) (pw j i (by simpa using hj) (by simpa using hi) q))
   refine kat_lt hoi hdi hoj hdj ?_
   cases ri with
   | @cons _ u _ us ru rr=>
    cases rj with
    | @cons _ u' _ us' ru' rr'=>
     obtain ⟨t1,rfl⟩:=(show ∃t,u=Value.str ps[i].2.1 t from ru)
     obtain ⟨t2,rfl⟩:=(show ∃t,u'=Value.str ps[j].2.1 t from ru')
     refine kat_cons (wpAny_eqBool_str ?_)
     have:decide (ps[i].2.1=ps[j].2.1)=false:=decide_eq_false ne
     rw [this]
     exact kat_no (oneLt_str hC)
 ·rintro vs p h1 h' t' l e rfl pm st k1 k zl hl
  have I:Inv X pins σ H {s with heap:=h1,toks:=t'}:=I.kept k1
  have pl:=pm.toList
  rw [lz] at pl pm st
  have hz:=pm.size
  have mem:∀i∈p.toList,i<ps.length:=fun i hi=>by simpa using pl.mem_iff.mp hi
  have e1:(p.toList.map fun i=>(ps.map fun q=>Value.ref q.1).getD i Value.none)=(p.toList.map fun i=>ps.getD i d0).map fun q=>Value.ref q.1:=by
   rw [List.map_map]
   refine List.map_congr_left fun i hi=> ?_
   have:=mem i hi
   simp [this]
  rw [e1] at hl
  have pp:(p.toList.map fun i=>ps.getD i d0).Perm ps:=by
   have:=pl.map (fun i=>ps.getD i d0)
   rwa [map_range_getD] at this
  have pw:(p.toList.map fun i=>ps.getD i d0).Pairwise (fun a b=>¬b.2.1.cps.toList<a.2.1.cps.toList):=by
   rw [List.pairwise_map]
   refine (st.pairwise hz).imp fun {a b} hab=> ?_
   unfold ltN ltK at hab
   exact of_decide_eq_false hab
  refine ⟨.ref l,_,I.laid (t':=t') (o:= .lst ((p.toList.map fun i=>ps.getD i d0).map nRef)) k zl ⟨?_,_,e,vals_map nRef (fun q=>Value.ref q.1) (fun _=>rfl) _,hl⟩,rfl,h l _ (I.hok.fresh zl) pp pw⟩
  rw [List.length_map,pp.length_eq,sizeLine_eq]
  omega
def rSortN (K:PySem.W.Frag):List V→Hp→VK→Prop:=fun xs H Q=>∃(p:Addr) (ps:List Pn),xs=[.ref p]∧SqL K H p (ps.map nRef)∧(∀q∈ps,SqT K H q.1 (.str q.2.1::q.2.2))∧(ps.map (·.2.1)).Nodup∧ps.length<64∧∀(l:Addr) (ps':List Pn),H l=none→ps'.Perm ps→ps'.Pairwise (fun a b=>¬b.2.1.cps.toList<a.2.1.cps.toList)→Q (.ref l) (upd H l (.lst (ps'.map nRef)))
theorem call_sortedN {X:Cx}:CallR X (.builtin "sorted") (rSortN X.K):=by
 intro pins s σ H xs us Q I r h
 obtain ⟨p,ps,rfl,hq,ok,nd,few,q⟩:=h
 obtain ⟨u,rfl,rx⟩:=vals1 r
 cases rx
 obtain ⟨its,rv,hp,hz⟩:=I.list hq
 have e:its=ps.map fun q=>Value.ref q.1:=by
  clear hq hp hz q r ok nd few
  induction ps generalizing its with
  |nil=>cases rv;rfl
  |cons a ps ih=>
   cases rv with
   |cons ru rr=>rw [List.map_cons,←ih _ rr];cases ru;rfl
 subst e
 refine sortN_core I ok nd few (fun Q hq=>collect_list hp.isList (hq _ _ fun b o ho=> ?_) (by rw [List.length_map,sizeLine_eq];omega)) q
 have hlt:b<s.heap.objs.size:=Heap.lt_size ho
 rw [Heap.get?_update_ne _ _ _ _ (Nat.ne_of_lt hlt)]
 exact Heap.get?_push_of_some _ ho
end Srt
namespace Srt
open PySem PySem.W PyProof.Rows L2
end Srt
namespace PySem
open Builtin
abbrev zL1 (h:Heap) (a:Addr):Heap:=h.push {cls:= .type "list_iterator",data:= .fields #[.ref a,.int 0 0]}
abbrev zL2 (h:Heap) (a b:Addr):Heap:=(zL1 h a).push {cls:= .type "list_iterator",data:= .fields #[.ref b,.int 0 0]}
abbrev zL3 (h:Heap) (a b:Addr):Heap:=(zL2 h a b).push {cls:= .type "tuple",data:= .seq #[.ref h.objs.size,.ref (zL1 h a).objs.size]}
abbrev zL4 (h:Heap) (a b:Addr):Heap:=(zL3 h a b).push {cls:= .type "tuple",data:= .seq #[.none,.none]}
abbrev zL5 (h:Heap) (a b:Addr):Heap:=(zL4 h a b).push {cls:= .type "zip",data:= .fields #[.none,.bool false,.bool false,.ref (zL2 h a b).objs.size,.ref (zL3 h a b).objs.size]}
theorem meets_zip_ll (a b:Addr) (xs ys:Array Value):
  Meets (Builtin.«zip.__new__» ⟨[.type "zip",.ref a,.ref b],[]⟩) (fun _ R s=>s.heap.IsList a xs∧s.heap.IsList b ys∧R (.ok (.ret (.ref (zL4 s.heap a b).objs.size))) {s with heap:=zL5 s.heap a b}):=
 .of_wp fun prog w A R s h=>by
  obtain ⟨hp,g,d,tk,os⟩:=s
  obtain ⟨ta,tb,h⟩:=h
  have hsub:=sub_zip
  have q1:Heap.IsList (Shared.heap ⟨hp,g,d,tk,os⟩) a xs:=ta
  have q2:Heap.IsList (Shared.heap ⟨hp.push {cls:= .type "list_iterator",data:= .fields #[.ref a,.int 0 0]},g,d,tk,os⟩) b ys:=let ⟨o,ho,r⟩:=tb;⟨o,Heap.get?_push_of_some _ ho,r⟩
  wp_walk using wpAny_pyIter_list q1,wpAny_pyIter_list q2
  exact ⟨_,rfl,h⟩
section
variable {prog:Program} {w:World} {A:Around} {E:Value→Shared→Prop} {s:Shared}
theorem call_zip_ll {a b:Addr} {xs ys:Array Value} {Q:Value→Shared→Prop} (ta:s.heap.IsList a xs) (tb:s.heap.IsList b ys)
  (h:∀h',IsZip h' (s.heap.objs.size+4) (s.heap.objs.size+2) (s.heap.objs.size+3) .none→IsPair h' (s.heap.objs.size+2) (.ref s.heap.objs.size) (.ref (s.heap.objs.size+1))→IsPair h' (s.heap.objs.size+3) .none .none→
   h'.IsListIter s.heap.objs.size a 0→h'.IsListIter (s.heap.objs.size+1) b 0→(∀c o,s.heap.get? c=some o→h'.get? c=some o)→Q (.ref (s.heap.objs.size+4)) {s with heap:=h'}):
  wpAny (model prog w) A (call (.type "zip") [.ref a,.ref b]) Q E s:=by
 refine callType_new F.called_zip (by decide) (F.typeCall_zip_2 _ _) (F.newCall_zip_2 _ _) (fun obj=>F.args_object_init_3 obj _ _) F.entry_zip_new (meets_zip_ll a b xs ys) ⟨ta,tb,?_⟩
 have y1:(zL1 s.heap a).objs.size=s.heap.objs.size+1:=Heap.size_push ..
 have y2:(zL2 s.heap a b).objs.size=s.heap.objs.size+2:=by rw [Heap.size_push,y1]
 have y3:(zL3 s.heap a b).objs.size=s.heap.objs.size+3:=by rw [Heap.size_push,y2]
 have y4:(zL4 s.heap a b).objs.size=s.heap.objs.size+4:=by rw [Heap.size_push,y3]
 have e5:(zL5 s.heap a b).get? (zL4 s.heap a b).objs.size=some _:=Heap.get?_push_size _ rfl
 have e4:(zL5 s.heap a b).get? (zL3 s.heap a b).objs.size=some _:=Heap.get?_push_of_some _ (Heap.get?_push_size _ rfl)
 have e3:(zL5 s.heap a b).get? (zL2 s.heap a b).objs.size=some _:=Heap.get?_push_of_some _ (Heap.get?_push_of_some _ (Heap.get?_push_size _ rfl))
 have e2:(zL5 s.heap a b).get? (zL1 s.heap a).objs.size=some _:=Heap.get?_push_of_some _ (Heap.get?_push_of_some _ (Heap.get?_push_of_some _ (Heap.get?_push_size _ rfl)))
 have e1:(zL5 s.heap a b).get? s.heap.objs.size=some _:=Heap.get?_push_of_some _ (Heap.get?_push_of_some _ (Heap.get?_push_of_some _ (Heap.get?_push_of_some _ (Heap.get?_push_size _ rfl))))
 show _∧_
 rw [y2,y3,y4] at e5
 rw [y1,y2] at e3
 rw [y3] at e4
 rw [y1] at e2
 rw [y4]
 refine ⟨⟨_,e5,rfl⟩,h _ e5 e3 e4 ⟨_,e1,rfl,rfl⟩ ⟨_,e2,rfl,rfl⟩ fun c o e=> ?_⟩
 exact Heap.get?_push_of_some _ (Heap.get?_push_of_some _ (Heap.get?_push_of_some _ (Heap.get?_push_of_some _ (Heap.get?_push_of_some _ e))))
end
end PySem
namespace L2
open PySem PySem.Spec PyProof.Rows
def ItzL (K:PySem.W.Frag) (a b:Addr):It:=
 ⟨fun i H=>∃xs ys x y,SqL K H a xs∧SqL K H b ys∧xs[i]? =some x∧ys[i]? =some y,fun i H v H'=>∃T x y,H T=none∧v= .ref T∧H'=upd H T (.tup [x,y])∧(∀xs,SqL K H a xs→xs[i]? =some x)∧∀ys,SqL K H b ys→ys[i]? =some y,
  fun i H=>∃xs ys,SqL K H a xs∧SqL K H b ys∧(i=xs.length∨(i<xs.length∧i=ys.length))⟩
theorem turn_zipL {P:Program} {w:World} {K:PySem.W.Frag} {elts:List Expr} {x1} {pos:Pos} (a b z TI TO i1 i2:Addr) (nd:[z,TI,TO,i1,i2].Nodup) (na:a ∉ [z,TI,TO,i1,i2]) (nb:b ∉ [z,TI,TO,i1,i2]):Turn P w K (.Tuple elts x1 pos) (ItzL K a b) [z,TI,TO,i1,i2] z
  (fun i h=>IsZip h z TI TO .none∧IsPair h TI (.ref i1) (.ref i2)∧(∃u v,IsPair h TO u v)∧h.IsListIter i1 a i∧h.IsListIter i2 b i) where
 mem:=by simp
 obj:=fun i h st c hc=>by
  obtain ⟨h1,h2,⟨u,v,h3⟩,⟨o4,g4,_,d4⟩,⟨o5,g5,_,d5⟩⟩:=st
  simp only [List.mem_cons,List.mem_nil_iff,or_false] at hc
  rcases hc with rfl|rfl|rfl|rfl|rfl
  ·exact ⟨_,h1,fun v q=>by cases q⟩
  ·exact ⟨_,h2,fun v q=>by cases q⟩
  ·exact ⟨_,h3,fun v q=>by cases q⟩
  ·exact ⟨_,g4,fun v q=>by rw [d4] at q;cases q⟩
  ·exact ⟨_,g5,fun v q=>by rw [d5] at q;cases q⟩
 keep:=fun i h h' st k=>by
  obtain ⟨h1,h2,⟨u,v,h3⟩,h4,h5⟩:=st
  exact ⟨k z (by simp) _ h1,k TI (by simp) _ h2,⟨u,v,k TO (by simp) _ h3⟩,h4.at fun o q=>k i1 (by simp) o q,h5.at fun o q=>k i2 (by simp) o q⟩
 item:=by
  intro X hP hw hK hc i pins s σ H E I hf st hg
  subst hP hw hK
  obtain ⟨hZ,pI,⟨u,v,pO⟩,t1,t2⟩:=st
  obtain ⟨xs,ys,x,y,ha,hb,hx,hy⟩:=hg
  obtain ⟨its,rv,p1,_⟩:=I.list ha
  obtain ⟨jts,rw',p2,_⟩:=I.list hb
  obtain ⟨ux,hux,rx⟩:=rv.get hx
  obtain ⟨uy,huy,ry⟩:=rw'.get hy
  have AP:=zap_of nd na nb
  have fresh:H s.heap.objs.size=none:=I.hok.fresh (Nat.le_refl _)
  have ltz:∀c∈[z,TI,TO,i1,i2],c≠s.heap.objs.size:=by
   intro c hc
   obtain ⟨o4,g4,_⟩:=id t1
   obtain ⟨o5,g5,_⟩:=id t2
   simp only [List.mem_cons,List.mem_nil_iff,or_false] at hc
   rcases hc with rfl|rfl|rfl|rfl|rfl
   ·exact Nat.ne_of_lt (Heap.lt_size hZ)
   ·exact Nat.ne_of_lt (Heap.lt_size pI)
   ·exact Nat.ne_of_lt (Heap.lt_size pO)
   ·exact Nat.ne_of_lt (Heap.lt_size g4)
   ·exact Nat.ne_of_lt (Heap.lt_size g5)
  refine pyNext_zip_itemD AP (Draws.list (A:=X.A.in1) (I.ok.hd hc) i1 a (fun q=>na (by simp [q])) its.toArray) (Draws.list (A:=X.A.in1) (I.ok.hd hc) i2 b (fun q=>nb (by simp [q])) jts.toArray) hZ pI pO ⟨t1,p1.isList⟩ ⟨t2,p2.isList⟩
   (by have:=(List.getElem?_eq_some_iff.mp hux).1;simpa using this) (by have:=(List.getElem?_eq_some_iff.mp huy).1;simpa using this) fun h' tk xv yv px py z' pO' s1' s2' pT kk=>⟨_,rfl,?_⟩
  have ex:ux=xv:=Option.some.inj (hux.symm.trans (by simpa using px))
  have ey:uy=yv:=Option.some.inj (huy.symm.trans (by simpa using py))
  subst ex ey
  refine wpAny_letOwnedTupleGo_zip (s:={s with heap:=h',toks:=tk}) z' fun h2 z2 sb=> ?_
  have I1:Inv X pins σ (upd H s.heap.objs.size (.tup [x,y])) {s with heap:=s.heap.push {cls:= .type "tuple",data:= .seq #[ux,uy]},toks:=s.toks}:=
   I.laid (o:= .tup [x,y]) (fun b ob q=>Heap.get?_push_of_some _ q) (Nat.le_refl _) ⟨by rw [sizeLine_eq];simp,[ux,uy],.cons rx (.cons ry .nil),IsTupN.new _ _⟩
  have I2:=I1.turnedL (h':=h2) (t':=tk) [z,TI,TO,i1,i2] (fun c o hc' q=> ?_) (fun c hc'=>(hf c hc').up (ltz c hc'))
  ·refine ⟨.ref s.heap.objs.size,_,I2,rfl,⟨_,x,y,fresh,rfl,rfl,fun ys' hy'=>by rw [I.list_inj hy' ha];exact hx,fun ys' hy'=>by rw [I.list_inj hy' hb];exact hy⟩,
    ⟨z2,(sb.2 TI AP.a1).trans (kk _ _ AP.a1 AP.a5 AP.a6 AP.a7 pI),⟨_,_,(sb.2 TO AP.a2).trans pO'⟩,s1'.1.at fun o q=>(sb.2 i1 AP.a3).trans q,s2'.1.at fun o q=>(sb.2 i2 AP.a4).trans q⟩,fun c hc'=> ?_⟩
   rw [Ai (ltz c hc')];exact (hf c hc').1
  ·have c1:c≠z:=fun q=>hc' (by simp [q])
   have c2:c≠TO:=fun q=>hc' (by simp [q])
   have c3:c≠i1:=fun q=>hc' (by simp [q])
   have c4:c≠i2:=fun q=>hc' (by simp [q])
   refine (sb.2 c c1).trans ?_
   by_cases hcs:c=s.heap.objs.size
   ·subst hcs
    rw [Heap.get?_push_size _ rfl] at q
    cases q
    exact pT
   ·rw [Heap.get?_push_ne _ _ _ hcs] at q
    exact kk c o c1 c2 c3 c4 q
 done:=by
  intro X hP hw hK hc i pins s σ H E I hf st hg
  subst hP hw hK
  obtain ⟨hZ,pI,⟨u,v,pO⟩,t1,t2⟩:=st
  obtain ⟨xs,ys,ha,hb,hend⟩:=hg
  obtain ⟨its,rv,p1,_⟩:=I.list ha
  obtain ⟨jts,rw',p2,_⟩:=I.list hb
  have AP:=zap_of nd na nb
  have l1:=rv.length
  have l2:=rw'.length
  refine pyNext_zip_endD AP (Draws.list (A:=X.A.in1) (I.ok.hd hc) i1 a (fun q=>na (by simp [q])) its.toArray) (Draws.list (A:=X.A.in1) (I.ok.hd hc) i2 b (fun q=>nb (by simp [q])) jts.toArray) hZ pI pO ⟨t1,p1.isList⟩ ⟨t2,p2.isList⟩
   (by simp only [List.size_toArray];omega) fun h' tk kk=>⟨rfl,I.turnedL (t':=tk) [z,TI,TO,i1,i2] (fun c o hc' q=> ?_) hf⟩
  exact kk c o (fun q=>hc' (by simp [q])) (fun q=>hc' (by simp [q])) (fun q=>hc' (by simp [q])) (fun q=>hc' (by simp [q])) q
 self:=fun A i s Q E st h=>wpAny_pyIter_zip st.1 h
def iZipL (K:PySem.W.Frag) (ta:TA):TI:=fun σ H R=>ta σ H fun vs H1=>∃a b xs ys,vs=[.ref a,.ref b]∧SqL K H1 a xs∧SqL K H1 b ys∧R (ItzL K a b) H1
theorem pi_zipL {X:Cx} {elts:List Expr} {x1} {tpos:Pos} {e1 e2:Expr} {ta:TA} {p pos:Pos} (hg:Gl X "zip") (hm:X.mg "zip"=none) (ha:PA X [e1,e2] ta) (hs:starEach [e1,e2] X.env=[(false,eval e1 X.env),(false,eval e2 X.env)]:=by rfl) (hs2:starEach [e2] X.env=[(false,eval e2 X.env)]:=by rfl):
  PI X (.Tuple elts x1 tpos) (.Call (.Name "zip" p) [e1,e2] [] pos) (iZipL X.K ta):=by
 intro pins s σ H R I h
 refine Call_ (ld_blt I hg hm (show bootBuiltins "zip"=some (.type "zip") by decide+kernel) (PyProof.Rows.callWith_type1 (thn (ha pos pins s σ H _ I h) fun us s1 ⟨vs,H1,I1,r1,q1⟩=> ?_) (by rw [hs,hs2]) (by rw [hs2];rfl)))
 obtain ⟨a,b,xs,ys,e,hqa,hqb,q⟩:=q1
 subst e
 cases r1 with
 |cons r rr=>
  cases rr with
  |cons r' rr=>
   cases rr
   cases r
   cases r'
   obtain ⟨its,rv,p1,_⟩:=I1.list hqa
   obtain ⟨jts,rw',p2,_⟩:=I1.list hqb
   refine call_zip_ll p1.isList p2.isList fun h' hZ pI pO t1 t2 kk=>wpAny_pyIter_zip hZ ?_
   obtain ⟨oa,ga,_⟩:=id p1.isList
   obtain ⟨ob,gb,_⟩:=id p2.isList
   have la:=Heap.lt_size ga
   have lb:=Heap.lt_size gb
   have big:∀c∈[s1.heap.objs.size+4,s1.heap.objs.size+2,s1.heap.objs.size+3,s1.heap.objs.size,s1.heap.objs.size+1],s1.heap.objs.size≤c:=by
    intro c hc
    simp only [List.mem_cons,List.mem_nil_iff,or_false] at hc
    rcases hc with rfl|rfl|rfl|rfl|rfl<;> first|exact Nat.le_add_right _ _|exact Nat.le_refl _
   refine ⟨s1.heap.objs.size+4,[s1.heap.objs.size+4,s1.heap.objs.size+2,s1.heap.objs.size+3,s1.heap.objs.size,s1.heap.objs.size+1],_,_,H1,rfl,I1.kept (t':=s1.toks) kk,
    turn_zipL a b _ _ _ _ _ ?_ (fun q=>Nat.lt_irrefl _ (Nat.lt_of_lt_of_le la (big _ q))) (fun q=>Nat.lt_irrefl _ (Nat.lt_of_lt_of_le lb (big _ q))),⟨hZ,pI,⟨_,_,pO⟩,t1,t2⟩,fun c hc=>I1.fpOk (big c hc) (I1.hok.fresh (big c hc)),q⟩
   generalize s1.heap.objs.size=n
   show List.Nodup ([n+4,n+2,n+3,n,n+1]:List Nat)
   simp
end L2
namespace K38
open PySem L2 Wk
def top (i:Nat):Stmt:=PySem.Challenge.pw_joinedever_k38_goings_of_kept_ties.main.body.getD i (.Pass ⟨0,0,0,0⟩)
abbrev sBeside:Stmt:=top 4
abbrev sWays:Stmt:=top 5
abbrev sPart:Stmt:=top 6
abbrev sKept:Stmt:=top 8
abbrev sRowOf:Stmt:=top 10
abbrev sWithout:Stmt:=top 11
abbrev sLesser:Stmt:=top 12
abbrev sLoose:Stmt:=top 13
abbrev sBehind:Stmt:=top 14
abbrev sBehinds:Stmt:=top 15
abbrev sRound:Stmt:=top 16
abbrev sGone:Stmt:=top 17
abbrev sMixed:Stmt:=top 19
abbrev sDeck:Stmt:=top 20
abbrev sTake:Stmt:=top 21
abbrev sNames:Stmt:=top 22
abbrev sMany:Stmt:=top 23
abbrev sWeight:Stmt:=top 24
abbrev sMerged:Stmt:=top 25
abbrev sLayered:Stmt:=top 26
abbrev sStand:Stmt:=top 27
abbrev sGroups:Stmt:=top 28
abbrev sKnown:Stmt:=top 29
abbrev sRows:Stmt:=top 30
abbrev sParts:Stmt:=top 31
abbrev sOfLayer:Stmt:=top 32
abbrev sRise:Stmt:=top 33
abbrev sSame:Stmt:=top 34
abbrev sRoundL:Stmt:=top 35
abbrev sJudged:Stmt:=top 36
abbrev sSome:Stmt:=top 37
abbrev sLaw:Stmt:=top 38
structure Txt (mg:Str→Option Value):Prop where
 isinstance:mg "isinstance"=none
 int:mg "int"=none
 bool:mg "bool"=none
 tuple:mg "tuple"=none
 len:mg "len"=none
 range:mg "range"=none
 sum:mg "sum"=none
 str:mg "str"=none
 max:mg "max"=none
 min:mg "min"=none
 zip:mg "zip"=none
 sorted:mg "sorted"=none
 list:mg "list"=none
 set:mg "set"=none
 dict:mg "dict"=none
def StandAt (H:Hp) (st:Addr) (S:List T4):Prop:=∃rs:List Addr,H st=some (.lst (rs.map V.ref))∧TiesAt H rs S
theorem StandAt.same {H H':Hp} {st:Addr} {S:List T4} (h:StandAt H st S) (s:Same H H'):StandAt H' st S:=let ⟨rs,a,b⟩:=h;⟨rs,s _ _ a,b.same s⟩
def StandT (H:Hp) (st:Addr) (S:List T4):Prop:=∃rs:List Addr,H st=some (.tup (rs.map V.ref))∧TiesAt H rs S
def StandX (H:Hp) (st:Addr) (S:List T4):Prop:=StandAt H st S∨StandT H st S
def spBesideL:Sp:=fun vs H Q _=>∃(N:Nat) (st:Addr) (S:List T4),vs=[.int (N:Int),.ref st]∧StandAt H st S∧InN N S∧N≤60∧S.length≤100∧∀b H',Same H H'→BesAt H' b N (Bm S)→Q (.ref b) H'
def spBesideT:Sp:=fun vs H Q _=>∃(N:Nat) (st:Addr) (S:List T4),vs=[.int (N:Int),.ref st]∧StandT H st S∧InN N S∧N≤60∧S.length≤100∧∀b H',Same H H'→BesAt H' b N (Bm S)→Q (.ref b) H'
def spBeside:Sp:=fun vs H Q _=>∃(N:Nat) (st:Addr) (S:List T4),vs=[.int (N:Int),.ref st]∧StandX H st S∧InN N S∧N≤60∧S.length≤100∧∀b H',Same H H'→BesAt H' b N (Bm S)→Q (.ref b) H'
def spWays:Sp:=fun vs H Q _=>∃(N:Nat) (st:Addr) (S:List T4) (p:Nat),vs=[.int (N:Int),.ref st,.int (p:Int)]∧StandX H st S∧InN N S∧N≤60∧S.length≤100∧p<N∧∀a H',Same H H'→WaysAt H' a (waysF N S p)→Q (.ref a) H'
def spPart:Sp:=fun vs H Q _=>∃(N:Nat) (st:Addr) (S:List T4) (p:Nat),vs=[.int (N:Int),.ref st,.int (p:Int)]∧StandX H st S∧InN N S∧N≤60∧S.length≤100∧p<N∧∀a H',Same H H'→H' a=some (.tup (((Ct N S p).map Int.ofNat).map V.int))→Q (.ref a) H'
section
variable {P:Program} {w:World} {K:PySem.W.Frag} {mg:Str→Option Value} {base:Heap}
theorem scBeside:A4 ["many","stand","beside","name","one","other","weight"] ["many","stand"] (Af sBeside):=⟨rfl,rfl,rfl,by decide+kernel,rfl,by decide+kernel,by decide+kernel⟩
theorem ok_BesideL {f:Addr} {fd:FuncData} (F:Fun K "beside_of" "beside_of" sBeside f fd) (T:Txt mg):
  FnOk P w K mg base CX0 1 f fd ["many","stand"] spBesideL:=by
 refine F.ok scBeside (fun vs H Q E h=> ?_) (fun cdv A outer s H vs Q E hr h=> ?_)
 ·obtain ⟨_,_,_,rfl,_⟩:=h;rfl
 ·obtain ⟨N,st,S,rfl,⟨rs,hst,hrs⟩,hN,N60,S100,k⟩:=h
  refine ⟨_,Ae (ps_comp (i:=2) (T:=["place"]) (F:=[]) (js:=[]) scBeside.nd rfl (Or.inl rfl) (CS.to (osc:=Af sBeside) ⟨by rfl,by decide+kernel,by decide+kernel,by decide+kernel,by decide+kernel,by decide+kernel,by decide+kernel⟩ rfl rfl) rfl (Cg rfl T.range (Aa (pv 0) Ac)) (fun _ _ _ _ _=>Aj (i:=0) (show (["place"]:List Str).Nodup by decide+kernel) rfl (Or.inl rfl)) (fun _ _ _ _ _=>Br) (fun _ _ _ _ _=>Ch Ac))
   (Ae (C3 PassesOwn.never rfl (B8 (pv 1)) (pg_tup rfl (Ar (Aj (i:=3) scBeside.nd rfl (Or.inl rfl)) (Ar (Aj (i:=4) scBeside.nd rfl (Or.inl rfl)) (Ar (Aj (i:=5) scBeside.nd rfl (Or.inl rfl)) (Ar (Aj (i:=6) scBeside.nd rfl (Or.inl rfl)) Cc))))) (Ae (Cp (pe_bm PySem.F.plainAttrs_list PySem.F.slot_list_append PySem.F.type_list_append Bu (Az Ax (pv 2) (pv 4) (fun _ _=>rfl)) (Aa (Bf (Aa (pv 3) (Aa (pv 5) Ac))) Ac)))
   (Ah (Cp (pe_bm PySem.F.plainAttrs_list PySem.F.slot_list_append PySem.F.type_list_append Bu (Az Ax (pv 2) (pv 5) (fun _ _=>rfl)) (Aa (Bf (Aa (pv 3) (Aa (pv 4) Ac))) Ac))))))
   (Ah (As (pv 2)))),?_⟩
  refine ⟨_,rfl,(N:Int),rfl,by omega,by omega,fun D hD=>Cb (lo:=0) (n:=(N:Int).toNat) (fun j σ ys H2=>∃(u:Option V) (ls:List Addr),σ=[u]∧ys=ls.map V.ref∧Same H H2∧H2 D=some (.lst ys)∧ls.length=j∧ls.Nodup∧∀l∈ls,H l=none∧l≠D∧H2 l=some (.lst [])) ⟨none,[],rfl,rfl,Ad hD,Ab,rfl,List.nodup_nil,by simp⟩ (fun j σ ys H2 _ ⟨_,_,_,_,_,e,_⟩=>e) ?_ ?_⟩
  ·rintro j σ ys H2 hj ⟨u,ls,rfl,rfl,s2,d2,ll,nd,hl⟩
   have hj:j<N:=by simpa using hj
   refine ⟨small (by simp),fun p hp=> ?_⟩
   have pD:p≠D:=(Am d2 hp).symm
   refine ⟨by rw [Ai pD.symm];exact d2,Al (by simp;omega),_,ls++[p],rfl,by rw [List.map_append];rfl,Aw (s2.trans (Ad hp)) hD,Ab,by simp [ll],?_,fun l hl'=> ?_⟩
   ·refine List.nodup_append.mpr ⟨nd,List.nodup_cons.mpr ⟨by simp,List.nodup_nil⟩,fun x hx y hy=> ?_⟩
    rw [List.mem_singleton.mp hy]
    exact Am (hl x hx).2.2 hp
   ·rcases List.mem_append.mp hl' with q|q
    ·obtain ⟨h1,h2,h3⟩:=hl l q
     exact ⟨h1,h2,by rw [Ai h2,Ai (Am h3 hp)];exact h3⟩
    ·rw [List.mem_singleton.mp q]
     exact ⟨none_of s2 hp,pD,by rw [Ai pD];exact Ab⟩
  rintro σ ys H2 ⟨u,ls,rfl,rfl,s2,d2,ll,nd,hl⟩
  have ll:ls.length=N:=by simpa using ll
  have B0:Bes H H2 D ls N (Bm []):=⟨s2,d2,ll,nd,fun l h=>⟨(hl l h).1,(hl l h).2.1⟩,fun v l h=>⟨[],(hl l (List.mem_of_getElem? h)).2.2,rfl,fun i r q e=>(by simp at e)⟩⟩
  refine ⟨_,rfl,st,rfl,⟨_,SqL.of (s2 _ _ hst)⟩,for_list (K:=K) (a:=st) (xs:=rs.map V.ref) (fun i σ H3=>∃(u3 u4 u5 u6:Option V),σ=[some (.int (N:Int)),some (.ref st),some (.ref D),u3,u4,u5,u6]∧Bes H H3 D ls N (Bm (S.take i))) ⟨_,_,_,_,rfl,B0⟩ (fun i σ H3 _ ⟨_,_,_,_,_,B⟩=>SqL.of (B.same _ _ hst)) ?_ ?_⟩
  ·rintro i x σ H3 hx ⟨u3,u4,u5,u6,rfl,B⟩
   obtain ⟨r,hr',rfl⟩:=Ay hx
   obtain ⟨t,ht,er⟩:=hrs.get hr'
   have er3:=B.same _ _ er
   have tN:=hN t (List.mem_of_getElem? ht)
   have h1:t.2.1<ls.length:=by omega
   have h2:t.2.2.1<ls.length:=by omega
   have tk:S.take (i+1)=S.take i++[t]:=by rw [List.take_add_one,ht];rfl
   have nl:∀v,(Bm (S.take i) v).length≤200:=fun v=>Nat.le_trans (nbrs_len _ _) (by rw [List.length_take];omega)
   have l1:=C1 h1
   have l2:=C1 h2
   obtain ⟨rs1,e1,n1,_⟩:=B.prs _ _ l1
   refine ⟨r,_,rfl,SqT.of er3,rfl,_,_,rfl,_,_,rfl,_,_,rfl,_,_,rfl,rfl,?_⟩
   refine ⟨_,rfl,_,rfl,D,_,_,.ref ls[t.2.1],rfl,rfl,SqL.of B.hb,Ap (by rw [List.getElem?_map,l1];rfl),.inl ⟨rfl,_,SqL.of e1⟩,_,rfl,_,rfl,small (by simp),fun p hp=> ?_⟩
   refine ⟨_,_,_,rfl,rfl,Ad hp _ _ e1,Al (by rw [List.length_map];have:=nl t.2.1;omega),?_⟩
   have B1:=B.app (n:=t.1) (u:=t.2.2.1) l1 hp e1
   generalize upd (upd H3 p _) _ _=H4 at B1
   obtain ⟨rs2,e2,n2,_⟩:=B1.prs _ _ l2
   refine ⟨_,rfl,_,rfl,D,_,_,.ref ls[t.2.2.1],rfl,rfl,SqL.of B1.hb,Ap (by rw [List.getElem?_map,l2];rfl),.inl ⟨rfl,_,SqL.of e2⟩,_,rfl,_,rfl,small (by simp),fun p' hp'=> ?_⟩
   have n3:rs2.length≤201:=by
    rw [n2]
    split
    ·rw [List.length_append];have:=nl t.2.1;simp only [List.length_cons,List.length_nil];omega
    ·have:=nl t.2.2.1;omega
   refine ⟨_,_,_,rfl,rfl,Ad hp' _ _ e2,Al (by rw [List.length_map];omega),_,_,_,_,rfl,?_⟩
   have B2:=B1.app (n:=t.1) (u:=t.2.1) l2 hp' e2
   rw [nb_two,←tk] at B2
   exact B2
  ·rintro σ H3 ⟨u3,u4,u5,u6,rfl,B⟩
   rw [List.length_map,hrs.1,List.take_length] at B
   exact ⟨_,rfl,k D H3 B.same ⟨ls,B.hb,B.len,B.prs⟩⟩
theorem ok_BesideT {f:Addr} {fd:FuncData} (F:Fun K "beside_of" "beside_of" sBeside f fd) (T:Txt mg):
  FnOk P w K mg base CX0 1 f fd ["many","stand"] spBesideT:=by
 refine F.ok scBeside (fun vs H Q E h=> ?_) (fun cdv A outer s H vs Q E hr h=> ?_)
 ·obtain ⟨_,_,_,rfl,_⟩:=h;rfl
 ·obtain ⟨N,st,S,rfl,⟨rs,hst,hrs⟩,hN,N60,S100,k⟩:=h
  refine ⟨_,Ae (ps_comp (i:=2) (T:=["place"]) (F:=[]) (js:=[]) scBeside.nd rfl (Or.inl rfl) (CS.to (osc:=Af sBeside) ⟨by rfl,by decide+kernel,by decide+kernel,by decide+kernel,by decide+kernel,by decide+kernel,by decide+kernel⟩ rfl rfl) rfl (Cg rfl T.range (Aa (pv 0) Ac)) (fun _ _ _ _ _=>Aj (i:=0) (show (["place"]:List Str).Nodup by decide+kernel) rfl (Or.inl rfl)) (fun _ _ _ _ _=>Br) (fun _ _ _ _ _=>Ch Ac))
   (Ae (C3 PassesOwn.never rfl (pi_tup (pv 1)) (pg_tup rfl (Ar (Aj (i:=3) scBeside.nd rfl (Or.inl rfl)) (Ar (Aj (i:=4) scBeside.nd rfl (Or.inl rfl)) (Ar (Aj (i:=5) scBeside.nd rfl (Or.inl rfl)) (Ar (Aj (i:=6) scBeside.nd rfl (Or.inl rfl)) Cc))))) (Ae (Cp (pe_bm PySem.F.plainAttrs_list PySem.F.slot_list_append PySem.F.type_list_append Bu (Az Ax (pv 2) (pv 4) (fun _ _=>rfl)) (Aa (Bf (Aa (pv 3) (Aa (pv 5) Ac))) Ac)))
   (Ah (Cp (pe_bm PySem.F.plainAttrs_list PySem.F.slot_list_append PySem.F.type_list_append Bu (Az Ax (pv 2) (pv 5) (fun _ _=>rfl)) (Aa (Bf (Aa (pv 3) (Aa (pv 4) Ac))) Ac))))))
   (Ah (As (pv 2)))),?_⟩
  refine ⟨_,rfl,(N:Int),rfl,by omega,by omega,fun D hD=>Cb (lo:=0) (n:=(N:Int).toNat) (fun j σ ys H2=>∃(u:Option V) (ls:List Addr),σ=[u]∧ys=ls.map V.ref∧Same H H2∧H2 D=some (.lst ys)∧ls.length=j∧ls.Nodup∧∀l∈ls,H l=none∧l≠D∧H2 l=some (.lst [])) ⟨none,[],rfl,rfl,Ad hD,Ab,rfl,List.nodup_nil,by simp⟩ (fun j σ ys H2 _ ⟨_,_,_,_,_,e,_⟩=>e) ?_ ?_⟩
  ·rintro j σ ys H2 hj ⟨u,ls,rfl,rfl,s2,d2,ll,nd,hl⟩
   have hj:j<N:=by simpa using hj
   refine ⟨small (by simp),fun p hp=> ?_⟩
   have pD:p≠D:=(Am d2 hp).symm
   refine ⟨by rw [Ai pD.symm];exact d2,Al (by simp;omega),_,ls++[p],rfl,by rw [List.map_append];rfl,Aw (s2.trans (Ad hp)) hD,Ab,by simp [ll],?_,fun l hl'=> ?_⟩
   ·refine List.nodup_append.mpr ⟨nd,List.nodup_cons.mpr ⟨by simp,List.nodup_nil⟩,fun x hx y hy=> ?_⟩
    rw [List.mem_singleton.mp hy]
    exact Am (hl x hx).2.2 hp
   ·rcases List.mem_append.mp hl' with q|q
    ·obtain ⟨h1,h2,h3⟩:=hl l q
     exact ⟨h1,h2,by rw [Ai h2,Ai (Am h3 hp)];exact h3⟩
    ·rw [List.mem_singleton.mp q]
     exact ⟨none_of s2 hp,pD,by rw [Ai pD];exact Ab⟩
  rintro σ ys H2 ⟨u,ls,rfl,rfl,s2,d2,ll,nd,hl⟩
  have ll:ls.length=N:=by simpa using ll
  have B0:Bes H H2 D ls N (Bm []):=⟨s2,d2,ll,nd,fun l h=>⟨(hl l h).1,(hl l h).2.1⟩,fun v l h=>⟨[],(hl l (List.mem_of_getElem? h)).2.2,rfl,fun i r q e=>(by simp at e)⟩⟩
  refine ⟨_,rfl,st,rfl,⟨_,SqT.of (s2 _ _ hst)⟩,for_tup (K:=K) (a:=st) (xs:=rs.map V.ref) (fun i σ H3=>∃(u3 u4 u5 u6:Option V),σ=[some (.int (N:Int)),some (.ref st),some (.ref D),u3,u4,u5,u6]∧Bes H H3 D ls N (Bm (S.take i))) ⟨_,_,_,_,rfl,B0⟩ (fun i σ H3 _ ⟨_,_,_,_,_,B⟩=>SqT.of (B.same _ _ hst)) ?_ ?_⟩
  ·rintro i x σ H3 hx ⟨u3,u4,u5,u6,rfl,B⟩
   obtain ⟨r,hr',rfl⟩:=Ay hx
   obtain ⟨t,ht,er⟩:=hrs.get hr'
   have er3:=B.same _ _ er
   have tN:=hN t (List.mem_of_getElem? ht)
   have h1:t.2.1<ls.length:=by omega
   have h2:t.2.2.1<ls.length:=by omega
   have tk:S.take (i+1)=S.take i++[t]:=by rw [List.take_add_one,ht];rfl
   have nl:∀v,(Bm (S.take i) v).length≤200:=fun v=>Nat.le_trans (nbrs_len _ _) (by rw [List.length_take];omega)
   have l1:=C1 h1
   have l2:=C1 h2
   obtain ⟨rs1,e1,n1,_⟩:=B.prs _ _ l1
   refine ⟨r,_,rfl,SqT.of er3,rfl,_,_,rfl,_,_,rfl,_,_,rfl,_,_,rfl,rfl,?_⟩
   refine ⟨_,rfl,_,rfl,D,_,_,.ref ls[t.2.1],rfl,rfl,SqL.of B.hb,Ap (by rw [List.getElem?_map,l1];rfl),.inl ⟨rfl,_,SqL.of e1⟩,_,rfl,_,rfl,small (by simp),fun p hp=> ?_⟩
   refine ⟨_,_,_,rfl,rfl,Ad hp _ _ e1,Al (by rw [List.length_map];have:=nl t.2.1;omega),?_⟩
   have B1:=B.app (n:=t.1) (u:=t.2.2.1) l1 hp e1
   generalize upd (upd H3 p _) _ _=H4 at B1
   obtain ⟨rs2,e2,n2,_⟩:=B1.prs _ _ l2
   refine ⟨_,rfl,_,rfl,D,_,_,.ref ls[t.2.2.1],rfl,rfl,SqL.of B1.hb,Ap (by rw [List.getElem?_map,l2];rfl),.inl ⟨rfl,_,SqL.of e2⟩,_,rfl,_,rfl,small (by simp),fun p' hp'=> ?_⟩
   have n3:rs2.length≤201:=by
    rw [n2]
    split
    ·rw [List.length_append];have:=nl t.2.1;simp only [List.length_cons,List.length_nil];omega
    ·have:=nl t.2.2.1;omega
   refine ⟨_,_,_,rfl,rfl,Ad hp' _ _ e2,Al (by rw [List.length_map];omega),_,_,_,_,rfl,?_⟩
   have B2:=B1.app (n:=t.1) (u:=t.2.1) l2 hp' e2
   rw [nb_two,←tk] at B2
   exact B2
  ·rintro σ H3 ⟨u3,u4,u5,u6,rfl,B⟩
   rw [List.length_map,hrs.1,List.take_length] at B
   exact ⟨_,rfl,k D H3 B.same ⟨ls,B.hb,B.len,B.prs⟩⟩
theorem ok_Beside {f:Addr} {fd:FuncData} (F:Fun K "beside_of" "beside_of" sBeside f fd) (T:Txt mg):FnOk P w K mg base CX0 1 f fd ["many","stand"] spBeside:=
 ((ok_BesideL F T).or (ok_BesideT F T)).imp fun vs H Q E ⟨N,st,S,e,h,r⟩=>h.elim (fun h=> .inl ⟨N,st,S,e,h,r⟩) fun h=> .inr ⟨N,st,S,e,h,r⟩
theorem scWays:A4 ["many","stand","place","beside","ways","waiting","here","name","there"] ["many","stand","place"] (Af sWays):=⟨rfl,rfl,rfl,by decide+kernel,rfl,by decide+kernel,by decide+kernel⟩
theorem ok_Ways {f:Addr} {fd:FuncData} (F:Fun K "ways_from" "ways_from" sWays f fd) (T:Txt mg)
  {gBeside:Addr} {fBeside:FuncData} (kBeside:PySem.W.keepIn K (.ref gBeside)=true) (bBeside:Binds K fBeside ["many","stand"] []) (hBeside:mg "beside_of"=some (.ref gBeside)) (GBeside:FnOk P w K mg base CX0 1 gBeside fBeside ["many","stand"] spBeside):
  FnOk P w K mg base CX0 2 f fd ["many","stand","place"] spWays:=by
 refine F.ok scWays (fun vs H Q E h=> ?_) (fun cdv A outer s H vs Q E hr h=> ?_)
 ·obtain ⟨_,_,_,_,rfl,_⟩:=h;rfl
 ·obtain ⟨N,st,S,p,rfl,hst,hN,N60,S100,pN,k⟩:=h
  refine ⟨_,Ae (Au (i:=3) scWays.nd rfl (Or.inl rfl) (Aq GBeside hr rfl hBeside kBeside bBeside .nil A5 (Aa (pv 0) (Aa (pv 1) Ac))))
   (Ae (Au (i:=4) scWays.nd rfl (Or.inl rfl) (A1 op_rep (Ch (Aa Bk Ac)) (pv 0)))
   (Ae (ps_asg (Bf Ac) (pg_sub (pv 4) (pv 2) set_list))
   (Ae (Au (i:=5) scWays.nd rfl (Or.inl rfl) (Ch (Aa (pv 2) Ac)))
   (Ae (ps_while PassesOwn.never (pt_truth (pv 5) (fun _=>rfl)) (Ae (Au (i:=6) scWays.nd rfl (Or.inl rfl) (pe_bm PySem.F.plainAttrs_list PySem.F.slot_list_pop PySem.F.type_list_pop mt_popAt (pv 5) (Aa Ag Ac)))
   (Ah (C3 PassesOwn.never rfl (B8 (Az Ax (pv 3) (pv 6) (fun _ _=>rfl))) (pg_tup rfl (Ar (Aj (i:=7) scWays.nd rfl (Or.inl rfl)) (Ar (Aj (i:=8) scWays.nd rfl (Or.inl rfl)) Cc))) (Ah (A8 (Ao Cf (Az Ax (pv 4) (pv 8) (fun _ _=>rfl)) Bk (An _)) (Ae (ps_asg (A1 op_catTT (Az Ax (pv 4) (pv 6) (fun _ _=>rfl)) (Bf (Aa (pv 7) Ac))) (pg_sub (pv 4) (pv 8) set_list))
   (Ah (Cp (pe_bm PySem.F.plainAttrs_list PySem.F.slot_list_append PySem.F.type_list_append Bu (pv 5) (Aa (pv 8) Ac))))) Av))))))
   (Ah (As (pv 4))))))),?_⟩
  refine ⟨_,rfl,_,rfl,N,st,S,rfl,hst,hN,N60,S100,fun b H1 s1 hb=> ?_⟩
  refine ⟨small (by simp),fun q hq=>⟨_,rfl,q,_,_,rfl,rfl,Ab,by omega,by omega,small (by simp only [List.length_cons,List.length_nil];omega),fun ws hws=> ?_⟩⟩
  have fl:(List.replicate (N:Int).toNat [V.non]).flatten=List.replicate N V.non:=by rw [List.flatten_replicate_singleton];rfl
  rw [fl]
  have s2:=(Ad (H:=H1) (o:= .lst [.non]) hq).trans (Ad (o:= .lst (List.replicate N V.non)) hws)
  have nw:H1 ws=none:=none_of (Ad (H:=H1) (o:= .lst [.non]) hq) hws
  have e2:=Ab (H:=upd H1 q (.lst [.non])) (a:=ws) (o:= .lst (List.replicate N V.non))
  generalize upd (upd H1 q (.lst [.non])) ws (.lst (List.replicate N V.non))=H2 at s2 e2
  have W2:WaysAt H2 ws (List.replicate N none):=⟨_,e2,by simp,fun i x o hx ho=>by
   rw [List.getElem?_replicate] at hx ho
   split at hx
   ·rename_i hi
    rw [if_pos hi] at ho
    cases hx
    cases ho
    rfl
   ·cases hx⟩
  refine ⟨small (by simp),fun e he=> ?_⟩
  have s3:=Ad (o:= .tup []) he
  have W3:=W2.same s3
  have e3:=s3 _ _ e2
  have t3:=Ab (H:=H2) (a:=e) (o:= .tup [])
  generalize upd H2 e (.tup [])=H3 at s3 W3 e3 t3
  have W4:WaysAt (upd H3 ws (.lst ((List.replicate N V.non).set p (.ref e)))) ws (Cm N p).1:=WaysAt.set (w:=[]) W3 e3 t3
  have s4:Same H1 (upd H3 ws (.lst ((List.replicate N V.non).set p (.ref e)))):=Aw (s2.trans s3) nw
  refine ⟨_,rfl,_,rfl,ws,_,_,p,rfl,rfl,e3,(by have h:ixN (List.replicate N V.non).length (p:Int)=some p:=ixN_nat (by simpa using pN);exact h),?_⟩
  generalize upd H3 ws _=H4 at W4 s4
  refine ⟨_,rfl,small (by simp),fun wt hwt=> ?_⟩
  have s5:=s4.trans (Ad (o:= .lst [.int (p:Int)]) hwt)
  have nt:H1 wt=none:=none_of s4 hwt
  have W5:=W4.same (Ad (o:= .lst [.int (p:Int)]) hwt)
  have t5:=Ab (H:=H4) (a:=wt) (o:= .lst [.int (p:Int)])
  have wwt:ws≠wt:=by obtain ⟨xs,hx,_⟩:=W4;exact Am hx hwt
  generalize upd H4 wt (.lst [.int (p:Int)])=H5 at s5 W5 t5
  dsimp only [gName,tSeq]
  refine while_gh (fun m σ H6=>∃(i:Nat) (u6 u7 u8:Option V) (wl:Ws) (tl:List Nat),σ=[some (.int (N:Int)),some (.ref st),some (.int (p:Int)),some (.ref b),some (.ref ws),some (.ref wt),u6,u7,u8]∧Same H1 H6∧H6 wt=some (.lst ((tl.map Int.ofNat).map V.int))∧WaysAt H6 ws wl∧iter S i (Cm N p)=(wl,tl)∧BInv S N p (wl,tl)∧m=nones wl+tl.length∧i+m≤64∧tl.length≤64∧∀v x,Wk.Vis wl v x→x.length≤i)
   (m0:=nones (Cm N p).1+1) ⟨0,_,_,_,(Cm N p).1,[p],rfl,s5,t5,W5,rfl,binv0 pN,rfl,?_,by simp,fun v x q=>by rw [binit_vis pN q];simp⟩ ?_ ?_
  ·have:nones (Cm N p).1≤(Cm N p).1.length:=List.countP_le_length
   simp only [Cm,List.length_set,List.length_replicate] at this ⊢
   omega
  ·rintro m σ H6 ⟨i,u6,u7,u8,wl,tl,rfl,s6,t6,W6,it6,I6,hm,hi,tl6,sh6⟩
   refine ⟨_,rfl,_,.inl ⟨_,SqL.of t6,rfl⟩,?_⟩
   cases tl with
   |nil=>
    refine Bt ?_
    rw [←ways_of it6 (by omega)] at W6
    exact ⟨_,rfl,k ws H6 (s1.trans s6) W6⟩
   |cons h rest=>
    refine iteT ?_
    obtain ⟨w0,hv0,J⟩:=pinv_of I6
    have hh:h<N:=by have:=(List.getElem?_eq_some_iff.mp hv0).1;rw [←I6.len];exact this
    refine ⟨_,rfl,.inl ⟨rfl,_,SqL.of t6⟩,wt,_,0,0,.int (h:Int),rfl,rfl,t6,by decide,by decide,by simp [seqIndex?],rfl,?_⟩
    have W7:=W6.keep (zs:=(rest.map Int.ofNat).map V.int) t6 wwt
    have s7:Same H1 (upd H6 wt (.lst ((rest.map Int.ofNat).map V.int))):=Aw s6 nt
    have t7:=Ab (H:=H6) (a:=wt) (o:= .lst ((rest.map Int.ofNat).map V.int))
    have eH:upd H6 wt (.lst (List.eraseIdx (List.map V.int (List.map Int.ofNat (h::rest))) 0))=upd H6 wt (.lst ((rest.map Int.ofNat).map V.int)):=rfl
    rw [eH]
    generalize upd H6 wt (.lst ((rest.map Int.ofNat).map V.int))=H7 at W7 s7 t7
    obtain ⟨ls,hls,lls,hpr⟩:=hb.same s7
    have hl:=C1 (l:=ls) (i:=h) (by omega)
    obtain ⟨rs,er,lr,hr3⟩:=hpr h _ hl
    have w0len:w0.length≤64:=by have:=sh6 h w0 hv0;omega
    refine ⟨_,rfl,_,rfl,b,_,_,.ref ls[h],rfl,rfl,SqL.of hls,Ap (by rw [List.getElem?_map,hl];rfl),_,rfl,⟨_,SqL.of er⟩,?_⟩
    have key:∀H8,Same H1 H8→H8 ls[h]=some (.lst (rs.map V.ref))∧∀(i:Nat) r q,rs[i]? =some r→(Bm S h)[i]? =some q→H8 r=some (.tup [.str q.1,.int (q.2:Int)]):=by
     intro H8 s8
     obtain ⟨ls',hls',_,hpr'⟩:=hb
     have e1:ls'=ls:=by
      have:=s7 _ _ hls'
      rw [hls] at this
      injection this with this
      injection this with this
      exact (refs_inj this).symm
     subst e1
     obtain ⟨rs',er',lr',hr'⟩:=hpr' h _ hl
     have e2:rs'=rs:=by
      have:=s7 _ _ er'
      rw [er] at this
      injection this with this
      injection this with this
      exact (refs_inj this).symm
     subst e2
     exact ⟨s8 _ _ er',fun i r q e f=>s8 _ _ (hr' i r q e f)⟩
    refine for_list (K:=K) (a:=ls[h]) (xs:=rs.map V.ref) (fun j σ H8=>∃(u7 u8:Option V),σ=[some (.int (N:Int)),some (.ref st),some (.int (p:Int)),some (.ref b),some (.ref ws),some (.ref wt),some (.int (h:Int)),u7,u8]∧Same H1 H8∧H8 wt=some (.lst (((Bw w0 ((Bm S h).take j) (wl,rest)).2.map Int.ofNat).map V.int))∧WaysAt H8 ws (Bw w0 ((Bm S h).take j) (wl,rest)).1)
     ⟨_,_,rfl,s7,t7,W7⟩ (fun j σ H8 _ ⟨_,_,_,s8,_⟩=>SqL.of (key H8 s8).1) ?_ ?_
    ·rintro j x σ H8 hx ⟨u7',u8',rfl,s8,t8,W8⟩
     obtain ⟨r,hr',rfl⟩:=Ay hx
     have hj:j<(Bm S h).length:=by rw [←lr];exact (List.getElem?_eq_some_iff.mp hr').1
     have hq:=C1 hj
     have er8:=(key H8 s8).2 j r _ hr' hq
     have tk:(Bm S h).take (j+1)=(Bm S h).take j++[(Bm S h)[j]]:=by rw [List.take_add_one,hq];rfl
     have qN:((Bm S h)[j]).2<N:=nb_lt hN (List.getElem_mem hj)
     have jl:j<201:=by have:=nbrs_len S h;omega
     obtain ⟨vl1,vl2⟩:=visit_len w0 ((Bm S h).take j) (wl,rest)
     have vh:=visit_vis w0 ((Bm S h).take j) (wl,rest) hv0
     rw [tk,visit_snoc]
     generalize (Bm S h)[j]=q at er8 qN
     generalize Bw w0 ((Bm S h).take j) (wl,rest)=st' at *
     obtain ⟨wl',tl'⟩:=st'
     dsimp only at *
     have qw:q.2<wl'.length:=by rw [vl1];show _<wl.length;rw [I6.len];exact qN
     refine ⟨r,_,rfl,SqT.of er8,rfl,_,_,rfl,_,_,rfl,rfl,?_⟩
     obtain ⟨xs,x,hxs,hx',lxs,hxo⟩:=W8.get (C1 qw)
     refine ⟨_,rfl,_,rfl,ws,_,_,x,rfl,rfl,SqL.of hxs,Ap hx',rfl,_,rfl,?_⟩
     cases ho:wl'[q.2] with
     |some z=>
      rw [ho] at hxo
      obtain ⟨rz,rfl,_⟩:=hxo
      rw [vis1_no (by dsimp only;rw [C1 qw,ho];simp)]
      refine Bp (fun g=>absurd g (by simp)) fun _=> ?_
      exact ⟨_,_,rfl,s8,t8,W8⟩
     |none=>
      rw [ho] at hxo
      have hxo:x= .non:=hxo
      subst hxo
      rw [vis1_yes (by dsimp only;rw [C1 qw,ho])]
      refine Bp (fun _=> ?_) fun g=>absurd (by simp) g
      obtain ⟨xs2,x2,hxs2,hx2,_,hxo2⟩:=W8.get vh
      obtain ⟨r0,rfl,er0⟩:=hxo2
      rw [hxs] at hxs2
      injection hxs2 with hxs2
      injection hxs2 with hxs2
      subst hxs2
      have tl9:((tl'.map Int.ofNat).map V.int).length≤1000:=by
       simp only [List.length_map,List.length_take,List.length_cons] at vl2 tl6 ⊢
       omega
      refine ⟨_,rfl,_,rfl,ws,_,_,.ref r0,rfl,rfl,SqL.of hxs,Ap hx2,_,rfl,small (by simp),fun p1 hp1=> ?_⟩
      have s9:=Ad (o:= .tup [.str q.1]) hp1
      have p9:=Ab (H:=H8) (a:=p1) (o:= .tup [.str q.1])
      have w9:w0.length≤100:=by
       have:=(J.ht h w0 J.hv);have:=w0len;omega
      generalize upd H8 p1 (.tup [.str q.1])=H9 at s9 p9
      refine ⟨r0,p1,_,_,rfl,rfl,SqT.of (s9 _ _ er0),SqT.of p9,small (by simp;omega),fun e=> ?_,fun _ e=>absurd e (by simp),fun _ _ p2 hp2=> ?_⟩
      ·have e0:w0=[]:=by simpa using e
       have e9:H9 p1=some (.tup ((w0++[q.1]).map V.str)):=by rw [e0];exact p9
       have hxs9:=s9 _ _ hxs
       have W9:=(W8.same s9).set (u:=q.2) hxs9 e9
       have t9:=s9 _ _ t8
       refine ⟨_,rfl,_,rfl,ws,_,_,q.2,rfl,rfl,hxs9,ixN_nat (by omega),?_⟩
       have s10:Same H1 (upd H9 ws (.lst (xs.set q.2 (.ref p1)))):=Aw (s8.trans s9) nw
       have t10:upd H9 ws (.lst (xs.set q.2 (.ref p1))) wt=some (.lst ((tl'.map Int.ofNat).map V.int)):=by rw [Ai wwt.symm];exact t9
       generalize upd H9 ws (.lst (xs.set q.2 (.ref p1)))=H10 at W9 s10 t10
       refine ⟨_,rfl,.inl ⟨rfl,_,SqL.of t10⟩,_,rfl,wt,_,_,rfl,rfl,t10,Al tl9,_,_,rfl,Aw s10 nt,?_,W9.keep t10 wwt⟩
       rw [Ab,List.map_append,List.map_append];rfl
      ·have e9:upd H9 p2 (.tup (w0.map V.str++[.str q.1])) p2=some (.tup ((w0++[q.1]).map V.str)):=by rw [Ab,List.map_append];rfl
       have s9:=s9.trans (Ad (o:= .tup (w0.map V.str++[.str q.1])) hp2)
       generalize upd H9 p2 (.tup (w0.map V.str++[.str q.1]))=H9 at s9 e9
       have hxs9:=s9 _ _ hxs
       have W9:=(W8.same s9).set (u:=q.2) hxs9 e9
       have t9:=s9 _ _ t8
       refine ⟨_,rfl,_,rfl,ws,_,_,q.2,rfl,rfl,hxs9,ixN_nat (by omega),?_⟩
       have s10:Same H1 (upd H9 ws (.lst (xs.set q.2 (.ref p2)))):=Aw (s8.trans s9) nw
       have t10:upd H9 ws (.lst (xs.set q.2 (.ref p2))) wt=some (.lst ((tl'.map Int.ofNat).map V.int)):=by rw [Ai wwt.symm];exact t9
       generalize upd H9 ws (.lst (xs.set q.2 (.ref p2)))=H10 at W9 s10 t10
       refine ⟨_,rfl,.inl ⟨rfl,_,SqL.of t10⟩,_,rfl,wt,_,_,rfl,rfl,t10,Al tl9,_,_,rfl,Aw s10 nt,?_,W9.keep t10 wwt⟩
       rw [Ab,List.map_append,List.map_append];rfl
    ·rintro σ H8 ⟨u7',u8',rfl,s8,t8,W8⟩
     rw [List.length_map,lr,List.take_length] at t8 W8
     have eb:bstep S (wl,h::rest)=Bw w0 (Bm S h) (wl,rest):=by
      show Bw ((wl[h]?.join).getD []) (Bm S h) (wl,rest)=_
      unfold Wk.Vis at hv0
      rw [hv0];rfl
     obtain ⟨I8,m8⟩:=bstep_ok hN I6
     have sh8:=bstep_short hN I6 sh6
     have it8:iter S (i+1) (Cm N p)=Bw w0 (Bm S h) (wl,rest):=by rw [iter_snoc,it6,eb]
     rw [eb] at I8 m8 sh8
     generalize Bw w0 (Bm S h) (wl,rest)=st' at *
     obtain ⟨wl',tl'⟩:=st'
     dsimp only at *
     refine ⟨nones wl'+tl'.length,by omega,i+1,_,_,_,wl',tl',rfl,s8,t8,W8,it8,I8,rfl,by omega,by omega,sh8⟩
  ·rintro σ H6 Q Q' f ⟨v,e,b',h',q⟩
   exact ⟨v,e,b',h',f _ _ q⟩
theorem scPart:A4 ["many","stand","place","ways"] ["many","stand","place"] (Af sPart):=⟨rfl,rfl,rfl,by decide+kernel,rfl,by decide+kernel,by decide+kernel⟩
theorem ok_Part {f:Addr} {fd:FuncData} (F:Fun K "part_of" "part_of" sPart f fd) (T:Txt mg)
  {gWays:Addr} {fWays:FuncData} (kWays:PySem.W.keepIn K (.ref gWays)=true) (bWays:Binds K fWays ["many","stand","place"] []) (hWays:mg "ways_from"=some (.ref gWays)) (GWays:FnOk P w K mg base CX0 2 gWays fWays ["many","stand","place"] spWays):
  FnOk P w K mg base CX0 3 f fd ["many","stand","place"] spPart:=by
 refine F.ok scPart (fun vs H Q E h=> ?_) (fun cdv A outer s H vs Q E hr h=> ?_)
 ·obtain ⟨_,_,_,_,rfl,_⟩:=h;rfl
 ·obtain ⟨N,st,S,p,rfl,hst,hN,N60,S100,pN,k⟩:=h
  refine ⟨_,Ae (Au (i:=3) scPart.nd rfl (Or.inr rfl) (Aq GWays hr rfl hWays kWays bWays .nil A5 (Aa (pv 0) (Aa (pv 1) (Aa (pv 2) Ac)))))
   (Ah (As (A6 Bo (by rfl) T.tuple (by decide+kernel) (Aa (Bn (T:=["there"]) (F:=["ways"]) (js:=[3]) (CS.to (osc:=Af sPart) ⟨by rfl,by decide+kernel,by decide+kernel,by decide+kernel,by decide+kernel,by decide+kernel,by decide+kernel⟩ rfl rfl) rfl (Cg rfl T.range (Aa (pv 0) Ac)) (fun _ _ _ _ _=>Aj (i:=0) (show (["there","ways"]:List Str).Nodup by decide+kernel) rfl (Or.inl rfl)) (fun _ _ _ _ _=>Cv (Ao op_notN (Az (r:=rIxL K) Ax (pv 1) (pv 0) (fun _ _=>rfl)) Bk (An _))) (fun _ _ _ _ _=>pv 0)) Ac)))),?_⟩
  refine ⟨_,rfl,_,rfl,_,rfl,N,st,S,p,rfl,hst,hN,N60,S100,pN,fun a H1 s1 W1=> ?_⟩
  have wl:=ways_len hN pN N60
  refine ⟨_,rfl,(N:Int),rfl,by omega,by omega,fun D hD=>Cb (lo:=0) (n:=(N:Int).toNat) (fun j σ ys H2=>∃(u:Option V),σ=[u,some (.ref a)]∧ys=((((List.range j).filter fun v=>((waysF N S p)[v]?.join).isSome).map Int.ofNat).map V.int)∧H2=upd H1 D (.lst ys)) ⟨none,rfl,rfl,rfl⟩ (fun j σ ys H2 _ ⟨_,_,_,e⟩=>by rw [e];exact Ab) ?_ ?_⟩
  ·rintro j σ ys H2 hj ⟨u,rfl,rfl,rfl⟩
   have hj:j<N:=by simpa using hj
   have hjw:j<(waysF N S p).length:=by omega
   obtain ⟨xs,x,hxs,hx,lx,hxo⟩:=(W1.same (Ad (o:= .lst ((((List.range j).filter fun v=>((waysF N S p)[v]?.join).isSome).map Int.ofNat).map V.int)) hD)).get (C1 hjw)
   refine ⟨_,rfl,_,rfl,a,_,_,x,rfl,rfl,SqL.of hxs,by rw [Int.zero_add];exact Ap hx,rfl,_,rfl,?_⟩
   have lf:((List.range j).filter fun v=>((waysF N S p)[v]?.join).isSome).length≤60:=Nat.le_trans (List.length_filter_le _ _) (by rw [List.length_range];omega)
   cases ho:(waysF N S p)[j] with
   |none=>
    rw [ho] at hxo
    have hxo:x= .non:=hxo
    subst hxo
    refine Bp (fun g=>absurd g (by simp)) fun _=>⟨_,rfl,?_,?_⟩
    ·rw [List.range_succ,List.filter_append];simp [C1 hjw,ho]
    ·rfl
   |some z=>
    rw [ho] at hxo
    obtain ⟨r,rfl,_⟩:=hxo
    refine Bp (fun _=>⟨_,rfl,Ab,Al (by simp only [List.length_map];omega),_,rfl,?_,by rw [upd_upd]⟩) fun g=>absurd (by simp) g
    rw [List.range_succ,List.filter_append,List.map_append,List.map_append]
    simp [C1 hjw,ho]
  ·rintro σ ys H2 ⟨u,rfl,rfl,rfl⟩
   exact ⟨D,_,rfl,.inl ⟨SqL.of Ab,fun l hl=>k l _ (s1.trans ((Ad hD).trans (Ad hl))) Ab⟩⟩
end
end K38
namespace K38
open PySem L2 Wk
def NameOk (x:Str):Prop:=1≤x.length∧x.length≤8∧∀c∈x.cps.toList,97≤c∧c≤122
abbrev R6:=T4×Nat×Bool
def rowV (x:R6):List V:=tieV x.1++[.int (x.2.1:Int),.bl x.2.2]
def RowsAt (H:Hp) (rs:List Addr) (R:List R6):Prop:=rs.length=R.length∧∀(i:Nat) r x,rs[i]? =some r→R[i]? =some x→H r=some (.tup (rowV x))
theorem RowsAt.mono {H H':Hp} {rs:List Addr} {R:List R6} (h:RowsAt H rs R) (f:∀r xs,H r=some (.tup xs)→H' r=some (.tup xs)):RowsAt H' rs R:=⟨h.1,fun i r x a b=>f _ _ (h.2 i r x a b)⟩
theorem RowsAt.get {H:Hp} {rs:List Addr} {R:List R6} (h:RowsAt H rs R) {i:Nat} {r:Addr} (hr:rs[i]? =some r):∃x,R[i]? =some x∧H r=some (.tup (rowV x)):=by
 have hi:i<R.length:=by rw [←h.1];exact (List.getElem?_eq_some_iff.mp hr).1
 exact ⟨R[i],C1 hi,h.2 i r _ hr (C1 hi)⟩
def LayAt (H:Hp) (h:Addr) (N:Nat) (R:List R6):Prop:=∃(tp:Addr) (rs:List Addr),H h=some (.tup [.int (N:Int),.ref tp])∧H tp=some (.tup (rs.map V.ref))∧RowsAt H rs R
def kpB (L:Nat) (x:R6):Bool:=decide (L≤x.2.1) && x.2.2
def tiF (R:List R6) (p:R6→Bool):List T4:=(R.filter p).map (·.1)
def spKept:Sp:=fun vs H Q _=>∃(tp:Addr) (rs:List Addr) (R:List R6) (L:Nat),vs=[.ref tp,.int (L:Int)]∧H tp=some (.tup (rs.map V.ref))∧RowsAt H rs R∧R.length≤60∧∀st H',Same H H'→StandAt H' st ((R.filter (kpB L)).map (·.1))→Q (.ref st) H'
theorem RowsAt.snoc {H:Hp} {rs:List Addr} {R:List R6} {r:Addr} {x:R6} (h:RowsAt H rs R) (hr:H r=some (.tup (rowV x))):RowsAt H (rs++[r]) (R++[x]):=by
 refine ⟨by rw [List.length_append,List.length_append,h.1];rfl,fun i r0 p0 e1 e2=> ?_⟩
 rw [List.getElem?_append] at e1 e2
 rw [h.1] at e1
 split at e1
 ·rename_i z
  rw [if_pos z] at e2
  exact h.2 i r0 p0 e1 e2
 ·rename_i z
  rw [if_neg z] at e2
  have hz:i - R.length=0:=by
   have:=(List.getElem?_eq_some_iff.mp e1).1
   simp only [List.length_cons,List.length_nil] at this
   omega
  rw [hz] at e1 e2
  cases e1
  cases e2
  exact hr
def C4 (x:R6):List V:=[.int (x.1.2.1:Int),.int (x.1.2.2.1:Int),.int x.1.2.2.2,.int (x.2.1:Int),.bl x.2.2]
def pnOf (q:Addr×R6):Srt.Pn:=(q.1,q.2.1.1,C4 q.2)
theorem pn_ref {rs:List Addr} {R:List R6} (h:rs.length=R.length):((rs.zip R).map pnOf).map Srt.nRef=rs.map V.ref:=by
 rw [List.map_map]
 have e:(rs.zip R).map Prod.fst=rs:=List.map_fst_zip (Nat.le_of_eq h)
 conv=>rhs;rw [←e,List.map_map]
 rfl
theorem pn_nm {rs:List Addr} {R:List R6} (h:rs.length=R.length):((rs.zip R).map pnOf).map (·.2.1)=R.map (·.1.1):=by
 rw [List.map_map]
 have e:(rs.zip R).map Prod.snd=R:=List.map_snd_zip (Nat.le_of_eq h.symm)
 conv=>rhs;rw [←e,List.map_map]
 rfl
theorem RowsAt.zip {H:Hp} {rs:List Addr} {R:List R6} (h:RowsAt H rs R):∀q∈rs.zip R,H q.1=some (.tup (rowV q.2)):=fun q hq=>by
 obtain ⟨i,hi,e⟩:=List.getElem_of_mem hq
 rw [List.getElem_zip] at e
 rw [List.length_zip] at hi
 subst e
 exact h.2 i _ _ (C1 (by omega)) (C1 (by omega))
theorem RowsAt.unzip {H:Hp} {l:List (Addr×R6)} (h:∀q∈l,H q.1=some (.tup (rowV q.2))):RowsAt H (l.map (·.1)) (l.map (·.2)):=⟨by rw [List.length_map,List.length_map],fun i r x e1 e2=>by
 rw [List.getElem?_map] at e1 e2
 cases e:l[i]? with
 |none=>rw [e] at e1;cases e1
 |some q=>
  rw [e] at e1 e2
  cases e1
  cases e2
  exact h q (List.mem_of_getElem? e)⟩
theorem str_ext {x y:Str} (h:x.cps.toList=y.cps.toList):x=y:=by
 cases x;cases y;congr 1;exact Array.toList_inj.mp h
def UpP (R:List R6):Prop:=R.Pairwise fun x y=>x.1.1.cps.toList<y.1.1.cps.toList
theorem ti_snoc {R:List R6} {x:R6} {p:R6→Bool}:tiF (R++[x]) p=tiF R p++(if p x=true then [x.1] else []):=by
 unfold tiF
 rw [List.filter_append,List.map_append]
 congr 1
 by_cases g:p x=true
 ·rw [if_pos g,List.filter_cons_of_pos g];rfl
 ·rw [if_neg g,List.filter_cons_of_neg g];rfl
theorem ties_snoc {H:Hp} {qs:List Addr} {S:List T4} {r:Addr} {t:T4} (h:TiesAt H qs S) (hr:H r=some (.tup (tieV t))):TiesAt H (qs++[r]) (S++[t]):=by
 refine ⟨by rw [List.length_append,List.length_append,h.1];rfl,fun i r0 p0 e1 e2=> ?_⟩
 rw [List.getElem?_append] at e1 e2
 rw [h.1] at e1
 split at e1
 ·rename_i z
  rw [if_pos z] at e2
  exact h.2 i r0 p0 e1 e2
 ·rename_i z
  rw [if_neg z] at e2
  have hz:i - S.length=0:=by
   have:=(List.getElem?_eq_some_iff.mp e1).1
   simp only [List.length_cons,List.length_nil] at this
   omega
  rw [hz] at e1 e2
  cases e1
  cases e2
  exact hr
theorem ties_mono {H H':Hp} {rs:List Addr} {S:List T4} (h:TiesAt H rs S) (f:∀r xs,H r=some (.tup xs)→H' r=some (.tup xs)):TiesAt H' rs S:=⟨h.1,fun i r t a b=>f _ _ (h.2 i r t a b)⟩
theorem cut4 (x:R6):cutV (rowV x) none (some (4:Int))=tieV x.1:=by
 rw [show (some (4:Int))=some ((4:Nat):Int) from rfl,cutV_take (by show 4≤6;decide)];rfl
theorem ti_take {R:List R6} {j:Nat} {y:R6} (e:R[j]? =some y) (p:R6→Bool):tiF (R.take (j+1)) p=tiF (R.take j) p++(if p y=true then [y.1] else []):=by rw [Be e,ti_snoc]
theorem ti_len (R:List R6) (p:R6→Bool):(tiF R p).length≤R.length:=by unfold tiF;rw [List.length_map];exact List.length_filter_le _ _
theorem LayAt.mono {H H':Hp} {h:Addr} {N:Nat} {R:List R6} (x:LayAt H h N R) (f:∀r xs,H r=some (.tup xs)→H' r=some (.tup xs)):LayAt H' h N R:=let ⟨tp,rs,a,b,c⟩:=x;⟨tp,rs,f _ _ a,f _ _ b,c.mono f⟩
theorem LayAt.same {H H':Hp} {h:Addr} {N:Nat} {R:List R6} (x:LayAt H h N R) (s:Same H H'):LayAt H' h N R:=x.mono fun r xs=>s r (.tup xs)
def Cr (R:List R6) (n:Str):List R6:=R.filter fun x=> !decide (x.1.1=n)
def spRowOf:Sp:=fun vs H Q _=>∃(tp:Addr) (rs:List Addr) (R:List R6) (n:Str),vs=[.ref tp,.str n]∧H tp=some (.tup (rs.map V.ref))∧RowsAt H rs R∧(∀(r:Addr) (x:R6),H r=some (.tup (rowV x))→x∈R→x.1.1=n→Q (.ref r) H)∧(n ∉ R.map (·.1.1)→Q .non H)
def spWithout:Sp:=fun vs H Q _=>∃(tp:Addr) (rs:List Addr) (R:List R6) (n:Str),vs=[.ref tp,.str n]∧H tp=some (.tup (rs.map V.ref))∧RowsAt H rs R∧R.length≤60∧∀(tq:Addr) (qs:List Addr) (H':Hp),Same H H'→H' tq=some (.tup (qs.map V.ref))→RowsAt H' qs (Cr R n)→Q (.ref tq) H'
theorem get_mem {R:List R6} {j:Nat} {y:R6} (h:R[j]? =some y):y∈R:=List.mem_of_getElem? h
section
variable {P:Program} {w:World} {K:PySem.W.Frag} {mg:Str→Option Value} {base:Heap}
theorem scKept:A4 ["rows","layer"] ["rows","layer"] (Af sKept):=⟨rfl,rfl,rfl,by decide+kernel,rfl,by decide+kernel,by decide+kernel⟩
theorem ok_Kept {f:Addr} {fd:FuncData} (F:Fun K "kept_from" "kept_from" sKept f fd) (T:Txt mg):
  FnOk P w K mg base CX0 1 f fd ["rows","layer"] spKept:=by
 refine F.ok scKept (fun vs H Q E h=> ?_) (fun cdv A outer s H vs Q E hr h=> ?_)
 ·obtain ⟨_,_,_,_,rfl,_⟩:=h;rfl
 ·obtain ⟨tp,rs,R,L,rfl,ht,hR,lR,k⟩:=h
  refine ⟨_,Ah (As (Bn (T:=["row"]) (F:=["layer"]) (js:=[1]) (CS.to (osc:=Af sKept) ⟨by rfl,by decide+kernel,by decide+kernel,by decide+kernel,by decide+kernel,by decide+kernel,by decide+kernel⟩ rfl rfl) rfl (pi_tup (pv 0)) (fun _ _ _ _ _=>Aj (i:=0) (show (["row","layer"]:List Str).Nodup by decide+kernel) rfl (Or.inl rfl)) (fun _ _ _ _ _=>Cv (PW.pt (pw_and (Ao op_ge (Az (r:=rIxT K) Bz (pv 0) Ag (fun _ _=>rfl)) (pv 1) (An _)) (pw_and1 (A9 (Az (r:=rIxT K) Bz (pv 0) Ag (fun _ _=>rfl))))))) (fun _ _ _ _ _=>C0 (r:=rSlTA K) sl_tupA (pv 0) po_none (Ck Ag)))),?_⟩
  refine ⟨_,rfl,tp,rfl,⟨_,SqT.of ht⟩,fun D hD=>C7 (K:=K) (a:=tp) (xs:=rs.map V.ref) (fun j σ ys H2=>∃(u:Option V) (qs:List Addr),σ=[u,some (.int (L:Int))]∧ys=qs.map V.ref∧Same H H2∧H2 D=some (.lst ys)∧TiesAt H2 qs (tiF (R.take j) (kpB L))) ⟨none,[],rfl,rfl,Ad hD,Ab,rfl,fun i r t e=>by simp at e⟩ (fun j σ ys H2 _ ⟨_,_,_,_,s,e,_⟩=>⟨SqT.of (s _ _ ht),e⟩) ?_ ?_⟩
  ·rintro j x σ ys H2 hx ⟨u,qs,rfl,rfl,s2,d2,p2⟩
   obtain ⟨r,er,rfl⟩:=Ay hx
   obtain ⟨y,ey,hy⟩:=hR.get er
   have h2:=s2 _ _ hy
   have ql:qs.length≤60:=by
    rw [p2.1]
    exact Nat.le_trans (ti_len _ _) (Nat.le_trans (List.length_take_le' _ _) lR)
   have yes:kpB L y=true→tSl (rSlTA K) (tVar 0) tNoPart (tPart (tC (.int 4))) [some (.ref r),some (.int (L:Int))] H2 (fun x H3=>H3 D=some (.lst (qs.map V.ref))∧(qs.map V.ref).length<sizeLine∧(∃(u:Option V) (qs':List Addr),[some (.ref r),some (.int (L:Int))]=[u,some (.int (L:Int))]∧qs.map V.ref++[x]=qs'.map V.ref∧Same H (upd H3 D (.lst (qs.map V.ref++[x])))∧upd H3 D (.lst (qs.map V.ref++[x])) D=some (.lst (qs.map V.ref++[x]))∧TiesAt (upd H3 D (.lst (qs.map V.ref++[x]))) qs' (tiF (R.take (j+1)) (kpB L)))):=fun g=>by
    refine ⟨_,rfl,_,rfl,cut_any h2 fun r4 H3 s3 e3=> ?_⟩
    rw [cut4] at e3
    have d3:=s3 _ _ d2
    have kp:∀(r:Addr) (zs:List V) (o:HO),H3 r=some (.tup zs)→upd H3 D o r=some (.tup zs):=fun r zs o e=>by rw [Ai (Cw e d3 (by intro z;cases z))];exact e
    refine ⟨d3,Al (by rw [List.length_map];omega),_,qs++[r4],rfl,by rw [List.map_append];rfl,Aw (s2.trans s3) hD,Ab,?_⟩
    rw [ti_take ey,if_pos g]
    exact ties_snoc (ties_mono (p2.same s3) fun r zs e=>kp r zs _ e) (kp _ _ _ e3)
   have no:¬kpB L y=true→(∃(u:Option V) (qs':List Addr),[some (.ref r),some (.int (L:Int))]=[u,some (.int (L:Int))]∧qs.map V.ref=qs'.map V.ref∧Same H H2∧H2 D=some (.lst (qs.map V.ref))∧TiesAt H2 qs' (tiF (R.take (j+1)) (kpB L))):=fun g=>⟨_,qs,rfl,rfl,s2,d2,by rw [ti_take ey,if_neg g,List.append_nil];exact p2⟩
   refine ⟨_,rfl,r,_,4,_,rfl,rfl,SqT.of h2,Ap (j:=4) rfl,_,rfl,_,_,rfl,rfl,_,rfl,?_⟩
   refine Bp (fun c=> ?_) fun c=> ?_
   ·have c:L≤y.2.1:=by have:=of_decide_eq_true c;omega
    refine ⟨_,rfl,r,_,5,_,rfl,rfl,SqT.of h2,Ap (j:=5) rfl,_,rfl,?_⟩
    refine Bp (fun c2=> ?_) fun c2=> ?_
    ·have c2:y.2.2=true:=c2
     refine yes (show kpB L y=true by simp [kpB,c,c2])
    ·have c2:¬y.2.2=true:=c2
     exact no (show ¬kpB L y=true by simp [kpB,c2])
   ·have c:¬L≤y.2.1:=fun z=>c (decide_eq_true (by omega))
    exact Bt (no (show ¬kpB L y=true by simp [kpB,c]))
  rintro σ ys H2 ⟨u,qs,rfl,rfl,s2,d2,p2⟩
  rw [List.length_map,hR.1,List.take_length] at p2
  exact k D H2 s2 ⟨qs,d2,p2⟩
theorem scRowOf:A4 ["rows","name","row"] ["rows","name"] (Af sRowOf):=⟨rfl,rfl,rfl,by decide+kernel,rfl,by decide+kernel,by decide+kernel⟩
theorem ok_RowOf {f:Addr} {fd:FuncData} (F:Fun K "row_of" "row_of" sRowOf f fd) (T:Txt mg):
  FnOk P w K mg base CX0 1 f fd ["rows","name"] spRowOf:=by
 refine F.ok scRowOf (fun vs H Q E h=> ?_) (fun cdv A outer s H vs Q E hr h=> ?_)
 ·obtain ⟨_,_,_,_,rfl,_⟩:=h;rfl
 ·obtain ⟨tp,rs,R,n,rfl,ht,hR,k1,k2⟩:=h
  refine ⟨_,Ae (C3 PassesOwn.never rfl (pi_tup (pv 0)) (Aj (i:=2) scRowOf.nd rfl (Or.inl rfl)) (Ah (A8 (Ao Cq (Az Bz (pv 2) Ag (fun _ _=>rfl)) (pv 1) (An _)) (Ah (As (pv 2))) Av)))
   (Ah (As Bk)),?_⟩
  refine ⟨_,rfl,tp,rfl,⟨_,SqT.of ht⟩,for_tup (K:=K) (a:=tp) (xs:=rs.map V.ref) (fun j σ H2=>∃u:Option V,σ=[some (.ref tp),some (.str n),u]∧H2=H∧n ∉ (R.take j).map (·.1.1)) ⟨none,rfl,rfl,by simp⟩ (fun j σ H2 _ ⟨_,_,e,_⟩=>SqT.of (e▸ht)) ?_ ?_⟩
  ·rintro j x σ H2 hx ⟨u,rfl,rfl,hn⟩
   obtain ⟨r,er,rfl⟩:=Ay hx
   obtain ⟨y,ey,hy⟩:=hR.get er
   refine ⟨_,rfl,r,_,0,_,rfl,rfl,SqT.of hy,Ap (j:=0) rfl,_,rfl,rfl,_,rfl,Bp (fun c=> ?_) fun c=> ?_⟩
   ·have c:y.1.1=n:=by simpa using c
    exact ⟨_,rfl,k1 r y hy (get_mem ey) c⟩
   ·have c:¬y.1.1=n:=by simpa using c
    refine ⟨_,rfl,rfl,?_⟩
    rw [List.take_add_one,ey,List.map_append,List.mem_append]
    rintro (z|z)
    ·exact hn z
    ·exact c (List.mem_singleton.mp z).symm
  rintro σ H2 ⟨u,rfl,rfl,hn⟩
  rw [List.length_map,hR.1,List.take_length] at hn
  exact k2 hn
theorem scWithout:A4 ["rows","name"] ["rows","name"] (Af sWithout):=⟨rfl,rfl,rfl,by decide+kernel,rfl,by decide+kernel,by decide+kernel⟩
theorem ok_Without {f:Addr} {fd:FuncData} (F:Fun K "rows_without" "rows_without" sWithout f fd) (T:Txt mg):
  FnOk P w K mg base CX0 1 f fd ["rows","name"] spWithout:=by
 refine F.ok scWithout (fun vs H Q E h=> ?_) (fun cdv A outer s H vs Q E hr h=> ?_)
 ·obtain ⟨_,_,_,_,rfl,_⟩:=h;rfl
 ·obtain ⟨tp,rs,R,n,rfl,ht,hR,R60,k⟩:=h
  refine ⟨_,Ah (As (A6 Bo (by rfl) T.tuple (by decide+kernel) (Aa (Bn (T:=["row"]) (F:=["name"]) (js:=[1]) (CS.to (osc:=Af sWithout) ⟨by rfl,by decide+kernel,by decide+kernel,by decide+kernel,by decide+kernel,by decide+kernel,by decide+kernel⟩ rfl rfl) rfl (pi_tup (pv 0)) (fun _ _ _ _ _=>Aj (i:=0) (show (["row","name"]:List Str).Nodup by decide+kernel) rfl (Or.inl rfl)) (fun _ _ _ _ _=>Cv (Ao op_ne (Az (r:=rIxT K) Bz (pv 0) Ag (fun _ _=>rfl)) (pv 1) (An _))) (fun _ _ _ _ _=>pv 0)) Ac))),?_⟩
  refine ⟨_,rfl,tp,rfl,⟨_,SqT.of ht⟩,fun D hD=>C7 (K:=K) (a:=tp) (xs:=rs.map V.ref) (fun j σ ys H2=>∃(u:Option V) (qs:List Addr),σ=[u,some (.str n)]∧ys=qs.map V.ref∧Same H H2∧H2 D=some (.lst ys)∧RowsAt H2 qs (Cr (R.take j) n)) ⟨none,[],rfl,rfl,Ad hD,Ab,rfl,fun i r t e=>by simp at e⟩ (fun j σ ys H2 _ ⟨_,_,_,_,s,e,_⟩=>⟨SqT.of (s _ _ ht),e⟩) ?_ ?_⟩
  ·rintro j x σ ys H2 hx ⟨u,qs,rfl,rfl,s2,d2,p2⟩
   obtain ⟨r,er,rfl⟩:=Ay hx
   obtain ⟨y,ey,hy⟩:=hR.get er
   have h2:=s2 _ _ hy
   have ql:qs.length≤60:=by
    rw [p2.1]
    refine Nat.le_trans (List.length_filter_le _ _) ?_
    rw [List.length_take];omega
   have tk:R.take (j+1)=R.take j++[y]:=by rw [List.take_add_one,ey];rfl
   refine ⟨_,rfl,r,_,0,_,rfl,rfl,SqT.of h2,Ap (j:=0) rfl,_,rfl,rfl,_,rfl,Bp (fun c=> ?_) fun c=> ?_⟩
   ·have c:¬y.1.1=n:=by simpa using c
    have kp:∀(r:Addr) (zs:List V) (o:HO),H2 r=some (.tup zs)→upd H2 D o r=some (.tup zs):=fun r zs o e=>by rw [Ai (Cw e d2 (by intro z;cases z))];exact e
    refine ⟨_,rfl,d2,Al (by rw [List.length_map];omega),_,qs++[r],rfl,by rw [List.map_append];rfl,Aw s2 hD,Ab,?_⟩
    rw [tk]
    unfold Cr
    rw [List.filter_append,List.filter_cons_of_pos (by simpa using c)]
    exact (p2.mono fun r zs e=>kp r zs _ e).snoc (kp _ _ _ h2)
   ·have c:y.1.1=n:=by simpa using c
    refine ⟨_,qs,rfl,rfl,s2,d2,?_⟩
    rw [tk]
    unfold Cr
    rw [List.filter_append,List.filter_cons_of_neg (by simpa using c),List.filter_nil,List.append_nil]
    exact p2
  rintro σ ys H2 ⟨u,qs,rfl,rfl,s2,d2,p2⟩
  rw [List.length_map,hR.1,List.take_length] at p2
  refine ⟨D,_,rfl,.inl ⟨SqL.of d2,fun tq htq=> ?_⟩⟩
  exact k tq qs _ (s2.trans (Ad htq)) Ab (p2.mono fun r zs e=>Ad htq _ _ e)
end
end K38
namespace K38
open PySem L2 Wk
theorem cut_ints {ns:List Int} {lo hi:Option Int}:∃ms:List Int,cutV (ns.map V.int) lo hi=ms.map V.int∧ms.length≤ns.length:=by
 unfold cutV
 rw [List.length_map]
 exact ⟨_,by rw [←List.map_drop,←List.map_take],by simp;omega⟩
def kd (c:Addr) (S k g:Int):List (Key×V):=[(.inr "cells",.ref c),(.inr "seed",.int S),(.inr "turn",.int k),(.inr "great",.int g)]
theorem kd_c (c:Addr) (S k g:Int):valV (kd c S k g) (.inr "cells")=some (.ref c):=by
 unfold kd
 rfl
theorem kd_s (c:Addr) (S k g:Int):valV (kd c S k g) (.inr "seed")=some (.int S):=by
 unfold kd
 rfl
theorem kd_k (c:Addr) (S k g:Int):valV (kd c S k g) (.inr "turn")=some (.int k):=by
 unfold kd
 rfl
theorem kd_g (c:Addr) (S k g:Int):valV (kd c S k g) (.inr "great")=some (.int g):=by
 unfold kd
 rfl
theorem kd_putk (c:Addr) (S k g z:Int):putK (kd c S k g) (.inr "turn") (.int z)=kd c S z g:=by
 unfold kd
 rfl
theorem kd_putg (c:Addr) (S k g z:Int):putK (kd c S k g) (.inr "great") (.int z)=kd c S k z:=by
 unfold kd
 rfl
theorem kd_new (c:Addr) (S k g:Int):mergeK [] [(.inr "cells",.ref c),(.inr "seed",.int S),(.inr "turn",.int k),(.inr "great",.int g)]=kd c S k g:=by
 unfold kd
 rfl
def DeckAt (H:Hp) (d c:Addr):Prop:=∃(cs:List Int) (S k g:Int),H d=some (.dK (kd c S k g))∧H c=some (.lst (cs.map V.int))∧cs.length≤63∧d≠c
def But (d c:Addr) (H H':Hp):Prop:=∀b o,H b=some o→b≠d→b≠c→H' b=some o
theorem But.trans {d c:Addr} {H H1 H2:Hp} (h:But d c H H1) (h':But d c H1 H2):But d c H H2:=fun b o e n1 n2=>h' b o (h b o e n1 n2) n1 n2
theorem But.tup {d c:Addr} {H H':Hp} (h:But d c H H') (D:DeckAt H d c) {b:Addr} {xs:List V} (e:H b=some (.tup xs)):H' b=some (.tup xs):=by
 obtain ⟨_,_,_,_,h1,h2,_⟩:=D
 exact h b _ e (fun z=>by rw [z,h1] at e;cases e) fun z=>by rw [z,h2] at e;cases e
theorem DeckAt.same {H H':Hp} {d c:Addr} (h:DeckAt H d c) (s:Same H H'):DeckAt H' d c:=by
 obtain ⟨cs,S,k,g,h1,h2,r⟩:=h
 exact ⟨cs,S,k,g,s _ _ h1,s _ _ h2,r⟩
theorem DeckAt.nd {H:Hp} {d c b:Addr} (h:DeckAt H d c) (e:H b=none):b≠d:=by
 obtain ⟨_,_,_,_,h1,_⟩:=h
 exact (Am h1 e).symm
theorem DeckAt.nc {H:Hp} {d c b:Addr} (h:DeckAt H d c) (e:H b=none):b≠c:=by
 obtain ⟨_,_,_,_,_,h2,_⟩:=h
 exact (Am h2 e).symm
theorem But.of {d c:Addr} {H H':Hp} (s:Same H H'):But d c H H':=fun b o e _ _=>s b o e
def spDeck (K:PySem.W.Frag):Sp:=fun vs H Q _=>∃(s:Addr) (ns:List Int),vs=[.ref s]∧SqL K H s (ns.map V.int)∧ns.length≤63∧∀(d c:Addr) (H':Hp),Same H H'→DeckAt H' d c→Q (.ref d) H'
def spMixed:Sp:=fun vs H Q _=>∃c k:Int,vs=[.int c,.int k]∧∀v,Q (.int v) H
def spTake:Sp:=fun vs H Q _=>∃(d c:Addr) (m:Int),vs=[.ref d,.int m]∧DeckAt H d c∧0<m∧m<1073741824∧∀(v:Int) (H':Hp),0≤v→v<m→But d c H H'→DeckAt H' d c→Q (.int v) H'
def spMany:Sp:=fun vs H Q _=>∃d c:Addr,vs=[.ref d]∧DeckAt H d c∧∀(N:Nat) (H':Hp),1≤N→N≤24→But d c H H'→DeckAt H' d c→Q (.int (N:Int)) H'
def spWeight:Sp:=fun vs H Q _=>∃d c:Addr,vs=[.ref d]∧DeckAt H d c∧∀(v:Int) (H':Hp),0≤v→v≤1000000000→But d c H H'→DeckAt H' d c→Q (.int v) H'
section
variable {P:Program} {w:World} {K:PySem.W.Frag} {mg:Str→Option Value} {base:Heap}
theorem scMixed:A4 ["_law_cell","_law_turn","_law_number"] ["_law_cell","_law_turn"] (Af sMixed):=⟨rfl,rfl,rfl,by decide+kernel,rfl,by decide+kernel,by decide+kernel⟩
theorem ok_Mixed {f:Addr} {fd:FuncData} (F:Fun K "_law_mixed" "_law_mixed" sMixed f fd) (T:Txt mg):
  FnOk P w K mg base CX0 1 f fd ["_law_cell","_law_turn"] spMixed:=by
 refine F.ok scMixed (fun vs H Q E h=> ?_) (fun cdv A outer s H vs Q E hr h=> ?_)
 ·obtain ⟨_,_,rfl,_⟩:=h;rfl
 ·obtain ⟨c,k0,rfl,k⟩:=h
  refine ⟨_,Ae (Au (i:=2) scMixed.nd rfl (Or.inl rfl) (A1 op_mod (A1 op_mul (A1 Bs (A1 Bs (A1 op_mod (pv 0) Ag) (A1 op_mul Ag (pv 1))) Ag) Ag) Ag))
   (Ae (Au (i:=2) scMixed.nd rfl (Or.inl rfl) (A1 op_mod (A1 Bs (A1 Bs (A1 op_mul (pv 2) (pv 2)) (A1 op_mul Ag (pv 1))) (pv 2)) Ag))
   (Ah (As (A1 op_fdiv (pv 2) Ag)))),?_⟩
  refine ⟨_,rfl,_,_,rfl,rfl,(show (0:Int)<2147483647 by decide),_,rfl,_,_,rfl,rfl,.inl ⟨by decide,by decide⟩,_,_,rfl,rfl,_,_,rfl,rfl,_,_,rfl,rfl,.inr ⟨by decide,by decide⟩,_,_,rfl,rfl,(show (0:Int)<2147483629 by decide),?_⟩
  dsimp only
  generalize (c % 2147483647+16807 * k0+3) * 48271=z1
  have y0:=Int.emod_nonneg z1 (show (2147483629:Int)≠0 by decide)
  have y1:=Int.emod_lt_of_pos z1 (show (0:Int)<2147483629 by decide)
  generalize z1 % 2147483629=z2 at y0 y1
  refine ⟨_,rfl,_,rfl,_,_,rfl,rfl,.inl ⟨by omega,by omega⟩,_,rfl,_,_,rfl,rfl,.inl ⟨by decide,by decide⟩,_,_,rfl,rfl,_,rfl,_,_,rfl,rfl,_,_,rfl,rfl,(show (0:Int)<2147483587 by decide),?_⟩
  exact ⟨_,rfl,_,_,rfl,rfl,⟨by decide,by decide⟩,k _⟩
theorem scDeck:A4 ["_law_script","_law_cells","_law_seed"] ["_law_script"] (Af sDeck):=⟨rfl,rfl,rfl,by decide+kernel,rfl,by decide+kernel,by decide+kernel⟩
theorem ok_Deck {f:Addr} {fd:FuncData} (F:Fun K "_law_deck" "_law_deck" sDeck f fd) (T:Txt mg):
  FnOk P w K mg base CX0 1 f fd ["_law_script"] (spDeck K):=by
 refine F.ok scDeck (fun vs H Q E h=> ?_) (fun cdv A outer s H vs Q E hr h=> ?_)
 ·obtain ⟨_,_,rfl,_⟩:=h;rfl
 ·obtain ⟨s,ns,rfl,hS,hl,k⟩:=h
  refine ⟨_,Ae (Au (i:=1) scDeck.nd rfl (Or.inl rfl) (A6 call_list_of (by rfl) T.list (by decide+kernel) (Aa (C0 sl_list (pv 0) po_none (Ck Ag)) Ac)))
   (Ae (Au (i:=2) scDeck.nd rfl (Or.inl rfl) (A1 Bs (Ak (call_sum rfl) (by rfl) T.sum PyProof.Rows.boot_sum (Aa (Bn (T:=["_law_cell"]) (F:=[]) (js:=[]) (CS.to (osc:=Af sDeck) ⟨by rfl,by decide+kernel,by decide+kernel,by decide+kernel,by decide+kernel,by decide+kernel,by decide+kernel⟩ rfl rfl) rfl (B8 (pv 1)) (fun _ _ _ _ _=>Aj (i:=0) (show (["_law_cell"]:List Str).Nodup by decide+kernel) rfl (Or.inl rfl)) (fun _ _ _ _ _=>Br) (fun _ _ _ _ _=>A1 op_mod (pv 0) Ag)) Ac)) (A1 op_mul Ag (Ak At (by rfl) T.len PySem.boot_len (Aa (pv 1) Ac)))))
   (Ah (As (pe_disp (pps_cons Cy (pe_rev (pv 1) (Ck (pe_un un_neg Ag)) (fun o i=>[o,i]) (fun _ _=>by with_unfolding_all rfl)) (pps_cons Cy (pv 2) (pps_cons Cy Ag (pps_cons Cy Ag pps_nil)))) rfl rfl (by simp) (by simp))))),?_⟩
  obtain ⟨ms,em,lm⟩:=cut_ints (ns:=ns) (lo:=none) (hi:=some 63)
  refine ⟨_,rfl,_,rfl,s,_,rfl,hS,fun q hq=> ?_⟩
  rw [em]
  have s1:=Ad (o:= .lst (ms.map V.int)) hq
  have q1:=Ab (H:=H) (a:=q) (o:= .lst (ms.map V.int))
  generalize upd H q (.lst (ms.map V.int))=H1 at s1 q1
  refine ⟨q,_,rfl,.inl (SqL.of q1),fun cl hc=> ?_⟩
  have s2:=s1.trans (Ad (o:= .lst (ms.map V.int)) hc)
  have c2:=Ab (H:=H1) (a:=cl) (o:= .lst (ms.map V.int))
  generalize upd H1 cl (.lst (ms.map V.int))=H2 at s2 c2
  refine ⟨_,rfl,cl,rfl,⟨_,SqL.of c2⟩,fun D hD=>Ce (K:=K) (a:=cl) (xs:=ms.map V.int) (fun j σ ys H3=>∃(u:Option V) (zs:List Int),σ=[u]∧ys=zs.map V.int∧Same H2 H3∧H3 D=some (.lst ys)∧zs.length=j) ⟨none,[],rfl,rfl,Ad hD,Ab,rfl⟩ (fun j σ ys H3 _ ⟨_,_,_,_,s,e,_⟩=>⟨SqL.of (s _ _ c2),e⟩) ?_ ?_⟩
  ·rintro j x σ ys H3 hx ⟨u,zs,rfl,rfl,s3,d3,zl⟩
   have jl:j<ms.length:=by have:=(List.getElem?_eq_some_iff.mp hx).1;rwa [List.length_map] at this
   obtain ⟨c,hc,rfl⟩:=Ay hx
   exact ⟨_,rfl,_,_,rfl,rfl,(by show (0:Int)<1000003;decide),d3,Al (by simp;omega),_,zs++[c % 1000003],rfl,by simp,Aw s3 hD,Ab,by simp [zl]⟩
  rintro σ ys H3 ⟨u,zs,rfl,rfl,s3,d3,zl⟩
  have c3:=s3 _ _ c2
  refine ⟨D,zs,rfl,SqL.of d3,_,rfl,cl,_,rfl,.inl (SqL.of c3),_,_,rfl,rfl,.inl ⟨by decide,by decide⟩,_,_,rfl,rfl,?_⟩
  refine fun d hd=> ?_
  have s4:=Ad (o:= .dK []) hd
  have d4:=Ab (H:=H3) (a:=d) (o:= .dK [])
  have S4:=(s2.trans s3).trans s4
  have dn:H d=none:=none_of (s2.trans s3) hd
  generalize upd H3 d (.dK [])=H4 at s4 d4 S4
  refine ⟨_,rfl,_,rfl,_,rfl,rfl,cl,_,rfl,SqL.of (s4 _ _ c3),fun p hp=> ?_⟩
  have s5:=Ad (o:= .lst (ms.map V.int).reverse) hp
  have p5:=Ab (H:=H4) (a:=p) (o:= .lst (ms.map V.int).reverse)
  have dp:d≠p:=Am d4 hp
  generalize upd H4 p (.lst (ms.map V.int).reverse)=H5 at s5 p5
  refine ⟨_,rfl,s5 _ _ d4,[(.inr "cells",.ref p),(.inr "seed",.int (zs.sum+7 * ((ms.map V.int).length:Int))),(.inr "turn",.int 0),(.inr "great",.int 0)],rfl,by simp,?_⟩
  rw [kd_new]
  have S5:=S4.trans s5
  refine k d p _ (fun b o e=> ?_) ⟨ms.reverse,_,0,0,Ab,by rw [Ai dp.symm,p5,List.map_reverse],by simp;omega,dp⟩
  rw [Ai (Am e dn)]
  exact S5 _ _ e
theorem scTake:A4 ["_law_deck_here","_law_most","_law_cell"] ["_law_deck_here","_law_most"] (Af sTake):=⟨rfl,rfl,rfl,by decide+kernel,rfl,by decide+kernel,by decide+kernel⟩
theorem ok_Take {f:Addr} {fd:FuncData} (F:Fun K "_law_take" "_law_take" sTake f fd) (T:Txt mg)
  {gMixed:Addr} {fMixed:FuncData} (kMixed:PySem.W.keepIn K (.ref gMixed)=true) (bMixed:Binds K fMixed ["_law_cell","_law_turn"] []) (hMixed:mg "_law_mixed"=some (.ref gMixed)) (GMixed:FnOk P w K mg base CX0 1 gMixed fMixed ["_law_cell","_law_turn"] spMixed):
  FnOk P w K mg base CX0 2 f fd ["_law_deck_here","_law_most"] spTake:=by
 refine F.ok scTake (fun vs H Q E h=> ?_) (fun cdv A outer s H vs Q E hr h=> ?_)
 ·obtain ⟨_,_,_,rfl,_⟩:=h;rfl
 ·obtain ⟨d,c,m,rfl,⟨cs,S,k0,g0,hd,hc,cl,ndc⟩,m0,m1,k⟩:=h
  refine ⟨_,Ae (A8 (Ao op_gt (Cl (hu_of hr) (pv 0) Cy (fun _ _=>rfl)) Ag (An _)) (Ae (Au (i:=2) scTake.nd rfl (Or.inl rfl) (Cl (hu_of hr) (pv 0) Cy (fun _ _=>rfl)))
   (Ae (ps_dput (hu_of hr) (pv 0) Cy (A1 op_fdiv (pv 2) (pv 1)) rfl)
   (Ah (As (A1 op_mod (pv 2) (pv 1)))))) Av)
   (Ae (ps_dput (hu_of hr) (pv 0) Cy (A1 Bs (Cl (hu_of hr) (pv 0) Cy (fun _ _=>rfl)) Ag) rfl)
   (Ae (Au (i:=2) scTake.nd rfl (Or.inl rfl) (Cl (hu_of hr) (pv 0) Cy (fun _ _=>rfl)))
   (Ae (A8 (Ao (op_neNil hr.units) (Cl (hu_of hr) (pv 0) Cy (fun _ _=>rfl)) (Ch Ac) (An _)) (Ah (Au (i:=2) scTake.nd rfl (Or.inl rfl) (pe_bm0 PySem.F.plainAttrs_list PySem.F.slot_list_pop PySem.F.type_list_pop mt_pop (Cl (hu_of hr) (pv 0) Cy (fun _ _=>rfl))))) Av)
   (Ae (A8 (Ao op_ge (pv 2) (A1 op_pow Ag Ag) (An _)) (Ae (ps_dput (hu_of hr) (pv 0) Cy (A1 op_fdiv (pv 2) (pv 1)) rfl)
   (Ah (As (A1 op_mod (pv 2) (pv 1))))) Av)
   (Ah (As (A1 op_mod (Aq GMixed hr rfl hMixed kMixed bMixed .nil A5 (Aa (pv 2) (Aa (Cl (hu_of hr) (pv 0) Cy (fun _ _=>rfl)) Ac))) (pv 1)))))))),?_⟩
  have last:∀(v:Int) (H':Hp),But d c H H'→DeckAt H' d c→Q (.int (v % m)) H':=fun v H' b e=>k _ _ (Int.emod_nonneg _ (by omega)) (Int.emod_lt_of_pos _ m0) b e
  refine ⟨_,rfl,d,_,rfl,kd_g c S k0 g0▸DGet.k (k:= .inr "great") hd,_,_,rfl,rfl,_,rfl,Bp (fun g=> ?_) fun g=> ?_⟩
  ·refine ⟨_,rfl,d,_,rfl,kd_g c S k0 g0▸DGet.k (k:= .inr "great") hd,?_⟩
   refine ⟨_,rfl,_,rfl,_,_,rfl,rfl,⟨m0,by omega⟩,_,rfl,d,_,rfl,.inl ⟨_,.inr "great",hd,rfl,Al (by simp [kd]),rfl⟩,?_⟩
   rw [kd_putg]
   exact ⟨_,rfl,_,rfl,_,_,rfl,rfl,m0,last g0 _ (fun b o e n1 n2=>by rw [Ai n1];exact e) ⟨cs,_,_,_,Ab,by rw [Ai ndc.symm];exact hc,cl,ndc⟩⟩
  dsimp only [Bh]
  refine ⟨_,rfl,d,_,rfl,kd_k c S k0 g0▸DGet.k (k:= .inr "turn") hd,_,_,rfl,rfl,_,rfl,d,_,rfl,.inl ⟨_,.inr "turn",hd,rfl,Al (by simp [kd]),rfl⟩,?_⟩
  rw [kd_putk]
  have d1:=Ab (H:=H) (a:=d) (o:= .dK (kd c S (k0+1) g0))
  have c1:upd H d (.dK (kd c S (k0+1) g0)) c=some (.lst (cs.map V.int)):=by rw [Ai ndc.symm];exact hc
  have b1:But d c H (upd H d (.dK (kd c S (k0+1) g0))):=fun b o e n1 n2=>by rw [Ai n1];exact e
  generalize upd H d (.dK (kd c S (k0+1) g0))=H1 at d1 c1 b1
  refine ⟨_,rfl,d,_,rfl,kd_s c S (k0+1) g0▸DGet.k (k:= .inr "seed") d1,?_⟩
  refine ⟨_,rfl,d,_,rfl,kd_c c S (k0+1) g0▸DGet.k (k:= .inr "cells") d1,small (by simp),fun q hq=> ?_⟩
  have s2:=Ad (o:= .lst []) hq
  have q2:=Ab (H:=H1) (a:=q) (o:= .lst [])
  generalize upd H1 q (.lst [])=H2 at s2 q2
  have d2:=s2 _ _ d1
  have c2:=s2 _ _ c1
  have b2:But d c H H2:=fun b o e n1 n2=>s2 _ _ (b1 b o e n1 n2)
  refine ⟨c,q,_,rfl,rfl,SqL.of c2,SqL.of q2,_,rfl,Bp (fun g1=> ?_) fun g1=> ?_⟩
  ·have g1:cs≠[]:=fun z=>by subst z;simp at g1
   obtain ⟨cs',x,rfl⟩:∃cs' x,cs=cs'++[x]:=⟨cs.dropLast,cs.getLast g1,(List.dropLast_concat_getLast g1).symm⟩
   have lc:cs'.length≤63:=by simp at cl;omega
   refine ⟨_,rfl,d,_,rfl,kd_c c S (k0+1) g0▸DGet.k (k:= .inr "cells") d2,?_⟩
   refine ⟨.inl ⟨rfl,_,SqL.of c2⟩,c,_,.int x,rfl,rfl,c2,by simp,?_⟩
   generalize hH3:upd H2 c _=H3
   have c3:H3 c=some (.lst (cs'.map V.int)):=by
    rw [←hH3,Ab,List.map_append,List.map_cons,List.map_nil,List.dropLast_concat]
   have d3:H3 d=some (.dK (kd c S (k0+1) g0)):=by rw [←hH3,Ai ndc];exact d2
   have b3:But d c H H3:=fun b o e n1 n2=>by rw [←hH3,Ai n2];exact b2 b o e n1 n2
   clear hH3
   have b3:But d c H H3:=b3
   refine ⟨_,rfl,_,_,rfl,rfl,⟨by decide,by decide,by decide⟩,_,_,rfl,rfl,_,rfl,Bp (fun g=> ?_) fun g=> ?_⟩
   ·refine ⟨_,rfl,_,rfl,_,_,rfl,rfl,⟨m0,by omega⟩,_,rfl,d,_,rfl,.inl ⟨_,.inr "great",d3,rfl,Al (by simp [kd]),rfl⟩,?_⟩
    rw [kd_putg]
    exact ⟨_,rfl,_,rfl,_,_,rfl,rfl,m0,last x _ (fun b o e n1 n2=>by rw [Ai n1];exact b3 b o e n1 n2) ⟨cs',_,_,_,Ab,by rw [Ai ndc.symm];exact c3,lc,ndc⟩⟩
   ·dsimp only [Bh]
    exact ⟨_,rfl,_,rfl,d,_,rfl,kd_k c S (k0+1) g0▸DGet.k (k:= .inr "turn") d3,_,_,rfl,fun v=>⟨_,rfl,_,_,rfl,rfl,m0,last v _ b3 ⟨cs',_,_,_,d3,c3,lc,ndc⟩⟩⟩
  ·dsimp only [Bh]
   have lc:=cl
   have d3:=d2
   have c3:=c2
   have b3:=b2
   generalize H2=H3 at *
   generalize cs=cs' at *
   have b3:But d c H H3:=b3
   refine ⟨_,rfl,_,_,rfl,rfl,⟨by decide,by decide,by decide⟩,_,_,rfl,rfl,_,rfl,Bp (fun g=> ?_) fun g=> ?_⟩
   ·refine ⟨_,rfl,_,rfl,_,_,rfl,rfl,⟨m0,by omega⟩,_,rfl,d,_,rfl,.inl ⟨_,.inr "great",d3,rfl,Al (by simp [kd]),rfl⟩,?_⟩
    rw [kd_putg]
    exact ⟨_,rfl,_,rfl,_,_,rfl,rfl,m0,last _ _ (fun b o e n1 n2=>by rw [Ai n1];exact b3 b o e n1 n2) ⟨cs',_,_,_,Ab,by rw [Ai ndc.symm];exact c3,lc,ndc⟩⟩
   ·dsimp only [Bh]
    exact ⟨_,rfl,_,rfl,d,_,rfl,kd_k c S (k0+1) g0▸DGet.k (k:= .inr "turn") d3,_,_,rfl,fun v=>⟨_,rfl,_,_,rfl,rfl,m0,last v _ b3 ⟨cs',_,_,_,d3,c3,lc,ndc⟩⟩⟩
theorem scMany:A4 ["_law_deck_here","_law_way"] ["_law_deck_here"] (Af sMany):=⟨rfl,rfl,rfl,by decide+kernel,rfl,by decide+kernel,by decide+kernel⟩
theorem ok_Many {f:Addr} {fd:FuncData} (F:Fun K "_law_many" "_law_many" sMany f fd) (T:Txt mg)
  {gTake:Addr} {fTake:FuncData} (kTake:PySem.W.keepIn K (.ref gTake)=true) (bTake:Binds K fTake ["_law_deck_here","_law_most"] []) (hTake:mg "_law_take"=some (.ref gTake)) (GTake:FnOk P w K mg base CX0 2 gTake fTake ["_law_deck_here","_law_most"] spTake):
  FnOk P w K mg base CX0 3 f fd ["_law_deck_here"] spMany:=by
 refine F.ok scMany (fun vs H Q E h=> ?_) (fun cdv A outer s H vs Q E hr h=> ?_)
 ·obtain ⟨_,_,rfl,_⟩:=h;rfl
 ·obtain ⟨d,c,rfl,hD,k⟩:=h
  refine ⟨_,Ae (Au (i:=1) scMany.nd rfl (Or.inl rfl) (Aq GTake hr rfl hTake kTake bTake .nil A5 (Aa (pv 0) (Aa Ag Ac))))
   (Ae (A8 (Ao Cq (pv 1) Ag (An _)) (Ah (As Ag)) Av)
   (Ae (A8 (Ao Cq (pv 1) Ag (An _)) (Ah (As (A1 Bs Ag (Aq GTake hr rfl hTake kTake bTake .nil A5 (Aa (pv 0) (Aa Ag Ac)))))) Av)
   (Ah (As (A1 Bs Ag (Aq GTake hr rfl hTake kTake bTake .nil A5 (Aa (pv 0) (Aa (Az Ax (Ch (Aa Ag (Aa Ag Ac))) (A6 call_int1 (by rfl) T.int (by decide+kernel) (Aa (A7 op_gt (pv 1) Ag (An _)) Ac)) (fun _ _=>rfl)) Ac)))))))),?_⟩
  refine ⟨_,rfl,d,c,8,rfl,hD,by decide,by decide,fun v H1 v0 v1 b1 D1=> ?_⟩
  refine ⟨_,rfl,rfl,_,rfl,Bp (fun g=> ?_) fun g=> ?_⟩
  ·exact k 24 _ (by decide) (by decide) b1 D1
  dsimp only [Bh]
  refine ⟨_,rfl,rfl,_,rfl,Bp (fun g=> ?_) fun g=> ?_⟩
  ·refine ⟨_,rfl,d,c,4,rfl,D1,by decide,by decide,fun w H2 w0 w1 b2 D2=>⟨_,_,rfl,rfl,?_⟩⟩
   obtain ⟨w,rfl⟩:=Cz w0
   have q:=k (1+w) _ (by omega) (by omega) (b1.trans b2) D2
   rw [show ((1+w:Nat):Int)=1+(w:Int) by omega] at q
   exact q
  dsimp only [Bh]
  refine ⟨_,rfl,small (by simp),fun l hl=> ?_⟩
  have s2:=Ad (o:= .lst [.int 7,.int 15]) hl
  have l2:=Ab (H:=H1) (a:=l) (o:= .lst [.int 7,.int 15])
  generalize upd H1 l (.lst [.int 7,.int 15])=H2 at s2 l2
  have fin:∀m:Int,0<m→m≤15→∀(w:Int) (H':Hp),0≤w→w<m→But d c H2 H'→DeckAt H' d c→Q (.int (2+w)) H':=fun m m0 m1 w H' w0 w1 b2 D2=>by
   obtain ⟨w,rfl⟩:=Cz w0
   have q:=k (2+w) _ (by omega) (by omega) ((b1.trans (But.of s2)).trans b2) D2
   rw [show ((2+w:Nat):Int)=2+(w:Int) by omega] at q
   exact q
  refine ⟨_,rfl,_,_,rfl,rfl,.inr ⟨_,rfl,?_⟩⟩
  by_cases g3:(5:Int)<v
  ·rw [decide_eq_true g3]
   exact ⟨l,_,1,_,rfl,rfl,SqL.of l2,Ap (j:=1) rfl,d,c,15,rfl,D1.same s2,by decide,by decide,fun w H3 w0 w1 b3 D3=>⟨_,_,rfl,rfl,fin 15 (by decide) (by decide) w H3 w0 w1 b3 D3⟩⟩
  ·rw [decide_eq_false g3]
   exact ⟨l,_,0,_,rfl,rfl,SqL.of l2,Ap (j:=0) rfl,d,c,7,rfl,D1.same s2,by decide,by decide,fun w H3 w0 w1 b3 D3=>⟨_,_,rfl,rfl,fin 7 (by decide) (by decide) w H3 w0 w1 b3 D3⟩⟩
theorem scWeight:A4 ["_law_deck_here","_law_way"] ["_law_deck_here"] (Af sWeight):=⟨rfl,rfl,rfl,by decide+kernel,rfl,by decide+kernel,by decide+kernel⟩
theorem ok_Weight {f:Addr} {fd:FuncData} (F:Fun K "_law_weight" "_law_weight" sWeight f fd) (T:Txt mg)
  {gTake:Addr} {fTake:FuncData} (kTake:PySem.W.keepIn K (.ref gTake)=true) (bTake:Binds K fTake ["_law_deck_here","_law_most"] []) (hTake:mg "_law_take"=some (.ref gTake)) (GTake:FnOk P w K mg base CX0 2 gTake fTake ["_law_deck_here","_law_most"] spTake):
  FnOk P w K mg base CX0 3 f fd ["_law_deck_here"] spWeight:=by
 refine F.ok scWeight (fun vs H Q E h=> ?_) (fun cdv A outer s H vs Q E hr h=> ?_)
 ·obtain ⟨_,_,rfl,_⟩:=h;rfl
 ·obtain ⟨d,c,rfl,hD,k⟩:=h
  refine ⟨_,Ae (Au (i:=1) scWeight.nd rfl (Or.inl rfl) (Aq GTake hr rfl hTake kTake bTake .nil A5 (Aa (pv 0) (Aa Ag Ac))))
   (Ae (A8 (Ao op_lt (pv 1) Ag (An _)) (Ah (As (Az Ax (Ch (Aa Ag (Aa (A1 op_pow Ag Ag) (Aa Ag Ac)))) (pv 1) (fun _ _=>rfl)))) Av)
   (Ah (As (Aq GTake hr rfl hTake kTake bTake .nil A5 (Aa (pv 0) (Aa (A1 Bs (A1 op_pow Ag Ag) Ag) Ac)))))),?_⟩
  refine ⟨_,rfl,d,c,4,rfl,hD,by decide,by decide,fun v H1 v0 v1 b1 D1=> ?_⟩
  refine ⟨_,rfl,_,_,rfl,rfl,_,rfl,Bp (fun g=> ?_) fun g=> ?_⟩
  ·have g:v<3:=by simpa using g
   obtain ⟨v,rfl⟩:=Cz v0
   refine ⟨_,_,rfl,rfl,⟨by decide,by decide,by decide⟩,small (by simp),fun l hl=>⟨_,rfl,l,_,_,V.int ([0,1000000000,5].getD v 0),rfl,rfl,SqL.of Ab,Ap ?_,?_⟩⟩
   ·have hv:v=0∨v=1∨v=2:=by omega
    rcases hv with rfl|rfl|rfl<;> rfl
   ·have hv:v=0∨v=1∨v=2:=by omega
    refine k _ _ ?_ ?_ (b1.trans (But.of (Ad hl))) (D1.same (Ad hl))
    ·rcases hv with rfl|rfl|rfl<;> decide
    ·rcases hv with rfl|rfl|rfl<;> decide
  dsimp only [Bh]
  refine ⟨_,rfl,_,_,rfl,rfl,⟨by decide,by decide,by decide⟩,_,_,rfl,rfl,d,c,1000000001,rfl,D1,by decide,by decide,fun w H2 w0 w1 b2 D2=>k w _ w0 (by omega) (b1.trans b2) D2⟩
end
end K38
namespace K38
open PySem L2 Wk
theorem slice_cs {z:Str} {j:Int} (h:0≤j∧j≤z.length):(Txt.slice z none (some j)).cps.toList=z.cps.toList.take j.toNat:=by
 have:=StrLaws.sliceText_to (x:=z) (j:=j) ⟨h.1,by rw [←len_cps];exact h.2⟩
 rw [show Txt.slice z none (some j)=StrLaws.sliceText z none (some j) from rfl,this,Int.sub_zero]
 simp
def NmT (f s st k:Nat) (z:Str):Prop:=z.cps.toList[0]? =some (97+(f+st * k) % 26)∧((z.cps.toList[1]? =none∧k<26)∨z.cps.toList[1]? =some (97+(s+k / 26) % 26))
theorem NmT.inj {f s st j k:Nat} {z:Str} (hs:st=1∨st=3∨st=5∨st=7) (a:NmT f s st j z) (b:NmT f s st k z) (jk:j<k) (k60:k<60):False:=by
 have e1:=Option.some.inj (a.1.symm.trans b.1)
 rcases b.2 with ⟨_,q⟩|q
 ·rcases hs with rfl|rfl|rfl|rfl<;> omega
 ·rcases a.2 with ⟨p,_⟩|p
  ·rw [p] at q;cases q
  ·have e2:=Option.some.inj (p.symm.trans q)
   rcases hs with rfl|rfl|rfl|rfl<;> omega
theorem NmT.nodup {f s st:Nat} {zs:List Str} (hs:st=1∨st=3∨st=5∨st=7) (h:∀(j:Nat) z,zs[j]? =some z→NmT f s st j z) (hl:zs.length≤60):zs.Nodup:=by
 rw [List.nodup_iff_pairwise_ne,List.pairwise_iff_getElem]
 intro i j hi hj hij e
 exact NmT.inj hs (h i _ (C1 hi)) (by rw [e];exact h j _ (C1 hj)) hij (by omega)
def spNames:Sp:=fun vs H Q _=>∃(d c:Addr) (M:Nat),vs=[.ref d,.int (M:Int)]∧DeckAt H d c∧M≤60∧∀(l:Addr) (zs:List Str) (H':Hp),But d c H H'→DeckAt H' d c→H l=none→H' l=some (.lst (zs.map V.str))→zs.length=M→zs.Nodup→(∀z∈zs,NameOk z)→Q (.ref l) H'
theorem But.none {d c:Addr} {H H':Hp} (h:But d c H H') (D:DeckAt H d c) (D':DeckAt H' d c) {b:Addr} (e:H' b=none):H b=none:=by
 cases g:H b with
 |none=>rfl
 |some o=>rw [h b o g (D'.nd e) (D'.nc e)] at e;cases e
theorem DeckAt.set {H:Hp} {d c b:Addr} {o:HO} (h:DeckAt H d c) (n1:b≠d) (n2:b≠c):DeckAt (upd H b o) d c:=by
 obtain ⟨cs,S,k,g,h1,h2,r⟩:=h
 exact ⟨cs,S,k,g,by rw [Ai n1.symm];exact h1,by rw [Ai n2.symm];exact h2,r⟩
theorem nm_cut {f s st i:Nat} {ws:List Nat} {nm:Str} {L:Int} (h:nm.cps.toList=(97+(f+st * i) % 26)::(97+(s+i / 26) % 26)::ws) (hw:ws.length=6) (wr:∀x∈ws,97≤x∧x≤122) (L1:1≤L) (L8:L≤8) (L2:25<i→2≤L):NmT f s st i (Txt.slice nm none (some L))∧NameOk (Txt.slice nm none (some L)):=by
 obtain ⟨n,rfl⟩:∃n:Nat,L=(n:Int):=⟨L.toNat,by omega⟩
 have len:nm.length=8:=by rw [len_cps,h,List.length_cons,List.length_cons,hw]
 have e:(Txt.slice nm none (some (n:Int))).cps.toList=nm.cps.toList.take n:=by rw [slice_cs ⟨by omega,by rw [len];omega⟩,Int.toNat_natCast]
 have el:(Txt.slice nm none (some (n:Int))).length=n:=by rw [len_cps,e,List.length_take,←len_cps,len];omega
 refine ⟨?_,by omega,by omega,fun c hc=> ?_⟩
 ·unfold NmT
  rw [e,h]
  obtain ⟨m,rfl⟩:∃m,n=m+1:=⟨n - 1,by omega⟩
  refine ⟨rfl,?_⟩
  cases m with
  |zero=>exact .inl ⟨rfl,by omega⟩
  |succ m=>exact .inr rfl
 ·rw [e] at hc
  have hm:=List.mem_of_mem_take hc
  rw [h,List.mem_cons,List.mem_cons] at hm
  rcases hm with rfl|rfl|hx
  ·omega
  ·omega
  ·exact wr c hx
section
variable {P:Program} {w:World} {K:PySem.W.Frag} {mg:Str→Option Value} {base:Heap}
theorem scNames:A4 ["_law_deck_here","_law_many_here","_law_letters","_law_first","_law_second","_law_step","_law_cut","_law_wide","_law_tail","_law_found","_law_k","_law_front","_law_name"] ["_law_deck_here","_law_many_here"] (Af sNames):=⟨rfl,rfl,rfl,by decide+kernel,rfl,by decide+kernel,by decide+kernel⟩
theorem ok_Names {f:Addr} {fd:FuncData} (F:Fun K "_law_names" "_law_names" sNames f fd) (T:Txt mg)
  {gTake:Addr} {fTake:FuncData} (kTake:PySem.W.keepIn K (.ref gTake)=true) (bTake:Binds K fTake ["_law_deck_here","_law_most"] []) (hTake:mg "_law_take"=some (.ref gTake)) (GTake:FnOk P w K mg base CX0 2 gTake fTake ["_law_deck_here","_law_most"] spTake):
  FnOk P w K mg base CX0 3 f fd ["_law_deck_here","_law_many_here"] spNames:=by
 refine F.ok scNames (fun vs H Q E h=> ?_) (fun cdv A outer s H vs Q E hr h=> ?_)
 ·obtain ⟨_,_,_,rfl,_⟩:=h;rfl
 ·obtain ⟨d,c,M,rfl,hD,M60,k⟩:=h
  refine ⟨_,Ae (Au (i:=2) scNames.nd rfl (Or.inr rfl) Cy)
   (Ae (Au (i:=3) scNames.nd rfl (Or.inl rfl) (Aq GTake hr rfl hTake kTake bTake .nil A5 (Aa (pv 0) (Aa Ag Ac))))
   (Ae (Au (i:=4) scNames.nd rfl (Or.inl rfl) (Aq GTake hr rfl hTake kTake bTake .nil A5 (Aa (pv 0) (Aa Ag Ac))))
   (Ae (Au (i:=5) scNames.nd rfl (Or.inl rfl) (Az Ax (Ch (Aa Ag (Aa Ag (Aa Ag (Aa Ag Ac))))) (Aq GTake hr rfl hTake kTake bTake .nil A5 (Aa (pv 0) (Aa Ag Ac))) (fun _ _=>rfl)))
   (Ae (Au (i:=6) scNames.nd rfl (Or.inl rfl) (Aq GTake hr rfl hTake kTake bTake .nil A5 (Aa (pv 0) (Aa Ag Ac))))
   (Ae (Au (i:=7) scNames.nd rfl (Or.inl rfl) (Aq GTake hr rfl hTake kTake bTake .nil A5 (Aa (pv 0) (Aa Ag Ac))))
   (Ae (Au (i:=8) scNames.nd rfl (Or.inl rfl) (pe_bm PySem.F.plainAttrs_str PySem.F.slot_str_join PySem.F.type_str_join mt_join Cy (Aa (Bn (T:=["_law_k"]) (F:=["_law_letters","_law_deck_here"]) (js:=[2,0]) (CS.to (osc:=Af sNames) ⟨by rfl,by decide+kernel,by decide+kernel,by decide+kernel,by decide+kernel,by decide+kernel,by decide+kernel⟩ rfl rfl) rfl (Cg rfl T.range (Aa Ag Ac)) (fun _ _ _ _ _=>Aj (i:=0) (show (["_law_k","_law_letters","_law_deck_here"]:List Str).Nodup by decide+kernel) rfl (Or.inl rfl)) (fun _ _ _ _ _=>Br) (fun _ _ _ _ _=>Az ix_str (pv 1) (Aq GTake hr rfl hTake kTake bTake .nil A5 (Aa (pv 2) (Aa Ag Ac))) (fun _ _=>rfl))) Ac)))
   (Ae (Au (i:=9) scNames.nd rfl (Or.inl rfl) (Ch Ac))
   (Ae (C3 PassesOwn.never rfl (Cg rfl T.range (Aa (pv 1) Ac)) (Aj (i:=10) scNames.nd rfl (Or.inl rfl)) (Ae (Au (i:=11) scNames.nd rfl (Or.inl rfl) (Az ix_str (pv 2) (A1 op_mod (A1 Bs (pv 3) (A1 op_mul (pv 5) (pv 10))) Ag) (fun _ _=>rfl)))
   (Ae (Au (i:=12) scNames.nd rfl (Or.inl rfl) (A1 op_add_str (A1 op_add_str (pv 11) (Az ix_str (pv 2) (A1 op_mod (A1 Bs (pv 4) (A1 op_fdiv (pv 10) Ag)) Ag) (fun _ _=>rfl))) (pv 8)))
   (Ah (Cp (pe_bm PySem.F.plainAttrs_list PySem.F.slot_list_append PySem.F.type_list_append Bu (pv 9) (Aa (C0 sl_str (pv 12) po_none (Ck (Ak (call_max2 rfl) (by rfl) T.max (by decide+kernel) (Aa (A1 Bs Ag (A6 call_int1 (by rfl) T.int (by decide+kernel) (Aa (A7 op_gt (pv 10) Ag (An _)) Ac))) (Aa (A1 Bs Ag (A1 op_mod (A1 Bs (pv 6) (A1 op_mul (pv 7) (pv 10))) Ag)) Ac))))) Ac)))))))
   (Ah (As (pv 9))))))))))),?_⟩
  refine ⟨_,rfl,d,c,26,rfl,hD,by decide,by decide,fun f H1 f0 f1 b1 D1=>⟨_,rfl,d,c,26,rfl,D1,by decide,by decide,fun s2 H2 g0 g1 b2 D2=> ?_⟩⟩
  obtain ⟨f,rfl⟩:=Cz f0
  obtain ⟨s2,rfl⟩:=Cz g0
  have B2:=b1.trans b2
  clear b1 b2 D1 f0 g0
  refine ⟨small (by simp),fun l0 hl0=> ?_⟩
  have s3:=Ad (o:= .lst [.int 1,.int 3,.int 5,.int 7]) hl0
  have l3:=Ab (H:=H2) (a:=l0) (o:= .lst [.int 1,.int 3,.int 5,.int 7])
  have n3:l0≠d:=D2.nd hl0
  have n3':l0≠c:=D2.nc hl0
  have D3:=D2.same s3
  have B3:=B2.trans (But.of s3)
  clear B2
  generalize upd H2 l0 (.lst [.int 1,.int 3,.int 5,.int 7])=H3 at s3 l3 D3 B3
  refine ⟨_,rfl,d,c,4,rfl,D3,by decide,by decide,fun w H4 w0 w1 b4 D4=> ?_⟩
  obtain ⟨w,rfl⟩:=Cz w0
  have B4:=B3.trans b4
  have l4:=b4 _ _ l3 n3 n3'
  obtain ⟨st,est,hst⟩:∃st:Nat,([V.int 1,.int 3,.int 5,.int 7]:List V)[w]? =some (.int (st:Int))∧(st=1∨st=3∨st=5∨st=7):=by
   have hw:w=0∨w=1∨w=2∨w=3:=by omega
   rcases hw with rfl|rfl|rfl|rfl
   ·exact ⟨1,rfl,by decide⟩
   ·exact ⟨3,rfl,by decide⟩
   ·exact ⟨5,rfl,by decide⟩
   ·exact ⟨7,rfl,by decide⟩
  refine ⟨l0,_,_,_,rfl,rfl,SqL.of l4,Ap est,?_⟩
  clear B3 b4 l3 l4 D3 s3 w0 w1 D2
  refine ⟨_,rfl,d,c,8,rfl,D4,by decide,by decide,fun cu H5 u0 u1 b5 D5=>⟨_,rfl,d,c,8,rfl,D5,by decide,by decide,fun wi H6 i0 i1 b6 D6=> ?_⟩⟩
  obtain ⟨cu,rfl⟩:=Cz u0
  obtain ⟨wi,rfl⟩:=Cz i0
  have B6:=(B4.trans b5).trans b6
  clear B4 b5 b6 D5 D4 u0 i0
  refine ⟨rfl,6,rfl,by decide,by decide,fun W hWn=>Cb (lo:=0) (n:=6) (fun j σ ys H2=>∃(u:Option V) (ws:List Nat),σ=[u,some (.str LS),some (.ref d)]∧But d c H6 H2∧DeckAt H2 d c∧H2 W=some (.lst ys)∧ys=ws.map sg∧ws.length=j∧∀x∈ws,97≤x∧x≤122) ?_ (fun j σ ys H2 _ ⟨_,_,_,_,_,e,_⟩=>e) ?_ ?_⟩
  ·exact ⟨none,[],rfl,But.of (Ad hWn),D6.same (Ad hWn),Ab,rfl,rfl,by simp⟩
  ·rintro j σ ys H2 hj ⟨u,ws,rfl,b2,D2,e2,rfl,wl,wr⟩
   refine ⟨_,rfl,_,rfl,d,c,26,rfl,D2,by decide,by decide,fun x H3 x0 x1 b3 D3=> ?_⟩
   have e3:=b3 _ _ e2 (D6.nd hWn) (D6.nc hWn)
   refine ⟨_,x,_,rfl,rfl,small (by decide+kernel),LS_at x0 x1,e3,Al (by simp;omega),_,ws++[97+x.toNat],rfl,fun b o e q1 q2=> ?_,?_,Ab,by rw [List.map_append];rfl,by simp [wl],?_⟩
   ·rw [Ai (Am e hWn)];exact b3 _ _ (b2 _ _ e q1 q2) q1 q2
   ·exact D3.set (D6.nd hWn) (D6.nc hWn)
   ·intro y hy
    rcases List.mem_append.mp hy with hy|hy
    ·exact wr y hy
    ·rw [List.mem_singleton.mp hy];omega
  rintro σ ys H7 ⟨u,ws,rfl,b7,D7,e7,rfl,wl,wr⟩
  rw [sg_map] at e7
  refine ⟨Str.ofString "",W,_,rfl,rfl,SqL.of e7,?_,?_⟩
  ·rw [sg_sum,List.length_map];show _+_ * 0≤_;rw [wl];decide
  have hz:=join_cps ws
  generalize Txt.join (Str.ofString "") (ws.map fun c=>(⟨#[c]⟩:Str))=tl at hz
  have B7:=B6.trans b7
  have tl6:tl.length=6:=by rw [len_cps,hz,wl]
  refine ⟨small (by simp),fun l hl=> ?_⟩
  have s8:=Ad (o:= .lst []) hl
  have l8:=Ab (H:=H7) (a:=l) (o:= .lst [])
  generalize upd H7 l (.lst [])=H8 at s8 l8
  refine ⟨_,rfl,(M:Int),rfl,by omega,by omega,for_range (lo:=0) (n:=M) (fun i σ H5=>∃(u10 u11 u12:Option V) (zs:List Str),σ=[some (.ref d),some (.int (M:Int)),some (.str LS),some (.int (f:Int)),some (.int (s2:Int)),some (.int (st:Int)),some (.int (cu:Int)),some (.int (wi:Int)),some (.str tl),some (.ref l),u10,u11,u12]∧Same H7 H5∧H5 l=some (.lst (zs.map V.str))∧zs.length=i∧(∀(j:Nat) z,zs[j]? =some z→NmT f s2 st j z)∧∀z∈zs,NameOk z) ⟨_,_,_,[],rfl,s8,l8,rfl,fun j z e=>by simp at e,by simp⟩ ?_ ?_⟩
  ·rintro i σ H5 hi ⟨u10,u11,u12,zs,rfl,s5,l5,zl,zn,zo⟩
   have hi:i<M:=hi
   have m0:=Int.emod_nonneg ((f:Int)+(st:Int) * (0+(i:Int))) (show (26:Int)≠0 by decide)
   have m1:=Int.emod_lt_of_pos ((f:Int)+(st:Int) * (0+(i:Int))) (show (0:Int)<26 by decide)
   have p0:=Int.emod_nonneg ((s2:Int)+(0+(i:Int)) / 26) (show (26:Int)≠0 by decide)
   have p1:=Int.emod_lt_of_pos ((s2:Int)+(0+(i:Int)) / 26) (show (0:Int)<26 by decide)
   have c1:97+(((f:Int)+(st:Int) * (0+(i:Int))) % 26).toNat=97+(f+st * i) % 26:=by rcases hst with rfl|rfl|rfl|rfl<;> omega
   have c2:97+(((s2:Int)+(0+(i:Int)) / 26) % 26).toNat=97+(s2+i / 26) % 26:=by omega
   refine ⟨_,rfl,_,rfl,_,rfl,_,rfl,_,_,rfl,rfl,.inl ⟨by omega,by omega⟩,_,_,rfl,rfl,_,_,rfl,rfl,(by show (0:Int)<26;decide),LS,_,_,rfl,rfl,small (by decide+kernel),LS_at m0 m1,?_⟩
   rw [c1]
   refine ⟨_,rfl,_,rfl,_,rfl,_,rfl,_,_,rfl,rfl,⟨by decide,by decide⟩,_,_,rfl,rfl,_,_,rfl,rfl,(by show (0:Int)<26;decide),LS,_,_,rfl,rfl,small (by decide+kernel),LS_at p0 p1,_,_,rfl,rfl,(by show 1+1≤_;decide),_,rfl,_,_,rfl,rfl,?_,?_⟩
   ·rw [show ∀a b:Str,(a++b).length=(a++b).cps.toList.length from fun a b=>len_cps _,cat_cps,List.length_append,tl6];show 1+1+6≤_;decide
   rw [c2]
   have en:((⟨#[97+(f+st * i) % 26]⟩:Str)++(⟨#[97+(s2+i / 26) % 26]⟩:Str)++tl).cps.toList=(97+(f+st * i) % 26)::(97+(s2+i / 26) % 26)::ws:=by
    rw [cat_cps,cat_cps,hz];rfl
   generalize ((⟨#[97+(f+st * i) % 26]⟩:Str)++(⟨#[97+(s2+i / 26) % 26]⟩:Str)++tl)=nm at en
   have len:nm.length=8:=by rw [len_cps,en,List.length_cons,List.length_cons,wl]
   have y0:=Int.emod_nonneg ((cu:Int)+(wi:Int) * (0+(i:Int))) (show (8:Int)≠0 by decide)
   have y1:=Int.emod_lt_of_pos ((cu:Int)+(wi:Int) * (0+(i:Int))) (show (0:Int)<8 by decide)
   refine ⟨_,rfl,.inl ⟨rfl,_,SqL.of l5⟩,_,rfl,_,rfl,_,_,rfl,rfl,.inr ⟨_,rfl,_,_,rfl,rfl,_,rfl,_,rfl,_,rfl,_,_,rfl,rfl,.inl ⟨by omega,by omega⟩,_,_,rfl,rfl,_,_,rfl,rfl,(by show (0:Int)<8;decide),_,_,rfl,rfl,_,_,rfl,_,rfl,nm,rfl,by rw [len];decide,l,_,_,rfl,rfl,l5,Al (by simp;omega),?_⟩⟩
   generalize ((cu:Int)+(wi:Int) * (0+(i:Int))) % 8=y at y0 y1 ⊢
   obtain ⟨n1,n2⟩:=nm_cut (L:=if 1+y > 1+(if decide ((25:Int)<0+(i:Int))=true then 1 else 0) then 1+y else 1+(if decide ((25:Int)<0+(i:Int))=true then 1 else 0)) en wl wr (by split<;> split<;> omega) (by split<;> split<;> omega) (fun h=>by
    rw [decide_eq_true (show (25:Int)<0+(i:Int) by omega),if_pos rfl];split<;> omega)
   refine ⟨_,_,_,zs++[_],rfl,Aw s5 hl,by rw [Ab,List.map_append];rfl,by simp [zl],fun j z e=> ?_,fun z hz=> ?_⟩
   ·rw [List.getElem?_append] at e
    split at e
    ·exact zn j z e
    ·have hj:j=i:=by
      have:=(List.getElem?_eq_some_iff.mp e).1
      simp at this;omega
     subst hj
     rw [show j - zs.length=0 by omega,List.getElem?_cons_zero] at e
     cases e
     exact n1
   ·rcases List.mem_append.mp hz with hz|hz
    ·exact zo z hz
    ·rw [List.mem_singleton.mp hz];exact n2
  rintro σ H5 ⟨u10,u11,u12,zs,rfl,s5,l5,zl,zn,zo⟩
  exact ⟨_,rfl,k l zs _ (B7.trans (But.of s5)) (D7.same s5) (B7.none hD D7 hl) l5 zl (NmT.nodup hst zn (by omega)) zo⟩
end
end K38
namespace K38
open PySem L2 Wk
abbrev M4:=Nat×Nat×Nat×Bool
def m4V (x:M4):List V:=[.int (x.1:Int),.int (x.2.1:Int),.int (x.2.2.1:Int),.bl x.2.2.2]
def M4At (H:Hp) (ts:List Addr) (T:List M4):Prop:=ts.length=T.length∧∀(i:Nat) r x,ts[i]? =some r→T[i]? =some x→H r=some (.tup (m4V x))
theorem M4At.mono {H H':Hp} {ts:List Addr} {T:List M4} (h:M4At H ts T) (f:∀r xs,H r=some (.tup xs)→H' r=some (.tup xs)):M4At H' ts T:=⟨h.1,fun i r x a b=>f _ _ (h.2 i r x a b)⟩
theorem M4At.get {H:Hp} {ts:List Addr} {T:List M4} (h:M4At H ts T) {i:Nat} {r:Addr} (hr:ts[i]? =some r):∃x,T[i]? =some x∧H r=some (.tup (m4V x)):=by
 have hi:i<T.length:=by rw [←h.1];exact (List.getElem?_eq_some_iff.mp hr).1
 exact ⟨T[i],C1 hi,h.2 i r _ hr (C1 hi)⟩
theorem M4At.snoc {H:Hp} {ts:List Addr} {T:List M4} {r:Addr} {x:M4} (h:M4At H ts T) (hr:H r=some (.tup (m4V x))):M4At H (ts++[r]) (T++[x]):=by
 refine ⟨by rw [List.length_append,List.length_append,h.1];rfl,fun i r0 p0 e1 e2=> ?_⟩
 rw [List.getElem?_append] at e1 e2
 rw [h.1] at e1
 split at e1
 ·rename_i z
  rw [if_pos z] at e2
  exact h.2 i r0 p0 e1 e2
 ·rename_i z
  rw [if_neg z] at e2
  have hz:i - T.length=0:=by
   have:=(List.getElem?_eq_some_iff.mp e1).1
   simp only [List.length_cons,List.length_nil] at this
   omega
  rw [hz] at e1 e2
  cases e1
  cases e2
  exact hr
def M4Ok (N:Nat) (x:M4):Prop:=x.1<N∧x.2.1<N∧x.1≠x.2.1∧x.2.2.1≤3
def PrsAt (H:Hp) (N:Nat) (qs:List Addr):Prop:=∀q∈qs,∃i j:Nat,i<N∧j<N∧H q=some (.tup [.int (i:Int),.int (j:Int)])
theorem PrsAt.mono {H H':Hp} {N:Nat} {qs:List Addr} (h:PrsAt H N qs) (f:∀r xs,H r=some (.tup xs)→H' r=some (.tup xs)):PrsAt H' N qs:=fun q hq=>by
 obtain ⟨i,j,a,b,e⟩:=h q hq
 exact ⟨i,j,a,b,f _ _ e⟩
theorem PrsAt.snoc {H:Hp} {N:Nat} {qs:List Addr} {r:Addr} {i j:Nat} (h:PrsAt H N qs) (hi:i<N) (hj:j<N) (e:H r=some (.tup [.int (i:Int),.int (j:Int)])):PrsAt H N (qs++[r]):=fun q hq=>by
 rcases List.mem_append.mp hq with hq|hq
 ·exact h q hq
 ·rw [List.mem_singleton.mp hq];exact ⟨i,j,hi,hj,e⟩
def But3 (d c ti:Addr) (H H':Hp):Prop:=∀b o,H b=some o→b≠d→b≠c→b≠ti→H' b=some o
theorem But3.trans {d c ti:Addr} {H H1 H2:Hp} (h:But3 d c ti H H1) (h':But3 d c ti H1 H2):But3 d c ti H H2:=fun b o e n1 n2 n3=>h' b o (h b o e n1 n2 n3) n1 n2 n3
theorem But.b3 {d c ti:Addr} {H H':Hp} (h:But d c H H'):But3 d c ti H H':=fun b o e n1 n2 _=>h b o e n1 n2
theorem But.tp {d c:Addr} {H H':Hp} (h:But d c H H') (D:DeckAt H d c):∀r xs,H r=some (.tup xs)→H' r=some (.tup xs):=fun r xs e=>h.tup D e
def MOut (d c ti lb:Addr) (N:Nat) (H:Hp) (m:Nat) (F:Addr→Hp→Prop):Prop:=∀(lb':Addr) (ls':List Int) (ts':List Addr) (T':List M4) (H':Hp),But3 d c ti H H'→DeckAt H' d c→H' lb'=some (.lst (ls'.map V.int))→ls'.length=N→H' ti=some (.lst (ts'.map V.ref))→M4At H' ts' T'→T'.length≤m→(∀x∈T',M4Ok N x)→(lb'=lb∨H lb'=none)→F lb' H'
theorem MOut.mono {d c ti lb:Addr} {N m:Nat} {H H':Hp} {F:Addr→Hp→Prop} (k:MOut d c ti lb N H m F) (b:But d c H H') (D:DeckAt H d c) (D':DeckAt H' d c):MOut d c ti lb N H' m F:=fun lb' ls' ts' T' H2 b3 D2 e l t M q o f=>k lb' ls' ts' T' H2 (b.b3.trans b3) D2 e l t M q o (f.imp_right fun z=>b.none D D' z)
def spMerged:Sp:=fun vs H Q _=>∃(d c lb ti:Addr) (N L:Nat) (Li rm:Int) (ls:List Int) (ts:List Addr) (T:List M4),vs=[.ref d,.int (N:Int),.int Li,.int rm,.ref lb,.ref ti]∧Li=(L:Int)∧DeckAt H d c∧1≤N∧N≤24∧L≤3∧H lb=some (.lst (ls.map V.int))∧ls.length=N∧lb≠d∧lb≠c∧H ti=some (.lst (ts.map V.ref))∧ti≠d∧ti≠c∧M4At H ts T∧T.length≤200∧(∀x∈T,M4Ok N x)∧MOut d c ti lb N H (T.length+N) fun r H'=>Q (.ref r) H'
def tPrs:TS:=fun D σ H=>∃(d c lb ti pr:Addr) (N L:Nat) (rm:Int) (ls:List Int) (ts qs:List Addr) (T:List M4),σ=[some (.ref d),some (.int (N:Int)),some (.int (L:Int)),some (.int rm),some (.ref lb),some (.ref ti),some (.ref pr),none,none,none,none,none]∧DeckAt H d c∧1≤N∧N≤24∧L≤3∧H lb=some (.lst (ls.map V.int))∧ls.length=N∧H ti=some (.lst (ts.map V.ref))∧ti≠d∧ti≠c∧M4At H ts T∧T.length≤200∧(∀x∈T,M4Ok N x)∧H pr=some (.lst (qs.map V.ref))∧pr≠ti∧PrsAt H N qs∧qs.length≤N∧MOut d c ti lb N H (T.length+N) fun r H'=>D.rt (.ref r) H'
theorem lb_ti {H:Hp} {lb ti:Addr} {ls:List Int} {ts:List Addr} (h1:H lb=some (.lst (ls.map V.int))) (h2:H ti=some (.lst (ts.map V.ref))) (h:1≤ls.length):lb≠ti:=fun z=>by
 rw [z,h2] at h1
 injection h1 with h1
 injection h1 with h1
 match ls,ts,h1,h with
 |[],_,_,h=>exact absurd h (by simp)
 |_::_,[],h1,_=>cases h1
 |_::_,_::_,h1,_=>cases h1
theorem ixL {xs:List Int} {i:Nat} (h:i<xs.length):(xs.map V.int)[i]? =some (.int xs[i]):=by rw [List.getElem?_map,C1 h];rfl
section
variable {P:Program} {w:World} {K:PySem.W.Frag} {mg:Str→Option Value} {base:Heap}
theorem scMerged:A4 ["_law_deck_here","_law_many_here","_law_layer","_law_room","_law_labels","_law_ties","_law_pairs","_law_one","_law_other","_law_size","_law_near","_law_far"] ["_law_deck_here","_law_many_here","_law_layer","_law_room","_law_labels","_law_ties"] (Af sMerged):=⟨rfl,rfl,rfl,by decide+kernel,rfl,by decide+kernel,by decide+kernel⟩
theorem ok_Merged {f:Addr} {fd:FuncData} (F:Fun K "_law_merged" "_law_merged" sMerged f fd) (T:Txt mg)
  {gTake:Addr} {fTake:FuncData} (kTake:PySem.W.keepIn K (.ref gTake)=true) (bTake:Binds K fTake ["_law_deck_here","_law_most"] []) (hTake:mg "_law_take"=some (.ref gTake)) (GTake:FnOk P w K mg base CX0 2 gTake fTake ["_law_deck_here","_law_most"] spTake):
  FnOk P w K mg base CX0 3 f fd ["_law_deck_here","_law_many_here","_law_layer","_law_room","_law_labels","_law_ties"] spMerged:=by
 refine F.ok scMerged (fun vs H Q E h=> ?_) (fun cdv A outer s H vs Q E hr h=> ?_)
 ·obtain ⟨_,_,_,_,_,_,_,_,_,_,_,rfl,_⟩:=h;rfl
 ·obtain ⟨d,c,lb,ti,N,L,Li,rm,ls,ts,T',rfl,rfl,hD,N1,N24,L3,hlb,lsl,nbd,nbc,hti,ntd,ntc,hT,T200,Tok,k⟩:=h
  refine ⟨_,Ae (ps_comp (i:=6) (T:=["_law_place"]) (F:=[]) (js:=[]) scMerged.nd rfl (Or.inl rfl) (CS.to (osc:=Af sMerged) ⟨by rfl,by decide+kernel,by decide+kernel,by decide+kernel,by decide+kernel,by decide+kernel,by decide+kernel⟩ rfl rfl) rfl (Cg rfl T.range (Aa (A1 op_sub (pv 1) Ag) Ac)) (fun _ _ _ _ _=>Aj (i:=0) (show (["_law_place"]:List Str).Nodup by decide+kernel) rfl (Or.inl rfl)) (fun _ _ _ _ _=>Br) (fun _ _ _ _ _=>Bf (Aa (pv 0) (Aa (A1 Bs (pv 0) Ag) Ac))))
   (Ae (A8 (PW.pt (Co (Ao op_gt (pv 2) Ag (An _)) (By (Ao op_ne (Aq GTake hr rfl hTake kTake bTake .nil A5 (Aa (pv 0) (Aa Ag Ac))) Ag (An _))))) (Ah (ps_comp (i:=6) (T:=["_law_turn"]) (F:=["_law_deck_here","_law_many_here"]) (js:=[0,1]) scMerged.nd rfl (Or.inl rfl) (CS.to (osc:=Af sMerged) ⟨by rfl,by decide+kernel,by decide+kernel,by decide+kernel,by decide+kernel,by decide+kernel,by decide+kernel⟩ rfl rfl) rfl (Cg rfl T.range (Aa (Aq GTake hr rfl hTake kTake bTake .nil A5 (Aa (pv 0) (Aa (A1 Bs (pv 1) Ag) Ac))) Ac)) (fun _ _ _ _ _=>Aj (i:=0) (show (["_law_turn","_law_deck_here","_law_many_here"]:List Str).Nodup by decide+kernel) rfl (Or.inl rfl)) (fun _ _ _ _ _=>Br) (fun _ _ _ _ _=>Bf (Aa (Aq GTake hr rfl hTake kTake bTake .nil A5 (Aa (pv 1) (Aa (pv 2) Ac))) (Aa (Aq GTake hr rfl hTake kTake bTake .nil A5 (Aa (pv 1) (Aa (pv 2) Ac))) Ac))))) Av)
   (PSs.imp' (t':=tPrs) (Ae (C3 PassesOwn.never rfl (B8 (pv 6)) (pg_tup rfl (Ar (Aj (i:=7) scMerged.nd rfl (Or.inl rfl)) (Ar (Aj (i:=8) scMerged.nd rfl (Or.inl rfl)) Cc))) (Ae (Au (i:=9) scMerged.nd rfl (Or.inl rfl) (A1 Bs (pe_bm PySem.F.plainAttrs_list PySem.F.slot_list_count PySem.F.type_list_count mt_countL (pv 4) (Aa (Az Ax (pv 4) (pv 7) (fun _ _=>rfl)) Ac)) (pe_bm PySem.F.plainAttrs_list PySem.F.slot_list_count PySem.F.type_list_count mt_countL (pv 4) (Aa (Az Ax (pv 4) (pv 8) (fun _ _=>rfl)) Ac))))
   (Ah (A8 (PW.pt (pw_and (Ao op_ne (Az Ax (pv 4) (pv 7) (fun _ _=>rfl)) (Az Ax (pv 4) (pv 8) (fun _ _=>rfl)) (An _)) (pw_and1 (Ao op_le (pv 9) (pv 3) (An _))))) (Ae (Cp (pe_bm PySem.F.plainAttrs_list PySem.F.slot_list_append PySem.F.type_list_append Bu (pv 5) (Aa (Bf (Aa (pv 7) (Aa (pv 8) (Aa (pv 2) (Aa Ci Ac))))) Ac)))
   (Ae (ps_asg (Bf (Aa (Az Ax (pv 4) (pv 7) (fun _ _=>rfl)) (Aa (Az Ax (pv 4) (pv 8) (fun _ _=>rfl)) Ac))) (pg_tup rfl (Ar (Aj (i:=10) scMerged.nd rfl (Or.inr rfl)) (Ar (Aj (i:=11) scMerged.nd rfl (Or.inr rfl)) Cc))))
   (Ah (ps_comp (i:=4) (T:=["_law_label"]) (F:=["_law_near","_law_far"]) (js:=[10,11]) scMerged.nd rfl (Or.inl rfl) (CS.to (osc:=Af sMerged) ⟨by rfl,by decide+kernel,by decide+kernel,by decide+kernel,by decide+kernel,by decide+kernel,by decide+kernel⟩ rfl rfl) rfl (B8 (pv 4)) (fun _ _ _ _ _=>Aj (i:=0) (show (["_law_label","_law_near","_law_far"]:List Str).Nodup by decide+kernel) rfl (Or.inl rfl)) (fun _ _ _ _ _=>Br) (fun _ _ _ _ _=>pe_ifExp (Ao Cq (pv 0) (pv 2) (An _)) (pv 1) (pv 0)))))) Av))))
   (Ah (As (pv 4)))) ?prs)),?_⟩
  case prs=>
   clear k hD hlb hti hT
   rintro Dd σ H ⟨d,c,lb,ti,pr,N,L,rm,ls,ts,qs,T,rfl,hD,N1,N24,L3,hlb,lsl,hti,ntd,ntc,hT,T200,Tok,hpr,npt,hP,ql,k⟩
   refine ⟨_,rfl,pr,rfl,⟨_,SqL.of hpr⟩,for_list (K:=K) (a:=pr) (xs:=qs.map V.ref) (fun j σ H2=>∃(lb':Addr) (ls':List Int) (ts':List Addr) (T':List M4) (u7 u8 u9 u10 u11:Option V),σ=[some (.ref d),some (.int (N:Int)),some (.int (L:Int)),some (.int rm),some (.ref lb'),some (.ref ti),some (.ref pr),u7,u8,u9,u10,u11]∧(∀b o,H b=some o→b≠ti→H2 b=some o)∧H2 lb'=some (.lst (ls'.map V.int))∧ls'.length=N∧H2 ti=some (.lst (ts'.map V.ref))∧M4At H2 ts' T'∧T'.length≤T.length+j∧(∀x∈T',M4Ok N x)∧(lb'=lb∨H lb'=none)) ⟨lb,ls,ts,T,_,_,_,_,_,rfl,fun b o e _=>e,hlb,lsl,hti,hT,Nat.le_refl _,Tok,.inl rfl⟩ (fun j σ H2 _ ⟨_,_,_,_,_,_,_,_,_,_,b2,_⟩=>SqL.of (b2 _ _ hpr npt)) ?_ ?_⟩
   ·rintro j x σ H2 hx ⟨lb',ls',ts',T',u7,u8,u9,u10,u11,rfl,b2,h2,lsl',ti2,hT',Tl,Tok',fr⟩
    obtain ⟨q,eq,rfl⟩:=Ay hx
    obtain ⟨p,r,hp,hr0,hq⟩:=hP q (List.mem_of_getElem? eq)
    have jq:j<qs.length:=(List.getElem?_eq_some_iff.mp eq).1
    have hq2:=b2 _ _ hq (Cw hq hti (by intro z;cases z))
    have ip:=ixL (xs:=ls') (i:=p) (by omega)
    have ir:=ixL (xs:=ls') (i:=r) (by omega)
    refine ⟨q,_,rfl,SqT.of hq2,rfl,_,_,rfl,_,_,rfl,rfl,?_⟩
    refine ⟨_,rfl,.inl ⟨rfl,_,SqL.of h2⟩,_,rfl,_,rfl,lb',_,_,_,rfl,rfl,SqL.of h2,Ap ip,lb',ls',_,rfl,rfl,h2,_,rfl,.inl ⟨rfl,_,SqL.of h2⟩,_,rfl,_,rfl,lb',_,_,_,rfl,rfl,SqL.of h2,Ap ir,lb',ls',_,rfl,rfl,h2,_,_,rfl,rfl,?_⟩
    refine ⟨_,rfl,_,rfl,lb',_,_,_,rfl,rfl,SqL.of h2,Ap ip,_,rfl,_,rfl,lb',_,_,_,rfl,rfl,SqL.of h2,Ap ir,rfl,_,rfl,Bp (fun g=> ?_) fun g=> ?_⟩
    ·refine ⟨_,rfl,_,rfl,_,_,rfl,rfl,_,rfl,Bp (fun g2=> ?_) fun g2=> ?_⟩
     ·have pr':p≠r:=fun z=>by subst z;simp at g
      have nlt:=lb_ti h2 ti2 (by omega)
      refine ⟨_,rfl,.inl ⟨rfl,_,SqL.of ti2⟩,_,rfl,_,rfl,_,rfl,small (by simp),fun r1 hr1=> ?_⟩
      have s3:=Ad (o:= .tup (m4V (p,r,L,true))) hr1
      have e3:=Ab (H:=H2) (a:=r1) (o:= .tup (m4V (p,r,L,true)))
      refine ⟨ti,_,_,rfl,rfl,s3 _ _ ti2,Al (by rw [List.length_map,hT'.1];omega),?_⟩
      have s3:Same H2 (upd H2 r1 (.tup [.int (p:Int),.int (r:Int),.int (L:Int),.bl true])):=s3
      have e3:upd H2 r1 (.tup [.int (p:Int),.int (r:Int),.int (L:Int),.bl true]) r1=some (.tup (m4V (p,r,L,true))):=e3
      generalize upd H2 r1 (.tup [.int (p:Int),.int (r:Int),.int (L:Int),.bl true])=H3 at s3 e3 ⊢
      have B4:∀b o,H b=some o→b≠ti→upd H3 ti (.lst (ts'.map V.ref++[.ref r1])) b=some o:=fun b o e n=>by rw [Ai n];exact s3 _ _ (b2 b o e n)
      have h4:upd H3 ti (.lst (ts'.map V.ref++[.ref r1])) lb'=some (.lst (ls'.map V.int)):=by rw [Ai nlt];exact s3 _ _ h2
      have ti4:upd H3 ti (.lst (ts'.map V.ref++[.ref r1])) ti=some (.lst ((ts'++[r1]).map V.ref)):=by rw [Ab,List.map_append];rfl
      have kp:∀(r:Addr) (zs:List V),H3 r=some (.tup zs)→upd H3 ti (.lst (ts'.map V.ref++[.ref r1])) r=some (.tup zs):=fun r zs e=>by rw [Ai (Cw e (s3 _ _ ti2) (by intro z;cases z))];exact e
      have M5:M4At (upd H3 ti (.lst (ts'.map V.ref++[.ref r1]))) (ts'++[r1]) (T'++[(p,r,L,true)]):=(hT'.mono fun r xs e=>kp _ _ (s3 _ _ e)).snoc (kp _ _ e3)
      generalize upd H3 ti (.lst (ts'.map V.ref++[.ref r1]))=H4 at B4 h4 ti4 M5 ⊢
      refine ⟨_,rfl,_,rfl,lb',_,_,_,rfl,rfl,SqL.of h4,Ap ip,_,rfl,_,rfl,lb',_,_,_,rfl,rfl,SqL.of h4,Ap ir,small (by simp),fun t2 ht2=> ?_⟩
      refine ⟨t2,_,rfl,SqT.of Ab,rfl,_,_,rfl,_,_,rfl,rfl,?_⟩
      have s5:=Ad (o:= .tup [.int ls'[p],.int ls'[r]]) ht2
      generalize upd H4 t2 (.tup [.int ls'[p],.int ls'[r]])=H5 at s5 ⊢
      generalize ls'[p]=na
      generalize ls'[r]=fa
      refine ⟨_,rfl,lb',rfl,⟨_,SqL.of (s5 _ _ h4)⟩,fun Dn hDn=>Ce (K:=K) (a:=lb') (xs:=ls'.map V.int) (fun j σ ys H6=>∃(u:Option V) (zs:List Int),σ=[u,some (.int na),some (.int fa)]∧ys=zs.map V.int∧Same H5 H6∧H6 Dn=some (.lst ys)∧zs.length=j) ⟨none,[],rfl,rfl,Ad hDn,Ab,rfl⟩ (fun j σ ys H6 _ ⟨_,_,_,_,s,e,_⟩=>⟨SqL.of (s _ _ (s5 _ _ h4)),e⟩) ?_ ?_⟩
      ·rintro i x σ ys H6 hx ⟨u,zs,rfl,rfl,s6,d6,zl⟩
       have il:i<ls'.length:=by have:=(List.getElem?_eq_some_iff.mp hx).1;rwa [List.length_map] at this
       obtain ⟨v,hv,rfl⟩:=Ay hx
       refine ⟨_,rfl,_,rfl,rfl,_,rfl,Bp (fun g=> ?_) fun g=> ?_⟩
       ·exact ⟨_,rfl,d6,Al (by rw [List.length_map];omega),_,zs++[na],rfl,by rw [List.map_append];rfl,Aw s6 hDn,Ab,by simp [zl]⟩
       ·exact ⟨_,rfl,d6,Al (by rw [List.length_map];omega),_,zs++[v],rfl,by rw [List.map_append];rfl,Aw s6 hDn,Ab,by simp [zl]⟩
      rintro σ ys H6 ⟨u,zs,rfl,rfl,s6,d6,zl⟩
      rw [List.length_map] at zl
      have B6:∀b o,H b=some o→b≠ti→H6 b=some o:=fun b o e n=>s6 _ _ (s5 _ _ (B4 b o e n))
      refine ⟨Dn,zs,ts'++[r1],T'++[(p,r,L,true)],_,_,_,_,_,rfl,B6,d6,by omega,s6 _ _ (s5 _ _ ti4),M5.mono fun r xs e=>s6 _ _ (s5 _ _ e),by rw [List.length_append];simp;omega,fun x hx=> ?_,.inr ?_⟩
      ·rcases List.mem_append.mp hx with hx|hx
       ·exact Tok' x hx
       ·rw [List.mem_singleton.mp hx];exact ⟨hp,hr0,pr',L3⟩
      ·cases g9:H Dn with
       |none=>rfl
       |some o=>
        have nD:Dn≠ti:=fun z=>by rw [z,s5 _ _ ti4] at hDn;cases hDn
        rw [s5 _ _ (B4 _ _ g9 nD)] at hDn
        cases hDn
     ·exact ⟨lb',ls',ts',T',_,_,_,_,_,rfl,b2,h2,lsl',ti2,hT',by omega,Tok',fr⟩
    ·exact ⟨lb',ls',ts',T',_,_,_,_,_,rfl,b2,h2,lsl',ti2,hT',by omega,Tok',fr⟩
   rintro σ H2 ⟨lb',ls',ts',T',u7,u8,u9,u10,u11,rfl,b2,h2,lsl',ti2,hT',Tl,Tok',fr⟩
   rw [List.length_map] at Tl
   refine ⟨_,rfl,k lb' ls' ts' T' H2 (fun b o e _ _ n3=>b2 b o e n3) ?_ h2 lsl' ti2 hT' (by omega) Tok' fr⟩
   obtain ⟨cs,S,k0,g,h1,h3,r⟩:=hD
   exact ⟨cs,S,k0,g,b2 _ _ h1 ntd.symm,b2 _ _ h3 ntc.symm,r⟩
  refine ⟨_,rfl,_,_,rfl,rfl,(N:Int) - 1,rfl,by omega,by omega,fun Dp hDp=>Cb (lo:=0) (n:=((N:Int) - 1).toNat) (fun j σ ys H2=>∃(u:Option V) (qs:List Addr),σ=[u]∧ys=qs.map V.ref∧Same H H2∧H2 Dp=some (.lst ys)∧PrsAt H2 N qs∧qs.length=j) ⟨none,[],rfl,rfl,Ad hDp,Ab,(fun q hq=>by cases hq),rfl⟩ (fun j σ ys H2 _ ⟨_,_,_,_,_,e,_⟩=>e) ?_ ?_⟩
  ·rintro j σ ys H2 hj ⟨u,qs,rfl,rfl,s2,d2,p2,l2⟩
   refine ⟨_,rfl,_,rfl,_,_,rfl,rfl,small (by simp),fun t ht=> ?_⟩
   have s8:=Ad (o:= .tup [.int (0+(j:Int)),.int (0+(j:Int)+1)]) ht
   have kp:∀(r:Addr) (zs:List V) (o:HO),upd H2 t (.tup [.int (0+(j:Int)),.int (0+(j:Int)+1)]) r=some (.tup zs)→upd (upd H2 t (.tup [.int (0+(j:Int)),.int (0+(j:Int)+1)])) Dp o r=some (.tup zs):=fun r zs o e=>by rw [Ai (Cw e (s8 _ _ d2) (by intro z;cases z))];exact e
   refine ⟨s8 _ _ d2,Al (by rw [List.length_map];omega),_,qs++[t],rfl,by rw [List.map_append];rfl,Aw (s2.trans s8) hDp,Ab,?_,by simp [l2]⟩
   refine (p2.mono fun r zs e=>kp _ _ _ (s8 _ _ e)).snoc (i:=j) (j:=j+1) (by omega) (by omega) (kp _ _ _ ?_)
   rw [Ab,Int.zero_add];rfl
  rintro σ ys H2 ⟨u,qs,rfl,rfl,s2,d2,p2,l2⟩
  have D2:=hD.same s2
  refine ⟨_,rfl,_,_,rfl,rfl,_,rfl,Bp (fun g=> ?_) fun g=> ?_⟩
  ·refine ⟨_,rfl,_,rfl,_,_,rfl,rfl,d,c,_,rfl,D2,by omega,by omega,fun m H4 m0 m1 b4 D4=>⟨m,rfl,by omega,by omega,fun Dp hDp=>Cb (lo:=0) (n:=m.toNat) (fun j σ ys H5=>∃(u:Option V) (qs:List Addr),σ=[u,some (.ref d),some (.int (N:Int))]∧ys=qs.map V.ref∧But d c H4 H5∧DeckAt H5 d c∧H5 Dp=some (.lst ys)∧PrsAt H5 N qs∧qs.length=j) ⟨none,[],rfl,rfl,But.of (Ad hDp),D4.same (Ad hDp),Ab,(fun q hq=>by cases hq),rfl⟩ (fun j σ ys H5 _ ⟨_,_,_,_,_,_,e,_⟩=>e) ?_ ?_⟩⟩
   ·rintro j σ ys H5 hj ⟨u,qs,rfl,rfl,b5,D5,d5,p5,l5⟩
    have nDd:=D4.nd hDp
    have nDc:=D4.nc hDp
    refine ⟨_,rfl,_,rfl,d,c,_,rfl,D5,by omega,by omega,fun x H6 x0 x1 b6 D6=>⟨_,rfl,_,rfl,d,c,_,rfl,D6,by omega,by omega,fun y H7 y0 y1 b7 D7=>⟨small (by simp),fun t ht=> ?_⟩⟩⟩
    obtain ⟨x,rfl⟩:=Cz x0
    obtain ⟨y,rfl⟩:=Cz y0
    have d7:=b7 _ _ (b6 _ _ d5 nDd nDc) nDd nDc
    have s8:=Ad (o:= .tup [.int (x:Int),.int (y:Int)]) ht
    have kp:∀(r:Addr) (zs:List V) (o:HO),upd H7 t (.tup [.int (x:Int),.int (y:Int)]) r=some (.tup zs)→upd (upd H7 t (.tup [.int (x:Int),.int (y:Int)])) Dp o r=some (.tup zs):=fun r zs o e=>by rw [Ai (Cw e (s8 _ _ d7) (by intro z;cases z))];exact e
    refine ⟨s8 _ _ d7,Al (by rw [List.length_map];omega),_,qs++[t],rfl,by rw [List.map_append];rfl,fun b o e n1 n2=> ?_,(D7.same s8).set nDd nDc,Ab,?_,by simp [l5]⟩
    ·rw [Ai (Am e hDp)]
     exact s8 _ _ (b7 _ _ (b6 _ _ (b5 _ _ e n1 n2) n1 n2) n1 n2)
    ·exact ((p5.mono fun r zs e=>kp _ _ _ (s8 _ _ (b7.tp D6 _ _ (b6.tp D5 _ _ e)))).snoc (by omega) (by omega) (kp _ _ _ Ab))
   rintro σ ys H5 ⟨u,qs,rfl,rfl,b5,D5,d5,p5,l5⟩
   have B5:=((But.of s2).trans b4).trans b5
   have hti5:=B5 _ _ hti ntd ntc
   have tpl:Dp≠ti:=fun z=>by
    rw [z,b4 _ _ (s2 _ _ hti) ntd ntc] at hDp
    cases hDp
   exact ⟨d,c,lb,ti,Dp,N,L,rm,ls,ts,qs,T',rfl,D5,N1,N24,L3,B5 _ _ hlb nbd nbc,lsl,hti5,ntd,ntc,hT.mono (B5.tp hD),T200,Tok,d5,tpl,p5,by omega,k.mono B5 hD D5⟩
  refine ⟨_,rfl,d,c,8,rfl,D2,by decide,by decide,fun v H3 v0 v1 b3 D3=>⟨rfl,_,rfl,Bp (fun g=> ?_) fun g=> ?_⟩⟩
  ·refine ⟨_,rfl,_,rfl,_,_,rfl,rfl,d,c,_,rfl,D3,by omega,by omega,fun m H4 m0 m1 b4 D4=>⟨m,rfl,by omega,by omega,fun Dp hDp=>Cb (lo:=0) (n:=m.toNat) (fun j σ ys H5=>∃(u:Option V) (qs:List Addr),σ=[u,some (.ref d),some (.int (N:Int))]∧ys=qs.map V.ref∧But d c H4 H5∧DeckAt H5 d c∧H5 Dp=some (.lst ys)∧PrsAt H5 N qs∧qs.length=j) ⟨none,[],rfl,rfl,But.of (Ad hDp),D4.same (Ad hDp),Ab,(fun q hq=>by cases hq),rfl⟩ (fun j σ ys H5 _ ⟨_,_,_,_,_,_,e,_⟩=>e) ?_ ?_⟩⟩
   ·rintro j σ ys H5 hj ⟨u,qs,rfl,rfl,b5,D5,d5,p5,l5⟩
    have nDd:=D4.nd hDp
    have nDc:=D4.nc hDp
    refine ⟨_,rfl,_,rfl,d,c,_,rfl,D5,by omega,by omega,fun x H6 x0 x1 b6 D6=>⟨_,rfl,_,rfl,d,c,_,rfl,D6,by omega,by omega,fun y H7 y0 y1 b7 D7=>⟨small (by simp),fun t ht=> ?_⟩⟩⟩
    obtain ⟨x,rfl⟩:=Cz x0
    obtain ⟨y,rfl⟩:=Cz y0
    have d7:=b7 _ _ (b6 _ _ d5 nDd nDc) nDd nDc
    have s8:=Ad (o:= .tup [.int (x:Int),.int (y:Int)]) ht
    have kp:∀(r:Addr) (zs:List V) (o:HO),upd H7 t (.tup [.int (x:Int),.int (y:Int)]) r=some (.tup zs)→upd (upd H7 t (.tup [.int (x:Int),.int (y:Int)])) Dp o r=some (.tup zs):=fun r zs o e=>by rw [Ai (Cw e (s8 _ _ d7) (by intro z;cases z))];exact e
    refine ⟨s8 _ _ d7,Al (by rw [List.length_map];omega),_,qs++[t],rfl,by rw [List.map_append];rfl,fun b o e n1 n2=> ?_,(D7.same s8).set nDd nDc,Ab,?_,by simp [l5]⟩
    ·rw [Ai (Am e hDp)]
     exact s8 _ _ (b7 _ _ (b6 _ _ (b5 _ _ e n1 n2) n1 n2) n1 n2)
    ·exact ((p5.mono fun r zs e=>kp _ _ _ (s8 _ _ (b7.tp D6 _ _ (b6.tp D5 _ _ e)))).snoc (by omega) (by omega) (kp _ _ _ Ab))
   rintro σ ys H5 ⟨u,qs,rfl,rfl,b5,D5,d5,p5,l5⟩
   have B5:=(((But.of s2).trans b3).trans b4).trans b5
   have hti5:=B5 _ _ hti ntd ntc
   have tpl:Dp≠ti:=fun z=>by
    rw [z,b4 _ _ (b3 _ _ (s2 _ _ hti) ntd ntc) ntd ntc] at hDp
    cases hDp
   exact ⟨d,c,lb,ti,Dp,N,L,rm,ls,ts,qs,T',rfl,D5,N1,N24,L3,B5 _ _ hlb nbd nbc,lsl,hti5,ntd,ntc,hT.mono (B5.tp hD),T200,Tok,d5,tpl,p5,by omega,k.mono B5 hD D5⟩
  ·dsimp only [Bh]
   have B5:=(But.of (d:=d) (c:=c) s2).trans b3
   have hti5:=B5 _ _ hti ntd ntc
   have tpl:Dp≠ti:=(Am hti hDp).symm
   have d3:=b3 _ _ d2 (hD.nd hDp) (hD.nc hDp)
   exact ⟨d,c,lb,ti,Dp,N,L,rm,ls,ts,qs,T',rfl,D3,N1,N24,L3,B5 _ _ hlb nbd nbc,lsl,hti5,ntd,ntc,hT.mono (B5.tp hD),T200,Tok,d3,tpl,p2.mono (b3.tp D2),by omega,k.mono B5 hD D3⟩
end
end K38
namespace L2
open PySem PySem.Spec PyProof.Rows
theorem for_zipL {K:PySem.W.Frag} {a b:Addr} {xs ys:List V} {g:TG} {tb:TS} {D:Ends} {σ:St} {H:Hp} (Pv:Nat→St→Hp→Prop) (h0:Pv 0 σ H) (hl:∀i σ H,i≤xs.length→i≤ys.length→Pv i σ H→SqL K H a xs∧SqL K H b ys)
  (hs:∀i x y σ H T,xs[i]? =some x→ys[i]? =some y→Pv i σ H→H T=none→g (.ref T) σ (upd H T (.tup [x,y])) fun σ2 H2=>tb {D with nx:=Pv (i+1),ct:=Pv (i+1),bk:=D.nx} σ2 H2) (hd:∀i σ H,i=min xs.length ys.length→Pv i σ H→D.nx σ H):
  ∃W:Nat→Nat→St→Hp→Prop,(∃m,W 0 m σ H)∧∀i m σ H,W i m σ H→
   ((ItzL K a b).stop i H∧D.nx σ H)∨((ItzL K a b).go i H∧∃N:St→Hp→Prop,(∀σ' H',N σ' H'→∃m',m'<m∧W (i+1) m' σ' H')∧∀x H',(ItzL K a b).yld i H x H'→g x σ H' fun σ2 H2=>tb {D with nx:=N,ct:=N,bk:=D.nx} σ2 H2):=by
 refine ⟨fun i m σ H=>m=xs.length - i∧i≤xs.length∧i≤ys.length∧Pv i σ H,⟨xs.length,by simp,Nat.zero_le _,Nat.zero_le _,h0⟩,?_⟩
 rintro i m σ H ⟨rfl,hi,hj,p⟩
 obtain ⟨q1,q2⟩:=hl i σ H hi hj p
 by_cases hlt:i<xs.length∧i<ys.length
 ·refine .inr ⟨⟨xs,ys,xs[i],ys[i],q1,q2,by simp [hlt.1],by simp [hlt.2]⟩,Pv (i+1),fun σ' H' p'=>⟨xs.length - (i+1),by omega,rfl,hlt.1,hlt.2,p'⟩,fun x H' y=> ?_⟩
  obtain ⟨T,x,y,hT,rfl,rfl,y1,y2⟩:=y
  exact hs i x y σ H T (y1 xs q1) (y2 ys q2) p hT
 ·exact .inl ⟨⟨xs,ys,q1,q2,by omega⟩,hd i σ H (by omega) p⟩
theorem pick_tl:∀its:List Value,its.length≤5→slicePick its.toArray none (some 0) (some (-1))=its.tail.reverse.toArray
 |[],_=>rfl
 |[_],_=>rfl
 |[a,b],_=>by
  have e1:sliceBounds none (some 0) (some (-1)) ([a,b]:List Value).toArray.size=(1,0,-1):=by rfl
  have e2:sliceRange 1 0 (-1)=[1]:=by decide+kernel
  unfold slicePick
  rw [e1]
  show ((sliceRange 1 0 (-1)).filterMap _).toArray=_
  rw [e2]
  rfl
 |[a,b,c],_=>by
  have e1:sliceBounds none (some 0) (some (-1)) ([a,b,c]:List Value).toArray.size=(2,0,-1):=by rfl
  have e2:sliceRange 2 0 (-1)=[2,1]:=by decide+kernel
  unfold slicePick
  rw [e1]
  show ((sliceRange 2 0 (-1)).filterMap _).toArray=_
  rw [e2]
  rfl
 |[a,b,c,d],_=>by
  have e1:sliceBounds none (some 0) (some (-1)) ([a,b,c,d]:List Value).toArray.size=(3,0,-1):=by rfl
  have e2:sliceRange 3 0 (-1)=[3,2,1]:=by decide+kernel
  unfold slicePick
  rw [e1]
  show ((sliceRange 3 0 (-1)).filterMap _).toArray=_
  rw [e2]
  rfl
 |[a,b,c,d,e],_=>by
  have e1:sliceBounds none (some 0) (some (-1)) ([a,b,c,d,e]:List Value).toArray.size=(4,0,-1):=by rfl
  have e2:sliceRange 4 0 (-1)=[4,3,2,1]:=by decide+kernel
  unfold slicePick
  rw [e1]
  show ((sliceRange 4 0 (-1)).filterMap _).toArray=_
  rw [e2]
  rfl
 |_::_::_::_::_::_::_,h=>by simp at h
theorem Vals.tail' {xs:List V} {us:List Value} (r:Vals xs us):Vals xs.tail us.tail:=by
 cases r with
 |nil=>exact .nil
 |cons _ t=>exact t
def tRevZ (K:PySem.W.Frag) (te:TE) (th ts:TO):TE:=fun σ H Q=>te σ H fun x H0=>th σ H0 fun u H1=>ts σ H1 fun o H2=>u=some 0∧o=some (-1)∧∃(a:Addr) (xs:List V),x= .ref a∧SqL K H2 a xs∧xs.length≤5∧∀p,H2 p=none→Q (.ref p) (upd H2 p (.lst xs.tail.reverse))
section
variable {X:Cx}
theorem pe_revZ {e up st:Expr} {te:TE} {th ts:TO} {p2 pos:Pos} (he:PE X e te) (hu:PO X (some up) th) (hs:PO X (some st) ts) (ops:Value→Value→List Value) (hsub:∀o i,subscripted (.Slice none (some up) (some st) p2) false o i=operate (ops o i) (getItem o i)):PE X (.Subscript e (.Slice none (some up) (some st) p2) pos) (tRevZ X.K te th ts):=by
 intro pins s σ H Q I h
 refine Subscript_ (thn (he pins s σ H _ I h) fun v s1 ⟨x,H1,I1,r1,q1⟩=> ?_)
 refine wpAny_Slice ?_
 rw [evalPart_none]
 refine wpAny_pure (thn (hu pins s1 σ H1 _ I1 q1) fun vu s2 ⟨u,H2,I2,pu,q2⟩=>thn (hs pins s2 σ H2 _ I2 q2) fun vs s3 ⟨o,H3,I3,ps,q3⟩=> ?_)
 obtain ⟨rfl,rfl,a,xs,rfl,hq,h5,q⟩:=q3
 cases r1
 have I4:Inv X pins σ H3 {s3 with heap:=s3.heap.push {cls:= .type "slice",data:= .fields #[.none,vu,vs]}}:=I3.kept (t':=s3.toks) fun b ob q=>Heap.get?_push_of_some _ q
 obtain ⟨its,r,ht,hz⟩:=I4.list hq
 have hlen:=r.length
 show wpAny (model X.prog X.w) X.A (subscriptTail e (.Slice none (some up) (some st) p2) (.ref a) (.ref s3.heap.objs.size)) (EP X pins σ Q) X.xe {s3 with heap:=s3.heap.push {cls:= .type "slice",data:= .fields #[.none,vu,vs]}}
 refine tail_any (ops:=ops (.ref a) (.ref s3.heap.objs.size)) ht.isList.typeIs slot_list_getitem.lookup ?_ (hsub _ _)
 refine wpAny_getItem_list_slice ht.isList (Heap.IsSliceOf.new ..) .none pu ps (by decide) ?_ (by rw [List.size_toArray]<;> omega)
 rw [pick_tl its (by omega)]
 refine ⟨.ref _,_,I4.laid (t':=s3.toks) (o:= .lst xs.tail.reverse) (fun b ob q=>Heap.get?_push_of_some _ q) (Nat.le_refl _) ⟨by rw [List.length_reverse,List.length_tail];omega,its.tail.reverse,0,(Vals.tail' r).reverse,Heap.get?_push_size _ rfl⟩,rfl,q _ I4.fresh⟩
end
end L2
namespace K38
open PySem L2 Wk
theorem up_of {R:List R6} (h:R.Pairwise fun x y=>¬y.1.1.cps.toList<x.1.1.cps.toList) (nd:(R.map (·.1.1)).Nodup):UpP R:=by
 rw [List.nodup_iff_pairwise_ne,List.pairwise_map] at nd
 refine (h.and nd).imp fun {x y} ⟨h1,h2⟩=> ?_
 rcases List.le_iff_lt_or_eq.mp (List.not_lt.mp h1) with z|z
 ·exact z
 ·exact absurd (str_ext z) h2
theorem perm_map {α β:Type} {f:α→β} {ys zs:List β} (h:ys.Perm zs):∀{l:List α},zs=l.map f→∃l':List α,ys=l'.map f∧l'.Perm l:=by
 induction h with
 |nil=>intro l e;exact ⟨[],rfl,by cases l with|nil=>exact .nil|cons=>cases e⟩
 |cons x _ ih=>
  intro l e
  cases l with
  |nil=>cases e
  |cons y l=>
   injection e with e1 e2
   obtain ⟨l',h1,h2⟩:=ih e2
   exact ⟨y::l',by rw [h1,e1];rfl,h2.cons y⟩
 |swap x y zs=>
  intro l e
  match l,e with
  |[],e=>cases e
  |[_],e=>injection e with _ e;cases e
  |u::v::l,e=>
   injection e with e1 e2
   injection e2 with e2 e3
   exact ⟨v::u::l,by rw [e1,e2,e3];rfl,.swap u v l⟩
 |trans _ _ ih1 ih2=>
  intro l e
  obtain ⟨l1,h1,h2⟩:=ih2 e
  obtain ⟨l2,h3,h4⟩:=ih1 h1
  exact ⟨l2,h3,h4.trans h2⟩
theorem sort_rowsL {K:PySem.W.Frag} {H:Hp} {Q:VK} {w:Addr} {rs:List Addr} {R:List R6} (hw:H w=some (.lst (rs.map V.ref))) (hR:RowsAt H rs R) (nd:(R.map (·.1.1)).Nodup) (few:R.length<64)
  (k:∀(l:Addr) (rs':List Addr) (R':List R6),H l=none→RowsAt H rs' R'→R'.Perm R→UpP R'→Q (.ref l) (upd H l (.lst (rs'.map V.ref)))):Srt.rSortN K [.ref w] H Q:=by
 refine ⟨w,(rs.zip R).map pnOf,rfl,SqL.of (by rw [pn_ref hR.1];exact hw),fun q hq=> ?_,?_,?_,fun l ps' hl hp hw=> ?_⟩
 ·obtain ⟨q',hq',rfl⟩:=List.mem_map.mp hq
  exact SqT.of (hR.zip q' hq')
 ·rw [pn_nm hR.1];exact nd
 ·rw [List.length_map,List.length_zip,hR.1];omega
 obtain ⟨l',rfl,hp'⟩:=perm_map hp rfl
 have r8:RowsAt H (l'.map (·.1)) (l'.map (·.2)):=RowsAt.unzip fun q hq=>hR.zip q (hp'.mem_iff.mp hq)
 have e2R:(rs.zip R).map (·.2)=R:=List.map_snd_zip (Nat.le_of_eq hR.1.symm)
 have pR:(l'.map (·.2)).Perm R:=by have:=hp'.map (·.2);rwa [e2R] at this
 have up:UpP (l'.map (·.2)):=up_of (by rw [List.pairwise_map] at hw ⊢;exact hw) (((pR.map _).nodup_iff).mpr nd)
 have en:(l'.map pnOf).map Srt.nRef=(l'.map (·.1)).map V.ref:=by rw [List.map_map,List.map_map];rfl
 rw [en]
 exact k l _ _ hl r8 pR up
theorem m4_lo (x:M4):cutV (m4V x) none (some 2)=[.int (x.1:Int),.int (x.2.1:Int)]:=by
 unfold cutV m4V;rfl
theorem m4_hi (x:M4):cutV (m4V x) (some 2) none=[.int (x.2.2.1:Int),.bl x.2.2.2]:=by
 unfold cutV m4V;rfl
structure Stand (N:Nat) (R:List R6):Prop where
 nd:(R.map (·.1.1)).Nodup
 ok:∀x∈R,NameOk x.1.1∧(x.1.2.1<N∧x.1.2.2.1<N∧x.1.2.1≠x.1.2.2.1)∧(0≤x.1.2.2.2∧x.1.2.2.2≤1000000000)∧x.2.1≤3
 len:R.length≤60
 up:UpP R
def spLayered:Sp:=fun vs H Q _=>∃(d c ln:Addr) (N most:Nat) (zs:List Str),vs=[.ref d,.int (N:Int),.ref ln,.int (most:Int)]∧DeckAt H d c∧1≤N∧N≤24∧most≤36∧H ln=some (.lst (zs.map V.str))∧ln≠d∧ln≠c∧zs.length≤60∧zs.Nodup∧(∀z∈zs,NameOk z)∧∀(tp:Addr) (rs:List Addr) (R:List R6) (H':Hp),But d c H H'→DeckAt H' d c→H' tp=some (.tup (rs.map V.ref))→RowsAt H' rs R→Stand N R→Q (.ref tp) H'
theorem at_last {xs:List V} {x:V}:atI (xs++[x]) (-1)=some x:=by
 have l:(xs++[x]).length=xs.length+1:=by rw [List.length_append];rfl
 unfold atI ixN
 rw [if_neg (by decide),if_pos (by rw [l];omega),l,show (-1+((xs.length+1:Nat):Int)).toNat=xs.length by omega]
 show (xs++[x])[xs.length]? =_
 rw [List.getElem?_append_right (Nat.le_refl _),Nat.sub_self];rfl
def StgAt (H:Hp) (N:Nat) (ss:List Addr) (no:List Addr):Prop:=∀l∈ss,l ∉ no∧∃ls:List Int,ls.length=N∧H l=some (.lst (ls.map V.int))
theorem StgAt.mono {H H':Hp} {N:Nat} {ss no:List Addr} (h:StgAt H N ss no) (f:∀l xs,l ∉ no→H l=some (.lst xs)→H' l=some (.lst xs)):StgAt H' N ss no:=fun l hl=>by
 obtain ⟨a,ls,b,e⟩:=h l hl
 exact ⟨a,ls,b,f _ _ a e⟩
section
variable {P:Program} {w:World} {K:PySem.W.Frag} {mg:Str→Option Value} {base:Heap}
theorem scLayered:A4 ["_law_deck_here","_law_many_here","_law_names_here","_law_most","_law_rooms","_law_ties","_law_stages","_law_layer","_law_turn","_law_one","_law_other","_law_levels","_law_rows_here","_law_name","_law_tie"] ["_law_deck_here","_law_many_here","_law_names_here","_law_most"] (Af sLayered):=⟨rfl,rfl,rfl,by decide+kernel,rfl,by decide+kernel,by decide+kernel⟩
theorem ok_Layered {f:Addr} {fd:FuncData} (F:Fun K "_law_layered" "_law_layered" sLayered f fd) (T:Txt mg)
  {gTake:Addr} {fTake:FuncData} (kTake:PySem.W.keepIn K (.ref gTake)=true) (bTake:Binds K fTake ["_law_deck_here","_law_most"] []) (hTake:mg "_law_take"=some (.ref gTake)) (GTake:FnOk P w K mg base CX0 3 gTake fTake ["_law_deck_here","_law_most"] spTake)
  {gMerged:Addr} {fMerged:FuncData} (kMerged:PySem.W.keepIn K (.ref gMerged)=true) (bMerged:Binds K fMerged ["_law_deck_here","_law_many_here","_law_layer","_law_room","_law_labels","_law_ties"] []) (hMerged:mg "_law_merged"=some (.ref gMerged)) (GMerged:FnOk P w K mg base CX0 3 gMerged fMerged ["_law_deck_here","_law_many_here","_law_layer","_law_room","_law_labels","_law_ties"] spMerged)
  {gWeight:Addr} {fWeight:FuncData} (kWeight:PySem.W.keepIn K (.ref gWeight)=true) (bWeight:Binds K fWeight ["_law_deck_here"] []) (hWeight:mg "_law_weight"=some (.ref gWeight)) (GWeight:FnOk P w K mg base CX0 3 gWeight fWeight ["_law_deck_here"] spWeight):
  FnOk P w K mg base CX0 4 f fd ["_law_deck_here","_law_many_here","_law_names_here","_law_most"] spLayered:=by
 refine F.ok scLayered (fun vs H Q E h=> ?_) (fun cdv A outer s H vs Q E hr h=> ?_)
 ·obtain ⟨_,_,_,_,_,_,rfl,_⟩:=h;rfl
 ·obtain ⟨d,c,ln,N,most,zs,rfl,hD,N1,N24,m36,hln,nnd,nnc,z60,znd,zok,k⟩:=h
  refine ⟨_,Ae (Au (i:=4) scLayered.nd rfl (Or.inl rfl) (Ch (Aa (pv 1) Ac)))
   (Ae (ps_while PassesOwn.never (Ao op_gt (A1 op_fdiv (Az Ax (pv 4) (pe_un un_neg Ag) (fun _ _=>rfl)) Ag) Ag (An _)) (Ah (Cp (pe_bm PySem.F.plainAttrs_list PySem.F.slot_list_append PySem.F.type_list_append Bu (pv 4) (Aa (A1 op_fdiv (Az Ax (pv 4) (pe_un un_neg Ag) (fun _ _=>rfl)) Ag) Ac)))))
   (Ae (Au (i:=5) scLayered.nd rfl (Or.inl rfl) (Ch Ac))
   (Ae (Au (i:=6) scLayered.nd rfl (Or.inr rfl) (Ch (Aa (A6 (call_list_rng rfl) (by rfl) T.list (by decide+kernel) (Aa (A6 call_range1 (by rfl) T.range (by decide+kernel) (Aa (pv 1) Ac)) Ac)) Ac)))
   (Ae (C3 PassesOwn.never rfl (pi_rangeD rfl T.range (Aa (A1 op_sub (Ak At (by rfl) T.len PySem.boot_len (Aa (pv 4) Ac)) Ag) (Aa (pe_un un_neg Ag) (Aa (pe_un un_neg Ag) Ac)))) (Aj (i:=7) scLayered.nd rfl (Or.inl rfl)) (Ah (Cp (pe_bm PySem.F.plainAttrs_list PySem.F.slot_list_append PySem.F.type_list_append Bu (pv 6) (Aa (Aq GMerged hr rfl hMerged kMerged bMerged .nil A5 (Aa (pv 0) (Aa (pv 1) (Aa (pv 7) (Aa (Az Ax (pv 4) (pv 7) (fun _ _=>rfl)) (Aa (Az Ax (pv 6) (pe_un un_neg Ag) (fun _ _=>rfl)) (Aa (pv 5) Ac))))))) Ac)))))
   (Ae (Au (i:=6) scLayered.nd rfl (Or.inr rfl) (pe_revZ (pv 6) (Ck Ag) (Ck (pe_un un_neg Ag)) (fun o i=>[o,i]) (fun _ _=>by with_unfolding_all rfl)))
   (Ae (C3 PassesOwn.never rfl (Cg rfl T.range (Aa (Aq GTake hr rfl hTake kTake bTake .nil A5 (Aa (pv 0) (Aa (A1 Bs (pv 3) Ag) Ac))) Ac)) (Aj (i:=8) scLayered.nd rfl (Or.inl rfl)) (Ae (Au (i:=9) scLayered.nd rfl (Or.inr rfl) (Aq GTake hr rfl hTake kTake bTake .nil A5 (Aa (pv 0) (Aa (pv 1) Ac))))
   (Ae (Au (i:=10) scLayered.nd rfl (Or.inr rfl) (A1 op_mod (A1 Bs (A1 Bs (pv 9) Ag) (Aq GTake hr rfl hTake kTake bTake .nil A5 (Aa (pv 0) (Aa (Ak (call_max2 rfl) (by rfl) T.max (by decide+kernel) (Aa Ag (Aa (A1 op_sub (pv 1) Ag) Ac))) Ac)))) (pv 1)))
   (Ae (ps_comp (i:=11) (T:=["_law_layer"]) (F:=["_law_one","_law_other","_law_stages"]) (js:=[9,10,6]) scLayered.nd rfl (Or.inl rfl) (CS.to (osc:=Af sLayered) ⟨by rfl,by decide+kernel,by decide+kernel,by decide+kernel,by decide+kernel,by decide+kernel,by decide+kernel⟩ rfl rfl) rfl (Cg rfl T.range (Aa (Ak At (by rfl) T.len PySem.boot_len (Aa (pv 4) Ac)) Ac)) (fun _ _ _ _ _=>Aj (i:=0) (show (["_law_layer","_law_one","_law_other","_law_stages"]:List Str).Nodup by decide+kernel) rfl (Or.inl rfl)) (fun _ _ _ _ _=>Cv (PW.pt (pw_and (Ao op_ne (pv 1) (pv 2) (An _)) (pw_and1 (Ao Cq (Az (r:=rIxL K) Ax (Az (r:=rIxL K) Ax (pv 3) (pv 0) (fun _ _=>rfl)) (pv 1) (fun _ _=>rfl)) (Az (r:=rIxL K) Ax (Az (r:=rIxL K) Ax (pv 3) (pv 0) (fun _ _=>rfl)) (pv 2) (fun _ _=>rfl)) (An _)))))) (fun _ _ _ _ _=>pv 0))
   (Ah (A8 (Ao (op_neNil hr.units) (pv 11) (Ch Ac) (An _)) (Ah (Cp (pe_bm PySem.F.plainAttrs_list PySem.F.slot_list_append PySem.F.type_list_append Bu (pv 5) (Aa (Bf (Aa (pv 9) (Aa (pv 10) (Aa (Az Ax (pv 11) (Aq GTake hr rfl hTake kTake bTake .nil A5 (Aa (pv 0) (Aa (Ak At (by rfl) T.len PySem.boot_len (Aa (pv 11) Ac)) Ac))) (fun _ _=>rfl)) (Aa Ci Ac))))) Ac)))) Av))))))
   (Ae (Au (i:=12) scLayered.nd rfl (Or.inl rfl) (Ch Ac))
   (Ae (C3 PassesOwn.never rfl (pi_zipL rfl T.zip (Aa (pv 2) (Aa (pv 5) Ac))) (pg_tup rfl (Ar (Aj (i:=13) scLayered.nd rfl (Or.inl rfl)) (Ar (Aj (i:=14) scLayered.nd rfl (Or.inl rfl)) Cc))) (Ah (Cp (pe_bm PySem.F.plainAttrs_list PySem.F.slot_list_append PySem.F.type_list_append Bu (pv 12) (Aa (A1 op_catTT (A1 op_catTT (A1 op_catTT (Bf (Aa (pv 13) Ac)) (C0 (r:=rSlTA K) sl_tupA (pv 14) po_none (Ck Ag))) (Bf (Aa (Aq GWeight hr rfl hWeight kWeight bWeight .nil A5 (Aa (pv 0) Ac)) Ac))) (C0 (r:=rSlTA K) sl_tupA (pv 14) (Ck Ag) po_none)) Ac)))))
   (Ah (As (A6 Bo (by rfl) T.tuple (by decide+kernel) (Aa (Ak Srt.call_sortedN (by rfl) T.sorted (by decide+kernel) (Aa (pv 12) Ac)) Ac)))))))))))),?_⟩
  refine ⟨_,rfl,small (by simp),fun ro hro=> ?_⟩
  have s1:=Ad (o:= .lst [.int (N:Int)]) hro
  have r1:=Ab (H:=H) (a:=ro) (o:= .lst [.int (N:Int)])
  generalize upd H ro (.lst [.int (N:Int)])=H1 at s1 r1
  dsimp only [gName,tSeq]
  refine while_gh (fun m σ H'=>∃(ns:List Int) (x:Int),σ=[some (.ref d),some (.int (N:Int)),some (.ref ln),some (.int (most:Int)),some (.ref ro),none,none,none,none,none,none,none,none,none,none]∧Same H H'∧H' ro=some (.lst ((ns++[x]).map V.int))∧((ns.length=0∧x≤24)∨(ns.length=1∧x≤12)∨(ns.length=2∧x≤6)∨(ns.length=3∧x≤3))∧m=x.toNat) (m0:=N) ⟨[],(N:Int),rfl,s1,r1,by simp;omega,by simp⟩ ?_ ?_
  ·rintro m σ H2 ⟨ns,x,rfl,s2,r2,hx,rfl⟩
   have al:atI ((ns++[x]).map V.int) (-1)=some (.int x):=by rw [List.map_append];exact at_last
   refine ⟨_,rfl,_,rfl,ro,_,_,_,rfl,rfl,SqL.of r2,al,_,_,rfl,rfl,⟨by decide,by decide⟩,_,_,rfl,rfl,_,rfl,Bp (fun g=> ?_) fun g=> ?_⟩
   ·have g:1<x / 2:=by simpa using g
    refine ⟨_,rfl,.inl ⟨rfl,_,SqL.of r2⟩,_,rfl,_,rfl,ro,_,_,_,rfl,rfl,SqL.of r2,al,_,_,rfl,rfl,⟨by decide,by decide⟩,ro,_,_,rfl,rfl,r2,Al (by simp;omega),?_⟩
    exact ⟨(x / 2).toNat,by omega,ns++[x],x / 2,rfl,Aw s2 hro,by rw [Ab,List.map_append (l₂:=[x / 2])];rfl,by rw [List.length_append,List.length_singleton];omega,rfl⟩
   ·clear s1 r1
    have rl:(ns++[x]).length≤4∧1≤(ns++[x]).length:=by rw [List.length_append,List.length_singleton];omega
    generalize ns++[x]=rm at r2 rl
    refine ⟨small (by simp),fun ti hti=> ?_⟩
    have s3:=s2.trans (Ad (o:= .lst []) hti)
    have r3:=Ad (o:= .lst []) hti _ _ r2
    have t3:=Ab (H:=H2) (a:=ti) (o:= .lst [])
    have D3:=hD.same s3
    have nro:ro≠ti:=Am r2 hti
    have nroD:=hD.nd hro
    have nroC:=hD.nc hro
    have ntd:=(hD.same s2).nd hti
    have ntc:=(hD.same s2).nc hti
    generalize upd H2 ti (.lst [])=H3 at s3 r3 t3 D3
    refine ⟨_,rfl,(N:Int),rfl,fun q hq=>⟨q,0,(N:Int),rfl,Ab,⟨by decide,by decide,by omega,by omega⟩,by omega,fun lb hlb=> ?_⟩⟩
    have s4:=(Ad (o:= .rng 0 (N:Int)) hq).trans (Ad (o:= .lst ((C6 0 ((N:Int) - 0).toNat).map V.int)) hlb)
    have lb4:=Ab (H:=upd H3 q (.rng 0 (N:Int))) (a:=lb) (o:= .lst ((C6 0 ((N:Int) - 0).toNat).map V.int))
    have fl:H3 lb=none:=none_of (Ad (o:= .rng 0 (N:Int)) hq) hlb
    generalize upd (upd H3 q (.rng 0 (N:Int))) lb (.lst ((C6 0 ((N:Int) - 0).toNat).map V.int))=H4 at s4 lb4
    have ll:(C6 0 ((N:Int) - 0).toNat).length=N:=by
     unfold C6
     simp
    generalize C6 0 ((N:Int) - 0).toNat=ls0 at lb4 ll
    refine ⟨small (by simp),fun sg hsg=> ?_⟩
    have s5:=s4.trans (Ad (o:= .lst [.ref lb]) hsg)
    have sg5:=Ab (H:=H4) (a:=sg) (o:= .lst [.ref lb])
    have lb5:=Ad (o:= .lst [.ref lb]) hsg _ _ lb4
    have nsl:lb≠sg:=Am lb4 hsg
    have fs:H3 sg=none:=none_of s4 hsg
    generalize upd H4 sg (.lst [.ref lb])=H5 at s5 sg5 lb5
    have D5:=D3.same s5
    have B5:But d c H H5:=But.of (s3.trans s5)
    have r5:=s5 _ _ r3
    have t5:=s5 _ _ t3
    have nsd:=D3.nd fs
    have nsc:=D3.nc fs
    have nst:sg≠ti:=(Am t3 fs).symm
    have nsr:sg≠ro:=(Am r3 fs).symm
    have st5:StgAt H5 N [lb] [d,c,ti,sg]:=fun l hl=>by
     rw [List.mem_singleton.mp hl]
     refine ⟨?_,ls0,ll,lb5⟩
     simp only [List.mem_cons,List.not_mem_nil,or_false,not_or]
     exact ⟨D3.nd fl,D3.nc fl,(Am t3 fl).symm,nsl⟩
    have nT:H ti=none:=none_of s2 hti
    have nS:H sg=none:=none_of s3 fs
    clear lb4 lb5 s4 s3 r3 t3 D3 fl fs nsl hlb hsg hq hti hro r2 s2 s5 ll
    refine ⟨_,rfl,ro,_,rfl,.inl (SqL.of r5),_,_,rfl,rfl,_,rfl,_,rfl,_,_,rfl,⟨by rw [List.length_map];omega,by rw [List.length_map];omega,by decide,by decide⟩,for_rangeD (fun i σ H'=>∃(u7:Option V) (ts:List Addr) (T:List M4) (ss:List Addr),σ=[some (.ref d),some (.int (N:Int)),some (.ref ln),some (.int (most:Int)),some (.ref ro),some (.ref ti),some (.ref sg),u7,none,none,none,none,none,none,none]∧But d c H H'∧DeckAt H' d c∧H' ro=some (.lst (rm.map V.int))∧H' ti=some (.lst (ts.map V.ref))∧M4At H' ts T∧T.length≤24 * i∧(∀x∈T,M4Ok N x)∧H' sg=some (.lst (ss.map V.ref))∧ss.length=i+1∧StgAt H' N ss [d,c,ti,sg]) ⟨none,[],[],[lb],rfl,B5,D5,r5,t5,⟨rfl,fun i r t e=>by simp at e⟩,Nat.le_refl _,by simp,sg5,rfl,st5⟩ ?_ ?_⟩
    ·rintro i σ H6 hi ⟨u7,ts,T,ss,rfl,B6,D6,r6,t6,M6,Tl,Tok,sg6,sl,st6⟩
     rw [List.length_map] at hi
     have hi:i<rm.length:=by omega
     obtain ⟨ss',l,rfl⟩:∃ss' l,ss=ss'++[l]:=by
      rcases List.eq_nil_or_concat ss with z|⟨ss',l,z⟩
      ·rw [z] at sl;simp at sl
      ·exact ⟨ss',l,by rw [z,List.concat_eq_append]⟩
     have al:atI ((ss'++[l]).map V.ref) (-1)=some (.ref l):=by rw [List.map_append];exact at_last
     obtain ⟨hno,ls,hls,hl⟩:=st6 l (by simp)
     have hno':=hno
     simp only [List.mem_cons,List.not_mem_nil,or_false,not_or] at hno
     have eL:((rm.map V.int).length:Int) - 1 - (i:Int)=((rm.length - 1 - i:Nat):Int):=by rw [List.length_map];omega
     have ar:atI (rm.map V.int) (((rm.map V.int).length:Int) - 1 - (i:Int))=some (.int rm[rm.length - 1 - i]):=by rw [eL];exact Ap (ixL (by omega))
     refine ⟨_,rfl,.inl ⟨rfl,_,SqL.of sg6⟩,_,rfl,_,rfl,_,rfl,_,rfl,_,rfl,ro,_,_,_,rfl,rfl,SqL.of r6,ar,_,rfl,_,rfl,sg,_,_,_,rfl,rfl,SqL.of sg6,al,_,rfl,d,c,l,ti,N,rm.length - 1 - i,_,_,ls,ts,T,rfl,eL,D6,N1,N24,by omega,hl,hls,hno.1,hno.2.1,t6,ntd,ntc,M6,by omega,Tok,fun lb' ls' ts' T' H7 b7 D7 e7 l7 t7 M7 q7 o7 f7=> ?_⟩
     have sg7:=b7 _ _ sg6 nsd nsc nst
     refine ⟨sg,_,_,rfl,rfl,sg7,Al (by rw [List.length_map];omega),?_⟩
     have kp:∀(r:Addr) (zs:List V) (o:HO),H7 r=some (.tup zs)→upd H7 sg o r=some (.tup zs):=fun r zs o e=>by rw [Ai (Cw e sg7 (by intro z;cases z))];exact e
     refine ⟨_,ts',T',(ss'++[l])++[lb'],rfl,fun b o e n1 n2=> ?_,D7.set nsd nsc,?_,?_,M7.mono fun r xs e=>kp r xs _ e,by omega,o7,by rw [Ab,List.map_append (l₂:=[lb'])];rfl,by rw [List.length_append,sl];rfl,fun l2 hl2=> ?_⟩
     ·rw [Ai (Am e nS)]
      exact b7 _ _ (B6 _ _ e n1 n2) n1 n2 (Am e nT)
     ·rw [Ai nsr.symm];exact b7 _ _ r6 nroD nroC nro
     ·rw [Ai nst.symm];exact t7
     ·have old:∀l2∈ss'++[l],l2 ∉ [d,c,ti,sg]∧∃ls:List Int,ls.length=N∧upd H7 sg (.lst ((ss'++[l]).map V.ref++[.ref lb'])) l2=some (.lst (ls.map V.int)):=fun l2 hl2=>by
       obtain ⟨h1,ls2,h2,h3⟩:=st6 l2 hl2
       have h1':=h1
       simp only [List.mem_cons,List.not_mem_nil,or_false,not_or] at h1'
       exact ⟨h1,ls2,h2,by rw [Ai h1'.2.2.2];exact b7 _ _ h3 h1'.1 h1'.2.1 h1'.2.2.1⟩
      rcases List.mem_append.mp hl2 with hl2|hl2
      ·exact old l2 hl2
      ·rw [List.mem_singleton.mp hl2]
       rcases f7 with rfl|f7
       ·exact old _ (by simp)
       ·have m1:=D6.nd f7
        have m2:=D6.nc f7
        have m3:lb'≠ti:=(Am t6 f7).symm
        have m4:lb'≠sg:=(Am sg6 f7).symm
        refine ⟨?_,ls',l7,by rw [Ai m4];exact e7⟩
        simp only [List.mem_cons,List.not_mem_nil,or_false,not_or]
        exact ⟨m1,m2,m3,m4⟩
    rintro σ H6 ⟨u7,ts,T,ss,rfl,B6,D6,r6,t6,M6,Tl,Tok,sg6,sl,st6⟩
    rw [List.length_map] at Tl sl
    have sl:ss.length=rm.length+1:=by omega
    have Tl:T.length≤96:=by omega
    refine ⟨_,rfl,_,rfl,_,rfl,_,rfl,rfl,rfl,sg,_,rfl,SqL.of sg6,by rw [List.length_map];omega,fun sv hsv=> ?_⟩
    have es:(ss.map V.ref).tail.reverse=ss.tail.reverse.map V.ref:=by rw [←List.map_tail,List.map_reverse]
    rw [es]
    have lv:ss.tail.reverse.length=rm.length:=by rw [List.length_reverse,List.length_tail,sl];rfl
    have sv5:StgAt H6 N ss.tail.reverse [d,c,ti,sg]:=fun l hl=>st6 l (List.mem_of_mem_tail (List.mem_reverse.mp hl))
    generalize ss.tail.reverse=sw at lv sv5
    have s7:=Ad (o:= .lst (sw.map V.ref)) hsv
    have sv7:=Ab (H:=H6) (a:=sv) (o:= .lst (sw.map V.ref))
    have B7:=B6.trans (But.of s7)
    have D7:=D6.same s7
    have r7:=s7 _ _ r6
    have t7:=s7 _ _ t6
    have M7:=M6.mono fun r xs e=>s7 _ _ e
    have st7:StgAt (upd H6 sv (.lst (sw.map V.ref))) N sw [d,c,ti,sg]:=sv5.mono fun l xs _ e=>s7 _ _ e
    have nvd:=D6.nd hsv
    have nvc:=D6.nc hsv
    have nvt:sv≠ti:=(Am t6 hsv).symm
    generalize upd H6 sv (.lst (sw.map V.ref))=H7 at sv7 B7 D7 r7 t7 M7 st7
    clear s7 hsv sv5 es B6 D6 r6 t6 M6 st6 sg6 sl sg5 st5 B5 D5 r5 t5
    refine ⟨_,rfl,_,rfl,_,_,rfl,rfl,d,c,_,rfl,D7,by omega,by omega,fun m H8 m0 m1 b8 D8=>⟨m,rfl,by omega,by omega,for_range (lo:=0) (n:=m.toNat) (fun i σ H'=>∃(u8 u9 u10 u11:Option V) (ts:List Addr) (T:List M4),σ=[some (.ref d),some (.int (N:Int)),some (.ref ln),some (.int (most:Int)),some (.ref ro),some (.ref ti),some (.ref sv),u7,u8,u9,u10,u11,none,none,none]∧But d c H H'∧DeckAt H' d c∧H' ro=some (.lst (rm.map V.int))∧H' ti=some (.lst (ts.map V.ref))∧M4At H' ts T∧T.length≤96+i∧(∀x∈T,M4Ok N x)∧H' sv=some (.lst (sw.map V.ref))∧StgAt H' N sw [d,c,ti,sg]) ⟨none,none,none,none,ts,T,rfl,B7.trans b8,D8,b8 _ _ r7 nroD nroC,b8 _ _ t7 ntd ntc,M7.mono (b8.tp D7),Tl,Tok,b8 _ _ sv7 nvd nvc,st7.mono fun l xs hn e=>b8 _ _ e (fun z=>hn (by simp [z])) fun z=>hn (by simp [z])⟩ ?_ ?_⟩⟩
    ·clear B7 D7 r7 t7 M7 st7 sv7 b8 D8 Tok Tl
     rintro i σ H9 hi ⟨u8,u9,u10,u11,ts,T,rfl,B9,D9,r9,t9,M9,Tl,Tok,sv9,st9⟩
     have hi:i<37:=by omega
     refine ⟨_,rfl,_,rfl,d,c,_,rfl,D9,by omega,by omega,fun x Ha x0 x1 ba Da=> ?_⟩
     obtain ⟨x,rfl⟩:=Cz x0
     refine ⟨_,rfl,_,_,rfl,rfl,_,rfl,_,rfl,_,_,rfl,rfl,_,_,rfl,d,c,_,rfl,Da,by split<;> omega,by split<;> omega,fun w Hb w0 w1 bb Db=>⟨_,_,rfl,rfl,_,rfl,_,_,rfl,rfl,by omega,?_⟩⟩
     dsimp only
     have y0:=Int.emod_nonneg ((x:Int)+1+w) (show (N:Int)≠0 by omega)
     have y1:=Int.emod_lt_of_pos ((x:Int)+1+w) (show (0:Int)<(N:Int) by omega)
     generalize ((x:Int)+1+w) % (N:Int)=y at y0 y1
     obtain ⟨y,rfl⟩:=Cz y0
     have bab:=ba.trans bb
     have rb:=bab _ _ r9 nroD nroC
     have svb:=bab _ _ sv9 nvd nvc
     have tb:=bab _ _ t9 ntd ntc
     have Mb:=M9.mono (bab.tp D9)
     have stb:StgAt Hb N sw [d,c,ti,sg]:=st9.mono fun l xs hn e=>bab _ _ e (fun z=>hn (by simp [z])) fun z=>hn (by simp [z])
     have Bb:=B9.trans bab
     clear bab ba bb Da r9 sv9 t9 M9 st9 B9 D9 w0 w1 x0 y0
     refine ⟨_,rfl,ro,_,rfl,.inl (SqL.of rb),_,rfl,by omega,by rw [List.length_map];omega,fun Dl hDl=>Cb (lo:=0) (n:=(rm.map V.int).length) (fun j σ ys H'=>∃(u:Option V) (lv:List Int),σ=[u,some (.int (x:Int)),some (.int (y:Int)),some (.ref sv)]∧ys=lv.map V.int∧Same Hb H'∧H' Dl=some (.lst ys)∧(∀z∈lv,0≤z∧z≤3)∧(lv≠[]→x≠y)∧lv.length≤j) ⟨none,[],rfl,rfl,Ad hDl,Ab,by simp,by simp,Nat.le_refl _⟩ (fun j σ ys H' _ ⟨_,_,_,_,_,e,_⟩=>e) ?_ ?_⟩
     ·rintro j σ ys Hc hj ⟨u,lv,rfl,rfl,sc,dc,lz,ln0,ll⟩
      rw [List.length_map] at hj
      refine ⟨_,rfl,_,rfl,rfl,_,rfl,Bp (fun g=> ?_) fun g=> ?_⟩
      ·have g:x≠y:=fun z=>by subst z;simp at g
       have hj':j<sw.length:=by omega
       obtain ⟨hno,ls,hls,hl⟩:=stb sw[j] (List.getElem_mem _)
       have aj:atI (sw.map V.ref) (0+(j:Int))=some (.ref sw[j]):=by rw [Int.zero_add];exact Ap (by rw [List.getElem?_map,C1 hj'];rfl)
       refine ⟨_,rfl,_,rfl,sv,_,_,_,rfl,rfl,SqL.of (sc _ _ svb),aj,_,rfl,sw[j],_,_,_,rfl,rfl,SqL.of (sc _ _ hl),Ap (ixL (by omega)),_,rfl,_,rfl,sv,_,_,_,rfl,rfl,SqL.of (sc _ _ svb),aj,_,rfl,sw[j],_,_,_,rfl,rfl,SqL.of (sc _ _ hl),Ap (ixL (by omega)),rfl,_,rfl,Bp (fun g2=> ?_) fun g2=> ?_⟩
       ·refine ⟨_,rfl,dc,Al (by rw [List.length_map];omega),_,lv++[0+(j:Int)],rfl,by rw [List.map_append];rfl,Aw sc hDl,Ab,fun z hz=> ?_,fun _=>g,by rw [List.length_append,List.length_singleton];omega⟩
        rcases List.mem_append.mp hz with hz|hz
        ·exact lz z hz
        ·rw [List.mem_singleton.mp hz];omega
       ·exact ⟨_,lv,rfl,rfl,sc,dc,lz,ln0,by omega⟩
      ·exact ⟨_,lv,rfl,rfl,sc,dc,lz,ln0,by omega⟩
     rintro σ ys Hc ⟨u,lv,rfl,rfl,sc,dc,lz,ln0,ll⟩
     rw [List.length_map] at ll
     have Dc:=Db.same sc
     have rc:=sc _ _ rb
     have svc:=sc _ _ svb
     have tc:=sc _ _ tb
     have Mc:=Mb.mono fun r xs e=>sc _ _ e
     have stc:StgAt Hc N sw [d,c,ti,sg]:=stb.mono fun l xs _ e=>sc _ _ e
     have Bc:=Bb.trans (But.of sc)
     have nDd:=Db.nd hDl
     have nDc:=Db.nc hDl
     have nDt:Dl≠ti:=(Am tb hDl).symm
     clear rb svb tb Mb stb Bb Db sc hDl
     refine ⟨_,rfl,small (by simp),fun q hq=> ?_⟩
     have sq:=Ad (o:= .lst []) hq
     have q1:=Ab (H:=Hc) (a:=q) (o:= .lst [])
     generalize upd Hc q (.lst [])=He at sq q1
     refine ⟨Dl,q,_,rfl,rfl,SqL.of (sq _ _ dc),SqL.of q1,_,rfl,Bp (fun g=> ?_) fun g=> ?_⟩
     ·have g:lv≠[]:=fun z=>by subst z;simp at g
      have l1:1≤lv.length:=List.length_pos_iff.mpr g
      refine ⟨_,rfl,.inl ⟨rfl,_,SqL.of (sq _ _ tc)⟩,_,rfl,_,rfl,_,rfl,_,rfl,_,rfl,Dl,_,rfl,.inl (SqL.of (sq _ _ dc)),d,c,_,rfl,Dc.same sq,by rw [List.length_map];omega,by rw [List.length_map];omega,fun v Hg v0 v1 bg Dg=> ?_⟩
      rw [List.length_map] at v1
      obtain ⟨v,rfl⟩:=Cz v0
      have hv:v<lv.length:=by omega
      have zv:=lz lv[v] (List.getElem_mem _)
      have bcg:=(But.of (d:=d) (c:=c) sq).trans bg
      refine ⟨Dl,_,_,_,rfl,rfl,SqL.of (bcg _ _ dc nDd nDc),Ap (ixL hv),small (by simp),fun r1 hr1=> ?_⟩
      obtain ⟨L,eL⟩:=Cz zv.1
      have L3:L≤3:=by omega
      rw [eL]
      have s3:=Ad (o:= .tup (m4V (x,y,L,false))) hr1
      have e3:=Ab (H:=Hg) (a:=r1) (o:= .tup (m4V (x,y,L,false)))
      have s3:Same Hg (upd Hg r1 (.tup [.int (x:Int),.int (y:Int),.int (L:Int),.bl false])):=s3
      have e3:upd Hg r1 (.tup [.int (x:Int),.int (y:Int),.int (L:Int),.bl false]) r1=some (.tup (m4V (x,y,L,false))):=e3
      generalize upd Hg r1 (.tup [.int (x:Int),.int (y:Int),.int (L:Int),.bl false])=H3 at s3 e3 ⊢
      have bc3:=bcg.trans (But.of s3)
      have t3:=bc3 _ _ tc ntd ntc
      refine ⟨ti,_,_,rfl,rfl,t3,Al (by rw [List.length_map,Mc.1];omega),?_⟩
      have kp:∀(r:Addr) (zs:List V) (o:HO),H3 r=some (.tup zs)→upd H3 ti o r=some (.tup zs):=fun r zs o e=>by rw [Ai (Cw e t3 (by intro z;cases z))];exact e
      refine ⟨_,_,_,_,ts++[r1],T++[(x,y,L,false)],rfl,fun b o e n1 n2=> ?_,(Dg.same s3).set ntd ntc,?_,by rw [Ab,List.map_append];rfl,(Mc.mono fun r xs e=>kp r xs _ (bc3.tp Dc _ _ e)).snoc (kp _ _ _ e3),by rw [List.length_append,List.length_singleton];omega,fun z hz=> ?_,?_,stc.mono fun l xs hn e=> ?_⟩
      ·rw [Ai (Am e nT)];exact bc3 _ _ (Bc _ _ e n1 n2) n1 n2
      ·rw [Ai nro];exact bc3 _ _ rc nroD nroC
      ·rcases List.mem_append.mp hz with hz|hz
       ·exact Tok z hz
       ·rw [List.mem_singleton.mp hz];exact ⟨show x<N by omega,show y<N by omega,ln0 g,L3⟩
      ·rw [Ai nvt];exact bc3 _ _ svc nvd nvc
      ·rw [Ai (fun z=>hn (by simp [z]))]
       exact bc3 _ _ e (fun z=>hn (by simp [z])) fun z=>hn (by simp [z])
     ·dsimp only [Bh]
      exact ⟨_,_,_,_,ts,T,rfl,Bc.trans (But.of sq),Dc.same sq,sq _ _ rc,sq _ _ tc,Mc.mono fun r xs e=>sq _ _ e,by omega,Tok,sq _ _ svc,stc.mono fun l xs _ e=>sq _ _ e⟩
    clear B7 D7 r7 t7 M7 st7 sv7 b8 D8 Tok Tl
    rintro σ H9 ⟨u8,u9,u10,u11,ts,T,rfl,B9,D9,r9,t9,M9,Tl,Tok,sv9,st9⟩
    clear r9 sv9 st9
    have ln9:=B9 _ _ hln nnd nnc
    refine ⟨small (by simp),fun rw' hrw=> ?_⟩
    have sr:=Ad (o:= .lst []) hrw
    have rw1:=Ab (H:=H9) (a:=rw') (o:= .lst [])
    have Ba:=B9.trans (But.of sr)
    have Da:=D9.same sr
    have ta:=sr _ _ t9
    have Ma:=M9.mono fun r xs e=>sr _ _ e
    have lna:=sr _ _ ln9
    have nrd:=D9.nd hrw
    have nrc:=D9.nc hrw
    have nrt:rw'≠ti:=(Am t9 hrw).symm
    have nrl:rw'≠ln:=(Am ln9 hrw).symm
    have nR:H rw'=none:=B9.none hD D9 hrw
    generalize upd H9 rw' (.lst [])=Ha at sr rw1 Ba Da ta Ma lna
    clear sr B9 D9 t9 M9 ln9 hrw
    refine ⟨_,rfl,_,rfl,ln,ti,_,_,rfl,SqL.of lna,SqL.of ta,for_zipL (K:=K) (a:=ln) (b:=ti) (xs:=zs.map V.str) (ys:=ts.map V.ref) (fun i σ H'=>∃(u13 u14:Option V) (rs:List Addr) (R:List R6),σ=[some (.ref d),some (.int (N:Int)),some (.ref ln),some (.int (most:Int)),some (.ref ro),some (.ref ti),some (.ref sv),u7,u8,u9,u10,u11,some (.ref rw'),u13,u14]∧But d c H H'∧DeckAt H' d c∧H' ln=some (.lst (zs.map V.str))∧H' ti=some (.lst (ts.map V.ref))∧M4At H' ts T∧H' rw'=some (.lst (rs.map V.ref))∧RowsAt H' rs R∧R.map (·.1.1)=zs.take i∧R.length=i∧∀x∈R,NameOk x.1.1∧(x.1.2.1<N∧x.1.2.2.1<N∧x.1.2.1≠x.1.2.2.1)∧(0≤x.1.2.2.2∧x.1.2.2.2≤1000000000)∧x.2.1≤3) ⟨none,none,[],[],rfl,Ba,Da,lna,ta,Ma,rw1,⟨rfl,fun i r t e=>by simp at e⟩,rfl,rfl,by simp⟩ (fun i σ H' _ _ ⟨_,_,_,_,_,_,_,a,b,_⟩=>⟨SqL.of a,SqL.of b⟩) ?_ ?_⟩
    ·clear Ba Da ta Ma lna rw1
     rintro i nx tx σ Hb Tt hnx htx ⟨u13,u14,rs,R,rfl,Bb,Db,lnb,tb,Mb,rwb,Rb,Rn,Rl,Rok⟩ hTt
     obtain ⟨n,hn,rfl⟩:=Ay hnx
     obtain ⟨r,hr0,rfl⟩:=Ay htx
     obtain ⟨x,hx,er⟩:=Mb.get hr0
     have zi:i<zs.length:=(List.getElem?_eq_some_iff.mp hn).1
     have nok:=zok n (List.mem_of_getElem? hn)
     have xok:=Tok x (List.mem_of_getElem? hx)
     have s0:=Ad (o:= .tup [.str n,.ref r]) hTt
     refine ⟨Tt,_,rfl,SqT.of Ab,rfl,_,_,rfl,_,_,rfl,rfl,?_⟩
     generalize upd Hb Tt (.tup [.str n,.ref r])=Hc at s0
     refine ⟨_,rfl,.inl ⟨rfl,_,SqL.of (s0 _ _ rwb)⟩,_,rfl,small (by simp),fun t1 ht1=> ?_⟩
     have s1:=s0.trans (Ad (o:= .tup [.str n]) ht1)
     have e1:=Ab (H:=Hc) (a:=t1) (o:= .tup [.str n])
     generalize upd Hc t1 (.tup [.str n])=Hd at s1 e1
     refine ⟨_,rfl,_,rfl,cut_any (s1 _ _ er) fun t2 He s2 e2=> ?_⟩
     rw [m4_lo] at e2
     refine cat_any (s2 _ _ e1) e2 (by show 1+2≤_;decide) fun t3 Hf s3 e3=> ?_
     have S3:=(s1.trans s2).trans s3
     refine ⟨_,rfl,d,c,rfl,Db.same S3,fun w Hg w0 w1 bg Dg=>⟨small (by simp),fun t4 ht4=> ?_⟩⟩
     have s4:=Ad (o:= .tup [.int w]) ht4
     have e4:=Ab (H:=Hg) (a:=t4) (o:= .tup [.int w])
     have D4:=Dg.same s4
     have B4:=bg.trans (But.of s4)
     generalize upd Hg t4 (.tup [.int w])=Hh at s4 e4 D4 B4
     refine cat_any (B4.tup (Db.same S3) e3) e4 (by show 1+2+1≤_;decide) fun t5 Hi s5 e5=> ?_
     refine ⟨_,rfl,_,rfl,cut_any (s5 _ _ (B4.tup (Db.same S3) (S3 _ _ er))) fun t6 Hj s6 e6=> ?_⟩
     rw [m4_hi] at e6
     refine cat_any (s6 _ _ e5) e6 (by show 1+2+1+2≤_;decide) fun t7 Hk s7 e7=> ?_
     have S7:=(s5.trans s6).trans s7
     have BB:But d c Hb Hk:=((But.of S3).trans B4).trans (But.of S7)
     have rwk:=BB _ _ rwb nrd nrc
     refine ⟨rw',_,_,rfl,rfl,rwk,Al (by rw [List.length_map,Rb.1];omega),?_⟩
     have kp:∀(r:Addr) (zs:List V) (o:HO),Hk r=some (.tup zs)→upd Hk rw' o r=some (.tup zs):=fun r zs o e=>by rw [Ai (Cw e rwk (by intro z;cases z))];exact e
     have e8:Hk t7=some (.tup (rowV ((n,x.1,x.2.1,w),x.2.2.1,x.2.2.2))):=e7
     refine ⟨_,_,rs++[t7],R++[((n,x.1,x.2.1,w),x.2.2.1,x.2.2.2)],rfl,fun b o e n1 n2=> ?_,(D4.same S7).set nrd nrc,?_,?_,Mb.mono fun r xs e=>kp _ _ _ (BB.tup Db e),by rw [Ab,List.map_append];rfl,(Rb.mono fun r xs e=>kp _ _ _ (BB.tup Db e)).snoc (kp _ _ _ e8),?_,by rw [List.length_append,Rl];rfl,fun y hy=> ?_⟩
     ·rw [Ai (Am e nR)];exact BB _ _ (Bb _ _ e n1 n2) n1 n2
     ·rw [Ai nrl.symm];exact BB _ _ lnb nnd nnc
     ·rw [Ai nrt.symm];exact BB _ _ tb ntd ntc
     ·rw [List.map_append,Rn,List.take_add_one,hn];rfl
     ·rcases List.mem_append.mp hy with hy|hy
      ·exact Rok y hy
      ·rw [List.mem_singleton.mp hy];exact ⟨nok,⟨xok.1,xok.2.1,xok.2.2.1⟩,⟨w0,w1⟩,xok.2.2.2⟩
    clear Ba Da ta Ma lna rw1
    rintro i σ Hb hi ⟨u13,u14,rs,R,rfl,Bb,Db,lnb,tb,Mb,rwb,Rb,Rn,Rl,Rok⟩
    have nd:(R.map (·.1.1)).Nodup:=by rw [Rn];exact List.Sublist.nodup (List.take_sublist _ _) znd
    have R60:R.length≤60:=by
     have:=congrArg List.length Rn
     rw [List.length_map,List.length_take] at this
     omega
    refine ⟨_,rfl,?_⟩
    dsimp only [tNil]
    show Srt.rSortN K [.ref rw'] Hb _
    refine sort_rowsL (K:=K) rwb Rb nd (by omega) fun l rs' R' hl Rb' pm up=> ?_
    refine ⟨l,_,rfl,.inl ⟨SqL.of Ab,fun tq htq=> ?_⟩⟩
    have s9:=(Ad (o:= .lst (rs'.map V.ref)) hl).trans (Ad (o:= .tup (rs'.map V.ref)) htq)
    exact k tq rs' R' _ (Bb.trans (But.of s9)) (Db.same s9) Ab (Rb'.mono fun r xs e=>s9 _ _ e) ⟨((pm.map _).nodup_iff).mpr nd,fun x hx=>Rok x (pm.mem_iff.mp hx),by rw [pm.length_eq];exact R60,up⟩
  ·intro σ H' Q1 Q2 f h
   obtain ⟨v,e,i2,e2,h⟩:=h
   obtain ⟨a1,a2,a3,a4,h1,h2,h3,h4,h⟩:=h
   obtain ⟨b1,b2,h5,h6,h7,h⟩:=h
   obtain ⟨c1,c2,h8,h9,t,ht,h⟩:=h
   exact ⟨v,e,i2,e2,⟨a1,a2,a3,a4,h1,h2,h3,h4,⟨b1,b2,h5,h6,h7,⟨c1,c2,h8,h9,t,ht,f _ _ h⟩⟩⟩⟩
end
def spStand:Sp:=fun vs H Q _=>∃(d c:Addr) (most:Nat),vs=[.ref d,.int (most:Int)]∧DeckAt H d c∧most≤36∧∀(r tp ln:Addr) (N:Nat) (rs:List Addr) (R:List R6) (zs:List Str) (H':Hp),But d c H H'→DeckAt H' d c→H' r=some (.tup [.int (N:Int),.ref tp,.ref ln])→1≤N→N≤24→H' tp=some (.tup (rs.map V.ref))→RowsAt H' rs R→Stand N R→H' ln=some (.lst (zs.map V.str))→zs.length=24+most→ln≠d→ln≠c→Q (.ref r) H'
section
variable {P:Program} {w:World} {K:PySem.W.Frag} {mg:Str→Option Value} {base:Heap}
theorem scStand:A4 ["_law_deck_here","_law_most","_law_many_here","_law_names_here"] ["_law_deck_here","_law_most"] (Af sStand):=⟨rfl,rfl,rfl,by decide+kernel,rfl,by decide+kernel,by decide+kernel⟩
theorem ok_Stand {f:Addr} {fd:FuncData} (F:Fun K "_law_stand" "_law_stand" sStand f fd) (T:Txt mg)
  {gMany:Addr} {fMany:FuncData} (kMany:PySem.W.keepIn K (.ref gMany)=true) (bMany:Binds K fMany ["_law_deck_here"] []) (hMany:mg "_law_many"=some (.ref gMany)) (GMany:FnOk P w K mg base CX0 4 gMany fMany ["_law_deck_here"] spMany)
  {gNames:Addr} {fNames:FuncData} (kNames:PySem.W.keepIn K (.ref gNames)=true) (bNames:Binds K fNames ["_law_deck_here","_law_many_here"] []) (hNames:mg "_law_names"=some (.ref gNames)) (GNames:FnOk P w K mg base CX0 4 gNames fNames ["_law_deck_here","_law_many_here"] spNames)
  {gLayered:Addr} {fLayered:FuncData} (kLayered:PySem.W.keepIn K (.ref gLayered)=true) (bLayered:Binds K fLayered ["_law_deck_here","_law_many_here","_law_names_here","_law_most"] []) (hLayered:mg "_law_layered"=some (.ref gLayered)) (GLayered:FnOk P w K mg base CX0 4 gLayered fLayered ["_law_deck_here","_law_many_here","_law_names_here","_law_most"] spLayered):
  FnOk P w K mg base CX0 5 f fd ["_law_deck_here","_law_most"] spStand:=by
 refine F.ok scStand (fun vs H Q E h=> ?_) (fun cdv A outer s H vs Q E hr h=> ?_)
 ·obtain ⟨_,_,_,rfl,_⟩:=h;rfl
 ·obtain ⟨d,c,most,rfl,hD,m36,k⟩:=h
  refine ⟨_,Ae (Au (i:=2) scStand.nd rfl (Or.inl rfl) (Aq GMany hr rfl hMany kMany bMany .nil A5 (Aa (pv 0) Ac)))
   (Ae (Au (i:=3) scStand.nd rfl (Or.inl rfl) (Aq GNames hr rfl hNames kNames bNames .nil A5 (Aa (pv 0) (Aa (A1 Bs Ag (pv 1)) Ac))))
   (Ah (As (Bf (Aa (pv 2) (Aa (Aq GLayered hr rfl hLayered kLayered bLayered .nil A5 (Aa (pv 0) (Aa (pv 2) (Aa (pv 3) (Aa (pv 1) Ac))))) (Aa (pv 3) Ac))))))),?_⟩
  refine ⟨_,rfl,d,c,rfl,hD,fun N H1 N1 N24 b1 D1=> ?_⟩
  refine ⟨_,rfl,_,rfl,_,_,rfl,rfl,d,c,24+most,?_,D1,by omega,fun ln zs H2 b2 D2 hl0 hl zl znd zok=> ?_⟩
  ·rw [show ((24+most:Nat):Int)=24+(most:Int) by omega];rfl
  have nd:ln≠d:=D1.nd hl0
  have nc:ln≠c:=D1.nc hl0
  refine ⟨_,rfl,_,rfl,_,rfl,_,rfl,_,rfl,d,c,ln,N,most,zs,rfl,D2,N1,N24,m36,hl,nd,nc,by omega,znd,zok,fun tp rs R H3 b3 D3 ht hR S=>⟨_,rfl,small (by simp),fun r hr=> ?_⟩⟩
  have s4:=Ad (o:= .tup [.int (N:Int),.ref tp,.ref ln]) hr
  exact k r tp ln N rs R zs _ (((b1.trans b2).trans b3).trans (But.of s4)) (D3.same s4) Ab N1 N24 (s4 _ _ ht) (hR.mono fun r xs e=>s4 _ _ e) S (s4 _ _ (b3 _ _ hl nd nc)) zl nd nc
end
end K38
namespace K38
open PySem L2 Wk
def foV:Option Str→V
 |none=> .non
 |some f=> .str f
def behF (L:Nat) (ps:List Nat) (ks:List Str) (fo:Option Str) (x:R6):R6:=
 if fo=some x.1.1 then (x.1,x.2.1,true) else if (x.2.2=true∧x.2.1=L∧x.1.2.1∈ps∧x.1.2.2.1∈ps)∨x.1.1∈ks then (x.1,x.2.1+1,x.2.2) else x
def psV (ps:List Nat):List V:=ps.map fun (p:Nat)=>V.int (p:Int)
structure ToldAt (H:Hp) (tl:Addr) (L:Nat) (ps:List Nat) (ks:List Str) (fo:Option Str):Prop where
 ex:∃pl lk:Addr,H tl=some (.tup [.int (L:Int),.ref pl,.ref lk,foV fo])∧H pl=some (.tup (psV ps))∧H lk=some (.tup (ks.map V.str))
theorem ToldAt.same {H H':Hp} {tl:Addr} {L:Nat} {ps:List Nat} {ks:List Str} {fo:Option Str} (h:ToldAt H tl L ps ks fo) (s:Same H H'):ToldAt H' tl L ps ks fo:=by
 obtain ⟨pl,lk,a,b,c⟩:=h.ex
 exact ⟨pl,lk,s _ _ a,s _ _ b,s _ _ c⟩
def spBehind:Sp:=fun vs H Q _=>∃(r tl:Addr) (x:R6) (L:Nat) (ps:List Nat) (ks:List Str) (fo:Option Str),vs=[.ref r,.ref tl]∧H r=some (.tup (rowV x))∧ToldAt H tl L ps ks fo∧∀(r':Addr) (H':Hp),Same H H'→H' r'=some (.tup (rowV (behF L ps ks fo x)))→Q (.ref r') H'
def tWith:TS:=fun D σ H=>∃(r tl pl lk:Addr) (x:R6) (L:Nat) (ps:List Nat) (ks:List Str) (fo:Option Str) (b:Bool),σ=[some (.ref r),some (.ref tl),some (.int (L:Int)),some (.ref pl),some (.ref lk),some (foV fo),some (.str x.1.1),some (.int (x.1.2.1:Int)),some (.int (x.1.2.2.1:Int)),some (.int x.1.2.2.2),some (.int (x.2.1:Int)),some (.bl x.2.2),some (.bl b)]∧H r=some (.tup (rowV x))∧H lk=some (.tup (ks.map V.str))∧fo≠some x.1.1∧(b=true↔x.2.2=true∧x.2.1=L∧x.1.2.1∈ps∧x.1.2.2.1∈ps)∧∀(r':Addr) (H':Hp),Same H H'→H' r'=some (.tup (rowV (behF L ps ks fo x)))→D.rt (.ref r') H'
theorem psV_flat (ps:List Nat):(psV ps).all flatV=true:=by
 rw [List.all_eq_true]
 intro x hx
 obtain ⟨z,_,rfl⟩:=List.mem_map.mp hx
 rfl
theorem strs_fl (zs:List Str):(zs.map V.str).all flatV=true:=by
 rw [List.all_eq_true]
 intro x hx
 obtain ⟨z,_,rfl⟩:=List.mem_map.mp hx
 rfl
theorem inV_ps (p:Nat) (ps:List Nat):inV (.int (p:Int)) (psV ps)=decide (p∈ps):=by
 unfold inV psV
 rw [List.any_map,Bool.eq_iff_iff,decide_eq_true_eq,List.any_eq_true]
 constructor
 ·rintro ⟨q,hq,e⟩
  have e:eqV (.int (q:Int)) (.int (p:Int))=true:=e
  have:(q:Int)=(p:Int):=by simpa [eqV] using e
  rw [←Int.ofNat.inj this];exact hq
 ·intro h
  exact ⟨p,h,by show eqV (.int (p:Int)) (.int (p:Int))=true;simp [eqV]⟩
section
variable {P:Program} {w:World} {K:PySem.W.Frag} {mg:Str→Option Value} {base:Heap}
theorem scBehind:A4 ["row","told","layer","places","looked","found","name","one","other","weight","at","kept","lies_within"] ["row","told"] (Af sBehind):=⟨rfl,rfl,rfl,by decide+kernel,rfl,by decide+kernel,by decide+kernel⟩
theorem ok_Behind {f:Addr} {fd:FuncData} (F:Fun K "row_behind" "row_behind" sBehind f fd) (T:Txt mg):
  FnOk P w K mg base CX0 1 f fd ["row","told"] spBehind:=by
 refine F.ok scBehind (fun vs H Q E h=> ?_) (fun cdv A outer s H vs Q E hr h=> ?_)
 ·obtain ⟨_,_,_,_,_,_,_,rfl,_⟩:=h;rfl
 ·obtain ⟨r,tl,x,L,ps,ks,fo,rfl,hr0,T1,k⟩:=h
  refine ⟨_,Ae (ps_asg (pv 1) (pg_tup rfl (Ar (Aj (i:=2) scBehind.nd rfl (Or.inl rfl)) (Ar (Aj (i:=3) scBehind.nd rfl (Or.inl rfl)) (Ar (Aj (i:=4) scBehind.nd rfl (Or.inl rfl)) (Ar (Aj (i:=5) scBehind.nd rfl (Or.inl rfl)) Cc))))))
   (Ae (ps_asg (pv 0) (pg_tup rfl (Ar (Aj (i:=6) scBehind.nd rfl (Or.inl rfl)) (Ar (Aj (i:=7) scBehind.nd rfl (Or.inl rfl)) (Ar (Aj (i:=8) scBehind.nd rfl (Or.inl rfl)) (Ar (Aj (i:=9) scBehind.nd rfl (Or.inl rfl)) (Ar (Aj (i:=10) scBehind.nd rfl (Or.inl rfl)) (Ar (Aj (i:=11) scBehind.nd rfl (Or.inl rfl)) Cc))))))))
   (Ae (A8 (Ao Cq (pv 6) (pv 5) (An _)) (Ah (As (Bf (Aa (pv 6) (Aa (pv 7) (Aa (pv 8) (Aa (pv 9) (Aa (pv 10) (Aa Ci Ac))))))))) Av)
   (Ae (Au (i:=12) scBehind.nd rfl (Or.inl rfl) (Ca (pv 11) (Ca (A7 Cq (pv 10) (pv 2) (An _)) (Ca (A7 op_in_seq (pv 7) (pv 3) (by rfl)) (C2 (A7 op_in_seq (pv 8) (pv 3) (by rfl)))))))
   (PSs.imp' (t':=tWith) (Ae (A8 (PW.pt (Co (A9 (pv 12)) (By (Ao op_in_seq (pv 6) (pv 4) (by rfl))))) (Ah (As (Bf (Aa (pv 6) (Aa (pv 7) (Aa (pv 8) (Aa (pv 9) (Aa (A1 Bs (pv 10) Ag) (Aa (pv 11) Ac))))))))) Av)
   (Ah (As (pv 0)))) ?rest)))),?_⟩
  case rest=>
   clear hr0 T1 k
   rintro D σ H ⟨r,tl,pl,lk,x,L,ps,ks,fo,b,rfl,h0,e3,nf,hb,k⟩
   have fin:∀{y:R6} {r':Addr} {H':Hp},behF L ps ks fo x=y→Same H H'→H' r'=some (.tup (rowV y))→D.rt (.ref r') H':=fun e s h=>k _ _ s (by rw [e];exact h)
   have up:b=true∨x.1.1∈ks→∀(q:Addr),H q=none→D.rt (.ref q) (upd H q (.tup [.str x.1.1,.int (x.1.2.1:Int),.int (x.1.2.2.1:Int),.int x.1.2.2.2,.int ((x.2.1:Int)+1),.bl x.2.2])):=fun z q hq=>by
    refine fin (y:=(x.1,x.2.1+1,x.2.2)) ?_ (Ad hq) Ab
    unfold behF
    rw [if_neg nf,if_pos (by rw [←hb];exact z)]
   refine ⟨_,rfl,_,rfl,Bp (fun g=> ?_) fun g=> ?_⟩
   ·exact ⟨_,rfl,_,rfl,_,rfl,_,rfl,_,rfl,_,_,rfl,rfl,_,rfl,small (by simp),fun q hq=>up (.inl g) q hq⟩
   ·refine ⟨_,rfl,_,rfl,lk,_,rfl,.inr (SqT.of e3),rfl,strs_fl _,_,rfl,Bp (fun g2=> ?_) fun g2=> ?_⟩
    ·have g2:x.1.1∈ks:=by
      rw [if_neg (by decide),inV_strs] at g2
      simpa using g2
     exact ⟨_,rfl,_,rfl,_,rfl,_,rfl,_,rfl,_,_,rfl,rfl,_,rfl,small (by simp),fun q hq=>up (.inr g2) q hq⟩
    ·have g2:x.1.1 ∉ ks:=by
      rw [if_neg (by decide),inV_strs] at g2
      simpa using g2
     dsimp only [Bh]
     refine ⟨_,rfl,fin (y:=x) ?_ (Cd _) h0⟩
     unfold behF
     rw [if_neg nf,if_neg (by rw [←hb];rintro (z|z);exact g z;exact g2 z)]
  obtain ⟨pl,lk,e1,e2,e3⟩:=T1.ex
  refine ⟨_,rfl,tl,_,rfl,SqT.of e1,rfl,_,_,rfl,_,_,rfl,_,_,rfl,_,_,rfl,rfl,?_⟩
  refine ⟨_,rfl,r,_,rfl,SqT.of hr0,rfl,_,_,rfl,_,_,rfl,_,_,rfl,_,_,rfl,_,_,rfl,_,_,rfl,rfl,?_⟩
  have fin:∀{y:R6} {r':Addr} {H':Hp},behF L ps ks fo x=y→Same H H'→H' r'=some (.tup (rowV y))→Q (.ref r') H':=fun e s h=>k _ _ s (by rw [e];exact h)
  refine ⟨_,rfl,_,rfl,(by cases fo<;> rfl),_,rfl,Bp (fun g=> ?_) fun g=> ?_⟩
  ·have g:fo=some x.1.1:=by
    cases fo with
    |none=>exact absurd g (by simp [foV])
    |some f=>
     have:V.str x.1.1=V.str f:=by simpa [foV] using g
     rw [V.str.inj this]
   refine ⟨_,rfl,_,rfl,_,rfl,_,rfl,_,rfl,small (by simp),fun q hq=> ?_⟩
   exact fin (y:=(x.1,x.2.1,true)) (if_pos g) (Ad hq) Ab
  have g:¬fo=some x.1.1:=fun z=>by subst z;simp [foV] at g
  dsimp only [Bh]
  have out:∀b:Bool,(b=true↔x.2.2=true∧x.2.1=L∧x.1.2.1∈ps∧x.1.2.2.1∈ps)→tWith {nx:=fun x H'=>Q V.non H',rt:=Q} [some (.ref r),some (.ref tl),some (.int (L:Int)),some (.ref pl),some (.ref lk),some (foV fo),some (.str x.1.1),some (.int (x.1.2.1:Int)),some (.int (x.1.2.2.1:Int)),some (.int x.1.2.2.2),some (.int (x.2.1:Int)),some (.bl x.2.2),some (.bl b)] H:=fun b hb=>⟨r,tl,pl,lk,x,L,ps,ks,fo,b,rfl,hr0,e3,g,hb,k⟩
  have i1:∀p:Nat,(if false=true then !inV (.int (p:Int)) (psV ps) else inV (.int (p:Int)) (psV ps))=decide (p∈ps):=fun p=>by rw [if_neg (by decide)];exact inV_ps p ps
  refine ⟨_,rfl,_,rfl,Bp (fun g1=> ?_) fun g1=> ?_⟩
  ·refine ⟨_,rfl,_,rfl,rfl,_,rfl,Bp (fun g2=> ?_) fun g2=> ?_⟩
   ·have g2:x.2.1=L:=by
     have:=of_decide_eq_true g2
     exact Int.ofNat.inj (V.int.inj this)
    refine ⟨_,rfl,_,rfl,pl,_,rfl,.inr (SqT.of e2),rfl,psV_flat _,?_⟩
    rw [i1]
    refine ⟨_,rfl,Bp (fun g3=> ?_) fun g3=> ?_⟩
    ·have g3:x.1.2.1∈ps:=of_decide_eq_true g3
     refine ⟨_,rfl,_,rfl,pl,_,rfl,.inr (SqT.of e2),rfl,psV_flat _,?_⟩
     rw [i1]
     exact out _ ⟨fun z=>⟨g1,g2,g3,of_decide_eq_true z⟩,fun z=>decide_eq_true z.2.2.2⟩
    ·exact out _ ⟨fun z=>(by cases z),fun z=>absurd (decide_eq_true z.2.2.1) g3⟩
   ·exact out _ ⟨fun z=>(by cases z),fun z=>absurd (by rw [z.2.1];exact decide_eq_true rfl) g2⟩
  ·exact out _ ⟨fun z=>(by cases z),fun z=>absurd z.1 g1⟩
end
end K38
namespace K38
open PySem L2 Wk
def spBehinds:Sp:=fun vs H Q _=>∃(tp tl:Addr) (rs:List Addr) (R:List R6) (L:Nat) (ps:List Nat) (ks:List Str) (fo:Option Str),vs=[.ref tp,.ref tl]∧H tp=some (.tup (rs.map V.ref))∧RowsAt H rs R∧R.length≤60∧ToldAt H tl L ps ks fo∧∀(tq:Addr) (qs:List Addr) (H':Hp),Same H H'→H' tq=some (.tup (qs.map V.ref))→RowsAt H' qs (R.map (behF L ps ks fo))→Q (.ref tq) H'
section
variable {P:Program} {w:World} {K:PySem.W.Frag} {mg:Str→Option Value} {base:Heap}
theorem scBehinds:A4 ["rows","told"] ["rows","told"] (Af sBehinds):=⟨rfl,rfl,rfl,by decide+kernel,rfl,by decide+kernel,by decide+kernel⟩
theorem ok_Behinds {f:Addr} {fd:FuncData} (F:Fun K "rows_behind" "rows_behind" sBehinds f fd) (T:Txt mg)
  {gBehind:Addr} {fBehind:FuncData} (kBehind:PySem.W.keepIn K (.ref gBehind)=true) (bBehind:Binds K fBehind ["row","told"] []) (hBehind:mg "row_behind"=some (.ref gBehind)) (GBehind:FnOk P w K mg base CX0 1 gBehind fBehind ["row","told"] spBehind):
  FnOk P w K mg base CX0 2 f fd ["rows","told"] spBehinds:=by
 refine F.ok scBehinds (fun vs H Q E h=> ?_) (fun cdv A outer s H vs Q E hr h=> ?_)
 ·obtain ⟨_,_,_,_,_,_,_,_,rfl,_⟩:=h;rfl
 ·obtain ⟨tp,tl,rs,R,L,ps,ks,fo,rfl,ht,hR,R60,T1,k⟩:=h
  refine ⟨_,Ah (As (A6 Bo (by rfl) T.tuple (by decide+kernel) (Aa (Bn (T:=["row"]) (F:=["told"]) (js:=[1]) (CS.to (osc:=Af sBehinds) ⟨by rfl,by decide+kernel,by decide+kernel,by decide+kernel,by decide+kernel,by decide+kernel,by decide+kernel⟩ rfl rfl) rfl (pi_tup (pv 0)) (fun _ _ _ _ _=>Aj (i:=0) (show (["row","told"]:List Str).Nodup by decide+kernel) rfl (Or.inl rfl)) (fun _ _ _ _ _=>Br) (fun _ _ _ _ _=>Aq GBehind hr rfl hBehind kBehind bBehind .nil A5 (Aa (pv 0) (Aa (pv 1) Ac)))) Ac))),?_⟩
  refine ⟨_,rfl,tp,rfl,⟨_,SqT.of ht⟩,fun D hD=>C7 (K:=K) (a:=tp) (xs:=rs.map V.ref) (fun j σ ys H2=>∃(u:Option V) (qs:List Addr),σ=[u,some (.ref tl)]∧ys=qs.map V.ref∧Same H H2∧H2 D=some (.lst ys)∧RowsAt H2 qs ((R.take j).map (behF L ps ks fo))) ⟨none,[],rfl,rfl,Ad hD,Ab,rfl,fun i r t e=>by simp at e⟩ (fun j σ ys H2 _ ⟨_,_,_,_,s,e,_⟩=>⟨SqT.of (s _ _ ht),e⟩) ?_ ?_⟩
  ·rintro j x σ ys H2 hx ⟨u,qs,rfl,rfl,s2,d2,p2⟩
   obtain ⟨r,er,rfl⟩:=Ay hx
   obtain ⟨y,ey,hy⟩:=hR.get er
   have ql:qs.length≤60:=by rw [p2.1,List.length_map,List.length_take];omega
   refine ⟨_,rfl,_,rfl,r,tl,y,L,ps,ks,fo,rfl,s2 _ _ hy,T1.same s2,fun r' H3 s3 e3=> ?_⟩
   have d3:=s3 _ _ d2
   have kp:∀(r:Addr) (zs:List V) (o:HO),H3 r=some (.tup zs)→upd H3 D o r=some (.tup zs):=fun r zs o e=>by rw [Ai (Cw e d3 (by intro z;cases z))];exact e
   refine ⟨d3,Al (by rw [List.length_map];omega),_,qs++[r'],rfl,by rw [List.map_append];rfl,Aw (s2.trans s3) hD,Ab,?_⟩
   rw [List.take_add_one,ey,List.map_append]
   exact (p2.mono fun r zs e=>kp r zs _ (s3 _ _ e)).snoc (kp _ _ _ e3)
  rintro σ ys H2 ⟨u,qs,rfl,rfl,s2,d2,p2⟩
  rw [List.length_map,hR.1,List.take_length] at p2
  refine ⟨D,_,rfl,.inl ⟨SqL.of d2,fun tq htq=> ?_⟩⟩
  exact k tq qs _ (s2.trans (Ad htq)) Ab (p2.mono fun r xs e=>Ad htq _ _ e)
end
end K38
namespace K38
open PySem L2 Wk
theorem pi_tupK {X:Cx} {tg l:Expr} {tl:TE} (K:PySem.W.Frag) (hK:X.K=K) (hl:PE X l tl):PI X tg l (iTup K tl):=by subst hK;exact pi_tup hl
def rLenX (K:PySem.W.Frag):List V→Hp→VK→Prop:=fun xs H Q=>∃p ys,xs=[.ref p]∧(SqL K H p ys∨SqT K H p ys)∧Q (.int ys.length) H
def looF (R:List R6) (L:Nat):List R6:=R.filter fun x=>decide (x.2.1=L) && !x.2.2
def cntF (ps:List Nat) (x:R6):Nat:=([x.1.2.1,x.1.2.2.1].filter fun p=>decide (p∈ps)).length
def Bv (R:List R6) (L:Nat) (ps:List Nat) (e:Nat):List Str:=((looF R L).filter fun x=>decide (cntF ps x=e)).map (·.1.1)
def spLoose:Sp:=fun vs H Q _=>∃(tp pl:Addr) (rs:List Addr) (R:List R6) (L e:Nat) (ps:List Nat),vs=[.ref tp,.int (L:Int),.ref pl,.int (e:Int)]∧H tp=some (.tup (rs.map V.ref))∧RowsAt H rs R∧R.length≤60∧H pl=some (.tup (psV ps))∧∀(l:Addr) (H':Hp),Same H H'→H' l=some (.lst ((Bv R L ps e).map V.str))→Q (.ref l) H'
theorem cut13 (x:R6):cutV (rowV x) (some 1) (some 3)=[.int (x.1.2.1:Int),.int (x.1.2.2.1:Int)]:=by
 unfold cutV rowV tieV;rfl
section
variable {P:Program} {w:World} {K:PySem.W.Frag} {mg:Str→Option Value} {base:Heap}
theorem scLoose:A4 ["rows","layer","places","ends","loose"] ["rows","layer","places","ends"] (Af sLoose):=⟨rfl,rfl,rfl,by decide+kernel,rfl,by decide+kernel,by decide+kernel⟩
theorem ok_Loose {f:Addr} {fd:FuncData} (F:Fun K "loose_names" "loose_names" sLoose f fd) (T:Txt mg):
  FnOk P w K mg base CX0 1 f fd ["rows","layer","places","ends"] spLoose:=by
 refine F.ok scLoose (fun vs H Q E h=> ?_) (fun cdv A outer s H vs Q E hr h=> ?_)
 ·obtain ⟨_,_,_,_,_,_,_,rfl,_⟩:=h;rfl
 ·obtain ⟨tp,pl,rs,R,L,e,ps,rfl,ht,hR,R60,hp,k⟩:=h
  refine ⟨_,Ae (ps_comp (i:=4) (T:=["row"]) (F:=["layer"]) (js:=[1]) scLoose.nd rfl (Or.inl rfl) (CS.to (osc:=Af sLoose) ⟨by rfl,by decide+kernel,by decide+kernel,by decide+kernel,by decide+kernel,by decide+kernel,by decide+kernel⟩ rfl rfl) rfl (pi_tup (pv 0)) (fun _ _ _ _ _=>Aj (i:=0) (show (["row","layer"]:List Str).Nodup by decide+kernel) rfl (Or.inl rfl)) (fun _ _ _ _ _=>Cv (PW.pt (pw_and (Ao Cq (Az (r:=rIxT K) Bz (pv 0) Ag (fun _ _=>rfl)) (pv 1) (An _)) (pw_and1 (Cs (A9 (Az (r:=rIxT K) Bz (pv 0) Ag (fun _ _=>rfl)))))))) (fun _ _ _ _ _=>pv 0))
   (Ah (As (Bn (T:=["row"]) (F:=["ends","places"]) (js:=[3,2]) (CS.to (osc:=Af sLoose) ⟨by rfl,by decide+kernel,by decide+kernel,by decide+kernel,by decide+kernel,by decide+kernel,by decide+kernel⟩ rfl rfl) rfl (B8 (pv 4)) (fun _ _ _ _ _=>Aj (i:=0) (show (["row","ends","places"]:List Str).Nodup by decide+kernel) rfl (Or.inl rfl)) (fun _ _ _ _ _=>Cv (Ao Cq (Ak (r:=rLenX K) At (by rfl) T.len PySem.boot_len (Aa (Bn (T:=["place"]) (F:=["places"]) (js:=[2]) (CS.to (osc:={kind:= .function,names:=[(".0",.local),("row",.local),("len",.globalImplicit),("ends",.cell),("places",.cell)],isGenerator:=false,isCoroutine:=false}) ⟨by rfl,by decide+kernel,by decide+kernel,by decide+kernel,by decide+kernel,by decide+kernel,by decide+kernel⟩ rfl rfl) rfl (pi_tupK K rfl (C0 (r:=rSlTA K) sl_tupA (pv 0) (Ck Ag) (Ck Ag))) (fun _ _ _ _ _=>Aj (i:=0) (show (["place","places"]:List Str).Nodup by decide+kernel) rfl (Or.inl rfl)) (fun _ _ _ _ _=>Cv (Ao (r:=rIn K false) op_in_seq (pv 0) (pv 1) (by rfl))) (fun _ _ _ _ _=>pv 0)) Ac)) (pv 1) (An _))) (fun _ _ _ _ _=>Az (r:=rIxT K) Bz (pv 0) Ag (fun _ _=>rfl))))),?_⟩
  refine ⟨_,rfl,tp,rfl,⟨_,SqT.of ht⟩,fun D hD=>C7 (K:=K) (a:=tp) (xs:=rs.map V.ref) (fun j σ ys H2=>∃(u:Option V) (qs:List Addr),σ=[u,some (.int (L:Int))]∧ys=qs.map V.ref∧Same H H2∧H2 D=some (.lst ys)∧RowsAt H2 qs (looF (R.take j) L)) ⟨none,[],rfl,rfl,Ad hD,Ab,rfl,fun i r t e=>by simp at e⟩ (fun j σ ys H2 _ ⟨_,_,_,_,s,e,_⟩=>⟨SqT.of (s _ _ ht),e⟩) ?_ ?_⟩
  ·rintro j x σ ys H2 hx ⟨u,qs,rfl,rfl,s2,d2,p2⟩
   obtain ⟨r,er,rfl⟩:=Ay hx
   obtain ⟨y,ey,hy⟩:=hR.get er
   have h2:=s2 _ _ hy
   have ql:qs.length≤60:=by
    rw [p2.1]
    refine Nat.le_trans (List.length_filter_le _ _) ?_
    rw [List.length_take];omega
   have tk:R.take (j+1)=R.take j++[y]:=by rw [List.take_add_one,ey];rfl
   have no:(decide (y.2.1=L) && !y.2.2)=false→looF (R.take (j+1)) L=looF (R.take j) L:=fun z=>by
    unfold looF
    rw [tk,List.filter_append,List.filter_cons_of_neg (by rw [z];decide),List.filter_nil,List.append_nil]
   refine ⟨_,rfl,r,_,4,_,rfl,rfl,SqT.of h2,Ap (j:=4) rfl,_,rfl,rfl,_,rfl,Bp (fun g=> ?_) fun g=> ?_⟩
   ·have g:y.2.1=L:=Int.ofNat.inj (V.int.inj (of_decide_eq_true g))
    refine ⟨_,rfl,r,_,5,_,rfl,rfl,SqT.of h2,Ap (j:=5) rfl,_,rfl,Bp (fun g2=> ?_) fun g2=> ?_⟩
    ·have kp:∀(r:Addr) (zs:List V) (o:HO),H2 r=some (.tup zs)→upd H2 D o r=some (.tup zs):=fun r zs o e=>by rw [Ai (Cw e d2 (by intro z;cases z))];exact e
     refine ⟨_,rfl,d2,Al (by rw [List.length_map];omega),_,qs++[r],rfl,by rw [List.map_append];rfl,Aw s2 hD,Ab,?_⟩
     unfold looF at p2 ⊢
     rw [tk,List.filter_append,List.filter_cons_of_pos (by rw [decide_eq_true g,g2];rfl)]
     exact (p2.mono fun r zs e=>kp r zs _ e).snoc (kp _ _ _ h2)
    ·refine ⟨_,qs,rfl,rfl,s2,d2,?_⟩
     rw [no (by cases h:y.2.2 with|true=>simp|false=>rw [h] at g2;exact absurd rfl g2)]
     exact p2
   ·refine ⟨_,qs,rfl,rfl,s2,d2,?_⟩
    rw [no (by rw [decide_eq_false (fun z=>g (by rw [z];exact decide_eq_true rfl))];rfl)]
    exact p2
  rintro σ ys H2 ⟨u,qs,rfl,rfl,s2,d2,p2⟩
  rw [List.length_map,hR.1,List.take_length] at p2
  have hp2:=s2 _ _ hp
  have l2:(looF R L).length≤60:=Nat.le_trans (List.length_filter_le _ _) R60
  refine ⟨_,rfl,D,rfl,⟨_,SqL.of d2⟩,fun E1 hE1=>Ce (K:=K) (a:=D) (xs:=qs.map V.ref) (fun j σ ys H3=>∃(u:Option V),σ=[u,some (.int (e:Int)),some (.ref pl)]∧ys=((((looF R L).take j).filter fun x=>decide (cntF ps x=e)).map (·.1.1)).map V.str∧Same H2 H3∧H3 E1=some (.lst ys)) ⟨none,rfl,rfl,Ad hE1,Ab⟩ (fun j σ ys H3 _ ⟨_,_,_,s,e⟩=>⟨SqL.of (s _ _ d2),e⟩) ?_ ?_⟩
  ·rintro j x σ ys H3 hx ⟨u,rfl,rfl,s3,d3⟩
   obtain ⟨r,er,rfl⟩:=Ay hx
   obtain ⟨y,ey,hy⟩:=p2.get er
   have h3:=s3 _ _ hy
   have hp3:=s3 _ _ hp2
   have tk:(looF R L).take (j+1)=(looF R L).take j++[y]:=by rw [List.take_add_one,ey];rfl
   have jl:(((((looF R L).take j).filter fun x=>decide (cntF ps x=e)).map (·.1.1)).map V.str).length≤60:=by
    rw [List.length_map,List.length_map]
    refine Nat.le_trans (List.length_filter_le _ _) ?_
    rw [List.length_take];omega
   refine ⟨_,rfl,_,rfl,_,rfl,cut_any h3 fun r4 H4 s4 e4=> ?_⟩
   rw [cut13] at e4
   have hp4:=s4 _ _ hp3
   have d4:=s4 _ _ d3
   refine ⟨r4,rfl,⟨_,SqT.of e4⟩,fun D2 hD2=>C7 (K:=K) (a:=r4) (xs:=[.int (y.1.2.1:Int),.int (y.1.2.2.1:Int)]) (fun i σ zs H5=>∃(u:Option V),σ=[u,some (.ref pl)]∧zs=(([y.1.2.1,y.1.2.2.1].take i).filter fun p=>decide (p∈ps)).map (fun (p:Nat)=>V.int (p:Int))∧Same H4 H5∧H5 D2=some (.lst zs)) ⟨none,rfl,rfl,Ad hD2,Ab⟩ (fun i σ zs H5 _ ⟨_,_,_,s,e⟩=>⟨SqT.of (s _ _ e4),e⟩) ?_ ?_⟩
   ·rintro i v σ zs H5 hv ⟨u2,rfl,rfl,s5,d5⟩
    obtain ⟨q,hq,rfl⟩:∃q:Nat,[y.1.2.1,y.1.2.2.1][i]? =some q∧v= .int (q:Int):=by
     match i,hv with
     |0,hv=>exact ⟨_,rfl,(Option.some.inj hv).symm⟩
     |1,hv=>exact ⟨_,rfl,(Option.some.inj hv).symm⟩
     |n+2,hv=>exact absurd hv (by simp)
    have tk2:[y.1.2.1,y.1.2.2.1].take (i+1)=[y.1.2.1,y.1.2.2.1].take i++[q]:=by rw [List.take_add_one,hq];rfl
    have l5:((([y.1.2.1,y.1.2.2.1].take i).filter fun p=>decide (p∈ps)).map (fun (p:Nat)=>V.int (p:Int))).length≤2:=by
     rw [List.length_map]
     refine Nat.le_trans (List.length_filter_le _ _) ?_
     rw [List.length_take]
     exact Nat.min_le_right _ _
    refine ⟨_,rfl,_,rfl,pl,_,rfl,.inr (SqT.of (s5 _ _ hp4)),rfl,psV_flat _,_,rfl,Bp (fun g=> ?_) fun g=> ?_⟩
    ·have g:q∈ps:=by rw [if_neg (by decide),inV_ps] at g;exact of_decide_eq_true g
     refine ⟨_,rfl,d5,Al (by omega),_,rfl,?_,Aw s5 hD2,Ab⟩
     rw [tk2,List.filter_append,List.filter_cons_of_pos (by simpa using g),List.map_append];rfl
    ·have g:q ∉ ps:=fun z=>g (by rw [if_neg (by decide),inV_ps];exact decide_eq_true z)
     refine ⟨_,rfl,?_,s5,?_⟩
     ·rw [tk2,List.filter_append,List.filter_cons_of_neg (by simpa using g),List.filter_nil,List.append_nil]
     ·exact d5
   rintro σ zs H5 ⟨u2,rfl,rfl,s5,d5⟩
   have ln:(((([y.1.2.1,y.1.2.2.1].take 2).filter fun p=>decide (p∈ps)).map (fun (p:Nat)=>V.int (p:Int))).length:Int)=((cntF ps y:Nat):Int):=by
    rw [List.length_map];rfl
   have h5:=s5 _ _ (s4 _ _ h3)
   have d6:=s5 _ _ d4
   refine ⟨D2,_,rfl,.inl (SqL.of d5),?_⟩
   refine ⟨_,rfl,rfl,_,rfl,Bp (fun g=> ?_) fun g=> ?_⟩
   ·have g:cntF ps y=e:=by
     have:=of_decide_eq_true g
     exact Int.ofNat.inj (ln.symm.trans (V.int.inj this))
    refine ⟨_,rfl,r,_,0,_,rfl,rfl,SqT.of h5,Ap (j:=0) rfl,d6,Al (by omega),_,rfl,?_,Aw (s3.trans (s4.trans s5)) hE1,Ab⟩
    rw [tk,List.filter_append,List.filter_cons_of_pos (by simpa using g),List.map_append,List.map_append];rfl
   ·have g:cntF ps y≠e:=fun z=>g (decide_eq_true (congrArg V.int (ln.trans (by rw [z]))))
    refine ⟨_,rfl,?_,s3.trans (s4.trans s5),?_⟩
    ·rw [tk,List.filter_append,List.filter_cons_of_neg (by simpa using g),List.filter_nil,List.append_nil]
    ·exact d6
  rintro σ ys H3 ⟨u,rfl,rfl,s3,d3⟩
  rw [List.length_map,p2.1,List.take_length] at d3
  exact k E1 H3 (s2.trans s3) d3
end
end K38
namespace L2
open PySem PySem.Spec PyProof.Rows
section
variable {X:Cx}
theorem num_at (ys:Array (Int×Tok)) {i:Nat} (h:i<ys.size):∃t,(intItems ys)[i]? =some (.int (numAt ys i) t)∧(ys.toList.map (·.1))[i]? =some (numAt ys i):=by
 refine ⟨ys[i].2,?_,?_⟩
 ·unfold intItems numAt
  simp [h]
 ·unfold numAt
  simp [h]
theorem call_minL (hc:X.calm=true):CallR X (.builtin "min") (fun xs H Q=>∃(p:Addr) (ns:List Int),xs=[.ref p]∧SqL X.K H p (ns.map V.int)∧ns≠[]∧∀m,m∈ns→(∀n∈ns,m≤n)→Q (.int m) H):=by
 intro pins s σ H xs us Q I r h
 obtain ⟨p,ns,rfl,hq,hne,q⟩:=h
 obtain ⟨u,rfl,rx⟩:=vals1 r
 cases rx
 obtain ⟨its,rv,hl,hz⟩:=I.list hq
 have hi:=intsAre_of rv
 obtain ⟨ys,e⟩:=hi.allInts.items
 have hl':=hl.isList
 rw [e] at hl'
 have e2:ys.toList.map (·.1)=ns:=by
  have q2:=nums_intItems ys
  rw [←e] at q2
  rw [←q2]
  exact hi.numsOf
 have sz:ys.size=ns.length:=by rw [←e2];simp
 have pos:0<ys.size:=by rw [sz];exact List.length_pos_iff.mpr hne
 refine min_intList (I.ok.hd hc) hl' pos fun v h' tk hv hk=> ?_
 obtain ⟨b1,b2⟩:=argBest_lt (numAt ys) (ys.size - 1)
 obtain ⟨t,g1,g2⟩:=num_at ys (i:=argBest (fun i j=>decide (numAt ys i<numAt ys j)) (ys.size - 1)) (by omega)
 rw [g1] at hv
 cases hv
 rw [e2] at g2
 refine ⟨.int _,H,I.kept hk,⟨t,rfl⟩,q _ (List.mem_of_getElem? g2) fun n hn=> ?_⟩
 obtain ⟨j,hj,rfl⟩:=List.mem_iff_getElem.mp hn
 obtain ⟨_,_,g3⟩:=num_at ys (i:=j) (by omega)
 rw [e2,List.getElem?_eq_getElem hj] at g3
 rw [Option.some.inj g3]
 exact b2 j (by omega)
end
end L2
namespace K38
open PySem L2 Wk
def PtA (H:Hp) (qs:List Addr) (P:List (List Nat)):Prop:=qs.length=P.length∧∀(i:Nat) r x,qs[i]? =some r→P[i]? =some x→H r=some (.tup (psV x))
theorem PtA.same {H H':Hp} {qs:List Addr} {P:List (List Nat)} (h:PtA H qs P) (s:∀r xs,H r=some (.tup xs)→H' r=some (.tup xs)):PtA H' qs P:=⟨h.1,fun i r x a b=>s _ _ (h.2 i r x a b)⟩
theorem PtA.get {H:Hp} {qs:List Addr} {P:List (List Nat)} (h:PtA H qs P) {i:Nat} {r:Addr} (hr:qs[i]? =some r):∃x,P[i]? =some x∧H r=some (.tup (psV x)):=by
 have hi:i<P.length:=by rw [←h.1];exact (List.getElem?_eq_some_iff.mp hr).1
 exact ⟨P[i],C1 hi,h.2 i r _ hr (C1 hi)⟩
theorem PtA.snoc {H:Hp} {qs:List Addr} {P:List (List Nat)} {r:Addr} {x:List Nat} (h:PtA H qs P) (hr:H r=some (.tup (psV x))):PtA H (qs++[r]) (P++[x]):=by
 refine ⟨by rw [List.length_append,List.length_append,h.1];rfl,fun i r0 p0 e1 e2=> ?_⟩
 rw [List.getElem?_append] at e1 e2
 rw [h.1] at e1
 split at e1
 ·rename_i z
  rw [if_pos z] at e2
  exact h.2 i r0 p0 e1 e2
 ·rename_i z
  rw [if_neg z] at e2
  have hz:i - P.length=0:=by
   have:=(List.getElem?_eq_some_iff.mp e1).1
   simp only [List.length_cons,List.length_nil] at this
   omega
  rw [hz] at e1 e2
  cases e1
  cases e2
  exact hr
theorem psV_eq (ps:List Nat):(ps.map Int.ofNat).map V.int=psV ps:=by unfold psV;rw [List.map_map];rfl
def twoF (N:Nat) (S:List T4) (x:R6):List (List Nat):=[Ct N S x.1.2.1,Ct N S x.1.2.2.1]
def Cj (N:Nat) (S:List T4) (x:R6):List Nat:=if (Ct N S x.1.2.1).length≤(Ct N S x.1.2.2.1).length then Ct N S x.1.2.1 else Ct N S x.1.2.2.1
theorem least_head {N:Nat} {S:List T4} {x:R6} {m:Nat} (hm:m∈(twoF N S x).map List.length) (hl:∀n∈(twoF N S x).map List.length,m≤n):∃rest,(twoF N S x).filter (fun p=>decide (p.length=m))=Cj N S x::rest:=by
 unfold twoF Cj at *
 simp only [List.map_cons,List.map_nil,List.mem_cons,List.not_mem_nil,or_false] at hm hl
 have h1:=hl _ (.inl rfl)
 have h2:=hl _ (.inr rfl)
 by_cases g:(Ct N S x.1.2.1).length=m
 ·rw [List.filter_cons_of_pos (by simpa using g),if_pos (by omega)]
  exact ⟨_,rfl⟩
 ·have g2:(Ct N S x.1.2.2.1).length=m:=by omega
  rw [List.filter_cons_of_neg (by simpa using g),List.filter_cons_of_pos (by simpa using g2),if_neg (by omega)]
  exact ⟨_,rfl⟩
theorem pair_at {y:R6} {i:Nat} {v:V} (hv:([.int (y.1.2.1:Int),.int (y.1.2.2.1:Int)]:List V)[i]? =some v):∃q:Nat,[y.1.2.1,y.1.2.2.1][i]? =some q∧v= .int (q:Int):=by
 match i,hv with
 |0,hv=>exact ⟨_,rfl,(Option.some.inj hv).symm⟩
 |1,hv=>exact ⟨_,rfl,(Option.some.inj hv).symm⟩
 |n+2,hv=>exact absurd hv (by simp)
theorem two_at {N:Nat} {S:List T4} {y:R6} {i q:Nat} (hq:[y.1.2.1,y.1.2.2.1][i]? =some q):(twoF N S y)[i]? =some (Ct N S q):=by
 match i,hq with
 |0,hq=>cases hq;rfl
 |1,hq=>cases hq;rfl
 |n+2,hq=>exact absurd hq (by simp)
def spLesser:Sp:=fun vs H Q _=>∃(N:Nat) (tp tr:Addr) (rs:List Addr) (R:List R6) (L:Nat) (x:R6),vs=[.int (N:Int),.ref tp,.int (L:Int),.ref tr]∧H tp=some (.tup (rs.map V.ref))∧RowsAt H rs R∧R.length≤60∧InN N (tiF R (kpB L))∧N≤60∧H tr=some (.tup (rowV x))∧x.1.2.1<N∧x.1.2.2.1<N∧∀(l a:Addr) (as:List Addr) (H':Hp),Same H H'→H' l=some (.lst ((a::as).map V.ref))→H' a=some (.tup (psV (Cj N (tiF R (kpB L)) x)))→Q (.ref l) H'
section
variable {P:Program} {w:World} {K:PySem.W.Frag} {mg:Str→Option Value} {base:Heap}
theorem scLesser:A4 ["many","rows","layer","tie","ties","parts","least"] ["many","rows","layer","tie"] (Af sLesser):=⟨rfl,rfl,rfl,by decide+kernel,rfl,by decide+kernel,by decide+kernel⟩
theorem ok_Lesser {f:Addr} {fd:FuncData} (F:Fun K "lesser_parts" "lesser_parts" sLesser f fd) (T:Txt mg)
  {gKept:Addr} {fKept:FuncData} (kKept:PySem.W.keepIn K (.ref gKept)=true) (bKept:Binds K fKept ["rows","layer"] []) (hKept:mg "kept_from"=some (.ref gKept)) (GKept:FnOk P w K mg base CX0 3 gKept fKept ["rows","layer"] spKept)
  {gPart:Addr} {fPart:FuncData} (kPart:PySem.W.keepIn K (.ref gPart)=true) (bPart:Binds K fPart ["many","stand","place"] []) (hPart:mg "part_of"=some (.ref gPart)) (GPart:FnOk P w K mg base CX0 3 gPart fPart ["many","stand","place"] spPart):
  FnOk P w K mg base CX0 4 f fd ["many","rows","layer","tie"] spLesser:=by
 refine F.ok scLesser (fun vs H Q E h=> ?_) (fun cdv A outer s H vs Q E hr h=> ?_)
 ·obtain ⟨_,_,_,_,_,_,_,rfl,_⟩:=h;rfl
 ·obtain ⟨N,tp,tr,rs,R,L,x,rfl,ht,hR,R60,hN,N60,hx,hp,hq,k⟩:=h
  refine ⟨_,Ae (Au (i:=4) scLesser.nd rfl (Or.inr rfl) (Aq GKept hr rfl hKept kKept bKept .nil A5 (Aa (pv 1) (Aa (pv 2) Ac))))
   (Ae (ps_comp (i:=5) (T:=["place"]) (F:=["many","ties"]) (js:=[0,4]) scLesser.nd rfl (Or.inl rfl) (CS.to (osc:=Af sLesser) ⟨by rfl,by decide+kernel,by decide+kernel,by decide+kernel,by decide+kernel,by decide+kernel,by decide+kernel⟩ rfl rfl) rfl (pi_tup (C0 sl_tupA (pv 3) (Ck Ag) (Ck Ag))) (fun _ _ _ _ _=>Aj (i:=0) (show (["place","many","ties"]:List Str).Nodup by decide+kernel) rfl (Or.inl rfl)) (fun _ _ _ _ _=>Br) (fun _ _ _ _ _=>Aq GPart hr rfl hPart kPart bPart .nil A5 (Aa (pv 1) (Aa (pv 2) (Aa (pv 0) Ac)))))
   (Ae (Au (i:=6) scLesser.nd rfl (Or.inr rfl) (Ak (call_minL rfl) (by rfl) T.min (by decide+kernel) (Aa (Bn (T:=["part"]) (F:=[]) (js:=[]) (CS.to (osc:=Af sLesser) ⟨by rfl,by decide+kernel,by decide+kernel,by decide+kernel,by decide+kernel,by decide+kernel,by decide+kernel⟩ rfl rfl) rfl (B8 (pv 5)) (fun _ _ _ _ _=>Aj (i:=0) (show (["part"]:List Str).Nodup by decide+kernel) rfl (Or.inl rfl)) (fun _ _ _ _ _=>Br) (fun _ _ _ _ _=>Ak (r:=rLenX K) At (by rfl) T.len PySem.boot_len (Aa (pv 0) Ac))) Ac)))
   (Ah (As (Bn (T:=["part"]) (F:=["least"]) (js:=[6]) (CS.to (osc:=Af sLesser) ⟨by rfl,by decide+kernel,by decide+kernel,by decide+kernel,by decide+kernel,by decide+kernel,by decide+kernel⟩ rfl rfl) rfl (B8 (pv 5)) (fun _ _ _ _ _=>Aj (i:=0) (show (["part","least"]:List Str).Nodup by decide+kernel) rfl (Or.inl rfl)) (fun _ _ _ _ _=>Cv (Ao Cq (Ak (r:=rLenX K) At (by rfl) T.len PySem.boot_len (Aa (pv 0) Ac)) (pv 1) (An _))) (fun _ _ _ _ _=>pv 0)))))),?_⟩
  refine ⟨_,rfl,_,rfl,tp,rs,R,L,rfl,ht,hR,R60,fun st H1 s1 e1=> ?_⟩
  have e1:StandAt H1 st (tiF R (kpB L)):=e1
  have l1:(tiF R (kpB L)).length≤100:=Nat.le_trans (ti_len _ _) (by omega)
  generalize tiF R (kpB L)=S at hN e1 l1 k ⊢
  have hx1:=s1 _ _ hx
  clear ht hR R60
  refine ⟨_,rfl,_,rfl,_,rfl,cut_any hx1 fun r4 H2 s2 e2=> ?_⟩
  rw [cut13] at e2
  have e1:=e1.same s2
  have s12:=s1.trans s2
  refine ⟨r4,rfl,⟨_,SqT.of e2⟩,fun D hD=>C7 (K:=K) (a:=r4) (xs:=[.int (x.1.2.1:Int),.int (x.1.2.2.1:Int)]) (fun i σ zs H3=>∃(u:Option V) (qs:List Addr),σ=[u,some (.int (N:Int)),some (.ref st)]∧zs=qs.map V.ref∧Same H2 H3∧H3 D=some (.lst zs)∧qs.length=i∧PtA H3 qs ((twoF N S x).take i)) ⟨none,[],rfl,rfl,Ad hD,Ab,rfl,rfl,fun i r x e=>by simp at e⟩ (fun i σ zs H3 _ ⟨_,_,_,_,s,e,_⟩=>⟨SqT.of (s _ _ e2),e⟩) ?_ ?_⟩
  ·rintro i v σ zs H3 hv ⟨u,qs,rfl,rfl,s3,d3,ql,p3⟩
   obtain ⟨q,hq1,rfl⟩:=pair_at hv
   have i2:i<2:=(List.getElem?_eq_some_iff.mp hv).1
   have qN:q<N:=by
    match i,hq1 with
    |0,hq1=>cases hq1;exact hp
    |1,hq1=>cases hq1;exact hq
    |n+2,hq1=>exact absurd hq1 (by simp)
   refine ⟨_,rfl,_,rfl,_,rfl,N,st,S,q,rfl,.inl (e1.same s3),hN,N60,l1,qN,fun pt H4 s4 e4=> ?_⟩
   have d4:=s4 _ _ d3
   have kp:∀(r:Addr) (zs:List V) (o:HO),H4 r=some (.tup zs)→upd H4 D o r=some (.tup zs):=fun r zs o e=>by rw [Ai (Cw e d4 (by intro z;cases z))];exact e
   refine ⟨d4,Al (by rw [List.length_map];omega),_,qs++[pt],rfl,by rw [List.map_append];rfl,Aw (s3.trans s4) hD,Ab,by rw [List.length_append,ql];rfl,?_⟩
   rw [Be (two_at hq1)]
   rw [psV_eq] at e4
   exact (p3.same fun r xs e=>kp _ _ _ (s4 _ _ e)).snoc (kp _ _ _ e4)
  rintro σ zs H3 ⟨u,qs,rfl,rfl,s3,d3,ql,p3⟩
  have p3:PtA H3 qs (twoF N S x):=p3
  have ql:qs.length=2:=ql
  clear hD e2 hx1 hp hq
  refine ⟨_,rfl,D,rfl,⟨_,SqL.of d3⟩,fun D2 hD2=>Ce (K:=K) (a:=D) (xs:=qs.map V.ref) (fun i σ zs H4=>∃(u:Option V),σ=[u]∧zs=(((twoF N S x).take i).map fun p=>V.int (p.length:Int))∧Same H3 H4∧H4 D2=some (.lst zs)) ⟨none,rfl,rfl,Ad hD2,Ab⟩ (fun i σ zs H4 _ ⟨_,_,_,s,e⟩=>⟨SqL.of (s _ _ d3),e⟩) ?_ ?_⟩
  ·rintro i v σ zs H4 hv ⟨u,rfl,rfl,s4,d4⟩
   obtain ⟨r,er,rfl⟩:=Ay hv
   obtain ⟨p,ep,hp⟩:=p3.get er
   have i2:i<2:=by have:=(List.getElem?_eq_some_iff.mp er).1;omega
   refine ⟨_,rfl,r,_,rfl,.inr (SqT.of (s4 _ _ hp)),d4,Al (by rw [List.length_map,List.length_take];omega),_,rfl,?_,Aw s4 hD2,Ab⟩
   rw [Be ep,List.map_append,List.map_cons,List.map_nil]
   unfold psV
   rw [List.length_map]
  rintro σ zs H4 ⟨u,rfl,rfl,s4,d4⟩
  have tl:(twoF N S x).take (qs.map V.ref).length=twoF N S x:=by rw [List.length_map,ql];rfl
  rw [tl] at d4
  refine ⟨D2,((twoF N S x).map List.length).map Int.ofNat,rfl,?_,by unfold twoF;simp,fun m hm hl=> ?_⟩
  ·rw [List.map_map,List.map_map]
   exact SqL.of d4
  obtain ⟨m',hm',rfl⟩:=List.mem_map.mp hm
  obtain ⟨rest,hf⟩:=least_head hm' fun n hn=>by
   have:=hl (Int.ofNat n) (List.mem_map.mpr ⟨n,hn,rfl⟩)
   exact Int.ofNat_le.mp this
  have d34:=s4 _ _ d3
  have p4:=p3.same fun r xs e=>s4 r _ e
  refine ⟨_,rfl,D,rfl,⟨_,SqL.of d34⟩,fun D3 hD3=>Ce (K:=K) (a:=D) (xs:=qs.map V.ref) (fun i σ zs H5=>∃(u:Option V) (qs':List Addr),σ=[u,some (.int (Int.ofNat m'))]∧zs=qs'.map V.ref∧Same H4 H5∧H5 D3=some (.lst zs)∧qs'.length≤i∧PtA H5 qs' (((twoF N S x).take i).filter fun p=>decide (p.length=m'))) ⟨none,[],rfl,rfl,Ad hD3,Ab,Nat.le_refl _,rfl,fun i r x e=>by simp at e⟩ (fun i σ zs H5 _ ⟨_,_,_,_,s,e,_⟩=>⟨SqL.of (s _ _ d34),e⟩) ?_ ?_⟩
  ·rintro i v σ zs H5 hv ⟨u,qs',rfl,rfl,s5,d5,ql',p5⟩
   obtain ⟨r,er,rfl⟩:=Ay hv
   obtain ⟨p,ep,hp⟩:=p4.get er
   have i2:i<2:=by have:=(List.getElem?_eq_some_iff.mp er).1;omega
   have h5:=s5 _ _ hp
   refine ⟨_,rfl,r,_,rfl,.inr (SqT.of h5),_,rfl,rfl,_,rfl,Bp (fun g=> ?_) fun g=> ?_⟩
   ·have g:p.length=m':=by
     have:=V.int.inj (of_decide_eq_true g)
     unfold psV at this
     rw [List.length_map] at this
     exact Int.ofNat.inj this
    have kp:∀(r:Addr) (zs:List V) (o:HO),H5 r=some (.tup zs)→upd H5 D3 o r=some (.tup zs):=fun r zs o e=>by rw [Ai (Cw e d5 (by intro z;cases z))];exact e
    refine ⟨_,rfl,d5,Al (by rw [List.length_map];omega),_,qs'++[r],rfl,by rw [List.map_append];rfl,Aw s5 hD3,Ab,by rw [List.length_append];simp;omega,?_⟩
    rw [Be ep,List.filter_append,List.filter_cons_of_pos (by simpa using g)]
    exact (p5.same fun r xs e=>kp _ _ _ e).snoc (kp _ _ _ h5)
   ·have g:¬p.length=m':=fun z=>g (by
     refine decide_eq_true (congrArg V.int ?_)
     unfold psV
     rw [List.length_map,z];rfl)
    refine ⟨_,qs',rfl,rfl,s5,d5,by omega,?_⟩
    rw [Be ep,List.filter_append,List.filter_cons_of_neg (by simpa using g),List.filter_nil,List.append_nil]
    exact p5
  rintro σ zs H5 ⟨u,qs',rfl,rfl,s5,d5,ql',p5⟩
  rw [tl,hf] at p5
  match qs',d5,p5 with
  |[],d5,p5=>exact absurd p5.1 (by simp)
  |b::bs,d5,p5=>exact k D3 b bs H5 (s12.trans (s3.trans (s4.trans s5))) d5 (p5.2 0 b _ rfl rfl)
end
end K38
namespace K38
open PySem L2 Wk
def foF (R:List R6) (L:Nat) (ps:List Nat):Option Str:=(Bv R L ps 1).head?
def beB (fo:Option Str) (n:Str):Bool:=match fo with
 |none=>true
 |some f=>decide (n.cps.toList<f.cps.toList)
def lookF (R:List R6) (L:Nat) (ps:List Nat):List Str:=(Bv R L ps 2).filter (beB (foF R L ps))
theorem loo_len (R:List R6) (L:Nat) (ps:List Nat) (e:Nat):(Bv R L ps e).length≤R.length:=by
 unfold Bv looF
 rw [List.length_map]
 exact Nat.le_trans (List.length_filter_le _ _) (List.length_filter_le _ _)
def spRound:Sp:=fun vs H Q _=>∃(N:Nat) (tp tr:Addr) (rs:List Addr) (R:List R6) (L:Nat) (x:R6),vs=[.int (N:Int),.ref tp,.int (L:Int),.ref tr]∧H tp=some (.tup (rs.map V.ref))∧RowsAt H rs R∧R.length≤60∧InN N (tiF R (kpB L))∧N≤60∧H tr=some (.tup (rowV x))∧x.1.2.1<N∧x.1.2.2.1<N∧∀(tl:Addr) (H':Hp),Same H H'→ToldAt H' tl L (Cj N (tiF R (kpB L)) x) (lookF R L (Cj N (tiF R (kpB L)) x)) (foF R L (Cj N (tiF R (kpB L)) x))→Q (.ref tl) H'
def tWithin:TS:=fun D σ H=>∃(u0 u1 u3:Option V) (L:Nat) (pl wl ld:Addr) (ps:List Nat) (fo:Option Str) (W:List Str),σ=[u0,u1,some (.int (L:Int)),u3,some (.ref pl),some (.ref ld),some (foV fo),some (.ref wl),none]∧H pl=some (.tup (psV ps))∧H wl=some (.lst (W.map V.str))∧W.length≤60∧∀(tl:Addr) (H':Hp),Same H H'→ToldAt H' tl L ps (W.filter (beB fo)) fo→D.rt (.ref tl) H'
section
variable {P:Program} {w:World} {K:PySem.W.Frag} {mg:Str→Option Value} {base:Heap}
theorem scRound:A4 ["many","rows","layer","tie","places","leading","found","within","looked"] ["many","rows","layer","tie"] (Af sRound):=⟨rfl,rfl,rfl,by decide+kernel,rfl,by decide+kernel,by decide+kernel⟩
theorem ok_Round {f:Addr} {fd:FuncData} (F:Fun K "round_at" "round_at" sRound f fd) (T:Txt mg)
  {gLesser:Addr} {fLesser:FuncData} (kLesser:PySem.W.keepIn K (.ref gLesser)=true) (bLesser:Binds K fLesser ["many","rows","layer","tie"] []) (hLesser:mg "lesser_parts"=some (.ref gLesser)) (GLesser:FnOk P w K mg base CX0 4 gLesser fLesser ["many","rows","layer","tie"] spLesser)
  {gLoose:Addr} {fLoose:FuncData} (kLoose:PySem.W.keepIn K (.ref gLoose)=true) (bLoose:Binds K fLoose ["rows","layer","places","ends"] []) (hLoose:mg "loose_names"=some (.ref gLoose)) (GLoose:FnOk P w K mg base CX0 4 gLoose fLoose ["rows","layer","places","ends"] spLoose):
  FnOk P w K mg base CX0 5 f fd ["many","rows","layer","tie"] spRound:=by
 refine F.ok scRound (fun vs H Q E h=> ?_) (fun cdv A outer s H vs Q E hr h=> ?_)
 ·obtain ⟨_,_,_,_,_,_,_,rfl,_⟩:=h;rfl
 ·obtain ⟨N,tp,tr,rs,R,L,x,rfl,ht,hR,R60,hN,N60,hx,hp,hq,k⟩:=h
  refine ⟨_,Ae (Au (i:=4) scRound.nd rfl (Or.inl rfl) (Az Ax (Aq GLesser hr rfl hLesser kLesser bLesser .nil A5 (Aa (pv 0) (Aa (pv 1) (Aa (pv 2) (Aa (pv 3) Ac))))) Ag (fun _ _=>rfl)))
   (Ae (Au (i:=5) scRound.nd rfl (Or.inl rfl) (Aq GLoose hr rfl hLoose kLoose bLoose .nil A5 (Aa (pv 1) (Aa (pv 2) (Aa (pv 4) (Aa Ag Ac))))))
   (Ae (Au (i:=6) scRound.nd rfl (Or.inr rfl) (pe_ifExp (pt_truth (pv 5) (fun _=>rfl)) (Az Ax (pv 5) Ag (fun _ _=>rfl)) Bk))
   (Ae (Au (i:=7) scRound.nd rfl (Or.inl rfl) (Aq GLoose hr rfl hLoose kLoose bLoose .nil A5 (Aa (pv 1) (Aa (pv 2) (Aa (pv 4) (Aa Ag Ac))))))
   (PSs.imp' (t':=tWithin) (Ae (Au (i:=8) scRound.nd rfl (Or.inl rfl) (A6 Bo (by rfl) T.tuple (by decide+kernel) (Aa (Bn (T:=["name"]) (F:=["found"]) (js:=[6]) (CS.to (osc:=Af sRound) ⟨by rfl,by decide+kernel,by decide+kernel,by decide+kernel,by decide+kernel,by decide+kernel,by decide+kernel⟩ rfl rfl) rfl (B8 (pv 7)) (fun _ _ _ _ _=>Aj (i:=0) (show (["name","found"]:List Str).Nodup by decide+kernel) rfl (Or.inl rfl)) (fun _ _ _ _ _=>Cv (PW.pt (Co (Ao Cf (pv 1) Bk (An _)) (By (Ao op_lt_str (pv 0) (pv 1) (An _)))))) (fun _ _ _ _ _=>pv 0)) Ac)))
   (Ah (As (Bf (Aa (pv 2) (Aa (pv 4) (Aa (pv 8) (Aa (pv 6) Ac)))))))) ?rest)))),?_⟩
  case rest=>
   clear ht hR hx k
   rintro D σ H ⟨u0,u1,u3,L,pl,wl,ld,ps,fo,W,rfl,hpl,hwl,wl60,k⟩
   refine ⟨_,rfl,wl,rfl,⟨_,SqL.of hwl⟩,fun D2 hD2=>Ce (K:=K) (a:=wl) (xs:=W.map V.str) (fun i σ zs H4=>∃(u:Option V),σ=[u,some (foV fo)]∧zs=((W.take i).filter (beB fo)).map V.str∧Same H H4∧H4 D2=some (.lst zs)) ⟨none,rfl,rfl,Ad hD2,Ab⟩ (fun i σ zs H4 _ ⟨_,_,_,s,e⟩=>⟨SqL.of (s _ _ hwl),e⟩) ?_ ?_⟩
   ·rintro i v σ zs H4 hv ⟨u,rfl,rfl,s4,d4⟩
    obtain ⟨n,en,rfl⟩:=Ay hv
    have ln:(((W.take i).filter (beB fo)).map V.str).length≤60:=by
     rw [List.length_map]
     refine Nat.le_trans (List.length_filter_le _ _) ?_
     rw [List.length_take];omega
    have yes:beB fo n=true→H4 D2=some (.lst (((W.take i).filter (beB fo)).map V.str))∧(((W.take i).filter (beB fo)).map V.str).length<sizeLine∧(∃(u:Option V),[some (.str n),some (foV fo)]=[u,some (foV fo)]∧((W.take i).filter (beB fo)).map V.str++[V.str n]=((W.take (i+1)).filter (beB fo)).map V.str∧Same H (upd H4 D2 (.lst (((W.take i).filter (beB fo)).map V.str++[V.str n])))∧upd H4 D2 (.lst (((W.take i).filter (beB fo)).map V.str++[V.str n])) D2=some (.lst (((W.take i).filter (beB fo)).map V.str++[V.str n]))):=fun g=>by
     refine ⟨d4,Al (by omega),_,rfl,?_,Aw s4 hD2,Ab⟩
     rw [Be en,List.filter_append,List.filter_cons_of_pos (by simpa using g),List.map_append];rfl
    have no:beB fo n=false→∃(u:Option V),[some (.str n),some (foV fo)]=[u,some (foV fo)]∧((W.take i).filter (beB fo)).map V.str=((W.take (i+1)).filter (beB fo)).map V.str∧Same H H4∧H4 D2=some (.lst (((W.take i).filter (beB fo)).map V.str)):=fun g=>by
     refine ⟨_,rfl,?_,s4,d4⟩
     rw [Be en,List.filter_append,List.filter_cons_of_neg (by simpa using g),List.filter_nil,List.append_nil]
    cases fo with
    |none=>exact ⟨_,rfl,rfl,_,rfl,iteT ⟨_,rfl,yes rfl⟩⟩
    |some f=>
     refine ⟨_,rfl,rfl,_,rfl,Bt ⟨_,rfl,_,rfl,n,f,rfl,rfl,_,rfl,Bp (fun g=> ?_) fun g=> ?_⟩⟩
     ·exact ⟨_,rfl,yes g⟩
     ·exact no (by cases h:beB (some f) n with
       |false=>rfl
       |true=>exact absurd h g)
   rintro σ zs H4 ⟨u,rfl,rfl,s4,d4⟩
   rw [List.length_map,List.take_length] at d4
   refine ⟨D2,_,rfl,.inl ⟨SqL.of d4,fun kl hkl=> ?_⟩⟩
   refine ⟨_,rfl,_,rfl,_,rfl,_,rfl,small (by simp),fun tl htl=> ?_⟩
   have s5:=Ad (o:= .tup ((W.filter (beB fo)).map V.str)) hkl
   exact k tl _ ((s4.trans s5).trans (Ad htl)) ⟨pl,kl,Ab,Ad htl _ _ (s5 _ _ (s4 _ _ hpl)),Ad htl _ _ Ab⟩
  have S1:InN N (tiF R (kpB L)):=hN
  refine ⟨_,rfl,_,rfl,_,rfl,_,rfl,N,tp,tr,rs,R,L,x,rfl,ht,hR,R60,hN,N60,hx,hp,hq,fun l pl as H1 s1 e1 e2=> ?_⟩
  clear hN
  generalize Cj N (tiF R (kpB L)) x=ps at e2 k
  refine ⟨l,_,0,_,rfl,rfl,SqL.of e1,Ap (j:=0) rfl,?_⟩
  refine ⟨_,rfl,_,rfl,_,rfl,tp,pl,rs,R,L,1,ps,rfl,s1 _ _ ht,hR.mono fun r xs=>s1 r _,R60,e2,fun ld H2 s2 e3=> ?_⟩
  have s12:=s1.trans s2
  have fin:∀(H3:Hp),Same H2 H3→tSeq (tAsg (tCall spLoose [] E0 (tCons (tVar 1) (tCons (tVar 2) (tCons (tVar 4) (tCons (tC (.int 2)) tNil))))) (gName 7)) tWithin {nx:=fun x H'=>Q .non H',rt:=Q,bk:=fun _ _=>False,ct:=fun _ _=>False} [some (.int (N:Int)),some (.ref tp),some (.int (L:Int)),some (.ref tr),some (.ref pl),some (.ref ld),some (foV (foF R L ps)),none,none] H3:=fun H3 s3=>by
   have s13:=s12.trans s3
   refine ⟨_,rfl,_,rfl,_,rfl,tp,pl,rs,R,L,2,ps,rfl,s13 _ _ ht,hR.mono fun r xs=>s13 r _,R60,s3 _ _ (s2 _ _ e2),fun wl H4 s4 e4=> ?_⟩
   exact ⟨_,_,_,L,pl,wl,ld,ps,foF R L ps,Bv R L ps 2,rfl,s4 _ _ (s3 _ _ (s2 _ _ e2)),e4,Nat.le_trans (loo_len R L ps 2) R60,fun tl H' s5 T=>k tl H' (s13.trans (s4.trans s5)) T⟩
  cases h:Bv R L ps 1 with
  |nil=>
   have e0:foF R L ps=none:=by unfold foF;rw [h];rfl
   rw [h] at e3
   refine ⟨_,rfl,false,.inl ⟨_,SqL.of e3,rfl⟩,Bt ?_⟩
   have:=fin H2 (Cd _)
   rw [e0] at this
   exact this
  |cons f rest=>
   have e0:foF R L ps=some f:=by unfold foF;rw [h];rfl
   rw [h] at e3
   refine ⟨_,rfl,true,.inl ⟨_,SqL.of e3,rfl⟩,iteT ⟨_,rfl,ld,_,0,_,rfl,rfl,SqL.of e3,Ap (j:=0) rfl,?_⟩⟩
   have:=fin H2 (Cd _)
   rw [e0] at this
   exact this
end
end K38
namespace K38
open PySem L2 Wk
abbrev Rd4:=Nat×List Nat×List Str×Option Str
def rdF (N:Nat) (x:R6) (R:List R6) (L:Nat):Rd4:=(L,Cj N (tiF R (kpB L)) x,lookF R L (Cj N (tiF R (kpB L)) x),foF R L (Cj N (tiF R (kpB L)) x))
def C5 (R:List R6) (r:Rd4):List R6:=R.map (behF r.1 r.2.1 r.2.2.1 r.2.2.2)
def runF (N:Nat) (x:R6):Nat→List R6→List R6×List Rd4
 |0,R=>(R,[])
 |L+1,R=>if (rdF N x R L).2.2.2=none then ((runF N x L (C5 R (rdF N x R L))).1,rdF N x R L::(runF N x L (C5 R (rdF N x R L))).2) else (C5 R (rdF N x R L),[rdF N x R L])
def TlAt (H:Hp) (tl:Addr) (r:Rd4):Prop:=ToldAt H tl r.1 r.2.1 r.2.2.1 r.2.2.2
def TlsAt (H:Hp) (ts:List Addr) (F:List Rd4):Prop:=ts.length=F.length∧∀(i:Nat) t r,ts[i]? =some t→F[i]? =some r→TlAt H t r
theorem TlAt.mono {H H':Hp} {tl:Addr} {r:Rd4} (h:TlAt H tl r) (s:∀r xs,H r=some (.tup xs)→H' r=some (.tup xs)):TlAt H' tl r:=by
 obtain ⟨pl,lk,a,b,c⟩:=h.ex
 exact ⟨pl,lk,s _ _ a,s _ _ b,s _ _ c⟩
theorem TlsAt.mono {H H':Hp} {ts:List Addr} {F:List Rd4} (h:TlsAt H ts F) (s:∀r xs,H r=some (.tup xs)→H' r=some (.tup xs)):TlsAt H' ts F:=⟨h.1,fun i t r a b=>(h.2 i t r a b).mono s⟩
theorem TlsAt.snoc {H:Hp} {qs:List Addr} {P:List Rd4} {r:Addr} {x:Rd4} (h:TlsAt H qs P) (hr:TlAt H r x):TlsAt H (qs++[r]) (P++[x]):=by
 refine ⟨by rw [List.length_append,List.length_append,h.1];rfl,fun i r0 p0 e1 e2=> ?_⟩
 rw [List.getElem?_append] at e1 e2
 rw [h.1] at e1
 split at e1
 ·rename_i z
  rw [if_pos z] at e2
  exact h.2 i r0 p0 e1 e2
 ·rename_i z
  rw [if_neg z] at e2
  have hz:i - P.length=0:=by
   have:=(List.getElem?_eq_some_iff.mp e1).1
   simp only [List.length_cons,List.length_nil] at this
   omega
  rw [hz] at e1 e2
  cases e1
  cases e2
  exact hr
def PlN (N:Nat) (R:List R6):Prop:=∀y∈R,y.1.2.1<N∧y.1.2.2.1<N
theorem beh_tie (L:Nat) (ps:List Nat) (ks:List Str) (fo:Option Str) (x:R6):(behF L ps ks fo x).1=x.1:=by
 unfold behF
 split
 ·rfl
 ·split<;> rfl
theorem PlN.step {N:Nat} {R:List R6} (h:PlN N R) (r:Rd4):PlN N (C5 R r):=fun y hy=>by
 obtain ⟨x,hx,rfl⟩:=List.mem_map.mp hy
 rw [beh_tie]
 exact h x hx
theorem PlN.inN {N:Nat} {R:List R6} (h:PlN N R) (p:R6→Bool):InN N (tiF R p):=fun t ht=>by
 unfold tiF at ht
 obtain ⟨x,hx,rfl⟩:=List.mem_map.mp ht
 exact h x (List.mem_filter.mp hx).1
def spGone:Sp:=fun vs H Q _=>∃(h:Addr) (N:Nat) (R:List R6) (n:Str) (x:R6),vs=[.ref h,.str n]∧LayAt H h N R∧R.length≤60∧N≤60∧PlN N R∧x∈R∧x.1.1=n∧x.2.2=true∧x.2.1≤60∧(∀y∈R,y.1.1=n→y=x)∧∀(g h' p:Addr) (ts:List Addr) (H':Hp),Same H H'→H' g=some (.tup [.ref h',.ref p])→LayAt H' h' N (runF N x (x.2.1+1) (Cr R n)).1→H' p=some (.tup (ts.map V.ref))→TlsAt H' ts (runF N x (x.2.1+1) (Cr R n)).2→Q (.ref g) H'
def tTailG:TS:=fun D σ H=>∃(u0 u1 u4 u6 u7:Option V) (N:Nat) (tq pl:Addr) (qs ts:List Addr) (R:List R6) (F:List Rd4),σ=[u0,u1,some (.int (N:Int)),some (.ref tq),u4,some (.ref pl),u6,u7]∧H tq=some (.tup (qs.map V.ref))∧RowsAt H qs R∧H pl=some (.lst (ts.map V.ref))∧TlsAt H ts F∧∀(g h' p:Addr) (ts:List Addr) (H':Hp),(∀b o,H b=some o→b≠pl→H' b=some o)→H' g=some (.tup [.ref h',.ref p])→LayAt H' h' N R→H' p=some (.tup (ts.map V.ref))→TlsAt H' ts F→D.rt (.ref g) H'
section
variable {P:Program} {w:World} {K:PySem.W.Frag} {mg:Str→Option Value} {base:Heap}
theorem scGone:A4 ["layers","name","many","rows","tie","paper","layer","told"] ["layers","name"] (Af sGone):=⟨rfl,rfl,rfl,by decide+kernel,rfl,by decide+kernel,by decide+kernel⟩
theorem ok_Gone {f:Addr} {fd:FuncData} (F:Fun K "gone" "gone" sGone f fd) (T:Txt mg)
  {gRowOf:Addr} {fRowOf:FuncData} (kRowOf:PySem.W.keepIn K (.ref gRowOf)=true) (bRowOf:Binds K fRowOf ["rows","name"] []) (hRowOf:mg "row_of"=some (.ref gRowOf)) (GRowOf:FnOk P w K mg base CX0 5 gRowOf fRowOf ["rows","name"] spRowOf)
  {gWithout:Addr} {fWithout:FuncData} (kWithout:PySem.W.keepIn K (.ref gWithout)=true) (bWithout:Binds K fWithout ["rows","name"] []) (hWithout:mg "rows_without"=some (.ref gWithout)) (GWithout:FnOk P w K mg base CX0 5 gWithout fWithout ["rows","name"] spWithout)
  {gRound:Addr} {fRound:FuncData} (kRound:PySem.W.keepIn K (.ref gRound)=true) (bRound:Binds K fRound ["many","rows","layer","tie"] []) (hRound:mg "round_at"=some (.ref gRound)) (GRound:FnOk P w K mg base CX0 5 gRound fRound ["many","rows","layer","tie"] spRound)
  {gBehinds:Addr} {fBehinds:FuncData} (kBehinds:PySem.W.keepIn K (.ref gBehinds)=true) (bBehinds:Binds K fBehinds ["rows","told"] []) (hBehinds:mg "rows_behind"=some (.ref gBehinds)) (GBehinds:FnOk P w K mg base CX0 5 gBehinds fBehinds ["rows","told"] spBehinds):
  FnOk P w K mg base CX0 6 f fd ["layers","name"] spGone:=by
 refine F.ok scGone (fun vs H Q E h=> ?_) (fun cdv A outer s H vs Q E hr h=> ?_)
 ·obtain ⟨_,_,_,_,_,rfl,_⟩:=h;rfl
 ·obtain ⟨h,N,R,n,x,rfl,⟨tp,rs,hh,ht,hR⟩,R60,N60,hPl,hx,xn,xk,x60,xu,k⟩:=h
  refine ⟨_,Ae (ps_asg (pv 0) (pg_tup rfl (Ar (Aj (i:=2) scGone.nd rfl (Or.inl rfl)) (Ar (Aj (i:=3) scGone.nd rfl (Or.inl rfl)) Cc))))
   (Ae (Au (i:=4) scGone.nd rfl (Or.inl rfl) (Aq GRowOf hr rfl hRowOf kRowOf bRowOf .nil A5 (Aa (pv 3) (Aa (pv 1) Ac))))
   (Ae (A8 (Ao Cf (pv 4) Bk (An _)) (Ah ps_never) Av)
   (Ae (Au (i:=3) scGone.nd rfl (Or.inl rfl) (Aq GWithout hr rfl hWithout kWithout bWithout .nil A5 (Aa (pv 3) (Aa (pv 1) Ac))))
   (Ae (A8 (Cs (A9 (Az Bz (pv 4) Ag (fun _ _=>rfl)))) (Ah (As (Bf (Aa (Bf (Aa (pv 2) (Aa (pv 3) Ac))) (Aa (Bf Ac) Ac))))) Av)
   (Ae (Au (i:=5) scGone.nd rfl (Or.inl rfl) (Ch Ac))
   (Ae (C3 PassesOwn.never rfl (pi_rangeD rfl T.range (Aa (Az Bz (pv 4) Ag (fun _ _=>rfl)) (Aa (pe_un un_neg Ag) (Aa (pe_un un_neg Ag) Ac)))) (Aj (i:=6) scGone.nd rfl (Or.inl rfl)) (Ae (Au (i:=7) scGone.nd rfl (Or.inl rfl) (Aq GRound hr rfl hRound kRound bRound .nil A5 (Aa (pv 2) (Aa (pv 3) (Aa (pv 6) (Aa (pv 4) Ac))))))
   (Ae (Au (i:=3) scGone.nd rfl (Or.inl rfl) (Aq GBehinds hr rfl hBehinds kBehinds bBehinds .nil A5 (Aa (pv 3) (Aa (pv 7) Ac))))
   (Ae (Cp (pe_bm PySem.F.plainAttrs_list PySem.F.slot_list_append PySem.F.type_list_append Bu (pv 5) (Aa (pv 7) Ac)))
   (Ah (A8 (Ao op_notN (Az Bz (pv 7) Ag (fun _ _=>rfl)) Bk (An _)) (Ah ps_break) Av))))))
   (PSs.imp' (t':=tTailG) (Ah (As (Bf (Aa (Bf (Aa (pv 2) (Aa (pv 3) Ac))) (Aa (A6 Bo (by rfl) T.tuple (by decide+kernel) (Aa (pv 5) Ac)) Ac))))) ?tail))))))),?_⟩
  case tail=>
   clear hh ht hR R60 N60 hPl hx xn xk x60 xu k
   rintro D σ H ⟨u0,u1,u4,u6,u7,N,tq,pl,qs,ts,R,F,rfl,hq,hR,hp,hF,k⟩
   refine ⟨_,rfl,_,rfl,small (by simp),fun hl hhl=> ?_⟩
   have s1:=Ad (o:= .tup [.int (N:Int),.ref tq]) hhl
   refine ⟨_,rfl,pl,_,rfl,.inl ⟨SqL.of (s1 _ _ hp),fun pp hpp=> ?_⟩⟩
   have s2:=Ad (o:= .tup (ts.map V.ref)) hpp
   refine ⟨small (by simp),fun g hg=> ?_⟩
   have s3:=Ad (o:= .tup [.ref hl,.ref pp]) hg
   have s:=s1.trans (s2.trans s3)
   exact k g hl pp ts _ (fun b o e _=>s b o e) Ab ⟨tq,qs,s3 _ _ (s2 _ _ Ab),s _ _ hq,hR.mono fun r xs=>s r _⟩ (s3 _ _ Ab) (hF.mono fun r xs=>s r _)
  refine ⟨_,rfl,h,_,rfl,SqT.of hh,rfl,_,_,rfl,_,_,rfl,rfl,?_⟩
  refine ⟨_,rfl,_,rfl,tp,rs,R,n,rfl,ht,hR,fun r y hr0 hy yn=> ?_,fun z=>absurd (List.mem_map.mpr ⟨x,hx,xn⟩) z⟩
  rw [xu y hy yn] at hr0
  refine ⟨_,rfl,rfl,_,rfl,Bt ?_⟩
  dsimp only [Bh]
  refine ⟨_,rfl,_,rfl,tp,rs,R,n,rfl,ht,hR,R60,fun tq qs H1 s1 e1 p1=> ?_⟩
  have hr1:=s1 _ _ hr0
  refine ⟨_,rfl,r,_,5,_,rfl,rfl,SqT.of hr1,Ap (j:=5) rfl,_,rfl,?_⟩
  rw [xk]
  refine Bt ?_
  dsimp only [Bh]
  have hPd:PlN N (Cr R n):=fun y hy=>hPl y (List.mem_filter.mp hy).1
  have ld:(Cr R n).length≤60:=Nat.le_trans (List.length_filter_le _ _) R60
  generalize hrun:runF N x (x.2.1+1) (Cr R n)=run at k
  generalize Cr R n=R1 at hPd ld p1 hrun
  clear hh ht hR R60 xu
  refine ⟨small (by simp),fun pl hpl=> ?_⟩
  have s2:=Ad (o:= .lst []) hpl
  have fin:∀(u6 u7:Option V) (tq':Addr) (qs' ts:List Addr) (H2:Hp),Same H1 H2→H2 tq'=some (.tup (qs'.map V.ref))→RowsAt H2 qs' run.1→H2 pl=some (.lst (ts.map V.ref))→TlsAt H2 ts run.2→tTailG {nx:=fun x H'=>Q .non H',rt:=Q} [some (.ref h),some (.str n),some (.int (N:Int)),some (.ref tq'),some (.ref r),some (.ref pl),u6,u7] H2:=fun u6 u7 tq' qs' ts H2 sm a1 a2 a3 a4=>
   ⟨_,_,_,_,_,N,tq',pl,qs',ts,run.1,run.2,rfl,a1,a2,a3,a4,fun g h' p ts H' bt b1 b2 b3 b4=>k g h' p ts H' (s1.trans fun b o e=>bt b o (sm _ _ e) (Am e hpl)) b1 b2 b3 b4⟩
  have hp:=hPl x hx
  clear k hPl hx hr0
  refine ⟨_,rfl,r,_,4,_,rfl,rfl,SqT.of (s2 _ _ hr1),Ap (j:=4) rfl,_,rfl,_,rfl,_,_,rfl,⟨by omega,by omega,by decide,by decide⟩,?_⟩
  have hn:((x.2.1:Int) - -1).toNat=x.2.1+1:=by omega
  show ∃W:Nat→Nat→St→Hp→Prop,_
  rw [hn]
  refine for_rangeD (fun i σ H2=>∃(u6 u7:Option V) (tq':Addr) (qs' ts:List Addr) (R2:List R6) (F:List Rd4),σ=[some (.ref h),some (.str n),some (.int (N:Int)),some (.ref tq'),some (.ref r),some (.ref pl),u6,u7]∧Same H1 H2∧H2 tq'=some (.tup (qs'.map V.ref))∧RowsAt H2 qs' R2∧H2 pl=some (.lst (ts.map V.ref))∧TlsAt H2 ts F∧F.length=i∧PlN N R2∧R2.length≤60∧run=((runF N x (x.2.1+1 - i) R2).1,F++(runF N x (x.2.1+1 - i) R2).2)) ⟨_,_,tq,qs,[],R1,[],rfl,s2,s2 _ _ e1,p1.mono fun r xs=>s2 r _,Ab,⟨rfl,fun i t r e=>by simp at e⟩,rfl,hPd,ld,hrun.symm⟩ ?_ ?_
  ·rintro i σ H2 hi ⟨u6,u7,tq',qs',ts,R2,F,rfl,sm,a1,a2,a3,a4,Fl,hP2,l2,er⟩
   obtain ⟨L,hL⟩:∃L,x.2.1=L+i:=⟨x.2.1 - i,by omega⟩
   have eL:(x.2.1:Int) - (i:Int)=(L:Int):=by omega
   have eR:x.2.1+1 - i=L+1:=by omega
   have eR2:x.2.1+1 - (i+1)=L:=by omega
   rw [eL]
   rw [eR] at er
   rw [eR2]
   refine ⟨_,rfl,_,rfl,_,rfl,_,rfl,N,tq',r,qs',R2,L,x,rfl,a1,a2,l2,hP2.inN _,N60,sm _ _ hr1,hp.1,hp.2,fun tl H3 s3 T3=> ?_⟩
   have T3:TlAt H3 tl (rdF N x R2 L):=T3
   have e3:(rdF N x R2 L).1=L:=rfl
   unfold runF at er
   generalize rdF N x R2 L=rd at T3 er e3
   refine ⟨_,rfl,_,rfl,tq',tl,qs',R2,rd.1,rd.2.1,rd.2.2.1,rd.2.2.2,rfl,s3 _ _ a1,a2.mono fun r xs=>s3 r _,l2,T3,fun tq2 qs2 H4 s4 e4 p4=> ?_⟩
   have p4:RowsAt H4 qs2 (C5 R2 rd):=p4
   have d4:=s4 _ _ (s3 _ _ a3)
   refine ⟨_,rfl,.inl ⟨rfl,_,SqL.of d4⟩,_,rfl,pl,_,_,rfl,rfl,d4,Al (by rw [List.length_map,a4.1,Fl];omega),?_⟩
   have kp:∀(r:Addr) (zs:List V),H4 r=some (.tup zs)→upd H4 pl (.lst (ts.map V.ref++[.ref tl])) r=some (.tup zs):=fun r zs e=>by rw [Ai (Cw e d4 (by intro z;cases z))];exact e
   have T4:TlAt (upd H4 pl (.lst (ts.map V.ref++[.ref tl]))) tl rd:=T3.mono fun r xs e=>kp _ _ (s4 _ _ e)
   have sm5:Same H1 (upd H4 pl (.lst (ts.map V.ref++[.ref tl]))):=fun b o e=>by rw [Ai (Am e hpl)];exact s4 _ _ (s3 _ _ (sm _ _ e))
   have p5:RowsAt (upd H4 pl (.lst (ts.map V.ref++[.ref tl]))) qs2 (C5 R2 rd):=p4.mono kp
   have q5:TlsAt (upd H4 pl (.lst (ts.map V.ref++[.ref tl]))) (ts++[tl]) (F++[rd]):=(a4.mono fun r xs e=>kp _ _ (s4 _ _ (s3 _ _ e))).snoc T4
   have d5:upd H4 pl (.lst (ts.map V.ref++[.ref tl])) pl=some (.lst ((ts++[tl]).map V.ref)):=by rw [Ab,List.map_append];rfl
   have e5:=kp _ _ e4
   generalize upd H4 pl (.lst (ts.map V.ref++[.ref tl]))=H5 at T4 sm5 p5 q5 d5 e5
   obtain ⟨pp,lk,T5,_,_⟩:=T4.ex
   refine ⟨_,rfl,tl,_,3,_,rfl,rfl,SqT.of T5,Ap (j:=3) rfl,rfl,_,rfl,?_⟩
   cases hfo:rd.2.2.2 with
   |none=>
    rw [if_pos hfo] at er
    refine Bt ⟨_,_,tq2,qs2,ts++[tl],C5 R2 rd,F++[rd],rfl,sm5,e5,p5,d5,q5,by rw [List.length_append,Fl];rfl,hP2.step _,by unfold C5;rw [List.length_map];exact l2,?_⟩
    rw [er,List.append_assoc];rfl
   |some f=>
    rw [if_neg (by rw [hfo];intro z;cases z)] at er
    refine iteT (fin _ _ tq2 qs2 (ts++[tl]) H5 sm5 e5 ?_ d5 ?_)
    ·rw [er];exact p5
    ·rw [er];exact q5
  ·rintro σ H2 ⟨u6,u7,tq',qs',ts,R2,F,rfl,sm,a1,a2,a3,a4,Fl,hP2,l2,er⟩
   rw [Nat.sub_self] at er
   unfold runF at er
   rw [List.append_nil] at er
   exact fin _ _ tq' qs' ts H2 sm a1 (by rw [er];exact a2) a3 (by rw [er];exact a4)
end
end K38
namespace K38
open PySem L2 Wk
def PLsAt (H:Hp) (qs:List Addr) (S:List T4):Prop:=qs.length=S.length∧∀(i:Nat) q t,qs[i]? =some q→S[i]? =some t→H q=some (.lst [.int (t.2.1:Int),.int (t.2.2.1:Int)])
def spGroups:Sp:=fun vs H Q _=>∃(N:Nat) (pr:Addr) (qs:List Addr) (S:List T4),vs=[.int (N:Int),.ref pr]∧H pr=some (.lst (qs.map V.ref))∧PLsAt H qs S∧InN N S∧N≤60∧∀(l:Addr) (ls:List Nat) (H':Hp),Same H H'→H' l=some (.lst (psV ls))→LabOk N S ls→Q (.ref l) H'
theorem ps_range (N:Nat):(C6 0 ((N:Int) - 0).toNat).map V.int=psV (List.range N):=by rw [rints_nat,psV_eq]
theorem ps_ix {l:List Nat} {v:Nat} (h:v<l.length):(psV l)[v]? =some (.int ((l.getD v 0:Nat):Int)):=by
 unfold psV
 rw [List.getElem?_map,List.getElem?_eq_getElem h,List.getD_eq_getElem?_getD,List.getElem?_eq_getElem h];rfl
section
variable {P:Program} {w:World} {K:PySem.W.Frag} {mg:Str→Option Value} {base:Heap}
theorem scGroups:A4 ["_law_many_here","_law_pairs","_law_labels","_law_one","_law_other","_law_near","_law_far"] ["_law_many_here","_law_pairs"] (Af sGroups):=⟨rfl,rfl,rfl,by decide+kernel,rfl,by decide+kernel,by decide+kernel⟩
theorem ok_Groups {f:Addr} {fd:FuncData} (F:Fun K "_law_groups" "_law_groups" sGroups f fd) (T:Txt mg):
  FnOk P w K mg base CX0 1 f fd ["_law_many_here","_law_pairs"] spGroups:=by
 refine F.ok scGroups (fun vs H Q E h=> ?_) (fun cdv A outer s H vs Q E hr h=> ?_)
 ·obtain ⟨_,_,_,_,rfl,_⟩:=h;rfl
 ·obtain ⟨N,pr,qs,S,rfl,hp,hP,hN,N60,k⟩:=h
  refine ⟨_,Ae (Au (i:=2) scGroups.nd rfl (Or.inl rfl) (A6 (call_list_rng rfl) (by rfl) T.list (by decide+kernel) (Aa (A6 call_range1 (by rfl) T.range (by decide+kernel) (Aa (pv 0) Ac)) Ac)))
   (Ae (C3 PassesOwn.never rfl (B8 (pv 1)) (pg_lst rfl (Ar (Aj (i:=3) scGroups.nd rfl (Or.inl rfl)) (Ar (Aj (i:=4) scGroups.nd rfl (Or.inl rfl)) Cc))) (Ah (A8 (Ao op_ne (Az Ax (pv 2) (pv 3) (fun _ _=>rfl)) (Az Ax (pv 2) (pv 4) (fun _ _=>rfl)) (An _)) (Ae (ps_asg (Bf (Aa (Az Ax (pv 2) (pv 3) (fun _ _=>rfl)) (Aa (Az Ax (pv 2) (pv 4) (fun _ _=>rfl)) Ac))) (pg_tup rfl (Ar (Aj (i:=5) scGroups.nd rfl (Or.inr rfl)) (Ar (Aj (i:=6) scGroups.nd rfl (Or.inr rfl)) Cc))))
   (Ah (ps_comp (i:=2) (T:=["_law_label"]) (F:=["_law_near","_law_far"]) (js:=[5,6]) scGroups.nd rfl (Or.inl rfl) (CS.to (osc:=Af sGroups) ⟨by rfl,by decide+kernel,by decide+kernel,by decide+kernel,by decide+kernel,by decide+kernel,by decide+kernel⟩ rfl rfl) rfl (B8 (pv 2)) (fun _ _ _ _ _=>Aj (i:=0) (show (["_law_label","_law_near","_law_far"]:List Str).Nodup by decide+kernel) rfl (Or.inl rfl)) (fun _ _ _ _ _=>Br) (fun _ _ _ _ _=>pe_ifExp (Ao Cq (pv 0) (pv 2) (An _)) (pv 1) (pv 0))))) Av)))
   (Ah (As (pv 2)))),?_⟩
  refine ⟨_,rfl,(N:Int),rfl,fun rg hrg=> ?_⟩
  have s1:=Ad (o:= .rng 0 (N:Int)) hrg
  refine ⟨rg,0,(N:Int),rfl,Ab,⟨by decide,by decide,by omega,by omega⟩,by omega,fun l0 hl0=> ?_⟩
  have s2:=s1.trans (Ad (o:= .lst ((C6 0 ((N:Int) - 0).toNat).map V.int)) hl0)
  have e2:=Ab (H:=upd H rg (.rng 0 (N:Int))) (a:=l0) (o:= .lst ((C6 0 ((N:Int) - 0).toNat).map V.int))
  generalize upd (upd H rg (.rng 0 (N:Int))) l0 (.lst ((C6 0 ((N:Int) - 0).toNat).map V.int))=H1 at s2 e2 ⊢
  rw [ps_range] at e2
  refine ⟨_,rfl,pr,rfl,⟨_,SqL.of (s2 _ _ hp)⟩,for_list (K:=K) (a:=pr) (xs:=qs.map V.ref) (fun j σ H2=>∃(l:Addr) (ls:List Nat) (u3 u4 u5 u6:Option V),σ=[some (.int (N:Int)),some (.ref pr),some (.ref l),u3,u4,u5,u6]∧Same H H2∧H2 l=some (.lst (psV ls))∧LabOk N (S.take j) ls) ⟨l0,_,_,_,_,_,rfl,s2,e2,lab0 N⟩ (fun j σ H2 _ ⟨_,_,_,_,_,_,_,s,_⟩=>SqL.of (s _ _ hp)) ?_ ?_⟩
  ·rintro j v σ H2 hv ⟨l,ls,u3,u4,u5,u6,rfl,s3,e3,hl⟩
   obtain ⟨q,eq,rfl⟩:=Ay hv
   have jl:j<S.length:=by rw [←hP.1];exact (List.getElem?_eq_some_iff.mp eq).1
   have et:=C1 jl
   have hq:=s3 _ _ (hP.2 j q _ eq et)
   have tin:=hN _ (List.getElem_mem jl)
   rw [Be et]
   generalize S[j]=t at hq tin ⊢
   have hst:=lab_step hl (fun u hu=>hN u (List.mem_of_mem_take hu)) tin.1 tin.2
   have ip:=ps_ix (l:=ls) (v:=t.2.1) (by rw [hl.len];exact tin.1)
   have ir:=ps_ix (l:=ls) (v:=t.2.2.1) (by rw [hl.len];exact tin.2)
   refine ⟨q,_,rfl,SqL.of hq,rfl,_,_,rfl,_,_,rfl,rfl,?_⟩
   refine ⟨_,rfl,_,rfl,l,_,_,_,rfl,rfl,SqL.of e3,Ap ip,_,rfl,_,rfl,l,_,_,_,rfl,rfl,SqL.of e3,Ap ir,rfl,_,rfl,Bp (fun g=> ?_) fun g=> ?_⟩
   ·refine ⟨_,rfl,_,rfl,l,_,_,_,rfl,rfl,SqL.of e3,Ap ip,_,rfl,_,rfl,l,_,_,_,rfl,rfl,SqL.of e3,Ap ir,small (by simp),fun t2 ht2=> ?_⟩
    refine ⟨t2,_,rfl,SqT.of Ab,rfl,_,_,rfl,_,_,rfl,rfl,?_⟩
    have s4:=Ad (o:= .tup [.int ((ls.getD t.2.1 0:Nat):Int),.int ((ls.getD t.2.2.1 0:Nat):Int)]) ht2
    generalize upd H2 t2 (.tup [.int ((ls.getD t.2.1 0:Nat):Int),.int ((ls.getD t.2.2.1 0:Nat):Int)])=H4 at s4 ⊢
    have e4:=s4 _ _ e3
    have s34:=s3.trans s4
    refine ⟨_,rfl,l,rfl,⟨_,SqL.of e4⟩,fun D hD=>Ce (K:=K) (a:=l) (xs:=psV ls) (fun i σ ys H5=>∃(u:Option V),σ=[u,some (.int ((ls.getD t.2.1 0:Nat):Int)),some (.int ((ls.getD t.2.2.1 0:Nat):Int))]∧ys=psV (relab (ls.take i) (ls.getD t.2.1 0) (ls.getD t.2.2.1 0))∧Same H4 H5∧H5 D=some (.lst ys)) ⟨none,rfl,rfl,Ad hD,Ab⟩ (fun i σ ys H5 _ ⟨_,_,_,s,e⟩=>⟨SqL.of (s _ _ e4),e⟩) ?_ ?_⟩
    ·rintro i x σ ys H5 hx ⟨u,rfl,rfl,s5,d5⟩
     obtain ⟨z,ez,rfl⟩:∃z:Nat,ls[i]? =some z∧x= .int (z:Int):=by
      unfold psV at hx
      obtain ⟨z,ez,rfl⟩:=Ay hx
      exact ⟨z,ez,rfl⟩
     have il:i<N:=by rw [←hl.len];exact (List.getElem?_eq_some_iff.mp ez).1
     have len:(psV (relab (ls.take i) (ls.getD t.2.1 0) (ls.getD t.2.2.1 0))).length≤60:=by
      unfold psV Wk.relab
      rw [List.length_map,List.length_map,List.length_take]
      omega
     have nx:∀w:Nat,(if z=ls.getD t.2.2.1 0 then ls.getD t.2.1 0 else z)=w→psV (relab (ls.take i) (ls.getD t.2.1 0) (ls.getD t.2.2.1 0))++[V.int (w:Int)]=psV (relab (ls.take (i+1)) (ls.getD t.2.1 0) (ls.getD t.2.2.1 0)):=fun w hw=>by
      unfold Wk.relab psV
      rw [Be ez,List.map_append,List.map_append,List.map_cons,List.map_nil,hw];rfl
     refine ⟨_,rfl,_,rfl,rfl,_,rfl,Bp (fun g=> ?_) fun g=> ?_⟩
     ·exact ⟨_,rfl,d5,Al (by omega),_,rfl,nx _ (if_pos (Int.ofNat.inj (V.int.inj (of_decide_eq_true g)))),Aw s5 hD,Ab⟩
     ·exact ⟨_,rfl,d5,Al (by omega),_,rfl,nx _ (if_neg fun z=>g (decide_eq_true (by rw [z]))),Aw s5 hD,Ab⟩
    ·rintro σ ys H5 ⟨u,rfl,rfl,s5,d5⟩
     have tl:ls.take (psV ls).length=ls:=by unfold psV;rw [List.length_map,List.take_length]
     rw [tl] at d5
     exact ⟨D,_,_,_,_,_,rfl,s34.trans s5,d5,hst⟩
   ·have g:ls.getD t.2.1 0=ls.getD t.2.2.1 0:=by
     have g:¬(!decide ((V.int ((ls.getD t.2.1 0:Nat):Int))=(V.int ((ls.getD t.2.2.1 0:Nat):Int))))=true:=g
     have:=Bool.of_not_eq_true g
     rw [Bool.not_eq_false'] at this
     exact Int.ofNat.inj (V.int.inj (of_decide_eq_true this))
    unfold labG at hst
    rw [g,relab_same] at hst
    exact ⟨l,ls,_,_,_,_,rfl,s3,e3,hst⟩
  ·rintro σ H2 ⟨l,ls,u3,u4,u5,u6,rfl,s3,e3,hl⟩
   rw [List.length_map,hP.1,List.take_length] at hl
   exact ⟨_,rfl,k l ls H2 s3 e3 hl⟩
end
end K38
namespace L2
open PySem PySem.Spec PyProof.Rows
section
variable {X:Cx} {pins:List (Addr×Obj)} {σ:St} {H:Hp} {s:Shared} {a:Addr} {kvs:List (Key×V)}
theorem Inv.fz (I:Inv X pins σ H s) (e:H a=some (.dK kvs)):∃(o:Obj) (es:Array DictEntry) (ep:Nat),o.data= .dict es ep∧Inv X pins σ (upd H a (.frz o (.dK kvs))) s:=by
 obtain ⟨z,lo,vs,rel,dd⟩:=dk_of I.hok e
 obtain ⟨o,es,ep,ho,hc,hd,hr⟩:=dd
 have na:∀b,H b=none→b≠a:=fun b n z=>by rw [z,e] at n;cases n
 have nu:∀b u,H b=some u→(∀k,u≠ .dK k)→upd H a (.frz o (.dK kvs)) b=some u:=fun b u q n=>by
  rw [Ai]
  ·exact q
  ·intro z
   rw [z,e] at q
   cases q
   exact n _ rfl
 have B:=I.base
 refine ⟨o,es,ep,hd,⟨I.ok,I.os,I.bare,⟨B.keep,B.slot,fun b u q n x=> ?_,B.there,fun b xs q=>nu _ _ (B.tups b xs q) (fun k z=>by cases z),fun b u v q=>nu _ _ (B.frzs b u v q) (fun k z=>by cases z),fun b ps q=> ?_⟩,I.loc,I.cell,?_,fun x c q=> ?_,fun p hp=> ?_,fun b u q=> ?_,I.len⟩⟩
 ·rw [Ai (na b (B.free b u q n x))]
  exact B.free b u q n x
 ·obtain ⟨m,h⟩:=B.tbls b ps q
  exact ⟨m,nu _ _ h (fun k z=>by cases z)⟩
 ·rw [Ai (na _ I.free)]
  exact I.free
 ·rw [Ai (na _ (I.freeC x c q))]
  exact I.freeC x c q
 ·obtain ⟨h1,h2,h3⟩:=I.pin p hp
  exact ⟨h1,by rw [Ai (na _ h2)];exact h2,h3⟩
 ·by_cases hb:b=a
  ·subst hb
   rw [Ab] at q
   cases q
   exact ⟨ho,z,lo,vs,rel,o,es,ep,ho,hc,hd,hr⟩
  ·rw [Ai hb] at q
   exact (I.hok b u q).stay (fun c v _ r=>r) (fun c r=>nu _ _ r fun k z=>by cases z) fun c xs r=>nu _ _ r fun k z=>by cases z
theorem fz_at {o:Obj} (I:Inv X pins σ H s) (e:H a=some (.frz o (.dK kvs))):(a==sysModules)=false∧∃(vs:List (Key×Value)) (ep:Nat) (es:Array DictEntry),KV kvs vs∧o.data= .dict es ep∧s.heap.DictAt (Bl X.prog X.w) a vs ep:=by
 obtain ⟨ho,z,lo,vs,rel,dd⟩:=(show ObjOk X.prog X.w H s.heap a (.frz o (.dK kvs)) from I.hok a _ e)
 obtain ⟨ep,hat⟩:=dd.dictAt
 obtain ⟨o',es,h1,h2,h3,h4⟩:=id hat
 rw [ho] at h1
 cases h1
 exact ⟨lo,vs,ep,es,rel,h3,hat⟩
end
theorem pss_fz {X:Cx} {st:List PySem.Stmt} {t:TS} (h:PSs X st t):PSs X st fun D σ H=>∃(a:Addr) (kvs:List (Key×V)),H a=some (.dK kvs)∧∀(o:Obj) (es:Array DictEntry) (ep:Nat),o.data= .dict es ep→t D σ (upd H a (.frz o (.dK kvs))):=by
 intro pins s σ H D I ⟨a,kvs,e,k⟩
 obtain ⟨o,es,ep,hd,I'⟩:=I.fz e
 exact h pins s σ _ D I' (k o es ep hd)
def Itkf (d:Addr) (o:Obj) (ns:List Str):It:=
 ⟨fun i H=>∃kvs,H d=some (.frz o (.dK kvs))∧kvs.map (·.1)=ns.map Sum.inr∧i<ns.length,fun i H x H'=>H'=H∧∃n,ns[i]? =some n∧x= .str n,fun i H=>∃kvs,H d=some (.frz o (.dK kvs))∧kvs.map (·.1)=ns.map Sum.inr∧ns.length≤i⟩
theorem keys_eq {κ:Type} {kvs:List (κ×V)} {vs:List (κ×Value)} (r:KV kvs vs):vs.map (·.1)=kvs.map (·.1):=by
 induction r with
 |nil=>rfl
 |cons r t ih=>rw [List.map_cons,List.map_cons,ih,r.1]
theorem turn_dictF {P:Program} {w:World} {K:PySem.W.Frag} {tg:Expr} {d it:Addr} {o:Obj} {es:Array DictEntry} {ep:Nat} (hd:o.data= .dict es ep) (ns:List Str):Turn P w K tg (Itkf d o ns) [it] it (fun i h=>h.IsKeyIter it d i ns.length ep) where
 mem:=by simp
 obj:=fun i h st b hb=>by
  have e:b=it:=by simpa using hb
  subst e
  obtain ⟨o,e,c,d⟩:=st
  exact ⟨o,e,fun v z=>by rw [d] at z;cases z⟩
 keep:=fun i h h' st k=>st.at fun o e=>k it (by simp) o e
 item:=by
  intro X hP hw hK hc i pins s σ H E I hf st hg
  subst hP hw hK
  obtain ⟨kvs,hq,ek,hi⟩:=hg
  obtain ⟨lo,vs,ep',es',rel,hd',hat⟩:=fz_at I hq
  rw [hd] at hd'
  cases hd'
  have e2:vs.map (·.1)=ns.map Sum.inr:=(keys_eq rel).trans ek
  have len:vs.length=ns.length:=by simpa using congrArg List.length e2
  obtain ⟨f0,f1,f2,f3,f4,f5⟩:=hf it (by simp)
  have hx:vs[i]? =some (.inr ns[i],(vs[i]'(by omega)).2):=by
   rw [List.getElem?_eq_getElem (by omega)]
   congr 1
   have:(vs.map (·.1))[i]? =(ns.map Sum.inr)[i]? :=by rw [e2]
   rw [List.getElem?_map,List.getElem?_map,List.getElem?_eq_getElem hi,List.getElem?_eq_getElem (by omega)] at this
   have:=Option.some.inj this
   exact Prod.ext this rfl
  refine wpAny_pyNext_dict_item (by rw [len];exact st) hat hx fun key h' hk st' sb=> ?_
  rw [len] at st'
  have I1:Inv X pins σ H {s with heap:=h'}:=I.turned (t':=s.toks) (fun b o hb e=>(sb.2 b hb).trans e) f0 f1 f3 f4 f5
  have rk:RelV (.str ns[i]) key:=by
   rcases Bj (show keyIs (Sum.inr ns[i]) key=true from hk) with ⟨i,t,a,_⟩|⟨y,t,a,b⟩
   ·cases a
   ·cases a;exact ⟨t,b⟩
  obtain ⟨oi,e,c,dd⟩:=id st'
  exact ⟨key,rfl,go_of (s:={s with heap:=h'}) e c dd (by decide) ⟨.str ns[i],H,I1,rk,⟨rfl,_,List.getElem?_eq_getElem hi,rfl⟩,st',fun b hb=>(hf b hb).1⟩⟩
 done:=by
  intro X hP hw hK hc i pins s σ H E I hf st hg
  subst hP hw hK
  obtain ⟨kvs,hq,ek,hi⟩:=hg
  obtain ⟨lo,vs,ep',es',rel,hd',hat⟩:=fz_at I hq
  rw [hd] at hd'
  cases hd'
  have e2:vs.map (·.1)=ns.map Sum.inr:=(keys_eq rel).trans ek
  have len:vs.length=ns.length:=by simpa using congrArg List.length e2
  obtain ⟨f0,f1,f2,f3,f4,f5⟩:=hf it (by simp)
  exact wpAny_pyNext_dict_end (I.ok.hd hc) (by rw [len];exact st) hat (List.getElem?_eq_none (by omega)) fun h' eb=>⟨rfl,I.turned (t':=s.toks) (fun b o hb e=>eb b o hb e) f0 f1 f3 f4 f5⟩
 self:=fun _ _ _ _ _ st h=>wpAny_pyIter_keyiter st h
def iDF (td:TE):TI:=fun σ H R=>td σ H fun x H1=>∃(d:Addr) (o:Obj) (kvs:List (Key×V)) (ns:List Str),x= .ref d∧H1 d=some (.frz o (.dK kvs))∧kvs.map (·.1)=ns.map Sum.inr∧R (Itkf d o ns) H1
theorem pi_dF {X:Cx} {tg l:Expr} {tl:TE} (hl:PE X l tl):PI X tg l (iDF tl):=by
 intro pins s σ H R I h
 refine thn (hl pins s σ H _ I h) fun v s1 ⟨x,H1,I1,r1,q1⟩=> ?_
 obtain ⟨a,o,kvs,ns,e,hq,ek,q⟩:=q1
 subst e
 cases r1
 obtain ⟨lo,vs,ep,es,rel,hd,hat⟩:=fz_at I1 hq
 have e2:vs.map (·.1)=ns.map Sum.inr:=(keys_eq rel).trans ek
 have len:vs.length=ns.length:=by simpa using congrArg List.length e2
 refine wpAny_pyIter_dict lo hat ?_
 rw [len]
 refine ⟨s1.heap.objs.size,[s1.heap.objs.size],_,_,H1,rfl,I1.kept (t':=s1.toks) fun b o e=>Heap.get?_push_of_some _ e,turn_dictF hd ns,⟨_,Heap.get?_push_size _ rfl,rfl,rfl⟩,fun b hb=> ?_,q⟩
 have e:b=s1.heap.objs.size:=by simpa using hb
 subst e
 exact I1.fpOk (Nat.le_refl _) (I1.hok.fresh (Nat.le_refl _))
theorem for_dF {d:Addr} {o:Obj} {ns:List Str} {g:TG} {tb:TS} {D:Ends} {σ:St} {H:Hp} (Pv:Nat→St→Hp→Prop) (h0:Pv 0 σ H) (hl:∀i σ H,i≤ns.length→Pv i σ H→∃kvs,H d=some (.frz o (.dK kvs))∧kvs.map (·.1)=ns.map Sum.inr)
  (hs:∀i x σ H,ns[i]? =some x→Pv i σ H→g (.str x) σ H fun σ2 H2=>tb {D with nx:=Pv (i+1),ct:=Pv (i+1),bk:=D.nx} σ2 H2) (hd:∀σ H,Pv ns.length σ H→D.nx σ H):
  ∃W:Nat→Nat→St→Hp→Prop,(∃m,W 0 m σ H)∧∀i m σ H,W i m σ H→
   ((Itkf d o ns).stop i H∧D.nx σ H)∨((Itkf d o ns).go i H∧∃N:St→Hp→Prop,(∀σ' H',N σ' H'→∃m',m'<m∧W (i+1) m' σ' H')∧∀x H',(Itkf d o ns).yld i H x H'→g x σ H' fun σ2 H2=>tb {D with nx:=N,ct:=N,bk:=D.nx} σ2 H2):=by
 refine ⟨fun i m σ H=>m=ns.length - i∧i≤ns.length∧Pv i σ H,⟨ns.length,by simp,Nat.zero_le _,h0⟩,?_⟩
 rintro i m σ H ⟨rfl,hi,p⟩
 obtain ⟨kvs,q,ek⟩:=hl i σ H hi p
 by_cases hlt:i<ns.length
 ·refine .inr ⟨⟨kvs,q,ek,hlt⟩,Pv (i+1),fun σ' H' p'=>⟨ns.length - (i+1),by omega,rfl,hlt,p'⟩,fun x H' y=> ?_⟩
  obtain ⟨e,n,hn,rfl⟩:=y
  subst e
  exact hs i n σ _ hn p
 ·have e:i=ns.length:=by omega
  subst e
  exact .inl ⟨⟨kvs,q,ek,Nat.le_refl _⟩,hd σ H p⟩
theorem comp_dF {g:TG} {ti:TT} {te:TE} {Q:VK} {D:Addr} {σ:St} {H:Hp} {d:Addr} {o:Obj} {ns:List Str} (Pv:Nat→St→List V→Hp→Prop) (h0:Pv 0 σ [] (upd H D (.lst []))) (hl:∀i σ ys H,i≤ns.length→Pv i σ ys H→(∃kvs,H d=some (.frz o (.dK kvs))∧kvs.map (·.1)=ns.map Sum.inr)∧H D=some (.lst ys))
  (hs:∀i x σ ys H,ns[i]? =some x→Pv i σ ys H→cturn g ti te D (.str x) σ ys H (Pv (i+1))) (hd:∀σ ys H,Pv ns.length σ ys H→Q (.ref D) H):
  cgo (Itkf d o ns) g ti te D σ H Q:=by
 refine ⟨fun i m σ ys H=>m=ns.length - i∧i≤ns.length∧Pv i σ ys H,⟨ns.length,by simp,Nat.zero_le _,h0⟩,?_⟩
 rintro i m σ ys H ⟨rfl,hi,p⟩
 obtain ⟨⟨kvs,q,ek⟩,hD⟩:=hl i σ ys H hi p
 refine ⟨hD,?_⟩
 by_cases hlt:i<ns.length
 ·refine .inr ⟨⟨kvs,q,ek,hlt⟩,Pv (i+1),fun σ' ys' H' p'=>⟨ns.length - (i+1),by omega,rfl,hlt,p'⟩,fun x H' y=> ?_⟩
  obtain ⟨e,n,hn,rfl⟩:=y
  subst e
  exact hs i n σ ys _ hn p
 ·have e:i=ns.length:=by omega
  subst e
  exact .inl ⟨⟨kvs,q,ek,Nat.le_refl _⟩,hd σ ys H p⟩
end L2
namespace Srt
open PySem PySem.W PyProof.Rows L2
section
variable {X:Cx}
theorem call_sortedDR (hc:X.calm=true):CallR X (.builtin "sorted") (fun xs H Q=>∃(d:Addr) (kvs:List (Key×V)) (ns:List Str),xs=[.ref d]∧Rd H d (.dK kvs)∧kvs.map (·.1)=ns.map Sum.inr∧ns.length<64∧∀(l:Addr) (ns':List Str),H l=none→ns'.Perm ns→ns'.Pairwise (fun a b=>ltK (.inr b) (.inr a)=false)→Q (.ref l) (upd H l (.lst (ns'.map V.str)))):=by
 intro pins s σ H xs us Q I r h
 obtain ⟨d,kvs,ns,rfl,hd,e,h64,q⟩:=h
 obtain ⟨u,rfl,rx⟩:=vals1 r
 cases rx
 obtain ⟨z,lo,vs,rel,dd⟩:=dk_rd I.hok hd
 obtain ⟨ep,hat⟩:=dd.dictAt
 have ek:vs.map (·.1)=ns.map Sum.inr:=by
  rw [←e]
  clear hat dd e q z hd
  induction rel with
  |nil=>rfl
  |cons r t ih=>rw [List.map_cons,List.map_cons,ih,r.1]
 have len:vs.length=ns.length:=by simpa using congrArg List.length ek
 refine sorted_raw (κ:=oneType') (ord_rows fun i=>[Sum.inr (ns.getD i default)]) (fun us=>Vals (ns.map V.str) us) (fun us hu=>by have:=hu.length;rw [List.length_map] at this;omega) (fun Q hq=> ?_) ?_ ?_ ?_
 ·refine kdu_collect (A:=X.A.in1) (kdl_dict (knd:=Bl X.prog X.w) (kvs:=vs) (ep:=ep) lo) (I.ok.hd hc) hat (by rw [←rel.length];exact z) fun h' tk acc hk hacc=>hq _ h' tk ?_ hk
  have go:∀(vs:List (Key×Value)) (ns:List Str) (us:List Value),vs.map (·.1)=ns.map Sum.inr→us.length=vs.length→(∀(j:Nat) (u:Value),us[j]? =some u→∃k x,vs[j]? =some (k,x)∧(Bl X.prog X.w).is k u=true)→Vals (ns.map V.str) us:=by
   intro vs
   induction vs with
   |nil=>
    intro ns us e1 e2 _
    cases ns with
    |nil=>cases us with
     |nil=>exact .nil
     |cons _ _=>cases e2
    |cons _ _=>cases e1
   |cons p vs ih=>
    intro ns us e1 e2 h
    cases ns with
    |nil=>cases e1
    |cons n ns=>
     cases us with
     |nil=>cases e2
     |cons u us=>
      simp only [List.map_cons,List.cons.injEq] at e1
      refine .cons ?_ (ih ns us e1.2 (by simpa using e2) fun j u hj=>h (j+1) u (by simpa using hj))
      obtain ⟨k,x,hx,hk⟩:=h 0 u rfl
      simp only [List.getElem?_cons_zero,Option.some.injEq] at hx
      have:k=Sum.inr n:=by rw [←e1.1,hx]
      subst this
      rcases Bj (show keyIs (Sum.inr n) u=true from hk) with ⟨i,t,a,_⟩|⟨y,t,a,b⟩
      ·cases a
      ·cases a;exact ⟨t,b⟩
  exact go vs ns acc.toList ek (by rw [Array.length_toList];exact hacc.1) fun j u hj=>hacc.2 j u (by rw [←Array.getElem?_toList];exact hj)
 ·intro us h' t' hu k l2 Q hq
  refine kas_kind (s:={s with heap:=h',toks:=t'}) (T:=Value.type "str") l2 (fun v hv=> ?_) rfl rfl hq
  clear hq l2
  have:∀{ns:List Str} {us:List Value},Vals (ns.map V.str) us→∀v∈us,∃x t,v=Value.str x t:=by
   intro ns
   induction ns with
   |nil=>intro us hu v hv;cases hu;cases hv
   |cons n ns ih=>
    intro us hu v hv
    cases hu with
    |cons r t=>
     rcases List.mem_cons.mp hv with rfl|hv
     ·obtain ⟨t,rfl⟩:=r;exact ⟨_,_,rfl⟩
     ·exact ih t v hv
  obtain ⟨x,t,rfl⟩:=this hu v hv
  exact Looks.of_pure rfl
 ·intro us h' t' hu k i j C hi hj hC
  have lu:=hu.length
  rw [List.length_map] at lu
  obtain ⟨a,ha,ra⟩:=Vals.get hu (i:=i) (x:=V.str (ns.getD i default)) (by simp [show i<ns.length by omega])
  obtain ⟨b,hb,rb⟩:=Vals.get hu (i:=j) (x:=V.str (ns.getD j default)) (by simp [show j<ns.length by omega])
  show wpAny _ _ (keyLt' oneType' (us.getD i Value.none) (us.getD j Value.none)) C _ _
  have e1:us.getD i Value.none=a:=by simp [List.getD,ha]
  have e2:us.getD j Value.none=b:=by simp [List.getD,hb]
  rw [e1,e2,keyLt'_oneType]
  refine key_lt (x:=Sum.inr (ns.getD i default)) (y:=Sum.inr (ns.getD j default)) rfl ra rb ?_
  have:ltR [Sum.inr (ns.getD i default)] [Sum.inr (ns.getD j default)]=ltK (Sum.inr (ns.getD i default)) (Sum.inr (ns.getD j default)):=by
   unfold ltR
   split
   ·rename_i e;rw [e,ltK_irr];rfl
   ·rfl
  rw [←this];exact hC
 ·intro us p h1 h' t' l e hu pm st k1 k zl hl
  have lu:=hu.length
  rw [List.length_map] at lu
  have I:L2.Inv X pins σ H {s with heap:=h1,toks:=t'}:=I.kept k1
  rw [←lu] at pm st
  have pl:=pm.toList
  have pp:(p.toList.map fun i=>ns.getD i default).Perm ns:=by
   have:=pl.map (fun i=>ns.getD i (default:Str))
   rwa [map_range_getD] at this
  have pw:(p.toList.map fun i=>ns.getD i (default:Str)).Pairwise (fun a b=>ltK (.inr b) (.inr a)=false):=by
   rw [List.pairwise_map]
   refine (st.pairwise pm.size).imp fun {a b} hab=> ?_
   unfold ltR at hab
   split at hab
   ·rename_i e;rw [e];exact ltK_irr _
   ·exact hab
  have mem:∀i∈p.toList,i<ns.length:=fun i hi=>by simpa using pl.mem_iff.mp hi
  have vv:Vals ((p.toList.map fun i=>ns.getD i default).map V.str) (p.toList.map fun i=>us.getD i Value.none):=by
   clear hl pw pp pl st pm
   generalize p.toList=il at mem
   induction il with
   |nil=>exact .nil
   |cons i il ih=>
    refine .cons ?_ (ih fun j hj=>mem j (.tail _ hj))
    have hi:=mem i (.head _)
    obtain ⟨a,ha,ra⟩:=Vals.get hu (i:=i) (x:=V.str (ns.getD i default)) (by simp [hi])
    have e1:us.getD i Value.none=a:=by simp [List.getD,ha]
    show L2.RelV (V.str (ns.getD i default)) (us.getD i Value.none)
    rw [e1];exact ra
  refine ⟨.ref l,_,I.laid (t':=t') (o:= .lst ((p.toList.map fun i=>ns.getD i default).map V.str)) k zl ⟨?_,_,e,vv,hl⟩,rfl,q l _ (I.hok.fresh zl) pp pw⟩
  rw [List.length_map,pp.length_eq,sizeLine_eq]
  omega
end
end Srt
namespace PySem
namespace F
theorem lk_list_keys:typeLookup (.type "list") "keys"=pure none:=by rw [typeLookup_type,builtinLookup_eq_fast];kernel_rfl
theorem lk_list_getattr:typeLookup (.type "list") "__getattr__"=pure none:=by rw [typeLookup_type,builtinLookup_eq_fast];kernel_rfl
end F
section
variable {prog:Program} {w:World} {A:Around} {E:Value→Shared→Prop} {h:Heap} {g:Array GenState} {d:Drawn} {t:Nat} {os:OsState} {a:Addr} {n:Nat} {its:Array Value}
theorem first_attr (v:Value):firstArgMember (.type "AttributeError") [v]=pure Value.none:=by kernel_rfl
theorem sub_attr_self:isSubtype (.type "AttributeError") (.type "AttributeError")=pure true:=by rw [isSubtype_type];kernel_rfl
theorem raise_attr {α:Type} {s:Shared} {o:Value} {name msg:Str} {Q:α→Shared→Prop} (hm:msg.length≤sizeLine) (hh:A.handled=none)
  (hq:∀(h':Heap) (e:Addr) (t':Nat),(∀b o,s.heap.get? b=some o→h'.get? b=some o)→(∃o,h'.get? e=some o∧o.cls= .type "AttributeError")→E (.ref e) {s with heap:=h',toks:=t'}):
  wpAny (model prog w) A (raiseAttrError o name msg:Sem α) Q E s:=by
 unfold raiseAttrError
 refine wpAny_bind (wpAny_mkStr ?_ hm)
 unfold newExc newTuple
 refine wpAny_bind (wpAny_bind (wpAny_newObj_type ?_))
 refine wpAny_bind (m:=firstArgMember _ _) (wpAny_of_eq (first_attr _) ?_)
 refine wpAny_newObj_type ?_
 refine wpAny_bind (wpAny_mkText ?_)
 generalize eh1:(s.heap.push {cls:= .type "tuple",data:= .seq #[Value.str msg s.toks]})=h1
 have k1:∀b o,s.heap.get? b=some o→h1.get? b=some o:=fun b o e=>by rw [←eh1];exact Heap.get?_push_of_some _ e
 have ge:=Heap.get?_push_size h1 (o:={cls:= .type "AttributeError",data:= .fields (#[Value.ref s.heap.objs.size,.none,.none,.none,.bool false,.none]++ownMembersOf (.type "AttributeError") [Value.str msg s.toks])}) rfl
 have k2:∀b o,h1.get? b=some o→(h1.push {cls:= .type "AttributeError",data:= .fields (#[Value.ref s.heap.objs.size,.none,.none,.none,.bool false,.none]++ownMembersOf (.type "AttributeError") [Value.str msg s.toks])}).get? b=some o:=fun b o e=>Heap.get?_push_of_some _ e
 have nw:h1.get? h1.objs.size=none:=Heap.get?_none_of_le (Nat.le_refl _)
 generalize h1.objs.size=e at ge nw ⊢
 have eo:(#[Value.ref s.heap.objs.size,.none,.none,.none,.bool false,.none]++ownMembersOf (.type "AttributeError") [Value.str msg s.toks])= #[Value.ref s.heap.objs.size,.none,.none,.none,.bool false,.none,rawInt 0,rawInt 0]:=rfl
 rw [eo] at ge k2 ⊢
 generalize (h1.push {cls:= .type "AttributeError",data:= .fields #[Value.ref s.heap.objs.size,.none,.none,.none,.bool false,.none,rawInt 0,rawInt 0]})=h2 at ge k2 ⊢
 have hT:Shared.TypeIs {s with heap:=h2,toks:=s.toks+1+1} (.ref e) "AttributeError":=⟨_,ge,rfl⟩
 have sb:=sub_attr_self
 refine wpAny_bind ?_
 unfold noteAttr
 dsimp only
 refine wpAny_bind ?_
 unfold lacksNameAndObj
 dsimp only
 refine wpAny_bind (wpAny_isInstance hT sb ?_)
 simp only [Bool.not_true,Bool.false_eq_true,if_false]
 refine wpAny_bind (wpAny_load ge ?_)
 refine wpAny_of_eq (a:=true) (by rfl) ?_
 simp only [if_true]
 refine wpAny_bind (wpAny_rule ?_)
 refine wpAny_bind (wpAny_typeOf hT ?_)
 dsimp only
 unfold layMembers
 refine wpAny_bind (wpAny_load ge ?_)
 dsimp only
 refine wpAny_update ge ?_
 refine wpAny_raiseNew_none hh (hq _ e _ (fun b o' eb=> ?_) ⟨_,Heap.get?_update_self _ ge rfl,rfl⟩)
 have eb2:=k1 _ _ eb
 exact Heap.get?_update_of_ne _ (fun z=>by rw [←z,nw] at eb2;cases eb2) (k2 _ _ (k1 _ _ eb))
theorem keys_entry {tk:Tok} {Q:Fin→Shared→Prop} (hx:h.get? a=some {cls:= .type "list",data:= .seq its n}) (hh:A.handled=none)
  (hq:∀(h':Heap) (e:Addr) (t':Nat),(∀b o,h.get? b=some o→h'.get? b=some o)→(∃o,h'.get? e=some o∧o.cls= .type "AttributeError")→E (.ref e) ⟨h',g,d,t',os⟩):
  wpAny (model prog w) A (Builtin.«object.__getattribute__» ⟨[.ref a,.str "keys" tk],[]⟩) Q E ⟨h,g,d,t,os⟩:=by
 have hT:(⟨h,g,d,t,os⟩:Shared).TypeIs (.ref a) "list":=⟨_,hx,rfl⟩
 have f4:=F.lk_list_keys
 repeat (any_goals (first|assumption|wp_step))
 exact raise_attr (by size_fits) hh hq
theorem keys_call {tk:Tok} {R:Result→Shared→Prop} (hx:h.get? a=some {cls:= .type "list",data:= .seq its n}) (hh:A.handled=none)
  (hq:∀(h':Heap) (e:Addr) (t':Nat),(∀b o,h.get? b=some o→h'.get? b=some o)→(∃o,h'.get? e=some o∧o.cls= .type "AttributeError")→R (.error (.ref e)) ⟨h',g,d,t',os⟩):
  codeAny (model prog w) A (.call (.builtin "list.__getattribute__") ⟨[.ref a,.str "keys" tk],[]⟩) R ⟨h,g,d,t,os⟩:=
 codeAny_call_builtin F.slot_list_getattribute.plain F.entry_list_ga (F.slot_list_getattribute.check _ _ _ _ _ _ _ _ (show (⟨h,g,d,t,os⟩:Shared).TypeIs (.ref a) "list" from ⟨_,hx,rfl⟩) (F.args_list_getattribute_2 _ _) (keys_entry hx (by simpa using hh) hq))
theorem keys_by {tk:Tok} {Q:Value→Shared→Prop} (hx:h.get? a=some {cls:= .type "list",data:= .seq its n}) (hh:A.handled=none)
  (hq:∀(h':Heap) (e:Addr) (t':Nat),(∀b o,h.get? b=some o→h'.get? b=some o)→(∃o,h'.get? e=some o∧o.cls= .type "AttributeError")→E (.ref e) ⟨h',g,d,t',os⟩):
  wpAny (model prog w) A (getAttrBy (.ref a) (.str "keys" tk) false) Q E ⟨h,g,d,t,os⟩:=by
 have hT:(⟨h,g,d,t,os⟩:Shared).TypeIs (.ref a) "list":=⟨_,hx,rfl⟩
 have f2:=F.slot_list_getattribute.lookup
 have f3:=F.slot_list_getattribute.bind (.ref a)
 repeat (any_goals (first|assumption|wp_step))
 refine keys_call hx hh fun h' e t' k ⟨o,ho,hc⟩=> ?_
 have hT2:(⟨h',g,d,t',os⟩:Shared).TypeIs (.ref e) "AttributeError":=⟨_,ho,hc⟩
 show wpAny _ _ (getattributeRaised _ _ _ _ _ _ _) _ _ _
 unfold getattributeRaised
 refine wpAny_bind (wpAny_isInstance hT2 sub_attr_self ?_)
 simp only [if_true]
 refine wpAny_bind (m:=hookBehind _ _) (wpAny_of_eq (show hookBehind (.type "list") none=pure none from F.lk_list_getattr) ?_)
 unfold hookOrError
 unfold attributeErrorLeaves
 simp only [Bool.not_false,if_true]
 exact wpAny_bind (wpAny_throw (hq h' e t' k ⟨o,ho,hc⟩))
theorem keys_attr {Q:Option Value→Shared→Prop} (hx:h.get? a=some {cls:= .type "list",data:= .seq its n}) (hh:A.handled=none)
  (hq:∀(h':Heap) (t':Nat),(∀b o,h.get? b=some o→h'.get? b=some o)→Q none ⟨h',g,d,t',os⟩):
  wpAny (model prog w) A (getAttr? (.ref a) "keys") Q E ⟨h,g,d,t,os⟩:=by
 unfold getAttr? getAttrBy?
 refine wpAny_bind (wpAny_mkText ?_)
 refine wpAny_bind (wpAny_attempt (keys_by hx hh fun h' e t' k ⟨o,ho,hc⟩=> ?_))
 have hT2:(⟨h',g,d,t',os⟩:Shared).TypeIs (.ref e) "AttributeError":=⟨_,ho,hc⟩
 dsimp only
 refine wpAny_bind (wpAny_isInstance hT2 sub_attr_self ?_)
 simp only [if_true]
 exact wpAny_pure (hq h' t' k)
end
end PySem
namespace PySem
namespace F
theorem entry_dict_update_loop:entryFor table "dict.update.loop"=some Builtin.«dict.update.loop» :=entryFor_of_tree (by kernel_rfl)
theorem plain_dict_update_loop:plainId "dict.update.loop"=true:=by decide+kernel
theorem mro_dict:mroOf (.type "dict")=pure [.type "dict",.type "object"]:=by rw [mroOf_type];kernel_rfl
theorem lookup_dict_new:typeLookup (.type "dict") "__new__"=pure (some (.builtin "dict.__new__")):=by rw [typeLookup_type,builtinLookup_eq_fast];kernel_rfl
theorem called_dict:TypeCalled "dict" "dict.__new__" "dict.__init__":=
 ⟨by decide+kernel,by decide+kernel,⟨_,_,mro_dict⟩,madeBy_type mro_dict lookup_dict_new (by decide+kernel),by decide+kernel,by rw [isSubtype_type];kernel_rfl,slot_dict_init⟩
theorem typeCall_dict_1 (a:Value):checkTypeCall "dict" ⟨[a],[]⟩=pure ():=by kernel_rfl
theorem newCall_dict_1 (a:Value):checkBuiltinCall "dict.__new__" ⟨[.type "dict",a],[]⟩=pure ():=by kernel_rfl
theorem entry_dict_new:entryFor table "dict.__new__"=some Builtin.«dict.__new__» :=entryFor_of_tree (by kernel_rfl)
theorem plain_dict_new:plainId "dict.__new__"=true:=by decide+kernel
end F
theorem sub_dict_self:isSubtype (.type "dict") (.type "dict")=pure true:=by rw [isSubtype_type];kernel_rfl
section
variable {prog:Program} {w:World} {A:Around} {E:Value→Shared→Prop} {s:Shared}
theorem code_dict_new (a:Value) {Q₁:Value→Shared→Prop}
  (h:Q₁ (.ref s.heap.objs.size) {s with heap:=s.heap.push {cls:= .type "dict",data:= .dict #[]}}):
  codeAny (model prog w) A (.call (.builtin "dict.__new__") ⟨[.type "dict",a],[]⟩) (wants Q₁ E) s:=by
 refine codeAny_of_tree ?_
 show wpAny _ A.in1 (do checkBuiltinCall "dict.__new__" ⟨[.type "dict",a],[]⟩;again (.builtin "dict.__new__" ⟨[.type "dict",a],[]⟩)) _ _ s
 refine wpAny_bind (wpAny_of_eq (F.newCall_dict_1 a) (wpAny_pure ⟨plainId_quiet F.plain_dict_new _,codeAny_builtin F.entry_dict_new ?_⟩))
 rw [Around.under_plainId F.plain_dict_new _]
 unfold Builtin.«dict.__new__»
 have hsub:=sub_dict_self
 have hm:=F.mro_dict
 obtain ⟨hp,g,d,tk,os⟩:=s
 dsimp only
 wp_walk
 exact h
end
section
variable {prog:Program} {w:World} {A:Around} {R:Result→Shared→Prop} {K:Type} [DecidableEq K] {knd:KeyKind prog w K} {I:Addr} {fp wr:List Addr} {G:Array GenState→Array GenState→Prop} {n:Nat} {P:Nat→Value→Prop} {St:Nat→Shared→Prop}
theorem dict_loop (W:WalksS prog w A.in1 I fp wr G n P St) (D:Addr) (hDf:D ∉ fp) (kvs:List (K×Value)) (hn:kvs.length=n) (h0:Heap)
  (hval:∀i v,P i v→∃(r:Addr) (kv:K×Value) (key:Value) (o:Obj) (m:Nat),v= .ref r∧kvs[i]? =some kv∧knd.is kv.1 key=true∧r≠D∧r ∉ wr∧h0.get? r=some o∧o.cls= .type "tuple"∧o.data= .seq #[key,kv.2] m) (hb:n≤sizeLine):
  ∀(k i:Nat) (s:Shared),n - i=k→i≤n→St i s→s.heap.DictOf knd D (merged [] (kvs.take i))→(∀b o,b≠D→b ∉ wr→h0.get? b=some o→s.heap.get? b=some o)→
   (∀s',Moved (D::wr) G s s'→s'.heap.DictOf knd D (merged [] kvs)→R (.ok (.ret .none)) s')→
   codeAny (model prog w) A (.builtin "dict.update.loop" ⟨[.ref D,.ref I,rawInt i,.none],[]⟩) R s:=by
 have hDw:D ∉ wr:=fun h=>hDf (W.sub _ h)
 have hsub:∀b∈wr,b∈D::wr:=fun b hb=>List.mem_cons_of_mem _ hb
 intro k
 induction k with
 |zero=>
  intro i s hk hi hst hS hkp hR
  have hin:i=n:=by omega
  subst hin
  refine codeAny_builtin F.entry_dict_update_loop ?_
  rw [Around.under_plainId F.plain_dict_update_loop _]
  show wpAny _ A.in1 (pyNext (.ref I) >>=_) _ _ s
  refine wpAny_bind (W.done s _ _ hst fun s' hm=> ?_)
  rw [List.take_of_length_le (by omega)] at hS
  dsimp only
  unfold Builtin.Dict.addKeywords
  have hS':s'.heap.DictOf knd D (merged [] kvs):=by
   obtain ⟨o,es,ep,ho,rest⟩:=hS
   exact ⟨o,es,ep,hm.heap D _ hDw ho,rest⟩
  exact wpAny_bind (wpAny_pure (wpAny_pure (hR s' (hm.mono hsub) hS')))
 |succ k ih=>
  intro i s hk hi hst hS hkp hR
  have hlt:i<n:=by omega
  refine codeAny_builtin F.entry_dict_update_loop ?_
  rw [Around.under_plainId F.plain_dict_update_loop _]
  show wpAny _ A.in1 (pyNext (.ref I) >>=_) _ _ s
  refine wpAny_bind (W.item i s _ _ hlt hst fun v s' hP hst' hm=> ?_)
  obtain ⟨r,kv,key,o,m,rfl,hkv,hkey,rD,rw_,ho,hc,hd⟩:=hval i v hP
  have hS':s'.heap.DictOf knd D (merged [] (kvs.take i)):=by
   obtain ⟨o,es,ep,ho,rest⟩:=hS
   exact ⟨o,es,ep,hm.heap D _ hDw ho,rest⟩
  have ho':s'.heap.get? r=some o:=hm.heap r _ rw_ (hkp r o rD rw_ ho)
  have hT:s'.TypeIs (.ref r) "tuple":=⟨_,ho',hc⟩
  dsimp only
  obtain ⟨hp,g,d,tk,os⟩:=s'
  obtain ⟨oc,od,oda,osl⟩:=o
  simp only at hc hd
  subst hc
  subst hd
  refine wpAny_bind (wpAny_holding (wpAny_bind ?_))
  refine wpAny_tryCatch ?_
  unfold Builtin.Dict.pairItems
  refine wpAny_bind (wpAny_typeOf hT ?_)
  have e1:(Value.type "tuple"==Value.type "list"||Value.type "tuple"==Value.type "tuple")=true:=by decide
  simp only [e1,if_true]
  refine wpAny_bind (wpAny_seqItems ho' rfl (wpAny_pure ?_))
  show wpAny _ _ (holding [key,kv.2] (dictSet D key kv.2)) _ _ _
  have hl:(merged [] (kvs.take i)).length≤i:=by
   have:=merged_length_le [] (kvs.take i)
   rw [List.length_take] at this
   simp only [List.length_nil] at this
   omega
  refine wpAny_holding (wpAny_dictSet_pairs hkey hS' (fun h' hS2 hsb=> ?_) (by omega))
  rw [←merged_take_succ [] kvs i kv hkv] at hS2
  refine wpAny_pure ⟨plainId_quiet F.plain_dict_update_loop _,?_⟩
  refine ih (i+1) _ (by omega) hlt (W.frame _ _ h' _ hst' (Nat.le_succ _) fun b hb o e=> ?_) hS2 (fun b o hb hw e=> ?_) fun s'' hm'' hS''=> ?_
  ·rw [hsb.2 b (fun h:b=D=>hDf (by rw [←h];exact hb))];exact e
  ·rw [hsb.2 b hb];exact hm.heap b _ hw (hkp b o hb hw e)
  ·refine hR s'' (Moved.trans W.gtrans ((hm.mono hsub).then_heap (Nat.le_succ _) fun b o hb e=> ?_) hm'') hS''
   rw [hsb.2 b (fun h:b=D=>hb (by rw [h];exact List.mem_cons_self))];exact e
end
end PySem
namespace PySem
section
variable {prog:Program} {w:World} {A:Around} {E:Value→Shared→Prop} {K:Type} [DecidableEq K] {knd:KeyKind prog w K}
theorem call_dict_list {s:Shared} {l:Addr} {items:Array Value} {m0:Nat} {kvs:List (K×Value)} {Q:Value→Shared→Prop} (hh:A.handled=none) (hl:s.heap.get? l=some {cls:= .type "list",data:= .seq items m0})
  (hi:∀(i:Nat) (v:Value),items[i]? =some v→∃(r:Addr) (kv:K×Value) (key:Value) (o:Obj) (m:Nat),v= .ref r∧kvs[i]? =some kv∧knd.is kv.1 key=true∧s.heap.get? r=some o∧o.cls= .type "tuple"∧o.data= .seq #[key,kv.2] m)
  (hn:kvs.length=items.size) (hb:items.size≤sizeLine) (nd:(kvs.map (·.1)).Nodup)
  (h:∀(h':Heap) (tk:Nat),h'.DictOf knd s.heap.objs.size kvs→(∀b o,s.heap.get? b=some o→h'.get? b=some o)→Q (.ref s.heap.objs.size) {s with heap:=h',toks:=tk}):
  wpAny (model prog w) A (call (.type "dict") [.ref l]) Q E s:=by
 refine callType_codes (Q₁:=fun obj s₁=>obj= .ref s.heap.objs.size∧s₁={s with heap:=s.heap.push {cls:= .type "dict",data:= .dict #[]}}) F.called_dict (F.typeCall_dict_1 _) F.entry_dict_init
  (code_dict_new _ ⟨rfl,rfl⟩) fun obj s₁ h₁=> ?_
 obtain ⟨rfl,rfl⟩:=h₁
 have hS:(s.heap.push {cls:= .type "dict",data:= .dict #[]}).get? s.heap.objs.size=some {cls:= .type "dict",data:= .dict #[]}:=Heap.get?_push_size _ rfl
 have hT:Shared.TypeIs {s with heap:=s.heap.push {cls:= .type "dict",data:= .dict #[]}} (.ref s.heap.objs.size) "dict":=⟨_,hS,rfl⟩
 refine ⟨hT,F.args_dict_init_2 _ _,?_⟩
 have hlS:l<s.heap.objs.size:=Heap.lt_size hl
 have hne:l≠s.heap.objs.size:=Nat.ne_of_lt hlS
 have k1:∀b o,s.heap.get? b=some o→(s.heap.push {cls:= .type "dict",data:= .dict #[]}).get? b=some o:=fun b o e=>Heap.get?_push_of_some _ e
 have hz:s.heap.get? s.heap.objs.size=none:=Heap.get?_none_of_le (Nat.le_refl _)
 generalize s.heap.push {cls:= .type "dict",data:= .dict #[]}=h1 at hS hT k1 ⊢
 generalize s.heap.objs.size=D at hS hT hne hz h hlS ⊢
 unfold Builtin.«dict.__init__» Builtin.Dict.selfAndRest Builtin.Dict.notOrdered
 dsimp only
 refine wpAny_bind (wpAny_bind ?_)
 rw [if_pos (by decide+kernel)]
 refine wpAny_bind (wpAny_typeOf hT ?_)
 rw [if_neg (by decide+kernel)]
 refine wpAny_pure ?_
 refine wpAny_bind (m:=Builtin.Dict.addrOf (.ref D)) (wpAny_of_eq (a:=D) rfl ?_)
 refine wpAny_pure ?_
 show wpAny _ _ (Builtin.Dict.updateFrom "dict.__init__" D (.ref l) [] .none) _ _ _
 unfold Builtin.Dict.updateFrom
 have hl1:=k1 _ _ hl
 have hTl:Shared.TypeIs {s with heap:=h1} (.ref l) "list":=⟨_,hl1,rfl⟩
 refine wpAny_bind (wpAny_typeOf hTl ?_)
 rw [if_pos (by decide+kernel)]
 refine wpAny_bind (keys_attr (t:=s.toks) hl1 (by simpa using hh) fun h2 t2 k2=> ?_)
 dsimp only
 simp only [Option.isNone_none,if_true]
 refine wpAny_bind (wpAny_rule ?_)
 have hl2:=k2 _ _ hl1
 have hL2:h2.IsList l items:=⟨_,hl2,rfl,m0,rfl⟩
 refine wpAny_bind (wpAny_pyIter_list hL2 ?_)
 refine wpAny_pure ⟨plainId_quiet F.plain_dict_update_loop _,?_⟩
 have hS2:=k2 _ _ hS
 have hDlt:D<h2.objs.size:=Heap.lt_size hS2
 have hllt:l<h2.objs.size:=Heap.lt_size hl2
 have hz2:h2.get? h2.objs.size=none:=Heap.get?_none_of_le (Nat.le_refl _)
 have kI:∀b o,h2.get? b=some o→(h2.push {cls:= .type "list_iterator",data:= .fields #[.ref l,.int 0 0]}).get? b=some o:=fun b o e=>Heap.get?_push_of_some _ e
 have hDict:Heap.DictOf knd (h2.push {cls:= .type "list_iterator",data:= .fields #[.ref l,.int 0 0]}) D (merged [] (kvs.take 0)):=by
  have e0:Heap.DictOf knd h2 D ([]:List (K×Value)):=⟨_,#[],_,hS2,⟨rfl,rfl,rfl⟩,rfl,(by intro _ h;simp at h),.nil,.nil⟩
  exact e0.push _
 refine dict_loop (knd:=knd) ((Walks.list (by simpa using hh) _ l (Nat.ne_of_lt hllt) items).toS) D ?_ kvs hn s.heap ?_ hb (items.size - 0) 0 _ (by omega) (Nat.zero_le _) ⟨⟨_,Heap.get?_push_size _ rfl,rfl,rfl⟩,hL2.push _⟩ hDict ?_ ?_
 ·simp only [List.mem_cons,List.mem_singleton,List.not_mem_nil,or_false,not_or]
  exact ⟨Nat.ne_of_lt hDlt,fun e=>hne e.symm⟩
 ·intro i v hv
  obtain ⟨r,kv,key,o,m,e1,e2,e3,e4,e5,e6⟩:=hi i v hv
  refine ⟨r,kv,key,o,m,e1,e2,e3,fun z=> ?_,fun z=> ?_,e4,e5,e6⟩
  ·rw [z,hz] at e4;cases e4
  ·have z:=List.mem_singleton.mp z
   have:=k2 _ _ (k1 _ _ e4)
   rw [z,hz2] at this;cases this
 ·intro b o hb hw e
  exact kI _ _ (k2 _ _ (k1 _ _ e))
 ·intro s' hm hS'
  obtain ⟨h',g',d',tk',os'⟩:=s'
  have eg:g'=s.gens:=hm.gens
  have ed:d'=s.drawn:=hm.drawn
  have eo:os'=s.os:=hm.os
  subst eg;subst ed;subst eo
  rw [merged_nil_of_nodup kvs nd] at hS'
  refine ⟨rfl,h h' tk' hS' fun b o e=> ?_⟩
  refine hm.heap b o ?_ (kI _ _ (k2 _ _ (k1 _ _ e)))
  simp only [List.mem_cons,List.mem_singleton,List.not_mem_nil,or_false,not_or]
  refine ⟨fun z=> ?_,fun z=> ?_⟩
  ·rw [z,hz] at e;cases e
  ·have:=k2 _ _ (k1 _ _ e)
   rw [z,hz2] at this;cases this
end
end PySem
namespace L2
open PySem PySem.Spec PyProof.Rows
section
variable {X:Cx} {pins:List (Addr×Obj)} {σ:St} {H:Hp} {s:Shared}
theorem pairs_vals (I:Inv X pins σ H s):∀(rs:List Addr) (kvs:List (Key×V)),rs.length=kvs.length→(∀(i:Nat) (r:Addr) (kv:Key×V),rs[i]? =some r→kvs[i]? =some kv→H r=some (.tup [kV kv.1,kv.2]))→
  ∃vs:List (Key×Value),KV kvs vs∧∀(i:Nat) (r:Addr),rs[i]? =some r→∃(kv:Key×Value) (key:Value) (o:Obj) (m:Nat),vs[i]? =some kv∧(Bl X.prog X.w).is kv.1 key=true∧s.heap.get? r=some o∧o.cls= .type "tuple"∧o.data= .seq #[key,kv.2] m
 |[],[],_,_=>⟨[],.nil,fun i r h=>by simp at h⟩
 |[],_::_,h,_=>by simp at h
 |_::_,[],h,_=>by simp at h
 |r::rs,kv::kvs,h,hk=>by
  obtain ⟨vs,k1,k2⟩:=pairs_vals I rs kvs (by simpa using h) (fun i r' kv' e1 e2=>hk (i+1) r' kv' (by simpa using e1) (by simpa using e2))
  obtain ⟨its,v,⟨o,eo,ec,m,ed⟩,_⟩:=I.tuple (SqT.of (K:=X.K) (hk 0 r kv rfl rfl))
  obtain ⟨u1,u2,rfl,r1,r2⟩:=vals2 v
  refine ⟨(kv.1,u2)::vs,.cons ⟨rfl,r2⟩ k1,fun i r' e=> ?_⟩
  cases i with
  |zero=>
   have e:r=r':=by simpa using e
   subst e
   exact ⟨(kv.1,u2),u1,o,m,rfl,kV_is r1,eo,ec,ed⟩
  |succ i=>
   obtain ⟨kv',key,o',m',a1,a2⟩:=k2 i r' (by simpa using e)
   exact ⟨kv',key,o',m',by simpa using a1,a2⟩
theorem call_dict_of (hc:X.calm=true):CallR X (.type "dict") (fun xs H Q=>∃(p:Addr) (rs:List Addr) (kvs:List (Key×V)),xs=[.ref p]∧H p=some (.lst (rs.map V.ref))∧rs.length=kvs.length∧(∀(i:Nat) (r:Addr) (kv:Key×V),rs[i]? =some r→kvs[i]? =some kv→H r=some (.tup [kV kv.1,kv.2]))∧(kvs.map (·.1)).Nodup∧∀l,H l=none→Q (.ref l) (upd H l (.dK kvs))):=by
 intro pins s σ H xs us Q I r h
 obtain ⟨p,rs,kvs,rfl,hp,hl,hk,nd,q⟩:=h
 obtain ⟨u,rfl,rx⟩:=vals1 r
 cases rx
 obtain ⟨hz,its,m0,rv,hlen,eo⟩:=I.lstM hp
 rw [List.length_map] at hz hlen
 obtain ⟨vs,kv,hv⟩:=pairs_vals I rs kvs hl hk
 have kl:=kv.length
 refine call_dict_list (knd:=Bl X.prog X.w) (items:=its.toArray) (kvs:=vs) (I.ok.hd hc) eo (fun i v hi=> ?_) (by rw [List.size_toArray];omega) (by rw [List.size_toArray];omega) (by rw [←kv.keys];exact nd) fun h' tk dd kp=> ?_
 ·have hi:its[i]? =some v:=by simpa using hi
  have il:i<rs.length:=by rw [hlen];exact (List.getElem?_eq_some_iff.mp hi).1
  obtain ⟨u,e1,e2⟩:=rv.get (i:=i) (x:= .ref rs[i]) (by simp [il])
  rw [hi] at e1;cases e1
  obtain ⟨kv',key,o,m,a1,a2,a3,a4,a5⟩:=hv i rs[i] (by simp [il])
  exact ⟨rs[i],kv',key,o,m,e2,a1,a2,a3,a4,a5⟩
 ·exact ⟨.ref s.heap.objs.size,_,I.laid (a:=s.heap.objs.size) (o:= .dK kvs) (t':=tk) kp (Nat.le_refl _) (dk_new (by omega) (beq_eq_false_iff_ne.mpr (Ne.symm (Nat.ne_of_lt I.big))) kv dd),rfl,q _ (I.hok.fresh (Nat.le_refl _))⟩
end
end L2
namespace K38
open PySem L2 Wk
abbrev RC:=R6×Addr
def nmZ (Z:List RC):List Str:=Z.map (·.1.1.1)
def adZ (Z:List RC):List Addr:=Z.map (·.2)
def rwZ (Z:List RC):List R6:=Z.map (·.1)
def kvZ (Z:List RC):List (Key×V):=Z.map fun z=>(Sum.inr z.1.1.1,V.ref z.2)
def CelZ (H:Hp) (Z:List RC):Prop:=∀z∈Z,H z.2=some (.lst (C4 z.1))
theorem kvZ_keys (Z:List RC):(kvZ Z).map (·.1)=(nmZ Z).map Sum.inr:=by unfold kvZ nmZ;rw [List.map_map,List.map_map];rfl
theorem nmZ_rw (Z:List RC):nmZ Z=(rwZ Z).map (·.1.1):=by unfold nmZ rwZ;rw [List.map_map];rfl
theorem kvZ_val:∀{Z:List RC},(nmZ Z).Nodup→∀{z:RC},z∈Z→valV (kvZ Z) (Sum.inr z.1.1.1)=some (.ref z.2)
 |[],_,_,h=>by cases h
 |y::Z,nd,z,h=>by
  have nd':y.1.1.1 ∉ nmZ Z∧(nmZ Z).Nodup:=List.nodup_cons.mp nd
  rcases List.mem_cons.mp h with rfl|h
  ·exact valV_pos (p:=(Sum.inr z.1.1.1,V.ref z.2)) rfl
  ·have ne:¬(Sum.inr y.1.1.1:Key)=Sum.inr z.1.1.1:=fun e=>nd'.1 (by
    rw [Sum.inr.inj e]
    exact List.mem_map.mpr ⟨z,h,rfl⟩)
   show valV ((Sum.inr y.1.1.1,V.ref y.2)::kvZ Z) _=_
   rw [valV_neg (p:=(Sum.inr y.1.1.1,V.ref y.2)) ne]
   exact kvZ_val nd'.2 h
theorem UpP.nd {R:List R6} (h:UpP R):(R.map (·.1.1)).Nodup:=by
 unfold UpP at h
 rw [List.nodup_iff_pairwise_ne,List.pairwise_map]
 exact h.imp fun {x y} l e=>by rw [e] at l;exact List.lt_irrefl _ l
theorem asc_same:∀{a b:List Str},a.Perm b→a.Pairwise (fun x y=>¬y.cps.toList<x.cps.toList)→b.Pairwise (fun x y=>x.cps.toList<y.cps.toList)→a=b
 |[],[],_,_,_=>rfl
 |[],_::_,p,_,_=>by cases p.length_eq
 |_::_,[],p,_,_=>by cases p.length_eq
 |x::a,y::b,p,ha,hb=>by
  rw [List.pairwise_cons] at ha hb
  have e:x=y:=by
   have h1:x∈y::b:=p.mem_iff.mp List.mem_cons_self
   have h2:y∈x::a:=p.mem_iff.mpr List.mem_cons_self
   rcases List.mem_cons.mp h1 with h1|h1
   ·exact h1
   rcases List.mem_cons.mp h2 with h2|h2
   ·exact h2.symm
   exact absurd (hb.1 x h1) (ha.1 y h2)
  subst e
  rw [asc_same ((List.perm_cons x).mp p) ha.2 hb.2]
theorem UpP.nms {R:List R6} (h:UpP R) {ns:List Str} (p:ns.Perm (R.map (·.1.1))) (w:ns.Pairwise fun a b=>Srt.ltK (.inr b) (.inr a)=false):ns=R.map (·.1.1):=by
 refine asc_same p (w.imp fun {x y} l=>of_decide_eq_false l) ?_
 unfold UpP at h
 rw [List.pairwise_map]
 exact h
def spKnown:Sp:=fun vs H Q _=>∃(tp:Addr) (rs:List Addr) (R:List R6),vs=[.ref tp]∧H tp=some (.tup (rs.map V.ref))∧RowsAt H rs R∧R.length≤60∧(R.map (·.1.1)).Nodup∧∀(d:Addr) (Z:List RC) (H':Hp),Same H H'→H' d=some (.dK (kvZ Z))→H d=none→rwZ Z=R→CelZ H' Z→(adZ Z).Nodup→(∀b∈adZ Z,H b=none)→Q (.ref d) H'
structure KnZ (H:Hp) (d:Addr) (o:Obj) (Z:List RC):Prop where
 dict:H d=some (.frz o (.dK (kvZ Z)))
 cel:CelZ H Z
 few:Z.length≤60
 up:UpP (rwZ Z)
 nd:(adZ Z).Nodup
theorem KnZ.nms {H:Hp} {d:Addr} {o:Obj} {Z:List RC} (h:KnZ H d o Z):(nmZ Z).Nodup:=by rw [nmZ_rw];exact h.up.nd
theorem KnZ.get {H:Hp} {d:Addr} {o:Obj} {Z:List RC} (h:KnZ H d o Z) {z:RC} (hz:z∈Z):DGet H d (.str z.1.1.1) (some (.ref z.2)):= .inl ⟨kvZ Z,Sum.inr z.1.1.1,.inr ⟨o,h.dict⟩,rfl,(kvZ_val h.nms hz).symm⟩
theorem KnZ.same {H H':Hp} {d:Addr} {o:Obj} {Z:List RC} (h:KnZ H d o Z) (s:Same H H'):KnZ H' d o Z:=⟨s _ _ h.dict,fun z hz=>s _ _ (h.cel z hz),h.few,h.up,h.nd⟩
theorem nm_at {Z:List RC} {i:Nat} {n:Str} (h:(nmZ Z)[i]? =some n):∃z,Z[i]? =some z∧n=z.1.1.1:=by
 unfold nmZ at h
 rw [List.getElem?_map] at h
 cases e:Z[i]? with
 |none=>rw [e] at h;cases h
 |some z=>rw [e] at h;cases h;exact ⟨z,rfl,rfl⟩
def spRowsL:Sp:=fun vs H Q _=>∃(d:Addr) (o:Obj) (Z:List RC),vs=[.ref d]∧KnZ H d o Z∧∀(tp:Addr) (rs:List Addr) (H':Hp),Same H H'→H' tp=some (.tup (rs.map V.ref))→RowsAt H' rs (rwZ Z)→Q (.ref tp) H'
def rLstOf (K:PySem.W.Frag):List V→Hp→VK→Prop:=fun xs H Q=>∃p ys,xs=[.ref p]∧(SqL K H p ys∨SqT K H p ys)∧∀l,H l=none→Q (.ref l) (upd H l (.lst ys))
def rTupOf (K:PySem.W.Frag):List V→Hp→VK→Prop:=fun xs H Q=>∃p ys,xs=[.ref p]∧((SqL K H p ys∧∀l,H l=none→Q (.ref l) (upd H l (.tup ys)))∨(SqT K H p ys∧Q (.ref p) H))
theorem cut_row (x:R6):cutV (rowV x) (some 1) none=C4 x:=by unfold cutV rowV tieV C4;rfl
def PrAt (H:Hp) (ps:List Addr) (Z:List RC):Prop:=ps.length=Z.length∧∀(i:Nat) r z,ps[i]? =some r→Z[i]? =some z→H r=some (.tup [.str z.1.1.1,.ref z.2])
theorem PrAt.mono {H H':Hp} {ps:List Addr} {Z:List RC} (h:PrAt H ps Z) (s:∀r xs,H r=some (.tup xs)→H' r=some (.tup xs)):PrAt H' ps Z:=⟨h.1,fun i r x a b=>s _ _ (h.2 i r x a b)⟩
theorem PrAt.snoc {H:Hp} {qs:List Addr} {P:List RC} {r:Addr} {x:RC} (h:PrAt H qs P) (hr:H r=some (.tup [.str x.1.1.1,.ref x.2])):PrAt H (qs++[r]) (P++[x]):=by
 refine ⟨by rw [List.length_append,List.length_append,h.1];rfl,fun i r0 p0 e1 e2=> ?_⟩
 rw [List.getElem?_append] at e1 e2
 rw [h.1] at e1
 split at e1
 ·rename_i z
  rw [if_pos z] at e2
  exact h.2 i r0 p0 e1 e2
 ·rename_i z
  rw [if_neg z] at e2
  have hz:i - P.length=0:=by
   have:=(List.getElem?_eq_some_iff.mp e1).1
   simp only [List.length_cons,List.length_nil] at this
   omega
  rw [hz] at e1 e2
  cases e1
  cases e2
  exact hr
section
variable {P:Program} {w:World} {K:PySem.W.Frag} {mg:Str→Option Value} {base:Heap}
theorem scKnown:A4 ["_law_rows_here"] ["_law_rows_here"] (Af sKnown):=⟨rfl,rfl,rfl,by decide+kernel,rfl,by decide+kernel,by decide+kernel⟩
theorem ok_Known {f:Addr} {fd:FuncData} (F:Fun K "_law_known" "_law_known" sKnown f fd) (T:Txt mg):
  FnOk P w K mg base CX0 1 f fd ["_law_rows_here"] spKnown:=by
 refine F.ok scKnown (fun vs H Q E h=> ?_) (fun cdv A outer s H vs Q E hr h=> ?_)
 ·obtain ⟨_,_,_,rfl,_⟩:=h;rfl
 ·obtain ⟨tp,rs,R,rfl,ht,hR,R60,nd,k⟩:=h
  refine ⟨_,Ah (As (A6 (call_dict_of rfl) (by rfl) T.dict (by decide+kernel) (Aa (Bn (T:=["_law_row"]) (F:=[]) (js:=[]) (CS.to (osc:=Af sKnown) ⟨by rfl,by decide+kernel,by decide+kernel,by decide+kernel,by decide+kernel,by decide+kernel,by decide+kernel⟩ rfl rfl) rfl (pi_tup (pv 0)) (fun _ _ _ _ _=>Aj (i:=0) (show (["_law_row"]:List Str).Nodup by decide+kernel) rfl (Or.inl rfl)) (fun _ _ _ _ _=>Br) (fun _ _ _ _ _=>Bf (Aa (Az (r:=rIxT K) Bz (pv 0) Ag (fun _ _=>rfl)) (Aa (A6 (r:=rLstOf K) call_list_of (by rfl) T.list (by decide+kernel) (Aa (C0 (r:=rSlTA K) sl_tupA (pv 0) (Ck Ag) po_none) Ac)) Ac)))) Ac))),?_⟩
  refine ⟨_,rfl,tp,rfl,⟨_,SqT.of ht⟩,fun D hD=>C7 (K:=K) (a:=tp) (xs:=rs.map V.ref) (fun j σ ys H2=>∃(u:Option V) (ps:List Addr) (Z:List RC),σ=[u]∧ys=ps.map V.ref∧Same H H2∧H2 D=some (.lst ys)∧PrAt H2 ps Z∧rwZ Z=R.take j∧CelZ H2 Z∧(adZ Z).Nodup∧∀b∈adZ Z,H b=none∧b≠D) ⟨none,[],[],rfl,rfl,Ad hD,Ab,⟨rfl,fun i r t e=>by simp at e⟩,rfl,(fun z hz=>by cases hz),List.nodup_nil,fun b hb=>by cases hb⟩ (fun j σ ys H2 _ ⟨_,_,_,_,_,s,e,_⟩=>⟨SqT.of (s _ _ ht),e⟩) ?_ ?_⟩
  ·rintro j x σ ys H2 hx ⟨u,ps,Z,rfl,rfl,s2,d2,p2,rz,cz,nz,fz⟩
   obtain ⟨r,er,rfl⟩:=Ay hx
   obtain ⟨y,ey,hy⟩:=hR.get er
   have h2:=s2 _ _ hy
   have zl:Z.length≤60:=by
    have:=congrArg List.length rz
    unfold rwZ at this
    rw [List.length_map,List.length_take] at this
    omega
   have ql:ps.length≤60:=by rw [p2.1];exact zl
   refine ⟨_,rfl,r,_,0,_,rfl,rfl,SqT.of h2,Ap (j:=0) rfl,?_⟩
   refine ⟨_,rfl,_,rfl,cut_any h2 fun r4 H3 s3 e3=> ?_⟩
   rw [cut_row] at e3
   refine ⟨r4,_,rfl,.inr (SqT.of e3),fun l hl=> ?_⟩
   have s4:=s3.trans (Ad (o:= .lst (C4 y)) hl)
   have e4:upd H3 l (.lst (C4 y)) l=some (.lst (C4 y)):=Ab
   have lH2:H2 l=none:=by
    cases h:H2 l with
    |none=>rfl
    |some o=>rw [s3 _ _ h] at hl;cases hl
   generalize upd H3 l (.lst (C4 y))=H4 at s4 e4 ⊢
   refine ⟨small (by simp),fun q hq=> ?_⟩
   have s5:=s4.trans (Ad (o:= .tup [.str y.1.1,.ref l]) hq)
   have e5:upd H4 q (.tup [.str y.1.1,.ref l]) l=some (.lst (C4 y)):=Ad hq _ _ e4
   have e6:upd H4 q (.tup [.str y.1.1,.ref l]) q=some (.tup [.str y.1.1,.ref l]):=Ab
   show _∧_
   generalize upd H4 q (.tup [.str y.1.1,.ref l])=H5 at s5 e5 e6 ⊢
   have d5:=s5 _ _ d2
   have lD:l≠D:=fun z=>by rw [z,d2] at lH2;cases lH2
   have kp:∀(r:Addr) (zs:List V) (o:HO),H5 r=some (.tup zs)→upd H5 D o r=some (.tup zs):=fun r zs o e=>by rw [Ai (Cw e d5 (by intro z;cases z))];exact e
   refine ⟨d5,Al (by rw [List.length_map];omega),_,ps++[q],Z++[(y,l)],rfl,by rw [List.map_append];rfl,Aw (s2.trans s5) hD,Ab,?_,?_,fun z hz=> ?_,?_,fun b hb=> ?_⟩
   ·exact (p2.mono fun r xs e=>kp _ _ _ (s5 _ _ e)).snoc (x:=(y,l)) (kp _ _ _ e6)
   ·unfold rwZ at rz ⊢
    rw [List.map_append,rz,Be ey];rfl
   ·rcases List.mem_append.mp hz with hz|hz
    ·have zD:z.2≠D:=(fz _ (List.mem_map.mpr ⟨z,hz,rfl⟩)).2
     rw [Ai zD]
     exact s5 _ _ (cz z hz)
    ·rw [List.mem_singleton.mp hz,Ai (a:=D) lD]
     exact e5
   ·unfold adZ
    rw [List.map_append,List.nodup_append]
    refine ⟨nz,by simp,fun b hb c hc=> ?_⟩
    rw [List.mem_singleton.mp hc]
    rintro rfl
    obtain ⟨z,hz,rfl⟩:=List.mem_map.mp hb
    rw [cz z hz] at lH2
    cases lH2
   ·unfold adZ at hb
    rw [List.map_append] at hb
    rcases List.mem_append.mp hb with hb|hb
    ·exact fz b hb
    ·rw [List.mem_singleton.mp hb]
     refine ⟨?_,lD⟩
     cases h:H l with
     |none=>rfl
     |some o=>rw [s2 _ _ h] at lH2;cases lH2
  rintro σ ys H2 ⟨u,ps,Z,rfl,rfl,s2,d2,p2,rz,cz,nz,fz⟩
  rw [List.length_map,hR.1,List.take_length] at rz
  have len:(kvZ Z).length=Z.length:=by unfold kvZ;rw [List.length_map]
  refine ⟨D,ps,kvZ Z,rfl,d2,by rw [len];exact p2.1,fun i r kv e1 e2=> ?_,?_,fun l hl=> ?_⟩
  ·unfold kvZ at e2
   obtain ⟨z,ez,rfl⟩:=Ay e2
   exact p2.2 i r z e1 ez
  ·rw [kvZ_keys,nmZ_rw,rz]
   exact nd.map _ (fun a b n z=>n (Sum.inr.inj z))
  ·have sl:=Ad (o:= .dK (kvZ Z)) hl
   refine k l Z _ (s2.trans sl) Ab ?_ rz (fun z hz=>sl _ _ (cz z hz)) nz fun b hb=>(fz b hb).1
   cases h:H l with
   |none=>rfl
   |some o=>rw [s2 _ _ h] at hl;cases hl
theorem scRows:A4 ["_law_known_here"] ["_law_known_here"] (Af sRows):=⟨rfl,rfl,rfl,by decide+kernel,rfl,by decide+kernel,by decide+kernel⟩
theorem ok_Rows {f:Addr} {fd:FuncData} (F:Fun K "_law_rows" "_law_rows" sRows f fd) (T:Txt mg):
  FnOk P w K mg base CX0 1 f fd ["_law_known_here"] spRowsL:=by
 refine F.ok scRows (fun vs H Q E h=> ?_) (fun cdv A outer s H vs Q E hr h=> ?_)
 ·obtain ⟨_,_,_,rfl,_⟩:=h;rfl
 ·obtain ⟨d,o,Z,rfl,hZ,k⟩:=h
  refine ⟨_,Ah (As (A6 Bo (by rfl) T.tuple (by decide+kernel) (Aa (Bn (T:=["_law_name"]) (F:=["_law_known_here"]) (js:=[0]) (CS.to (osc:=Af sRows) ⟨by rfl,by decide+kernel,by decide+kernel,by decide+kernel,by decide+kernel,by decide+kernel,by decide+kernel⟩ rfl rfl) rfl (B8 (Ak (Srt.call_sortedDR rfl) (by rfl) T.sorted (by decide+kernel) (Aa (pv 0) Ac))) (fun _ _ _ _ _=>Aj (i:=0) (show (["_law_name","_law_known_here"]:List Str).Nodup by decide+kernel) rfl (Or.inl rfl)) (fun _ _ _ _ _=>Br) (fun _ _ _ _ _=>A1 (r:=rCatTT K) op_catTT (Bf (Aa (pv 0) Ac)) (A6 (r:=rTupOf K) Bo (by rfl) T.tuple (by decide+kernel) (Aa (Cl (hu_of hr) (pv 1) (pv 0) (fun _ _=>rfl)) Ac)))) Ac))),?_⟩
  have nl:(nmZ Z).length=Z.length:=by unfold nmZ;rw [List.length_map]
  refine ⟨_,rfl,d,kvZ Z,nmZ Z,rfl,.inr ⟨o,hZ.dict⟩,kvZ_keys Z,by have:=hZ.few;omega,fun sl ns hsl hp hw=> ?_⟩
  have en:ns=nmZ Z:=by
   rw [nmZ_rw]
   rw [nmZ_rw] at hp
   exact hZ.up.nms hp hw
  subst en
  have s1:=Ad (o:= .lst ((nmZ Z).map V.str)) hsl
  have e1:upd H sl (.lst ((nmZ Z).map V.str)) sl=some (.lst ((nmZ Z).map V.str)):=Ab
  generalize upd H sl (.lst ((nmZ Z).map V.str))=H1 at s1 e1 ⊢
  have h1:=hZ.same s1
  refine ⟨sl,rfl,⟨_,SqL.of e1⟩,fun D hD=>Ce (K:=K) (a:=sl) (xs:=(nmZ Z).map V.str) (fun j σ ys H2=>∃(u:Option V) (rs:List Addr),σ=[u,some (.ref d)]∧ys=rs.map V.ref∧Same H1 H2∧H2 D=some (.lst ys)∧RowsAt H2 rs (rwZ (Z.take j))) ⟨none,[],rfl,rfl,Ad hD,Ab,rfl,fun i r t e=>by simp at e⟩ (fun j σ ys H2 _ ⟨_,_,_,_,s,e,_⟩=>⟨SqL.of (s _ _ e1),e⟩) ?_ ?_⟩
  ·rintro j x σ ys H2 hx ⟨u,rs,rfl,rfl,s2,d2,p2⟩
   obtain ⟨n,hn,rfl⟩:=Ay hx
   obtain ⟨z,ez,rfl⟩:=nm_at hn
   have hz:z∈Z:=List.mem_of_getElem? ez
   have h2:=h1.same s2
   have ql:rs.length≤60:=by
    rw [p2.1]
    unfold rwZ
    rw [List.length_map,List.length_take]
    have:=hZ.few
    omega
   refine ⟨_,rfl,small (by simp),fun q hq=> ?_⟩
   have s3:=Ad (o:= .tup [.str z.1.1.1]) hq
   have e3:upd H2 q (.tup [.str z.1.1.1]) q=some (.tup [.str z.1.1.1]):=Ab
   generalize upd H2 q (.tup [.str z.1.1.1])=H3 at s3 e3 ⊢
   have h3:=h2.same s3
   refine ⟨_,rfl,_,rfl,d,_,rfl,h3.get hz,?_⟩
   refine ⟨z.2,_,rfl,.inl ⟨SqL.of (h3.cel z hz),fun q2 hq2=> ?_⟩⟩
   have s4:=Ad (o:= .tup (C4 z.1)) hq2
   have e4:upd H3 q2 (.tup (C4 z.1)) q2=some (.tup (C4 z.1)):=Ab
   generalize upd H3 q2 (.tup (C4 z.1))=H4 at s4 e4 ⊢
   have e34:=s4 _ _ e3
   refine ⟨q,q2,_,_,rfl,rfl,SqT.of e34,SqT.of e4,Al (by simp),(fun z=>by cases z),(fun _ z=>by cases z),fun _ _ r hr=> ?_⟩
   have s5:=(s3.trans s4).trans (Ad (o:= .tup ([.str z.1.1.1]++C4 z.1)) hr)
   have e5:upd H4 r (.tup ([.str z.1.1.1]++C4 z.1)) r=some (.tup (rowV z.1)):=Ab
   show _∧_
   generalize upd H4 r (.tup ([.str z.1.1.1]++C4 z.1))=H5 at s5 e5 ⊢
   have d5:=s5 _ _ d2
   have kp:∀(r:Addr) (zs:List V) (o:HO),H5 r=some (.tup zs)→upd H5 D o r=some (.tup zs):=fun r zs o e=>by rw [Ai (Cw e d5 (by intro z;cases z))];exact e
   refine ⟨d5,Al (by rw [List.length_map];omega),_,rs++[r],rfl,by rw [List.map_append];rfl,Aw (s2.trans s5) hD,Ab,?_⟩
   rw [Be ez]
   unfold rwZ
   rw [List.map_append]
   exact (p2.mono fun r xs e=>kp _ _ _ (s5 _ _ e)).snoc (kp _ _ _ e5)
  rintro σ ys H2 ⟨u,rs,rfl,rfl,s2,d2,p2⟩
  have tl:Z.take ((nmZ Z).map V.str).length=Z:=by rw [List.length_map,nl,List.take_length]
  rw [tl] at p2
  refine ⟨D,_,rfl,.inl ⟨SqL.of d2,fun tq htq=> ?_⟩⟩
  exact k tq rs _ (s1.trans (s2.trans (Ad htq))) Ab (p2.mono fun r zs e=>Ad htq _ _ e)
end
end K38
namespace L2
open PySem PySem.Spec PyProof.Rows
def layCl (x:Str×NameKind) (cs:List (Str×Addr)):Sem (ForInStep (List (Str×Addr))):=
 if (x.snd==NameKind.cell)=true then do
  let a ←alloc {cls:= .type "cell",data:= .cell none}
  pure (ForInStep.yield ((x.fst,a)::cs))
 else pure (ForInStep.yield cs)
theorem layCl_none {ns:List (Str×NameKind)} (h:∀x∈ns,x.2≠ .cell) (cs:List (Str×Addr)):forIn ns cs layCl=pure cs:=by
 induction ns with
 |nil=>rfl
 |cons x r ih=>
  rw [List.forIn_cons]
  have hb:(x.2==NameKind.cell)=false:=by simpa using h x List.mem_cons_self
  unfold layCl
  simp only [hb,Bool.false_eq_true,if_false,pure_bind]
  exact ih fun z hz=>h z (List.mem_cons_of_mem _ hz)
theorem layCl_one {M:Model} {A:Around} {E:Value→Shared→Prop} {s:Shared} {y:Str} {post:List (Str×NameKind)} {cl:List (Str×Addr)} {Q:List (Str×Addr)→Shared→Prop} (h2:∀x∈post,x.2≠ .cell):
  ∀{pre:List (Str×NameKind)},(∀x∈pre,x.2≠ .cell)→Q ((y,s.heap.objs.size)::cl) {s with heap:=s.heap.push {cls:= .type "cell",data:= .cell none}}→wpAny M A (forIn (pre++(y,.cell)::post) cl layCl) Q E s
 |[],_,q=>by
  rw [List.nil_append,List.forIn_cons]
  refine wpAny_bind ?_
  refine wpAny_bind (wpAny_alloc (wpAny_pure ?_))
  show wpAny M A (forIn post ((y,s.heap.objs.size)::cl) layCl) Q E _
  rw [layCl_none h2]
  exact wpAny_pure q
 |x::pre,h1,q=>by
  rw [List.cons_append,List.forIn_cons]
  have hb:(x.2==NameKind.cell)=false:=by simpa using h1 x List.mem_cons_self
  have e:layCl x cl=pure (ForInStep.yield cl):=by unfold layCl;simp only [hb,Bool.false_eq_true,if_false]
  rw [e,pure_bind]
  exact layCl_one h2 (fun z hz=>h1 z (List.mem_cons_of_mem _ hz)) q
section
variable {M:Model} {A:Around} {E:Value→Shared→Prop} {s:Shared}
theorem wpAny_newEnv_cell {scope:Scope} {y:Str} {pre post:List (Str×NameKind)} {globals:Addr} {cl:List (Str×Addr)} {qual:Str} {func:Option Addr} {code:Value} {outer:Env} {builtins:Addr} {Q:Env→Shared→Prop}
  (hs:scope.names=pre++(y,.cell)::post) (h1:∀x∈pre,x.2≠ .cell) (h2:∀x∈post,x.2≠ .cell)
  (hQ:Q (newEnv scope s.heap.objs.size globals ((y,s.heap.objs.size+1)::cl) qual func code (some outer) builtins) {s with heap:=(s.heap.push {cls:= .type "dict",data:= .dict #[]}).push {cls:= .type "cell",data:= .cell none}}):
  wpAny M A (newFunctionEnv scope globals cl [] qual func code (some outer) builtins) Q E s:=by
 simp only [newFunctionEnv,Option.isSome_some,if_true]
 refine wpAny_bind (wpAny_alloc ?_)
 rw [hs]
 refine wpAny_bind (layCl_one (cl:=cl) h2 h1 ?_)
 rw [List.forIn_nil]
 refine wpAny_pure ?_
 have e:(s.heap.push {cls:= .type "dict",data:= .dict #[]}).objs.size=s.heap.objs.size+1:=Heap.size_push ..
 show Q {scope:=scope,locals:=s.heap.objs.size,globals:=globals,cells:=(y,(s.heap.push {cls:= .type "dict",data:= .dict #[]}).objs.size)::cl,qual:=qual,func:=func,code:=outer.code,frame:=outer.frame,builtins:=outer.builtins} _
 rw [e]
 exact hQ
end
def Cn (X:Cx) (scope:Scope) (y:Str) (N:List Str) (C:Addr) (s:Shared) (H:Hp) (ex:List Addr) (pins:List (Addr×Obj)):Cx where
 prog:=X.prog
 w:=X.w
 K:=X.K
 mg:=X.mg
 base:=X.base
 A:=X.A
 N:=N
 s₀:=s
 H₀:=H
 env:=compEnvC scope ((y,C+1)::Bx X.env scope.names []) C X.env
 outer:=X.stack
 stack:=X.stack
 ex:=ex
 fn:=fun x=>decide (x=y)
 calm:=X.calm
 pn:=X.pn++pins
 xe:=fun _ _=>False
structure CScopeC (X:Cx) (scope:Scope) (y:Str) (F:List Str) (js:List Nat):Prop where
 kind:scope.kind= .function
 cut:∃pre post,scope.names=pre++(y,.cell)::post∧(∀x∈pre,x.2≠ .cell)∧∀x∈post,x.2≠ .cell
 names:∀x∈scope.names,x.2= .local→scope.names.lookup x.1=some .local
 free:∀x∈scope.names,x.2= .free→X.env.kindOf x.1=some .cell
 own:∀x∈scope.names,x.2= .free→x.1≠y
 cel:∀z∈F,(relabel scope X.env).names.lookup z=some .cell∧X.env.kindOf z=some .cell∧(z,NameKind.free)∈scope.names
 all:∀x∈(relabel scope X.env).names,(x.2= .cell∨x.2= .free)→(x.1,NameKind.free)∈scope.names∨x.1=y
 js:js.map (fun j=>X.N[j]?)=F.map some
section
variable {X:Cx} {scope:Scope} {y:Str} {F:List Str} {js:List Nat}
theorem comp_invC {pins:List (Addr×Obj)} {σ:St} {H:Hp} {s:Shared} {h1:Heap} {tk:Nat} {fp:List Addr} {m:Str→Option Value} (S:CScopeC X scope y F js) (I:Inv X pins σ H s)
  (hn:h1.Ns s.heap.objs.size m) (hcl:h1.IsCell (s.heap.objs.size+1) none) (kk:∀b o,s.heap.get? b=some o→h1.get? b=some o) (hf:∀b∈fp,FpOk X pins H b∧∃o,s.heap.get? b=some o∧∀v,o.data≠ .cell v):
  Inv (Cn X scope y (y::F) s.heap.objs.size s H fp pins) [] (cst 1 js σ) H {s with heap:=h1,toks:=tk}:=by
 have sub:=closes_sub (env:=X.env) scope.names [] (fun p hp hk=>by
  obtain ⟨c,e⟩:=I.ok.has p.1 (.inl (S.free p hp hk))
  rw [e];rfl) (fun y c e=>by simp at e)
 have ltC:∀y c,X.env.cells.lookup y=some c→c<s.heap.objs.size:=fun y c e=>by
  obtain ⟨v,z⟩:=I.cell y c e
  exact z.lt
 have two:∀x c,((y,s.heap.objs.size+1)::Bx X.env scope.names []).lookup x=some c→(x=y∧c=s.heap.objs.size+1)∨(x≠y∧(Bx X.env scope.names []).lookup x=some c):=fun x c e=>by
  rw [List.lookup_cons] at e
  cases q:x==y with
  |true=>rw [q] at e;exact .inl ⟨by simpa using q,(Option.some.inj e).symm⟩
  |false=>rw [q] at e;exact .inr ⟨by simpa using q,e⟩
 have skip:∀{x c},x≠y→(Bx X.env scope.names []).lookup x=some c→((y,s.heap.objs.size+1)::Bx X.env scope.names []).lookup x=some c:=fun {x c} n e=>by
  rw [List.lookup_cons]
  have q:(x==y)=false:=by simpa using n
  rw [q]
  exact e
 refine ⟨⟨I.ok.mod,?_,I.ok.glob,I.ok.blt,Nat.le_refl _,fun x z c e1 e2=> ?_,fun x hx=> ?_,fun x c hx e=> ?_,I.ok.hd,I.ok.frames,.inl rfl,fun b hb=> ?_,I.bs,?_,fun b o e hb=> ?_,fun b hb hs=> ?_,I.stack,I.stkFree⟩,
  rfl,I.bare,Un.kept kk,⟨m,hn,fun i x v e1 e2 e3=> ?_⟩,fun x c e=> ?_,I.hok.fresh (Nat.le_refl _),fun x c e=> ?_,fun p hp=> ?_,I.hok.kept kk,?_⟩
 ·show (relabel scope X.env).kind= .function
  exact S.kind
 ·rcases two x c e1 with ⟨a1,a2⟩|⟨a1,a2⟩
  ·rcases two z c e2 with ⟨b1,b2⟩|⟨b1,b2⟩
   ·rw [a1,b1]
   ·exact absurd (a2▸ltC z c (sub z c b2)) (Nat.not_lt.mpr (Nat.le_succ _))
  ·rcases two z c e2 with ⟨b1,b2⟩|⟨b1,b2⟩
   ·exact absurd (b2▸ltC x c (sub x c a2)) (Nat.not_lt.mpr (Nat.le_succ _))
   ·exact I.ok.inj x z c (sub x c a2) (sub z c b2)
 ·have hx:(relabel scope X.env).names.lookup x=some .cell∨(relabel scope X.env).names.lookup x=some .free:=hx
  have hm:(x,NameKind.free)∈scope.names∨x=y:=by
   rcases hx with h|h
   ·exact S.all _ (PySem.mem_of_lookup h) (.inl rfl)
   ·exact S.all _ (PySem.mem_of_lookup h) (.inr rfl)
  show ∃c,((y,s.heap.objs.size+1)::Bx X.env scope.names []).lookup x=some c
  by_cases n:x=y
  ·exact ⟨s.heap.objs.size+1,by rw [List.lookup_cons,n];simp⟩
  ·obtain ⟨c,e⟩:=Option.isSome_iff_exists.mp (closes_has (env:=X.env) scope.names [] (hm.resolve_right n))
   exact ⟨c,skip n e⟩
 ·have hx:x=y:=of_decide_eq_true hx
  rcases two x c e with ⟨_,a2⟩|⟨a1,_⟩
  ·show s.heap.objs.size≤c
   omega
  ·exact absurd hx a1
 ·obtain ⟨⟨f0,f1,f2,f3,f4,f5⟩,o,ho,_⟩:=hf b hb
  refine ⟨Nat.ne_of_lt (Heap.lt_size ho),fun x c e=> ?_⟩
  rcases two x c e with ⟨_,a2⟩|⟨_,a2⟩
  ·intro z
   have hb:=Heap.lt_size ho
   rw [←z,a2] at hb
   exact absurd hb (Nat.not_lt.mpr (Nat.le_succ _))
  ·exact f4 x c (sub x c a2)
 ·exact Nat.le_trans I.ok.bsz I.sz
 ·obtain ⟨⟨f0,f1,f2,f3,f4,f5⟩,_⟩:=hf b hb
  rcases f3 with z|z
  ·exact I.ok.noex b o e z
  ·exact absurd (Nat.lt_of_lt_of_le (Heap.lt_size e) (Nat.le_trans I.ok.bsz z)) (Nat.lt_irrefl _)
 ·obtain ⟨⟨f0,f1,f2,f3,f4,f5⟩,_⟩:=hf b hb
  rcases List.mem_cons.mp (I.stkSub b hs) with z|z
  ·exact f1 z
  ·exact f2 z
 ·have hi:1≤i:=by
   by_cases hi:i<1
   ·unfold cst at e2
    rw [List.getElem?_append_left (by simpa using hi),List.getElem?_replicate] at e2
    split at e2<;> cases e2
   ·exact Nat.not_lt.mp (by assumption)
  obtain ⟨k,rfl⟩:∃k,i=1+k:=⟨i - 1,by omega⟩
  have e1:([y]++F)[1+k]? =some x:=e1
  rw [List.getElem?_append_right (by simp)] at e1
  have e1:F[k]? =some x:=by simpa using e1
  unfold cst at e2
  rw [List.getElem?_append_right (by simp)] at e2
  have e2:(js.map fun j=>(σ[j]?).join)[k]? =some (some v):=by simpa using e2
  rw [List.getElem?_map] at e2
  cases ej:js[k]? with
  |none=>rw [ej] at e2;cases e2
  |some j=>
   rw [ej] at e2
   have e2:(σ[j]?).join=some v:=by simpa using e2
   have e3':σ[j]? =some (some v):=by
    cases q:σ[j]? with
    |none=>rw [q] at e2;cases e2
    |some z=>rw [q] at e2;cases z with
     |none=>cases e2
     |some z=>simp at e2;rw [e2]
   have eN:X.N[j]? =some x:=by
    have q:=congrArg (fun l=>l[k]?) S.js
    simp only [List.getElem?_map,ej,e1] at q
    simpa using q
   obtain ⟨c1,c2,c3⟩:=S.cel x (List.mem_of_getElem? e1)
   obtain ⟨m0,hn0,hl⟩:=I.loc
   obtain ⟨u,ru,lk⟩:=hl j x v eN e3' (.inr (.inl c2))
   refine ⟨u,ru,?_⟩
   rcases lk with ⟨z,_⟩|⟨_,c,ec,hc⟩
   ·rw [c2] at z;cases z
   ·obtain ⟨c',ec'⟩:=Option.isSome_iff_exists.mp (closes_has (env:=X.env) scope.names [] c3)
    have:=sub x c' ec'
    rw [ec] at this;cases this
    refine .inr ⟨.inl c1,c,skip (S.own _ c3 rfl) ec',?_⟩
    obtain ⟨o,ho,hd⟩:=hc
    exact ⟨o,kk _ _ ho,hd⟩
 ·rcases two x c e with ⟨_,a2⟩|⟨_,a2⟩
  ·rw [a2]
   exact ⟨none,hcl⟩
  ·obtain ⟨v,o,ho,hd⟩:=I.cell x c (sub x c a2)
   exact ⟨v,o,kk _ _ ho,hd⟩
 ·rcases two x c e with ⟨_,a2⟩|⟨_,a2⟩
  ·rw [a2]
   exact I.hok.fresh (Nat.le_succ _)
  ·exact I.freeC x c (sub x c a2)
 ·have hp:p∈(X.pn++pins)++[]:=hp
  rw [List.append_nil] at hp
  obtain ⟨e,n,ne,nf,d⟩:=I.pin p hp
  refine ⟨kk _ _ e,n,Nat.ne_of_lt (Heap.lt_size e),fun z=> ?_,d⟩
  rcases List.mem_cons.mp (I.stkSub p.1 z) with q|q
  ·exact ne q
  ·exact nf q
 ·unfold cst
  show _=([y]++F).length
  have q:=congrArg List.length S.js
  simp at q
  simp [q]
theorem comp_outC {pins:List (Addr×Obj)} {σ σ':St} {H H':Hp} {s s':Shared} {h':Heap} {N:List Str} {y:Str} {fp:List Addr} (I:Inv X pins σ H s) (hf:∀b∈fp,FpOk X pins H b)
  (J:Inv (Cn X scope y N s.heap.objs.size s H fp pins) [] σ' H' s') (sb:Heap.SameBut s.heap.objs.size s'.heap h'):Inv X pins σ H' {s' with heap:=h'}:=by
 have ne:∀b o,s.heap.get? b=some o→b≠s.heap.objs.size:=fun b o e=>Nat.ne_of_lt (Heap.lt_size e)
 have u:=J.base
 have u':Un (frs X.stack) fp H H' s.heap h':=
  ⟨fun b o e n h1 h2=>sb.extBut b o (ne b o e) (u.keep b o e n h1 h2),fun b o e n h1 h2=>by
   obtain ⟨sl,q⟩:=u.slot b o e n h1 h2
   exact ⟨sl,sb.extBut b _ (ne b o e) q⟩,u.free,fun b o e h=>by
   obtain ⟨o',q⟩:=u.there b o e h
   exact ⟨o',sb.extBut b _ (ne b o e) q⟩,u.tups,u.frzs,u.tbls⟩
 have nC:H' s.heap.objs.size=none:=J.free
 have hok:HOk X.prog X.w H' h':=fun b o e=>by
  refine (J.hok b o e).stay (fun c v hc q=>sb.extBut c v ?_ q) (fun _ q=>q) fun _ _ q=>q
  rcases hc with z|z
  ·rw [z];intro z';rw [z',nC] at e;cases e
  ·intro z';rw [z',nC] at z;cases z
 exact I.call' (s':={s' with heap:=h'}) J.os u' hok J.bare fun b hb=>by
  obtain ⟨f0,f1,f2,f3,f4,f5⟩:=hf b hb
  exact ⟨f3,f1,f4,f5⟩
theorem comp_goC {tg elt iter:Expr} {ifs:List Expr} {pos:Pos} {g:TG} {ti:TT} {te:TE} {wi:TI} {pins:List (Addr×Obj)} {σ:St} {H:Hp} {s:Shared} {use:Option (Value→Sem Unit)} {QQ:Value→Shared→Prop} {Q:VK} (S:CScopeC X scope y F js) (hc:X.calm=true)
  (hi:PI X tg iter wi) (hg:∀C s H ex pins,PG (Cn X scope y (y::F) C s H ex pins) tg g) (hif:∀C s H ex pins,PIf (Cn X scope y (y::F) C s H ex pins) ifs ti) (he:∀C s H ex pins,PE (Cn X scope y (y::F) C s H ex pins) elt te)
  (I:Inv X pins σ H s) (h:tComp wi g ti te 1 js σ H Q)
  (fin:∀(D C:Addr) (s':Shared) (H':Hp) (m:Str→Option Value),s'.heap.Ns C m→Q (.ref D) H'→FpOk X pins H' C→(∀h',Heap.SameBut C s'.heap h'→Inv X pins σ H' {s' with heap:=h'})→
   compPost (model X.prog X.w) X.A X.xe use QQ (.ref D) C (.ok .next) s')
  (hs:∀x,foldedSetIterable iter X.env x=pure x):
  wpAny (model X.prog X.w) X.A (comprehension (.ListComp elt [⟨tg,iter,ifs,0⟩] scope pos) scope X.env (firstIterPos [⟨tg,iter,ifs,0⟩] pos) (newList []) false (eval iter X.env) use) QQ X.xe s:=by
 refine wpAny_comprehension_free (use:=use) rfl hs (closureFor_closes fun p hp hk=> ?_) S.kind S.names (thn (hi pins s σ H _ I h) fun v s1 h1=>thn h1 fun itv s2 h2=> ?_)
 ·obtain ⟨c,e⟩:=I.ok.has p.1 (.inl (S.free p hp hk))
  rw [e];rfl
 obtain ⟨it,fp,tn,J,H2,rfl,I2,Tn,st2,f2,h2⟩:=h2
 obtain ⟨W,⟨m0,w0⟩,turn⟩:=h2 s2.heap.objs.size I2.fresh
 obtain ⟨pre,post,cut,cut1,cut2⟩:=S.cut
 refine wpAny_newObj_type (wpAny_newEnv_cell cut cut1 cut2 ?_)
 have I3:=I2.lnew (t':=s2.toks) (ys:=[]) (its:=[]) Paired.nil (Nat.zero_le _)
 generalize hs3:({s2 with heap:=s2.heap.push {cls:= .type "list",data:= .seq ([]:List Value).toArray},toks:=s2.toks}:Shared)=s3 at I3
 have hf3:∀b∈fp,FpOk X pins (upd H2 s2.heap.objs.size (.lst [])) b∧∃o,s3.heap.get? b=some o∧∀v,o.data≠ .cell v:=fun b hb=>by
  obtain ⟨f0,fr⟩:=f2 b hb
  obtain ⟨o,e,d⟩:=Tn.obj _ _ st2 b hb
  refine ⟨⟨by rw [Ai (Nat.ne_of_lt (Heap.lt_size e))];exact f0,fr⟩,o,?_,d⟩
  rw [←hs3]
  exact Heap.get?_push_of_some _ e
 have e3:s3.heap=s2.heap.push {cls:= .type "list",data:= .seq ([]:List Value).toArray}:=by rw [←hs3]
 generalize hh1:(s3.heap.push {cls:= .type "dict",data:= .dict #[]}).push {cls:= .type "cell",data:= .cell none}=h₁
 have kk:∀b o,s3.heap.get? b=some o→h₁.get? b=some o:=fun b o e=>by
  rw [←hh1]
  exact Heap.get?_push_of_some _ (Heap.get?_push_of_some _ e)
 have hns:h₁.Ns s3.heap.objs.size (fun _=>none):=by
  rw [←hh1]
  exact (Heap.Ns.new s3.heap (.type "dict")).keeps fun b o e=>Heap.get?_push_of_some _ e
 have hcl:h₁.IsCell (s3.heap.objs.size+1) none:=by
  rw [←hh1]
  have e:(s3.heap.push {cls:= .type "dict",data:= .dict #[]}).objs.size=s3.heap.objs.size+1:=Heap.size_push ..
  rw [←e]
  exact ⟨_,Heap.get?_push_size _ rfl,rfl⟩
 have I4:=comp_invC (tk:=s3.toks) S I3 hns hcl kk hf3
 have stat:∀{H':Hp} {pl:List (Addr×Obj)},(∀p∈pl,∀b∈fp,p.1≠b)→(∀b∈fp,H' b=none)→∀b∈fp,FpOk (Cn X scope y (y::F) s3.heap.objs.size s3 (upd H2 s2.heap.objs.size (.lst [])) fp pins) pl H' b:=fun {H' pl} hp hn b hb=>by
  obtain ⟨⟨f0,f1,f2,f3,f4,f5⟩,o,e,d⟩:=hf3 b hb
  obtain ⟨x1,x2⟩:=I4.ok.exf b hb
  refine ⟨hn b hb,x1,I4.ok.exfs b hb,.inl hb,x2,fun p hq=> ?_⟩
  rcases List.mem_append.mp hq with z|z
  ·exact f5 p z
  ·exact hp p z b hb
 have loop:codeAny (model X.prog X.w) X.A (.compLoop (.ListComp elt [⟨tg,iter,ifs,0⟩] scope pos) 0 (.ref it) (.ref s2.heap.objs.size) (compEnvC scope ((y,s3.heap.objs.size+1)::Bx X.env scope.names []) s3.heap.objs.size X.env))
   (compPost (model X.prog X.w) X.A X.xe use QQ (.ref s2.heap.objs.size) s3.heap.objs.size) {s3 with heap:=h₁,toks:=s3.toks}:=by
  refine codeAny_loop rfl (fun n s'=>∃i σ' ys H',Inv (Cn X scope y (y::F) s3.heap.objs.size s3 (upd H2 s2.heap.objs.size (.lst [])) fp pins) [] σ' H' s'∧tn i s'.heap∧(∀b∈fp,H' b=none)∧W i n σ' ys H') ?_ m0 ⟨0,_,[],_,I4,?_,fun b hb=>(hf3 b hb).1.1,w0⟩
  ·rintro n s5 ⟨i,σ5,ys,H5,I5,st5,fr5,w5⟩
   show wpAny _ X.A ((compTurn (.ListComp elt [⟨tg,iter,ifs,0⟩] scope pos) 0 (.ref it) (.ref s2.heap.objs.size) (compEnvC scope ((y,s3.heap.objs.size+1)::Bx X.env scope.names []) s3.heap.objs.size X.env)).onRaise (fun x=>do noteFrame x _;theTreesLotGoes x)) _ _ s5
   refine wpAny_noted ?_
   rw [compTurn_list]
   refine wpAny_bind (wpAny_standAt (wpAny_bind ?_))
   obtain ⟨hD,tu⟩:=turn i n σ5 ys H5 w5
   rcases tu with ⟨stop,qq⟩|⟨go,NN,hNN,step⟩
   ·refine thn (Tn.done (Cn X scope y (y::F) s3.heap.objs.size s3 (upd H2 s2.heap.objs.size (.lst [])) fp pins) rfl rfl rfl hc i [] s5 σ5 H5 _ I5 (stat (pl:=[]) (fun _ hp=>absurd hp List.not_mem_nil) fr5) st5 stop) fun r s6 ⟨hr,I6⟩=> ?_
    subst hr
    refine wpAny_pure ?_
    obtain ⟨m6,hn6,_⟩:=I6.loc
    have lC:s.heap.objs.size≤s.heap.objs.size:=Nat.le_refl _
    exact fin _ _ s6 H5 m6 hn6 qq (I3.fpOk (Nat.le_refl _) I6.free) fun h' sb=>comp_outC I3 (fun b hb=>(hf3 b hb).1) I6 sb
   ·refine thn (Tn.item (Cn X scope y (y::F) s3.heap.objs.size s3 (upd H2 s2.heap.objs.size (.lst [])) fp pins) rfl rfl rfl hc i [] s5 σ5 H5 _ I5 (stat (pl:=[]) (fun _ hp=>absurd hp List.not_mem_nil) fr5) st5 go) fun r s6 ⟨u,hr,h6⟩=> ?_
    subst hr
    refine wpAny_bind (thn h6 fun _ s7 ⟨x,H7,I7,r7,y7,st7,fr7⟩=> ?_)
    have I7':=I7.pinned (stat (pl:=[]) (fun _ hp=>absurd hp List.not_mem_nil) fr7) (Tn.obj _ _ st7)
    have back:∀{σ8:St} {H8:Hp} {s8:Shared} {ys8:List V} {m':Nat},Inv (Cn X scope y (y::F) s3.heap.objs.size s3 (upd H2 s2.heap.objs.size (.lst [])) fp pins) ([]++pinsAt fp s7.heap) σ8 H8 s8→m'<n→W (i+1) m' σ8 ys8 H8→
      ∃m,m<n∧∃i σ' ys H',Inv (Cn X scope y (y::F) s3.heap.objs.size s3 (upd H2 s2.heap.objs.size (.lst [])) fp pins) [] σ' H' s8∧tn i s8.heap∧(∀b∈fp,H' b=none)∧W i m σ' ys H':=fun {σ8 H8 s8 ys8 m'} I8 hm w8=>by
     refine ⟨m',hm,i+1,σ8,ys8,H8,I8.unpinned,Tn.keep _ _ _ st7 fun b hb o e=>(I8.pin (b,o) (List.mem_append_right _ (List.mem_append_right _ (mem_pinsAt hb e)))).1,fun b hb=> ?_,w8⟩
     obtain ⟨o,e,d⟩:=Tn.obj _ _ st7 b hb
     exact (I8.pin (b,o) (List.mem_append_right _ (List.mem_append_right _ (mem_pinsAt hb e)))).2.1
    refine wpAny_bind (wpAny_mono (hg _ _ _ _ _ _ s7 σ5 H7 x u _ I7' r7 (step x H7 y7)) (fun _ s8 ⟨σ8,H8,I8,q8⟩=> ?_) fun _ _ z=>z.elim)
    refine wpAny_bind (wpAny_mono (hif _ _ _ _ _ _ s8 σ8 H8 _ I8 q8) (fun ok s9 ⟨H9,I9,q9⟩=> ?_) fun _ _ z=>z.elim)
    cases ok with
    |false=>
     rw [if_neg Bool.false_ne_true] at q9
     obtain ⟨m',hm,w9⟩:=hNN _ _ _ q9
     exact wpAny_pure ⟨rfl,back I9 hm w9⟩
    |true=>
     rw [if_pos rfl] at q9
     refine wpAny_bind (wpAny_bind (wpAny_mono (he _ _ _ _ _ _ s9 σ8 H9 _ I9 q9) (fun yv s10 ⟨y,H10,I10,r10,d10,l10,q10⟩=> ?_) fun _ _ z=>z.elim))
     obtain ⟨m',hm,w10⟩:=hNN _ _ _ q10
     obtain ⟨z10,its,n10,rv,el,eo⟩:=I10.lstM d10
     refine wpAny_bind (wpAny_list_append_plain (items:=its.toArray) ⟨n10,eo⟩ (fun h' hl' sb'=> ?_) (by simp;omega))
     obtain ⟨n11,eo'⟩:=hl'
     have I11:=I10.write (x:=s2.heap.objs.size) (e:=s2.heap.objs.size) (o:= .lst (ys++[y])) (t':=s10.toks) (by rw [d10];exact trivial) (.inl rfl) (fun b o hb e=>sb'.extBut b o hb e) ⟨_,eo'⟩ ⟨by simp;assumption,its++[yv],n11,rv.append (.cons r10 .nil),by simpa using eo'⟩
     exact wpAny_pure (wpAny_pure ⟨rfl,back I11 hm w10⟩)
  ·refine Tn.keep _ _ _ st2 fun b hb o e=>kk b o ?_
   rw [e3]
   exact Heap.get?_push_of_some _ e
 have st1:tn 0 h₁:=Tn.keep _ _ _ st2 fun b hb o e=>kk b o (by rw [e3];exact Heap.get?_push_of_some _ e)
 exact codeAny_compStart_list loop (Tn.self _ 0 _ _ _ st1 loop)
theorem pe_compC {tg elt iter:Expr} {ifs:List Expr} {pos:Pos} {g:TG} {ti:TT} {te:TE} {wi:TI} (S:CScopeC X scope y F js) (hc:X.calm=true)
  (hi:PI X tg iter wi) (hg:∀C s H ex pins,PG (Cn X scope y (y::F) C s H ex pins) tg g) (hif:∀C s H ex pins,PIf (Cn X scope y (y::F) C s H ex pins) ifs ti) (he:∀C s H ex pins,PE (Cn X scope y (y::F) C s H ex pins) elt te)
  (hs:∀x,foldedSetIterable iter X.env x=pure x:=by intro _;rfl):PE X (.ListComp elt [⟨tg,iter,ifs,0⟩] scope pos) (tComp wi g ti te 1 js):=by
 intro pins s σ H Q I h
 rw [eval_ListComp]
 exact comp_goC (use:=none) S hc hi hg hif he I h (fun D C s' H' m hn q _ hinv=>⟨m,hn,fun h' sb=>⟨.ref D,H',hinv h' sb,rfl,q⟩⟩) hs
end
structure CSC (osc scope:Scope) (y:Str) (F:List Str):Prop where
 kind:scope.kind= .function
 cut:∃pre post,scope.names=pre++(y,.cell)::post∧(∀x∈pre,x.2≠ .cell)∧∀x∈post,x.2≠ .cell
 names:∀x∈scope.names,x.2= .local→scope.names.lookup x.1=some .local
 free:∀x∈scope.names,x.2= .free→osc.names.lookup x.1=some .cell
 own:∀x∈scope.names,x.2= .free→x.1≠y
 cel:∀z∈F,(relab scope osc).names.lookup z=some .cell∧osc.names.lookup z=some .cell∧(z,NameKind.free)∈scope.names
 all:∀x∈(relab scope osc).names,(x.2= .cell∨x.2= .free)→(x.1,NameKind.free)∈scope.names∨x.1=y
theorem CSC.to {X:Cx} {scope osc:Scope} {y:Str} {F:List Str} {js:List Nat} (h:CSC osc scope y F) (hj:js.map (fun j=>X.N[j]?)=F.map some) (ho:X.env.scope=osc):CScopeC X scope y F js:=by
 subst ho
 exact ⟨h.kind,h.cut,h.names,h.free,h.own,h.cel,h.all,hj⟩
end L2
namespace K38
open PySem L2 Wk
theorem cutT2 (x:R6):cutV (C4 x) none (some 2)=[.int (x.1.2.1:Int),.int (x.1.2.2.1:Int)]:=by unfold cutV C4;rfl
theorem PLsAt.snoc {H:Hp} {qs:List Addr} {S:List T4} {r:Addr} {t:T4} (h:PLsAt H qs S) (hr:H r=some (.lst [.int (t.2.1:Int),.int (t.2.2.1:Int)])):PLsAt H (qs++[r]) (S++[t]):=by
 refine ⟨by rw [List.length_append,List.length_append,h.1];rfl,fun i r0 p0 e1 e2=> ?_⟩
 rw [List.getElem?_append] at e1 e2
 rw [h.1] at e1
 split at e1
 ·rename_i z
  rw [if_pos z] at e2
  exact h.2 i r0 p0 e1 e2
 ·rename_i z
  rw [if_neg z] at e2
  have hz:i - S.length=0:=by
   have:=(List.getElem?_eq_some_iff.mp e1).1
   simp only [List.length_cons,List.length_nil] at this
   omega
  rw [hz] at e1 e2
  cases e1
  cases e2
  exact hr
theorem PLsAt.mono {H H':Hp} {qs:List Addr} {S:List T4} (h:PLsAt H qs S) (s:∀q∈qs,∀u,H q=some u→H' q=some u):PLsAt H' qs S:=⟨h.1,fun i r x a b=>s _ (List.mem_of_getElem? a) _ (h.2 i r x a b)⟩
theorem rw_take {Z:List RC} {j:Nat} {z:RC} (e:Z[j]? =some z):rwZ (Z.take (j+1))=rwZ (Z.take j)++[z.1]:=by
 unfold rwZ
 rw [Be e,List.map_append];rfl
theorem tiz_snoc {Z:List RC} {j:Nat} {z:RC} (e:Z[j]? =some z) (p:R6→Bool):tiF (rwZ (Z.take (j+1))) p=tiF (rwZ (Z.take j)) p++(if p z.1=true then [z.1.1] else []):=by rw [rw_take e,ti_snoc]
theorem part_labs {N p:Nat} {S:List T4} {ls:List Nat} (hl:LabOk N S ls) (hS:InN N S) (hp:p<N) (hN:N≤60):(List.range N).filter (fun v=>decide (ls.getD v 0=ls.getD p 0))=Ct N S p:=by
 have:∀v∈List.range N,decide (ls.getD v 0=ls.getD p 0)=decide (v∈Ct N S p):=fun v hv=>by
  have hv:=List.mem_range.mp hv
  rw [Bool.eq_iff_iff,decide_eq_true_eq,decide_eq_true_eq,hl.iff v p hv hp,mem_part hS hp hN]
  exact ⟨fun h=>⟨hv,h.symm⟩,fun h=>h.2.symm⟩
 rw [List.filter_congr this]
 unfold Ct
 refine List.filter_congr fun v hv=> ?_
 rw [Bool.eq_iff_iff,decide_eq_true_eq,List.mem_filter]
 exact ⟨fun h=>h.2,fun h=>⟨hv,h⟩⟩
theorem lsi {ls:List Nat} {v:Nat} (h:v<ls.length):(psV ls)[v]? =some (.int ((ls.getD v 0:Nat):Int)):=ps_ix h
def spParts:Sp:=fun vs H Q _=>∃(N:Nat) (d e:Addr) (o:Obj) (Z:List RC) (L:Nat) (x:R6),vs=[.int (N:Int),.ref d,.int (L:Int),.ref e]∧KnZ H d o Z∧PlN N (rwZ Z)∧N≤60∧H e=some (.lst [.int (x.1.2.1:Int),.int (x.1.2.2.1:Int)])∧x.1.2.1<N∧x.1.2.2.1<N∧∀(l:Addr) (qs:List Addr) (H':Hp),Same H H'→H' l=some (.lst (qs.map V.ref))→PtA H' qs (twoF N (tiF (rwZ Z) (kpB L)) x)→Q (.ref l) H'
section
variable {P:Program} {w:World} {K:PySem.W.Frag} {mg:Str→Option Value} {base:Heap}
theorem scParts:A4 ["_law_many_here","_law_known_here","_law_layer","_law_ends","_law_pairs","_law_labels"] ["_law_many_here","_law_known_here","_law_layer","_law_ends"] (Af sParts):=⟨rfl,rfl,rfl,by decide+kernel,rfl,by decide+kernel,by decide+kernel⟩
theorem ok_Parts {f:Addr} {fd:FuncData} (F:Fun K "_law_parts" "_law_parts" sParts f fd) (T:Txt mg)
  {gGroups:Addr} {fGroups:FuncData} (kGroups:PySem.W.keepIn K (.ref gGroups)=true) (bGroups:Binds K fGroups ["_law_many_here","_law_pairs"] []) (hGroups:mg "_law_groups"=some (.ref gGroups)) (GGroups:FnOk P w K mg base CX0 1 gGroups fGroups ["_law_many_here","_law_pairs"] spGroups):
  FnOk P w K mg base CX0 2 f fd ["_law_many_here","_law_known_here","_law_layer","_law_ends"] spParts:=by
 refine F.ok scParts (fun vs H Q E h=> ?_) (fun cdv A outer s H vs Q E hr h=> ?_)
 ·obtain ⟨_,_,_,_,_,_,_,rfl,_⟩:=h;rfl
 ·obtain ⟨N,d,e,o,Z,L,x,rfl,hZ,hPl,N60,he,hp,hq,k⟩:=h
  refine ⟨_,Ae (ps_comp (i:=4) (T:=["_law_name"]) (F:=["_law_layer","_law_known_here"]) (js:=[2,1]) scParts.nd rfl (Or.inl rfl) (CS.to (osc:=Af sParts) ⟨by rfl,by decide+kernel,by decide+kernel,by decide+kernel,by decide+kernel,by decide+kernel,by decide+kernel⟩ rfl rfl) rfl (pi_dF (pv 1)) (fun _ _ _ _ _=>Aj (i:=0) (show (["_law_name","_law_layer","_law_known_here"]:List Str).Nodup by decide+kernel) rfl (Or.inl rfl)) (fun _ _ _ _ _=>Cv (PW.pt (pw_and (A9 (Az (r:=rIxL K) Ax (Cl (hu_of hr) (pv 2) (pv 0) (fun _ _=>rfl)) Ag (fun _ _=>rfl))) (pw_and1 (Ao op_ge (Az (r:=rIxL K) Ax (Cl (hu_of hr) (pv 2) (pv 0) (fun _ _=>rfl)) Ag (fun _ _=>rfl)) (pv 1) (An _)))))) (fun _ _ _ _ _=>C0 (r:=rSlL K) sl_list (Cl (hu_of hr) (pv 2) (pv 0) (fun _ _=>rfl)) po_none (Ck Ag)))
   (Ae (Au (i:=5) scParts.nd rfl (Or.inr rfl) (Aq GGroups hr rfl hGroups kGroups bGroups .nil A5 (Aa (pv 0) (Aa (pv 4) Ac))))
   (Ah (As (pe_compC (y:="_law_end") (F:=["_law_many_here","_law_labels"]) (js:=[0,5]) (CSC.to (osc:=Af sParts) ⟨by rfl,⟨[(".0",.local)],_,rfl,by decide+kernel,by decide+kernel⟩,by decide+kernel,by decide+kernel,by decide+kernel,by decide+kernel,by decide+kernel⟩ rfl rfl) rfl (B8 (pv 3)) (fun _ _ _ _ _=>Aj (i:=0) (show (["_law_end","_law_many_here","_law_labels"]:List Str).Nodup by decide+kernel) rfl (Or.inr rfl)) (fun _ _ _ _ _=>Br) (fun _ _ _ _ _=>A6 (r:=rTupOf K) Bo (by rfl) T.tuple (by decide+kernel) (Aa (Bn (T:=["_law_place"]) (F:=["_law_labels","_law_end"]) (js:=[2,0]) (CS.to (osc:={kind:= .function,names:=[(".0",.local),("_law_end",.cell),("tuple",.globalImplicit),("range",.globalImplicit),("_law_labels",.cell),("_law_many_here",.cell)],isGenerator:=false,isCoroutine:=false}) ⟨by rfl,by decide+kernel,by decide+kernel,by decide+kernel,by decide+kernel,by decide+kernel,by decide+kernel⟩ rfl rfl) rfl (Cg rfl T.range (Aa (pv 1) Ac)) (fun _ _ _ _ _=>Aj (i:=0) (show (["_law_place","_law_labels","_law_end"]:List Str).Nodup by decide+kernel) rfl (Or.inl rfl)) (fun _ _ _ _ _=>Cv (Ao Cq (Az (r:=rIxL K) Ax (pv 1) (pv 0) (fun _ _=>rfl)) (Az (r:=rIxL K) Ax (pv 1) (pv 2) (fun _ _=>rfl)) (An _))) (fun _ _ _ _ _=>pv 0)) Ac)))))),?_⟩
  refine ⟨_,rfl,d,o,kvZ Z,nmZ Z,rfl,hZ.dict,kvZ_keys Z,fun D hD=>comp_dF (fun i σ ys H2=>∃(u:Option V) (ps:List Addr),σ=[u,some (.int (L:Int)),some (.ref d)]∧ys=ps.map V.ref∧Same H H2∧H2 D=some (.lst ys)∧PLsAt H2 ps (tiF (rwZ (Z.take i)) (kpB L))∧∀q∈ps,q≠D) ⟨none,[],rfl,rfl,Ad hD,Ab,⟨rfl,fun i r t e=>by simp at e⟩,fun q hq=>by cases hq⟩ (fun i σ ys H2 _ ⟨_,_,_,_,s,e,_⟩=>⟨⟨_,s _ _ hZ.dict,kvZ_keys Z⟩,e⟩) ?_ ?_⟩
  ·rintro i n σ ys H2 hn ⟨u,ps,rfl,rfl,s2,d2,p2,nD⟩
   obtain ⟨z,ez,rfl⟩:=nm_at hn
   have hz:z∈Z:=List.mem_of_getElem? ez
   have h2:=hZ.same s2
   have ql:ps.length≤60:=by
    rw [p2.1]
    refine Nat.le_trans (ti_len _ _) ?_
    unfold rwZ
    rw [List.length_map,List.length_take]
    have:=hZ.few
    omega
   have no:kpB L z.1=false→(∃(u:Option V) (ps':List Addr),[some (.str z.1.1.1),some (.int (L:Int)),some (.ref d)]=[u,some (.int (L:Int)),some (.ref d)]∧ps.map V.ref=ps'.map V.ref∧Same H H2∧H2 D=some (.lst (ps.map V.ref))∧PLsAt H2 ps' (tiF (rwZ (Z.take (i+1))) (kpB L))∧∀q∈ps',q≠D):=fun g=>⟨_,ps,rfl,rfl,s2,d2,by rw [tiz_snoc ez,if_neg (by rw [g];decide),List.append_nil];exact p2,nD⟩
   refine ⟨_,rfl,_,rfl,d,_,rfl,h2.get hz,z.2,_,4,_,rfl,rfl,SqL.of (h2.cel z hz),Ap (j:=4) rfl,_,rfl,?_⟩
   refine Bp (fun c2=> ?_) fun c2=> ?_
   ·have c2:z.1.2.2=true:=c2
    refine ⟨_,rfl,_,rfl,d,_,rfl,h2.get hz,z.2,_,3,_,rfl,rfl,SqL.of (h2.cel z hz),Ap (j:=3) rfl,_,rfl,_,_,rfl,rfl,_,rfl,?_⟩
    refine Bp (fun c=> ?_) fun c=> ?_
    ·have c:L≤z.1.2.1:=by have:=of_decide_eq_true c;omega
     refine ⟨_,rfl,_,rfl,d,_,rfl,h2.get hz,_,rfl,z.2,_,rfl,SqL.of (h2.cel z hz),fun q hq=> ?_⟩
     rw [cutT2]
     have s3:=Ad (o:= .lst [.int (z.1.1.2.1:Int),.int (z.1.1.2.2.1:Int)]) hq
     have e3:upd H2 q (.lst [.int (z.1.1.2.1:Int),.int (z.1.1.2.2.1:Int)]) q=some (.lst [.int (z.1.1.2.1:Int),.int (z.1.1.2.2.1:Int)]):=Ab
     have qD:q≠D:=fun y=>by rw [y,d2] at hq;cases hq
     show _∧_
     generalize upd H2 q (.lst [.int (z.1.1.2.1:Int),.int (z.1.1.2.2.1:Int)])=H3 at s3 e3 ⊢
     have d3:=s3 _ _ d2
     have yes:kpB L z.1=true:=by simp [kpB,c,c2]
     refine ⟨d3,Al (by rw [List.length_map];omega),_,ps++[q],rfl,by rw [List.map_append];rfl,Aw (s2.trans s3) hD,Ab,?_,fun b hb=> ?_⟩
     ·rw [tiz_snoc ez,if_pos yes]
      exact (p2.mono fun b hb u e=>by rw [Ai (nD b hb)];exact s3 _ _ e).snoc (by rw [Ai qD];exact e3)
     ·rcases List.mem_append.mp hb with hb|hb
      ·exact nD b hb
      ·rw [List.mem_singleton.mp hb];exact qD
    ·have c:¬L≤z.1.2.1:=fun y=>c (decide_eq_true (by omega))
     exact no (by simp [kpB,c])
   ·have c2:¬z.1.2.2=true:=c2
    exact no (by simp [kpB,c2])
  rintro σ ys H2 ⟨u,ps,rfl,rfl,s2,d2,p2,nD⟩
  have tl:Z.take (nmZ Z).length=Z:=by
   have:(nmZ Z).length=Z.length:=by unfold nmZ;rw [List.length_map]
   rw [this,List.take_length]
  rw [tl] at p2
  have hS:InN N (tiF (rwZ Z) (kpB L)):=hPl.inN _
  generalize tiF (rwZ Z) (kpB L)=S at p2 hS k
  refine ⟨_,rfl,_,rfl,N,D,ps,S,rfl,d2,p2,hS,N60,fun l ls H3 s3 e3 hl=> ?_⟩
  have s23:=s2.trans s3
  have he3:=s23 _ _ he
  refine ⟨_,rfl,e,rfl,⟨_,SqL.of he3⟩,fun D2 hD2=>Ce (K:=K) (a:=e) (xs:=[.int (x.1.2.1:Int),.int (x.1.2.2.1:Int)]) (fun i σ zs H4=>∃(u:Option V) (qs:List Addr),σ=[u,some (.int (N:Int)),some (.ref l)]∧zs=qs.map V.ref∧Same H3 H4∧H4 D2=some (.lst zs)∧qs.length=i∧PtA H4 qs ((twoF N S x).take i)) ⟨none,[],rfl,rfl,Ad hD2,Ab,rfl,rfl,fun i r x e=>by simp at e⟩ (fun i σ zs H4 _ ⟨_,_,_,_,s,e,_⟩=>⟨SqL.of (s _ _ he3),e⟩) ?_ ?_⟩
  ·rintro i v σ zs H4 hv ⟨u,qs,rfl,rfl,s4,d4,ql,p4⟩
   obtain ⟨q,hq1,rfl⟩:=pair_at hv
   have i2:i<2:=(List.getElem?_eq_some_iff.mp hv).1
   have qN:q<N:=by
    match i,hq1 with
    |0,hq1=>cases hq1;exact hp
    |1,hq1=>cases hq1;exact hq
    |n+2,hq1=>exact absurd hq1 (by simp)
   have e4:=s4 _ _ e3
   refine ⟨_,rfl,(N:Int),rfl,by omega,by omega,fun E1 hE1=>Cb (lo:=0) (n:=(N:Int).toNat) (fun j σ ys H5=>∃(u:Option V),σ=[u,some (.ref l),some (.int (q:Int))]∧ys=psV ((List.range j).filter fun v=>decide (ls.getD v 0=ls.getD q 0))∧Same H4 H5∧H5 E1=some (.lst ys)) ⟨none,rfl,rfl,Ad hE1,Ab⟩ (fun j σ ys H5 _ ⟨_,_,_,_,e⟩=>e) ?_ ?_⟩
   ·rintro j σ ys H5 hj ⟨u,rfl,rfl,s5,d5⟩
    have hj:j<N:=by omega
    have e5:=s5 _ _ e4
    have ij:=lsi (ls:=ls) (v:=j) (by rw [hl.len];exact hj)
    have iq:=lsi (ls:=ls) (v:=q) (by rw [hl.len];exact qN)
    have len:(psV ((List.range j).filter fun v=>decide (ls.getD v 0=ls.getD q 0))).length≤60:=by
     unfold psV
     rw [List.length_map]
     exact Nat.le_trans (List.length_filter_le _ _) (by rw [List.length_range];omega)
    have j0:(0:Int)+(j:Int)=(j:Int):=by omega
    rw [j0]
    refine ⟨_,rfl,_,rfl,l,_,_,_,rfl,rfl,SqL.of e5,Ap ij,_,rfl,_,rfl,l,_,_,_,rfl,rfl,SqL.of e5,Ap iq,rfl,_,rfl,Bp (fun g=> ?_) fun g=> ?_⟩
    ·have g:ls.getD j 0=ls.getD q 0:=Int.ofNat.inj (V.int.inj (of_decide_eq_true g))
     refine ⟨_,rfl,d5,Al (by omega),_,rfl,?_,Aw s5 hE1,Ab⟩
     rw [List.range_succ,List.filter_append,List.filter_cons_of_pos (by rw [g];exact decide_eq_true rfl)]
     unfold psV
     rw [List.map_append];rfl
    ·have g:¬ls.getD j 0=ls.getD q 0:=fun y=>g (decide_eq_true (by rw [y]))
     refine ⟨_,rfl,?_,s5,d5⟩
     rw [List.range_succ,List.filter_append,List.filter_cons_of_neg (by simpa using g),List.filter_nil,List.append_nil]
   rintro σ ys H5 ⟨u,rfl,rfl,s5,d5⟩
   rw [show (N:Int).toNat=N by omega,part_labs hl hS qN N60] at d5
   refine ⟨E1,_,rfl,.inl ⟨SqL.of d5,fun pt hpt=> ?_⟩⟩
   have s6:=s5.trans (Ad (o:= .tup (psV (Ct N S q))) hpt)
   have e6:upd H5 pt (.tup (psV (Ct N S q))) pt=some (.tup (psV (Ct N S q))):=Ab
   show _∧_
   generalize upd H5 pt (.tup (psV (Ct N S q)))=H6 at s6 e6 ⊢
   have d6:=s6 _ _ d4
   have kp:∀(r:Addr) (zs:List V) (o:HO),H6 r=some (.tup zs)→upd H6 D2 o r=some (.tup zs):=fun r zs o e=>by rw [Ai (Cw e d6 (by intro z;cases z))];exact e
   refine ⟨d6,Al (by rw [List.length_map];omega),_,qs++[pt],rfl,by rw [List.map_append];rfl,Aw (s4.trans s6) hD2,Ab,by rw [List.length_append,ql];rfl,?_⟩
   rw [Be (two_at hq1)]
   exact (p4.same fun r xs e=>kp _ _ _ (s6 _ _ e)).snoc (kp _ _ _ e6)
  rintro σ zs H4 ⟨u,qs,rfl,rfl,s4,d4,ql,p4⟩
  exact k D2 qs H4 (s23.trans s4) d4 p4
end
end K38
namespace K38
open PySem L2 Wk
def ofF (R:List R6) (L:Nat) (ps:List Nat) (b:Bool) (e:Nat):List Str:=(R.filter fun x=>decide (x.2.1=L) && (decide (x.2.2=b) && decide (cntF ps x=e))).map (·.1.1)
theorem of_loose (R:List R6) (L:Nat) (ps:List Nat) (e:Nat):ofF R L ps false e=Bv R L ps e:=by
 unfold ofF Bv looF
 rw [List.filter_filter]
 congr 1
 refine List.filter_congr fun x _=> ?_
 cases x.2.2<;> cases decide (x.2.1=L)<;> cases decide (cntF ps x=e)<;> rfl
theorem cnt_sum (ps:List Nat) (x:R6):((if decide (x.1.2.1∈ps)=true then (1:Int) else 0)+(if decide (x.1.2.2.1∈ps)=true then (1:Int) else 0))=((cntF ps x:Nat):Int):=by
 unfold cntF
 rw [List.filter_cons,List.filter_cons,List.filter_nil]
 by_cases a:x.1.2.1∈ps<;> by_cases b:x.1.2.2.1∈ps<;> simp [a,b]
theorem of_len (R:List R6) (L:Nat) (ps:List Nat) (b:Bool) (e:Nat):(ofF R L ps b e).length≤R.length:=by
 unfold ofF
 rw [List.length_map]
 exact List.length_filter_le _ _
theorem of_snoc {R:List R6} {x:R6} {L:Nat} {ps:List Nat} {b:Bool} {e:Nat}:ofF (R++[x]) L ps b e=ofF R L ps b e++(if (decide (x.2.1=L) && (decide (x.2.2=b) && decide (cntF ps x=e)))=true then [x.1.1] else []):=by
 unfold ofF
 rw [List.filter_append,List.map_append]
 congr 1
 rw [List.filter_cons,List.filter_nil]
 by_cases g:(decide (x.2.1=L) && (decide (x.2.2=b) && decide (cntF ps x=e)))=true
 ·rw [if_pos g,if_pos g];rfl
 ·rw [if_neg g,if_neg g];rfl
theorem cnt_raw (ps:List Nat) (x:R6):((if (if false=true then !inV (.int (x.1.2.1:Int)) (psV ps) else inV (.int (x.1.2.1:Int)) (psV ps))=true then (1:Int) else 0)+(if (if false=true then !inV (.int (x.1.2.2.1:Int)) (psV ps) else inV (.int (x.1.2.2.1:Int)) (psV ps))=true then (1:Int) else 0))=((cntF ps x:Nat):Int):=by
 have i1:∀p:Nat,(if false=true then !inV (.int (p:Int)) (psV ps) else inV (.int (p:Int)) (psV ps))=decide (p∈ps):=fun p=>by rw [if_neg (by decide)];exact inV_ps p ps
 rw [i1,i1]
 exact cnt_sum ps x
def spOfLayer:Sp:=fun vs H Q _=>∃(d pl:Addr) (o:Obj) (Z:List RC) (L e:Nat) (ps:List Nat) (b:Bool),vs=[.ref d,.int (L:Int),.ref pl,.bl b,.int (e:Int)]∧KnZ H d o Z∧H pl=some (.tup (psV ps))∧∀(l:Addr) (H':Hp),Same H H'→H l=none→H' l=some (.lst ((ofF (rwZ Z) L ps b e).map V.str))→Q (.ref l) H'
section
variable {P:Program} {w:World} {K:PySem.W.Frag} {mg:Str→Option Value} {base:Heap}
theorem scOfLayer:A4 ["_law_known_here","_law_layer","_law_places","_law_is_kept","_law_ends","_law_found","_law_name","_law_row"] ["_law_known_here","_law_layer","_law_places","_law_is_kept","_law_ends"] (Af sOfLayer):=⟨rfl,rfl,rfl,by decide+kernel,rfl,by decide+kernel,by decide+kernel⟩
theorem ok_OfLayer {f:Addr} {fd:FuncData} (F:Fun K "_law_of_layer" "_law_of_layer" sOfLayer f fd) (T:Txt mg):
  FnOk P w K mg base CX0 1 f fd ["_law_known_here","_law_layer","_law_places","_law_is_kept","_law_ends"] spOfLayer:=by
 refine F.ok scOfLayer (fun vs H Q E h=> ?_) (fun cdv A outer s H vs Q E hr h=> ?_)
 ·obtain ⟨_,_,_,_,_,_,_,_,rfl,_⟩:=h;rfl
 ·obtain ⟨d,pl,o,Z,L,e,ps,b,rfl,hZ,hp,k⟩:=h
  refine ⟨_,Ae (Au (i:=5) scOfLayer.nd rfl (Or.inl rfl) (Ch Ac))
   (Ae (C3 PassesOwn.never rfl (pi_dF (pv 0)) (Aj (i:=6) scOfLayer.nd rfl (Or.inl rfl)) (Ae (Au (i:=7) scOfLayer.nd rfl (Or.inl rfl) (Cl (hu_of hr) (pv 0) (pv 6) (fun _ _=>rfl)))
   (Ah (A8 (PW.pt (pw_and (Ao Cq (Az Ax (pv 7) Ag (fun _ _=>rfl)) (pv 1) (An _)) (pw_and (Ao Cq (Az Ax (pv 7) Ag (fun _ _=>rfl)) (pv 3) (An _)) (pw_and1 (Ao Cq (A1 Bs (A6 call_int1 (by rfl) T.int (by decide+kernel) (Aa (A7 op_in_seq (Az Ax (pv 7) Ag (fun _ _=>rfl)) (pv 2) (by rfl)) Ac)) (A6 call_int1 (by rfl) T.int (by decide+kernel) (Aa (A7 op_in_seq (Az Ax (pv 7) Ag (fun _ _=>rfl)) (pv 2) (by rfl)) Ac))) (pv 4) (An _)))))) (Ah (Cp (pe_bm PySem.F.plainAttrs_list PySem.F.slot_list_append PySem.F.type_list_append Bu (pv 5) (Aa (pv 6) Ac)))) Av))))
   (Ah (As (pv 5)))),?_⟩
  refine ⟨small (by simp),fun fl hfl=> ?_⟩
  have s1:=Ad (o:= .lst []) hfl
  have e1:upd H fl (.lst []) fl=some (.lst []):=Ab
  generalize upd H fl (.lst [])=H1 at s1 e1 ⊢
  have h1:=hZ.same s1
  refine ⟨_,rfl,d,o,kvZ Z,nmZ Z,rfl,h1.dict,kvZ_keys Z,for_dF (fun i σ H2=>∃(u6 u7:Option V),σ=[some (.ref d),some (.int (L:Int)),some (.ref pl),some (.bl b),some (.int (e:Int)),some (.ref fl),u6,u7]∧Same H H2∧H2 fl=some (.lst ((ofF (rwZ (Z.take i)) L ps b e).map V.str))) ⟨none,none,rfl,s1,e1⟩ (fun i σ H2 _ ⟨_,_,_,s,_⟩=>⟨_,s _ _ hZ.dict,kvZ_keys Z⟩) ?_ ?_⟩
  ·rintro i n σ H2 hn ⟨u6,u7,rfl,s2,d2⟩
   obtain ⟨z,ez,rfl⟩:=nm_at hn
   have hz:z∈Z:=List.mem_of_getElem? ez
   have h2:=hZ.same s2
   have c2:=h2.cel z hz
   have p2:=s2 _ _ hp
   have ql:((ofF (rwZ (Z.take i)) L ps b e).map V.str).length≤60:=by
    rw [List.length_map]
    refine Nat.le_trans (of_len _ _ _ _ _) ?_
    unfold rwZ
    rw [List.length_map,List.length_take]
    have:=hZ.few
    omega
   have tk:=rw_take ez
   have no:∀(u7:Option V),¬((decide (z.1.2.1=L) && (decide (z.1.2.2=b) && decide (cntF ps z.1=e)))=true)→∃(v6 v7:Option V),[some (.ref d),some (.int (L:Int)),some (.ref pl),some (.bl b),some (.int (e:Int)),some (.ref fl),some (.str z.1.1.1),u7]=[some (.ref d),some (.int (L:Int)),some (.ref pl),some (.bl b),some (.int (e:Int)),some (.ref fl),v6,v7]∧Same H H2∧H2 fl=some (.lst ((ofF (rwZ (Z.take (i+1))) L ps b e).map V.str)):=fun u7 g=>⟨_,_,rfl,s2,by rw [tk,of_snoc,if_neg g,List.append_nil];exact d2⟩
   refine ⟨_,rfl,_,rfl,d,_,rfl,h2.get hz,?_⟩
   refine ⟨_,rfl,z.2,_,3,_,rfl,rfl,SqL.of c2,Ap (j:=3) rfl,_,rfl,rfl,_,rfl,Bp (fun g1=> ?_) fun g1=> ?_⟩
   ·have g1:z.1.2.1=L:=Int.ofNat.inj (V.int.inj (of_decide_eq_true g1))
    refine ⟨_,rfl,z.2,_,4,_,rfl,rfl,SqL.of c2,Ap (j:=4) rfl,_,rfl,rfl,_,rfl,Bp (fun g2=> ?_) fun g2=> ?_⟩
    ·have g2:z.1.2.2=b:=V.bl.inj (of_decide_eq_true g2)
     refine ⟨_,rfl,z.2,_,0,_,rfl,rfl,SqL.of c2,Ap (j:=0) rfl,_,rfl,pl,_,rfl,.inr (SqT.of p2),rfl,psV_flat _,.inr ⟨_,rfl,?_⟩⟩
     refine ⟨_,rfl,z.2,_,1,_,rfl,rfl,SqL.of c2,Ap (j:=1) rfl,_,rfl,pl,_,rfl,.inr (SqT.of p2),rfl,psV_flat _,.inr ⟨_,rfl,?_⟩⟩
     refine ⟨_,_,rfl,rfl,?_⟩
     refine ⟨_,rfl,rfl,_,rfl,Bp (fun g3=> ?_) fun g3=> ?_⟩
     ·have g3:cntF ps z.1=e:=Int.ofNat.inj ((cnt_raw ps z.1).symm.trans (V.int.inj (of_decide_eq_true g3)))
      refine ⟨_,rfl,.inl ⟨rfl,_,SqL.of d2⟩,_,rfl,fl,_,_,rfl,rfl,d2,Al (by omega),_,_,rfl,Aw s2 hfl,?_⟩
      rw [Ab,tk,of_snoc,if_pos (by rw [decide_eq_true g1,decide_eq_true g2,decide_eq_true g3];rfl),List.map_append];rfl
     ·have g3:¬cntF ps z.1=e:=fun y=>g3 (decide_eq_true (congrArg V.int ((cnt_raw ps z.1).trans (by rw [y]))))
      exact no _ (by rw [decide_eq_false g3,Bool.and_false,Bool.and_false];decide)
    ·have g2:¬z.1.2.2=b:=fun y=>g2 (decide_eq_true (congrArg V.bl y))
     exact Bt (no _ (by rw [decide_eq_false g2,Bool.false_and,Bool.and_false];decide))
   ·have g1:¬z.1.2.1=L:=fun y=>g1 (decide_eq_true (by rw [y]))
    exact Bt (no _ (by rw [decide_eq_false g1,Bool.false_and];decide))
  rintro σ H2 ⟨u6,u7,rfl,s2,d2⟩
  have tl:Z.take (nmZ Z).length=Z:=by
   have:(nmZ Z).length=Z.length:=by unfold nmZ;rw [List.length_map]
   rw [this,List.take_length]
  rw [tl] at d2
  exact ⟨_,rfl,k fl H2 s2 hfl d2⟩
end
end K38
namespace K38
open PySem L2 Wk
def putZ (Z:List RC) (c:Addr) (x:R6):List RC:=Z.map fun y=>if y.2=c then (x,y.2) else y
theorem adZ_put (Z:List RC) (c:Addr) (x:R6):adZ (putZ Z c x)=adZ Z:=by
 unfold adZ putZ
 rw [List.map_map]
 refine List.map_congr_left fun y _=> ?_
 show (if y.2=c then (x,y.2) else y).2=y.2
 split<;> rfl
theorem one_cell:∀{Z:List RC},(adZ Z).Nodup→∀{y z:RC},y∈Z→z∈Z→y.2=z.2→y=z
 |[],_,_,_,h,_,_=>by cases h
 |w::Z,nd,y,z,hy,hz,e=>by
  have nd':w.2 ∉ adZ Z∧(adZ Z).Nodup:=List.nodup_cons.mp nd
  rcases List.mem_cons.mp hy with a1|a1
  ·rcases List.mem_cons.mp hz with a2|a2
   ·rw [a1,a2]
   ·exact absurd (List.mem_map.mpr ⟨z,a2,by rw [←e,a1]⟩) nd'.1
  ·rcases List.mem_cons.mp hz with a2|a2
   ·exact absurd (List.mem_map.mpr ⟨y,a1,by rw [e,a2]⟩) nd'.1
   ·exact one_cell nd'.2 a1 a2 e
theorem tie_put {Z:List RC} (nd:(adZ Z).Nodup) {z:RC} (hz:z∈Z) {x:R6} (hx:x.1=z.1.1):(putZ Z z.2 x).map (·.1.1)=Z.map (·.1.1):=by
 unfold putZ
 rw [List.map_map]
 refine List.map_congr_left fun y hy=> ?_
 show (if y.2=z.2 then (x,y.2) else y).1.1=y.1.1
 split
 ·rename_i e
  rw [one_cell nd hy hz e]
  exact hx
 ·rfl
theorem nmZ_tie {Z Y:List RC} (h:Y.map (·.1.1)=Z.map (·.1.1)):nmZ Y=nmZ Z:=by
 have:=congrArg (List.map (·.1)) h
 rw [List.map_map,List.map_map] at this
 exact this
theorem up_nm {Z:List RC}:UpP (rwZ Z)↔(nmZ Z).Pairwise (fun a b=>a.cps.toList<b.cps.toList):=by
 unfold UpP rwZ nmZ
 rw [List.pairwise_map,List.pairwise_map]
theorem kvZ_zip {Z Y:List RC} (h:Y.map (·.1.1)=Z.map (·.1.1)) (g:adZ Y=adZ Z):kvZ Y=kvZ Z:=by
 have e:∀W:List RC,kvZ W=((W.map (·.1.1)).zip (adZ W)).map fun q=>(Sum.inr q.1.1,V.ref q.2):=fun W=>by
  unfold kvZ adZ
  rw [List.zip_map',List.map_map];rfl
 rw [e,e,h,g]
theorem put_ne {Z:List RC} {c:Addr} {x:R6} {H:Hp} {d:Addr} {o:Obj} (h:KnZ H d o Z) (hc:c∈adZ Z):d≠c:=fun e=>by
 obtain ⟨z,hz,rfl⟩:=List.mem_map.mp hc
 have:=h.cel z hz
 rw [←e,h.dict] at this
 cases this
theorem KnZ.put {H:Hp} {d:Addr} {o:Obj} {Z:List RC} (h:KnZ H d o Z) {z:RC} (hz:z∈Z) {x:R6} (hx:x.1=z.1.1):KnZ (upd H z.2 (.lst (C4 x))) d o (putZ Z z.2 x):=by
 have ht:=tie_put h.nd hz hx
 refine ⟨?_,fun y hy=> ?_,?_,?_,?_⟩
 ·rw [kvZ_zip ht (adZ_put ..),Ai (put_ne (x:=x) h (List.mem_map.mpr ⟨z,hz,rfl⟩))]
  exact h.dict
 ·unfold putZ at hy
  obtain ⟨w,hw,rfl⟩:=List.mem_map.mp hy
  by_cases e:w.2=z.2
  ·rw [if_pos e]
   show upd _ _ _ w.2=_
   rw [e]
   exact Ab
  ·rw [if_neg e,Ai e]
   exact h.cel w hw
 ·unfold putZ
  rw [List.length_map]
  exact h.few
 ·rw [up_nm,nmZ_tie ht,←up_nm]
  exact h.up
 ·rw [adZ_put]
  exact h.nd
def riseR (ns:List Str) (x:R6):R6:=if x.1.1∈ns then (x.1,x.2.1+1,x.2.2) else x
def riseZ (ns:List Str) (Z:List RC):List RC:=Z.map fun z=>(riseR ns z.1,z.2)
theorem riseZ_ad (ns:List Str) (Z:List RC):adZ (riseZ ns Z)=adZ Z:=by unfold adZ riseZ;rw [List.map_map];rfl
theorem riseZ_rw (ns:List Str) (Z:List RC):rwZ (riseZ ns Z)=(rwZ Z).map (riseR ns):=by unfold rwZ riseZ;rw [List.map_map,List.map_map];rfl
theorem riseZ_nil (Z:List RC):riseZ [] Z=Z:=by
 unfold riseZ riseR
 conv=>rhs;rw [←List.map_id Z]
 exact List.map_congr_left fun z _=>by simp
theorem rise_snoc {Z:List RC} (nd:(adZ Z).Nodup) (nn:(nmZ Z).Nodup) {ns:List Str} {z:RC} (hz:z∈Z) (hn:z.1.1.1 ∉ ns):putZ (riseZ ns Z) z.2 (z.1.1,z.1.2.1+1,z.1.2.2)=riseZ (ns++[z.1.1.1]) Z:=by
 unfold putZ riseZ
 rw [List.map_map]
 refine List.map_congr_left fun y hy=> ?_
 show (if y.2=z.2 then (((z.1.1,z.1.2.1+1,z.1.2.2):R6),y.2) else (riseR ns y.1,y.2))=(riseR (ns++[z.1.1.1]) y.1,y.2)
 by_cases e:y.2=z.2
 ·rw [if_pos e]
  have:=one_cell nd hy hz e
  subst this
  unfold riseR
  rw [if_pos (List.mem_append_right _ (List.mem_singleton.mpr rfl))]
 ·rw [if_neg e]
  have ne:y.1.1.1≠z.1.1.1:=fun h=>e (by
   have a1:=kvZ_val nn hy
   rw [h,kvZ_val nn hz] at a1
   injection a1 with a1
   injection a1 with a1
   exact a1.symm)
  unfold riseR
  by_cases g:y.1.1.1∈ns
  ·rw [if_pos g,if_pos (List.mem_append_left _ g)]
  ·rw [if_neg g,if_neg (fun h=>by
    rcases List.mem_append.mp h with h|h
    ·exact g h
    ·exact ne (List.mem_singleton.mp h))]
def BtZ (Z:List RC) (H H':Hp):Prop:=∀b o,H b=some o→b ∉ adZ Z→H' b=some o
def spRise:Sp:=fun vs H Q _=>∃(d nl:Addr) (o:Obj) (Z:List RC) (ns:List Str),vs=[.ref d,.ref nl]∧KnZ H d o Z∧H nl=some (.lst (ns.map V.str))∧ns.Nodup∧(∀n∈ns,n∈nmZ Z)∧∀(H':Hp),BtZ Z H H'→KnZ H' d o (riseZ ns Z)→Q .non H'
section
variable {P:Program} {w:World} {K:PySem.W.Frag} {mg:Str→Option Value} {base:Heap}
theorem scRise:A4 ["_law_known_here","_law_names_here","_law_name"] ["_law_known_here","_law_names_here"] (Af sRise):=⟨rfl,rfl,rfl,by decide+kernel,rfl,by decide+kernel,by decide+kernel⟩
theorem ok_Rise {f:Addr} {fd:FuncData} (F:Fun K "_law_rise" "_law_rise" sRise f fd) (T:Txt mg):
  FnOk P w K mg base CX0 1 f fd ["_law_known_here","_law_names_here"] spRise:=by
 refine F.ok scRise (fun vs H Q E h=> ?_) (fun cdv A outer s H vs Q E hr h=> ?_)
 ·obtain ⟨_,_,_,_,_,rfl,_⟩:=h;rfl
 ·obtain ⟨d,nl,o,Z,ns,rfl,hZ,hl,nd,hin,k⟩:=h
  refine ⟨_,Ah (C3 PassesOwn.never rfl (B8 (pv 1)) (Aj (i:=2) scRise.nd rfl (Or.inl rfl)) (Ah (ps_asg (A1 Bs (Az Ax (Cl (hu_of hr) (pv 0) (pv 2) (fun _ _=>rfl)) Ag (fun _ _=>rfl)) Ag) (pg_sub (Cl (hu_of hr) (pv 0) (pv 2) (fun _ _=>rfl)) (Ag) set_list)))),?_⟩
  have nlZ:nl ∉ adZ Z:=fun h=>by
   obtain ⟨z,hz,e⟩:=List.mem_map.mp h
   have:=hZ.cel z hz
   have e:z.2=nl:=e
   rw [e,hl] at this
   injection this with this
   injection this with this
   unfold C4 at this
   cases ns with
   |nil=>cases this
   |cons n ns=>rw [List.map_cons] at this;injection this with this;cases this
  refine ⟨_,rfl,nl,rfl,⟨_,SqL.of hl⟩,for_list (K:=K) (a:=nl) (xs:=ns.map V.str) (fun j σ H2=>∃(u:Option V),σ=[some (.ref d),some (.ref nl),u]∧BtZ Z H H2∧KnZ H2 d o (riseZ (ns.take j) Z)) ⟨none,rfl,fun b o h _=>h,by rw [List.take_zero,riseZ_nil];exact hZ⟩ (fun j σ H2 _ ⟨_,_,b,_⟩=>SqL.of (b _ _ hl nlZ)) ?_ ?_⟩
  ·rintro j x σ H2 hx ⟨u,rfl,b2,h2⟩
   obtain ⟨n,en,rfl⟩:=Ay hx
   obtain ⟨z,hz,rfl⟩:=List.mem_map.mp (hin n (List.mem_of_getElem? en))
   have hn:z.1.1.1 ∉ ns.take j:=fun h=>by
    have hj:=(List.getElem?_eq_some_iff.mp en).1
    rw [←List.take_append_drop j ns,List.nodup_append] at nd
    refine nd.2.2 _ h _ ?_ rfl
    rw [List.mem_iff_getElem?]
    exact ⟨0,by rw [List.getElem?_drop];exact en⟩
   have rz:(riseR (ns.take j) z.1,z.2)=z:=by unfold riseR;rw [if_neg hn]
   have hz2:z∈riseZ (ns.take j) Z:=List.mem_map.mpr ⟨z,hz,rz⟩
   have c2:=h2.cel z hz2
   refine ⟨_,rfl,_,rfl,d,_,rfl,h2.get hz2,z.2,_,3,_,rfl,rfl,SqL.of c2,Ap (j:=3) rfl,_,_,rfl,rfl,?_⟩
   refine ⟨_,rfl,_,rfl,d,_,rfl,h2.get hz2,z.2,_,3,3,rfl,rfl,c2,rfl,?_⟩
   refine ⟨_,rfl,fun b w e nb=> ?_,?_⟩
   ·rw [Ai (fun y=>nb (by rw [y];exact List.mem_map.mpr ⟨z,hz,rfl⟩))]
    exact b2 b w e nb
   ·have:=h2.put hz2 (x:=(z.1.1,z.1.2.1+1,z.1.2.2)) rfl
    rw [rise_snoc hZ.nd hZ.nms hz hn] at this
    rw [Be en]
    exact this
  rintro σ H2 ⟨u,rfl,b2,h2⟩
  rw [List.length_map,List.take_length] at h2
  exact k H2 b2 h2
end
end K38
namespace L2
open PySem PySem.Spec PyProof.Rows
section
variable {X:Cx}
theorem vals_tys:∀{cs:List String} {its:List Value},Vals (cs.map V.ty) its→its=cs.map Value.type
 |[],_,.nil=>rfl
 |c::cs,_,.cons ru rr=>by rw [List.map_cons,←vals_tys rr];cases ru;rfl
inductive FlT:V→Value→Prop
 |int (i:Int):FlT (.int i) (.type "int")
 |str (z:Str):FlT (.str z) (.type "str")
 |bl (b:Bool):FlT (.bl b) (.type "bool")
 |non:FlT .non (.type "NoneType")
def rIsTy (K:PySem.W.Frag):List V→Hp→VK→Prop:=fun xs H Q=>∃(x:V) (t:Value) (tp:Addr) (cs:List String) (b:Bool),xs=[x,.ref tp]∧FlT x t∧H tp=some (.tup (cs.map V.ty))∧PySem.W.kitAny K t (cs.map Value.type)=some b∧Q (.bl b) H
theorem call_isTy:CallR X (.builtin "isinstance") (rIsTy X.K):=by
 intro pins s σ H xs us Q I r h
 obtain ⟨x,t,tp,cs,b,rfl,ft,ht,ek,q⟩:=h
 obtain ⟨u,v,rfl,rx,ry⟩:=vals2 r
 obtain rfl:v=Value.ref tp:=ry
 obtain ⟨_,its,rv,o,h1,h2,h3,n,h4⟩:=(show ObjOk X.prog X.w H s.heap tp (.tup (cs.map V.ty)) from I.hok tp _ ht)
 have e1:=vals_tys rv
 subst e1
 obtain ⟨oc,odd,oda,osl⟩:=o
 dsimp only at h2 h3 h4
 subst h2 h3 h4
 cases ft with
 |non=>cases (show u=Value.none from rx);exact PySem.W.kia_tup PySem.W.kitx_none I.kIn True.intro h1 ek (fun z=>nomatch z) fun tk=>⟨.bl b,H,I.tok tk,rfl,q⟩
 |bl y=>cases (show u=Value.bool y from rx);exact PySem.W.kia_tup PySem.W.kitx_bool I.kIn True.intro h1 ek (fun z=>nomatch z) fun tk=>⟨.bl b,H,I.tok tk,rfl,q⟩
 |int i=>obtain ⟨t,q1⟩:=(show ∃t,u=Value.int i t from rx);cases q1;exact PySem.W.kia_tup PySem.W.kitx_int I.kIn True.intro h1 ek (fun z=>nomatch z) fun tk=>⟨.bl b,H,I.tok tk,rfl,q⟩
 |str y=>obtain ⟨t,q1⟩:=(show ∃t,u=Value.str y t from rx);cases q1;exact PySem.W.kia_tup PySem.W.kitx_str I.kIn True.intro h1 ek (fun z=>nomatch z) fun tk=>⟨.bl b,H,I.tok tk,rfl,q⟩
end
theorem kit_is1 {K:PySem.W.Frag}:PySem.W.kitAny K (.type "int") (["int","str"].map Value.type)=some true:=rfl
theorem kit_is2 {K:PySem.W.Frag}:PySem.W.kitAny K (.type "str") (["int","str"].map Value.type)=some true:=rfl
end L2
namespace K38
open PySem L2 Wk
def Lf (x y:V):Prop:=x=y∧((∃i,x= .int i)∨(∃s,x= .str s)∨(∃c,x= .bl c)∨x= .non)
def SmV:Nat→Hp→V→V→Prop
 |0,_,x,y=>Lf x y
 |n+1,H,x,y=>Lf x y∨∃(a b:Addr) (xs ys:List V),x= .ref a∧y= .ref b∧H a=some (.tup xs)∧H b=some (.tup ys)∧xs.length=ys.length∧xs.length≤100∧∀(i:Nat) u v,xs[i]? =some u→ys[i]? =some v→SmV n H u v
theorem SmV.same:∀{n:Nat} {H H':Hp} {x y:V},Same H H'→SmV n H x y→SmV n H' x y
 |0,_,_,_,_,_,h=>h
 |n+1,_,_,_,_,s,.inl h=> .inl h
 |n+1,_,_,_,_,s,.inr ⟨a,b,xs,ys,e1,e2,h1,h2,l,z,h⟩=> .inr ⟨a,b,xs,ys,e1,e2,s _ _ h1,s _ _ h2,l,z,fun i u v e e'=>SmV.same s (h i u v e e')⟩
def spSame (n:Nat):Sp:=fun vs H Q _=>∃x y:V,vs=[x,y]∧SmV n H x y∧∀H',Same H H'→Q (.bl true) H'
def spSameT (n:Nat):Sp:=fun vs H Q _=>∃(a b:Addr) (xs ys:List V),vs=[.ref a,.ref b]∧H a=some (.tup xs)∧H b=some (.tup ys)∧xs.length=ys.length∧xs.length≤100∧(∀(i:Nat) u v,xs[i]? =some u→ys[i]? =some v→SmV n H u v)∧∀H',Same H H'→Q (.bl true) H'
section
variable {P:Program} {w:World} {K:PySem.W.Frag} {mg:Str→Option Value} {base:Heap}
theorem scSame:A4 ["_law_thing","_law_due"] ["_law_thing","_law_due"] (Af sSame):=⟨rfl,rfl,rfl,by decide+kernel,rfl,by decide+kernel,by decide+kernel⟩
theorem ok_Same0 {f:Addr} {fd:FuncData} (F:Fun K "_law_same" "_law_same" sSame f fd) (T:Txt mg):
  FnOk P w K mg base CX0 1 f fd ["_law_thing","_law_due"] (spSame 0):=by
 refine F.ok scSame (fun vs H Q E h=> ?_) (fun cdv A outer s H vs Q E hr h=> ?_)
 ·obtain ⟨_,_,rfl,_⟩:=h;rfl
 ·obtain ⟨x,y,rfl,⟨rfl,hx⟩,k⟩:=h
  refine ⟨_,Ae (A8 (A9 (Ak A3 (by rfl) T.isinstance (by decide+kernel) (Aa (pv 1) (Aa (Bi (T:="tuple") (by rfl) T.tuple (by decide+kernel)) Ac)))) (Ae (A8 (PW.pt (Co (Cs (A9 (Ak A3 (by rfl) T.isinstance (by decide+kernel) (Aa (pv 0) (Aa (Bi (T:="tuple") (by rfl) T.tuple (by decide+kernel)) Ac))))) (By (Ao op_ne (Ak At (by rfl) T.len PySem.boot_len (Aa (pv 0) Ac)) (Ak At (by rfl) T.len PySem.boot_len (Aa (pv 1) Ac)) (An _))))) (Ah (As Ci)) Av)
   (Ah ps_never)) Av)
   (Ae (A8 (PW.pt (Co (A9 (Ak A3 (by rfl) T.isinstance (by decide+kernel) (Aa (pv 1) (Aa (Bi (T:="bool") (by rfl) T.bool (by decide+kernel)) Ac)))) (By (A9 (Ak A3 (by rfl) T.isinstance (by decide+kernel) (Aa (pv 0) (Aa (Bi (T:="bool") (by rfl) T.bool (by decide+kernel)) Ac))))))) (Ah (As (Ca (Ak A3 (by rfl) T.isinstance (by decide+kernel) (Aa (pv 1) (Aa (Bi (T:="bool") (by rfl) T.bool (by decide+kernel)) Ac))) (Ca (Ak A3 (by rfl) T.isinstance (by decide+kernel) (Aa (pv 0) (Aa (Bi (T:="bool") (by rfl) T.bool (by decide+kernel)) Ac))) (C2 (A7 Cq (pv 0) (pv 1) (An _))))))) Av)
   (Ae (A8 (PW.pt (Co (Ao Cf (pv 1) Bk (An _)) (By (Ao Cf (pv 0) Bk (An _))))) (Ah (As (Ca (A7 Cf (pv 1) Bk (An _)) (C2 (A7 Cf (pv 0) Bk (An _)))))) Av)
   (Ah (As (Ca (Ak (r:=rIsTy K) call_isTy (by rfl) T.isinstance (by decide+kernel) (Aa (pv 0) (Aa (Bf (Aa (Bi (T:="int") (by rfl) T.int (by decide+kernel)) (Aa (Bi (T:="str") (by rfl) T.str (by decide+kernel)) Ac))) Ac))) (C2 (A7 Cq (pv 0) (pv 1) (An _)))))))),?_⟩
  rcases hx with ⟨i,rfl⟩|⟨z,rfl⟩|⟨c,rfl⟩|rfl
  ·refine ⟨_,rfl,.int i,.type "int","tuple",false,rfl,.int i,rfl,_,rfl,Bt ?_⟩
   dsimp only [Bh]
   refine ⟨_,rfl,.int i,.type "int","bool",false,rfl,.int i,rfl,_,rfl,Bt ⟨_,rfl,.int i,.type "int","bool",false,rfl,.int i,rfl,_,rfl,Bt ?_⟩⟩
   dsimp only [Bh]
   refine ⟨_,rfl,rfl,_,rfl,Bt ⟨_,rfl,rfl,_,rfl,Bt ?_⟩⟩
   dsimp only [Bh]
   refine ⟨_,rfl,small (by simp),fun tp htp=>⟨.int i,.type "int",tp,["int","str"],true,rfl,.int i,Ab,kit_is1,_,rfl,iteT ⟨_,rfl,_,rfl,rfl,?_⟩⟩⟩
   rw [decide_eq_true rfl]
   exact k _ (Ad htp)
  ·refine ⟨_,rfl,.str z,.type "str","tuple",false,rfl,.str z,rfl,_,rfl,Bt ?_⟩
   dsimp only [Bh]
   refine ⟨_,rfl,.str z,.type "str","bool",false,rfl,.str z,rfl,_,rfl,Bt ⟨_,rfl,.str z,.type "str","bool",false,rfl,.str z,rfl,_,rfl,Bt ?_⟩⟩
   dsimp only [Bh]
   refine ⟨_,rfl,rfl,_,rfl,Bt ⟨_,rfl,rfl,_,rfl,Bt ?_⟩⟩
   dsimp only [Bh]
   refine ⟨_,rfl,small (by simp),fun tp htp=>⟨.str z,.type "str",tp,["int","str"],true,rfl,.str z,Ab,kit_is2,_,rfl,iteT ⟨_,rfl,_,rfl,rfl,?_⟩⟩⟩
   rw [decide_eq_true rfl]
   exact k _ (Ad htp)
  ·refine ⟨_,rfl,.bl c,.type "bool","tuple",false,rfl,.bl c,rfl,_,rfl,Bt ?_⟩
   dsimp only [Bh]
   refine ⟨_,rfl,.bl c,.type "bool","bool",true,rfl,.bl c,rfl,_,rfl,iteT ?_⟩
   refine ⟨_,rfl,.bl c,.type "bool","bool",true,rfl,.bl c,rfl,_,rfl,iteT ⟨_,rfl,.bl c,.type "bool","bool",true,rfl,.bl c,rfl,_,rfl,iteT ⟨_,rfl,_,rfl,rfl,?_⟩⟩⟩
   rw [decide_eq_true rfl]
   exact k _ (Cd _)
  ·refine ⟨_,rfl,.non,.type "NoneType","tuple",false,rfl,.non,rfl,_,rfl,Bt ?_⟩
   dsimp only [Bh]
   refine ⟨_,rfl,.non,.type "NoneType","bool",false,rfl,.non,rfl,_,rfl,Bt ⟨_,rfl,.non,.type "NoneType","bool",false,rfl,.non,rfl,_,rfl,Bt ?_⟩⟩
   dsimp only [Bh]
   refine ⟨_,rfl,rfl,_,rfl,iteT ?_⟩
   refine ⟨_,rfl,rfl,_,rfl,iteT ⟨_,rfl,rfl,?_⟩⟩
   rw [decide_eq_true rfl]
   exact k _ (Cd _)
theorem ok_SameS {n l:Nat} {f:Addr} {fd:FuncData} (F:Fun K "_law_same" "_law_same" sSame f fd) (T:Txt mg)
  {gSame:Addr} {fSame:FuncData} (kSame:PySem.W.keepIn K (.ref gSame)=true) (bSame:Binds K fSame ["_law_thing","_law_due"] []) (hSame:mg "_law_same"=some (.ref gSame)) (GSame:FnOk P w K mg base CX0 l gSame fSame ["_law_thing","_law_due"] (spSame n)):
  FnOk P w K mg base CX0 (l+1) f fd ["_law_thing","_law_due"] (spSameT n):=by
 refine F.ok scSame (fun vs H Q E h=> ?_) (fun cdv A outer s H vs Q E hr h=> ?_)
 ·obtain ⟨_,_,_,_,rfl,_⟩:=h;rfl
 ·obtain ⟨a,b,xs,ys,rfl,ha,hb,hl,hz,hs,k⟩:=h
  refine ⟨_,Ae (A8 (A9 (Ak A3 (by rfl) T.isinstance (by decide+kernel) (Aa (pv 1) (Aa (Bi (T:="tuple") (by rfl) T.tuple (by decide+kernel)) Ac)))) (Ae (A8 (PW.pt (Co (Cs (A9 (Ak A3 (by rfl) T.isinstance (by decide+kernel) (Aa (pv 0) (Aa (Bi (T:="tuple") (by rfl) T.tuple (by decide+kernel)) Ac))))) (By (Ao op_ne (Ak At (by rfl) T.len PySem.boot_len (Aa (pv 0) Ac)) (Ak At (by rfl) T.len PySem.boot_len (Aa (pv 1) Ac)) (An _))))) (Ah (As Ci)) Av)
   (Ah (As (A7 C8 Ci (Bn (T:=["_law_part","_law_other"]) (F:=[]) (js:=[]) (CS.to (osc:=Af sSame) ⟨by rfl,by decide+kernel,by decide+kernel,by decide+kernel,by decide+kernel,by decide+kernel,by decide+kernel⟩ rfl rfl) rfl (pi_zip rfl T.zip (Aa (pv 0) (Aa (pv 1) Ac))) (fun _ _ _ _ _=>pg_tupK K 2 rfl rfl (Ar (Aj (i:=0) (show (["_law_part","_law_other"]:List Str).Nodup by decide+kernel) rfl (Or.inl rfl)) (Ar (Aj (i:=1) (show (["_law_part","_law_other"]:List Str).Nodup by decide+kernel) rfl (Or.inl rfl)) Cc))) (fun _ _ _ _ _=>Br) (fun _ _ _ _ _=>Aq GSame hr rfl hSame kSame bSame .nil A5 (Aa (pv 0) (Aa (pv 1) Ac)))) (by rfl))))) Av)
   (Ae (A8 (PW.pt (Co (A9 (Ak A3 (by rfl) T.isinstance (by decide+kernel) (Aa (pv 1) (Aa (Bi (T:="bool") (by rfl) T.bool (by decide+kernel)) Ac)))) (By (A9 (Ak A3 (by rfl) T.isinstance (by decide+kernel) (Aa (pv 0) (Aa (Bi (T:="bool") (by rfl) T.bool (by decide+kernel)) Ac))))))) (Ah (As (Ca (Ak A3 (by rfl) T.isinstance (by decide+kernel) (Aa (pv 1) (Aa (Bi (T:="bool") (by rfl) T.bool (by decide+kernel)) Ac))) (Ca (Ak A3 (by rfl) T.isinstance (by decide+kernel) (Aa (pv 0) (Aa (Bi (T:="bool") (by rfl) T.bool (by decide+kernel)) Ac))) (C2 (A7 Cq (pv 0) (pv 1) (An _))))))) Av)
   (Ae (A8 (PW.pt (Co (Ao Cf (pv 1) Bk (An _)) (By (Ao Cf (pv 0) Bk (An _))))) (Ah (As (Ca (A7 Cf (pv 1) Bk (An _)) (C2 (A7 Cf (pv 0) Bk (An _)))))) Av)
   (Ah (As (Ca (Ak (r:=rIsTy K) call_isTy (by rfl) T.isinstance (by decide+kernel) (Aa (pv 0) (Aa (Bf (Aa (Bi (T:="int") (by rfl) T.int (by decide+kernel)) (Aa (Bi (T:="str") (by rfl) T.str (by decide+kernel)) Ac))) Ac))) (C2 (A7 Cq (pv 0) (pv 1) (An _)))))))),?_⟩
  refine ⟨_,rfl,.ref b,.type "tuple","tuple",true,rfl,.tup hb,rfl,_,rfl,iteT ?_⟩
  refine ⟨_,rfl,.ref a,.type "tuple","tuple",true,rfl,.tup ha,rfl,_,rfl,Bt ⟨_,rfl,a,_,rfl,.inr (SqT.of ha),_,rfl,b,_,rfl,.inr (SqT.of hb),rfl,_,rfl,Bp (fun g=>absurd g (by simp [hl])) fun _=> ?_⟩⟩
  dsimp only [Bh]
  refine ⟨_,rfl,_,rfl,a,b,xs,ys,rfl,SqT.of ha,SqT.of hb,fun D hD=>comp_zip (K:=K) (a:=a) (b:=b) (xs:=xs) (ys:=ys) (fun j σ zs H2=>∃(u v:Option V) (bs:List Bool),σ=[u,v]∧Same H H2∧H2 D=some (.lst zs)∧zs=bs.map V.bl∧bs=List.replicate j true) ⟨none,none,[],rfl,Ad hD,Ab,rfl,rfl⟩ (fun j σ zs H2 _ _ ⟨_,_,_,_,s2,e,_⟩=>⟨SqT.of (s2 _ _ ha),SqT.of (s2 _ _ hb),e⟩) ?_ ?_⟩
  ·rintro j u v σ zs H2 t hu hv ⟨u',v',bs,rfl,s2,d2,rfl,rfl⟩ ht
   have s3:=s2.trans (Ad (o:= .tup [u,v]) ht)
   have d3:=Ad (o:= .tup [u,v]) ht _ _ d2
   have t3:=Ab (H:=H2) (a:=t) (o:= .tup [u,v])
   generalize upd H2 t (.tup [u,v])=H3 at s3 d3 t3
   have j100:j<xs.length:=(List.getElem?_eq_some_iff.mp hu).1
   refine ⟨t,_,rfl,SqT.of t3,rfl,_,_,rfl,_,_,rfl,rfl,_,rfl,_,rfl,u,v,rfl,(hs j u v hu hv).same s3,fun H4 s4=>⟨s4 _ _ d3,Al (by simp;omega),_,_,List.replicate (j+1) true,rfl,fun c o e=> ?_,Ab,by rw [List.replicate_succ',List.map_append];rfl,rfl⟩⟩
   rw [Ai (Am e hD)]
   exact s4 _ _ (s3 _ _ e)
  ·rintro j σ zs H2 _ ⟨u',v',bs,rfl,s2,d2,rfl,rfl⟩
   have fl:((List.replicate j true).map V.bl).all flatV=true:=by
    rw [List.all_eq_true]
    intro x hx
    obtain ⟨z,_,rfl⟩:=List.mem_map.mp hx
    rfl
   have ni:inV (.bl false) ((List.replicate j true).map V.bl)=false:=by
    unfold inV
    refine List.any_eq_false.mpr fun y hy=> ?_
    obtain ⟨z,hz,rfl⟩:=List.mem_map.mp hy
    rw [List.eq_of_mem_replicate hz]
    decide
   refine ⟨D,_,rfl,.inl (SqL.of d2),rfl,fl,?_⟩
   rw [ni]
   exact k _ s2
theorem same_or {l n:Nat} {f:Addr} {fd:FuncData} {ps:List Str} (h0:FnOk P w K mg base CX0 l f fd ps (spSame 0)) (h1:FnOk P w K mg base CX0 l f fd ps (spSameT n)):FnOk P w K mg base CX0 l f fd ps (spSame (n+1)):=
 (h0.or h1).imp fun vs H Q E ⟨x,y,e,sm,k⟩=>sm.elim (fun h=> .inl ⟨x,y,e,h,k⟩) fun ⟨a,b,xs,ys,e1,e2,h1,h2,l,z,h⟩=> .inr ⟨a,b,xs,ys,by rw [e,e1,e2],h1,h2,l,z,h,k⟩
theorem ok_Same4 {f:Addr} {fd:FuncData} (F:Fun K "_law_same" "_law_same" sSame f fd) (T:Txt mg)
  (kSame:PySem.W.keepIn K (.ref f)=true) (bSame:Binds K fd ["_law_thing","_law_due"] []) (hSame:mg "_law_same"=some (.ref f)):FnOk P w K mg base CX0 5 f fd ["_law_thing","_law_due"] (spSame 4):=by
 have S0:=ok_Same0 (P:=P) (w:=w) (base:=base) F T
 have S1:=same_or (S0.mono (by decide)) (ok_SameS F T kSame bSame hSame S0)
 have S2:=same_or (S0.mono (by decide)) (ok_SameS F T kSame bSame hSame S1)
 have S3:=same_or (S0.mono (by decide)) (ok_SameS F T kSame bSame hSame S2)
 exact same_or (S0.mono (by decide)) (ok_SameS F T kSame bSame hSame S3)
end
end K38
namespace K38
open PySem L2 Wk
def spSameN:Sp:=fun vs H Q _=>∃i j:Int,vs=[.int i,.int j]∧∀H',Same H H'→Q (.bl (decide (i=j))) H'
def spSameI:Sp:=fun vs H Q _=>∃(a b:Addr) (p q:List Nat),vs=[.ref a,.ref b]∧H a=some (.tup (psV p))∧H b=some (.tup (psV q))∧p.length=q.length∧p.length≤100∧∀(H':Hp) (c:Bool),Same H H'→(p=q→c=true)→Q (.bl c) H'
def spSm:Sp:=fun vs H Q E=>spSame 4 vs H Q E∨spSameI vs H Q E
theorem ps_at {ps:List Nat} {i:Nat} {v:V} (h:(psV ps)[i]? =some v):∃p,ps[i]? =some p∧v= .int (p:Int):=by
 unfold psV at h
 obtain ⟨p,e,rfl⟩:=Ay h
 exact ⟨p,e,rfl⟩
theorem zip_all {p q:List Nat} (e:p=q) (n:Nat):((p.zip q).take n).map (fun z=>decide (z.1=z.2))=List.replicate ((p.zip q).take n).length true:=by
 subst e
 refine List.eq_replicate_iff.mpr ⟨by rw [List.length_map],fun b hb=> ?_⟩
 obtain ⟨z,hz,rfl⟩:=List.mem_map.mp hb
 have:=List.mem_of_mem_take hz
 obtain ⟨i,hi,rfl⟩:=List.getElem_of_mem this
 rw [List.getElem_zip]
 exact decide_eq_true rfl
section
variable {P:Program} {w:World} {K:PySem.W.Frag} {mg:Str→Option Value} {base:Heap}
theorem ok_SameN {f:Addr} {fd:FuncData} (F:Fun K "_law_same" "_law_same" sSame f fd) (T:Txt mg):
  FnOk P w K mg base CX0 1 f fd ["_law_thing","_law_due"] spSameN:=by
 refine F.ok scSame (fun vs H Q E h=> ?_) (fun cdv A outer s H vs Q E hr h=> ?_)
 ·obtain ⟨_,_,rfl,_⟩:=h;rfl
 ·obtain ⟨i,j,rfl,k⟩:=h
  refine ⟨_,Ae (A8 (A9 (Ak A3 (by rfl) T.isinstance (by decide+kernel) (Aa (pv 1) (Aa (Bi (T:="tuple") (by rfl) T.tuple (by decide+kernel)) Ac)))) (Ae (A8 (PW.pt (Co (Cs (A9 (Ak A3 (by rfl) T.isinstance (by decide+kernel) (Aa (pv 0) (Aa (Bi (T:="tuple") (by rfl) T.tuple (by decide+kernel)) Ac))))) (By (Ao op_ne (Ak At (by rfl) T.len PySem.boot_len (Aa (pv 0) Ac)) (Ak At (by rfl) T.len PySem.boot_len (Aa (pv 1) Ac)) (An _))))) (Ah (As Ci)) Av)
   (Ah ps_never)) Av)
   (Ae (A8 (PW.pt (Co (A9 (Ak A3 (by rfl) T.isinstance (by decide+kernel) (Aa (pv 1) (Aa (Bi (T:="bool") (by rfl) T.bool (by decide+kernel)) Ac)))) (By (A9 (Ak A3 (by rfl) T.isinstance (by decide+kernel) (Aa (pv 0) (Aa (Bi (T:="bool") (by rfl) T.bool (by decide+kernel)) Ac))))))) (Ah (As (Ca (Ak A3 (by rfl) T.isinstance (by decide+kernel) (Aa (pv 1) (Aa (Bi (T:="bool") (by rfl) T.bool (by decide+kernel)) Ac))) (Ca (Ak A3 (by rfl) T.isinstance (by decide+kernel) (Aa (pv 0) (Aa (Bi (T:="bool") (by rfl) T.bool (by decide+kernel)) Ac))) (C2 (A7 Cq (pv 0) (pv 1) (An _))))))) Av)
   (Ae (A8 (PW.pt (Co (Ao Cf (pv 1) Bk (An _)) (By (Ao Cf (pv 0) Bk (An _))))) (Ah (As (Ca (A7 Cf (pv 1) Bk (An _)) (C2 (A7 Cf (pv 0) Bk (An _)))))) Av)
   (Ah (As (Ca (Ak (r:=rIsTy K) call_isTy (by rfl) T.isinstance (by decide+kernel) (Aa (pv 0) (Aa (Bf (Aa (Bi (T:="int") (by rfl) T.int (by decide+kernel)) (Aa (Bi (T:="str") (by rfl) T.str (by decide+kernel)) Ac))) Ac))) (C2 (A7 Cq (pv 0) (pv 1) (An _)))))))),?_⟩
  refine ⟨_,rfl,.int j,.type "int","tuple",false,rfl,.int j,rfl,_,rfl,Bt ?_⟩
  dsimp only [Bh]
  refine ⟨_,rfl,.int j,.type "int","bool",false,rfl,.int j,rfl,_,rfl,Bt ⟨_,rfl,.int i,.type "int","bool",false,rfl,.int i,rfl,_,rfl,Bt ?_⟩⟩
  dsimp only [Bh]
  refine ⟨_,rfl,rfl,_,rfl,Bt ⟨_,rfl,rfl,_,rfl,Bt ?_⟩⟩
  dsimp only [Bh]
  refine ⟨_,rfl,small (by simp),fun tp htp=>⟨.int i,.type "int",tp,["int","str"],true,rfl,.int i,Ab,kit_is1,_,rfl,iteT ⟨_,rfl,_,rfl,rfl,?_⟩⟩⟩
  have e:decide ((V.int i)=(V.int j))=decide (i=j):=by
   rw [Bool.eq_iff_iff,decide_eq_true_eq,decide_eq_true_eq]
   exact ⟨fun z=>V.int.inj z,fun z=>congrArg V.int z⟩
  rw [e]
  exact k _ (Ad htp)
theorem ok_SameI {f:Addr} {fd:FuncData} (F:Fun K "_law_same" "_law_same" sSame f fd) (T:Txt mg)
  {gSame:Addr} {fSame:FuncData} (kSame:PySem.W.keepIn K (.ref gSame)=true) (bSame:Binds K fSame ["_law_thing","_law_due"] []) (hSame:mg "_law_same"=some (.ref gSame)) (GSame:FnOk P w K mg base CX0 1 gSame fSame ["_law_thing","_law_due"] spSameN):
  FnOk P w K mg base CX0 2 f fd ["_law_thing","_law_due"] spSameI:=by
 refine F.ok scSame (fun vs H Q E h=> ?_) (fun cdv A outer s H vs Q E hr h=> ?_)
 ·obtain ⟨_,_,_,_,rfl,_⟩:=h;rfl
 ·obtain ⟨a,b,p,q,rfl,ha,hb,hl,hz,k⟩:=h
  refine ⟨_,Ae (A8 (A9 (Ak A3 (by rfl) T.isinstance (by decide+kernel) (Aa (pv 1) (Aa (Bi (T:="tuple") (by rfl) T.tuple (by decide+kernel)) Ac)))) (Ae (A8 (PW.pt (Co (Cs (A9 (Ak A3 (by rfl) T.isinstance (by decide+kernel) (Aa (pv 0) (Aa (Bi (T:="tuple") (by rfl) T.tuple (by decide+kernel)) Ac))))) (By (Ao op_ne (Ak At (by rfl) T.len PySem.boot_len (Aa (pv 0) Ac)) (Ak At (by rfl) T.len PySem.boot_len (Aa (pv 1) Ac)) (An _))))) (Ah (As Ci)) Av)
   (Ah (As (A7 C8 Ci (Bn (T:=["_law_part","_law_other"]) (F:=[]) (js:=[]) (CS.to (osc:=Af sSame) ⟨by rfl,by decide+kernel,by decide+kernel,by decide+kernel,by decide+kernel,by decide+kernel,by decide+kernel⟩ rfl rfl) rfl (pi_zip rfl T.zip (Aa (pv 0) (Aa (pv 1) Ac))) (fun _ _ _ _ _=>pg_tupK K 2 rfl rfl (Ar (Aj (i:=0) (show (["_law_part","_law_other"]:List Str).Nodup by decide+kernel) rfl (Or.inl rfl)) (Ar (Aj (i:=1) (show (["_law_part","_law_other"]:List Str).Nodup by decide+kernel) rfl (Or.inl rfl)) Cc))) (fun _ _ _ _ _=>Br) (fun _ _ _ _ _=>Aq GSame hr rfl hSame kSame bSame .nil A5 (Aa (pv 0) (Aa (pv 1) Ac)))) (by rfl))))) Av)
   (Ae (A8 (PW.pt (Co (A9 (Ak A3 (by rfl) T.isinstance (by decide+kernel) (Aa (pv 1) (Aa (Bi (T:="bool") (by rfl) T.bool (by decide+kernel)) Ac)))) (By (A9 (Ak A3 (by rfl) T.isinstance (by decide+kernel) (Aa (pv 0) (Aa (Bi (T:="bool") (by rfl) T.bool (by decide+kernel)) Ac))))))) (Ah (As (Ca (Ak A3 (by rfl) T.isinstance (by decide+kernel) (Aa (pv 1) (Aa (Bi (T:="bool") (by rfl) T.bool (by decide+kernel)) Ac))) (Ca (Ak A3 (by rfl) T.isinstance (by decide+kernel) (Aa (pv 0) (Aa (Bi (T:="bool") (by rfl) T.bool (by decide+kernel)) Ac))) (C2 (A7 Cq (pv 0) (pv 1) (An _))))))) Av)
   (Ae (A8 (PW.pt (Co (Ao Cf (pv 1) Bk (An _)) (By (Ao Cf (pv 0) Bk (An _))))) (Ah (As (Ca (A7 Cf (pv 1) Bk (An _)) (C2 (A7 Cf (pv 0) Bk (An _)))))) Av)
   (Ah (As (Ca (Ak (r:=rIsTy K) call_isTy (by rfl) T.isinstance (by decide+kernel) (Aa (pv 0) (Aa (Bf (Aa (Bi (T:="int") (by rfl) T.int (by decide+kernel)) (Aa (Bi (T:="str") (by rfl) T.str (by decide+kernel)) Ac))) Ac))) (C2 (A7 Cq (pv 0) (pv 1) (An _)))))))),?_⟩
  have la:(psV p).length=p.length:=by unfold psV;rw [List.length_map]
  have lb:(psV q).length=q.length:=by unfold psV;rw [List.length_map]
  refine ⟨_,rfl,.ref b,.type "tuple","tuple",true,rfl,.tup hb,rfl,_,rfl,iteT ?_⟩
  refine ⟨_,rfl,.ref a,.type "tuple","tuple",true,rfl,.tup ha,rfl,_,rfl,Bt ⟨_,rfl,a,_,rfl,.inr (SqT.of ha),_,rfl,b,_,rfl,.inr (SqT.of hb),rfl,_,rfl,Bp (fun g=>absurd g (by rw [la,lb,hl];simp)) fun _=> ?_⟩⟩
  dsimp only [Bh]
  refine ⟨_,rfl,_,rfl,a,b,psV p,psV q,rfl,SqT.of ha,SqT.of hb,fun D hD=>comp_zip (K:=K) (a:=a) (b:=b) (xs:=psV p) (ys:=psV q) (fun j σ zs H2=>∃(u v:Option V),σ=[u,v]∧Same H H2∧H2 D=some (.lst zs)∧zs=(((p.zip q).take j).map fun z=>decide (z.1=z.2)).map V.bl) ⟨none,none,rfl,Ad hD,Ab,rfl⟩ (fun j σ zs H2 _ _ ⟨_,_,_,s2,e,_⟩=>⟨SqT.of (s2 _ _ ha),SqT.of (s2 _ _ hb),e⟩) ?_ ?_⟩
  ·rintro j u v σ zs H2 t hu hv ⟨u',v',rfl,s2,d2,rfl⟩ ht
   obtain ⟨i1,hi1,rfl⟩:=ps_at hu
   obtain ⟨i2,hi2,rfl⟩:=ps_at hv
   have s3:=s2.trans (Ad (o:= .tup [.int (i1:Int),.int (i2:Int)]) ht)
   have d3:=Ad (o:= .tup [.int (i1:Int),.int (i2:Int)]) ht _ _ d2
   have t3:=Ab (H:=H2) (a:=t) (o:= .tup [.int (i1:Int),.int (i2:Int)])
   generalize upd H2 t (.tup [.int (i1:Int),.int (i2:Int)])=H3 at s3 d3 t3
   have j100:j<p.length:=(List.getElem?_eq_some_iff.mp hi1).1
   have ez:(p.zip q)[j]? =some (i1,i2):=by rw [List.getElem?_zip_eq_some];exact ⟨hi1,hi2⟩
   refine ⟨t,_,rfl,SqT.of t3,rfl,_,_,rfl,_,_,rfl,rfl,_,rfl,_,rfl,(i1:Int),(i2:Int),rfl,fun H4 s4=>⟨s4 _ _ d3,Al (by simp only [List.length_map,List.length_take];omega),_,_,rfl,fun c o e=> ?_,Ab,?_⟩⟩
   ·rw [Ai (Am e hD)]
    exact s4 _ _ (s3 _ _ e)
   ·have e:decide ((i1:Int)=(i2:Int))=decide (i1=i2):=by
     rw [Bool.eq_iff_iff,decide_eq_true_eq,decide_eq_true_eq]
     exact ⟨fun z=>Int.ofNat.inj z,fun z=>congrArg Int.ofNat z⟩
    rw [Be ez,List.map_append,List.map_append,e];rfl
  ·rintro j σ zs H2 hj ⟨u',v',rfl,s2,d2,rfl⟩
   have fl:((((p.zip q).take j).map fun z=>decide (z.1=z.2)).map V.bl).all flatV=true:=by
    rw [List.all_eq_true]
    intro x hx
    obtain ⟨z,_,rfl⟩:=List.mem_map.mp hx
    rfl
   refine ⟨D,_,rfl,.inl (SqL.of d2),rfl,fl,?_⟩
   refine k _ _ s2 fun e=> ?_
   rw [zip_all e]
   have ni:inV (.bl false) ((List.replicate ((p.zip q).take j).length true).map V.bl)=false:=by
    unfold inV
    refine List.any_eq_false.mpr fun y hy=> ?_
    obtain ⟨z,hz,rfl⟩:=List.mem_map.mp hy
    rw [List.eq_of_mem_replicate hz]
    decide
   rw [ni];rfl
theorem ok_Same {f:Addr} {fd:FuncData} (F:Fun K "_law_same" "_law_same" sSame f fd) (T:Txt mg)
  (kSame:PySem.W.keepIn K (.ref f)=true) (bSame:Binds K fd ["_law_thing","_law_due"] []) (hSame:mg "_law_same"=some (.ref f)):FnOk P w K mg base CX0 5 f fd ["_law_thing","_law_due"] spSm:=by
 have S0:=ok_SameN (P:=P) (w:=w) (base:=base) F T
 have S1:=ok_SameI F T kSame bSame hSame S0
 exact (ok_Same4 F T kSame bSame hSame).or (S1.mono (by decide))
end
end K38
namespace StT
open PySem PySem.W PyProof.Rows L2 Srt
theorem strs_of {prog:Program} {w:World}:∀{l:List (Int×Value)},ElemsOf (PySem.strKind prog w) l→Dis (PySem.strKind prog w) l→∃ks:List Str,Vals (ks.map V.str) (l.map (·.2))∧ks.Nodup∧∀k,k∈ks↔∃e∈l,(PySem.strKind prog w).is k e.2=true
 |[],_,_=>⟨[],.nil,List.nodup_nil,fun k=>by simp⟩
 |e::l,h,d=>by
  obtain ⟨ks,v,nd,mem⟩:=strs_of (l:=l) (fun x hx=>h x (List.mem_cons_of_mem _ hx)) (List.Pairwise.tail d)
  obtain ⟨⟨k,hk,_⟩,_⟩:=h e (List.mem_cons_self ..)
  obtain ⟨t,et⟩:=Value.isStrOf_shape hk
  refine ⟨k::ks,.cons ⟨t,et⟩ v,List.nodup_cons.mpr ⟨fun hm=> ?_,nd⟩,fun k'=> ?_⟩
  ·obtain ⟨e',he',z⟩:=(mem k).mp hm
   exact List.rel_of_pairwise_cons d he' k ⟨hk,z⟩
  ·rw [List.mem_cons,mem k']
   constructor
   ·rintro (rfl|⟨e',he',z⟩)
    ·exact ⟨e,List.mem_cons_self ..,hk⟩
    ·exact ⟨e',List.mem_cons_of_mem _ he',z⟩
   ·rintro ⟨e',he',z⟩
    rcases List.mem_cons.mp he' with rfl|he'
    ·exact .inl ((PySem.strKind prog w).inj e'.2 k' k z hk)
    ·exact .inr ⟨e',he',z⟩
theorem vals_kS {ks:List Str} {vs:List Value} (v:Vals (ks.map V.str) vs) {i:Nat} (hi:i<ks.length):∃t,vs.getD i Value.none= .str (ks.getD i default) t:=by
 obtain ⟨a,ha,t,rfl⟩:=Vals.get v (i:=i) (x:=V.str (ks.getD i default)) (by simp [hi])
 exact ⟨t,by simp [List.getD,ha]⟩
end StT
namespace L2
open PySem PySem.W PyProof.Rows StT Srt
section
variable {X:Cx} {e:Expr} {te:TE} {p p2 pos pos2:Pos}
theorem met_memS {ns:List Str} {k:Str}:metF (fun i=>ns.getD i default) ns.length k=true↔k∈ns:=by
 unfold metF
 rw [List.any_eq_true]
 constructor
 ·rintro ⟨j,hj,h⟩
  have hj:=List.mem_range.mp hj
  rw [decide_eq_true_eq] at h
  rw [h]
  show ns.getD j default∈ns
  rw [List.getD_eq_getElem?_getD,List.getElem?_eq_getElem hj]
  exact List.getElem_mem hj
 ·intro h
  obtain ⟨j,hj,rfl⟩:=List.mem_iff_getElem.mp h
  refine ⟨j,List.mem_range.mpr hj,?_⟩
  rw [decide_eq_true_eq]
  show ns[j]=ns.getD j default
  rw [List.getD_eq_getElem?_getD,List.getElem?_eq_getElem hj];rfl
end
end L2
namespace L2
open PySem PySem.W PySem.Spec PyProof.Rows StT Srt
section
variable {X:Cx} {e:Expr} {te:TE} {p p2 pos pos2:Pos}
def tLenSetS (K:PySem.W.Frag) (te:TE):TE:=fun σ H Q=>te σ H fun x H1=>∃(a:Addr) (ns:List Str),x= .ref a∧(SqL K H1 a (ns.map V.str)∨SqT K H1 a (ns.map V.str))∧ns.length<64∧∀(ms:List Str),ms.Nodup→(∀x,x∈ms↔x∈ns)→Q (.int (ms.length:Nat)) H1
theorem pe_lensetS (hc:X.calm=true) (he0:PE X e te) (hg:Gl X "len") (hm:X.mg "len"=none) (hg2:Gl X "set") (hm2:X.mg "set"=none)
  (hs1:starEach [.Call (.Name "set" p2) [e] [] pos2] X.env=[(false,eval (.Call (.Name "set" p2) [e] [] pos2) X.env)]:=by rfl) (hs2:starEach [e] X.env=[(false,eval e X.env)]:=by rfl):
  PE X (.Call (.Name "len" p) [.Call (.Name "set" p2) [e] [] pos2] [] pos) (tLenSetS X.K te):=by
 intro pins s σ H Q I h
 refine wpAny_Call_Name_kw (ld_blt I hg hm (show bootBuiltins "len"=some (.builtin "len") by decide+kernel) ?_ (by decide) (by decide))
 refine PyProof.Rows.callWith_builtin1 (rest:=[]) ?_ hs1 rfl
 rw [hs1]
 show wpAny _ _ (spliced ((false,eval (.Call (.Name "set" p2) [e] [] pos2) X.env)::backTo pos (starEach [] X.env))) _ _ s
 refine Calls.spliced_cons ?_
 refine wpAny_Call_Name_kw (ld_blt I hg2 hm2 (show bootBuiltins "set"=some (.type "set") by decide+kernel) ?_ (by decide) (by decide))
 refine PyProof.Rows.callWith_type1 (rest:=[]) ?_ hs2 rfl
 rw [hs2]
 show wpAny _ _ (spliced ((false,eval e X.env)::backTo pos2 (starEach [] X.env))) _ _ s
 refine Calls.spliced_cons (thn (he0 pins s σ H _ I h) fun u s1 ⟨x,H1,I1,r1,q1⟩=>Calls.spliced_nil ?_)
 obtain ⟨a,ns,rfl,hq,h64,q⟩:=q1
 cases r1
 have hh:X.A.handled=none:=I1.ok.hd hc
 have fin:∀(its:List Value) (h':Heap) (tk m:Nat),its.length=ns.length→m≤its.toArray.size→SetU (PySem.strKind X.prog X.w) h' s1.heap.objs.size (metF (fun i=>ns.getD i default) its.toArray.size) m (!byT X.w)→(∀b o,s1.heap.get? b=some o→h'.get? b=some o)→wpAny (model X.prog X.w) X.A (spliced (backTo pos (starEach [] X.env))) (fun vs s2=>wpAny (model X.prog X.w) X.A (call (.builtin "len") (.ref s1.heap.objs.size::vs)) (EP X pins σ Q) X.xe s2) X.xe {s1 with heap:=h',toks:=tk}:=fun its h' tk m le mi u kp=>by
  refine Calls.spliced_nil ?_
  have ez:its.toArray.size=ns.length:=by rw [List.size_toArray];exact le
  rw [ez] at mi u
  obtain ⟨o,es,ep,t,ho,hex,hd,el,mem,sz,fit,hn,ok,dis⟩:=u
  obtain ⟨ks,kv,knd,kmem⟩:=strs_of el dis
  have kl:ks.length=es.size:=by
   have:=kv.length
   simp only [List.length_map,Array.length_toList] at this
   assumption
  refine call_len_set (s:={s1 with heap:=h',toks:=tk}) ho hex hd fit (by omega) ?_
  refine ⟨.int (es.size:Nat),H1,?_,⟨_,rfl⟩,?_⟩
  ·exact (I1.kept kp).tok _
  ·rw [←kl]
   exact q ks knd fun x=>((kmem x).trans (mem x).symm).trans met_memS
 have vi:∀{its:List Value},Vals (ns.map V.str) its→∀i v,its.toArray[i]? =some v→(PySem.strKind X.prog X.w).is (ns.getD i default) v=true∧v.scannable=true:=fun {its} rv i v hv=>by
  have le:=rv.length
  rw [List.length_map] at le
  rw [List.getElem?_toArray] at hv
  have hi:=(List.getElem?_eq_some_iff.mp hv).1
  obtain ⟨t,e⟩:=vals_kS rv (i:=i) (by omega)
  rw [List.getD_eq_getElem?_getD,hv] at e
  have e:v= .str (ns.getD i default) t:=e
  rw [e]
  exact ⟨PySem.strKind_is _ _ _ _,rfl⟩
 rcases hq with hq|hq
 ·obtain ⟨its,rv,ht,hz⟩:=I1.list hq
  have le:=rv.length
  rw [List.length_map] at le
  exact call_set_list (knd:=PySem.strKind X.prog X.w) (val:=fun i=>ns.getD i default) hh ht.isList (vi rv) (by rw [List.size_toArray];unfold scanBound;omega) fun h' tk m mi u kp=>fin its h' tk m (by omega) mi u kp
 ·obtain ⟨its,rv,ht,hz⟩:=I1.tuple hq
  have le:=rv.length
  rw [List.length_map] at le
  exact call_set_tuple (knd:=PySem.strKind X.prog X.w) (val:=fun i=>ns.getD i default) hh ht (vi rv) (by rw [List.size_toArray];unfold scanBound;omega) fun h' tk m mi u kp=>fin its h' tk m (by omega) mi u kp
theorem perm_len {ms ns:List Str} (h1:ms.Nodup) (h2:ns.Nodup) (h:∀x,x∈ms↔x∈ns):ms.length=ns.length:=((List.perm_ext_iff_of_nodup h1 h2).mpr h).length_eq
end
end L2
namespace K38
open PySem L2 Wk
theorem mem_of {R:List R6} (nd:(R.map (·.1.1)).Nodup) {x:R6} (hx:x∈R) (L:Nat) (ps:List Nat) (b:Bool) (e:Nat):x.1.1∈ofF R L ps b e↔x.2.1=L∧x.2.2=b∧cntF ps x=e:=by
 unfold ofF
 constructor
 ·intro h
  obtain ⟨y,hy,ey⟩:=List.mem_map.mp h
  obtain ⟨y1,y2⟩:=List.mem_filter.mp hy
  have:y=x:=by
   obtain ⟨i,hi,rfl⟩:=List.getElem_of_mem y1
   obtain ⟨j,hj,rfl⟩:=List.getElem_of_mem hx
   have:i=j:=by
    refine (List.getElem_inj (h₀:=by rw [List.length_map];exact hi) (h₁:=by rw [List.length_map];exact hj) nd).mp ?_
    rw [List.getElem_map,List.getElem_map]
    exact ey
   subst this
   rfl
  subst this
  simpa using y2
 ·rintro ⟨a1,a2,a3⟩
  exact List.mem_map.mpr ⟨x,List.mem_filter.mpr ⟨hx,by rw [decide_eq_true a1,decide_eq_true a2,decide_eq_true a3];rfl⟩,rfl⟩
theorem cnt2 (ps:List Nat) (x:R6):cntF ps x=2↔x.1.2.1∈ps∧x.1.2.2.1∈ps:=by
 unfold cntF
 rw [List.filter_cons,List.filter_cons,List.filter_nil]
 by_cases a:x.1.2.1∈ps<;> by_cases b:x.1.2.2.1∈ps<;> simp [a,b]
theorem rise_none {R:List R6} (nd:(R.map (·.1.1)).Nodup) (L:Nat) (ps:List Nat) (ks:List Str) {x:R6} (hx:x∈R):riseR (ofF R L ps true 2++ks) x=(if (x.2.2=true∧x.2.1=L∧x.1.2.1∈ps∧x.1.2.2.1∈ps)∨x.1.1∈ks then (x.1,x.2.1+1,x.2.2) else x):=by
 unfold riseR
 have e:x.1.1∈ofF R L ps true 2++ks↔(x.2.2=true∧x.2.1=L∧x.1.2.1∈ps∧x.1.2.2.1∈ps)∨x.1.1∈ks:=by
  rw [List.mem_append,mem_of nd hx,cnt2]
  constructor
  ·rintro (⟨a,b,c⟩|h)
   ·exact .inl ⟨b,a,c⟩
   ·exact .inr h
  ·rintro (⟨b,a,c⟩|h)
   ·exact .inl ⟨a,b,c⟩
   ·exact .inr h
 by_cases g:x.1.1∈ofF R L ps true 2++ks
 ·rw [if_pos g,if_pos (e.mp g)]
 ·rw [if_neg g,if_neg fun z=>g (e.mpr z)]
theorem step_none {R:List R6} (nd:(R.map (·.1.1)).Nodup) (L:Nat) (ps:List Nat) (ks:List Str):R.map (riseR (ofF R L ps true 2++ks))=C5 R (L,ps,ks,none):=by
 unfold C5
 refine List.map_congr_left fun x hx=> ?_
 rw [rise_none nd L ps ks hx]
 have ne:¬((L,ps,ks,(none:Option Str)).2.2.2=some x.1.1):=by intro z;cases z
 unfold behF
 rw [if_neg ne]
theorem loose_mem {R:List R6} (nd:(R.map (·.1.1)).Nodup) {L:Nat} {ps:List Nat} {e:Nat} {n:Str} (h:n∈Bv R L ps e):∃x∈R,x.1.1=n∧x.2.1=L∧x.2.2=false∧cntF ps x=e:=by
 rw [←of_loose] at h
 have h':=h
 unfold ofF at h'
 obtain ⟨x,hx,rfl⟩:=List.mem_map.mp h'
 have xR:=(List.mem_filter.mp hx).1
 exact ⟨x,xR,rfl,(mem_of nd xR L ps false e).mp h⟩
theorem step_some {Z:List RC} (na:(adZ Z).Nodup) (nn:(nmZ Z).Nodup) (L:Nat) (ps:List Nat) (ks:List Str) {z:RC} (hz:z∈Z) (hf:z.1.1.1∈Bv (rwZ Z) L ps 1) (hk:∀n∈ks,n∈Bv (rwZ Z) L ps 2):
  rwZ (putZ (riseZ (ofF (rwZ Z) L ps true 2++ks) Z) z.2 (z.1.1,z.1.2.1,true))=C5 (rwZ Z) (L,ps,ks,some z.1.1.1):=by
 have nd:((rwZ Z).map (·.1.1)).Nodup:=by rw [←nmZ_rw];exact nn
 unfold putZ riseZ rwZ C5
 rw [List.map_map,List.map_map,List.map_map]
 refine List.map_congr_left fun y hy=> ?_
 have yR:y.1∈rwZ Z:=List.mem_map.mpr ⟨y,hy,rfl⟩
 show (if y.2=z.2 then (((z.1.1,z.1.2.1,true):R6),y.2) else (riseR (ofF (rwZ Z) L ps true 2++ks) y.1,y.2)).1=behF L ps ks (some z.1.1.1) y.1
 by_cases e:y.2=z.2
 ·rw [if_pos e]
  have:=one_cell na hy hz e
  subst this
  unfold behF
  rw [if_pos rfl]
 ·rw [if_neg e]
  have ne:y.1.1.1≠z.1.1.1:=fun h=>e (by
   have a1:=kvZ_val nn hy
   rw [h,kvZ_val nn hz] at a1
   injection a1 with a1
   injection a1 with a1
   exact a1.symm)
  show riseR _ y.1=_
  rw [rise_none nd L ps ks yR]
  unfold behF
  rw [if_neg (fun h=>ne (Option.some.inj h).symm)]
theorem not_risen {Z:List RC} (nn:(nmZ Z).Nodup) {L:Nat} {ps:List Nat} {ks:List Str} {z:RC} (hz:z∈Z) (hf:z.1.1.1∈Bv (rwZ Z) L ps 1) (hk:∀n∈ks,n∈Bv (rwZ Z) L ps 2):riseR (ofF (rwZ Z) L ps true 2++ks) z.1=z.1:=by
 have nd:((rwZ Z).map (·.1.1)).Nodup:=by rw [←nmZ_rw];exact nn
 have zR:z.1∈rwZ Z:=List.mem_map.mpr ⟨z,hz,rfl⟩
 rw [←of_loose] at hf
 have h1:=(mem_of nd zR L ps false 1).mp hf
 unfold riseR
 rw [if_neg fun h=>by
  rcases List.mem_append.mp h with h|h
  ·have:=(mem_of nd zR L ps true 2).mp h
   rw [h1.2.2] at this
   exact absurd this.2.2 (by decide)
  ·have:=hk _ h
   rw [←of_loose] at this
   have:=(mem_of nd zR L ps false 2).mp this
   rw [h1.2.2] at this
   exact absurd this.2.2 (by decide)]
theorem ns_nodup {R:List R6} (nd:(R.map (·.1.1)).Nodup) {L:Nat} {ps:List Nat} {ks:List Str} (kn:ks.Nodup) (hk:∀n∈ks,n∈Bv R L ps 2):(ofF R L ps true 2++ks).Nodup:=by
 rw [List.nodup_append]
 refine ⟨?_,kn,fun b hb c hc e=> ?_⟩
 ·unfold ofF
  exact nd.sublist (List.filter_sublist.map _)
 ·subst e
  obtain ⟨x,xR,rfl,h⟩:=loose_mem nd (hk b hc)
  have:=(mem_of nd xR L ps true 2).mp hb
  rw [h.2.1] at this
  exact absurd this.2.1 (by decide)
theorem loose_nd {R:List R6} (nd:(R.map (·.1.1)).Nodup) (L:Nat) (ps:List Nat) (e:Nat):(Bv R L ps e).Nodup:=by
 rw [←of_loose]
 unfold ofF
 exact nd.sublist (List.filter_sublist.map _)
theorem of_in {R:List R6} {L:Nat} {ps:List Nat} {b:Bool} {e:Nat} {n:Str} (h:n∈ofF R L ps b e):n∈R.map (·.1.1):=by
 unfold ofF at h
 obtain ⟨x,hx,rfl⟩:=List.mem_map.mp h
 exact List.mem_map.mpr ⟨x,(List.mem_filter.mp hx).1,rfl⟩
theorem inV_strs (n:Str) (ns:List Str):inV (.str n) (ns.map V.str)=decide (n∈ns):=by
 unfold inV
 rw [List.any_map,Bool.eq_iff_iff,decide_eq_true_eq,List.any_eq_true]
 constructor
 ·rintro ⟨q,hq,e⟩
  have e:eqV (.str q) (.str n)=true:=e
  have:q=n:=by simpa [eqV] using e
  rw [←this];exact hq
 ·intro h
  exact ⟨n,h,by show eqV (.str n) (.str n)=true;simp [eqV]⟩
def rIsiX (K:PySem.W.Frag):List V→Hp→VK→Prop:=fun xs H Q=>∃(x:V) (t:Value) (c:String) (b:Bool),xs=[x,.ty c]∧TyOf K H x t∧PySem.W.kitOne K t (.type c)=some b∧Q (.bl b) H
def KOut (H:Hp) (d:Addr) (o:Obj) (Z:List RC) (L:Nat) (ps:List Nat) (ks:List Str) (fo:Option Str) (Q:Hp→Prop):Prop:=∀(H':Hp) (Z':List RC),BtZ Z H H'→KnZ H' d o Z'→adZ Z'=adZ Z→rwZ Z'=C5 (rwZ Z) (L,ps,ks,fo)→Q H'
def spRoundL:Sp:=fun vs H Q _=>∃(N:Nat) (d e tl:Addr) (o:Obj) (Z:List RC) (L:Nat) (x:R6),vs=[.int (N:Int),.ref d,.int (L:Int),.ref e,.ref tl]∧KnZ H d o Z∧PlN N (rwZ Z)∧N≤60∧H e=some (.lst [.int (x.1.2.1:Int),.int (x.1.2.2.1:Int)])∧x.1.2.1<N∧x.1.2.2.1<N∧TlAt H tl (rdF N x (rwZ Z) L)∧KOut H d o Z L (rdF N x (rwZ Z) L).2.1 (rdF N x (rwZ Z) L).2.2.1 (rdF N x (rwZ Z) L).2.2.2 fun H'=>Q (.bl true) H'
def tRise:TS:=fun D σ H=>∃(u0 u3 u5 u6 u7 u8:Option V) (d tl pl lk:Addr) (o:Obj) (Z:List RC) (L:Nat) (ps:List Nat) (ks:List Str) (fo:Option Str),σ=[u0,some (.ref d),some (.int (L:Int)),u3,some (.ref tl),u5,u6,u7,u8,some (.ref lk),some (foV fo)]∧KnZ H d o Z∧H tl=some (.tup [.int (L:Int),.ref pl,.ref lk,foV fo])∧H pl=some (.tup (psV ps))∧H lk=some (.tup (ks.map V.str))∧ks.length≤60∧ks.Nodup∧(∀n∈ks,n∈Bv (rwZ Z) L ps 2)∧(∀f,fo=some f→f∈Bv (rwZ Z) L ps 1)∧KOut H d o Z L ps ks fo fun H'=>D.rt (.bl true) H'
theorem KOut.same {H H1:Hp} {d:Addr} {o:Obj} {Z:List RC} {L:Nat} {ps:List Nat} {ks:List Str} {fo:Option Str} {Q:Hp→Prop} (k:KOut H d o Z L ps ks fo Q) (s:Same H H1):KOut H1 d o Z L ps ks fo Q:=fun H' Z' b kn ad rw=>k H' Z' (fun c w e n=>b c w (s _ _ e) n) kn ad rw
section
variable {P:Program} {w:World} {K:PySem.W.Frag} {mg:Str→Option Value} {base:Heap}
theorem scRoundL:A4 ["_law_many_here","_law_known_here","_law_layer","_law_ends","_law_told","_law_parts_here","_law_least","_law_inside","_law_across","_law_looked","_law_found"] ["_law_many_here","_law_known_here","_law_layer","_law_ends","_law_told"] (Af sRoundL):=⟨rfl,rfl,rfl,by decide+kernel,rfl,by decide+kernel,by decide+kernel⟩
theorem ok_RoundL {f:Addr} {fd:FuncData} (F:Fun K "_law_round" "_law_round" sRoundL f fd) (T:Txt mg)
  {gSame:Addr} {fSame:FuncData} (kSame:PySem.W.keepIn K (.ref gSame)=true) (bSame:Binds K fSame ["_law_thing","_law_due"] []) (hSame:mg "_law_same"=some (.ref gSame)) (GSame:FnOk P w K mg base CX0 5 gSame fSame ["_law_thing","_law_due"] spSm)
  {gParts:Addr} {fParts:FuncData} (kParts:PySem.W.keepIn K (.ref gParts)=true) (bParts:Binds K fParts ["_law_many_here","_law_known_here","_law_layer","_law_ends"] []) (hParts:mg "_law_parts"=some (.ref gParts)) (GParts:FnOk P w K mg base CX0 5 gParts fParts ["_law_many_here","_law_known_here","_law_layer","_law_ends"] spParts)
  {gOfLayer:Addr} {fOfLayer:FuncData} (kOfLayer:PySem.W.keepIn K (.ref gOfLayer)=true) (bOfLayer:Binds K fOfLayer ["_law_known_here","_law_layer","_law_places","_law_is_kept","_law_ends"] []) (hOfLayer:mg "_law_of_layer"=some (.ref gOfLayer)) (GOfLayer:FnOk P w K mg base CX0 5 gOfLayer fOfLayer ["_law_known_here","_law_layer","_law_places","_law_is_kept","_law_ends"] spOfLayer)
  {gRise:Addr} {fRise:FuncData} (kRise:PySem.W.keepIn K (.ref gRise)=true) (bRise:Binds K fRise ["_law_known_here","_law_names_here"] []) (hRise:mg "_law_rise"=some (.ref gRise)) (GRise:FnOk P w K mg base CX0 5 gRise fRise ["_law_known_here","_law_names_here"] spRise):
  FnOk P w K mg base CX0 6 f fd ["_law_many_here","_law_known_here","_law_layer","_law_ends","_law_told"] spRoundL:=by
 refine F.ok scRoundL (fun vs H Q E h=> ?_) (fun cdv A outer s H vs Q E hr h=> ?_)
 ·obtain ⟨_,_,_,_,_,_,_,_,rfl,_⟩:=h;rfl
 ·obtain ⟨N,d,e,tl,o,Z,L,x,rfl,hZ,hPl,N60,he,hp,hq,T0,k⟩:=h
  refine ⟨_,Ae (A8 (PW.pt (Co (Cs (A9 (Ak A3 (by rfl) T.isinstance (by decide+kernel) (Aa (pv 4) (Aa (Bi (T:="tuple") (by rfl) T.tuple (by decide+kernel)) Ac))))) (Co (Ao op_ne (Ak At (by rfl) T.len PySem.boot_len (Aa (pv 4) Ac)) Ag (An _)) (By (Cs (A9 (Aq GSame hr rfl hSame kSame bSame .nil A5 (Aa (Az Bz (pv 4) Ag (fun _ _=>rfl)) (Aa (pv 2) Ac))))))))) (Ah (As Ci)) Av)
   (Ae (Au (i:=5) scRoundL.nd rfl (Or.inl rfl) (Aq GParts hr rfl hParts kParts bParts .nil A5 (Aa (pv 0) (Aa (pv 1) (Aa (pv 2) (Aa (pv 3) Ac))))))
   (Ae (Au (i:=6) scRoundL.nd rfl (Or.inr rfl) (Ak (call_minL rfl) (by rfl) T.min (by decide+kernel) (Aa (Bn (T:=["_law_part"]) (F:=[]) (js:=[]) (CS.to (osc:=Af sRoundL) ⟨by rfl,by decide+kernel,by decide+kernel,by decide+kernel,by decide+kernel,by decide+kernel,by decide+kernel⟩ rfl rfl) rfl (B8 (pv 5)) (fun _ _ _ _ _=>Aj (i:=0) (show (["_law_part"]:List Str).Nodup by decide+kernel) rfl (Or.inl rfl)) (fun _ _ _ _ _=>Br) (fun _ _ _ _ _=>Ak (r:=rLenX K) At (by rfl) T.len PySem.boot_len (Aa (pv 0) Ac))) Ac)))
   (Ae (A8 (Ao C8 Ci (Bn (T:=["_law_part"]) (F:=["_law_least","_law_told"]) (js:=[6,4]) (CS.to (osc:=Af sRoundL) ⟨by rfl,by decide+kernel,by decide+kernel,by decide+kernel,by decide+kernel,by decide+kernel,by decide+kernel⟩ rfl rfl) rfl (B8 (pv 5)) (fun _ _ _ _ _=>Aj (i:=0) (show (["_law_part","_law_least","_law_told"]:List Str).Nodup by decide+kernel) rfl (Or.inl rfl)) (fun _ _ _ _ _=>Br) (fun _ _ _ _ _=>Ca (A7 Cq (Ak (r:=rLenX K) At (by rfl) T.len PySem.boot_len (Aa (pv 0) Ac)) (pv 1) (An _)) (C2 (Aq GSame hr rfl hSame kSame bSame .nil A5 (Aa (Az (r:=rIxT K) Bz (pv 2) Ag (fun _ _=>rfl)) (Aa (pv 0) Ac)))))) (by rfl)) (Ah (As Ci)) Av)
   (Ae (Au (i:=7) scRoundL.nd rfl (Or.inr rfl) (Aq GOfLayer hr rfl hOfLayer kOfLayer bOfLayer .nil A5 (Aa (pv 1) (Aa (pv 2) (Aa (Az Bz (pv 4) Ag (fun _ _=>rfl)) (Aa Ci (Aa Ag Ac)))))))
   (Ae (Au (i:=8) scRoundL.nd rfl (Or.inl rfl) (Aq GOfLayer hr rfl hOfLayer kOfLayer bOfLayer .nil A5 (Aa (pv 1) (Aa (pv 2) (Aa (Az Bz (pv 4) Ag (fun _ _=>rfl)) (Aa Ci (Aa Ag Ac)))))))
   (Ae (ps_asg (C0 sl_tupA (pv 4) (Ck Ag) po_none) (pg_tup rfl (Ar (Aj (i:=9) scRoundL.nd rfl (Or.inl rfl)) (Ar (Aj (i:=10) scRoundL.nd rfl (Or.inl rfl)) Cc))))
   (Ae (A8 (Cs (A9 (Ak A3 (by rfl) T.isinstance (by decide+kernel) (Aa (pv 9) (Aa (Bi (T:="tuple") (by rfl) T.tuple (by decide+kernel)) Ac))))) (Ah (As Ci)) Av)
   (Ae (A8 (Ao (op_neNil hr.units) (Bn (T:=["_law_one"]) (F:=["_law_inside"]) (js:=[7]) (CS.to (osc:=Af sRoundL) ⟨by rfl,by decide+kernel,by decide+kernel,by decide+kernel,by decide+kernel,by decide+kernel,by decide+kernel⟩ rfl rfl) rfl (pi_tup (pv 9)) (fun _ _ _ _ _=>Aj (i:=0) (show (["_law_one","_law_inside"]:List Str).Nodup by decide+kernel) rfl (Or.inl rfl)) (fun _ _ _ _ _=>Cv (PW.pt (Co (Cs (A9 (Ak (r:=rIsiX K) A3 (by rfl) T.isinstance (by decide+kernel) (Aa (pv 0) (Aa (Bi (T:="str") (by rfl) T.str (by decide+kernel)) Ac))))) (By (Ao (r:=rIn K true) C8 (pv 0) (pv 1) (by rfl)))))) (fun _ _ _ _ _=>pv 0)) (Ch Ac) (An _)) (Ah (As Ci)) Av)
   (Ae (A8 (Ao op_lt (pe_lensetS rfl (pv 9) rfl T.len rfl T.set) (Ak At (by rfl) T.len PySem.boot_len (Aa (pv 9) Ac)) (An _)) (Ah (As Ci)) Av)
   (Ae (A8 (PW.pt (pw_and (Ao Cf (pv 10) Bk (An _)) (pw_and1 (PW.pt (Co (Ao (op_neNil hr.units) (pv 8) (Ch Ac) (An _)) (By (Ao op_lt (Ak At (by rfl) T.len PySem.boot_len (Aa (pv 9) Ac)) (Ak At (by rfl) T.len PySem.boot_len (Aa (pv 7) Ac)) (An _)))))))) (Ah (As Ci)) Av)
   (Ae (A8 (PW.pt (pw_and (Ao op_notN (pv 10) Bk (An _)) (pw_and1 (PW.pt (Co (Cs (A9 (Ak A3 (by rfl) T.isinstance (by decide+kernel) (Aa (pv 10) (Aa (Bi (T:="str") (by rfl) T.str (by decide+kernel)) Ac))))) (By (Ao C8 (pv 10) (pv 8) (by rfl)))))))) (Ah (As Ci)) Av)
   (PSs.imp' (t':=tRise) (Ae (Cp (Aq GRise hr rfl hRise kRise bRise .nil A5 (Aa (pv 1) (Aa (A1 op_cat (Aq GOfLayer hr rfl hOfLayer kOfLayer bOfLayer .nil A5 (Aa (pv 1) (Aa (pv 2) (Aa (Az Bz (pv 4) Ag (fun _ _=>rfl)) (Aa Ci (Aa Ag Ac)))))) (A6 call_list_of (by rfl) T.list (by decide+kernel) (Aa (pv 9) Ac))) Ac))))
   (Ae (A8 (Ao op_notN (pv 10) Bk (An _)) (Ah (ps_asg Ci (pg_sub (Cl (hu_of hr) (pv 1) (pv 10) (fun _ _=>rfl)) (Ag) set_list))) Av)
   (Ah (As Ci)))) ?rise)))))))))))),?_⟩
  case rise=>
   clear hZ hPl he hp hq T0 k
   rintro D σ H ⟨u0,u3,u5,u6,u7,u8,d,tl,pl,lk,o,Z,L,ps,ks,fo,rfl,hZ,ht,hpl,hlk,ksl,kn,hk,hf,k⟩
   have nd:((rwZ Z).map (·.1.1)).Nodup:=hZ.up.nd
   have few:(rwZ Z).length≤60:=by unfold rwZ;rw [List.length_map];exact hZ.few
   have ofl:=Nat.le_trans (of_len (rwZ Z) L ps true 2) few
   refine ⟨_,rfl,_,rfl,_,rfl,_,rfl,tl,_,1,_,rfl,rfl,SqT.of ht,Ap (j:=1) rfl,d,pl,o,Z,L,2,ps,true,rfl,hZ,hpl,fun ol H1 s1 hol e1=> ?_⟩
   refine ⟨_,rfl,lk,_,rfl,.inr (SqT.of (s1 _ _ hlk)),fun l2 hl2=> ?_⟩
   have s2:=s1.trans (Ad (o:= .lst (ks.map V.str)) hl2)
   have e2:upd H1 l2 (.lst (ks.map V.str)) l2=some (.lst (ks.map V.str)):=Ab
   have e1:=Ad (o:= .lst (ks.map V.str)) hl2 _ _ e1
   generalize upd H1 l2 (.lst (ks.map V.str))=H2 at s2 e2 e1 ⊢
   refine ⟨ol,l2,(ofF (rwZ Z) L ps true 2).map V.str,ks.map V.str,rfl,rfl,e1,e2,Nat.le_of_lt (Al (by rw [List.length_map,List.length_map];omega)),fun nl hnl=> ?_⟩
   rw [←List.map_append]
   have s3:=s2.trans (Ad (o:= .lst ((ofF (rwZ Z) L ps true 2++ks).map V.str)) hnl)
   have e3:upd H2 nl (.lst ((ofF (rwZ Z) L ps true 2++ks).map V.str)) nl=some (.lst ((ofF (rwZ Z) L ps true 2++ks).map V.str)):=Ab
   generalize upd H2 nl (.lst ((ofF (rwZ Z) L ps true 2++ks).map V.str))=H3 at s3 e3 ⊢
   refine ⟨d,nl,o,Z,ofF (rwZ Z) L ps true 2++ks,rfl,hZ.same s3,e3,ns_nodup nd kn hk,fun n hn=> ?_,fun H4 b4 k4=> ?_⟩
   ·rw [nmZ_rw]
    rcases List.mem_append.mp hn with hn|hn
    ·exact of_in hn
    ·have:=hk n hn
     rw [←of_loose] at this
     exact of_in this
   have k:=k.same s3
   cases fo with
   |none=>
    refine ⟨_,rfl,rfl,_,rfl,Bt ?_⟩
    dsimp only [Bh]
    exact k H4 _ b4 k4 (riseZ_ad _ _) (by rw [riseZ_rw];exact step_none nd L ps ks)
   |some f=>
    refine ⟨_,rfl,rfl,_,rfl,iteT ?_⟩
    have hf:=hf f rfl
    have hfn:f∈nmZ Z:=by
     rw [nmZ_rw]
     rw [←of_loose] at hf
     exact of_in hf
    obtain ⟨z,hz,rfl⟩:=List.mem_map.mp hfn
    have nr:=not_risen hZ.nms hz hf hk
    have hz4:z∈riseZ (ofF (rwZ Z) L ps true 2++ks) Z:=List.mem_map.mpr ⟨z,hz,by rw [nr]⟩
    have c4:=k4.cel z hz4
    refine ⟨_,rfl,_,rfl,d,_,rfl,k4.get hz4,z.2,_,4,4,rfl,rfl,c4,rfl,?_⟩
    dsimp only [Bh]
    refine k _ _ (fun b w e nb=> ?_) (k4.put hz4 (x:=(z.1.1,z.1.2.1,true)) rfl) (by rw [adZ_put,riseZ_ad]) (step_some hZ.nd hZ.nms L ps ks hz hf hk)
    rw [Ai (fun y=>nb (by rw [y];exact List.mem_map.mpr ⟨z,hz,rfl⟩))]
    exact b4 b w e nb
  obtain ⟨pl,lk,t1,t2,t3⟩:=T0.ex
  have nd:((rwZ Z).map (·.1.1)).Nodup:=hZ.up.nd
  have few:(rwZ Z).length≤60:=by unfold rwZ;rw [List.length_map];exact hZ.few
  have hS:InN N (tiF (rwZ Z) (kpB L)):=hPl.inN _
  have t1:H tl=some (.tup [.int (L:Int),.ref pl,.ref lk,foV (foF (rwZ Z) L (Cj N (tiF (rwZ Z) (kpB L)) x))]):=t1
  have t2:H pl=some (.tup (psV (Cj N (tiF (rwZ Z) (kpB L)) x))):=t2
  have t3:H lk=some (.tup ((lookF (rwZ Z) L (Cj N (tiF (rwZ Z) (kpB L)) x)).map V.str)):=t3
  have k:KOut H d o Z L (Cj N (tiF (rwZ Z) (kpB L)) x) (lookF (rwZ Z) L (Cj N (tiF (rwZ Z) (kpB L)) x)) (foF (rwZ Z) L (Cj N (tiF (rwZ Z) (kpB L)) x)) fun H'=>Q (.bl true) H':=k
  clear T0
  refine ⟨_,rfl,.ref tl,.type "tuple","tuple",true,rfl,.tup t1,rfl,_,rfl,Bt ⟨_,rfl,tl,_,rfl,.inr (SqT.of t1),rfl,_,rfl,Bp (fun g=>absurd g (by simp)) fun _=> ?_⟩⟩
  refine ⟨_,rfl,tl,_,0,_,rfl,rfl,SqT.of t1,Ap (j:=0) rfl,_,rfl,.inl ⟨.int (L:Int),.int (L:Int),rfl,.inl ⟨rfl,.inl ⟨_,rfl⟩⟩,fun H1 s1=>⟨_,rfl,Bt ?_⟩⟩⟩
  dsimp only [Bh]
  refine ⟨_,rfl,_,rfl,_,rfl,_,rfl,N,d,e,o,Z,L,x,rfl,hZ.same s1,hPl,N60,s1 _ _ he,hp,hq,fun l qs H2 s2 e2 p2=> ?_⟩
  have s12:=s1.trans s2
  clear s1 s2 he hPl
  have pl100:∀p,(Ct N (tiF (rwZ Z) (kpB L)) p).length≤60:=fun p=>by
   unfold Ct
   exact Nat.le_trans (List.length_filter_le _ _) (by rw [List.length_range];exact N60)
  have two60:∀y∈twoF N (tiF (rwZ Z) (kpB L)) x,y.length≤60:=fun y hy=>by
   unfold twoF at hy
   rcases List.mem_cons.mp hy with rfl|hy
   ·exact pl100 _
   ·rw [List.mem_singleton.mp hy];exact pl100 _
  clear pl100
  generalize hps:Cj N (tiF (rwZ Z) (kpB L)) x=ps at t1 t2 t3 k
  generalize tiF (rwZ Z) (kpB L)=S at hps hS p2 two60
  have ql:qs.length=2:=p2.1
  refine ⟨_,rfl,l,rfl,⟨_,SqL.of e2⟩,fun D2 hD2=>Ce (K:=K) (a:=l) (xs:=qs.map V.ref) (fun i σ zs H4=>∃(u:Option V),σ=[u]∧zs=(((twoF N S x).take i).map fun p=>V.int (p.length:Int))∧Same H2 H4∧H4 D2=some (.lst zs)) ⟨none,rfl,rfl,Ad hD2,Ab⟩ (fun i σ zs H4 _ ⟨_,_,_,s,e⟩=>⟨SqL.of (s _ _ e2),e⟩) ?_ ?_⟩
  ·rintro i v σ zs H4 hv ⟨u,rfl,rfl,s4,d4⟩
   obtain ⟨r,er,rfl⟩:=Ay hv
   obtain ⟨p,ep,hp⟩:=p2.get er
   have i2:i<2:=by have:=(List.getElem?_eq_some_iff.mp er).1;omega
   refine ⟨_,rfl,r,_,rfl,.inr (SqT.of (s4 _ _ hp)),d4,Al (by rw [List.length_map,List.length_take];omega),_,rfl,?_,Aw s4 hD2,Ab⟩
   rw [Be ep,List.map_append,List.map_cons,List.map_nil]
   unfold psV
   rw [List.length_map]
  rintro σ zs H4 ⟨u,rfl,rfl,s4,d4⟩
  have tl2:(twoF N S x).take (qs.map V.ref).length=twoF N S x:=by rw [List.length_map,ql];rfl
  rw [tl2] at d4
  refine ⟨D2,((twoF N S x).map List.length).map Int.ofNat,rfl,?_,by unfold twoF;simp,fun m hm hl=> ?_⟩
  ·rw [List.map_map,List.map_map]
   exact SqL.of d4
  obtain ⟨m',hm',rfl⟩:=List.mem_map.mp hm
  obtain ⟨rest,hfl⟩:=least_head hm' fun n hn=>by
   have:=hl (Int.ofNat n) (List.mem_map.mpr ⟨n,hn,rfl⟩)
   exact Int.ofNat_le.mp this
  rw [hps] at hfl
  have hin:ps∈twoF N S x∧ps.length=m':=by
   have h0:ps∈(twoF N S x).filter (fun p=>decide (p.length=m')):=by rw [hfl];exact List.mem_cons_self
   have:=List.mem_filter.mp h0
   exact ⟨this.1,of_decide_eq_true this.2⟩
  clear hfl hl hm hm' hps tl2
  have s14:=s12.trans s4
  have e4:=s4 _ _ e2
  have p4:PtA H4 qs (twoF N S x):=p2.same fun r xs e=>s4 r _ e
  clear d4 s4 e2 p2 s12
  refine ⟨_,rfl,l,rfl,⟨_,SqL.of e4⟩,fun D3 hD3=>Ce (K:=K) (a:=l) (xs:=qs.map V.ref) (fun i σ zs H5=>∃(u:Option V) (bs:List Bool),σ=[u,some (.int (Int.ofNat m')),some (.ref tl)]∧zs=bs.map V.bl∧Same H4 H5∧H5 D3=some (.lst zs)∧bs.length=i∧(ps∈(twoF N S x).take i→true∈bs)) ⟨none,[],rfl,rfl,Ad hD3,Ab,rfl,fun z=>by cases z⟩ (fun i σ zs H5 _ ⟨_,_,_,_,s,e,_⟩=>⟨SqL.of (s _ _ e4),e⟩) ?_ ?_⟩
  ·rintro i v σ zs H5 hv ⟨u,bs,rfl,rfl,s5,d5,bl,hb⟩
   obtain ⟨r,er,rfl⟩:=Ay hv
   obtain ⟨p,ep,hpr⟩:=p4.get er
   have i2:i<2:=by have:=(List.getElem?_eq_some_iff.mp er).1;omega
   have h5:=s5 _ _ hpr
   have tk:=Be ep
   have lp:(psV p).length=p.length:=by unfold psV;rw [List.length_map]
   have fin:∀(c:Bool) (H6:Hp),Same H5 H6→(p=ps→c=true)→H6 D3=some (.lst (bs.map V.bl))∧(bs.map V.bl).length<sizeLine∧∃(u:Option V) (bs':List Bool),[some (.ref r),some (.int (Int.ofNat m')),some (.ref tl)]=[u,some (.int (Int.ofNat m')),some (.ref tl)]∧bs.map V.bl++[V.bl c]=bs'.map V.bl∧Same H4 (upd H6 D3 (.lst (bs.map V.bl++[V.bl c])))∧upd H6 D3 (.lst (bs.map V.bl++[V.bl c])) D3=some (.lst (bs.map V.bl++[V.bl c]))∧bs'.length=i+1∧(ps∈(twoF N S x).take (i+1)→true∈bs'):=fun c H6 s6 hc=>by
    refine ⟨s6 _ _ d5,Al (by rw [List.length_map];omega),_,bs++[c],rfl,by rw [List.map_append];rfl,Aw (s5.trans s6) hD3,Ab,by rw [List.length_append,bl];rfl,fun hm=> ?_⟩
    rw [tk] at hm
    rcases List.mem_append.mp hm with hm|hm
    ·exact List.mem_append_left _ (hb hm)
    ·have:=hc (List.mem_singleton.mp hm).symm
     rw [this]
     exact List.mem_append_right _ (List.mem_singleton.mpr rfl)
   refine ⟨_,rfl,r,_,rfl,.inr (SqT.of h5),_,rfl,rfl,_,rfl,Bp (fun g=> ?_) fun g=> ?_⟩
   ·have g:p.length=m':=by
     have:=V.int.inj (of_decide_eq_true g)
     rw [lp] at this
     exact Int.ofNat.inj this
    refine ⟨_,rfl,tl,_,1,_,rfl,rfl,SqT.of (s5 _ _ (s14 _ _ t1)),Ap (j:=1) rfl,_,rfl,.inr ⟨pl,r,ps,p,rfl,s5 _ _ (s14 _ _ t2),h5,by rw [hin.2,g],by have:=two60 _ hin.1;omega,fun H6 c s6 hc=> ?_⟩⟩
    exact fin c H6 s6 fun z=>hc z.symm
   ·have g:¬p.length=m':=fun z=>g (decide_eq_true (congrArg V.int (by rw [lp,z];rfl)))
    exact fin false H5 (Cd _) fun z=>absurd (by rw [z];exact hin.2) g
  rintro σ zs H5 ⟨u,bs,rfl,rfl,s5,d5,bl,hb⟩
  have tb:true∈bs:=hb (by rw [List.length_map,ql];exact hin.1)
  have fl:(bs.map V.bl).all flatV=true:=by
   rw [List.all_eq_true]
   intro x hx
   obtain ⟨z,_,rfl⟩:=List.mem_map.mp hx
   rfl
  have yi:inV (.bl true) (bs.map V.bl)=true:=by
   unfold inV
   exact List.any_eq_true.mpr ⟨.bl true,List.mem_map.mpr ⟨true,tb,rfl⟩,by decide⟩
  have s15:=s14.trans s5
  clear hb tb bl e4 p4 hD2 hD3 two60 hin s14
  refine ⟨D3,_,rfl,.inl (SqL.of d5),rfl,fl,_,rfl,?_⟩
  rw [yi]
  refine Bt ?_
  dsimp only [Bh]
  have t1':=s15 _ _ t1
  have t2':=s15 _ _ t2
  have t3':=s15 _ _ t3
  have hZ':=hZ.same s15
  have k':=k.same s15
  clear t1 t2 t3 hZ k d5 s5 s15 fl yi
  refine ⟨_,rfl,_,rfl,_,rfl,tl,_,1,_,rfl,rfl,SqT.of t1',Ap (j:=1) rfl,d,pl,o,Z,L,2,ps,false,rfl,hZ',t2',fun il H6 s6 hil i6=> ?_⟩
  rw [of_loose] at i6
  refine ⟨_,rfl,_,rfl,_,rfl,tl,_,1,_,rfl,rfl,SqT.of (s6 _ _ t1'),Ap (j:=1) rfl,d,pl,o,Z,L,1,ps,false,rfl,hZ'.same s6,s6 _ _ t2',fun al H7 s7 hal a7=> ?_⟩
  rw [of_loose] at a7
  have s67:=s6.trans s7
  have i7:=s7 _ _ i6
  have t1:=s67 _ _ t1'
  have t2:=s67 _ _ t2'
  have t3:=s67 _ _ t3'
  have hZ:=hZ'.same s67
  have k:=k'.same s67
  clear t1' t2' t3' hZ' k' i6 s6 s7 s67
  have kl60:(lookF (rwZ Z) L ps).length≤60:=by
   unfold lookF
   exact Nat.le_trans (List.length_filter_le _ _) (Nat.le_trans (loo_len _ _ _ _) few)
  have knd:(lookF (rwZ Z) L ps).Nodup:=by
   unfold lookF
   exact (loose_nd nd L ps 2).sublist List.filter_sublist
  have kin:∀n∈lookF (rwZ Z) L ps,n∈Bv (rwZ Z) L ps 2:=fun n hn=>by
   unfold lookF at hn
   exact (List.mem_filter.mp hn).1
  have hfo:∀f,foF (rwZ Z) L ps=some f→f∈Bv (rwZ Z) L ps 1:=fun f hf=>by
   unfold foF at hf
   exact List.mem_of_mem_head? hf
  have hno:foF (rwZ Z) L ps=none→Bv (rwZ Z) L ps 1=[]∧lookF (rwZ Z) L ps=Bv (rwZ Z) L ps 2:=fun hf=>by
   refine ⟨by unfold foF at hf;exact List.head?_eq_none_iff.mp hf,?_⟩
   unfold lookF
   rw [hf]
   exact List.filter_eq_self.mpr fun _ _=>rfl
  have i60:=Nat.le_trans (loo_len (rwZ Z) L ps 2) few
  generalize lookF (rwZ Z) L ps=ks at t3 k kl60 knd kin hno
  generalize foF (rwZ Z) L ps=fo at t1 k hfo hno
  have c2:cutV ([.int (L:Int),.ref pl,.ref lk,foV fo]:List V) (some 2) none=[.ref lk,foV fo]:=by unfold cutV;rfl
  refine ⟨_,rfl,_,rfl,cut_any t1 fun r2 H8 s8 e8=> ?_⟩
  rw [c2] at e8
  refine ⟨r2,_,rfl,SqT.of e8,rfl,_,_,rfl,_,_,rfl,rfl,?_⟩
  have t1:=s8 _ _ t1
  have t2:=s8 _ _ t2
  have t3:=s8 _ _ t3
  have i8:=s8 _ _ i7
  have a8:=s8 _ _ a7
  have hZ:=hZ.same s8
  have k:=k.same s8
  refine ⟨_,rfl,.ref lk,.type "tuple","tuple",true,rfl,.tup t3,rfl,_,rfl,Bt ?_⟩
  dsimp only [Bh]
  refine ⟨_,rfl,lk,rfl,⟨_,SqT.of t3⟩,fun D9 hD9=>C7 (K:=K) (a:=lk) (xs:=ks.map V.str) (fun i σ zs H9=>∃(u:Option V),σ=[u,some (.ref il)]∧zs=[]∧Same H8 H9∧H9 D9=some (.lst zs)) ⟨none,rfl,rfl,Ad hD9,Ab⟩ (fun i σ zs H9 _ ⟨_,_,_,s,e⟩=>⟨SqT.of (s _ _ t3),e⟩) ?_ ?_⟩
  ·rintro i v σ zs H9 hv ⟨u,rfl,rfl,s9,d9⟩
   obtain ⟨n,hn,rfl⟩:=Ay hv
   have nin:=kin n (List.mem_of_getElem? hn)
   refine ⟨_,rfl,.str n,.type "str","str",true,rfl,.str n,rfl,_,rfl,Bt ⟨_,rfl,_,rfl,il,_,rfl,.inl (SqL.of (s9 _ _ i8)),rfl,strs_fl _,_,rfl,?_⟩⟩
   rw [inV_strs,decide_eq_true nin]
   exact ⟨_,rfl,rfl,s9,d9⟩
  rintro σ zs H9 ⟨u,rfl,rfl,s9,d9⟩
  refine ⟨small (by simp),fun E9 hE9=> ?_⟩
  have s10:=s9.trans (Ad (o:= .lst []) hE9)
  have d10:=Ad (o:= .lst []) hE9 _ _ d9
  have e10:upd H9 E9 (.lst []) E9=some (.lst []):=Ab
  generalize upd H9 E9 (.lst [])=H10 at s10 d10 e10 ⊢
  refine ⟨D9,E9,[],rfl,rfl,SqL.of d10,SqL.of e10,_,rfl,Bt ?_⟩
  dsimp only [Bh]
  have t1:=s10 _ _ t1
  have t2:=s10 _ _ t2
  have t3:=s10 _ _ t3
  have i10:=s10 _ _ i8
  have a10:=s10 _ _ a8
  have hZ:=hZ.same s10
  have k:=k.same s10
  have len:∀(ns:List Str),(ns.map V.str).length=ns.length:=fun ns=>List.length_map ..
  refine ⟨_,rfl,lk,ks,rfl,.inr (SqT.of t3),by omega,fun ms mnd hm=> ?_⟩
  refine ⟨_,rfl,lk,_,rfl,.inr (SqT.of t3),_,_,rfl,rfl,_,rfl,Bp (fun g=>absurd (of_decide_eq_true g) (by rw [len,perm_len mnd knd hm];exact Int.lt_irrefl _)) fun _=> ?_⟩
  dsimp only [Bh]
  have fin:∀(H11:Hp),Same H10 H11→tRise {nx:=fun x H'=>Q .non H',rt:=Q} [some (.int (N:Int)),some (.ref d),some (.int (L:Int)),some (.ref e),some (.ref tl),some (.ref l),some (.int (Int.ofNat m')),some (.ref il),some (.ref al),some (.ref lk),some (foV fo)] H11:=fun H11 s11=>⟨_,_,_,_,_,_,d,tl,pl,lk,o,Z,L,ps,ks,fo,rfl,hZ.same s11,s11 _ _ t1,s11 _ _ t2,s11 _ _ t3,kl60,knd,kin,hfo,k.same s11⟩
  clear k t1 t2 hZ
  cases fo with
  |none=>
   obtain ⟨n1,n2⟩:=hno rfl
   rw [n1] at a10
   refine ⟨_,rfl,rfl,_,rfl,iteT ⟨_,rfl,small (by simp),fun E11 hE11=> ?_⟩⟩
   have s11:=Ad (o:= .lst []) hE11
   have e11:upd H10 E11 (.lst []) E11=some (.lst []):=Ab
   generalize upd H10 E11 (.lst [])=H11 at s11 e11 ⊢
   refine ⟨al,E11,[],rfl,rfl,SqL.of (s11 _ _ a10),SqL.of e11,_,rfl,Bt ?_⟩
   refine ⟨_,rfl,lk,_,rfl,.inr (SqT.of (s11 _ _ t3)),_,rfl,il,_,rfl,.inl (SqL.of (s11 _ _ i10)),_,_,rfl,rfl,_,rfl,Bp (fun g=>absurd (of_decide_eq_true g) (by rw [len,len,n2];exact Int.lt_irrefl _)) fun _=> ?_⟩
   dsimp only [Bh]
   refine ⟨_,rfl,rfl,_,rfl,Bt ?_⟩
   dsimp only [Bh]
   exact fin H11 s11
  |some f=>
   have hf:=hfo f rfl
   refine ⟨_,rfl,rfl,_,rfl,Bt ?_⟩
   dsimp only [Bh]
   refine ⟨_,rfl,rfl,_,rfl,iteT ⟨_,rfl,.str f,.type "str","str",true,rfl,.str f,rfl,_,rfl,Bt ⟨_,rfl,_,rfl,al,_,rfl,.inl (SqL.of a10),rfl,strs_fl _,_,rfl,?_⟩⟩⟩
   have ef:inV (foV (some f)) ((Bv (rwZ Z) L ps 1).map V.str)=true:=by
    show inV (.str f) _=true
    rw [inV_strs,decide_eq_true hf]
   rw [ef]
   refine Bt ?_
   dsimp only [Bh]
   exact fin H10 (Cd _)
end
end K38
namespace K38
open PySem L2 Wk
theorem kvZ_drop (Z:List RC) (n:Str):dropK (kvZ Z) (Sum.inr n)=kvZ (Z.filter fun z=> !decide (z.1.1.1=n)):=by
 unfold dropK kvZ
 rw [List.filter_map]
 congr 1
 refine List.filter_congr fun z _=> ?_
 rw [Bool.eq_iff_iff]
 simp
theorem rwZ_drop (Z:List RC) (n:Str):rwZ (Z.filter fun z=> !decide (z.1.1.1=n))=Cr (rwZ Z) n:=by
 unfold rwZ Cr
 rw [List.filter_map];rfl
theorem sm_leaf {x:V} (h:(∃i,x= .int i)∨(∃s,x= .str s)∨(∃c,x= .bl c)∨x= .non):∀(n:Nat) (H:Hp),SmV n H x x
 |0,_=>⟨rfl,h⟩
 |_+1,_=> .inl ⟨rfl,h⟩
theorem sm_flat {n:Nat} {H:Hp} {a b:Addr} {xs:List V} (ha:H a=some (.tup xs)) (hb:H b=some (.tup xs)) (l:xs.length≤100) (h:∀x∈xs,(∃i,x= .int i)∨(∃s,x= .str s)∨(∃c,x= .bl c)∨x= .non):SmV (n+1) H (.ref a) (.ref b):=
 .inr ⟨a,b,xs,xs,rfl,rfl,ha,hb,rfl,l,fun i u v e1 e2=>by
  rw [e1] at e2
  cases e2
  exact sm_leaf (h u (List.mem_of_getElem? e1)) n H⟩
theorem row_leaf (x:R6):∀v∈rowV x,(∃i,v= .int i)∨(∃s,v= .str s)∨(∃c,v= .bl c)∨v= .non:=fun v hv=>by
 unfold rowV tieV at hv
 simp only [List.cons_append,List.nil_append,List.mem_cons,List.not_mem_nil,or_false] at hv
 rcases hv with rfl|rfl|rfl|rfl|rfl|rfl
 ·exact .inr (.inl ⟨_,rfl⟩)
 ·exact .inl ⟨_,rfl⟩
 ·exact .inl ⟨_,rfl⟩
 ·exact .inl ⟨_,rfl⟩
 ·exact .inl ⟨_,rfl⟩
 ·exact .inr (.inr (.inl ⟨_,rfl⟩))
theorem sm_rows {n:Nat} {H:Hp} {a b:Addr} {rs qs:List Addr} {R:List R6} (ha:H a=some (.tup (rs.map V.ref))) (hr:RowsAt H rs R) (hb:H b=some (.tup (qs.map V.ref))) (hq:RowsAt H qs R) (l:R.length≤60):SmV (n+2) H (.ref a) (.ref b):=
 .inr ⟨a,b,_,_,rfl,rfl,ha,hb,by rw [List.length_map,List.length_map,hr.1,hq.1],by rw [List.length_map,hr.1];omega,fun i u v e1 e2=>by
  obtain ⟨r,er,rfl⟩:=Ay e1
  obtain ⟨q,eq,rfl⟩:=Ay e2
  obtain ⟨x,ex,hx⟩:=hr.get er
  exact sm_flat hx (hq.2 i q x eq ex) (by unfold rowV tieV;simp) (row_leaf x)⟩
theorem sm_lay {n:Nat} {H:Hp} {a b:Addr} {N:Nat} {R:List R6} (ha:LayAt H a N R) (hb:LayAt H b N R) (l:R.length≤60):SmV (n+3) H (.ref a) (.ref b):=by
 obtain ⟨tp,rs,h1,h2,h3⟩:=ha
 obtain ⟨tq,qs,g1,g2,g3⟩:=hb
 refine .inr ⟨a,b,_,_,rfl,rfl,h1,g1,rfl,by simp,fun i u v e1 e2=> ?_⟩
 match i,e1,e2 with
 |0,e1,e2=>cases e1;cases e2;exact sm_leaf (.inl ⟨_,rfl⟩) _ _
 |1,e1,e2=>cases e1;cases e2;exact sm_rows h2 h3 g2 g3 l
 |i+2,e1,e2=>exact absurd e1 (by simp)
theorem run_len (N:Nat) (x:R6):∀(L:Nat) (R:List R6),(runF N x L R).2.length≤L∧(runF N x L R).1.length=R.length
 |0,R=>⟨Nat.le_refl _,rfl⟩
 |L+1,R=>by
  unfold runF
  have h1:=run_len N x L (C5 R (rdF N x R L))
  have hs:∀r,(C5 R r).length=R.length:=fun r=>by unfold C5;rw [List.length_map]
  split
  ·refine ⟨by rw [List.length_cons];omega,?_⟩
   show (runF N x L (C5 R (rdF N x R L))).1.length=_
   rw [h1.2,hs]
  ·exact ⟨by simp,hs _⟩
def spJudged:Sp:=fun vs H Q _=>∃(N:Nat) (tp g h' p:Addr) (rs ts:List Addr) (R:List R6) (n:Str) (x:R6),vs=[.int (N:Int),.ref tp,.str n,.ref g]∧H tp=some (.tup (rs.map V.ref))∧RowsAt H rs R∧R.length≤60∧N≤60∧PlN N R∧UpP R∧x∈R∧x.1.1=n∧x.2.2=true∧x.2.1≤60∧H g=some (.tup [.ref h',.ref p])∧LayAt H h' N (runF N x (x.2.1+1) (Cr R n)).1∧H p=some (.tup (ts.map V.ref))∧TlsAt H ts (runF N x (x.2.1+1) (Cr R n)).2∧∀(H':Hp),Same H H'→Q (.bl true) H'
section
variable {P:Program} {w:World} {K:PySem.W.Frag} {mg:Str→Option Value} {base:Heap}
theorem scJudged:A4 ["_law_many_here","_law_rows_here","_law_name","_law_thing","_law_known_here","_law_one","_law_other","_law_weight_here","_law_layer","_law_is_kept","_law_told"] ["_law_many_here","_law_rows_here","_law_name","_law_thing"] (Af sJudged):=⟨rfl,rfl,rfl,by decide+kernel,rfl,by decide+kernel,by decide+kernel⟩
theorem ok_Judged {f:Addr} {fd:FuncData} (F:Fun K "_law_judged" "_law_judged" sJudged f fd) (T:Txt mg)
  {gKnown:Addr} {fKnown:FuncData} (kKnown:PySem.W.keepIn K (.ref gKnown)=true) (bKnown:Binds K fKnown ["_law_rows_here"] []) (hKnown:mg "_law_known"=some (.ref gKnown)) (GKnown:FnOk P w K mg base CX0 6 gKnown fKnown ["_law_rows_here"] spKnown)
  {gRoundL:Addr} {fRoundL:FuncData} (kRoundL:PySem.W.keepIn K (.ref gRoundL)=true) (bRoundL:Binds K fRoundL ["_law_many_here","_law_known_here","_law_layer","_law_ends","_law_told"] []) (hRoundL:mg "_law_round"=some (.ref gRoundL)) (GRoundL:FnOk P w K mg base CX0 6 gRoundL fRoundL ["_law_many_here","_law_known_here","_law_layer","_law_ends","_law_told"] spRoundL)
  {gRows:Addr} {fRows:FuncData} (kRows:PySem.W.keepIn K (.ref gRows)=true) (bRows:Binds K fRows ["_law_known_here"] []) (hRows:mg "_law_rows"=some (.ref gRows)) (GRows:FnOk P w K mg base CX0 6 gRows fRows ["_law_known_here"] spRowsL)
  {gSame:Addr} {fSame:FuncData} (kSame:PySem.W.keepIn K (.ref gSame)=true) (bSame:Binds K fSame ["_law_thing","_law_due"] []) (hSame:mg "_law_same"=some (.ref gSame)) (GSame:FnOk P w K mg base CX0 6 gSame fSame ["_law_thing","_law_due"] spSm):
  FnOk P w K mg base CX0 7 f fd ["_law_many_here","_law_rows_here","_law_name","_law_thing"] spJudged:=by
 refine F.ok scJudged (fun vs H Q E h=> ?_) (fun cdv A outer s H vs Q E hr h=> ?_)
 ·obtain ⟨_,_,_,_,_,_,_,_,_,_,rfl,_⟩:=h;rfl
 ·obtain ⟨N,tp,g,h',p,rs,ts,R,n,x,rfl,ht,hR,R60,N60,hPl,hUp,hx,xn,xk,x60,hg,hL,hp,hT,k⟩:=h
  refine ⟨_,Ae (A8 (PW.pt (Co (Cs (A9 (Ak A3 (by rfl) T.isinstance (by decide+kernel) (Aa (pv 3) (Aa (Bi (T:="tuple") (by rfl) T.tuple (by decide+kernel)) Ac))))) (Co (Ao op_ne (Ak At (by rfl) T.len PySem.boot_len (Aa (pv 3) Ac)) Ag (An _)) (By (Cs (A9 (Ak A3 (by rfl) T.isinstance (by decide+kernel) (Aa (Az Bz (pv 3) Ag (fun _ _=>rfl)) (Aa (Bi (T:="tuple") (by rfl) T.tuple (by decide+kernel)) Ac))))))))) (Ah (As Ci)) Av)
   (Ae (Au (i:=4) scJudged.nd rfl (Or.inl rfl) (Aq GKnown hr rfl hKnown kKnown bKnown .nil A5 (Aa (pv 1) Ac)))
   (Ae (ps_asg (pe_dpop1 (pv 4) (pv 2) ⟨rfl,rfl,rfl,rfl⟩) (pg_lst rfl (Ar (Aj (i:=5) scJudged.nd rfl (Or.inl rfl)) (Ar (Aj (i:=6) scJudged.nd rfl (Or.inl rfl)) (Ar (Aj (i:=7) scJudged.nd rfl (Or.inl rfl)) (Ar (Aj (i:=8) scJudged.nd rfl (Or.inl rfl)) (Ar (Aj (i:=9) scJudged.nd rfl (Or.inl rfl)) Cc)))))))
   (pss_fz (Ae (A8 (Cs (A9 (pv 9))) (Ah (Au (i:=8) scJudged.nd rfl (Or.inl rfl) (pe_un un_neg Ag))) Av)
   (Ae (C3 PassesOwn.never rfl (pi_tup (Az Bz (pv 3) Ag (fun _ _=>rfl))) (Aj (i:=10) scJudged.nd rfl (Or.inl rfl)) (Ae (A8 (PW.pt (Co (Ao op_lt (pv 8) Ag (An _)) (By (Cs (A9 (Aq GRoundL hr rfl hRoundL kRoundL bRoundL .nil A5 (Aa (pv 0) (Aa (pv 4) (Aa (pv 8) (Aa (Ch (Aa (pv 5) (Aa (pv 6) Ac))) (Aa (pv 10) Ac))))))))))) (Ah (As Ci)) Av)
   (Ah (Au (i:=8) scJudged.nd rfl (Or.inl rfl) (Az Ax (Ch (Aa (A1 op_sub (pv 8) Ag) (Aa (pe_un un_neg Ag) Ac))) (A6 call_int1 (by rfl) T.int (by decide+kernel) (Aa (A7 op_notN (Az Bz (pv 10) Ag (fun _ _=>rfl)) Bk (An _)) Ac)) (fun _ _=>rfl))))))
   (Ah (As (Ca (A7 op_lt (pv 8) Ag (An _)) (C2 (Aq GSame hr rfl hSame kSame bSame .nil A5 (Aa (Az Bz (pv 3) Ag (fun _ _=>rfl)) (Aa (Bf (Aa (pv 0) (Aa (Aq GRows hr rfl hRows kRows bRows .nil A5 (Aa (pv 4) Ac)) Ac))) Ac)))))))))))),?_⟩
  refine ⟨_,rfl,.ref g,.type "tuple","tuple",true,rfl,.tup hg,rfl,_,rfl,Bt ⟨_,rfl,g,_,rfl,.inr (SqT.of hg),rfl,_,rfl,Bp (fun g=>absurd g (by simp)) fun _=> ?_⟩⟩
  refine ⟨_,rfl,g,_,1,_,rfl,rfl,SqT.of hg,Ap (j:=1) rfl,.ref p,.type "tuple","tuple",true,rfl,.tup hp,rfl,_,rfl,Bt ?_⟩
  dsimp only [Bh]
  refine ⟨_,rfl,tp,rs,R,rfl,ht,hR,R60,hUp.nd,fun d Z H1 s1 e1 hd rz cz nz fz=> ?_⟩
  have few:Z.length≤60:=by
   have:=congrArg List.length rz
   unfold rwZ at this
   rw [List.length_map] at this
   omega
  have nn:(nmZ Z).Nodup:=by rw [nmZ_rw,rz];exact hUp.nd
  obtain ⟨z,hz,zx⟩:∃z∈Z,z.1=x:=by
   rw [←rz] at hx
   exact List.mem_map.mp hx
  have vz:=kvZ_val nn hz
  rw [zx,xn] at vz
  have c1:=cz z hz
  rw [zx] at c1
  refine ⟨_,rfl,d,rfl,.inl ⟨_,.of e1⟩,_,rfl,kvZ Z,Sum.inr n,_,e1,rfl,vz,?_⟩
  rw [kvZ_drop]
  have fc:∀b∈adZ Z,b≠d:=fun b hb e=>by
   obtain ⟨y,hy,rfl⟩:=List.mem_map.mp hb
   have:=cz y hy
   rw [e,e1] at this
   cases this
  have zd:z.2≠d:=fc _ (List.mem_map.mpr ⟨z,hz,rfl⟩)
  refine ⟨z.2,_,rfl,SqL.of (by rw [Ai zd];exact c1),rfl,_,_,rfl,_,_,rfl,_,_,rfl,_,_,rfl,_,_,rfl,rfl,?_⟩
  refine ⟨d,kvZ (Z.filter fun z=> !decide (z.1.1.1=n)),Ab,fun o es ep ho=> ?_⟩
  rw [upd_upd]
  have k2:KnZ (upd H1 d (.frz o (.dK (kvZ (Z.filter fun z=> !decide (z.1.1.1=n)))))) d o (Z.filter fun z=> !decide (z.1.1.1=n)):=by
   refine ⟨Ab,fun y hy=> ?_,Nat.le_trans (List.length_filter_le _ _) few,?_,?_⟩
   ·have yZ:=(List.mem_filter.mp hy).1
    rw [Ai (fc _ (List.mem_map.mpr ⟨y,yZ,rfl⟩))]
    exact cz y yZ
   ·rw [rwZ_drop,rz]
    unfold Cr UpP
    exact List.Pairwise.sublist List.filter_sublist hUp
   ·unfold adZ
    exact nz.sublist (List.filter_sublist.map _)
  have s2:Same H (upd H1 d (.frz o (.dK (kvZ (Z.filter fun z=> !decide (z.1.1.1=n)))))):=fun b w e=>by
   rw [Ai (Am e hd)]
   exact s1 _ _ e
  have rd:rwZ (Z.filter fun z=> !decide (z.1.1.1=n))=Cr R n:=by rw [rwZ_drop,rz]
  have fz2:∀b∈adZ (Z.filter fun z=> !decide (z.1.1.1=n)),H b=none:=fun b hb=>by
   obtain ⟨y,hy,rfl⟩:=List.mem_map.mp hb
   exact fz _ (List.mem_map.mpr ⟨y,(List.mem_filter.mp hy).1,rfl⟩)
  generalize upd H1 d (.frz o (.dK (kvZ (Z.filter fun z=> !decide (z.1.1.1=n)))))=H2 at k2 s2 ⊢
  generalize (Z.filter fun z=> !decide (z.1.1.1=n))=Z0 at k2 rd fz2
  have hPd:PlN N (Cr R n):=fun y hy=>hPl y (List.mem_filter.mp hy).1
  have ld:(Cr R n).length≤60:=Nat.le_trans (List.length_filter_le _ _) R60
  have hpp:=hPl x hx
  clear hR ht hx few nn hz zx vz c1 cz nz fz e1 s1 fc zd hd rz hPl hUp
  have rl:=run_len N x (x.2.1+1) (Cr R n)
  generalize hrun:runF N x (x.2.1+1) (Cr R n)=run at hL hT rl
  generalize Cr R n=R1 at hPd ld rd hrun rl
  subst rd
  refine ⟨_,rfl,_,rfl,?_⟩
  rw [xk]
  refine Bt ?_
  dsimp only [Bh]
  have x1:((x.2.1+1:Nat):Int) - 1=(x.2.1:Int):=by omega
  refine ⟨_,rfl,g,_,1,_,rfl,rfl,SqT.of (s2 _ _ hg),Ap (j:=1) rfl,p,rfl,⟨_,SqT.of (s2 _ _ hp)⟩,for_tup (K:=K) (a:=p) (xs:=ts.map V.ref) (fun j σ H3=>∃(fuel:Nat) (Z3:List RC) (u10:Option V),σ=[some (.int (N:Int)),some (.ref tp),some (.str n),some (.ref g),some (.ref d),some (.int (x.1.2.1:Int)),some (.int (x.1.2.2.1:Int)),some (.int x.1.2.2.2),some (.int ((fuel:Int) - 1)),some (.bl true),u10]∧Same H H3∧KnZ H3 d o Z3∧adZ Z3=adZ Z0∧PlN N (rwZ Z3)∧runF N x fuel (rwZ Z3)=(run.1,run.2.drop j)) ⟨x.2.1+1,Z0,none,by rw [x1,←xk];rfl,s2,k2,rfl,hPd,hrun⟩ (fun j σ H3 _ ⟨_,_,_,_,s,_⟩=>SqT.of (s _ _ hp)) ?_ ?_⟩
  ·rintro j v σ H3 hv ⟨fuel,Z3,u10,rfl,s3,k3,ad3,pl3,er⟩
   obtain ⟨tl,et,rfl⟩:=Ay hv
   have jF:j<run.2.length:=by rw [←hT.1];exact (List.getElem?_eq_some_iff.mp et).1
   have Tr:=hT.2 j tl _ et (C1 jF)
   rw [List.drop_eq_getElem_cons jF] at er
   generalize run.2[j]=r at Tr er
   cases fuel with
   |zero=>unfold runF at er;injection er with _ er;cases er
   |succ L=>
    have eL:(((L+1:Nat):Int) - 1)=(L:Int):=by omega
    rw [eL]
    unfold runF at er
    have rr:rdF N x (rwZ Z3) L=r:=by
     split at er
     ·injection er with _ er;injection er
     ·injection er with _ er;injection er
    refine ⟨_,rfl,_,_,rfl,rfl,_,rfl,Bp (fun g=>absurd (of_decide_eq_true g) (by omega)) fun _=> ?_⟩
    refine ⟨_,rfl,_,rfl,_,rfl,_,rfl,_,rfl,small (by simp),fun e he=> ?_⟩
    have s4:=s3.trans (Ad (o:= .lst [.int (x.1.2.1:Int),.int (x.1.2.2.1:Int)]) he)
    have k4:=k3.same (Ad (o:= .lst [.int (x.1.2.1:Int),.int (x.1.2.2.1:Int)]) he)
    have e4:upd H3 e (.lst [.int (x.1.2.1:Int),.int (x.1.2.2.1:Int)]) e=some (.lst [.int (x.1.2.1:Int),.int (x.1.2.2.1:Int)]):=Ab
    generalize upd H3 e (.lst [.int (x.1.2.1:Int),.int (x.1.2.2.1:Int)])=H4 at s4 k4 e4 ⊢
    refine ⟨_,rfl,N,d,e,tl,o,Z3,L,x,rfl,k4,pl3,N60,e4,hpp.1,hpp.2,by rw [rr];exact Tr.mono fun r xs h=>s4 _ _ h,fun H5 Z5 b5 k5 ad5 rw5=> ?_⟩
    have rw5:rwZ Z5=C5 (rwZ Z3) (rdF N x (rwZ Z3) L):=rw5
    have s5:Same H H5:=fun b w h=>b5 b w (s4 _ _ h) fun hb=>by
     rw [ad3] at hb
     rw [fz2 b hb] at h
     cases h
    have pl5:PlN N (rwZ Z5):=by rw [rw5];exact pl3.step _
    have Tr5:TlAt H5 tl r:=Tr.mono fun r xs h=>s5 _ _ h
    refine ⟨_,rfl,Bt ?_⟩
    dsimp only [Bh]
    obtain ⟨pl,lk,t1,t2,t3⟩:=Tr5.ex
    refine ⟨_,rfl,_,_,rfl,rfl,_,rfl,small (by simp),fun l hl=> ?_⟩
    have s6:=s5.trans (Ad (o:= .lst [.int ((L:Int) - 1),.int (-1)]) hl)
    have k6:=k5.same (Ad (o:= .lst [.int ((L:Int) - 1),.int (-1)]) hl)
    have t6:=Ad (o:= .lst [.int ((L:Int) - 1),.int (-1)]) hl _ _ t1
    have e6:upd H5 l (.lst [.int ((L:Int) - 1),.int (-1)]) l=some (.lst [.int ((L:Int) - 1),.int (-1)]):=Ab
    refine ⟨_,rfl,tl,_,3,_,rfl,rfl,SqT.of t6,Ap (j:=3) rfl,rfl,.inr ⟨_,rfl,?_⟩⟩
    rw [rr] at rw5 er
    cases hfo:r.2.2.2 with
    |none=>
     rw [if_pos hfo] at er
     injection er with er1 er2
     injection er2 with _ er2
     refine ⟨l,_,0,_,rfl,rfl,SqL.of e6,rfl,?_⟩
     exact ⟨L,Z5,_,rfl,s6,k6,ad5.trans ad3,pl5,by rw [rw5];exact Prod.ext er1 er2⟩
    |some f=>
     rw [if_neg (by rw [hfo];intro z;cases z)] at er
     injection er with er1 er2
     injection er2 with _ er2
     refine ⟨l,_,1,_,rfl,rfl,SqL.of e6,rfl,?_⟩
     exact ⟨0,Z5,_,rfl,s6,k6,ad5.trans ad3,pl5,by rw [rw5];exact Prod.ext er1 er2⟩
  rintro σ H3 ⟨fuel,Z3,u10,rfl,s3,k3,ad3,pl3,er⟩
  rw [List.length_map,hT.1,List.drop_length] at er
  cases fuel with
  |succ L=>
   unfold runF at er
   split at er
   ·injection er with _ er;cases er
   ·injection er with _ er;cases er
  |zero=>
   unfold runF at er
   injection er with er _
   refine ⟨_,rfl,_,_,rfl,rfl,_,rfl,Bp (fun _=> ?_) fun g=>absurd (decide_eq_true (by decide)) g⟩
   refine ⟨_,rfl,g,_,0,_,rfl,rfl,SqT.of (s3 _ _ hg),Ap (j:=0) rfl,_,rfl,_,rfl,d,o,Z3,rfl,k3,fun tq qs H6 s6 e6 r6=>⟨small (by simp),fun t ht=> ?_⟩⟩
   have s7:=s6.trans (Ad (o:= .tup [.int (N:Int),.ref tq]) ht)
   rw [er] at r6
   refine .inl ⟨.ref h',.ref t,rfl,sm_lay (n:=1) (hL.same (s3.trans s7)) ⟨tq,qs,Ab,Ad ht _ _ e6,r6.mono fun r xs h=>Ad ht _ _ h⟩ (by rw [rl.2];exact ld),fun H8 s8=>k H8 ((s3.trans s7).trans s8)⟩
end
end K38
namespace K38
open PySem L2 Wk
theorem seq_nat {v:Int} {n:Nat} (h0:0≤v) (h1:v<(n:Int)):PySem.seqIndex? v n=some v.toNat:=by
 unfold PySem.seqIndex?
 dsimp only
 rw [if_neg (show ¬v<0 by omega)]
 simp [h0,h1]
theorem erase_map {α β:Type} (f:α→β):∀(l:List α) (i:Nat),(l.map f).eraseIdx i=(l.eraseIdx i).map f
 |[],_=>rfl
 |_::_,0=>rfl
 |x::l,i+1=>by
  show f x::(l.map f).eraseIdx i=f x::(l.eraseIdx i).map f
  rw [erase_map f l i]
def spSome:Sp:=fun vs H Q _=>∃(d c ln:Addr) (most:Nat) (zs:List Str),vs=[.ref d,.ref ln,.int (most:Int)]∧DeckAt H d c∧H ln=some (.lst (zs.map V.str))∧ln≠d∧ln≠c∧zs.length≤60∧most≤60∧∀(l:Addr) (ms:List Str) (H':Hp),But d c H H'→DeckAt H' d c→H' l=some (.lst (ms.map V.str))→l≠d→l≠c→(∀m∈ms,m∈zs)→Q (.ref l) H'
theorem DeckAt.one {H:Hp} {d c:Addr} (D:DeckAt H d c):H d≠none∧H c≠none:=by
 obtain ⟨_,_,_,_,h1,h2,_⟩:=D
 exact ⟨(by rw [h1];intro z;cases z),(by rw [h2];intro z;cases z)⟩
theorem fresh_ne {H:Hp} {d c x:Addr} (D:DeckAt H d c) (h:H x=none):x≠d∧x≠c:=⟨fun e=>D.one.1 (e▸h),fun e=>D.one.2 (e▸h)⟩
theorem But.of_same {d c:Addr} {H H':Hp} (s:Same H H'):But d c H H':=fun b o e _ _=>s b o e
theorem deck_same {H H':Hp} {d c:Addr} (D:DeckAt H d c) (hd:H' d=H d) (hc:H' c=H c):DeckAt H' d c:=by
 obtain ⟨cs,S,k,g,h1,h2,l,n⟩:=D
 exact ⟨cs,S,k,g,hd▸h1,hc▸h2,l,n⟩
section
variable {P:Program} {w:World} {K:PySem.W.Frag} {mg:Str→Option Value} {base:Heap}
theorem scSome:A4 ["_law_deck_here","_law_names_here","_law_most","_law_left"] ["_law_deck_here","_law_names_here","_law_most"] (Af sSome):=⟨rfl,rfl,rfl,by decide+kernel,rfl,by decide+kernel,by decide+kernel⟩
theorem ok_Some {f:Addr} {fd:FuncData} (F:Fun K "_law_some" "_law_some" sSome f fd) (T:Txt mg)
  {gTake:Addr} {fTake:FuncData} (kTake:PySem.W.keepIn K (.ref gTake)=true) (bTake:Binds K fTake ["_law_deck_here","_law_most"] []) (hTake:mg "_law_take"=some (.ref gTake)) (GTake:FnOk P w K mg base CX0 2 gTake fTake ["_law_deck_here","_law_most"] spTake):
  FnOk P w K mg base CX0 3 f fd ["_law_deck_here","_law_names_here","_law_most"] spSome:=by
 refine F.ok scSome (fun vs H Q E h=> ?_) (fun cdv A outer s H vs Q E hr h=> ?_)
 ·obtain ⟨_,_,_,_,_,rfl,_⟩:=h;rfl
 ·obtain ⟨d,c,ln,most,zs,rfl,hD,hln,nd,nc,z60,m60,k⟩:=h
  refine ⟨_,Ae (Au (i:=3) scSome.nd rfl (Or.inr rfl) (A6 call_list_of (by rfl) T.list (by decide+kernel) (Aa (pv 1) Ac)))
   (Ah (As (Bn (T:=["_law_k"]) (F:=["_law_left","_law_deck_here"]) (js:=[3,0]) (CS.to (osc:=Af sSome) ⟨by rfl,by decide+kernel,by decide+kernel,by decide+kernel,by decide+kernel,by decide+kernel,by decide+kernel⟩ rfl rfl) rfl (Cg rfl T.range (Aa (Ak (call_min2 rfl) (by rfl) T.min (by decide+kernel) (Aa (pv 2) (Aa (Ak At (by rfl) T.len PySem.boot_len (Aa (pv 1) Ac)) Ac))) Ac)) (fun _ _ _ _ _=>Aj (i:=0) (show (["_law_k","_law_left","_law_deck_here"]:List Str).Nodup by decide+kernel) rfl (Or.inl rfl)) (fun _ _ _ _ _=>Br) (fun _ _ _ _ _=>pe_bmK (K:=K) rfl PySem.F.plainAttrs_list PySem.F.slot_list_pop PySem.F.type_list_pop mt_popAt (pv 1) (Aa (Aq GTake hr rfl hTake kTake bTake .nil A5 (Aa (pv 2) (Aa (Ak (r:=rLenX K) At (by rfl) T.len PySem.boot_len (Aa (pv 1) Ac)) Ac))) Ac))))),?_⟩
  refine ⟨_,rfl,ln,_,rfl,.inl (SqL.of hln),fun ll hll=> ?_⟩
  have s1:=Ad (o:= .lst (zs.map V.str)) hll
  have e1:upd H ll (.lst (zs.map V.str)) ll=some (.lst (zs.map V.str)):=Ab
  have D1:=hD.same s1
  have fl:=fresh_ne hD hll
  generalize upd H ll (.lst (zs.map V.str))=H1 at s1 e1 D1 ⊢
  obtain ⟨M,hM,Mz,M6⟩:∃M:Nat,(if ((zs.map V.str).length:Int)<(most:Int) then ((zs.map V.str).length:Int) else (most:Int))=(M:Int)∧M≤zs.length∧M≤60:=by
   rw [List.length_map]
   split
   ·exact ⟨zs.length,rfl,Nat.le_refl _,z60⟩
   ·exact ⟨most,rfl,by omega,m60⟩
  refine ⟨_,rfl,_,rfl,ln,_,rfl,.inl (SqL.of (s1 _ _ hln)),_,_,rfl,?_⟩
  rw [hM]
  refine ⟨(M:Int),rfl,by omega,by omega,fun D hD0=>Cb (lo:=0) (n:=(M:Int).toNat) (fun j σ ys H2=>∃(u:Option V) (ms ls:List Str),σ=[u,some (.ref ll),some (.ref d)]∧ys=ms.map V.str∧But d c H H2∧DeckAt H2 d c∧H2 D=some (.lst ys)∧H2 ll=some (.lst (ls.map V.str))∧ls.length+j=zs.length∧ms.length=j∧(∀m∈ms,m∈zs)∧∀m∈ls,m∈zs) ⟨none,[],zs,rfl,rfl,But.of_same (s1.trans (Ad hD0)),D1.same (Ad hD0),Ab,Ad hD0 _ _ e1,by omega,rfl,(fun m h=>by cases h),fun m h=>h⟩ (fun j σ ys H2 _ ⟨_,_,_,_,_,_,_,e,_⟩=>e) ?_ ?_⟩
  ·rintro j σ ys H2 hj ⟨u,ms,ls,rfl,rfl,b2,D2,d2,l2,lj,mj,hm,hl⟩
   have hj:j<M:=by omega
   have fD:=fresh_ne D1 hD0
   have Dl:D≠ll:=fun e=>by rw [e,e1] at hD0;cases hD0
   refine ⟨_,rfl,.inl ⟨rfl,_,SqL.of l2⟩,_,rfl,_,rfl,ll,_,rfl,.inl (SqL.of l2),d,c,_,rfl,D2,by rw [List.length_map];omega,by rw [List.length_map];omega,fun v H3 v0 v1 b3 D3=> ?_⟩
   rw [List.length_map] at v1
   have l3:=b3 _ _ l2 fl.1 fl.2
   have d3:=b3 _ _ d2 fD.1 fD.2
   have hv:v.toNat<ls.length:=by omega
   have gv:(ls.map V.str)[v.toNat]? =some (.str ls[v.toNat]):=by rw [List.getElem?_map,List.getElem?_eq_getElem hv];rfl
   refine ⟨ll,ls.map V.str,v,v.toNat,.str ls[v.toNat],rfl,rfl,l3,by omega,by omega,seq_nat v0 (by rw [List.length_map];exact v1),gv,?_⟩
   have em:(ls.map V.str).eraseIdx v.toNat=(ls.eraseIdx v.toNat).map V.str:=erase_map _ _ _
   rw [em]
   have b4:But d c H (upd H3 ll (.lst ((ls.eraseIdx v.toNat).map V.str))):=fun b o e n1 n2=>by
    rw [Ai (Am e hll)]
    exact b3 b o (b2 b o e n1 n2) n1 n2
   have D4:DeckAt (upd H3 ll (.lst ((ls.eraseIdx v.toNat).map V.str))) d c:=deck_same D3 (Ai (Ne.symm fl.1)) (Ai (Ne.symm fl.2))
   have d4:upd H3 ll (.lst ((ls.eraseIdx v.toNat).map V.str)) D=some (.lst (ms.map V.str)):=by rw [Ai Dl];exact d3
   have l4:upd H3 ll (.lst ((ls.eraseIdx v.toNat).map V.str)) ll=some (.lst ((ls.eraseIdx v.toNat).map V.str)):=Ab
   generalize upd H3 ll (.lst ((ls.eraseIdx v.toNat).map V.str))=H4 at b4 D4 d4 l4 ⊢
   refine ⟨d4,Al (by rw [List.length_map];omega),_,ms++[ls[v.toNat]],ls.eraseIdx v.toNat,rfl,by rw [List.map_append];rfl,fun b o e n1 n2=> ?_,deck_same D4 (Ai (Ne.symm fD.1)) (Ai (Ne.symm fD.2)),Ab,by rw [Ai (Ne.symm Dl)];exact l4,?_,by rw [List.length_append,mj];rfl,fun m h=> ?_,fun m h=>hl m (List.mem_of_mem_eraseIdx h)⟩
   ·have bD:b≠D:=fun z=>by
     have:=s1 _ _ e
     rw [z,hD0] at this
     cases this
    rw [Ai bD]
    exact b4 b o e n1 n2
   ·rw [List.length_eraseIdx_of_lt hv]
    omega
   ·rcases List.mem_append.mp h with h|h
    ·exact hm m h
    ·rw [List.mem_singleton.mp h];exact hl _ (List.getElem_mem hv)
  rintro σ ys H2 ⟨u,ms,ls,rfl,rfl,b2,D2,d2,l2,lj,mj,hm,hl⟩
  have fD:=fresh_ne D1 hD0
  exact k D ms H2 b2 D2 d2 fD.1 fD.2 hm
end
end K38
namespace K38
open PySem L2 Wk
theorem run_ok (N:Nat) (x:R6) (N60:N≤60):∀(L:Nat) (R:List R6),R.length≤60→∀r∈(runF N x L R).2,r.2.1.length≤60∧r.2.2.1.length≤60
 |0,R,_,r,hr=>by cases hr
 |L+1,R,h,r,hr=>by
  have hs:∀r,(C5 R r).length=R.length:=fun r=>by unfold C5;rw [List.length_map]
  have p60:∀p,(Ct N (tiF R (kpB L)) p).length≤60:=fun p=>by
   unfold Ct
   exact Nat.le_trans (List.length_filter_le _ _) (by rw [List.length_range];exact N60)
  have h0:(rdF N x R L).2.1.length≤60∧(rdF N x R L).2.2.1.length≤60:=by
   refine ⟨?_,Nat.le_trans (List.length_filter_le _ _) (Nat.le_trans (loo_len _ _ _ _) h)⟩
   show (Cj N (tiF R (kpB L)) x).length≤60
   unfold Cj
   split
   ·exact p60 _
   ·exact p60 _
  unfold runF at hr
  split at hr
  ·rcases List.mem_cons.mp hr with rfl|hr
   ·exact h0
   ·exact run_ok N x N60 L _ (by rw [hs];exact h) r hr
  ·rw [List.mem_singleton.mp hr]
   exact h0
theorem ps_leaf (ps:List Nat):∀v∈psV ps,(∃i,v= .int i)∨(∃s,v= .str s)∨(∃c,v= .bl c)∨v= .non:=fun v hv=>by
 unfold psV at hv
 obtain ⟨p,_,rfl⟩:=List.mem_map.mp hv
 exact .inl ⟨_,rfl⟩
theorem ks_leaf (ks:List Str):∀v∈ks.map V.str,(∃i,v= .int i)∨(∃s,v= .str s)∨(∃c,v= .bl c)∨v= .non:=fun v hv=>by
 obtain ⟨p,_,rfl⟩:=List.mem_map.mp hv
 exact .inr (.inl ⟨_,rfl⟩)
theorem fo_leaf (fo:Option Str):(∃i,foV fo= .int i)∨(∃s,foV fo= .str s)∨(∃c,foV fo= .bl c)∨foV fo= .non:=by
 cases fo with
 |none=>exact .inr (.inr (.inr rfl))
 |some f=>exact .inr (.inl ⟨f,rfl⟩)
theorem sm_tl {H:Hp} {a b:Addr} {r:Rd4} (ha:TlAt H a r) (hb:TlAt H b r) (l1:r.2.1.length≤60) (l2:r.2.2.1.length≤60):SmV 2 H (.ref a) (.ref b):=by
 obtain ⟨pl,lk,h1,h2,h3⟩:=ha.ex
 obtain ⟨pl',lk',g1,g2,g3⟩:=hb.ex
 refine .inr ⟨a,b,_,_,rfl,rfl,h1,g1,rfl,by simp,fun i u v e1 e2=> ?_⟩
 match i,e1,e2 with
 |0,e1,e2=>cases e1;cases e2;exact sm_leaf (.inl ⟨_,rfl⟩) _ _
 |1,e1,e2=>cases e1;cases e2;exact sm_flat h2 g2 (by unfold psV;rw [List.length_map];omega) (ps_leaf _)
 |2,e1,e2=>cases e1;cases e2;exact sm_flat h3 g3 (by rw [List.length_map];omega) (ks_leaf _)
 |3,e1,e2=>cases e1;cases e2;exact sm_leaf (fo_leaf _) _ _
 |i+4,e1,e2=>exact absurd e1 (by simp)
theorem sm_told {H:Hp} {g g' h h' p p':Addr} {ts ts':List Addr} {N:Nat} {R:List R6} {F:List Rd4} (a1:H g=some (.tup [.ref h,.ref p])) (a2:LayAt H h N R) (a3:H p=some (.tup (ts.map V.ref))) (a4:TlsAt H ts F)
  (b1:H g'=some (.tup [.ref h',.ref p'])) (b2:LayAt H h' N R) (b3:H p'=some (.tup (ts'.map V.ref))) (b4:TlsAt H ts' F) (l:R.length≤60) (lF:F.length≤100) (ok:∀r∈F,r.2.1.length≤60∧r.2.2.1.length≤60):SmV 4 H (.ref g) (.ref g'):=by
 refine .inr ⟨g,g',_,_,rfl,rfl,a1,b1,rfl,by simp,fun i u v e1 e2=> ?_⟩
 match i,e1,e2 with
 |0,e1,e2=>cases e1;cases e2;exact sm_lay (n:=0) a2 b2 l
 |1,e1,e2=>
  cases e1;cases e2
  refine .inr ⟨p,p',_,_,rfl,rfl,a3,b3,by rw [List.length_map,List.length_map,a4.1,b4.1],by rw [List.length_map,a4.1];exact lF,fun i u v e1 e2=> ?_⟩
  obtain ⟨t,et,rfl⟩:=Ay e1
  obtain ⟨t',et',rfl⟩:=Ay e2
  have hi:i<F.length:=by rw [←a4.1];exact (List.getElem?_eq_some_iff.mp et).1
  have:=ok _ (List.getElem_mem hi)
  exact sm_tl (a4.2 i t _ et (C1 hi)) (b4.2 i t' _ et' (C1 hi)) this.1 this.2
 |i+2,e1,e2=>exact absurd e1 (by simp)
def kpN (R:List R6):List Str:=(R.filter fun x=>x.2.2).map (·.1.1)
theorem kp_snoc {R:List R6} {x:R6}:kpN (R++[x])=kpN R++(if x.2.2=true then [x.1.1] else []):=by
 unfold kpN
 rw [List.filter_append,List.map_append]
 congr 1
 rw [List.filter_cons,List.filter_nil]
 by_cases g:x.2.2=true
 ·rw [if_pos g,if_pos g];rfl
 ·rw [if_neg g,if_neg g];rfl
theorem kp_len (R:List R6):(kpN R).length≤R.length:=by
 unfold kpN
 rw [List.length_map]
 exact List.length_filter_le _ _
theorem one_row {R:List R6} (nd:(R.map (·.1.1)).Nodup) {x y:R6} (hx:x∈R) (hy:y∈R) (e:y.1.1=x.1.1):y=x:=by
 obtain ⟨i,hi,rfl⟩:=List.getElem_of_mem hy
 obtain ⟨j,hj,rfl⟩:=List.getElem_of_mem hx
 have:i=j:=by
  refine (List.getElem_inj (h₀:=by rw [List.length_map];exact hi) (h₁:=by rw [List.length_map];exact hj) nd).mp ?_
  rw [List.getElem_map,List.getElem_map]
  exact e
 subst this
 rfl
def spLaw (K:PySem.W.Frag):Sp:=fun vs H Q _=>∃(s:Addr) (ns:List Int),vs=[.ref s]∧SqL K H s (ns.map V.int)∧ns.length≤63∧∀H',Q (.bl true) H'
section
variable {P:Program} {w:World} {K:PySem.W.Frag} {mg:Str→Option Value} {base:Heap}
theorem scLaw:A4 ["_law_script","_law_deck_here","_law_many_here","_law_rows_here","_law_names_here","_law_name","_law_told"] ["_law_script"] (Af sLaw):=⟨rfl,rfl,rfl,by decide+kernel,rfl,by decide+kernel,by decide+kernel⟩
theorem ok_Law {f:Addr} {fd:FuncData} (F:Fun K "law" "law" sLaw f fd) (T:Txt mg)
  {gDeck:Addr} {fDeck:FuncData} (kDeck:PySem.W.keepIn K (.ref gDeck)=true) (bDeck:Binds K fDeck ["_law_script"] []) (hDeck:mg "_law_deck"=some (.ref gDeck)) (GDeck:FnOk P w K mg base CX0 8 gDeck fDeck ["_law_script"] (spDeck K))
  {gStand:Addr} {fStand:FuncData} (kStand:PySem.W.keepIn K (.ref gStand)=true) (bStand:Binds K fStand ["_law_deck_here","_law_most"] []) (hStand:mg "_law_stand"=some (.ref gStand)) (GStand:FnOk P w K mg base CX0 8 gStand fStand ["_law_deck_here","_law_most"] spStand)
  {gSome:Addr} {fSome:FuncData} (kSome:PySem.W.keepIn K (.ref gSome)=true) (bSome:Binds K fSome ["_law_deck_here","_law_names_here","_law_most"] []) (hSome:mg "_law_some"=some (.ref gSome)) (GSome:FnOk P w K mg base CX0 8 gSome fSome ["_law_deck_here","_law_names_here","_law_most"] spSome)
  {gGone:Addr} {fGone:FuncData} (kGone:PySem.W.keepIn K (.ref gGone)=true) (bGone:Binds K fGone ["layers","name"] []) (hGone:mg "gone"=some (.ref gGone)) (GGone:FnOk P w K mg base CX0 8 gGone fGone ["layers","name"] spGone)
  {gJudged:Addr} {fJudged:FuncData} (kJudged:PySem.W.keepIn K (.ref gJudged)=true) (bJudged:Binds K fJudged ["_law_many_here","_law_rows_here","_law_name","_law_thing"] []) (hJudged:mg "_law_judged"=some (.ref gJudged)) (GJudged:FnOk P w K mg base CX0 8 gJudged fJudged ["_law_many_here","_law_rows_here","_law_name","_law_thing"] spJudged)
  {gSame:Addr} {fSame:FuncData} (kSame:PySem.W.keepIn K (.ref gSame)=true) (bSame:Binds K fSame ["_law_thing","_law_due"] []) (hSame:mg "_law_same"=some (.ref gSame)) (GSame:FnOk P w K mg base CX0 8 gSame fSame ["_law_thing","_law_due"] spSm):
  FnOk P w K mg base CX0 9 f fd ["_law_script"] (spLaw K):=by
 refine F.ok scLaw (fun vs H Q E h=> ?_) (fun cdv A outer s H vs Q E hr h=> ?_)
 ·obtain ⟨_,_,rfl,_⟩:=h;rfl
 ·obtain ⟨s,ns,rfl,hS,hl,k⟩:=h
  refine ⟨_,Ae (Au (i:=1) scLaw.nd rfl (Or.inl rfl) (Aq GDeck hr rfl hDeck kDeck bDeck .nil A5 (Aa (pv 0) Ac)))
   (Ae (ps_asg (Aq GStand hr rfl hStand kStand bStand .nil A5 (Aa (pv 1) (Aa Ag Ac))) (pg_tup rfl (Ar (Aj (i:=2) scLaw.nd rfl (Or.inl rfl)) (Ar (Aj (i:=3) scLaw.nd rfl (Or.inl rfl)) (Ar (Aj (i:=4) scLaw.nd rfl (Or.inl rfl)) Cc)))))
   (Ae (C3 PassesOwn.never rfl (B8 (Aq GSome hr rfl hSome kSome bSome .nil A5 (Aa (pv 1) (Aa (Bn (T:=["_law_row"]) (F:=[]) (js:=[]) (CS.to (osc:=Af sLaw) ⟨by rfl,by decide+kernel,by decide+kernel,by decide+kernel,by decide+kernel,by decide+kernel,by decide+kernel⟩ rfl rfl) rfl (pi_tup (pv 3)) (fun _ _ _ _ _=>Aj (i:=0) (show (["_law_row"]:List Str).Nodup by decide+kernel) rfl (Or.inl rfl)) (fun _ _ _ _ _=>Cv (A9 (Az (r:=rIxT K) Bz (pv 0) Ag (fun _ _=>rfl)))) (fun _ _ _ _ _=>Az (r:=rIxT K) Bz (pv 0) Ag (fun _ _=>rfl))) (Aa Ag Ac))))) (Aj (i:=5) scLaw.nd rfl (Or.inl rfl)) (Ae (Au (i:=6) scLaw.nd rfl (Or.inl rfl) (Aq GGone hr rfl hGone kGone bGone .nil A5 (Aa (Bf (Aa (pv 2) (Aa (pv 3) Ac))) (Aa (pv 5) Ac))))
   (Ah (A8 (PW.pt (Co (Cs (A9 (Aq GJudged hr rfl hJudged kJudged bJudged .nil A5 (Aa (pv 2) (Aa (pv 3) (Aa (pv 5) (Aa (pv 6) Ac))))))) (By (Cs (A9 (Aq GSame hr rfl hSame kSame bSame .nil A5 (Aa (Aq GGone hr rfl hGone kGone bGone .nil A5 (Aa (Bf (Aa (pv 2) (Aa (pv 3) Ac))) (Aa (pv 5) Ac))) (Aa (pv 6) Ac)))))))) (Ah (As Ci)) Av))))
   (Ah (As Ci)))),?_⟩
  refine ⟨_,rfl,s,ns,rfl,hS,hl,fun d c H1 s1 D1=> ?_⟩
  refine ⟨_,rfl,d,c,36,rfl,D1,by decide,fun r tp ln N rs R zs H2 b2 D2 er N1 N24 ht hR S hln zl nd nc=>⟨r,_,rfl,SqT.of er,rfl,_,_,rfl,_,_,rfl,_,_,rfl,rfl,?_⟩⟩
  clear b2 s1 er hS hln zl nd nc D1
  have R60:=S.len
  refine ⟨_,rfl,_,rfl,tp,rfl,⟨_,SqT.of ht⟩,fun D hD=>C7 (K:=K) (a:=tp) (xs:=rs.map V.ref) (fun j σ ys H3=>∃u:Option V,σ=[u]∧ys=(kpN (R.take j)).map V.str∧Same H2 H3∧H3 D=some (.lst ys)) ⟨none,rfl,rfl,Ad hD,Ab⟩ (fun j σ ys H3 _ ⟨_,_,_,s,e⟩=>⟨SqT.of (s _ _ ht),e⟩) ?_ ?_⟩
  ·rintro j x σ ys H3 hx ⟨u,rfl,rfl,s3,d3⟩
   obtain ⟨r',er,rfl⟩:=Ay hx
   obtain ⟨y,ey,hy⟩:=hR.get er
   have tk:=Be ey
   refine ⟨_,rfl,r',_,5,_,rfl,rfl,SqT.of (s3 _ _ hy),Ap (j:=5) rfl,_,rfl,Bp (fun g=> ?_) fun g=> ?_⟩
   ·have g:y.2.2=true:=g
    refine ⟨_,rfl,r',_,0,_,rfl,rfl,SqT.of (s3 _ _ hy),Ap (j:=0) rfl,d3,Al (by rw [List.length_map];exact Nat.le_trans (kp_len _) (Nat.le_trans (List.length_take_le' _ _) (by omega))),_,rfl,?_,Aw s3 hD,Ab⟩
    rw [tk,kp_snoc,if_pos g,List.map_append];rfl
   ·have g:¬y.2.2=true:=g
    refine ⟨_,rfl,?_,s3,d3⟩
    rw [tk,kp_snoc,if_neg g,List.append_nil]
  rintro σ ys H3 ⟨u,rfl,rfl,s3,d3⟩
  rw [List.length_map,hR.1,List.take_length] at d3
  have fD:=fresh_ne D2 hD
  refine ⟨d,c,D,5,kpN R,rfl,D2.same s3,d3,fD.1,fD.2,Nat.le_trans (kp_len R) R60,by decide,fun l ms H4 b4 D4 hl4 _ _ hm=> ?_⟩
  have tup:∀(r:Addr) (xs:List V),H2 r=some (.tup xs)→H4 r=some (.tup xs):=fun r xs e=>b4.tup (D2.same s3) (s3 _ _ e)
  have ht:=tup _ _ ht
  have hR:=hR.mono tup
  clear b4 D4 D2 s3 d3 fD hD tup
  have hPl:PlN N R:=fun y hy=>⟨(S.ok y hy).2.1.1,(S.ok y hy).2.1.2.1⟩
  have N60:N≤60:=by omega
  refine ⟨l,rfl,⟨_,SqL.of hl4⟩,for_list (K:=K) (a:=l) (xs:=ms.map V.str) (fun j σ H5=>∃u5 u6:Option V,σ=[some (.ref s),some (.ref d),some (.int (N:Int)),some (.ref tp),some (.ref ln),u5,u6]∧Same H4 H5) ⟨none,none,rfl,Cd _⟩ (fun j σ H5 _ ⟨_,_,_,s5⟩=>SqL.of (s5 _ _ hl4)) ?_ ?_⟩
  ·rintro j x0 σ H5 hx0 ⟨u5,u6,rfl,s5⟩
   obtain ⟨n,en,rfl⟩:=Ay hx0
   have hn:=hm n (List.mem_of_getElem? en)
   obtain ⟨x,hx,xn⟩:=List.mem_map.mp hn
   obtain ⟨hx,xk⟩:=List.mem_filter.mp hx
   have xn:x.1.1=n:=xn
   have x60:x.2.1≤60:=by have:=(S.ok x hx).2.2.2;omega
   have un:∀y∈R,y.1.1=n→y=x:=fun y hy e=>one_row S.nd hx hy (e.trans xn.symm)
   have ht5:=s5 _ _ ht
   have hR5:RowsAt H5 rs R:=hR.mono fun r xs e=>s5 _ _ e
   have ld:(Cr R n).length≤60:=Nat.le_trans (List.length_filter_le _ _) R60
   have rl:=run_len N x (x.2.1+1) (Cr R n)
   have ok:=run_ok N x N60 (x.2.1+1) (Cr R n) ld
   refine ⟨_,rfl,_,rfl,small (by simp),fun h hh=>⟨_,rfl,?_⟩⟩
   have s6:=Ad (o:= .tup [.int (N:Int),.ref tp]) hh
   refine ⟨h,N,R,n,x,rfl,⟨tp,rs,Ab,s6 _ _ ht5,hR5.mono fun r xs e=>s6 _ _ e⟩,R60,N60,hPl,hx,xn,xk,x60,un,fun g h' p ts H6 s7 g1 g2 g3 g4=> ?_⟩
   have s6:=s6.trans s7
   have ht6:=s6 _ _ ht5
   have hR6:RowsAt H6 rs R:=hR5.mono fun r xs e=>s6 _ _ e
   refine ⟨_,rfl,_,rfl,_,rfl,_,rfl,N,tp,g,h',p,rs,ts,R,n,x,rfl,ht6,hR6,R60,N60,hPl,S.up,hx,xn,xk,x60,g1,g2,g3,g4,fun H7 s8=>⟨_,rfl,Bt ?_⟩⟩
   have s67:=s6.trans s8
   have ht7:=s67 _ _ ht5
   have hR7:RowsAt H7 rs R:=hR5.mono fun r xs e=>s67 _ _ e
   refine ⟨_,rfl,_,rfl,small (by simp),fun h2 hh2=>⟨_,rfl,?_⟩⟩
   have s9:=Ad (o:= .tup [.int (N:Int),.ref tp]) hh2
   refine ⟨h2,N,R,n,x,rfl,⟨tp,rs,Ab,s9 _ _ ht7,hR7.mono fun r xs e=>s9 _ _ e⟩,R60,N60,hPl,hx,xn,xk,x60,un,fun g' h2' p' ts' H8 s10 k1 k2 k3 k4=> ?_⟩
   have s9:=s9.trans s10
   have s89:=s8.trans s9
   refine ⟨_,rfl,.inl ⟨.ref g',.ref g,rfl,sm_told k1 k2 k3 k4 (s89 _ _ g1) (g2.same s89) (s89 _ _ g3) (g4.mono fun r xs e=>s89 _ _ e) (by rw [rl.2];exact ld) (by omega) ok,fun H9 s11=>⟨_,rfl,Bt ?_⟩⟩⟩
   exact ⟨_,_,rfl,s5.trans (s6.trans (s89.trans s11))⟩
  rintro σ H5 ⟨u5,u6,rfl,s5⟩
  exact k H5
end
end K38
namespace K38
open PySem L2 Wk
theorem us1 {fd:FuncData} {ps:List Str} (hp:ps.length=1) (h:∀a0:Value,bindArgs fd ⟨[a0],[]⟩=pure (ps.zip [a0])):∀us:List Value,us.length=ps.length→bindArgs fd ⟨us,[]⟩=pure (ps.zip us):=fun us hl=>match us,hl.trans hp with|[a0],_=>h a0
theorem us2 {fd:FuncData} {ps:List Str} (hp:ps.length=2) (h:∀a0 a1:Value,bindArgs fd ⟨[a0,a1],[]⟩=pure (ps.zip [a0,a1])):∀us:List Value,us.length=ps.length→bindArgs fd ⟨us,[]⟩=pure (ps.zip us):=fun us hl=>match us,hl.trans hp with|[a0,a1],_=>h a0 a1
theorem us3 {fd:FuncData} {ps:List Str} (hp:ps.length=3) (h:∀a0 a1 a2:Value,bindArgs fd ⟨[a0,a1,a2],[]⟩=pure (ps.zip [a0,a1,a2])):∀us:List Value,us.length=ps.length→bindArgs fd ⟨us,[]⟩=pure (ps.zip us):=fun us hl=>match us,hl.trans hp with|[a0,a1,a2],_=>h a0 a1 a2
theorem us4 {fd:FuncData} {ps:List Str} (hp:ps.length=4) (h:∀a0 a1 a2 a3:Value,bindArgs fd ⟨[a0,a1,a2,a3],[]⟩=pure (ps.zip [a0,a1,a2,a3])):∀us:List Value,us.length=ps.length→bindArgs fd ⟨us,[]⟩=pure (ps.zip us):=fun us hl=>match us,hl.trans hp with|[a0,a1,a2,a3],_=>h a0 a1 a2 a3
theorem us5 {fd:FuncData} {ps:List Str} (hp:ps.length=5) (h:∀a0 a1 a2 a3 a4:Value,bindArgs fd ⟨[a0,a1,a2,a3,a4],[]⟩=pure (ps.zip [a0,a1,a2,a3,a4])):∀us:List Value,us.length=ps.length→bindArgs fd ⟨us,[]⟩=pure (ps.zip us):=fun us hl=>match us,hl.trans hp with|[a0,a1,a2,a3,a4],_=>h a0 a1 a2 a3 a4
theorem us6 {fd:FuncData} {ps:List Str} (hp:ps.length=6) (h:∀a0 a1 a2 a3 a4 a5:Value,bindArgs fd ⟨[a0,a1,a2,a3,a4,a5],[]⟩=pure (ps.zip [a0,a1,a2,a3,a4,a5])):∀us:List Value,us.length=ps.length→bindArgs fd ⟨us,[]⟩=pure (ps.zip us):=fun us hl=>match us,hl.trans hp with|[a0,a1,a2,a3,a4,a5],_=>h a0 a1 a2 a3 a4 a5
theorem all_mk {l:PySem.W.OpenLaw} {w:World} {K:PySem.W.Frag} {h:Heap} {mg:Str→Option Value} {fa f0 f1 f2 f3 f4 f5 f6 f7 f8 f9 f10 f11 f12 f13 f14 f15 f16 f17 f18 f19 f20 f21 f22 f23 f24 f25 f26 f27 f28 f29 f30 f31:Addr} (X:K.In h) (G:h.Ns mainGlobals mg) (hfa:mg "law"=some (.ref fa))
  {od0 an0 od1 an1 od2 an2 od3 an3 od4 an4 od5 an5 od6 an6 od7 an7 od8 an8 od9 an9 od10 an10 od11 an11 od12 an12 od13 an13 od14 an14 od15 an15 od16 an16 od17 an17 od18 an18 od19 an19 od20 an20 od21 an21 od22 an22 od23 an23 od24 an24 od25 an25 od26 an26 od27 an27 od28 an28 od29 an29 od30 an30 od31 an31:Option Addr} {sl0 sl1 sl2 sl3 sl4 sl5 sl6 sl7 sl8 sl9 sl10 sl11 sl12 sl13 sl14 sl15 sl16 sl17 sl18 sl19 sl20 sl21 sl22 sl23 sl24 sl25 sl26 sl27 sl28 sl29 sl30 sl31:Array (Option Value)} {oc0 kV0 dc0 pm0 cd0 ct0 oc1 kV1 dc1 pm1 cd1 ct1 oc2 kV2 dc2 pm2 cd2 ct2 oc3 kV3 dc3 pm3 cd3 ct3 oc4 kV4 dc4 pm4 cd4 ct4 oc5 kV5 dc5 pm5 cd5 ct5 oc6 kV6 dc6 pm6 cd6 ct6 oc7 kV7 dc7 pm7 cd7 ct7 oc8 kV8 dc8 pm8 cd8 ct8 oc9 kV9 dc9 pm9 cd9 ct9 oc10 kV10 dc10 pm10 cd10 ct10 oc11 kV11 dc11 pm11 cd11 ct11 oc12 kV12 dc12 pm12 cd12 ct12 oc13 kV13 dc13 pm13 cd13 ct13 oc14 kV14 dc14 pm14 cd14 ct14 oc15 kV15 dc15 pm15 cd15 ct15 oc16 kV16 dc16 pm16 cd16 ct16 oc17 kV17 dc17 pm17 cd17 ct17 oc18 kV18 dc18 pm18 cd18 ct18 oc19 kV19 dc19 pm19 cd19 ct19 oc20 kV20 dc20 pm20 cd20 ct20 oc21 kV21 dc21 pm21 cd21 ct21 oc22 kV22 dc22 pm22 cd22 ct22 oc23 kV23 dc23 pm23 cd23 ct23 oc24 kV24 dc24 pm24 cd24 ct24 oc25 kV25 dc25 pm25 cd25 ct25 oc26 kV26 dc26 pm26 cd26 ct26 oc27 kV27 dc27 pm27 cd27 ct27 oc28 kV28 dc28 pm28 cd28 ct28 oc29 kV29 dc29 pm29 cd29 ct29 oc30 kV30 dc30 pm30 cd30 ct30 oc31 kV31 dc31 pm31 cd31 ct31:Value}
  (a0:PySem.W.nsIn K mainGlobals "beside_of"=some (some (.ref f0))) (l0:K.lookup f0=some ⟨oc0,od0,.func (PySem.W.fnOf "beside_of" "beside_of" (A2 sBeside) (A0 sBeside) (Af sBeside) .none kV0 dc0 pm0 an0 cd0 ct0),sl0⟩) (c0:PySem.W.codeIn K cd0 "beside_of"=true) (k0:PySem.W.keepIn K (.ref f0)=true)
  (a1:PySem.W.nsIn K mainGlobals "ways_from"=some (some (.ref f1))) (l1:K.lookup f1=some ⟨oc1,od1,.func (PySem.W.fnOf "ways_from" "ways_from" (A2 sWays) (A0 sWays) (Af sWays) .none kV1 dc1 pm1 an1 cd1 ct1),sl1⟩) (c1:PySem.W.codeIn K cd1 "ways_from"=true) (k1:PySem.W.keepIn K (.ref f1)=true)
  (a2:PySem.W.nsIn K mainGlobals "part_of"=some (some (.ref f2))) (l2:K.lookup f2=some ⟨oc2,od2,.func (PySem.W.fnOf "part_of" "part_of" (A2 sPart) (A0 sPart) (Af sPart) .none kV2 dc2 pm2 an2 cd2 ct2),sl2⟩) (c2:PySem.W.codeIn K cd2 "part_of"=true) (k2:PySem.W.keepIn K (.ref f2)=true)
  (a3:PySem.W.nsIn K mainGlobals "kept_from"=some (some (.ref f3))) (l3:K.lookup f3=some ⟨oc3,od3,.func (PySem.W.fnOf "kept_from" "kept_from" (A2 sKept) (A0 sKept) (Af sKept) .none kV3 dc3 pm3 an3 cd3 ct3),sl3⟩) (c3:PySem.W.codeIn K cd3 "kept_from"=true) (k3:PySem.W.keepIn K (.ref f3)=true)
  (a4:PySem.W.nsIn K mainGlobals "row_of"=some (some (.ref f4))) (l4:K.lookup f4=some ⟨oc4,od4,.func (PySem.W.fnOf "row_of" "row_of" (A2 sRowOf) (A0 sRowOf) (Af sRowOf) .none kV4 dc4 pm4 an4 cd4 ct4),sl4⟩) (c4:PySem.W.codeIn K cd4 "row_of"=true) (k4:PySem.W.keepIn K (.ref f4)=true)
  (a5:PySem.W.nsIn K mainGlobals "rows_without"=some (some (.ref f5))) (l5:K.lookup f5=some ⟨oc5,od5,.func (PySem.W.fnOf "rows_without" "rows_without" (A2 sWithout) (A0 sWithout) (Af sWithout) .none kV5 dc5 pm5 an5 cd5 ct5),sl5⟩) (c5:PySem.W.codeIn K cd5 "rows_without"=true) (k5:PySem.W.keepIn K (.ref f5)=true)
  (a6:PySem.W.nsIn K mainGlobals "lesser_parts"=some (some (.ref f6))) (l6:K.lookup f6=some ⟨oc6,od6,.func (PySem.W.fnOf "lesser_parts" "lesser_parts" (A2 sLesser) (A0 sLesser) (Af sLesser) .none kV6 dc6 pm6 an6 cd6 ct6),sl6⟩) (c6:PySem.W.codeIn K cd6 "lesser_parts"=true) (k6:PySem.W.keepIn K (.ref f6)=true)
  (a7:PySem.W.nsIn K mainGlobals "loose_names"=some (some (.ref f7))) (l7:K.lookup f7=some ⟨oc7,od7,.func (PySem.W.fnOf "loose_names" "loose_names" (A2 sLoose) (A0 sLoose) (Af sLoose) .none kV7 dc7 pm7 an7 cd7 ct7),sl7⟩) (c7:PySem.W.codeIn K cd7 "loose_names"=true) (k7:PySem.W.keepIn K (.ref f7)=true)
  (a8:PySem.W.nsIn K mainGlobals "row_behind"=some (some (.ref f8))) (l8:K.lookup f8=some ⟨oc8,od8,.func (PySem.W.fnOf "row_behind" "row_behind" (A2 sBehind) (A0 sBehind) (Af sBehind) .none kV8 dc8 pm8 an8 cd8 ct8),sl8⟩) (c8:PySem.W.codeIn K cd8 "row_behind"=true) (k8:PySem.W.keepIn K (.ref f8)=true)
  (a9:PySem.W.nsIn K mainGlobals "rows_behind"=some (some (.ref f9))) (l9:K.lookup f9=some ⟨oc9,od9,.func (PySem.W.fnOf "rows_behind" "rows_behind" (A2 sBehinds) (A0 sBehinds) (Af sBehinds) .none kV9 dc9 pm9 an9 cd9 ct9),sl9⟩) (c9:PySem.W.codeIn K cd9 "rows_behind"=true) (k9:PySem.W.keepIn K (.ref f9)=true)
  (a10:PySem.W.nsIn K mainGlobals "round_at"=some (some (.ref f10))) (l10:K.lookup f10=some ⟨oc10,od10,.func (PySem.W.fnOf "round_at" "round_at" (A2 sRound) (A0 sRound) (Af sRound) .none kV10 dc10 pm10 an10 cd10 ct10),sl10⟩) (c10:PySem.W.codeIn K cd10 "round_at"=true) (k10:PySem.W.keepIn K (.ref f10)=true)
  (a11:PySem.W.nsIn K mainGlobals "gone"=some (some (.ref f11))) (l11:K.lookup f11=some ⟨oc11,od11,.func (PySem.W.fnOf "gone" "gone" (A2 sGone) (A0 sGone) (Af sGone) .none kV11 dc11 pm11 an11 cd11 ct11),sl11⟩) (c11:PySem.W.codeIn K cd11 "gone"=true) (k11:PySem.W.keepIn K (.ref f11)=true)
  (a12:PySem.W.nsIn K mainGlobals "_law_mixed"=some (some (.ref f12))) (l12:K.lookup f12=some ⟨oc12,od12,.func (PySem.W.fnOf "_law_mixed" "_law_mixed" (A2 sMixed) (A0 sMixed) (Af sMixed) .none kV12 dc12 pm12 an12 cd12 ct12),sl12⟩) (c12:PySem.W.codeIn K cd12 "_law_mixed"=true) (k12:PySem.W.keepIn K (.ref f12)=true)
  (a13:PySem.W.nsIn K mainGlobals "_law_deck"=some (some (.ref f13))) (l13:K.lookup f13=some ⟨oc13,od13,.func (PySem.W.fnOf "_law_deck" "_law_deck" (A2 sDeck) (A0 sDeck) (Af sDeck) .none kV13 dc13 pm13 an13 cd13 ct13),sl13⟩) (c13:PySem.W.codeIn K cd13 "_law_deck"=true) (k13:PySem.W.keepIn K (.ref f13)=true)
  (a14:PySem.W.nsIn K mainGlobals "_law_take"=some (some (.ref f14))) (l14:K.lookup f14=some ⟨oc14,od14,.func (PySem.W.fnOf "_law_take" "_law_take" (A2 sTake) (A0 sTake) (Af sTake) .none kV14 dc14 pm14 an14 cd14 ct14),sl14⟩) (c14:PySem.W.codeIn K cd14 "_law_take"=true) (k14:PySem.W.keepIn K (.ref f14)=true)
  (a15:PySem.W.nsIn K mainGlobals "_law_names"=some (some (.ref f15))) (l15:K.lookup f15=some ⟨oc15,od15,.func (PySem.W.fnOf "_law_names" "_law_names" (A2 sNames) (A0 sNames) (Af sNames) .none kV15 dc15 pm15 an15 cd15 ct15),sl15⟩) (c15:PySem.W.codeIn K cd15 "_law_names"=true) (k15:PySem.W.keepIn K (.ref f15)=true)
  (a16:PySem.W.nsIn K mainGlobals "_law_many"=some (some (.ref f16))) (l16:K.lookup f16=some ⟨oc16,od16,.func (PySem.W.fnOf "_law_many" "_law_many" (A2 sMany) (A0 sMany) (Af sMany) .none kV16 dc16 pm16 an16 cd16 ct16),sl16⟩) (c16:PySem.W.codeIn K cd16 "_law_many"=true) (k16:PySem.W.keepIn K (.ref f16)=true)
  (a17:PySem.W.nsIn K mainGlobals "_law_weight"=some (some (.ref f17))) (l17:K.lookup f17=some ⟨oc17,od17,.func (PySem.W.fnOf "_law_weight" "_law_weight" (A2 sWeight) (A0 sWeight) (Af sWeight) .none kV17 dc17 pm17 an17 cd17 ct17),sl17⟩) (c17:PySem.W.codeIn K cd17 "_law_weight"=true) (k17:PySem.W.keepIn K (.ref f17)=true)
  (a18:PySem.W.nsIn K mainGlobals "_law_merged"=some (some (.ref f18))) (l18:K.lookup f18=some ⟨oc18,od18,.func (PySem.W.fnOf "_law_merged" "_law_merged" (A2 sMerged) (A0 sMerged) (Af sMerged) .none kV18 dc18 pm18 an18 cd18 ct18),sl18⟩) (c18:PySem.W.codeIn K cd18 "_law_merged"=true) (k18:PySem.W.keepIn K (.ref f18)=true)
  (a19:PySem.W.nsIn K mainGlobals "_law_layered"=some (some (.ref f19))) (l19:K.lookup f19=some ⟨oc19,od19,.func (PySem.W.fnOf "_law_layered" "_law_layered" (A2 sLayered) (A0 sLayered) (Af sLayered) .none kV19 dc19 pm19 an19 cd19 ct19),sl19⟩) (c19:PySem.W.codeIn K cd19 "_law_layered"=true) (k19:PySem.W.keepIn K (.ref f19)=true)
  (a20:PySem.W.nsIn K mainGlobals "_law_stand"=some (some (.ref f20))) (l20:K.lookup f20=some ⟨oc20,od20,.func (PySem.W.fnOf "_law_stand" "_law_stand" (A2 sStand) (A0 sStand) (Af sStand) .none kV20 dc20 pm20 an20 cd20 ct20),sl20⟩) (c20:PySem.W.codeIn K cd20 "_law_stand"=true) (k20:PySem.W.keepIn K (.ref f20)=true)
  (a21:PySem.W.nsIn K mainGlobals "_law_groups"=some (some (.ref f21))) (l21:K.lookup f21=some ⟨oc21,od21,.func (PySem.W.fnOf "_law_groups" "_law_groups" (A2 sGroups) (A0 sGroups) (Af sGroups) .none kV21 dc21 pm21 an21 cd21 ct21),sl21⟩) (c21:PySem.W.codeIn K cd21 "_law_groups"=true) (k21:PySem.W.keepIn K (.ref f21)=true)
  (a22:PySem.W.nsIn K mainGlobals "_law_known"=some (some (.ref f22))) (l22:K.lookup f22=some ⟨oc22,od22,.func (PySem.W.fnOf "_law_known" "_law_known" (A2 sKnown) (A0 sKnown) (Af sKnown) .none kV22 dc22 pm22 an22 cd22 ct22),sl22⟩) (c22:PySem.W.codeIn K cd22 "_law_known"=true) (k22:PySem.W.keepIn K (.ref f22)=true)
  (a23:PySem.W.nsIn K mainGlobals "_law_rows"=some (some (.ref f23))) (l23:K.lookup f23=some ⟨oc23,od23,.func (PySem.W.fnOf "_law_rows" "_law_rows" (A2 sRows) (A0 sRows) (Af sRows) .none kV23 dc23 pm23 an23 cd23 ct23),sl23⟩) (c23:PySem.W.codeIn K cd23 "_law_rows"=true) (k23:PySem.W.keepIn K (.ref f23)=true)
  (a24:PySem.W.nsIn K mainGlobals "_law_parts"=some (some (.ref f24))) (l24:K.lookup f24=some ⟨oc24,od24,.func (PySem.W.fnOf "_law_parts" "_law_parts" (A2 sParts) (A0 sParts) (Af sParts) .none kV24 dc24 pm24 an24 cd24 ct24),sl24⟩) (c24:PySem.W.codeIn K cd24 "_law_parts"=true) (k24:PySem.W.keepIn K (.ref f24)=true)
  (a25:PySem.W.nsIn K mainGlobals "_law_of_layer"=some (some (.ref f25))) (l25:K.lookup f25=some ⟨oc25,od25,.func (PySem.W.fnOf "_law_of_layer" "_law_of_layer" (A2 sOfLayer) (A0 sOfLayer) (Af sOfLayer) .none kV25 dc25 pm25 an25 cd25 ct25),sl25⟩) (c25:PySem.W.codeIn K cd25 "_law_of_layer"=true) (k25:PySem.W.keepIn K (.ref f25)=true)
  (a26:PySem.W.nsIn K mainGlobals "_law_rise"=some (some (.ref f26))) (l26:K.lookup f26=some ⟨oc26,od26,.func (PySem.W.fnOf "_law_rise" "_law_rise" (A2 sRise) (A0 sRise) (Af sRise) .none kV26 dc26 pm26 an26 cd26 ct26),sl26⟩) (c26:PySem.W.codeIn K cd26 "_law_rise"=true) (k26:PySem.W.keepIn K (.ref f26)=true)
  (a27:PySem.W.nsIn K mainGlobals "_law_same"=some (some (.ref f27))) (l27:K.lookup f27=some ⟨oc27,od27,.func (PySem.W.fnOf "_law_same" "_law_same" (A2 sSame) (A0 sSame) (Af sSame) .none kV27 dc27 pm27 an27 cd27 ct27),sl27⟩) (c27:PySem.W.codeIn K cd27 "_law_same"=true) (k27:PySem.W.keepIn K (.ref f27)=true)
  (a28:PySem.W.nsIn K mainGlobals "_law_round"=some (some (.ref f28))) (l28:K.lookup f28=some ⟨oc28,od28,.func (PySem.W.fnOf "_law_round" "_law_round" (A2 sRoundL) (A0 sRoundL) (Af sRoundL) .none kV28 dc28 pm28 an28 cd28 ct28),sl28⟩) (c28:PySem.W.codeIn K cd28 "_law_round"=true) (k28:PySem.W.keepIn K (.ref f28)=true)
  (a29:PySem.W.nsIn K mainGlobals "_law_judged"=some (some (.ref f29))) (l29:K.lookup f29=some ⟨oc29,od29,.func (PySem.W.fnOf "_law_judged" "_law_judged" (A2 sJudged) (A0 sJudged) (Af sJudged) .none kV29 dc29 pm29 an29 cd29 ct29),sl29⟩) (c29:PySem.W.codeIn K cd29 "_law_judged"=true) (k29:PySem.W.keepIn K (.ref f29)=true)
  (a30:PySem.W.nsIn K mainGlobals "_law_some"=some (some (.ref f30))) (l30:K.lookup f30=some ⟨oc30,od30,.func (PySem.W.fnOf "_law_some" "_law_some" (A2 sSome) (A0 sSome) (Af sSome) .none kV30 dc30 pm30 an30 cd30 ct30),sl30⟩) (c30:PySem.W.codeIn K cd30 "_law_some"=true) (k30:PySem.W.keepIn K (.ref f30)=true)
  (a31:PySem.W.nsIn K mainGlobals "law"=some (some (.ref f31))) (l31:K.lookup f31=some ⟨oc31,od31,.func (PySem.W.fnOf "law" "law" (A2 sLaw) (A0 sLaw) (Af sLaw) .none kV31 dc31 pm31 an31 cd31 ct31),sl31⟩) (c31:PySem.W.codeIn K cd31 "law"=true) (k31:PySem.W.keepIn K (.ref f31)=true)
  (z0:PySem.W.nsIn K mainGlobals "isinstance"=some none) (z1:PySem.W.nsIn K mainGlobals "int"=some none) (z2:PySem.W.nsIn K mainGlobals "bool"=some none) (z3:PySem.W.nsIn K mainGlobals "tuple"=some none) (z4:PySem.W.nsIn K mainGlobals "len"=some none) (z5:PySem.W.nsIn K mainGlobals "range"=some none) (z6:PySem.W.nsIn K mainGlobals "sum"=some none) (z7:PySem.W.nsIn K mainGlobals "str"=some none) (z8:PySem.W.nsIn K mainGlobals "max"=some none) (z9:PySem.W.nsIn K mainGlobals "min"=some none) (z10:PySem.W.nsIn K mainGlobals "zip"=some none) (z11:PySem.W.nsIn K mainGlobals "sorted"=some none) (z12:PySem.W.nsIn K mainGlobals "list"=some none) (z13:PySem.W.nsIn K mainGlobals "set"=some none) (z14:PySem.W.nsIn K mainGlobals "dict"=some none):
  ∃fd:FuncData,(∀(s:Shared) (v:Value),BindsTo s fd ⟨[v],[]⟩ [("_law_script",v)])∧∀base:Heap,K.In base→base.Ns mainGlobals mg→FnOk l.prog w K mg base CX0 9 fa fd ["_law_script"] (spLaw K):=by
 have e:=hfa.symm.trans (PySem.W.mg_of X G a31)
 cases e
 have T:Txt mg:=⟨PySem.W.mg_none_of X G z0,PySem.W.mg_none_of X G z1,PySem.W.mg_none_of X G z2,PySem.W.mg_none_of X G z3,PySem.W.mg_none_of X G z4,PySem.W.mg_none_of X G z5,PySem.W.mg_none_of X G z6,PySem.W.mg_none_of X G z7,PySem.W.mg_none_of X G z8,PySem.W.mg_none_of X G z9,PySem.W.mg_none_of X G z10,PySem.W.mg_none_of X G z11,PySem.W.mg_none_of X G z12,PySem.W.mg_none_of X G z13,PySem.W.mg_none_of X G z14⟩
 have F0:=Bg (st:=sBeside) l0 c0 k0
 have b0:=F0.binds (ps:=["many","stand"]) fun _ _ _ _ _ _=>us2 rfl fun _ _=>rfl
 have m0:=PySem.W.mg_of X G a0
 have F1:=Bg (st:=sWays) l1 c1 k1
 have b1:=F1.binds (ps:=["many","stand","place"]) fun _ _ _ _ _ _=>us3 rfl fun _ _ _=>rfl
 have m1:=PySem.W.mg_of X G a1
 have F2:=Bg (st:=sPart) l2 c2 k2
 have b2:=F2.binds (ps:=["many","stand","place"]) fun _ _ _ _ _ _=>us3 rfl fun _ _ _=>rfl
 have m2:=PySem.W.mg_of X G a2
 have F3:=Bg (st:=sKept) l3 c3 k3
 have b3:=F3.binds (ps:=["rows","layer"]) fun _ _ _ _ _ _=>us2 rfl fun _ _=>rfl
 have m3:=PySem.W.mg_of X G a3
 have F4:=Bg (st:=sRowOf) l4 c4 k4
 have b4:=F4.binds (ps:=["rows","name"]) fun _ _ _ _ _ _=>us2 rfl fun _ _=>rfl
 have m4:=PySem.W.mg_of X G a4
 have F5:=Bg (st:=sWithout) l5 c5 k5
 have b5:=F5.binds (ps:=["rows","name"]) fun _ _ _ _ _ _=>us2 rfl fun _ _=>rfl
 have m5:=PySem.W.mg_of X G a5
 have F6:=Bg (st:=sLesser) l6 c6 k6
 have b6:=F6.binds (ps:=["many","rows","layer","tie"]) fun _ _ _ _ _ _=>us4 rfl fun _ _ _ _=>rfl
 have m6:=PySem.W.mg_of X G a6
 have F7:=Bg (st:=sLoose) l7 c7 k7
 have b7:=F7.binds (ps:=["rows","layer","places","ends"]) fun _ _ _ _ _ _=>us4 rfl fun _ _ _ _=>rfl
 have m7:=PySem.W.mg_of X G a7
 have F8:=Bg (st:=sBehind) l8 c8 k8
 have b8:=F8.binds (ps:=["row","told"]) fun _ _ _ _ _ _=>us2 rfl fun _ _=>rfl
 have m8:=PySem.W.mg_of X G a8
 have F9:=Bg (st:=sBehinds) l9 c9 k9
 have b9:=F9.binds (ps:=["rows","told"]) fun _ _ _ _ _ _=>us2 rfl fun _ _=>rfl
 have m9:=PySem.W.mg_of X G a9
 have F10:=Bg (st:=sRound) l10 c10 k10
 have b10:=F10.binds (ps:=["many","rows","layer","tie"]) fun _ _ _ _ _ _=>us4 rfl fun _ _ _ _=>rfl
 have m10:=PySem.W.mg_of X G a10
 have F11:=Bg (st:=sGone) l11 c11 k11
 have b11:=F11.binds (ps:=["layers","name"]) fun _ _ _ _ _ _=>us2 rfl fun _ _=>rfl
 have m11:=PySem.W.mg_of X G a11
 have F12:=Bg (st:=sMixed) l12 c12 k12
 have b12:=F12.binds (ps:=["_law_cell","_law_turn"]) fun _ _ _ _ _ _=>us2 rfl fun _ _=>rfl
 have m12:=PySem.W.mg_of X G a12
 have F13:=Bg (st:=sDeck) l13 c13 k13
 have b13:=F13.binds (ps:=["_law_script"]) fun _ _ _ _ _ _=>us1 rfl fun _=>rfl
 have m13:=PySem.W.mg_of X G a13
 have F14:=Bg (st:=sTake) l14 c14 k14
 have b14:=F14.binds (ps:=["_law_deck_here","_law_most"]) fun _ _ _ _ _ _=>us2 rfl fun _ _=>rfl
 have m14:=PySem.W.mg_of X G a14
 have F15:=Bg (st:=sNames) l15 c15 k15
 have b15:=F15.binds (ps:=["_law_deck_here","_law_many_here"]) fun _ _ _ _ _ _=>us2 rfl fun _ _=>rfl
 have m15:=PySem.W.mg_of X G a15
 have F16:=Bg (st:=sMany) l16 c16 k16
 have b16:=F16.binds (ps:=["_law_deck_here"]) fun _ _ _ _ _ _=>us1 rfl fun _=>rfl
 have m16:=PySem.W.mg_of X G a16
 have F17:=Bg (st:=sWeight) l17 c17 k17
 have b17:=F17.binds (ps:=["_law_deck_here"]) fun _ _ _ _ _ _=>us1 rfl fun _=>rfl
 have m17:=PySem.W.mg_of X G a17
 have F18:=Bg (st:=sMerged) l18 c18 k18
 have b18:=F18.binds (ps:=["_law_deck_here","_law_many_here","_law_layer","_law_room","_law_labels","_law_ties"]) fun _ _ _ _ _ _=>us6 rfl fun _ _ _ _ _ _=>rfl
 have m18:=PySem.W.mg_of X G a18
 have F19:=Bg (st:=sLayered) l19 c19 k19
 have b19:=F19.binds (ps:=["_law_deck_here","_law_many_here","_law_names_here","_law_most"]) fun _ _ _ _ _ _=>us4 rfl fun _ _ _ _=>rfl
 have m19:=PySem.W.mg_of X G a19
 have F20:=Bg (st:=sStand) l20 c20 k20
 have b20:=F20.binds (ps:=["_law_deck_here","_law_most"]) fun _ _ _ _ _ _=>us2 rfl fun _ _=>rfl
 have m20:=PySem.W.mg_of X G a20
 have F21:=Bg (st:=sGroups) l21 c21 k21
 have b21:=F21.binds (ps:=["_law_many_here","_law_pairs"]) fun _ _ _ _ _ _=>us2 rfl fun _ _=>rfl
 have m21:=PySem.W.mg_of X G a21
 have F22:=Bg (st:=sKnown) l22 c22 k22
 have b22:=F22.binds (ps:=["_law_rows_here"]) fun _ _ _ _ _ _=>us1 rfl fun _=>rfl
 have m22:=PySem.W.mg_of X G a22
 have F23:=Bg (st:=sRows) l23 c23 k23
 have b23:=F23.binds (ps:=["_law_known_here"]) fun _ _ _ _ _ _=>us1 rfl fun _=>rfl
 have m23:=PySem.W.mg_of X G a23
 have F24:=Bg (st:=sParts) l24 c24 k24
 have b24:=F24.binds (ps:=["_law_many_here","_law_known_here","_law_layer","_law_ends"]) fun _ _ _ _ _ _=>us4 rfl fun _ _ _ _=>rfl
 have m24:=PySem.W.mg_of X G a24
 have F25:=Bg (st:=sOfLayer) l25 c25 k25
 have b25:=F25.binds (ps:=["_law_known_here","_law_layer","_law_places","_law_is_kept","_law_ends"]) fun _ _ _ _ _ _=>us5 rfl fun _ _ _ _ _=>rfl
 have m25:=PySem.W.mg_of X G a25
 have F26:=Bg (st:=sRise) l26 c26 k26
 have b26:=F26.binds (ps:=["_law_known_here","_law_names_here"]) fun _ _ _ _ _ _=>us2 rfl fun _ _=>rfl
 have m26:=PySem.W.mg_of X G a26
 have F27:=Bg (st:=sSame) l27 c27 k27
 have b27:=F27.binds (ps:=["_law_thing","_law_due"]) fun _ _ _ _ _ _=>us2 rfl fun _ _=>rfl
 have m27:=PySem.W.mg_of X G a27
 have F28:=Bg (st:=sRoundL) l28 c28 k28
 have b28:=F28.binds (ps:=["_law_many_here","_law_known_here","_law_layer","_law_ends","_law_told"]) fun _ _ _ _ _ _=>us5 rfl fun _ _ _ _ _=>rfl
 have m28:=PySem.W.mg_of X G a28
 have F29:=Bg (st:=sJudged) l29 c29 k29
 have b29:=F29.binds (ps:=["_law_many_here","_law_rows_here","_law_name","_law_thing"]) fun _ _ _ _ _ _=>us4 rfl fun _ _ _ _=>rfl
 have m29:=PySem.W.mg_of X G a29
 have F30:=Bg (st:=sSome) l30 c30 k30
 have b30:=F30.binds (ps:=["_law_deck_here","_law_names_here","_law_most"]) fun _ _ _ _ _ _=>us3 rfl fun _ _ _=>rfl
 have m30:=PySem.W.mg_of X G a30
 have F31:=Bg (st:=sLaw) l31 c31 k31
 have b31:=F31.binds (ps:=["_law_script"]) fun _ _ _ _ _ _=>us1 rfl fun _=>rfl
 have m31:=PySem.W.mg_of X G a31
 refine ⟨PySem.W.fnOf "law" "law" (A2 sLaw) (A0 sLaw) (Af sLaw) .none kV31 dc31 pm31 an31 cd31 ct31,fun s v=> .of_eq rfl,fun base _ _=> ?_⟩
 have Q0:FnOk l.prog w K mg base CX0 1 f0 _ ["many","stand"] spBeside:=ok_Beside F0 T 
 have Q1:FnOk l.prog w K mg base CX0 2 f1 _ ["many","stand","place"] spWays:=ok_Ways F1 T k0 b0 m0 (Q0.mono (by decide))
 have Q2:FnOk l.prog w K mg base CX0 3 f2 _ ["many","stand","place"] spPart:=ok_Part F2 T k1 b1 m1 (Q1.mono (by decide))
 have Q3:FnOk l.prog w K mg base CX0 1 f3 _ ["rows","layer"] spKept:=ok_Kept F3 T 
 have Q4:FnOk l.prog w K mg base CX0 1 f4 _ ["rows","name"] spRowOf:=ok_RowOf F4 T 
 have Q5:FnOk l.prog w K mg base CX0 1 f5 _ ["rows","name"] spWithout:=ok_Without F5 T 
 have Q6:FnOk l.prog w K mg base CX0 4 f6 _ ["many","rows","layer","tie"] spLesser:=ok_Lesser F6 T k3 b3 m3 (Q3.mono (by decide)) k2 b2 m2 (Q2.mono (by decide))
 have Q7:FnOk l.prog w K mg base CX0 1 f7 _ ["rows","layer","places","ends"] spLoose:=ok_Loose F7 T 
 have Q8:FnOk l.prog w K mg base CX0 1 f8 _ ["row","told"] spBehind:=ok_Behind F8 T 
 have Q9:FnOk l.prog w K mg base CX0 2 f9 _ ["rows","told"] spBehinds:=ok_Behinds F9 T k8 b8 m8 (Q8.mono (by decide))
 have Q10:FnOk l.prog w K mg base CX0 5 f10 _ ["many","rows","layer","tie"] spRound:=ok_Round F10 T k6 b6 m6 (Q6.mono (by decide)) k7 b7 m7 (Q7.mono (by decide))
 have Q11:FnOk l.prog w K mg base CX0 6 f11 _ ["layers","name"] spGone:=ok_Gone F11 T k4 b4 m4 (Q4.mono (by decide)) k5 b5 m5 (Q5.mono (by decide)) k10 b10 m10 (Q10.mono (by decide)) k9 b9 m9 (Q9.mono (by decide))
 have Q12:FnOk l.prog w K mg base CX0 1 f12 _ ["_law_cell","_law_turn"] spMixed:=ok_Mixed F12 T 
 have Q13:FnOk l.prog w K mg base CX0 1 f13 _ ["_law_script"] (spDeck K):=ok_Deck F13 T 
 have Q14:FnOk l.prog w K mg base CX0 2 f14 _ ["_law_deck_here","_law_most"] spTake:=ok_Take F14 T k12 b12 m12 (Q12.mono (by decide))
 have Q15:FnOk l.prog w K mg base CX0 3 f15 _ ["_law_deck_here","_law_many_here"] spNames:=ok_Names F15 T k14 b14 m14 (Q14.mono (by decide))
 have Q16:FnOk l.prog w K mg base CX0 3 f16 _ ["_law_deck_here"] spMany:=ok_Many F16 T k14 b14 m14 (Q14.mono (by decide))
 have Q17:FnOk l.prog w K mg base CX0 3 f17 _ ["_law_deck_here"] spWeight:=ok_Weight F17 T k14 b14 m14 (Q14.mono (by decide))
 have Q18:FnOk l.prog w K mg base CX0 3 f18 _ ["_law_deck_here","_law_many_here","_law_layer","_law_room","_law_labels","_law_ties"] spMerged:=ok_Merged F18 T k14 b14 m14 (Q14.mono (by decide))
 have Q19:FnOk l.prog w K mg base CX0 4 f19 _ ["_law_deck_here","_law_many_here","_law_names_here","_law_most"] spLayered:=ok_Layered F19 T k14 b14 m14 (Q14.mono (by decide)) k18 b18 m18 (Q18.mono (by decide)) k17 b17 m17 (Q17.mono (by decide))
 have Q20:FnOk l.prog w K mg base CX0 5 f20 _ ["_law_deck_here","_law_most"] spStand:=ok_Stand F20 T k16 b16 m16 (Q16.mono (by decide)) k15 b15 m15 (Q15.mono (by decide)) k19 b19 m19 (Q19.mono (by decide))
 have Q21:FnOk l.prog w K mg base CX0 1 f21 _ ["_law_many_here","_law_pairs"] spGroups:=ok_Groups F21 T 
 have Q22:FnOk l.prog w K mg base CX0 1 f22 _ ["_law_rows_here"] spKnown:=ok_Known F22 T 
 have Q23:FnOk l.prog w K mg base CX0 1 f23 _ ["_law_known_here"] spRowsL:=ok_Rows F23 T 
 have Q24:FnOk l.prog w K mg base CX0 2 f24 _ ["_law_many_here","_law_known_here","_law_layer","_law_ends"] spParts:=ok_Parts F24 T k21 b21 m21 (Q21.mono (by decide))
 have Q25:FnOk l.prog w K mg base CX0 1 f25 _ ["_law_known_here","_law_layer","_law_places","_law_is_kept","_law_ends"] spOfLayer:=ok_OfLayer F25 T 
 have Q26:FnOk l.prog w K mg base CX0 1 f26 _ ["_law_known_here","_law_names_here"] spRise:=ok_Rise F26 T 
 have Q27:FnOk l.prog w K mg base CX0 5 f27 _ ["_law_thing","_law_due"] spSm:=ok_Same F27 T k27 b27 m27
 have Q28:FnOk l.prog w K mg base CX0 6 f28 _ ["_law_many_here","_law_known_here","_law_layer","_law_ends","_law_told"] spRoundL:=ok_RoundL F28 T k27 b27 m27 (Q27.mono (by decide)) k24 b24 m24 (Q24.mono (by decide)) k25 b25 m25 (Q25.mono (by decide)) k26 b26 m26 (Q26.mono (by decide))
 have Q29:FnOk l.prog w K mg base CX0 7 f29 _ ["_law_many_here","_law_rows_here","_law_name","_law_thing"] spJudged:=ok_Judged F29 T k22 b22 m22 (Q22.mono (by decide)) k28 b28 m28 (Q28.mono (by decide)) k23 b23 m23 (Q23.mono (by decide)) k27 b27 m27 (Q27.mono (by decide))
 have Q30:FnOk l.prog w K mg base CX0 3 f30 _ ["_law_deck_here","_law_names_here","_law_most"] spSome:=ok_Some F30 T k14 b14 m14 (Q14.mono (by decide))
 exact ok_Law F31 T k13 b13 m13 (Q13.mono (by decide)) k20 b20 m20 (Q20.mono (by decide)) k30 b30 m30 (Q30.mono (by decide)) k11 b11 m11 (Q11.mono (by decide)) k29 b29 m29 (Q29.mono (by decide)) k27 b27 m27 (Q27.mono (by decide))
theorem walk {l:PySem.W.OpenLaw} {q:Program} {loose:List Str} {XP:(Str→Option Value)→Heap→Prop} {YP:World→Heap→Prop} {d:DefRec} {K:Params→PySem.W.Frag} (hn:l.most=some 63) (hdf:d.params.defaults=[])
  (hY:∀(w:World) (h:Heap),YP w h→(K w.params).In h)
  (F:∀(w:World) (mg:Str→Option Value) (fa:Addr) (h:Heap),(K w.params).In h→h.Ns mainGlobals mg→mg d.name=some (.ref fa)→
   ∃fd:FuncData,(∀(s:Shared) (u:Value),BindsTo s fd ⟨[u],[]⟩ [("_law_script",u)])∧∀base:Heap,(K w.params).In base→base.Ns mainGlobals mg→FnOk l.prog w (K w.params) mg base CX0 9 fa fd ["_law_script"] (spLaw (K w.params))):
  PySem.W.WalkO q loose XP YP l.row.toRowW d [] (fun f vs=>PySem.call f vs):=
 L2.walk_of (n:=63) (k:=9) (x:="_law_script") (CX:=fun _=>CX0) (sp:=fun w=>spLaw (K w.params)) hn (by decide) hdf ⟨rfl,by decide,by decide,rfl⟩ hY F (fun _ _ a ns hl _ hS=>⟨a,ns,rfl,hS,hl,fun _=>rfl⟩) fun _ _ _ _ _ z=>z
end K38
namespace PySem.W.Fast
def tw14633895283377472338:=0
def tw181077689141058007:=0
def tw14961619774378977604:=0
def tw7260008908493520343:=0
def tw5254619332615740445:=0
def tw12125333659118646189:=0
def tw7964939221929528840:=0
def tw10231975984984561087:=0
def tw3567785463889341765:=0
def tw15962037982247501660:=0
def tw8829912712628199581:=0
def tw1582025901153002689:=0
def tw1955254923478197066:=0
def tw5264262765612828930:=0
def tw1836064055356515512:=0
def tw15133641424554685819:=0
def tw4711116512034554779:=0
def tw3233267432649905371:=0
def tw11481468479085965497:=0
def tw8666071963502565058:=0
def tw3219936027978094192:=0
def tw5370638392504167240:=0
def tw2506661208394243335:=0
def tw12170486401855993733:=0
def tw13878006543580357230:=0
def tw16113937716285382407:=0
def tw15876782361036586014:=0
def tw14067189865456185084:=0
def tw17216547821114459864:=0
def tw8818141823079205470:=0
def tw11755860543998465023:=0
def tw14457745135806387574:=0
def tw7587029123341041742:=0
def tw8611602322191430128:=0
def tw16247482544444734658:=0
def tw3555382997707136330:=0
def tw7761636531423052449:=0
def tw9163907499524747719:=0
def tw17342107649581798031:=0
def tw14764651690882061673:=0
def tw18379920863121709263:=0
def tw2738262972210070470:=0
def tw4327435723036064967:=0
def tw16261372402654555984:=0
def tw7338158075447095797:=0
def tw13800557077515078861:=0
def tw9188689911569533054:=0
def tw18342589470945724769:=0
def tw3615560341772709289:=0
def tw2104477738241337592:=0
def tw13128797413526147723:=0
def tw4869123451959249212:=0
def tw10543606642633566420:=0
def tw98549037131028263:=0
def tw2709868235730610712:=0
def tw7786157694697538846:=0
def tw10934021003637264795:=0
def tw85294817130772257:=0
def tw64222480896977251:=0
def tw15465706348993451496:=0
def tw10611783011526650911:=0
def tw4504659212787079885:=0
def tw1024271297748830317:=0
def tw2520727914945643167:=0
def tw1285382157733661063:=0
def tw10372433329305483374:=0
def tw13962923697323563953:=0
def tw16279172512651897928:=0
def tw664588244630699894:=0
def tw1272638979368969229:=0
def tw9485655221764623035:=0
def tw14266975707863442085:=0
def tw1931676525360277037:=0
def tw10370306039206867423:=0
def tw4808313617422280673:=0
def tw14467560028360519871:=0
def tw5256130009564617054:=0
def tw13748710417499052000:=0
def tw8318022419817456842:=0
def tw5739331187760041641:=0
def tw10781285759069027525:=0
def tw2478854805238314109:=0
def tw12709873222300768710:=0
def tw17543745163890373997:=0
def tw13574846782230449342:=0
def tw2575478942101024612:=0
def tw13773540197053420422:=0
def tw8123765325925180310:=0
def tw8213548123253834751:=0
def tw12766227935056271398:=0
def tw8969298262499852209:=0
def tw17838281385276956119:=0
def tw15729080191128274:=0
def tw14103530589088265783:=0
def tw7524000506211222060:=0
def tw9443287543788234321:=0
def tw7625073157653762619:=0
def tw13701390150126555297:=0
def tw18402125368114419145:=0
def tw12921244129393926076:=0
def tw15858032935582959207:=0
def tw7479725654964226986:=0
def tw5976541868321248260:=0
def tw1727991304579216114:=0
def tw11932102941684781554:=0
def tw17337160678466553998:=0
def tw11758735198009939646:=0
def tw14407179401892725694:=0
def tw12060638348345241619:=0
def tw9444776470808944825:=0
def tw6696214327464056714:=0
def tw1526578292399966440:=0
def tw124468058442885857:=0
def tw17033469665525354690:=0
def tw10881106598034588949:=0
def tw10531426623809202567:=0
def tw3110905138860280098:=0
def tw11383861529356676679:=0
def tw13146803677106610970:=0
def tw10964680366994289304:=0
def tw17550823993704585966:=0
def tw11942666116999287513:=0
def tw2784053632176655255:=0
def tw7630368420562780539:=0
def tw3108319487842695516:=0
def tw12045490322578420250:=0
def tw16756195894912108740:=0
def tw877577338360256960:=0
def tw4708026225389468686:=0
def tw3666261156212869396:=0
def tw2097536826903356037:=0
def tw12460086127321550469:=0
def tw12457809030143836277:=0
def tw15981822891777800741:=0
def tw3359635436334189936:=0
def tw15450371276891643173:=0
def tw1510700876303465036:=0
end PySem.W.Fast
open PySem PySem.W PyProof.Rows
set_option maxRecDepth 100000 in
set_option maxHeartbeats 0 in
theorem PySem.Challenge.cw_joinedever_k38_goings_of_kept_ties_holds : PySem.Challenge.rw_joinedever_k38_goings_of_kept_ties.Holds := by
 w_on;o_law;k_head;(case hw=>w_witness2)
 k_fill
 refine K38.walk (l:=PySem.Challenge.rw_joinedever_k38_goings_of_kept_ties) rfl rfl (fun w h Y=>PySem.W.kIn_of Y) ?F
 case F=>
  intro w mg fa h KX G hmg
  refine' K38.all_mk KX G hmg ?a0 ?l0 ?c0 ?k0 ?a1 ?l1 ?c1 ?k1 ?a2 ?l2 ?c2 ?k2 ?a3 ?l3 ?c3 ?k3 ?a4 ?l4 ?c4 ?k4 ?a5 ?l5 ?c5 ?k5 ?a6 ?l6 ?c6 ?k6 ?a7 ?l7 ?c7 ?k7 ?a8 ?l8 ?c8 ?k8 ?a9 ?l9 ?c9 ?k9 ?a10 ?l10 ?c10 ?k10 ?a11 ?l11 ?c11 ?k11 ?a12 ?l12 ?c12 ?k12 ?a13 ?l13 ?c13 ?k13 ?a14 ?l14 ?c14 ?k14 ?a15 ?l15 ?c15 ?k15 ?a16 ?l16 ?c16 ?k16 ?a17 ?l17 ?c17 ?k17 ?a18 ?l18 ?c18 ?k18 ?a19 ?l19 ?c19 ?k19 ?a20 ?l20 ?c20 ?k20 ?a21 ?l21 ?c21 ?k21 ?a22 ?l22 ?c22 ?k22 ?a23 ?l23 ?c23 ?k23 ?a24 ?l24 ?c24 ?k24 ?a25 ?l25 ?c25 ?k25 ?a26 ?l26 ?c26 ?k26 ?a27 ?l27 ?c27 ?k27 ?a28 ?l28 ?c28 ?k28 ?a29 ?l29 ?c29 ?k29 ?a30 ?l30 ?c30 ?k30 ?a31 ?l31 ?c31 ?k31 ?z0 ?z1 ?z2 ?z3 ?z4 ?z5 ?z6 ?z7 ?z8 ?z9 ?z10 ?z11 ?z12 ?z13 ?z14
  (case a0=>k_is)
  (case l0=>k_is)
  (case c0=>k_is)
  (case k0=>k_is)
  (case a1=>k_is)
  (case l1=>k_is)
  (case c1=>k_is)
  (case k1=>k_is)
  (case a2=>k_is)
  (case l2=>k_is)
  (case c2=>k_is)
  (case k2=>k_is)
  (case a3=>k_is)
  (case l3=>k_is)
  (case c3=>k_is)
  (case k3=>k_is)
  (case a4=>k_is)
  (case l4=>k_is)
  (case c4=>k_is)
  (case k4=>k_is)
  (case a5=>k_is)
  (case l5=>k_is)
  (case c5=>k_is)
  (case k5=>k_is)
  (case a6=>k_is)
  (case l6=>k_is)
  (case c6=>k_is)
  (case k6=>k_is)
  (case a7=>k_is)
  (case l7=>k_is)
  (case c7=>k_is)
  (case k7=>k_is)
  (case a8=>k_is)
  (case l8=>k_is)
  (case c8=>k_is)
  (case k8=>k_is)
  (case a9=>k_is)
  (case l9=>k_is)
  (case c9=>k_is)
  (case k9=>k_is)
  (case a10=>k_is)
  (case l10=>k_is)
  (case c10=>k_is)
  (case k10=>k_is)
  (case a11=>k_is)
  (case l11=>k_is)
  (case c11=>k_is)
  (case k11=>k_is)
  (case a12=>k_is)
  (case l12=>k_is)
  (case c12=>k_is)
  (case k12=>k_is)
  (case a13=>k_is)
  (case l13=>k_is)
  (case c13=>k_is)
  (case k13=>k_is)
  (case a14=>k_is)
  (case l14=>k_is)
  (case c14=>k_is)
  (case k14=>k_is)
  (case a15=>k_is)
  (case l15=>k_is)
  (case c15=>k_is)
  (case k15=>k_is)
  (case a16=>k_is)
  (case l16=>k_is)
  (case c16=>k_is)
  (case k16=>k_is)
  (case a17=>k_is)
  (case l17=>k_is)
  (case c17=>k_is)
  (case k17=>k_is)
  (case a18=>k_is)
  (case l18=>k_is)
  (case c18=>k_is)
  (case k18=>k_is)
  (case a19=>k_is)
  (case l19=>k_is)
  (case c19=>k_is)
  (case k19=>k_is)
  (case a20=>k_is)
  (case l20=>k_is)
  (case c20=>k_is)
  (case k20=>k_is)
  (case a21=>k_is)
  (case l21=>k_is)
  (case c21=>k_is)
  (case k21=>k_is)
  (case a22=>k_is)
  (case l22=>k_is)
  (case c22=>k_is)
  (case k22=>k_is)
  (case a23=>k_is)
  (case l23=>k_is)
  (case c23=>k_is)
  (case k23=>k_is)
  (case a24=>k_is)
  (case l24=>k_is)
  (case c24=>k_is)
  (case k24=>k_is)
  (case a25=>k_is)
  (case l25=>k_is)
  (case c25=>k_is)
  (case k25=>k_is)
  (case a26=>k_is)
  (case l26=>k_is)
  (case c26=>k_is)
  (case k26=>k_is)
  (case a27=>k_is)
  (case l27=>k_is)
  (case c27=>k_is)
  (case k27=>k_is)
  (case a28=>k_is)
  (case l28=>k_is)
  (case c28=>k_is)
  (case k28=>k_is)
  (case a29=>k_is)
  (case l29=>k_is)
  (case c29=>k_is)
  (case k29=>k_is)
  (case a30=>k_is)
  (case l30=>k_is)
  (case c30=>k_is)
  (case k30=>k_is)
  (case a31=>k_is)
  (case l31=>k_is)
  (case c31=>k_is)
  (case k31=>k_is)
  (case z0=>k_is)
  (case z1=>k_is)
  (case z2=>k_is)
  (case z3=>k_is)
  (case z4=>k_is)
  (case z5=>k_is)
  (case z6=>k_is)
  (case z7=>k_is)
  (case z8=>k_is)
  (case z9=>k_is)
  (case z10=>k_is)
  (case z11=>k_is)
  (case z12=>k_is)
  (case z13=>k_is)
  (case z14=>k_is)

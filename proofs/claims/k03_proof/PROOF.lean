import PyProof.Rows.All
import Wide.All
import OpenK.AllK
import Wide.FinOn
import Lean
import PyProof.EqAt
import PyProof.EqKinds
import PyProof.TupleCall
import PyProof.CollectWalk
import PyProof.Draws
import PyProof.EnumMake
import PyProof.Rows.SetFrom
import PyProof.Rows.SortShell
import PyProof.Rows.SortWalk
import PyProof.WalksMore
import PyProof.ZipIter
import PyProof.ConsumeWalk
import PyProof.SumAny
import PyProof.WalkInts
import PyProof.SeqI3
import PyProof.TupleOfStr
import PyProof.ListRange
import PyProof.DictValues
import PyProof.DictWalks
import PyProof.MinMaxWalk
import PyProof.Rows.CallKwBuiltin
import PyProof.Claim2Refuses
import PyProof.P3Eq
import PyProof.DictRoadsH
import PyProof.TupleKey
import PyProof.Rows.StrNews2
import PyProof.StrBlockI
import KE.KSortTup
import KE.FramesApart
import PyProof.ExcClass2
import PyProof.RulesAs
import OpenK.KOwn
import PyProof.ExcBaseAll.ValueError
import PyProof.DictKinds
import PyProof.StrWalks
import PyProof.StrLawsChain
import PySem.Challenge.RW_amongalike_k03_whole_read
set_option Elab.async false
set_option linter.all false
set_option autoImplicit false
set_option genSizeOf false
set_option maxRecDepth 100000
section
open PySem PySem.Spec PyProof.Rows
theorem we {α:Type _} {β:Type _} (a:α) (f:α->Option β):(some a).bind f=f a:=rfl
def wg:=@wpAny_bind
def wj:=@Bool.and_eq_true
def wm:=@Heap.get?_push_of_some
def wo:=@wpAny_pure
def wq:=@Bool.false_eq_true
def wu:=@List.getElem?_eq_some_iff
def wx:=@Heap.get?_push_size
def wy:=@List.mem_cons
def wz:=@List.getElem?_map
def wA:=@Heap.lt_size
def wB:=@Bool.false_ne_true
def wC:=@Option.some.inj
def wF:=@Nat.le_refl
def wG:=@List.length_map
def wH:=@List.getElem?_set_ne
def wI:=@decide_eq_true_eq
def wJ:=@List.mem_map
def wK:=@List.mem_cons_of_mem
def wL:=@PySem.W.mg_of
def wM:=@List.map_map
def wN:=@List.mem_append_right
def wO:=@Nat.lt_of_lt_of_le
def wQ:=@Nat.ne_of_lt
def wR:=@List.mem_cons_self
def wU:=@Nat.le_trans
def wV:=@List.mem_of_getElem?
def wW:=@List.length_append
def wX:=@Int.toNat_natCast
def wY:=@wpAny_call_entry
def wZ:=@wpAny_setField_rec
def w6:=@beq_eq_false_iff_ne
def w8:=@PySem.mem_of_lookup
def w9:=@Bool.not_eq_true'
def va:=@wpAny_callSpecial?_slot
def vc:=@Option.isSome_iff_exists
def vd:=@List.mem_singleton
def ve:=@wpAny_newObj_type
def vf:=@Int.emod_lt_of_pos
def vg:=@List.mem_range
def vh:=@Bool.eq_iff_iff
def vk:=@of_decide_eq_true
def vm:=@List.map_congr_left
def vn:=@List.getElem?_append_left
def vo:=@List.size_toArray
def vp:=@decide_eq_false
def vq:=@beq_iff_eq
def vt:=@List.getElem?_set_self
end
open PySem.W (Frag nsIn)
section
namespace L2
open PySem PySem.Spec PyProof.Rows
noncomputable abbrev Key:=Sum Int Str
noncomputable def jdl:Key->Value->Bool
 | .inl k,v=>Value.isInt k v
 | .inr x,v=>Value.isStrOf x v
noncomputable def qem (w:World):Key->Int
 | .inl k=>hashInt k
 | .inr x=>hashStr w x
theorem qy:∀ {k:Key} {v:Value},jdl k v=true->(∃ i t,k=Sum.inl i/\v=Value.int i t)\/(∃ x t,k=Sum.inr x/\v=Value.str x t)
 | .inl i,v,h=>by
  obtain ⟨t,e⟩:=Value.isInt_shape (k:=i) (v:=v) h;exact .inl ⟨i,t,rfl,e⟩
 | .inr x,v,h=>by
  obtain ⟨t,e⟩:=Value.isStrOf_shape (x:=x) (v:=v) h;exact .inr ⟨x,t,rfl,e⟩
theorem zdm (a b:Int):decide ((Sum.inl a:Key)=Sum.inl b)=(a==b):=by
 by_cases e:a=b
 ·subst e;simp
 ·have h:¬ (Sum.inl a:Key)=Sum.inl b:=λq=>e (Sum.inl.inj q)
  rw [vp h];exact (w6.mpr e).symm
theorem qdm (a b:Str):decide ((Sum.inr a:Key)=Sum.inr b)=decide (a=b):=by
 by_cases e:a=b
 ·subst e;simp
 ·have h:¬ (Sum.inr a:Key)=Sum.inr b:=λq=>e (Sum.inr.inj q)
  rw [vp h,vp e]
theorem ydm (a:Int) (b:Str):decide ((Sum.inl a:Key)=Sum.inr b)=false:=vp (λq=>nomatch q)
theorem jdm (a:Str) (b:Int):decide ((Sum.inr a:Key)=Sum.inl b)=false:=vp (λq=>nomatch q)
noncomputable def jbn (prog:Program) (w:World):PySem.KeyKind prog w Key where
 is:=jdl
 hash:=qem w
 inj:=λv a b ha hb=>by
  rcases qy ha with ⟨i,t,rfl,rfl⟩ | ⟨x,t,rfl,rfl⟩
  ·rcases qy hb with ⟨j,u,rfl,e⟩ | ⟨y,u,rfl,e⟩
   ·injection e with e1 _;rw [e1]
   ·exact nomatch e
  ·rcases qy hb with ⟨j,u,rfl,e⟩ | ⟨y,u,rfl,e⟩
   ·exact nomatch e
   ·injection e with e1 _;rw [e1]
 byValue:=λk v h=>by
  rcases qy h with ⟨i,t,rfl,rfl⟩ | ⟨x,t,rfl,rfl⟩<;>rfl
 pyHash:=λhv h=>by
  rcases qy hv with ⟨i,t,rfl,rfl⟩ | ⟨x,t,rfl,rfl⟩
  ·exact wpAny_pyHash_int h
  ·exact wpAny_pyHash_str h
 eqBool:=λhu hv h=>by
  rcases qy hu with ⟨i,t,rfl,rfl⟩ | ⟨x,t,rfl,rfl⟩
  ·rcases qy hv with ⟨j,u,rfl,rfl⟩ | ⟨y,u,rfl,rfl⟩
   ·rw [zdm] at h;exact wpAny_eqBool_int h
   ·rw [ydm] at h;exact SeqAt.EqAt.int_str i t y u _ _ _ _ h
  ·rcases qy hv with ⟨j,u,rfl,rfl⟩ | ⟨y,u,rfl,rfl⟩
   ·rw [jdm] at h;exact SeqAt.EqAt.str_int x t j u _ _ _ _ h
   ·rw [qdm] at h;exact wpAny_eqBool_str h
 «strs»:=λk x t v h=>by
  rcases qy h with ⟨i,u,rfl,e⟩ | ⟨y,u,rfl,e⟩
  ·exact nomatch e
  ·injection e with e1 _
   subst e1
   cases v<;>rfl
inductive V where
 | non | bl (b:Bool) | int (i:Int) | str (x:Str) | byt (b:Array UInt8) | flt (b:UInt64) | ref (a:Addr) | ty (n:String)
 deriving DecidableEq
def RelV:V->Value->Prop
 | .non,u=>u=Value.none
 | .bl b,u=>u=Value.bool b
 | .int i,u=>∃ t,u=Value.int i t
 | .str x,u=>∃ t,u=Value.str x t
 | .byt b,u=>∃ t,u=Value.bytes b t
 | .flt b,u=>∃ t,u=Value.float b t
 | .ref a,u=>u=Value.ref a
 | .ty n,u=>u=Value.type n
abbrev Vals:List V->List Value->Prop:=Paired RelV
theorem Vals.length {xs:List V} {us:List Value} (r:Vals xs us):xs.length=us.length:=Paired.length r
theorem Vals.get:∀ {xs:List V} {us:List Value} {i:Nat} {x:V},Vals xs us->xs[i]?=some x->∃ u,us[i]?=some u/\RelV x u
 | _,_,_,_,.nil,e=>by simp at e
 | _,_,0,_,.cons r _,e=>by simp at e;subst e;exact ⟨_,rfl,r⟩
 | _,_,i+1,x,.cons _ t,e=>by
  obtain ⟨u,h1,h2⟩:=Vals.get (i:=i) (x:=x) t (by simpa using e);exact ⟨u,by simpa using h1,h2⟩
theorem Vals.set {x:V} {u:Value} (r:RelV x u):∀ {xs:List V} {us:List Value} (i:Nat),Vals xs us->Vals (xs.set i x) (us.set i u)
 | _,_,_,.nil=>.nil
 | _,_,0,.cons _ t=>.cons r t
 | _,_,i+1,.cons q t=>.cons q (Vals.set r i t)
theorem Vals.append:∀ {xs ys:List V} {us ws:List Value},Vals xs us->Vals ys ws->Vals (xs++ys) (us++ws)
 | _,_,_,_,.nil,s=>s
 | _,_,_,_,.cons r t,s=>.cons r (Vals.append t s)
theorem Vals.take:∀ {xs:List V} {us:List Value} (n:Nat),Vals xs us->Vals (xs.take n) (us.take n)
 | _,_,0,_=>.nil
 | _,_,_+1,.nil=>.nil
 | _,_,n+1,.cons r t=>.cons r (Vals.take n t)
theorem Vals.drop:∀ {xs:List V} {us:List Value} (n:Nat),Vals xs us->Vals (xs.drop n) (us.drop n)
 | _,_,0,r=>r
 | _,_,_+1,.nil=>.nil
 | _,_,n+1,.cons _ t=>Vals.drop n t
def qdX:Option V->Option Value->Prop
 | some v,some u=>RelV v u
 | none,none=>True
 | _,_=>False
def KV {κ:Type}:List (κ×V)->List (κ×Value)->Prop:=Paired λ(p:κ×V) (q:κ×Value)=>p.1=q.1/\RelV p.2 q.2
noncomputable def kV:Key->V
 | .inl i=>.int i
 | .inr x=>.str x
inductive HO where
 /-- a list -/
 | lst (xs:List V)
 /-- a tuple (never changes) -/
 | tup (xs:List V)
 /-- a dict whose keys are ints and texts; one whose keys are tuples of ints and texts (the empty one is both) -/
 | dK (kvs:List (Key×V)) | dT (kvs:List (List Key×V))
 /-- a set of ints: its members, its size -/
 | set (S:Int->Bool) (n:Nat)
 /-- an instance of the class at C, its dict at dx, its attributes -/
 | ins (C dx:Addr) (fs:List (Str×V))
 /-- the dict of the instance at x -/
 | own (x:Addr)
 /-- the dict of an exception -/
 | xd (fs:List (Str×V))
 /-- a bound method, f of x -/
 | met (f x:Addr)
 /-- a range object lo, lo + 1, .. below hi -/
 | rng (lo hi:Int)
 /-- a thing that is known to the object (the script; a dict while a loop walks it): read, never written while it is so -/
 | frz (o:Obj) (u:HO)
 /-- a code object's table -/
 | tbl (ps:Array Value)
 /-- any other thing, by what is true of its one object (a def of one's own: jcM a S n := HO.ext λh => ..) -/
 | ext (φ:Heap->Prop)
noncomputable abbrev Hp:=Addr->Option HO
noncomputable def upd (H:Hp) (a:Addr) (o:HO):Hp:=λb=>if b=a then some o else H b
theorem zl {H:Hp} {a:Addr} {o:HO}:upd H a o a=some o:=by unfold upd;rw [if_pos rfl]
theorem zm {H:Hp} {a b:Addr} {o:HO} (h:b≠a):upd H a o b=H b:=by unfold upd;rw [if_neg h]
theorem qu {H:Hp} {a b:Addr} {o:HO} (h:H a=some o) (h':H b=none):a≠b:=by
 intro e;subst e;rw [h] at h';cases h'
def IsTupN (h:Heap) (a:Addr) (items:Array Value):Prop:=∃ o,h.get? a=some o/\o.cls=.type "tuple"/\o.dict=none/\∃ n,o.data=.seq items n
theorem IsTupN.tup {h:Heap} {a:Addr} {items:Array Value} (x:IsTupN h a items):PyProof.Rows.IsTup h a items:=let ⟨o,e,c,_,d⟩:=x;⟨o,e,c,d⟩
theorem IsTupN.new (h:Heap) (items:Array Value):IsTupN (h.push { cls:=.type "tuple",data:=.seq items }) h.objs.size items:=⟨_,wx _ rfl,rfl,rfl,_,rfl⟩
section
variable (P:Program) (w:World)
def ObjOk (H:Hp) (h:Heap) (a:Addr):HO->Prop
 | .lst xs=>xs.length<=sizeLine/\∃ (its:List Value) (n:Nat),Vals xs its/\h.get? a=some { cls:=.type "list",data:=.seq its.toArray n }
 | .tup xs=>xs.length<=sizeLine/\∃ its:List Value,Vals xs its/\IsTupN h a its.toArray
 | .dK kvs=>kvs.length<=sizeLine/\(a==sysModules)=false/\∃ vs,KV kvs vs/\h.DictOf (jbn P w) a vs
 | .dT kvs=>kvs.length<=sizeLine/\(a==sysModules)=false/\∃ xs:List (List Key×Addr×Value),
  Paired (λ(p:List Key×V) (q:List Key×Addr×Value)=>p.1=q.1/\H q.2.1=some (.tup (p.1.map kV))/\RelV p.2 q.2.2) kvs xs /\
  ∃ o es ep,h.get? a=some o/\o.ExactDict/\o.data=.dict es ep/\es.toList=xs.map (entryOfKey (tupleKind (jbn P w)))/\(xs.map (·.1)).Nodup
 | .set S n=>h.SetOf (intKind P w) a S n
 | .ins C dx fs=>H dx=some (.own a)/\fs.length<=1000/\dx≠a/\h.get? a=some (PySem.W.instObj C dx) /\
  ∃ mA,h.Ns1 dx mA/\(∀ f,qdX (fs.lookup f) (mA f))/\PySem.Within mA (fs.map (·.1))
 | .own _=>∃ o,h.get? a=some o
 | .xd fs=>∃ mA,h.Ns1 a mA/\∀ f,qdX (fs.lookup f) (mA f)
 | .rng lo hi=>∃ t u v,h.get? a=some { cls:=.type "range",data:=.fields #[.int lo t,.int hi u,.int 1 v] }
 | .frz o u=>h.get? a=some o/\ObjOk H h a u
 | .tbl ps=>h.get? a=some { cls:=.none,data:=.fields ps }
 | .met f x=>h.get? a=some (PySem.W.methodObj (.ref f) (.ref x))
 | .ext φ=>φ h/\(∃ o,h.get? a=some o)/\∀ h1 h2:Heap,φ h1->(∀ o,h1.get? a=some o->h2.get? a=some o)->φ h2
def HOk (H:Hp) (h:Heap):Prop:=∀ a o,H a=some o->ObjOk P w H h a o
end
section
variable {P:Program} {w:World} {H H':Hp} {h h':Heap} {a:Addr} {o:HO}
theorem ObjOk.there (x:ObjOk P w H h a o):∃ u,h.get? a=some u:=by
 cases o with
 | lst xs=>obtain ⟨_,_,_,_,e⟩:=x;exact ⟨_,e⟩
 | tup xs=>obtain ⟨_,_,_,o,e,_⟩:=x;exact ⟨_,e⟩
 | dK kvs=>obtain ⟨_,_,_,_,o,_,_,e,_⟩:=x;exact ⟨_,e⟩
 | dT kvs=>obtain ⟨_,_,_,_,o,_,_,e,_⟩:=x;exact ⟨_,e⟩
 | set S n=>obtain ⟨o,_,_,_,e,_⟩:=x;exact ⟨_,e⟩
 | ins C dx fs=>obtain ⟨_,_,_,e,_⟩:=x;exact ⟨_,e⟩
 | own y=>obtain ⟨_,e⟩:=x;exact ⟨_,e⟩
 | xd fs=>obtain ⟨_,⟨_,_,_,e,_⟩,_⟩:=x;exact ⟨_,e⟩
 | rng lo hi=>obtain ⟨_,_,_,e⟩:=x;exact ⟨_,e⟩
 | frz ob u=>obtain ⟨e,_⟩:=x;exact ⟨_,e⟩
 | tbl ps=>exact ⟨_,show h.get? a=some _ from x⟩
 | met f y=>exact ⟨_,show h.get? a=some _ from x⟩
 | ext φ=>obtain ⟨_,⟨_,e⟩,_⟩:=x;exact ⟨_,e⟩
theorem ObjOk.lt (x:ObjOk P w H h a o):a<h.objs.size:=let ⟨_,e⟩:=x.there;wA e
theorem Paired.mapP {α β:Type} {F G:α->β->Prop}:∀ {l₁:List α} {l₂:List β},Paired F l₁ l₂->(∀ a b,F a b->G a b)->Paired G l₁ l₂
 | _,_,.nil,_=>.nil
 | _,_,.cons r t,f=>.cons (f _ _ r) (Paired.mapP t f)
theorem ObjOk.stay (x:ObjOk P w H h a o) (k:∀ b u,(b=a\/H b=some (.own a))->h.get? b=some u->h'.get? b=some u)
  (ho:∀ b,H b=some (.own a)->H' b=some (.own a)) (ht:∀ b xs,H b=some (.tup xs)->H' b=some (.tup xs)):ObjOk P w H' h' a o:=by
 induction o with
 | lst xs=>obtain ⟨z,its,n,r,e⟩:=x;exact ⟨z,its,n,r,k _ _ (.inl rfl) e⟩
 | tup xs=>obtain ⟨z,its,r,ob,e,c⟩:=x;exact ⟨z,its,r,ob,k _ _ (.inl rfl) e,c⟩
 | dK kvs=>obtain ⟨z,y,vs,r,ob,es,ep,e,c⟩:=x;exact ⟨z,y,vs,r,ob,es,ep,k _ _ (.inl rfl) e,c⟩
 | dT kvs =>
  obtain ⟨z,y,xs,r,ob,es,ep,e,c⟩:=x;exact ⟨z,y,xs,Paired.mapP r λp q z=>⟨z.1,ht _ _ z.2.1,z.2.2⟩,ob,es,ep,k _ _ (.inl rfl) e,c⟩
 | set S n=>obtain ⟨ob,es,ep,t,e,c⟩:=x;exact ⟨ob,es,ep,t,k _ _ (.inl rfl) e,c⟩
 | ins C dx fs =>
  obtain ⟨d,z,ne,e,mA,⟨od,es,ep,e2,c⟩,r⟩:=x;exact ⟨ho _ d,z,ne,k _ _ (.inl rfl) e,mA,⟨od,es,ep,k _ _ (.inr d) e2,c⟩,r⟩
 | own y=>obtain ⟨ob,e⟩:=x;exact ⟨ob,k _ _ (.inl rfl) e⟩
 | xd fs=>obtain ⟨mA,⟨od,es,ep,e,c⟩,r⟩:=x;exact ⟨mA,⟨od,es,ep,k _ _ (.inl rfl) e,c⟩,r⟩
 | rng lo hi=>obtain ⟨t,u,v,e⟩:=x;exact ⟨t,u,v,k _ _ (.inl rfl) e⟩
 | frz ob u ih=>obtain ⟨e,q⟩:=x;exact ⟨k _ _ (.inl rfl) e,ih q⟩
 | tbl ps =>
  have e:h.get? a=some { cls:=.none,data:=.fields ps }:=x;show h'.get? a=some { cls:=.none,data:=.fields ps };exact k a _ (.inl rfl) e
 | met f y =>
  have e:h.get? a=some (PySem.W.methodObj (.ref f) (.ref y)):=x;show h'.get? a=some (PySem.W.methodObj (.ref f) (.ref y));exact k a _ (.inl rfl) e
 | ext φ=>obtain ⟨p,⟨o,e⟩,st⟩:=x;exact ⟨st _ _ p λo q=>k _ _ (.inl rfl) q,⟨o,k _ _ (.inl rfl) e⟩,st⟩
theorem HOk.lt (x:HOk P w H h) (e:H a=some o):a<h.objs.size:=(x a o e).lt
theorem HOk.fresh (x:HOk P w H h) (e:h.objs.size<=a):H a=none:=by
 cases q:H a with
 | none=>rfl
 | some u=>exact absurd (wO (x.lt q) e) (Nat.lt_irrefl _)
theorem HOk.kept (x:HOk P w H h) (k:∀ b u,h.get? b=some u->h'.get? b=some u):HOk P w H h':=λa o e =>
 (x a o e).stay (λb u _ q=>k b u q) (λ_ q=>q) λ_ _ q=>q
theorem HOk.laid (x:HOk P w H h) (k:∀ b u,h.get? b=some u->h'.get? b=some u) (hp:h.objs.size<=a) (new:ObjOk P w (upd H a o) h' a o):HOk P w (upd H a o) h':=λb u e=>by
 have hn:=x.fresh hp
 by_cases hb:b=a
 ·subst hb;rw [zl] at e;cases e;exact new
 ·rw [zm hb] at e;exact (x b u e).stay (λc v _ q=>k c v q) (λc q=>by rw [zm (qu q hn)];exact q) λc xs q=>by rw [zm (qu q hn)];exact q
end
def Rd (H:Hp) (a:Addr) (u:HO):Prop:=H a=some u\/∃ o,H a=some (.frz o u)
theorem Rd.ok {P:Program} {w:World} {H:Hp} {h:Heap} {a:Addr} {u:HO} (r:Rd H a u) (x:HOk P w H h):ObjOk P w H h a u:=by
 rcases r with r | ⟨o,r⟩
 ·exact x a u r
 ·obtain ⟨_,q⟩:=x a _ r;exact q
def Mut:Option HO->Prop
 | some (.lst _)=>True
 | some (.dK _)=>True
 | some (.dT _)=>True
 | some (.set _ _)=>True
 | some (.ins _ _ _)=>True
 | some (.ext _)=>True
 | _=>False
section
variable {P:Program} {w:World} {H:Hp} {h h':Heap} {x e:Addr} {o':HO}
theorem HOk.write (ok:HOk P w H h) (mu:Mut (H x)) (he:e=x\/H e=some (.own x)) (k:∀ b u,b≠e->h.get? b=some u->h'.get? b=some u) (heo:∃ u,h'.get? e=some u)
  (new:ObjOk P w (upd H x o') h' x o'):HOk P w (upd H x o') h':=λb u q=>by
 have nown:∀ c y,H c=some (.own y)->c≠x:=λc y r z=>by subst z;rw [r] at mu;exact mu
 have ntup:∀ c xs,H c=some (.tup xs)->c≠x:=λc xs r z=>by subst z;rw [r] at mu;exact mu
 by_cases hb:b=x
 ·subst hb;rw [zl] at q;cases q;exact new
 ·rw [zm hb] at q
  by_cases hbe:b=e
  ·have q':H b=some (.own x):=by
    rcases he with z | z
    ·exact absurd (hbe.trans z) hb
    ·rw [hbe];exact z
   rw [q] at q';cases q'
   obtain ⟨v,hv⟩:=heo;exact ⟨v,by rw [hbe];exact hv⟩
  ·refine (ok b u q).stay (λc v hc r=>k c v ?_ r) (λc r=>by rw [zm (nown c b r)];exact r) λc xs r=>by rw [zm (ntup c xs r)];exact r
   rcases hc with rfl | hc
   ·exact hbe
   ·rintro rfl;rcases he with z | z
    ·exact nown c b hc z
    ·rw [hc] at z;cases z;exact hb rfl
end
structure Un (fs ex:List Addr) (H H':Hp) (h h':Heap):Prop where
 keep:∀ b o,h.get? b=some o->H b=none->b∉fs->b∉ex->h'.get? b=some o
 slot:∀ b o,h.get? b=some o->H b=none->b∈fs->b∉ex->∃ sl,h'.get? b=some { o with slots:=sl }
 free:∀ b o,h.get? b=some o->H b=none->b∉ex->H' b=none
 there:∀ b o,h.get? b=some o->b∉ex->∃ o',h'.get? b=some o'
 tups:∀ b xs,H b=some (.tup xs)->H' b=some (.tup xs)
 frzs:∀ b o u,H b=some (.frz o u)->H' b=some (.frz o u)
 tbls:∀ b ps,H b=some (.tbl ps)->∃ more,H' b=some (.tbl (ps++more))
section
variable {fs fs' ex ex':List Addr} {H H1 H2:Hp} {h h1 h2 h':Heap} {a x e:Addr} {o:HO}
theorem Un.any (u:Un fs ex H H1 h h1) {b:Addr} {ob:Obj} (q:h.get? b=some ob) (n:H b=none) (hx:b∉ex):∃ sl,h1.get? b=some { ob with slots:=sl }:=by
 by_cases hb:b∈fs
 ·exact u.slot b ob q n hb hx
 ·exact ⟨ob.slots,u.keep b ob q n hb hx⟩
theorem Un.kept (k:∀ b u,h.get? b=some u->h'.get? b=some u):Un fs ex H H h h' :=
 ⟨λb ob q _ _ _=>k b ob q,λb ob q _ _ _=>⟨ob.slots,k b ob q⟩,λ_ _ _ n _=>n,λb ob q _=>⟨ob,k b ob q⟩,λ_ _ q=>q,λ_ _ _ q=>q,λ_ ps q=>⟨#[],by rw [q];simp⟩⟩
theorem Un.refl:Un fs ex H H h h:=Un.kept λ_ _ q=>q
theorem Un.laid (k:∀ b u,h.get? b=some u->h'.get? b=some u) (hp:h.objs.size<=a) (hn:H a=none):Un fs ex H (upd H a o) h h' where
 keep:=λb u q _ _ _=>k b u q
 slot:=λb u q _ _ _=>⟨u.slots,k b u q⟩
 free:=λb u q n _=>by rw [zm (wQ (wO (wA q) hp))];exact n
 there:=λb u q _=>⟨u,k b u q⟩
 tups:=λb xs q=>by rw [zm (qu q hn)];exact q
 frzs:=λb u xs q=>by rw [zm (qu q hn)];exact q
 tbls:=λb ps q=>⟨#[],by rw [zm (qu q hn),q];simp⟩
theorem Un.write (mu:Mut (H x)) (he:e=x\/H e=some (.own x)) (k:∀ b u,b≠e->h.get? b=some u->h'.get? b=some u) (heo:∃ u,h'.get? e=some u):Un fs ex H (upd H x o) h h':=by
 have hx:∀ b,H b=none->b≠x:=λb n z=>by subst z;rw [n] at mu;exact mu
 have hb:∀ b,H b=none->b≠e:=λb n z=>by
  subst z;rcases he with r | r
  ·exact hx b n r
  ·rw [n] at r;cases r
 have hm:∀ b u,H b=some u->¬ Mut (some u)->b≠x:=λb u q nm z=>by subst z;rw [q] at mu;exact nm mu
 refine ⟨λb u q n _ _ => k b u (hb b n) q, λb u q n _ _ => ⟨u.slots, k b u (hb b n) q⟩, λb u q n _ => by rw [zm (hx b n)]; exact n, λb u q _ => ?_,
  λb xs q=>by rw [zm (hm b _ q λz=>z)];exact q,λb u xs q=>by rw [zm (hm b _ q λz=>z)];exact q,λb ps q=>⟨#[],by rw [zm (hm b _ q λz=>z),q];simp⟩⟩
 by_cases hbe:b=e
 ·subst hbe;exact heo
 ·exact ⟨u,k b u hbe q⟩
end
noncomputable def trk (h:Heap) (H:Hp):List Addr:=(List.range h.objs.size).filter λa=>(H a).isSome
noncomputable def jcp (h:Heap) (H:Hp):Heap:=PySem.W.hideAll h (trk h H)
theorem qbX (h:Heap) (H:Hp):(jcp h H).objs.size=h.objs.size:=PySem.W.hideAll_size _ _
theorem zcq {h:Heap} {H:Hp} {b:Addr} {o:Obj} (e:h.get? b=some o) (n:H b=none):(jcp h H).get? b=some o :=
 PySem.W.hideAll_get _ e λhm=>by
  have q:(H b).isSome=true:=(List.mem_filter.mp hm).2;rw [n] at q;simp at q
theorem zcS {h:Heap} {H:Hp} {b:Addr} {o:Obj} (e:(jcp h H).get? b=some o):h.get? b=some o/\H b=none:=by
 have e':h.get? b=some o:=PySem.W.of_hideAll (trk h H) e;refine ⟨e',?_⟩;cases q:H b with
 | none=>rfl
 | some x =>
  have hm:b∈trk h H:=List.mem_filter.mpr ⟨vg.mpr (wA e'),by simp [q]⟩;have z:(jcp h H).get? b=none:=PySem.W.hideAll_none (trk h H) hm;rw [z] at e;cases e
noncomputable def qcS (g h:Heap) (L:Addr):List (Addr×Obj):=(List.range h.objs.size).filterMap λa=>if a=L\/(g.get? a).isSome=true then none else (h.get? a).map λo=>(a,o)
noncomputable def rest (g h:Heap) (L d:Addr):List (Addr×Obj):=(qcS g h L).filter λp=>decide (p.1≠d)
structure Mod (K:Frag) (mg:Str->Option Value) (base:Heap):Prop where
 kin:K.In base
 glob:base.Ns mainGlobals mg
 blt:∃ mb,base.Ns builtinsNs mb/\∀ x:Str,x≠"__name__"->mb x=bootBuiltins x
 nolimit:base.NoLimit
structure Cx where
 prog:Program
 w:World
 K:Frag
 mg:Str->Option Value
 base:Heap
 A:Around
 N:List Str
 s₀:Shared
 H₀:Hp
 env:Env
 outer:List Env
 stack:List Env
 ex:List Addr
 fn:Str->Bool
 calm:Bool
 pn:List (Addr×Obj)
 xe:Value->Shared->Prop
noncomputable def frs (l:List Env):List Addr:=l.filterMap (·.frame)
noncomputable abbrev Cx.fs (X:Cx):List Addr:=frs X.outer
def Vis (sc:Scope) (x:Str):Prop:=sc.names.lookup x=some .local\/sc.names.lookup x=some .cell\/sc.names.lookup x=some .free
def Loc (sc:Scope) (x:Str):Prop:=sc.names.lookup x=some .local\/sc.names.lookup x=some .cell
def Look (env:Env) (h:Heap) (m:Str->Option Value) (x:Str) (u:Value):Prop :=
 (env.kindOf x=some .local/\m x=some u)\/((env.kindOf x=some .cell\/env.kindOf x=some .free)/\∃ c,env.cells.lookup x=some c/\h.IsCell c (some u))
structure Cx.Ok (X:Cx):Prop where
 mod:Mod X.K X.mg X.base
 kind:X.env.scope.kind=.function
 glob:X.env.globals=mainGlobals
 blt:X.env.builtins=builtinsNs
 above:X.s₀.heap.objs.size<=X.env.locals
 inj:∀ x y c,X.env.cells.lookup x=some c->X.env.cells.lookup y=some c->x=y
 has:∀ x,(X.env.kindOf x=some .cell\/X.env.kindOf x=some .free)->∃ c,X.env.cells.lookup x=some c
 cab:∀ x c,X.fn x=true->X.env.cells.lookup x=some c->X.s₀.heap.objs.size<=c
 hd:X.calm=true->X.A.handled=none
 frames:X.A.frames=some X.stack
 stk:X.stack=X.outer\/(X.stack=X.env::X.outer/\X.env.frame=some X.env.locals)
 exf:∀ b∈X.ex,b≠X.env.locals/\∀ x c,X.env.cells.lookup x=some c->c≠b
 bs:∀ b o,X.base.get? b=some o->X.s₀.heap.get? b=some o/\X.H₀ b=none
 bsz:X.base.objs.size<=X.s₀.heap.objs.size
 noex:∀ b o,X.base.get? b=some o->b∉X.ex
 exfs:∀ b∈X.ex,b∉X.fs
 funs:X.s₀.heap.FunFrames X.base X.outer
 frf:∀ b∈X.fs,X.H₀ b=none
structure Inv (X:Cx) (pins:List (Addr×Obj)) (σ:List (Option V)) (H:Hp) (s:Shared):Prop where
 ok:X.Ok
 os:s.os=X.s₀.os
 bare:AllBare s.gens
 base:Un X.fs X.ex X.H₀ H X.s₀.heap s.heap
 loc:∃ m,s.heap.Ns X.env.locals m/\∀ (i:Nat) (x:Str) (v:V),X.N[i]?=some x->σ[i]?=some (some v)->Vis X.env.scope x->∃ u,RelV v u/\Look X.env s.heap m x u
 cell:∀ x c,X.env.cells.lookup x=some c->∃ v,s.heap.IsCell c v
 free:H X.env.locals=none
 freeC:∀ x c,X.env.cells.lookup x=some c->H c=none
 pin:∀ p∈X.pn++pins,s.heap.get? p.1=some p.2/\H p.1=none/\p.1≠X.env.locals/\p.1∉X.fs/\∀ v,p.2.data≠.cell v
 hok:HOk X.prog X.w H s.heap
 len:σ.length=X.N.length
section
variable {X:Cx} {pins:List (Addr×Obj)} {σ:List (Option V)} {H H':Hp} {s:Shared} {h':Heap}
theorem Cx.Ok.nofr (ok:X.Ok) {b:Addr} {o:Obj} (e:X.base.get? b=some o):b∉X.fs:=λhb=>by
 have:=(ok.funs.mem hb).1
 rw [e] at this;cases this
theorem Inv.bs (I:Inv X pins σ H s):∀ b o,X.base.get? b=some o->s.heap.get? b=some o/\H b=none:=λb o e =>
 ⟨I.base.keep b o (I.ok.bs b o e).1 (I.ok.bs b o e).2 (I.ok.nofr e) (I.ok.noex b o e),I.base.free b o (I.ok.bs b o e).1 (I.ok.bs b o e).2 (I.ok.noex b o e)⟩
theorem Inv.bk (I:Inv X pins σ H s):∀ b o,X.base.get? b=some o->s.heap.get? b=some o:=λb o e=>(I.bs b o e).1
theorem Inv.mod (I:Inv X pins σ H s):Mod X.K X.mg X.base:=I.ok.mod
theorem Inv.kIn (I:Inv X pins σ H s):X.K.In s.heap:=I.ok.mod.kin.keeps I.bk
theorem Inv.lt (I:Inv X pins σ H s):X.env.locals<s.heap.objs.size:=let ⟨_,hn,_⟩:=I.loc;hn.lt
theorem Inv.sz (I:Inv X pins σ H s):X.s₀.heap.objs.size<=s.heap.objs.size:=wU I.ok.above (Nat.le_of_lt I.lt)
theorem Inv.nofs (I:Inv X pins σ H s) {a:Addr} (h:s.heap.objs.size<=a):a∉X.fs:=λhb=>by
 obtain ⟨_,o,ho,_⟩:=I.ok.funs.mem hb;exact absurd (wO (wA ho) (wU I.sz h)) (Nat.lt_irrefl _)
theorem Inv.cne (I:Inv X pins σ H s):∀ x c,X.env.cells.lookup x=some c->c≠X.env.locals:=λx c e z=>by
 obtain ⟨v,o,ho,hd⟩:=I.cell x c e;obtain ⟨m,⟨o',es,ep,ho',hd',_⟩,_⟩:=I.loc;rw [z,ho'] at ho;cases ho;rw [hd'] at hd;cases hd
theorem Inv.funs (I:Inv X pins σ H s):s.heap.FunFrames X.base X.outer:=by
 have all:∀ (l:List Env),(∀ b∈frs l,b∈X.fs)->X.s₀.heap.FunFrames X.base l->s.heap.FunFrames X.base l:=by
  intro l
  induction l with
  | nil=>intro _ _;trivial
  | cons env r ih =>
   intro hs hl;obtain ⟨hk,⟨L,o,hf,hn,ho,hd⟩,hr⟩:=hl;have hL:L∈X.fs:=hs L (by unfold frs;rw [List.filterMap_cons,hf];exact wR);obtain ⟨sl,e⟩:=I.base.slot L o ho (I.ok.frf L hL) hL λz=>I.ok.exfs L z hL
   exact ⟨hk,⟨L,_,hf,hn,e,hd⟩,ih (λb hb=>hs b (by unfold frs;rw [List.filterMap_cons,hf];exact wK _ hb)) hr⟩
 exact all X.outer (λ_ hb=>hb) I.ok.funs
theorem Inv.stack (I:Inv X pins σ H s):s.heap.FunFrames X.base X.stack:=by
 rcases I.ok.stk with e | ⟨e,hf⟩
 ·rw [e];exact I.funs
 ·rw [e];obtain ⟨m,hn,_⟩:=I.loc;refine .cons (by rw [I.ok.kind];decide) hf hn ?_ I.funs;exact Heap.get?_none_of_le (wU I.ok.bsz I.ok.above)
theorem Inv.stkSub (I:Inv X pins σ H s):∀ b∈frs X.stack,b∈X.env.locals::X.fs:=λb hb=>by
 rcases I.ok.stk with e | ⟨e,hf⟩
 ·rw [e] at hb;exact wK _ hb
 ·rw [e] at hb;unfold frs at hb;rw [List.filterMap_cons,hf] at hb;exact hb
theorem Inv.stkFree (I:Inv X pins σ H s):∀ b∈frs X.stack,H b=none:=λb hb=>by
 rcases wy.mp (I.stkSub b hb) with e | hb
 ·rw [e];exact I.free
 ·obtain ⟨_,o,ho,_⟩:=I.ok.funs.mem hb;exact I.base.free b o ho (I.ok.frf b hb) λz=>I.ok.exfs b z hb
theorem Inv.step {g':Array GenState} {t':Nat} {d':Drawn} {ch:List Addr} (I:Inv X pins σ H s)
  (hch:∀ b∈ch,(b∈X.ex\/X.s₀.heap.get? b=none)/\b≠X.env.locals/\(∀ x c,X.env.cells.lookup x=some c->c≠b)/\∀ p∈X.pn++pins,p.1≠b)
  (keep:∀ b o,b≠X.env.locals->b∉X.fs->b∉ch->s.heap.get? b=some o->H b=none->h'.get? b=some o)
  (slot:∀ b o,b≠X.env.locals->b∈X.fs->b∉ch->s.heap.get? b=some o->H b=none->∃ sl,h'.get? b=some { o with slots:=sl }) (free:∀ b o,b∉ch->s.heap.get? b=some o->H b=none->H' b=none)
  (there:∀ b o,b∉ch->s.heap.get? b=some o->∃ o',h'.get? b=some o')
  (tups:∀ b xs,H b=some (.tup xs)->H' b=some (.tup xs)) (frzs:∀ b o u,H b=some (.frz o u)->H' b=some (.frz o u)) (tbls:∀ b ps,H b=some (.tbl ps)->∃ more,H' b=some (.tbl (ps++more)))
  (ns:∀ m,s.heap.Ns X.env.locals m->h'.Ns X.env.locals m) (hok:HOk X.prog X.w H' h') (hg:AllBare g') :
  Inv X pins σ H' { s with heap:=h',gens:=g',drawn:=d',toks:=t' }:=by
 have neL:∀ b o,X.s₀.heap.get? b=some o->b≠X.env.locals:=λb o e=>wQ (wO (wA e) I.ok.above)
 have neC:∀ b o,X.s₀.heap.get? b=some o->b∉X.ex->b∉ch:=λb o e hx hb=>by
  rcases (hch b hb).1 with z | z
  ·exact hx z
  ·rw [e] at z;cases z
 have cellK:∀ x c,X.env.cells.lookup x=some c->∀ v,s.heap.IsCell c v->h'.IsCell c v:=λx c e v ⟨o,ho,hd⟩=>by
  have nch:c∉ch:=λz=>(hch c z).2.2.1 x c e rfl
  by_cases hc:c∈X.fs
  ·obtain ⟨sl,q⟩:=slot c o (I.cne x c e) hc nch ho (I.freeC x c e);exact ⟨_,q,hd⟩
  ·exact ⟨o,keep c o (I.cne x c e) hc nch ho (I.freeC x c e),hd⟩
 refine ⟨I.ok,I.os,hg,⟨λb o e n hb hx=>?_,λb o e n hb hx=>?_,λb o e n hx=>?_,λb o e hx=>?_,λb xs e=>tups b xs (I.base.tups b xs e),λb o xs e=>frzs b o xs (I.base.frzs b o xs e),λb ps e=>?_⟩,?_,λx c e=>?_,?_,λx c e=>?_,λp hp=>?_,hok,I.len⟩
 ·exact keep b o (neL b o e) hb (neC b o e hx) (I.base.keep b o e n hb hx) (I.base.free b o e n hx)
 ·obtain ⟨sl,e1⟩:=I.base.slot b o e n hb hx;obtain ⟨sl',e2⟩:=slot b _ (neL b o e) hb (neC b o e hx) e1 (I.base.free b o e n hx);exact ⟨sl',e2⟩
 ·obtain ⟨o',e1⟩:=I.base.there b o e hx;exact free b o' (neC b o e hx) e1 (I.base.free b o e n hx)
 ·obtain ⟨o',e1⟩:=I.base.there b o e hx;exact there b o' (neC b o e hx) e1
 ·obtain ⟨m1,e1⟩:=I.base.tbls b ps e;obtain ⟨m2,e2⟩:=tbls b _ e1;exact ⟨m1++m2,by rw [e2,Array.append_assoc]⟩
 ·obtain ⟨m,hn,hl⟩:=I.loc;refine ⟨m,ns m hn,λi x v e1 e2 e3=>?_⟩;obtain ⟨u,r,l⟩:=hl i x v e1 e2 e3;refine ⟨u,r,?_⟩;rcases l with l | ⟨k,c,e,z⟩
  ·exact .inl l
  ·exact .inr ⟨k,c,e,cellK x c e _ z⟩
 ·obtain ⟨v,z⟩:=I.cell x c e;exact ⟨v,cellK x c e v z⟩
 ·obtain ⟨m,⟨o,_,_,ho,_⟩,_⟩:=I.loc;exact free _ o (λz=>(hch _ z).2.1 rfl) ho I.free
 ·obtain ⟨v,o,ho,hd⟩:=I.cell x c e;exact free c o (λz=>(hch c z).2.2.1 x c e rfl) ho (I.freeC x c e)
 ·obtain ⟨e,n,ne,nf,d⟩:=I.pin p hp;have nch:p.1∉ch:=λz=>(hch p.1 z).2.2.2 p hp rfl
  exact ⟨keep p.1 p.2 ne nf nch e n,free p.1 p.2 nch e n,ne,nf,d⟩
theorem Inv.un {t':Nat} (I:Inv X pins σ H s) (u:Un X.fs [] H H' s.heap h') (hok:HOk X.prog X.w H' h'):Inv X pins σ H' { s with heap:=h',toks:=t' }:=by
 obtain ⟨m,⟨o,es,ep,ho,r⟩,_⟩:=id I.loc;obtain ⟨sl,hL⟩:=u.any ho I.free (by simp)
 exact I.step (g' := s.gens) (d' := s.drawn) (ch := []) (λ_ z => nomatch z) (λb o _ hb _ e n => u.keep b o e n hb (by simp)) (λb o _ hb _ e n => u.slot b o e n hb (by simp)) (λb o _ e n => u.free b o e n (by simp)) (λb o _ e => u.there b o e (by simp)) u.tups u.frzs u.tbls (λm' hm => by
  obtain ⟨o',es',ep',ho',r'⟩:=hm;rw [ho] at ho';cases ho'
  exact ⟨_,es',ep',hL,r'⟩) hok I.bare
theorem Inv.call {g':Array GenState} {t':Nat} {d':Drawn} {ch:List Addr} (I:Inv X pins σ H s) (u:Un (frs X.stack) ch H H' s.heap h') (hok:HOk X.prog X.w H' h') (hg:AllBare g')
  (hch:∀ b∈ch,(b∈X.ex\/X.s₀.heap.get? b=none)/\b≠X.env.locals/\(∀ x c,X.env.cells.lookup x=some c->c≠b)/\∀ p∈X.pn++pins,p.1≠b) :
  Inv X pins σ H' { s with heap:=h',gens:=g',drawn:=d',toks:=t' }:=by
 obtain ⟨m,⟨o,es,ep,ho,r⟩,_⟩:=id I.loc;obtain ⟨sl,hL⟩:=u.any ho I.free λz=>(hch _ z).2.1 rfl
 exact I.step (ch:=ch) hch (λb o hL hb hc e n=>u.keep b o e n (λz=>(wy.mp (I.stkSub b z)).elim hL hb) hc) (λb o _ _ hc e n=>u.any e n hc) (λb o hc e n=>u.free b o e n hc) (λb o hc e=>u.there b o e hc) u.tups u.frzs u.tbls (λm' hm=>by
  obtain ⟨o',es',ep',ho',r'⟩:=hm;rw [ho] at ho';cases ho'
  exact ⟨_,es',ep',hL,r'⟩) hok hg
theorem Inv.turned {t':Nat} {it:Addr} (I:Inv X pins σ H s) (k:∀ b o,b≠it->s.heap.get? b=some o->h'.get? b=some o) (hn:H it=none) (hL:it≠X.env.locals)
  (h1:it∈X.ex\/X.s₀.heap.get? it=none) (h2:∀ x c,X.env.cells.lookup x=some c->c≠it) (h3:∀ p∈X.pn++pins,p.1≠it):Inv X pins σ H { s with heap:=h',toks:=t' }:=by
 have nit:∀ b u,H b=some u->b≠it:=λb u e z=>by rw [z,hn] at e;cases e
 refine I.step (g' := s.gens) (d' := s.drawn) (ch := [it]) (λb hb => ?_) (λb o _ _ hc e _ => k b o (λz => hc (by simp [z])) e) (λb o _ _ hc e _ => ⟨o.slots, k b o (λz => hc (by simp [z])) e⟩) (λ_ _ _ _ n => n)
  (λb o hc e=>⟨o,k b o (λz=>hc (by simp [z])) e⟩) (λ_ _ e=>e) (λ_ _ _ e=>e) (λb ps e=>⟨#[],by rw [e];simp⟩) (λm hm=>?_) (λb u e=>?_) I.bare
 ·have e:b=it:=by simpa using hb
  subst e;exact ⟨h1,hL,h2,h3⟩
 ·obtain ⟨o,es,ep,ho,r⟩:=hm;exact ⟨o,es,ep,k _ o (Ne.symm hL) ho,r⟩
 ·refine (I.hok b u e).stay (λc v hc q=>k c v ?_ q) (λ_ q=>q) λ_ _ q=>q
  rcases hc with z | z
  ·rw [z];exact nit b u e
  ·exact nit c _ z
theorem Inv.tok (I:Inv X pins σ H s) (t:Nat):Inv X pins σ H { s with toks:=t }:=I.un (h':=s.heap) (t':=t) Un.refl I.hok
theorem Inv.kept {t':Nat} (I:Inv X pins σ H s) (k:∀ b u,s.heap.get? b=some u->h'.get? b=some u):Inv X pins σ H { s with heap:=h',toks:=t' }:=I.un (Un.kept k) (I.hok.kept k)
theorem Inv.laid {a:Addr} {o:HO} {t':Nat} (I:Inv X pins σ H s) (k:∀ b u,s.heap.get? b=some u->h'.get? b=some u) (hp:s.heap.objs.size<=a) (new:ObjOk X.prog X.w (upd H a o) h' a o) :
 Inv X pins σ (upd H a o) { s with heap:=h',toks:=t' }:=I.un (Un.laid k hp (I.hok.fresh hp)) (I.hok.laid k hp new)
theorem Inv.write {x e:Addr} {o:HO} {t':Nat} (I:Inv X pins σ H s) (mu:Mut (H x)) (he:e=x\/H e=some (.own x)) (k:∀ b u,b≠e->s.heap.get? b=some u->h'.get? b=some u) (heo:∃ u,h'.get? e=some u)
 (new:ObjOk X.prog X.w (upd H x o) h' x o):Inv X pins σ (upd H x o) { s with heap:=h',toks:=t' }:=I.un (Un.write mu he k heo) (I.hok.write mu he k heo new)
theorem Inv.pins_of {pins':List (Addr×Obj)} (I:Inv X pins σ H s) (h:∀ p∈pins',s.heap.get? p.1=some p.2/\H p.1=none/\p.1≠X.env.locals/\p.1∉X.fs/\∀ v,p.2.data≠.cell v):Inv X pins' σ H s :=
 ⟨I.ok,I.os,I.bare,I.base,I.loc,I.cell,I.free,I.freeC,λp hp=>(List.mem_append.mp hp).elim (λz=>I.pin p (List.mem_append_left _ z)) (h p),I.hok,I.len⟩
theorem zbz {N:List Str} (hN:N.Nodup) {i j:Nat} {x:Str} (a:N[i]?=some x) (b:N[j]?=some x):i=j:=by
 obtain ⟨h1,e1⟩:=wu.mp a;obtain ⟨h2,e2⟩:=wu.mp b;exact (List.getElem_inj hN).mp (e1.trans e2.symm)
theorem ya9 {M:Model} {A:Around} {E:Value->Shared->Prop} {i:Nat} {x:Str} {v:V} {u:Value} {Q:Unit->Shared->Prop} (I:Inv X pins σ H s) (hN:X.N.Nodup) (hi:X.N[i]?=some x) (hx:Loc X.env.scope x) (r:RelV v u)
  (h:∀ s',Inv X pins (σ.set i (some v)) H s'->(∃ a,Heap.SameBut a s.heap s'.heap/\(a=X.env.locals\/X.env.cells.lookup x=some a))->Q () s') (hf:X.fn x=true\/X.env.scope.names.lookup x=some .local:=by first | exact .inl rfl | exact .inr rfl | assumption):wpAny M A (storeName X.env x u) Q E s:=by
 obtain ⟨m,hn,hl⟩:=id I.loc;have hcls:(X.env.scope.kind==.class||(X.env.scope.kind==.module&&X.env.locals != X.env.globals))=false:=by rw [I.ok.kind];rfl
 have hiσ:i<σ.length:=by rw [I.len];exact (wu.mp hi).1
 have cne:=I.cne
 have tracked:∀ {a:Addr} {h':Heap},(∃ o,s.heap.get? a=some o/\H a=none)->Heap.SameBut a s.heap h'->HOk X.prog X.w H h':=λ{a h'} ha hs b ob e=>by
  obtain ⟨_,_,hfree⟩:=ha;refine (I.hok b ob e).stay (λc w' hc q=>(hs.2 c ?_).trans q) (λ_ q=>q) λ_ _ q=>q
  rintro rfl;rcases hc with rfl | hc
  ·rw [hfree] at e;cases e
  ·rw [hfree] at hc;cases hc
 rcases hx with hk | hk
 ·refine wpAny_storeName_local hk hn (λh' hn' hs=>?_) hcls;obtain ⟨oL,_,_,hoL,_⟩:=id hn;refine h _ ⟨I.ok,I.os,I.bare,⟨λb o e n hb hx=>?_,λb o e n hb hx=>?_,I.base.free,λb o e hx=>?_,I.base.tups,I.base.frzs,I.base.tbls⟩,⟨_,hn',λj y v' e1 e2 e3=>?_⟩,λy c e=>?_,I.free,I.freeC,λp hp=>?_,tracked ⟨oL,hoL,I.free⟩ hs,by simpa using I.len⟩ ⟨_,hs,.inl rfl⟩
  ·exact (hs.2 b (wQ (wO (wA e) I.ok.above))).trans (I.base.keep b o e n hb hx)
  ·obtain ⟨sl,e1⟩:=I.base.slot b o e n hb hx;exact ⟨sl,(hs.2 b (wQ (wO (wA e) I.ok.above))).trans e1⟩
  ·obtain ⟨o',e1⟩:=I.base.there b o e hx;exact ⟨o',(hs.2 b (wQ (wO (wA e) I.ok.above))).trans e1⟩
  ·by_cases hj:j=i
   ·subst hj;rw [hi] at e1;cases e1
    rw [vt hiσ] at e2;cases e2;exact ⟨u,r,.inl ⟨hk,by simp⟩⟩
   ·rw [wH (Ne.symm hj)] at e2;obtain ⟨u',r',q⟩:=hl j y v' e1 e2 e3;refine ⟨u',r',?_⟩;rcases q with ⟨k,e⟩ | ⟨k,c,e,z⟩
    ·refine .inl ⟨k,?_⟩
     have:y≠x:=λe=>hj (zbz hN e1 (e▸hi))
     simp [this,e]
    ·exact .inr ⟨k,c,e,z.sameBut hs (cne y c e)⟩
  ·obtain ⟨w',z⟩:=I.cell y c e;exact ⟨w',z.sameBut hs (cne y c e)⟩
  ·obtain ⟨e,n,ne,nf,d⟩:=I.pin p hp;exact ⟨(hs.2 p.1 ne).trans e,n,ne,nf,d⟩
 ·have hfn:X.fn x=true:=by
   rcases hf with z | z
   ·exact z
   ·rw [z] at hk;cases hk
  obtain ⟨c,hc⟩:=I.ok.has x (.inl hk);obtain ⟨w',z⟩:=I.cell x c hc;refine wpAny_storeName_cell I.ok.kind hk hc z (λh' hc' hs=>?_);obtain ⟨oc,hoc,hocd⟩:=id z;refine h { s with heap:=h' } ⟨I.ok,I.os,I.bare,⟨λb o e n hb hx=>?_,λb o e n hb hx=>?_,I.base.free,λb o e hx=>?_,I.base.tups,I.base.frzs,I.base.tbls⟩,⟨m,hn.sameBut hs (Ne.symm (cne x c hc)),λj y v' e1 e2 e3=>?_⟩,λy c' e=>?_,I.free,I.freeC,λp hp=>?_,tracked ⟨oc,hoc,I.freeC x c hc⟩ hs,by simpa using I.len⟩ ⟨c,hs,.inr hc⟩
  ·exact (hs.2 b (wQ (wO (wA e) (I.ok.cab x c hfn hc)))).trans (I.base.keep b o e n hb hx)
  ·obtain ⟨sl,e1⟩:=I.base.slot b o e n hb hx;exact ⟨sl,(hs.2 b (wQ (wO (wA e) (I.ok.cab x c hfn hc)))).trans e1⟩
  ·obtain ⟨o',e1⟩:=I.base.there b o e hx;exact ⟨o',(hs.2 b (wQ (wO (wA e) (I.ok.cab x c hfn hc)))).trans e1⟩
  ·by_cases hj:j=i
   ·subst hj;rw [hi] at e1;cases e1
    rw [vt hiσ] at e2;cases e2;exact ⟨u,r,.inr ⟨.inl hk,c,hc,hc'⟩⟩
   ·rw [wH (Ne.symm hj)] at e2;obtain ⟨u',r',q⟩:=hl j y v' e1 e2 e3;refine ⟨u',r',?_⟩;rcases q with q | ⟨k,c',e,z'⟩
    ·exact .inl q
    ·refine .inr ⟨k,c',e,z'.sameBut hs ?_⟩;rintro rfl;exact hj (zbz hN e1 (I.ok.inj _ _ _ e hc▸hi))
  ·by_cases hcc:c'=c
   ·subst hcc;exact ⟨_,hc'⟩
   ·obtain ⟨w2,z2⟩:=I.cell y c' e;exact ⟨w2,z2.sameBut hs hcc⟩
  ·obtain ⟨e,n,ne,nf,d⟩:=I.pin p hp;refine ⟨(hs.2 p.1 ?_).trans e,n,ne,nf,d⟩;intro q;rw [q,hoc] at e;have q':oc=p.2:=wC e;exact d w' (by rw [<-q'];exact hocd)
theorem qaz {M:Model} {A:Around} {E:Value->Shared->Prop} {i:Nat} {x:Str} {v:V} {u:Value} {Q:Unit->Shared->Prop} (I:Inv X pins σ H s) (hN:X.N.Nodup) (hi:X.N[i]?=some x) (hx:Loc X.env.scope x) (r:RelV v u)
  (h:∀ s',Inv X pins (σ.set i (some v)) H s'->Q () s') (hf:X.fn x=true\/X.env.scope.names.lookup x=some .local:=by first | exact .inl rfl | exact .inr rfl | assumption):wpAny M A (storeName X.env x u) Q E s :=
 ya9 I hN hi hx r (λs' I' _=>h s' I') hf
theorem Inv.call' {s':Shared} {ch:List Addr} (I:Inv X pins σ H s) (ho:s'.os=s.os) (u:Un (frs X.stack) ch H H' s.heap s'.heap) (hok:HOk X.prog X.w H' s'.heap) (hg:AllBare s'.gens)
  (hch:∀ b∈ch,(b∈X.ex\/X.s₀.heap.get? b=none)/\b≠X.env.locals/\(∀ x c,X.env.cells.lookup x=some c->c≠b)/\∀ p∈X.pn++pins,p.1≠b):Inv X pins σ H' s':=by
 obtain ⟨h',g',d',t',o'⟩:=s';have e:o'=s.os:=ho;subst e;exact I.call (g':=g') (t':=t') (d':=d') u hok hg hch
end
abbrev XK:=Value->Option Addr->Hp->Prop
noncomputable abbrev St:=List (Option V)
abbrev VK:=V->Hp->Prop
abbrev TE:=St->Hp->VK->Prop
abbrev TT:=St->Hp->(Bool->Hp->Prop)->Prop
abbrev TA:=St->Hp->(List V->Hp->Prop)->Prop
structure Ends where
 nx:St->Hp->Prop
 rt:VK
 bk:St->Hp->Prop:=λ_ _=>False
 ct:St->Hp->Prop:=λ_ _=>False
abbrev TS:=Ends->St->Hp->Prop
def EP (X:Cx) (pins:List (Addr×Obj)) (σ:St) (Q:VK) (u:Value) (s':Shared):Prop:=∃ v H',Inv X pins σ H' s'/\RelV v u/\Q v H'
def TP (X:Cx) (pins:List (Addr×Obj)) (σ:St) (Q:Bool->Hp->Prop) (b:Bool) (s':Shared):Prop:=∃ H',Inv X pins σ H' s'/\Q b H'
def AP (X:Cx) (pins:List (Addr×Obj)) (σ:St) (Q:List V->Hp->Prop) (us:List Value) (s':Shared):Prop:=∃ vs H',Inv X pins σ H' s'/\Vals vs us/\Q vs H'
def SP (X:Cx) (pins:List (Addr×Obj)) (D:Ends) (f:Flow) (s':Shared):Prop :=
 match f with
 | .next=>∃ σ' H',Inv X pins σ' H' s'/\D.nx σ' H'
 | .brk=>∃ σ' H',Inv X pins σ' H' s'/\D.bk σ' H'
 | .cont=>∃ σ' H',Inv X pins σ' H' s'/\D.ct σ' H'
 | .ret u=>∃ v σ' H',Inv X pins σ' H' s'/\RelV v u/\D.rt v H'
def PE (X:Cx) (e:Expr) (t:TE):Prop :=
 ∀ (pins:List (Addr×Obj)) (s:Shared) (σ:St) (H:Hp) (Q:VK),Inv X pins σ H s->t σ H Q->wpAny (model X.prog X.w) X.A (eval e X.env) (EP X pins σ Q) X.xe s
def PT (X:Cx) (e:Expr) (t:TT):Prop :=
 ∀ (pins:List (Addr×Obj)) (s:Shared) (σ:St) (H:Hp) (Q:Bool->Hp->Prop),Inv X pins σ H s->t σ H Q->wpAny (model X.prog X.w) X.A (isTrue e X.env (eval e X.env)) (TP X pins σ Q) X.xe s
def PW (X:Cx) (e:Expr) (t:TT):Prop :=
 ∀ (whole:Sem Value) (pins:List (Addr×Obj)) (s:Shared) (σ:St) (H:Hp) (Q:Bool->Hp->Prop),Inv X pins σ H s->t σ H Q->wpAny (model X.prog X.w) X.A (isTrue e X.env whole) (TP X pins σ Q) X.xe s
theorem PW.pt {X:Cx} {e:Expr} {t:TT} (h:PW X e t):PT X e t:=h _
def PA (X:Cx) (es:List Expr) (t:TA):Prop :=
 ∀ (pos:Pos) (pins:List (Addr×Obj)) (s:Shared) (σ:St) (H:Hp) (Q:List V->Hp->Prop),Inv X pins σ H s->t σ H Q->wpAny (model X.prog X.w) X.A (spliced (backTo pos (starEach es X.env))) (AP X pins σ Q) X.xe s
def PS (X:Cx) (st:Stmt) (t:TS):Prop :=
 ∀ (pins:List (Addr×Obj)) (s:Shared) (σ:St) (H:Hp) (D:Ends),Inv X pins σ H s->t D σ H->wpAny (model X.prog X.w) X.A (exec st X.env) (SP X pins D) X.xe s
def PSs (X:Cx) (st:List Stmt) (t:TS):Prop :=
 ∀ (pins:List (Addr×Obj)) (s:Shared) (σ:St) (H:Hp) (D:Ends),Inv X pins σ H s->t D σ H->wpAny (model X.prog X.w) X.A (execs st X.env) (SP X pins D) X.xe s
theorem thn {α:Type} {t:Sem α} {Q Q':α->Shared->Prop} {M:Model} {A:Around} {E:Value->Shared->Prop} {s:Shared} (h:wpAny M A t Q E s) (hQ:∀ a s,Q a s->Q' a s):wpAny M A t Q' E s:=wpAny_mono h hQ λ_ _ x=>x
section
variable {X:Cx}
theorem bin {a b:Expr} {ta tb:TE} (ha:PE X a ta) (hb:PE X b tb) {pins:List (Addr×Obj)} {s:Shared} {σ:St} {H:Hp} {R:V->V->Hp->Prop} (I:Inv X pins σ H s) (h:ta σ H λx H1=>tb σ H1 λy H2=>R x y H2)
  {α:Type} {Q:α->Shared->Prop} {f:Value->Value->Sem α}
  (hf:∀ v u s2 x y H2,Inv X pins σ H2 s2->RelV x v->RelV y u->R x y H2->wpAny (model X.prog X.w) X.A (f v u) Q X.xe s2) :
  wpAny (model X.prog X.w) X.A (eval a X.env) (λv s₁=>wpAny (model X.prog X.w) X.A (eval b X.env) (λu s₂=>wpAny (model X.prog X.w) X.A (f v u) Q X.xe s₂) X.xe s₁) X.xe s:=by
 refine thn (ha pins s σ H _ I h) λv s1 ⟨x,H1,I1,r1,q1⟩=>?_
 refine thn (hb pins s1 σ H1 _ I1 q1) λu s2 ⟨y,H2,I2,r2,q2⟩=>?_
 exact hf v u s2 x y H2 I2 r1 r2 q2
def jeg (i:Nat):TE:=λσ H Q=>∃ v,σ[i]?=some (some v)/\Q v H
def tC (v:V):TE:=λ_ H Q=>Q v H
theorem yaQ {i : Nat} {x : Str} {pos : Pos} (hN : X.N[i]? = some x) (hv : Vis X.env.scope x) (hd : (x == ("__debug__" : Str)) = false := by decide) (hcd : (x == ("__classdict__" : Str)) = false := by decide) : PE X (.Name x pos) (jeg i) := by
 intro pins s σ H Q I h;obtain ⟨v,e,h⟩:=h;obtain ⟨m,hn,hl⟩:=I.loc;obtain ⟨u,r,l⟩:=hl i x v hN e hv;have fin:EP X pins σ Q u s:=⟨v,H,I,r,h⟩;rcases l with ⟨hk,hm⟩ | ⟨hk,c,hc,hcell⟩
 ·exact wpAny_Name (wpAny_loadName_local I.ok.kind hk hn hm fin) hd
 ·rcases hk with hk | hk
  ·exact wpAny_Name (wpAny_loadName_cell I.ok.kind hk hc hcell fin) hd
  ·exact wpAny_Name (wpAny_loadName_free I.ok.kind hk hc hcell fin hcd) hd
theorem jcI {i j pos}:PE X (.Constant (.int i) j pos) (tC (.int i)):=λ_ _ _ H _ I h=>wpAny_Constant_int ⟨.int i,H,I.tok _,⟨_,rfl⟩,h⟩
theorem ydX {b j pos}:PE X (.Constant (.bool b) j pos) (tC (.bl b)):=λ_ _ _ H _ I h=>Constant_bool ⟨.bl b,H,I,rfl,h⟩
theorem zcJ {j pos}:PE X (.Constant .none j pos) (tC .non):=λ_ _ _ H _ I h=>Constant_none ⟨.non,H,I,rfl,h⟩
theorem qcJ {x j pos}:PE X (.Constant (.str x) j pos) (tC (.str x)):=λ_ _ _ H _ I h=>Calls.Constant_str ⟨.str x,H,I.tok _,⟨_,rfl⟩,h⟩
def Gl (X:Cx) (x:Str):Prop:=X.env.kindOf x=some .globalImplicit
theorem qaq {E:Value->Shared->Prop} {pins:List (Addr×Obj)} {s:Shared} {σ:St} {H:Hp} {x:Str} {u:Value} {pos:Pos} {Q:Value->Shared->Prop} (I:Inv X pins σ H s) (hg:Gl X x) (hm:X.mg x=some u) (h:Q u s)
  (hd:(x==("__debug__":Str))=false:=by decide):wpAny (model X.prog X.w) X.A (eval (.Name x pos) X.env) Q E s :=
 Calls.Name_function_global I.ok.kind hg (Calls.loadGlobal_global (by rw [I.ok.glob];exact I.mod.glob.keeps I.bk) hm h) hd
theorem qaB {E:Value->Shared->Prop} {pins:List (Addr×Obj)} {s:Shared} {σ:St} {H:Hp} {x:Str} {u:Value} {pos:Pos} {Q:Value->Shared->Prop} (I:Inv X pins σ H s) (hg:Gl X x) (hm:X.mg x=none) (hv:bootBuiltins x=some u) (h:Q u s)
  (hn:x≠"__name__":=by decide) (hd:(x==("__debug__":Str))=false:=by decide):wpAny (model X.prog X.w) X.A (eval (.Name x pos) X.env) Q E s:=by
 obtain ⟨mb,h1,h2⟩:=I.mod.blt;exact Calls.Name_function_global I.ok.kind hg (Calls.loadGlobal_builtin (by rw [I.ok.glob];exact I.mod.glob.keeps I.bk) hm (by rw [I.ok.blt];exact h1.keeps I.bk) ((h2 x hn).trans hv) h) hd
theorem ycS {x : Str} {v : V} {u : Value} {pos : Pos} (hg : Gl X x) (hm : X.mg x = some u) (r : RelV v u) (hd : (x == ("__debug__" : Str)) = false := by decide) : PE X (.Name x pos) (tC v) :=
 λ_ _ _ H _ I h=>qaq I hg hm ⟨v,H,I,r,h⟩ hd
variable {a b:Expr} {ta tb:TE} {pos:Pos}
variable {tA tB':TT} {rest:List Expr}
def yem (t u:TT):TT:=λσ H Q=>t σ H λc H1=>if c=true then u σ H1 Q else Q false H1
def tOr (t u:TT):TT:=λσ H Q=>t σ H λc H1=>if c=true then Q true H1 else u σ H1 Q
def jem (t:TT):TT:=λσ H Q=>t σ H λc H1=>Q (!c) H1
theorem jcS (ha:PT X a tA):PW X (.BoolOp .And [a] pos) tA:=by
 intro wh pins s σ H Q I h;refine isTrue_and (thn (ha pins s σ H Q I h) λc s1 e=>?_);cases c with
 | true=>exact isTrue_and_nil e
 | false=>exact e
theorem zdn (ha:PT X a tA):PW X (.BoolOp .Or [a] pos) tA:=by
 intro wh pins s σ H Q I h;refine isTrue_or (thn (ha pins s σ H Q I h) λc s1 e=>?_);cases c with
 | false=>exact isTrue_or_nil e
 | true=>exact e
theorem ycJ (ha:PT X a tA) (hb:PW X (.BoolOp .And (b::rest) pos) tB'):PW X (.BoolOp .And (a::b::rest) pos) (yem tA tB'):=by
 intro wh pins s σ H Q I h;refine isTrue_and (thn (ha pins s σ H _ I h) λc s1 ⟨H1,I1,q1⟩=>?_);cases c with
 | true=>exact hb wh pins s1 σ H1 Q I1 q1
 | false=>exact ⟨H1,I1,q1⟩
theorem qdn (ha:PT X a tA) (hb:PW X (.BoolOp .Or (b::rest) pos) tB'):PW X (.BoolOp .Or (a::b::rest) pos) (tOr tA tB'):=by
 intro wh pins s σ H Q I h;refine isTrue_or (thn (ha pins s σ H _ I h) λc s1 ⟨H1,I1,q1⟩=>?_);cases c with
 | true=>exact ⟨H1,I1,q1⟩
 | false=>exact hb wh pins s1 σ H1 Q I1 q1
theorem ydn (ha:PT X a tA):PT X (.UnaryOp .Not a pos) (jem tA):=by
 intro pins s σ H Q I h;exact isTrue_not (ha pins s σ H (λc H1=>Q (!c) H1) I h)
def jdX (ta tb:TE):TE:=λσ H Q=>ta σ H λx H1=>∃ c,x=.bl c/\if c=true then tb σ H1 Q else Q (.bl false) H1
def zen (ta tb:TE):TE:=λσ H Q=>ta σ H λx H1=>∃ c,x=.bl c/\if c=true then Q (.bl true) H1 else tb σ H1 Q
theorem jcJ {op} {t:TE} (h:PE X a t):PE X (.BoolOp op [a] pos) t:=λpins s σ H Q I hw=>BoolOp_one (h pins s σ H Q I hw)
theorem ybX (ha:PE X a ta) (hb:PE X (.BoolOp .And (b::rest) pos) tb):PE X (.BoolOp .And (a::b::rest) pos) (jdX ta tb):=by
 intro pins s σ H Q I h;refine BoolOp_and (thn (ha pins s σ H _ I h) λv s1 ⟨x,H1,I1,r1,q1⟩=>?_);obtain ⟨c,rfl,q1⟩:=q1;cases r1;refine wpAny_truthy_bool ?_;cases c with
 | true=>exact hb pins s1 σ H1 Q I1 q1
 | false=>exact ⟨.bl false,H1,I1,rfl,q1⟩
theorem jdn (ha:PE X a ta) (hb:PE X (.BoolOp .Or (b::rest) pos) tb):PE X (.BoolOp .Or (a::b::rest) pos) (zen ta tb):=by
 intro pins s σ H Q I h;refine BoolOp_or (thn (ha pins s σ H _ I h) λv s1 ⟨x,H1,I1,r1,q1⟩=>?_);obtain ⟨c,rfl,q1⟩:=q1;cases r1;refine wpAny_truthy_bool ?_;cases c with
 | false=>exact hb pins s1 σ H1 Q I1 q1
 | true=>exact ⟨.bl true,H1,I1,rfl,q1⟩
end
def SqL (K:Frag) (H:Hp) (a:Addr) (xs:List V):Prop :=
 Rd H a (.lst xs) \/
  ∃ (o:Obj) (its:Array Value) (n:Nat),K.lookup a=some o/\o.cls=.type "list"/\o.dict=none/\o.data=.seq its n/\its.size<=sizeLine/\Vals xs its.toList
def SqT (K:Frag) (H:Hp) (a:Addr) (xs:List V):Prop :=
 Rd H a (.tup xs) \/
  ∃ (o:Obj) (its:Array Value) (n:Nat),K.lookup a=some o/\o.cls=.type "tuple"/\o.data=.seq its n/\its.size<=sizeLine/\Vals xs its.toList
noncomputable def qen:Value->Option V
 | .none=>some .non
 | .bool b=>some (.bl b)
 | .int i _=>some (.int i)
 | .str x _=>some (.str x)
 | .bytes b _=>some (.byt b)
 | .float b _=>some (.flt b)
 | .ref a=>some (.ref a)
 | .type n=>some (.ty n)
 | _=>none
theorem RelV.abs {x:V} {u:Value} (r:RelV x u):qen u=some x:=by
 cases x with
 | non=>cases r;rfl
 | bl _=>cases r;rfl
 | int _=>obtain ⟨t,rfl⟩:=r;rfl
 | str _=>obtain ⟨t,rfl⟩:=r;rfl
 | byt _=>obtain ⟨t,rfl⟩:=r;rfl
 | flt _=>obtain ⟨t,rfl⟩:=r;rfl
 | ref _=>cases r;rfl
 | ty _=>cases r;rfl
theorem RelV.inj {x y:V} {u:Value} (r:RelV x u) (q:RelV y u):x=y:=wC (r.abs.symm.trans q.abs)
theorem Vals.inj:∀ {xs ys:List V} {us:List Value},Vals xs us->Vals ys us->xs=ys
 | _,_,_,.nil,.nil=>rfl
 | _,_,_,.cons r t,.cons r' t'=>by rw [r.inj r',Vals.inj t t']
section
variable {X:Cx} {pins:List (Addr×Obj)} {σ:St} {H:Hp} {s:Shared} {a:Addr} {xs ys:List V}
theorem SqL.of {K:Frag} (h:H a=some (.lst xs)):SqL K H a xs:=.inl (.inl h)
theorem SqT.of {K:Frag} (h:H a=some (.tup xs)):SqT K H a xs:=.inl (.inl h)
theorem Inv.list (I:Inv X pins σ H s) (h:SqL X.K H a xs):∃ its:List Value,Vals xs its/\PlainL s.heap a its.toArray/\xs.length<=sizeLine:=by
 rcases h with h | ⟨o,its,n,hk,hc,hd,hs,hz,r⟩
 ·obtain ⟨z,its,n,r,e⟩:=h.ok I.hok;exact ⟨its,r,⟨_,n,e,rfl,rfl,rfl⟩,z⟩
 ·refine ⟨its.toList,r,⟨o,n,I.kIn a o hk,hc,hd,by simpa using hs⟩,?_⟩;have e:=r.length;simp only [Array.length_toList] at e;omega
theorem Inv.tuple (I:Inv X pins σ H s) (h:SqT X.K H a xs):∃ its:List Value,Vals xs its/\IsTup s.heap a its.toArray/\xs.length<=sizeLine:=by
 rcases h with h | ⟨o,its,n,hk,hc,hs,hz,r⟩
 ·obtain ⟨z,its,r,p⟩:=h.ok I.hok;exact ⟨its,r,p.tup,z⟩
 ·refine ⟨its.toList,r,⟨o,I.kIn a o hk,hc,n,by simpa using hs⟩,?_⟩;have e:=r.length;simp only [Array.length_toList] at e;omega
theorem Inv.list_inj (I:Inv X pins σ H s) (h:SqL X.K H a xs) (h':SqL X.K H a ys):xs=ys:=by
 obtain ⟨its,r,⟨o,n,e,_,_,d⟩,_⟩:=I.list h;obtain ⟨its',r',⟨o',n',e',_,_,d'⟩,_⟩:=I.list h';rw [e] at e';cases e'
 rw [d] at d';injection d' with d1 _
 have:its=its':=by simpa using congrArg Array.toList d1
 subst this;exact r.inj r'
theorem Inv.tuple_inj (I:Inv X pins σ H s) (h:SqT X.K H a xs) (h':SqT X.K H a ys):xs=ys:=by
 obtain ⟨its,r,⟨o,e,_,n,d⟩,_⟩:=I.tuple h;obtain ⟨its',r',⟨o',e',_,n',d'⟩,_⟩:=I.tuple h';rw [e] at e';cases e'
 rw [d] at d';injection d' with d1 _
 have:its=its':=by simpa using congrArg Array.toList d1
 subst this;exact r.inj r'
end
noncomputable abbrev Cx.wish (X:Cx) (E:Value->Shared->Prop):Cx:={ X with xe:=E }
noncomputable abbrev Cx.nox (X:Cx):Cx:=X.wish λ_ _=>False
theorem Cx.Ok.wish {X:Cx} (ok:X.Ok) (E:Value->Shared->Prop):(X.wish E).Ok :=
 ⟨ok.mod,ok.kind,ok.glob,ok.blt,ok.above,ok.inj,ok.has,ok.cab,ok.hd,ok.frames,ok.stk,ok.exf,ok.bs,ok.bsz,ok.noex,ok.exfs,ok.funs,ok.frf⟩
theorem Cx.Ok.unwish {X:Cx} {E:Value->Shared->Prop} (ok:(X.wish E).Ok):X.Ok :=
 ⟨ok.mod,ok.kind,ok.glob,ok.blt,ok.above,ok.inj,ok.has,ok.cab,ok.hd,ok.frames,ok.stk,ok.exf,ok.bs,ok.bsz,ok.noex,ok.exfs,ok.funs,ok.frf⟩
section
variable {X:Cx} {pins:List (Addr×Obj)} {σ:St} {H:Hp} {s:Shared} {E:Value->Shared->Prop}
theorem Inv.wish (I:Inv X pins σ H s) (E:Value->Shared->Prop):Inv (X.wish E) pins σ H s:=⟨I.ok.wish E,I.os,I.bare,I.base,I.loc,I.cell,I.free,I.freeC,I.pin,I.hok,I.len⟩
theorem Inv.unwish (I:Inv (X.wish E) pins σ H s):Inv X pins σ H s:=⟨I.ok.unwish,I.os,I.bare,I.base,I.loc,I.cell,I.free,I.freeC,I.pin,I.hok,I.len⟩
theorem SP.unwish {D:Ends} {f:Flow} {s':Shared} (h:SP (X.wish E) pins D f s'):SP X pins D f s':=by
 cases f with
 | next=>obtain ⟨σ',H',I,q⟩:=h;exact ⟨σ',H',I.unwish,q⟩
 | brk=>obtain ⟨σ',H',I,q⟩:=h;exact ⟨σ',H',I.unwish,q⟩
 | cont=>obtain ⟨σ',H',I,q⟩:=h;exact ⟨σ',H',I.unwish,q⟩
 | ret u=>obtain ⟨v,σ',H',I,r,q⟩:=h;exact ⟨v,σ',H',I.unwish,r,q⟩
theorem PT.nox {e:Expr} {t:TT} (h:PT X.nox e t):PT X e t:=λpins s σ H Q I hw =>
 wpAny_mono (h pins s σ H Q (I.wish _) hw) (λ_ _ ⟨H',I',q⟩=>⟨H',I'.unwish,q⟩) λ_ _ z=>False.elim z
theorem PSs.nox {st:List Stmt} {t:TS} (h:PSs X.nox st t):PSs X st t:=λpins s σ H D I hw =>
 wpAny_mono (h pins s σ H D (I.wish _) hw) (λ_ _ q=>q.unwish) λ_ _ z=>False.elim z
end
section
variable {X:Cx} {st:Stmt} {rest:List Stmt} {t u:TS} {e:Expr} {te:TE} {pos:Pos}
def tNext:TS:=λD σ H=>D.nx σ H
def yen (t u:TS):TS:=λD σ H=>t { D with nx:=u D } σ H
theorem pss_nil:PSs X [] tNext:=λ_ _ σ H _ I h=>wpAny_execs_nil ⟨σ,H,I,h⟩
theorem zal (h1:PS X st t) (h2:PSs X rest u):PSs X (st::rest) (yen t u):=by
 intro pins s σ H D I h;refine wpAny_execs_cons (thn (h1 pins s σ H { D with nx:=u D } I h) λf s1 q=>?_);cases f with
 | next =>
  obtain ⟨σ',H',I',q⟩:=q;exact h2 pins s1 σ' H' D I' q
 | ret v=>exact q
 | brk=>exact q
 | cont=>exact q
theorem jbX (h1:PS X st t):PSs X [st] t:=by
 intro pins s σ H D I h;refine wpAny_execs_cons (thn (h1 pins s σ H D I h) λf s1 q=>?_);cases f with
 | next=>exact wpAny_execs_nil q
 | ret v=>exact q
 | brk=>exact q
 | cont=>exact q
theorem ps_pass:PS X (.Pass pos) tNext:=λ_ _ σ H _ I h=>wpAny_Pass ⟨σ,H,I,h⟩
theorem Inv.quiet {pins:List (Addr×Obj)} {σ:St} {H:Hp} {s:Shared} (I:Inv X pins σ H s):interactive X.env=false:=by simp [interactive,I.ok.kind]
def zdY (te:TE):TS:=λD σ H=>te σ H λ_ H1=>D.nx σ H1
theorem zcT (he : PE X e te) (hs : swapsWith e none pos.line X.env = pure false := by rfl) : PS X (.Expr e pos) (zdY te) := by
 intro pins s σ H D I h;exact wpAny_Expr_any (thn (he pins s σ H _ I h) λv s1 ⟨x,H1,I1,r1,q1⟩=>⟨σ,H1,I1,q1⟩) I.quiet hs
def jen (te:TE):TS:=λD σ H=>te σ H D.rt
theorem zcK (he:PE X e te):PS X (.Return (some e) pos) (jen te):=by
 intro pins s σ H D I h;exact wpAny_Return_some (thn (he pins s σ H _ I h) λv s1 ⟨x,H1,I1,r1,q1⟩=>⟨x,σ,H1,I1,r1,q1⟩)
def tRetN:TS:=λD _ H=>D.rt .non H
theorem ps_retN:PS X (.Return none pos) tRetN:=λ_ _ σ H _ I h=>wpAny_Return_none ⟨.non,σ,H,I,rfl,h⟩
def zeo (c:TT) (t u:TS):TS:=λD σ H=>c σ H λb H1=>if b=true then t D σ H1 else u D σ H1
theorem qcq {c:Expr} {a b:List Stmt} {tc:TT} (hc:PT X c tc) (ha:PSs X a t) (hb:PSs X b u):PS X (.If c a b pos) (zeo tc t u):=by
 intro pins s σ H D I h;refine wpAny_If (thn (hc pins s σ H _ I h) λd s1 ⟨H1,I1,q1⟩=>?_);cases d with
 | true=>exact ha pins s1 σ H1 D I1 q1
 | false=>exact hb pins s1 σ H1 D I1 q1
end
abbrev TG:=V->St->Hp->(St->Hp->Prop)->Prop
abbrev TGs:=List V->St->Hp->(St->Hp->Prop)->Prop
def PG (X:Cx) (target:Expr) (t:TG):Prop :=
 ∀ (pins:List (Addr×Obj)) (s:Shared) (σ:St) (H:Hp) (v:V) (u:Value) (Q:St->Hp->Prop),Inv X pins σ H s->RelV v u->t v σ H Q ->
  wpAny (model X.prog X.w) X.A (assign target X.env u) (λ_ s'=>∃ σ' H',Inv X pins σ' H' s'/\Q σ' H') X.xe s
def PGs (X:Cx) (ts:List Expr) (t:TGs):Prop :=
 ∀ (pins:List (Addr×Obj)) (s:Shared) (σ:St) (H:Hp) (vs:List V) (us:List Value) (Q:St->Hp->Prop),Inv X pins σ H s->Vals vs us->t vs σ H Q ->
  wpAny (model X.prog X.w) X.A (assignInOrder ((assignEach ts X.env).map (·.2)) us) (λ_ s'=>∃ σ' H',Inv X pins σ' H' s'/\Q σ' H') X.xe s
abbrev qdY:=V->V->V->Hp->(Hp->Prop)->Prop
def zeh (X:Cx) (t:qdY):Prop :=
 ∀ (pins:List (Addr×Obj)) (s:Shared) (σ:St) (H:Hp) (o i v:V) (ov iv u:Value) (Q:Hp->Prop),Inv X pins σ H s->RelV o ov->RelV i iv->RelV v u->t o i v H Q ->
  wpAny (model X.prog X.w) X.A (setItem ov iv u) (λ_ s'=>∃ H',Inv X pins σ H' s'/\Q H') X.xe s
section
variable {X:Cx} {pos:Pos}
def zdo (i:Nat):TG:=λv σ H Q=>Q (σ.set i (some v)) H
theorem zbY {i : Nat} {x : Str} (hN : X.N.Nodup) (hi : X.N[i]? = some x) (hx : Loc X.env.scope x) (hf : X.fn x = true \/ X.env.scope.names.lookup x = some .local := by first | exact .inl rfl | exact .inr rfl | assumption) : PG X (.Name x pos) (zdo i) := by
 intro pins s σ H v u Q I r h;exact wpAny_assign_Name (qaz I hN hi hx r (λs' I'=>⟨_,H,I',h⟩) hf)
def gNil:TGs:=λvs σ H Q=>vs=[]/\Q σ H
def ydY (t:TG) (u:TGs):TGs:=λvs σ H Q=>∃ v r,vs=v::r/\t v σ H λσ' H'=>u r σ' H' Q
theorem qcT:PGs X [] gNil:=by
 intro pins s σ H vs us Q I r h;obtain ⟨e,h⟩:=h;subst e;cases r;exact assignInOrder_nil ⟨σ,H,I,h⟩
theorem ycq {e:Expr} {es:List Expr} {t:TG} {u:TGs} (h1:PG X e t) (h2:PGs X es u)
  (hs:(assignEach (e::es) X.env).map (·.2)=assign e X.env::(assignEach es X.env).map (·.2):=by rfl):PGs X (e::es) (ydY t u):=by
 intro pins s σ H vs us Q I r h;obtain ⟨v,vr,e1,h⟩:=h;subst e1;cases r with
 | cons r rr =>
  rw [hs];refine assignInOrder_cons (thn (h1 pins s σ H _ _ _ I r h) λ_ s1 ⟨σ1,H1,I1,q1⟩=>?_);exact h2 pins s1 σ1 H1 _ _ Q I1 rr q1
def qeo (K:Frag) (n:Nat) (t:TGs):TG:=λv σ H Q=>∃ a xs,v=.ref a/\SqT K H a xs/\xs.length=n/\t xs σ H Q
theorem qdo {es:List Expr} {k:Nat} {t:TGs} {n:Nat} (hc:X.calm=true) (h:PGs X es t)
  (hn:(assignEach es X.env).length=n:=by rfl) (hst:(assignEach es X.env).findIdx? (·.1)=none:=by rfl):PG X (.Tuple es k pos) (qeo X.K n t):=by
 intro pins s σ H v u Q I r hw;obtain ⟨a,xs,e1,hq,hl,hw⟩:=hw;subst e1;cases r;obtain ⟨its,rv,ht,hz⟩:=I.tuple hq;refine assign_Tuple_tuple (I.ok.hd hc) ht (by simp [hn,<-hl,rv.length]) hst λh' hx=>?_
 have I1:Inv X pins σ H { s with heap:=h' }:=I.kept (t':=s.toks) λb o e=>hx b o (wQ (wA e)) e
 exact h pins _ σ H xs _ Q I1 (by simpa using rv) hw
def yeo (to ti:TE) (t:qdY):TG:=λv σ H Q=>to σ H λo H1=>ti σ H1 λi H2=>t o i v H2 λH3=>Q σ H3
theorem ydo {o i:Expr} {to ti:TE} {t:qdY} (ho:PE X o to) (hi:PE X i ti) (hs:zeh X t)
  (ha : ∀ v, assign (.Subscript o i pos) X.env v = (do
   let ov <-holding [v] (eval o X.env)
   let iv <-holding [v,ov] (eval i X.env)
   standAt pos
   holding [v,ov,iv] (setItem ov iv v)
   release [v,ov,iv] []):=by intro _;rfl):PG X (.Subscript o i pos) (yeo to ti t):=by
 intro pins s σ H v u Q I r h;rw [ha];refine wg (wpAny_holding (thn (ho pins s σ H _ I h) λov s1 ⟨x,H1,I1,r1,q1⟩=>?_));refine wg (wpAny_holding (thn (hi pins s1 σ H1 _ I1 q1) λiv s2 ⟨y,H2,I2,r2,q2⟩=>?_));refine wg (wpAny_standAt (wg (wpAny_holding (thn (hs pins s2 σ H2 x y v ov iv u _ I2 r1 r2 r q2) λ_ s3 ⟨H3,I3,q3⟩=>?_))));exact wpAny_release ⟨σ,H3,I3,q3⟩
def jdo (te:TE) (g:TG):TS:=λD σ H=>te σ H λx H1=>g x σ H1 D.nx
theorem qcK {tg e : Expr} {te : TE} {g : TG} (he : PE X e te) (hg : PG X tg g) (hs : swapsWithSole [tg] e pos.line X.env = pure false := by rfl) (hw : swappedStores [tg] e X.env = pure none := by rfl)
  (h1:(assignEach [tg] X.env).map (·.2)=[assign tg X.env]:=by rfl):PS X (.Assign [tg] e pos) (jdo te g):=by
 intro pins s σ H D I h;refine wpAny_Assign_stores (thn (he pins s σ H _ I h) λv s1 ⟨x,H1,I1,r1,q1⟩=>?_) hs hw;rw [h1];exact thn (hg pins s1 σ H1 x v _ I1 r1 q1) λ_ s2 q=>q
theorem qbY {i : Nat} {x : Str} {e : Expr} {te : TE} {pos' : Pos} (hN : X.N.Nodup) (hi : X.N[i]? = some x) (hx : Loc X.env.scope x) (he : PE X e te) (hs : swapsWith e (some (.Name x pos')) pos.line X.env = pure false := by rfl) (hf : X.fn x = true \/ X.env.scope.names.lookup x = some .local := by first | exact .inl rfl | exact .inr rfl | assumption) :
  PS X (.Assign [.Name x pos'] e pos) (jdo te (zdo i)):=by
 intro pins s σ H D I h;refine wpAny_Assign_Name (thn (he pins s σ H _ I h) λv s1 ⟨y,H1,I1,r1,q1⟩=>?_) hs;exact qaz I1 hN hi hx r1 (λs2 I2=>⟨_,H1,I2,q1⟩) hf
end
structure It where
 go:Nat->Hp->Prop
 yld:Nat->Hp->V->Hp->Prop
 stop:Nat->Hp->Prop
def yaz (X:Cx) (pins:List (Addr×Obj)) (H:Hp) (b:Addr):Prop :=
 H b=none/\b≠X.env.locals/\b∉X.fs/\(b∈X.ex\/X.s₀.heap.get? b=none)/\(∀ x c,X.env.cells.lookup x=some c->c≠b)/\∀ p∈X.pn++pins,p.1≠b
theorem Inv.fpOk {X:Cx} {pins:List (Addr×Obj)} {σ:St} {H H':Hp} {s:Shared} {b:Addr} (I:Inv X pins σ H s) (hb:s.heap.objs.size<=b) (hn:H' b=none):yaz X pins H' b:=by
 refine ⟨hn,Nat.ne_of_gt (wO I.lt hb),I.nofs hb,.inr (Heap.get?_none_of_le (wU I.sz hb)),λx c e z=>?_,λp hp z=>?_⟩
 ·obtain ⟨v,q⟩:=I.cell x c e;exact absurd (wO q.lt (by rw [z];exact hb)) (Nat.lt_irrefl _)
 ·exact absurd (wO (wA (I.pin p hp).1) (by rw [z];exact hb)) (Nat.lt_irrefl _)
structure Turn (P:Program) (w:World) (K:Frag) (tg:Expr) (J:It) (fp:List Addr) (it:Addr) (tn:Nat->Heap->Prop):Prop where
 mem:it∈fp
 obj:∀ i h,tn i h->∀ b∈fp,∃ o,h.get? b=some o/\∀ v,o.data≠.cell v
 keep:∀ i h h',tn i h->(∀ b∈fp,∀ o,h.get? b=some o->h'.get? b=some o)->tn i h'
 item:∀ (X:Cx),X.prog=P->X.w=w->X.K=K->X.calm=true->∀ (i:Nat) (pins:List (Addr×Obj)) (s:Shared) (σ:St) (H:Hp) (E:Value->Shared->Prop),Inv X pins σ H s->(∀ b∈fp,yaz X pins H b)->tn i s.heap->J.go i H ->
  wpAny (model P w) X.A (pyNext (.ref it)) (λr s1=>∃ u,r=some u /\
   wpAny (model P w) X.A (letOwnedTupleGo tg (.ref it) u) (λ_ s2=>∃ x H',Inv X pins σ H' s2/\RelV x u/\J.yld i H x H'/\tn (i+1) s2.heap/\∀ b∈fp,H' b=none) E s1) E s
 done:∀ (X:Cx),X.prog=P->X.w=w->X.K=K->X.calm=true->∀ (i:Nat) (pins:List (Addr×Obj)) (s:Shared) (σ:St) (H:Hp) (E:Value->Shared->Prop),Inv X pins σ H s->(∀ b∈fp,yaz X pins H b)->tn i s.heap->J.stop i H ->
  wpAny (model P w) X.A (pyNext (.ref it)) (λr s1=>r=none/\Inv X pins σ H s1) E s
 self:∀ (A:Around) (i:Nat) (s:Shared) (Q:Value->Shared->Prop) (E:Value->Shared->Prop),tn i s.heap->Q (.ref it) s->wpAny (model P w) A (pyIter (.ref it)) Q E s
abbrev TI:=St->Hp->(It->Hp->Prop)->Prop
def PIE (X:Cx) (pins:List (Addr×Obj)) (σ:St) (tg:Expr) (R:It->Hp->Prop) (itv:Value) (s2:Shared):Prop :=
 ∃ (it:Addr) (fp:List Addr) (tn:Nat->Heap->Prop) (J:It) (H':Hp),itv=.ref it/\Inv X pins σ H' s2/\Turn X.prog X.w X.K tg J fp it tn/\tn 0 s2.heap/\(∀ b∈fp,yaz X pins H' b)/\R J H'
def PI (X:Cx) (tg iter:Expr) (wi:TI):Prop :=
 ∀ (pins:List (Addr×Obj)) (s:Shared) (σ:St) (H:Hp) (R:It->Hp->Prop),Inv X pins σ H s->wi σ H R ->
  wpAny (model X.prog X.w) X.A (eval iter X.env) (λv s1=>wpAny (model X.prog X.w) X.A (pyIter v) (PIE X pins σ tg R) X.xe s1) X.xe s
theorem jcq {M:Model} {A:Around} {E:Value->Shared->Prop} {s:Shared} {tg:Expr} {it:Addr} {u:Value} {o:Obj} {n:String} {vs:Array Value} {Q:Unit->Shared->Prop} (ho:s.heap.get? it=some o) (hc:o.cls=.type n) (hd:o.data=.fields vs)
    (hn:["enumerate","zip","dict_itemiterator","dict_reverseitemiterator","odict_iterator","itertools.zip_longest","itertools.pairwise"].contains n=false) (hQ:Q () s):wpAny M A (letOwnedTupleGo tg (.ref it) u) Q E s:=by
  unfold letOwnedTupleGo
  cases tg <;> first
    | exact wo hQ
    | (cases u <;> first
        | exact wo hQ
        | (refine wg (wpAny_load ho ?_)
           rw [hc,hd];show wpAny M A (if (["enumerate","zip","dict_itemiterator","dict_reverseitemiterator","odict_iterator","itertools.zip_longest","itertools.pairwise"].contains n&&vs[0]?==some (rawInt _))=true then _ else _) Q E s;rw [if_neg (by intro h;rw [hn,Bool.false_and] at h;cases h)];exact wo hQ))
noncomputable def Itl (K:Frag) (a:Addr):It :=
 ⟨λi H=>∃ xs x,SqL K H a xs/\xs[i]?=some x,λi H x H'=>H'=H/\∀ xs,SqL K H a xs->xs[i]?=some x,λi H=>∃ xs,SqL K H a xs/\xs.length<=i⟩
noncomputable def Itt (K:Frag) (a:Addr):It :=
 ⟨λi H=>∃ xs x,SqT K H a xs/\xs[i]?=some x,λi H x H'=>H'=H/\∀ xs,SqT K H a xs->xs[i]?=some x,λi H=>∃ xs,SqT K H a xs/\xs.length<=i⟩
noncomputable def Itr (lo:Int) (n:Nat):It:=⟨λi _=>i<n,λi H x H'=>H'=H/\x=.int (lo+i),λi _=>n<=i⟩
theorem ybY {P:Program} {w:World} {K:Frag} {tg:Expr} (a it:Addr):Turn P w K tg (Itl K a) [it] it (λi h=>h.IsListIter it a i) where
 mem:=by simp
 obj:=λi h st b hb=>by
  have e:b=it:=by simpa using hb
  subst e;obtain ⟨o,e,c,d⟩:=st;exact ⟨o,e,λv z=>by rw [d] at z;cases z⟩
 keep:=λi h h' st k=>st.at λo e=>k it (by simp) o e
 item:=by
  intro X hP hw hK hc i pins s σ H E I hf st hg;subst hP hw hK;obtain ⟨xs,x,hq,hx⟩:=hg;obtain ⟨its,rv,p,hz⟩:=I.list hq;obtain ⟨u,hu,ru⟩:=rv.get hx;obtain ⟨f0,f1,f2,f3,f4,f5⟩:=hf it (by simp);refine wpAny_pyNext_list_item st p.isList (x:=u) (by simpa using hu) λh' st' sb=>?_
  have I1:Inv X pins σ H { s with heap:=h' }:=I.turned (t':=s.toks) (λb o hb e=>(sb.2 b hb).trans e) f0 f1 f3 f4 f5;obtain ⟨o,e,c,d⟩:=id st';exact ⟨u,rfl,jcq (s:={ s with heap:=h' }) e c d (by decide) ⟨x,H,I1,ru,⟨rfl,λys hy=>by rw [I.list_inj hy hq];exact hx⟩,st',λb hb=>(hf b hb).1⟩⟩
 done:=by
  intro X hP hw hK hc i pins s σ H E I hf st hg;subst hP hw hK;obtain ⟨xs,hq,hx⟩:=hg;obtain ⟨its,rv,p,hz⟩:=I.list hq;obtain ⟨f0,f1,f2,f3,f4,f5⟩:=hf it (by simp);have hl:=rv.length;exact wpAny_pyNext_list_end (I.ok.hd hc) st p.isList (by simp;omega) λh' eb=>⟨rfl,I.turned (t':=s.toks) (λb o hb e=>eb b o hb e) f0 f1 f3 f4 f5⟩
 self:=λ_ _ _ _ _ st h=>wpAny_pyIter_listiter st h
theorem ybO {P:Program} {w:World} {K:Frag} {tg:Expr} (a it:Addr):Turn P w K tg (Itt K a) [it] it (λi h=>h.IsTupleIter it a i) where
 mem:=by simp
 obj:=λi h st b hb=>by
  have e:b=it:=by simpa using hb
  subst e;obtain ⟨o,e,c,d⟩:=st;exact ⟨o,e,λv z=>by rw [d] at z;cases z⟩
 keep:=λi h h' st k=>st.at λo e=>k it (by simp) o e
 item:=by
  intro X hP hw hK hc i pins s σ H E I hf st hg;subst hP hw hK;obtain ⟨xs,x,hq,hx⟩:=hg;obtain ⟨its,rv,p,hz⟩:=I.tuple hq;obtain ⟨u,hu,ru⟩:=rv.get hx;obtain ⟨f0,f1,f2,f3,f4,f5⟩:=hf it (by simp);refine wpAny_pyNext_tuple_item st (show s.heap.IsTuple a its.toArray from p) (x:=u) (by simpa using hu) λh' st' sb=>?_
  have I1:Inv X pins σ H { s with heap:=h' }:=I.turned (t':=s.toks) (λb o hb e=>(sb.2 b hb).trans e) f0 f1 f3 f4 f5;obtain ⟨o,e,c,d⟩:=id st';exact ⟨u,rfl,jcq (s:={ s with heap:=h' }) e c d (by decide) ⟨x,H,I1,ru,⟨rfl,λys hy=>by rw [I.tuple_inj hy hq];exact hx⟩,st',λb hb=>(hf b hb).1⟩⟩
 done:=by
  intro X hP hw hK hc i pins s σ H E I hf st hg;subst hP hw hK;obtain ⟨xs,hq,hx⟩:=hg;obtain ⟨its,rv,p,hz⟩:=I.tuple hq;obtain ⟨f0,f1,f2,f3,f4,f5⟩:=hf it (by simp);have hl:=rv.length;exact wpAny_pyNext_tuple_end (I.ok.hd hc) st (show s.heap.IsTuple a its.toArray from p) (by simp;omega) λh' eb=>⟨rfl,I.turned (t':=s.toks) (λb o hb e=>eb b o hb e) f0 f1 f3 f4 f5⟩
 self:=λ_ _ _ _ _ st h=>wpAny_pyIter_tupleiter st h
theorem jbO {P:Program} {w:World} {K:Frag} {tg:Expr} (it:Addr) (lo:Int) (n:Nat):Turn P w K tg (Itr lo n) [it] it (λi h=>IsRangeIter h it (lo+(i:Nat)*1) ((n:Int)-(i:Nat)) 1) where
 mem:=by simp
 obj:=λi h st b hb=>by
  have e:b=it:=by simpa using hb
  subst e
  exact ⟨_,st,λv z=>by
   have z':Data.fields _=Data.cell v:=z;cases z'⟩
 keep:=λi h h' st k=>k it (by simp) _ st
 item:=by
  intro X hP hw hK hc i pins s σ H E I hf st hg;subst hP hw hK;obtain ⟨f0,f1,f2,f3,f4,f5⟩:=hf it (by simp);have W:=Walks.range (prog:=X.prog) (w:=X.w) (I.ok.hd hc) it lo 1 n;refine W.item i s _ _ hg st λv h' tk hv st' kk=>?_
  obtain ⟨t,rfl⟩:=hv;have I1:Inv X pins σ H { s with heap:=h',toks:=tk }:=I.turned (λb o hb e=>kk b o (by simpa using hb) e) f0 f1 f3 f4 f5;refine ⟨_,rfl,jcq (s:={ s with heap:=h',toks:=tk }) (n:="range_iterator") st' rfl rfl (by decide) ⟨.int (lo+i),H,I1,⟨t,?_⟩,⟨rfl,rfl⟩,st',λb hb=>(hf b hb).1⟩⟩;rw [Int.mul_one]
 done:=by
  intro X hP hw hK hc i pins s σ H E I hf st hg;subst hP hw hK;obtain ⟨f0,f1,f2,f3,f4,f5⟩:=hf it (by simp);exact wpAny_pyNext_range_end (I.ok.hd hc) st (by have:n<=i:=hg;omega) λh' eb=>⟨rfl,I.turned (t':=s.toks) (λb o hb e=>eb b o hb e) f0 f1 f3 f4 f5⟩
 self:=λ_ _ _ _ _ st h=>wpAny_pyIter_rangeiter st h
section
variable {X:Cx} {tg:Expr}
theorem qbz {pins:List (Addr×Obj)} {σ:St} {H:Hp} {s:Shared} {R:It->Hp->Prop} {E:Value->Shared->Prop} {lo hi:Int} {t u v:Tok} {tk:Nat} (I:Inv X pins σ H s) (h1:-(2^62)<=lo) (h2:lo<2^62) (h3:-(2^62)<=hi) (h4:hi<2^62)
  (q:R (Itr lo (hi-lo).toNat) H):wpAny (model X.prog X.w) X.A (pyIter (.ref s.heap.objs.size)) (PIE X pins σ tg R) E { s with heap:=s.heap.push { cls:=.type "range",data:=.fields #[.int lo t,.int hi u,.int 1 v] },toks:=tk }:=by
 refine wpAny_pyIter_range (IsRange.new ..) (small_one h1 h2 h3 h4) ?_;have I1:Inv X pins σ H { s with heap:=s.heap.push { cls:=.type "range",data:=.fields #[.int lo t,.int hi u,.int 1 v] },toks:=tk }:=I.kept λb o e=>wm _ e
 refine ⟨(s.heap.push { cls:=.type "range",data:=.fields #[.int lo t,.int hi u,.int 1 v] }).objs.size,[(s.heap.push { cls:=.type "range",data:=.fields #[.int lo t,.int hi u,.int 1 v] }).objs.size],_,_,H,rfl,
  I1.kept (t':=tk) λb o e=>wm _ e,jbO _ lo (hi-lo).toNat,?_,λb hb=>?_,q⟩
 ·have e1:lo+((0:Nat):Int)*1=lo:=by simp
  have e2:(((hi-lo).toNat:Nat):Int)-((0:Nat):Int)=Builtin.Range.rangeSize lo hi 1:=by rw [rangeSize_one];split<;>omega
  show IsRangeIter _ _ (lo+((0:Nat):Int)*1) ((((hi-lo).toNat:Nat):Int)-((0:Nat):Int)) 1;rw [e1,e2];exact wx _ rfl
 ·have e:b=(s.heap.push { cls:=.type "range",data:=.fields #[.int lo t,.int hi u,.int 1 v] }).objs.size:=by simpa using hb
  subst e;exact I1.fpOk (wF _) (I1.hok.fresh (wF _))
def jdY (ta:TA):TI:=λσ H R=>ta σ H λvs H1=>∃ j:Int,vs=[.int j]/\-(2^62)<=j/\j<2^62/\R (Itr 0 j.toNat) H1
def zdZ (ta:TA):TI:=λσ H R=>ta σ H λvs H1=>∃ i j:Int,vs=[.int i,.int j]/\(-(2^62)<=i/\i<2^62/\-(2^62)<=j/\j<2^62)/\R (Itr i (j-i).toNat) H1
theorem jbY {a : Expr} {ta : TA} {p pos : Pos} (hg : Gl X "range") (hm : X.mg "range" = none) (ha : PA X [a] ta) (hs : starEach [a] X.env = [(false, eval a X.env)] := by rfl) : PI X tg (.Call (.Name "range" p) [a] [] pos) (jdY ta) := by
 intro pins s σ H R I h;refine Call_ (qaB I hg hm boot_range (PyProof.Rows.callWith_type1 (thn (ha pos pins s σ H _ I h) λus s1 ⟨vs,H1,I1,r1,q1⟩=>?_) hs rfl));obtain ⟨j,e,q1,q2,q⟩:=q1;subst e;cases r1 with
 | cons r rr =>
  cases rr;obtain ⟨t,rfl⟩:=r;exact call_range_1 (qbz I1 (by omega) (by omega) q1 q2 (by simpa using q))
theorem zbZ {a b : Expr} {ta : TA} {p pos : Pos} (hg : Gl X "range") (hm : X.mg "range" = none) (ha : PA X [a, b] ta) (hs : starEach [a, b] X.env = [(false, eval a X.env), (false, eval b X.env)] := by rfl) (hs2 : starEach [b] X.env = [(false, eval b X.env)] := by rfl) :
  PI X tg (.Call (.Name "range" p) [a,b] [] pos) (zdZ ta):=by
 intro pins s σ H R I h;refine Call_ (qaB I hg hm boot_range (PyProof.Rows.callWith_type1 (thn (ha pos pins s σ H _ I h) λus s1 ⟨vs,H1,I1,r1,q1⟩=>?_) (by rw [hs,hs2]) (by rw [hs2];rfl)));obtain ⟨i,j,e,⟨q1,q2,q3,q4⟩,q⟩:=q1;subst e;cases r1 with
 | cons r rr =>
  cases rr with
  | cons r' rr =>
   cases rr;obtain ⟨t,rfl⟩:=r;obtain ⟨t',rfl⟩:=r';exact call_range_2 (qbz I1 q1 q2 q3 q4 q)
def jeo (wi:TI) (g:TG) (tb:TS):TS:=λD σ H=>wi σ H λJ H1=>∃ W:Nat->Nat->St->Hp->Prop,(∃ m,W 0 m σ H1)/\∀ i m σ H,W i m σ H ->
 (J.stop i H/\D.nx σ H)\/(J.go i H/\∃ N:St->Hp->Prop,(∀ σ' H',N σ' H'->∃ m',m'<m/\W (i+1) m' σ' H')/\∀ x H',J.yld i H x H'->g x σ H' λσ2 H2=>tb { D with nx:=N,ct:=N,bk:=D.nx } σ2 H2)
noncomputable def ja9 (fp:List Addr) (h:Heap):List (Addr×Obj):=fp.filterMap λb=>(h.get? b).map λo=>(b,o)
theorem yae {fp:List Addr} {h:Heap} {b:Addr} {o:Obj} (hb:b∈fp) (e:h.get? b=some o):(b,o)∈ja9 fp h:=List.mem_filterMap.mpr ⟨b,hb,by rw [e];rfl⟩
theorem qbZ {fp:List Addr} {h:Heap} {p:Addr×Obj} (hp:p∈ja9 fp h):p.1∈fp/\h.get? p.1=some p.2:=by
 obtain ⟨b,hb,e⟩:=List.mem_filterMap.mp hp;cases q:h.get? b with
 | none=>rw [q] at e;cases e
 | some o =>
  rw [q] at e;have e':(b,o)=p:=wC e;subst e';exact ⟨hb,q⟩
theorem Inv.pinned {pins:List (Addr×Obj)} {σ:St} {H:Hp} {s:Shared} {fp:List Addr} (I:Inv X pins σ H s) (hf:∀ b∈fp,yaz X pins H b) (ho:∀ b∈fp,∃ o,s.heap.get? b=some o/\∀ v,o.data≠.cell v):Inv X (pins++ja9 fp s.heap) σ H s :=
 I.pins_of λp hp=>(List.mem_append.mp hp).elim (λz=>I.pin p (wN _ z)) λz=>by
  obtain ⟨hb,e⟩:=qbZ z;obtain ⟨f0,f1,f2,_⟩:=hf p.1 hb;obtain ⟨o,e',d⟩:=ho p.1 hb;rw [e] at e';cases e'
  exact ⟨e,f0,f1,f2,d⟩
theorem Inv.unpinned {pins pl:List (Addr×Obj)} {σ:St} {H:Hp} {s:Shared} (I:Inv X (pins++pl) σ H s):Inv X pins σ H s:=I.pins_of λp hp=>I.pin p (wN _ (List.mem_append_left _ hp))
theorem zdp {iter:Expr} {body:List Stmt} {wi:TI} {g:TG} {tb:TS} {pos:Pos} (hp:PassesOwn (model X.prog X.w) X.A X.env X.xe) (hc:X.calm=true) (hi:PI X tg iter wi) (hg:PG X tg g) (hb:PSs X body tb)
  (hs:∀ x,foldedSetIterable iter X.env x=pure x:=by intro _;rfl):PS X (.For tg iter body [] pos) (jeo wi g tb):=by
 intro pins s σ H D I h;refine wpAny_For (thn (hi pins s σ H _ I h) λv s1 h1=>thn h1 λitv s2 h2=>?_) hs;obtain ⟨it,fp,tn,J,H2,e,I2,T,st2,f2,W,⟨m0,w0⟩,turn⟩:=h2;subst e;have stat:∀ {H':Hp},(∀ b∈fp,H' b=none)->∀ b∈fp,yaz X pins H' b:=λhn b hb=>⟨hn b hb,(f2 b hb).2⟩
 refine codeAny_forLoop_any (λn s'=>∃ i σ' H',Inv X pins σ' H' s'/\tn i s'.heap/\(∀ b∈fp,H' b=none)/\W i n σ' H') ?_ m0 ⟨0,σ,H2,I2,st2,λb hb=>(f2 b hb).1,w0⟩;rintro n s3 ⟨i,σ3,H3,I3,st3,fr3,w3⟩;rcases turn i n σ3 H3 w3 with ⟨stop,qn⟩ | ⟨go,N,hN,step⟩
 ·refine wpAny_passesOwn hp (thn (T.done X rfl rfl rfl hc i pins s3 σ3 H3 X.xe I3 (stat fr3) st3 stop) λr s4 ⟨hr,I4⟩=>?_);subst hr;exact wpAny_execs_nil ⟨σ3,H3,I4,qn⟩
 ·refine wpAny_passesOwn hp (thn (T.item X rfl rfl rfl hc i pins s3 σ3 H3 X.xe I3 (stat fr3) st3 go) λr s4 ⟨u,hr,h4⟩=>?_);subst hr;refine wpAny_passesOwn hp (thn h4 λ_ s5 ⟨x,H5,I5,r5,y5,st5,fr5⟩=>?_);have I5':=I5.pinned (stat fr5) (T.obj _ _ st5);refine wpAny_passesOwn hp (thn (hg _ s5 σ3 H5 x u _ I5' r5 (step x H5 y5)) λ_ s6 ⟨σ6,H6,I6,q6⟩=>?_);refine wpAny_passesOwn hp (thn (hb _ s6 σ6 H6 _ I6 q6) λf s7 q7=>?_)
  have again:∀ {σ7:St} {H7:Hp},Inv X (pins++ja9 fp s5.heap) σ7 H7 s7->N σ7 H7->∃ m,m<n/\∃ i σ' H',Inv X pins σ' H' s7/\tn i s7.heap/\(∀ b∈fp,H' b=none)/\W i m σ' H':=λ{σ7 H7} I7 n7=>by
   obtain ⟨m',hm,w7⟩:=hN σ7 H7 n7;refine ⟨m',hm,i+1,σ7,H7,I7.unpinned,T.keep _ _ _ st5 λb hb o e=>(I7.pin (b,o) (wN _ (wN _ (yae hb e)))).1,λb hb=>?_,w7⟩;obtain ⟨o,e,d⟩:=T.obj _ _ st5 b hb;exact (I7.pin (b,o) (wN _ (wN _ (yae hb e)))).2.1
  cases f with
  | next=>obtain ⟨σ7,H7,I7,n7⟩:=q7;exact again I7 n7
  | cont=>obtain ⟨σ7,H7,I7,n7⟩:=q7;exact again I7 n7
  | brk=>obtain ⟨σ7,H7,I7,q7⟩:=q7;exact ⟨σ7,H7,I7.unpinned,q7⟩
  | ret v=>obtain ⟨x7,σ7,H7,I7,r7,q7⟩:=q7;exact ⟨x7,σ7,H7,I7.unpinned,r7,q7⟩
end
abbrev R2:=V->V->Hp->VK->Prop
def OpR (X:Cx) (f:Value->Value->Sem Value) (r:R2):Prop :=
 ∀ (pins:List (Addr×Obj)) (s:Shared) (σ:St) (H:Hp) (x y:V) (v u:Value) (Q:VK),Inv X pins σ H s->RelV x v->RelV y u->r x y H Q ->
  wpAny (model X.prog X.w) X.A (f v u) (EP X pins σ Q) X.xe s
def UnR (X:Cx) (f:Value->Sem Value) (r:V->Hp->VK->Prop):Prop :=
 ∀ (pins:List (Addr×Obj)) (s:Shared) (σ:St) (H:Hp) (x:V) (v:Value) (Q:VK),Inv X pins σ H s->RelV x v->r x H Q ->
  wpAny (model X.prog X.w) X.A (f v) (EP X pins σ Q) X.xe s
def jJ (X:Cx) (f:Value) (r:List V->Hp->VK->Prop):Prop :=
 ∀ (pins:List (Addr×Obj)) (s:Shared) (σ:St) (H:Hp) (xs:List V) (us:List Value) (Q:VK),Inv X pins σ H s->Vals xs us->r xs H Q ->
  wpAny (model X.prog X.w) X.A (call f us) (EP X pins σ Q) X.xe s
def zep (X:Cx) (r:V->Hp->(Bool->Hp->Prop)->Prop):Prop :=
 ∀ (pins:List (Addr×Obj)) (s:Shared) (σ:St) (H:Hp) (x:V) (v:Value) (Q:Bool->Hp->Prop),Inv X pins σ H s->RelV x v->r x H Q ->
  wpAny (model X.prog X.w) X.A (truthy v) (TP X pins σ Q) X.xe s
def tOp (r:R2) (ta tb:TE):TE:=λσ H Q=>ta σ H λx H1=>tb σ H1 λy H2=>r x y H2 Q
def tUn (r:V->Hp->VK->Prop) (ta:TE):TE:=λσ H Q=>ta σ H λx H1=>r x H1 Q
def rI (C:Int->Int->Prop) (g:Int->Int->V):R2:=λx y H Q=>∃ i j,x=.int i/\y=.int j/\C i j/\Q (g i j) H
def rI0 (g:Int->Int->V):R2:=λx y H Q=>∃ i j,x=.int i/\y=.int j/\Q (g i j) H
def rU (g:Int->V):V->Hp->VK->Prop:=λx H Q=>∃ i,x=.int i/\Q (g i) H
section
variable {X:Cx} {a b c:Expr} {ta tb tc:TE} {pos:Pos}
theorem qdZ (ha:PE X a ta) (hb:PE X b tb) {pins:List (Addr×Obj)} {s:Shared} {σ:St} {H:Hp} {R:V->V->Hp->Prop} (I:Inv X pins σ H s)
  (h:ta σ H λx H1=>tb σ H1 λy H2=>R x y H2) {Q:Value->Shared->Prop} {f:Value->Value->Sem Value}
  (hf:∀ v u s2 x y H2,Inv X pins σ H2 s2->RelV x v->RelV y u->R x y H2->wpAny (model X.prog X.w) X.A (f v u) Q X.xe s2) :
  wpAny (model X.prog X.w) X.A (eval a X.env) (λv s₁=>wpAny (model X.prog X.w) X.A (eval b X.env) (λu s₂=>wpAny (model X.prog X.w) X.A (f v u) Q X.xe s₂) X.xe s₁) X.xe s:=by
 refine thn (ha pins s σ H _ I h) λv s1 ⟨x,H1,I1,r1,q1⟩=>?_
 refine thn (hb pins s1 σ H1 _ I1 q1) λu s2 ⟨y,H2,I2,r2,q2⟩=>?_
 exact hf v u s2 x y H2 I2 r1 r2 q2
theorem qdp {op:Operator} {r:R2} (ho:OpR X (binaryOp op) r) (ha:PE X a ta) (hb:PE X b tb):PE X (.BinOp a op b pos) (tOp r ta tb):=by
 intro pins s σ H Q I h;exact wpAny_BinOp (qdZ ha hb I h λv u s2 x y H2 I2 rx ry q=>ho pins s2 σ H2 x y v u Q I2 rx ry q)
theorem ydZ {op:UnaryOp} {r:V->Hp->VK->Prop} (ho:UnR X (unaryOp op) r) (ha:PE X a ta):PE X (.UnaryOp op a pos) (tUn r ta):=by
 intro pins s σ H Q I h;exact UnaryOp_ (thn (ha pins s σ H _ I h) λv s1 ⟨x,H1,I1,r1,q1⟩=>ho pins s1 σ H1 x v Q I1 r1 q1)
theorem opI {f:Value->Value->Sem Value} {C:Int->Int->Prop} {g:Int->Int->Int}
  (rule:∀ (i j:Int) (t u:Tok) (s:Shared) (Q:Value->Shared->Prop) (E:Value->Shared->Prop),C i j->Q (.int (g i j) s.toks) { s with toks:=s.toks+1 }->wpAny (model X.prog X.w) X.A (f (.int i t) (.int j u)) Q E s) :
  OpR X f (rI C λi j=>.int (g i j)):=by
 intro pins s σ H x y v u Q I rx ry h;obtain ⟨i,j,rfl,rfl,hc,q⟩:=h;obtain ⟨t,rfl⟩:=rx;obtain ⟨t',rfl⟩:=ry;exact rule i j t t' s _ _ hc ⟨.int (g i j),H,I.tok _,⟨_,rfl⟩,q⟩
theorem qeh {f:Value->Value->Sem Value} {g:Int->Int->Int}
  (rule:∀ (i j:Int) (t u:Tok) (s:Shared) (Q:Value->Shared->Prop) (E:Value->Shared->Prop),Q (.int (g i j) s.toks) { s with toks:=s.toks+1 }->wpAny (model X.prog X.w) X.A (f (.int i t) (.int j u)) Q E s) :
  OpR X f (rI0 λi j=>.int (g i j)):=by
 intro pins s σ H x y v u Q I rx ry h;obtain ⟨i,j,rfl,rfl,q⟩:=h;obtain ⟨t,rfl⟩:=rx;obtain ⟨t',rfl⟩:=ry;exact rule i j t t' s _ _ ⟨.int (g i j),H,I.tok _,⟨_,rfl⟩,q⟩
theorem jdV {f:Value->Value->Sem Value} {g:Int->Int->Bool}
  (rule:∀ (i j:Int) (t u:Tok) (s:Shared) (Q:Value->Shared->Prop) (E:Value->Shared->Prop),Q (.bool (g i j)) s->wpAny (model X.prog X.w) X.A (f (.int i t) (.int j u)) Q E s) :
  OpR X f (rI0 λi j=>.bl (g i j)):=by
 intro pins s σ H x y v u Q I rx ry h;obtain ⟨i,j,rfl,rfl,q⟩:=h;obtain ⟨t,rfl⟩:=rx;obtain ⟨t',rfl⟩:=ry;exact rule i j t t' s _ _ ⟨.bl (g i j),H,I,rfl,q⟩
def qep (i j:Int):Prop:=0<j/\j<1073741824
def yep (i j:Int):Prop:=0<=j/\j<=1000000/\i.natAbs<2^64
def CMul (i j:Int):Prop:=(-(2^64)<i/\i<2^64)\/(-(2^64)<j/\j<2^64)
theorem CMul.ok {i j:Int} (h:CMul i j):IntMulOk i j:=by
 rcases h with ⟨h1,h2⟩ | ⟨h1,h2⟩
 ·exact .of_left (intBits_le_64 h1 h2)
 ·exact .of_right (intBits_le_64 h1 h2)
theorem ydp:OpR X (binaryOp .Add) (rI0 λi j=>.int (i+j)):=qeh λ_ _ _ _ _ _ _ q=>add_int q
theorem jdp:OpR X (binaryOp .Sub) (rI0 λi j=>.int (i-j)):=qeh λ_ _ _ _ _ _ _ q=>sub_int q
theorem zdq:OpR X (binaryOp .Mult) (rI CMul λi j=>.int (i*j)):=opI λ_ _ _ _ _ _ _ hc q=>mul_int q hc.ok
theorem ycT:OpR X (binaryOp .FloorDiv) (rI qep λi j=>.int (i/j)):=opI λi j _ _ _ _ _ hc q=>by
 have h1:(0:Int)<j:=hc.1;have h2:j<1073741824:=hc.2;exact floordiv_int (by omega) (by rw [Int.fdiv_eq_ediv_of_nonneg i (by omega)];exact q) (.inl (PyProof.noPylong_small (by omega)))
theorem qdq:OpR X (binaryOp .Mod) (rI (λ_ j=>0<j) λi j=>.int (i%j)):=opI λi j _ _ _ _ _ hc q=>by
 have h1:(0:Int)<j:=hc;exact mod_int' (by omega) (by rw [Int.fmod_eq_emod_of_nonneg i (by omega)];exact q)
theorem ydq:OpR X (binaryOp .Pow) (rI yep λi j=>.int (i^j.toNat)):=opI λ_ _ _ _ _ _ _ hc q=>pow_int_small hc.1 hc.2.1 hc.2.2 q
theorem unI {f:Value->Sem Value} {g:Int->Int}
  (rule:∀ (i:Int) (t:Tok) (s:Shared) (Q:Value->Shared->Prop) (E:Value->Shared->Prop),Q (.int (g i) s.toks) { s with toks:=s.toks+1 }->wpAny (model X.prog X.w) X.A (f (.int i t)) Q E s) :
  UnR X f (rU λi=>.int (g i)):=by
 intro pins s σ H x v Q I rx h;obtain ⟨i,rfl,q⟩:=h;obtain ⟨t,rfl⟩:=rx;exact rule i t s _ _ ⟨.int (g i),H,I.tok _,⟨_,rfl⟩,q⟩
theorem jdq:UnR X (unaryOp .USub) (rU λi=>.int (-i)):=unI λ_ _ _ _ _ q=>neg_int q
end
noncomputable def yeh:V->V->Bool
 | .non,.non=>true | .non,.int _=>true | .int _,.non=>true | .non,.bl _=>true | .bl _,.non=>true | .non,.str _=>true | .str _,.non=>true
 | .int _,.int _=>true | .bl _,.bl _=>true | .str _,.str _=>true | .byt _,.byt _=>true
 | .int _,.str _=>true | .str _,.int _=>true | .bl _,.str _=>true | .str _,.bl _=>true
 | _,_=>false
def rEq:R2:=λx y H Q=>yeh x y=true/\Q (.bl (decide (x=y))) H
def rNe:R2:=λx y H Q=>yeh x y=true/\Q (.bl (!decide (x=y))) H
theorem ybZ {i j:Int}:decide (V.int i=V.int j)=(i==j):=by
 rw [vh]
 simp
theorem ycK {i j:Bool}:decide (V.bl i=V.bl j)=(i==j):=by
 rw [vh]
 simp
theorem zaY {i j:Str}:decide (V.str i=V.str j)=(i==j):=by
 rw [vh]
 simp
theorem jbZ {i j:Array UInt8}:decide (V.byt i=V.byt j)=(i.toList==j.toList):=by
 rw [vh];cases i;cases j
 simp
section
variable {X:Cx} {a b c:Expr} {ta tb tc:TE} {pos:Pos}
theorem jq {pins:List (Addr×Obj)} {σ:St} {H:Hp} {s:Shared} {Q:VK} {k k':Bool} (I:Inv X pins σ H s) (q:Q (.bl k) H) (e:k=k'):EP X pins σ Q (.bool k') s:=by
 subst e;exact ⟨.bl k,H,I,rfl,q⟩
theorem jdZ:OpR X (compareOp .Eq) rEq:=by
 intro pins s σ H x y v u Q I rx ry h;obtain ⟨hs,q⟩:=h;cases x with
 | non =>
  cases rx;cases y with
  | non=>cases ry;exact PySem.EqNone.eq_none_none (jq I q (by simp))
  | bl j=>cases ry;exact PySem.EqNone.eq_none_bool (jq I q (by simp))
  | int j=>obtain ⟨t',rfl⟩:=ry;exact PySem.EqNone.eq_none_int (jq I q (by simp))
  | str j=>obtain ⟨t',rfl⟩:=ry;exact PySem.EqNone.eq_none_str (jq I q (by simp))
  | _=>exact absurd (show false=true from hs) wB
 | bl i =>
  cases rx;cases y with
  | non=>cases ry;exact PySem.EqNone.eq_bool_none (jq I q (by simp))
  | bl j=>cases ry;exact eq_bool (jq I q ycK)
  | str j=>obtain ⟨t',rfl⟩:=ry;exact PySem.EqMixed.eq_bool_str (jq I q (by simp))
  | _=>exact absurd (show false=true from hs) wB
 | int i =>
  obtain ⟨t,rfl⟩:=rx;cases y with
  | non=>cases ry;exact PySem.EqNone.eq_int_none (jq I q (by simp))
  | int j=>obtain ⟨t',rfl⟩:=ry;exact eq_int (jq I q ybZ)
  | str j=>obtain ⟨t',rfl⟩:=ry;exact PySem.EqMixed.eq_int_str (jq I q (by simp))
  | _=>exact absurd (show false=true from hs) wB
 | str i =>
  obtain ⟨t,rfl⟩:=rx;cases y with
  | non=>cases ry;exact PySem.EqNone.eq_str_none (jq I q (by simp))
  | bl j=>cases ry;exact PySem.EqMixed.eq_str_bool (jq I q (by simp))
  | int j=>obtain ⟨t',rfl⟩:=ry;exact PySem.EqMixed.eq_str_int (jq I q (by simp))
  | str j=>obtain ⟨t',rfl⟩:=ry;exact eq_str (jq I q zaY)
  | _=>exact absurd (show false=true from hs) wB
 | byt i =>
  obtain ⟨t,rfl⟩:=rx;cases y with
  | byt j=>obtain ⟨t',rfl⟩:=ry;exact PySem.W.eq_bytes (jq I q jbZ)
  | _=>exact absurd (show false=true from hs) wB
 | _=>cases y<;>exact absurd (show false=true from hs) wB
theorem zd0:OpR X (compareOp .NotEq) rNe:=by
 intro pins s σ H x y v u Q I rx ry h;obtain ⟨hs,q⟩:=h;cases x with
 | non =>
  cases rx;cases y with
  | non=>cases ry;exact PySem.EqNone.ne_none_none (jq I q (by simp))
  | bl j=>cases ry;exact PySem.EqNone.ne_none_bool (jq I q (by simp))
  | int j=>obtain ⟨t',rfl⟩:=ry;exact PySem.EqNone.ne_none_int (jq I q (by simp))
  | str j=>obtain ⟨t',rfl⟩:=ry;exact PySem.EqNone.ne_none_str (jq I q (by simp))
  | _=>exact absurd (show false=true from hs) wB
 | bl i =>
  cases rx;cases y with
  | non=>cases ry;exact PySem.EqNone.ne_bool_none (jq I q (by simp))
  | bl j=>cases ry;exact ne_bool (jq I q (congrArg not ycK))
  | str j=>obtain ⟨t',rfl⟩:=ry;exact PySem.EqMixed.ne_bool_str (jq I q (by simp))
  | _=>exact absurd (show false=true from hs) wB
 | int i =>
  obtain ⟨t,rfl⟩:=rx;cases y with
  | non=>cases ry;exact PySem.EqNone.ne_int_none (jq I q (by simp))
  | int j=>obtain ⟨t',rfl⟩:=ry;exact ne_int (jq I q (congrArg not ybZ))
  | str j=>obtain ⟨t',rfl⟩:=ry;exact PySem.EqMixed.ne_int_str (jq I q (by simp))
  | _=>exact absurd (show false=true from hs) wB
 | str i =>
  obtain ⟨t,rfl⟩:=rx;cases y with
  | non=>cases ry;exact PySem.EqNone.ne_str_none (jq I q (by simp))
  | bl j=>cases ry;exact PySem.EqMixed.ne_str_bool (jq I q (by simp))
  | int j=>obtain ⟨t',rfl⟩:=ry;exact PySem.EqMixed.ne_str_int (jq I q (by simp))
  | str j=>obtain ⟨t',rfl⟩:=ry;exact ne_str (jq I q (congrArg not zaY))
  | _=>exact absurd (show false=true from hs) wB
 | byt i =>
  obtain ⟨t,rfl⟩:=rx;cases y with
  | byt j=>obtain ⟨t',rfl⟩:=ry;exact PySem.W.ne_bytes (jq I q (congrArg not jbZ))
  | _=>exact absurd (show false=true from hs) wB
 | _=>cases y<;>exact absurd (show false=true from hs) wB
theorem qd0:OpR X (compareOp .Lt) (rI0 λi j=>.bl (decide (i<j))):=jdV λ_ _ _ _ _ _ _ q=>lt_int q
theorem yd0:OpR X (compareOp .LtE) (rI0 λi j=>.bl (decide (i<=j))):=jdV λ_ _ _ _ _ _ _ q=>le_int q
theorem jd0:OpR X (compareOp .Gt) (rI0 λi j=>.bl (decide (j<i))):=jdV λ_ _ _ _ _ _ _ q=>gt_int q
theorem zd1:OpR X (compareOp .GtE) (rI0 λi j=>.bl (decide (j<=i))):=jdV λ_ _ _ _ _ _ _ q=>ge_int q
theorem zdr:OpR X (compareOp .Is) (λx y H Q=>y=.non/\Q (.bl (decide (x=.non))) H):=by
 intro pins s σ H x y v u Q I rx ry h;obtain ⟨rfl,q⟩:=h;cases ry;refine is_none_gen (jq I q ?_)
 cases x <;> first
  | (cases rx;rfl)
  | (obtain ⟨t,rfl⟩:=rx;rfl)
theorem jcT:OpR X (compareOp .IsNot) (λx y H Q=>y=.non/\Q (.bl (!decide (x=.non))) H):=by
 intro pins s σ H x y v u Q I rx ry h;obtain ⟨rfl,q⟩:=h;cases ry;refine isnot_none_gen (jq I q ?_)
 cases x <;> first
  | (cases rx;rfl)
  | (obtain ⟨t,rfl⟩:=rx;rfl)
theorem qdr (b : Expr) {op : CmpOp} (h : op ≠ .In := by decide) (h2 : op ≠ .NotIn := by decide) : behindInMarks op b = false := by
 have e1:(op==CmpOp.In)=false:=by cases op<;>first | rfl | exact absurd rfl h
 have e2:(op==CmpOp.NotIn)=false:=by cases op<;>first | rfl | exact absurd rfl h2
 cases b<;>simp [behindInMarks,e1,e2]
theorem zcU {op:CmpOp} {r:R2} (ho:OpR X (compareOp op) r) (ha:PE X a ta) (hb:PE X b tb) (hm:behindInMarks op b=false):PE X (.Compare a [op] [b] pos) (tOp r ta tb):=by
 intro pins s σ H Q I h;exact wpAny_Compare1 (qdZ ha hb I h λv u s2 x y H2 I2 rx ry q=>ho pins s2 σ H2 x y v u Q I2 rx ry q) hm
def ydr (t:TE):TT:=λσ H Q=>t σ H λx H'=>∃ k,x=.bl k/\Q k H'
theorem qcU {op:CmpOp} {r:R2} (ho:OpR X (compareOp op) r) (ha:PE X a ta) (hb:PE X b tb) (hm:behindInMarks op b=false):PT X (.Compare a [op] [b] pos) (ydr (tOp r ta tb)):=by
 intro pins s σ H Q I h
 refine wpAny_isTrue_Compare1 (thn (ha pins s σ H _ I h) λv s1 ⟨x,H1,I1,r1,q1⟩=>thn (hb pins s1 σ H1 _ I1 q1) λu s2 ⟨y,H2,I2,r2,q2⟩ =>
  thn (ho pins s2 σ H2 x y v u _ I2 r1 r2 q2) λc s3 ⟨z,H3,I3,r3,k,e,q3⟩=>?_) hm
 subst e;cases r3;exact wpAny_truthy_bool ⟨H3,I3,q3⟩
def zb0 (r r':R2) (ta tb tc:TE):TE:=λσ H Q=>ta σ H λx H1=>tb σ H1 λy H2=>r x y H2 λz H3=>∃ k,z=.bl k /\
 (if k=true then tc σ H3 λw' H4=>r' y w' H4 Q else Q (.bl false) H3)
theorem ybz {op op':CmpOp} {r r':R2} (ho:OpR X (compareOp op) r) (ho':OpR X (compareOp op') r') (ha:PE X a ta) (hb:PE X b tb) (hc:PE X c tc)
  (hm:lastMarks [op,op'] [b,c]=false:=by with_unfolding_all rfl):PE X (.Compare a [op,op'] [b,c] pos) (zb0 r r' ta tb tc):=by
 intro pins s σ H Q I h
 refine Compare_chain (thn (ha pins s σ H _ I h) λv s1 ⟨x,H1,I1,r1,q1⟩=>chain_link (thn (hb pins s1 σ H1 _ I1 q1) λu s2 ⟨y,H2,I2,r2,q2⟩ =>
  thn (ho pins s2 σ H2 x y v u _ I2 r1 r2 q2) λd s3 ⟨z,H3,I3,r3,k,e,q3⟩=>?_)) hm
 subst e;cases r3;refine wpAny_truthy_bool ?_;cases k with
 | false=>exact ite_ff ⟨.bl false,H3,I3,rfl,q3⟩
 | true=>exact ite_tt (chain_last (thn (hc pins s3 σ H3 _ I3 q3) λw' s4 ⟨z',H4,I4,r4,q4⟩=>ho' pins s4 σ H4 y z' u w' Q I4 r2 r4 q4))
theorem jbz {op op':CmpOp} {r r':R2} (ho:OpR X (compareOp op) r) (ho':OpR X (compareOp op') r') (ha:PE X a ta) (hb:PE X b tb) (hc:PE X c tc)
  (hm:lastMarks [op,op'] [b,c]=false:=by with_unfolding_all rfl):PT X (.Compare a [op,op'] [b,c] pos) (ydr (zb0 r r' ta tb tc)):=by
 intro pins s σ H Q I h
 refine isTrue_chain (thn (ha pins s σ H _ I h) λv s1 ⟨x,H1,I1,r1,q1⟩=>test_link (thn (hb pins s1 σ H1 _ I1 q1) λu s2 ⟨y,H2,I2,r2,q2⟩ =>
  thn (ho pins s2 σ H2 x y v u _ I2 r1 r2 q2) λd s3 ⟨z,H3,I3,r3,k,e,q3⟩=>?_)) hm
 subst e;cases r3;refine wpAny_truthy_bool ?_;cases k with
 | false =>
  obtain ⟨k',e',q'⟩:=q3;cases e';exact ite_ff ⟨H3,I3,q'⟩
 | true =>
  refine ite_tt (test_last (thn (hc pins s3 σ H3 _ I3 q3) λw' s4 ⟨z',H4,I4,r4,q4⟩=>thn (ho' pins s4 σ H4 y z' u w' _ I4 r2 r4 q4) λd' s5 ⟨z2,H5,I5,r5,k2,e2,q5⟩=>?_));subst e2;cases r5;exact wpAny_truthy_bool ⟨H5,I5,q5⟩
def qd1 (K:Frag) (x:V) (H:Hp) (k:Bool):Prop :=
 match x with
 | .non=>k=false
 | .bl b=>k=b
 | .int i=>k=(i != 0)
 | .str y=>y.length<=sizeLine/\k=((y.length:Int) != 0)
 | .byt y=>y.size<=sizeLine/\k=((y.size:Int) != 0)
 | .ref p=>(∃ xs,SqL K H p xs/\k=!xs.isEmpty)\/(∃ xs,SqT K H p xs/\k=!xs.isEmpty)\/∃ kvs,H p=some (.dK kvs)/\k=!kvs.isEmpty
 | _=>False
theorem zbP {κ:Type} {kvs:List (κ×V)} {vs:List (κ×Value)} (r:KV kvs vs):(!vs.isEmpty)=!kvs.isEmpty:=by
 cases r<;>rfl
theorem jaQ {xs:List V} {its:List Value} (r:Vals xs its):(!its.toArray.isEmpty)=!xs.isEmpty:=by
 cases r<;>simp
theorem yaB:(sizeLine:Nat)<2^63:=by rw [sizeLine_eq];decide
theorem jcK:zep X (λx H Q=>∃ k,qd1 X.K x H k/\Q k H):=by
 intro pins s σ H x v Q I rx h;obtain ⟨k,e,q⟩:=h;have hl:=yaB;have hs:sizeLine=16777216:=sizeLine_eq;cases x with
 | non =>
  cases rx;have e':k=false:=e;subst e';exact truthy_none ⟨H,I,q⟩
 | bl b =>
  cases rx;have e':k=b:=e;subst e';exact wpAny_truthy_bool ⟨H,I,q⟩
 | int i =>
  obtain ⟨t,rfl⟩:=rx;have e':k=(i != 0):=e;subst e';exact PySem.P.truthy_int ⟨H,I,q⟩
 | str y =>
  obtain ⟨t,rfl⟩:=rx;obtain ⟨hy,e'⟩:y.length<=sizeLine/\k=((y.length:Int) != 0):=e;subst e';exact PySem.P.truthy_str (by omega) ⟨H,I.tok _,q⟩
 | byt y =>
  obtain ⟨t,rfl⟩:=rx;obtain ⟨hy,e'⟩:y.size<=sizeLine/\k=((y.size:Int) != 0):=e;subst e';exact PySem.W.truthy_bytes (by omega) ⟨H,I.tok _,q⟩
 | ref p =>
  cases rx;have e':(∃ xs,SqL X.K H p xs/\k=!xs.isEmpty)\/(∃ xs,SqT X.K H p xs/\k=!xs.isEmpty)\/∃ kvs,H p=some (.dK kvs)/\k=!kvs.isEmpty:=e;rcases e' with ⟨xs,hx,e'⟩ | ⟨xs,hx,e'⟩ | ⟨kvs,hx,e'⟩
  ·subst e';obtain ⟨its,r,pl,hz⟩:=I.list hx;have hlen:=r.length;exact wpAny_truthy_list pl.isList (by simp only [vo];omega) ⟨H,I.tok _,by rw [jaQ r];exact q⟩
  ·subst e';obtain ⟨its,r,pl,hz⟩:=I.tuple hx;have hlen:=r.length;exact truthy_tuple pl (by simp only [vo];omega) ⟨H,I.tok _,by rw [jaQ r];exact q⟩
  ·subst e';obtain ⟨hz,hS,vs,r,m⟩:kvs.length<=sizeLine/\(p==sysModules)=false/\∃ vs,KV kvs vs/\s.heap.DictOf (jbn X.prog X.w) p vs:=I.hok p _ hx;have hlen:kvs.length=vs.length:=Paired.length r;exact wpAny_truthy_dict hS m (by omega) ⟨H,I.tok _,by rw [zbP r];exact q⟩
 | _=>exact (show False from e).elim
theorem zcr (ha : PE X a ta) (he : ∀ whole, isTrue a X.env whole = (do let v <- whole; standAt a.pos; holding [v] (truthy v))) :
  PT X a (λσ H Q=>ta σ H λx H'=>∃ k,qd1 X.K x H' k/\Q k H'):=by
 intro pins s σ H Q I h;exact isTrue_plain (thn (ha pins s σ H _ I h) λv s1 ⟨x,H1,I1,r1,q1⟩=>jcK pins s1 σ H1 x v Q I1 r1 q1) (he _)
theorem qbP:OpR X (binaryOp .Add) (λx y H Q=>∃ i j,x=.str i/\y=.str j/\i.length+j.length<=sizeLine/\Q (.str (i++j)) H):=by
 intro pins s σ H x y v u Q I rx ry h;obtain ⟨i,j,rfl,rfl,hz,q⟩:=h;obtain ⟨t,rfl⟩:=rx;obtain ⟨t',rfl⟩:=ry;exact add_str (λt' tk=>⟨.str (i++j),H,I.tok _,⟨_,rfl⟩,q⟩) hz
theorem vals1 {x:V} {us:List Value} (r:Vals [x] us):∃ u,us=[u]/\RelV x u:=by
 cases r with
 | cons r1 r2=>cases r2;exact ⟨_,rfl,r1⟩
theorem jaB:jJ X (.type "int") (λxs H Q=>(∃ i,xs=[.int i]/\Q (.int i) H)\/∃ k,xs=[.bl k]/\Q (.int (if k then 1 else 0)) H):=by
 intro pins s σ H xs us Q I r h;rcases h with ⟨i,rfl,q⟩ | ⟨k,rfl,q⟩
 ·obtain ⟨u,rfl,t,rfl⟩:=vals1 r;exact call_int_int ⟨.int i,H,I,⟨_,rfl⟩,q⟩
 ·obtain ⟨u,rfl,r1⟩:=vals1 r;cases r1;exact call_int_bool ⟨.int (if k then 1 else 0),H,I.tok _,⟨_,rfl⟩,q⟩
theorem zba:jJ X (.type "str") (λxs H Q=>∃ i,xs=[.int i]/\i.natAbs.log2<1920/\Q (.str (toString i)) H):=by
 intro pins s σ H xs us Q I r h;obtain ⟨i,rfl,hz,q⟩:=h;obtain ⟨u,rfl,t,rfl⟩:=vals1 r;exact PySem.P.str_of_int hz ⟨.str _,H,I.tok _,⟨_,rfl⟩,q⟩
end
structure ObjM (h:Heap) (x dx C:Addr) (mA:Str->Option Value):Prop where
 obj:h.get? x=some (PySem.W.instObj C dx)
 ns:h.Ns1 dx mA
 ne:dx≠x
theorem qb0 {h:Heap} {dx:Addr} {mA:Str->Option Value} (n:h.Ns1 dx mA):∃ od,h.get? dx=some od/\∀ name,PySem.W.lookIn name od=some (mA name):=by
 obtain ⟨o,es,ep,ho,hd,hk,_,hm⟩:=n;refine ⟨o,ho,λname=>?_⟩;have e:=hm name;unfold nsFind findBy at e;rw [<-Array.find?_toList] at e;unfold PySem.W.lookIn;rw [hd];dsimp only;split
 ·rename_i y q;rw [q] at e;exact congrArg some e
 ·rename_i q;rw [q] at e
  have a:es.toList.any (·.refKey)=false:=by
   rw [List.any_eq_false];intro y hy;obtain ⟨z,t,hkey⟩:=hk y (Array.mem_toList_iff.mp hy);simp [DictEntry.refKey,hkey]
  have a':¬ es.toList.any (·.refKey)=true:=by rw [a];exact wB
  rw [if_neg a'];exact congrArg some e
theorem ObjM.look {h:Heap} {x dx C:Addr} {mA:Str->Option Value} (I:ObjM h x dx C mA):∃ od,PySem.W.InstAt h x (PySem.W.instObj C dx) C (some od)/\∀ name,PySem.W.lookIn name od=some (mA name) :=
 let ⟨od,ho,hl⟩:=qb0 I.ns
 ⟨od,⟨I.obj,rfl,rfl,ho⟩,hl⟩
section
variable {P:Program} {w:World} {H H':Hp} {h h':Heap} {a C dx:Addr} {fs fs':List (Str×V)}
theorem ycU (hok:HOk P w H h) (e:H a=some (.ins C dx fs)):∃ mA,ObjM h a dx C mA/\(∀ f,qdX (fs.lookup f) (mA f))/\PySem.Within mA (fs.map (·.1))/\fs.length<=1000/\H dx=some (.own a):=by
 obtain ⟨d,z,ne,ob,mA,n,r,q⟩:=(show ObjOk P w H h a (.ins C dx fs) from hok a _ e);exact ⟨mA,⟨ob,n,ne⟩,r,q,z,d⟩
end
structure Cls (K:Frag) (C:Addr):Prop where
 pg:PySem.W.plainGet K C Str.empty=true
 hd:PySem.W.hasDictIn K C=true
 po:PySem.W.plainOver K C=true
 sa:PySem.W.findIn K (.ref C) "__setattr__"=some (some (.builtin "object.__setattr__"))
theorem Cls.get {K:Frag} {C:Addr} (c:Cls K C) (f:Str):PySem.W.plainGet K C f=true:=c.pg
section
variable {X:Cx} {pins:List (Addr×Obj)} {σ:St} {H:Hp} {s:Shared} {A:Around} {E:Value->Shared->Prop} {Q:Value->Shared->Prop} {c:Value} {b:Bool}
inductive TyOf (K:Frag) (H:Hp):V->Value->Prop where
 | non:TyOf K H .non (.type "NoneType")
 | bl (x:Bool):TyOf K H (.bl x) (.type "bool")
 | int (i:Int):TyOf K H (.int i) (.type "int")
 | str (x:Str):TyOf K H (.str x) (.type "str")
 | flt (x:UInt64):TyOf K H (.flt x) (.type "float")
 | lst {a:Addr} {xs:List V} (e:H a=some (.lst xs)):TyOf K H (.ref a) (.type "list")
 | frz {a:Addr} {o:Obj} {xs:List V} (e:H a=some (.frz o (.lst xs))):TyOf K H (.ref a) (.type "list")
 | tup {a:Addr} {xs:List V} (e:H a=some (.tup xs)):TyOf K H (.ref a) (.type "tuple")
 | dK {a:Addr} {kvs:List (Key×V)} (e:H a=some (.dK kvs)):TyOf K H (.ref a) (.type "dict")
 | dT {a:Addr} {kvs:List (List Key×V)} (e:H a=some (.dT kvs)):TyOf K H (.ref a) (.type "dict")
 | ins {a C dx:Addr} {fs:List (Str×V)} (e:H a=some (.ins C dx fs)) (cl:Cls K C) (ha:PySem.W.findIn K (.ref C) "__class__"=some (some (.builtin "object.__class__")))
  (hn:PySem.W.specialIn K (.builtin "object.__class__") "__get__"=some (some (.builtin "getset_descriptor.__get__"))) (htk:PySem.W.takesIn K (.builtin "object.__class__")=some true)
  (hm:PySem.W.mroIn K C (.type "object")=some true):TyOf K H (.ref a) (.ref C)
theorem yb0 {x:V} {u t:Value} (I:Inv X pins σ H s) (rx:RelV x u) (ty:TyOf X.K H x t) (e:PySem.W.kitOne X.K t c=some b) (h:∀ tk,Q (.bool b) { s with toks:=tk }) :
  wpAny (model X.prog X.w) A (call (.builtin "isinstance") [u,c]) Q E s:=by
 cases ty with
 | non=>cases (show u=Value.none from rx);exact PySem.W.kia_one PySem.W.kitx_none I.kIn True.intro e (λz=>nomatch z) h
 | bl y=>cases (show u=Value.bool y from rx);exact PySem.W.kia_one PySem.W.kitx_bool I.kIn True.intro e (λz=>nomatch z) h
 | int i=>obtain ⟨t,q⟩:=(show ∃ t,u=Value.int i t from rx);cases q;exact PySem.W.kia_one PySem.W.kitx_int I.kIn True.intro e (λz=>nomatch z) h
 | str y=>obtain ⟨t,q⟩:=(show ∃ t,u=Value.str y t from rx);cases q;exact PySem.W.kia_one PySem.W.kitx_str I.kIn True.intro e (λz=>nomatch z) h
 | flt y=>obtain ⟨t,q⟩:=(show ∃ t,u=Value.float y t from rx);cases q;exact PySem.W.kia_one PySem.W.kitx_float I.kIn True.intro e (λz=>nomatch z) h
 | @lst a xs ea =>
  cases (show u=Value.ref a from rx);obtain ⟨_,_,n,_,h1⟩:=(show ObjOk X.prog X.w H s.heap a (.lst xs) from I.hok a _ ea);exact PySem.W.kia_one PySem.W.kitx_list I.kIn ⟨_,h1,rfl⟩ e (λz=>nomatch z) h
 | @frz a ob xs ea =>
  cases (show u=Value.ref a from rx);obtain ⟨_,_,_,n,_,h1⟩:=(show ObjOk X.prog X.w H s.heap a (.frz ob (.lst xs)) from I.hok a _ ea);exact PySem.W.kia_one PySem.W.kitx_list I.kIn ⟨_,h1,rfl⟩ e (λz=>nomatch z) h
 | @tup a xs ea =>
  cases (show u=Value.ref a from rx);obtain ⟨_,_,_,p⟩:=(show ObjOk X.prog X.w H s.heap a (.tup xs) from I.hok a _ ea);obtain ⟨o,h1,h2,_⟩:=p;exact PySem.W.kia_one PySem.W.kitx_tuple I.kIn ⟨o,h1,h2⟩ e (λz=>nomatch z) h
 | @dK a kvs ea =>
  cases (show u=Value.ref a from rx);obtain ⟨_,_,vs,_,p⟩:=(show ObjOk X.prog X.w H s.heap a (.dK kvs) from I.hok a _ ea);obtain ⟨o,es,ep,h1,h2,_⟩:=p;exact PySem.W.kia_one PySem.W.kitx_dict I.kIn ⟨o,h1,h2.1⟩ e (λz=>nomatch z) h
 | @dT a kvs ea =>
  cases (show u=Value.ref a from rx);obtain ⟨_,_,xs,_,o,es,ep,h1,h2,_⟩:=(show ObjOk X.prog X.w H s.heap a (.dT kvs) from I.hok a _ ea);exact PySem.W.kia_one PySem.W.kitx_dict I.kIn ⟨o,h1,h2.1⟩ e (λz=>nomatch z) h
 | @ins a C dx fs ea cl ha hn htk hm =>
  cases (show u=Value.ref a from rx);obtain ⟨mA,O,_⟩:=ycU I.hok ea;obtain ⟨od,J,_⟩:=O.look;exact PySem.W.kia_one (PySem.W.kitx_own (cl.get _) cl.hd ha hn htk hm) I.kIn J e (λz=>nomatch z) h
end
structure Room (k:Nat) (A:Around):Prop where
 hd:A.handled=none
 dp:A.depth+3*k+5<recursionLimit
 un:A.units+16*k+200<cLine
theorem Room.deeper {k:Nat} {A:Around} (r:Room (k+1) A) (env:Env):Room k (A.deeper env) :=
 ⟨r.hd,by have:=r.dp;show A.depth+1+3*k+5<_;omega,by have:=r.un;show A.units+3+16*k+200<_;omega⟩
theorem Room.depth {k:Nat} {A:Around} (r:Room k A):A.depth<recursionLimit:=by have:=r.dp;omega
theorem Room.units {k:Nat} {A:Around} (r:Room k A):A.units+64<cLine:=by have:=r.un;omega
def tNil:TA:=λ_ H Q=>Q [] H
def yd1 (ta:TE) (tr:TA):TA:=λσ H Q=>ta σ H λx H1=>tr σ H1 λxs H2=>Q (x::xs) H2
section
variable {X:Cx} {e:Expr} {es:List Expr} {te:TE} {t:TA} {pos:Pos}
theorem yaa:PA X [] tNil:=λ_ _ _ _ H Q I h=>Calls.spliced_nil ⟨[],H,I,.nil,h⟩
theorem yH (ha : PE X e te) (hr : PA X es t) (hs : starEach (e :: es) X.env = (false, eval e X.env) :: starEach es X.env := by rfl) : PA X (e :: es) (yd1 te t) := by
 intro pos pins s σ H Q I h;rw [hs];show wpAny _ _ (spliced ((false,eval e X.env)::backTo pos (starEach es X.env))) _ _ s;refine Calls.spliced_cons (thn (ha pins s σ H _ I h) λu s1 ⟨x,H1,I1,r1,q1⟩=>?_);exact thn (hr pos pins s1 σ H1 _ I1 q1) λus s2 ⟨xs,H2,I2,r2,q2⟩=>⟨x::xs,H2,I2,.cons r1 r2,q2⟩
def jep (t:TA):TE:=λσ H Q=>t σ H λxs H1=>xs.length<=sizeLine/\∀ p,H1 p=none->Q (.ref p) (upd H1 p (.tup xs))
def zeq (t:TA):TE:=λσ H Q=>t σ H λxs H1=>xs.length<=sizeLine/\∀ p,H1 p=none->Q (.ref p) (upd H1 p (.lst xs))
theorem jdr {x1} (h:PA X es t):PE X (.Tuple es x1 pos) (jep t):=by
 intro pins s σ H Q I hq;refine wpAny_Tuple_spliced (thn (h pos pins s σ H _ I hq) λus s1 ⟨xs,H1,I1,r,z,q⟩=>⟨by rw [<-r.length];exact z,?_⟩);have hf:H1 s1.heap.objs.size=none:=I1.hok.fresh (wF _);refine ⟨.ref s1.heap.objs.size,upd H1 s1.heap.objs.size (.tup xs),I1.laid (t':=s1.toks) (λb u e=>wm _ e) (wF _) ?_,rfl,q _ hf⟩;exact ⟨z,us,r,⟨_,wx _ rfl,rfl,rfl,_,rfl⟩⟩
theorem zcL (h:PA X es t):PE X (.List es pos) (zeq t):=by
 intro pins s σ H Q I hq;refine wpAny_List_spliced (thn (h pos pins s σ H _ I hq) λus s1 ⟨xs,H1,I1,r,z,q⟩=>⟨by rw [<-r.length];exact z,?_⟩);have hf:H1 s1.heap.objs.size=none:=I1.hok.fresh (wF _);refine ⟨.ref s1.heap.objs.size,upd H1 s1.heap.objs.size (.lst xs),I1.laid (t':=s1.toks) (λb u e=>wm _ e) (wF _) ?_,rfl,q _ hf⟩;exact ⟨z,us,0,r,wx _ rfl⟩
end
abbrev Sp:=List V->Hp->VK->XK->Prop
abbrev CXT:=List Env->Hp->Shared->XK->Value->Shared->Prop
structure Env0 (P:Program) (w:World) (K:Frag) (mg:Str->Option Value) (base:Heap) (A:Around) (outer:List Env) (s:Shared) (H:Hp):Prop where
 frames:A.frames=some outer
 mod:Mod K mg base
 bs:∀ b o,base.get? b=some o->s.heap.get? b=some o/\H b=none
 bsz:base.objs.size<=s.heap.objs.size
 funs:s.heap.FunFrames base outer
 frf:∀ b∈frs outer,H b=none
 hok:HOk P w H s.heap
 bare:AllBare s.gens
def CE (outer:List Env) (P:Program) (w:World) (H:Hp) (s:Shared) (Q:VK) (u:Value) (s':Shared):Prop :=
 ∃ v H',s'.os=s.os/\AllBare s'.gens/\Un (frs outer) [] H H' s.heap s'.heap/\HOk P w H' s'.heap/\RelV v u/\Q v H'
def CR (CX:CXT) (outer:List Env) (P:Program) (w:World) (H:Hp) (s:Shared) (Q:VK) (E:XK) (r:Result) (s':Shared):Prop :=
 match r with
 | .ok (.ret u)=>CE outer P w H s Q u s'
 | .ok _=>False
 | .error e=>CX outer H s E e s'
structure FnOk (P:Program) (w:World) (K:Frag) (mg:Str->Option Value) (base:Heap) (CX:CXT) (k:Nat) (f:Addr) (fd:FuncData) (ps:List Str) (sp:Sp):Prop where
 len:∀ vs H Q E,sp vs H Q E->vs.length=ps.length
 run:∀ (A:Around) (outer:List Env) (s:Shared) (H:Hp) (args:Args) (us:List Value) (vs:List V) (Q:VK) (E:XK),Room k A->Env0 P w K mg base A outer s H->BindsTo s fd args (ps.zip us)->Vals vs us->sp vs H Q E ->
  codeAny (model P w) A (.call (.ref f) args) (CR CX outer P w H s Q E) s
section
variable {X:Cx} {pins:List (Addr×Obj)} {σ:St} {H:Hp} {s s':Shared}
theorem Inv.env0 (I:Inv X pins σ H s):Env0 X.prog X.w X.K X.mg X.base X.A X.stack s H :=
 ⟨I.ok.frames,I.ok.mod,I.bs,wU I.ok.bsz I.sz,I.stack,I.stkFree,I.hok,I.bare⟩
theorem Inv.after {Q:VK} {u:Value} (I:Inv X pins σ H s) (h:CE X.stack X.prog X.w H s Q u s'):EP X pins σ Q u s':=by
 obtain ⟨v,H',os,bare,un,hok,r,q⟩:=h;obtain ⟨hh,g,d,t,os'⟩:=s';obtain rfl:os'=s.os:=os;exact ⟨v,H',I.call (h':=hh) (g':=g) (d':=d) (t':=t) (ch:=[]) un hok bare (λb z=>absurd z (by simp)),r,q⟩
end
def jd1 (sp:Sp) (dvs:List V) (E:XK) (t:TA):TE:=λσ H Q=>t σ H λvs H1=>sp (vs++dvs) H1 Q E
def Binds (K:Frag) (fd:FuncData) (ps:List Str) (ds:List Value):Prop :=
 ∀ (s:Shared) (us:List Value),K.In s.heap->(us++ds).length=ps.length->BindsTo s fd ⟨us,[]⟩ (ps.zip (us++ds))
theorem Binds.all {K:Frag} {fd:FuncData} {ps:List Str} (h:∀ us:List Value,us.length=ps.length->bindArgs fd ⟨us,[]⟩=pure (ps.zip us)):Binds K fd ps []:=λs us _ hl=>by
 rw [List.append_nil] at hl ⊢;exact .of_eq (h us hl)
def jb0 (CX:CXT) (X:Cx) (E:XK):Prop:=∀ (pins:List (Addr×Obj)) (σ:St) (H:Hp) (s:Shared) (e:Value) (s':Shared),Inv X pins σ H s->CX X.stack H s E e s'->X.xe e s'
section
variable {X:Cx} {CX:CXT} {k:Nat} {f C:Addr} {fd:FuncData} {ps:List Str} {sp:Sp} {dvs:List V} {ds:List Value} {E:XK} {x m:Str} {p pos apos:Pos} {e o:Expr} {es:List Expr} {ta:TE} {t:TA}
theorem zds {pins:List (Addr×Obj)} {σ:St} {H:Hp} {s:Shared} {Q:VK} {us:List Value} {vs:List V} (F:FnOk X.prog X.w X.K X.mg X.base CX k f fd ps sp) (hr:Room k X.A) (hb:Binds X.K fd ps ds) (hd:Vals dvs ds) (hx:jb0 CX X E)
  (I:Inv X pins σ H s) (r:Vals vs us) (h:sp (vs++dvs) H Q E):wpAny (model X.prog X.w) X.A (call (.ref f) us) (EP X pins σ Q) X.xe s:=by
 have r2:Vals (vs++dvs) (us++ds):=r.append hd;have hl:(us++ds).length=ps.length:=by rw [<-r2.length];exact F.len _ _ _ _ h
 refine wpAny_call (codeAny_mono (F.run X.A X.stack s H ⟨us,[]⟩ (us++ds) (vs++dvs) Q E hr I.env0 (hb s us I.kIn hl) r2 h) λr s' hq=>?_);cases r with
 | error e=>exact hx pins σ H s e s' I hq
 | ok fl =>
  cases fl with
  | ret u=>exact I.after hq
  | next=>exact False.elim hq
  | brk=>exact False.elim hq
  | cont=>exact False.elim hq
theorem jcU (F:FnOk X.prog X.w X.K X.mg X.base CX k f fd ps sp) (hr:Room k X.A) (hg:Gl X x) (hm:X.mg x=some (.ref f)) (hk:PySem.W.keepIn X.K (.ref f)=true) (hb:Binds X.K fd ps ds) (hd:Vals dvs ds) (hx:jb0 CX X E)
  (ha:PA X (e::es) t) (hdb:(x==("__debug__":Str))=false:=by decide) (he:starEach (e::es) X.env=(false,eval e X.env)::starEach es X.env:=by rfl) (hpl:(backTo pos (starEach es X.env)).any (·.1)=false:=by rfl) :
  PE X (.Call (.Name x p) (e::es) [] pos) (jd1 sp dvs E t):=by
 intro pins s σ H Q I h;refine wpAny_Call_Name_kw (qaq I hg hm ?_ hdb);refine PySem.W.callWith_K (h₀:=X.base) I.ok.mod.kin hk (thn (ha pos pins s σ H _ I h) λus s1 ⟨vs,H1,I1,r,q⟩=>⟨I1.kIn,?_⟩) he hpl;exact zds F hr hb hd hx I1 r q
end
structure FnScope (N P:List Str) (sc:Scope):Prop where
 kind:sc.kind=.function
 co:sc.isCoroutine=false
 gen:sc.isGenerator=false
 nd:N.Nodup
 pre:N.take P.length=P
 par:∀ x∈P,sc.names.lookup x=some .local\/sc.names.lookup x=some .cell
 nofree:∀ y∈sc.names,y.2≠.free
theorem qba {kindOf:Str->Option NameKind} {x:Str}:∀ {binds:List (Str×Value)} {m:Str->Option Value},(∀ v,(x,v)∉binds)->bindL kindOf binds m x=m x
 | [],_,_=>rfl
 | (n,v)::r,m,h=>by
  unfold bindL;rw [qba λw hw=>h w (wK _ hw)];split
  ·have:x≠n:=by rintro rfl;exact h v wR
   simp [this]
  ·rfl
theorem yba {kindOf:Str->Option NameKind} {x:Str}:∀ {binds:List (Str×Value)} {m:Str->Option Value},(∀ v,(x,v)∉binds)->bindC kindOf binds m x=m x
 | [],_,_=>rfl
 | (n,v)::r,m,h=>by
  unfold bindC;rw [yba λw hw=>h w (wK _ hw)];split
  ·rfl
  ·have:x≠n:=by rintro rfl;exact h v wR
   simp [this]
theorem jba {kindOf:Str->Option NameKind} {x:Str} {v:Value}:∀ {P:List Str} {vs:List Value} {i:Nat} {m:Str->Option Value},P.Nodup->P[i]?=some x->vs[i]?=some v->kindOf x=some .local ->
  bindL kindOf (P.zip vs) m x=some v
 | [],_,_,_,_,h,_,_=>by simp at h
 | _::_,[],_,_,_,_,h,_=>by simp at h
 | p::P,w::vs,0,m,nd,h1,h2,hk=>by
  simp at h1 h2;subst h1;subst h2
  show bindL kindOf ((p,w)::P.zip vs) m p=_;unfold bindL;rw [qba λv hv=>(List.nodup_cons.mp nd).1 (List.of_mem_zip hv).1,if_pos hk]
  simp
 | p::P,w::vs,i+1,m,nd,h1,h2,hk=>by
  show bindL kindOf ((p,w)::P.zip vs) m x=_;unfold bindL;exact jba (i:=i) (List.nodup_cons.mp nd).2 (by simpa using h1) (by simpa using h2) hk
theorem zbb {kindOf:Str->Option NameKind} {x:Str} {v:Value}:∀ {P:List Str} {vs:List Value} {i:Nat} {m:Str->Option Value},P.Nodup->P[i]?=some x->vs[i]?=some v->kindOf x≠some .local ->
  bindC kindOf (P.zip vs) m x=some v
 | [],_,_,_,_,h,_,_=>by simp at h
 | _::_,[],_,_,_,_,h,_=>by simp at h
 | p::P,w::vs,0,m,nd,h1,h2,hk=>by
  simp at h1 h2;subst h1;subst h2
  show bindC kindOf ((p,w)::P.zip vs) m p=_;unfold bindC;rw [yba λv hv=>(List.nodup_cons.mp nd).1 (List.of_mem_zip hv).1,if_neg hk]
  simp
 | p::P,w::vs,i+1,m,nd,h1,h2,hk=>by
  show bindC kindOf ((p,w)::P.zip vs) m x=_;unfold bindC;exact zbb (i:=i) (List.nodup_cons.mp nd).2 (by simpa using h1) (by simpa using h2) hk
noncomputable def start (N:List Str) (vs:List V):St:=vs.map some++List.replicate (N.length-vs.length) none
noncomputable def jco (CX:CXT) (P:Program) (w:World) (K:Frag) (mg:Str->Option Value) (base:Heap) (N:List Str) (qual:Str) (scope:Scope) (f:Addr) (cd:Value) (A:Around) (outer:List Env) (s:Shared) (H:Hp) (E:XK):Cx where
 prog:=P
 w:=w
 K:=K
 mg:=mg
 base:=base
 A:=A.deeper (envOfC qual scope s.heap.objs.size f cd)
 N:=N
 s₀:=s
 H₀:=H
 env:=envOfC qual scope s.heap.objs.size f cd
 outer:=outer
 stack:=envOfC qual scope s.heap.objs.size f cd::outer
 ex:=[]
 calm:=true
 fn:=λ_=>true
 pn:=[]
 xe:=λe s'=>wpAny (model P w) (A.deeper (envOfC qual scope s.heap.objs.size f cd)) (leaving (envOfC qual scope s.heap.objs.size f cd) e) (λ_ s''=>CX outer H s E e s'') (λe' s''=>CX outer H s E e' s'') s'
theorem zbA {sc:Scope} {n:Nat} {x:Str} (h:sc.names.lookup x=some .cell):∃ c,(cellsFrom n sc.names []).lookup x=some c:=by
 have q:=PySem.W.cellsFrom_some sc.names n [] (.inl h);exact vc.mp q
theorem zb1 {CX:CXT} {P:Program} {w:World} {K:Frag} {mg:Str->Option Value} {base:Heap} {N ps:List Str} {qual:Str} {scope:Scope} {f:Addr} {cd:Value} {A:Around} {outer:List Env} {s s1:Shared} {H:Hp} {E:XK} {us:List Value} {vs:List V}
  (S:FnScope N ps scope) (hd:A.handled=none) (e0:Env0 P w K mg base A outer s H) (hl:vs.length=ps.length) (r:Vals vs us)
  (x:InCallC s s.heap.objs.size (bindL (envOfC qual scope s.heap.objs.size f cd).kindOf (ps.zip us) λ_=>none) (cellsFrom (s.heap.objs.size+1) scope.names []) (bindC (envOfC qual scope s.heap.objs.size f cd).kindOf (ps.zip us) λ_=>none) s1) :
  Inv (jco CX P w K mg base N qual scope f cd A outer s H E) [] (start N vs) H s1:=by
 have hpl:ps.length<=N.length:=by have:=congrArg List.length S.pre;rw [List.length_take] at this;omega
 obtain ⟨h1,tk,rfl,hk⟩:=x.done;have noA:∀ b:Addr,b∉(jco CX P w K mg base N qual scope f cd A outer s H E).ex:=λb z=>absurd (show b∈([]:List Addr) from z) (by simp)
 refine ⟨⟨e0.mod,S.kind,rfl,rfl,wF _,λy z c h1 h2=>?_,λy hy=>?_,λy c _ h=>?_,λ_=>hd,Around.frames_deeper e0.frames,.inr ⟨rfl,rfl⟩,λb z=>absurd z (noA b),e0.bs,e0.bsz,λb _ _=>noA b,λb z=>absurd z (noA b),e0.funs,e0.frf⟩,
  rfl,e0.bare,Un.kept hk,⟨_,x.toInCall.ns,λi y v h1 h2 h3=>?_⟩,λy c h=>⟨_,x.cell y c h⟩,e0.hok.fresh (wF _),λy c h=>?_,λp hp=>absurd (show p∈([]:List (Addr×Obj)) from hp) (by simp),e0.hok.kept hk,?_⟩
 ·exact name_of_addr x.apart (w8 h1) (w8 h2)
 ·have hy:scope.names.lookup y=some .cell\/scope.names.lookup y=some .free:=hy;rcases hy with hy | hy
  ·exact zbA hy
  ·exact absurd rfl (S.nofree _ (w8 hy))
 ·exact Nat.le_of_lt (x.above y c (w8 h))
 ·have hi:i<vs.length:=by
   unfold start at h2
   by_cases hi:i<vs.length
   ·exact hi
   ·rw [List.getElem?_append_right (by simpa using hi)] at h2;rw [List.getElem?_replicate] at h2;split at h2<;>cases h2
  have ha:vs[i]?=some v:=by
   unfold start at h2;rw [vn (by simpa using hi),wz] at h2;cases e:vs[i]? with
   | none=>rw [e] at h2;cases h2
   | some a=>rw [e] at h2;cases h2;rfl
  obtain ⟨u,hu,rv⟩:=r.get ha
  have hp:ps[i]?=some y:=by
   rw [<-S.pre,List.getElem?_take_of_lt (by omega)];exact h1
  have ndP:ps.Nodup:=by rw [<-S.pre];exact S.nd.sublist (List.take_sublist _ _)
  refine ⟨u,rv,?_⟩;rcases S.par y (wV hp) with k | k
  ·exact .inl ⟨k,jba ndP hp hu k⟩
  ·obtain ⟨c,e⟩:=zbA (n:=s.heap.objs.size+1) k;refine .inr ⟨.inl k,c,e,?_⟩;have q:=x.cell y c e;rw [zbb ndP hp hu (by show scope.names.lookup y≠_;rw [k];decide)] at q;exact q
 ·exact e0.hok.fresh (Nat.le_of_lt (x.above y c (w8 h)))
 ·unfold start;show _=N.length;rw [wW,wG,List.length_replicate];omega
theorem zd2 {CX:CXT} {P:Program} {w:World} {K:Frag} {mg:Str->Option Value} {base:Heap} {k:Nat} {f:Addr} {name qual:Str} {params:Arguments} {body:List Stmt} {scope:Scope} {dV kV doc pm cdv ct oc:Value} {an od:Option Addr}
  {osl:Array (Option Value)} {N ps:List Str} {sp:Sp} (lk:K.lookup f=some ⟨oc,od,.func (PySem.W.fnOf name qual params body scope dV kV doc pm an cdv ct),osl⟩) (hcd:PySem.W.codeIn K cdv qual=true) (S:FnScope N ps scope)
  (len:∀ vs H Q E,sp vs H Q E->vs.length=ps.length)
  (hbody:∀ (A:Around) (outer:List Env) (s:Shared) (H:Hp) (vs:List V) (Q:VK) (E:XK),Room k (A.deeper (envOfC qual scope s.heap.objs.size f cdv))->sp vs H Q E ->
   ∃ t,PSs (jco CX P w K mg base N qual scope f cdv A outer s H E) body t/\t { nx:=λ_ H'=>Q .non H',rt:=Q } (start N vs) H) :
  FnOk P w K mg base CX (k+1) f (PySem.W.fnOf name qual params body scope dV kV doc pm an cdv ct) ps sp:=by
 refine ⟨len,λA outer s H args us vs Q E hr e0 hb r hsp=>?_⟩;have hl:=len _ _ _ _ hsp;have KX:K.In s.heap:=e0.mod.kin.keeps λb o e=>(e0.bs b o e).1
 have lim:s.heap.NoLimit:=e0.mod.nolimit.keeps λb o e=>(e0.bs b o e).1
 have hkind:∀ y∈ps.zip us,scope.names.lookup y.1=some .local\/(scope.names.lookup y.1=some .cell/\((cellsFrom (s.heap.objs.size+1) scope.names []).lookup y.1).isSome=true):=λ⟨n,v⟩ hy=>by
  rcases S.par n (List.of_mem_zip hy).1 with q | q
  ·exact .inl q
  ·exact .inr ⟨q,PySem.W.cellsFrom_some _ _ _ (.inl q)⟩
 refine codeAny_call_function hr.depth (KX _ _ lk) rfl S.co S.gen rfl (PySem.W.codeRec_of KX hcd) (hb _ _ _ _ ?_);refine wpAny_newFunctionEnv_cells S.kind hkind λenv he s1 x=>?_
 subst he;refine ⟨lim.keeps x.toInCall.keep,codeAny_func ?_⟩;obtain ⟨t,ht,hq⟩:=hbody A outer s H vs Q E (hr.deeper _) hsp;have I:Inv (jco CX P w K mg base N qual scope f cdv A outer s H E) [] (start N vs) H s1:=zb1 S hr.hd e0 hl r x;refine wpAny_mono (ht [] s1 (start N vs) H _ I hq) (λfl s' hs=>?_) λe s' hs=>hs
 have fin:∀ {σ':St} {H':Hp} {v:V} {u:Value},Inv (jco CX P w K mg base N qual scope f cdv A outer s H E) [] σ' H' s'->RelV v u->Q v H'->CE outer P w H s Q u s' :=
  λ{σ' H' v u} J rv q=>⟨v,H',J.os,J.bare,J.base,J.hok,rv,q⟩
 cases fl with
 | ret u =>
  obtain ⟨v,σ',H',J,rv,q⟩:=hs;exact fin J rv q
 | next =>
  obtain ⟨σ',H',J,q⟩:=hs;exact fin (v:=V.non) (u:=Value.none) J rfl q
 | brk =>
  obtain ⟨_,_,_,q⟩:=hs;exact False.elim q
 | cont =>
  obtain ⟨_,_,_,q⟩:=hs;exact False.elim q
section
variable {X:Cx} {x:Str} {p pos:Pos} {e:Expr} {es:List Expr} {t:TA} {id T:String} {r:List V->Hp->VK->Prop}
def tCB (r:List V->Hp->VK->Prop) (t:TA):TE:=λσ H Q=>t σ H λvs H1=>r vs H1 Q
theorem jae (hc : jJ X (.builtin id) r) (hg : Gl X x) (hm : X.mg x = none) (hv : bootBuiltins x = some (.builtin id)) (ha : PA X (e :: es) t) (hn : x ≠ "__name__" := by decide) (hdb : (x == ("__debug__" : Str)) = false := by decide)
  (he:starEach (e::es) X.env=(false,eval e X.env)::starEach es X.env:=by rfl) (hpl:(backTo pos (starEach es X.env)).any (·.1)=false:=by rfl):PE X (.Call (.Name x p) (e::es) [] pos) (tCB r t):=by
 intro pins s σ H Q I h;refine wpAny_Call_Name_kw (qaB I hg hm hv ?_ hn hdb);exact PyProof.Rows.callWith_builtin1 (thn (ha pos pins s σ H _ I h) λus s1 ⟨vs,H1,I1,r1,q1⟩=>hc pins s1 σ H1 vs us Q I1 r1 q1) he hpl
theorem yL (hc : jJ X (.type T) r) (hg : Gl X x) (hm : X.mg x = none) (hv : bootBuiltins x = some (.type T)) (ha : PA X (e :: es) t) (hn : x ≠ "__name__" := by decide) (hdb : (x == ("__debug__" : Str)) = false := by decide)
  (he:starEach (e::es) X.env=(false,eval e X.env)::starEach es X.env:=by rfl) (hpl:(backTo pos (starEach es X.env)).any (·.1)=false:=by rfl):PE X (.Call (.Name x p) (e::es) [] pos) (tCB r t):=by
 intro pins s σ H Q I h;refine wpAny_Call_Name_kw (qaB I hg hm hv ?_ hn hdb);exact PyProof.Rows.callWith_type1 (thn (ha pos pins s σ H _ I h) λus s1 ⟨vs,H1,I1,r1,q1⟩=>hc pins s1 σ H1 vs us Q I1 r1 q1) he hpl
end
end L2
namespace HT
open PySem PyProof.Rows
theorem qbA (A:Around) (s:Shared) (a:Int) (t:Tok) (c:Int) (u:Tok) (prog:Program) (w:World) (E:Value->Shared->Prop) (Q:Value->Shared->Prop) (h:Q (.bool (decide (a<c))) s) :
  wpAny (model prog w) A (richCompare .Lt (.int a t) (.int c u)) Q E s :=
 (PyProof.Rows.lt_int h:wpAny (model prog w) A (compareOp .Lt (.int a t) (.int c u)) Q E s)
section
variable {prog:Program} {w:World} {A:Around} {E:Value->Shared->Prop} {s:Shared}
theorem zcV {t b:Addr} {vs ws:List Value} {Q:Value->Shared->Prop} (ht:IsTup s.heap t vs.toArray) (hb:IsTup s.heap b ws.toArray) (hv:vs≠[])
  (h1:ws=[]->Q (.ref t) s) (h2:ws≠[]->Q (.ref s.heap.objs.size) { s with heap:=s.heap.push { cls:=.type "tuple",data:=.seq (vs++ws).toArray } })
  (hsz:vs.length+ws.length<=sizeLine):wpAny (model prog w) A (binaryOp .Add (.ref t) (.ref b)) Q E s:=by
 obtain ⟨⟨cls,dd,data,sl⟩,ho,hc,n,hd⟩:=id ht;obtain ⟨⟨cls2,dd2,data2,sl2⟩,ho2,hc2,n2,hd2⟩:=id hb;simp only at hc hd hc2 hd2;subst hc hd hc2 hd2;have e:vs.toArray++ws.toArray=(vs++ws).toArray:=by simp
 by_cases hw:ws=[]
 ·exact concat_meets ⟨_,ho,rfl⟩ ⟨_,ho2,rfl⟩ noFill_tuple_add seq_tuple_add PySem.F.slot_tuple_add PySem.F.entry_tuple_add (PySem.F.args_tuple_add_2 _ _)
   (tuple_addW1 t b vs.toArray ws.toArray n n2 dd dd2 sl sl2 (by simpa using hv) (by simp [hw])) ⟨ho,ho2,h1 hw⟩
 ·refine concat_meets ⟨_,ho,rfl⟩ ⟨_,ho2,rfl⟩ noFill_tuple_add seq_tuple_add PySem.F.slot_tuple_add PySem.F.entry_tuple_add (PySem.F.args_tuple_add_2 _ _)
   (tuple_addW2 t b vs.toArray ws.toArray n n2 dd dd2 sl sl2 (by simpa using hv) (by simpa using hw) (by rw [vo,vo];exact hsz)) ⟨ho,ho2,?_⟩
  rw [e];exact h2 hw
noncomputable def sIx (n d:Nat):Option Int->Nat
 | none=>d
 | some v=>if v<0 then (v+(n:Int)).toNat else min v.toNat n
theorem qds (n d:Nat) (hd:d<=n) (o:Option Int):sIx n d o<=n:=by
 cases o with
 | none=>exact hd
 | some v =>
  show (if v<0 then (v+(n:Int)).toNat else min v.toNat n)<=n
  by_cases hv:v<0
  ·rw [if_pos hv];omega
  ·rw [if_neg hv];exact Nat.min_le_right _ _
theorem qb1 (v:Int) (n d:Nat):(if v<0 then max (v+(n:Int)) 0 else min v (n:Int))=((sIx n d (some v):Nat):Int):=by
 show (if v<0 then max (v+(n:Int)) 0 else min v (n:Int))=(((if v<0 then (v+(n:Int)).toNat else min v.toNat n):Nat):Int)
 by_cases hv:v<0
 ·simp only [if_pos hv];omega
 ·simp only [if_neg hv];omega
theorem ybP (lo hi:Option Int) (n:Nat):Builtin.Slice.sliceAdjust lo hi 1 (n:Int)=(((sIx n 0 lo:Nat):Int),((sIx n n hi:Nat):Int)):=by
 have h1:¬ ((1:Int)<0):=by omega
 unfold Builtin.Slice.sliceAdjust;simp only [h1,if_false];refine Prod.ext ?_ ?_
 ·cases lo with
  | none=>rfl
  | some v=>exact qb1 v n 0
 ·cases hi with
  | none=>rfl
  | some v=>exact qb1 v n n
theorem jbP (i j:Nat):Builtin.Slice.slicePlaces (i:Int) (j:Int) 1=j-i:=by
 unfold Builtin.Slice.slicePlaces;have h1:(1:Int)>0:=by omega
 simp only [h1,if_true,Int.ediv_one];split<;>omega
theorem zaR {v:Value} {o:Option Int} {Q:Option Int->Shared->Prop} (p:IsPart v o) (h:Q o s):wpAny (model prog w) A (Builtin.Slice.slicePartIndex v) Q E s:=by
 cases p with
 | none=>exact slicePart_none h
 | int i t=>exact slicePart_int h
theorem z0 {sl:Addr} {vl vu:Value} {lo hi:Option Int} {n:Nat} {Q:Int×Int×Nat->Shared->Prop} (hs:s.heap.IsSliceOf sl vl vu .none) (pl:IsPart vl lo) (pu:IsPart vu hi)
  (h:Q (((sIx n 0 lo:Nat):Int),1,sIx n n hi-sIx n 0 lo) s):wpAny (model prog w) A (Builtin.Slice.sliceApplied (.ref sl) (pure (n:Int))) Q E s:=by
 obtain ⟨os,hos,hcs,hds⟩:=id hs;unfold Builtin.Slice.sliceApplied Builtin.Slice.sliceFields;refine wg (wg (wpAny_field hos hds (x:=vl) rfl (wg (wpAny_field hos hds (x:=vu) rfl (wg (wpAny_field hos hds (x:=.none) rfl (wo ?_)))))));refine wg (slicePart_none ?_);show wpAny _ _ (if ((1:Int)==0)=true then _ else _) _ _ s;rw [if_neg (by decide)];refine wg (zaR pl (wg (zaR pu (wg (wo ?_)))));show wpAny _ _ (match Builtin.Slice.sliceAdjust lo hi 1 (n:Int) with | (lo,hi)=>pure (lo,(1:Int),Builtin.Slice.slicePlaces lo hi 1)) _ _ s;rw [ybP lo hi n];show wpAny _ _ (pure (((sIx n 0 lo:Nat):Int),(1:Int),Builtin.Slice.slicePlaces ((sIx n 0 lo:Nat):Int) ((sIx n n hi:Nat):Int) 1)) _ _ s;rw [jbP];exact wo h
theorem qcr (xs:Array Value) (i k:Nat):((List.range k).filterMap λ(m:Nat)=>xs[((i:Int)+(m:Int)*1).toNat]?).toArray=((xs.toList.drop i).take k).toArray:=by
 have e:(λ(m:Nat)=>xs[((i:Int)+(m:Int)*1).toNat]?)=λm=>xs[i+m]?:=by
  funext m
  have:((i:Int)+(m:Int)*1).toNat=i+m:=by omega
  rw [this]
 rw [e]
 have:=pick_run xs i k
 rw [List.filterMap_map] at this;have e2:((λx=>xs[x]?)∘λx=>i+x)=λm=>xs[i+m]?:=rfl
 rw [e2] at this;rw [this]
theorem yaq {t sl:Addr} {items:Array Value} {vl vu:Value} {lo hi:Option Int} {Q:Value->Shared->Prop} (ht:IsTup s.heap t items) (hs:s.heap.IsSliceOf sl vl vu .none) (pl:IsPart vl lo) (pu:IsPart vu hi)
  (hw:¬ (sIx items.size 0 lo=0/\sIx items.size items.size hi=items.size))
  (h:Q (.ref s.heap.objs.size) { s with heap:=s.heap.push { cls:=.type "tuple",data:=.seq ((items.toList.drop (sIx items.size 0 lo)).take (sIx items.size items.size hi-sIx items.size 0 lo)).toArray } })
  (hsz:items.size<=sizeLine):wpAny (model prog w) A (getItem (.ref t) (.ref sl)) Q E s:=by
 have htake:sizeOk (.seq ((items.toList.drop (sIx items.size 0 lo)).take (sIx items.size items.size hi-sIx items.size 0 lo)).toArray):=by
  show ((items.toList.drop (sIx items.size 0 lo)).take (sIx items.size items.size hi-sIx items.size 0 lo)).toArray.size<=sizeLine;rw [vo,List.length_take,List.length_drop,Array.length_toList];omega
 have hj:sIx items.size items.size hi<=items.size:=qds _ _ (wF _) hi;obtain ⟨os,hos,hcs,hds⟩:=id hs;have hTs:s.TypeIs (.ref sl) "slice":=⟨os,hos,hcs⟩;unfold getItem
 try with_reducible refine wpAny_holding ?_
 first | refine wg (wo ?_) | skip
 refine wg (wpAny_sequenceKey ht.typeIs (by decide) ?_)
 refine wg (va (name:=Str.ofString "__getitem__") ht.typeIs PyProof.Rows.slot_tuple_getitem
  (wY PyProof.Rows.slot_tuple_getitem ht.typeIs entry_tuple_getitem ?_ (args_tuple_getitem _ _)))
 show wpAny _ _ (Builtin.Tuple.tupleItemsOf (.ref t) >>= _) _ _ s;refine wg (tupleItemsOf_ ht ?_);refine wg (wpAny_typeOf hTs ?_);rw [if_pos (by decide)];refine wg (z0 hs pl pu ?_)
 have hno:¬ ((((sIx items.size 0 lo:Nat):Int)==0&&(1:Int)==1&&(sIx items.size items.size hi-sIx items.size 0 lo)==items.size)=true):=by
  intro q;rw [wj,wj] at q;have q1:((sIx items.size 0 lo:Nat):Int)=0:=eq_of_beq q.1.1;have q2:sIx items.size items.size hi-sIx items.size 0 lo=items.size:=eq_of_beq q.2;exact hw ⟨by omega,by omega⟩
 show wpAny _ _ (if (((sIx items.size 0 lo:Nat):Int)==0&&(1:Int)==1&&(sIx items.size items.size hi-sIx items.size 0 lo)==items.size)=true then _ else _) _ _ s;rw [if_neg hno,qcr]
 first
  | exact wg (m:=Builtin.Tuple.tupleExact _) (ve (wo ⟨_,rfl,wo h⟩) htake)
  | exact wg (m:=Builtin.Tuple.tupleExact _) (ve (wg (wo (wo ⟨_,rfl,wo h⟩))) htake)
  | exact wg (wg (m:=Builtin.Tuple.tupleExact _) (ve (wo (wo ⟨_,rfl,wo h⟩)) htake))
  | exact wg (wg (m:=Builtin.Tuple.tupleExact _) (ve (wo ⟨_,rfl,wo h⟩) htake))
end
end HT
namespace L2
open PySem PySem.Spec PyProof.Rows
abbrev TO:=St->Hp->(Option Int->Hp->Prop)->Prop
def PO (X:Cx) (e:Option Expr) (t:TO):Prop :=
 ∀ (pins:List (Addr×Obj)) (s:Shared) (σ:St) (H:Hp) (Q:Option Int->Hp->Prop),Inv X pins σ H s->t σ H Q ->
  wpAny (model X.prog X.w) X.A (evalPart e X.env) (λu s'=>∃ o H',Inv X pins σ H' s'/\IsPart u o/\Q o H') X.xe s
def tNoPart:TO:=λ_ H Q=>Q none H
def qd2 (t:TE):TO:=λσ H Q=>t σ H λx H1=>∃ i,x=.int i/\Q (some i) H1
section
variable {X:Cx} {e:Expr} {te:TE} {lo hi:Option Expr} {tl th:TO} {pos p2:Pos}
theorem qcV:PO X none tNoPart:=by
 intro pins s σ H Q I h;rw [evalPart_none];exact wo ⟨none,H,I,.none,h⟩
theorem ycV (h:PE X e te):PO X (some e) (qd2 te):=by
 intro pins s σ H Q I hw;rw [evalPart_some];refine thn (h pins s σ H _ I hw) λu s1 ⟨x,H1,I1,r1,q1⟩=>?_
 obtain ⟨i,rfl,q⟩:=q1;obtain ⟨t,rfl⟩:=r1;exact ⟨some i,H1,I1,.int i t,q⟩
def SlR (X:Cx) (r:V->Option Int->Option Int->Hp->VK->Prop):Prop :=
 ∀ (pins:List (Addr×Obj)) (s:Shared) (σ:St) (H:Hp) (x:V) (v vl vu:Value) (lo hi:Option Int) (sl:Addr) (Q:VK),Inv X pins σ H s->RelV x v->s.heap.IsSliceOf sl vl vu .none->IsPart vl lo->IsPart vu hi->r x lo hi H Q ->
  ∃ T id,typeLookup (.type T) "__getitem__"=pure (some (.builtin id))/\s.TypeIs v T/\wpAny (model X.prog X.w) X.A (getItem v (.ref sl)) (EP X pins σ Q) X.xe s
def tSl (r:V->Option Int->Option Int->Hp->VK->Prop) (te:TE) (tl th:TO):TE:=λσ H Q=>te σ H λx H1=>tl σ H1 λl H2=>th σ H2 λu H3=>r x l u H3 Q
theorem ycr {r:V->Option Int->Option Int->Hp->VK->Prop} (hr:SlR X r) (he:PE X e te) (hl:PO X lo tl) (hu:PO X hi th):PE X (.Subscript e (.Slice lo hi none p2) pos) (tSl r te tl th):=by
 intro pins s σ H Q I h;refine Subscript_ (thn (he pins s σ H _ I h) λv s1 ⟨x,H1,I1,r1,q1⟩=>?_);refine wpAny_Slice (thn (hl pins s1 σ H1 _ I1 q1) λvl s2 ⟨l,H2,I2,pl,q2⟩=>thn (hu pins s2 σ H2 _ I2 q2) λvu s3 ⟨u,H3,I3,pu,q3⟩=>?_);rw [evalPart_none];refine wo ?_;have I4:Inv X pins σ H3 { s3 with heap:=s3.heap.push { cls:=.type "slice",data:=.fields #[vl,vu,.none] } }:=I3.kept (t':=s3.toks) λb ob q=>wm _ q
 obtain ⟨T,id,hT,ht,hg⟩:=hr pins { s3 with heap:=s3.heap.push { cls:=.type "slice",data:=.fields #[vl,vu,.none] } } σ H3 x v vl vu l u s3.heap.objs.size Q I4 r1 (Heap.IsSliceOf.new ..) pl pu q3;show wpAny (model X.prog X.w) X.A (subscriptTail e (.Slice lo hi none p2) v (.ref s3.heap.objs.size)) (EP X pins σ Q) X.xe { s3 with heap:=s3.heap.push { cls:=.type "slice",data:=.fields #[vl,vu,.none] } };exact tail_any (ops:=[.ref s3.heap.objs.size,v]) ht hT hg (by with_unfolding_all rfl)
noncomputable def zcp (xs:List V) (lo hi:Option Int):List V:=(xs.drop (HT.sIx xs.length 0 lo)).take (HT.sIx xs.length xs.length hi-HT.sIx xs.length 0 lo)
theorem zaC (xs:List V) (lo hi:Option Int):(zcp xs lo hi).length<=xs.length:=by
 unfold zcp;rw [List.length_take,List.length_drop];omega
def qeq (K:Frag):V->Option Int->Option Int->Hp->VK->Prop:=λx lo hi H Q=>∃ a xs,x=.ref a/\SqT K H a xs /\
 ¬ (HT.sIx xs.length 0 lo=0/\HT.sIx xs.length xs.length hi=xs.length)/\∀ p,H p=none->Q (.ref p) (upd H p (.tup (zcp xs lo hi)))
theorem yds:SlR X (qeq X.K):=by
 intro pins s σ H x v vl vu lo hi sl Q I rx hs pl pu h;obtain ⟨a,xs,rfl,hx,hw,q⟩:=h;cases rx;obtain ⟨its,r,ht,hz⟩:=I.tuple hx;have hlen:its.toArray.size=xs.length:=by rw [vo];exact r.length.symm
 refine ⟨"tuple",_,PyProof.Rows.slot_tuple_getitem.lookup,ht.typeIs,?_⟩;refine HT.yaq ht hs pl pu (by rw [hlen];exact hw) ?_ (by rw [hlen];exact hz);rw [hlen];refine ⟨.ref s.heap.objs.size,_,I.laid (t':=s.toks) (o:=.tup (zcp xs lo hi)) (λb ob q=>wm _ q) (wF _) ?_,rfl,q _ (I.hok.fresh (wF _))⟩;exact ⟨wU (zaC xs lo hi) hz,_,(r.drop (HT.sIx xs.length 0 lo)).take (HT.sIx xs.length xs.length hi-HT.sIx xs.length 0 lo),IsTupN.new _ _⟩
def yd2 (K:Frag):R2:=λx y H Q=>∃ a b xs ys,x=.ref a/\y=.ref b/\SqT K H a xs/\SqT K H b ys/\xs≠[]/\xs.length+ys.length<=sizeLine /\
 (ys=[]->Q (.ref a) H)/\(ys≠[]->∀ p,H p=none->Q (.ref p) (upd H p (.tup (xs++ys))))
theorem Vals.nil_iff {xs:List V} {us:List Value} (r:Vals xs us):us=[]↔xs=[]:=by
 cases r with
 | nil=>simp
 | cons _ _=>simp
theorem jcV:OpR X (binaryOp .Add) (yd2 X.K):=by
 intro pins s σ H x y v u Q I rx ry h;obtain ⟨a,b,xs,ys,rfl,rfl,ha,hb,hx,hz,q1,q2⟩:=h;cases rx;cases ry;obtain ⟨its,r1,p1,_⟩:=I.tuple ha;obtain ⟨its2,r2,p2,_⟩:=I.tuple hb;refine HT.zcV p1 p2 (λz=>hx (r1.nil_iff.mp z)) (λz=>⟨.ref a,H,I,rfl,q1 (r2.nil_iff.mp z)⟩) (λz=>?_) (by rw [<-r1.length,<-r2.length];exact hz);refine ⟨.ref s.heap.objs.size,_,I.laid (t':=s.toks) (o:=.tup (xs++ys)) (λb ob q=>wm _ q) (wF _) ?_,rfl,q2 (λw=>z (r2.nil_iff.mpr w)) _ (I.hok.fresh (wF _))⟩;exact ⟨by rw [wW];exact hz,_,r1.append r2,IsTupN.new _ _⟩
end
noncomputable def ixN (n:Nat) (i:Int):Option Nat:=if 0<=i then (if i<n then some i.toNat else none) else if -(n:Int)<=i then some (i+n).toNat else none
noncomputable def atI {α:Type} (xs:List α) (i:Int):Option α:=(ixN xs.length i).bind λj=>xs[j]?
theorem yb1 {n:Nat} {i:Int} {j:Nat} (h:ixN n i=some j):seqIndex? i n=some j/\j<n/\-(n:Int)<=i/\i<n:=by
 unfold ixN at h
 by_cases h0:0<=i
 ·rw [if_pos h0] at h
  by_cases h1:i<n
  ·rw [if_pos h1] at h;have e:i.toNat=j:=wC h;exact ⟨by rw [seqIndex_of h0 h1,e],by omega,by omega,h1⟩
  ·rw [if_neg h1] at h;cases h
 ·rw [if_neg h0] at h
  by_cases h1:-(n:Int)<=i
  ·rw [if_pos h1] at h;have e:(i+n).toNat=j:=wC h;exact ⟨by rw [seqIndex_neg (by omega) h1,e],by omega,h1,by omega⟩
  ·rw [if_neg h1] at h;cases h
theorem zbo {α:Type} {xs:List α} {i:Int} {v:α} (h:atI xs i=some v):∃ j,seqIndex? i xs.length=some j/\xs[j]?=some v/\j<xs.length/\-(xs.length:Int)<=i/\i<xs.length:=by
 unfold atI at h;cases e:ixN xs.length i with
 | none=>rw [e] at h;cases h
 | some j =>
  rw [e] at h;obtain ⟨h1,h2,h3,h4⟩:=yb1 e;exact ⟨j,h1,h,h2,h3,h4⟩
theorem qaY {α:Type} (xs:List α) (v:α):atI (xs++[v]) (-1)=some v:=by
 have hl:(xs++[v]).length=xs.length+1:=by simp
 have e:ixN (xs++[v]).length (-1)=some xs.length:=by
  unfold ixN;rw [hl,if_neg (by decide),if_pos (by omega)];congr 1;omega
 unfold atI;rw [e];show (xs++[v])[xs.length]?=some v
 simp
def qbo (b:Expr):Prop:=∀ o i,subscripted b false o i=operate [o,i] (getItem o i)
def IxR (X:Cx) (r:R2):Prop :=
 ∀ (value slice:Expr) (pins:List (Addr×Obj)) (s:Shared) (σ:St) (H:Hp) (x y:V) (v u:Value) (Q:VK),Inv X pins σ H s->RelV x v->RelV y u->r x y H Q ->
  subscripted slice false v u=operate [v,u] (getItem v u)->wpAny (model X.prog X.w) X.A (subscriptTail value slice v u) (EP X pins σ Q) X.xe s
def MtR (X:Cx) (id:String) (r:V->List V->Hp->VK->Prop):Prop :=
 ∀ (pins:List (Addr×Obj)) (s:Shared) (σ:St) (H:Hp) (x:V) (xs:List V) (v:Value) (us:List Value) (Q:VK),Inv X pins σ H s->RelV x v->Vals xs us->r x xs H Q ->
  wpAny (model X.prog X.w) X.A (call (.builtin id) (v::us)) (EP X pins σ Q) X.xe s
section
variable {X:Cx} {a b:Expr} {ta tb:TE} {pos:Pos}
theorem jds {r:R2} (hr:IxR X r) (ha:PE X a ta) (hb:PE X b tb) (hs:qbo b):PE X (.Subscript a b pos) (tOp r ta tb):=by
 intro pins s σ H Q I h;exact Subscript_ (qdZ ha hb I h λv u s2 x y H2 I2 rx ry q=>hr a b pins s2 σ H2 x y v u Q I2 rx ry q (hs _ _))
def yeq (K:Frag):R2:=λx y H Q=>∃ p xs i v,x=.ref p/\y=.int i/\SqL K H p xs/\atI xs i=some v/\Q v H
def jeq (K:Frag):R2:=λx y H Q=>∃ p xs i v,x=.ref p/\y=.int i/\SqT K H p xs/\atI xs i=some v/\Q v H
def rIxS:R2:=λx y H Q=>∃ z i c,x=.str z/\y=.int i/\z.length<=sizeLine/\atI z.cps.toList i=some c/\Q (.str ⟨#[c]⟩) H
theorem ybo:IxR X (yeq X.K):=by
 intro value slice pins s σ H x y v u Q I rx ry h hs;obtain ⟨p,xs,i,z,rfl,rfl,hq,he,q⟩:=h;cases rx;obtain ⟨t,rfl⟩:=ry;obtain ⟨its,r,pl,hz⟩:=I.list hq;obtain ⟨j,h1,h2,h3,h4,h5⟩:=zbo he;obtain ⟨w,ew,rw'⟩:=r.get h2;have hl:=r.length;have hn:=yaB;have fin:EP X pins σ Q w s:=⟨z,H,I,rw',q⟩
 by_cases h0:0<=i
 ·have hj:i.toNat=j:=by
   rw [seqIndex_of h0 h5] at h1;exact wC h1
  exact item_listR pl.isList h0 (by omega) (by rw [hj];simpa using ew) fin hs
 ·have hj:(i+(its.toArray.size:Int)).toNat=j:=by
   rw [seqIndex_neg (by omega) h4] at h1;rw [vo,<-hl];exact wC h1
  exact subscriptTail_builtinR (x:=w) pl.isList.typeIs slot_list_getitem.lookup
   (wpAny_getItem_list_neg (Q:=λr s'=>r=w/\EP X pins σ Q r s') pl.isList (by omega) (by rw [vo]<;>omega) (by omega) (by rw [hj];simpa using ew) ⟨rfl,fin⟩) hs
theorem zdt:IxR X (jeq X.K):=by
 intro value slice pins s σ H x y v u Q I rx ry h hs;obtain ⟨p,xs,i,z,rfl,rfl,hq,he,q⟩:=h;cases rx;obtain ⟨t,rfl⟩:=ry;obtain ⟨its,r,pl,hz⟩:=I.tuple hq;obtain ⟨j,h1,h2,h3,h4,h5⟩:=zbo he;obtain ⟨w,ew,rw'⟩:=r.get h2;have hl:=r.length;have hn:=yaB;have fin:EP X pins σ Q w s:=⟨z,H,I,rw',q⟩
 exact subscriptTail_builtinR (x:=w) pl.typeIs slot_tuple_getitem.lookup
  (getItem_tuple (j:=j) (Q:=λr s'=>r=w/\EP X pins σ Q r s') pl (by omega) (by omega) (by rw [vo,<-hl];exact h1) (by simpa using ew) ⟨rfl,fin⟩) hs
theorem qdt:IxR X rIxS:=by
 intro value slice pins s σ H x y v u Q I rx ry h hs;obtain ⟨z,i,c,rfl,rfl,hz,he,q⟩:=h;obtain ⟨t,rfl⟩:=rx;obtain ⟨t',rfl⟩:=ry;obtain ⟨j,h1,h2,h3,h4,h5⟩:=zbo he;have hl:z.cps.toList.length=z.length:=by simp [Str.length]
 rw [hl] at h1 h4 h5;have hn:=yaB
 exact tail_any (typeIs_str s z t) slot_str_getitem.lookup (getItem_str (c := c) (by
  have e1:decide (i < -(2^63:Int))=false:=vp (by omega);have e2:decide (i>=2^63)=false:=vp (by omega);rw [e1,e2,Bool.or_false]) (by rw [h1];simpa using h2) ⟨.str ⟨#[c]⟩,H,I.tok _,⟨_,rfl⟩,q⟩) hs
theorem zbQ (its:List Value) (n j:Nat) (u:Value):Obj.mapSeq (·.setIfInBounds j u) { cls:=.type "list",data:=.seq its.toArray n }={ cls:=.type "list",data:=.seq (its.set j u).toArray n }:=by
 simp [Obj.mapSeq]
theorem Inv.lst {pins:List (Addr×Obj)} {σ:St} {H:Hp} {s:Shared} {p:Addr} {xs:List V} (I:Inv X pins σ H s) (h:H p=some (.lst xs)) :
  ∃ (its:List Value) (n:Nat),Vals xs its/\s.heap.get? p=some { cls:=.type "list",data:=.seq its.toArray n }/\xs.length<=sizeLine:=by
 obtain ⟨z,its,n,r,e⟩:=I.hok p _ h;exact ⟨its,n,r,e,z⟩
theorem Inv.lstUpd {pins:List (Addr×Obj)} {σ:St} {H:Hp} {s:Shared} {p:Addr} {xs ys:List V} {its its':List Value} {n n':Nat} {f:Obj->Obj} (I:Inv X pins σ H s) (h:H p=some (.lst xs))
  (ho:s.heap.get? p=some { cls:=.type "list",data:=.seq its.toArray n }) (hf:f { cls:=.type "list",data:=.seq its.toArray n }={ cls:=.type "list",data:=.seq its'.toArray n' }) (r:Vals ys its') (hz:ys.length<=sizeLine) (t:Nat) :
  Inv X pins σ (upd H p (.lst ys)) { s with heap:=s.heap.update p f,toks:=t }:=by
 have e:(s.heap.update p f).get? p=some { cls:=.type "list",data:=.seq its'.toArray n' }:=by
  rw [Heap.get?_update_self f ho (by rw [hf]<;>rfl),hf]
 refine I.write (x:=p) (e:=p) (by rw [h];trivial) (.inl rfl) (λb u hb q=>(Heap.get?_update_other _ _ (Ne.symm hb)).trans q) ⟨_,e⟩ ?_;exact ⟨hz,its',n',r,e⟩
def rSetL:V->V->V->Hp->(Hp->Prop)->Prop:=λo i v H Q=>∃ p xs k j,o=.ref p/\i=.int k/\H p=some (.lst xs)/\ixN xs.length k=some j/\Q (upd H p (.lst (xs.set j v)))
theorem set_list:zeh X rSetL:=by
 intro pins s σ H o i v ov iv u Q I ro ri rv h;obtain ⟨p,xs,k,j,rfl,rfl,hp,hj,q⟩:=h;cases ro;obtain ⟨t,rfl⟩:=ri;obtain ⟨its,n,r,ho,hz⟩:=I.lst hp;obtain ⟨h1,h2,h3,h4⟩:=yb1 hj;have hl:=r.length;have hn:=yaB
 have I':Inv X pins σ (upd H p (.lst (xs.set j v))) { s with heap:=s.heap.update p (Obj.mapSeq (·.setIfInBounds j u)) } :=
  I.lstUpd hp ho (zbQ its n j u) (r.set rv j) (by rw [List.length_set];exact hz) s.toks
 by_cases h0:0<=k
 ·have hk:k.toNat=j:=by
   rw [seqIndex_of h0 h4] at h1;exact wC h1
  exact PySem.W.ki_setAt ho h0 (by omega) (by rw [vo,<-hl];exact h4) (by rw [hk];exact ⟨_,I',q⟩)
 ·have hk:(k+(its.toArray.size:Int)).toNat=j:=by
   rw [seqIndex_neg (by omega) h3] at h1;rw [vo,<-hl];exact wC h1
  exact PySem.W.ki_setBack ho (by omega) (by rw [vo,<-hl];exact h3) (by omega) (by rw [hk];exact ⟨_,I',q⟩)
theorem qbb (lo hi:Option Int) (n:Nat):(sliceBounds lo hi none n).1=((HT.sIx n 0 lo:Nat):Int)/\(sliceBounds lo hi none n).2.1=((HT.sIx n n hi:Nat):Int)/\(sliceBounds lo hi none n).2.2=1:=by
 refine ⟨?_,?_,rfl⟩
 ·cases lo with
  | none=>simp [sliceBounds,HT.sIx]
  | some i =>
   simp only [sliceBounds,HT.sIx,Option.getD_none,show (1:Int)>0 by decide,if_true]
   by_cases h:i<0
   ·simp only [h,if_true]<;>omega
   ·simp only [h,if_false]<;>omega
 ·cases hi with
  | none=>simp [sliceBounds,HT.sIx]
  | some i =>
   simp only [sliceBounds,HT.sIx,Option.getD_none,show (1:Int)>0 by decide,if_true]
   by_cases h:i<0
   ·simp only [h,if_true]<;>omega
   ·simp only [h,if_false]<;>omega
theorem yaY (its:List Value) (lo hi:Option Int):slicePick its.toArray lo hi none=((its.drop (HT.sIx its.length 0 lo)).take (HT.sIx its.length its.length hi-HT.sIx its.length 0 lo)).toArray:=by
 obtain ⟨h1,h2,h3⟩:=qbb lo hi its.toArray.size;unfold slicePick;rw [h1,h2,h3];simp only [sliceRange_one,pick_run,vo]<;>rfl
def zer (K:Frag):V->Option Int->Option Int->Hp->VK->Prop:=λx lo hi H Q=>∃ a xs,x=.ref a/\SqL K H a xs/\∀ p,H p=none->Q (.ref p) (upd H p (.lst (zcp xs lo hi)))
theorem zcW:SlR X (zer X.K):=by
 intro pins s σ H x v vl vu lo hi sl Q I rx hs pl pu h;obtain ⟨a,xs,rfl,hx,q⟩:=h;cases rx;obtain ⟨its,r,ht,hz⟩:=I.list hx;have hlen:=r.length;refine ⟨"list",_,slot_list_getitem.lookup,ht.isList.typeIs,?_⟩;refine wpAny_getItem_list_slice ht.isList hs pl pu .none (by simp) ?_ (by rw [vo]<;>omega);rw [yaY,<-hlen];refine ⟨.ref s.heap.objs.size,_,I.laid (t':=s.toks) (o:=.lst (zcp xs lo hi)) (λb ob q=>wm _ q) (wF _) ?_,rfl,q _ (I.hok.fresh (wF _))⟩;exact ⟨wU (zaC xs lo hi) hz,_,0,(r.drop (HT.sIx xs.length 0 lo)).take (HT.sIx xs.length xs.length hi-HT.sIx xs.length 0 lo),wx _ rfl⟩
theorem ybb:jJ X (.builtin "len") (λxs H Q=>∃ p ys,xs=[.ref p]/\(SqL X.K H p ys\/SqT X.K H p ys)/\Q (.int ys.length) H):=by
 intro pins s σ H xs us Q I r h;obtain ⟨p,ys,rfl,hq,q⟩:=h;obtain ⟨u,rfl,rx⟩:=vals1 r;cases rx;have hn:=yaB;rcases hq with hq | hq
 ·obtain ⟨its,r',pl,hz⟩:=I.list hq;have hlen:=r'.length;exact Calls.call_len_list pl.isList (by simp only [vo]<;>omega) ⟨.int ys.length,H,I.tok _,⟨s.toks+1,by rw [vo,hlen]⟩,q⟩
 ·obtain ⟨its,r',pl,hz⟩:=I.tuple hq;have hlen:=r'.length;exact len_tuple pl (by simp only [vo]<;>omega) ⟨.int ys.length,H,I.tok _,⟨s.toks+1,by rw [vo,hlen]⟩,q⟩
theorem jbb:jJ X (.builtin "len") (λxs H Q=>∃ z,xs=[.str z]/\z.length<=sizeLine/\Q (.int z.length) H):=by
 intro pins s σ H xs us Q I r h;obtain ⟨z,rfl,hz,q⟩:=h;obtain ⟨u,rfl,t,rfl⟩:=vals1 r;have hn:=yaB;exact len_str (by omega) ⟨.int z.length,H,I.tok _,⟨_,rfl⟩,q⟩
theorem zbc:jJ X (.type "list") (λxs H Q=>∃ p ys,xs=[.ref p]/\(SqL X.K H p ys\/SqT X.K H p ys)/\∀ l,H l=none->Q (.ref l) (upd H l (.lst ys))):=by
 intro pins s σ H xs us Q I r h;obtain ⟨p,ys,rfl,hq,q⟩:=h;obtain ⟨u,rfl,rx⟩:=vals1 r;cases rx
 have fin:∀ (its:List Value),Vals ys its->ys.length<=sizeLine->∀ (h':Heap) (c':Nat),(∀ b o',s.heap.get? b=some o'->h'.get? b=some o') ->
   h'.get? s.heap.objs.size=some { cls:=.type "list",dict:=none,data:=.seq its.toArray c',slots:=#[] }->EP X pins σ Q (.ref s.heap.objs.size) { s with heap:=h' }:=λits r' hz h' c' kp e =>
  ⟨.ref s.heap.objs.size,_,I.laid (t':=s.toks) kp (wF _) (show ObjOk X.prog X.w _ h' _ (.lst ys) from ⟨hz,its,c',r',e⟩),rfl,q _ (I.hok.fresh (wF _))⟩
 rcases hq with hq | hq
 ·obtain ⟨its,r',pl,hz⟩:=I.list hq;have hlen:=r'.length;obtain ⟨o,ho,hc,n,hd⟩:=pl.isList;exact call_list_seq p (.inl rfl) ho hc hd (λh' c' kp e=>fin its r' hz h' c' kp e) (by simp only [vo]<;>omega)
 ·obtain ⟨its,r',pl,hz⟩:=I.tuple hq;have hlen:=r'.length;obtain ⟨o,ho,hc,n,hd⟩:=pl;exact call_list_seq p (.inr rfl) ho hc hd (λh' c' kp e=>fin its r' hz h' c' kp e) (by simp only [vo]<;>omega)
theorem qal:jJ X (.type "tuple") (λxs H Q=>∃ p ys,xs=[.ref p]/\((SqL X.K H p ys/\∀ l,H l=none->Q (.ref l) (upd H l (.tup ys)))\/(SqT X.K H p ys/\Q (.ref p) H))):=by
 intro pins s σ H xs us Q I r h;obtain ⟨p,ys,rfl,h⟩:=h;obtain ⟨u,rfl,rx⟩:=vals1 r;cases rx;rcases h with ⟨hq,q⟩ | ⟨hq,q⟩
 ·obtain ⟨its,r',pl,hz⟩:=I.list hq;have hlen:=r'.length;refine call_tuple_list pl.isList (λh' kp=>?_) (by simp only [vo]<;>omega);have I1:Inv X pins σ H { s with heap:=h' }:=I.kept (t':=s.toks) kp
  have I2:Inv X pins σ (upd H h'.objs.size (.tup ys)) { s with heap:=h'.push { cls:=.type "tuple",data:=.seq its.toArray } } :=
   I1.laid (t':=s.toks) (λb o e=>wm _ e) (wF _) (show ObjOk X.prog X.w _ _ _ (.tup ys) from ⟨hz,its,r',IsTupN.new _ _⟩)
  exact ⟨.ref h'.objs.size,_,I2,rfl,q _ (I1.hok.fresh (wF _))⟩
 ·obtain ⟨its,r',pl,hz⟩:=I.tuple hq;exact call_tuple_same pl ⟨.ref p,H,I,rfl,q⟩
def tyV (K:Frag) (T:String) (x:V) (H:Hp):Prop:=match x with
 | .str _=>T="str"
 | .int _=>T="int"
 | .ref p=>(T="list"/\∃ xs,SqL K H p xs)\/(T="tuple"/\∃ o,K.lookup p=some o/\o.cls=.type "tuple"/\o.dict=none) \/
  (T="dict"/\((∃ kvs,H p=some (.dK kvs))\/∃ kvs,H p=some (.dT kvs)))\/(T="set"/\∃ S n,H p=some (.set S n))
 | _=>False
theorem ydt {pins:List (Addr×Obj)} {σ:St} {H:Hp} {s:Shared} {T:String} {x:V} {v:Value} (I:Inv X pins σ H s) (r:RelV x v) (ty:tyV X.K T x H) :
  s.TypeIs v T/\∀ a,v=.ref a->∃ ob,s.heap.get? a=some ob/\ob.dict=none:=by
 cases x with
 | str z =>
  obtain ⟨t,rfl⟩:=r;cases (show T="str" from ty);exact ⟨typeIs_str s z t,λ_ e=>nomatch e⟩
 | int i =>
  obtain ⟨t,rfl⟩:=r;cases (show T="int" from ty);exact ⟨typeIs_int s i t,λ_ e=>nomatch e⟩
 | ref p =>
  cases r;rcases ty with ⟨rfl,xs,hq⟩ | ⟨rfl,o,hk,hc,hd⟩ | ⟨rfl,hk⟩ | ⟨rfl,S,n,hk⟩
  ·obtain ⟨its,_,pl,_⟩:=I.list hq;refine ⟨pl.isList.typeIs,λa e=>?_⟩;cases e;obtain ⟨o,n,e,c,hd,_⟩:=pl;exact ⟨o,e,hd⟩
  ·refine ⟨⟨o,I.kIn p o hk,hc⟩,λa e=>?_⟩;cases e;exact ⟨o,I.kIn _ o hk,hd⟩
  ·have z:∃ o,s.heap.get? p=some o/\o.ExactDict:=by
    rcases hk with ⟨kvs,hk⟩ | ⟨kvs,hk⟩
    ·obtain ⟨_,_,_,_,o,_,_,e,ex,_⟩:=I.hok p _ hk;exact ⟨o,e,ex⟩
    ·obtain ⟨_,_,_,_,o,_,_,e,ex,_⟩:=I.hok p _ hk;exact ⟨o,e,ex⟩
   obtain ⟨o,e,ex⟩:=z;refine ⟨⟨o,e,ex.1⟩,λa e2=>?_⟩;cases e2;exact ⟨o,e,ex.2.1⟩
  ·obtain ⟨o,_,_,_,e,ex,_⟩:=I.hok p _ hk;refine ⟨⟨o,e,ex.1⟩,λa e2=>?_⟩;cases e2;exact ⟨o,e,ex.2.1⟩
 | _=>exact False.elim ty
def tBM (K:Frag) (T:String) (r:V->List V->Hp->VK->Prop) (to:TE) (t:TA):TE:=λσ H Q=>to σ H λx H1=>tyV K T x H1/\t σ H1 λxs H2=>r x xs H2 Q
variable {o e:Expr} {es:List Expr} {to:TE} {t:TA} {name:Str} {apos cpos:Pos} {T id:String} {r:V->List V->Hp->VK->Prop}
theorem qbc (pa:PlainAttrs T) (slot:Slot T name id) (hty:typeOf (.builtin id)=pure (.type "method_descriptor")) (hm:MtR X id r) (ho:PE X o to) (ha:PA X (e::es) t)
  (hbase:attributeBase o name X.env (eval o X.env)=eval o X.env:=by rfl)
  (hfew:((backTo cpos (starEach (e::es) X.env)).all (λx=>!x.1)&&(backToKw cpos (keywordEach [] X.env)).all (λx=>x.1.isSome)
   && decide ((e::es).length+([]:List Keyword).length+(if ([]:List Keyword).isEmpty then 0 else 1)<30))=true:=by rfl)
  (hline:(apos.endLine==cpos.line)=true:=by rfl) (hs:starEach (e::es) X.env=(false,eval e X.env)::starEach es X.env:=by rfl) (hplain:(backTo cpos (starEach es X.env)).any (·.1)=false:=by rfl) :
  PE X (.Call (.Attribute o name apos) (e::es) [] cpos) (tBM X.K T r to t):=by
 intro pins s σ H Q I h;refine wpAny_Call_method_late hbase hfew hline rfl (thn (ho pins s σ H _ I h) λv s1 ⟨x,H1,I1,r1,ty,q1⟩=>?_);obtain ⟨h1,h2⟩:=ydt I1 r1 ty;refine ⟨T,id,pa,slot,hty,h1,h2,?_⟩;have hA:=ha cpos pins s1 σ H1 _ I1 q1;rw [hs] at hA ⊢;refine Calls.callWith_builtin (by show (false||(backTo cpos (starEach es X.env)).any (·.1))=false;rw [hplain]<;>rfl) (Calls.evalArgs_plain ?_);exact thn hA λus s2 ⟨vs,H2,I2,r2,q2⟩=>hm pins s2 σ H2 x vs v us Q I2 r1 r2 q2
end
def MtM (X:Cx) (id:String) (r:V->List V->Hp->VK->Prop):Prop :=
 ∀ (pins:List (Addr×Obj)) (s:Shared) (σ:St) (H:Hp) (x:V) (xs:List V) (v:Value) (us:List Value) (Q:VK),Inv X pins σ H s->RelV x v->Vals xs us->r x xs H Q ->
  wpAny (model X.prog X.w) X.A (call (.builtin id) (v::us)) (EP X pins σ Q) X.xe s
theorem Vals.one:∀ {x:V} {us:List Value},Vals [x] us->∃ u,us=[u]/\RelV x u
 | _,_,.cons r .nil=>⟨_,rfl,r⟩
theorem Vals.two:∀ {x y:V} {us:List Value},Vals [x,y] us->∃ u v,us=[u,v]/\RelV x u/\RelV y v
 | _,_,_,.cons r (.cons q .nil)=>⟨_,_,rfl,r,q⟩
theorem Vals.reverse {xs:List V} {us:List Value} (h:Vals xs us):Vals xs.reverse us.reverse:=by
 induction h with
 | nil=>exact .nil
 | cons r t ih=>rw [List.reverse_cons,List.reverse_cons];exact Vals.append ih (.cons r .nil)
theorem Vals.rep {xs:List V} {us:List Value} (h:Vals xs us):∀ k:Nat,Vals (List.replicate k xs).flatten (List.replicate k us).flatten
 | 0=>.nil
 | k+1=>by
  rw [List.replicate_succ,List.replicate_succ,List.flatten_cons,List.flatten_cons];exact Vals.append h (Vals.rep h k)
theorem foldl_rep (its:List Value):∀ (k:Nat) (acc:List Value),
  List.foldl (λx1 x2=>x1++x2) acc.toArray (List.replicate k its.toArray)=(acc++(List.replicate k its).flatten).toArray
 | 0,acc=>by simp
 | k+1,acc=>by
  have e:acc.toArray++its.toArray=(acc++its).toArray:=by simp
  have e2:(acc++its)++(List.replicate k its).flatten=acc++(List.replicate (k+1) its).flatten:=by
   rw [List.replicate_succ,List.flatten_cons,List.append_assoc]
  rw [<-e2,<-foldl_rep its k (acc++its),<-e,List.replicate_succ,List.foldl_cons]
section
variable {X:Cx} {pins:List (Addr×Obj)} {σ:St} {H:Hp} {s:Shared} {l b:Addr} {xs ys zs:List V}
theorem Inv.lset {its its':List Value} {n:Nat} {f:Array Value->Array Value} {t':Nat} (I:Inv X pins σ H s) (hH:H l=some (.lst xs))
  (e:s.heap.get? l=some { cls:=.type "list",data:=.seq its.toArray n }) (hf:f its.toArray=its'.toArray) (hv:Vals ys its') (hz:ys.length<=sizeLine) :
  Inv X pins σ (upd H l (.lst ys)) { s with heap:=s.heap.update l (Obj.mapSeq f),toks:=t' }:=by
 have q:=PySem.IsL.update e f;rw [hf] at q;refine I.write (x:=l) (e:=l) (by rw [hH];exact trivial) (.inl rfl) (λb' u hb hu=>(Heap.get?_update_other s.heap (Obj.mapSeq f) (Ne.symm hb)).trans hu) ⟨_,q⟩ ?_;exact ⟨hz,its',_,hv,q⟩
theorem Inv.lnew {its:List Value} {t':Nat} (I:Inv X pins σ H s) (hv:Vals ys its) (hz:ys.length<=sizeLine) :
  Inv X pins σ (upd H s.heap.objs.size (.lst ys)) { s with heap:=s.heap.push { cls:=.type "list",data:=.seq its.toArray },toks:=t' } :=
 I.laid (λ_ _ q=>wm _ q) (wF _) ⟨hz,its,0,hv,wx _ rfl⟩
theorem Inv.fresh (I:Inv X pins σ H s):H s.heap.objs.size=none:=I.hok.fresh (wF _)
theorem Inv.lstM (I:Inv X pins σ H s) (hH:H l=some (.lst xs)):xs.length<=sizeLine/\∃ (its:List Value) (n:Nat),Vals xs its/\xs.length=its.length/\s.heap.get? l=some { cls:=.type "list",data:=.seq its.toArray n }:=by
 obtain ⟨z,its,n,r,e⟩:=I.hok l _ hH;exact ⟨z,its,n,r,r.length,e⟩
theorem jcr {n:Nat} (h:n<=sizeLine):Builtin.List.listTooLong n=false:=by
 unfold Builtin.List.listTooLong;exact vp (by omega)
end
section
variable {X:Cx}
def rAppend:V->List V->Hp->VK->Prop:=λx vs H Q=>∃ l xs y,x=.ref l/\vs=[y]/\H l=some (.lst xs)/\xs.length<sizeLine/\Q .non (upd H l (.lst (xs++[y])))
theorem ybc:MtM X "list.append" rAppend:=by
 intro pins s σ H x vs v us Q I rx rv h;obtain ⟨l,xs,y,rfl,rfl,hH,hz,q⟩:=h;cases rx;obtain ⟨u,rfl,ru⟩:=rv.one;obtain ⟨z,its,n,r,hl,e⟩:=I.lstM hH;refine call_meets F.slot_list_append ⟨_,e,rfl⟩ F.entry_list_append (F.args_list_append_2 _ _) (PySem.list_append l its.toArray n u (by rw [vo];omega)) ⟨e,?_⟩;refine ⟨.non,_,I.lset (its':=its++[u]) hH e (by simp) (r.append (.cons ru .nil)) ?_,rfl,q⟩;rw [wW,List.length_singleton];omega
def rCat:R2:=λx y H Q=>∃ l b xs zs,x=.ref l/\y=.ref b/\H l=some (.lst xs)/\H b=some (.lst zs)/\xs.length+zs.length<=sizeLine/\∀ p,H p=none->Q (.ref p) (upd H p (.lst (xs++zs)))
theorem jdt:OpR X (binaryOp .Add) rCat:=by
 intro pins s σ H x y v u Q I rx ry h;obtain ⟨l,b,xs,zs,rfl,rfl,hH,hB,hz,q⟩:=h;cases rx;cases ry;obtain ⟨z,its,n,r,hl,e⟩:=I.lstM hH;obtain ⟨z2,its2,n2,r2,hl2,e2⟩:=I.lstM hB;refine PySem.P.add_list e e2 ?_ (by rw [vo,vo];omega);have ea:its.toArray++its2.toArray=(its++its2).toArray:=by simp
 rw [ea];exact ⟨.ref _,_,I.lnew (t':=s.toks) (r.append r2) (by rw [wW];omega),rfl,q _ I.fresh⟩
def rRep:R2:=λx y H Q=>∃ l k xs,x=.ref l/\y=.int k/\H l=some (.lst xs)/\-(2^63)<=k/\k<2^63/\xs.length*k.toNat<=sizeLine /\
 ∀ p,H p=none->Q (.ref p) (upd H p (.lst (List.replicate k.toNat xs).flatten))
theorem len_rep {α:Type} (xs:List α) (k:Nat):(List.replicate k xs).flatten.length=k*xs.length:=by
 induction k with
 | zero=>simp
 | succ k ih=>rw [List.replicate_succ,List.flatten_cons,wW,ih,Nat.succ_mul,Nat.add_comm]
theorem zdu:OpR X (binaryOp .Mult) rRep:=by
 intro pins s σ H x y v u Q I rx ry h;obtain ⟨l,k,xs,rfl,rfl,hH,h1,h2,hz,q⟩:=h;cases rx;obtain ⟨t,rfl⟩:=ry;obtain ⟨z,its,n,r,hl,e⟩:=I.lstM hH;have hlen:its.toArray.size*k.toNat<=sizeLine:=by rw [vo,<-hl];exact hz
 have hcap:¬ its.toArray.size*k.toNat>(2^63-1)/8:=by
  have:(sizeLine:Nat)<=(2^63-1)/8:=by decide
  omega
 have hfit:¬ (!Builtin.List.listFitsIndex k)=true:=by
  rw [fitsIndex_both h1 h2];exact wB
 have hlong:¬ Builtin.List.listTooLong (its.toArray.size*k.toNat)=true:=by
  rw [jcr hlen];exact wB
 have hnew:List.foldl (λx1 x2=>x1++x2) #[] (List.replicate (if its.toArray.isEmpty=true then 0 else k.toNat) its.toArray)=(List.replicate k.toNat its).flatten.toArray:=by
  have f0:∀ m:Nat,List.foldl (λx1 x2=>x1++x2) #[] (List.replicate m its.toArray)=(List.replicate m its).flatten.toArray:=λm=>by
   have:=foldl_rep its m []
   rw [List.nil_append] at this;exact this
  rw [f0];cases its with
  | nil=>simp
  | cons a r'=>rw [if_neg (by simp)]
 refine wpAny_binaryOp_repeat_ref (T := "list") (U := "int") (by decide) ⟨_, e, rfl⟩ (λs' => typeIs_int s' k t) noFill_list_mul F.fills_int_mul F.slot_int_rmul repeat_list F.slot_int_index.lookup
  (call_meets F.slot_int_rmul (typeIs_int s k t) F.entry_int_rmul (F.args_int_rmul_2 _ _) (int___rmul___int_list k t l its.toArray n)
   ⟨e,rfl,⟨_,e,rfl⟩,call_meets F.slot_list_mul ⟨_,e,rfl⟩ F.entry_list_mul (F.args_list_mul_2 _ _) (AutoListH.list___mul___list_int_3 l its.toArray n k t hfit hcap hlong) ⟨e,?_⟩⟩)
 rw [hnew];exact ⟨.ref _,_,I.lnew (t':=s.toks) (r.rep k.toNat) (by rw [len_rep,Nat.mul_comm];exact hz),rfl,q _ I.fresh⟩
end
end L2
namespace Att
open PySem PySem.W PySem.Calls PyProof.Rows
theorem qaC {P:Params} {h:Heap}:∀ (ns:List Int) (vs:List Value),WellAll P h vs (ns.map WData.int)->IntsAre vs ns:=by
 intro ns
 induction ns with
 | nil =>
  intro vs w;rw [List.map_nil] at w;cases w;exact .nil
 | cons n ns ih =>
  intro vs w;rw [List.map_cons] at w;cases w with
  | cons a b =>
   cases a;exact .cons _ _ (ih _ b)
theorem jb1 {l:OpenLaw} {n:Nat} (hn:l.most=some n) {P:Params} {h:Heap} {args:List WData} {vals:List Value}
  (hpre:l.row.toRowW.claim.pre args=true) (hwl:WellAll P h vals args) :
  ∃ a vs ns,vals=[Value.ref a]/\args=[WData.list (ns.map WData.int)]/\h.get? a=some { cls:=.type "list",data:=.seq vs.toArray }/\IntsAre vs ns/\ns.length<=n:=by
 have hsh:WShape.hasAll [] args [.list .int]=true:=(pre_splitW hpre).1;have hc:l.pre.holds [] { args:=args }=true:=(pre_splitW hpre).2;obtain ⟨d,r,rfl,h1,h2⟩:=hasAllW_cons hsh;obtain rfl:=hasAllW_nil h2;obtain ⟨xs,rfl,h3⟩:=hasW_list h1;obtain ⟨ns,rfl⟩:=items_int h3
 have hlen:ns.length<=n:=by
  unfold OpenLaw.pre at hc
  have h4:(WTm.not (.lt (.lit (.int (n:Int))) (.len (.arg 0)))).holds [] { args:=[.list (ns.map .int)] }=true:=by
   have h4:=(holds_andW hc).1;rw [hn] at h4;exact h4
  have h5:=condW_of h4 (w_not (w_lt w_lit (w_len_list (w_arg rfl))));rw [wG] at h5;refine Nat.le_of_not_lt λq=>?_
  have q':(n:Int)<((ns.length:Nat):Int):=by omega
  first
   | (rw [decide_eq_true q'] at h5;exact absurd h5 (by decide))
   | (simp at h5;omega)
 cases hwl with
 | cons w1 w2 =>
  cases w2;cases w1 with
  | list ho hall=>exact ⟨_,_,ns,rfl,rfl,ho,qaC ns _ hall,hlen⟩
theorem zb2 (l:OpenLaw) (args:List WData):l.row.toRowW.claim.post args (.bool true) args=true :=
 postW_of (r:=l.row.toRowW) (X:=(true==true))
  (show WShape.has [] (.bool true) .bool=true by first | rfl | decide | simp [WShape.has,WShape.arms,WShape.armsAll])
  (show (WTm.eq .res (.lit (.bool true))).value [] { args:=args,res:=some (.bool true),after:=args }=some (.bool (true==true)) from w_eq_bool (w_res rfl) w_lit) rfl
theorem attach_call {l:OpenLaw} {n:Nat} {q:Program} {loose:List Str} {XP:(Str->Option Value)->Heap->Prop} {YP:World->Heap->Prop} {d:DefRec}
  (hn:l.most=some n) (hdf:d.params.defaults=[])
  (call:∀ (w:World) (s₀ s₁:Shared) (mg mb:Str->Option Value) (fa:Addr) (o:Obj) (pm cd doc:Value) (a:Addr) (vs:List Value) (ns:List Int),
   Ground q loose [] XP w s₀ mg mb s₁.heap->YP w s₁.heap ->
   s₁.heap.get? fa=some o->o.data=.func (docDef d.name d.params d.body d.scope pm cd doc)->s₁.heap.CodeRec cd d.name->mg d.name=some (.ref fa) ->
   s₁.heap.get? a=some { cls:=.type "list",data:=.seq vs.toArray }->IntsAre vs ns->ns.length<=n->s₁.gens=#[] ->
   codeAny (model l.prog w) callerA (.call (.ref fa) ⟨[.ref a],[]⟩) (λr s'=>r=.ok (.ret (.bool true))/\OldK s₁.heap s'.heap/\s'.os=s₁.os/\AllBare s'.gens) s₁) :
  WalkO q loose XP YP l.row.toRowW d [] (λf vs=>PySem.call f vs):=by
 intro w s₀ s₁ mg mb G Y fa o pm cd doc dV kV ho hd hcd hD hmg hg args vals as hpre hlay hrd hwl hlo;obtain rfl:dV=.none:=Dflts.none hD hdf;obtain rfl:kV=.none:=Dflts.noKw hD;obtain ⟨a,vs,ns,rfl,rfl,hobj,hints,hlen⟩:=jb1 hn hpre hwl;refine enter_call (codeAny_mono (call w s₀ s₁ mg mb fa o pm cd doc a vs ns G Y ho (fd_plain hd) hcd hmg hobj hints hlen hg) λr s' hq=>?_);obtain ⟨rfl,h2,h3,h4⟩:=hq;exact ⟨.inl ⟨.bool true,.bool true,[],rfl,λ_=>rfl,.bool true,zb2 l _,λ_=>⟨List.Pairwise.nil,λ_ hm=>(nomatch hm)⟩⟩,h2,h3,h4⟩
end Att
namespace L2
open PySem PySem.Spec PyProof.Rows
theorem yaC:∀ {vs:List Value} {ns:List Int},IntsAre vs ns->Vals (ns.map V.int) vs
 | _,_,.nil=>.nil
 | _,_,.cons n t h=>.cons ⟨t,rfl⟩ (yaC h)
def qdu (H:Hp):Prop:=∀ b,H b=none\/∃ o xs,H b=some (.frz o (.lst xs))
theorem zcs {P:Program} {w:World} {K:Frag} {mg mb:Str->Option Value} {CX:CXT} {k:Nat} {fa a:Addr} {fd:FuncData} {x:Str} {sp:Sp} {s₁:Shared} {vs:List Value} {ns:List Int}
  (KX:K.In s₁.heap) (hns:s₁.heap.Ns mainGlobals mg) (hb:s₁.heap.Ns builtinsNs mb) (hbb:∀ x:Str,x≠"__name__"->mb x=bootBuiltins x) (hlim:s₁.heap.NoLimit) (hg:s₁.gens=#[])
  (ha:s₁.heap.get? a=some { cls:=.type "list",data:=.seq vs.toArray }) (hi:IntsAre vs ns) (hl:ns.length<=sizeLine) (hr:Room k callerA)
  (F:∀ base:Heap,K.In base->base.Ns mainGlobals mg->FnOk P w K mg base CX k fa fd [x] sp) (hbind:∀ (s:Shared) (u:Value),BindsTo s fd ⟨[u],[]⟩ [(x,u)])
  (hsp:∀ H:Hp,qdu H->SqL K H a (ns.map V.int)->sp [.ref a] H (λv _=>v=.bl true) λ_ _ _=>False)
  (hCX:∀ H e s',CX [] H s₁ (λ_ _ _=>False) e s'->False) :
  codeAny (model P w) callerA (.call (.ref fa) ⟨[.ref a],[]⟩) (λr s'=>r=.ok (.ret (.bool true))/\OldK s₁.heap s'.heap/\s'.os=s₁.os/\AllBare s'.gens) s₁:=by
 have rv:=yaC hi;have lenV:=hi.length
 have core:∀ H:Hp,qdu H->SqL K H a (ns.map V.int)->HOk P w H s₁.heap->(∀ b,H b≠none->b=a)->(H a≠none->K.lookup a=none) ->
   codeAny (model P w) callerA (.call (.ref fa) ⟨[.ref a],[]⟩) (λr s'=>r=.ok (.ret (.bool true))/\OldK s₁.heap s'.heap/\s'.os=s₁.os/\AllBare s'.gens) s₁:=by
  intro H hO hS hok hA hK;have base_of:∀ {b:Addr} {o:Obj},s₁.heap.get? b=some o->H b=none->(jcp s₁.heap H).get? b=some o:=λe n=>zcq e n
  have noA:∀ {b:Addr} {o:Obj} {es:Array DictEntry} {ep:Nat},s₁.heap.get? b=some o->o.data=.dict es ep->H b=none:=λ{b o es ep} e d=>by
   cases q:H b with
   | none=>rfl
   | some u =>
    have e':b=a:=hA b (by rw [q];simp);subst e';rw [ha] at e;cases e
    have d':Data.seq vs.toArray _=Data.dict es ep:=d;cases d'
  have nsK:∀ {b:Addr} {m:Str->Option Value},s₁.heap.Ns b m->(jcp s₁.heap H).Ns b m:=λ{b m} ⟨o,es,ep,e,d,r⟩=>⟨o,es,ep,base_of e (noA e d),d,r⟩
  have hKb : K.In (jcp s₁.heap H) := λb o e => base_of (KX b o e) (by
   cases q:H b with
   | none=>rfl
   | some u =>
    have e':b=a:=hA b (by rw [q];simp);subst e';rw [hK (by rw [q];simp)] at e;cases e)
  have hM:Mod K mg (jcp s₁.heap H):=⟨hKb,nsK hns,⟨mb,nsK hb,hbb⟩,let ⟨mc,h1,h2⟩:=hlim;⟨mc,nsK h1,h2⟩⟩;have e0:Env0 P w K mg (jcp s₁.heap H) callerA [] s₁ H:=⟨rfl,hM,λb o e=>zcS e,Nat.le_of_eq (qbX _ _),trivial,λb hb=>absurd (show b∈([]:List Addr) from hb) (by simp),hok,.of_eq hg⟩;refine codeAny_mono ((F _ hKb (nsK hns)).run callerA [] s₁ H ⟨[.ref a],[]⟩ [.ref a] [.ref a] _ _ hr e0 (hbind s₁ (.ref a)) (.cons rfl .nil) (hsp H hO hS)) λr s' h=>?_
  cases r with
  | error e=>exact (hCX H e s' h).elim
  | ok fl =>
   cases fl with
   | next=>exact False.elim h
   | brk=>exact False.elim h
   | cont=>exact False.elim h
   | ret u =>
    obtain ⟨v,H',os,bare,un,hok',r',q⟩:=h;have q':v=.bl true:=q;subst q';obtain rfl:u=Value.bool true:=r';refine ⟨rfl,OldK.of_keep λb o e=>?_,os,bare⟩;cases q:H b with
    | none=>exact un.keep b o e q (by intro z;exact absurd (show b∈([]:List Addr) from z) (by simp)) (by simp)
    | some u =>
     rcases hO b with z | ⟨ob,xs,z⟩
     ·rw [q] at z;cases z
     ·have z2:=un.frzs b ob _ z;obtain ⟨e1,_⟩:=hok b _ z;obtain ⟨e2,_⟩:=hok' b _ z2;rw [e] at e1;cases e1
      exact e2
 cases hk:K.lookup a with
 | some o =>
  have e:=KX a o hk;rw [ha] at e;cases e;refine core (λ_=>none) (λ_=>.inl rfl) (.inr ⟨_,vs.toArray,_,hk,rfl,rfl,rfl,by rw [vo,lenV];exact hl,by simpa using rv⟩) (λb u z=>by have z':(none:Option HO)=some u:=z;cases z') (λb z=>absurd rfl z) λz=>absurd rfl z
 | none =>
  refine core (λb=>if b=a then some (.frz { cls:=.type "list",data:=.seq vs.toArray } (.lst (ns.map V.int))) else none) (λb=>?_) (.inl (.inr ⟨{ cls:=.type "list",data:=.seq vs.toArray },if_pos rfl⟩)) (λb u z=>?_) (λb z=>?_) λ_=>hk
  ·by_cases hb:b=a
   ·exact .inr ⟨_,_,if_pos hb⟩
   ·exact .inl (if_neg hb)
  ·by_cases hb:b=a
   ·have z':=(if_pos hb).symm.trans z;cases z';subst hb;exact ⟨ha,by rw [wG];exact hl,vs,_,rv,ha⟩
   ·have z':=(if_neg hb).symm.trans z;cases z'
  ·by_cases hb:b=a
   ·exact hb
   ·exact absurd (if_neg hb) z
noncomputable abbrev KOf {K:Frag} {h:Heap} (_:K.In h):Frag:=K
theorem qcW {l:PySem.W.OpenLaw} {n k:Nat} {q:Program} {loose:List Str} {XP:(Str->Option Value)->Heap->Prop} {YP:World->Heap->Prop} {d:DefRec} {K:Params->Frag} {CX:World->CXT} {sp:World->Sp} {x:Str}
  (hn:l.most=some n) (hn2:n<=sizeLine) (hdf:d.params.defaults=[]) (hr:Room k callerA)
  (hY:∀ (w:World) (h:Heap),YP w h->(K w.params).In h)
  (F:∀ (w:World) (mg:Str->Option Value) (fa:Addr) (h:Heap),(K w.params).In h->h.Ns mainGlobals mg->mg d.name=some (.ref fa) ->
   ∃ fd:FuncData,(∀ (s:Shared) (u:Value),BindsTo s fd ⟨[u],[]⟩ [(x,u)]) /\
    ∀ base:Heap,(K w.params).In base->base.Ns mainGlobals mg->FnOk l.prog w (K w.params) mg base (CX w) k fa fd [x] (sp w))
  (hsp:∀ (w:World) (H:Hp) (a:Addr) (ns:List Int),ns.length<=n->qdu H->SqL (K w.params) H a (ns.map V.int)->sp w [.ref a] H (λv _=>v=.bl true) λ_ _ _=>False)
  (hCX:∀ (w:World) (H:Hp) (s:Shared) (e:Value) (s':Shared),CX w [] H s (λ_ _ _=>False) e s'->False) :
  PySem.W.WalkO q loose XP YP l.row.toRowW d [] (λf vs=>PySem.call f vs):=by
 refine Att.attach_call hn hdf λw s₀ s₁ mg mb fa o pm cd doc a vs ns G Y ho hd hcd hmg hobj hints hlen hg=>?_
 have KX:=hY w _ Y;obtain ⟨fd,hb,hF⟩:=F w mg fa _ KX G.T.g hmg;exact zcs KX G.T.g G.T.b G.T.builtins G.T.nolimit hg hobj hints (wU hlen hn2) hr hF hb (λH hO hS=>hsp w H a ns hlen hO hS) λH e s'=>hCX w H s₁ e s'
theorem qcs {l:PySem.W.OpenLaw} {n k:Nat} {q:Program} {loose:List Str} {XP:(Str->Option Value)->Heap->Prop} {YP:World->Heap->Prop} {d:DefRec} {K:Params->Frag} {CX:CXT} {sp:Frag->Sp} {x:Str}
  (hn:l.most=some n) (hn2:n<=sizeLine) (hdf:d.params.defaults=[]) (hr:Room k callerA)
  (hY:∀ (w:World) (h:Heap),YP w h->(K w.params).In h)
  (F:∀ (w:World) (mg:Str->Option Value) (fa:Addr) (h:Heap),(K w.params).In h->h.Ns mainGlobals mg->mg d.name=some (.ref fa) ->
   ∃ fd:FuncData,(∀ (s:Shared) (u:Value),BindsTo s fd ⟨[u],[]⟩ [(x,u)]) /\
    ∀ base:Heap,(K w.params).In base->base.Ns mainGlobals mg->FnOk l.prog w (K w.params) mg base CX k fa fd [x] (sp (K w.params)))
  (hsp:∀ (K:Frag) (H:Hp) (a:Addr) (ns:List Int),ns.length<=n->qdu H->SqL K H a (ns.map V.int)->sp K [.ref a] H (λv _=>v=.bl true) λ_ _ _=>False)
  (hCX:∀ (H:Hp) (s:Shared) (e:Value) (s':Shared),CX [] H s (λ_ _ _=>False) e s'->False) :
  PySem.W.WalkO q loose XP YP l.row.toRowW d [] (λf vs=>PySem.call f vs) :=
 qcW (K:=K) (CX:=λ_=>CX) (sp:=λw=>sp (K w.params)) hn hn2 hdf hr hY F (λw H a ns h1 h2 h3=>hsp (K w.params) H a ns h1 h2 h3) λ_ H s e s'=>hCX H s e s'
noncomputable def zX (s:Stmt):Arguments:=match s with
 | .FunctionDef _ a _ _ _ _ _ _ _ _=>a
 | _=>{ posonlyargs:=[],args:=[],vararg:=none,kwonlyargs:=[],kw_defaults:=[],kwarg:=none,defaults:=[] }
noncomputable def qX (s:Stmt):List Stmt:=match s with
 | .FunctionDef _ _ b _ _ _ _ _ _ _=>b
 | _=>[]
noncomputable def yr (s:Stmt):Scope:=match s with
 | .FunctionDef _ _ _ _ _ _ sc _ _ _=>sc
 | _=>{ kind:=.function,names:=[],isGenerator:=false,isCoroutine:=false }
abbrev CX0:CXT:=λ_ _ _ _ _ _=>False
abbrev E0:XK:=λ_ _ _=>False
structure Fun (K:Frag) (x qual:Str) (st:Stmt) (f:Addr) (fd:FuncData):Prop where
 ex:∃ (oc:Value) (od:Option Addr) (kV doc pm:Value) (an:Option Addr) (cdv ct:Value) (osl:Array (Option Value)),
  fd=PySem.W.fnOf x qual (zX st) (qX st) (yr st) .none kV doc pm an cdv ct/\K.lookup f=some ⟨oc,od,.func fd,osl⟩/\PySem.W.codeIn K cdv qual=true
 kp:PySem.W.keepIn K (.ref f)=true
section
variable {P:Program} {w:World} {K:Frag} {mg:Str->Option Value} {base:Heap}
theorem Fun.binds {x qual:Str} {st:Stmt} {f:Addr} {fd:FuncData} {ps:List Str} (F:Fun K x qual st f fd)
  (h:∀ (kV doc pm:Value) (an:Option Addr) (cdv ct:Value) (us:List Value),us.length=ps.length->bindArgs (PySem.W.fnOf x qual (zX st) (qX st) (yr st) .none kV doc pm an cdv ct) ⟨us,[]⟩=pure (ps.zip us)):Binds K fd ps []:=by
 obtain ⟨oc,od,kV,doc,pm,an,cdv,ct,osl,rfl,lk,hcd⟩:=F.ex;exact .all (h kV doc pm an cdv ct)
theorem ydu {x qual:Str} {st:Stmt} {f:Addr} {oc:Value} {od an:Option Addr} {osl:Array (Option Value)} {kV doc pm cdv ct:Value} (l:K.lookup f=some ⟨oc,od,.func (PySem.W.fnOf x qual (zX st) (qX st) (yr st) .none kV doc pm an cdv ct),osl⟩)
 (c:PySem.W.codeIn K cdv qual=true) (k:PySem.W.keepIn K (.ref f)=true):Fun K x qual st f (PySem.W.fnOf x qual (zX st) (qX st) (yr st) .none kV doc pm an cdv ct):=⟨⟨oc,od,kV,doc,pm,an,cdv,ct,osl,rfl,l,c⟩,k⟩
end
section
variable {X:Cx}
theorem pv (i : Nat) {x : Str} {pos : Pos} (hN : X.N[i]? = some x := by rfl) (hv : Vis X.env.scope x := by first | exact Or.inl rfl | exact Or.inr (Or.inl rfl) | exact Or.inr (Or.inr rfl)) (hd : (x == ("__debug__" : Str)) = false := by decide)
 (hcd:(x==("__classdict__":Str))=false:=by decide):PE X (.Name x pos) (jeg i):=yaQ hN hv hd hcd
end
theorem ycW {A B:Prop} (h:B):if false=true then A else B:=by
 rw [if_neg wB];exact h
theorem ydk {A B:Prop} (h:A):if true=true then A else B:=by
 rw [if_pos rfl];exact h
def Same (H H':Hp):Prop:=∀ b o,H b=some o->H' b=some o
theorem Same.refl (H:Hp):Same H H:=λ_ _ h=>h
theorem Same.trans {H H1 H2:Hp} (a:Same H H1) (b:Same H1 H2):Same H H2:=λc o h=>b c o (a c o h)
theorem Same.free {H H':Hp} (e:Same H H') {l:Addr} (h:H' l=Option.none):H l=Option.none:=by
 cases q:H l with
 | none=>rfl
 | some o =>
  rw [e l o q] at h;cases h
end L2
end
section
namespace Eng
open PySem
inductive D where
 | non | bl (b:Bool) | int (i:Int) | str (x:Str) | tup (xs:List D) | lst (xs:List D) | scr (ns:List Int)
 /-- a dict whose keys are tuples of ints: its values -/
 | grp (xs:List D)
mutual
noncomputable def eqD:D->D->Bool
 | .non,.non=>true
 | .bl a,.bl b=>a==b
 | .bl a,.int j=>(if a then 1 else 0)==j
 | .int i,.bl b=>i==(if b then 1 else 0)
 | .int i,.int j=>i==j
 | .str x,.str y=>x==y
 | .tup xs,.tup ys=>zbW xs ys
 | .lst xs,.lst ys=>zbW xs ys
 | _,_=>false
noncomputable def zbW:List D->List D->Bool
 | [],[]=>true
 | x::xs,y::ys=>eqD x y&&zbW xs ys
 | _,_=>false
end
mutual
noncomputable def dep:D->Nat
 | .tup xs=>zbn xs+1
 | .lst xs=>zbn xs+1
 | _=>0
noncomputable def zbn:List D->Nat
 | []=>0
 | x::xs=>max (dep x) (zbn xs)
end
mutual
noncomputable def noL:D->Bool
 | .lst _=>false
 | .grp _=>false
 | .tup xs=>jaC xs
 | _=>true
noncomputable def jaC:List D->Bool
 | []=>true
 | x::xs=>noL x&&jaC xs
end
mutual
noncomputable def noS:D->Bool
 | .scr _=>false
 | .grp _=>false
 | .str x=>x.cps.all (·<0x110000)
 | .tup xs=>yS xs
 | .lst xs=>yS xs
 | _=>true
noncomputable def yS:List D->Bool
 | []=>true
 | x::xs=>noS x&&yS xs
end
noncomputable def jeh:D->Bool
 | .non=>false
 | .bl b=>b
 | .int i=>i != 0
 | .str x=>x.length != 0
 | .tup xs=>!xs.isEmpty
 | .lst xs=>!xs.isEmpty
 | .scr xs=>!xs.isEmpty
 | .grp xs=>!xs.isEmpty
noncomputable def truO:D->Option Bool
 | .str _=>none
 | .grp _=>none
 | x=>some (jeh x)
noncomputable abbrev En:=List (Option D)
noncomputable abbrev Tab:=Nat->List D->Option D
noncomputable def intsOf:List D->Option (List Int)
 | []=>some []
 | .int i::r=>(intsOf r).map (i::·)
 | _=>none
noncomputable def strsOf:List D->Option (List Str)
 | []=>some []
 | .str x::r=>(strsOf r).map (x::·)
 | _=>none
noncomputable def qaN:List D->Option (List Bool)
 | []=>some []
 | .bl x::r=>(qaN r).map (x::·)
 | _=>none
noncomputable def y0 (i j:Int):Bool:=(decide (-(2^64)<i)&&decide (i<2^64))||(decide (-(2^64)<j)&&decide (j<2^64))
noncomputable def qcL (k:Nat) (xs:List D):List D:=(List.replicate k xs).flatten
noncomputable def jd2:D->D->Option D
 | .int i,.int j=>some (.int (i+j))
 | .str x,.str y=>if x.length+y.length<=sizeLine then some (.str (x++y)) else none
 | .tup xs,.tup ys=>if xs.length+ys.length<=sizeLine then some (.tup (xs++ys)) else none
 | .lst xs,.lst ys=>if xs.length+ys.length<=sizeLine then some (.lst (xs++ys)) else none
 | _,_=>none
noncomputable def zd3:D->D->Option D
 | .int i,.int j=>if y0 i j then some (.int (i*j)) else none
 | .tup xs,.int j=>if xs.length*j.toNat<=sizeLine/\-(2^63)<=j/\j<2^63 then some (.tup (qcL j.toNat xs)) else none
 | .lst xs,.int j=>if xs.length*j.toNat<=sizeLine/\-(2^63)<=j/\j<2^63 then some (.lst (qcL j.toNat xs)) else none
 | _,_=>none
noncomputable def jcW (f:Int->Int->Option D):D->D->Option D
 | .int i,.int j=>f i j
 | _,_=>none
noncomputable def zax (op:Operator) (x y:D):Option D:=match op with
 | .Add=>jd2 x y
 | .Sub=>jcW (λi j=>some (.int (i-j))) x y
 | .Mult=>zd3 x y
 | .FloorDiv=>jcW (λi j=>if 0<j/\j<1073741824 then some (.int (i/j)) else none) x y
 | .Mod=>jcW (λi j=>if 0<j then some (.int (i%j)) else none) x y
 | .Pow=>jcW (λi j=>if 0<=j/\j<=64/\i.natAbs<2^64 then some (.int (i^j.toNat)) else none) x y
 | _=>none
noncomputable def jak (x y:D):Bool:=(decide (dep x<=40)||decide (dep y<=40))&&noS x&&noS y
noncomputable def inD (x:D):List D->Bool
 | []=>false
 | y::r=>eqD y x||inD x r
noncomputable def isS:D->Bool
 | .str _=>true
 | _=>false
noncomputable def jdu (f:Int->Int->Bool):D->D->Option Bool
 | .int i,.int j=>some (f i j)
 | _,_=>none
noncomputable def isN:D->Bool
 | .non=>true
 | _=>false
noncomputable def isC:D->D->Option Bool
 | x,.non=>some (isN x)
 | .bl a,.bl b=>some (a==b)
 | _,_=>none
noncomputable def inC (x:D):D->Option Bool
 | .tup ys=>if jak x (.tup ys) then some (inD x ys) else none
 | .lst ys=>if jak x (.lst ys) then some (inD x ys) else none
 | _=>none
noncomputable def zV (op:CmpOp) (x y:D):Option Bool:=match op with
 | .Eq=>if (isS x&&isS y)||jak x y then some (eqD x y) else none
 | .NotEq=>if (isS x&&isS y)||jak x y then some (!eqD x y) else none
 | .Lt=>jdu (λi j=>decide (i<j)) x y
 | .LtE=>jdu (λi j=>decide (i<=j)) x y
 | .Gt=>jdu (λi j=>decide (j<i)) x y
 | .GtE=>jdu (λi j=>decide (j<=i)) x y
 | .Is=>isC x y
 | .IsNot=>(isC x y).map not
 | .In=>inC x y
 | .NotIn=>(inC x y).map not
noncomputable def ixN (n:Nat) (i:Int):Option Nat:=if 0<=i then (if i<n then some i.toNat else none) else if -(n:Int)<=i then some (i+n).toNat else none
noncomputable def atI {α:Type} (xs:List α) (i:Int):Option α:=(ixN xs.length i).bind λj=>xs[j]?
noncomputable def ycs:D->D->Option D
 | .tup xs,.int i=>atI xs i
 | .lst xs,.int i=>atI xs i
 | .scr ns,.int i=>(atI ns i).map D.int
 | .str z,.int i=>if z.length<=sizeLine then (atI z.cps.toList i).map λc=>.str ⟨#[c]⟩ else none
 | _,_=>none
noncomputable def sIx (n d:Nat):Option Int->Nat
 | none=>d
 | some v=>if v<0 then (v+(n:Int)).toNat else min v.toNat n
noncomputable def cutD (xs:List D) (lo hi:Option Int):List D:=(xs.drop (sIx xs.length 0 lo)).take (sIx xs.length xs.length hi-sIx xs.length 0 lo)
noncomputable def jcs:D->Option Int->Option Int->Option D
 | .tup xs,lo,hi=>some (.tup (cutD xs lo hi))
 | .lst xs,lo,hi=>some (.lst (cutD xs lo hi))
 | .str z,lo,hi=>if z.length<=sizeLine then some (.str (Txt.slice z lo hi)) else none
 | _,_,_=>none
noncomputable def revD:D->Option D
 | .tup xs=>some (.tup xs.reverse)
 | .lst xs=>some (.lst xs.reverse)
 | _=>none
inductive Ty where
 | int | bool | str | tuple | list
noncomputable def ybA:D->Ty->Bool
 | .int _,.int=>true
 | .bl _,.int=>true
 | .bl _,.bool=>true
 | .str _,.str=>true
 | .tup _,.tuple=>true
 | .lst _,.list=>true
 | .scr _,.list=>true
 | _,_=>false
noncomputable def zdv:D->Ty->Option D
 | .scr _,_=>none
 | .grp _,_=>none
 | x,t=>some (.bl (ybA x t))
noncomputable def insI (x:Int):List Int->List Int
 | []=>[x]
 | y::r=>if x<=y then x::y::r else y::insI x r
noncomputable def sortI:List Int->List Int
 | []=>[]
 | x::r=>insI x (sortI r)
noncomputable def qbn:List Int->List Int
 | []=>[]
 | x::r=>if r.contains x then qbn r else x::qbn r
noncomputable def ybn:List Int->Option Int
 | []=>none
 | x::r=>match ybn r with | none=>some x | some y=>some (if y<x then y else x)
noncomputable def lowM:Nat:=5
noncomputable def yag (ns:List Int):Bool:=ns.all λn=>decide (0<=n)&&decide (n<lowM)
inductive Blt where
 | len | lenSet | sortedSet | sorted | list | tuple | int | str | min | max | sum | all | any | join | count | minD | hdS | split | find | part | lidx | lcnt
noncomputable def itemsD:D->Option (List D)
 | .tup xs=>some xs
 | .lst xs=>some xs
 | .scr ns=>some (ns.map D.int)
 | _=>none
noncomputable def zK (i:Int):Str:=Str.ofString (toString i)
mutual
noncomputable def ltD:D->D->Option Bool
 | .int i,.int j=>some (decide (i<j))
 | .tup xs,.tup ys=>qcp xs ys
 | _,_=>none
noncomputable def qcp:List D->List D->Option Bool
 | [],[]=>some false
 | [],_::_=>some true
 | _::_,[]=>some false
 | x::xs,y::ys=>if jak x y then (if eqD x y then qcp xs ys else ltD x y) else none
end
noncomputable def jdk (x y:D):Bool:=jak x y&&decide (dep x<=8)&&decide (dep y<=8)
noncomputable def jaY (b:D):List D->Option D
 | []=>some b
 | x::r=>if jdk x b then (ltD x b).bind λk=>jaY (if k then x else b) r else none
noncomputable def noT:D->Bool
 | .lst _=>false
 | _=>true
noncomputable def jbc:List D->Option D
 | []=>none
 | x::r=>(jaY x r).bind λm=>if noT m then some m else none
noncomputable def zei (x:D):List D->Nat
 | []=>0
 | y::r=>(if eqD y x then 1 else 0)+zei x r
noncomputable def ints1 (f:List Int->Option D):List D->Option D
 | [x]=>(itemsD x).bind λxs=>(intsOf xs).bind f
 | _=>none
noncomputable def qei (f:List Bool->D):List D->Option D
 | [x]=>(itemsD x).bind λxs=>(qaN xs).map f
 | _=>none
noncomputable def qd3:List D->Option D
 | [x]=>match x with | .str z=>if z.length<=sizeLine then some (.int z.length) else none | _=>(itemsD x).map λxs=>.int xs.length
 | _=>none
noncomputable def qer:List D->Option D
 | [.scr _]=>none
 | [x]=>(itemsD x).map D.lst
 | _=>none
noncomputable def yer:List D->Option D
 | [.scr _]=>none
 | [x]=>(itemsD x).map D.tup
 | _=>none
noncomputable def jer:List D->Option D
 | [.bl b]=>some (.int (if b then 1 else 0))
 | [.int i]=>some (.int i)
 | _=>none
noncomputable def yei:List D->Option D
 | [.int i]=>if i.natAbs<2^64 then some (.str (zK i)) else none
 | _=>none
noncomputable def yd3:List D->Option D
 | [.str sep,.lst xs]=>(strsOf xs).bind λts=>if (ts.map (·.length)).sum+ts.length*sep.length<=sizeLine then some (.str (Str.join sep ts)) else none
 | _=>none
noncomputable def zes:List D->Option D
 | [.tup xs,y]=>if jak y (.tup xs) then some (.int (zei y xs)) else none
 | _=>none
noncomputable def mnB:List D->Option D
 | [x]=>(itemsD x).bind jbc
 | _=>none
noncomputable def qes:D->Option Int
 | .tup (.int i::_)=>some i
 | _=>none
noncomputable def jei:Option Int->List D->Bool
 | _,[]=>true
 | o,x::r=>match qes x with | some j=>(match o with | some i=>decide (i<j) | none=>true)&&jei (some j) r | none=>false
noncomputable def jes (xs:List D):Option D:=match intsOf xs with | some ns=>some (.lst ((sortI ns).map D.int)) | none=>if jei none xs then some (.lst xs) else none
noncomputable def zet:List D->Option D
 | [.lst xs]=>if xs.length<64 then jes xs else none
 | _=>none
noncomputable def spB:List D->Option D
 | [.str a,.str b]=>if b.length=1/\a.length+2<=sizeLine/\(Txt.split a b).length<=sizeLine then some (.lst ((Txt.split a b).map D.str)) else none
 | _=>none
noncomputable def fdB:List D->Option D
 | [.str a,.str b]=>some (.int (Txt.find a b))
 | _=>none
noncomputable def ptB:List D->Option D
 | [.str a,.str b]=>if b.length=1/\a.length<=sizeLine then some (.tup [.str (Txt.partition a b).1,.str (Txt.partition a b).2.1,.str (Txt.partition a b).2.2]) else none
 | _=>none
noncomputable def zct (y:Str):List Str->Option Nat
 | []=>none
 | z::r=>if z=y then some 0 else (zct y r).map (·+1)
noncomputable def lxB:List D->Option D
 | [.lst xs,.str y]=>(strsOf xs).bind λts=>(zct y ts).map λ(i:Nat)=>D.int (i:Int)
 | _=>none
noncomputable def lcB:List D->Option D
 | [.lst xs,.str y]=>(strsOf xs).map λts=>D.int ((ts.countP λz=>decide (z=y):Nat):Int)
 | _=>none
noncomputable def yJ:Blt->List D->Option D
 | .split=>spB
 | .find=>fdB
 | .part=>ptB
 | .lidx=>lxB
 | .lcnt=>lcB
 | .len=>qd3
 | .lenSet=>ints1 λns=>if yag ns then some (.int (qbn ns).length) else none
 | .sortedSet=>ints1 λns=>if yag ns then some (.lst ((sortI (qbn ns)).map D.int)) else none
 | .sorted=>zet
 | .list=>qer
 | .tuple=>yer
 | .int=>jer
 | .str=>yei
 | .min=>mnB
 | .all=>qei λbs=>.bl (bs.all id)
 | .join=>yd3
 | .count=>zes
 | _=>λ_=>none
inductive Tgt where
 | one (i:Nat) | many (is:List Nat)
mutual
inductive Code where
 | cst (d:D) | var (i:Nat) | bin (op:Operator) (a b:Code) | neg (a:Code) | not (a:Code)
 | and (a b:Code) | or (a b:Code) | ite (c a b:Code) | cmp (op:CmpOp) (a b:Code) | chn (op op':CmpOp) (a b c:Code)
 | tup (cs:Codes) | lst (cs:Codes) | idx (a b:Code) | slc (a:Code) (lo hi:OCode) | rev (a:Code)
 | call (f:Nat) (cs:Codes) | blt (b:Blt) (cs:Codes) | isi (a:Code) (t:Ty)
 | comp (e:Code) (t:Tgt) (n:Nat) (keep:List Nat) (it:Iter) (c:OCode)
 | ofi (b:Blt) (it:Iter)
inductive Codes where
 | nil | cons (c:Code) (cs:Codes)
inductive OCode where
 | none | some (c:Code)
inductive Iter where
 | data (c:Code) | rng (cs:Codes) | enu (c:Code) | zip (a b:Code) | vals (c:Code) | chr (c:Code)
end
noncomputable def setM:List Nat->List D->En->En
 | i::is,d::ds,ρ=>setM is ds (ρ.set i (some d))
 | _,_,ρ=>ρ
noncomputable def zaa:Tgt->D->En->Option En
 | .one i,d,ρ=>some (ρ.set i (some d))
 | .many is,.tup ds,ρ=>if ds.length=is.length then some (setM is ds ρ) else none
 | _,_,_=>none
noncomputable def yg (n:Nat) (keep:List Nat) (ρ:En):En:=List.replicate n none++keep.map λi=>(ρ[i]?).join
noncomputable def gather (f:D->Option (Option D)):List D->Option (List D)
 | []=>some []
 | d::ds=>(f d).bind λo=>(gather f ds).map λr=>match o with | none=>r | some x=>x::r
noncomputable def zj (lo:Int):Nat->List D
 | 0=>[]
 | n+1=>.int lo::zj (lo+1) n
noncomputable def rngD:List D->Option (List D)
 | [.int j]=>if -(2^62)<=j/\j<2^62/\j.toNat<=sizeLine then some (zj 0 j.toNat) else none
 | [.int i,.int j]=>if -(2^62)<=i/\i<2^62/\-(2^62)<=j/\j<2^62/\(j-i).toNat<=sizeLine then some (zj i (j-i).toNat) else none
 | _=>none
noncomputable def zaf (k:Nat):List D->List D
 | []=>[]
 | d::ds=>.tup [.int k,d]::zaf (k+1) ds
noncomputable def qdv:D->Option (List D)
 | .str z=>if z.length<=50000/\z.cps.all (·<128)=true then some (z.cps.toList.map λc=>.str ⟨#[c]⟩) else none
 | _=>none
noncomputable def jd3:D->Option (List D)
 | .grp xs=>some xs
 | _=>none
noncomputable def jau:List D->List D->List D
 | x::xs,y::ys=>.tup [x,y]::jau xs ys
 | _,_=>[]
noncomputable def noE:D->Option D
 | .grp _=>none
 | d=>some d
mutual
noncomputable def ev (C:Tab):Code->En->Option D
 | .cst d,_=>some d
 | .var i,ρ=>(ρ[i]?).join
 | .bin op a b,ρ=>(ev C a ρ).bind λx=>(ev C b ρ).bind λy=>zax op x y
 | .neg a,ρ=>(ev C a ρ).bind λx=>match x with | .int i=>some (.int (-i)) | _=>none
 | .not a,ρ=>(ev C a ρ).bind λx=>(truO x).map λk=>.bl (!k)
 | .and a b,ρ=>(ev C a ρ).bind λx=>match x with | .bl true=>ev C b ρ | .bl false=>some (.bl false) | _=>none
 | .or a b,ρ=>(ev C a ρ).bind λx=>match x with | .bl false=>ev C b ρ | .bl true=>some (.bl true) | _=>none
 | .ite c a b,ρ=>(ev C c ρ).bind λx=>(truO x).bind λk=>if k then ev C a ρ else ev C b ρ
 | .cmp op a b,ρ=>(ev C a ρ).bind λx=>(ev C b ρ).bind λy=>(zV op x y).map D.bl
 | .chn op op' a b c,ρ=>(ev C a ρ).bind λx=>(ev C b ρ).bind λy=>(zV op x y).bind λt =>
  if t then (ev C c ρ).bind λz=>(zV op' y z).map D.bl else some (.bl false)
 | .tup cs,ρ=>(evs C cs ρ).bind λxs=>if xs.length<=sizeLine then some (.tup xs) else none
 | .lst cs,ρ=>(evs C cs ρ).bind λxs=>if xs.length<=sizeLine then some (.lst xs) else none
 | .idx a b,ρ=>(ev C a ρ).bind λx=>(ev C b ρ).bind λy=>ycs x y
 | .slc a lo hi,ρ=>(ev C a ρ).bind λx=>(evO C lo ρ).bind λl=>(evO C hi ρ).bind λh=>jcs x l h
 | .rev a,ρ=>(ev C a ρ).bind revD
 | .call f cs,ρ=>(evs C cs ρ).bind λxs=>(C f xs).bind noE
 | .blt b cs,ρ=>(evs C cs ρ).bind λxs=>yJ b xs
 | .isi a t,ρ=>(ev C a ρ).bind λx=>zdv x t
 | .comp e t n keep it c,ρ=>(evI C it ρ).bind λds =>
  (gather (λd=>(zaa t d (yg n keep ρ)).bind λρ'=>(evT C c ρ').bind λk=>if k then (ev C e ρ').map some else some none) ds).map D.lst
 | .ofi b it,ρ=>(evI C it ρ).bind λds=>match b with | .list=>some (.lst ds) | .tuple=>some (.tup ds) | _=>none
noncomputable def evs (C:Tab):Codes->En->Option (List D)
 | .nil,_=>some []
 | .cons c cs,ρ=>(ev C c ρ).bind λx=>(evs C cs ρ).map λxs=>x::xs
noncomputable def evO (C:Tab):OCode->En->Option (Option Int)
 | .none,_=>some none
 | .some c,ρ=>(ev C c ρ).bind λx=>match x with | .int i=>some (some i) | _=>none
noncomputable def evT (C:Tab):OCode->En->Option Bool
 | .none,_=>some true
 | .some c,ρ=>(ev C c ρ).bind truO
noncomputable def evI (C:Tab):Iter->En->Option (List D)
 | .data c,ρ=>(ev C c ρ).bind itemsD
 | .rng cs,ρ=>(evs C cs ρ).bind rngD
 | .enu c,ρ=>(ev C c ρ).bind λx=>(itemsD x).map (zaf 0)
 | .zip a b,ρ=>(ev C a ρ).bind λx=>(ev C b ρ).bind λy=>(itemsD x).bind λxs=>(itemsD y).map λys=>jau xs ys
 | .vals c,ρ=>(ev C c ρ).bind jd3
 | .chr c,ρ=>(ev C c ρ).bind qdv
end
inductive Sl where
 | un | pu (d:D) | ow (ds:List D) | gr (es:List (List Int×List D))
inductive Mode where
 | pu | cl | ow
mutual
inductive Stm where
 | set (m:Mode) (t:Tgt) (e:Code)
 | app (i:Nat) (m:Mode) (e:Code)
 | ite (c:Code) (a b:Stms)
 | for (t:Tgt) (it:Iter) (b:Stms)
 | ret (e:Code)
 | newd (i:Nat) | grp (i:Nat) (k v:Code) | ext (i:Nat) (e:Code)
 | put (i:Nat) (k e:Code)
 /-- try: x = f(c) except ..: return None -/
 | tryr (i f:Nat) (c:Code)
 | brk | cnt | pas
inductive Stms where
 | nil | cons (s:Stm) (r:Stms) | frz (i:Nat) (r:Stms)
 /-- if c: raise .., and what follows -/
 | rsg (c:Code) (r:Stms)
end
inductive Fl where
 | nx (ρ:List Sl) | rt (d:D) | bk (ρ:List Sl) | ct (ρ:List Sl)
 /-- it raised -/
 | xc
noncomputable def Sl.all:Sl->Option D
 | .un=>none
 | .pu d=>some d
 | .ow ds=>some (.lst ds)
 | .gr es=>some (.grp (es.map λe=>.lst e.2))
noncomputable def Sl.isGr:Sl->Bool
 | .gr _=>true
 | _=>false
noncomputable def zej (k:List Int) (d:D):List (List Int×List D)->List (List Int×List D)
 | []=>[(k,[d])]
 | (j,ds)::r=>if j=k then (j,ds++[d])::r else (j,ds)::zej k d r
noncomputable def qet:D->Option (List Int)
 | .tup xs=>intsOf xs
 | _=>none
noncomputable def yet (i:Nat) (k:List Int) (d:D) (ρ:List Sl):Option Fl:=match ρ[i]? with
 | some (.gr es)=>if es.length<1000/\(∀ e∈es,e.2.length<1000) then some (.nx (ρ.set i (.gr (zej k d es)))) else none
 | _=>none
noncomputable def jet (i:Nat) (d:D) (ρ:List Sl):Option Fl:=match ρ[i]?,d with
 | some (.ow ds),.lst es=>if ds.length+es.length<sizeLine then some (.nx (ρ.set i (.ow (ds++es)))) else none
 | some (.ow ds),.tup es=>if ds.length+es.length<sizeLine then some (.nx (ρ.set i (.ow (ds++es)))) else none
 | _,_=>none
noncomputable def Sl.pure:Sl->Option D
 | .pu d=>some d
 | _=>none
noncomputable def vA (ρ:List Sl):En:=ρ.map Sl.all
noncomputable def vP (ρ:List Sl):En:=ρ.map Sl.pure
noncomputable def puM:List Nat->List D->List Sl->List Sl
 | i::is,d::ds,ρ=>puM is ds (ρ.set i (.pu d))
 | _,_,ρ=>ρ
noncomputable def puT:Tgt->D->List Sl->Option (List Sl)
 | .one i,d,ρ=>some (ρ.set i (.pu d))
 | .many is,.tup ds,ρ=>if ds.length=is.length then some (puM is ds ρ) else none
 | _,_,_=>none
noncomputable def forL (f:D->List Sl->Option Fl):List D->List Sl->Option Fl
 | [],ρ=>some (.nx ρ)
 | d::ds,ρ=>(f d ρ).bind λr=>match r with
  | .nx ρ'=>forL f ds ρ'
  | .ct ρ'=>forL f ds ρ'
  | .bk ρ'=>some (.nx ρ')
  | .rt v=>some (.rt v)
  | .xc=>none
noncomputable def ydv (i:Nat) (k d:D) (ρ:List Sl):Option Fl:=match ρ[i]?,k with
 | some (.ow ds),.int j=>if 0<=j/\j<ds.length then some (.nx (ρ.set i (.ow (ds.set j.toNat d)))) else none
 | _,_=>none
mutual
noncomputable def ex (C:Tab):Stm->List Sl->Option Fl
 | .set .pu t e,ρ=>(ev C e (vP ρ)).bind λd=>(puT t d ρ).map Fl.nx
 | .set .cl t e,ρ=>(ev C e (vA ρ)).bind λd=>if noL d then (puT t d ρ).map Fl.nx else none
 | .set .ow t e,ρ=>(ev C e (vA ρ)).bind λd=>match t,d with
  | .one i,.lst ds=>if jaC ds then some (.nx (ρ.set i (.ow ds))) else none
  | _,_=>none
 | .app i m e,ρ=>(ev C e (match m with | .pu=>vP ρ | _=>vA ρ)).bind λd=>match m,ρ[i]? with
  | .pu,some (.ow ds)=>if ds.length<sizeLine then some (.nx (ρ.set i (.ow (ds++[d])))) else none
  | .cl,some (.ow ds)=>if noL d&&decide (ds.length<sizeLine) then some (.nx (ρ.set i (.ow (ds++[d])))) else none
  | _,_=>none
 | .ite c a b,ρ=>(ev C c (vA ρ)).bind λd=>(truO d).bind λk=>if k then exs C a ρ else exs C b ρ
 | .for t it b,ρ=>(evI C it (vP ρ)).bind λds=>forL (λd ρ'=>(puT t d ρ').bind λρ''=>exs C b ρ'') ds ρ
 | .ret e,ρ=>(ev C e (vA ρ)).map Fl.rt
 | .newd i,ρ=>if (ρ.set i .un).any Sl.isGr then none else some (.nx (ρ.set i (.gr [])))
 | .grp i k v,ρ=>(ev C k (vP ρ)).bind λx=>(ev C v (vP ρ)).bind λd=>(qet x).bind λns=>yet i ns d ρ
 | .ext i e,ρ=>(ev C e (vP ρ)).bind λd=>jet i d ρ
 | .put i k e,ρ=>(ev C e (vP ρ)).bind λd=>(ev C k (vP ρ)).bind λj=>ydv i j d ρ
 | .tryr i f c,ρ=>(ev C c (vP ρ)).bind λx=>(C f [x]).bind λd=>match d with | .grp _=>some (.rt .non) | d=>some (.nx (ρ.set i (.pu d)))
 | .brk,ρ=>some (.bk ρ)
 | .cnt,ρ=>some (.ct ρ)
 | .pas,ρ=>some (.nx ρ)
noncomputable def exs (C:Tab):Stms->List Sl->Option Fl
 | .nil,ρ=>some (.nx ρ)
 | .cons s r,ρ=>(ex C s ρ).bind λf=>match f with
  | .nx ρ'=>exs C r ρ'
  | .xc=>none
  | f=>some f
 | .frz i r,ρ=>match ρ[i]? with
  | some (.ow ds)=>exs C r (ρ.set i (.pu (.lst ds)))
  | _=>none
 | .rsg c r,ρ=>(ev C c (vA ρ)).bind λd=>(truO d).bind λk=>if k then some .xc else exs C r ρ
end
structure Def where
 n:Nat
 p:Nat
 b:Stms
noncomputable def zN (C:Tab) (f:Def) (ds:List D):Option D :=
 if ds.length=f.p then
  (exs C f.b (ds.map Sl.pu++List.replicate (f.n-f.p) .un)).bind λr=>match r with
   | .rt d=>noE d
   | .nx _=>some .non
   | .xc=>some (.grp [])
   | _=>none
 else none
noncomputable def ym (P:List Def):Nat->Tab
 | 0=>λ_ _=>none
 | k+1=>λi ds=>(P[i]?).bind λf=>zN (ym P k) f ds
section
variable {C:Tab} {ρ:En} {a b c:Code} {cs:Codes}
theorem yB {d:D}:ev C (.cst d) ρ=some d:=rfl
theorem jw {i:Nat}:ev C (.var i) ρ=(ρ[i]?).join:=rfl
theorem jB {op:Operator}:ev C (.bin op a b) ρ=(ev C a ρ).bind λx=>(ev C b ρ).bind λy=>zax op x y:=rfl
theorem zF:ev C (.neg a) ρ=(ev C a ρ).bind λx=>match x with | .int i=>some (.int (-i)) | _=>none:=rfl
theorem zC:ev C (.not a) ρ=(ev C a ρ).bind λx=>(truO x).map λk=>.bl (!k):=rfl
theorem yz:ev C (.and a b) ρ=(ev C a ρ).bind λx=>match x with | .bl true=>ev C b ρ | .bl false=>some (.bl false) | _=>none:=rfl
theorem qO:ev C (.or a b) ρ=(ev C a ρ).bind λx=>match x with | .bl false=>ev C b ρ | .bl true=>some (.bl true) | _=>none:=rfl
theorem qF:ev C (.ite c a b) ρ=(ev C c ρ).bind λx=>(truO x).bind λk=>if k then ev C a ρ else ev C b ρ:=rfl
theorem qC {op:CmpOp}:ev C (.cmp op a b) ρ=(ev C a ρ).bind λx=>(ev C b ρ).bind λy=>(zV op x y).map D.bl:=rfl
theorem yC {op op':CmpOp}:ev C (.chn op op' a b c) ρ=(ev C a ρ).bind λx=>(ev C b ρ).bind λy=>(zV op x y).bind λt =>
 if t then (ev C c ρ).bind λz=>(zV op' y z).map D.bl else some (.bl false):=rfl
theorem jC:ev C (.tup cs) ρ=(evs C cs ρ).bind λxs=>if xs.length<=sizeLine then some (.tup xs) else none:=rfl
theorem jz:ev C (.lst cs) ρ=(evs C cs ρ).bind λxs=>if xs.length<=sizeLine then some (.lst xs) else none:=rfl
theorem zD:ev C (.idx a b) ρ=(ev C a ρ).bind λx=>(ev C b ρ).bind λy=>ycs x y:=rfl
theorem qD {lo hi:OCode}:ev C (.slc a lo hi) ρ=(ev C a ρ).bind λx=>(evO C lo ρ).bind λl=>(evO C hi ρ).bind λh=>jcs x l h:=rfl
theorem yD:ev C (.rev a) ρ=(ev C a ρ).bind revD:=rfl
theorem zr {f:Nat}:ev C (.call f cs) ρ=(evs C cs ρ).bind λxs=>(C f xs).bind noE:=rfl
theorem zA {f:Blt}:ev C (.blt f cs) ρ=(evs C cs ρ).bind λxs=>yJ f xs:=rfl
theorem jD {t:Ty}:ev C (.isi a t) ρ=(ev C a ρ).bind λx=>zdv x t:=rfl
noncomputable def turn (C:Tab) (e:Code) (t:Tgt) (n:Nat) (keep:List Nat) (c:OCode) (ρ:En) (d:D):Option (Option D) :=
 (zaa t d (yg n keep ρ)).bind λρ'=>(evT C c ρ').bind λk=>if k then (ev C e ρ').map some else some none
theorem qs {e:Code} {t:Tgt} {n:Nat} {keep:List Nat} {it:Iter} {c:OCode}:ev C (.comp e t n keep it c) ρ=(evI C it ρ).bind λds=>(gather (turn C e t n keep c ρ) ds).map D.lst:=rfl
theorem zE {b:Blt} {it:Iter}:ev C (.ofi b it) ρ=(evI C it ρ).bind λds=>match b with | .list=>some (.lst ds) | .tuple=>some (.tup ds) | _=>none:=rfl
theorem jo:evs C .nil ρ=some []:=rfl
theorem zi:evs C (.cons a cs) ρ=(ev C a ρ).bind λx=>(evs C cs ρ).map λxs=>x::xs:=rfl
theorem zp:evO C .none ρ=some none:=rfl
theorem qo:evO C (.some c) ρ=(ev C c ρ).bind λx=>match x with | .int i=>some (some i) | _=>none:=rfl
theorem ql:evT C .none ρ=some true:=rfl
theorem qj:evT C (.some c) ρ=(ev C c ρ).bind truO:=rfl
theorem yo:evI C (.data c) ρ=(ev C c ρ).bind itemsD:=rfl
theorem js:evI C (.rng cs) ρ=(evs C cs ρ).bind rngD:=rfl
theorem zt:evI C (.enu c) ρ=(ev C c ρ).bind λx=>(itemsD x).map (zaf 0):=rfl
theorem qt:evI C (.zip a b) ρ=(ev C a ρ).bind λx=>(ev C b ρ).bind λy=>(itemsD x).bind λxs=>(itemsD y).map λys=>jau xs ys:=rfl
end
section
variable {i j:Int}
theorem jS:zax .Add (.int i) (.int j)=some (.int (i+j)):=rfl
theorem yO:zax .Sub (.int i) (.int j)=some (.int (i-j)):=rfl
theorem qw (h:y0 i j=true):zax .Mult (.int i) (.int j)=some (.int (i*j)):=if_pos h
theorem zx (h:0<j/\j<1073741824):zax .FloorDiv (.int i) (.int j)=some (.int (i/j)):=if_pos h
theorem qv (h:0<j):zax .Mod (.int i) (.int j)=some (.int (i%j)):=if_pos h
theorem qm {x y:Str} (h:x.length+y.length<=sizeLine):zax .Add (.str x) (.str y)=some (.str (x++y)):=if_pos h
theorem jm {xs ys:List D} (h:xs.length+ys.length<=sizeLine):zax .Add (.lst xs) (.lst ys)=some (.lst (xs++ys)):=if_pos h
theorem yn {xs:List D} (h:xs.length*j.toNat<=sizeLine/\-(2^63)<=j/\j<2^63):zax .Mult (.tup xs) (.int j)=some (.tup (qcL j.toNat xs)):=if_pos h
theorem zR {x y:D} (h:jak x y=true):zV .Eq x y=some (eqD x y):=if_pos (by rw [h,Bool.or_true])
theorem qN {x y:D} (h:jak x y=true):zV .NotEq x y=some (!eqD x y):=if_pos (by rw [h,Bool.or_true])
theorem zd4 {x y:Str}:zV .Eq (.str x) (.str y)=some (x==y):=rfl
theorem zaD:zV .Lt (.int i) (.int j)=some (decide (i<j)):=rfl
theorem zag:zV .LtE (.int i) (.int j)=some (decide (i<=j)):=rfl
theorem qaD:zV .Gt (.int i) (.int j)=some (decide (j<i)):=rfl
theorem jaM:zV .GtE (.int i) (.int j)=some (decide (j<=i)):=rfl
theorem zT {xs:List D}:ycs (.tup xs) (.int i)=atI xs i:=rfl
theorem qT {xs:List D}:ycs (.lst xs) (.int i)=atI xs i:=rfl
theorem yT {xs:List Int}:ycs (.scr xs) (.int i)=(atI xs i).map D.int:=rfl
theorem jT:truO .non=some false:=rfl
theorem yaN {b:Bool}:truO (.bl b)=some b:=rfl
theorem zU:truO (.int i)=some (i != 0):=rfl
theorem qU {xs:List D}:truO (.tup xs)=some (!xs.isEmpty):=rfl
theorem yU {xs:List D}:truO (.lst xs)=some (!xs.isEmpty):=rfl
theorem jb {x:Str} (h:x.length<=sizeLine):yJ .len [.str x]=some (.int x.length):=if_pos h
theorem yb {xs:List D}:yJ .len [.tup xs]=some (.int xs.length):=rfl
theorem yi {xs:List D}:yJ .len [.lst xs]=some (.int xs.length):=rfl
theorem jj {xs:List Int}:yJ .len [.scr xs]=some (.int xs.length):=by simp [yJ,qd3,itemsD]
theorem qh {xs:List D}:yJ .list [.tup xs]=some (.lst xs):=rfl
theorem yh {xs:List D}:yJ .list [.lst xs]=some (.lst xs):=rfl
theorem jf {xs:List D}:yJ .tuple [.tup xs]=some (.tup xs):=rfl
theorem qg {xs:List D}:yJ .tuple [.lst xs]=some (.tup xs):=rfl
theorem qp {b:Bool}:yJ .int [.bl b]=some (.int (if b then 1 else 0)):=rfl
theorem zk:yJ .int [.int i]=some (.int i):=rfl
theorem ye (h:i.natAbs<2^64):yJ .str [.int i]=some (.str (zK i)):=if_pos h
theorem jr {sep:Str} {xs:List D}:yJ .join [.str sep,.lst xs]=(strsOf xs).bind λts=>if (ts.map (·.length)).sum+ts.length*sep.length<=sizeLine then some (.str (Str.join sep ts)) else none:=rfl
theorem qk {xs:List D}:itemsD (.tup xs)=some xs:=rfl
theorem yk {xs:List D}:itemsD (.lst xs)=some xs:=rfl
theorem jk {xs:List Int}:itemsD (.scr xs)=some (xs.map D.int):=rfl
end
section
variable {s:Sl} {ρ:List Sl} {x:Option D} {r:En} {d:D} {ds:List D} {n:Nat}
theorem yv:vP (s::ρ)=s.pure::vP ρ:=rfl
theorem jv:vA (s::ρ)=s.all::vA ρ:=rfl
theorem yF:vP []=[]:=rfl
theorem jF:vA []=[]:=rfl
theorem jaN:(Sl.pu d).pure=some d:=rfl
theorem zaO:(Sl.ow ds).pure=none:=rfl
theorem qaO:Sl.un.pure=none:=rfl
theorem yaO:(Sl.pu d).all=some d:=rfl
theorem jaO:(Sl.ow ds).all=some (.lst ds):=rfl
theorem zaP:Sl.un.all=none:=rfl
theorem zG:(x::r)[0]?=some x:=rfl
theorem qG:(x::r)[n+1]?=r[n]?:=rfl
theorem join_some:(some x).join=x:=rfl
theorem join_none:(none:Option (Option D)).join=none:=rfl
end
section
variable {i:Int} {b:Bool} {z:Str} {xs:List D}
theorem zc:noE (.int i)=some (.int i):=rfl
theorem zo:noE (.bl b)=some (.bl b):=rfl
theorem qc:noE (.str z)=some (.str z):=rfl
theorem yc:noE (.tup xs)=some (.tup xs):=rfl
theorem jc:noE (.lst xs)=some (.lst xs):=rfl
theorem qd:noE .non=some .non:=rfl
end
section
variable {C:Tab} {ρ ρ':List Sl} {e c:Code} {t:Tgt} {d:D} {ds:List D} {r a b:Stms} {i:Nat} {x:Option Fl}
theorem yR:exs C .nil ρ=some (.nx ρ):=rfl
theorem yt (h:ev C e (vP ρ)=some d) (h1:puT t d ρ=some ρ') (h2:exs C r ρ'=x):exs C (.cons (.set .pu t e) r) ρ=x:=by
 rw [exs,ex,h,we,h1];exact h2
theorem jdv (h:ev C e (vA ρ)=some d) (hn:noL d=true) (h1:puT t d ρ=some ρ') (h2:exs C r ρ'=x):exs C (.cons (.set .cl t e) r) ρ=x:=by
 rw [exs,ex,h,we,if_pos hn,h1];exact h2
theorem qax (h:ev C e (vA ρ)=some (.lst ds)) (hn:jaC ds=true) (h2:exs C r (ρ.set i (.ow ds))=x):exs C (.cons (.set .ow (.one i) e) r) ρ=x:=by
 rw [exs,ex,h,we];show (if jaC ds=true then some (Fl.nx (ρ.set i (.ow ds))) else none).bind _=x;rw [if_pos hn];exact h2
theorem yal (h:ev C e (vP ρ)=some d) (hi:ρ[i]?=some (.ow ds)) (hl:ds.length<sizeLine) (h2:exs C r (ρ.set i (.ow (ds++[d])))=x):exs C (.cons (.app i .pu e) r) ρ=x:=by
 rw [exs,ex];show ((ev C e (vP ρ)).bind _).bind _=x;rw [h,we,hi];show (if ds.length<sizeLine then some (Fl.nx (ρ.set i (.ow (ds++[d])))) else none).bind _=x;rw [if_pos hl];exact h2
theorem zcX (h:ev C e (vA ρ)=some d) (hi:ρ[i]?=some (.ow ds)) (hn:noL d=true) (hl:ds.length<sizeLine) (h2:exs C r (ρ.set i (.ow (ds++[d])))=x):exs C (.cons (.app i .cl e) r) ρ=x:=by
 rw [exs];show ((ev C e (vA ρ)).bind _).bind _=x;rw [h,we,hi];show (if (noL d&&decide (ds.length<sizeLine))=true then some (Fl.nx (ρ.set i (.ow (ds++[d])))) else none).bind _=x;rw [hn,decide_eq_true hl];exact h2
theorem zJ {k : Bool} (h : ev C c (vA ρ) = some d) (hk : truO d = some k) (h1 : k = true -> (exs C a ρ).bind (λf => match f with | .nx ρ' => exs C r ρ' | .xc => none | f => some f) = x)
  (h2:k=false->(exs C b ρ).bind (λf=>match f with | .nx ρ'=>exs C r ρ' | .xc=>none | f=>some f)=x):exs C (.cons (.ite c a b) r) ρ=x:=by
 rw [exs,ex,h,we,hk,we];cases k with
 | true=>exact h1 rfl
 | false=>exact h2 rfl
theorem jR {it:Iter} (h:evI C it (vP ρ)=some ds) (h1:forL (λd ρ'=>(puT t d ρ').bind λρ''=>exs C b ρ'') ds ρ=some (.nx ρ')) (h2:exs C r ρ'=x):exs C (.cons (.for t it b) r) ρ=x:=by
 rw [exs,ex,h,we,h1];exact h2
theorem jh (h:ev C e (vA ρ)=some d):exs C (.cons (.ret e) r) ρ=some (.rt d):=by
 rw [exs,ex,h];rfl
theorem jg {f : Def} (h : ds.length = f.p) (h2 : exs C f.b (ds.map Sl.pu ++ List.replicate (f.n - f.p) .un) = some (.rt d)) (hn : noE d = some d := by rfl) : zN C f ds = some d := by
 rw [zN,if_pos h,h2];exact hn
theorem qcX {f:Def} (h:ds.length=f.p) (h2:exs C f.b (ds.map Sl.pu++List.replicate (f.n-f.p) .un)=some .xc):zN C f ds=some (.grp []):=by
 rw [zN,if_pos h,h2];rfl
end
noncomputable def EA :=
 And.intro @yB<|And.intro @jw<|And.intro @jB<|And.intro @zF<|And.intro @zC<|And.intro @yz<|And.intro @qO<|And.intro @qF<|And.intro @qC<|And.intro @yC<|And.intro @jC<|And.intro @jz<|And.intro @zD<|And.intro @qD<|And.intro @yD<|And.intro @zr<|And.intro @zA<|And.intro @jD<|And.intro @qs<|And.intro @zE<|And.intro @jo<|And.intro @zi<|And.intro @zp<|And.intro @qo<|And.intro @ql<|And.intro @qj<|And.intro @yo<|And.intro @js<|And.intro @zt<|And.intro @qt<|And.intro @jS<|And.intro @yO<|And.intro @zaD<|And.intro @zag<|And.intro @qaD<|And.intro @jaM<|And.intro @zT<|And.intro @qT<|And.intro @yT<|And.intro @jT<|And.intro @yaN<|And.intro @zU<|And.intro @qU<|And.intro @yU<|And.intro @yb<|And.intro @yi<|And.intro @jj<|And.intro @qh<|And.intro @yh<|And.intro @jf<|And.intro @qg<|And.intro @qp<|And.intro @zk<|And.intro @jr<|And.intro @qk<|And.intro @yk<|And.intro @jk<|And.intro @yv<|And.intro @jv<|And.intro @yF<|And.intro @jF<|And.intro @jaN<|And.intro @zaO<|And.intro @qaO<|And.intro @yaO<|And.intro @jaO<|And.intro @zaP<|And.intro @zG<|And.intro @qG<|And.intro @join_some<|@join_none
section
variable {prog:Program} {w:World} {A:Around} {E:Value->Shared->Prop} {s:Shared}
theorem zaZ {it l:Addr} {i:Nat} {items:Array Value} {x:Value} {Q:Value->Shared->Prop} (hit:s.heap.IsTupleIter it l i) (hl:s.heap.IsTuple l items) (hx:items[i]?=some x)
  (hQ:∀ h',h'.IsTupleIter it l (i+1)->Heap.SameBut it s.heap h'->Q x { s with heap:=h' }):wpAny (model prog w) A (Builtin.SmallTypes.nextOf (.ref it)) Q E s:=by
 obtain ⟨o,ho,hc,hd⟩:=id hit;obtain ⟨ol,hol,_,nl,hdl⟩:=hl;unfold Builtin.SmallTypes.nextOf;refine wg (va (name:=Str.ofString "__next__") hit.typeIs F.slot_tuple_iterator_next (wY F.slot_tuple_iterator_next hit.typeIs F.entry_tuple_iterator_next ?_ (F.args_tuple_iterator_next_1 _)));show wpAny _ _ (field (.ref it) 0 >>= _) _ _ s;refine wg (wpAny_field ho hd (x:=.ref l) rfl ?_);rw [if_neg (show ¬ ((Value.ref l==Value.none)=true) from wB)];refine wg (wpAny_field ho hd (x:=.int i 0) rfl ?_);refine wg (wpAny_seqItems hol hdl ?_);simp only [wX,hx];refine wg (wpAny_setField ho hd (by simp) (wo ⟨x,rfl,wo (hQ _ ⟨_,Heap.get?_update_self _ ho (Obj.isFreed_of_fields (Obj.data_mapFields hd _)),(Obj.cls_mapFields ..).trans hc,?_⟩ (Heap.SameBut.update ..))⟩));rw [Obj.data_mapFields hd];simp [rawInt]
theorem zbd {it l:Addr} {i:Nat} {items:Array Value} {Q:Value->Shared->Prop} (hh:A.handled=none) (hit:s.heap.IsTupleIter it l i) (hl:s.heap.IsTuple l items) (hx:items[i]?=none)
  (hE:∀ h' e,Heap.ExtBut it s.heap h'->(∃ o,h'.get? e=some o/\o.cls=.type "StopIteration")->E (.ref e) { s with heap:=h' }):wpAny (model prog w) A (Builtin.SmallTypes.nextOf (.ref it)) Q E s:=by
 obtain ⟨o,ho,hc,hd⟩:=id hit;obtain ⟨ol,hol,_,nl,hdl⟩:=hl;unfold Builtin.SmallTypes.nextOf;refine wg (va (name:=Str.ofString "__next__") hit.typeIs F.slot_tuple_iterator_next (wY F.slot_tuple_iterator_next hit.typeIs F.entry_tuple_iterator_next ?_ (F.args_tuple_iterator_next_1 _)));show wpAny _ _ (field (.ref it) 0 >>= _) _ _ s;refine wg (wpAny_field ho hd (x:=.ref l) rfl ?_);rw [if_neg (show ¬ ((Value.ref l==Value.none)=true) from wB)];refine wg (wpAny_field ho hd (x:=.int i 0) rfl ?_);refine wg (wpAny_seqItems hol hdl ?_);simp only [wX,hx];refine wg (wpAny_rule (wg (wpAny_setField ho hd (by simp) (wg ?_))));simp only [newExc,newTuple];refine wg (ve (wg (m:=firstArgMember _ _) (wpAny_of_eq (a:=Value.none) (by first | rfl | (simp only [firstArgMember];rfl)) (ve ?_ (by size_fits)))) (by size_fits));simp only [raiseNew];refine wg (wpAny_handled ?_)
 first | rw [show A.in1.handled=none from hh] | rw [hh]
 exact wg (wo (wpAny_throw (hE _ _ (((Heap.SameBut.update ..).extBut.push _).push _) ⟨_,wx _ rfl,rfl⟩)))
end
def SItr (t:Bool) (h:Heap) (it a:Addr) (i:Nat):Prop:=cond t (h.IsTupleIter it a i) (h.IsListIter it a i)
def SSeq (t:Bool) (h:Heap) (a:Addr) (items:Array Value):Prop:=cond t (h.IsTuple a items) (h.IsList a items)
theorem SItr.at {t:Bool} {h h':Heap} {it a:Addr} {i:Nat} (x:SItr t h it a i) (k:∀ o,h.get? it=some o->h'.get? it=some o):SItr t h' it a i:=by
 cases t<;>obtain ⟨o,ho,r⟩:=x<;>exact ⟨o,k o ho,r⟩
theorem SSeq.at {t:Bool} {h h':Heap} {a:Addr} {items:Array Value} (x:SSeq t h a items) (k:∀ o,h.get? a=some o->h'.get? a=some o):SSeq t h' a items:=by
 cases t<;>obtain ⟨o,ho,r⟩:=x<;>exact ⟨o,k o ho,r⟩
theorem SItr.ob {t:Bool} {h:Heap} {it a:Addr} {i:Nat} (x:SItr t h it a i):∃ o n,h.get? it=some o/\o.cls=.type n/\(n="tuple_iterator"\/n="list_iterator")/\o.data=.fields #[.ref a,.int i 0]:=by
 cases t
 ·obtain ⟨o,ho,hc,hd⟩:=x;exact ⟨o,_,ho,hc,.inr rfl,hd⟩
 ·obtain ⟨o,ho,hc,hd⟩:=x;exact ⟨o,_,ho,hc,.inl rfl,hd⟩
theorem SSeq.ob {t:Bool} {h:Heap} {a:Addr} {items:Array Value} (x:SSeq t h a items):∃ o n,h.get? a=some o/\o.cls=.type n/\(n="tuple"\/n="list"):=by
 cases t
 ·obtain ⟨o,ho,hc,_⟩:=x;exact ⟨o,_,ho,hc,.inr rfl⟩
 ·obtain ⟨o,ho,hc,_⟩:=x;exact ⟨o,_,ho,hc,.inl rfl⟩
theorem SSeq.ne_itr {t u:Bool} {h:Heap} {a b it:Addr} {i:Nat} {items:Array Value} (x:SSeq t h a items) (y:SItr u h it b i):a≠it:=λz=>by
 subst z;obtain ⟨o,n,ho,hc,hn⟩:=x.ob;obtain ⟨o',n',ho',hc',hn',_⟩:=y.ob;rw [ho] at ho';cases ho'
 rw [hc] at hc';cases hc'
 rcases hn with rfl | rfl<;>rcases hn' with z | z<;>simp at z
section
variable {prog:Program} {w:World} {A:Around} {E:Value->Shared->Prop} {s:Shared}
theorem yaD {t:Bool} {it a:Addr} {i:Nat} {items:Array Value} {x:Value} {Q:Value->Shared->Prop} (hit:SItr t s.heap it a i) (hl:SSeq t s.heap a items) (hx:items[i]?=some x)
  (hQ:∀ h',SItr t h' it a (i+1)->Heap.SameBut it s.heap h'->Q x { s with heap:=h' }):wpAny (model prog w) A (Builtin.SmallTypes.nextOf (.ref it)) Q E s:=by
 cases t
 ·exact wpAny_nextOf_list_item hit hl hx hQ
 ·exact zaZ hit hl hx hQ
theorem qb2 {t:Bool} {it a:Addr} {i:Nat} {items:Array Value} {Q:Value->Shared->Prop} (hh:A.handled=none) (hit:SItr t s.heap it a i) (hl:SSeq t s.heap a items) (hx:items[i]?=none)
  (hE:∀ h' e,Heap.ExtBut it s.heap h'->(∃ o,h'.get? e=some o/\o.cls=.type "StopIteration")->E (.ref e) { s with heap:=h' }):wpAny (model prog w) A (Builtin.SmallTypes.nextOf (.ref it)) Q E s:=by
 cases t
 ·exact wpAny_nextOf_list_end hh hit hl hx hE
 ·exact zbd hh hit hl hx hE
theorem yX {t:Bool} {a:Addr} {items:Array Value} {Q:Value->Shared->Prop} (hl:SSeq t s.heap a items)
  (hQ:Q (.ref s.heap.objs.size) { s with heap:=s.heap.push { cls:=.type (cond t "tuple_iterator" "list_iterator"),data:=.fields #[.ref a,.int 0 0] } }):wpAny (model prog w) A (pyIter (.ref a)) Q E s:=by
 cases t
 ·exact wpAny_pyIter_list hl hQ
 ·exact wpAny_pyIter_tuple hl hQ
end
theorem SItr.fresh (t:Bool) (h:Heap) (a:Addr):SItr t (h.push { cls:=.type (cond t "tuple_iterator" "list_iterator"),data:=.fields #[.ref a,.int 0 0] }) h.objs.size a 0:=by
 cases t<;>exact ⟨_,wx _ rfl,rfl,rfl⟩
theorem jbA {prog:Program} {w:World} {A:Around} (hh:A.handled=none) (t:Bool) (it a:Addr) (hne:a≠it) (items:Array Value) :
  Draws prog w A it [it,a] items.size (λi v=>items[i]?=some v) (λi h=>SItr t h it a i/\SSeq t h a items) where
 live:=λ_ _ st=>let ⟨o,_,ho,_⟩:=st.1.ob;⟨o,ho⟩
 frame:=λ_ _ _ st hk=>⟨st.1.at λo e=>hk it (by simp) o e,st.2.at λo e=>hk a (by simp) o e⟩
 item:=λi s Q E hi st hQ=>by
  refine yaD st.1 st.2 (x:=items[i]) (by simp [hi]) λh' hit' hs'=>?_
  exact hQ _ h' s.toks (by simp [hi]) ⟨hit',st.2.at λo e=>hs'.extBut _ _ hne e⟩ hs'
 done:=λs Q E st hE=>qb2 hh st.1 st.2 (by simp) hE
end Eng
end
section
namespace Eng
open PySem
open AutoSeq1 (wpAny_loadPart')
noncomputable abbrev itO (t:Bool) (a:Addr):Obj:={ cls:=.type (cond t "tuple_iterator" "list_iterator"),data:=.fields #[.ref a,.int 0 0] }
theorem qct (t:Bool) (a:Addr) (items:Array Value) :
  Meets (Builtin.«enumerate.__new__» ⟨[.type "enumerate",.ref a],[]⟩) (λ_ R s=>SSeq t s.heap a items /\
   R (.ok (.ret (.ref (s.heap.push (itO t a)).objs.size))) { s with heap:=(s.heap.push (itO t a)).push { cls:=.type "enumerate",data:=.fields #[.none,.bool false,.ref s.heap.objs.size,rawInt 0,.none,.none] } }) :=
 .of_wp λprog w A R s h=>by
  obtain ⟨hp,g,d,tk,os⟩:=s;obtain ⟨hl,h⟩:=h
  have hsub:=sub_enumerate;have hL:SSeq t (Shared.heap ⟨hp,g,d,tk,os⟩) a items:=hl
  wp_walk using yX hL
  refine wpAny_stack_any λst=>wo ?_
  split
  ·rename_i c _ _ _ _ _;cases (c==Value.type "enumerate")
   ·wp_walk using yX hL
    exact ⟨_,rfl,h⟩
   ·wp_walk using yX hL
    exact ⟨_,rfl,h⟩
  ·wp_walk using yX hL
   exact ⟨_,rfl,h⟩
noncomputable abbrev zpA (h:Heap) (t u:Bool) (a b:Addr):Heap:=(h.push (itO t a)).push (itO u b)
noncomputable abbrev zpB (h:Heap) (t u:Bool) (a b:Addr):Heap:=(zpA h t u a b).push { cls:=.type "tuple",data:=.seq #[.ref h.objs.size,.ref (h.push (itO t a)).objs.size] }
noncomputable abbrev zpC (h:Heap) (t u:Bool) (a b:Addr):Heap:=(zpB h t u a b).push { cls:=.type "tuple",data:=.seq #[.none,.none] }
noncomputable abbrev zpD (h:Heap) (t u:Bool) (a b:Addr):Heap:=(zpC h t u a b).push { cls:=.type "zip",data:=.fields #[.none,.bool false,.bool false,.ref (zpA h t u a b).objs.size,.ref (zpB h t u a b).objs.size] }
theorem ycX (t u:Bool) (a b:Addr) (xs ys:Array Value) :
  Meets (Builtin.«zip.__new__» ⟨[.type "zip",.ref a,.ref b],[]⟩) (λ_ R s=>SSeq t s.heap a xs/\SSeq u s.heap b ys/\R (.ok (.ret (.ref (zpC s.heap t u a b).objs.size))) { s with heap:=zpD s.heap t u a b }) :=
 .of_wp λprog w A R s h=>by
  obtain ⟨hp,g,d,tk,os⟩:=s;obtain ⟨hl1,hl2,h⟩:=h
  have hsub:=sub_zip;have hL1:SSeq t (Shared.heap ⟨hp,g,d,tk,os⟩) a xs:=hl1;have hL2:SSeq u (Shared.heap ⟨hp.push (itO t a),g,d,tk,os⟩) b ys:=hl2.at λo e=>wm _ e
  wp_walk using yX hL1,yX hL2
  exact ⟨_,rfl,h⟩
section
variable {prog:Program} {w:World} {A:Around} {E:Value->Shared->Prop} {s:Shared}
theorem yb2 {t:Bool} {a:Addr} {items:Array Value} {Q:Value->Shared->Prop} (hL:SSeq t s.heap a items)
  (h:∀ h',IsEnum h' (s.heap.objs.size+1) s.heap.objs.size 0 .none->SItr t h' s.heap.objs.size a 0->h'.objs.size=s.heap.objs.size+2->(∀ b o,s.heap.get? b=some o->h'.get? b=some o)->Q (.ref (s.heap.objs.size+1)) { s with heap:=h' }) :
  wpAny (model prog w) A (call (.type "enumerate") [.ref a]) Q E s:=by
 refine callType_new F.called_enumerate (by decide) (F.typeCall_enumerate_1 _) (F.newCall_enumerate_1 _) (λobj=>F.args_object_init_2 obj _) F.entry_enumerate_new (qct t a items) ⟨hL,?_⟩;have hz:(s.heap.push (itO t a)).objs.size=s.heap.objs.size+1:=Heap.size_push ..;obtain ⟨h1,e1⟩:∃ h1,h1=s.heap.push (itO t a):=⟨_,rfl⟩;have hi:SItr t h1 s.heap.objs.size a 0:=e1▸SItr.fresh t s.heap a;have hk:∀ b o,s.heap.get? b=some o->h1.get? b=some o:=λb o e=>e1▸wm _ e
 show _/\_;rw [<-e1] at hz ⊢;obtain ⟨o1,e2⟩:∃ o1:Obj,o1={ cls:=.type "enumerate",data:=.fields #[.none,.bool false,.ref s.heap.objs.size,rawInt 0,.none,.none] }:=⟨_,rfl⟩;have he:(h1.push o1).get? (s.heap.objs.size+1)=some o1:=by rw [<-hz];exact wx _ (by rw [e2];rfl)
 rw [<-e2,hz];refine ⟨⟨_,he,by rw [e2]⟩,h _ (by rw [e2] at he ⊢;exact he) (hi.at λo e=>wm _ e) (by rw [Heap.size_push,hz]) λb o x=>wm _ (hk b o x)⟩
theorem yct {t u:Bool} {a b:Addr} {xs ys:Array Value} {Q:Value->Shared->Prop} (hl1:SSeq t s.heap a xs) (hl2:SSeq u s.heap b ys)
  (h:∀ h',IsZip h' (s.heap.objs.size+4) (s.heap.objs.size+2) (s.heap.objs.size+3) .none->IsPair h' (s.heap.objs.size+2) (.ref s.heap.objs.size) (.ref (s.heap.objs.size+1))->IsPair h' (s.heap.objs.size+3) .none .none ->
   SItr t h' s.heap.objs.size a 0->SItr u h' (s.heap.objs.size+1) b 0->h'.objs.size=s.heap.objs.size+5->(∀ c o,s.heap.get? c=some o->h'.get? c=some o)->Q (.ref (s.heap.objs.size+4)) { s with heap:=h' }) :
  wpAny (model prog w) A (call (.type "zip") [.ref a,.ref b]) Q E s:=by
 refine callType_new F.called_zip (by decide) (F.typeCall_zip_2 _ _) (F.newCall_zip_2 _ _) (λobj=>F.args_object_init_3 obj _ _) F.entry_zip_new (ycX t u a b xs ys) ⟨hl1,hl2,?_⟩;obtain ⟨n,hn⟩:∃ n,n=s.heap.objs.size:=⟨_,rfl⟩;rw [<-hn] at h;have s1:(s.heap.push (itO t a)).objs.size=n+1:=by rw [Heap.size_push,hn]
 obtain ⟨h1,e1⟩:∃ h1,h1=s.heap.push (itO t a):=⟨_,rfl⟩;have i1:SItr t h1 n a 0:=by rw [e1,hn];exact SItr.fresh t s.heap a
 have k1:∀ b o,s.heap.get? b=some o->h1.get? b=some o:=λb o e=>e1▸wm _ e
 rw [<-e1] at s1;obtain ⟨h2,e2⟩:∃ h2,h2=h1.push (itO u b):=⟨_,rfl⟩;have s2:h2.objs.size=n+2:=by rw [e2,Heap.size_push,s1]
 have i2:SItr u h2 (n+1) b 0:=by rw [e2,<-s1];exact SItr.fresh u h1 b
 have k2:∀ b o,h1.get? b=some o->h2.get? b=some o:=λb o e=>e2▸wm _ e
 obtain ⟨h3,e3⟩:∃ h3,h3=h2.push { cls:=.type "tuple",data:=.seq #[.ref n,.ref (n+1)] }:=⟨_,rfl⟩;have s3:h3.objs.size=n+3:=by rw [e3,Heap.size_push,s2]
 have g3:IsPair h3 (n+2) (.ref n) (.ref (n+1)):=by rw [e3,<-s2];exact wx _ rfl
 have k3:∀ b o,h2.get? b=some o->h3.get? b=some o:=λb o e=>e3▸wm _ e
 obtain ⟨h4,e4⟩:∃ h4,h4=h3.push { cls:=.type "tuple",data:=.seq #[.none,.none] }:=⟨_,rfl⟩;have s4:h4.objs.size=n+4:=by rw [e4,Heap.size_push,s3]
 have g4:IsPair h4 (n+3) .none .none:=by rw [e4,<-s3];exact wx _ rfl
 have k4:∀ b o,h3.get? b=some o->h4.get? b=some o:=λb o e=>e4▸wm _ e
 obtain ⟨h5,e5⟩:∃ h5,h5=h4.push { cls:=.type "zip",data:=.fields #[.none,.bool false,.bool false,.ref (n+2),.ref (n+3)] }:=⟨_,rfl⟩;have s5:h5.objs.size=n+5:=by rw [e5,Heap.size_push,s4]
 have g5:IsZip h5 (n+4) (n+2) (n+3) .none:=by rw [e5,<-s4];exact wx _ rfl
 have k5:∀ b o,h4.get? b=some o->h5.get? b=some o:=λb o e=>e5▸wm _ e
 show _/\_;have q4:zpC s.heap t u a b=h4:=by unfold zpC zpB zpA;rw [<-e1,<-hn,s1,<-e2,<-e3,<-e4]
 have q5:zpD s.heap t u a b=h5:=by unfold zpD zpC zpB zpA;rw [<-e1,<-hn,s1,<-e2,s2,<-e3,s3,<-e4,<-e5]
 rw [q4,s4,q5];exact ⟨⟨_,g5,rfl⟩,h h5 g5 (k5 _ _ (k4 _ _ g3)) (k5 _ _ g4) (i1.at λo e=>k5 _ _ (k4 _ _ (k3 _ _ (k2 _ _ e)))) (i2.at λo e=>k5 _ _ (k4 _ _ (k3 _ _ e))) s5 λc o e=>k5 _ _ (k4 _ _ (k3 _ _ (k2 _ _ (k1 _ _ e))))⟩
theorem jct {t u:Bool} {z TI TO i1 i2 a b:Addr} {k1 k2:Nat} {xs ys:Array Value} {x y p q:Value} {Q:Value->Shared->Prop} (D:ZipApart z TI TO i1 i2 a b)
  (hz:IsZip s.heap z TI TO .none) (hTI:IsPair s.heap TI (.ref i1) (.ref i2)) (hTO:IsPair s.heap TO p q)
  (h1:SItr t s.heap i1 a k1) (h2:SItr u s.heap i2 b k2) (hl1:SSeq t s.heap a xs) (hl2:SSeq u s.heap b ys) (hx:xs[k1]?=some x) (hy:ys[k2]?=some y)
  (hQ:∀ h',IsZip h' z TI TO (rawInt s.heap.objs.size)->IsPair h' TO x y->SItr t h' i1 a (k1+1)->SItr u h' i2 b (k2+1)->IsPair h' s.heap.objs.size x y->h'.objs.size=s.heap.objs.size+1 ->
   (∀ c o,c≠z->c≠TO->c≠i1->c≠i2->s.heap.get? c=some o->h'.get? c=some o)->Q (.ref s.heap.objs.size) { s with heap:=h' }) :
  wpAny (model prog w) A (Builtin.«zip.__next__» ⟨[.ref z],[]⟩) (λfin s'=>∃ v,fin=.done (.ret v)/\Q v s') E s:=by
 show wpAny _ _ (field (.ref z) 2 >>= _) _ _ _;refine wg (wpAny_field hz rfl (x:=.bool false) rfl ?_);refine wg (wpAny_field hz rfl (x:=.ref TI) rfl ?_);refine wg (wpAny_seqItems hTI rfl ?_);show wpAny _ _ (Builtin.SmallTypes.ownedTupleIsFree (.ref z) >>= _) _ _ _;refine wg ?_;unfold Builtin.SmallTypes.ownedTupleIsFree;refine wg (wpAny_field hz rfl (x:=.none) rfl (wo ?_));simp only [if_true];refine wg (wpAny_rule (wg (wpAny_field hz rfl (x:=.ref TO) rfl (wg (wZ hz (by simp) λha za sa=>?_)))))
 replace za:IsZip ha z TI TO .ellipsis:=za
 refine wg ?_;simp only [List.zipIdx_cons,List.zipIdx_nil,List.forIn_cons,List.forIn_nil];refine wg (wg (wpAny_onRaise ?_));show wpAny _ _ (Builtin.SmallTypes.nextOf (.ref i1) >>= _) _ _ _;refine wg (yaD (h1.at λo e=>sa.extBut _ _ D.i1z e) (hl1.at λo e=>sa.extBut _ _ D.l1z e) hx λhb j1 sb=>wo ?_);have tb:IsPair hb TO p q:=sb.extBut _ _ D.TOi1 (sa.extBut _ _ D.TOz hTO);refine wg (wpAny_seqItems tb rfl (wg (wpAny_updateSeq_pair tb λhc tc sc=>?_)))
 replace tc:IsPair hc TO x q:=tc
 refine wg (wpAny_letGo (wo (wg (wg (wpAny_onRaise ?_)))));show wpAny _ _ (Builtin.SmallTypes.nextOf (.ref i2) >>= _) _ _ _
 refine wg (yaD (((h2.at λo e=>sa.extBut _ _ D.i2z e).at λo e=>sb.extBut _ _ D.i12.symm e).at λo e=>sc.extBut _ _ D.TOi2.symm e)
  (((hl2.at λo e=>sa.extBut _ _ D.l2z e).at λo e=>sb.extBut _ _ D.l2i1 e).at λo e=>sc.extBut _ _ D.l2TO e) hy λhd j2 sd=>wo ?_)
 have td:IsPair hd TO x q:=sd.extBut _ _ D.TOi2 tc;refine wg (wpAny_seqItems td rfl (wg (wpAny_updateSeq_pair td λhe te se=>?_)))
 replace te:IsPair he TO x y:=te
 refine wg (wpAny_letGo (wo (wo (wg (wpAny_seqItems te rfl (wg (wpAny_newTuple ?_)))))));have hsz:he.objs.size=s.heap.objs.size:=by rw [se.1,sd.1,sc.1,sb.1,sa.1]
 have ze:IsZip he z TI TO .ellipsis:=se.extBut _ _ D.TOz.symm (sd.extBut _ _ D.i2z.symm (sc.extBut _ _ D.TOz.symm (sb.extBut _ _ D.i1z.symm za)));have ke:∀ c o,c≠z->c≠TO->c≠i1->c≠i2->s.heap.get? c=some o->he.get? c=some o:=λc o c1 c2 c3 c4 e=>se.extBut _ _ c2 (sd.extBut _ _ c4 (sc.extBut _ _ c2 (sb.extBut _ _ c3 (sa.extBut _ _ c1 e))))
 have f1:SItr t he i1 a (k1+1):=((j1.at λo e=>sc.extBut _ _ D.TOi1.symm e).at λo e=>sd.extBut _ _ D.i12 e).at λo e=>se.extBut _ _ D.TOi1.symm e
 have f2:SItr u he i2 b (k2+1):=j2.at λo e=>se.extBut _ _ D.TOi2.symm e
 have zlt:z<he.objs.size:=wA ze;show wpAny _ _ (Builtin.SmallTypes.ownedTupleHandOut (.ref z) (.ref he.objs.size) >>= _) _ _ _;refine wg ?_;unfold Builtin.SmallTypes.ownedTupleHandOut;have zf:IsZip (he.push { cls:=.type "tuple",data:=.seq #[x,y] }) z TI TO .ellipsis:=wm _ ze;refine wg (wZ zf (by simp) λhg zg sg=>?_)
 replace zg:IsZip hg z TI TO (rawInt he.objs.size):=zg
 refine wZ zg (by simp) λhh zh sh=>?_
 replace zh:IsZip hh z TI TO (rawInt he.objs.size):=zh
 have up:∀ c o,c≠z->he.get? c=some o->hh.get? c=some o:=λc o c1 e=>sh.extBut _ _ c1 (sg.extBut _ _ c1 (wm _ e))
 have th:IsPair hh he.objs.size x y:=sh.extBut _ _ (Nat.ne_of_gt zlt) (sg.extBut _ _ (Nat.ne_of_gt zlt) (wx _ rfl));have zz:hh.objs.size=he.objs.size+1:=by rw [sh.1,sg.1,Heap.size_push]
 rw [hsz] at zh th zz;refine wo ⟨_,rfl,?_⟩;show Q (.ref he.objs.size) _;rw [hsz];exact hQ hh zh (up _ _ D.TOz te) (f1.at λo e=>up _ o D.i1z e) (f2.at λo e=>up _ o D.i2z e) th zz λc o c1 c2 c3 c4 e=>up c o c1 (ke c o c1 c2 c3 c4 e)
theorem jcX {t u:Bool} {z TI TO i1 i2 a b:Addr} {k1 k2:Nat} {xs ys:Array Value} {p q:Value} {Q:Fin->Shared->Prop} (hh:A.handled=none) (D:ZipApart z TI TO i1 i2 a b)
  (hz:IsZip s.heap z TI TO .none) (hTI:IsPair s.heap TI (.ref i1) (.ref i2)) (hTO:IsPair s.heap TO p q)
  (h1:SItr t s.heap i1 a k1) (h2:SItr u s.heap i2 b k2) (hl1:SSeq t s.heap a xs) (hl2:SSeq u s.heap b ys) (hend:xs[k1]?=none\/ys[k2]?=none)
  (hE:∀ h' e,(∀ c o,c≠z->c≠TO->c≠i1->c≠i2->s.heap.get? c=some o->h'.get? c=some o)->(∃ o,h'.get? e=some o/\o.cls=.type "StopIteration")->E (.ref e) { s with heap:=h' }) :
  wpAny (model prog w) A (Builtin.«zip.__next__» ⟨[.ref z],[]⟩) Q E s:=by
 show wpAny _ _ (field (.ref z) 2 >>= _) _ _ _;refine wg (wpAny_field hz rfl (x:=.bool false) rfl ?_);refine wg (wpAny_field hz rfl (x:=.ref TI) rfl ?_);refine wg (wpAny_seqItems hTI rfl ?_);show wpAny _ _ (Builtin.SmallTypes.ownedTupleIsFree (.ref z) >>= _) _ _ _;refine wg ?_;unfold Builtin.SmallTypes.ownedTupleIsFree;refine wg (wpAny_field hz rfl (x:=.none) rfl (wo ?_));simp only [if_true];refine wg (wpAny_rule (wg (wpAny_field hz rfl (x:=.ref TO) rfl (wg (wZ hz (by simp) λha za sa=>?_)))))
 replace za:IsZip ha z TI TO .ellipsis:=za
 refine wg ?_;simp only [List.zipIdx_cons,List.zipIdx_nil,List.forIn_cons,List.forIn_nil];refine wg (wg (wpAny_onRaise ?_));show wpAny _ _ (Builtin.SmallTypes.nextOf (.ref i1) >>= _) _ _ _;cases hx:xs[k1]? with
 | none =>
  refine wg (qb2 hh (h1.at λo e=>sa.extBut _ _ D.i1z e) (hl1.at λo e=>sa.extBut _ _ D.l1z e) hx λhb e sb he=>?_);obtain ⟨oe,hoe,hce⟩:=he;have zb:IsZip hb z TI TO .ellipsis:=sb _ _ D.i1z.symm za;have hez:e≠z:=λx=>by subst x;rw [zb] at hoe;cases hoe;simp at hce
  exact wZ zb (by simp) λhc _ sc=>hE hc e (λc o c1 _ c3 _ x=>sc.extBut _ _ c1 (sb _ _ c3 (sa.extBut _ _ c1 x))) ⟨oe,sc.extBut _ _ hez hoe,hce⟩
 | some x =>
  have hy:ys[k2]?=none:=by rcases hend with h | h;rw [hx] at h;cases h;exact h
  refine wg (yaD (h1.at λo e=>sa.extBut _ _ D.i1z e) (hl1.at λo e=>sa.extBut _ _ D.l1z e) hx λhb j1 sb=>wo ?_);have tb:IsPair hb TO p q:=sb.extBut _ _ D.TOi1 (sa.extBut _ _ D.TOz hTO);refine wg (wpAny_seqItems tb rfl (wg (wpAny_updateSeq_pair tb λhc tc sc=>?_)));refine wg (wpAny_letGo (wo (wg (wg (wpAny_onRaise ?_)))));show wpAny _ _ (Builtin.SmallTypes.nextOf (.ref i2) >>= _) _ _ _
  refine wg (qb2 hh (((h2.at λo e=>sa.extBut _ _ D.i2z e).at λo e=>sb.extBut _ _ D.i12.symm e).at λo e=>sc.extBut _ _ D.TOi2.symm e)
   (((hl2.at λo e=>sa.extBut _ _ D.l2z e).at λo e=>sb.extBut _ _ D.l2i1 e).at λo e=>sc.extBut _ _ D.l2TO e) hy λhd e sd he=>?_)
  obtain ⟨oe,hoe,hce⟩:=he;have zd:IsZip hd z TI TO .ellipsis:=sd _ _ D.i2z.symm (sc.extBut _ _ D.TOz.symm (sb.extBut _ _ D.i1z.symm za));have hez:e≠z:=λx=>by subst x;rw [zd] at hoe;cases hoe;simp at hce
  exact wZ zd (by simp) λhe _ se=>hE he e (λc o c1 c2 c3 c4 x=>se.extBut _ _ c1 (sd _ _ c4 (sc.extBut _ _ c2 (sb.extBut _ _ c3 (sa.extBut _ _ c1 x))))) ⟨oe,se.extBut _ _ hez hoe,hce⟩
theorem zcu {t u:Bool} {z TI TO i1 i2 a b:Addr} {k1 k2:Nat} {xs ys:Array Value} {x y p q:Value} {Q:Option Value->Shared->Prop} (D:ZipApart z TI TO i1 i2 a b)
  (hz:IsZip s.heap z TI TO .none) (hTI:IsPair s.heap TI (.ref i1) (.ref i2)) (hTO:IsPair s.heap TO p q)
  (h1:SItr t s.heap i1 a k1) (h2:SItr u s.heap i2 b k2) (hl1:SSeq t s.heap a xs) (hl2:SSeq u s.heap b ys) (hx:xs[k1]?=some x) (hy:ys[k2]?=some y)
  (hQ:∀ h',IsZip h' z TI TO (rawInt s.heap.objs.size)->IsPair h' TO x y->SItr t h' i1 a (k1+1)->SItr u h' i2 b (k2+1)->IsPair h' s.heap.objs.size x y->h'.objs.size=s.heap.objs.size+1 ->
   (∀ c o,c≠z->c≠TO->c≠i1->c≠i2->s.heap.get? c=some o->h'.get? c=some o)->Q (some (.ref s.heap.objs.size)) { s with heap:=h' }) :
  wpAny (model prog w) A (pyNext (.ref z)) Q E s:=by
 have hT:s.TypeIs (.ref z) "zip":=⟨_,hz,rfl⟩;unfold pyNext
 exact wg (wpAny_attempt (va (name:=Str.ofString "__next__") hT F.slot_zip_next (wY F.slot_zip_next hT F.entry_zip_next
  (jct D hz hTI hTO h1 h2 hl1 hl2 hx hy λh' a1 a2 a3 a4 a5 a6 a7=>wo (hQ h' a1 a2 a3 a4 a5 a6 a7)) (F.args_zip_next_1 _))))
theorem qcu {t u:Bool} {z TI TO i1 i2 a b:Addr} {k1 k2:Nat} {xs ys:Array Value} {p q:Value} {Q:Option Value->Shared->Prop} (hh:A.handled=none) (D:ZipApart z TI TO i1 i2 a b)
  (hz:IsZip s.heap z TI TO .none) (hTI:IsPair s.heap TI (.ref i1) (.ref i2)) (hTO:IsPair s.heap TO p q)
  (h1:SItr t s.heap i1 a k1) (h2:SItr u s.heap i2 b k2) (hl1:SSeq t s.heap a xs) (hl2:SSeq u s.heap b ys) (hend:xs[k1]?=none\/ys[k2]?=none)
  (hQ:∀ h',(∀ c o,c≠z->c≠TO->c≠i1->c≠i2->s.heap.get? c=some o->h'.get? c=some o)->Q none { s with heap:=h' }):wpAny (model prog w) A (pyNext (.ref z)) Q E s:=by
 have hT:s.TypeIs (.ref z) "zip":=⟨_,hz,rfl⟩;unfold pyNext
 refine wg (wpAny_attempt (va (name:=Str.ofString "__next__") hT F.slot_zip_next
  (wY F.slot_zip_next hT F.entry_zip_next (jcX hh D hz hTI hTO h1 h2 hl1 hl2 hend λh' e hk he=>?_) (F.args_zip_next_1 _))))
 obtain ⟨o,ho,hc⟩:=he;refine wg (wpAny_isInstance (T:="StopIteration") (b:=true) ⟨o,ho,hc⟩ isSubtype_stop ?_);exact wo (hQ _ hk)
theorem jb2 {t:Bool} {e it a:Addr} {i:Nat} {items:Array Value} {x old:Value} {Q:Value->Shared->Prop} (hne:e≠it) (hea:e≠a)
  (he:IsEnum s.heap e it i old) (hi:SItr t s.heap it a i) (hl:SSeq t s.heap a items) (hx:items[i]?=some x)
  (hQ:∀ h' tk k,IsEnumOut h' e it (i+1) x s.heap.objs.size->SItr t h' it a (i+1)->IsPair h' s.heap.objs.size (.int i k) x ->
   (∀ c o,c≠e->c≠it->s.heap.get? c=some o->h'.get? c=some o)->Q (.ref s.heap.objs.size) { s with heap:=h',toks:=tk }) :
  wpAny (model prog w) A (Builtin.«enumerate.__next__» ⟨[.ref e],[]⟩) (λfin s'=>∃ v,fin=.done (.ret v)/\Q v s') E s:=by
 show wpAny _ _ (field (.ref e) 2 >>= _) _ _ _;refine wg (wpAny_field he rfl (x:=.ref it) rfl ?_);refine wg (yaD hi hl hx λhb j1 sb=>?_);have eb:IsEnum hb e it i old:=sb.extBut _ _ hne he;refine wg (wpAny_field eb rfl (x:=rawInt i) rfl ?_);show wpAny _ _ (field (.ref e) 4 >>= _) _ _ _;refine wg (wpAny_field eb rfl (x:=.none) rfl ?_);show wpAny _ _ (mkInt i >>= _) _ _ _;refine wg (wpAny_mkInt ?_);refine wg (wZ eb (by simp) λhc ec sc=>?_)
 replace ec:IsEnum hc e it (i+1) old:=ec
 refine wg (wZ ec (by simp) λhd ed sd=>?_)
 replace ed:IsEnum hd e it (i+1) old:=ed
 refine wg (wpAny_newTuple ?_);have hsz:hd.objs.size=s.heap.objs.size:=by rw [sd.1,sc.1,sb.1]
 have ke:∀ c o,c≠e->c≠it->s.heap.get? c=some o->hd.get? c=some o:=λc o c1 c2 q=>sd.extBut _ _ c1 (sc.extBut _ _ c1 (sb.extBut _ _ c2 q))
 have jd:SItr t hd it a (i+1):=(j1.at λo q=>sc.extBut _ _ hne.symm q).at λo q=>sd.extBut _ _ hne.symm q
 obtain ⟨T,hT⟩:∃ T,T=hd.objs.size:=⟨_,rfl⟩;have elt:e<hd.objs.size:=wA ed;have ee:IsEnum (hd.push { cls:=.type "tuple",data:=.seq #[.int i s.toks,x] }) e it (i+1) old:=wm _ ed;show wpAny _ _ (Builtin.SmallTypes.ownedTupleIsFree (.ref e) >>= _) _ _ _;refine wg ?_;unfold Builtin.SmallTypes.ownedTupleIsFree;refine wg (wpAny_field ee rfl (x:=.none) rfl (wo ?_));simp only [if_true];refine wg (wpAny_rule (wg (wpAny_field ee rfl (x:=old) rfl (wg (wZ ee (by simp) λhf ef sf=>?_)))))
 replace ef:IsEnum hf e it (i+1) x:=ef
 show wpAny _ _ (Builtin.SmallTypes.ownedTupleHandOut (.ref e) (.ref hd.objs.size) >>= _) _ _ _;refine wg ?_;unfold Builtin.SmallTypes.ownedTupleHandOut;refine wg (wZ ef (by simp) λhg eg sg=>?_)
 replace eg:IsEnumOut hg e it (i+1) x hd.objs.size:=eg
 refine wZ eg (by simp) λhh eh sh=>?_
 replace eh:IsEnumOut hh e it (i+1) x hd.objs.size:=eh
 have up:∀ c o,c≠e->hd.get? c=some o->hh.get? c=some o:=λc o c1 q=>sh.extBut _ _ c1 (sg.extBut _ _ c1 (sf.extBut _ _ c1 (wm _ q)))
 have th:IsPair hh hd.objs.size (.int i s.toks) x:=sh.extBut _ _ (Nat.ne_of_gt elt) (sg.extBut _ _ (Nat.ne_of_gt elt) (sf.extBut _ _ (Nat.ne_of_gt elt) (wx _ rfl)));rw [hsz] at eh th;refine wg (wpAny_letGo (wo ⟨_,rfl,?_⟩));show Q (.ref hd.objs.size) _;rw [hsz];exact hQ hh _ s.toks eh (jd.at λo q=>up _ o hne.symm q) th λc o c1 c2 q=>up c o c1 (ke c o c1 c2 q)
theorem zb3 {t:Bool} {e it a:Addr} {i:Nat} {items:Array Value} {x old:Value} {Q:Option Value->Shared->Prop} (hne:e≠it) (hea:e≠a)
  (he:IsEnum s.heap e it i old) (hi:SItr t s.heap it a i) (hl:SSeq t s.heap a items) (hx:items[i]?=some x)
  (hQ:∀ h' tk k,IsEnumOut h' e it (i+1) x s.heap.objs.size->SItr t h' it a (i+1)->IsPair h' s.heap.objs.size (.int i k) x ->
   (∀ c o,c≠e->c≠it->s.heap.get? c=some o->h'.get? c=some o)->Q (some (.ref s.heap.objs.size)) { s with heap:=h',toks:=tk }) :
  wpAny (model prog w) A (pyNext (.ref e)) Q E s:=by
 have hT:s.TypeIs (.ref e) "enumerate":=⟨_,he,rfl⟩;unfold pyNext
 exact wg (wpAny_attempt (va (name:=Str.ofString "__next__") hT F.slot_enumerate_next (wY F.slot_enumerate_next hT F.entry_enumerate_next
  (jb2 hne hea he hi hl hx λh' tk k a1 a2 a3 a4=>wo (hQ h' tk k a1 a2 a3 a4)) (F.args_enumerate_next_1 _))))
end
end Eng
end
section
namespace Eng
open PySem
noncomputable def jap (S:List Nat) (led:Bool):SetTable :=
 if S.length<5 then { mask:=7,place:=S.toArray,dummies:=#[],finger:=0,led:=led,moves:=0,plain:=true }
 else { mask:=31,place:=S.toArray,dummies:=#[],finger:=0,led:=led,moves:=1,plain:=true }
noncomputable def qaZ (k:Nat):List Nat->List Nat
 | []=>[k]
 | x::r=>if k<x then k::x::r else x::qaZ k r
noncomputable def subs:Nat->List (List Nat)
 | 0=>[[]]
 | n+1=>subs n++(subs n).map (·++[n])
noncomputable def cnt (k:Nat) (S:List Nat):Nat:=(S.filter (·<k)).length
noncomputable def qbd (S:List Nat) (k:Nat) (led:Bool):SetTable:={ mask:=if S.length<5 then 7 else 31,place:=(qaZ k S).toArray,dummies:=#[],finger:=0,led:=led,moves:=if S.length<5 then 0 else 1,plain:=true }
noncomputable def zdw (S:List Nat) (k:Nat) (led:Bool):Bool :=
 S.contains k ||
 (decide ((jap S led).freeSlot (k:Int)=some (k,false))&&decide ((jap S led).put k=(qbd S k led,cnt k S))&&(qbd S k led).fits (S.length+1)
  && decide (S.take (cnt k S)++k::S.drop (cnt k S)=qaZ k S)&&decide (qaZ k S∈subs lowM)
  && (if (qbd S k led).tooFull then decide ((qbd S k led).relaid ((qaZ k S).toArray.map Int.ofNat) (SetTable.grown (S.length+1))=some (jap (qaZ k S) led,Array.range (S.length+1)))&&coversAll (Array.range (S.length+1)) (S.length+1)&&(jap (qaZ k S) led).fits (S.length+1)
   else decide (qbd S k led=jap (qaZ k S) led)))
noncomputable def ycL (S:List Nat):Bool:=(List.range S.length).all λi=>decide (SetTable.below S.toArray (if i=0 then 0 else S.getD (i-1) 0+1)=i)
noncomputable def qd4 (S:List Nat):Bool:=decide (S.length<=SetTable.below S.toArray (if S.length=0 then 0 else S.getD (S.length-1) 0+1))
noncomputable def qdw (S:List Nat) (led:Bool):Bool:=(jap S led).fits S.length&&!(jap S led).gaveWay&&decide (S.length<=8)&&S.all (·<lowM)
theorem zcY:∀ led∈[true,false],∀ S∈subs lowM,∀ k∈List.range lowM,zdw S k led=true:=by decide +kernel
theorem yaZ:∀ S∈subs lowM,ycL S=true/\qd4 S=true/\∀ led∈[true,false],qdw S led=true:=by decide +kernel
noncomputable def esL (L:List (Nat×Tok)):List (Int×Value):=L.map λp=>((p.1:Int),Value.int p.1 p.2)
noncomputable def keys (L:List (Nat×Tok)):List Nat:=L.map (·.1)
noncomputable def jL (L:List (Nat×Tok)) (led:Bool) (ep:Nat):Obj:={ cls:=.type "set",dict:=none,data:=.set (esL L).toArray ep (jap (keys L) led),slots:=#[] }
def qbW (h:Heap) (a:Addr) (L:List (Nat×Tok)) (led:Bool):Prop:=keys L∈subs lowM/\∃ ep,h.get? a=some (jL L led ep)
theorem ydw (led:Bool):led∈[true,false]:=by cases led<;>simp
theorem zav {S:List Nat} (h:S∈subs lowM) (led:Bool):(jap S led).fits S.length=true/\S.length<=8/\∀ k∈S,k<lowM:=by
 have:=(yaZ S h).2.2 led (ydw led)
 simp only [qdw,wj,wI,List.all_eq_true] at this;exact ⟨this.1.1.1,this.1.2,λk hk=>this.2 k hk⟩
theorem jX (L:List (Nat×Tok)):(keys L).length=L.length:=by simp [keys]
theorem qK (L:List (Nat×Tok)):(esL L).toArray.size=(keys L).length:=by simp [esL,keys]
theorem qbQ:∀ k∈List.range 64,hashInt ((k:Nat):Int)=k:=by decide +kernel
theorem qcY:lowM<=64:=by decide
theorem qb3 {k:Nat} (h:k<lowM):hashInt (k:Int)=k:=qbQ k (vg.mpr (wO h qcY))
theorem isInt_iff (k j:Nat) (t:Tok):Value.isInt (k:Int) (Value.int (j:Int) t)=decide (k=j):=by
 by_cases h:k=j
 ·subst h;simp [Value.isInt]
 ·simp [Value.isInt,h];omega
section
variable {prog:Program} {w:World} {A:Around} {E:Value->Shared->Prop} {s:Shared}
theorem ycu {L:List (Nat×Tok)} (h:keys L∈subs lowM):ElemsOf (intKind prog w) (esL L).toArray.toList:=λe he=>by
 have he:e∈esL L:=by simpa using he
 obtain ⟨p,hp,rfl⟩:=wJ.mp he;have hk:=(zav h true).2.2 p.1 (wJ.mpr ⟨p,hp,rfl⟩);exact ⟨⟨(p.1:Int),(isInt_iff p.1 p.1 p.2).trans (by simp),(qb3 hk).symm⟩,rfl⟩
theorem ycY (L:List (Nat×Tok)) (k:Nat):(((esL L).toArray.toList.findIdx? λe=>Value.isInt (k:Int) e.2)=none↔k∉keys L):=by
 rw [List.findIdx?_eq_none_iff];constructor
 ·intro h hk;obtain ⟨p,hp,e⟩:=wJ.mp hk
  have:=h ((p.1:Int),Value.int p.1 p.2) (by simp only [esL];exact wJ.mpr ⟨p,hp,rfl⟩)
  rw [isInt_iff,e] at this;simp at this
 ·intro h e he;have he:e∈esL L:=by simpa using he
  obtain ⟨p,hp,rfl⟩:=wJ.mp he;rw [isInt_iff];exact vp λz=>h (wJ.mpr ⟨p,hp,z.symm⟩)
theorem jcY (L:List (Nat×Tok)) (k p:Nat) (t:Tok) (hp:p<=L.length):SetTable.insertAt (esL L).toArray p ((k:Int),Value.int k t)=(esL (L.take p++(k,t)::L.drop p)).toArray:=by
 unfold SetTable.insertAt;apply Array.ext';simp [esL,List.map_take,List.map_drop];rw [List.take_of_length_le (l:=List.drop p _) (by simp)]
end
structure AddF (S:List Nat) (k:Nat) (led:Bool):Prop where
 free:(jap S led).freeSlot (k:Int)=some (k,false)
 put:(jap S led).put k=(qbd S k led,cnt k S)
 fit:(qbd S k led).fits (S.length+1)=true
 ins:S.take (cnt k S)++k::S.drop (cnt k S)=qaZ k S
 mem:qaZ k S∈subs lowM
 full:(qbd S k led).tooFull=true->(qbd S k led).relaid ((qaZ k S).toArray.map Int.ofNat) (SetTable.grown (S.length+1))=some (jap (qaZ k S) led,Array.range (S.length+1))/\coversAll (Array.range (S.length+1)) (S.length+1)=true/\(jap (qaZ k S) led).fits (S.length+1)=true
 part:(qbd S k led).tooFull=false->qbd S k led=jap (qaZ k S) led
theorem jdw {S:List Nat} (hS:S∈subs lowM) {k:Nat} (hk:k<lowM) (hn:k∉S) (led:Bool):AddF S k led:=by
 have h:=zcY led (ydw led) S hS k (vg.mpr hk);unfold zdw at h;rw [show S.contains k=false by simpa using hn,Bool.false_or] at h;simp only [wj,wI] at h;obtain ⟨⟨⟨⟨⟨h1,h2⟩,h3⟩,h4⟩,h5⟩,h6⟩:=h;refine ⟨h1,h2,h3,h4,h5,λhf=>?_,λhf=>?_⟩
 ·rw [if_pos hf] at h6;simp only [wj,wI] at h6;exact ⟨h6.1.1,h6.1.2,h6.2⟩
 ·rw [hf,if_neg wB] at h6;simpa using h6
theorem jcL (k:Nat) (S:List Nat):cnt k S<=S.length:=List.length_filter_le _ _
theorem zbB (L:List (Nat×Tok)) (k p:Nat) (t:Tok):keys (L.take p++(k,t)::L.drop p)=(keys L).take p++k::(keys L).drop p:=by simp [keys,List.map_take,List.map_drop]
theorem ybQ (L:List (Nat×Tok)):(esL L).toArray.map (·.1)=(keys L).toArray.map Int.ofNat:=by
 apply Array.ext';simp [esL,keys]
theorem qag {α:Type}:∀ (l:List α),(List.range l.length).filterMap (λ(i:Nat)=>l[i]?)=l:=by
 intro l;have h:(List.range l.length).filterMap (λ(i:Nat)=>l[i]?)=((List.range l.length).map (λ(i:Nat)=>l[i]?)).filterMap id:=by rw [List.filterMap_map];rfl
 rw [h]
 have h2:(List.range l.length).map (λ(i:Nat)=>l[i]?)=l.map some:=by
  apply List.ext_getElem
  ·simp
  ·intro i h1 h2;simp at h1;simp [h1]
 rw [h2,List.filterMap_map]
 simp
theorem jaD (l:List (Int×Value)):(Array.range l.length).filterMap (λ(i:Nat)=>l.toArray[i]?)=l.toArray:=by
 apply Array.ext';rw [Array.toList_filterMap,Array.toList_range]
 have:(λ(i:Nat)=>l.toArray[i]?)=λ(i:Nat)=>l[i]?:=by funext i;simp
 rw [this];exact qag l
section
variable {prog:Program} {w:World} {A:Around} {E:Value->Shared->Prop} {s:Shared}
theorem yb3 {h:Heap} {a:Addr} {o:Obj} {es es':Array (Int×Value)} {ep:Nat} {t t':SetTable} (ho:h.get? a=some o) (hd:o.data=.set es ep t) :
  (h.update a (Obj.putSet es' t')).get? a=some { o with data:=.set es' (ep+1) t' }:=by
 have:=Heap.get?_update_self (Obj.putSet es' t') ho (by rw [putSet_of es' t' hd];rfl)
 rw [putSet_of es' t' hd] at this;exact this
theorem zcZ {a:Addr} {L:List (Nat×Tok)} {led:Bool} {k:Nat} {tk:Tok} {Q:Bool->Shared->Prop} (hS:qbW s.heap a L led) (hk:k<lowM)
  (h:∀ b h' L',Heap.SameBut a s.heap h'->qbW h' a L' led->(keys L'=if k∈keys L then keys L else qaZ k (keys L))->Q b { s with heap:=h' }) :
  wpAny (model prog w) A (setAddHashed a (.int k tk) (hashInt k)) Q E s:=by
 obtain ⟨hin,ep,ho⟩:=id hS;obtain ⟨hf,hl8,_⟩:=zav hin led;have hb:(esL L).toArray.size<scanBound:=by rw [qK];unfold scanBound;omega
 have hel:=ycu (prog:=prog) (w:=w) hin;have hkey:(intKind prog w).is (k:Int) (.int k tk)=true:=(isInt_iff k k tk).trans (by simp);have hf':(jap (keys L) led).fits (esL L).toArray.size=true:=by rw [qK];exact hf
 unfold setAddHashed setAddHashedIn;refine wpAny_holding (wg (wpAny_setState_of ho rfl hf' ?_));dsimp only;rw [byScan_of (knd:=intKind prog w) rfl hb hel];simp only [↓reduceIte];unfold setAddByScan;refine wg (wg (wpAny_rule (wg (wpAny_setScan_of (knd:=intKind prog w) hkey ho rfl hf' hel ?_))));have hfo:=ycY L k;cases hr:List.findIdx? (λe=>(intKind prog w).is (k:Int) e.2) (esL L).toArray.toList with
 | some j =>
  have hm:k∈keys L:=by
   refine Classical.byContradiction λz=>?_
   have:=hfo.mpr z
   rw [show List.findIdx? (λe=>Value.isInt (k:Int) e.2) (esL L).toArray.toList=some j from hr] at this;cases this
  dsimp only;refine wo (wo ?_);have e:s={ s with heap:=s.heap }:=by cases s;rfl
  rw [e];exact h _ s.heap L (Heap.SameBut.refl a s.heap) hS (by rw [if_pos hm])
 | none =>
  have hm:k∉keys L:=hfo.mp hr;have F:=jdw hin hk hm led;dsimp only
  have hgw:∀ (b:Bool) {s₁:Shared} {Q':Unit->Shared->Prop},Q' () s₁->wpAny (model prog w) A (match b with | true=>rule "set.scan.the-table-gave-way" | false=>pure ()) Q' E s₁ :=
   λb s₁ Q' hq=>by cases b<;>first | exact wo hq | exact wpAny_rule hq
  obtain ⟨L',hL'⟩:∃ L',L'=L.take (cnt k (keys L))++(k,tk)::L.drop (cnt k (keys L)):=⟨_,rfl⟩;have hkL:keys L'=qaZ k (keys L):=by rw [hL',zbB];exact F.ins
  have hlen:(keys L').length=(keys L).length+1:=by
   rw [hL',zbB,wW,List.length_cons,List.length_take,List.length_drop]
   have:=jcL k (keys L)
   omega
  have hLay:layNew (jap (keys L) led) (esL L).toArray (hashInt k) (.int k tk)=((esL L').toArray,qbd (keys L) k led,false,false):=by
   unfold layNew;rw [qb3 hk,F.free];dsimp only;rw [F.put];dsimp only;rw [jcY L k _ tk (by rw [<-jX];exact jcL _ _),<-hL'];have e1:(esL L').toArray.size=(keys L).length+1:=by rw [qK,hlen]
   rw [e1];unfold SetTable.orStandIn;rw [F.fit];rfl
  rw [hLay];dsimp only;refine wg (hgw false ?_);have hp:(qbd (keys L) k led).plain=true:=rfl;rw [hp];simp only [↓reduceIte];rw [hashByValue_scannable 8 (x:=Value.int k tk) rfl];refine wg (wo ?_);rw [show plainKind (Value.int (k:Int) tk)=true from rfl];simp only [↓reduceIte];have hin':keys L'∈subs lowM:=by rw [hkL];exact F.mem
  obtain ⟨_,hl8',_⟩:=zav hin' led;have hsz:(esL L').toArray.size<scanBound:=by rw [qK];unfold scanBound;omega
  refine wg (wpAny_storeSet_of ho rfl ?_ (fits_of_scanBound hsz));have g1:=yb3 (es':=(esL L').toArray) (t':=qbd (keys L) k led) ho (rfl:(jL L led ep).data=_);have sb1:=Heap.SameBut.update s.heap a (Obj.putSet (esL L').toArray (qbd (keys L) k led));cases hfull:(qbd (keys L) k led).tooFull with
  | false =>
   simp only [Bool.not_false,Bool.true_and,hfull,wq,↓reduceIte];refine wo (wo (h _ _ L' sb1 ⟨hin',ep+1,?_⟩ (by rw [if_neg hm,hkL])));rw [g1,F.part hfull,<-hkL];rfl
  | true =>
   simp only [Bool.not_false,Bool.true_and,hfull,↓reduceIte];obtain ⟨r1,r2,r3⟩:=F.full hfull;have e1:(esL L').toArray.size=(keys L).length+1:=by rw [qK,hlen]
   have hRel:relayAll (qbd (keys L) k led) (esL L').toArray (SetTable.grown (esL L').toArray.size)=((esL L').toArray,jap (keys L') led,false):=by
    unfold relayAll;rw [ybQ,hkL,e1,r1];dsimp only
    have e2:(Array.range ((keys L).length+1)).filterMap (λ(i:Nat)=>(esL L').toArray[i]?)=(esL L').toArray:=by
     have:=jaD (esL L')
     rwa [show (esL L').length=(keys L).length+1 by simpa using e1] at this
    rw [e2,e1,r2,r3];rfl
   rw [hRel];dsimp only;refine wg (hgw false ?_);refine wg (wpAny_storeSet_of g1 rfl ?_ (fits_of_scanBound hsz));have g2:=yb3 (es':=(esL L').toArray) (t':=jap (keys L') led) g1 rfl;exact wo (wo (h _ _ L' (sb1.trans (Heap.SameBut.update _ a _)) ⟨hin',ep+1+1,g2⟩ (by rw [if_neg hm,hkL])))
end
theorem jaZ {prog:Program} {w:World} {A:Around} (hh:A.handled=none) (t:Bool) (I a:Addr) (hne:a≠I) (items:Array Value) :
  Walks prog w A I [I,a] [I] items.size (λi v=>items[i]?=some v) (λi h=>SItr t h I a i/\SSeq t h a items):=by
 cases t
 ·exact Walks.list hh I a hne items
 ·exact Walks.tuple hh I a hne items
theorem qbB {x k:Nat}:∀ {S:List Nat},x∈qaZ k S↔x=k\/x∈S
 | []=>by simp [qaZ]
 | y::r=>by
  unfold qaZ;split
  ·simp
  ·simp only [wy,qbB (S:=r)];constructor
   ·rintro (h | h | h)
    ·exact .inr (.inl h)
    ·exact .inl h
    ·exact .inr (.inr h)
   ·rintro (h | h | h)
    ·exact .inr (.inl h)
    ·exact .inl h
    ·exact .inr (.inr h)
section
variable {prog:Program} {w:World} {A:Around} {R:Result->Shared->Prop} {I:Addr} {fp wr:List Addr} {G:Array GenState->Array GenState->Prop} {n:Nat} {P:Nat->Value->Prop} {St:Nat->Shared->Prop} {led:Bool}
theorem jcu (W:WalksS prog w A.in1 I fp wr G n P St) (S:Addr) (hSf:S∉fp) (val:Nat->Nat) (hval:∀ i v,P i v->∃ t,v=.int (val i:Int) t) (hlt:∀ i,i<n->val i<lowM) :
  ∀ (k i:Nat) (s:Shared) (L:List (Nat×Tok)),n-i=k->i<=n->St i s->qbW s.heap S L led->(∀ x,x∈keys L↔∃ j,j<i/\val j=x) ->
   (∀ s' L',Moved (S::wr) G s s'->qbW s'.heap S L' led->(∀ x,x∈keys L'↔∃ j,j<n/\val j=x)->R (.ok (.ret .none)) s') ->
   codeAny (model prog w) A (.builtin "set.update.loop" ⟨[.ref S,.ref I],[]⟩) R s:=by
 have hSw:S∉wr:=λh=>hSf (W.sub _ h)
 have hsub:∀ b∈wr,b∈S::wr:=λb hb=>wK _ hb
 intro k
 induction k with
 | zero =>
  intro i s L hk hi hst hS hm hR;have hin:i=n:=by omega
  subst hin;refine codeAny_builtin PyProof.Rows.F.entry_set_update_loop ?_;rw [Around.under_plainId PyProof.Rows.F.plain_set_update_loop _];show wpAny _ A.in1 (pyNext (.ref I) >>= _) _ _ s;refine wg (W.done s _ _ hst λs' mv=>?_);show wpAny _ A.in1 (ret Value.none) _ _ s';obtain ⟨h1,ep,h2⟩:=hS;exact wo (hR s' L (mv.mono hsub) ⟨h1,ep,mv.heap S _ hSw h2⟩ hm)
 | succ k ih =>
  intro i s L hk hi hst hS hm hR;have hilt:i<n:=by omega
  refine codeAny_builtin PyProof.Rows.F.entry_set_update_loop ?_;rw [Around.under_plainId PyProof.Rows.F.plain_set_update_loop _];show wpAny _ A.in1 (pyNext (.ref I) >>= _) _ _ s;refine wg (W.item i s _ _ hilt hst λv s' hP hst' mv=>?_);obtain ⟨t,rfl⟩:=hval i v hP;obtain ⟨h1,ep,h2⟩:=hS;have hS':qbW s'.heap S L led:=⟨h1,ep,mv.heap S _ hSw h2⟩;show wpAny _ A.in1 (holding [Value.int (val i) t] (setAdd S (.int (val i) t)) >>= _) _ _ s';refine wg (wpAny_holding ?_);unfold setAdd;refine wpAny_holding ?_;refine wg ((intKind prog w).pyHash (k:=(val i:Int)) (intKind_is _ _ _ _) ?_);refine zcZ (s:={ s' with toks:=s'.toks+1 }) hS' (hlt i hilt) λb h' L' hsb hS2 hk2=>?_
  refine wo ⟨plainId_quiet PyProof.Rows.F.plain_set_update_loop _,ih (i+1) _ L' (by omega) hilt (W.frame _ s' _ _ hst' (Nat.le_succ _) λb hb o e=>?_) hS2 (λx=>?_) λs'' L'' mv2 hS3 hm3=>?_⟩
  ·exact (hsb.2 b (λh:b=S=>hSf (by rw [<-h];exact hb))).trans e
  ·rw [hk2]
   by_cases hx:val i∈keys L
   ·rw [if_pos hx,hm x];constructor
    ·rintro ⟨j,hj,e⟩;exact ⟨j,by omega,e⟩
    ·rintro ⟨j,hj,e⟩
     by_cases hji:j=i
     ·subst hji;rw [<-e];exact (hm _).mp hx
     ·exact ⟨j,by omega,e⟩
   ·rw [if_neg hx,qbB,hm x];constructor
    ·rintro (e | ⟨j,hj,e⟩)
     ·exact ⟨i,by omega,e.symm⟩
     ·exact ⟨j,by omega,e⟩
    ·rintro ⟨j,hj,e⟩
     by_cases hji:j=i
     ·subst hji;exact .inl e.symm
     ·exact .inr ⟨j,by omega,e⟩
  ·refine hR s'' L'' (Moved.trans W.gtrans ((mv.mono hsub).then_heap (Nat.le_succ _) λb o hb e=>?_) mv2) hS3 hm3;exact (hsb.2 b (λh:b=S=>hb (by rw [h];exact wR))).trans e
end
noncomputable def qA (w:World):Bool:=w.params.followText "set-order"
section
variable {prog:Program} {w:World} {A:Around} {E:Value->Shared->Prop} {s:Shared}
theorem zcv (a:Value) {Q₁:Value->Shared->Prop} (h:Q₁ (.ref s.heap.objs.size) { s with heap:=s.heap.push (jL [] (!qA w) 0) }) :
  codeAny (model prog w) A (.call (.builtin "set.__new__") ⟨[.type "set",a],[]⟩) (wants Q₁ E) s:=by
 refine codeAny_of_tree ?_;show wpAny _ A.in1 (do checkBuiltinCall "set.__new__" ⟨[.type "set",a],[]⟩;again (.builtin "set.__new__" ⟨[.type "set",a],[]⟩)) _ _ s;refine wg (wpAny_of_eq (F.newCall_set_1 a) (wo ⟨plainId_quiet F.plain_set_new _,codeAny_builtin F.entry_set_new ?_⟩));rw [Around.under_plainId F.plain_set_new _];unfold Builtin.«set.__new__» Builtin.Frozenset.newClass;have hsub:=sub_set_self;obtain ⟨hp,g,d,tk,os⟩:=s;dsimp only
 wp_walk
 refine wpAny_askSetting (wo ?_);dsimp only;simp only [newObj];refine wg (wpAny_alloc (wo ?_));exact wo h
theorem sub_tuple_set:isSubtype (.type "tuple") (.type "set")=pure false:=by rw [isSubtype_type];kernel_rfl
theorem sub_tuple_frozenset:isSubtype (.type "tuple") (.type "frozenset")=pure false:=by rw [isSubtype_type];kernel_rfl
end
section
variable {prog:Program} {w:World} {A:Around} {E:Value->Shared->Prop} {s:Shared}
set_option maxHeartbeats 3200000 in
theorem qcZ {t:Bool} {S a:Addr} {items:Array Value} {val:Nat->Nat} {led:Bool} {R:Shared->Prop} (hh:A.handled=none) (hl:SSeq t s.heap a items) (hS:qbW s.heap S [] led) (hne:S≠a)
  (hval:∀ (i:Nat) (v:Value),items[i]?=some v->∃ t,v=Value.int (val i:Int) t) (hlt:∀ i,i<items.size->val i<lowM)
  (hR:∀ (h':Heap) (tk:Nat) L,qbW h' S L led->(∀ x,x∈keys L↔∃ j,j<items.size/\val j=x)->(∀ b o,b≠S->s.heap.get? b=some o->h'.get? b=some o)->R { s with heap:=h',toks:=tk }) :
  wpAny (model prog w) A (Builtin.Frozenset.updateFrom "set.__init__" S (.ref a)) (λ_ s'=>R s') E s:=by
 have hSlt:S<s.heap.objs.size:=by obtain ⟨_,ep,q⟩:=hS;exact wA q
 have halt:a<s.heap.objs.size:=by obtain ⟨o,_,ho,_⟩:=hl.ob;exact wA ho
 have fin : wpAny (model prog w) A (pyIter (.ref a)) (λv s' => wpAny (model prog w) A (do let _ <- runValue (.builtin "set.update.loop" ⟨[.ref S, v], []⟩); pure ()) (λ_ s' => R s') E s') E s := by
  refine yX hl (wg (wpAny_runValue ?_));have hneI:a≠s.heap.objs.size:=wQ halt;have hSf:S∉[s.heap.objs.size,a]:=by simp only [wy,List.not_mem_nil,or_false,not_or];exact ⟨wQ hSlt,hne⟩
  obtain ⟨h1,ep,h2⟩:=hS;refine jcu ((jaZ (by simp [hh]) t s.heap.objs.size a hneI items).toS) S hSf val hval hlt (items.size-0) 0 _ [] (by omega) (Nat.zero_le _) ⟨SItr.fresh t s.heap a,hl.at λo e=>wm _ e⟩ ⟨h1,ep,wm _ h2⟩ (λx=>by simp [keys]) λs' L mv hS' hm=>?_
  obtain ⟨h',g',d',tk',os'⟩:=s';have eg:g'=s.gens:=mv.gens;have ed:d'=s.drawn:=mv.drawn;have eo:os'=s.os:=mv.os;subst eg;subst ed;subst eo
  refine wo (hR h' tk' L hS' hm λb o hb e=>mv.heap b o ?_ (wm _ e));simp only [wy,List.not_mem_nil,or_false,not_or];exact ⟨hb,wQ (wA e)⟩
 unfold Builtin.Frozenset.updateFrom;obtain ⟨⟨oc,od,odt,osl⟩,n,ho,hc,hn⟩:=hl.ob;simp only at hc;subst hc;have hTy:s.TypeIs (.ref a) n:=⟨_,ho,rfl⟩;have h1:isSubtype (.type n) (.type "set")=pure false:=by rcases hn with rfl | rfl;exact sub_tuple_set;exact F.sub_list_set
 have h2:isSubtype (.type n) (.type "frozenset")=pure false:=by rcases hn with rfl | rfl;exact sub_tuple_frozenset;exact F.sub_list_frozenset
 have h3:(Value.type n==Value.type "dict")=false:=by rcases hn with rfl | rfl<;>decide
 unfold Builtin.Frozenset.isAnySet;generalize hPI:pyIter=PI at fin ⊢;refine wg ?_
 wp_walk using wpAny_isInstance hTy h1,wpAny_isInstance hTy h2,wpAny_typeOf hTy
 exact fin
set_option maxHeartbeats 3200000 in
theorem qcv {t:Bool} {a:Addr} {items:Array Value} {val:Nat->Nat} {Q:Value->Shared->Prop} (hh:A.handled=none) (hl:SSeq t s.heap a items)
  (hval:∀ (i:Nat) (v:Value),items[i]?=some v->∃ t,v=Value.int (val i:Int) t) (hlt:∀ i,i<items.size->val i<lowM)
  (h:∀ (h':Heap) (tk:Nat) L,qbW h' s.heap.objs.size L (!qA w)->(∀ x,x∈keys L↔∃ j,j<items.size/\val j=x)->(∀ b o,s.heap.get? b=some o->h'.get? b=some o)->Q (.ref s.heap.objs.size) { s with heap:=h',toks:=tk }) :
  wpAny (model prog w) A (call (.type "set") [.ref a]) Q E s:=by
 obtain ⟨c,tl,hmro⟩:=F.called_set.mro;have hmade:=F.called_set.made;have hsub:=F.called_set.sub;refine wpAny_call (codeAny_of_tree ?_);show wpAny _ _ (callAny (.type "set") _) _ _ _;refine wo ⟨Code.quiet_builtin _ (by decide +kernel),codeAny_builtin F.entry_type_call ?_⟩;rw [Around.under_plain (weight_type_call_type "set" [.ref a] []) rfl];have h1:=F.called_set.notType;have h2:=F.called_set.canCreate;have hct:=F.typeCall_set_1 (.ref a)
 repeat (any_goals (first | assumption | wp_step))
 refine codeAny_mono (zcv (.ref a) (E:=E) (Q₁:=λobj s₁=>obj=.ref s.heap.objs.size/\s₁={ s with heap:=s.heap.push (jL [] (!qA w) 0) }) ⟨rfl,rfl⟩) λr s₁ hr=>?_
 cases r with
 | error e=>exact hr
 | ok fl =>
  cases fl with
  | ret obj =>
   obtain ⟨rfl,rfl⟩:=hr;have hS:(s.heap.push (jL [] (!qA w) 0)).get? s.heap.objs.size=some (jL [] (!qA w) 0):=wx _ rfl;have hT:Shared.TypeIs { s with heap:=s.heap.push (jL [] (!qA w) 0) } (.ref s.heap.objs.size) "set":=⟨_,hS,rfl⟩;have hli:=F.called_set.init.lookup;have hbi:=F.called_set.init.bind (.ref s.heap.objs.size)
   repeat (any_goals (first | assumption | wp_step))
   refine codeAny_mono (codeAny_call_builtin (R:=wants (λr s₂=>r=.none/\∃ h' tk L,s₂={ s with heap:=h',toks:=tk }/\qbW h' s.heap.objs.size L (!qA w)/\(∀ x,x∈keys L↔∃ j,j<items.size/\val j=x) /\
     (∀ b o,s.heap.get? b=some o->h'.get? b=some o)) E) F.called_set.init.plain F.entry_set_init (check_set_init_1 hT ?_)) λr₂ s₂ hr₂=>?_
   ·have hne:s.heap.objs.size≠a:=by obtain ⟨o,_,ho,_⟩:=hl.ob;exact Nat.ne_of_gt (wA ho)
    have upd:=qcZ (prog:=prog) (w:=w) (A:=A.in1.in1) (E:=λe s'=>E e s') (s:={ s with heap:=s.heap.push (jL [] (!qA w) 0) }) (R:=λs₂=>∃ h' tk L,s₂={ s with heap:=h',toks:=tk }/\qbW h' s.heap.objs.size L (!qA w)/\(∀ x,x∈keys L↔∃ j,j<items.size/\val j=x)/\(∀ b o,s.heap.get? b=some o->h'.get? b=some o))
     (by simp [hh]) (hl.at λo e=>wm _ e) ⟨by decide,0,hS⟩ hne hval hlt λh' tk L x1 x2 x3=>⟨h',tk,L,rfl,x1,x2,λb o e=>x3 b o (wQ (wA e)) (wm _ e)⟩
    generalize hUF:Builtin.Frozenset.updateFrom=UF at upd;unfold Builtin.«set.__init__» noKeywords;rw [hUF]
    wp_walk
    exact wpAny_mono upd (λ_ s' hq=>wo ⟨rfl,hq⟩) λ_ _ hq=>hq
   ·cases r₂ with
    | error e=>exact hr₂
    | ok fl₂ =>
     cases fl₂ with
     | ret r =>
      obtain ⟨rfl,h',tk,L,rfl,x1,x2,x3⟩:=hr₂
      repeat (any_goals (first | assumption | wp_step))
      exact h _ _ L x1 x2 x3
     | _=>exact hr₂.elim
  | _=>exact hr.elim
end
theorem slot_setit_next:Slot "set_iterator" "__next__" "set_iterator.__next__" :=
 .of (owner:="set_iterator") (n:="__next__") (by rw [typeLookup_type,builtinLookup_eq_fast];kernel_rfl) (by decide +kernel) (by decide +kernel) (by decide +kernel) (by first | exact .inl (by decide +kernel) | exact .inr (by decide +kernel)) (by rw [isSubtype_type];kernel_rfl)
theorem zaE:Manifest.owners.lookup (String.ofList ['r','o','t','a','r','e','t','i','_','t','e','s'].reverse)=some Manifest.sig_set_iterator:=by kernel_rfl
theorem j0:entryFor table "set_iterator.__next__"=some Builtin.«set_iterator.__next__»:=entryFor_of_tree (by kernel_rfl)
theorem jaa (a:Value):argsOk "set_iterator.__next__" ⟨[a],[]⟩:=by
 unfold argsOk; rw [signature?_of (id:="set_iterator.__next__") (n:=['_','_','t','x','e','n','_','_']) (o:=['r','o','t','a','r','e','t','i','_','t','e','s']) (by kernel_rfl) zaE]; kernel_rfl
theorem qaP:entryFor table "set.__iter__"=some Builtin.«frozenset.__iter__» :=
 entryFor_alias (id':="frozenset.__iter__") (by kernel_rfl) (by first | rfl | decide +kernel | (unfold String.splitOn;simp +decide [String.splitOnAux])) (by decide +kernel) (by kernel_rfl)
noncomputable abbrev zab (a:Addr) (slot i n ep:Nat):Obj:={ cls:=.type "set_iterator",dict:=none,data:=.fields #[rawInt slot,rawInt i,.ref a,rawInt n,rawInt ep],slots:=#[] }
section
variable {prog:Program} {w:World} {A:Around} {E:Value->Shared->Prop} {s:Shared}
theorem qV {a:Addr} {L:List (Nat×Tok)} {led:Bool} {ep:Nat} (hin:keys L∈subs lowM) (ho:s.heap.get? a=some (jL L led ep)) {Q:(Array (Int×Value)×Nat×SetTable)->Shared->Prop} (h:Q ((esL L).toArray,ep,jap (keys L) led) s):wpAny (model prog w) A (setState a) Q E s :=
 wpAny_setState_of ho rfl (by rw [qK];exact (zav hin led).1) h
theorem qaR (S:List Nat) (led:Bool):(jap S led).plain=true:=by unfold jap;split<;>rfl
theorem ycv (S:List Nat) (led:Bool):(jap S led).led=led:=by unfold jap;split<;>rfl
theorem jbQ (S:List Nat) (led:Bool):(jap S led).place=S.toArray:=by unfold jap;split<;>rfl
theorem jcv {a:Addr} {L:List (Nat×Tok)} {led:Bool} {ep:Nat} {Q:Value->Shared->Prop} (hin:keys L∈subs lowM) (ho:s.heap.get? a=some (jL L led ep))
  (hQ:Q (.ref s.heap.objs.size) { s with heap:=s.heap.push (zab a 0 0 L.length ep) }):wpAny (model prog w) A (pyIter (.ref a)) Q E s:=by
 have hT:s.TypeIs (.ref a) "set":=⟨_,ho,rfl⟩;refine wpAny_pyIter_slot hT F.slot_set_iter (wY F.slot_set_iter hT qaP ?_ (F.args_set_iter_1 _));unfold Builtin.«frozenset.__iter__» Builtin.Frozenset.slot0 Builtin.Frozenset.sizeOf setEntries setDrawn setEpoch setsByText;refine wg (wg (m:=slotArgs _ _ _) (wo (wo ?_)));refine wg (wg (wg (qV hin ho (wo (wo ?_)))));refine wg (wg (qV hin ho (wg (wg (wpAny_askSetting (wo (wo ?_)))))));have hd:∀ b:Bool,(!b&&(!(jap (keys L) led).plain&&decide ((esL L).toArray.size>1)))=false:=λb=>by rw [qaR];cases b<;>rfl
 have hd':=hd (w.params.followText "set-order");refine wpAny_ite_false (vp (Bool.eq_false_iff.mp hd')) ?_;refine wg (wo (wg (wg (qV hin ho (wo ?_)))));refine wg (ve (wo ⟨_,rfl,"set_iterator",_,⟨_,wx _ rfl,rfl⟩,slot_setit_next.lookup,?_⟩));have e:(esL L).toArray.size=L.length:=by rw [qK,jX]
 rw [<-e] at hQ;exact hQ
end
theorem yaR {α:Type}:∀ (l:List α) (j:Nat) (h:j<l.length),(l[j]::l.eraseIdx j).Perm l
 | x::r,0,_=>by simp
 | x::r,j+1,h=>by
  have h':j<r.length:=by simpa using h
  have:=yaR r j h'
  simp only [List.getElem_cons_succ,List.eraseIdx_cons_succ];exact (List.Perm.swap _ _ _).trans (this.cons x)
theorem ycZ {α:Type} (next:Nat->Nat):∀ (left:List α) (k:Nat) (out:Array α),(pickOrder.go next left.length k left out).toList.Perm (out.toList++left):=by
 intro left;generalize hn:left.length=n
 induction n generalizing left with
 | zero=>intro k out;have:=List.length_eq_zero_iff.mp hn;subst this;simp [pickOrder.go]
 | succ n ih =>
  intro k out;have hlt:next k%left.length<left.length:=Nat.mod_lt _ (by omega);have hx:left[next k%left.length]?=some left[next k%left.length]:=by simp [hlt]
  rw [pickOrder.go];generalize hj:next k%left.length=j at hlt hx;simp only [hx];refine (ih (left.eraseIdx j) (by rw [List.length_eraseIdx_of_lt hlt];omega) (k+1) (out.push left[j])).trans ?_;rw [Array.toList_push,List.append_assoc];refine List.Perm.append_left _ ?_;exact yaR left j hlt
theorem jb3 {α:Type} (next:Nat->Nat) (xs:Array α):(pickOrder next xs).toList.Perm xs.toList:=by
 have:=ycZ next xs.toList 0 #[]
 simpa [pickOrder] using this
noncomputable def jaR (w:World) (a:Addr) (ep:Nat) (L:List (Nat×Tok)):List (Int×Value):=if qA w then (pickOrder (w.params.setOrder a ep) (esL L).toArray).toList else esL L
theorem zY (w:World) (a:Addr) (ep:Nat) (L:List (Nat×Tok)):(jaR w a ep L).Perm (esL L):=by
 unfold jaR;split
 ·simpa using jb3 (w.params.setOrder a ep) (esL L).toArray
 ·exact List.Perm.refl _
noncomputable def slotAt (w:World) (L:List (Nat×Tok)) (i:Nat):Nat:=if qA w then 0 else if i=0 then 0 else (keys L).getD (i-1) 0+1
theorem below_at {S:List Nat} (h:S∈subs lowM) {i:Nat} (hi:i<S.length):SetTable.below S.toArray (if i=0 then 0 else S.getD (i-1) 0+1)=i:=by
 have:=(yaZ S h).1
 unfold ycL at this;exact vk (List.all_eq_true.mp this i (vg.mpr hi))
theorem zb4 {S:List Nat} (h:S∈subs lowM):S.length<=SetTable.below S.toArray (if S.length=0 then 0 else S.getD (S.length-1) 0+1):=vk (yaZ S h).2.1
section
variable {prog:Program} {w:World} {A:Around} {E:Value->Shared->Prop} {s:Shared}
theorem ybB {a:Addr} {L:List (Nat×Tok)} {ep i:Nat} (hin:keys L∈subs lowM) (ho:s.heap.get? a=some (jL L (!qA w) ep)) (hi:i<=L.length) {Q:Option (Value×Nat)->Shared->Prop}
  (h:Q (((jaR w a ep L)[i]?).map λe=>(e.2,slotAt w L (i+1))) s):wpAny (model prog w) A (setNext a (slotAt w L i) i ep) Q E s:=by
 unfold setNext;refine wg (qV hin ho ?_);dsimp only;unfold setsByText;refine wg (wg (wpAny_askSetting (wo ?_)));show wpAny _ _ (if (qA w)=true then _ else _) _ _ s;cases hb:qA w with
 | true =>
  rw [if_pos rfl];simp only [bne_self_eq_false,wq,↓reduceIte];unfold setWalk setsByText;refine wg (wg (qV hin ho ?_));dsimp only;refine wg (wg (wpAny_askSetting (wo ?_)));show wpAny _ _ (if (qA w)=true then _ else _) _ _ s;rw [hb,if_pos rfl];refine wg (wpAny_askSetting (wo (wo ?_)))
  have e:(pickOrder (w.params.setOrder a ep) (esL L).toArray)[i]?=(jaR w a ep L)[i]?:=by
   unfold jaR;rw [if_pos hb];simp
  show Q (Option.map _ ((pickOrder (w.params.setOrder a ep) (esL L).toArray)[i]?)) s;rw [e];unfold slotAt at h ⊢;rw [if_pos hb] at h ⊢;exact h
 | false =>
  rw [if_neg wB];have hd:(!(jap (keys L) (!qA w)).plain&&decide ((esL L).toArray.size>1))=false:=by rw [qaR];rfl
  rw [hb] at hd;refine wpAny_ite_false (vp (Bool.eq_false_iff.mp hd)) ?_;have hl:(!(jap (keys L) (!false)).led&&!(esL L).toArray.isEmpty)=false:=by rw [ycv];rfl
  refine wg (wpAny_ite_false (vp (Bool.eq_false_iff.mp hl)) (wo ?_));refine wo ?_;rw [jbQ];have es:slotAt w L i=if i=0 then 0 else (keys L).getD (i-1) 0+1:=by unfold slotAt;rw [hb];rfl
  rw [es];have eo:jaR w a ep L=esL L:=by unfold jaR;rw [hb];rfl
  rw [eo] at h;have kl:=jX L
  by_cases hlt:i<L.length
  ·rw [below_at hin (by omega)];have e1:(esL L).toArray[i]?=some ((L[i].1:Int),Value.int L[i].1 L[i].2):=by simp [esL,hlt]
   have e2:(keys L).toArray[i]?=some L[i].1:=by simp [keys,hlt]
   have e3:(esL L)[i]?=some ((L[i].1:Int),Value.int L[i].1 L[i].2):=by simp [esL,hlt]
   have e4:slotAt w L (i+1)=L[i].1+1:=by
    unfold slotAt;rw [hb]
    simp [keys,List.getD,hlt]
   rw [e1,e2];rw [e3,e4] at h;exact h
  ·have hil:i=(keys L).length:=by omega
   have hge:=zb4 hin;rw [<-hil] at hge
   have e1:(esL L).toArray[SetTable.below (keys L).toArray (if i=0 then 0 else (keys L).getD (i-1) 0+1)]?=none:=by
    have hz:(esL L).toArray.size=i:=by rw [qK,hil]
    exact Array.getElem?_eq_none (by rw [hz];exact hge)
   have e3:(esL L)[i]?=none:=by simp [esL];omega
   rw [e1];rw [e3] at h;exact h
end
section
variable {prog:Program} {w:World} {A:Around} {E:Value->Shared->Prop} {s:Shared}
theorem qaE {a:Addr} {L:List (Nat×Tok)} {led:Bool} {ep:Nat} (hin:keys L∈subs lowM) (ho:s.heap.get? a=some (jL L led ep)) {Q:Array (Int×Value)->Shared->Prop} (h:Q (esL L).toArray s):wpAny (model prog w) A (setEntries a) Q E s:=by
 unfold setEntries;exact wg (qV hin ho (wo h))
theorem zcw {it a:Addr} {L:List (Nat×Tok)} {ep i:Nat} {e:Int×Value} {Q:Option Value->Shared->Prop} (hin:keys L∈subs lowM) (ho:s.heap.get? a=some (jL L (!qA w) ep)) (hit:s.heap.get? it=some (zab a (slotAt w L i) i L.length ep))
  (hx:(jaR w a ep L)[i]?=some e) (hQ:∀ h',h'.get? it=some (zab a (slotAt w L (i+1)) (i+1) L.length ep)->Heap.SameBut it s.heap h'->Q (some e.2) { s with heap:=h' }):wpAny (model prog w) A (pyNext (.ref it)) Q E s:=by
 have hT:s.TypeIs (.ref it) "set_iterator":=⟨_,hit,rfl⟩
 have hil:i<L.length:=by
  have:=(wu.mp hx).1
  rwa [(zY w a ep L).length_eq,show (esL L).length=L.length by simp [esL]] at this
 unfold pyNext;refine wg (wpAny_attempt (va (name:=Str.ofString "__next__") hT slot_setit_next (wY slot_setit_next hT j0 ?_ (jaa _))));unfold Builtin.«set_iterator.__next__»;refine wg (m:=slotArgs _ _ _) (wo ?_);refine wg (wpAny_fieldsOf hit rfl ?_);show wpAny _ _ (setEntries a >>= _) _ _ s;refine wg (qaE hin ho ?_);have hsz:(((esL L).toArray.size:Int) != ((L.length:Nat):Int))=false:=by rw [qK,jX];simp
 refine wpAny_ite_false (vp (Bool.eq_false_iff.mp hsz)) ?_;show wpAny _ _ (setNext a ((slotAt w L i:Nat):Int).toNat ((i:Nat):Int).toNat ((ep:Nat):Int).toNat >>= _) _ _ s;rw [wX,wX,wX];refine wg (ybB hin ho (Nat.le_of_lt hil) ?_);rw [hx];dsimp only [Option.map_some];refine wg (wZ hit (by simp) λh1 q1 s1=>?_)
 replace q1:h1.get? it=some (zab a (slotAt w L (i+1)) i L.length ep):=q1
 refine wg (wZ q1 (by simp) λh2 q2 s2=>?_)
 replace q2:h2.get? it=some (zab a (slotAt w L (i+1)) (i+1) L.length ep):=q2
 exact wo ⟨_,rfl,wo (hQ h2 q2 (s1.trans s2))⟩
theorem qcw {it a:Addr} {L:List (Nat×Tok)} {ep:Nat} {Q:Option Value->Shared->Prop} (hh:A.handled=none) (hin:keys L∈subs lowM) (ho:s.heap.get? a=some (jL L (!qA w) ep)) (hit:s.heap.get? it=some (zab a (slotAt w L L.length) L.length L.length ep))
  (hQ:∀ h',Heap.ExtBut it s.heap h'->Q none { s with heap:=h' }):wpAny (model prog w) A (pyNext (.ref it)) Q E s:=by
 have hT:s.TypeIs (.ref it) "set_iterator":=⟨_,hit,rfl⟩;obtain ⟨i,hi⟩:∃ i,i=L.length:=⟨_,rfl⟩;have hit':s.heap.get? it=some (zab a (slotAt w L i) i L.length ep):=by rw [hi];exact hit
 have hx:(jaR w a ep L)[i]?=none:=by
  rw [List.getElem?_eq_none_iff,(zY w a ep L).length_eq,show (esL L).length=L.length by simp [esL],hi];exact wF _
 unfold pyNext;refine wg (wpAny_attempt (va (name:=Str.ofString "__next__") hT slot_setit_next (wY slot_setit_next hT j0 ?_ (jaa _))));unfold Builtin.«set_iterator.__next__»;refine wg (m:=slotArgs _ _ _) (wo ?_);refine wg (wpAny_fieldsOf hit' rfl ?_);show wpAny _ _ (setEntries a >>= _) _ _ s;refine wg (qaE hin ho ?_);have hsz:(((esL L).toArray.size:Int) != ((L.length:Nat):Int))=false:=by rw [qK,jX];simp
 refine wpAny_ite_false (vp (Bool.eq_false_iff.mp hsz)) ?_;show wpAny _ _ (setNext a ((slotAt w L i:Nat):Int).toNat ((i:Nat):Int).toNat ((ep:Nat):Int).toNat >>= _) _ _ s;rw [wX,wX,wX];refine wg (ybB hin ho (Nat.le_of_eq hi) ?_);rw [hx];dsimp only [Option.map_none];refine wg (wZ hit' (by simp) λh1 q1 s1=>wg ?_);simp only [newExc,newTuple];refine wg (ve (wg (m:=firstArgMember _ _) (wpAny_of_eq (a:=Value.none) (by first | rfl | (simp only [firstArgMember];rfl)) (ve ?_ (by size_fits)))) (by size_fits));simp only [raiseNew];refine wg (wpAny_handled ?_)
 first | rw [show A.in1.handled=none from hh] | rw [hh]
 refine wg (wo (wpAny_throw ?_));refine wg (wpAny_isInstance (T:="StopIteration") (b:=true) ⟨_,wx _ rfl,rfl⟩ isSubtype_stop ?_);exact wo (hQ _ ((s1.extBut.push _).push _))
end
theorem qab:Slot "set_iterator" "__iter__" "set_iterator.__iter__" :=
 .of (owner:="set_iterator") (n:="__iter__") (by rw [typeLookup_type,builtinLookup_eq_fast];kernel_rfl) (by decide +kernel) (by decide +kernel) (by decide +kernel) (by first | exact .inl (by decide +kernel) | exact .inr (by decide +kernel)) (by rw [isSubtype_type];kernel_rfl)
theorem yax:entryFor table "set_iterator.__iter__"=some Builtin.«dict_keyiterator.__iter__» :=
 entryFor_alias (id':="dict_keyiterator.__iter__") (by kernel_rfl) (by first | rfl | decide +kernel | (unfold String.splitOn;simp +decide [String.splitOnAux])) (by decide +kernel) (by kernel_rfl)
theorem yaE (a:Value):argsOk "set_iterator.__iter__" ⟨[a],[]⟩:=by
 unfold argsOk; rw [signature?_of (id:="set_iterator.__iter__") (n:=['_','_','r','e','t','i','_','_']) (o:=['r','o','t','a','r','e','t','i','_','t','e','s']) (by kernel_rfl) zaE]; kernel_rfl
section
variable {prog:Program} {w:World} {A:Around} {E:Value->Shared->Prop} {s:Shared}
theorem zbR {it a:Addr} {slot i n ep:Nat} {Q:Value->Shared->Prop} (hit:s.heap.get? it=some (zab a slot i n ep)) (h:Q (.ref it) s):wpAny (model prog w) A (pyIter (.ref it)) Q E s:=by
 have hT:s.TypeIs (.ref it) "set_iterator":=⟨_,hit,rfl⟩;refine wpAny_pyIter_slot hT qab (wY qab hT yax ?_ (yaE _));show wpAny _ _ (ret (.ref it)) _ _ s;exact wo ⟨_,rfl,"set_iterator",_,hT,slot_setit_next.lookup,h⟩
theorem ycw {a:Addr} {L:List (Nat×Tok)} {led:Bool} {ep:Nat} {Q:Bool->Shared->Prop} (ho:s.heap.get? a=some (jL L led ep)) (h:Q false s):wpAny (model prog w) A (Builtin.List.listLengthHint (.ref a)) Q E s:=by
 have hT:s.TypeIs (.ref a) "set":=⟨_,ho,rfl⟩;unfold Builtin.List.listLengthHint;refine wg (wpAny_specialOf hT F.slot_set_len.lookup ?_);have hsp:splitId "set.__len__"=some ("set","__len__"):=by kernel_rfl
 simp only [hsp];refine wg (wpAny_isInstance hT sub_set_self ?_);refine wpAny_ite_false rfl ?_;refine wpAny_ite_true (by decide +kernel) ?_;exact wg (wpAny_typeOf hT (wo h))
end
theorem qb4 {prog:Program} {w:World} {A:Around} (hh:A.handled=none) (I a:Addr) (hne:a≠I) (L:List (Nat×Tok)) (ep:Nat) (hin:keys L∈subs lowM) :
  Walks prog w A I [I,a] [I] L.length (λi v=>∃ e,(jaR w a ep L)[i]?=some e/\v=e.2) (λi h=>h.get? I=some (zab a (slotAt w L i) i L.length ep)/\h.get? a=some (jL L (!qA w) ep)) where
 sub:=λb hb=>by simp at hb;simp [hb]
 frame:=λ_ _ _ st hk=>⟨hk I (by simp) _ st.1,hk a (by simp) _ st.2⟩
 item:=λi s Q E hi st hQ=>by
  have hol:i<(jaR w a ep L).length:=by rw [(zY w a ep L).length_eq];simpa [esL] using hi
  refine zcw hin st.2 st.1 (e:=(jaR w a ep L)[i]) (by simp [hol]) λh' q sb=>?_
  exact hQ _ h' s.toks ⟨_,by simp [hol],rfl⟩ ⟨q,sb.extBut _ _ hne st.2⟩ λb o hb e=>sb.extBut b o (λh=>hb (by simp [h])) e
 done:=λs Q E st hQ=>qcw hh hin st.2 st.1 λh' he=>hQ h' s.toks λb o hb e=>he b o (λh=>hb (by simp [h])) e
 self:=λ_ _ _ _ st hQ=>zbR st.1 hQ
end Eng
end
section
namespace Eng
open PySem PyProof.Rows
theorem yb4 {w:World} {a:Addr} {ep:Nat} {L:List (Nat×Tok)} {acc:Array Value} (h:ItemsOf (λi v=>∃ e,(jaR w a ep L)[i]?=some e/\v=e.2) acc L.length):acc.toList=(jaR w a ep L).map (·.2):=by
 have hl:(jaR w a ep L).length=L.length:=by rw [(zY w a ep L).length_eq];simp [esL]
 apply List.ext_getElem?;intro i
 by_cases hi:i<L.length
 ·have hia:i<acc.size:=by rw [h.1];exact hi
  have h1:acc[i]?=some acc[i]:=by simp [hia]
  obtain ⟨e,he,hv⟩:=h.2 i _ h1;rw [wz,he,Array.getElem?_toList,h1,hv];rfl
 ·rw [List.getElem?_eq_none (by simp [h.1];omega),List.getElem?_eq_none (by simp [hl];omega)]
section
variable {prog:Program} {w:World} {A:Around} {E:Value->Shared->Prop} {s:Shared}
theorem jbo {a:Addr} {L:List (Nat×Tok)} {ep:Nat} {Q:List Value->Shared->Prop} (hh:A.handled=none) (hin:keys L∈subs lowM) (ho:s.heap.get? a=some (jL L (!qA w) ep))
  (hQ:∀ (h':Heap) (tk:Nat),s.heap.objs.size<h'.objs.size->(∀ b o,s.heap.get? b=some o->h'.get? b=some o)->Q ((jaR w a ep L).map (·.2)) { s with heap:=h',toks:=tk }):wpAny (model prog w) A (collect (.ref a)) Q E s:=by
 have halt:a<s.heap.objs.size:=wA ho;unfold collect;refine wg (wpAny_runValue (codeAny_builtin F.entry_proto_collect ?_));rw [Around.under_plainId F.plain_proto_collect _];show wpAny _ A.in1 (newList [] >>= λl=>again (.builtin "list.__iadd__" ⟨[l,.ref a],[]⟩)) _ _ s;refine wg (ve ?_);refine wo ⟨plainId_quiet F.plain_list_iadd _,codeAny_builtin F.entry_list_iadd ?_⟩;rw [Around.under_plainId F.plain_list_iadd _];obtain ⟨n,hn⟩:∃ n,n=s.heap.objs.size:=⟨_,rfl⟩;obtain ⟨h1,e1⟩:∃ h1,h1=s.heap.push { cls:=.type "list",data:=.seq ([]:List Value).toArray }:=⟨_,rfl⟩;have k1:∀ b o,s.heap.get? b=some o->h1.get? b=some o:=λb o e=>e1▸wm _ e
 have g1:h1.get? n=some { cls:=.type "list",data:=.seq ([]:List Value).toArray }:=by rw [e1,hn];exact wx _ rfl
 have s1:h1.objs.size=n+1:=by rw [e1,Heap.size_push,hn]
 have ho1:=k1 _ _ ho;show wpAny _ A.in1 (Builtin.List.listExtendWith (.ref s.heap.objs.size) (.ref a) (.ref s.heap.objs.size)) _ _ { s with heap:=s.heap.push { cls:=.type "list",data:=.seq ([]:List Value).toArray } };rw [<-e1,<-hn];unfold Builtin.List.listExtendWith;refine wg (wpAny_typeOf (T:="set") ⟨_,ho1,rfl⟩ ?_);have q1:Builtin.List.listSameRef (.ref n) (.ref a)=false:=by simp [Builtin.List.listSameRef,hn];exact Nat.ne_of_gt halt
 have q2:(Value.type "set"==Value.type "list")=false:=by decide
 have q3:(Value.type "set"==Value.type "tuple")=false:=by decide
 simp only [q1,q2,q3,Bool.or_false,wq,if_false];refine wg (jcv hin ho1 ?_);obtain ⟨h2,e2⟩:∃ h2,h2=h1.push (zab a 0 0 L.length ep):=⟨_,rfl⟩;have k2:∀ b o,h1.get? b=some o->h2.get? b=some o:=λb o e=>e2▸wm _ e
 have g2:h2.get? (n+1)=some (zab a 0 0 L.length ep):=by rw [e2,<-s1];exact wx _ rfl
 rw [<-e2,s1];refine wg (wpAny_holding (ycw (k2 _ _ ho1) ?_));refine wpAny_ite_true (by decide +kernel) ?_;refine wg (wpAny_rule ?_);have g3:=k2 _ _ g1;refine wg ?_;show wpAny _ A.in1 (updateSeq n (·.push .none) >>= λ_=>updateSeq n (·.pop)) _ _ _;refine wg (wpAny_updateSeq g3 rfl ?_);have g4:=Heap.get?_update_self (Obj.mapSeq (·.push Value.none)) g3 rfl;refine wpAny_updateSeq g4 rfl ?_;have g5:=Heap.get?_update_self (Obj.mapSeq (·.pop)) g4 rfl
 have oth:∀ b o,b≠n->h2.get? b=some o->((h2.update n (Obj.mapSeq (·.push Value.none))).update n (Obj.mapSeq (·.pop))).get? b=some o :=
  λb o hb e=>(Heap.get?_update_other _ _ (Ne.symm hb)).trans ((Heap.get?_update_other _ _ (Ne.symm hb)).trans e)
 have han:a<n:=by rw [hn];exact halt
 have hna:a≠n:=wQ han;have slot0:slotAt w L 0=0:=by unfold slotAt;split<;>rfl
 have hl8:=(zav hin true).2.1;have hkl:=jX L;refine wo ⟨plainId_quiet F.plain_extend_loop _,codeAny_extend_loopS ((qb4 (prog:=prog) (w:=w) (A:=A.in1) (by simp [hh]) (n+1) a (wQ (Nat.lt_succ_of_lt han)) L ep hin).toS) (by rw [sizeLine_eq];omega) n (by simp only [wy,List.not_mem_nil,or_false,not_or];exact ⟨wQ (Nat.lt_succ_self n),Nat.ne_of_gt han⟩) _ L.length 0 _ _ _ rfl (Nat.zero_le _) ⟨?_,?_⟩ g5 (ItemsOf.nil _) λs' acc' c' mv hS' hacc=>?_⟩
 ·rw [slot0];exact oth _ _ (Nat.ne_of_gt (Nat.lt_succ_self n)) g2
 ·exact oth _ _ hna (k2 _ _ ho1)
 ·show wpAny _ A (load n >>= _) _ _ s';refine wg (wpAny_load hS' (wo ?_));rw [yb4 hacc];obtain ⟨h',g',d',tk',os'⟩:=s';have eg:g'=s.gens:=mv.gens;have ed:d'=s.drawn:=mv.drawn;have eo:os'=s.os:=mv.os;subst eg;subst ed;subst eo
  have nlt:n<h'.objs.size:=wA hS';refine hQ h' tk' (hn▸nlt) λb o e=>mv.heap b o ?_ (oth b o ?_ (k2 _ _ (k1 _ _ e)))
  ·have hb:b<n:=by rw [hn];exact wA e
   simp only [wy,List.not_mem_nil,or_false,not_or];exact ⟨wQ hb,wQ (Nat.lt_succ_of_lt hb)⟩
  ·exact wQ (by rw [hn];exact wA e)
theorem jcw (w:World) (a:Addr) (ep:Nat) (L:List (Nat×Tok)):IntsAre ((jaR w a ep L).map (·.2)) ((jaR w a ep L).map (·.1)):=by
 have:∀ l:List (Int×Value),(∀ e∈l,∃ t,e.2=.int e.1 t)->IntsAre (l.map (·.2)) (l.map (·.1)):=by
  intro l
  induction l with
  | nil=>intro _;exact .nil
  | cons e r ih =>
   intro h;obtain ⟨t,ht⟩:=h e (by simp);rw [List.map_cons,List.map_cons,ht];exact .cons _ _ (ih λe he=>h e (by simp [he]))
 refine this _ λe he=>?_
 have he:=(zY w a ep L).mem_iff.mp he;obtain ⟨p,hp,rfl⟩:=wJ.mp he;exact ⟨p.2,rfl⟩
theorem qbR {a:Addr} {L:List (Nat×Tok)} {Q:Value->Shared->Prop} (hh:A.handled=none) (hS:qbW s.heap a L (!qA w))
  (hQ:∀ (h':Heap) (tk:Nat) (l:Addr) (out:List Value) (ns:List Int) (ep:Nat),(∀ b o,s.heap.get? b=some o->h'.get? b=some o)->s.heap.objs.size<=l->h'.get? l=some { cls:=.type "list",data:=.seq out.toArray ep }->IntsAre out ns->ns.Perm ((keys L).map Int.ofNat)->ns.Pairwise (·<=·)->Q (.ref l) { s with heap:=h',toks:=tk }) :
  wpAny (model prog w) A (call (.builtin "sorted") [.ref a]) Q E s:=by
 obtain ⟨hin,ep,ho⟩:=hS;refine Calls.call_function_entry kind_sorted plain_sorted entry_sorted (args_sorted1 _) ?_;unfold Builtin.«sorted»;refine wg (m:=checkCount "sorted" 1 1 _) (wo ?_);refine wg (jbo (by simp [hh]) hin ho λh1 tk hz k1=>?_)
 have hlen:((jaR w a ep L).map (·.2)).length<=8:=by
  rw [wG,(zY w a ep L).length_eq]
  have:=(zav hin true).2.1
  rw [jX] at this;simpa [esL] using this
 refine wg (wpAny_newList ?_ (by rw [sizeLine_eq];omega));obtain ⟨vs,hvs⟩:∃ vs,vs=(jaR w a ep L).map (·.2):=⟨_,rfl⟩;have hints:=jcw w a ep L;rw [<-hvs] at hlen hints ⊢;have hoL:(h1.push (seqObj "list" vs.toArray 0)).get? h1.objs.size=some (seqObj "list" vs.toArray 0):=wx _ rfl;show wpAny _ _ _ _ _ { s with heap:=h1.push (seqObj "list" vs.toArray 0),toks:=tk };refine wg (wpAny_holding (wY slot_list_sort ⟨_,hoL,rfl⟩ entry_list_sort (list_sort_tree hoL hints (by omega) λout ns' a1 a2 a3=>⟨_,rfl,?_⟩) (args_list_sort _)));obtain ⟨ep',hat⟩:=sortedHeap_at (out:=out) hoL
 have old:∀ b o,h1.get? b=some o->(sortedHeap (h1.push (seqObj "list" vs.toArray 0)) h1.objs.size vs out).get? b=some o:=λb o e=>by
  rw [sortedHeap_old (wQ (wA e)) (by rw [size_push'];exact Nat.lt_succ_of_lt (wA e))];exact wm _ e
 refine wo ⟨_,rfl,hQ _ tk h1.objs.size out.toList ns' ep' (λb o e=>old b o (k1 b o e)) (Nat.le_of_lt hz) (by simpa using hat) a1 (a2.trans ?_) a3⟩;have p:=(zY w a ep L).map (·.1);rwa [show (esL L).map (·.1)=(keys L).map Int.ofNat by simp [esL,keys]] at p
end
end Eng
end
section
namespace Eng
open PySem PySem.Spec PyProof.Rows L2
def SqS (K:Frag) (H:Hp) (a:Addr) (ns:List Int):Prop :=
 (∃ o,H a=some (.frz o (.lst (ns.map V.int)))) \/
  ∃ (o:Obj) (its:Array Value) (n:Nat),K.lookup a=some o/\o.cls=.type "list"/\o.dict=none/\o.data=.seq its n/\its.size<=sizeLine/\Vals (ns.map V.int) its.toList
theorem SqS.sq {K:Frag} {H:Hp} {a:Addr} {ns:List Int} (h:SqS K H a ns):SqL K H a (ns.map V.int):=by
 rcases h with ⟨o,h⟩ | h
 ·exact .inl (.inr ⟨o,h⟩)
 ·exact .inr h
theorem SqS.of {K:Frag} {H:Hp} {a:Addr} {ns:List Int} (o:qdu H) (h:SqL K H a (ns.map V.int)):SqS K H a ns:=by
 rcases h with (h | ⟨ob,h⟩) | h
 ·rcases o a with z | ⟨ob,xs,z⟩
  ·rw [h] at z;cases z
  ·rw [h] at z;cases z
 ·exact .inl ⟨ob,h⟩
 ·exact .inr h
noncomputable abbrev zeu (es:Array DictEntry) (ep:Nat):Obj:={ cls:=.type "dict",data:=.dict es ep }
noncomputable abbrev yd4 (a:Addr) (es:Array DictEntry) (ep:Nat):HO:=.ext λh=>h.get? a=some (zeu es ep)
mutual
inductive Rep (K:Frag) (B:Addr->Prop) (H:Hp):V->D->Prop where
 | non:Rep K B H .non .non
 | bl (b:Bool):Rep K B H (.bl b) (.bl b)
 | int (i:Int):Rep K B H (.int i) (.int i)
 | str (x:Str):Rep K B H (.str x) (.str x)
 | tup {a:Addr} {vs:List V} {ds:List D}:H a=some (.tup vs)->Reps K B H vs ds->Rep K B H (.ref a) (.tup ds)
 | lst {a:Addr} {vs:List V} {ds:List D}:¬ B a->H a=some (.lst vs)->Reps K B H vs ds->Rep K B H (.ref a) (.lst ds)
 | scr {a:Addr} {ns:List Int}:SqS K H a ns->Rep K B H (.ref a) (.scr ns)
 | grp {a:Addr} {es:Array DictEntry} {ep:Nat} {vs:List V} {ds:List D}:¬ B a->H a=some (yd4 a es ep)->(a==sysModules)=false->vs.length<=sizeLine->Vals vs (es.toList.map (·.val))->Reps K B H vs ds->Rep K B H (.ref a) (.grp ds)
inductive Reps (K:Frag) (B:Addr->Prop) (H:Hp):List V->List D->Prop where
 | nil:Reps K B H [] []
 | cons {v:V} {d:D} {vs:List V} {ds:List D}:Rep K B H v d->Reps K B H vs ds->Reps K B H (v::vs) (d::ds)
end
def HB (B:Addr->Prop) (H:Hp):Prop:=∀ b,B b->(∃ xs,H b=some (.lst xs))\/∃ es ep,H b=some (yd4 b es ep)
theorem HB.notT {B:Addr->Prop} {H:Hp} {a:Addr} {vs:List V} (hb:HB B H) (e:H a=some (.tup vs)):¬ B a:=λz=>by
 rcases hb a z with ⟨xs,q⟩ | ⟨es,ep,q⟩<;>(rw [e] at q;cases q)
theorem HB.notN {B:Addr->Prop} {H:Hp} {a:Addr} (hb:HB B H) (e:H a=none):¬ B a:=λz=>by
 rcases hb a z with ⟨xs,q⟩ | ⟨es,ep,q⟩<;>(rw [e] at q;cases q)
theorem HB.notF {B:Addr->Prop} {H:Hp} {a:Addr} {o:Obj} {u:HO} (hb:HB B H) (e:H a=some (.frz o u)):¬ B a:=λz=>by
 rcases hb a z with ⟨xs,q⟩ | ⟨es,ep,q⟩<;>(rw [e] at q;cases q)
def qY (B:Addr->Prop) (H H':Hp):Prop:=∀ b o,¬ B b->H b=some o->H' b=some o
section
variable {K:Frag} {B B':Addr->Prop} {H H':Hp}
theorem HB.same (h:HB B H) (s:Same H H'):HB B H':=λb hb=>(h b hb).imp (λ⟨xs,e⟩=>⟨xs,s b _ e⟩) λ⟨es,ep,e⟩=>⟨es,ep,s b _ e⟩
mutual
theorem Rep.mono (hb:HB B H) (s:qY B H H'):∀ {v:V} {d:D},Rep K B H v d->Rep K B H' v d
 | _,_,.non=>.non
 | _,_,.bl b=>.bl b
 | _,_,.int i=>.int i
 | _,_,.str x=>.str x
 | _,_,.tup e r=>.tup (s _ _ (hb.notT e) e) (Reps.mono hb s r)
 | _,_,.lst n e r=>.lst n (s _ _ n e) (Reps.mono hb s r)
 | _,_,.scr (.inl ⟨o,e⟩)=>.scr (.inl ⟨o,s _ _ (hb.notF e) e⟩)
 | _,_,.scr (.inr h)=>.scr (.inr h)
 | _,_,.grp n e y z w r=>.grp n (s _ _ n e) y z w (Reps.mono hb s r)
theorem Reps.mono (hb:HB B H) (s:qY B H H'):∀ {vs:List V} {ds:List D},Reps K B H vs ds->Reps K B H' vs ds
 | _,_,.nil=>.nil
 | _,_,.cons a r=>.cons (Rep.mono hb s a) (Reps.mono hb s r)
end
mutual
theorem Rep.same (s:Same H H'):∀ {v:V} {d:D},Rep K B H v d->Rep K B H' v d
 | _,_,.non=>.non
 | _,_,.bl b=>.bl b
 | _,_,.int i=>.int i
 | _,_,.str x=>.str x
 | _,_,.tup e r=>.tup (s _ _ e) (Reps.same s r)
 | _,_,.lst n e r=>.lst n (s _ _ e) (Reps.same s r)
 | _,_,.scr (.inl ⟨o,e⟩)=>.scr (.inl ⟨o,s _ _ e⟩)
 | _,_,.scr (.inr h)=>.scr (.inr h)
 | _,_,.grp n e y z w r=>.grp n (s _ _ e) y z w (Reps.same s r)
theorem Reps.same (s:Same H H'):∀ {vs:List V} {ds:List D},Reps K B H vs ds->Reps K B H' vs ds
 | _,_,.nil=>.nil
 | _,_,.cons a r=>.cons (Rep.same s a) (Reps.same s r)
end
mutual
theorem Rep.less (s:∀ b,B' b->B b):∀ {v:V} {d:D},Rep K B H v d->Rep K B' H v d
 | _,_,.non=>.non
 | _,_,.bl b=>.bl b
 | _,_,.int i=>.int i
 | _,_,.str x=>.str x
 | _,_,.tup e r=>.tup e (Reps.less s r)
 | _,_,.lst n e r=>.lst (λz=>n (s _ z)) e (Reps.less s r)
 | _,_,.scr h=>.scr h
 | _,_,.grp n e y z w r=>.grp (λq=>n (s _ q)) e y z w (Reps.less s r)
theorem Reps.less (s:∀ b,B' b->B b):∀ {vs:List V} {ds:List D},Reps K B H vs ds->Reps K B' H vs ds
 | _,_,.nil=>.nil
 | _,_,.cons a r=>.cons (Rep.less s a) (Reps.less s r)
end
mutual
theorem Rep.clean:∀ {v:V} {d:D},noL d=true->Rep K B H v d->Rep K B' H v d
 | _,_,_,.non=>.non
 | _,_,_,.bl b=>.bl b
 | _,_,_,.int i=>.int i
 | _,_,_,.str x=>.str x
 | _,_,n,.tup e r=>.tup e (Reps.clean (by simpa [noL] using n) r)
 | _,_,n,.lst _ _ _=>by simp [noL] at n
 | _,_,_,.scr h=>.scr h
 | _,_,n,.grp _ _ _ _ _ _=>by simp [noL] at n
theorem Reps.clean:∀ {vs:List V} {ds:List D},jaC ds=true->Reps K B H vs ds->Reps K B' H vs ds
 | _,_,_,.nil=>.nil
 | _,_,n,.cons a r=>by
  rw [jaC,wj] at n;exact .cons (Rep.clean n.1 a) (Reps.clean n.2 r)
end
theorem Reps.length:∀ {vs:List V} {ds:List D},Reps K B H vs ds->vs.length=ds.length
 | _,_,.nil=>rfl
 | _,_,.cons _ r=>by simp [Reps.length r]
theorem Reps.get:∀ {vs:List V} {ds:List D} {i:Nat} {d:D},Reps K B H vs ds->ds[i]?=some d->∃ v,vs[i]?=some v/\Rep K B H v d
 | _,_,_,_,.nil,e=>by simp at e
 | _,_,0,_,.cons a r,e=>⟨_,rfl,by simp at e;subst e;exact a⟩
 | _,_,i+1,_,.cons a r,e=>Reps.get (i:=i) r (by simpa using e)
theorem Reps.append:∀ {vs ws:List V} {ds es:List D},Reps K B H vs ds->Reps K B H ws es->Reps K B H (vs++ws) (ds++es)
 | _,_,_,_,.nil,s=>s
 | _,_,_,_,.cons a r,s=>.cons a (Reps.append r s)
theorem Reps.take:∀ {vs:List V} {ds:List D} (n:Nat),Reps K B H vs ds->Reps K B H (vs.take n) (ds.take n)
 | _,_,0,_=>.nil
 | _,_,_+1,.nil=>.nil
 | _,_,n+1,.cons a r=>.cons a (Reps.take n r)
theorem Reps.drop:∀ {vs:List V} {ds:List D} (n:Nat),Reps K B H vs ds->Reps K B H (vs.drop n) (ds.drop n)
 | _,_,0,r=>r
 | _,_,_+1,.nil=>.nil
 | _,_,n+1,.cons a r=>Reps.drop n r
theorem Reps.rep {vs:List V} {ds:List D} (r:Reps K B H vs ds):∀ k:Nat,Reps K B H (List.replicate k vs).flatten (List.replicate k ds).flatten
 | 0=>.nil
 | k+1=>by
  rw [List.replicate_succ,List.replicate_succ,List.flatten_cons,List.flatten_cons];exact Reps.append r (Reps.rep r k)
theorem Reps.ints:∀ {vs:List V} {ds:List D} {ns:List Int},Reps K B H vs ds->intsOf ds=some ns->vs=ns.map V.int
 | _,_,_,.nil,e=>by simp [intsOf] at e;subst e;rfl
 | _,_,_,.cons (d:=d) a r,e=>by
  cases d with
  | int i =>
   rw [intsOf] at e;cases q:intsOf _ with
   | none=>rw [q] at e;simp at e
   | some ms =>
    rw [q] at e;simp at e;subst e
    cases a;rw [Reps.ints r q];rfl
  | _=>simp [intsOf] at e
theorem Reps.of_ints:∀ (ns:List Int),Reps K B H (ns.map V.int) (ns.map D.int)
 | []=>.nil
 | n::r=>.cons (.int n) (Reps.of_ints r)
theorem Reps.strs:∀ {vs:List V} {ds:List D} {ts:List Str},Reps K B H vs ds->strsOf ds=some ts->vs=ts.map V.str
 | _,_,_,.nil,e=>by simp [strsOf] at e;subst e;rfl
 | _,_,_,.cons (d:=d) a r,e=>by
  cases d with
  | str i =>
   rw [strsOf] at e;cases q:strsOf _ with
   | none=>rw [q] at e;simp at e
   | some ms =>
    rw [q] at e;simp at e;subst e
    cases a;rw [Reps.strs r q];rfl
  | _=>simp [strsOf] at e
theorem Reps.bls:∀ {vs:List V} {ds:List D} {ts:List Bool},Reps K B H vs ds->qaN ds=some ts->vs=ts.map V.bl
 | _,_,_,.nil,e=>by simp [qaN] at e;subst e;rfl
 | _,_,_,.cons (d:=d) a r,e=>by
  cases d with
  | bl i =>
   rw [qaN] at e;cases q:qaN _ with
   | none=>rw [q] at e;simp at e
   | some ms =>
    rw [q] at e;simp at e;subst e
    cases a;rw [Reps.bls r q];rfl
  | _=>simp [qaN] at e
theorem je {p:Addr} (h:H p=none) (o:HO):Same H (upd H p o):=λb u q=>by rw [zm (qu q h)];exact q
def Fresh (H:Hp) (v:V):Prop:=∃ a,v=.ref a/\H a=none
theorem Fresh.back {v:V} (s:Same H H') (f:Fresh H' v):Fresh H v:=let ⟨a,e,h⟩:=f;⟨a,e,s.free h⟩
theorem Rep.newT {p:Addr} {vs:List V} {ds:List D} (h:H p=none) (r:Reps K B H vs ds):Rep K B (upd H p (.tup vs)) (.ref p) (.tup ds):=.tup zl (r.same (je h _))
theorem Rep.newL {p:Addr} {vs:List V} {ds:List D} (hb:HB B H) (h:H p=none) (r:Reps K B H vs ds):Rep K B (upd H p (.lst vs)) (.ref p) (.lst ds) :=
 .lst (hb.notN h) zl (r.same (je h _))
def ER (K:Frag) (B:Addr->Prop) (H:Hp) (σ:L2.St) (ρ:En):Prop:=∀ (i:Nat) (d:D),ρ[i]?=some (some d)->∃ v,σ[i]?=some (some v)/\Rep K B H v d
theorem ER.same {σ:L2.St} {ρ:En} (h:ER K B H σ ρ) (s:Same H H'):ER K B H' σ ρ:=λi d e=>let ⟨v,q,r⟩:=h i d e;⟨v,q,r.same s⟩
end
def tD (K:Frag) (B:Addr->Prop) (ρ:En) (d:D):TE:=λσ H Q=>HB B H/\ER K B H σ ρ/\∀ v H',Same H H'->Rep K B H' v d->Q v H'
def tF (K:Frag) (B:Addr->Prop) (ρ:En) (d:D):TE:=λσ H Q=>HB B H/\ER K B H σ ρ/\∀ v H',Same H H'->Rep K B H' v d->Fresh H v->Q v H'
def tDs (K:Frag) (B:Addr->Prop) (ρ:En) (ds:List D):TA:=λσ H Q=>HB B H/\ER K B H σ ρ/\∀ vs H',Same H H'->Reps K B H' vs ds->Q vs H'
def tTr (K:Frag) (B:Addr->Prop) (ρ:En) (b:Bool):TT:=λσ H Q=>HB B H/\ER K B H σ ρ/\∀ H',Same H H'->Q b H'
def SE (X:Cx) (C:Tab) (e:Expr) (c:Code):Prop:=∀ B ρ d,ev C c ρ=some d->PE X e (tD X.K B ρ d)
def SF (X:Cx) (C:Tab) (e:Expr) (c:Code):Prop:=∀ B ρ ds,ev C c ρ=some (.lst ds)->PE X e (tF X.K B ρ (.lst ds))
def SA (X:Cx) (C:Tab) (es:List Expr) (cs:Codes):Prop:=∀ B ρ ds,evs C cs ρ=some ds->PA X es (tDs X.K B ρ ds)
def SB (X:Cx) (C:Tab) (e:Expr) (c:Code):Prop:=∀ B ρ d k,ev C c ρ=some d->truO d=some k->PT X e (tTr X.K B ρ k)
def rD2 (K:Frag) (f:D->D->Option D):R2:=λx y H Q=>∃ B dx dy d,HB B H/\Rep K B H x dx/\Rep K B H y dy/\f dx dy=some d /\
 ∀ v H',Same H H'->Rep K B H' v d->(∀ ds,d=.lst ds->Fresh H v)->Q v H'
def rDs (K:Frag) (f:List D->Option D):List V->Hp->VK->Prop:=λxs H Q=>∃ B dx d,HB B H/\Reps K B H xs dx/\f dx=some d /\
 ∀ v H',Same H H'->Rep K B H' v d->(∀ ds,d=.lst ds->Fresh H v)->Q v H'
theorem _root_.L2.PE.imp {X:Cx} {e:Expr} {t t':TE} (h:PE X e t) (i:∀ σ H Q,t' σ H Q->t σ H Q):PE X e t':=λpins s σ H Q I q=>h pins s σ H Q I (i _ _ _ q)
theorem _root_.L2.PT.imp {X:Cx} {e:Expr} {t t':TT} (h:PT X e t) (i:∀ σ H Q,t' σ H Q->t σ H Q):PT X e t':=λpins s σ H Q I q=>h pins s σ H Q I (i _ _ _ q)
theorem _root_.L2.PA.imp {X:Cx} {e:List Expr} {t t':TA} (h:PA X e t) (i:∀ σ H Q,t' σ H Q->t σ H Q):PA X e t':=λpos pins s σ H Q I q=>h pos pins s σ H Q I (i _ _ _ q)
theorem wa {α β:Type} {o:Option α} {f:α->Option β} {b:β} (h:o.bind f=some b):∃ a,o=some a/\f a=some b:=by
 cases o with
 | none=>cases h
 | some a=>exact ⟨a,rfl,h⟩
theorem wb {α β:Type} {o:Option α} {f:α->β} {b:β} (h:o.map f=some b):∃ a,o=some a/\f a=b:=by
 cases o with
 | none=>cases h
 | some a=>exact ⟨a,rfl,wC h⟩
section
variable {X:Cx} {C:Tab} {a b c:Expr} {ca cb cc:Code} {pos:Pos}
theorem SF.se (h:SF X C a ca):∀ B ρ ds,ev C ca ρ=some (.lst ds)->PE X a (tD X.K B ρ (.lst ds)):=λB ρ ds e =>
 (h B ρ ds e).imp λσ H Q ⟨h1,h2,q⟩=>⟨h1,h2,λv H' s r _=>q v H' s r⟩
theorem zdx {i:Int} {j:Nat}:SE X C (.Constant (.int i) j pos) (.cst (.int i)):=λB ρ d e=>by
 cases e;exact (jcI).imp λσ H Q ⟨_,_,q⟩=>q _ H (Same.refl H) (.int i)
theorem jd4 {i:Bool} {j:Nat}:SE X C (.Constant (.bool i) j pos) (.cst (.bl i)):=λB ρ d e=>by
 cases e;exact (ydX).imp λσ H Q ⟨_,_,q⟩=>q _ H (Same.refl H) (.bl i)
theorem qdx {j:Nat}:SE X C (.Constant .none j pos) (.cst .non):=λB ρ d e=>by
 cases e;exact (zcJ).imp λσ H Q ⟨_,_,q⟩=>q _ H (Same.refl H) .non
theorem ydx {x:Str} {j:Nat}:SE X C (.Constant (.str x) j pos) (.cst (.str x)):=λB ρ d e=>by
 cases e;exact (qcJ).imp λσ H Q ⟨_,_,q⟩=>q _ H (Same.refl H) (.str x)
theorem jdx {i:Nat} {x:Str} (hN:X.N[i]?=some x) (hv:Vis X.env.scope x) (hd:(x==("__debug__":Str))=false) (hcd:(x==("__classdict__":Str))=false):SE X C (.Name x pos) (.var i):=λB ρ d e=>by
 have e':ρ[i]?=some (some d):=by
  rw [ev] at e;cases q:ρ[i]? with
  | none=>rw [q] at e;cases e
  | some o=>rw [q] at e;exact congrArg some e
 refine (yaQ hN hv hd hcd).imp λσ H Q ⟨_,h2,q⟩=>?_
 obtain ⟨v,e1,r⟩:=h2 i d e';exact ⟨v,e1,q v H (Same.refl H) r⟩
theorem jb4 {x:Str} {v:V} {u:Value} {d:D} (hg:Gl X x) (hm:X.mg x=some u) (r:RelV v u) (hv:∀ B H,Rep X.K B H v d) (hd:(x==("__debug__":Str))=false):SE X C (.Name x pos) (.cst d):=λB ρ d' e=>by
 cases e;exact (ycS hg hm r hd).imp λσ H Q ⟨_,_,q⟩=>q v H (Same.refl H) (hv B H)
theorem zcx {K:Frag} {B:Addr->Prop} {ρ:En} {dx dy d:D} {f:D->D->Option D} (hf:f dx dy=some d) {σ:L2.St} {H:Hp} {Q:VK}
  (h1:HB B H) (h2:ER K B H σ ρ) (q:∀ v H',Same H H'->Rep K B H' v d->(∀ ds,d=.lst ds->Fresh H v)->Q v H'):tOp (rD2 K f) (tD K B ρ dx) (tD K B ρ dy) σ H Q :=
 ⟨h1,h2,λx H1 s1 r1=>⟨h1.same s1,h2.same s1,λy H2 s2 r2=>⟨B,dx,dy,d,(h1.same s1).same s2,r1.same s2,r2,hf,λv H' s3 r3 fr=>q v H' ((s1.trans s2).trans s3) r3 λds e=>(fr ds e).back (s1.trans s2)⟩⟩⟩
theorem zdy {op:Operator} (ho:OpR X (binaryOp op) (rD2 X.K (zax op))) (ha:SE X C a ca) (hb:SE X C b cb):SE X C (.BinOp a op b pos) (.bin op ca cb):=λB ρ d e=>by
 obtain ⟨dx,ex,e⟩:=wa (show (ev C ca ρ).bind _=some d from e);obtain ⟨dy,ey,e⟩:=wa e;exact (qdp ho (ha B ρ dx ex) (hb B ρ dy ey)).imp λσ H Q ⟨h1,h2,q⟩=>zcx e h1 h2 λv H' s r _=>q v H' s r
theorem qdy {op:Operator} (ho:OpR X (binaryOp op) (rD2 X.K (zax op))) (ha:SE X C a ca) (hb:SE X C b cb):SF X C (.BinOp a op b pos) (.bin op ca cb):=λB ρ ds e=>by
 obtain ⟨dx,ex,e⟩:=wa (show (ev C ca ρ).bind (λx=>(ev C cb ρ).bind λy=>zax op x y)=some (D.lst ds) from e);obtain ⟨dy,ey,e⟩:=wa e;exact (qdp ho (ha B ρ dx ex) (hb B ρ dy ey)).imp λσ H Q ⟨h1,h2,q⟩=>zcx e h1 h2 λv H' s r f=>q v H' s r (f ds rfl)
theorem ydy (ha:SE X C a ca):SE X C (.UnaryOp .USub a pos) (.neg ca):=λB ρ d e=>by
 obtain ⟨dx,ex,e⟩:=wa (show (ev C ca ρ).bind _=some d from e);cases dx with
 | int i =>
  cases e;refine (ydZ jdq (ha B ρ _ ex)).imp λσ H Q ⟨h1,h2,q⟩=>⟨h1,h2,λv H' s r=>?_⟩
  cases r;exact ⟨i,rfl,q _ H' s (.int _)⟩
 | _=>cases e
noncomputable def jax (op:CmpOp):D->D->Option D:=λx y=>(zV op x y).map D.bl
theorem jdy {op:CmpOp} (ho:OpR X (compareOp op) (rD2 X.K (jax op))) (ha:SE X C a ca) (hb:SE X C b cb) (hm:behindInMarks op b=false):SE X C (.Compare a [op] [b] pos) (.cmp op ca cb):=λB ρ d e=>by
 obtain ⟨dx,ex,e⟩:=wa (show (ev C ca ρ).bind _=some d from e);obtain ⟨dy,ey,e⟩:=wa e;exact (zcU ho (ha B ρ dx ex) (hb B ρ dy ey) hm).imp λσ H Q ⟨h1,h2,q⟩=>zcx (f:=jax op) e h1 h2 λv H' s r _=>q v H' s r
theorem zdz {op:CmpOp} (ho:OpR X (compareOp op) (rD2 X.K (jax op))) (ha:SE X C a ca) (hb:SE X C b cb) (hm:behindInMarks op b=false):SB X C (.Compare a [op] [b] pos) (.cmp op ca cb):=λB ρ d k' e hk=>by
 obtain ⟨dx,ex,e⟩:=wa (show (ev C ca ρ).bind _=some d from e);obtain ⟨dy,ey,e⟩:=wa e;obtain ⟨k,ek,rfl⟩:=wb e;cases hk;refine (qcU ho (ha B ρ dx ex) (hb B ρ dy ey) hm).imp λσ H Q ⟨h1,h2,q⟩=>?_
 refine zcx (f:=jax op) (d:=.bl k) (by unfold jax;rw [ek];rfl) h1 h2 λv H' s r _=>?_
 cases r;exact ⟨k,rfl,q H' s⟩
theorem qaf {K:Frag} {B:Addr->Prop} {ρ:En} {dx dy d:D} {op op':CmpOp} {t:Bool} {tc:TE} (ht:zV op dx dy=some t)
  (hc:t=true->∃ dz k,zV op' dy dz=some k/\d=.bl k/\tc=tD K B ρ dz) (hn:t=false->d=.bl false) {σ:L2.St} {H:Hp} {Q:VK}
  (h1:HB B H) (h2:ER K B H σ ρ) (q:∀ v H',Same H H'->Rep K B H' v d->Q v H'):zb0 (rD2 K (jax op)) (rD2 K (jax op')) (tD K B ρ dx) (tD K B ρ dy) tc σ H Q:=by
 refine ⟨h1,h2,λx H1 s1 r1=>⟨h1.same s1,h2.same s1,λy H2 s2 r2=>?_⟩⟩;refine ⟨B,dx,dy,.bl t,(h1.same s1).same s2,r1.same s2,r2,by unfold jax;rw [ht];rfl,λz H3 s3 r3 _=>?_⟩;cases r3;refine ⟨t,rfl,?_⟩;have s12:=(s1.trans s2).trans s3;cases t with
 | false =>
  rw [if_neg wB];cases hn rfl;exact q _ H3 s12 (.bl _)
 | true =>
  rw [if_pos rfl];obtain ⟨dz,k,ek,rfl,rfl⟩:=hc rfl;refine ⟨h1.same s12,h2.same s12,λw H4 s4 r4=>⟨B,dy,dz,.bl k,(h1.same s12).same s4,(r2.same s3).same s4,r4,by unfold jax;rw [ek];rfl,λv H5 s5 r5 _=>q v H5 ((s12.trans s4).trans s5) r5⟩⟩
theorem qdz {op op':CmpOp} (ho:OpR X (compareOp op) (rD2 X.K (jax op))) (ho':OpR X (compareOp op') (rD2 X.K (jax op'))) (ha:SE X C a ca) (hb:SE X C b cb) (hc:SE X C c cc) (hm:lastMarks [op,op'] [b,c]=false) :
  SE X C (.Compare a [op,op'] [b,c] pos) (.chn op op' ca cb cc):=λB ρ d e=>by
 obtain ⟨dx,ex,e⟩:=wa (show (ev C ca ρ).bind _=some d from e);obtain ⟨dy,ey,e⟩:=wa e;obtain ⟨t,et,e⟩:=wa e;cases t with
 | false =>
  rw [if_neg wB] at e;cases e;have hz:∃ tc,PE X c tc:=⟨λ_ _ _=>False,λ_ _ _ _ _ _ z=>z.elim⟩;obtain ⟨tc,hz⟩:=hz;exact (ybz ho ho' (ha B ρ dx ex) (hb B ρ dy ey) hz hm).imp λσ H Q ⟨h1,h2,q⟩=>qaf et (λz=>by cases z) (λ_=>rfl) h1 h2 q
 | true =>
  rw [if_pos rfl] at e;obtain ⟨dz,ez,e⟩:=wa e;obtain ⟨k,ek,rfl⟩:=wb e;exact (ybz ho ho' (ha B ρ dx ex) (hb B ρ dy ey) (hc B ρ dz ez) hm).imp λσ H Q ⟨h1,h2,q⟩=>qaf et (λ_=>⟨dz,k,ek,rfl,rfl⟩) (λz=>by cases z) h1 h2 q
theorem ydz {op op':CmpOp} (ho:OpR X (compareOp op) (rD2 X.K (jax op))) (ho':OpR X (compareOp op') (rD2 X.K (jax op'))) (ha:SE X C a ca) (hb:SE X C b cb) (hc:SE X C c cc) (hm:lastMarks [op,op'] [b,c]=false) :
  SB X C (.Compare a [op,op'] [b,c] pos) (.chn op op' ca cb cc):=λB ρ d k' e hk=>by
 obtain ⟨dx,ex,e⟩:=wa (show (ev C ca ρ).bind _=some d from e);obtain ⟨dy,ey,e⟩:=wa e;obtain ⟨t,et,e⟩:=wa e;cases t with
 | false =>
  rw [if_neg wB] at e;cases e;cases hk;have hz:∃ tc,PE X c tc:=⟨λ_ _ _=>False,λ_ _ _ _ _ _ z=>z.elim⟩;obtain ⟨tc,hz⟩:=hz;refine (jbz ho ho' (ha B ρ dx ex) (hb B ρ dy ey) hz hm).imp λσ H Q ⟨h1,h2,q⟩=>qaf et (λz=>by cases z) (λ_=>rfl) h1 h2 λv H' s r=>?_
  cases r;exact ⟨_,rfl,q H' s⟩
 | true =>
  rw [if_pos rfl] at e;obtain ⟨dz,ez,e⟩:=wa e;obtain ⟨k,ek,rfl⟩:=wb e;cases hk;refine (jbz ho ho' (ha B ρ dx ex) (hb B ρ dy ey) (hc B ρ dz ez) hm).imp λσ H Q ⟨h1,h2,q⟩=>qaf et (λ_=>⟨dz,k,ek,rfl,rfl⟩) (λz=>by cases z) h1 h2 λv H' s r=>?_
  cases r;exact ⟨_,rfl,q H' s⟩
theorem Rep.tru {K:Frag} {B:Addr->Prop} {H:Hp} {v:V} {d:D} {k:Bool} (r:Rep K B H v d) (hs:truO d=some k):qd1 K v H k:=by
 cases r with
 | non=>cases hs;rfl
 | bl b=>cases hs;rfl
 | int i=>cases hs;rfl
 | str x=>cases hs
 | tup e r=>cases hs;exact .inr (.inl ⟨_,SqT.of e,by cases r<;>rfl⟩)
 | lst n e r=>cases hs;exact .inl ⟨_,SqL.of e,by cases r<;>rfl⟩
 | scr h=>cases hs;exact .inl ⟨_,h.sq,by simp [jeh,List.isEmpty_map]⟩
 | grp _ _ _ _ _ _=>cases hs
theorem zd5 (ha : SE X C a ca) (he : ∀ whole, isTrue a X.env whole = (do let v <- whole; standAt a.pos; holding [v] (truthy v))) : SB X C a ca := λB ρ d k e hk =>
 (zcr (ha B ρ d e) he).imp λσ H Q ⟨h1,h2,q⟩=>⟨h1,h2,λv H' s r=>⟨k,r.tru hk,q H' s⟩⟩
theorem jdz (ha:SB X C a ca):SB X C (.UnaryOp .Not a pos) (.not ca):=λB ρ d k e hk=>by
 obtain ⟨dx,ex,e⟩:=wa (show (ev C ca ρ).bind _=some d from e);obtain ⟨t,et,rfl⟩:=wb e;cases hk;exact (ydn (ha B ρ dx t ex et)).imp λσ H Q ⟨h1,h2,q⟩=>⟨h1,h2,λH' s=>q H' s⟩
theorem zdA (ha:SE X C a ca):SE X C (.UnaryOp .Not a pos) (.not ca):=λB ρ d e=>by
 obtain ⟨dx,ex,e⟩:=wa (show (ev C ca ρ).bind _=some d from e);obtain ⟨t,et,rfl⟩:=wb e;intro pins s σ H Q I ⟨h1,h2,q⟩;refine UnaryOp_ (thn (ha B ρ dx ex pins s σ H (λv H'=>Same H H'/\Rep X.K B H' v dx) I ⟨h1,h2,λv H' s r=>⟨s,r⟩⟩) λv s1 ⟨x,H1,I1,r1,s01,rx⟩=>?_);have tr:=jcK pins s1 σ H1 x v (λb H'=>b=t/\H'=H1) I1 r1 ⟨t,rx.tru et,rfl,rfl⟩;refine not_of (thn tr λb s2 z=>?_);obtain ⟨H2,I2,eb,eH⟩:=z;subst eb;subst eH
 exact ⟨.bl (!b),H2,I2,rfl,q _ H2 s01 (.bl _)⟩
theorem qdA {rest:List Expr} {p:Pos} (ha:SB X C a ca) (hb:∀ B ρ d k,ev C cb ρ=some d->truO d=some k->PW X (.BoolOp .And (b::rest) p) (tTr X.K B ρ k)) :
  ∀ B ρ d k,ev C (.and ca cb) ρ=some d->truO d=some k->PW X (.BoolOp .And (a::b::rest) p) (tTr X.K B ρ k):=λB ρ d k e hk=>by
 obtain ⟨dx,ex,e⟩:=wa (show (ev C ca ρ).bind _=some d from e);cases dx with
 | bl t =>
  cases t with
  | true =>
   intro wh pins s σ H Q I ⟨h1,h2,q⟩;exact ycJ (ha B ρ _ true ex rfl) (hb B ρ d k e hk) wh pins s σ H Q I ⟨h1,h2,λH' s=>ydk ⟨h1.same s,h2.same s,λH'' s'=>q H'' (s.trans s')⟩⟩
  | false =>
   cases e;cases hk;intro wh pins s σ H Q I ⟨h1,h2,q⟩;exact ycJ (tB':=λ_ _ _=>False) (ha B ρ _ false ex rfl) (λ_ _ _ _ _ _ _ z=>z.elim) wh pins s σ H Q I ⟨h1,h2,λH' s=>ycW (q H' s)⟩
 | _=>cases e
theorem qd5 {rest:List Expr} {p:Pos} (ha:SB X C a ca) (hb:∀ B ρ d k,ev C cb ρ=some d->truO d=some k->PW X (.BoolOp .Or (b::rest) p) (tTr X.K B ρ k)) :
  ∀ B ρ d k,ev C (.or ca cb) ρ=some d->truO d=some k->PW X (.BoolOp .Or (a::b::rest) p) (tTr X.K B ρ k):=λB ρ d k e hk=>by
 obtain ⟨dx,ex,e⟩:=wa (show (ev C ca ρ).bind _=some d from e);cases dx with
 | bl t =>
  cases t with
  | false =>
   intro wh pins s σ H Q I ⟨h1,h2,q⟩;exact qdn (ha B ρ _ false ex rfl) (hb B ρ d k e hk) wh pins s σ H Q I ⟨h1,h2,λH' s=>ycW ⟨h1.same s,h2.same s,λH'' s'=>q H'' (s.trans s')⟩⟩
  | true =>
   cases e;cases hk;intro wh pins s σ H Q I ⟨h1,h2,q⟩;exact qdn (tB':=λ_ _ _=>False) (ha B ρ _ true ex rfl) (λ_ _ _ _ _ _ _ z=>z.elim) wh pins s σ H Q I ⟨h1,h2,λH' s=>ydk (q H' s)⟩
 | _=>cases e
theorem ybR {p:Pos} (ha:SB X C a ca):∀ B ρ d k,ev C ca ρ=some d->truO d=some k->PW X (.BoolOp .And [a] p) (tTr X.K B ρ k):=λB ρ d k e hk=>jcS (ha B ρ d k e hk)
theorem zb5 {p:Pos} (ha:SB X C a ca):∀ B ρ d k,ev C ca ρ=some d->truO d=some k->PW X (.BoolOp .Or [a] p) (tTr X.K B ρ k):=λB ρ d k e hk=>zdn (ha B ρ d k e hk)
theorem ydA {op:BoolOp} (ha:SE X C a ca):SE X C (.BoolOp op [a] pos) ca:=λB ρ d e=>jcJ (ha B ρ d e)
theorem jdA {rest:List Expr} (ha:SE X C a ca) (hb:SE X C (.BoolOp .And (b::rest) pos) cb):SE X C (.BoolOp .And (a::b::rest) pos) (.and ca cb):=λB ρ d e=>by
 obtain ⟨dx,ex,e⟩:=wa (show (ev C ca ρ).bind _=some d from e);cases dx with
 | bl t =>
  cases t with
  | true =>
   refine (ybX (ha B ρ _ ex) (hb B ρ d e)).imp λσ H Q ⟨h1,h2,q⟩=>⟨h1,h2,λv H' s r=>?_⟩
   cases r;exact ⟨true,rfl,ydk ⟨h1.same s,h2.same s,λv H'' s' r'=>q v H'' (s.trans s') r'⟩⟩
  | false =>
   cases e;refine (ybX (tb:=λ_ _ _=>False) (ha B ρ _ ex) (λ_ _ _ _ _ _ z=>z.elim)).imp λσ H Q ⟨h1,h2,q⟩=>⟨h1,h2,λv H' s r=>?_⟩
   cases r;exact ⟨false,rfl,ycW (q _ H' s (.bl _))⟩
 | _=>cases e
theorem yd5 {rest:List Expr} (ha:SE X C a ca) (hb:SE X C (.BoolOp .Or (b::rest) pos) cb):SE X C (.BoolOp .Or (a::b::rest) pos) (.or ca cb):=λB ρ d e=>by
 obtain ⟨dx,ex,e⟩:=wa (show (ev C ca ρ).bind _=some d from e);cases dx with
 | bl t =>
  cases t with
  | false =>
   refine (jdn (ha B ρ _ ex) (hb B ρ d e)).imp λσ H Q ⟨h1,h2,q⟩=>⟨h1,h2,λv H' s r=>?_⟩
   cases r;exact ⟨false,rfl,ycW ⟨h1.same s,h2.same s,λv H'' s' r'=>q v H'' (s.trans s') r'⟩⟩
  | true =>
   cases e;refine (jdn (tb:=λ_ _ _=>False) (ha B ρ _ ex) (λ_ _ _ _ _ _ z=>z.elim)).imp λσ H Q ⟨h1,h2,q⟩=>⟨h1,h2,λv H' s r=>?_⟩
   cases r;exact ⟨true,rfl,ydk (q _ H' s (.bl _))⟩
 | _=>cases e
theorem jO:SA X C [] .nil:=λB ρ ds e=>by
 cases e;exact (yaa).imp λσ H Q ⟨_,_,q⟩=>q [] H (Same.refl H) .nil
theorem yA {es:List Expr} {cs:Codes} (ha:SE X C a ca) (hr:SA X C es cs) (hs:starEach (a::es) X.env=(false,eval a X.env)::starEach es X.env):SA X C (a::es) (.cons ca cs):=λB ρ ds e=>by
 obtain ⟨d,ed,e⟩:=wa (show (ev C ca ρ).bind _=some ds from e);obtain ⟨dr,er,rfl⟩:=wb e;exact (yH (ha B ρ d ed) (hr B ρ dr er) hs).imp λσ H Q ⟨h1,h2,q⟩=>⟨h1,h2,λv H1 s1 r1=>⟨h1.same s1,h2.same s1,λvs H2 s2 r2=>q _ H2 (s1.trans s2) (.cons (r1.same s2) r2)⟩⟩
theorem zdB {es:List Expr} {cs:Codes} {k:Nat} (h:SA X C es cs):SE X C (.Tuple es k pos) (.tup cs):=λB ρ d e=>by
 obtain ⟨ds,ed,e⟩:=wa (show (evs C cs ρ).bind _=some d from e);split at e
 ·rename_i hz;cases e;exact (jdr (h B ρ ds ed)).imp λσ H Q ⟨h1,h2,q⟩=>⟨h1,h2,λvs H1 s1 r1=>⟨by rw [r1.length];exact hz,λp hp=>q _ _ (s1.trans (je hp _)) (.newT hp r1)⟩⟩
 ·cases e
theorem zcM {es:List Expr} {cs:Codes} (h:SA X C es cs):SF X C (.List es pos) (.lst cs):=λB ρ ds e=>by
 obtain ⟨ds',ed,e⟩:=wa (show (evs C cs ρ).bind (λxs=>if xs.length<=sizeLine then some (D.lst xs) else none)=some (D.lst ds) from e);split at e
 ·rename_i hz;cases e;exact (zcL (h B ρ _ ed)).imp λσ H Q ⟨h1,h2,q⟩=>⟨h1,h2,λvs H1 s1 r1=>⟨by rw [r1.length];exact hz,λp hp=>q _ _ (s1.trans (je hp _)) (.newL (h1.same s1) hp r1) ⟨p,rfl,s1.free hp⟩⟩⟩
 ·cases e
theorem qdB {es:List Expr} {cs:Codes} (h:SA X C es cs):SE X C (.List es pos) (.lst cs):=λB ρ d e=>by
 have:∃ ds,d=.lst ds:=by
  obtain ⟨ds',ed,e⟩:=wa (show (evs C cs ρ).bind _=some d from e);split at e
  ·cases e;exact ⟨_,rfl⟩
  ·cases e
 obtain ⟨ds,rfl⟩:=this;exact SF.se (zcM h) B ρ ds e
end
section
variable {K:Frag} {B:Addr->Prop} {H:Hp} {v:V} {ds:List D}
theorem Rep.tupD (r:Rep K B H v (.tup ds)):∃ a vs,v=.ref a/\H a=some (.tup vs)/\Reps K B H vs ds:=by cases r with | tup e r=>exact ⟨_,_,rfl,e,r⟩
theorem Rep.lstD (r:Rep K B H v (.lst ds)):∃ a vs,v=.ref a/\¬ B a/\H a=some (.lst vs)/\Reps K B H vs ds:=by cases r with | lst n e r=>exact ⟨_,_,rfl,n,e,r⟩
theorem Rep.scrD {i:List Int} (r:Rep K B H v (.scr i)):∃ a,v=.ref a/\SqS K H a i:=by cases r with | scr h=>exact ⟨_,rfl,h⟩
end
mutual
noncomputable def toP:D->PyData
 | .non=>.none
 | .bl b=>.bool b
 | .int i=>.int i
 | .str x=>.str x
 | .tup xs=>.tuple (ybd xs)
 | .lst xs=>.list (ybd xs)
 | .scr _=>.none
 | .grp _=>.none
noncomputable def ybd:List D->List PyData
 | []=>[]
 | x::xs=>toP x::ybd xs
end
mutual
theorem jal:∀ d:D,noS d=true->(toP d).canLay0=true
 | .non,_=>rfl
 | .bl _,_=>rfl
 | .int _,_=>rfl
 | .str x,h=>h
 | .tup xs,h=>zbp xs h
 | .lst xs,h=>zbp xs h
 | .scr _,h=>by cases h
 | .grp _,h=>by cases h
theorem zbp:∀ ds:List D,yS ds=true->PyData.canLayAll0 (ybd ds)=true
 | [],_=>rfl
 | x::xs,h=>by
  rw [yS,wj] at h;rw [ybd,PyData.canLayAll0,jal x h.1,zbp xs h.2];rfl
end
mutual
theorem yY:∀ d:D,(toP d).depth=dep d
 | .non=>rfl
 | .bl _=>rfl
 | .int _=>rfl
 | .str x=>rfl
 | .tup xs=>by rw [toP,PyData.depth,dep,za0 xs]
 | .lst xs=>by rw [toP,PyData.depth,dep,za0 xs]
 | .scr _=>rfl
 | .grp _=>rfl
theorem za0:∀ ds:List D,PyData.depthAll (ybd ds)=zbn ds
 | []=>rfl
 | x::xs=>by rw [ybd,PyData.depthAll,zbn,yY x,za0 xs]
end
mutual
theorem jbd:∀ x y:D,noS x=true->noS y=true->PyData.eqv (toP x) (toP y)=eqD x y
 | .non,y,_,hy=>by cases y<;>first | rfl | cases hy
 | .bl _,y,_,hy=>by cases y<;>first | rfl | cases hy
 | .int _,y,_,hy=>by cases y<;>first | rfl | cases hy
 | .str x,y,_,hy=>by cases y<;>first | rfl | cases hy
 | .tup xs,y,hx,hy=>by
  cases y<;>first | rfl | cases hy | exact qbp xs _ hx hy
 | .lst xs,y,hx,hy=>by
  cases y<;>first | rfl | cases hy | exact qbp xs _ hx hy
 | .scr _,_,h,_=>by cases h
 | .grp _,_,h,_=>by cases h
theorem qbp:∀ xs ys:List D,yS xs=true->yS ys=true->PyData.eqvAll (ybd xs) (ybd ys)=zbW xs ys
 | [],[],_,_=>rfl
 | [],_::_,_,_=>rfl
 | _::_,[],_,_=>rfl
 | x::xs,y::ys,hx,hy=>by
  rw [yS,wj] at hx hy;rw [ybd,ybd,PyData.eqvAll,zbW,jbd x y hx.1 hy.1,qbp xs ys hx.2 hy.2]
end
section
variable {X:Cx} {pins:List (Addr×Obj)} {σ:L2.St} {H:Hp} {s:Shared} {B:Addr->Prop}
mutual
theorem Rep.reads (I:L2.Inv X pins σ H s):∀ {v:V} {d:D} {u:Value},Rep X.K B H v d->L2.RelV v u->noS d=true->∃ as,Reads s.heap u (toP d) as
 | _,_,_,.non,r,_=>by cases r;exact ⟨_,.none⟩
 | _,_,_,.bl b,r,_=>by cases r;exact ⟨_,.bool b⟩
 | _,_,_,.int i,r,_=>by obtain ⟨t,rfl⟩:=r;exact ⟨_,.int i t⟩
 | _,_,_,.str x,r,_=>by obtain ⟨t,rfl⟩:=r;exact ⟨_,.str x t⟩
 | _,_,_,.tup e rs,r,h=>by
  cases r;obtain ⟨_,its,rv,o,ho,hc,_,n,hd⟩:=I.hok _ _ e;obtain ⟨as,q⟩:=Reps.reads I rs rv h;exact ⟨_,.tuple ho hc hd (by simpa using q)⟩
 | _,_,_,.lst _ e rs,r,h=>by
  cases r;obtain ⟨_,its,n,rv,ho⟩:=I.hok _ _ e;obtain ⟨as,q⟩:=Reps.reads I rs rv h;exact ⟨_,.list ho rfl rfl (by simpa using q)⟩
 | _,_,_,.scr _,_,h=>by cases h
 | _,_,_,.grp _ _ _ _ _ _,_,h=>by cases h
theorem Reps.reads (I:L2.Inv X pins σ H s):∀ {vs:List V} {ds:List D} {us:List Value},Reps X.K B H vs ds->Vals vs us->yS ds=true->∃ as,ReadsAll s.heap us (ybd ds) as
 | _,_,_,.nil,r,_=>by cases r;exact ⟨_,.nil⟩
 | _,_,_,.cons a rs,r,h=>by
  cases r with
  | cons r1 r2 =>
   rw [yS,wj] at h;obtain ⟨as,q1⟩:=Rep.reads I a r1 h.1;obtain ⟨bs,q2⟩:=Reps.reads I rs r2 h.2;exact ⟨_,.cons q1 q2⟩
end
theorem eqOk_iff {x y:D}:jak x y=true↔(dep x<=40\/dep y<=40)/\noS x=true/\noS y=true:=by
 simp [jak,and_assoc]
theorem ydB (hu:X.A.units+64<cLine) {x y:V} {v u:Value} {dx dy:D} {Q:Value->Shared->Prop} {E:Value->Shared->Prop} (I:L2.Inv X pins σ H s) (rx:L2.RelV x v) (ry:L2.RelV y u) (r1:Rep X.K B H x dx) (r2:Rep X.K B H y dy)
  (h:jak dx dy=true) (q:Q (.bool (eqD dx dy)) s):wpAny (model X.prog X.w) X.A (compareOp .Eq v u) Q E s:=by
 obtain ⟨h1,h2,h3⟩:=eqOk_iff.mp h;obtain ⟨as,q1⟩:=r1.reads I rx h2;obtain ⟨bs,q2⟩:=r2.reads I ry h3;refine SeqAt.compareEq_reads q1 q2 (jal _ h2) (jal _ h3) ?_ (by rw [jbd _ _ h2 h3];exact q);rw [yY,yY]
 have:min (dep dx) (dep dy)<=40:=by rcases h1 with z | z<;>omega
 omega
end
section
variable {X:Cx}
theorem jdB {x:D} (h:isS x=true):∃ a,x=.str a:=by
 cases x<;>first | exact ⟨_,rfl⟩ | cases h
theorem zdC {x y:D} (h:(isS x&&isS y)=true):∃ a b,x=.str a/\y=.str b:=by
 rw [wj] at h;obtain ⟨a,e⟩:=jdB h.1;obtain ⟨b,e'⟩:=jdB h.2;exact ⟨a,b,e,e'⟩
theorem qb5 {x y:D} {c k:Bool} (hs:¬ (isS x&&isS y)=true) (h:(if ((isS x&&isS y)||jak x y)=true then some c else none)=some k):jak x y=true/\c=k:=by
 rw [Bool.not_eq_true] at hs;rw [hs,Bool.false_or] at h;split at h
 ·rename_i z;exact ⟨z,wC h⟩
 ·cases h
theorem qdC (hu:X.A.units+64<cLine):OpR X (compareOp .Eq) (rD2 X.K (jax .Eq)):=by
 intro pins s σ H x y v u Q I rx ry ⟨B,dx,dy,d,hb,r1,r2,e,q⟩;obtain ⟨k,ek,rfl⟩:=wb (show (zV .Eq dx dy).map D.bl=some d from e)
 by_cases hs:(isS dx&&isS dy)=true
 ·obtain ⟨a,b,rfl,rfl⟩:=zdC hs;cases ek;cases r1;cases r2;refine jdZ pins s σ H _ _ v u Q I rx ry ⟨rfl,?_⟩;rw [zaY];exact q _ H (Same.refl H) (.bl _) (λ_ z=>nomatch z)
 ·have hk:jak dx dy=true/\eqD dx dy=k:=qb5 hs ek;refine ydB hu I rx ry r1 r2 hk.1 ?_;rw [hk.2];exact ⟨.bl k,H,I,rfl,q _ H (Same.refl H) (.bl _) (λ_ z=>nomatch z)⟩
end
section
variable {X:Cx}
theorem ydC (hu:X.A.units+64<cLine):OpR X (compareOp .NotEq) (rD2 X.K (jax .NotEq)):=by
 intro pins s σ H x y v u Q I rx ry ⟨B,dx,dy,d,hb,r1,r2,e,q⟩;obtain ⟨k,ek,rfl⟩:=wb (show (zV .NotEq dx dy).map D.bl=some d from e)
 by_cases hs:(isS dx&&isS dy)=true
 ·obtain ⟨a,b,rfl,rfl⟩:=zdC hs;cases ek;cases r1;cases r2;refine zd0 pins s σ H _ _ v u Q I rx ry ⟨rfl,?_⟩;rw [zaY];exact q _ H (Same.refl H) (.bl _) (λ_ z=>nomatch z)
 ·have hk:jak dx dy=true/\(!eqD dx dy)=k:=qb5 hs ek;obtain ⟨h1,h2,h3⟩:=eqOk_iff.mp hk.1;obtain ⟨as,q1⟩:=r1.reads I rx h2;obtain ⟨bs,q2⟩:=r2.reads I ry h3
  have hm:X.A.units+min (toP dx).depth (toP dy).depth<cLine:=by
   rw [yY,yY]
   have:min (dep dx) (dep dy)<=40:=by rcases h1 with z | z<;>omega
   omega
  refine SeqAt.compareNe_reads q1 q2 (jal _ h2) (jal _ h3) hm ?_;rw [jbd _ _ h2 h3,hk.2];exact ⟨.bl k,H,I,rfl,q _ H (Same.refl H) (.bl _) (λ_ z=>nomatch z)⟩
theorem qa0 {f:Int->Int->Bool} {x y:D} {k:Bool} (h:jdu f x y=some k):∃ i j,x=.int i/\y=.int j/\k=f i j:=by
 cases x<;>first | (cases y<;>first | exact ⟨_,_,rfl,rfl,(wC h).symm⟩ | cases h) | cases h
theorem qcM {x y:D} {k:Bool} (h:isC x y=some k):(y=.non/\isN x=k)\/∃ a b,x=.bl a/\y=.bl b/\(a==b)=k:=by
 cases y with
 | non=>exact .inl ⟨rfl,wC (by cases x<;>exact h)⟩
 | bl b=>cases x<;>first | exact .inr ⟨_,_,rfl,rfl,wC h⟩ | cases h
 | _=>cases x<;>cases h
theorem ya0 {op:CmpOp} {p:Int->Int->Bool} (hp:∀ dx dy k,zV op dx dy=some k->∃ i j,dx=.int i/\dy=.int j/\k=p i j) (ho:OpR X (compareOp op) (rI0 λi j=>.bl (p i j))):OpR X (compareOp op) (rD2 X.K (jax op)):=by
 intro pins s σ H x y v u Q I rx ry ⟨B,dx,dy,d,hb,r1,r2,e,q⟩;obtain ⟨k,ek,rfl⟩:=wb (show (zV op dx dy).map D.bl=some d from e);obtain ⟨i,j,rfl,rfl,rfl⟩:=hp dx dy k ek;cases r1;cases r2;exact ho pins s σ H _ _ v u Q I rx ry ⟨i,j,rfl,rfl,q _ H (Same.refl H) (.bl _) (λ_ z=>nomatch z)⟩
theorem jdC:OpR X (compareOp .Lt) (rD2 X.K (jax .Lt)):=ya0 (p:=λi j=>decide (i<j)) (λdx dy k e=>qa0 e) qd0
theorem zdD:OpR X (compareOp .LtE) (rD2 X.K (jax .LtE)):=ya0 (p:=λi j=>decide (i<=j)) (λdx dy k e=>qa0 e) yd0
theorem qdD:OpR X (compareOp .Gt) (rD2 X.K (jax .Gt)):=ya0 (p:=λi j=>decide (j<i)) (λdx dy k e=>qa0 e) jd0
theorem ydD:OpR X (compareOp .GtE) (rD2 X.K (jax .GtE)):=ya0 (p:=λi j=>decide (j<=i)) (λdx dy k e=>qa0 e) zd1
theorem yb5 {K:Frag} {B:Addr->Prop} {H:Hp} {v:V} {d:D} (r:Rep K B H v d):decide (v=.non)=isN d:=by cases r<;>rfl
theorem qcx {prog:Program} {w:World} {A:Around} {E:Value->Shared->Prop} {s:Shared} {a b:Bool} {Q:Value->Shared->Prop} (h:Q (.bool (a==b)) s):wpAny (model prog w) A (compareOp .Is (.bool a) (.bool b)) Q E s:=by
 cases a<;>cases b<;>(wp_walk;exact h)
theorem jb5 {prog:Program} {w:World} {A:Around} {E:Value->Shared->Prop} {s:Shared} {a b:Bool} {Q:Value->Shared->Prop} (h:Q (.bool (!(a==b))) s):wpAny (model prog w) A (compareOp .IsNot (.bool a) (.bool b)) Q E s:=by
 cases a<;>cases b<;>(wp_walk;exact h)
theorem jdD:OpR X (compareOp .Is) (rD2 X.K (jax .Is)):=by
 intro pins s σ H x y v u Q I rx ry ⟨B,dx,dy,d,hb,r1,r2,e,q⟩;obtain ⟨k,ek,rfl⟩:=wb (show (zV .Is dx dy).map D.bl=some d from e);rcases qcM ek with ⟨rfl,hk⟩ | ⟨a,b,rfl,rfl,hk⟩
 ·cases r2;refine zdr pins s σ H _ _ v u Q I rx ry ⟨rfl,?_⟩;rw [yb5 r1,hk];exact q _ H (Same.refl H) (.bl _) (λ_ z=>nomatch z)
 ·cases r1;cases r2;cases rx;cases ry
  refine qcx ⟨.bl k,H,I,by rw [hk];rfl,q _ H (Same.refl H) (.bl _) (λ_ z=>nomatch z)⟩
theorem jcZ:OpR X (compareOp .IsNot) (rD2 X.K (jax .IsNot)):=by
 intro pins s σ H x y v u Q I rx ry ⟨B,dx,dy,d,hb,r1,r2,e,q⟩;obtain ⟨k,ek,rfl⟩:=wb (show (zV .IsNot dx dy).map D.bl=some d from e);obtain ⟨k',ek',rfl⟩:=wb (show (isC dx dy).map not=some k from ek);rcases qcM ek' with ⟨rfl,hk⟩ | ⟨a,b,rfl,rfl,hk⟩
 ·cases r2;refine jcT pins s σ H _ _ v u Q I rx ry ⟨rfl,?_⟩;rw [yb5 r1,hk];exact q _ H (Same.refl H) (.bl _) (λ_ z=>nomatch z)
 ·cases r1;cases r2;cases rx;cases ry
  refine jb5 ⟨.bl (!k'),H,I,by rw [hk];rfl,q _ H (Same.refl H) (.bl _) (λ_ z=>nomatch z)⟩
noncomputable def cmpOps:List CmpOp:=[.Eq,.NotEq,.Lt,.LtE,.Gt,.GtE,.Is,.IsNot]
theorem jaE (hu:X.A.units+64<cLine) {op:CmpOp} (h:op∈cmpOps):OpR X (compareOp op) (rD2 X.K (jax op)):=by
 cases op with
 | Eq=>exact qdC hu
 | NotEq=>exact ydC hu
 | Lt=>exact jdC
 | LtE=>exact zdD
 | Gt=>exact qdD
 | GtE=>exact ydD
 | Is=>exact jdD
 | IsNot=>exact jcZ
 | In=>exact absurd h (by decide)
 | NotIn=>exact absurd h (by decide)
theorem ja0:fillsNumberSlot (.type "tuple") "mul"=pure false :=
 PySem.fillsNumberSlot_seq (r:=some (.builtin "tuple.__rmul__")) (id:="tuple.__mul__") F.slot_tuple_mul.lookup (by decide +kernel) F.slot_tuple_rmul.lookup (by decide +kernel)
theorem jbR:seqRepeat? (.type "tuple")=pure (some (.builtin "tuple.__mul__")):=by
 unfold seqRepeat?;rw [PySem.seqSlot_of (T:="tuple") (name:="__mul__") (id:="tuple.__mul__") F.slot_tuple_mul.lookup (by decide +kernel),PySem.seqSlot_of (T:="tuple") (name:="__rmul__") (id:="tuple.__rmul__") F.slot_tuple_rmul.lookup (by decide +kernel)];rfl
theorem zbe (a:Int) (t:Tok) (l:Addr) (its:Array Value) (n:Nat) (dd:Option Addr) (sl:Array (Option Value)) :
  Meets (Builtin.«int.__rmul__» ⟨[.int a t,.ref l],[]⟩) (λ_ R s=>s.heap.get? l=some { cls:=.type "tuple",dict:=dd,data:=.seq its n,slots:=sl }/\R (.ok (.ret Value.notImplemented)) s) :=
 .of_wp λ_ _ _ _ s h=>by obtain ⟨h0,g0,d0,t0,o0⟩:=s;obtain ⟨hl,h⟩:=h;wp_walk;exact ⟨_,rfl,h⟩
end
theorem qbe (l:Addr) (its:Array Value) (n:Nat) (x:Int) (u:Tok) (dd:Option Addr) (sl:Array (Option Value)) (h0:(decide (x < -(2^63))||decide (x>=2^63))=false) (h1:(its.isEmpty||x==1)=true) :
  Meets (Builtin.«tuple.__mul__» ⟨[.ref l,.int x u],[]⟩) (λ_ R s=>s.heap.get? l=some { cls:=.type "tuple",dict:=dd,data:=.seq its n,slots:=sl }/\R (.ok (.ret (Value.ref l))) s) :=
 .of_wp λ_ _ _ _ s h=>by obtain ⟨h0',g0,d0,t0,o0⟩:=s;obtain ⟨hl,h⟩:=h;have f1:=AutoSeq1.idx_int;have f2:=AutoSeq1.sub_tuple_tuple;wp_walk using AutoSeq1.wpAny_loadPart' hl;refine wpAny_ite_false (by rw [h0];rfl) ?_;wp_walk using AutoSeq1.wpAny_loadPart' hl;exact ⟨_,rfl,h⟩
theorem ybe (l:Addr) (its:Array Value) (n:Nat) (x:Int) (u:Tok) (dd:Option Addr) (sl:Array (Option Value)) (h0:(decide (x < -(2^63))||decide (x>=2^63))=false) (h1:(its.isEmpty||x==1)=false) (h2:(decide (x<=0)||its.isEmpty)=true) :
  Meets (Builtin.«tuple.__mul__» ⟨[.ref l,.int x u],[]⟩) (λ_ R s=>s.heap.get? l=some { cls:=.type "tuple",dict:=dd,data:=.seq its n,slots:=sl }/\R (.ok (.ret (Value.ref s.heap.objs.size))) { s with heap:=s.heap.push { cls:=.type "tuple",data:=.seq #[] } }) :=
 .of_wp λ_ _ _ _ s h=>by obtain ⟨h0',g0,d0,t0,o0⟩:=s;obtain ⟨hl,h⟩:=h;have f1:=AutoSeq1.idx_int;have f2:=AutoSeq1.sub_tuple_tuple;wp_walk using AutoSeq1.wpAny_loadPart' hl;refine wpAny_ite_false (by rw [h0];rfl) ?_;wp_walk using AutoSeq1.wpAny_loadPart' hl;exact ⟨_,rfl,h⟩
theorem jbe (l:Addr) (its:Array Value) (n:Nat) (x:Int) (u:Tok) (dd:Option Addr) (sl:Array (Option Value)) (h0:(decide (x < -(2^63))||decide (x>=2^63))=false) (h1:(its.isEmpty||x==1)=false) (h2:(decide (x<=0)||its.isEmpty)=false)
  (h3:¬ ((its.size:Int)*x>(2^63-1)/8)) (h4:¬ Builtin.Tuple.tupleTooMany ((its.size:Int)*x)=true) (h5:((List.replicate x.toNat its).foldl (·++·) #[]).size<=sizeLine) :
  Meets (Builtin.«tuple.__mul__» ⟨[.ref l,.int x u],[]⟩) (λ_ R s=>s.heap.get? l=some { cls:=.type "tuple",dict:=dd,data:=.seq its n,slots:=sl }/\R (.ok (.ret (Value.ref s.heap.objs.size))) { s with heap:=s.heap.push { cls:=.type "tuple",data:=.seq ((List.replicate x.toNat its).foldl (·++·) #[]) } }) :=
 .of_wp λ_ _ _ _ s h=>by obtain ⟨h0',g0,d0,t0,o0⟩:=s;obtain ⟨hl,h⟩:=h;have f1:=AutoSeq1.idx_int;have f2:=AutoSeq1.sub_tuple_tuple;wp_walk using AutoSeq1.wpAny_loadPart' hl;refine wpAny_ite_false (by rw [h0];rfl) ?_;wp_walk using AutoSeq1.wpAny_loadPart' hl;refine wpAny_ite_false (vp h3) ?_;wp_walk using AutoSeq1.wpAny_loadPart' hl;exact ⟨_,rfl,h⟩
section
variable {X:Cx}
theorem jbB (its:List Value) (k:Nat):List.foldl (λx1 x2=>x1++x2) #[] (List.replicate k its.toArray)=(List.replicate k its).flatten.toArray:=by
 have:=foldl_rep its k []
 rwa [List.nil_append] at this
theorem zc0:OpR X (binaryOp .Mult) (λx y H Q=>∃ a j vs,x=.ref a/\y=.int j/\H a=some (.tup vs)/\vs.length*j.toNat<=sizeLine/\-(2^63)<=j/\j<2^63 /\
  (j=1->Q (.ref a) H)/\(vs=[]->Q (.ref a) H)/\∀ p,H p=none->Q (.ref p) (upd H p (.tup (List.replicate j.toNat vs).flatten))):=by
 intro pins s σ H x y v u Q I rx ry ⟨a,j,vs,e1,e2,hH,hz,h1,h2,q1,q0,q⟩;subst e1;subst e2
 cases rx;obtain ⟨t,rfl⟩:=ry;obtain ⟨z,its,rv,o,ho,hc,_,n,hd⟩:=I.hok _ _ hH;obtain ⟨oc,od,odt,osl⟩:=o;simp only at hc hd;subst hc;subst hd
 have hl:vs.length=its.length:=rv.length
 have h0:(decide (j < -(2^63))||decide (j>=2^63))=false:=by
  rw [vp (by omega),vp (by omega)];rfl
 have hsz:its.toArray.size=its.length:=by simp
 refine wpAny_binaryOp_repeat_ref (T := "tuple") (U := "int") (by decide) ⟨_, ho, rfl⟩ (λs' => typeIs_int s' j t) ja0 F.fills_int_mul F.slot_int_rmul jbR F.slot_int_index.lookup
  (call_meets F.slot_int_rmul (typeIs_int s j t) F.entry_int_rmul (F.args_int_rmul_2 _ _) (zbe j t a its.toArray n od osl) ⟨ho,rfl,⟨_,ho,rfl⟩,?_⟩)
 by_cases c1:(its.toArray.isEmpty||j==1)=true
 ·refine call_meets F.slot_tuple_mul ⟨_,ho,rfl⟩ F.entry_tuple_mul (F.args_tuple_mul_2 _ _) (qbe a its.toArray n j t od osl h0 c1) ⟨ho,?_⟩;refine ⟨.ref a,H,I,rfl,?_⟩;rcases (Bool.or_eq_true _ _).mp c1 with c | c
  ·have:its=[]:=by simpa using c
   rw [this] at hl;exact q0 (List.length_eq_zero_iff.mp hl)
  ·exact q1 (by simpa using c)
 ·have c1':=Bool.eq_false_iff.mpr c1
  by_cases c2:(decide (j<=0)||its.toArray.isEmpty)=true
  ·refine call_meets F.slot_tuple_mul ⟨_,ho,rfl⟩ F.entry_tuple_mul (F.args_tuple_mul_2 _ _) (ybe a its.toArray n j t od osl h0 c1' c2) ⟨ho,?_⟩
   have ej:j.toNat=0:=by
    rw [(Bool.or_eq_false_iff.mp c1').1,Bool.or_false] at c2
    have:=vk c2
    omega
   have q':=q s.heap.objs.size I.fresh;rw [ej] at q';exact ⟨.ref s.heap.objs.size,_,I.laid (t':=s.toks) (o:=.tup []) (λb ob q=>wm _ q) (wF _) ⟨Nat.zero_le _,[],.nil,IsTupN.new _ _⟩,rfl,q'⟩
  ·have c2':=Bool.eq_false_iff.mpr c2
   have jp:0<j:=by
    have:=of_decide_eq_false (Bool.or_eq_false_iff.mp c2').1
    omega
   have hm:((its.toArray.size:Nat):Int)*j=((its.length*j.toNat:Nat):Int):=by
    rw [hsz,Int.natCast_mul,Int.toNat_of_nonneg (by omega)]
   have hz':its.length*j.toNat<=sizeLine:=by rw [<-hl];exact hz
   have h16:sizeLine=16777216:=sizeLine_eq;have hlen:(List.replicate j.toNat its).flatten.length=j.toNat*its.length:=len_rep its j.toNat
   refine call_meets F.slot_tuple_mul ⟨_, ho, rfl⟩ F.entry_tuple_mul (F.args_tuple_mul_2 _ _) (jbe a its.toArray n j t od osl h0 c1' c2' (by rw [hm]; omega) (by
    rw [hm];unfold Builtin.Tuple.tupleTooMany
    intro w;have:=vk w;omega) (by rw [jbB,vo,hlen,Nat.mul_comm];exact hz')) ⟨ho,?_⟩
   rw [jbB]
   exact ⟨.ref s.heap.objs.size,_,I.laid (t':=s.toks) (o:=.tup (List.replicate j.toNat vs).flatten) (λb ob q=>wm _ q) (wF _)
    ⟨by rw [len_rep,Nat.mul_comm];exact hz,_,rv.rep j.toNat,IsTupN.new _ _⟩,rfl,q _ I.fresh⟩
theorem qc0:OpR X (binaryOp .Add) (λx y H Q=>∃ a b vs ws,x=.ref a/\y=.ref b/\H a=some (.tup vs)/\H b=some (.tup ws)/\vs.length+ws.length<=sizeLine /\
  (vs=[]->Q (.ref b) H)/\(ws=[]->Q (.ref a) H)/\∀ p,H p=none->Q (.ref p) (upd H p (.tup (vs++ws)))):=by
 intro pins s σ H x y v u Q I rx ry ⟨a,b,vs,ws,e1,e2,h1,h2,hz,q0,q1,q⟩;subst e1;subst e2
 by_cases hv:vs=[]
 ·cases rx;cases ry;obtain ⟨its,rv,⟨o,ho,hc,n,hd⟩,_⟩:=I.tuple (SqT.of h1);obtain ⟨its2,rw',⟨o2,ho2,hc2,n2,hd2⟩,_⟩:=I.tuple (SqT.of h2);obtain ⟨oc,od,odt,osl⟩:=o;obtain ⟨oc2,od2,odt2,osl2⟩:=o2;simp only at hc hd hc2 hd2;subst hc;subst hd;subst hc2;subst hd2
  exact concat_meets ⟨_,ho,rfl⟩ ⟨_,ho2,rfl⟩ noFill_tuple_add seq_tuple_add PySem.F.slot_tuple_add PySem.F.entry_tuple_add (PySem.F.args_tuple_add_2 _ _)
   (tuple_addW0 a b its.toArray its2.toArray n n2 od od2 osl osl2 (by simpa using rv.nil_iff.mpr hv)) ⟨ho,ho2,⟨.ref b,H,I,rfl,q0 hv⟩⟩
 ·exact jcV pins s σ H _ _ v u Q I rx ry ⟨a,b,vs,ws,rfl,rfl,SqT.of h1,SqT.of h2,hv,hz,q1,λ_=>q⟩
theorem yc0 {i j:Int} (h:y0 i j=true):CMul i j:=by
 unfold y0 at h;rcases (Bool.or_eq_true _ _).mp h with h | h
 ·exact .inl ⟨vk (wj _ _▸h).1,vk (wj _ _▸h).2⟩
 ·exact .inr ⟨vk (wj _ _▸h).1,vk (wj _ _▸h).2⟩
theorem nofr {v:V} {H:Hp} {d:D} (h:∀ ds,d≠.lst ds):∀ ds,d=.lst ds->Fresh H v:=λds e=>absurd e (h ds)
theorem za1 {f:Int->Int->Option D} {x y d:D} (h:jcW f x y=some d):∃ i j,x=.int i/\y=.int j/\f i j=some d:=by
 unfold jcW at h;split at h
 ·exact ⟨_,_,rfl,rfl,h⟩
 ·cases h
theorem zb6 (op:Operator):OpR X (binaryOp op) (rD2 X.K (zax op)):=by
 intro pins s σ H x y v u Q I rx ry ⟨B,dx,dy,d,hb,r1,r2,e,q⟩;have qi:∀ k:Int,some (D.int k)=some d->Q (.int k) H:=λk z=>by cases z;exact q _ H (Same.refl H) (.int _) (nofr λ_ z=>nomatch z)
 unfold zax at e;split at e
 ·unfold jd2 at e;split at e
  ·cases r1;cases r2;exact ydp pins s σ H _ _ v u Q I rx ry ⟨_,_,rfl,rfl,qi _ e⟩
  ·split at e
   ·rename_i hc;cases r1;cases r2;cases e
    exact qbP pins s σ H _ _ v u Q I rx ry ⟨_,_,rfl,rfl,hc,q _ H (Same.refl H) (.str _) (nofr λ_ z=>nomatch z)⟩
   ·cases e
  ·split at e
   ·rename_i hc;cases e;obtain ⟨a,vs,rfl,ha,ra⟩:=r1.tupD;obtain ⟨b,ws,rfl,hb',rb⟩:=r2.tupD;refine qc0 pins s σ H _ _ v u Q I rx ry ⟨a,b,vs,ws,rfl,rfl,ha,hb',by rw [ra.length,rb.length];exact hc,λz=>?_,λz=>?_,λp hp=>q _ _ (je hp _) (.newT hp (ra.append rb)) (nofr λ_ z=>nomatch z)⟩
    ·subst z;cases ra;exact q _ H (Same.refl H) r2 (nofr λ_ z=>nomatch z)
    ·subst z;cases rb;rw [List.append_nil] at q;exact q _ H (Same.refl H) r1 (nofr λ_ z=>nomatch z)
   ·cases e
  ·split at e
   ·rename_i hc;cases e;obtain ⟨a,vs,rfl,na,ha,ra⟩:=r1.lstD;obtain ⟨b,ws,rfl,nb,hb',rb⟩:=r2.lstD;exact jdt pins s σ H _ _ v u Q I rx ry ⟨a,b,vs,ws,rfl,rfl,ha,hb',by rw [ra.length,rb.length];exact hc,λp hp=>q _ _ (je hp _) (.newL hb hp (ra.append rb)) λ_ _=>⟨p,rfl,hp⟩⟩
   ·cases e
  ·cases e
 ·replace e:=za1 e
  obtain ⟨i,j,rfl,rfl,e⟩:=e;cases r1;cases r2;exact jdp pins s σ H _ _ v u Q I rx ry ⟨_,_,rfl,rfl,qi _ e⟩
 ·unfold zd3 at e;split at e
  ·split at e
   ·rename_i hc;cases r1;cases r2;exact zdq pins s σ H _ _ v u Q I rx ry ⟨_,_,rfl,rfl,yc0 hc,qi _ e⟩
   ·cases e
  ·split at e
   ·rename_i hc;cases e;obtain ⟨a,vs,rfl,ha,ra⟩:=r1.tupD;cases r2;refine zc0 pins s σ H _ _ v u Q I rx ry ⟨a,_,vs,rfl,rfl,ha,by rw [ra.length];exact hc.1,hc.2.1,hc.2.2,λz=>?_,λz=>?_,λp hp=>q _ _ (je hp _) (.newT hp (ra.rep _)) (nofr λ_ z=>nomatch z)⟩
    ·subst z;refine q _ H (Same.refl H) ?_ (nofr λ_ z=>nomatch z);have e1:∀ ds,qcL (1:Int).toNat ds=ds:=λds=>by show (List.replicate 1 ds).flatten=ds;simp
     rw [e1];exact r1
    ·subst z;cases ra;refine q _ H (Same.refl H) ?_ (nofr λ_ z=>nomatch z);have e1:∀ k,qcL k ([]:List D)=[]:=λk=>by unfold qcL;simp
     rw [e1];exact r1
   ·cases e
  ·split at e
   ·rename_i hc;cases e;obtain ⟨a,vs,rfl,na,ha,ra⟩:=r1.lstD;cases r2;exact zdu pins s σ H _ _ v u Q I rx ry ⟨a,_,vs,rfl,rfl,ha,hc.2.1,hc.2.2,by rw [ra.length];exact hc.1,λp hp=>q _ _ (je hp _) (.newL hb hp (ra.rep _)) λ_ _=>⟨p,rfl,hp⟩⟩
   ·cases e
  ·cases e
 ·replace e:=za1 e
  obtain ⟨i,j,rfl,rfl,e⟩:=e;split at e
  ·rename_i hc;cases r1;cases r2;exact ycT pins s σ H _ _ v u Q I rx ry ⟨_,_,rfl,rfl,hc,qi _ e⟩
  ·cases e
 ·replace e:=za1 e
  obtain ⟨i,j,rfl,rfl,e⟩:=e;split at e
  ·rename_i hc;cases r1;cases r2;exact qdq pins s σ H _ _ v u Q I rx ry ⟨_,_,rfl,rfl,hc,qi _ e⟩
  ·cases e
 ·replace e:=za1 e
  obtain ⟨i,j,rfl,rfl,e⟩:=e;split at e
  ·rename_i hc;cases r1;cases r2;exact ydq pins s σ H _ _ v u Q I rx ry ⟨_,_,rfl,rfl,⟨hc.1,by omega,hc.2.2⟩,qi _ e⟩
  ·cases e
 ·cases e
end
def rE2 (K:Frag) (f:D->D->Option D):R2:=λx y H Q=>∃ B dx dy d,HB B H/\Rep K B H x dx/\Rep K B H y dy/\f dx dy=some d /\
 ∀ v H',Same H H'->Rep K B H' v d->Q v H'
section
variable {X:Cx}
theorem zdE (n:Nat) (i:Int):Eng.ixN n i=L2.ixN n i:=rfl
theorem Reps.atI {K:Frag} {B:Addr->Prop} {H:Hp} {vs:List V} {ds:List D} {i:Int} {d:D} (r:Reps K B H vs ds) (h:Eng.atI ds i=some d):∃ v,L2.atI vs i=some v/\Rep K B H v d:=by
 unfold Eng.atI at h;obtain ⟨j,e,h⟩:=wa h;obtain ⟨v,e2,rv⟩:=r.get h;refine ⟨v,?_,rv⟩;unfold L2.atI;rw [r.length,<-zdE,e];exact e2
theorem qdE:IxR X (rE2 X.K ycs):=by
 intro value slice pins s σ H x y v u Q I rx ry ⟨B,dx,dy,d,hb,r1,r2,e,q⟩ hs;cases dx with
 | tup xs =>
  cases dy with
  | int i =>
   obtain ⟨a,vs,rfl,ha,ra⟩:=r1.tupD;cases r2;obtain ⟨z,ez,rz⟩:=ra.atI e;exact zdt value slice pins s σ H _ _ v u Q I rx ry ⟨a,vs,i,z,rfl,rfl,SqT.of ha,ez,q z H (Same.refl H) rz⟩ hs
  | _=>cases e
 | lst xs =>
  cases dy with
  | int i =>
   obtain ⟨a,vs,rfl,na,ha,ra⟩:=r1.lstD;cases r2;obtain ⟨z,ez,rz⟩:=ra.atI e;exact ybo value slice pins s σ H _ _ v u Q I rx ry ⟨a,vs,i,z,rfl,rfl,SqL.of ha,ez,q z H (Same.refl H) rz⟩ hs
  | _=>cases e
 | scr ns =>
  cases dy with
  | int i =>
   obtain ⟨a,rfl,ha⟩:=r1.scrD;cases r2;obtain ⟨k,ek,rfl⟩:=wb e;have ra:Reps X.K B H (ns.map V.int) (ns.map D.int):=Reps.of_ints ns
   have ek':Eng.atI (ns.map D.int) i=some (.int k):=by
    unfold Eng.atI at ek ⊢;obtain ⟨j,ej,ek⟩:=wa ek;rw [wG,ej];show (ns.map D.int)[j]?=_;rw [wz,ek];rfl
   obtain ⟨z,ez,rz⟩:=ra.atI ek';exact ybo value slice pins s σ H _ _ v u Q I rx ry ⟨a,_,i,z,rfl,rfl,ha.sq,ez,q z H (Same.refl H) rz⟩ hs
  | _=>cases e
 | str z =>
  cases dy with
  | int i =>
   have e:(if z.length<=sizeLine then (Eng.atI z.cps.toList i).map λc=>D.str ⟨#[c]⟩ else none)=some d:=e;split at e
   ·rename_i hz;obtain ⟨c,ec,rfl⟩:=wb e;cases r1;cases r2;exact qdt value slice pins s σ H _ _ v u Q I rx ry ⟨z,i,c,rfl,rfl,hz,ec,q _ H (Same.refl H) (.str _)⟩ hs
   ·cases e
  | _=>cases e
 | _=>cases e
variable {C:Tab} {a b:Expr} {ca cb:Code} {pos:Pos}
theorem ydE (ha:SE X C a ca) (hb:SE X C b cb) (hs:qbo b):SE X C (.Subscript a b pos) (.idx ca cb):=λB ρ d e=>by
 obtain ⟨dx,ex,e⟩:=wa (show (ev C ca ρ).bind _=some d from e);obtain ⟨dy,ey,e⟩:=wa e
 exact (jds qdE (ha B ρ dx ex) (hb B ρ dy ey) hs).imp λσ H Q ⟨h1,h2,q⟩ =>
  ⟨h1,h2,λx H1 s1 r1=>⟨h1.same s1,h2.same s1,λy H2 s2 r2=>⟨B,dx,dy,d,(h1.same s1).same s2,r1.same s2,r2,e,λv H' s3 r3=>q v H' ((s1.trans s2).trans s3) r3⟩⟩⟩
theorem Reps.one {K:Frag} {B:Addr->Prop} {H:Hp} {vs:List V} {d:D} (r:Reps K B H vs [d]):∃ v,vs=[v]/\Rep K B H v d:=by
 cases r with | cons a r=>cases r;exact ⟨_,rfl,a⟩
theorem Rep.items {K:Frag} {B:Addr->Prop} {H:Hp} {v:V} {d:D} {ds:List D} (r:Rep K B H v d) (h:itemsD d=some ds):∃ a vs,v=.ref a/\(SqL K H a vs\/SqT K H a vs)/\Reps K B H vs ds:=by
 cases r with
 | tup e rs=>cases h;exact ⟨_,_,rfl,.inr (SqT.of e),rs⟩
 | lst n e rs=>cases h;exact ⟨_,_,rfl,.inl (SqL.of e),rs⟩
 | scr hs=>cases h;exact ⟨_,_,rfl,.inl hs.sq,Reps.of_ints _⟩
 | _=>cases h
theorem qb6:jJ X (.builtin "len") (rDs X.K (yJ .len)):=by
 intro pins s σ H xs us Q I rv ⟨B,dx,d,hb,r,e,q⟩;cases dx with
 | nil=>cases e
 | cons x r' =>
  cases r' with
  | nil =>
   obtain ⟨v,rfl,rx⟩:=r.one
   have go:∀ ds,itemsD x=some ds->d=.int ds.length->wpAny (model X.prog X.w) X.A (call (.builtin "len") us) (EP X pins σ Q) X.xe s:=λds hi hd=>by
    obtain ⟨a,vs,rfl,hs,ra⟩:=rx.items hi;subst hd;refine ybb pins s σ H _ us Q I rv ⟨a,vs,rfl,hs,?_⟩;rw [ra.length];exact q _ H (Same.refl H) (.int _) (nofr λ_ z=>nomatch z)
   cases x with
   | str z =>
    simp only [yJ,qd3] at e;split at e
    ·rename_i hz;cases e;cases rx;exact jbb pins s σ H _ us Q I rv ⟨z,rfl,hz,q _ H (Same.refl H) (.int _) (nofr λ_ z=>nomatch z)⟩
    ·cases e
   | tup ds=>exact go ds rfl (by cases e;rfl)
   | lst ds=>exact go ds rfl (by cases e;rfl)
   | scr ns=>exact go (ns.map D.int) rfl (by cases e;rfl)
   | _=>cases e
  | cons _ _=>cases x<;>cases e
theorem zaS:jJ X (.type "list") (rDs X.K (yJ .list)):=by
 intro pins s σ H xs us Q I rv ⟨B,dx,d,hb,r,e,q⟩;cases dx with
 | nil=>cases e
 | cons x r' =>
  cases r' with
  | nil =>
   obtain ⟨v,rfl,rx⟩:=r.one
   have go:∀ ds,itemsD x=some ds->d=.lst ds->wpAny (model X.prog X.w) X.A (call (.type "list") us) (EP X pins σ Q) X.xe s:=λds hi hd=>by
    obtain ⟨a,vs,rfl,hs,ra⟩:=rx.items hi;subst hd;exact zbc pins s σ H _ us Q I rv ⟨a,vs,rfl,hs,λl hl=>q _ _ (je hl _) (.newL hb hl ra) λ_ _=>⟨l,rfl,hl⟩⟩
   cases x with
   | tup ds=>exact go ds rfl (by cases e;rfl)
   | lst ds=>exact go ds rfl (by cases e;rfl)
   | _=>cases e
  | cons _ _=>cases x<;>cases e
theorem ybp:jJ X (.type "tuple") (rDs X.K (yJ .tuple)):=by
 intro pins s σ H xs us Q I rv ⟨B,dx,d,hb,r,e,q⟩;cases dx with
 | nil=>cases e
 | cons x r' =>
  cases r' with
  | nil =>
   obtain ⟨v,rfl,rx⟩:=r.one;cases x with
   | tup ds =>
    cases e;obtain ⟨a,vs,rfl,ha,ra⟩:=rx.tupD;exact qal pins s σ H _ us Q I rv ⟨a,vs,rfl,.inr ⟨SqT.of ha,q _ H (Same.refl H) rx (nofr λ_ z=>nomatch z)⟩⟩
   | lst ds =>
    cases e;obtain ⟨a,vs,rfl,na,ha,ra⟩:=rx.lstD;exact qal pins s σ H _ us Q I rv ⟨a,vs,rfl,.inl ⟨SqL.of ha,λl hl=>q _ _ (je hl _) (.newT hl ra) (nofr λ_ z=>nomatch z)⟩⟩
   | _=>cases e
  | cons _ _=>cases x<;>cases e
theorem yb6:jJ X (.type "int") (rDs X.K (yJ .int)):=by
 intro pins s σ H xs us Q I rv ⟨B,dx,d,hb,r,e,q⟩;cases dx with
 | nil=>cases e
 | cons x r' =>
  cases r' with
  | nil =>
   obtain ⟨v,rfl,rx⟩:=r.one;cases x with
   | int i =>
    cases e;cases rx;exact jaB pins s σ H _ us Q I rv (.inl ⟨i,rfl,q _ H (Same.refl H) (.int _) (nofr λ_ z=>nomatch z)⟩)
   | bl k =>
    cases e;cases rx;refine jaB pins s σ H _ us Q I rv (.inr ⟨k,rfl,?_⟩)
    have:=q _ H (Same.refl H) (.int (if k=true then 1 else 0)) (nofr λ_ z=>nomatch z)
    cases k<;>exact this
   | _=>cases e
  | cons _ _=>cases x<;>cases e
theorem log2_small {n:Nat} (h:n<2^64):n.log2<1920:=by
 by_cases h0:n=0
 ·subst h0;decide
 ·have:=(Nat.log2_lt h0).mpr h;omega
theorem jb6:jJ X (.type "str") (rDs X.K (yJ .str)):=by
 intro pins s σ H xs us Q I rv ⟨B,dx,d,hb,r,e,q⟩;cases dx with
 | nil=>cases e
 | cons x r' =>
  cases r' with
  | nil =>
   obtain ⟨v,rfl,rx⟩:=r.one;cases x with
   | int i =>
    simp only [yJ,yei] at e;split at e
    ·rename_i hi;cases e;cases rx;exact zba pins s σ H _ us Q I rv ⟨i,rfl,log2_small hi,q _ H (Same.refl H) (.str _) (nofr λ_ z=>nomatch z)⟩
    ·cases e
   | _=>cases e
  | cons _ _=>cases x<;>cases e
theorem zb7:∀ {ts:List Str} {us:List Value},Vals (ts.map V.str) us->StrsAre us ts
 | [],_,r=>by cases r;exact .nil
 | t::ts,_,r=>by
  cases r with
  | cons a b =>
   obtain ⟨k,rfl⟩:=a;exact .cons t k (zb7 b)
theorem jc0:MtR X "str.join" (λx xs H Q=>∃ sep l ts,x=.str sep/\xs=[.ref l]/\H l=some (.lst (ts.map V.str))/\(ts.map (·.length)).sum+ts.length*sep.length<=sizeLine/\Q (.str (Str.join sep ts)) H):=by
 intro pins s σ H x xs v us Q I rx rv ⟨sep,l,ts,e1,e2,hl,hz,q⟩;subst e1;subst e2
 obtain ⟨t,rfl⟩:=rx;obtain ⟨u,rfl,ru⟩:=rv.one;cases ru;obtain ⟨_,its,n,r,e⟩:=I.hok _ _ hl;refine join_list (items:=its.toArray) (ys:=ts) ⟨_,e,rfl,n,rfl⟩ (by simpa using zb7 r) (by have:=sizeLine_eq;omega) λt' k=>?_
 have ej:Txt.join sep ts=Str.join sep ts:=StrLaws.glued_eq_join sep ts;rw [ej];exact ⟨.str _,H,I.tok k,⟨t',rfl⟩,q⟩
theorem zc1 {apos cpos:Pos} (ha:SE X C a ca) (hb:SE X C b cb) (hbase:attributeBase a "join" X.env (eval a X.env)=eval a X.env) (hline:(apos.endLine==cpos.line)=true) (hsb:starEach [b] X.env=[(false,eval b X.env)]) :
  SE X C (.Call (.Attribute a "join" apos) [b] [] cpos) (.blt .join (.cons ca (.cons cb .nil))):=λB ρ d e=>by
 obtain ⟨dxs,exs',e⟩:=wa (show (evs C (.cons ca (.cons cb .nil)) ρ).bind _=some d from e);obtain ⟨dx,ex,e1⟩:=wa (show (ev C ca ρ).bind _=some dxs from exs');obtain ⟨dr,er,rfl⟩:=wb e1;obtain ⟨dy,ey,e2⟩:=wa (show (ev C cb ρ).bind _=some dr from er);obtain ⟨dn,en,rfl⟩:=wb e2;cases en;cases dx with
 | str sep =>
  cases dy with
  | lst xs =>
   obtain ⟨ts,et,e⟩:=wa (show (strsOf xs).bind _=some d from e);split at e
   ·rename_i hz;cases e;have hpa:PA X [b] (tDs X.K B ρ [.lst xs]):=yA hb jO hsb B ρ _ (by rw [evs,ey];rfl);refine (qbc F.plainAttrs_str F.slot_str_join F.type_str_join jc0 (ha B ρ _ ex) hpa hbase (by rw [hsb];rfl) hline hsb (by rfl)).imp λσ H Q ⟨h1,h2,q⟩=>?_
    refine ⟨h1,h2,λx H1 s1 r1=>?_⟩;cases r1;refine ⟨rfl,h1.same s1,h2.same s1,λvs H2 s2 r2=>?_⟩;obtain ⟨v,rfl,rv⟩:=r2.one;obtain ⟨l,ws,rfl,nl,hl,rl⟩:=rv.lstD;exact ⟨sep,l,ts,rfl,rfl,by rw [hl,rl.strs et],hz,q _ H2 (s1.trans s2) (.str _)⟩
   ·cases e
  | _=>cases e
 | _=>cases e
theorem qa1 {x:Str} {id:String} {bb:Blt} {p:Pos} {es:List Expr} {cs:Codes} (hc:jJ X (.builtin id) (rDs X.K (yJ bb))) (hg:Gl X x) (hm:X.mg x=none) (hv:bootBuiltins x=some (.builtin id)) (ha:SA X C (a::es) cs) (hn:x≠"__name__") (hdb:(x==("__debug__":Str))=false)
  (he:starEach (a::es) X.env=(false,eval a X.env)::starEach es X.env) (hpl:(backTo pos (starEach es X.env)).any (·.1)=false):SE X C (.Call (.Name x p) (a::es) [] pos) (.blt bb cs):=λB ρ d e=>by
 obtain ⟨ds,eds,e⟩:=wa (show (evs C cs ρ).bind _=some d from e);exact (jae hc hg hm hv (ha B ρ ds eds) hn hdb he hpl).imp λσ H Q ⟨h1,h2,q⟩=>⟨h1,h2,λvs H1 s1 r1=>⟨B,ds,d,h1.same s1,r1,e,λv H' s2 r2 _=>q v H' (s1.trans s2) r2⟩⟩
theorem jaz {x:Str} {T:String} {bb:Blt} {p:Pos} {es:List Expr} {cs:Codes} (hc:jJ X (.type T) (rDs X.K (yJ bb))) (hg:Gl X x) (hm:X.mg x=none) (hv:bootBuiltins x=some (.type T)) (ha:SA X C (a::es) cs) (hn:x≠"__name__") (hdb:(x==("__debug__":Str))=false)
  (he:starEach (a::es) X.env=(false,eval a X.env)::starEach es X.env) (hpl:(backTo pos (starEach es X.env)).any (·.1)=false):SE X C (.Call (.Name x p) (a::es) [] pos) (.blt bb cs):=λB ρ d e=>by
 obtain ⟨ds,eds,e⟩:=wa (show (evs C cs ρ).bind _=some d from e);exact (yL hc hg hm hv (ha B ρ ds eds) hn hdb he hpl).imp λσ H Q ⟨h1,h2,q⟩=>⟨h1,h2,λvs H1 s1 r1=>⟨B,ds,d,h1.same s1,r1,e,λv H' s2 r2 _=>q v H' (s1.trans s2) r2⟩⟩
theorem ycx {x:Str} {T:String} {bb:Blt} {p:Pos} {es:List Expr} {cs:Codes} (hc:jJ X (.type T) (rDs X.K (yJ bb))) (hg:Gl X x) (hm:X.mg x=none) (hv:bootBuiltins x=some (.type T)) (ha:SA X C (a::es) cs) (hn:x≠"__name__") (hdb:(x==("__debug__":Str))=false)
  (he:starEach (a::es) X.env=(false,eval a X.env)::starEach es X.env) (hpl:(backTo pos (starEach es X.env)).any (·.1)=false):SF X C (.Call (.Name x p) (a::es) [] pos) (.blt bb cs):=λB ρ ds' e=>by
 obtain ⟨ds,eds,e⟩:=wa (show (evs C cs ρ).bind (λxs=>yJ bb xs)=some (D.lst ds') from e);exact (yL hc hg hm hv (ha B ρ ds eds) hn hdb he hpl).imp λσ H Q ⟨h1,h2,q⟩=>⟨h1,h2,λvs H1 s1 r1=>⟨B,ds,_,h1.same s1,r1,e,λv H' s2 r2 f=>q v H' (s1.trans s2) r2 ((f _ rfl).back s1)⟩⟩
end
noncomputable def ya1:List Nat->List V->L2.St->L2.St
 | i::is,v::vs,σ=>ya1 is vs (σ.set i (some v))
 | _,_,σ=>σ
def gT (t:Tgt):TG:=λv σ H Q=>match t with
 | .one i=>Q (σ.set i (some v)) H
 | .many is=>∃ a vs,v=.ref a/\H a=some (.tup vs)/\vs.length=is.length/\Q (ya1 is vs σ) H
theorem yab:∀ (is:List Nat) (vs:List V) (σ:L2.St),(ya1 is vs σ).length=σ.length
 | [],_,_=>by cases ‹List V›<;>rfl
 | _::_,[],_=>rfl
 | i::is,v::vs,σ=>by rw [ya1,yab is vs];simp
section
variable {K:Frag} {B:Addr->Prop} {H:Hp}
theorem ER.set {σ:L2.St} {ρ:En} {i:Nat} {v:V} {d:D} (h:ER K B H σ ρ) (hi:i<σ.length) (r:Rep K B H v d):ER K B H (σ.set i (some v)) (ρ.set i (some d)):=λj d' e=>by
 by_cases hj:j=i
 ·subst hj
  have hl:j<ρ.length:=by
   have:=(wu.mp e).1
   simpa using this
  rw [vt hl] at e;cases e;exact ⟨v,vt hi,r⟩
 ·rw [wH (Ne.symm hj)] at e ⊢;exact h j d' e
theorem ER.setM:∀ {is:List Nat} {vs:List V} {ds:List D} {σ:L2.St} {ρ:En},ER K B H σ ρ->(∀ i∈is,i<σ.length)->Reps K B H vs ds->ER K B H (ya1 is vs σ) (setM is ds ρ)
 | [],_,_,_,_,h,_,r=>by cases r<;>exact h
 | _::_,_,_,_,_,h,_,.nil=>h
 | i::is,_,_,σ,ρ,h,hi,.cons a r=>by
  rw [ya1,Eng.setM];exact ER.setM (h.set (hi i (by simp)) a) (λj hj=>by simpa using hi j (by simp [hj])) r
theorem ER.tgt {t : Tgt} {σ : L2.St} {ρ ρ' : En} {v : V} {d : D} {Q : L2.St -> Hp -> Prop} (h : ER K B H σ ρ) (ht : zaa t d ρ = some ρ') (hi : ∀ i ∈ (match t with | .one i => [i] | .many is => is), i < σ.length) (r : Rep K B H v d)
  (q:∀ σ',ER K B H σ' ρ'->σ'.length=σ.length->Q σ' H):gT t v σ H Q:=by
 cases t with
 | one i =>
  cases ht;exact q _ (h.set (hi i (by simp)) r) (by simp)
 | many is =>
  cases d with
  | tup ds =>
   simp only [zaa] at ht;split at ht
   ·rename_i hl;cases ht;obtain ⟨a,vs,rfl,ha,ra⟩:=r.tupD;exact ⟨a,vs,rfl,ha,by rw [ra.length];exact hl,q _ (h.setM hi ra) (yab _ _ _)⟩
   ·cases ht
  | _=>cases ht
end
section
variable {X:Cx} {pos:Pos}
theorem jdE {i:Nat} {x:Str} (hN:X.N.Nodup) (hi:X.N[i]?=some x) (hx:Loc X.env.scope x) (hf:X.fn x=true\/X.env.scope.names.lookup x=some .local):PG X (.Name x pos) (gT (.one i)):=zbY hN hi hx hf
def gMs (is:List Nat):TGs:=λvs σ H Q=>vs.length=is.length/\Q (ya1 is vs σ) H
theorem zbf (hN:X.N.Nodup):∀ (es:List Expr) (is:List Nat),(∀ e∈es.zip is,∃ x p,e.1=.Name x p/\X.N[e.2]?=some x/\Loc X.env.scope x/\(X.fn x=true\/X.env.scope.names.lookup x=some .local))->es.length=is.length->PGs X es (gMs is)
 | [],[],_,_=>λpins s σ H vs us Q I r h=>by
  obtain ⟨hl,h⟩:=h;exact qcT pins s σ H vs us Q I r ⟨List.length_eq_zero_iff.mp hl,by cases vs with | nil=>exact h | cons _ _=>exact h⟩
 | [],_::_,_,hl=>by cases hl
 | _::_,[],_,hl=>by cases hl
 | e::es,i::is,h,hl=>λpins s σ H vs us Q I r hq=>by
  obtain ⟨x,p,e1,h1,h2,h3⟩:=h (e,i) (by simp);have e1:e=.Name x p:=e1;subst e1;obtain ⟨hvl,hq⟩:=hq;cases vs with
  | nil=>cases hvl
  | cons v vs =>
   have ih:=zbf hN es is (λe he=>h e (by simp [he])) (by simpa using hl);exact ycq (zbY hN h1 h2 h3) ih rfl pins s σ H (v::vs) us Q I r ⟨v,vs,rfl,by simpa using hvl,hq⟩
theorem qbf:∀ (es:List Expr) (env:Env),(∀ e∈es,∃ x p,e=Expr.Name x p)->(assignEach es env).findIdx? (·.1)=none/\(assignEach es env).length=es.length
 | [],_,_=>⟨rfl,rfl⟩
 | e::es,env,h=>by
  obtain ⟨x,p,rfl⟩:=h e (by simp);obtain ⟨h1,h2⟩:=qbf es env λe he=>h e (by simp [he])
  constructor
  ·show List.findIdx? _ ((false,assign (.Name x p) env)::assignEach es env)=none;rw [List.findIdx?_cons];simp only [wq,if_false];rw [h1];rfl
  ·show (_::assignEach es env).length=_;simp [h2]
theorem qc1 {es:List Expr} {is:List Nat} {k:Nat} (hc:X.calm=true) (hN:X.N.Nodup) (h:∀ e∈es.zip is,∃ x p,e.1=.Name x p/\X.N[e.2]?=some x/\Loc X.env.scope x/\(X.fn x=true\/X.env.scope.names.lookup x=some .local)) (hl:es.length=is.length) :
  PG X (.Tuple es k pos) (gT (.many is)):=by
 have hn:∀ e∈es,∃ x p,e=Expr.Name x p:=λe he=>by
  obtain ⟨i,hi,rfl⟩:=List.mem_iff_getElem.mp he;obtain ⟨x,p,e1,_⟩:=h (es[i],is[i]'(by omega)) (List.mem_iff_getElem.mpr ⟨i,by simp;omega,by simp⟩);exact ⟨x,p,e1⟩
 obtain ⟨h1,h2⟩:=qbf es X.env hn;intro pins s σ H v u Q I r ⟨a,vs,e,ha,hvl,q⟩;exact qdo (n:=es.length) hc (zbf hN es is h hl) h2 h1 pins s σ H v u Q I r ⟨a,vs,e,SqT.of ha,by omega,hvl,q⟩
end
noncomputable def qav (cells:List (Str×Addr)):List (Str×NameKind)->List (Str×Addr)->List (Str×Addr)
 | [],cs=>cs
 | (n,k)::r,cs=>if k==.free then qav cells r ((n,(cells.lookup n).getD 0)::cs) else qav cells r cs
theorem jaq (env:Env):∀ (names:List (Str×NameKind)) (cs:List (Str×Addr)),(∀ x∈names,x.2=.free->(env.cells.lookup x.1).isSome=true) ->
  (forIn names cs λ(x:Str×NameKind) (cs:List (Str×Addr))=>if (x.2==NameKind.free)=true then do let a <-cellOf env x.1;pure (ForInStep.yield ((x.1,a)::cs)) else pure (ForInStep.yield cs))=(pure (qav env.cells names cs):Sem (List (Str×Addr)))
 | [],_,_=>rfl
 | (n,k)::r,cs,h=>by
  rw [List.forIn_cons]
  by_cases hk:(k==NameKind.free)=true
  ·have hs:=h (n,k) (by simp) (by simpa using hk);obtain ⟨c,hc⟩:=vc.mp hs;have e:cellOf env n=pure c:=by unfold cellOf;rw [show env.cells.lookup n=some c from hc]
   simp only [hk,if_true,e,qav,hc,Option.getD_some];exact jaq env r _ λx hx=>h x (by simp [hx])
  ·simp only [hk,if_false,qav];exact jaq env r _ λx hx=>h x (by simp [hx])
theorem qaS {scope:Scope} {env:Env} (h:∀ x∈scope.names,x.2=.free->(env.cells.lookup x.1).isSome=true):closureFor scope env=pure (qav env.cells scope.names []):=by
 exact congrArg (λm:Sem (List (Str×Addr))=>m >>= λcs=>pure cs) (jaq env scope.names [] h)
theorem zam (cells:List (Str×Addr)):∀ (names:List (Str×NameKind)) (cs:List (Str×Addr)),(∀ x∈names,x.2=.free->(cells.lookup x.1).isSome=true)->(∀ x c,cs.lookup x=some c->cells.lookup x=some c)->∀ x c,(qav cells names cs).lookup x=some c->cells.lookup x=some c
 | [],_,_,h,x,c,e=>h x c e
 | (n,k)::r,cs,hs,h,x,c,e=>by
  by_cases hk:(k==NameKind.free)=true
  ·simp only [qav,hk,if_true] at e;refine zam cells r _ (λy hy=>hs y (by simp [hy])) (λy d q=>?_) x c e;rw [List.lookup_cons] at q;split at q
   ·rename_i hy;have hy:y=n:=by simpa using hy
    obtain ⟨c',hc⟩:=vc.mp (hs (n,k) (by simp) (by simpa using hk));rw [hc] at q;cases q;rw [hy];exact hc
   ·exact h y d q
  ·simp only [qav,hk,if_false] at e;exact zam cells r cs (λy hy=>hs y (by simp [hy])) h x c e
theorem zaA (cells:List (Str×Addr)):∀ (names:List (Str×NameKind)) (cs:List (Str×Addr)) (x:Str),((x,NameKind.free)∈names\/(cs.lookup x).isSome=true)->((qav cells names cs).lookup x).isSome=true
 | [],_,_,h=>h.elim (λz=>by simp at z) id
 | (n,k)::r,cs,x,h=>by
  by_cases hk:(k==NameKind.free)=true
  ·simp only [qav,hk,if_true];refine zaA cells r _ x ?_
   by_cases hx:x=n
   ·right;rw [hx,List.lookup_cons];simp
   ·rcases h with h | h
    ·rcases wy.mp h with z | z
     ·exact absurd (congrArg Prod.fst z) hx
     ·exact .inl z
    ·right
     have hb:(x==n)=false:=by simpa using hx
     rw [List.lookup_cons,hb];exact h
  ·simp only [qav,hk,if_false];refine zaA cells r _ x ?_;rcases h with h | h
   ·rcases wy.mp h with z | z
    ·have:k=.free:=(congrArg Prod.snd z).symm;rw [this] at hk;exact absurd rfl hk
    ·exact .inl z
   ·exact .inr h
noncomputable def cOn:Nat->List (Str×NameKind)->List (Str×Addr)->List (Str×Addr)
 | _,[],cs=>cs
 | n,(x,k)::r,cs=>if k==.cell then cOn (n+1) r ((x,n)::cs) else cOn n r cs
theorem zaF:∀ (names:List (Str×NameKind)) (n:Nat) (cs:List (Str×Addr)) (x:Str) (c:Addr),(cOn n names cs).lookup x=some c->cs.lookup x=some c\/(n<=c/\(x,NameKind.cell)∈names)
 | [],_,_,_,_,h=>.inl h
 | (y,k)::r,n,cs,x,c,h=>by
  by_cases hk:(k==NameKind.cell)=true
  ·simp only [cOn,hk,if_true] at h;have ek:k=.cell:=by simpa using hk
   rcases zaF r (n+1) _ x c h with q | ⟨q,m⟩
   ·rw [List.lookup_cons] at q;split at q
    ·rename_i hx;have hx:x=y:=by simpa using hx
     cases q;exact .inr ⟨wF _,by rw [hx,ek];exact wR⟩
    ·exact .inl q
   ·exact .inr ⟨Nat.le_of_succ_le q,wK _ m⟩
  ·simp only [cOn,hk,if_false] at h;rcases zaF r n cs x c h with q | ⟨q,m⟩
   ·exact .inl q
   ·exact .inr ⟨q,wK _ m⟩
theorem ja1:∀ (names:List (Str×NameKind)) (n:Nat) (cs:List (Str×Addr)) (x:Str),((x,NameKind.cell)∈names\/(cs.lookup x).isSome=true)->((cOn n names cs).lookup x).isSome=true
 | [],_,_,_,h=>h.elim (λz=>by cases z) id
 | (y,k)::r,n,cs,x,h=>by
  by_cases hk:(k==NameKind.cell)=true
  ·simp only [cOn,hk,if_true];refine ja1 r (n+1) _ x ?_
   by_cases hx:x=y
   ·right;rw [hx,List.lookup_cons];simp
   ·rcases h with h | h
    ·rcases wy.mp h with z | z
     ·exact absurd (congrArg Prod.fst z) hx
     ·exact .inl z
    ·right
     have hb:(x==y)=false:=by simpa using hx
     rw [List.lookup_cons,hb];exact h
  ·simp only [cOn,hk,if_false];refine ja1 r n cs x (h.imp (λh=>?_) id);rcases wy.mp h with z | z
   ·have:k=.cell:=(congrArg Prod.snd z).symm;rw [this] at hk;exact absurd rfl hk
   ·exact z
theorem jbp:∀ (names:List (Str×NameKind)) (n:Nat) (cs:List (Str×Addr)) (x:Str) (c:Addr),(x,NameKind.cell)∈names->(cOn n names cs).lookup x=some c->n<=c
 | [],_,_,_,_,m,_=>by cases m
 | (y,k)::r,n,cs,x,c,m,h=>by
  by_cases hk:(k==NameKind.cell)=true
  ·simp only [cOn,hk,if_true] at h;rcases wy.mp m with z | z
   ·rcases zaF r (n+1) _ x c h with q | ⟨q,_⟩
    ·have hx:x=y:=congrArg Prod.fst z;rw [hx,List.lookup_cons] at q;simp at q;exact Nat.le_of_eq q
    ·exact Nat.le_of_succ_le q
   ·exact Nat.le_of_succ_le (jbp r (n+1) _ x c z h)
  ·simp only [cOn,hk,if_false] at h;rcases wy.mp m with z | z
   ·have:k=.cell:=(congrArg Prod.snd z).symm;rw [this] at hk;exact absurd rfl hk
   ·exact jbp r n cs x c z h
theorem zbq:∀ (names:List (Str×NameKind)) (n:Nat) (cs:List (Str×Addr)),(∀ x y c,cs.lookup x=some c->cs.lookup y=some c->x=y)->(∀ x c,cs.lookup x=some c->c<n)->∀ x y c,(cOn n names cs).lookup x=some c->(cOn n names cs).lookup y=some c->x=y
 | [],_,_,hi,_,x,y,c,h1,h2=>hi x y c h1 h2
 | (z,k)::r,n,cs,hi,hl,x,y,c,h1,h2=>by
  by_cases hk:(k==NameKind.cell)=true
  ·simp only [cOn,hk,if_true] at h1 h2
   have at':∀ x c,((z,n)::cs).lookup x=some c->(x=z/\c=n)\/(x≠z/\cs.lookup x=some c):=λx c q=>by
    rw [List.lookup_cons] at q;split at q
    ·rename_i hx;cases q;exact .inl ⟨by simpa using hx,rfl⟩
    ·rename_i hx;exact .inr ⟨by simpa using hx,q⟩
   refine zbq r (n+1) ((z,n)::cs) (λa b e q1 q2=>?_) (λa e q=>?_) x y c h1 h2
   ·rcases at' a e q1 with ⟨a1,a2⟩ | ⟨a1,a2⟩<;>rcases at' b e q2 with ⟨b1,b2⟩ | ⟨b1,b2⟩
    ·rw [a1,b1]
    ·exact absurd (hl b e b2) (by rw [a2];exact Nat.lt_irrefl _)
    ·exact absurd (hl a e a2) (by rw [b2];exact Nat.lt_irrefl _)
    ·exact hi a b e a2 b2
   ·rcases at' a e q with ⟨_,a2⟩ | ⟨_,a2⟩
    ·rw [a2];exact Nat.lt_succ_self _
    ·exact Nat.lt_succ_of_lt (hl a e a2)
  ·simp only [cOn,hk,if_false] at h1 h2;exact zbq r n cs hi hl x y c h1 h2
theorem qaF {M:Model} {A:Around} {E:Value->Shared->Prop}:∀ (names:List (Str×NameKind)) (cs:List (Str×Addr)) (s:Shared) (Q:List (Str×Addr)->Shared->Prop),
  (∀ h':Heap,(∀ b o,s.heap.get? b=some o->h'.get? b=some o)->(∀ x c,(cOn s.heap.objs.size names cs).lookup x=some c->cs.lookup x=some c\/(s.heap.objs.size<=c/\h'.IsCell c none))->Q (cOn s.heap.objs.size names cs) { s with heap:=h' }) ->
  wpAny M A (forIn names cs λ(x:Str×NameKind) (cs:List (Str×Addr))=>match x with
   | (name,kind)=>if (kind==NameKind.cell)=true then do let a <-alloc { cls:=.type "cell",data:=.cell none };pure (ForInStep.yield ((name,a)::cs)) else pure (ForInStep.yield cs)) Q E s
 | [],cs,s,Q,h=>wo (h s.heap (λ_ _ e=>e) λ_ _ e=>.inl e)
 | (y,k)::r,cs,s,Q,h=>by
  rw [List.forIn_cons]
  by_cases hk:(k==NameKind.cell)=true
  ·simp only [hk,if_true];refine wg (wg (wpAny_alloc (wo ?_)));refine qaF r _ { s with heap:=s.heap.push { cls:=.type "cell",data:=.cell none } } Q λh' kp hc=>?_
   have hsz:(s.heap.push { cls:=.type "cell",data:=.cell none }).objs.size=s.heap.objs.size+1:=Heap.size_push ..;simp only [hsz] at hc ⊢;have e1:cOn s.heap.objs.size ((y,k)::r) cs=cOn (s.heap.objs.size+1) r ((y,s.heap.objs.size)::cs):=by simp only [cOn,hk,if_true]
   have:=h h' (λb o e=>kp b o (wm _ e)) λx c q=>by
    rw [e1] at q;rcases hc x c q with z | ⟨z1,z2⟩
    ·rw [List.lookup_cons] at z;split at z
     ·cases z;exact .inr ⟨wF _,_,kp _ _ (wx _ rfl),rfl⟩
     ·exact .inl z
    ·exact .inr ⟨Nat.le_of_succ_le z1,z2⟩
   rw [e1] at this;exact this
  ·simp only [hk,if_false];refine wg (wo ?_);have e1:cOn s.heap.objs.size ((y,k)::r) cs=cOn s.heap.objs.size r cs:=by rw [cOn,if_neg hk]
   rw [e1] at h;exact qaF r cs s Q h
theorem qbq {M:Model} {A:Around} {E:Value->Shared->Prop} {s:Shared} {scope:Scope} {globals:Addr} {cl:List (Str×Addr)} {qual:Str} {env:Env} {Q:Env->Shared->Prop}
  (h:∀ (h':Heap) (m:Str->Option Value),h'.Ns s.heap.objs.size m->(∀ b o,s.heap.get? b=some o->h'.get? b=some o)->(∀ x c,(cOn (s.heap.objs.size+1) scope.names cl).lookup x=some c->cl.lookup x=some c\/(s.heap.objs.size+1<=c/\h'.IsCell c none)) ->
   Q (newEnv scope s.heap.objs.size globals (cOn (s.heap.objs.size+1) scope.names cl) qual none .none (some env) builtinsNs) { s with heap:=h' }) :
  wpAny M A (newFunctionEnv scope globals cl [] qual none .none (some env)) Q E s:=by
 unfold newFunctionEnv;refine wg (wpAny_alloc ?_);refine wg (qaF scope.names cl _ _ λh' kp hc=>?_);have hsz:(s.heap.push { cls:=.type (if (some env).isSome=true then "dict" else "frame"),data:=.dict #[] }).objs.size=s.heap.objs.size+1:=Heap.size_push ..;simp only [hsz] at hc ⊢;refine wg (wo (wo ?_));exact h h' (λx=>nsFind #[] x) ⟨_,#[],0,kp _ _ (wx _ rfl),rfl,by simp [StrKeys],λ_=>rfl⟩ (λb o e=>kp b o (wm _ e)) hc
noncomputable def blk (X:Cx) (N':List Str) (scope:Scope) (s₀:Shared) (H₀:Hp) (fp:List Addr):Cx :=
 { X with N:=N',s₀:=s₀,H₀:=H₀,env:=compEnvC scope (cOn (s₀.heap.objs.size+1) scope.names (qav X.env.cells scope.names [])) s₀.heap.objs.size X.env,outer:=X.stack,stack:=X.stack,ex:=fp,fn:=λx=>scope.names.lookup x==some .cell,pn:=[] }
section
variable {K:Frag} {B B':Addr->Prop} {H:Hp}
mutual
theorem Rep.holes (f:∀ b,B' b->B b\/H b=none):∀ {v:V} {d:D},Rep K B H v d->Rep K B' H v d
 | _,_,.non=>.non
 | _,_,.bl b=>.bl b
 | _,_,.int i=>.int i
 | _,_,.str x=>.str x
 | _,_,.tup e r=>.tup e (Reps.holes f r)
 | _,_,.lst n e r=>.lst (λz=>(f _ z).elim n λq=>by rw [q] at e;cases e) e (Reps.holes f r)
 | _,_,.scr h=>.scr h
 | _,_,.grp n e y z w r=>.grp (λq=>(f _ q).elim n λq'=>by rw [q'] at e;cases e) e y z w (Reps.holes f r)
theorem Reps.holes (f:∀ b,B' b->B b\/H b=none):∀ {vs:List V} {ds:List D},Reps K B H vs ds->Reps K B' H vs ds
 | _,_,.nil=>.nil
 | _,_,.cons a r=>.cons (Rep.holes f a) (Reps.holes f r)
end
theorem ER.holes {σ:L2.St} {ρ:En} (f:∀ b,B' b->B b\/H b=none) (h:ER K B H σ ρ):ER K B' H σ ρ:=λi d e=>let ⟨v,q,r⟩:=h i d e;⟨v,q,r.holes f⟩
theorem ER.mono {σ:L2.St} {ρ:En} {H':Hp} (hb:HB B H) (s:qY B H H') (h:ER K B H σ ρ):ER K B H' σ ρ:=λi d e=>let ⟨v,q,r⟩:=h i d e;⟨v,q,r.mono hb s⟩
mutual
theorem Rep.shift {H':Hp} (hb:HB B H) (s:qY B H H') (f:∀ b,B' b->B b\/H b=none):∀ {v:V} {d:D},Rep K B H v d->Rep K B' H' v d
 | _,_,.non=>.non
 | _,_,.bl b=>.bl b
 | _,_,.int i=>.int i
 | _,_,.str x=>.str x
 | _,_,.tup e r=>.tup (s _ _ (hb.notT e) e) (Reps.shift hb s f r)
 | _,_,.lst n e r=>.lst (λz=>(f _ z).elim n λq=>by rw [q] at e;cases e) (s _ _ n e) (Reps.shift hb s f r)
 | _,_,.scr (.inl ⟨o,e⟩)=>.scr (.inl ⟨o,s _ _ (hb.notF e) e⟩)
 | _,_,.scr (.inr h)=>.scr (.inr h)
 | _,_,.grp n e y z w r=>.grp (λq=>(f _ q).elim n λq'=>by rw [q'] at e;cases e) (s _ _ n e) y z w (Reps.shift hb s f r)
theorem Reps.shift {H':Hp} (hb:HB B H) (s:qY B H H') (f:∀ b,B' b->B b\/H b=none):∀ {vs:List V} {ds:List D},Reps K B H vs ds->Reps K B' H' vs ds
 | _,_,.nil=>.nil
 | _,_,.cons a r=>.cons (Rep.shift hb s f a) (Reps.shift hb s f r)
end
end
structure ItOk (K:Frag) (B:Addr->Prop) (H0:Hp) (ds:List D) (J:It):Prop where
 len:ds.length<=sizeLine
 go:∀ (B':Addr->Prop) (H:Hp),(∀ b,B' b->B b\/H0 b=none)->HB B' H->qY B H0 H->∀ i d,ds[i]?=some d->J.go i H/\∀ x H',J.yld i H x H'->Same H H'/\Rep K B' H' x d
 stop:∀ (H:Hp),qY B H0 H->J.stop ds.length H
def iD (K:Frag) (B:Addr->Prop) (ρ:En) (ds:List D):TI:=λσ H R=>HB B H/\ER K B H σ ρ/\∀ J H',Same H H'->ItOk K B H' ds J->R J H'
def SI (X:Cx) (C:Tab) (tg iter:Expr) (it:Iter):Prop:=∀ B ρ ds,evI C it ρ=some ds->PI X tg iter (iD X.K B ρ ds)
theorem wk {α:Type} {M:Model} {A:Around} {t:Sem α} {Q:α->Shared->Prop} {E:Value->Shared->Prop} {s:Shared} (h:wpAny M A t Q (λ_ _=>False) s):wpAny M A t Q E s:=wpAny_mono h (λ_ _ q=>q) λ_ _ z=>z.elim
section
variable {X:Cx} {pins:List (Addr×Obj)} {σ:L2.St} {H:Hp} {s:Shared}
theorem zdF {N':List Str} {scope:Scope} {fp:List Addr} (I:L2.Inv X pins σ H s) (hk:scope.kind=.function) (hfr:∀ x∈scope.names,x.2=.free->X.env.kindOf x.1=some .cell\/X.env.kindOf x.1=some .free)
  (hf:∀ b∈fp,yaz X pins H b) (hfl:∀ b∈fp,b<s.heap.objs.size):(blk X N' scope s H fp).Ok:=by
 have hs:∀ x∈scope.names,x.2=.free->(X.env.cells.lookup x.1).isSome=true:=λx hx hx2=>by
  obtain ⟨c,e⟩:=I.ok.has x.1 (hfr x hx hx2);rw [e];rfl
 have look:∀ x c,(qav X.env.cells scope.names []).lookup x=some c->X.env.cells.lookup x=some c:=zam _ _ _ hs (λx c e=>by simp at e);have clt:∀ x c,X.env.cells.lookup x=some c->c<s.heap.objs.size:=λx c e=>let ⟨v,q⟩:=I.cell x c e;q.lt
 refine ⟨I.ok.mod,hk,I.ok.glob,I.ok.blt,wF _,zbq _ _ _ (λx y c h1 h2=>I.ok.inj x y c (look x c h1) (look y c h2)) (λx c h=>Nat.lt_succ_of_lt (clt x c (look x c h))),λx hx=>?_,λx c hfn h=>Nat.le_of_succ_le (jbp _ _ _ x c (w8 (by simpa using (show (scope.names.lookup x==some .cell)=true from hfn))) h),I.ok.hd,I.ok.frames,.inl rfl,λb hb=>⟨?_,λx c h=>?_⟩,I.bs,wU I.ok.bsz I.sz,λb o e hb=>?_,λb hb hfs=>?_,I.stack,I.stkFree⟩
 ·-- a name of the block that is no local has its cell
  have hmem:(x,NameKind.free)∈scope.names\/(x,NameKind.cell)∈scope.names:=by
   have hx':(relabel scope X.env).names.lookup x=some .cell\/(relabel scope X.env).names.lookup x=some .free:=hx;have hm:(x,NameKind.cell)∈(relabel scope X.env).names\/(x,NameKind.free)∈(relabel scope X.env).names:=hx'.elim (λz=>.inl (w8 z)) λz=>.inr (w8 z)
   unfold relabel at hm;rcases hm with hm | hm
   ·obtain ⟨⟨n,k⟩,hn,e⟩:=wJ.mp hm
    by_cases c:(k==NameKind.free&&X.env.scope.kind==.function&&X.env.kindOf n==some .cell)=true
    ·simp only [c,if_true] at e
     have hkf:k=.free:=by
      have:=(wj _ _▸(wj _ _▸c).1).1
      simpa using this
     cases e;rw [hkf] at hn;exact .inl hn
    ·simp only [c,if_false] at e;cases e;exact .inr hn
   ·obtain ⟨⟨n,k⟩,hn,e⟩:=wJ.mp hm
    by_cases c:(k==NameKind.free&&X.env.scope.kind==.function&&X.env.kindOf n==some .cell)=true
    ·simp only [c,if_true] at e;cases e
    ·simp only [c,if_false] at e;cases e;exact .inl hn
  exact vc.mp (ja1 _ _ _ x (hmem.elim (λz=>.inr (zaA _ _ _ x (.inl z))) .inl))
 ·exact wQ (hfl b hb)
 ·rcases zaF _ _ _ x c h with q | ⟨q,_⟩
  ·exact (hf b hb).2.2.2.2.1 x c (look x c q)
  ·exact λz=>absurd (hfl b hb) (by rw [<-z];exact Nat.not_lt.mpr (Nat.le_of_succ_le q))
 ·have hb':b∈fp:=hb;rcases (hf b hb').2.2.2.1 with z | z
  ·exact I.ok.noex b o e z
  ·have q:=(I.ok.bs b o e).1;rw [z] at q;cases q
 ·have hb':b∈fp:=hb;rcases wy.mp (I.stkSub b hfs) with z | z
  ·exact (hf b hb').2.1 z
  ·exact (hf b hb').2.2.1 z
theorem yc1 {N':List Str} {scope:Scope} {fp:List Addr} {h':Heap} {tk:Nat} {m:Str->Option Value} {σ':L2.St} (I:L2.Inv X pins σ H s) (ok:(blk X N' scope s H fp).Ok) (hn:h'.Ns s.heap.objs.size m)
  (hk:∀ b o,s.heap.get? b=some o->h'.get? b=some o) (hl:σ'.length=N'.length) (hfr:∀ x∈scope.names,x.2=.free->(X.env.cells.lookup x.1).isSome=true)
  (hcl:∀ x c,(cOn (s.heap.objs.size+1) scope.names (qav X.env.cells scope.names [])).lookup x=some c->(qav X.env.cells scope.names []).lookup x=some c\/(s.heap.objs.size+1<=c/\h'.IsCell c none))
  (hnc:∀ x,(x,NameKind.cell)∈scope.names->(x,NameKind.free)∉scope.names)
  (hσ:∀ (i:Nat) (x:Str) (v:V),N'[i]?=some x->σ'[i]?=some (some v)->((relabel scope X.env).names.lookup x=some .cell\/(relabel scope X.env).names.lookup x=some .free)/\(x,NameKind.free)∈scope.names/\((qav X.env.cells scope.names []).lookup x).isSome=true /\
   ∃ j:Nat,X.N[j]?=some x/\σ[j]?=some (some v)/\(X.env.scope.names.lookup x=some .cell\/X.env.scope.names.lookup x=some .free)) :
  L2.Inv (blk X N' scope s H fp) [] σ' H { s with heap:=h',toks:=tk }:=by
 have look:∀ x c,(qav X.env.cells scope.names []).lookup x=some c->X.env.cells.lookup x=some c:=zam _ _ _ hfr (λx c e=>by simp at e);have cellK:∀ c v,s.heap.IsCell c v->h'.IsCell c v:=λc v ⟨o,ho,hd⟩=>⟨o,hk c o ho,hd⟩
 refine ⟨ok,rfl,I.bare,Un.kept hk,⟨m,hn,λi x v e1 e2 _=>?_⟩,λx c e=>?_,I.fresh,λx c e=>?_,λp hp=>(by cases hp),I.hok.kept hk,hl⟩
 ·obtain ⟨k1,k0,k2,j,e3,e4,k3⟩:=hσ i x v e1 e2;obtain ⟨c1,hc1⟩:=vc.mp (ja1 scope.names (s.heap.objs.size+1) _ x (.inr k2));have hc:(qav X.env.cells scope.names []).lookup x=some c1:=(zaF _ _ _ x c1 hc1).elim id λq=>absurd k0 (hnc x q.2)
  obtain ⟨c,hce⟩:∃ c,c=c1:=⟨_,rfl⟩;rw [<-hce] at hc hc1;obtain ⟨mX,_,hX⟩:=I.loc;obtain ⟨u,ru,lk⟩:=hX j x v e3 e4 (k3.elim (λz=>.inr (.inl z)) λz=>.inr (.inr z));refine ⟨u,ru,.inr ⟨k1,c,hc1,?_⟩⟩;rcases lk with ⟨z,_⟩ | ⟨_,c',hc',z⟩
  ·have z':X.env.scope.names.lookup x=some .local:=z;rcases k3 with k | k<;>(rw [k] at z';cases z')
  ·rw [look x c hc] at hc';cases hc';exact cellK c _ z
 ·rcases hcl x c e with q | ⟨_,q⟩
  ·obtain ⟨v,z⟩:=I.cell x c (look x c q);exact ⟨v,cellK c v z⟩
  ·exact ⟨_,q⟩
 ·rcases hcl x c e with q | ⟨q,_⟩
  ·exact I.freeC x c (look x c q)
  ·exact I.hok.fresh (Nat.le_of_succ_le q)
end
noncomputable def Tgt.ixs:Tgt->List Nat
 | .one i=>[i]
 | .many is=>is
noncomputable def yaS (n:Nat) (keep:List Nat) (σ:L2.St):L2.St:=List.replicate n none++keep.map λi=>(σ[i]?).join
theorem jab {env:Env}:∀ {names:List (Str×NameKind)} {x:Str},names.lookup x=some .free ->
  (names.map λ(n,k)=>if (k==NameKind.free&&env.scope.kind==.function&&env.kindOf n==some .cell) then (n,NameKind.cell) else (n,k)).lookup x=some .cell \/
  (names.map λ(n,k)=>if (k==NameKind.free&&env.scope.kind==.function&&env.kindOf n==some .cell) then (n,NameKind.cell) else (n,k)).lookup x=some .free
 | [],_,h=>by simp at h
 | (n,k)::r,x,h=>by
  rw [List.lookup_cons] at h;rw [List.map_cons];cases hx:x==n with
  | true =>
   rw [hx] at h;cases h
   by_cases c:(NameKind.free==NameKind.free&&env.scope.kind==.function&&env.kindOf n==some .cell)=true
   ·left
    show List.lookup x ((if _ then _ else _)::_)=_;rw [if_pos c,List.lookup_cons,hx]
   ·right
    show List.lookup x ((if _ then _ else _)::_)=_;rw [if_neg c,List.lookup_cons,hx]
  | false =>
   rw [hx] at h;have ih:=jab (env:=env) h
   by_cases c:(k==NameKind.free&&env.scope.kind==.function&&env.kindOf n==some .cell)=true
   ·show List.lookup x ((if _ then _ else _)::_)=_\/List.lookup x ((if _ then _ else _)::_)=_;rw [if_pos c,List.lookup_cons,hx];exact ih
   ·show List.lookup x ((if _ then _ else _)::_)=_\/List.lookup x ((if _ then _ else _)::_)=_;rw [if_neg c,List.lookup_cons,hx];exact ih
section
variable {K:Frag} {B:Addr->Prop} {H:Hp}
theorem za2 {α:Type} {n:Nat} {keep:List Nat} {l:List (Option α)} {i:Nat} {a:α} (h:(List.replicate n (none:Option α)++keep.map λj=>(l[j]?).join)[i]?=some (some a)) :
  ∃ k j,i=n+k/\keep[k]?=some j/\l[j]?=some (some a):=by
 by_cases hi:i<n
 ·rw [vn (by simpa using hi),List.getElem?_replicate] at h;split at h<;>cases h
 ·rw [List.getElem?_append_right (by simpa using hi),List.length_replicate,wz] at h;cases e:keep[i-n]? with
  | none=>rw [e] at h;cases h
  | some j =>
   rw [e] at h;refine ⟨i-n,j,by omega,e,?_⟩;have h':(l[j]?).join=some a:=wC h;cases q:l[j]? with
   | none=>rw [q] at h';cases h'
   | some o=>rw [q] at h';exact congrArg some h'
theorem ER.block {σ:L2.St} {ρ:En} {n:Nat} {keep:List Nat} (h:ER K B H σ ρ):ER K B H (yaS n keep σ) (yg n keep ρ):=λi d e=>by
 obtain ⟨k,j,hi,hk,hj⟩:=za2 e;obtain ⟨v,ev,rv⟩:=h j d hj;refine ⟨v,?_,rv⟩;unfold yaS;rw [hi,List.getElem?_append_right (by simp),List.length_replicate,Nat.add_sub_cancel_left,wz,hk];show some ((σ[j]?).join)=_;rw [ev];rfl
theorem jaS:∀ {is:List Nat} {ds:List D} {ρ:En} {i:Nat},i∉is->(setM is ds ρ)[i]?=ρ[i]?
 | [],_,_,_,_=>by cases ‹List D›<;>rfl
 | _::_,[],_,_,_=>rfl
 | j::is,d::ds,ρ,i,h=>by
  rw [Eng.setM,jaS (λz=>h (by simp [z]))];exact wH (λe=>h (by simp [e]))
theorem ER.back {σ:L2.St} {ρ ρ1:En} {n:Nat} {keep:List Nat} {t:Tgt} {d:D} (h:ER K B H σ ρ1) (ht:zaa t d (yg n keep ρ)=some ρ1) (hi:∀ i∈t.ixs,i<n):ER K B H σ (yg n keep ρ):=λi d' e=>by
 obtain ⟨k,j,hik,_,_⟩:=za2 e;have hni:i∉t.ixs:=λz=>by have:=hi i z;omega
 refine h i d' ?_;cases t with
 | one j =>
  cases ht;rw [wH (λe=>hni (by simp [Tgt.ixs,e]))];exact e
 | many is =>
  cases d with
  | tup ds =>
   simp only [zaa] at ht;split at ht
   ·cases ht;rw [jaS (show i∉is from hni)];exact e
   ·cases ht
  | _=>cases ht
end
structure CompS (X:Cx) (C:Tab) (elt tg iter:Expr) (ifs:List Expr) (scope:Scope) (ce:Code) (t:Tgt) (n:Nat) (keep:List Nat) (cc:OCode) (N':List Str):Prop where
 hx:X.xe=λ_ _=>False
 calm:X.calm=true
 kind:scope.kind=.function
 nc:∀ x,(x,NameKind.cell)∈scope.names->(x,NameKind.free)∉scope.names
 fr:∀ x∈scope.names,x.2=.free->X.env.kindOf x.1=some .cell\/X.env.kindOf x.1=some .free
 names:∀ x∈scope.names,x.2=.local->scope.names.lookup x.1=some .local
 len:N'.length=n+keep.length
 kp:∀ (k j:Nat),keep[k]?=some j->∃ x,N'[n+k]?=some x/\X.N[j]?=some x/\scope.names.lookup x=some .free/\(X.env.scope.names.lookup x=some .cell\/X.env.scope.names.lookup x=some .free)
 ti:∀ i∈t.ixs,i<n
 hs:∀ x,foldedSetIterable iter X.env x=pure x
 G:∀ s₀ H₀ fp,PG (blk X N' scope s₀ H₀ fp) tg (gT t)
 E:∀ s₀ H₀ fp,SE (blk X N' scope s₀ H₀ fp) C elt ce
 T:(ifs=[]/\cc=.none)\/∃ e c,ifs=[e]/\cc=.some c/\∀ s₀ H₀ fp,SB (blk X N' scope s₀ H₀ fp) C e c
section
variable {X:Cx} {C:Tab} {elt tg iter:Expr} {ifs:List Expr} {scope:Scope} {ce:Code} {t:Tgt} {n:Nat} {keep:List Nat} {cc:OCode} {N':List Str}
theorem ybq {f:D->Option (Option D)} {d:D} {ds rs:List D} (h:gather f (d::ds)=some rs):∃ o r,f d=some o/\gather f ds=some r/\rs=(match o with | none=>r | some x=>x::r):=by
 rw [gather] at h;obtain ⟨o,eo,h⟩:=wa h;obtain ⟨r,er,h⟩:=wb h;refine ⟨o,r,eo,er,?_⟩;cases o<;>exact h.symm
theorem zbC (S:CompS X C elt tg iter ifs scope ce t n keep cc N') {pos:Pos} {pins:List (Addr×Obj)} {σ:L2.St} {H:Hp} {s:Shared} {B:Addr->Prop} {ρ:En} {ds rs:List D} {fp:List Addr} {ia:Addr} {tn:Nat->Heap->Prop} {J:It}
  {use:Option (Value->Sem Unit)} {Q:Value->Shared->Prop} {E:Value->Shared->Prop}
  (I:L2.Inv X pins σ H s) (Tn:Turn X.prog X.w X.K tg J fp ia tn) (st:tn 0 s.heap) (fpo:∀ b∈fp,yaz X pins H b) (ok:ItOk X.K B H ds J) (hb:HB B H) (er:ER X.K B H σ ρ) (hg:gather (turn C ce t n keep cc ρ) ds=some rs)
  (fin:∀ (p Cc:Addr) (Hf:Hp) (ys:List V) (s':Shared) (m:Str->Option Value),H p=none->Same H Hf->Hf p=some (.lst ys)->Reps X.K (λb=>B b\/b=p) Hf ys rs->L2.Inv X pins σ Hf s'->s'.heap.Ns Cc m->yaz X pins Hf Cc->Hf Cc=none ->
   compPost (model X.prog X.w) X.A E use Q (.ref p) Cc (.ok .next) s') :
  wpAny (model X.prog X.w) X.A (newList []) (λacc s₃=>wpAny (model X.prog X.w) X.A (newFunctionEnv scope X.env.globals (qav X.env.cells scope.names []) [] X.env.qual none .none (some X.env)) (λcenv s₄ =>
   codeAny (model X.prog X.w) X.A (.compStart (.ListComp elt [⟨tg,iter,ifs,0⟩] scope pos) 0 (.ref ia) acc { cenv with scope:=relabel scope X.env }) (compPost (model X.prog X.w) X.A E use Q acc cenv.locals) s₄) E s₃) E s:=by
 have hsome:∀ x∈scope.names,x.2=.free->(X.env.cells.lookup x.1).isSome=true:=λx hx hx2=>by
  obtain ⟨c,e⟩:=I.ok.has x.1 (S.fr x hx hx2);rw [e];rfl
 obtain ⟨p,hp⟩:∃ p,p=s.heap.objs.size:=⟨_,rfl⟩;have pf:H p=none:=hp▸I.fresh
 have fpl:∀ b∈fp,b<s.heap.objs.size:=λb hb=>by
  obtain ⟨o,e,_⟩:=Tn.obj 0 _ st b hb;exact wA e
 refine ve (qbq λh₁ mm hns kept' hcl=>?_)
 have I3:L2.Inv X pins σ (upd H p (.lst [])) { s with heap:=s.heap.push { cls:=.type "list",data:=.seq ([]:List Value).toArray } }:=by
  subst hp;exact I.lnew (t':=s.toks) .nil (Nat.zero_le _)
 obtain ⟨s3,hs3⟩:∃ s3:Shared,s3={ s with heap:=s.heap.push { cls:=.type "list",data:=.seq ([]:List Value).toArray } }:=⟨_,rfl⟩;rw [<-hs3] at I3;obtain ⟨m0,hns⟩:∃ m0,h₁.Ns s3.heap.objs.size m0:=⟨_,by rw [hs3];exact hns⟩;have kept:∀ b o,s3.heap.get? b=some o->h₁.get? b=some o:=by rw [hs3];exact kept'
 have hcl:∀ x c,(cOn (s3.heap.objs.size+1) scope.names (qav X.env.cells scope.names [])).lookup x=some c->(qav X.env.cells scope.names []).lookup x=some c\/(s3.heap.objs.size+1<=c/\h₁.IsCell c none):=by rw [hs3];exact hcl
 have old:∀ b o,s.heap.get? b=some o->s3.heap.get? b=some o:=λb o e=>by rw [hs3];exact wm _ e
 have fpo3:∀ b∈fp,yaz X pins (upd H p (.lst [])) b:=λb hb=>⟨by rw [zm (wQ (hp▸fpl b hb))];exact (fpo b hb).1,(fpo b hb).2⟩
 have okB:(blk X N' scope s3 (upd H p (.lst [])) fp).Ok:=zdF I3 S.kind S.fr fpo3 λb hb=>by
  obtain ⟨o,e,_⟩:=Tn.obj 0 _ st b hb;exact wA (old b o e)
 obtain ⟨X',hX'⟩:∃ X':Cx,X'=blk X N' scope s3 (upd H p (.lst [])) fp:=⟨_,rfl⟩
 have hS0:∀ (i:Nat) (x:Str) (v:V),N'[i]?=some x->(yaS n keep σ)[i]?=some (some v)->((relabel scope X.env).names.lookup x=some .cell\/(relabel scope X.env).names.lookup x=some .free)/\(x,NameKind.free)∈scope.names/\((qav X.env.cells scope.names []).lookup x).isSome=true /\
   ∃ j:Nat,X.N[j]?=some x/\σ[j]?=some (some v)/\(X.env.scope.names.lookup x=some .cell\/X.env.scope.names.lookup x=some .free):=λi x v e1 e2=>by
  obtain ⟨k,j,hi,hk,hj⟩:=za2 e2;obtain ⟨y,y1,y2,y3,y4⟩:=S.kp k j hk;rw [hi,y1] at e1;cases e1;exact ⟨jab y3,w8 y3,zaA _ _ _ _ (.inl (w8 y3)),j,y2,hj,y4⟩
 have I4:L2.Inv X' [] (yaS n keep σ) (upd H p (.lst [])) { s3 with heap:=h₁,toks:=s3.toks }:=by
  rw [hX'];exact yc1 I3 okB hns kept (by simp [yaS,S.len]) hsome hcl S.nc hS0
 obtain ⟨f,hf⟩:∃ f,f=turn C ce t n keep cc ρ:=⟨_,rfl⟩;rw [<-hf] at hg;have hK':X'.K=X.K:=by rw [hX'];rfl
 have hP':X'.prog=X.prog:=by rw [hX'];rfl
 have hw':X'.w=X.w:=by rw [hX'];rfl
 have hA':X'.A=X.A:=by rw [hX'];rfl
 have hc':X'.calm=true:=by rw [hX'];exact S.calm
 have hxe:X'.xe=λ_ _=>False:=by rw [hX'];exact S.hx
 have henv:X'.env=compEnvC scope (cOn (s3.heap.objs.size+1) scope.names (qav X.env.cells scope.names [])) s3.heap.objs.size X.env:=by rw [hX'];rfl
 obtain ⟨B',hB'⟩:∃ B':Addr->Prop,B'=λb=>B b\/b=p:=⟨_,rfl⟩
 have BB:∀ b,B b->B' b:=λb z=>by rw [hB'];exact .inl z
 have Bn:∀ b,B' b->B b\/H b=none:=λb z=>by
  rw [hB'] at z;exact z.elim .inl λq=>.inr (q▸pf)
 have stat:∀ {H':Hp},(∀ b∈fp,H' b=none)->∀ b∈fp,yaz X' [] H' b:=λ{H'} hn b hb=>by
  have e:=okB.exf b hb;have e2:=okB.exfs b hb;rw [<-hX'] at e e2;exact ⟨hn b hb,e.1,e2,.inl (by rw [hX'];exact hb),e.2,λq hq=>(by rw [hX'] at hq;cases hq)⟩
 have loop:codeAny (model X.prog X.w) X.A (.compLoop (.ListComp elt [⟨tg,iter,ifs,0⟩] scope pos) 0 (.ref ia) (.ref p) X'.env) (compPost (model X.prog X.w) X.A E use Q (.ref p) s3.heap.objs.size) { s3 with heap:=h₁,toks:=s3.toks }:=by
  refine codeAny_loop rfl (λk s'=>∃ (i:Nat) (σ':L2.St) (H':Hp) (ys:List V) (r1 r2:List D),L2.Inv X' [] σ' H' s'/\tn i s'.heap/\(∀ b∈fp,H' b=none)/\k=ds.length-i/\i<=ds.length/\H' p=some (.lst ys)/\Reps X.K B' H' ys r1/\ys.length<=i /\
   qY B' H H'/\Same H H'/\HB B' H'/\gather f (ds.drop i)=some r2/\r1++r2=rs/\ER X.K B' H' σ' (yg n keep ρ)) ?_ ds.length ?_
  ·rintro k s5 ⟨i,σ5,H5,ys,r1,r2,I5,st5,fr5,rfl,hi,hpl,ry,hyl,sb5,sm5,hb5,hg5,er2,ER5⟩;show wpAny _ _ ((compTurn (.ListComp elt [⟨tg,iter,ifs,0⟩] scope pos) 0 (.ref ia) (.ref p) X'.env).onRaise (λx=>do noteFrame x X'.env;theTreesLotGoes x)) _ _ s5;refine wpAny_noted ?_;rw [compTurn_list];refine wg (wpAny_standAt ?_)
   by_cases hlt:i<ds.length
   ·-- an item
    have hd:ds[i]?=some ds[i]:=by simp [hlt]
    obtain ⟨d,hdd⟩:∃ d,d=ds[i]:=⟨_,rfl⟩;rw [<-hdd] at hd;rw [List.drop_eq_getElem_cons hlt,<-hdd] at hg5;obtain ⟨o,r,eo,er',e2⟩:=ybq hg5;obtain ⟨go,yl⟩:=ok.go B' H5 Bn hb5 (λb o _ e=>sm5 b o e) i d hd;have item:=Tn.item X' hP' hw' hK' hc' i [] s5 σ5 H5 (λ_ _=>False) I5 (stat fr5) st5 go;rw [hA'] at item;refine wg (wk (thn item λrr s6 ⟨u,hr,h6⟩=>?_));subst hr;refine wg (wk (thn h6 λ_ s7 ⟨x,H7,I7,rx,y7,st7,fr7⟩=>?_));obtain ⟨sm7,rep7⟩:=yl x H7 y7;have I7':=I7.pinned (stat fr7) (Tn.obj _ _ st7);obtain ⟨pins7,hp7⟩:∃ q,q=[]++ja9 fp s7.heap:=⟨_,rfl⟩;rw [<-hp7] at I7';rw [hf] at eo;obtain ⟨ρ1,et1,eo⟩:=wa (show (zaa t d (yg n keep ρ)).bind _=some o from eo);obtain ⟨kk,ekk,eo⟩:=wa eo;have hG:=S.G s3 (upd H p (.lst [])) fp;rw [<-hX'] at hG
    have lenσ:σ5.length=n+keep.length:=by
     have:=I5.len
     rw [this,hX'];exact S.len
    have asg:=hG pins7 s7 σ5 H7 x u (λσ8 H8=>H8=H7/\ER X.K B' H7 σ8 ρ1) I7' rx (ER.tgt (ER5.same sm7) et1 (λj hj=>by have:=S.ti j hj;omega) rep7 λσ' e _=>⟨rfl,e⟩);rw [hA',hP',hw',hxe] at asg;refine wg (wk (thn asg λ_ s8 ⟨σ8,H8,I8,e8,ER8⟩=>?_));subst e8;have hb8:HB B' H8:=hb5.same sm7
    have again:∀ (s9:Shared) (H9:Hp) (ys9:List V) (r9:List D),L2.Inv X' pins7 σ8 H9 s9->(∀ b o,b≠p->H8 b=some o->H9 b=some o)->H9 p=some (.lst ys9)->Reps X.K B' H9 ys9 r9->ys9.length<=i+1->r9++r=rs->ER X.K B' H9 σ8 ρ1 ->
      ∃ m,m<ds.length-i/\∃ (i:Nat) (σ':L2.St) (H':Hp) (ys:List V) (r1 r2:List D),L2.Inv X' [] σ' H' s9/\tn i s9.heap/\(∀ b∈fp,H' b=none)/\m=ds.length-i/\i<=ds.length/\H' p=some (.lst ys)/\Reps X.K B' H' ys r1/\ys.length<=i /\
       qY B' H H'/\Same H H'/\HB B' H'/\gather f (ds.drop i)=some r2/\r1++r2=rs/\ER X.K B' H' σ' (yg n keep ρ):=λs9 H9 ys9 r9 I9 k9 p9 ry9 l9 e9 ER9=>by
     have ne:∀ b o,H b=some o->b≠p:=λb o e z=>by rw [z,pf] at e;cases e
     refine ⟨ds.length-(i+1),by omega,i+1,σ8,H9,ys9,r9,r,I9.pins_of λq hq=>(by cases hq),?_,?_,rfl,hlt,p9,ry9,l9,λb o nb e=>k9 b o (ne b o e) (sm7 b o (sm5 b o e)),λb o e=>k9 b o (ne b o e) (sm7 b o (sm5 b o e)),?_,er',e9,ER9.back et1 S.ti⟩
     ·refine Tn.keep _ _ _ st7 λb hb o e=>?_
      have:=I9.pin (b,o) (wN _ (by rw [hp7];exact wN _ (yae hb e)))
      exact this.1
     ·intro b hb;obtain ⟨o',e,_⟩:=Tn.obj _ _ st7 b hb
      have:=I9.pin (b,o') (wN _ (by rw [hp7];exact wN _ (yae hb e)))
      exact this.2.1
     ·intro b hb;rw [hB'] at hb;rcases hb with z | z
      ·by_cases hbp:b=p
       ·exact .inl ⟨ys9,hbp▸p9⟩
       ·exact (hb8 b (BB b z)).imp (λ⟨xs,e⟩=>⟨xs,k9 b _ hbp e⟩) λ⟨es,ep,e⟩=>⟨es,ep,k9 b _ hbp e⟩
      ·exact .inl ⟨ys9,z▸p9⟩
    have p8:H8 p=some (.lst ys):=sm7 p _ hpl;have ry8:Reps X.K B' H8 ys r1:=ry.same sm7
    have behind:∀ (s9:Shared) (H9:Hp),L2.Inv X' pins7 σ8 H9 s9->Same H8 H9->kk=true->o≠none ->
      wpAny (model X.prog X.w) X.A (eval elt X'.env) (λz s10=>wpAny (model X.prog X.w) X.A (call (.builtin "list.append") [.ref p,z]) (λ_ s11=>∃ m,m<ds.length-i/\∃ (i:Nat) (σ':L2.St) (H':Hp) (ys:List V) (r1 r2:List D),L2.Inv X' [] σ' H' s11/\tn i s11.heap/\(∀ b∈fp,H' b=none)/\m=ds.length-i/\i<=ds.length/\H' p=some (.lst ys)/\Reps X.K B' H' ys r1/\ys.length<=i /\
       qY B' H H'/\Same H H'/\HB B' H'/\gather f (ds.drop i)=some r2/\r1++r2=rs/\ER X.K B' H' σ' (yg n keep ρ)) (λ_ _=>False) s10) (λ_ _=>False) s9:=λs9 H9 I9 sm9 hkk ho=>by
     subst hkk;rw [if_pos rfl] at eo;obtain ⟨dz,edz,rfl⟩:=wb eo;have hE:=S.E s3 (upd H p (.lst [])) fp B' ρ1 dz edz;rw [<-hX',hK'] at hE;have run:=hE pins7 s9 σ8 H9 (λz H10=>Same H9 H10/\Rep X.K B' H10 z dz) I9 ⟨hb8.same sm9,ER8.same sm9,λv H' s r=>⟨s,r⟩⟩;rw [hA',hP',hw',hxe] at run;refine thn run λz s10 ⟨zv,H10,I10,rz,sm10,repz⟩=>?_
     have p10:H10 p=some (.lst ys):=sm10 p _ (sm9 p _ p8);have ap:=ybc (X:=X') pins7 s10 σ8 H10 (.ref p) [zv] (.ref p) [z] (λ_ H11=>H11=upd H10 p (.lst (ys++[zv]))) I10 rfl (.cons rz .nil) ⟨p,ys,zv,rfl,rfl,p10,by have:=ok.len;omega,rfl⟩;rw [hA',hP',hw',hxe] at ap;refine thn ap λ_ s11 ⟨_,H11,I11,_,e11⟩=>?_
     subst e11
     have sbp:qY B' H10 (upd H10 p (.lst (ys++[zv]))):=λb o nb e=>by
      rw [zm (λw=>nb (by rw [hB',w];exact .inr rfl))];exact e
     have hb10:HB B' H10:=(hb8.same sm9).same sm10;refine again s11 _ (ys++[zv]) (r1++[dz]) I11 (λb o nb e=>by rw [zm nb];exact sm10 b o (sm9 b o e)) zl ?_ (by simp;omega) ?_ (((ER8.same sm9).same sm10).mono hb10 sbp)
     ·exact (((ry8.same sm9).same sm10).mono hb10 sbp).append (.cons (repz.mono hb10 sbp) .nil)
     ·rw [<-er2,e2];simp
    rcases S.T with ⟨hifs,hcc⟩ | ⟨ec,c,hifs,hcc,hT⟩
    ·subst hifs;subst hcc
     cases ekk;refine wg (wpAny_tests_nil ?_)
     have ho:o≠none:=by
      rw [if_pos rfl] at eo;obtain ⟨_,_,rfl⟩:=wb eo
      simp
     exact wg (wg (wk (thn (behind s8 H8 I8 (Same.refl _) rfl ho) λz s10 h10=>wg (wk (thn h10 λ_ s11 h11=>wo (wo ⟨rfl,h11⟩))))))
    ·subst hifs;subst hcc
     obtain ⟨dt,edt,etr⟩:=wa (show (ev C c ρ1).bind truO=some kk from ekk);have hT':=hT s3 (upd H p (.lst [])) fp B' ρ1 dt kk edt etr;rw [<-hX',hK'] at hT';have run:=hT' pins7 s8 σ8 H8 (λb H9=>b=kk/\Same H8 H9) I8 ⟨hb8,ER8,λH' s=>⟨rfl,s⟩⟩;rw [hA',hP',hw',hxe] at run;refine wg (wpAny_tests_one (wk (thn run λb s9 ⟨H9,I9,eb,sm9⟩=>?_)));subst eb;cases b with
     | true =>
      have ho:o≠none:=by
       rw [if_pos rfl] at eo;obtain ⟨_,_,rfl⟩:=wb eo
       simp
      exact wg (wg (wk (thn (behind s9 H9 I9 sm9 rfl ho) λz s10 h10=>wg (wk (thn h10 λ_ s11 h11=>wo (wo ⟨rfl,h11⟩))))))
     | false =>
      rw [if_neg wB] at eo;cases eo;refine wo ⟨rfl,again s9 H9 ys r1 I9 (λb o _ e=>sm9 b o e) (sm9 p _ p8) (ry8.same sm9) (by omega) (by rw [<-er2,e2]) (ER8.same sm9)⟩
   ·-- the end
    have hin:i=ds.length:=by omega
    subst hin;rw [List.drop_length] at hg5;cases hg5;rw [List.append_nil] at er2;subst er2;have done:=Tn.done X' hP' hw' hK' hc' ds.length [] s5 σ5 H5 (λ_ _=>False) I5 (stat fr5) st5 (ok.stop H5 (λb o _ e=>sm5 b o e));rw [hA'] at done;refine wg (wk (thn done λrr s6 ⟨hr,I6⟩=>?_));subst hr;refine wo ?_;obtain ⟨mC,hnC,_⟩:=I6.loc;have hloc:X'.env.locals=s3.heap.objs.size:=by rw [henv];rfl
    rw [hloc] at hnC
    have un:Un (frs X.stack) fp (upd H p (.lst [])) H5 s3.heap s6.heap:=by
     have:=I6.base
     rw [hX'] at this;exact this
    have I7:L2.Inv X pins σ H5 s6:=by
     refine I3.call' ?_ un (by have:=I6.hok;rw [hP',hw'] at this;exact this) I6.bare λb hb=>⟨(fpo b hb).2.2.2.1,(fpo b hb).2.1,(fpo b hb).2.2.2.2.1,(fpo b hb).2.2.2.2.2⟩
     have:=I6.os
     rw [hX'] at this;exact this
    have hCn:H5 s3.heap.objs.size=none:=by
     have:=I6.free
     rw [hloc] at this;exact this
    refine fin p s3.heap.objs.size H5 ys s6 mC pf sm5 hpl (hB'▸ry) I7 hnC ?_ hCn;refine ⟨hCn,Nat.ne_of_gt I3.lt,I3.nofs (wF _),.inr (Heap.get?_none_of_le I3.sz),λx c e z=>?_,λq hq z=>?_⟩
    ·obtain ⟨v,w⟩:=I3.cell x c e;exact absurd w.lt (by rw [z];exact Nat.lt_irrefl _)
    ·exact absurd (wA (I3.pin q hq).1) (by rw [z];exact Nat.lt_irrefl _)
  ·refine ⟨0,yaS n keep σ,upd H p (.lst []),[],[],rs,I4,Tn.keep 0 _ _ st λb hb o e=>kept b o (old b o e),λb hb=>(fpo3 b hb).1,rfl,Nat.zero_le _,zl,.nil,wF _,?_,je pf _,?_,by simpa using hg,by simp,?_⟩
   ·intro b o _ e;exact je pf _ b o e
   ·intro b hbb;rw [hB'] at hbb;rcases hbb with z | z
    ·exact (hb b z).imp (λ⟨xs,e⟩=>⟨xs,je pf _ b _ e⟩) λ⟨es,ep,e⟩=>⟨es,ep,je pf _ b _ e⟩
    ·exact .inl ⟨[],z▸zl⟩
   ·exact ((er.block).holes Bn).same (je pf _)
 have e1:({ newEnv scope s3.heap.objs.size X.env.globals (cOn (s3.heap.objs.size+1) scope.names (qav X.env.cells scope.names [])) X.env.qual none .none (some X.env) builtinsNs with scope:=relabel scope X.env }:Env)=X'.env:=by rw [henv];rfl
 rw [hs3] at loop e1;subst hp;show codeAny _ _ (.compStart _ 0 _ _ { newEnv scope _ X.env.globals (cOn _ scope.names (qav X.env.cells scope.names [])) X.env.qual none .none (some X.env) builtinsNs with scope:=relabel scope X.env }) _ _;rw [e1];exact codeAny_compStart_list loop (Tn.self X.A 0 _ _ _ (Tn.keep 0 _ _ st λb hb o e=>kept b o (old b o e)) loop)
end
section
variable {X:Cx} {C:Tab} {elt tg iter:Expr} {ifs:List Expr} {scope:Scope} {ce:Code} {t:Tgt} {n:Nat} {keep:List Nat} {cc:OCode} {N':List Str} {it:Iter} {pos:Pos}
theorem CompS.some (S:CompS X C elt tg iter ifs scope ce t n keep cc N') {pins:List (Addr×Obj)} {σ:L2.St} {H:Hp} {s:Shared} (I:L2.Inv X pins σ H s):∀ x∈scope.names,x.2=.free->(X.env.cells.lookup x.1).isSome=true:=λx hx hx2=>by
 obtain ⟨c,e⟩:=I.ok.has x.1 (S.fr x hx hx2);rw [e];rfl
theorem qb7 (S:CompS X C elt tg iter ifs scope ce t n keep cc N') (hi:SI X C tg iter it):SF X C (.ListComp elt [⟨tg,iter,ifs,0⟩] scope pos) (.comp ce t n keep it cc):=λB ρ rs e=>by
 obtain ⟨ds,eds,e⟩:=wa (show (evI C it ρ).bind (λds=>(gather (turn C ce t n keep cc ρ) ds).map D.lst)=some (D.lst rs) from e);obtain ⟨rs',hg,e⟩:=wb e;cases e;intro pins s σ H Q I ⟨hb,er,q⟩;rw [eval_ListComp];refine wpAny_comprehension_free (use:=none) rfl S.hs (qaS (S.some I)) S.kind S.names ?_;refine thn (hi B ρ ds eds pins s σ H (λJ H'=>Same H H'/\ItOk X.K B H' ds J) I ⟨hb,er,λJ H' sm ok=>⟨sm,ok⟩⟩) λxv s1 h1=>thn h1 λitv s2 h2=>?_
 obtain ⟨ia,fp,tn,J,H2,e2,I2,T2,st2,f2,sm2,ok2⟩:=h2;subst e2;refine zbC S I2 T2 st2 f2 ok2 (hb.same sm2) (er.same sm2) hg λp Cc Hf ys s' m pf smf hpl ry I' hn fpo hc=>?_
 refine ⟨m,hn,λh' hsb=>?_⟩;refine ⟨.ref p,Hf,I'.turned (t':=s'.toks) (it:=Cc) (λb o hb e=>hsb.extBut b o hb e) hc fpo.2.1 fpo.2.2.2.1 fpo.2.2.2.2.1 fpo.2.2.2.2.2,rfl,?_⟩;refine q _ Hf (sm2.trans smf) (.lst (λz=>?_) hpl (ry.less λb z=>.inl z)) ⟨p,rfl,sm2.free pf⟩;exact hb.notN (sm2.free pf) z
theorem jc1 (S:CompS X C elt tg iter ifs scope ce t n keep cc N') (hi:SI X C tg iter it):SE X C (.ListComp elt [⟨tg,iter,ifs,0⟩] scope pos) (.comp ce t n keep it cc):=λB ρ d e=>by
 have:∃ ds,d=.lst ds:=by
  obtain ⟨ds,eds,e⟩:=wa (show (evI C it ρ).bind (λds=>(gather (turn C ce t n keep cc ρ) ds).map D.lst)=some d from e);obtain ⟨rs',hg,e⟩:=wb e;exact ⟨_,e.symm⟩
 obtain ⟨ds,rfl⟩:=this;exact SF.se (qb7 S hi) B ρ ds e
theorem yb7 {y:Str} {py spos:Pos} {i:Nat} (S:CompS X C elt tg iter ifs scope ce t n keep cc N') (hi:SI X C tg iter it) (hN:X.N.Nodup) (hy:X.N[i]?=some y) (hl:Loc X.env.scope y) (hf:X.fn y=true\/X.env.scope.names.lookup y=some .local)
  {B:Addr->Prop} {ρ:En} {rs:List D} (e:ev C (.comp ce t n keep it cc) ρ=some (.lst rs)):PS X (.Assign [.Name y py] (.ListComp elt [⟨tg,iter,ifs,0⟩] scope pos) spos) (jdo (tF X.K B ρ (.lst rs)) (gT (.one i))):=by
 obtain ⟨b,hsw⟩:∃ b:Bool,swapsWith (.ListComp elt [⟨tg,iter,ifs,0⟩] scope pos) (some (.Name y py)) spos.line X.env=pure b:=⟨_,rfl⟩;cases b with
 | false=>exact qbY hN hy hl (qb7 S hi B ρ rs e) hsw hf
 | true =>
  obtain ⟨ds,eds,e⟩:=wa (show (evI C it ρ).bind (λds=>(gather (turn C ce t n keep cc ρ) ds).map D.lst)=some (D.lst rs) from e);obtain ⟨rs',hg,e⟩:=wb e;cases e;intro pins s σ H D I ⟨hb,er,q⟩;rw [exec_Assign_Name_used _ _ _ _ hsw];refine wg (wpAny_standAt (wg ?_));show wpAny _ X.A (do let _ <-comprehension (.ListComp elt [⟨tg,iter,ifs,0⟩] scope pos) scope X.env _ (newList []) false (eval iter X.env) (some (assign (.Name y py) X.env))) _ _ s;refine wg (thn (wpAny_comprehension_free (use:=some (assign (.Name y py) X.env)) (Q:=λ_ s'=>SP X pins D .next s') rfl S.hs (qaS (S.some I)) S.kind S.names ?_) λ_ s' hq=>wo (wo hq));refine thn (hi B ρ ds eds pins s σ H (λJ H'=>Same H H'/\ItOk X.K B H' ds J) I ⟨hb,er,λJ H' sm ok=>⟨sm,ok⟩⟩) λxv s1 h1=>thn h1 λitv s2 h2=>?_
  obtain ⟨ia,fp,tn,J,H2,e2,I2,T2,st2,f2,sm2,ok2⟩:=h2;subst e2;refine zbC S I2 T2 st2 f2 ok2 (hb.same sm2) (er.same sm2) hg λp Cc Hf ys s' m pf smf hpl ry I' hn fpo hc=>?_
  have rp:Rep X.K B Hf (.ref p) (.lst rs):=.lst (hb.notN (sm2.free pf)) hpl (ry.less λb z=>.inl z);have q':=q (.ref p) Hf (sm2.trans smf) rp ⟨p,rfl,sm2.free pf⟩;show wpAny _ _ (assign (.Name y py) X.env (.ref p)) _ _ s';refine wpAny_assign_Name (ya9 I' hN hy hl (v:=.ref p) rfl (λs'' I'' ⟨a,hsa,ha⟩=>?_) hf)
  have hca:Cc≠a:=by
   rcases ha with rfl | ha
   ·exact fpo.2.1
   ·exact (fpo.2.2.2.2.1 y a ha).symm
  refine ⟨m,hn.sameBut hsa hca,λh' hsb=>?_⟩;exact ⟨_,Hf,I''.turned (t':=s''.toks) (it:=Cc) (λb o hb e=>hsb.extBut b o hb e) hc fpo.2.1 fpo.2.2.2.1 fpo.2.2.2.2.1 fpo.2.2.2.2.2,q'⟩
end
section
variable {X:Cx} {C:Tab} {tg e:Expr} {c:Code}
theorem qbC {K:Frag} {B:Addr->Prop} {H H':Hp} {a:Addr} {xs:List V} (n:¬ B a) (s:qY B H H') (h:SqL K H a xs):SqL K H' a xs:=by
 rcases h with (h | ⟨o,h⟩) | h
 ·exact .inl (.inl (s _ _ n h))
 ·exact .inl (.inr ⟨o,s _ _ n h⟩)
 ·exact .inr h
theorem jcx {K:Frag} {B:Addr->Prop} {H H':Hp} {a:Addr} {xs:List V} (n:¬ B a) (s:qY B H H') (h:SqT K H a xs):SqT K H' a xs:=by
 rcases h with (h | ⟨o,h⟩) | h
 ·exact .inl (.inl (s _ _ n h))
 ·exact .inl (.inr ⟨o,s _ _ n h⟩)
 ·exact .inr h
inductive Src (K:Frag) (B:Addr->Prop) (H:Hp) (a:Addr) (vs:List V):Prop where
 | l (n:∀ H',qY B H H'->SqL K H' a vs) (s:SqL K H a vs)
 | t (n:∀ H',qY B H H'->SqT K H' a vs) (s:SqT K H a vs)
theorem Rep.src {K:Frag} {B:Addr->Prop} {H:Hp} {v:V} {d:D} {ds:List D} (hb:HB B H) (r:Rep K B H v d) (h:itemsD d=some ds):∃ a vs,v=.ref a/\Src K B H a vs/\Reps K B H vs ds:=by
 cases r with
 | @tup a vs ds' e rs =>
  cases h;refine ⟨a,vs,rfl,.t (λH' sm=>jcx (B:=B) (λz=>?_) sm (SqT.of e)) (SqT.of e),rs⟩;exact hb.notT e z
 | @lst a vs ds' n e rs =>
  cases h;exact ⟨a,vs,rfl,.l (λH' sm=>qbC (B:=B) n sm (SqL.of e)) (SqL.of e),rs⟩
 | @scr a ns hs =>
  cases h;refine ⟨a,_,rfl,.l (λH' sm=>?_) hs.sq,Reps.of_ints _⟩;rcases hs with ⟨o,e⟩ | w
  ·refine qbC (B:=B) (λz=>?_) sm (.inl (.inr ⟨o,e⟩));exact hb.notF e z
  ·exact .inr w
 | _=>cases h
theorem zc2 (he:SE X C e c):SI X C tg e (.data c):=λB ρ ds h=>by
 obtain ⟨d,ed,hi⟩:=wa (show (ev C c ρ).bind itemsD=some ds from h);intro pins s σ H R I ⟨hb,er,q⟩;refine thn (he B ρ d ed pins s σ H (λv H'=>Same H H'/\Rep X.K B H' v d) I ⟨hb,er,λv H' s r=>⟨s,r⟩⟩) λv s1 ⟨x,H1,I1,r1,sm1,rep1⟩=>?_
 obtain ⟨a,vs,rfl,src,rvs⟩:=rep1.src (hb.same sm1) hi;cases r1
 have fp:∀ b∈[s1.heap.objs.size],yaz X pins H1 b:=λb hb=>by
  have e:b=s1.heap.objs.size:=by simpa using hb
  subst e;exact I1.fpOk (wF _) I1.fresh
 have hb1:=hb.same sm1;cases src with
 | l ns sq =>
  obtain ⟨its,rv,p,hz⟩:=I1.list sq;refine wpAny_pyIter_list p.isList ⟨s1.heap.objs.size,[s1.heap.objs.size],_,Itl X.K a,H1,rfl,I1.kept (t':=s1.toks) λb o e=>wm _ e,ybY a _,⟨_,wx _ rfl,rfl,rfl⟩,fp,q _ H1 sm1 ?_⟩;refine ⟨by rw [<-rvs.length];exact hz,λB' H' f2 hb' sm i d hd=>?_,λH' sm=>⟨vs,ns H' sm,by rw [rvs.length];exact wF _⟩⟩;have q':=ns H' sm;obtain ⟨x,ex,rx⟩:=rvs.get hd;refine ⟨⟨vs,x,q',ex⟩,λy H'' ⟨e1,e2⟩=>?_⟩;subst e1
  have:=e2 vs q'
  rw [ex] at this;cases this;exact ⟨Same.refl _,rx.shift hb1 sm f2⟩
 | t ns sq =>
  obtain ⟨its,rv,p,hz⟩:=I1.tuple sq;refine wpAny_pyIter_tuple (show s1.heap.IsTuple a its.toArray from p) ⟨s1.heap.objs.size,[s1.heap.objs.size],_,Itt X.K a,H1,rfl,I1.kept (t':=s1.toks) λb o e=>wm _ e,ybO a _,⟨_,wx _ rfl,rfl,rfl⟩,fp,q _ H1 sm1 ?_⟩;refine ⟨by rw [<-rvs.length];exact hz,λB' H' f2 hb' sm i d hd=>?_,λH' sm=>⟨vs,ns H' sm,by rw [rvs.length];exact wF _⟩⟩;have q':=ns H' sm;obtain ⟨x,ex,rx⟩:=rvs.get hd;refine ⟨⟨vs,x,q',ex⟩,λy H'' ⟨e1,e2⟩=>?_⟩;subst e1
  have:=e2 vs q'
  rw [ex] at this;cases this;exact ⟨Same.refl _,rx.shift hb1 sm f2⟩
theorem zaT:∀ (n:Nat) (lo:Int) (i:Nat) (d:D),(zj lo n)[i]?=some d->i<n/\d=.int (lo+i)
 | 0,_,_,_,h=>by simp [zj] at h
 | n+1,lo,0,d,h=>by simp [zj] at h;exact ⟨by omega,by simp [h]⟩
 | n+1,lo,i+1,d,h=>by
  simp only [zj,List.getElem?_cons_succ] at h;obtain ⟨h1,h2⟩:=zaT n (lo+1) i d h;exact ⟨by omega,by rw [h2];congr 1;push_cast;omega⟩
theorem zar:∀ (n:Nat) (lo:Int),(zj lo n).length=n
 | 0,_=>rfl
 | n+1,lo=>by simp [zj,zar n]
theorem ycM {K:Frag} {B:Addr->Prop} {H:Hp} {lo:Int} {n:Nat} (hz:n<=sizeLine):ItOk K B H (zj lo n) (Itr lo n) :=
 ⟨by rw [zar]; exact hz, λB' H' _ _ _ i d hd => by
  obtain ⟨h1,rfl⟩:=zaT n lo i d hd;refine ⟨h1,λx H'' ⟨e1,e2⟩=>?_⟩;subst e1;subst e2
  exact ⟨Same.refl _,.int _⟩,λH' _=>by rw [zar];exact wF _⟩
theorem qc2 {a:Expr} {ca:Code} {p pos:Pos} (hg:Gl X "range") (hm:X.mg "range"=none) (ha:SE X C a ca) (hs:starEach [a] X.env=[(false,eval a X.env)]):SI X C tg (.Call (.Name "range" p) [a] [] pos) (.rng (.cons ca .nil)):=λB ρ ds h=>by
 obtain ⟨dx,ex,h⟩:=wa (show (evs C (.cons ca .nil) ρ).bind rngD=some ds from h);have hpa:PA X [a] (tDs X.K B ρ dx):=yA ha jO hs B ρ dx ex;intro pins s σ H R I ⟨hb,er,q⟩;refine jbY hg hm hpa hs pins s σ H R I ⟨hb,er,λvs H1 sm1 r1=>?_⟩
 match dx,h with
 | [.int j],h =>
  simp only [rngD] at h;split at h
  ·rename_i hc;cases h;obtain ⟨v,rfl,rv⟩:=r1.one;cases rv;exact ⟨j,rfl,hc.1,hc.2.1,q _ H1 sm1 (ycM hc.2.2)⟩
  ·cases h
 | [.int i,.int j],h=>cases r1 with | cons _ r=>cases r with | cons _ r =>
   obtain ⟨_,_,h2⟩:=wa (show (ev C ca ρ).bind (λx=>(evs C .nil ρ).map λxs=>x::xs)=some [.int i,.int j] from ex);simp [evs] at h2
theorem yc2 {a b:Expr} {ca cb:Code} {p pos:Pos} (hg:Gl X "range") (hm:X.mg "range"=none) (ha:SE X C a ca) (hb':SE X C b cb) (hs:starEach [a,b] X.env=[(false,eval a X.env),(false,eval b X.env)]) (hs2:starEach [b] X.env=[(false,eval b X.env)]) :
  SI X C tg (.Call (.Name "range" p) [a,b] [] pos) (.rng (.cons ca (.cons cb .nil))):=λB ρ ds h=>by
 obtain ⟨dx,ex,h⟩:=wa (show (evs C (.cons ca (.cons cb .nil)) ρ).bind rngD=some ds from h);have hpa:PA X [a,b] (tDs X.K B ρ dx):=yA ha (yA hb' jO hs2) (by rw [hs,hs2]) B ρ dx ex;obtain ⟨d1,e1,ex⟩:=wa (show (ev C ca ρ).bind _=some dx from ex);obtain ⟨dr,e2,rfl⟩:=wb ex;obtain ⟨d2,e2,ex⟩:=wa (show (ev C cb ρ).bind _=some dr from e2);obtain ⟨dn,e3,rfl⟩:=wb ex;cases e3;intro pins s σ H R I ⟨hb,er,q⟩;refine zbZ hg hm hpa hs hs2 pins s σ H R I ⟨hb,er,λvs H1 sm1 r1=>?_⟩;cases r1 with
 | cons ra r =>
  obtain ⟨v2,rfl,rb⟩:=r.one;cases d1 with
  | int i =>
   cases d2 with
   | int j =>
    simp only [rngD] at h;split at h
    ·rename_i hc;cases h;cases ra;cases rb
     exact ⟨i,j,rfl,⟨hc.1,hc.2.1,hc.2.2.1,hc.2.2.2.1⟩,q _ H1 sm1 (ycM hc.2.2.2.2)⟩
    ·cases h
   | _=>cases h
  | _=>cases h
end
def Sq (t:Bool) (K:Frag) (H:Hp) (a:Addr) (xs:List V):Prop:=cond t (SqT K H a xs) (SqL K H a xs)
section
variable {X:Cx} {pins:List (Addr×Obj)} {σ:L2.St} {H:Hp} {s:Shared}
theorem _root_.L2.Inv.sseq {t:Bool} {a:Addr} {xs:List V} (I:L2.Inv X pins σ H s) (h:Sq t X.K H a xs):∃ its:List Value,Vals xs its/\SSeq t s.heap a its.toArray/\xs.length<=sizeLine:=by
 cases t
 ·obtain ⟨its,rv,p,hz⟩:=I.list h;exact ⟨its,rv,p.isList,hz⟩
 ·obtain ⟨its,rv,p,hz⟩:=I.tuple h;exact ⟨its,rv,p,hz⟩
theorem _root_.L2.Inv.sq_inj {t:Bool} {a:Addr} {xs ys:List V} (I:L2.Inv X pins σ H s) (h:Sq t X.K H a xs) (h':Sq t X.K H a ys):xs=ys:=by
 cases t
 ·exact I.list_inj h h'
 ·exact I.tuple_inj h h'
theorem _root_.L2.Inv.sq_ne {t:Bool} {a b:Addr} {xs:List V} (I:L2.Inv X pins σ H s) (h:Sq t X.K H a xs) (f:yaz X pins H b):a≠b:=λz=>by
 subst z
 have young:∀ o,X.K.lookup a=some o->False:=λo e=>by
  have hb:=I.ok.mod.kin a o e;rcases f.2.2.2.1 with q | q
  ·exact I.ok.noex a o hb q
  ·have q':=(I.ok.bs a o hb).1;rw [q] at q';cases q'
 have n:=f.1;cases t
 ·rcases h with (h | ⟨o,h⟩) | ⟨o,_,_,h,_⟩
  ·rw [n] at h;cases h
  ·rw [n] at h;cases h
  ·exact young o h
 ·rcases h with (h | ⟨o,h⟩) | ⟨o,_,_,h,_⟩
  ·rw [n] at h;cases h
  ·rw [n] at h;cases h
  ·exact young o h
theorem _root_.L2.Inv.drew {ch:List Addr} {T:Addr} {vs:List V} {us:List Value} {h':Heap} {t':Nat} (I:L2.Inv X pins σ H s) (hch:∀ b∈ch,yaz X pins H b) (k:∀ b o,b∉ch->s.heap.get? b=some o->h'.get? b=some o)
  (hT:s.heap.objs.size<=T) (ht:IsTupN h' T us.toArray) (rv:Vals vs us) (hz:vs.length<=sizeLine):L2.Inv X pins σ (upd H T (.tup vs)) { s with heap:=h',toks:=t' }:=by
 have hTn:H T=none:=I.hok.fresh hT;have nch:∀ b u,H b=some u->b∉ch:=λb u e z=>by have:=(hch b z).1;rw [e] at this;cases this
 refine I.step (g':=s.gens) (d':=s.drawn) (ch:=ch) (λb hb=>⟨(hch b hb).2.2.2.1,(hch b hb).2.1,(hch b hb).2.2.2.2.1,(hch b hb).2.2.2.2.2⟩) (λb o _ _ hc e _=>k b o hc e) (λb o _ _ hc e _=>⟨o.slots,k b o hc e⟩) (λb o _ e n=>?_) (λb o hc e=>⟨o,k b o hc e⟩) (λb xs e=>?_) (λb o u e=>?_) (λb ps e=>⟨#[],?_⟩) (λm hm=>?_) (λb u e=>?_) I.bare
 ·rw [zm (wQ (wO (wA e) hT))];exact n
 ·rw [zm (qu e hTn)];exact e
 ·rw [zm (qu e hTn)];exact e
 ·rw [zm (qu e hTn),e];simp
 ·obtain ⟨o,es,ep,ho,r⟩:=hm;exact ⟨o,es,ep,k _ o (λz=>(hch _ z).2.1 rfl) ho,r⟩
 ·by_cases hb:b=T
  ·subst hb;rw [zl] at e;cases e;exact ⟨hz,us,rv,ht⟩
  ·rw [zm hb] at e;refine (I.hok b u e).stay (λc v hc q=>k c v ?_ q) (λc q=>by rw [zm (qu q hTn)];exact q) λc xs q=>by rw [zm (qu q hTn)];exact q
   rcases hc with z | z
   ·rw [z];exact nch b u e
   ·exact nch c _ z
theorem _root_.L2.Inv.turns {ch:List Addr} {h':Heap} {t':Nat} (I:L2.Inv X pins σ H s) (hch:∀ b∈ch,yaz X pins H b) (k:∀ b o,b∉ch->s.heap.get? b=some o->h'.get? b=some o):L2.Inv X pins σ H { s with heap:=h',toks:=t' }:=by
 have nch:∀ b u,H b=some u->b∉ch:=λb u e z=>by have:=(hch b z).1;rw [e] at this;cases this
 refine I.step (g':=s.gens) (d':=s.drawn) (ch:=ch) (λb hb=>⟨(hch b hb).2.2.2.1,(hch b hb).2.1,(hch b hb).2.2.2.2.1,(hch b hb).2.2.2.2.2⟩) (λb o _ _ hc e _=>k b o hc e) (λb o _ _ hc e _=>⟨o.slots,k b o hc e⟩) (λb o _ e n=>n) (λb o hc e=>⟨o,k b o hc e⟩) (λb xs e=>e) (λb o u e=>e) (λb ps e=>⟨#[],by rw [e];simp⟩) (λm hm=>?_) (λb u e=>?_) I.bare
 ·obtain ⟨o,es,ep,ho,r⟩:=hm;exact ⟨o,es,ep,k _ o (λz=>(hch _ z).2.1 rfl) ho,r⟩
 ·refine (I.hok b u e).stay (λc v hc q=>k c v ?_ q) (λc q=>q) λc xs q=>q
  rcases hc with z | z
  ·rw [z];exact nch b u e
  ·exact nch c _ z
end
noncomputable def Ite (t:Bool) (K:Frag) (a:Addr):It :=
 ⟨λi H=>∃ xs x,Sq t K H a xs/\xs[i]?=some x,λi H v H'=>∃ T x,v=.ref T/\H T=none/\H'=upd H T (.tup [.int i,x])/\∀ xs,Sq t K H a xs->xs[i]?=some x,λi H=>∃ xs,Sq t K H a xs/\xs.length=i⟩
noncomputable def Itz (t u:Bool) (K:Frag) (a b:Addr):It :=
 ⟨λi H=>∃ xs ys x y,Sq t K H a xs/\Sq u K H b ys/\xs[i]?=some x/\ys[i]?=some y,
  λi H v H'=>∃ T x y,v=.ref T/\H T=none/\H'=upd H T (.tup [x,y])/\(∀ xs,Sq t K H a xs->xs[i]?=some x)/\∀ ys,Sq u K H b ys->ys[i]?=some y,
  λi H=>∃ xs ys,Sq t K H a xs/\Sq u K H b ys/\(xs[i]?=none\/ys[i]?=none)⟩
theorem nn (n i j:Nat) (h:i≠j):((n+i:Nat):Addr)≠((n+j:Nat):Addr):=λe=>h (by have e':n+i=n+j:=e;omega)
theorem zap {n:Nat} {a b:Addr} (h1:a≠n+4) (h2:a≠n+3) (h3:a≠n) (h4:a≠n+1) (k1:b≠n+4) (k2:b≠n+3) (k3:b≠n) (k4:b≠n+1):ZipApart (n+4) (n+2) (n+3) n (n+1) a b :=
 ⟨nn n 2 4 (by decide),nn n 3 4 (by decide),nn n 0 4 (by decide),nn n 1 4 (by decide),nn n 2 3 (by decide),nn n 2 0 (by decide),nn n 2 1 (by decide),nn n 3 0 (by decide),nn n 3 1 (by decide),nn n 0 1 (by decide),h1,h2,h3,h4,k1,k2,k3,k4⟩
theorem ybC:(2:Nat)<=sizeLine:=by rw [sizeLine_eq];decide
theorem jb7 {P:Program} {w:World} {K:Frag} {elts:List Expr} {kk:Nat} {pos:Pos} (t:Bool) (a it e:Addr) (hne:e≠it) :
  Turn P w K (.Tuple elts kk pos) (Ite t K a) [e,it] e (λi h=>(∃ old,IsEnum h e it i old)/\SItr t h it a i) where
 mem:=by simp
 obj:=λi h st b hb=>by
  have:b=e\/b=it:=by simpa using hb
  rcases this with z | z
  ·subst z;obtain ⟨old,q⟩:=st.1;exact ⟨_,q,λv z=>by have z':Data.fields _=Data.cell v:=z;cases z'⟩
  ·subst z;obtain ⟨o,n,ho,hc,hn,hd⟩:=st.2.ob;exact ⟨o,ho,λv z=>by rw [hd] at z;cases z⟩
 keep:=λi h h' st k=>⟨let ⟨old,q⟩:=st.1;⟨old,k e (by simp) _ q⟩,st.2.at λo q=>k it (by simp) o q⟩
 item:=by
  intro X hP hw hK hc i pins s σ H E I hf st hg;subst hP hw hK;obtain ⟨xs,x,hq,hx⟩:=hg;obtain ⟨its,rv,p,hz⟩:=I.sseq hq;obtain ⟨u,hu,ru⟩:=rv.get hx;have hil:i<its.toArray.size:=by simpa using (wu.mp hu).1
  have hea:e≠a:=(I.sq_ne hq (hf e (by simp))).symm;have W:=WalksT.enumerateD (jbA (prog:=X.prog) (w:=X.w) (A:=X.A.in1) (by simp [I.ok.hd hc]) t it a (p.ne_itr st.2) its.toArray) e hne (by simp [hne,hea]) (by simp);obtain ⟨old,he⟩:=st.1;refine zb3 hne hea he st.2 p (by simpa using hu) λh' tk tk' en si pr kp=>?_
  have hen:s.heap.objs.size≠e:=Nat.ne_of_gt (wA he)
  have hin:s.heap.objs.size≠it:=by
   obtain ⟨o,n,ho,_⟩:=st.2.ob;exact Nat.ne_of_gt (wA ho)
  have p':SSeq t h' a its.toArray:=p.at λo q=>kp _ _ hea.symm (p.ne_itr st.2) q
  have mid:(∃ x,IsEnumOut h' e it (i+1) x s.heap.objs.size)/\(SItr t h' it a (i+1)/\SSeq t h' a its.toArray)/\s.heap.objs.size≠e/\s.heap.objs.size≠it:=⟨⟨u,en⟩,⟨si,p'⟩,hen,hin⟩;refine ⟨_,rfl,W.go elts kk pos i s.heap.objs.size _ _ E mid λh'' st'' kp2=>?_⟩;have hTw:s.heap.objs.size∉[e,it]:=by simp [hen,hin]
  have sub:∀ b o,b∉[e,it]->s.heap.get? b=some o->h''.get? b=some o:=λb o hb q=>kp2 b o hb (kp b o (λz=>hb (by simp [z])) (λz=>hb (by simp [z])) q)
  have htT:IsTupN h'' s.heap.objs.size ([Value.int i tk',u]:List Value).toArray:=⟨_,kp2 _ _ hTw pr,rfl,rfl,_,rfl⟩;refine ⟨.ref s.heap.objs.size,upd H s.heap.objs.size (.tup [.int i,x]),I.drew (t':=tk) (λb hb=>hf b hb) sub (wF _) htT (.cons ⟨tk',rfl⟩ (.cons ru .nil)) ybC,rfl,⟨_,x,rfl,I.hok.fresh (wF _),rfl,λys hy=>by rw [I.sq_inj hy hq];exact hx⟩,⟨st''.1,st''.2.1⟩,λb hb=>?_⟩;have hbT:b≠s.heap.objs.size:=λz=>by subst z;exact hTw hb
  rw [zm hbT];exact (hf b hb).1
 done:=by
  intro X hP hw hK hc i pins s σ H E I hf st hg;subst hP hw hK;obtain ⟨xs,hq,hx⟩:=hg;obtain ⟨its,rv,p,hz⟩:=I.sseq hq;have hea:e≠a:=(I.sq_ne hq (hf e (by simp))).symm;have W:=WalksT.enumerateD (jbA (prog:=X.prog) (w:=X.w) (A:=X.A.in1) (by simp [I.ok.hd hc]) t it a (p.ne_itr st.2) its.toArray) e hne (by simp [hne,hea]) (by simp);have hsz:its.toArray.size=i:=by rw [vo,<-rv.length];exact hx
  refine W.done s _ E (by rw [hsz];exact ⟨st.1,st.2,p⟩) λh' tk kp=>⟨rfl,I.turns (t':=tk) (λb hb=>hf b hb) kp⟩
 self:=λA i s Q E st h=>let ⟨old,q⟩:=st.1;wpAny_pyIter_enum q h
theorem zcy {P:Program} {w:World} {K:Frag} {elts:List Expr} {kk:Nat} {pos:Pos} (t u:Bool) (a b:Addr) (n:Nat) :
  Turn P w K (.Tuple elts kk pos) (Itz t u K a b) [n+4,n+2,n+3,n,n+1] (n+4) (λi h=>IsZip h (n+4) (n+2) (n+3) .none/\IsPair h (n+2) (.ref n) (.ref (n+1))/\(∃ p q,IsPair h (n+3) p q)/\SItr t h n a i/\SItr u h (n+1) b i) where
 mem:=by simp
 obj:=λi h st c hc=>by
  have:c=n+4\/c=n+2\/c=n+3\/c=n\/c=n+1:=by simpa using hc
  obtain ⟨h1,h2,⟨p,q,h3⟩,h4,h5⟩:=st;rcases this with z | z | z | z | z<;>subst z
  ·exact ⟨_,h1,λv z=>by have z':Data.fields _=Data.cell v:=z;cases z'⟩
  ·exact ⟨_,h2,λv z=>by have z':Data.seq _ _=Data.cell v:=z;cases z'⟩
  ·exact ⟨_,h3,λv z=>by have z':Data.seq _ _=Data.cell v:=z;cases z'⟩
  ·obtain ⟨o,m,ho,hc,hn,hd⟩:=h4.ob;exact ⟨o,ho,λv z=>by rw [hd] at z;cases z⟩
  ·obtain ⟨o,m,ho,hc,hn,hd⟩:=h5.ob;exact ⟨o,ho,λv z=>by rw [hd] at z;cases z⟩
 keep:=λi h h' st k=>by
  obtain ⟨h1,h2,⟨p,q,h3⟩,h4,h5⟩:=st;exact ⟨k _ (by simp) _ h1,k _ (by simp) _ h2,⟨p,q,k _ (by simp) _ h3⟩,h4.at λo e=>k n (by simp) o e,h5.at λo e=>k (n+1) (by simp) o e⟩
 item:=by
  intro X hP hw hK hc i pins s σ H E I hf st hg;subst hP hw hK;obtain ⟨xs,ys,x,y,q1,q2,hx,hy⟩:=hg;obtain ⟨is1,rv1,p1,z1⟩:=I.sseq q1;obtain ⟨is2,rv2,p2,z2⟩:=I.sseq q2;obtain ⟨u1,hu1,ru1⟩:=rv1.get hx;obtain ⟨u2,hu2,ru2⟩:=rv2.get hy;obtain ⟨h1,h2,⟨p,q,h3⟩,h4,h5⟩:=st;have D:ZipApart (n+4) (n+2) (n+3) n (n+1) a b:=zap (I.sq_ne q1 (hf _ (by simp))) (I.sq_ne q1 (hf _ (by simp))) (I.sq_ne q1 (hf _ (by simp))) (I.sq_ne q1 (hf _ (by simp))) (I.sq_ne q2 (hf _ (by simp))) (I.sq_ne q2 (hf _ (by simp))) (I.sq_ne q2 (hf _ (by simp))) (I.sq_ne q2 (hf _ (by simp)));refine zcu D h1 h2 h3 h4 h5 p1 p2 (by simpa using hu1) (by simpa using hu2) λh' zz tz j1 j2 pr sz kp=>?_
  refine ⟨_,rfl,wpAny_letOwnedTupleGo_zip zz λh'' z'' s''=>?_⟩;have s'':Heap.SameBut (n+4) h' h'':=s'';have lz:n+4<s.heap.objs.size:=wA h1
  have lz':∀ i,i<=4->((n+i:Nat):Addr)≠s.heap.objs.size:=λi hi e=>by
   have e':n+i=s.heap.objs.size:=e;have l':n+4<s.heap.objs.size:=lz;omega
  have sub:∀ c o,c∉[n+4,n+2,n+3,n,n+1]->s.heap.get? c=some o->h''.get? c=some o:=λc o hc e =>
   s''.extBut _ _ (λw=>hc (by simp [w])) (kp c o (λw=>hc (by simp [w])) (λw=>hc (by simp [w])) (λw=>hc (by simp [w])) (λw=>hc (by simp [w])) e)
  have htT:IsTupN h'' s.heap.objs.size ([u1,u2]:List Value).toArray:=⟨_,s''.extBut _ _ (Ne.symm (lz' 4 (by decide))) pr,rfl,rfl,_,rfl⟩
  refine ⟨.ref s.heap.objs.size,upd H s.heap.objs.size (.tup [x,y]),I.drew (t':=s.toks) (λc hc=>hf c hc) sub (wF _) htT (.cons ru1 (.cons ru2 .nil)) ybC,rfl,
   ⟨_,x,y,rfl,I.fresh,rfl,λzs hz=>by rw [I.sq_inj hz q1];exact hx,λzs hz=>by rw [I.sq_inj hz q2];exact hy⟩,⟨z'',s''.extBut _ _ D.TIz (kp _ _ D.TIz D.TITO D.TIi1 D.TIi2 h2),⟨u1,u2,s''.extBut _ _ D.TOz tz⟩,j1.at λo e=>s''.extBut _ _ D.i1z e,j2.at λo e=>s''.extBut _ _ D.i2z e⟩,λc hc=>?_⟩
  have hcl:c≠s.heap.objs.size:=by
   have:c=n+4\/c=n+2\/c=n+3\/c=n\/c=n+1:=by simpa using hc
   rcases this with z | z | z | z | z<;>subst z
   ·exact lz' 4 (by decide)
   ·exact lz' 2 (by decide)
   ·exact lz' 3 (by decide)
   ·exact lz' 0 (by decide)
   ·exact lz' 1 (by decide)
  rw [zm hcl];exact (hf c hc).1
 done:=by
  intro X hP hw hK hc i pins s σ H E I hf st hg;subst hP hw hK;obtain ⟨xs,ys,q1,q2,hend⟩:=hg;obtain ⟨is1,rv1,p1,z1⟩:=I.sseq q1;obtain ⟨is2,rv2,p2,z2⟩:=I.sseq q2;obtain ⟨h1,h2,⟨p,q,h3⟩,h4,h5⟩:=st;have D:ZipApart (n+4) (n+2) (n+3) n (n+1) a b:=zap (I.sq_ne q1 (hf _ (by simp))) (I.sq_ne q1 (hf _ (by simp))) (I.sq_ne q1 (hf _ (by simp))) (I.sq_ne q1 (hf _ (by simp))) (I.sq_ne q2 (hf _ (by simp))) (I.sq_ne q2 (hf _ (by simp))) (I.sq_ne q2 (hf _ (by simp))) (I.sq_ne q2 (hf _ (by simp)));have l1:=rv1.length;have l2:=rv2.length
  have hend':is1.toArray[i]?=none\/is2.toArray[i]?=none:=by
   rcases hend with z | z
   ·exact .inl (by have:=List.getElem?_eq_none_iff.mp z;simp;omega)
   ·exact .inr (by have:=List.getElem?_eq_none_iff.mp z;simp;omega)
  exact qcu (I.ok.hd hc) D h1 h2 h3 h4 h5 p1 p2 hend' λh' kp=>⟨rfl,I.turns (t':=s.toks) (λc hc=>hf c hc) λc o hc e=>kp c o (λw=>hc (by simp [w])) (λw=>hc (by simp [w])) (λw=>hc (by simp [w])) (λw=>hc (by simp [w])) e⟩
 self:=λA i s Q E st h=>wpAny_pyIter_zip st.1 h
def BO (B O:Addr->Prop):Addr->Prop:=λb=>B b\/O b
noncomputable def tkh (ks:List Int):Int:=reduceHash (Builtin.Tuple.tupleHashOf (ks.map hashInt))
noncomputable def qej (x:List Int×Addr×Addr):DictEntry:={ hash:=tkh x.1,key:=.ref x.2.1,val:=.ref x.2.2 }
def EntR (K:Frag) (B O G:Addr->Prop) (H:Hp) (x:List Int×Addr×Addr) (e:List Int×List D):Prop :=
 x.1=e.1/\H x.2.1=some (.tup (x.1.map V.int))/\O x.2.2/\G x.2.2/\∃ vs,H x.2.2=some (.lst vs)/\Reps K (BO B O) H vs e.2
structure GrpR (K:Frag) (B O G:Addr->Prop) (H:Hp) (a:Addr) (es:List (List Int×List D)) (en:Array DictEntry) (ep:Nat) (xs:List (List Int×Addr×Addr)):Prop where
 o:O a
 h:H a=some (yd4 a en ep)
 sy:(a==sysModules)=false
 en:en.toList=xs.map qej
 ks:(xs.map (·.1)).Nodup
 ls:(xs.map (·.2.2)).Nodup
 len:xs.length<=1000
 al:Paired (EntR K B O G H) xs es
structure FR (K:Frag) (B:Addr->Prop) (H0:Hp) (O:Addr->Prop) (σ:L2.St) (H:Hp) (ρ:List Sl):Prop where
 o0:∀ a,O a->H0 a=none
 same:Same H0 H
 hb:HB (BO B O) H
 hb0:HB B H0
 pu:∀ (i:Nat) (d:D),ρ[i]?=some (.pu d)->∃ v,σ[i]?=some (some v)/\Rep K (BO B O) H v d
 ow:∀ (i:Nat) (ds:List D),ρ[i]?=some (.ow ds)->∃ a vs,σ[i]?=some (some (.ref a))/\O a/\H a=some (.lst vs)/\Reps K (BO B O) H vs ds
 ap:∀ (i j:Nat) (ds es:List D) (a:Addr),ρ[i]?=some (.ow ds)->ρ[j]?=some (.ow es)->σ[i]?=some (some (.ref a))->σ[j]?=some (some (.ref a))->i=j
 g1:∀ (i j:Nat) es es',ρ[i]?=some (.gr es)->ρ[j]?=some (.gr es')->i=j
 gs:∃ G:Addr->Prop,(∀ (i:Nat) (ds:List D) (a:Addr),ρ[i]?=some (.ow ds)->σ[i]?=some (some (.ref a))->¬ G a) /\
  ∀ (i:Nat) es,ρ[i]?=some (.gr es)->∃ a en ep xs,σ[i]?=some (some (.ref a))/\GrpR K B O G H a es en ep xs
structure Ext (B O:Addr->Prop) (H:Hp) (O':Addr->Prop) (H':Hp):Prop where
 fr:∀ b,O' b->O b\/H b=none
 sm:qY (BO B O) H H'
 dom:∀ b o,H b=some o->∃ o',H' b=some o'
section
variable {K:Frag} {B O O1 O2:Addr->Prop} {H0 H H1 H2:Hp} {σ:L2.St} {ρ ρ':List Sl}
theorem Ext.of_same (s:Same H H1):Ext B O H O H1:=⟨λ_ h=>.inl h,λb o _ e=>s b o e,λb o e=>⟨o,s b o e⟩⟩
theorem Ext.refl:Ext B O H O H:=Ext.of_same (Same.refl H)
theorem Ext.trans (a:Ext B O H O1 H1) (b:Ext B O1 H1 O2 H2):Ext B O H O2 H2:=by
 refine ⟨λc h=>?_,λc o nb e=>?_,λc o e=>?_⟩
 ·rcases b.fr c h with q | q
  ·exact a.fr c q
  ·right
   cases e:H c with
   | none=>rfl
   | some o=>obtain ⟨o',e'⟩:=a.dom c o e;rw [q] at e';cases e'
 ·refine b.sm c o (λz=>?_) (a.sm c o nb e);rcases z with z | z
  ·exact nb (.inl z)
  ·rcases a.fr c z with q | q
   ·exact nb (.inr q)
   ·rw [q] at e;cases e
 ·obtain ⟨o',e'⟩:=a.dom c o e;exact b.dom c o' e'
theorem EntR.same {G:Addr->Prop} (s:Same H H1) {x:List Int×Addr×Addr} {e:List Int×List D} (h:EntR K B O G H x e):EntR K B O G H1 x e:=by
 obtain ⟨a,b,c,d,vs,f,g⟩:=h;exact ⟨a,s _ _ b,c,d,vs,s _ _ f,g.same s⟩
theorem GrpR.same {G:Addr->Prop} {a:Addr} {es:List (List Int×List D)} {en:Array DictEntry} {ep:Nat} {xs:List (List Int×Addr×Addr)} (s:Same H H1) (g:GrpR K B O G H a es en ep xs):GrpR K B O G H1 a es en ep xs :=
 ⟨g.o,s _ _ g.h,g.sy,g.en,g.ks,g.ls,g.len,L2.Paired.mapP g.al λ_ _ z=>z.same s⟩
theorem GrpR.shift {G G':Addr->Prop} {a:Addr} {es:List (List Int×List D)} {en:Array DictEntry} {ep:Nat} {xs:List (List Int×Addr×Addr)} (g:GrpR K B O G H a es en ep xs)
  (hb:HB (BO B O) H) (sm:qY (BO B O) H H1) (ha:H1 a=H a) (hl:∀ l,O l->G l->H1 l=H l) (hO:∀ b,(b=a\/G b)->O b->O1 b) (hG:∀ b o,H b=some o->G b->G' b) (hol:∀ b,BO B O1 b->BO B O b\/H b=none):GrpR K B O1 G' H1 a es en ep xs:=by
 refine ⟨hO _ (.inl rfl) g.o,by rw [ha];exact g.h,g.sy,g.en,g.ks,g.ls,g.len,L2.Paired.mapP g.al λx e z=>?_⟩;obtain ⟨z1,z2,z3,z4,vs,z5,z6⟩:=z;exact ⟨z1,sm _ _ (hb.notT z2) z2,hO _ (.inr z4) z3,hG _ _ z5 z4,vs,by rw [hl _ z3 z4];exact z5,z6.shift hb sm hol⟩
theorem FR.grow (F:FR K B H0 O σ H ρ) (s:Same H H1):FR K B H0 O σ H1 ρ where
 o0:=F.o0
 same:=F.same.trans s
 hb:=F.hb.same s
 hb0:=F.hb0
 pu:=λi d e=>let ⟨v,q,r⟩:=F.pu i d e;⟨v,q,r.same s⟩
 ow:=λi ds e=>let ⟨a,vs,q,o,h,r⟩:=F.ow i ds e;⟨a,vs,q,o,s _ _ h,r.same s⟩
 ap:=F.ap
 g1:=F.g1
 gs:=let ⟨G,g1,g2⟩:=F.gs;⟨G,g1,λi es e=>let ⟨a,en,ep,xs,q,g⟩:=g2 i es e;⟨a,en,ep,xs,q,g.same s⟩⟩
theorem FR.nb (F:FR K B H0 O σ H ρ) {a:Addr} (o:O a):¬ B a:=λz=>by
 exact F.hb0.notN (F.o0 a o) z
theorem FR.hbB (F:FR K B H0 O σ H ρ):HB B H:=λb z=>F.hb b (.inl z)
theorem FR.erP (F:FR K B H0 O σ H ρ):ER K (BO B O) H σ (vP ρ):=λi d e=>by
 unfold vP at e;rw [wz] at e;cases q:ρ[i]? with
 | none=>rw [q] at e;cases e
 | some s =>
  rw [q] at e;cases s with
  | pu x =>
   have e':x=d:=wC (wC e);rw [<-e'];exact F.pu i x q
  | un=>cases e
  | ow ds=>cases e
  | gr es=>cases e
theorem jbC:∀ xs:List (List Int×Addr×Addr),Vals (xs.map λx=>V.ref x.2.2) (xs.map ((·.val)∘qej))
 | []=>.nil
 | _::r=>.cons rfl (jbC r)
theorem zbD {G:Addr->Prop} (f:∀ {l:Addr} {vs:List V} {ds:List D},O l->H l=some (.lst vs)->Reps K (BO B O) H vs ds->Rep K B H (.ref l) (.lst ds)):∀ {xs:List (List Int×Addr×Addr)} {es:List (List Int×List D)},Paired (EntR K B O G H) xs es ->
  Reps K B H (xs.map λx=>V.ref x.2.2) (es.map λe=>.lst e.2)
 | _,_,.nil=>.nil
 | _,_,.cons ⟨_,_,o,_,_,h,r⟩ t=>.cons (f o h r) (zbD f t)
theorem FR.erA (F:FR K B H0 O σ H ρ):ER K B H σ (vA ρ):=λi d e=>by
 unfold vA at e;rw [wz] at e;cases q:ρ[i]? with
 | none=>rw [q] at e;cases e
 | some s =>
  rw [q] at e;cases s with
  | pu x =>
   have e':x=d:=wC (wC e);rw [<-e'];obtain ⟨v,q,r⟩:=F.pu i x q;exact ⟨v,q,r.less λb z=>.inl z⟩
  | un=>cases e
  | ow ds =>
   have e':D.lst ds=d:=wC (wC e);rw [<-e'];obtain ⟨a,vs,q,o,h,r⟩:=F.ow i ds q;exact ⟨_,q,.lst (F.nb o) h (r.less λb z=>.inl z)⟩
  | gr es =>
   have e':D.grp (es.map λe=>.lst e.2)=d:=wC (wC e);rw [<-e'];obtain ⟨G,_,g2⟩:=F.gs;obtain ⟨a,en,ep,xs,q,g⟩:=g2 i es q;refine ⟨_,q,.grp (vs:=xs.map λx=>.ref x.2.2) (F.nb g.o) g.h g.sy (by rw [wG];exact wU g.len (by rw [sizeLine_eq];decide)) ?_ ?_⟩
   ·rw [g.en,wM];exact jbC xs
   ·exact zbD (λo h r=>.lst (F.nb o) h (r.less λb z=>.inl z)) g.al
theorem wc {α:Type} {l:List α} {i j:Nat} {x y:α} (h:(l.set i x)[j]?=some y):(j=i/\y=x)\/(j≠i/\l[j]?=some y):=by
 by_cases e:j=i
 ·subst e
  have hl:j<l.length:=by
   have:=(wu.mp h).1
   simpa using this
  rw [vt hl] at h;exact .inl ⟨rfl,(wC h).symm⟩
 ·rw [wH (Ne.symm e)] at h;exact .inr ⟨e,h⟩
theorem FR.set {i:Nat} {v:V} {d:D} (F:FR K B H0 O σ H ρ) (hi:i<σ.length) (r:Rep K (BO B O) H v d):FR K B H0 O (σ.set i (some v)) H (ρ.set i (.pu d)) where
 o0:=F.o0
 same:=F.same
 hb:=F.hb
 hb0:=F.hb0
 pu:=λj d' e=>by
  rcases wc e with ⟨rfl,e'⟩ | ⟨ne,e⟩
  ·cases e';exact ⟨v,vt hi,r⟩
  ·obtain ⟨w,q,rw'⟩:=F.pu j d' e;exact ⟨w,by rw [wH (Ne.symm ne)];exact q,rw'⟩
 ow:=λj ds e=>by
  rcases wc e with ⟨rfl,e'⟩ | ⟨ne,e⟩
  ·cases e'
  ·obtain ⟨a,vs,q,o,h,rs⟩:=F.ow j ds e;exact ⟨a,vs,by rw [wH (Ne.symm ne)];exact q,o,h,rs⟩
 ap:=λj k ds es a e1 e2 q1 q2=>by
  rcases wc e1 with ⟨rfl,e'⟩ | ⟨n1,e1⟩
  ·cases e'
  ·rcases wc e2 with ⟨rfl,e'⟩ | ⟨n2,e2⟩
   ·cases e'
   ·rw [wH (Ne.symm n1)] at q1;rw [wH (Ne.symm n2)] at q2;exact F.ap j k ds es a e1 e2 q1 q2
 g1:=λj k es es' e1 e2=>by
  rcases wc e1 with ⟨rfl,e'⟩ | ⟨n1,e1⟩
  ·cases e'
  ·rcases wc e2 with ⟨rfl,e'⟩ | ⟨n2,e2⟩
   ·cases e'
   ·exact F.g1 j k es es' e1 e2
 gs:=by
  obtain ⟨G,g1,g2⟩:=F.gs;refine ⟨G,λj ds a e q=>?_,λj es e=>?_⟩
  ·rcases wc e with ⟨rfl,e'⟩ | ⟨ne,e⟩
   ·cases e'
   ·rw [wH (Ne.symm ne)] at q;exact g1 j ds a e q
  ·rcases wc e with ⟨rfl,e'⟩ | ⟨ne,e⟩
   ·cases e'
   ·obtain ⟨a,en,ep,xs,q,g⟩:=g2 j es e;exact ⟨a,en,ep,xs,by rw [wH (Ne.symm ne)];exact q,g⟩
theorem FR.setM:∀ {is:List Nat} {vs:List V} {ds:List D} {σ:L2.St} {ρ:List Sl},FR K B H0 O σ H ρ->(∀ i∈is,i<σ.length)->Reps K (BO B O) H vs ds->FR K B H0 O (ya1 is vs σ) H (puM is ds ρ)
 | [],_,_,_,_,F,_,r=>by cases r<;>exact F
 | _::_,_,_,_,_,F,_,.nil=>F
 | i::is,_,_,σ,ρ,F,hi,.cons a r=>by
  rw [ya1,puM];exact FR.setM (F.set (hi i (by simp)) a) (λj hj=>by simpa using hi j (by simp [hj])) r
theorem FR.tgt {t:Tgt} {v:V} {d:D} {Q:L2.St->Hp->Prop} (F:FR K B H0 O σ H ρ) (ht:puT t d ρ=some ρ') (hi:∀ i∈t.ixs,i<σ.length) (r:Rep K (BO B O) H v d)
  (q:∀ σ',FR K B H0 O σ' H ρ'->σ'.length=σ.length->Q σ' H):gT t v σ H Q:=by
 cases t with
 | one i =>
  cases ht;exact q _ (F.set (hi i (by simp [Tgt.ixs])) r) (by simp)
 | many is =>
  cases d with
  | tup ds =>
   simp only [puT] at ht;split at ht
   ·rename_i hl;cases ht;obtain ⟨a,vs,rfl,ha,ra⟩:=r.tupD;exact ⟨a,vs,rfl,ha,by rw [ra.length];exact hl,q _ (F.setM hi ra) (yab _ _ _)⟩
   ·cases ht
  | _=>cases ht
theorem FR.own {i:Nat} {a:Addr} {vs:List V} {ds:List D} (F:FR K B H0 O σ H ρ) (hi:i<σ.length) (s:Same H H1) (hf:H a=none) (ha:H1 a=some (.lst vs)) (r:Reps K B H1 vs ds) (hn:jaC ds=true) :
  FR K B H0 (λb=>O b\/b=a) (σ.set i (some (.ref a))) H1 (ρ.set i (.ow ds))/\Ext B O H (λb=>O b\/b=a) H1:=by
 have hol:∀ b,BO B (λb=>O b\/b=a) b->BO B O b\/H b=none:=λb z=>by
  rcases z with z | z | z
  ·exact .inl (.inl z)
  ·exact .inl (.inr z)
  ·exact .inr (z▸hf)
 refine ⟨⟨λb z=>?_,F.same.trans s,λb z=>?_,F.hb0,λj d e=>?_,λj es e=>?_,λj k ds1 ds2 b e1 e2 q1 q2=>?_,λj k es es' e1 e2=>?_,?_⟩,⟨λb z=>?_,λb o _ e=>s b o e,λb o e=>⟨o,s b o e⟩⟩⟩
 ·rcases z with z | z
  ·exact F.o0 b z
  ·rw [z];exact F.same.free hf
 ·rcases z with z | z | z
  ·exact F.hb.same s b (.inl z)
  ·exact F.hb.same s b (.inr z)
  ·exact .inl ⟨vs,z▸ha⟩
 ·rcases wc e with ⟨rfl,e'⟩ | ⟨ne,e⟩
  ·cases e'
  ·obtain ⟨w,q,rw'⟩:=F.pu j d e;exact ⟨w,by rw [wH (Ne.symm ne)];exact q,(rw'.holes hol).same s⟩
 ·rcases wc e with ⟨rfl,e'⟩ | ⟨ne,e⟩
  ·cases e';exact ⟨a,vs,vt hi,.inr rfl,ha,r.clean hn⟩
  ·obtain ⟨b,ws,q,o,h,rs⟩:=F.ow j es e;exact ⟨b,ws,by rw [wH (Ne.symm ne)];exact q,.inl o,s _ _ h,(rs.holes hol).same s⟩
 ·have old:∀ (m:Nat) (es:List D),ρ[m]?=some (.ow es)->σ[m]?=some (some (.ref a))->False:=λm es e q=>by
   obtain ⟨b,ws,q',o,h,_⟩:=F.ow m es e;rw [q] at q';cases q'
   rw [hf] at h;cases h
  rcases wc e1 with ⟨rfl,e1'⟩ | ⟨n1,f1⟩
  ·rcases wc e2 with ⟨rfl,e2'⟩ | ⟨n2,f2⟩
   ·rfl
   ·rw [vt hi] at q1;cases q1;rw [wH (Ne.symm n2)] at q2;exact (old k _ f2 q2).elim
  ·rw [wH (Ne.symm n1)] at q1;rcases wc e2 with ⟨rfl,e2'⟩ | ⟨n2,f2⟩
   ·rw [vt hi] at q2;cases q2;exact (old j _ f1 q1).elim
   ·rw [wH (Ne.symm n2)] at q2;exact F.ap j k _ _ b f1 f2 q1 q2
 ·rcases wc e1 with ⟨rfl,e'⟩ | ⟨n1,e1⟩
  ·cases e'
  ·rcases wc e2 with ⟨rfl,e'⟩ | ⟨n2,e2⟩
   ·cases e'
   ·exact F.g1 j k es es' e1 e2
 ·obtain ⟨G,g1,g2⟩:=F.gs;refine ⟨λb=>G b/\b≠a,λj es b e q=>?_,λj es e=>?_⟩
  ·rcases wc e with ⟨rfl,e'⟩ | ⟨ne,e⟩
   ·rw [vt hi] at q;cases q;exact λz=>z.2 rfl
   ·rw [wH (Ne.symm ne)] at q;exact λz=>g1 j es b e q z.1
  ·rcases wc e with ⟨rfl,e'⟩ | ⟨ne,e⟩
   ·cases e'
   ·obtain ⟨b,en,ep,xs,q,g⟩:=g2 j es e;refine ⟨b,en,ep,xs,by rw [wH (Ne.symm ne)];exact q,(g.shift (O1:=λb=>O b\/b=a) (G':=λb=>G b/\b≠a) F.hb (λ_ _ _ e=>e) rfl (λ_ _ _=>rfl) (λ_ _ z=>.inl z) (λb o e z=>⟨z,λq=>by rw [q,hf] at e;cases e⟩) hol).same s⟩
 ·rcases z with z | z
  ·exact .inl z
  ·exact .inr (z▸hf)
theorem FR.write {i:Nat} {a:Addr} {ws:List V} {ds es:List D} (F:FR K B H0 O σ H ρ) (hi:ρ[i]?=some (.ow ds)) (hs:σ[i]?=some (some (.ref a))) (r:Reps K (BO B O) H ws es) :
  FR K B H0 O σ (upd H a (.lst ws)) (ρ.set i (.ow es))/\Ext B O H O (upd H a (.lst ws)):=by
 obtain ⟨a',vs',q',o,h,rs⟩:=F.ow i ds hi;rw [hs] at q';cases q'
 have sb:qY (BO B O) H (upd H a (.lst ws)):=λb ob nb e=>by rw [zm (λz=>nb (by rw [z];exact .inr o))];exact e
 refine ⟨⟨F.o0,λb ob e=>?_,λb z=>?_,F.hb0,λj d e=>?_,λj es' e=>?_,λj k ds1 ds2 b e1 e2 q1 q2=>?_,λj k es1 es2 e1 e2=>?_,?_⟩,⟨λb z=>.inl z,sb,λb ob e=>?_⟩⟩
 ·rw [zm (λz=>by rw [z,F.o0 a o] at e;cases e)];exact F.same b ob e
 ·by_cases hb:b=a
  ·exact .inl ⟨ws,by rw [hb];exact zl⟩
  ·exact (F.hb b z).imp (λ⟨xs,e⟩=>⟨xs,by rw [zm hb];exact e⟩) λ⟨es,ep,e⟩=>⟨es,ep,by rw [zm hb];exact e⟩
 ·rcases wc e with ⟨rfl,e'⟩ | ⟨ne,e⟩
  ·cases e'
  ·obtain ⟨w,q,rw'⟩:=F.pu j d e;exact ⟨w,q,rw'.mono F.hb sb⟩
 ·rcases wc e with ⟨rfl,e'⟩ | ⟨ne,e⟩
  ·cases e';exact ⟨a,ws,hs,o,zl,r.mono F.hb sb⟩
  ·obtain ⟨b,us,q,ob,hb,rb⟩:=F.ow j es' e;have nba:b≠a:=λz=>ne (F.ap j i _ _ a e hi (z▸q) hs)
   exact ⟨b,us,q,ob,by rw [zm nba];exact hb,rb.mono F.hb sb⟩
 ·rcases wc e1 with ⟨rfl,e1'⟩ | ⟨n1,f1⟩
  ·rcases wc e2 with ⟨rfl,e2'⟩ | ⟨n2,f2⟩
   ·rfl
   ·exact F.ap _ _ _ _ b hi f2 q1 q2
  ·rcases wc e2 with ⟨rfl,e2'⟩ | ⟨n2,f2⟩
   ·exact F.ap _ _ _ _ b f1 hi q1 q2
   ·exact F.ap _ _ _ _ b f1 f2 q1 q2
 ·rcases wc e1 with ⟨rfl,e'⟩ | ⟨n1,e1⟩
  ·cases e'
  ·rcases wc e2 with ⟨rfl,e'⟩ | ⟨n2,e2⟩
   ·cases e'
   ·exact F.g1 j k es1 es2 e1 e2
 ·obtain ⟨G,g1,g2⟩:=F.gs;have ng:¬ G a:=g1 i ds a hi hs;refine ⟨G,λj es b e q=>?_,λj es e=>?_⟩
  ·rcases wc e with ⟨rfl,e'⟩ | ⟨ne,e⟩
   ·rw [hs] at q;cases q;exact ng
   ·exact g1 j es b e q
  ·rcases wc e with ⟨rfl,e'⟩ | ⟨ne,e⟩
   ·cases e'
   ·obtain ⟨b,en,ep,xs,q,g⟩:=g2 j es e;have nba:b≠a:=λz=>by have:=g.h;rw [z,h] at this;cases this
    exact ⟨b,en,ep,xs,q,g.shift F.hb sb (zm nba) (λl _ gl=>zm λz=>ng (z▸gl)) (λ_ _ z=>z) (λ_ _ _ z=>z) λ_ z=>.inl z⟩
 ·by_cases hb:b=a
  ·exact ⟨_,by rw [hb];exact zl⟩
  ·exact ⟨ob,by rw [zm hb];exact e⟩
theorem FR.frz {i:Nat} {ds:List D} (F:FR K B H0 O σ H ρ) (hi:ρ[i]?=some (.ow ds)):∃ O',FR K B H0 O' σ H (ρ.set i (.pu (.lst ds)))/\Ext B O H O' H:=by
 obtain ⟨a,vs,q,o,h,rs⟩:=F.ow i ds hi;have less:∀ b,BO B (λb=>O b/\b≠a) b->BO B O b:=λb z=>z.elim .inl λz=>.inr z.1
 refine ⟨λb=>O b/\b≠a,⟨λb z=>F.o0 b z.1,F.same,λb z=>F.hb b (less b z),F.hb0,λj d e=>?_,λj es e=>?_,λj k ds1 ds2 b e1 e2 q1 q2=>?_,λj k es1 es2 e1 e2=>?_,?_⟩,⟨λb z=>.inl z.1,λ_ _ _ e=>e,λ_ ob e=>⟨ob,e⟩⟩⟩
 ·rcases wc e with ⟨rfl,e'⟩ | ⟨ne,e⟩
  ·cases e';exact ⟨_,q,.lst (λz=>z.elim (F.nb o) λz=>z.2 rfl) h (rs.less less)⟩
  ·obtain ⟨w,q,rw'⟩:=F.pu j d e;exact ⟨w,q,rw'.less less⟩
 ·rcases wc e with ⟨rfl,e'⟩ | ⟨ne,e⟩
  ·cases e'
  ·obtain ⟨b,us,qb,ob,hb,rb⟩:=F.ow j es e;exact ⟨b,us,qb,⟨ob,λz=>ne (F.ap j i _ _ a e hi (z▸qb) q)⟩,hb,rb.less less⟩
 ·rcases wc e1 with ⟨rfl,e'⟩ | ⟨n1,e1⟩
  ·cases e'
  ·rcases wc e2 with ⟨rfl,e'⟩ | ⟨n2,e2⟩
   ·cases e'
   ·exact F.ap _ _ _ _ b e1 e2 q1 q2
 ·rcases wc e1 with ⟨rfl,e'⟩ | ⟨n1,e1⟩
  ·cases e'
  ·rcases wc e2 with ⟨rfl,e'⟩ | ⟨n2,e2⟩
   ·cases e'
   ·exact F.g1 j k es1 es2 e1 e2
 ·obtain ⟨G,g1,g2⟩:=F.gs;have ng:¬ G a:=g1 i ds a hi q;refine ⟨G,λj es b e q=>?_,λj es e=>?_⟩
  ·rcases wc e with ⟨rfl,e'⟩ | ⟨ne,e⟩
   ·cases e'
   ·exact g1 j es b e q
  ·rcases wc e with ⟨rfl,e'⟩ | ⟨ne,e⟩
   ·cases e'
   ·obtain ⟨b,en,ep,xs,qb,g⟩:=g2 j es e;have nba:b≠a:=λz=>by have:=g.h;rw [z,h] at this;cases this
    exact ⟨b,en,ep,xs,qb,g.shift F.hb (λ_ _ _ e=>e) rfl (λ_ _ _=>rfl) (λc z o=>⟨o,λy=>z.elim (λw=>nba (w▸y)) λw=>ng (y▸w)⟩) (λ_ _ _ z=>z) λc z=>.inl (less c z)⟩
end
def tFl (K:Frag) (B:Addr->Prop) (H0:Hp) (O:Addr->Prop) (ρ:List Sl) (r:Fl):TS:=λD σ H=>FR K B H0 O σ H ρ/\match r with
 | .nx ρ'=>∀ O' σ' H',Ext B O H O' H'->FR K B H0 O' σ' H' ρ'->σ'.length=σ.length->D.nx σ' H'
 | .bk ρ'=>∀ O' σ' H',Ext B O H O' H'->FR K B H0 O' σ' H' ρ'->σ'.length=σ.length->D.bk σ' H'
 | .ct ρ'=>∀ O' σ' H',Ext B O H O' H'->FR K B H0 O' σ' H' ρ'->σ'.length=σ.length->D.ct σ' H'
 | .rt d=>∀ v H',Same H0 H'->Rep K B H' v d->D.rt v H'
 | .xc=>False
def SS (X:Cx) (C:Tab) (st:Stmt) (s:Stm):Prop:=∀ B H0 O ρ r,ex C s ρ=some r->PS X st (tFl X.K B H0 O ρ r)
def SSs (X:Cx) (C:Tab) (sts:List Stmt) (s:Stms):Prop:=∀ B H0 O ρ r,exs C s ρ=some r->PSs X sts (tFl X.K B H0 O ρ r)
theorem _root_.L2.PS.imp {X:Cx} {e:Stmt} {t t':TS} (h:PS X e t) (i:∀ D σ H,t' D σ H->t D σ H):PS X e t':=λpins s σ H D I q=>h pins s σ H D I (i _ _ _ q)
theorem _root_.L2.PSs.imp {X:Cx} {e:List Stmt} {t t':TS} (h:PSs X e t) (i:∀ D σ H,t' D σ H->t D σ H):PSs X e t':=λpins s σ H D I q=>h pins s σ H D I (i _ _ _ q)
theorem qam {K:Frag} {B:Addr->Prop} {H0:Hp} {O O1:Addr->Prop} {ρ ρ1:List Sl} {r:Fl} {D:Ends} {σ σ1:L2.St} {H H1:Hp} (h:tFl K B H0 O ρ r D σ H) (x:Ext B O H O1 H1) (F:FR K B H0 O1 σ1 H1 ρ1) (hl:σ1.length=σ.length):tFl K B H0 O1 ρ1 r D σ1 H1:=by
 refine ⟨F,?_⟩;cases r with
 | nx ρ'=>exact λO' σ' H' x' F' l'=>h.2 O' σ' H' (x.trans x') F' (l'.trans hl)
 | bk ρ'=>exact λO' σ' H' x' F' l'=>h.2 O' σ' H' (x.trans x') F' (l'.trans hl)
 | ct ρ'=>exact λO' σ' H' x' F' l'=>h.2 O' σ' H' (x.trans x') F' (l'.trans hl)
 | rt d=>exact h.2
 | xc=>exact h.2
def qeu (X:Cx) (C:Tab) (s:Stms):TS:=λD σ H=>∃ B H0 O ρ r,exs C s ρ=some r/\tFl X.K B H0 O ρ r D σ H
section
variable {X:Cx} {C:Tab}
theorem SSs.any {sts:List Stmt} {s:Stms} (h:SSs X C sts s):PSs X sts (qeu X C s):=λpins sh σ H D I ⟨B,H0,O,ρ,r,e,q⟩=>h B H0 O ρ r e pins sh σ H D I q
theorem jc2:SSs X C [] .nil:=λB H0 O ρ r e=>by
 cases e;exact pss_nil.imp λD σ H ⟨F,q⟩=>q O σ H Ext.refl F rfl
theorem qcy {st:Stmt} {sts:List Stmt} {s:Stm} {ss:Stms} (h1:SS X C st s) (h2:SSs X C sts ss):SSs X C (st::sts) (.cons s ss):=λB H0 O ρ r e=>by
 obtain ⟨f,ef,e⟩:=wa (show (ex C s ρ).bind (λf=>match f with | .nx ρ'=>exs C ss ρ' | .xc=>none | f=>some f)=some r from e);refine (zal (h1 B H0 O ρ f ef) h2.any).imp λD σ H q=>?_
 cases f with
 | nx ρ1=>exact ⟨q.1,λO' σ' H' x F l=>⟨B,H0,O',ρ1,r,e,qam q x F l⟩⟩
 | bk ρ1=>cases e;exact q
 | ct ρ1=>cases e;exact q
 | rt d=>cases e;exact q
 | xc=>cases e
theorem zc3 {sts:List Stmt} {i:Nat} {ss:Stms} (h:SSs X C sts ss):SSs X C sts (.frz i ss):=λB H0 O ρ r e=>by
 have e':(match ρ[i]? with | some (.ow ds)=>exs C ss (ρ.set i (.pu (.lst ds))) | _=>none)=some r:=by rw [exs] at e;exact e
 cases q:ρ[i]? with
 | none=>rw [q] at e';cases e'
 | some sl =>
  rw [q] at e';cases sl with
  | ow ds =>
   refine h.any.imp λD σ H t=>?_
   obtain ⟨O',F,x⟩:=t.1.frz q;exact ⟨B,H0,O',_,r,e',qam t x F rfl⟩
  | un=>cases e'
  | pu d=>cases e'
  | gr es=>cases e'
theorem qdF {pos:Pos}:SS X C (.Pass pos) .pas:=λB H0 O ρ r e=>by
 cases e;exact ps_pass.imp λD σ H ⟨F,q⟩=>q O σ H Ext.refl F rfl
theorem ydF {pos:Pos} {e:Expr} {c:Code} (h:SE X C e c):SS X C (.Return (some e) pos) (.ret c):=λB H0 O ρ r he=>by
 obtain ⟨d,ed,rfl⟩:=wb (show (ev C c (vA ρ)).map Fl.rt=some r from he);exact (zcK (h B (vA ρ) d ed)).imp λD σ H ⟨F,q⟩=>⟨F.hbB,F.erA,λv H' s rv=>q v H' (F.same.trans s) rv⟩
theorem qc3 {pos:Pos}:SS X C (.Return none pos) (.ret (.cst .non)):=λB H0 O ρ r he=>by
 cases he;exact ps_retN.imp λD σ H ⟨F,q⟩=>q .non H F.same .non
theorem jdF {pos:Pos} {e:Expr} {c:Code} {a b:List Stmt} {sa sb:Stms} (h:SB X C e c) (ha:SSs X C a sa) (hb:SSs X C b sb):SS X C (.If e a b pos) (.ite c sa sb):=λB H0 O ρ r he=>by
 obtain ⟨d,ed,he⟩:=wa (show (ev C c (vA ρ)).bind (λd=>(truO d).bind λk=>if k then exs C sa ρ else exs C sb ρ)=some r from he);obtain ⟨k,ek,he⟩:=wa he;refine (qcq (h B (vA ρ) d k ed ek) ha.any hb.any).imp λD σ H q=>⟨q.1.hbB,q.1.erA,λH' s=>?_⟩
 have t:=qam q (Ext.of_same s) (q.1.grow s) rfl;cases k with
 | true =>
  rw [if_pos rfl] at he;exact ydk ⟨B,H0,O,ρ,r,he,t⟩
 | false =>
  rw [if_neg wB] at he;exact ycW ⟨B,H0,O,ρ,r,he,t⟩
def SAs (X:Cx) (C:Tab) (tg e:Expr) (pos:Pos) (t:Tgt) (c:Code):Prop:=∀ B ρ d,ev C c ρ=some d->PS X (.Assign [tg] e pos) (jdo (tD X.K B ρ d) (gT t))
def SAf (X:Cx) (C:Tab) (tg e:Expr) (pos:Pos) (t:Tgt) (c:Code):Prop:=∀ B ρ ds,ev C c ρ=some (.lst ds)->PS X (.Assign [tg] e pos) (jdo (tF X.K B ρ (.lst ds)) (gT t))
theorem zdG {tg e:Expr} {pos:Pos} {t:Tgt} {c:Code} (h:SAs X C tg e pos t c) (hi:∀ i∈t.ixs,i<X.N.length):SS X C (.Assign [tg] e pos) (.set .pu t c):=λB H0 O ρ r he=>by
 obtain ⟨d,ed,he⟩:=wa (show (ev C c (vP ρ)).bind (λd=>(puT t d ρ).map Fl.nx)=some r from he);obtain ⟨ρ',eρ,rfl⟩:=wb he;intro pins s σ H D I q;refine h (BO B O) (vP ρ) d ed pins s σ H D I ⟨q.1.hb,q.1.erP,λv H' sm rv=>?_⟩;exact (q.1.grow sm).tgt eρ (λi hi'=>by rw [I.len];exact hi i hi') rv λσ' F l=>q.2 O σ' H' (Ext.of_same sm) F l
theorem qdG {tg e:Expr} {pos:Pos} {t:Tgt} {c:Code} (h:SAs X C tg e pos t c) (hi:∀ i∈t.ixs,i<X.N.length):SS X C (.Assign [tg] e pos) (.set .cl t c):=λB H0 O ρ r he=>by
 obtain ⟨d,ed,he⟩:=wa (show (ev C c (vA ρ)).bind (λd=>if noL d then (puT t d ρ).map Fl.nx else none)=some r from he);split at he
 ·rename_i hn;obtain ⟨ρ',eρ,rfl⟩:=wb he;intro pins s σ H D I q;refine h B (vA ρ) d ed pins s σ H D I ⟨q.1.hbB,q.1.erA,λv H' sm rv=>?_⟩;exact (q.1.grow sm).tgt eρ (λi hi'=>by rw [I.len];exact hi i hi') (rv.clean hn) λσ' F l=>q.2 O σ' H' (Ext.of_same sm) F l
 ·cases he
theorem ydG {tg e:Expr} {pos:Pos} {i:Nat} {c:Code} (h:SAf X C tg e pos (.one i) c) (hi:i<X.N.length):SS X C (.Assign [tg] e pos) (.set .ow (.one i) c):=λB H0 O ρ r he=>by
 obtain ⟨d,ed,he⟩:=wa (show (ev C c (vA ρ)).bind (λd=>match Tgt.one i,d with | .one i,.lst ds=>if jaC ds then some (.nx (ρ.set i (.ow ds))) else none | _,_=>none)=some r from he);cases d with
 | lst ds =>
  simp only at he;split at he
  ·rename_i hn;cases he;intro pins s σ H D I q;refine h B (vA ρ) ds ed pins s σ H D I ⟨q.1.hbB,q.1.erA,λv H' sm rv fr=>?_⟩;obtain ⟨a,vs,rfl,na,ha,ra⟩:=rv.lstD;obtain ⟨a',ea,hf⟩:=fr;cases ea;obtain ⟨F,x⟩:=q.1.own (by rw [I.len];exact hi) sm hf ha ra hn;exact q.2 _ _ H' x F (by simp)
  ·cases he
 | _=>cases he
end
section
variable {X:Cx} {C:Tab}
theorem zb8 {i:Nat} {x:Str} {px apos cpos spos:Pos} {e:Expr} {c:Code} {B':Addr->Prop} {ρe:En} {d:D} (hN:X.N[i]?=some x) (hv:Vis X.env.scope x) (hd:(x==("__debug__":Str))=false) (hcd:(x==("__classdict__":Str))=false)
  (he:SE X C e c) (hs:starEach [e] X.env=[(false,eval e X.env)]) (hline:(apos.endLine==cpos.line)=true) (ed:ev C c ρe=some d) {B:Addr->Prop} {H0:Hp} {O:Addr->Prop} {ρ:List Sl} {ds:List D} (hρ:ρ[i]?=some (.ow ds)) (hz:ds.length<sizeLine)
  (hB:∀ {σ:L2.St} {H:Hp},FR X.K B H0 O σ H ρ->HB B' H/\ER X.K B' H σ ρe) (hc:∀ {v:V} {H:Hp},Rep X.K B' H v d->Rep X.K (BO B O) H v d) :
  PS X (.Expr (.Call (.Attribute (.Name x px) "append" apos) [e] [] cpos) spos) (tFl X.K B H0 O ρ (.nx (ρ.set i (.ow (ds++[d]))))):=by
 have hpa:PA X [e] (tDs X.K B' ρe [d]):=yA he jO hs B' ρe [d] (by rw [evs,ed];rfl);refine (zcT (qbc F.plainAttrs_list F.slot_list_append F.type_list_append ybc (yaQ (pos:=px) hN hv hd hcd) hpa rfl (by rw [hs];rfl) hline hs rfl)).imp λD σ H q=>?_
 obtain ⟨F,q⟩:=q;obtain ⟨a,vs,hσ,o,ha,rs⟩:=F.ow i ds hρ;refine ⟨_,hσ,.inl ⟨rfl,_,SqL.of ha⟩,(hB F).1,(hB F).2,λws H1 sm rw'=>?_⟩;obtain ⟨v,rfl,rv⟩:=rw'.one;have F1:=F.grow sm;obtain ⟨F2,x2⟩:=F1.write (es:=ds++[d]) (ws:=vs++[v]) hρ hσ ((rs.same sm).append (.cons (hc rv) .nil));exact ⟨a,vs,v,rfl,rfl,sm _ _ ha,by rw [rs.length];exact hz,q O σ _ ((Ext.of_same sm).trans x2) F2 rfl⟩
theorem jdG {i:Nat} {x:Str} {px apos cpos spos:Pos} {e:Expr} {c:Code} {m:Mode} (hN:X.N[i]?=some x) (hv:Vis X.env.scope x) (hd:(x==("__debug__":Str))=false) (hcd:(x==("__classdict__":Str))=false)
  (he:SE X C e c) (hs:starEach [e] X.env=[(false,eval e X.env)]) (hline:(apos.endLine==cpos.line)=true):SS X C (.Expr (.Call (.Attribute (.Name x px) "append" apos) [e] [] cpos) spos) (.app i m c):=λB H0 O ρ r h=>by
 cases m with
 | pu =>
  obtain ⟨d,ed,h⟩:=wa (show (ev C c (vP ρ)).bind (λd=>match Mode.pu,ρ[i]? with
   | .pu,some (.ow ds)=>if ds.length<sizeLine then some (.nx (ρ.set i (.ow (ds++[d])))) else none
   | .cl,some (.ow ds)=>if noL d&&decide (ds.length<sizeLine) then some (.nx (ρ.set i (.ow (ds++[d])))) else none
   | _,_=>none)=some r from h)
  cases hρ:ρ[i]? with
  | none=>rw [hρ] at h;cases h
  | some sl =>
   rw [hρ] at h;cases sl with
   | ow ds =>
    simp only at h;split at h
    ·rename_i hz;cases h;exact zb8 (B':=BO B O) hN hv hd hcd he hs hline ed hρ hz (λF=>⟨F.hb,F.erP⟩) λr=>r
    ·cases h
   | un=>cases h
   | pu d'=>cases h
   | gr es=>cases h
 | cl =>
  obtain ⟨d,ed,h⟩:=wa (show (ev C c (vA ρ)).bind (λd=>match Mode.cl,ρ[i]? with
   | .pu,some (.ow ds)=>if ds.length<sizeLine then some (.nx (ρ.set i (.ow (ds++[d])))) else none
   | .cl,some (.ow ds)=>if noL d&&decide (ds.length<sizeLine) then some (.nx (ρ.set i (.ow (ds++[d])))) else none
   | _,_=>none)=some r from h)
  cases hρ:ρ[i]? with
  | none=>rw [hρ] at h;cases h
  | some sl =>
   rw [hρ] at h;cases sl with
   | ow ds =>
    simp only at h;split at h
    ·rename_i hz;cases h;rw [wj,wI] at hz;exact zb8 (B':=B) hN hv hd hcd he hs hline ed hρ hz.2 (λF=>⟨F.hbB,F.erA⟩) λr=>r.clean hz.1
    ·cases h
   | un=>cases h
   | pu d'=>cases h
   | gr es=>cases h
 | ow =>
  obtain ⟨d,ed,h⟩:=wa (show (ev C c (vA ρ)).bind (λd=>match Mode.ow,ρ[i]? with
   | .pu,some (.ow ds)=>if ds.length<sizeLine then some (.nx (ρ.set i (.ow (ds++[d])))) else none
   | .cl,some (.ow ds)=>if noL d&&decide (ds.length<sizeLine) then some (.nx (ρ.set i (.ow (ds++[d])))) else none
   | _,_=>none)=some r from h)
  cases h
theorem qb8 {f:D->List Sl->Option Fl} {d:D} {ds:List D} {ρ:List Sl} {r:Fl} (h:forL f (d::ds) ρ=some r):∃ r1,f d ρ=some r1/\(match r1 with
  | .nx ρ'=>forL f ds ρ' | .ct ρ'=>forL f ds ρ' | .bk ρ'=>some (.nx ρ') | .rt v=>some (.rt v) | .xc=>none)=some r:=by
 rw [forL] at h;exact wa h
theorem zdH {tg iter:Expr} {body:List Stmt} {pos:Pos} {t:Tgt} {it:Iter} {b:Stms} (hx:X.xe=λ_ _=>False) (hc:X.calm=true) (hi:SI X C tg iter it) (hg:PG X tg (gT t)) (hb:SSs X C body b) (hix:∀ i∈t.ixs,i<X.N.length)
  (hs:∀ x,foldedSetIterable iter X.env x=pure x):SS X C (.For tg iter body [] pos) (.for t it b):=λB H0 O ρ r h=>by
 obtain ⟨ds,eds,h⟩:=wa (show (evI C it (vP ρ)).bind (λds=>forL (λd ρ'=>(puT t d ρ').bind λρ''=>exs C b ρ'') ds ρ)=some r from h);obtain ⟨f,hf⟩:∃ f:D->List Sl->Option Fl,f=λd ρ'=>(puT t d ρ').bind λρ''=>exs C b ρ'':=⟨_,rfl⟩
 rw [<-hf] at h;have hp:PassesOwn (model X.prog X.w) X.A X.env X.xe:=by rw [hx];exact PassesOwn.never
 intro pins s σ H D I q;have hlen:=I.len;refine (zdp hp hc (hi (BO B O) (vP ρ) ds eds) hg hb.any hs) pins s σ H D I ⟨q.1.hb,q.1.erP,λJ H1 sm ok=>?_⟩;refine ⟨λi m σ' H'=>∃ O' ρ',FR X.K B H0 O' σ' H' ρ'/\Ext B O H1 O' H'/\m=ds.length-i/\i<=ds.length/\σ'.length=σ.length/\forL f (ds.drop i) ρ'=some r,⟨ds.length,O,ρ,q.1.grow sm,Ext.refl,rfl,Nat.zero_le _,rfl,h⟩,?_⟩;rintro i m σ' H' ⟨O',ρ',F,x,rfl,hil,hl,hrun⟩;have xx:Ext B O H O' H':=(Ext.of_same sm).trans x
 by_cases hlt:i<ds.length
 ·right
  obtain ⟨d,hd⟩:∃ d,ds[i]?=some d:=⟨ds[i],by simp [hlt]⟩
  have hdrop:ds.drop i=d::ds.drop (i+1):=by
   have e:ds[i]=d:=by simpa [hlt] using hd
   rw [List.drop_eq_getElem_cons hlt,e]
  rw [hdrop] at hrun;obtain ⟨r1,e1,hrun⟩:=qb8 hrun;rw [hf] at e1;obtain ⟨ρ2,e2,e3⟩:=wa (show (puT t d ρ').bind _=some r1 from e1);have hfr:∀ b,BO B O' b->BO B O b\/H1 b=none:=λb z=>z.elim (λz=>.inl (.inl z)) λz=>(x.fr b z).elim (λz=>.inl (.inr z)) .inr
  obtain ⟨go,yl⟩:=ok.go (BO B O') H' hfr F.hb x.sm i d hd;refine ⟨go,λσ3 H3=>∃ O3 ρ3,FR X.K B H0 O3 σ3 H3 ρ3/\Ext B O H1 O3 H3/\σ3.length=σ.length/\forL f (ds.drop (i+1)) ρ3=some r,?_,?_⟩
  ·rintro σ3 H3 ⟨O3,ρ3,F3,x3,l3,run3⟩;exact ⟨ds.length-(i+1),by omega,O3,ρ3,F3,x3,rfl,by omega,l3,run3⟩
  ·intro v H2 y2;obtain ⟨sm2,rv⟩:=yl v H2 y2;refine (F.grow sm2).tgt e2 (λj hj=>by rw [hl,hlen];exact hix j hj) rv λσ2 F2 l2=>?_
   have x2:Ext B O H1 O' H2:=x.trans (Ext.of_same sm2);refine ⟨B,H0,O',ρ2,r1,e3,F2,?_⟩;cases r1 with
   | nx ρ3=>exact λO3 σ3 H3 y F3 l3=>⟨O3,ρ3,F3,x2.trans y,l3.trans (l2.trans hl),hrun⟩
   | ct ρ3=>exact λO3 σ3 H3 y F3 l3=>⟨O3,ρ3,F3,x2.trans y,l3.trans (l2.trans hl),hrun⟩
   | bk ρ3 =>
    cases hrun;exact λO3 σ3 H3 y F3 l3=>q.2 O3 σ3 H3 ((Ext.of_same sm).trans (x2.trans y)) F3 (l3.trans (l2.trans hl))
   | rt dv =>
    cases hrun;exact q.2
   | xc=>cases hrun
 ·left
  have hie:i=ds.length:=by omega
  subst hie;rw [List.drop_length] at hrun;cases hrun;exact ⟨ok.stop H' x.sm,q.2 O' σ' H' xx F hl⟩
noncomputable def ybf:Expr->Bool
 | .ListComp .. | .SetComp .. | .DictComp ..=>true
 | _=>false
theorem qbD {e:Expr} (h:ybf e=false) (t:Option Expr) (n:Nat) (env:Env):swapsWith e t n env=pure false:=by
 cases e<;>first | rfl | cases h
theorem ycy {y:Str} {py pos:Pos} {i:Nat} {e:Expr} {c:Code} (he:SE X C e c) (h:ybf e=false) (hN:X.N.Nodup) (hy:X.N[i]?=some y) (hl:Loc X.env.scope y) (hf:X.fn y=true\/X.env.scope.names.lookup y=some .local) :
 SAs X C (.Name y py) e pos (.one i) c:=λB ρ d ed=>qbY hN hy hl (he B ρ d ed) (qbD h _ _ _) hf
theorem jcy {y:Str} {py pos:Pos} {i:Nat} {e:Expr} {c:Code} (he:SF X C e c) (h:ybf e=false) (hN:X.N.Nodup) (hy:X.N[i]?=some y) (hl:Loc X.env.scope y) (hf:X.fn y=true\/X.env.scope.names.lookup y=some .local) :
 SAf X C (.Name y py) e pos (.one i) c:=λB ρ d ed=>qbY hN hy hl (he B ρ d ed) (qbD h _ _ _) hf
end
section
variable {X:Cx} {C:Tab} {elt tg iter:Expr} {ifs:List Expr} {scope:Scope} {ce:Code} {t:Tgt} {n:Nat} {keep:List Nat} {cc:OCode} {N':List Str} {it:Iter} {pos:Pos}
theorem zcz {y:Str} {py spos:Pos} {i:Nat} (S:CompS X C elt tg iter ifs scope ce t n keep cc N') (hi:SI X C tg iter it) (hN:X.N.Nodup) (hy:X.N[i]?=some y) (hl:Loc X.env.scope y) (hf:X.fn y=true\/X.env.scope.names.lookup y=some .local) :
 SAf X C (.Name y py) (.ListComp elt [⟨tg,iter,ifs,0⟩] scope pos) spos (.one i) (.comp ce t n keep it cc):=λB ρ ds e=>yb7 S hi hN hy hl hf e
theorem ybD {y:Str} {py spos:Pos} {i:Nat} (S:CompS X C elt tg iter ifs scope ce t n keep cc N') (hi:SI X C tg iter it) (hN:X.N.Nodup) (hy:X.N[i]?=some y) (hl:Loc X.env.scope y) (hf:X.fn y=true\/X.env.scope.names.lookup y=some .local) :
  SAs X C (.Name y py) (.ListComp elt [⟨tg,iter,ifs,0⟩] scope pos) spos (.one i) (.comp ce t n keep it cc):=λB ρ d e=>by
 have:∃ ds,d=.lst ds:=by
  obtain ⟨ds,eds,e⟩:=wa (show (evI C it ρ).bind (λds=>(gather (turn C ce t n keep cc ρ) ds).map D.lst)=some d from e);obtain ⟨rs',hg,e⟩:=wb e;exact ⟨_,e.symm⟩
 obtain ⟨ds,rfl⟩:=this;exact (yb7 S hi hN hy hl hf e).imp λD σ H ⟨h1,h2,q⟩=>⟨h1,h2,λv H' s r _=>q v H' s r⟩
end
theorem yb8:bootBuiltins "enumerate"=some (.type "enumerate"):=by kernel_rfl
theorem boot_zip:bootBuiltins "zip"=some (.type "zip"):=by kernel_rfl
theorem jbD:∀ (es:List D) (k i:Nat) (d:D),(zaf k es)[i]?=some d->∃ e,es[i]?=some e/\d=.tup [.int ((k+i:Nat):Int),e]
 | [],_,_,_,h=>by simp [zaf] at h
 | e::es,k,0,d,h=>by simp [zaf] at h;exact ⟨e,by simp,by simp [h]⟩
 | e::es,k,i+1,d,h=>by
  simp only [zaf,List.getElem?_cons_succ] at h;obtain ⟨e',h1,h2⟩:=jbD es (k+1) i d h;exact ⟨e',by simpa using h1,by rw [h2,show k+1+i=k+(i+1) by omega]⟩
theorem qa2:∀ (es:List D) (k:Nat),(zaf k es).length=es.length
 | [],_=>rfl
 | e::es,k=>by simp [zaf,qa2 es]
theorem zbE:∀ (xs ys:List D) (i:Nat) (d:D),(jau xs ys)[i]?=some d->∃ x y,xs[i]?=some x/\ys[i]?=some y/\d=.tup [x,y]
 | [],_,_,_,h=>by simp [jau] at h
 | _::_,[],_,_,h=>by simp [jau] at h
 | x::xs,y::ys,0,d,h=>by simp [jau] at h;exact ⟨x,y,by simp,by simp,h.symm⟩
 | x::xs,y::ys,i+1,d,h=>by
  simp only [jau,List.getElem?_cons_succ] at h;obtain ⟨x',y',h1,h2,h3⟩:=zbE xs ys i d h;exact ⟨x',y',by simpa using h1,by simpa using h2,h3⟩
theorem ya2:∀ (xs ys:List D),(jau xs ys).length=min xs.length ys.length
 | [],_=>by simp [jau]
 | _::_,[]=>by simp [jau]
 | x::xs,y::ys=>by simp [jau,ya2 xs ys]
section
variable {K:Frag} {B:Addr->Prop} {H:Hp}
theorem Rep.srcT {v:V} {d:D} {ds:List D} (hb:HB B H) (r:Rep K B H v d) (h:itemsD d=some ds):∃ t a vs,v=.ref a/\Sq t K H a vs/\(∀ H',qY B H H'->Sq t K H' a vs)/\Reps K B H vs ds:=by
 obtain ⟨a,vs,e,src,rs⟩:=r.src hb h;cases src with
 | l n s=>exact ⟨false,a,vs,e,s,n,rs⟩
 | t n s=>exact ⟨true,a,vs,e,s,n,rs⟩
end
section
variable {X:Cx} {C:Tab} {elts:List Expr} {kk:Nat} {tpos:Pos}
theorem qdH {a:Expr} {ca:Code} {p pos:Pos} (hg:Gl X "enumerate") (hm:X.mg "enumerate"=none) (ha:SE X C a ca) (hs:starEach [a] X.env=[(false,eval a X.env)]):SI X C (.Tuple elts kk tpos) (.Call (.Name "enumerate" p) [a] [] pos) (.enu ca):=λB ρ ds h=>by
 obtain ⟨dx,ex,h⟩:=wa (show (ev C ca ρ).bind (λx=>(itemsD x).map (zaf 0))=some ds from h);obtain ⟨es,hes,rfl⟩:=wb h;have hpa:PA X [a] (tDs X.K B ρ [dx]):=yA ha jO hs B ρ [dx] (by rw [evs,ex];rfl);intro pins s σ H R I ⟨hb,er,q⟩;refine Call_ (qaB I hg hm yb8 (callWith_type1 (thn (hpa pos pins s σ H (λvs H1=>Same H H1/\Reps X.K B H1 vs [dx]) I ⟨hb,er,λvs H1 sm r=>⟨sm,r⟩⟩) λus s1 ⟨vs,H1,I1,r1,sm1,rep⟩=>?_) hs rfl));obtain ⟨v,rfl,rv⟩:=rep.one;have hb1:=hb.same sm1;obtain ⟨t,l,ws,rfl,sq,keep,rws⟩:=rv.srcT hb1 hes;obtain ⟨u,rfl,ru⟩:=r1.one;cases ru;obtain ⟨its,rits,p1,hz⟩:=I1.sseq sq;refine yb2 p1 λh' e1 i1 sz kp=>wpAny_pyIter_enum e1 ?_
 have hne:((s1.heap.objs.size+1:Nat):Addr)≠s1.heap.objs.size:=Nat.succ_ne_self _;refine ⟨_,[s1.heap.objs.size+1,s1.heap.objs.size],_,Ite t X.K l,H1,rfl,I1.kept (t':=s1.toks) kp,jb7 t l s1.heap.objs.size (s1.heap.objs.size+1) hne,⟨⟨_,e1⟩,i1⟩,λb hbm=>?_,q _ H1 sm1 ⟨by rw [qa2,<-rws.length];exact hz,λB' H' f2 hb' sm i d hd=>?_,λH' sm=>⟨ws,keep H' sm,by rw [qa2,rws.length]⟩⟩⟩
 ·have hbb:b=s1.heap.objs.size+1\/b=s1.heap.objs.size:=by simpa using hbm
  rcases hbb with z | z<;>subst z
  ·exact I1.fpOk (Nat.le_succ _) (I1.hok.fresh (Nat.le_succ _))
  ·exact I1.fpOk (wF _) I1.fresh
 ·obtain ⟨e,he,rfl⟩:=jbD es 0 i d hd;obtain ⟨x,hx,rx⟩:=rws.get he;refine ⟨⟨ws,x,keep H' sm,hx⟩,λy H'' ⟨T,x',e1,e2,e3,e4⟩=>?_⟩;subst e1;subst e3
  have:=e4 ws (keep H' sm)
  rw [hx] at this;cases this;refine ⟨je e2 _,.tup zl (.cons ?_ (.cons ((rx.shift hb1 sm f2).same (je e2 _)) .nil))⟩;rw [Nat.zero_add];exact .int _
theorem ydH {a b:Expr} {ca cb:Code} {p pos:Pos} (hg:Gl X "zip") (hm:X.mg "zip"=none) (ha:SE X C a ca) (hb':SE X C b cb) (hs:starEach [a,b] X.env=[(false,eval a X.env),(false,eval b X.env)]) (hs2:starEach [b] X.env=[(false,eval b X.env)]) :
  SI X C (.Tuple elts kk tpos) (.Call (.Name "zip" p) [a,b] [] pos) (.zip ca cb):=λB ρ ds h=>by
 obtain ⟨dx,ex,h⟩:=wa (show (ev C ca ρ).bind _=some ds from h);obtain ⟨dy,ey,h⟩:=wa h;obtain ⟨xs,hxs,h⟩:=wa h;obtain ⟨ys,hys,rfl⟩:=wb h;have hpa:PA X [a,b] (tDs X.K B ρ [dx,dy]):=yA ha (yA hb' jO hs2) (by rw [hs,hs2]) B ρ [dx,dy] (by rw [evs,ex,we,evs,ey];rfl);intro pins s σ H R I ⟨hb,er,q⟩;refine Call_ (qaB I hg hm boot_zip (callWith_type1 (thn (hpa pos pins s σ H (λvs H1=>Same H H1/\Reps X.K B H1 vs [dx,dy]) I ⟨hb,er,λvs H1 sm r=>⟨sm,r⟩⟩) λus s1 ⟨vs,H1,I1,r1,sm1,rep⟩=>?_) (by rw [hs,hs2]) (by rw [hs2];rfl)));cases rep with
 | cons rv rest =>
  obtain ⟨v2,rfl,rv2⟩:=rest.one;have hb1:=hb.same sm1;obtain ⟨t,l,ws,rfl,sq,keep,rws⟩:=rv.srcT hb1 hxs;obtain ⟨t2,l2,ws2,rfl,sq2,keep2,rws2⟩:=rv2.srcT hb1 hys;obtain ⟨u,u2,rfl,ru,ru2⟩:=r1.two;cases ru;cases ru2;obtain ⟨its,rits,p1,hz⟩:=I1.sseq sq;obtain ⟨its2,rits2,p2,hz2⟩:=I1.sseq sq2;refine yct p1 p2 λh' e1 e2 e3 i1 i2 sz kp=>wpAny_pyIter_zip e1 ?_
  refine ⟨_,_,_,Itz t t2 X.K l l2,H1,rfl,I1.kept (t':=s1.toks) kp,zcy t t2 l l2 s1.heap.objs.size,⟨e1,e2,⟨_,_,e3⟩,i1,i2⟩,λc hcm=>?_,q _ H1 sm1 ⟨by rw [ya2,<-rws.length];exact wU (Nat.min_le_left _ _) hz,λB' H' f2 hb'' sm i d hd=>?_,λH' sm=>⟨ws,ws2,keep H' sm,keep2 H' sm,?_⟩⟩⟩
  ·have hbb:c=s1.heap.objs.size+4\/c=s1.heap.objs.size+2\/c=s1.heap.objs.size+3\/c=s1.heap.objs.size\/c=s1.heap.objs.size+1:=by simpa using hcm
   have young:∀ i:Nat,yaz X pins H1 ((s1.heap.objs.size+i:Nat):Addr):=λi=>I1.fpOk (Nat.le_add_right _ _) (I1.hok.fresh (Nat.le_add_right _ _))
   rcases hbb with z | z | z | z | z<;>subst z
   ·exact young 4
   ·exact young 2
   ·exact young 3
   ·exact young 0
   ·exact young 1
  ·obtain ⟨x,y,hx,hy,rfl⟩:=zbE xs ys i d hd;obtain ⟨v1,hv1,r1⟩:=rws.get hx;obtain ⟨v2,hv2,r2⟩:=rws2.get hy;refine ⟨⟨ws,ws2,v1,v2,keep H' sm,keep2 H' sm,hv1,hv2⟩,λz H'' ⟨T,x',y',e1,e2,e3,e4,e5⟩=>?_⟩;subst e1;subst e3
   have q1:=e4 ws (keep H' sm);have q2:=e5 ws2 (keep2 H' sm);rw [hv1] at q1;rw [hv2] at q2;cases q1;cases q2;exact ⟨je e2 _,.tup zl (.cons ((r1.shift hb1 sm f2).same (je e2 _)) (.cons ((r2.shift hb1 sm f2).same (je e2 _)) .nil))⟩
  ·rw [ya2,<-rws.length,<-rws2.length];rcases Nat.le_total ws.length ws2.length with z | z
   ·left;rw [Nat.min_eq_left z];simp
   ·right;rw [Nat.min_eq_right z];simp
end
end Eng
end
section
namespace Eng
open PySem
end Eng
end
section
namespace Eng
open PySem PySem.Spec PyProof.Rows L2
theorem yam:∀ {l m:List Int},l.Perm m->l.Pairwise (·<=·)->m.Pairwise (·<=·)->l=m
 | [],m,p,_,_=>(List.perm_nil.mp p.symm).symm
 | x::l,[],p,_,_=>by have:=p.length_eq;simp at this
 | x::l,y::m,p,h1,h2=>by
  rw [List.pairwise_cons] at h1 h2
  have e:x=y:=by
   have hx:x∈y::m:=p.mem_iff.mp (by simp);have hy:y∈x::l:=p.mem_iff.mpr (by simp);rcases wy.mp hx with z | z
   ·exact z
   ·rcases wy.mp hy with w | w
    ·exact w.symm
    ·exact Int.le_antisymm (h1.1 y w) (h2.1 x z)
  subst e;rw [yam (List.perm_cons x |>.mp p) h1.2 h2.2]
theorem insI_perm (x:Int):∀ l:List Int,(insI x l).Perm (x::l)
 | []=>List.Perm.refl _
 | y::r=>by
  unfold insI;split
  ·exact List.Perm.refl _
  ·exact ((insI_perm x r).cons y).trans (List.Perm.swap x y r)
theorem sortI_perm:∀ l:List Int,(sortI l).Perm l
 | []=>List.Perm.refl _
 | x::r=>(insI_perm x (sortI r)).trans ((sortI_perm r).cons x)
theorem yaF (x:Int):∀ {l:List Int},l.Pairwise (·<=·)->(insI x l).Pairwise (·<=·)
 | [],_=>by simp [insI]
 | y::r,h=>by
  rw [List.pairwise_cons] at h;unfold insI;split
  ·rename_i hxy;refine List.pairwise_cons.mpr ⟨λz hz=>?_,List.pairwise_cons.mpr h⟩;rcases wy.mp hz with e | e
   ·rw [e];exact hxy
   ·exact Int.le_trans hxy (h.1 z e)
  ·rename_i hxy;refine List.pairwise_cons.mpr ⟨λz hz=>?_,yaF x h.2⟩;rcases wy.mp ((insI_perm x r).mem_iff.mp hz) with e | e
   ·rw [e];omega
   ·exact h.1 z e
theorem zac:∀ l:List Int,(sortI l).Pairwise (·<=·)
 | []=>List.Pairwise.nil
 | x::r=>yaF x (zac r)
theorem mem_dedI {x:Int}:∀ {l:List Int},x∈qbn l↔x∈l
 | []=>by simp [qbn]
 | y::r=>by
  unfold qbn;split
  ·rename_i h;rw [mem_dedI (l:=r)];have hy:y∈r:=by simpa using h
   constructor
   ·intro z;exact wK _ z
   ·intro z;rcases wy.mp z with e | e
    ·rw [e];exact hy
    ·exact e
  ·simp [mem_dedI (l:=r)]
theorem qar:∀ l:List Int,(qbn l).Nodup
 | []=>List.nodup_nil
 | y::r=>by
  unfold qbn;split
  ·exact qar r
  ·rename_i h;refine List.nodup_cons.mpr ⟨λz=>h (by simpa using mem_dedI.mp z),qar r⟩
theorem jbq:∀ {l m:List Int},l.Nodup->m.Nodup->(∀ x,x∈l↔x∈m)->l.Perm m:=λh1 h2 h=>(List.perm_ext_iff_of_nodup h1 h2).mpr h
theorem zbS:∀ S∈subs lowM,S.Nodup:=by decide +kernel
theorem qaT {S:List Nat} {ns ms:List Int} (hS:S∈subs lowM) (hm:∀ x:Nat,x∈S↔(x:Int)∈ns) (h0:∀ n∈ns,0<=n) (p:ms.Perm (S.map Int.ofNat)) (hs:ms.Pairwise (·<=·)):ms=sortI (qbn ns):=by
 refine yam (p.trans ((?_:(S.map Int.ofNat).Perm (qbn ns)).trans (sortI_perm _).symm)) hs (zac _);refine jbq ?_ (qar _) λx=>?_
 ·exact List.Pairwise.map _ (λa b h e=>h (Int.ofNat.inj e)) (zbS S hS)
 ·rw [mem_dedI,wJ];constructor
  ·rintro ⟨n,hn,rfl⟩;exact (hm n).mp hn
  ·intro hx
   have:=h0 x hx
   exact ⟨x.toNat,(hm _).mpr (by rw [Int.toNat_of_nonneg this];exact hx),Int.toNat_of_nonneg this⟩
theorem yc3 {S:List Nat} {ns:List Int} (hS:S∈subs lowM) (hm:∀ x:Nat,x∈S↔(x:Int)∈ns) (h0:∀ n∈ns,0<=n):S.length=(qbn ns).length:=by
 have e:=qaT hS hm h0 (ms:=sortI (S.map Int.ofNat)) (sortI_perm _) (zac _)
 have:=congrArg List.length e
 rw [(sortI_perm _).length_eq,(sortI_perm _).length_eq,wG] at this;exact this
noncomputable def jcM (w:World) (p:Addr) (S:List Nat):HO:=.ext λh=>∃ L,keys L=S/\qbW h p L (!qA w)
section
variable {X:Cx}
def yej (K:Frag) (w:World):List V->Hp->VK->Prop:=λxs H Q=>∃ t a ns,xs=[.ref a]/\Sq t K H a (ns.map V.int)/\yag ns=true/\∀ p S,H p=none->S∈subs lowM->(∀ x:Nat,x∈S↔(x:Int)∈ns)->Q (.ref p) (upd H p (jcM w p S))
theorem ja2 {ns:List Int} (h:yag ns=true):∀ n∈ns,0<=n/\n<lowM:=λn hn=>by
 have:=List.all_eq_true.mp h n hn
 simpa using this
theorem jb8 (hc:X.calm=true):jJ X (.type "set") (yej X.K X.w):=by
 intro pins s σ H xs us Q I rv ⟨t,a,ns,e,sq,sm,q⟩;subst e;obtain ⟨u,rfl,ru⟩:=rv.one;cases ru;obtain ⟨its,rits,p,hz⟩:=I.sseq sq;have sml:=ja2 sm;have hl:=rits.length;rw [wG] at hl
 have val:∀ (i:Nat) (v:Value),its.toArray[i]?=some v->∃ t,v=Value.int (((ns.getD i 0).toNat:Nat):Int) t:=λi v hv=>by
  have hv':its[i]?=some v:=by simpa using hv
  have hi:i<ns.length:=by rw [hl];exact (wu.mp hv').1
  obtain ⟨u,hu,r⟩:=rits.get (i:=i) (x:=V.int ns[i]) (by simp [hi]);rw [hv'] at hu;cases hu
  obtain ⟨tk,rfl⟩:=r;refine ⟨tk,?_⟩;have e1:ns.getD i 0=ns[i]:=by simp [List.getD,hi]
  have:=(sml ns[i] (List.getElem_mem hi)).1
  rw [e1,Int.toNat_of_nonneg this]
 refine qcv (I.ok.hd hc) p val (λi hi=>?_) λh' tk L hS hm kp=>?_
 ·have hi:i<ns.length:=by rw [hl];simpa using hi
  have e1:ns.getD i 0=ns[i]:=by simp [List.getD,hi]
  have:=sml ns[i] (List.getElem_mem hi)
  rw [e1];omega
 ·refine ⟨.ref s.heap.objs.size,upd H s.heap.objs.size (jcM X.w s.heap.objs.size (keys L)),I.laid (t':=tk) kp (wF _) ⟨⟨L,rfl,hS⟩,?_,?_⟩,rfl,q _ _ I.fresh hS.1 λx=>?_⟩
  ·obtain ⟨_,ep,ho⟩:=hS;exact ⟨_,ho⟩
  ·rintro h1 h2 ⟨L',e,hk,ep,ho⟩ k;exact ⟨L',e,hk,ep,k _ ho⟩
  ·rw [hm x];constructor
   ·rintro ⟨j,hj,e⟩;have hj:j<ns.length:=by rw [hl];simpa using hj
    have e1:ns.getD j 0=ns[j]:=by simp [List.getD,hj]
    have:=(sml ns[j] (List.getElem_mem hj)).1
    rw [<-e,e1,Int.toNat_of_nonneg this];exact List.getElem_mem hj
   ·intro hx;obtain ⟨j,hj,e⟩:=List.mem_iff_getElem.mp hx;have e1:ns.getD j 0=ns[j]:=by simp [List.getD,hj]
    exact ⟨j,by simpa [<-hl] using hj,by rw [e1,e];rfl⟩
theorem yaP (hc:X.calm=true):jJ X (.builtin "sorted") (λxs H Q=>∃ (p:Addr) (S:List Nat),xs=[.ref p]/\H p=some (jcM X.w p S)/\S∈subs lowM/\∀ (l:Addr) (ms:List Int),H l=none->ms.Perm (S.map Int.ofNat)->ms.Pairwise (·<=·)->Q (.ref l) (upd H l (.lst (ms.map V.int)))):=by
 intro pins s σ H xs us Q I rv ⟨p,S,e,hp,hS,q⟩;subst e;obtain ⟨u,rfl,ru⟩:=rv.one;cases ru;obtain ⟨⟨L,rfl,hC⟩,_,_⟩:=(show ObjOk X.prog X.w H s.heap p (jcM X.w p S) from I.hok p _ hp);refine qbR (I.ok.hd hc) hC λh' tk l out ms ep kp hl ho hi hperm hs=>?_
 have hlen:ms.length<=8:=by rw [hperm.length_eq,wG];exact (zav hS true).2.1
 exact ⟨.ref l,upd H l (.lst (ms.map V.int)),I.laid (t':=tk) kp hl ⟨by rw [wG,sizeLine_eq];omega,out,ep,yaC hi,ho⟩,rfl,q l ms (I.hok.fresh hl) hperm hs⟩
theorem zbr:jJ X (.builtin "len") (λxs H Q=>∃ p S,xs=[.ref p]/\H p=some (jcM X.w p S)/\S∈subs lowM/\Q (.int S.length) H):=by
 intro pins s σ H xs us Q I rv ⟨p,S,e,hp,hS,q⟩;subst e;obtain ⟨u,rfl,ru⟩:=rv.one;cases ru;obtain ⟨⟨L,rfl,hin,ep,ho⟩,_,_⟩:=(show ObjOk X.prog X.w H s.heap p (jcM X.w p S) from I.hok p _ hp);have hf:=zav hin (!qA X.w);refine call_len_set ho ⟨rfl,rfl,rfl⟩ rfl (by rw [qK];exact hf.1) (by rw [qK];omega) ?_;rw [qK];exact ⟨.int _,H,I.tok _,⟨_,rfl⟩,q⟩
end
theorem zb9:bootBuiltins "set"=some (.type "set"):=by kernel_rfl
theorem jbf:bootBuiltins "sorted"=some (.builtin "sorted"):=by kernel_rfl
theorem zbg:bootBuiltins "len"=some (.builtin "len"):=by kernel_rfl
theorem yar:bootBuiltins "list"=some (.type "list"):=by kernel_rfl
theorem jaF:bootBuiltins "range"=some (.type "range"):=by kernel_rfl
section
variable {X:Cx} {C:Tab} {a:Expr} {ca:Code}
theorem qbE {B:Addr->Prop} {H:Hp} {vs:List V} {dx:D} {xs:List D} {ns:List Int} (hb:HB B H) (r:Reps X.K B H vs [dx]) (h1:itemsD dx=some xs) (h2:intsOf xs=some ns):∃ t a,vs=[.ref a]/\Sq t X.K H a (ns.map V.int):=by
 obtain ⟨v,rfl,rv⟩:=r.one;obtain ⟨t,l,ws,rfl,sq,_,rws⟩:=rv.srcT hb h1;exact ⟨t,l,rfl,by rw [<-rws.ints h2];exact sq⟩
theorem qbg {p2 pos2:Pos} (hc:X.calm=true) (hg:Gl X "set") (hm:X.mg "set"=none) (ha:SE X C a ca) (hs:starEach [a] X.env=[(false,eval a X.env)]) {B:Addr->Prop} {ρ:En} {dx:D} (ed:ev C ca ρ=some dx) :
  PE X (.Call (.Name "set" p2) [a] [] pos2) (tCB (yej X.K X.w) (tDs X.K B ρ [dx])) :=
 yL (jb8 hc) hg hm zb9 (yA ha jO hs B ρ [dx] (by rw [evs,ed];rfl)) (by decide) (by decide) hs rfl
theorem yav {p1 p2 pos1 pos2:Pos} (hc:X.calm=true) (hg:Gl X "set") (hm:X.mg "set"=none) (hg2:Gl X "sorted") (hm2:X.mg "sorted"=none) (ha:SE X C a ca) (hs:starEach [a] X.env=[(false,eval a X.env)]) :
  SF X C (.Call (.Name "sorted" p1) [.Call (.Name "set" p2) [a] [] pos2] [] pos1) (.blt .sortedSet (.cons ca .nil)):=λB ρ ds e=>by
 obtain ⟨dxs,exs',e⟩:=wa (show (evs C (.cons ca .nil) ρ).bind (λxs=>yJ .sortedSet xs)=some (D.lst ds) from e);obtain ⟨dx,ex,e1⟩:=wa (show (ev C ca ρ).bind _=some dxs from exs');obtain ⟨dr,er',rfl⟩:=wb e1;cases er';obtain ⟨xs,hxs,e⟩:=wa (show (itemsD dx).bind _=some (D.lst ds) from e);obtain ⟨ns,hns,e⟩:=wa e;split at e
 ·rename_i hsm;cases e;refine (jae (yaP hc) hg2 hm2 jbf (yH (qbg (p2:=p2) (pos2:=pos2) hc hg hm ha hs ex (B:=B)) yaa) (by decide) (by decide) rfl rfl).imp λσ H Q ⟨hb,er,q⟩=>?_
  refine ⟨hb,er,λvs H1 sm1 r1=>?_⟩;obtain ⟨t,l,rfl,sq⟩:=qbE (hb.same sm1) r1 hxs hns;refine ⟨t,l,ns,rfl,sq,hsm,λp S hp hS hm'=>?_⟩;refine ⟨p,S,rfl,zl,hS,λl' ms hl perm hso=>?_⟩;have e1:ms=sortI (qbn ns):=qaT hS hm' (λn hn=>(ja2 hsm n hn).1) perm hso;subst e1;have sm2:Same H (upd (upd H1 p (jcM X.w p S)) l' (.lst ((sortI (qbn ns)).map V.int))):=(sm1.trans (je hp _)).trans (je hl _);have fl:H l'=none:=(sm1.trans (je hp _)).free hl;exact q _ _ sm2 (.lst (hb.notN fl) zl (Reps.of_ints _)) ⟨l',rfl,fl⟩
 ·cases e
theorem ybg {p1 p2 pos1 pos2:Pos} (hc:X.calm=true) (hg:Gl X "set") (hm:X.mg "set"=none) (hg2:Gl X "sorted") (hm2:X.mg "sorted"=none) (ha:SE X C a ca) (hs:starEach [a] X.env=[(false,eval a X.env)]) :
  SE X C (.Call (.Name "sorted" p1) [.Call (.Name "set" p2) [a] [] pos2] [] pos1) (.blt .sortedSet (.cons ca .nil)):=λB ρ d e=>by
 have:∃ ds,d=.lst ds:=by
  obtain ⟨dxs,exs',e⟩:=wa (show (evs C (.cons ca .nil) ρ).bind (λxs=>yJ .sortedSet xs)=some d from e);obtain ⟨dx,ex,e1⟩:=wa (show (ev C ca ρ).bind _=some dxs from exs');obtain ⟨dr,er',rfl⟩:=wb e1;cases er';obtain ⟨xs,hxs,e⟩:=wa (show (itemsD dx).bind _=some d from e);obtain ⟨ns,hns,e⟩:=wa e;split at e
  ·cases e;exact ⟨_,rfl⟩
  ·cases e
 obtain ⟨ds,rfl⟩:=this;exact SF.se (yav hc hg hm hg2 hm2 ha hs) B ρ ds e
theorem qb9 {p1 p2 pos1 pos2:Pos} (hc:X.calm=true) (hg:Gl X "set") (hm:X.mg "set"=none) (hg2:Gl X "len") (hm2:X.mg "len"=none) (ha:SE X C a ca) (hs:starEach [a] X.env=[(false,eval a X.env)]) :
  SE X C (.Call (.Name "len" p1) [.Call (.Name "set" p2) [a] [] pos2] [] pos1) (.blt .lenSet (.cons ca .nil)):=λB ρ d e=>by
 obtain ⟨dxs,exs',e⟩:=wa (show (evs C (.cons ca .nil) ρ).bind (λxs=>yJ .lenSet xs)=some d from e);obtain ⟨dx,ex,e1⟩:=wa (show (ev C ca ρ).bind _=some dxs from exs');obtain ⟨dr,er',rfl⟩:=wb e1;cases er';obtain ⟨xs,hxs,e⟩:=wa (show (itemsD dx).bind _=some d from e);obtain ⟨ns,hns,e⟩:=wa e;split at e
 ·rename_i hsm;cases e;refine (jae zbr hg2 hm2 zbg (yH (qbg (p2:=p2) (pos2:=pos2) hc hg hm ha hs ex (B:=B)) yaa) (by decide) (by decide) rfl rfl).imp λσ H Q ⟨hb,er,q⟩=>?_
  refine ⟨hb,er,λvs H1 sm1 r1=>?_⟩;obtain ⟨t,l,rfl,sq⟩:=qbE (hb.same sm1) r1 hxs hns;refine ⟨t,l,ns,rfl,sq,hsm,λp S hp hS hm'=>⟨p,S,rfl,zl,hS,?_⟩⟩;rw [yc3 hS hm' λn hn=>(ja2 hsm n hn).1];exact q _ _ (sm1.trans (je hp _)) (.int _)
 ·cases e
def rRng:List V->Hp->VK->Prop:=λxs H Q=>(∃ j:Int,xs=[.int j]/\-(2^62)<=j/\j<2^62/\∀ p,H p=none->Q (.ref p) (upd H p (.rng 0 j))) \/
 (∃ i j:Int,xs=[.int i,.int j]/\(-(2^62)<=i/\i<2^62/\-(2^62)<=j/\j<2^62)/\∀ p,H p=none->Q (.ref p) (upd H p (.rng i j)))
theorem ybE:jJ X (.type "range") rRng:=by
 intro pins s σ H xs us Q I rv h;rcases h with ⟨j,e,h1,h2,q⟩ | ⟨i,j,e,⟨h1,h2,h3,h4⟩,q⟩
 ·subst e;obtain ⟨u,rfl,t,rfl⟩:=rv.one;exact call_range_1 ⟨.ref s.heap.objs.size,upd H s.heap.objs.size (.rng 0 j),I.laid (λb o e=>wm _ e) (wF _) ⟨_,_,_,wx _ rfl⟩,rfl,q _ I.fresh⟩
 ·subst e;obtain ⟨u,u2,rfl,⟨t,rfl⟩,⟨t2,rfl⟩⟩:=rv.two;exact call_range_2 ⟨.ref s.heap.objs.size,upd H s.heap.objs.size (.rng i j),I.laid (λb o e=>wm _ e) (wF _) ⟨_,_,_,wx _ rfl⟩,rfl,q _ I.fresh⟩
theorem zaG (lo:Int) (n:Nat):zj lo n=((List.range n).map λi=>lo+(i:Nat)).map D.int:=by
 induction n generalizing lo with
 | zero=>rfl
 | succ n ih =>
  rw [zj,ih,List.range_succ_eq_map];simp only [List.map_cons,wM];congr 1
  ·congr 1;omega
  ·apply vm;intro i _;simp only [Function.comp];congr 1
   push_cast;omega
theorem yaT {lo:Int} {acc:Array Value} {n:Nat} (h:ItemsOf (λi v=>∃ t,v=.int (lo+i*1) t) acc n):Vals (((List.range n).map λi=>lo+(i:Nat)).map V.int) acc.toList:=by
 have:∀ (l:List Value) (k:Nat),(∀ j v,l[j]?=some v->∃ t,v=Value.int (lo+((k+j:Nat):Int)) t)->Vals (((List.range' k l.length).map λi=>lo+(i:Nat)).map V.int) l:=by
  intro l
  induction l with
  | nil=>intro k _;exact .nil
  | cons x r ih =>
   intro k hl;rw [List.length_cons,List.range'_succ,List.map_cons,List.map_cons];refine .cons ?_ (ih (k+1) λj v hj=>?_)
   ·obtain ⟨t,e⟩:=hl 0 x rfl;exact ⟨t,by rw [e];rfl⟩
   ·obtain ⟨t,e⟩:=hl (j+1) v (by simpa using hj);exact ⟨t,by rw [e,show k+(j+1)=k+1+j by omega]⟩
 have hsz:acc.toList.length=n:=by simpa using h.1
 have:=this acc.toList 0 λj v hj=>by
  obtain ⟨t,e⟩:=h.2 j v (by simpa using hj);exact ⟨t,by rw [e,Int.mul_one,Nat.zero_add]⟩
 rwa [hsz,<-List.range_eq_range'] at this
theorem jbg (hc:X.calm=true):jJ X (.type "list") (λxs H Q=>∃ (p:Addr) (lo hi:Int),xs=[.ref p]/\H p=some (.rng lo hi)/\(-(2^62)<=lo/\lo<2^62/\-(2^62)<=hi/\hi<2^62)/\(hi-lo).toNat<=sizeLine /\
  ∀ l,H l=none->Q (.ref l) (upd H l (.lst (((List.range (hi-lo).toNat).map λi=>lo+(i:Nat)).map V.int)))):=by
 intro pins s σ H xs us Q I rv ⟨p,lo,hi,e,hp,⟨b1,b2,b3,b4⟩,hz,q⟩;subst e;obtain ⟨u,rfl,ru⟩:=rv.one;cases ru;obtain ⟨t,u,v,ho⟩:=(show ObjOk X.prog X.w H s.heap p (.rng lo hi) from I.hok p _ hp);have h16:=sizeLine_eq;refine call_list_range (n:=(hi-lo).toNat) (I.ok.hd hc) ho (small_one b1 b2 b3 b4) (by rw [rangeSize_one];split<;>omega) (by omega) λh' tk acc ep kp ha hit=>?_
 refine ⟨.ref s.heap.objs.size,_,I.laid (o:=.lst (((List.range (hi-lo).toNat).map λi=>lo+(i:Nat)).map V.int)) (t':=tk) kp (wF _) ⟨?_,acc.toList,ep,yaT hit,by simpa using ha⟩,rfl,q _ I.fresh⟩
 simp;omega
theorem jaT {p1 p2 pos1 pos2:Pos} {e:Expr} {es:List Expr} {cs:Codes} (hc:X.calm=true) (hg:Gl X "range") (hm:X.mg "range"=none) (hg2:Gl X "list") (hm2:X.mg "list"=none) (ha:SA X C (e::es) cs) (hs:starEach (e::es) X.env=(false,eval e X.env)::starEach es X.env)
  (hpl:(backTo pos2 (starEach es X.env)).any (·.1)=false):SF X C (.Call (.Name "list" p1) [.Call (.Name "range" p2) (e::es) [] pos2] [] pos1) (.ofi .list (.rng cs)):=λB ρ ds h=>by
 obtain ⟨ds',hd,h⟩:=wa (show (evI C (.rng cs) ρ).bind (λds=>some (D.lst ds))=some (D.lst ds) from h);cases h;obtain ⟨dx,ex,hd⟩:=wa (show (evs C cs ρ).bind rngD=some ds from hd);have hpe:PE X (.Call (.Name "range" p2) (e::es) [] pos2) (tCB rRng (tDs X.K B ρ dx)):=yL ybE hg hm jaF (ha B ρ dx ex) (by decide) (by decide) hs hpl;refine (yL (jbg hc) hg2 hm2 yar (yH hpe yaa) (by decide) (by decide) rfl rfl).imp λσ H Q ⟨hb,er,q⟩=>?_
 refine ⟨hb,er,λvs H1 sm1 r1=>?_⟩
 have fin:∀ (lo hi:Int) (p l:Addr),ds=zj lo (hi-lo).toNat->H1 p=none->(upd H1 p (.rng lo hi)) l=none->Q (.ref l) (upd (upd H1 p (.rng lo hi)) l (.lst (((List.range (hi-lo).toNat).map λi=>lo+(i:Nat)).map V.int))):=λlo hi p l ed hp hl=>by
  have fl:H l=none:=(sm1.trans (je hp _)).free hl;refine q _ _ ((sm1.trans (je hp _)).trans (je hl _)) (.lst (hb.notN fl) zl ?_) ⟨l,rfl,fl⟩;rw [ed,zaG];exact Reps.of_ints _
 match dx,hd with
 | [.int j],hd =>
  simp only [rngD] at hd;split at hd
  ·rename_i hcd;cases hd;obtain ⟨v,rfl,rv⟩:=r1.one;cases rv;refine .inl ⟨j,rfl,hcd.1,hcd.2.1,λp hp=>⟨p,0,j,rfl,zl,⟨by omega,by omega,hcd.1,hcd.2.1⟩,by rw [Int.sub_zero];exact hcd.2.2,λl hl=>fin 0 j p l (by rw [Int.sub_zero]) hp hl⟩⟩
  ·cases hd
 | [.int i,.int j],hd =>
  simp only [rngD] at hd;split at hd
  ·rename_i hcd;cases hd;cases r1 with
   | cons ra r =>
    obtain ⟨v2,rfl,rb⟩:=r.one;cases ra;cases rb
    exact .inr ⟨i,j,rfl,⟨hcd.1,hcd.2.1,hcd.2.2.1,hcd.2.2.2.1⟩,λp hp=>⟨p,i,j,rfl,zl,⟨hcd.1,hcd.2.1,hcd.2.2.1,hcd.2.2.2.1⟩,hcd.2.2.2.2,λl hl=>fin i j p l rfl hp hl⟩⟩
  ·cases hd
end
theorem jc3 {bs:List Bool}:(List.range bs.length).map (λi=>bs.getD i false)=bs:=by
 refine List.ext_getElem (by simp) λi h1 h2=>?_
 simp [List.getD,h2]
section
variable {X:Cx}
theorem zc4 {bs:List Bool} {its:List Value} (r:Vals (bs.map V.bl) its):∀ (i:Nat) (v:Value),its.toArray[i]?=some v->v=Value.bool (bs.getD i false):=λi v hv=>by
 have hv':its[i]?=some v:=by simpa using hv
 have hi:i<bs.length:=by
  have hl:=r.length;rw [wG] at hl;rw [hl];exact (wu.mp hv').1
 obtain ⟨u,hu,r⟩:=r.get (i:=i) (x:=V.bl bs[i]) (by simp [hi]);rw [hv'] at hu;cases hu
 have:v=Value.bool bs[i]:=r
 rw [this];simp [List.getD,hi]
theorem yb9 {h h':Heap} {o:Obj} (kp:∀ b u,b∉[h.objs.size]->(h.push o).get? b=some u->h'.get? b=some u):∀ b u,h.get? b=some u->h'.get? b=some u:=λb u e =>
 kp b u (by simp only [wy,List.not_mem_nil,or_false];exact wQ (wA e)) (wm _ e)
theorem jb9 {P:Program} {w:World} {A:Around} {bs:List Bool} {its:List Value} (r:Vals (bs.map V.bl) its):TruthOf P w A (λi v=>its.toArray[i]?=some v) (λi=>bs.getD i false):=λi v s Q E h q=>by
 rw [zc4 r i v h];exact wpAny_truthy_bool q
theorem zca (hc:X.calm=true):jJ X (.builtin "all") (rDs X.K (yJ .all)):=by
 intro pins s σ H xs us Q I rv ⟨B,dx,d,hb,r,e,q⟩
 obtain ⟨x,ds,bs,rfl,hds,hbs,rfl⟩:∃ x ds bs,dx=[x]/\itemsD x=some ds/\qaN ds=some bs/\d=.bl (bs.all id):=by
  match dx,e with
  | [x],e =>
   obtain ⟨ds,h1,e⟩:=wa (show (itemsD x).bind _=some d from e);obtain ⟨bs,h2,e⟩:=wb e;exact ⟨x,ds,bs,rfl,h1,h2,e.symm⟩
  | [],e=>cases e
  | _::_::_,e=>cases e
 obtain ⟨v,rfl,rx⟩:=r.one;obtain ⟨t,a,ws,rfl,sq,_,rws⟩:=rx.srcT hb hds;rw [rws.bls hbs] at sq;obtain ⟨u,rfl,ru⟩:=rv.one;cases ru;obtain ⟨its,rits,p,hz⟩:=I.sseq sq;have hl:its.length=bs.length:=by have:=rits.length;rw [wG] at this;exact this.symm
 have halt:a<s.heap.objs.size:=by obtain ⟨o,_,ho,_⟩:=p.ob;exact wA ho
 refine call_all_walk (yX p ⟨s.heap.objs.size,_,_,its.toArray.size,_,_,λi=>bs.getD i false,rfl,jaZ (by simp [I.ok.hd hc]) t s.heap.objs.size a (wQ halt) its.toArray,⟨SItr.fresh t s.heap a,p.at λo e=>wm _ e⟩,jb9 rits,λh' tk kp=>?_⟩);refine ⟨.bl (bs.all id),H,I.kept (t':=tk) (yb9 kp),?_,q _ H (Same.refl H) (.bl _) (nofr λ_ z=>nomatch z)⟩;show Value.bool _=Value.bool _;rw [vo,hl]
 conv=>rhs;rw [<-jc3 (bs:=bs),List.all_map]
 rfl
end
theorem zcN (n d:Nat) (o:Option Int):HT.sIx n d o=Eng.sIx n d o:=by cases o<;>rfl
section
variable {K:Frag} {B:Addr->Prop} {H:Hp}
theorem Reps.reverse:∀ {vs:List V} {ds:List D},Reps K B H vs ds->Reps K B H vs.reverse ds.reverse
 | _,_,.nil=>.nil
 | _,_,.cons a r=>by rw [List.reverse_cons,List.reverse_cons];exact Reps.append (Reps.reverse r) (.cons a .nil)
theorem Reps.cut {vs:List V} {ds:List D} (r:Reps K B H vs ds) (lo hi:Option Int):Reps K B H (zcp vs lo hi) (cutD ds lo hi):=by
 unfold zcp cutD;rw [zcN,zcN,r.length];exact (r.drop _).take _
theorem qbS {vs:List V} {lo hi:Option Int} (h:HT.sIx vs.length 0 lo=0/\HT.sIx vs.length vs.length hi=vs.length):zcp vs lo hi=vs:=by
 unfold zcp;rw [h.1,h.2];simp
end
section
variable {prog:Program} {w:World} {A:Around} {E:Value->Shared->Prop} {s:Shared}
theorem jah {t sl:Addr} {items:Array Value} {vl vu:Value} {lo hi:Option Int} {Q:Value->Shared->Prop} (ht:IsTup s.heap t items) (hs:s.heap.IsSliceOf sl vl vu .none) (pl:IsPart vl lo) (pu:IsPart vu hi)
  (hw:HT.sIx items.size 0 lo=0/\HT.sIx items.size items.size hi=items.size) (h:Q (.ref t) s):wpAny (model prog w) A (getItem (.ref t) (.ref sl)) Q E s:=by
 obtain ⟨os,hos,hcs,hds⟩:=id hs;have hTs:s.TypeIs (.ref sl) "slice":=⟨os,hos,hcs⟩;unfold getItem
 try with_reducible refine wpAny_holding ?_
 first | refine wg (wo ?_) | skip
 refine wg (wpAny_sequenceKey ht.typeIs (by decide) ?_)
 refine wg (va (name:=Str.ofString "__getitem__") ht.typeIs PyProof.Rows.slot_tuple_getitem
  (wY PyProof.Rows.slot_tuple_getitem ht.typeIs entry_tuple_getitem ?_ (args_tuple_getitem _ _)))
 show wpAny _ _ (Builtin.Tuple.tupleItemsOf (.ref t) >>= _) _ _ s;refine wg (tupleItemsOf_ ht ?_);refine wg (wpAny_typeOf hTs ?_);rw [if_pos (by decide)];refine wg (HT.z0 hs pl pu ?_)
 have hyes:(((HT.sIx items.size 0 lo:Nat):Int)==0&&(1:Int)==1&&(HT.sIx items.size items.size hi-HT.sIx items.size 0 lo)==items.size)=true:=by
  rw [hw.1,hw.2];simp
 show wpAny _ _ (if (((HT.sIx items.size 0 lo:Nat):Int)==0&&(1:Int)==1&&(HT.sIx items.size items.size hi-HT.sIx items.size 0 lo)==items.size)=true then _ else _) _ _ s;rw [if_pos hyes];unfold Builtin.Tuple.tupleIsExact;refine wg (wg (wpAny_typeOf ht.typeIs (wo ?_)));rw [if_pos (by decide)];refine wg (wpAny_rule ?_)
 first
  | exact wo ⟨_,rfl,wo h⟩
  | exact wg (wo (wo ⟨_,rfl,wo h⟩))
  | exact wg (wo (wo (wo ⟨_,rfl,wo h⟩)))
  | exact wg (wg (wo (wo ⟨_,rfl,wo h⟩)))
  | (wp_walk;trace_state)
end
section
variable {prog:Program} {w:World} {A:Around} {E:Value->Shared->Prop} {s:Shared}
theorem ybS (n:Nat):Builtin.Slice.sliceAdjust none none (-1) (n:Int)=((n:Int)-1,-1):=by
 unfold Builtin.Slice.sliceAdjust
 simp
theorem jbS (n:Nat):Builtin.Slice.slicePlaces ((n:Int)-1) (-1) (-1)=n:=by
 unfold Builtin.Slice.slicePlaces;have h1:¬ ((-1:Int)>0):=by omega
 simp only [h1,if_false,Int.neg_neg,Int.ediv_one];split<;>omega
theorem zay {sl:Addr} {n:Nat} {tk:Tok} {Q:Int×Int×Nat->Shared->Prop} (hs:s.heap.IsSliceOf sl .none .none (.int (-1) tk)) (h:Q ((n:Int)-1,-1,n) s):wpAny (model prog w) A (Builtin.Slice.sliceApplied (.ref sl) (pure (n:Int))) Q E s:=by
 obtain ⟨os,hos,hcs,hds⟩:=id hs;unfold Builtin.Slice.sliceApplied Builtin.Slice.sliceFields;refine wg (wg (wpAny_field hos hds (x:=.none) rfl (wg (wpAny_field hos hds (x:=.none) rfl (wg (wpAny_field hos hds (x:=.int (-1) tk) rfl (wo ?_)))))));refine wg (slicePart_int ?_);show wpAny _ _ (if ((-1:Int)==0)=true then _ else _) _ _ s;rw [if_neg (by decide)];refine wg (slicePart_none (wg (slicePart_none (wg (wo ?_)))));show wpAny _ _ (match Builtin.Slice.sliceAdjust none none (-1) (n:Int) with | (lo,hi)=>pure (lo,(-1:Int),Builtin.Slice.slicePlaces lo hi (-1))) _ _ s;rw [ybS n];show wpAny _ _ (pure ((n:Int)-1,(-1:Int),Builtin.Slice.slicePlaces ((n:Int)-1) (-1) (-1))) _ _ s;rw [jbS];exact wo h
theorem qaG (xs:List Value) (f:Nat->Nat):∀ k,k<=xs.length->(∀ m,m<k->f m=xs.length-1-m)->(List.range k).filterMap (λm=>xs[f m]?)=xs.reverse.take k:=by
 intro k
 induction k with
 | zero=>intro _ _;simp
 | succ k ih =>
  intro hk hf;rw [List.range_succ,List.filterMap_append,ih (by omega) λm hm=>hf m (by omega),List.take_succ];congr 1;rw [List.getElem?_reverse (by omega)];have e:=hf k (by omega);have hlt:xs.length-1-k<xs.length:=by omega
  simp only [List.filterMap_cons,List.filterMap_nil,e];cases q:xs[xs.length-1-k]? with
  | none=>rfl
  | some v=>rfl
theorem qcz (xs:List Value):((List.range xs.length).filterMap λ(m:Nat)=>xs.toArray[((xs.length:Int)-1+(m:Int)*-1).toNat]?).toArray=xs.reverse.toArray:=by
 have:=qaG xs (λm=>((xs.length:Int)-1+(m:Int)*-1).toNat) xs.length (wF _) λm hm=>by omega
 simp only [List.getElem?_toArray];rw [this,List.take_of_length_le (by simp)]
theorem jar {t sl:Addr} {xs:List Value} {tk:Tok} {Q:Value->Shared->Prop} (ht:IsTup s.heap t xs.toArray) (hs:s.heap.IsSliceOf sl .none .none (.int (-1) tk))
  (h:Q (.ref s.heap.objs.size) { s with heap:=s.heap.push { cls:=.type "tuple",data:=.seq xs.reverse.toArray } }) (hsz:xs.length<=sizeLine):wpAny (model prog w) A (getItem (.ref t) (.ref sl)) Q E s:=by
 have htake:sizeOk (.seq xs.reverse.toArray):=by
  show xs.reverse.toArray.size<=sizeLine;simpa using hsz
 obtain ⟨os,hos,hcs,hds⟩:=id hs;have hTs:s.TypeIs (.ref sl) "slice":=⟨os,hos,hcs⟩;unfold getItem
 try with_reducible refine wpAny_holding ?_
 first | refine wg (wo ?_) | skip
 refine wg (wpAny_sequenceKey ht.typeIs (by decide) ?_)
 refine wg (va (name:=Str.ofString "__getitem__") ht.typeIs PyProof.Rows.slot_tuple_getitem
  (wY PyProof.Rows.slot_tuple_getitem ht.typeIs entry_tuple_getitem ?_ (args_tuple_getitem _ _)))
 show wpAny _ _ (Builtin.Tuple.tupleItemsOf (.ref t) >>= _) _ _ s;refine wg (tupleItemsOf_ ht ?_);refine wg (wpAny_typeOf hTs ?_);rw [if_pos (by decide)];refine wg (zay (n:=xs.toArray.size) hs ?_)
 have hno:¬ ((((xs.toArray.size:Int)-1)==0&&(-1:Int)==1&&xs.toArray.size==xs.toArray.size)=true):=by
  intro q;rw [wj,wj] at q
  have:=q.1.2
  exact absurd this (by decide)
 show wpAny _ _ (if (((xs.toArray.size:Int)-1)==0&&(-1:Int)==1&&xs.toArray.size==xs.toArray.size)=true then _ else _) _ _ s;rw [if_neg hno];simp only [vo];rw [qcz]
 first
  | exact wg (m:=Builtin.Tuple.tupleExact _) (ve (wo ⟨_,rfl,wo h⟩) htake)
  | exact wg (m:=Builtin.Tuple.tupleExact _) (ve (wg (wo (wo ⟨_,rfl,wo h⟩))) htake)
  | exact wg (wg (m:=Builtin.Tuple.tupleExact _) (ve (wo (wo ⟨_,rfl,wo h⟩)) htake))
  | exact wg (wg (m:=Builtin.Tuple.tupleExact _) (ve (wo ⟨_,rfl,wo h⟩) htake))
theorem za3 (xs:List Value):slicePick xs.toArray none none (some (-1))=xs.reverse.toArray:=by
 unfold slicePick sliceRange sliceBounds;simp only [vo];have h1:¬ ((-1:Int)>0):=by omega
 simp only [Option.getD_some,h1,if_false,List.filterMap_map,Int.neg_neg,Int.ediv_one];have e:(if (xs.length:Int)-1>-1 then (xs.length:Int)-1 - -1 - -1-1 else 0).toNat=xs.length:=by split<;>omega
 rw [e]
 have:=qaG xs (λm=>((xs.length:Int)-1+-1*(m:Int)).toNat) xs.length (wF _) λm hm=>by omega
 simp only [Function.comp_def,List.getElem?_toArray];rw [this,List.take_of_length_le (by simp)]
end
end Eng
end
section
namespace Eng
open PySem PySem.Spec PyProof.Rows L2
open AutoSeq1 (wpAny_loadPart')
section
variable {prog:Program} {w:World} {A:Around} {E:Value->Shared->Prop} {s:Shared}
theorem zbh {R:Result->Shared->Prop} {r:Addr} {a b c:Int} {t u v:Tok} {n:Nat} (hh:A.handled=none) (hr:IsRange s.heap r a b c t u v) (hsmall:Builtin.Range.small a b c=true) (hn:Builtin.Range.rangeSize a b c=n) (hlen:n<=2^24)
  (hR:∀ h' tk acc c',s.heap.objs.size<h'.objs.size->(∀ b o,s.heap.get? b=some o->h'.get? b=some o)->h'.get? s.heap.objs.size=some { cls:=.type "list",dict:=none,data:=.seq acc c',slots:=#[] }->ItemsOf (λi v=>∃ t,v=.int (a+i*c) t) acc n->R (.ok (.ret (.ref s.heap.objs.size))) { s with heap:=h',toks:=tk }) :
  codeAny (model prog w) A (.builtin "proto.collect" ⟨[.ref r],[]⟩) R s:=by
 refine codeAny_builtin F.entry_proto_collect ?_;rw [Around.under_plainId F.plain_proto_collect _];show wpAny _ A.in1 (newList [] >>= λl=>again (.builtin "list.__iadd__" ⟨[l,.ref r],[]⟩)) _ _ s;refine wg (ve ?_);refine wo ⟨plainId_quiet F.plain_list_iadd _,codeAny_builtin F.entry_list_iadd ?_⟩;rw [Around.under_plainId F.plain_list_iadd _];show wpAny _ A.in1 (Builtin.List.listExtendWith (.ref s.heap.objs.size) (.ref r) (.ref s.heap.objs.size)) _ _ _;have hS0:(s.heap.push { cls:=.type "list",data:=.seq ([]:List Value).toArray }).get? s.heap.objs.size=some { cls:=.type "list",data:=.seq #[] 0 }:=wx _ rfl;refine wpAny_extend_range (R:=R) (s:={ s with heap:=s.heap.push { cls:=.type "list",data:=.seq ([]:List Value).toArray } }) hh (wm _ hr) hsmall hn hlen s.heap.objs.size (.ref s.heap.objs.size) 0 hS0 λh' tk acc c' kp hS hacc=>?_
 exact hR h' tk acc c' (wA hS) (λb o e=>kp b o (wQ (wA e)) (wm _ e)) hS hacc
theorem qa3 {Q:List Value->Shared->Prop} {r:Addr} {a b c:Int} {t u v:Tok} {n:Nat} (hh:A.handled=none) (hr:IsRange s.heap r a b c t u v) (hsmall:Builtin.Range.small a b c=true) (hn:Builtin.Range.rangeSize a b c=n) (hlen:n<=2^24)
  (hQ:∀ h' tk acc,s.heap.objs.size<h'.objs.size->(∀ b o,s.heap.get? b=some o->h'.get? b=some o)->ItemsOf (λi v=>∃ t,v=.int (a+i*c) t) acc n->Q acc.toList { s with heap:=h',toks:=tk }) :
  wpAny (model prog w) A (collect (.ref r)) Q E s:=by
 unfold collect;refine wg (wpAny_runValue (zbh hh hr hsmall hn hlen λh' tk acc c' hlt kp hS hacc=>?_));show wpAny _ A (load s.heap.objs.size >>= _) _ _ _;refine wg (wpAny_load hS ?_);exact wo (hQ h' tk acc hlt kp hacc)
end
theorem qac (r:Addr) (a b c:Int) (t u v:Tok) (n:Nat) (hsmall:Builtin.Range.small a b c=true) (hn:Builtin.Range.rangeSize a b c=n) (hlen:n<=2^24) :
  Meets (Builtin.«tuple.__new__» ⟨[.type "tuple",.ref r],[]⟩)
   (λA R s=>A.handled=none/\IsRange s.heap r a b c t u v/\∀ (h':Heap) (tk:Nat) (acc:Array Value),s.heap.objs.size<h'.objs.size->(∀ b o,s.heap.get? b=some o->h'.get? b=some o)->ItemsOf (λi v=>∃ t,v=.int (a+i*c) t) acc n ->
    R (.ok (.ret (.ref h'.objs.size))) { s with heap:=h'.push { cls:=.type "tuple",data:=.seq acc },toks:=tk }) :=
 .of_wp λprog w A R s h=>by
  obtain ⟨hh,hr,h⟩:=h;have hsub:=sub_tuple_self;have hinit:=init_tuple_lookup;have hmh:=madeHere_tuple;have hT:s.TypeIs (.ref r) "range":=⟨_,hr,rfl⟩;have hh1:A.in1.handled=none:=hh
  wp_walk using wpAny_typeOf hT,qa3 hh1 hr hsmall hn hlen
  intro h' tk acc hlt hk hacc;show wpAny _ _ (Builtin.Tuple.tupleExact acc.toList.toArray >>= λv=>ret v) _ _ _;unfold Builtin.Tuple.tupleExact;refine wg (ve ?_ (show acc.toList.toArray.size<=sizeLine by simp only [Array.toArray_toList];rw [hacc.1,sizeLine_eq];exact hlen));refine wo ⟨_,rfl,?_⟩;have e:acc.toList.toArray=acc:=by simp
  rw [e];exact h h' tk acc hlt hk hacc
section
variable {prog:Program} {w:World} {A:Around} {E:Value->Shared->Prop} {s:Shared}
theorem qay {Q:Value->Shared->Prop} {r:Addr} {a b c:Int} {t u v:Tok} {n:Nat} (hh:A.handled=none) (hr:IsRange s.heap r a b c t u v) (hsmall:Builtin.Range.small a b c=true) (hn:Builtin.Range.rangeSize a b c=n) (hlen:n<=2^24)
  (h:∀ (h':Heap) (tk:Nat) (acc:Array Value),s.heap.objs.size<h'.objs.size->(∀ b o,s.heap.get? b=some o->h'.get? b=some o)->ItemsOf (λi v=>∃ t,v=.int (a+i*c) t) acc n->Q (.ref h'.objs.size) { s with heap:=h'.push { cls:=.type "tuple",data:=.seq acc },toks:=tk }) :
  wpAny (model prog w) A (call (.type "tuple") [.ref r]) Q E s:=by
 refine callType_new F.called_tuple (by decide) (F.typeCall_tuple_1 _) (F.newCall_tuple_1 _) (λobj => F.args_object_init_2 obj _) F.entry_tuple_new
  (qac r a b c t u v n hsmall hn hlen) ⟨hh,hr,λh' tk acc hlt hk hacc=>⟨⟨_,wx _ rfl,rfl⟩,?_⟩⟩
 exact h h' tk acc hlt hk hacc
end
section
variable {X:Cx} {C:Tab}
theorem ya3 (hc:X.calm=true):jJ X (.type "tuple") (λxs H Q=>∃ (p:Addr) (lo hi:Int),xs=[.ref p]/\H p=some (.rng lo hi)/\(-(2^62)<=lo/\lo<2^62/\-(2^62)<=hi/\hi<2^62)/\(hi-lo).toNat<=sizeLine /\
  ∀ l,H l=none->Q (.ref l) (upd H l (.tup (((List.range (hi-lo).toNat).map λi=>lo+(i:Nat)).map V.int)))):=by
 intro pins s σ H xs us Q I rv ⟨p,lo,hi,e,hp,⟨b1,b2,b3,b4⟩,hz,q⟩;subst e;obtain ⟨u,rfl,ru⟩:=rv.one;cases ru;obtain ⟨t,u,v,ho⟩:=(show ObjOk X.prog X.w H s.heap p (.rng lo hi) from I.hok p _ hp);have h16:=sizeLine_eq;refine qay (n:=(hi-lo).toNat) (I.ok.hd hc) ho (small_one b1 b2 b3 b4) (by rw [rangeSize_one];split<;>omega) (by omega) λh' tk acc hlt kp hit=>?_
 have hle:=Nat.le_of_lt hlt;refine ⟨.ref h'.objs.size,_,I.laid (o:=.tup (((List.range (hi-lo).toNat).map λi=>lo+(i:Nat)).map V.int)) (t':=tk) (λb u e=>wm _ (kp b u e)) hle ⟨?_,acc.toList,yaT hit,?_⟩,rfl,q _ (I.hok.fresh hle)⟩
 ·simp;omega
 ·rw [Array.toArray_toList];exact IsTupN.new _ _
theorem qbr {p1 p2 pos1 pos2:Pos} {e:Expr} {es:List Expr} {cs:Codes} (hc:X.calm=true) (hg:Gl X "range") (hm:X.mg "range"=none) (hg2:Gl X "tuple") (hm2:X.mg "tuple"=none) (hv2:bootBuiltins "tuple"=some (.type "tuple")) (ha:SA X C (e::es) cs) (hs:starEach (e::es) X.env=(false,eval e X.env)::starEach es X.env)
  (hpl:(backTo pos2 (starEach es X.env)).any (·.1)=false):SE X C (.Call (.Name "tuple" p1) [.Call (.Name "range" p2) (e::es) [] pos2] [] pos1) (.ofi .tuple (.rng cs)):=λB ρ d h=>by
 obtain ⟨ds,hd,h⟩:=wa (show (evI C (.rng cs) ρ).bind (λds=>some (D.tup ds))=some d from h);cases h;obtain ⟨dx,ex,hd⟩:=wa (show (evs C cs ρ).bind rngD=some ds from hd);have hpe:PE X (.Call (.Name "range" p2) (e::es) [] pos2) (tCB rRng (tDs X.K B ρ dx)):=yL ybE hg hm jaF (ha B ρ dx ex) (by decide) (by decide) hs hpl;refine (yL (ya3 hc) hg2 hm2 hv2 (yH hpe yaa) (by decide) (by decide) rfl rfl).imp λσ H Q ⟨hb,er,q⟩=>?_
 refine ⟨hb,er,λvs H1 sm1 r1=>?_⟩
 have fin:∀ (lo hi:Int) (p l:Addr),ds=zj lo (hi-lo).toNat->H1 p=none->(upd H1 p (.rng lo hi)) l=none->Q (.ref l) (upd (upd H1 p (.rng lo hi)) l (.tup (((List.range (hi-lo).toNat).map λi=>lo+(i:Nat)).map V.int))):=λlo hi p l ed hp hl=>by
  refine q _ _ ((sm1.trans (je hp _)).trans (je hl _)) (.tup zl ?_);rw [ed,zaG];exact Reps.of_ints _
 match dx,hd with
 | [.int j],hd =>
  simp only [rngD] at hd;split at hd
  ·rename_i hcd;cases hd;obtain ⟨v,rfl,rv⟩:=r1.one;cases rv;refine .inl ⟨j,rfl,hcd.1,hcd.2.1,λp hp=>⟨p,0,j,rfl,zl,⟨by omega,by omega,hcd.1,hcd.2.1⟩,by rw [Int.sub_zero];exact hcd.2.2,λl hl=>fin 0 j p l (by rw [Int.sub_zero]) hp hl⟩⟩
  ·cases hd
 | [.int i,.int j],hd =>
  simp only [rngD] at hd;split at hd
  ·rename_i hcd;cases hd;cases r1 with
   | cons ra r =>
    obtain ⟨v2,rfl,rb⟩:=r.one;cases ra;cases rb;refine .inr ⟨i,j,rfl,⟨hcd.1,hcd.2.1,hcd.2.2.1,hcd.2.2.2.1⟩,λp hp=>⟨p,i,j,rfl,zl,⟨hcd.1,hcd.2.1,hcd.2.2.1,hcd.2.2.2.1⟩,hcd.2.2.2.2,λl hl=>fin i j p l rfl hp hl⟩⟩
  ·cases hd
end
end Eng
end
section
namespace Eng
open PySem
structure Gam where
 N:List Str
 names:List (Str×NameKind)
structure GTab where
 fns:List Str
 cons:List (Str×Int)
 txts:List (Str×Str)
noncomputable def zai (g:Gam) (x:Str):Option NameKind:=g.names.lookup x
noncomputable def jdH (g:Gam) (x:Str):Bool:=zai g x==some .local||zai g x==some .cell||zai g x==some .free
noncomputable def zdI (g:Gam) (x:Str):Bool:=zai g x==some .local||zai g x==some .cell
noncomputable def zaN (g:Gam) (x:Str):Bool:=zai g x==some .globalImplicit
noncomputable def jav (x:Str):Bool:=!(x==("__debug__":Str))&&!(x==("__classdict__":Str))
noncomputable def qbh (g:Gam) (i:Nat) (x:Str):Bool:=g.N[i]?==some x
noncomputable def jU:Expr->Bool
 | .Starred ..=>true
 | _=>false
noncomputable def setB:Expr->Bool
 | .Set ..=>true
 | _=>false
noncomputable def jbE:Expr->Bool
 | .Slice ..=>true
 | _=>false
noncomputable def qc4:Expr->Bool
 | .Call ..=>true
 | _=>false
noncomputable def zdl:Expr->Bool
 | .Tuple ..=>true
 | _=>false
noncomputable def qcN:Const->D->Bool
 | .none,.non=>true
 | .bool a,.bl b=>a==b
 | .int a,.int b=>a==b
 | .str a,.str b=>a==b
 | _,_=>false
noncomputable def zdW (g:Gam):List Expr->List Nat->Bool
 | [],[]=>true
 | .Name x _::es,i::is=>qbh g i x&&zdI g x&&zdW g es is
 | _,_=>false
noncomputable def tgB (g:Gam):Expr->Tgt->Bool
 | .Name x _,.one i=>qbh g i x&&zdI g x
 | .Tuple es _ _,.many is=>zdW g es is
 | _,_=>false
noncomputable def qca:Expr->List Str
 | .Name x _=>[x]
 | .Tuple es _ _=>es.filterMap λe=>match e with | .Name x _=>some x | _=>none
 | _=>[]
noncomputable def yc4 (g:Gam) (scope:Scope) (tg:Expr) (keep:List Nat):Gam:=⟨qca tg++keep.map λj=>(g.N[j]?).getD Str.empty,scope.names⟩
noncomputable def jd5 (g:Gam) (scope:Scope) (keep:List Nat):Bool:=keep.all λj=>match g.N[j]? with
 | some x=>scope.names.lookup x==some .free&&(zai g x==some .cell||zai g x==some .free)
 | none=>false
noncomputable def zbF (g:Gam) (scope:Scope):Bool:=decide (scope.kind=.function)&&scope.names.all λp=>(decide (p.2≠.cell)||scope.names.all λq=>decide (q.1≠p.1)||decide (q.2≠.free))&&(decide (p.2≠.free)||(zai g p.1==some .cell||zai g p.1==some .free))&&(decide (p.2≠.local)||scope.names.lookup p.1==some .local)
noncomputable def zd6 (t:Tgt) (n:Nat):Bool:=match t with
 | .one i=>decide (i<n)
 | .many is=>is.all λi=>decide (i<n)
noncomputable def qdW:CmpOp->Bool
 | .In=>false
 | .NotIn=>false
 | _=>true
noncomputable def ybr (es:List Expr):Bool:=!es.isEmpty&&es.all λe=>!jU e
noncomputable abbrev RE:=Gam->Expr->Code->Bool
noncomputable def okA (r:Expr->Code->Bool):List Expr->Codes->Bool
 | [],.nil=>true
 | e::es,.cons c cs=>r e c&&okA r es cs
 | _,_=>false
noncomputable def ycp (r:Expr->Code->Bool) (op:BoolOp):List Expr->Code->Bool
 | [],_=>false
 | [a],c=>r a c
 | a::b::es,c=>match op,c with
  | .And,.and x y=>r a x&&ycp r op (b::es) y
  | .Or,.or x y=>r a x&&ycp r op (b::es) y
  | _,_=>false
noncomputable def jej:Blt->Option Str
 | .len=>some "len"
 | .list=>some "list"
 | .tuple=>some "tuple"
 | .int=>some "int"
 | .str=>some "str"
 | .all=>some "all"
 | .min=>some "min"
 | _=>none
noncomputable def tyN:Ty->String
 | .int=>"int"
 | .bool=>"bool"
 | .str=>"str"
 | .tuple=>"tuple"
 | .list=>"list"
noncomputable def tyS (t:Ty):Str:=Str.ofString (tyN t)
noncomputable def qdI (r:Expr->Code->Bool) (g:Gam) (args:List Expr) (a:Code) (t:Ty):Bool:=match args with
 | [e,.Name y _]=>y==tyS t&&zaN g y&&!jU e&&r e a
 | _=>false
noncomputable def okO (r:Expr->Code->Bool):Option Expr->OCode->Bool
 | none,.none=>true
 | some e,.some c=>r e c
 | _,_=>false
noncomputable def yaG (e:Expr):Option (Str×List Expr):=match e with
 | .Call f as kws _=>(match f with | .Name y _=>(match kws with | []=>some (y,as) | _=>none) | _=>none)
 | _=>none
theorem yN {e:Expr} {y:Str} {as:List Expr} (h:yaG e=some (y,as)):∃ p q,e=.Call (.Name y p) as [] q:=by
 unfold yaG at h;split at h
 ·split at h
  ·split at h
   ·cases h;exact ⟨_,_,rfl⟩
   ·cases h
  ·cases h
 ·cases h
noncomputable def ycz (args:List Expr):Option (Str×List Expr):=match args with
 | [e]=>yaG e
 | _=>none
theorem qbF {args:List Expr} {y:Str} {as:List Expr} (h:ycz args=some (y,as)):∃ p q,args=[.Call (.Name y p) as [] q]:=by
 unfold ycz at h;split at h
 ·obtain ⟨p,q,rfl⟩:=yN h;exact ⟨p,q,rfl⟩
 ·cases h
noncomputable def one? {α:Type}:List α->Option α
 | [a]=>some a
 | _=>none
noncomputable def qdl {α:Type}:List α->Option (α×α)
 | [a,b]=>some (a,b)
 | _=>none
theorem jag {α:Type} {l:List α} {a:α} (h:one? l=some a):l=[a]:=by
 unfold one? at h;split at h
 ·cases h;rfl
 ·cases h
theorem ybF {α:Type} {l:List α} {a b:α} (h:qdl l=some (a,b)):l=[a,b]:=by
 unfold qdl at h;split at h
 ·cases h;rfl
 ·cases h
noncomputable def yca (r:Expr->Code->Bool) (g:Gam) (args:List Expr) (cs:Codes):Bool:=match ycz args with
 | some (y,as)=>(match one? as with
  | some a=>(match cs with | .cons c .nil=>y==("set":Str)&&zaN g y&&!jU a&&r a c | _=>false)
  | none=>false)
 | none=>false
noncomputable def jca (r:Expr->Code->Bool) (g:Gam) (args:List Expr) (cs:Codes):Bool:=match ycz args with
 | some (y,as)=>y==("range":Str)&&zaN g y&&ybr as&&okA r as cs
 | none=>false
noncomputable def zcb (G:GTab) (r:Expr->Code->Bool) (g:Gam) (x:Str) (args:List Expr) (c:Code):Bool:=zaN g x&&jav x&&match c with
 | .call i cs=>G.fns[i]?==some x&&ybr args&&okA r args cs
 | .blt .lenSet cs=>x==("len":Str)&&yca r g args cs
 | .blt .sortedSet cs=>x==("sorted":Str)&&yca r g args cs
 | .blt b cs=>jej b==some x&&ybr args&&okA r args cs
 | .ofi .list (.rng cs)=>x==("list":Str)&&jca r g args cs
 | .ofi .tuple (.rng cs)=>x==("tuple":Str)&&jca r g args cs
 | .isi a t=>x==("isinstance":Str)&&qdI r g args a t
 | _=>false
noncomputable def okI (r:Expr->Code->Bool) (g:Gam) (tg it:Expr) (i:Iter):Bool:=!setB it&&match i with
 | .data c=>r it c
 | .chr c=>r it c
 | .rng cs=>(match yaG it with | some (y,as)=>y==("range":Str)&&zaN g y&&(decide (as.length=1)||decide (as.length=2))&&ybr as&&okA r as cs | none=>false)
 | .enu c=>zdl tg&&(match yaG it with | some (y,as)=>(match one? as with | some a=>y==("enumerate":Str)&&zaN g y&&!jU a&&r a c | none=>false) | none=>false)
 | .zip c d=>zdl tg&&(match yaG it with | some (y,as)=>(match qdl as with | some (a,b)=>y==("zip":Str)&&zaN g y&&!jU a&&!jU b&&r a c&&r b d | none=>false) | none=>false)
 | .vals _=>false
noncomputable def okC (r t:RE) (g:Gam) (elt tg it:Expr) (ifs:List Expr) (asy:Int) (scope:Scope) (c:Code):Bool:=match c with
 | .comp ce tt m keep i cc=>asy==0&&zbF g scope&&jd5 g scope keep&&decide ((qca tg).length=m)&&zd6 tt m&&decide (yc4 g scope tg keep).N.Nodup&&tgB (yc4 g scope tg keep) tg tt&&okI (r g) g tg it i&&r (yc4 g scope tg keep) elt ce
  && (match ifs,cc with | [],.none=>true | [e],.some c=>t (yc4 g scope tg keep) e c | _,_=>false)
 | _=>false
noncomputable def jcz (r:Expr->Code->Bool) (l:Expr) (os:List CmpOp) (es:List Expr) (c:Code):Bool:=match os,es,c with
 | [o],[e],.cmp op a b=>decide (o=op)&&!setB e&&r l a&&r e b
 | [o,o'],[m,e],.chn op op' a b d=>decide (o=op)&&decide (o'=op')&&qdW op&&qdW op'&&r l a&&r m b&&r e d
 | _,_,_=>false
noncomputable def zek (r:Expr->Code->Bool) (o:Expr) (nm:Str) (l l':Nat) (b:Expr) (c:Code):Bool:=match c with
 | .blt bb (.cons x (.cons y .nil))=>(match bb with | .join=>nm==("join":Str) | .split=>nm==("split":Str) | .find=>nm==("find":Str) | .part=>nm==("partition":Str) | .lidx=>nm==("index":Str) | .lcnt=>nm==("count":Str) | _=>false)&&(!qc4 o&&!jU b&&l==l'&&r o x&&r b y)
 | _=>false
noncomputable def qd6 (G:GTab) (r:Expr->Code->Bool) (g:Gam) (f:Expr) (args:List Expr) (kws:List Keyword) (l':Nat) (c:Code):Bool:=match f with
 | .Name x _=>(match kws with
  | []=>zcb G r g x args c
  | _=>false)
 | .Attribute o nm apos=>(match kws with
  | []=>(match args with | [b]=>zek r o nm apos.endLine l' b c | _=>false)
  | _=>false)
 | _=>false
noncomputable def qek (r:Expr->Code->Bool) (v s:Expr) (c:Code):Bool:=match c with
 | .idx a b=>!jbE s&&r v a&&r s b
 | .slc a lo hi=>(match s with | .Slice l h none _=>r v a&&okO r l lo&&okO r h hi | _=>false)
 | .rev a=>(match s with | .Slice none none (some st) _=>r v a&&r st (.neg (.cst (.int 1))) | _=>false)
 | _=>false
noncomputable def yek (G:GTab) (g:Gam) (x:Str) (c:Code):Bool:=match c with
 | .var i=>qbh g i x&&jdH g x
 | .cst (.int i)=>zaN g x&&G.cons.lookup x==some i
 | .cst (.str z)=>zaN g x&&G.txts.lookup x==some z
 | _=>false
noncomputable def ydI (e:Expr):Option Const:=match e with
 | .Constant k _ _=>some k
 | _=>none
theorem jbr {e:Expr} {k:Const} (h:ydI e=some k):∃ j p,e=.Constant k j p:=by
 unfold ydI at h;split at h
 ·cases h;exact ⟨_,_,rfl⟩
 ·cases h
noncomputable def yd6 (e:Expr):Option (List Expr):=match e with
 | .List es _=>some es
 | _=>none
theorem jc4 {e:Expr} {es:List Expr} (h:yd6 e=some es):∃ p,e=.List es p:=by
 unfold yd6 at h;split at h
 ·cases h;exact ⟨_,rfl⟩
 ·cases h
noncomputable def zc5 (e:Expr):Bool:=match ydI e with
 | some (.int i)=>i==0
 | _=>false
noncomputable def jd6 (e:Expr):Bool:=match ydI e with
 | some .none=>true
 | _=>false
noncomputable def qc5 (G:GTab) (r t:RE) (g:Gam) (e:Expr) (c:Code):Bool:=match e with
 | .Constant k _ _=>(match c with | .cst d=>qcN k d | _=>false)
 | .Name x _=>jav x&&yek G g x c
 | .BinOp l o rr _=>(match c with | .bin op a b=>decide (o=op)&&r g l a&&r g rr b | _=>false)
 | .UnaryOp op a _=>(match op with
  | .USub=>(match c with | .neg x=>r g a x | _=>false)
  | .Not=>(match c with | .not x=>r g a x | _=>false)
  | _=>false)
 | .BoolOp op es _=>ycp (r g) op es c
 | .Compare l os es _=>jcz (r g) l os es c
 | .Tuple es _ _=>(match c with | .tup cs=>es.all (λe=>!jU e)&&okA (r g) es cs | _=>false)
 | .List es _=>(match c with | .lst cs=>es.all (λe=>!jU e)&&okA (r g) es cs | _=>false)
 | .Subscript v s _=>qek (r g) v s c
 | .ListComp elt gens scope _=>(match gens with | [⟨tg,it,ifs,asy⟩]=>okC r t g elt tg it ifs asy scope c | _=>false)
 | .Call f args kws cpos=>qd6 G (r g) g f args kws cpos.line c
 | _=>false
noncomputable def stepT (G:GTab) (r t:RE) (g:Gam) (e:Expr) (c:Code):Bool:=match e with
 | .UnaryOp .Not a _=>(match c with | .not x=>t g a x | _=>false)
 | .BoolOp op es _=>ycp (t g) op es c
 | .IfExp ..=>false
 | .Compare l os es _=>jcz (r g) l os es c
 | e=>r g e c
noncomputable def ok (G:GTab):Nat->RE×RE
 | 0=>(λ_ _ _=>false,λ_ _ _=>false)
 | n+1=>(qc5 G (ok G n).1 (ok G n).2,stepT G (ok G n).1 (ok G n).2)
end Eng
end
section
namespace Eng
open PySem PySem.Spec PyProof.Rows L2
open PySem.Builtin.Str (occurrences partsBetween strKind)
theorem ybh:∀ (l:List (Str×Tok)),Vals ((l.map (·.1)).map V.str) (strValues l)
 | []=>.nil
 | p::l=>.cons ⟨p.2,rfl⟩ (ybh l)
theorem jdI {prog:Program} {w:World} {A:Around} {E:Value->Shared->Prop} {s:Shared} {x y:Str} {t u:Tok} {Q:Value->Shared->Prop} (hy:(y.length==0)=false)
  (h:∀ l k,l.map (·.1)=Txt.split x y->Q (.ref s.heap.objs.size) { s with heap:=s.heap.push { cls:=.type "list",data:=.seq (strValues l).toArray },toks:=k }) (hsz:x.length+2<=sizeLine) :
  wpAny (model prog w) A (call (.builtin "str.split") [.str x t,.str y u]) Q E s:=by
 have hn:(partsBetween x (occurrences x y 0 x.length (x.length+1)) y.length).length<=sizeLine:=by
  have e1:=StrLaws.occ_length_le x y 0 x.length (x.length+1);rw [length_partsBetween];omega
 cases h1:(decide (x.length<y.length)||decide (strKind x<strKind y))
 ·cases hf:(occurrences x y 0 x.length (x.length+1)).isEmpty
  ·refine call_meets F.slot_str_split (typeIs_str _ _ _) F.entry_str_split (F.args_str_split_2 _ _) (meets_str_split_sep x y t u h1 hy hf (by omega) hn) ?_;show wants Q E _ { s with toks:=_,heap:=s.heap.push { cls:=.type "list",data:=.seq (strsFrom s.toks (partsBetween x (occurrences x y 0 x.length (x.length+1)) y.length)).toArray } };rw [strsFrom_eq];exact h (numbered s.toks _) _ ((numbered_texts _ _).trans ((if_neg (ne_true_of_eq_false h1)).trans (if_neg (ne_true_of_eq_false hf))).symm)
  ·exact call_meets F.slot_str_split (typeIs_str _ _ _) F.entry_str_split (F.args_str_split_2 _ _) (meets_str_split_not_found x y t u h1 hy hf)
    (h [(x,t)] s.toks ((if_neg (ne_true_of_eq_false h1)).trans (if_pos hf)).symm)
 ·exact call_meets F.slot_str_split (typeIs_str _ _ _) F.entry_str_split (F.args_str_split_2 _ _) (meets_str_split_cannot_occur x y t u h1)
   (h [(x,t)] s.toks (if_pos h1).symm)
theorem zd7 {prog:Program} {w:World} {A:Around} {E:Value->Shared->Prop} {s:Shared} {x y:Str} {t u:Tok} {Q:Value->Shared->Prop} (hy:(y.length==0)=false)
  (h:∀ ta tb tc k,Q (.ref s.heap.objs.size) { s with heap:=s.heap.push { cls:=.type "tuple",data:=.seq [.str (Txt.partition x y).1 ta,.str (Txt.partition x y).2.1 tb,.str (Txt.partition x y).2.2 tc].toArray },toks:=k }) (hsz:x.length<=sizeLine) :
  wpAny (model prog w) A (call (.builtin "str.partition") [.str x t,.str y u]) Q E s:=by
 refine call_meets F.slot_str_partition (typeIs_str _ _ _) F.entry_str_partition (F.args_str_partition_2 _ _) (meets_str_partition x y t u hy hsz) ?_;have h':=h;unfold Txt.partition at h'
 revert h'
 cases occurrences x y 0 x.length 1 with
 | nil=>intro h';exact h' _ _ _ _
 | cons i r=>intro h';exact h' _ _ _ _
section
variable {X:Cx} {C:Tab} {a b:Expr} {ca cb:Code}
theorem jbF:MtR X "str.split" (λx xs H Q=>∃ z y,x=.str z/\xs=[.str y]/\(y.length==0)=false/\z.length+2<=sizeLine/\(Txt.split z y).length<=sizeLine/\∀ l,H l=none->Q (.ref l) (upd H l (.lst ((Txt.split z y).map V.str)))):=by
 intro pins s σ H x xs v us Q I rx rv ⟨z,y,e1,e2,hy,hz,hl,q⟩;subst e1;subst e2
 obtain ⟨t,rfl⟩:=rx;obtain ⟨u,rfl,t2,rfl⟩:=rv.one;refine jdI hy (λl k e=>?_) hz;exact ⟨.ref s.heap.objs.size,_,I.laid (o:=.lst ((Txt.split z y).map V.str)) (λb u e=>wm _ e) (wF _) ⟨by rw [wG];exact hl,strValues l,0,by rw [<-e];exact ybh l,wx _ rfl⟩,rfl,q _ I.fresh⟩
theorem yc5:MtR X "str.find" (λx xs H Q=>∃ z y,x=.str z/\xs=[.str y]/\Q (.int (Txt.find z y)) H):=by
 intro pins s σ H x xs v us Q I rx rv ⟨z,y,e1,e2,q⟩;subst e1;subst e2
 obtain ⟨t,rfl⟩:=rx;obtain ⟨u,rfl,t2,rfl⟩:=rv.one;exact SC.find ⟨.int _,H,I.tok _,⟨_,rfl⟩,q⟩
theorem jc5:MtR X "str.partition" (λx xs H Q=>∃ z y,x=.str z/\xs=[.str y]/\(y.length==0)=false/\z.length<=sizeLine/\∀ l,H l=none->Q (.ref l) (upd H l (.tup [.str (Txt.partition z y).1,.str (Txt.partition z y).2.1,.str (Txt.partition z y).2.2]))):=by
 intro pins s σ H x xs v us Q I rx rv ⟨z,y,e1,e2,hy,hz,q⟩;subst e1;subst e2
 obtain ⟨t,rfl⟩:=rx;obtain ⟨u,rfl,t2,rfl⟩:=rv.one;refine zd7 hy (λta tb tc k=>?_) hz;exact ⟨.ref s.heap.objs.size,_,I.laid (o:=.tup [.str (Txt.partition z y).1,.str (Txt.partition z y).2.1,.str (Txt.partition z y).2.2]) (λb u e=>wm _ e) (wF _) ⟨(by show 3<=sizeLine;decide),_,.cons ⟨ta,rfl⟩ (.cons ⟨tb,rfl⟩ (.cons ⟨tc,rfl⟩ .nil)),IsTupN.new _ _⟩,rfl,q _ I.fresh⟩
end
theorem zdJ {X:Cx}:SlR X (λx lo hi H Q=>∃ z,x=.str z/\z.length<=sizeLine/\Q (.str (Txt.slice z lo hi)) H):=by
 intro pins s σ H x v vl vu lo hi sl Q I rx hs pl pu ⟨z,e,hz,q⟩;subst e;obtain ⟨t,rfl⟩:=rx
 have part:∀ {v:Value} {o:Option Int},IsPart v o->∃ l:Option (Int×Tok),v=partValue l/\o=l.map (·.1):=λp=>by
  cases p
  ·exact ⟨none,rfl,rfl⟩
  ·exact ⟨some (_,_),rfl,rfl⟩
 obtain ⟨l,rfl,rfl⟩:=part pl;obtain ⟨u,rfl,rfl⟩:=part pu;exact ⟨"str",_,F.slot_str_getitem.lookup,typeIs_str _ _ _,wpAny_getItem_str_slice (l:=l) (u:=u) (st:=none) hs rfl (post_val_or_str ⟨wU (Txt.slice_le z _ _) hz,λt' k=>⟨.str _,H,I.tok k,⟨t',rfl⟩,q⟩⟩)⟩
end Eng
end
section
namespace Eng
open PySem PySem.Spec PyProof.Rows L2
def tO (K:Frag) (B:Addr->Prop) (ρ:En) (o:Option Int):TO:=λσ H Q=>HB B H/\ER K B H σ ρ/\∀ H',Same H H'->Q o H'
def SO (X:Cx) (C:Tab) (e:Option Expr) (c:OCode):Prop:=∀ B ρ o,evO C c ρ=some o->PO X e (tO X.K B ρ o)
section
variable {X:Cx} {C:Tab}
theorem PO.imp {e:Option Expr} {t t':TO} (h:PO X e t) (i:∀ σ H Q,t' σ H Q->t σ H Q):PO X e t':=λpins s σ H Q I q=>h pins s σ H Q I (i _ _ _ q)
theorem zc6:SO X C none .none:=λB ρ o e=>by
 cases e;exact PO.imp qcV λσ H Q ⟨_,_,q⟩=>q H (Same.refl H)
theorem qc6 {e:Expr} {c:Code} (h:SE X C e c):SO X C (some e) (.some c):=λB ρ o ee=>by
 obtain ⟨d,ed,ee⟩:=wa (show (ev C c ρ).bind _=some o from ee);cases d with
 | int i =>
  cases ee;refine PO.imp (ycV (h B ρ _ ed)) λσ H Q ⟨h1,h2,q⟩=>⟨h1,h2,λv H' sm r=>?_⟩
  cases r;exact ⟨i,rfl,q H' sm⟩
 | _=>cases ee
def yeu (K:Frag):V->Option Int->Option Int->Hp->VK->Prop:=λx lo hi H Q=>∃ B dx d,HB B H/\Rep K B H x dx/\jcs dx lo hi=some d/\∀ v H',Same H H'->Rep K B H' v d->Q v H'
theorem jbh {a:Addr} {xs:List V} {pins:List (Addr×Obj)} {s:Shared} {σ:L2.St} {H:Hp} {vl vu:Value} {lo hi:Option Int} {sl:Addr} {Q:VK} (I:L2.Inv X pins σ H s) (hx:SqT X.K H a xs) (hs:s.heap.IsSliceOf sl vl vu .none) (pl:IsPart vl lo) (pu:IsPart vu hi)
  (hw:HT.sIx xs.length 0 lo=0/\HT.sIx xs.length xs.length hi=xs.length) (q:Q (.ref a) H):∃ T id,typeLookup (.type T) "__getitem__"=pure (some (.builtin id))/\s.TypeIs (.ref a) T/\wpAny (model X.prog X.w) X.A (getItem (.ref a) (.ref sl)) (EP X pins σ Q) X.xe s:=by
 obtain ⟨its,r,ht,hz⟩:=I.tuple hx;have hlen:its.toArray.size=xs.length:=by rw [vo];exact r.length.symm
 refine ⟨"tuple",_,PyProof.Rows.slot_tuple_getitem.lookup,ht.typeIs,?_⟩;exact jah ht hs pl pu (by rw [hlen];exact hw) ⟨.ref a,H,I,rfl,q⟩
theorem jeu:SlR X (yeu X.K):=by
 intro pins s σ H x v vl vu lo hi sl Q I rx hs pl pu ⟨B,dx,d,hb,r,e,q⟩;cases dx with
 | tup ds =>
  cases e;obtain ⟨a,vs,rfl,ha,ra⟩:=r.tupD;cases rx
  by_cases hw:HT.sIx vs.length 0 lo=0/\HT.sIx vs.length vs.length hi=vs.length
  ·refine jbh I (SqT.of ha) hs pl pu hw (q _ H (Same.refl H) ?_)
   have:=ra.cut lo hi
   rw [qbS hw] at this;exact .tup ha this
  ·exact yds pins s σ H (.ref a) _ vl vu lo hi sl Q I rfl hs pl pu ⟨a,vs,rfl,SqT.of ha,hw,λp hp=>q _ _ (je hp _) (.newT hp (ra.cut lo hi))⟩
 | lst ds =>
  cases e;obtain ⟨a,vs,rfl,na,ha,ra⟩:=r.lstD;cases rx;exact zcW pins s σ H (.ref a) _ vl vu lo hi sl Q I rfl hs pl pu ⟨a,vs,rfl,SqL.of ha,λp hp=>q _ _ (je hp _) (.newL hb hp (ra.cut lo hi))⟩
 | str z =>
  have e:(if z.length<=sizeLine then some (D.str (Txt.slice z lo hi)) else none)=some d:=e;split at e
  ·rename_i hz;cases e;cases r;exact zdJ pins s σ H (.str z) v vl vu lo hi sl Q I rx hs pl pu ⟨z,rfl,hz,q _ H (Same.refl H) (.str _)⟩
  ·cases e
 | _=>cases e
theorem qdJ {a:Expr} {lo hi:Option Expr} {ca:Code} {cl ch:OCode} {p2 pos:Pos} (ha:SE X C a ca) (hl:SO X C lo cl) (hh:SO X C hi ch):SE X C (.Subscript a (.Slice lo hi none p2) pos) (.slc ca cl ch):=λB ρ d e=>by
 obtain ⟨dx,ex,e⟩:=wa (show (ev C ca ρ).bind _=some d from e);obtain ⟨l,el,e⟩:=wa e;obtain ⟨h,eh,e⟩:=wa e
 exact (ycr jeu (ha B ρ dx ex) (hl B ρ l el) (hh B ρ h eh)).imp λσ H Q ⟨h1,h2,q⟩ =>
  ⟨h1,h2,λx H1 s1 r1=>⟨h1.same s1,h2.same s1,λH2 s2=>⟨(h1.same s1).same s2,(h2.same s1).same s2,λH3 s3 =>
   ⟨B,dx,d,((h1.same s1).same s2).same s3,(r1.same s2).same s3,e,λv H' s4 r4=>q v H' (((s1.trans s2).trans s3).trans s4) r4⟩⟩⟩⟩
theorem yc6 {pins:List (Addr×Obj)} {s:Shared} {σ:L2.St} {H:Hp} {x:V} {v:Value} {sl:Addr} {tk:Tok} {Q:VK} (I:L2.Inv X pins σ H s) (rx:RelV x v) (hs:s.heap.IsSliceOf sl .none .none (.int (-1) tk))
  (h:∃ B dx d,HB B H/\Rep X.K B H x dx/\revD dx=some d/\∀ v H',Same H H'->Rep X.K B H' v d->Q v H') :
  ∃ T id,typeLookup (.type T) "__getitem__"=pure (some (.builtin id))/\s.TypeIs v T/\wpAny (model X.prog X.w) X.A (getItem v (.ref sl)) (EP X pins σ Q) X.xe s:=by
 obtain ⟨B,dx,d,hb,r,e,q⟩:=h;cases dx with
 | tup ds =>
  cases e;obtain ⟨a,vs,rfl,ha,ra⟩:=r.tupD;cases rx;obtain ⟨its,rv,ht,hz⟩:=I.tuple (SqT.of ha);have hlen:=rv.length;refine ⟨"tuple",_,PyProof.Rows.slot_tuple_getitem.lookup,ht.typeIs,?_⟩;refine jar ht hs ?_ (by rw [<-hlen];exact hz);refine ⟨.ref s.heap.objs.size,_,I.laid (t':=s.toks) (o:=.tup vs.reverse) (λb ob q=>wm _ q) (wF _) ?_,rfl,q _ _ (je (I.hok.fresh (wF _)) _) (.newT (I.hok.fresh (wF _)) ra.reverse)⟩;exact ⟨by rw [List.length_reverse];exact hz,_,rv.reverse,IsTupN.new _ _⟩
 | lst ds =>
  cases e;obtain ⟨a,vs,rfl,na,ha,ra⟩:=r.lstD;cases rx;obtain ⟨its,rv,ht,hz⟩:=I.list (SqL.of ha);have hlen:=rv.length;refine ⟨"list",_,slot_list_getitem.lookup,ht.isList.typeIs,?_⟩;refine wpAny_getItem_list_slice ht.isList hs .none .none (.int _ _) (by simp) ?_ (by rw [vo]<;>omega);rw [za3];refine ⟨.ref s.heap.objs.size,_,I.laid (t':=s.toks) (o:=.lst vs.reverse) (λb ob q=>wm _ q) (wF _) ?_,rfl,q _ _ (je (I.hok.fresh (wF _)) _) (.newL hb (I.hok.fresh (wF _)) ra.reverse)⟩;exact ⟨by rw [List.length_reverse];exact hz,_,0,rv.reverse,wx _ rfl⟩
 | _=>cases e
theorem ydJ {a st:Expr} {ca:Code} {p2 pos:Pos} (ha:SE X C a ca) (hst:SE X C st (.neg (.cst (.int 1)))):SE X C (.Subscript a (.Slice none none (some st) p2) pos) (.rev ca):=λB ρ d e=>by
 obtain ⟨dx,ex,e⟩:=wa (show (ev C ca ρ).bind _=some d from e);intro pins s σ H Q I ⟨h1,h2,q⟩;refine Subscript_ (thn (ha B ρ dx ex pins s σ H (λx H1=>Same H H1/\Rep X.K B H1 x dx) I ⟨h1,h2,λx H1 s1 r1=>⟨s1,r1⟩⟩) λv s1 ⟨x,H1,I1,r1,sm1,rx⟩=>?_);refine wpAny_Slice ?_;rw [evalPart_none];refine wo (wo ?_);rw [evalPart_some];refine thn (hst B ρ (.int (-1)) rfl pins s1 σ H1 (λx H2=>x=.int (-1)/\Same H1 H2) I1 ⟨h1.same sm1,h2.same sm1,λx H2 s2 r2=>?_⟩) λvs s2 ⟨y,H2,I2,r2,ey,sm2⟩=>?_
 ·cases r2;exact ⟨rfl,s2⟩
 subst ey;obtain ⟨tk,rfl⟩:=r2;have I4:L2.Inv X pins σ H2 { s2 with heap:=s2.heap.push { cls:=.type "slice",data:=.fields #[.none,.none,.int (-1) tk] } }:=I2.kept (t':=s2.toks) λb ob q=>wm _ q
 obtain ⟨T,id,hT,ht,hg⟩:=yc6 (Q:=Q) I4 r1 (Heap.IsSliceOf.new ..) ⟨B,dx,d,(h1.same sm1).same sm2,rx.same sm2,e,λv H' s3 r3=>q v H' ((sm1.trans sm2).trans s3) r3⟩;show wpAny (model X.prog X.w) X.A (subscriptTail a (.Slice none none (some st) p2) v (.ref s2.heap.objs.size)) (EP X pins σ Q) X.xe { s2 with heap:=s2.heap.push { cls:=.type "slice",data:=.fields #[.none,.none,.int (-1) tk] } };exact tail_any (ops:=[v,.ref s2.heap.objs.size]) ht hT hg (by with_unfolding_all rfl)
theorem jc6:∀ t:Ty,bootBuiltins (tyS t)=some (.type (tyN t)):=λt=>by cases t<;>kernel_rfl
noncomputable def dTy:D->String
 | .non=>"NoneType"
 | .bl _=>"bool"
 | .int _=>"int"
 | .str _=>"str"
 | .tup _=>"tuple"
 | .lst _=>"list"
 | .scr _=>"list"
 | .grp _=>"list"
noncomputable def noX:D->Bool
 | .scr _=>false
 | .grp _=>false
 | _=>true
theorem jdJ {K:Frag} (d:D) (t:Ty) (h:noX d=true):PySem.W.kitOne K (.type (dTy d)) (.type (tyN t))=some (ybA d t):=by
 cases d with
 | scr _=>cases h
 | grp _=>cases h
 | _=>cases t<;>kernel_rfl
theorem qev {K:Frag} {B:Addr->Prop} {H:Hp} {v:V} {d:D} (r:Rep K B H v d) (h:noX d=true):TyOf K H v (.type (dTy d)):=by
 cases r with
 | non=>exact .non
 | bl b=>exact .bl b
 | int i=>exact .int i
 | str x=>exact .str x
 | tup e _=>exact .tup e
 | lst _ e _=>exact .lst e
 | scr _=>cases h
 | grp _ _ _ _ _ _=>cases h
theorem zcA (t:Ty):jJ X (.builtin "isinstance") (λxs H Q=>∃ B x dx,xs=[x,.ty (tyN t)]/\Rep X.K B H x dx/\noX dx=true/\Q (.bl (ybA dx t)) H):=by
 intro pins s σ H xs us Q I rv ⟨B,x,dx,e,r,hn,q⟩;subst e;obtain ⟨u,u2,rfl,ru,ru2⟩:=rv.two;cases ru2;exact yb0 I ru (qev r hn) (jdJ dx t hn) λtk=>⟨.bl (ybA dx t),H,I.tok _,rfl,q⟩
theorem zdK {x:Str} {n:String} {pos:Pos} (hg:Gl X x) (hm:X.mg x=none) (hv:bootBuiltins x=some (.type n)) (hn:x≠"__name__") (hd:(x==("__debug__":Str))=false):PE X (.Name x pos) (tC (.ty n)) :=
 λ_ _ _ H _ I h=>qaB I hg hm hv ⟨.ty n,H,I,rfl,h⟩ hn hd
theorem qdK {a:Expr} {ca:Code} {t:Ty} {p p2 pos:Pos} (hg:Gl X "isinstance") (hm:X.mg "isinstance"=none) (hv:bootBuiltins "isinstance"=some (.builtin "isinstance")) (hg2:Gl X (tyS t)) (hm2:X.mg (tyS t)=none) (ha:SE X C a ca) (hs:jU a=false) :
  SE X C (.Call (.Name "isinstance" p) [a,.Name (tyS t) p2] [] pos) (.isi ca t):=λB ρ d e=>by
 obtain ⟨dx,ex,e⟩:=wa (show (ev C ca ρ).bind (λx=>zdv x t)=some d from e);have hd:noX dx=true/\d=.bl (ybA dx t):=by cases dx<;>cases e<;>exact ⟨rfl,rfl⟩
 have h2:PE X (.Name (tyS t) p2) (tC (.ty (tyN t))):=zdK hg2 hm2 (jc6 t) (by cases t<;>decide) (by cases t<;>decide);have s1:starEach [a,.Name (tyS t) p2] X.env=(false,eval a X.env)::starEach [.Name (tyS t) p2] X.env:=by cases a<;>first | rfl | cases hs
 refine (jae (zcA t) hg hm hv (yH (ha B ρ dx ex) (yH h2 yaa rfl) s1) (by decide) (by decide) s1 rfl).imp λσ H Q ⟨h1,h2,q⟩=>?_
 refine ⟨h1,h2,λv H1 sm r=>?_⟩;exact ⟨B,v,dx,rfl,r,hd.1,by rw [hd.2] at q;exact q _ H1 sm (.bl _)⟩
end
open Classical in
noncomputable def zbG (h:Heap) (d:PyData) (y:Value):Bool:=if q:∃ e as,Reads h y e as then PyData.eqv q.choose d else false
theorem qcb {h:Heap} {d e:PyData} {y:Value} {as:List Addr} (r:Reads h y e as):zbG h d y=PyData.eqv e d:=by
 unfold zbG;have q:∃ e as,Reads h y e as:=⟨e,as,r⟩;rw [dif_pos q];obtain ⟨bs,r'⟩:=q.choose_spec;rw [(Reads.unique r' e as r).1]
theorem qbG:∀ {ds:List D} {d:D},d∈ds->dep d<=zbn ds
 | [],_,h=>by cases h
 | x::xs,d,h=>by
  rw [zbn];rcases wy.mp h with rfl | q
  ·exact Nat.le_max_left _ _
  ·exact wU (qbG q) (Nat.le_max_right _ _)
section
variable {X:Cx} {pins:List (Addr×Obj)} {σ:L2.St} {H:Hp} {s:Shared} {B:Addr->Prop}
theorem jaG (I:L2.Inv X pins σ H s):∀ {vs:List V} {ds:List D} {us:List Value},Reps X.K B H vs ds->Vals vs us->yS ds=true->∀ u∈us,∃ d∈ds,∃ as,Reads s.heap u (toP d) as
 | _,_,_,.nil,r,_=>by cases r;intro u hu;cases hu
 | _,_,_,.cons a rs,r,h=>by
  cases r with
  | cons r1 r2 =>
   rw [yS,wj] at h;intro u hu;rcases wy.mp hu with rfl | q
   ·obtain ⟨as,z⟩:=a.reads I r1 h.1;exact ⟨_,by simp,as,z⟩
   ·obtain ⟨d,hd,as,z⟩:=jaG I rs r2 h.2 u q;exact ⟨d,by simp [hd],as,z⟩
theorem zaH (I:L2.Inv X pins σ H s) {dx:D} (nx:noS dx=true):∀ {vs:List V} {ds:List D} {us:List Value},Reps X.K B H vs ds->Vals vs us->yS ds=true->us.any (zbG s.heap (toP dx))=inD dx ds
 | _,_,_,.nil,r,_=>by cases r;rfl
 | _,_,_,.cons a rs,r,h=>by
  cases r with
  | cons r1 r2 =>
   rw [yS,wj] at h;obtain ⟨as,z⟩:=a.reads I r1 h.1;rw [List.any_cons,qcb z,jbd _ _ h.1 nx,zaH I nx rs r2 h.2,inD]
end
section
variable {X:Cx}
theorem ycN {x y:D} {k:Bool} (h:inC x y=some k):∃ ds,(y=.tup ds\/y=.lst ds)/\jak x (.tup ds)=true/\k=inD x ds:=by
 unfold inC at h;split at h
 ·split at h
  ·rename_i q;exact ⟨_,.inl rfl,q,(wC h).symm⟩
  ·cases h
 ·split at h
  ·rename_i q;exact ⟨_,.inr rfl,q,(wC h).symm⟩
  ·cases h
 ·cases h
theorem qcA {neg:Bool} {dx dy:D} {k:Bool} (h:zV (if neg then .NotIn else .In) dx dy=some k):∃ ds,(dy=.tup ds\/dy=.lst ds)/\jak dx (.tup ds)=true/\k=(if neg then !inD dx ds else inD dx ds):=by
 cases neg with
 | false=>exact ycN h
 | true =>
  obtain ⟨k',h',rfl⟩:=wb (show (inC dx dy).map not=some k from h);obtain ⟨ds,h1,h2,rfl⟩:=ycN h';exact ⟨ds,h1,h2,rfl⟩
theorem jcN (hu:X.A.units+64<cLine) (neg:Bool):OpR X (compareOp (if neg then .NotIn else .In)) (rD2 X.K (jax (if neg then .NotIn else .In))):=by
 intro pins s σ H x y v u Q I rx ry ⟨B,dx,dy,d,hb,r1,r2,e,q⟩;obtain ⟨k,ek,rfl⟩:=wb (show (zV _ dx dy).map D.bl=some d from e);obtain ⟨ds,hd,ok,rfl⟩:=qcA ek;obtain ⟨h1,h2,h3⟩:=eqOk_iff.mp ok;obtain ⟨as,qx⟩:=r1.reads I rx h2
 have he:∀ (vs:List V) (its:List Value),Reps X.K B H vs ds->Vals vs its->∀ w∈its,SeqAt.EqAt X.A.in1 s w v (zbG s.heap (toP dx) w):=λvs its r rv w hw=>by
  obtain ⟨d',hd',bs,z⟩:=jaG I r rv h3 w hw;rw [qcb z]
  have n3:noS d'=true:=by
   have:∀ {l:List D},yS l=true->∀ d∈l,noS d=true:=by
    intro l
    induction l with
    | nil=>intro _ d hd;cases hd
    | cons a r ih =>
     intro h d hd;rw [yS,wj] at h;rcases wy.mp hd with rfl | q
     ·exact h.1
     ·exact ih h.2 d q
   exact this h3 d' hd'
  refine SeqAt.eqAt_reads _ _ _ s w v bs as z qx (jal _ n3) (jal _ h2) ?_;rw [yY,yY]
  have:=qbG hd'
  have hq:min (dep d') (dep dx)<=40:=by
   rcases h1 with z | z
   ·exact wU (Nat.min_le_right _ _) z
   ·rw [dep] at z;exact wU (Nat.min_le_left _ _) (by omega)
  have:X.A.in1.units=X.A.units+1:=rfl
  omega
 have fin:∀ k,EP X pins σ Q (.bool k) s↔EP X pins σ Q (.bool k) s:=λ_=>Iff.rfl
 rcases hd with rfl | rfl
 ·obtain ⟨a,vs,rfl,ha,ra⟩:=r2.tupD;cases ry;obtain ⟨its,rv,p,hz⟩:=I.tuple (SqT.of ha);have ea:its.toArray.any (zbG s.heap (toP dx))=inD dx ds:=by rw [show its.toArray.any (zbG s.heap (toP dx))=its.any (zbG s.heap (toP dx)) by simp,zaH I h2 ra rv h3]
  cases neg with
  | false =>
   refine SeqAt.in_tupleAt (zbG s.heap (toP dx)) p (λw hw=>he vs its ra rv w (by simpa using hw)) ?_;rw [ea];exact ⟨.bl _,H,I,rfl,q _ H (Same.refl H) (.bl _) (λ_ z=>nomatch z)⟩
  | true =>
   refine SeqAt.notIn_tupleAt (zbG s.heap (toP dx)) p (λw hw=>he vs its ra rv w (by simpa using hw)) ?_;rw [ea];exact ⟨.bl _,H,I,rfl,q _ H (Same.refl H) (.bl _) (λ_ z=>nomatch z)⟩
 ·obtain ⟨a,vs,rfl,na,ha,ra⟩:=r2.lstD;cases ry;obtain ⟨its,rv,p,hz⟩:=I.list (SqL.of ha);have ea:its.toArray.any (zbG s.heap (toP dx))=inD dx ds:=by rw [show its.toArray.any (zbG s.heap (toP dx))=its.any (zbG s.heap (toP dx)) by simp,zaH I h2 ra rv h3]
  cases neg with
  | false =>
   refine SeqAt.in_listAt (zbG s.heap (toP dx)) p.isList (λw hw=>he vs its ra rv w (by simpa using hw)) ?_;rw [ea];exact ⟨.bl _,H,I,rfl,q _ H (Same.refl H) (.bl _) (λ_ z=>nomatch z)⟩
  | true =>
   refine SeqAt.notIn_listAt (zbG s.heap (toP dx)) p.isList (λw hw=>he vs its ra rv w (by simpa using hw)) ?_;rw [ea];exact ⟨.bl _,H,I,rfl,q _ H (Same.refl H) (.bl _) (λ_ z=>nomatch z)⟩
end
end Eng
end
section
namespace Eng
open PySem PyProof.Rows
section
variable {prog:Program} {w:World} {A:Around} {R:Result->Shared->Prop} {I S:Addr} {z:Value} {fp wr:List Addr} {n:Nat} {P:Nat->Value->Prop} {St:Nat->Heap->Prop} {kw:List (Str×Value)} {Kp:Shared->Prop}
def ydW (prog:Program) (w:World) (A:Around) (Kp:Shared->Prop) (P:Nat->Value->Prop) (bt:Nat->Nat->Bool) (n:Nat):Prop :=
 ∀ (j:Nat) (vi vj:Value) (s:Shared) (Q E:Value->Shared->Prop),j+1<n->Kp s->P (j+1) vi->P (argBest bt j) vj->Q (.bool (bt (j+1) (argBest bt j))) s->wpAny (model prog w) A (richCompare .Lt vi vj) Q E s
theorem zc7 (W:Walks prog w A.in1 I fp wr n P St) (bt:Nat->Nat->Bool) (hc:ydW prog w A.in1 Kp P bt n) (hK:∀ (s:Shared) (h':Heap) (tk:Nat),Kp s->(∀ (b:Addr) (o:Obj),¬ b∈wr->b≠S->s.heap.get? b=some o->h'.get? b=some o)->Kp { s with heap:=h',toks:=tk }) (hS:S∉fp) (hw:S∉wr):∀ (k j:Nat) (s:Shared) (vb:Value) (c:Nat),Kp s->n-(j+1)=k->j+1<=n->St (j+1) s.heap->P (argBest bt j) vb ->
  s.heap.get? S=some { cls:=.type "list",data:=.seq #[vb,vb] c } ->
  (∀ (v:Value) (h':Heap) (tk:Nat),P (argBest bt (n-1)) v->(∀ (b:Addr) (o:Obj),¬ b∈wr->b≠S->s.heap.get? b=some o->h'.get? b=some o)->R (.ok (.ret v)) { s with heap:=h',toks:=tk }) ->
  codeAny (model prog w) A (.builtin "min.loop" ⟨[.ref I,.none,.ref S],kw⟩) R s
 | 0,j,s,vb,c,ks,hk,hj,st,pv,hs,h=>by
  have hn:n=j+1:=by omega
  refine codeAny_builtin F.entry_min_loop ?_;show wpAny (model prog w) A.in1 _ _ _ s
  wp_walk
  refine (show wpAny (model prog w) A.in1 (Sem.tryCatch (pyNext (.ref I)) _) _ _ _ from ?_);refine wpAny_tryCatch (W.done s _ _ (hn▸st) λh' tk kp=>?_);have hs':=kp S _ hw hs
  wp_walk using wpAny_updateSeq hs' rfl
  refine h vb _ tk (by rw [hn];exact pv) λb o hb hbS e=>?_
  exact (Heap.get?_update_other h' (Obj.mapSeq _) (Ne.symm hbS)).trans (kp b o hb e)
 | k+1,j,s,vb,c,ks,hk,hj,st,pv,hs,h=>by
  refine codeAny_builtin F.entry_min_loop ?_;show wpAny (model prog w) A.in1 _ _ _ s
  wp_walk
  refine (show wpAny (model prog w) A.in1 (Sem.tryCatch (pyNext (.ref I)) _) _ _ _ from ?_);refine wpAny_tryCatch (W.item (j+1) s _ _ (by omega) st λv h' tk pv' st' kp=>?_);have hs':=kp S _ hw hs;have ks':Kp { s with heap:=h',toks:=tk }:=hK s h' tk ks λb o hb _ e=>kp b o hb e
  have hcm:∀ {Q:Value->Shared->Prop} {E:Value->Shared->Prop},Q (.bool (bt (j+1) (argBest bt j))) { s with heap:=h',toks:=tk }->wpAny (model prog w) A.in1 (richCompare .Lt v vb) Q E { s with heap:=h',toks:=tk }:=λq=>hc j v vb _ _ _ (by omega) ks' pv' pv q
  wp_walk using hcm
  refine wpAny_tryCatch ?_
  wp_walk using hcm
  have ab:argBest bt (j+1)=if bt (j+1) (argBest bt j)=true then j+1 else argBest bt j:=rfl
  cases hb:bt (j+1) (argBest bt j) with
  | true =>
   rw [hb,if_pos rfl] at ab
   wp_walk using wpAny_updateSeq hs' rfl
   refine ⟨rfl,zc7 W bt hc hK hS hw k (j+1) _ v _ (hK _ _ _ ks' λb o _ hbS e=>(Heap.get?_update_other h' (Obj.mapSeq _) (Ne.symm hbS)).trans e) (by omega) (by omega) (W.frame _ _ _ st' λb hb' o e=>(Heap.get?_update_other h' (Obj.mapSeq _) (λ(z:S=b)=>hS (by rw [z];exact hb'))).trans e) (by rw [ab];exact pv') (PySem.IsL.update hs' _) λu h'' tk' pu kp'=>h u h'' tk' pu λb o hb' hbS e=>kp' b o hb' hbS ?_⟩;exact (Heap.get?_update_other h' (Obj.mapSeq _) (Ne.symm hbS)).trans (kp b o hb' e)
  | false =>
   rw [hb,if_neg wB] at ab
   wp_walk
   exact ⟨rfl,zc7 W bt hc hK hS hw k (j+1) _ vb _ ks' (by omega) (by omega) st' (by rw [ab];exact pv) hs' λu h'' tk' pu kp'=>h u h'' tk' pu λb o hb' hbS e=>kp' b o hb' hbS (kp b o hb' e)⟩
theorem qd7 (W:Walks prog w A.in1 I fp wr n P St) (bt:Nat->Nat->Bool) (hc:ydW prog w A.in1 Kp P bt n) (hK:∀ (s:Shared) (h':Heap) (tk:Nat),Kp s->(∀ (b:Addr) (o:Obj),¬ b∈wr->b≠S->s.heap.get? b=some o->h'.get? b=some o)->Kp { s with heap:=h',toks:=tk }) (hS:S∉fp) (hw:S∉wr) {s:Shared} {c:Nat} (ks:Kp s) (h0:0<n) (st:St 0 s.heap)
  (hs:s.heap.get? S=some { cls:=.type "list",data:=.seq #[] c })
  (h:∀ (v:Value) (h':Heap) (tk:Nat),P (argBest bt (n-1)) v->(∀ (b:Addr) (o:Obj),¬ b∈wr->b≠S->s.heap.get? b=some o->h'.get? b=some o)->R (.ok (.ret v)) { s with heap:=h',toks:=tk }) :
  codeAny (model prog w) A (.builtin "min.loop" ⟨[.ref I,.none,.ref S],kw⟩) R s:=by
 refine codeAny_builtin F.entry_min_loop ?_;show wpAny (model prog w) A.in1 _ _ _ s
 wp_walk
 refine (show wpAny (model prog w) A.in1 (Sem.tryCatch (pyNext (.ref I)) _) _ _ _ from ?_);refine wpAny_tryCatch (W.item 0 s _ _ h0 st λv h' tk pv' st' kp=>?_);have hs':=kp S _ hw hs
 wp_walk using wpAny_updateSeq hs' rfl
 refine ⟨rfl,zc7 W bt hc hK hS hw (n-1) 0 _ v _ (hK _ _ _ (hK s h' tk ks λb o hb _ e=>kp b o hb e) λb o _ hbS e=>(Heap.get?_update_other h' (Obj.mapSeq _) (Ne.symm hbS)).trans e) (by omega) (by omega) (W.frame _ _ _ st' λb hb' o e=>(Heap.get?_update_other h' (Obj.mapSeq _) (λ(z:S=b)=>hS (by rw [z];exact hb'))).trans e) pv' (PySem.IsL.update hs' _) λu h'' tk' pu kp'=>h u h'' tk' pu λb o hb' hbS e=>kp' b o hb' hbS ?_⟩;exact (Heap.get?_update_other h' (Obj.mapSeq _) (Ne.symm hbS)).trans (kp b o hb' e)
theorem ycA {E:Value->Shared->Prop} {s:Shared} {x:Value} {Q:Value->Shared->Prop}
  (h:wpAny (model prog w) A.in1 (pyIter x) (λit s₂=>∃ I fp wr n P St bt Kp,it=.ref I/\Walks prog w A.in1 I fp wr n P St/\St 0 s₂.heap/\(∀ b∈fp,b<s₂.heap.objs.size) /\
   ydW prog w A.in1 Kp P bt n/\Kp s₂/\(∀ (s:Shared) (h':Heap) (tk:Nat),Kp s->(∀ (b:Addr) (o:Obj),¬ b∈wr->b≠s₂.heap.objs.size->s.heap.get? b=some o->h'.get? b=some o)->Kp { s with heap:=h',toks:=tk }) /\
   0<n/\∀ (v:Value) (h':Heap) (tk:Nat),P (argBest bt (n-1)) v->(∀ (b:Addr) (o:Obj),¬ b∈wr->s₂.heap.get? b=some o->h'.get? b=some o)->Q v { s₂ with heap:=h',toks:=tk }) E s) :
  wpAny (model prog w) A (call (.builtin "min") [x]) Q E s:=by
 refine call_function_tree F.kind_min F.plain_min F.entry_min (F.args_min1 _) ?_;have hi:∀ {Q':Value->Shared->Prop} {E':Value->Shared->Prop},_->(∀ e s',E e s'->E' e s')->wpAny (model prog w) A.in1 (pyIter x) Q' E' s:=λa b=>wpAny_mono h a b
 wp_walk using hi
 case a =>
  intro it s₂ hh;obtain ⟨I,fp,wr,n,P,St,bt,Kp,rfl,W,st,hfp,hc,ks,hK,h0,q1⟩:=hh;have hS:s₂.heap.objs.size∉fp:=λhm=>Nat.lt_irrefl _ (hfp _ hm)
  have kpp:∀ (b:Addr) (o:Obj),s₂.heap.get? b=some o->b≠s₂.heap.objs.size:=λb o e=>wQ (wA e)
  wp_walk
  refine ⟨rfl,(?_:codeAny (model prog w) A (.builtin "min.loop" ⟨[.ref I,.none,.ref s₂.heap.objs.size],[]⟩) _ _)⟩;have st':St 0 (s₂.heap.push { cls:=.type "list",data:=.seq #[] }):=W.frame _ _ _ st λb _ o e=>wm _ e
  exact qd7 W bt hc hK hS (λhm=>hS (W.sub _ hm)) (hK _ _ _ ks λb o _ _ e=>wm _ e) h0 st' (wx _ rfl) λv h' tk pv kp=>q1 v h' tk pv λb o hb e=>kp b o hb (kpp b o e) (wm _ e)
 case a=>exact λe s' hE=>hE
end
end Eng
end
section
namespace Eng
open PySem PySem.Spec PyProof.Rows L2
open PySem.SeqAt
open PySem.AutoSeq1 (wpAny_loadPart')
open PySem.MeetsSeq PySem.MeetsSeq2 PySem.MeetsSeq3
def jek (n:Nat):Prop:=∀ (prog:Program) (w:World) (A:Around) (s:Shared) (dx dy:D) (k:Bool) (a b:Value) (as bs:List Addr) (Q E:Value->Shared->Prop),dep dx<=n->ltD dx dy=some k->noS dx=true->noS dy=true ->
 Reads s.heap a (toP dx) as->Reads s.heap b (toP dy) bs->A.units+3*n+8<cLine->Q (.bool k) s->wpAny (model prog w) A (richCompare .Lt a b) Q E s
theorem ycb {x y:D} {xs ys:List D} {k:Bool} (h:qcp (x::xs) (y::ys)=some k):jak x y=true/\((eqD x y=true/\qcp xs ys=some k)\/(eqD x y=false/\ltD x y=some k)):=by
 rw [qcp] at h;split at h
 ·rename_i ho;refine ⟨ho,?_⟩;split at h
  ·rename_i he;exact .inl ⟨he,h⟩
  ·rename_i he;exact .inr ⟨by simpa using he,h⟩
 ·cases h
theorem jcb {n:Nat} (ih:jek n) (l b:Addr) (items items2:Array Value) (n1 n2:Nat) (dd dd2:Option Addr) (sl sl2:Array (Option Value)) (xs ys:List D) (k:Bool) (hk:qcp xs ys=some k) (hd:zbn xs<=n) (hx:yS xs=true) (hy:yS ys=true) :
  Meets (Builtin.«tuple.__lt__» ⟨[.ref l,.ref b],[]⟩)
   (λA R s=>A.units+3*n+10<cLine/\s.heap.get? l=some { cls:=.type "tuple",dict:=dd,data:=.seq items n1,slots:=sl }/\s.heap.get? b=some { cls:=.type "tuple",dict:=dd2,data:=.seq items2 n2,slots:=sl2 } /\
    (∃ as,ReadsAll s.heap items.toList (ybd xs) as)/\(∃ as,ReadsAll s.heap items2.toList (ybd ys) as)/\R (.ok (.ret (.bool k))) s) :=
 .of_wp λprog w A R s h=>by
  obtain ⟨hp,g,d,tk,os⟩:=s;obtain ⟨hu,hl,hb,⟨as,r1⟩,⟨bs,r2⟩,h⟩:=h
  have f2:=AutoSeq1.sub_tuple_tuple
  have len:∀ {h:Heap} {vs:List Value} {zs:List D} {as:List Addr},ReadsAll h vs (ybd zs) as->vs.length=zs.length:=by
   intro h vs zs
   induction zs generalizing vs with
   | nil=>intro as r;cases r;rfl
   | cons z zs ih=>intro as r;cases r with | cons a b=>simp [ih b]
  have z1:items.size=xs.length:=by rw [<-len r1];simp
  have z2:items2.size=ys.length:=by rw [<-len r2];simp
  wp_walk using wpAny_loadPart' hl,wpAny_loadPart' hb,wpAny_forIn_list _ (λrest b s'=>b.1=none/\s'=⟨hp,g,d,tk,os⟩/\∃ (vs ws:List Value) (xs' ys':List D),rest=vs.zip ws /\
   (∃ as,ReadsAll hp vs (ybd xs') as)/\(∃ as,ReadsAll hp ws (ybd ys') as)/\xs'.length+items2.size=ys'.length+items.size/\qcp xs' ys'=some k/\zbn xs'<=n/\yS xs'=true/\yS ys'=true) _
  case turn =>
   rintro ⟨y,x⟩ rest b s' ⟨hb',rfl,vs,ws,xs',ys',hz,⟨as,hvi⟩,⟨bs,hwi⟩,hlen,hR,hdp,hnx,hny⟩
   match xs',hvi with
   | [],.nil=>rw [List.zip_nil_left] at hz;cases hz
   | dx::xs'',.cons ra hvi' =>
    match ys',hwi with
    | [],.nil=>rw [List.zip_nil_right] at hz;cases hz
    | dy::ys'',.cons rb hwi' =>
     rw [List.zip_cons_cons] at hz;injection hz with hyx hrest
     injection hyx with hy hx
     subst hy hx;obtain ⟨ho,hR⟩:=ycb hR;obtain ⟨hdep,n1',n2'⟩:=eqOk_iff.mp ho;simp only [List.length_cons] at hlen;rw [yS,wj] at hnx hny;rw [zbn] at hdp
     have he := eqAt_reads (toP dx) (toP dy) A.in1 ⟨hp, g, d, tk, os⟩ _ _ _ _ ra rb (jal _ n1') (jal _ n2') (by
      rw [yY,yY]
      have:min (dep dx) (dep dy)<=n:=by omega
      show A.units+1+_<_;omega)
     rw [jbd _ _ n1' n2'] at he;refine wg (he prog w _ _ ?_);rcases hR with ⟨e,hR⟩ | ⟨e,hR⟩
     ·rw [e]
      wp_walk
      exact ⟨rfl,rfl,_,_,_,_,hrest,⟨_,hvi'⟩,⟨_,hwi'⟩,by omega,hR,by omega,hnx.2,hny.2⟩
     ·rw [e];have hri:=λ(Q E:Value->Shared->Prop) (q:Q (.bool k) ⟨hp,g,d,tk,os⟩)=>ih prog w A.in1 ⟨hp,g,d,tk,os⟩ dx dy k _ _ _ _ Q E (by omega) hR n1' n2' ra rb (by show A.units+1+_+_<_;omega) q
      wp_walk using hri _ _
      exact ⟨_,rfl,by simpa using h⟩
  case fin =>
   rintro ⟨b1,b2⟩ s' ⟨hb',rfl,vs,ws,xs',ys',hz,⟨as,hvi⟩,⟨bs,hwi⟩,hlen,hR,_,_,_⟩;simp only at hb';subst hb'
   have hv:k=decide (items.size<items2.size):=by
    match xs',hvi with
    | [],.nil =>
     match ys',hwi with
     | [],.nil =>
      simp only [List.length_nil] at hlen;rw [qcp] at hR;cases hR;exact (vp (by omega)).symm
     | _::_,.cons _ _ =>
      simp only [List.length_nil,List.length_cons] at hlen;rw [qcp] at hR;cases hR;exact (decide_eq_true (by omega)).symm
    | _::_,.cons _ _ =>
     match ys',hwi with
     | [],.nil =>
      simp only [List.length_nil,List.length_cons] at hlen;rw [qcp] at hR;cases hR;exact (vp (by omega)).symm
     | _::_,.cons _ _=>rw [List.zip_cons_cons] at hz;cases hz
   rw [hv] at h
   wp_walk
   exact ⟨_,rfl,by simpa [Builtin.Tuple.tupleCompareSizes] using h⟩
  case h =>
   exact ⟨rfl,rfl,items.toList,items2.toList,xs,ys,rfl,⟨as,r1⟩,⟨bs,r2⟩,by omega,hk,hd,hx,hy⟩
theorem zcO:∀ n,jek n
 | 0=>λprog w A s dx dy k a b as bs Q E hd hl hx hy r1 r2 hu q=>by
  cases dx with
  | int i =>
   cases dy with
   | int j =>
    cases r1;cases r2
    cases hl;exact HT.qbA A s i _ j _ prog w E Q q
   | _=>cases hl
  | tup xs=>rw [dep] at hd;omega
  | _=>cases dy<;>cases hl
 | n+1=>λprog w A s dx dy k a b as bs Q E hd hl hx hy r1 r2 hu q=>by
  cases dx with
  | int i =>
   cases dy with
   | int j =>
    cases r1;cases r2
    cases hl;exact HT.qbA A s i _ j _ prog w E Q q
   | _=>cases hl
  | tup xs =>
   cases dy with
   | tup ys =>
    cases r1 with
    | tuple ho hc hd1 ra =>
     cases r2 with
     | tuple ho2 hc2 hd2 rb =>
      rename_i l o items n1 l2 o2 items2 n2;obtain ⟨cls,dd,data,sl⟩:=o;obtain ⟨cls2,dd2,data2,sl2⟩:=o2;simp only at hc hd1 hc2 hd2;subst hc hd1 hc2 hd2;rw [dep] at hd
      exact richCompare_meets_room (op := .Lt) ⟨_, ho, rfl⟩ ⟨_, ho2, rfl⟩ PySem.F.slot_tuple_lt PySem.F.entry_tuple_lt (PySem.F.args_tuple_lt_2 _ _) (jcb (zcO n) _ _ items items2 n1 n2 dd dd2 sl sl2 xs ys k hl (by omega) hx hy)
       ⟨by omega,ho,ho2,⟨_,ra⟩,⟨_,rb⟩,(show Value.bool k≠Value.notImplemented/\Q (.bool k) s from ⟨(λx=>nomatch x),q⟩)⟩ (by omega)
   | _=>cases hl
  | _=>cases dy<;>cases hl
end Eng
end
section
namespace Eng
open PySem PySem.Spec PyProof.Rows L2
noncomputable def btD (ds:List D) (i j:Nat):Bool:=ltD (ds.getD i .non) (ds.getD j .non)==some true
theorem zaU (ds:List D):∀ (k j:Nat) (m:D),ds.length-(j+1)=k->j<ds.length->jaY (ds.getD (argBest (btD ds) j) .non) (ds.drop (j+1))=some m ->
  (∀ i,j<=i->i+1<ds.length->jdk (ds.getD (i+1) .non) (ds.getD (argBest (btD ds) i) .non)=true/\∃ b,ltD (ds.getD (i+1) .non) (ds.getD (argBest (btD ds) i) .non)=some b)/\ds.getD (argBest (btD ds) (ds.length-1)) .non=m
 | 0,j,m,hk,hj,h=>by
  have e:ds.drop (j+1)=[]:=List.drop_eq_nil_of_le (by omega);rw [e] at h;have hj':ds.length-1=j:=by omega
  exact ⟨λi h1 h2=>absurd h2 (by omega),by rw [hj'];exact wC h⟩
 | k+1,j,m,hk,hj,h=>by
  have hj1:j+1<ds.length:=by omega
  have e:ds.drop (j+1)=ds.getD (j+1) .non::ds.drop (j+1+1):=by
   rw [List.drop_eq_getElem_cons hj1];simp [List.getD,hj1]
  rw [e,jaY] at h;split at h
  ·rename_i ho;obtain ⟨b,hb,h⟩:=wa h;have ab:argBest (btD ds) (j+1)=if btD ds (j+1) (argBest (btD ds) j)=true then j+1 else argBest (btD ds) j:=rfl
   have hbt:btD ds (j+1) (argBest (btD ds) j)=b:=by show (ltD _ _==some true)=b;rw [hb];cases b<;>rfl
   rw [hbt] at ab
   have h':jaY (ds.getD (argBest (btD ds) (j+1)) .non) (ds.drop (j+1+1))=some m:=by
    rw [ab];cases b with
    | true=>exact h
    | false=>exact h
   obtain ⟨h1,h2⟩:=zaU ds k (j+1) m (by omega) hj1 h';refine ⟨λi hi hl=>?_,h2⟩
   by_cases c:i=j
   ·subst c;exact ⟨ho,b,hb⟩
   ·exact h1 i (by omega) hl
  ·cases h
theorem zas (bt:Nat->Nat->Bool):∀ j,argBest bt j<=j
 | 0=>wF _
 | j+1=>by
  show (if bt (j+1) (argBest bt j)=true then j+1 else argBest bt j)<=j+1
  have:=zas bt j
  split<;>omega
theorem zbs {ds:List D} {m:D} (h:jbc ds=some m):(∀ i,i+1<ds.length->jdk (ds.getD (i+1) .non) (ds.getD (argBest (btD ds) i) .non)=true/\∃ b,ltD (ds.getD (i+1) .non) (ds.getD (argBest (btD ds) i) .non)=some b) /\
  ds.getD (argBest (btD ds) (ds.length-1)) .non=m/\0<ds.length/\noT m=true:=by
 cases ds with
 | nil=>cases h
 | cons x r =>
  obtain ⟨m',h1,h2⟩:=wa (show (jaY x r).bind _=some m from h);split at h2
  ·rename_i hn;cases h2;obtain ⟨a,b⟩:=zaU (x::r) ((x::r).length-1) 0 m rfl (by simp) h1;exact ⟨λi hi=>a i (Nat.zero_le _) hi,b,by simp,hn⟩
  ·cases h2
section
variable {X:Cx}
theorem yev {pins:List (Addr×Obj)} {σ:L2.St} {H:Hp} {s:Shared} {B:Addr->Prop} {vs:List V} {ds:List D} {its:List Value} (hu:X.A.units+64<cLine) (I:L2.Inv X pins σ H s) (rs:Reps X.K B H vs ds) (rv:Vals vs its)
  (ok:∀ i,i+1<ds.length->jdk (ds.getD (i+1) .non) (ds.getD (argBest (btD ds) i) .non)=true/\∃ b,ltD (ds.getD (i+1) .non) (ds.getD (argBest (btD ds) i) .non)=some b) :
  ydW X.prog X.w X.A.in1 (λs'=>∀ b o,s.heap.get? b=some o->s'.heap.get? b=some o) (λi v=>its.toArray[i]?=some v) (btD ds) ds.length:=by
 intro j vi vj s' Q E hj kp hi hj' q;obtain ⟨ho,b,hb⟩:=ok j hj;have hbt:btD ds (j+1) (argBest (btD ds) j)=b:=by show (ltD _ _==some true)=b;rw [hb];cases b<;>rfl
 rw [hbt] at q;simp only [jdk,wj,wI] at ho;obtain ⟨⟨hq,d1⟩,d2⟩:=ho;obtain ⟨_,n1,n2⟩:=eqOk_iff.mp hq
 have at':∀ (i:Nat) (v:Value),i<ds.length->its.toArray[i]?=some v->noS (ds.getD i .non)=true->∃ as,Reads s'.heap v (toP (ds.getD i .non)) as:=λi v hi hv hn=>by
  have hd:ds[i]?=some (ds.getD i .non):=by simp [List.getD,hi]
  obtain ⟨x,hx,rx⟩:=rs.get hd;obtain ⟨u,hu',ru⟩:=rv.get hx
  have:its[i]?=some v:=by simpa using hv
  rw [hu'] at this;cases this
  obtain ⟨as,r⟩:=rx.reads I ru hn;exact ⟨as,Reads.keeps kp r⟩
 have hle:=zas (btD ds) j;obtain ⟨as,r1⟩:=at' (j+1) vi hj hi n1;obtain ⟨bs,r2⟩:=at' (argBest (btD ds) j) vj (by omega) hj' n2;exact zcO 8 X.prog X.w X.A.in1 s' _ _ b vi vj as bs Q E d1 hb n1 n2 r1 r2 (by show X.A.units+1+3*8+8<cLine;omega) q
theorem zcc (hc:X.calm=true) (hu:X.A.units+64<cLine):jJ X (.builtin "min") (rDs X.K (yJ .min)):=by
 intro pins s σ H xs us Q I rv ⟨B,dx,d,hb,r,e,q⟩
 obtain ⟨x,ds,rfl,hds,hm⟩:∃ x ds,dx=[x]/\itemsD x=some ds/\jbc ds=some d:=by
  match dx,e with
  | [x],e =>
   obtain ⟨ds,h1,e⟩:=wa (show (itemsD x).bind jbc=some d from e);exact ⟨x,ds,rfl,h1,e⟩
  | [],e=>cases e
  | _::_::_,e=>cases e
 obtain ⟨v,rfl,rx⟩:=r.one;obtain ⟨u,rfl,ru⟩:=rv.one;obtain ⟨t,a,vs,rfl,sq,_,rs⟩:=rx.srcT hb hds;cases ru;obtain ⟨its,rits,p,hz⟩:=I.sseq sq;obtain ⟨hm1,hm2,hpos,hnl⟩:=zbs hm;have hsz:its.toArray.size=ds.length:=by rw [vo,<-rits.length,rs.length]
 have halt:a<s.heap.objs.size:=by obtain ⟨o,_,ho,_⟩:=p.ob;exact wA ho
 refine ycA (yX p ⟨s.heap.objs.size,_,_,its.toArray.size,_,_,btD ds,λs'=>∀ b o,s.heap.get? b=some o->s'.heap.get? b=some o,rfl,jaZ (by simp [I.ok.hd hc]) t s.heap.objs.size a (wQ halt) its.toArray,⟨SItr.fresh t s.heap a,p.at λo e=>wm _ e⟩,λb hb=>?_,by rw [hsz];exact yev hu I rs rits hm1,λb o e=>wm _ e,λs' h' tk k1 k2 b o e=>?_,by rw [hsz];exact hpos,λv h' tk hv kp=>?_⟩)
 ·show b<(s.heap.push _).objs.size;rw [Heap.size_push];simp only [wy,List.not_mem_nil,or_false] at hb;rcases hb with rfl | rfl
  ·exact Nat.lt_succ_self _
  ·exact Nat.lt_succ_of_lt halt
 ·have hlt:=wA e;refine k2 b o (by simp only [wy,List.not_mem_nil,or_false];exact wQ hlt) (wQ ?_) (k1 b o e);show b<(s.heap.push _).objs.size;rw [Heap.size_push];exact Nat.lt_succ_of_lt hlt
 ·rw [hsz] at hv;have hlt:argBest (btD ds) (ds.length-1)<ds.length:=by have:=zas (btD ds) (ds.length-1);omega
  have hd:ds[argBest (btD ds) (ds.length-1)]?=some d:=by rw [<-hm2];simp [List.getD,hlt]
  obtain ⟨x,hx,rx'⟩:=rs.get hd;obtain ⟨u,hu',ru⟩:=rits.get hx
  have:its[argBest (btD ds) (ds.length-1)]?=some v:=by simpa using hv
  rw [hu'] at this;cases this
  exact ⟨x,H,I.kept (t':=tk) (yb9 kp),ru,q _ H (Same.refl H) rx' λl z=>by rw [z] at hnl;cases hnl⟩
variable {C:Tab}
end
end Eng
end
section
namespace Eng
open PySem PySem.Spec PyProof.Rows L2
open PySem.W (KasT kas_asc kas_count kas_sort kas_ask kas_item kat_run kat_snds kat_lt KatLex KatGo KatTups kat_kind kat_cons kat_no kat_go Looks)
end Eng
end
section
namespace Eng
open PySem
open AutoSeq1 (wpAny_loadPart')
end Eng
end
section
namespace Eng
open PySem PySem.Spec PyProof.Rows L2
def ExcAt (h:Heap) (C ea T:Addr):Prop:=∃ oe vs oT ts a0,h.get? ea=some oe/\oe.cls=.ref C/\vs[0]?=some a0/\oe.data=.fields vs/\vs[1]?=some (.ref T)/\T≠ea/\h.get? T=some oT/\oT.data=.fields ts/\ts[3]?=some .none
theorem qai {h base base':Heap}:∀ {l:List Env},h.FunFrames base l->(∀ b∈frs l,base'.get? b=none)->h.FunFrames base' l
 | [],_,_=>trivial
 | env::l,⟨hk,⟨L,o,hf,_,ho,hd⟩,hr⟩,q=>⟨hk,⟨L,o,hf,q L (List.mem_filterMap.mpr ⟨env,.head _,hf⟩),ho,hd⟩,qai hr λb hb=>q b (let ⟨e,he,hf⟩:=List.mem_filterMap.mp hb;List.mem_filterMap.mpr ⟨e,.tail _ he,hf⟩)⟩
noncomputable abbrev qcc (h:Heap) (l:List Env) (bs:List Addr):Heap:=TI.gone h (frs l++bs)
theorem qaH {h:Heap} {l:List Env} {bs:List Addr} {b:Addr} (h1:b∉frs l) (h2:b∉bs):(qcc h l bs).get? b=h.get? b:=TI.gone_get λz=>(List.mem_append.mp z).elim h1 h2
theorem zbT {h:Heap} {l:List Env} {bs:List Addr} {b:Addr} (n:(qcc h l bs).get? b=none):b∈frs l\/b∈bs\/h.get? b=none:=by
 by_cases h1:b∈frs l
 ·exact .inl h1
 ·by_cases h2:b∈bs
  ·exact .inr (.inl h2)
  ·exact .inr (.inr ((qaH h1 h2).symm.trans n))
theorem flying {h base:Heap} {l:List Env} {C ea T:Addr} (hf:h.FunFrames base l) (x:ExcAt h C ea T):∃ a0,Heap.FlyingW (qcc h l [ea,T]) l ea (.ref C) a0 h:=by
 obtain ⟨oe,vs,oT,ts,a0,h1,h2,h3,h4,h5,h6,h7,h8,h9⟩:=x;exact ⟨a0,λb o e=>(TI.gone_some e).2,TI.gone_none (by simp),qai hf λb hb=>TI.gone_none (by simp [hb]),oe,vs,T,oT,ts,h1,⟨h2,h3⟩,h4,h5,TI.gone_none (by simp),h6,h7,h8,h9⟩
section
variable {X:Cx} {pins:List (Addr×Obj)} {σ:L2.St} {H:Hp} {s:Shared} {h':Heap}
theorem _root_.L2.HOk.none {P:Program} {w:World} {H:Hp} {h:Heap} {b:Addr} (x:HOk P w H h) (n:h.get? b=none):H b=none:=by
 cases q:H b with
 | none=>rfl
 | some u =>
  obtain ⟨o,e⟩:=(x b u q).there;rw [n] at e;cases e
theorem _root_.L2.Inv.noted {bs:List Addr} (I:L2.Inv X pins σ H s) (hb:∀ b∈bs,yaz X pins H b\/s.heap.get? b=none) (st:(qcc s.heap X.stack bs).StaysIn h') (sm:s.heap.UpToSlots h'):L2.Inv X pins σ H { s with heap:=h' }:=by
 have hH:∀ b u,H b=some u->b∉frs X.stack/\b∉bs:=λb u e=>⟨λz=>(by rw [I.stkFree b z] at e;cases e),λz=>(hb b z).elim (λq=>by rw [q.1] at e;cases e) λq=>by rw [I.hok.none q] at e;cases e⟩
 have kp:∀ b o,s.heap.get? b=some o->b∉frs X.stack->b∉bs->h'.get? b=some o:=λb o e h1 h2=>st b o ((qaH h1 h2).trans e)
 have fr:∀ b o,s.heap.get? b=some o->b∈frs X.stack->∃ sl,h'.get? b=some { o with slots:=sl }:=λb o e h1=>by
  obtain ⟨_,o',ho',hd⟩:=I.stack.mem h1;rw [e] at ho';cases ho'
  exact sm b o e hd
 have nb:∀ b o,s.heap.get? b=some o->b∉bs.filter (λb=>(s.heap.get? b).isSome)->b∉bs:=λb o e n z=>n (List.mem_filter.mpr ⟨z,by rw [e];rfl⟩)
 refine I.call (g':=s.gens) (d':=s.drawn) (t':=s.toks) (ch:=bs.filter λb=>(s.heap.get? b).isSome) ⟨λb o e n h1 h2=>kp b o e h1 (nb b o e h2),λb o e n h1 h2=>fr b o e h1,λb o e n _=>n,λb o e h2=>?_,λb xs e=>e,λb o u e=>e,λb ps e=>⟨#[],by rw [e];simp⟩⟩ (λb u e=>?_) I.bare λb z=>?_
 ·by_cases h1:b∈frs X.stack
  ·obtain ⟨sl,q⟩:=fr b o e h1;exact ⟨_,q⟩
  ·exact ⟨o,kp b o e h1 (nb b o e h2)⟩
 ·refine (I.hok b u e).stay (λc v hc q=>kp c v q ?_ ?_) (λ_ q=>q) λ_ _ q=>q
  ·rcases hc with rfl | hc
   ·exact (hH _ _ e).1
   ·exact (hH _ _ hc).1
  ·rcases hc with rfl | hc
   ·exact (hH _ _ e).2
   ·exact (hH _ _ hc).2
 ·obtain ⟨z1,z2⟩:=List.mem_filter.mp z;rcases hb b z1 with q | q
  ·exact ⟨q.2.2.2.1,q.2.1,q.2.2.2.2.1,q.2.2.2.2.2⟩
  ·rw [q] at z2;cases z2
theorem _root_.L2.Inv.ours (I:L2.Inv X pins σ H s) {b:Addr} (n:s.heap.get? b=none):yaz X pins H b:=by
 have ne:∀ c o,s.heap.get? c=some o->c≠b:=λc o e z=>by rw [z,n] at e;cases e
 refine ⟨I.hok.none n,?_,?_,?_,λx c e=>?_,λp hp=>ne _ _ (I.pin p hp).1⟩
 ·obtain ⟨m,⟨o,_,_,ho,_⟩,_⟩:=I.loc;exact (ne _ _ ho).symm
 ·intro z;obtain ⟨_,o,ho,_⟩:=I.funs.mem z;exact ne _ _ ho rfl
 ·by_cases hx:b∈X.ex
  ·exact .inl hx
  ·cases q:X.s₀.heap.get? b with
   | none=>exact .inr rfl
   | some o =>
    obtain ⟨o',e⟩:=I.base.there b o q hx;exact absurd rfl (ne _ _ e)
 ·obtain ⟨v,o,ho,_⟩:=I.cell x c e;exact ne _ _ ho
end
def CXn (P:Program) (w:World) (C:Addr):CXT:=λouter H s E e s'=>∃ ea T H',e=.ref ea/\s'.os=s.os/\AllBare s'.gens/\Un (frs outer) [] H H' s.heap s'.heap/\HOk P w H' s'.heap/\ExcAt s'.heap C ea T/\(s.heap.get? ea=none/\s.heap.get? T=none)/\(H' ea=none/\H' T=none)/\E e none H'
theorem yd7 {P:Program} {w:World} {C:Addr} {X:Cx}:jb0 (CXn P w C) X E0:=λ_ _ _ _ _ _ _ ⟨_,_,_,_,_,_,_,_,_,_,_,h⟩=>h.elim
def Rz (C:Addr) (H0:Hp) (X:Cx):Prop:=∀ (pins:List (Addr×Obj)) (σ:L2.St) (H:Hp) (s:Shared) (ea:Addr) (h':Heap) (vs:List Value),L2.Inv X pins σ H s->Same H0 H->Heap.MadeExcOf s.heap h' ea (.ref C) vs->X.xe (.ref ea) { s with heap:=h' }
theorem jd7 {C:Addr} {P:Program} {w:World} {K:Frag} {mg:Str->Option Value} {base:Heap} {N:List Str} {qual:Str} {scope:Scope} {f:Addr} {cd:Value} {A:Around} {outer:List Env} {s0:Shared} {H0:Hp} {E:XK}
  (hE:∀ e H',Same H0 H'->E e none H'):Rz C H0 (jco (CXn P w C) P w K mg base N qual scope f cd A outer s0 H0 E):=λpins σ H s ea h' vs I sm0 hx=>by
 show wpAny (model P w) (A.deeper (envOfC qual scope s0.heap.objs.size f cd)) (leaving (envOfC qual scope s0.heap.objs.size f cd) (.ref ea)) _ _ _;obtain ⟨t,he,ht,htt⟩:=hx.there;have stk:(jco (CXn P w C) P w K mg base N qual scope f cd A outer s0 H0 E).stack=envOfC qual scope s0.heap.objs.size f cd::outer:=rfl;have hff:h'.FunFrames base (envOfC qual scope s0.heap.objs.size f cd::outer):=Heap.FunFrames.of_keeps (λb o e _=>⟨o,hx.keeps b o e,rfl⟩) I.stack;refine wpAny_leaving_firstW (base:=qcc h' (envOfC qual scope s0.heap.objs.size f cd::outer) [ea]) I.ok.frames (qai hff λb hb=>TI.gone_none (by simp [hb])) rfl he (λb o e=>(TI.gone_some e).2) (TI.gone_none (by simp)) rfl rfl rfl λh'' hL=>?_
 obtain ⟨k1,k2,k3,k4⟩:=hL
 have J:L2.Inv (jco (CXn P w C) P w K mg base N qual scope f cd A outer s0 H0 E) pins σ H { s with heap:=h'' }:=I.noted (bs:=[]) (λ_ z=>nomatch z) (λb o e=>by
  have hb:b∉frs (envOfC qual scope s0.heap.objs.size f cd::outer):=λz=>(TI.gone_some e).1 (List.mem_append_left _ z)
  have e1:=(TI.gone_some e).2;exact k1 b o ((qaH hb (λz=>by rw [vd.mp z,hx.new] at e1;cases e1)).trans (hx.keeps b o e1))) (λb o e hd=>k4 b o (hx.keeps b o e) hd)
 have none0:∀ b,s.heap.get? b=none->s0.heap.get? b=none:=λb n=>by
  cases q:s0.heap.get? b with
  | none=>rfl
  | some o =>
   obtain ⟨o',e⟩:=I.base.there b o q List.not_mem_nil;rw [n] at e;cases e
 obtain ⟨oe,vs',T,oT,ts,j1,⟨j2,j3⟩,j4,j5,j6,j7,j8,j9,j10⟩:=k3
 have hT:s.heap.get? T=none:=by
  rcases zbT j6 with z | z | z
  ·obtain ⟨_,o,ho,hd⟩:=hff.mem z;obtain ⟨sl,q⟩:=k4 T o ho hd;rw [j8] at q;cases q
   exact absurd j9 (hd ts)
  ·exact absurd (vd.mp z) j7
  ·cases q:s.heap.get? T with
   | none=>rfl
   | some o=>rw [hx.keeps T o q] at z;cases z
 exact ⟨ea,T,H,rfl,J.os,J.bare,J.base,J.hok,⟨oe,vs',oT,ts,_,j1,j2,j3,j4,j5,j7,j8,j9,j10⟩,⟨none0 _ hx.new,none0 _ hT⟩,⟨I.hok.none hx.new,I.hok.none hT⟩,hE _ H sm0⟩
noncomputable abbrev bmV:List Value:=[.type "ValueError",.type "Exception",.type "BaseException",.type "object"]
noncomputable abbrev ybW:String:="ValueError.__new__"
theorem qbs {K:Frag} {h:Heap} {C:Addr} (X:K.In h) (q:PySem.W.excIn K C bmV ybW=true):∃ bm N nm q bs hdct sn sub ab col dd k0 k1 k2 k3 k5 mN,h.get? C=some (excClassObj nm q C N bs bm hdct sn sub ab col dd k0 k1 k2 k3 k5 ybW)/\h.Ns N mN/\mN "__init__"=none/\OwnTail h bmV bm:=by
 unfold PySem.W.excIn at q;split at q
 ·rename_i dd cd sl ho;split at q
  ·rename_i C' bm k0 k1 k2 k3 n k5 hm hs;simp only [wj,vq,w9] at q;obtain ⟨⟨⟨⟨⟨rfl,rfl⟩,hdel⟩,ht⟩,hok⟩,hni⟩:=q;obtain ⟨nm,bs,mro,ns,qn,hd,sn,sub,ab,col,del⟩:=cd;dsimp only at hm hdel hok hni;subst hm hdel
   have hsl:sl=#[k0,k1,k2,k3,some (.builtin ybW),k5]:=by
    obtain ⟨l⟩:=sl;simp only at hs;rw [hs]
   subst hsl;exact ⟨bm,ns,nm,qn,bs,hd,sn,sub,ab,col,dd,k0,k1,k2,k3,k5,_,X _ _ ho,.of_isNs (PySem.W.isNs_of_in X hok),PySem.W.nsMap_none_of_in X hok hni,PySem.W.tail_of_in X ht⟩
  ·cases q
 ·cases q
section
variable {X:Cx} {C:Addr}
theorem jcA {x m:Str} {np cpos pos p:Pos} {k:Nat} (q:PySem.W.excIn X.K C bmV ybW=true) (hc:X.calm=true) (hg:Gl X x) (hm:X.mg x=some (.ref C)) (hd:(x==("__debug__":Str))=false) :
  PS X (.Raise (some (.Call (.Name x np) [.Constant (.str m) k p] [] cpos)) none pos) (λ_ _ H=>∃ H0,Same H0 H/\Rz C H0 X):=λpins s σ H D I ⟨H0,sm,rz⟩=>by
 obtain ⟨tl,N,nm,q,bs,hdct,sn,sub,ab,col,dd,k0,k1,k2,k3,k5,mN,hC,hN,hni,T⟩:=qbs I.ok.mod.kin q
 refine wpAny_Raise_call_subT (C:=C) (nm:=nm) (q:=q) (N:=N) (bs:=bs) (bm:=tl) (hdct:=hdct) (sn:=sn) (sub:=sub) (ab:=ab) (col:=col) (dd:=dd) (k0:=k0) (k1:=k1) (k2:=k2) (k3:=k3) (k5:=k5)
  PySem.F.excBase_ValueError (mN:=mN) (T.hasType PySem.F.excBase_ValueError.hasBase) (I.ok.hd hc) rfl hni (qaq I hg hm ⟨rfl,?_⟩ hd)
 refine Calls.evalArgs_plain (wpAny_mono ((yH qcJ yaa:PA X [.Constant (.str m) k p] _) cpos pins s σ H (λvs H1=>vs.length=1/\H1=H) I ⟨rfl,rfl⟩) (λvs s2 ⟨ws,H1,I1,r,h1,h2⟩=>?_) λ_ _ y=>y);subst h2;exact ⟨rfl,by rw [<-r.length,h1];exact (by decide:1<=sizeLine),I1.bk _ _ hC,hN.keeps I1.bk,T.keeps I1.bk,λh' e hx=>rz pins σ H1 s2 e h' vs I1 sm hx⟩
end
section
variable {X:Cx} {pins:List (Addr×Obj)} {σ:L2.St} {H:Hp} {s:Shared} {C C2:Addr}
theorem _root_.L2.Inv.adopt {a:Addr} {o:HO} (I:L2.Inv X pins σ H s) (f:yaz X pins H a) (new:ObjOk X.prog X.w (upd H a o) s.heap a o):L2.Inv X pins σ (upd H a o) s:=by
 have ne:∀ b u,H b=some u->b≠a:=λb u e=>qu e f.1
 refine I.step (h':=s.heap) (g':=s.gens) (d':=s.drawn) (t':=s.toks) (ch:=[a]) (λb hb=>?_) (λb o _ _ _ e _=>e) (λb o _ _ _ e _=>⟨o.slots,e⟩) (λb o hc e n=>?_) (λb o hc e=>⟨o,e⟩) (λb xs e=>?_) (λb o u e=>?_) (λb ps e=>?_) (λm hm=>hm) (λb u e=>?_) I.bare
 ·rw [vd.mp hb];exact ⟨f.2.2.2.1,f.2.1,f.2.2.2.2.1,f.2.2.2.2.2⟩
 ·rw [zm λz=>hc (by simp [z])];exact n
 ·rw [zm (ne _ _ e)];exact e
 ·rw [zm (ne _ _ e)];exact e
 ·exact ⟨#[],by rw [zm (ne _ _ e),e];simp⟩
 ·by_cases hb:b=a
  ·subst hb;rw [zl] at e;cases e;exact new
  ·rw [zm hb] at e;exact (I.hok b u e).stay (λc v _ q=>q) (λc q=>by rw [zm (ne _ _ q)];exact q) λc xs q=>by rw [zm (ne _ _ q)];exact q
theorem _root_.L2.Inv.bared {h':Heap} {t':Nat} {m':Str->Option Value} (I:L2.Inv X pins σ H s) (hn:h'.Ns X.env.locals m') (hs:Heap.SameBut X.env.locals s.heap h'):L2.Inv X pins (List.replicate X.N.length none) H { s with heap:=h',toks:=t' }:=by
 have neL:∀ b o,X.s₀.heap.get? b=some o->b≠X.env.locals:=λb o e=>wQ (wO (wA e) I.ok.above)
 have kp:∀ b o,b≠X.env.locals->s.heap.get? b=some o->h'.get? b=some o:=λb o n e=>(hs.2 b n).trans e
 have nH:∀ b u,H b=some u->b≠X.env.locals:=λb u e z=>by rw [z,I.free] at e;cases e
 refine ⟨I.ok,I.os,I.bare,⟨λb o e n hb hx=>kp _ _ (neL b o e) (I.base.keep b o e n hb hx),λb o e n hb hx=>let ⟨sl,q⟩:=I.base.slot b o e n hb hx;⟨sl,kp _ _ (neL b o e) q⟩,λb o e n hx=>I.base.free b o e n hx,λb o e hx=>let ⟨o',q⟩:=I.base.there b o e hx;⟨o',kp _ _ (neL b o e) q⟩,I.base.tups,I.base.frzs,I.base.tbls⟩,⟨m',hn,λi x v _ e _=>?_⟩,λx c e=>?_,I.free,I.freeC,λp hp=>?_,λb u e=>?_,List.length_replicate⟩
 ·rw [List.getElem?_replicate] at e;split at e<;>cases e
 ·obtain ⟨v,o,ho,hd⟩:=I.cell x c e;exact ⟨v,o,kp _ _ (I.cne x c e) ho,hd⟩
 ·obtain ⟨e,n,ne,nf,d⟩:=I.pin p hp;exact ⟨kp _ _ ne e,n,ne,nf,d⟩
 ·refine (I.hok b u e).stay (λc v hc q=>kp c v ?_ q) (λ_ q=>q) λ_ _ q=>q
  rcases hc with rfl | hc
  ·exact nH _ _ e
  ·exact nH _ _ hc
def Exc (H:Hp) (C:Addr) (v:V):Prop:=∃ ea oe,v=.ref ea/\H ea=some (.frz oe (.own ea))/\oe.cls=.ref C
theorem Exc.same {H H':Hp} {v:V} (h:Exc H C v) (s:Same H H'):Exc H' C v:=let ⟨ea,oe,e,h1,h2⟩:=h;⟨ea,oe,e,s _ _ h1,h2⟩
theorem ycc (q:PySem.W.isIn X.K (.ref C) C2=true):jJ X (.builtin "isinstance") (λxs H Q=>∃ v,xs=[v,.ref C2]/\Exc H C v/\Q (.bl true) H):=by
 intro pins s σ H xs us Q I rv ⟨v,e,⟨ea,oe,e2,h1,h2⟩,hq⟩;subst e;subst e2
 obtain ⟨u,u2,rfl,ru,ru2⟩:=rv.two;cases ru;cases ru2;have hL:∀ M,PySem.W.Looks M s.heap (typeOf (.ref ea)) (.ref C):=λM=>h2▸(PySem.W.Looks.ld (I.hok ea _ h1).1).andThen .now
 exact PySem.W.isi_call I.kIn hL q (λz=>by cases z) ⟨.bl true,H,I,rfl,hq⟩
theorem jcc (q:PySem.W.excIn X.K C bmV ybW=true):jJ X (.builtin "isinstance") (λxs H Q=>∃ v,xs=[v,.ty "ValueError"]/\Exc H C v/\Q (.bl true) H):=by
 intro pins s σ H xs us Q I rv ⟨v,e,⟨ea,oe,e2,h1,h2⟩,hq⟩;subst e;subst e2
 obtain ⟨u,u2,rfl,ru,ru2⟩:=rv.two;cases ru;cases ru2;have he:=(I.hok ea _ h1).1;obtain ⟨tl,N,nm,q,bs,hdct,sn,sub,ab,col,dd,k0,k1,k2,k3,k5,mN,hC,hN,hni,T⟩:=qbs I.kIn q;have hc:(Value.ref C::tl).contains (.type "ValueError")=true:=by rw [List.contains_cons,T.hasType PySem.F.excBase_ValueError.hasB,Bool.or_true]
 obtain ⟨hp,g,d,tk,os⟩:=s;refine call_isinstance_of ?_ (λz=>by cases z);have hL:PySem.W.Looks (model X.prog X.w) hp (typeOf (.ref ea)) (.ref C):=h2▸(PySem.W.Looks.ld he).andThen .now;unfold Builtin.«isinstance.nested»;refine wg (hL.at ?_);show wpAny _ _ (if (Value.ref C==Value.type "ValueError")=true then _ else _) _ _ _;rw [if_neg (by simp)];refine wg (m:=typeOf (.type "ValueError")) (wpAny_of_eq (show typeOf (.type "ValueError")=pure (.type "type") by kernel_rfl) ?_);show wpAny _ _ (if (Value.type "type"==Value.type "type")=true then _ else _) _ _ _;rw [if_pos (by decide)];refine wg (wg (m:=isType (.type "ValueError")) (wo (a:=true) ?_));refine wg (m:=isInstance (.ref ea) (.type "ValueError")) ?_;simp only [isInstance];refine wg (hL.at (wpAny_isSubtype_exc hC ?_));rw [hc];exact wo (a:=true) (wo ⟨.bl true,H,I,rfl,hq⟩)
end
section
variable {X:Cx} {C C2:Addr}
theorem ydK {x:Str} {pos:Pos} (hg:Gl X x) (hm:X.mg x=some (.ref C2)) (hd:(x==("__debug__":Str))=false):PE X (.Name x pos) (tC (.ref C2)):=λ_ _ _ H _ I h=>qaq I hg hm ⟨.ref C2,H,I,rfl,h⟩ hd
theorem zd8 {j k1 k2:Nat} {en cn2:Str} {p1 p2 lp ip q1 q2 q3 q4 q5 q6 q7 q8 bp cp sp:Pos} (qe:PySem.W.excIn X.K C bmV ybW=true) (qi:PySem.W.isIn X.K (.ref C) C2=true) (hj:X.N[j]?=some en) (hv:Vis X.env.scope en) (hd:(en==("__debug__":Str))=false) (hcd:(en==("__classdict__":Str))=false)
  (hgI:Gl X "int") (hmI:X.mg "int"=none) (hgS:Gl X "isinstance") (hmS:X.mg "isinstance"=none) (hgV:Gl X "ValueError") (hmV:X.mg "ValueError"=none) (hg2:Gl X cn2) (hm2:X.mg cn2=some (.ref C2)) (hd2:(cn2==("__debug__":Str))=false)
  (bI:bootBuiltins "int"=some (.type "int")) (bS:bootBuiltins "isinstance"=some (.builtin "isinstance")) (bV:bootBuiltins "ValueError"=some (.type "ValueError")) :
  PE X (.Subscript (.List [.Constant (.int 0) k1 p1,.Constant .none k2 p2] lp) (.Call (.Name "int" ip) [.BoolOp .And [.Call (.Name "isinstance" q1) [.Name en q2,.Name cn2 q3] [] q4,.Call (.Name "isinstance" q5) [.Name en q6,.Name "ValueError" q7] [] q8] bp] [] cp) sp)
   (λσ H Q=>∃ v,σ[j]?=some (some v)/\Exc H C v/\∀ H',Same H H'->Q .non H'):=by
 have e1:PE X (.Call (.Name "isinstance" q1) [.Name en q2,.Name cn2 q3] [] q4) _:=jae (ycc (C:=C) qi) hgS hmS bS (yH (yaQ (pos:=q2) hj hv hd hcd) (yH (ydK (pos:=q3) hg2 hm2 hd2) yaa)) (by decide) (by decide) rfl rfl;have e2:PE X (.Call (.Name "isinstance" q5) [.Name en q6,.Name "ValueError" q7] [] q8) _:=jae (jcc (C:=C) qe) hgS hmS bS (yH (yaQ (pos:=q6) hj hv hd hcd) (yH (zdK (pos:=q7) hgV hmV bV (by decide) (by decide)) yaa)) (by decide) (by decide) rfl rfl;refine (jds ybo (zcL (yH jcI (yH zcJ yaa))) (yL jaB hgI hmI bI (yH (ybX e1 (jcJ (pos:=bp) e2)) yaa) (by decide) (by decide) rfl rfl) (λ_ _=>rfl)).imp λσ H Q ⟨v,hσ,hx,hq⟩=>?_
 refine ⟨by decide,λp hp=>?_⟩;have sm:=je hp (.lst [.int 0,.non]);refine ⟨v,hσ,v,rfl,hx.same sm,true,rfl,?_⟩;rw [if_pos rfl];refine ⟨v,hσ,v,rfl,hx.same sm,.inr ⟨true,rfl,?_⟩⟩;exact ⟨p,_,1,.non,rfl,rfl,SqL.of zl,rfl,hq _ sm⟩
end
noncomputable def mkX (X:Cx) (ea:Addr):Cx:={ X with A:=X.A.mark (some (.ref ea)),calm:=false,xe:=λ_ _=>False }
section
variable {X:Cx} {pins:List (Addr×Obj)} {σ:L2.St} {H:Hp} {s:Shared} {C C2 ea T:Addr}
theorem _root_.L2.Inv.mk' (I:L2.Inv X pins σ H s):L2.Inv (mkX X ea) pins σ H s :=
 ⟨⟨I.ok.mod,I.ok.kind,I.ok.glob,I.ok.blt,I.ok.above,I.ok.inj,I.ok.has,I.ok.cab,(λh=>nomatch h),I.ok.frames,I.ok.stk,I.ok.exf,I.ok.bs,I.ok.bsz,I.ok.noex,I.ok.exfs,I.ok.funs,I.ok.frf⟩,I.os,I.bare,I.base,I.loc,I.cell,I.free,I.freeC,I.pin,I.hok,I.len⟩
theorem _root_.L2.Inv.unmk (ok:X.Ok) (I:L2.Inv (mkX X ea) pins σ H s):L2.Inv X pins σ H s:=⟨ok,I.os,I.bare,I.base,I.loc,I.cell,I.free,I.freeC,I.pin,I.hok,I.len⟩
theorem jdK {E:Value->Shared->Prop} {D:Ends} {j k1 k2:Nat} {cn en cn2:Str} {np hp rp p1 p2 lp ip q1 q2 q3 q4 q5 q6 q7 q8 bp cp sp:Pos} (qe:PySem.W.excIn X.K C bmV ybW=true) (qi:PySem.W.isIn X.K (.ref C) C2=true) (hst:X.stack=X.env::X.outer) (hfm:X.env.frame=some X.env.locals)
  (hN:X.N.Nodup) (hj:X.N[j]?=some en) (hl:X.env.scope.names.lookup en=some .local) (hd:(en==("__debug__":Str))=false) (hcd:(en==("__classdict__":Str))=false) (hgC:Gl X cn) (hmC:X.mg cn=some (.ref C)) (hdC:(cn==("__debug__":Str))=false)
  (hgI:Gl X "int") (hmI:X.mg "int"=none) (hgS:Gl X "isinstance") (hmS:X.mg "isinstance"=none) (hgV:Gl X "ValueError") (hmV:X.mg "ValueError"=none) (hg2:Gl X cn2) (hm2:X.mg cn2=some (.ref C2)) (hd2:(cn2==("__debug__":Str))=false)
  (bI:bootBuiltins "int"=some (.type "int")) (bS:bootBuiltins "isinstance"=some (.builtin "isinstance")) (bV:bootBuiltins "ValueError"=some (.type "ValueError"))
  (I:L2.Inv X pins σ H s) (x:ExcAt s.heap C ea T) (fe:yaz X pins H ea) (fT:yaz X pins H T) (hq:∀ H',Same H H'->D.rt .non H') :
  wpAny (model X.prog X.w) X.A (noteFrame (.ref ea) X.env) (λ_ s₂=>wpAny (model X.prog X.w) X.A (setFlight (.ref ea) none) (λ_ s₃=>wpAny (model X.prog X.w) X.A (handleBy (.ref ea) X.env
   [.ExceptHandler (some (.Name cn np)) (some en) [.Return (some (.Subscript (.List [.Constant (.int 0) k1 p1,.Constant .none k2 p2] lp) (.Call (.Name "int" ip) [.BoolOp .And [.Call (.Name "isinstance" q1) [.Name en q2,.Name cn2 q3] [] q4,.Call (.Name "isinstance" q5) [.Name en q6,.Name "ValueError" q7] [] q8] bp] [] cp) sp)) rp] hp])
   (SP X pins D) E s₃) E s₂) E s:=by
 obtain ⟨a0,fl⟩:=flying I.stack x;have hfr:X.A.frames=some (X.env::X.outer):=by rw [<-hst];exact I.ok.frames
 rw [hst] at fl
 have nt:∀ b∈[ea,T],yaz X pins H b\/s.heap.get? b=none:=λb hb=>by
  rcases wy.mp hb with rfl | hb
  ·exact .inl fe
  ·rw [vd.mp hb];exact .inl fT
 refine wpAny_looks_onW hfr hfm fl λh₄ held sm4=>?_
 refine wpAny_landsW held λh₅ fl5 sm5=>?_
 have I5:L2.Inv X pins σ H { s with heap:=h₅ }:=I.noted nt (by rw [hst];exact fl5.1) (sm4.trans sm5);have I5':L2.Inv (mkX X ea) pins σ H { s with heap:=h₅ }:=I5.mk';obtain ⟨ob,hob,hobc⟩:=fl5.there;obtain ⟨tl,N,nm,q,bs,hdct,sn,sub,ab,col,dd,k0,k1',k2',k3,k5,mN,hC,hNs,hni,Tl⟩:=qbs I5.kIn qe;refine wpAny_handleBy_cons (codeAny_handlers_test (qaq (X:=mkX X ea) I5' hgC hmC ?_ hdC)) (by intro z;cases z);refine wpAny_excMatches_sub_self hC hob hobc (Tl.hasType PySem.F.excBase_ValueError.hasBase) ?_;refine codeAny_handlers_suite_as ?_;refine lands_againW fl5 λh₆ fl6 sm6=>?_
 have I6:L2.Inv X pins σ H { s with heap:=h₆ }:=I.noted nt (by rw [hst];exact fl6.1) ((sm4.trans sm5).trans sm6);have I6':L2.Inv (mkX X ea) pins σ H { s with heap:=h₆ }:=I6.mk';obtain ⟨oe,hoe,hoec⟩:=fl6.there;have I7:=I6'.adopt (a:=ea) (o:=.frz oe (.own ea)) fe ⟨hoe,oe,hoe⟩;have sm7:=je fe.1 (.frz oe (.own ea));have ji:j<σ.length:=by rw [I.len];exact (wu.mp hj).1
 refine qaz (X:=mkX X ea) (i:=j) (v:=.ref ea) I7 hN hj (.inl hl) rfl (λs8 I8=>?_) (.inr hl);refine wpAny_mono ((jbX (zcK (zd8 (X:=mkX X ea) (j:=j) qe qi hj (.inl hl) hd hcd hgI hmI hgS hmS hgV hmV hg2 hm2 hd2 bI bS bV))) pins s8 _ _ { nx:=λ_ _=>False,rt:=λv H'=>v=.non/\Same H H' } I8 ⟨.ref ea,by simp [ji],⟨ea,oe,rfl,zl,hoec⟩,λH' sm=>⟨rfl,sm7.trans sm⟩⟩) (λf s₃ h3=>?_) λ_ _ z=>z.elim
 cases f with
 | ret u =>
  obtain ⟨v,σ',H',I',rv,rfl,sm'⟩:=h3;have J:=I'.unmk I.ok;obtain ⟨m,hn,_⟩:=id J.loc;refine wpAny_nameGoes hl hn (by rw [I.ok.kind];rfl) λh' m' hn' hs'=>?_
  exact ⟨.non,_,H',J.bared hn' hs',rv,hq H' sm'⟩
 | next=>obtain ⟨_,_,_,z⟩:=h3;exact z.elim
 | brk=>obtain ⟨_,_,_,z⟩:=h3;exact z.elim
 | cont=>obtain ⟨_,_,_,z⟩:=h3;exact z.elim
end
def spD (K:Frag) (C:Tab) (i:Nat):Sp:=λvs H Q E=>∃ B ds d,HB B H/\Reps K B H vs ds/\C i ds=some d/\((∀ g,d≠.grp g)->∀ v H',Same H H'->Rep K B H' v d->Q v H')/\((∃ g,d=.grp g)->∀ e H',Same H H'->E e none H')
section
variable {X:Cx} {Ct:Tab} {pins:List (Addr×Obj)} {σ:L2.St} {H:Hp} {s:Shared} {C C2:Addr}
theorem zdL {EX Qv:Value->Shared->Prop} {k fi:Nat} {f:Addr} {fd:FuncData} {ps:List Str} {fn:Str} {a:Expr} {ca:Code} {p cp:Pos} {B:Addr->Prop} {ρ:En} {dx d:D} (F:FnOk X.prog X.w X.K X.mg X.base (CXn X.prog X.w C) k f fd ps (spD X.K Ct fi)) (hr:Room k X.A) (hg:Gl X fn) (hm:X.mg fn=some (.ref f)) (hk:PySem.W.keepIn X.K (.ref f)=true) (hb:Binds X.K fd ps [])
  (hdb:(fn==("__debug__":Str))=false) (ha:SE X Ct a ca) (hs:starEach [a] X.env=[(false,eval a X.env)]) (hx:X.xe=λ_ _=>False) (I:L2.Inv X pins σ H s) (hB:HB B H) (er:ER X.K B H σ ρ) (ex:ev Ct ca ρ=some dx) (ed:Ct fi [dx]=some d)
  (hQ:∀ u s1 v H1,(∀ g,d≠.grp g)->L2.Inv X pins σ H1 s1->Same H H1->L2.RelV v u->Rep X.K B H1 v d->Qv u s1)
  (hE:∀ ea T H1 s1,(∃ g,d=.grp g)->L2.Inv X pins σ H1 s1->Same H H1->ExcAt s1.heap C ea T->yaz X pins H1 ea->yaz X pins H1 T->EX (.ref ea) s1):wpAny (model X.prog X.w) X.A (eval (.Call (.Name fn p) [a] [] cp) X.env) Qv EX s:=by
 have hpa:PA X [a] (tDs X.K B ρ [dx]):=yA ha jO hs B ρ _ (by rw [evs,ex];rfl);refine wpAny_Call_Name_kw (qaq I hg hm ?_ hdb);refine PySem.W.callWith_K (h₀:=X.base) I.ok.mod.kin hk (wpAny_mono (hpa cp pins s σ H (λvs H1=>Same H H1/\Reps X.K B H1 vs [dx]) I ⟨hB,er,λvs H1 sm r=>⟨sm,r⟩⟩) (λus s1 ⟨vs,H1,I1,r1,sm1,rr1⟩=>⟨I1.kIn,?_⟩) (by rw [hx];exact λ_ _ z=>z.elim)) hs rfl;have sp:spD X.K Ct fi vs H1 (λv H2=>(∀ g,d≠.grp g)/\Same H1 H2/\Rep X.K B H2 v d) (λ_ _ H2=>(∃ g,d=.grp g)/\Same H1 H2):=⟨B,[dx],d,hB.same sm1,rr1,ed,λn v H' sm r=>⟨n,sm,r⟩,λh e H' sm=>⟨h,sm⟩⟩;have hl:(us++[]).length=ps.length:=by rw [List.append_nil,<-r1.length];exact F.len _ _ _ _ sp
 refine wpAny_call (codeAny_mono (F.run X.A X.stack s1 H1 ⟨us,[]⟩ (us++[]) vs _ _ hr I1.env0 (hb s1 us I1.kIn hl) (by rw [List.append_nil];exact r1) sp) λr s' hq=>?_);cases r with
 | error e =>
  obtain ⟨ea,T,H',rfl,os,bare,un,hok,x,⟨n1,n2⟩,⟨g1,g2⟩,hd,smE⟩:=hq;exact hE ea T H' s' hd (I1.call' os un hok bare λb z=>nomatch z) (sm1.trans smE) x ⟨g1,(I1.ours n1).2⟩ ⟨g2,(I1.ours n2).2⟩
 | ok fl =>
  cases fl with
  | ret u =>
   obtain ⟨v,H2,I2,rv,hn,sm2,rp⟩:=I1.after hq;exact hQ u s' v H2 hn I2 (sm1.trans sm2) rv rp
  | next=>exact False.elim hq
  | brk=>exact False.elim hq
  | cont=>exact False.elim hq
theorem qc7 {i j k fi k1 k2:Nat} {f:Addr} {fd:FuncData} {ps:List Str} {x fn cn en cn2:Str} {a:Expr} {ca:Code} {px p cp ap tp np hp rp p1 p2 lp ip q1 q2 q3 q4 q5 q6 q7 q8 bp cp' sp:Pos} (F:FnOk X.prog X.w X.K X.mg X.base (CXn X.prog X.w C) k f fd ps (spD X.K Ct fi)) (hr:Room k X.A) (hg:Gl X fn) (hm:X.mg fn=some (.ref f)) (hk:PySem.W.keepIn X.K (.ref f)=true) (hb:Binds X.K fd ps [])
  (hdb:(fn==("__debug__":Str))=false) (ha:SE X Ct a ca) (hs:starEach [a] X.env=[(false,eval a X.env)]) (hx:X.xe=λ_ _=>False)
  (hi:X.N[i]?=some x) (hlx:Loc X.env.scope x) (hfx:X.fn x=true\/X.env.scope.names.lookup x=some .local)
  (qe:PySem.W.excIn X.K C bmV ybW=true) (qi:PySem.W.isIn X.K (.ref C) C2=true) (hst:X.stack=X.env::X.outer) (hfm:X.env.frame=some X.env.locals)
  (hN:X.N.Nodup) (hj:X.N[j]?=some en) (hl:X.env.scope.names.lookup en=some .local) (hd:(en==("__debug__":Str))=false) (hcd:(en==("__classdict__":Str))=false) (hgC:Gl X cn) (hmC:X.mg cn=some (.ref C)) (hdC:(cn==("__debug__":Str))=false)
  (hgI:Gl X "int") (hmI:X.mg "int"=none) (hgS:Gl X "isinstance") (hmS:X.mg "isinstance"=none) (hgV:Gl X "ValueError") (hmV:X.mg "ValueError"=none) (hg2:Gl X cn2) (hm2:X.mg cn2=some (.ref C2)) (hd2:(cn2==("__debug__":Str))=false)
  (bI:bootBuiltins "int"=some (.type "int")) (bS:bootBuiltins "isinstance"=some (.builtin "isinstance")) (bV:bootBuiltins "ValueError"=some (.type "ValueError")) :
  SS X Ct (.Try [.Assign [.Name x px] (.Call (.Name fn p) [a] [] cp) ap] [.ExceptHandler (some (.Name cn np)) (some en) [.Return (some (.Subscript (.List [.Constant (.int 0) k1 p1,.Constant .none k2 p2] lp) (.Call (.Name "int" ip) [.BoolOp .And [.Call (.Name "isinstance" q1) [.Name en q2,.Name cn2 q3] [] q4,.Call (.Name "isinstance" q5) [.Name en q6,.Name "ValueError" q7] [] q8] bp] [] cp') sp)) rp] hp] [] [] tp) (.tryr i fi ca):=λB H0 O ρ r he=>by
 obtain ⟨dx,ex,he⟩:=wa (show (ev Ct ca (vP ρ)).bind _=some r from he);obtain ⟨d,ed,he⟩:=wa he;intro pins s σ H D I q;refine wpAny_Try_except (wpAny_execs_cons (wpAny_Assign_Name (zdL F hr hg hm hk hb hdb ha hs hx I q.1.hb q.1.erP ex ed (λu s1 v H1 hn I1 sm rv rp=>?_) (λea T H1 s1 hdg I1 sm xa fe fT=>?_)) (qbD rfl _ _ _)))
 ·have he:r=.nx (ρ.set i (.pu d)):=by
   cases d with
   | grp g=>exact absurd rfl (hn g)
   | _=>exact (wC he).symm
  subst he;refine qaz I1 hN hi hlx rv (λs2 I2=>wpAny_execs_nil (wpAny_execs_nil ⟨_,H1,I2,?_⟩)) hfx;exact q.2 O _ _ (Ext.of_same sm) ((q.1.grow sm).set (by rw [I.len];exact (wu.mp hi).1) rp) (by simp)
 ·obtain ⟨g,rfl⟩:=hdg;cases he;exact jdK qe qi hst hfm hN hj hl hd hcd hgC hmC hdC hgI hmI hgS hmS hgV hmV hg2 hm2 hd2 bI bS bV I1 xa fe fT λH' sm'=>q.2 .non H' (q.1.same.trans (sm.trans sm')) .non
end
noncomputable def ydl (y:Str):Value->Bool
 | .str z _=>decide (z=y)
 | _=>false
theorem ybs {ts:List Str} {its:List Value} (r:Vals (ts.map V.str) its) {j:Nat} {v:Value} (h:its[j]?=some v) (y:Str):∃ z,ts[j]?=some z/\ydl y v=decide (z=y):=by
 have hj:j<ts.length:=by
  have h1:=r.length;rw [wG] at h1
  have:=(wu.mp h).1
  omega
 obtain ⟨z,hz⟩:∃ z,ts[j]?=some z:=⟨_,List.getElem?_eq_getElem hj⟩;obtain ⟨u,hu,t,rfl⟩:=r.get (show (ts.map V.str)[j]?=some (.str z) by rw [wz,hz];rfl);rw [h] at hu;cases hu
 exact ⟨z,hz,rfl⟩
theorem qaU (y:Str):∀ {ts:List Str} {its:List Value},Vals (ts.map V.str) its->its.countP (ydl y)=ts.countP λz=>decide (z=y)
 | [],_,r=>by cases r;rfl
 | t::ts,_,r=>by
  cases r with
  | cons a r =>
   obtain ⟨k,rfl⟩:=a;rw [List.countP_cons,List.countP_cons,qaU y r];rfl
theorem ybG {A:Around} {s:Shared} {v:Value} {y z:Str} {u k:Tok} (h:v=.str z k):SeqAt.EqAt A s v (.str y u) (ydl y v):=λprog w E Q hq=>by
 subst h;exact wpAny_eqBool_str hq
section
variable {X:Cx}
theorem yc7:MtR X "list.count" (λx xs H Q=>∃ (a:Addr) (ts:List Str) (y:Str),x=.ref a/\xs=[.str y]/\H a=some (.lst (ts.map V.str))/\Q (.int (ts.countP λz=>decide (z=y):Nat)) H):=by
 intro pins s σ H x xs v us Q I rx rv ⟨a,ts,y,e1,e2,ha,q⟩;subst e1;subst e2
 cases rx;obtain ⟨u,rfl,t2,rfl⟩:=rv.one;obtain ⟨_,its,n,r,e⟩:=I.hok _ _ ha;refine call_meets F.slot_list_count ⟨_,e,rfl⟩ F.entry_list_count (F.args_list_count_2 _ _) (SeqAt.list_countAt a its.toArray n none #[] (.str y t2) (ydl y)) ⟨e,λv hv=>?_,?_⟩
 ·obtain ⟨j,hj⟩:=List.mem_iff_getElem?.mp (Array.mem_toList_iff.mpr hv);have hj:its[j]?=some v:=by simpa using hj
  obtain ⟨z,hz,_⟩:=ybs r hj y;obtain ⟨u,hu,t,rfl⟩:=r.get (show (ts.map V.str)[j]?=some (.str z) by rw [wz,hz];rfl);rw [hj] at hu;cases hu
  exact ybG rfl
 ·refine ⟨.int _,H,I.tok _,⟨s.toks,?_⟩,q⟩;rw [List.toList_toArray,qaU y r]
theorem jc7:MtR X "list.index" (λx xs H Q=>∃ (a:Addr) (ts:List Str) (y:Str) (j:Nat),x=.ref a/\xs=[.str y]/\H a=some (.lst (ts.map V.str))/\ts[j]?=some y/\(∀ m<j,ts[m]?≠some y)/\Q (.int (j:Nat)) H):=by
 intro pins s σ H x xs v us Q I rx rv ⟨a,ts,y,j,e1,e2,ha,hj,hno,q⟩;subst e1;subst e2
 cases rx;obtain ⟨u,rfl,t2,rfl⟩:=rv.one;obtain ⟨hz,its,n,r,e⟩:=I.hok _ _ ha;have hl:=r.length;rw [wG] at hl hz;have hlt:=(wu.mp hj).1;have h16:=sizeLine_eq;have key:∀ m (hm:m<its.toArray.size),∃ z,ts[m]?=some z/\ydl y its.toArray[m]=decide (z=y):=λm hm=>ybs r (by simp) y
 refine call_meets F.slot_list_index ⟨_,e,rfl⟩ F.entry_list_index (F.args_list_index_2 _ _) (SeqAt.list_indexAt a its.toArray n none #[] (.str y t2) (ydl y) j (by simp;omega) (by omega) ?_ ?_) ⟨e,λv hv=>?_,?_⟩
 ·obtain ⟨z,h1,h2⟩:=key j (by simp;omega);rw [hj] at h1;cases h1
  rw [h2];simp
 ·intro m hm hlt;obtain ⟨z,h1,h2⟩:=key m hm;rw [h2,vp];rintro rfl;exact hno m hlt h1
 ·obtain ⟨j,hj⟩:=List.mem_iff_getElem?.mp (Array.mem_toList_iff.mpr hv);have hj:its[j]?=some v:=by simpa using hj
  obtain ⟨z,hz,_⟩:=ybs r hj y;obtain ⟨u,hu,t,rfl⟩:=r.get (show (ts.map V.str)[j]?=some (.str z) by rw [wz,hz];rfl);rw [hj] at hu;cases hu
  exact ybG rfl
 ·exact ⟨.int _,H,I.tok _,⟨s.toks,rfl⟩,q⟩
end
section
variable {X:Cx} {C:Tab} {a b:Expr} {ca cb:Code} {tg:Expr}
noncomputable def Its (z:Str):It:=⟨λi _=>i<z.cps.size,λi H x H'=>H'=H/\∃ c,z.cps[i]?=some c/\x=.str ⟨#[c]⟩,λi _=>z.cps.size<=i⟩
theorem zcB {P:Program} {w:World} {K:Frag} (z:Str) (t:Tok) (it:Addr):Turn P w K tg (Its z) [it] it (λi h=>h.IsStrIter it "str_ascii_iterator" z t i) where
 mem:=by simp
 obj:=λi h st b hb=>by
  have e:b=it:=by simpa using hb
  subst e;obtain ⟨o,e,c,d⟩:=st;exact ⟨o,e,λv z=>by rw [d] at z;cases z⟩
 keep:=λi h h' st k=>let ⟨o,ho,r⟩:=st;⟨o,k it (by simp) o ho,r⟩
 item:=by
  intro X hP hw hK hc i pins s σ H E I hf st hg;subst hP hw hK;obtain ⟨f0,f1,f2,f3,f4,f5⟩:=hf it (by simp);have hg':i<z.cps.size:=hg;obtain ⟨c,hc'⟩:∃ c,z.cps[i]?=some c:=⟨_,Array.getElem?_eq_getElem hg'⟩;refine wpAny_pyNext_ascii_item st (c:=c) hc' λh' st' sb=>?_
  have I1:L2.Inv X pins σ H { s with heap:=h',toks:=s.toks+1 }:=I.turned (λb o hb e=>sb.extBut b o hb e) f0 f1 f3 f4 f5;obtain ⟨o,e,cc,d⟩:=id st';exact ⟨_,rfl,jcq (s:={ s with heap:=h',toks:=s.toks+1 }) e cc d (by decide) ⟨.str _,H,I1,⟨_,rfl⟩,⟨rfl,c,hc',rfl⟩,st',λb hb=>(hf b hb).1⟩⟩
 done:=by
  intro X hP hw hK hc i pins s σ H E I hf st hg;subst hP hw hK;obtain ⟨f0,f1,f2,f3,f4,f5⟩:=hf it (by simp);exact wpAny_pyNext_ascii_end (I.ok.hd hc) st (by have:z.cps.size<=i:=hg;simp [this]) λh' eb=>⟨rfl,I.turned (t':=s.toks) (λb o hb e=>eb b o hb e) f0 f1 f3 f4 f5⟩
 self:=λ_ _ _ _ _ st h=>wpAny_pyIter_striter_ascii st h
theorem qdL (ha:SE X C a ca):SI X C tg a (.chr ca):=λB ρ ds h=>by
 obtain ⟨dx,ex,h⟩:=wa (show (ev C ca ρ).bind qdv=some ds from h);cases dx with
 | str z =>
  have h:(if z.length<=50000/\z.cps.all (·<128)=true then some (z.cps.toList.map λc=>D.str ⟨#[c]⟩) else none)=some ds:=h;split at h
  ·rename_i hz;cases h;intro pins s σ H R I ⟨hb,er,q⟩;refine thn (ha B ρ _ ex pins s σ H (λv H1=>Same H H1/\v=.str z) I ⟨hb,er,λv H1 sm r=>⟨sm,by cases r;rfl⟩⟩) λv s1 ⟨x,H1,I1,r1,sm1,ev'⟩=>?_
   subst ev';obtain ⟨t,rfl⟩:=r1;refine wpAny_pyIter_ascii hz.2 ?_;refine ⟨s1.heap.objs.size,[s1.heap.objs.size],_,_,H1,rfl,I1.kept (t':=s1.toks) λb o e=>wm _ e,zcB z t _,⟨_,wx _ rfl,rfl,rfl⟩,λb hb=>?_,q _ H1 sm1 ⟨?_,λB' H _ _ _ i d hd=>?_,λH _=>?_⟩⟩
   ·have e:b=s1.heap.objs.size:=by simpa using hb
    subst e;exact I1.fpOk (wF _) (I1.hok.fresh (wF _))
   ·have:=hz.1;have h16:=sizeLine_eq;rw [wG,Array.length_toList];show z.length<=_;omega
   ·rw [wz] at hd;obtain ⟨c,hc,rfl⟩:=Option.map_eq_some_iff.mp hd;have hc':z.cps[i]?=some c:=by simpa using hc
    refine ⟨(Array.getElem?_eq_some_iff.mp hc').1,λx H' ⟨h1,c',h2,h3⟩=>?_⟩;rw [hc'] at h2;cases h2
    subst h1;subst h3
    exact ⟨Same.refl _,.str _⟩
   ·show z.cps.size<=_;rw [wG,Array.length_toList];exact wF _
  ·cases h
 | _=>cases h
theorem yaU {bb:Blt} {ρ:En} {d:D} (e:ev C (.blt bb (.cons ca (.cons cb .nil))) ρ=some d):∃ dx dy,ev C ca ρ=some dx/\ev C cb ρ=some dy/\yJ bb [dx,dy]=some d:=by
 obtain ⟨dxs,exs',e⟩:=wa (show (evs C (.cons ca (.cons cb .nil)) ρ).bind _=some d from e);obtain ⟨dx,ex,e1⟩:=wa (show (ev C ca ρ).bind _=some dxs from exs');obtain ⟨dr,er,rfl⟩:=wb e1;obtain ⟨dy,ey,e2⟩:=wa (show (ev C cb ρ).bind _=some dr from er);obtain ⟨dn,en,rfl⟩:=wb e2;cases en;exact ⟨dx,dy,ex,ey,e⟩
theorem yaH {K:Frag} {B:Addr->Prop} {H:Hp}:∀ (ts:List Str),Reps K B H (ts.map V.str) (ts.map D.str)
 | []=>.nil
 | t::ts=>.cons (.str t) (yaH ts)
theorem qcB {apos cpos:Pos} (ha:SE X C a ca) (hb:SE X C b cb) (hbase:attributeBase a "split" X.env (eval a X.env)=eval a X.env) (hline:(apos.endLine==cpos.line)=true) (hsb:starEach [b] X.env=[(false,eval b X.env)]) :
  SE X C (.Call (.Attribute a "split" apos) [b] [] cpos) (.blt .split (.cons ca (.cons cb .nil))):=λB ρ d e=>by
 obtain ⟨dx,dy,ex,ey,e⟩:=yaU e;have hpa:PA X [b] (tDs X.K B ρ [dy]):=yA hb jO hsb B ρ _ (by rw [evs,ey];rfl)
 obtain ⟨z,y,rfl,rfl,hy,hz,hl,rfl⟩:∃ z y,dx=.str z/\dy=.str y/\y.length=1/\z.length+2<=sizeLine/\(Txt.split z y).length<=sizeLine/\d=.lst ((Txt.split z y).map D.str):=by
  match dx,dy,e with
  | .str z,.str y,e =>
   have e:(if y.length=1/\z.length+2<=sizeLine/\(Txt.split z y).length<=sizeLine then some (D.lst ((Txt.split z y).map D.str)) else none)=some d:=e;split at e
   ·rename_i h;cases e;exact ⟨z,y,rfl,rfl,h.1,h.2.1,h.2.2,rfl⟩
   ·cases e
 refine (qbc F.plainAttrs_str F.slot_str_split F.type_str_split jbF (ha B ρ _ ex) hpa hbase (by rw [hsb];rfl) hline hsb (by rfl)).imp λσ H Q ⟨h1,h2,q⟩=>?_
 refine ⟨h1,h2,λx H1 s1 r1=>?_⟩;cases r1;refine ⟨rfl,h1.same s1,h2.same s1,λvs H2 s2 r2=>?_⟩;obtain ⟨v,rfl,rv⟩:=r2.one;cases rv;refine ⟨z,y,rfl,rfl,by rw [hy];rfl,hz,hl,λl hn=>q _ _ ((s1.trans s2).trans (je hn _)) (.newL ((h1.same s1).same s2) hn ?_)⟩;exact yaH _
theorem zc8 {apos cpos:Pos} (ha:SE X C a ca) (hb:SE X C b cb) (hbase:attributeBase a "find" X.env (eval a X.env)=eval a X.env) (hline:(apos.endLine==cpos.line)=true) (hsb:starEach [b] X.env=[(false,eval b X.env)]) :
  SE X C (.Call (.Attribute a "find" apos) [b] [] cpos) (.blt .find (.cons ca (.cons cb .nil))):=λB ρ d e=>by
 obtain ⟨dx,dy,ex,ey,e⟩:=yaU e;have hpa:PA X [b] (tDs X.K B ρ [dy]):=yA hb jO hsb B ρ _ (by rw [evs,ey];rfl)
 obtain ⟨z,y,rfl,rfl,rfl⟩:∃ z y,dx=.str z/\dy=.str y/\d=.int (Txt.find z y):=by
  match dx,dy,e with
  | .str z,.str y,e=>cases e;exact ⟨z,y,rfl,rfl,rfl⟩
 refine (qbc F.plainAttrs_str F.slot_str_find F.type_str_find yc5 (ha B ρ _ ex) hpa hbase (by rw [hsb];rfl) hline hsb (by rfl)).imp λσ H Q ⟨h1,h2,q⟩=>?_
 refine ⟨h1,h2,λx H1 s1 r1=>?_⟩;cases r1;refine ⟨rfl,h1.same s1,h2.same s1,λvs H2 s2 r2=>?_⟩;obtain ⟨v,rfl,rv⟩:=r2.one;cases rv;exact ⟨z,y,rfl,rfl,q _ H2 (s1.trans s2) (.int _)⟩
theorem qc8 {apos cpos:Pos} (ha:SE X C a ca) (hb:SE X C b cb) (hbase:attributeBase a "partition" X.env (eval a X.env)=eval a X.env) (hline:(apos.endLine==cpos.line)=true) (hsb:starEach [b] X.env=[(false,eval b X.env)]) :
  SE X C (.Call (.Attribute a "partition" apos) [b] [] cpos) (.blt .part (.cons ca (.cons cb .nil))):=λB ρ d e=>by
 obtain ⟨dx,dy,ex,ey,e⟩:=yaU e;have hpa:PA X [b] (tDs X.K B ρ [dy]):=yA hb jO hsb B ρ _ (by rw [evs,ey];rfl)
 obtain ⟨z,y,rfl,rfl,hy,hz,rfl⟩:∃ z y,dx=.str z/\dy=.str y/\y.length=1/\z.length<=sizeLine/\d=.tup [.str (Txt.partition z y).1,.str (Txt.partition z y).2.1,.str (Txt.partition z y).2.2]:=by
  match dx,dy,e with
  | .str z,.str y,e =>
   have e:(if y.length=1/\z.length<=sizeLine then some (D.tup [.str (Txt.partition z y).1,.str (Txt.partition z y).2.1,.str (Txt.partition z y).2.2]) else none)=some d:=e;split at e
   ·rename_i h;cases e;exact ⟨z,y,rfl,rfl,h.1,h.2,rfl⟩
   ·cases e
 refine (qbc F.plainAttrs_str F.slot_str_partition F.type_str_partition jc5 (ha B ρ _ ex) hpa hbase (by rw [hsb];rfl) hline hsb (by rfl)).imp λσ H Q ⟨h1,h2,q⟩=>?_
 refine ⟨h1,h2,λx H1 s1 r1=>?_⟩;cases r1;refine ⟨rfl,h1.same s1,h2.same s1,λvs H2 s2 r2=>?_⟩;obtain ⟨v,rfl,rv⟩:=r2.one;cases rv;exact ⟨z,y,rfl,rfl,by rw [hy];rfl,hz,λl hn=>q _ _ ((s1.trans s2).trans (je hn _)) (.newT hn (.cons (.str _) (.cons (.str _) (.cons (.str _) .nil))))⟩
theorem zcd {y:Str}:∀ {ts:List Str} {j:Nat},zct y ts=some j->ts[j]?=some y/\∀ m<j,ts[m]?≠some y
 | [],_,h=>by cases h
 | z::r,j,h=>by
  unfold zct at h;split at h
  ·rename_i e;cases h;subst e;exact ⟨rfl,λm hm=>absurd hm (Nat.not_lt_zero m)⟩
  ·rename_i e;obtain ⟨k,hk,rfl⟩:=wb h;obtain ⟨h1,h2⟩:=zcd hk;refine ⟨by simpa using h1,λm hm=>?_⟩;cases m with
   | zero=>simpa using e
   | succ m=>simpa using h2 m (by omega)
theorem yc8 {apos cpos:Pos} (ha:SE X C a ca) (hb:SE X C b cb) (hbase:attributeBase a "count" X.env (eval a X.env)=eval a X.env) (hline:(apos.endLine==cpos.line)=true) (hsb:starEach [b] X.env=[(false,eval b X.env)]) :
  SE X C (.Call (.Attribute a "count" apos) [b] [] cpos) (.blt .lcnt (.cons ca (.cons cb .nil))):=λB ρ d e=>by
 obtain ⟨dx,dy,ex,ey,e⟩:=yaU e;have hpa:PA X [b] (tDs X.K B ρ [dy]):=yA hb jO hsb B ρ _ (by rw [evs,ey];rfl)
 obtain ⟨xs,y,ts,rfl,rfl,et,rfl⟩:∃ xs y ts,dx=.lst xs/\dy=.str y/\strsOf xs=some ts/\d=.int ((ts.countP λz=>decide (z=y):Nat):Int):=by
  match dx,dy,e with
  | .lst xs,.str y,e =>
   obtain ⟨ts,et,rfl⟩:=wb (show (strsOf xs).map _=some d from e);exact ⟨xs,y,ts,rfl,rfl,et,rfl⟩
 refine (qbc F.plainAttrs_list F.slot_list_count F.type_list_count yc7 (ha B ρ _ ex) hpa hbase (by rw [hsb];rfl) hline hsb (by rfl)).imp λσ H Q ⟨h1,h2,q⟩=>?_
 refine ⟨h1,h2,λx H1 s1 r1=>?_⟩;obtain ⟨l,ws,rfl,nl,hl,rl⟩:=r1.lstD;refine ⟨.inl ⟨rfl,_,SqL.of hl⟩,h1.same s1,h2.same s1,λvs H2 s2 r2=>?_⟩;obtain ⟨v,rfl,rv⟩:=r2.one;cases rv;exact ⟨l,ts,y,rfl,rfl,by rw [s2 _ _ hl,rl.strs et],q _ H2 (s1.trans s2) (.int _)⟩
theorem jc8 {apos cpos:Pos} (ha:SE X C a ca) (hb:SE X C b cb) (hbase:attributeBase a "index" X.env (eval a X.env)=eval a X.env) (hline:(apos.endLine==cpos.line)=true) (hsb:starEach [b] X.env=[(false,eval b X.env)]) :
  SE X C (.Call (.Attribute a "index" apos) [b] [] cpos) (.blt .lidx (.cons ca (.cons cb .nil))):=λB ρ d e=>by
 obtain ⟨dx,dy,ex,ey,e⟩:=yaU e;have hpa:PA X [b] (tDs X.K B ρ [dy]):=yA hb jO hsb B ρ _ (by rw [evs,ey];rfl)
 obtain ⟨xs,y,ts,j,rfl,rfl,et,ej,rfl⟩:∃ xs y ts j,dx=.lst xs/\dy=.str y/\strsOf xs=some ts/\zct y ts=some j/\d=.int ((j:Nat):Int):=by
  match dx,dy,e with
  | .lst xs,.str y,e =>
   obtain ⟨ts,et,e⟩:=wa (show (strsOf xs).bind _=some d from e);obtain ⟨j,ej,rfl⟩:=wb e;exact ⟨xs,y,ts,j,rfl,rfl,et,ej,rfl⟩
 refine (qbc F.plainAttrs_list F.slot_list_index F.type_list_index jc7 (ha B ρ _ ex) hpa hbase (by rw [hsb];rfl) hline hsb (by rfl)).imp λσ H Q ⟨h1,h2,q⟩=>?_
 refine ⟨h1,h2,λx H1 s1 r1=>?_⟩;obtain ⟨l,ws,rfl,nl,hl,rl⟩:=r1.lstD;refine ⟨.inl ⟨rfl,_,SqL.of hl⟩,h1.same s1,h2.same s1,λvs H2 s2 r2=>?_⟩;obtain ⟨v,rfl,rv⟩:=r2.one;cases rv;obtain ⟨h3,h4⟩:=zcd ej;exact ⟨l,ts,y,j,rfl,rfl,by rw [s2 _ _ hl,rl.strs et],h3,h4,q _ H2 (s1.trans s2) (.int _)⟩
end
theorem Reps.set {K:Frag} {B:Addr->Prop} {H:Hp}:∀ {vs:List V} {ds:List D} {v:V} {d:D} (j:Nat),Reps K B H vs ds->Rep K B H v d->Reps K B H (vs.set j v) (ds.set j d)
 | _,_,_,_,_,.nil,_=>.nil
 | _,_,_,_,0,.cons _ r,x=>.cons x r
 | _,_,_,_,j+1,.cons a r,x=>.cons a (Reps.set j r x)
theorem ycB {o i e:Expr} {p:Pos} {l:Nat} {env:Env}:swapsWithSole [.Subscript o i p] e l env=pure false:=by cases e<;>rfl
theorem zc9 {o i e:Expr} {p:Pos} {env:Env}:swappedStores [.Subscript o i p] e env=pure none:=by cases e<;>rfl
section
variable {X:Cx} {C:Tab}
theorem ydL {i:Nat} {x:Str} {px sp pos:Pos} {ek e:Expr} {ck ce:Code} (hN:X.N[i]?=some x) (hv:Vis X.env.scope x) (hd:(x==("__debug__":Str))=false) (hcd:(x==("__classdict__":Str))=false) (hk:SE X C ek ck) (he:SE X C e ce)
  (hp : ∀ v, assign (.Subscript (.Name x px) ek sp) X.env v = (do
   let ov <-holding [v] (eval (.Name x px) X.env)
   let iv <-holding [v,ov] (eval ek X.env)
   standAt sp
   holding [v,ov,iv] (setItem ov iv v)
   release [v,ov,iv] [])):SS X C (.Assign [.Subscript (.Name x px) ek sp] e pos) (.put i ck ce):=λB H0 O ρ r h=>by
 obtain ⟨d,ed,h⟩:=wa (show (ev C ce (vP ρ)).bind (λd=>(ev C ck (vP ρ)).bind λj=>ydv i j d ρ)=some r from h);obtain ⟨dj,ej,h⟩:=wa h;unfold ydv at h;split at h
 case h_2=>cases h
 rename_i ds j hρ;split at h
 case isFalse=>cases h
 rename_i hj;cases h;refine (qcK (he (BO B O) (vP ρ) d ed) (ydo (yaQ (pos:=px) hN hv hd hcd) (hk (BO B O) (vP ρ) _ ej) set_list hp) ycB zc9).imp λD σ H q=>?_
 obtain ⟨F,q⟩:=q;obtain ⟨a,vs,hσ,o,ha,rs⟩:=F.ow i ds hρ;refine ⟨F.hb,F.erP,λv H1 sm rv=>⟨_,hσ,F.hb.same sm,F.erP.same sm,λw H2 sm2 rw'=>?_⟩⟩;cases rw';have s12:=sm.trans sm2;obtain ⟨F2,x2⟩:=(F.grow s12).write (es:=ds.set j.toNat d) (ws:=vs.set j.toNat v) hρ hσ ((rs.same s12).set j.toNat (rv.same sm2));refine ⟨a,vs,j,j.toNat,rfl,rfl,s12 _ _ ha,?_,q O σ _ ((Ext.of_same s12).trans x2) F2 rfl⟩
 have:=rs.length
 unfold L2.ixN;rw [if_pos hj.1,if_pos (by omega)]
theorem _root_.L2.PS.nox {st:Stmt} {t:TS} (h:PS X.nox st t):PS X st t:=λpins s σ H D I hw =>
 wpAny_mono (h pins s σ H D (I.wish _) hw) (λ_ _ q=>q.unwish) λ_ _ z=>False.elim z
theorem jaH {sts:List Stmt}:PSs X sts (λ_ _ _=>False):=λ_ _ _ _ _ _ q=>q.elim
def SSx (X:Cx) (C:Tab) (c:Addr) (sts:List Stmt) (s:Stms):Prop:=∀ B H0 O ρ,exs C s ρ=some .xc->Rz c H0 X->PSs X sts (λ_ σ H=>FR X.K B H0 O σ H ρ)
variable {c:Addr} {st:Stmt} {sts:List Stmt} {ss:Stms}
theorem SSx.any (h:SSx X C c sts ss) {B:Addr->Prop} {H0:Hp} {ρ:List Sl} (e:exs C ss ρ=some .xc) (hz:Rz c H0 X):PSs X sts (λ_ σ H=>∃ O,FR X.K B H0 O σ H ρ):=λpins s σ H D I ⟨O,F⟩=>h B H0 O ρ e hz pins s σ H D I F
theorem jcB {s:Stm} (h1:SS X.nox C st s) (h2:SSx X C c sts ss):SSx X C c (st::sts) (.cons s ss):=λB H0 O ρ e hz=>by
 obtain ⟨f,ef,e⟩:=wa (show (ex C s ρ).bind (λf=>match f with | .nx ρ'=>exs C ss ρ' | .xc=>none | f=>some f)=some .xc from e);cases f with
 | nx ρ1=>exact (zal (h1 B H0 O ρ _ ef).nox (h2.any (B:=B) e hz)).imp λD σ H F=>⟨F,λO' σ' H' x F' l=>⟨O',F'⟩⟩
 | bk ρ1=>cases e
 | ct ρ1=>cases e
 | rt d=>cases e
 | xc=>cases e
theorem qc9 {i:Nat} (h:SSx X C c sts ss):SSx X C c sts (.frz i ss):=λB H0 O ρ e hz=>by
 have e':(match ρ[i]? with | some (.ow ds)=>exs C ss (ρ.set i (.pu (.lst ds))) | _=>none)=some .xc:=by rw [exs] at e;exact e
 cases q:ρ[i]? with
 | none=>rw [q] at e';cases e'
 | some sl =>
  rw [q] at e';cases sl with
  | ow ds =>
   refine (h.any (B:=B) e' hz).imp λD σ H F=>?_
   obtain ⟨O',F,x⟩:=F.frz q;exact ⟨O',F⟩
  | un=>cases e'
  | pu d=>cases e'
  | gr es=>cases e'
theorem yc9 {e:Expr} {ce:Code} {pos:Pos} {x m:Str} {np cpos p rp:Pos} {k:Nat} (h:SB X.nox C e ce) (hr:SSx X C c sts ss) (q:PySem.W.excIn X.K c bmV ybW=true) (hc:X.calm=true) (hg:Gl X x) (hm:X.mg x=some (.ref c)) (hd:(x==("__debug__":Str))=false) :
  SSx X C c (.If e [.Raise (some (.Call (.Name x np) [.Constant (.str m) k p] [] cpos)) none rp] [] pos::sts) (.rsg ce ss):=λB H0 O ρ he hz=>by
 obtain ⟨d,ed,he⟩:=wa (show (ev C ce (vA ρ)).bind (λd=>(truO d).bind λk=>if k then some Fl.xc else exs C ss ρ)=some .xc from he);obtain ⟨k,ek,he⟩:=wa he;cases k with
 | true =>
  refine (zal (qcq (h B (vA ρ) d true ed ek).nox (jbX (jcA q hc hg hm hd)) pss_nil) jaH).imp λD σ H F=>⟨F.hbB,F.erA,λH' s=>ydk ⟨H0,F.same.trans s,hz⟩⟩
 | false =>
  rw [if_neg wB] at he;exact (zal (qcq (h B (vA ρ) d false ed ek).nox jaH pss_nil) (hr.any (B:=B) he hz)).imp λD σ H F=>⟨F.hbB,F.erA,λH' s=>ycW ⟨O,F.grow s⟩⟩
theorem jc9 {e:Expr} {ce:Code} {pos:Pos} {a:List Stmt} (h:SB X C e ce) (hr:SSs X C sts ss):SSs X C (.If e a [] pos::sts) (.rsg ce ss):=λB H0 O ρ r he=>by
 obtain ⟨d,ed,he⟩:=wa (show (ev C ce (vA ρ)).bind (λd=>(truO d).bind λk=>if k then some Fl.xc else exs C ss ρ)=some r from he);obtain ⟨k,ek,he⟩:=wa he;cases k with
 | true =>
  cases he;exact λ_ _ _ _ _ _ q=>q.2.elim
 | false =>
  rw [if_neg wB] at he;exact (zal (qcq (h B (vA ρ) d false ed ek) jaH pss_nil) hr.any).imp λD σ H t=>⟨t.1.hbB,t.1.erA,λH' s=>ycW ⟨B,H0,O,ρ,r,he,qam t (Ext.of_same s) (t.1.grow s) rfl⟩⟩
theorem zda:SSx X C c [] .nil:=λB H0 O ρ e=>by cases e
theorem zcC {a b:Expr} {ca cb:Code} {apos cpos:Pos} (ha:SE X C a ca) (hb:SE X C b cb) (hbase:attributeBase a "split" X.env (eval a X.env)=eval a X.env) (hline:(apos.endLine==cpos.line)=true) (hsb:starEach [b] X.env=[(false,eval b X.env)]) :
  SF X C (.Call (.Attribute a "split" apos) [b] [] cpos) (.blt .split (.cons ca (.cons cb .nil))):=λB ρ ds e=>by
 obtain ⟨dx,dy,ex,ey,e⟩:=yaU e;have hpa:PA X [b] (tDs X.K B ρ [dy]):=yA hb jO hsb B ρ _ (by rw [evs,ey];rfl)
 obtain ⟨z,y,rfl,rfl,hy,hz,hl,rfl⟩:∃ z y,dx=.str z/\dy=.str y/\y.length=1/\z.length+2<=sizeLine/\(Txt.split z y).length<=sizeLine/\ds=(Txt.split z y).map D.str:=by
  match dx,dy,e with
  | .str z,.str y,e =>
   have e:(if y.length=1/\z.length+2<=sizeLine/\(Txt.split z y).length<=sizeLine then some (D.lst ((Txt.split z y).map D.str)) else none)=some (.lst ds):=e;split at e
   ·rename_i h;cases e;exact ⟨z,y,rfl,rfl,h.1,h.2.1,h.2.2,rfl⟩
   ·cases e
 refine (qbc F.plainAttrs_str F.slot_str_split F.type_str_split jbF (ha B ρ _ ex) hpa hbase (by rw [hsb];rfl) hline hsb (by rfl)).imp λσ H Q ⟨h1,h2,q⟩=>?_
 refine ⟨h1,h2,λx H1 s1 r1=>?_⟩;cases r1;refine ⟨rfl,h1.same s1,h2.same s1,λvs H2 s2 r2=>?_⟩;obtain ⟨v,rfl,rv⟩:=r2.one;cases rv;exact ⟨z,y,rfl,rfl,by rw [hy];rfl,hz,hl,λl hn=>q _ _ ((s1.trans s2).trans (je hn _)) (.newL ((h1.same s1).same s2) hn (yaH _)) ⟨l,rfl,(s1.trans s2).free hn⟩⟩
end
noncomputable def bltL:List Str:=["range","enumerate","zip","len","sorted","set","list","tuple","int","str","min","max","sum","all","any","isinstance","bool","ValueError"]
noncomputable def ncA (mg:Str->Option Value):Addr:=match mg "NoText" with
 | some (.ref c)=>c
 | _=>0
structure Cls (K:Frag) (mg:Str->Option Value):Prop where
 no:mg "NoText"=some (.ref (ncA mg))
 ex:PySem.W.excIn K (ncA mg) bmV ybW=true
 ta:∃ c,mg "TableError"=some (.ref c)/\PySem.W.isIn K (.ref (ncA mg)) c=true
structure Glob (G:GTab) (X:Cx) (C:Tab):Prop where
 calm:X.calm=true
 hx:X.xe=λ_ _=>False
 hu:X.A.units+64<cLine
 fns:∀ (i:Nat) (x:Str),G.fns[i]?=some x->∃ k f fd ps,FnOk X.prog X.w X.K X.mg X.base (CXn X.prog X.w (ncA X.mg)) k f fd ps (spD X.K C i)/\Room k X.A/\X.mg x=some (.ref f)/\PySem.W.keepIn X.K (.ref f)=true/\Binds X.K fd ps []
 blts:∀ x∈bltL,X.mg x=none
 cons:∀ (x:Str) (i:Int),G.cons.lookup x=some i->∃ t,X.mg x=some (.int i t)
 txts:∀ (x z:Str),G.txts.lookup x=some z->∃ t,X.mg x=some (.str z t)
 cls:Cls X.K X.mg
structure Fit (g:Gam) (X:Cx):Prop where
 N:X.N=g.N
 nd:X.N.Nodup
 loc:∀ x,zai g x=some .local->X.env.scope.names.lookup x=some .local
 cel:∀ x,zai g x=some .cell->X.env.scope.names.lookup x=some .cell/\X.fn x=true
 fre:∀ x,zai g x=some .free->X.env.scope.names.lookup x=some .cell\/X.env.scope.names.lookup x=some .free
 glo:∀ x,zai g x=some .globalImplicit->Gl X x
section
variable {g:Gam} {X:Cx} {C:Tab} {G:GTab}
theorem Fit.vis (F:Fit g X) {x:Str} (h:jdH g x=true):Vis X.env.scope x:=by
 simp only [jdH,Bool.or_eq_true,vq] at h;rcases h with (h | h) | h
 ·exact .inl (F.loc x h)
 ·exact .inr (.inl (F.cel x h).1)
 ·exact (F.fre x h).elim (λz=>.inr (.inl z)) λz=>.inr (.inr z)
theorem Fit.locd (F:Fit g X) {x:Str} (h:zdI g x=true):Loc X.env.scope x/\(X.fn x=true\/X.env.scope.names.lookup x=some .local):=by
 simp only [zdI,Bool.or_eq_true,vq] at h;rcases h with h | h
 ·exact ⟨.inl (F.loc x h),.inr (F.loc x h)⟩
 ·exact ⟨.inr (F.cel x h).1,.inl (F.cel x h).2⟩
theorem Fit.glob (F:Fit g X) {x:Str} (h:zaN g x=true):Gl X x:=F.glo x (by simpa [zaN] using h)
theorem Fit.slot (F:Fit g X) {i:Nat} {x:Str} (h:qbh g i x=true):X.N[i]?=some x:=by rw [F.N];simpa [qbh] using h
theorem qH {x:Str} (h:jav x=true):(x==("__debug__":Str))=false/\(x==("__classdict__":Str))=false:=by
 simp only [jav,wj,w9] at h;exact h
theorem qM {e:Expr} {es:List Expr} {env:Env} (h:jU e=false):starEach (e::es) env=(false,eval e env)::starEach es env:=by
 cases e<;>first | rfl | cases h
theorem jaU:∀ {es:List Expr} {env:Env} {pos:Pos},(∀ e∈es,jU e=false)->(backTo pos (starEach es env)).any (·.1)=false
 | [],_,_,_=>rfl
 | e::es,env,pos,h=>by
  rw [qM (h e (by simp))]
  have:=jaU (es:=es) (env:=env) (pos:=pos) λe he=>h e (by simp [he])
  simp only [backTo,List.map_cons,List.any_cons,Bool.false_or] at *;exact this
theorem zaI {es:List Expr} (h:ybr es=true):∃ a as,es=a::as/\∀ e∈es,jU e=false:=by
 simp only [ybr,wj,w9,List.all_eq_true] at h;cases es with
 | nil=>simp at h
 | cons a as=>exact ⟨a,as,rfl,h.2⟩
theorem zbi {r:Expr->Code->Bool} (hr:∀ e c,r e c=true->SE X C e c):∀ {es:List Expr} {cs:Codes},(∀ e∈es,jU e=false)->okA r es cs=true->SA X C es cs
 | [],.nil,_,_=>jO
 | [],.cons _ _,_,h=>by cases h
 | _::_,.nil,_,h=>by cases h
 | e::es,.cons c cs,hs,h=>by
  rw [okA,wj] at h;exact yA (hr e c h.1) (zbi hr (λe he=>hs e (by simp [he])) h.2) (qM (hs e (by simp)))
theorem qda {r:Expr->Code->Bool} (hr:∀ e c,r e c=true->SE X C e c) {op:BoolOp} {pos:Pos}:∀ {es:List Expr} {c:Code},ycp r op es c=true->SE X C (.BoolOp op es pos) c
 | [],_,h=>by cases h
 | [a],c,h=>ydA (hr a c h)
 | a::b::es,c,h=>by
  cases op with
  | And =>
   cases c with
   | and x y =>
    rw [ycp,wj] at h;exact jdA (hr a x h.1) (qda hr h.2)
   | _=>cases h
  | Or =>
   cases c with
   | or x y =>
    rw [ycp,wj] at h;exact yd5 (hr a x h.1) (qda hr h.2)
   | _=>cases h
theorem yda {t:Expr->Code->Bool} (ht:∀ e c,t e c=true->SB X C e c) {op:BoolOp} {pos:Pos}:∀ {es:List Expr} {c:Code},ycp t op es c=true->∀ B ρ d k,ev C c ρ=some d->truO d=some k->PW X (.BoolOp op es pos) (tTr X.K B ρ k)
 | [],_,h=>by cases h
 | [a],c,h=>by
  cases op with
  | And=>exact ybR (ht a c h)
  | Or=>exact zb5 (ht a c h)
 | a::b::es,c,h=>by
  cases op with
  | And =>
   cases c with
   | and x y =>
    rw [ycp,wj] at h;exact qdA (ht a x h.1) (yda ht h.2)
   | _=>cases h
  | Or =>
   cases c with
   | or x y =>
    rw [ycp,wj] at h;exact qd5 (ht a x h.1) (yda ht h.2)
   | _=>cases h
theorem ja3 {op:CmpOp} (h:qdW op=true):op∈cmpOps:=by cases op<;>first | decide | cases h
theorem qcO {op:CmpOp} (h:qdW op=true) (b:Expr):behindInMarks op b=false:=qdr b (by intro e;subst e;cases h) (by intro e;subst e;cases h)
theorem qcd {X:Cx} (hu:X.A.units+64<cLine) (op:CmpOp):OpR X (compareOp op) (rD2 X.K (jax op)):=by
 cases op with
 | In=>exact jcN hu false
 | NotIn=>exact jcN hu true
 | _=>exact jaE hu (by decide)
theorem jdL {op:CmpOp} {b:Expr} (h:setB b=false):behindInMarks op b=false:=by cases b<;>first | rfl | cases h
theorem ycO {r:Expr->Code->Bool} (hr:∀ e c,r e c=true->SE X C e c) (hu:X.A.units+64<cLine) {l:Expr} {os:List CmpOp} {es:List Expr} {c:Code} {pos:Pos} (h:jcz r l os es c=true):SE X C (.Compare l os es pos) c/\SB X C (.Compare l os es pos) c:=by
 unfold jcz at h;split at h
 ·simp only [wj,wI,w9] at h;obtain ⟨⟨⟨rfl,h2⟩,h3⟩,h4⟩:=h;exact ⟨jdy (qcd hu _) (hr _ _ h3) (hr _ _ h4) (jdL h2),zdz (qcd hu _) (hr _ _ h3) (hr _ _ h4) (jdL h2)⟩
 ·simp only [wj,wI] at h;obtain ⟨⟨⟨⟨⟨⟨rfl,rfl⟩,h2⟩,h2'⟩,h3⟩,h4⟩,h5⟩:=h;exact ⟨qdz (jaE hu (ja3 h2)) (jaE hu (ja3 h2')) (hr _ _ h3) (hr _ _ h4) (hr _ _ h5) (qcO h2' _),ydz (jaE hu (ja3 h2)) (jaE hu (ja3 h2')) (hr _ _ h3) (hr _ _ h4) (hr _ _ h5) (qcO h2' _)⟩
 ·cases h
theorem jda {i:Nat} {x:Str} {p pos:Pos} {e:Expr} {es:List Expr} {cs:Codes} (W:Glob G X C) (hi:G.fns[i]?=some x) (hg:Gl X x) (hd:(x==("__debug__":Str))=false) (ha:SA X C (e::es) cs) (hs:∀ a∈e::es,jU a=false):SE X C (.Call (.Name x p) (e::es) [] pos) (.call i cs):=λB ρ d ed=>by
 obtain ⟨ds,eds,ed⟩:=wa (show (evs C cs ρ).bind (λxs=>(C i xs).bind noE)=some d from ed);obtain ⟨d',ed2,hn⟩:=wa ed
 obtain ⟨rfl,hg'⟩:d'=d/\∀ g,d≠.grp g:=by
  cases d'<;>first | (cases hn;exact ⟨rfl,λ_ z=>by cases z⟩) | cases hn
 obtain ⟨k,f,fd,ps,F,hr,hm,hk,hb⟩:=W.fns i x hi;refine (jcU F hr hg hm hk hb .nil yd7 (ha B ρ ds eds) hd (qM (hs e (by simp))) (jaU λa h=>hs a (by simp [h]))).imp λσ H Q ⟨h1,h2,q⟩=>⟨h1,h2,λvs H1 sm r=>?_⟩
 show spD X.K C i (vs++[]) H1 Q E0;rw [List.append_nil];exact ⟨B,ds,d',h1.same sm,r,ed2,λ_ v H' s r'=>q v H' (sm.trans s) r',λ⟨g,z⟩=>absurd z (hg' g)⟩
end
theorem zS {env:Env} {k':NameKind} (hk:k'≠.free):∀ {names:List (Str×NameKind)} {x:Str},names.lookup x=some k' ->
  (names.map λ(n,k)=>if (k==NameKind.free&&env.scope.kind==.function&&env.kindOf n==some .cell) then (n,NameKind.cell) else (n,k)).lookup x=some k'
 | [],_,h=>by simp at h
 | (n,k)::r,x,h=>by
  rw [List.lookup_cons] at h;rw [List.map_cons];cases hx:x==n with
  | true =>
   rw [hx] at h;have ek:k=k':=wC h;subst ek
   have c:¬ (k==NameKind.free&&env.scope.kind==.function&&env.kindOf n==some .cell)=true:=by
    cases k<;>first | exact absurd rfl hk | simp
   show List.lookup x ((if _ then _ else _)::_)=_;rw [if_neg c,List.lookup_cons,hx]
  | false =>
   rw [hx] at h;have ih:=zS (env:=env) hk h
   by_cases c:(k==NameKind.free&&env.scope.kind==.function&&env.kindOf n==some .cell)=true
   ·show List.lookup x ((if _ then _ else _)::_)=_;rw [if_pos c,List.lookup_cons,hx];exact ih
   ·show List.lookup x ((if _ then _ else _)::_)=_;rw [if_neg c,List.lookup_cons,hx];exact ih
section
variable {g:Gam} {X:Cx} {C:Tab} {G:GTab}
theorem Glob.blk (W:Glob G X C) (N':List Str) (scope:Scope) (s₀:Shared) (H₀:Hp) (fp:List Addr):Glob G (blk X N' scope s₀ H₀ fp) C:=⟨W.calm,W.hx,W.hu,W.fns,W.blts,W.cons,W.txts,W.cls⟩
theorem Fit.blk {scope:Scope} {N':List Str} (hs:zbF g scope=true) (hn:N'.Nodup) (s₀:Shared) (H₀:Hp) (fp:List Addr):Fit ⟨N',scope.names⟩ (blk X N' scope s₀ H₀ fp):=by
 simp only [zbF,wj,List.all_eq_true,wI] at hs;refine ⟨rfl,hn,λx h=>?_,λx h=>?_,λx h=>?_,λx h=>?_⟩
 ·exact zS (env:=X.env) (by decide) h
 ·exact ⟨zS (env:=X.env) (by decide) h,by show (scope.names.lookup x==some .cell)=true;rw [show scope.names.lookup x=some .cell from h];rfl⟩
 ·exact jab (env:=X.env) h
 ·exact zS (env:=X.env) (by decide) h
theorem zdb (F:Fit g X) (hc:X.calm=true) {tg:Expr} {t:Tgt} (h:tgB g tg t=true):PG X tg (gT t)/\∀ i∈t.ixs,i<X.N.length:=by
 have pairs:∀ (es:List Expr) (is:List Nat),zdW g es is=true->(∀ e∈es.zip is,∃ x p,e.1=Expr.Name x p/\X.N[e.2]?=some x/\Loc X.env.scope x/\(X.fn x=true\/X.env.scope.names.lookup x=some .local))/\es.length=is.length/\∀ i∈is,i<X.N.length:=by
  intro es
  induction es with
  | nil =>
   intro is h;cases is with
   | nil=>exact ⟨λe he=>by simp at he,rfl,λi hi=>by simp at hi⟩
   | cons _ _=>cases h
  | cons e es ih =>
   intro is h;cases is with
   | nil=>cases e<;>cases h
   | cons i is =>
    cases e with
    | Name x p =>
     simp only [zdW,wj] at h;obtain ⟨h1,h2,h3⟩:=ih is h.2;have hsl:=F.slot h.1.1;have hlt:=(wu.mp hsl).1;refine ⟨λe he=>?_,by simp [h2],λj hj=>?_⟩
     ·rw [List.zip_cons_cons,wy] at he;rcases he with rfl | he
      ·exact ⟨x,p,rfl,hsl,F.locd h.1.2⟩
      ·exact h1 e he
     ·rcases wy.mp hj with rfl | hj
      ·exact hlt
      ·exact h3 j hj
    | _=>cases h
 cases tg with
 | Name x p =>
  cases t with
  | one i =>
   simp only [tgB,wj] at h;have hsl:=F.slot h.1;refine ⟨jdE F.nd hsl (F.locd h.2).1 (F.locd h.2).2,λj hj=>?_⟩
   have:j=i:=by simpa [Tgt.ixs] using hj
   rw [this];exact (wu.mp hsl).1
  | many is=>cases h
 | Tuple es k p =>
  cases t with
  | one i=>cases h
  | many is =>
   obtain ⟨h1,h2,h3⟩:=pairs es is h;exact ⟨qc1 hc F.nd h1 h2,h3⟩
 | _=>cases h
theorem zdM {t:Tgt} {n:Nat} (h:zd6 t n=true):∀ i∈t.ixs,i<n:=by
  cases t with
  | one i => intro j hj; have : j = i := by simpa [Tgt.ixs] using hj
             rw [this];simpa [zd6] using h
  | many is=>intro j hj;exact vk (List.all_eq_true.mp h j hj)
theorem qcC {e:Expr} (h:setB e=false) (env:Env) (x:Value):foldedSetIterable e env x=pure x:=by
 cases e<;>first | rfl | cases h
theorem zP {o:Expr} (h:qc4 o=false) (nm:Str) (env:Env) (w:Sem Value):attributeBase o nm env w=w:=by
 cases o<;>first | rfl | cases h
theorem qdM (F:Fit g X) (W:Glob G X C) {r:Expr->Code->Bool} (hr:∀ e c,r e c=true->SE X C e c) {tg it:Expr} {i:Iter} (h:okI r g tg it i=true):SI X C tg it i/\∀ x,foldedSetIterable it X.env x=pure x:=by
 unfold okI at h;rw [wj,w9] at h;obtain ⟨h0,h⟩:=h;refine ⟨?_,qcC h0 X.env⟩;cases i with
 | data c=>exact zc2 (hr it c h)
 | chr c=>exact qdL (hr it c h)
 | rng cs =>
  simp only at h;split at h
  ·rename_i y as hcn;obtain ⟨p,pos,rfl⟩:=yN hcn;simp only [wj,Bool.or_eq_true,vq,wI] at h;obtain ⟨⟨⟨⟨rfl,hg⟩,hl⟩,ha⟩,hA⟩:=h;obtain ⟨_,_,_,hst⟩:=zaI ha;have hm:=W.blts "range" (by decide)
   match as,cs,hA,hl,hst with
   | [a],.cons c .nil,hA,_,hst =>
    simp only [okA,Bool.and_true] at hA;exact qc2 (F.glob hg) hm (hr a c hA) (qM (hst a (by simp)))
   | [a],.nil,hA,_,_=>simp [okA] at hA
   | [a],.cons _ (.cons _ _),hA,_,_=>simp [okA] at hA
   | [a,b],.cons c (.cons d .nil),hA,_,hst =>
    simp only [okA,Bool.and_true,wj] at hA;exact yc2 (F.glob hg) hm (hr a c hA.1) (hr b d hA.2) (by rw [qM (hst a (by simp)),qM (hst b (by simp))];rfl) (qM (hst b (by simp)))
   | [a,b],.nil,hA,_,_=>simp [okA] at hA
   | [a,b],.cons _ .nil,hA,_,_=>simp [okA] at hA
   | [a,b],.cons _ (.cons _ (.cons _ _)),hA,_,_=>simp [okA] at hA
   | [],_,_,hl,_=>simp at hl
   | _::_::_::_,_,_,hl,_=>simp at hl
  ·cases h
 | enu c =>
  simp only [wj] at h;obtain ⟨ht,h⟩:=h;cases tg with
  | Tuple es k p =>
   split at h
   ·rename_i y as hcn;obtain ⟨p',pos,rfl⟩:=yN hcn;split at h
    ·rename_i a ha;cases jag ha;simp only [wj,vq,w9] at h;obtain ⟨⟨⟨rfl,hg⟩,hs⟩,hA⟩:=h;exact qdH (F.glob hg) (W.blts "enumerate" (by decide)) (hr _ _ hA) (qM hs)
    ·cases h
   ·cases h
  | _=>cases ht
 | zip c d =>
  simp only [wj] at h;obtain ⟨ht,h⟩:=h;cases tg with
  | Tuple es k p =>
   split at h
   ·rename_i y as hcn;obtain ⟨p',pos,rfl⟩:=yN hcn;split at h
    ·rename_i a b ha;cases ybF ha;simp only [wj,vq,w9] at h;obtain ⟨⟨⟨⟨⟨rfl,hg⟩,hs⟩,hs'⟩,hA⟩,hB⟩:=h;exact ydH (F.glob hg) (W.blts "zip" (by decide)) (hr _ _ hA) (hr _ _ hB) (by rw [qM hs,qM hs'];rfl) (qM hs')
    ·cases h
   ·cases h
  | _=>cases ht
 | vals c=>cases h
theorem ycd (F:Fit g X) (W:Glob G X C) {r t:RE} (hr:∀ g X,Fit g X->Glob G X C->(∀ e c,r g e c=true->SE X C e c)/\∀ e c,t g e c=true->SB X C e c)
  {elt tg it:Expr} {ifs:List Expr} {asy:Int} {scope:Scope} {c:Code} (h:okC r t g elt tg it ifs asy scope c=true) :
  asy=0/\∃ ce tt m keep i cc N',c=.comp ce tt m keep i cc/\CompS X C elt tg it ifs scope ce tt m keep cc N'/\SI X C tg it i:=by
 unfold okC at h;split at h
 ·rename_i ce tt m keep i cc;simp only [wj,vq,wI] at h;obtain ⟨⟨⟨⟨⟨⟨⟨⟨⟨h0,hsc⟩,hk⟩,hm⟩,hix⟩,hnd⟩,htg⟩,hI⟩,hE⟩,hT⟩:=h;have hI':=qdM F W (hr g X F W).1 hI;have Fb:=λs₀ H₀ fp=>Fit.blk (X:=X) hsc hnd s₀ H₀ fp
  have Wb:=λs₀ H₀ fp=>W.blk (yc4 g scope tg keep).N scope s₀ H₀ fp
  refine ⟨h0,ce,tt,m,keep,i,cc,(yc4 g scope tg keep).N,rfl,?_,hI'.1⟩;have hsc':=hsc;simp only [zbF,wj,List.all_eq_true,wI,Bool.or_eq_true,vq] at hsc';refine ⟨W.hx,W.calm,hsc'.1,λx hx hx'=>?_,λx hx hf=>?_,λx hx hl=>?_,?_,λk j hkj=>?_,zdM hix,hI'.2,λs₀ H₀ fp=>(zdb (Fb s₀ H₀ fp) W.calm htg).1,λs₀ H₀ fp=>(hr _ _ (Fb s₀ H₀ fp) (Wb s₀ H₀ fp)).1 elt ce hE,?_⟩
  ·rcases (hsc'.2 _ hx).1.1 with z | z
   ·exact z rfl
   ·rcases z _ hx' with y | y
    ·exact y rfl
    ·exact y rfl
  ·rcases (hsc'.2 x hx).1.2 with z | z | z
   ·exact absurd hf z
   ·exact .inl (F.cel _ z).1
   ·exact F.fre _ z
  ·rcases (hsc'.2 x hx).2 with z | z
   ·exact absurd hl z
   ·exact z
  ·simp [yc4,hm]
  ·have hj:=List.all_eq_true.mp hk j (wV hkj);cases hN:g.N[j]? with
   | none=>rw [hN] at hj;cases hj
   | some x =>
    rw [hN] at hj;simp only [wj,Bool.or_eq_true,vq] at hj;refine ⟨x,?_,by rw [F.N];exact hN,hj.1,?_⟩
    ·show (qca tg++keep.map λj=>(g.N[j]?).getD Str.empty)[m+k]?=some x;rw [<-hm,List.getElem?_append_right (Nat.le_add_right _ _),Nat.add_sub_cancel_left,wz,hkj];simp [hN]
    ·rcases hj.2 with z | z
     ·exact .inl (F.cel _ z).1
     ·exact F.fre _ z
  ·split at hT
   ·exact .inl ⟨rfl,rfl⟩
   ·rename_i e c';exact .inr ⟨e,c',rfl,rfl,λs₀ H₀ fp=>(hr _ _ (Fb s₀ H₀ fp) (Wb s₀ H₀ fp)).2 e c' hT⟩
   ·cases hT
 ·cases h
end
theorem qaI:bootBuiltins "tuple"=some (.type "tuple"):=by kernel_rfl
theorem qbi:bootBuiltins "int"=some (.type "int"):=by kernel_rfl
theorem jcd:bootBuiltins "str"=some (.type "str"):=by kernel_rfl
theorem zce:bootBuiltins "all"=some (.builtin "all"):=by kernel_rfl
theorem qce:bootBuiltins "min"=some (.builtin "min"):=by kernel_rfl
theorem ybi:bootBuiltins "isinstance"=some (.builtin "isinstance"):=by kernel_rfl
section
variable {g:Gam} {X:Cx} {C:Tab} {G:GTab}
theorem ycC {s:Expr} (h:jbE s=false):qbo s:=λo i=>by cases s<;>first | rfl | cases h
theorem yce (F:Fit g X) {r:Expr->Code->Bool} (hr:∀ e c,r e c=true->SE X C e c) {args:List Expr} {cs:Codes} (h:yca r g args cs=true):∃ a c p pos,args=[.Call (.Name "set" p) [a] [] pos]/\cs=.cons c .nil/\Gl X "set"/\starEach [a] X.env=[(false,eval a X.env)]/\SE X C a c:=by
 unfold yca at h;split at h
 ·rename_i y as hc;obtain ⟨p,q,rfl⟩:=qbF hc;split at h
  ·rename_i a ha;cases jag ha;split at h
   ·simp only [wj,vq,w9] at h;obtain ⟨⟨⟨rfl,hg⟩,hs⟩,hA⟩:=h;exact ⟨_,_,_,_,rfl,rfl,F.glob hg,qM hs,hr _ _ hA⟩
   ·cases h
  ·cases h
 ·cases h
theorem jce (F:Fit g X) {r:Expr->Code->Bool} (hr:∀ e c,r e c=true->SE X C e c) {args:List Expr} {cs:Codes} (h:jca r g args cs=true):∃ e es p pos,args=[.Call (.Name "range" p) (e::es) [] pos]/\Gl X "range"/\(∀ a∈e::es,jU a=false)/\SA X C (e::es) cs:=by
 unfold jca at h;split at h
 ·rename_i y as hc;obtain ⟨p,q,rfl⟩:=qbF hc;simp only [wj,vq] at h;obtain ⟨⟨⟨rfl,hg⟩,ha⟩,hA⟩:=h;obtain ⟨a,as,rfl,hst⟩:=zaI ha;exact ⟨_,_,_,_,rfl,F.glob hg,hst,zbi hr hst hA⟩
 ·cases h
theorem jcO (F:Fit g X) (W:Glob G X C) {b:Blt} {x:Str} {e:Expr} {es:List Expr} {cs:Codes} {p pos:Pos} (hb:jej b=some x) (hg:zaN g x=true) (hst:∀ a∈e::es,jU a=false) (hA:SA X C (e::es) cs) :
  SE X C (.Call (.Name x p) (e::es) [] pos) (.blt b cs)/\(b=.list->SF X C (.Call (.Name x p) (e::es) [] pos) (.blt b cs)):=by
 have s1:=qM (env:=X.env) (es:=es) (hst e (by simp));have s2:=jaU (env:=X.env) (pos:=pos) (es:=es) λa h=>hst a (by simp [h])
 cases b with
 | len=>cases hb;exact ⟨qa1 qb6 (F.glob hg) (W.blts _ (by decide)) zbg hA (by decide) (by decide) s1 s2,λz=>by cases z⟩
 | list=>cases hb;exact ⟨jaz zaS (F.glob hg) (W.blts _ (by decide)) yar hA (by decide) (by decide) s1 s2,λ_=>ycx zaS (F.glob hg) (W.blts _ (by decide)) yar hA (by decide) (by decide) s1 s2⟩
 | tuple=>cases hb;exact ⟨jaz ybp (F.glob hg) (W.blts _ (by decide)) qaI hA (by decide) (by decide) s1 s2,λz=>by cases z⟩
 | int=>cases hb;exact ⟨jaz yb6 (F.glob hg) (W.blts _ (by decide)) qbi hA (by decide) (by decide) s1 s2,λz=>by cases z⟩
 | str=>cases hb;exact ⟨jaz jb6 (F.glob hg) (W.blts _ (by decide)) jcd hA (by decide) (by decide) s1 s2,λz=>by cases z⟩
 | all=>cases hb;exact ⟨qa1 (zca W.calm) (F.glob hg) (W.blts _ (by decide)) zce hA (by decide) (by decide) s1 s2,λz=>by cases z⟩
 | any=>cases hb
 | sum=>cases hb
 | min=>cases hb;exact ⟨qa1 (zcc W.calm W.hu) (F.glob hg) (W.blts _ (by decide)) qce hA (by decide) (by decide) s1 s2,λz=>by cases z⟩
 | sorted=>cases hb
 | max=>cases hb
 | _=>cases hb
theorem ydM (t:Ty):tyS t∈bltL:=by cases t<;>decide
theorem jdM {r:Expr->Code->Bool} (hr:∀ e c,r e c=true->SE X C e c) {e:Option Expr} {c:OCode} (h:okO r e c=true):SO X C e c:=by
 unfold okO at h;split at h
 ·exact zc6
 ·exact qc6 (hr _ _ h)
 ·cases h
theorem call_of (F:Fit g X) (W:Glob G X C) {r:Expr->Code->Bool} (hr:∀ e c,r e c=true->SE X C e c) {x:Str} {args:List Expr} {c:Code} {p pos:Pos} (h:zcb G r g x args c=true):SE X C (.Call (.Name x p) args [] pos) c:=by
 unfold zcb at h;rw [wj,wj] at h;obtain ⟨⟨hg,hp⟩,h⟩:=h;split at h
 ·simp only [wj,vq] at h;obtain ⟨a,as,rfl,hst⟩:=zaI h.1.2;exact jda W h.1.1 (F.glob hg) (qH hp).1 (zbi hr hst h.2) hst
 ·simp only [wj,vq] at h;obtain ⟨rfl,h⟩:=h;obtain ⟨a,c,p',pos',rfl,rfl,h1,h2,h3⟩:=yce F hr h;exact qb9 W.calm h1 (W.blts _ (by decide)) (F.glob hg) (W.blts _ (by decide)) h3 h2
 ·simp only [wj,vq] at h;obtain ⟨rfl,h⟩:=h;obtain ⟨a,c,p',pos',rfl,rfl,h1,h2,h3⟩:=yce F hr h;exact ybg W.calm h1 (W.blts _ (by decide)) (F.glob hg) (W.blts _ (by decide)) h3 h2
 ·simp only [wj,vq] at h;obtain ⟨a,as,rfl,hst⟩:=zaI h.1.2;exact (jcO F W h.1.1 hg hst (zbi hr hst h.2)).1
 ·simp only [wj,vq] at h;obtain ⟨rfl,h⟩:=h;obtain ⟨e,es,p',pos',rfl,h1,h2,h3⟩:=jce F hr h;have sf:=jaT (p1:=p) (pos1:=pos) (p2:=p') (pos2:=pos') W.calm h1 (W.blts _ (by decide)) (F.glob hg) (W.blts _ (by decide)) h3 (qM (h2 e (by simp))) (jaU λa h=>h2 a (by simp [h]));intro B ρ d ed
  have:∃ ds,d=.lst ds:=by
   obtain ⟨ds',hd,ed⟩:=wa (show (evI C (.rng _) ρ).bind (λds=>some (D.lst ds))=some d from ed);exact ⟨ds',(wC ed).symm⟩
  obtain ⟨ds,rfl⟩:=this;exact sf.se B ρ ds ed
 ·simp only [wj,vq] at h;obtain ⟨rfl,h⟩:=h;obtain ⟨e,es,p',pos',rfl,h1,h2,h3⟩:=jce F hr h;exact qbr W.calm h1 (W.blts _ (by decide)) (F.glob hg) (W.blts _ (by decide)) qaI h3 (qM (h2 e (by simp))) (jaU λa h=>h2 a (by simp [h]))
 ·simp only [wj,vq] at h;obtain ⟨rfl,h⟩:=h;unfold qdI at h;split at h
  ·simp only [wj,vq,w9] at h;obtain ⟨⟨⟨rfl,hy⟩,hs⟩,hA⟩:=h;exact qdK (F.glob hg) (W.blts _ (by decide)) ybi (F.glob hy) (W.blts _ (ydM _)) (hr _ _ hA) hs
  ·cases h
 ·cases h
theorem qd8 (F:Fit g X) (W:Glob G X C) {r:Expr->Code->Bool} (hE:∀ e c,r e c=true->SE X C e c) {f:Expr} {args:List Expr} {kws:List Keyword} {cpos:Pos} {c:Code} (h:qd6 G r g f args kws cpos.line c=true):SE X C (.Call f args kws cpos) c:=by
 unfold qd6 at h;split at h
 ·split at h
  ·exact call_of F W hE h
  ·cases h
 ·split at h
  ·split at h
   ·unfold zek at h;split at h
    ·rw [wj] at h;obtain ⟨h0,h⟩:=h;simp only [wj,vq,w9] at h;obtain ⟨⟨⟨⟨h1,h2⟩,h3⟩,h4⟩,h5⟩:=h;split at h0
     ·rw [vq] at h0;subst h0;exact zc1 (hE _ _ h4) (hE _ _ h5) (zP h1 _ _ _) (by simpa using h3) (qM h2)
     ·rw [vq] at h0;subst h0;exact qcB (hE _ _ h4) (hE _ _ h5) (zP h1 _ _ _) (by simpa using h3) (qM h2)
     ·rw [vq] at h0;subst h0;exact zc8 (hE _ _ h4) (hE _ _ h5) (zP h1 _ _ _) (by simpa using h3) (qM h2)
     ·rw [vq] at h0;subst h0;exact qc8 (hE _ _ h4) (hE _ _ h5) (zP h1 _ _ _) (by simpa using h3) (qM h2)
     ·rw [vq] at h0;subst h0;exact jc8 (hE _ _ h4) (hE _ _ h5) (zP h1 _ _ _) (by simpa using h3) (qM h2)
     ·rw [vq] at h0;subst h0;exact yc8 (hE _ _ h4) (hE _ _ h5) (zP h1 _ _ _) (by simpa using h3) (qM h2)
     ·cases h0
    ·cases h
   ·cases h
  ·cases h
 ·cases h
theorem jcC (F:Fit g X) (W:Glob G X C) {r t:RE} (hr:∀ g X,Fit g X->Glob G X C->(∀ e c,r g e c=true->SE X C e c)/\∀ e c,t g e c=true->SB X C e c) {e:Expr} {c:Code} (h:qc5 G r t g e c=true):SE X C e c:=by
 have hE:=(hr g X F W).1;have hT:=(hr g X F W).2;unfold qc5 at h;split at h
 ·-- a constant
  split at h
  ·unfold qcN at h;split at h
   ·exact qdx
   ·have:=eq_of_beq h;subst this;exact jd4
   ·have:=eq_of_beq h;subst this;exact zdx
   ·have:=eq_of_beq h;subst this;exact ydx
   ·cases h
  ·cases h
 ·-- a name
  rw [wj] at h;obtain ⟨hp,h⟩:=h;unfold yek at h;split at h
  ·rw [wj] at h;exact jdx (F.slot h.1) (F.vis h.2) (qH hp).1 (qH hp).2
  ·rw [wj,vq] at h;obtain ⟨tk,hm⟩:=W.cons _ _ h.2;exact jb4 (v:=.int _) (F.glob h.1) hm ⟨tk,rfl⟩ (λ_ _=>.int _) (qH hp).1
  ·rw [wj,vq] at h;obtain ⟨tk,hm⟩:=W.txts _ _ h.2;exact jb4 (v:=.str _) (F.glob h.1) hm ⟨tk,rfl⟩ (λ_ _=>.str _) (qH hp).1
  ·cases h
 ·split at h
  ·simp only [wj,wI] at h;obtain ⟨⟨rfl,h1⟩,h2⟩:=h;exact zdy (zb6 _) (hE _ _ h1) (hE _ _ h2)
  ·cases h
 ·split at h
  ·split at h
   ·exact ydy (hE _ _ h)
   ·cases h
  ·split at h
   ·exact zdA (hE _ _ h)
   ·cases h
  ·cases h
 ·exact qda hE h
 ·exact (ycO hE W.hu h).1
 ·split at h
  ·simp only [wj,List.all_eq_true,w9] at h;exact zdB (zbi hE h.1 h.2)
  ·cases h
 ·split at h
  ·simp only [wj,List.all_eq_true,w9] at h;exact qdB (zbi hE h.1 h.2)
  ·cases h
 ·unfold qek at h;split at h
  ·simp only [wj,w9] at h;exact ydE (hE _ _ h.1.2) (hE _ _ h.2) (ycC h.1.1)
  ·split at h
   ·simp only [wj] at h;exact qdJ (hE _ _ h.1.1) (jdM hE h.1.2) (jdM hE h.2)
   ·cases h
  ·split at h
   ·simp only [wj] at h;exact ydJ (hE _ _ h.1) (hE _ _ h.2)
   ·cases h
  ·cases h
 ·split at h
  ·obtain ⟨rfl,ce,tt,m,keep,i,cc,N',rfl,S,hi⟩:=ycd F W hr h;exact jc1 S hi
  ·cases h
 ·exact qd8 F W hE h
 ·cases h
theorem zcD (F:Fit g X) (W:Glob G X C) {r t:RE} (hr:∀ g X,Fit g X->Glob G X C->(∀ e c,r g e c=true->SE X C e c)/\∀ e c,t g e c=true->SB X C e c) {e:Expr} {c:Code} (h:stepT G r t g e c=true):SB X C e c:=by
 have hE:=(hr g X F W).1;have hT:=(hr g X F W).2;unfold stepT at h;split at h
 ·split at h
  ·exact jdz (hT _ _ h)
  ·cases h
 ·exact λB ρ d k e1 e2=>(yda hT h B ρ d k e1 e2).pt
 ·cases h
 ·exact (ycO hE W.hu h).2
 ·rename_i n1 n2 n3 n4;refine zd5 (hE _ _ h) λwhole=>?_
  cases e with
  | UnaryOp op a p =>
   cases op with
   | Not=>exact absurd rfl (n1 _ _)
   | _=>rfl
  | BoolOp op es p=>exact absurd rfl (n2 _ _ _)
  | IfExp a b c p=>exact absurd rfl (n3 _ _ _ _)
  | Compare a b c p=>exact absurd rfl (n4 _ _ _ _)
  | _=>rfl
theorem qaA (G:GTab) (C:Tab):∀ (n:Nat) (g:Gam) (X:Cx),Fit g X->Glob G X C->(∀ e c,(ok G n).1 g e c=true->SE X C e c)/\∀ e c,(ok G n).2 g e c=true->SB X C e c
 | 0,_,_,_,_=>⟨λ_ _ h=>(by cases h),λ_ _ h=>(by cases h)⟩
 | n+1,g,X,F,W=>⟨λe c h=>jcC F W (qaA G C n) h,λe c h=>zcD F W (qaA G C n) h⟩
end
noncomputable def zel (r:Expr->Code->Bool) (g:Gam) (x:Str) (args:List Expr) (c:Code):Bool:=match c with
 | .blt .list cs=>x==("list":Str)&&zaN g x&&ybr args&&okA r args cs
 | .blt .sortedSet cs=>x==("sorted":Str)&&zaN g x&&yca r g args cs
 | .ofi .list (.rng cs)=>x==("list":Str)&&zaN g x&&jca r g args cs
 | _=>false
noncomputable def spC:Code->Option (Code×Code)
 | .blt .split (.cons x (.cons y .nil))=>some (x,y)
 | _=>none
theorem zdN {c x y:Code} (h:spC c=some (x,y)):c=.blt .split (.cons x (.cons y .nil)):=by
 unfold spC at h;split at h
 ·cases h;rfl
 ·cases h
noncomputable def qel (r:Expr->Code->Bool) (f:Expr) (args:List Expr) (kws:List Keyword) (l:Nat) (c:Code):Bool:=match f with
 | .Attribute o nm apos=>kws.isEmpty&&(match one? args,spC c with
  | some b,some (x,y)=>nm==("split":Str)&&!qc4 o&&!jU b&&apos.endLine==l&&r o x&&r b y
  | _,_=>false)
 | _=>false
noncomputable def yd8 (r:Expr->Code->Bool) (g:Gam) (e:Expr) (c:Code):Bool:=match yaG e with
 | some (x,args)=>zel r g x args c
 | none=>(match e with
  | .List es _=>(match c with | .lst cs=>es.all (λe=>!jU e)&&okA r es cs | _=>false)
  | .BinOp l o rr _=>(match c with | .bin op a b=>decide (o=op)&&r l a&&r rr b | _=>false)
  | .Call f args kws cpos=>qel r f args kws cpos.line c
  | _=>false)
noncomputable def zcf (r t:RE) (g:Gam) (tg e:Expr) (m:Mode) (tt:Tgt) (c:Code):Bool:=tgB g tg tt&&match e with
 | .ListComp elt [⟨tg',it,ifs,asy⟩] scope _=>(match tg with | .Name ..=>okC r t g elt tg' it ifs asy scope c | _=>false)
 | e=>!ybf e&&(match m with
  | .ow=>(match tg with | .Name ..=>yd8 (r g) g e c | _=>false)
  | _=>(match tg with | .Name ..=>r g e c | _=>!zdl e&&r g e c))
noncomputable def yel (r:Expr->Code->Bool) (v:Option Expr) (c:Code):Bool:=match v with
 | some e=>r e c
 | none=>(match c with | .cst .non=>true | _=>false)
noncomputable def jbs (e:Expr):Option Str:=match e with
 | .Name x _=>some x
 | _=>none
theorem jam {e:Expr} {x:Str} (h:jbs e=some x):∃ p,e=.Name x p:=by
 unfold jbs at h;split at h
 ·cases h;exact ⟨_,rfl⟩
 ·cases h
noncomputable def jd8 (r t:RE) (g:Gam) (tg e:Expr) (s:Stm):Bool:=match s with
 | .set m tt c=>zcf r t g tg e m tt c
 | .put i ck ce=>(match tg with | .Subscript o ix _=>(match jbs o with | some x=>qbh g i x&&jdH g x&&jav x&&!jbE ix&&r g ix ck&&r g e ce | none=>false) | _=>false)
 | _=>false
noncomputable def jel (r:Expr->Code->Bool) (g:Gam) (x nm:Str) (l l':Nat) (e:Expr) (s:Stm):Bool:=match s with
 | .app i m c=>nm==("append":Str)&&qbh g i x&&jdH g x&&jav x&&!jU e&&l==l'&&r e c
 | _=>false
noncomputable def zd9 (r:Expr->Code->Bool) (g:Gam) (e:Expr) (s:Stm):Bool:=match e with
 | .Call f args kws cpos=>kws.isEmpty&&(match f with
  | .Attribute o nm apos=>(match args with
   | [e]=>(match o with
    | .Name x _=>jel r g x nm apos.endLine cpos.line e s
    | _=>false)
   | _=>false)
  | _=>false)
 | _=>false
noncomputable def jdW (e:Expr):Option (Expr×Expr):=match e with
 | .Subscript v s _=>some (v,s)
 | _=>none
theorem qdb {e v s:Expr} (h:jdW e=some (v,s)):∃ p,e=.Subscript v s p:=by
 unfold jdW at h;split at h
 ·cases h;exact ⟨_,rfl⟩
 ·cases h
noncomputable def qd9 (e:Expr):Option (List Expr):=match e with
 | .BoolOp op es _=>(match op with | .And=>some es | _=>none)
 | _=>none
theorem ydb {e:Expr} {es:List Expr} (h:qd9 e=some es):∃ p,e=.BoolOp .And es p:=by
 unfold qd9 at h;split at h
 ·split at h
  ·cases h;exact ⟨_,rfl⟩
  ·cases h
 ·cases h
noncomputable def zdX (en y:Str) (e:Expr):Bool:=match yaG e with
 | some (f,as)=>(match qdl as with | some (a,b)=>f==("isinstance":Str)&&jbs a==some en&&jbs b==some y | none=>false)
 | none=>false
theorem qcf {en y:Str} {e:Expr} (h:zdX en y e=true):∃ q1 q2 q3 q4,e=.Call (.Name "isinstance" q1) [.Name en q2,.Name y q3] [] q4:=by
 unfold zdX at h;split at h
 ·rename_i hc;split at h
  ·rename_i ht;obtain ⟨p,q,rfl⟩:=yN hc;cases ybF ht;simp only [wj,vq] at h;obtain ⟨⟨rfl,h1⟩,h2⟩:=h;obtain ⟨p1,rfl⟩:=jam h1;obtain ⟨p2,rfl⟩:=jam h2;exact ⟨_,_,_,_,rfl⟩
  ·cases h
 ·cases h
noncomputable def hxN (e:Expr):Option (Expr×Expr×Str×Expr×Expr):=(jdW e).bind λvs=>(yd6 vs.1).bind λl=>(yaG vs.2).bind λfa=>(qdl l).bind λab=>(one? fa.2).bind λc=>(qd9 c).bind λl2=>(qdl l2).map λpq=>(ab.1,ab.2,fa.1,pq.1,pq.2)
noncomputable def hxB (en:Str) (e:Expr):Bool:=match hxN e with
 | some (a,b,f,p,q)=>zc5 a&&jd6 b&&f==("int":Str)&&zdX en "TableError" p&&zdX en "ValueError" q
 | none=>false
theorem qcD {e:Expr} (h:zc5 e=true):∃ k p,e=.Constant (.int 0) k p:=by
 unfold zc5 at h;split at h
 ·rename_i w;rw [vq] at h;subst h;exact jbr w
 ·cases h
theorem jdb {e:Expr} (h:jd6 e=true):∃ k p,e=.Constant .none k p:=by
 unfold jd6 at h;split at h
 ·rename_i w;exact jbr w
 ·cases h
theorem qdN {en:Str} {e:Expr} (h:hxB en e=true):∃ k1 p1 k2 p2 lp ip q1 q2 q3 q4 q5 q6 q7 q8 bp cp sp,e=.Subscript (.List [.Constant (.int 0) k1 p1,.Constant .none k2 p2] lp) (.Call (.Name "int" ip) [.BoolOp .And [.Call (.Name "isinstance" q1) [.Name en q2,.Name "TableError" q3] [] q4,.Call (.Name "isinstance" q5) [.Name en q6,.Name "ValueError" q7] [] q8] bp] [] cp) sp:=by
 unfold hxB at h;split at h
 ·rename_i a b f p q hx;obtain ⟨vs,h1,hx⟩:=wa (show (jdW e).bind _=_ from hx);obtain ⟨l,h2,hx⟩:=wa hx;obtain ⟨fa,h3,hx⟩:=wa hx;obtain ⟨ab,h4,hx⟩:=wa hx;obtain ⟨c,h5,hx⟩:=wa hx;obtain ⟨l2,h6,hx⟩:=wa hx;obtain ⟨pq,h7,hx⟩:=wb hx;cases hx;simp only [wj,vq] at h;obtain ⟨⟨⟨⟨g1,g2⟩,g3⟩,g4⟩,g5⟩:=h;obtain ⟨sp,rfl⟩:=qdb (v:=vs.1) (s:=vs.2) h1;obtain ⟨lp,e2⟩:=jc4 h2;obtain ⟨ip,cp,e3⟩:=yN (y:=fa.1) (as:=fa.2) h3;obtain ⟨bp,e6⟩:=ydb h6;have e4:=ybF (a:=ab.1) (b:=ab.2) h4;have e5:=jag h5;have e7:=ybF (a:=pq.1) (b:=pq.2) h7;obtain ⟨k1,p1,z1⟩:=qcD g1;obtain ⟨k2,p2,z2⟩:=jdb g2;obtain ⟨_,_,_,_,z3⟩:=qcf g4;obtain ⟨_,_,_,_,z4⟩:=qcf g5;rw [e2,e3,e4,e5,e6,e7,z1,z2,z3,z4,g3];exact ⟨_,_,_,_,_,_,_,_,_,_,_,_,_,_,_,_,_,rfl⟩
 ·cases h
noncomputable def yd9 (st:Stmt):Option Expr:=match st with
 | .Return v _=>v
 | _=>none
theorem zdc {st:Stmt} {e:Expr} (h:yd9 st=some e):∃ p,st=.Return (some e) p:=by
 unfold yd9 at h;split at h
 ·exact ⟨_,by rw [h]⟩
 ·cases h
noncomputable def jd9 (st:Stmt):Option (List Expr×Expr):=match st with
 | .Assign tgs e _=>some (tgs,e)
 | _=>none
theorem qdc {st:Stmt} {l:List Expr} {e:Expr} (h:jd9 st=some (l,e)):∃ p,st=.Assign l e p:=by
 unfold jd9 at h;split at h
 ·cases h;exact ⟨_,rfl⟩
 ·cases h
noncomputable def zea (hs:List ExceptHandler):Option (Expr×Str×Expr):=match hs with
 | [.ExceptHandler ty nm body _]=>ty.bind λt=>nm.bind λn=>(one? body).bind λr=>(yd9 r).map λe=>(t,n,e)
 | _=>none
theorem ydc {hs:List ExceptHandler} {t e:Expr} {n:Str} (h:zea hs=some (t,n,e)):∃ rp hp,hs=[.ExceptHandler (some t) (some n) [.Return (some e) rp] hp]:=by
 unfold zea at h;split at h
 ·obtain ⟨t',ht,h1⟩:=wa h;obtain ⟨n',hn,h2⟩:=wa h1;obtain ⟨r,hr,h3⟩:=wa h2;obtain ⟨e',he,h4⟩:=wb h3;cases h4;obtain ⟨rp,e1⟩:=zdc he;rw [ht,hn,jag hr,e1];exact ⟨_,_,rfl⟩
 ·cases h
noncomputable def trN (body:List Stmt):Option (Str×Str×Expr):=(one? body).bind λst=>(jd9 st).bind λte=>(one? te.1).bind λtg=>(jbs tg).bind λx=>(yaG te.2).bind λfa=>(one? fa.2).map λa=>(x,fa.1,a)
theorem ydN {body:List Stmt} {x f:Str} {a:Expr} (h:trN body=some (x,f,a)):∃ px p cp ap,body=[.Assign [.Name x px] (.Call (.Name f p) [a] [] cp) ap]:=by
 obtain ⟨st,h1,h⟩:=wa h;obtain ⟨te,h2,h⟩:=wa h;obtain ⟨tg,h3,h⟩:=wa h;obtain ⟨y,h4,h⟩:=wa h;obtain ⟨fa,h5,h⟩:=wa h;obtain ⟨b,h6,h⟩:=wb h;cases h;obtain ⟨ap,e2⟩:=qdc (l:=te.1) (e:=te.2) h2;obtain ⟨px,e4⟩:=jam h4;obtain ⟨p,cp,e5⟩:=yN (y:=fa.1) (as:=fa.2) h5;rw [jag h1,e2,jag h3,e4,e5,jag h6];exact ⟨_,_,_,_,rfl⟩
noncomputable def jdc (G:GTab) (r:Expr->Code->Bool) (g:Gam) (body:List Stmt) (hs:List ExceptHandler) (i f:Nat) (c:Code):Bool:=match trN body,zea hs with
 | some (x,fn,a),some (t,en,e)=>qbh g i x&&zdI g x&&G.fns[f]?==some fn&&zaN g fn&&jav fn&&!jU a&&r a c&&jbs t==some ("NoText":Str)&&g.N.contains en&&zai g en==some .local&&jav en&&hxB en e
  && zaN g "NoText"&&zaN g "TableError"&&zaN g "ValueError"&&zaN g "int"&&zaN g "isinstance"
 | _,_=>false
noncomputable def qea (st:Stmt):Option Expr:=match st with
 | .Raise e c _=>(match c with | none=>e | some _=>none)
 | _=>none
theorem zdd {st:Stmt} {e:Expr} (h:qea st=some e):∃ p,st=.Raise (some e) none p:=by
 unfold qea at h;split at h
 ·split at h
  ·exact ⟨_,by rw [h]⟩
  ·cases h
 ·cases h
noncomputable def yea (sts:List Stmt):Bool:=match (one? sts).bind qea with
 | some e=>(match yaG e with
  | some (x,as)=>x==("NoText":Str)&&(match (one? as).bind ydI with | some (.str _)=>true | _=>false)
  | none=>false)
 | none=>false
theorem qdd {sts:List Stmt} (h:yea sts=true):∃ np m k p cpos rp,sts=[.Raise (some (.Call (.Name "NoText" np) [.Constant (.str m) k p] [] cpos)) none rp]:=by
 unfold yea at h;split at h
 ·rename_i e he;obtain ⟨st,h1,h2⟩:=wa he;split at h
  ·rename_i x as hc;rw [wj,vq] at h;obtain ⟨rfl,h⟩:=h;split at h
   ·rename_i m hm;obtain ⟨a,h3,h4⟩:=wa hm;obtain ⟨rp,e1⟩:=zdd h2;obtain ⟨np,cp,e2⟩:=yN hc;obtain ⟨k,p,e3⟩:=jbr h4;rw [jag h1,e1,e2,jag h3,e3];exact ⟨_,_,_,_,_,_,rfl⟩
   ·cases h
  ·cases h
 ·cases h
noncomputable def ydd (G:GTab) (r t:RE) (b:List Stmt->Stms->Bool) (g:Gam) (st:Stmt) (s:Stm):Bool:=match st with
 | .Return v _=>(match s with | .ret c=>yel (r g) v c | _=>false)
 | .Pass _=>(match s with | .pas=>true | _=>false)
 | .If e x y _=>(match s with | .ite c sx sy=>t g e c&&b x sx&&b y sy | _=>false)
 | .For tg it body els _=>els.isEmpty&&(match s with | .for tt i bb=>tgB g tg tt&&okI (r g) g tg it i&&b body bb | _=>false)
 | .Assign tgs e _=>(match tgs with | [tg]=>jd8 r t g tg e s | _=>false)
 | .Expr e _=>zd9 (r g) g e s
 | .Try body hs els fin _=>(match s with | .tryr i f c=>els.isEmpty&&fin.isEmpty&&jdc G (r g) g body hs i f c | _=>false)
 | _=>false
noncomputable def oks (G:GTab) (r t:RE) (g:Gam):Nat->List Stmt->Stms->Bool
 | 0,_,_=>false
 | n+1,sts,s=>match s with
  | .nil=>sts.isEmpty
  | .frz _ q=>oks G r t g n sts q
  | .cons a q=>(match sts with | st::rest=>ydd G r t (oks G r t g n) g st a&&oks G r t g n rest q | []=>false)
  | .rsg c q=>(match sts with | .If e x y _::rest=>y.isEmpty&&yea x&&zaN g "NoText"&&t g e c&&oks G r t g n rest q | _=>false)
section
variable {g:Gam} {X:Cx} {C:Tab} {G:GTab}
theorem zbt:bootBuiltins "ValueError"=some (.type "ValueError"):=by kernel_rfl
theorem jea (F:Fit g X) (W:Glob G X C) {r:Expr->Code->Bool} (hr:∀ e c,r e c=true->SE X C e c) {e:Expr} {c:Code} (h:yd8 r g e c=true):SF X C e c:=by
 unfold yd8 at h;split at h
 ·rename_i x args hc;obtain ⟨p,q,rfl⟩:=yN hc;unfold zel at h;split at h
  ·simp only [wj,vq] at h;obtain ⟨⟨⟨rfl,hg⟩,ha⟩,hA⟩:=h;obtain ⟨a,as,rfl,hst⟩:=zaI ha;exact (jcO F W (b:=.list) rfl hg hst (zbi hr hst hA)).2 rfl
  ·simp only [wj,vq] at h;obtain ⟨⟨rfl,hg⟩,hA⟩:=h;obtain ⟨a,c,p',pos',rfl,rfl,h1,h2,h3⟩:=yce F hr hA;exact yav W.calm h1 (W.blts _ (by decide)) (F.glob hg) (W.blts _ (by decide)) h3 h2
  ·simp only [wj,vq] at h;obtain ⟨⟨rfl,hg⟩,hA⟩:=h;obtain ⟨e,es,p',pos',rfl,h1,h2,h3⟩:=jce F hr hA;exact jaT W.calm h1 (W.blts _ (by decide)) (F.glob hg) (W.blts _ (by decide)) h3 (qM (h2 e (by simp))) (jaU λa h=>h2 a (by simp [h]))
  ·cases h
 ·split at h
  ·split at h
   ·simp only [wj,List.all_eq_true,w9] at h;exact zcM (zbi hr h.1 h.2)
   ·cases h
  ·split at h
   ·simp only [wj,wI] at h;obtain ⟨⟨rfl,h1⟩,h2⟩:=h;exact qdy (zb6 _) (hr _ _ h1) (hr _ _ h2)
   ·cases h
  ·unfold qel at h;split at h
   ·rw [wj,List.isEmpty_iff] at h;obtain ⟨rfl,h⟩:=h;split at h
    ·rename_i ho hs;cases jag ho;cases zdN hs;simp only [wj,vq,w9] at h;obtain ⟨⟨⟨⟨⟨rfl,h1⟩,h2⟩,h3⟩,h4⟩,h5⟩:=h;exact zcC (hr _ _ h4) (hr _ _ h5) (zP h1 _ _ _) (by simpa using h3) (qM h2)
    ·cases h
   ·cases h
  ·cases h
theorem jdd {tg e:Expr} (h:ybf e=false) (n:Nat) (env:Env):swapsWithSole [tg] e n env=pure false:=qbD h _ _ _
theorem zde {e:Expr} (h:zdl e=false) (env:Env):∀ es k p,swappedStores [.Tuple es k p] e env=pure none:=by
 intro es k p;cases e<;>first | rfl | cases h
theorem qde (F:Fit g X) (W:Glob G X C) {r t:RE} (hr:∀ g X,Fit g X->Glob G X C->(∀ e c,r g e c=true->SE X C e c)/\∀ e c,t g e c=true->SB X C e c) {tg e:Expr} {m:Mode} {tt:Tgt} {c:Code} {pos:Pos}
  (h:zcf r t g tg e m tt c=true):SS X C (.Assign [tg] e pos) (.set m tt c):=by
 have hE:=(hr g X F W).1;unfold zcf at h;rw [wj] at h;obtain ⟨htg,h⟩:=h;obtain ⟨hpg,hix⟩:=zdb F W.calm htg;split at h
 ·split at h
  ·rename_i x p;obtain ⟨rfl,ce,tt',m',keep,i,cc,N',rfl,S,hi⟩:=ycd F W hr h;cases tt with
   | many is=>cases htg
   | one j =>
    simp only [tgB,wj] at htg;have hsl:=F.slot htg.1;obtain ⟨hl,hf⟩:=F.locd htg.2;cases m with
    | pu=>exact zdG (ybD S hi F.nd hsl hl hf) hix
    | cl=>exact qdG (ybD S hi F.nd hsl hl hf) hix
    | ow=>exact ydG (zcz S hi F.nd hsl hl hf) (hix j (by simp [Tgt.ixs]))
  ·cases h
 ·rw [wj,w9] at h;obtain ⟨hnc,h⟩:=h
  have plain:r g e c=true->(zdl tg=true->zdl e=false)->SAs X C tg e pos tt c:=λhrc hte=>by
   cases tg with
   | Name x p =>
    cases tt with
    | many is=>cases htg
    | one j =>
     simp only [tgB,wj] at htg;obtain ⟨hl,hf⟩:=F.locd htg.2;exact ycy (hE _ _ hrc) hnc F.nd (F.slot htg.1) hl hf
   | Tuple es k p=>exact λB ρ d ed=>qcK (hE _ _ hrc B ρ d ed) hpg (jdd hnc _ _) (zde (hte rfl) _ _ _ _) rfl
   | _=>cases tt<;>cases htg
  split at h
  ·split at h
   ·cases tt with
    | many is=>cases htg
    | one j =>
     simp only [tgB,wj] at htg;obtain ⟨hl,hf⟩:=F.locd htg.2;exact ydG (jcy (jea F W hE h) hnc F.nd (F.slot htg.1) hl hf) (hix j (by simp [Tgt.ixs]))
   ·cases h
  ·rename_i hm
   have sas:SAs X C tg e pos tt c:=by
    split at h
    ·exact plain h λz=>by cases z
    ·rw [wj,w9] at h;exact plain h.2 λ_=>h.1
   cases m with
   | pu=>exact zdG sas hix
   | cl=>exact qdG sas hix
   | ow=>exact absurd rfl hm
theorem zeb (F:Fit g X) (W:Glob G X C) {r:Expr->Code->Bool} (hE:∀ e c,r e c=true->SE X C e c) {e:Expr} {p:Pos} {s:Stm} (h:zd9 r g e s=true):SS X C (.Expr e p) s:=by
 unfold zd9 at h;split at h
 ·rw [wj,List.isEmpty_iff] at h;obtain ⟨rfl,h⟩:=h;split at h
  ·split at h
   ·split at h
    ·unfold jel at h;split at h
     ·simp only [wj,vq,w9] at h;obtain ⟨⟨⟨⟨⟨⟨rfl,h1⟩,h2⟩,h3⟩,h4⟩,h5⟩,h6⟩:=h;exact jdG (F.slot h1) (F.vis h2) (qH h3).1 (qH h3).2 (hE _ _ h6) (qM h4) (by simpa using h5)
     ·cases h
    ·cases h
   ·cases h
  ·cases h
 ·cases h
theorem ycf {x : Str} {px sp : Pos} {ek : Expr} {env : Env} (h : jbE ek = false) : ∀ v, assign (.Subscript (.Name x px) ek sp) env v = (do
  let ov <-holding [v] (eval (.Name x px) env)
  let iv <-holding [v,ov] (eval ek env)
  standAt sp
  holding [v,ov,iv] (setItem ov iv v)
  release [v,ov,iv] []):=λv=>by
 cases ek<;>first | rfl | cases h
theorem qeb (F:Fit g X) (W:Glob G X C) {r t:RE} (hr:∀ g X,Fit g X->Glob G X C->(∀ e c,r g e c=true->SE X C e c)/\∀ e c,t g e c=true->SB X C e c) {tg e:Expr} {p:Pos} {s:Stm} (h:jd8 r t g tg e s=true):SS X C (.Assign [tg] e p) s:=by
 unfold jd8 at h;split at h
 ·exact qde F W hr h
 ·split at h
  ·split at h
   ·rename_i x hx;obtain ⟨px,rfl⟩:=jam hx;simp only [wj,w9] at h;obtain ⟨⟨⟨⟨⟨h1,h2⟩,h3⟩,h4⟩,h5⟩,h6⟩:=h;exact ydL (F.slot h1) (F.vis h2) (qH h3).1 (qH h3).2 ((hr g X F W).1 _ _ h5) ((hr g X F W).1 _ _ h6) (ycf h4)
   ·cases h
  ·cases h
 ·cases h
structure Top (X:Cx):Prop where
 stk:X.stack=X.env::X.outer
 frm:X.env.frame=some X.env.locals
theorem jdN (F:Fit g X) (W:Glob G X C) (T:Top X) {r:Expr->Code->Bool} (hE:∀ e c,r e c=true->SE X C e c) {body:List Stmt} {hs:List ExceptHandler} {i f:Nat} {c:Code} {p:Pos} (h:jdc G r g body hs i f c=true):SS X C (.Try body hs [] [] p) (.tryr i f c):=by
 unfold jdc at h;split at h
 rotate_left
 ·cases h
 rename_i x fn a t en e h1 h2;obtain ⟨px,p1,cp,ap,rfl⟩:=ydN h1;obtain ⟨rp,hp,rfl⟩:=ydc h2;simp only [wj,vq,w9,List.contains_iff_mem] at h;obtain ⟨⟨⟨⟨⟨⟨⟨⟨⟨⟨⟨⟨⟨⟨⟨⟨a1,a2⟩,a3⟩,a4⟩,a5⟩,a6⟩,a7⟩,a8⟩,a9⟩,b1⟩,b2⟩,b3⟩,b4⟩,b5⟩,b6⟩,b7⟩,b8⟩:=h;obtain ⟨np,rfl⟩:=jam a8;obtain ⟨_,_,_,_,_,_,_,_,_,_,_,_,_,_,_,_,_,rfl⟩:=qdN b3;obtain ⟨j,hj⟩:=List.mem_iff_getElem?.mp a9;obtain ⟨k,fa,fd,ps,Ff,hr,hm,hk,hb⟩:=W.fns f fn a3;obtain ⟨c2,t1,t2⟩:=W.cls.ta;obtain ⟨hl,hf⟩:=F.locd a2
 exact qc7 Ff hr (F.glob a4) hm hk hb (qH a5).1 (hE _ _ a7) (qM a6) W.hx (F.slot a1) hl hf W.cls.ex t2 T.stk T.frm F.nd (by rw [F.N]; exact hj) (F.loc _ b1) (qH b2).1 (qH b2).2
  (F.glob b4) W.cls.no (by decide) (F.glob b7) (W.blts _ (by decide)) (F.glob b8) (W.blts _ (by decide)) (F.glob b6) (W.blts _ (by decide)) (F.glob b5) t1 (by decide) qbi ybi zbt
theorem jbG (F:Fit g X) (W:Glob G X C) (T:Top X) {r t:RE} (hr:∀ g X,Fit g X->Glob G X C->(∀ e c,r g e c=true->SE X C e c)/\∀ e c,t g e c=true->SB X C e c) {b:List Stmt->Stms->Bool} (hb:∀ sts s,b sts s=true->SSs X C sts s)
  {st:Stmt} {s:Stm} (h:ydd G r t b g st s=true):SS X C st s:=by
 have hE:=(hr g X F W).1;have hT:=(hr g X F W).2;unfold ydd at h;split at h
 ·split at h
  ·unfold yel at h;split at h
   ·exact ydF (hE _ _ h)
   ·split at h
    ·exact qc3
    ·cases h
  ·cases h
 ·split at h
  ·exact qdF
  ·cases h
 ·split at h
  ·simp only [wj] at h;exact jdF (hT _ _ h.1.1) (hb _ _ h.1.2) (hb _ _ h.2)
  ·cases h
 ·rw [wj,List.isEmpty_iff] at h;obtain ⟨rfl,h⟩:=h;split at h
  ·simp only [wj] at h;obtain ⟨hpg,hix⟩:=zdb F W.calm h.1.1;obtain ⟨hi,hs⟩:=qdM F W hE h.1.2;exact zdH W.hx W.calm hi hpg (hb _ _ h.2) hix hs
  ·cases h
 ·split at h
  ·exact qeb F W hr h
  ·cases h
 ·exact zeb F W hE h
 ·split at h
  ·simp only [wj,List.isEmpty_iff] at h;obtain ⟨⟨rfl,rfl⟩,h⟩:=h;exact jdN F W T hE h
  ·cases h
 ·cases h
theorem yV (F:Fit g X) (W:Glob G X C) (T:Top X) {r t:RE} (hr:∀ g X,Fit g X->Glob G X C->(∀ e c,r g e c=true->SE X C e c)/\∀ e c,t g e c=true->SB X C e c):∀ (n:Nat) (sts:List Stmt) (s:Stms),oks G r t g n sts s=true->SSs X C sts s
 | 0,_,_,h=>by cases h
 | n+1,sts,.nil,h=>by
  have:sts=[]:=by simpa [oks] using h
  subst this;exact jc2
 | n+1,sts,.frz i q,h=>zc3 (yV F W T hr n sts q h)
 | n+1,[],.cons a q,h=>by cases h
 | n+1,st::rest,.cons a q,h=>by
  simp only [oks,wj] at h;exact qcy (jbG F W T hr (yV F W T hr n) h.1) (yV F W T hr n rest q h.2)
 | n+1,sts,.rsg c q,h=>by
  simp only [oks] at h;split at h
  ·simp only [wj,List.isEmpty_iff] at h;obtain ⟨⟨⟨⟨rfl,h1⟩,h2⟩,h3⟩,h4⟩:=h;exact jc9 ((hr g X F W).2 _ _ h3) (yV F W T hr n _ q h4)
  ·cases h
theorem yaf (F:Fit g X.nox) (W:Glob G X.nox C) (T:Top X.nox) {r t:RE} (hr:∀ g X,Fit g X->Glob G X C->(∀ e c,r g e c=true->SE X C e c)/\∀ e c,t g e c=true->SB X C e c):∀ (n:Nat) (sts:List Stmt) (s:Stms),oks G r t g n sts s=true->SSx X C (ncA X.mg) sts s
 | 0,_,_,h=>by cases h
 | n+1,sts,.nil,h=>by
  have:sts=[]:=by simpa [oks] using h
  subst this;exact zda
 | n+1,sts,.frz i q,h=>qc9 (yaf F W T hr n sts q h)
 | n+1,[],.cons a q,h=>by cases h
 | n+1,st::rest,.cons a q,h=>by
  simp only [oks,wj] at h;exact jcB (jbG F W T hr (yV F W T hr n) h.1) (yaf F W T hr n rest q h.2)
 | n+1,sts,.rsg c q,h=>by
  simp only [oks] at h;split at h
  ·simp only [wj,List.isEmpty_iff] at h;obtain ⟨⟨⟨⟨rfl,h1⟩,h2⟩,h3⟩,h4⟩:=h;obtain ⟨_,_,_,_,_,_,rfl⟩:=qdd h1;exact yc9 ((hr g X.nox F W).2 _ _ h3) (yaf F W T hr n _ q h4) W.cls.ex W.calm (F.glob h2) W.cls.no (by decide)
  ·cases h
end
noncomputable def qS (st:Stmt):List Str:=(zX st).args.map (·.arg)
noncomputable def ycD:Nat:=60
noncomputable def yde:Nat:=80
noncomputable def jde (G:GTab) (N:List Str) (st:Stmt) (f:Def):Bool :=
 decide (f.n=N.length)&&decide (f.p=(qS st).length)&&decide N.Nodup&&decide (N.take (qS st).length=qS st)&&decide ((yr st).kind=.function)&&!(yr st).isCoroutine&&!(yr st).isGenerator
 && (qS st).all (λx=>(yr st).names.lookup x==some .local||(yr st).names.lookup x==some .cell)&&(yr st).names.all (λy=>decide (y.2≠.free))
 && oks G (ok G ycD).1 (ok G ycD).2 ⟨N,(yr st).names⟩ yde (qX st) f.b
noncomputable def yaI (G:GTab):List (List Str)->List Stmt->List Def->Bool
 | [],[],[]=>true
 | N::Ns,st::sts,f::fs=>jde G N st f&&yaI G Ns sts fs
 | _,_,_=>false
theorem zaV {G:GTab}:∀ {Ns:List (List Str)} {sts:List Stmt} {P:List Def},yaI G Ns sts P=true->∀ {i:Nat} {f:Def},P[i]?=some f->∃ N st,sts[i]?=some st/\jde G N st f=true
 | [],[],[],_,i,f,e=>by simp at e
 | N::Ns,st::sts,g::fs,h,0,f,e=>by
  rw [yaI,wj] at h;have e:g=f:=by simpa using e
  subst e;exact ⟨N,st,rfl,h.1⟩
 | N::Ns,st::sts,g::fs,h,i+1,f,e=>by
  rw [yaI,wj] at h;obtain ⟨N',st',h1,h2⟩:=zaV h.2 (i:=i) (f:=f) (by simpa using e);exact ⟨N',st',by simpa using h1,h2⟩
 | [],[],_::_,h,_,_,_=>by cases h
 | [],_::_,_,h,_,_,_=>by cases h
 | _::_,[],_,h,_,_,_=>by cases h
 | _::_,_::_,[],h,_,_,_=>by cases h
theorem za4 {K:Frag} {B:Addr->Prop} {H:Hp} {N:List Str} {vs:List V} {ds:List D} {m:Nat} (hb:HB B H) (r:Reps K B H vs ds):FR K B H (λ_=>False) (L2.start N vs) H (ds.map Sl.pu++List.replicate m .un):=by
 have less:∀ b,BO B (λ_=>False) b->B b:=λb z=>z.elim id False.elim
 have at':∀ (i:Nat) (sl:Sl),(ds.map Sl.pu++List.replicate m .un)[i]?=some sl->sl=.un\/∃ d,ds[i]?=some d/\sl=.pu d:=λi sl e=>by
  by_cases hi:i<ds.length
  ·rw [vn (by simpa using hi),wz] at e;have hd:ds[i]?=some ds[i]:=by simp [hi]
   rw [hd] at e;exact .inr ⟨ds[i],hd,(wC e).symm⟩
  ·rw [List.getElem?_append_right (by simpa using hi),List.getElem?_replicate] at e;split at e
   ·exact .inl (wC e).symm
   ·cases e
 refine ⟨λ_ z=>z.elim,Same.refl H,λb z=>hb b (less b z),hb,λi d e=>?_,λi es e=>?_,λi j es es' a e=>?_,λi j es es' e=>?_,λ_=>False,λi es a e q=>id,λi es e=>?_⟩
 ·rcases at' i _ e with z | ⟨d',h1,h2⟩
  ·cases z
  ·cases h2;obtain ⟨v,hv,rv⟩:=r.get h1;refine ⟨v,?_,rv.less less⟩;have hlt:=(wu.mp hv).1;unfold L2.start;rw [vn (by simpa using hlt),wz,hv];rfl
 ·rcases at' i _ e with z | ⟨d',h1,h2⟩
  ·cases z
  ·cases h2
 ·rcases at' i _ e with z | ⟨d',h1,h2⟩
  ·cases z
  ·cases h2
 ·rcases at' i _ e with z | ⟨d',h1,h2⟩
  ·cases z
  ·cases h2
 ·rcases at' i _ e with z | ⟨d',h1,h2⟩
  ·cases z
  ·cases h2
section
variable {Pg:Program} {w:World} {K:Frag} {mg:Str->Option Value} {base:Heap}
structure PF (K:Frag) (mg:Str->Option Value) (G:GTab) (sts:List Stmt):Prop where
 defs:∀ (i:Nat) (x:Str),G.fns[i]?=some x->∃ st f fd,sts[i]?=some st/\Fun K x x st f fd/\mg x=some (.ref f)/\Binds K fd (qS st) []
 blts:∀ x∈bltL,mg x=none
 cons:∀ (x:Str) (i:Int),G.cons.lookup x=some i->∃ t,mg x=some (.int i t)
 txts:∀ (x z:Str),G.txts.lookup x=some z->∃ t,mg x=some (.str z t)
 cls:Cls K mg
theorem zbH {P:List Def} {i:Nat} {vs:List V} {H:Hp} {Q:VK} {E:XK} (h:spD K (ym P 0) i vs H Q E):False:=by
 obtain ⟨B,ds,d,_,_,e,_⟩:=h;cases e
theorem _root_.L2.Fun.okX {CX:CXT} {x qual:Str} {st:Stmt} {f:Addr} {fd:FuncData} {N ps:List Str} {k:Nat} {sp:Sp} (F:Fun K x qual st f fd) (S:FnScope N ps (yr st)) (len:∀ vs H Q E,sp vs H Q E->vs.length=ps.length)
  (hbody:∀ (cdv:Value) (A:Around) (outer:List Env) (s:Shared) (H:Hp) (vs:List V) (Q:VK) (E:XK),Room k (A.deeper (envOfC qual (yr st) s.heap.objs.size f cdv))->sp vs H Q E ->
   ∃ t,PSs (jco CX Pg w K mg base N qual (yr st) f cdv A outer s H E) (qX st) t/\t { nx:=λ_ H'=>Q .non H',rt:=Q } (L2.start N vs) H):FnOk Pg w K mg base CX (k+1) f fd ps sp:=by
 obtain ⟨oc,od,kV,doc,pm,an,cdv,ct,osl,rfl,lk,hcd⟩:=F.ex;exact zd2 lk hcd S len λA outer s H vs Q E hr hsp=>hbody cdv A outer s H vs Q E hr hsp
theorem qbH {G:GTab} {Ns:List (List Str)} {sts:List Stmt} {P:List Def} (T:PF K mg G sts) (hP:yaI G Ns sts P=true) (hl:G.fns.length=P.length):∀ (k i:Nat) (x:Str) (st:Stmt) (f:Addr) (fd:FuncData),G.fns[i]?=some x->sts[i]?=some st->Fun K x x st f fd ->
  FnOk Pg w K mg base (CXn Pg w (ncA mg)) (k+1) f fd (qS st) (spD K (ym P k) i)
 | 0,i,x,st,f,fd,hx,hst,F=>⟨λvs H Q E h=>(zbH h).elim,λA outer s H args us vs Q E _ _ _ _ h=>(zbH h).elim⟩
 | k+1,i,x,st,f,fd,hx,hst,F=>by
  have hi:i<P.length:=by rw [<-hl];exact (wu.mp hx).1
  obtain ⟨df,hdf⟩:∃ df,P[i]?=some df:=⟨P[i],by simp [hi]⟩;obtain ⟨N,st',hst',hok⟩:=zaV hP hdf;rw [hst] at hst';cases hst'
  simp only [jde,wj,wI,w9,List.all_eq_true,Bool.or_eq_true,vq] at hok;obtain ⟨⟨⟨⟨⟨⟨⟨⟨⟨h1,h2⟩,h3⟩,h4⟩,h5⟩,h6⟩,h7⟩,h8⟩,h9⟩,h10⟩:=hok;have S:FnScope N (qS st) (yr st):=⟨h5,h6,h7,h3,h4,h8,h9⟩
  have run_of:∀ {ds:List D} {d:D},ym P (k+1) i ds=some d->ds.length=df.p/\∃ r,exs (ym P k) df.b (ds.map Sl.pu++List.replicate (df.n-df.p) .un)=some r/\((r=.rt d/\∀ g,d≠.grp g)\/((∃ ρ,r=.nx ρ)/\d=.non)\/(r=.xc/\d=.grp [])):=λ{ds d} e=>by
   have e':(P[i]?).bind (λf=>zN (ym P k) f ds)=some d:=e;rw [hdf,we,zN] at e';split at e'
   ·rename_i hlen;obtain ⟨r,er,e'⟩:=wa e';refine ⟨hlen,r,er,?_⟩;cases r with
    | rt d' =>
     have e':noE d'=some d:=e';refine .inl ?_;cases d'<;>first | (cases e';exact ⟨rfl,λ_ z=>by cases z⟩) | cases e'
    | nx ρ=>cases e';exact .inr (.inl ⟨⟨ρ,rfl⟩,rfl⟩)
    | xc=>cases e';exact .inr (.inr ⟨rfl,rfl⟩)
    | bk ρ=>cases e'
    | ct ρ=>cases e'
   ·cases e'
  refine F.okX S (λvs H Q E h=>?_) (λcdv A outer s H vs Q E hr h=>?_)
  ·obtain ⟨B,ds,d,_,r,e,_⟩:=h;rw [r.length,(run_of e).1,h2]
  ·obtain ⟨B,ds,d,hb,r,e,q,qx⟩:=h;obtain ⟨hlen,rr,er,hrr⟩:=run_of e;obtain ⟨X,hX⟩:∃ X,X=jco (CXn Pg w (ncA mg)) Pg w K mg base N x (yr st) f cdv A outer s H E:=⟨_,rfl⟩
   have FF:Fit ⟨N,(yr st).names⟩ X.nox:=by
    rw [hX];exact ⟨rfl,h3,λx h=>h,λx h=>⟨h,rfl⟩,λx h=>.inr h,λx h=>h⟩
   have W:Glob G X.nox (ym P k):=by
    rw [hX];refine ⟨rfl,rfl,hr.units,λj y hy=>?_,T.blts,T.cons,T.txts,T.cls⟩;obtain ⟨st',f',fd',a1,a2,a3,a4⟩:=T.defs j y hy;exact ⟨k+1,f',fd',qS st',qbH T hP hl k j y st' f' fd' hy a1 a2,hr,a3,a2.kp,a4⟩
   have TT:Top X.nox:=by rw [hX];exact ⟨rfl,rfl⟩
   have body:rr≠.xc->_:=λ_=>(yV FF W TT (qaA G (ym P k) ycD) yde (qX st) df.b h10 B H (λ_=>False) _ rr er).nox
   rcases hrr with ⟨rfl,hn⟩ | ⟨⟨ρ,rfl⟩,rfl⟩ | ⟨rfl,rfl⟩
   ·refine ⟨_,hX▸body (λz=>by cases z),?_⟩;show tFl K B H (λx=>False) _ _ _ (L2.start N vs) H;exact ⟨za4 hb r,λv H' s r=>q hn v H' s r⟩
   ·refine ⟨_,hX▸body (λz=>by cases z),?_⟩;show tFl K B H (λx=>False) _ _ _ (L2.start N vs) H;exact ⟨za4 hb r,λO' σ' H' _ F' _=>q (λ_ z=>by cases z) .non H' F'.same .non⟩
   ·have hz:Rz (ncA X.mg) H X:=by rw [hX];exact jd7 λe H' sm=>qx ⟨_,rfl⟩ e H' sm
    refine ⟨_,hX▸yaf FF W TT (qaA G (ym P k) ycD) yde (qX st) df.b h10 B H (λ_=>False) _ er hz,?_⟩;show FR K B H (λx=>False) (L2.start N vs) H _;exact za4 hb r
def zdf (K:Frag):Sp:=λvs H Q _=>∃ (a:Addr) (ns:List Int),vs=[.ref a]/\SqS K H a ns/\∀ H',Q (.bl true) H'
theorem jcf {G:GTab} {Ns:List (List Str)} {sts:List Stmt} {P:List Def} (T:PF K mg G sts) (hP:yaI G Ns sts P=true) (hl:G.fns.length=P.length) {k i:Nat} {x:Str} {st:Stmt} {f:Addr} {fd:FuncData} (hx:G.fns[i]?=some x) (hst:sts[i]?=some st) (F:Fun K x x st f fd)
  (hrun:∀ ns:List Int,ym P k i [.scr ns]=some (.bl true)):FnOk Pg w K mg base CX0 (k+1) f fd (qS st) (zdf K):=by
 have U:=qbH (Pg:=Pg) (w:=w) (base:=base) T hP hl k i x st f fd hx hst F
 have go:∀ vs H (Q:VK),zdf K vs H Q E0->spD K (ym P k) i vs H Q E0:=λvs H Q h=>by
  obtain ⟨a,ns,rfl,hS,q⟩:=h;exact ⟨λ_=>False,[.scr ns],.bl true,λb z=>z.elim,.cons (.scr hS) .nil,hrun ns,λ_ v H' _ r=>by cases r;exact q H',λ⟨g,z⟩=>by cases z⟩
 refine ⟨λvs H Q E h=>U.len vs H Q E0 (go vs H Q h),λA outer s H args us vs Q E hr e0 hb hv h=>?_⟩;refine codeAny_mono (U.run A outer s H args us vs Q E0 hr e0 hb hv (go vs H Q h)) λr s' hq=>?_
 cases r with
 | error e=>obtain ⟨_,_,_,_,_,_,_,_,_,_,_,h⟩:=hq;exact h.elim
 | ok fl=>cases fl<;>exact hq
end
def DF (K:Frag) (x:Str) (st:Stmt):Prop:=∃ f fd,nsIn K mainGlobals x=some (some (.ref f))/\Fun K x x st f fd
theorem yeb {K:Frag} {x:Str} {st:Stmt} {f:Addr} {oc:Value} {od an:Option Addr} {osl:Array (Option Value)} {kV doc pm cdv ct:Value} (a:nsIn K mainGlobals x=some (some (.ref f)))
 (l:K.lookup f=some ⟨oc,od,.func (PySem.W.fnOf x x (zX st) (qX st) (yr st) .none kV doc pm an cdv ct),osl⟩) (c:PySem.W.codeIn K cdv x=true) (k:PySem.W.keepIn K (.ref f)=true):DF K x st:=⟨f,_,a,ydu l c k⟩
def CF (K:Frag) (x:Str) (i:Int):Prop:=∃ t,nsIn K mainGlobals x=some (some (.int i t))
theorem jeb {K:Frag} {x:Str} {i:Int} {t:Tok} (a:nsIn K mainGlobals x=some (some (.int i t))):CF K x i:=⟨t,a⟩
def TF (K:Frag) (x z:Str):Prop:=∃ t,nsIn K mainGlobals x=some (some (.str z t))
theorem zec {K:Frag} {x z:Str} {t:Tok} (a:nsIn K mainGlobals x=some (some (.str z t))):TF K x z:=⟨t,a⟩
def CL (K:Frag):Prop:=∃ c c2,nsIn K mainGlobals "NoText"=some (some (.ref c))/\nsIn K mainGlobals "TableError"=some (some (.ref c2))/\PySem.W.excIn K c bmV ybW=true/\PySem.W.isIn K (.ref c) c2=true
theorem qec {K:Frag} {c c2:Addr} (a:nsIn K mainGlobals "NoText"=some (some (.ref c))) (b:nsIn K mainGlobals "TableError"=some (some (.ref c2))) (h1:PySem.W.excIn K c bmV ybW=true) (h2:PySem.W.isIn K (.ref c) c2=true):CL K:=⟨c,c2,a,b,h1,h2⟩
def Ds (K:Frag):List Str->List Stmt->Prop
 | x::xs,s::ss=>DF K x s/\Ds K xs ss
 | [],_=>True
 | _::_,[]=>False
def Zs (K:Frag):List Str->Prop
 | []=>True
 | x::l=>nsIn K mainGlobals x=some none/\Zs K l
def Cs (K:Frag):List (Str×Int)->Prop
 | []=>True
 | (x,i)::l=>CF K x i/\Cs K l
theorem zdO {K:Frag}:∀ {xs:List Str} {ss:List Stmt},Ds K xs ss->∀ (i:Nat) (x:Str),xs[i]?=some x->∃ st,ss[i]?=some st/\DF K x st
 | [],_,_,_,_,e=>by cases e
 | _::_,[],h,_,_,_=>h.elim
 | _::_,s::_,h,0,_,e=>by cases e;exact ⟨s,rfl,h.1⟩
 | _::_,_::_,h,i+1,y,e=>zdO h.2 i y e
theorem qdO {K:Frag}:∀ {l:List Str},Zs K l->∀ x∈l,nsIn K mainGlobals x=some none
 | _::_,h,x,hx=>by
  rcases wy.mp hx with rfl | hx
  ·exact h.1
  ·exact qdO h.2 x hx
theorem ydO {K:Frag} {x:Str} {i:Int}:∀ {l:List (Str×Int)},Cs K l->l.lookup x=some i->CF K x i
 | [],_,h=>by cases h
 | (y,j)::l,c,h=>by
  rw [List.lookup_cons] at h;split at h
  ·rename_i e;have:=eq_of_beq e;subst this;cases h;exact c.1
  ·exact ydO c.2 h
noncomputable def yec (ps:Arguments):Bool:=ps.posonlyargs.isEmpty&&ps.vararg.isNone&&ps.kwonlyargs.isEmpty&&ps.kw_defaults.isEmpty&&ps.kwarg.isNone&&ps.defaults.isEmpty
theorem zcP {α:Type}:∀ {N:List Str} {us:List α},N.Nodup->us.length=N.length->(∀ n∈N,((N.zip us).lookup n).isNone=false)/\(N.filterMap λn=>((N.zip us).lookup n).map λv=>(n,v))=N.zip us
 | [],_,_,_=>⟨(λn h=>by cases h),rfl⟩
 | _::_,[],_,h=>by cases h
 | n::N,u::us,hn,h=>by
  rw [List.nodup_cons] at hn;obtain ⟨h1,h2⟩:=zcP hn.2 (Nat.succ.inj h)
  have e:∀ m∈N,List.lookup m ((n,u)::N.zip us)=(N.zip us).lookup m:=λm hm=>by
   rw [List.lookup_cons,w6.mpr λ(z:m=n)=>hn.1 (by rw [<-z];exact hm)]
  have g:∀ M:List Str,(∀ m∈M,m∈N)->(M.filterMap λm=>(List.lookup m ((n,u)::N.zip us)).map λv=>(m,v))=M.filterMap λm=>((N.zip us).lookup m).map λv=>(m,v):=λM=>by
   induction M with
   | nil=>exact λ_=>rfl
   | cons m M ih=>intro hM;rw [List.filterMap_cons,List.filterMap_cons,e m (hM m (.head _)),ih λk hk=>hM k (.tail _ hk)]
  rw [List.zip_cons_cons];refine ⟨λm hm=>?_,?_⟩
  ·rcases wy.mp hm with rfl | hm
   ·simp
   ·rw [e m hm];exact h1 m hm
  ·rw [List.filterMap_cons,List.lookup_cons_self];exact congrArg ((n,u)::·) ((g N λ_ h=>h).trans h2)
theorem jcD {K:Frag} {x q:Str} {st:Stmt} {f:Addr} {fd:FuncData} (F:Fun K x q st f fd) (hp:yec (zX st)=true) (hn:(qS st).Nodup):Binds K fd (qS st) []:=F.binds (ps:=qS st) λkV doc pm an cdv ct us hl=>by
 unfold qS at hn hl ⊢;generalize zX st=A at *;obtain ⟨p1,as,p2,p3,p4,p5,p6⟩:=A;simp only [yec,wj,List.isEmpty_iff,Option.isNone_iff_eq_none] at hp;obtain ⟨⟨⟨⟨⟨rfl,rfl⟩,rfl⟩,rfl⟩,rfl⟩,rfl⟩:=hp;dsimp only at hn hl ⊢;obtain ⟨h1,h2⟩:=zcP hn hl;unfold bindArgs;dsimp only;generalize as.map (·.arg)=N at *;simp only [List.forIn_nil,pure_bind,List.map_nil,List.nil_append,List.append_nil];show (seqItems? Value.none >>= λr=>_)=_;rw [show seqItems? Value.none=pure none from rfl,pure_bind]
 have hf:List.filter (λn=>(List.lookup n (N.zip us)).isNone) (N.take (N.length-0))=[]:=List.filter_eq_nil_iff.mpr λn hm=>by
  rw [h1 n (List.mem_of_mem_take hm)];exact wB
 have z (k:Nat):List.drop k ((none:Option (Array Value)).getD #[]).toList=[]:=List.drop_nil;rw [z];refine (if_neg (by simp;omega)).trans ?_;show (if (!(List.filter (λn=>(List.lookup n (N.zip us)).isNone) (N.take (N.length-0))).isEmpty)=true then _ else _)=_;rw [hf,if_neg (by decide)];show ((forIn ((N.drop (N.length-0)).zip ([]:List Value)) (N.zip us) _:Sem (List (Str×Value))) >>= λ__s=>_)=_;rw [List.zip_nil_right];show ((pure (N.zip us):Sem (List (Str×Value))) >>= λ__s=>_)=_;rw [pure_bind,if_neg (by decide)];exact congrArg pure h2
noncomputable def qdf (s:Stmt):Bool:=yec (zX s)&&decide (qS s).Nodup
theorem jec {K:Frag} {h:Heap} {mg:Str->Option Value} {G:GTab} {sts:List Stmt} (X:K.In h) (N:h.Ns mainGlobals mg) (D:Ds K G.fns sts) (hb:sts.all qdf=true) (z:Zs K bltL) (c:Cs K G.cons) {dn dz:Str} (hT:G.txts=[(dn,dz)]) (t:TF K dn dz) (l:CL K):PF K mg G sts:=by
 refine ⟨λi x e=>?_,λx hx=>PySem.W.mg_none_of X N (qdO z x hx),λx i e=>?_,λx y e=>?_,?_⟩
 ·obtain ⟨st,hs,f,fd,a,F⟩:=zdO D i x e;have q:=List.all_eq_true.mp hb st (wV hs);rw [qdf,wj] at q;exact ⟨st,f,fd,hs,F,wL X N a,jcD F q.1 (vk q.2)⟩
 ·obtain ⟨t,a⟩:=ydO c e;exact ⟨t,wL X N a⟩
 ·rw [hT] at e;have e:=w8 e;rw [vd] at e;cases e;obtain ⟨t,a⟩:=t;exact ⟨t,wL X N a⟩
 ·obtain ⟨c,c2,a,b,h1,h2⟩:=l;have a:=wL X N a;have e:ncA mg=c:=by unfold ncA;rw [a]
  exact ⟨by rw [e];exact a,by rw [e];exact h1,c2,wL X N b,by rw [e];exact h2⟩
end Eng
end
section
namespace LG
open PySem Eng
noncomputable def zan:Def:=⟨2,2,(.cons (.ite (.cmp .Lt (.var 1) (.blt .len (.cons (.var 0) .nil))) (.cons (.ret (.idx (.var 0) (.var 1))) .nil) .nil) (.cons (.ret (.cst (.int 0))) .nil))⟩
noncomputable def jY:Def:=⟨3,2,(.cons (.set .pu (.one 2) (.bin .Mod (.bin .Mult (.bin .Add (.bin .Add (.call 0 (.cons (.var 0) (.cons (.var 1) .nil))) (.bin .Mult (.cst (.int 7919)) (.var 1))) (.cst (.int 1))) (.cst (.int 48271))) (.cst (.int 2147483647)))) (.cons (.ret (.bin .Mod (.bin .Add (.bin .Add (.bin .Mult (.var 2) (.var 2)) (.bin .Mult (.cst (.int 7)) (.var 2))) (.var 1)) (.cst (.int 2147483629)))) .nil))⟩
noncomputable def yai:Def:=⟨3,2,(.cons (.set .pu (.one 2) (.bin .Mod (.bin .Mult (.bin .Add (.bin .Add (.var 0) (.bin .Mult (.cst (.int 104729)) (.var 1))) (.cst (.int 17))) (.cst (.int 69621))) (.cst (.int 2147483647)))) (.cons (.ret (.bin .Mod (.bin .Add (.bin .Add (.bin .Mult (.var 2) (.var 2)) (.bin .Mult (.cst (.int 3)) (.var 2))) (.var 1)) (.cst (.int 2147483629)))) .nil))⟩
noncomputable def qP:Stms:=(.cons (.set .pu (.one 6) (.blt .sortedSet (.cons (.var 2) .nil))) (.cons (.ite (.cmp .Gt (.blt .len (.cons (.var 6) .nil)) (.cst (.int 2))) (.cons (.set .pu (.one 7) (.bin .FloorDiv (.call 2 (.cons (.var 0) (.cons (.bin .Add (.bin .Mult (.cst (.int 4)) (.var 4)) (.var 5)) .nil))) (.cst (.int 4)))) (.cons (.set .pu (.one 8) (.bin .Add (.cst (.int 1)) (.bin .Mod (.var 7) (.bin .Sub (.blt .len (.cons (.var 6) .nil)) (.cst (.int 1)))))) (.cons (.set .pu (.one 9) (.bin .Mod (.bin .FloorDiv (.var 7) (.cst (.int 8))) (.var 8))) (.cons (.set .pu (.one 2) (.comp (.idx (.lst (.cons (.var 0) (.cons (.idx (.var 1) (.var 2)) .nil))) (.blt .int (.cons (.cmp .Eq (.var 0) (.idx (.var 1) (.var 3))) .nil))) (.one 0) 1 [6,9,8] (.data (.var 2)) .none)) .nil)))) .nil) .nil))
noncomputable def jA:Stms:=(.cons (.for (.one 5) (.rng (.cons (.bin .Add (.cst (.int 1)) (.bin .Mod (.bin .FloorDiv (.var 0) (.cst (.int 24))) (.cst (.int 2)))) .nil)) qP) (.cons (.ite (.cmp .NotEq (.blt .tuple (.cons (.var 2) .nil)) (.idx (.var 3) (.neg (.cst (.int 1))))) (.cons (.app 3 .pu (.blt .tuple (.cons (.var 2) .nil))) .nil) .nil) .nil))
noncomputable def d_law_ladder:Def:=⟨10,1,(.cons (.set .pu (.one 1) (.idx (.tup (.cons (.cst (.int 1)) (.cons (.cst (.int 2)) (.cons (.cst (.int 3)) (.cons (.cst (.int 4)) (.cons (.cst (.int 5)) (.cons (.cst (.int 3)) (.cons (.cst (.int 4)) (.cons (.cst (.int 5)) .nil))))))))) (.bin .Mod (.var 0) (.cst (.int 8))))) (.cons (.set .pu (.one 2) (.ofi .list (.rng (.cons (.var 1) .nil)))) (.cons (.set .ow (.one 3) (.lst (.cons (.blt .tuple (.cons (.var 2) .nil)) .nil))) (.cons (.for (.one 4) (.rng (.cons (.bin .Mod (.bin .FloorDiv (.var 0) (.cst (.int 8))) (.cst (.int 3))) .nil)) jA) (.cons (.ite (.cmp .NotEq (.idx (.var 3) (.neg (.cst (.int 1)))) (.bin .Mult (.tup (.cons (.cst (.int 0)) .nil)) (.var 1))) (.cons (.app 3 .pu (.bin .Mult (.tup (.cons (.cst (.int 0)) .nil)) (.var 1))) .nil) .nil) (.cons (.ret (.blt .tuple (.cons (.var 3) .nil))) .nil))))))⟩
noncomputable def zL:Stms:=(.cons (.app 5 .pu (.bin .Mod (.bin .FloorDiv (.call 2 (.cons (.var 0) (.cons (.bin .Add (.bin .Add (.cst (.int 10)) (.bin .Mult (.cst (.int 4)) (.var 4))) (.var 6)) .nil))) (.cst (.int 4))) (.blt .len (.cons (.idx (.var 7) (.cst (.int 0))) .nil)))) .nil)
noncomputable def yG:Stms:=(.cons (.set .ow (.one 5) (.lst .nil)) (.cons (.for (.many [6,7]) (.enu (.var 1)) zL) (.cons (.ite (.and (.cmp .Gt (.var 4) (.cst (.int 0))) (.and (.cmp .Eq (.bin .Mod (.bin .FloorDiv (.var 0) (.cst (.int 24))) (.cst (.int 3))) (.cst (.int 1))) (.cmp .Eq (.bin .Mod (.bin .FloorDiv (.call 2 (.cons (.var 0) (.cons (.bin .Add (.cst (.int 50)) (.var 4)) .nil))) (.cst (.int 4))) (.cst (.int 2))) (.cst (.int 1))))) (.cons (.set .ow (.one 5) (.blt .list (.cons (.idx (.var 2) (.bin .Mod (.bin .FloorDiv (.call 2 (.cons (.var 0) (.cons (.bin .Add (.cst (.int 60)) (.var 4)) .nil))) (.cst (.int 4))) (.var 4))) .nil))) .nil) .nil) (.cons (.app 2 .cl (.blt .tuple (.cons (.var 5) .nil))) (.cons (.app 3 .pu (.bin .Mod (.bin .FloorDiv (.call 2 (.cons (.var 0) (.cons (.bin .Add (.cst (.int 70)) (.var 4)) .nil))) (.cst (.int 4))) (.idx (.tup (.cons (.cst (.int 2)) (.cons (.cst (.int 4)) (.cons (.cst (.int 3)) .nil)))) (.bin .Mod (.bin .FloorDiv (.var 0) (.cst (.int 72))) (.cst (.int 3)))))) .nil)))))
noncomputable def jai:Def:=⟨8,1,(.cons (.set .pu (.one 1) (.blt .tuple (.cons (.comp (.call 3 (.cons (.call 2 (.cons (.var 1) (.cons (.var 0) .nil))) .nil)) (.one 0) 1 [0] (.rng (.cons (.bin .Add (.cst (.int 1)) (.bin .Mod (.var 0) (.cst (.int 3)))) .nil)) .none) .nil))) (.cons (.set .ow (.one 2) (.lst .nil)) (.cons (.set .ow (.one 3) (.lst .nil)) (.cons (.for (.one 4) (.rng (.cons (.bin .Add (.cst (.int 1)) (.bin .Mod (.bin .FloorDiv (.var 0) (.cst (.int 3))) (.cst (.int 8)))) .nil)) yG) (.cons (.ret (.tup (.cons (.var 1) (.cons (.blt .tuple (.cons (.var 2) .nil)) (.cons (.blt .tuple (.cons (.var 3) .nil)) .nil))))) .nil)))))⟩
end LG
end
local macro_rules | `(tactic| simp! [$xs,*] $[$l]?) => `(tactic| simp only [Eng.EA,Eng.qw,Eng.zx,Eng.qv,Eng.qm,Eng.jm,Eng.yn,Eng.zR,Eng.qN,Eng.jb,Eng.ye,we,Option.map_some,Option.bind_none,Option.map_none,if_true,if_false,↓reduceIte,and_self,Bool.not_true,Bool.not_false,wq,Int.reduceLT,Int.reduceLE,Int.reduceNeg,Nat.reduceMul,Nat.reduceAdd,Nat.reduceLeDiff,List.length_cons,List.length_nil,List.set,true_and,and_true,$xs,*] $[$l]?)
section
open PySem Eng LG
namespace M
noncomputable def eI (xs:List Int):List D:=xs.map D.int
noncomputable def tI (xs:List Int):D:=.tup (eI xs)
noncomputable def eL (L:List (List Int)):D:=.tup (L.map tI)
theorem qa (xs:List Int):noE (tI xs)=some (tI xs):=rfl
theorem ya (L:List (List Int)):noE (eL L)=some (eL L):=rfl
theorem qan (xs:List Int):intsOf (eI xs)=some xs:=by
 induction xs with
 | nil=>rfl
 | cons x r ih=>simp only [eI,List.map_cons,intsOf] at *;rw [ih];rfl
theorem qbt (xs:List Int):jaC (eI xs)=true:=by
 induction xs with
 | nil=>rfl
 | cons x r ih=>simp only [eI,List.map_cons,jaC,noL] at *;rw [ih];rfl
theorem qa4 (xs:List Int):yS (eI xs)=true:=by
 induction xs with
 | nil=>rfl
 | cons x r ih=>simp only [eI,List.map_cons,yS,noS] at *;rw [ih];rfl
theorem ybt (xs:List Int):zbn (eI xs)=0:=by
 induction xs with
 | nil=>rfl
 | cons x r ih=>simp only [eI,List.map_cons,zbn,dep] at *;rw [ih];rfl
theorem ydf (xs ys:List Int):zbW (eI xs) (eI ys)=decide (xs=ys):=by
 induction xs generalizing ys with
 | nil=>cases ys<;>simp [eI,zbW]
 | cons x r ih =>
  cases ys with
  | nil=>simp [eI,zbW]
  | cons y s =>
   have:=ih s
   simp only [eI,List.map_cons,zbW,eqD] at *;rw [this]
   by_cases h:x=y<;>simp [h]
theorem jaI (xs ys:List Int):eqD (tI xs) (tI ys)=decide (xs=ys):=ydf xs ys
theorem jbt (xs ys:List Int):jak (tI xs) (tI ys)=true:=by
 simp [jak,tI,dep,noS,ybt,qa4]
theorem yf (xs:List Int):(eI xs).length=xs.length:=by simp [eI]
theorem zcg {α:Type} {xs:List α} {j:Nat} {v:α} (h:xs[j]?=some v):atI xs (j:Int)=some v:=by
 have hj:j<xs.length:=(wu.mp h).1
 have e:Eng.ixN xs.length (j:Int)=some j:=by
  unfold Eng.ixN;rw [if_pos (by omega),if_pos (by omega)];simp
 unfold atI;rw [e];exact h
theorem jt {α:Type} {xs:List α} {i:Int} {v:α} (h0:0<=i) (h:xs[i.toNat]?=some v):atI xs i=some v:=by
 have:=zcg h
 rwa [show ((i.toNat:Nat):Int)=i by omega] at this
theorem qaY {α:Type} (xs:List α) (v:α):atI (xs++[v]) (-1)=some v:=by
 have e:Eng.ixN (xs++[v]).length (-1)=some xs.length:=by
  unfold Eng.ixN;rw [if_neg (by omega),if_pos (by simp;omega),wW,List.length_singleton];congr 1;omega
 unfold atI;rw [e];simp
theorem ybH {f:D->List Sl->Option Fl} (P:List Sl->Prop):∀ (ds:List D) (ρ:List Sl),P ρ->(∀ d∈ds,∀ ρ,P ρ->∃ ρ',f d ρ=some (.nx ρ')/\P ρ')->∃ ρ',forL f ds ρ=some (.nx ρ')/\P ρ'
 | [],ρ,h,_=>⟨ρ,rfl,h⟩
 | d::ds,ρ,h,hs=>by
  obtain ⟨ρ1,e1,h1⟩:=hs d (by simp) ρ h;obtain ⟨ρ2,e2,h2⟩:=ybH P ds ρ1 h1 λd hd=>hs d (by simp [hd])
  refine ⟨ρ2,?_,h2⟩;simp only [forL,e1,we];exact e2
theorem zaj {f:D->List Sl->Option Fl} (P:Nat->List Sl->Prop):∀ (ds:List D) (k:Nat) (ρ:List Sl),P k ρ->(∀ i d ρ,ds[i]?=some d->P (k+i) ρ->∃ ρ',f d ρ=some (.nx ρ')/\P (k+i+1) ρ')->∃ ρ',forL f ds ρ=some (.nx ρ')/\P (k+ds.length) ρ'
 | [],k,ρ,h,_=>⟨ρ,rfl,h⟩
 | d::ds,k,ρ,h,hs=>by
  obtain ⟨ρ1,e1,h1⟩:=hs 0 d ρ (by simp) h
  obtain ⟨ρ2,e2,h2⟩:=zaj P ds (k+1) ρ1 h1 λi d ρ hd hp=>by
   have:=hs (i+1) d ρ (by simpa using hd) (by rwa [show k+(i+1)=k+1+i by omega])
   rwa [show k+(i+1)+1=k+1+i+1 by omega] at this
  refine ⟨ρ2,?_,by rwa [show k+1+ds.length=k+(ds.length+1) by omega] at h2⟩;simp only [forL,e1,we];exact e2
theorem zO {d:D}:∀ {n:Nat} {lo:Int},d∈zj lo n->∃ i:Int,d=.int i/\lo<=i/\i<lo+n
 | 0,_,h=>by simp [zj] at h
 | n+1,lo,h=>by
  simp only [zj,wy] at h;rcases h with rfl | h
  ·exact ⟨lo,rfl,by omega,by omega⟩
  ·obtain ⟨i,e,h1,h2⟩:=zO h;exact ⟨i,e,by omega,by omega⟩
theorem yp:∀ (n:Nat) (lo:Int),(zj lo n).length=n
 | 0,_=>rfl
 | n+1,lo=>by simp [zj,yp n]
theorem jV:∀ (n:Nat) (lo:Int) (i:Nat),i<n->(zj lo n)[i]?=some (.int (lo+i))
 | 0,_,_,h=>by omega
 | n+1,lo,0,_=>by simp [zj]
 | n+1,lo,i+1,h=>by
  simp only [zj,List.getElem?_cons_succ];rw [jV n (lo+1) i (by omega)];congr 2;omega
theorem qaV {f:D->Option (Option D)} (R:D->D->Prop):∀ (ds:List D),(∀ d∈ds,∃ x,f d=some (some x)/\R d x)->∃ rs,gather f ds=some rs/\rs.length=ds.length/\∀ x∈rs,∃ d∈ds,R d x
 | [],_=>⟨[],rfl,rfl,by simp⟩
 | d::ds,h=>by
  obtain ⟨x,e,hx⟩:=h d (by simp);obtain ⟨rs,e2,hl,h2⟩:=qaV R ds λd hd=>h d (by simp [hd])
  refine ⟨x::rs,by rw [gather,e,we,e2];rfl,by simp [hl],λy hy=>?_⟩;rcases wy.mp hy with rfl | hy
  ·exact ⟨d,by simp,hx⟩
  ·obtain ⟨d',hd',r⟩:=h2 y hy;exact ⟨d',by simp [hd'],r⟩
theorem yaV {i j:Int} (h:-(2^64)<j/\j<2^64):y0 i j=true:=by
 unfold y0;rw [decide_eq_true h.1,decide_eq_true h.2];simp
theorem yP {i j:Int} (h:-(2^64)<i/\i<2^64):y0 i j=true:=by
 unfold y0;rw [decide_eq_true h.1,decide_eq_true h.2];simp
noncomputable def drawn (n k:Int):Int :=
 let d:=(n+104729*k+17)*69621%2147483647
 (d*d+3*d+k)%2147483629
theorem ya4 (n k:Int):0<=drawn n k/\drawn n k<2147483629 :=
 ⟨Int.emod_nonneg _ (by decide),vf _ (by decide)⟩
theorem qcg (C:Tab) (n k:Int):zN C yai [.int n,.int k]=some (.int (drawn n k)):=by
 have h1:=Int.emod_nonneg ((n+104729*k+17)*69621) (show (2147483647:Int)≠0 by decide);have h2:=vf ((n+104729*k+17)*69621) (show (0:Int)<2147483647 by decide);have c1:y0 104729 k=true:=yP (by decide);have c2:y0 (n+104729*k+17) 69621=true:=yaV (by decide);have c3:∀ d:Int,0<=d->d<2147483647->y0 d d=true:=λd a b=>yP (by omega)
 have c4:∀ d:Int,y0 3 d=true:=λd=>yP (by decide)
 simp [zN,noE,yai,exs,ex,ev,evs,vP,vA,zax,jd2,zd3,jcW,puT,Sl.pure,Sl.all,List.replicate,c1,c2,c3 _ h1 h2,c4,drawn]
theorem zcE (C:Tab) (ns:List Int) (k:Int) (hk:0<=k):zN C zan [.scr ns,.int k]=some (.int (ns.getD k.toNat 0)):=by
 refine jg rfl ?_
 by_cases h:k<(ns.length:Int)
 ·have h2:k.toNat<ns.length:=by omega
  have h3:ns[k.toNat]?=some ns[k.toNat]:=by simp [h2]
  refine zJ (k:=true) (d:=.bl true) ?_ rfl (λ_=>?_) (λz=>nomatch z)
  ·simp! [zc,zo,qc,yc,jc,qd,List.map_cons,List.map_nil,List.cons_append];rw [decide_eq_true h]
  ·rw [jh (d:=.int ns[k.toNat]) ?_]
   ·simp [List.getD,h3]
   ·simp! [zc,zo,qc,yc,jc,qd,List.map_cons,List.map_nil,List.cons_append,jt hk h3]
 ·have h3:ns[k.toNat]?=none:=by simp;omega
  refine zJ (k:=false) (d:=.bl false) ?_ rfl (λz=>nomatch z) (λ_=>?_)
  ·simp! [zc,zo,qc,yc,jc,qd,List.map_cons,List.map_nil,List.cons_append];rw [vp h]
  ·rw [yR,we];have e:ns.getD k.toNat 0=0:=by simp [List.getD,h3]
   rw [e];exact jh (d:=.int 0) rfl
end M
end
section
open PySem Eng LG
namespace M
noncomputable def sv (s:List Int) (v:Nat):Nat:=(s.getD v 0).toNat
noncomputable def okS (m:Nat) (s:List Int):Bool:=s.length==m&&(List.range m).all λv=>decide (0<=s.getD v 0)&&decide (s.getD v 0<=(v:Int))&&(s.getD (sv s v) 0==s.getD v 0)
noncomputable def zy (s t:List Int):Bool:=(List.range s.length).all λv=>t.getD v 0==t.getD (sv s v) 0
noncomputable def yay (s:List Int):List Int:=sortI (qbn s)
noncomputable def mrg (s:List Int) (hi lo:Nat):List Int:=s.map λp=>if p=(yay s).getD hi 0 then (yay s).getD lo 0 else p
noncomputable def lists:Nat->List (List Int)
 | 0=>[[]]
 | m+1=>(lists m).flatMap λl=>[0,1,2,3,4].map λv=>l++[v]
noncomputable def steps (m:Nat):List (List Int):=(lists m).filter (okS m)
theorem zaJ:∀ (m:Nat) (s:List Int),s.length=m->(∀ x∈s,0<=x/\x<5)->s∈lists m
 | 0,s,h,_=>by simp [lists,List.length_eq_zero_iff.mp h]
 | m+1,s,h,hv=>by
  have hne:s≠[]:=by intro e;subst e;simp at h
  rw [<-List.dropLast_concat_getLast hne];refine List.mem_flatMap.mpr ⟨s.dropLast,zaJ m _ (by simp;omega) λx hx=>hv x ((List.dropLast_subset s) hx),?_⟩
  have:=hv _ (List.getLast_mem hne)
  refine wJ.mpr ⟨s.getLast hne,?_,rfl⟩
  have:s.getLast hne=0\/s.getLast hne=1\/s.getLast hne=2\/s.getLast hne=3\/s.getLast hne=4:=by omega
  rcases this with e | e | e | e | e<;>simp [e]
theorem okS_iff {m:Nat} {s:List Int}:okS m s=true↔s.length=m/\∀ v<m,0<=s.getD v 0/\s.getD v 0<=(v:Int)/\s.getD (sv s v) 0=s.getD v 0:=by
 simp [okS,and_assoc]
theorem qas {m:Nat} (hm:m<=5) {s:List Int} (h:okS m s=true):s∈steps m:=by
 obtain ⟨hl,hv⟩:=okS_iff.mp h;refine List.mem_filter.mpr ⟨zaJ m s hl λx hx=>?_,h⟩;obtain ⟨i,hi,rfl⟩:=List.mem_iff_getElem.mp hx
 have:=hv i (by omega)
 have e:s.getD i 0=s[i]:=by simp [List.getD,hi]
 rw [e] at this;omega
noncomputable def zed (m:Nat) (s:List Int):Bool:=(List.range (yay s).length).all λhi=>(List.range hi).all λlo=>okS m (mrg s hi lo)&&zy s (mrg s hi lo)
theorem jdf:∀ m∈[1,2,3,4,5],∀ s∈steps m,zed m s=true:=by decide +kernel
theorem jdO {m:Nat} (h1:1<=m) (hm:m<=5) {s:List Int} (h:okS m s=true) {hi lo:Nat} (a:hi<(yay s).length) (b:lo<hi):okS m (mrg s hi lo)=true/\zy s (mrg s hi lo)=true:=by
 have h5:m∈[1,2,3,4,5]:=by
  have:m=1\/m=2\/m=3\/m=4\/m=5:=by omega
  simpa using this
 have q:=jdf m h5 s (qas hm h);have q1:=List.all_eq_true.mp q hi (vg.mpr a);have q2:=List.all_eq_true.mp q1 lo (vg.mpr b);simpa using q2
theorem ycg:∀ m∈[1,2,3,4,5],okS m (List.replicate m 0)=true/\okS m ((List.range m).map Int.ofNat)=true/\∀ s∈steps m,zy s (List.replicate m 0)=true:=by decide +kernel
theorem coarse_iff {s t:List Int}:zy s t=true↔∀ v<s.length,t.getD v 0=t.getD (sv s v) 0:=by simp [zy]
theorem jP {m:Nat} {s:List Int} (h:okS m s=true):zy s s=true:=by
 obtain ⟨hl,hv⟩:=okS_iff.mp h;exact coarse_iff.mpr λv hv'=>((hv v (by omega)).2.2).symm
theorem zaw {m:Nat} {s t u:List Int} (hs:okS m s=true) (ht:okS m t=true) (a:zy s t=true) (b:zy t u=true):zy s u=true:=by
 obtain ⟨hl,hv⟩:=okS_iff.mp hs;obtain ⟨hl2,hv2⟩:=okS_iff.mp ht;have a:=coarse_iff.mp a;have b:=coarse_iff.mp b;refine coarse_iff.mpr λv hv'=>?_
 have lt:sv s v<m:=by have:=hv v (by omega);unfold sv;omega
 rw [b v (by omega),b (sv s v) (by omega)];unfold sv at *;rw [a v hv']
structure Lad (m:Nat) (L:List (List Int)):Prop where
 m1:1<=m
 m5:m<=5
 len:L.length<=4
 ok:∀ s∈L,okS m s=true
 first:L[0]?=some ((List.range m).map Int.ofNat)
 last:L.getLast?=some (List.replicate m 0)
 up:∀ (i:Nat) (s t:List Int),L[i]?=some s->L[i+1]?=some t->zy s t=true/\s≠t
end M
end
section
open PySem Eng LG
namespace M
theorem qcP {k:Int}:zax .Mult (.int 4) (.int k)=some (.int (4*k)):=qw (yP (by decide))
theorem qq {n:Nat} (h:n<=1000):n<=sizeLine:=wU h (by decide)
theorem yac {n:Nat} (h:n<=1000):n<sizeLine:=Nat.lt_of_le_of_lt h (by decide)
noncomputable abbrev LSt (n:Int) (m:Int) (s:List Int) (F:List (List Int)) (r:List Sl):List Sl :=
 .pu (.int n)::.pu (.int m)::.pu (.lst (eI s))::.ow (F.map tI)::r
theorem jbi {f:D->Option (Option D)} {g:Int->Int}:∀ (xs:List Int),(∀ x∈xs,f (.int x)=some (some (.int (g x))))->gather f (eI xs)=some (eI (xs.map g))
 | [],_=>rfl
 | x::xs,h=>by
  have h1:=h x (by simp);have h2:=jbi xs λy hy=>h y (by simp [hy])
  simp only [eI,List.map_cons] at *;rw [gather,h1,we,h2];rfl
theorem qed (x y:D) (k:Bool):atI [x,y] (if k then 1 else 0)=some (if k then y else x):=by cases k<;>rfl
theorem jcg {m:Nat} (h5:m<=5) {s:List Int} (ok:okS m s=true):yag s=true:=by
 obtain ⟨hl,hv⟩:=okS_iff.mp ok;unfold yag;rw [List.all_eq_true];intro x hx;obtain ⟨i,hi,rfl⟩:=List.mem_iff_getElem.mp hx
 have:=hv i (by omega)
 have e:s.getD i 0=s[i]:=by simp [List.getD,hi]
 rw [e] at this;have z:(lowM:Int)=5:=rfl;simp only [wj,wI,z];omega
theorem qaw {s:List Int} (h:yag s=true):yJ .sortedSet [.lst (eI s)]=some (.lst (eI (yay s))):=by
 simp only [yJ,ints1,itemsD,we,qan];rw [if_pos h];rfl
theorem inner (C:Tab) (hC:∀ a b:Int,C 2 [.int a,.int b]=some (.int (drawn a b))) {n k j mi:Int} {m:Nat} {s:List Int} {F:List (List Int)} {x6 x7 x8 x9:Sl} (h1:1<=m) (h5:m<=5) (ok:okS m s=true) :
  ∃ s' x6' x7' x8' x9',exs C qP (LSt n mi s F [.pu (.int k),.pu (.int j),x6,x7,x8,x9])=some (.nx (LSt n mi s' F [.pu (.int k),.pu (.int j),x6',x7',x8',x9']))/\okS m s'=true/\zy s s'=true:=by
 have sm:=jcg h5 ok
 by_cases hb:2<(yay s).length
 ·have dd:=ya4 n (4*k+j);generalize hd:drawn n (4*k+j)=dr at dd;have t1:(0:Int)<((yay s).length:Int)-1:=by omega
  have hi1:0<1+dr/4%(((yay s).length:Int)-1):=by
   have:=Int.emod_nonneg (dr/4) (show (((yay s).length:Int)-1)≠0 by omega)
   omega
  have hi2:1+dr/4%(((yay s).length:Int)-1)<((yay s).length:Int):=by
   have:=vf (dr/4) t1
   omega
  generalize hhi:1+dr/4%(((yay s).length:Int)-1)=hi at hi1 hi2;have lo1:0<=dr/4/8%hi:=Int.emod_nonneg _ (by omega);have lo2:dr/4/8%hi<hi:=vf _ hi1;generalize hlo:dr/4/8%hi=lo at lo1 lo2
  have ghi:(eI (yay s))[hi.toNat]?=some (.int ((yay s).getD hi.toNat 0)):=by
   have:hi.toNat<(yay s).length:=by omega
   simp [eI,List.getD,this]
  have glo:(eI (yay s))[lo.toNat]?=some (.int ((yay s).getD lo.toNat 0)):=by
   have:lo.toNat<(yay s).length:=by omega
   simp [eI,List.getD,this]
  have mo:=jdO h1 h5 ok (hi:=hi.toNat) (lo:=lo.toNat) (by omega) (by omega);have eh:=jt (by omega:0<=hi) ghi;have el:=jt lo1 glo;have L2:2<=sizeLine:=qq (by decide);refine ⟨mrg s hi.toNat lo.toNat,.pu (.lst (eI (yay s))),.pu (.int (dr/4)),.pu (.int hi),.pu (.int lo),?_,mo.1,mo.2⟩;refine yt (d:=.lst (eI (yay s))) (by simp! [zc,zo,qc,yc,jc,qd,qa,ya,qaw sm]) rfl ?_;refine zJ (k:=true) (d:=.bl true) ?_ rfl (λ_=>?_) (λz=>nomatch z)
  ·simp! [zc,zo,qc,yc,jc,qd,qa,ya,LSt,List.set,yf];rw [decide_eq_true (by omega)]
  simp only [LSt,List.set];rw [yt (d:=.int (dr/4)) (x:=some (.nx _)) ?_ rfl (yt (d:=.int hi) ?_ rfl (yt (d:=.int lo) ?_ rfl (yt (d:=.lst (eI (mrg s hi.toNat lo.toNat))) ?_ rfl rfl)))]
  ·rfl
  ·simp! [zc,zo,qc,yc,jc,qd,qa,ya,qcP,hC,hd]
  ·simp! [zc,zo,qc,yc,jc,qd,qa,ya,yf,t1,hhi]
  ·simp! [zc,zo,qc,yc,jc,qd,qa,ya,List.set,hi1,hlo]
  ·simp! [zc,zo,qc,yc,jc,qd,qa,ya,List.set];rw [jbi (g:=λp=>if p=(yay s).getD hi.toNat 0 then (yay s).getD lo.toNat 0 else p)]
   ·rfl
   intro p hp;simp only [turn,zaa,yg,List.replicate,List.map_cons,List.map_nil,List.set,List.cons_append,List.nil_append,EA,qw,zx,qv,qm,jm,yn,zR,qN,jb,ye,we,Option.map_some,Option.bind_none,Option.map_none,if_true,if_false,↓reduceIte,and_self,Bool.not_true,Bool.not_false,wq,Int.reduceLT,Int.reduceLE,Int.reduceNeg,Nat.reduceMul,Nat.reduceAdd,Nat.reduceLeDiff,List.length_cons,List.length_nil,List.set,true_and,and_true,zc,zo,qc,yc,jc,qd,qa,ya,eh,el,L2];rw [zR (by rfl)];simp! [zc,zo,qc,yc,jc,qd,qa,ya,eqD,qed]
   by_cases q:p=(yay s).getD hi.toNat 0
   ·simp only [q,beq_self_eq_true,if_true]
   ·simp only [q,w6.mpr q,if_false,wq]
 ·refine ⟨s,.pu (.lst (eI (yay s))),x7,x8,x9,?_,ok,jP ok⟩;refine yt (d:=.lst (eI (yay s))) (by simp! [zc,zo,qc,yc,jc,qd,qa,ya,qaw sm]) rfl ?_;refine zJ (k:=false) (d:=.bl false) ?_ rfl (λz=>nomatch z) (λ_=>rfl);simp! [zc,zo,qc,yc,jc,qd,qa,ya,LSt,List.set,yf];rw [vp (by omega)]
end M
end
section
open PySem Eng LG
namespace M
structure Cha (m:Nat) (L:List (List Int)) (f:List Int):Prop where
 ok:∀ s∈L,okS m s=true
 first:L[0]?=some ((List.range m).map Int.ofNat)
 last:L.getLast?=some f
 up:∀ (i:Nat) (s t:List Int),L[i]?=some s->L[i+1]?=some t->zy s t=true/\s≠t
theorem Cha.snoc {m:Nat} {L:List (List Int)} {f g:List Int} (c:Cha m L f) (ok:okS m g=true) (hc:zy f g=true) (ne:f≠g):Cha m (L++[g]) g:=by
 have hpos:0<L.length:=by
  have:=c.first
  cases L with
  | nil=>simp at this
  | cons a r=>simp
 refine ⟨λs hs=>?_,?_,by simp,λi s t h1 h2=>?_⟩
 ·rcases List.mem_append.mp hs with h | h
  ·exact c.ok s h
  ·rw [vd.mp h];exact ok
 ·rw [vn hpos];exact c.first
 ·have hi:i+1<(L++[g]).length:=(wu.mp h2).1;rw [wW,List.length_singleton] at hi;rw [vn (by omega)] at h1
  by_cases hl:i+1<L.length
  ·rw [vn hl] at h2;exact c.up i s t h1 h2
  ·rw [List.getElem?_append_right (by omega),show i+1-L.length=0 by omega] at h2;have e:g=t:=by simpa using h2
   have hf:=c.last;rw [List.getLast?_eq_getElem?,show L.length-1=i by omega,h1] at hf;have e2:s=f:=by simpa using hf
   rw [<-e,e2];exact ⟨hc,ne⟩
theorem qbT {L:List (List Int)} {f:List Int} (h:L.getLast?=some f):∃ L0,L=L0++[f]:=by
 obtain ⟨L0,e⟩:=List.getLast?_eq_some_iff.mp h;exact ⟨L0,e⟩
theorem qaJ {L:List (List Int)} {f:List Int} (h:L.getLast?=some f):atI (L.map tI) (-1)=some (tI f):=by
 obtain ⟨L0,rfl⟩:=qbT h;rw [List.map_append];exact qaY _ _
theorem ja4 {xs ys:List Int}:zV .NotEq (tI xs) (tI ys)=some (!decide (xs=ys)):=by rw [qN (jbt xs ys),jaI]
theorem jbH {xs:List Int}:D.tup (eI xs)=tI xs:=rfl
def LI (n mi:Int) (m:Nat) (i:Nat) (ρ:List Sl):Prop :=
 ∃ s L f x4 x5 x6 x7 x8 x9,ρ=LSt n mi s L [x4,x5,x6,x7,x8,x9]/\Cha m L f/\okS m s=true/\zy f s=true/\L.length<=1+i
theorem outer (C:Tab) (hC:∀ a b:Int,C 2 [.int a,.int b]=some (.int (drawn a b))) {n k mi:Int} {m i:Nat} {ρ:List Sl} (h1:1<=m) (h5:m<=5) (hi:i<=5) (h:LI n mi m i ρ) :
  ∃ ρ',((puT (.one 4) (.int k) ρ).bind λρ''=>exs C jA ρ'')=some (.nx ρ')/\LI n mi m (i+1) ρ':=by
 obtain ⟨s,L,f,x4,x5,x6,x7,x8,x9,rfl,ch,ok,co,hl⟩:=h;have m1:0<=n/24%2:=Int.emod_nonneg _ (by decide);have m2:n/24%2<2:=vf _ (by decide)
 obtain ⟨ρ1,e1,s',y5,y6,y7,y8,y9,rfl,ok',co'⟩:=ybH (f:=λd ρ'=>(puT (.one 5) d ρ').bind λρ''=>exs C qP ρ'')
  (λρ=>∃ s' y5 y6 y7 y8 y9,ρ=LSt n mi s' L [.pu (.int k),y5,y6,y7,y8,y9]/\okS m s'=true/\zy s s'=true)
  (zj 0 (1+n/24%2).toNat) (LSt n mi s L [.pu (.int k),x5,x6,x7,x8,x9]) ⟨s,x5,x6,x7,x8,x9,rfl,ok,jP ok⟩ (λd hd ρ ⟨s',y5,y6,y7,y8,y9,e,ok',co'⟩=>by
   obtain ⟨j,rfl,_,_⟩:=zO hd;subst e;obtain ⟨s2,z6,z7,z8,z9,e2,ok2,co2⟩:=inner C hC (n:=n) (k:=k) (j:=j) (F:=L) (x6:=y6) (x7:=y7) (x8:=y8) (x9:=y9) h1 h5 ok';exact ⟨_,e2,s2,.pu (.int j),z6,z7,z8,z9,rfl,ok2,zaw ok ok' co' co2⟩)
 have okf:=ch.ok f (List.mem_of_getLast? ch.last);have co2:=zaw okf ok co co'
 by_cases q:s'=f
 ·subst q;refine ⟨_,?_,s',L,s',.pu (.int k),y5,y6,y7,y8,y9,rfl,ch,ok',jP ok',by omega⟩;simp only [puT,we,LSt,List.set,jA];refine jR (ds:=zj 0 (1+n/24%2).toNat) ?_ e1 (zJ (d:=.bl false) (k:=false) ?_ rfl (λz=>nomatch z) (λ_=>rfl))
  ·simp! [zc,zo,qc,yc,jc,qd,qa,ya,rngD];rw [if_pos ⟨by omega,by omega,qq (by omega)⟩]
  ·simp! [zc,zo,qc,yc,jc,qd,qa,ya,qaJ ch.last,jbH,ja4,decide_eq_true]
 ·refine ⟨_,?_,s',L++[s'],s',.pu (.int k),y5,y6,y7,y8,y9,rfl,ch.snoc ok' co2 (Ne.symm q),ok',jP ok',by simp;omega⟩;simp only [puT,we,LSt,List.set,jA];refine jR (ds:=zj 0 (1+n/24%2).toNat) ?_ e1 (zJ (d:=.bl true) (k:=true) ?_ rfl (λ_=>?_) (λz=>nomatch z))
  ·simp! [zc,zo,qc,yc,jc,qd,qa,ya,rngD];rw [if_pos ⟨by omega,by omega,qq (by omega)⟩]
  ·simp! [zc,zo,qc,yc,jc,qd,qa,ya,qaJ ch.last,jbH,ja4,vp q]
  ·rw [yal (d:=tI s') (ds:=L.map tI) (x:=some (.nx _)) ?_ rfl ?_ rfl]
   ·simp [LSt];rfl
   ·simp! [zc,zo,qc,yc,jc,qd,qa,ya,jbH]
   ·rw [wG];exact yac (by omega)
theorem yan:∀ m:Nat,m<=5->zj 0 m=eI ((List.range m).map Int.ofNat):=by
 intro m h
 have:m=0\/m=1\/m=2\/m=3\/m=4\/m=5:=by omega
 rcases this with e | e | e | e | e | e<;>subst e<;>rfl
theorem yed (n:Int):∃ (mi:Int) (m:Nat),atI [D.int 1,.int 2,.int 3,.int 4,.int 5,.int 3,.int 4,.int 5] (n%8)=some (.int mi)/\mi=(m:Int)/\1<=m/\m<=5:=by
 have h:n%8=0\/n%8=1\/n%8=2\/n%8=3\/n%8=4\/n%8=5\/n%8=6\/n%8=7:=by omega
 rcases h with e | e | e | e | e | e | e | e<;>rw [e]
 ·exact ⟨1,1,rfl,rfl,by decide,by decide⟩
 ·exact ⟨2,2,rfl,rfl,by decide,by decide⟩
 ·exact ⟨3,3,rfl,rfl,by decide,by decide⟩
 ·exact ⟨4,4,rfl,rfl,by decide,by decide⟩
 ·exact ⟨5,5,rfl,rfl,by decide,by decide⟩
 ·exact ⟨3,3,rfl,rfl,by decide,by decide⟩
 ·exact ⟨4,4,rfl,rfl,by decide,by decide⟩
 ·exact ⟨5,5,rfl,rfl,by decide,by decide⟩
theorem rep0 (m:Nat):qcL m [D.int 0]=eI (List.replicate m 0):=by
 induction m with
 | zero=>rfl
 | succ m ih =>
  simp only [qcL,eI,List.replicate_succ,List.flatten_cons,List.map_cons] at *;rw [ih];rfl
theorem jed {m:Nat} (h1:1<=m) (h5:m<=5):m∈[1,2,3,4,5]:=by
 have:m=1\/m=2\/m=3\/m=4\/m=5:=by omega
 simpa using this
theorem ybT (C:Tab) (hC:∀ a b:Int,C 2 [.int a,.int b]=some (.int (drawn a b))) (n:Int):∃ m L,zN C d_law_ladder [.int n]=some (eL L)/\Lad m L:=by
 obtain ⟨mi,m,e8,hmi,h1,h5⟩:=yed n;have z:=ycg m (jed h1 h5);have k1:0<=n/8%3:=Int.emod_nonneg _ (by decide);have k2:n/8%3<3:=vf _ (by decide);obtain ⟨s0,hs0⟩:∃ s0,s0=(List.range m).map Int.ofNat:=⟨_,rfl⟩;rw [<-hs0] at z;have c0:Cha m [s0] s0:=⟨λs hs=>by rw [vd.mp hs];exact z.2.1,by rw [<-hs0];rfl,rfl,λi s t a b=>by simp at b⟩
 obtain ⟨ρ1,e1,s,L,f,x4,x5,x6,x7,x8,x9,rfl,ch,ok,co,hl⟩:=zaj (f:=λd ρ'=>(puT (.one 4) d ρ').bind λρ''=>exs C jA ρ'') (LI n mi m) (zj 0 (n/8%3).toNat) 0
  (LSt n mi s0 [s0] [.un, .un, .un, .un, .un, .un]) ⟨s0, [s0], s0, .un, .un, .un, .un, .un, .un, rfl, c0, z.2.1, jP z.2.1, by simp⟩ (λi d ρ hd hp => by
   have hi:i<(zj 0 (n/8%3).toNat).length:=(wu.mp hd).1;rw [yp] at hi;rw [jV _ _ _ hi] at hd;cases hd;exact outer C hC h1 h5 (by omega) hp)
 rw [yp] at hl;have okf:=ch.ok f (List.mem_of_getLast? ch.last)
 have rep:zax .Mult (.tup [.int 0]) (.int mi)=some (tI (List.replicate m 0)):=by
  have e:mi.toNat=m:=by omega
  rw [yn ⟨by rw [e];exact qq (by show 1*m<=1000;omega),by omega,by omega⟩,e,rep0];rfl
 have run:∀ (x:Option Fl),(exs C (.cons (.ite (.cmp .NotEq (.idx (.var 3) (.neg (.cst (.int 1)))) (.bin .Mult (.tup (.cons (.cst (.int 0)) .nil)) (.var 1))) (.cons (.app 3 .pu (.bin .Mult (.tup (.cons (.cst (.int 0)) .nil)) (.var 1))) .nil) .nil) (.cons (.ret (.blt .tuple (.cons (.var 3) .nil))) .nil)) (LSt n mi s L [x4,x5,x6,x7,x8,x9])=x) ->
   exs C d_law_ladder.b ([.pu (.int n)]++List.replicate 9 .un)=x:=λx hx=>by
  simp only [d_law_ladder,List.replicate,List.cons_append,List.nil_append];refine yt (d:=.int mi) (ρ':=[.pu (.int n),.pu (.int mi),.un,.un,.un,.un,.un,.un,.un,.un]) ?_ rfl ?_
  ·simp! [zc,zo,qc,yc,jc,qd,qa,ya];rw [if_pos (qq (by decide)),we];exact e8
  refine yt (d:=.lst (eI s0)) (ρ':=[.pu (.int n),.pu (.int mi),.pu (.lst (eI s0)),.un,.un,.un,.un,.un,.un,.un]) ?_ rfl ?_
  ·simp! [zc,zo,qc,yc,jc,qd,qa,ya,rngD];rw [if_pos ⟨by omega,by omega,qq (by omega)⟩,we,show mi.toNat=m by omega,yan m h5,<-hs0]
  refine qax (ds:=[tI s0]) ?_ ?_ ?_
  ·simp! [zc,zo,qc,yc,jc,qd,qa,ya,jbH];rw [if_pos (qq (by decide))]
  ·simp [jaC,noL,tI,qbt]
  simp only [List.set];refine jR (ds:=zj 0 (n/8%3).toNat) ?_ e1 hx
  ·simp! [zc,zo,qc,yc,jc,qd,qa,ya,rngD];rw [if_pos ⟨by omega,by omega,qq (by omega)⟩]
 have fin:∀ L':List (List Int),yJ .tuple [.lst (L'.map tI)]=some (eL L'):=λL'=>rfl
 by_cases q:f=List.replicate m 0
 ·refine ⟨m,L,?_,h1,h5,by omega,ch.ok,ch.first,by rw [ch.last,q],ch.up⟩;refine jg rfl (run (some (.rt (eL L))) (zJ (d:=.bl false) (k:=false) ?_ rfl (λz=>nomatch z) λ_=>?_))
  ·simp! [zc,zo,qc,yc,jc,qd,qa,ya,qaJ ch.last];rw [if_pos (qq (by decide)),we,rep,we,ja4,decide_eq_true q];rfl
  ·rw [yR,we];refine jh ?_;simp! [zc,zo,qc,yc,jc,qd,qa,ya];rfl
 ·refine ⟨m,L++[List.replicate m 0],?_,h1,h5,by simp;omega,(ch.snoc z.1 (z.2.2 f (qas h5 okf)) q).ok,(ch.snoc z.1 (z.2.2 f (qas h5 okf)) q).first,by simp,(ch.snoc z.1 (z.2.2 f (qas h5 okf)) q).up⟩;refine jg rfl (run (some (.rt (eL (L++[List.replicate m 0])))) (zJ (d:=.bl true) (k:=true) ?_ rfl (λ_=>?_) (λz=>nomatch z)))
  ·simp! [zc,zo,qc,yc,jc,qd,qa,ya,qaJ ch.last];rw [if_pos (qq (by decide)),we,rep,we,ja4,vp q];rfl
  ·rw [yal (d:=tI (List.replicate m 0)) (ds:=L.map tI) (x:=some (.nx _)) ?_ rfl ?_ rfl]
   ·rw [we];refine jh ?_;simp! [zc,zo,qc,yc,jc,qd,qa,ya,LSt];rw [<-fin,List.map_append];simp! [zc,zo,qc,yc,jc,qd,qa,ya,List.map_cons,List.map_nil]
   ·simp! [zc,zo,qc,yc,jc,qd,qa,ya];rw [if_pos (qq (by decide)),we,rep]
   ·rw [wG];exact yac (by omega)
end M
end
section
open PySem Eng LG
namespace M
theorem jH:∀ (ds:List D) (k:Nat),(zaf k ds).length=ds.length
 | [],_=>rfl
 | d::ds,k=>by simp [zaf,jH ds]
theorem qJ:∀ (ds:List D) (k i:Nat),(zaf k ds)[i]?=(ds[i]?).map λd=>.tup [.int ((k+i:Nat):Int),d]
 | [],_,_=>by simp [zaf]
 | d::ds,k,0=>by simp [zaf]
 | d::ds,k,i+1=>by
  simp only [zaf,List.getElem?_cons_succ];rw [qJ ds (k+1) i,show k+1+i=k+(i+1) by omega]
def RowOk:List Int->List (List (List Int))->Prop
 | [],[]=>True
 | x::r,L::Ls=>(0<=x/\x<((L.headD []).length:Int))/\RowOk r Ls
 | _,_=>False
theorem RowOk.snoc {L:List (List Int)} {x:Int} (h:0<=x/\x<((L.headD []).length:Int)):∀ {r:List Int} {Ls:List (List (List Int))},RowOk r Ls->RowOk (r++[x]) (Ls++[L])
 | [],[],_=>⟨h,trivial⟩
 | y::r,M::Ls,q=>⟨q.1,RowOk.snoc h q.2⟩
 | [],_::_,q=>q.elim
 | _::_,[],q=>q.elim
theorem RowOk.len:∀ {r:List Int} {Ls:List (List (List Int))},RowOk r Ls->r.length=Ls.length
 | [],[],_=>rfl
 | y::r,M::Ls,q=>by simp [RowOk.len q.2]
 | [],_::_,q=>q.elim
 | _::_,[],q=>q.elim
structure TabOk (Ls:List (List (List Int))) (rows:List (List Int)) (secs:List Int):Prop where
 c1:1<=Ls.length
 c3:Ls.length<=3
 lad:∀ L∈Ls,∃ m,Lad m L
 r1:1<=rows.length
 r8:rows.length<=8
 row:∀ r∈rows,RowOk r Ls
 sl:secs.length=rows.length
 sec:∀ s∈secs,0<=s/\s<4
noncomputable def eT (Ls:List (List (List Int))) (rows:List (List Int)) (secs:List Int):D:=.tup [.tup (Ls.map eL),.tup (rows.map tI),tI secs]
theorem yd (Ls:List (List (List Int))) (rows:List (List Int)) (secs:List Int):noE (eT Ls rows secs)=some (eT Ls rows secs):=rfl
theorem zch (xs:List Int):noL (tI xs)=true:=by simp [tI,noL,qbt]
theorem qch (L:List (List Int)):jaC (L.map tI)=true:=by
 induction L with
 | nil=>rfl
 | cons a r ih=>simp [jaC,zch,ih]
theorem zdP (L:List (List Int)):noL (eL L)=true:=by simp [eL,noL,qch]
theorem Lad.head {m:Nat} {L:List (List Int)} (h:Lad m L):L.headD []=(List.range m).map Int.ofNat:=by
 have:=h.first
 cases L with
 | nil=>simp at this
 | cons a r=>simpa using this
theorem Lad.pos {m:Nat} {L:List (List Int)} (h:Lad m L):0<(L.headD []).length:=by
 rw [h.head];simp;exact h.m1
theorem Lad.hd {m:Nat} {L:List (List Int)} (h:Lad m L):atI (L.map tI) 0=some (tI (L.headD [])):=by
 have:=h.first
 cases L with
 | nil=>simp at this
 | cons a r=>exact jt (by decide) rfl
theorem ych (xs:List Int):yJ .len [tI xs]=some (.int xs.length):=by rw [tI,yb,yf]
noncomputable abbrev TSt (n:Int) (Ls:List (List (List Int))) (rows:List (List Int)) (secs:List Int) (r:List Sl):List Sl :=
 .pu (.int n)::.pu (.tup (Ls.map eL))::.ow (rows.map tI)::.ow (eI secs)::r
theorem jch (C:Tab) (hC:∀ a b:Int,C 2 [.int a,.int b]=some (.int (drawn a b))) {n k:Int} {Ls:List (List (List Int))} {rows:List (List Int)} {secs:List Int} (hL:∀ L∈Ls,∃ m,Lad m L) (h3:Ls.length<=3) {x6 x7:Sl} :
  ∃ row x6' x7',forL (λd ρ'=>(puT (.many [6,7]) d ρ').bind λρ''=>exs C zL ρ'') (zaf 0 (Ls.map eL)) (TSt n Ls rows secs [.pu (.int k),.ow [],x6,x7])=some (.nx (TSt n Ls rows secs [.pu (.int k),.ow (eI row),x6',x7']))/\RowOk row Ls:=by
 obtain ⟨ρ',e,row,x6',x7',rfl,ok⟩:=zaj (f:=λd ρ'=>(puT (.many [6,7]) d ρ').bind λρ''=>exs C zL ρ'')
  (λi ρ=>∃ row x6 x7,ρ=TSt n Ls rows secs [.pu (.int k),.ow (eI row),x6,x7]/\RowOk row (Ls.take i)) (zaf 0 (Ls.map eL)) 0 (TSt n Ls rows secs [.pu (.int k),.ow [],x6,x7]) ⟨[],x6,x7,rfl,by simp [RowOk]⟩
  (λi d ρ hd ⟨row,y6,y7,er,ok⟩=>by
   subst er;rw [qJ,wz] at hd;cases hLi:Ls[i]? with
   | none=>rw [hLi] at hd;cases hd
   | some L =>
    rw [hLi] at hd;cases hd;obtain ⟨m,lad⟩:=hL L (wV hLi);have hp:=lad.pos;have dd:=ya4 n (10+4*k+((0+i:Nat):Int));generalize hi0:((0+i:Nat):Int)=ii at dd;generalize hdr:drawn n (10+4*k+ii)=dr at dd;generalize hln:((L.headD []).length:Int)=ln at hp;have ln1:0<ln:=by omega
    have x1:0<=dr/4%ln:=Int.emod_nonneg _ (by omega);have x2:dr/4%ln<ln:=vf _ ln1;have rl:=ok.len;have il:i<Ls.length:=(wu.mp hLi).1;refine ⟨_,?_,row++[dr/4%ln],.pu (.int ii),.pu (eL L),rfl,?_⟩
    ·simp only [hi0,puT,List.length_cons,List.length_nil,if_true,puM,we,TSt,List.set,zL];rw [yal (d:=.int (dr/4%ln)) (ds:=eI row) (x:=some (.nx _)) ?_ rfl ?_ rfl]
     ·simp [eI]
     ·simp! [zc,zo,qc,yc,jc,qd,qa,ya,qcP,hC,hdr,eL,lad.hd,ych,hln,ln1]
     ·rw [yf,rl,List.length_take];exact yac (by omega)
    ·rw [show 0+i+1=i+1 by omega,List.take_add_one,hLi];rw [show 0+i=i by omega] at ok;exact ok.snoc ⟨x1,by rw [hln];exact x2⟩)
 rw [jH,wG,show 0+Ls.length=Ls.length by omega,List.take_length] at ok;exact ⟨row,x6',x7',e,ok⟩
theorem three (n:Int):∃ q:Int,atI [D.int 2,.int 4,.int 3] (n/72%3)=some (.int q)/\0<q/\q<=4:=by
 have h:n/72%3=0\/n/72%3=1\/n/72%3=2:=by omega
 rcases h with e | e | e<;>rw [e]
 ·exact ⟨2,rfl,by decide,by decide⟩
 ·exact ⟨4,rfl,by decide,by decide⟩
 ·exact ⟨3,rfl,by decide,by decide⟩
def TI (n:Int) (Ls:List (List (List Int))) (i:Nat) (ρ:List Sl):Prop :=
 ∃ rows secs x4 x5 x6 x7,ρ=TSt n Ls rows secs [x4,x5,x6,x7]/\rows.length=i/\secs.length=i/\(∀ r∈rows,RowOk r Ls)/\∀ s∈secs,0<=s/\s<4
theorem jan {i j:Int}:zV .Eq (.int i) (.int j)=some (i==j):=rfl
theorem zci (C:Tab) (hC:∀ a b:Int,C 2 [.int a,.int b]=some (.int (drawn a b))) {n:Int} {Ls:List (List (List Int))} (hL:∀ L∈Ls,∃ m,Lad m L) (h3:Ls.length<=3) {i:Nat} {ki:Int} (hk:ki=(i:Int)) (hi:i<=8) {ρ:List Sl} (h:TI n Ls i ρ) :
  ∃ ρ',((puT (.one 4) (.int ki) ρ).bind λρ''=>exs C yG ρ'')=some (.nx ρ')/\TI n Ls (i+1) ρ':=by
 obtain ⟨rows,secs,x4,x5,x6,x7,rfl,rl,sl,ro,so⟩:=h;obtain ⟨row,y6,y7,e1,ok⟩:=jch C hC (n:=n) (k:=ki) (rows:=rows) (secs:=secs) hL h3 (x6:=x6) (x7:=x7);obtain ⟨q,eq,q1,q2⟩:=three n;have d70:=ya4 n (70+ki);generalize h70:drawn n (70+ki)=s70 at d70;have s1:0<=s70/4%q:=Int.emod_nonneg _ (by omega);have s2:s70/4%q<q:=vf _ q1;have L3:3<=sizeLine:=qq (by decide)
 have tail:∀ (row:List Int),RowOk row Ls->exs C (.cons (.app 2 .cl (.blt .tuple (.cons (.var 5) .nil))) (.cons (.app 3 .pu (.bin .Mod (.bin .FloorDiv (.call 2 (.cons (.var 0) (.cons (.bin .Add (.cst (.int 70)) (.var 4)) .nil))) (.cst (.int 4))) (.idx (.tup (.cons (.cst (.int 2)) (.cons (.cst (.int 4)) (.cons (.cst (.int 3)) .nil)))) (.bin .Mod (.bin .FloorDiv (.var 0) (.cst (.int 72))) (.cst (.int 3)))))) .nil))
   (TSt n Ls rows secs [.pu (.int ki),.ow (eI row),y6,y7])=some (.nx (TSt n Ls (rows++[row]) (secs++[s70/4%q]) [.pu (.int ki),.ow (eI row),y6,y7])):=λrow ok=>by
  refine zcX (d:=tI row) (ds:=rows.map tI) ?_ rfl (zch row) ?_ ?_
  ·simp! [zc,zo,qc,yc,jc,qd,qa,ya,TSt];rfl
  ·rw [wG];exact yac (by omega)
  simp only [TSt,List.set];rw [yal (d:=.int (s70/4%q)) (ds:=eI secs) (x:=some (.nx _)) ?_ rfl ?_ rfl]
  ·simp [eI]
  ·simp! [zc,zo,qc,yc,jc,qd,qa,ya,hC,h70,L3,eq,q1]
  ·rw [yf];exact yac (by omega)
 have nxt:∀ (row:List Int),RowOk row Ls->TI n Ls (i+1) (TSt n Ls (rows++[row]) (secs++[s70/4%q]) [.pu (.int ki),.ow (eI row),y6,y7]):=λrow ok =>
  ⟨rows ++ [row], secs ++ [s70 / 4 % q], _, _, _, _, rfl, by simp [rl], by simp [sl], λr hr => by
   rcases List.mem_append.mp hr with z | z
   ·exact ro r z
   ·rw [vd.mp z];exact ok,λs hs=>by
   rcases List.mem_append.mp hs with z | z
   ·exact so s z
   ·rw [vd.mp z];exact ⟨s1,by omega⟩⟩
 have head:∀ x,(exs C (.cons (.ite (.and (.cmp .Gt (.var 4) (.cst (.int 0))) (.and (.cmp .Eq (.bin .Mod (.bin .FloorDiv (.var 0) (.cst (.int 24))) (.cst (.int 3))) (.cst (.int 1))) (.cmp .Eq (.bin .Mod (.bin .FloorDiv (.call 2 (.cons (.var 0) (.cons (.bin .Add (.cst (.int 50)) (.var 4)) .nil))) (.cst (.int 4))) (.cst (.int 2))) (.cst (.int 1))))) (.cons (.set .ow (.one 5) (.blt .list (.cons (.idx (.var 2) (.bin .Mod (.bin .FloorDiv (.call 2 (.cons (.var 0) (.cons (.bin .Add (.cst (.int 60)) (.var 4)) .nil))) (.cst (.int 4))) (.var 4))) .nil))) .nil) .nil) (.cons (.app 2 .cl (.blt .tuple (.cons (.var 5) .nil))) (.cons (.app 3 .pu (.bin .Mod (.bin .FloorDiv (.call 2 (.cons (.var 0) (.cons (.bin .Add (.cst (.int 70)) (.var 4)) .nil))) (.cst (.int 4))) (.idx (.tup (.cons (.cst (.int 2)) (.cons (.cst (.int 4)) (.cons (.cst (.int 3)) .nil)))) (.bin .Mod (.bin .FloorDiv (.var 0) (.cst (.int 72))) (.cst (.int 3)))))) .nil)))
   (TSt n Ls rows secs [.pu (.int ki),.ow (eI row),y6,y7])=x)->((puT (.one 4) (.int ki) (TSt n Ls rows secs [x4,x5,x6,x7])).bind λρ''=>exs C yG ρ'')=x:=λx hx=>by
  simp only [puT,we,TSt,List.set,yG];refine qax (ds:=[]) ?_ rfl ?_
  ·simp! [zc,zo,qc,yc,jc,qd,qa,ya];rw [if_pos (qq (by decide))]
  simp only [List.set];refine jR (ds:=zaf 0 (Ls.map eL)) ?_ e1 hx;simp! [zc,zo,qc,yc,jc,qd,qa,ya]
 by_cases c1:0<ki
 ·by_cases c2:n/24%3=1
  ·by_cases c3:drawn n (50+ki)/4%2=1
   ·-- an elder row
    have j1:0<=drawn n (60+ki)/4%ki:=Int.emod_nonneg _ (by omega);have j2:drawn n (60+ki)/4%ki<ki:=vf _ c1;generalize hj:drawn n (60+ki)/4%ki=j at j1 j2;have jl:j.toNat<rows.length:=by omega
    have ej:atI (rows.map tI) j=some (tI rows[j.toNat]):=jt j1 (by simp [jl]);refine ⟨_,head _ (zJ (k:=true) (d:=.bl true) ?_ rfl (λ_=>?_) (λz=>nomatch z)),nxt rows[j.toNat] (ro _ (List.getElem_mem jl))⟩
    ·simp! [zc,zo,qc,yc,jc,qd,qa,ya,TSt,hC];rw [decide_eq_true c1];simp! [zc,zo,qc,yc,jc,qd,qa,ya,jan,c2,c3,beq_self_eq_true]
    ·rw [qax (ds:=eI rows[j.toNat]) (x:=some (.nx _)) ?_ (qbt _) rfl]
     ·exact tail _ (ro _ (List.getElem_mem jl))
     ·simp! [zc,zo,qc,yc,jc,qd,qa,ya,TSt,hC,c1,hj,ej];rfl
   ·refine ⟨_,head _ (zJ (k:=false) (d:=.bl false) ?_ rfl (λz=>nomatch z) (λ_=>?_)),nxt row ok⟩
    ·simp! [zc,zo,qc,yc,jc,qd,qa,ya,TSt,hC];rw [decide_eq_true c1];simp! [zc,zo,qc,yc,jc,qd,qa,ya,jan,c2,beq_self_eq_true,w6.mpr c3]
    ·rw [yR,we];exact tail row ok
  ·refine ⟨_,head _ (zJ (k:=false) (d:=.bl false) ?_ rfl (λz=>nomatch z) (λ_=>?_)),nxt row ok⟩
   ·simp! [zc,zo,qc,yc,jc,qd,qa,ya,TSt,hC];rw [decide_eq_true c1];simp! [zc,zo,qc,yc,jc,qd,qa,ya,jan,w6.mpr c2]
   ·rw [yR,we];exact tail row ok
 ·refine ⟨_,head _ (zJ (k:=false) (d:=.bl false) ?_ rfl (λz=>nomatch z) (λ_=>?_)),nxt row ok⟩
  ·simp! [zc,zo,qc,yc,jc,qd,qa,ya,TSt,hC];rw [vp c1]
  ·rw [yR,we];exact tail row ok
end M
end
section
open PySem Eng LG
namespace M
theorem za5:∀ (rs:List D),(∀ x∈rs,∃ L m,x=eL L/\Lad m L)->∃ Ls:List (List (List Int)),rs=Ls.map eL/\∀ L∈Ls,∃ m,Lad m L
 | [],_=>⟨[],rfl,by simp⟩
 | x::rs,h=>by
  obtain ⟨L,m,rfl,hl⟩:=h x (by simp);obtain ⟨Ls,rfl,hs⟩:=za5 rs λy hy=>h y (by simp [hy])
  refine ⟨L::Ls,rfl,λM hM=>?_⟩;rcases wy.mp hM with rfl | q
  ·exact ⟨m,hl⟩
  ·exact hs M q
theorem qci (C:Tab) (hC:∀ a b:Int,C 2 [.int a,.int b]=some (.int (drawn a b))) (hC7:∀ n:Int,∃ m L,C 3 [.int n]=some (eL L)/\Lad m L) (n:Int) :
  ∃ Ls rows secs,zN C jai [.int n]=some (eT Ls rows secs)/\TabOk Ls rows secs:=by
 have k1:0<=n%3:=Int.emod_nonneg _ (by decide);have k2:n%3<3:=vf _ (by decide);have j1:0<=n/3%8:=Int.emod_nonneg _ (by decide);have j2:n/3%8<8:=vf _ (by decide)
 obtain ⟨rs,eg,rl,hr⟩:=qaV (f:=turn C (.call 3 (.cons (.call 2 (.cons (.var 1) (.cons (.var 0) .nil))) .nil)) (.one 0) 1 [0] .none [some (.int n),none,none,none,none,none,none,none])
  (λ_ x=>∃ L m,x=eL L/\Lad m L) (zj 0 (1+n%3).toNat) (λd hd=>by
   obtain ⟨i,rfl,_,_⟩:=zO hd;obtain ⟨m,L,e7,lad⟩:=hC7 (drawn n i);refine ⟨eL L,?_,L,m,rfl,lad⟩;simp only [turn,zaa,yg,List.replicate,List.map_cons,List.map_nil,List.cons_append,List.nil_append,EA,qw,zx,qv,qm,jm,yn,zR,qN,jb,ye,we,Option.map_some,Option.bind_none,Option.map_none,if_true,if_false,↓reduceIte,and_self,Bool.not_true,Bool.not_false,wq,Int.reduceLT,Int.reduceLE,Int.reduceNeg,Nat.reduceMul,Nat.reduceAdd,Nat.reduceLeDiff,List.length_cons,List.length_nil,List.set,true_and,and_true,zc,zo,qc,yc,jc,qd,qa,ya,yd,hC,e7])
 rw [yp] at rl;obtain ⟨Ls,rfl,hL⟩:=za5 rs λx hx=>by obtain ⟨d,_,q⟩:=hr x hx;exact q
 rw [wG] at rl
 obtain ⟨ρ1,e1,rows,secs,x4,x5,x6,x7,rfl,hrl,hsl,hro,hso⟩:=zaj (f:=λd ρ'=>(puT (.one 4) d ρ').bind λρ''=>exs C yG ρ'') (TI n Ls) (zj 0 (1+n/3%8).toNat) 0
  (TSt n Ls [] [] [.un, .un, .un, .un]) ⟨[], [], .un, .un, .un, .un, rfl, rfl, rfl, by simp, by simp⟩ (λi d ρ hd hp => by
   have hi:i<(zj 0 (1+n/3%8).toNat).length:=(wu.mp hd).1;rw [yp] at hi;rw [jV _ _ _ hi] at hd;cases hd;rw [show 0+i=i by omega] at hp ⊢;exact zci C hC hL (by omega) (by omega) (by omega) hp)
 rw [yp] at hrl hsl;refine ⟨Ls,rows,secs,?_,⟨by omega,by omega,hL,by omega,by omega,hro,by omega,hso⟩⟩;refine jg rfl ?_;simp only [jai,List.replicate,List.map_cons,List.map_nil,List.cons_append,List.nil_append];refine yt (d:=.tup (Ls.map eL)) (ρ':=[.pu (.int n),.pu (.tup (Ls.map eL)),.un,.un,.un,.un,.un,.un]) ?_ rfl ?_
 ·simp! [zc,zo,qc,yc,jc,qd,qa,ya,yd,rngD];rw [if_pos ⟨by omega,by omega,qq (by omega)⟩];simp only [we];rw [eg];rfl
 refine qax (ds:=[]) ?_ rfl ?_
 ·simp! [zc,zo,qc,yc,jc,qd,qa,ya,yd];rw [if_pos (qq (by decide))]
 refine qax (ds:=[]) ?_ rfl ?_
 ·simp! [zc,zo,qc,yc,jc,qd,qa,ya,yd];rw [if_pos (qq (by decide))]
 simp only [List.set];refine jR (ds:=zj 0 (1+n/3%8).toNat) ?_ e1 (jh ?_)
 ·simp! [zc,zo,qc,yc,jc,qd,qa,ya,yd,rngD];rw [if_pos ⟨by omega,by omega,qq (by omega)⟩]
 ·simp! [zc,zo,qc,yc,jc,qd,qa,ya,yd,TSt];rw [if_pos (qq (by decide))];rfl
theorem yci (C:Tab) (ns:List Int) (k:Int) (c:Int) (hC:C 0 [.scr ns,.int k]=some (.int c)):∃ r:Int,zN C jY [.scr ns,.int k]=some (.int r):=by
 have h1:=Int.emod_nonneg ((c+7919*k+1)*48271) (show (2147483647:Int)≠0 by decide);have h2:=vf ((c+7919*k+1)*48271) (show (0:Int)<2147483647 by decide);have c1:zax .Mult (.int 7919) (.int k)=some (.int (7919*k)):=qw (yP (by decide));have c2:zax .Mult (.int (c+7919*k+1)) (.int 48271)=some (.int ((c+7919*k+1)*48271)):=qw (yaV (by decide));generalize hd:(c+7919*k+1)*48271%2147483647=d at h1 h2;have c3:zax .Mult (.int d) (.int d)=some (.int (d*d)):=qw (yP (by omega));have c4:zax .Mult (.int 7) (.int d)=some (.int (7*d)):=qw (yP (by decide));refine ⟨(d*d+7*d+k)%2147483629,jg rfl ?_⟩;simp only [jY,List.replicate,List.map_cons,List.map_nil,List.cons_append,List.nil_append];refine yt (d:=.int d) (ρ':=[.pu (.scr ns),.pu (.int k),.pu (.int d)]) ?_ rfl (jh ?_)
 ·simp! [zc,zo,qc,yc,jc,qd,qa,ya,yd,hC,c1,c2,hd]
 ·simp! [zc,zo,qc,yc,jc,qd,qa,ya,yd,c3,c4]
theorem zbI : ∀ (r : List Int) (b : Int), jaY (.int b) (eI r) = some (.int (match ybn r with | none => b | some y => if y < b then y else b))
 | [],b=>rfl
 | x::r,b=>by
  show (if jdk (.int x) (.int b) then (ltD (.int x) (.int b)).bind λk=>jaY (if k then D.int x else D.int b) (eI r) else none)=_;rw [if_pos (by rfl),show ltD (.int x) (.int b)=some (decide (x<b)) from rfl,we]
  have e:(if decide (x<b)=true then D.int x else D.int b)=D.int (if x<b then x else b):=by
   by_cases h:x<b
   ·rw [if_pos h,if_pos (decide_eq_true h)]
   ·rw [if_neg h,if_neg (by simpa using h)]
  rw [e,zbI r];have e2:ybn (x::r)=match ybn r with | none=>some x | some y=>some (if y<x then y else x):=rfl
  rw [e2];cases ybn r with
  | none=>rfl
  | some y =>
   simp only [Option.some.injEq,D.int.injEq]
   by_cases h1:x<b<;>by_cases h2:y<x<;>by_cases h3:y<b<;>simp only [h1,h2,h3,if_true,if_false]<;>(try (split<;>omega))<;>omega
theorem jci {l:List Int} {w:Int} (h:ybn l=some w):jbc (eI l)=some (.int w):=by
 cases l with
 | nil=>cases h
 | cons x r =>
  show (jaY (.int x) (eI r)).bind _=_;rw [zbI,we];have e2:ybn (x::r)=match ybn r with | none=>some x | some y=>some (if y<x then y else x):=rfl
  rw [e2] at h;cases hr:ybn r with
  | none=>rw [hr] at h;cases h;rfl
  | some y=>rw [hr] at h;cases h;rfl
theorem zdg {l:List Int} {w:Int} (h:ybn l=some w):yJ .min [.lst (eI l)]=some (.int w):=jci h
end M
end
section
open PySem Eng LG
namespace M
section
variable {C:Tab} {ρ:En} {a b c:Eng.Code} {x y z d:D} {k:Bool}
theorem zw {op:CmpOp} (h1:ev C a ρ=some x) (h2:ev C b ρ=some y) (h3:zV op x y=some k):ev C (.cmp op a b) ρ=some (.bl k):=by
 rw [qC,h1,we,h2,we,h3];rfl
theorem yw {f:Blt} (h1:ev C a ρ=some x) (h2:yJ f [x]=some d):ev C (.blt f (.cons a .nil)) ρ=some d:=by
 rw [zA,zi,h1,we,jo];exact h2
theorem zM {e:Eng.Code} {t:Tgt} {n:Nat} {keep:List Nat} {it:Iter} {o:OCode} {ds rs:List D} (h1:evI C it ρ=some ds) (h2:gather (turn C e t n keep o ρ) ds=some rs):ev C (.comp e t n keep it o) ρ=some (.lst rs):=by
 rw [qs,h1,we,h2];rfl
theorem jbT {ds:List D} (h1:ev C a ρ=some x) (h2:rngD [x]=some ds):evI C (.rng (.cons a .nil)) ρ=some ds:=by
 rw [js,zi,h1,we,jo];exact h2
theorem zQ {ds:List D} (h1:ev C a ρ=some x) (h2:itemsD x=some ds):evI C (.data a) ρ=some ds:=by
 rw [yo,h1,we];exact h2
theorem zee {ds:List D} (h1:ev C a ρ=some x) (h2:itemsD x=some ds):evI C (.enu a) ρ=some (zaf 0 ds):=by
 rw [zt,h1,we,h2];rfl
theorem qee {ds es:List D} (h1:ev C a ρ=some x) (h2:itemsD x=some ds) (h3:ev C b ρ=some y) (h4:itemsD y=some es):evI C (.zip a b) ρ=some (jau ds es):=by
 rw [qt,h1,we,h3,we,h2,we,h4];rfl
theorem jy (h1:ev C a ρ=some x) (h2:ev C b ρ=some y) (h3:ycs x y=some d):ev C (.idx a b) ρ=some d:=by
 rw [zD,h1,we,h2,we];exact h3
theorem jG {op:Operator} (h1:ev C a ρ=some x) (h2:ev C b ρ=some y) (h3:zax op x y=some d):ev C (.bin op a b) ρ=some d:=by
 rw [jB,h1,we,h2,we];exact h3
theorem qz (h1:ev C a ρ=some x) (h2:truO x=some k):ev C (.not a) ρ=some (.bl (!k)):=by
 rw [zC,h1,we,h2];rfl
theorem yas (h1:ev C a ρ=some (.bl true)):ev C (.or a b) ρ=some (.bl true):=by rw [qO,h1];rfl
theorem qR (h1:ev C a ρ=some (.bl false)) (h2:ev C b ρ=some d):ev C (.or a b) ρ=some d:=by rw [qO,h1];exact h2
theorem qdP (h1:ev C a ρ=some (.bl false)):ev C (.and a b) ρ=some (.bl false):=by rw [yz,h1];rfl
theorem ycP (h1:ev C a ρ=some (.bl true)) (h2:ev C b ρ=some d):ev C (.and a b) ρ=some d:=by rw [yz,h1];exact h2
theorem zem {k l:Bool} (h1:ev C a ρ=some (.bl k)) (h2:k=false->ev C b ρ=some (.bl l)):ev C (.or a b) ρ=some (.bl (k||l)):=by
 cases k with
 | true=>exact yas h1
 | false=>exact qR h1 (h2 rfl)
theorem zZ {t:Ty} (h1:ev C a ρ=some x) (h2:zdv x t=some d):ev C (.isi a t) ρ=some d:=by
 rw [jD,h1];exact h2
theorem yq {f : Nat} (h1 : ev C a ρ = some x) (h2 : C f [x] = some d) (hn : noE d = some d := by rfl) : ev C (.call f (.cons a .nil)) ρ = some d := by
 rw [zr,zi,h1,we,jo];show (C f [x]).bind noE=_;rw [h2];exact hn
theorem zI {f : Nat} (h1 : ev C a ρ = some x) (h2 : ev C b ρ = some y) (h3 : C f [x, y] = some d) (hn : noE d = some d := by rfl) : ev C (.call f (.cons a (.cons b .nil))) ρ = some d := by
 rw [zr,zi,h1,we,zi,h2,we,jo];show (C f [x,y]).bind noE=_;rw [h3];exact hn
theorem zbU {op op':CmpOp} {k l:Bool} (h1:ev C a ρ=some x) (h2:ev C b ρ=some y) (h3:ev C c ρ=some z) (h4:zV op x y=some k) (h5:zV op' y z=some l):ev C (.chn op op' a b c) ρ=some (.bl (k&&l)):=by
 rw [yC,h1,we,h2,we,h4,we];cases k with
 | false=>rfl
 | true=>rw [if_pos rfl,h3,we,h5];rfl
theorem zah:evs C .nil ρ=some []:=rfl
theorem zu {cs:Codes} {xs:List D} (h1:ev C a ρ=some x) (h2:evs C cs ρ=some xs):evs C (.cons a cs) ρ=some (x::xs):=by rw [zi,h1,we,h2];rfl
theorem zcj {cs:Codes} {xs:List D} (h1:evs C cs ρ=some xs) (h2:xs.length<=1000):ev C (.tup cs) ρ=some (.tup xs):=by rw [jC,h1,we,if_pos (qq h2)]
theorem qbU {cs:Codes} {xs:List D} (h1:evs C cs ρ=some xs) (h2:xs.length<=1000):ev C (.lst cs) ρ=some (.lst xs):=by rw [jz,h1,we,if_pos (qq h2)]
theorem qaa {lo hi:OCode} {l h:Option Int} (h1:ev C a ρ=some x) (h2:evO C lo ρ=some l) (h3:evO C hi ρ=some h) (h4:jcs x l h=some d):ev C (.slc a lo hi) ρ=some d:=by
 rw [qD,h1,we,h2,we,h3];exact h4
theorem yx {i:Int} (h1:ev C a ρ=some (.int i)):evO C (.some a) ρ=some (some i):=by rw [qo,h1];rfl
theorem yee (h1:ev C a ρ=some x) (h2:revD x=some d):ev C (.rev a) ρ=some d:=by rw [yD,h1];exact h2
section
variable {σ σ':List Sl} {r t u:Stms} {v:Option Fl}
theorem qr (h:ev C a (vA σ)=some (.bl false)) (h2:exs C r σ=v):exs C (.cons (.ite a t .nil) r) σ=v:=by
 refine zJ h rfl (λz=>nomatch z) (λ_=>?_);rw [yR,we];exact h2
theorem qaj (h:ev C a (vA σ)=some (.bl true)) (h1:exs C t σ=some (.rt d)):exs C (.cons (.ite a t u) r) σ=some (.rt d):=by
 refine zJ h rfl (λ_=>?_) (λz=>nomatch z);rw [h1];rfl
theorem qa5 (h:ev C a (vA σ)=some (.bl true)) (h1:exs C t σ=some (.nx σ')) (h2:exs C r σ'=v):exs C (.cons (.ite a t u) r) σ=v:=by
 refine zJ h rfl (λ_=>?_) (λz=>nomatch z);rw [h1,we];exact h2
end
end
theorem zao {f:D->List Sl->Option Fl} (P:Nat->List Sl->Prop) (G:Nat->Prop):∀ (ds:List D) (k:Nat) (ρ:List Sl),P k ρ->(∀ j<k,G j) ->
  (∀ i d ρ,ds[i]?=some d->(∀ j<k+i,G j)->P (k+i) ρ->(G (k+i)/\∃ ρ',f d ρ=some (.nx ρ')/\P (k+i+1) ρ')\/(¬ G (k+i)/\f d ρ=some (.rt (.bl false)))) ->
  ((∀ j<k+ds.length,G j)/\∃ ρ',forL f ds ρ=some (.nx ρ')/\P (k+ds.length) ρ')\/((¬ ∀ j<k+ds.length,G j)/\forL f ds ρ=some (.rt (.bl false)))
 | [],k,ρ,h,g,_=>.inl ⟨g,ρ,rfl,h⟩
 | d::ds,k,ρ,h,g,hs=>by
  rcases hs 0 d ρ (by simp) g h with ⟨g0,ρ1,e1,h1⟩ | ⟨g0,e1⟩
  ·have g1:∀ j<k+1,G j:=λj hj=>by
    rcases Nat.lt_or_ge j k with z | z
    ·exact g j z
    ·have:j=k:=by omega
     subst this;exact g0
   have:=zao P G ds (k+1) ρ1 h1 g1 λi d ρ hd hg hp=>by
    have:=hs (i+1) d ρ (by simpa using hd) (by rwa [show k+(i+1)=k+1+i by omega]) (by rwa [show k+(i+1)=k+1+i by omega])
    rwa [show k+(i+1)=k+1+i by omega] at this
   rw [show k+1+ds.length=k+(d::ds).length by simp;omega] at this;have e:forL f (d::ds) ρ=forL f ds ρ1:=by simp only [forL,e1,we]
   rw [e];exact this
  ·refine .inr ⟨λz=>g0 (z k (by simp)),?_⟩;simp only [forL,e1,we]
theorem jac {C:Tab} {ρ:List Sl} {t:Tgt} {it:Iter} {b r:Stms} {ds:List D} {d:D} (h:evI C it (vP ρ)=some ds) (h1:forL (λd ρ'=>(puT t d ρ').bind λρ''=>exs C b ρ'') ds ρ=some (.rt d)):exs C (.cons (.for t it b) r) ρ=some (.rt d):=by
 rw [exs,ex,h,we,h1];rfl
theorem zq {C:Tab} {ρ:List Sl} {c:Eng.Code} {r:Stms} {k:Bool} {x:Option Fl} (h:ev C c (vA ρ)=some (.bl k)) (h1:k=true->x=some (.rt (.bl false))) (h2:k=false->exs C r ρ=x):exs C (.cons (.ite c (.cons (.ret (.cst (.bl false))) .nil) .nil) r) ρ=x:=by
 refine zJ h rfl (λe=>?_) (λe=>?_)
 ·rw [jh (d:=.bl false) rfl,h1 e];rfl
 ·rw [yR,we];exact h2 e
theorem yI {f:D->Option (Option D)} {g:D->Bool}:∀ (ds:List D),(∀ d∈ds,f d=some (some (.bl (g d))))->gather f ds=some ((ds.map g).map D.bl)
 | [],_=>rfl
 | d::ds,h=>by
  rw [gather,h d (by simp),we,yI ds λd hd=>h d (by simp [hd])];rfl
theorem qcj (bs:List Bool):qaN (bs.map D.bl)=some bs:=by
 induction bs with
 | nil=>rfl
 | cons a r ih=>simp [qaN,ih]
theorem zad (bs:List Bool):yJ .all [.lst (bs.map D.bl)]=some (.bl (bs.all id)):=by
 simp only [yJ,qei,itemsD,we,qcj];rfl
theorem yy {f:D->Option (Option D)} {g:D->Bool}:∀ (ds:List D),(∀ d∈ds,f d=some (if g d then some d else none))->gather f ds=some (ds.filter g)
 | [],_=>rfl
 | d::ds,h=>by
  rw [gather,h d (by simp),we,yy ds λd hd=>h d (by simp [hd])];cases e:g d<;>simp [e]
theorem zH {d:D} (h:noS d=true) (t:Ty):zdv d t=some (.bl (ybA d t)):=by cases d<;>first | rfl | cases h
theorem jx {xs:List D} (h:yS xs=true):∀ d∈xs,noS d=true:=by
 induction xs with
 | nil=>intro d hd;cases hd
 | cons a r ih =>
  rw [yS,wj] at h;intro d hd;rcases wy.mp hd with rfl | q
  ·exact h.1
  ·exact ih h.2 d q
theorem jas {xs:List D} (h:∀ d∈xs,noS d=true):yS xs=true:=by
 induction xs with
 | nil=>rfl
 | cons a r ih =>
  rw [yS,h a (by simp),ih λd hd=>h d (by simp [hd])];rfl
theorem qbI (xs:List Int):noS (tI xs)=true:=qa4 xs
theorem ydP (L:List (List Int)):noS (eL L)=true:=jas λd hd=>by
 obtain ⟨s,_,rfl⟩:=wJ.mp hd;exact qbI s
theorem qcE {x:D} {i:Int} (h:noS x=true):jak x (.int i)=true:=by
 rw [eqOk_iff'];exact ⟨.inr (Nat.zero_le _),h,rfl⟩
where eqOk_iff' {x y:D}:jak x y=true↔(dep x<=40\/dep y<=40)/\noS x=true/\noS y=true:=by simp [jak,and_assoc]
theorem ybI {x y:D} (h:noS x=true) (hy:noS y=true) (hd:dep y<=40):jak x y=true:=by simp [jak,h,hy,hd]
theorem jdP (xs:List Int):dep (tI xs)<=40:=by simp [tI,dep,ybt]
noncomputable def jQ (d:D) (b:Int):Bool:=match d with | .int i=>decide (0<=i)&&decide (i<b) | _=>false
theorem numB_iff {d:D} {b:Int}:jQ d b=true↔∃ i,d=.int i/\0<=i/\i<b:=by
 cases d<;>simp [jQ]
def InB (r bs:List Int):Prop:=r.length=bs.length/\∀ i<r.length,0<=r.getD i 0/\r.getD i 0<bs.getD i 0
noncomputable def qa9 (Ls:List (List (List Int))):List Int:=Ls.map λL=>((L.headD []).length:Int)
theorem InB_cons {x b:Int} {r bs:List Int}:InB (x::r) (b::bs)↔(0<=x/\x<b)/\InB r bs:=by
 constructor
 ·rintro ⟨h1,h2⟩;refine ⟨by simpa using h2 0 (by simp),by simpa using h1,λi hi=>?_⟩;simpa using h2 (i+1) (by simpa using hi)
 ·rintro ⟨h0,h1,h2⟩;refine ⟨by simp [h1],λi hi=>?_⟩;cases i with
  | zero=>simpa using h0
  | succ i=>simpa using h2 i (by simpa using hi)
theorem row_iff:∀ {r:List Int} {Ls:List (List (List Int))},RowOk r Ls↔InB r (qa9 Ls)
 | [],[]=>by simp [RowOk,InB,qa9]
 | [],_::_=>by simp [RowOk,InB,qa9]
 | _::_,[]=>by simp [RowOk,InB,qa9]
 | x::r,L::Ls=>by
  have ih:=row_iff (r:=r) (Ls:=Ls);show ((0<=x/\x<((L.headD []).length:Int))/\RowOk r Ls)↔InB (x::r) (((L.headD []).length:Int)::qa9 Ls);rw [InB_cons,ih]
theorem qf {P:List Def} {k i:Nat} {f:Def} {ds:List D} {d:D} (h:P[i]?=some f) (h2:zN (ym P k) f ds=some d):ym P (k+1) i ds=some d:=by
 show (P[i]?).bind (λf=>zN (ym P k) f ds)=some d;rw [h];exact h2
theorem Lad.ne {m:Nat} {L:List (List Int)} (h:Lad m L):0<L.length:=by
 have:=h.first
 cases L with
 | nil=>simp at this
 | cons _ _=>simp
end M
end
section
namespace K03
open PySem Eng
noncomputable def yK:Def:=⟨2,2,(.cons (.ite (.or (.isi (.var 0) .bool) (.not (.isi (.var 0) .int))) (.cons (.ret (.cst (.bl false))) .nil) .nil) (.cons (.ret (.chn .LtE .Lt (.cst (.int 0)) (.var 0) (.var 1))) .nil))⟩
noncomputable def yM:Def:=⟨2,2,(.cons (.ret (.and (.isi (.var 0) .tuple) (.chn .LtE .LtE (.cst (.int 1)) (.blt .len (.cons (.var 0) .nil)) (.var 1)))) .nil)⟩
noncomputable def qI:Def:=⟨2,2,(.cons (.ite (.or (.not (.isi (.var 0) .tuple)) (.cmp .NotEq (.blt .len (.cons (.var 0) .nil)) (.blt .len (.cons (.var 1) .nil)))) (.cons (.ret (.cst (.bl false))) .nil) .nil) (.cons (.ret (.blt .all (.cons (.comp (.call 6 (.cons (.var 0) (.cons (.var 1) .nil))) (.many [0,1]) 2 [] (.zip (.var 0) (.var 1)) .none) .nil))) .nil))⟩
noncomputable def qad:Stms:=(.cons (.ite (.not (.call 6 (.cons (.var 2) (.cons (.bin .Add (.var 1) (.cst (.int 1))) .nil)))) (.cons (.ret (.cst (.bl false))) .nil) .nil) (.cons (.ite (.cmp .NotEq (.idx (.var 0) (.var 2)) (.var 2)) (.cons (.ret (.cst (.bl false))) .nil) .nil) .nil))
noncomputable def d_is_step:Def:=⟨3,1,(.cons (.ite (.not (.call 7 (.cons (.var 0) (.cons (.cst (.int 5)) .nil)))) (.cons (.ret (.cst (.bl false))) .nil) .nil) (.cons (.for (.many [1,2]) (.enu (.var 0)) qad) (.cons (.ret (.cst (.bl true))) .nil)))⟩
noncomputable def jM:Def:=⟨1,1,(.cons (.ret (.blt .all (.cons (.comp (.cmp .Eq (.var 1) (.var 0)) (.many [0,1]) 2 [] (.enu (.var 0)) .none) .nil))) .nil)⟩
noncomputable def qQ:Def:=⟨1,1,(.cons (.ret (.blt .all (.cons (.comp (.cmp .Eq (.var 0) (.cst (.int 0))) (.one 0) 1 [] (.data (.var 0)) .none) .nil))) .nil)⟩
noncomputable def jE:Def:=⟨2,2,(.cons (.ite (.or (.cmp .NotEq (.blt .len (.cons (.var 0) .nil)) (.blt .len (.cons (.var 1) .nil))) (.cmp .Eq (.var 0) (.var 1))) (.cons (.ret (.cst (.bl false))) .nil) .nil) (.cons (.ret (.blt .all (.cons (.comp (.cmp .Eq (.idx (.var 2) (.var 0)) (.idx (.var 2) (.var 1))) (.many [0,1]) 2 [0] (.enu (.var 1)) .none) .nil))) .nil))⟩
noncomputable def yaj:Def:=⟨1,1,(.cons (.ite (.not (.call 7 (.cons (.var 0) (.cons (.cst (.int 4)) .nil)))) (.cons (.ret (.cst (.bl false))) .nil) .nil) (.cons (.ite (.not (.blt .all (.cons (.comp (.call 9 (.cons (.var 0) .nil)) (.one 0) 1 [] (.data (.var 0)) .none) .nil))) (.cons (.ret (.cst (.bl false))) .nil) .nil) (.cons (.ite (.or (.not (.call 10 (.cons (.idx (.var 0) (.cst (.int 0))) .nil))) (.not (.call 11 (.cons (.idx (.var 0) (.neg (.cst (.int 1)))) .nil)))) (.cons (.ret (.cst (.bl false))) .nil) .nil) (.cons (.ret (.blt .all (.cons (.comp (.call 12 (.cons (.var 1) (.cons (.var 0) .nil))) (.many [0,1]) 2 [] (.zip (.var 0) (.slc (.var 0) (.some (.cst (.int 1))) .none)) .none) .nil))) .nil))))⟩
noncomputable def qao:Def:=⟨1,1,(.cons (.ret (.and (.call 7 (.cons (.var 0) (.cons (.cst (.int 3)) .nil))) (.blt .all (.cons (.comp (.call 13 (.cons (.var 0) .nil)) (.one 0) 1 [] (.data (.var 0)) .none) .nil)))) .nil)⟩
noncomputable def jaV:Def:=⟨3,2,(.cons (.ite (.not (.call 7 (.cons (.var 1) (.cons (.cst (.int 8)) .nil)))) (.cons (.ret (.cst (.bl false))) .nil) .nil) (.cons (.set .pu (.one 2) (.comp (.blt .len (.cons (.idx (.var 0) (.cst (.int 0))) .nil)) (.one 0) 1 [] (.data (.var 0)) .none)) (.cons (.ret (.blt .all (.cons (.comp (.call 8 (.cons (.var 0) (.cons (.var 1) .nil))) (.one 0) 1 [2] (.data (.var 1)) .none) .nil))) .nil)))⟩
noncomputable def zaW:Def:=⟨3,1,(.cons (.ite (.or (.not (.isi (.var 0) .tuple)) (.cmp .NotEq (.blt .len (.cons (.var 0) .nil)) (.cst (.int 3)))) (.cons (.ret (.cst (.bl false))) .nil) .nil) (.cons (.set .pu (.one 1) (.idx (.var 0) (.cst (.int 0)))) (.cons (.set .pu (.one 2) (.idx (.var 0) (.cst (.int 1)))) (.cons (.ite (.or (.not (.call 14 (.cons (.var 1) .nil))) (.not (.call 15 (.cons (.var 1) (.cons (.var 2) .nil))))) (.cons (.ret (.cst (.bl false))) .nil) .nil) (.cons (.ret (.call 8 (.cons (.idx (.var 0) (.cst (.int 2))) (.cons (.comp (.cst (.int 4)) (.one 0) 1 [] (.data (.var 2)) .none) .nil)))) .nil)))))⟩
noncomputable def qah:Def:=⟨1,1,(.cons (.ret (.blt .join (.cons (.cst (.str (Str.ofString ""))) (.cons (.comp (.blt .str (.cons (.var 0) .nil)) (.one 0) 1 [] (.data (.var 0)) .none) .nil)))) .nil)⟩
noncomputable def yao:Def:=⟨1,1,(.cons (.ret (.blt .join (.cons (.cst (.str (Str.ofString "/"))) (.cons (.comp (.call 17 (.cons (.var 0) .nil)) (.one 0) 1 [] (.data (.var 0)) .none) .nil)))) .nil)⟩
noncomputable def qaW:Def:=⟨2,2,(.cons (.ret (.bin .Add (.bin .Add (.call 17 (.cons (.var 0) .nil)) (.cst (.str (Str.ofString ":")))) (.blt .str (.cons (.var 1) .nil)))) .nil)⟩
noncomputable def yaJ:Def:=⟨3,1,(.cons (.set .pu (.one 1) (.comp (.call 18 (.cons (.var 0) .nil)) (.one 0) 1 [] (.data (.idx (.var 0) (.cst (.int 0)))) .none)) (.cons (.set .pu (.one 2) (.comp (.call 19 (.cons (.var 0) (.cons (.var 1) .nil))) (.many [0,1]) 2 [] (.zip (.idx (.var 0) (.cst (.int 1))) (.idx (.var 0) (.cst (.int 2)))) .none)) (.cons (.ret (.blt .join (.cons (.cst (.str (Str.ofString " "))) (.cons (.bin .Add (.bin .Add (.var 1) (.lst (.cons (.cst (.str (Str.ofString ";"))) .nil))) (.var 2)) .nil)))) .nil)))⟩
noncomputable def yaw:Def:=⟨1,1,(.cons (.ret (.blt .tuple (.cons (.comp (.blt .find (.cons (.cst (.str (Str.ofString "0123456789"))) (.cons (.var 0) .nil))) (.one 0) 1 [] (.chr (.var 0)) .none) .nil))) .nil)⟩
noncomputable def jaJ:Def:=⟨1,1,(.cons (.ret (.blt .tuple (.cons (.comp (.call 21 (.cons (.var 0) .nil)) (.one 0) 1 [] (.data (.blt .split (.cons (.var 0) (.cons (.cst (.str (Str.ofString "/"))) .nil)))) .none) .nil))) .nil)⟩
noncomputable def jbI:Def:=⟨1,1,(.cons (.ret (.call 21 (.cons (.idx (.blt .part (.cons (.var 0) (.cons (.cst (.str (Str.ofString ":"))) .nil))) (.cst (.int 0))) .nil))) .nil)⟩
noncomputable def zaK:Def:=⟨1,1,(.cons (.ret (.blt .find (.cons (.cst (.str (Str.ofString "0123456789"))) (.cons (.idx (.blt .part (.cons (.var 0) (.cons (.cst (.str (Str.ofString ":"))) .nil))) (.cst (.int 2))) .nil)))) .nil)⟩
noncomputable def yaW:Def:=⟨6,1,(.cons (.set .pu (.one 1) (.blt .lidx (.cons (.var 0) (.cons (.cst (.str (Str.ofString ";"))) .nil)))) (.cons (.set .pu (.one 2) (.slc (.var 0) (.some (.bin .Add (.var 1) (.cst (.int 1)))) .none)) (.cons (.set .pu (.one 3) (.blt .tuple (.cons (.comp (.call 22 (.cons (.var 0) .nil)) (.one 0) 1 [] (.data (.slc (.var 0) .none (.some (.var 1)))) .none) .nil))) (.cons (.set .pu (.one 4) (.blt .tuple (.cons (.comp (.call 23 (.cons (.var 0) .nil)) (.one 0) 1 [] (.data (.var 2)) .none) .nil))) (.cons (.set .pu (.one 5) (.blt .tuple (.cons (.comp (.call 24 (.cons (.var 0) .nil)) (.one 0) 1 [] (.data (.var 2)) .none) .nil))) (.cons (.ret (.tup (.cons (.var 3) (.cons (.var 4) (.cons (.var 5) .nil))))) .nil))))))⟩
noncomputable def ycj:Def:=⟨3,1,(.cons (.set .pu (.one 1) (.blt .split (.cons (.var 0) (.cons (.cst (.str (Str.ofString " "))) .nil)))) (.rsg (.cmp .NotIn (.cst (.str (Str.ofString ";"))) (.var 1)) (.cons (.set .pu (.one 2) (.call 25 (.cons (.var 1) .nil))) (.rsg (.or (.not (.call 16 (.cons (.var 2) .nil))) (.cmp .NotEq (.call 20 (.cons (.var 2) .nil)) (.var 0))) (.cons (.ret (.var 2)) .nil)))))⟩
noncomputable def qZ:Stms:=(.cons (.app 4 .pu (.bin .Add (.bin .Add (.blt .join (.cons (.cst (.str (Str.ofString ""))) (.cons (.comp (.blt .str (.cons (.var 0) .nil)) (.one 0) 1 [] (.data (.var 7)) .none) .nil))) (.cst (.str (Str.ofString ":")))) (.blt .str (.cons (.idx (.var 3) (.var 6)) .nil)))) .nil)
noncomputable def yZ:Stms:=(.cons (.app 4 .pu (.blt .join (.cons (.cst (.str (Str.ofString "/"))) (.cons (.comp (.blt .join (.cons (.cst (.str (Str.ofString ""))) (.cons (.comp (.blt .str (.cons (.var 0) .nil)) (.one 0) 1 [] (.data (.var 0)) .none) .nil))) (.one 0) 1 [] (.data (.var 5)) .none) .nil)))) .nil)
noncomputable def zat:Def:=⟨8,1,(.cons (.set .pu (.many [1,2,3]) (.var 0)) (.cons (.set .ow (.one 4) (.lst .nil)) (.cons (.for (.one 5) (.data (.var 1)) yZ) (.cons (.app 4 .pu (.cst (.str (Str.ofString ";")))) (.cons (.for (.many [6,7]) (.enu (.var 2)) qZ) (.cons (.ret (.blt .join (.cons (.cst (.str (Str.ofString " "))) (.cons (.var 4) .nil)))) .nil))))))⟩
noncomputable def d_law_changed:Def:=⟨6,2,(.cons (.set .pu (.one 2) (.bin .Mod (.bin .FloorDiv (.var 1) (.cst (.int 16))) (.bin .Add (.blt .len (.cons (.var 0) .nil)) (.cst (.int 1))))) (.cons (.set .pu (.one 3) (.idx (.cst (.str (Str.ofString " 012345/;:a-~"))) (.bin .Mod (.bin .FloorDiv (.var 1) (.cst (.int 400))) (.cst (.int 13))))) (.cons (.ite (.cmp .Eq (.bin .Mod (.var 1) (.cst (.int 8))) (.cst (.int 0))) (.cons (.ret (.bin .Add (.bin .Add (.slc (.var 0) .none (.some (.var 2))) (.var 3)) (.slc (.var 0) (.some (.var 2)) .none))) .nil) .nil) (.cons (.ite (.cmp .Eq (.bin .Mod (.var 1) (.cst (.int 8))) (.cst (.int 3))) (.cons (.ret (.bin .Add (.slc (.var 0) .none (.some (.var 2))) (.slc (.var 0) (.some (.bin .Add (.var 2) (.cst (.int 1)))) .none))) .nil) .nil) (.cons (.ite (.cmp .Lt (.bin .Mod (.var 1) (.cst (.int 8))) (.cst (.int 3))) (.cons (.ret (.bin .Add (.bin .Add (.slc (.var 0) .none (.some (.var 2))) (.var 3)) (.slc (.var 0) (.some (.bin .Add (.var 2) (.cst (.int 1)))) .none))) .nil) .nil) (.cons (.set .ow (.one 4) (.blt .split (.cons (.var 0) (.cons (.cst (.str (Str.ofString " "))) .nil)))) (.cons (.set .cl (.one 2) (.bin .Mod (.bin .FloorDiv (.var 1) (.cst (.int 16))) (.blt .len (.cons (.var 4) .nil)))) (.cons (.ite (.cmp .Eq (.bin .Mod (.var 1) (.cst (.int 8))) (.cst (.int 4))) (.cons (.set .ow (.one 4) (.bin .Add (.slc (.var 4) .none (.some (.var 2))) (.slc (.var 4) (.some (.bin .Add (.var 2) (.cst (.int 1)))) .none))) .nil) .nil) (.cons (.ite (.cmp .Eq (.bin .Mod (.var 1) (.cst (.int 8))) (.cst (.int 5))) (.cons (.set .ow (.one 4) (.bin .Add (.bin .Add (.slc (.var 4) .none (.some (.var 2))) (.slc (.var 4) (.some (.var 2)) (.some (.bin .Add (.var 2) (.cst (.int 1)))))) (.slc (.var 4) (.some (.var 2)) .none))) .nil) .nil) (.cons (.ite (.cmp .Eq (.bin .Mod (.var 1) (.cst (.int 8))) (.cst (.int 6))) (.cons (.set .ow (.one 4) (.bin .Add (.bin .Add (.slc (.var 4) .none (.some (.var 2))) (.rev (.slc (.var 4) (.some (.var 2)) (.some (.bin .Add (.var 2) (.cst (.int 2))))))) (.slc (.var 4) (.some (.bin .Add (.var 2) (.cst (.int 2)))) .none))) .nil) .nil) (.cons (.ite (.cmp .Eq (.bin .Mod (.var 1) (.cst (.int 8))) (.cst (.int 7))) (.cons (.set .pu (.one 5) (.lst (.cons (.cst (.str (Str.ofString "01/00"))) (.cons (.cst (.str (Str.ofString "0"))) (.cons (.cst (.str (Str.ofString "012/002/000"))) (.cons (.cst (.str (Str.ofString "01"))) (.cons (.cst (.str (Str.ofString ";"))) (.cons (.cst (.str (Str.ofString "00:1"))) (.cons (.cst (.str (Str.ofString "0:0"))) (.cons (.cst (.str (Str.ofString "11:3"))) (.cons (.cst (.str (Str.ofString "1:4"))) (.cons (.cst (.str (Str.ofString "/"))) (.cons (.cst (.str (Str.ofString ":"))) (.cons (.cst (.str (Str.ofString "012/000/000"))) (.cons (.cst (.str (Str.ofString "0:"))) (.cons (.cst (.str (Str.ofString ""))) .nil)))))))))))))))) (.cons (.put 4 (.var 2) (.idx (.var 5) (.bin .Mod (.bin .FloorDiv (.var 1) (.cst (.int 400))) (.cst (.int 14))))) .nil)) .nil) (.cons (.ret (.blt .join (.cons (.cst (.str (Str.ofString " "))) (.cons (.var 4) .nil)))) .nil))))))))))))⟩
noncomputable def yad:Def:=⟨2,2,(.cons (.ret (.and (.isi (.var 0) .int) (.and (.not (.isi (.var 0) .bool)) (.chn .LtE .LtE (.cst (.int 0)) (.var 0) (.var 1))))) .nil)⟩
noncomputable def yu:Stms:=(.cons (.ite (.cmp .NotEq (.idx (.var 3) (.var 4)) (.blt .min (.cons (.comp (.var 0) (.one 0) 1 [3,4] (.rng (.cons (.var 1) .nil)) (.some (.cmp .Eq (.idx (.var 1) (.var 0)) (.idx (.var 1) (.var 2))))) .nil))) (.cons (.ret (.cst (.bl false))) .nil) .nil) .nil)
noncomputable def yj:Stms:=(.cons (.ite (.or (.not (.isi (.var 3) .tuple)) (.cmp .NotEq (.blt .len (.cons (.var 3) .nil)) (.var 1))) (.cons (.ret (.cst (.bl false))) .nil) .nil) (.cons (.ite (.cmp .NotEq (.comp (.var 0) (.one 0) 1 [1] (.data (.var 3)) (.some (.not (.call 29 (.cons (.var 0) (.cons (.bin .Sub (.var 1) (.cst (.int 1))) .nil)))))) (.lst .nil)) (.cons (.ret (.cst (.bl false))) .nil) .nil) (.cons (.for (.one 4) (.rng (.cons (.var 1) .nil)) yu) (.cons (.ite (.cmp .Gt (.var 2) (.cst (.int 0))) (.cons (.set .pu (.one 5) (.idx (.var 0) (.bin .Sub (.var 2) (.cst (.int 1))))) (.cons (.ite (.cmp .GtE (.blt .lenSet (.cons (.var 3) .nil)) (.blt .lenSet (.cons (.var 5) .nil))) (.cons (.ret (.cst (.bl false))) .nil) .nil) (.cons (.ite (.cmp .NotEq (.comp (.var 0) (.one 0) 1 [3,5] (.rng (.cons (.var 1) .nil)) (.some (.cmp .NotEq (.idx (.var 1) (.var 0)) (.idx (.var 1) (.idx (.var 2) (.var 0)))))) (.lst .nil)) (.cons (.ret (.cst (.bl false))) .nil) .nil) .nil))) .nil) .nil))))
noncomputable def d_law_is_ladder:Def:=⟨6,1,(.cons (.ite (.or (.not (.isi (.var 0) .tuple)) (.or (.not (.chn .LtE .LtE (.cst (.int 1)) (.blt .len (.cons (.var 0) .nil)) (.cst (.int 4)))) (.not (.isi (.idx (.var 0) (.cst (.int 0))) .tuple)))) (.cons (.ret (.cst (.bl false))) .nil) .nil) (.cons (.set .pu (.one 1) (.blt .len (.cons (.idx (.var 0) (.cst (.int 0))) .nil))) (.cons (.ite (.or (.not (.chn .LtE .LtE (.cst (.int 1)) (.var 1) (.cst (.int 5)))) (.or (.cmp .NotEq (.idx (.var 0) (.cst (.int 0))) (.ofi .tuple (.rng (.cons (.var 1) .nil)))) (.cmp .NotEq (.idx (.var 0) (.neg (.cst (.int 1)))) (.bin .Mult (.tup (.cons (.cst (.int 0)) .nil)) (.var 1))))) (.cons (.ret (.cst (.bl false))) .nil) .nil) (.cons (.for (.many [2,3]) (.enu (.var 0)) yj) (.cons (.ret (.cst (.bl true))) .nil)))))⟩
noncomputable def zW:Stms:=(.cons (.ite (.or (.not (.isi (.var 3) .tuple)) (.cmp .NotEq (.blt .len (.cons (.var 3) .nil)) (.blt .len (.cons (.idx (.var 0) (.cst (.int 0))) .nil)))) (.cons (.ret (.cst (.bl false))) .nil) .nil) (.cons (.ite (.cmp .NotEq (.comp (.var 0) (.one 0) 1 [3,0] (.rng (.cons (.blt .len (.cons (.var 3) .nil)) .nil)) (.some (.not (.call 29 (.cons (.idx (.var 1) (.var 0)) (.cons (.bin .Sub (.blt .len (.cons (.idx (.idx (.idx (.var 2) (.cst (.int 0))) (.var 0)) (.cst (.int 0))) .nil)) (.cst (.int 1))) .nil)))))) (.lst .nil)) (.cons (.ret (.cst (.bl false))) .nil) .nil) .nil))
noncomputable def jK:Stms:=(.cons (.ite (.or (.not (.isi (.var 1) .tuple)) (.not (.chn .LtE .LtE (.cst (.int 1)) (.blt .len (.cons (.var 1) .nil)) (.var 2)))) (.cons (.ret (.cst (.bl false))) .nil) .nil) .nil)
noncomputable def yah:Def:=⟨4,1,(.cons (.ite (.or (.not (.isi (.var 0) .tuple)) (.cmp .NotEq (.blt .len (.cons (.var 0) .nil)) (.cst (.int 3)))) (.cons (.ret (.cst (.bl false))) .nil) .nil) (.cons (.for (.many [1,2]) (.zip (.var 0) (.tup (.cons (.cst (.int 3)) (.cons (.cst (.int 8)) (.cons (.cst (.int 8)) .nil))))) jK) (.cons (.ite (.or (.cmp .NotEq (.comp (.var 0) (.one 0) 1 [] (.data (.idx (.var 0) (.cst (.int 0)))) (.some (.not (.call 30 (.cons (.var 0) .nil))))) (.lst .nil)) (.cmp .NotEq (.blt .len (.cons (.idx (.var 0) (.cst (.int 1))) .nil)) (.blt .len (.cons (.idx (.var 0) (.cst (.int 2))) .nil)))) (.cons (.ret (.cst (.bl false))) .nil) .nil) (.cons (.for (.one 3) (.data (.idx (.var 0) (.cst (.int 1)))) zW) (.cons (.ret (.cmp .Eq (.comp (.var 0) (.one 0) 1 [] (.data (.idx (.var 0) (.cst (.int 2)))) (.some (.not (.call 29 (.cons (.var 0) (.cons (.cst (.int 3)) .nil)))))) (.lst .nil))) .nil)))))⟩
noncomputable def jao:Def:=⟨1,1,(.cons (.ret (.blt .tuple (.cons (.comp (.blt .find (.cons (.cst (.str (Str.ofString "0123456789"))) (.cons (.var 0) .nil))) (.one 0) 1 [] (.chr (.var 0)) .none) .nil))) .nil)⟩
noncomputable def ju:Stms:=(.cons (.set .pu (.one 7) (.blt .split (.cons (.var 6) (.cons (.cst (.str (Str.ofString ":"))) .nil)))) (.cons (.ite (.or (.cmp .NotEq (.blt .len (.cons (.var 7) .nil)) (.cst (.int 2))) (.cmp .NotEq (.blt .len (.cons (.idx (.var 7) (.cst (.int 1))) .nil)) (.cst (.int 1)))) (.cons (.ret (.cst .non)) .nil) .nil) (.cons (.app 4 .pu (.call 32 (.cons (.idx (.var 7) (.cst (.int 0))) .nil))) (.cons (.app 5 .pu (.idx (.call 32 (.cons (.idx (.var 7) (.cst (.int 1))) .nil)) (.cst (.int 0)))) .nil))))
noncomputable def qap:Def:=⟨9,1,(.cons (.set .pu (.one 1) (.blt .split (.cons (.var 0) (.cons (.cst (.str (Str.ofString " "))) .nil)))) (.cons (.ite (.cmp .NotEq (.blt .lcnt (.cons (.var 1) (.cons (.cst (.str (Str.ofString ";"))) .nil))) (.cst (.int 1))) (.cons (.ret (.cst .non)) .nil) .nil) (.cons (.set .pu (.one 2) (.blt .lidx (.cons (.var 1) (.cons (.cst (.str (Str.ofString ";"))) .nil)))) (.cons (.set .pu (.one 3) (.comp (.blt .tuple (.cons (.comp (.call 32 (.cons (.var 0) .nil)) (.one 0) 1 [] (.data (.blt .split (.cons (.var 0) (.cons (.cst (.str (Str.ofString "/"))) .nil)))) .none) .nil)) (.one 0) 1 [] (.data (.slc (.var 1) .none (.some (.var 2)))) .none)) (.cons (.set .ow (.one 4) (.lst .nil)) (.cons (.set .ow (.one 5) (.lst .nil)) (.cons (.for (.one 6) (.data (.slc (.var 1) (.some (.bin .Add (.var 2) (.cst (.int 1)))) .none)) ju) (.cons (.set .cl (.one 8) (.tup (.cons (.blt .tuple (.cons (.var 3) .nil)) (.cons (.blt .tuple (.cons (.var 4) .nil)) (.cons (.blt .tuple (.cons (.var 5) .nil)) .nil))))) (.cons (.ret (.idx (.lst (.cons (.cst .non) (.cons (.var 8) .nil))) (.blt .int (.cons (.call 31 (.cons (.var 8) .nil)) .nil)))) .nil)))))))))⟩
noncomputable def qat:Def:=⟨3,1,(.cons (.tryr 1 26 (.var 0)) (.cons (.ret (.idx (.lst (.cons (.var 1) (.cons (.cst (.int 0)) .nil))) (.blt .int (.cons (.cmp .Is (.var 1) (.cst .non)) .nil)))) .nil))⟩
noncomputable def zbJ:Stms:=(.cons (.set .pu (.one 3) (.call 28 (.cons (.var 3) (.cons (.call 2 (.cons (.var 2) (.cons (.var 4) .nil))) .nil)))) .nil)
noncomputable def jee:Def:=⟨6,1,(.cons (.set .pu (.one 1) (.call 4 (.cons (.call 1 (.cons (.var 0) (.cons (.cst (.int 0)) .nil))) .nil))) (.cons (.set .pu (.one 2) (.call 1 (.cons (.var 0) (.cons (.cst (.int 1)) .nil)))) (.cons (.set .pu (.one 3) (.call 27 (.cons (.var 1) .nil))) (.cons (.ite (.cmp .NotEq (.call 34 (.cons (.var 3) .nil)) (.var 1)) (.cons (.ret (.cst (.bl false))) .nil) .nil) (.cons (.for (.one 4) (.rng (.cons (.idx (.tup (.cons (.cst (.int 0)) (.cons (.cst (.int 1)) (.cons (.cst (.int 2)) (.cons (.cst (.int 4)) (.cons (.cst (.int 0)) (.cons (.cst (.int 1)) .nil))))))) (.bin .Mod (.var 2) (.cst (.int 6)))) .nil)) zbJ) (.cons (.set .pu (.one 5) (.call 34 (.cons (.var 3) .nil))) (.cons (.ite (.cmp .NotEq (.var 5) (.call 33 (.cons (.var 3) .nil))) (.cons (.ret (.cst (.bl false))) .nil) .nil) (.cons (.ret (.or (.cmp .Is (.var 5) (.cst .non)) (.and (.cmp .Is (.call 16 (.cons (.var 5) .nil)) (.cst (.bl true))) (.cmp .Eq (.call 27 (.cons (.var 5) .nil)) (.var 3))))) .nil))))))))⟩
noncomputable def prog:List Def:=[LG.zan,LG.jY,LG.yai,LG.d_law_ladder,LG.jai,LG.jY,yK,yM,qI,d_is_step,jM,qQ,jE,yaj,qao,jaV,zaW,qah,yao,qaW,yaJ,yaw,jaJ,jbI,zaK,yaW,ycj,zat,d_law_changed,yad,d_law_is_ladder,yah,jao,qap,qat,jee]
end K03
end
section
open PySem Eng LG K03
namespace M
theorem zbj (C:Tab) (d:D) (b:Int) (h:noS d=true):zN C yK [d,.int b]=some (.bl (jQ d b)):=by
 refine jg rfl ?_;simp only [yK,List.replicate,List.map_cons,List.map_nil,List.cons_append,List.nil_append,Nat.sub_self];have e1:=zH h;cases d with
 | int i =>
  refine zq (k:=false) ?_ (λz=>nomatch z) (λ_=>jh ?_)
  ·simp! [zc,zo,qc,yc,jc,qd,qa,ya,yd,e1,ybA]
  ·simp! [zc,zo,qc,yc,jc,qd,qa,ya,yd]
   by_cases h0:0<=i<;>simp [jQ,h0]
 | scr _=>cases h
 | _ =>
  refine zq (k:=true) ?_ (λ_=>rfl) (λz=>nomatch z);simp! [zc,zo,qc,yc,jc,qd,qa,ya,yd,e1,ybA]
noncomputable def jN (d:D) (b:Int):Bool:=match d with | .tup xs=>decide (1<=(xs.length:Int))&&decide ((xs.length:Int)<=b) | _=>false
theorem tupUp_iff {d:D} {b:Int}:jN d b=true↔∃ xs,d=.tup xs/\1<=xs.length/\(xs.length:Int)<=b:=by
 cases d<;>simp [jN]<;>omega
theorem zbu (C:Tab) (d:D) (b:Int) (h:noS d=true):zN C yM [d,.int b]=some (.bl (jN d b)):=by
 refine jg rfl ?_;simp only [yM,List.replicate,List.map_cons,List.map_nil,List.cons_append,List.nil_append,Nat.sub_self];have e1:=zH h;cases d with
 | tup xs =>
  refine jh ?_;simp! [zc,zo,qc,yc,jc,qd,qa,ya,yd,e1,ybA]
  by_cases h0:1<=(xs.length:Int)<;>simp [jN,h0]
 | scr _=>cases h
 | _ =>
  refine jh ?_;simp! [zc,zo,qc,yc,jc,qd,qa,ya,yd,e1,ybA];rfl
theorem ybU (C:Tab) (d:D) (b:Int) (h:noS d=true):zN C yad [d,.int b]=some (.bl (jQ d (b+1))):=by
 refine jg rfl ?_;simp only [yad,List.replicate,List.map_cons,List.map_nil,List.cons_append,List.nil_append,Nat.sub_self];have e1:=zH h;cases d with
 | int i =>
  refine jh ?_;simp! [zc,zo,qc,yc,jc,qd,qa,ya,yd,e1,ybA]
  by_cases h0:0<=i
  ·simp [jQ,h0];omega
  ·simp [jQ,h0]
 | scr _=>cases h
 | _ =>
  refine jh ?_;simp! [zc,zo,qc,yc,jc,qd,qa,ya,yd,e1,ybA];rfl
noncomputable def hasB (d:D) (bs:List Int):Bool:=match d with | .tup xs=>decide (xs.length=bs.length)&&(List.zipWith jQ xs bs).all id | _=>false
theorem jcj (C:Tab) (h6:∀ d b,noS d=true->C 6 [d,.int b]=some (.bl (jQ d b))) (ρ:En):∀ (xs:List D) (bs:List Int),yS xs=true->gather (turn C (.call 6 (.cons (.var 0) (.cons (.var 1) .nil))) (.many [0,1]) 2 [] .none ρ) (jau xs (eI bs))=some ((List.zipWith jQ xs bs).map D.bl)
 | [],bs,_=>by cases bs<;>rfl
 | _::_,[],_=>rfl
 | x::xs,b::bs,h=>by
  rw [yS,wj] at h;have ih:=jcj C h6 ρ xs bs h.2;simp only [eI,List.map_cons,jau,List.zipWith_cons_cons] at *;rw [gather,ih];simp only [turn,zaa,setM,yg,List.replicate,List.map_cons,List.map_nil,List.set,List.cons_append,List.nil_append,EA,qw,zx,qv,qm,jm,yn,zR,qN,jb,ye,we,Option.map_some,Option.bind_none,Option.map_none,if_true,if_false,↓reduceIte,and_self,Bool.not_true,Bool.not_false,wq,Int.reduceLT,Int.reduceLE,Int.reduceNeg,Nat.reduceMul,Nat.reduceAdd,Nat.reduceLeDiff,List.length_cons,List.length_nil,List.set,true_and,and_true,zc,zo,qc,yc,jc,qd,qa,ya,yd,h6 x b h.1]
theorem qbu (C:Tab) (h6:∀ d b,noS d=true->C 6 [d,.int b]=some (.bl (jQ d b))) (d:D) (bs:List Int) (h:noS d=true):zN C qI [d,.lst (eI bs)]=some (.bl (hasB d bs)):=by
 refine jg rfl ?_;simp only [qI,List.replicate,List.map_cons,List.map_nil,List.cons_append,List.nil_append,Nat.sub_self];have e1:=zH h;cases d with
 | tup xs =>
  refine zq (k:=!decide (xs.length=bs.length)) ?_ (λe=>?_) (λe=>jh ?_)
  ·simp! [zc,zo,qc,yc,jc,qd,qa,ya,yd,e1,ybA,yf];rw [qN (by rfl)];simp only [eqD,Option.map_some,Option.some.injEq,D.bl.injEq]
   by_cases q:xs.length=bs.length
   ·simp [q]
   ·have:¬ ((xs.length:Int)=(bs.length:Int)):=by omega
    simp [q,this]
  ·have q:¬ xs.length=bs.length:=by simpa using e
   simp [hasB,q]
  ·have q:xs.length=bs.length:=by simpa using e
   simp! [zc,zo,qc,yc,jc,qd,qa,ya,yd];rw [jcj C h6 _ xs bs h];simp! [zc,zo,qc,yc,jc,qd,qa,ya,yd,zad,hasB,q,decide_true,Bool.true_and]
 | scr _=>cases h
 | _ =>
  refine zq (k:=true) ?_ (λ_=>rfl) (λz=>nomatch z);simp! [zc,zo,qc,yc,jc,qd,qa,ya,yd,e1,ybA]
end M
end
section
open PySem Eng LG K03
namespace M
def jaP (d:D):Prop:=∃ s:List Int,d=tI s/\1<=s.length/\s.length<=5/\okS s.length s=true
def GS (xs:List D) (i:Nat):Prop:=i<xs.length->∃ n:Int,xs[i]?=some (.int n)/\0<=n/\n<=(i:Int)/\xs[n.toNat]?=some (.int n)
theorem ybu (xs:List D) (h:∀ i<xs.length,∃ n:Int,xs[i]?=some (.int n)):∃ s:List Int,xs=eI s:=by
 induction xs with
 | nil=>exact ⟨[],rfl⟩
 | cons x r ih =>
  obtain ⟨n,e⟩:=h 0 (by simp)
  obtain ⟨s,rfl⟩:=ih λi hi=>by
   obtain ⟨n,e⟩:=h (i+1) (by simpa using hi);exact ⟨n,by simpa using e⟩
  have e:x=.int n:=by simpa using e
  exact ⟨n::s,by rw [e];rfl⟩
theorem qE {s:List Int} {i:Nat} (h:i<s.length):(eI s)[i]?=some (.int (s.getD i 0)):=by simp [eI,List.getD,h]
theorem qbJ {xs:List D} (h1:1<=xs.length) (h5:xs.length<=5):(∀ j<xs.length,GS xs j)↔jaP (.tup xs):=by
 constructor
 ·intro g;obtain ⟨s,rfl⟩:=ybu xs λi hi=>by obtain ⟨n,e,_⟩:=g i hi hi;exact ⟨n,e⟩
  rw [yf] at *;refine ⟨s,rfl,h1,h5,okS_iff.mpr ⟨rfl,λv hv=>?_⟩⟩;obtain ⟨n,e,a,b,c⟩:=g v hv (by rw [yf];exact hv);rw [qE hv] at e;have e:s.getD v 0=n:=by simpa using e
  have hn:n.toNat<s.length:=by omega
  rw [qE hn] at c;have c:s.getD n.toNat 0=n:=by simpa using c
  unfold sv;rw [e,c];exact ⟨a,b,rfl⟩
 ·rintro ⟨s,e,a1,a5,ok⟩;have e:xs=eI s:=by simpa [tI] using e
  subst e;obtain ⟨_,hv⟩:=okS_iff.mp ok;intro j hj _;rw [yf] at hj;obtain ⟨p,q,r⟩:=hv j hj;unfold sv at r;refine ⟨s.getD j 0,qE hj,p,q,?_⟩;rw [qE (by omega),r]
theorem jbu (C:Tab) (h6:∀ d b,noS d=true->C 6 [d,.int b]=some (.bl (jQ d b))) (h7:∀ d b,noS d=true->C 7 [d,.int b]=some (.bl (jN d b))) (d:D) (h:noS d=true) :
  ∃ b,zN C d_is_step [d]=some (.bl b)/\(b=true↔jaP d):=by
 suffices q:∃ b,exs C d_is_step.b [.pu d,.un,.un]=some (.rt (.bl b))/\(b=true↔jaP d) by
  obtain ⟨b,e,i⟩:=q;exact ⟨b,jg rfl e,i⟩
 simp only [d_is_step];cases hk:jN d 5 with
 | false =>
  refine ⟨false,zq (k:=true) ?_ (λ_=>rfl) (λz=>nomatch z),?_⟩
  ·simp! [zc,zo,qc,yc,jc,qd,qa,ya,yd,h7 d 5 h,hk]
  ·constructor
   ·intro z;cases z
   ·rintro ⟨s,rfl,a,b,_⟩
    have:jN (tI s) 5=true:=tupUp_iff.mpr ⟨_,rfl,by rw [yf];exact a,by rw [yf];omega⟩
    rw [this] at hk;cases hk
 | true =>
  obtain ⟨xs,rfl,a1,a5⟩:=tupUp_iff.mp hk;have a5:xs.length<=5:=by omega
  have hx:∀ d∈xs,noS d=true:=jx h
  have loop := zao (f := λd ρ' => (puT (.many [1, 2]) d ρ').bind λρ'' => exs C qad ρ'') (λ_ ρ => ∃ y z, ρ = [.pu (.tup xs), y, z]) (GS xs) (zaf 0 xs) 0 [.pu (.tup xs), .un, .un] ⟨_, _, rfl⟩ (λj hj => absurd hj (Nat.not_lt_zero _)) (by
   rintro i d ρ hd hg ⟨y,z,rfl⟩;rw [Nat.zero_add] at *;rw [qJ] at hd;cases e:xs[i]? with
   | none=>rw [e] at hd;cases hd
   | some x =>
    rw [e] at hd;have hil:i<xs.length:=(wu.mp e).1;cases hd;have nx:=hx x (wV e);simp only [Nat.zero_add,puT,List.length_cons,List.length_nil,if_true,puM,List.set,we,qad];cases hn:jQ x ((i:Int)+1) with
    | false =>
     refine .inr ⟨λg=>?_,zq (k:=true) ?_ (λ_=>rfl) (λz=>nomatch z)⟩
     ·obtain ⟨n,e2,b1,b2,_⟩:=g hil;rw [e] at e2;cases e2
      have:jQ (.int n) ((i:Int)+1)=true:=numB_iff.mpr ⟨n,rfl,b1,by omega⟩
      rw [this] at hn;cases hn
     ·simp! [zc,zo,qc,yc,jc,qd,qa,ya,yd,h6 x _ nx,hn]
    | true =>
     obtain ⟨n,rfl,b1,b2⟩:=numB_iff.mp hn;have hnl:n.toNat<xs.length:=by omega
     obtain ⟨w,hw⟩:∃ w,xs[n.toNat]?=some w:=⟨xs[n.toNat],by simp [hnl]⟩;have nw:=hx w (wV hw)
     have key:eqD w (.int n)=true↔w=.int n:=by
      constructor
      ·intro q
       by_cases hni:n.toNat=i
       ·rw [hni,e] at hw;cases hw;rfl
       ·obtain ⟨m,e3,_⟩:=hg n.toNat (by omega) hnl;rw [hw] at e3;cases e3
        have:m=n:=by simpa [eqD] using q
        rw [this]
      ·rintro rfl;simp [eqD]
     have test:ev C (.cmp .NotEq (.idx (.var 0) (.var 2)) (.var 2)) (vA [.pu (.tup xs),.pu (.int i),.pu (.int n)])=some (.bl (!eqD w (.int n))):=by
      simp! [zc,zo,qc,yc,jc,qd,qa,ya,yd,jt b1 hw];rw [qN (qcE nw)];rfl
     by_cases hq:eqD w (.int n)=true
     ·refine .inl ⟨λ_=>⟨n,e,b1,by omega,?_⟩,_,zq (k:=false) ?_ (λz=>nomatch z) (λ_=>zq (k:=false) ?_ (λz=>nomatch z) (λ_=>yR)),_,_,rfl⟩
      ·rw [hw,key.mp hq]
      ·simp! [zc,zo,qc,yc,jc,qd,qa,ya,yd,h6 (.int n) _ nx,hn]
      ·rw [test,hq];rfl
     ·refine .inr ⟨λg=>hq ?_,zq (k:=false) ?_ (λz=>nomatch z) (λ_=>zq (k:=true) ?_ (λ_=>rfl) (λz=>nomatch z))⟩
      ·obtain ⟨m,e3,_,_,c⟩:=g hil;rw [e] at e3;cases e3
       rw [hw] at c;exact key.mpr (wC c)
      ·simp! [zc,zo,qc,yc,jc,qd,qa,ya,yd,h6 (.int n) _ nx,hn]
      ·have:eqD w (.int n)=false:=by simpa using hq
       rw [test,this];rfl)
  rw [Nat.zero_add,jH] at loop;have hit:evI C (.enu (.var 0)) (vP [Sl.pu (.tup xs),.un,.un])=some (zaf 0 xs):=by simp! [zc,zo,qc,yc,jc,qd,qa,ya,yd]
  rcases loop with ⟨g,ρ',e,_⟩ | ⟨g,e⟩
  ·refine ⟨true,zq (k:=false) ?_ (λz=>nomatch z) (λ_=>jR hit e (jh rfl)),?_⟩
   ·simp! [zc,zo,qc,yc,jc,qd,qa,ya,yd,h7 _ 5 h,hk]
   ·exact ⟨λ_=>(qbJ a1 a5).mp g,λ_=>rfl⟩
  ·refine ⟨false,zq (k:=false) ?_ (λz=>nomatch z) (λ_=>jac hit e),?_⟩
   ·simp! [zc,zo,qc,yc,jc,qd,qa,ya,yd,h7 _ 5 h,hk]
   ·exact ⟨(λz=>nomatch z),λq=>absurd ((qbJ a1 a5).mpr q) g⟩
end M
end
section
open PySem Eng LG K03
namespace M
theorem ybJ {ds:List D} {g:D->Bool}:(ds.map g).all id=true↔∀ (i:Nat) (d:D),ds[i]?=some d->g d=true:=by
 rw [List.all_map,List.all_eq_true];constructor
 ·intro h i d e;exact h d (wV e)
 ·intro h d hd;obtain ⟨i,hi,rfl⟩:=List.mem_iff_getElem.mp hd;exact h i _ (by simp [hi])
theorem jbJ {s t:List Int} (hl:s.length=t.length) (h:∀ i<s.length,s.getD i 0=t.getD i 0):s=t:=by
 refine List.ext_getElem hl λi h1 h2=>?_
 have:=h i h1
 simpa [List.getD,h1,h2] using this
theorem jaW {m i:Nat} (h:i<m):((List.range m).map Int.ofNat).getD i 0=(i:Int):=by simp [List.getD,h]
theorem zaX {m i:Nat}:(List.replicate m (0:Int)).getD i 0=0:=by
 by_cases h:i<m<;>simp [List.getD,h]
theorem ycE (C:Tab) (s:List Int):∃ b,zN C jM [tI s]=some (.bl b)/\(b=true↔s=(List.range s.length).map Int.ofNat):=by
 have g:∀ ρ:En,gather (turn C (.cmp .Eq (.var 1) (.var 0)) (.many [0,1]) 2 [] .none ρ) (zaf 0 (eI s))=some (((zaf 0 (eI s)).map λd=>match d with | .tup [a,b]=>eqD b a | _=>false).map D.bl):=λρ=>by
  refine yI _ λd hd=>?_
  obtain ⟨i,hi,e⟩:=List.mem_iff_getElem.mp hd;have e:(zaf 0 (eI s))[i]?=some d:=by simp [hi,e]
  rw [qJ] at e;rw [jH,yf] at hi;rw [qE hi] at e;cases e;simp only [turn,zaa,setM,yg,List.replicate,List.map_cons,List.map_nil,List.set,List.cons_append,List.nil_append,EA,qw,zx,qv,qm,jm,yn,zR,qN,jb,ye,we,Option.map_some,Option.bind_none,Option.map_none,if_true,if_false,↓reduceIte,and_self,Bool.not_true,Bool.not_false,wq,Int.reduceLT,Int.reduceLE,Int.reduceNeg,Nat.reduceMul,Nat.reduceAdd,Nat.reduceLeDiff,List.length_cons,List.length_nil,List.set,true_and,and_true,zc,zo,qc,yc,jc,qd,qa,ya,yd,Nat.zero_add];rw [zR (by rfl)];rfl
 refine ⟨((zaf 0 (eI s)).map λd=>match d with | .tup [a,b]=>eqD b a | _=>false).all id,jg rfl (jh ?_),?_⟩
 ·simp! [zc,zo,qc,yc,jc,qd,qa,ya,yd,tI,List.map_cons,List.map_nil,List.cons_append,List.nil_append];rw [g];simp! [zc,zo,qc,yc,jc,qd,qa,ya,yd,zad]
 ·rw [ybJ];constructor
  ·intro h;refine jbJ (by simp) λi hi=>?_
   have:=h i (.tup [.int i,.int (s.getD i 0)]) (by rw [qJ,qE hi];simp)
   rw [jaW hi];simpa [eqD] using this
  ·intro h i d e;rw [qJ] at e
   by_cases hi:i<s.length
   ·rw [qE hi] at e;cases e
    have:s.getD i 0=(i:Int):=by rw [h,jaW hi]
    simp only [this,Nat.zero_add];simp [eqD]
   ·have:(eI s)[i]?=none:=by simp [yf];omega
    rw [this] at e;cases e
theorem qdg (C:Tab) (s:List Int):∃ b,zN C qQ [tI s]=some (.bl b)/\(b=true↔s=List.replicate s.length 0):=by
 have g:∀ ρ:En,gather (turn C (.cmp .Eq (.var 0) (.cst (.int 0))) (.one 0) 1 [] .none ρ) (eI s)=some (((eI s).map λd=>eqD d (.int 0)).map D.bl):=λρ=>by
  refine yI _ λd hd=>?_
  obtain ⟨x,_,rfl⟩:=wJ.mp hd;simp only [turn,zaa,setM,yg,List.replicate,List.map_cons,List.map_nil,List.set,List.cons_append,List.nil_append,EA,qw,zx,qv,qm,jm,yn,zR,qN,jb,ye,we,Option.map_some,Option.bind_none,Option.map_none,if_true,if_false,↓reduceIte,and_self,Bool.not_true,Bool.not_false,wq,Int.reduceLT,Int.reduceLE,Int.reduceNeg,Nat.reduceMul,Nat.reduceAdd,Nat.reduceLeDiff,List.length_cons,List.length_nil,List.set,true_and,and_true,zc,zo,qc,yc,jc,qd,qa,ya,yd,Nat.zero_add];rw [zR (by rfl)];rfl
 refine ⟨((eI s).map λd=>eqD d (.int 0)).all id,jg rfl (jh ?_),?_⟩
 ·simp! [zc,zo,qc,yc,jc,qd,qa,ya,yd,tI,List.map_cons,List.map_nil,List.cons_append,List.nil_append];rw [g];simp! [zc,zo,qc,yc,jc,qd,qa,ya,yd,zad]
 ·rw [ybJ];constructor
  ·intro h;refine jbJ (by simp) λi hi=>?_
   have:=h i (.int (s.getD i 0)) (qE hi)
   rw [zaX];simpa [eqD] using this
  ·intro h i d e
   by_cases hi:i<s.length
   ·rw [qE hi] at e;cases e
    have:s.getD i 0=0:=by rw [h,zaX]
    rw [this];rfl
   ·have:(eI s)[i]?=none:=by simp [yf];omega
    rw [this] at e;cases e
theorem jcE (C:Tab) {s t:List Int} (hs:okS s.length s=true):∃ b,zN C jE [tI t,tI s]=some (.bl b)/\(b=true↔t.length=s.length/\s≠t/\zy s t=true):=by
 obtain ⟨_,hv⟩:=okS_iff.mp hs
 by_cases hl:t.length=s.length
 ·by_cases hne:t=s
  ·subst hne;refine ⟨false,jg rfl (zq (k:=true) ?_ (λ_=>rfl) (λz=>nomatch z)),?_⟩
   ·simp! [zc,zo,qc,yc,jc,qd,qa,ya,yd,tI,List.map_cons,List.map_nil,List.cons_append,List.nil_append];rw [qN (by rfl)];simp only [eqD,beq_self_eq_true,Bool.not_true,Option.map_some,we]
    have:=zR (jbt t t)
    rw [jaI] at this;simp only [tI] at this;rw [this];simp
   ·simp
  ·have g:∀ ρ:En,ρ[0]?=some (some (tI t))->gather (turn C (.cmp .Eq (.idx (.var 2) (.var 0)) (.idx (.var 2) (.var 1))) (.many [0,1]) 2 [0] .none ρ) (zaf 0 (eI s))=some (((zaf 0 (eI s)).map λd=>match d with | .tup [.int a,.int b]=>t.getD a.toNat 0==t.getD b.toNat 0 | _=>false).map D.bl):=λρ hρ=>by
    refine yI _ λd hd=>?_
    obtain ⟨i,hi,e⟩:=List.mem_iff_getElem.mp hd;have e:(zaf 0 (eI s))[i]?=some d:=by simp [hi,e]
    rw [qJ] at e;rw [jH,yf] at hi;rw [qE hi] at e;cases e;obtain ⟨p,q,_⟩:=hv i hi;have e1:(eI t)[((i:Int)).toNat]?=some (.int (t.getD i 0)):=qE (by omega);have e2:(eI t)[(s.getD i 0).toNat]?=some (.int (t.getD (s.getD i 0).toNat 0)):=qE (by omega);simp only [turn,zaa,setM,yg,List.replicate,List.map_cons,List.map_nil,List.set,List.cons_append,List.nil_append,EA,qw,zx,qv,qm,jm,yn,zR,qN,jb,ye,we,Option.map_some,Option.bind_none,Option.map_none,if_true,if_false,↓reduceIte,and_self,Bool.not_true,Bool.not_false,wq,Int.reduceLT,Int.reduceLE,Int.reduceNeg,Nat.reduceMul,Nat.reduceAdd,Nat.reduceLeDiff,List.length_cons,List.length_nil,List.set,true_and,and_true,zc,zo,qc,yc,jc,qd,qa,ya,yd,Nat.zero_add,hρ,tI];rw [jt (by omega) e1,jt p e2];simp! [zc,zo,qc,yc,jc,qd,qa,ya,yd];rw [zR (by rfl)];simp [eqD]
   refine ⟨(((zaf 0 (eI s)).map λd=>match d with | .tup [.int a,.int b]=>t.getD a.toNat 0==t.getD b.toNat 0 | _=>false).all id),jg rfl (zq (k:=false) ?_ (λz=>nomatch z) (λ_=>jh ?_)),?_⟩
   ·simp! [zc,zo,qc,yc,jc,qd,qa,ya,yd,tI,List.map_cons,List.map_nil,List.cons_append,List.nil_append,yf,hl];rw [qN (by rfl)];simp only [eqD,beq_self_eq_true,Bool.not_true,Option.map_some,we]
    have:=zR (jbt t s)
    rw [jaI] at this;simp only [tI] at this;rw [this];simp [hne]
   ·have:=g (vA [Sl.pu (tI t),Sl.pu (tI s)]) rfl;simp! [zc,zo,qc,yc,jc,qd,qa,ya,yd,tI,List.map_cons,List.map_nil,List.cons_append,List.nil_append,List.replicate,jE,Nat.sub_self] at this ⊢;rw [this];simp! [zc,zo,qc,yc,jc,qd,qa,ya,yd,zad]
   ·rw [ybJ];constructor
    ·intro h;refine ⟨hl,λz=>hne z.symm,coarse_iff.mpr λv hv'=>?_⟩
     have:=h v (.tup [.int v,.int (s.getD v 0)]) (by rw [qJ,qE hv'];simp)
     simpa [sv] using this
    ·rintro ⟨_,_,h⟩ i d e;rw [qJ] at e
     by_cases hi:i<s.length
     ·rw [qE hi] at e;cases e
      have:=coarse_iff.mp h i hi
      simpa [sv] using this
     ·have:(eI s)[i]?=none:=by simp [yf];omega
      rw [this] at e;cases e
 ·refine ⟨false,jg rfl (zq (k:=true) ?_ (λ_=>rfl) (λz=>nomatch z)),?_⟩
  ·simp! [zc,zo,qc,yc,jc,qd,qa,ya,yd,tI,List.map_cons,List.map_nil,List.cons_append,List.nil_append,yf];rw [qN (by rfl)]
   have:((t.length:Int)==(s.length:Int))=false:=w6.mpr (by omega)
   simp only [eqD,this,Bool.not_false,Option.map_some,we]
  ·simp [hl]
end M
end
section
open PySem Eng LG K03
namespace M
theorem zdQ {s t:List Int} (h:eI s=eI t):s=t:=by
 have:=congrArg intsOf h
 rw [qan,qan] at this;exact wC this
theorem jad {s t:List Int} (h:tI s=tI t):s=t:=zdQ (by simpa [tI] using h)
theorem ya5 {L K:List (List Int)} (h:L.map tI=K.map tI):L=K:=(List.map_inj_right (λx y e=>jad e)).mp h
theorem zck {L K:List (List Int)} (h:eL L=eL K):L=K:=ya5 (by simpa [eL] using h)
theorem yap (P:List Int->Prop):∀ (xs:List D),(∀ x∈xs,∃ s,x=tI s/\P s)->∃ L:List (List Int),xs=L.map tI/\∀ s∈L,P s
 | [],_=>⟨[],rfl,by simp⟩
 | x::xs,h=>by
  obtain ⟨s,rfl,hs⟩:=h x (by simp);obtain ⟨L,rfl,hL⟩:=yap P xs λy hy=>h y (by simp [hy])
  exact ⟨s::L,rfl,λt ht=>by
   rcases wy.mp ht with rfl | q
   ·exact hs
   ·exact hL t q⟩
def zaQ (d:D):Prop:=∃ m L,d=eL L/\Lad m L
open Classical in
noncomputable def dB (p:Prop):Bool:=decide p
theorem dB_iff {p:Prop}:dB p=true↔p:=by simp [dB]
theorem dB_no {p:Prop}:dB p=false↔¬ p:=by simp [dB]
theorem jay {b:Bool} {p:Prop} (h:b=true↔p):b=dB p:=by
 cases b with
 | true=>exact (dB_iff.mpr (h.mp rfl)).symm
 | false=>exact (dB_no.mpr λz=>by have:=h.mpr z;cases this).symm
theorem yaA:∀ (xs ys:List D) (i:Nat),(jau xs ys)[i]?=(xs[i]?).bind λx=>(ys[i]?).map λy=>.tup [x,y]
 | [],ys,i=>by simp [jau]
 | x::xs,[],i=>by cases h:(x::xs)[i]?<;>simp [jau]
 | x::xs,y::ys,0=>by simp [jau]
 | x::xs,y::ys,i+1=>by simp only [jau,List.getElem?_cons_succ];exact yaA xs ys i
theorem ydg (xs:List D):cutD xs (some 1) none=xs.drop 1:=by
 unfold cutD sIx;simp only [show ¬ ((1:Int)<0) by omega,if_false];cases xs with
 | nil=>rfl
 | cons x r=>simp
def Up (L:List (List Int)):Prop:=∀ (i:Nat) (s t:List Int),L[i]?=some s->L[i+1]?=some t->t.length=s.length/\s≠t/\zy s t=true
theorem qdQ {L:List (List Int)} {a z:List Int} (h0:L[0]?=some a) (hz:L.getLast?=some z) (h4:L.length<=4) (ok:∀ s∈L,1<=s.length/\s.length<=5/\okS s.length s=true) (ha:a=(List.range a.length).map Int.ofNat) (hzz:z=List.replicate z.length 0) (up:Up L):Lad a.length L:=by
 have len:∀ (i:Nat) (s:List Int),L[i]?=some s->s.length=a.length:=by
  intro i
  induction i with
  | zero=>intro s e;rw [h0] at e;cases e;rfl
  | succ i ih =>
   intro s e;have hi:i<L.length:=by have:=(wu.mp e).1;omega
   have:=up i L[i] s (by simp [hi]) e
   rw [this.1];exact ih L[i] (by simp [hi])
 have memlen:∀ s∈L,s.length=a.length:=λs hs=>by
  obtain ⟨i,hi,rfl⟩:=List.mem_iff_getElem.mp hs;exact len i _ (by simp [hi])
 have ma:=ok a (wV h0);refine ⟨ma.1,ma.2.1,h4,λs hs=>by have:=ok s hs;rw [memlen s hs] at this;exact this.2.2,by rw [h0,<-ha],?_,λi s t e1 e2=>?_⟩
 ·rw [hz]
  have:z.length=a.length:=memlen z (List.mem_of_getLast? hz)
  rw [<-this,<-hzz]
 ·have:=up i s t e1 e2;exact ⟨this.2.2,this.2.1⟩
theorem ja5 {m:Nat} {s:List Int} (h:okS m s=true):s.length=m:=(okS_iff.mp h).1
theorem Lad.step {m:Nat} {L:List (List Int)} (h:Lad m L):∀ s∈L,1<=s.length/\s.length<=5/\okS s.length s=true:=λs hs=>by
 have:=h.ok s hs
 have e:=ja5 this;rw [e];exact ⟨h.m1,h.m5,this⟩
theorem Lad.Up {m:Nat} {L:List (List Int)} (h:Lad m L):Up L:=λi s t e1 e2=>by
 have:=h.up i s t e1 e2
 exact ⟨by rw [ja5 (h.ok s (wV e1)),ja5 (h.ok t (wV e2))],this.2,this.1⟩
theorem za6 (C:Tab) (h7:∀ d b,noS d=true->C 7 [d,.int b]=some (.bl (jN d b))) (h9:∀ d,noS d=true->C 9 [d]=some (.bl (dB (jaP d))))
  (h10:∀ s:List Int,C 10 [tI s]=some (.bl (dB (s=(List.range s.length).map Int.ofNat)))) (h11:∀ s:List Int,C 11 [tI s]=some (.bl (dB (s=List.replicate s.length 0))))
  (h12:∀ s t:List Int,okS s.length s=true->C 12 [tI t,tI s]=some (.bl (dB (t.length=s.length/\s≠t/\zy s t=true)))) (d:D) (h:noS d=true) :
  zN C yaj [d]=some (.bl (dB (zaQ d))):=by
 refine jg rfl ?_;simp only [yaj,List.replicate,List.map_cons,List.map_nil,List.cons_append,List.nil_append,Nat.sub_self];have no:∀ {x:Bool},¬ zaQ d->x=true->some (Fl.rt (.bl (dB (zaQ d))))=some (.rt (.bl false)):=λq _=>by rw [dB_no.mpr q]
 cases hk:jN d 4 with
 | false =>
  refine zq (k:=true) ?_ (no ?_) (λz=>nomatch z)
  ·simp! [zc,zo,qc,yc,jc,qd,qa,ya,yd,h7 d 4 h,hk]
  ·rintro ⟨m,L,rfl,l⟩
   have h1:1<=L.length:=by
    have:=l.first
    cases L with
    | nil=>simp at this
    | cons _ _=>simp
   have:jN (eL L) 4=true:=tupUp_iff.mpr ⟨_,rfl,by simpa using h1,by have:=l.len;simp;omega⟩
   rw [this] at hk;cases hk
 | true =>
  obtain ⟨xs,rfl,a1,a4⟩:=tupUp_iff.mp hk;have hx:∀ d∈xs,noS d=true:=jx h;refine zq (k:=false) ?_ (λz=>nomatch z) (λ_=>?_)
  ·simp! [zc,zo,qc,yc,jc,qd,qa,ya,yd,h7 _ 4 h,hk]
  have g9:∀ ρ:En,gather (turn C (.call 9 (.cons (.var 0) .nil)) (.one 0) 1 [] .none ρ) xs=some ((xs.map λd=>dB (jaP d)).map D.bl):=λρ=>by
   refine yI _ λd hd=>?_
   simp only [turn,zaa,yg,List.replicate,List.map_cons,List.map_nil,List.set,List.cons_append,List.nil_append,EA,qw,zx,qv,qm,jm,yn,zR,qN,jb,ye,we,Option.map_some,Option.bind_none,Option.map_none,if_true,if_false,↓reduceIte,and_self,Bool.not_true,Bool.not_false,wq,Int.reduceLT,Int.reduceLE,Int.reduceNeg,Nat.reduceMul,Nat.reduceAdd,Nat.reduceLeDiff,List.length_cons,List.length_nil,List.set,true_and,and_true,zc,zo,qc,yc,jc,qd,qa,ya,yd,h9 d (hx d hd)]
  refine zq (k:=!(xs.map λd=>dB (jaP d)).all id) ?_ (λe=>no ?_ e) (λe=>?_)
  ·simp! [zc,zo,qc,yc,jc,qd,qa,ya,yd,g9,zad]
  ·rintro ⟨m,L,e2,l⟩;have e2:xs=L.map tI:=by simpa [eL] using e2
   have:(xs.map λd=>dB (jaP d)).all id=true:=by
    rw [List.all_map,List.all_eq_true];intro y hy;subst e2;obtain ⟨s,hs,rfl⟩:=wJ.mp hy;obtain ⟨b1,b2,b3⟩:=l.step s hs;exact dB_iff.mpr ⟨s,rfl,b1,b2,b3⟩
   rw [this] at e;cases e
  have st:∀ x∈xs,jaP x:=λx hx'=>by
   have:(xs.map λd=>dB (jaP d)).all id=true:=by simpa using e
   rw [List.all_map,List.all_eq_true] at this;exact dB_iff.mp (this x hx')
  obtain ⟨L,rfl,ok⟩:=yap (λs=>1<=s.length/\s.length<=5/\okS s.length s=true) xs λx hx'=>by
   obtain ⟨s,e,b⟩:=st x hx';exact ⟨s,e,b⟩
  rw [wG] at a1 a4;obtain ⟨a,h0⟩:∃ a,L[0]?=some a:=⟨L[0],by simp⟩
  obtain ⟨z,hz⟩:∃ z,L.getLast?=some z:=by
   cases hq:L.getLast? with
   | none=>rw [List.getLast?_eq_none_iff] at hq;subst hq;simp at a1
   | some z=>exact ⟨z,rfl⟩
  have i0:atI (L.map tI) 0=some (tI a):=jt (by decide) (by simp [h0]);have iz:atI (L.map tI) (-1)=some (tI z):=qaJ hz;refine zq (k:=!(dB (a=(List.range a.length).map Int.ofNat)&&dB (z=List.replicate z.length 0))) ?_ (λe=>no ?_ e) (λe=>?_)
  ·simp! [zc,zo,qc,yc,jc,qd,qa,ya,yd,i0,iz,h10,h11];cases dB (a=(List.range a.length).map Int.ofNat)<;>simp
  ·rintro ⟨m,L',e2,l⟩
   have:=zck (L:=L) (K:=L') e2
   subst this;have ea:=l.first;rw [h0] at ea;have ez:=l.last;rw [hz] at ez;have ea:a=(List.range m).map Int.ofNat:=by simpa using ea
   have ez:z=List.replicate m 0:=by simpa using ez
   have q1:a=(List.range a.length).map Int.ofNat:=by rw [ea];simp
   have q2:z=List.replicate z.length 0:=by rw [ez];simp
   rw [dB_iff.mpr q1,dB_iff.mpr q2] at e;cases e
  have ee:(dB (a=(List.range a.length).map Int.ofNat)&&dB (z=List.replicate z.length 0))=true:=by simpa using e
  rw [wj,dB_iff,dB_iff] at ee;refine jh ?_
  have g12:∀ ρ:En,∃ bs:List Bool,gather (turn C (.call 12 (.cons (.var 1) (.cons (.var 0) .nil))) (.many [0,1]) 2 [] .none ρ) (jau (L.map tI) ((L.map tI).drop 1))=some (bs.map D.bl)/\(bs.all id=true↔Up L):=λρ=>by
   have g:=yI (f:=turn C (.call 12 (.cons (.var 1) (.cons (.var 0) .nil))) (.many [0,1]) 2 [] .none ρ) (g:=λd=>dB (∀ s t,d=.tup [tI s,tI t]->t.length=s.length/\s≠t/\zy s t=true)) (jau (L.map tI) ((L.map tI).drop 1)) λd hd=>by
    obtain ⟨i,hi,e⟩:=List.mem_iff_getElem.mp hd;have e:(jau (L.map tI) ((L.map tI).drop 1))[i]?=some d:=wu.mpr ⟨hi,e⟩;rw [yaA,List.getElem?_drop,wz,wz] at e;cases q1:L[i]? with
    | none=>rw [q1] at e;cases e
    | some s =>
     cases q2:L[1+i]? with
     | none=>rw [q1,q2] at e;cases e
     | some t =>
      rw [q1,q2] at e;cases e;simp only [turn,zaa,setM,yg,List.replicate,List.map_cons,List.map_nil,List.set,List.cons_append,List.nil_append,EA,qw,zx,qv,qm,jm,yn,zR,qN,jb,ye,we,Option.map_some,Option.bind_none,Option.map_none,if_true,if_false,↓reduceIte,and_self,Bool.not_true,Bool.not_false,wq,Int.reduceLT,Int.reduceLE,Int.reduceNeg,Nat.reduceMul,Nat.reduceAdd,Nat.reduceLeDiff,List.length_cons,List.length_nil,List.set,true_and,and_true,zc,zo,qc,yc,jc,qd,qa,ya,yd,h12 s t (ok s (wV q1)).2.2];congr 2;congr 1;refine jay ?_;rw [dB_iff];constructor
      ·intro q s' t' e';have e1:s=s':=jad (by simpa using (congrArg (λd=>match d with | .tup [a,b]=>a | _=>.non) e'));have e2:t=t':=jad (by simpa using (congrArg (λd=>match d with | .tup [a,b]=>b | _=>.non) e'));subst e1;subst e2;exact q
      ·intro q;exact q s t rfl
   refine ⟨_,g,?_⟩;rw [ybJ];constructor
   ·intro q i s t e1 e2
    have := q i (.tup [tI s, tI t]) (by
     rw [yaA,List.getElem?_drop,wz,wz,e1,show 1+i=i+1 by omega,e2];rfl)
    exact dB_iff.mp this s t rfl
   ·intro q i d e;rw [yaA,List.getElem?_drop,wz,wz] at e;refine dB_iff.mpr ?_;rintro s t rfl;cases q1:L[i]? with
    | none=>rw [q1] at e;cases e
    | some s' =>
     cases q2:L[1+i]? with
     | none=>rw [q1,q2] at e;cases e
     | some t' =>
      rw [q1,q2] at e;have e:=wC e;have e1:s'=s:=jad (by simpa using (congrArg (λd=>match d with | .tup [a,b]=>a | _=>.non) e));have e2:t'=t:=jad (by simpa using (congrArg (λd=>match d with | .tup [a,b]=>b | _=>.non) e));subst e1;subst e2
      exact q i s' t' q1 (by rw [<-q2];congr 1;omega)
  simp! [zc,zo,qc,yc,jc,qd,qa,ya,yd,jcs,ydg];obtain ⟨bs,g,hb⟩:=g12 [some (D.tup (L.map tI))];rw [g];simp! [zc,zo,qc,yc,jc,qd,qa,ya,yd,zad];congr 2;refine jay (hb.trans ?_);constructor
  ·intro q;exact ⟨_,L,rfl,qdQ h0 hz (by omega) ok ee.1 ee.2 q⟩
  ·rintro ⟨m,L',e2,l⟩
   have:=zck (L:=L) (K:=L') e2
   subst this;exact l.Up
end M
end
section
open PySem Eng LG K03
namespace M
noncomputable def cls (m:Nat) (s:List Int) (v:Nat):List Int:=((List.range m).map Int.ofNat).filter λo=>s.getD o.toNat 0==s.getD v 0
noncomputable def cnt (s:List Int):Nat:=(qbn s).length
theorem jdg:∀ m∈[1,2,3,4,5],∀ s∈lists m,((List.range m).all λv=>ybn (cls m s v)==some (s.getD v 0))=okS m s:=by decide +kernel
theorem zcF:∀ m∈[1,2,3,4,5],∀ s∈lists m,∀ v∈List.range m,(ybn (cls m s v)).isSome=true:=by decide +kernel
theorem zdh:∀ m∈[1,2,3,4,5],∀ s∈steps m,∀ t∈steps m,zy s t=true->decide (cnt t<cnt s)=!decide (s=t):=by decide +kernel
end M
end
section
open PySem Eng LG K03
namespace M
theorem qaK (l:List Int) (g:D->Bool):(eI l).filter g=eI (l.filter λx=>g (.int x)):=by
 induction l with
 | nil=>rfl
 | cons a r ih =>
  simp only [eI,List.map_cons,List.filter_cons] at *;cases g (.int a)<;>simp [ih]
theorem ne_nil {l:List D} (h:yS l=true):zV .NotEq (.lst l) (.lst [])=some (!l.isEmpty):=by
 rw [qN (ybI (show noS (.lst l)=true from h) rfl (by simp [dep,zbn]))];cases l<;>rfl
theorem eq_nil {l:List D} (h:yS l=true):zV .Eq (.lst l) (.lst [])=some l.isEmpty:=by
 rw [zR (ybI (show noS (.lst l)=true from h) rfl (by simp [dep,zbn]))];cases l<;>rfl
theorem jaj {l:List D} (g:D->Bool) (h:yS l=true):yS (l.filter g)=true:=jas λd hd=>jx h d (List.mem_filter.mp hd).1
theorem qbj {s:List Int} (h:yag s=true):yJ .lenSet [tI s]=some (.int (cnt s)):=by
 simp only [yJ,ints1,tI,itemsD,we,qan];rw [if_pos h];rfl
theorem qaX {m:Nat} {s:List Int} (h5:m<=5) (h:∀ x∈s,0<=x/\x<(m:Int)):yag s=true:=by
 unfold yag;rw [List.all_eq_true];intro x hx
 have:=h x hx
 have z:(lowM:Int)=5:=rfl;simp only [wj,wI,z];omega
theorem ydQ {l:List Int} {w:Int} (h:ybn l=some w):yJ .min [.lst (eI l)]=some (.int w):=zdg h
theorem zef (C:Tab) {m v:Nat} {s:List Int} (h5:m<=5) (hl:s.length=m) (hv':v<m) (ρ:En) (r3:ρ[3]?=some (some (tI s))) (r4:ρ[4]?=some (some (.int v))) :
  gather (turn C (.var 0) (.one 0) 1 [3,4] (.some (.cmp .Eq (.idx (.var 1) (.var 0)) (.idx (.var 1) (.var 2)))) ρ) (zj 0 m)=some (eI (cls m s v)):=by
 have ev':(eI s)[((v:Int)).toNat]?=some (.int (s.getD v 0)):=qE (by omega);rw [yy (g:=λd=>match d with | .int o=>s.getD o.toNat 0==s.getD v 0 | _=>false),yan m h5,qaK]
 ·rfl
 ·intro d hd;obtain ⟨o,rfl,o1,o2⟩:=zO hd;have eo:(eI s)[o.toNat]?=some (.int (s.getD o.toNat 0)):=qE (by omega);simp only [turn,zaa,yg,List.replicate,List.map_cons,List.map_nil,List.set,List.cons_append,List.nil_append,EA,qw,zx,qv,qm,jm,yn,zR,qN,jb,ye,we,Option.map_some,Option.bind_none,Option.map_none,if_true,if_false,↓reduceIte,and_self,Bool.not_true,Bool.not_false,wq,Int.reduceLT,Int.reduceLE,Int.reduceNeg,Nat.reduceMul,Nat.reduceAdd,Nat.reduceLeDiff,List.length_cons,List.length_nil,List.set,true_and,and_true,zc,zo,qc,yc,jc,qd,qa,ya,yd,r3,r4,tI,jt o1 eo,jt (by omega) ev'];rw [zR (by rfl)];simp! [zc,zo,qc,yc,jc,qd,qa,ya,yd,eqD];split<;>rfl
theorem jbU {m:Nat} (h5:m<=5):rngD [.int (m:Int)]=some (zj 0 m):=by
 simp only [rngD];rw [if_pos ⟨by omega,by omega,qq (by omega)⟩,wX]
theorem qcF (C:Tab) {xs:List D} {m i v:Nat} {s:List Int} {y5:Sl} {w:Int} (h5:m<=5) (hl:s.length=m) (hv':v<m) (hw:ybn (cls m s v)=some w) :
  ev C (.cmp .NotEq (.idx (.var 3) (.var 4)) (.blt .min (.cons (.comp (.var 0) (.one 0) 1 [3,4] (.rng (.cons (.var 1) .nil)) (.some (.cmp .Eq (.idx (.var 1) (.var 0)) (.idx (.var 1) (.var 2))))) .nil))) (vA [.pu (.tup xs),.pu (.int m),.pu (.int i),.pu (tI s),.pu (.int v),y5])=some (.bl (!(s.getD v 0==w))):=by
 have ev':(eI s)[((v:Int)).toNat]?=some (.int (s.getD v 0)):=qE (by omega);refine zw (jy (x:=tI s) (y:=.int v) rfl rfl (jt (by omega) ev')) (yw (zM (jbT (x:=.int m) rfl (jbU h5)) (zef C h5 hl hv' _ rfl rfl)) (ydQ hw)) ?_;rw [qN (by rfl)];simp only [eqD]
theorem qck {m:Nat} {s:List Int} (mm:m∈[1,2,3,4,5]) (mem:s∈lists m):(∀ j<m,j<m->ybn (cls m s j)=some (s.getD j 0))↔okS m s=true:=by
 rw [<-jdg m mm s mem];simp only [List.all_eq_true,vg,vq];exact ⟨λh j hj=>h j hj hj,λh j hj _=>h j hj⟩
theorem yck (C:Tab) {xs:List D} {m i:Nat} {s:List Int} {y4 y5:Sl} (h1:1<=m) (h5:m<=5) (hl:s.length=m) (hv:∀ x∈s,0<=x/\x<(m:Int)) :
  (okS m s=true/\∃ z,forL (λd ρ'=>(puT (.one 4) d ρ').bind λρ''=>exs C yu ρ'') (zj 0 m) [.pu (.tup xs),.pu (.int m),.pu (.int i),.pu (tI s),y4,y5]=some (.nx [.pu (.tup xs),.pu (.int m),.pu (.int i),.pu (tI s),z,y5]))
  \/ (¬ okS m s=true/\forL (λd ρ'=>(puT (.one 4) d ρ').bind λρ''=>exs C yu ρ'') (zj 0 m) [.pu (.tup xs),.pu (.int m),.pu (.int i),.pu (tI s),y4,y5]=some (.rt (.bl false))):=by
 have mem:s∈lists m:=zaJ m s hl λx hx=>by have:=hv x hx;omega
 have mm:=jed h1 h5
 have loop := zao (f := λd ρ' => (puT (.one 4) d ρ').bind λρ'' => exs C yu ρ'') (λ_ ρ => ∃ z, ρ = [.pu (.tup xs), .pu (.int m), .pu (.int i), .pu (tI s), z, y5]) (λv => v < m -> ybn (cls m s v) = some (s.getD v 0)) (zj 0 m) 0 [.pu (.tup xs), .pu (.int m), .pu (.int i), .pu (tI s), y4, y5] ⟨_, rfl⟩ (λj hj => absurd hj (Nat.not_lt_zero _)) (by
  rintro v d ρ hd _ ⟨z,rfl⟩;rw [Nat.zero_add];have hv':v<m:=by have:=(wu.mp hd).1;rwa [yp] at this
  rw [jV _ _ _ hv',Int.zero_add] at hd;cases hd;obtain ⟨w,hw⟩:=vc.mp (zcF m mm s mem v (vg.mpr hv'));have test:=qcF C (xs:=xs) (i:=i) (y5:=y5) h5 hl hv' hw;simp only [puT,List.set,we,yu]
  by_cases q:s.getD v 0=w
  ·rw [q,beq_self_eq_true] at test;exact .inl ⟨λ_=>by rw [hw,q],_,zq test (λz=>nomatch z) (λ_=>yR),_,rfl⟩
  ·have e:(s.getD v 0==w)=false:=w6.mpr q;rw [e] at test;refine .inr ⟨λg=>q ?_,zq test (λ_=>rfl) (λz=>nomatch z)⟩
   have:=g hv';rw [hw] at this;exact (wC this).symm)
 rw [Nat.zero_add,yp] at loop;rcases loop with ⟨g,ρ',e,z,rfl⟩ | ⟨g,e⟩
 ·exact .inl ⟨(qck mm mem).mp g,z,e⟩
 ·exact .inr ⟨λq=>g ((qck mm mem).mpr q),e⟩
end M
end
section
open PySem Eng LG K03
namespace M
def GL (m:Nat) (xs:List D) (j:Nat):Prop:=j<xs.length->∃ s,xs[j]?=some (tI s)/\okS m s=true/\(0<j->∀ s',xs[j-1]?=some (tI s')->cnt s<cnt s'/\zy s' s=true)
theorem q9 {a b:Nat}:zV .NotEq (.int (a:Int)) (.int (b:Int))=some (!decide (a=b)):=by
 rw [qN (by rfl)];simp only [eqD,Option.some.injEq]
 by_cases q:a=b
 ·simp [q]
 ·have:¬ ((a:Int)=(b:Int)):=by omega
  simp [q,this]
theorem jck {C:Tab} {ρ:En}:ev C (.lst .nil) ρ=some (.lst []):=by
 rw [jz,jo,we];exact if_pos (Nat.zero_le _)
theorem zbK {m:Nat} {s:List Int} (h:okS m s=true):∀ x∈s,0<=x/\x<(m:Int):=λx hx=>by
 obtain ⟨hl,hv⟩:=okS_iff.mp h;obtain ⟨i,hi,rfl⟩:=List.mem_iff_getElem.mp hx
 have:=hv i (by omega)
 have e:s.getD i 0=s[i]:=by simp [List.getD,hi]
 rw [e] at this;omega
theorem zcl (C:Tab) (h20:∀ d b,noS d=true->C 29 [d,.int b]=some (.bl (jQ d (b+1)))) {ys:List D} {m:Nat} (hy:yS ys=true) (ρ:En) (r1:ρ[1]?=some (some (.int m))) :
  gather (turn C (.var 0) (.one 0) 1 [1] (.some (.not (.call 29 (.cons (.var 0) (.cons (.bin .Sub (.var 1) (.cst (.int 1))) .nil))))) ρ) ys=some (ys.filter λd=>!jQ d m):=by
 refine yy _ λd hd=>?_
 have nd:=jx hy d hd;have e:C 29 [d,.int ((m:Int)-1)]=some (.bl (jQ d m)):=by rw [h20 d _ nd,show (m:Int)-1+1=m by omega]
 simp only [turn,zaa,yg,List.replicate,List.map_cons,List.map_nil,List.set,List.cons_append,List.nil_append,we,r1,join_some];rw [qj,qz (zI (x:=d) (y:=.int ((m:Int)-1)) rfl rfl e) rfl,we];show (if (!jQ d m)=true then _ else _)=_;cases jQ d m<;>rfl
theorem filter_nil {ys:List D} {m:Nat} (h:(ys.filter λd=>!jQ d m).isEmpty=true):∃ s,ys=eI s/\∀ x∈s,0<=x/\x<(m:Int):=by
 have all:∀ d∈ys,jQ d m=true:=λd hd=>by
  have h':ys.filter (λd=>!jQ d m)=[]:=by simpa using h
  cases q:jQ d m with
  | true=>rfl
  | false =>
   have:d∈ys.filter (λd=>!jQ d m):=List.mem_filter.mpr ⟨hd,by simp [q]⟩
   rw [h'] at this;cases this
 obtain ⟨s,rfl⟩:=ybu ys λi hi=>by
  obtain ⟨n,e,_⟩:=numB_iff.mp (all ys[i] (List.getElem_mem hi));exact ⟨n,by simp [hi,e]⟩
 refine ⟨s,rfl,λx hx=>?_⟩;obtain ⟨n,e,a,b⟩:=numB_iff.mp (all (.int x) (wJ.mpr ⟨x,hx,rfl⟩));cases e;exact ⟨a,b⟩
theorem ybj {s:List Int} {m:Nat} (h:∀ x∈s,0<=x/\x<(m:Int)):((eI s).filter λd=>!jQ d m).isEmpty=true:=by
 rw [List.isEmpty_iff,List.filter_eq_nil_iff];intro d hd;obtain ⟨x,hx,rfl⟩:=wJ.mp hd
 have:=h x hx
 simp [jQ,this]
theorem zbV (C:Tab) {m:Nat} {s s':List Int} (h5:m<=5) (hl:s.length=m) (hs':okS m s'=true) (ρ:En) (r3:ρ[3]?=some (some (tI s))) (r5:ρ[5]?=some (some (tI s'))) :
  ∃ l:List Int,gather (turn C (.var 0) (.one 0) 1 [3,5] (.some (.cmp .NotEq (.idx (.var 1) (.var 0)) (.idx (.var 1) (.idx (.var 2) (.var 0))))) ρ) (zj 0 m)=some (eI l)/\(l=[]↔zy s' s=true):=by
 obtain ⟨hl',hv'⟩:=okS_iff.mp hs';refine ⟨((List.range m).map Int.ofNat).filter λo=>!(s.getD o.toNat 0==s.getD (s'.getD o.toNat 0).toNat 0),?_,?_⟩
 ·rw [yy (g:=λd=>match d with | .int o=>!(s.getD o.toNat 0==s.getD (s'.getD o.toNat 0).toNat 0) | _=>false),yan m h5,qaK];intro d hd;obtain ⟨o,rfl,o1,o2⟩:=zO hd;have hv:=hv' o.toNat (by omega);have e1:(eI s)[o.toNat]?=some (.int (s.getD o.toNat 0)):=qE (by omega);have e2:(eI s')[o.toNat]?=some (.int (s'.getD o.toNat 0)):=qE (by omega);have e3:(eI s)[(s'.getD o.toNat 0).toNat]?=some (.int (s.getD (s'.getD o.toNat 0).toNat 0)):=qE (by omega);simp only [turn,zaa,yg,List.replicate,List.map_cons,List.map_nil,List.set,List.cons_append,List.nil_append,we,r3,r5,join_some];rw [qj,zw (k:=!(s.getD o.toNat 0==s.getD (s'.getD o.toNat 0).toNat 0)) (jy (x:=tI s) (y:=.int o) rfl rfl (jt o1 e1)) (jy (x:=tI s) (y:=.int (s'.getD o.toNat 0)) rfl (jy (x:=tI s') (y:=.int o) rfl rfl (jt o1 e2)) (jt hv.1 e3)) (by rw [qN (by rfl)];rfl),we];show (if (!(s.getD o.toNat 0==s.getD (s'.getD o.toNat 0).toNat 0))=true then _ else _)=_;split<;>rfl
 ·rw [List.filter_eq_nil_iff,coarse_iff];constructor
  ·intro h v hv
   have:=h (v:Int) (wJ.mpr ⟨v,vg.mpr (by omega),rfl⟩)
   simpa [sv] using this
  ·intro h o ho;obtain ⟨v,hv,rfl⟩:=wJ.mp ho
   have:=h v (by have:=vg.mp hv;omega)
   simpa [sv] using this
end M
end
section
open PySem Eng LG K03
namespace M
noncomputable abbrev LR (xs:List D) (m i:Nat) (x:D) (y4 y5:Sl):List Sl:=[.pu (.tup xs),.pu (.int (m:Int)),.pu (.int (i:Int)),.pu x,y4,y5]
def jcP (C:Tab) (xs:List D) (m i:Nat) (x:D) (y4 y5:Sl):Prop:=(GL m xs i/\∃ z4 z5,exs C yj (LR xs m i x y4 y5)=some (.nx (LR xs m i x z4 z5)))\/(¬ GL m xs i/\exs C yj (LR xs m i x y4 y5)=some (.rt (.bl false)))
theorem ycF (C:Tab) (h20:∀ d b,noS d=true->C 29 [d,.int b]=some (.bl (jQ d (b+1)))) {xs:List D} {m i:Nat} {x:D} {y4 y5:Sl} (h1:1<=m) (h5:m<=5) (hx:yS xs=true) (e:xs[i]?=some x) (hg:∀ j<i,GL m xs j):jcP C xs m i x y4 y5:=by
 have hil:i<xs.length:=(wu.mp e).1;have nx:=jx hx x (wV e);have e1:=zH nx .tuple;unfold jcP
 by_cases ht:∃ ys,x=.tup ys/\ys.length=m
 rotate_left
 ·refine .inr ⟨λg=>?_,zq (k:=true) ?_ (λ_=>rfl) (λz=>nomatch z)⟩
  ·obtain ⟨s,e2,ok,_⟩:=g hil;rw [e] at e2;cases e2
   exact ht ⟨_,rfl,by rw [yf];exact ja5 ok⟩
  ·cases x with
   | tup ys =>
    refine qR (qz (k:=true) (zZ (x:=.tup ys) rfl e1) rfl) (zw (k:=true) (yw (x:=.tup ys) rfl yb) (y:=.int m) rfl ?_);rw [q9,vp λq=>ht ⟨ys,rfl,q⟩];rfl
   | scr _=>cases nx
   | _=>exact yas (qz (k:=false) (zZ rfl e1) rfl)
 obtain ⟨ys,rfl,hm⟩:=ht
 have t1:ev C (.or (.not (.isi (.var 3) .tuple)) (.cmp .NotEq (.blt .len (.cons (.var 3) .nil)) (.var 1))) (vA (LR xs m i (.tup ys) y4 y5))=some (.bl false):=by
  refine qR (qz (k:=true) (zZ (x:=.tup ys) rfl e1) rfl) (zw (k:=false) (yw (x:=.tup ys) rfl yb) (y:=.int m) rfl ?_);rw [q9,decide_eq_true hm];rfl
 have t2:∀ k,(ys.filter λd=>!jQ d m).isEmpty=k->ev C (.cmp .NotEq (.comp (.var 0) (.one 0) 1 [1] (.data (.var 3)) (.some (.not (.call 29 (.cons (.var 0) (.cons (.bin .Sub (.var 1) (.cst (.int 1))) .nil)))))) (.lst .nil)) (vA (LR xs m i (.tup ys) y4 y5))=some (.bl (!k)):=λk hk=>by
  rw [<-hk];exact zw (zM (zQ (x:=.tup ys) rfl rfl) (zcl C h20 (show yS ys=true from nx) _ rfl)) jck (ne_nil (jaj _ nx))
 cases hk:(ys.filter λd=>!jQ d m).isEmpty with
 | false =>
  refine .inr ⟨λg=>?_,zq t1 (λz=>nomatch z) (λ_=>zq (t2 false hk) (λ_=>rfl) (λz=>nomatch z))⟩;obtain ⟨s,e2,ok,_⟩:=g hil;rw [e] at e2;have e2:ys=eI s:=by simpa [tI] using e2
  rw [e2,ybj (zbK ok)] at hk;cases hk
 | true =>
  obtain ⟨s,rfl,hv⟩:=filter_nil hk;rw [yf] at hm;have hr:evI C (.rng (.cons (.var 1) .nil)) (vP (LR xs m i (tI s) y4 y5))=some (zj 0 m):=jbT (x:=.int m) rfl (jbU h5);rcases yck C (xs:=xs) (i:=i) (y4:=y4) (y5:=y5) h1 h5 hm hv with ⟨ok,z,el⟩ | ⟨nok,el⟩
  rotate_left
  ·refine .inr ⟨λg=>?_,zq t1 (λz=>nomatch z) (λ_=>zq (t2 true hk) (λz=>nomatch z) (λ_=>jac hr el))⟩;obtain ⟨s',e2,ok,_⟩:=g hil;rw [e] at e2;have e2:s=s':=jad (wC e2);subst e2;exact nok ok
  have fin:∀ (x:Option Fl),exs C (.cons (.ite (.cmp .Gt (.var 2) (.cst (.int 0))) (.cons (.set .pu (.one 5) (.idx (.var 0) (.bin .Sub (.var 2) (.cst (.int 1))))) (.cons (.ite (.cmp .GtE (.blt .lenSet (.cons (.var 3) .nil)) (.blt .lenSet (.cons (.var 5) .nil))) (.cons (.ret (.cst (.bl false))) .nil) .nil) (.cons (.ite (.cmp .NotEq (.comp (.var 0) (.one 0) 1 [3,5] (.rng (.cons (.var 1) .nil)) (.some (.cmp .NotEq (.idx (.var 1) (.var 0)) (.idx (.var 1) (.idx (.var 2) (.var 0)))))) (.lst .nil)) (.cons (.ret (.cst (.bl false))) .nil) .nil) .nil))) .nil) .nil) (LR xs m i (tI s) z y5)=x->exs C yj (LR xs m i (tI s) y4 y5)=x:=λx hx=>by
   unfold yj;exact zq t1 (λz=>nomatch z) (λ_=>zq (t2 true hk) (λz=>nomatch z) (λ_=>jR hr el hx))
  cases i with
  | zero =>
   refine .inl ⟨λ_=>⟨s,e,ok,λz=>absurd z (Nat.lt_irrefl _)⟩,z,y5,fin _ (zJ (k:=false) (d:=.bl false) (zw (x:=.int ((0:Nat):Int)) (y:=.int 0) rfl rfl (by rw [qaD,vp (by omega)])) rfl (λz=>nomatch z) (λ_=>rfl))⟩
  | succ i =>
   obtain ⟨s',e',ok',_⟩:=hg i (Nat.lt_succ_self i) (by omega);have tg:ev C (.cmp .Gt (.var 2) (.cst (.int 0))) (vA (LR xs m (i+1) (tI s) z y5))=some (.bl true):=zw (x:=.int ((i+1:Nat):Int)) (y:=.int 0) rfl rfl (by rw [qaD,decide_eq_true (by omega)])
   have ti:ev C (.idx (.var 0) (.bin .Sub (.var 2) (.cst (.int 1)))) (vP (LR xs m (i+1) (tI s) z y5))=some (tI s'):=by
    refine jy (x:=.tup xs) (y:=.int i) rfl (jG (x:=.int ((i+1:Nat):Int)) (y:=.int 1) rfl rfl ?_) (jt (by omega) ?_)
    ·rw [yO,show (((i+1:Nat)):Int)-1=(i:Int) by omega]
    ·simpa using e'
   have sm:=qaX h5 hv;have sm':=qaX h5 (zbK ok');obtain ⟨l,gl,hl⟩:=zbV C (ρ:=vA (LR xs m (i+1) (tI s) z (.pu (tI s')))) h5 hm ok' rfl rfl
   have ts:ev C (.cmp .GtE (.blt .lenSet (.cons (.var 3) .nil)) (.blt .lenSet (.cons (.var 5) .nil))) (vA (LR xs m (i+1) (tI s) z (.pu (tI s'))))=some (.bl (decide ((cnt s':Int)<=(cnt s:Int)))) :=
    zw (yw (x:=tI s) rfl (qbj sm)) (yw (x:=tI s') rfl (qbj sm')) jaM
   have tf:ev C (.cmp .NotEq (.comp (.var 0) (.one 0) 1 [3,5] (.rng (.cons (.var 1) .nil)) (.some (.cmp .NotEq (.idx (.var 1) (.var 0)) (.idx (.var 1) (.idx (.var 2) (.var 0)))))) (.lst .nil)) (vA (LR xs m (i+1) (tI s) z (.pu (tI s'))))=some (.bl (!(eI l).isEmpty)) :=
    zw (zM (jbT (x:=.int m) rfl (jbU h5)) gl) jck (ne_nil (qa4 l))
   have gq:GL m xs (i+1)↔cnt s<cnt s'/\zy s' s=true:=by
    constructor
    ·intro g;obtain ⟨s2,e2,_,q⟩:=g hil;rw [e] at e2;have e2:s=s2:=jad (wC e2);subst e2;exact q (Nat.succ_pos i) s' (by simpa using e')
    ·intro q _;refine ⟨s,e,ok,λ_ s2 e2=>?_⟩;have e2:xs[i]?=some (tI s2):=by simpa using e2
     rw [e'] at e2;have e2:s'=s2:=jad (wC e2);subst e2;exact q
   have inner:∀ (x:Option Fl),exs C (.cons (.ite (.cmp .GtE (.blt .lenSet (.cons (.var 3) .nil)) (.blt .lenSet (.cons (.var 5) .nil))) (.cons (.ret (.cst (.bl false))) .nil) .nil) (.cons (.ite (.cmp .NotEq (.comp (.var 0) (.one 0) 1 [3,5] (.rng (.cons (.var 1) .nil)) (.some (.cmp .NotEq (.idx (.var 1) (.var 0)) (.idx (.var 1) (.idx (.var 2) (.var 0)))))) (.lst .nil)) (.cons (.ret (.cst (.bl false))) .nil) .nil) .nil)) (LR xs m (i+1) (tI s) z (.pu (tI s')))=x ->
     (∀ r,x=some (.rt r)->exs C yj (LR xs m (i+1) (tI s) y4 y5)=some (.rt r))/\(∀ ρ,x=some (.nx ρ)->exs C yj (LR xs m (i+1) (tI s) y4 y5)=some (.nx ρ)):=λx hx=>by
    refine ⟨λr hr=>fin _ (zJ tg rfl (λ_=>?_) (λz=>nomatch z)),λρ hr=>fin _ (zJ tg rfl (λ_=>?_) (λz=>nomatch z))⟩
    ·rw [yt (x:=x) ti rfl hx,hr];rfl
    ·rw [yt (x:=x) ti rfl hx,hr];rfl
   by_cases c1:cnt s<cnt s'
   ·by_cases c2:zy s' s=true
    ·refine .inl ⟨gq.mpr ⟨c1,c2⟩,z,.pu (tI s'),(inner _ (zq (k:=false) ?_ (λz=>nomatch z) (λ_=>zq (k:=false) ?_ (λz=>nomatch z) (λ_=>yR)))).2 _ rfl⟩
     ·rw [ts,vp (by omega)]
     ·rw [tf,hl.mpr c2];rfl
    ·refine .inr ⟨λg=>c2 (gq.mp g).2,(inner _ (zq (k:=false) ?_ (λz=>nomatch z) (λ_=>zq (k:=true) ?_ (λ_=>rfl) (λz=>nomatch z)))).1 _ rfl⟩
     ·rw [ts,vp (by omega)]
     ·rw [tf];cases l with
      | nil=>exact absurd (hl.mp rfl) c2
      | cons _ _=>rfl
   ·refine .inr ⟨λg=>c1 (gq.mp g).1,(inner _ (zq (k:=true) ?_ (λ_=>rfl) (λz=>nomatch z))).1 _ rfl⟩;rw [ts,decide_eq_true (by omega)]
end M
end
section
open PySem Eng LG K03
namespace M
theorem qcl {m:Nat} {s t:List Int} (h1:1<=m) (h5:m<=5) (hs:okS m s=true) (ht:okS m t=true) (hc:zy s t=true):cnt t<cnt s↔s≠t:=by
 have:=zdh m (jed h1 h5) s (qas h5 hs) t (qas h5 ht) hc
 by_cases q:s=t
 ·simp [q]
 ·simp only [q,decide_false,Bool.not_false,wI] at this;exact ⟨λ_=>q,λ_=>this⟩
theorem ycl {m:Nat} {xs:List D} (g:∀ j<xs.length,GL m xs j):∃ L:List (List Int),xs=L.map tI/\∀ s∈L,okS m s=true :=
 yap (λs=>okS m s=true) xs λx hx=>by
  obtain ⟨i,hi,rfl⟩:=List.mem_iff_getElem.mp hx;obtain ⟨s,e,ok,_⟩:=g i hi hi;refine ⟨s,?_,ok⟩
  have:xs[i]?=some xs[i]:=by simp [hi]
  rw [this] at e;exact wC e
theorem jdQ {m:Nat} {L:List (List Int)} (l:Lad m L):∀ j<(L.map tI).length,GL m (L.map tI) j:=λj hj _=>by
 rw [wG] at hj;have e:L[j]?=some L[j]:=by simp [hj]
 refine ⟨L[j],by rw [wz,e];rfl,l.ok _ (List.getElem_mem hj),λh0 s' e'=>?_⟩;rw [wz] at e';obtain ⟨s2,e2,e3⟩:=Option.map_eq_some_iff.mp e'
 have:=jad e3
 subst this;have u:=l.up (j-1) s2 L[j] e2 (by rw [show j-1+1=j by omega];exact e);exact ⟨(qcl l.m1 l.m5 (l.ok _ (wV e2)) (l.ok _ (List.getElem_mem hj)) u.1).mpr u.2,u.1⟩
theorem qdh {m:Nat} (h5:m<=5):D.tup (zj 0 m)=tI ((List.range m).map Int.ofNat):=by rw [yan m h5];rfl
theorem zdR {x:D} {s:List Int} (h:noS x=true):zV .NotEq x (tI s)=some (!eqD x (tI s)):=qN (ybI h (qbI s) (jdP s))
theorem qaQ (C:Tab) (h20:∀ d b,noS d=true->C 29 [d,.int b]=some (.bl (jQ d (b+1)))) (d:D) (h:noS d=true):zN C d_law_is_ladder [d]=some (.bl (dB (zaQ d))):=by
 refine jg rfl ?_;have no:∀ {x:Bool},¬ zaQ d->x=true->some (Fl.rt (.bl (dB (zaQ d))))=some (.rt (.bl false)):=λq _=>by rw [dB_no.mpr q]
 by_cases hf:∃ xs ys,d=.tup xs/\1<=xs.length/\xs.length<=4/\xs[0]?=some (.tup ys)
 rotate_left
 ·refine zq (k:=true) ?_ (no ?_) (λz=>nomatch z)
  ·cases d with
   | tup xs =>
    refine qR (qz (k:=true) (zZ (x:=.tup xs) rfl (zH h _)) rfl) ?_
    by_cases hl:1<=xs.length/\xs.length<=4
    ·have hlen:ev C (.chn .LtE .LtE (.cst (.int 1)) (.blt .len (.cons (.var 0) .nil)) (.cst (.int 4))) (vA ([D.tup xs].map Sl.pu++List.replicate (d_law_is_ladder.n-d_law_is_ladder.p) .un))=some (.bl true):=by
      rw [zbU (x:=.int 1) (y:=.int xs.length) (z:=.int 4) rfl (yw (x:=.tup xs) rfl yb) rfl zag zag,decide_eq_true (by omega),decide_eq_true (by omega)];rfl
     obtain ⟨x,hx⟩:∃ x,xs[0]?=some x:=⟨xs[0],by simp⟩;have nx:=jx h x (wV hx);refine qR (qz (k:=true) hlen rfl) (qz (k:=false) (x:=.bl false) (zZ (x:=x) (jy (x:=.tup xs) (y:=.int 0) rfl rfl (jt (by decide) hx)) ?_) rfl);rw [zH nx];cases x with
     | tup ys=>exact absurd ⟨xs,ys,rfl,hl.1,hl.2,hx⟩ hf
     | _=>rfl
    ·refine yas (qz (k:=false) (x:=.bl false) ?_ rfl);rw [zbU (x:=.int 1) (y:=.int xs.length) (z:=.int 4) rfl (yw (x:=.tup xs) rfl yb) rfl zag zag];congr 2
     by_cases q:1<=xs.length
     ·rw [vp (show ¬ ((xs.length:Int)<=4) by omega),Bool.and_false]
     ·rw [vp (show ¬ ((1:Int)<=(xs.length:Int)) by omega)];rfl
   | scr _=>cases h
   | _=>exact yas (qz (k:=false) (zZ rfl (zH h _)) rfl)
  ·rintro ⟨m,L,rfl,l⟩;have hd:=l.first
   have h1:1<=L.length:=by
    cases L with
    | nil=>simp at hd
    | cons _ _=>simp
   exact hf ⟨_,eI _,rfl,by simpa using h1,by simpa using l.len,by rw [wz,hd];rfl⟩
 obtain ⟨xs,ys,rfl,a1,a4,hx0⟩:=hf;have hxs:yS xs=true:=h;have i0:atI xs 0=some (.tup ys):=jt (by decide) hx0;have ny:=jx hxs _ (wV hx0)
 obtain ⟨z,hz⟩:∃ z,xs.getLast?=some z:=by
  cases hq:xs.getLast? with
  | none=>rw [List.getLast?_eq_none_iff] at hq;subst hq;simp at a1
  | some z=>exact ⟨z,rfl⟩
 have iz:atI xs (-1)=some z:=by
  have hne:xs≠[]:=by intro q;subst q;simp at a1
  have hz':xs.getLast hne=z:=by rw [List.getLast?_eq_some_getLast hne] at hz;exact wC hz
  have:=qaY xs.dropLast z
  rwa [<-hz',List.dropLast_concat_getLast hne,hz'] at this
 have nz:=jx hxs z (List.mem_of_getLast? hz);refine zq (k:=false) ?_ (λz=>nomatch z) (λ_=>?_)
 ·have hlen:∀ ρ:En,ρ[0]?=some (some (.tup xs))->ev C (.chn .LtE .LtE (.cst (.int 1)) (.blt .len (.cons (.var 0) .nil)) (.cst (.int 4))) ρ=some (.bl true):=λρ hρ=>by
   have e0:ev C (.var 0) ρ=some (.tup xs):=by rw [jw,hρ];rfl
   rw [zbU (x:=.int 1) (y:=.int xs.length) (z:=.int 4) rfl (yw e0 yb) rfl zag zag,decide_eq_true (by omega),decide_eq_true (by omega)];rfl
  exact qR (qz (k:=true) (zZ (x:=.tup xs) rfl (zH h _)) rfl) (qR (qz (k:=true) (hlen _ rfl) rfl) (qz (k:=true) (zZ (x:=.tup ys) (jy (x:=.tup xs) (y:=.int 0) rfl rfl i0) (zH ny _)) rfl))
 refine yt (d:=.int ys.length) (yw (x:=.tup ys) (jy (x:=.tup xs) (y:=.int 0) rfl rfl i0) yb) rfl ?_
 have lp:zaQ (.tup xs)->∃ L,xs=L.map tI/\Lad ys.length L:=λ⟨m,L,e,l⟩=>by
  have e:xs=L.map tI:=by simpa [eL] using e
  subst e;rw [wz,l.first] at hx0
  have q:ys=eI ((List.range m).map Int.ofNat):=by
   have:=wC hx0
   simpa [tI] using this.symm
  have:ys.length=m:=by rw [q,yf];simp
  exact ⟨L,rfl,by rw [this];exact l⟩
 by_cases hm:1<=ys.length/\ys.length<=5
 rotate_left
 ·refine zq (k:=true) (yas (qz (k:=false) (x:=.bl false) ?_ rfl)) (no ?_) (λz=>nomatch z)
  ·rw [zbU (x:=.int 1) (y:=.int ys.length) (z:=.int 5) rfl rfl rfl zag zag];congr 2
   by_cases q:1<=ys.length
   ·rw [vp (show ¬ ((ys.length:Int)<=5) by omega),Bool.and_false]
   ·rw [vp (show ¬ ((1:Int)<=(ys.length:Int)) by omega)];rfl
  ·intro q;obtain ⟨L,_,l⟩:=lp q;exact hm ⟨l.m1,l.m5⟩
 obtain ⟨m1,m5⟩:=hm;generalize hme:ys.length=m at m1 m5 lp
 have t3:ev C (.or (.not (.chn .LtE .LtE (.cst (.int 1)) (.var 1) (.cst (.int 5)))) (.or (.cmp .NotEq (.idx (.var 0) (.cst (.int 0))) (.ofi .tuple (.rng (.cons (.var 1) .nil)))) (.cmp .NotEq (.idx (.var 0) (.neg (.cst (.int 1)))) (.bin .Mult (.tup (.cons (.cst (.int 0)) .nil)) (.var 1))))) (vA [Sl.pu (.tup xs),.pu (.int (m:Int)),.un,.un,.un,.un])
   = some (.bl (!(eqD (.tup ys) (tI ((List.range m).map Int.ofNat))&&eqD z (tI (List.replicate m 0))))):=by
  refine qR (qz (k:=true) (x:=.bl true) ?_ rfl) ?_
  ·rw [zbU (x:=.int 1) (y:=.int m) (z:=.int 5) rfl rfl rfl zag zag,decide_eq_true (by omega),decide_eq_true (by omega)];rfl
  have q1:ev C (.cmp .NotEq (.idx (.var 0) (.cst (.int 0))) (.ofi .tuple (.rng (.cons (.var 1) .nil)))) (vA [Sl.pu (.tup xs),.pu (.int (m:Int)),.un,.un,.un,.un])=some (.bl (!eqD (.tup ys) (tI ((List.range m).map Int.ofNat)))):=by
   refine zw (jy (x:=.tup xs) (y:=.int 0) rfl rfl i0) (y:=tI ((List.range m).map Int.ofNat)) ?_ (zdR ny);rw [zE,jbT (x:=.int m) rfl (jbU m5),we,<-qdh m5]
  have q2:ev C (.cmp .NotEq (.idx (.var 0) (.neg (.cst (.int 1)))) (.bin .Mult (.tup (.cons (.cst (.int 0)) .nil)) (.var 1))) (vA [Sl.pu (.tup xs),.pu (.int (m:Int)),.un,.un,.un,.un])=some (.bl (!eqD z (tI (List.replicate m 0)))):=by
   refine zw (jy (x:=.tup xs) (y:=.int (-1)) rfl rfl iz) (y:=tI (List.replicate m 0)) (jG (x:=.tup [.int 0]) (y:=.int m) (zcj (zu rfl zah) (by simp)) rfl ?_) (zdR nz);rw [yn ⟨qq (by simp;omega),by omega,by omega⟩,wX,rep0];rfl
  rw [zem q1 (λ_=>q2)];congr 2;cases eqD (.tup ys) (tI ((List.range m).map Int.ofNat))<;>simp
 have L0:∀ {L:List (List Int)},xs=L.map tI->Lad m L->(eqD (.tup ys) (tI ((List.range m).map Int.ofNat))&&eqD z (tI (List.replicate m 0)))=true:=λ{L} e l=>by
  subst e;rw [wz,l.first] at hx0;rw [List.getLast?_map,l.last] at hz;have e1:=wC hx0;have e2:=wC hz;rw [<-e1,<-e2,jaI,jaI];simp
 refine zq t3 (λe=>no (λq=>?_) e) (λe=>?_)
 ·obtain ⟨L,e',l⟩:=lp q;rw [L0 e' l] at e;cases e
 have ee:(eqD (.tup ys) (tI ((List.range m).map Int.ofNat))&&eqD z (tI (List.replicate m 0)))=true:=by simpa using e
 rw [wj] at ee
 have loop := zao (f := λd ρ' => (puT (.many [2, 3]) d ρ').bind λρ'' => exs C yj ρ'') (λ_ ρ => ∃ a b y4 y5, ρ = [.pu (.tup xs), .pu (.int (m : Int)), a, b, y4, y5]) (GL m xs) (zaf 0 xs) 0 [Sl.pu (.tup xs), .pu (.int (m : Int)), .un, .un, .un, .un] ⟨_, _, _, _, rfl⟩ (λj hj => absurd hj (Nat.not_lt_zero _)) (by
  rintro i d ρ hd hg ⟨a,b,y4,y5,rfl⟩;rw [Nat.zero_add] at *;rw [qJ] at hd;obtain ⟨x,ex',rfl⟩:=Option.map_eq_some_iff.mp hd;rw [Nat.zero_add];rcases ycF C h20 (y4:=y4) (y5:=y5) m1 m5 hxs ex' hg with ⟨g,z4,z5,er⟩ | ⟨g,er⟩
  ·exact .inl ⟨g,_,er,_,_,_,_,rfl⟩
  ·exact .inr ⟨g,er⟩)
 rw [Nat.zero_add,jH] at loop;have hit:evI C (.enu (.var 0)) (vP [Sl.pu (.tup xs),.pu (.int (m:Int)),.un,.un,.un,.un])=some (zaf 0 xs):=zee (x:=.tup xs) rfl rfl;rcases loop with ⟨g,ρ',el,_⟩ | ⟨g,el⟩
 ·have lad:zaQ (.tup xs):=by
   obtain ⟨L,rfl,ok⟩:=ycl g;refine ⟨m,L,rfl,⟨m1,m5,by simpa using a4,ok,?_,?_,λi s t e1 e2=>?_⟩⟩
   ·rw [wz] at hx0;obtain ⟨s,e1,e2⟩:=Option.map_eq_some_iff.mp hx0
    have:=ee.1
    rw [<-e2,jaI] at this;rw [e1,vk this]
   ·rw [List.getLast?_map] at hz;obtain ⟨s,e1,e2⟩:=Option.map_eq_some_iff.mp hz
    have:=ee.2
    rw [<-e2,jaI] at this;rw [e1,vk this]
   ·have hi:i+1<L.length:=(wu.mp e2).1;obtain ⟨t',e3,_,q⟩:=g (i+1) (by simpa using hi) (by simpa using hi);rw [wz,e2] at e3
    have:=jad (wC e3)
    subst this;have q:=q (Nat.succ_pos i) s (by simp [e1]);exact ⟨q.2,(qcl m1 m5 (ok s (wV e1)) (ok t (wV e2)) q.2).mp q.1⟩
  rw [dB_iff.mpr lad];exact jR hit el (jh rfl)
 ·have lad:¬ zaQ (.tup xs):=λq=>by
   obtain ⟨L,e',l⟩:=lp q;subst e';exact g (jdQ l)
  rw [dB_no.mpr lad];exact jac hit el
end M
end
section
open PySem Eng LG K03
namespace M
theorem jcl:∀ (xs:List D) (bs:List Int),xs.length=bs.length->(List.zipWith jQ xs bs).all id=true->∃ s,xs=eI s/\InB s bs
 | [],[],_,_=>⟨[],rfl,rfl,by simp⟩
 | [],_::_,h,_=>by simp at h
 | _::_,[],h,_=>by simp at h
 | x::xs,b::bs,hl,ha=>by
  simp only [List.zipWith_cons_cons,List.all_cons,id,wj] at ha;obtain ⟨n,rfl,n1,n2⟩:=numB_iff.mp ha.1;obtain ⟨s,rfl,q⟩:=jcl xs bs (by simpa using hl) ha.2;exact ⟨n::s,rfl,InB_cons.mpr ⟨⟨n1,n2⟩,q⟩⟩
theorem zcm:∀ (s bs:List Int),InB s bs->(List.zipWith jQ (eI s) bs).all id=true
 | [],_,_=>rfl
 | _::_,[],h=>by have:=h.1;simp at this
 | x::s,b::bs,h=>by
  have h:=InB_cons.mp h;simp only [eI,List.map_cons,List.zipWith_cons_cons,List.all_cons,id,wj];exact ⟨numB_iff.mpr ⟨x,rfl,h.1.1,h.1.2⟩,zcm s bs h.2⟩
theorem hasB_iff {d:D} {bs:List Int}:hasB d bs=true↔∃ s,d=tI s/\InB s bs:=by
 constructor
 ·intro h;cases d with
  | tup xs =>
   simp only [hasB,wj,wI] at h;obtain ⟨hl,ha⟩:=h;obtain ⟨s,rfl,q⟩:=jcl xs bs hl ha;exact ⟨s,rfl,q⟩
  | _=>simp [hasB] at h
 ·rintro ⟨s,rfl,h⟩;simp only [hasB,tI,wj,wI];exact ⟨by rw [yf];exact h.1,zcm s bs h⟩
def AL (d:D):Prop:=∃ Ls:List (List (List Int)),d=.tup (Ls.map eL)/\1<=Ls.length/\Ls.length<=3/\∀ L∈Ls,∃ m,Lad m L
def AR (Ls:List (List (List Int))) (d:D):Prop:=∃ rows:List (List Int),d=.tup (rows.map tI)/\1<=rows.length/\rows.length<=8/\∀ r∈rows,RowOk r Ls
def jbW (d:D):Prop:=∃ Ls rows secs,d=eT Ls rows secs/\TabOk Ls rows secs
theorem qa6 {L K:List (List (List Int))} (h:L.map eL=K.map eL):L=K:=(List.map_inj_right (λx y e=>zck e)).mp h
theorem all_dB {P:D->Prop} {xs:List D}:(xs.map λd=>dB (P d)).all id=true↔∀ d∈xs,P d:=by
 rw [List.all_map,List.all_eq_true];exact ⟨λh d hd=>dB_iff.mp (h d hd),λh d hd=>dB_iff.mpr (h d hd)⟩
theorem al_all {xs:List D}:(∀ d∈xs,zaQ d)↔∃ Ls:List (List (List Int)),xs=Ls.map eL/\∀ L∈Ls,∃ m,Lad m L:=by
 constructor
 ·intro h;exact za5 xs λx hx=>by obtain ⟨m,L,e,l⟩:=h x hx;exact ⟨L,m,e,l⟩
 ·rintro ⟨Ls,rfl,h⟩ d hd;obtain ⟨L,hL,rfl⟩:=wJ.mp hd;obtain ⟨m,l⟩:=h L hL;exact ⟨m,L,rfl,l⟩
theorem yaK (C:Tab) (h7:∀ d b,noS d=true->C 7 [d,.int b]=some (.bl (jN d b))) (h13:∀ d,noS d=true->C 13 [d]=some (.bl (dB (zaQ d)))) (d:D) (h:noS d=true):zN C qao [d]=some (.bl (dB (AL d))):=by
 refine jg rfl (jh ?_);cases hk:jN d 3 with
 | false =>
  rw [qdP (zI (x:=d) (y:=.int 3) rfl rfl (by rw [h7 d 3 h,hk]))];congr 2;refine jay ⟨(λz=>nomatch z),?_⟩;rintro ⟨Ls,rfl,a,b,_⟩;rw [<-hk];exact tupUp_iff.mpr ⟨_,rfl,by simpa using a,by simp;omega⟩
 | true =>
  obtain ⟨xs,rfl,a1,a3⟩:=tupUp_iff.mp hk
  have g:∀ ρ:En,gather (turn C (.call 13 (.cons (.var 0) .nil)) (.one 0) 1 [] .none ρ) xs=some ((xs.map λd=>dB (zaQ d)).map D.bl):=λρ=>by
   refine yI _ λd hd=>?_
   simp only [turn,zaa,yg,List.replicate,List.map_cons,List.map_nil,List.set,List.cons_append,List.nil_append,EA,qw,zx,qv,qm,jm,yn,zR,qN,jb,ye,we,Option.map_some,Option.bind_none,Option.map_none,if_true,if_false,↓reduceIte,and_self,Bool.not_true,Bool.not_false,wq,Int.reduceLT,Int.reduceLE,Int.reduceNeg,Nat.reduceMul,Nat.reduceAdd,Nat.reduceLeDiff,List.length_cons,List.length_nil,List.set,true_and,and_true,zc,zo,qc,yc,jc,qd,qa,ya,yd,h13 d (jx h d hd)]
  rw [ycP (zI (x:=.tup xs) (y:=.int 3) rfl rfl (by rw [h7 _ 3 h,hk])) (yw (zM (zQ (x:=.tup xs) rfl rfl) (g _)) (zad _))];congr 2;refine jay (all_dB.trans (al_all.trans ?_));constructor
  ·rintro ⟨Ls,rfl,q⟩;rw [wG] at a1 a3;exact ⟨Ls,rfl,a1,by omega,q⟩
  ·rintro ⟨Ls,e,_,_,q⟩;exact ⟨Ls,by simpa using e,q⟩
theorem qbK (C:Tab):∀ {Ls:List (List (List Int))},(∀ L∈Ls,∃ m,Lad m L)->∀ ρ:En,gather (turn C (.blt .len (.cons (.idx (.var 0) (.cst (.int 0))) .nil)) (.one 0) 1 [] .none ρ) (Ls.map eL)=some (eI (qa9 Ls))
 | [],_,ρ=>rfl
 | L::Ls,hL,ρ=>by
  obtain ⟨m,l⟩:=hL L (by simp);have ih:=qbK C (Ls:=Ls) (λL hL'=>hL L (by simp [hL'])) ρ;rw [List.map_cons,gather,ih];simp only [turn,zaa,yg,List.replicate,List.map_cons,List.map_nil,List.set,List.cons_append,List.nil_append,we,ql,if_true];rw [yw (x:=tI (L.headD [])) (jy (x:=eL L) (y:=.int 0) rfl rfl l.hd) (ych _)];rfl
theorem jbj (C:Tab):∀ (rows:List (List Int)) (ρ:En),gather (turn C (.cst (.int 4)) (.one 0) 1 [] .none ρ) (rows.map tI)=some (eI (List.replicate rows.length 4))
 | [],ρ=>rfl
 | r::rows,ρ=>by
  rw [List.map_cons,gather,jbj C rows ρ];simp only [turn,zaa,yg,List.replicate,List.map_cons,List.map_nil,List.set,List.cons_append,List.nil_append,we,ql,if_true,yB];rfl
theorem zbk (C:Tab) (h7:∀ d b,noS d=true->C 7 [d,.int b]=some (.bl (jN d b))) (h8:∀ d bs,noS d=true->C 8 [d,.lst (eI bs)]=some (.bl (hasB d bs))) (Ls:List (List (List Int))) (hL:∀ L∈Ls,∃ m,Lad m L) (d:D) (h:noS d=true) :
  zN C jaV [.tup (Ls.map eL),d]=some (.bl (dB (AR Ls d))):=by
 refine jg rfl ?_;cases hk:jN d 8 with
 | false =>
  refine zq (k:=true) (qz (k:=false) (zI (x:=d) (y:=.int 8) rfl rfl (h7 d 8 h)) (by rw [hk];rfl)) (λ_=>?_) (λz=>nomatch z);congr 2;congr 1;refine (jay ⟨(λz=>nomatch z),?_⟩).symm;rintro ⟨rows,rfl,a,b,_⟩;rw [<-hk];exact tupUp_iff.mpr ⟨_,rfl,by simpa using a,by simp;omega⟩
 | true =>
  obtain ⟨xs,rfl,a1,a8⟩:=tupUp_iff.mp hk;refine zq (k:=false) (qz (k:=true) (zI (x:=.tup xs) (y:=.int 8) rfl rfl (h7 _ 8 h)) (by rw [hk];rfl)) (λz=>nomatch z) (λ_=>?_);refine yt (zM (zQ (x:=.tup (Ls.map eL)) rfl rfl) (qbK C hL _)) rfl (jh ?_)
  have g2:∀ ρ:En,ρ[2]?=some (some (.lst (eI (qa9 Ls))))->gather (turn C (.call 8 (.cons (.var 0) (.cons (.var 1) .nil))) (.one 0) 1 [2] .none ρ) xs=some ((xs.map λd=>hasB d (qa9 Ls)).map D.bl):=λρ hρ=>by
   refine yI _ λd hd=>?_
   simp only [turn,zaa,yg,List.replicate,List.map_cons,List.map_nil,List.set,List.cons_append,List.nil_append,we,ql,if_true,hρ,join_some];rw [zI (x:=d) (y:=.lst (eI (qa9 Ls))) rfl rfl (h8 d _ (jx h d hd))];rfl
  rw [yw (zM (zQ (x:=.tup xs) rfl rfl) (g2 _ rfl)) (zad _)];congr 2;refine jay ?_;rw [List.all_map,List.all_eq_true];constructor
  ·intro q
   obtain ⟨rows,rfl,ok⟩:=yap (λr=>RowOk r Ls) xs λx hx=>by
    obtain ⟨s,e,i⟩:=hasB_iff.mp (q x hx);exact ⟨s,e,row_iff.mpr i⟩
   rw [wG] at a1 a8;exact ⟨rows,rfl,a1,by omega,ok⟩
  ·rintro ⟨rows,e,_,_,ok⟩ x hx;have e:xs=rows.map tI:=by simpa using e
   subst e;obtain ⟨r,hr,rfl⟩:=wJ.mp hx;exact hasB_iff.mpr ⟨r,rfl,row_iff.mp (ok r hr)⟩
theorem secs_iff {d:D} {n:Nat}:hasB d (List.replicate n 4)=true↔∃ secs:List Int,d=tI secs/\secs.length=n/\∀ s∈secs,0<=s/\s<4:=by
 rw [hasB_iff];constructor
 ·rintro ⟨s,e,h1,h2⟩;refine ⟨s,e,by simpa using h1,λx hx=>?_⟩;obtain ⟨i,hi,rfl⟩:=List.mem_iff_getElem.mp hx
  have:=h2 i hi
  have hn:i<n:=by simp at h1;omega
  simpa [List.getD,hi,hn] using this
 ·rintro ⟨s,e,h1,h2⟩;refine ⟨s,e,by simpa using h1,λi hi=>?_⟩
  have:=h2 s[i] (List.getElem_mem hi)
  have hn:i<n:=by omega
  simpa [List.getD,hi,hn] using this
theorem qbk (C:Tab) (h8:∀ d bs,noS d=true->C 8 [d,.lst (eI bs)]=some (.bl (hasB d bs))) (h14:∀ d,noS d=true->C 14 [d]=some (.bl (dB (AL d))))
  (h15:∀ (Ls:List (List (List Int))) d,(∀ L∈Ls,∃ m,Lad m L)->noS d=true->C 15 [.tup (Ls.map eL),d]=some (.bl (dB (AR Ls d)))) (d:D) (h:noS d=true):zN C zaW [d]=some (.bl (dB (jbW d))):=by
 refine jg rfl ?_;have no:∀ {x:Bool},¬ jbW d->x=true->some (Fl.rt (.bl (dB (jbW d))))=some (.rt (.bl false)):=λq _=>by rw [dB_no.mpr q]
 by_cases hf:∃ a b c,d=.tup [a,b,c]
 rotate_left
 ·refine zq (k:=true) ?_ (no λ⟨_,_,_,e,_⟩=>hf ⟨_,_,_,e⟩) (λz=>nomatch z);cases d with
  | tup xs =>
   refine qR (qz (k:=true) (zZ (x:=.tup xs) rfl (zH h _)) rfl) (zw (k:=true) (yw (x:=.tup xs) rfl yb) (y:=.int 3) rfl ?_)
   have:zV .NotEq (.int (xs.length:Int)) (.int ((3:Nat):Int))=some true:=by
    rw [q9,vp λq=>?_];rfl
    match xs,q with
    | [a,b,c],_=>exact hf ⟨a,b,c,rfl⟩
   exact this
  | scr _=>cases h
  | _=>exact yas (qz (k:=false) (zZ rfl (zH h _)) rfl)
 obtain ⟨a,b,c,rfl⟩:=hf;have na:noS a=true:=jx h a (by simp);have nb:noS b=true:=jx h b (by simp);have nc:noS c=true:=jx h c (by simp);refine zq (k:=false) (qR (qz (k:=true) (zZ (x:=.tup [a,b,c]) rfl (zH h _)) rfl) (zw (k:=false) (yw (x:=.tup [a,b,c]) rfl yb) (y:=.int 3) rfl rfl)) (λz=>nomatch z) (λ_=>?_);refine yt (d:=a) (jy (x:=.tup [a,b,c]) (y:=.int 0) rfl rfl rfl) rfl ?_;refine yt (d:=b) (jy (x:=.tup [a,b,c]) (y:=.int 1) rfl rfl rfl) rfl ?_
 by_cases hA:AL a
 rotate_left
 ·refine zq (k:=true) (yas (qz (k:=false) (yq (x:=a) rfl (h14 a na)) (by rw [dB_no.mpr hA];rfl))) (no λ⟨Ls,rows,secs,e,t⟩=>hA ?_) (λz=>nomatch z);have e:a=.tup (Ls.map eL):=by simp only [eT,D.tup.injEq,List.cons.injEq] at e;exact e.1
  exact ⟨Ls,e,t.c1,t.c3,t.lad⟩
 obtain ⟨Ls,rfl,c1,c3,lad⟩:=id hA;have t14:=qz (C:=C) (ρ:=vA [Sl.pu (.tup [.tup (Ls.map eL),b,c]),.pu (.tup (Ls.map eL)),.pu b]) (a:=.call 14 (.cons (.var 1) .nil)) (k:=true) (yq (x:=.tup (Ls.map eL)) rfl (h14 _ na)) (by rw [dB_iff.mpr hA];rfl)
 by_cases hR:AR Ls b
 rotate_left
 ·refine zq (k:=true) (qR t14 (qz (k:=false) (zI (x:=.tup (Ls.map eL)) (y:=b) rfl rfl (h15 Ls b lad nb)) (by rw [dB_no.mpr hR];rfl))) (no λ⟨Ls',rows,secs,e,t⟩=>hR ?_) (λz=>nomatch z);simp only [eT,D.tup.injEq,List.cons.injEq] at e
  have:=qa6 e.1
  subst this;exact ⟨rows,e.2.1,t.r1,t.r8,t.row⟩
 obtain ⟨rows,rfl,r1,r8,row⟩:=id hR;refine zq (k:=false) (qR t14 (qz (k:=true) (zI (x:=.tup (Ls.map eL)) (y:=.tup (rows.map tI)) rfl rfl (h15 Ls _ lad nb)) (by rw [dB_iff.mpr hR];rfl))) (λz=>nomatch z) (λ_=>jh ?_);rw [zI (x:=c) (y:=.lst (eI (List.replicate rows.length 4))) (jy (x:=.tup [.tup (Ls.map eL),.tup (rows.map tI),c]) (y:=.int 2) rfl rfl rfl) (zM (zQ (x:=.tup (rows.map tI)) rfl rfl) (jbj C rows _)) (h8 c _ nc)];congr 2;refine jay (secs_iff.trans ?_);constructor
 ·rintro ⟨secs,rfl,sl,sec⟩;exact ⟨Ls,rows,secs,rfl,⟨c1,c3,lad,r1,r8,row,sl,sec⟩⟩
 ·rintro ⟨Ls',rows',secs,e,t⟩;simp only [eT,D.tup.injEq,List.cons.injEq] at e
  have:=ya5 e.2.1
  subst this;exact ⟨secs,e.2.2.1,t.sl,t.sec⟩
end M
end
section
open PySem Eng LG K03
namespace M
theorem zbv (C:Tab) (h21:∀ d,noS d=true->C 30 [d]=some (.bl (dB (zaQ d)))) {xs:List D} (hx:yS xs=true) (ρ:En) :
  gather (turn C (.var 0) (.one 0) 1 [] (.some (.not (.call 30 (.cons (.var 0) .nil)))) ρ) xs=some (xs.filter λd=>!dB (zaQ d)):=by
 refine yy _ λd hd=>?_
 simp only [turn,zaa,yg,List.replicate,List.map_cons,List.map_nil,List.set,List.cons_append,List.nil_append,we];rw [qj,qz (yq (x:=d) rfl (h21 d (jx hx d hd))) rfl,we];show (if (!dB (zaQ d))=true then _ else _)=_;cases dB (zaQ d)<;>rfl
theorem filter_all {xs:List D} {g:D->Bool}:(xs.filter λd=>!g d).isEmpty=true↔∀ d∈xs,g d=true:=by
 rw [List.isEmpty_iff,List.filter_eq_nil_iff]
 simp
theorem jcF (C:Tab) (h20:∀ d b,noS d=true->C 29 [d,.int b]=some (.bl (jQ d (b+1)))) {xs:List D} (hx:yS xs=true) (ρ:En) :
  gather (turn C (.var 0) (.one 0) 1 [] (.some (.not (.call 29 (.cons (.var 0) (.cons (.cst (.int 3)) .nil))))) ρ) xs=some (xs.filter λd=>!jQ d 4):=by
 refine yy _ λd hd=>?_
 simp only [turn,zaa,yg,List.replicate,List.map_cons,List.map_nil,List.set,List.cons_append,List.nil_append,we];rw [qj,qz (zI (x:=d) (y:=.int 3) rfl rfl (h20 d 3 (jx hx d hd))) rfl,we];show (if (!jQ d (3+1))=true then _ else _)=_;rw [show (3:Int)+1=4 from rfl];cases jQ d 4<;>rfl
theorem ydh (C:Tab) (h20:∀ d b,noS d=true->C 29 [d,.int b]=some (.bl (jQ d (b+1)))) {Ls:List (List (List Int))} (hL:∀ L∈Ls,∃ m,Lad m L) {ys:List D} (hy:yS ys=true) (hl:ys.length=Ls.length) (h3:Ls.length<=3) (b c:D) (ρ:En) (r3:ρ[3]?=some (some (.tup ys))) (r0:ρ[0]?=some (some (.tup [.tup (Ls.map eL),b,c]))) :
  ∃ l:List Int,gather (turn C (.var 0) (.one 0) 1 [3,0] (.some (.not (.call 29 (.cons (.idx (.var 1) (.var 0)) (.cons (.bin .Sub (.blt .len (.cons (.idx (.idx (.idx (.var 2) (.cst (.int 0))) (.var 0)) (.cst (.int 0))) .nil)) (.cst (.int 1))) .nil))))) ρ) (zj 0 ys.length)=some (eI l)/\(l=[]↔∃ r,(.tup ys:D)=tI r/\RowOk r Ls):=by
 refine ⟨((List.range ys.length).map Int.ofNat).filter λo=>!jQ (ys.getD o.toNat .non) ((qa9 Ls).getD o.toNat 0),?_,?_⟩
 ·rw [yy (g:=λd=>match d with | .int o=>!jQ (ys.getD o.toNat .non) ((qa9 Ls).getD o.toNat 0) | _=>false),yan _ (by omega),qaK];intro d hd;obtain ⟨o,rfl,o1,o2⟩:=zO hd;have hoy:o.toNat<ys.length:=by omega
  have hoL:o.toNat<Ls.length:=by omega
  have e1:ys[o.toNat]?=some (ys.getD o.toNat .non):=by simp [List.getD,hoy]
  have ny:=jx hy _ (wV e1);have e2:(Ls.map eL)[o.toNat]?=some (eL Ls[o.toNat]):=by simp [hoL]
  obtain ⟨m,l⟩:=hL Ls[o.toNat] (List.getElem_mem hoL);have e3:(qa9 Ls).getD o.toNat 0=((Ls[o.toNat].headD []).length:Int):=by simp [qa9,List.getD,hoL]
  simp only [turn,zaa,yg,List.replicate,List.map_cons,List.map_nil,List.set,List.cons_append,List.nil_append,we,r3,r0,join_some]
  have ec:C 29 [ys.getD o.toNat .non,.int (((Ls[o.toNat].headD []).length:Int)-1)]=some (.bl (jQ (ys.getD o.toNat .non) ((qa9 Ls).getD o.toNat 0))):=by
   rw [h20 _ _ ny,e3,show ((Ls[o.toNat].headD []).length:Int)-1+1=((Ls[o.toNat].headD []).length:Int) by omega]
  rw [qj,qz (zI (jy (x:=.tup ys) (y:=.int o) rfl rfl (jt o1 e1)) (jG (x:=.int ((Ls[o.toNat].headD []).length:Int)) (y:=.int 1) (yw (x:=tI (Ls[o.toNat].headD [])) (jy (x:=eL Ls[o.toNat]) (y:=.int 0) (jy (x:=.tup (Ls.map eL)) (y:=.int o) (jy (x:=.tup [.tup (Ls.map eL),b,c]) (y:=.int 0) rfl rfl rfl) rfl (jt o1 e2)) rfl l.hd) (ych _)) rfl yO) ec) rfl,we];show (if (!jQ (ys.getD o.toNat .non) ((qa9 Ls).getD o.toNat 0))=true then _ else _)=_;split<;>rfl
 ·rw [List.filter_eq_nil_iff];constructor
  ·intro h
   have all:∀ i<ys.length,jQ (ys.getD i .non) ((qa9 Ls).getD i 0)=true:=λi hi=>by
    have:=h (i:Int) (wJ.mpr ⟨i,vg.mpr hi,rfl⟩)
    simpa using this
   obtain ⟨r,rfl⟩:=ybu ys λi hi=>by
    obtain ⟨n,e,_⟩:=numB_iff.mp (all i hi);exact ⟨n,by rw [<-e];simp [List.getD,hi]⟩
   rw [yf] at *;refine ⟨r,rfl,row_iff.mpr ⟨by simp [qa9,hl],λi hi=>?_⟩⟩;obtain ⟨n,e,n1,n2⟩:=numB_iff.mp (all i hi);have e':(eI r).getD i .non=.int (r.getD i 0):=by rw [List.getD,qE hi];rfl
   rw [e'] at e;cases e;exact ⟨n1,n2⟩
  ·rintro ⟨r,e,ok⟩ o ho;have e:ys=eI r:=by simpa [tI] using e
   subst e;obtain ⟨i,hi,rfl⟩:=wJ.mp ho;have hi:i<r.length:=by have:=vg.mp hi;rwa [yf] at this
   obtain ⟨_,q⟩:=row_iff.mp ok;have q:=q i hi;have e':(eI r).getD i .non=.int (r.getD i 0):=by rw [List.getD,qE hi];rfl
   show ¬ (!jQ ((eI r).getD i .non) ((qa9 Ls).getD i 0))=true;rw [e',numB_iff.mpr ⟨_,rfl,q.1,q.2⟩]
   simp
theorem ya6 (C:Tab) (h20:∀ d b,noS d=true->C 29 [d,.int b]=some (.bl (jQ d (b+1)))) (h21:∀ d,noS d=true->C 30 [d]=some (.bl (dB (zaQ d)))) (d:D) (h:noS d=true):zN C yah [d]=some (.bl (dB (jbW d))):=by
 refine jg rfl ?_;have no:∀ {x:Bool},¬ jbW d->x=true->some (Fl.rt (.bl (dB (jbW d))))=some (.rt (.bl false)):=λq _=>by rw [dB_no.mpr q]
 by_cases hf:∃ a b c,d=.tup [a,b,c]
 rotate_left
 ·refine zq (k:=true) ?_ (no λ⟨_,_,_,e,_⟩=>hf ⟨_,_,_,e⟩) (λz=>nomatch z);cases d with
  | tup xs =>
   refine qR (qz (k:=true) (zZ (x:=.tup xs) rfl (zH h _)) rfl) (zw (k:=true) (yw (x:=.tup xs) rfl yb) (y:=.int 3) rfl ?_)
   have:zV .NotEq (.int (xs.length:Int)) (.int ((3:Nat):Int))=some true:=by
    rw [q9,vp λq=>?_];rfl
    match xs,q with
    | [a,b,c],_=>exact hf ⟨a,b,c,rfl⟩
   exact this
  | scr _=>cases h
  | _=>exact yas (qz (k:=false) (zZ rfl (zH h _)) rfl)
 obtain ⟨a,b,c,rfl⟩:=hf;have na:noS a=true:=jx h a (by simp);have nb:noS b=true:=jx h b (by simp);have nc:noS c=true:=jx h c (by simp);refine zq (k:=false) (qR (qz (k:=true) (zZ (x:=.tup [a,b,c]) rfl (zH h _)) rfl) (zw (k:=false) (yw (x:=.tup [a,b,c]) rfl yb) (y:=.int 3) rfl rfl)) (λz=>nomatch z) (λ_=>?_)
 change exs C _ [Sl.pu (D.tup [a,b,c]),.un,.un,.un]=_
 have part:∀ (p:D) (n:Int) (y3:Sl),noS p=true->(jN p n=true->exs C jK [.pu (.tup [a,b,c]),.pu p,.pu (.int n),y3]=some (.nx [.pu (.tup [a,b,c]),.pu p,.pu (.int n),y3]))/\(jN p n=false->exs C jK [.pu (.tup [a,b,c]),.pu p,.pu (.int n),y3]=some (.rt (.bl false))):=λp n y3 np=>by
  have t:ev C (.or (.not (.isi (.var 1) .tuple)) (.not (.chn .LtE .LtE (.cst (.int 1)) (.blt .len (.cons (.var 1) .nil)) (.var 2)))) (vA [.pu (.tup [a,b,c]),.pu p,.pu (.int n),y3])=some (.bl (!jN p n)):=by
   cases p with
   | tup xs=>exact qR (qz (k:=true) (zZ (x:=.tup xs) rfl (zH np _)) rfl) (qz (zbU (x:=.int 1) (y:=.int xs.length) (z:=.int n) rfl (yw (x:=.tup xs) rfl yb) rfl zag zag) rfl)
   | scr _=>cases np
   | _=>exact yas (qz (k:=false) (zZ rfl (zH np _)) rfl)
  refine ⟨λq=>?_,λq=>?_⟩
  ·rw [q] at t;exact zq t (λz=>nomatch z) (λ_=>yR)
  ·rw [q] at t;exact zq t (λ_=>rfl) (λz=>nomatch z)
 have hz:evI C (.zip (.var 0) (.tup (.cons (.cst (.int 3)) (.cons (.cst (.int 8)) (.cons (.cst (.int 8)) .nil))))) (vP [Sl.pu (.tup [a,b,c]),.un,.un,.un])=some [.tup [a,.int 3],.tup [b,.int 8],.tup [c,.int 8]] :=
  qee (x:=.tup [a,b,c]) (y:=.tup [.int 3,.int 8,.int 8]) rfl rfl (zcj (zu rfl (zu rfl (zu rfl zah))) (by simp)) rfl
 have tabs:∀ {Ls rows secs},D.tup [a,b,c]=eT Ls rows secs->TabOk Ls rows secs->jN a 3=true/\jN b 8=true/\jN c 8=true:=λ{Ls rows secs} e t=>by
  simp only [eT,D.tup.injEq,List.cons.injEq] at e;obtain ⟨rfl,rfl,rfl,_⟩:=e
  have:=t.c1;have:=t.c3;have:=t.r1;have:=t.r8;have:=t.sl
  exact ⟨tupUp_iff.mpr ⟨_,rfl,by simp;omega,by simp;omega⟩,tupUp_iff.mpr ⟨_,rfl,by simp;omega,by simp;omega⟩,tupUp_iff.mpr ⟨_,rfl,by rw [yf];omega,by rw [yf];omega⟩⟩
 have st:∀ (p:D) (n:Int) (x1 x2 x3:Sl),puT (.many [1,2]) (.tup [p,.int n]) [.pu (.tup [a,b,c]),x1,x2,x3]=some [.pu (.tup [a,b,c]),.pu p,.pu (.int n),x3]:=λ_ _ _ _ _=>rfl
 cases ka:jN a 3 with
 | false =>
  rw [dB_no.mpr λ⟨_,_,_,e,t⟩=>by rw [(tabs e t).1] at ka;cases ka];refine jac hz ?_;simp only [forL,st,we,(part a 3 _ na).2 ka]
 | true =>
 cases kb:jN b 8 with
 | false =>
  rw [dB_no.mpr λ⟨_,_,_,e,t⟩=>by rw [(tabs e t).2.1] at kb;cases kb];refine jac hz ?_;simp only [forL,st,we,(part a 3 _ na).1 ka,(part b 8 _ nb).2 kb]
 | true =>
 cases kc:jN c 8 with
 | false =>
  rw [dB_no.mpr λ⟨_,_,_,e,t⟩=>by rw [(tabs e t).2.2] at kc;cases kc];refine jac hz ?_;simp only [forL,st,we,(part a 3 _ na).1 ka,(part b 8 _ nb).1 kb,(part c 8 _ nc).2 kc]
 | true =>
 refine jR hz (ρ':=[.pu (.tup [a,b,c]),.pu c,.pu (.int 8),.un]) ?_ ?_
 ·simp only [forL,st,we,(part a 3 _ na).1 ka,(part b 8 _ nb).1 kb,(part c 8 _ nc).1 kc]
 obtain ⟨as,rfl,a1,a3⟩:=tupUp_iff.mp ka;obtain ⟨bs,rfl,b1,b8⟩:=tupUp_iff.mp kb;obtain ⟨cs,rfl,c1,c8⟩:=tupUp_iff.mp kc
 have t3:ev C (.or (.cmp .NotEq (.comp (.var 0) (.one 0) 1 [] (.data (.idx (.var 0) (.cst (.int 0)))) (.some (.not (.call 30 (.cons (.var 0) .nil))))) (.lst .nil)) (.cmp .NotEq (.blt .len (.cons (.idx (.var 0) (.cst (.int 1))) .nil)) (.blt .len (.cons (.idx (.var 0) (.cst (.int 2))) .nil)))) (vA [Sl.pu (.tup [.tup as,.tup bs,.tup cs]),.pu (.tup cs),.pu (.int 8),.un])
   = some (.bl ((!(as.filter λd=>!dB (zaQ d)).isEmpty)||!decide (bs.length=cs.length))):=by
  refine zem (zw (zM (zQ (x:=.tup as) (jy (x:=.tup [.tup as,.tup bs,.tup cs]) (y:=.int 0) rfl rfl rfl) rfl) (zbv C h21 na _)) jck (ne_nil (jaj _ na))) λ_=>?_
  exact zw (yw (x:=.tup bs) (jy (x:=.tup [.tup as,.tup bs,.tup cs]) (y:=.int 1) rfl rfl rfl) yb) (yw (x:=.tup cs) (jy (x:=.tup [.tup as,.tup bs,.tup cs]) (y:=.int 2) rfl rfl rfl) yb) q9
 refine zq t3 (λe=>no (λ⟨Ls,rows,secs,e2,t⟩=>?_) e) (λe=>?_)
 ·simp only [eT,D.tup.injEq,List.cons.injEq] at e2;obtain ⟨rfl,rfl,e3,_⟩:=e2;have e3:cs=eI secs:=by simpa [tI] using e3
  subst e3;have q1:((Ls.map eL).filter λd=>!dB (zaQ d)).isEmpty=true:=filter_all.mpr λd hd=>dB_iff.mpr (al_all.mpr ⟨Ls,rfl,t.lad⟩ d hd)
  have q2:(rows.map tI).length=(eI secs).length:=by rw [yf,wG];exact t.sl.symm
  rw [q1,decide_eq_true q2] at e;cases e
 simp only [Bool.or_eq_false_iff,Bool.not_eq_false',wI] at e;obtain ⟨Ls,rfl,lad⟩:=al_all.mp λd hd=>dB_iff.mp (filter_all.mp e.1 d hd)
 rw [wG] at a1 a3
 have loop := zao (f := λd ρ' => (puT (.one 3) d ρ').bind λρ'' => exs C zW ρ'') (λ_ ρ => ∃ y, ρ = [.pu (.tup [.tup (Ls.map eL), .tup bs, .tup cs]), .pu (.tup cs), .pu (.int 8), y]) (λj => j < bs.length -> ∃ r, bs[j]? = some (tI r) /\ RowOk r Ls) bs 0 [Sl.pu (.tup [.tup (Ls.map eL), .tup bs, .tup cs]), .pu (.tup cs), .pu (.int 8), .un] ⟨_, rfl⟩ (λj hj => absurd hj (Nat.not_lt_zero _)) (by
  rintro i x ρ hx _ ⟨y,rfl⟩;rw [Nat.zero_add];have hil:i<bs.length:=(wu.mp hx).1;have nx:=jx nb x (wV hx);simp only [puT,List.set,we]
  by_cases ht:∃ ys,x=.tup ys/\ys.length=Ls.length
  rotate_left
  ·refine .inr ⟨λg=>?_,zq (k:=true) ?_ (λ_=>rfl) (λz=>nomatch z)⟩
   ·obtain ⟨r,e2,ok⟩:=g hil;rw [hx] at e2;cases e2
    exact ht ⟨_,rfl,by rw [yf];exact ok.len⟩
   ·cases x with
    | tup ys =>
     refine qR (qz (k:=true) (zZ (x:=.tup ys) rfl (zH nx _)) rfl) (zw (k:=true) (yw (x:=.tup ys) rfl yb) (yw (x:=.tup (Ls.map eL)) (jy (x:=.tup [.tup (Ls.map eL),.tup bs,.tup cs]) (y:=.int 0) rfl rfl rfl) yb) ?_);rw [wG,q9,vp λq=>ht ⟨ys,rfl,q⟩];rfl
    | scr _=>cases nx
    | _=>exact yas (qz (k:=false) (zZ rfl (zH nx _)) rfl)
  obtain ⟨ys,rfl,hl⟩:=ht
  have t1:ev C (.or (.not (.isi (.var 3) .tuple)) (.cmp .NotEq (.blt .len (.cons (.var 3) .nil)) (.blt .len (.cons (.idx (.var 0) (.cst (.int 0))) .nil)))) (vA [Sl.pu (.tup [.tup (Ls.map eL),.tup bs,.tup cs]),.pu (.tup cs),.pu (.int 8),.pu (.tup ys)])=some (.bl false):=by
   refine qR (qz (k:=true) (zZ (x:=.tup ys) rfl (zH nx _)) rfl) (zw (k:=false) (yw (x:=.tup ys) rfl yb) (yw (x:=.tup (Ls.map eL)) (jy (x:=.tup [.tup (Ls.map eL),.tup bs,.tup cs]) (y:=.int 0) rfl rfl rfl) yb) ?_);rw [wG,q9,decide_eq_true hl];rfl
  obtain ⟨l,gl,hq⟩:=ydh C h20 lad (show yS ys=true from nx) hl (by omega) (.tup bs) (.tup cs) (vA [Sl.pu (.tup [.tup (Ls.map eL),.tup bs,.tup cs]),.pu (.tup cs),.pu (.int 8),.pu (.tup ys)]) rfl rfl
  have t2:ev C (.cmp .NotEq (.comp (.var 0) (.one 0) 1 [3,0] (.rng (.cons (.blt .len (.cons (.var 3) .nil)) .nil)) (.some (.not (.call 29 (.cons (.idx (.var 1) (.var 0)) (.cons (.bin .Sub (.blt .len (.cons (.idx (.idx (.idx (.var 2) (.cst (.int 0))) (.var 0)) (.cst (.int 0))) .nil)) (.cst (.int 1))) .nil)))))) (.lst .nil)) (vA [Sl.pu (.tup [.tup (Ls.map eL),.tup bs,.tup cs]),.pu (.tup cs),.pu (.int 8),.pu (.tup ys)])=some (.bl (!(eI l).isEmpty)) :=
   zw (zM (jbT (yw (x:=.tup ys) rfl yb) (jbU (by omega))) gl) jck (ne_nil (qa4 l))
  have gq:(i<bs.length->∃ r,bs[i]?=some (tI r)/\RowOk r Ls)↔l=[]:=by
   rw [hq,hx];constructor
   ·intro g;obtain ⟨r,e2,ok⟩:=g hil;exact ⟨r,wC e2,ok⟩
   ·rintro ⟨r,e2,ok⟩ _;exact ⟨r,by rw [e2],ok⟩
  cases l with
  | nil=>exact .inl ⟨gq.mpr rfl,_,zq t1 (λz=>nomatch z) (λ_=>zq t2 (λz=>nomatch z) (λ_=>yR)),_,rfl⟩
  | cons u l=>exact .inr ⟨(λg=>by have:=gq.mp g;cases this),zq t1 (λz=>nomatch z) (λ_=>zq t2 (λ_=>rfl) (λz=>nomatch z))⟩)
 rw [Nat.zero_add] at loop;have hit:evI C (.data (.idx (.var 0) (.cst (.int 1)))) (vP [Sl.pu (.tup [.tup (Ls.map eL),.tup bs,.tup cs]),.pu (.tup cs),.pu (.int 8),.un])=some bs:=zQ (x:=.tup bs) (jy (x:=.tup [.tup (Ls.map eL),.tup bs,.tup cs]) (y:=.int 1) rfl rfl rfl) rfl;rcases loop with ⟨g,ρ',el,y,rfl⟩ | ⟨g,el⟩
 rotate_left
 ·have nt:¬ jbW (.tup [.tup (Ls.map eL),.tup bs,.tup cs]):=by
   rintro ⟨Ls',rows,secs,e2,t⟩;apply g;simp only [eT,D.tup.injEq,List.cons.injEq] at e2
   have:=qa6 e2.1
   subst this
   have:=e2.2.1
   subst this;intro j hj _;rw [wG] at hj;exact ⟨rows[j],by simp [hj],t.row _ (List.getElem_mem hj)⟩
  rw [dB_no.mpr nt];exact jac hit el
 obtain ⟨rows,rfl,row⟩:=yap (λr=>RowOk r Ls) bs λx hx=>by
  obtain ⟨i,hi,rfl⟩:=List.mem_iff_getElem.mp hx;obtain ⟨r,e2,ok⟩:=g i hi hi
  have:bs[i]?=some bs[i]:=by simp [hi]
  rw [this] at e2;exact ⟨r,wC e2,ok⟩
 rw [wG] at b1 b8 e;refine jR hit el (jh ?_);rw [zw (zM (zQ (x:=.tup cs) (jy (x:=.tup [.tup (Ls.map eL),.tup (rows.map tI),.tup cs]) (y:=.int 2) rfl rfl rfl) rfl) (jcF C h20 nc _)) jck (eq_nil (jaj _ nc))];congr 2;refine jay ?_;constructor
 ·intro q;obtain ⟨secs,rfl,hv⟩:=filter_nil (m:=4) q;rw [yf] at e;exact ⟨Ls,rows,secs,rfl,⟨a1,by omega,lad,b1,by omega,row,e.2.symm,hv⟩⟩
 ·rintro ⟨Ls',rows',secs,e2,t⟩;simp only [eT,D.tup.injEq,List.cons.injEq] at e2;have e3:cs=eI secs:=by simpa [tI] using e2.2.2.1
  subst e3;exact ybj (m:=4) t.sec
end M
end
section
open PySem Eng LG K03
namespace M
theorem yaX (ts:List Str):strsOf (ts.map D.str)=some ts:=by
 induction ts with
 | nil=>rfl
 | cons a r ih=>rw [List.map_cons,strsOf,ih];rfl
theorem jdh:∀ x∈([0,1,2,3,4,5,6,7,8,9]:List Int),(zK x).length=1:=by decide +kernel
theorem dig {x:Int} (h0:0<=x) (h:x<10):(zK x).length=1:=by
 refine jdh x ?_
 have:x=0\/x=1\/x=2\/x=3\/x=4\/x=5\/x=6\/x=7\/x=8\/x=9:=by omega
 rcases this with e | e | e | e | e | e | e | e | e | e<;>subst e<;>decide
theorem len_app (a b:Str):(a++b).length=a.length+b.length:=by
 show (a.cps++b.cps).size=_;rw [Array.size_append];rfl
theorem ybK (sep:Str):∀ ts:List Str,(Str.join sep ts).length<=(ts.map (·.length)).sum+ts.length*sep.length
 | []=>by simp [Str.join,Str.empty,Str.length]
 | [x]=>by simp [Str.join]
 | x::y::r=>by
  have:=ybK sep (y::r)
  rw [Str.join,len_app,len_app]
  ·simp only [List.map_cons,List.sum_cons,List.length_cons] at *
   have:(r.length+1+1)*sep.length=(r.length+1)*sep.length+sep.length:=by rw [Nat.add_mul,Nat.one_mul]
   omega
  ·intro h;simp at h
theorem qdR (ts:List Str) (b:Nat) (h:∀ t∈ts,t.length<=b):(ts.map (·.length)).sum<=ts.length*b:=by
 induction ts with
 | nil=>simp
 | cons a r ih =>
  have h1:=h a (by simp);have h2:=ih λt ht=>h t (by simp [ht])
  simp only [List.map_cons,List.sum_cons,List.length_cons];rw [Nat.add_mul,Nat.one_mul];omega
theorem jaA {sep:Str} {ts:List Str} {n b:Nat} (hn:ts.length<=n) (hb:∀ t∈ts,t.length<=b) (hs:sep.length<=1) (h:n*b+n<=10000) :
  yJ .join [.str sep,.lst (ts.map D.str)]=some (.str (Str.join sep ts))/\(Str.join sep ts).length<=n*b+n:=by
 have h1:=qdR ts b hb;have h2:ts.length*b<=n*b:=Nat.mul_le_mul_right _ hn;have h3:ts.length*sep.length<=n*1:=Nat.mul_le_mul hn hs;have h4:=ybK sep ts;have h5:(10000:Nat)<=sizeLine:=by decide
 refine ⟨?_,by omega⟩;rw [jr,yaX,we,if_pos (by omega)]
def Small (xs:List Int):Prop:=∀ x∈xs,0<=x/\x<10
noncomputable def tx (xs:List Int):Str:=Str.join (Str.ofString "") (xs.map zK)
noncomputable def lx (L:List (List Int)):Str:=Str.join (Str.ofString "/") (L.map tx)
noncomputable def rx (r:List Int) (s:Int):Str:=tx r++Str.ofString ":"++zK s
noncomputable def wds (Ls:List (List (List Int))) (rows:List (List Int)) (secs:List Int):List Str:=Ls.map lx++[Str.ofString ";"]++List.zipWith rx rows secs
theorem yQ {α:Type} {f:D->Option (Option D)} {e:α->D} {g:α->Str}:∀ (xs:List α),(∀ x∈xs,f (e x)=some (some (.str (g x))))->gather f (xs.map e)=some ((xs.map g).map D.str)
 | [],_=>rfl
 | x::xs,h=>by
  rw [List.map_cons,gather,h x (by simp),we,yQ xs λy hy=>h y (by simp [hy])];rfl
theorem yat {x:Int} (h:0<=x/\x<10):yJ .str [.int x]=some (.str (zK x)):=ye (by omega)
theorem signs (C:Tab) (xs:List Int) (h:Small xs) (ρ:En) (keep:List Nat):gather (turn C (.blt .str (.cons (.var 0) .nil)) (.one 0) 1 keep .none ρ) (eI xs)=some ((xs.map zK).map D.str):=by
 refine yQ xs λx hx=>?_
 simp only [turn,zaa,yg,List.replicate,List.cons_append,List.nil_append,yB,jw,jB,zF,zC,yz,qO,qF,qC,yC,jC,jz,zD,qD,yD,zr,zA,jD,qs,zE,jo,zi,zp,qo,ql,qj,yo,js,zt,qt,jS,yO,zaD,zag,qaD,jaM,zT,qT,yT,jT,yaN,zU,qU,yU,yb,yi,jj,qh,yh,jf,qg,qp,zk,jr,qk,yk,jk,yv,jv,yF,jF,jaN,zaO,qaO,yaO,jaO,zaP,zG,qG,join_some,join_none,qw,zx,qv,qm,jm,yn,zR,qN,jb,ye,we,Option.map_some,Option.bind_none,Option.map_none,if_true,if_false,↓reduceIte,and_self,Bool.not_true,Bool.not_false,wq,Int.reduceLT,Int.reduceLE,Int.reduceNeg,Nat.reduceMul,Nat.reduceAdd,Nat.reduceLeDiff,List.length_cons,List.length_nil,List.set,true_and,and_true,zc,zo,qc,yc,jc,qd,qa,ya,yd,yat (h x hx)]
theorem qcm:(Str.ofString "").length<=1:=by decide +kernel
theorem ycm:(Str.ofString "/").length<=1:=by decide +kernel
theorem ybk:(Str.ofString " ").length<=1:=by decide +kernel
theorem jaK:(Str.ofString ":").length=1:=by decide +kernel
theorem zcG:(Str.ofString ";").length=1:=by decide +kernel
theorem zaL {xs:List Int} (h:Small xs) (h5:xs.length<=5):yJ .join [.str (Str.ofString ""),.lst ((xs.map zK).map D.str)]=some (.str (tx xs))/\(tx xs).length<=10 :=
 jaA (n := 5) (b := 1) (by simpa using h5) (λt ht => by
  obtain ⟨x,hx,rfl⟩:=wJ.mp ht;exact Nat.le_of_eq (dig (h x hx).1 (h x hx).2)) qcm (by decide)
theorem zdi (C:Tab) (xs:List Int) (h:Small xs) (h5:xs.length<=5):zN C qah [tI xs]=some (.str (tx xs)):=by
 refine jg rfl (jh ?_);simp only [tI,yB,jw,jB,zF,zC,yz,qO,qF,qC,yC,jC,jz,zD,qD,yD,zr,zA,jD,qs,zE,jo,zi,zp,qo,ql,qj,yo,js,zt,qt,jS,yO,zaD,zag,qaD,jaM,zT,qT,yT,jT,yaN,zU,qU,yU,yb,yi,jj,qh,yh,jf,qg,qp,zk,jr,qk,yk,jk,yv,jv,yF,jF,jaN,zaO,qaO,yaO,jaO,zaP,zG,qG,join_some,join_none,qw,zx,qv,qm,jm,yn,zR,qN,jb,ye,we,Option.map_some,Option.bind_none,Option.map_none,if_true,if_false,↓reduceIte,and_self,Bool.not_true,Bool.not_false,wq,Int.reduceLT,Int.reduceLE,Int.reduceNeg,Nat.reduceMul,Nat.reduceAdd,Nat.reduceLeDiff,List.length_cons,List.length_nil,List.set,true_and,and_true,zc,zo,qc,yc,jc,qd,qa,ya,yd,List.map_cons,List.map_nil,List.cons_append,List.nil_append,signs C xs h,<-jr];exact (zaL h h5).1
structure LadS (L:List (List Int)):Prop where
 n:L.length<=4
 s:∀ s∈L,Small s/\s.length<=5
theorem Lad.small {m:Nat} {L:List (List Int)} (h:Lad m L):LadS L:=⟨h.len,λs hs=>by
 obtain ⟨hl,hv⟩:=okS_iff.mp (h.ok s hs)
 have:=h.m5
 refine ⟨λx hx=>?_,by omega⟩;obtain ⟨i,hi,rfl⟩:=List.mem_iff_getElem.mp hx
 have:=hv i (by omega)
 have e:s.getD i 0=s[i]:=by simp [List.getD,hi]
 rw [e] at this;omega⟩
theorem qbv {L:List (List Int)} (h:LadS L):yJ .join [.str (Str.ofString "/"),.lst ((L.map tx).map D.str)]=some (.str (lx L))/\(lx L).length<=44 :=
 jaA (n := 4) (b := 10) (by simpa using h.n) (λt ht => by
  obtain ⟨x,hx,rfl⟩:=wJ.mp ht;exact (zaL (h.s x hx).1 (h.s x hx).2).2) ycm (by decide)
theorem qaL (C:Tab) (h0:∀ xs,Small xs->xs.length<=5->C 17 [tI xs]=some (.str (tx xs))) (L:List (List Int)) (h:LadS L):zN C yao [eL L]=some (.str (lx L)):=by
 refine jg rfl (jh ?_)
 have g:∀ ρ keep,gather (turn C (.call 17 (.cons (.var 0) .nil)) (.one 0) 1 keep .none ρ) (L.map tI)=some ((L.map tx).map D.str):=λρ keep=>by
  refine yQ L λs hs=>?_
  simp only [turn,zaa,yg,List.replicate,List.cons_append,List.nil_append,yB,jw,jB,zF,zC,yz,qO,qF,qC,yC,jC,jz,zD,qD,yD,zr,zA,jD,qs,zE,jo,zi,zp,qo,ql,qj,yo,js,zt,qt,jS,yO,zaD,zag,qaD,jaM,zT,qT,yT,jT,yaN,zU,qU,yU,yb,yi,jj,qh,yh,jf,qg,qp,zk,jr,qk,yk,jk,yv,jv,yF,jF,jaN,zaO,qaO,yaO,jaO,zaP,zG,qG,join_some,join_none,qw,zx,qv,qm,jm,yn,zR,qN,jb,ye,we,Option.map_some,Option.bind_none,Option.map_none,if_true,if_false,↓reduceIte,and_self,Bool.not_true,Bool.not_false,wq,Int.reduceLT,Int.reduceLE,Int.reduceNeg,Nat.reduceMul,Nat.reduceAdd,Nat.reduceLeDiff,List.length_cons,List.length_nil,List.set,true_and,and_true,zc,zo,qc,yc,jc,qd,qa,ya,yd,h0 s (h.s s hs).1 (h.s s hs).2]
 simp only [eL,yB,jw,jB,zF,zC,yz,qO,qF,qC,yC,jC,jz,zD,qD,yD,zr,zA,jD,qs,zE,jo,zi,zp,qo,ql,qj,yo,js,zt,qt,jS,yO,zaD,zag,qaD,jaM,zT,qT,yT,jT,yaN,zU,qU,yU,yb,yi,jj,qh,yh,jf,qg,qp,zk,jr,qk,yk,jk,yv,jv,yF,jF,jaN,zaO,qaO,yaO,jaO,zaP,zG,qG,join_some,join_none,qw,zx,qv,qm,jm,yn,zR,qN,jb,ye,we,Option.map_some,Option.bind_none,Option.map_none,if_true,if_false,↓reduceIte,and_self,Bool.not_true,Bool.not_false,wq,Int.reduceLT,Int.reduceLE,Int.reduceNeg,Nat.reduceMul,Nat.reduceAdd,Nat.reduceLeDiff,List.length_cons,List.length_nil,List.set,true_and,and_true,zc,zo,qc,yc,jc,qd,qa,ya,yd,List.map_cons,List.map_nil,List.cons_append,List.nil_append,g,<-jr];exact (qbv h).1
theorem jcm {r:List Int} {s:Int} (h:Small r) (h5:r.length<=5) (hs:0<=s/\s<10):(rx r s).length<=12/\(tx r).length+1<=sizeLine/\(tx r++Str.ofString ":").length+(zK s).length<=sizeLine:=by
 have a:=(zaL h h5).2;have b:=dig hs.1 hs.2;have c:=jaK;have d:(10000:Nat)<=sizeLine:=by decide
 unfold rx;rw [len_app,len_app];omega
theorem jbk (C:Tab) (h0:∀ xs,Small xs->xs.length<=5->C 17 [tI xs]=some (.str (tx xs))) (r:List Int) (s:Int) (h:Small r) (h5:r.length<=5) (hs:0<=s/\s<10):zN C qaW [tI r,.int s]=some (.str (rx r s)):=by
 have q:=jcm h h5 hs;refine jg rfl (jh ?_);simp only [yB,jw,jB,zF,zC,yz,qO,qF,qC,yC,jC,jz,zD,qD,yD,zr,zA,jD,qs,zE,jo,zi,zp,qo,ql,qj,yo,js,zt,qt,jS,yO,zaD,zag,qaD,jaM,zT,qT,yT,jT,yaN,zU,qU,yU,yb,yi,jj,qh,yh,jf,qg,qp,zk,jr,qk,yk,jk,yv,jv,yF,jF,jaN,zaO,qaO,yaO,jaO,zaP,zG,qG,join_some,join_none,qw,zx,qv,qm,jm,yn,zR,qN,jb,ye,we,Option.map_some,Option.bind_none,Option.map_none,if_true,if_false,↓reduceIte,and_self,Bool.not_true,Bool.not_false,wq,Int.reduceLT,Int.reduceLE,Int.reduceNeg,Nat.reduceMul,Nat.reduceAdd,Nat.reduceLeDiff,List.length_cons,List.length_nil,List.set,true_and,and_true,zc,zo,qc,yc,jc,qd,qa,ya,yd,List.map_cons,List.map_nil,List.cons_append,List.nil_append,h0 r h h5,yat hs];rw [qm (by rw [jaK];exact q.2.1)];simp only [we];rw [qm q.2.2];rfl
theorem RowOk.small:∀ {r:List Int} {Ls:List (List (List Int))},(∀ L∈Ls,∃ m,Lad m L)->RowOk r Ls->Small r
 | [],[],_,_=>by intro x hx;simp at hx
 | y::r,M::Ls,hL,q=>by
  intro x hx;rcases wy.mp hx with rfl | hx
  ·obtain ⟨m,l⟩:=hL M (by simp)
   have:=l.m5
   have e:(M.headD []).length=m:=by rw [l.head];simp
   have:=q.1
   omega
  ·exact RowOk.small (λL hL'=>hL L (by simp [hL'])) q.2 x hx
 | [],_::_,_,q=>q.elim
 | _::_,[],_,q=>q.elim
end M
end
section
open PySem Eng LG K03
namespace M
theorem zbl (C:Tab) (f:D->Option (Option D)):∀ (rows:List (List Int)) (secs:List Int),secs.length=rows.length->(∀ (i:Nat) (r:List Int) (s:Int),rows[i]?=some r->secs[i]?=some s->f (.tup [tI r,.int s])=some (some (.str (rx r s)))) ->
  gather f (jau (rows.map tI) (eI secs))=some ((List.zipWith rx rows secs).map D.str)
 | [],[],_,_=>rfl
 | [],_::_,h,_=>by simp at h
 | _::_,[],h,_=>by simp at h
 | r::rows,s::secs,h,hf=>by
  have h1:=hf 0 r s rfl rfl;have h2:=zbl C f rows secs (by simpa using h) λi r' s' a b=>hf (i+1) r' s' (by simpa using a) (by simpa using b)
  simp only [eI,List.map_cons,jau,gather,h1,we] at *;rw [h2];rfl
theorem ja6 {Ls:List (List (List Int))} {rows:List (List Int)} {secs:List Int} (T:TabOk Ls rows secs):(wds Ls rows secs).length<=12/\∀ t∈wds Ls rows secs,t.length<=44:=by
 have a:=T.c3;have b:=T.r8;have c:=T.sl;refine ⟨by simp [wds];omega,λt ht=>?_⟩;rcases List.mem_append.mp ht with q | q
 ·rcases List.mem_append.mp q with q | q
  ·obtain ⟨L,hL,rfl⟩:=wJ.mp q;obtain ⟨m,l⟩:=T.lad L hL;exact (qbv l.small).2
  ·rw [vd.mp q,zcG];decide
 ·obtain ⟨i,hi,rfl⟩:=List.mem_iff_getElem.mp q;rw [List.getElem_zipWith];rw [List.length_zipWith] at hi;have hr:=T.row _ (List.getElem_mem (show i<rows.length by omega));have hs:=T.sec _ (List.getElem_mem (show i<secs.length by omega));exact wU (jcm (hr.small T.lad) (by rw [hr.len];omega) ⟨hs.1,by omega⟩).1 (by decide)
theorem jbK {Ls:List (List (List Int))} {rows:List (List Int)} {secs:List Int} (T:TabOk Ls rows secs):yJ .join [.str (Str.ofString " "),.lst ((wds Ls rows secs).map D.str)]=some (.str (Str.join (Str.ofString " ") (wds Ls rows secs))) :=
 (jaA (n:=12) (b:=44) (ja6 T).1 (ja6 T).2 ybk (by decide)).1
theorem ybv (C:Tab) (h1:∀ L,LadS L->C 18 [eL L]=some (.str (lx L))) (h2:∀ r s,Small r->r.length<=5->0<=s/\s<10->C 19 [tI r,.int s]=some (.str (rx r s)))
  {Ls:List (List (List Int))} {rows:List (List Int)} {secs:List Int} (T:TabOk Ls rows secs):zN C yaJ [eT Ls rows secs]=some (.str (Str.join (Str.ofString " ") (wds Ls rows secs))):=by
 have g1:∀ ρ keep,gather (turn C (.call 18 (.cons (.var 0) .nil)) (.one 0) 1 keep .none ρ) (Ls.map eL)=some ((Ls.map lx).map D.str):=λρ keep=>by
  refine yQ Ls λL hL=>?_
  obtain ⟨m,l⟩:=T.lad L hL;simp only [turn,zaa,yg,List.replicate,List.cons_append,List.nil_append,yB,jw,jB,zF,zC,yz,qO,qF,qC,yC,jC,jz,zD,qD,yD,zr,zA,jD,qs,zE,jo,zi,zp,qo,ql,qj,yo,js,zt,qt,jS,yO,zaD,zag,qaD,jaM,zT,qT,yT,jT,yaN,zU,qU,yU,yb,yi,jj,qh,yh,jf,qg,qp,zk,jr,qk,yk,jk,yv,jv,yF,jF,jaN,zaO,qaO,yaO,jaO,zaP,zG,qG,join_some,join_none,qw,zx,qv,qm,jm,yn,zR,qN,jb,ye,we,Option.map_some,Option.bind_none,Option.map_none,if_true,if_false,↓reduceIte,and_self,Bool.not_true,Bool.not_false,wq,Int.reduceLT,Int.reduceLE,Int.reduceNeg,Nat.reduceMul,Nat.reduceAdd,Nat.reduceLeDiff,List.length_cons,List.length_nil,List.set,true_and,and_true,zc,zo,qc,yc,jc,qd,qa,ya,yd,h1 L l.small]
 have g2:∀ ρ keep,gather (turn C (.call 19 (.cons (.var 0) (.cons (.var 1) .nil))) (.many [0,1]) 2 keep .none ρ) (jau (rows.map tI) (eI secs))=some ((List.zipWith rx rows secs).map D.str):=λρ keep=>by
  refine zbl C _ rows secs T.sl λi r s a b=>?_
  have hr:=T.row r (wV a);have hs:=T.sec s (wV b);have h3:=T.c3;simp only [turn,zaa,setM,yg,List.replicate,List.cons_append,List.nil_append,yB,jw,jB,zF,zC,yz,qO,qF,qC,yC,jC,jz,zD,qD,yD,zr,zA,jD,qs,zE,jo,zi,zp,qo,ql,qj,yo,js,zt,qt,jS,yO,zaD,zag,qaD,jaM,zT,qT,yT,jT,yaN,zU,qU,yU,yb,yi,jj,qh,yh,jf,qg,qp,zk,jr,qk,yk,jk,yv,jv,yF,jF,jaN,zaO,qaO,yaO,jaO,zaP,zG,qG,join_some,join_none,qw,zx,qv,qm,jm,yn,zR,qN,jb,ye,we,Option.map_some,Option.bind_none,Option.map_none,if_true,if_false,↓reduceIte,and_self,Bool.not_true,Bool.not_false,wq,Int.reduceLT,Int.reduceLE,Int.reduceNeg,Nat.reduceMul,Nat.reduceAdd,Nat.reduceLeDiff,List.length_cons,List.length_nil,List.set,true_and,and_true,zc,zo,qc,yc,jc,qd,qa,ya,yd,h2 r s (hr.small T.lad) (by rw [hr.len];omega) ⟨hs.1,by omega⟩]
 have a3:=T.c3;have b8:=T.r8;have sl:=T.sl;refine jg rfl ?_;simp only [yaJ,List.replicate,List.map_cons,List.map_nil,List.cons_append,List.nil_append];refine yt (d:=.lst ((Ls.map lx).map D.str)) (ρ':=[.pu (eT Ls rows secs),.pu (.lst ((Ls.map lx).map D.str)),.un]) ?_ rfl ?_
 ·simp only [yB,jw,jB,zF,zC,yz,qO,qF,qC,yC,jC,jz,zD,qD,yD,zr,zA,jD,qs,zE,jo,zi,zp,qo,ql,qj,yo,js,zt,qt,jS,yO,zaD,zag,qaD,jaM,zT,qT,yT,jT,yaN,zU,qU,yU,yb,yi,jj,qh,yh,jf,qg,qp,zk,jr,qk,yk,jk,yv,jv,yF,jF,jaN,zaO,qaO,yaO,jaO,zaP,zG,qG,join_some,join_none,qw,zx,qv,qm,jm,yn,zR,qN,jb,ye,we,Option.map_some,Option.bind_none,Option.map_none,if_true,if_false,↓reduceIte,and_self,Bool.not_true,Bool.not_false,wq,Int.reduceLT,Int.reduceLE,Int.reduceNeg,Nat.reduceMul,Nat.reduceAdd,Nat.reduceLeDiff,List.length_cons,List.length_nil,List.set,true_and,and_true,zc,zo,qc,yc,jc,qd,qa,ya,yd,eT];rw [show atI [D.tup (Ls.map eL),.tup (rows.map tI),tI secs] 0=some (.tup (Ls.map eL)) from rfl];simp only [yB,jw,jB,zF,zC,yz,qO,qF,qC,yC,jC,jz,zD,qD,yD,zr,zA,jD,qs,zE,jo,zi,zp,qo,ql,qj,yo,js,zt,qt,jS,yO,zaD,zag,qaD,jaM,zT,qT,yT,jT,yaN,zU,qU,yU,yb,yi,jj,qh,yh,jf,qg,qp,zk,jr,qk,yk,jk,yv,jv,yF,jF,jaN,zaO,qaO,yaO,jaO,zaP,zG,qG,join_some,join_none,qw,zx,qv,qm,jm,yn,zR,qN,jb,ye,we,Option.map_some,Option.bind_none,Option.map_none,if_true,if_false,↓reduceIte,and_self,Bool.not_true,Bool.not_false,wq,Int.reduceLT,Int.reduceLE,Int.reduceNeg,Nat.reduceMul,Nat.reduceAdd,Nat.reduceLeDiff,List.length_cons,List.length_nil,List.set,true_and,and_true,zc,zo,qc,yc,jc,qd,qa,ya,yd,g1]
 refine yt (d:=.lst ((List.zipWith rx rows secs).map D.str)) (ρ':=[.pu (eT Ls rows secs),.pu (.lst ((Ls.map lx).map D.str)),.pu (.lst ((List.zipWith rx rows secs).map D.str))]) ?_ rfl (jh ?_)
 ·simp only [yB,jw,jB,zF,zC,yz,qO,qF,qC,yC,jC,jz,zD,qD,yD,zr,zA,jD,qs,zE,jo,zi,zp,qo,ql,qj,yo,js,zt,qt,jS,yO,zaD,zag,qaD,jaM,zT,qT,yT,jT,yaN,zU,qU,yU,yb,yi,jj,qh,yh,jf,qg,qp,zk,jr,qk,yk,jk,yv,jv,yF,jF,jaN,zaO,qaO,yaO,jaO,zaP,zG,qG,join_some,join_none,qw,zx,qv,qm,jm,yn,zR,qN,jb,ye,we,Option.map_some,Option.bind_none,Option.map_none,if_true,if_false,↓reduceIte,and_self,Bool.not_true,Bool.not_false,wq,Int.reduceLT,Int.reduceLE,Int.reduceNeg,Nat.reduceMul,Nat.reduceAdd,Nat.reduceLeDiff,List.length_cons,List.length_nil,List.set,true_and,and_true,zc,zo,qc,yc,jc,qd,qa,ya,yd,eT];rw [show atI [D.tup (Ls.map eL),.tup (rows.map tI),tI secs] 1=some (.tup (rows.map tI)) from rfl,show atI [D.tup (Ls.map eL),.tup (rows.map tI),tI secs] 2=some (.tup (eI secs)) from rfl];simp only [yB,jw,jB,zF,zC,yz,qO,qF,qC,yC,jC,jz,zD,qD,yD,zr,zA,jD,qs,zE,jo,zi,zp,qo,ql,qj,yo,js,zt,qt,jS,yO,zaD,zag,qaD,jaM,zT,qT,yT,jT,yaN,zU,qU,yU,yb,yi,jj,qh,yh,jf,qg,qp,zk,jr,qk,yk,jk,yv,jv,yF,jF,jaN,zaO,qaO,yaO,jaO,zaP,zG,qG,join_some,join_none,qw,zx,qv,qm,jm,yn,zR,qN,jb,ye,we,Option.map_some,Option.bind_none,Option.map_none,if_true,if_false,↓reduceIte,and_self,Bool.not_true,Bool.not_false,wq,Int.reduceLT,Int.reduceLE,Int.reduceNeg,Nat.reduceMul,Nat.reduceAdd,Nat.reduceLeDiff,List.length_cons,List.length_nil,List.set,true_and,and_true,zc,zo,qc,yc,jc,qd,qa,ya,yd,g2]
 ·simp only [yB,jw,jB,zF,zC,yz,qO,qF,qC,yC,jC,jz,zD,qD,yD,zr,zA,jD,qs,zE,jo,zi,zp,qo,ql,qj,yo,js,zt,qt,jS,yO,zaD,zag,qaD,jaM,zT,qT,yT,jT,yaN,zU,qU,yU,yb,yi,jj,qh,yh,jf,qg,qp,zk,jr,qk,yk,jk,yv,jv,yF,jF,jaN,zaO,qaO,yaO,jaO,zaP,zG,qG,join_some,join_none,qw,zx,qv,qm,jm,yn,zR,qN,jb,ye,we,Option.map_some,Option.bind_none,Option.map_none,if_true,if_false,↓reduceIte,and_self,Bool.not_true,Bool.not_false,wq,Int.reduceLT,Int.reduceLE,Int.reduceNeg,Nat.reduceMul,Nat.reduceAdd,Nat.reduceLeDiff,List.length_cons,List.length_nil,List.set,true_and,and_true,zc,zo,qc,yc,jc,qd,qa,ya,yd];rw [if_pos (qq (by decide))];simp only [we];rw [jm (by simp;exact qq (by omega))];simp only [we];rw [jm (by simp;exact qq (by omega))];simp only [we,Option.map_some,<-jr];rw [<-jbK T,wds]
  simp
theorem qcG (C:Tab) {Ls:List (List (List Int))} {rows:List (List Int)} {secs:List Int} (T:TabOk Ls rows secs):zN C zat [eT Ls rows secs]=some (.str (Str.join (Str.ofString " ") (wds Ls rows secs))):=by
 have a3:=T.c3;have b8:=T.r8;have sl:=T.sl
 obtain ⟨ρ1,e1,x5,x6,x7,rfl⟩:=zaj (f:=λd ρ'=>(puT (.one 5) d ρ').bind λρ''=>exs C yZ ρ'')
  (λi ρ=>∃ x5 x6 x7,ρ=[.pu (eT Ls rows secs),.pu (.tup (Ls.map eL)),.pu (.tup (rows.map tI)),.pu (tI secs),.ow (((Ls.take i).map lx).map D.str),x5,x6,x7]) (Ls.map eL) 0
  [.pu (eT Ls rows secs), .pu (.tup (Ls.map eL)), .pu (.tup (rows.map tI)), .pu (tI secs), .ow [], .un, .un, .un] ⟨.un, .un, .un, by simp⟩ (λi d ρ hd ⟨x5, x6, x7, er⟩ => by
   subst er;rw [wz] at hd;cases hLi:Ls[i]? with
   | none=>rw [hLi] at hd;cases hd
   | some L =>
    rw [hLi] at hd;cases hd;obtain ⟨m,l⟩:=T.lad L (wV hLi)
    have g:∀ ρ keep,gather (turn C (.blt .join (.cons (.cst (.str (Str.ofString ""))) (.cons (.comp (.blt .str (.cons (.var 0) .nil)) (.one 0) 1 [] (.data (.var 0)) .none) .nil))) (.one 0) 1 keep .none ρ) (L.map tI)=some ((L.map tx).map D.str):=λρ keep=>by
     refine yQ L λs hs=>?_
     have q:=l.small.s s hs;simp only [turn,zaa,yg,List.replicate,List.cons_append,List.nil_append,tI,yB,jw,jB,zF,zC,yz,qO,qF,qC,yC,jC,jz,zD,qD,yD,zr,zA,jD,qs,zE,jo,zi,zp,qo,ql,qj,yo,js,zt,qt,jS,yO,zaD,zag,qaD,jaM,zT,qT,yT,jT,yaN,zU,qU,yU,yb,yi,jj,qh,yh,jf,qg,qp,zk,jr,qk,yk,jk,yv,jv,yF,jF,jaN,zaO,qaO,yaO,jaO,zaP,zG,qG,join_some,join_none,qw,zx,qv,qm,jm,yn,zR,qN,jb,ye,we,Option.map_some,Option.bind_none,Option.map_none,if_true,if_false,↓reduceIte,and_self,Bool.not_true,Bool.not_false,wq,Int.reduceLT,Int.reduceLE,Int.reduceNeg,Nat.reduceMul,Nat.reduceAdd,Nat.reduceLeDiff,List.length_cons,List.length_nil,List.set,true_and,and_true,zc,zo,qc,yc,jc,qd,qa,ya,yd,signs C s q.1,<-jr];rw [(zaL q.1 q.2).1];rfl
    refine ⟨_,?_,.pu (eL L),x6,x7,rfl⟩;simp only [puT,we,List.set,yZ];rw [yal (d:=.str (lx L)) (ds:=((Ls.take (0+i)).map lx).map D.str) (x:=some (.nx _)) ?_ rfl ?_ rfl]
    ·simp [List.take_add_one,hLi]
    ·simp only [eL,yB,jw,jB,zF,zC,yz,qO,qF,qC,yC,jC,jz,zD,qD,yD,zr,zA,jD,qs,zE,jo,zi,zp,qo,ql,qj,yo,js,zt,qt,jS,yO,zaD,zag,qaD,jaM,zT,qT,yT,jT,yaN,zU,qU,yU,yb,yi,jj,qh,yh,jf,qg,qp,zk,jr,qk,yk,jk,yv,jv,yF,jF,jaN,zaO,qaO,yaO,jaO,zaP,zG,qG,join_some,join_none,qw,zx,qv,qm,jm,yn,zR,qN,jb,ye,we,Option.map_some,Option.bind_none,Option.map_none,if_true,if_false,↓reduceIte,and_self,Bool.not_true,Bool.not_false,wq,Int.reduceLT,Int.reduceLE,Int.reduceNeg,Nat.reduceMul,Nat.reduceAdd,Nat.reduceLeDiff,List.length_cons,List.length_nil,List.set,true_and,and_true,zc,zo,qc,yc,jc,qd,qa,ya,yd,g,<-jr];exact (qbv l.small).1
    ·simp;exact yac (by omega))
 rw [wG,show 0+Ls.length=Ls.length by omega,List.take_length] at e1
 obtain ⟨ρ2,e2,y5,y6,y7,rfl⟩:=zaj (f:=λd ρ'=>(puT (.many [6,7]) d ρ').bind λρ''=>exs C qZ ρ'')
  (λi ρ=>∃ x5 x6 x7,ρ=[.pu (eT Ls rows secs),.pu (.tup (Ls.map eL)),.pu (.tup (rows.map tI)),.pu (tI secs),.ow ((Ls.map lx++[Str.ofString ";"]++(List.zipWith rx rows secs).take i).map D.str),x5,x6,x7]) (zaf 0 (rows.map tI)) 0
  [.pu (eT Ls rows secs), .pu (.tup (Ls.map eL)), .pu (.tup (rows.map tI)), .pu (tI secs), .ow ((Ls.map lx ++ [Str.ofString ";"]).map D.str), x5, x6, x7] ⟨x5, x6, x7, by simp⟩ (λi d ρ hd ⟨z5, z6, z7, er⟩ => by
   subst er;rw [qJ,wz] at hd;cases hri:rows[i]? with
   | none=>rw [hri] at hd;cases hd
   | some r =>
    rw [hri] at hd;cases hd;have il:i<rows.length:=(wu.mp hri).1;have hsi:secs[i]?=some secs[i]:=by simp [show i<secs.length by omega]
    generalize hss:secs[i]=s at hsi;have hr:=T.row r (wV hri);have hs:=T.sec s (wV hsi);have hsm:=hr.small T.lad;have h5:r.length<=5:=by rw [hr.len];omega
    have hs10:0<=s/\s<10:=⟨hs.1,by omega⟩;have q:=jcm hsm h5 hs10;have ei:atI (eI secs) ((0+i:Nat):Int)=some (.int s):=zcg (by rw [show 0+i=i by omega];simp [eI,hsi]);generalize hii:((0+i:Nat):Int)=ii at ei;refine ⟨_,?_,z5,.pu (.int ii),.pu (tI r),rfl⟩;simp only [hii,puT,List.length_cons,List.length_nil,if_true,puM,we,List.set,qZ];rw [yal (d:=.str (rx r s)) (ds:=(Ls.map lx++[Str.ofString ";"]++(List.zipWith rx rows secs).take (0+i)).map D.str) (x:=some (.nx _)) ?_ rfl ?_ rfl]
    ·have ez:(List.zipWith rx rows secs)[i]?=some (rx r s):=by simp [List.getElem?_zipWith,hri,hsi]
     simp [List.take_add_one,ez]
    ·simp only [tI,yB,jw,jB,zF,zC,yz,qO,qF,qC,yC,jC,jz,zD,qD,yD,zr,zA,jD,qs,zE,jo,zi,zp,qo,ql,qj,yo,js,zt,qt,jS,yO,zaD,zag,qaD,jaM,zT,qT,yT,jT,yaN,zU,qU,yU,yb,yi,jj,qh,yh,jf,qg,qp,zk,jr,qk,yk,jk,yv,jv,yF,jF,jaN,zaO,qaO,yaO,jaO,zaP,zG,qG,join_some,join_none,qw,zx,qv,qm,jm,yn,zR,qN,jb,ye,we,Option.map_some,Option.bind_none,Option.map_none,if_true,if_false,↓reduceIte,and_self,Bool.not_true,Bool.not_false,wq,Int.reduceLT,Int.reduceLE,Int.reduceNeg,Nat.reduceMul,Nat.reduceAdd,Nat.reduceLeDiff,List.length_cons,List.length_nil,List.set,true_and,and_true,zc,zo,qc,yc,jc,qd,qa,ya,yd,signs C r hsm,<-jr,(zaL hsm h5).1,ei,yat hs10];rw [qm (by rw [jaK];exact q.2.1)];simp only [we];rw [qm q.2.2];rfl
    ·simp;exact yac (by omega))
 refine jg rfl ?_;simp only [zat,List.replicate,List.map_cons,List.map_nil,List.cons_append,List.nil_append];refine yt (d:=eT Ls rows secs) (ρ':=[.pu (eT Ls rows secs),.pu (.tup (Ls.map eL)),.pu (.tup (rows.map tI)),.pu (tI secs),.un,.un,.un,.un]) ?_ rfl ?_
 ·simp only [yB,jw,jB,zF,zC,yz,qO,qF,qC,yC,jC,jz,zD,qD,yD,zr,zA,jD,qs,zE,jo,zi,zp,qo,ql,qj,yo,js,zt,qt,jS,yO,zaD,zag,qaD,jaM,zT,qT,yT,jT,yaN,zU,qU,yU,yb,yi,jj,qh,yh,jf,qg,qp,zk,jr,qk,yk,jk,yv,jv,yF,jF,jaN,zaO,qaO,yaO,jaO,zaP,zG,qG,join_some,join_none,qw,zx,qv,qm,jm,yn,zR,qN,jb,ye,we,Option.map_some,Option.bind_none,Option.map_none,if_true,if_false,↓reduceIte,and_self,Bool.not_true,Bool.not_false,wq,Int.reduceLT,Int.reduceLE,Int.reduceNeg,Nat.reduceMul,Nat.reduceAdd,Nat.reduceLeDiff,List.length_cons,List.length_nil,List.set,true_and,and_true,zc,zo,qc,yc,jc,qd,qa,ya,yd]
 refine qax (ds:=[]) ?_ rfl ?_
 ·simp only [yB,jw,jB,zF,zC,yz,qO,qF,qC,yC,jC,jz,zD,qD,yD,zr,zA,jD,qs,zE,jo,zi,zp,qo,ql,qj,yo,js,zt,qt,jS,yO,zaD,zag,qaD,jaM,zT,qT,yT,jT,yaN,zU,qU,yU,yb,yi,jj,qh,yh,jf,qg,qp,zk,jr,qk,yk,jk,yv,jv,yF,jF,jaN,zaO,qaO,yaO,jaO,zaP,zG,qG,join_some,join_none,qw,zx,qv,qm,jm,yn,zR,qN,jb,ye,we,Option.map_some,Option.bind_none,Option.map_none,if_true,if_false,↓reduceIte,and_self,Bool.not_true,Bool.not_false,wq,Int.reduceLT,Int.reduceLE,Int.reduceNeg,Nat.reduceMul,Nat.reduceAdd,Nat.reduceLeDiff,List.length_cons,List.length_nil,List.set,true_and,and_true,zc,zo,qc,yc,jc,qd,qa,ya,yd];rw [if_pos (qq (by decide))]
 simp only [List.set];refine jR (ds:=Ls.map eL) ?_ e1 ?_
 ·simp only [yB,jw,jB,zF,zC,yz,qO,qF,qC,yC,jC,jz,zD,qD,yD,zr,zA,jD,qs,zE,jo,zi,zp,qo,ql,qj,yo,js,zt,qt,jS,yO,zaD,zag,qaD,jaM,zT,qT,yT,jT,yaN,zU,qU,yU,yb,yi,jj,qh,yh,jf,qg,qp,zk,jr,qk,yk,jk,yv,jv,yF,jF,jaN,zaO,qaO,yaO,jaO,zaP,zG,qG,join_some,join_none,qw,zx,qv,qm,jm,yn,zR,qN,jb,ye,we,Option.map_some,Option.bind_none,Option.map_none,if_true,if_false,↓reduceIte,and_self,Bool.not_true,Bool.not_false,wq,Int.reduceLT,Int.reduceLE,Int.reduceNeg,Nat.reduceMul,Nat.reduceAdd,Nat.reduceLeDiff,List.length_cons,List.length_nil,List.set,true_and,and_true,zc,zo,qc,yc,jc,qd,qa,ya,yd]
 refine yal (d:=.str (Str.ofString ";")) (ds:=(Ls.map lx).map D.str) rfl rfl ?_ ?_
 ·simp;exact yac (by omega)
 simp only [List.set];rw [show ((Ls.map lx).map D.str++[D.str (Str.ofString ";")])=(Ls.map lx++[Str.ofString ";"]).map D.str by simp];refine jR (ds:=zaf 0 (rows.map tI)) ?_ e2 (jh ?_)
 ·simp only [yB,jw,jB,zF,zC,yz,qO,qF,qC,yC,jC,jz,zD,qD,yD,zr,zA,jD,qs,zE,jo,zi,zp,qo,ql,qj,yo,js,zt,qt,jS,yO,zaD,zag,qaD,jaM,zT,qT,yT,jT,yaN,zU,qU,yU,yb,yi,jj,qh,yh,jf,qg,qp,zk,jr,qk,yk,jk,yv,jv,yF,jF,jaN,zaO,qaO,yaO,jaO,zaP,zG,qG,join_some,join_none,qw,zx,qv,qm,jm,yn,zR,qN,jb,ye,we,Option.map_some,Option.bind_none,Option.map_none,if_true,if_false,↓reduceIte,and_self,Bool.not_true,Bool.not_false,wq,Int.reduceLT,Int.reduceLE,Int.reduceNeg,Nat.reduceMul,Nat.reduceAdd,Nat.reduceLeDiff,List.length_cons,List.length_nil,List.set,true_and,and_true,zc,zo,qc,yc,jc,qd,qa,ya,yd]
 ·simp only [yB,jw,jB,zF,zC,yz,qO,qF,qC,yC,jC,jz,zD,qD,yD,zr,zA,jD,qs,zE,jo,zi,zp,qo,ql,qj,yo,js,zt,qt,jS,yO,zaD,zag,qaD,jaM,zT,qT,yT,jT,yaN,zU,qU,yU,yb,yi,jj,qh,yh,jf,qg,qp,zk,jr,qk,yk,jk,yv,jv,yF,jF,jaN,zaO,qaO,yaO,jaO,zaP,zG,qG,join_some,join_none,qw,zx,qv,qm,jm,yn,zR,qN,jb,ye,we,Option.map_some,Option.bind_none,Option.map_none,if_true,if_false,↓reduceIte,and_self,Bool.not_true,Bool.not_false,wq,Int.reduceLT,Int.reduceLE,Int.reduceNeg,Nat.reduceMul,Nat.reduceAdd,Nat.reduceLeDiff,List.length_cons,List.length_nil,List.set,true_and,and_true,zc,zo,qc,yc,jc,qd,qa,ya,yd,<-jr];rw [jH,wG,show 0+rows.length=rows.length by omega];have et:(List.zipWith rx rows secs).take rows.length=List.zipWith rx rows secs:=List.take_of_length_le (by simp;omega);rw [et];exact jbK T
end M
end
section
open PySem Eng LG
namespace M
noncomputable abbrev mkS (l:List Nat):Str:=⟨l.toArray⟩
theorem jaX (z:Str):z=mkS z.cps.toList:=by cases z;simp [mkS]
theorem qB (l:List Nat):(mkS l).cps.toList=l:=by simp
theorem zB (l:List Nat):(mkS l).length=l.length:=by simp [mkS,Str.length]
theorem za7 {a b:List Nat} (h:mkS a=mkS b):a=b:=by
 have:=congrArg (λz:Str=>z.cps.toList) h
 simpa using this
noncomputable def ja (c:Nat):List Nat->List (List Nat)
 | []=>[[]]
 | x::r=>if x=c then []::ja c r else match ja c r with | h::t=>(x::h)::t | []=>[[x]]
theorem zae (c:Nat):∀ l:List Nat,∃ h t,ja c l=h::t
 | []=>⟨_,_,rfl⟩
 | x::r=>by
  obtain ⟨h,t,e⟩:=zae c r;unfold ja;split
  ·exact ⟨_,_,rfl⟩
  ·rw [e];exact ⟨_,_,rfl⟩
theorem qW {c x:Nat} {r h:List Nat} {t:List (List Nat)} (n:x≠c) (e:ja c r=h::t):ja c (x::r)=(x::h)::t:=by
 rw [ja,if_neg n,e]
theorem yW {c:Nat} {r:List Nat}:ja c (c::r)=[]::ja c r:=by rw [ja,if_pos rfl]
noncomputable def zbX (c:Nat):Nat->List Nat->List Nat
 | _,[]=>[]
 | a,x::r=>if x=c then a::zbX c (a+1) r else zbX c (a+1) r
open StrLaws in
theorem jbv (x:Str) (l:List Nat) (hx:x.cps.toList=l) (c lim:Nat):∀ (m a:Nat) (acc:Array Nat) (free:Nat),a+m=l.length+1->free<=a->acc.size+m<=lim ->
  (forIn (List.range' a m) (acc,free) (occBody x ⟨#[c]⟩ l.length lim)).run.fst.toList=acc.toList++zbX c a (l.drop a)
 | 0,a,acc,free,h1,h2,h3=>by
  have:l.drop a=[]:=List.drop_eq_nil_of_le (by omega)
  rw [this];simp [zbX]
 | m+1,a,acc,free,h1,h2,h3=>by
  rw [List.range'_succ,List.forIn_cons];have hn:x.length=l.length:=by rw [<-hx];simp [Str.length]
  have key:=subAt_one x c a;rw [hx,hn] at key
  by_cases hc:l[a]?=some c
  ·have q:=key.mpr hc;have e0:occBody x ⟨#[c]⟩ l.length lim a (acc,free)=pure (ForInStep.yield (acc.push a,a+1)):=if_pos ⟨⟨⟨show acc.size<lim by omega,h2⟩,q.1⟩,q.2⟩
   have hd:l.drop a=c::l.drop (a+1):=by
    obtain ⟨ha,e⟩:=wu.mp hc;rw [List.drop_eq_getElem_cons ha,e]
   rw [e0];refine Eq.trans (jbv x l hx c lim m (a+1) (acc.push a) (a+1) (by omega) (wF _) (by simp;omega)) ?_;rw [hd,zbX,if_pos rfl];simp
  ·have e0:occBody x ⟨#[c]⟩ l.length lim a (acc,free)=pure (ForInStep.yield (acc,free)):=if_neg λz=>hc (key.mp ⟨z.1.2,z.2⟩)
   rw [e0];refine Eq.trans (jbv x l hx c lim m (a+1) acc free (by omega) (by omega) (by omega)) ?_;congr 1
   by_cases ha:a<l.length
   ·rw [List.drop_eq_getElem_cons ha,zbX,if_neg (λe=>hc (by rw [List.getElem?_eq_getElem ha,e]))]
   ·rw [List.drop_eq_nil_of_le (show l.length<=a by omega),List.drop_eq_nil_of_le (by omega)];rfl
open StrLaws in
theorem zbw (x:Str) (l:List Nat) (hx:x.cps.toList=l) (c:Nat):∀ (n a st:Nat),l.length-a=n->st<=a->a<=l.length ->
  ∃ h t,ja c (l.drop a)=h::t/\partsFrom x 1 st (zbX c a (l.drop a))=mkS ((l.drop st).take (a-st)++h)::t.map mkS:=λn=>by
 have hl:x.length=l.length:=by rw [<-hx];simp [Str.length]
 have sub:∀ i j,Builtin.Str.strSub x i j=mkS ((l.drop i).take (j-i)):=λi j=>by
  rw [jaX (Builtin.Str.strSub x i j),strSub_toList,hx]
 induction n with
 | zero =>
  intro a st h1 h2 h3;have hd:l.drop a=[]:=List.drop_eq_nil_of_le (by omega);refine ⟨[],[],by rw [hd];rfl,?_⟩;rw [hd,zbX,partsFrom,sub,hl];rw [show l.length=a by omega];simp
 | succ n ih =>
  intro a st h1 h2 h3;have ha:a<l.length:=by omega
  have hd:l.drop a=l[a]::l.drop (a+1):=List.drop_eq_getElem_cons ha
  by_cases hc:l[a]=c
  ·obtain ⟨h,t,e1,e2⟩:=ih (a+1) (a+1) (by omega) (wF _) (by omega);rw [hd,hc];refine ⟨[],h::t,by rw [yW,e1],?_⟩;rw [zbX,if_pos rfl,partsFrom,e2,sub]
   simp
  ·obtain ⟨h,t,e1,e2⟩:=ih (a+1) st (by omega) (by omega) (by omega);rw [hd];refine ⟨l[a]::h,t,qW hc e1,?_⟩;rw [zbX,if_neg hc,e2]
   have:(l.drop st).take (a+1-st)=(l.drop st).take (a-st)++[l[a]]:=by
    rw [show a+1-st=(a-st)+1 by omega,List.take_add_one,List.getElem?_drop,show st+(a-st)=a by omega,List.getElem?_eq_getElem ha];rfl
   rw [this];simp
theorem zbL (l:List Nat) (c:Nat) (hc:c<256):Txt.split (mkS l) ⟨#[c]⟩=(ja c l).map mkS:=by
 obtain ⟨h,t,e1,e2⟩:=zbw (mkS l) l (qB l) c l.length 0 0 (by omega) (wF _) (Nat.zero_le _)
 have ho:Builtin.Str.occurrences (mkS l) ⟨#[c]⟩ 0 (mkS l).length ((mkS l).length+1)=zbX c 0 l:=by
  rw [StrLaws.occ_eq,zB]
  have:=jbv (mkS l) l (qB l) c (l.length+1) (l.length+1) 0 #[] 0 (by omega) (wF _) (by simp)
  simpa using this
 have e3:StrLaws.partsFrom (mkS l) 1 0 (zbX c 0 l)=(ja c l).map mkS:=by
  rw [List.drop_zero] at e1 e2;rw [e2,e1];simp
 have hk:Builtin.Str.strKind (⟨#[c]⟩:Str)=1:=by simp [Builtin.Str.strKind,hc]
 have hk2:1<=Builtin.Str.strKind (mkS l):=by unfold Builtin.Str.strKind;split<;>(try split)<;>decide
 unfold Txt.split;split
 ·rename_i hs;rw [hk] at hs;simp only [Bool.or_eq_true,wI] at hs;have hs:(mkS l).length<1:=hs.elim id λz=>by omega
  rw [zB] at hs
  have:l=[]:=List.eq_nil_of_length_eq_zero (by omega)
  subst this;rfl
 ·rw [ho];split
  ·rename_i hs;rw [List.isEmpty_iff] at hs;rw [hs,StrLaws.partsFrom,StrLaws.sub_whole] at e3;exact e3
  ·rw [StrLaws.partsBetween_eq];exact e3
noncomputable def jn (c:Nat):List (List Nat)->List Nat
 | []=>[]
 | [x]=>x
 | x::y::r=>x++c::jn c (y::r)
theorem zak (a b:List Nat):mkS a++mkS b=mkS (a++b):=Str.ext' (by rw [Str.cps_append];simp)
theorem qa7 (c:Nat):∀ ws:List (List Nat),Str.join ⟨#[c]⟩ (ws.map mkS)=mkS (jn c ws)
 | []=>rfl
 | [x]=>rfl
 | x::y::r=>by
  have ih:=qa7 c (y::r);rw [List.map_cons,List.map_cons,Str.join]
  ·rw [List.map_cons] at ih;rw [ih,show (⟨#[c]⟩:Str)=mkS [c] from rfl,zak,zak,jn];simp
  ·intro h;cases h
theorem jat {c:Nat} {r:List Nat}:∀ {w:List Nat},c∉w->ja c (w++c::r)=w::ja c r
 | [],_=>yW
 | x::w,h=>by
  rw [wy,not_or] at h;exact qW (λe=>h.1 e.symm) (jat h.2)
theorem zau {c:Nat}:∀ {w:List Nat},c∉w->ja c w=[w]
 | [],_=>rfl
 | x::w,h=>by
  rw [wy,not_or] at h;exact qW (λe=>h.1 e.symm) (zau h.2)
theorem ya7 {c:Nat}:∀ {ws:List (List Nat)},ws≠[]->(∀ w∈ws,c∉w)->ja c (jn c ws)=ws
 | [],h,_=>absurd rfl h
 | [x],_,h=>zau (h x (.head _))
 | x::y::r,_,h=>by
  rw [jn,jat (h x (.head _)),ya7 (ws:=y::r) (λz=>by cases z) λw hw=>h w (.tail _ hw)]
theorem qdi {c x:Nat} {h:List Nat} {t:List (List Nat)}:jn c ((x::h)::t)=x::jn c (h::t):=by cases t<;>rfl
theorem zaB (c:Nat):∀ l:List Nat,jn c (ja c l)=l
 | []=>rfl
 | x::r=>by
  obtain ⟨h,t,e⟩:=zae c r;have ih:=zaB c r;rw [e] at ih
  by_cases hx:x=c
  ·subst hx;rw [yW,e,jn,ih];rfl
  ·rw [qW hx e,qdi,ih]
theorem qae {c:Nat}:∀ {l w:List Nat},w∈ja c l->∀ x∈w,x∈l
 | [],w,h,x,hx=>by
  rw [ja,vd] at h;subst h;cases hx
 | y::r,w,h,x,hx=>by
  obtain ⟨p,t,e⟩:=zae c r
  by_cases hy:y=c
  ·subst hy;rw [yW,wy] at h;rcases h with rfl | h
   ·cases hx
   ·exact .tail _ (qae h x hx)
  ·rw [qW hy e,wy] at h;rcases h with rfl | h
   ·rcases wy.mp hx with rfl | hx
    ·exact .head _
    ·exact .tail _ (qae (w:=p) (by rw [e];exact .head _) x hx)
   ·exact .tail _ (qae (w:=w) (by rw [e];exact .tail _ h) x hx)
noncomputable def wt (ws:List (List Nat)):Nat:=(ws.map λw=>w.length+1).sum
theorem jaf (c:Nat):∀ l:List Nat,wt (ja c l)=l.length+1
 | []=>rfl
 | x::r=>by
  obtain ⟨h,t,e⟩:=zae c r;have ih:=jaf c r
  by_cases hx:x=c
  ·subst hx;rw [yW,wt,List.map_cons,List.sum_cons];unfold wt at ih;simp;omega
  ·rw [e] at ih;rw [qW hx e];simp only [wt,List.map_cons,List.sum_cons,List.length_cons] at *;omega
theorem qbl (ws:List (List Nat)):ws.length<=wt ws:=by
 induction ws with
 | nil=>exact Nat.zero_le _
 | cons a r ih=>simp only [wt,List.map_cons,List.sum_cons,List.length_cons] at *;omega
theorem ydR {ws:List (List Nat)} {w:List Nat} (h:w∈ws):w.length+1<=wt ws:=by
 induction ws with
 | nil=>cases h
 | cons a r ih =>
  simp only [wt,List.map_cons,List.sum_cons] at *;rcases wy.mp h with rfl | h
  ·omega
  ·have:=ih h;omega
theorem jaw (a b:List (List Nat)):wt (a++b)=wt a+wt b:=by simp [wt]
theorem jdR (c:Nat):∀ ws:List (List Nat),(jn c ws).length<=wt ws
 | []=>Nat.zero_le _
 | [x]=>by simp [jn,wt]
 | x::y::r=>by
  have:=jdR c (y::r)
  simp only [jn,wt,List.map_cons,List.sum_cons,wW,List.length_cons] at *;omega
theorem qbL {c:Nat}:∀ {ws:List (List Nat)} {x:Nat},x∈jn c ws->x=c\/∃ w∈ws,x∈w
 | [],x,h=>by cases h
 | [w],x,h=>.inr ⟨w,.head _,h⟩
 | w::y::r,x,h=>by
  rw [jn,List.mem_append,wy] at h;rcases h with h | h | h
  ·exact .inr ⟨w,.head _,h⟩
  ·exact .inl h
  ·rcases qbL h with q | ⟨v,hv,q⟩
   ·exact .inl q
   ·exact .inr ⟨v,.tail _ hv,q⟩
theorem ycG {c:Nat} {a b:List Nat} (h:c∉a):Txt.partition (mkS (a++c::b)) ⟨#[c]⟩=(mkS a,⟨#[c]⟩,mkS b):=by
 have at':∀ i,StrLaws.At (mkS (a++c::b)) ⟨#[c]⟩ (mkS (a++c::b)).length i↔(a++c::b)[i]?=some c:=λi=>by
  have:=StrLaws.subAt_one (mkS (a++c::b)) c i
  rwa [qB] at this
 have sub:∀ i j,Builtin.Str.strSub (mkS (a++c::b)) i j=mkS (((a++c::b).drop i).take (j-i)):=λi j=>by
  rw [jaX (Builtin.Str.strSub _ i j),StrLaws.strSub_toList,qB]
 unfold Txt.partition;rcases StrLaws.occ_head (mkS (a++c::b)) ⟨#[c]⟩ 1 (wF _) with ⟨_,q⟩ | ⟨i,r,e,q1,q2⟩
 ·exact absurd ((at' a.length).mpr (by simp)) (q _)
 ·have hi:i=a.length:=by
   rcases Nat.lt_trichotomy i a.length with z | z | z
   ·have:=(at' i).mp q1;rw [vn z] at this;exact absurd (wV this) h
   ·exact z
   ·exact absurd ((at' a.length).mpr (by simp)) (q2 _ z)
  subst hi;rw [e];simp only [sub,zB];refine Prod.ext ?_ (Prod.ext rfl ?_)
  ·simp
  ·show mkS _=mkS b;congr 2
   have e1:(a++c::b).drop (a.length+[c].length)=b:=by
    rw [show (a++c::b)=(a++[c])++b by simp];exact List.drop_left' (by simp)
   rw [e1];exact List.take_of_length_le (by simp;omega)
theorem jcG (l:List Nat) (y:Str):∃ a,(Txt.partition (mkS l) y).1=mkS a/\a.length<=l.length/\∀ x∈a,x∈l:=by
 unfold Txt.partition;split
 ·rename_i i r e;refine ⟨(l.drop 0).take (i-0),?_,by simp;omega,λx hx=>List.mem_of_mem_drop (List.mem_of_mem_take hx)⟩;show Builtin.Str.strSub (mkS l) 0 i=_;rw [jaX (Builtin.Str.strSub _ 0 i),StrLaws.strSub_toList,qB]
 ·exact ⟨l,rfl,wF _,λ_ h=>h⟩
noncomputable def fig (c:Nat):Int:=if 48<=c/\c<=57 then (c:Int)-48 else -1
theorem ydi:∀ c∈List.range 128,Txt.find (Str.ofString "0123456789") ⟨#[c]⟩=fig c:=by decide +kernel
theorem ybL {c:Nat} (h:c<128):Txt.find (Str.ofString "0123456789") ⟨#[c]⟩=fig c:=ydi c (vg.mpr h)
noncomputable def zaz (l:List Nat):List Int:=l.map fig
noncomputable def dg (x:Int):Nat:=48+x.toNat
noncomputable def dgs (xs:List Int):List Nat:=xs.map dg
theorem zcn {x:Int} (h:0<=x/\x<10):fig (dg x)=x:=by
 unfold fig dg;rw [if_pos (by omega)];omega
theorem zcQ {c:Nat} (h:0<=fig c):dg (fig c)=c:=by
 unfold fig dg at *;split at h<;>rename_i q
 ·rw [if_pos q];omega
 ·omega
end M
end
section
open PySem Eng LG K03
namespace M
noncomputable def ladN (L:List (List Int)):List Nat:=jn 47 (L.map dgs)
noncomputable def zaq (r:List Int) (s:Int):List Nat:=dgs r++[58,dg s]
noncomputable def wdN (Ls:List (List (List Int))) (rows:List (List Int)) (secs:List Int):List (List Nat):=Ls.map ladN++[59]::List.zipWith zaq rows secs
noncomputable def WT (Ls:List (List (List Int))) (rows:List (List Int)) (secs:List Int):List Nat:=jn 32 (wdN Ls rows secs)
theorem jdi:Str.ofString ""=mkS []:=by decide +kernel
theorem qbw:Str.ofString "/"=⟨#[47]⟩:=by decide +kernel
theorem ybw:Str.ofString ":"=⟨#[58]⟩:=by decide +kernel
theorem jbL:Str.ofString ";"=⟨#[59]⟩:=by decide +kernel
theorem qak:Str.ofString " "=⟨#[32]⟩:=by decide +kernel
theorem qbV:∀ x∈([0,1,2,3,4,5,6,7,8,9]:List Int),zK x=mkS [dg x]:=by decide +kernel
theorem qcQ {x:Int} (h:0<=x/\x<10):zK x=mkS [dg x]:=by
 refine qbV x ?_
 have:x=0\/x=1\/x=2\/x=3\/x=4\/x=5\/x=6\/x=7\/x=8\/x=9:=by omega
 rcases this with e | e | e | e | e | e | e | e | e | e<;>subst e<;>decide
theorem zbM:∀ ls:List (List Nat),Str.join (mkS []) (ls.map mkS)=mkS ls.flatten
 | []=>rfl
 | [x]=>by simp [Str.join]
 | x::y::r=>by
  have ih:=zbM (y::r);rw [List.map_cons,List.map_cons,Str.join]
  ·rw [List.map_cons] at ih;rw [ih,zak,zak];simp
  ·intro h;cases h
theorem zdS {xs:List Int} (h:Small xs):tx xs=mkS (dgs xs):=by
 have:xs.map zK=(xs.map λx=>[dg x]).map mkS:=by
  rw [wM];exact vm λx hx=>qcQ (h x hx)
 rw [tx,this,jdi,zbM,dgs];congr 2;clear this h
 induction xs with
 | nil=>rfl
 | cons a r ih=>simpa using ih
theorem qef {L:List (List Int)} (h:LadS L):lx L=mkS (ladN L):=by
 have:L.map tx=(L.map dgs).map mkS:=by
  rw [wM];exact vm λs hs=>zdS (h.s s hs).1
 rw [lx,this,qbw,qa7,ladN]
theorem yef {r:List Int} {s:Int} (h:Small r) (hs:0<=s/\s<10):rx r s=mkS (zaq r s):=by
 rw [rx,zdS h,ybw,qcQ hs,show (⟨#[58]⟩:Str)=mkS [58] from rfl,zak,zak,zaq];simp
section
variable {Ls:List (List (List Int))} {rows:List (List Int)} {secs:List Int}
theorem qdS (T:TabOk Ls rows secs):wds Ls rows secs=(wdN Ls rows secs).map mkS:=by
 have e1:Ls.map lx=(Ls.map ladN).map mkS:=by
  rw [wM];exact vm λL hL=>by obtain ⟨m,l⟩:=T.lad L hL;exact qef l.small
 have e2:List.zipWith rx rows secs=(List.zipWith zaq rows secs).map mkS:=by
  apply List.ext_getElem?;intro i;rw [wz,List.getElem?_zipWith,List.getElem?_zipWith];cases hr:rows[i]? with
  | none=>rfl
  | some r =>
   cases hs:secs[i]? with
   | none=>rfl
   | some s =>
    have q:=T.sec s (wV hs);show some (rx r s)=some (mkS (zaq r s));rw [yef ((T.row r (wV hr)).small T.lad) ⟨q.1,by omega⟩]
 rw [wds,wdN,e1,e2,jbL]
 simp
theorem jbw (T:TabOk Ls rows secs):Str.join (Str.ofString " ") (wds Ls rows secs)=mkS (WT Ls rows secs):=by
 rw [qdS T,qak,qa7,WT]
end
theorem ja7 {xs:List Int} (h:Small xs):zaz (dgs xs)=xs:=by
 rw [zaz,dgs,wM]
 conv=>rhs;rw [<-List.map_id xs]
 exact vm λx hx=>zcn (h x hx)
theorem qbM {l:List Nat} (h:∀ x∈zaz l,0<=x):dgs (zaz l)=l:=by
 rw [zaz,dgs,wM]
 conv=>rhs;rw [<-List.map_id l]
 exact vm λx hx=>zcQ (h _ (List.mem_map_of_mem hx))
theorem yaL {xs:List Int} (h:Small xs):∀ x∈dgs xs,48<=x/\x<=57:=λx hx=>by
 obtain ⟨y,hy,rfl⟩:=wJ.mp hx
 have:=h y hy
 unfold dg;omega
theorem za8 {L:List (List Int)} (h:LadS L):∀ x∈ladN L,x=47\/48<=x/\x<=57:=λx hx=>by
 rcases qbL hx with q | ⟨w,hw,q⟩
 ·exact .inl q
 ·obtain ⟨s,hs,rfl⟩:=wJ.mp hw;exact .inr (yaL (h.s s hs).1 x q)
theorem qa8 {r:List Int} {s:Int} (h:Small r) (hs:0<=s/\s<10):∀ x∈zaq r s,x=58\/48<=x/\x<=57:=λx hx=>by
 rcases List.mem_append.mp hx with q | q
 ·exact .inr (yaL h x q)
 ·simp only [wy,List.not_mem_nil,or_false] at q;rcases q with q | q
  ·exact .inl q
  ·subst q;unfold dg;omega
noncomputable def jW (w:List Nat):List (List Int):=(ja 47 w).map zaz
theorem ydS {L:List (List Int)} (h:LadS L) (hn:L≠[]):jW (ladN L)=L:=by
 rw [jW,ladN,ya7 (by simpa using hn),wM]
 ·conv=>rhs;rw [<-List.map_id L]
  exact vm λs hs=>ja7 (h.s s hs).1
 ·intro w hw z;obtain ⟨s,hs,rfl⟩:=wJ.mp hw
  have:=yaL (h.s s hs).1 _ z
  omega
theorem jdS {w:List Nat} (h:LadS (jW w)):ladN (jW w)=w:=by
 rw [ladN,jW,wM]
 have:(ja 47 w).map (dgs∘zaz)=(ja 47 w).map id:=vm λp hp=>qbM λx hx=>((h.s (zaz p) (List.mem_map_of_mem hp)).1 x hx).1
 rw [this,List.map_id,zaB]
def wfW (w:List Nat):Prop:=∃ a s,ja 58 w=[a,[s]]
theorem jef {r:List Int} {s:Int} (h:Small r) (hs:0<=s/\s<10):ja 58 (zaq r s)=[dgs r,[dg s]]:=by
 rw [zaq,jat,zau]
 ·intro z;rw [vd] at z;unfold dg at z;omega
 ·intro z;have:=yaL h _ z;omega
theorem zdj {w a:List Nat} {s:Nat} (h:ja 58 w=[a,[s]]):w=a++[58,s]:=by
 rw [<-zaB 58 w,h];rfl
noncomputable def qau (w:List Nat):List Int:=zaz ((ja 58 w).headD [])
noncomputable def yau (w:List Nat):Int:=match ja 58 w with | [_,[s]]=>fig s | _=>-1
theorem zcH {w:List Nat} (h:wfW w) (h1:Small (qau w)) (h2:0<=yau w):zaq (qau w) (yau w)=w:=by
 obtain ⟨a,s,e⟩:=h;have e1:qau w=zaz a:=by rw [qau,e];rfl
 have e2:yau w=fig s:=by rw [yau,e]
 rw [e1] at h1 ⊢;rw [e2] at h2 ⊢;rw [zaq,qbM λx hx=>(h1 x hx).1,zcQ h2];exact (zdj e).symm
section
variable {Ls:List (List (List Int))} {rows:List (List Int)} {secs:List Int}
theorem TabOk.rowS (T:TabOk Ls rows secs):∀ r∈rows,Small r:=λr hr=>(T.row r hr).small T.lad
theorem TabOk.secS (T:TabOk Ls rows secs):∀ s∈secs,0<=s/\s<10:=λs hs=>⟨(T.sec s hs).1,by have:=(T.sec s hs).2;omega⟩
theorem TabOk.ladS (T:TabOk Ls rows secs):∀ L∈Ls,LadS L/\L≠[]:=λL hL=>by
 obtain ⟨m,l⟩:=T.lad L hL;exact ⟨l.small,λz=>by have:=l.ne;rw [z] at this;exact absurd this (by decide)⟩
theorem jaL {w:List Nat}:∀ {rows:List (List Int)} {secs:List Int},w∈List.zipWith zaq rows secs->∃ r∈rows,∃ s∈secs,w=zaq r s
 | [],_,h=>by cases h
 | _::_,[],h=>by cases h
 | r::rows,s::secs,h=>by
  rw [List.zipWith_cons_cons,wy] at h;rcases h with rfl | h
  ·exact ⟨r,.head _,s,.head _,rfl⟩
  ·obtain ⟨r',h1,s',h2,e⟩:=jaL h;exact ⟨r',.tail _ h1,s',.tail _ h2,e⟩
theorem qcn (T:TabOk Ls rows secs):ja 32 (WT Ls rows secs)=wdN Ls rows secs:=by
 refine ya7 (by rw [wdN];simp) λw hw z=>?_
 rw [wdN,List.mem_append,wy] at hw;rcases hw with h | h | h
 ·obtain ⟨L,hL,rfl⟩:=wJ.mp h
  have:=za8 (T.ladS L hL).1 _ z
  omega
 ·subst h;simp at z
 ·obtain ⟨r,hr,s,hs,rfl⟩:=jaL h
  have:=qa8 (T.rowS r hr) (T.secS s hs) _ z
  omega
theorem ybM (T:TabOk Ls rows secs):[59]∉Ls.map ladN:=λz=>by
 obtain ⟨L,hL,e⟩:=wJ.mp z
 have:=za8 (T.ladS L hL).1 59 (by rw [e];exact .head _)
 omega
theorem qcH (T:TabOk Ls rows secs):[59]∉List.zipWith zaq rows secs:=λz=>by
 obtain ⟨r,hr,s,hs,e⟩:=jaL z
 have:=qa8 (T.rowS r hr) (T.secS s hs) 59 (by rw [<-e];exact .head _)
 omega
theorem ybl (T:TabOk Ls rows secs):(Ls.map ladN).map jW=Ls:=by
 rw [wM]
 conv=>rhs;rw [<-List.map_id Ls]
 exact vm λL hL=>ydS (T.ladS L hL).1 (T.ladS L hL).2
theorem ycQ {r:List Int} {s:Int} (h:Small r) (hs:0<=s/\s<10):qau (zaq r s)=r/\yau (zaq r s)=s/\wfW (zaq r s):=by
 have e:=jef h hs;refine ⟨?_,?_,_,_,e⟩
 ·rw [qau,e];exact ja7 h
 ·rw [yau,e];exact zcn hs
theorem jbl:∀ {rows:List (List Int)} {secs:List Int},secs.length=rows.length->(∀ r∈rows,Small r)->(∀ s∈secs,0<=s/\s<10)->(List.zipWith zaq rows secs).map qau=rows/\(List.zipWith zaq rows secs).map yau=secs
 | [],[],_,_,_=>⟨rfl,rfl⟩
 | [],_::_,h,_,_=>by cases h
 | _::_,[],h,_,_=>by cases h
 | r::rows,s::secs,h,h1,h2=>by
  obtain ⟨e1,e2⟩:=jbl (rows:=rows) (secs:=secs) (by simpa using h) (λr hr=>h1 r (.tail _ hr)) λs hs=>h2 s (.tail _ hs)
  have q:=ycQ (h1 r (.head _)) (h2 s (.head _));rw [List.zipWith_cons_cons,List.map_cons,List.map_cons,e1,e2,q.1,q.2.1];exact ⟨rfl,rfl⟩
end
theorem jbM:∀ {B:List (List Nat)},(∀ w∈B,wfW w/\Small (qau w)/\0<=yau w)->List.zipWith zaq (B.map qau) (B.map yau)=B
 | [],_=>rfl
 | w::B,h=>by
  obtain ⟨h1,h2,h3⟩:=h w (.head _);rw [List.map_cons,List.map_cons,List.zipWith_cons_cons,zcH h1 h2 h3,jbM λv hv=>h v (.tail _ hv)]
theorem ycH {A B:List (List Nat)} (T:TabOk (A.map jW) (B.map qau) (B.map yau)) (hw:∀ w∈B,wfW w):wdN (A.map jW) (B.map qau) (B.map yau)=A++[59]::B:=by
 rw [wdN,jbM,wM]
 ·congr 1
  conv=>rhs;rw [<-List.map_id A]
  exact vm λw hw=>jdS (T.ladS _ (List.mem_map_of_mem hw)).1
 ·exact λw hB=>⟨hw w hB,T.rowS _ (List.mem_map_of_mem hB),(T.secS _ (List.mem_map_of_mem hB)).1⟩
end M
end
section
open PySem Eng LG K03
namespace M
theorem yE {C:Tab} {ρ:En} {a b:Eng.Code} {x y d:D} {f:Blt} (h1:ev C a ρ=some x) (h2:ev C b ρ=some y) (h3:yJ f [x,y]=some d):ev C (.blt f (.cons a (.cons b .nil))) ρ=some d:=by
 rw [zA,zi,h1,we,zi,h2,we,jo];exact h3
theorem zeg {C:Tab} {ρ:En} {a:Eng.Code} {x:D} {ds:List D} (h1:ev C a ρ=some x) (h2:qdv x=some ds):evI C (.chr a) ρ=some ds:=by
 show (ev C a ρ).bind qdv=_;rw [h1];exact h2
structure Txo (l:List Nat):Prop where
 asc:∀ x∈l,x<128
 len:l.length<=50000
theorem Txo.sub {l m:List Nat} (h:Txo l) (h1:∀ x∈m,x∈l) (h2:m.length<=l.length):Txo m:=⟨λx hx=>h.asc x (h1 x hx),wU h2 h.len⟩
theorem Txo.part {l : List Nat} (h : Txo l) (c : Nat) : ∀ w ∈ ja c l, Txo w := λw hw => h.sub (qae hw) (by
 have a:=ydR hw;have b:=jaf c l;omega)
theorem zdT {l:List Nat} (h:Txo l):qdv (.str (mkS l))=some (l.map λc=>.str ⟨#[c]⟩):=by
 have h2:(mkS l).cps.all (·<128)=true:=by
  rw [<-Array.all_toList,qB,List.all_eq_true];exact λx hx=>decide_eq_true (h.asc x hx)
 show (if (mkS l).length<=50000/\(mkS l).cps.all (·<128)=true then some ((mkS l).cps.toList.map λc=>D.str ⟨#[c]⟩) else none)=_;rw [zB,qB,if_pos ⟨h.len,h2⟩]
theorem jI {α:Type} {f:D->Option (Option D)} {e:α->D} {g:α->D}:∀ (xs:List α),(∀ x∈xs,f (e x)=some (some (g x)))->gather f (xs.map e)=some (xs.map g)
 | [],_=>rfl
 | x::xs,h=>by
  rw [List.map_cons,gather,h x (by simp),we,jI xs λy hy=>h y (by simp [hy])];rfl
noncomputable abbrev jev:Eng.Code:=.blt .find (.cons (.cst (.str (Str.ofString "0123456789"))) (.cons (.var 0) .nil))
theorem qdj (C:Tab) {l:List Nat} (h:Txo l) (ρ:En) (keep:List Nat):gather (turn C jev (.one 0) 1 keep .none ρ) (l.map λc=>D.str ⟨#[c]⟩)=some (eI (zaz l)):=by
 rw [eI,zaz,wM];refine jI l λc hc=>?_
 simp only [turn,zaa,yg,List.replicate,List.cons_append,List.nil_append,EA,qw,zx,qv,qm,jm,yn,zR,qN,jb,ye,we,Option.map_some,Option.bind_none,Option.map_none,if_true,if_false,↓reduceIte,and_self,Bool.not_true,Bool.not_false,wq,Int.reduceLT,Int.reduceLE,Int.reduceNeg,Nat.reduceMul,Nat.reduceAdd,Nat.reduceLeDiff,List.length_cons,List.length_nil,List.set,true_and,and_true,zc,zo,qc,yc,jc,qd,qa,ya,yd];show ((some (D.int (Txt.find _ _))).bind λx=>some (some x))=_;rw [ybL (h.asc c hc)];rfl
theorem zaM (C:Tab) {l:List Nat} (h:Txo l):zN C yaw [.str (mkS l)]=some (tI (zaz l)) :=
 jg rfl (jh (yw (zM (zeg (x:=.str (mkS l)) rfl (zdT h)) (qdj C h _ _)) rfl))
theorem zbx (C:Tab) {l:List Nat} (h:Txo l):zN C jao [.str (mkS l)]=some (tI (zaz l)):=zaM C h
noncomputable abbrev wD (ws:List (List Nat)):List D:=ws.map λw=>D.str (mkS w)
theorem qL {n:Nat} (h:n<=1000000):n<=sizeLine:=wU h (by decide)
theorem yak {l:List Nat} (h:Txo l) {c:Nat} (hc:c<256):yJ .split [.str (mkS l),.str ⟨#[c]⟩]=some (.lst (wD (ja c l))):=by
 show (if (⟨#[c]⟩:Str).length=1/\(mkS l).length+2<=sizeLine/\(Txt.split (mkS l) ⟨#[c]⟩).length<=sizeLine then some (D.lst ((Txt.split (mkS l) ⟨#[c]⟩).map D.str)) else none)=_;rw [zbL l c hc,if_pos,wM]
 ·rfl
 ·have a:=qbl (ja c l);have b:=jaf c l;have d:=h.len;refine ⟨rfl,qL (by rw [zB];omega),qL (by simp;omega)⟩
theorem ya8 (C:Tab) {w:List Nat} (h:Txo w) (h21:∀ l,Txo l->C 21 [.str (mkS l)]=some (tI (zaz l))):zN C jaJ [.str (mkS w)]=some (eL (jW w)):=by
 refine jg rfl (jh (yw (zM (zQ (yE (x:=.str (mkS w)) rfl rfl (by rw [qbw];exact yak h (by decide))) rfl) (rs:=(jW w).map tI) ?_) rfl));rw [jW,wM];refine jI _ λp hp=>?_
 simp only [turn,zaa,yg,List.replicate,List.cons_append,List.nil_append,EA,qw,zx,qv,qm,jm,yn,zR,qN,jb,ye,we,Option.map_some,Option.bind_none,Option.map_none,if_true,if_false,↓reduceIte,and_self,Bool.not_true,Bool.not_false,wq,Int.reduceLT,Int.reduceLE,Int.reduceNeg,Nat.reduceMul,Nat.reduceAdd,Nat.reduceLeDiff,List.length_cons,List.length_nil,List.set,true_and,and_true,zc,zo,qc,yc,jc,qd,qa,ya,yd,h21 p (h.part 47 p hp)];rfl
noncomputable def pA (w:List Nat):List Nat:=(Txt.partition (mkS w) ⟨#[58]⟩).1.cps.toList
noncomputable def zbm (w:List Nat):List Int:=zaz (pA w)
noncomputable def qbm (w:List Nat):Int:=Txt.find (Str.ofString "0123456789") (Txt.partition (mkS w) ⟨#[58]⟩).2.2
theorem jcQ {w:List Nat} (h:Txo w):yJ .part [.str (mkS w),.str (Str.ofString ":")]=some (.tup [.str (mkS (pA w)),.str (Txt.partition (mkS w) ⟨#[58]⟩).2.1,.str (Txt.partition (mkS w) ⟨#[58]⟩).2.2]):=by
 rw [ybw];show (if (⟨#[58]⟩:Str).length=1/\(mkS w).length<=sizeLine then some (D.tup [.str (Txt.partition (mkS w) ⟨#[58]⟩).1,.str (Txt.partition (mkS w) ⟨#[58]⟩).2.1,.str (Txt.partition (mkS w) ⟨#[58]⟩).2.2]) else none)=_;rw [if_pos ⟨rfl,qL (by rw [zB];have:=h.len;omega)⟩,pA,<-jaX]
theorem ybV (C:Tab) {w:List Nat} (h:Txo w) (h21:∀ l,Txo l->C 21 [.str (mkS l)]=some (tI (zaz l))):zN C jbI [.str (mkS w)]=some (tI (zbm w)):=by
 have hp:Txo (pA w):=by
  obtain ⟨a,e,h1,h2⟩:=jcG w ⟨#[58]⟩;rw [pA,e,qB];exact h.sub h2 h1
 exact jg rfl (jh (yq (x:=.str (mkS (pA w))) (jy (yE (x:=.str (mkS w)) rfl rfl (jcQ h)) rfl rfl) (h21 _ hp)))
theorem ja8 (C:Tab) {w:List Nat} (h:Txo w):zN C zaK [.str (mkS w)]=some (.int (qbm w)) :=
 jg rfl (jh (yE (y:=.str (Txt.partition (mkS w) ⟨#[58]⟩).2.2) rfl (jy (yE (x:=.str (mkS w)) rfl rfl (jcQ h)) rfl rfl) rfl))
theorem qdT {r:List Int} {s:Int} (h:Small r) (hs:0<=s/\s<10):zbm (zaq r s)=r/\qbm (zaq r s)=s:=by
 have e:=ycG (c:=58) (a:=dgs r) (b:=[dg s]) (λz=>by have:=yaL h _ z;omega);rw [show dgs r++58::[dg s]=zaq r s from rfl] at e;refine ⟨?_,?_⟩
 ·rw [zbm,pA,e,qB];exact ja7 h
 ·rw [qbm,e];exact (ybL (by unfold dg;omega)).trans (zcn hs)
theorem zcR:∀ {rows:List (List Int)} {secs:List Int},secs.length=rows.length->(∀ r∈rows,Small r)->(∀ s∈secs,0<=s/\s<10)->(List.zipWith zaq rows secs).map zbm=rows/\(List.zipWith zaq rows secs).map qbm=secs
 | [],[],_,_,_=>⟨rfl,rfl⟩
 | [],_::_,h,_,_=>by cases h
 | _::_,[],h,_,_=>by cases h
 | r::rows,s::secs,h,h1,h2=>by
  obtain ⟨e1,e2⟩:=zcR (rows:=rows) (secs:=secs) (by simpa using h) (λr hr=>h1 r (.tail _ hr)) λs hs=>h2 s (.tail _ hs)
  have q:=qdT (h1 r (.head _)) (h2 s (.head _));rw [List.zipWith_cons_cons,List.map_cons,List.map_cons,e1,e2,q.1,q.2];exact ⟨rfl,rfl⟩
theorem qcR {xs:List D} {k:Nat}:cutD xs none (some (k:Int))=xs.take k:=by
 simp only [cutD,sIx];rw [if_neg (by omega),List.drop_zero,wX,Nat.sub_zero,List.take_eq_take_iff];omega
theorem zbN {xs:List D} {k:Nat}:cutD xs (some (k:Int)) none=xs.drop k:=by
 simp only [cutD,sIx];rw [if_neg (by omega),wX]
 by_cases h:k<=xs.length
 ·rw [Nat.min_eq_left h];exact List.take_of_length_le (by simp)
 ·rw [Nat.min_eq_right (by omega),List.drop_length,List.drop_eq_nil_of_le (by omega),List.take_nil]
theorem ycn {A B:List (List Nat)} {c:List Nat} (h:c∉A):zct (mkS c) ((A++c::B).map mkS)=some A.length:=by
 induction A with
 | nil=>simp [zct]
 | cons a r ih =>
  rw [wy,not_or] at h;rw [List.cons_append,List.map_cons,zct,if_neg (λe=>h.1 (za7 e).symm),ih h.2];rfl
theorem qbx (ws:List (List Nat)):strsOf (wD ws)=some (ws.map mkS):=by
 have:=yaX (ws.map mkS)
 rwa [wM] at this
theorem ycR {A B : List (List Nat)} (h : [59] ∉ A) : yJ .lidx [.lst (wD (A ++ [59] :: B)), .str (Str.ofString ";")] = some (.int (A.length : Int)) := by
 rw [jbL];show ((strsOf (wD (A++[59]::B))).bind λts=>(zct (mkS [59]) ts).map λ(i:Nat)=>D.int (i:Int))=_;rw [qbx,we,ycn h];rfl
theorem jcn (ws : List (List Nat)) : yJ .lcnt [.lst (wD ws), .str (Str.ofString ";")] = some (.int ((ws.countP λw => decide (w = [59]) : Nat) : Int)) := by
 rw [jbL];show ((strsOf (wD ws)).map λts=>D.int ((ts.countP λz=>decide (z=mkS [59]):Nat):Int))=_;rw [qbx,Option.map_some,List.countP_map];congr 3;apply congrFun;congr 1;funext w;simp only [Function.comp];exact decide_eq_decide.mpr ⟨za7,λe=>by rw [e]⟩
theorem ydT {l:List Nat} (h:Txo l):noS (.str (mkS l))=true:=by
 show (mkS l).cps.all (·<0x110000)=true;rw [<-Array.all_toList,qB,List.all_eq_true];exact λx hx=>decide_eq_true (Nat.lt_trans (h.asc x hx) (by decide))
theorem jdT {z:Str} {y:D} (h:noS (.str z)=true) (hy:noS y=true):jak (.str z) y=true:=by simp [jak,h,hy,dep]
theorem ybx {ws : List (List Nat)} (h : ∀ w ∈ ws, Txo w) : zV .NotIn (.str (Str.ofString ";")) (.lst (wD ws)) = some (!decide ([59] ∈ ws)) := by
 have e : jak (.str (Str.ofString ";")) (.lst (wD ws)) = true := by
  refine jdT ?_ ?_
  ·decide +kernel
  ·exact jas λd hd=>by obtain ⟨w,hw,rfl⟩:=wJ.mp hd;exact ydT (h w hw)
 have q : ∀ vs : List (List Nat), inD (.str (Str.ofString ";")) (wD vs) = decide ([59] ∈ vs) := λvs => by
  induction vs with
  | nil=>rfl
  | cons a r ih =>
   show (eqD (.str (mkS a)) (.str (Str.ofString ";"))||inD _ (wD r))=_;rw [ih,jbL,show eqD (.str (mkS a)) (.str ⟨#[59]⟩)=decide (mkS a=mkS [59]) from rfl];rw [vh];simp only [Bool.or_eq_true,wI,wy];exact or_congr ⟨λz=>(za7 z).symm,λz=>by rw [z]⟩ Iff.rfl
 show ((if jak (.str (Str.ofString ";")) (.lst (wD ws))=true then some (inD (.str (Str.ofString ";")) (wD ws)) else none)).map not=_;rw [if_pos e,q];rfl
theorem ybm (C:Tab) {A B:List (List Nat)} (hA:∀ w∈A,Txo w) (hB:∀ w∈B,Txo w) (hs:[59]∉A) (h22:∀ w,Txo w->C 22 [.str (mkS w)]=some (eL (jW w))) (h23:∀ w,Txo w->C 23 [.str (mkS w)]=some (tI (zbm w))) (h24:∀ w,Txo w->C 24 [.str (mkS w)]=some (.int (qbm w))) :
  zN C yaW [.lst (wD (A++[59]::B))]=some (eT (A.map jW) (B.map zbm) (B.map qbm)):=by
 have g1:∀ ρ keep,gather (turn C (.call 22 (.cons (.var 0) .nil)) (.one 0) 1 keep .none ρ) (wD A)=some ((A.map jW).map eL):=λρ keep=>by
  rw [wM];refine jI _ λw hw=>?_
  simp only [turn,zaa,yg,List.replicate,List.cons_append,List.nil_append,EA,qw,zx,qv,qm,jm,yn,zR,qN,jb,ye,we,Option.map_some,Option.bind_none,Option.map_none,if_true,if_false,↓reduceIte,and_self,Bool.not_true,Bool.not_false,wq,Int.reduceLT,Int.reduceLE,Int.reduceNeg,Nat.reduceMul,Nat.reduceAdd,Nat.reduceLeDiff,List.length_cons,List.length_nil,List.set,true_and,and_true,zc,zo,qc,yc,jc,qd,qa,ya,yd,h22 w (hA w hw)];rfl
 have g2:∀ ρ keep,gather (turn C (.call 23 (.cons (.var 0) .nil)) (.one 0) 1 keep .none ρ) (wD B)=some ((B.map zbm).map tI):=λρ keep=>by
  rw [wM];refine jI _ λw hw=>?_
  simp only [turn,zaa,yg,List.replicate,List.cons_append,List.nil_append,EA,qw,zx,qv,qm,jm,yn,zR,qN,jb,ye,we,Option.map_some,Option.bind_none,Option.map_none,if_true,if_false,↓reduceIte,and_self,Bool.not_true,Bool.not_false,wq,Int.reduceLT,Int.reduceLE,Int.reduceNeg,Nat.reduceMul,Nat.reduceAdd,Nat.reduceLeDiff,List.length_cons,List.length_nil,List.set,true_and,and_true,zc,zo,qc,yc,jc,qd,qa,ya,yd,h23 w (hB w hw)];rfl
 have g3:∀ ρ keep,gather (turn C (.call 24 (.cons (.var 0) .nil)) (.one 0) 1 keep .none ρ) (wD B)=some (eI (B.map qbm)):=λρ keep=>by
  rw [eI,wM];refine jI _ λw hw=>?_
  simp only [turn,zaa,yg,List.replicate,List.cons_append,List.nil_append,EA,qw,zx,qv,qm,jm,yn,zR,qN,jb,ye,we,Option.map_some,Option.bind_none,Option.map_none,if_true,if_false,↓reduceIte,and_self,Bool.not_true,Bool.not_false,wq,Int.reduceLT,Int.reduceLE,Int.reduceNeg,Nat.reduceMul,Nat.reduceAdd,Nat.reduceLeDiff,List.length_cons,List.length_nil,List.set,true_and,and_true,zc,zo,qc,yc,jc,qd,qa,ya,yd,h24 w (hB w hw)];rfl
 have e1:(wD (A++[59]::B)).drop (A.length+1)=wD B:=by
  rw [wD,List.map_append,List.map_cons,show ∀ (p q:List D) (x:D),p++x::q=(p++[x])++q from λp q x=>by simp];exact List.drop_left' (by simp)
 have e2:(wD (A++[59]::B)).take A.length=wD A:=by
  rw [wD,List.map_append];exact List.take_left' (by simp)
 refine jg rfl ?_;refine yt (d:=.int (A.length:Int)) (yE (x:=.lst (wD (A++[59]::B))) rfl rfl (ycR hs)) rfl ?_;refine yt (d:=.lst (wD B)) (qaa (x:=.lst (wD (A++[59]::B))) (l:=some ((A.length+1:Nat):Int)) (h:=none) rfl (yx (jG (x:=.int (A.length:Int)) rfl rfl rfl)) rfl ?_) rfl ?_
 ·show some (D.lst (cutD _ _ _))=_;rw [zbN,e1]
 refine yt (d:=.tup ((A.map jW).map eL)) (yw (zM (zQ (qaa (x:=.lst (wD (A++[59]::B))) (l:=none) (h:=some (A.length:Int)) rfl rfl (yx rfl) rfl) rfl) (by rw [qcR,e2];exact g1 _ _)) rfl) rfl ?_;refine yt (d:=.tup ((B.map zbm).map tI)) (yw (zM (zQ (x:=.lst (wD B)) rfl rfl) (g2 _ _)) rfl) rfl ?_;refine yt (d:=tI (B.map qbm)) (yw (zM (zQ (x:=.lst (wD B)) rfl rfl) (g3 _ _)) rfl) rfl ?_;exact jh (zcj (zu rfl (zu rfl (zu rfl zah))) (by simp))
end M
end
section
open PySem Eng LG K03
namespace M
theorem jbx {C:Tab} {ρ:List Sl} {c:Eng.Code} {r:Stms} {x:Option Fl} (h:ev C c (vA ρ)=some (.bl false)) (h2:exs C r ρ=x):exs C (.rsg c r) ρ=x:=by
 rw [exs,h];exact h2
theorem zby {C:Tab} {ρ:List Sl} {c:Eng.Code} {r:Stms} (h:ev C c (vA ρ)=some (.bl true)):exs C (.rsg c r) ρ=some .xc:=by
 rw [exs,h];rfl
theorem zdU {Ls Ls':List (List (List Int))} {rows rows':List (List Int)} {secs secs':List Int} (h:eT Ls rows secs=eT Ls' rows' secs'):Ls=Ls'/\rows=rows'/\secs=secs':=by
 simp only [eT,D.tup.injEq,List.cons.injEq,and_true] at h;exact ⟨qa6 h.1,ya5 h.2.1,jad h.2.2⟩
theorem tabP_iff {Ls:List (List (List Int))} {rows:List (List Int)} {secs:List Int}:jbW (eT Ls rows secs)↔TabOk Ls rows secs:=by
 refine ⟨λ⟨a,b,c,e,T⟩=>?_,λT=>⟨_,_,_,rfl,T⟩⟩;obtain ⟨rfl,rfl,rfl⟩:=zdU e;exact T
theorem jZ (Ls:List (List (List Int))) (rows:List (List Int)) (secs:List Int):noS (eT Ls rows secs)=true:=by
 refine jas λd hd=>?_
 simp only [wy,List.not_mem_nil,or_false] at hd;rcases hd with rfl | rfl | rfl
 ·exact jas λd hd=>by obtain ⟨L,_,rfl⟩:=wJ.mp hd;exact ydP L
 ·exact jas λd hd=>by obtain ⟨L,_,rfl⟩:=wJ.mp hd;exact qbI L
 ·exact qbI secs
theorem zco:∀ Ls:List (List (List Int)),jaC (Ls.map eL)=true
 | []=>rfl
 | L::r=>by rw [List.map_cons,jaC,zdP,zco r];rfl
theorem ne_str {a b:Str}:zV .NotEq (.str a) (.str b)=some (!(a==b)):=rfl
def IsW (l:List Nat):Prop:=∃ Ls rows secs,TabOk Ls rows secs/\l=WT Ls rows secs
theorem jcH (C:Tab) {l:List Nat} (h:Txo l) (h25:∀ A B,(∀ w∈A,Txo w)->(∀ w∈B,Txo w)->[59]∉A->C 25 [.lst (wD (A++[59]::B))]=some (eT (A.map jW) (B.map zbm) (B.map qbm)))
  (h16:∀ d,noS d=true->C 16 [d]=some (.bl (dB (jbW d)))) (h20:∀ Ls rows secs,TabOk Ls rows secs->C 20 [eT Ls rows secs]=some (.str (mkS (WT Ls rows secs)))) :
  (∀ Ls rows secs,TabOk Ls rows secs->l=WT Ls rows secs->zN C ycj [.str (mkS l)]=some (eT Ls rows secs))/\(¬ IsW l->zN C ycj [.str (mkS l)]=some (.grp [])):=by
 have part:=h.part 32;have wd:∀ ρ:En,ρ[0]?=some (some (.str (mkS l)))->ev C (.blt .split (.cons (.var 0) (.cons (.cst (.str (Str.ofString " "))) .nil))) ρ=some (.lst (wD (ja 32 l))):=λρ r0=>yE (x:=.str (mkS l)) (by rw [jw,r0];rfl) rfl (by rw [qak];exact yak h (by decide))
 refine ⟨λLs rows secs T e=>?_,λhn=>?_⟩
 ·have ew:ja 32 l=Ls.map ladN++[59]::List.zipWith zaq rows secs:=by rw [e];exact qcn T
  have eb:=zcR T.sl T.rowS T.secS;have ht:=h25 (Ls.map ladN) (List.zipWith zaq rows secs) (λw hw=>part w (by rw [ew];simp [hw])) (λw hw=>part w (by rw [ew];simp [hw])) (ybM T);rw [ybl T,eb.1,eb.2,<-ew] at ht;refine jg rfl ?_;refine yt (d:=.lst (wD (ja 32 l))) (wd _ rfl) rfl ?_;refine jbx (zw (k:=false) rfl rfl ?_) ?_
  ·rw [ybx part,ew];simp
  refine yt (d:=eT Ls rows secs) (yq (x:=.lst (wD (ja 32 l))) rfl ht) rfl ?_;refine jbx (qR (qz (x:=.bl true) (yq (x:=eT Ls rows secs) rfl ?_) rfl) (zw (k:=false) (x:=.str (mkS (WT Ls rows secs))) (y:=.str (mkS l)) (yq (x:=eT Ls rows secs) rfl (h20 _ _ _ T)) rfl ?_)) ?_
  ·rw [h16 _ (jZ _ _ _),dB_iff.mpr (tabP_iff.mpr T)]
  ·rw [ne_str,e];simp
  ·exact jh rfl
 ·refine qcX rfl ?_;refine yt (d:=.lst (wD (ja 32 l))) (wd _ rfl) rfl ?_
  by_cases hm:[59]∈ja 32 l
  ·obtain ⟨A,B,ew,hA⟩:=List.eq_append_cons_of_mem hm;have ht:=h25 A B (λw hw=>part w (by rw [ew];simp [hw])) (λw hw=>part w (by rw [ew];simp [hw])) hA;rw [<-ew] at ht;refine jbx (zw (k:=false) rfl rfl ?_) ?_
   ·rw [ybx part];simp [hm]
   refine yt (d:=eT (A.map jW) (B.map zbm) (B.map qbm)) (yq (x:=.lst (wD (ja 32 l))) rfl ht) rfl ?_
   by_cases hT:TabOk (A.map jW) (B.map zbm) (B.map qbm)
   ·refine zby (qR (qz (x:=.bl true) (yq (x:=eT (A.map jW) (B.map zbm) (B.map qbm)) rfl ?_) rfl) (zw (k:=true) (y:=.str (mkS l)) (yq (x:=eT (A.map jW) (B.map zbm) (B.map qbm)) rfl (h20 _ _ _ hT)) rfl ?_))
    ·rw [h16 _ (jZ _ _ _),dB_iff.mpr (tabP_iff.mpr hT)]
    ·rw [ne_str]
     have:mkS (WT (A.map jW) (B.map zbm) (B.map qbm))≠mkS l:=λz=>hn ⟨_,_,_,hT,(za7 z).symm⟩
     simp [w6.mpr this]
   ·refine zby (yas (qz (x:=.bl false) (yq (x:=eT (A.map jW) (B.map zbm) (B.map qbm)) rfl ?_) rfl));rw [h16 _ (jZ _ _ _),dB_no.mpr (λz=>hT (tabP_iff.mp z))]
  ·refine zby (zw (k:=true) rfl rfl ?_);rw [ybx part];simp [hm]
noncomputable abbrev DSt (l:List Nat) (ws A:List (List Nat)) (rs:List (List Int)) (ss:List Int) (r:List Sl):List Sl:=[.pu (.str (mkS l)),.pu (.lst (wD ws)),.pu (.int (A.length:Int)),.pu (.lst ((A.map jW).map eL)),.ow (rs.map tI),.ow (eI ss)]++r
theorem zcI (C:Tab) (h32:∀ l,Txo l->C 32 [.str (mkS l)]=some (tI (zaz l))) {l:List Nat} {ws A:List (List Nat)} {rs:List (List Int)} {ss:List Int} {w:List Nat} (h:Txo w) {x7:Sl} (h1:rs.length<=100000) (h2:ss.length<=100000) :
  (wfW w/\∃ y7,exs C ju (DSt l ws A rs ss [.pu (.str (mkS w)),x7,.un])=some (.nx (DSt l ws A (rs++[qau w]) (ss++[yau w]) [.pu (.str (mkS w)),y7,.un]))) \/
  (¬ wfW w/\exs C ju (DSt l ws A rs ss [.pu (.str (mkS w)),x7,.un])=some (.rt .non)):=by
 have sp:yJ .split [.str (mkS w),.str (Str.ofString ":")]=some (.lst (wD (ja 58 w))):=by rw [ybw];exact yak h (by decide)
 have part:=h.part 58
 by_cases hl:(ja 58 w).length=2
 ·obtain ⟨a,b,e⟩:∃ a b,ja 58 w=[a,b]:=by
   match ja 58 w,hl with
   | [a,b],_=>exact ⟨a,b,rfl⟩
  rw [e] at sp part;have hb:=part b (by simp);have ha:=part a (by simp)
  have tl:yJ .len [.str (mkS b)]=some (.int (b.length:Int)):=by
   rw [jb (qL (by rw [zB];have:=hb.len;omega)),zB]
  by_cases hb1:b.length=1
  ·obtain ⟨s,rfl⟩:∃ s,b=[s]:=by
    match b,hb1 with
    | [s],_=>exact ⟨s,rfl⟩
   have er:qau w=zaz a:=by rw [qau,e];rfl
   have es:yau w=fig s:=by rw [yau,e]
   refine .inl ⟨⟨a,s,e⟩,.pu (.lst (wD [a,[s]])),?_⟩;refine yt (d:=.lst (wD [a,[s]])) (yE (x:=.str (mkS w)) rfl rfl sp) rfl ?_;refine qr (qR (zw (k:=false) (x:=.int ((2:Nat):Int)) (y:=.int 2) rfl rfl rfl) (zw (k:=false) (x:=.int ((1:Nat):Int)) (y:=.int 1) (yw (x:=.str (mkS [s])) (jy (x:=.lst (wD [a,[s]])) rfl rfl rfl) tl) rfl rfl)) ?_;refine yal (d:=tI (zaz a)) (ds:=rs.map tI) (yq (x:=.str (mkS a)) (jy (x:=.lst (wD [a,[s]])) rfl rfl rfl) (h32 a ha)) rfl ?_ ?_
   ·rw [wG];exact Nat.lt_of_le_of_lt h1 (by decide)
   refine yal (d:=.int (fig s)) (ds:=eI ss) (jy (x:=tI (zaz [s])) (yq (x:=.str (mkS [s])) (jy (x:=.lst (wD [a,[s]])) rfl rfl rfl) (h32 _ hb)) rfl rfl) rfl ?_ ?_
   ·rw [yf];exact Nat.lt_of_le_of_lt h2 (by decide)
   rw [yR,er,es];simp [DSt,eI]
  ·refine .inr ⟨λ⟨a',s,e'⟩=>hb1 ?_,?_⟩
   ·rw [e] at e';simp only [List.cons.injEq,and_true] at e';rw [e'.2];rfl
   refine yt (d:=.lst (wD [a,b])) (yE (x:=.str (mkS w)) rfl rfl sp) rfl ?_;refine qaj (qR (zw (k:=false) (x:=.int ((2:Nat):Int)) (y:=.int 2) rfl rfl rfl) (zw (k:=true) (x:=.int (b.length:Int)) (y:=.int ((1:Nat):Int)) (yw (x:=.str (mkS b)) (jy (x:=.lst (wD [a,b])) rfl rfl rfl) tl) rfl ?_)) (jh rfl);rw [q9,vp hb1];rfl
 ·refine .inr ⟨λ⟨a',s,e'⟩=>hl (by rw [e'];rfl),?_⟩;refine yt (d:=.lst (wD (ja 58 w))) (yE (x:=.str (mkS w)) rfl rfl sp) rfl ?_;refine qaj (yas (zw (k:=true) (x:=.int ((ja 58 w).length:Int)) (y:=.int ((2:Nat):Int)) (yw (x:=.lst (wD (ja 58 w))) rfl ?_) rfl ?_)) (jh rfl)
  ·rw [yi,wG]
  ·rw [q9,vp hl];rfl
theorem qbN (C:Tab) (h32:∀ l,Txo l->C 32 [.str (mkS l)]=some (tI (zaz l))) {l:List Nat} {ws A:List (List Nat)}:∀ (B:List (List Nat)) (rs:List (List Int)) (ss:List Int) (x6 x7:Sl),(∀ w∈B,Txo w)->rs.length+B.length<=100000->ss.length+B.length<=100000 ->
  ((∀ w∈B,wfW w)/\∃ y6 y7,forL (λd ρ'=>(puT (.one 6) d ρ').bind λρ''=>exs C ju ρ'') (wD B) (DSt l ws A rs ss [x6,x7,.un])=some (.nx (DSt l ws A (rs++B.map qau) (ss++B.map yau) [y6,y7,.un]))) \/
  ((¬ ∀ w∈B,wfW w)/\forL (λd ρ'=>(puT (.one 6) d ρ').bind λρ''=>exs C ju ρ'') (wD B) (DSt l ws A rs ss [x6,x7,.un])=some (.rt .non))
 | [],rs,ss,x6,x7,_,_,_=>.inl ⟨(λw hw=>by cases hw),x6,x7,by simp [forL]⟩
 | w::B,rs,ss,x6,x7,h,h1,h2=>by
  have go:forL (λd ρ'=>(puT (.one 6) d ρ').bind λρ''=>exs C ju ρ'') (wD (w::B)) (DSt l ws A rs ss [x6,x7,.un])=(exs C ju (DSt l ws A rs ss [.pu (.str (mkS w)),x7,.un])).bind λr=>match r with
   | .nx ρ'=>forL (λd ρ'=>(puT (.one 6) d ρ').bind λρ''=>exs C ju ρ'') (wD B) ρ'
   | .ct ρ'=>forL (λd ρ'=>(puT (.one 6) d ρ').bind λρ''=>exs C ju ρ'') (wD B) ρ'
   | .bk ρ'=>some (.nx ρ')
   | .rt v=>some (.rt v)
   | .xc=>none:=rfl
  rw [go];rw [List.length_cons] at h1 h2;rcases zcI C h32 (l:=l) (ws:=ws) (A:=A) (rs:=rs) (ss:=ss) (h w (.head _)) (x7:=x7) (by omega) (by omega) with ⟨hw,y7,e⟩ | ⟨hw,e⟩
  ·rw [e];rcases qbN C h32 (l:=l) (ws:=ws) (A:=A) B (rs++[qau w]) (ss++[yau w]) (.pu (.str (mkS w))) y7 (λv hv=>h v (.tail _ hv)) (by simp;omega) (by simp;omega) with ⟨q,y6',y7',e'⟩ | ⟨q,e'⟩
   ·refine .inl ⟨λv hv=>(wy.mp hv).elim (λz=>z▸hw) (q v),y6',y7',?_⟩;rw [we];refine e'.trans ?_
    simp
   ·refine .inr ⟨λz=>q λv hv=>z v (.tail _ hv),?_⟩;rw [we];exact e'
  ·refine .inr ⟨λz=>hw (z w (.head _)),?_⟩;rw [e];rfl
theorem ybN {A B:List (List Nat)} (h:[59]∉A):(A++[59]::B).countP (λw=>decide (w=[59]))=1+B.countP λw=>decide (w=[59]):=by
 rw [List.countP_append,List.countP_cons]
 have:A.countP (λw=>decide (w=[59]))=0:=List.countP_eq_zero.mpr λw hw=>by
  simp only [wI];intro e;subst e;exact h hw
 rw [this];simp;omega
theorem ydj (C:Tab) {l:List Nat} (h:Txo l) (h32:∀ l,Txo l->C 32 [.str (mkS l)]=some (tI (zaz l))) (h31:∀ d,noS d=true->C 31 [d]=some (.bl (dB (jbW d)))) :
  (∀ Ls rows secs,TabOk Ls rows secs->l=WT Ls rows secs->zN C qap [.str (mkS l)]=some (eT Ls rows secs))/\(¬ IsW l->zN C qap [.str (mkS l)]=some .non):=by
 have part:=h.part 32
 have wlen:(ja 32 l).length<=50001:=by
  have a:=qbl (ja 32 l);have b:=jaf 32 l;have d:=h.len;omega
 have main:∀ A B,ja 32 l=A++[59]::B->[59]∉A->[59]∉B->zN C qap [.str (mkS l)]=some (if dB ((∀ w∈B,wfW w)/\TabOk (A.map jW) (B.map qau) (B.map yau))=true then eT (A.map jW) (B.map qau) (B.map yau) else .non):=λA B ew hA hB=>by
  have hlen:A.length+B.length+1<=50001:=by rw [ew] at wlen;simp at wlen;omega
  have pA':∀ w∈A,Txo w:=λw hw=>part w (by rw [ew];simp [hw])
  have pB:∀ w∈B,Txo w:=λw hw=>part w (by rw [ew];simp [hw])
  have e1:(wD (A++[59]::B)).drop (A.length+1)=wD B:=by
   rw [wD,List.map_append,List.map_cons,show ∀ (p q:List D) (x:D),p++x::q=(p++[x])++q from λp q x=>by simp];exact List.drop_left' (by simp)
  have e2:(wD (A++[59]::B)).take A.length=wD A:=by
   rw [wD,List.map_append];exact List.take_left' (by simp)
  have g0:∀ (w:List Nat),Txo w->∀ ρ keep,gather (turn C (.call 32 (.cons (.var 0) .nil)) (.one 0) 1 keep .none ρ) (wD (ja 47 w))=some ((jW w).map tI):=λw hw ρ keep=>by
   rw [jW,wM];refine jI _ λp hp=>?_
   simp only [turn,zaa,yg,List.replicate,List.cons_append,List.nil_append,EA,qw,zx,qv,qm,jm,yn,zR,qN,jb,ye,we,Option.map_some,Option.bind_none,Option.map_none,if_true,if_false,↓reduceIte,and_self,Bool.not_true,Bool.not_false,wq,Int.reduceLT,Int.reduceLE,Int.reduceNeg,Nat.reduceMul,Nat.reduceAdd,Nat.reduceLeDiff,List.length_cons,List.length_nil,List.set,true_and,and_true,zc,zo,qc,yc,jc,qd,qa,ya,yd,h32 p (hw.part 47 p hp)];rfl
  have g1:∀ ρ keep,gather (turn C (.blt .tuple (.cons (.comp (.call 32 (.cons (.var 0) .nil)) (.one 0) 1 [] (.data (.blt .split (.cons (.var 0) (.cons (.cst (.str (Str.ofString "/"))) .nil)))) .none) .nil)) (.one 0) 1 keep .none ρ) (wD A)=some ((A.map jW).map eL):=λρ keep=>by
   rw [wM];refine jI _ λw hw=>?_
   have ee:∀ ρ':En,ρ'[0]?=some (some (.str (mkS w)))->ev C (.blt .tuple (.cons (.comp (.call 32 (.cons (.var 0) .nil)) (.one 0) 1 [] (.data (.blt .split (.cons (.var 0) (.cons (.cst (.str (Str.ofString "/"))) .nil)))) .none) .nil)) ρ'=some (eL (jW w)):=λρ' r0 =>
    yw (zM (zQ (yE (x:=.str (mkS w)) (by rw [jw,r0];rfl) rfl (by rw [qbw];exact yak (pA' w hw) (by decide))) rfl) (g0 w (pA' w hw) _ _)) rfl
   simp only [turn,zaa,yg,List.replicate,List.cons_append,List.nil_append,List.set,we,ql,if_true];rw [ee _ rfl];rfl
  have fin:∀ d,d=(if dB ((∀ w∈B,wfW w)/\TabOk (A.map jW) (B.map qau) (B.map yau))=true then eT (A.map jW) (B.map qau) (B.map yau) else .non)->noE d=some d:=λd e=>by subst e;split<;>rfl
  refine jg rfl ?_ (fin _ rfl);refine yt (d:=.lst (wD (ja 32 l))) (yE (x:=.str (mkS l)) rfl rfl (by rw [qak];exact yak h (by decide))) rfl ?_;rw [ew];refine qr (zw (k:=false) (y:=.int ((1:Nat):Int)) (yE (x:=.lst (wD (A++[59]::B))) rfl rfl (jcn _)) rfl ?_) ?_
  ·rw [q9,ybN hA,List.countP_eq_zero.mpr λw hw=>by simp only [wI];intro e;subst e;exact hB hw];rfl
  refine yt (d:=.int (A.length:Int)) (yE (x:=.lst (wD (A++[59]::B))) rfl rfl (ycR hA)) rfl ?_;refine yt (d:=.lst ((A.map jW).map eL)) (zM (zQ (qaa (x:=.lst (wD (A++[59]::B))) (l:=none) (h:=some (A.length:Int)) rfl rfl (yx rfl) rfl) rfl) (by rw [qcR,e2];exact g1 _ _)) rfl ?_;refine qax (ds:=[]) (qbU zah (by simp)) rfl ?_;refine qax (ds:=[]) (qbU zah (by simp)) rfl ?_
  have ei:∀ ρ:En,ρ[1]?=some (some (.lst (wD (A++[59]::B))))->ρ[2]?=some (some (.int (A.length:Int)))->evI C (.data (.slc (.var 1) (.some (.bin .Add (.var 2) (.cst (.int 1)))) .none)) ρ=some (wD B):=λρ r1 r2=>by
   refine zQ (x:=.lst (wD B)) (qaa (x:=.lst (wD (A++[59]::B))) (l:=some ((A.length+1:Nat):Int)) (h:=none) (by rw [jw,r1];rfl) (yx (jG (x:=.int (A.length:Int)) (by rw [jw,r2];rfl) rfl rfl)) rfl ?_) rfl;show some (D.lst (cutD _ _ _))=_;rw [zbN,e1]
  rcases qbN C h32 (l:=l) (ws:=A++[59]::B) (A:=A) B [] [] .un .un pB (by simp;omega) (by simp;omega) with ⟨hw,y6,y7,e⟩ | ⟨hw,e⟩
  ·rw [List.nil_append,List.nil_append] at e;refine jR (ei _ rfl rfl) e ?_;refine jdv (d:=eT (A.map jW) (B.map qau) (B.map yau)) (zcj (zu (yw (x:=.lst ((A.map jW).map eL)) rfl rfl) (zu (yw (x:=.lst ((B.map qau).map tI)) rfl rfl) (zu (yw (x:=.lst (eI (B.map yau))) rfl rfl) zah))) (by simp)) ?_ rfl ?_
   ·rw [eT,noL,jaC,jaC,jaC,jaC,noL,noL,zco,qch,zch];rfl
   by_cases hT:TabOk (A.map jW) (B.map qau) (B.map yau)
   ·rw [dB_iff.mpr ⟨hw,hT⟩,if_pos rfl];refine jh (jy (x:=.lst [.non,eT (A.map jW) (B.map qau) (B.map yau)]) (y:=.int 1) (qbU (zu rfl (zu rfl zah)) (by simp)) (yw (x:=.bl true) (yq (x:=eT (A.map jW) (B.map qau) (B.map yau)) rfl ?_) rfl) rfl);rw [h31 _ (jZ _ _ _),dB_iff.mpr (tabP_iff.mpr hT)]
   ·rw [dB_no.mpr (λz=>hT z.2),if_neg wB];refine jh (jy (x:=.lst [.non,eT (A.map jW) (B.map qau) (B.map yau)]) (y:=.int 0) (qbU (zu rfl (zu rfl zah)) (by simp)) (yw (x:=.bl false) (yq (x:=eT (A.map jW) (B.map qau) (B.map yau)) rfl ?_) rfl) rfl);rw [h31 _ (jZ _ _ _),dB_no.mpr (λz=>hT (tabP_iff.mp z))]
  ·rw [dB_no.mpr (λz=>hw z.1),if_neg wB];exact jac (ei _ rfl rfl) e
 refine ⟨λLs rows secs T e=>?_,λhn=>?_⟩
 ·have ew:ja 32 l=Ls.map ladN++[59]::List.zipWith zaq rows secs:=by rw [e];exact qcn T
  have eb:=jbl T.sl T.rowS T.secS
  have hw:∀ w∈List.zipWith zaq rows secs,wfW w:=λw hw=>by
   obtain ⟨r,hr,s,hs,rfl⟩:=jaL hw;exact (ycQ (T.rowS r hr) (T.secS s hs)).2.2
  rw [main _ _ ew (ybM T) (qcH T),ybl T,eb.1,eb.2,dB_iff.mpr ⟨hw,T⟩,if_pos rfl]
 ·by_cases hm:[59]∈ja 32 l
  ·obtain ⟨A,B,ew,hA⟩:=List.eq_append_cons_of_mem hm
   by_cases hB:[59]∈B
   ·refine jg rfl ?_;refine yt (d:=.lst (wD (ja 32 l))) (yE (x:=.str (mkS l)) rfl rfl (by rw [qak];exact yak h (by decide))) rfl ?_;refine qaj (zw (k:=true) (y:=.int ((1:Nat):Int)) (yE (x:=.lst (wD (ja 32 l))) rfl rfl (jcn _)) rfl ?_) (jh rfl)
    have:=(List.countP_pos_iff (p:=λw=>decide (w=[59]))).mpr ⟨[59],hB,decide_eq_true rfl⟩
    rw [q9,ew,ybN hA,vp (by omega)];rfl
   ·rw [main A B ew hA hB,dB_no.mpr,if_neg wB];rintro ⟨hw,T⟩;refine hn ⟨_,_,_,T,?_⟩;rw [WT,ycH T hw,<-ew,zaB]
  ·refine jg rfl ?_;refine yt (d:=.lst (wD (ja 32 l))) (yE (x:=.str (mkS l)) rfl rfl (by rw [qak];exact yak h (by decide))) rfl ?_;refine qaj (zw (k:=true) (y:=.int ((1:Nat):Int)) (yE (x:=.lst (wD (ja 32 l))) rfl rfl (jcn _)) rfl ?_) (jh rfl);rw [q9,List.countP_eq_zero.mpr λw hw=>by simp only [wI];intro e;subst e;exact hm hw];rfl
theorem jbN (C:Tab) {l:List Nat} {d:D} (h26:C 26 [.str (mkS l)]=some d):(∀ Ls rows secs,d=eT Ls rows secs->zN C qat [.str (mkS l)]=some (eT Ls rows secs))/\(d=.grp []->zN C qat [.str (mkS l)]=some .non):=by
 refine ⟨λLs rows secs e=>?_,λe=>?_⟩
 ·subst e;refine jg rfl ?_
  have e1:ex C (.tryr 1 26 (.var 0)) [.pu (.str (mkS l)),.un,.un]=some (.nx [.pu (.str (mkS l)),.pu (eT Ls rows secs),.un]):=by
   show (some (D.str (mkS l))).bind (λx=>(C 26 [x]).bind _)=_;rw [we,h26];rfl
  show exs C (.cons (.tryr 1 26 (.var 0)) _) [.pu (.str (mkS l)),.un,.un]=_;rw [exs,e1];show exs C (.cons (.ret (.idx (.lst (.cons (.var 1) (.cons (.cst (.int 0)) .nil))) (.blt .int (.cons (.cmp .Is (.var 1) (.cst .non)) .nil)))) .nil) [.pu (.str (mkS l)),.pu (eT Ls rows secs),.un]=_;exact jh (jy (x:=.lst [eT Ls rows secs,.int 0]) (y:=.int 0) (qbU (zu rfl (zu rfl zah)) (by simp)) (yw (x:=.bl false) (zw (x:=eT Ls rows secs) (y:=.non) rfl rfl rfl) rfl) rfl)
 ·subst e;refine jg rfl ?_
  have e1:ex C (.tryr 1 26 (.var 0)) [.pu (.str (mkS l)),.un,.un]=some (.rt .non):=by
   show (some (D.str (mkS l))).bind (λx=>(C 26 [x]).bind _)=_;rw [we,h26];rfl
  show exs C (.cons (.tryr 1 26 (.var 0)) _) [.pu (.str (mkS l)),.un,.un]=_;rw [exs,e1];rfl
end M
end
section
open PySem Eng LG K03
namespace M
theorem jdj {l:List Nat} (h:l.length<=1000000) (lo hi:Option Int):∃ m,jcs (.str (mkS l)) lo hi=some (.str (mkS m))/\(∀ x∈m,x∈l)/\m.length<=l.length:=by
 refine ⟨(Txt.slice (mkS l) lo hi).cps.toList,?_,λx hx=>?_,?_⟩
 ·show (if (mkS l).length<=sizeLine then some (D.str (Txt.slice (mkS l) lo hi)) else none)=_;rw [if_pos (qL (by rw [zB];exact h)),<-jaX]
 ·unfold Txt.slice at hx;split at hx
  ·rwa [qB] at hx
  ·rw [qB] at hx;obtain ⟨i,_,hi⟩:=List.mem_filterMap.mp hx
   have:x∈(mkS l).cps:=Array.mem_of_getElem? hi
   have:=Array.mem_toList_iff.mpr this
   rwa [qB] at this
 ·have:=Txt.slice_le (mkS l) lo hi;rw [zB] at this;simpa [Str.length] using this
theorem qco {a b:List Nat} (h:a.length+b.length<=1000000):zax .Add (.str (mkS a)) (.str (mkS b))=some (.str (mkS (a++b))):=by
 rw [qm (qL (by rw [zB,zB];exact h)),zak]
theorem jbV:∀ i∈List.range 13,(match (Str.ofString " 012345/;:a-~").cps.toList[i]? with | some c=>decide (c<128) | none=>false)=true:=by decide +kernel
theorem qby:(Str.ofString " 012345/;:a-~").length=13:=by decide +kernel
theorem qcI (m : Int) : ∃ c, ycs (.str (Str.ofString " 012345/;:a-~")) (.int (m % 13)) = some (.str (mkS [c])) /\ c < 128 := by
 have h0:=Int.emod_nonneg m (show (13:Int)≠0 by decide);have h1:=vf m (show (0:Int)<13 by decide);have q:=jbV (m%13).toNat (vg.mpr (by omega));split at q
 ·rename_i c e;refine ⟨c,?_,vk q⟩;show (if (Str.ofString " 012345/;:a-~").length<=sizeLine then (atI (Str.ofString " 012345/;:a-~").cps.toList (m%13)).map λc=>D.str ⟨#[c]⟩ else none)=_;rw [if_pos (by rw [qby];exact qL (by decide)),jt h0 e];rfl
 ·cases q
theorem qdU {vs ws:List (List Nat)} (h:vs.Sublist ws):wt vs<=wt ws:=by
 induction h with
 | slnil=>exact wF _
 | cons a _ ih=>simp only [wt,List.map_cons,List.sum_cons] at *;omega
 | cons_cons a _ ih=>simp only [wt,List.map_cons,List.sum_cons] at *;omega
theorem yco (ws:List (List Nat)):wt ws.reverse=wt ws:=by
 induction ws with
 | nil=>rfl
 | cons a r ih=>rw [List.reverse_cons,jaw,ih];simp only [wt,List.map_cons,List.map_nil,List.sum_cons,List.sum_nil];omega
theorem jcR {w:List Nat}:∀ (ws:List (List Nat)) (j:Nat),wt (ws.set j w)<=wt ws+w.length+1
 | [],_=>Nat.zero_le _
 | a::r,0=>by simp only [List.set,wt,List.map_cons,List.sum_cons];omega
 | a::r,j+1=>by
  have:=jcR (w:=w) r j
  simp only [List.set,wt,List.map_cons,List.sum_cons] at *;omega
theorem qeg (ws:List (List Nat)) (lo hi:Option Int):∃ vs,jcs (.lst (wD ws)) lo hi=some (.lst (wD vs))/\wt vs<=wt ws/\∀ w∈vs,w∈ws:=by
 refine ⟨(ws.drop (sIx (wD ws).length 0 lo)).take (sIx (wD ws).length (wD ws).length hi-sIx (wD ws).length 0 lo),?_,?_,λw hw=>List.mem_of_mem_drop (List.mem_of_mem_take hw)⟩
 ·show some (D.lst (cutD (wD ws) lo hi))=_;rw [cutD,wD,<-List.map_drop,<-List.map_take]
 ·exact qdU ((List.take_sublist _ _).trans (List.drop_sublist _ _))
theorem yc6 (ws:List (List Nat)):revD (.lst (wD ws))=some (.lst (wD ws.reverse)):=by
 show some (D.lst (wD ws).reverse)=_;rw [wD,<-List.map_reverse]
theorem jbm {a b:List (List Nat)} (h:wt a+wt b<=1000000):zax .Add (.lst (wD a)) (.lst (wD b))=some (.lst (wD (a++b))):=by
 have h1:=qbl a;have h2:=qbl b;rw [jm (qL (by simp;omega)),wD,wD,<-List.map_append]
theorem ydU (ws:List (List Nat)):((ws.map mkS).map (·.length)).sum+(ws.map mkS).length*1=wt ws:=by
 induction ws with
 | nil=>rfl
 | cons a r ih=>simp only [wt,List.map_cons,List.sum_cons,List.length_cons,zB] at *;omega
theorem zbO {ws:List (List Nat)} (h:wt ws<=1000000):yJ .join [.str (Str.ofString " "),.lst (wD ws)]=some (.str (mkS (jn 32 ws))):=by
 rw [jr,qbx,we,qak,qa7,if_pos]
 have:=ydU ws
 rw [show (⟨#[32]⟩:Str).length=1 from rfl,this];exact qL h
noncomputable def someS:List Str:=[Str.ofString "01/00",Str.ofString "0",Str.ofString "012/002/000",Str.ofString "01",Str.ofString ";",Str.ofString "00:1",Str.ofString "0:0",Str.ofString "11:3",Str.ofString "1:4",Str.ofString "/",Str.ofString ":",Str.ofString "012/000/000",Str.ofString "0:",Str.ofString ""]
theorem zdk:∀ z∈someS,z.length<=11/\z.cps.toList.all (·<128)=true:=by decide +kernel
theorem jdU (m:Int):∃ w,ycs (.lst (someS.map D.str)) (.int (m%14))=some (.str (mkS w))/\w.length<=11/\∀ x∈w,x<128:=by
 have h0:=Int.emod_nonneg m (show (14:Int)≠0 by decide);have h1:=vf m (show (0:Int)<14 by decide);have hl:(m%14).toNat<someS.length:=by show _<14;omega
 have q:=zdk someS[(m%14).toNat] (List.getElem_mem hl);refine ⟨someS[(m%14).toNat].cps.toList,?_,by simpa [Str.length] using q.1,λx hx=>vk (List.all_eq_true.mp q.2 x hx)⟩;show atI (someS.map D.str) (m%14)=_;rw [<-jaX];exact jt h0 (by rw [wz,List.getElem?_eq_getElem hl];rfl)
theorem zdV {C:Tab} {ρ:List Sl} {i:Nat} {k e:Eng.Code} {r:Stms} {ds:List D} {j:Int} {d:D} {x:Option Fl} (h1:ev C e (vP ρ)=some d) (h2:ev C k (vP ρ)=some (.int j)) (h3:ρ[i]?=some (.ow ds)) (h4:0<=j/\j<ds.length) (h5:exs C r (ρ.set i (.ow (ds.set j.toNat d)))=x):exs C (.cons (.put i k e) r) ρ=x:=by
 have hp:ydv i (.int j) d ρ=some (.nx (ρ.set i (.ow (ds.set j.toNat d)))):=by
  unfold ydv;rw [h3];exact if_pos h4
 rw [exs,ex,h1,we,h2,we,hp];exact h5
theorem qaM:∀ ws:List (List Nat),jaC (wD ws)=true
 | []=>rfl
 | w::r=>by rw [wD,List.map_cons,jaC,show jaC (r.map λw=>D.str (mkS w))=true from qaM r];rfl
theorem ycI {l:List Nat} (h:l.length<=1000000) {c:Nat} (hc:c<256):yJ .split [.str (mkS l),.str ⟨#[c]⟩]=some (.lst (wD (ja c l))):=by
 show (if (⟨#[c]⟩:Str).length=1/\(mkS l).length+2<=sizeLine/\(Txt.split (mkS l) ⟨#[c]⟩).length<=sizeLine then some (D.lst ((Txt.split (mkS l) ⟨#[c]⟩).map D.str)) else none)=_;rw [zbL l c hc,if_pos,wM]
 ·rfl
 ·have a:=qbl (ja c l);have b:=jaf c l;refine ⟨rfl,wU (show _<=1000002 by rw [zB];omega) (by decide),wU (show _<=1000002 by simp;omega) (by decide)⟩
structure Tx (N:Nat) (l:List Nat):Prop where
 asc:∀ x∈l,x<128
 len:l.length<=N
theorem yby (C:Tab) {N:Nat} (hN:N<=100000) {l:List Nat} (h:Tx N l) (n:Int):∃ m,zN C d_law_changed [.str (mkS l),.int n]=some (.str (mkS m))/\Tx (3*N+30) m:=by
 have hl:=h.len;have hw:=jaf 32 l;obtain ⟨hd,tl,ex⟩:=zae 32 l;have wasc:∀ w∈ja 32 l,∀ x∈w,x<128:=λw hw x hx=>h.asc x (qae hw x hx)
 have a0:=Int.emod_nonneg (n/16) (show ((l.length:Int)+1)≠0 by omega);have a1:=vf (n/16) (show (0:Int)<(l.length:Int)+1 by omega);obtain ⟨c,hc,hc1⟩:=qcI (n/400);have hpos:0<(ja 32 l).length:=by rw [ex];simp
 have b0:=Int.emod_nonneg (n/16) (show ((ja 32 l).length:Int)≠0 by omega);have b1:=vf (n/16) (show (0:Int)<((ja 32 l).length:Int) by omega);generalize ha:n/16%((l.length:Int)+1)=a at a0 a1;generalize hb:n/16%((ja 32 l).length:Int)=b at b0 b1;have big:l.length<=1000000:=by omega
 have q0:=Int.emod_nonneg n (show (8:Int)≠0 by decide);have q1:=vf n (show (0:Int)<8 by decide);have tq:∀ {op:CmpOp} {k:Int} {b:Bool} {ρ:En},ρ[1]?=some (some (.int n))->zV op (.int (n%8)) (.int k)=some b->ev C (.cmp op (.bin .Mod (.var 1) (.cst (.int 8))) (.cst (.int k))) ρ=some (.bl b):=λ{op k b ρ} r1 e=>zw (jG (x:=.int n) (y:=.int 8) (by rw [jw,r1];rfl) rfl (qv (by decide))) rfl e
 have lenD:yJ .len [.str (mkS l)]=some (.int (l.length:Int)):=by rw [jb (qL (by rw [zB];omega)),zB]
 have cut:∀ lo hi,∃ m,jcs (.str (mkS l)) lo hi=some (.str (mkS m))/\(∀ x∈m,x<128)/\m.length<=N:=λlo hi=>by
  obtain ⟨m,e,h1,h2⟩:=jdj big lo hi;exact ⟨m,e,λx hx=>h.asc x (h1 x hx),by omega⟩
 obtain ⟨p,ep,hp,lp⟩:=cut none (some a);obtain ⟨s,es,hs,ls⟩:=cut (some a) none;obtain ⟨s1,es1,hs1,ls1⟩:=cut (some (a+1)) none;have lst:∀ {ws:List (List Nat)},(∀ w∈ws,∀ x∈w,x<128)->wt ws<=3*N+30->Tx (3*N+30) (jn 32 ws):=λ{ws} h1 h2=>⟨λx hx=>(qbL hx).elim (λz=>by omega) λ⟨w,hw,q⟩=>h1 w hw x q,wU (jdR 32 ws) h2⟩
 have e0:∀ {m:List Nat},Tx (3*N+30) m->exs C d_law_changed.b [.pu (.str (mkS l)),.pu (.int n),.un,.un,.un,.un]=some (.rt (.str (mkS m)))->∃ m,zN C d_law_changed [.str (mkS l),.int n]=some (.str (mkS m))/\Tx (3*N+30) m:=λ{m} t e=>⟨m,jg rfl e,t⟩
 have start : ∀ {x : Option Fl} {r : Stms}, exs C r [.pu (.str (mkS l)), .pu (.int n), .pu (.int a), .pu (.str (mkS [c])), .un, .un] = x -> exs C (.cons (.set .pu (.one 2) (.bin .Mod (.bin .FloorDiv (.var 1) (.cst (.int 16))) (.bin .Add (.blt .len (.cons (.var 0) .nil)) (.cst (.int 1))))) (.cons (.set .pu (.one 3) (.idx (.cst (.str (Str.ofString " 012345/;:a-~"))) (.bin .Mod (.bin .FloorDiv (.var 1) (.cst (.int 400))) (.cst (.int 13))))) r)) [.pu (.str (mkS l)), .pu (.int n), .un, .un, .un, .un] = x := λ{x r} e => by
  refine yt (d:=.int a) (jG (x:=.int (n/16)) (y:=.int ((l.length:Int)+1)) (jG (x:=.int n) (y:=.int 16) rfl rfl (zx (by decide))) (jG (x:=.int (l.length:Int)) (yw (x:=.str (mkS l)) rfl lenD) rfl rfl) (by rw [qv (by omega),ha])) rfl ?_;exact yt (d:=.str (mkS [c])) (jy (y:=.int (n/400%13)) rfl (jG (x:=.int (n/400)) (y:=.int 13) (jG (x:=.int n) (y:=.int 400) rfl rfl (zx (by decide))) rfl (qv (by decide))) hc) rfl e
 by_cases k0:n%8=0
 ·refine e0 (m:=p++[c]++s) ⟨λx hx=>?_,by simp;omega⟩ (start (qaj (tq rfl (by rw [k0];rfl)) (jh (jG (jG (qaa (x:=.str (mkS l)) (l:=none) (h:=some a) rfl rfl (yx rfl) ep) (y:=.str (mkS [c])) rfl (qco (by simp;omega))) (qaa (x:=.str (mkS l)) (l:=some a) (h:=none) rfl (yx rfl) rfl es) (qco (by simp;omega))))));rcases List.mem_append.mp hx with hx | hx
  ·rcases List.mem_append.mp hx with hx | hx
   ·exact hp x hx
   ·rw [vd.mp hx];exact hc1
  ·exact hs x hx
 by_cases k3:n%8=3
 ·refine e0 (m:=p++s1) ⟨λx hx=>(List.mem_append.mp hx).elim (hp x) (hs1 x),by simp;omega⟩ (start (qr (tq rfl (by rw [k3];rfl)) (qaj (tq rfl (by rw [k3];rfl)) (jh (jG (qaa (x:=.str (mkS l)) (l:=none) (h:=some a) rfl rfl (yx rfl) ep) (qaa (x:=.str (mkS l)) (l:=some (a+1)) (h:=none) rfl (yx (jG (x:=.int a) rfl rfl rfl)) rfl es1) (qco (by omega)))))))
 have ne:∀ {k:Int},n%8≠k->zV .Eq (.int (n%8)) (.int k)=some false:=λ{k} hk=>by rw [jan,w6.mpr hk]
 have eq:∀ {k:Int},n%8=k->zV .Eq (.int (n%8)) (.int k)=some true:=λ{k} hk=>by rw [jan,vq.mpr hk]
 by_cases k2:n%8<3
 ·refine e0 (m:=p++[c]++s1) ⟨λx hx=>?_,by simp;omega⟩ (start (qr (tq rfl (ne k0)) (qr (tq rfl (ne k3)) (qaj (tq rfl (by rw [zaD,decide_eq_true k2])) (jh (jG (jG (qaa (x:=.str (mkS l)) (l:=none) (h:=some a) rfl rfl (yx rfl) ep) (y:=.str (mkS [c])) rfl (qco (by simp;omega))) (qaa (x:=.str (mkS l)) (l:=some (a+1)) (h:=none) rfl (yx (jG (x:=.int a) rfl rfl rfl)) rfl es1) (qco (by simp;omega))))))));rcases List.mem_append.mp hx with hx | hx
  ·rcases List.mem_append.mp hx with hx | hx
   ·exact hp x hx
   ·rw [vd.mp hx];exact hc1
  ·exact hs1 x hx
 have start2:∀ {x:Option Fl} {r t1 t2 t3:Stms},exs C r [.pu (.str (mkS l)),.pu (.int n),.pu (.int b),.pu (.str (mkS [c])),.ow (wD (ja 32 l)),.un]=x->exs C (.cons (.ite (.cmp .Eq (.bin .Mod (.var 1) (.cst (.int 8))) (.cst (.int 0))) t1 .nil) (.cons (.ite (.cmp .Eq (.bin .Mod (.var 1) (.cst (.int 8))) (.cst (.int 3))) t2 .nil) (.cons (.ite (.cmp .Lt (.bin .Mod (.var 1) (.cst (.int 8))) (.cst (.int 3))) t3 .nil) (.cons (.set .ow (.one 4) (.blt .split (.cons (.var 0) (.cons (.cst (.str (Str.ofString " "))) .nil)))) (.cons (.set .cl (.one 2) (.bin .Mod (.bin .FloorDiv (.var 1) (.cst (.int 16))) (.blt .len (.cons (.var 4) .nil)))) r))))) [.pu (.str (mkS l)),.pu (.int n),.pu (.int a),.pu (.str (mkS [c])),.un,.un]=x:=λ{x r t1 t2 t3} e=>by
  refine qr (tq rfl (ne k0)) (qr (tq rfl (ne k3)) (qr (tq rfl (by rw [zaD,vp k2])) ?_));refine qax (ds:=wD (ja 32 l)) (yE (x:=.str (mkS l)) rfl rfl (by rw [qak];exact ycI big (by decide))) (qaM _) ?_;exact jdv (d:=.int b) (jG (x:=.int (n/16)) (y:=.int ((ja 32 l).length:Int)) (jG (x:=.int n) (y:=.int 16) rfl rfl (zx (by decide))) (yw (x:=.lst (wD (ja 32 l))) rfl (by rw [yi,wG])) (by rw [qv (by omega),hb])) rfl rfl e
 have cutw:∀ lo hi,∃ vs,jcs (.lst (wD (ja 32 l))) lo hi=some (.lst (wD vs))/\wt vs<=N+1/\∀ w∈vs,∀ x∈w,x<128:=λlo hi=>by
  obtain ⟨vs,e,h1,h2⟩:=qeg (ja 32 l) lo hi;exact ⟨vs,e,by omega,λw hw=>wasc w (h2 w hw)⟩
 obtain ⟨v0,ev0,w0,x0⟩:=cutw none (some b);obtain ⟨v1,ev1,w1,x1⟩:=cutw (some (b+1)) none;obtain ⟨v2,ev2,w2,x2⟩:=cutw (some b) (some (b+1));obtain ⟨v3,ev3,w3,x3⟩:=cutw (some b) none;obtain ⟨v4,ev4,w4,x4⟩:=cutw (some b) (some (b+2));obtain ⟨v5,ev5,w5,x5⟩:=cutw (some (b+2)) none
 by_cases k4:n%8=4
 ·have hm:wt (v0++v1)<=3*N+30:=by rw [jaw];omega
  refine e0 (m:=jn 32 (v0++v1)) (lst (λw hw=>(List.mem_append.mp hw).elim (x0 w) (x1 w)) hm) (start (start2 ?_));refine qa5 (tq rfl (eq k4)) (qax (ds:=wD (v0++v1)) (jG (qaa (x:=.lst (wD (ja 32 l))) (l:=none) (h:=some b) rfl rfl (yx rfl) ev0) (qaa (x:=.lst (wD (ja 32 l))) (l:=some (b+1)) (h:=none) rfl (yx (jG (x:=.int b) rfl rfl rfl)) rfl ev1) (jbm (by omega))) (qaM _) rfl) ?_;exact qr (tq rfl (ne (by omega))) (qr (tq rfl (ne (by omega))) (qr (tq rfl (ne (by omega))) (jh (yE (y:=.lst (wD (v0++v1))) rfl rfl (zbO (by omega))))))
 by_cases k5:n%8=5
 ·have hm:wt (v0++v2++v3)<=3*N+30:=by rw [jaw,jaw];omega
  refine e0 (m:=jn 32 (v0++v2++v3)) (lst (λw hw=>(List.mem_append.mp hw).elim (λz=>(List.mem_append.mp z).elim (x0 w) (x2 w)) (x3 w)) hm) (start (start2 (qr (tq rfl (ne k4)) ?_)));refine qa5 (tq rfl (eq k5)) (qax (ds:=wD (v0++v2++v3)) (jG (jG (qaa (x:=.lst (wD (ja 32 l))) (l:=none) (h:=some b) rfl rfl (yx rfl) ev0) (qaa (x:=.lst (wD (ja 32 l))) (l:=some b) (h:=some (b+1)) rfl (yx rfl) (yx (jG (x:=.int b) rfl rfl rfl)) ev2) (jbm (by omega))) (qaa (x:=.lst (wD (ja 32 l))) (l:=some b) (h:=none) rfl (yx rfl) rfl ev3) (jbm (by rw [jaw];omega))) (qaM _) rfl) ?_;exact qr (tq rfl (ne (by omega))) (qr (tq rfl (ne (by omega))) (jh (yE (y:=.lst (wD (v0++v2++v3))) rfl rfl (zbO (by omega)))))
 by_cases k6:n%8=6
 ·have hm:wt (v0++v4.reverse++v5)<=3*N+30:=by rw [jaw,jaw,yco];omega
  refine e0 (m:=jn 32 (v0++v4.reverse++v5)) (lst (λw hw=>(List.mem_append.mp hw).elim (λz=>(List.mem_append.mp z).elim (x0 w) λz=>x4 w (List.mem_reverse.mp z)) (x5 w)) hm) (start (start2 (qr (tq rfl (ne k4)) (qr (tq rfl (ne k5)) ?_))));refine qa5 (tq rfl (eq k6)) (qax (ds:=wD (v0++v4.reverse++v5)) (jG (jG (qaa (x:=.lst (wD (ja 32 l))) (l:=none) (h:=some b) rfl rfl (yx rfl) ev0) (yee (qaa (x:=.lst (wD (ja 32 l))) (l:=some b) (h:=some (b+2)) rfl (yx rfl) (yx (jG (x:=.int b) rfl rfl rfl)) ev4) (yc6 v4)) (jbm (by rw [yco];omega))) (qaa (x:=.lst (wD (ja 32 l))) (l:=some (b+2)) (h:=none) rfl (yx (jG (x:=.int b) rfl rfl rfl)) rfl ev5) (jbm (by rw [jaw,yco];omega))) (qaM _) rfl) ?_;exact qr (tq rfl (ne (by omega))) (jh (yE (y:=.lst (wD (v0++v4.reverse++v5))) rfl rfl (zbO (by omega))))
 ·obtain ⟨w,ew,lw,aw⟩:=jdU (n/400);have hm:wt ((ja 32 l).set b.toNat w)<=3*N+30:=by have:=jcR (w:=w) (ja 32 l) b.toNat;omega
  refine e0 (m:=jn 32 ((ja 32 l).set b.toNat w)) (lst (λv hv=>(List.mem_or_eq_of_mem_set hv).elim (wasc v) λz=>z▸aw) hm) (start (start2 (qr (tq rfl (ne k4)) (qr (tq rfl (ne k5)) (qr (tq rfl (ne k6)) ?_)))));refine qa5 (tq rfl (eq (by omega))) (yt (d:=.lst (someS.map D.str)) (qbU (xs:=someS.map D.str) rfl (by decide)) rfl (zdV (ds:=wD (ja 32 l)) (j:=b) (d:=.str (mkS w)) (jy (x:=.lst (someS.map D.str)) (y:=.int (n/400%14)) rfl (jG (x:=.int (n/400)) (y:=.int 14) (jG (x:=.int n) (y:=.int 400) rfl rfl (zx (by decide))) rfl (qv (by decide))) ew) rfl rfl ⟨b0,by rw [wG];exact b1⟩ rfl)) ?_;refine jh (yE (y:=.lst (wD ((ja 32 l).set b.toNat w))) rfl ?_ (zbO (by omega)));show some (D.lst ((wD (ja 32 l)).set b.toNat (.str (mkS w))))=_;rw [wD,wD,List.map_set]
end M
end
section
open PySem Eng LG K03
namespace M
mutual
theorem qbO:∀ d:D,noS d=true->eqD d d=true
 | .non,_=>by rw [eqD]
 | .bl b,_=>by cases b<;>rfl
 | .int i,_=>by rw [eqD];simp
 | .str x,_=>by rw [eqD];simp
 | .tup xs,h=>by rw [eqD];exact yaM xs h
 | .lst xs,h=>by rw [eqD];exact yaM xs h
 | .scr _,h=>by cases h
 | .grp _,h=>by cases h
theorem yaM:∀ xs:List D,yS xs=true->zbW xs xs=true
 | [],_=>by rw [zbW]
 | d::r,h=>by
  rw [yS,wj] at h;rw [zbW,qbO d h.1,yaM r h.2];rfl
end
theorem za9 {xs:List D} {k:Nat} (h:∀ d∈xs,dep d<=k):zbn xs<=k:=by
 induction xs with
 | nil=>exact Nat.zero_le _
 | cons a r ih =>
  rw [zbn];exact Nat.max_le.mpr ⟨h a (.head _),ih λd hd=>h d (.tail _ hd)⟩
theorem jby (xs:List Int):dep (tI xs)<=1:=by simp [tI,dep,ybt]
theorem qdV (Ls:List (List (List Int))) (rows:List (List Int)) (secs:List Int):dep (eT Ls rows secs)<=40:=by
 have h1:∀ L:List (List Int),dep (eL L)<=2:=λL=>Nat.succ_le_succ (za9 λd hd=>by obtain ⟨s,_,rfl⟩:=wJ.mp hd;exact jby s)
 refine wU (Nat.succ_le_succ (za9 (k:=3) λd hd=>?_)) (by decide);simp only [wy,List.not_mem_nil,or_false] at hd;rcases hd with rfl | rfl | rfl
 ·exact Nat.succ_le_succ (za9 λd hd=>by obtain ⟨L,_,rfl⟩:=wJ.mp hd;exact h1 L)
 ·exact Nat.succ_le_succ (za9 λd hd=>by obtain ⟨L,_,rfl⟩:=wJ.mp hd;exact wU (jby L) (by decide))
 ·exact wU (jby secs) (by decide)
theorem ydV (Ls:List (List (List Int))) (rows:List (List Int)) (secs:List Int):zV .NotEq (eT Ls rows secs) (eT Ls rows secs)=some false:=by
 rw [qN (ybI (jZ _ _ _) (jZ _ _ _) (qdV _ _ _)),qbO _ (jZ _ _ _)];rfl
theorem yeg {Ls:List (List (List Int))} {rows:List (List Int)} {secs:List Int} (T:TabOk Ls rows secs):Tx 540 (WT Ls rows secs):=by
 refine ⟨λx hx=>?_,?_⟩
 ·rcases qbL hx with q | ⟨w,hw,q⟩
  ·omega
  ·rw [wdN,List.mem_append,wy] at hw;rcases hw with h | h | h
   ·obtain ⟨L,hL,rfl⟩:=wJ.mp h
    have:=za8 (T.ladS L hL).1 _ q
    omega
   ·subst h;simp at q;omega
   ·obtain ⟨r,hr,s,hs,rfl⟩:=jaL h
    have:=qa8 (T.rowS r hr) (T.secS s hs) _ q
    omega
 ·have:=(jaA (n:=12) (b:=44) (ja6 T).1 (ja6 T).2 ybk (by decide)).2;rw [jbw T,zB] at this;exact this
noncomputable def Bd:Nat->Nat
 | 0=>540
 | n+1=>3*Bd n+30
theorem six (n:Int):∃ k:Nat,atI [D.int 0,.int 1,.int 2,.int 4,.int 0,.int 1] (n%6)=some (.int (k:Int))/\k<=4:=by
 have h0:=Int.emod_nonneg n (show (6:Int)≠0 by decide);have h1:=vf n (show (0:Int)<6 by decide)
 have:n%6=0\/n%6=1\/n%6=2\/n%6=3\/n%6=4\/n%6=5:=by omega
 rcases this with e | e | e | e | e | e<;>rw [e]
 ·exact ⟨0,rfl,by decide⟩
 ·exact ⟨1,rfl,by decide⟩
 ·exact ⟨2,rfl,by decide⟩
 ·exact ⟨4,rfl,by decide⟩
 ·exact ⟨0,rfl,by decide⟩
 ·exact ⟨1,rfl,by decide⟩
theorem zew {k:Nat} (h:k<=4):rngD [.int (k:Int)]=some (zj 0 k):=jbU (by omega)
theorem qdk (ns:List Int):ym prog 8 35 [.scr ns]=some (.bl true):=by
 have c2:∀ k (a b:Int),ym prog (k+1) 2 [.int a,.int b]=some (.int (drawn a b)):=λk a b=>qf rfl (qcg _ a b)
 have c3:∀ k (n:Int),∃ m L,ym prog (k+2) 3 [.int n]=some (eL L)/\Lad m L:=λk n=>by
  obtain ⟨m,L,e,l⟩:=ybT (ym prog (k+1)) (c2 k) n;exact ⟨m,L,qf rfl e,l⟩
 have c6:∀ k d b,noS d=true->ym prog (k+1) 6 [d,.int b]=some (.bl (jQ d b)):=λk d b h=>qf rfl (zbj _ d b h)
 have c7:∀ k d b,noS d=true->ym prog (k+1) 7 [d,.int b]=some (.bl (jN d b)):=λk d b h=>qf rfl (zbu _ d b h)
 have c8:∀ k d bs,noS d=true->ym prog (k+2) 8 [d,.lst (eI bs)]=some (.bl (hasB d bs)):=λk d bs h=>qf rfl (qbu _ (c6 k) d bs h)
 have c9:∀ k d,noS d=true->ym prog (k+2) 9 [d]=some (.bl (dB (jaP d))):=λk d h=>by
  obtain ⟨b,e,i⟩:=jbu (ym prog (k+1)) (c6 k) (c7 k) d h;rw [qf rfl e,jay i]
 have c10:∀ k (s:List Int),ym prog (k+1) 10 [tI s]=some (.bl (dB (s=(List.range s.length).map Int.ofNat))):=λk s=>by
  obtain ⟨b,e,i⟩:=ycE (ym prog k) s;rw [qf rfl e,jay i]
 have c11:∀ k (s:List Int),ym prog (k+1) 11 [tI s]=some (.bl (dB (s=List.replicate s.length 0))):=λk s=>by
  obtain ⟨b,e,i⟩:=qdg (ym prog k) s;rw [qf rfl e,jay i]
 have c12:∀ k (s t:List Int),okS s.length s=true->ym prog (k+1) 12 [tI t,tI s]=some (.bl (dB (t.length=s.length/\s≠t/\zy s t=true))):=λk s t h=>by
  obtain ⟨b,e,i⟩:=jcE (ym prog k) (t:=t) h;rw [qf rfl e,jay i]
 have c13:∀ k d,noS d=true->ym prog (k+3) 13 [d]=some (.bl (dB (zaQ d))):=λk d h=>qf rfl (za6 _ (c7 (k+1)) (c9 k) (c10 (k+1)) (c11 (k+1)) (c12 (k+1)) d h)
 have c14:∀ k d,noS d=true->ym prog (k+4) 14 [d]=some (.bl (dB (AL d))):=λk d h=>qf rfl (yaK _ (c7 (k+2)) (c13 k) d h)
 have c15:∀ k (Ls:List (List (List Int))) d,(∀ L∈Ls,∃ m,Lad m L)->noS d=true->ym prog (k+3) 15 [.tup (Ls.map eL),d]=some (.bl (dB (AR Ls d))):=λk Ls d hL h=>qf rfl (zbk _ (c7 (k+1)) (c8 k) Ls hL d h)
 have c16:∀ k d,noS d=true->ym prog (k+5) 16 [d]=some (.bl (dB (jbW d))):=λk d h=>qf rfl (qbk _ (c8 (k+2)) (c14 k) (c15 (k+1)) d h)
 have c29:∀ k d b,noS d=true->ym prog (k+1) 29 [d,.int b]=some (.bl (jQ d (b+1))):=λk d b h=>qf rfl (ybU _ d b h)
 have c30:∀ k d,noS d=true->ym prog (k+2) 30 [d]=some (.bl (dB (zaQ d))):=λk d h=>qf rfl (qaQ _ (c29 k) d h)
 have c31:∀ k d,noS d=true->ym prog (k+3) 31 [d]=some (.bl (dB (jbW d))):=λk d h=>qf rfl (ya6 _ (c29 (k+1)) (c30 k) d h)
 have c32:∀ k l,Txo l->ym prog (k+1) 32 [.str (mkS l)]=some (tI (zaz l)):=λk l h=>qf rfl (zbx _ h)
 have c21:∀ k l,Txo l->ym prog (k+1) 21 [.str (mkS l)]=some (tI (zaz l)):=λk l h=>qf rfl (zaM _ h)
 have c22:∀ k w,Txo w->ym prog (k+2) 22 [.str (mkS w)]=some (eL (jW w)):=λk w h=>qf rfl (ya8 _ h (c21 k))
 have c23:∀ k w,Txo w->ym prog (k+2) 23 [.str (mkS w)]=some (tI (zbm w)):=λk w h=>qf rfl (ybV _ h (c21 k))
 have c24:∀ k w,Txo w->ym prog (k+1) 24 [.str (mkS w)]=some (.int (qbm w)):=λk w h=>qf rfl (ja8 _ h)
 have c17:∀ k xs,Small xs->xs.length<=5->ym prog (k+1) 17 [tI xs]=some (.str (tx xs)):=λk xs h h5=>qf rfl (zdi _ xs h h5)
 have c18:∀ k L,LadS L->ym prog (k+2) 18 [eL L]=some (.str (lx L)):=λk L h=>qf rfl (qaL _ (c17 k) L h)
 have c19:∀ k r s,Small r->r.length<=5->0<=s/\s<10->ym prog (k+2) 19 [tI r,.int s]=some (.str (rx r s)):=λk r s h h5 hs=>qf rfl (jbk _ (c17 k) r s h h5 hs)
 have c20:∀ k Ls rows secs,TabOk Ls rows secs->ym prog (k+3) 20 [eT Ls rows secs]=some (.str (mkS (WT Ls rows secs))):=λk Ls rows secs T=>by
  rw [<-jbw T];exact qf rfl (ybv _ (c18 k) (c19 k) T)
 have c27:∀ k Ls rows secs,TabOk Ls rows secs->ym prog (k+1) 27 [eT Ls rows secs]=some (.str (mkS (WT Ls rows secs))):=λk Ls rows secs T=>by
  rw [<-jbw T];exact qf rfl (qcG _ T)
 have c25:∀ A B,(∀ w∈A,Txo w)->(∀ w∈B,Txo w)->[59]∉A->ym prog 5 25 [.lst (wD (A++[59]::B))]=some (eT (A.map jW) (B.map zbm) (B.map qbm)):=λA B hA hB hs=>qf rfl (ybm _ hA hB hs (c22 2) (c23 2) (c24 3))
 have told:∀ l,Txo l->(∀ Ls rows secs,TabOk Ls rows secs->l=WT Ls rows secs->ym prog 7 34 [.str (mkS l)]=some (eT Ls rows secs))/\(¬ IsW l->ym prog 7 34 [.str (mkS l)]=some .non):=λl h=>by
  obtain ⟨r1,r2⟩:=jcH (ym prog 5) h c25 (c16 0) (c20 2);refine ⟨λLs rows secs T e=>qf rfl ((jbN (ym prog 6) (qf rfl (r1 Ls rows secs T e))).1 _ _ _ rfl),λhn=>qf rfl ((jbN (ym prog 6) (qf rfl (r2 hn))).2 rfl)⟩
 have due:∀ l,Txo l->(∀ Ls rows secs,TabOk Ls rows secs->l=WT Ls rows secs->ym prog 7 33 [.str (mkS l)]=some (eT Ls rows secs))/\(¬ IsW l->ym prog 7 33 [.str (mkS l)]=some .non):=λl h=>by
  obtain ⟨r1,r2⟩:=ydj (ym prog 6) h (c32 5) (c31 3);exact ⟨λLs rows secs T e=>qf rfl (r1 Ls rows secs T e),λhn=>qf rfl (r2 hn)⟩
 have mix:∀ j:Int,0<=j->∃ r:Int,ym prog 7 1 [.scr ns,.int j]=some (.int r):=λj hj=>by
  obtain ⟨r,e⟩:=yci (ym prog 6) ns j _ (qf rfl (zcE (ym prog 5) ns j hj));exact ⟨r,qf rfl e⟩
 obtain ⟨n0,e0⟩:=mix 0 (by decide);obtain ⟨n1,e1⟩:=mix 1 (by decide)
 obtain ⟨Ls,rows,secs,e4,T⟩:∃ Ls rows secs,ym prog 7 4 [.int n0]=some (eT Ls rows secs)/\TabOk Ls rows secs:=by
  obtain ⟨Ls,rows,secs,e,T⟩:=qci (ym prog 6) (c2 5) (c3 4) n0;exact ⟨Ls,rows,secs,qf rfl e,T⟩
 have hW:=yeg T;obtain ⟨k,hk,hk4⟩:=six n1
 obtain ⟨ρ',ef,l,x4,rfl,hl⟩:=zaj (f:=λd ρ'=>(puT (.one 4) d ρ').bind λρ''=>exs (ym prog 7) zbJ ρ'')
  (λi ρ=>∃ l x4,ρ=[.pu (.scr ns),.pu (eT Ls rows secs),.pu (.int n1),.pu (.str (mkS l)),x4,.un]/\Tx (Bd i) l) (zj 0 k) 0
  [.pu (.scr ns),.pu (eT Ls rows secs),.pu (.int n1),.pu (.str (mkS (WT Ls rows secs))),.un,.un] ⟨_,_,rfl,hW⟩ (λi d ρ hd ⟨l,x4,er,t⟩=>by
   subst er
   have hi:i<k:=by
    have:=(wu.mp hd).1
    rwa [yp] at this
   rw [jV _ _ _ hi] at hd;cases hd
   have hb:Bd (0+i)<=100000:=by
    have:0+i=0\/0+i=1\/0+i=2\/0+i=3:=by omega
    rcases this with e | e | e | e<;>rw [e]<;>decide
   obtain ⟨m,em,tm⟩:=yby (ym prog 6) hb t (drawn n1 (0+(i:Int)));refine ⟨[.pu (.scr ns),.pu (eT Ls rows secs),.pu (.int n1),.pu (.str (mkS m)),.pu (.int (0+(i:Int))),.un],?_,m,_,rfl,tm⟩;refine yt (d:=.str (mkS m)) (zI (x:=.str (mkS l)) (y:=.int (drawn n1 (0+(i:Int)))) rfl (zI (x:=.int n1) (y:=.int (0+(i:Int))) rfl rfl (c2 6 _ _)) (qf rfl em)) rfl yR)
 have hl':Txo l:=⟨hl.asc,by
  have:=hl.len
  rw [yp] at this
  have b4:Bd (0+k)<=50000:=by
   have:0+k=0\/0+k=1\/0+k=2\/0+k=3\/0+k=4:=by omega
   rcases this with e | e | e | e | e<;>rw [e]<;>decide
  omega⟩
 have hW':Txo (WT Ls rows secs):=⟨hW.asc,by have:=hW.len;omega⟩;refine qf rfl (jg rfl ?_);refine yt (d:=eT Ls rows secs) (yq (x:=.int n0) (zI (x:=.scr ns) (y:=.int 0) rfl rfl e0) e4) rfl ?_;refine yt (d:=.int n1) (zI (x:=.scr ns) (y:=.int 1) rfl rfl e1) rfl ?_;refine yt (d:=.str (mkS (WT Ls rows secs))) (yq (x:=eT Ls rows secs) rfl (c27 6 _ _ _ T)) rfl ?_;refine qr (zw (yq (x:=.str (mkS (WT Ls rows secs))) rfl ((told _ hW').1 _ _ _ T rfl)) rfl (ydV _ _ _)) ?_;refine jR (ds:=zj 0 k) (jbT (jy (x:=.tup [.int 0,.int 1,.int 2,.int 4,.int 0,.int 1]) (y:=.int (n1%6)) (zcj (zu rfl (zu rfl (zu rfl (zu rfl (zu rfl (zu rfl zah)))))) (by decide)) (jG (x:=.int n1) (y:=.int 6) rfl rfl (qv (by decide))) hk) (zew hk4)) ef ?_
 by_cases hI:IsW l
 ·obtain ⟨Ls',rows',secs',T',e'⟩:=hI;refine yt (d:=eT Ls' rows' secs') (yq (x:=.str (mkS l)) rfl ((told _ hl').1 _ _ _ T' e')) rfl ?_;refine qr (zw (x:=eT Ls' rows' secs') rfl (yq (x:=.str (mkS l)) rfl ((due _ hl').1 _ _ _ T' e')) (ydV _ _ _)) ?_;refine jh (qR (zw (x:=eT Ls' rows' secs') (y:=.non) rfl rfl rfl) (ycP (zw (x:=.bl true) (y:=.bl true) (yq (x:=eT Ls' rows' secs') rfl ?_) rfl rfl) (zw (k:=true) (yq (x:=eT Ls' rows' secs') rfl (c27 6 _ _ _ T')) (y:=.str (mkS l)) rfl ?_)))
  ·rw [c16 2 _ (jZ _ _ _),dB_iff.mpr (tabP_iff.mpr T')]
  ·rw [zd4,e'];simp
 ·refine yt (d:=.non) (yq (x:=.str (mkS l)) rfl ((told _ hl').2 hI)) rfl ?_;refine qr (zw (x:=.non) rfl (yq (x:=.str (mkS l)) rfl ((due _ hl').2 hI)) rfl) ?_;exact jh (yas (zw (x:=.non) (y:=.non) rfl rfl rfl))
end M
end
namespace K03
open PySem PySem.Spec PyProof.Rows L2 Eng
noncomputable def top (i:Nat):Stmt:=PySem.Challenge.pw_amongalike_k03_whole_read.main.body.getD i (.Pass ⟨0,0,0,0⟩)
noncomputable def sts:List Stmt:=([top 34,top 35,top 36,top 37,top 38,top 35,top 9,top 10,top 11,top 12,top 13,top 14,top 15,top 16,top 17,top 18]:List Stmt)++([top 19,top 21,top 22,top 23,top 24,top 27,top 28,top 29,top 30,top 31,top 32,top 40,top 41,top 42,top 43,top 44]:List Stmt)++([top 45,top 46,top 47,top 48]:List Stmt)
noncomputable def Ns:List (List Str):=([["_law_script","_law_k"],["_law_script","_law_k","_law_drawn_here"],["_law_number_here","_law_k","_law_drawn_here"],["_law_number_here","_law_many","_law_step","_law_found","_law_k","_law_more","_law_tops","_law_drawn_here","_law_high","_law_low"],["_law_number_here","_law_ladders","_law_rows","_law_secrets","_law_k","_law_row","_law_column","_law_ladder_here"],["_law_script","_law_k","_law_drawn_here"],["thing","bound"],["thing","most"],["thing","bounds"],["thing","value","number"],["step"],["step"],["step","before"],["thing"],["thing"],["ladders","thing","values"]]:List (List Str))++([["thing","ladders","rows"],["numbers"],["ladder"],["row","secret"],["table","ladder_words","row_words"],["text"],["word"],["word"],["word"],["words","place","row_words","ladders","rows","secrets"],["text","words","table"],["_law_table_here","_law_ladders","_law_rows","_law_secrets","_law_words","_law_ladder_here","_law_number_here","_law_row"],["_law_text_here","_law_number_here","_law_at","_law_letter","_law_words","_law_some"],["_law_thing","_law_most"],["_law_thing","_law_many","_law_at","_law_step","_law_value","_law_last"],["_law_thing","_law_part","_law_most","_law_row"]]:List (List Str))++([["_law_word"],["_law_text_here","_law_words","_law_at","_law_ladders","_law_rows","_law_secrets","_law_word","_law_parts","_law_found"],["_law_text_here","_law_found","e"],["_law_script","_law_table_here","_law_number_here","_law_text_here","_law_k","_law_found"]]:List (List Str))
noncomputable def G:GTab:=⟨(["_law_cell_at","_law_mixed","_law_drawn","_law_ladder","_law_table","_law_mixed","is_number_below","is_tuple_up_to","has_numbers_below","is_step","puts_none_together","puts_all_together","puts_more_together","is_ladder","are_ladders","are_rows"]:List Str)++(["is_table","run_together","ladder_text","row_text","written","numbers_of","ladder_of","row_of","secret_of","table_of","read","_law_text","_law_changed","_law_number","_law_is_ladder","_law_is_table"]:List Str)++(["_law_figures","_law_due","_law_told","law"]:List Str),[("MOST_COLUMNS",3),("MOST_ROWS",8),("MOST_STEPS",4),("MOST_VALUES",5),("SECRETS",4)],[("DIGITS","0123456789")]⟩
theorem hP:yaI G Ns sts prog=true:=by decide +kernel
theorem hB:sts.all qdf=true:=by decide +kernel
end K03
namespace PySem.W.Fast
abbrev tw14433929386053697685:=Unit
abbrev tw16812492863156414879:=Unit
abbrev tw14799157094456390993:=Unit
abbrev tw1806850756096084959:=Unit
abbrev tw17091577840099483253:=Unit
abbrev tw5676673526961983824:=Unit
abbrev tw8145845780708870000:=Unit
abbrev tw7871389196547403530:=Unit
abbrev tw4066693612202108519:=Unit
abbrev tw11536906470210138537:=Unit
abbrev tw7163342339510520449:=Unit
abbrev tw4858187343540649199:=Unit
abbrev tw6959033060192280399:=Unit
abbrev tw6659816860407140801:=Unit
abbrev tw16587359520041740336:=Unit
abbrev tw13347152700146943684:=Unit
abbrev tw2005232748377460719:=Unit
abbrev tw13856348630077695344:=Unit
abbrev tw14394426338211142002:=Unit
abbrev tw8815491716559996214:=Unit
abbrev tw6007023780016189611:=Unit
abbrev tw16500888455776099897:=Unit
abbrev tw7036949809445380035:=Unit
abbrev tw11417109400855156046:=Unit
abbrev tw14050174820330420018:=Unit
abbrev tw338050695295112879:=Unit
abbrev tw5812373516592967772:=Unit
abbrev tw1224566401551760561:=Unit
abbrev tw5437661530480053292:=Unit
abbrev tw17882959110373561347:=Unit
abbrev tw16246641902815993961:=Unit
abbrev tw8017078652467986429:=Unit
abbrev tw15668106569198596786:=Unit
abbrev tw3818231566626695641:=Unit
abbrev tw2928141135983508367:=Unit
abbrev tw11655793143338941061:=Unit
abbrev tw6888462328415063511:=Unit
abbrev tw7592071541619750179:=Unit
abbrev tw16009748070777640692:=Unit
abbrev tw2579119893847140896:=Unit
abbrev tw16983120554289165832:=Unit
abbrev tw10752757984640914426:=Unit
abbrev tw6796605445903738084:=Unit
abbrev tw7622643134476953431:=Unit
abbrev tw3619718545679230347:=Unit
abbrev tw3026692062200506726:=Unit
abbrev tw13909946263433784783:=Unit
abbrev tw16932589713539347841:=Unit
abbrev tw2913188335370843860:=Unit
abbrev tw5350959674302215286:=Unit
abbrev tw10162611095169556516:=Unit
abbrev tw8638218793282805807:=Unit
abbrev tw10824929263781625019:=Unit
abbrev tw18255836951648345073:=Unit
abbrev tw4983241714196669329:=Unit
abbrev tw15789939108414710311:=Unit
abbrev tw14256874740902914914:=Unit
abbrev tw9067805232610006475:=Unit
abbrev tw8267747515202624901:=Unit
abbrev tw11315379572776461564:=Unit
abbrev tw13517056789176380576:=Unit
abbrev tw15288001309189153199:=Unit
abbrev tw507123128618607598:=Unit
abbrev tw855204268891231785:=Unit
abbrev tw8409502072917849404:=Unit
abbrev tw6760846406238315883:=Unit
abbrev tw17956162294022513641:=Unit
abbrev tw15544750476217163755:=Unit
abbrev tw5508245526889028200:=Unit
abbrev tw16819722764160159886:=Unit
abbrev tw18003062360789671898:=Unit
abbrev tw16166477544502097508:=Unit
abbrev tw1987556166131947003:=Unit
abbrev tw14946679216624173935:=Unit
abbrev tw10116664692617974779:=Unit
abbrev tw6085151765366444441:=Unit
abbrev tw8907912840748470700:=Unit
abbrev tw16604964805285249026:=Unit
abbrev tw8270437346455374826:=Unit
abbrev tw5427574431364990774:=Unit
abbrev tw8236822363627684723:=Unit
abbrev tw818812218728311690:=Unit
abbrev tw1598397668435673909:=Unit
abbrev tw3289705326225838709:=Unit
abbrev tw6369386628613964345:=Unit
abbrev tw4359945007840291272:=Unit
abbrev tw13791070607367122326:=Unit
abbrev tw17557297597172184375:=Unit
abbrev tw14334305223937124982:=Unit
abbrev tw13091341529789499711:=Unit
abbrev tw12181212822143732138:=Unit
abbrev tw11479756445350204058:=Unit
abbrev tw15737575697453149578:=Unit
abbrev tw1899545799561172264:=Unit
abbrev tw7860199401752237566:=Unit
abbrev tw7241811833975047213:=Unit
abbrev tw2859531548194470739:=Unit
abbrev tw8679314127827269372:=Unit
abbrev tw8563163066491140683:=Unit
abbrev tw3013381472581689048:=Unit
abbrev tw17502161818472827058:=Unit
abbrev tw5668901433919284613:=Unit
abbrev tw745567935549307873:=Unit
abbrev tw5740807137800831666:=Unit
abbrev tw15910931186886995705:=Unit
abbrev tw15194423992887654228:=Unit
abbrev tw16237850549503036950:=Unit
abbrev tw5985191926313246647:=Unit
abbrev tw13286868375650866490:=Unit
abbrev tw5837452453569012966:=Unit
end PySem.W.Fast
open PySem PySem.W PyProof.Rows
set_option maxRecDepth 100000 in
set_option maxHeartbeats 0 in
theorem PySem.Challenge.cw_amongalike_k03_whole_read_holds : PySem.Challenge.rw_amongalike_k03_whole_read.Holds := by
  w_on;o_law;k_head;(case hw=>w_witness2)
  k_fill
  refine L2.qcs (l:=PySem.Challenge.rw_amongalike_k03_whole_read) (n:=63) (k:=9) (x:="_law_script") (CX:=L2.CX0) (sp:=Eng.zdf) rfl (by decide) rfl ⟨rfl,by decide,by decide⟩ (λw h Y=>PySem.W.kIn_of Y) ?F (λK H a ns hl hO hS=>⟨a,ns,rfl,Eng.SqS.of hO hS,λ_=>rfl⟩) λ_ _ _ _ z=>z
  case F =>
    intro w mg fa h KX N hmg
    have D:Eng.Ds (L2.KOf KX) K03.G.fns K03.sts:=by
      dsimp only [L2.KOf]
      iterate 36 refine And.intro (by refine' Eng.yeb ?a ?l ?c ?k;(case a=>k_is);(case l=>k_is);(case c=>k_is);case k=>k_is) ?_
      exact trivial
    have z:Eng.Zs (L2.KOf KX) Eng.bltL:=by
      dsimp only [L2.KOf]
      iterate 18 refine And.intro (by k_is) ?_
      exact trivial
    have c:Eng.Cs (L2.KOf KX) K03.G.cons:=by
      dsimp only [L2.KOf]
      iterate 5 refine And.intro (by refine' Eng.jeb ?a;case a=>k_is) ?_
      exact trivial
    have t:Eng.TF (L2.KOf KX) "DIGITS" "0123456789":=by dsimp only [L2.KOf];refine' Eng.zec ?a;case a=>k_is
    have l:Eng.CL (L2.KOf KX):=by dsimp only [L2.KOf];refine' Eng.qec ?a ?b ?h1 ?h2;(case a=>k_is);(case b=>k_is);(case h1=>kernel_rfl);(case h2=>kernel_rfl)
    have T:=Eng.jec KX N D K03.hB z c rfl t l;obtain ⟨st,f,fd,e,F,a,-⟩:=T.defs 35 "law" rfl;cases (show some (K03.top 48)=some st from e);cases hmg.symm.trans a;refine ⟨fd,?b,λbase kb nb=>Eng.jcf (G:=K03.G) (Ns:=K03.Ns) (sts:=K03.sts) (P:=K03.prog) (k:=8) (i:=35) T K03.hP rfl rfl rfl F M.qdk⟩;obtain ⟨oc,od,kV,doc,pm,an,cdv,ct,osl,rfl,lk,hcd⟩:=F.ex;exact λs u=>.of_eq rfl

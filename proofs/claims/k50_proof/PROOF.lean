import PyProof.Rows.All
import Wide.All
import OpenK.AllK
import Wide.FinOn
import Lean
import PyProof.EqAt
import PyProof.EqKinds
import PyProof.TupleCall
import PyProof.CollectWalk
import PyProof.Draws
import PyProof.EnumMake
import PyProof.Rows.SetFrom
import PyProof.Rows.SortShell
import PyProof.Rows.SortWalk
import PyProof.WalksMore
import PyProof.ZipIter
import PyProof.ConsumeWalk
import PyProof.SumAny
import PyProof.WalkInts
import PyProof.SeqI3
import PyProof.TupleOfStr
import PyProof.ListRange
import PyProof.DictValues
import PyProof.DictWalks
import PyProof.MinMaxWalk
import PyProof.Rows.CallKwBuiltin
import PyProof.Claim2Refuses
import PyProof.P3Eq
import PyProof.DictRoadsH
import PyProof.TupleKey
import PySem.Challenge.RW_amongalike_k50_whole_possible
set_option Elab.async false
set_option linter.all false
set_option autoImplicit false
set_option genSizeOf false
set_option maxRecDepth 100000
section
open PySem PySem.Spec PyProof.Rows
theorem wd {α:Type _} {β:Type _} (a:α) (f:α->Option β):(some a).bind f=f a:=rfl
def we:=@wpAny_bind
def wg:=@Bool.and_eq_true
def wj:=@Heap.get?_push_of_some
def wm:=@wpAny_pure
def wo:=@Bool.false_eq_true
def wq:=@List.getElem?_eq_some_iff
def wt:=@Heap.get?_push_size
def wu:=@List.mem_cons
def wx:=@List.getElem?_map
def wz:=@Heap.lt_size
def wA:=@Bool.false_ne_true
def wB:=@Option.some.inj
def wC:=@Nat.le_refl
def wD:=@List.length_map
def wF:=@List.getElem?_set_ne
def wG:=@decide_eq_true_eq
def wH:=@List.mem_map
def wI:=@List.mem_cons_of_mem
def wJ:=@List.map_map
def wK:=@List.mem_append_right
def wL:=@Nat.lt_of_lt_of_le
def wM:=@Nat.ne_of_lt
def wN:=@List.mem_cons_self
def wO:=@List.getD_eq_getElem?_getD
def wQ:=@Nat.le_trans
def wR:=@List.mem_of_getElem?
def wU:=@List.length_append
def wV:=@Int.toNat_natCast
def wW:=@wpAny_call_entry
def wX:=@wpAny_setField_rec
def wY:=@beq_eq_false_iff_ne
def wZ:=@PySem.mem_of_lookup
def w4:=@Bool.not_eq_true'
def w8:=@wpAny_callSpecial?_slot
def w9:=@Option.isSome_iff_exists
def va:=@List.mem_singleton
def vc:=@wpAny_newObj_type
def vd:=@Int.emod_lt_of_pos
def ve:=@List.mem_range
def vf:=@Bool.eq_iff_iff
def vg:=@of_decide_eq_true
def vh:=@List.map_congr_left
def vi:=@List.getElem?_append_left
def vj:=@List.size_toArray
def vk:=@decide_eq_false
def vm:=@beq_iff_eq
def vn:=@List.getElem?_set_self
end
open PySem.W (Frag nsIn)
section
namespace Eng
open PySem
structure MemP where
 p:List Int->List (List Int)->Bool
 U:List (List Int×List (List Int))
 hl:U.length<=sizeLine
 hU:∀ a b,p a b=true->(a,b)∈U
inductive D where
 | non | bl (b:Bool) | int (i:Int) | str (x:Str) | tup (xs:List D) | lst (xs:List D) | scr (ns:List Int)
 /-- a dict whose keys are tuples of ints: its values -/
 | grp (xs:List D)
 /-- a dict that remembers: p holds of each of its keys -/
 | mem (m:MemP)
 /-- a dict of ints -/
 | dct (kvs:List (Int×Int))
mutual
noncomputable def eqD:D->D->Bool
 | .non,.non=>true
 | .bl a,.bl b=>a==b
 | .bl a,.int j=>(if a then 1 else 0)==j
 | .int i,.bl b=>i==(if b then 1 else 0)
 | .int i,.int j=>i==j
 | .str x,.str y=>x==y
 | .tup xs,.tup ys=>qb2 xs ys
 | .lst xs,.lst ys=>qb2 xs ys
 | _,_=>false
noncomputable def qb2:List D->List D->Bool
 | [],[]=>true
 | x::xs,y::ys=>eqD x y&&qb2 xs ys
 | _,_=>false
end
mutual
noncomputable def dep:D->Nat
 | .tup xs=>qbl xs+1
 | .lst xs=>qbl xs+1
 | _=>0
noncomputable def qbl:List D->Nat
 | []=>0
 | x::xs=>max (dep x) (qbl xs)
end
mutual
noncomputable def noL:D->Bool
 | .lst _=>false
 | .grp _=>false
 | .dct _=>false
 | .tup xs=>yay xs
 | _=>true
noncomputable def yay:List D->Bool
 | []=>true
 | x::xs=>noL x&&yay xs
end
mutual
noncomputable def noS:D->Bool
 | .scr _=>false
 | .grp _=>false
 | .mem _=>false
 | .dct _=>false
 | .str x=>x.cps.all (·<0x110000)
 | .tup xs=>zM xs
 | .lst xs=>zM xs
 | _=>true
noncomputable def zM:List D->Bool
 | []=>true
 | x::xs=>noS x&&zM xs
end
noncomputable def qee:D->Bool
 | .non=>false
 | .bl b=>b
 | .int i=>i != 0
 | .str x=>x.length != 0
 | .tup xs=>!xs.isEmpty
 | .lst xs=>!xs.isEmpty
 | .scr xs=>!xs.isEmpty
 | .grp xs=>!xs.isEmpty
 | .mem _=>true
 | .dct xs=>!xs.isEmpty
noncomputable def truO:D->Option Bool
 | .str _=>none
 | .grp _=>none
 | .mem _=>none
 | .dct _=>none
 | x=>some (qee x)
noncomputable abbrev En:=List (Option D)
noncomputable abbrev Tab:=Nat->List D->Option D
noncomputable def intsOf:List D->Option (List Int)
 | []=>some []
 | .int i::r=>(intsOf r).map (i::·)
 | _=>none
noncomputable def strsOf:List D->Option (List Str)
 | []=>some []
 | .str x::r=>(strsOf r).map (x::·)
 | _=>none
noncomputable def yad:List D->Option (List Bool)
 | []=>some []
 | .bl x::r=>(yad r).map (x::·)
 | _=>none
noncomputable def ju (i j:Int):Bool:=(decide (-(2^64)<i)&&decide (i<2^64))||(decide (-(2^64)<j)&&decide (j<2^64))
noncomputable def zco (k:Nat) (xs:List D):List D:=(List.replicate k xs).flatten
noncomputable def ydV:D->D->Option D
 | .int i,.int j=>some (.int (i+j))
 | .str x,.str y=>if x.length+y.length<=sizeLine then some (.str (x++y)) else none
 | .tup xs,.tup ys=>if xs.length+ys.length<=sizeLine then some (.tup (xs++ys)) else none
 | .lst xs,.lst ys=>if xs.length+ys.length<=sizeLine then some (.lst (xs++ys)) else none
 | _,_=>none
noncomputable def jdb:D->D->Option D
 | .int i,.int j=>if ju i j then some (.int (i*j)) else none
 | .tup xs,.int j=>if xs.length*j.toNat<=sizeLine/\-(2^63)<=j/\j<2^63 then some (.tup (zco j.toNat xs)) else none
 | .lst xs,.int j=>if xs.length*j.toNat<=sizeLine/\-(2^63)<=j/\j<2^63 then some (.lst (zco j.toNat xs)) else none
 | _,_=>none
noncomputable def ycC (f:Int->Int->Option D):D->D->Option D
 | .int i,.int j=>f i j
 | _,_=>none
noncomputable def qM (op:Operator) (x y:D):Option D:=match op with
 | .Add=>ydV x y
 | .Sub=>ycC (λi j=>some (.int (i-j))) x y
 | .Mult=>jdb x y
 | .FloorDiv=>ycC (λi j=>if 0<j/\j<1073741824 then some (.int (i/j)) else none) x y
 | .Mod=>ycC (λi j=>if 0<j then some (.int (i%j)) else none) x y
 | .Pow=>ycC (λi j=>if 0<=j/\j<=64/\i.natAbs<2^64 then some (.int (i^j.toNat)) else none) x y
 | _=>none
noncomputable def zC (x y:D):Bool:=(decide (dep x<=40)||decide (dep y<=40))&&noS x&&noS y
noncomputable def inD (x:D):List D->Bool
 | []=>false
 | y::r=>eqD y x||inD x r
noncomputable def isS:D->Bool
 | .str _=>true
 | _=>false
noncomputable def zdd (f:Int->Int->Bool):D->D->Option Bool
 | .int i,.int j=>some (f i j)
 | _,_=>none
noncomputable def isN:D->Bool
 | .non=>true
 | _=>false
noncomputable def isC:D->D->Option Bool
 | x,.non=>some (isN x)
 | .bl a,.bl b=>some (a==b)
 | _,_=>none
noncomputable def inC (x:D):D->Option Bool
 | .tup ys=>if zC x (.tup ys) then some (inD x ys) else none
 | .lst ys=>if zC x (.lst ys) then some (inD x ys) else none
 | .dct kvs=>(match x with | .int i=>some (kvs.any λp=>p.1==i) | _=>none)
 | _=>none
noncomputable def yC (op:CmpOp) (x y:D):Option Bool:=match op with
 | .Eq=>if (isS x&&isS y)||zC x y then some (eqD x y) else none
 | .NotEq=>if (isS x&&isS y)||zC x y then some (!eqD x y) else none
 | .Lt=>zdd (λi j=>decide (i<j)) x y
 | .LtE=>zdd (λi j=>decide (i<=j)) x y
 | .Gt=>zdd (λi j=>decide (j<i)) x y
 | .GtE=>zdd (λi j=>decide (j<=i)) x y
 | .Is=>isC x y
 | .IsNot=>(isC x y).map not
 | .In=>inC x y
 | .NotIn=>(inC x y).map not
noncomputable def ixN (n:Nat) (i:Int):Option Nat:=if 0<=i then (if i<n then some i.toNat else none) else if -(n:Int)<=i then some (i+n).toNat else none
noncomputable def atI {α:Type} (xs:List α) (i:Int):Option α:=(ixN xs.length i).bind λj=>xs[j]?
noncomputable def jam:D->D->Option D
 | .tup xs,.int i=>atI xs i
 | .lst xs,.int i=>atI xs i
 | .scr ns,.int i=>(atI ns i).map D.int
 | .dct kvs,.int i=>(kvs.lookup i).map D.int
 | _,_=>none
noncomputable def sIx (n d:Nat):Option Int->Nat
 | none=>d
 | some v=>if v<0 then (v+(n:Int)).toNat else min v.toNat n
noncomputable def cutD (xs:List D) (lo hi:Option Int):List D:=(xs.drop (sIx xs.length 0 lo)).take (sIx xs.length xs.length hi-sIx xs.length 0 lo)
noncomputable def jcC:D->Option Int->Option Int->Option D
 | .tup xs,lo,hi=>some (.tup (cutD xs lo hi))
 | .lst xs,lo,hi=>some (.lst (cutD xs lo hi))
 | _,_,_=>none
noncomputable def revD:D->Option D
 | .tup xs=>some (.tup xs.reverse)
 | .lst xs=>some (.lst xs.reverse)
 | _=>none
inductive Ty where
 | int | bool | str | tuple | list
noncomputable def qdd:D->Ty->Bool
 | .int _,.int=>true
 | .bl _,.int=>true
 | .bl _,.bool=>true
 | .str _,.str=>true
 | .tup _,.tuple=>true
 | .lst _,.list=>true
 | .scr _,.list=>true
 | _,_=>false
noncomputable def ydR:D->Ty->Option D
 | .scr _,_=>none
 | .grp _,_=>none
 | .mem _,_=>none
 | .dct _,_=>none
 | x,t=>some (.bl (qdd x t))
noncomputable def insI (x:Int):List Int->List Int
 | []=>[x]
 | y::r=>if x<=y then x::y::r else y::insI x r
noncomputable def sortI:List Int->List Int
 | []=>[]
 | x::r=>insI x (sortI r)
noncomputable def zan:List Int->List Int
 | []=>[]
 | x::r=>if r.contains x then zan r else x::zan r
noncomputable def lowM:Nat:=5
noncomputable def qT (ns:List Int):Bool:=ns.all λn=>decide (0<=n)&&decide (n<lowM)
inductive Blt where
 | len | lenSet | sortedSet | sorted | list | tuple | int | str | min | max | sum | all | any | join | count | minD | hdS | index
noncomputable def itemsD:D->Option (List D)
 | .tup xs=>some xs
 | .lst xs=>some xs
 | .scr ns=>some (ns.map D.int)
 | _=>none
mutual
noncomputable def ltD:D->D->Option Bool
 | .int i,.int j=>some (decide (i<j))
 | .tup xs,.tup ys=>yee xs ys
 | _,_=>none
noncomputable def yee:List D->List D->Option Bool
 | [],[]=>some false
 | [],_::_=>some true
 | _::_,[]=>some false
 | x::xs,y::ys=>if zC x y then (if eqD x y then yee xs ys else ltD x y) else none
end
noncomputable def qbm (x:D):List D->Nat
 | []=>0
 | y::r=>(if eqD y x then 1 else 0)+qbm x r
noncomputable def ints1 (f:List Int->Option D):List D->Option D
 | [x]=>(itemsD x).bind λxs=>(intsOf xs).bind f
 | _=>none
noncomputable def jee (f:List Bool->D):List D->Option D
 | [x]=>(itemsD x).bind λxs=>(yad xs).map f
 | _=>none
noncomputable def jdV:List D->Option D
 | [x]=>match x with | .str z=>if z.length<=sizeLine then some (.int z.length) else none | _=>(itemsD x).map λxs=>.int xs.length
 | _=>none
noncomputable def qek:List D->Option D
 | [.scr _]=>none
 | [x]=>(itemsD x).map D.lst
 | _=>none
noncomputable def yek:List D->Option D
 | [.scr _]=>none
 | [x]=>(itemsD x).map D.tup
 | _=>none
noncomputable def jek:List D->Option D
 | [.bl b]=>some (.int (if b then 1 else 0))
 | [.int i]=>some (.int i)
 | _=>none
noncomputable def zdW:List D->Option D
 | [.str sep,.lst xs]=>(strsOf xs).bind λts=>if (ts.map (·.length)).sum+ts.length*sep.length<=sizeLine then some (.str (Str.join sep ts)) else none
 | _=>none
noncomputable def zel:List D->Option D
 | [.tup xs,y]=>if zC y (.tup xs) then some (.int (qbm y xs)) else none
 | _=>none
noncomputable def idxOf (x:D):List D->Option Nat
 | []=>none
 | y::r=>if eqD y x then some 0 else (idxOf x r).map (·+1)
noncomputable def ixB:List D->Option D
 | [.tup xs,y]=>if zC y (.tup xs) then (idxOf y xs).map λ(i:Nat)=>D.int (i:Int) else none
 | _=>none
noncomputable def qco (xs:List D):Option D:=match intsOf xs with | some ns=>some (.lst ((sortI ns).map D.int)) | none=>none
noncomputable def qel:List D->Option D
 | [.lst xs]=>if xs.length<64 then qco xs else none
 | _=>none
noncomputable def yz:Blt->List D->Option D
 | .index=>ixB
 | .len=>jdV
 | .sortedSet=>ints1 λns=>if qT ns then some (.lst ((sortI (zan ns)).map D.int)) else none
 | .sorted=>qel
 | .list=>qek
 | .tuple=>yek
 | .int=>jek
 | .all=>jee λbs=>.bl (bs.all id)
 | .join=>zdW
 | .count=>zel
 | _=>λ_=>none
inductive Tgt where
 | one (i:Nat) | many (is:List Nat)
mutual
inductive Code where
 | cst (d:D) | var (i:Nat) | bin (op:Operator) (a b:Code) | neg (a:Code) | not (a:Code)
 | and (a b:Code) | or (a b:Code) | ite (c a b:Code) | cmp (op:CmpOp) (a b:Code) | chn (op op':CmpOp) (a b c:Code)
 | tup (cs:Codes) | lst (cs:Codes) | idx (a b:Code) | slc (a:Code) (lo hi:OCode) | rev (a:Code)
 | call (f:Nat) (cs:Codes) | blt (b:Blt) (cs:Codes) | isi (a:Code) (t:Ty)
 | comp (e:Code) (t:Tgt) (n:Nat) (keep:List Nat) (it:Iter) (c:OCode)
 | ofi (b:Blt) (it:Iter)
 /-- {a: b} -/
 | dlit (a b:Code)
 /-- min(c, key=lambda x: e) -/
 | mink (e:Code) (keep:List Nat) (c:Code)
inductive Codes where
 | nil | cons (c:Code) (cs:Codes)
inductive OCode where
 | none | some (c:Code)
inductive Iter where
 | data (c:Code) | rng (cs:Codes) | enu (c:Code) | zip (a b:Code) | vals (c:Code)
end
noncomputable def setM:List Nat->List D->En->En
 | i::is,d::ds,ρ=>setM is ds (ρ.set i (some d))
 | _,_,ρ=>ρ
noncomputable def jay:Tgt->D->En->Option En
 | .one i,d,ρ=>some (ρ.set i (some d))
 | .many is,.tup ds,ρ=>if ds.length=is.length then some (setM is ds ρ) else none
 | _,_,_=>none
noncomputable def yj (n:Nat) (keep:List Nat) (ρ:En):En:=List.replicate n none++keep.map λi=>(ρ[i]?).join
noncomputable def gather (f:D->Option (Option D)):List D->Option (List D)
 | []=>some []
 | d::ds=>(f d).bind λo=>(gather f ds).map λr=>match o with | none=>r | some x=>x::r
noncomputable def jb (lo:Int):Nat->List D
 | 0=>[]
 | n+1=>.int lo::jb (lo+1) n
noncomputable def rngD:List D->Option (List D)
 | [.int j]=>if -(2^62)<=j/\j<2^62/\j.toNat<=sizeLine then some (jb 0 j.toNat) else none
 | [.int i,.int j]=>if -(2^62)<=i/\i<2^62/\-(2^62)<=j/\j<2^62/\(j-i).toNat<=sizeLine then some (jb i (j-i).toNat) else none
 | _=>none
noncomputable def qP (k:Nat):List D->List D
 | []=>[]
 | d::ds=>.tup [.int k,d]::qP (k+1) ds
noncomputable def ydd:D->Option (List D)
 | .grp xs=>some xs
 | _=>none
noncomputable def jaO:List D->List D->List D
 | x::xs,y::ys=>.tup [x,y]::jaO xs ys
 | _,_=>[]
noncomputable def yb2:D->Option Int
 | .int i=>some i
 | _=>none
noncomputable def jdR:D->Option (List (Int×Int))
 | .dct k=>some k
 | _=>none
noncomputable def jb0 (kvs:List (Int×Int)) (k v:Int):List (Int×Int):=if kvs.any λp=>p.1==k then kvs.map λp=>if p.1=k then (p.1,v) else p else kvs++[(k,v)]
noncomputable def zaz (f:D->Option D) (b:D) (kb:Int):List D->Option D
 | []=>some b
 | x::r=>(f x).bind λk=>match k with | .int i=>if i<kb then zaz f x i r else zaz f b kb r | _=>none
noncomputable def zdS (f:D->Option D):List D->Option D
 | []=>none
 | x::r=>(f x).bind λk=>match k with | .int i=>zaz f x i r | _=>none
noncomputable def yM:List D->Option (List (List Int))
 | []=>some []
 | .tup xs::r=>(intsOf xs).bind λns=>(yM r).map (ns::·)
 | _=>none
noncomputable def jdd:D->D->Option (List Int×List (List Int))
 | .tup xs,.tup ys=>(intsOf xs).bind λns=>(yM ys).map λl=>(ns,l)
 | _,_=>none
mutual
noncomputable def ev (C:Tab):Code->En->Option D
 | .cst d,_=>some d
 | .var i,ρ=>(ρ[i]?).join
 | .bin op a b,ρ=>(ev C a ρ).bind λx=>(ev C b ρ).bind λy=>qM op x y
 | .neg a,ρ=>(ev C a ρ).bind λx=>match x with | .int i=>some (.int (-i)) | _=>none
 | .not a,ρ=>(ev C a ρ).bind λx=>(truO x).map λk=>.bl (!k)
 | .and a b,ρ=>(ev C a ρ).bind λx=>match x with | .bl true=>ev C b ρ | .bl false=>some (.bl false) | _=>none
 | .or a b,ρ=>(ev C a ρ).bind λx=>match x with | .bl false=>ev C b ρ | .bl true=>some (.bl true) | _=>none
 | .ite c a b,ρ=>(ev C c ρ).bind λx=>(truO x).bind λk=>if k then ev C a ρ else ev C b ρ
 | .cmp op a b,ρ=>(ev C a ρ).bind λx=>(ev C b ρ).bind λy=>(yC op x y).map D.bl
 | .chn op op' a b c,ρ=>(ev C a ρ).bind λx=>(ev C b ρ).bind λy=>(yC op x y).bind λt =>
  if t then (ev C c ρ).bind λz=>(yC op' y z).map D.bl else some (.bl false)
 | .tup cs,ρ=>(evs C cs ρ).bind λxs=>if xs.length<=sizeLine then some (.tup xs) else none
 | .lst cs,ρ=>(evs C cs ρ).bind λxs=>if xs.length<=sizeLine then some (.lst xs) else none
 | .idx a b,ρ=>(ev C a ρ).bind λx=>(ev C b ρ).bind λy=>jam x y
 | .slc a lo hi,ρ=>(ev C a ρ).bind λx=>(evO C lo ρ).bind λl=>(evO C hi ρ).bind λh=>jcC x l h
 | .rev a,ρ=>(ev C a ρ).bind revD
 | .call f cs,ρ=>(evs C cs ρ).bind λxs=>C f xs
 | .blt b cs,ρ=>(evs C cs ρ).bind λxs=>yz b xs
 | .isi a t,ρ=>(ev C a ρ).bind λx=>ydR x t
 | .comp e t n keep it c,ρ=>(evI C it ρ).bind λds =>
  (gather (λd=>(jay t d (yj n keep ρ)).bind λρ'=>(evT C c ρ').bind λk=>if k then (ev C e ρ').map some else some none) ds).map D.lst
 | .ofi b it,ρ=>(evI C it ρ).bind λds=>match b with | .list=>some (.lst ds) | .tuple=>some (.tup ds) | _=>none
 | .dlit a b,ρ=>((ev C a ρ).bind yb2).bind λi=>((ev C b ρ).bind yb2).bind λj=>some (.dct [(i,j)])
 | .mink e keep c,ρ=>(ev C c ρ).bind λx=>match x with | .tup xs=>zdS (λd=>ev C e (some d::keep.map λi=>(ρ[i]?).join)) xs | _=>none
noncomputable def evs (C:Tab):Codes->En->Option (List D)
 | .nil,_=>some []
 | .cons c cs,ρ=>(ev C c ρ).bind λx=>(evs C cs ρ).map λxs=>x::xs
noncomputable def evO (C:Tab):OCode->En->Option (Option Int)
 | .none,_=>some none
 | .some c,ρ=>(ev C c ρ).bind λx=>match x with | .int i=>some (some i) | _=>none
noncomputable def evT (C:Tab):OCode->En->Option Bool
 | .none,_=>some true
 | .some c,ρ=>(ev C c ρ).bind truO
noncomputable def evI (C:Tab):Iter->En->Option (List D)
 | .data c,ρ=>(ev C c ρ).bind itemsD
 | .rng cs,ρ=>(evs C cs ρ).bind rngD
 | .enu c,ρ=>(ev C c ρ).bind λx=>(itemsD x).map (qP 0)
 | .zip a b,ρ=>(ev C a ρ).bind λx=>(ev C b ρ).bind λy=>(itemsD x).bind λxs=>(itemsD y).map λys=>jaO xs ys
 | .vals c,ρ=>(ev C c ρ).bind ydd
end
inductive Sl where
 | un | pu (d:D) | ow (ds:List D) | gr (es:List (List Int×List D))
inductive Mode where
 | pu | cl | ow
mutual
inductive Stm where
 | set (m:Mode) (t:Tgt) (e:Code)
 | app (i:Nat) (m:Mode) (e:Code)
 | ite (c:Code) (a b:Stms)
 | for (t:Tgt) (it:Iter) (b:Stms)
 | ret (e:Code)
 | newd (i:Nat) | grp (i:Nat) (k v:Code) | ext (i:Nat) (m:Mode) (e:Code)
 | put (i:Nat) (k e:Code) | newm (i:Nat) (e:Code) (f:D->MemP) | rem (i:Nat) (e:Code) | whl (n:Nat) (c:Code) (b:Stms)
 | brk | cnt | pas
inductive Stms where
 | nil | cons (s:Stm) (r:Stms) | frz (i:Nat) (r:Stms) | mgd (i:Nat) (a b:Code) (r:Stms) | mput (i:Nat) (a b:Code) (r:Stms)
 /-- x = dict(d); x[k] = v -/
 | dcp (i:Nat) (d k v:Code) (r:Stms)
end
inductive Fl where
 | nx (ρ:List Sl) | rt (d:D) | bk (ρ:List Sl) | ct (ρ:List Sl)
noncomputable def Sl.all:Sl->Option D
 | .un=>none
 | .pu d=>some d
 | .ow ds=>some (.lst ds)
 | .gr es=>some (.grp (es.map λe=>.lst e.2))
noncomputable def Sl.isGr:Sl->Bool
 | .gr _=>true
 | _=>false
noncomputable def yT (k:List Int) (d:D):List (List Int×List D)->List (List Int×List D)
 | []=>[(k,[d])]
 | (j,ds)::r=>if j=k then (j,ds++[d])::r else (j,ds)::yT k d r
noncomputable def qdS:D->Option (List Int)
 | .tup xs=>intsOf xs
 | _=>none
noncomputable def zde (i:Nat) (k:List Int) (d:D) (ρ:List Sl):Option Fl:=match ρ[i]? with
 | some (.gr es)=>if es.length<1000/\(∀ e∈es,e.2.length<1000) then some (.nx (ρ.set i (.gr (yT k d es)))) else none
 | _=>none
noncomputable def yco (i:Nat) (d:D) (ρ:List Sl):Option Fl:=match ρ[i]?,d with
 | some (.ow ds),.lst es=>if ds.length+es.length<sizeLine then some (.nx (ρ.set i (.ow (ds++es)))) else none
 | some (.ow ds),.tup es=>if ds.length+es.length<sizeLine then some (.nx (ρ.set i (.ow (ds++es)))) else none
 | _,_=>none
noncomputable def zef:D->Bool
 | .lst es=>yay es
 | _=>false
noncomputable def qde (i:Nat) (k d:D) (ρ:List Sl):Option Fl:=match ρ[i]?,k with
 | some (.ow ds),.int j=>if 0<=j/\j<ds.length then some (.nx (ρ.set i (.ow (ds.set j.toNat d)))) else none
 | _,_=>none
noncomputable def zdc (ρ:List Sl) (i:Nat):Option MemP:=match ρ[i]? with
 | some (.pu (.mem p))=>some p
 | _=>none
noncomputable def Sl.pure:Sl->Option D
 | .pu d=>some d
 | _=>none
noncomputable def vA (ρ:List Sl):En:=ρ.map Sl.all
noncomputable def vP (ρ:List Sl):En:=ρ.map Sl.pure
noncomputable def puM:List Nat->List D->List Sl->List Sl
 | i::is,d::ds,ρ=>puM is ds (ρ.set i (.pu d))
 | _,_,ρ=>ρ
noncomputable def puT:Tgt->D->List Sl->Option (List Sl)
 | .one i,d,ρ=>some (ρ.set i (.pu d))
 | .many is,.tup ds,ρ=>if ds.length=is.length then some (puM is ds ρ) else none
 | _,_,_=>none
noncomputable def forL (f:D->List Sl->Option Fl):List D->List Sl->Option Fl
 | [],ρ=>some (.nx ρ)
 | d::ds,ρ=>(f d ρ).bind λr=>match r with
  | .nx ρ'=>forL f ds ρ'
  | .ct ρ'=>forL f ds ρ'
  | .bk ρ'=>some (.nx ρ')
  | .rt v=>some (.rt v)
noncomputable def zb1 (f:List Sl->Option Fl) (t:List Sl->Option Bool):Nat->List Sl->Option Fl
 | 0,_=>none
 | n+1,ρ=>(t ρ).bind λk=>if k then (f ρ).bind λr=>match r with
  | .nx ρ'=>zb1 f t n ρ'
  | .ct ρ'=>zb1 f t n ρ'
  | .bk ρ'=>some (.nx ρ')
  | .rt v=>some (.rt v)
  else some (.nx ρ)
noncomputable def yde (i:Nat) (d:D) (ρ:List Sl):Option Fl:=match ρ[i]? with
 | some (.ow ds)=>(yb2 d).bind λa=>(intsOf ds).bind λns=>if a∈ns then some (.nx (ρ.set i (.ow ((ns.erase a).map D.int)))) else none
 | _=>none
mutual
noncomputable def ex (C:Tab):Stm->List Sl->Option Fl
 | .set .pu t e,ρ=>(ev C e (vP ρ)).bind λd=>(puT t d ρ).map Fl.nx
 | .set .cl t e,ρ=>(ev C e (vA ρ)).bind λd=>if noL d then (puT t d ρ).map Fl.nx else none
 | .set .ow t e,ρ=>(ev C e (vA ρ)).bind λd=>match t,d with
  | .one i,.lst ds=>if yay ds then some (.nx (ρ.set i (.ow ds))) else none
  | _,_=>none
 | .app i m e,ρ=>(ev C e (match m with | .pu=>vP ρ | _=>vA ρ)).bind λd=>match m,ρ[i]? with
  | .pu,some (.ow ds)=>if ds.length<sizeLine then some (.nx (ρ.set i (.ow (ds++[d])))) else none
  | .cl,some (.ow ds)=>if noL d&&decide (ds.length<sizeLine) then some (.nx (ρ.set i (.ow (ds++[d])))) else none
  | _,_=>none
 | .ite c a b,ρ=>(ev C c (vA ρ)).bind λd=>(truO d).bind λk=>if k then exs C a ρ else exs C b ρ
 | .for t it b,ρ=>(evI C it (vP ρ)).bind λds=>forL (λd ρ'=>(puT t d ρ').bind λρ''=>exs C b ρ'') ds ρ
 | .ret e,ρ=>(ev C e (vA ρ)).map Fl.rt
 | .newd i,ρ=>if (ρ.set i .un).any Sl.isGr then none else some (.nx (ρ.set i (.gr [])))
 | .grp i k v,ρ=>(ev C k (vP ρ)).bind λx=>(ev C v (vP ρ)).bind λd=>(qdS x).bind λns=>zde i ns d ρ
 | .ext i m e,ρ=>(ev C e (match m with | .pu=>vP ρ | _=>vA ρ)).bind λd=>match m with | .pu=>yco i d ρ | _=>if zef d then yco i d ρ else none
 | .put i k e,ρ=>(ev C e (vP ρ)).bind λd=>(ev C k (vP ρ)).bind λj=>qde i j d ρ
 | .newm i e f,ρ=>(ev C e (vP ρ)).bind λd=>some (.nx (ρ.set i (.pu (.mem (f d)))))
 | .rem i e,ρ=>(ev C e (vP ρ)).bind λd=>yde i d ρ
 | .whl n c b,ρ=>zb1 (λρ'=>exs C b ρ') (λρ'=>(ev C c (vA ρ')).bind truO) n ρ
 | .brk,ρ=>some (.bk ρ)
 | .cnt,ρ=>some (.ct ρ)
 | .pas,ρ=>some (.nx ρ)
noncomputable def exs (C:Tab):Stms->List Sl->Option Fl
 | .nil,ρ=>some (.nx ρ)
 | .cons s r,ρ=>(ex C s ρ).bind λf=>match f with
  | .nx ρ'=>exs C r ρ'
  | f=>some f
 | .frz i r,ρ=>match ρ[i]? with
  | some (.ow ds)=>exs C r (ρ.set i (.pu (.lst ds)))
  | _=>none
 | .mgd i a b r,ρ=>(ev C a (vP ρ)).bind λx=>(ev C b (vP ρ)).bind λy=>(jdd x y).bind λk=>(zdc ρ i).bind λp =>
  (exs C r ρ).bind λf=>if p.p k.1 k.2 then (match f with | .rt (.bl false)=>some f | _=>none) else some f
 | .mput i a b r,ρ=>(ev C a (vP ρ)).bind λx=>(ev C b (vP ρ)).bind λy=>(jdd x y).bind λk=>(zdc ρ i).bind λp=>if p.p k.1 k.2 then exs C r ρ else none
 | .dcp i d k v r,ρ=>((ev C d (vP ρ)).bind jdR).bind λkvs=>((ev C v (vP (ρ.set i (.pu (.dct kvs))))).bind yb2).bind λb=>((ev C k (vP (ρ.set i (.pu (.dct kvs))))).bind yb2).bind λa=>if kvs.length<1000 then exs C r (ρ.set i (.pu (.dct (jb0 kvs a b)))) else none
end
structure Def where
 n:Nat
 p:Nat
 b:Stms
noncomputable def jC (C:Tab) (f:Def) (ds:List D):Option D :=
 if ds.length=f.p then
  (exs C f.b (ds.map Sl.pu++List.replicate (f.n-f.p) .un)).bind λr=>match r with
   | .rt d=>some d
   | .nx _=>some .non
   | _=>none
 else none
noncomputable def jh (P:List Def):Nat->Tab
 | 0=>λ_ _=>none
 | k+1=>λi ds=>(P[i]?).bind λf=>jC (jh P k) f ds
theorem yq:∀ {l m:List Int},l.Perm m->l.Pairwise (·<=·)->m.Pairwise (·<=·)->l=m
 | [],m,p,_,_=>(List.perm_nil.mp p.symm).symm
 | x::l,[],p,_,_=>by have:=p.length_eq;simp at this
 | x::l,y::m,p,h1,h2=>by
  rw [List.pairwise_cons] at h1 h2
  have e:x=y:=by
   have hx:x∈y::m:=p.mem_iff.mp (by simp);have hy:y∈x::l:=p.mem_iff.mpr (by simp);rcases wu.mp hx with z | z
   ·exact z
   ·rcases wu.mp hy with w | w
    ·exact w.symm
    ·exact Int.le_antisymm (h1.1 y w) (h2.1 x z)
  subst e;rw [yq (List.perm_cons x |>.mp p) h1.2 h2.2]
theorem insI_perm (x:Int):∀ l:List Int,(insI x l).Perm (x::l)
 | []=>List.Perm.refl _
 | y::r=>by
  unfold insI;split
  ·exact List.Perm.refl _
  ·exact ((insI_perm x r).cons y).trans (List.Perm.swap x y r)
theorem sortI_perm:∀ l:List Int,(sortI l).Perm l
 | []=>List.Perm.refl _
 | x::r=>(insI_perm x (sortI r)).trans ((sortI_perm r).cons x)
theorem qY (x:Int):∀ {l:List Int},l.Pairwise (·<=·)->(insI x l).Pairwise (·<=·)
 | [],_=>by simp [insI]
 | y::r,h=>by
  rw [List.pairwise_cons] at h;unfold insI;split
  ·rename_i hxy;refine List.pairwise_cons.mpr ⟨λz hz=>?_,List.pairwise_cons.mpr h⟩;rcases wu.mp hz with e | e
   ·rw [e];exact hxy
   ·exact Int.le_trans hxy (h.1 z e)
  ·rename_i hxy;refine List.pairwise_cons.mpr ⟨λz hz=>?_,qY x h.2⟩;rcases wu.mp ((insI_perm x r).mem_iff.mp hz) with e | e
   ·rw [e];omega
   ·exact h.1 z e
theorem yv:∀ l:List Int,(sortI l).Pairwise (·<=·)
 | []=>List.Pairwise.nil
 | x::r=>qY x (yv r)
theorem mem_dedI {x:Int}:∀ {l:List Int},x∈zan l↔x∈l
 | []=>by simp [zan]
 | y::r=>by
  unfold zan;split
  ·rename_i h;rw [mem_dedI (l:=r)];have hy:y∈r:=by simpa using h
   constructor
   ·intro z;exact wI _ z
   ·intro z;rcases wu.mp z with e | e
    ·rw [e];exact hy
    ·exact e
  ·simp [mem_dedI (l:=r)]
theorem jG:∀ l:List Int,(zan l).Nodup
 | []=>List.nodup_nil
 | y::r=>by
  unfold zan;split
  ·exact jG r
  ·rename_i h;refine List.nodup_cons.mpr ⟨λz=>h (by simpa using mem_dedI.mp z),jG r⟩
theorem yY:∀ {l m:List Int},l.Nodup->m.Nodup->(∀ x,x∈l↔x∈m)->l.Perm m:=λh1 h2 h=>(List.perm_ext_iff_of_nodup h1 h2).mpr h
end Eng
end
section
namespace L2
open PySem PySem.Spec PyProof.Rows
noncomputable abbrev Key:=Sum Int Str
noncomputable def jb2:Key->Value->Bool
 | .inl k,v=>Value.isInt k v
 | .inr x,v=>Value.isStrOf x v
noncomputable def yel (w:World):Key->Int
 | .inl k=>hashInt k
 | .inr x=>hashStr w x
theorem jj:∀ {k:Key} {v:Value},jb2 k v=true->(∃ i t,k=Sum.inl i/\v=Value.int i t)\/(∃ x t,k=Sum.inr x/\v=Value.str x t)
 | .inl i,v,h=>by
  obtain ⟨t,e⟩:=Value.isInt_shape (k:=i) (v:=v) h;exact .inl ⟨i,t,rfl,e⟩
 | .inr x,v,h=>by
  obtain ⟨t,e⟩:=Value.isStrOf_shape (x:=x) (v:=v) h;exact .inr ⟨x,t,rfl,e⟩
theorem ybm (i:Int) (t:Tok):jb2 (.inl i) (.int i t)=true:=by simp [jb2,Value.isInt]
theorem jco (a b:Int):decide ((Sum.inl a:Key)=Sum.inl b)=(a==b):=by
 by_cases e:a=b
 ·subst e;simp
 ·have h:¬ (Sum.inl a:Key)=Sum.inl b:=λq=>e (Sum.inl.inj q)
  rw [vk h];exact (wY.mpr e).symm
theorem jde (a b:Str):decide ((Sum.inr a:Key)=Sum.inr b)=decide (a=b):=by
 by_cases e:a=b
 ·subst e;simp
 ·have h:¬ (Sum.inr a:Key)=Sum.inr b:=λq=>e (Sum.inr.inj q)
  rw [vk h,vk e]
theorem zdf (a:Int) (b:Str):decide ((Sum.inl a:Key)=Sum.inr b)=false:=vk (λq=>nomatch q)
theorem qdf (a:Str) (b:Int):decide ((Sum.inr a:Key)=Sum.inl b)=false:=vk (λq=>nomatch q)
noncomputable def yJ (prog:Program) (w:World):PySem.KeyKind prog w Key where
 is:=jb2
 hash:=yel w
 inj:=λv a b ha hb=>by
  rcases jj ha with ⟨i,t,rfl,rfl⟩ | ⟨x,t,rfl,rfl⟩
  ·rcases jj hb with ⟨j,u,rfl,e⟩ | ⟨y,u,rfl,e⟩
   ·injection e with e1 _;rw [e1]
   ·exact nomatch e
  ·rcases jj hb with ⟨j,u,rfl,e⟩ | ⟨y,u,rfl,e⟩
   ·exact nomatch e
   ·injection e with e1 _;rw [e1]
 byValue:=λk v h=>by
  rcases jj h with ⟨i,t,rfl,rfl⟩ | ⟨x,t,rfl,rfl⟩<;>rfl
 pyHash:=λhv h=>by
  rcases jj hv with ⟨i,t,rfl,rfl⟩ | ⟨x,t,rfl,rfl⟩
  ·exact wpAny_pyHash_int h
  ·exact wpAny_pyHash_str h
 eqBool:=λhu hv h=>by
  rcases jj hu with ⟨i,t,rfl,rfl⟩ | ⟨x,t,rfl,rfl⟩
  ·rcases jj hv with ⟨j,u,rfl,rfl⟩ | ⟨y,u,rfl,rfl⟩
   ·rw [jco] at h;exact wpAny_eqBool_int h
   ·rw [zdf] at h;exact SeqAt.EqAt.int_str i t y u _ _ _ _ h
  ·rcases jj hv with ⟨j,u,rfl,rfl⟩ | ⟨y,u,rfl,rfl⟩
   ·rw [qdf] at h;exact SeqAt.EqAt.str_int x t j u _ _ _ _ h
   ·rw [jde] at h;exact wpAny_eqBool_str h
 «strs»:=λk x t v h=>by
  rcases jj h with ⟨i,u,rfl,e⟩ | ⟨y,u,rfl,e⟩
  ·exact nomatch e
  ·injection e with e1 _
   subst e1
   cases v<;>rfl
theorem zaP (prog:Program) (w:World) (i:Int) (t:Tok):(yJ prog w).is (.inl i) (.int i t)=true:=ybm i t
inductive V where
 | non | bl (b:Bool) | int (i:Int) | str (x:Str) | byt (b:Array UInt8) | flt (b:UInt64) | ref (a:Addr) | ty (n:String)
 deriving DecidableEq
def RelV:V->Value->Prop
 | .non,u=>u=Value.none
 | .bl b,u=>u=Value.bool b
 | .int i,u=>∃ t,u=Value.int i t
 | .str x,u=>∃ t,u=Value.str x t
 | .byt b,u=>∃ t,u=Value.bytes b t
 | .flt b,u=>∃ t,u=Value.float b t
 | .ref a,u=>u=Value.ref a
 | .ty n,u=>u=Value.type n
abbrev Vals:List V->List Value->Prop:=Paired RelV
theorem Vals.length {xs:List V} {us:List Value} (r:Vals xs us):xs.length=us.length:=Paired.length r
theorem Vals.get:∀ {xs:List V} {us:List Value} {i:Nat} {x:V},Vals xs us->xs[i]?=some x->∃ u,us[i]?=some u/\RelV x u
 | _,_,_,_,.nil,e=>by simp at e
 | _,_,0,_,.cons r _,e=>by simp at e;subst e;exact ⟨_,rfl,r⟩
 | _,_,i+1,x,.cons _ t,e=>by
  obtain ⟨u,h1,h2⟩:=Vals.get (i:=i) (x:=x) t (by simpa using e);exact ⟨u,by simpa using h1,h2⟩
theorem Vals.set {x:V} {u:Value} (r:RelV x u):∀ {xs:List V} {us:List Value} (i:Nat),Vals xs us->Vals (xs.set i x) (us.set i u)
 | _,_,_,.nil=>.nil
 | _,_,0,.cons _ t=>.cons r t
 | _,_,i+1,.cons q t=>.cons q (Vals.set r i t)
theorem Vals.append:∀ {xs ys:List V} {us ws:List Value},Vals xs us->Vals ys ws->Vals (xs++ys) (us++ws)
 | _,_,_,_,.nil,s=>s
 | _,_,_,_,.cons r t,s=>.cons r (Vals.append t s)
theorem Vals.take:∀ {xs:List V} {us:List Value} (n:Nat),Vals xs us->Vals (xs.take n) (us.take n)
 | _,_,0,_=>.nil
 | _,_,_+1,.nil=>.nil
 | _,_,n+1,.cons r t=>.cons r (Vals.take n t)
theorem Vals.drop:∀ {xs:List V} {us:List Value} (n:Nat),Vals xs us->Vals (xs.drop n) (us.drop n)
 | _,_,0,r=>r
 | _,_,_+1,.nil=>.nil
 | _,_,n+1,.cons _ t=>Vals.drop n t
def RelO:Option V->Option Value->Prop
 | some v,some u=>RelV v u
 | none,none=>True
 | _,_=>False
def KV {κ:Type}:List (κ×V)->List (κ×Value)->Prop:=Paired λ(p:κ×V) (q:κ×Value)=>p.1=q.1/\RelV p.2 q.2
noncomputable def kV:Key->V
 | .inl i=>.int i
 | .inr x=>.str x
inductive HO where
 /-- a list -/
 | lst (xs:List V)
 /-- a tuple (never changes) -/
 | tup (xs:List V)
 /-- a dict whose keys are ints and texts; one whose keys are tuples of ints and texts (the empty one is both) -/
 | dK (kvs:List (Key×V)) | dT (kvs:List (List Key×V))
 /-- a set of ints: its members, its size -/
 | set (S:Int->Bool) (n:Nat)
 /-- an instance of the class at C, its dict at dx, its attributes -/
 | ins (C dx:Addr) (fs:List (Str×V))
 /-- the dict of the instance at x -/
 | own (x:Addr)
 /-- the dict of an exception -/
 | xd (fs:List (Str×V))
 /-- a bound method, f of x -/
 | met (f x:Addr)
 /-- a range object lo, lo + 1, .. below hi -/
 | rng (lo hi:Int)
 /-- a thing that is known to the object (the script; a dict while a loop walks it): read, never written while it is so -/
 | frz (o:Obj) (u:HO)
 /-- a code object's table -/
 | tbl (pos:Pos) (qual:Str)
 /-- a dict that remembers -/
 | mm (m:Eng.MemP)
 /-- any other thing, by what is true of its one object (a def of one's own: qdc a S n := HO.ext λh => ..) -/
 | ext (φ:Heap->Prop)
noncomputable abbrev Hp:=Addr->Option HO
noncomputable def upd (H:Hp) (a:Addr) (o:HO):Hp:=λb=>if b=a then some o else H b
theorem ya {H:Hp} {a:Addr} {o:HO}:upd H a o a=some o:=by unfold upd;rw [if_pos rfl]
theorem ja {H:Hp} {a b:Addr} {o:HO} (h:b≠a):upd H a o b=H b:=by unfold upd;rw [if_neg h]
theorem jc {H:Hp} {a b:Addr} {o:HO} (h:H a=some o) (h':H b=none):a≠b:=by
 intro e;subst e;rw [h] at h';cases h'
noncomputable def tkI (ns:List Int):Int:=reduceHash (Builtin.Tuple.tupleHashOf (ns.map hashInt))
noncomputable def zcD (k:List Int×List (List Int)):Int:=reduceHash (Builtin.Tuple.tupleHashOf [tkI k.1,reduceHash (Builtin.Tuple.tupleHashOf (k.2.map tkI))])
noncomputable def ydS (x:(List Int×List (List Int))×Addr):DictEntry:={ hash:=zcD x.1,key:=.ref x.2,val:=.bool true }
def KeyM (H:Hp) (k:List Int×List (List Int)) (b:Addr):Prop:=∃ r l ls,H b=some (.tup [.ref r,.ref l])/\H r=some (.tup (k.1.map V.int))/\H l=some (.tup (ls.map V.ref))/\Paired (λ(a:Addr) (ns:List Int)=>H a=some (.tup (ns.map V.int))) ls k.2
def IsTupN (h:Heap) (a:Addr) (items:Array Value):Prop:=∃ o,h.get? a=some o/\o.cls=.type "tuple"/\o.dict=none/\∃ n,o.data=.seq items n
theorem IsTupN.tup {h:Heap} {a:Addr} {items:Array Value} (x:IsTupN h a items):PyProof.Rows.IsTup h a items:=let ⟨o,e,c,_,d⟩:=x;⟨o,e,c,d⟩
theorem IsTupN.new (h:Heap) (items:Array Value):IsTupN (h.push { cls:=.type "tuple",data:=.seq items }) h.objs.size items:=⟨_,wt _ rfl,rfl,rfl,_,rfl⟩
section
variable (P:Program) (w:World)
def ObjOk (H:Hp) (h:Heap) (a:Addr):HO->Prop
 | .lst xs=>xs.length<=sizeLine/\∃ (its:List Value) (n:Nat),Vals xs its/\h.get? a=some { cls:=.type "list",data:=.seq its.toArray n }
 | .tup xs=>xs.length<=sizeLine/\∃ its:List Value,Vals xs its/\IsTupN h a its.toArray
 | .dK kvs=>kvs.length<=sizeLine/\(a==sysModules)=false/\∃ vs,KV kvs vs/\h.DictOf (yJ P w) a vs
 | .dT kvs=>kvs.length<=sizeLine/\(a==sysModules)=false/\∃ xs:List (List Key×Addr×Value),
  Paired (λ(p:List Key×V) (q:List Key×Addr×Value)=>p.1=q.1/\H q.2.1=some (.tup (p.1.map kV))/\RelV p.2 q.2.2) kvs xs /\
  ∃ o es ep,h.get? a=some o/\o.ExactDict/\o.data=.dict es ep/\es.toList=xs.map (entryOfKey (tupleKind (yJ P w)))/\(xs.map (·.1)).Nodup
 | .set S n=>h.SetOf (intKind P w) a S n
 | .ins C dx fs=>H dx=some (.own a)/\fs.length<=1000/\dx≠a/\h.get? a=some (PySem.W.instObj C dx) /\
  ∃ mA,h.Ns1 dx mA/\(∀ f,RelO (fs.lookup f) (mA f))/\PySem.Within mA (fs.map (·.1))
 | .own _=>∃ o,h.get? a=some o
 | .xd fs=>∃ mA,h.Ns1 a mA/\∀ f,RelO (fs.lookup f) (mA f)
 | .rng lo hi=>∃ t u v,h.get? a=some { cls:=.type "range",data:=.fields #[.int lo t,.int hi u,.int 1 v] }
 | .frz o u=>h.get? a=some o/\ObjOk H h a u
 | .tbl pos qual=>∃ ps,h.get? a=some { cls:=.none,data:=.fields ps }/\TriplesOk ps.toList/\∀ cv,codeAmong pos ps.toList=some cv->∃ c oc u vs t,cv=.ref c/\H c=some (.frz oc u)/\oc.data=.fields vs/\vs[1]?=some (.str qual t)
 | .mm m=>(a==sysModules)=false/\∃ xs:List ((List Int×List (List Int))×Addr),(∀ x∈xs,m.p x.1.1 x.1.2=true/\KeyM H x.1 x.2)/\(xs.map (·.1)).Nodup/\∃ ep,h.get? a=some { cls:=.type "dict",data:=.dict (xs.map ydS).toArray ep }
 | .met f x=>h.get? a=some (PySem.W.methodObj (.ref f) (.ref x))
 | .ext φ=>φ h/\(∃ o,h.get? a=some o)/\∀ h1 h2:Heap,φ h1->(∀ o,h1.get? a=some o->h2.get? a=some o)->φ h2
def HOk (H:Hp) (h:Heap):Prop:=∀ a o,H a=some o->ObjOk P w H h a o
end
section
variable {P:Program} {w:World} {H H':Hp} {h h':Heap} {a:Addr} {o:HO}
theorem ObjOk.lt (x:ObjOk P w H h a o):a<h.objs.size:=by
 cases o with
 | lst xs=>obtain ⟨_,_,_,_,e⟩:=x;exact wz e
 | tup xs=>obtain ⟨_,_,_,o,e,_⟩:=x;exact wz e
 | dK kvs=>obtain ⟨_,_,_,_,o,_,_,e,_⟩:=x;exact wz e
 | dT kvs=>obtain ⟨_,_,_,_,o,_,_,e,_⟩:=x;exact wz e
 | set S n=>obtain ⟨o,_,_,_,e,_⟩:=x;exact wz e
 | ins C dx fs=>obtain ⟨_,_,_,e,_⟩:=x;exact wz e
 | own y=>obtain ⟨_,e⟩:=x;exact wz e
 | xd fs=>obtain ⟨_,⟨_,_,_,e,_⟩,_⟩:=x;exact wz e
 | rng lo hi=>obtain ⟨_,_,_,e⟩:=x;exact wz e
 | frz ob u=>obtain ⟨e,_⟩:=x;exact wz e
 | tbl pos qual=>obtain ⟨_,e,_⟩:=x;exact wz e
 | mm m=>obtain ⟨_,_,_,_,_,e⟩:=x;exact wz e
 | met f y=>exact wz (show h.get? a=some _ from x)
 | ext φ=>obtain ⟨_,⟨_,e⟩,_⟩:=x;exact wz e
theorem Paired.mapP {α β:Type} {F G:α->β->Prop}:∀ {l₁:List α} {l₂:List β},Paired F l₁ l₂->(∀ a b,F a b->G a b)->Paired G l₁ l₂
 | _,_,.nil,_=>.nil
 | _,_,.cons r t,f=>.cons (f _ _ r) (Paired.mapP t f)
theorem KeyM.mono {k:List Int×List (List Int)} {b:Addr} (ht:∀ b xs,H b=some (.tup xs)->H' b=some (.tup xs)) (x:KeyM H k b):KeyM H' k b:=let ⟨r,l,ls,h1,h2,h3,h4⟩:=x;⟨r,l,ls,ht _ _ h1,ht _ _ h2,ht _ _ h3,Paired.mapP h4 λ_ _ z=>ht _ _ z⟩
theorem ObjOk.stay (x:ObjOk P w H h a o) (k:∀ b u,(b=a\/H b=some (.own a))->h.get? b=some u->h'.get? b=some u)
  (ho:∀ b,H b=some (.own a)->H' b=some (.own a)) (ht:∀ b xs,H b=some (.tup xs)->H' b=some (.tup xs)) (hf:∀ b o u,H b=some (.frz o u)->H' b=some (.frz o u)):ObjOk P w H' h' a o:=by
 induction o with
 | lst xs=>obtain ⟨z,its,n,r,e⟩:=x;exact ⟨z,its,n,r,k _ _ (.inl rfl) e⟩
 | tup xs=>obtain ⟨z,its,r,ob,e,c⟩:=x;exact ⟨z,its,r,ob,k _ _ (.inl rfl) e,c⟩
 | dK kvs=>obtain ⟨z,y,vs,r,ob,es,ep,e,c⟩:=x;exact ⟨z,y,vs,r,ob,es,ep,k _ _ (.inl rfl) e,c⟩
 | dT kvs =>
  obtain ⟨z,y,xs,r,ob,es,ep,e,c⟩:=x;exact ⟨z,y,xs,Paired.mapP r λp q z=>⟨z.1,ht _ _ z.2.1,z.2.2⟩,ob,es,ep,k _ _ (.inl rfl) e,c⟩
 | set S n=>obtain ⟨ob,es,ep,t,e,c⟩:=x;exact ⟨ob,es,ep,t,k _ _ (.inl rfl) e,c⟩
 | ins C dx fs =>
  obtain ⟨d,z,ne,e,mA,⟨od,es,ep,e2,c⟩,r⟩:=x;exact ⟨ho _ d,z,ne,k _ _ (.inl rfl) e,mA,⟨od,es,ep,k _ _ (.inr d) e2,c⟩,r⟩
 | own y=>obtain ⟨ob,e⟩:=x;exact ⟨ob,k _ _ (.inl rfl) e⟩
 | xd fs=>obtain ⟨mA,⟨od,es,ep,e,c⟩,r⟩:=x;exact ⟨mA,⟨od,es,ep,k _ _ (.inl rfl) e,c⟩,r⟩
 | rng lo hi=>obtain ⟨t,u,v,e⟩:=x;exact ⟨t,u,v,k _ _ (.inl rfl) e⟩
 | frz ob u ih=>obtain ⟨e,q⟩:=x;exact ⟨k _ _ (.inl rfl) e,ih q⟩
 | tbl pos qual =>
  obtain ⟨ps,e,t,q⟩:=x;exact ⟨ps,k _ _ (.inl rfl) e,t,λcv z=>let ⟨c,oc,u,vs,t,h1,h2,h3⟩:=q cv z;⟨c,oc,u,vs,t,h1,hf _ _ _ h2,h3⟩⟩
 | mm m =>
  obtain ⟨y,xs,q,n,ep,e⟩:=x;exact ⟨y,xs,λz hz=>⟨(q z hz).1,(q z hz).2.mono ht⟩,n,ep,k _ _ (.inl rfl) e⟩
 | met f y =>
  have e:h.get? a=some (PySem.W.methodObj (.ref f) (.ref y)):=x;show h'.get? a=some (PySem.W.methodObj (.ref f) (.ref y));exact k a _ (.inl rfl) e
 | ext φ=>obtain ⟨p,⟨o,e⟩,st⟩:=x;exact ⟨st _ _ p λo q=>k _ _ (.inl rfl) q,⟨o,k _ _ (.inl rfl) e⟩,st⟩
theorem HOk.lt (x:HOk P w H h) (e:H a=some o):a<h.objs.size:=(x a o e).lt
theorem HOk.fresh (x:HOk P w H h) (e:h.objs.size<=a):H a=none:=by
 cases q:H a with
 | none=>rfl
 | some u=>exact absurd (wL (x.lt q) e) (Nat.lt_irrefl _)
theorem HOk.kept (x:HOk P w H h) (k:∀ b u,h.get? b=some u->h'.get? b=some u):HOk P w H h':=λa o e =>
 (x a o e).stay (λb u _ q=>k b u q) (λ_ q=>q) (λ_ _ q=>q) λ_ _ _ q=>q
theorem HOk.laid (x:HOk P w H h) (k:∀ b u,h.get? b=some u->h'.get? b=some u) (hp:h.objs.size<=a) (new:ObjOk P w (upd H a o) h' a o):HOk P w (upd H a o) h':=λb u e=>by
 have hn:=x.fresh hp
 by_cases hb:b=a
 ·subst hb;rw [ya] at e;cases e;exact new
 ·rw [ja hb] at e;exact (x b u e).stay (λc v _ q=>k c v q) (λc q=>by rw [ja (jc q hn)];exact q) (λc xs q=>by rw [ja (jc q hn)];exact q) λc o u q=>by rw [ja (jc q hn)];exact q
end
def Rd (H:Hp) (a:Addr) (u:HO):Prop:=H a=some u\/∃ o,H a=some (.frz o u)
theorem Rd.ok {P:Program} {w:World} {H:Hp} {h:Heap} {a:Addr} {u:HO} (r:Rd H a u) (x:HOk P w H h):ObjOk P w H h a u:=by
 rcases r with r | ⟨o,r⟩
 ·exact x a u r
 ·obtain ⟨_,q⟩:=x a _ r;exact q
def Mut:Option HO->Prop
 | some (.lst _)=>True
 | some (.dK _)=>True
 | some (.dT _)=>True
 | some (.set _ _)=>True
 | some (.ins _ _ _)=>True
 | some (.ext _)=>True
 | some (.mm _)=>True
 | _=>False
section
variable {P:Program} {w:World} {H:Hp} {h h':Heap} {x e:Addr} {o':HO}
theorem HOk.write (ok:HOk P w H h) (mu:Mut (H x)) (he:e=x\/H e=some (.own x)) (k:∀ b u,b≠e->h.get? b=some u->h'.get? b=some u) (heo:∃ u,h'.get? e=some u)
  (new:ObjOk P w (upd H x o') h' x o'):HOk P w (upd H x o') h':=λb u q=>by
 have nown:∀ c y,H c=some (.own y)->c≠x:=λc y r z=>by subst z;rw [r] at mu;exact mu
 have ntup:∀ c xs,H c=some (.tup xs)->c≠x:=λc xs r z=>by subst z;rw [r] at mu;exact mu
 have nfrz:∀ c o u,H c=some (.frz o u)->c≠x:=λc o u r z=>by subst z;rw [r] at mu;exact mu
 by_cases hb:b=x
 ·subst hb;rw [ya] at q;cases q;exact new
 ·rw [ja hb] at q
  by_cases hbe:b=e
  ·have q':H b=some (.own x):=by
    rcases he with z | z
    ·exact absurd (hbe.trans z) hb
    ·rw [hbe];exact z
   rw [q] at q';cases q'
   obtain ⟨v,hv⟩:=heo;exact ⟨v,by rw [hbe];exact hv⟩
  ·refine (ok b u q).stay (λc v hc r=>k c v ?_ r) (λc r=>by rw [ja (nown c b r)];exact r) (λc xs r=>by rw [ja (ntup c xs r)];exact r) λc o u r=>by rw [ja (nfrz c o u r)];exact r
   rcases hc with rfl | hc
   ·exact hbe
   ·rintro rfl;rcases he with z | z
    ·exact nown c b hc z
    ·rw [hc] at z;cases z;exact hb rfl
end
structure Un (fs ex:List Addr) (H H':Hp) (h h':Heap):Prop where
 keep:∀ b o,h.get? b=some o->H b=none->b∉fs->b∉ex->h'.get? b=some o
 slot:∀ b o,h.get? b=some o->H b=none->b∈fs->b∉ex->∃ sl,h'.get? b=some { o with slots:=sl }
 free:∀ b o,h.get? b=some o->H b=none->b∉ex->H' b=none
 there:∀ b o,h.get? b=some o->b∉ex->∃ o',h'.get? b=some o'
 tups:∀ b xs,H b=some (.tup xs)->H' b=some (.tup xs)
 frzs:∀ b o u,H b=some (.frz o u)->H' b=some (.frz o u)
 tbls:∀ b p q,H b=some (.tbl p q)->H' b=some (.tbl p q)
section
variable {fs fs' ex ex':List Addr} {H H1 H2:Hp} {h h1 h2 h':Heap} {a x e:Addr} {o:HO}
theorem Un.any (u:Un fs ex H H1 h h1) {b:Addr} {ob:Obj} (q:h.get? b=some ob) (n:H b=none) (hx:b∉ex):∃ sl,h1.get? b=some { ob with slots:=sl }:=by
 by_cases hb:b∈fs
 ·exact u.slot b ob q n hb hx
 ·exact ⟨ob.slots,u.keep b ob q n hb hx⟩
theorem Un.kept (k:∀ b u,h.get? b=some u->h'.get? b=some u):Un fs ex H H h h' :=
 ⟨λb ob q _ _ _=>k b ob q,λb ob q _ _ _=>⟨ob.slots,k b ob q⟩,λ_ _ _ n _=>n,λb ob q _=>⟨ob,k b ob q⟩,λ_ _ q=>q,λ_ _ _ q=>q,λ_ _ _ q=>q⟩
theorem Un.refl:Un fs ex H H h h:=Un.kept λ_ _ q=>q
theorem Un.laid (k:∀ b u,h.get? b=some u->h'.get? b=some u) (hp:h.objs.size<=a) (hn:H a=none):Un fs ex H (upd H a o) h h' where
 keep:=λb u q _ _ _=>k b u q
 slot:=λb u q _ _ _=>⟨u.slots,k b u q⟩
 free:=λb u q n _=>by rw [ja (wM (wL (wz q) hp))];exact n
 there:=λb u q _=>⟨u,k b u q⟩
 tups:=λb xs q=>by rw [ja (jc q hn)];exact q
 frzs:=λb u xs q=>by rw [ja (jc q hn)];exact q
 tbls:=λb p q z=>by rw [ja (jc z hn)];exact z
theorem Un.write (mu:Mut (H x)) (he:e=x\/H e=some (.own x)) (k:∀ b u,b≠e->h.get? b=some u->h'.get? b=some u) (heo:∃ u,h'.get? e=some u):Un fs ex H (upd H x o) h h':=by
 have hx:∀ b,H b=none->b≠x:=λb n z=>by subst z;rw [n] at mu;exact mu
 have hb:∀ b,H b=none->b≠e:=λb n z=>by
  subst z;rcases he with r | r
  ·exact hx b n r
  ·rw [n] at r;cases r
 have hm:∀ b u,H b=some u->¬ Mut (some u)->b≠x:=λb u q nm z=>by subst z;rw [q] at mu;exact nm mu
 refine ⟨λb u q n _ _ => k b u (hb b n) q, λb u q n _ _ => ⟨u.slots, k b u (hb b n) q⟩, λb u q n _ => by rw [ja (hx b n)]; exact n, λb u q _ => ?_,
  λb xs q=>by rw [ja (hm b _ q λz=>z)];exact q,λb u xs q=>by rw [ja (hm b _ q λz=>z)];exact q,λb p r q=>by rw [ja (hm b _ q λz=>z)];exact q⟩
 by_cases hbe:b=e
 ·subst hbe;exact heo
 ·exact ⟨u,k b u hbe q⟩
end
noncomputable def trk (h:Heap) (H:Hp):List Addr:=(List.range h.objs.size).filter λa=>(H a).isSome
noncomputable def zb3 (h:Heap) (H:Hp):Heap:=PySem.W.hideAll h (trk h H)
theorem jbm (h:Heap) (H:Hp):(zb3 h H).objs.size=h.objs.size:=PySem.W.hideAll_size _ _
theorem qb3 {h:Heap} {H:Hp} {b:Addr} {o:Obj} (e:h.get? b=some o) (n:H b=none):(zb3 h H).get? b=some o :=
 PySem.W.hideAll_get _ e λhm=>by
  have q:(H b).isSome=true:=(List.mem_filter.mp hm).2;rw [n] at q;simp at q
theorem qcD {h:Heap} {H:Hp} {b:Addr} {o:Obj} (e:(zb3 h H).get? b=some o):h.get? b=some o/\H b=none:=by
 have e':h.get? b=some o:=PySem.W.of_hideAll (trk h H) e;refine ⟨e',?_⟩;cases q:H b with
 | none=>rfl
 | some x =>
  have hm:b∈trk h H:=List.mem_filter.mpr ⟨ve.mpr (wz e'),by simp [q]⟩;have z:(zb3 h H).get? b=none:=PySem.W.hideAll_none (trk h H) hm;rw [z] at e;cases e
noncomputable def ycD (g h:Heap) (L:Addr):List (Addr×Obj):=(List.range h.objs.size).filterMap λa=>if a=L\/(g.get? a).isSome=true then none else (h.get? a).map λo=>(a,o)
noncomputable def rest (g h:Heap) (L d:Addr):List (Addr×Obj):=(ycD g h L).filter λp=>decide (p.1≠d)
structure Mod (K:Frag) (mg:Str->Option Value) (base:Heap):Prop where
 kin:K.In base
 glob:base.Ns mainGlobals mg
 blt:∃ mb,base.Ns builtinsNs mb/\∀ x:Str,x≠"__name__"->mb x=bootBuiltins x
 nolimit:base.NoLimit
 bmod:∃ bm ob,mg "__builtins__"=some (.ref bm)/\bm≠builtinsNs/\base.get? bm=some ob/\ob.cls=.type "module"/\ob.dict=some builtinsNs/\ob.data=.plain
structure Cx where
 prog:Program
 w:World
 K:Frag
 mg:Str->Option Value
 base:Heap
 A:Around
 N:List Str
 s₀:Shared
 H₀:Hp
 env:Env
 outer:List Env
 stack:List Env
 ex:List Addr
 fn:Str->Bool
 calm:Bool
 pn:List (Addr×Obj)
 xe:Value->Shared->Prop
noncomputable def frs (l:List Env):List Addr:=l.filterMap (·.frame)
noncomputable abbrev Cx.fs (X:Cx):List Addr:=frs X.outer
def Vis (sc:Scope) (x:Str):Prop:=sc.names.lookup x=some .local\/sc.names.lookup x=some .cell\/sc.names.lookup x=some .free
def Loc (sc:Scope) (x:Str):Prop:=sc.names.lookup x=some .local\/sc.names.lookup x=some .cell
def Look (env:Env) (h:Heap) (m:Str->Option Value) (x:Str) (u:Value):Prop :=
 (env.kindOf x=some .local/\m x=some u)\/((env.kindOf x=some .cell\/env.kindOf x=some .free)/\∃ c,env.cells.lookup x=some c/\h.IsCell c (some u))
structure Cx.Ok (X:Cx):Prop where
 mod:Mod X.K X.mg X.base
 kind:X.env.scope.kind=.function
 glob:X.env.globals=mainGlobals
 blt:X.env.builtins=builtinsNs
 above:X.s₀.heap.objs.size<=X.env.locals
 inj:∀ x y c,X.env.cells.lookup x=some c->X.env.cells.lookup y=some c->x=y
 has:∀ x,(X.env.kindOf x=some .cell\/X.env.kindOf x=some .free)->∃ c,X.env.cells.lookup x=some c
 cab:∀ x c,X.fn x=true->X.env.cells.lookup x=some c->X.s₀.heap.objs.size<=c
 hd:X.calm=true->X.A.handled=none
 frames:X.A.frames=some X.stack
 stk:X.stack=X.outer\/(X.stack=X.env::X.outer/\X.env.frame=some X.env.locals)
 exf:∀ b∈X.ex,b≠X.env.locals/\∀ x c,X.env.cells.lookup x=some c->c≠b
 bs:∀ b o,X.base.get? b=some o->X.s₀.heap.get? b=some o/\X.H₀ b=none
 bsz:X.base.objs.size<=X.s₀.heap.objs.size
 noex:∀ b o,X.base.get? b=some o->b∉X.ex
 exfs:∀ b∈X.ex,b∉X.fs
 funs:X.s₀.heap.FunFrames X.base X.outer
 frf:∀ b∈X.fs,X.H₀ b=none
structure Inv (X:Cx) (pins:List (Addr×Obj)) (σ:List (Option V)) (H:Hp) (s:Shared):Prop where
 ok:X.Ok
 os:s.os=X.s₀.os
 bare:AllBare s.gens
 base:Un X.fs X.ex X.H₀ H X.s₀.heap s.heap
 loc:∃ m,s.heap.Ns X.env.locals m/\∀ (i:Nat) (x:Str) (v:V),X.N[i]?=some x->σ[i]?=some (some v)->Vis X.env.scope x->∃ u,RelV v u/\Look X.env s.heap m x u
 cell:∀ x c,X.env.cells.lookup x=some c->∃ v,s.heap.IsCell c v
 free:H X.env.locals=none
 freeC:∀ x c,X.env.cells.lookup x=some c->H c=none
 pin:∀ p∈X.pn++pins,s.heap.get? p.1=some p.2/\H p.1=none/\p.1≠X.env.locals/\p.1∉X.fs/\∀ v,p.2.data≠.cell v
 hok:HOk X.prog X.w H s.heap
 len:σ.length=X.N.length
section
variable {X:Cx} {pins:List (Addr×Obj)} {σ:List (Option V)} {H H':Hp} {s:Shared} {h':Heap}
theorem Cx.Ok.nofr (ok:X.Ok) {b:Addr} {o:Obj} (e:X.base.get? b=some o):b∉X.fs:=λhb=>by
 have:=(ok.funs.mem hb).1
 rw [e] at this;cases this
theorem Inv.bs (I:Inv X pins σ H s):∀ b o,X.base.get? b=some o->s.heap.get? b=some o/\H b=none:=λb o e =>
 ⟨I.base.keep b o (I.ok.bs b o e).1 (I.ok.bs b o e).2 (I.ok.nofr e) (I.ok.noex b o e),I.base.free b o (I.ok.bs b o e).1 (I.ok.bs b o e).2 (I.ok.noex b o e)⟩
theorem Inv.bk (I:Inv X pins σ H s):∀ b o,X.base.get? b=some o->s.heap.get? b=some o:=λb o e=>(I.bs b o e).1
theorem Inv.mod (I:Inv X pins σ H s):Mod X.K X.mg X.base:=I.ok.mod
theorem Inv.kIn (I:Inv X pins σ H s):X.K.In s.heap:=I.ok.mod.kin.keeps I.bk
theorem Inv.nolimit (I:Inv X pins σ H s):s.heap.NoLimit:=I.ok.mod.nolimit.keeps I.bk
theorem Inv.lt (I:Inv X pins σ H s):X.env.locals<s.heap.objs.size:=let ⟨_,hn,_⟩:=I.loc;hn.lt
theorem Inv.sz (I:Inv X pins σ H s):X.s₀.heap.objs.size<=s.heap.objs.size:=wQ I.ok.above (Nat.le_of_lt I.lt)
theorem Inv.nofs (I:Inv X pins σ H s) {a:Addr} (h:s.heap.objs.size<=a):a∉X.fs:=λhb=>by
 obtain ⟨_,o,ho,_⟩:=I.ok.funs.mem hb;exact absurd (wL (wz ho) (wQ I.sz h)) (Nat.lt_irrefl _)
theorem Inv.cne (I:Inv X pins σ H s):∀ x c,X.env.cells.lookup x=some c->c≠X.env.locals:=λx c e z=>by
 obtain ⟨v,o,ho,hd⟩:=I.cell x c e;obtain ⟨m,⟨o',es,ep,ho',hd',_⟩,_⟩:=I.loc;rw [z,ho'] at ho;cases ho;rw [hd'] at hd;cases hd
theorem Inv.funs (I:Inv X pins σ H s):s.heap.FunFrames X.base X.outer:=by
 have all:∀ (l:List Env),(∀ b∈frs l,b∈X.fs)->X.s₀.heap.FunFrames X.base l->s.heap.FunFrames X.base l:=by
  intro l
  induction l with
  | nil=>intro _ _;trivial
  | cons env r ih =>
   intro hs hl;obtain ⟨hk,⟨L,o,hf,hn,ho,hd⟩,hr⟩:=hl;have hL:L∈X.fs:=hs L (by unfold frs;rw [List.filterMap_cons,hf];exact wN);obtain ⟨sl,e⟩:=I.base.slot L o ho (I.ok.frf L hL) hL λz=>I.ok.exfs L z hL
   exact ⟨hk,⟨L,_,hf,hn,e,hd⟩,ih (λb hb=>hs b (by unfold frs;rw [List.filterMap_cons,hf];exact wI _ hb)) hr⟩
 exact all X.outer (λ_ hb=>hb) I.ok.funs
theorem Inv.stack (I:Inv X pins σ H s):s.heap.FunFrames X.base X.stack:=by
 rcases I.ok.stk with e | ⟨e,hf⟩
 ·rw [e];exact I.funs
 ·rw [e];obtain ⟨m,hn,_⟩:=I.loc;refine .cons (by rw [I.ok.kind];decide) hf hn ?_ I.funs;exact Heap.get?_none_of_le (wQ I.ok.bsz I.ok.above)
theorem Inv.stkSub (I:Inv X pins σ H s):∀ b∈frs X.stack,b∈X.env.locals::X.fs:=λb hb=>by
 rcases I.ok.stk with e | ⟨e,hf⟩
 ·rw [e] at hb;exact wI _ hb
 ·rw [e] at hb;unfold frs at hb;rw [List.filterMap_cons,hf] at hb;exact hb
theorem Inv.stkFree (I:Inv X pins σ H s):∀ b∈frs X.stack,H b=none:=λb hb=>by
 rcases wu.mp (I.stkSub b hb) with e | hb
 ·rw [e];exact I.free
 ·obtain ⟨_,o,ho,_⟩:=I.ok.funs.mem hb;exact I.base.free b o ho (I.ok.frf b hb) λz=>I.ok.exfs b z hb
theorem Inv.step {g':Array GenState} {t':Nat} {d':Drawn} {ch:List Addr} (I:Inv X pins σ H s)
  (hch:∀ b∈ch,(b∈X.ex\/X.s₀.heap.objs.size<=b)/\b≠X.env.locals/\(∀ x c,X.env.cells.lookup x=some c->c≠b)/\∀ p∈X.pn++pins,p.1≠b)
  (keep:∀ b o,b≠X.env.locals->b∉X.fs->b∉ch->s.heap.get? b=some o->H b=none->h'.get? b=some o)
  (slot:∀ b o,b≠X.env.locals->b∈X.fs->b∉ch->s.heap.get? b=some o->H b=none->∃ sl,h'.get? b=some { o with slots:=sl }) (free:∀ b o,b∉ch->s.heap.get? b=some o->H b=none->H' b=none)
  (there:∀ b o,b∉ch->s.heap.get? b=some o->∃ o',h'.get? b=some o')
  (tups:∀ b xs,H b=some (.tup xs)->H' b=some (.tup xs)) (frzs:∀ b o u,H b=some (.frz o u)->H' b=some (.frz o u)) (tbls:∀ b p q,H b=some (.tbl p q)->H' b=some (.tbl p q))
  (ns:∀ m,s.heap.Ns X.env.locals m->h'.Ns X.env.locals m) (hok:HOk X.prog X.w H' h') (hg:AllBare g') :
  Inv X pins σ H' { s with heap:=h',gens:=g',drawn:=d',toks:=t' }:=by
 have neL:∀ b o,X.s₀.heap.get? b=some o->b≠X.env.locals:=λb o e=>wM (wL (wz e) I.ok.above)
 have neC:∀ b o,X.s₀.heap.get? b=some o->b∉X.ex->b∉ch:=λb o e hx hb=>by
  rcases (hch b hb).1 with z | z
  ·exact hx z
  ·exact absurd (wL (wz e) z) (Nat.lt_irrefl _)
 have cellK:∀ x c,X.env.cells.lookup x=some c->∀ v,s.heap.IsCell c v->h'.IsCell c v:=λx c e v ⟨o,ho,hd⟩=>by
  have nch:c∉ch:=λz=>(hch c z).2.2.1 x c e rfl
  by_cases hc:c∈X.fs
  ·obtain ⟨sl,q⟩:=slot c o (I.cne x c e) hc nch ho (I.freeC x c e);exact ⟨_,q,hd⟩
  ·exact ⟨o,keep c o (I.cne x c e) hc nch ho (I.freeC x c e),hd⟩
 refine ⟨I.ok,I.os,hg,⟨λb o e n hb hx=>?_,λb o e n hb hx=>?_,λb o e n hx=>?_,λb o e hx=>?_,λb xs e=>tups b xs (I.base.tups b xs e),λb o xs e=>frzs b o xs (I.base.frzs b o xs e),λb p q e=>tbls b p q (I.base.tbls b p q e)⟩,?_,λx c e=>?_,?_,λx c e=>?_,λp hp=>?_,hok,I.len⟩
 ·exact keep b o (neL b o e) hb (neC b o e hx) (I.base.keep b o e n hb hx) (I.base.free b o e n hx)
 ·obtain ⟨sl,e1⟩:=I.base.slot b o e n hb hx;obtain ⟨sl',e2⟩:=slot b _ (neL b o e) hb (neC b o e hx) e1 (I.base.free b o e n hx);exact ⟨sl',e2⟩
 ·obtain ⟨o',e1⟩:=I.base.there b o e hx;exact free b o' (neC b o e hx) e1 (I.base.free b o e n hx)
 ·obtain ⟨o',e1⟩:=I.base.there b o e hx;exact there b o' (neC b o e hx) e1
 ·obtain ⟨m,hn,hl⟩:=I.loc;refine ⟨m,ns m hn,λi x v e1 e2 e3=>?_⟩;obtain ⟨u,r,l⟩:=hl i x v e1 e2 e3;refine ⟨u,r,?_⟩;rcases l with l | ⟨k,c,e,z⟩
  ·exact .inl l
  ·exact .inr ⟨k,c,e,cellK x c e _ z⟩
 ·obtain ⟨v,z⟩:=I.cell x c e;exact ⟨v,cellK x c e v z⟩
 ·obtain ⟨m,⟨o,_,_,ho,_⟩,_⟩:=I.loc;exact free _ o (λz=>(hch _ z).2.1 rfl) ho I.free
 ·obtain ⟨v,o,ho,hd⟩:=I.cell x c e;exact free c o (λz=>(hch c z).2.2.1 x c e rfl) ho (I.freeC x c e)
 ·obtain ⟨e,n,ne,nf,d⟩:=I.pin p hp;have nch:p.1∉ch:=λz=>(hch p.1 z).2.2.2 p hp rfl
  exact ⟨keep p.1 p.2 ne nf nch e n,free p.1 p.2 nch e n,ne,nf,d⟩
theorem Inv.un {t':Nat} (I:Inv X pins σ H s) (u:Un X.fs [] H H' s.heap h') (hok:HOk X.prog X.w H' h'):Inv X pins σ H' { s with heap:=h',toks:=t' }:=by
 obtain ⟨m,⟨o,es,ep,ho,r⟩,_⟩:=id I.loc;obtain ⟨sl,hL⟩:=u.any ho I.free (by simp)
 exact I.step (g' := s.gens) (d' := s.drawn) (ch := []) (λ_ z => nomatch z) (λb o _ hb _ e n => u.keep b o e n hb (by simp)) (λb o _ hb _ e n => u.slot b o e n hb (by simp)) (λb o _ e n => u.free b o e n (by simp)) (λb o _ e => u.there b o e (by simp)) u.tups u.frzs u.tbls (λm' hm => by
  obtain ⟨o',es',ep',ho',r'⟩:=hm;rw [ho] at ho';cases ho'
  exact ⟨_,es',ep',hL,r'⟩) hok I.bare
theorem Inv.call {g':Array GenState} {t':Nat} {d':Drawn} {ch:List Addr} (I:Inv X pins σ H s) (u:Un (frs X.stack) ch H H' s.heap h') (hok:HOk X.prog X.w H' h') (hg:AllBare g')
  (hch:∀ b∈ch,(b∈X.ex\/X.s₀.heap.objs.size<=b)/\b≠X.env.locals/\(∀ x c,X.env.cells.lookup x=some c->c≠b)/\∀ p∈X.pn++pins,p.1≠b) :
  Inv X pins σ H' { s with heap:=h',gens:=g',drawn:=d',toks:=t' }:=by
 obtain ⟨m,⟨o,es,ep,ho,r⟩,_⟩:=id I.loc;obtain ⟨sl,hL⟩:=u.any ho I.free λz=>(hch _ z).2.1 rfl
 exact I.step (ch:=ch) hch (λb o hL hb hc e n=>u.keep b o e n (λz=>(wu.mp (I.stkSub b z)).elim hL hb) hc) (λb o _ _ hc e n=>u.any e n hc) (λb o hc e n=>u.free b o e n hc) (λb o hc e=>u.there b o e hc) u.tups u.frzs u.tbls (λm' hm=>by
  obtain ⟨o',es',ep',ho',r'⟩:=hm;rw [ho] at ho';cases ho'
  exact ⟨_,es',ep',hL,r'⟩) hok hg
theorem Inv.turned {t':Nat} {it:Addr} (I:Inv X pins σ H s) (k:∀ b o,b≠it->s.heap.get? b=some o->h'.get? b=some o) (hn:H it=none) (hL:it≠X.env.locals)
  (h1:it∈X.ex\/X.s₀.heap.objs.size<=it) (h2:∀ x c,X.env.cells.lookup x=some c->c≠it) (h3:∀ p∈X.pn++pins,p.1≠it):Inv X pins σ H { s with heap:=h',toks:=t' }:=by
 have nit:∀ b u,H b=some u->b≠it:=λb u e z=>by rw [z,hn] at e;cases e
 refine I.step (g' := s.gens) (d' := s.drawn) (ch := [it]) (λb hb => ?_) (λb o _ _ hc e _ => k b o (λz => hc (by simp [z])) e) (λb o _ _ hc e _ => ⟨o.slots, k b o (λz => hc (by simp [z])) e⟩) (λ_ _ _ _ n => n)
  (λb o hc e=>⟨o,k b o (λz=>hc (by simp [z])) e⟩) (λ_ _ e=>e) (λ_ _ _ e=>e) (λ_ _ _ e=>e) (λm hm=>?_) (λb u e=>?_) I.bare
 ·have e:b=it:=by simpa using hb
  subst e;exact ⟨h1,hL,h2,h3⟩
 ·obtain ⟨o,es,ep,ho,r⟩:=hm;exact ⟨o,es,ep,k _ o (Ne.symm hL) ho,r⟩
 ·refine (I.hok b u e).stay (λc v hc q=>k c v ?_ q) (λ_ q=>q) (λ_ _ q=>q) λ_ _ _ q=>q
  rcases hc with z | z
  ·rw [z];exact nit b u e
  ·exact nit c _ z
theorem Inv.tok (I:Inv X pins σ H s) (t:Nat):Inv X pins σ H { s with toks:=t }:=I.un (h':=s.heap) (t':=t) Un.refl I.hok
theorem Inv.kept {t':Nat} (I:Inv X pins σ H s) (k:∀ b u,s.heap.get? b=some u->h'.get? b=some u):Inv X pins σ H { s with heap:=h',toks:=t' }:=I.un (Un.kept k) (I.hok.kept k)
theorem Inv.laid {a:Addr} {o:HO} {t':Nat} (I:Inv X pins σ H s) (k:∀ b u,s.heap.get? b=some u->h'.get? b=some u) (hp:s.heap.objs.size<=a) (new:ObjOk X.prog X.w (upd H a o) h' a o) :
 Inv X pins σ (upd H a o) { s with heap:=h',toks:=t' }:=I.un (Un.laid k hp (I.hok.fresh hp)) (I.hok.laid k hp new)
theorem Inv.write {x e:Addr} {o:HO} {t':Nat} (I:Inv X pins σ H s) (mu:Mut (H x)) (he:e=x\/H e=some (.own x)) (k:∀ b u,b≠e->s.heap.get? b=some u->h'.get? b=some u) (heo:∃ u,h'.get? e=some u)
 (new:ObjOk X.prog X.w (upd H x o) h' x o):Inv X pins σ (upd H x o) { s with heap:=h',toks:=t' }:=I.un (Un.write mu he k heo) (I.hok.write mu he k heo new)
theorem Inv.pins_of {pins':List (Addr×Obj)} (I:Inv X pins σ H s) (h:∀ p∈pins',s.heap.get? p.1=some p.2/\H p.1=none/\p.1≠X.env.locals/\p.1∉X.fs/\∀ v,p.2.data≠.cell v):Inv X pins' σ H s :=
 ⟨I.ok,I.os,I.bare,I.base,I.loc,I.cell,I.free,I.freeC,λp hp=>(List.mem_append.mp hp).elim (λz=>I.pin p (List.mem_append_left _ z)) (h p),I.hok,I.len⟩
theorem yaX {N:List Str} (hN:N.Nodup) {i j:Nat} {x:Str} (a:N[i]?=some x) (b:N[j]?=some x):i=j:=by
 obtain ⟨h1,e1⟩:=wq.mp a;obtain ⟨h2,e2⟩:=wq.mp b;exact (List.getElem_inj hN).mp (e1.trans e2.symm)
theorem qaz {M:Model} {A:Around} {E:Value->Shared->Prop} {i:Nat} {x:Str} {v:V} {u:Value} {Q:Unit->Shared->Prop} (I:Inv X pins σ H s) (hN:X.N.Nodup) (hi:X.N[i]?=some x) (hx:Loc X.env.scope x) (r:RelV v u)
  (h:∀ s',Inv X pins (σ.set i (some v)) H s'->(∃ a,Heap.SameBut a s.heap s'.heap/\(a=X.env.locals\/X.env.cells.lookup x=some a))->Q () s') (hf:X.fn x=true\/X.env.scope.names.lookup x=some .local:=by first | exact .inl rfl | exact .inr rfl | assumption):wpAny M A (storeName X.env x u) Q E s:=by
 obtain ⟨m,hn,hl⟩:=id I.loc;have hcls:(X.env.scope.kind==.class||(X.env.scope.kind==.module&&X.env.locals != X.env.globals))=false:=by rw [I.ok.kind];rfl
 have hiσ:i<σ.length:=by rw [I.len];exact (wq.mp hi).1
 have cne:=I.cne
 have tracked:∀ {a:Addr} {h':Heap},(∃ o,s.heap.get? a=some o/\H a=none)->Heap.SameBut a s.heap h'->HOk X.prog X.w H h':=λ{a h'} ha hs b ob e=>by
  obtain ⟨_,_,hfree⟩:=ha;refine (I.hok b ob e).stay (λc w' hc q=>(hs.2 c ?_).trans q) (λ_ q=>q) (λ_ _ q=>q) λ_ _ _ q=>q
  rintro rfl;rcases hc with rfl | hc
  ·rw [hfree] at e;cases e
  ·rw [hfree] at hc;cases hc
 rcases hx with hk | hk
 ·refine wpAny_storeName_local hk hn (λh' hn' hs=>?_) hcls;obtain ⟨oL,_,_,hoL,_⟩:=id hn;refine h _ ⟨I.ok,I.os,I.bare,⟨λb o e n hb hx=>?_,λb o e n hb hx=>?_,I.base.free,λb o e hx=>?_,I.base.tups,I.base.frzs,I.base.tbls⟩,⟨_,hn',λj y v' e1 e2 e3=>?_⟩,λy c e=>?_,I.free,I.freeC,λp hp=>?_,tracked ⟨oL,hoL,I.free⟩ hs,by simpa using I.len⟩ ⟨_,hs,.inl rfl⟩
  ·exact (hs.2 b (wM (wL (wz e) I.ok.above))).trans (I.base.keep b o e n hb hx)
  ·obtain ⟨sl,e1⟩:=I.base.slot b o e n hb hx;exact ⟨sl,(hs.2 b (wM (wL (wz e) I.ok.above))).trans e1⟩
  ·obtain ⟨o',e1⟩:=I.base.there b o e hx;exact ⟨o',(hs.2 b (wM (wL (wz e) I.ok.above))).trans e1⟩
  ·by_cases hj:j=i
   ·subst hj;rw [hi] at e1;cases e1
    rw [vn hiσ] at e2;cases e2;exact ⟨u,r,.inl ⟨hk,by simp⟩⟩
   ·rw [wF (Ne.symm hj)] at e2;obtain ⟨u',r',q⟩:=hl j y v' e1 e2 e3;refine ⟨u',r',?_⟩;rcases q with ⟨k,e⟩ | ⟨k,c,e,z⟩
    ·refine .inl ⟨k,?_⟩
     have:y≠x:=λe=>hj (yaX hN e1 (e▸hi))
     simp [this,e]
    ·exact .inr ⟨k,c,e,z.sameBut hs (cne y c e)⟩
  ·obtain ⟨w',z⟩:=I.cell y c e;exact ⟨w',z.sameBut hs (cne y c e)⟩
  ·obtain ⟨e,n,ne,nf,d⟩:=I.pin p hp;exact ⟨(hs.2 p.1 ne).trans e,n,ne,nf,d⟩
 ·have hfn:X.fn x=true:=by
   rcases hf with z | z
   ·exact z
   ·rw [z] at hk;cases hk
  obtain ⟨c,hc⟩:=I.ok.has x (.inl hk);obtain ⟨w',z⟩:=I.cell x c hc;refine wpAny_storeName_cell I.ok.kind hk hc z (λh' hc' hs=>?_);obtain ⟨oc,hoc,hocd⟩:=id z;refine h { s with heap:=h' } ⟨I.ok,I.os,I.bare,⟨λb o e n hb hx=>?_,λb o e n hb hx=>?_,I.base.free,λb o e hx=>?_,I.base.tups,I.base.frzs,I.base.tbls⟩,⟨m,hn.sameBut hs (Ne.symm (cne x c hc)),λj y v' e1 e2 e3=>?_⟩,λy c' e=>?_,I.free,I.freeC,λp hp=>?_,tracked ⟨oc,hoc,I.freeC x c hc⟩ hs,by simpa using I.len⟩ ⟨c,hs,.inr hc⟩
  ·exact (hs.2 b (wM (wL (wz e) (I.ok.cab x c hfn hc)))).trans (I.base.keep b o e n hb hx)
  ·obtain ⟨sl,e1⟩:=I.base.slot b o e n hb hx;exact ⟨sl,(hs.2 b (wM (wL (wz e) (I.ok.cab x c hfn hc)))).trans e1⟩
  ·obtain ⟨o',e1⟩:=I.base.there b o e hx;exact ⟨o',(hs.2 b (wM (wL (wz e) (I.ok.cab x c hfn hc)))).trans e1⟩
  ·by_cases hj:j=i
   ·subst hj;rw [hi] at e1;cases e1
    rw [vn hiσ] at e2;cases e2;exact ⟨u,r,.inr ⟨.inl hk,c,hc,hc'⟩⟩
   ·rw [wF (Ne.symm hj)] at e2;obtain ⟨u',r',q⟩:=hl j y v' e1 e2 e3;refine ⟨u',r',?_⟩;rcases q with q | ⟨k,c',e,z'⟩
    ·exact .inl q
    ·refine .inr ⟨k,c',e,z'.sameBut hs ?_⟩;rintro rfl;exact hj (yaX hN e1 (I.ok.inj _ _ _ e hc▸hi))
  ·by_cases hcc:c'=c
   ·subst hcc;exact ⟨_,hc'⟩
   ·obtain ⟨w2,z2⟩:=I.cell y c' e;exact ⟨w2,z2.sameBut hs hcc⟩
  ·obtain ⟨e,n,ne,nf,d⟩:=I.pin p hp;refine ⟨(hs.2 p.1 ?_).trans e,n,ne,nf,d⟩;intro q;rw [q,hoc] at e;have q':oc=p.2:=wB e;exact d w' (by rw [<-q'];exact hocd)
theorem jaX {M:Model} {A:Around} {E:Value->Shared->Prop} {i:Nat} {x:Str} {v:V} {u:Value} {Q:Unit->Shared->Prop} (I:Inv X pins σ H s) (hN:X.N.Nodup) (hi:X.N[i]?=some x) (hx:Loc X.env.scope x) (r:RelV v u)
  (h:∀ s',Inv X pins (σ.set i (some v)) H s'->Q () s') (hf:X.fn x=true\/X.env.scope.names.lookup x=some .local:=by first | exact .inl rfl | exact .inr rfl | assumption):wpAny M A (storeName X.env x u) Q E s :=
 qaz I hN hi hx r (λs' I' _=>h s' I') hf
theorem Inv.call' {s':Shared} {ch:List Addr} (I:Inv X pins σ H s) (ho:s'.os=s.os) (u:Un (frs X.stack) ch H H' s.heap s'.heap) (hok:HOk X.prog X.w H' s'.heap) (hg:AllBare s'.gens)
  (hch:∀ b∈ch,(b∈X.ex\/X.s₀.heap.objs.size<=b)/\b≠X.env.locals/\(∀ x c,X.env.cells.lookup x=some c->c≠b)/\∀ p∈X.pn++pins,p.1≠b):Inv X pins σ H' s':=by
 obtain ⟨h',g',d',t',o'⟩:=s';have e:o'=s.os:=ho;subst e;exact I.call (g':=g') (t':=t') (d':=d') u hok hg hch
end
abbrev XK:=Value->Option Addr->Hp->Prop
noncomputable abbrev St:=List (Option V)
abbrev VK:=V->Hp->Prop
abbrev TE:=St->Hp->VK->Prop
abbrev TT:=St->Hp->(Bool->Hp->Prop)->Prop
abbrev TA:=St->Hp->(List V->Hp->Prop)->Prop
structure Ends where
 nx:St->Hp->Prop
 rt:VK
 bk:St->Hp->Prop:=λ_ _=>False
 ct:St->Hp->Prop:=λ_ _=>False
abbrev TS:=Ends->St->Hp->Prop
def EP (X:Cx) (pins:List (Addr×Obj)) (σ:St) (Q:VK) (u:Value) (s':Shared):Prop:=∃ v H',Inv X pins σ H' s'/\RelV v u/\Q v H'
def TP (X:Cx) (pins:List (Addr×Obj)) (σ:St) (Q:Bool->Hp->Prop) (b:Bool) (s':Shared):Prop:=∃ H',Inv X pins σ H' s'/\Q b H'
def AP (X:Cx) (pins:List (Addr×Obj)) (σ:St) (Q:List V->Hp->Prop) (us:List Value) (s':Shared):Prop:=∃ vs H',Inv X pins σ H' s'/\Vals vs us/\Q vs H'
def SP (X:Cx) (pins:List (Addr×Obj)) (D:Ends) (f:Flow) (s':Shared):Prop :=
 match f with
 | .next=>∃ σ' H',Inv X pins σ' H' s'/\D.nx σ' H'
 | .brk=>∃ σ' H',Inv X pins σ' H' s'/\D.bk σ' H'
 | .cont=>∃ σ' H',Inv X pins σ' H' s'/\D.ct σ' H'
 | .ret u=>∃ v σ' H',Inv X pins σ' H' s'/\RelV v u/\D.rt v H'
def PE (X:Cx) (e:Expr) (t:TE):Prop :=
 ∀ (pins:List (Addr×Obj)) (s:Shared) (σ:St) (H:Hp) (Q:VK),Inv X pins σ H s->t σ H Q->wpAny (model X.prog X.w) X.A (eval e X.env) (EP X pins σ Q) X.xe s
def PT (X:Cx) (e:Expr) (t:TT):Prop :=
 ∀ (pins:List (Addr×Obj)) (s:Shared) (σ:St) (H:Hp) (Q:Bool->Hp->Prop),Inv X pins σ H s->t σ H Q->wpAny (model X.prog X.w) X.A (isTrue e X.env (eval e X.env)) (TP X pins σ Q) X.xe s
def PW (X:Cx) (e:Expr) (t:TT):Prop :=
 ∀ (whole:Sem Value) (pins:List (Addr×Obj)) (s:Shared) (σ:St) (H:Hp) (Q:Bool->Hp->Prop),Inv X pins σ H s->t σ H Q->wpAny (model X.prog X.w) X.A (isTrue e X.env whole) (TP X pins σ Q) X.xe s
theorem PW.pt {X:Cx} {e:Expr} {t:TT} (h:PW X e t):PT X e t:=h _
def PA (X:Cx) (es:List Expr) (t:TA):Prop :=
 ∀ (pos:Pos) (pins:List (Addr×Obj)) (s:Shared) (σ:St) (H:Hp) (Q:List V->Hp->Prop),Inv X pins σ H s->t σ H Q->wpAny (model X.prog X.w) X.A (spliced (backTo pos (starEach es X.env))) (AP X pins σ Q) X.xe s
def PS (X:Cx) (st:Stmt) (t:TS):Prop :=
 ∀ (pins:List (Addr×Obj)) (s:Shared) (σ:St) (H:Hp) (D:Ends),Inv X pins σ H s->t D σ H->wpAny (model X.prog X.w) X.A (exec st X.env) (SP X pins D) X.xe s
def PSs (X:Cx) (st:List Stmt) (t:TS):Prop :=
 ∀ (pins:List (Addr×Obj)) (s:Shared) (σ:St) (H:Hp) (D:Ends),Inv X pins σ H s->t D σ H->wpAny (model X.prog X.w) X.A (execs st X.env) (SP X pins D) X.xe s
theorem thn {α:Type} {t:Sem α} {Q Q':α->Shared->Prop} {M:Model} {A:Around} {E:Value->Shared->Prop} {s:Shared} (h:wpAny M A t Q E s) (hQ:∀ a s,Q a s->Q' a s):wpAny M A t Q' E s:=wpAny_mono h hQ λ_ _ x=>x
section
variable {X:Cx}
theorem bin {a b:Expr} {ta tb:TE} (ha:PE X a ta) (hb:PE X b tb) {pins:List (Addr×Obj)} {s:Shared} {σ:St} {H:Hp} {R:V->V->Hp->Prop} (I:Inv X pins σ H s) (h:ta σ H λx H1=>tb σ H1 λy H2=>R x y H2)
  {α:Type} {Q:α->Shared->Prop} {f:Value->Value->Sem α}
  (hf:∀ v u s2 x y H2,Inv X pins σ H2 s2->RelV x v->RelV y u->R x y H2->wpAny (model X.prog X.w) X.A (f v u) Q X.xe s2) :
  wpAny (model X.prog X.w) X.A (eval a X.env) (λv s₁=>wpAny (model X.prog X.w) X.A (eval b X.env) (λu s₂=>wpAny (model X.prog X.w) X.A (f v u) Q X.xe s₂) X.xe s₁) X.xe s:=by
 refine thn (ha pins s σ H _ I h) λv s1 ⟨x,H1,I1,r1,q1⟩=>?_
 refine thn (hb pins s1 σ H1 _ I1 q1) λu s2 ⟨y,H2,I2,r2,q2⟩=>?_
 exact hf v u s2 x y H2 I2 r1 r2 q2
def jel (i:Nat):TE:=λσ H Q=>∃ v,σ[i]?=some (some v)/\Q v H
def tC (v:V):TE:=λ_ H Q=>Q v H
theorem zD {i : Nat} {x : Str} {pos : Pos} (hN : X.N[i]? = some x) (hv : Vis X.env.scope x) (hd : (x == ("__debug__" : Str)) = false := by decide) (hcd : (x == ("__classdict__" : Str)) = false := by decide) : PE X (.Name x pos) (jel i) := by
 intro pins s σ H Q I h;obtain ⟨v,e,h⟩:=h;obtain ⟨m,hn,hl⟩:=I.loc;obtain ⟨u,r,l⟩:=hl i x v hN e hv;have fin:EP X pins σ Q u s:=⟨v,H,I,r,h⟩;rcases l with ⟨hk,hm⟩ | ⟨hk,c,hc,hcell⟩
 ·exact wpAny_Name (wpAny_loadName_local I.ok.kind hk hn hm fin) hd
 ·rcases hk with hk | hk
  ·exact wpAny_Name (wpAny_loadName_cell I.ok.kind hk hc hcell fin) hd
  ·exact wpAny_Name (wpAny_loadName_free I.ok.kind hk hc hcell fin hcd) hd
theorem ydf {i j pos}:PE X (.Constant (.int i) j pos) (tC (.int i)):=λ_ _ _ H _ I h=>wpAny_Constant_int ⟨.int i,H,I.tok _,⟨_,rfl⟩,h⟩
theorem jcD {b j pos}:PE X (.Constant (.bool b) j pos) (tC (.bl b)):=λ_ _ _ H _ I h=>Constant_bool ⟨.bl b,H,I,rfl,h⟩
theorem jdf {j pos}:PE X (.Constant .none j pos) (tC .non):=λ_ _ _ H _ I h=>Constant_none ⟨.non,H,I,rfl,h⟩
theorem zdg {x j pos}:PE X (.Constant (.str x) j pos) (tC (.str x)):=λ_ _ _ H _ I h=>Calls.Constant_str ⟨.str x,H,I.tok _,⟨_,rfl⟩,h⟩
def Gl (X:Cx) (x:Str):Prop:=X.env.kindOf x=some .globalImplicit
theorem zbn {E:Value->Shared->Prop} {pins:List (Addr×Obj)} {s:Shared} {σ:St} {H:Hp} {x:Str} {u:Value} {pos:Pos} {Q:Value->Shared->Prop} (I:Inv X pins σ H s) (hg:Gl X x) (hm:X.mg x=some u) (h:Q u s)
  (hd:(x==("__debug__":Str))=false:=by decide):wpAny (model X.prog X.w) X.A (eval (.Name x pos) X.env) Q E s :=
 Calls.Name_function_global I.ok.kind hg (Calls.loadGlobal_global (by rw [I.ok.glob];exact I.mod.glob.keeps I.bk) hm h) hd
theorem jT {E:Value->Shared->Prop} {pins:List (Addr×Obj)} {s:Shared} {σ:St} {H:Hp} {x:Str} {u:Value} {pos:Pos} {Q:Value->Shared->Prop} (I:Inv X pins σ H s) (hg:Gl X x) (hm:X.mg x=none) (hv:bootBuiltins x=some u) (h:Q u s)
  (hn:x≠"__name__":=by decide) (hd:(x==("__debug__":Str))=false:=by decide):wpAny (model X.prog X.w) X.A (eval (.Name x pos) X.env) Q E s:=by
 obtain ⟨mb,h1,h2⟩:=I.mod.blt;exact Calls.Name_function_global I.ok.kind hg (Calls.loadGlobal_builtin (by rw [I.ok.glob];exact I.mod.glob.keeps I.bk) hm (by rw [I.ok.blt];exact h1.keeps I.bk) ((h2 x hn).trans hv) h) hd
theorem zcE {x : Str} {v : V} {u : Value} {pos : Pos} (hg : Gl X x) (hm : X.mg x = some u) (r : RelV v u) (hd : (x == ("__debug__" : Str)) = false := by decide) : PE X (.Name x pos) (tC v) :=
 λ_ _ _ H _ I h=>zbn I hg hm ⟨v,H,I,r,h⟩ hd
variable {a b:Expr} {ta tb:TE} {pos:Pos}
variable {tA tB':TT} {rest:List Expr}
def zem (t u:TT):TT:=λσ H Q=>t σ H λc H1=>if c=true then u σ H1 Q else Q false H1
def tOr (t u:TT):TT:=λσ H Q=>t σ H λc H1=>if c=true then Q true H1 else u σ H1 Q
def qem (t:TT):TT:=λσ H Q=>t σ H λc H1=>Q (!c) H1
theorem qcE (ha:PT X a tA):PW X (.BoolOp .And [a] pos) tA:=by
 intro wh pins s σ H Q I h;refine isTrue_and (thn (ha pins s σ H Q I h) λc s1 e=>?_);cases c with
 | true=>exact isTrue_and_nil e
 | false=>exact e
theorem qdg (ha:PT X a tA):PW X (.BoolOp .Or [a] pos) tA:=by
 intro wh pins s σ H Q I h;refine isTrue_or (thn (ha pins s σ H Q I h) λc s1 e=>?_);cases c with
 | false=>exact isTrue_or_nil e
 | true=>exact e
theorem zcp (ha:PT X a tA) (hb:PW X (.BoolOp .And (b::rest) pos) tB'):PW X (.BoolOp .And (a::b::rest) pos) (zem tA tB'):=by
 intro wh pins s σ H Q I h;refine isTrue_and (thn (ha pins s σ H _ I h) λc s1 ⟨H1,I1,q1⟩=>?_);cases c with
 | true=>exact hb wh pins s1 σ H1 Q I1 q1
 | false=>exact ⟨H1,I1,q1⟩
theorem ydg (ha:PT X a tA) (hb:PW X (.BoolOp .Or (b::rest) pos) tB'):PW X (.BoolOp .Or (a::b::rest) pos) (tOr tA tB'):=by
 intro wh pins s σ H Q I h;refine isTrue_or (thn (ha pins s σ H _ I h) λc s1 ⟨H1,I1,q1⟩=>?_);cases c with
 | true=>exact ⟨H1,I1,q1⟩
 | false=>exact hb wh pins s1 σ H1 Q I1 q1
theorem jdg (ha:PT X a tA):PT X (.UnaryOp .Not a pos) (qem tA):=by
 intro pins s σ H Q I h;exact isTrue_not (ha pins s σ H (λc H1=>Q (!c) H1) I h)
def qdW (ta tb:TE):TE:=λσ H Q=>ta σ H λx H1=>∃ c,x=.bl c/\if c=true then tb σ H1 Q else Q (.bl false) H1
def yem (ta tb:TE):TE:=λσ H Q=>ta σ H λx H1=>∃ c,x=.bl c/\if c=true then Q (.bl true) H1 else tb σ H1 Q
theorem zdh {op} {t:TE} (h:PE X a t):PE X (.BoolOp op [a] pos) t:=λpins s σ H Q I hw=>BoolOp_one (h pins s σ H Q I hw)
theorem qcp (ha:PE X a ta) (hb:PE X (.BoolOp .And (b::rest) pos) tb):PE X (.BoolOp .And (a::b::rest) pos) (qdW ta tb):=by
 intro pins s σ H Q I h;refine BoolOp_and (thn (ha pins s σ H _ I h) λv s1 ⟨x,H1,I1,r1,q1⟩=>?_);obtain ⟨c,rfl,q1⟩:=q1;cases r1;refine wpAny_truthy_bool ?_;cases c with
 | true=>exact hb pins s1 σ H1 Q I1 q1
 | false=>exact ⟨.bl false,H1,I1,rfl,q1⟩
theorem qdh (ha:PE X a ta) (hb:PE X (.BoolOp .Or (b::rest) pos) tb):PE X (.BoolOp .Or (a::b::rest) pos) (yem ta tb):=by
 intro pins s σ H Q I h;refine BoolOp_or (thn (ha pins s σ H _ I h) λv s1 ⟨x,H1,I1,r1,q1⟩=>?_);obtain ⟨c,rfl,q1⟩:=q1;cases r1;refine wpAny_truthy_bool ?_;cases c with
 | false=>exact hb pins s1 σ H1 Q I1 q1
 | true=>exact ⟨.bl true,H1,I1,rfl,q1⟩
def tIf (t:TT) (ta tb:TE):TE:=λσ H Q=>t σ H λc H1=>if c=true then ta σ H1 Q else tb σ H1 Q
theorem zaY {c:Expr} (hc:PT X c tA) (ha:PE X a ta) (hb:PE X b tb):PE X (.IfExp c a b pos) (tIf tA ta tb):=by
 intro pins s σ H Q I h;refine wpAny_IfExp (thn (hc pins s σ H _ I h) λd s1 ⟨H1,I1,q1⟩=>?_);cases d with
 | true=>exact ha pins s1 σ H1 Q I1 q1
 | false=>exact hb pins s1 σ H1 Q I1 q1
end
def SqL (K:Frag) (H:Hp) (a:Addr) (xs:List V):Prop :=
 Rd H a (.lst xs) \/
  ∃ (o:Obj) (its:Array Value) (n:Nat),K.lookup a=some o/\o.cls=.type "list"/\o.dict=none/\o.data=.seq its n/\its.size<=sizeLine/\Vals xs its.toList
def SqT (K:Frag) (H:Hp) (a:Addr) (xs:List V):Prop :=
 Rd H a (.tup xs) \/
  ∃ (o:Obj) (its:Array Value) (n:Nat),K.lookup a=some o/\o.cls=.type "tuple"/\o.data=.seq its n/\its.size<=sizeLine/\Vals xs its.toList
noncomputable def jem:Value->Option V
 | .none=>some .non
 | .bool b=>some (.bl b)
 | .int i _=>some (.int i)
 | .str x _=>some (.str x)
 | .bytes b _=>some (.byt b)
 | .float b _=>some (.flt b)
 | .ref a=>some (.ref a)
 | .type n=>some (.ty n)
 | _=>none
theorem RelV.abs {x:V} {u:Value} (r:RelV x u):jem u=some x:=by
 cases x with
 | non=>cases r;rfl
 | bl _=>cases r;rfl
 | int _=>obtain ⟨t,rfl⟩:=r;rfl
 | str _=>obtain ⟨t,rfl⟩:=r;rfl
 | byt _=>obtain ⟨t,rfl⟩:=r;rfl
 | flt _=>obtain ⟨t,rfl⟩:=r;rfl
 | ref _=>cases r;rfl
 | ty _=>cases r;rfl
theorem RelV.inj {x y:V} {u:Value} (r:RelV x u) (q:RelV y u):x=y:=wB (r.abs.symm.trans q.abs)
theorem Vals.inj:∀ {xs ys:List V} {us:List Value},Vals xs us->Vals ys us->xs=ys
 | _,_,_,.nil,.nil=>rfl
 | _,_,_,.cons r t,.cons r' t'=>by rw [r.inj r',Vals.inj t t']
section
variable {X:Cx} {pins:List (Addr×Obj)} {σ:St} {H:Hp} {s:Shared} {a:Addr} {xs ys:List V}
theorem SqL.of {K:Frag} (h:H a=some (.lst xs)):SqL K H a xs:=.inl (.inl h)
theorem SqT.of {K:Frag} (h:H a=some (.tup xs)):SqT K H a xs:=.inl (.inl h)
theorem Inv.list (I:Inv X pins σ H s) (h:SqL X.K H a xs):∃ its:List Value,Vals xs its/\PlainL s.heap a its.toArray/\xs.length<=sizeLine:=by
 rcases h with h | ⟨o,its,n,hk,hc,hd,hs,hz,r⟩
 ·obtain ⟨z,its,n,r,e⟩:=h.ok I.hok;exact ⟨its,r,⟨_,n,e,rfl,rfl,rfl⟩,z⟩
 ·refine ⟨its.toList,r,⟨o,n,I.kIn a o hk,hc,hd,by simpa using hs⟩,?_⟩;have e:=r.length;simp only [Array.length_toList] at e;omega
theorem Inv.tuple (I:Inv X pins σ H s) (h:SqT X.K H a xs):∃ its:List Value,Vals xs its/\IsTup s.heap a its.toArray/\xs.length<=sizeLine:=by
 rcases h with h | ⟨o,its,n,hk,hc,hs,hz,r⟩
 ·obtain ⟨z,its,r,p⟩:=h.ok I.hok;exact ⟨its,r,p.tup,z⟩
 ·refine ⟨its.toList,r,⟨o,I.kIn a o hk,hc,n,by simpa using hs⟩,?_⟩;have e:=r.length;simp only [Array.length_toList] at e;omega
theorem Inv.list_inj (I:Inv X pins σ H s) (h:SqL X.K H a xs) (h':SqL X.K H a ys):xs=ys:=by
 obtain ⟨its,r,⟨o,n,e,_,_,d⟩,_⟩:=I.list h;obtain ⟨its',r',⟨o',n',e',_,_,d'⟩,_⟩:=I.list h';rw [e] at e';cases e'
 rw [d] at d';injection d' with d1 _
 have:its=its':=by simpa using congrArg Array.toList d1
 subst this;exact r.inj r'
theorem Inv.tuple_inj (I:Inv X pins σ H s) (h:SqT X.K H a xs) (h':SqT X.K H a ys):xs=ys:=by
 obtain ⟨its,r,⟨o,e,_,n,d⟩,_⟩:=I.tuple h;obtain ⟨its',r',⟨o',e',_,n',d'⟩,_⟩:=I.tuple h';rw [e] at e';cases e'
 rw [d] at d';injection d' with d1 _
 have:its=its':=by simpa using congrArg Array.toList d1
 subst this;exact r.inj r'
end
noncomputable abbrev Cx.wish (X:Cx) (E:Value->Shared->Prop):Cx:={ X with xe:=E }
noncomputable abbrev Cx.nox (X:Cx):Cx:=X.wish λ_ _=>False
theorem Cx.Ok.wish {X:Cx} (ok:X.Ok) (E:Value->Shared->Prop):(X.wish E).Ok :=
 ⟨ok.mod,ok.kind,ok.glob,ok.blt,ok.above,ok.inj,ok.has,ok.cab,ok.hd,ok.frames,ok.stk,ok.exf,ok.bs,ok.bsz,ok.noex,ok.exfs,ok.funs,ok.frf⟩
theorem Cx.Ok.unwish {X:Cx} {E:Value->Shared->Prop} (ok:(X.wish E).Ok):X.Ok :=
 ⟨ok.mod,ok.kind,ok.glob,ok.blt,ok.above,ok.inj,ok.has,ok.cab,ok.hd,ok.frames,ok.stk,ok.exf,ok.bs,ok.bsz,ok.noex,ok.exfs,ok.funs,ok.frf⟩
section
variable {X:Cx} {pins:List (Addr×Obj)} {σ:St} {H:Hp} {s:Shared} {E:Value->Shared->Prop}
theorem Inv.wish (I:Inv X pins σ H s) (E:Value->Shared->Prop):Inv (X.wish E) pins σ H s:=⟨I.ok.wish E,I.os,I.bare,I.base,I.loc,I.cell,I.free,I.freeC,I.pin,I.hok,I.len⟩
theorem Inv.unwish (I:Inv (X.wish E) pins σ H s):Inv X pins σ H s:=⟨I.ok.unwish,I.os,I.bare,I.base,I.loc,I.cell,I.free,I.freeC,I.pin,I.hok,I.len⟩
theorem SP.unwish {D:Ends} {f:Flow} {s':Shared} (h:SP (X.wish E) pins D f s'):SP X pins D f s':=by
 cases f with
 | next=>obtain ⟨σ',H',I,q⟩:=h;exact ⟨σ',H',I.unwish,q⟩
 | brk=>obtain ⟨σ',H',I,q⟩:=h;exact ⟨σ',H',I.unwish,q⟩
 | cont=>obtain ⟨σ',H',I,q⟩:=h;exact ⟨σ',H',I.unwish,q⟩
 | ret u=>obtain ⟨v,σ',H',I,r,q⟩:=h;exact ⟨v,σ',H',I.unwish,r,q⟩
theorem PSs.nox {st:List Stmt} {t:TS} (h:PSs X.nox st t):PSs X st t:=λpins s σ H D I hw =>
 wpAny_mono (h pins s σ H D (I.wish _) hw) (λ_ _ q=>q.unwish) λ_ _ z=>False.elim z
end
section
variable {X:Cx} {st:Stmt} {rest:List Stmt} {t u:TS} {e:Expr} {te:TE} {pos:Pos}
def tNext:TS:=λD σ H=>D.nx σ H
def zen (t u:TS):TS:=λD σ H=>t { D with nx:=u D } σ H
theorem pss_nil:PSs X [] tNext:=λ_ _ σ H _ I h=>wpAny_execs_nil ⟨σ,H,I,h⟩
theorem jM (h1:PS X st t) (h2:PSs X rest u):PSs X (st::rest) (zen t u):=by
 intro pins s σ H D I h;refine wpAny_execs_cons (thn (h1 pins s σ H { D with nx:=u D } I h) λf s1 q=>?_);cases f with
 | next =>
  obtain ⟨σ',H',I',q⟩:=q;exact h2 pins s1 σ' H' D I' q
 | ret v=>exact q
 | brk=>exact q
 | cont=>exact q
theorem ycE (h1:PS X st t):PSs X [st] t:=by
 intro pins s σ H D I h;refine wpAny_execs_cons (thn (h1 pins s σ H D I h) λf s1 q=>?_);cases f with
 | next=>exact wpAny_execs_nil q
 | ret v=>exact q
 | brk=>exact q
 | cont=>exact q
def tBreak:TS:=λD σ H=>D.bk σ H
def tCont:TS:=λD σ H=>D.ct σ H
theorem ps_pass:PS X (.Pass pos) tNext:=λ_ _ σ H _ I h=>wpAny_Pass ⟨σ,H,I,h⟩
theorem ps_break:PS X (.Break pos) tBreak:=λ_ _ σ H _ I h=>wpAny_Break ⟨σ,H,I,h⟩
theorem ps_continue:PS X (.Continue pos) tCont:=λ_ _ σ H _ I h=>wpAny_Continue ⟨σ,H,I,h⟩
theorem Inv.quiet {pins:List (Addr×Obj)} {σ:St} {H:Hp} {s:Shared} (I:Inv X pins σ H s):interactive X.env=false:=by simp [interactive,I.ok.kind]
def ydW (te:TE):TS:=λD σ H=>te σ H λ_ H1=>D.nx σ H1
theorem jP (he : PE X e te) (hs : swapsWith e none pos.line X.env = pure false := by rfl) : PS X (.Expr e pos) (ydW te) := by
 intro pins s σ H D I h;exact wpAny_Expr_any (thn (he pins s σ H _ I h) λv s1 ⟨x,H1,I1,r1,q1⟩=>⟨σ,H1,I1,q1⟩) I.quiet hs
def qen (te:TE):TS:=λD σ H=>te σ H D.rt
theorem ycp (he:PE X e te):PS X (.Return (some e) pos) (qen te):=by
 intro pins s σ H D I h;exact wpAny_Return_some (thn (he pins s σ H _ I h) λv s1 ⟨x,H1,I1,r1,q1⟩=>⟨x,σ,H1,I1,r1,q1⟩)
def tRetN:TS:=λD _ H=>D.rt .non H
theorem ps_retN:PS X (.Return none pos) tRetN:=λ_ _ σ H _ I h=>wpAny_Return_none ⟨.non,σ,H,I,rfl,h⟩
def yen (c:TT) (t u:TS):TS:=λD σ H=>c σ H λb H1=>if b=true then t D σ H1 else u D σ H1
theorem ydh {c:Expr} {a b:List Stmt} {tc:TT} (hc:PT X c tc) (ha:PSs X a t) (hb:PSs X b u):PS X (.If c a b pos) (yen tc t u):=by
 intro pins s σ H D I h;refine wpAny_If (thn (hc pins s σ H _ I h) λd s1 ⟨H1,I1,q1⟩=>?_);cases d with
 | true=>exact ha pins s1 σ H1 D I1 q1
 | false=>exact hb pins s1 σ H1 D I1 q1
end
abbrev TG:=V->St->Hp->(St->Hp->Prop)->Prop
abbrev TGs:=List V->St->Hp->(St->Hp->Prop)->Prop
def PG (X:Cx) (target:Expr) (t:TG):Prop :=
 ∀ (pins:List (Addr×Obj)) (s:Shared) (σ:St) (H:Hp) (v:V) (u:Value) (Q:St->Hp->Prop),Inv X pins σ H s->RelV v u->t v σ H Q ->
  wpAny (model X.prog X.w) X.A (assign target X.env u) (λ_ s'=>∃ σ' H',Inv X pins σ' H' s'/\Q σ' H') X.xe s
def PGs (X:Cx) (ts:List Expr) (t:TGs):Prop :=
 ∀ (pins:List (Addr×Obj)) (s:Shared) (σ:St) (H:Hp) (vs:List V) (us:List Value) (Q:St->Hp->Prop),Inv X pins σ H s->Vals vs us->t vs σ H Q ->
  wpAny (model X.prog X.w) X.A (assignInOrder ((assignEach ts X.env).map (·.2)) us) (λ_ s'=>∃ σ' H',Inv X pins σ' H' s'/\Q σ' H') X.xe s
abbrev jdW:=V->V->V->Hp->(Hp->Prop)->Prop
def jdS (X:Cx) (t:jdW):Prop :=
 ∀ (pins:List (Addr×Obj)) (s:Shared) (σ:St) (H:Hp) (o i v:V) (ov iv u:Value) (Q:Hp->Prop),Inv X pins σ H s->RelV o ov->RelV i iv->RelV v u->t o i v H Q ->
  wpAny (model X.prog X.w) X.A (setItem ov iv u) (λ_ s'=>∃ H',Inv X pins σ H' s'/\Q H') X.xe s
section
variable {X:Cx} {pos:Pos}
def jdh (i:Nat):TG:=λv σ H Q=>Q (σ.set i (some v)) H
theorem qbn {i : Nat} {x : Str} (hN : X.N.Nodup) (hi : X.N[i]? = some x) (hx : Loc X.env.scope x) (hf : X.fn x = true \/ X.env.scope.names.lookup x = some .local := by first | exact .inl rfl | exact .inr rfl | assumption) : PG X (.Name x pos) (jdh i) := by
 intro pins s σ H v u Q I r h;exact wpAny_assign_Name (jaX I hN hi hx r (λs' I'=>⟨_,H,I',h⟩) hf)
def gNil:TGs:=λvs σ H Q=>vs=[]/\Q σ H
def zdX (t:TG) (u:TGs):TGs:=λvs σ H Q=>∃ v r,vs=v::r/\t v σ H λσ' H'=>u r σ' H' Q
theorem jcE:PGs X [] gNil:=by
 intro pins s σ H vs us Q I r h;obtain ⟨e,h⟩:=h;subst e;cases r;exact assignInOrder_nil ⟨σ,H,I,h⟩
theorem yb3 {e:Expr} {es:List Expr} {t:TG} {u:TGs} (h1:PG X e t) (h2:PGs X es u)
  (hs:(assignEach (e::es) X.env).map (·.2)=assign e X.env::(assignEach es X.env).map (·.2):=by rfl):PGs X (e::es) (zdX t u):=by
 intro pins s σ H vs us Q I r h;obtain ⟨v,vr,e1,h⟩:=h;subst e1;cases r with
 | cons r rr =>
  rw [hs];refine assignInOrder_cons (thn (h1 pins s σ H _ _ _ I r h) λ_ s1 ⟨σ1,H1,I1,q1⟩=>?_);exact h2 pins s1 σ1 H1 _ _ Q I1 rr q1
def jen (K:Frag) (n:Nat) (t:TGs):TG:=λv σ H Q=>∃ a xs,v=.ref a/\SqT K H a xs/\xs.length=n/\t xs σ H Q
theorem zdi {es:List Expr} {k:Nat} {t:TGs} {n:Nat} (hc:X.calm=true) (h:PGs X es t)
  (hn:(assignEach es X.env).length=n:=by rfl) (hst:(assignEach es X.env).findIdx? (·.1)=none:=by rfl):PG X (.Tuple es k pos) (jen X.K n t):=by
 intro pins s σ H v u Q I r hw;obtain ⟨a,xs,e1,hq,hl,hw⟩:=hw;subst e1;cases r;obtain ⟨its,rv,ht,hz⟩:=I.tuple hq;refine assign_Tuple_tuple (I.ok.hd hc) ht (by simp [hn,<-hl,rv.length]) hst λh' hx=>?_
 have I1:Inv X pins σ H { s with heap:=h' }:=I.kept (t':=s.toks) λb o e=>hx b o (wM (wz e)) e
 exact h pins _ σ H xs _ Q I1 (by simpa using rv) hw
def zeo (to ti:TE) (t:jdW):TG:=λv σ H Q=>to σ H λo H1=>ti σ H1 λi H2=>t o i v H2 λH3=>Q σ H3
theorem ybn {o i:Expr} {to ti:TE} {t:jdW} (ho:PE X o to) (hi:PE X i ti) (hs:jdS X t)
  (ha : ∀ v, assign (.Subscript o i pos) X.env v = (do
   let ov <-holding [v] (eval o X.env)
   let iv <-holding [v,ov] (eval i X.env)
   standAt pos
   holding [v,ov,iv] (setItem ov iv v)
   release [v,ov,iv] []):=by intro _;rfl):PG X (.Subscript o i pos) (zeo to ti t):=by
 intro pins s σ H v u Q I r h;rw [ha];refine we (wpAny_holding (thn (ho pins s σ H _ I h) λov s1 ⟨x,H1,I1,r1,q1⟩=>?_));refine we (wpAny_holding (thn (hi pins s1 σ H1 _ I1 q1) λiv s2 ⟨y,H2,I2,r2,q2⟩=>?_));refine we (wpAny_standAt (we (wpAny_holding (thn (hs pins s2 σ H2 x y v ov iv u _ I2 r1 r2 r q2) λ_ s3 ⟨H3,I3,q3⟩=>?_))));exact wpAny_release ⟨σ,H3,I3,q3⟩
def qdi (te:TE) (g:TG):TS:=λD σ H=>te σ H λx H1=>g x σ H1 D.nx
theorem qaY {tg e : Expr} {te : TE} {g : TG} (he : PE X e te) (hg : PG X tg g) (hs : swapsWithSole [tg] e pos.line X.env = pure false := by rfl) (hw : swappedStores [tg] e X.env = pure none := by rfl)
  (h1:(assignEach [tg] X.env).map (·.2)=[assign tg X.env]:=by rfl):PS X (.Assign [tg] e pos) (qdi te g):=by
 intro pins s σ H D I h;refine wpAny_Assign_stores (thn (he pins s σ H _ I h) λv s1 ⟨x,H1,I1,r1,q1⟩=>?_) hs hw;rw [h1];exact thn (hg pins s1 σ H1 x v _ I1 r1 q1) λ_ s2 q=>q
theorem zaf {i : Nat} {x : Str} {e : Expr} {te : TE} {pos' : Pos} (hN : X.N.Nodup) (hi : X.N[i]? = some x) (hx : Loc X.env.scope x) (he : PE X e te) (hs : swapsWith e (some (.Name x pos')) pos.line X.env = pure false := by rfl) (hf : X.fn x = true \/ X.env.scope.names.lookup x = some .local := by first | exact .inl rfl | exact .inr rfl | assumption) :
  PS X (.Assign [.Name x pos'] e pos) (qdi te (jdh i)):=by
 intro pins s σ H D I h;refine wpAny_Assign_Name (thn (he pins s σ H _ I h) λv s1 ⟨y,H1,I1,r1,q1⟩=>?_) hs;exact jaX I1 hN hi hx r1 (λs2 I2=>⟨_,H1,I2,q1⟩) hf
end
section
variable {X:Cx} {pos:Pos}
def ydi (c:TT) (tb:TS):TS:=λD σ H=>∃ W:Nat->St->Hp->Prop,(∃ m,W m σ H)/\∀ m σ H,W m σ H ->
 c σ H λb H1=>if b=true then ∃ N:St->Hp->Prop,(∀ σ' H',N σ' H'->∃ m',m'<m/\W m' σ' H')/\tb { D with nx:=N,ct:=N,bk:=D.nx } σ H1 else D.nx σ H1
theorem jb3 {c:Expr} {body:List Stmt} {tc:TT} {tb:TS} (hp:PassesOwn (model X.prog X.w) X.A X.env X.xe) (hc:PT X c tc) (hb:PSs X body tb):PS X (.While c body [] pos) (ydi tc tb):=by
 intro pins s σ H D I h;obtain ⟨W,⟨m0,w0⟩,turn⟩:=h;refine wpAny_While (codeAny_whileLoop (λn s'=>∃ σ' H',Inv X pins σ' H' s'/\W n σ' H') ?_ m0 ⟨σ,H,I,w0⟩);rintro n s1 ⟨σ1,H1,I1,w1⟩;refine wpAny_passesOwn hp (thn (hc pins s1 σ1 H1 _ I1 (turn n σ1 H1 w1)) λb s2 ⟨H2,I2,q2⟩=>?_);cases b with
 | true =>
  obtain ⟨N,hN,q2⟩:=q2;rw [if_pos rfl];refine wpAny_passesOwn hp (thn (hb pins s2 σ1 H2 _ I2 q2) λf s3 q3=>?_);cases f with
  | next =>
   obtain ⟨σ3,H3,I3,n3⟩:=q3;obtain ⟨m',hm,w3⟩:=hN σ3 H3 n3;exact ⟨m',hm,σ3,H3,I3,w3⟩
  | cont =>
   obtain ⟨σ3,H3,I3,n3⟩:=q3;obtain ⟨m',hm,w3⟩:=hN σ3 H3 n3;exact ⟨m',hm,σ3,H3,I3,w3⟩
  | brk=>exact q3
  | ret v=>exact q3
 | false =>
  rw [if_neg wA];exact wpAny_execs_nil ⟨σ1,H2,I2,q2⟩
end
structure It where
 go:Nat->Hp->Prop
 yld:Nat->Hp->V->Hp->Prop
 stop:Nat->Hp->Prop
def FpOk (X:Cx) (pins:List (Addr×Obj)) (H:Hp) (b:Addr):Prop :=
 H b=none/\b≠X.env.locals/\b∉X.fs/\(b∈X.ex\/X.s₀.heap.objs.size<=b)/\(∀ x c,X.env.cells.lookup x=some c->c≠b)/\∀ p∈X.pn++pins,p.1≠b
theorem Inv.fpOk {X:Cx} {pins:List (Addr×Obj)} {σ:St} {H H':Hp} {s:Shared} {b:Addr} (I:Inv X pins σ H s) (hb:s.heap.objs.size<=b) (hn:H' b=none):FpOk X pins H' b:=by
 refine ⟨hn,Nat.ne_of_gt (wL I.lt hb),I.nofs hb,.inr (wQ I.sz hb),λx c e z=>?_,λp hp z=>?_⟩
 ·obtain ⟨v,q⟩:=I.cell x c e;exact absurd (wL q.lt (by rw [z];exact hb)) (Nat.lt_irrefl _)
 ·exact absurd (wL (wz (I.pin p hp).1) (by rw [z];exact hb)) (Nat.lt_irrefl _)
structure Turn (P:Program) (w:World) (K:Frag) (tg:Expr) (J:It) (fp:List Addr) (it:Addr) (tn:Nat->Heap->Prop):Prop where
 mem:it∈fp
 obj:∀ i h,tn i h->∀ b∈fp,∃ o,h.get? b=some o/\∀ v,o.data≠.cell v
 keep:∀ i h h',tn i h->(∀ b∈fp,∀ o,h.get? b=some o->h'.get? b=some o)->tn i h'
 item:∀ (X:Cx),X.prog=P->X.w=w->X.K=K->X.calm=true->∀ (i:Nat) (pins:List (Addr×Obj)) (s:Shared) (σ:St) (H:Hp) (E:Value->Shared->Prop),Inv X pins σ H s->(∀ b∈fp,FpOk X pins H b)->tn i s.heap->J.go i H ->
  wpAny (model P w) X.A (pyNext (.ref it)) (λr s1=>∃ u,r=some u /\
   wpAny (model P w) X.A (letOwnedTupleGo tg (.ref it) u) (λ_ s2=>∃ x H',Inv X pins σ H' s2/\RelV x u/\J.yld i H x H'/\tn (i+1) s2.heap/\∀ b∈fp,H' b=none) E s1) E s
 done:∀ (X:Cx),X.prog=P->X.w=w->X.K=K->X.calm=true->∀ (i:Nat) (pins:List (Addr×Obj)) (s:Shared) (σ:St) (H:Hp) (E:Value->Shared->Prop),Inv X pins σ H s->(∀ b∈fp,FpOk X pins H b)->tn i s.heap->J.stop i H ->
  wpAny (model P w) X.A (pyNext (.ref it)) (λr s1=>r=none/\Inv X pins σ H s1) E s
 self:∀ (A:Around) (i:Nat) (s:Shared) (Q:Value->Shared->Prop) (E:Value->Shared->Prop),tn i s.heap->Q (.ref it) s->wpAny (model P w) A (pyIter (.ref it)) Q E s
abbrev TI:=St->Hp->(It->Hp->Prop)->Prop
def PIE (X:Cx) (pins:List (Addr×Obj)) (σ:St) (tg:Expr) (R:It->Hp->Prop) (itv:Value) (s2:Shared):Prop :=
 ∃ (it:Addr) (fp:List Addr) (tn:Nat->Heap->Prop) (J:It) (H':Hp),itv=.ref it/\Inv X pins σ H' s2/\Turn X.prog X.w X.K tg J fp it tn/\tn 0 s2.heap/\(∀ b∈fp,FpOk X pins H' b)/\R J H'
def PI (X:Cx) (tg iter:Expr) (wi:TI):Prop :=
 ∀ (pins:List (Addr×Obj)) (s:Shared) (σ:St) (H:Hp) (R:It->Hp->Prop),Inv X pins σ H s->wi σ H R ->
  wpAny (model X.prog X.w) X.A (eval iter X.env) (λv s1=>wpAny (model X.prog X.w) X.A (pyIter v) (PIE X pins σ tg R) X.xe s1) X.xe s
theorem zb4 {M:Model} {A:Around} {E:Value->Shared->Prop} {s:Shared} {tg:Expr} {it:Addr} {u:Value} {o:Obj} {n:String} {vs:Array Value} {Q:Unit->Shared->Prop} (ho:s.heap.get? it=some o) (hc:o.cls=.type n) (hd:o.data=.fields vs)
    (hn:["enumerate","zip","dict_itemiterator","dict_reverseitemiterator","odict_iterator","itertools.zip_longest","itertools.pairwise"].contains n=false) (hQ:Q () s):wpAny M A (letOwnedTupleGo tg (.ref it) u) Q E s:=by
  unfold letOwnedTupleGo
  cases tg <;> first
    | exact wm hQ
    | (cases u <;> first
        | exact wm hQ
        | (refine we (wpAny_load ho ?_)
           rw [hc,hd];show wpAny M A (if (["enumerate","zip","dict_itemiterator","dict_reverseitemiterator","odict_iterator","itertools.zip_longest","itertools.pairwise"].contains n&&vs[0]?==some (rawInt _))=true then _ else _) Q E s;rw [if_neg (by intro h;rw [hn,Bool.false_and] at h;cases h)];exact wm hQ))
noncomputable def Itl (K:Frag) (a:Addr):It :=
 ⟨λi H=>∃ xs x,SqL K H a xs/\xs[i]?=some x,λi H x H'=>H'=H/\∀ xs,SqL K H a xs->xs[i]?=some x,λi H=>∃ xs,SqL K H a xs/\xs.length<=i⟩
noncomputable def Itt (K:Frag) (a:Addr):It :=
 ⟨λi H=>∃ xs x,SqT K H a xs/\xs[i]?=some x,λi H x H'=>H'=H/\∀ xs,SqT K H a xs->xs[i]?=some x,λi H=>∃ xs,SqT K H a xs/\xs.length<=i⟩
noncomputable def Itr (lo:Int) (n:Nat):It:=⟨λi _=>i<n,λi H x H'=>H'=H/\x=.int (lo+i),λi _=>n<=i⟩
theorem jbn {P:Program} {w:World} {K:Frag} {tg:Expr} (a it:Addr):Turn P w K tg (Itl K a) [it] it (λi h=>h.IsListIter it a i) where
 mem:=by simp
 obj:=λi h st b hb=>by
  have e:b=it:=by simpa using hb
  subst e;obtain ⟨o,e,c,d⟩:=st;exact ⟨o,e,λv z=>by rw [d] at z;cases z⟩
 keep:=λi h h' st k=>st.at λo e=>k it (by simp) o e
 item:=by
  intro X hP hw hK hc i pins s σ H E I hf st hg;subst hP hw hK;obtain ⟨xs,x,hq,hx⟩:=hg;obtain ⟨its,rv,p,hz⟩:=I.list hq;obtain ⟨u,hu,ru⟩:=rv.get hx;obtain ⟨f0,f1,f2,f3,f4,f5⟩:=hf it (by simp);refine wpAny_pyNext_list_item st p.isList (x:=u) (by simpa using hu) λh' st' sb=>?_
  have I1:Inv X pins σ H { s with heap:=h' }:=I.turned (t':=s.toks) (λb o hb e=>(sb.2 b hb).trans e) f0 f1 f3 f4 f5;obtain ⟨o,e,c,d⟩:=id st';exact ⟨u,rfl,zb4 (s:={ s with heap:=h' }) e c d (by decide) ⟨x,H,I1,ru,⟨rfl,λys hy=>by rw [I.list_inj hy hq];exact hx⟩,st',λb hb=>(hf b hb).1⟩⟩
 done:=by
  intro X hP hw hK hc i pins s σ H E I hf st hg;subst hP hw hK;obtain ⟨xs,hq,hx⟩:=hg;obtain ⟨its,rv,p,hz⟩:=I.list hq;obtain ⟨f0,f1,f2,f3,f4,f5⟩:=hf it (by simp);have hl:=rv.length;exact wpAny_pyNext_list_end (I.ok.hd hc) st p.isList (by simp;omega) λh' eb=>⟨rfl,I.turned (t':=s.toks) (λb o hb e=>eb b o hb e) f0 f1 f3 f4 f5⟩
 self:=λ_ _ _ _ _ st h=>wpAny_pyIter_listiter st h
theorem jbd {P:Program} {w:World} {K:Frag} {tg:Expr} (a it:Addr):Turn P w K tg (Itt K a) [it] it (λi h=>h.IsTupleIter it a i) where
 mem:=by simp
 obj:=λi h st b hb=>by
  have e:b=it:=by simpa using hb
  subst e;obtain ⟨o,e,c,d⟩:=st;exact ⟨o,e,λv z=>by rw [d] at z;cases z⟩
 keep:=λi h h' st k=>st.at λo e=>k it (by simp) o e
 item:=by
  intro X hP hw hK hc i pins s σ H E I hf st hg;subst hP hw hK;obtain ⟨xs,x,hq,hx⟩:=hg;obtain ⟨its,rv,p,hz⟩:=I.tuple hq;obtain ⟨u,hu,ru⟩:=rv.get hx;obtain ⟨f0,f1,f2,f3,f4,f5⟩:=hf it (by simp);refine wpAny_pyNext_tuple_item st (show s.heap.IsTuple a its.toArray from p) (x:=u) (by simpa using hu) λh' st' sb=>?_
  have I1:Inv X pins σ H { s with heap:=h' }:=I.turned (t':=s.toks) (λb o hb e=>(sb.2 b hb).trans e) f0 f1 f3 f4 f5;obtain ⟨o,e,c,d⟩:=id st';exact ⟨u,rfl,zb4 (s:={ s with heap:=h' }) e c d (by decide) ⟨x,H,I1,ru,⟨rfl,λys hy=>by rw [I.tuple_inj hy hq];exact hx⟩,st',λb hb=>(hf b hb).1⟩⟩
 done:=by
  intro X hP hw hK hc i pins s σ H E I hf st hg;subst hP hw hK;obtain ⟨xs,hq,hx⟩:=hg;obtain ⟨its,rv,p,hz⟩:=I.tuple hq;obtain ⟨f0,f1,f2,f3,f4,f5⟩:=hf it (by simp);have hl:=rv.length;exact wpAny_pyNext_tuple_end (I.ok.hd hc) st (show s.heap.IsTuple a its.toArray from p) (by simp;omega) λh' eb=>⟨rfl,I.turned (t':=s.toks) (λb o hb e=>eb b o hb e) f0 f1 f3 f4 f5⟩
 self:=λ_ _ _ _ _ st h=>wpAny_pyIter_tupleiter st h
theorem zbe {P:Program} {w:World} {K:Frag} {tg:Expr} (it:Addr) (lo:Int) (n:Nat):Turn P w K tg (Itr lo n) [it] it (λi h=>IsRangeIter h it (lo+(i:Nat)*1) ((n:Int)-(i:Nat)) 1) where
 mem:=by simp
 obj:=λi h st b hb=>by
  have e:b=it:=by simpa using hb
  subst e
  exact ⟨_,st,λv z=>by
   have z':Data.fields _=Data.cell v:=z;cases z'⟩
 keep:=λi h h' st k=>k it (by simp) _ st
 item:=by
  intro X hP hw hK hc i pins s σ H E I hf st hg;subst hP hw hK;obtain ⟨f0,f1,f2,f3,f4,f5⟩:=hf it (by simp);have W:=Walks.range (prog:=X.prog) (w:=X.w) (I.ok.hd hc) it lo 1 n;refine W.item i s _ _ hg st λv h' tk hv st' kk=>?_
  obtain ⟨t,rfl⟩:=hv;have I1:Inv X pins σ H { s with heap:=h',toks:=tk }:=I.turned (λb o hb e=>kk b o (by simpa using hb) e) f0 f1 f3 f4 f5;refine ⟨_,rfl,zb4 (s:={ s with heap:=h',toks:=tk }) (n:="range_iterator") st' rfl rfl (by decide) ⟨.int (lo+i),H,I1,⟨t,?_⟩,⟨rfl,rfl⟩,st',λb hb=>(hf b hb).1⟩⟩;rw [Int.mul_one]
 done:=by
  intro X hP hw hK hc i pins s σ H E I hf st hg;subst hP hw hK;obtain ⟨f0,f1,f2,f3,f4,f5⟩:=hf it (by simp);exact wpAny_pyNext_range_end (I.ok.hd hc) st (by have:n<=i:=hg;omega) λh' eb=>⟨rfl,I.turned (t':=s.toks) (λb o hb e=>eb b o hb e) f0 f1 f3 f4 f5⟩
 self:=λ_ _ _ _ _ st h=>wpAny_pyIter_rangeiter st h
section
variable {X:Cx} {tg:Expr}
theorem yaY {pins:List (Addr×Obj)} {σ:St} {H:Hp} {s:Shared} {R:It->Hp->Prop} {E:Value->Shared->Prop} {lo hi:Int} {t u v:Tok} {tk:Nat} (I:Inv X pins σ H s) (h1:-(2^62)<=lo) (h2:lo<2^62) (h3:-(2^62)<=hi) (h4:hi<2^62)
  (q:R (Itr lo (hi-lo).toNat) H):wpAny (model X.prog X.w) X.A (pyIter (.ref s.heap.objs.size)) (PIE X pins σ tg R) E { s with heap:=s.heap.push { cls:=.type "range",data:=.fields #[.int lo t,.int hi u,.int 1 v] },toks:=tk }:=by
 refine wpAny_pyIter_range (IsRange.new ..) (small_one h1 h2 h3 h4) ?_;have I1:Inv X pins σ H { s with heap:=s.heap.push { cls:=.type "range",data:=.fields #[.int lo t,.int hi u,.int 1 v] },toks:=tk }:=I.kept λb o e=>wj _ e
 refine ⟨(s.heap.push { cls:=.type "range",data:=.fields #[.int lo t,.int hi u,.int 1 v] }).objs.size,[(s.heap.push { cls:=.type "range",data:=.fields #[.int lo t,.int hi u,.int 1 v] }).objs.size],_,_,H,rfl,
  I1.kept (t':=tk) λb o e=>wj _ e,zbe _ lo (hi-lo).toNat,?_,λb hb=>?_,q⟩
 ·have e1:lo+((0:Nat):Int)*1=lo:=by simp
  have e2:(((hi-lo).toNat:Nat):Int)-((0:Nat):Int)=Builtin.Range.rangeSize lo hi 1:=by rw [rangeSize_one];split<;>omega
  show IsRangeIter _ _ (lo+((0:Nat):Int)*1) ((((hi-lo).toNat:Nat):Int)-((0:Nat):Int)) 1;rw [e1,e2];exact wt _ rfl
 ·have e:b=(s.heap.push { cls:=.type "range",data:=.fields #[.int lo t,.int hi u,.int 1 v] }).objs.size:=by simpa using hb
  subst e;exact I1.fpOk (wC _) (I1.hok.fresh (wC _))
def qdX (ta:TA):TI:=λσ H R=>ta σ H λvs H1=>∃ j:Int,vs=[.int j]/\-(2^62)<=j/\j<2^62/\R (Itr 0 j.toNat) H1
def ydX (ta:TA):TI:=λσ H R=>ta σ H λvs H1=>∃ i j:Int,vs=[.int i,.int j]/\(-(2^62)<=i/\i<2^62/\-(2^62)<=j/\j<2^62)/\R (Itr i (j-i).toNat) H1
theorem zbo {a : Expr} {ta : TA} {p pos : Pos} (hg : Gl X "range") (hm : X.mg "range" = none) (ha : PA X [a] ta) (hs : starEach [a] X.env = [(false, eval a X.env)] := by rfl) : PI X tg (.Call (.Name "range" p) [a] [] pos) (qdX ta) := by
 intro pins s σ H R I h;refine Call_ (jT I hg hm boot_range (PyProof.Rows.callWith_type1 (thn (ha pos pins s σ H _ I h) λus s1 ⟨vs,H1,I1,r1,q1⟩=>?_) hs rfl));obtain ⟨j,e,q1,q2,q⟩:=q1;subst e;cases r1 with
 | cons r rr =>
  cases rr;obtain ⟨t,rfl⟩:=r;exact call_range_1 (yaY I1 (by omega) (by omega) q1 q2 (by simpa using q))
theorem qbo {a b : Expr} {ta : TA} {p pos : Pos} (hg : Gl X "range") (hm : X.mg "range" = none) (ha : PA X [a, b] ta) (hs : starEach [a, b] X.env = [(false, eval a X.env), (false, eval b X.env)] := by rfl) (hs2 : starEach [b] X.env = [(false, eval b X.env)] := by rfl) :
  PI X tg (.Call (.Name "range" p) [a,b] [] pos) (ydX ta):=by
 intro pins s σ H R I h;refine Call_ (jT I hg hm boot_range (PyProof.Rows.callWith_type1 (thn (ha pos pins s σ H _ I h) λus s1 ⟨vs,H1,I1,r1,q1⟩=>?_) (by rw [hs,hs2]) (by rw [hs2];rfl)));obtain ⟨i,j,e,⟨q1,q2,q3,q4⟩,q⟩:=q1;subst e;cases r1 with
 | cons r rr =>
  cases rr with
  | cons r' rr =>
   cases rr;obtain ⟨t,rfl⟩:=r;obtain ⟨t',rfl⟩:=r';exact call_range_2 (yaY I1 q1 q2 q3 q4 q)
def qeo (wi:TI) (g:TG) (tb:TS):TS:=λD σ H=>wi σ H λJ H1=>∃ W:Nat->Nat->St->Hp->Prop,(∃ m,W 0 m σ H1)/\∀ i m σ H,W i m σ H ->
 (J.stop i H/\D.nx σ H)\/(J.go i H/\∃ N:St->Hp->Prop,(∀ σ' H',N σ' H'->∃ m',m'<m/\W (i+1) m' σ' H')/\∀ x H',J.yld i H x H'->g x σ H' λσ2 H2=>tb { D with nx:=N,ct:=N,bk:=D.nx } σ2 H2)
noncomputable def yaz (fp:List Addr) (h:Heap):List (Addr×Obj):=fp.filterMap λb=>(h.get? b).map λo=>(b,o)
theorem zH {fp:List Addr} {h:Heap} {b:Addr} {o:Obj} (hb:b∈fp) (e:h.get? b=some o):(b,o)∈yaz fp h:=List.mem_filterMap.mpr ⟨b,hb,by rw [e];rfl⟩
theorem ybo {fp:List Addr} {h:Heap} {p:Addr×Obj} (hp:p∈yaz fp h):p.1∈fp/\h.get? p.1=some p.2:=by
 obtain ⟨b,hb,e⟩:=List.mem_filterMap.mp hp;cases q:h.get? b with
 | none=>rw [q] at e;cases e
 | some o =>
  rw [q] at e;have e':(b,o)=p:=wB e;subst e';exact ⟨hb,q⟩
theorem Inv.pinned {pins:List (Addr×Obj)} {σ:St} {H:Hp} {s:Shared} {fp:List Addr} (I:Inv X pins σ H s) (hf:∀ b∈fp,FpOk X pins H b) (ho:∀ b∈fp,∃ o,s.heap.get? b=some o/\∀ v,o.data≠.cell v):Inv X (pins++yaz fp s.heap) σ H s :=
 I.pins_of λp hp=>(List.mem_append.mp hp).elim (λz=>I.pin p (wK _ z)) λz=>by
  obtain ⟨hb,e⟩:=ybo z;obtain ⟨f0,f1,f2,_⟩:=hf p.1 hb;obtain ⟨o,e',d⟩:=ho p.1 hb;rw [e] at e';cases e'
  exact ⟨e,f0,f1,f2,d⟩
theorem Inv.unpinned {pins pl:List (Addr×Obj)} {σ:St} {H:Hp} {s:Shared} (I:Inv X (pins++pl) σ H s):Inv X pins σ H s:=I.pins_of λp hp=>I.pin p (wK _ (List.mem_append_left _ hp))
theorem jdi {iter:Expr} {body:List Stmt} {wi:TI} {g:TG} {tb:TS} {pos:Pos} (hp:PassesOwn (model X.prog X.w) X.A X.env X.xe) (hc:X.calm=true) (hi:PI X tg iter wi) (hg:PG X tg g) (hb:PSs X body tb)
  (hs:∀ x,foldedSetIterable iter X.env x=pure x:=by intro _;rfl):PS X (.For tg iter body [] pos) (qeo wi g tb):=by
 intro pins s σ H D I h;refine wpAny_For (thn (hi pins s σ H _ I h) λv s1 h1=>thn h1 λitv s2 h2=>?_) hs;obtain ⟨it,fp,tn,J,H2,e,I2,T,st2,f2,W,⟨m0,w0⟩,turn⟩:=h2;subst e;have stat:∀ {H':Hp},(∀ b∈fp,H' b=none)->∀ b∈fp,FpOk X pins H' b:=λhn b hb=>⟨hn b hb,(f2 b hb).2⟩
 refine codeAny_forLoop_any (λn s'=>∃ i σ' H',Inv X pins σ' H' s'/\tn i s'.heap/\(∀ b∈fp,H' b=none)/\W i n σ' H') ?_ m0 ⟨0,σ,H2,I2,st2,λb hb=>(f2 b hb).1,w0⟩;rintro n s3 ⟨i,σ3,H3,I3,st3,fr3,w3⟩;rcases turn i n σ3 H3 w3 with ⟨stop,qn⟩ | ⟨go,N,hN,step⟩
 ·refine wpAny_passesOwn hp (thn (T.done X rfl rfl rfl hc i pins s3 σ3 H3 X.xe I3 (stat fr3) st3 stop) λr s4 ⟨hr,I4⟩=>?_);subst hr;exact wpAny_execs_nil ⟨σ3,H3,I4,qn⟩
 ·refine wpAny_passesOwn hp (thn (T.item X rfl rfl rfl hc i pins s3 σ3 H3 X.xe I3 (stat fr3) st3 go) λr s4 ⟨u,hr,h4⟩=>?_);subst hr;refine wpAny_passesOwn hp (thn h4 λ_ s5 ⟨x,H5,I5,r5,y5,st5,fr5⟩=>?_);have I5':=I5.pinned (stat fr5) (T.obj _ _ st5);refine wpAny_passesOwn hp (thn (hg _ s5 σ3 H5 x u _ I5' r5 (step x H5 y5)) λ_ s6 ⟨σ6,H6,I6,q6⟩=>?_);refine wpAny_passesOwn hp (thn (hb _ s6 σ6 H6 _ I6 q6) λf s7 q7=>?_)
  have again:∀ {σ7:St} {H7:Hp},Inv X (pins++yaz fp s5.heap) σ7 H7 s7->N σ7 H7->∃ m,m<n/\∃ i σ' H',Inv X pins σ' H' s7/\tn i s7.heap/\(∀ b∈fp,H' b=none)/\W i m σ' H':=λ{σ7 H7} I7 n7=>by
   obtain ⟨m',hm,w7⟩:=hN σ7 H7 n7;refine ⟨m',hm,i+1,σ7,H7,I7.unpinned,T.keep _ _ _ st5 λb hb o e=>(I7.pin (b,o) (wK _ (wK _ (zH hb e)))).1,λb hb=>?_,w7⟩;obtain ⟨o,e,d⟩:=T.obj _ _ st5 b hb;exact (I7.pin (b,o) (wK _ (wK _ (zH hb e)))).2.1
  cases f with
  | next=>obtain ⟨σ7,H7,I7,n7⟩:=q7;exact again I7 n7
  | cont=>obtain ⟨σ7,H7,I7,n7⟩:=q7;exact again I7 n7
  | brk=>obtain ⟨σ7,H7,I7,q7⟩:=q7;exact ⟨σ7,H7,I7.unpinned,q7⟩
  | ret v=>obtain ⟨x7,σ7,H7,I7,r7,q7⟩:=q7;exact ⟨x7,σ7,H7,I7.unpinned,r7,q7⟩
end
abbrev R2:=V->V->Hp->VK->Prop
def OpR (X:Cx) (f:Value->Value->Sem Value) (r:R2):Prop :=
 ∀ (pins:List (Addr×Obj)) (s:Shared) (σ:St) (H:Hp) (x y:V) (v u:Value) (Q:VK),Inv X pins σ H s->RelV x v->RelV y u->r x y H Q ->
  wpAny (model X.prog X.w) X.A (f v u) (EP X pins σ Q) X.xe s
def UnR (X:Cx) (f:Value->Sem Value) (r:V->Hp->VK->Prop):Prop :=
 ∀ (pins:List (Addr×Obj)) (s:Shared) (σ:St) (H:Hp) (x:V) (v:Value) (Q:VK),Inv X pins σ H s->RelV x v->r x H Q ->
  wpAny (model X.prog X.w) X.A (f v) (EP X pins σ Q) X.xe s
def zr (X:Cx) (f:Value) (r:List V->Hp->VK->Prop):Prop :=
 ∀ (pins:List (Addr×Obj)) (s:Shared) (σ:St) (H:Hp) (xs:List V) (us:List Value) (Q:VK),Inv X pins σ H s->Vals xs us->r xs H Q ->
  wpAny (model X.prog X.w) X.A (call f us) (EP X pins σ Q) X.xe s
def yeo (X:Cx) (r:V->Hp->(Bool->Hp->Prop)->Prop):Prop :=
 ∀ (pins:List (Addr×Obj)) (s:Shared) (σ:St) (H:Hp) (x:V) (v:Value) (Q:Bool->Hp->Prop),Inv X pins σ H s->RelV x v->r x H Q ->
  wpAny (model X.prog X.w) X.A (truthy v) (TP X pins σ Q) X.xe s
def tOp (r:R2) (ta tb:TE):TE:=λσ H Q=>ta σ H λx H1=>tb σ H1 λy H2=>r x y H2 Q
def tUn (r:V->Hp->VK->Prop) (ta:TE):TE:=λσ H Q=>ta σ H λx H1=>r x H1 Q
def rI (C:Int->Int->Prop) (g:Int->Int->V):R2:=λx y H Q=>∃ i j,x=.int i/\y=.int j/\C i j/\Q (g i j) H
def rI0 (g:Int->Int->V):R2:=λx y H Q=>∃ i j,x=.int i/\y=.int j/\Q (g i j) H
def rU (g:Int->V):V->Hp->VK->Prop:=λx H Q=>∃ i,x=.int i/\Q (g i) H
section
variable {X:Cx} {a b c:Expr} {ta tb tc:TE} {pos:Pos}
theorem jdX (ha:PE X a ta) (hb:PE X b tb) {pins:List (Addr×Obj)} {s:Shared} {σ:St} {H:Hp} {R:V->V->Hp->Prop} (I:Inv X pins σ H s)
  (h:ta σ H λx H1=>tb σ H1 λy H2=>R x y H2) {Q:Value->Shared->Prop} {f:Value->Value->Sem Value}
  (hf:∀ v u s2 x y H2,Inv X pins σ H2 s2->RelV x v->RelV y u->R x y H2->wpAny (model X.prog X.w) X.A (f v u) Q X.xe s2) :
  wpAny (model X.prog X.w) X.A (eval a X.env) (λv s₁=>wpAny (model X.prog X.w) X.A (eval b X.env) (λu s₂=>wpAny (model X.prog X.w) X.A (f v u) Q X.xe s₂) X.xe s₁) X.xe s:=by
 refine thn (ha pins s σ H _ I h) λv s1 ⟨x,H1,I1,r1,q1⟩=>?_
 refine thn (hb pins s1 σ H1 _ I1 q1) λu s2 ⟨y,H2,I2,r2,q2⟩=>?_
 exact hf v u s2 x y H2 I2 r1 r2 q2
theorem zdj {op:Operator} {r:R2} (ho:OpR X (binaryOp op) r) (ha:PE X a ta) (hb:PE X b tb):PE X (.BinOp a op b pos) (tOp r ta tb):=by
 intro pins s σ H Q I h;exact wpAny_BinOp (jdX ha hb I h λv u s2 x y H2 I2 rx ry q=>ho pins s2 σ H2 x y v u Q I2 rx ry q)
theorem zdY {op:UnaryOp} {r:V->Hp->VK->Prop} (ho:UnR X (unaryOp op) r) (ha:PE X a ta):PE X (.UnaryOp op a pos) (tUn r ta):=by
 intro pins s σ H Q I h;exact UnaryOp_ (thn (ha pins s σ H _ I h) λv s1 ⟨x,H1,I1,r1,q1⟩=>ho pins s1 σ H1 x v Q I1 r1 q1)
theorem opI {f:Value->Value->Sem Value} {C:Int->Int->Prop} {g:Int->Int->Int}
  (rule:∀ (i j:Int) (t u:Tok) (s:Shared) (Q:Value->Shared->Prop) (E:Value->Shared->Prop),C i j->Q (.int (g i j) s.toks) { s with toks:=s.toks+1 }->wpAny (model X.prog X.w) X.A (f (.int i t) (.int j u)) Q E s) :
  OpR X f (rI C λi j=>.int (g i j)):=by
 intro pins s σ H x y v u Q I rx ry h;obtain ⟨i,j,rfl,rfl,hc,q⟩:=h;obtain ⟨t,rfl⟩:=rx;obtain ⟨t',rfl⟩:=ry;exact rule i j t t' s _ _ hc ⟨.int (g i j),H,I.tok _,⟨_,rfl⟩,q⟩
theorem qef {f:Value->Value->Sem Value} {g:Int->Int->Int}
  (rule:∀ (i j:Int) (t u:Tok) (s:Shared) (Q:Value->Shared->Prop) (E:Value->Shared->Prop),Q (.int (g i j) s.toks) { s with toks:=s.toks+1 }->wpAny (model X.prog X.w) X.A (f (.int i t) (.int j u)) Q E s) :
  OpR X f (rI0 λi j=>.int (g i j)):=by
 intro pins s σ H x y v u Q I rx ry h;obtain ⟨i,j,rfl,rfl,q⟩:=h;obtain ⟨t,rfl⟩:=rx;obtain ⟨t',rfl⟩:=ry;exact rule i j t t' s _ _ ⟨.int (g i j),H,I.tok _,⟨_,rfl⟩,q⟩
theorem zdT {f:Value->Value->Sem Value} {g:Int->Int->Bool}
  (rule:∀ (i j:Int) (t u:Tok) (s:Shared) (Q:Value->Shared->Prop) (E:Value->Shared->Prop),Q (.bool (g i j)) s->wpAny (model X.prog X.w) X.A (f (.int i t) (.int j u)) Q E s) :
  OpR X f (rI0 λi j=>.bl (g i j)):=by
 intro pins s σ H x y v u Q I rx ry h;obtain ⟨i,j,rfl,rfl,q⟩:=h;obtain ⟨t,rfl⟩:=rx;obtain ⟨t',rfl⟩:=ry;exact rule i j t t' s _ _ ⟨.bl (g i j),H,I,rfl,q⟩
def jeo (i j:Int):Prop:=0<j/\j<1073741824
def zep (i j:Int):Prop:=0<=j/\j<=1000000/\i.natAbs<2^64
def CMul (i j:Int):Prop:=(-(2^64)<i/\i<2^64)\/(-(2^64)<j/\j<2^64)
theorem CMul.ok {i j:Int} (h:CMul i j):IntMulOk i j:=by
 rcases h with ⟨h1,h2⟩ | ⟨h1,h2⟩
 ·exact .of_left (intBits_le_64 h1 h2)
 ·exact .of_right (intBits_le_64 h1 h2)
theorem qdj:OpR X (binaryOp .Add) (rI0 λi j=>.int (i+j)):=qef λ_ _ _ _ _ _ _ q=>add_int q
theorem ydj:OpR X (binaryOp .Sub) (rI0 λi j=>.int (i-j)):=qef λ_ _ _ _ _ _ _ q=>sub_int q
theorem jdj:OpR X (binaryOp .Mult) (rI CMul λi j=>.int (i*j)):=opI λ_ _ _ _ _ _ _ hc q=>mul_int q hc.ok
theorem zcF:OpR X (binaryOp .FloorDiv) (rI jeo λi j=>.int (i/j)):=opI λi j _ _ _ _ _ hc q=>by
 have h1:(0:Int)<j:=hc.1;have h2:j<1073741824:=hc.2;exact floordiv_int (by omega) (by rw [Int.fdiv_eq_ediv_of_nonneg i (by omega)];exact q) (.inl (PyProof.noPylong_small (by omega)))
theorem zdk:OpR X (binaryOp .Mod) (rI (λ_ j=>0<j) λi j=>.int (i%j)):=opI λi j _ _ _ _ _ hc q=>by
 have h1:(0:Int)<j:=hc;exact mod_int' (by omega) (by rw [Int.fmod_eq_emod_of_nonneg i (by omega)];exact q)
theorem qdk:OpR X (binaryOp .Pow) (rI zep λi j=>.int (i^j.toNat)):=opI λ_ _ _ _ _ _ _ hc q=>pow_int_small hc.1 hc.2.1 hc.2.2 q
theorem unI {f:Value->Sem Value} {g:Int->Int}
  (rule:∀ (i:Int) (t:Tok) (s:Shared) (Q:Value->Shared->Prop) (E:Value->Shared->Prop),Q (.int (g i) s.toks) { s with toks:=s.toks+1 }->wpAny (model X.prog X.w) X.A (f (.int i t)) Q E s) :
  UnR X f (rU λi=>.int (g i)):=by
 intro pins s σ H x v Q I rx h;obtain ⟨i,rfl,q⟩:=h;obtain ⟨t,rfl⟩:=rx;exact rule i t s _ _ ⟨.int (g i),H,I.tok _,⟨_,rfl⟩,q⟩
theorem ydk:UnR X (unaryOp .USub) (rU λi=>.int (-i)):=unI λ_ _ _ _ _ q=>neg_int q
end
noncomputable def yef:V->V->Bool
 | .non,.non=>true | .non,.int _=>true | .int _,.non=>true | .non,.bl _=>true | .bl _,.non=>true | .non,.str _=>true | .str _,.non=>true
 | .int _,.int _=>true | .bl _,.bl _=>true | .str _,.str _=>true | .byt _,.byt _=>true
 | .int _,.str _=>true | .str _,.int _=>true | .bl _,.str _=>true | .str _,.bl _=>true
 | _,_=>false
def rEq:R2:=λx y H Q=>yef x y=true/\Q (.bl (decide (x=y))) H
def rNe:R2:=λx y H Q=>yef x y=true/\Q (.bl (!decide (x=y))) H
theorem jbo {i j:Int}:decide (V.int i=V.int j)=(i==j):=by
 rw [vf]
 simp
theorem jcp {i j:Bool}:decide (V.bl i=V.bl j)=(i==j):=by
 rw [vf]
 simp
theorem qan {i j:Str}:decide (V.str i=V.str j)=(i==j):=by
 rw [vf]
 simp
theorem zbp {i j:Array UInt8}:decide (V.byt i=V.byt j)=(i.toList==j.toList):=by
 rw [vf];cases i;cases j
 simp
section
variable {X:Cx} {a b c:Expr} {ta tb tc:TE} {pos:Pos}
theorem yf {pins:List (Addr×Obj)} {σ:St} {H:Hp} {s:Shared} {Q:VK} {k k':Bool} (I:Inv X pins σ H s) (q:Q (.bl k) H) (e:k=k'):EP X pins σ Q (.bool k') s:=by
 subst e;exact ⟨.bl k,H,I,rfl,q⟩
theorem qdY:OpR X (compareOp .Eq) rEq:=by
 intro pins s σ H x y v u Q I rx ry h;obtain ⟨hs,q⟩:=h;cases x with
 | non =>
  cases rx;cases y with
  | non=>cases ry;exact PySem.EqNone.eq_none_none (yf I q (by simp))
  | bl j=>cases ry;exact PySem.EqNone.eq_none_bool (yf I q (by simp))
  | int j=>obtain ⟨t',rfl⟩:=ry;exact PySem.EqNone.eq_none_int (yf I q (by simp))
  | str j=>obtain ⟨t',rfl⟩:=ry;exact PySem.EqNone.eq_none_str (yf I q (by simp))
  | _=>exact absurd (show false=true from hs) wA
 | bl i =>
  cases rx;cases y with
  | non=>cases ry;exact PySem.EqNone.eq_bool_none (yf I q (by simp))
  | bl j=>cases ry;exact eq_bool (yf I q jcp)
  | str j=>obtain ⟨t',rfl⟩:=ry;exact PySem.EqMixed.eq_bool_str (yf I q (by simp))
  | _=>exact absurd (show false=true from hs) wA
 | int i =>
  obtain ⟨t,rfl⟩:=rx;cases y with
  | non=>cases ry;exact PySem.EqNone.eq_int_none (yf I q (by simp))
  | int j=>obtain ⟨t',rfl⟩:=ry;exact eq_int (yf I q jbo)
  | str j=>obtain ⟨t',rfl⟩:=ry;exact PySem.EqMixed.eq_int_str (yf I q (by simp))
  | _=>exact absurd (show false=true from hs) wA
 | str i =>
  obtain ⟨t,rfl⟩:=rx;cases y with
  | non=>cases ry;exact PySem.EqNone.eq_str_none (yf I q (by simp))
  | bl j=>cases ry;exact PySem.EqMixed.eq_str_bool (yf I q (by simp))
  | int j=>obtain ⟨t',rfl⟩:=ry;exact PySem.EqMixed.eq_str_int (yf I q (by simp))
  | str j=>obtain ⟨t',rfl⟩:=ry;exact eq_str (yf I q qan)
  | _=>exact absurd (show false=true from hs) wA
 | byt i =>
  obtain ⟨t,rfl⟩:=rx;cases y with
  | byt j=>obtain ⟨t',rfl⟩:=ry;exact PySem.W.eq_bytes (yf I q zbp)
  | _=>exact absurd (show false=true from hs) wA
 | _=>cases y<;>exact absurd (show false=true from hs) wA
theorem ydY:OpR X (compareOp .NotEq) rNe:=by
 intro pins s σ H x y v u Q I rx ry h;obtain ⟨hs,q⟩:=h;cases x with
 | non =>
  cases rx;cases y with
  | non=>cases ry;exact PySem.EqNone.ne_none_none (yf I q (by simp))
  | bl j=>cases ry;exact PySem.EqNone.ne_none_bool (yf I q (by simp))
  | int j=>obtain ⟨t',rfl⟩:=ry;exact PySem.EqNone.ne_none_int (yf I q (by simp))
  | str j=>obtain ⟨t',rfl⟩:=ry;exact PySem.EqNone.ne_none_str (yf I q (by simp))
  | _=>exact absurd (show false=true from hs) wA
 | bl i =>
  cases rx;cases y with
  | non=>cases ry;exact PySem.EqNone.ne_bool_none (yf I q (by simp))
  | bl j=>cases ry;exact ne_bool (yf I q (congrArg not jcp))
  | str j=>obtain ⟨t',rfl⟩:=ry;exact PySem.EqMixed.ne_bool_str (yf I q (by simp))
  | _=>exact absurd (show false=true from hs) wA
 | int i =>
  obtain ⟨t,rfl⟩:=rx;cases y with
  | non=>cases ry;exact PySem.EqNone.ne_int_none (yf I q (by simp))
  | int j=>obtain ⟨t',rfl⟩:=ry;exact ne_int (yf I q (congrArg not jbo))
  | str j=>obtain ⟨t',rfl⟩:=ry;exact PySem.EqMixed.ne_int_str (yf I q (by simp))
  | _=>exact absurd (show false=true from hs) wA
 | str i =>
  obtain ⟨t,rfl⟩:=rx;cases y with
  | non=>cases ry;exact PySem.EqNone.ne_str_none (yf I q (by simp))
  | bl j=>cases ry;exact PySem.EqMixed.ne_str_bool (yf I q (by simp))
  | int j=>obtain ⟨t',rfl⟩:=ry;exact PySem.EqMixed.ne_str_int (yf I q (by simp))
  | str j=>obtain ⟨t',rfl⟩:=ry;exact ne_str (yf I q (congrArg not qan))
  | _=>exact absurd (show false=true from hs) wA
 | byt i =>
  obtain ⟨t,rfl⟩:=rx;cases y with
  | byt j=>obtain ⟨t',rfl⟩:=ry;exact PySem.W.ne_bytes (yf I q (congrArg not zbp))
  | _=>exact absurd (show false=true from hs) wA
 | _=>cases y<;>exact absurd (show false=true from hs) wA
theorem jdY:OpR X (compareOp .Lt) (rI0 λi j=>.bl (decide (i<j))):=zdT λ_ _ _ _ _ _ _ q=>lt_int q
theorem zdZ:OpR X (compareOp .LtE) (rI0 λi j=>.bl (decide (i<=j))):=zdT λ_ _ _ _ _ _ _ q=>le_int q
theorem qdZ:OpR X (compareOp .Gt) (rI0 λi j=>.bl (decide (j<i))):=zdT λ_ _ _ _ _ _ _ q=>gt_int q
theorem ydZ:OpR X (compareOp .GtE) (rI0 λi j=>.bl (decide (j<=i))):=zdT λ_ _ _ _ _ _ _ q=>ge_int q
theorem jdk:OpR X (compareOp .Is) (λx y H Q=>y=.non/\Q (.bl (decide (x=.non))) H):=by
 intro pins s σ H x y v u Q I rx ry h;obtain ⟨rfl,q⟩:=h;cases ry;refine is_none_gen (yf I q ?_)
 cases x <;> first
  | (cases rx;rfl)
  | (obtain ⟨t,rfl⟩:=rx;rfl)
theorem qcF:OpR X (compareOp .IsNot) (λx y H Q=>y=.non/\Q (.bl (!decide (x=.non))) H):=by
 intro pins s σ H x y v u Q I rx ry h;obtain ⟨rfl,q⟩:=h;cases ry;refine isnot_none_gen (yf I q ?_)
 cases x <;> first
  | (cases rx;rfl)
  | (obtain ⟨t,rfl⟩:=rx;rfl)
theorem zdl (b : Expr) {op : CmpOp} (h : op ≠ .In := by decide) (h2 : op ≠ .NotIn := by decide) : behindInMarks op b = false := by
 have e1:(op==CmpOp.In)=false:=by cases op<;>first | rfl | exact absurd rfl h
 have e2:(op==CmpOp.NotIn)=false:=by cases op<;>first | rfl | exact absurd rfl h2
 cases b<;>simp [behindInMarks,e1,e2]
theorem ycF {op:CmpOp} {r:R2} (ho:OpR X (compareOp op) r) (ha:PE X a ta) (hb:PE X b tb) (hm:behindInMarks op b=false):PE X (.Compare a [op] [b] pos) (tOp r ta tb):=by
 intro pins s σ H Q I h;exact wpAny_Compare1 (jdX ha hb I h λv u s2 x y H2 I2 rx ry q=>ho pins s2 σ H2 x y v u Q I2 rx ry q) hm
def qdl (t:TE):TT:=λσ H Q=>t σ H λx H'=>∃ k,x=.bl k/\Q k H'
theorem qbp {op:CmpOp} {r:R2} (ho:OpR X (compareOp op) r) (ha:PE X a ta) (hb:PE X b tb) (hm:behindInMarks op b=false):PT X (.Compare a [op] [b] pos) (qdl (tOp r ta tb)):=by
 intro pins s σ H Q I h
 refine wpAny_isTrue_Compare1 (thn (ha pins s σ H _ I h) λv s1 ⟨x,H1,I1,r1,q1⟩=>thn (hb pins s1 σ H1 _ I1 q1) λu s2 ⟨y,H2,I2,r2,q2⟩ =>
  thn (ho pins s2 σ H2 x y v u _ I2 r1 r2 q2) λc s3 ⟨z,H3,I3,r3,k,e,q3⟩=>?_) hm
 subst e;cases r3;exact wpAny_truthy_bool ⟨H3,I3,q3⟩
def ybp (r r':R2) (ta tb tc:TE):TE:=λσ H Q=>ta σ H λx H1=>tb σ H1 λy H2=>r x y H2 λz H3=>∃ k,z=.bl k /\
 (if k=true then tc σ H3 λw' H4=>r' y w' H4 Q else Q (.bl false) H3)
theorem jaY {op op':CmpOp} {r r':R2} (ho:OpR X (compareOp op) r) (ho':OpR X (compareOp op') r') (ha:PE X a ta) (hb:PE X b tb) (hc:PE X c tc)
  (hm:lastMarks [op,op'] [b,c]=false:=by with_unfolding_all rfl):PE X (.Compare a [op,op'] [b,c] pos) (ybp r r' ta tb tc):=by
 intro pins s σ H Q I h
 refine Compare_chain (thn (ha pins s σ H _ I h) λv s1 ⟨x,H1,I1,r1,q1⟩=>chain_link (thn (hb pins s1 σ H1 _ I1 q1) λu s2 ⟨y,H2,I2,r2,q2⟩ =>
  thn (ho pins s2 σ H2 x y v u _ I2 r1 r2 q2) λd s3 ⟨z,H3,I3,r3,k,e,q3⟩=>?_)) hm
 subst e;cases r3;refine wpAny_truthy_bool ?_;cases k with
 | false=>exact ite_ff ⟨.bl false,H3,I3,rfl,q3⟩
 | true=>exact ite_tt (chain_last (thn (hc pins s3 σ H3 _ I3 q3) λw' s4 ⟨z',H4,I4,r4,q4⟩=>ho' pins s4 σ H4 y z' u w' Q I4 r2 r4 q4))
theorem zaZ {op op':CmpOp} {r r':R2} (ho:OpR X (compareOp op) r) (ho':OpR X (compareOp op') r') (ha:PE X a ta) (hb:PE X b tb) (hc:PE X c tc)
  (hm:lastMarks [op,op'] [b,c]=false:=by with_unfolding_all rfl):PT X (.Compare a [op,op'] [b,c] pos) (qdl (ybp r r' ta tb tc)):=by
 intro pins s σ H Q I h
 refine isTrue_chain (thn (ha pins s σ H _ I h) λv s1 ⟨x,H1,I1,r1,q1⟩=>test_link (thn (hb pins s1 σ H1 _ I1 q1) λu s2 ⟨y,H2,I2,r2,q2⟩ =>
  thn (ho pins s2 σ H2 x y v u _ I2 r1 r2 q2) λd s3 ⟨z,H3,I3,r3,k,e,q3⟩=>?_)) hm
 subst e;cases r3;refine wpAny_truthy_bool ?_;cases k with
 | false =>
  obtain ⟨k',e',q'⟩:=q3;cases e';exact ite_ff ⟨H3,I3,q'⟩
 | true =>
  refine ite_tt (test_last (thn (hc pins s3 σ H3 _ I3 q3) λw' s4 ⟨z',H4,I4,r4,q4⟩=>thn (ho' pins s4 σ H4 y z' u w' _ I4 r2 r4 q4) λd' s5 ⟨z2,H5,I5,r5,k2,e2,q5⟩=>?_));subst e2;cases r5;exact wpAny_truthy_bool ⟨H5,I5,q5⟩
def jdZ (K:Frag) (x:V) (H:Hp) (k:Bool):Prop :=
 match x with
 | .non=>k=false
 | .bl b=>k=b
 | .int i=>k=(i != 0)
 | .str y=>y.length<=sizeLine/\k=((y.length:Int) != 0)
 | .byt y=>y.size<=sizeLine/\k=((y.size:Int) != 0)
 | .ref p=>(∃ xs,SqL K H p xs/\k=!xs.isEmpty)\/(∃ xs,SqT K H p xs/\k=!xs.isEmpty)\/∃ kvs,H p=some (.dK kvs)/\k=!kvs.isEmpty
 | _=>False
theorem qbe {κ:Type} {kvs:List (κ×V)} {vs:List (κ×Value)} (r:KV kvs vs):(!vs.isEmpty)=!kvs.isEmpty:=by
 cases r<;>rfl
theorem qaf {xs:List V} {its:List Value} (r:Vals xs its):(!its.toArray.isEmpty)=!xs.isEmpty:=by
 cases r<;>simp
theorem yaf:(sizeLine:Nat)<2^63:=by rw [sizeLine_eq];decide
theorem zcq:yeo X (λx H Q=>∃ k,jdZ X.K x H k/\Q k H):=by
 intro pins s σ H x v Q I rx h;obtain ⟨k,e,q⟩:=h;have hl:=yaf;have hs:sizeLine=16777216:=sizeLine_eq;cases x with
 | non =>
  cases rx;have e':k=false:=e;subst e';exact truthy_none ⟨H,I,q⟩
 | bl b =>
  cases rx;have e':k=b:=e;subst e';exact wpAny_truthy_bool ⟨H,I,q⟩
 | int i =>
  obtain ⟨t,rfl⟩:=rx;have e':k=(i != 0):=e;subst e';exact PySem.P.truthy_int ⟨H,I,q⟩
 | str y =>
  obtain ⟨t,rfl⟩:=rx;obtain ⟨hy,e'⟩:y.length<=sizeLine/\k=((y.length:Int) != 0):=e;subst e';exact PySem.P.truthy_str (by omega) ⟨H,I.tok _,q⟩
 | byt y =>
  obtain ⟨t,rfl⟩:=rx;obtain ⟨hy,e'⟩:y.size<=sizeLine/\k=((y.size:Int) != 0):=e;subst e';exact PySem.W.truthy_bytes (by omega) ⟨H,I.tok _,q⟩
 | ref p =>
  cases rx;have e':(∃ xs,SqL X.K H p xs/\k=!xs.isEmpty)\/(∃ xs,SqT X.K H p xs/\k=!xs.isEmpty)\/∃ kvs,H p=some (.dK kvs)/\k=!kvs.isEmpty:=e;rcases e' with ⟨xs,hx,e'⟩ | ⟨xs,hx,e'⟩ | ⟨kvs,hx,e'⟩
  ·subst e';obtain ⟨its,r,pl,hz⟩:=I.list hx;have hlen:=r.length;exact wpAny_truthy_list pl.isList (by simp only [vj];omega) ⟨H,I.tok _,by rw [qaf r];exact q⟩
  ·subst e';obtain ⟨its,r,pl,hz⟩:=I.tuple hx;have hlen:=r.length;exact truthy_tuple pl (by simp only [vj];omega) ⟨H,I.tok _,by rw [qaf r];exact q⟩
  ·subst e';obtain ⟨hz,hS,vs,r,m⟩:kvs.length<=sizeLine/\(p==sysModules)=false/\∃ vs,KV kvs vs/\s.heap.DictOf (yJ X.prog X.w) p vs:=I.hok p _ hx;have hlen:kvs.length=vs.length:=Paired.length r;exact wpAny_truthy_dict hS m (by omega) ⟨H,I.tok _,by rw [qbe r];exact q⟩
 | _=>exact (show False from e).elim
theorem qb4 (ha : PE X a ta) (he : ∀ whole, isTrue a X.env whole = (do let v <- whole; standAt a.pos; holding [v] (truthy v))) :
  PT X a (λσ H Q=>ta σ H λx H'=>∃ k,jdZ X.K x H' k/\Q k H'):=by
 intro pins s σ H Q I h;exact isTrue_plain (thn (ha pins s σ H _ I h) λv s1 ⟨x,H1,I1,r1,q1⟩=>zcq pins s1 σ H1 x v Q I1 r1 q1) (he _)
theorem ybe:OpR X (binaryOp .Add) (λx y H Q=>∃ i j,x=.str i/\y=.str j/\i.length+j.length<=sizeLine/\Q (.str (i++j)) H):=by
 intro pins s σ H x y v u Q I rx ry h;obtain ⟨i,j,rfl,rfl,hz,q⟩:=h;obtain ⟨t,rfl⟩:=rx;obtain ⟨t',rfl⟩:=ry;exact add_str (λt' tk=>⟨.str (i++j),H,I.tok _,⟨_,rfl⟩,q⟩) hz
theorem vals1 {x:V} {us:List Value} (r:Vals [x] us):∃ u,us=[u]/\RelV x u:=by
 cases r with
 | cons r1 r2=>cases r2;exact ⟨_,rfl,r1⟩
theorem vals2 {x y:V} {us:List Value} (r:Vals [x,y] us):∃ u w',us=[u,w']/\RelV x u/\RelV y w':=by
 cases r with
 | cons r1 r2 =>
  cases r2 with
  | cons r3 r4=>cases r4;exact ⟨_,_,rfl,r1,r3⟩
theorem jaz:zr X (.type "int") (λxs H Q=>(∃ i,xs=[.int i]/\Q (.int i) H)\/∃ k,xs=[.bl k]/\Q (.int (if k then 1 else 0)) H):=by
 intro pins s σ H xs us Q I r h;rcases h with ⟨i,rfl,q⟩ | ⟨k,rfl,q⟩
 ·obtain ⟨u,rfl,t,rfl⟩:=vals1 r;exact call_int_int ⟨.int i,H,I,⟨_,rfl⟩,q⟩
 ·obtain ⟨u,rfl,r1⟩:=vals1 r;cases r1;exact call_int_bool ⟨.int (if k then 1 else 0),H,I.tok _,⟨_,rfl⟩,q⟩
end
structure ObjM (h:Heap) (x dx C:Addr) (mA:Str->Option Value):Prop where
 obj:h.get? x=some (PySem.W.instObj C dx)
 ns:h.Ns1 dx mA
 ne:dx≠x
theorem jbp {h:Heap} {dx:Addr} {mA:Str->Option Value} (n:h.Ns1 dx mA):∃ od,h.get? dx=some od/\∀ name,PySem.W.lookIn name od=some (mA name):=by
 obtain ⟨o,es,ep,ho,hd,hk,_,hm⟩:=n;refine ⟨o,ho,λname=>?_⟩;have e:=hm name;unfold nsFind findBy at e;rw [<-Array.find?_toList] at e;unfold PySem.W.lookIn;rw [hd];dsimp only;split
 ·rename_i y q;rw [q] at e;exact congrArg some e
 ·rename_i q;rw [q] at e
  have a:es.toList.any (·.refKey)=false:=by
   rw [List.any_eq_false];intro y hy;obtain ⟨z,t,hkey⟩:=hk y (Array.mem_toList_iff.mp hy);simp [DictEntry.refKey,hkey]
  have a':¬ es.toList.any (·.refKey)=true:=by rw [a];exact wA
  rw [if_neg a'];exact congrArg some e
theorem ObjM.look {h:Heap} {x dx C:Addr} {mA:Str->Option Value} (I:ObjM h x dx C mA):∃ od,PySem.W.InstAt h x (PySem.W.instObj C dx) C (some od)/\∀ name,PySem.W.lookIn name od=some (mA name) :=
 let ⟨od,ho,hl⟩:=jbp I.ns
 ⟨od,⟨I.obj,rfl,rfl,ho⟩,hl⟩
section
variable {P:Program} {w:World} {H H':Hp} {h h':Heap} {a C dx:Addr} {fs fs':List (Str×V)}
theorem jcF (hok:HOk P w H h) (e:H a=some (.ins C dx fs)):∃ mA,ObjM h a dx C mA/\(∀ f,RelO (fs.lookup f) (mA f))/\PySem.Within mA (fs.map (·.1))/\fs.length<=1000/\H dx=some (.own a):=by
 obtain ⟨d,z,ne,ob,mA,n,r,q⟩:=(show ObjOk P w H h a (.ins C dx fs) from hok a _ e);exact ⟨mA,⟨ob,n,ne⟩,r,q,z,d⟩
end
structure Cls (K:Frag) (C:Addr):Prop where
 pg:PySem.W.plainGet K C Str.empty=true
 hd:PySem.W.hasDictIn K C=true
 po:PySem.W.plainOver K C=true
 sa:PySem.W.findIn K (.ref C) "__setattr__"=some (some (.builtin "object.__setattr__"))
theorem Cls.get {K:Frag} {C:Addr} (c:Cls K C) (f:Str):PySem.W.plainGet K C f=true:=c.pg
section
variable {X:Cx} {pins:List (Addr×Obj)} {σ:St} {H:Hp} {s:Shared} {A:Around} {E:Value->Shared->Prop} {Q:Value->Shared->Prop} {c:Value} {b:Bool}
inductive TyOf (K:Frag) (H:Hp):V->Value->Prop where
 | non:TyOf K H .non (.type "NoneType")
 | bl (x:Bool):TyOf K H (.bl x) (.type "bool")
 | int (i:Int):TyOf K H (.int i) (.type "int")
 | str (x:Str):TyOf K H (.str x) (.type "str")
 | flt (x:UInt64):TyOf K H (.flt x) (.type "float")
 | lst {a:Addr} {xs:List V} (e:H a=some (.lst xs)):TyOf K H (.ref a) (.type "list")
 | frz {a:Addr} {o:Obj} {xs:List V} (e:H a=some (.frz o (.lst xs))):TyOf K H (.ref a) (.type "list")
 | tup {a:Addr} {xs:List V} (e:H a=some (.tup xs)):TyOf K H (.ref a) (.type "tuple")
 | dK {a:Addr} {kvs:List (Key×V)} (e:H a=some (.dK kvs)):TyOf K H (.ref a) (.type "dict")
 | dT {a:Addr} {kvs:List (List Key×V)} (e:H a=some (.dT kvs)):TyOf K H (.ref a) (.type "dict")
 | ins {a C dx:Addr} {fs:List (Str×V)} (e:H a=some (.ins C dx fs)) (cl:Cls K C) (ha:PySem.W.findIn K (.ref C) "__class__"=some (some (.builtin "object.__class__")))
  (hn:PySem.W.specialIn K (.builtin "object.__class__") "__get__"=some (some (.builtin "getset_descriptor.__get__"))) (htk:PySem.W.takesIn K (.builtin "object.__class__")=some true)
  (hm:PySem.W.mroIn K C (.type "object")=some true):TyOf K H (.ref a) (.ref C)
theorem zbq {x:V} {u t:Value} (I:Inv X pins σ H s) (rx:RelV x u) (ty:TyOf X.K H x t) (e:PySem.W.kitOne X.K t c=some b) (h:∀ tk,Q (.bool b) { s with toks:=tk }) :
  wpAny (model X.prog X.w) A (call (.builtin "isinstance") [u,c]) Q E s:=by
 cases ty with
 | non=>cases (show u=Value.none from rx);exact PySem.W.kia_one PySem.W.kitx_none I.kIn True.intro e (λz=>nomatch z) h
 | bl y=>cases (show u=Value.bool y from rx);exact PySem.W.kia_one PySem.W.kitx_bool I.kIn True.intro e (λz=>nomatch z) h
 | int i=>obtain ⟨t,q⟩:=(show ∃ t,u=Value.int i t from rx);cases q;exact PySem.W.kia_one PySem.W.kitx_int I.kIn True.intro e (λz=>nomatch z) h
 | str y=>obtain ⟨t,q⟩:=(show ∃ t,u=Value.str y t from rx);cases q;exact PySem.W.kia_one PySem.W.kitx_str I.kIn True.intro e (λz=>nomatch z) h
 | flt y=>obtain ⟨t,q⟩:=(show ∃ t,u=Value.float y t from rx);cases q;exact PySem.W.kia_one PySem.W.kitx_float I.kIn True.intro e (λz=>nomatch z) h
 | @lst a xs ea =>
  cases (show u=Value.ref a from rx);obtain ⟨_,_,n,_,h1⟩:=(show ObjOk X.prog X.w H s.heap a (.lst xs) from I.hok a _ ea);exact PySem.W.kia_one PySem.W.kitx_list I.kIn ⟨_,h1,rfl⟩ e (λz=>nomatch z) h
 | @frz a ob xs ea =>
  cases (show u=Value.ref a from rx);obtain ⟨_,_,_,n,_,h1⟩:=(show ObjOk X.prog X.w H s.heap a (.frz ob (.lst xs)) from I.hok a _ ea);exact PySem.W.kia_one PySem.W.kitx_list I.kIn ⟨_,h1,rfl⟩ e (λz=>nomatch z) h
 | @tup a xs ea =>
  cases (show u=Value.ref a from rx);obtain ⟨_,_,_,p⟩:=(show ObjOk X.prog X.w H s.heap a (.tup xs) from I.hok a _ ea);obtain ⟨o,h1,h2,_⟩:=p;exact PySem.W.kia_one PySem.W.kitx_tuple I.kIn ⟨o,h1,h2⟩ e (λz=>nomatch z) h
 | @dK a kvs ea =>
  cases (show u=Value.ref a from rx);obtain ⟨_,_,vs,_,p⟩:=(show ObjOk X.prog X.w H s.heap a (.dK kvs) from I.hok a _ ea);obtain ⟨o,es,ep,h1,h2,_⟩:=p;exact PySem.W.kia_one PySem.W.kitx_dict I.kIn ⟨o,h1,h2.1⟩ e (λz=>nomatch z) h
 | @dT a kvs ea =>
  cases (show u=Value.ref a from rx);obtain ⟨_,_,xs,_,o,es,ep,h1,h2,_⟩:=(show ObjOk X.prog X.w H s.heap a (.dT kvs) from I.hok a _ ea);exact PySem.W.kia_one PySem.W.kitx_dict I.kIn ⟨o,h1,h2.1⟩ e (λz=>nomatch z) h
 | @ins a C dx fs ea cl ha hn htk hm =>
  cases (show u=Value.ref a from rx);obtain ⟨mA,O,_⟩:=jcF I.hok ea;obtain ⟨od,J,_⟩:=O.look;exact PySem.W.kia_one (PySem.W.kitx_own (cl.get _) cl.hd ha hn htk hm) I.kIn J e (λz=>nomatch z) h
end
structure Room (k:Nat) (A:Around):Prop where
 hd:A.handled=none
 dp:A.depth+3*k+5<recursionLimit
 un:A.units+16*k+200<cLine
theorem Room.mono {j k:Nat} {A:Around} (r:Room k A) (h:j<=k):Room j A:=⟨r.hd,by have:=r.dp;omega,by have:=r.un;omega⟩
theorem Room.deeper {k:Nat} {A:Around} (r:Room (k+1) A) (env:Env):Room k (A.deeper env) :=
 ⟨r.hd,by have:=r.dp;show A.depth+1+3*k+5<_;omega,by have:=r.un;show A.units+3+16*k+200<_;omega⟩
theorem Room.depth {k:Nat} {A:Around} (r:Room k A):A.depth<recursionLimit:=by have:=r.dp;omega
theorem Room.units {k:Nat} {A:Around} (r:Room k A):A.units+64<cLine:=by have:=r.un;omega
def tNil:TA:=λ_ H Q=>Q [] H
def zd0 (ta:TE) (tr:TA):TA:=λσ H Q=>ta σ H λx H1=>tr σ H1 λxs H2=>Q (x::xs) H2
section
variable {X:Cx} {e:Expr} {es:List Expr} {te:TE} {t:TA} {pos:Pos}
theorem jaf:PA X [] tNil:=λ_ _ _ _ H Q I h=>Calls.spliced_nil ⟨[],H,I,.nil,h⟩
theorem qD (ha : PE X e te) (hr : PA X es t) (hs : starEach (e :: es) X.env = (false, eval e X.env) :: starEach es X.env := by rfl) : PA X (e :: es) (zd0 te t) := by
 intro pos pins s σ H Q I h;rw [hs];show wpAny _ _ (spliced ((false,eval e X.env)::backTo pos (starEach es X.env))) _ _ s;refine Calls.spliced_cons (thn (ha pins s σ H _ I h) λu s1 ⟨x,H1,I1,r1,q1⟩=>?_);exact thn (hr pos pins s1 σ H1 _ I1 q1) λus s2 ⟨xs,H2,I2,r2,q2⟩=>⟨x::xs,H2,I2,.cons r1 r2,q2⟩
def qep (t:TA):TE:=λσ H Q=>t σ H λxs H1=>xs.length<=sizeLine/\∀ p,H1 p=none->Q (.ref p) (upd H1 p (.tup xs))
def yep (t:TA):TE:=λσ H Q=>t σ H λxs H1=>xs.length<=sizeLine/\∀ p,H1 p=none->Q (.ref p) (upd H1 p (.lst xs))
theorem ydl {x1} (h:PA X es t):PE X (.Tuple es x1 pos) (qep t):=by
 intro pins s σ H Q I hq;refine wpAny_Tuple_spliced (thn (h pos pins s σ H _ I hq) λus s1 ⟨xs,H1,I1,r,z,q⟩=>⟨by rw [<-r.length];exact z,?_⟩);have hf:H1 s1.heap.objs.size=none:=I1.hok.fresh (wC _);refine ⟨.ref s1.heap.objs.size,upd H1 s1.heap.objs.size (.tup xs),I1.laid (t':=s1.toks) (λb u e=>wj _ e) (wC _) ?_,rfl,q _ hf⟩;exact ⟨z,us,r,⟨_,wt _ rfl,rfl,rfl,_,rfl⟩⟩
theorem jdl (h:PA X es t):PE X (.List es pos) (yep t):=by
 intro pins s σ H Q I hq;refine wpAny_List_spliced (thn (h pos pins s σ H _ I hq) λus s1 ⟨xs,H1,I1,r,z,q⟩=>⟨by rw [<-r.length];exact z,?_⟩);have hf:H1 s1.heap.objs.size=none:=I1.hok.fresh (wC _);refine ⟨.ref s1.heap.objs.size,upd H1 s1.heap.objs.size (.lst xs),I1.laid (t':=s1.toks) (λb u e=>wj _ e) (wC _) ?_,rfl,q _ hf⟩;exact ⟨z,us,0,r,wt _ rfl⟩
end
abbrev Sp:=List V->Hp->VK->XK->Prop
abbrev CXT:=List Env->Hp->Shared->XK->Value->Shared->Prop
structure Env0 (P:Program) (w:World) (K:Frag) (mg:Str->Option Value) (base:Heap) (A:Around) (outer:List Env) (s:Shared) (H:Hp):Prop where
 frames:A.frames=some outer
 mod:Mod K mg base
 bs:∀ b o,base.get? b=some o->s.heap.get? b=some o/\H b=none
 bsz:base.objs.size<=s.heap.objs.size
 funs:s.heap.FunFrames base outer
 frf:∀ b∈frs outer,H b=none
 hok:HOk P w H s.heap
 bare:AllBare s.gens
def CE (outer:List Env) (P:Program) (w:World) (H:Hp) (s:Shared) (Q:VK) (u:Value) (s':Shared):Prop :=
 ∃ v H',s'.os=s.os/\AllBare s'.gens/\Un (frs outer) [] H H' s.heap s'.heap/\HOk P w H' s'.heap/\RelV v u/\Q v H'
def CR (CX:CXT) (outer:List Env) (P:Program) (w:World) (H:Hp) (s:Shared) (Q:VK) (E:XK) (r:Result) (s':Shared):Prop :=
 match r with
 | .ok (.ret u)=>CE outer P w H s Q u s'
 | .ok _=>False
 | .error e=>CX outer H s E e s'
structure FnOk (P:Program) (w:World) (K:Frag) (mg:Str->Option Value) (base:Heap) (CX:CXT) (k:Nat) (f:Addr) (fd:FuncData) (ps:List Str) (sp:Sp):Prop where
 len:∀ vs H Q E,sp vs H Q E->vs.length=ps.length
 run:∀ (A:Around) (outer:List Env) (s:Shared) (H:Hp) (args:Args) (us:List Value) (vs:List V) (Q:VK) (E:XK),Room k A->Env0 P w K mg base A outer s H->BindsTo s fd args (ps.zip us)->Vals vs us->sp vs H Q E ->
  codeAny (model P w) A (.call (.ref f) args) (CR CX outer P w H s Q E) s
theorem FnOk.imp {P:Program} {w:World} {K:Frag} {mg:Str->Option Value} {base:Heap} {CX:CXT} {k:Nat} {f:Addr} {fd:FuncData} {ps:List Str} {sp sp':Sp} (F:FnOk P w K mg base CX k f fd ps sp)
  (h:∀ vs H Q E,sp' vs H Q E->sp vs H Q E):FnOk P w K mg base CX k f fd ps sp' :=
 ⟨λvs H Q E q=>F.len vs H Q E (h _ _ _ _ q),λA outer s H args us vs Q E hr he hb hv hs=>F.run A outer s H args us vs Q E hr he hb hv (h _ _ _ _ hs)⟩
section
variable {X:Cx} {pins:List (Addr×Obj)} {σ:St} {H:Hp} {s s':Shared}
theorem Inv.env0 (I:Inv X pins σ H s):Env0 X.prog X.w X.K X.mg X.base X.A X.stack s H :=
 ⟨I.ok.frames,I.ok.mod,I.bs,wQ I.ok.bsz I.sz,I.stack,I.stkFree,I.hok,I.bare⟩
theorem Inv.after {Q:VK} {u:Value} (I:Inv X pins σ H s) (h:CE X.stack X.prog X.w H s Q u s'):EP X pins σ Q u s':=by
 obtain ⟨v,H',os,bare,un,hok,r,q⟩:=h;obtain ⟨hh,g,d,t,os'⟩:=s';obtain rfl:os'=s.os:=os;exact ⟨v,H',I.call (h':=hh) (g':=g) (d':=d) (t':=t) (ch:=[]) un hok bare (λb z=>absurd z (by simp)),r,q⟩
end
def qd0 (sp:Sp) (dvs:List V) (E:XK) (t:TA):TE:=λσ H Q=>t σ H λvs H1=>sp (vs++dvs) H1 Q E
def Binds (K:Frag) (fd:FuncData) (ps:List Str) (ds:List Value):Prop :=
 ∀ (s:Shared) (us:List Value),K.In s.heap->(us++ds).length=ps.length->BindsTo s fd ⟨us,[]⟩ (ps.zip (us++ds))
theorem Binds.all {K:Frag} {fd:FuncData} {ps:List Str} (h:∀ us:List Value,us.length=ps.length->bindArgs fd ⟨us,[]⟩=pure (ps.zip us)):Binds K fd ps []:=λs us _ hl=>by
 rw [List.append_nil] at hl ⊢;exact .of_eq (h us hl)
def qbq (CX:CXT) (X:Cx) (E:XK):Prop:=∀ (pins:List (Addr×Obj)) (σ:St) (H:Hp) (s:Shared) (e:Value) (s':Shared),Inv X pins σ H s->CX X.stack H s E e s'->X.xe e s'
section
variable {X:Cx} {CX:CXT} {k:Nat} {f C:Addr} {fd:FuncData} {ps:List Str} {sp:Sp} {dvs:List V} {ds:List Value} {E:XK} {x m:Str} {p pos apos:Pos} {e o:Expr} {es:List Expr} {ta:TE} {t:TA}
theorem zdm {pins:List (Addr×Obj)} {σ:St} {H:Hp} {s:Shared} {Q:VK} {us:List Value} {vs:List V} (F:FnOk X.prog X.w X.K X.mg X.base CX k f fd ps sp) (hr:Room k X.A) (hb:Binds X.K fd ps ds) (hd:Vals dvs ds) (hx:qbq CX X E)
  (I:Inv X pins σ H s) (r:Vals vs us) (h:sp (vs++dvs) H Q E):wpAny (model X.prog X.w) X.A (call (.ref f) us) (EP X pins σ Q) X.xe s:=by
 have r2:Vals (vs++dvs) (us++ds):=r.append hd;have hl:(us++ds).length=ps.length:=by rw [<-r2.length];exact F.len _ _ _ _ h
 refine wpAny_call (codeAny_mono (F.run X.A X.stack s H ⟨us,[]⟩ (us++ds) (vs++dvs) Q E hr I.env0 (hb s us I.kIn hl) r2 h) λr s' hq=>?_);cases r with
 | error e=>exact hx pins σ H s e s' I hq
 | ok fl =>
  cases fl with
  | ret u=>exact I.after hq
  | next=>exact False.elim hq
  | brk=>exact False.elim hq
  | cont=>exact False.elim hq
theorem zcG (F:FnOk X.prog X.w X.K X.mg X.base CX k f fd ps sp) (hr:Room k X.A) (hg:Gl X x) (hm:X.mg x=some (.ref f)) (hk:PySem.W.keepIn X.K (.ref f)=true) (hb:Binds X.K fd ps ds) (hd:Vals dvs ds) (hx:qbq CX X E)
  (ha:PA X (e::es) t) (hdb:(x==("__debug__":Str))=false:=by decide) (he:starEach (e::es) X.env=(false,eval e X.env)::starEach es X.env:=by rfl) (hpl:(backTo pos (starEach es X.env)).any (·.1)=false:=by rfl) :
  PE X (.Call (.Name x p) (e::es) [] pos) (qd0 sp dvs E t):=by
 intro pins s σ H Q I h;refine wpAny_Call_Name_kw (zbn I hg hm ?_ hdb);refine PySem.W.callWith_K (h₀:=X.base) I.ok.mod.kin hk (thn (ha pos pins s σ H _ I h) λus s1 ⟨vs,H1,I1,r,q⟩=>⟨I1.kIn,?_⟩) he hpl;exact zdm F hr hb hd hx I1 r q
end
def PK (X:Cx) (kws:List Keyword) (t:TA):Prop :=
 ∀ (pos:Pos) (pins:List (Addr×Obj)) (s:Shared) (σ:St) (H:Hp) (Q:List V->Hp->Prop),Inv X pins σ H s->t σ H Q->wpAny (model X.prog X.w) X.A (evalAll ((backToKw pos (keywordEach kws X.env)).map (·.2))) (AP X pins σ Q) X.xe s
structure FnScope (N P:List Str) (sc:Scope):Prop where
 kind:sc.kind=.function
 co:sc.isCoroutine=false
 gen:sc.isGenerator=false
 nd:N.Nodup
 pre:N.take P.length=P
 par:∀ x∈P,sc.names.lookup x=some .local\/sc.names.lookup x=some .cell
 nofree:∀ y∈sc.names,y.2≠.free
theorem zaA {kindOf:Str->Option NameKind} {x:Str}:∀ {binds:List (Str×Value)} {m:Str->Option Value},(∀ v,(x,v)∉binds)->bindL kindOf binds m x=m x
 | [],_,_=>rfl
 | (n,v)::r,m,h=>by
  unfold bindL;rw [zaA λw hw=>h w (wI _ hw)];split
  ·have:x≠n:=by rintro rfl;exact h v wN
   simp [this]
  ·rfl
theorem qaA {kindOf:Str->Option NameKind} {x:Str}:∀ {binds:List (Str×Value)} {m:Str->Option Value},(∀ v,(x,v)∉binds)->bindC kindOf binds m x=m x
 | [],_,_=>rfl
 | (n,v)::r,m,h=>by
  unfold bindC;rw [qaA λw hw=>h w (wI _ hw)];split
  ·rfl
  ·have:x≠n:=by rintro rfl;exact h v wN
   simp [this]
theorem yaA {kindOf:Str->Option NameKind} {x:Str} {v:Value}:∀ {P:List Str} {vs:List Value} {i:Nat} {m:Str->Option Value},P.Nodup->P[i]?=some x->vs[i]?=some v->kindOf x=some .local ->
  bindL kindOf (P.zip vs) m x=some v
 | [],_,_,_,_,h,_,_=>by simp at h
 | _::_,[],_,_,_,_,h,_=>by simp at h
 | p::P,w::vs,0,m,nd,h1,h2,hk=>by
  simp at h1 h2;subst h1;subst h2
  show bindL kindOf ((p,w)::P.zip vs) m p=_;unfold bindL;rw [zaA λv hv=>(List.nodup_cons.mp nd).1 (List.of_mem_zip hv).1,if_pos hk]
  simp
 | p::P,w::vs,i+1,m,nd,h1,h2,hk=>by
  show bindL kindOf ((p,w)::P.zip vs) m x=_;unfold bindL;exact yaA (i:=i) (List.nodup_cons.mp nd).2 (by simpa using h1) (by simpa using h2) hk
theorem jaA {kindOf:Str->Option NameKind} {x:Str} {v:Value}:∀ {P:List Str} {vs:List Value} {i:Nat} {m:Str->Option Value},P.Nodup->P[i]?=some x->vs[i]?=some v->kindOf x≠some .local ->
  bindC kindOf (P.zip vs) m x=some v
 | [],_,_,_,_,h,_,_=>by simp at h
 | _::_,[],_,_,_,_,h,_=>by simp at h
 | p::P,w::vs,0,m,nd,h1,h2,hk=>by
  simp at h1 h2;subst h1;subst h2
  show bindC kindOf ((p,w)::P.zip vs) m p=_;unfold bindC;rw [qaA λv hv=>(List.nodup_cons.mp nd).1 (List.of_mem_zip hv).1,if_neg hk]
  simp
 | p::P,w::vs,i+1,m,nd,h1,h2,hk=>by
  show bindC kindOf ((p,w)::P.zip vs) m x=_;unfold bindC;exact jaA (i:=i) (List.nodup_cons.mp nd).2 (by simpa using h1) (by simpa using h2) hk
noncomputable def start (N:List Str) (vs:List V):St:=vs.map some++List.replicate (N.length-vs.length) none
noncomputable def qcG (CX:CXT) (P:Program) (w:World) (K:Frag) (mg:Str->Option Value) (base:Heap) (N:List Str) (qual:Str) (scope:Scope) (f:Addr) (cd:Value) (A:Around) (outer:List Env) (s:Shared) (H:Hp) (E:XK):Cx where
 prog:=P
 w:=w
 K:=K
 mg:=mg
 base:=base
 A:=A.deeper (envOfC qual scope s.heap.objs.size f cd)
 N:=N
 s₀:=s
 H₀:=H
 env:=envOfC qual scope s.heap.objs.size f cd
 outer:=outer
 stack:=envOfC qual scope s.heap.objs.size f cd::outer
 ex:=[]
 calm:=true
 fn:=λ_=>true
 pn:=[]
 xe:=λe s'=>wpAny (model P w) (A.deeper (envOfC qual scope s.heap.objs.size f cd)) (leaving (envOfC qual scope s.heap.objs.size f cd) e) (λ_ s''=>CX outer H s E e s'') (λe' s''=>CX outer H s E e' s'') s'
theorem qaZ {sc:Scope} {n:Nat} {x:Str} (h:sc.names.lookup x=some .cell):∃ c,(cellsFrom n sc.names []).lookup x=some c:=by
 have q:=PySem.W.cellsFrom_some sc.names n [] (.inl h);exact w9.mp q
theorem ybq {CX:CXT} {P:Program} {w:World} {K:Frag} {mg:Str->Option Value} {base:Heap} {N ps:List Str} {qual:Str} {scope:Scope} {f:Addr} {cd:Value} {A:Around} {outer:List Env} {s s1:Shared} {H:Hp} {E:XK} {us:List Value} {vs:List V}
  (S:FnScope N ps scope) (hd:A.handled=none) (e0:Env0 P w K mg base A outer s H) (hl:vs.length=ps.length) (r:Vals vs us)
  (x:InCallC s s.heap.objs.size (bindL (envOfC qual scope s.heap.objs.size f cd).kindOf (ps.zip us) λ_=>none) (cellsFrom (s.heap.objs.size+1) scope.names []) (bindC (envOfC qual scope s.heap.objs.size f cd).kindOf (ps.zip us) λ_=>none) s1) :
  Inv (qcG CX P w K mg base N qual scope f cd A outer s H E) [] (start N vs) H s1:=by
 have hpl:ps.length<=N.length:=by have:=congrArg List.length S.pre;rw [List.length_take] at this;omega
 obtain ⟨h1,tk,rfl,hk⟩:=x.done;have noA:∀ b:Addr,b∉(qcG CX P w K mg base N qual scope f cd A outer s H E).ex:=λb z=>absurd (show b∈([]:List Addr) from z) (by simp)
 refine ⟨⟨e0.mod,S.kind,rfl,rfl,wC _,λy z c h1 h2=>?_,λy hy=>?_,λy c _ h=>?_,λ_=>hd,Around.frames_deeper e0.frames,.inr ⟨rfl,rfl⟩,λb z=>absurd z (noA b),e0.bs,e0.bsz,λb _ _=>noA b,λb z=>absurd z (noA b),e0.funs,e0.frf⟩,
  rfl,e0.bare,Un.kept hk,⟨_,x.toInCall.ns,λi y v h1 h2 h3=>?_⟩,λy c h=>⟨_,x.cell y c h⟩,e0.hok.fresh (wC _),λy c h=>?_,λp hp=>absurd (show p∈([]:List (Addr×Obj)) from hp) (by simp),e0.hok.kept hk,?_⟩
 ·exact name_of_addr x.apart (wZ h1) (wZ h2)
 ·have hy:scope.names.lookup y=some .cell\/scope.names.lookup y=some .free:=hy;rcases hy with hy | hy
  ·exact qaZ hy
  ·exact absurd rfl (S.nofree _ (wZ hy))
 ·exact Nat.le_of_lt (x.above y c (wZ h))
 ·have hi:i<vs.length:=by
   unfold start at h2
   by_cases hi:i<vs.length
   ·exact hi
   ·rw [List.getElem?_append_right (by simpa using hi)] at h2;rw [List.getElem?_replicate] at h2;split at h2<;>cases h2
  have ha:vs[i]?=some v:=by
   unfold start at h2;rw [vi (by simpa using hi),wx] at h2;cases e:vs[i]? with
   | none=>rw [e] at h2;cases h2
   | some a=>rw [e] at h2;cases h2;rfl
  obtain ⟨u,hu,rv⟩:=r.get ha
  have hp:ps[i]?=some y:=by
   rw [<-S.pre,List.getElem?_take_of_lt (by omega)];exact h1
  have ndP:ps.Nodup:=by rw [<-S.pre];exact S.nd.sublist (List.take_sublist _ _)
  refine ⟨u,rv,?_⟩;rcases S.par y (wR hp) with k | k
  ·exact .inl ⟨k,yaA ndP hp hu k⟩
  ·obtain ⟨c,e⟩:=qaZ (n:=s.heap.objs.size+1) k;refine .inr ⟨.inl k,c,e,?_⟩;have q:=x.cell y c e;rw [jaA ndP hp hu (by show scope.names.lookup y≠_;rw [k];decide)] at q;exact q
 ·exact e0.hok.fresh (Nat.le_of_lt (x.above y c (wZ h)))
 ·unfold start;show _=N.length;rw [wU,wD,List.length_replicate];omega
theorem yd0 {CX:CXT} {P:Program} {w:World} {K:Frag} {mg:Str->Option Value} {base:Heap} {k:Nat} {f:Addr} {name qual:Str} {params:Arguments} {body:List Stmt} {scope:Scope} {dV kV doc pm cdv ct oc:Value} {an od:Option Addr}
  {osl:Array (Option Value)} {N ps:List Str} {sp:Sp} (lk:K.lookup f=some ⟨oc,od,.func (PySem.W.fnOf name qual params body scope dV kV doc pm an cdv ct),osl⟩) (hcd:PySem.W.codeIn K cdv qual=true) (S:FnScope N ps scope)
  (len:∀ vs H Q E,sp vs H Q E->vs.length=ps.length)
  (hbody:∀ (A:Around) (outer:List Env) (s:Shared) (H:Hp) (vs:List V) (Q:VK) (E:XK),Room k (A.deeper (envOfC qual scope s.heap.objs.size f cdv))->sp vs H Q E ->
   ∃ t,PSs (qcG CX P w K mg base N qual scope f cdv A outer s H E) body t/\t { nx:=λ_ H'=>Q .non H',rt:=Q } (start N vs) H) :
  FnOk P w K mg base CX (k+1) f (PySem.W.fnOf name qual params body scope dV kV doc pm an cdv ct) ps sp:=by
 refine ⟨len,λA outer s H args us vs Q E hr e0 hb r hsp=>?_⟩;have hl:=len _ _ _ _ hsp;have KX:K.In s.heap:=e0.mod.kin.keeps λb o e=>(e0.bs b o e).1
 have lim:s.heap.NoLimit:=e0.mod.nolimit.keeps λb o e=>(e0.bs b o e).1
 have hkind:∀ y∈ps.zip us,scope.names.lookup y.1=some .local\/(scope.names.lookup y.1=some .cell/\((cellsFrom (s.heap.objs.size+1) scope.names []).lookup y.1).isSome=true):=λ⟨n,v⟩ hy=>by
  rcases S.par n (List.of_mem_zip hy).1 with q | q
  ·exact .inl q
  ·exact .inr ⟨q,PySem.W.cellsFrom_some _ _ _ (.inl q)⟩
 refine codeAny_call_function hr.depth (KX _ _ lk) rfl S.co S.gen rfl (PySem.W.codeRec_of KX hcd) (hb _ _ _ _ ?_);refine wpAny_newFunctionEnv_cells S.kind hkind λenv he s1 x=>?_
 subst he;refine ⟨lim.keeps x.toInCall.keep,codeAny_func ?_⟩;obtain ⟨t,ht,hq⟩:=hbody A outer s H vs Q E (hr.deeper _) hsp;have I:Inv (qcG CX P w K mg base N qual scope f cdv A outer s H E) [] (start N vs) H s1:=ybq S hr.hd e0 hl r x;refine wpAny_mono (ht [] s1 (start N vs) H _ I hq) (λfl s' hs=>?_) λe s' hs=>hs
 have fin:∀ {σ':St} {H':Hp} {v:V} {u:Value},Inv (qcG CX P w K mg base N qual scope f cdv A outer s H E) [] σ' H' s'->RelV v u->Q v H'->CE outer P w H s Q u s' :=
  λ{σ' H' v u} J rv q=>⟨v,H',J.os,J.bare,J.base,J.hok,rv,q⟩
 cases fl with
 | ret u =>
  obtain ⟨v,σ',H',J,rv,q⟩:=hs;exact fin J rv q
 | next =>
  obtain ⟨σ',H',J,q⟩:=hs;exact fin (v:=V.non) (u:=Value.none) J rfl q
 | brk =>
  obtain ⟨_,_,_,q⟩:=hs;exact False.elim q
 | cont =>
  obtain ⟨_,_,_,q⟩:=hs;exact False.elim q
section
variable {X:Cx} {x:Str} {p pos:Pos} {e:Expr} {es:List Expr} {t:TA} {id T:String} {r:List V->Hp->VK->Prop}
def tCB (r:List V->Hp->VK->Prop) (t:TA):TE:=λσ H Q=>t σ H λvs H1=>r vs H1 Q
theorem yan (hc : zr X (.builtin id) r) (hg : Gl X x) (hm : X.mg x = none) (hv : bootBuiltins x = some (.builtin id)) (ha : PA X (e :: es) t) (hn : x ≠ "__name__" := by decide) (hdb : (x == ("__debug__" : Str)) = false := by decide)
  (he:starEach (e::es) X.env=(false,eval e X.env)::starEach es X.env:=by rfl) (hpl:(backTo pos (starEach es X.env)).any (·.1)=false:=by rfl):PE X (.Call (.Name x p) (e::es) [] pos) (tCB r t):=by
 intro pins s σ H Q I h;refine wpAny_Call_Name_kw (jT I hg hm hv ?_ hn hdb);exact PyProof.Rows.callWith_builtin1 (thn (ha pos pins s σ H _ I h) λus s1 ⟨vs,H1,I1,r1,q1⟩=>hc pins s1 σ H1 vs us Q I1 r1 q1) he hpl
theorem yo (hc : zr X (.type T) r) (hg : Gl X x) (hm : X.mg x = none) (hv : bootBuiltins x = some (.type T)) (ha : PA X (e :: es) t) (hn : x ≠ "__name__" := by decide) (hdb : (x == ("__debug__" : Str)) = false := by decide)
  (he:starEach (e::es) X.env=(false,eval e X.env)::starEach es X.env:=by rfl) (hpl:(backTo pos (starEach es X.env)).any (·.1)=false:=by rfl):PE X (.Call (.Name x p) (e::es) [] pos) (tCB r t):=by
 intro pins s σ H Q I h;refine wpAny_Call_Name_kw (jT I hg hm hv ?_ hn hdb);exact PyProof.Rows.callWith_type1 (thn (ha pos pins s σ H _ I h) λus s1 ⟨vs,H1,I1,r1,q1⟩=>hc pins s1 σ H1 vs us Q I1 r1 q1) he hpl
end
end L2
namespace HT
open PySem PyProof.Rows
section
variable {prog:Program} {w:World} {A:Around} {E:Value->Shared->Prop} {s:Shared}
theorem ycG {t b:Addr} {vs ws:List Value} {Q:Value->Shared->Prop} (ht:IsTup s.heap t vs.toArray) (hb:IsTup s.heap b ws.toArray) (hv:vs≠[])
  (h1:ws=[]->Q (.ref t) s) (h2:ws≠[]->Q (.ref s.heap.objs.size) { s with heap:=s.heap.push { cls:=.type "tuple",data:=.seq (vs++ws).toArray } })
  (hsz:vs.length+ws.length<=sizeLine):wpAny (model prog w) A (binaryOp .Add (.ref t) (.ref b)) Q E s:=by
 obtain ⟨⟨cls,dd,data,sl⟩,ho,hc,n,hd⟩:=id ht;obtain ⟨⟨cls2,dd2,data2,sl2⟩,ho2,hc2,n2,hd2⟩:=id hb;simp only at hc hd hc2 hd2;subst hc hd hc2 hd2;have e:vs.toArray++ws.toArray=(vs++ws).toArray:=by simp
 by_cases hw:ws=[]
 ·exact concat_meets ⟨_,ho,rfl⟩ ⟨_,ho2,rfl⟩ noFill_tuple_add seq_tuple_add PySem.F.slot_tuple_add PySem.F.entry_tuple_add (PySem.F.args_tuple_add_2 _ _)
   (tuple_addW1 t b vs.toArray ws.toArray n n2 dd dd2 sl sl2 (by simpa using hv) (by simp [hw])) ⟨ho,ho2,h1 hw⟩
 ·refine concat_meets ⟨_,ho,rfl⟩ ⟨_,ho2,rfl⟩ noFill_tuple_add seq_tuple_add PySem.F.slot_tuple_add PySem.F.entry_tuple_add (PySem.F.args_tuple_add_2 _ _)
   (tuple_addW2 t b vs.toArray ws.toArray n n2 dd dd2 sl sl2 (by simpa using hv) (by simpa using hw) (by rw [vj,vj];exact hsz)) ⟨ho,ho2,?_⟩
  rw [e];exact h2 hw
noncomputable def sIx (n d:Nat):Option Int->Nat
 | none=>d
 | some v=>if v<0 then (v+(n:Int)).toNat else min v.toNat n
theorem qdm (n d:Nat) (hd:d<=n) (o:Option Int):sIx n d o<=n:=by
 cases o with
 | none=>exact hd
 | some v =>
  show (if v<0 then (v+(n:Int)).toNat else min v.toNat n)<=n
  by_cases hv:v<0
  ·rw [if_pos hv];omega
  ·rw [if_neg hv];exact Nat.min_le_right _ _
theorem jbq (v:Int) (n d:Nat):(if v<0 then max (v+(n:Int)) 0 else min v (n:Int))=((sIx n d (some v):Nat):Int):=by
 show (if v<0 then max (v+(n:Int)) 0 else min v (n:Int))=(((if v<0 then (v+(n:Int)).toNat else min v.toNat n):Nat):Int)
 by_cases hv:v<0
 ·simp only [if_pos hv];omega
 ·simp only [if_neg hv];omega
theorem jbe (lo hi:Option Int) (n:Nat):Builtin.Slice.sliceAdjust lo hi 1 (n:Int)=(((sIx n 0 lo:Nat):Int),((sIx n n hi:Nat):Int)):=by
 have h1:¬ ((1:Int)<0):=by omega
 unfold Builtin.Slice.sliceAdjust;simp only [h1,if_false];refine Prod.ext ?_ ?_
 ·cases lo with
  | none=>rfl
  | some v=>exact jbq v n 0
 ·cases hi with
  | none=>rfl
  | some v=>exact jbq v n n
theorem zbf (i j:Nat):Builtin.Slice.slicePlaces (i:Int) (j:Int) 1=j-i:=by
 unfold Builtin.Slice.slicePlaces;have h1:(1:Int)>0:=by omega
 simp only [h1,if_true,Int.ediv_one];split<;>omega
theorem zag {v:Value} {o:Option Int} {Q:Option Int->Shared->Prop} (p:IsPart v o) (h:Q o s):wpAny (model prog w) A (Builtin.Slice.slicePartIndex v) Q E s:=by
 cases p with
 | none=>exact slicePart_none h
 | int i t=>exact slicePart_int h
theorem yB {sl:Addr} {vl vu:Value} {lo hi:Option Int} {n:Nat} {Q:Int×Int×Nat->Shared->Prop} (hs:s.heap.IsSliceOf sl vl vu .none) (pl:IsPart vl lo) (pu:IsPart vu hi)
  (h:Q (((sIx n 0 lo:Nat):Int),1,sIx n n hi-sIx n 0 lo) s):wpAny (model prog w) A (Builtin.Slice.sliceApplied (.ref sl) (pure (n:Int))) Q E s:=by
 obtain ⟨os,hos,hcs,hds⟩:=id hs;unfold Builtin.Slice.sliceApplied Builtin.Slice.sliceFields;refine we (we (wpAny_field hos hds (x:=vl) rfl (we (wpAny_field hos hds (x:=vu) rfl (we (wpAny_field hos hds (x:=.none) rfl (wm ?_)))))));refine we (slicePart_none ?_);show wpAny _ _ (if ((1:Int)==0)=true then _ else _) _ _ s;rw [if_neg (by decide)];refine we (zag pl (we (zag pu (we (wm ?_)))));show wpAny _ _ (match Builtin.Slice.sliceAdjust lo hi 1 (n:Int) with | (lo,hi)=>pure (lo,(1:Int),Builtin.Slice.slicePlaces lo hi 1)) _ _ s;rw [jbe lo hi n];show wpAny _ _ (pure (((sIx n 0 lo:Nat):Int),(1:Int),Builtin.Slice.slicePlaces ((sIx n 0 lo:Nat):Int) ((sIx n n hi:Nat):Int) 1)) _ _ s;rw [zbf];exact wm h
theorem yb4 (xs:Array Value) (i k:Nat):((List.range k).filterMap λ(m:Nat)=>xs[((i:Int)+(m:Int)*1).toNat]?).toArray=((xs.toList.drop i).take k).toArray:=by
 have e:(λ(m:Nat)=>xs[((i:Int)+(m:Int)*1).toNat]?)=λm=>xs[i+m]?:=by
  funext m
  have:((i:Int)+(m:Int)*1).toNat=i+m:=by omega
  rw [this]
 rw [e]
 have:=pick_run xs i k
 rw [List.filterMap_map] at this;have e2:((λx=>xs[x]?)∘λx=>i+x)=λm=>xs[i+m]?:=rfl
 rw [e2] at this;rw [this]
theorem zQ {t sl:Addr} {items:Array Value} {vl vu:Value} {lo hi:Option Int} {Q:Value->Shared->Prop} (ht:IsTup s.heap t items) (hs:s.heap.IsSliceOf sl vl vu .none) (pl:IsPart vl lo) (pu:IsPart vu hi)
  (hw:¬ (sIx items.size 0 lo=0/\sIx items.size items.size hi=items.size))
  (h:Q (.ref s.heap.objs.size) { s with heap:=s.heap.push { cls:=.type "tuple",data:=.seq ((items.toList.drop (sIx items.size 0 lo)).take (sIx items.size items.size hi-sIx items.size 0 lo)).toArray } })
  (hsz:items.size<=sizeLine):wpAny (model prog w) A (getItem (.ref t) (.ref sl)) Q E s:=by
 have htake:sizeOk (.seq ((items.toList.drop (sIx items.size 0 lo)).take (sIx items.size items.size hi-sIx items.size 0 lo)).toArray):=by
  show ((items.toList.drop (sIx items.size 0 lo)).take (sIx items.size items.size hi-sIx items.size 0 lo)).toArray.size<=sizeLine;rw [vj,List.length_take,List.length_drop,Array.length_toList];omega
 have hj:sIx items.size items.size hi<=items.size:=qdm _ _ (wC _) hi;obtain ⟨os,hos,hcs,hds⟩:=id hs;have hTs:s.TypeIs (.ref sl) "slice":=⟨os,hos,hcs⟩;unfold getItem
 try with_reducible refine wpAny_holding ?_
 first | refine we (wm ?_) | skip
 refine we (wpAny_sequenceKey ht.typeIs (by decide) ?_)
 refine we (w8 (name:=Str.ofString "__getitem__") ht.typeIs PyProof.Rows.slot_tuple_getitem
  (wW PyProof.Rows.slot_tuple_getitem ht.typeIs entry_tuple_getitem ?_ (args_tuple_getitem _ _)))
 show wpAny _ _ (Builtin.Tuple.tupleItemsOf (.ref t) >>= _) _ _ s;refine we (tupleItemsOf_ ht ?_);refine we (wpAny_typeOf hTs ?_);rw [if_pos (by decide)];refine we (yB hs pl pu ?_)
 have hno:¬ ((((sIx items.size 0 lo:Nat):Int)==0&&(1:Int)==1&&(sIx items.size items.size hi-sIx items.size 0 lo)==items.size)=true):=by
  intro q;rw [wg,wg] at q;have q1:((sIx items.size 0 lo:Nat):Int)=0:=eq_of_beq q.1.1;have q2:sIx items.size items.size hi-sIx items.size 0 lo=items.size:=eq_of_beq q.2;exact hw ⟨by omega,by omega⟩
 show wpAny _ _ (if (((sIx items.size 0 lo:Nat):Int)==0&&(1:Int)==1&&(sIx items.size items.size hi-sIx items.size 0 lo)==items.size)=true then _ else _) _ _ s;rw [if_neg hno,yb4]
 first
  | exact we (m:=Builtin.Tuple.tupleExact _) (vc (wm ⟨_,rfl,wm h⟩) htake)
  | exact we (m:=Builtin.Tuple.tupleExact _) (vc (we (wm (wm ⟨_,rfl,wm h⟩))) htake)
  | exact we (we (m:=Builtin.Tuple.tupleExact _) (vc (wm (wm ⟨_,rfl,wm h⟩)) htake))
  | exact we (we (m:=Builtin.Tuple.tupleExact _) (vc (wm ⟨_,rfl,wm h⟩) htake))
end
end HT
namespace L2
open PySem PySem.Spec PyProof.Rows
abbrev TO:=St->Hp->(Option Int->Hp->Prop)->Prop
def PO (X:Cx) (e:Option Expr) (t:TO):Prop :=
 ∀ (pins:List (Addr×Obj)) (s:Shared) (σ:St) (H:Hp) (Q:Option Int->Hp->Prop),Inv X pins σ H s->t σ H Q ->
  wpAny (model X.prog X.w) X.A (evalPart e X.env) (λu s'=>∃ o H',Inv X pins σ H' s'/\IsPart u o/\Q o H') X.xe s
def tNoPart:TO:=λ_ H Q=>Q none H
def jd0 (t:TE):TO:=λσ H Q=>t σ H λx H1=>∃ i,x=.int i/\Q (some i) H1
section
variable {X:Cx} {e:Expr} {te:TE} {lo hi:Option Expr} {tl th:TO} {pos p2:Pos}
theorem jcG:PO X none tNoPart:=by
 intro pins s σ H Q I h;rw [evalPart_none];exact wm ⟨none,H,I,.none,h⟩
theorem zcH (h:PE X e te):PO X (some e) (jd0 te):=by
 intro pins s σ H Q I hw;rw [evalPart_some];refine thn (h pins s σ H _ I hw) λu s1 ⟨x,H1,I1,r1,q1⟩=>?_
 obtain ⟨i,rfl,q⟩:=q1;obtain ⟨t,rfl⟩:=r1;exact ⟨some i,H1,I1,.int i t,q⟩
def SlR (X:Cx) (r:V->Option Int->Option Int->Hp->VK->Prop):Prop :=
 ∀ (pins:List (Addr×Obj)) (s:Shared) (σ:St) (H:Hp) (x:V) (v vl vu:Value) (lo hi:Option Int) (sl:Addr) (Q:VK),Inv X pins σ H s->RelV x v->s.heap.IsSliceOf sl vl vu .none->IsPart vl lo->IsPart vu hi->r x lo hi H Q ->
  ∃ T id,typeLookup (.type T) "__getitem__"=pure (some (.builtin id))/\s.TypeIs v T/\wpAny (model X.prog X.w) X.A (getItem v (.ref sl)) (EP X pins σ Q) X.xe s
def tSl (r:V->Option Int->Option Int->Hp->VK->Prop) (te:TE) (tl th:TO):TE:=λσ H Q=>te σ H λx H1=>tl σ H1 λl H2=>th σ H2 λu H3=>r x l u H3 Q
theorem jb4 {r:V->Option Int->Option Int->Hp->VK->Prop} (hr:SlR X r) (he:PE X e te) (hl:PO X lo tl) (hu:PO X hi th):PE X (.Subscript e (.Slice lo hi none p2) pos) (tSl r te tl th):=by
 intro pins s σ H Q I h;refine Subscript_ (thn (he pins s σ H _ I h) λv s1 ⟨x,H1,I1,r1,q1⟩=>?_);refine wpAny_Slice (thn (hl pins s1 σ H1 _ I1 q1) λvl s2 ⟨l,H2,I2,pl,q2⟩=>thn (hu pins s2 σ H2 _ I2 q2) λvu s3 ⟨u,H3,I3,pu,q3⟩=>?_);rw [evalPart_none];refine wm ?_;have I4:Inv X pins σ H3 { s3 with heap:=s3.heap.push { cls:=.type "slice",data:=.fields #[vl,vu,.none] } }:=I3.kept (t':=s3.toks) λb ob q=>wj _ q
 obtain ⟨T,id,hT,ht,hg⟩:=hr pins { s3 with heap:=s3.heap.push { cls:=.type "slice",data:=.fields #[vl,vu,.none] } } σ H3 x v vl vu l u s3.heap.objs.size Q I4 r1 (Heap.IsSliceOf.new ..) pl pu q3;show wpAny (model X.prog X.w) X.A (subscriptTail e (.Slice lo hi none p2) v (.ref s3.heap.objs.size)) (EP X pins σ Q) X.xe { s3 with heap:=s3.heap.push { cls:=.type "slice",data:=.fields #[vl,vu,.none] } };exact tail_any (ops:=[.ref s3.heap.objs.size,v]) ht hT hg (by with_unfolding_all rfl)
noncomputable def qb1 (xs:List V) (lo hi:Option Int):List V:=(xs.drop (HT.sIx xs.length 0 lo)).take (HT.sIx xs.length xs.length hi-HT.sIx xs.length 0 lo)
theorem jY (xs:List V) (lo hi:Option Int):(qb1 xs lo hi).length<=xs.length:=by
 unfold qb1;rw [List.length_take,List.length_drop];omega
def jep (K:Frag):V->Option Int->Option Int->Hp->VK->Prop:=λx lo hi H Q=>∃ a xs,x=.ref a/\SqT K H a xs /\
 ¬ (HT.sIx xs.length 0 lo=0/\HT.sIx xs.length xs.length hi=xs.length)/\∀ p,H p=none->Q (.ref p) (upd H p (.tup (qb1 xs lo hi)))
theorem ydm:SlR X (jep X.K):=by
 intro pins s σ H x v vl vu lo hi sl Q I rx hs pl pu h;obtain ⟨a,xs,rfl,hx,hw,q⟩:=h;cases rx;obtain ⟨its,r,ht,hz⟩:=I.tuple hx;have hlen:its.toArray.size=xs.length:=by rw [vj];exact r.length.symm
 refine ⟨"tuple",_,PyProof.Rows.slot_tuple_getitem.lookup,ht.typeIs,?_⟩;refine HT.zQ ht hs pl pu (by rw [hlen];exact hw) ?_ (by rw [hlen];exact hz);rw [hlen];refine ⟨.ref s.heap.objs.size,_,I.laid (t':=s.toks) (o:=.tup (qb1 xs lo hi)) (λb ob q=>wj _ q) (wC _) ?_,rfl,q _ (I.hok.fresh (wC _))⟩;exact ⟨wQ (jY xs lo hi) hz,_,(r.drop (HT.sIx xs.length 0 lo)).take (HT.sIx xs.length xs.length hi-HT.sIx xs.length 0 lo),IsTupN.new _ _⟩
def zd1 (K:Frag):R2:=λx y H Q=>∃ a b xs ys,x=.ref a/\y=.ref b/\SqT K H a xs/\SqT K H b ys/\xs≠[]/\xs.length+ys.length<=sizeLine /\
 (ys=[]->Q (.ref a) H)/\(ys≠[]->∀ p,H p=none->Q (.ref p) (upd H p (.tup (xs++ys))))
theorem Vals.nil_iff {xs:List V} {us:List Value} (r:Vals xs us):us=[]↔xs=[]:=by
 cases r with
 | nil=>simp
 | cons _ _=>simp
theorem qcH:OpR X (binaryOp .Add) (zd1 X.K):=by
 intro pins s σ H x y v u Q I rx ry h;obtain ⟨a,b,xs,ys,rfl,rfl,ha,hb,hx,hz,q1,q2⟩:=h;cases rx;cases ry;obtain ⟨its,r1,p1,_⟩:=I.tuple ha;obtain ⟨its2,r2,p2,_⟩:=I.tuple hb;refine HT.ycG p1 p2 (λz=>hx (r1.nil_iff.mp z)) (λz=>⟨.ref a,H,I,rfl,q1 (r2.nil_iff.mp z)⟩) (λz=>?_) (by rw [<-r1.length,<-r2.length];exact hz);refine ⟨.ref s.heap.objs.size,_,I.laid (t':=s.toks) (o:=.tup (xs++ys)) (λb ob q=>wj _ q) (wC _) ?_,rfl,q2 (λw=>z (r2.nil_iff.mpr w)) _ (I.hok.fresh (wC _))⟩;exact ⟨by rw [wU];exact hz,_,r1.append r2,IsTupN.new _ _⟩
end
noncomputable def ixN (n:Nat) (i:Int):Option Nat:=if 0<=i then (if i<n then some i.toNat else none) else if -(n:Int)<=i then some (i+n).toNat else none
noncomputable def atI {α:Type} (xs:List α) (i:Int):Option α:=(ixN xs.length i).bind λj=>xs[j]?
theorem zbr {n:Nat} {i:Int} {j:Nat} (h:ixN n i=some j):seqIndex? i n=some j/\j<n/\-(n:Int)<=i/\i<n:=by
 unfold ixN at h
 by_cases h0:0<=i
 ·rw [if_pos h0] at h
  by_cases h1:i<n
  ·rw [if_pos h1] at h;have e:i.toNat=j:=wB h;exact ⟨by rw [seqIndex_of h0 h1,e],by omega,by omega,h1⟩
  ·rw [if_neg h1] at h;cases h
 ·rw [if_neg h0] at h
  by_cases h1:-(n:Int)<=i
  ·rw [if_pos h1] at h;have e:(i+n).toNat=j:=wB h;exact ⟨by rw [seqIndex_neg (by omega) h1,e],by omega,h1,by omega⟩
  ·rw [if_neg h1] at h;cases h
theorem qbr {α:Type} {xs:List α} {i:Int} {v:α} (h:atI xs i=some v):∃ j,seqIndex? i xs.length=some j/\xs[j]?=some v/\j<xs.length/\-(xs.length:Int)<=i/\i<xs.length:=by
 unfold atI at h;cases e:ixN xs.length i with
 | none=>rw [e] at h;cases h
 | some j =>
  rw [e] at h;obtain ⟨h1,h2,h3,h4⟩:=zbr e;exact ⟨j,h1,h,h2,h3,h4⟩
theorem yaZ {α:Type} (xs:List α) (v:α):atI (xs++[v]) (-1)=some v:=by
 have hl:(xs++[v]).length=xs.length+1:=by simp
 have e:ixN (xs++[v]).length (-1)=some xs.length:=by
  unfold ixN;rw [hl,if_neg (by decide),if_pos (by omega)];congr 1;omega
 unfold atI;rw [e];show (xs++[v])[xs.length]?=some v
 simp
def qaP (b:Expr):Prop:=∀ o i,subscripted b false o i=operate [o,i] (getItem o i)
def IxR (X:Cx) (r:R2):Prop :=
 ∀ (value slice:Expr) (pins:List (Addr×Obj)) (s:Shared) (σ:St) (H:Hp) (x y:V) (v u:Value) (Q:VK),Inv X pins σ H s->RelV x v->RelV y u->r x y H Q ->
  subscripted slice false v u=operate [v,u] (getItem v u)->wpAny (model X.prog X.w) X.A (subscriptTail value slice v u) (EP X pins σ Q) X.xe s
def MtR (X:Cx) (id:String) (r:V->List V->Hp->VK->Prop):Prop :=
 ∀ (pins:List (Addr×Obj)) (s:Shared) (σ:St) (H:Hp) (x:V) (xs:List V) (v:Value) (us:List Value) (Q:VK),Inv X pins σ H s->RelV x v->Vals xs us->r x xs H Q ->
  wpAny (model X.prog X.w) X.A (call (.builtin id) (v::us)) (EP X pins σ Q) X.xe s
section
variable {X:Cx} {a b:Expr} {ta tb:TE} {pos:Pos}
theorem qd1 {r:R2} (hr:IxR X r) (ha:PE X a ta) (hb:PE X b tb) (hs:qaP b):PE X (.Subscript a b pos) (tOp r ta tb):=by
 intro pins s σ H Q I h;exact Subscript_ (jdX ha hb I h λv u s2 x y H2 I2 rx ry q=>hr a b pins s2 σ H2 x y v u Q I2 rx ry q (hs _ _))
def zeq (K:Frag):R2:=λx y H Q=>∃ p xs i v,x=.ref p/\y=.int i/\SqL K H p xs/\atI xs i=some v/\Q v H
def qeq (K:Frag):R2:=λx y H Q=>∃ p xs i v,x=.ref p/\y=.int i/\SqT K H p xs/\atI xs i=some v/\Q v H
theorem ybr:IxR X (zeq X.K):=by
 intro value slice pins s σ H x y v u Q I rx ry h hs;obtain ⟨p,xs,i,z,rfl,rfl,hq,he,q⟩:=h;cases rx;obtain ⟨t,rfl⟩:=ry;obtain ⟨its,r,pl,hz⟩:=I.list hq;obtain ⟨j,h1,h2,h3,h4,h5⟩:=qbr he;obtain ⟨w,ew,rw'⟩:=r.get h2;have hl:=r.length;have hn:=yaf;have fin:EP X pins σ Q w s:=⟨z,H,I,rw',q⟩
 by_cases h0:0<=i
 ·have hj:i.toNat=j:=by
   rw [seqIndex_of h0 h5] at h1;exact wB h1
  exact item_listR pl.isList h0 (by omega) (by rw [hj];simpa using ew) fin hs
 ·have hj:(i+(its.toArray.size:Int)).toNat=j:=by
   rw [seqIndex_neg (by omega) h4] at h1;rw [vj,<-hl];exact wB h1
  exact subscriptTail_builtinR (x:=w) pl.isList.typeIs slot_list_getitem.lookup
   (wpAny_getItem_list_neg (Q:=λr s'=>r=w/\EP X pins σ Q r s') pl.isList (by omega) (by rw [vj]<;>omega) (by omega) (by rw [hj];simpa using ew) ⟨rfl,fin⟩) hs
theorem jdm:IxR X (qeq X.K):=by
 intro value slice pins s σ H x y v u Q I rx ry h hs;obtain ⟨p,xs,i,z,rfl,rfl,hq,he,q⟩:=h;cases rx;obtain ⟨t,rfl⟩:=ry;obtain ⟨its,r,pl,hz⟩:=I.tuple hq;obtain ⟨j,h1,h2,h3,h4,h5⟩:=qbr he;obtain ⟨w,ew,rw'⟩:=r.get h2;have hl:=r.length;have hn:=yaf;have fin:EP X pins σ Q w s:=⟨z,H,I,rw',q⟩
 exact subscriptTail_builtinR (x:=w) pl.typeIs slot_tuple_getitem.lookup
  (getItem_tuple (j:=j) (Q:=λr s'=>r=w/\EP X pins σ Q r s') pl (by omega) (by omega) (by rw [vj,<-hl];exact h1) (by simpa using ew) ⟨rfl,fin⟩) hs
theorem qbf (its:List Value) (n j:Nat) (u:Value):Obj.mapSeq (·.setIfInBounds j u) { cls:=.type "list",data:=.seq its.toArray n }={ cls:=.type "list",data:=.seq (its.set j u).toArray n }:=by
 simp [Obj.mapSeq]
theorem Inv.lst {pins:List (Addr×Obj)} {σ:St} {H:Hp} {s:Shared} {p:Addr} {xs:List V} (I:Inv X pins σ H s) (h:H p=some (.lst xs)) :
  ∃ (its:List Value) (n:Nat),Vals xs its/\s.heap.get? p=some { cls:=.type "list",data:=.seq its.toArray n }/\xs.length<=sizeLine:=by
 obtain ⟨z,its,n,r,e⟩:=I.hok p _ h;exact ⟨its,n,r,e,z⟩
theorem Inv.lstUpd {pins:List (Addr×Obj)} {σ:St} {H:Hp} {s:Shared} {p:Addr} {xs ys:List V} {its its':List Value} {n n':Nat} {f:Obj->Obj} (I:Inv X pins σ H s) (h:H p=some (.lst xs))
  (ho:s.heap.get? p=some { cls:=.type "list",data:=.seq its.toArray n }) (hf:f { cls:=.type "list",data:=.seq its.toArray n }={ cls:=.type "list",data:=.seq its'.toArray n' }) (r:Vals ys its') (hz:ys.length<=sizeLine) (t:Nat) :
  Inv X pins σ (upd H p (.lst ys)) { s with heap:=s.heap.update p f,toks:=t }:=by
 have e:(s.heap.update p f).get? p=some { cls:=.type "list",data:=.seq its'.toArray n' }:=by
  rw [Heap.get?_update_self f ho (by rw [hf]<;>rfl),hf]
 refine I.write (x:=p) (e:=p) (by rw [h];trivial) (.inl rfl) (λb u hb q=>(Heap.get?_update_other _ _ (Ne.symm hb)).trans q) ⟨_,e⟩ ?_;exact ⟨hz,its',n',r,e⟩
def rSetL:V->V->V->Hp->(Hp->Prop)->Prop:=λo i v H Q=>∃ p xs k j,o=.ref p/\i=.int k/\H p=some (.lst xs)/\ixN xs.length k=some j/\Q (upd H p (.lst (xs.set j v)))
theorem set_list:jdS X rSetL:=by
 intro pins s σ H o i v ov iv u Q I ro ri rv h;obtain ⟨p,xs,k,j,rfl,rfl,hp,hj,q⟩:=h;cases ro;obtain ⟨t,rfl⟩:=ri;obtain ⟨its,n,r,ho,hz⟩:=I.lst hp;obtain ⟨h1,h2,h3,h4⟩:=zbr hj;have hl:=r.length;have hn:=yaf
 have I':Inv X pins σ (upd H p (.lst (xs.set j v))) { s with heap:=s.heap.update p (Obj.mapSeq (·.setIfInBounds j u)) } :=
  I.lstUpd hp ho (qbf its n j u) (r.set rv j) (by rw [List.length_set];exact hz) s.toks
 by_cases h0:0<=k
 ·have hk:k.toNat=j:=by
   rw [seqIndex_of h0 h4] at h1;exact wB h1
  exact PySem.W.ki_setAt ho h0 (by omega) (by rw [vj,<-hl];exact h4) (by rw [hk];exact ⟨_,I',q⟩)
 ·have hk:(k+(its.toArray.size:Int)).toNat=j:=by
   rw [seqIndex_neg (by omega) h3] at h1;rw [vj,<-hl];exact wB h1
  exact PySem.W.ki_setBack ho (by omega) (by rw [vj,<-hl];exact h3) (by omega) (by rw [hk];exact ⟨_,I',q⟩)
theorem zaB (lo hi:Option Int) (n:Nat):(sliceBounds lo hi none n).1=((HT.sIx n 0 lo:Nat):Int)/\(sliceBounds lo hi none n).2.1=((HT.sIx n n hi:Nat):Int)/\(sliceBounds lo hi none n).2.2=1:=by
 refine ⟨?_,?_,rfl⟩
 ·cases lo with
  | none=>simp [sliceBounds,HT.sIx]
  | some i =>
   simp only [sliceBounds,HT.sIx,Option.getD_none,show (1:Int)>0 by decide,if_true]
   by_cases h:i<0
   ·simp only [h,if_true]<;>omega
   ·simp only [h,if_false]<;>omega
 ·cases hi with
  | none=>simp [sliceBounds,HT.sIx]
  | some i =>
   simp only [sliceBounds,HT.sIx,Option.getD_none,show (1:Int)>0 by decide,if_true]
   by_cases h:i<0
   ·simp only [h,if_true]<;>omega
   ·simp only [h,if_false]<;>omega
theorem jan (its:List Value) (lo hi:Option Int):slicePick its.toArray lo hi none=((its.drop (HT.sIx its.length 0 lo)).take (HT.sIx its.length its.length hi-HT.sIx its.length 0 lo)).toArray:=by
 obtain ⟨h1,h2,h3⟩:=zaB lo hi its.toArray.size;unfold slicePick;rw [h1,h2,h3];simp only [sliceRange_one,pick_run,vj]<;>rfl
def yeq (K:Frag):V->Option Int->Option Int->Hp->VK->Prop:=λx lo hi H Q=>∃ a xs,x=.ref a/\SqL K H a xs/\∀ p,H p=none->Q (.ref p) (upd H p (.lst (qb1 xs lo hi)))
theorem ycH:SlR X (yeq X.K):=by
 intro pins s σ H x v vl vu lo hi sl Q I rx hs pl pu h;obtain ⟨a,xs,rfl,hx,q⟩:=h;cases rx;obtain ⟨its,r,ht,hz⟩:=I.list hx;have hlen:=r.length;refine ⟨"list",_,slot_list_getitem.lookup,ht.isList.typeIs,?_⟩;refine wpAny_getItem_list_slice ht.isList hs pl pu .none (by simp) ?_ (by rw [vj]<;>omega);rw [jan,<-hlen];refine ⟨.ref s.heap.objs.size,_,I.laid (t':=s.toks) (o:=.lst (qb1 xs lo hi)) (λb ob q=>wj _ q) (wC _) ?_,rfl,q _ (I.hok.fresh (wC _))⟩;exact ⟨wQ (jY xs lo hi) hz,_,0,(r.drop (HT.sIx xs.length 0 lo)).take (HT.sIx xs.length xs.length hi-HT.sIx xs.length 0 lo),wt _ rfl⟩
theorem qaB:zr X (.builtin "len") (λxs H Q=>∃ p ys,xs=[.ref p]/\(SqL X.K H p ys\/SqT X.K H p ys)/\Q (.int ys.length) H):=by
 intro pins s σ H xs us Q I r h;obtain ⟨p,ys,rfl,hq,q⟩:=h;obtain ⟨u,rfl,rx⟩:=vals1 r;cases rx;have hn:=yaf;rcases hq with hq | hq
 ·obtain ⟨its,r',pl,hz⟩:=I.list hq;have hlen:=r'.length;exact Calls.call_len_list pl.isList (by simp only [vj]<;>omega) ⟨.int ys.length,H,I.tok _,⟨s.toks+1,by rw [vj,hlen]⟩,q⟩
 ·obtain ⟨its,r',pl,hz⟩:=I.tuple hq;have hlen:=r'.length;exact len_tuple pl (by simp only [vj]<;>omega) ⟨.int ys.length,H,I.tok _,⟨s.toks+1,by rw [vj,hlen]⟩,q⟩
theorem yaB:zr X (.builtin "len") (λxs H Q=>∃ z,xs=[.str z]/\z.length<=sizeLine/\Q (.int z.length) H):=by
 intro pins s σ H xs us Q I r h;obtain ⟨z,rfl,hz,q⟩:=h;obtain ⟨u,rfl,t,rfl⟩:=vals1 r;have hn:=yaf;exact len_str (by omega) ⟨.int z.length,H,I.tok _,⟨_,rfl⟩,q⟩
theorem jaB:zr X (.type "list") (λxs H Q=>∃ p ys,xs=[.ref p]/\(SqL X.K H p ys\/SqT X.K H p ys)/\∀ l,H l=none->Q (.ref l) (upd H l (.lst ys))):=by
 intro pins s σ H xs us Q I r h;obtain ⟨p,ys,rfl,hq,q⟩:=h;obtain ⟨u,rfl,rx⟩:=vals1 r;cases rx
 have fin:∀ (its:List Value),Vals ys its->ys.length<=sizeLine->∀ (h':Heap) (c':Nat),(∀ b o',s.heap.get? b=some o'->h'.get? b=some o') ->
   h'.get? s.heap.objs.size=some { cls:=.type "list",dict:=none,data:=.seq its.toArray c',slots:=#[] }->EP X pins σ Q (.ref s.heap.objs.size) { s with heap:=h' }:=λits r' hz h' c' kp e =>
  ⟨.ref s.heap.objs.size,_,I.laid (t':=s.toks) kp (wC _) (show ObjOk X.prog X.w _ h' _ (.lst ys) from ⟨hz,its,c',r',e⟩),rfl,q _ (I.hok.fresh (wC _))⟩
 rcases hq with hq | hq
 ·obtain ⟨its,r',pl,hz⟩:=I.list hq;have hlen:=r'.length;obtain ⟨o,ho,hc,n,hd⟩:=pl.isList;exact call_list_seq p (.inl rfl) ho hc hd (λh' c' kp e=>fin its r' hz h' c' kp e) (by simp only [vj]<;>omega)
 ·obtain ⟨its,r',pl,hz⟩:=I.tuple hq;have hlen:=r'.length;obtain ⟨o,ho,hc,n,hd⟩:=pl;exact call_list_seq p (.inr rfl) ho hc hd (λh' c' kp e=>fin its r' hz h' c' kp e) (by simp only [vj]<;>omega)
theorem zN:zr X (.type "tuple") (λxs H Q=>∃ p ys,xs=[.ref p]/\((SqL X.K H p ys/\∀ l,H l=none->Q (.ref l) (upd H l (.tup ys)))\/(SqT X.K H p ys/\Q (.ref p) H))):=by
 intro pins s σ H xs us Q I r h;obtain ⟨p,ys,rfl,h⟩:=h;obtain ⟨u,rfl,rx⟩:=vals1 r;cases rx;rcases h with ⟨hq,q⟩ | ⟨hq,q⟩
 ·obtain ⟨its,r',pl,hz⟩:=I.list hq;have hlen:=r'.length;refine call_tuple_list pl.isList (λh' kp=>?_) (by simp only [vj]<;>omega);have I1:Inv X pins σ H { s with heap:=h' }:=I.kept (t':=s.toks) kp
  have I2:Inv X pins σ (upd H h'.objs.size (.tup ys)) { s with heap:=h'.push { cls:=.type "tuple",data:=.seq its.toArray } } :=
   I1.laid (t':=s.toks) (λb o e=>wj _ e) (wC _) (show ObjOk X.prog X.w _ _ _ (.tup ys) from ⟨hz,its,r',IsTupN.new _ _⟩)
  exact ⟨.ref h'.objs.size,_,I2,rfl,q _ (I1.hok.fresh (wC _))⟩
 ·obtain ⟨its,r',pl,hz⟩:=I.tuple hq;exact call_tuple_same pl ⟨.ref p,H,I,rfl,q⟩
def tyV (K:Frag) (T:String) (x:V) (H:Hp):Prop:=match x with
 | .str _=>T="str"
 | .int _=>T="int"
 | .ref p=>(T="list"/\∃ xs,SqL K H p xs)\/(T="tuple"/\∃ o,K.lookup p=some o/\o.cls=.type "tuple"/\o.dict=none) \/
  (T="dict"/\((∃ kvs,H p=some (.dK kvs))\/∃ kvs,H p=some (.dT kvs)))\/(T="set"/\∃ S n,H p=some (.set S n))
 | _=>False
theorem zdn {pins:List (Addr×Obj)} {σ:St} {H:Hp} {s:Shared} {T:String} {x:V} {v:Value} (I:Inv X pins σ H s) (r:RelV x v) (ty:tyV X.K T x H) :
  s.TypeIs v T/\∀ a,v=.ref a->∃ ob,s.heap.get? a=some ob/\ob.dict=none:=by
 cases x with
 | str z =>
  obtain ⟨t,rfl⟩:=r;cases (show T="str" from ty);exact ⟨typeIs_str s z t,λ_ e=>nomatch e⟩
 | int i =>
  obtain ⟨t,rfl⟩:=r;cases (show T="int" from ty);exact ⟨typeIs_int s i t,λ_ e=>nomatch e⟩
 | ref p =>
  cases r;rcases ty with ⟨rfl,xs,hq⟩ | ⟨rfl,o,hk,hc,hd⟩ | ⟨rfl,hk⟩ | ⟨rfl,S,n,hk⟩
  ·obtain ⟨its,_,pl,_⟩:=I.list hq;refine ⟨pl.isList.typeIs,λa e=>?_⟩;cases e;obtain ⟨o,n,e,c,hd,_⟩:=pl;exact ⟨o,e,hd⟩
  ·refine ⟨⟨o,I.kIn p o hk,hc⟩,λa e=>?_⟩;cases e;exact ⟨o,I.kIn _ o hk,hd⟩
  ·have z:∃ o,s.heap.get? p=some o/\o.ExactDict:=by
    rcases hk with ⟨kvs,hk⟩ | ⟨kvs,hk⟩
    ·obtain ⟨_,_,_,_,o,_,_,e,ex,_⟩:=I.hok p _ hk;exact ⟨o,e,ex⟩
    ·obtain ⟨_,_,_,_,o,_,_,e,ex,_⟩:=I.hok p _ hk;exact ⟨o,e,ex⟩
   obtain ⟨o,e,ex⟩:=z;refine ⟨⟨o,e,ex.1⟩,λa e2=>?_⟩;cases e2;exact ⟨o,e,ex.2.1⟩
  ·obtain ⟨o,_,_,_,e,ex,_⟩:=I.hok p _ hk;refine ⟨⟨o,e,ex.1⟩,λa e2=>?_⟩;cases e2;exact ⟨o,e,ex.2.1⟩
 | _=>exact False.elim ty
def tBM (K:Frag) (T:String) (r:V->List V->Hp->VK->Prop) (to:TE) (t:TA):TE:=λσ H Q=>to σ H λx H1=>tyV K T x H1/\t σ H1 λxs H2=>r x xs H2 Q
variable {o e:Expr} {es:List Expr} {to:TE} {t:TA} {name:Str} {apos cpos:Pos} {T id:String} {r:V->List V->Hp->VK->Prop}
theorem ybf (pa:PlainAttrs T) (slot:Slot T name id) (hty:typeOf (.builtin id)=pure (.type "method_descriptor")) (hm:MtR X id r) (ho:PE X o to) (ha:PA X (e::es) t)
  (hbase:attributeBase o name X.env (eval o X.env)=eval o X.env:=by rfl)
  (hfew:((backTo cpos (starEach (e::es) X.env)).all (λx=>!x.1)&&(backToKw cpos (keywordEach [] X.env)).all (λx=>x.1.isSome)
   && decide ((e::es).length+([]:List Keyword).length+(if ([]:List Keyword).isEmpty then 0 else 1)<30))=true:=by rfl)
  (hline:(apos.endLine==cpos.line)=true:=by rfl) (hs:starEach (e::es) X.env=(false,eval e X.env)::starEach es X.env:=by rfl) (hplain:(backTo cpos (starEach es X.env)).any (·.1)=false:=by rfl) :
  PE X (.Call (.Attribute o name apos) (e::es) [] cpos) (tBM X.K T r to t):=by
 intro pins s σ H Q I h;refine wpAny_Call_method_late hbase hfew hline rfl (thn (ho pins s σ H _ I h) λv s1 ⟨x,H1,I1,r1,ty,q1⟩=>?_);obtain ⟨h1,h2⟩:=zdn I1 r1 ty;refine ⟨T,id,pa,slot,hty,h1,h2,?_⟩;have hA:=ha cpos pins s1 σ H1 _ I1 q1;rw [hs] at hA ⊢;refine Calls.callWith_builtin (by show (false||(backTo cpos (starEach es X.env)).any (·.1))=false;rw [hplain]<;>rfl) (Calls.evalArgs_plain ?_);exact thn hA λus s2 ⟨vs,H2,I2,r2,q2⟩=>hm pins s2 σ H2 x vs v us Q I2 r1 r2 q2
end
def MtM (X:Cx) (id:String) (r:V->List V->Hp->VK->Prop):Prop :=
 ∀ (pins:List (Addr×Obj)) (s:Shared) (σ:St) (H:Hp) (x:V) (xs:List V) (v:Value) (us:List Value) (Q:VK),Inv X pins σ H s->RelV x v->Vals xs us->r x xs H Q ->
  wpAny (model X.prog X.w) X.A (call (.builtin id) (v::us)) (EP X pins σ Q) X.xe s
theorem Vals.one:∀ {x:V} {us:List Value},Vals [x] us->∃ u,us=[u]/\RelV x u
 | _,_,.cons r .nil=>⟨_,rfl,r⟩
theorem Vals.two:∀ {x y:V} {us:List Value},Vals [x,y] us->∃ u v,us=[u,v]/\RelV x u/\RelV y v
 | _,_,_,.cons r (.cons q .nil)=>⟨_,_,rfl,r,q⟩
theorem Vals.eraseIdx:∀ {xs:List V} {us:List Value} (i:Nat),Vals xs us->Vals (xs.eraseIdx i) (us.eraseIdx i)
 | _,_,_,.nil=>.nil
 | _,_,0,.cons _ t=>t
 | _,_,i+1,.cons r t=>.cons r (Vals.eraseIdx i t)
theorem Vals.rep {xs:List V} {us:List Value} (h:Vals xs us):∀ k:Nat,Vals (List.replicate k xs).flatten (List.replicate k us).flatten
 | 0=>.nil
 | k+1=>by
  rw [List.replicate_succ,List.replicate_succ,List.flatten_cons,List.flatten_cons];exact Vals.append h (Vals.rep h k)
theorem foldl_rep (its:List Value):∀ (k:Nat) (acc:List Value),
  List.foldl (λx1 x2=>x1++x2) acc.toArray (List.replicate k its.toArray)=(acc++(List.replicate k its).flatten).toArray
 | 0,acc=>by simp
 | k+1,acc=>by
  have e:acc.toArray++its.toArray=(acc++its).toArray:=by simp
  have e2:(acc++its)++(List.replicate k its).flatten=acc++(List.replicate (k+1) its).flatten:=by
   rw [List.replicate_succ,List.flatten_cons,List.append_assoc]
  rw [<-e2,<-foldl_rep its k (acc++its),<-e,List.replicate_succ,List.foldl_cons]
section
variable {X:Cx} {pins:List (Addr×Obj)} {σ:St} {H:Hp} {s:Shared} {l b:Addr} {xs ys zs:List V}
theorem Inv.lset {its its':List Value} {n:Nat} {f:Array Value->Array Value} {t':Nat} (I:Inv X pins σ H s) (hH:H l=some (.lst xs))
  (e:s.heap.get? l=some { cls:=.type "list",data:=.seq its.toArray n }) (hf:f its.toArray=its'.toArray) (hv:Vals ys its') (hz:ys.length<=sizeLine) :
  Inv X pins σ (upd H l (.lst ys)) { s with heap:=s.heap.update l (Obj.mapSeq f),toks:=t' }:=by
 have q:=PySem.IsL.update e f;rw [hf] at q;refine I.write (x:=l) (e:=l) (by rw [hH];exact trivial) (.inl rfl) (λb' u hb hu=>(Heap.get?_update_other s.heap (Obj.mapSeq f) (Ne.symm hb)).trans hu) ⟨_,q⟩ ?_;exact ⟨hz,its',_,hv,q⟩
theorem Inv.lnew {its:List Value} {t':Nat} (I:Inv X pins σ H s) (hv:Vals ys its) (hz:ys.length<=sizeLine) :
  Inv X pins σ (upd H s.heap.objs.size (.lst ys)) { s with heap:=s.heap.push { cls:=.type "list",data:=.seq its.toArray },toks:=t' } :=
 I.laid (λ_ _ q=>wj _ q) (wC _) ⟨hz,its,0,hv,wt _ rfl⟩
theorem Inv.fresh (I:Inv X pins σ H s):H s.heap.objs.size=none:=I.hok.fresh (wC _)
theorem Inv.lstM (I:Inv X pins σ H s) (hH:H l=some (.lst xs)):xs.length<=sizeLine/\∃ (its:List Value) (n:Nat),Vals xs its/\xs.length=its.length/\s.heap.get? l=some { cls:=.type "list",data:=.seq its.toArray n }:=by
 obtain ⟨z,its,n,r,e⟩:=I.hok l _ hH;exact ⟨z,its,n,r,r.length,e⟩
theorem zao {n:Nat} (h:n<=sizeLine):Builtin.List.listTooLong n=false:=by
 unfold Builtin.List.listTooLong;exact vk (by omega)
end
section
variable {X:Cx}
def rAppend:V->List V->Hp->VK->Prop:=λx vs H Q=>∃ l xs y,x=.ref l/\vs=[y]/\H l=some (.lst xs)/\xs.length<sizeLine/\Q .non (upd H l (.lst (xs++[y])))
theorem zZ:MtM X "list.append" rAppend:=by
 intro pins s σ H x vs v us Q I rx rv h;obtain ⟨l,xs,y,rfl,rfl,hH,hz,q⟩:=h;cases rx;obtain ⟨u,rfl,ru⟩:=rv.one;obtain ⟨z,its,n,r,hl,e⟩:=I.lstM hH;refine call_meets F.slot_list_append ⟨_,e,rfl⟩ F.entry_list_append (F.args_list_append_2 _ _) (PySem.list_append l its.toArray n u (by rw [vj];omega)) ⟨e,?_⟩;refine ⟨.non,_,I.lset (its':=its++[u]) hH e (by simp) (r.append (.cons ru .nil)) ?_,rfl,q⟩;rw [wU,List.length_singleton];omega
def rExtend:V->List V->Hp->VK->Prop:=λx vs H Q=>∃ l b xs zs,x=.ref l/\vs=[.ref b]/\H l=some (.lst xs)/\H b=some (.lst zs)/\xs.length+zs.length<=sizeLine/\Q .non (upd H l (.lst (xs++zs)))
theorem zaC:MtM X "list.extend" rExtend:=by
 intro pins s σ H x vs v us Q I rx rv h;obtain ⟨l,b,xs,zs,rfl,rfl,hH,hB,hz,q⟩:=h;cases rx;obtain ⟨u,rfl,ru⟩:=rv.one;cases ru;obtain ⟨z,its,n,r,hl,e⟩:=I.lstM hH;obtain ⟨z2,its2,n2,r2,hl2,e2⟩:=I.lstM hB;have hsz:its.toArray.size+its2.toArray.size<=sizeLine:=by rw [vj,vj];omega
 have hlong:¬ (!its.toArray.isEmpty&&Builtin.List.listTooLong (its.toArray.size+its2.toArray.size))=true:=by
  rw [zao hsz,Bool.and_false];exact wA
 refine call_meets F.slot_list_extend ⟨_,e,rfl⟩ F.entry_list_extend (F.args_list_extend_2 _ _)
  (AutoSeq1.list_extend_list_list_0 l its.toArray n b its2.toArray n2 hlong (by rw [vj];omega) (by omega)) ⟨e,e2,?_⟩
 refine ⟨.non,_,I.lset (its':=its++its2) hH e (by simp) (r.append r2) ?_,rfl,q⟩;rw [wU];omega
def rCat:R2:=λx y H Q=>∃ l b xs zs,x=.ref l/\y=.ref b/\H l=some (.lst xs)/\H b=some (.lst zs)/\xs.length+zs.length<=sizeLine/\∀ p,H p=none->Q (.ref p) (upd H p (.lst (xs++zs)))
theorem qdn:OpR X (binaryOp .Add) rCat:=by
 intro pins s σ H x y v u Q I rx ry h;obtain ⟨l,b,xs,zs,rfl,rfl,hH,hB,hz,q⟩:=h;cases rx;cases ry;obtain ⟨z,its,n,r,hl,e⟩:=I.lstM hH;obtain ⟨z2,its2,n2,r2,hl2,e2⟩:=I.lstM hB;refine PySem.P.add_list e e2 ?_ (by rw [vj,vj];omega);have ea:its.toArray++its2.toArray=(its++its2).toArray:=by simp
 rw [ea];exact ⟨.ref _,_,I.lnew (t':=s.toks) (r.append r2) (by rw [wU];omega),rfl,q _ I.fresh⟩
def rRep:R2:=λx y H Q=>∃ l k xs,x=.ref l/\y=.int k/\H l=some (.lst xs)/\-(2^63)<=k/\k<2^63/\xs.length*k.toNat<=sizeLine /\
 ∀ p,H p=none->Q (.ref p) (upd H p (.lst (List.replicate k.toNat xs).flatten))
theorem len_rep {α:Type} (xs:List α) (k:Nat):(List.replicate k xs).flatten.length=k*xs.length:=by
 induction k with
 | zero=>simp
 | succ k ih=>rw [List.replicate_succ,List.flatten_cons,wU,ih,Nat.succ_mul,Nat.add_comm]
theorem ydn:OpR X (binaryOp .Mult) rRep:=by
 intro pins s σ H x y v u Q I rx ry h;obtain ⟨l,k,xs,rfl,rfl,hH,h1,h2,hz,q⟩:=h;cases rx;obtain ⟨t,rfl⟩:=ry;obtain ⟨z,its,n,r,hl,e⟩:=I.lstM hH;have hlen:its.toArray.size*k.toNat<=sizeLine:=by rw [vj,<-hl];exact hz
 have hcap:¬ its.toArray.size*k.toNat>(2^63-1)/8:=by
  have:(sizeLine:Nat)<=(2^63-1)/8:=by decide
  omega
 have hfit:¬ (!Builtin.List.listFitsIndex k)=true:=by
  rw [fitsIndex_both h1 h2];exact wA
 have hlong:¬ Builtin.List.listTooLong (its.toArray.size*k.toNat)=true:=by
  rw [zao hlen];exact wA
 have hnew:List.foldl (λx1 x2=>x1++x2) #[] (List.replicate (if its.toArray.isEmpty=true then 0 else k.toNat) its.toArray)=(List.replicate k.toNat its).flatten.toArray:=by
  have f0:∀ m:Nat,List.foldl (λx1 x2=>x1++x2) #[] (List.replicate m its.toArray)=(List.replicate m its).flatten.toArray:=λm=>by
   have:=foldl_rep its m []
   rw [List.nil_append] at this;exact this
  rw [f0];cases its with
  | nil=>simp
  | cons a r'=>rw [if_neg (by simp)]
 refine wpAny_binaryOp_repeat_ref (T := "list") (U := "int") (by decide) ⟨_, e, rfl⟩ (λs' => typeIs_int s' k t) noFill_list_mul F.fills_int_mul F.slot_int_rmul repeat_list F.slot_int_index.lookup
  (call_meets F.slot_int_rmul (typeIs_int s k t) F.entry_int_rmul (F.args_int_rmul_2 _ _) (int___rmul___int_list k t l its.toArray n)
   ⟨e,rfl,⟨_,e,rfl⟩,call_meets F.slot_list_mul ⟨_,e,rfl⟩ F.entry_list_mul (F.args_list_mul_2 _ _) (AutoListH.list___mul___list_int_3 l its.toArray n k t hfit hcap hlong) ⟨e,?_⟩⟩)
 rw [hnew];exact ⟨.ref _,_,I.lnew (t':=s.toks) (r.rep k.toNat) (by rw [len_rep,Nat.mul_comm];exact hz),rfl,q _ I.fresh⟩
end
end L2
namespace Att
open PySem PySem.W PySem.Calls PyProof.Rows
theorem qZ {P:Params} {h:Heap}:∀ (ns:List Int) (vs:List Value),WellAll P h vs (ns.map WData.int)->IntsAre vs ns:=by
 intro ns
 induction ns with
 | nil =>
  intro vs w;rw [List.map_nil] at w;cases w;exact .nil
 | cons n ns ih =>
  intro vs w;rw [List.map_cons] at w;cases w with
  | cons a b =>
   cases a;exact .cons _ _ (ih _ b)
theorem jbr {l:OpenLaw} {n:Nat} (hn:l.most=some n) {P:Params} {h:Heap} {args:List WData} {vals:List Value}
  (hpre:l.row.toRowW.claim.pre args=true) (hwl:WellAll P h vals args) :
  ∃ a vs ns,vals=[Value.ref a]/\args=[WData.list (ns.map WData.int)]/\h.get? a=some { cls:=.type "list",data:=.seq vs.toArray }/\IntsAre vs ns/\ns.length<=n:=by
 have hsh:WShape.hasAll [] args [.list .int]=true:=(pre_splitW hpre).1;have hc:l.pre.holds [] { args:=args }=true:=(pre_splitW hpre).2;obtain ⟨d,r,rfl,h1,h2⟩:=hasAllW_cons hsh;obtain rfl:=hasAllW_nil h2;obtain ⟨xs,rfl,h3⟩:=hasW_list h1;obtain ⟨ns,rfl⟩:=items_int h3
 have hlen:ns.length<=n:=by
  unfold OpenLaw.pre at hc
  have h4:(WTm.not (.lt (.lit (.int (n:Int))) (.len (.arg 0)))).holds [] { args:=[.list (ns.map .int)] }=true:=by
   have h4:=(holds_andW hc).1;rw [hn] at h4;exact h4
  have h5:=condW_of h4 (w_not (w_lt w_lit (w_len_list (w_arg rfl))));rw [wD] at h5;refine Nat.le_of_not_lt λq=>?_
  have q':(n:Int)<((ns.length:Nat):Int):=by omega
  first
   | (rw [decide_eq_true q'] at h5;exact absurd h5 (by decide))
   | (simp at h5;omega)
 cases hwl with
 | cons w1 w2 =>
  cases w2;cases w1 with
  | list ho hall=>exact ⟨_,_,ns,rfl,rfl,ho,qZ ns _ hall,hlen⟩
theorem zbs (l:OpenLaw) (args:List WData):l.row.toRowW.claim.post args (.bool true) args=true :=
 postW_of (r:=l.row.toRowW) (X:=(true==true))
  (show WShape.has [] (.bool true) .bool=true by first | rfl | decide | simp [WShape.has,WShape.arms,WShape.armsAll])
  (show (WTm.eq .res (.lit (.bool true))).value [] { args:=args,res:=some (.bool true),after:=args }=some (.bool (true==true)) from w_eq_bool (w_res rfl) w_lit) rfl
theorem attach_call {l:OpenLaw} {n:Nat} {q:Program} {loose:List Str} {XP:(Str->Option Value)->Heap->Prop} {YP:World->Heap->Prop} {d:DefRec}
  (hn:l.most=some n) (hdf:d.params.defaults=[])
  (call:∀ (w:World) (s₀ s₁:Shared) (mg mb:Str->Option Value) (fa:Addr) (o:Obj) (pm cd doc:Value) (a:Addr) (vs:List Value) (ns:List Int),
   Ground q loose [] XP w s₀ mg mb s₁.heap->YP w s₁.heap ->
   s₁.heap.get? fa=some o->o.data=.func (docDef d.name d.params d.body d.scope pm cd doc)->s₁.heap.CodeRec cd d.name->mg d.name=some (.ref fa) ->
   s₁.heap.get? a=some { cls:=.type "list",data:=.seq vs.toArray }->IntsAre vs ns->ns.length<=n->s₁.gens=#[] ->
   codeAny (model l.prog w) callerA (.call (.ref fa) ⟨[.ref a],[]⟩) (λr s'=>r=.ok (.ret (.bool true))/\OldK s₁.heap s'.heap/\s'.os=s₁.os/\AllBare s'.gens) s₁) :
  WalkO q loose XP YP l.row.toRowW d [] (λf vs=>PySem.call f vs):=by
 intro w s₀ s₁ mg mb G Y fa o pm cd doc dV kV ho hd hcd hD hmg hg args vals as hpre hlay hrd hwl hlo;obtain rfl:dV=.none:=Dflts.none hD hdf;obtain rfl:kV=.none:=Dflts.noKw hD;obtain ⟨a,vs,ns,rfl,rfl,hobj,hints,hlen⟩:=jbr hn hpre hwl;refine enter_call (codeAny_mono (call w s₀ s₁ mg mb fa o pm cd doc a vs ns G Y ho (fd_plain hd) hcd hmg hobj hints hlen hg) λr s' hq=>?_);obtain ⟨rfl,h2,h3,h4⟩:=hq;exact ⟨.inl ⟨.bool true,.bool true,[],rfl,λ_=>rfl,.bool true,zbs l _,λ_=>⟨List.Pairwise.nil,λ_ hm=>(nomatch hm)⟩⟩,h2,h3,h4⟩
end Att
namespace L2
open PySem PySem.Spec PyProof.Rows
theorem qN:∀ {vs:List Value} {ns:List Int},IntsAre vs ns->Vals (ns.map V.int) vs
 | _,_,.nil=>.nil
 | _,_,.cons n t h=>.cons ⟨t,rfl⟩ (qN h)
def jdn (H:Hp):Prop:=∀ b,H b=none\/(∃ o xs,H b=some (.frz o (.lst xs)))\/∃ p q,H b=some (.tbl p q)
theorem qcq {α:Type} {b:Addr} {y:α}:∀ {l:List (Addr×α)},l.lookup b=some y->(b,y)∈l
 | [],e=>by cases e
 | (c,x)::r,e=>by
  rw [List.lookup_cons] at e;cases hb:b==c with
  | true=>rw [hb] at e;cases e;rw [eq_of_beq hb];exact .head _
  | false=>rw [hb] at e;exact .tail _ (qcq e)
theorem zb5 {P:Program} {w:World} {K:Frag} {mg mb:Str->Option Value} {CX:CXT} {k:Nat} {fa a:Addr} {fd:FuncData} {x:Str} {sp:Sp} {s₁:Shared} {vs:List Value} {ns:List Int} {tabs:List (Addr×Pos×Str)}
  (hbm:∃ bm ob,mg "__builtins__"=some (.ref bm)/\bm≠builtinsNs/\s₁.heap.get? bm=some ob/\ob.cls=.type "module"/\ob.dict=some builtinsNs/\ob.data=.plain) (hT:∀ x∈tabs,s₁.heap.get? x.1=some (PySem.W.tabObj #[])/\∃ c,PySem.W.CodeHd s₁.heap c x.1) (hnt:PySem.W.noTabs K=true) (hlk:∀ x∈tabs,tabs.lookup x.1=some x.2)
  (KX:K.In s₁.heap) (hns:s₁.heap.Ns mainGlobals mg) (hb:s₁.heap.Ns builtinsNs mb) (hbb:∀ x:Str,x≠"__name__"->mb x=bootBuiltins x) (hlim:s₁.heap.NoLimit) (hg:s₁.gens=#[])
  (ha:s₁.heap.get? a=some { cls:=.type "list",data:=.seq vs.toArray }) (hi:IntsAre vs ns) (hl:ns.length<=sizeLine) (hr:Room k callerA)
  (F:∀ base:Heap,K.In base->base.Ns mainGlobals mg->FnOk P w K mg base CX k fa fd [x] sp) (hbind:∀ (s:Shared) (u:Value),BindsTo s fd ⟨[u],[]⟩ [(x,u)])
  (hsp:∀ H:Hp,jdn H->SqL K H a (ns.map V.int)->(∀ x∈tabs,H x.1=some (.tbl x.2.1 x.2.2))->sp [.ref a] H (λv _=>v=.bl true) λ_ _ _=>False)
  (hCX:∀ H e s',CX [] H s₁ (λ_ _ _=>False) e s'->False) :
  codeAny (model P w) callerA (.call (.ref fa) ⟨[.ref a],[]⟩) (λr s'=>r=.ok (.ret (.bool true))/\OldK s₁.heap s'.heap/\s'.os=s₁.os/\AllBare s'.gens) s₁:=by
 have rv:=qN hi;have lenV:=hi.length
 have core:∀ H:Hp,jdn H->SqL K H a (ns.map V.int)->(∀ x∈tabs,H x.1=some (.tbl x.2.1 x.2.2))->HOk P w H s₁.heap->(∀ b,H b≠none->b=a\/∃ x∈tabs,b=x.1)->(H a≠none->K.lookup a=none) ->
   codeAny (model P w) callerA (.call (.ref fa) ⟨[.ref a],[]⟩) (λr s'=>r=.ok (.ret (.bool true))/\OldK s₁.heap s'.heap/\s'.os=s₁.os/\AllBare s'.gens) s₁:=by
  intro H hO hS hTt hok hA hK;have base_of:∀ {b:Addr} {o:Obj},s₁.heap.get? b=some o->H b=none->(zb3 s₁.heap H).get? b=some o:=λe n=>qb3 e n
  have noA:∀ {b:Addr} {o:Obj} {es:Array DictEntry} {ep:Nat},s₁.heap.get? b=some o->o.data=.dict es ep->H b=none:=λ{b o es ep} e d=>by
   cases q:H b with
   | none=>rfl
   | some u =>
    rcases hA b (by rw [q];simp) with e' | ⟨x,hx,e'⟩
    ·subst e';rw [ha] at e;cases e
     have d':Data.seq vs.toArray _=Data.dict es ep:=d;cases d'
    ·subst e';rw [(hT x hx).1] at e;cases e
     cases d
  have nsK:∀ {b:Addr} {m:Str->Option Value},s₁.heap.Ns b m->(zb3 s₁.heap H).Ns b m:=λ{b m} ⟨o,es,ep,e,d,r⟩=>⟨o,es,ep,base_of e (noA e d),d,r⟩
  have hKb : K.In (zb3 s₁.heap H) := λb o e => base_of (KX b o e) (by
   cases q:H b with
   | none=>rfl
   | some u =>
    rcases hA b (by rw [q];simp) with e' | ⟨x,hx,e'⟩
    ·subst e';rw [hK (by rw [q];simp)] at e;cases e
    ·subst e';have e2:=KX _ _ e;rw [(hT x hx).1] at e2;cases e2
     exact absurd (show false=true from List.all_eq_true.mp hnt (_,_) (PySem.W.mem_of_lookupK e)) wA)
  have hM : Mod K mg (zb3 s₁.heap H) := ⟨hKb, nsK hns, ⟨mb, nsK hb, hbb⟩, let ⟨mc, h1, h2⟩ := hlim; ⟨mc, nsK h1, h2⟩, by
   obtain ⟨bm,ob,b1,b2,b3,b4,b5⟩:=hbm;refine ⟨bm,ob,b1,b2,base_of b3 ?_,b4,b5⟩;cases q:H bm with
   | none=>rfl
   | some u =>
    rcases hA bm (by rw [q];simp) with e' | ⟨x,hx,e'⟩
    ·rw [e',ha] at b3;cases b3;injection b4 with h;exact absurd h (by decide)
    ·rw [e',(hT x hx).1] at b3;cases b3;cases b4⟩
  have e0:Env0 P w K mg (zb3 s₁.heap H) callerA [] s₁ H:=⟨rfl,hM,λb o e=>qcD e,Nat.le_of_eq (jbm _ _),trivial,λb hb=>absurd (show b∈([]:List Addr) from hb) (by simp),hok,.of_eq hg⟩;refine codeAny_mono ((F _ hKb (nsK hns)).run callerA [] s₁ H ⟨[.ref a],[]⟩ [.ref a] [.ref a] _ _ hr e0 (hbind s₁ (.ref a)) (.cons rfl .nil) (hsp H hO hS hTt)) λr s' h=>?_
  cases r with
  | error e=>exact (hCX H e s' h).elim
  | ok fl =>
   cases fl with
   | next=>exact False.elim h
   | brk=>exact False.elim h
   | cont=>exact False.elim h
   | ret u =>
    obtain ⟨v,H',os,bare,un,hok',r',q⟩:=h;have q':v=.bl true:=q;subst q';obtain rfl:u=Value.bool true:=r'
    have all:∀ b o,s₁.heap.get? b=some o->s'.heap.get? b=some o\/(PySem.isCodeTable s₁.heap b/\o=PySem.W.tabObj #[]/\∃ ps,s'.heap.get? b=some (PySem.W.tabObj ps)):=λb o e=>by
     cases q:H b with
     | none=>exact .inl (un.keep b o e q (by intro z;exact absurd (show b∈([]:List Addr) from z) (by simp)) (by simp))
     | some u =>
      rcases hO b with z | ⟨ob,xs,z⟩ | ⟨p,r,z⟩
      ·rw [q] at z;cases z
      ·have z2:=un.frzs b ob _ z;obtain ⟨e1,_⟩:=hok b _ z;obtain ⟨e2,_⟩:=hok' b _ z2;rw [e] at e1;cases e1
       exact .inl e2
      ·right
       obtain ⟨ps0,e1,_⟩:=hok b _ z;obtain ⟨ps,e2,_⟩:=hok' b _ (un.tbls b p r z);rcases hA b (by rw [q];simp) with e' | ⟨x,hx,e'⟩
       ·rw [e',ha] at e1;cases e1
       ·obtain ⟨h1,c,h2⟩:=hT x hx;rw [<-e'] at h1 h2;rw [e] at h1;exact ⟨(h2.tab (e.trans h1)).isCodeTable,wB h1,ps,e2⟩
    refine ⟨rfl,⟨λb o e=>?_,λb o e=>?_⟩,os,bare⟩
    ·rcases all b o e with z | ⟨h1,rfl,ps,h2⟩
     ·exact .inl z
     ·exact .inr (.inl ⟨h1,rfl,#[],ps,rfl,by rw [Array.empty_append];exact h2⟩)
    ·rcases all b o e with z | ⟨_,_,ps,h2⟩
     ·exact ⟨o,z⟩
     ·exact ⟨_,h2⟩
 have na:∀ x∈tabs,x.1≠a:=λx hx z=>by have:=(hT x hx).1;rw [z,ha] at this;cases this
 have tl:∀ {b:Addr} {y:Pos×Str},tabs.lookup b=some y->(b,y)∈tabs:=λ{b y} e=>qcq e
 have tok:∀ (H:Hp) (b:Addr) (y:Pos×Str),tabs.lookup b=some y->ObjOk P w H s₁.heap b (.tbl y.1 y.2):=λH b y e=>⟨#[],(hT _ (tl e)).1,trivial,λcv z=>by cases z⟩
 cases hk:K.lookup a with
 | some o =>
  have e:=KX a o hk;rw [ha] at e;cases e;refine core (λb=>(tabs.lookup b).map λy=>.tbl y.1 y.2) (λb=>?_) (.inr ⟨_,vs.toArray,_,hk,rfl,rfl,rfl,by rw [vj,lenV];exact hl,by simpa using rv⟩) (λx hx=>?_) (λb u z=>?_) (λb z=>?_) λz=>?_
  ·cases q:tabs.lookup b with
   | none=>exact .inl (by dsimp only;rw [q];rfl)
   | some y=>exact .inr (.inr ⟨y.1,y.2,by dsimp only;rw [q];rfl⟩)
  ·show (tabs.lookup x.1).map _=_;rw [hlk x hx];rfl
  ·have z':(tabs.lookup b).map (λy=>HO.tbl y.1 y.2)=some u:=z;cases q:tabs.lookup b with
   | none=>rw [q] at z';cases z'
   | some y=>rw [q] at z';cases z';exact tok _ b y q
  ·have z':(tabs.lookup b).map (λy=>HO.tbl y.1 y.2)≠none:=z;cases q:tabs.lookup b with
   | none=>rw [q] at z';exact absurd rfl z'
   | some y=>exact .inr ⟨_,tl q,rfl⟩
  ·have z':(tabs.lookup a).map (λy=>HO.tbl y.1 y.2)≠none:=z;cases q:tabs.lookup a with
   | none=>rw [q] at z';exact absurd rfl z'
   | some y=>exact absurd rfl (na _ (tl q))
 | none =>
  refine core (λb=>if b=a then some (.frz { cls:=.type "list",data:=.seq vs.toArray } (.lst (ns.map V.int))) else (tabs.lookup b).map λy=>.tbl y.1 y.2) (λb=>?_) (.inl (.inr ⟨{ cls:=.type "list",data:=.seq vs.toArray },if_pos rfl⟩)) (λx hx=>?_) (λb u z=>?_) (λb z=>?_) λ_=>hk
  ·by_cases hb:b=a
   ·exact .inr (.inl ⟨_,_,if_pos hb⟩)
   ·cases q:tabs.lookup b with
    | none=>exact .inl (by dsimp only;rw [if_neg hb,q];rfl)
    | some y=>exact .inr (.inr ⟨y.1,y.2,by dsimp only;rw [if_neg hb,q];rfl⟩)
  ·show (if x.1=a then _ else _)=_;rw [if_neg (na x hx),hlk x hx];rfl
  ·by_cases hb:b=a
   ·have z':=(if_pos hb).symm.trans z;cases z';subst hb;exact ⟨ha,by rw [wD];exact hl,vs,_,rv,ha⟩
   ·have z':=(if_neg hb).symm.trans z;cases q:tabs.lookup b with
    | none=>rw [q] at z';cases z'
    | some y=>rw [q] at z';cases z';exact tok _ b y q
  ·by_cases hb:b=a
   ·exact .inl hb
   ·have z':(tabs.lookup b).map (λy=>HO.tbl y.1 y.2)≠none:=λw=>z ((if_neg hb).trans w)
    cases q:tabs.lookup b with
    | none=>rw [q] at z';exact absurd rfl z'
    | some y=>exact .inr ⟨_,tl q,rfl⟩
noncomputable abbrev KOf {K:Frag} {h:Heap} (_:K.In h):Frag:=K
theorem jcH {l:PySem.W.OpenLaw} {n k:Nat} {q:Program} {loose:List Str} {XP:(Str->Option Value)->Heap->Prop} {YP:World->Heap->Prop} {d:DefRec} {K:Params->Frag} {CX:World->CXT} {sp:World->Sp} {x:Str} {tabs:List (Addr×Pos×Str)}
  (hn:l.most=some n) (hn2:n<=sizeLine) (hdf:d.params.defaults=[]) (hr:Room k callerA)
  (hY:∀ (w:World) (h:Heap),YP w h->(K w.params).In h/\∀ x∈tabs,h.get? x.1=some (PySem.W.tabObj #[])) (hlk:∀ x∈tabs,tabs.lookup x.1=some x.2)
  (F:∀ (w:World) (mg:Str->Option Value) (fa:Addr) (h:Heap),(K w.params).In h->h.Ns mainGlobals mg->mg d.name=some (.ref fa) ->
   ∃ fd:FuncData,(∀ (s:Shared) (u:Value),BindsTo s fd ⟨[u],[]⟩ [(x,u)])/\(PySem.W.noTabs (K w.params)=true/\∀ x∈tabs,∃ c,PySem.W.codeHdIn (K w.params) c x.1=true) /\
    ∀ base:Heap,(K w.params).In base->base.Ns mainGlobals mg->FnOk l.prog w (K w.params) mg base (CX w) k fa fd [x] (sp w))
  (hsp:∀ (w:World) (H:Hp) (a:Addr) (ns:List Int),ns.length<=n->jdn H->SqL (K w.params) H a (ns.map V.int)->(∀ x∈tabs,H x.1=some (.tbl x.2.1 x.2.2))->sp w [.ref a] H (λv _=>v=.bl true) λ_ _ _=>False)
  (hCX:∀ (w:World) (H:Hp) (s:Shared) (e:Value) (s':Shared),CX w [] H s (λ_ _ _=>False) e s'->False) :
  PySem.W.WalkO q loose XP YP l.row.toRowW d [] (λf vs=>PySem.call f vs):=by
 refine Att.attach_call hn hdf λw s₀ s₁ mg mb fa o pm cd doc a vs ns G Y ho hd hcd hmg hobj hints hlen hg=>?_
 obtain ⟨KX,hT0⟩:=hY w _ Y;obtain ⟨fd,hb,⟨hnt,hT1⟩,hF⟩:=F w mg fa _ KX G.T.g hmg;exact zb5 G.T.bmain (λx hx=>⟨hT0 x hx,let ⟨c,e⟩:=hT1 x hx;⟨c,PySem.W.codeHd_of_K KX e⟩⟩) hnt hlk KX G.T.g G.T.b G.T.builtins G.T.nolimit hg hobj hints (wQ hlen hn2) hr hF hb (λH hO hS hTt=>hsp w H a ns hlen hO hS hTt) λH e s'=>hCX w H s₁ e s'
theorem qb5 {l:PySem.W.OpenLaw} {n k:Nat} {q:Program} {loose:List Str} {XP:(Str->Option Value)->Heap->Prop} {YP:World->Heap->Prop} {d:DefRec} {K:Params->Frag} {CX:CXT} {sp:Frag->Sp} {x:Str} {tabs:List (Addr×Pos×Str)}
  (hn:l.most=some n) (hn2:n<=sizeLine) (hdf:d.params.defaults=[]) (hr:Room k callerA)
  (hY:∀ (w:World) (h:Heap),YP w h->(K w.params).In h/\∀ x∈tabs,h.get? x.1=some (PySem.W.tabObj #[])) (hlk:∀ x∈tabs,tabs.lookup x.1=some x.2)
  (F:∀ (w:World) (mg:Str->Option Value) (fa:Addr) (h:Heap),(K w.params).In h->h.Ns mainGlobals mg->mg d.name=some (.ref fa) ->
   ∃ fd:FuncData,(∀ (s:Shared) (u:Value),BindsTo s fd ⟨[u],[]⟩ [(x,u)])/\(PySem.W.noTabs (K w.params)=true/\∀ x∈tabs,∃ c,PySem.W.codeHdIn (K w.params) c x.1=true) /\
    ∀ base:Heap,(K w.params).In base->base.Ns mainGlobals mg->FnOk l.prog w (K w.params) mg base CX k fa fd [x] (sp (K w.params)))
  (hsp:∀ (K:Frag) (H:Hp) (a:Addr) (ns:List Int),ns.length<=n->jdn H->SqL K H a (ns.map V.int)->(∀ x∈tabs,H x.1=some (.tbl x.2.1 x.2.2))->sp K [.ref a] H (λv _=>v=.bl true) λ_ _ _=>False)
  (hCX:∀ (H:Hp) (s:Shared) (e:Value) (s':Shared),CX [] H s (λ_ _ _=>False) e s'->False) :
  PySem.W.WalkO q loose XP YP l.row.toRowW d [] (λf vs=>PySem.call f vs) :=
 jcH (K:=K) (CX:=λ_=>CX) (sp:=λw=>sp (K w.params)) hn hn2 hdf hr hY hlk F (λw H a ns h1 h2 h3 h4=>hsp (K w.params) H a ns h1 h2 h3 h4) λ_ H s e s'=>hCX H s e s'
noncomputable def yw (s:Stmt):Arguments:=match s with
 | .FunctionDef _ a _ _ _ _ _ _ _ _=>a
 | _=>{ posonlyargs:=[],args:=[],vararg:=none,kwonlyargs:=[],kw_defaults:=[],kwarg:=none,defaults:=[] }
noncomputable def jz (s:Stmt):List Stmt:=match s with
 | .FunctionDef _ _ b _ _ _ _ _ _ _=>b
 | _=>[]
noncomputable def yd (s:Stmt):Scope:=match s with
 | .FunctionDef _ _ _ _ _ _ sc _ _ _=>sc
 | _=>{ kind:=.function,names:=[],isGenerator:=false,isCoroutine:=false }
abbrev CX0:CXT:=λ_ _ _ _ _ _=>False
abbrev E0:XK:=λ_ _ _=>False
theorem yd1 {X:Cx}:qbq CX0 X E0:=λ_ _ _ _ _ _ _ h=>h.elim
structure Fun (K:Frag) (x qual:Str) (st:Stmt) (f:Addr) (fd:FuncData):Prop where
 ex:∃ (oc:Value) (od:Option Addr) (kV doc pm:Value) (an:Option Addr) (cdv ct:Value) (osl:Array (Option Value)),
  fd=PySem.W.fnOf x qual (yw st) (jz st) (yd st) .none kV doc pm an cdv ct/\K.lookup f=some ⟨oc,od,.func fd,osl⟩/\PySem.W.codeIn K cdv qual=true
 kp:PySem.W.keepIn K (.ref f)=true
section
variable {P:Program} {w:World} {K:Frag} {mg:Str->Option Value} {base:Heap}
theorem Fun.ok {x qual:Str} {st:Stmt} {f:Addr} {fd:FuncData} {N ps:List Str} {k:Nat} {sp:Sp} (F:Fun K x qual st f fd) (S:FnScope N ps (yd st)) (len:∀ vs H Q E,sp vs H Q E->vs.length=ps.length)
  (hbody:∀ (cdv:Value),fd.code=cdv->∀ (A:Around) (outer:List Env) (s:Shared) (H:Hp) (vs:List V) (Q:VK) (E:XK),Room k (A.deeper (envOfC qual (yd st) s.heap.objs.size f cdv))->sp vs H Q E ->
   ∃ t,PSs (qcG CX0 P w K mg base N qual (yd st) f cdv A outer s H E).nox (jz st) t/\t { nx:=λ_ H'=>Q .non H',rt:=Q } (start N vs) H):FnOk P w K mg base CX0 (k+1) f fd ps sp:=by
 obtain ⟨oc,od,kV,doc,pm,an,cdv,ct,osl,rfl,lk,hcd⟩:=F.ex;refine yd0 lk hcd S len λA outer s H vs Q E hr hsp=>?_
 obtain ⟨t,h,q⟩:=hbody cdv rfl A outer s H vs Q E hr hsp;exact ⟨t,h.nox,q⟩
theorem Fun.binds {x qual:Str} {st:Stmt} {f:Addr} {fd:FuncData} {ps:List Str} (F:Fun K x qual st f fd)
  (h:∀ (kV doc pm:Value) (an:Option Addr) (cdv ct:Value) (us:List Value),us.length=ps.length->bindArgs (PySem.W.fnOf x qual (yw st) (jz st) (yd st) .none kV doc pm an cdv ct) ⟨us,[]⟩=pure (ps.zip us)):Binds K fd ps []:=by
 obtain ⟨oc,od,kV,doc,pm,an,cdv,ct,osl,rfl,lk,hcd⟩:=F.ex;exact .all (h kV doc pm an cdv ct)
theorem zdo {x qual:Str} {st:Stmt} {f:Addr} {oc:Value} {od an:Option Addr} {osl:Array (Option Value)} {kV doc pm cdv ct:Value} (l:K.lookup f=some ⟨oc,od,.func (PySem.W.fnOf x qual (yw st) (jz st) (yd st) .none kV doc pm an cdv ct),osl⟩)
 (c:PySem.W.codeIn K cdv qual=true) (k:PySem.W.keepIn K (.ref f)=true):Fun K x qual st f (PySem.W.fnOf x qual (yw st) (jz st) (yd st) .none kV doc pm an cdv ct):=⟨⟨oc,od,kV,doc,pm,an,cdv,ct,osl,rfl,l,c⟩,k⟩
end
theorem qbs {n:Nat} (h:n<=1000):n<sizeLine:=Nat.lt_of_le_of_lt h (by decide)
theorem zcI {A B:Prop} (h:B):if false=true then A else B:=by
 rw [if_neg wA];exact h
theorem qcI {A B:Prop} (h:A):if true=true then A else B:=by
 rw [if_pos rfl];exact h
def Same (H H':Hp):Prop:=∀ b o,H b=some o->H' b=some o
theorem Same.refl (H:Hp):Same H H:=λ_ _ h=>h
theorem Same.trans {H H1 H2:Hp} (a:Same H H1) (b:Same H1 H2):Same H H2:=λc o h=>b c o (a c o h)
theorem Same.free {H H':Hp} (e:Same H H') {l:Addr} (h:H' l=Option.none):H l=Option.none:=by
 cases q:H l with
 | none=>rfl
 | some o =>
  rw [e l o q] at h;cases h
section
variable {κ:Type} [DecidableEq κ]
noncomputable def ycq (kvs:List (κ×V)) (k:κ):Option V:=(kvs.find? λkv=>decide (kv.1=k)).map (·.2)
noncomputable def putK (kvs:List (κ×V)) (k:κ) (v:V):List (κ×V) :=
 if (kvs.any λkv=>decide (kv.1=k))=true then kvs.map (λkv=>if kv.1=k then (kv.1,v) else kv) else kvs++[(k,v)]
theorem jaZ {p:κ×V} {r:List (κ×V)} {k:κ} (e:p.1=k):ycq (p::r) k=some p.2:=by simp [ycq,List.find?_cons,e]
theorem za0 {p:κ×V} {r:List (κ×V)} {k:κ} (e:¬ p.1=k):ycq (p::r) k=ycq r k:=by simp [ycq,List.find?_cons,e]
theorem yaP (kvs:List (κ×V)) (k:κ) (v:V):(putK kvs k v).length<=kvs.length+1:=by
 unfold putK;split
 ·rw [wD];omega
 ·rw [wU];exact wC _
theorem RelO.isSome_eq {o:Option V} {u:Option Value} (r:RelO o u):o.isSome=u.isSome:=by
 cases o with
 | none=>cases u with
  | none=>rfl
  | some _=>exact (show False from r).elim
 | some _=>cases u with
  | none=>exact (show False from r).elim
  | some _=>rfl
theorem RelO.some_of' {v:V} {o:Option Value} (r:RelO (some v) o):∃ w,o=some w/\RelV v w:=by
 cases o with
 | none=>exact (show False from r).elim
 | some w=>exact ⟨w,rfl,r⟩
theorem Paired.snoc' {α β:Type} {F:α->β->Prop}:∀ {l:List α} {m:List β} {a:α} {b:β},Paired F l m->F a b->Paired F (l++[a]) (m++[b])
 | _,_,_,_,.nil,h=>.cons h .nil
 | _,_,_,_,.cons x r,h=>.cons x (Paired.snoc' r h)
theorem KV.val {kvs:List (κ×V)} {vs:List (κ×Value)} (r:KV kvs vs) (k:κ):RelO (ycq kvs k) (valueAt vs k):=by
 unfold KV at r
 induction r with
 | nil=>exact True.intro
 | @cons p q ps qs h t ih =>
  obtain ⟨h1,h2⟩:=h
  by_cases e:p.1=k
  ·have e':q.1=k:=h1.symm.trans e;have b:valueAt (q::qs) k=some q.2:=by simp [valueAt,List.find?_cons,e']
   rw [jaZ e,b];exact h2
  ·have e':¬ q.1=k:=λz=>e (h1.trans z)
   have b:valueAt (q::qs) k=valueAt qs k:=by simp [valueAt,List.find?_cons,e']
   rw [za0 e,b];exact ih
theorem KV.any {kvs:List (κ×V)} {vs:List (κ×Value)} (r:KV kvs vs) (k:κ):(kvs.any λkv=>decide (kv.1=k))=vs.any λkv=>decide (kv.1=k):=by
 unfold KV at r
 induction r with
 | nil=>rfl
 | cons h t ih=>rw [List.any_cons,List.any_cons,ih,h.1]
theorem KV.repl {kvs:List (κ×V)} {vs:List (κ×Value)} (r:KV kvs vs) (k:κ) {y:V} {u:Value} (ry:RelV y u) :
  KV (kvs.map λkv=>if kv.1=k then (kv.1,y) else kv) (vs.map λkv=>if kv.1=k then (kv.1,u) else kv):=by
 unfold KV at r ⊢
 induction r with
 | nil=>exact .nil
 | @cons p q ps qs h t ih =>
  rw [List.map_cons,List.map_cons];refine .cons ?_ ih;obtain ⟨h1,h2⟩:=h
  by_cases e:p.1=k
  ·rw [if_pos e,if_pos (h1.symm.trans e)];exact ⟨h1,ry⟩
  ·rw [if_neg e,if_neg (λz=>e (h1.trans z))];exact ⟨h1,h2⟩
theorem KV.put {kvs:List (κ×V)} {vs:List (κ×Value)} (r:KV kvs vs) (k:κ) {y:V} {u:Value} (ry:RelV y u):KV (putK kvs k y) (stored vs k u):=by
 unfold putK stored;rw [r.any k]
 by_cases e:(vs.any λkv=>decide (kv.1=k))=true
 ·rw [if_pos e,if_pos e];exact r.repl k ry
 ·rw [if_neg e,if_neg e];exact Paired.snoc' r ⟨rfl,ry⟩
theorem KV.length {kvs:List (κ×V)} {vs:List (κ×Value)} (r:KV kvs vs):kvs.length=vs.length:=Paired.length r
end
theorem ybs {P:Program} {w:World} {i:Int} {u:Value} (r:RelV (.int i) u):(yJ P w).is (.inl i) u=true:=by
 obtain ⟨t,e⟩:=(show ∃ t,u=Value.int i t from r);subst e;exact zaP P w i t
noncomputable def dkI (kvs:List (Int×Int)):List (Key×V):=kvs.map λp=>(.inl p.1,.int p.2)
theorem zX (i:Int):∀ kvs:List (Int×Int),ycq (dkI kvs) (.inl i)=(kvs.lookup i).map V.int
 | []=>rfl
 | (k,v)::r=>by
  have ih:=zX i r;rw [List.lookup_cons];show ycq ((Sum.inl k,V.int v)::dkI r) (.inl i)=_
  by_cases e:k=i
  ·subst e;rw [jaZ rfl];simp
  ·have e2:(i==k)=false:=by simpa using λz=>e z.symm
   rw [za0 (λz=>e (Sum.inl.inj z)),ih,e2]
theorem yb5 (kvs:List (Int×Int)) (i v:Int):putK (dkI kvs) (.inl i) (.int v)=dkI (Eng.jb0 kvs i v):=by
 have ea:((dkI kvs).any λkv=>decide (kv.1=(Sum.inl i:Key)))=kvs.any λp=>p.1==i:=by
  unfold dkI;rw [List.any_map];congr 1;funext p;show decide ((Sum.inl p.1:Key)=.inl i)=_;exact jco p.1 i
 unfold putK Eng.jb0;rw [ea];cases kvs.any λp=>p.1==i with
 | true =>
  rw [if_pos rfl,if_pos rfl];unfold dkI;rw [wJ,wJ];refine vh λp _=>?_
  show (if (Sum.inl p.1:Key)=.inl i then (Sum.inl p.1,V.int v) else (Sum.inl p.1,V.int p.2))=_
  by_cases e:p.1=i
  ·rw [if_pos (by rw [e])];show _=((Sum.inl (if p.1=i then (p.1,v) else p).1:Key),V.int (if p.1=i then (p.1,v) else p).2);rw [if_pos e]
  ·rw [if_neg (λz=>e (Sum.inl.inj z))];show _=((Sum.inl (if p.1=i then (p.1,v) else p).1:Key),V.int (if p.1=i then (p.1,v) else p).2);rw [if_neg e]
 | false =>
  rw [if_neg wA,if_neg wA];unfold dkI;rw [List.map_append];rfl
section
variable {X:Cx} {pins:List (Addr×Obj)} {σ:St} {H:Hp} {s:Shared} {a:Addr} {i:Int} {u:Value} {A:Around} {E:Value->Shared->Prop} {kvs:List (Int×Int)}
theorem jaP (I:Inv X pins σ H s) (e:H a=some (.dK (dkI kvs))):(dkI kvs).length<=sizeLine/\(a==sysModules)=false/\∃ vs,KV (dkI kvs) vs/\s.heap.DictOf (yJ X.prog X.w) a vs:=I.hok a _ e
theorem Inv.big (I:Inv X pins σ H s):sysModules<s.heap.objs.size:=by
 have h:mainGlobals<s.heap.objs.size:=(I.mod.glob.keeps I.bk).lt;exact Nat.lt_trans (by decide) h
theorem jbs {Q:Value->Shared->Prop} {v:Int} (I:Inv X pins σ H s) (e:H a=some (.dK (dkI kvs))) (l:kvs.lookup i=some v) (ry:RelV (.int i) u) (h:∀ w' s',Inv X pins σ H s'->RelV (.int v) w'->Q w' s') :
  wpAny (model X.prog X.w) A (getItem (.ref a) u) Q E s:=by
 obtain ⟨z,hd,vs,rel,dd⟩:=jaP I e;obtain ⟨w',hw,rw'⟩:=RelO.some_of' (v:=.int v) (o:=valueAt vs (.inl i)) (by have:=rel.val (.inl i);rw [zX,l] at this;exact this);exact wpAny_getItem_of (ybs ry) dd.mapOf hw (h w' _ (I.tok _) rw')
theorem jeq {Q:Value->Shared->Prop} (I:Inv X pins σ H s) (e:H a=some (.dK (dkI kvs))) (ry:RelV (.int i) u) (h:∀ s',Inv X pins σ H s'->Q (.bool (kvs.lookup i).isSome) s') :
  wpAny (model X.prog X.w) A (compareOp .In u (.ref a)) Q E s:=by
 obtain ⟨z,hd,vs,rel,dd⟩:=jaP I e;refine wpAny_in_of (ybs ry) hd dd.mapOf ?_;rw [<-(rel.val (.inl i)).isSome_eq,zX,Option.isSome_map];exact h _ (I.tok _)
theorem ycI {Q:Value->Shared->Prop} (I:Inv X pins σ H s) (e:H a=some (.dK (dkI kvs))) (ry:RelV (.int i) u) (h:∀ s',Inv X pins σ H s'->Q (.bool (!(kvs.lookup i).isSome)) s') :
  wpAny (model X.prog X.w) A (compareOp .NotIn u (.ref a)) Q E s:=by
 obtain ⟨z,hd,vs,rel,dd⟩:=jaP I e;refine wpAny_notIn_of (ybs ry) hd dd.mapOf ?_;rw [<-(rel.val (.inl i)).isSome_eq,zX,Option.isSome_map];exact h _ (I.tok _)
theorem zbt {Q:Unit->Shared->Prop} {v:Int} {r:Value} (I:Inv X pins σ H s) (e:H a=some (.dK (dkI kvs))) (hl:kvs.length<sizeLine) (ry:RelV (.int i) u) (rv:RelV (.int v) r) (h:∀ s',Inv X pins σ (upd H a (.dK (dkI (Eng.jb0 kvs i v)))) s'->Q () s') :
  wpAny (model X.prog X.w) A (setItem (.ref a) u r) Q E s:=by
 obtain ⟨z,hd,vs,rel,dd⟩:=jaP I e;have hz:vs.length<=sizeLine:=by rw [<-rel.length];exact z
 have hl':(putK (dkI kvs) (.inl i) (.int v)).length<=sizeLine:=by have:=yaP (dkI kvs) (.inl i) (.int v);simp [dkI] at this ⊢;omega
 refine wpAny_setItem_pairs (hsz:=hz) (ybs ry) dd λh' dd' hs=>h _ ?_
 have he:∃ q,h'.get? a=some q:=let ⟨q,_,_,hq,_⟩:=dd';⟨q,hq⟩
 rw [<-yb5];exact I.write (x:=a) (e:=a) (by rw [e];exact True.intro) (.inl rfl) (λb q hb z=>(hs.2 b hb).trans z) he ⟨hl',hd,_,rel.put (.inl i) rv,dd'⟩
theorem jb5 {Q:Value->Shared->Prop} (I:Inv X pins σ H s) (e:H a=some (.dK (dkI kvs))) (h:∀ p s',H p=none->Inv X pins σ (upd H p (.dK (dkI kvs))) s'->Q (.ref p) s'):wpAny (model X.prog X.w) A (call (.type "dict") [.ref a]) Q E s:=by
 obtain ⟨z,hd,vs,rel,dd⟩:=jaP I e;refine kt_call_dict hd dd (by rw [<-rel.length];exact z) λh' dd' hs=>?_
 refine h _ _ (I.hok.fresh (wC _)) (I.laid (a:=s.heap.objs.size) (o:=.dK (dkI kvs)) (t':=s.toks) (λb q hq=>?_) (wC _) ⟨z,wY.mpr (Ne.symm (wM I.big)),vs,rel,dd'⟩);exact (hs.2 b (wM (wz hq))).trans (wj _ hq)
end
theorem jd1 {X:Cx} {k v:Expr} {pos:Pos} {tk tv:TE} (hk:PE X k tk) (hv:PE X v tv):PE X (.Dict [some k] [v] pos) (λσ H Q=>∀ p,H p=none->tk σ (upd H p (.dK [])) λx H1=>tv σ H1 λy H2=>∃ i j,x=.int i/\y=.int j/\H2 p=some (.dK [])/\Q (.ref p) (upd H2 p (.dK (dkI [(i,j)])))):=by
 intro pins s σ H Q I q;have hn:=I.hok.fresh (wC s.heap.objs.size)
 have I1:=I.laid (a:=s.heap.objs.size) (o:=.dK (dkI [])) (h':=s.heap.push { cls:=.type "dict",data:=.dict #[] }) (t':=s.toks) (λ_ _ q=>wj _ q) (wC _)
  ⟨Nat.zero_le _,wY.mpr (Ne.symm (wM I.big)),[],.nil,Heap.DictOf.new s.heap⟩
 refine wpAny_Dict_walk (knd:=yJ X.prog X.w) rfl rfl (by simp) (by simp) (pairTrees_cons_walk (thn (hk pins _ σ _ _ I1 (q _ hn)) λu s1 ⟨x,H1,I1,rx,q1⟩=>thn (hv pins s1 σ H1 _ I1 q1) λw2 s2 ⟨y,H2,I2,ry,i,j,ex,ey,e,q2⟩=>pairTrees_nil_walk ?_));subst ex;subst ey
 obtain ⟨z,hd,vs0,r0,dd⟩:=jaP (kvs:=[]) I2 e;cases r0;refine ⟨[(.inl i,w2)],⟨ybs rx,rfl,True.intro⟩,dd,λh' dd' hs=>⟨.ref s.heap.objs.size,_,?_,rfl,q2⟩⟩;have he:∃ q,h'.get? s.heap.objs.size=some q:=let ⟨q,_,_,hq,_⟩:=dd';⟨q,hq⟩
 exact I2.write (x:=s.heap.objs.size) (e:=s.heap.objs.size) (by rw [e];exact True.intro) (.inl rfl) (λb q hb z=>(hs.2 b hb).trans z) he ⟨(show 1<=sizeLine by rw [sizeLine_eq];decide),hd,_,.cons ⟨rfl,ry⟩ .nil,dd'⟩
end L2
end
section
namespace Eng
open PySem
section
variable {C:Tab} {ρ:En} {a b c:Code} {cs:Codes}
theorem qdo {d:D}:ev C (.cst d) ρ=some d:=rfl
theorem qbt {i:Nat}:ev C (.var i) ρ=(ρ[i]?).join:=rfl
theorem jcq {op:Operator}:ev C (.bin op a b) ρ=(ev C a ρ).bind λx=>(ev C b ρ).bind λy=>qM op x y:=rfl
theorem ydo:ev C (.neg a) ρ=(ev C a ρ).bind λx=>match x with | .int i=>some (.int (-i)) | _=>none:=rfl
theorem zcr:ev C (.not a) ρ=(ev C a ρ).bind λx=>(truO x).map λk=>.bl (!k):=rfl
theorem ybt:ev C (.and a b) ρ=(ev C a ρ).bind λx=>match x with | .bl true=>ev C b ρ | .bl false=>some (.bl false) | _=>none:=rfl
theorem jcI:ev C (.or a b) ρ=(ev C a ρ).bind λx=>match x with | .bl false=>ev C b ρ | .bl true=>some (.bl true) | _=>none:=rfl
theorem jdo:ev C (.ite c a b) ρ=(ev C c ρ).bind λx=>(truO x).bind λk=>if k then ev C a ρ else ev C b ρ:=rfl
theorem qcr {op:CmpOp}:ev C (.cmp op a b) ρ=(ev C a ρ).bind λx=>(ev C b ρ).bind λy=>(yC op x y).map D.bl:=rfl
theorem zdp {op op':CmpOp}:ev C (.chn op op' a b c) ρ=(ev C a ρ).bind λx=>(ev C b ρ).bind λy=>(yC op x y).bind λt =>
 if t then (ev C c ρ).bind λz=>(yC op' y z).map D.bl else some (.bl false):=rfl
theorem ycr:ev C (.tup cs) ρ=(evs C cs ρ).bind λxs=>if xs.length<=sizeLine then some (.tup xs) else none:=rfl
theorem jcr:ev C (.lst cs) ρ=(evs C cs ρ).bind λxs=>if xs.length<=sizeLine then some (.lst xs) else none:=rfl
theorem zcs:ev C (.idx a b) ρ=(ev C a ρ).bind λx=>(ev C b ρ).bind λy=>jam x y:=rfl
theorem qcs {lo hi:OCode}:ev C (.slc a lo hi) ρ=(ev C a ρ).bind λx=>(evO C lo ρ).bind λl=>(evO C hi ρ).bind λh=>jcC x l h:=rfl
theorem qdp:ev C (.rev a) ρ=(ev C a ρ).bind revD:=rfl
theorem yZ {f:Nat}:ev C (.call f cs) ρ=(evs C cs ρ).bind λxs=>C f xs:=rfl
theorem qa0 {f:Blt}:ev C (.blt f cs) ρ=(evs C cs ρ).bind λxs=>yz f xs:=rfl
theorem ycs {t:Ty}:ev C (.isi a t) ρ=(ev C a ρ).bind λx=>ydR x t:=rfl
noncomputable def turn (C:Tab) (e:Code) (t:Tgt) (n:Nat) (keep:List Nat) (c:OCode) (ρ:En) (d:D):Option (Option D) :=
 (jay t d (yj n keep ρ)).bind λρ'=>(evT C c ρ').bind λk=>if k then (ev C e ρ').map some else some none
theorem jbt {e:Code} {t:Tgt} {n:Nat} {keep:List Nat} {it:Iter} {c:OCode}:ev C (.comp e t n keep it c) ρ=(evI C it ρ).bind λds=>(gather (turn C e t n keep c ρ) ds).map D.lst:=rfl
theorem ydp {b:Blt} {it:Iter}:ev C (.ofi b it) ρ=(evI C it ρ).bind λds=>match b with | .list=>some (.lst ds) | .tuple=>some (.tup ds) | _=>none:=rfl
theorem jJ:evs C .nil ρ=some []:=rfl
theorem yh:evs C (.cons a cs) ρ=(ev C a ρ).bind λx=>(evs C cs ρ).map λxs=>x::xs:=rfl
theorem zb6:evO C .none ρ=some none:=rfl
theorem ya0:evO C (.some c) ρ=(ev C c ρ).bind λx=>match x with | .int i=>some (some i) | _=>none:=rfl
theorem qao:evT C .none ρ=some true:=rfl
theorem ja0:evT C (.some c) ρ=(ev C c ρ).bind truO:=rfl
theorem za1:evI C (.data c) ρ=(ev C c ρ).bind itemsD:=rfl
theorem zaQ:evI C (.rng cs) ρ=(evs C cs ρ).bind rngD:=rfl
theorem zbu:evI C (.enu c) ρ=(ev C c ρ).bind λx=>(itemsD x).map (qP 0):=rfl
theorem qbu:evI C (.zip a b) ρ=(ev C a ρ).bind λx=>(ev C b ρ).bind λy=>(itemsD x).bind λxs=>(itemsD y).map λys=>jaO xs ys:=rfl
end
section
variable {i j:Int}
theorem zd2:qM .Add (.int i) (.int j)=some (.int (i+j)):=rfl
theorem qd2:qM .Sub (.int i) (.int j)=some (.int (i-j)):=rfl
theorem qaC (h:ju i j=true):qM .Mult (.int i) (.int j)=some (.int (i*j)):=if_pos h
theorem qb6 (h:0<j/\j<1073741824):qM .FloorDiv (.int i) (.int j)=some (.int (i/j)):=if_pos h
theorem yb6 (h:0<j):qM .Mod (.int i) (.int j)=some (.int (i%j)):=if_pos h
theorem qa1 {xs ys:List D} (h:xs.length+ys.length<=sizeLine):qM .Add (.tup xs) (.tup ys)=some (.tup (xs++ys)):=if_pos h
theorem ya1 {xs ys:List D} (h:xs.length+ys.length<=sizeLine):qM .Add (.lst xs) (.lst ys)=some (.lst (xs++ys)):=if_pos h
theorem ja1 {xs:List D} (h:xs.length*j.toNat<=sizeLine/\-(2^63)<=j/\j<2^63):qM .Mult (.tup xs) (.int j)=some (.tup (zco j.toNat xs)):=if_pos h
theorem jcs {x y:D} (h:zC x y=true):yC .Eq x y=some (eqD x y):=if_pos (by rw [h,Bool.or_true])
theorem zct {x y:D} (h:zC x y=true):yC .NotEq x y=some (!eqD x y):=if_pos (by rw [h,Bool.or_true])
theorem zer:yC .Lt (.int i) (.int j)=some (decide (i<j)):=rfl
theorem qer:yC .LtE (.int i) (.int j)=some (decide (i<=j)):=rfl
theorem yer:yC .Gt (.int i) (.int j)=some (decide (j<i)):=rfl
theorem jer:yC .GtE (.int i) (.int j)=some (decide (j<=i)):=rfl
theorem yd2 {xs:List D}:jam (.tup xs) (.int i)=atI xs i:=rfl
theorem jd2 {xs:List D}:jam (.lst xs) (.int i)=atI xs i:=rfl
theorem zd3 {xs:List Int}:jam (.scr xs) (.int i)=(atI xs i).map D.int:=rfl
theorem qd3:truO .non=some false:=rfl
theorem zes {b:Bool}:truO (.bl b)=some b:=rfl
theorem yd3:truO (.int i)=some (i != 0):=rfl
theorem jd3 {xs:List D}:truO (.tup xs)=some (!xs.isEmpty):=rfl
theorem zd4 {xs:List D}:truO (.lst xs)=some (!xs.isEmpty):=rfl
theorem zk {xs:List D}:yz .len [.tup xs]=some (.int xs.length):=rfl
theorem yD {xs:List D}:yz .len [.lst xs]=some (.int xs.length):=rfl
theorem ybu {xs:List Int}:yz .len [.scr xs]=some (.int xs.length):=by simp [yz,jdV,itemsD]
theorem jbf {xs:List D}:yz .list [.tup xs]=some (.lst xs):=rfl
theorem zbg {xs:List D}:yz .list [.lst xs]=some (.lst xs):=rfl
theorem qaQ {xs:List D}:yz .tuple [.tup xs]=some (.tup xs):=rfl
theorem yaQ {xs:List D}:yz .tuple [.lst xs]=some (.tup xs):=rfl
theorem jb6 {b:Bool}:yz .int [.bl b]=some (.int (if b then 1 else 0)):=rfl
theorem jbu:yz .int [.int i]=some (.int i):=rfl
theorem jdp {sep:Str} {xs:List D}:yz .join [.str sep,.lst xs]=(strsOf xs).bind λts=>if (ts.map (·.length)).sum+ts.length*sep.length<=sizeLine then some (.str (Str.join sep ts)) else none:=rfl
theorem zbv {xs:List D}:itemsD (.tup xs)=some xs:=rfl
theorem qbv {xs:List D}:itemsD (.lst xs)=some xs:=rfl
theorem ybv {xs:List Int}:itemsD (.scr xs)=some (xs.map D.int):=rfl
end
section
variable {s:Sl} {ρ:List Sl} {x:Option D} {r:En} {d:D} {ds:List D} {n:Nat}
theorem zcJ:vP (s::ρ)=s.pure::vP ρ:=rfl
theorem qcJ:vA (s::ρ)=s.all::vA ρ:=rfl
theorem zdq:vP []=[]:=rfl
theorem qdq:vA []=[]:=rfl
theorem qes:(Sl.pu d).pure=some d:=rfl
theorem jes:(Sl.ow ds).pure=none:=rfl
theorem zet:Sl.un.pure=none:=rfl
theorem qet:(Sl.pu d).all=some d:=rfl
theorem yet:(Sl.ow ds).all=some (.lst ds):=rfl
theorem jet:Sl.un.all=none:=rfl
theorem ydq:(x::r)[0]?=some x:=rfl
theorem jdq:(x::r)[n+1]?=r[n]?:=rfl
theorem join_some:(some x).join=x:=rfl
theorem join_none:(none:Option (Option D)).join=none:=rfl
end
section
variable {C:Tab} {ρ ρ':List Sl} {e c:Code} {t:Tgt} {d:D} {ds:List D} {r a b:Stms} {i:Nat} {x:Option Fl}
theorem qag:exs C .nil ρ=some (.nx ρ):=rfl
theorem qg (h:ev C e (vP ρ)=some d) (h1:puT t d ρ=some ρ') (h2:exs C r ρ'=x):exs C (.cons (.set .pu t e) r) ρ=x:=by
 rw [exs,ex,h,wd,h1];exact h2
theorem yV (h:ev C e (vA ρ)=some (.lst ds)) (hn:yay ds=true) (h2:exs C r (ρ.set i (.ow ds))=x):exs C (.cons (.set .ow (.one i) e) r) ρ=x:=by
 rw [exs,ex,h,wd];show (if yay ds=true then some (Fl.nx (ρ.set i (.ow ds))) else none).bind _=x;rw [if_pos hn];exact h2
theorem zU (h:ev C e (vP ρ)=some d) (hi:ρ[i]?=some (.ow ds)) (hl:ds.length<sizeLine) (h2:exs C r (ρ.set i (.ow (ds++[d])))=x):exs C (.cons (.app i .pu e) r) ρ=x:=by
 rw [exs,ex];show ((ev C e (vP ρ)).bind _).bind _=x;rw [h,wd,hi];show (if ds.length<sizeLine then some (Fl.nx (ρ.set i (.ow (ds++[d])))) else none).bind _=x;rw [if_pos hl];exact h2
theorem ycJ (h:ev C e (vA ρ)=some d) (hi:ρ[i]?=some (.ow ds)) (hn:noL d=true) (hl:ds.length<sizeLine) (h2:exs C r (ρ.set i (.ow (ds++[d])))=x):exs C (.cons (.app i .cl e) r) ρ=x:=by
 rw [exs];show ((ev C e (vA ρ)).bind _).bind _=x;rw [h,wd,hi];show (if (noL d&&decide (ds.length<sizeLine))=true then some (Fl.nx (ρ.set i (.ow (ds++[d])))) else none).bind _=x;rw [hn,decide_eq_true hl];exact h2
theorem qr {k : Bool} (h : ev C c (vA ρ) = some d) (hk : truO d = some k) (h1 : k = true -> (exs C a ρ).bind (λf => match f with | .nx ρ' => exs C r ρ' | f => some f) = x)
  (h2:k=false->(exs C b ρ).bind (λf=>match f with | .nx ρ'=>exs C r ρ' | f=>some f)=x):exs C (.cons (.ite c a b) r) ρ=x:=by
 rw [exs,ex,h,wd,hk,wd];cases k with
 | true=>exact h1 rfl
 | false=>exact h2 rfl
theorem jo {it:Iter} (h:evI C it (vP ρ)=some ds) (h1:forL (λd ρ'=>(puT t d ρ').bind λρ''=>exs C b ρ'') ds ρ=some (.nx ρ')) (h2:exs C r ρ'=x):exs C (.cons (.for t it b) r) ρ=x:=by
 rw [exs,ex,h,wd,h1];exact h2
theorem qe (h:ev C e (vA ρ)=some d):exs C (.cons (.ret e) r) ρ=some (.rt d):=by
 rw [exs,ex,h];rfl
theorem qc {f:Def} (h:ds.length=f.p) (h2:exs C f.b (ds.map Sl.pu++List.replicate (f.n-f.p) .un)=some (.rt d)):jC C f ds=some d:=by
 rw [jC,if_pos h,h2];rfl
end
noncomputable def EA :=
 And.intro @qdo<|And.intro @qbt<|And.intro @jcq<|And.intro @ydo<|And.intro @zcr<|And.intro @ybt<|And.intro @jcI<|And.intro @jdo<|And.intro @qcr<|And.intro @zdp<|And.intro @ycr<|And.intro @jcr<|And.intro @zcs<|And.intro @qcs<|And.intro @qdp<|And.intro @yZ<|And.intro @qa0<|And.intro @ycs<|And.intro @jbt<|And.intro @ydp<|And.intro @jJ<|And.intro @yh<|And.intro @zb6<|And.intro @ya0<|And.intro @qao<|And.intro @ja0<|And.intro @za1<|And.intro @zaQ<|And.intro @zbu<|And.intro @qbu<|And.intro @zd2<|And.intro @qd2<|And.intro @zer<|And.intro @qer<|And.intro @yer<|And.intro @jer<|And.intro @yd2<|And.intro @jd2<|And.intro @zd3<|And.intro @qd3<|And.intro @zes<|And.intro @yd3<|And.intro @jd3<|And.intro @zd4<|And.intro @zk<|And.intro @yD<|And.intro @ybu<|And.intro @jbf<|And.intro @zbg<|And.intro @qaQ<|And.intro @yaQ<|And.intro @jb6<|And.intro @jbu<|And.intro @jdp<|And.intro @zbv<|And.intro @qbv<|And.intro @ybv<|And.intro @zcJ<|And.intro @qcJ<|And.intro @zdq<|And.intro @qdq<|And.intro @qes<|And.intro @jes<|And.intro @zet<|And.intro @qet<|And.intro @yet<|And.intro @jet<|And.intro @ydq<|And.intro @jdq<|And.intro @join_some<|@join_none
section
variable {prog:Program} {w:World} {A:Around} {E:Value->Shared->Prop} {s:Shared}
theorem yao {it l:Addr} {i:Nat} {items:Array Value} {x:Value} {Q:Value->Shared->Prop} (hit:s.heap.IsTupleIter it l i) (hl:s.heap.IsTuple l items) (hx:items[i]?=some x)
  (hQ:∀ h',h'.IsTupleIter it l (i+1)->Heap.SameBut it s.heap h'->Q x { s with heap:=h' }):wpAny (model prog w) A (Builtin.SmallTypes.nextOf (.ref it)) Q E s:=by
 obtain ⟨o,ho,hc,hd⟩:=id hit;obtain ⟨ol,hol,_,nl,hdl⟩:=hl;unfold Builtin.SmallTypes.nextOf;refine we (w8 (name:=Str.ofString "__next__") hit.typeIs F.slot_tuple_iterator_next (wW F.slot_tuple_iterator_next hit.typeIs F.entry_tuple_iterator_next ?_ (F.args_tuple_iterator_next_1 _)));show wpAny _ _ (field (.ref it) 0 >>= _) _ _ s;refine we (wpAny_field ho hd (x:=.ref l) rfl ?_);rw [if_neg (show ¬ ((Value.ref l==Value.none)=true) from wA)];refine we (wpAny_field ho hd (x:=.int i 0) rfl ?_);refine we (wpAny_seqItems hol hdl ?_);simp only [wV,hx];refine we (wpAny_setField ho hd (by simp) (wm ⟨x,rfl,wm (hQ _ ⟨_,Heap.get?_update_self _ ho (Obj.isFreed_of_fields (Obj.data_mapFields hd _)),(Obj.cls_mapFields ..).trans hc,?_⟩ (Heap.SameBut.update ..))⟩));rw [Obj.data_mapFields hd];simp [rawInt]
theorem yaC {it l:Addr} {i:Nat} {items:Array Value} {Q:Value->Shared->Prop} (hh:A.handled=none) (hit:s.heap.IsTupleIter it l i) (hl:s.heap.IsTuple l items) (hx:items[i]?=none)
  (hE:∀ h' e,Heap.ExtBut it s.heap h'->(∃ o,h'.get? e=some o/\o.cls=.type "StopIteration")->E (.ref e) { s with heap:=h' }):wpAny (model prog w) A (Builtin.SmallTypes.nextOf (.ref it)) Q E s:=by
 obtain ⟨o,ho,hc,hd⟩:=id hit;obtain ⟨ol,hol,_,nl,hdl⟩:=hl;unfold Builtin.SmallTypes.nextOf;refine we (w8 (name:=Str.ofString "__next__") hit.typeIs F.slot_tuple_iterator_next (wW F.slot_tuple_iterator_next hit.typeIs F.entry_tuple_iterator_next ?_ (F.args_tuple_iterator_next_1 _)));show wpAny _ _ (field (.ref it) 0 >>= _) _ _ s;refine we (wpAny_field ho hd (x:=.ref l) rfl ?_);rw [if_neg (show ¬ ((Value.ref l==Value.none)=true) from wA)];refine we (wpAny_field ho hd (x:=.int i 0) rfl ?_);refine we (wpAny_seqItems hol hdl ?_);simp only [wV,hx];refine we (wpAny_rule (we (wpAny_setField ho hd (by simp) (we ?_))));simp only [newExc,newTuple];refine we (vc (we (m:=firstArgMember _ _) (wpAny_of_eq (a:=Value.none) (by first | rfl | (simp only [firstArgMember];rfl)) (vc ?_ (by size_fits)))) (by size_fits));simp only [raiseNew];refine we (wpAny_handled ?_)
 first | rw [show A.in1.handled=none from hh] | rw [hh]
 exact we (wm (wpAny_throw (hE _ _ (((Heap.SameBut.update ..).extBut.push _).push _) ⟨_,wt _ rfl,rfl⟩)))
end
def SItr (t:Bool) (h:Heap) (it a:Addr) (i:Nat):Prop:=cond t (h.IsTupleIter it a i) (h.IsListIter it a i)
def SSeq (t:Bool) (h:Heap) (a:Addr) (items:Array Value):Prop:=cond t (h.IsTuple a items) (h.IsList a items)
theorem SItr.at {t:Bool} {h h':Heap} {it a:Addr} {i:Nat} (x:SItr t h it a i) (k:∀ o,h.get? it=some o->h'.get? it=some o):SItr t h' it a i:=by
 cases t<;>obtain ⟨o,ho,r⟩:=x<;>exact ⟨o,k o ho,r⟩
theorem SSeq.at {t:Bool} {h h':Heap} {a:Addr} {items:Array Value} (x:SSeq t h a items) (k:∀ o,h.get? a=some o->h'.get? a=some o):SSeq t h' a items:=by
 cases t<;>obtain ⟨o,ho,r⟩:=x<;>exact ⟨o,k o ho,r⟩
theorem SItr.ob {t:Bool} {h:Heap} {it a:Addr} {i:Nat} (x:SItr t h it a i):∃ o n,h.get? it=some o/\o.cls=.type n/\(n="tuple_iterator"\/n="list_iterator")/\o.data=.fields #[.ref a,.int i 0]:=by
 cases t
 ·obtain ⟨o,ho,hc,hd⟩:=x;exact ⟨o,_,ho,hc,.inr rfl,hd⟩
 ·obtain ⟨o,ho,hc,hd⟩:=x;exact ⟨o,_,ho,hc,.inl rfl,hd⟩
theorem SSeq.ob {t:Bool} {h:Heap} {a:Addr} {items:Array Value} (x:SSeq t h a items):∃ o n,h.get? a=some o/\o.cls=.type n/\(n="tuple"\/n="list"):=by
 cases t
 ·obtain ⟨o,ho,hc,_⟩:=x;exact ⟨o,_,ho,hc,.inr rfl⟩
 ·obtain ⟨o,ho,hc,_⟩:=x;exact ⟨o,_,ho,hc,.inl rfl⟩
theorem SSeq.ne_itr {t u:Bool} {h:Heap} {a b it:Addr} {i:Nat} {items:Array Value} (x:SSeq t h a items) (y:SItr u h it b i):a≠it:=λz=>by
 subst z;obtain ⟨o,n,ho,hc,hn⟩:=x.ob;obtain ⟨o',n',ho',hc',hn',_⟩:=y.ob;rw [ho] at ho';cases ho'
 rw [hc] at hc';cases hc'
 rcases hn with rfl | rfl<;>rcases hn' with z | z<;>simp at z
section
variable {prog:Program} {w:World} {A:Around} {E:Value->Shared->Prop} {s:Shared}
theorem jZ {t:Bool} {it a:Addr} {i:Nat} {items:Array Value} {x:Value} {Q:Value->Shared->Prop} (hit:SItr t s.heap it a i) (hl:SSeq t s.heap a items) (hx:items[i]?=some x)
  (hQ:∀ h',SItr t h' it a (i+1)->Heap.SameBut it s.heap h'->Q x { s with heap:=h' }):wpAny (model prog w) A (Builtin.SmallTypes.nextOf (.ref it)) Q E s:=by
 cases t
 ·exact wpAny_nextOf_list_item hit hl hx hQ
 ·exact yao hit hl hx hQ
theorem jbv {t:Bool} {it a:Addr} {i:Nat} {items:Array Value} {Q:Value->Shared->Prop} (hh:A.handled=none) (hit:SItr t s.heap it a i) (hl:SSeq t s.heap a items) (hx:items[i]?=none)
  (hE:∀ h' e,Heap.ExtBut it s.heap h'->(∃ o,h'.get? e=some o/\o.cls=.type "StopIteration")->E (.ref e) { s with heap:=h' }):wpAny (model prog w) A (Builtin.SmallTypes.nextOf (.ref it)) Q E s:=by
 cases t
 ·exact wpAny_nextOf_list_end hh hit hl hx hE
 ·exact yaC hh hit hl hx hE
theorem zA {t:Bool} {a:Addr} {items:Array Value} {Q:Value->Shared->Prop} (hl:SSeq t s.heap a items)
  (hQ:Q (.ref s.heap.objs.size) { s with heap:=s.heap.push { cls:=.type (cond t "tuple_iterator" "list_iterator"),data:=.fields #[.ref a,.int 0 0] } }):wpAny (model prog w) A (pyIter (.ref a)) Q E s:=by
 cases t
 ·exact wpAny_pyIter_list hl hQ
 ·exact wpAny_pyIter_tuple hl hQ
end
theorem SItr.fresh (t:Bool) (h:Heap) (a:Addr):SItr t (h.push { cls:=.type (cond t "tuple_iterator" "list_iterator"),data:=.fields #[.ref a,.int 0 0] }) h.objs.size a 0:=by
 cases t<;>exact ⟨_,wt _ rfl,rfl,rfl⟩
theorem za2 {prog:Program} {w:World} {A:Around} (hh:A.handled=none) (t:Bool) (it a:Addr) (hne:a≠it) (items:Array Value) :
  Draws prog w A it [it,a] items.size (λi v=>items[i]?=some v) (λi h=>SItr t h it a i/\SSeq t h a items) where
 live:=λ_ _ st=>let ⟨o,_,ho,_⟩:=st.1.ob;⟨o,ho⟩
 frame:=λ_ _ _ st hk=>⟨st.1.at λo e=>hk it (by simp) o e,st.2.at λo e=>hk a (by simp) o e⟩
 item:=λi s Q E hi st hQ=>by
  refine jZ st.1 st.2 (x:=items[i]) (by simp [hi]) λh' hit' hs'=>?_
  exact hQ _ h' s.toks (by simp [hi]) ⟨hit',st.2.at λo e=>hs'.extBut _ _ hne e⟩ hs'
 done:=λs Q E st hE=>jbv hh st.1 st.2 (by simp) hE
end Eng
end
section
namespace Eng
open PySem
open AutoSeq1 (wpAny_loadPart')
noncomputable abbrev itO (t:Bool) (a:Addr):Obj:={ cls:=.type (cond t "tuple_iterator" "list_iterator"),data:=.fields #[.ref a,.int 0 0] }
theorem zb7 (t:Bool) (a:Addr) (items:Array Value) :
  Meets (Builtin.«enumerate.__new__» ⟨[.type "enumerate",.ref a],[]⟩) (λ_ R s=>SSeq t s.heap a items /\
   R (.ok (.ret (.ref (s.heap.push (itO t a)).objs.size))) { s with heap:=(s.heap.push (itO t a)).push { cls:=.type "enumerate",data:=.fields #[.none,.bool false,.ref s.heap.objs.size,rawInt 0,.none,.none] } }) :=
 .of_wp λprog w A R s h=>by
  obtain ⟨hp,g,d,tk,os⟩:=s;obtain ⟨hl,h⟩:=h
  have hsub:=sub_enumerate;have hL:SSeq t (Shared.heap ⟨hp,g,d,tk,os⟩) a items:=hl
  wp_walk using zA hL
  refine wpAny_stack_any λst=>wm ?_
  split
  ·rename_i c _ _ _ _ _;cases (c==Value.type "enumerate")
   ·wp_walk using zA hL
    exact ⟨_,rfl,h⟩
   ·wp_walk using zA hL
    exact ⟨_,rfl,h⟩
  ·wp_walk using zA hL
   exact ⟨_,rfl,h⟩
noncomputable abbrev zpA (h:Heap) (t u:Bool) (a b:Addr):Heap:=(h.push (itO t a)).push (itO u b)
noncomputable abbrev zpB (h:Heap) (t u:Bool) (a b:Addr):Heap:=(zpA h t u a b).push { cls:=.type "tuple",data:=.seq #[.ref h.objs.size,.ref (h.push (itO t a)).objs.size] }
noncomputable abbrev zpC (h:Heap) (t u:Bool) (a b:Addr):Heap:=(zpB h t u a b).push { cls:=.type "tuple",data:=.seq #[.none,.none] }
noncomputable abbrev zpD (h:Heap) (t u:Bool) (a b:Addr):Heap:=(zpC h t u a b).push { cls:=.type "zip",data:=.fields #[.none,.bool false,.bool false,.ref (zpA h t u a b).objs.size,.ref (zpB h t u a b).objs.size] }
theorem jcJ (t u:Bool) (a b:Addr) (xs ys:Array Value) :
  Meets (Builtin.«zip.__new__» ⟨[.type "zip",.ref a,.ref b],[]⟩) (λ_ R s=>SSeq t s.heap a xs/\SSeq u s.heap b ys/\R (.ok (.ret (.ref (zpC s.heap t u a b).objs.size))) { s with heap:=zpD s.heap t u a b }) :=
 .of_wp λprog w A R s h=>by
  obtain ⟨hp,g,d,tk,os⟩:=s;obtain ⟨hl1,hl2,h⟩:=h
  have hsub:=sub_zip;have hL1:SSeq t (Shared.heap ⟨hp,g,d,tk,os⟩) a xs:=hl1;have hL2:SSeq u (Shared.heap ⟨hp.push (itO t a),g,d,tk,os⟩) b ys:=hl2.at λo e=>wj _ e
  wp_walk using zA hL1,zA hL2
  exact ⟨_,rfl,h⟩
section
variable {prog:Program} {w:World} {A:Around} {E:Value->Shared->Prop} {s:Shared}
theorem zbw {t:Bool} {a:Addr} {items:Array Value} {Q:Value->Shared->Prop} (hL:SSeq t s.heap a items)
  (h:∀ h',IsEnum h' (s.heap.objs.size+1) s.heap.objs.size 0 .none->SItr t h' s.heap.objs.size a 0->h'.objs.size=s.heap.objs.size+2->(∀ b o,s.heap.get? b=some o->h'.get? b=some o)->Q (.ref (s.heap.objs.size+1)) { s with heap:=h' }) :
  wpAny (model prog w) A (call (.type "enumerate") [.ref a]) Q E s:=by
 refine callType_new F.called_enumerate (by decide) (F.typeCall_enumerate_1 _) (F.newCall_enumerate_1 _) (λobj=>F.args_object_init_2 obj _) F.entry_enumerate_new (zb7 t a items) ⟨hL,?_⟩;have hz:(s.heap.push (itO t a)).objs.size=s.heap.objs.size+1:=Heap.size_push ..;obtain ⟨h1,e1⟩:∃ h1,h1=s.heap.push (itO t a):=⟨_,rfl⟩;have hi:SItr t h1 s.heap.objs.size a 0:=e1▸SItr.fresh t s.heap a;have hk:∀ b o,s.heap.get? b=some o->h1.get? b=some o:=λb o e=>e1▸wj _ e
 show _/\_;rw [<-e1] at hz ⊢;obtain ⟨o1,e2⟩:∃ o1:Obj,o1={ cls:=.type "enumerate",data:=.fields #[.none,.bool false,.ref s.heap.objs.size,rawInt 0,.none,.none] }:=⟨_,rfl⟩;have he:(h1.push o1).get? (s.heap.objs.size+1)=some o1:=by rw [<-hz];exact wt _ (by rw [e2];rfl)
 rw [<-e2,hz];refine ⟨⟨_,he,by rw [e2]⟩,h _ (by rw [e2] at he ⊢;exact he) (hi.at λo e=>wj _ e) (by rw [Heap.size_push,hz]) λb o x=>wj _ (hk b o x)⟩
theorem qb7 {t u:Bool} {a b:Addr} {xs ys:Array Value} {Q:Value->Shared->Prop} (hl1:SSeq t s.heap a xs) (hl2:SSeq u s.heap b ys)
  (h:∀ h',IsZip h' (s.heap.objs.size+4) (s.heap.objs.size+2) (s.heap.objs.size+3) .none->IsPair h' (s.heap.objs.size+2) (.ref s.heap.objs.size) (.ref (s.heap.objs.size+1))->IsPair h' (s.heap.objs.size+3) .none .none ->
   SItr t h' s.heap.objs.size a 0->SItr u h' (s.heap.objs.size+1) b 0->h'.objs.size=s.heap.objs.size+5->(∀ c o,s.heap.get? c=some o->h'.get? c=some o)->Q (.ref (s.heap.objs.size+4)) { s with heap:=h' }) :
  wpAny (model prog w) A (call (.type "zip") [.ref a,.ref b]) Q E s:=by
 refine callType_new F.called_zip (by decide) (F.typeCall_zip_2 _ _) (F.newCall_zip_2 _ _) (λobj=>F.args_object_init_3 obj _ _) F.entry_zip_new (jcJ t u a b xs ys) ⟨hl1,hl2,?_⟩;obtain ⟨n,hn⟩:∃ n,n=s.heap.objs.size:=⟨_,rfl⟩;rw [<-hn] at h;have s1:(s.heap.push (itO t a)).objs.size=n+1:=by rw [Heap.size_push,hn]
 obtain ⟨h1,e1⟩:∃ h1,h1=s.heap.push (itO t a):=⟨_,rfl⟩;have i1:SItr t h1 n a 0:=by rw [e1,hn];exact SItr.fresh t s.heap a
 have k1:∀ b o,s.heap.get? b=some o->h1.get? b=some o:=λb o e=>e1▸wj _ e
 rw [<-e1] at s1;obtain ⟨h2,e2⟩:∃ h2,h2=h1.push (itO u b):=⟨_,rfl⟩;have s2:h2.objs.size=n+2:=by rw [e2,Heap.size_push,s1]
 have i2:SItr u h2 (n+1) b 0:=by rw [e2,<-s1];exact SItr.fresh u h1 b
 have k2:∀ b o,h1.get? b=some o->h2.get? b=some o:=λb o e=>e2▸wj _ e
 obtain ⟨h3,e3⟩:∃ h3,h3=h2.push { cls:=.type "tuple",data:=.seq #[.ref n,.ref (n+1)] }:=⟨_,rfl⟩;have s3:h3.objs.size=n+3:=by rw [e3,Heap.size_push,s2]
 have g3:IsPair h3 (n+2) (.ref n) (.ref (n+1)):=by rw [e3,<-s2];exact wt _ rfl
 have k3:∀ b o,h2.get? b=some o->h3.get? b=some o:=λb o e=>e3▸wj _ e
 obtain ⟨h4,e4⟩:∃ h4,h4=h3.push { cls:=.type "tuple",data:=.seq #[.none,.none] }:=⟨_,rfl⟩;have s4:h4.objs.size=n+4:=by rw [e4,Heap.size_push,s3]
 have g4:IsPair h4 (n+3) .none .none:=by rw [e4,<-s3];exact wt _ rfl
 have k4:∀ b o,h3.get? b=some o->h4.get? b=some o:=λb o e=>e4▸wj _ e
 obtain ⟨h5,e5⟩:∃ h5,h5=h4.push { cls:=.type "zip",data:=.fields #[.none,.bool false,.bool false,.ref (n+2),.ref (n+3)] }:=⟨_,rfl⟩;have s5:h5.objs.size=n+5:=by rw [e5,Heap.size_push,s4]
 have g5:IsZip h5 (n+4) (n+2) (n+3) .none:=by rw [e5,<-s4];exact wt _ rfl
 have k5:∀ b o,h4.get? b=some o->h5.get? b=some o:=λb o e=>e5▸wj _ e
 show _/\_;have q4:zpC s.heap t u a b=h4:=by unfold zpC zpB zpA;rw [<-e1,<-hn,s1,<-e2,<-e3,<-e4]
 have q5:zpD s.heap t u a b=h5:=by unfold zpD zpC zpB zpA;rw [<-e1,<-hn,s1,<-e2,s2,<-e3,s3,<-e4,<-e5]
 rw [q4,s4,q5];exact ⟨⟨_,g5,rfl⟩,h h5 g5 (k5 _ _ (k4 _ _ g3)) (k5 _ _ g4) (i1.at λo e=>k5 _ _ (k4 _ _ (k3 _ _ (k2 _ _ e)))) (i2.at λo e=>k5 _ _ (k4 _ _ (k3 _ _ e))) s5 λc o e=>k5 _ _ (k4 _ _ (k3 _ _ (k2 _ _ (k1 _ _ e))))⟩
theorem yb7 {t u:Bool} {z TI TO i1 i2 a b:Addr} {k1 k2:Nat} {xs ys:Array Value} {x y p q:Value} {Q:Value->Shared->Prop} (D:ZipApart z TI TO i1 i2 a b)
  (hz:IsZip s.heap z TI TO .none) (hTI:IsPair s.heap TI (.ref i1) (.ref i2)) (hTO:IsPair s.heap TO p q)
  (h1:SItr t s.heap i1 a k1) (h2:SItr u s.heap i2 b k2) (hl1:SSeq t s.heap a xs) (hl2:SSeq u s.heap b ys) (hx:xs[k1]?=some x) (hy:ys[k2]?=some y)
  (hQ:∀ h',IsZip h' z TI TO (rawInt s.heap.objs.size)->IsPair h' TO x y->SItr t h' i1 a (k1+1)->SItr u h' i2 b (k2+1)->IsPair h' s.heap.objs.size x y->h'.objs.size=s.heap.objs.size+1 ->
   (∀ c o,c≠z->c≠TO->c≠i1->c≠i2->s.heap.get? c=some o->h'.get? c=some o)->Q (.ref s.heap.objs.size) { s with heap:=h' }) :
  wpAny (model prog w) A (Builtin.«zip.__next__» ⟨[.ref z],[]⟩) (λfin s'=>∃ v,fin=.done (.ret v)/\Q v s') E s:=by
 show wpAny _ _ (field (.ref z) 2 >>= _) _ _ _;refine we (wpAny_field hz rfl (x:=.bool false) rfl ?_);refine we (wpAny_field hz rfl (x:=.ref TI) rfl ?_);refine we (wpAny_seqItems hTI rfl ?_);show wpAny _ _ (Builtin.SmallTypes.ownedTupleIsFree (.ref z) >>= _) _ _ _;refine we ?_;unfold Builtin.SmallTypes.ownedTupleIsFree;refine we (wpAny_field hz rfl (x:=.none) rfl (wm ?_));simp only [if_true];refine we (wpAny_rule (we (wpAny_field hz rfl (x:=.ref TO) rfl (we (wX hz (by simp) λha za sa=>?_)))))
 replace za:IsZip ha z TI TO .ellipsis:=za
 refine we ?_;simp only [List.zipIdx_cons,List.zipIdx_nil,List.forIn_cons,List.forIn_nil];refine we (we (wpAny_onRaise ?_));show wpAny _ _ (Builtin.SmallTypes.nextOf (.ref i1) >>= _) _ _ _;refine we (jZ (h1.at λo e=>sa.extBut _ _ D.i1z e) (hl1.at λo e=>sa.extBut _ _ D.l1z e) hx λhb j1 sb=>wm ?_);have tb:IsPair hb TO p q:=sb.extBut _ _ D.TOi1 (sa.extBut _ _ D.TOz hTO);refine we (wpAny_seqItems tb rfl (we (wpAny_updateSeq_pair tb λhc tc sc=>?_)))
 replace tc:IsPair hc TO x q:=tc
 refine we (wpAny_letGo (wm (we (we (wpAny_onRaise ?_)))));show wpAny _ _ (Builtin.SmallTypes.nextOf (.ref i2) >>= _) _ _ _
 refine we (jZ (((h2.at λo e=>sa.extBut _ _ D.i2z e).at λo e=>sb.extBut _ _ D.i12.symm e).at λo e=>sc.extBut _ _ D.TOi2.symm e)
  (((hl2.at λo e=>sa.extBut _ _ D.l2z e).at λo e=>sb.extBut _ _ D.l2i1 e).at λo e=>sc.extBut _ _ D.l2TO e) hy λhd j2 sd=>wm ?_)
 have td:IsPair hd TO x q:=sd.extBut _ _ D.TOi2 tc;refine we (wpAny_seqItems td rfl (we (wpAny_updateSeq_pair td λhe te se=>?_)))
 replace te:IsPair he TO x y:=te
 refine we (wpAny_letGo (wm (wm (we (wpAny_seqItems te rfl (we (wpAny_newTuple ?_)))))));have hsz:he.objs.size=s.heap.objs.size:=by rw [se.1,sd.1,sc.1,sb.1,sa.1]
 have ze:IsZip he z TI TO .ellipsis:=se.extBut _ _ D.TOz.symm (sd.extBut _ _ D.i2z.symm (sc.extBut _ _ D.TOz.symm (sb.extBut _ _ D.i1z.symm za)));have ke:∀ c o,c≠z->c≠TO->c≠i1->c≠i2->s.heap.get? c=some o->he.get? c=some o:=λc o c1 c2 c3 c4 e=>se.extBut _ _ c2 (sd.extBut _ _ c4 (sc.extBut _ _ c2 (sb.extBut _ _ c3 (sa.extBut _ _ c1 e))))
 have f1:SItr t he i1 a (k1+1):=((j1.at λo e=>sc.extBut _ _ D.TOi1.symm e).at λo e=>sd.extBut _ _ D.i12 e).at λo e=>se.extBut _ _ D.TOi1.symm e
 have f2:SItr u he i2 b (k2+1):=j2.at λo e=>se.extBut _ _ D.TOi2.symm e
 have zlt:z<he.objs.size:=wz ze;show wpAny _ _ (Builtin.SmallTypes.ownedTupleHandOut (.ref z) (.ref he.objs.size) >>= _) _ _ _;refine we ?_;unfold Builtin.SmallTypes.ownedTupleHandOut;have zf:IsZip (he.push { cls:=.type "tuple",data:=.seq #[x,y] }) z TI TO .ellipsis:=wj _ ze;refine we (wX zf (by simp) λhg zg sg=>?_)
 replace zg:IsZip hg z TI TO (rawInt he.objs.size):=zg
 refine wX zg (by simp) λhh zh sh=>?_
 replace zh:IsZip hh z TI TO (rawInt he.objs.size):=zh
 have up:∀ c o,c≠z->he.get? c=some o->hh.get? c=some o:=λc o c1 e=>sh.extBut _ _ c1 (sg.extBut _ _ c1 (wj _ e))
 have th:IsPair hh he.objs.size x y:=sh.extBut _ _ (Nat.ne_of_gt zlt) (sg.extBut _ _ (Nat.ne_of_gt zlt) (wt _ rfl));have zz:hh.objs.size=he.objs.size+1:=by rw [sh.1,sg.1,Heap.size_push]
 rw [hsz] at zh th zz;refine wm ⟨_,rfl,?_⟩;show Q (.ref he.objs.size) _;rw [hsz];exact hQ hh zh (up _ _ D.TOz te) (f1.at λo e=>up _ o D.i1z e) (f2.at λo e=>up _ o D.i2z e) th zz λc o c1 c2 c3 c4 e=>up c o c1 (ke c o c1 c2 c3 c4 e)
theorem zcK {t u:Bool} {z TI TO i1 i2 a b:Addr} {k1 k2:Nat} {xs ys:Array Value} {p q:Value} {Q:Fin->Shared->Prop} (hh:A.handled=none) (D:ZipApart z TI TO i1 i2 a b)
  (hz:IsZip s.heap z TI TO .none) (hTI:IsPair s.heap TI (.ref i1) (.ref i2)) (hTO:IsPair s.heap TO p q)
  (h1:SItr t s.heap i1 a k1) (h2:SItr u s.heap i2 b k2) (hl1:SSeq t s.heap a xs) (hl2:SSeq u s.heap b ys) (hend:xs[k1]?=none\/ys[k2]?=none)
  (hE:∀ h' e,(∀ c o,c≠z->c≠TO->c≠i1->c≠i2->s.heap.get? c=some o->h'.get? c=some o)->(∃ o,h'.get? e=some o/\o.cls=.type "StopIteration")->E (.ref e) { s with heap:=h' }) :
  wpAny (model prog w) A (Builtin.«zip.__next__» ⟨[.ref z],[]⟩) Q E s:=by
 show wpAny _ _ (field (.ref z) 2 >>= _) _ _ _;refine we (wpAny_field hz rfl (x:=.bool false) rfl ?_);refine we (wpAny_field hz rfl (x:=.ref TI) rfl ?_);refine we (wpAny_seqItems hTI rfl ?_);show wpAny _ _ (Builtin.SmallTypes.ownedTupleIsFree (.ref z) >>= _) _ _ _;refine we ?_;unfold Builtin.SmallTypes.ownedTupleIsFree;refine we (wpAny_field hz rfl (x:=.none) rfl (wm ?_));simp only [if_true];refine we (wpAny_rule (we (wpAny_field hz rfl (x:=.ref TO) rfl (we (wX hz (by simp) λha za sa=>?_)))))
 replace za:IsZip ha z TI TO .ellipsis:=za
 refine we ?_;simp only [List.zipIdx_cons,List.zipIdx_nil,List.forIn_cons,List.forIn_nil];refine we (we (wpAny_onRaise ?_));show wpAny _ _ (Builtin.SmallTypes.nextOf (.ref i1) >>= _) _ _ _;cases hx:xs[k1]? with
 | none =>
  refine we (jbv hh (h1.at λo e=>sa.extBut _ _ D.i1z e) (hl1.at λo e=>sa.extBut _ _ D.l1z e) hx λhb e sb he=>?_);obtain ⟨oe,hoe,hce⟩:=he;have zb:IsZip hb z TI TO .ellipsis:=sb _ _ D.i1z.symm za;have hez:e≠z:=λx=>by subst x;rw [zb] at hoe;cases hoe;simp at hce
  exact wX zb (by simp) λhc _ sc=>hE hc e (λc o c1 _ c3 _ x=>sc.extBut _ _ c1 (sb _ _ c3 (sa.extBut _ _ c1 x))) ⟨oe,sc.extBut _ _ hez hoe,hce⟩
 | some x =>
  have hy:ys[k2]?=none:=by rcases hend with h | h;rw [hx] at h;cases h;exact h
  refine we (jZ (h1.at λo e=>sa.extBut _ _ D.i1z e) (hl1.at λo e=>sa.extBut _ _ D.l1z e) hx λhb j1 sb=>wm ?_);have tb:IsPair hb TO p q:=sb.extBut _ _ D.TOi1 (sa.extBut _ _ D.TOz hTO);refine we (wpAny_seqItems tb rfl (we (wpAny_updateSeq_pair tb λhc tc sc=>?_)));refine we (wpAny_letGo (wm (we (we (wpAny_onRaise ?_)))));show wpAny _ _ (Builtin.SmallTypes.nextOf (.ref i2) >>= _) _ _ _
  refine we (jbv hh (((h2.at λo e=>sa.extBut _ _ D.i2z e).at λo e=>sb.extBut _ _ D.i12.symm e).at λo e=>sc.extBut _ _ D.TOi2.symm e)
   (((hl2.at λo e=>sa.extBut _ _ D.l2z e).at λo e=>sb.extBut _ _ D.l2i1 e).at λo e=>sc.extBut _ _ D.l2TO e) hy λhd e sd he=>?_)
  obtain ⟨oe,hoe,hce⟩:=he;have zd:IsZip hd z TI TO .ellipsis:=sd _ _ D.i2z.symm (sc.extBut _ _ D.TOz.symm (sb.extBut _ _ D.i1z.symm za));have hez:e≠z:=λx=>by subst x;rw [zd] at hoe;cases hoe;simp at hce
  exact wX zd (by simp) λhe _ se=>hE he e (λc o c1 c2 c3 c4 x=>se.extBut _ _ c1 (sd _ _ c4 (sc.extBut _ _ c2 (sb.extBut _ _ c3 (sa.extBut _ _ c1 x))))) ⟨oe,se.extBut _ _ hez hoe,hce⟩
theorem jb7 {t u:Bool} {z TI TO i1 i2 a b:Addr} {k1 k2:Nat} {xs ys:Array Value} {x y p q:Value} {Q:Option Value->Shared->Prop} (D:ZipApart z TI TO i1 i2 a b)
  (hz:IsZip s.heap z TI TO .none) (hTI:IsPair s.heap TI (.ref i1) (.ref i2)) (hTO:IsPair s.heap TO p q)
  (h1:SItr t s.heap i1 a k1) (h2:SItr u s.heap i2 b k2) (hl1:SSeq t s.heap a xs) (hl2:SSeq u s.heap b ys) (hx:xs[k1]?=some x) (hy:ys[k2]?=some y)
  (hQ:∀ h',IsZip h' z TI TO (rawInt s.heap.objs.size)->IsPair h' TO x y->SItr t h' i1 a (k1+1)->SItr u h' i2 b (k2+1)->IsPair h' s.heap.objs.size x y->h'.objs.size=s.heap.objs.size+1 ->
   (∀ c o,c≠z->c≠TO->c≠i1->c≠i2->s.heap.get? c=some o->h'.get? c=some o)->Q (some (.ref s.heap.objs.size)) { s with heap:=h' }) :
  wpAny (model prog w) A (pyNext (.ref z)) Q E s:=by
 have hT:s.TypeIs (.ref z) "zip":=⟨_,hz,rfl⟩;unfold pyNext
 exact we (wpAny_attempt (w8 (name:=Str.ofString "__next__") hT F.slot_zip_next (wW F.slot_zip_next hT F.entry_zip_next
  (yb7 D hz hTI hTO h1 h2 hl1 hl2 hx hy λh' a1 a2 a3 a4 a5 a6 a7=>wm (hQ h' a1 a2 a3 a4 a5 a6 a7)) (F.args_zip_next_1 _))))
theorem zb8 {t u:Bool} {z TI TO i1 i2 a b:Addr} {k1 k2:Nat} {xs ys:Array Value} {p q:Value} {Q:Option Value->Shared->Prop} (hh:A.handled=none) (D:ZipApart z TI TO i1 i2 a b)
  (hz:IsZip s.heap z TI TO .none) (hTI:IsPair s.heap TI (.ref i1) (.ref i2)) (hTO:IsPair s.heap TO p q)
  (h1:SItr t s.heap i1 a k1) (h2:SItr u s.heap i2 b k2) (hl1:SSeq t s.heap a xs) (hl2:SSeq u s.heap b ys) (hend:xs[k1]?=none\/ys[k2]?=none)
  (hQ:∀ h',(∀ c o,c≠z->c≠TO->c≠i1->c≠i2->s.heap.get? c=some o->h'.get? c=some o)->Q none { s with heap:=h' }):wpAny (model prog w) A (pyNext (.ref z)) Q E s:=by
 have hT:s.TypeIs (.ref z) "zip":=⟨_,hz,rfl⟩;unfold pyNext
 refine we (wpAny_attempt (w8 (name:=Str.ofString "__next__") hT F.slot_zip_next
  (wW F.slot_zip_next hT F.entry_zip_next (zcK hh D hz hTI hTO h1 h2 hl1 hl2 hend λh' e hk he=>?_) (F.args_zip_next_1 _))))
 obtain ⟨o,ho,hc⟩:=he;refine we (wpAny_isInstance (T:="StopIteration") (b:=true) ⟨o,ho,hc⟩ isSubtype_stop ?_);exact wm (hQ _ hk)
theorem qbw {t:Bool} {e it a:Addr} {i:Nat} {items:Array Value} {x old:Value} {Q:Value->Shared->Prop} (hne:e≠it) (hea:e≠a)
  (he:IsEnum s.heap e it i old) (hi:SItr t s.heap it a i) (hl:SSeq t s.heap a items) (hx:items[i]?=some x)
  (hQ:∀ h' tk k,IsEnumOut h' e it (i+1) x s.heap.objs.size->SItr t h' it a (i+1)->IsPair h' s.heap.objs.size (.int i k) x ->
   (∀ c o,c≠e->c≠it->s.heap.get? c=some o->h'.get? c=some o)->Q (.ref s.heap.objs.size) { s with heap:=h',toks:=tk }) :
  wpAny (model prog w) A (Builtin.«enumerate.__next__» ⟨[.ref e],[]⟩) (λfin s'=>∃ v,fin=.done (.ret v)/\Q v s') E s:=by
 show wpAny _ _ (field (.ref e) 2 >>= _) _ _ _;refine we (wpAny_field he rfl (x:=.ref it) rfl ?_);refine we (jZ hi hl hx λhb j1 sb=>?_);have eb:IsEnum hb e it i old:=sb.extBut _ _ hne he;refine we (wpAny_field eb rfl (x:=rawInt i) rfl ?_);show wpAny _ _ (field (.ref e) 4 >>= _) _ _ _;refine we (wpAny_field eb rfl (x:=.none) rfl ?_);show wpAny _ _ (mkInt i >>= _) _ _ _;refine we (wpAny_mkInt ?_);refine we (wX eb (by simp) λhc ec sc=>?_)
 replace ec:IsEnum hc e it (i+1) old:=ec
 refine we (wX ec (by simp) λhd ed sd=>?_)
 replace ed:IsEnum hd e it (i+1) old:=ed
 refine we (wpAny_newTuple ?_);have hsz:hd.objs.size=s.heap.objs.size:=by rw [sd.1,sc.1,sb.1]
 have ke:∀ c o,c≠e->c≠it->s.heap.get? c=some o->hd.get? c=some o:=λc o c1 c2 q=>sd.extBut _ _ c1 (sc.extBut _ _ c1 (sb.extBut _ _ c2 q))
 have jd:SItr t hd it a (i+1):=(j1.at λo q=>sc.extBut _ _ hne.symm q).at λo q=>sd.extBut _ _ hne.symm q
 obtain ⟨T,hT⟩:∃ T,T=hd.objs.size:=⟨_,rfl⟩;have elt:e<hd.objs.size:=wz ed;have ee:IsEnum (hd.push { cls:=.type "tuple",data:=.seq #[.int i s.toks,x] }) e it (i+1) old:=wj _ ed;show wpAny _ _ (Builtin.SmallTypes.ownedTupleIsFree (.ref e) >>= _) _ _ _;refine we ?_;unfold Builtin.SmallTypes.ownedTupleIsFree;refine we (wpAny_field ee rfl (x:=.none) rfl (wm ?_));simp only [if_true];refine we (wpAny_rule (we (wpAny_field ee rfl (x:=old) rfl (we (wX ee (by simp) λhf ef sf=>?_)))))
 replace ef:IsEnum hf e it (i+1) x:=ef
 show wpAny _ _ (Builtin.SmallTypes.ownedTupleHandOut (.ref e) (.ref hd.objs.size) >>= _) _ _ _;refine we ?_;unfold Builtin.SmallTypes.ownedTupleHandOut;refine we (wX ef (by simp) λhg eg sg=>?_)
 replace eg:IsEnumOut hg e it (i+1) x hd.objs.size:=eg
 refine wX eg (by simp) λhh eh sh=>?_
 replace eh:IsEnumOut hh e it (i+1) x hd.objs.size:=eh
 have up:∀ c o,c≠e->hd.get? c=some o->hh.get? c=some o:=λc o c1 q=>sh.extBut _ _ c1 (sg.extBut _ _ c1 (sf.extBut _ _ c1 (wj _ q)))
 have th:IsPair hh hd.objs.size (.int i s.toks) x:=sh.extBut _ _ (Nat.ne_of_gt elt) (sg.extBut _ _ (Nat.ne_of_gt elt) (sf.extBut _ _ (Nat.ne_of_gt elt) (wt _ rfl)));rw [hsz] at eh th;refine we (wpAny_letGo (wm ⟨_,rfl,?_⟩));show Q (.ref hd.objs.size) _;rw [hsz];exact hQ hh _ s.toks eh (jd.at λo q=>up _ o hne.symm q) th λc o c1 c2 q=>up c o c1 (ke c o c1 c2 q)
theorem ybw {t:Bool} {e it a:Addr} {i:Nat} {items:Array Value} {x old:Value} {Q:Option Value->Shared->Prop} (hne:e≠it) (hea:e≠a)
  (he:IsEnum s.heap e it i old) (hi:SItr t s.heap it a i) (hl:SSeq t s.heap a items) (hx:items[i]?=some x)
  (hQ:∀ h' tk k,IsEnumOut h' e it (i+1) x s.heap.objs.size->SItr t h' it a (i+1)->IsPair h' s.heap.objs.size (.int i k) x ->
   (∀ c o,c≠e->c≠it->s.heap.get? c=some o->h'.get? c=some o)->Q (some (.ref s.heap.objs.size)) { s with heap:=h',toks:=tk }) :
  wpAny (model prog w) A (pyNext (.ref e)) Q E s:=by
 have hT:s.TypeIs (.ref e) "enumerate":=⟨_,he,rfl⟩;unfold pyNext
 exact we (wpAny_attempt (w8 (name:=Str.ofString "__next__") hT F.slot_enumerate_next (wW F.slot_enumerate_next hT F.entry_enumerate_next
  (qbw hne hea he hi hl hx λh' tk k a1 a2 a3 a4=>wm (hQ h' tk k a1 a2 a3 a4)) (F.args_enumerate_next_1 _))))
end
end Eng
end
section
namespace Eng
open PySem
noncomputable def yP (S:List Nat) (led:Bool):SetTable :=
 if S.length<5 then { mask:=7,place:=S.toArray,dummies:=#[],finger:=0,led:=led,moves:=0,plain:=true }
 else { mask:=31,place:=S.toArray,dummies:=#[],finger:=0,led:=led,moves:=1,plain:=true }
noncomputable def jao (k:Nat):List Nat->List Nat
 | []=>[k]
 | x::r=>if k<x then k::x::r else x::jao k r
noncomputable def subs:Nat->List (List Nat)
 | 0=>[[]]
 | n+1=>subs n++(subs n).map (·++[n])
noncomputable def cnt (k:Nat) (S:List Nat):Nat:=(S.filter (·<k)).length
noncomputable def jaC (S:List Nat) (k:Nat) (led:Bool):SetTable:={ mask:=if S.length<5 then 7 else 31,place:=(jao k S).toArray,dummies:=#[],finger:=0,led:=led,moves:=if S.length<5 then 0 else 1,plain:=true }
noncomputable def zdr (S:List Nat) (k:Nat) (led:Bool):Bool :=
 S.contains k ||
 (decide ((yP S led).freeSlot (k:Int)=some (k,false))&&decide ((yP S led).put k=(jaC S k led,cnt k S))&&(jaC S k led).fits (S.length+1)
  && decide (S.take (cnt k S)++k::S.drop (cnt k S)=jao k S)&&decide (jao k S∈subs lowM)
  && (if (jaC S k led).tooFull then decide ((jaC S k led).relaid ((jao k S).toArray.map Int.ofNat) (SetTable.grown (S.length+1))=some (yP (jao k S) led,Array.range (S.length+1)))&&coversAll (Array.range (S.length+1)) (S.length+1)&&(yP (jao k S) led).fits (S.length+1)
   else decide (jaC S k led=yP (jao k S) led)))
noncomputable def qct (S:List Nat):Bool:=(List.range S.length).all λi=>decide (SetTable.below S.toArray (if i=0 then 0 else S.getD (i-1) 0+1)=i)
noncomputable def qd4 (S:List Nat):Bool:=decide (S.length<=SetTable.below S.toArray (if S.length=0 then 0 else S.getD (S.length-1) 0+1))
noncomputable def qdr (S:List Nat) (led:Bool):Bool:=(yP S led).fits S.length&&!(yP S led).gaveWay&&decide (S.length<=8)&&S.all (·<lowM)
theorem qcK:∀ led∈[true,false],∀ S∈subs lowM,∀ k∈List.range lowM,zdr S k led=true:=by decide +kernel
theorem qap:∀ S∈subs lowM,qct S=true/\qd4 S=true/\∀ led∈[true,false],qdr S led=true:=by decide +kernel
noncomputable def esL (L:List (Nat×Tok)):List (Int×Value):=L.map λp=>((p.1:Int),Value.int p.1 p.2)
noncomputable def keys (L:List (Nat×Tok)):List Nat:=L.map (·.1)
noncomputable def zp (L:List (Nat×Tok)) (led:Bool) (ep:Nat):Obj:={ cls:=.type "set",dict:=none,data:=.set (esL L).toArray ep (yP (keys L) led),slots:=#[] }
def ybl (h:Heap) (a:Addr) (L:List (Nat×Tok)) (led:Bool):Prop:=keys L∈subs lowM/\∃ ep,h.get? a=some (zp L led ep)
theorem ydr (led:Bool):led∈[true,false]:=by cases led<;>simp
theorem z0 {S:List Nat} (h:S∈subs lowM) (led:Bool):(yP S led).fits S.length=true/\S.length<=8/\∀ k∈S,k<lowM:=by
 have:=(qap S h).2.2 led (ydr led)
 simp only [qdr,wg,wG,List.all_eq_true] at this;exact ⟨this.1.1.1,this.1.2,λk hk=>this.2 k hk⟩
theorem qA (L:List (Nat×Tok)):(keys L).length=L.length:=by simp [keys]
theorem jw (L:List (Nat×Tok)):(esL L).toArray.size=(keys L).length:=by simp [esL,keys]
theorem qbg:∀ k∈List.range 64,hashInt ((k:Nat):Int)=k:=by decide +kernel
theorem ycK:lowM<=64:=by decide
theorem jbw {k:Nat} (h:k<lowM):hashInt (k:Int)=k:=qbg k (ve.mpr (wL h ycK))
theorem isInt_iff (k j:Nat) (t:Tok):Value.isInt (k:Int) (Value.int (j:Int) t)=decide (k=j):=by
 by_cases h:k=j
 ·subst h;simp [Value.isInt]
 ·simp [Value.isInt,h];omega
section
variable {prog:Program} {w:World} {A:Around} {E:Value->Shared->Prop} {s:Shared}
theorem qb8 {L:List (Nat×Tok)} (h:keys L∈subs lowM):ElemsOf (intKind prog w) (esL L).toArray.toList:=λe he=>by
 have he:e∈esL L:=by simpa using he
 obtain ⟨p,hp,rfl⟩:=wH.mp he;have hk:=(z0 h true).2.2 p.1 (wH.mpr ⟨p,hp,rfl⟩);exact ⟨⟨(p.1:Int),(isInt_iff p.1 p.1 p.2).trans (by simp),(jbw hk).symm⟩,rfl⟩
theorem jcK (L:List (Nat×Tok)) (k:Nat):(((esL L).toArray.toList.findIdx? λe=>Value.isInt (k:Int) e.2)=none↔k∉keys L):=by
 rw [List.findIdx?_eq_none_iff];constructor
 ·intro h hk;obtain ⟨p,hp,e⟩:=wH.mp hk
  have:=h ((p.1:Int),Value.int p.1 p.2) (by simp only [esL];exact wH.mpr ⟨p,hp,rfl⟩)
  rw [isInt_iff,e] at this;simp at this
 ·intro h e he;have he:e∈esL L:=by simpa using he
  obtain ⟨p,hp,rfl⟩:=wH.mp he;rw [isInt_iff];exact vk λz=>h (wH.mpr ⟨p,hp,z.symm⟩)
theorem zcL (L:List (Nat×Tok)) (k p:Nat) (t:Tok) (hp:p<=L.length):SetTable.insertAt (esL L).toArray p ((k:Int),Value.int k t)=(esL (L.take p++(k,t)::L.drop p)).toArray:=by
 unfold SetTable.insertAt;apply Array.ext';simp [esL,List.map_take,List.map_drop];rw [List.take_of_length_le (l:=List.drop p _) (by simp)]
end
structure AddF (S:List Nat) (k:Nat) (led:Bool):Prop where
 free:(yP S led).freeSlot (k:Int)=some (k,false)
 put:(yP S led).put k=(jaC S k led,cnt k S)
 fit:(jaC S k led).fits (S.length+1)=true
 ins:S.take (cnt k S)++k::S.drop (cnt k S)=jao k S
 mem:jao k S∈subs lowM
 full:(jaC S k led).tooFull=true->(jaC S k led).relaid ((jao k S).toArray.map Int.ofNat) (SetTable.grown (S.length+1))=some (yP (jao k S) led,Array.range (S.length+1))/\coversAll (Array.range (S.length+1)) (S.length+1)=true/\(yP (jao k S) led).fits (S.length+1)=true
 part:(jaC S k led).tooFull=false->jaC S k led=yP (jao k S) led
theorem jdr {S:List Nat} (hS:S∈subs lowM) {k:Nat} (hk:k<lowM) (hn:k∉S) (led:Bool):AddF S k led:=by
 have h:=qcK led (ydr led) S hS k (ve.mpr hk);unfold zdr at h;rw [show S.contains k=false by simpa using hn,Bool.false_or] at h;simp only [wg,wG] at h;obtain ⟨⟨⟨⟨⟨h1,h2⟩,h3⟩,h4⟩,h5⟩,h6⟩:=h;refine ⟨h1,h2,h3,h4,h5,λhf=>?_,λhf=>?_⟩
 ·rw [if_pos hf] at h6;simp only [wg,wG] at h6;exact ⟨h6.1.1,h6.1.2,h6.2⟩
 ·rw [hf,if_neg wA] at h6;simpa using h6
theorem yct (k:Nat) (S:List Nat):cnt k S<=S.length:=List.length_filter_le _ _
theorem qa2 (L:List (Nat×Tok)) (k p:Nat) (t:Tok):keys (L.take p++(k,t)::L.drop p)=(keys L).take p++k::(keys L).drop p:=by simp [keys,List.map_take,List.map_drop]
theorem ybg (L:List (Nat×Tok)):(esL L).toArray.map (·.1)=(keys L).toArray.map Int.ofNat:=by
 apply Array.ext';simp [esL,keys]
theorem qJ {α:Type}:∀ (l:List α),(List.range l.length).filterMap (λ(i:Nat)=>l[i]?)=l:=by
 intro l;have h:(List.range l.length).filterMap (λ(i:Nat)=>l[i]?)=((List.range l.length).map (λ(i:Nat)=>l[i]?)).filterMap id:=by rw [List.filterMap_map];rfl
 rw [h]
 have h2:(List.range l.length).map (λ(i:Nat)=>l[i]?)=l.map some:=by
  apply List.ext_getElem
  ·simp
  ·intro i h1 h2;simp at h1;simp [h1]
 rw [h2,List.filterMap_map]
 simp
theorem y0 (l:List (Int×Value)):(Array.range l.length).filterMap (λ(i:Nat)=>l.toArray[i]?)=l.toArray:=by
 apply Array.ext';rw [Array.toList_filterMap,Array.toList_range]
 have:(λ(i:Nat)=>l.toArray[i]?)=λ(i:Nat)=>l[i]?:=by funext i;simp
 rw [this];exact qJ l
section
variable {prog:Program} {w:World} {A:Around} {E:Value->Shared->Prop} {s:Shared}
theorem zbx {h:Heap} {a:Addr} {o:Obj} {es es':Array (Int×Value)} {ep:Nat} {t t':SetTable} (ho:h.get? a=some o) (hd:o.data=.set es ep t) :
  (h.update a (Obj.putSet es' t')).get? a=some { o with data:=.set es' (ep+1) t' }:=by
 have:=Heap.get?_update_self (Obj.putSet es' t') ho (by rw [putSet_of es' t' hd];rfl)
 rw [putSet_of es' t' hd] at this;exact this
theorem qcL {a:Addr} {L:List (Nat×Tok)} {led:Bool} {k:Nat} {tk:Tok} {Q:Bool->Shared->Prop} (hS:ybl s.heap a L led) (hk:k<lowM)
  (h:∀ b h' L',Heap.SameBut a s.heap h'->ybl h' a L' led->(keys L'=if k∈keys L then keys L else jao k (keys L))->Q b { s with heap:=h' }) :
  wpAny (model prog w) A (setAddHashed a (.int k tk) (hashInt k)) Q E s:=by
 obtain ⟨hin,ep,ho⟩:=id hS;obtain ⟨hf,hl8,_⟩:=z0 hin led;have hb:(esL L).toArray.size<scanBound:=by rw [jw];unfold scanBound;omega
 have hel:=qb8 (prog:=prog) (w:=w) hin;have hkey:(intKind prog w).is (k:Int) (.int k tk)=true:=(isInt_iff k k tk).trans (by simp);have hf':(yP (keys L) led).fits (esL L).toArray.size=true:=by rw [jw];exact hf
 unfold setAddHashed setAddHashedIn;refine wpAny_holding (we (wpAny_setState_of ho rfl hf' ?_));dsimp only;rw [byScan_of (knd:=intKind prog w) rfl hb hel];simp only [↓reduceIte];unfold setAddByScan;refine we (we (wpAny_rule (we (wpAny_setScan_of (knd:=intKind prog w) hkey ho rfl hf' hel ?_))));have hfo:=jcK L k;cases hr:List.findIdx? (λe=>(intKind prog w).is (k:Int) e.2) (esL L).toArray.toList with
 | some j =>
  have hm:k∈keys L:=by
   refine Classical.byContradiction λz=>?_
   have:=hfo.mpr z
   rw [show List.findIdx? (λe=>Value.isInt (k:Int) e.2) (esL L).toArray.toList=some j from hr] at this;cases this
  dsimp only;refine wm (wm ?_);have e:s={ s with heap:=s.heap }:=by cases s;rfl
  rw [e];exact h _ s.heap L (Heap.SameBut.refl a s.heap) hS (by rw [if_pos hm])
 | none =>
  have hm:k∉keys L:=hfo.mp hr;have F:=jdr hin hk hm led;dsimp only
  have hgw:∀ (b:Bool) {s₁:Shared} {Q':Unit->Shared->Prop},Q' () s₁->wpAny (model prog w) A (match b with | true=>rule "set.scan.the-table-gave-way" | false=>pure ()) Q' E s₁ :=
   λb s₁ Q' hq=>by cases b<;>first | exact wm hq | exact wpAny_rule hq
  obtain ⟨L',hL'⟩:∃ L',L'=L.take (cnt k (keys L))++(k,tk)::L.drop (cnt k (keys L)):=⟨_,rfl⟩;have hkL:keys L'=jao k (keys L):=by rw [hL',qa2];exact F.ins
  have hlen:(keys L').length=(keys L).length+1:=by
   rw [hL',qa2,wU,List.length_cons,List.length_take,List.length_drop]
   have:=yct k (keys L)
   omega
  have hLay:layNew (yP (keys L) led) (esL L).toArray (hashInt k) (.int k tk)=((esL L').toArray,jaC (keys L) k led,false,false):=by
   unfold layNew;rw [jbw hk,F.free];dsimp only;rw [F.put];dsimp only;rw [zcL L k _ tk (by rw [<-qA];exact yct _ _),<-hL'];have e1:(esL L').toArray.size=(keys L).length+1:=by rw [jw,hlen]
   rw [e1];unfold SetTable.orStandIn;rw [F.fit];rfl
  rw [hLay];dsimp only;refine we (hgw false ?_);have hp:(jaC (keys L) k led).plain=true:=rfl;rw [hp];simp only [↓reduceIte];rw [hashByValue_scannable 8 (x:=Value.int k tk) rfl];refine we (wm ?_);rw [show plainKind (Value.int (k:Int) tk)=true from rfl];simp only [↓reduceIte];have hin':keys L'∈subs lowM:=by rw [hkL];exact F.mem
  obtain ⟨_,hl8',_⟩:=z0 hin' led;have hsz:(esL L').toArray.size<scanBound:=by rw [jw];unfold scanBound;omega
  refine we (wpAny_storeSet_of ho rfl ?_ (fits_of_scanBound hsz));have g1:=zbx (es':=(esL L').toArray) (t':=jaC (keys L) k led) ho (rfl:(zp L led ep).data=_);have sb1:=Heap.SameBut.update s.heap a (Obj.putSet (esL L').toArray (jaC (keys L) k led));cases hfull:(jaC (keys L) k led).tooFull with
  | false =>
   simp only [Bool.not_false,Bool.true_and,hfull,wo,↓reduceIte];refine wm (wm (h _ _ L' sb1 ⟨hin',ep+1,?_⟩ (by rw [if_neg hm,hkL])));rw [g1,F.part hfull,<-hkL];rfl
  | true =>
   simp only [Bool.not_false,Bool.true_and,hfull,↓reduceIte];obtain ⟨r1,r2,r3⟩:=F.full hfull;have e1:(esL L').toArray.size=(keys L).length+1:=by rw [jw,hlen]
   have hRel:relayAll (jaC (keys L) k led) (esL L').toArray (SetTable.grown (esL L').toArray.size)=((esL L').toArray,yP (keys L') led,false):=by
    unfold relayAll;rw [ybg,hkL,e1,r1];dsimp only
    have e2:(Array.range ((keys L).length+1)).filterMap (λ(i:Nat)=>(esL L').toArray[i]?)=(esL L').toArray:=by
     have:=y0 (esL L')
     rwa [show (esL L').length=(keys L).length+1 by simpa using e1] at this
    rw [e2,e1,r2,r3];rfl
   rw [hRel];dsimp only;refine we (hgw false ?_);refine we (wpAny_storeSet_of g1 rfl ?_ (fits_of_scanBound hsz));have g2:=zbx (es':=(esL L').toArray) (t':=yP (keys L') led) g1 rfl;exact wm (wm (h _ _ L' (sb1.trans (Heap.SameBut.update _ a _)) ⟨hin',ep+1+1,g2⟩ (by rw [if_neg hm,hkL])))
end
theorem yN {prog:Program} {w:World} {A:Around} (hh:A.handled=none) (t:Bool) (I a:Addr) (hne:a≠I) (items:Array Value) :
  Walks prog w A I [I,a] [I] items.size (λi v=>items[i]?=some v) (λi h=>SItr t h I a i/\SSeq t h a items):=by
 cases t
 ·exact Walks.list hh I a hne items
 ·exact Walks.tuple hh I a hne items
theorem ya2 {x k:Nat}:∀ {S:List Nat},x∈jao k S↔x=k\/x∈S
 | []=>by simp [jao]
 | y::r=>by
  unfold jao;split
  ·simp
  ·simp only [wu,ya2 (S:=r)];constructor
   ·rintro (h | h | h)
    ·exact .inr (.inl h)
    ·exact .inl h
    ·exact .inr (.inr h)
   ·rintro (h | h | h)
    ·exact .inr (.inl h)
    ·exact .inl h
    ·exact .inr (.inr h)
section
variable {prog:Program} {w:World} {A:Around} {R:Result->Shared->Prop} {I:Addr} {fp wr:List Addr} {G:Array GenState->Array GenState->Prop} {n:Nat} {P:Nat->Value->Prop} {St:Nat->Shared->Prop} {led:Bool}
theorem yb8 (W:WalksS prog w A.in1 I fp wr G n P St) (S:Addr) (hSf:S∉fp) (val:Nat->Nat) (hval:∀ i v,P i v->∃ t,v=.int (val i:Int) t) (hlt:∀ i,i<n->val i<lowM) :
  ∀ (k i:Nat) (s:Shared) (L:List (Nat×Tok)),n-i=k->i<=n->St i s->ybl s.heap S L led->(∀ x,x∈keys L↔∃ j,j<i/\val j=x) ->
   (∀ s' L',Moved (S::wr) G s s'->ybl s'.heap S L' led->(∀ x,x∈keys L'↔∃ j,j<n/\val j=x)->R (.ok (.ret .none)) s') ->
   codeAny (model prog w) A (.builtin "set.update.loop" ⟨[.ref S,.ref I],[]⟩) R s:=by
 have hSw:S∉wr:=λh=>hSf (W.sub _ h)
 have hsub:∀ b∈wr,b∈S::wr:=λb hb=>wI _ hb
 intro k
 induction k with
 | zero =>
  intro i s L hk hi hst hS hm hR;have hin:i=n:=by omega
  subst hin;refine codeAny_builtin PyProof.Rows.F.entry_set_update_loop ?_;rw [Around.under_plainId PyProof.Rows.F.plain_set_update_loop _];show wpAny _ A.in1 (pyNext (.ref I) >>= _) _ _ s;refine we (W.done s _ _ hst λs' mv=>?_);show wpAny _ A.in1 (ret Value.none) _ _ s';obtain ⟨h1,ep,h2⟩:=hS;exact wm (hR s' L (mv.mono hsub) ⟨h1,ep,mv.heap S _ hSw h2⟩ hm)
 | succ k ih =>
  intro i s L hk hi hst hS hm hR;have hilt:i<n:=by omega
  refine codeAny_builtin PyProof.Rows.F.entry_set_update_loop ?_;rw [Around.under_plainId PyProof.Rows.F.plain_set_update_loop _];show wpAny _ A.in1 (pyNext (.ref I) >>= _) _ _ s;refine we (W.item i s _ _ hilt hst λv s' hP hst' mv=>?_);obtain ⟨t,rfl⟩:=hval i v hP;obtain ⟨h1,ep,h2⟩:=hS;have hS':ybl s'.heap S L led:=⟨h1,ep,mv.heap S _ hSw h2⟩;show wpAny _ A.in1 (holding [Value.int (val i) t] (setAdd S (.int (val i) t)) >>= _) _ _ s';refine we (wpAny_holding ?_);unfold setAdd;refine wpAny_holding ?_;refine we ((intKind prog w).pyHash (k:=(val i:Int)) (intKind_is _ _ _ _) ?_);refine qcL (s:={ s' with toks:=s'.toks+1 }) hS' (hlt i hilt) λb h' L' hsb hS2 hk2=>?_
  refine wm ⟨plainId_quiet PyProof.Rows.F.plain_set_update_loop _,ih (i+1) _ L' (by omega) hilt (W.frame _ s' _ _ hst' (Nat.le_succ _) λb hb o e=>?_) hS2 (λx=>?_) λs'' L'' mv2 hS3 hm3=>?_⟩
  ·exact (hsb.2 b (λh:b=S=>hSf (by rw [<-h];exact hb))).trans e
  ·rw [hk2]
   by_cases hx:val i∈keys L
   ·rw [if_pos hx,hm x];constructor
    ·rintro ⟨j,hj,e⟩;exact ⟨j,by omega,e⟩
    ·rintro ⟨j,hj,e⟩
     by_cases hji:j=i
     ·subst hji;rw [<-e];exact (hm _).mp hx
     ·exact ⟨j,by omega,e⟩
   ·rw [if_neg hx,ya2,hm x];constructor
    ·rintro (e | ⟨j,hj,e⟩)
     ·exact ⟨i,by omega,e.symm⟩
     ·exact ⟨j,by omega,e⟩
    ·rintro ⟨j,hj,e⟩
     by_cases hji:j=i
     ·subst hji;exact .inl e.symm
     ·exact .inr ⟨j,by omega,e⟩
  ·refine hR s'' L'' (Moved.trans W.gtrans ((mv.mono hsub).then_heap (Nat.le_succ _) λb o hb e=>?_) mv2) hS3 hm3;exact (hsb.2 b (λh:b=S=>hb (by rw [h];exact wN))).trans e
end
noncomputable def zm (w:World):Bool:=w.params.followText "set-order"
section
variable {prog:Program} {w:World} {A:Around} {E:Value->Shared->Prop} {s:Shared}
theorem jb8 (a:Value) {Q₁:Value->Shared->Prop} (h:Q₁ (.ref s.heap.objs.size) { s with heap:=s.heap.push (zp [] (!zm w) 0) }) :
  codeAny (model prog w) A (.call (.builtin "set.__new__") ⟨[.type "set",a],[]⟩) (wants Q₁ E) s:=by
 refine codeAny_of_tree ?_;show wpAny _ A.in1 (do checkBuiltinCall "set.__new__" ⟨[.type "set",a],[]⟩;again (.builtin "set.__new__" ⟨[.type "set",a],[]⟩)) _ _ s;refine we (wpAny_of_eq (F.newCall_set_1 a) (wm ⟨plainId_quiet F.plain_set_new _,codeAny_builtin F.entry_set_new ?_⟩));rw [Around.under_plainId F.plain_set_new _];unfold Builtin.«set.__new__» Builtin.Frozenset.newClass;have hsub:=sub_set_self;obtain ⟨hp,g,d,tk,os⟩:=s;dsimp only
 wp_walk
 refine wpAny_askSetting (wm ?_);dsimp only;simp only [newObj];refine we (wpAny_alloc (wm ?_));exact wm h
theorem sub_tuple_set:isSubtype (.type "tuple") (.type "set")=pure false:=by rw [isSubtype_type];kernel_rfl
theorem sub_tuple_frozenset:isSubtype (.type "tuple") (.type "frozenset")=pure false:=by rw [isSubtype_type];kernel_rfl
end
section
variable {prog:Program} {w:World} {A:Around} {E:Value->Shared->Prop} {s:Shared}
set_option maxHeartbeats 3200000 in
theorem ycL {t:Bool} {S a:Addr} {items:Array Value} {val:Nat->Nat} {led:Bool} {R:Shared->Prop} (hh:A.handled=none) (hl:SSeq t s.heap a items) (hS:ybl s.heap S [] led) (hne:S≠a)
  (hval:∀ (i:Nat) (v:Value),items[i]?=some v->∃ t,v=Value.int (val i:Int) t) (hlt:∀ i,i<items.size->val i<lowM)
  (hR:∀ (h':Heap) (tk:Nat) L,ybl h' S L led->(∀ x,x∈keys L↔∃ j,j<items.size/\val j=x)->(∀ b o,b≠S->s.heap.get? b=some o->h'.get? b=some o)->R { s with heap:=h',toks:=tk }) :
  wpAny (model prog w) A (Builtin.Frozenset.updateFrom "set.__init__" S (.ref a)) (λ_ s'=>R s') E s:=by
 have hSlt:S<s.heap.objs.size:=by obtain ⟨_,ep,q⟩:=hS;exact wz q
 have halt:a<s.heap.objs.size:=by obtain ⟨o,_,ho,_⟩:=hl.ob;exact wz ho
 have fin : wpAny (model prog w) A (pyIter (.ref a)) (λv s' => wpAny (model prog w) A (do let _ <- runValue (.builtin "set.update.loop" ⟨[.ref S, v], []⟩); pure ()) (λ_ s' => R s') E s') E s := by
  refine zA hl (we (wpAny_runValue ?_));have hneI:a≠s.heap.objs.size:=wM halt;have hSf:S∉[s.heap.objs.size,a]:=by simp only [wu,List.not_mem_nil,or_false,not_or];exact ⟨wM hSlt,hne⟩
  obtain ⟨h1,ep,h2⟩:=hS;refine yb8 ((yN (by simp [hh]) t s.heap.objs.size a hneI items).toS) S hSf val hval hlt (items.size-0) 0 _ [] (by omega) (Nat.zero_le _) ⟨SItr.fresh t s.heap a,hl.at λo e=>wj _ e⟩ ⟨h1,ep,wj _ h2⟩ (λx=>by simp [keys]) λs' L mv hS' hm=>?_
  obtain ⟨h',g',d',tk',os'⟩:=s';have eg:g'=s.gens:=mv.gens;have ed:d'=s.drawn:=mv.drawn;have eo:os'=s.os:=mv.os;subst eg;subst ed;subst eo
  refine wm (hR h' tk' L hS' hm λb o hb e=>mv.heap b o ?_ (wj _ e));simp only [wu,List.not_mem_nil,or_false,not_or];exact ⟨hb,wM (wz e)⟩
 unfold Builtin.Frozenset.updateFrom;obtain ⟨⟨oc,od,odt,osl⟩,n,ho,hc,hn⟩:=hl.ob;simp only at hc;subst hc;have hTy:s.TypeIs (.ref a) n:=⟨_,ho,rfl⟩;have h1:isSubtype (.type n) (.type "set")=pure false:=by rcases hn with rfl | rfl;exact sub_tuple_set;exact F.sub_list_set
 have h2:isSubtype (.type n) (.type "frozenset")=pure false:=by rcases hn with rfl | rfl;exact sub_tuple_frozenset;exact F.sub_list_frozenset
 have h3:(Value.type n==Value.type "dict")=false:=by rcases hn with rfl | rfl<;>decide
 unfold Builtin.Frozenset.isAnySet;generalize hPI:pyIter=PI at fin ⊢;refine we ?_
 wp_walk using wpAny_isInstance hTy h1,wpAny_isInstance hTy h2,wpAny_typeOf hTy
 exact fin
set_option maxHeartbeats 3200000 in
theorem zb9 {t:Bool} {a:Addr} {items:Array Value} {val:Nat->Nat} {Q:Value->Shared->Prop} (hh:A.handled=none) (hl:SSeq t s.heap a items)
  (hval:∀ (i:Nat) (v:Value),items[i]?=some v->∃ t,v=Value.int (val i:Int) t) (hlt:∀ i,i<items.size->val i<lowM)
  (h:∀ (h':Heap) (tk:Nat) L,ybl h' s.heap.objs.size L (!zm w)->(∀ x,x∈keys L↔∃ j,j<items.size/\val j=x)->(∀ b o,s.heap.get? b=some o->h'.get? b=some o)->Q (.ref s.heap.objs.size) { s with heap:=h',toks:=tk }) :
  wpAny (model prog w) A (call (.type "set") [.ref a]) Q E s:=by
 obtain ⟨c,tl,hmro⟩:=F.called_set.mro;have hmade:=F.called_set.made;have hsub:=F.called_set.sub;refine wpAny_call (codeAny_of_tree ?_);show wpAny _ _ (callAny (.type "set") _) _ _ _;refine wm ⟨Code.quiet_builtin _ (by decide +kernel),codeAny_builtin F.entry_type_call ?_⟩;rw [Around.under_plain (weight_type_call_type "set" [.ref a] []) rfl];have h1:=F.called_set.notType;have h2:=F.called_set.canCreate;have hct:=F.typeCall_set_1 (.ref a)
 repeat (any_goals (first | assumption | wp_step))
 refine codeAny_mono (jb8 (.ref a) (E:=E) (Q₁:=λobj s₁=>obj=.ref s.heap.objs.size/\s₁={ s with heap:=s.heap.push (zp [] (!zm w) 0) }) ⟨rfl,rfl⟩) λr s₁ hr=>?_
 cases r with
 | error e=>exact hr
 | ok fl =>
  cases fl with
  | ret obj =>
   obtain ⟨rfl,rfl⟩:=hr;have hS:(s.heap.push (zp [] (!zm w) 0)).get? s.heap.objs.size=some (zp [] (!zm w) 0):=wt _ rfl;have hT:Shared.TypeIs { s with heap:=s.heap.push (zp [] (!zm w) 0) } (.ref s.heap.objs.size) "set":=⟨_,hS,rfl⟩;have hli:=F.called_set.init.lookup;have hbi:=F.called_set.init.bind (.ref s.heap.objs.size)
   repeat (any_goals (first | assumption | wp_step))
   refine codeAny_mono (codeAny_call_builtin (R:=wants (λr s₂=>r=.none/\∃ h' tk L,s₂={ s with heap:=h',toks:=tk }/\ybl h' s.heap.objs.size L (!zm w)/\(∀ x,x∈keys L↔∃ j,j<items.size/\val j=x) /\
     (∀ b o,s.heap.get? b=some o->h'.get? b=some o)) E) F.called_set.init.plain F.entry_set_init (check_set_init_1 hT ?_)) λr₂ s₂ hr₂=>?_
   ·have hne:s.heap.objs.size≠a:=by obtain ⟨o,_,ho,_⟩:=hl.ob;exact Nat.ne_of_gt (wz ho)
    have upd:=ycL (prog:=prog) (w:=w) (A:=A.in1.in1) (E:=λe s'=>E e s') (s:={ s with heap:=s.heap.push (zp [] (!zm w) 0) }) (R:=λs₂=>∃ h' tk L,s₂={ s with heap:=h',toks:=tk }/\ybl h' s.heap.objs.size L (!zm w)/\(∀ x,x∈keys L↔∃ j,j<items.size/\val j=x)/\(∀ b o,s.heap.get? b=some o->h'.get? b=some o))
     (by simp [hh]) (hl.at λo e=>wj _ e) ⟨by decide,0,hS⟩ hne hval hlt λh' tk L x1 x2 x3=>⟨h',tk,L,rfl,x1,x2,λb o e=>x3 b o (wM (wz e)) (wj _ e)⟩
    generalize hUF:Builtin.Frozenset.updateFrom=UF at upd;unfold Builtin.«set.__init__» noKeywords;rw [hUF]
    wp_walk
    exact wpAny_mono upd (λ_ s' hq=>wm ⟨rfl,hq⟩) λ_ _ hq=>hq
   ·cases r₂ with
    | error e=>exact hr₂
    | ok fl₂ =>
     cases fl₂ with
     | ret r =>
      obtain ⟨rfl,h',tk,L,rfl,x1,x2,x3⟩:=hr₂
      repeat (any_goals (first | assumption | wp_step))
      exact h _ _ L x1 x2 x3
     | _=>exact hr₂.elim
  | _=>exact hr.elim
end
theorem slot_setit_next:Slot "set_iterator" "__next__" "set_iterator.__next__" :=
 .of (owner:="set_iterator") (n:="__next__") (by rw [typeLookup_type,builtinLookup_eq_fast];kernel_rfl) (by decide +kernel) (by decide +kernel) (by decide +kernel) (by first | exact .inl (by decide +kernel) | exact .inr (by decide +kernel)) (by rw [isSubtype_type];kernel_rfl)
theorem j0:Manifest.owners.lookup (String.ofList ['r','o','t','a','r','e','t','i','_','t','e','s'].reverse)=some Manifest.sig_set_iterator:=by kernel_rfl
theorem jB:entryFor table "set_iterator.__next__"=some Builtin.«set_iterator.__next__»:=entryFor_of_tree (by kernel_rfl)
theorem jD (a:Value):argsOk "set_iterator.__next__" ⟨[a],[]⟩:=by
 unfold argsOk; rw [signature?_of (id:="set_iterator.__next__") (n:=['_','_','t','x','e','n','_','_']) (o:=['r','o','t','a','r','e','t','i','_','t','e','s']) (by kernel_rfl) j0]; kernel_rfl
theorem jad:entryFor table "set.__iter__"=some Builtin.«frozenset.__iter__» :=
 entryFor_alias (id':="frozenset.__iter__") (by kernel_rfl) (by first | rfl | decide +kernel | (unfold String.splitOn;simp +decide [String.splitOnAux])) (by decide +kernel) (by kernel_rfl)
noncomputable abbrev zE (a:Addr) (slot i n ep:Nat):Obj:={ cls:=.type "set_iterator",dict:=none,data:=.fields #[rawInt slot,rawInt i,.ref a,rawInt n,rawInt ep],slots:=#[] }
section
variable {prog:Program} {w:World} {A:Around} {E:Value->Shared->Prop} {s:Shared}
theorem yx {a:Addr} {L:List (Nat×Tok)} {led:Bool} {ep:Nat} (hin:keys L∈subs lowM) (ho:s.heap.get? a=some (zp L led ep)) {Q:(Array (Int×Value)×Nat×SetTable)->Shared->Prop} (h:Q ((esL L).toArray,ep,yP (keys L) led) s):wpAny (model prog w) A (setState a) Q E s :=
 wpAny_setState_of ho rfl (by rw [jw];exact (z0 hin led).1) h
theorem yag (S:List Nat) (led:Bool):(yP S led).plain=true:=by unfold yP;split<;>rfl
theorem qb9 (S:List Nat) (led:Bool):(yP S led).led=led:=by unfold yP;split<;>rfl
theorem jbg (S:List Nat) (led:Bool):(yP S led).place=S.toArray:=by unfold yP;split<;>rfl
theorem yb9 {a:Addr} {L:List (Nat×Tok)} {led:Bool} {ep:Nat} {Q:Value->Shared->Prop} (hin:keys L∈subs lowM) (ho:s.heap.get? a=some (zp L led ep))
  (hQ:Q (.ref s.heap.objs.size) { s with heap:=s.heap.push (zE a 0 0 L.length ep) }):wpAny (model prog w) A (pyIter (.ref a)) Q E s:=by
 have hT:s.TypeIs (.ref a) "set":=⟨_,ho,rfl⟩;refine wpAny_pyIter_slot hT F.slot_set_iter (wW F.slot_set_iter hT jad ?_ (F.args_set_iter_1 _));unfold Builtin.«frozenset.__iter__» Builtin.Frozenset.slot0 Builtin.Frozenset.sizeOf setEntries setDrawn setEpoch setsByText;refine we (we (m:=slotArgs _ _ _) (wm (wm ?_)));refine we (we (we (yx hin ho (wm (wm ?_)))));refine we (we (yx hin ho (we (we (wpAny_askSetting (wm (wm ?_)))))));have hd:∀ b:Bool,(!b&&(!(yP (keys L) led).plain&&decide ((esL L).toArray.size>1)))=false:=λb=>by rw [yag];cases b<;>rfl
 have hd':=hd (w.params.followText "set-order");refine wpAny_ite_false (vk (Bool.eq_false_iff.mp hd')) ?_;refine we (wm (we (we (yx hin ho (wm ?_)))));refine we (vc (wm ⟨_,rfl,"set_iterator",_,⟨_,wt _ rfl,rfl⟩,slot_setit_next.lookup,?_⟩));have e:(esL L).toArray.size=L.length:=by rw [jw,qA]
 rw [<-e] at hQ;exact hQ
end
theorem jag {α:Type}:∀ (l:List α) (j:Nat) (h:j<l.length),(l[j]::l.eraseIdx j).Perm l
 | x::r,0,_=>by simp
 | x::r,j+1,h=>by
  have h':j<r.length:=by simpa using h
  have:=jag r j h'
  simp only [List.getElem_cons_succ,List.eraseIdx_cons_succ];exact (List.Perm.swap _ _ _).trans (this.cons x)
theorem jcL {α:Type} (next:Nat->Nat):∀ (left:List α) (k:Nat) (out:Array α),(pickOrder.go next left.length k left out).toList.Perm (out.toList++left):=by
 intro left;generalize hn:left.length=n
 induction n generalizing left with
 | zero=>intro k out;have:=List.length_eq_zero_iff.mp hn;subst this;simp [pickOrder.go]
 | succ n ih =>
  intro k out;have hlt:next k%left.length<left.length:=Nat.mod_lt _ (by omega);have hx:left[next k%left.length]?=some left[next k%left.length]:=by simp [hlt]
  rw [pickOrder.go];generalize hj:next k%left.length=j at hlt hx;simp only [hx];refine (ih (left.eraseIdx j) (by rw [List.length_eraseIdx_of_lt hlt];omega) (k+1) (out.push left[j])).trans ?_;rw [Array.toList_push,List.append_assoc];refine List.Perm.append_left _ ?_;exact jag left j hlt
theorem qbx {α:Type} (next:Nat->Nat) (xs:Array α):(pickOrder next xs).toList.Perm xs.toList:=by
 have:=jcL next xs.toList 0 #[]
 simpa [pickOrder] using this
noncomputable def zah (w:World) (a:Addr) (ep:Nat) (L:List (Nat×Tok)):List (Int×Value):=if zm w then (pickOrder (w.params.setOrder a ep) (esL L).toArray).toList else esL L
theorem yA (w:World) (a:Addr) (ep:Nat) (L:List (Nat×Tok)):(zah w a ep L).Perm (esL L):=by
 unfold zah;split
 ·simpa using qbx (w.params.setOrder a ep) (esL L).toArray
 ·exact List.Perm.refl _
noncomputable def slotAt (w:World) (L:List (Nat×Tok)) (i:Nat):Nat:=if zm w then 0 else if i=0 then 0 else (keys L).getD (i-1) 0+1
theorem below_at {S:List Nat} (h:S∈subs lowM) {i:Nat} (hi:i<S.length):SetTable.below S.toArray (if i=0 then 0 else S.getD (i-1) 0+1)=i:=by
 have:=(qap S h).1
 unfold qct at this;exact vg (List.all_eq_true.mp this i (ve.mpr hi))
theorem ybx {S:List Nat} (h:S∈subs lowM):S.length<=SetTable.below S.toArray (if S.length=0 then 0 else S.getD (S.length-1) 0+1):=vg (qap S h).2.1
section
variable {prog:Program} {w:World} {A:Around} {E:Value->Shared->Prop} {s:Shared}
theorem ja2 {a:Addr} {L:List (Nat×Tok)} {ep i:Nat} (hin:keys L∈subs lowM) (ho:s.heap.get? a=some (zp L (!zm w) ep)) (hi:i<=L.length) {Q:Option (Value×Nat)->Shared->Prop}
  (h:Q (((zah w a ep L)[i]?).map λe=>(e.2,slotAt w L (i+1))) s):wpAny (model prog w) A (setNext a (slotAt w L i) i ep) Q E s:=by
 unfold setNext;refine we (yx hin ho ?_);dsimp only;unfold setsByText;refine we (we (wpAny_askSetting (wm ?_)));show wpAny _ _ (if (zm w)=true then _ else _) _ _ s;cases hb:zm w with
 | true =>
  rw [if_pos rfl];simp only [bne_self_eq_false,wo,↓reduceIte];unfold setWalk setsByText;refine we (we (yx hin ho ?_));dsimp only;refine we (we (wpAny_askSetting (wm ?_)));show wpAny _ _ (if (zm w)=true then _ else _) _ _ s;rw [hb,if_pos rfl];refine we (wpAny_askSetting (wm (wm ?_)))
  have e:(pickOrder (w.params.setOrder a ep) (esL L).toArray)[i]?=(zah w a ep L)[i]?:=by
   unfold zah;rw [if_pos hb];simp
  show Q (Option.map _ ((pickOrder (w.params.setOrder a ep) (esL L).toArray)[i]?)) s;rw [e];unfold slotAt at h ⊢;rw [if_pos hb] at h ⊢;exact h
 | false =>
  rw [if_neg wA];have hd:(!(yP (keys L) (!zm w)).plain&&decide ((esL L).toArray.size>1))=false:=by rw [yag];rfl
  rw [hb] at hd;refine wpAny_ite_false (vk (Bool.eq_false_iff.mp hd)) ?_;have hl:(!(yP (keys L) (!false)).led&&!(esL L).toArray.isEmpty)=false:=by rw [qb9];rfl
  refine we (wpAny_ite_false (vk (Bool.eq_false_iff.mp hl)) (wm ?_));refine wm ?_;rw [jbg];have es:slotAt w L i=if i=0 then 0 else (keys L).getD (i-1) 0+1:=by unfold slotAt;rw [hb];rfl
  rw [es];have eo:zah w a ep L=esL L:=by unfold zah;rw [hb];rfl
  rw [eo] at h;have kl:=qA L
  by_cases hlt:i<L.length
  ·rw [below_at hin (by omega)];have e1:(esL L).toArray[i]?=some ((L[i].1:Int),Value.int L[i].1 L[i].2):=by simp [esL,hlt]
   have e2:(keys L).toArray[i]?=some L[i].1:=by simp [keys,hlt]
   have e3:(esL L)[i]?=some ((L[i].1:Int),Value.int L[i].1 L[i].2):=by simp [esL,hlt]
   have e4:slotAt w L (i+1)=L[i].1+1:=by
    unfold slotAt;rw [hb]
    simp [keys,List.getD,hlt]
   rw [e1,e2];rw [e3,e4] at h;exact h
  ·have hil:i=(keys L).length:=by omega
   have hge:=ybx hin;rw [<-hil] at hge
   have e1:(esL L).toArray[SetTable.below (keys L).toArray (if i=0 then 0 else (keys L).getD (i-1) 0+1)]?=none:=by
    have hz:(esL L).toArray.size=i:=by rw [jw,hil]
    exact Array.getElem?_eq_none (by rw [hz];exact hge)
   have e3:(esL L)[i]?=none:=by simp [esL];omega
   rw [e1];rw [e3] at h;exact h
end
section
variable {prog:Program} {w:World} {A:Around} {E:Value->Shared->Prop} {s:Shared}
theorem j3 {a:Addr} {L:List (Nat×Tok)} {led:Bool} {ep:Nat} (hin:keys L∈subs lowM) (ho:s.heap.get? a=some (zp L led ep)) {Q:Array (Int×Value)->Shared->Prop} (h:Q (esL L).toArray s):wpAny (model prog w) A (setEntries a) Q E s:=by
 unfold setEntries;exact we (yx hin ho (wm h))
theorem jb9 {it a:Addr} {L:List (Nat×Tok)} {ep i:Nat} {e:Int×Value} {Q:Option Value->Shared->Prop} (hin:keys L∈subs lowM) (ho:s.heap.get? a=some (zp L (!zm w) ep)) (hit:s.heap.get? it=some (zE a (slotAt w L i) i L.length ep))
  (hx:(zah w a ep L)[i]?=some e) (hQ:∀ h',h'.get? it=some (zE a (slotAt w L (i+1)) (i+1) L.length ep)->Heap.SameBut it s.heap h'->Q (some e.2) { s with heap:=h' }):wpAny (model prog w) A (pyNext (.ref it)) Q E s:=by
 have hT:s.TypeIs (.ref it) "set_iterator":=⟨_,hit,rfl⟩
 have hil:i<L.length:=by
  have:=(wq.mp hx).1
  rwa [(yA w a ep L).length_eq,show (esL L).length=L.length by simp [esL]] at this
 unfold pyNext;refine we (wpAny_attempt (w8 (name:=Str.ofString "__next__") hT slot_setit_next (wW slot_setit_next hT jB ?_ (jD _))));unfold Builtin.«set_iterator.__next__»;refine we (m:=slotArgs _ _ _) (wm ?_);refine we (wpAny_fieldsOf hit rfl ?_);show wpAny _ _ (setEntries a >>= _) _ _ s;refine we (j3 hin ho ?_);have hsz:(((esL L).toArray.size:Int) != ((L.length:Nat):Int))=false:=by rw [jw,qA];simp
 refine wpAny_ite_false (vk (Bool.eq_false_iff.mp hsz)) ?_;show wpAny _ _ (setNext a ((slotAt w L i:Nat):Int).toNat ((i:Nat):Int).toNat ((ep:Nat):Int).toNat >>= _) _ _ s;rw [wV,wV,wV];refine we (ja2 hin ho (Nat.le_of_lt hil) ?_);rw [hx];dsimp only [Option.map_some];refine we (wX hit (by simp) λh1 q1 s1=>?_)
 replace q1:h1.get? it=some (zE a (slotAt w L (i+1)) i L.length ep):=q1
 refine we (wX q1 (by simp) λh2 q2 s2=>?_)
 replace q2:h2.get? it=some (zE a (slotAt w L (i+1)) (i+1) L.length ep):=q2
 exact wm ⟨_,rfl,wm (hQ h2 q2 (s1.trans s2))⟩
theorem zca {it a:Addr} {L:List (Nat×Tok)} {ep:Nat} {Q:Option Value->Shared->Prop} (hh:A.handled=none) (hin:keys L∈subs lowM) (ho:s.heap.get? a=some (zp L (!zm w) ep)) (hit:s.heap.get? it=some (zE a (slotAt w L L.length) L.length L.length ep))
  (hQ:∀ h',Heap.ExtBut it s.heap h'->Q none { s with heap:=h' }):wpAny (model prog w) A (pyNext (.ref it)) Q E s:=by
 have hT:s.TypeIs (.ref it) "set_iterator":=⟨_,hit,rfl⟩;obtain ⟨i,hi⟩:∃ i,i=L.length:=⟨_,rfl⟩;have hit':s.heap.get? it=some (zE a (slotAt w L i) i L.length ep):=by rw [hi];exact hit
 have hx:(zah w a ep L)[i]?=none:=by
  rw [List.getElem?_eq_none_iff,(yA w a ep L).length_eq,show (esL L).length=L.length by simp [esL],hi];exact wC _
 unfold pyNext;refine we (wpAny_attempt (w8 (name:=Str.ofString "__next__") hT slot_setit_next (wW slot_setit_next hT jB ?_ (jD _))));unfold Builtin.«set_iterator.__next__»;refine we (m:=slotArgs _ _ _) (wm ?_);refine we (wpAny_fieldsOf hit' rfl ?_);show wpAny _ _ (setEntries a >>= _) _ _ s;refine we (j3 hin ho ?_);have hsz:(((esL L).toArray.size:Int) != ((L.length:Nat):Int))=false:=by rw [jw,qA];simp
 refine wpAny_ite_false (vk (Bool.eq_false_iff.mp hsz)) ?_;show wpAny _ _ (setNext a ((slotAt w L i:Nat):Int).toNat ((i:Nat):Int).toNat ((ep:Nat):Int).toNat >>= _) _ _ s;rw [wV,wV,wV];refine we (ja2 hin ho (Nat.le_of_eq hi) ?_);rw [hx];dsimp only [Option.map_none];refine we (wX hit' (by simp) λh1 q1 s1=>we ?_);simp only [newExc,newTuple];refine we (vc (we (m:=firstArgMember _ _) (wpAny_of_eq (a:=Value.none) (by first | rfl | (simp only [firstArgMember];rfl)) (vc ?_ (by size_fits)))) (by size_fits));simp only [raiseNew];refine we (wpAny_handled ?_)
 first | rw [show A.in1.handled=none from hh] | rw [hh]
 refine we (wm (wpAny_throw ?_));refine we (wpAny_isInstance (T:="StopIteration") (b:=true) ⟨_,wt _ rfl,rfl⟩ isSubtype_stop ?_);exact wm (hQ _ ((s1.extBut.push _).push _))
end
theorem qE:Slot "set_iterator" "__iter__" "set_iterator.__iter__" :=
 .of (owner:="set_iterator") (n:="__iter__") (by rw [typeLookup_type,builtinLookup_eq_fast];kernel_rfl) (by decide +kernel) (by decide +kernel) (by decide +kernel) (by first | exact .inl (by decide +kernel) | exact .inr (by decide +kernel)) (by rw [isSubtype_type];kernel_rfl)
theorem jV:entryFor table "set_iterator.__iter__"=some Builtin.«dict_keyiterator.__iter__» :=
 entryFor_alias (id':="dict_keyiterator.__iter__") (by kernel_rfl) (by first | rfl | decide +kernel | (unfold String.splitOn;simp +decide [String.splitOnAux])) (by decide +kernel) (by kernel_rfl)
theorem j4 (a:Value):argsOk "set_iterator.__iter__" ⟨[a],[]⟩:=by
 unfold argsOk; rw [signature?_of (id:="set_iterator.__iter__") (n:=['_','_','r','e','t','i','_','_']) (o:=['r','o','t','a','r','e','t','i','_','t','e','s']) (by kernel_rfl) j0]; kernel_rfl
section
variable {prog:Program} {w:World} {A:Around} {E:Value->Shared->Prop} {s:Shared}
theorem zbh {it a:Addr} {slot i n ep:Nat} {Q:Value->Shared->Prop} (hit:s.heap.get? it=some (zE a slot i n ep)) (h:Q (.ref it) s):wpAny (model prog w) A (pyIter (.ref it)) Q E s:=by
 have hT:s.TypeIs (.ref it) "set_iterator":=⟨_,hit,rfl⟩;refine wpAny_pyIter_slot hT qE (wW qE hT jV ?_ (j4 _));show wpAny _ _ (ret (.ref it)) _ _ s;exact wm ⟨_,rfl,"set_iterator",_,hT,slot_setit_next.lookup,h⟩
theorem qca {a:Addr} {L:List (Nat×Tok)} {led:Bool} {ep:Nat} {Q:Bool->Shared->Prop} (ho:s.heap.get? a=some (zp L led ep)) (h:Q false s):wpAny (model prog w) A (Builtin.List.listLengthHint (.ref a)) Q E s:=by
 have hT:s.TypeIs (.ref a) "set":=⟨_,ho,rfl⟩;unfold Builtin.List.listLengthHint;refine we (wpAny_specialOf hT F.slot_set_len.lookup ?_);have hsp:splitId "set.__len__"=some ("set","__len__"):=by kernel_rfl
 simp only [hsp];refine we (wpAny_isInstance hT sub_set_self ?_);refine wpAny_ite_false rfl ?_;refine wpAny_ite_true (by decide +kernel) ?_;exact we (wpAny_typeOf hT (wm h))
end
theorem jbx {prog:Program} {w:World} {A:Around} (hh:A.handled=none) (I a:Addr) (hne:a≠I) (L:List (Nat×Tok)) (ep:Nat) (hin:keys L∈subs lowM) :
  Walks prog w A I [I,a] [I] L.length (λi v=>∃ e,(zah w a ep L)[i]?=some e/\v=e.2) (λi h=>h.get? I=some (zE a (slotAt w L i) i L.length ep)/\h.get? a=some (zp L (!zm w) ep)) where
 sub:=λb hb=>by simp at hb;simp [hb]
 frame:=λ_ _ _ st hk=>⟨hk I (by simp) _ st.1,hk a (by simp) _ st.2⟩
 item:=λi s Q E hi st hQ=>by
  have hol:i<(zah w a ep L).length:=by rw [(yA w a ep L).length_eq];simpa [esL] using hi
  refine jb9 hin st.2 st.1 (e:=(zah w a ep L)[i]) (by simp [hol]) λh' q sb=>?_
  exact hQ _ h' s.toks ⟨_,by simp [hol],rfl⟩ ⟨q,sb.extBut _ _ hne st.2⟩ λb o hb e=>sb.extBut b o (λh=>hb (by simp [h])) e
 done:=λs Q E st hQ=>zca hh hin st.2 st.1 λh' he=>hQ h' s.toks λb o hb e=>he b o (λh=>hb (by simp [h])) e
 self:=λ_ _ _ _ st hQ=>zbh st.1 hQ
end Eng
end
section
namespace Eng
open PySem PyProof.Rows
theorem zby {w:World} {a:Addr} {ep:Nat} {L:List (Nat×Tok)} {acc:Array Value} (h:ItemsOf (λi v=>∃ e,(zah w a ep L)[i]?=some e/\v=e.2) acc L.length):acc.toList=(zah w a ep L).map (·.2):=by
 have hl:(zah w a ep L).length=L.length:=by rw [(yA w a ep L).length_eq];simp [esL]
 apply List.ext_getElem?;intro i
 by_cases hi:i<L.length
 ·have hia:i<acc.size:=by rw [h.1];exact hi
  have h1:acc[i]?=some acc[i]:=by simp [hia]
  obtain ⟨e,he,hv⟩:=h.2 i _ h1;rw [wx,he,Array.getElem?_toList,h1,hv];rfl
 ·rw [List.getElem?_eq_none (by simp [h.1];omega),List.getElem?_eq_none (by simp [hl];omega)]
section
variable {prog:Program} {w:World} {A:Around} {E:Value->Shared->Prop} {s:Shared}
theorem jaQ {a:Addr} {L:List (Nat×Tok)} {ep:Nat} {Q:List Value->Shared->Prop} (hh:A.handled=none) (hin:keys L∈subs lowM) (ho:s.heap.get? a=some (zp L (!zm w) ep))
  (hQ:∀ (h':Heap) (tk:Nat),s.heap.objs.size<h'.objs.size->(∀ b o,s.heap.get? b=some o->h'.get? b=some o)->Q ((zah w a ep L).map (·.2)) { s with heap:=h',toks:=tk }):wpAny (model prog w) A (collect (.ref a)) Q E s:=by
 have halt:a<s.heap.objs.size:=wz ho;unfold collect;refine we (wpAny_runValue (codeAny_builtin F.entry_proto_collect ?_));rw [Around.under_plainId F.plain_proto_collect _];show wpAny _ A.in1 (newList [] >>= λl=>again (.builtin "list.__iadd__" ⟨[l,.ref a],[]⟩)) _ _ s;refine we (vc ?_);refine wm ⟨plainId_quiet F.plain_list_iadd _,codeAny_builtin F.entry_list_iadd ?_⟩;rw [Around.under_plainId F.plain_list_iadd _];obtain ⟨n,hn⟩:∃ n,n=s.heap.objs.size:=⟨_,rfl⟩;obtain ⟨h1,e1⟩:∃ h1,h1=s.heap.push { cls:=.type "list",data:=.seq ([]:List Value).toArray }:=⟨_,rfl⟩;have k1:∀ b o,s.heap.get? b=some o->h1.get? b=some o:=λb o e=>e1▸wj _ e
 have g1:h1.get? n=some { cls:=.type "list",data:=.seq ([]:List Value).toArray }:=by rw [e1,hn];exact wt _ rfl
 have s1:h1.objs.size=n+1:=by rw [e1,Heap.size_push,hn]
 have ho1:=k1 _ _ ho;show wpAny _ A.in1 (Builtin.List.listExtendWith (.ref s.heap.objs.size) (.ref a) (.ref s.heap.objs.size)) _ _ { s with heap:=s.heap.push { cls:=.type "list",data:=.seq ([]:List Value).toArray } };rw [<-e1,<-hn];unfold Builtin.List.listExtendWith;refine we (wpAny_typeOf (T:="set") ⟨_,ho1,rfl⟩ ?_);have q1:Builtin.List.listSameRef (.ref n) (.ref a)=false:=by simp [Builtin.List.listSameRef,hn];exact Nat.ne_of_gt halt
 have q2:(Value.type "set"==Value.type "list")=false:=by decide
 have q3:(Value.type "set"==Value.type "tuple")=false:=by decide
 simp only [q1,q2,q3,Bool.or_false,wo,if_false];refine we (yb9 hin ho1 ?_);obtain ⟨h2,e2⟩:∃ h2,h2=h1.push (zE a 0 0 L.length ep):=⟨_,rfl⟩;have k2:∀ b o,h1.get? b=some o->h2.get? b=some o:=λb o e=>e2▸wj _ e
 have g2:h2.get? (n+1)=some (zE a 0 0 L.length ep):=by rw [e2,<-s1];exact wt _ rfl
 rw [<-e2,s1];refine we (wpAny_holding (qca (k2 _ _ ho1) ?_));refine wpAny_ite_true (by decide +kernel) ?_;refine we (wpAny_rule ?_);have g3:=k2 _ _ g1;refine we ?_;show wpAny _ A.in1 (updateSeq n (·.push .none) >>= λ_=>updateSeq n (·.pop)) _ _ _;refine we (wpAny_updateSeq g3 rfl ?_);have g4:=Heap.get?_update_self (Obj.mapSeq (·.push Value.none)) g3 rfl;refine wpAny_updateSeq g4 rfl ?_;have g5:=Heap.get?_update_self (Obj.mapSeq (·.pop)) g4 rfl
 have oth:∀ b o,b≠n->h2.get? b=some o->((h2.update n (Obj.mapSeq (·.push Value.none))).update n (Obj.mapSeq (·.pop))).get? b=some o :=
  λb o hb e=>(Heap.get?_update_other _ _ (Ne.symm hb)).trans ((Heap.get?_update_other _ _ (Ne.symm hb)).trans e)
 have han:a<n:=by rw [hn];exact halt
 have hna:a≠n:=wM han;have slot0:slotAt w L 0=0:=by unfold slotAt;split<;>rfl
 have hl8:=(z0 hin true).2.1;have hkl:=qA L;refine wm ⟨plainId_quiet F.plain_extend_loop _,codeAny_extend_loopS ((jbx (prog:=prog) (w:=w) (A:=A.in1) (by simp [hh]) (n+1) a (wM (Nat.lt_succ_of_lt han)) L ep hin).toS) (by rw [sizeLine_eq];omega) n (by simp only [wu,List.not_mem_nil,or_false,not_or];exact ⟨wM (Nat.lt_succ_self n),Nat.ne_of_gt han⟩) _ L.length 0 _ _ _ rfl (Nat.zero_le _) ⟨?_,?_⟩ g5 (ItemsOf.nil _) λs' acc' c' mv hS' hacc=>?_⟩
 ·rw [slot0];exact oth _ _ (Nat.ne_of_gt (Nat.lt_succ_self n)) g2
 ·exact oth _ _ hna (k2 _ _ ho1)
 ·show wpAny _ A (load n >>= _) _ _ s';refine we (wpAny_load hS' (wm ?_));rw [zby hacc];obtain ⟨h',g',d',tk',os'⟩:=s';have eg:g'=s.gens:=mv.gens;have ed:d'=s.drawn:=mv.drawn;have eo:os'=s.os:=mv.os;subst eg;subst ed;subst eo
  have nlt:n<h'.objs.size:=wz hS';refine hQ h' tk' (hn▸nlt) λb o e=>mv.heap b o ?_ (oth b o ?_ (k2 _ _ (k1 _ _ e)))
  ·have hb:b<n:=by rw [hn];exact wz e
   simp only [wu,List.not_mem_nil,or_false,not_or];exact ⟨wM hb,wM (Nat.lt_succ_of_lt hb)⟩
  ·exact wM (by rw [hn];exact wz e)
theorem yca (w:World) (a:Addr) (ep:Nat) (L:List (Nat×Tok)):IntsAre ((zah w a ep L).map (·.2)) ((zah w a ep L).map (·.1)):=by
 have:∀ l:List (Int×Value),(∀ e∈l,∃ t,e.2=.int e.1 t)->IntsAre (l.map (·.2)) (l.map (·.1)):=by
  intro l
  induction l with
  | nil=>intro _;exact .nil
  | cons e r ih =>
   intro h;obtain ⟨t,ht⟩:=h e (by simp);rw [List.map_cons,List.map_cons,ht];exact .cons _ _ (ih λe he=>h e (by simp [he]))
 refine this _ λe he=>?_
 have he:=(yA w a ep L).mem_iff.mp he;obtain ⟨p,hp,rfl⟩:=wH.mp he;exact ⟨p.2,rfl⟩
theorem qbh {a:Addr} {L:List (Nat×Tok)} {Q:Value->Shared->Prop} (hh:A.handled=none) (hS:ybl s.heap a L (!zm w))
  (hQ:∀ (h':Heap) (tk:Nat) (l:Addr) (out:List Value) (ns:List Int) (ep:Nat),(∀ b o,s.heap.get? b=some o->h'.get? b=some o)->s.heap.objs.size<=l->h'.get? l=some { cls:=.type "list",data:=.seq out.toArray ep }->IntsAre out ns->ns.Perm ((keys L).map Int.ofNat)->ns.Pairwise (·<=·)->Q (.ref l) { s with heap:=h',toks:=tk }) :
  wpAny (model prog w) A (call (.builtin "sorted") [.ref a]) Q E s:=by
 obtain ⟨hin,ep,ho⟩:=hS;refine Calls.call_function_entry kind_sorted plain_sorted entry_sorted (args_sorted1 _) ?_;unfold Builtin.«sorted»;refine we (m:=checkCount "sorted" 1 1 _) (wm ?_);refine we (jaQ (by simp [hh]) hin ho λh1 tk hz k1=>?_)
 have hlen:((zah w a ep L).map (·.2)).length<=8:=by
  rw [wD,(yA w a ep L).length_eq]
  have:=(z0 hin true).2.1
  rw [qA] at this;simpa [esL] using this
 refine we (wpAny_newList ?_ (by rw [sizeLine_eq];omega));obtain ⟨vs,hvs⟩:∃ vs,vs=(zah w a ep L).map (·.2):=⟨_,rfl⟩;have hints:=yca w a ep L;rw [<-hvs] at hlen hints ⊢;have hoL:(h1.push (seqObj "list" vs.toArray 0)).get? h1.objs.size=some (seqObj "list" vs.toArray 0):=wt _ rfl;show wpAny _ _ _ _ _ { s with heap:=h1.push (seqObj "list" vs.toArray 0),toks:=tk };refine we (wpAny_holding (wW slot_list_sort ⟨_,hoL,rfl⟩ entry_list_sort (list_sort_tree hoL hints (by omega) λout ns' a1 a2 a3=>⟨_,rfl,?_⟩) (args_list_sort _)));obtain ⟨ep',hat⟩:=sortedHeap_at (out:=out) hoL
 have old:∀ b o,h1.get? b=some o->(sortedHeap (h1.push (seqObj "list" vs.toArray 0)) h1.objs.size vs out).get? b=some o:=λb o e=>by
  rw [sortedHeap_old (wM (wz e)) (by rw [size_push'];exact Nat.lt_succ_of_lt (wz e))];exact wj _ e
 refine wm ⟨_,rfl,hQ _ tk h1.objs.size out.toList ns' ep' (λb o e=>old b o (k1 b o e)) (Nat.le_of_lt hz) (by simpa using hat) a1 (a2.trans ?_) a3⟩;have p:=(yA w a ep L).map (·.1);rwa [show (esL L).map (·.1)=(keys L).map Int.ofNat by simp [esL,keys]] at p
end
end Eng
end
section
namespace Eng
open PySem PySem.Spec PyProof.Rows L2
def SqS (K:Frag) (H:Hp) (a:Addr) (ns:List Int):Prop :=
 (∃ o,H a=some (.frz o (.lst (ns.map V.int)))) \/
  ∃ (o:Obj) (its:Array Value) (n:Nat),K.lookup a=some o/\o.cls=.type "list"/\o.dict=none/\o.data=.seq its n/\its.size<=sizeLine/\Vals (ns.map V.int) its.toList
theorem SqS.sq {K:Frag} {H:Hp} {a:Addr} {ns:List Int} (h:SqS K H a ns):SqL K H a (ns.map V.int):=by
 rcases h with ⟨o,h⟩ | h
 ·exact .inl (.inr ⟨o,h⟩)
 ·exact .inr h
theorem SqS.of {K:Frag} {H:Hp} {a:Addr} {ns:List Int} (o:jdn H) (h:SqL K H a (ns.map V.int)):SqS K H a ns:=by
 rcases h with (h | ⟨ob,h⟩) | h
 ·rcases o a with z | ⟨ob,xs,z⟩ | ⟨p,q,z⟩<;>(rw [h] at z;cases z)
 ·exact .inl ⟨ob,h⟩
 ·exact .inr h
noncomputable abbrev jca (es:Array DictEntry) (ep:Nat):Obj:={ cls:=.type "dict",data:=.dict es ep }
noncomputable abbrev qX (a:Addr) (es:Array DictEntry) (ep:Nat):HO:=.ext λh=>h.get? a=some (jca es ep)
class Tb where
 tabs:List (Addr×Pos×Str)
variable [Tb]
mutual
inductive Rep (K:Frag) (B:Addr->Prop) (H:Hp):V->D->Prop where
 | non:Rep K B H .non .non
 | bl (b:Bool):Rep K B H (.bl b) (.bl b)
 | int (i:Int):Rep K B H (.int i) (.int i)
 | str (x:Str):Rep K B H (.str x) (.str x)
 | tup {a:Addr} {vs:List V} {ds:List D}:H a=some (.tup vs)->Reps K B H vs ds->Rep K B H (.ref a) (.tup ds)
 | lst {a:Addr} {vs:List V} {ds:List D}:¬ B a->H a=some (.lst vs)->Reps K B H vs ds->Rep K B H (.ref a) (.lst ds)
 | scr {a:Addr} {ns:List Int}:SqS K H a ns->Rep K B H (.ref a) (.scr ns)
 | grp {a:Addr} {es:Array DictEntry} {ep:Nat} {vs:List V} {ds:List D}:¬ B a->H a=some (qX a es ep)->(a==sysModules)=false->vs.length<=sizeLine->Vals vs (es.toList.map (·.val))->Reps K B H vs ds->Rep K B H (.ref a) (.grp ds)
 | mem {a:Addr} {m:MemP}:H a=some (.mm m)->Rep K B H (.ref a) (.mem m)
 | dct {a:Addr} {kvs:List (Int×Int)}:¬ B a->H a=some (.dK (dkI kvs))->Rep K B H (.ref a) (.dct kvs)
inductive Reps (K:Frag) (B:Addr->Prop) (H:Hp):List V->List D->Prop where
 | nil:Reps K B H [] []
 | cons {v:V} {d:D} {vs:List V} {ds:List D}:Rep K B H v d->Reps K B H vs ds->Reps K B H (v::vs) (d::ds)
end
structure HB (B:Addr->Prop) (H:Hp):Prop where
 h:∀ b,B b->(∃ xs,H b=some (.lst xs))\/∃ es ep,H b=some (qX b es ep)
 t:∀ x∈Tb.tabs,H x.1=some (.tbl x.2.1 x.2.2)
theorem HB.notM {B:Addr->Prop} {H:Hp} {a:Addr} {m:MemP} (hb:HB B H) (e:H a=some (.mm m)):¬ B a:=λz=>by
 rcases hb.h a z with ⟨xs,q⟩ | ⟨es,ep,q⟩<;>(rw [e] at q;cases q)
theorem HB.notT {B:Addr->Prop} {H:Hp} {a:Addr} {vs:List V} (hb:HB B H) (e:H a=some (.tup vs)):¬ B a:=λz=>by
 rcases hb.h a z with ⟨xs,q⟩ | ⟨es,ep,q⟩<;>(rw [e] at q;cases q)
theorem HB.notN {B:Addr->Prop} {H:Hp} {a:Addr} (hb:HB B H) (e:H a=none):¬ B a:=λz=>by
 rcases hb.h a z with ⟨xs,q⟩ | ⟨es,ep,q⟩<;>(rw [e] at q;cases q)
theorem HB.notF {B:Addr->Prop} {H:Hp} {a:Addr} {o:Obj} {u:HO} (hb:HB B H) (e:H a=some (.frz o u)):¬ B a:=λz=>by
 rcases hb.h a z with ⟨xs,q⟩ | ⟨es,ep,q⟩<;>(rw [e] at q;cases q)
def yr (B:Addr->Prop) (H H':Hp):Prop:=∀ b o,¬ B b->H b=some o->H' b=some o
section
variable {K:Frag} {B B':Addr->Prop} {H H':Hp}
theorem HB.same (h:HB B H) (s:Same H H'):HB B H':=⟨λb hb=>(h.h b hb).imp (λ⟨xs,e⟩=>⟨xs,s b _ e⟩) λ⟨es,ep,e⟩=>⟨es,ep,s b _ e⟩,λx hx=>s _ _ (h.t x hx)⟩
mutual
theorem Rep.mono (hb:HB B H) (s:yr B H H'):∀ {v:V} {d:D},Rep K B H v d->Rep K B H' v d
 | _,_,.non=>.non
 | _,_,.bl b=>.bl b
 | _,_,.int i=>.int i
 | _,_,.str x=>.str x
 | _,_,.tup e r=>.tup (s _ _ (hb.notT e) e) (Reps.mono hb s r)
 | _,_,.lst n e r=>.lst n (s _ _ n e) (Reps.mono hb s r)
 | _,_,.scr (.inl ⟨o,e⟩)=>.scr (.inl ⟨o,s _ _ (hb.notF e) e⟩)
 | _,_,.scr (.inr h)=>.scr (.inr h)
 | _,_,.grp n e y z w r=>.grp n (s _ _ n e) y z w (Reps.mono hb s r)
 | _,_,.mem e=>.mem (s _ _ (hb.notM e) e)
 | _,_,.dct n e=>.dct n (s _ _ n e)
theorem Reps.mono (hb:HB B H) (s:yr B H H'):∀ {vs:List V} {ds:List D},Reps K B H vs ds->Reps K B H' vs ds
 | _,_,.nil=>.nil
 | _,_,.cons a r=>.cons (Rep.mono hb s a) (Reps.mono hb s r)
end
mutual
theorem Rep.same (s:Same H H'):∀ {v:V} {d:D},Rep K B H v d->Rep K B H' v d
 | _,_,.non=>.non
 | _,_,.bl b=>.bl b
 | _,_,.int i=>.int i
 | _,_,.str x=>.str x
 | _,_,.tup e r=>.tup (s _ _ e) (Reps.same s r)
 | _,_,.lst n e r=>.lst n (s _ _ e) (Reps.same s r)
 | _,_,.scr (.inl ⟨o,e⟩)=>.scr (.inl ⟨o,s _ _ e⟩)
 | _,_,.scr (.inr h)=>.scr (.inr h)
 | _,_,.grp n e y z w r=>.grp n (s _ _ e) y z w (Reps.same s r)
 | _,_,.mem e=>.mem (s _ _ e)
 | _,_,.dct n e=>.dct n (s _ _ e)
theorem Reps.same (s:Same H H'):∀ {vs:List V} {ds:List D},Reps K B H vs ds->Reps K B H' vs ds
 | _,_,.nil=>.nil
 | _,_,.cons a r=>.cons (Rep.same s a) (Reps.same s r)
end
mutual
theorem Rep.less (s:∀ b,B' b->B b):∀ {v:V} {d:D},Rep K B H v d->Rep K B' H v d
 | _,_,.non=>.non
 | _,_,.bl b=>.bl b
 | _,_,.int i=>.int i
 | _,_,.str x=>.str x
 | _,_,.tup e r=>.tup e (Reps.less s r)
 | _,_,.lst n e r=>.lst (λz=>n (s _ z)) e (Reps.less s r)
 | _,_,.scr h=>.scr h
 | _,_,.grp n e y z w r=>.grp (λq=>n (s _ q)) e y z w (Reps.less s r)
 | _,_,.mem e=>.mem e
 | _,_,.dct n e=>.dct (λq=>n (s _ q)) e
theorem Reps.less (s:∀ b,B' b->B b):∀ {vs:List V} {ds:List D},Reps K B H vs ds->Reps K B' H vs ds
 | _,_,.nil=>.nil
 | _,_,.cons a r=>.cons (Rep.less s a) (Reps.less s r)
end
mutual
theorem Rep.clean:∀ {v:V} {d:D},noL d=true->Rep K B H v d->Rep K B' H v d
 | _,_,_,.non=>.non
 | _,_,_,.bl b=>.bl b
 | _,_,_,.int i=>.int i
 | _,_,_,.str x=>.str x
 | _,_,n,.tup e r=>.tup e (Reps.clean (by simpa [noL] using n) r)
 | _,_,n,.lst _ _ _=>by simp [noL] at n
 | _,_,_,.scr h=>.scr h
 | _,_,n,.grp _ _ _ _ _ _=>by simp [noL] at n
 | _,_,_,.mem e=>.mem e
 | _,_,n,.dct _ _=>by simp [noL] at n
theorem Reps.clean:∀ {vs:List V} {ds:List D},yay ds=true->Reps K B H vs ds->Reps K B' H vs ds
 | _,_,_,.nil=>.nil
 | _,_,n,.cons a r=>by
  rw [yay,wg] at n;exact .cons (Rep.clean n.1 a) (Reps.clean n.2 r)
end
theorem Reps.length:∀ {vs:List V} {ds:List D},Reps K B H vs ds->vs.length=ds.length
 | _,_,.nil=>rfl
 | _,_,.cons _ r=>by simp [Reps.length r]
theorem Reps.get:∀ {vs:List V} {ds:List D} {i:Nat} {d:D},Reps K B H vs ds->ds[i]?=some d->∃ v,vs[i]?=some v/\Rep K B H v d
 | _,_,_,_,.nil,e=>by simp at e
 | _,_,0,_,.cons a r,e=>⟨_,rfl,by simp at e;subst e;exact a⟩
 | _,_,i+1,_,.cons a r,e=>Reps.get (i:=i) r (by simpa using e)
theorem Reps.append:∀ {vs ws:List V} {ds es:List D},Reps K B H vs ds->Reps K B H ws es->Reps K B H (vs++ws) (ds++es)
 | _,_,_,_,.nil,s=>s
 | _,_,_,_,.cons a r,s=>.cons a (Reps.append r s)
theorem Reps.take:∀ {vs:List V} {ds:List D} (n:Nat),Reps K B H vs ds->Reps K B H (vs.take n) (ds.take n)
 | _,_,0,_=>.nil
 | _,_,_+1,.nil=>.nil
 | _,_,n+1,.cons a r=>.cons a (Reps.take n r)
theorem Reps.drop:∀ {vs:List V} {ds:List D} (n:Nat),Reps K B H vs ds->Reps K B H (vs.drop n) (ds.drop n)
 | _,_,0,r=>r
 | _,_,_+1,.nil=>.nil
 | _,_,n+1,.cons a r=>Reps.drop n r
theorem Reps.rep {vs:List V} {ds:List D} (r:Reps K B H vs ds):∀ k:Nat,Reps K B H (List.replicate k vs).flatten (List.replicate k ds).flatten
 | 0=>.nil
 | k+1=>by
  rw [List.replicate_succ,List.replicate_succ,List.flatten_cons,List.flatten_cons];exact Reps.append r (Reps.rep r k)
theorem Reps.ints:∀ {vs:List V} {ds:List D} {ns:List Int},Reps K B H vs ds->intsOf ds=some ns->vs=ns.map V.int
 | _,_,_,.nil,e=>by simp [intsOf] at e;subst e;rfl
 | _,_,_,.cons (d:=d) a r,e=>by
  cases d with
  | int i =>
   rw [intsOf] at e;cases q:intsOf _ with
   | none=>rw [q] at e;simp at e
   | some ms =>
    rw [q] at e;simp at e;subst e
    cases a;rw [Reps.ints r q];rfl
  | _=>simp [intsOf] at e
theorem Reps.of_ints:∀ (ns:List Int),Reps K B H (ns.map V.int) (ns.map D.int)
 | []=>.nil
 | n::r=>.cons (.int n) (Reps.of_ints r)
theorem Reps.bls:∀ {vs:List V} {ds:List D} {ts:List Bool},Reps K B H vs ds->yad ds=some ts->vs=ts.map V.bl
 | _,_,_,.nil,e=>by simp [yad] at e;subst e;rfl
 | _,_,_,.cons (d:=d) a r,e=>by
  cases d with
  | bl i =>
   rw [yad] at e;cases q:yad _ with
   | none=>rw [q] at e;simp at e
   | some ms =>
    rw [q] at e;simp at e;subst e
    cases a;rw [Reps.bls r q];rfl
  | _=>simp [yad] at e
theorem qa {p:Addr} (h:H p=none) (o:HO):Same H (upd H p o):=λb u q=>by rw [ja (jc q h)];exact q
def Fresh (H:Hp) (v:V):Prop:=∃ a,v=.ref a/\H a=none
theorem Fresh.back {v:V} (s:Same H H') (f:Fresh H' v):Fresh H v:=let ⟨a,e,h⟩:=f;⟨a,e,s.free h⟩
theorem Rep.newT {p:Addr} {vs:List V} {ds:List D} (h:H p=none) (r:Reps K B H vs ds):Rep K B (upd H p (.tup vs)) (.ref p) (.tup ds):=.tup ya (r.same (qa h _))
theorem Rep.newL {p:Addr} {vs:List V} {ds:List D} (hb:HB B H) (h:H p=none) (r:Reps K B H vs ds):Rep K B (upd H p (.lst vs)) (.ref p) (.lst ds) :=
 .lst (hb.notN h) ya (r.same (qa h _))
def ER (K:Frag) (B:Addr->Prop) (H:Hp) (σ:L2.St) (ρ:En):Prop:=∀ (i:Nat) (d:D),ρ[i]?=some (some d)->∃ v,σ[i]?=some (some v)/\Rep K B H v d
theorem ER.same {σ:L2.St} {ρ:En} (h:ER K B H σ ρ) (s:Same H H'):ER K B H' σ ρ:=λi d e=>let ⟨v,q,r⟩:=h i d e;⟨v,q,r.same s⟩
end
def tD (K:Frag) (B:Addr->Prop) (ρ:En) (d:D):TE:=λσ H Q=>HB B H/\ER K B H σ ρ/\∀ v H',Same H H'->Rep K B H' v d->Q v H'
def tF (K:Frag) (B:Addr->Prop) (ρ:En) (d:D):TE:=λσ H Q=>HB B H/\ER K B H σ ρ/\∀ v H',Same H H'->Rep K B H' v d->Fresh H v->Q v H'
def tDs (K:Frag) (B:Addr->Prop) (ρ:En) (ds:List D):TA:=λσ H Q=>HB B H/\ER K B H σ ρ/\∀ vs H',Same H H'->Reps K B H' vs ds->Q vs H'
def tTr (K:Frag) (B:Addr->Prop) (ρ:En) (b:Bool):TT:=λσ H Q=>HB B H/\ER K B H σ ρ/\∀ H',Same H H'->Q b H'
def SE (X:Cx) (C:Tab) (e:Expr) (c:Code):Prop:=∀ B ρ d,ev C c ρ=some d->PE X e (tD X.K B ρ d)
def SF (X:Cx) (C:Tab) (e:Expr) (c:Code):Prop:=∀ B ρ ds,ev C c ρ=some (.lst ds)->PE X e (tF X.K B ρ (.lst ds))
def SA (X:Cx) (C:Tab) (es:List Expr) (cs:Codes):Prop:=∀ B ρ ds,evs C cs ρ=some ds->PA X es (tDs X.K B ρ ds)
def SB (X:Cx) (C:Tab) (e:Expr) (c:Code):Prop:=∀ B ρ d k,ev C c ρ=some d->truO d=some k->PT X e (tTr X.K B ρ k)
def rD2 (K:Frag) (f:D->D->Option D):R2:=λx y H Q=>∃ B dx dy d,HB B H/\Rep K B H x dx/\Rep K B H y dy/\f dx dy=some d /\
 ∀ v H',Same H H'->Rep K B H' v d->(∀ ds,d=.lst ds->Fresh H v)->Q v H'
def rDs (K:Frag) (f:List D->Option D):List V->Hp->VK->Prop:=λxs H Q=>∃ B dx d,HB B H/\Reps K B H xs dx/\f dx=some d /\
 ∀ v H',Same H H'->Rep K B H' v d->(∀ ds,d=.lst ds->Fresh H v)->Q v H'
theorem _root_.L2.PE.imp {X:Cx} {e:Expr} {t t':TE} (h:PE X e t) (i:∀ σ H Q,t' σ H Q->t σ H Q):PE X e t':=λpins s σ H Q I q=>h pins s σ H Q I (i _ _ _ q)
theorem _root_.L2.PT.imp {X:Cx} {e:Expr} {t t':TT} (h:PT X e t) (i:∀ σ H Q,t' σ H Q->t σ H Q):PT X e t':=λpins s σ H Q I q=>h pins s σ H Q I (i _ _ _ q)
theorem _root_.L2.PA.imp {X:Cx} {e:List Expr} {t t':TA} (h:PA X e t) (i:∀ σ H Q,t' σ H Q->t σ H Q):PA X e t':=λpos pins s σ H Q I q=>h pos pins s σ H Q I (i _ _ _ q)
theorem wa {α β:Type} {o:Option α} {f:α->Option β} {b:β} (h:o.bind f=some b):∃ a,o=some a/\f a=some b:=by
 cases o with
 | none=>cases h
 | some a=>exact ⟨a,rfl,h⟩
theorem wb {α β:Type} {o:Option α} {f:α->β} {b:β} (h:o.map f=some b):∃ a,o=some a/\f a=b:=by
 cases o with
 | none=>cases h
 | some a=>exact ⟨a,rfl,wB h⟩
section
variable {X:Cx} {C:Tab} {a b c:Expr} {ca cb cc:Code} {pos:Pos}
theorem SF.se (h:SF X C a ca):∀ B ρ ds,ev C ca ρ=some (.lst ds)->PE X a (tD X.K B ρ (.lst ds)):=λB ρ ds e =>
 (h B ρ ds e).imp λσ H Q ⟨h1,h2,q⟩=>⟨h1,h2,λv H' s r _=>q v H' s r⟩
theorem zds {i:Int} {j:Nat}:SE X C (.Constant (.int i) j pos) (.cst (.int i)):=λB ρ d e=>by
 cases e;exact (ydf).imp λσ H Q ⟨_,_,q⟩=>q _ H (Same.refl H) (.int i)
theorem yd4 {i:Bool} {j:Nat}:SE X C (.Constant (.bool i) j pos) (.cst (.bl i)):=λB ρ d e=>by
 cases e;exact (jcD).imp λσ H Q ⟨_,_,q⟩=>q _ H (Same.refl H) (.bl i)
theorem qds {j:Nat}:SE X C (.Constant .none j pos) (.cst .non):=λB ρ d e=>by
 cases e;exact (jdf).imp λσ H Q ⟨_,_,q⟩=>q _ H (Same.refl H) .non
theorem yds {x:Str} {j:Nat}:SE X C (.Constant (.str x) j pos) (.cst (.str x)):=λB ρ d e=>by
 cases e;exact (zdg).imp λσ H Q ⟨_,_,q⟩=>q _ H (Same.refl H) (.str x)
theorem jds {i:Nat} {x:Str} (hN:X.N[i]?=some x) (hv:Vis X.env.scope x) (hd:(x==("__debug__":Str))=false) (hcd:(x==("__classdict__":Str))=false):SE X C (.Name x pos) (.var i):=λB ρ d e=>by
 have e':ρ[i]?=some (some d):=by
  rw [ev] at e;cases q:ρ[i]? with
  | none=>rw [q] at e;cases e
  | some o=>rw [q] at e;exact congrArg some e
 refine (zD hN hv hd hcd).imp λσ H Q ⟨_,h2,q⟩=>?_
 obtain ⟨v,e1,r⟩:=h2 i d e';exact ⟨v,e1,q v H (Same.refl H) r⟩
theorem zcM {x:Str} {v:V} {u:Value} {d:D} (hg:Gl X x) (hm:X.mg x=some u) (r:RelV v u) (hv:∀ B H,Rep X.K B H v d) (hd:(x==("__debug__":Str))=false):SE X C (.Name x pos) (.cst d):=λB ρ d' e=>by
 cases e;exact (zcE hg hm r hd).imp λσ H Q ⟨_,_,q⟩=>q v H (Same.refl H) (hv B H)
theorem zcb {K:Frag} {B:Addr->Prop} {ρ:En} {dx dy d:D} {f:D->D->Option D} (hf:f dx dy=some d) {σ:L2.St} {H:Hp} {Q:VK}
  (h1:HB B H) (h2:ER K B H σ ρ) (q:∀ v H',Same H H'->Rep K B H' v d->(∀ ds,d=.lst ds->Fresh H v)->Q v H'):tOp (rD2 K f) (tD K B ρ dx) (tD K B ρ dy) σ H Q :=
 ⟨h1,h2,λx H1 s1 r1=>⟨h1.same s1,h2.same s1,λy H2 s2 r2=>⟨B,dx,dy,d,(h1.same s1).same s2,r1.same s2,r2,hf,λv H' s3 r3 fr=>q v H' ((s1.trans s2).trans s3) r3 λds e=>(fr ds e).back (s1.trans s2)⟩⟩⟩
theorem zdt {op:Operator} (ho:OpR X (binaryOp op) (rD2 X.K (qM op))) (ha:SE X C a ca) (hb:SE X C b cb):SE X C (.BinOp a op b pos) (.bin op ca cb):=λB ρ d e=>by
 obtain ⟨dx,ex,e⟩:=wa (show (ev C ca ρ).bind _=some d from e);obtain ⟨dy,ey,e⟩:=wa e;exact (zdj ho (ha B ρ dx ex) (hb B ρ dy ey)).imp λσ H Q ⟨h1,h2,q⟩=>zcb e h1 h2 λv H' s r _=>q v H' s r
theorem qdt {op:Operator} (ho:OpR X (binaryOp op) (rD2 X.K (qM op))) (ha:SE X C a ca) (hb:SE X C b cb):SF X C (.BinOp a op b pos) (.bin op ca cb):=λB ρ ds e=>by
 obtain ⟨dx,ex,e⟩:=wa (show (ev C ca ρ).bind (λx=>(ev C cb ρ).bind λy=>qM op x y)=some (D.lst ds) from e);obtain ⟨dy,ey,e⟩:=wa e;exact (zdj ho (ha B ρ dx ex) (hb B ρ dy ey)).imp λσ H Q ⟨h1,h2,q⟩=>zcb e h1 h2 λv H' s r f=>q v H' s r (f ds rfl)
theorem ydt (ha:SE X C a ca):SE X C (.UnaryOp .USub a pos) (.neg ca):=λB ρ d e=>by
 obtain ⟨dx,ex,e⟩:=wa (show (ev C ca ρ).bind _=some d from e);cases dx with
 | int i =>
  cases e;refine (zdY ydk (ha B ρ _ ex)).imp λσ H Q ⟨h1,h2,q⟩=>⟨h1,h2,λv H' s r=>?_⟩
  cases r;exact ⟨i,rfl,q _ H' s (.int _)⟩
 | _=>cases e
noncomputable def zW (op:CmpOp):D->D->Option D:=λx y=>(yC op x y).map D.bl
theorem jdt {op:CmpOp} (ho:OpR X (compareOp op) (rD2 X.K (zW op))) (ha:SE X C a ca) (hb:SE X C b cb) (hm:behindInMarks op b=false):SE X C (.Compare a [op] [b] pos) (.cmp op ca cb):=λB ρ d e=>by
 obtain ⟨dx,ex,e⟩:=wa (show (ev C ca ρ).bind _=some d from e);obtain ⟨dy,ey,e⟩:=wa e;exact (ycF ho (ha B ρ dx ex) (hb B ρ dy ey) hm).imp λσ H Q ⟨h1,h2,q⟩=>zcb (f:=zW op) e h1 h2 λv H' s r _=>q v H' s r
theorem zdu {op:CmpOp} (ho:OpR X (compareOp op) (rD2 X.K (zW op))) (ha:SE X C a ca) (hb:SE X C b cb) (hm:behindInMarks op b=false):SB X C (.Compare a [op] [b] pos) (.cmp op ca cb):=λB ρ d k' e hk=>by
 obtain ⟨dx,ex,e⟩:=wa (show (ev C ca ρ).bind _=some d from e);obtain ⟨dy,ey,e⟩:=wa e;obtain ⟨k,ek,rfl⟩:=wb e;cases hk;refine (qbp ho (ha B ρ dx ex) (hb B ρ dy ey) hm).imp λσ H Q ⟨h1,h2,q⟩=>?_
 refine zcb (f:=zW op) (d:=.bl k) (by unfold zW;rw [ek];rfl) h1 h2 λv H' s r _=>?_
 cases r;exact ⟨k,rfl,q H' s⟩
theorem qH {K:Frag} {B:Addr->Prop} {ρ:En} {dx dy d:D} {op op':CmpOp} {t:Bool} {tc:TE} (ht:yC op dx dy=some t)
  (hc:t=true->∃ dz k,yC op' dy dz=some k/\d=.bl k/\tc=tD K B ρ dz) (hn:t=false->d=.bl false) {σ:L2.St} {H:Hp} {Q:VK}
  (h1:HB B H) (h2:ER K B H σ ρ) (q:∀ v H',Same H H'->Rep K B H' v d->Q v H'):ybp (rD2 K (zW op)) (rD2 K (zW op')) (tD K B ρ dx) (tD K B ρ dy) tc σ H Q:=by
 refine ⟨h1,h2,λx H1 s1 r1=>⟨h1.same s1,h2.same s1,λy H2 s2 r2=>?_⟩⟩;refine ⟨B,dx,dy,.bl t,(h1.same s1).same s2,r1.same s2,r2,by unfold zW;rw [ht];rfl,λz H3 s3 r3 _=>?_⟩;cases r3;refine ⟨t,rfl,?_⟩;have s12:=(s1.trans s2).trans s3;cases t with
 | false =>
  rw [if_neg wA];cases hn rfl;exact q _ H3 s12 (.bl _)
 | true =>
  rw [if_pos rfl];obtain ⟨dz,k,ek,rfl,rfl⟩:=hc rfl;refine ⟨h1.same s12,h2.same s12,λw H4 s4 r4=>⟨B,dy,dz,.bl k,(h1.same s12).same s4,(r2.same s3).same s4,r4,by unfold zW;rw [ek];rfl,λv H5 s5 r5 _=>q v H5 ((s12.trans s4).trans s5) r5⟩⟩
theorem qdu {op op':CmpOp} (ho:OpR X (compareOp op) (rD2 X.K (zW op))) (ho':OpR X (compareOp op') (rD2 X.K (zW op'))) (ha:SE X C a ca) (hb:SE X C b cb) (hc:SE X C c cc) (hm:lastMarks [op,op'] [b,c]=false) :
  SE X C (.Compare a [op,op'] [b,c] pos) (.chn op op' ca cb cc):=λB ρ d e=>by
 obtain ⟨dx,ex,e⟩:=wa (show (ev C ca ρ).bind _=some d from e);obtain ⟨dy,ey,e⟩:=wa e;obtain ⟨t,et,e⟩:=wa e;cases t with
 | false =>
  rw [if_neg wA] at e;cases e;have hz:∃ tc,PE X c tc:=⟨λ_ _ _=>False,λ_ _ _ _ _ _ z=>z.elim⟩;obtain ⟨tc,hz⟩:=hz;exact (jaY ho ho' (ha B ρ dx ex) (hb B ρ dy ey) hz hm).imp λσ H Q ⟨h1,h2,q⟩=>qH et (λz=>by cases z) (λ_=>rfl) h1 h2 q
 | true =>
  rw [if_pos rfl] at e;obtain ⟨dz,ez,e⟩:=wa e;obtain ⟨k,ek,rfl⟩:=wb e;exact (jaY ho ho' (ha B ρ dx ex) (hb B ρ dy ey) (hc B ρ dz ez) hm).imp λσ H Q ⟨h1,h2,q⟩=>qH et (λ_=>⟨dz,k,ek,rfl,rfl⟩) (λz=>by cases z) h1 h2 q
theorem ydu {op op':CmpOp} (ho:OpR X (compareOp op) (rD2 X.K (zW op))) (ho':OpR X (compareOp op') (rD2 X.K (zW op'))) (ha:SE X C a ca) (hb:SE X C b cb) (hc:SE X C c cc) (hm:lastMarks [op,op'] [b,c]=false) :
  SB X C (.Compare a [op,op'] [b,c] pos) (.chn op op' ca cb cc):=λB ρ d k' e hk=>by
 obtain ⟨dx,ex,e⟩:=wa (show (ev C ca ρ).bind _=some d from e);obtain ⟨dy,ey,e⟩:=wa e;obtain ⟨t,et,e⟩:=wa e;cases t with
 | false =>
  rw [if_neg wA] at e;cases e;cases hk;have hz:∃ tc,PE X c tc:=⟨λ_ _ _=>False,λ_ _ _ _ _ _ z=>z.elim⟩;obtain ⟨tc,hz⟩:=hz;refine (zaZ ho ho' (ha B ρ dx ex) (hb B ρ dy ey) hz hm).imp λσ H Q ⟨h1,h2,q⟩=>qH et (λz=>by cases z) (λ_=>rfl) h1 h2 λv H' s r=>?_
  cases r;exact ⟨_,rfl,q H' s⟩
 | true =>
  rw [if_pos rfl] at e;obtain ⟨dz,ez,e⟩:=wa e;obtain ⟨k,ek,rfl⟩:=wb e;cases hk;refine (zaZ ho ho' (ha B ρ dx ex) (hb B ρ dy ey) (hc B ρ dz ez) hm).imp λσ H Q ⟨h1,h2,q⟩=>qH et (λ_=>⟨dz,k,ek,rfl,rfl⟩) (λz=>by cases z) h1 h2 λv H' s r=>?_
  cases r;exact ⟨_,rfl,q H' s⟩
theorem Rep.tru {K:Frag} {B:Addr->Prop} {H:Hp} {v:V} {d:D} {k:Bool} (r:Rep K B H v d) (hs:truO d=some k):jdZ K v H k:=by
 cases r with
 | non=>cases hs;rfl
 | bl b=>cases hs;rfl
 | int i=>cases hs;rfl
 | str x=>cases hs
 | tup e r=>cases hs;exact .inr (.inl ⟨_,SqT.of e,by cases r<;>rfl⟩)
 | lst n e r=>cases hs;exact .inl ⟨_,SqL.of e,by cases r<;>rfl⟩
 | scr h=>cases hs;exact .inl ⟨_,h.sq,by simp [qee,List.isEmpty_map]⟩
 | grp _ _ _ _ _ _=>cases hs
 | mem _=>cases hs
 | dct _ _=>cases hs
theorem jd4 (ha : SE X C a ca) (he : ∀ whole, isTrue a X.env whole = (do let v <- whole; standAt a.pos; holding [v] (truthy v))) : SB X C a ca := λB ρ d k e hk =>
 (qb4 (ha B ρ d e) he).imp λσ H Q ⟨h1,h2,q⟩=>⟨h1,h2,λv H' s r=>⟨k,r.tru hk,q H' s⟩⟩
theorem jdu (ha:SB X C a ca):SB X C (.UnaryOp .Not a pos) (.not ca):=λB ρ d k e hk=>by
 obtain ⟨dx,ex,e⟩:=wa (show (ev C ca ρ).bind _=some d from e);obtain ⟨t,et,rfl⟩:=wb e;cases hk;exact (jdg (ha B ρ dx t ex et)).imp λσ H Q ⟨h1,h2,q⟩=>⟨h1,h2,λH' s=>q H' s⟩
theorem zdv (ha:SE X C a ca):SE X C (.UnaryOp .Not a pos) (.not ca):=λB ρ d e=>by
 obtain ⟨dx,ex,e⟩:=wa (show (ev C ca ρ).bind _=some d from e);obtain ⟨t,et,rfl⟩:=wb e;intro pins s σ H Q I ⟨h1,h2,q⟩;refine UnaryOp_ (thn (ha B ρ dx ex pins s σ H (λv H'=>Same H H'/\Rep X.K B H' v dx) I ⟨h1,h2,λv H' s r=>⟨s,r⟩⟩) λv s1 ⟨x,H1,I1,r1,s01,rx⟩=>?_);have tr:=zcq pins s1 σ H1 x v (λb H'=>b=t/\H'=H1) I1 r1 ⟨t,rx.tru et,rfl,rfl⟩;refine not_of (thn tr λb s2 z=>?_);obtain ⟨H2,I2,eb,eH⟩:=z;subst eb;subst eH
 exact ⟨.bl (!b),H2,I2,rfl,q _ H2 s01 (.bl _)⟩
theorem qdv {rest:List Expr} {p:Pos} (ha:SB X C a ca) (hb:∀ B ρ d k,ev C cb ρ=some d->truO d=some k->PW X (.BoolOp .And (b::rest) p) (tTr X.K B ρ k)) :
  ∀ B ρ d k,ev C (.and ca cb) ρ=some d->truO d=some k->PW X (.BoolOp .And (a::b::rest) p) (tTr X.K B ρ k):=λB ρ d k e hk=>by
 obtain ⟨dx,ex,e⟩:=wa (show (ev C ca ρ).bind _=some d from e);cases dx with
 | bl t =>
  cases t with
  | true =>
   intro wh pins s σ H Q I ⟨h1,h2,q⟩;exact zcp (ha B ρ _ true ex rfl) (hb B ρ d k e hk) wh pins s σ H Q I ⟨h1,h2,λH' s=>qcI ⟨h1.same s,h2.same s,λH'' s'=>q H'' (s.trans s')⟩⟩
  | false =>
   cases e;cases hk;intro wh pins s σ H Q I ⟨h1,h2,q⟩;exact zcp (tB':=λ_ _ _=>False) (ha B ρ _ false ex rfl) (λ_ _ _ _ _ _ _ z=>z.elim) wh pins s σ H Q I ⟨h1,h2,λH' s=>zcI (q H' s)⟩
 | _=>cases e
theorem zd5 {rest:List Expr} {p:Pos} (ha:SB X C a ca) (hb:∀ B ρ d k,ev C cb ρ=some d->truO d=some k->PW X (.BoolOp .Or (b::rest) p) (tTr X.K B ρ k)) :
  ∀ B ρ d k,ev C (.or ca cb) ρ=some d->truO d=some k->PW X (.BoolOp .Or (a::b::rest) p) (tTr X.K B ρ k):=λB ρ d k e hk=>by
 obtain ⟨dx,ex,e⟩:=wa (show (ev C ca ρ).bind _=some d from e);cases dx with
 | bl t =>
  cases t with
  | false =>
   intro wh pins s σ H Q I ⟨h1,h2,q⟩;exact ydg (ha B ρ _ false ex rfl) (hb B ρ d k e hk) wh pins s σ H Q I ⟨h1,h2,λH' s=>zcI ⟨h1.same s,h2.same s,λH'' s'=>q H'' (s.trans s')⟩⟩
  | true =>
   cases e;cases hk;intro wh pins s σ H Q I ⟨h1,h2,q⟩;exact ydg (tB':=λ_ _ _=>False) (ha B ρ _ true ex rfl) (λ_ _ _ _ _ _ _ z=>z.elim) wh pins s σ H Q I ⟨h1,h2,λH' s=>qcI (q H' s)⟩
 | _=>cases e
theorem ybh {p:Pos} (ha:SB X C a ca):∀ B ρ d k,ev C ca ρ=some d->truO d=some k->PW X (.BoolOp .And [a] p) (tTr X.K B ρ k):=λB ρ d k e hk=>qcE (ha B ρ d k e hk)
theorem qby {p:Pos} (ha:SB X C a ca):∀ B ρ d k,ev C ca ρ=some d->truO d=some k->PW X (.BoolOp .Or [a] p) (tTr X.K B ρ k):=λB ρ d k e hk=>qdg (ha B ρ d k e hk)
theorem ydv {op:BoolOp} (ha:SE X C a ca):SE X C (.BoolOp op [a] pos) ca:=λB ρ d e=>zdh (ha B ρ d e)
theorem jdv {rest:List Expr} (ha:SE X C a ca) (hb:SE X C (.BoolOp .And (b::rest) pos) cb):SE X C (.BoolOp .And (a::b::rest) pos) (.and ca cb):=λB ρ d e=>by
 obtain ⟨dx,ex,e⟩:=wa (show (ev C ca ρ).bind _=some d from e);cases dx with
 | bl t =>
  cases t with
  | true =>
   refine (qcp (ha B ρ _ ex) (hb B ρ d e)).imp λσ H Q ⟨h1,h2,q⟩=>⟨h1,h2,λv H' s r=>?_⟩
   cases r;exact ⟨true,rfl,qcI ⟨h1.same s,h2.same s,λv H'' s' r'=>q v H'' (s.trans s') r'⟩⟩
  | false =>
   cases e;refine (qcp (tb:=λ_ _ _=>False) (ha B ρ _ ex) (λ_ _ _ _ _ _ z=>z.elim)).imp λσ H Q ⟨h1,h2,q⟩=>⟨h1,h2,λv H' s r=>?_⟩
   cases r;exact ⟨false,rfl,zcI (q _ H' s (.bl _))⟩
 | _=>cases e
theorem qd5 {rest:List Expr} (ha:SE X C a ca) (hb:SE X C (.BoolOp .Or (b::rest) pos) cb):SE X C (.BoolOp .Or (a::b::rest) pos) (.or ca cb):=λB ρ d e=>by
 obtain ⟨dx,ex,e⟩:=wa (show (ev C ca ρ).bind _=some d from e);cases dx with
 | bl t =>
  cases t with
  | false =>
   refine (qdh (ha B ρ _ ex) (hb B ρ d e)).imp λσ H Q ⟨h1,h2,q⟩=>⟨h1,h2,λv H' s r=>?_⟩
   cases r;exact ⟨false,rfl,zcI ⟨h1.same s,h2.same s,λv H'' s' r'=>q v H'' (s.trans s') r'⟩⟩
  | true =>
   cases e;refine (qdh (tb:=λ_ _ _=>False) (ha B ρ _ ex) (λ_ _ _ _ _ _ z=>z.elim)).imp λσ H Q ⟨h1,h2,q⟩=>⟨h1,h2,λv H' s r=>?_⟩
   cases r;exact ⟨true,rfl,qcI (q _ H' s (.bl _))⟩
 | _=>cases e
theorem zdw (hc:SB X C c cc) (ha:SE X C a ca) (hb:SE X C b cb):SE X C (.IfExp c a b pos) (.ite cc ca cb):=λB ρ d e=>by
 obtain ⟨dx,ex,e⟩:=wa (show (ev C cc ρ).bind _=some d from e);obtain ⟨k,ek,e⟩:=wa e;cases k with
 | true =>
  rw [if_pos rfl] at e;exact (zaY (tb:=λ_ _ _=>False) (hc B ρ dx true ex ek) (ha B ρ d e) (λ_ _ _ _ _ _ z=>z.elim)).imp λσ H Q ⟨h1,h2,q⟩=>⟨h1,h2,λH' s=>qcI ⟨h1.same s,h2.same s,λv H'' s' r'=>q v H'' (s.trans s') r'⟩⟩
 | false =>
  rw [if_neg wA] at e;exact (zaY (ta:=λ_ _ _=>False) (hc B ρ dx false ex ek) (λ_ _ _ _ _ _ z=>z.elim) (hb B ρ d e)).imp λσ H Q ⟨h1,h2,q⟩=>⟨h1,h2,λH' s=>zcI ⟨h1.same s,h2.same s,λv H'' s' r'=>q v H'' (s.trans s') r'⟩⟩
theorem yn:SA X C [] .nil:=λB ρ ds e=>by
 cases e;exact (jaf).imp λσ H Q ⟨_,_,q⟩=>q [] H (Same.refl H) .nil
theorem zi {es:List Expr} {cs:Codes} (ha:SE X C a ca) (hr:SA X C es cs) (hs:starEach (a::es) X.env=(false,eval a X.env)::starEach es X.env):SA X C (a::es) (.cons ca cs):=λB ρ ds e=>by
 obtain ⟨d,ed,e⟩:=wa (show (ev C ca ρ).bind _=some ds from e);obtain ⟨dr,er,rfl⟩:=wb e;exact (qD (ha B ρ d ed) (hr B ρ dr er) hs).imp λσ H Q ⟨h1,h2,q⟩=>⟨h1,h2,λv H1 s1 r1=>⟨h1.same s1,h2.same s1,λvs H2 s2 r2=>q _ H2 (s1.trans s2) (.cons (r1.same s2) r2)⟩⟩
theorem jct {es:List Expr} {cs:Codes} {k:Nat} (h:SA X C es cs):SE X C (.Tuple es k pos) (.tup cs):=λB ρ d e=>by
 obtain ⟨ds,ed,e⟩:=wa (show (evs C cs ρ).bind _=some d from e);split at e
 ·rename_i hz;cases e;exact (ydl (h B ρ ds ed)).imp λσ H Q ⟨h1,h2,q⟩=>⟨h1,h2,λvs H1 s1 r1=>⟨by rw [r1.length];exact hz,λp hp=>q _ _ (s1.trans (qa hp _)) (.newT hp r1)⟩⟩
 ·cases e
theorem yby {es:List Expr} {cs:Codes} (h:SA X C es cs):SF X C (.List es pos) (.lst cs):=λB ρ ds e=>by
 obtain ⟨ds',ed,e⟩:=wa (show (evs C cs ρ).bind (λxs=>if xs.length<=sizeLine then some (D.lst xs) else none)=some (D.lst ds) from e);split at e
 ·rename_i hz;cases e;exact (jdl (h B ρ _ ed)).imp λσ H Q ⟨h1,h2,q⟩=>⟨h1,h2,λvs H1 s1 r1=>⟨by rw [r1.length];exact hz,λp hp=>q _ _ (s1.trans (qa hp _)) (.newL (h1.same s1) hp r1) ⟨p,rfl,s1.free hp⟩⟩⟩
 ·cases e
theorem qdw {es:List Expr} {cs:Codes} (h:SA X C es cs):SE X C (.List es pos) (.lst cs):=λB ρ d e=>by
 have:∃ ds,d=.lst ds:=by
  obtain ⟨ds',ed,e⟩:=wa (show (evs C cs ρ).bind _=some d from e);split at e
  ·cases e;exact ⟨_,rfl⟩
  ·cases e
 obtain ⟨ds,rfl⟩:=this;exact SF.se (yby h) B ρ ds e
end
end Eng
end
section
namespace Eng
open PySem PySem.Spec PyProof.Rows L2
variable [Tb]
section
variable {K:Frag} {B:Addr->Prop} {H:Hp} {v:V} {ds:List D}
theorem Rep.tupD (r:Rep K B H v (.tup ds)):∃ a vs,v=.ref a/\H a=some (.tup vs)/\Reps K B H vs ds:=by cases r with | tup e r=>exact ⟨_,_,rfl,e,r⟩
theorem Rep.lstD (r:Rep K B H v (.lst ds)):∃ a vs,v=.ref a/\¬ B a/\H a=some (.lst vs)/\Reps K B H vs ds:=by cases r with | lst n e r=>exact ⟨_,_,rfl,n,e,r⟩
theorem Rep.scrD {i:List Int} (r:Rep K B H v (.scr i)):∃ a,v=.ref a/\SqS K H a i:=by cases r with | scr h=>exact ⟨_,rfl,h⟩
end
mutual
noncomputable def toP:D->PyData
 | .non=>.none
 | .bl b=>.bool b
 | .int i=>.int i
 | .str x=>.str x
 | .tup xs=>.tuple (jbl xs)
 | .lst xs=>.list (jbl xs)
 | .scr _=>.none
 | .grp _=>.none
 | .mem _=>.none
 | .dct _=>.none
noncomputable def jbl:List D->List PyData
 | []=>[]
 | x::xs=>toP x::jbl xs
end
mutual
theorem yE:∀ d:D,noS d=true->(toP d).canLay0=true
 | .non,_=>rfl
 | .bl _,_=>rfl
 | .int _,_=>rfl
 | .str x,h=>h
 | .tup xs,h=>zaR xs h
 | .lst xs,h=>zaR xs h
 | .scr _,h=>by cases h
 | .grp _,h=>by cases h
 | .mem _,h=>by cases h
 | .dct _,h=>by cases h
theorem zaR:∀ ds:List D,zM ds=true->PyData.canLayAll0 (jbl ds)=true
 | [],_=>rfl
 | x::xs,h=>by
  rw [zM,wg] at h;rw [jbl,PyData.canLayAll0,yE x h.1,zaR xs h.2];rfl
end
mutual
theorem jr:∀ d:D,(toP d).depth=dep d
 | .non=>rfl
 | .bl _=>rfl
 | .int _=>rfl
 | .str x=>rfl
 | .tup xs=>by rw [toP,PyData.depth,dep,yap xs]
 | .lst xs=>by rw [toP,PyData.depth,dep,yap xs]
 | .scr _=>rfl
 | .grp _=>rfl
 | .mem _=>rfl
 | .dct _=>rfl
theorem yap:∀ ds:List D,PyData.depthAll (jbl ds)=qbl ds
 | []=>rfl
 | x::xs=>by rw [jbl,PyData.depthAll,qbl,jr x,yap xs]
end
mutual
theorem qah:∀ x y:D,noS x=true->noS y=true->PyData.eqv (toP x) (toP y)=eqD x y
 | .non,y,_,hy=>by cases y<;>first | rfl | cases hy
 | .bl _,y,_,hy=>by cases y<;>first | rfl | cases hy
 | .int _,y,_,hy=>by cases y<;>first | rfl | cases hy
 | .str x,y,_,hy=>by cases y<;>first | rfl | cases hy
 | .tup xs,y,hx,hy=>by
  cases y<;>first | rfl | cases hy | exact qaR xs _ hx hy
 | .lst xs,y,hx,hy=>by
  cases y<;>first | rfl | cases hy | exact qaR xs _ hx hy
 | .scr _,_,h,_=>by cases h
 | .grp _,_,h,_=>by cases h
 | .mem _,_,h,_=>by cases h
 | .dct _,_,h,_=>by cases h
theorem qaR:∀ xs ys:List D,zM xs=true->zM ys=true->PyData.eqvAll (jbl xs) (jbl ys)=qb2 xs ys
 | [],[],_,_=>rfl
 | [],_::_,_,_=>rfl
 | _::_,[],_,_=>rfl
 | x::xs,y::ys,hx,hy=>by
  rw [zM,wg] at hx hy;rw [jbl,jbl,PyData.eqvAll,qb2,qah x y hx.1 hy.1,qaR xs ys hx.2 hy.2]
end
section
variable {X:Cx} {pins:List (Addr×Obj)} {σ:L2.St} {H:Hp} {s:Shared} {B:Addr->Prop}
mutual
theorem Rep.reads (I:L2.Inv X pins σ H s):∀ {v:V} {d:D} {u:Value},Rep X.K B H v d->L2.RelV v u->noS d=true->∃ as,Reads s.heap u (toP d) as
 | _,_,_,.non,r,_=>by cases r;exact ⟨_,.none⟩
 | _,_,_,.bl b,r,_=>by cases r;exact ⟨_,.bool b⟩
 | _,_,_,.int i,r,_=>by obtain ⟨t,rfl⟩:=r;exact ⟨_,.int i t⟩
 | _,_,_,.str x,r,_=>by obtain ⟨t,rfl⟩:=r;exact ⟨_,.str x t⟩
 | _,_,_,.tup e rs,r,h=>by
  cases r;obtain ⟨_,its,rv,o,ho,hc,_,n,hd⟩:=I.hok _ _ e;obtain ⟨as,q⟩:=Reps.reads I rs rv h;exact ⟨_,.tuple ho hc hd (by simpa using q)⟩
 | _,_,_,.lst _ e rs,r,h=>by
  cases r;obtain ⟨_,its,n,rv,ho⟩:=I.hok _ _ e;obtain ⟨as,q⟩:=Reps.reads I rs rv h;exact ⟨_,.list ho rfl rfl (by simpa using q)⟩
 | _,_,_,.scr _,_,h=>by cases h
 | _,_,_,.grp _ _ _ _ _ _,_,h=>by cases h
 | _,_,_,.mem _,_,h=>by cases h
 | _,_,_,.dct _ _,_,h=>by cases h
theorem Reps.reads (I:L2.Inv X pins σ H s):∀ {vs:List V} {ds:List D} {us:List Value},Reps X.K B H vs ds->Vals vs us->zM ds=true->∃ as,ReadsAll s.heap us (jbl ds) as
 | _,_,_,.nil,r,_=>by cases r;exact ⟨_,.nil⟩
 | _,_,_,.cons a rs,r,h=>by
  cases r with
  | cons r1 r2 =>
   rw [zM,wg] at h;obtain ⟨as,q1⟩:=Rep.reads I a r1 h.1;obtain ⟨bs,q2⟩:=Reps.reads I rs r2 h.2;exact ⟨_,.cons q1 q2⟩
end
theorem eqOk_iff {x y:D}:zC x y=true↔(dep x<=40\/dep y<=40)/\noS x=true/\noS y=true:=by
 simp [zC,and_assoc]
theorem ydw (hu:X.A.units+64<cLine) {x y:V} {v u:Value} {dx dy:D} {Q:Value->Shared->Prop} {E:Value->Shared->Prop} (I:L2.Inv X pins σ H s) (rx:L2.RelV x v) (ry:L2.RelV y u) (r1:Rep X.K B H x dx) (r2:Rep X.K B H y dy)
  (h:zC dx dy=true) (q:Q (.bool (eqD dx dy)) s):wpAny (model X.prog X.w) X.A (compareOp .Eq v u) Q E s:=by
 obtain ⟨h1,h2,h3⟩:=eqOk_iff.mp h;obtain ⟨as,q1⟩:=r1.reads I rx h2;obtain ⟨bs,q2⟩:=r2.reads I ry h3;refine SeqAt.compareEq_reads q1 q2 (yE _ h2) (yE _ h3) ?_ (by rw [qah _ _ h2 h3];exact q);rw [jr,jr]
 have:min (dep dx) (dep dy)<=40:=by rcases h1 with z | z<;>omega
 omega
end
section
variable {X:Cx}
theorem jdw {x:D} (h:isS x=true):∃ a,x=.str a:=by
 cases x<;>first | exact ⟨_,rfl⟩ | cases h
theorem zdx {x y:D} (h:(isS x&&isS y)=true):∃ a b,x=.str a/\y=.str b:=by
 rw [wg] at h;obtain ⟨a,e⟩:=jdw h.1;obtain ⟨b,e'⟩:=jdw h.2;exact ⟨a,b,e,e'⟩
theorem jby {x y:D} {c k:Bool} (hs:¬ (isS x&&isS y)=true) (h:(if ((isS x&&isS y)||zC x y)=true then some c else none)=some k):zC x y=true/\c=k:=by
 rw [Bool.not_eq_true] at hs;rw [hs,Bool.false_or] at h;split at h
 ·rename_i z;exact ⟨z,wB h⟩
 ·cases h
theorem qdx (hu:X.A.units+64<cLine):OpR X (compareOp .Eq) (rD2 X.K (zW .Eq)):=by
 intro pins s σ H x y v u Q I rx ry ⟨B,dx,dy,d,hb,r1,r2,e,q⟩;obtain ⟨k,ek,rfl⟩:=wb (show (yC .Eq dx dy).map D.bl=some d from e)
 by_cases hs:(isS dx&&isS dy)=true
 ·obtain ⟨a,b,rfl,rfl⟩:=zdx hs;cases ek;cases r1;cases r2;refine qdY pins s σ H _ _ v u Q I rx ry ⟨rfl,?_⟩;rw [qan];exact q _ H (Same.refl H) (.bl _) (λ_ z=>nomatch z)
 ·have hk:zC dx dy=true/\eqD dx dy=k:=jby hs ek;refine ydw hu I rx ry r1 r2 hk.1 ?_;rw [hk.2];exact ⟨.bl k,H,I,rfl,q _ H (Same.refl H) (.bl _) (λ_ z=>nomatch z)⟩
end
section
variable {X:Cx}
theorem ydx (hu:X.A.units+64<cLine):OpR X (compareOp .NotEq) (rD2 X.K (zW .NotEq)):=by
 intro pins s σ H x y v u Q I rx ry ⟨B,dx,dy,d,hb,r1,r2,e,q⟩;obtain ⟨k,ek,rfl⟩:=wb (show (yC .NotEq dx dy).map D.bl=some d from e)
 by_cases hs:(isS dx&&isS dy)=true
 ·obtain ⟨a,b,rfl,rfl⟩:=zdx hs;cases ek;cases r1;cases r2;refine ydY pins s σ H _ _ v u Q I rx ry ⟨rfl,?_⟩;rw [qan];exact q _ H (Same.refl H) (.bl _) (λ_ z=>nomatch z)
 ·have hk:zC dx dy=true/\(!eqD dx dy)=k:=jby hs ek;obtain ⟨h1,h2,h3⟩:=eqOk_iff.mp hk.1;obtain ⟨as,q1⟩:=r1.reads I rx h2;obtain ⟨bs,q2⟩:=r2.reads I ry h3
  have hm:X.A.units+min (toP dx).depth (toP dy).depth<cLine:=by
   rw [jr,jr]
   have:min (dep dx) (dep dy)<=40:=by rcases h1 with z | z<;>omega
   omega
  refine SeqAt.compareNe_reads q1 q2 (yE _ h2) (yE _ h3) hm ?_;rw [qah _ _ h2 h3,hk.2];exact ⟨.bl k,H,I,rfl,q _ H (Same.refl H) (.bl _) (λ_ z=>nomatch z)⟩
theorem jap {f:Int->Int->Bool} {x y:D} {k:Bool} (h:zdd f x y=some k):∃ i j,x=.int i/\y=.int j/\k=f i j:=by
 cases x<;>first | (cases y<;>first | exact ⟨_,_,rfl,rfl,(wB h).symm⟩ | cases h) | cases h
theorem zcu {x y:D} {k:Bool} (h:isC x y=some k):(y=.non/\isN x=k)\/∃ a b,x=.bl a/\y=.bl b/\(a==b)=k:=by
 cases y with
 | non=>exact .inl ⟨rfl,wB (by cases x<;>exact h)⟩
 | bl b=>cases x<;>first | exact .inr ⟨_,_,rfl,rfl,wB h⟩ | cases h
 | _=>cases x<;>cases h
theorem zaq {op:CmpOp} {p:Int->Int->Bool} (hp:∀ dx dy k,yC op dx dy=some k->∃ i j,dx=.int i/\dy=.int j/\k=p i j) (ho:OpR X (compareOp op) (rI0 λi j=>.bl (p i j))):OpR X (compareOp op) (rD2 X.K (zW op)):=by
 intro pins s σ H x y v u Q I rx ry ⟨B,dx,dy,d,hb,r1,r2,e,q⟩;obtain ⟨k,ek,rfl⟩:=wb (show (yC op dx dy).map D.bl=some d from e);obtain ⟨i,j,rfl,rfl,rfl⟩:=hp dx dy k ek;cases r1;cases r2;exact ho pins s σ H _ _ v u Q I rx ry ⟨i,j,rfl,rfl,q _ H (Same.refl H) (.bl _) (λ_ z=>nomatch z)⟩
theorem jdx:OpR X (compareOp .Lt) (rD2 X.K (zW .Lt)):=zaq (p:=λi j=>decide (i<j)) (λdx dy k e=>jap e) jdY
theorem zdy:OpR X (compareOp .LtE) (rD2 X.K (zW .LtE)):=zaq (p:=λi j=>decide (i<=j)) (λdx dy k e=>jap e) zdZ
theorem qdy:OpR X (compareOp .Gt) (rD2 X.K (zW .Gt)):=zaq (p:=λi j=>decide (j<i)) (λdx dy k e=>jap e) qdZ
theorem ydy:OpR X (compareOp .GtE) (rD2 X.K (zW .GtE)):=zaq (p:=λi j=>decide (j<=i)) (λdx dy k e=>jap e) ydZ
theorem zbz {K:Frag} {B:Addr->Prop} {H:Hp} {v:V} {d:D} (r:Rep K B H v d):decide (v=.non)=isN d:=by cases r<;>rfl
theorem qcb {prog:Program} {w:World} {A:Around} {E:Value->Shared->Prop} {s:Shared} {a b:Bool} {Q:Value->Shared->Prop} (h:Q (.bool (a==b)) s):wpAny (model prog w) A (compareOp .Is (.bool a) (.bool b)) Q E s:=by
 cases a<;>cases b<;>(wp_walk;exact h)
theorem qbz {prog:Program} {w:World} {A:Around} {E:Value->Shared->Prop} {s:Shared} {a b:Bool} {Q:Value->Shared->Prop} (h:Q (.bool (!(a==b))) s):wpAny (model prog w) A (compareOp .IsNot (.bool a) (.bool b)) Q E s:=by
 cases a<;>cases b<;>(wp_walk;exact h)
theorem jdy:OpR X (compareOp .Is) (rD2 X.K (zW .Is)):=by
 intro pins s σ H x y v u Q I rx ry ⟨B,dx,dy,d,hb,r1,r2,e,q⟩;obtain ⟨k,ek,rfl⟩:=wb (show (yC .Is dx dy).map D.bl=some d from e);rcases zcu ek with ⟨rfl,hk⟩ | ⟨a,b,rfl,rfl,hk⟩
 ·cases r2;refine jdk pins s σ H _ _ v u Q I rx ry ⟨rfl,?_⟩;rw [zbz r1,hk];exact q _ H (Same.refl H) (.bl _) (λ_ z=>nomatch z)
 ·cases r1;cases r2;cases rx;cases ry
  refine qcb ⟨.bl k,H,I,by rw [hk];rfl,q _ H (Same.refl H) (.bl _) (λ_ z=>nomatch z)⟩
theorem qcM:OpR X (compareOp .IsNot) (rD2 X.K (zW .IsNot)):=by
 intro pins s σ H x y v u Q I rx ry ⟨B,dx,dy,d,hb,r1,r2,e,q⟩;obtain ⟨k,ek,rfl⟩:=wb (show (yC .IsNot dx dy).map D.bl=some d from e);obtain ⟨k',ek',rfl⟩:=wb (show (isC dx dy).map not=some k from ek);rcases zcu ek' with ⟨rfl,hk⟩ | ⟨a,b,rfl,rfl,hk⟩
 ·cases r2;refine qcF pins s σ H _ _ v u Q I rx ry ⟨rfl,?_⟩;rw [zbz r1,hk];exact q _ H (Same.refl H) (.bl _) (λ_ z=>nomatch z)
 ·cases r1;cases r2;cases rx;cases ry
  refine qbz ⟨.bl (!k'),H,I,by rw [hk];rfl,q _ H (Same.refl H) (.bl _) (λ_ z=>nomatch z)⟩
noncomputable def cmpOps:List CmpOp:=[.Eq,.NotEq,.Lt,.LtE,.Gt,.GtE,.Is,.IsNot]
theorem j5 (hu:X.A.units+64<cLine) {op:CmpOp} (h:op∈cmpOps):OpR X (compareOp op) (rD2 X.K (zW op)):=by
 cases op with
 | Eq=>exact qdx hu
 | NotEq=>exact ydx hu
 | Lt=>exact jdx
 | LtE=>exact zdy
 | Gt=>exact qdy
 | GtE=>exact ydy
 | Is=>exact jdy
 | IsNot=>exact qcM
 | In=>exact absurd h (by decide)
 | NotIn=>exact absurd h (by decide)
theorem qaq:fillsNumberSlot (.type "tuple") "mul"=pure false :=
 PySem.fillsNumberSlot_seq (r:=some (.builtin "tuple.__rmul__")) (id:="tuple.__mul__") F.slot_tuple_mul.lookup (by decide +kernel) F.slot_tuple_rmul.lookup (by decide +kernel)
theorem jbh:seqRepeat? (.type "tuple")=pure (some (.builtin "tuple.__mul__")):=by
 unfold seqRepeat?;rw [PySem.seqSlot_of (T:="tuple") (name:="__mul__") (id:="tuple.__mul__") F.slot_tuple_mul.lookup (by decide +kernel),PySem.seqSlot_of (T:="tuple") (name:="__rmul__") (id:="tuple.__rmul__") F.slot_tuple_rmul.lookup (by decide +kernel)];rfl
theorem zaD (a:Int) (t:Tok) (l:Addr) (its:Array Value) (n:Nat) (dd:Option Addr) (sl:Array (Option Value)) :
  Meets (Builtin.«int.__rmul__» ⟨[.int a t,.ref l],[]⟩) (λ_ R s=>s.heap.get? l=some { cls:=.type "tuple",dict:=dd,data:=.seq its n,slots:=sl }/\R (.ok (.ret Value.notImplemented)) s) :=
 .of_wp λ_ _ _ _ s h=>by obtain ⟨h0,g0,d0,t0,o0⟩:=s;obtain ⟨hl,h⟩:=h;wp_walk;exact ⟨_,rfl,h⟩
end
theorem qaD (l:Addr) (its:Array Value) (n:Nat) (x:Int) (u:Tok) (dd:Option Addr) (sl:Array (Option Value)) (h0:(decide (x < -(2^63))||decide (x>=2^63))=false) (h1:(its.isEmpty||x==1)=true) :
  Meets (Builtin.«tuple.__mul__» ⟨[.ref l,.int x u],[]⟩) (λ_ R s=>s.heap.get? l=some { cls:=.type "tuple",dict:=dd,data:=.seq its n,slots:=sl }/\R (.ok (.ret (Value.ref l))) s) :=
 .of_wp λ_ _ _ _ s h=>by obtain ⟨h0',g0,d0,t0,o0⟩:=s;obtain ⟨hl,h⟩:=h;have f1:=AutoSeq1.idx_int;have f2:=AutoSeq1.sub_tuple_tuple;wp_walk using AutoSeq1.wpAny_loadPart' hl;refine wpAny_ite_false (by rw [h0];rfl) ?_;wp_walk using AutoSeq1.wpAny_loadPart' hl;exact ⟨_,rfl,h⟩
theorem yaD (l:Addr) (its:Array Value) (n:Nat) (x:Int) (u:Tok) (dd:Option Addr) (sl:Array (Option Value)) (h0:(decide (x < -(2^63))||decide (x>=2^63))=false) (h1:(its.isEmpty||x==1)=false) (h2:(decide (x<=0)||its.isEmpty)=true) :
  Meets (Builtin.«tuple.__mul__» ⟨[.ref l,.int x u],[]⟩) (λ_ R s=>s.heap.get? l=some { cls:=.type "tuple",dict:=dd,data:=.seq its n,slots:=sl }/\R (.ok (.ret (Value.ref s.heap.objs.size))) { s with heap:=s.heap.push { cls:=.type "tuple",data:=.seq #[] } }) :=
 .of_wp λ_ _ _ _ s h=>by obtain ⟨h0',g0,d0,t0,o0⟩:=s;obtain ⟨hl,h⟩:=h;have f1:=AutoSeq1.idx_int;have f2:=AutoSeq1.sub_tuple_tuple;wp_walk using AutoSeq1.wpAny_loadPart' hl;refine wpAny_ite_false (by rw [h0];rfl) ?_;wp_walk using AutoSeq1.wpAny_loadPart' hl;exact ⟨_,rfl,h⟩
theorem jaD (l:Addr) (its:Array Value) (n:Nat) (x:Int) (u:Tok) (dd:Option Addr) (sl:Array (Option Value)) (h0:(decide (x < -(2^63))||decide (x>=2^63))=false) (h1:(its.isEmpty||x==1)=false) (h2:(decide (x<=0)||its.isEmpty)=false)
  (h3:¬ ((its.size:Int)*x>(2^63-1)/8)) (h4:¬ Builtin.Tuple.tupleTooMany ((its.size:Int)*x)=true) (h5:((List.replicate x.toNat its).foldl (·++·) #[]).size<=sizeLine) :
  Meets (Builtin.«tuple.__mul__» ⟨[.ref l,.int x u],[]⟩) (λ_ R s=>s.heap.get? l=some { cls:=.type "tuple",dict:=dd,data:=.seq its n,slots:=sl }/\R (.ok (.ret (Value.ref s.heap.objs.size))) { s with heap:=s.heap.push { cls:=.type "tuple",data:=.seq ((List.replicate x.toNat its).foldl (·++·) #[]) } }) :=
 .of_wp λ_ _ _ _ s h=>by obtain ⟨h0',g0,d0,t0,o0⟩:=s;obtain ⟨hl,h⟩:=h;have f1:=AutoSeq1.idx_int;have f2:=AutoSeq1.sub_tuple_tuple;wp_walk using AutoSeq1.wpAny_loadPart' hl;refine wpAny_ite_false (by rw [h0];rfl) ?_;wp_walk using AutoSeq1.wpAny_loadPart' hl;refine wpAny_ite_false (vk h3) ?_;wp_walk using AutoSeq1.wpAny_loadPart' hl;exact ⟨_,rfl,h⟩
section
variable {X:Cx}
theorem za3 (its:List Value) (k:Nat):List.foldl (λx1 x2=>x1++x2) #[] (List.replicate k its.toArray)=(List.replicate k its).flatten.toArray:=by
 have:=foldl_rep its k []
 rwa [List.nil_append] at this
theorem ycM:OpR X (binaryOp .Mult) (λx y H Q=>∃ a j vs,x=.ref a/\y=.int j/\H a=some (.tup vs)/\vs.length*j.toNat<=sizeLine/\-(2^63)<=j/\j<2^63 /\
  (j=1->Q (.ref a) H)/\(vs=[]->Q (.ref a) H)/\∀ p,H p=none->Q (.ref p) (upd H p (.tup (List.replicate j.toNat vs).flatten))):=by
 intro pins s σ H x y v u Q I rx ry ⟨a,j,vs,e1,e2,hH,hz,h1,h2,q1,q0,q⟩;subst e1;subst e2
 cases rx;obtain ⟨t,rfl⟩:=ry;obtain ⟨z,its,rv,o,ho,hc,_,n,hd⟩:=I.hok _ _ hH;obtain ⟨oc,od,odt,osl⟩:=o;simp only at hc hd;subst hc;subst hd
 have hl:vs.length=its.length:=rv.length
 have h0:(decide (j < -(2^63))||decide (j>=2^63))=false:=by
  rw [vk (by omega),vk (by omega)];rfl
 have hsz:its.toArray.size=its.length:=by simp
 refine wpAny_binaryOp_repeat_ref (T := "tuple") (U := "int") (by decide) ⟨_, ho, rfl⟩ (λs' => typeIs_int s' j t) qaq F.fills_int_mul F.slot_int_rmul jbh F.slot_int_index.lookup
  (call_meets F.slot_int_rmul (typeIs_int s j t) F.entry_int_rmul (F.args_int_rmul_2 _ _) (zaD j t a its.toArray n od osl) ⟨ho,rfl,⟨_,ho,rfl⟩,?_⟩)
 by_cases c1:(its.toArray.isEmpty||j==1)=true
 ·refine call_meets F.slot_tuple_mul ⟨_,ho,rfl⟩ F.entry_tuple_mul (F.args_tuple_mul_2 _ _) (qaD a its.toArray n j t od osl h0 c1) ⟨ho,?_⟩;refine ⟨.ref a,H,I,rfl,?_⟩;rcases (Bool.or_eq_true _ _).mp c1 with c | c
  ·have:its=[]:=by simpa using c
   rw [this] at hl;exact q0 (List.length_eq_zero_iff.mp hl)
  ·exact q1 (by simpa using c)
 ·have c1':=Bool.eq_false_iff.mpr c1
  by_cases c2:(decide (j<=0)||its.toArray.isEmpty)=true
  ·refine call_meets F.slot_tuple_mul ⟨_,ho,rfl⟩ F.entry_tuple_mul (F.args_tuple_mul_2 _ _) (yaD a its.toArray n j t od osl h0 c1' c2) ⟨ho,?_⟩
   have ej:j.toNat=0:=by
    rw [(Bool.or_eq_false_iff.mp c1').1,Bool.or_false] at c2
    have:=vg c2
    omega
   have q':=q s.heap.objs.size I.fresh;rw [ej] at q';exact ⟨.ref s.heap.objs.size,_,I.laid (t':=s.toks) (o:=.tup []) (λb ob q=>wj _ q) (wC _) ⟨Nat.zero_le _,[],.nil,IsTupN.new _ _⟩,rfl,q'⟩
  ·have c2':=Bool.eq_false_iff.mpr c2
   have jp:0<j:=by
    have:=of_decide_eq_false (Bool.or_eq_false_iff.mp c2').1
    omega
   have hm:((its.toArray.size:Nat):Int)*j=((its.length*j.toNat:Nat):Int):=by
    rw [hsz,Int.natCast_mul,Int.toNat_of_nonneg (by omega)]
   have hz':its.length*j.toNat<=sizeLine:=by rw [<-hl];exact hz
   have h16:sizeLine=16777216:=sizeLine_eq;have hlen:(List.replicate j.toNat its).flatten.length=j.toNat*its.length:=len_rep its j.toNat
   refine call_meets F.slot_tuple_mul ⟨_, ho, rfl⟩ F.entry_tuple_mul (F.args_tuple_mul_2 _ _) (jaD a its.toArray n j t od osl h0 c1' c2' (by rw [hm]; omega) (by
    rw [hm];unfold Builtin.Tuple.tupleTooMany
    intro w;have:=vg w;omega) (by rw [za3,vj,hlen,Nat.mul_comm];exact hz')) ⟨ho,?_⟩
   rw [za3]
   exact ⟨.ref s.heap.objs.size,_,I.laid (t':=s.toks) (o:=.tup (List.replicate j.toNat vs).flatten) (λb ob q=>wj _ q) (wC _)
    ⟨by rw [len_rep,Nat.mul_comm];exact hz,_,rv.rep j.toNat,IsTupN.new _ _⟩,rfl,q _ I.fresh⟩
theorem jcM:OpR X (binaryOp .Add) (λx y H Q=>∃ a b vs ws,x=.ref a/\y=.ref b/\H a=some (.tup vs)/\H b=some (.tup ws)/\vs.length+ws.length<=sizeLine /\
  (vs=[]->Q (.ref b) H)/\(ws=[]->Q (.ref a) H)/\∀ p,H p=none->Q (.ref p) (upd H p (.tup (vs++ws)))):=by
 intro pins s σ H x y v u Q I rx ry ⟨a,b,vs,ws,e1,e2,h1,h2,hz,q0,q1,q⟩;subst e1;subst e2
 by_cases hv:vs=[]
 ·cases rx;cases ry;obtain ⟨its,rv,⟨o,ho,hc,n,hd⟩,_⟩:=I.tuple (SqT.of h1);obtain ⟨its2,rw',⟨o2,ho2,hc2,n2,hd2⟩,_⟩:=I.tuple (SqT.of h2);obtain ⟨oc,od,odt,osl⟩:=o;obtain ⟨oc2,od2,odt2,osl2⟩:=o2;simp only at hc hd hc2 hd2;subst hc;subst hd;subst hc2;subst hd2
  exact concat_meets ⟨_,ho,rfl⟩ ⟨_,ho2,rfl⟩ noFill_tuple_add seq_tuple_add PySem.F.slot_tuple_add PySem.F.entry_tuple_add (PySem.F.args_tuple_add_2 _ _)
   (tuple_addW0 a b its.toArray its2.toArray n n2 od od2 osl osl2 (by simpa using rv.nil_iff.mpr hv)) ⟨ho,ho2,⟨.ref b,H,I,rfl,q0 hv⟩⟩
 ·exact qcH pins s σ H _ _ v u Q I rx ry ⟨a,b,vs,ws,rfl,rfl,SqT.of h1,SqT.of h2,hv,hz,q1,λ_=>q⟩
theorem zcN {i j:Int} (h:ju i j=true):CMul i j:=by
 unfold ju at h;rcases (Bool.or_eq_true _ _).mp h with h | h
 ·exact .inl ⟨vg (wg _ _▸h).1,vg (wg _ _▸h).2⟩
 ·exact .inr ⟨vg (wg _ _▸h).1,vg (wg _ _▸h).2⟩
theorem nofr {v:V} {H:Hp} {d:D} (h:∀ ds,d≠.lst ds):∀ ds,d=.lst ds->Fresh H v:=λds e=>absurd e (h ds)
theorem yaq {f:Int->Int->Option D} {x y d:D} (h:ycC f x y=some d):∃ i j,x=.int i/\y=.int j/\f i j=some d:=by
 unfold ycC at h;split at h
 ·exact ⟨_,_,rfl,rfl,h⟩
 ·cases h
theorem ybz (op:Operator):OpR X (binaryOp op) (rD2 X.K (qM op)):=by
 intro pins s σ H x y v u Q I rx ry ⟨B,dx,dy,d,hb,r1,r2,e,q⟩;have qi:∀ k:Int,some (D.int k)=some d->Q (.int k) H:=λk z=>by cases z;exact q _ H (Same.refl H) (.int _) (nofr λ_ z=>nomatch z)
 unfold qM at e;split at e
 ·unfold ydV at e;split at e
  ·cases r1;cases r2;exact qdj pins s σ H _ _ v u Q I rx ry ⟨_,_,rfl,rfl,qi _ e⟩
  ·split at e
   ·rename_i hc;cases r1;cases r2;cases e
    exact ybe pins s σ H _ _ v u Q I rx ry ⟨_,_,rfl,rfl,hc,q _ H (Same.refl H) (.str _) (nofr λ_ z=>nomatch z)⟩
   ·cases e
  ·split at e
   ·rename_i hc;cases e;obtain ⟨a,vs,rfl,ha,ra⟩:=r1.tupD;obtain ⟨b,ws,rfl,hb',rb⟩:=r2.tupD;refine jcM pins s σ H _ _ v u Q I rx ry ⟨a,b,vs,ws,rfl,rfl,ha,hb',by rw [ra.length,rb.length];exact hc,λz=>?_,λz=>?_,λp hp=>q _ _ (qa hp _) (.newT hp (ra.append rb)) (nofr λ_ z=>nomatch z)⟩
    ·subst z;cases ra;exact q _ H (Same.refl H) r2 (nofr λ_ z=>nomatch z)
    ·subst z;cases rb;rw [List.append_nil] at q;exact q _ H (Same.refl H) r1 (nofr λ_ z=>nomatch z)
   ·cases e
  ·split at e
   ·rename_i hc;cases e;obtain ⟨a,vs,rfl,na,ha,ra⟩:=r1.lstD;obtain ⟨b,ws,rfl,nb,hb',rb⟩:=r2.lstD;exact qdn pins s σ H _ _ v u Q I rx ry ⟨a,b,vs,ws,rfl,rfl,ha,hb',by rw [ra.length,rb.length];exact hc,λp hp=>q _ _ (qa hp _) (.newL hb hp (ra.append rb)) λ_ _=>⟨p,rfl,hp⟩⟩
   ·cases e
  ·cases e
 ·replace e:=yaq e
  obtain ⟨i,j,rfl,rfl,e⟩:=e;cases r1;cases r2;exact ydj pins s σ H _ _ v u Q I rx ry ⟨_,_,rfl,rfl,qi _ e⟩
 ·unfold jdb at e;split at e
  ·split at e
   ·rename_i hc;cases r1;cases r2;exact jdj pins s σ H _ _ v u Q I rx ry ⟨_,_,rfl,rfl,zcN hc,qi _ e⟩
   ·cases e
  ·split at e
   ·rename_i hc;cases e;obtain ⟨a,vs,rfl,ha,ra⟩:=r1.tupD;cases r2;refine ycM pins s σ H _ _ v u Q I rx ry ⟨a,_,vs,rfl,rfl,ha,by rw [ra.length];exact hc.1,hc.2.1,hc.2.2,λz=>?_,λz=>?_,λp hp=>q _ _ (qa hp _) (.newT hp (ra.rep _)) (nofr λ_ z=>nomatch z)⟩
    ·subst z;refine q _ H (Same.refl H) ?_ (nofr λ_ z=>nomatch z);have e1:∀ ds,zco (1:Int).toNat ds=ds:=λds=>by show (List.replicate 1 ds).flatten=ds;simp
     rw [e1];exact r1
    ·subst z;cases ra;refine q _ H (Same.refl H) ?_ (nofr λ_ z=>nomatch z);have e1:∀ k,zco k ([]:List D)=[]:=λk=>by unfold zco;simp
     rw [e1];exact r1
   ·cases e
  ·split at e
   ·rename_i hc;cases e;obtain ⟨a,vs,rfl,na,ha,ra⟩:=r1.lstD;cases r2;exact ydn pins s σ H _ _ v u Q I rx ry ⟨a,_,vs,rfl,rfl,ha,hc.2.1,hc.2.2,by rw [ra.length];exact hc.1,λp hp=>q _ _ (qa hp _) (.newL hb hp (ra.rep _)) λ_ _=>⟨p,rfl,hp⟩⟩
   ·cases e
  ·cases e
 ·replace e:=yaq e
  obtain ⟨i,j,rfl,rfl,e⟩:=e;split at e
  ·rename_i hc;cases r1;cases r2;exact zcF pins s σ H _ _ v u Q I rx ry ⟨_,_,rfl,rfl,hc,qi _ e⟩
  ·cases e
 ·replace e:=yaq e
  obtain ⟨i,j,rfl,rfl,e⟩:=e;split at e
  ·rename_i hc;cases r1;cases r2;exact zdk pins s σ H _ _ v u Q I rx ry ⟨_,_,rfl,rfl,hc,qi _ e⟩
  ·cases e
 ·replace e:=yaq e
  obtain ⟨i,j,rfl,rfl,e⟩:=e;split at e
  ·rename_i hc;cases r1;cases r2;exact qdk pins s σ H _ _ v u Q I rx ry ⟨_,_,rfl,rfl,⟨hc.1,by omega,hc.2.2⟩,qi _ e⟩
  ·cases e
 ·cases e
end
def rE2 (K:Frag) (f:D->D->Option D):R2:=λx y H Q=>∃ B dx dy d,HB B H/\Rep K B H x dx/\Rep K B H y dy/\f dx dy=some d /\
 ∀ v H',Same H H'->Rep K B H' v d->Q v H'
section
variable {X:Cx}
theorem zdz (n:Nat) (i:Int):Eng.ixN n i=L2.ixN n i:=rfl
theorem Reps.atI {K:Frag} {B:Addr->Prop} {H:Hp} {vs:List V} {ds:List D} {i:Int} {d:D} (r:Reps K B H vs ds) (h:Eng.atI ds i=some d):∃ v,L2.atI vs i=some v/\Rep K B H v d:=by
 unfold Eng.atI at h;obtain ⟨j,e,h⟩:=wa h;obtain ⟨v,e2,rv⟩:=r.get h;refine ⟨v,?_,rv⟩;unfold L2.atI;rw [r.length,<-zdz,e];exact e2
theorem jbz {pins:List (Addr×Obj)} {σ:L2.St} {s:Shared} {a:Addr} {u:Value} {value slice:Expr} {Q:VK} (t:s.TypeIs (.ref a) "dict") (hs:subscripted slice false (.ref a) u=operate [.ref a,u] (getItem (.ref a) u))
  (h:wpAny (model X.prog X.w) X.A (getItem (.ref a) u) (EP X pins σ Q) X.xe s):wpAny (model X.prog X.w) X.A (subscriptTail value slice (.ref a) u) (EP X pins σ Q) X.xe s:=by
 unfold subscriptTail;refine we ?_;rw [getitemInPython_of_ne t.not_modules];refine we (wpAny_specialOf t PySem.F.slot_dict_getitem.lookup ?_)
 have fin:wpAny (model X.prog X.w) X.A (subscripted slice false (.ref a) u) (λr s₃=>wpAny (model X.prog X.w) X.A (letTemporaryGo value (.ref a) r >>= λ_=>pure r) (EP X pins σ Q) X.xe s₃) X.xe s:=by
  rw [hs];exact wpAny_operating (wpAny_mono h (λr s₃ h₃=>we (wpAny_letTemporaryGo (wm h₃))) λ_ _ x=>x)
 first
  | exact wm (we fin)
  | exact we (wm (we fin))
  | exact we fin
theorem qdz:IxR X (rE2 X.K jam):=by
 intro value slice pins s σ H x y v u Q I rx ry ⟨B,dx,dy,d,hb,r1,r2,e,q⟩ hs;cases dx with
 | tup xs =>
  cases dy with
  | int i =>
   obtain ⟨a,vs,rfl,ha,ra⟩:=r1.tupD;cases r2;obtain ⟨z,ez,rz⟩:=ra.atI e;exact jdm value slice pins s σ H _ _ v u Q I rx ry ⟨a,vs,i,z,rfl,rfl,SqT.of ha,ez,q z H (Same.refl H) rz⟩ hs
  | _=>cases e
 | lst xs =>
  cases dy with
  | int i =>
   obtain ⟨a,vs,rfl,na,ha,ra⟩:=r1.lstD;cases r2;obtain ⟨z,ez,rz⟩:=ra.atI e;exact ybr value slice pins s σ H _ _ v u Q I rx ry ⟨a,vs,i,z,rfl,rfl,SqL.of ha,ez,q z H (Same.refl H) rz⟩ hs
  | _=>cases e
 | dct kvs =>
  cases dy with
  | int i =>
   obtain ⟨k,ek,rfl⟩:=wb e;cases r1 with
   | dct n ha =>
    rename_i a;cases r2;cases rx;obtain ⟨_,_,vs,_,dd⟩:=jaP I ha;have tI:s.TypeIs (.ref a) "dict":=dd.typeIs;refine jbz tI hs (jbs I ha ek ry λw' s' I' rw'=>⟨.int k,H,I',rw',q _ H (Same.refl H) (.int k)⟩)
  | _=>cases e
 | scr ns =>
  cases dy with
  | int i =>
   obtain ⟨a,rfl,ha⟩:=r1.scrD;cases r2;obtain ⟨k,ek,rfl⟩:=wb e;have ra:Reps X.K B H (ns.map V.int) (ns.map D.int):=Reps.of_ints ns
   have ek':Eng.atI (ns.map D.int) i=some (.int k):=by
    unfold Eng.atI at ek ⊢;obtain ⟨j,ej,ek⟩:=wa ek;rw [wD,ej];show (ns.map D.int)[j]?=_;rw [wx,ek];rfl
   obtain ⟨z,ez,rz⟩:=ra.atI ek';exact ybr value slice pins s σ H _ _ v u Q I rx ry ⟨a,_,i,z,rfl,rfl,ha.sq,ez,q z H (Same.refl H) rz⟩ hs
  | _=>cases e
 | _=>cases e
variable {C:Tab} {a b:Expr} {ca cb:Code} {pos:Pos}
theorem ydz (ha:SE X C a ca) (hb:SE X C b cb) (hs:qaP b):SE X C (.Subscript a b pos) (.idx ca cb):=λB ρ d e=>by
 obtain ⟨dx,ex,e⟩:=wa (show (ev C ca ρ).bind _=some d from e);obtain ⟨dy,ey,e⟩:=wa e
 exact (qd1 qdz (ha B ρ dx ex) (hb B ρ dy ey) hs).imp λσ H Q ⟨h1,h2,q⟩ =>
  ⟨h1,h2,λx H1 s1 r1=>⟨h1.same s1,h2.same s1,λy H2 s2 r2=>⟨B,dx,dy,d,(h1.same s1).same s2,r1.same s2,r2,e,λv H' s3 r3=>q v H' ((s1.trans s2).trans s3) r3⟩⟩⟩
theorem Reps.one {K:Frag} {B:Addr->Prop} {H:Hp} {vs:List V} {d:D} (r:Reps K B H vs [d]):∃ v,vs=[v]/\Rep K B H v d:=by
 cases r with | cons a r=>cases r;exact ⟨_,rfl,a⟩
theorem Rep.items {K:Frag} {B:Addr->Prop} {H:Hp} {v:V} {d:D} {ds:List D} (r:Rep K B H v d) (h:itemsD d=some ds):∃ a vs,v=.ref a/\(SqL K H a vs\/SqT K H a vs)/\Reps K B H vs ds:=by
 cases r with
 | tup e rs=>cases h;exact ⟨_,_,rfl,.inr (SqT.of e),rs⟩
 | lst n e rs=>cases h;exact ⟨_,_,rfl,.inl (SqL.of e),rs⟩
 | scr hs=>cases h;exact ⟨_,_,rfl,.inl hs.sq,Reps.of_ints _⟩
 | _=>cases h
theorem zbA:zr X (.builtin "len") (rDs X.K (yz .len)):=by
 intro pins s σ H xs us Q I rv ⟨B,dx,d,hb,r,e,q⟩;cases dx with
 | nil=>cases e
 | cons x r' =>
  cases r' with
  | nil =>
   obtain ⟨v,rfl,rx⟩:=r.one
   have go:∀ ds,itemsD x=some ds->d=.int ds.length->wpAny (model X.prog X.w) X.A (call (.builtin "len") us) (EP X pins σ Q) X.xe s:=λds hi hd=>by
    obtain ⟨a,vs,rfl,hs,ra⟩:=rx.items hi;subst hd;refine qaB pins s σ H _ us Q I rv ⟨a,vs,rfl,hs,?_⟩;rw [ra.length];exact q _ H (Same.refl H) (.int _) (nofr λ_ z=>nomatch z)
   cases x with
   | str z =>
    simp only [yz,jdV] at e;split at e
    ·rename_i hz;cases e;cases rx;exact yaB pins s σ H _ us Q I rv ⟨z,rfl,hz,q _ H (Same.refl H) (.int _) (nofr λ_ z=>nomatch z)⟩
    ·cases e
   | tup ds=>exact go ds rfl (by cases e;rfl)
   | lst ds=>exact go ds rfl (by cases e;rfl)
   | scr ns=>exact go (ns.map D.int) rfl (by cases e;rfl)
   | _=>cases e
  | cons _ _=>cases x<;>cases e
theorem yah:zr X (.type "list") (rDs X.K (yz .list)):=by
 intro pins s σ H xs us Q I rv ⟨B,dx,d,hb,r,e,q⟩;cases dx with
 | nil=>cases e
 | cons x r' =>
  cases r' with
  | nil =>
   obtain ⟨v,rfl,rx⟩:=r.one
   have go:∀ ds,itemsD x=some ds->d=.lst ds->wpAny (model X.prog X.w) X.A (call (.type "list") us) (EP X pins σ Q) X.xe s:=λds hi hd=>by
    obtain ⟨a,vs,rfl,hs,ra⟩:=rx.items hi;subst hd;exact jaB pins s σ H _ us Q I rv ⟨a,vs,rfl,hs,λl hl=>q _ _ (qa hl _) (.newL hb hl ra) λ_ _=>⟨l,rfl,hl⟩⟩
   cases x with
   | tup ds=>exact go ds rfl (by cases e;rfl)
   | lst ds=>exact go ds rfl (by cases e;rfl)
   | _=>cases e
  | cons _ _=>cases x<;>cases e
theorem yaR:zr X (.type "tuple") (rDs X.K (yz .tuple)):=by
 intro pins s σ H xs us Q I rv ⟨B,dx,d,hb,r,e,q⟩;cases dx with
 | nil=>cases e
 | cons x r' =>
  cases r' with
  | nil =>
   obtain ⟨v,rfl,rx⟩:=r.one;cases x with
   | tup ds =>
    cases e;obtain ⟨a,vs,rfl,ha,ra⟩:=rx.tupD;exact zN pins s σ H _ us Q I rv ⟨a,vs,rfl,.inr ⟨SqT.of ha,q _ H (Same.refl H) rx (nofr λ_ z=>nomatch z)⟩⟩
   | lst ds =>
    cases e;obtain ⟨a,vs,rfl,na,ha,ra⟩:=rx.lstD;exact zN pins s σ H _ us Q I rv ⟨a,vs,rfl,.inl ⟨SqL.of ha,λl hl=>q _ _ (qa hl _) (.newT hl ra) (nofr λ_ z=>nomatch z)⟩⟩
   | _=>cases e
  | cons _ _=>cases x<;>cases e
theorem qbA:zr X (.type "int") (rDs X.K (yz .int)):=by
 intro pins s σ H xs us Q I rv ⟨B,dx,d,hb,r,e,q⟩;cases dx with
 | nil=>cases e
 | cons x r' =>
  cases r' with
  | nil =>
   obtain ⟨v,rfl,rx⟩:=r.one;cases x with
   | int i =>
    cases e;cases rx;exact jaz pins s σ H _ us Q I rv (.inl ⟨i,rfl,q _ H (Same.refl H) (.int _) (nofr λ_ z=>nomatch z)⟩)
   | bl k =>
    cases e;cases rx;refine jaz pins s σ H _ us Q I rv (.inr ⟨k,rfl,?_⟩)
    have:=q _ H (Same.refl H) (.int (if k=true then 1 else 0)) (nofr λ_ z=>nomatch z)
    cases k<;>exact this
   | _=>cases e
  | cons _ _=>cases x<;>cases e
theorem jaq {x:Str} {id:String} {bb:Blt} {p:Pos} {es:List Expr} {cs:Codes} (hc:zr X (.builtin id) (rDs X.K (yz bb))) (hg:Gl X x) (hm:X.mg x=none) (hv:bootBuiltins x=some (.builtin id)) (ha:SA X C (a::es) cs) (hn:x≠"__name__") (hdb:(x==("__debug__":Str))=false)
  (he:starEach (a::es) X.env=(false,eval a X.env)::starEach es X.env) (hpl:(backTo pos (starEach es X.env)).any (·.1)=false):SE X C (.Call (.Name x p) (a::es) [] pos) (.blt bb cs):=λB ρ d e=>by
 obtain ⟨ds,eds,e⟩:=wa (show (evs C cs ρ).bind _=some d from e);exact (yan hc hg hm hv (ha B ρ ds eds) hn hdb he hpl).imp λσ H Q ⟨h1,h2,q⟩=>⟨h1,h2,λvs H1 s1 r1=>⟨B,ds,d,h1.same s1,r1,e,λv H' s2 r2 _=>q v H' (s1.trans s2) r2⟩⟩
theorem zar {x:Str} {T:String} {bb:Blt} {p:Pos} {es:List Expr} {cs:Codes} (hc:zr X (.type T) (rDs X.K (yz bb))) (hg:Gl X x) (hm:X.mg x=none) (hv:bootBuiltins x=some (.type T)) (ha:SA X C (a::es) cs) (hn:x≠"__name__") (hdb:(x==("__debug__":Str))=false)
  (he:starEach (a::es) X.env=(false,eval a X.env)::starEach es X.env) (hpl:(backTo pos (starEach es X.env)).any (·.1)=false):SE X C (.Call (.Name x p) (a::es) [] pos) (.blt bb cs):=λB ρ d e=>by
 obtain ⟨ds,eds,e⟩:=wa (show (evs C cs ρ).bind _=some d from e);exact (yo hc hg hm hv (ha B ρ ds eds) hn hdb he hpl).imp λσ H Q ⟨h1,h2,q⟩=>⟨h1,h2,λvs H1 s1 r1=>⟨B,ds,d,h1.same s1,r1,e,λv H' s2 r2 _=>q v H' (s1.trans s2) r2⟩⟩
theorem ycb {x:Str} {T:String} {bb:Blt} {p:Pos} {es:List Expr} {cs:Codes} (hc:zr X (.type T) (rDs X.K (yz bb))) (hg:Gl X x) (hm:X.mg x=none) (hv:bootBuiltins x=some (.type T)) (ha:SA X C (a::es) cs) (hn:x≠"__name__") (hdb:(x==("__debug__":Str))=false)
  (he:starEach (a::es) X.env=(false,eval a X.env)::starEach es X.env) (hpl:(backTo pos (starEach es X.env)).any (·.1)=false):SF X C (.Call (.Name x p) (a::es) [] pos) (.blt bb cs):=λB ρ ds' e=>by
 obtain ⟨ds,eds,e⟩:=wa (show (evs C cs ρ).bind (λxs=>yz bb xs)=some (D.lst ds') from e);exact (yo hc hg hm hv (ha B ρ ds eds) hn hdb he hpl).imp λσ H Q ⟨h1,h2,q⟩=>⟨h1,h2,λvs H1 s1 r1=>⟨B,ds,_,h1.same s1,r1,e,λv H' s2 r2 f=>q v H' (s1.trans s2) r2 ((f _ rfl).back s1)⟩⟩
end
noncomputable def qar:List Nat->List V->L2.St->L2.St
 | i::is,v::vs,σ=>qar is vs (σ.set i (some v))
 | _,_,σ=>σ
def gT (t:Tgt):TG:=λv σ H Q=>match t with
 | .one i=>Q (σ.set i (some v)) H
 | .many is=>∃ a vs,v=.ref a/\H a=some (.tup vs)/\vs.length=is.length/\Q (qar is vs σ) H
theorem jE:∀ (is:List Nat) (vs:List V) (σ:L2.St),(qar is vs σ).length=σ.length
 | [],_,_=>by cases ‹List V›<;>rfl
 | _::_,[],_=>rfl
 | i::is,v::vs,σ=>by rw [qar,jE is vs];simp
section
variable {K:Frag} {B:Addr->Prop} {H:Hp}
theorem ER.set {σ:L2.St} {ρ:En} {i:Nat} {v:V} {d:D} (h:ER K B H σ ρ) (hi:i<σ.length) (r:Rep K B H v d):ER K B H (σ.set i (some v)) (ρ.set i (some d)):=λj d' e=>by
 by_cases hj:j=i
 ·subst hj
  have hl:j<ρ.length:=by
   have:=(wq.mp e).1
   simpa using this
  rw [vn hl] at e;cases e;exact ⟨v,vn hi,r⟩
 ·rw [wF (Ne.symm hj)] at e ⊢;exact h j d' e
theorem ER.setM:∀ {is:List Nat} {vs:List V} {ds:List D} {σ:L2.St} {ρ:En},ER K B H σ ρ->(∀ i∈is,i<σ.length)->Reps K B H vs ds->ER K B H (qar is vs σ) (setM is ds ρ)
 | [],_,_,_,_,h,_,r=>by cases r<;>exact h
 | _::_,_,_,_,_,h,_,.nil=>h
 | i::is,_,_,σ,ρ,h,hi,.cons a r=>by
  rw [qar,Eng.setM];exact ER.setM (h.set (hi i (by simp)) a) (λj hj=>by simpa using hi j (by simp [hj])) r
theorem ER.tgt {t : Tgt} {σ : L2.St} {ρ ρ' : En} {v : V} {d : D} {Q : L2.St -> Hp -> Prop} (h : ER K B H σ ρ) (ht : jay t d ρ = some ρ') (hi : ∀ i ∈ (match t with | .one i => [i] | .many is => is), i < σ.length) (r : Rep K B H v d)
  (q:∀ σ',ER K B H σ' ρ'->σ'.length=σ.length->Q σ' H):gT t v σ H Q:=by
 cases t with
 | one i =>
  cases ht;exact q _ (h.set (hi i (by simp)) r) (by simp)
 | many is =>
  cases d with
  | tup ds =>
   simp only [jay] at ht;split at ht
   ·rename_i hl;cases ht;obtain ⟨a,vs,rfl,ha,ra⟩:=r.tupD;exact ⟨a,vs,rfl,ha,by rw [ra.length];exact hl,q _ (h.setM hi ra) (jE _ _ _)⟩
   ·cases ht
  | _=>cases ht
end
section
variable {X:Cx} {pos:Pos}
theorem jdz {i:Nat} {x:Str} (hN:X.N.Nodup) (hi:X.N[i]?=some x) (hx:Loc X.env.scope x) (hf:X.fn x=true\/X.env.scope.names.lookup x=some .local):PG X (.Name x pos) (gT (.one i)):=qbn hN hi hx hf
def gMs (is:List Nat):TGs:=λvs σ H Q=>vs.length=is.length/\Q (qar is vs σ) H
theorem zaE (hN:X.N.Nodup):∀ (es:List Expr) (is:List Nat),(∀ e∈es.zip is,∃ x p,e.1=.Name x p/\X.N[e.2]?=some x/\Loc X.env.scope x/\(X.fn x=true\/X.env.scope.names.lookup x=some .local))->es.length=is.length->PGs X es (gMs is)
 | [],[],_,_=>λpins s σ H vs us Q I r h=>by
  obtain ⟨hl,h⟩:=h;exact jcE pins s σ H vs us Q I r ⟨List.length_eq_zero_iff.mp hl,by cases vs with | nil=>exact h | cons _ _=>exact h⟩
 | [],_::_,_,hl=>by cases hl
 | _::_,[],_,hl=>by cases hl
 | e::es,i::is,h,hl=>λpins s σ H vs us Q I r hq=>by
  obtain ⟨x,p,e1,h1,h2,h3⟩:=h (e,i) (by simp);have e1:e=.Name x p:=e1;subst e1;obtain ⟨hvl,hq⟩:=hq;cases vs with
  | nil=>cases hvl
  | cons v vs =>
   have ih:=zaE hN es is (λe he=>h e (by simp [he])) (by simpa using hl);exact yb3 (qbn hN h1 h2 h3) ih rfl pins s σ H (v::vs) us Q I r ⟨v,vs,rfl,by simpa using hvl,hq⟩
theorem qaE:∀ (es:List Expr) (env:Env),(∀ e∈es,∃ x p,e=Expr.Name x p)->(assignEach es env).findIdx? (·.1)=none/\(assignEach es env).length=es.length
 | [],_,_=>⟨rfl,rfl⟩
 | e::es,env,h=>by
  obtain ⟨x,p,rfl⟩:=h e (by simp);obtain ⟨h1,h2⟩:=qaE es env λe he=>h e (by simp [he])
  constructor
  ·show List.findIdx? _ ((false,assign (.Name x p) env)::assignEach es env)=none;rw [List.findIdx?_cons];simp only [wo,if_false];rw [h1];rfl
  ·show (_::assignEach es env).length=_;simp [h2]
theorem qcN {es:List Expr} {is:List Nat} {k:Nat} (hc:X.calm=true) (hN:X.N.Nodup) (h:∀ e∈es.zip is,∃ x p,e.1=.Name x p/\X.N[e.2]?=some x/\Loc X.env.scope x/\(X.fn x=true\/X.env.scope.names.lookup x=some .local)) (hl:es.length=is.length) :
  PG X (.Tuple es k pos) (gT (.many is)):=by
 have hn:∀ e∈es,∃ x p,e=Expr.Name x p:=λe he=>by
  obtain ⟨i,hi,rfl⟩:=List.mem_iff_getElem.mp he;obtain ⟨x,p,e1,_⟩:=h (es[i],is[i]'(by omega)) (List.mem_iff_getElem.mpr ⟨i,by simp;omega,by simp⟩);exact ⟨x,p,e1⟩
 obtain ⟨h1,h2⟩:=qaE es X.env hn;intro pins s σ H v u Q I r ⟨a,vs,e,ha,hvl,q⟩;exact zdi (n:=es.length) hc (zaE hN es is h hl) h2 h1 pins s σ H v u Q I r ⟨a,vs,e,SqT.of ha,by omega,hvl,q⟩
end
noncomputable def yH (cells:List (Str×Addr)):List (Str×NameKind)->List (Str×Addr)->List (Str×Addr)
 | [],cs=>cs
 | (n,k)::r,cs=>if k==.free then yH cells r ((n,(cells.lookup n).getD 0)::cs) else yH cells r cs
theorem qQ (env:Env):∀ (names:List (Str×NameKind)) (cs:List (Str×Addr)),(∀ x∈names,x.2=.free->(env.cells.lookup x.1).isSome=true) ->
  (forIn names cs λ(x:Str×NameKind) (cs:List (Str×Addr))=>if (x.2==NameKind.free)=true then do let a <-cellOf env x.1;pure (ForInStep.yield ((x.1,a)::cs)) else pure (ForInStep.yield cs))=(pure (yH env.cells names cs):Sem (List (Str×Addr)))
 | [],_,_=>rfl
 | (n,k)::r,cs,h=>by
  rw [List.forIn_cons]
  by_cases hk:(k==NameKind.free)=true
  ·have hs:=h (n,k) (by simp) (by simpa using hk);obtain ⟨c,hc⟩:=w9.mp hs;have e:cellOf env n=pure c:=by unfold cellOf;rw [show env.cells.lookup n=some c from hc]
   simp only [hk,if_true,e,yH,hc,Option.getD_some];exact qQ env r _ λx hx=>h x (by simp [hx])
  ·simp only [hk,if_false,yH];exact qQ env r _ λx hx=>h x (by simp [hx])
theorem jH {scope:Scope} {env:Env} (h:∀ x∈scope.names,x.2=.free->(env.cells.lookup x.1).isSome=true):closureFor scope env=pure (yH env.cells scope.names []):=by
 exact congrArg (λm:Sem (List (Str×Addr))=>m >>= λcs=>pure cs) (qQ env scope.names [] h)
theorem jx (cells:List (Str×Addr)):∀ (names:List (Str×NameKind)) (cs:List (Str×Addr)),(∀ x∈names,x.2=.free->(cells.lookup x.1).isSome=true)->(∀ x c,cs.lookup x=some c->cells.lookup x=some c)->∀ x c,(yH cells names cs).lookup x=some c->cells.lookup x=some c
 | [],_,_,h,x,c,e=>h x c e
 | (n,k)::r,cs,hs,h,x,c,e=>by
  by_cases hk:(k==NameKind.free)=true
  ·simp only [yH,hk,if_true] at e;refine jx cells r _ (λy hy=>hs y (by simp [hy])) (λy d q=>?_) x c e;rw [List.lookup_cons] at q;split at q
   ·rename_i hy;have hy:y=n:=by simpa using hy
    obtain ⟨c',hc⟩:=w9.mp (hs (n,k) (by simp) (by simpa using hk));rw [hc] at q;cases q;rw [hy];exact hc
   ·exact h y d q
  ·simp only [yH,hk,if_false] at e;exact jx cells r cs (λy hy=>hs y (by simp [hy])) h x c e
theorem zI (cells:List (Str×Addr)):∀ (names:List (Str×NameKind)) (cs:List (Str×Addr)) (x:Str),((x,NameKind.free)∈names\/(cs.lookup x).isSome=true)->((yH cells names cs).lookup x).isSome=true
 | [],_,_,h=>h.elim (λz=>by simp at z) id
 | (n,k)::r,cs,x,h=>by
  by_cases hk:(k==NameKind.free)=true
  ·simp only [yH,hk,if_true];refine zI cells r _ x ?_
   by_cases hx:x=n
   ·right;rw [hx,List.lookup_cons];simp
   ·rcases h with h | h
    ·rcases wu.mp h with z | z
     ·exact absurd (congrArg Prod.fst z) hx
     ·exact .inl z
    ·right
     have hb:(x==n)=false:=by simpa using hx
     rw [List.lookup_cons,hb];exact h
  ·simp only [yH,hk,if_false];refine zI cells r _ x ?_;rcases h with h | h
   ·rcases wu.mp h with z | z
    ·have:k=.free:=(congrArg Prod.snd z).symm;rw [this] at hk;exact absurd rfl hk
    ·exact .inl z
   ·exact .inr h
noncomputable def cOn:Nat->List (Str×NameKind)->List (Str×Addr)->List (Str×Addr)
 | _,[],cs=>cs
 | n,(x,k)::r,cs=>if k==.cell then cOn (n+1) r ((x,n)::cs) else cOn n r cs
theorem j6:∀ (names:List (Str×NameKind)) (n:Nat) (cs:List (Str×Addr)) (x:Str) (c:Addr),(cOn n names cs).lookup x=some c->cs.lookup x=some c\/(n<=c/\(x,NameKind.cell)∈names)
 | [],_,_,_,_,h=>.inl h
 | (y,k)::r,n,cs,x,c,h=>by
  by_cases hk:(k==NameKind.cell)=true
  ·simp only [cOn,hk,if_true] at h;have ek:k=.cell:=by simpa using hk
   rcases j6 r (n+1) _ x c h with q | ⟨q,m⟩
   ·rw [List.lookup_cons] at q;split at q
    ·rename_i hx;have hx:x=y:=by simpa using hx
     cases q;exact .inr ⟨wC _,by rw [hx,ek];exact wN⟩
    ·exact .inl q
   ·exact .inr ⟨Nat.le_of_succ_le q,wI _ m⟩
  ·simp only [cOn,hk,if_false] at h;rcases j6 r n cs x c h with q | ⟨q,m⟩
   ·exact .inl q
   ·exact .inr ⟨q,wI _ m⟩
theorem yar:∀ (names:List (Str×NameKind)) (n:Nat) (cs:List (Str×Addr)) (x:Str),((x,NameKind.cell)∈names\/(cs.lookup x).isSome=true)->((cOn n names cs).lookup x).isSome=true
 | [],_,_,_,h=>h.elim (λz=>by cases z) id
 | (y,k)::r,n,cs,x,h=>by
  by_cases hk:(k==NameKind.cell)=true
  ·simp only [cOn,hk,if_true];refine yar r (n+1) _ x ?_
   by_cases hx:x=y
   ·right;rw [hx,List.lookup_cons];simp
   ·rcases h with h | h
    ·rcases wu.mp h with z | z
     ·exact absurd (congrArg Prod.fst z) hx
     ·exact .inl z
    ·right
     have hb:(x==y)=false:=by simpa using hx
     rw [List.lookup_cons,hb];exact h
  ·simp only [cOn,hk,if_false];refine yar r n cs x (h.imp (λh=>?_) id);rcases wu.mp h with z | z
   ·have:k=.cell:=(congrArg Prod.snd z).symm;rw [this] at hk;exact absurd rfl hk
   ·exact z
theorem jaR:∀ (names:List (Str×NameKind)) (n:Nat) (cs:List (Str×Addr)) (x:Str) (c:Addr),(x,NameKind.cell)∈names->(cOn n names cs).lookup x=some c->n<=c
 | [],_,_,_,_,m,_=>by cases m
 | (y,k)::r,n,cs,x,c,m,h=>by
  by_cases hk:(k==NameKind.cell)=true
  ·simp only [cOn,hk,if_true] at h;rcases wu.mp m with z | z
   ·rcases j6 r (n+1) _ x c h with q | ⟨q,_⟩
    ·have hx:x=y:=congrArg Prod.fst z;rw [hx,List.lookup_cons] at q;simp at q;exact Nat.le_of_eq q
    ·exact Nat.le_of_succ_le q
   ·exact Nat.le_of_succ_le (jaR r (n+1) _ x c z h)
  ·simp only [cOn,hk,if_false] at h;rcases wu.mp m with z | z
   ·have:k=.cell:=(congrArg Prod.snd z).symm;rw [this] at hk;exact absurd rfl hk
   ·exact jaR r n cs x c z h
theorem zaS:∀ (names:List (Str×NameKind)) (n:Nat) (cs:List (Str×Addr)),(∀ x y c,cs.lookup x=some c->cs.lookup y=some c->x=y)->(∀ x c,cs.lookup x=some c->c<n)->∀ x y c,(cOn n names cs).lookup x=some c->(cOn n names cs).lookup y=some c->x=y
 | [],_,_,hi,_,x,y,c,h1,h2=>hi x y c h1 h2
 | (z,k)::r,n,cs,hi,hl,x,y,c,h1,h2=>by
  by_cases hk:(k==NameKind.cell)=true
  ·simp only [cOn,hk,if_true] at h1 h2
   have at':∀ x c,((z,n)::cs).lookup x=some c->(x=z/\c=n)\/(x≠z/\cs.lookup x=some c):=λx c q=>by
    rw [List.lookup_cons] at q;split at q
    ·rename_i hx;cases q;exact .inl ⟨by simpa using hx,rfl⟩
    ·rename_i hx;exact .inr ⟨by simpa using hx,q⟩
   refine zaS r (n+1) ((z,n)::cs) (λa b e q1 q2=>?_) (λa e q=>?_) x y c h1 h2
   ·rcases at' a e q1 with ⟨a1,a2⟩ | ⟨a1,a2⟩<;>rcases at' b e q2 with ⟨b1,b2⟩ | ⟨b1,b2⟩
    ·rw [a1,b1]
    ·exact absurd (hl b e b2) (by rw [a2];exact Nat.lt_irrefl _)
    ·exact absurd (hl a e a2) (by rw [b2];exact Nat.lt_irrefl _)
    ·exact hi a b e a2 b2
   ·rcases at' a e q with ⟨_,a2⟩ | ⟨_,a2⟩
    ·rw [a2];exact Nat.lt_succ_self _
    ·exact Nat.lt_succ_of_lt (hl a e a2)
  ·simp only [cOn,hk,if_false] at h1 h2;exact zaS r n cs hi hl x y c h1 h2
theorem j7 {M:Model} {A:Around} {E:Value->Shared->Prop}:∀ (names:List (Str×NameKind)) (cs:List (Str×Addr)) (s:Shared) (Q:List (Str×Addr)->Shared->Prop),
  (∀ h':Heap,(∀ b o,s.heap.get? b=some o->h'.get? b=some o)->(∀ x c,(cOn s.heap.objs.size names cs).lookup x=some c->cs.lookup x=some c\/(s.heap.objs.size<=c/\h'.IsCell c none))->Q (cOn s.heap.objs.size names cs) { s with heap:=h' }) ->
  wpAny M A (forIn names cs λ(x:Str×NameKind) (cs:List (Str×Addr))=>match x with
   | (name,kind)=>if (kind==NameKind.cell)=true then do let a <-alloc { cls:=.type "cell",data:=.cell none };pure (ForInStep.yield ((name,a)::cs)) else pure (ForInStep.yield cs)) Q E s
 | [],cs,s,Q,h=>wm (h s.heap (λ_ _ e=>e) λ_ _ e=>.inl e)
 | (y,k)::r,cs,s,Q,h=>by
  rw [List.forIn_cons]
  by_cases hk:(k==NameKind.cell)=true
  ·simp only [hk,if_true];refine we (we (wpAny_alloc (wm ?_)));refine j7 r _ { s with heap:=s.heap.push { cls:=.type "cell",data:=.cell none } } Q λh' kp hc=>?_
   have hsz:(s.heap.push { cls:=.type "cell",data:=.cell none }).objs.size=s.heap.objs.size+1:=Heap.size_push ..;simp only [hsz] at hc ⊢;have e1:cOn s.heap.objs.size ((y,k)::r) cs=cOn (s.heap.objs.size+1) r ((y,s.heap.objs.size)::cs):=by simp only [cOn,hk,if_true]
   have:=h h' (λb o e=>kp b o (wj _ e)) λx c q=>by
    rw [e1] at q;rcases hc x c q with z | ⟨z1,z2⟩
    ·rw [List.lookup_cons] at z;split at z
     ·cases z;exact .inr ⟨wC _,_,kp _ _ (wt _ rfl),rfl⟩
     ·exact .inl z
    ·exact .inr ⟨Nat.le_of_succ_le z1,z2⟩
   rw [e1] at this;exact this
  ·simp only [hk,if_false];refine we (wm ?_);have e1:cOn s.heap.objs.size ((y,k)::r) cs=cOn s.heap.objs.size r cs:=by rw [cOn,if_neg hk]
   rw [e1] at h;exact j7 r cs s Q h
theorem qaS {M:Model} {A:Around} {E:Value->Shared->Prop} {s:Shared} {scope:Scope} {globals:Addr} {cl:List (Str×Addr)} {qual:Str} {env:Env} {Q:Env->Shared->Prop}
  (h:∀ (h':Heap) (m:Str->Option Value),h'.Ns s.heap.objs.size m->(∀ b o,s.heap.get? b=some o->h'.get? b=some o)->(∀ x c,(cOn (s.heap.objs.size+1) scope.names cl).lookup x=some c->cl.lookup x=some c\/(s.heap.objs.size+1<=c/\h'.IsCell c none)) ->
   Q (newEnv scope s.heap.objs.size globals (cOn (s.heap.objs.size+1) scope.names cl) qual none .none (some env) builtinsNs) { s with heap:=h' }) :
  wpAny M A (newFunctionEnv scope globals cl [] qual none .none (some env)) Q E s:=by
 unfold newFunctionEnv;refine we (wpAny_alloc ?_);refine we (j7 scope.names cl _ _ λh' kp hc=>?_);have hsz:(s.heap.push { cls:=.type (if (some env).isSome=true then "dict" else "frame"),data:=.dict #[] }).objs.size=s.heap.objs.size+1:=Heap.size_push ..;simp only [hsz] at hc ⊢;refine we (wm (wm ?_));exact h h' (λx=>nsFind #[] x) ⟨_,#[],0,kp _ _ (wt _ rfl),rfl,by simp [StrKeys],λ_=>rfl⟩ (λb o e=>kp b o (wj _ e)) hc
noncomputable def blk (X:Cx) (N':List Str) (scope:Scope) (s₀:Shared) (H₀:Hp) (fp:List Addr):Cx :=
 { X with N:=N',s₀:=s₀,H₀:=H₀,env:=compEnvC scope (cOn (s₀.heap.objs.size+1) scope.names (yH X.env.cells scope.names [])) s₀.heap.objs.size X.env,outer:=X.stack,stack:=X.stack,ex:=fp,fn:=λx=>scope.names.lookup x==some .cell,pn:=[] }
section
variable {K:Frag} {B B':Addr->Prop} {H:Hp}
mutual
theorem Rep.holes (f:∀ b,B' b->B b\/H b=none):∀ {v:V} {d:D},Rep K B H v d->Rep K B' H v d
 | _,_,.non=>.non
 | _,_,.bl b=>.bl b
 | _,_,.int i=>.int i
 | _,_,.str x=>.str x
 | _,_,.tup e r=>.tup e (Reps.holes f r)
 | _,_,.lst n e r=>.lst (λz=>(f _ z).elim n λq=>by rw [q] at e;cases e) e (Reps.holes f r)
 | _,_,.scr h=>.scr h
 | _,_,.grp n e y z w r=>.grp (λq=>(f _ q).elim n λq'=>by rw [q'] at e;cases e) e y z w (Reps.holes f r)
 | _,_,.mem e=>.mem e
 | _,_,.dct n e=>.dct (λq=>(f _ q).elim n λq'=>by rw [q'] at e;cases e) e
theorem Reps.holes (f:∀ b,B' b->B b\/H b=none):∀ {vs:List V} {ds:List D},Reps K B H vs ds->Reps K B' H vs ds
 | _,_,.nil=>.nil
 | _,_,.cons a r=>.cons (Rep.holes f a) (Reps.holes f r)
end
theorem ER.holes {σ:L2.St} {ρ:En} (f:∀ b,B' b->B b\/H b=none) (h:ER K B H σ ρ):ER K B' H σ ρ:=λi d e=>let ⟨v,q,r⟩:=h i d e;⟨v,q,r.holes f⟩
theorem ER.mono {σ:L2.St} {ρ:En} {H':Hp} (hb:HB B H) (s:yr B H H') (h:ER K B H σ ρ):ER K B H' σ ρ:=λi d e=>let ⟨v,q,r⟩:=h i d e;⟨v,q,r.mono hb s⟩
mutual
theorem Rep.shift {H':Hp} (hb:HB B H) (s:yr B H H') (f:∀ b,B' b->B b\/H b=none):∀ {v:V} {d:D},Rep K B H v d->Rep K B' H' v d
 | _,_,.non=>.non
 | _,_,.bl b=>.bl b
 | _,_,.int i=>.int i
 | _,_,.str x=>.str x
 | _,_,.tup e r=>.tup (s _ _ (hb.notT e) e) (Reps.shift hb s f r)
 | _,_,.lst n e r=>.lst (λz=>(f _ z).elim n λq=>by rw [q] at e;cases e) (s _ _ n e) (Reps.shift hb s f r)
 | _,_,.scr (.inl ⟨o,e⟩)=>.scr (.inl ⟨o,s _ _ (hb.notF e) e⟩)
 | _,_,.scr (.inr h)=>.scr (.inr h)
 | _,_,.grp n e y z w r=>.grp (λq=>(f _ q).elim n λq'=>by rw [q'] at e;cases e) (s _ _ n e) y z w (Reps.shift hb s f r)
 | _,_,.mem e=>.mem (s _ _ (hb.notM e) e)
 | _,_,.dct n e=>.dct (λq=>(f _ q).elim n λq'=>by rw [q'] at e;cases e) (s _ _ n e)
theorem Reps.shift {H':Hp} (hb:HB B H) (s:yr B H H') (f:∀ b,B' b->B b\/H b=none):∀ {vs:List V} {ds:List D},Reps K B H vs ds->Reps K B' H' vs ds
 | _,_,.nil=>.nil
 | _,_,.cons a r=>.cons (Rep.shift hb s f a) (Reps.shift hb s f r)
end
end
structure ItOk (K:Frag) (B:Addr->Prop) (H0:Hp) (ds:List D) (J:It):Prop where
 len:ds.length<=sizeLine
 go:∀ (B':Addr->Prop) (H:Hp),(∀ b,B' b->B b\/H0 b=none)->HB B' H->yr B H0 H->∀ i d,ds[i]?=some d->J.go i H/\∀ x H',J.yld i H x H'->Same H H'/\Rep K B' H' x d
 stop:∀ (H:Hp),yr B H0 H->J.stop ds.length H
def iD (K:Frag) (B:Addr->Prop) (ρ:En) (ds:List D):TI:=λσ H R=>HB B H/\ER K B H σ ρ/\∀ J H',Same H H'->ItOk K B H' ds J->R J H'
def SI (X:Cx) (C:Tab) (tg iter:Expr) (it:Iter):Prop:=∀ B ρ ds,evI C it ρ=some ds->PI X tg iter (iD X.K B ρ ds)
theorem wk {α:Type} {M:Model} {A:Around} {t:Sem α} {Q:α->Shared->Prop} {E:Value->Shared->Prop} {s:Shared} (h:wpAny M A t Q (λ_ _=>False) s):wpAny M A t Q E s:=wpAny_mono h (λ_ _ q=>q) λ_ _ z=>z.elim
section
variable {X:Cx} {pins:List (Addr×Obj)} {σ:L2.St} {H:Hp} {s:Shared}
theorem zdA {N':List Str} {scope:Scope} {fp:List Addr} (I:L2.Inv X pins σ H s) (hk:scope.kind=.function) (hfr:∀ x∈scope.names,x.2=.free->X.env.kindOf x.1=some .cell\/X.env.kindOf x.1=some .free)
  (hf:∀ b∈fp,FpOk X pins H b) (hfl:∀ b∈fp,b<s.heap.objs.size):(blk X N' scope s H fp).Ok:=by
 have hs:∀ x∈scope.names,x.2=.free->(X.env.cells.lookup x.1).isSome=true:=λx hx hx2=>by
  obtain ⟨c,e⟩:=I.ok.has x.1 (hfr x hx hx2);rw [e];rfl
 have look:∀ x c,(yH X.env.cells scope.names []).lookup x=some c->X.env.cells.lookup x=some c:=jx _ _ _ hs (λx c e=>by simp at e);have clt:∀ x c,X.env.cells.lookup x=some c->c<s.heap.objs.size:=λx c e=>let ⟨v,q⟩:=I.cell x c e;q.lt
 refine ⟨I.ok.mod,hk,I.ok.glob,I.ok.blt,wC _,zaS _ _ _ (λx y c h1 h2=>I.ok.inj x y c (look x c h1) (look y c h2)) (λx c h=>Nat.lt_succ_of_lt (clt x c (look x c h))),λx hx=>?_,λx c hfn h=>Nat.le_of_succ_le (jaR _ _ _ x c (wZ (by simpa using (show (scope.names.lookup x==some .cell)=true from hfn))) h),I.ok.hd,I.ok.frames,.inl rfl,λb hb=>⟨?_,λx c h=>?_⟩,I.bs,wQ I.ok.bsz I.sz,λb o e hb=>?_,λb hb hfs=>?_,I.stack,I.stkFree⟩
 ·-- a name of the block that is no local has its cell
  have hmem:(x,NameKind.free)∈scope.names\/(x,NameKind.cell)∈scope.names:=by
   have hx':(relabel scope X.env).names.lookup x=some .cell\/(relabel scope X.env).names.lookup x=some .free:=hx;have hm:(x,NameKind.cell)∈(relabel scope X.env).names\/(x,NameKind.free)∈(relabel scope X.env).names:=hx'.elim (λz=>.inl (wZ z)) λz=>.inr (wZ z)
   unfold relabel at hm;rcases hm with hm | hm
   ·obtain ⟨⟨n,k⟩,hn,e⟩:=wH.mp hm
    by_cases c:(k==NameKind.free&&X.env.scope.kind==.function&&X.env.kindOf n==some .cell)=true
    ·simp only [c,if_true] at e
     have hkf:k=.free:=by
      have:=(wg _ _▸(wg _ _▸c).1).1
      simpa using this
     cases e;rw [hkf] at hn;exact .inl hn
    ·simp only [c,if_false] at e;cases e;exact .inr hn
   ·obtain ⟨⟨n,k⟩,hn,e⟩:=wH.mp hm
    by_cases c:(k==NameKind.free&&X.env.scope.kind==.function&&X.env.kindOf n==some .cell)=true
    ·simp only [c,if_true] at e;cases e
    ·simp only [c,if_false] at e;cases e;exact .inl hn
  exact w9.mp (yar _ _ _ x (hmem.elim (λz=>.inr (zI _ _ _ x (.inl z))) .inl))
 ·exact wM (hfl b hb)
 ·rcases j6 _ _ _ x c h with q | ⟨q,_⟩
  ·exact (hf b hb).2.2.2.2.1 x c (look x c q)
  ·exact λz=>absurd (hfl b hb) (by rw [<-z];exact Nat.not_lt.mpr (Nat.le_of_succ_le q))
 ·have hb':b∈fp:=hb;rcases (hf b hb').2.2.2.1 with z | z
  ·exact I.ok.noex b o e z
  ·exact absurd (wL (wz e) (wQ I.ok.bsz z)) (Nat.lt_irrefl _)
 ·have hb':b∈fp:=hb;rcases wu.mp (I.stkSub b hfs) with z | z
  ·exact (hf b hb').2.1 z
  ·exact (hf b hb').2.2.1 z
theorem ycN {N':List Str} {scope:Scope} {fp:List Addr} {h':Heap} {tk:Nat} {m:Str->Option Value} {σ':L2.St} (I:L2.Inv X pins σ H s) (ok:(blk X N' scope s H fp).Ok) (hn:h'.Ns s.heap.objs.size m)
  (hk:∀ b o,s.heap.get? b=some o->h'.get? b=some o) (hl:σ'.length=N'.length) (hfr:∀ x∈scope.names,x.2=.free->(X.env.cells.lookup x.1).isSome=true)
  (hcl:∀ x c,(cOn (s.heap.objs.size+1) scope.names (yH X.env.cells scope.names [])).lookup x=some c->(yH X.env.cells scope.names []).lookup x=some c\/(s.heap.objs.size+1<=c/\h'.IsCell c none))
  (hnc:∀ x,(x,NameKind.cell)∈scope.names->(x,NameKind.free)∉scope.names)
  (hσ:∀ (i:Nat) (x:Str) (v:V),N'[i]?=some x->σ'[i]?=some (some v)->((relabel scope X.env).names.lookup x=some .cell\/(relabel scope X.env).names.lookup x=some .free)/\(x,NameKind.free)∈scope.names/\((yH X.env.cells scope.names []).lookup x).isSome=true /\
   ∃ j:Nat,X.N[j]?=some x/\σ[j]?=some (some v)/\(X.env.scope.names.lookup x=some .cell\/X.env.scope.names.lookup x=some .free)) :
  L2.Inv (blk X N' scope s H fp) [] σ' H { s with heap:=h',toks:=tk }:=by
 have look:∀ x c,(yH X.env.cells scope.names []).lookup x=some c->X.env.cells.lookup x=some c:=jx _ _ _ hfr (λx c e=>by simp at e);have cellK:∀ c v,s.heap.IsCell c v->h'.IsCell c v:=λc v ⟨o,ho,hd⟩=>⟨o,hk c o ho,hd⟩
 refine ⟨ok,rfl,I.bare,Un.kept hk,⟨m,hn,λi x v e1 e2 _=>?_⟩,λx c e=>?_,I.fresh,λx c e=>?_,λp hp=>(by cases hp),I.hok.kept hk,hl⟩
 ·obtain ⟨k1,k0,k2,j,e3,e4,k3⟩:=hσ i x v e1 e2;obtain ⟨c1,hc1⟩:=w9.mp (yar scope.names (s.heap.objs.size+1) _ x (.inr k2));have hc:(yH X.env.cells scope.names []).lookup x=some c1:=(j6 _ _ _ x c1 hc1).elim id λq=>absurd k0 (hnc x q.2)
  obtain ⟨c,hce⟩:∃ c,c=c1:=⟨_,rfl⟩;rw [<-hce] at hc hc1;obtain ⟨mX,_,hX⟩:=I.loc;obtain ⟨u,ru,lk⟩:=hX j x v e3 e4 (k3.elim (λz=>.inr (.inl z)) λz=>.inr (.inr z));refine ⟨u,ru,.inr ⟨k1,c,hc1,?_⟩⟩;rcases lk with ⟨z,_⟩ | ⟨_,c',hc',z⟩
  ·have z':X.env.scope.names.lookup x=some .local:=z;rcases k3 with k | k<;>(rw [k] at z';cases z')
  ·rw [look x c hc] at hc';cases hc';exact cellK c _ z
 ·rcases hcl x c e with q | ⟨_,q⟩
  ·obtain ⟨v,z⟩:=I.cell x c (look x c q);exact ⟨v,cellK c v z⟩
  ·exact ⟨_,q⟩
 ·rcases hcl x c e with q | ⟨q,_⟩
  ·exact I.freeC x c (look x c q)
  ·exact I.hok.fresh (Nat.le_of_succ_le q)
end
noncomputable def Tgt.ixs:Tgt->List Nat
 | .one i=>[i]
 | .many is=>is
noncomputable def jah (n:Nat) (keep:List Nat) (σ:L2.St):L2.St:=List.replicate n none++keep.map λi=>(σ[i]?).join
theorem zF {env:Env}:∀ {names:List (Str×NameKind)} {x:Str},names.lookup x=some .free ->
  (names.map λ(n,k)=>if (k==NameKind.free&&env.scope.kind==.function&&env.kindOf n==some .cell) then (n,NameKind.cell) else (n,k)).lookup x=some .cell \/
  (names.map λ(n,k)=>if (k==NameKind.free&&env.scope.kind==.function&&env.kindOf n==some .cell) then (n,NameKind.cell) else (n,k)).lookup x=some .free
 | [],_,h=>by simp at h
 | (n,k)::r,x,h=>by
  rw [List.lookup_cons] at h;rw [List.map_cons];cases hx:x==n with
  | true =>
   rw [hx] at h;cases h
   by_cases c:(NameKind.free==NameKind.free&&env.scope.kind==.function&&env.kindOf n==some .cell)=true
   ·left
    show List.lookup x ((if _ then _ else _)::_)=_;rw [if_pos c,List.lookup_cons,hx]
   ·right
    show List.lookup x ((if _ then _ else _)::_)=_;rw [if_neg c,List.lookup_cons,hx]
  | false =>
   rw [hx] at h;have ih:=zF (env:=env) h
   by_cases c:(k==NameKind.free&&env.scope.kind==.function&&env.kindOf n==some .cell)=true
   ·show List.lookup x ((if _ then _ else _)::_)=_\/List.lookup x ((if _ then _ else _)::_)=_;rw [if_pos c,List.lookup_cons,hx];exact ih
   ·show List.lookup x ((if _ then _ else _)::_)=_\/List.lookup x ((if _ then _ else _)::_)=_;rw [if_neg c,List.lookup_cons,hx];exact ih
section
variable {K:Frag} {B:Addr->Prop} {H:Hp}
theorem jar {α:Type} {n:Nat} {keep:List Nat} {l:List (Option α)} {i:Nat} {a:α} (h:(List.replicate n (none:Option α)++keep.map λj=>(l[j]?).join)[i]?=some (some a)) :
  ∃ k j,i=n+k/\keep[k]?=some j/\l[j]?=some (some a):=by
 by_cases hi:i<n
 ·rw [vi (by simpa using hi),List.getElem?_replicate] at h;split at h<;>cases h
 ·rw [List.getElem?_append_right (by simpa using hi),List.length_replicate,wx] at h;cases e:keep[i-n]? with
  | none=>rw [e] at h;cases h
  | some j =>
   rw [e] at h;refine ⟨i-n,j,by omega,e,?_⟩;have h':(l[j]?).join=some a:=wB h;cases q:l[j]? with
   | none=>rw [q] at h';cases h'
   | some o=>rw [q] at h';exact congrArg some h'
theorem ER.block {σ:L2.St} {ρ:En} {n:Nat} {keep:List Nat} (h:ER K B H σ ρ):ER K B H (jah n keep σ) (yj n keep ρ):=λi d e=>by
 obtain ⟨k,j,hi,hk,hj⟩:=jar e;obtain ⟨v,ev,rv⟩:=h j d hj;refine ⟨v,?_,rv⟩;unfold jah;rw [hi,List.getElem?_append_right (by simp),List.length_replicate,Nat.add_sub_cancel_left,wx,hk];show some ((σ[j]?).join)=_;rw [ev];rfl
theorem zai:∀ {is:List Nat} {ds:List D} {ρ:En} {i:Nat},i∉is->(setM is ds ρ)[i]?=ρ[i]?
 | [],_,_,_,_=>by cases ‹List D›<;>rfl
 | _::_,[],_,_,_=>rfl
 | j::is,d::ds,ρ,i,h=>by
  rw [Eng.setM,zai (λz=>h (by simp [z]))];exact wF (λe=>h (by simp [e]))
theorem ER.back {σ:L2.St} {ρ ρ1:En} {n:Nat} {keep:List Nat} {t:Tgt} {d:D} (h:ER K B H σ ρ1) (ht:jay t d (yj n keep ρ)=some ρ1) (hi:∀ i∈t.ixs,i<n):ER K B H σ (yj n keep ρ):=λi d' e=>by
 obtain ⟨k,j,hik,_,_⟩:=jar e;have hni:i∉t.ixs:=λz=>by have:=hi i z;omega
 refine h i d' ?_;cases t with
 | one j =>
  cases ht;rw [wF (λe=>hni (by simp [Tgt.ixs,e]))];exact e
 | many is =>
  cases d with
  | tup ds =>
   simp only [jay] at ht;split at ht
   ·cases ht;rw [zai (show i∉is from hni)];exact e
   ·cases ht
  | _=>cases ht
end
structure CompS (X:Cx) (C:Tab) (elt tg iter:Expr) (ifs:List Expr) (scope:Scope) (ce:Code) (t:Tgt) (n:Nat) (keep:List Nat) (cc:OCode) (N':List Str):Prop where
 hx:X.xe=λ_ _=>False
 calm:X.calm=true
 kind:scope.kind=.function
 nc:∀ x,(x,NameKind.cell)∈scope.names->(x,NameKind.free)∉scope.names
 fr:∀ x∈scope.names,x.2=.free->X.env.kindOf x.1=some .cell\/X.env.kindOf x.1=some .free
 names:∀ x∈scope.names,x.2=.local->scope.names.lookup x.1=some .local
 len:N'.length=n+keep.length
 kp:∀ (k j:Nat),keep[k]?=some j->∃ x,N'[n+k]?=some x/\X.N[j]?=some x/\scope.names.lookup x=some .free/\(X.env.scope.names.lookup x=some .cell\/X.env.scope.names.lookup x=some .free)
 ti:∀ i∈t.ixs,i<n
 hs:∀ x,foldedSetIterable iter X.env x=pure x
 G:∀ s₀ H₀ fp,PG (blk X N' scope s₀ H₀ fp) tg (gT t)
 E:∀ s₀ H₀ fp,SE (blk X N' scope s₀ H₀ fp) C elt ce
 T:(ifs=[]/\cc=.none)\/∃ e c,ifs=[e]/\cc=.some c/\∀ s₀ H₀ fp,SB (blk X N' scope s₀ H₀ fp) C e c
section
variable {X:Cx} {C:Tab} {elt tg iter:Expr} {ifs:List Expr} {scope:Scope} {ce:Code} {t:Tgt} {n:Nat} {keep:List Nat} {cc:OCode} {N':List Str}
theorem yaS {f:D->Option (Option D)} {d:D} {ds rs:List D} (h:gather f (d::ds)=some rs):∃ o r,f d=some o/\gather f ds=some r/\rs=(match o with | none=>r | some x=>x::r):=by
 rw [gather] at h;obtain ⟨o,eo,h⟩:=wa h;obtain ⟨r,er,h⟩:=wb h;refine ⟨o,r,eo,er,?_⟩;cases o<;>exact h.symm
theorem qa3 (S:CompS X C elt tg iter ifs scope ce t n keep cc N') {pos:Pos} {pins:List (Addr×Obj)} {σ:L2.St} {H:Hp} {s:Shared} {B:Addr->Prop} {ρ:En} {ds rs:List D} {fp:List Addr} {ia:Addr} {tn:Nat->Heap->Prop} {J:It}
  {use:Option (Value->Sem Unit)} {Q:Value->Shared->Prop} {E:Value->Shared->Prop}
  (I:L2.Inv X pins σ H s) (Tn:Turn X.prog X.w X.K tg J fp ia tn) (st:tn 0 s.heap) (fpo:∀ b∈fp,FpOk X pins H b) (ok:ItOk X.K B H ds J) (hb:HB B H) (er:ER X.K B H σ ρ) (hg:gather (turn C ce t n keep cc ρ) ds=some rs)
  (fin:∀ (p Cc:Addr) (Hf:Hp) (ys:List V) (s':Shared) (m:Str->Option Value),H p=none->Same H Hf->Hf p=some (.lst ys)->Reps X.K (λb=>B b\/b=p) Hf ys rs->L2.Inv X pins σ Hf s'->s'.heap.Ns Cc m->FpOk X pins Hf Cc->Hf Cc=none ->
   compPost (model X.prog X.w) X.A E use Q (.ref p) Cc (.ok .next) s') :
  wpAny (model X.prog X.w) X.A (newList []) (λacc s₃=>wpAny (model X.prog X.w) X.A (newFunctionEnv scope X.env.globals (yH X.env.cells scope.names []) [] X.env.qual none .none (some X.env)) (λcenv s₄ =>
   codeAny (model X.prog X.w) X.A (.compStart (.ListComp elt [⟨tg,iter,ifs,0⟩] scope pos) 0 (.ref ia) acc { cenv with scope:=relabel scope X.env }) (compPost (model X.prog X.w) X.A E use Q acc cenv.locals) s₄) E s₃) E s:=by
 have hsome:∀ x∈scope.names,x.2=.free->(X.env.cells.lookup x.1).isSome=true:=λx hx hx2=>by
  obtain ⟨c,e⟩:=I.ok.has x.1 (S.fr x hx hx2);rw [e];rfl
 obtain ⟨p,hp⟩:∃ p,p=s.heap.objs.size:=⟨_,rfl⟩;have pf:H p=none:=hp▸I.fresh
 have fpl:∀ b∈fp,b<s.heap.objs.size:=λb hb=>by
  obtain ⟨o,e,_⟩:=Tn.obj 0 _ st b hb;exact wz e
 refine vc (qaS λh₁ mm hns kept' hcl=>?_)
 have I3:L2.Inv X pins σ (upd H p (.lst [])) { s with heap:=s.heap.push { cls:=.type "list",data:=.seq ([]:List Value).toArray } }:=by
  subst hp;exact I.lnew (t':=s.toks) .nil (Nat.zero_le _)
 obtain ⟨s3,hs3⟩:∃ s3:Shared,s3={ s with heap:=s.heap.push { cls:=.type "list",data:=.seq ([]:List Value).toArray } }:=⟨_,rfl⟩;rw [<-hs3] at I3;obtain ⟨m0,hns⟩:∃ m0,h₁.Ns s3.heap.objs.size m0:=⟨_,by rw [hs3];exact hns⟩;have kept:∀ b o,s3.heap.get? b=some o->h₁.get? b=some o:=by rw [hs3];exact kept'
 have hcl:∀ x c,(cOn (s3.heap.objs.size+1) scope.names (yH X.env.cells scope.names [])).lookup x=some c->(yH X.env.cells scope.names []).lookup x=some c\/(s3.heap.objs.size+1<=c/\h₁.IsCell c none):=by rw [hs3];exact hcl
 have old:∀ b o,s.heap.get? b=some o->s3.heap.get? b=some o:=λb o e=>by rw [hs3];exact wj _ e
 have fpo3:∀ b∈fp,FpOk X pins (upd H p (.lst [])) b:=λb hb=>⟨by rw [ja (wM (hp▸fpl b hb))];exact (fpo b hb).1,(fpo b hb).2⟩
 have okB:(blk X N' scope s3 (upd H p (.lst [])) fp).Ok:=zdA I3 S.kind S.fr fpo3 λb hb=>by
  obtain ⟨o,e,_⟩:=Tn.obj 0 _ st b hb;exact wz (old b o e)
 obtain ⟨X',hX'⟩:∃ X':Cx,X'=blk X N' scope s3 (upd H p (.lst [])) fp:=⟨_,rfl⟩
 have hS0:∀ (i:Nat) (x:Str) (v:V),N'[i]?=some x->(jah n keep σ)[i]?=some (some v)->((relabel scope X.env).names.lookup x=some .cell\/(relabel scope X.env).names.lookup x=some .free)/\(x,NameKind.free)∈scope.names/\((yH X.env.cells scope.names []).lookup x).isSome=true /\
   ∃ j:Nat,X.N[j]?=some x/\σ[j]?=some (some v)/\(X.env.scope.names.lookup x=some .cell\/X.env.scope.names.lookup x=some .free):=λi x v e1 e2=>by
  obtain ⟨k,j,hi,hk,hj⟩:=jar e2;obtain ⟨y,y1,y2,y3,y4⟩:=S.kp k j hk;rw [hi,y1] at e1;cases e1;exact ⟨zF y3,wZ y3,zI _ _ _ _ (.inl (wZ y3)),j,y2,hj,y4⟩
 have I4:L2.Inv X' [] (jah n keep σ) (upd H p (.lst [])) { s3 with heap:=h₁,toks:=s3.toks }:=by
  rw [hX'];exact ycN I3 okB hns kept (by simp [jah,S.len]) hsome hcl S.nc hS0
 obtain ⟨f,hf⟩:∃ f,f=turn C ce t n keep cc ρ:=⟨_,rfl⟩;rw [<-hf] at hg;have hK':X'.K=X.K:=by rw [hX'];rfl
 have hP':X'.prog=X.prog:=by rw [hX'];rfl
 have hw':X'.w=X.w:=by rw [hX'];rfl
 have hA':X'.A=X.A:=by rw [hX'];rfl
 have hc':X'.calm=true:=by rw [hX'];exact S.calm
 have hxe:X'.xe=λ_ _=>False:=by rw [hX'];exact S.hx
 have henv:X'.env=compEnvC scope (cOn (s3.heap.objs.size+1) scope.names (yH X.env.cells scope.names [])) s3.heap.objs.size X.env:=by rw [hX'];rfl
 obtain ⟨B',hB'⟩:∃ B':Addr->Prop,B'=λb=>B b\/b=p:=⟨_,rfl⟩
 have BB:∀ b,B b->B' b:=λb z=>by rw [hB'];exact .inl z
 have Bn:∀ b,B' b->B b\/H b=none:=λb z=>by
  rw [hB'] at z;exact z.elim .inl λq=>.inr (q▸pf)
 have stat:∀ {H':Hp},(∀ b∈fp,H' b=none)->∀ b∈fp,FpOk X' [] H' b:=λ{H'} hn b hb=>by
  have e:=okB.exf b hb;have e2:=okB.exfs b hb;rw [<-hX'] at e e2;exact ⟨hn b hb,e.1,e2,.inl (by rw [hX'];exact hb),e.2,λq hq=>(by rw [hX'] at hq;cases hq)⟩
 have loop:codeAny (model X.prog X.w) X.A (.compLoop (.ListComp elt [⟨tg,iter,ifs,0⟩] scope pos) 0 (.ref ia) (.ref p) X'.env) (compPost (model X.prog X.w) X.A E use Q (.ref p) s3.heap.objs.size) { s3 with heap:=h₁,toks:=s3.toks }:=by
  refine codeAny_loop rfl (λk s'=>∃ (i:Nat) (σ':L2.St) (H':Hp) (ys:List V) (r1 r2:List D),L2.Inv X' [] σ' H' s'/\tn i s'.heap/\(∀ b∈fp,H' b=none)/\k=ds.length-i/\i<=ds.length/\H' p=some (.lst ys)/\Reps X.K B' H' ys r1/\ys.length<=i /\
   yr B' H H'/\Same H H'/\HB B' H'/\gather f (ds.drop i)=some r2/\r1++r2=rs/\ER X.K B' H' σ' (yj n keep ρ)) ?_ ds.length ?_
  ·rintro k s5 ⟨i,σ5,H5,ys,r1,r2,I5,st5,fr5,rfl,hi,hpl,ry,hyl,sb5,sm5,hb5,hg5,er2,ER5⟩;show wpAny _ _ ((compTurn (.ListComp elt [⟨tg,iter,ifs,0⟩] scope pos) 0 (.ref ia) (.ref p) X'.env).onRaise (λx=>do noteFrame x X'.env;theTreesLotGoes x)) _ _ s5;refine wpAny_noted ?_;rw [compTurn_list];refine we (wpAny_standAt ?_)
   by_cases hlt:i<ds.length
   ·-- an item
    have hd:ds[i]?=some ds[i]:=by simp [hlt]
    obtain ⟨d,hdd⟩:∃ d,d=ds[i]:=⟨_,rfl⟩;rw [<-hdd] at hd;rw [List.drop_eq_getElem_cons hlt,<-hdd] at hg5;obtain ⟨o,r,eo,er',e2⟩:=yaS hg5;obtain ⟨go,yl⟩:=ok.go B' H5 Bn hb5 (λb o _ e=>sm5 b o e) i d hd;have item:=Tn.item X' hP' hw' hK' hc' i [] s5 σ5 H5 (λ_ _=>False) I5 (stat fr5) st5 go;rw [hA'] at item;refine we (wk (thn item λrr s6 ⟨u,hr,h6⟩=>?_));subst hr;refine we (wk (thn h6 λ_ s7 ⟨x,H7,I7,rx,y7,st7,fr7⟩=>?_));obtain ⟨sm7,rep7⟩:=yl x H7 y7;have I7':=I7.pinned (stat fr7) (Tn.obj _ _ st7);obtain ⟨pins7,hp7⟩:∃ q,q=[]++yaz fp s7.heap:=⟨_,rfl⟩;rw [<-hp7] at I7';rw [hf] at eo;obtain ⟨ρ1,et1,eo⟩:=wa (show (jay t d (yj n keep ρ)).bind _=some o from eo);obtain ⟨kk,ekk,eo⟩:=wa eo;have hG:=S.G s3 (upd H p (.lst [])) fp;rw [<-hX'] at hG
    have lenσ:σ5.length=n+keep.length:=by
     have:=I5.len
     rw [this,hX'];exact S.len
    have asg:=hG pins7 s7 σ5 H7 x u (λσ8 H8=>H8=H7/\ER X.K B' H7 σ8 ρ1) I7' rx (ER.tgt (ER5.same sm7) et1 (λj hj=>by have:=S.ti j hj;omega) rep7 λσ' e _=>⟨rfl,e⟩);rw [hA',hP',hw',hxe] at asg;refine we (wk (thn asg λ_ s8 ⟨σ8,H8,I8,e8,ER8⟩=>?_));subst e8;have hb8:HB B' H8:=hb5.same sm7
    have again:∀ (s9:Shared) (H9:Hp) (ys9:List V) (r9:List D),L2.Inv X' pins7 σ8 H9 s9->(∀ b o,b≠p->H8 b=some o->H9 b=some o)->H9 p=some (.lst ys9)->Reps X.K B' H9 ys9 r9->ys9.length<=i+1->r9++r=rs->ER X.K B' H9 σ8 ρ1 ->
      ∃ m,m<ds.length-i/\∃ (i:Nat) (σ':L2.St) (H':Hp) (ys:List V) (r1 r2:List D),L2.Inv X' [] σ' H' s9/\tn i s9.heap/\(∀ b∈fp,H' b=none)/\m=ds.length-i/\i<=ds.length/\H' p=some (.lst ys)/\Reps X.K B' H' ys r1/\ys.length<=i /\
       yr B' H H'/\Same H H'/\HB B' H'/\gather f (ds.drop i)=some r2/\r1++r2=rs/\ER X.K B' H' σ' (yj n keep ρ):=λs9 H9 ys9 r9 I9 k9 p9 ry9 l9 e9 ER9=>by
     have ne:∀ b o,H b=some o->b≠p:=λb o e z=>by rw [z,pf] at e;cases e
     refine ⟨ds.length-(i+1),by omega,i+1,σ8,H9,ys9,r9,r,I9.pins_of λq hq=>(by cases hq),?_,?_,rfl,hlt,p9,ry9,l9,λb o nb e=>k9 b o (ne b o e) (sm7 b o (sm5 b o e)),λb o e=>k9 b o (ne b o e) (sm7 b o (sm5 b o e)),?_,er',e9,ER9.back et1 S.ti⟩
     ·refine Tn.keep _ _ _ st7 λb hb o e=>?_
      have:=I9.pin (b,o) (wK _ (by rw [hp7];exact wK _ (zH hb e)))
      exact this.1
     ·intro b hb;obtain ⟨o',e,_⟩:=Tn.obj _ _ st7 b hb
      have:=I9.pin (b,o') (wK _ (by rw [hp7];exact wK _ (zH hb e)))
      exact this.2.1
     ·refine ⟨λb hb=>?_,λx hx=>k9 _ _ (λz=>by have:=hb8.t x hx;rw [z,sm7 p _ hpl] at this;cases this) (hb8.t x hx)⟩;rw [hB'] at hb;rcases hb with z | z
      ·by_cases hbp:b=p
       ·exact .inl ⟨ys9,hbp▸p9⟩
       ·exact (hb8.h b (BB b z)).imp (λ⟨xs,e⟩=>⟨xs,k9 b _ hbp e⟩) λ⟨es,ep,e⟩=>⟨es,ep,k9 b _ hbp e⟩
      ·exact .inl ⟨ys9,z▸p9⟩
    have p8:H8 p=some (.lst ys):=sm7 p _ hpl;have ry8:Reps X.K B' H8 ys r1:=ry.same sm7
    have behind:∀ (s9:Shared) (H9:Hp),L2.Inv X' pins7 σ8 H9 s9->Same H8 H9->kk=true->o≠none ->
      wpAny (model X.prog X.w) X.A (eval elt X'.env) (λz s10=>wpAny (model X.prog X.w) X.A (call (.builtin "list.append") [.ref p,z]) (λ_ s11=>∃ m,m<ds.length-i/\∃ (i:Nat) (σ':L2.St) (H':Hp) (ys:List V) (r1 r2:List D),L2.Inv X' [] σ' H' s11/\tn i s11.heap/\(∀ b∈fp,H' b=none)/\m=ds.length-i/\i<=ds.length/\H' p=some (.lst ys)/\Reps X.K B' H' ys r1/\ys.length<=i /\
       yr B' H H'/\Same H H'/\HB B' H'/\gather f (ds.drop i)=some r2/\r1++r2=rs/\ER X.K B' H' σ' (yj n keep ρ)) (λ_ _=>False) s10) (λ_ _=>False) s9:=λs9 H9 I9 sm9 hkk ho=>by
     subst hkk;rw [if_pos rfl] at eo;obtain ⟨dz,edz,rfl⟩:=wb eo;have hE:=S.E s3 (upd H p (.lst [])) fp B' ρ1 dz edz;rw [<-hX',hK'] at hE;have run:=hE pins7 s9 σ8 H9 (λz H10=>Same H9 H10/\Rep X.K B' H10 z dz) I9 ⟨hb8.same sm9,ER8.same sm9,λv H' s r=>⟨s,r⟩⟩;rw [hA',hP',hw',hxe] at run;refine thn run λz s10 ⟨zv,H10,I10,rz,sm10,repz⟩=>?_
     have p10:H10 p=some (.lst ys):=sm10 p _ (sm9 p _ p8);have ap:=zZ (X:=X') pins7 s10 σ8 H10 (.ref p) [zv] (.ref p) [z] (λ_ H11=>H11=upd H10 p (.lst (ys++[zv]))) I10 rfl (.cons rz .nil) ⟨p,ys,zv,rfl,rfl,p10,by have:=ok.len;omega,rfl⟩;rw [hA',hP',hw',hxe] at ap;refine thn ap λ_ s11 ⟨_,H11,I11,_,e11⟩=>?_
     subst e11
     have sbp:yr B' H10 (upd H10 p (.lst (ys++[zv]))):=λb o nb e=>by
      rw [ja (λw=>nb (by rw [hB',w];exact .inr rfl))];exact e
     have hb10:HB B' H10:=(hb8.same sm9).same sm10;refine again s11 _ (ys++[zv]) (r1++[dz]) I11 (λb o nb e=>by rw [ja nb];exact sm10 b o (sm9 b o e)) ya ?_ (by simp;omega) ?_ (((ER8.same sm9).same sm10).mono hb10 sbp)
     ·exact (((ry8.same sm9).same sm10).mono hb10 sbp).append (.cons (repz.mono hb10 sbp) .nil)
     ·rw [<-er2,e2];simp
    rcases S.T with ⟨hifs,hcc⟩ | ⟨ec,c,hifs,hcc,hT⟩
    ·subst hifs;subst hcc
     cases ekk;refine we (wpAny_tests_nil ?_)
     have ho:o≠none:=by
      rw [if_pos rfl] at eo;obtain ⟨_,_,rfl⟩:=wb eo
      simp
     exact we (we (wk (thn (behind s8 H8 I8 (Same.refl _) rfl ho) λz s10 h10=>we (wk (thn h10 λ_ s11 h11=>wm (wm ⟨rfl,h11⟩))))))
    ·subst hifs;subst hcc
     obtain ⟨dt,edt,etr⟩:=wa (show (ev C c ρ1).bind truO=some kk from ekk);have hT':=hT s3 (upd H p (.lst [])) fp B' ρ1 dt kk edt etr;rw [<-hX',hK'] at hT';have run:=hT' pins7 s8 σ8 H8 (λb H9=>b=kk/\Same H8 H9) I8 ⟨hb8,ER8,λH' s=>⟨rfl,s⟩⟩;rw [hA',hP',hw',hxe] at run;refine we (wpAny_tests_one (wk (thn run λb s9 ⟨H9,I9,eb,sm9⟩=>?_)));subst eb;cases b with
     | true =>
      have ho:o≠none:=by
       rw [if_pos rfl] at eo;obtain ⟨_,_,rfl⟩:=wb eo
       simp
      exact we (we (wk (thn (behind s9 H9 I9 sm9 rfl ho) λz s10 h10=>we (wk (thn h10 λ_ s11 h11=>wm (wm ⟨rfl,h11⟩))))))
     | false =>
      rw [if_neg wA] at eo;cases eo;refine wm ⟨rfl,again s9 H9 ys r1 I9 (λb o _ e=>sm9 b o e) (sm9 p _ p8) (ry8.same sm9) (by omega) (by rw [<-er2,e2]) (ER8.same sm9)⟩
   ·-- the end
    have hin:i=ds.length:=by omega
    subst hin;rw [List.drop_length] at hg5;cases hg5;rw [List.append_nil] at er2;subst er2;have done:=Tn.done X' hP' hw' hK' hc' ds.length [] s5 σ5 H5 (λ_ _=>False) I5 (stat fr5) st5 (ok.stop H5 (λb o _ e=>sm5 b o e));rw [hA'] at done;refine we (wk (thn done λrr s6 ⟨hr,I6⟩=>?_));subst hr;refine wm ?_;obtain ⟨mC,hnC,_⟩:=I6.loc;have hloc:X'.env.locals=s3.heap.objs.size:=by rw [henv];rfl
    rw [hloc] at hnC
    have un:Un (frs X.stack) fp (upd H p (.lst [])) H5 s3.heap s6.heap:=by
     have:=I6.base
     rw [hX'] at this;exact this
    have I7:L2.Inv X pins σ H5 s6:=by
     refine I3.call' ?_ un (by have:=I6.hok;rw [hP',hw'] at this;exact this) I6.bare λb hb=>⟨(fpo b hb).2.2.2.1,(fpo b hb).2.1,(fpo b hb).2.2.2.2.1,(fpo b hb).2.2.2.2.2⟩
     have:=I6.os
     rw [hX'] at this;exact this
    have hCn:H5 s3.heap.objs.size=none:=by
     have:=I6.free
     rw [hloc] at this;exact this
    refine fin p s3.heap.objs.size H5 ys s6 mC pf sm5 hpl (hB'▸ry) I7 hnC ?_ hCn;refine ⟨hCn,Nat.ne_of_gt I3.lt,I3.nofs (wC _),.inr I3.sz,λx c e z=>?_,λq hq z=>?_⟩
    ·obtain ⟨v,w⟩:=I3.cell x c e;exact absurd w.lt (by rw [z];exact Nat.lt_irrefl _)
    ·exact absurd (wz (I3.pin q hq).1) (by rw [z];exact Nat.lt_irrefl _)
  ·refine ⟨0,jah n keep σ,upd H p (.lst []),[],[],rs,I4,Tn.keep 0 _ _ st λb hb o e=>kept b o (old b o e),λb hb=>(fpo3 b hb).1,rfl,Nat.zero_le _,ya,.nil,wC _,?_,qa pf _,?_,by simpa using hg,by simp,?_⟩
   ·intro b o _ e;exact qa pf _ b o e
   ·refine ⟨λb hbb=>?_,λx hx=>qa pf _ _ _ (hb.t x hx)⟩;rw [hB'] at hbb;rcases hbb with z | z
    ·exact (hb.h b z).imp (λ⟨xs,e⟩=>⟨xs,qa pf _ b _ e⟩) λ⟨es,ep,e⟩=>⟨es,ep,qa pf _ b _ e⟩
    ·exact .inl ⟨[],z▸ya⟩
   ·exact ((er.block).holes Bn).same (qa pf _)
 have e1:({ newEnv scope s3.heap.objs.size X.env.globals (cOn (s3.heap.objs.size+1) scope.names (yH X.env.cells scope.names [])) X.env.qual none .none (some X.env) builtinsNs with scope:=relabel scope X.env }:Env)=X'.env:=by rw [henv];rfl
 rw [hs3] at loop e1;subst hp;show codeAny _ _ (.compStart _ 0 _ _ { newEnv scope _ X.env.globals (cOn _ scope.names (yH X.env.cells scope.names [])) X.env.qual none .none (some X.env) builtinsNs with scope:=relabel scope X.env }) _ _;rw [e1];exact codeAny_compStart_list loop (Tn.self X.A 0 _ _ _ (Tn.keep 0 _ _ st λb hb o e=>kept b o (old b o e)) loop)
end
section
variable {X:Cx} {C:Tab} {elt tg iter:Expr} {ifs:List Expr} {scope:Scope} {ce:Code} {t:Tgt} {n:Nat} {keep:List Nat} {cc:OCode} {N':List Str} {it:Iter} {pos:Pos}
theorem CompS.some (S:CompS X C elt tg iter ifs scope ce t n keep cc N') {pins:List (Addr×Obj)} {σ:L2.St} {H:Hp} {s:Shared} (I:L2.Inv X pins σ H s):∀ x∈scope.names,x.2=.free->(X.env.cells.lookup x.1).isSome=true:=λx hx hx2=>by
 obtain ⟨c,e⟩:=I.ok.has x.1 (S.fr x hx hx2);rw [e];rfl
theorem ybA (S:CompS X C elt tg iter ifs scope ce t n keep cc N') (hi:SI X C tg iter it):SF X C (.ListComp elt [⟨tg,iter,ifs,0⟩] scope pos) (.comp ce t n keep it cc):=λB ρ rs e=>by
 obtain ⟨ds,eds,e⟩:=wa (show (evI C it ρ).bind (λds=>(gather (turn C ce t n keep cc ρ) ds).map D.lst)=some (D.lst rs) from e);obtain ⟨rs',hg,e⟩:=wb e;cases e;intro pins s σ H Q I ⟨hb,er,q⟩;rw [eval_ListComp];refine wpAny_comprehension_free (use:=none) rfl S.hs (jH (S.some I)) S.kind S.names ?_;refine thn (hi B ρ ds eds pins s σ H (λJ H'=>Same H H'/\ItOk X.K B H' ds J) I ⟨hb,er,λJ H' sm ok=>⟨sm,ok⟩⟩) λxv s1 h1=>thn h1 λitv s2 h2=>?_
 obtain ⟨ia,fp,tn,J,H2,e2,I2,T2,st2,f2,sm2,ok2⟩:=h2;subst e2;refine qa3 S I2 T2 st2 f2 ok2 (hb.same sm2) (er.same sm2) hg λp Cc Hf ys s' m pf smf hpl ry I' hn fpo hc=>?_
 refine ⟨m,hn,λh' hsb=>?_⟩;refine ⟨.ref p,Hf,I'.turned (t':=s'.toks) (it:=Cc) (λb o hb e=>hsb.extBut b o hb e) hc fpo.2.1 fpo.2.2.2.1 fpo.2.2.2.2.1 fpo.2.2.2.2.2,rfl,?_⟩;refine q _ Hf (sm2.trans smf) (.lst (λz=>?_) hpl (ry.less λb z=>.inl z)) ⟨p,rfl,sm2.free pf⟩;exact hb.notN (sm2.free pf) z
theorem jcN (S:CompS X C elt tg iter ifs scope ce t n keep cc N') (hi:SI X C tg iter it):SE X C (.ListComp elt [⟨tg,iter,ifs,0⟩] scope pos) (.comp ce t n keep it cc):=λB ρ d e=>by
 have:∃ ds,d=.lst ds:=by
  obtain ⟨ds,eds,e⟩:=wa (show (evI C it ρ).bind (λds=>(gather (turn C ce t n keep cc ρ) ds).map D.lst)=some d from e);obtain ⟨rs',hg,e⟩:=wb e;exact ⟨_,e.symm⟩
 obtain ⟨ds,rfl⟩:=this;exact SF.se (ybA S hi) B ρ ds e
theorem jbA {y:Str} {py spos:Pos} {i:Nat} (S:CompS X C elt tg iter ifs scope ce t n keep cc N') (hi:SI X C tg iter it) (hN:X.N.Nodup) (hy:X.N[i]?=some y) (hl:Loc X.env.scope y) (hf:X.fn y=true\/X.env.scope.names.lookup y=some .local)
  {B:Addr->Prop} {ρ:En} {rs:List D} (e:ev C (.comp ce t n keep it cc) ρ=some (.lst rs)):PS X (.Assign [.Name y py] (.ListComp elt [⟨tg,iter,ifs,0⟩] scope pos) spos) (qdi (tF X.K B ρ (.lst rs)) (gT (.one i))):=by
 obtain ⟨b,hsw⟩:∃ b:Bool,swapsWith (.ListComp elt [⟨tg,iter,ifs,0⟩] scope pos) (some (.Name y py)) spos.line X.env=pure b:=⟨_,rfl⟩;cases b with
 | false=>exact zaf hN hy hl (ybA S hi B ρ rs e) hsw hf
 | true =>
  obtain ⟨ds,eds,e⟩:=wa (show (evI C it ρ).bind (λds=>(gather (turn C ce t n keep cc ρ) ds).map D.lst)=some (D.lst rs) from e);obtain ⟨rs',hg,e⟩:=wb e;cases e;intro pins s σ H D I ⟨hb,er,q⟩;rw [exec_Assign_Name_used _ _ _ _ hsw];refine we (wpAny_standAt (we ?_));show wpAny _ X.A (do let _ <-comprehension (.ListComp elt [⟨tg,iter,ifs,0⟩] scope pos) scope X.env _ (newList []) false (eval iter X.env) (some (assign (.Name y py) X.env))) _ _ s;refine we (thn (wpAny_comprehension_free (use:=some (assign (.Name y py) X.env)) (Q:=λ_ s'=>SP X pins D .next s') rfl S.hs (jH (S.some I)) S.kind S.names ?_) λ_ s' hq=>wm (wm hq));refine thn (hi B ρ ds eds pins s σ H (λJ H'=>Same H H'/\ItOk X.K B H' ds J) I ⟨hb,er,λJ H' sm ok=>⟨sm,ok⟩⟩) λxv s1 h1=>thn h1 λitv s2 h2=>?_
  obtain ⟨ia,fp,tn,J,H2,e2,I2,T2,st2,f2,sm2,ok2⟩:=h2;subst e2;refine qa3 S I2 T2 st2 f2 ok2 (hb.same sm2) (er.same sm2) hg λp Cc Hf ys s' m pf smf hpl ry I' hn fpo hc=>?_
  have rp:Rep X.K B Hf (.ref p) (.lst rs):=.lst (hb.notN (sm2.free pf)) hpl (ry.less λb z=>.inl z);have q':=q (.ref p) Hf (sm2.trans smf) rp ⟨p,rfl,sm2.free pf⟩;show wpAny _ _ (assign (.Name y py) X.env (.ref p)) _ _ s';refine wpAny_assign_Name (qaz I' hN hy hl (v:=.ref p) rfl (λs'' I'' ⟨a,hsa,ha⟩=>?_) hf)
  have hca:Cc≠a:=by
   rcases ha with rfl | ha
   ·exact fpo.2.1
   ·exact (fpo.2.2.2.2.1 y a ha).symm
  refine ⟨m,hn.sameBut hsa hca,λh' hsb=>?_⟩;exact ⟨_,Hf,I''.turned (t':=s''.toks) (it:=Cc) (λb o hb e=>hsb.extBut b o hb e) hc fpo.2.1 fpo.2.2.2.1 fpo.2.2.2.2.1 fpo.2.2.2.2.2,q'⟩
end
section
variable {X:Cx} {C:Tab} {tg e:Expr} {c:Code}
theorem ya3 {K:Frag} {B:Addr->Prop} {H H':Hp} {a:Addr} {xs:List V} (n:¬ B a) (s:yr B H H') (h:SqL K H a xs):SqL K H' a xs:=by
 rcases h with (h | ⟨o,h⟩) | h
 ·exact .inl (.inl (s _ _ n h))
 ·exact .inl (.inr ⟨o,s _ _ n h⟩)
 ·exact .inr h
theorem jcb {K:Frag} {B:Addr->Prop} {H H':Hp} {a:Addr} {xs:List V} (n:¬ B a) (s:yr B H H') (h:SqT K H a xs):SqT K H' a xs:=by
 rcases h with (h | ⟨o,h⟩) | h
 ·exact .inl (.inl (s _ _ n h))
 ·exact .inl (.inr ⟨o,s _ _ n h⟩)
 ·exact .inr h
inductive Src (K:Frag) (B:Addr->Prop) (H:Hp) (a:Addr) (vs:List V):Prop where
 | l (n:∀ H',yr B H H'->SqL K H' a vs) (s:SqL K H a vs)
 | t (n:∀ H',yr B H H'->SqT K H' a vs) (s:SqT K H a vs)
theorem Rep.src {K:Frag} {B:Addr->Prop} {H:Hp} {v:V} {d:D} {ds:List D} (hb:HB B H) (r:Rep K B H v d) (h:itemsD d=some ds):∃ a vs,v=.ref a/\Src K B H a vs/\Reps K B H vs ds:=by
 cases r with
 | @tup a vs ds' e rs =>
  cases h;refine ⟨a,vs,rfl,.t (λH' sm=>jcb (B:=B) (λz=>?_) sm (SqT.of e)) (SqT.of e),rs⟩;exact hb.notT e z
 | @lst a vs ds' n e rs =>
  cases h;exact ⟨a,vs,rfl,.l (λH' sm=>ya3 (B:=B) n sm (SqL.of e)) (SqL.of e),rs⟩
 | @scr a ns hs =>
  cases h;refine ⟨a,_,rfl,.l (λH' sm=>?_) hs.sq,Reps.of_ints _⟩;rcases hs with ⟨o,e⟩ | w
  ·refine ya3 (B:=B) (λz=>?_) sm (.inl (.inr ⟨o,e⟩));exact hb.notF e z
  ·exact .inr w
 | _=>cases h
theorem zcO (he:SE X C e c):SI X C tg e (.data c):=λB ρ ds h=>by
 obtain ⟨d,ed,hi⟩:=wa (show (ev C c ρ).bind itemsD=some ds from h);intro pins s σ H R I ⟨hb,er,q⟩;refine thn (he B ρ d ed pins s σ H (λv H'=>Same H H'/\Rep X.K B H' v d) I ⟨hb,er,λv H' s r=>⟨s,r⟩⟩) λv s1 ⟨x,H1,I1,r1,sm1,rep1⟩=>?_
 obtain ⟨a,vs,rfl,src,rvs⟩:=rep1.src (hb.same sm1) hi;cases r1
 have fp:∀ b∈[s1.heap.objs.size],FpOk X pins H1 b:=λb hb=>by
  have e:b=s1.heap.objs.size:=by simpa using hb
  subst e;exact I1.fpOk (wC _) I1.fresh
 have hb1:=hb.same sm1;cases src with
 | l ns sq =>
  obtain ⟨its,rv,p,hz⟩:=I1.list sq;refine wpAny_pyIter_list p.isList ⟨s1.heap.objs.size,[s1.heap.objs.size],_,Itl X.K a,H1,rfl,I1.kept (t':=s1.toks) λb o e=>wj _ e,jbn a _,⟨_,wt _ rfl,rfl,rfl⟩,fp,q _ H1 sm1 ?_⟩;refine ⟨by rw [<-rvs.length];exact hz,λB' H' f2 hb' sm i d hd=>?_,λH' sm=>⟨vs,ns H' sm,by rw [rvs.length];exact wC _⟩⟩;have q':=ns H' sm;obtain ⟨x,ex,rx⟩:=rvs.get hd;refine ⟨⟨vs,x,q',ex⟩,λy H'' ⟨e1,e2⟩=>?_⟩;subst e1
  have:=e2 vs q'
  rw [ex] at this;cases this;exact ⟨Same.refl _,rx.shift hb1 sm f2⟩
 | t ns sq =>
  obtain ⟨its,rv,p,hz⟩:=I1.tuple sq;refine wpAny_pyIter_tuple (show s1.heap.IsTuple a its.toArray from p) ⟨s1.heap.objs.size,[s1.heap.objs.size],_,Itt X.K a,H1,rfl,I1.kept (t':=s1.toks) λb o e=>wj _ e,jbd a _,⟨_,wt _ rfl,rfl,rfl⟩,fp,q _ H1 sm1 ?_⟩;refine ⟨by rw [<-rvs.length];exact hz,λB' H' f2 hb' sm i d hd=>?_,λH' sm=>⟨vs,ns H' sm,by rw [rvs.length];exact wC _⟩⟩;have q':=ns H' sm;obtain ⟨x,ex,rx⟩:=rvs.get hd;refine ⟨⟨vs,x,q',ex⟩,λy H'' ⟨e1,e2⟩=>?_⟩;subst e1
  have:=e2 vs q'
  rw [ex] at this;cases this;exact ⟨Same.refl _,rx.shift hb1 sm f2⟩
theorem qai:∀ (n:Nat) (lo:Int) (i:Nat) (d:D),(jb lo n)[i]?=some d->i<n/\d=.int (lo+i)
 | 0,_,_,_,h=>by simp [jb] at h
 | n+1,lo,0,d,h=>by simp [jb] at h;exact ⟨by omega,by simp [h]⟩
 | n+1,lo,i+1,d,h=>by
  simp only [jb,List.getElem?_cons_succ] at h;obtain ⟨h1,h2⟩:=qai n (lo+1) i d h;exact ⟨by omega,by rw [h2];congr 1;push_cast;omega⟩
theorem yQ:∀ (n:Nat) (lo:Int),(jb lo n).length=n
 | 0,_=>rfl
 | n+1,lo=>by simp [jb,yQ n]
theorem qcu {K:Frag} {B:Addr->Prop} {H:Hp} {lo:Int} {n:Nat} (hz:n<=sizeLine):ItOk K B H (jb lo n) (Itr lo n) :=
 ⟨by rw [yQ]; exact hz, λB' H' _ _ _ i d hd => by
  obtain ⟨h1,rfl⟩:=qai n lo i d hd;refine ⟨h1,λx H'' ⟨e1,e2⟩=>?_⟩;subst e1;subst e2
  exact ⟨Same.refl _,.int _⟩,λH' _=>by rw [yQ];exact wC _⟩
theorem qcO {a:Expr} {ca:Code} {p pos:Pos} (hg:Gl X "range") (hm:X.mg "range"=none) (ha:SE X C a ca) (hs:starEach [a] X.env=[(false,eval a X.env)]):SI X C tg (.Call (.Name "range" p) [a] [] pos) (.rng (.cons ca .nil)):=λB ρ ds h=>by
 obtain ⟨dx,ex,h⟩:=wa (show (evs C (.cons ca .nil) ρ).bind rngD=some ds from h);have hpa:PA X [a] (tDs X.K B ρ dx):=zi ha yn hs B ρ dx ex;intro pins s σ H R I ⟨hb,er,q⟩;refine zbo hg hm hpa hs pins s σ H R I ⟨hb,er,λvs H1 sm1 r1=>?_⟩
 match dx,h with
 | [.int j],h =>
  simp only [rngD] at h;split at h
  ·rename_i hc;cases h;obtain ⟨v,rfl,rv⟩:=r1.one;cases rv;exact ⟨j,rfl,hc.1,hc.2.1,q _ H1 sm1 (qcu hc.2.2)⟩
  ·cases h
 | [.int i,.int j],h=>cases r1 with | cons _ r=>cases r with | cons _ r =>
   obtain ⟨_,_,h2⟩:=wa (show (ev C ca ρ).bind (λx=>(evs C .nil ρ).map λxs=>x::xs)=some [.int i,.int j] from ex);simp [evs] at h2
theorem ycO {a b:Expr} {ca cb:Code} {p pos:Pos} (hg:Gl X "range") (hm:X.mg "range"=none) (ha:SE X C a ca) (hb':SE X C b cb) (hs:starEach [a,b] X.env=[(false,eval a X.env),(false,eval b X.env)]) (hs2:starEach [b] X.env=[(false,eval b X.env)]) :
  SI X C tg (.Call (.Name "range" p) [a,b] [] pos) (.rng (.cons ca (.cons cb .nil))):=λB ρ ds h=>by
 obtain ⟨dx,ex,h⟩:=wa (show (evs C (.cons ca (.cons cb .nil)) ρ).bind rngD=some ds from h);have hpa:PA X [a,b] (tDs X.K B ρ dx):=zi ha (zi hb' yn hs2) (by rw [hs,hs2]) B ρ dx ex;obtain ⟨d1,e1,ex⟩:=wa (show (ev C ca ρ).bind _=some dx from ex);obtain ⟨dr,e2,rfl⟩:=wb ex;obtain ⟨d2,e2,ex⟩:=wa (show (ev C cb ρ).bind _=some dr from e2);obtain ⟨dn,e3,rfl⟩:=wb ex;cases e3;intro pins s σ H R I ⟨hb,er,q⟩;refine qbo hg hm hpa hs hs2 pins s σ H R I ⟨hb,er,λvs H1 sm1 r1=>?_⟩;cases r1 with
 | cons ra r =>
  obtain ⟨v2,rfl,rb⟩:=r.one;cases d1 with
  | int i =>
   cases d2 with
   | int j =>
    simp only [rngD] at h;split at h
    ·rename_i hc;cases h;cases ra;cases rb
     exact ⟨i,j,rfl,⟨hc.1,hc.2.1,hc.2.2.1,hc.2.2.2.1⟩,q _ H1 sm1 (qcu hc.2.2.2.2)⟩
    ·cases h
   | _=>cases h
  | _=>cases h
end
def Sq (t:Bool) (K:Frag) (H:Hp) (a:Addr) (xs:List V):Prop:=cond t (SqT K H a xs) (SqL K H a xs)
section
variable {X:Cx} {pins:List (Addr×Obj)} {σ:L2.St} {H:Hp} {s:Shared}
theorem _root_.L2.Inv.sseq {t:Bool} {a:Addr} {xs:List V} (I:L2.Inv X pins σ H s) (h:Sq t X.K H a xs):∃ its:List Value,Vals xs its/\SSeq t s.heap a its.toArray/\xs.length<=sizeLine:=by
 cases t
 ·obtain ⟨its,rv,p,hz⟩:=I.list h;exact ⟨its,rv,p.isList,hz⟩
 ·obtain ⟨its,rv,p,hz⟩:=I.tuple h;exact ⟨its,rv,p,hz⟩
theorem _root_.L2.Inv.sq_inj {t:Bool} {a:Addr} {xs ys:List V} (I:L2.Inv X pins σ H s) (h:Sq t X.K H a xs) (h':Sq t X.K H a ys):xs=ys:=by
 cases t
 ·exact I.list_inj h h'
 ·exact I.tuple_inj h h'
theorem _root_.L2.Inv.sq_ne {t:Bool} {a b:Addr} {xs:List V} (I:L2.Inv X pins σ H s) (h:Sq t X.K H a xs) (f:FpOk X pins H b):a≠b:=λz=>by
 subst z
 have young:∀ o,X.K.lookup a=some o->False:=λo e=>by
  have hb:=I.ok.mod.kin a o e;rcases f.2.2.2.1 with q | q
  ·exact I.ok.noex a o hb q
  ·exact absurd (wL (wz hb) (wQ I.ok.bsz q)) (Nat.lt_irrefl _)
 have n:=f.1;cases t
 ·rcases h with (h | ⟨o,h⟩) | ⟨o,_,_,h,_⟩
  ·rw [n] at h;cases h
  ·rw [n] at h;cases h
  ·exact young o h
 ·rcases h with (h | ⟨o,h⟩) | ⟨o,_,_,h,_⟩
  ·rw [n] at h;cases h
  ·rw [n] at h;cases h
  ·exact young o h
theorem _root_.L2.Inv.drew {ch:List Addr} {T:Addr} {vs:List V} {us:List Value} {h':Heap} {t':Nat} (I:L2.Inv X pins σ H s) (hch:∀ b∈ch,FpOk X pins H b) (k:∀ b o,b∉ch->s.heap.get? b=some o->h'.get? b=some o)
  (hT:s.heap.objs.size<=T) (ht:IsTupN h' T us.toArray) (rv:Vals vs us) (hz:vs.length<=sizeLine):L2.Inv X pins σ (upd H T (.tup vs)) { s with heap:=h',toks:=t' }:=by
 have hTn:H T=none:=I.hok.fresh hT;have nch:∀ b u,H b=some u->b∉ch:=λb u e z=>by have:=(hch b z).1;rw [e] at this;cases this
 refine I.step (g':=s.gens) (d':=s.drawn) (ch:=ch) (λb hb=>⟨(hch b hb).2.2.2.1,(hch b hb).2.1,(hch b hb).2.2.2.2.1,(hch b hb).2.2.2.2.2⟩) (λb o _ _ hc e _=>k b o hc e) (λb o _ _ hc e _=>⟨o.slots,k b o hc e⟩) (λb o _ e n=>?_) (λb o hc e=>⟨o,k b o hc e⟩) (λb xs e=>?_) (λb o u e=>?_) (λb pq qq e=>?_) (λm hm=>?_) (λb u e=>?_) I.bare
 ·rw [ja (wM (wL (wz e) hT))];exact n
 ·rw [ja (jc e hTn)];exact e
 ·rw [ja (jc e hTn)];exact e
 ·rw [ja (jc e hTn)];exact e
 ·obtain ⟨o,es,ep,ho,r⟩:=hm;exact ⟨o,es,ep,k _ o (λz=>(hch _ z).2.1 rfl) ho,r⟩
 ·by_cases hb:b=T
  ·subst hb;rw [ya] at e;cases e;exact ⟨hz,us,rv,ht⟩
  ·rw [ja hb] at e;refine (I.hok b u e).stay (λc v hc q=>k c v ?_ q) (λc q=>by rw [ja (jc q hTn)];exact q) (λc xs q=>by rw [ja (jc q hTn)];exact q) λc o u q=>by rw [ja (jc q hTn)];exact q
   rcases hc with z | z
   ·rw [z];exact nch b u e
   ·exact nch c _ z
theorem _root_.L2.Inv.turns {ch:List Addr} {h':Heap} {t':Nat} (I:L2.Inv X pins σ H s) (hch:∀ b∈ch,FpOk X pins H b) (k:∀ b o,b∉ch->s.heap.get? b=some o->h'.get? b=some o):L2.Inv X pins σ H { s with heap:=h',toks:=t' }:=by
 have nch:∀ b u,H b=some u->b∉ch:=λb u e z=>by have:=(hch b z).1;rw [e] at this;cases this
 refine I.step (g':=s.gens) (d':=s.drawn) (ch:=ch) (λb hb=>⟨(hch b hb).2.2.2.1,(hch b hb).2.1,(hch b hb).2.2.2.2.1,(hch b hb).2.2.2.2.2⟩) (λb o _ _ hc e _=>k b o hc e) (λb o _ _ hc e _=>⟨o.slots,k b o hc e⟩) (λb o _ e n=>n) (λb o hc e=>⟨o,k b o hc e⟩) (λb xs e=>e) (λb o u e=>e) (λb pq qq e=>e) (λm hm=>?_) (λb u e=>?_) I.bare
 ·obtain ⟨o,es,ep,ho,r⟩:=hm;exact ⟨o,es,ep,k _ o (λz=>(hch _ z).2.1 rfl) ho,r⟩
 ·refine (I.hok b u e).stay (λc v hc q=>k c v ?_ q) (λc q=>q) (λc xs q=>q) λc o u q=>q
  rcases hc with z | z
  ·rw [z];exact nch b u e
  ·exact nch c _ z
end
noncomputable def Ite (t:Bool) (K:Frag) (a:Addr):It :=
 ⟨λi H=>∃ xs x,Sq t K H a xs/\xs[i]?=some x,λi H v H'=>∃ T x,v=.ref T/\H T=none/\H'=upd H T (.tup [.int i,x])/\∀ xs,Sq t K H a xs->xs[i]?=some x,λi H=>∃ xs,Sq t K H a xs/\xs.length=i⟩
noncomputable def Itz (t u:Bool) (K:Frag) (a b:Addr):It :=
 ⟨λi H=>∃ xs ys x y,Sq t K H a xs/\Sq u K H b ys/\xs[i]?=some x/\ys[i]?=some y,
  λi H v H'=>∃ T x y,v=.ref T/\H T=none/\H'=upd H T (.tup [x,y])/\(∀ xs,Sq t K H a xs->xs[i]?=some x)/\∀ ys,Sq u K H b ys->ys[i]?=some y,
  λi H=>∃ xs ys,Sq t K H a xs/\Sq u K H b ys/\(xs[i]?=none\/ys[i]?=none)⟩
theorem nn (n i j:Nat) (h:i≠j):((n+i:Nat):Addr)≠((n+j:Nat):Addr):=λe=>h (by have e':n+i=n+j:=e;omega)
theorem zap {n:Nat} {a b:Addr} (h1:a≠n+4) (h2:a≠n+3) (h3:a≠n) (h4:a≠n+1) (k1:b≠n+4) (k2:b≠n+3) (k3:b≠n) (k4:b≠n+1):ZipApart (n+4) (n+2) (n+3) n (n+1) a b :=
 ⟨nn n 2 4 (by decide),nn n 3 4 (by decide),nn n 0 4 (by decide),nn n 1 4 (by decide),nn n 2 3 (by decide),nn n 2 0 (by decide),nn n 2 1 (by decide),nn n 3 0 (by decide),nn n 3 1 (by decide),nn n 0 1 (by decide),h1,h2,h3,h4,k1,k2,k3,k4⟩
theorem ja3:(2:Nat)<=sizeLine:=by rw [sizeLine_eq];decide
theorem zbB {P:Program} {w:World} {K:Frag} {elts:List Expr} {kk:Nat} {pos:Pos} (t:Bool) (a it e:Addr) (hne:e≠it) :
  Turn P w K (.Tuple elts kk pos) (Ite t K a) [e,it] e (λi h=>(∃ old,IsEnum h e it i old)/\SItr t h it a i) where
 mem:=by simp
 obj:=λi h st b hb=>by
  have:b=e\/b=it:=by simpa using hb
  rcases this with z | z
  ·subst z;obtain ⟨old,q⟩:=st.1;exact ⟨_,q,λv z=>by have z':Data.fields _=Data.cell v:=z;cases z'⟩
  ·subst z;obtain ⟨o,n,ho,hc,hn,hd⟩:=st.2.ob;exact ⟨o,ho,λv z=>by rw [hd] at z;cases z⟩
 keep:=λi h h' st k=>⟨let ⟨old,q⟩:=st.1;⟨old,k e (by simp) _ q⟩,st.2.at λo q=>k it (by simp) o q⟩
 item:=by
  intro X hP hw hK hc i pins s σ H E I hf st hg;subst hP hw hK;obtain ⟨xs,x,hq,hx⟩:=hg;obtain ⟨its,rv,p,hz⟩:=I.sseq hq;obtain ⟨u,hu,ru⟩:=rv.get hx;have hil:i<its.toArray.size:=by simpa using (wq.mp hu).1
  have hea:e≠a:=(I.sq_ne hq (hf e (by simp))).symm;have W:=WalksT.enumerateD (za2 (prog:=X.prog) (w:=X.w) (A:=X.A.in1) (by simp [I.ok.hd hc]) t it a (p.ne_itr st.2) its.toArray) e hne (by simp [hne,hea]) (by simp);obtain ⟨old,he⟩:=st.1;refine ybw hne hea he st.2 p (by simpa using hu) λh' tk tk' en si pr kp=>?_
  have hen:s.heap.objs.size≠e:=Nat.ne_of_gt (wz he)
  have hin:s.heap.objs.size≠it:=by
   obtain ⟨o,n,ho,_⟩:=st.2.ob;exact Nat.ne_of_gt (wz ho)
  have p':SSeq t h' a its.toArray:=p.at λo q=>kp _ _ hea.symm (p.ne_itr st.2) q
  have mid:(∃ x,IsEnumOut h' e it (i+1) x s.heap.objs.size)/\(SItr t h' it a (i+1)/\SSeq t h' a its.toArray)/\s.heap.objs.size≠e/\s.heap.objs.size≠it:=⟨⟨u,en⟩,⟨si,p'⟩,hen,hin⟩;refine ⟨_,rfl,W.go elts kk pos i s.heap.objs.size _ _ E mid λh'' st'' kp2=>?_⟩;have hTw:s.heap.objs.size∉[e,it]:=by simp [hen,hin]
  have sub:∀ b o,b∉[e,it]->s.heap.get? b=some o->h''.get? b=some o:=λb o hb q=>kp2 b o hb (kp b o (λz=>hb (by simp [z])) (λz=>hb (by simp [z])) q)
  have htT:IsTupN h'' s.heap.objs.size ([Value.int i tk',u]:List Value).toArray:=⟨_,kp2 _ _ hTw pr,rfl,rfl,_,rfl⟩;refine ⟨.ref s.heap.objs.size,upd H s.heap.objs.size (.tup [.int i,x]),I.drew (t':=tk) (λb hb=>hf b hb) sub (wC _) htT (.cons ⟨tk',rfl⟩ (.cons ru .nil)) ja3,rfl,⟨_,x,rfl,I.hok.fresh (wC _),rfl,λys hy=>by rw [I.sq_inj hy hq];exact hx⟩,⟨st''.1,st''.2.1⟩,λb hb=>?_⟩;have hbT:b≠s.heap.objs.size:=λz=>by subst z;exact hTw hb
  rw [ja hbT];exact (hf b hb).1
 done:=by
  intro X hP hw hK hc i pins s σ H E I hf st hg;subst hP hw hK;obtain ⟨xs,hq,hx⟩:=hg;obtain ⟨its,rv,p,hz⟩:=I.sseq hq;have hea:e≠a:=(I.sq_ne hq (hf e (by simp))).symm;have W:=WalksT.enumerateD (za2 (prog:=X.prog) (w:=X.w) (A:=X.A.in1) (by simp [I.ok.hd hc]) t it a (p.ne_itr st.2) its.toArray) e hne (by simp [hne,hea]) (by simp);have hsz:its.toArray.size=i:=by rw [vj,<-rv.length];exact hx
  refine W.done s _ E (by rw [hsz];exact ⟨st.1,st.2,p⟩) λh' tk kp=>⟨rfl,I.turns (t':=tk) (λb hb=>hf b hb) kp⟩
 self:=λA i s Q E st h=>let ⟨old,q⟩:=st.1;wpAny_pyIter_enum q h
theorem zcc {P:Program} {w:World} {K:Frag} {elts:List Expr} {kk:Nat} {pos:Pos} (t u:Bool) (a b:Addr) (n:Nat) :
  Turn P w K (.Tuple elts kk pos) (Itz t u K a b) [n+4,n+2,n+3,n,n+1] (n+4) (λi h=>IsZip h (n+4) (n+2) (n+3) .none/\IsPair h (n+2) (.ref n) (.ref (n+1))/\(∃ p q,IsPair h (n+3) p q)/\SItr t h n a i/\SItr u h (n+1) b i) where
 mem:=by simp
 obj:=λi h st c hc=>by
  have:c=n+4\/c=n+2\/c=n+3\/c=n\/c=n+1:=by simpa using hc
  obtain ⟨h1,h2,⟨p,q,h3⟩,h4,h5⟩:=st;rcases this with z | z | z | z | z<;>subst z
  ·exact ⟨_,h1,λv z=>by have z':Data.fields _=Data.cell v:=z;cases z'⟩
  ·exact ⟨_,h2,λv z=>by have z':Data.seq _ _=Data.cell v:=z;cases z'⟩
  ·exact ⟨_,h3,λv z=>by have z':Data.seq _ _=Data.cell v:=z;cases z'⟩
  ·obtain ⟨o,m,ho,hc,hn,hd⟩:=h4.ob;exact ⟨o,ho,λv z=>by rw [hd] at z;cases z⟩
  ·obtain ⟨o,m,ho,hc,hn,hd⟩:=h5.ob;exact ⟨o,ho,λv z=>by rw [hd] at z;cases z⟩
 keep:=λi h h' st k=>by
  obtain ⟨h1,h2,⟨p,q,h3⟩,h4,h5⟩:=st;exact ⟨k _ (by simp) _ h1,k _ (by simp) _ h2,⟨p,q,k _ (by simp) _ h3⟩,h4.at λo e=>k n (by simp) o e,h5.at λo e=>k (n+1) (by simp) o e⟩
 item:=by
  intro X hP hw hK hc i pins s σ H E I hf st hg;subst hP hw hK;obtain ⟨xs,ys,x,y,q1,q2,hx,hy⟩:=hg;obtain ⟨is1,rv1,p1,z1⟩:=I.sseq q1;obtain ⟨is2,rv2,p2,z2⟩:=I.sseq q2;obtain ⟨u1,hu1,ru1⟩:=rv1.get hx;obtain ⟨u2,hu2,ru2⟩:=rv2.get hy;obtain ⟨h1,h2,⟨p,q,h3⟩,h4,h5⟩:=st;have D:ZipApart (n+4) (n+2) (n+3) n (n+1) a b:=zap (I.sq_ne q1 (hf _ (by simp))) (I.sq_ne q1 (hf _ (by simp))) (I.sq_ne q1 (hf _ (by simp))) (I.sq_ne q1 (hf _ (by simp))) (I.sq_ne q2 (hf _ (by simp))) (I.sq_ne q2 (hf _ (by simp))) (I.sq_ne q2 (hf _ (by simp))) (I.sq_ne q2 (hf _ (by simp)));refine jb7 D h1 h2 h3 h4 h5 p1 p2 (by simpa using hu1) (by simpa using hu2) λh' zz tz j1 j2 pr sz kp=>?_
  refine ⟨_,rfl,wpAny_letOwnedTupleGo_zip zz λh'' z'' s''=>?_⟩;have s'':Heap.SameBut (n+4) h' h'':=s'';have lz:n+4<s.heap.objs.size:=wz h1
  have lz':∀ i,i<=4->((n+i:Nat):Addr)≠s.heap.objs.size:=λi hi e=>by
   have e':n+i=s.heap.objs.size:=e;have l':n+4<s.heap.objs.size:=lz;omega
  have sub:∀ c o,c∉[n+4,n+2,n+3,n,n+1]->s.heap.get? c=some o->h''.get? c=some o:=λc o hc e =>
   s''.extBut _ _ (λw=>hc (by simp [w])) (kp c o (λw=>hc (by simp [w])) (λw=>hc (by simp [w])) (λw=>hc (by simp [w])) (λw=>hc (by simp [w])) e)
  have htT:IsTupN h'' s.heap.objs.size ([u1,u2]:List Value).toArray:=⟨_,s''.extBut _ _ (Ne.symm (lz' 4 (by decide))) pr,rfl,rfl,_,rfl⟩
  refine ⟨.ref s.heap.objs.size,upd H s.heap.objs.size (.tup [x,y]),I.drew (t':=s.toks) (λc hc=>hf c hc) sub (wC _) htT (.cons ru1 (.cons ru2 .nil)) ja3,rfl,
   ⟨_,x,y,rfl,I.fresh,rfl,λzs hz=>by rw [I.sq_inj hz q1];exact hx,λzs hz=>by rw [I.sq_inj hz q2];exact hy⟩,⟨z'',s''.extBut _ _ D.TIz (kp _ _ D.TIz D.TITO D.TIi1 D.TIi2 h2),⟨u1,u2,s''.extBut _ _ D.TOz tz⟩,j1.at λo e=>s''.extBut _ _ D.i1z e,j2.at λo e=>s''.extBut _ _ D.i2z e⟩,λc hc=>?_⟩
  have hcl:c≠s.heap.objs.size:=by
   have:c=n+4\/c=n+2\/c=n+3\/c=n\/c=n+1:=by simpa using hc
   rcases this with z | z | z | z | z<;>subst z
   ·exact lz' 4 (by decide)
   ·exact lz' 2 (by decide)
   ·exact lz' 3 (by decide)
   ·exact lz' 0 (by decide)
   ·exact lz' 1 (by decide)
  rw [ja hcl];exact (hf c hc).1
 done:=by
  intro X hP hw hK hc i pins s σ H E I hf st hg;subst hP hw hK;obtain ⟨xs,ys,q1,q2,hend⟩:=hg;obtain ⟨is1,rv1,p1,z1⟩:=I.sseq q1;obtain ⟨is2,rv2,p2,z2⟩:=I.sseq q2;obtain ⟨h1,h2,⟨p,q,h3⟩,h4,h5⟩:=st;have D:ZipApart (n+4) (n+2) (n+3) n (n+1) a b:=zap (I.sq_ne q1 (hf _ (by simp))) (I.sq_ne q1 (hf _ (by simp))) (I.sq_ne q1 (hf _ (by simp))) (I.sq_ne q1 (hf _ (by simp))) (I.sq_ne q2 (hf _ (by simp))) (I.sq_ne q2 (hf _ (by simp))) (I.sq_ne q2 (hf _ (by simp))) (I.sq_ne q2 (hf _ (by simp)));have l1:=rv1.length;have l2:=rv2.length
  have hend':is1.toArray[i]?=none\/is2.toArray[i]?=none:=by
   rcases hend with z | z
   ·exact .inl (by have:=List.getElem?_eq_none_iff.mp z;simp;omega)
   ·exact .inr (by have:=List.getElem?_eq_none_iff.mp z;simp;omega)
  exact zb8 (I.ok.hd hc) D h1 h2 h3 h4 h5 p1 p2 hend' λh' kp=>⟨rfl,I.turns (t':=s.toks) (λc hc=>hf c hc) λc o hc e=>kp c o (λw=>hc (by simp [w])) (λw=>hc (by simp [w])) (λw=>hc (by simp [w])) (λw=>hc (by simp [w])) e⟩
 self:=λA i s Q E st h=>wpAny_pyIter_zip st.1 h
def BO (B O:Addr->Prop):Addr->Prop:=λb=>B b\/O b
noncomputable def tkh (ks:List Int):Int:=reduceHash (Builtin.Tuple.tupleHashOf (ks.map hashInt))
noncomputable def zaO (x:List Int×Addr×Addr):DictEntry:={ hash:=tkh x.1,key:=.ref x.2.1,val:=.ref x.2.2 }
def EntR (K:Frag) (B O G:Addr->Prop) (H:Hp) (x:List Int×Addr×Addr) (e:List Int×List D):Prop :=
 x.1=e.1/\H x.2.1=some (.tup (x.1.map V.int))/\O x.2.2/\G x.2.2/\∃ vs,H x.2.2=some (.lst vs)/\Reps K (BO B O) H vs e.2
structure GrpR (K:Frag) (B O G:Addr->Prop) (H:Hp) (a:Addr) (es:List (List Int×List D)) (en:Array DictEntry) (ep:Nat) (xs:List (List Int×Addr×Addr)):Prop where
 o:O a
 h:H a=some (qX a en ep)
 sy:(a==sysModules)=false
 en:en.toList=xs.map zaO
 ks:(xs.map (·.1)).Nodup
 ls:(xs.map (·.2.2)).Nodup
 len:xs.length<=1000
 al:Paired (EntR K B O G H) xs es
structure FR (K:Frag) (B:Addr->Prop) (H0:Hp) (O:Addr->Prop) (σ:L2.St) (H:Hp) (ρ:List Sl):Prop where
 o0:∀ a,O a->H0 a=none
 same:Same H0 H
 hb:HB (BO B O) H
 hb0:HB B H0
 pu:∀ (i:Nat) (d:D),ρ[i]?=some (.pu d)->∃ v,σ[i]?=some (some v)/\Rep K (BO B O) H v d
 ow:∀ (i:Nat) (ds:List D),ρ[i]?=some (.ow ds)->∃ a vs,σ[i]?=some (some (.ref a))/\O a/\H a=some (.lst vs)/\Reps K (BO B O) H vs ds
 ap:∀ (i j:Nat) (ds es:List D) (a:Addr),ρ[i]?=some (.ow ds)->ρ[j]?=some (.ow es)->σ[i]?=some (some (.ref a))->σ[j]?=some (some (.ref a))->i=j
 g1:∀ (i j:Nat) es es',ρ[i]?=some (.gr es)->ρ[j]?=some (.gr es')->i=j
 gs:∃ G:Addr->Prop,(∀ (i:Nat) (ds:List D) (a:Addr),ρ[i]?=some (.ow ds)->σ[i]?=some (some (.ref a))->¬ G a) /\
  ∀ (i:Nat) es,ρ[i]?=some (.gr es)->∃ a en ep xs,σ[i]?=some (some (.ref a))/\GrpR K B O G H a es en ep xs
structure Ext (B O:Addr->Prop) (H:Hp) (O':Addr->Prop) (H':Hp):Prop where
 fr:∀ b,O' b->O b\/H b=none
 sm:yr (BO B O) H H'
 dom:∀ b o,H b=some o->∃ o',H' b=some o'
section
variable {K:Frag} {B O O1 O2:Addr->Prop} {H0 H H1 H2:Hp} {σ:L2.St} {ρ ρ':List Sl}
theorem Ext.of_same (s:Same H H1):Ext B O H O H1:=⟨λ_ h=>.inl h,λb o _ e=>s b o e,λb o e=>⟨o,s b o e⟩⟩
theorem Ext.refl:Ext B O H O H:=Ext.of_same (Same.refl H)
theorem Ext.trans (a:Ext B O H O1 H1) (b:Ext B O1 H1 O2 H2):Ext B O H O2 H2:=by
 refine ⟨λc h=>?_,λc o nb e=>?_,λc o e=>?_⟩
 ·rcases b.fr c h with q | q
  ·exact a.fr c q
  ·right
   cases e:H c with
   | none=>rfl
   | some o=>obtain ⟨o',e'⟩:=a.dom c o e;rw [q] at e';cases e'
 ·refine b.sm c o (λz=>?_) (a.sm c o nb e);rcases z with z | z
  ·exact nb (.inl z)
  ·rcases a.fr c z with q | q
   ·exact nb (.inr q)
   ·rw [q] at e;cases e
 ·obtain ⟨o',e'⟩:=a.dom c o e;exact b.dom c o' e'
theorem EntR.same {G:Addr->Prop} (s:Same H H1) {x:List Int×Addr×Addr} {e:List Int×List D} (h:EntR K B O G H x e):EntR K B O G H1 x e:=by
 obtain ⟨a,b,c,d,vs,f,g⟩:=h;exact ⟨a,s _ _ b,c,d,vs,s _ _ f,g.same s⟩
theorem GrpR.same {G:Addr->Prop} {a:Addr} {es:List (List Int×List D)} {en:Array DictEntry} {ep:Nat} {xs:List (List Int×Addr×Addr)} (s:Same H H1) (g:GrpR K B O G H a es en ep xs):GrpR K B O G H1 a es en ep xs :=
 ⟨g.o,s _ _ g.h,g.sy,g.en,g.ks,g.ls,g.len,L2.Paired.mapP g.al λ_ _ z=>z.same s⟩
theorem GrpR.shift {G G':Addr->Prop} {a:Addr} {es:List (List Int×List D)} {en:Array DictEntry} {ep:Nat} {xs:List (List Int×Addr×Addr)} (g:GrpR K B O G H a es en ep xs)
  (hb:HB (BO B O) H) (sm:yr (BO B O) H H1) (ha:H1 a=H a) (hl:∀ l,O l->G l->H1 l=H l) (hO:∀ b,(b=a\/G b)->O b->O1 b) (hG:∀ b o,H b=some o->G b->G' b) (hol:∀ b,BO B O1 b->BO B O b\/H b=none):GrpR K B O1 G' H1 a es en ep xs:=by
 refine ⟨hO _ (.inl rfl) g.o,by rw [ha];exact g.h,g.sy,g.en,g.ks,g.ls,g.len,L2.Paired.mapP g.al λx e z=>?_⟩;obtain ⟨z1,z2,z3,z4,vs,z5,z6⟩:=z;exact ⟨z1,sm _ _ (hb.notT z2) z2,hO _ (.inr z4) z3,hG _ _ z5 z4,vs,by rw [hl _ z3 z4];exact z5,z6.shift hb sm hol⟩
theorem FR.grow (F:FR K B H0 O σ H ρ) (s:Same H H1):FR K B H0 O σ H1 ρ where
 o0:=F.o0
 same:=F.same.trans s
 hb:=F.hb.same s
 hb0:=F.hb0
 pu:=λi d e=>let ⟨v,q,r⟩:=F.pu i d e;⟨v,q,r.same s⟩
 ow:=λi ds e=>let ⟨a,vs,q,o,h,r⟩:=F.ow i ds e;⟨a,vs,q,o,s _ _ h,r.same s⟩
 ap:=F.ap
 g1:=F.g1
 gs:=let ⟨G,g1,g2⟩:=F.gs;⟨G,g1,λi es e=>let ⟨a,en,ep,xs,q,g⟩:=g2 i es e;⟨a,en,ep,xs,q,g.same s⟩⟩
theorem FR.nb (F:FR K B H0 O σ H ρ) {a:Addr} (o:O a):¬ B a:=λz=>by
 exact F.hb0.notN (F.o0 a o) z
theorem FR.hbB (F:FR K B H0 O σ H ρ):HB B H:=⟨λb z=>F.hb.h b (.inl z),F.hb.t⟩
theorem FR.erP (F:FR K B H0 O σ H ρ):ER K (BO B O) H σ (vP ρ):=λi d e=>by
 unfold vP at e;rw [wx] at e;cases q:ρ[i]? with
 | none=>rw [q] at e;cases e
 | some s =>
  rw [q] at e;cases s with
  | pu x =>
   have e':x=d:=wB (wB e);rw [<-e'];exact F.pu i x q
  | un=>cases e
  | ow ds=>cases e
  | gr es=>cases e
theorem za4:∀ xs:List (List Int×Addr×Addr),Vals (xs.map λx=>V.ref x.2.2) (xs.map ((·.val)∘zaO))
 | []=>.nil
 | _::r=>.cons rfl (za4 r)
theorem qa4 {G:Addr->Prop} (f:∀ {l:Addr} {vs:List V} {ds:List D},O l->H l=some (.lst vs)->Reps K (BO B O) H vs ds->Rep K B H (.ref l) (.lst ds)):∀ {xs:List (List Int×Addr×Addr)} {es:List (List Int×List D)},Paired (EntR K B O G H) xs es ->
  Reps K B H (xs.map λx=>V.ref x.2.2) (es.map λe=>.lst e.2)
 | _,_,.nil=>.nil
 | _,_,.cons ⟨_,_,o,_,_,h,r⟩ t=>.cons (f o h r) (qa4 f t)
theorem FR.erA (F:FR K B H0 O σ H ρ):ER K B H σ (vA ρ):=λi d e=>by
 unfold vA at e;rw [wx] at e;cases q:ρ[i]? with
 | none=>rw [q] at e;cases e
 | some s =>
  rw [q] at e;cases s with
  | pu x =>
   have e':x=d:=wB (wB e);rw [<-e'];obtain ⟨v,q,r⟩:=F.pu i x q;exact ⟨v,q,r.less λb z=>.inl z⟩
  | un=>cases e
  | ow ds =>
   have e':D.lst ds=d:=wB (wB e);rw [<-e'];obtain ⟨a,vs,q,o,h,r⟩:=F.ow i ds q;exact ⟨_,q,.lst (F.nb o) h (r.less λb z=>.inl z)⟩
  | gr es =>
   have e':D.grp (es.map λe=>.lst e.2)=d:=wB (wB e);rw [<-e'];obtain ⟨G,_,g2⟩:=F.gs;obtain ⟨a,en,ep,xs,q,g⟩:=g2 i es q;refine ⟨_,q,.grp (vs:=xs.map λx=>.ref x.2.2) (F.nb g.o) g.h g.sy (by rw [wD];exact wQ g.len (by rw [sizeLine_eq];decide)) ?_ ?_⟩
   ·rw [g.en,wJ];exact za4 xs
   ·exact qa4 (λo h r=>.lst (F.nb o) h (r.less λb z=>.inl z)) g.al
theorem wc {α:Type} {l:List α} {i j:Nat} {x y:α} (h:(l.set i x)[j]?=some y):(j=i/\y=x)\/(j≠i/\l[j]?=some y):=by
 by_cases e:j=i
 ·subst e
  have hl:j<l.length:=by
   have:=(wq.mp h).1
   simpa using this
  rw [vn hl] at h;exact .inl ⟨rfl,(wB h).symm⟩
 ·rw [wF (Ne.symm e)] at h;exact .inr ⟨e,h⟩
theorem FR.set {i:Nat} {v:V} {d:D} (F:FR K B H0 O σ H ρ) (hi:i<σ.length) (r:Rep K (BO B O) H v d):FR K B H0 O (σ.set i (some v)) H (ρ.set i (.pu d)) where
 o0:=F.o0
 same:=F.same
 hb:=F.hb
 hb0:=F.hb0
 pu:=λj d' e=>by
  rcases wc e with ⟨rfl,e'⟩ | ⟨ne,e⟩
  ·cases e';exact ⟨v,vn hi,r⟩
  ·obtain ⟨w,q,rw'⟩:=F.pu j d' e;exact ⟨w,by rw [wF (Ne.symm ne)];exact q,rw'⟩
 ow:=λj ds e=>by
  rcases wc e with ⟨rfl,e'⟩ | ⟨ne,e⟩
  ·cases e'
  ·obtain ⟨a,vs,q,o,h,rs⟩:=F.ow j ds e;exact ⟨a,vs,by rw [wF (Ne.symm ne)];exact q,o,h,rs⟩
 ap:=λj k ds es a e1 e2 q1 q2=>by
  rcases wc e1 with ⟨rfl,e'⟩ | ⟨n1,e1⟩
  ·cases e'
  ·rcases wc e2 with ⟨rfl,e'⟩ | ⟨n2,e2⟩
   ·cases e'
   ·rw [wF (Ne.symm n1)] at q1;rw [wF (Ne.symm n2)] at q2;exact F.ap j k ds es a e1 e2 q1 q2
 g1:=λj k es es' e1 e2=>by
  rcases wc e1 with ⟨rfl,e'⟩ | ⟨n1,e1⟩
  ·cases e'
  ·rcases wc e2 with ⟨rfl,e'⟩ | ⟨n2,e2⟩
   ·cases e'
   ·exact F.g1 j k es es' e1 e2
 gs:=by
  obtain ⟨G,g1,g2⟩:=F.gs;refine ⟨G,λj ds a e q=>?_,λj es e=>?_⟩
  ·rcases wc e with ⟨rfl,e'⟩ | ⟨ne,e⟩
   ·cases e'
   ·rw [wF (Ne.symm ne)] at q;exact g1 j ds a e q
  ·rcases wc e with ⟨rfl,e'⟩ | ⟨ne,e⟩
   ·cases e'
   ·obtain ⟨a,en,ep,xs,q,g⟩:=g2 j es e;exact ⟨a,en,ep,xs,by rw [wF (Ne.symm ne)];exact q,g⟩
theorem FR.setM:∀ {is:List Nat} {vs:List V} {ds:List D} {σ:L2.St} {ρ:List Sl},FR K B H0 O σ H ρ->(∀ i∈is,i<σ.length)->Reps K (BO B O) H vs ds->FR K B H0 O (qar is vs σ) H (puM is ds ρ)
 | [],_,_,_,_,F,_,r=>by cases r<;>exact F
 | _::_,_,_,_,_,F,_,.nil=>F
 | i::is,_,_,σ,ρ,F,hi,.cons a r=>by
  rw [qar,puM];exact FR.setM (F.set (hi i (by simp)) a) (λj hj=>by simpa using hi j (by simp [hj])) r
theorem FR.tgt {t:Tgt} {v:V} {d:D} {Q:L2.St->Hp->Prop} (F:FR K B H0 O σ H ρ) (ht:puT t d ρ=some ρ') (hi:∀ i∈t.ixs,i<σ.length) (r:Rep K (BO B O) H v d)
  (q:∀ σ',FR K B H0 O σ' H ρ'->σ'.length=σ.length->Q σ' H):gT t v σ H Q:=by
 cases t with
 | one i =>
  cases ht;exact q _ (F.set (hi i (by simp [Tgt.ixs])) r) (by simp)
 | many is =>
  cases d with
  | tup ds =>
   simp only [puT] at ht;split at ht
   ·rename_i hl;cases ht;obtain ⟨a,vs,rfl,ha,ra⟩:=r.tupD;exact ⟨a,vs,rfl,ha,by rw [ra.length];exact hl,q _ (F.setM hi ra) (jE _ _ _)⟩
   ·cases ht
  | _=>cases ht
theorem FR.own {i:Nat} {a:Addr} {vs:List V} {ds:List D} (F:FR K B H0 O σ H ρ) (hi:i<σ.length) (s:Same H H1) (hf:H a=none) (ha:H1 a=some (.lst vs)) (r:Reps K B H1 vs ds) (hn:yay ds=true) :
  FR K B H0 (λb=>O b\/b=a) (σ.set i (some (.ref a))) H1 (ρ.set i (.ow ds))/\Ext B O H (λb=>O b\/b=a) H1:=by
 have hol:∀ b,BO B (λb=>O b\/b=a) b->BO B O b\/H b=none:=λb z=>by
  rcases z with z | z | z
  ·exact .inl (.inl z)
  ·exact .inl (.inr z)
  ·exact .inr (z▸hf)
 refine ⟨⟨λb z=>?_,F.same.trans s,⟨λb z=>?_,λx hx=>s _ _ (F.hb.t x hx)⟩,F.hb0,λj d e=>?_,λj es e=>?_,λj k ds1 ds2 b e1 e2 q1 q2=>?_,λj k es es' e1 e2=>?_,?_⟩,⟨λb z=>?_,λb o _ e=>s b o e,λb o e=>⟨o,s b o e⟩⟩⟩
 ·rcases z with z | z
  ·exact F.o0 b z
  ·rw [z];exact F.same.free hf
 ·rcases z with z | z | z
  ·exact (F.hb.same s).h b (.inl z)
  ·exact (F.hb.same s).h b (.inr z)
  ·exact .inl ⟨vs,z▸ha⟩
 ·rcases wc e with ⟨rfl,e'⟩ | ⟨ne,e⟩
  ·cases e'
  ·obtain ⟨w,q,rw'⟩:=F.pu j d e;exact ⟨w,by rw [wF (Ne.symm ne)];exact q,(rw'.holes hol).same s⟩
 ·rcases wc e with ⟨rfl,e'⟩ | ⟨ne,e⟩
  ·cases e';exact ⟨a,vs,vn hi,.inr rfl,ha,r.clean hn⟩
  ·obtain ⟨b,ws,q,o,h,rs⟩:=F.ow j es e;exact ⟨b,ws,by rw [wF (Ne.symm ne)];exact q,.inl o,s _ _ h,(rs.holes hol).same s⟩
 ·have old:∀ (m:Nat) (es:List D),ρ[m]?=some (.ow es)->σ[m]?=some (some (.ref a))->False:=λm es e q=>by
   obtain ⟨b,ws,q',o,h,_⟩:=F.ow m es e;rw [q] at q';cases q'
   rw [hf] at h;cases h
  rcases wc e1 with ⟨rfl,e1'⟩ | ⟨n1,f1⟩
  ·rcases wc e2 with ⟨rfl,e2'⟩ | ⟨n2,f2⟩
   ·rfl
   ·rw [vn hi] at q1;cases q1;rw [wF (Ne.symm n2)] at q2;exact (old k _ f2 q2).elim
  ·rw [wF (Ne.symm n1)] at q1;rcases wc e2 with ⟨rfl,e2'⟩ | ⟨n2,f2⟩
   ·rw [vn hi] at q2;cases q2;exact (old j _ f1 q1).elim
   ·rw [wF (Ne.symm n2)] at q2;exact F.ap j k _ _ b f1 f2 q1 q2
 ·rcases wc e1 with ⟨rfl,e'⟩ | ⟨n1,e1⟩
  ·cases e'
  ·rcases wc e2 with ⟨rfl,e'⟩ | ⟨n2,e2⟩
   ·cases e'
   ·exact F.g1 j k es es' e1 e2
 ·obtain ⟨G,g1,g2⟩:=F.gs;refine ⟨λb=>G b/\b≠a,λj es b e q=>?_,λj es e=>?_⟩
  ·rcases wc e with ⟨rfl,e'⟩ | ⟨ne,e⟩
   ·rw [vn hi] at q;cases q;exact λz=>z.2 rfl
   ·rw [wF (Ne.symm ne)] at q;exact λz=>g1 j es b e q z.1
  ·rcases wc e with ⟨rfl,e'⟩ | ⟨ne,e⟩
   ·cases e'
   ·obtain ⟨b,en,ep,xs,q,g⟩:=g2 j es e;refine ⟨b,en,ep,xs,by rw [wF (Ne.symm ne)];exact q,(g.shift (O1:=λb=>O b\/b=a) (G':=λb=>G b/\b≠a) F.hb (λ_ _ _ e=>e) rfl (λ_ _ _=>rfl) (λ_ _ z=>.inl z) (λb o e z=>⟨z,λq=>by rw [q,hf] at e;cases e⟩) hol).same s⟩
 ·rcases z with z | z
  ·exact .inl z
  ·exact .inr (z▸hf)
theorem FR.write {i:Nat} {a:Addr} {ws:List V} {ds es:List D} (F:FR K B H0 O σ H ρ) (hi:ρ[i]?=some (.ow ds)) (hs:σ[i]?=some (some (.ref a))) (r:Reps K (BO B O) H ws es) :
  FR K B H0 O σ (upd H a (.lst ws)) (ρ.set i (.ow es))/\Ext B O H O (upd H a (.lst ws)):=by
 obtain ⟨a',vs',q',o,h,rs⟩:=F.ow i ds hi;rw [hs] at q';cases q'
 have sb:yr (BO B O) H (upd H a (.lst ws)):=λb ob nb e=>by rw [ja (λz=>nb (by rw [z];exact .inr o))];exact e
 refine ⟨⟨F.o0,λb ob e=>?_,⟨λb z=>?_,λx hx=>by rw [ja λz=>by have:=F.hb.t x hx;rw [z,h] at this;cases this];exact F.hb.t x hx⟩,F.hb0,λj d e=>?_,λj es' e=>?_,λj k ds1 ds2 b e1 e2 q1 q2=>?_,λj k es1 es2 e1 e2=>?_,?_⟩,⟨λb z=>.inl z,sb,λb ob e=>?_⟩⟩
 ·rw [ja (λz=>by rw [z,F.o0 a o] at e;cases e)];exact F.same b ob e
 ·by_cases hb:b=a
  ·exact .inl ⟨ws,by rw [hb];exact ya⟩
  ·exact (F.hb.h b z).imp (λ⟨xs,e⟩=>⟨xs,by rw [ja hb];exact e⟩) λ⟨es,ep,e⟩=>⟨es,ep,by rw [ja hb];exact e⟩
 ·rcases wc e with ⟨rfl,e'⟩ | ⟨ne,e⟩
  ·cases e'
  ·obtain ⟨w,q,rw'⟩:=F.pu j d e;exact ⟨w,q,rw'.mono F.hb sb⟩
 ·rcases wc e with ⟨rfl,e'⟩ | ⟨ne,e⟩
  ·cases e';exact ⟨a,ws,hs,o,ya,r.mono F.hb sb⟩
  ·obtain ⟨b,us,q,ob,hb,rb⟩:=F.ow j es' e;have nba:b≠a:=λz=>ne (F.ap j i _ _ a e hi (z▸q) hs)
   exact ⟨b,us,q,ob,by rw [ja nba];exact hb,rb.mono F.hb sb⟩
 ·rcases wc e1 with ⟨rfl,e1'⟩ | ⟨n1,f1⟩
  ·rcases wc e2 with ⟨rfl,e2'⟩ | ⟨n2,f2⟩
   ·rfl
   ·exact F.ap _ _ _ _ b hi f2 q1 q2
  ·rcases wc e2 with ⟨rfl,e2'⟩ | ⟨n2,f2⟩
   ·exact F.ap _ _ _ _ b f1 hi q1 q2
   ·exact F.ap _ _ _ _ b f1 f2 q1 q2
 ·rcases wc e1 with ⟨rfl,e'⟩ | ⟨n1,e1⟩
  ·cases e'
  ·rcases wc e2 with ⟨rfl,e'⟩ | ⟨n2,e2⟩
   ·cases e'
   ·exact F.g1 j k es1 es2 e1 e2
 ·obtain ⟨G,g1,g2⟩:=F.gs;have ng:¬ G a:=g1 i ds a hi hs;refine ⟨G,λj es b e q=>?_,λj es e=>?_⟩
  ·rcases wc e with ⟨rfl,e'⟩ | ⟨ne,e⟩
   ·rw [hs] at q;cases q;exact ng
   ·exact g1 j es b e q
  ·rcases wc e with ⟨rfl,e'⟩ | ⟨ne,e⟩
   ·cases e'
   ·obtain ⟨b,en,ep,xs,q,g⟩:=g2 j es e;have nba:b≠a:=λz=>by have:=g.h;rw [z,h] at this;cases this
    exact ⟨b,en,ep,xs,q,g.shift F.hb sb (ja nba) (λl _ gl=>ja λz=>ng (z▸gl)) (λ_ _ z=>z) (λ_ _ _ z=>z) λ_ z=>.inl z⟩
 ·by_cases hb:b=a
  ·exact ⟨_,by rw [hb];exact ya⟩
  ·exact ⟨ob,by rw [ja hb];exact e⟩
theorem FR.frz {i:Nat} {ds:List D} (F:FR K B H0 O σ H ρ) (hi:ρ[i]?=some (.ow ds)):∃ O',FR K B H0 O' σ H (ρ.set i (.pu (.lst ds)))/\Ext B O H O' H:=by
 obtain ⟨a,vs,q,o,h,rs⟩:=F.ow i ds hi;have less:∀ b,BO B (λb=>O b/\b≠a) b->BO B O b:=λb z=>z.elim .inl λz=>.inr z.1
 refine ⟨λb=>O b/\b≠a,⟨λb z=>F.o0 b z.1,F.same,⟨λb z=>F.hb.h b (less b z),F.hb.t⟩,F.hb0,λj d e=>?_,λj es e=>?_,λj k ds1 ds2 b e1 e2 q1 q2=>?_,λj k es1 es2 e1 e2=>?_,?_⟩,⟨λb z=>.inl z.1,λ_ _ _ e=>e,λ_ ob e=>⟨ob,e⟩⟩⟩
 ·rcases wc e with ⟨rfl,e'⟩ | ⟨ne,e⟩
  ·cases e';exact ⟨_,q,.lst (λz=>z.elim (F.nb o) λz=>z.2 rfl) h (rs.less less)⟩
  ·obtain ⟨w,q,rw'⟩:=F.pu j d e;exact ⟨w,q,rw'.less less⟩
 ·rcases wc e with ⟨rfl,e'⟩ | ⟨ne,e⟩
  ·cases e'
  ·obtain ⟨b,us,qb,ob,hb,rb⟩:=F.ow j es e;exact ⟨b,us,qb,⟨ob,λz=>ne (F.ap j i _ _ a e hi (z▸qb) q)⟩,hb,rb.less less⟩
 ·rcases wc e1 with ⟨rfl,e'⟩ | ⟨n1,e1⟩
  ·cases e'
  ·rcases wc e2 with ⟨rfl,e'⟩ | ⟨n2,e2⟩
   ·cases e'
   ·exact F.ap _ _ _ _ b e1 e2 q1 q2
 ·rcases wc e1 with ⟨rfl,e'⟩ | ⟨n1,e1⟩
  ·cases e'
  ·rcases wc e2 with ⟨rfl,e'⟩ | ⟨n2,e2⟩
   ·cases e'
   ·exact F.g1 j k es1 es2 e1 e2
 ·obtain ⟨G,g1,g2⟩:=F.gs;have ng:¬ G a:=g1 i ds a hi q;refine ⟨G,λj es b e q=>?_,λj es e=>?_⟩
  ·rcases wc e with ⟨rfl,e'⟩ | ⟨ne,e⟩
   ·cases e'
   ·exact g1 j es b e q
  ·rcases wc e with ⟨rfl,e'⟩ | ⟨ne,e⟩
   ·cases e'
   ·obtain ⟨b,en,ep,xs,qb,g⟩:=g2 j es e;have nba:b≠a:=λz=>by have:=g.h;rw [z,h] at this;cases this
    exact ⟨b,en,ep,xs,qb,g.shift F.hb (λ_ _ _ e=>e) rfl (λ_ _ _=>rfl) (λc z o=>⟨o,λy=>z.elim (λw=>nba (w▸y)) λw=>ng (y▸w)⟩) (λ_ _ _ z=>z) λc z=>.inl (less c z)⟩
end
def tFl (K:Frag) (B:Addr->Prop) (H0:Hp) (O:Addr->Prop) (ρ:List Sl) (r:Fl):TS:=λD σ H=>FR K B H0 O σ H ρ/\match r with
 | .nx ρ'=>∀ O' σ' H',Ext B O H O' H'->FR K B H0 O' σ' H' ρ'->σ'.length=σ.length->D.nx σ' H'
 | .bk ρ'=>∀ O' σ' H',Ext B O H O' H'->FR K B H0 O' σ' H' ρ'->σ'.length=σ.length->D.bk σ' H'
 | .ct ρ'=>∀ O' σ' H',Ext B O H O' H'->FR K B H0 O' σ' H' ρ'->σ'.length=σ.length->D.ct σ' H'
 | .rt d=>∀ v H',Same H0 H'->Rep K B H' v d->D.rt v H'
def SS (X:Cx) (C:Tab) (st:Stmt) (s:Stm):Prop:=∀ B H0 O ρ r,ex C s ρ=some r->PS X st (tFl X.K B H0 O ρ r)
def SSs (X:Cx) (C:Tab) (sts:List Stmt) (s:Stms):Prop:=∀ B H0 O ρ r,exs C s ρ=some r->PSs X sts (tFl X.K B H0 O ρ r)
theorem _root_.L2.PS.imp {X:Cx} {e:Stmt} {t t':TS} (h:PS X e t) (i:∀ D σ H,t' D σ H->t D σ H):PS X e t':=λpins s σ H D I q=>h pins s σ H D I (i _ _ _ q)
theorem _root_.L2.PSs.imp {X:Cx} {e:List Stmt} {t t':TS} (h:PSs X e t) (i:∀ D σ H,t' D σ H->t D σ H):PSs X e t':=λpins s σ H D I q=>h pins s σ H D I (i _ _ _ q)
theorem zy {K:Frag} {B:Addr->Prop} {H0:Hp} {O O1:Addr->Prop} {ρ ρ1:List Sl} {r:Fl} {D:Ends} {σ σ1:L2.St} {H H1:Hp} (h:tFl K B H0 O ρ r D σ H) (x:Ext B O H O1 H1) (F:FR K B H0 O1 σ1 H1 ρ1) (hl:σ1.length=σ.length):tFl K B H0 O1 ρ1 r D σ1 H1:=by
 refine ⟨F,?_⟩;cases r with
 | nx ρ'=>exact λO' σ' H' x' F' l'=>h.2 O' σ' H' (x.trans x') F' (l'.trans hl)
 | bk ρ'=>exact λO' σ' H' x' F' l'=>h.2 O' σ' H' (x.trans x') F' (l'.trans hl)
 | ct ρ'=>exact λO' σ' H' x' F' l'=>h.2 O' σ' H' (x.trans x') F' (l'.trans hl)
 | rt d=>exact h.2
def zeu (X:Cx) (C:Tab) (s:Stms):TS:=λD σ H=>∃ B H0 O ρ r,exs C s ρ=some r/\tFl X.K B H0 O ρ r D σ H
section
variable {X:Cx} {C:Tab}
theorem SSs.any {sts:List Stmt} {s:Stms} (h:SSs X C sts s):PSs X sts (zeu X C s):=λpins sh σ H D I ⟨B,H0,O,ρ,r,e,q⟩=>h B H0 O ρ r e pins sh σ H D I q
theorem jcO:SSs X C [] .nil:=λB H0 O ρ r e=>by
 cases e;exact pss_nil.imp λD σ H ⟨F,q⟩=>q O σ H Ext.refl F rfl
theorem qcc {st:Stmt} {sts:List Stmt} {s:Stm} {ss:Stms} (h1:SS X C st s) (h2:SSs X C sts ss):SSs X C (st::sts) (.cons s ss):=λB H0 O ρ r e=>by
 obtain ⟨f,ef,e⟩:=wa (show (ex C s ρ).bind (λf=>match f with | .nx ρ'=>exs C ss ρ' | f=>some f)=some r from e);refine (jM (h1 B H0 O ρ f ef) h2.any).imp λD σ H q=>?_
 cases f with
 | nx ρ1=>exact ⟨q.1,λO' σ' H' x F l=>⟨B,H0,O',ρ1,r,e,zy q x F l⟩⟩
 | bk ρ1=>cases e;exact q
 | ct ρ1=>cases e;exact q
 | rt d=>cases e;exact q
theorem zcP {sts:List Stmt} {i:Nat} {ss:Stms} (h:SSs X C sts ss):SSs X C sts (.frz i ss):=λB H0 O ρ r e=>by
 have e':(match ρ[i]? with | some (.ow ds)=>exs C ss (ρ.set i (.pu (.lst ds))) | _=>none)=some r:=by rw [exs] at e;exact e
 cases q:ρ[i]? with
 | none=>rw [q] at e';cases e'
 | some sl =>
  rw [q] at e';cases sl with
  | ow ds =>
   refine h.any.imp λD σ H t=>?_
   obtain ⟨O',F,x⟩:=t.1.frz q;exact ⟨B,H0,O',_,r,e',zy t x F rfl⟩
  | un=>cases e'
  | pu d=>cases e'
  | gr es=>cases e'
theorem qdA {pos:Pos}:SS X C (.Pass pos) .pas:=λB H0 O ρ r e=>by
 cases e;exact ps_pass.imp λD σ H ⟨F,q⟩=>q O σ H Ext.refl F rfl
theorem ydA {pos:Pos}:SS X C (.Break pos) .brk:=λB H0 O ρ r e=>by
 cases e;exact ps_break.imp λD σ H ⟨F,q⟩=>q O σ H Ext.refl F rfl
theorem jdA {pos:Pos}:SS X C (.Continue pos) .cnt:=λB H0 O ρ r e=>by
 cases e;exact ps_continue.imp λD σ H ⟨F,q⟩=>q O σ H Ext.refl F rfl
theorem zdB {pos:Pos} {e:Expr} {c:Code} (h:SE X C e c):SS X C (.Return (some e) pos) (.ret c):=λB H0 O ρ r he=>by
 obtain ⟨d,ed,rfl⟩:=wb (show (ev C c (vA ρ)).map Fl.rt=some r from he);exact (ycp (h B (vA ρ) d ed)).imp λD σ H ⟨F,q⟩=>⟨F.hbB,F.erA,λv H' s rv=>q v H' (F.same.trans s) rv⟩
theorem qcP {pos:Pos}:SS X C (.Return none pos) (.ret (.cst .non)):=λB H0 O ρ r he=>by
 cases he;exact ps_retN.imp λD σ H ⟨F,q⟩=>q .non H F.same .non
theorem qdB {pos:Pos} {e:Expr} {c:Code} {a b:List Stmt} {sa sb:Stms} (h:SB X C e c) (ha:SSs X C a sa) (hb:SSs X C b sb):SS X C (.If e a b pos) (.ite c sa sb):=λB H0 O ρ r he=>by
 obtain ⟨d,ed,he⟩:=wa (show (ev C c (vA ρ)).bind (λd=>(truO d).bind λk=>if k then exs C sa ρ else exs C sb ρ)=some r from he);obtain ⟨k,ek,he⟩:=wa he;refine (ydh (h B (vA ρ) d k ed ek) ha.any hb.any).imp λD σ H q=>⟨q.1.hbB,q.1.erA,λH' s=>?_⟩
 have t:=zy q (Ext.of_same s) (q.1.grow s) rfl;cases k with
 | true =>
  rw [if_pos rfl] at he;exact qcI ⟨B,H0,O,ρ,r,he,t⟩
 | false =>
  rw [if_neg wA] at he;exact zcI ⟨B,H0,O,ρ,r,he,t⟩
def SAs (X:Cx) (C:Tab) (tg e:Expr) (pos:Pos) (t:Tgt) (c:Code):Prop:=∀ B ρ d,ev C c ρ=some d->PS X (.Assign [tg] e pos) (qdi (tD X.K B ρ d) (gT t))
def SAf (X:Cx) (C:Tab) (tg e:Expr) (pos:Pos) (t:Tgt) (c:Code):Prop:=∀ B ρ ds,ev C c ρ=some (.lst ds)->PS X (.Assign [tg] e pos) (qdi (tF X.K B ρ (.lst ds)) (gT t))
theorem ydB {tg e:Expr} {pos:Pos} {t:Tgt} {c:Code} (h:SAs X C tg e pos t c) (hi:∀ i∈t.ixs,i<X.N.length):SS X C (.Assign [tg] e pos) (.set .pu t c):=λB H0 O ρ r he=>by
 obtain ⟨d,ed,he⟩:=wa (show (ev C c (vP ρ)).bind (λd=>(puT t d ρ).map Fl.nx)=some r from he);obtain ⟨ρ',eρ,rfl⟩:=wb he;intro pins s σ H D I q;refine h (BO B O) (vP ρ) d ed pins s σ H D I ⟨q.1.hb,q.1.erP,λv H' sm rv=>?_⟩;exact (q.1.grow sm).tgt eρ (λi hi'=>by rw [I.len];exact hi i hi') rv λσ' F l=>q.2 O σ' H' (Ext.of_same sm) F l
theorem jdB {tg e:Expr} {pos:Pos} {t:Tgt} {c:Code} (h:SAs X C tg e pos t c) (hi:∀ i∈t.ixs,i<X.N.length):SS X C (.Assign [tg] e pos) (.set .cl t c):=λB H0 O ρ r he=>by
 obtain ⟨d,ed,he⟩:=wa (show (ev C c (vA ρ)).bind (λd=>if noL d then (puT t d ρ).map Fl.nx else none)=some r from he);split at he
 ·rename_i hn;obtain ⟨ρ',eρ,rfl⟩:=wb he;intro pins s σ H D I q;refine h B (vA ρ) d ed pins s σ H D I ⟨q.1.hbB,q.1.erA,λv H' sm rv=>?_⟩;exact (q.1.grow sm).tgt eρ (λi hi'=>by rw [I.len];exact hi i hi') (rv.clean hn) λσ' F l=>q.2 O σ' H' (Ext.of_same sm) F l
 ·cases he
theorem zdC {tg e:Expr} {pos:Pos} {i:Nat} {c:Code} (h:SAf X C tg e pos (.one i) c) (hi:i<X.N.length):SS X C (.Assign [tg] e pos) (.set .ow (.one i) c):=λB H0 O ρ r he=>by
 obtain ⟨d,ed,he⟩:=wa (show (ev C c (vA ρ)).bind (λd=>match Tgt.one i,d with | .one i,.lst ds=>if yay ds then some (.nx (ρ.set i (.ow ds))) else none | _,_=>none)=some r from he);cases d with
 | lst ds =>
  simp only at he;split at he
  ·rename_i hn;cases he;intro pins s σ H D I q;refine h B (vA ρ) ds ed pins s σ H D I ⟨q.1.hbB,q.1.erA,λv H' sm rv fr=>?_⟩;obtain ⟨a,vs,rfl,na,ha,ra⟩:=rv.lstD;obtain ⟨a',ea,hf⟩:=fr;cases ea;obtain ⟨F,x⟩:=q.1.own (by rw [I.len];exact hi) sm hf ha ra hn;exact q.2 _ _ H' x F (by simp)
  ·cases he
 | _=>cases he
end
section
variable {X:Cx} {C:Tab}
theorem qbB {i:Nat} {x:Str} {px apos cpos spos:Pos} {e:Expr} {c:Code} {B':Addr->Prop} {ρe:En} {d:D} (hN:X.N[i]?=some x) (hv:Vis X.env.scope x) (hd:(x==("__debug__":Str))=false) (hcd:(x==("__classdict__":Str))=false)
  (he:SE X C e c) (hs:starEach [e] X.env=[(false,eval e X.env)]) (hline:(apos.endLine==cpos.line)=true) (ed:ev C c ρe=some d) {B:Addr->Prop} {H0:Hp} {O:Addr->Prop} {ρ:List Sl} {ds:List D} (hρ:ρ[i]?=some (.ow ds)) (hz:ds.length<sizeLine)
  (hB:∀ {σ:L2.St} {H:Hp},FR X.K B H0 O σ H ρ->HB B' H/\ER X.K B' H σ ρe) (hc:∀ {v:V} {H:Hp},Rep X.K B' H v d->Rep X.K (BO B O) H v d) :
  PS X (.Expr (.Call (.Attribute (.Name x px) "append" apos) [e] [] cpos) spos) (tFl X.K B H0 O ρ (.nx (ρ.set i (.ow (ds++[d]))))):=by
 have hpa:PA X [e] (tDs X.K B' ρe [d]):=zi he yn hs B' ρe [d] (by rw [evs,ed];rfl);refine (jP (ybf F.plainAttrs_list F.slot_list_append F.type_list_append zZ (zD (pos:=px) hN hv hd hcd) hpa rfl (by rw [hs];rfl) hline hs rfl)).imp λD σ H q=>?_
 obtain ⟨F,q⟩:=q;obtain ⟨a,vs,hσ,o,ha,rs⟩:=F.ow i ds hρ;refine ⟨_,hσ,.inl ⟨rfl,_,SqL.of ha⟩,(hB F).1,(hB F).2,λws H1 sm rw'=>?_⟩;obtain ⟨v,rfl,rv⟩:=rw'.one;have F1:=F.grow sm;obtain ⟨F2,x2⟩:=F1.write (es:=ds++[d]) (ws:=vs++[v]) hρ hσ ((rs.same sm).append (.cons (hc rv) .nil));exact ⟨a,vs,v,rfl,rfl,sm _ _ ha,by rw [rs.length];exact hz,q O σ _ ((Ext.of_same sm).trans x2) F2 rfl⟩
theorem qdC {i:Nat} {x:Str} {px apos cpos spos:Pos} {e:Expr} {c:Code} {m:Mode} (hN:X.N[i]?=some x) (hv:Vis X.env.scope x) (hd:(x==("__debug__":Str))=false) (hcd:(x==("__classdict__":Str))=false)
  (he:SE X C e c) (hs:starEach [e] X.env=[(false,eval e X.env)]) (hline:(apos.endLine==cpos.line)=true):SS X C (.Expr (.Call (.Attribute (.Name x px) "append" apos) [e] [] cpos) spos) (.app i m c):=λB H0 O ρ r h=>by
 cases m with
 | pu =>
  obtain ⟨d,ed,h⟩:=wa (show (ev C c (vP ρ)).bind (λd=>match Mode.pu,ρ[i]? with
   | .pu,some (.ow ds)=>if ds.length<sizeLine then some (.nx (ρ.set i (.ow (ds++[d])))) else none
   | .cl,some (.ow ds)=>if noL d&&decide (ds.length<sizeLine) then some (.nx (ρ.set i (.ow (ds++[d])))) else none
   | _,_=>none)=some r from h)
  cases hρ:ρ[i]? with
  | none=>rw [hρ] at h;cases h
  | some sl =>
   rw [hρ] at h;cases sl with
   | ow ds =>
    simp only at h;split at h
    ·rename_i hz;cases h;exact qbB (B':=BO B O) hN hv hd hcd he hs hline ed hρ hz (λF=>⟨F.hb,F.erP⟩) λr=>r
    ·cases h
   | un=>cases h
   | pu d'=>cases h
   | gr es=>cases h
 | cl =>
  obtain ⟨d,ed,h⟩:=wa (show (ev C c (vA ρ)).bind (λd=>match Mode.cl,ρ[i]? with
   | .pu,some (.ow ds)=>if ds.length<sizeLine then some (.nx (ρ.set i (.ow (ds++[d])))) else none
   | .cl,some (.ow ds)=>if noL d&&decide (ds.length<sizeLine) then some (.nx (ρ.set i (.ow (ds++[d])))) else none
   | _,_=>none)=some r from h)
  cases hρ:ρ[i]? with
  | none=>rw [hρ] at h;cases h
  | some sl =>
   rw [hρ] at h;cases sl with
   | ow ds =>
    simp only at h;split at h
    ·rename_i hz;cases h;rw [wg,wG] at hz;exact qbB (B':=B) hN hv hd hcd he hs hline ed hρ hz.2 (λF=>⟨F.hbB,F.erA⟩) λr=>r.clean hz.1
    ·cases h
   | un=>cases h
   | pu d'=>cases h
   | gr es=>cases h
 | ow =>
  obtain ⟨d,ed,h⟩:=wa (show (ev C c (vA ρ)).bind (λd=>match Mode.ow,ρ[i]? with
   | .pu,some (.ow ds)=>if ds.length<sizeLine then some (.nx (ρ.set i (.ow (ds++[d])))) else none
   | .cl,some (.ow ds)=>if noL d&&decide (ds.length<sizeLine) then some (.nx (ρ.set i (.ow (ds++[d])))) else none
   | _,_=>none)=some r from h)
  cases h
theorem ybB {f:D->List Sl->Option Fl} {d:D} {ds:List D} {ρ:List Sl} {r:Fl} (h:forL f (d::ds) ρ=some r):∃ r1,f d ρ=some r1/\(match r1 with
  | .nx ρ'=>forL f ds ρ' | .ct ρ'=>forL f ds ρ' | .bk ρ'=>some (.nx ρ') | .rt v=>some (.rt v))=some r:=by
 rw [forL] at h;exact wa h
theorem ydC {tg iter:Expr} {body:List Stmt} {pos:Pos} {t:Tgt} {it:Iter} {b:Stms} (hx:X.xe=λ_ _=>False) (hc:X.calm=true) (hi:SI X C tg iter it) (hg:PG X tg (gT t)) (hb:SSs X C body b) (hix:∀ i∈t.ixs,i<X.N.length)
  (hs:∀ x,foldedSetIterable iter X.env x=pure x):SS X C (.For tg iter body [] pos) (.for t it b):=λB H0 O ρ r h=>by
 obtain ⟨ds,eds,h⟩:=wa (show (evI C it (vP ρ)).bind (λds=>forL (λd ρ'=>(puT t d ρ').bind λρ''=>exs C b ρ'') ds ρ)=some r from h);obtain ⟨f,hf⟩:∃ f:D->List Sl->Option Fl,f=λd ρ'=>(puT t d ρ').bind λρ''=>exs C b ρ'':=⟨_,rfl⟩
 rw [<-hf] at h;have hp:PassesOwn (model X.prog X.w) X.A X.env X.xe:=by rw [hx];exact PassesOwn.never
 intro pins s σ H D I q;have hlen:=I.len;refine (jdi hp hc (hi (BO B O) (vP ρ) ds eds) hg hb.any hs) pins s σ H D I ⟨q.1.hb,q.1.erP,λJ H1 sm ok=>?_⟩;refine ⟨λi m σ' H'=>∃ O' ρ',FR X.K B H0 O' σ' H' ρ'/\Ext B O H1 O' H'/\m=ds.length-i/\i<=ds.length/\σ'.length=σ.length/\forL f (ds.drop i) ρ'=some r,⟨ds.length,O,ρ,q.1.grow sm,Ext.refl,rfl,Nat.zero_le _,rfl,h⟩,?_⟩;rintro i m σ' H' ⟨O',ρ',F,x,rfl,hil,hl,hrun⟩;have xx:Ext B O H O' H':=(Ext.of_same sm).trans x
 by_cases hlt:i<ds.length
 ·right
  obtain ⟨d,hd⟩:∃ d,ds[i]?=some d:=⟨ds[i],by simp [hlt]⟩
  have hdrop:ds.drop i=d::ds.drop (i+1):=by
   have e:ds[i]=d:=by simpa [hlt] using hd
   rw [List.drop_eq_getElem_cons hlt,e]
  rw [hdrop] at hrun;obtain ⟨r1,e1,hrun⟩:=ybB hrun;rw [hf] at e1;obtain ⟨ρ2,e2,e3⟩:=wa (show (puT t d ρ').bind _=some r1 from e1);have hfr:∀ b,BO B O' b->BO B O b\/H1 b=none:=λb z=>z.elim (λz=>.inl (.inl z)) λz=>(x.fr b z).elim (λz=>.inl (.inr z)) .inr
  obtain ⟨go,yl⟩:=ok.go (BO B O') H' hfr F.hb x.sm i d hd;refine ⟨go,λσ3 H3=>∃ O3 ρ3,FR X.K B H0 O3 σ3 H3 ρ3/\Ext B O H1 O3 H3/\σ3.length=σ.length/\forL f (ds.drop (i+1)) ρ3=some r,?_,?_⟩
  ·rintro σ3 H3 ⟨O3,ρ3,F3,x3,l3,run3⟩;exact ⟨ds.length-(i+1),by omega,O3,ρ3,F3,x3,rfl,by omega,l3,run3⟩
  ·intro v H2 y2;obtain ⟨sm2,rv⟩:=yl v H2 y2;refine (F.grow sm2).tgt e2 (λj hj=>by rw [hl,hlen];exact hix j hj) rv λσ2 F2 l2=>?_
   have x2:Ext B O H1 O' H2:=x.trans (Ext.of_same sm2);refine ⟨B,H0,O',ρ2,r1,e3,F2,?_⟩;cases r1 with
   | nx ρ3=>exact λO3 σ3 H3 y F3 l3=>⟨O3,ρ3,F3,x2.trans y,l3.trans (l2.trans hl),hrun⟩
   | ct ρ3=>exact λO3 σ3 H3 y F3 l3=>⟨O3,ρ3,F3,x2.trans y,l3.trans (l2.trans hl),hrun⟩
   | bk ρ3 =>
    cases hrun;exact λO3 σ3 H3 y F3 l3=>q.2 O3 σ3 H3 ((Ext.of_same sm).trans (x2.trans y)) F3 (l3.trans (l2.trans hl))
   | rt dv =>
    cases hrun;exact q.2
 ·left
  have hie:i=ds.length:=by omega
  subst hie;rw [List.drop_length] at hrun;cases hrun;exact ⟨ok.stop H' x.sm,q.2 O' σ' H' xx F hl⟩
noncomputable def yaE:Expr->Bool
 | .ListComp .. | .SetComp .. | .DictComp ..=>true
 | _=>false
theorem yai {e:Expr} (h:yaE e=false) (t:Option Expr) (n:Nat) (env:Env):swapsWith e t n env=pure false:=by
 cases e<;>first | rfl | cases h
theorem ycc {y:Str} {py pos:Pos} {i:Nat} {e:Expr} {c:Code} (he:SE X C e c) (h:yaE e=false) (hN:X.N.Nodup) (hy:X.N[i]?=some y) (hl:Loc X.env.scope y) (hf:X.fn y=true\/X.env.scope.names.lookup y=some .local) :
 SAs X C (.Name y py) e pos (.one i) c:=λB ρ d ed=>zaf hN hy hl (he B ρ d ed) (yai h _ _ _) hf
theorem jcc {y:Str} {py pos:Pos} {i:Nat} {e:Expr} {c:Code} (he:SF X C e c) (h:yaE e=false) (hN:X.N.Nodup) (hy:X.N[i]?=some y) (hl:Loc X.env.scope y) (hf:X.fn y=true\/X.env.scope.names.lookup y=some .local) :
 SAf X C (.Name y py) e pos (.one i) c:=λB ρ d ed=>zaf hN hy hl (he B ρ d ed) (yai h _ _ _) hf
end
section
variable {X:Cx} {C:Tab} {elt tg iter:Expr} {ifs:List Expr} {scope:Scope} {ce:Code} {t:Tgt} {n:Nat} {keep:List Nat} {cc:OCode} {N':List Str} {it:Iter} {pos:Pos}
theorem zcd {y:Str} {py spos:Pos} {i:Nat} (S:CompS X C elt tg iter ifs scope ce t n keep cc N') (hi:SI X C tg iter it) (hN:X.N.Nodup) (hy:X.N[i]?=some y) (hl:Loc X.env.scope y) (hf:X.fn y=true\/X.env.scope.names.lookup y=some .local) :
 SAf X C (.Name y py) (.ListComp elt [⟨tg,iter,ifs,0⟩] scope pos) spos (.one i) (.comp ce t n keep it cc):=λB ρ ds e=>jbA S hi hN hy hl hf e
theorem ya4 {y:Str} {py spos:Pos} {i:Nat} (S:CompS X C elt tg iter ifs scope ce t n keep cc N') (hi:SI X C tg iter it) (hN:X.N.Nodup) (hy:X.N[i]?=some y) (hl:Loc X.env.scope y) (hf:X.fn y=true\/X.env.scope.names.lookup y=some .local) :
  SAs X C (.Name y py) (.ListComp elt [⟨tg,iter,ifs,0⟩] scope pos) spos (.one i) (.comp ce t n keep it cc):=λB ρ d e=>by
 have:∃ ds,d=.lst ds:=by
  obtain ⟨ds,eds,e⟩:=wa (show (evI C it ρ).bind (λds=>(gather (turn C ce t n keep cc ρ) ds).map D.lst)=some d from e);obtain ⟨rs',hg,e⟩:=wb e;exact ⟨_,e.symm⟩
 obtain ⟨ds,rfl⟩:=this;exact (jbA S hi hN hy hl hf e).imp λD σ H ⟨h1,h2,q⟩=>⟨h1,h2,λv H' s r _=>q v H' s r⟩
end
theorem jbB:bootBuiltins "enumerate"=some (.type "enumerate"):=by kernel_rfl
theorem boot_zip:bootBuiltins "zip"=some (.type "zip"):=by kernel_rfl
theorem ja4:∀ (es:List D) (k i:Nat) (d:D),(qP k es)[i]?=some d->∃ e,es[i]?=some e/\d=.tup [.int ((k+i:Nat):Int),e]
 | [],_,_,_,h=>by simp [qP] at h
 | e::es,k,0,d,h=>by simp [qP] at h;exact ⟨e,by simp,by simp [h]⟩
 | e::es,k,i+1,d,h=>by
  simp only [qP,List.getElem?_cons_succ] at h;obtain ⟨e',h1,h2⟩:=ja4 es (k+1) i d h;exact ⟨e',by simpa using h1,by rw [h2,show k+1+i=k+(i+1) by omega]⟩
theorem zas:∀ (es:List D) (k:Nat),(qP k es).length=es.length
 | [],_=>rfl
 | e::es,k=>by simp [qP,zas es]
theorem za5:∀ (xs ys:List D) (i:Nat) (d:D),(jaO xs ys)[i]?=some d->∃ x y,xs[i]?=some x/\ys[i]?=some y/\d=.tup [x,y]
 | [],_,_,_,h=>by simp [jaO] at h
 | _::_,[],_,_,h=>by simp [jaO] at h
 | x::xs,y::ys,0,d,h=>by simp [jaO] at h;exact ⟨x,y,by simp,by simp,h.symm⟩
 | x::xs,y::ys,i+1,d,h=>by
  simp only [jaO,List.getElem?_cons_succ] at h;obtain ⟨x',y',h1,h2,h3⟩:=za5 xs ys i d h;exact ⟨x',y',by simpa using h1,by simpa using h2,h3⟩
theorem qas:∀ (xs ys:List D),(jaO xs ys).length=min xs.length ys.length
 | [],_=>by simp [jaO]
 | _::_,[]=>by simp [jaO]
 | x::xs,y::ys=>by simp [jaO,qas xs ys]
section
variable {K:Frag} {B:Addr->Prop} {H:Hp}
theorem Rep.srcT {v:V} {d:D} {ds:List D} (hb:HB B H) (r:Rep K B H v d) (h:itemsD d=some ds):∃ t a vs,v=.ref a/\Sq t K H a vs/\(∀ H',yr B H H'->Sq t K H' a vs)/\Reps K B H vs ds:=by
 obtain ⟨a,vs,e,src,rs⟩:=r.src hb h;cases src with
 | l n s=>exact ⟨false,a,vs,e,s,n,rs⟩
 | t n s=>exact ⟨true,a,vs,e,s,n,rs⟩
end
section
variable {X:Cx} {C:Tab} {elts:List Expr} {kk:Nat} {tpos:Pos}
theorem jdC {a:Expr} {ca:Code} {p pos:Pos} (hg:Gl X "enumerate") (hm:X.mg "enumerate"=none) (ha:SE X C a ca) (hs:starEach [a] X.env=[(false,eval a X.env)]):SI X C (.Tuple elts kk tpos) (.Call (.Name "enumerate" p) [a] [] pos) (.enu ca):=λB ρ ds h=>by
 obtain ⟨dx,ex,h⟩:=wa (show (ev C ca ρ).bind (λx=>(itemsD x).map (qP 0))=some ds from h);obtain ⟨es,hes,rfl⟩:=wb h;have hpa:PA X [a] (tDs X.K B ρ [dx]):=zi ha yn hs B ρ [dx] (by rw [evs,ex];rfl);intro pins s σ H R I ⟨hb,er,q⟩;refine Call_ (jT I hg hm jbB (callWith_type1 (thn (hpa pos pins s σ H (λvs H1=>Same H H1/\Reps X.K B H1 vs [dx]) I ⟨hb,er,λvs H1 sm r=>⟨sm,r⟩⟩) λus s1 ⟨vs,H1,I1,r1,sm1,rep⟩=>?_) hs rfl));obtain ⟨v,rfl,rv⟩:=rep.one;have hb1:=hb.same sm1;obtain ⟨t,l,ws,rfl,sq,keep,rws⟩:=rv.srcT hb1 hes;obtain ⟨u,rfl,ru⟩:=r1.one;cases ru;obtain ⟨its,rits,p1,hz⟩:=I1.sseq sq;refine zbw p1 λh' e1 i1 sz kp=>wpAny_pyIter_enum e1 ?_
 have hne:((s1.heap.objs.size+1:Nat):Addr)≠s1.heap.objs.size:=Nat.succ_ne_self _;refine ⟨_,[s1.heap.objs.size+1,s1.heap.objs.size],_,Ite t X.K l,H1,rfl,I1.kept (t':=s1.toks) kp,zbB t l s1.heap.objs.size (s1.heap.objs.size+1) hne,⟨⟨_,e1⟩,i1⟩,λb hbm=>?_,q _ H1 sm1 ⟨by rw [zas,<-rws.length];exact hz,λB' H' f2 hb' sm i d hd=>?_,λH' sm=>⟨ws,keep H' sm,by rw [zas,rws.length]⟩⟩⟩
 ·have hbb:b=s1.heap.objs.size+1\/b=s1.heap.objs.size:=by simpa using hbm
  rcases hbb with z | z<;>subst z
  ·exact I1.fpOk (Nat.le_succ _) (I1.hok.fresh (Nat.le_succ _))
  ·exact I1.fpOk (wC _) I1.fresh
 ·obtain ⟨e,he,rfl⟩:=ja4 es 0 i d hd;obtain ⟨x,hx,rx⟩:=rws.get he;refine ⟨⟨ws,x,keep H' sm,hx⟩,λy H'' ⟨T,x',e1,e2,e3,e4⟩=>?_⟩;subst e1;subst e3
  have:=e4 ws (keep H' sm)
  rw [hx] at this;cases this;refine ⟨qa e2 _,.tup ya (.cons ?_ (.cons ((rx.shift hb1 sm f2).same (qa e2 _)) .nil))⟩;rw [Nat.zero_add];exact .int _
theorem zdD {a b:Expr} {ca cb:Code} {p pos:Pos} (hg:Gl X "zip") (hm:X.mg "zip"=none) (ha:SE X C a ca) (hb':SE X C b cb) (hs:starEach [a,b] X.env=[(false,eval a X.env),(false,eval b X.env)]) (hs2:starEach [b] X.env=[(false,eval b X.env)]) :
  SI X C (.Tuple elts kk tpos) (.Call (.Name "zip" p) [a,b] [] pos) (.zip ca cb):=λB ρ ds h=>by
 obtain ⟨dx,ex,h⟩:=wa (show (ev C ca ρ).bind _=some ds from h);obtain ⟨dy,ey,h⟩:=wa h;obtain ⟨xs,hxs,h⟩:=wa h;obtain ⟨ys,hys,rfl⟩:=wb h;have hpa:PA X [a,b] (tDs X.K B ρ [dx,dy]):=zi ha (zi hb' yn hs2) (by rw [hs,hs2]) B ρ [dx,dy] (by rw [evs,ex,wd,evs,ey];rfl);intro pins s σ H R I ⟨hb,er,q⟩;refine Call_ (jT I hg hm boot_zip (callWith_type1 (thn (hpa pos pins s σ H (λvs H1=>Same H H1/\Reps X.K B H1 vs [dx,dy]) I ⟨hb,er,λvs H1 sm r=>⟨sm,r⟩⟩) λus s1 ⟨vs,H1,I1,r1,sm1,rep⟩=>?_) (by rw [hs,hs2]) (by rw [hs2];rfl)));cases rep with
 | cons rv rest =>
  obtain ⟨v2,rfl,rv2⟩:=rest.one;have hb1:=hb.same sm1;obtain ⟨t,l,ws,rfl,sq,keep,rws⟩:=rv.srcT hb1 hxs;obtain ⟨t2,l2,ws2,rfl,sq2,keep2,rws2⟩:=rv2.srcT hb1 hys;obtain ⟨u,u2,rfl,ru,ru2⟩:=r1.two;cases ru;cases ru2;obtain ⟨its,rits,p1,hz⟩:=I1.sseq sq;obtain ⟨its2,rits2,p2,hz2⟩:=I1.sseq sq2;refine qb7 p1 p2 λh' e1 e2 e3 i1 i2 sz kp=>wpAny_pyIter_zip e1 ?_
  refine ⟨_,_,_,Itz t t2 X.K l l2,H1,rfl,I1.kept (t':=s1.toks) kp,zcc t t2 l l2 s1.heap.objs.size,⟨e1,e2,⟨_,_,e3⟩,i1,i2⟩,λc hcm=>?_,q _ H1 sm1 ⟨by rw [qas,<-rws.length];exact wQ (Nat.min_le_left _ _) hz,λB' H' f2 hb'' sm i d hd=>?_,λH' sm=>⟨ws,ws2,keep H' sm,keep2 H' sm,?_⟩⟩⟩
  ·have hbb:c=s1.heap.objs.size+4\/c=s1.heap.objs.size+2\/c=s1.heap.objs.size+3\/c=s1.heap.objs.size\/c=s1.heap.objs.size+1:=by simpa using hcm
   have young:∀ i:Nat,FpOk X pins H1 ((s1.heap.objs.size+i:Nat):Addr):=λi=>I1.fpOk (Nat.le_add_right _ _) (I1.hok.fresh (Nat.le_add_right _ _))
   rcases hbb with z | z | z | z | z<;>subst z
   ·exact young 4
   ·exact young 2
   ·exact young 3
   ·exact young 0
   ·exact young 1
  ·obtain ⟨x,y,hx,hy,rfl⟩:=za5 xs ys i d hd;obtain ⟨v1,hv1,r1⟩:=rws.get hx;obtain ⟨v2,hv2,r2⟩:=rws2.get hy;refine ⟨⟨ws,ws2,v1,v2,keep H' sm,keep2 H' sm,hv1,hv2⟩,λz H'' ⟨T,x',y',e1,e2,e3,e4,e5⟩=>?_⟩;subst e1;subst e3
   have q1:=e4 ws (keep H' sm);have q2:=e5 ws2 (keep2 H' sm);rw [hv1] at q1;rw [hv2] at q2;cases q1;cases q2;exact ⟨qa e2 _,.tup ya (.cons ((r1.shift hb1 sm f2).same (qa e2 _)) (.cons ((r2.shift hb1 sm f2).same (qa e2 _)) .nil))⟩
  ·rw [qas,<-rws.length,<-rws2.length];rcases Nat.le_total ws.length ws2.length with z | z
   ·left;rw [Nat.min_eq_left z];simp
   ·right;rw [Nat.min_eq_right z];simp
end
end Eng
end
section
namespace Eng
open PySem
theorem qcd (d:Addr) (es:Array DictEntry) (ep:Nat) (hd:(d==sysModules)=false) :
  Meets (Builtin.«dict.values» ⟨[.ref d],[]⟩) (λ_ R s=>s.heap.get? d=some (jca es ep) /\
   R (.ok (.ret (.ref s.heap.objs.size))) { s with heap:=s.heap.push { cls:=.type "dict_values",data:=.fields #[.ref d] } }) :=
 .of_wp λprog w A R s h=>by
  obtain ⟨hp,g,dd,tk,os⟩:=s;obtain ⟨hl,h⟩:=h
  have hT:(Shared.mk hp g dd tk os).TypeIs (.ref d) "dict":=⟨_,hl,rfl⟩
  wp_walk
  exact ⟨_,rfl,h⟩
theorem zbC {prog:Program} {w:World} {A:Around} {E:Value->Shared->Prop} {s:Shared} {v d:Addr} {es:Array DictEntry} {ep:Nat} {Q:Value->Shared->Prop}
  (hv:s.heap.get? v=some { cls:=.type "dict_values",data:=.fields #[.ref d] }) (hl:s.heap.get? d=some (jca es ep))
  (h:Q (.ref s.heap.objs.size) { s with heap:=s.heap.push { cls:=.type "dict_valueiterator",data:=.fields #[.ref d,.int 0 0,.int es.size 0,.int ep 0] } }) :
  wpAny (model prog w) A (pyIter (.ref v)) Q E s:=by
 have hT:s.TypeIs (.ref v) "dict_values":=⟨_,hv,rfl⟩;refine wpAny_pyIter_slot hT F.slot_dict_values_iter (wW F.slot_dict_values_iter hT F.entry_dict_values_iter ?_ (F.args_dict_values_iter_1 _))
 wp_walk
 exact ⟨_,rfl,"dict_valueiterator",_,⟨_,wt _ rfl,rfl⟩,F.slot_dict_valueiterator_next.lookup,h⟩
theorem qbC {prog:Program} {w:World} {A:Around} {E:Value->Shared->Prop} {s:Shared} {it d:Addr} {i:Nat} {es:Array DictEntry} {ep:Nat} {e:DictEntry} {Q:Option Value->Shared->Prop}
  (hit:s.heap.get? it=some { cls:=.type "dict_valueiterator",data:=.fields #[.ref d,.int i 0,.int es.size 0,.int ep 0] }) (hl:s.heap.get? d=some (jca es ep)) (he:es[i]?=some e)
  (h:∀ h':Heap,h'.get? it=some { cls:=.type "dict_valueiterator",data:=.fields #[.ref d,.int (i+1:Nat) 0,.int es.size 0,.int ep 0] }->Heap.SameBut it s.heap h'->Q (some e.val) { s with heap:=h' }) :
  wpAny (model prog w) A (pyNext (.ref it)) Q E s:=by
 have hT:s.TypeIs (.ref it) "dict_valueiterator":=⟨_,hit,rfl⟩;unfold pyNext;refine we (wpAny_attempt (w8 (name:=Str.ofString "__next__") hT F.slot_dict_valueiterator_next (wW F.slot_dict_valueiterator_next hT F.entry_dict_valueiterator_next ?_ (F.args_dict_valueiterator_next_1 _))))
 wp_walk
 rw [show (if (i:Int)<0 then none else es[(i:Int).toNat]?)=some e by rw [if_neg (by omega),wV];exact he];have hman:Builtin.Dict_items.ownsTuple ((Manifest.find? "dict_valueiterator").elim "dict_valueiterator" λx=>x.tpName)=false:=by kernel_rfl
 wp_walk using wpAny_isOneOf_valiter hT,wX hit
 case hk=>rw [hman];exact by simp
 case h =>
  intro h' e1 sm;rw [hman] at e1;have hT':(Shared.mk h' s.gens s.drawn s.toks s.os).TypeIs (.ref it) "dict_valueiterator":=⟨_,e1,rfl⟩
  wp_walk using wpAny_isOneOf_valiter hT'
  exact ⟨_,rfl,wm (h h' e1 sm)⟩
theorem ybC {prog:Program} {w:World} {A:Around} {E:Value->Shared->Prop} {s:Shared} {it d:Addr} {i:Nat} {es:Array DictEntry} {ep:Nat} {Q:Option Value->Shared->Prop} (hh:A.handled=none)
  (hit:s.heap.get? it=some { cls:=.type "dict_valueiterator",data:=.fields #[.ref d,.int i 0,.int es.size 0,.int ep 0] }) (hl:s.heap.get? d=some (jca es ep)) (he:es[i]?=none)
  (h:∀ h':Heap,Heap.ExtBut it s.heap h'->Q none { s with heap:=h' }) :
  wpAny (model prog w) A (pyNext (.ref it)) Q E s:=by
 have hT:s.TypeIs (.ref it) "dict_valueiterator":=⟨_,hit,rfl⟩;unfold pyNext;refine we (wpAny_attempt (w8 (name:=Str.ofString "__next__") hT F.slot_dict_valueiterator_next (wW F.slot_dict_valueiterator_next hT F.entry_dict_valueiterator_next ?_ (F.args_dict_valueiterator_next_1 _))))
 wp_walk
 rw [show (if (i:Int)<0 then none else es[(i:Int).toNat]?)=none by rw [if_neg (by omega),wV];exact he];have hman:Builtin.Dict_items.ownsTuple ((Manifest.find? "dict_valueiterator").elim "dict_valueiterator" λx=>x.tpName)=false:=by kernel_rfl
 wp_walk using wpAny_isOneOf_valiter hT,wX hit
 case hk=>rw [hman];exact by simp
 case h =>
  intro h' e1 sm;rw [hman] at e1;simp only [newExc,newTuple];refine we ?_;refine we (vc (we (m:=firstArgMember _ _) (wpAny_of_eq (a:=Value.none) (by first | rfl | (simp only [firstArgMember];rfl)) (vc ?_ (by size_fits)))) (by size_fits));simp only [raiseNew];refine we (wpAny_handled ?_)
  first | rw [show A.in1.handled=none from hh] | rw [hh]
  refine we (wm (wpAny_throw ?_));refine we (wpAny_isInstance (T:="StopIteration") (b:=true) ⟨_,wt _ rfl,rfl⟩ isSubtype_stop ?_);exact wm (h _ ((sm.extBut.push _).push _))
noncomputable def jef (x:List Int×Addr×Addr):List Int×Addr×Value:=(x.1,x.2.1,.ref x.2.2)
theorem ycP (prog:Program) (w:World) (xs:List (List Int×Addr×Addr)):xs.map zaO=(xs.map jef).map (entryOfKey (tupleKind (intKind prog w))):=by
 rw [wJ];rfl
theorem qeu {prog:Program} {w:World} {A:Around} {E:Value->Shared->Prop} {s:Shared} {d b p:Addr} {k:List Int} {en:Array DictEntry} {ep:Nat} {xs:List (List Int×Addr×Addr)} {Q:Value->Shared->Prop}
  (hu:A.units+1<cLine) (hd:(d==sysModules)=false) (hl:s.heap.get? d=some (jca en ep)) (he:en.toList=xs.map zaO) (hk:IsTupleKey (intKind prog w) s.heap k b) (hks:∀ x∈xs,IsTupleKey (intKind prog w) s.heap x.1 x.2.1) (hn:(xs.map (·.1)).Nodup) (hz:xs.length<=1000)
  (h1:∀ (j:Nat) (y:Addr) (l:Addr) (tk:Nat),xs[j]?=some (k,y,l)->Q (.ref l) { s with toks:=tk })
  (h2:(∀ (j:Nat) (y:Addr) (l:Addr),xs[j]?≠some (k,y,l))->∀ (h':Heap) (ep':Nat) (tk:Nat),h'.get? d=some (jca (en.push (zaO (k,b,p))) ep')->Heap.SameBut d s.heap h'->Q (.ref p) { s with heap:=h',toks:=tk }) :
  wpAny (model prog w) A (call (.builtin "dict.setdefault") [.ref d,.ref b,.ref p]) Q E s:=by
 have hT:s.TypeIs (.ref d) "dict":=⟨_,hl,rfl⟩;refine wW F.slot_dict_setdefault hT F.entry_dict_setdefault ?_ (F.args_dict_setdefault_3 _ _ _);have hu1:A.in1.units<cLine:=hu
 have hf:∀ {Q:Option Nat->Shared->Prop} {tk:Nat},((∀ (j:Nat) (y l:Addr),xs[j]?≠some (k,y,l))->Q none { s with toks:=tk })->(∀ (j:Nat) (y l:Addr),xs[j]?=some (k,y,l)->Q (some j) { s with toks:=tk }) ->
   wpAny (model prog w) A.in1 (dictFind d (.ref b) (tupleKeyHash (intKind prog w) k)) Q E { s with toks:=tk }:=λ{Q tk} q1 q2=>by
  refine wpAny_dictFind_heap (s:={ s with toks:=tk }) (knd:=tupleKind (intKind prog w)) (xs:=xs.map jef) hu1 hk hl rfl (by rw [he];exact ycP prog w xs) (λx hx=>?_) (by rw [wJ];exact hn) (λz=>q1 λj y l e=>z j (y,.ref l) (by rw [wx,e];rfl)) λj q e=>?_
  ·obtain ⟨y,hy,rfl⟩:=wH.mp hx;exact hks y hy
  ·rw [wx] at e;obtain ⟨⟨k',y,l⟩,e1,e2⟩:=Option.map_eq_some_iff.mp e
   have:k'=k:=congrArg (·.1) e2
   subst this;exact q2 j y l e1
 have hsz:en.size=xs.length:=by rw [<-Array.length_toList,he,wD]
 wp_walk using wpAny_pyHash_tuple hu1 hk,hf
 ·intro z;show wpAny _ _ (rule _ >>= λ_=>updateDictKeys d _ _ >>= λ_=>pure _) _ _ _;refine we (wpAny_rule (we (wpAny_updateDictKeys hl rfl ?_ (by rw [hsz];exact wQ hz (by rw [sizeLine_eq];decide)) (by simp))))
  wp_walk
  exact ⟨_,rfl,h2 z _ _ _ (Heap.get?_update_self _ hl rfl) (Heap.SameBut.update ..)⟩
 ·intro j y l e;have e3:en[j]?=some (zaO (k,y,l)):=by rw [<-Array.getElem?_toList,he,wx,e];rfl
  wp_walk using wpAny_dictEntries hl rfl
  rw [e3]
  wp_walk
  exact ⟨_,rfl,h1 j y l _ e⟩
end Eng
end
section
namespace Eng
open PySem PySem.Spec PyProof.Rows L2
variable [Tb]
def tyG (X:Cx) (T:String) (x:V) (H:Hp):Prop:=∀ (pins:List (Addr×Obj)) (σ:L2.St) (s:Shared) (v:Value),L2.Inv X pins σ H s->L2.RelV x v->s.TypeIs v T/\∀ a,v=.ref a->∃ o,s.heap.get? a=some o/\o.dict=none
def yeu (X:Cx) (T:String) (r:V->List V->Hp->VK->Prop) (to:TE) (t:TA):TE:=λσ H Q=>to σ H λx H1=>tyG X T x H1/\t σ H1 λxs H2=>r x xs H2 Q
def yd5 (X:Cx) (T:String) (r:V->List V->Hp->VK->Prop) (to:TE):TE:=λσ H Q=>to σ H λx H1=>tyG X T x H1/\r x [] H1 Q
section
variable {X:Cx} {o e:Expr} {es:List Expr} {to:TE} {t:TA} {name:Str} {apos cpos:Pos} {T id:String} {r:V->List V->Hp->VK->Prop}
theorem jbC (pa:PlainAttrs T) (slot:Slot T name id) (hty:typeOf (.builtin id)=pure (.type "method_descriptor")) (hm:MtR X id r) (ho:PE X o to) (ha:PA X (e::es) t)
  (hbase:attributeBase o name X.env (eval o X.env)=eval o X.env)
  (hfew:((backTo cpos (starEach (e::es) X.env)).all (λx=>!x.1)&&(backToKw cpos (keywordEach [] X.env)).all (λx=>x.1.isSome)
   && decide ((e::es).length+([]:List Keyword).length+(if ([]:List Keyword).isEmpty then 0 else 1)<30))=true)
  (hline:(apos.endLine==cpos.line)=true) (hs:starEach (e::es) X.env=(false,eval e X.env)::starEach es X.env) (hplain:(backTo cpos (starEach es X.env)).any (·.1)=false) :
  PE X (.Call (.Attribute o name apos) (e::es) [] cpos) (yeu X T r to t):=by
 intro pins s σ H Q I h;refine wpAny_Call_method_late hbase hfew hline rfl (thn (ho pins s σ H _ I h) λv s1 ⟨x,H1,I1,r1,ty,q1⟩=>?_);obtain ⟨h1,h2⟩:=ty pins σ s1 v I1 r1;refine ⟨T,id,pa,slot,hty,h1,h2,?_⟩;have hA:=ha cpos pins s1 σ H1 _ I1 q1;rw [hs] at hA ⊢;refine Calls.callWith_builtin (by show (false||(backTo cpos (starEach es X.env)).any (·.1))=false;rw [hplain]<;>rfl) (Calls.evalArgs_plain ?_);exact thn hA λus s2 ⟨vs,H2,I2,r2,q2⟩=>hm pins s2 σ H2 x vs v us Q I2 r1 r2 q2
theorem jcP (pa:PlainAttrs T) (slot:Slot T name id) (hty:typeOf (.builtin id)=pure (.type "method_descriptor")) (hm:MtR X id r) (ho:PE X o to)
  (hbase:attributeBase o name X.env (eval o X.env)=eval o X.env) (hline:(apos.endLine==cpos.line)=true):PE X (.Call (.Attribute o name apos) [] [] cpos) (yd5 X T r to):=by
 intro pins s σ H Q I h;refine wpAny_Call_method0_late hbase hline (thn (ho pins s σ H _ I h) λv s1 ⟨x,H1,I1,r1,ty,q1⟩=>?_);obtain ⟨h1,h2⟩:=ty pins σ s1 v I1 r1;exact ⟨T,id,pa,slot,hty,h1,h2,Calls.callWith_builtin rfl (PySem.evalArgs_none (hm pins s1 σ H1 x [] v [] Q I1 r1 .nil q1))⟩
theorem jai {pins:List (Addr×Obj)} {σ:L2.St} {H:Hp} {s:Shared} {a:Addr} {en:Array DictEntry} {ep:Nat} (I:L2.Inv X pins σ H s) (h:H a=some (qX a en ep)):s.heap.get? a=some (jca en ep):=(I.hok a _ h).1
theorem ycu {P:Program} {w:World} {H:Hp} {h:Heap} {a:Addr} {en:Array DictEntry} {ep:Nat} (e:h.get? a=some (jca en ep)):ObjOk P w H h a (qX a en ep):=⟨e,⟨_,e⟩,λ_ _ p k=>k _ p⟩
theorem zbD {H:Hp} {a:Addr} {en:Array DictEntry} {ep:Nat} (h:H a=some (qX a en ep)):tyG X "dict" (.ref a) H:=λpins σ s v I r=>by
 cases r;have e:=jai I h;exact ⟨⟨_,e,rfl⟩,λb z=>by cases z;exact ⟨_,e,rfl⟩⟩
theorem qbD {H:Hp} {a:Addr} {vs:List V} (h:H a=some (.tup vs)):tyG X "tuple" (.ref a) H:=λpins σ s v I r=>by
 cases r;obtain ⟨_,its,rv,ob,e,hc,hd,n⟩:=I.hok a _ h;exact ⟨⟨_,e,hc⟩,λb z=>by cases z;exact ⟨_,e,hd⟩⟩
theorem jcu {pins:List (Addr×Obj)} {σ:L2.St} {H:Hp} {s:Shared} (I:L2.Inv X pins σ H s):sysModules<s.heap.objs.size:=by
 have h:mainGlobals<s.heap.objs.size:=(I.mod.glob.keeps I.bk).lt;exact Nat.lt_trans (by decide) h
theorem zcQ {pos:Pos}:PE X (.Dict [] [] pos) (λ_ H Q=>∀ p,H p=none->(p==sysModules)=false->Q (.ref p) (upd H p (qX p #[] 0))):=λpins s σ H Q I h =>
 wpAny_Dict_empty ⟨.ref s.heap.objs.size,_,I.laid (a:=s.heap.objs.size) (o:=qX s.heap.objs.size #[] 0) (t':=s.toks) (λ_ _ q=>wj _ q) (wC _) (ycu (wt _ rfl)),rfl,
  h _ (I.hok.fresh (wC _)) (wY.mpr (Nat.ne_of_gt (jcu I)))⟩
theorem zaj {P:Program} {w:World}:∀ {ks:List Int} {us:List Value},Vals (ks.map V.int) us->ItemsAre (intKind P w) ks us
 | [],_,r=>by cases r;exact .nil
 | _::_,_,r=>by
  cases r with
  | cons a b=>obtain ⟨t,rfl⟩:=a;exact .cons (by simp [intKind,Value.isInt]) (zaj b)
theorem qa5 {pins:List (Addr×Obj)} {σ:L2.St} {H:Hp} {s:Shared} {a:Addr} {ks:List Int} (I:L2.Inv X pins σ H s) (h:H a=some (.tup (ks.map V.int))):IsTupleKey (intKind X.prog X.w) s.heap ks a:=by
 obtain ⟨_,its,rv,ob,e,hc,hd,n,dt⟩:=I.hok a _ h;exact ⟨ob,its.toArray,n,e,hc,dt,by simpa using zaj rv⟩
def rSetd:V->List V->Hp->VK->Prop:=λx vs H Q=>∃ (a b p:Addr) (k:List Int) (en:Array DictEntry) (ep:Nat) (xs:List (List Int×Addr×Addr)),x=.ref a/\vs=[.ref b,.ref p]/\H a=some (qX a en ep)/\(a==sysModules)=false /\
 en.toList=xs.map zaO/\(xs.map (·.1)).Nodup/\xs.length<=1000/\H b=some (.tup (k.map V.int))/\(∀ x∈xs,H x.2.1=some (.tup (x.1.map V.int))) /\
 (∀ (j:Nat) (y l:Addr),xs[j]?=some (k,y,l)->Q (.ref l) H)/\((∀ (j:Nat) (y l:Addr),xs[j]?≠some (k,y,l))->∀ ep',Q (.ref p) (upd H a (qX a (en.push (zaO (k,b,p))) ep')))
theorem qcQ (hu:X.A.units+64<cLine):MtR X "dict.setdefault" rSetd:=by
 intro pins s σ H x vs v us Q I rx rv ⟨a,b,p,k,en,ep,xs,e1,e2,ha,hy,he,hn,hz,hb,hks,q1,q2⟩;subst e1;subst e2
 cases rx;obtain ⟨u1,u2,rfl,r1,r2⟩:=vals2 rv;cases r1;cases r2
 have hl:=jai I ha;refine qeu (by omega) hy hl he (qa5 I hb) (λx hx=>qa5 I (hks x hx)) hn hz (λj y l tk e=>⟨.ref l,H,I.tok tk,rfl,q1 j y l e⟩) λz h' ep' tk hg sb=>?_
 refine ⟨.ref p,_,I.write (x:=a) (e:=a) (o:=qX a (en.push (zaO (k,b,p))) ep') (by rw [ha];exact trivial) (.inl rfl) (λc u hc e=>(sb.2 c hc).trans e) ⟨_,hg⟩ (ycu hg),rfl,q2 z ep'⟩
end
section
variable {K:Frag} {B O O1:Addr->Prop} {H0 H H1:Hp} {σ:L2.St} {ρ:List Sl}
theorem FR.regr {i:Nat} {a:Addr} {es:List (List Int×List D)} {en:Array DictEntry} {ep:Nat} {xs:List (List Int×Addr×Addr)} {W G1:Addr->Prop} (F:FR K B H0 O σ H ρ) (hi:i<σ.length) (hng:∀ j es,ρ[j]?=some (.gr es)->j=i)
  (hW:∀ b,W b->O b) (hk:∀ b o,H b=some o->¬ W b->H1 b=some o) (hd:∀ b o,H b=some o->∃ o',H1 b=some o') (hO:∀ b,O1 b->O b\/H b=none) (hOO:∀ b,O b->O1 b) (hb1:HB (BO B O1) H1)
  (how:∀ j ds c,j≠i->ρ[j]?=some (.ow ds)->σ[j]?=some (some (.ref c))->¬ W c/\¬ G1 c) (g:GrpR K B O1 G1 H1 a es en ep xs) :
  FR K B H0 O1 (σ.set i (some (.ref a))) H1 (ρ.set i (.gr es))/\Ext B O H O1 H1:=by
 have sm:yr (BO B O) H H1:=λb o nb e=>hk b o e λz=>nb (.inr (hW b z))
 have hol:∀ b,BO B O1 b->BO B O b\/H b=none:=λb z=>z.elim (λz=>.inl (.inl z)) λz=>(hO b z).imp .inr id
 refine ⟨⟨λb z=>?_,λb o e=>?_,hb1,F.hb0,λj d e=>?_,λj ds e=>?_,λj k ds1 ds2 b e1 e2 q1 q2=>?_,λj k es1 es2 e1 e2=>?_,G1,λj ds c e q=>?_,λj es1 e=>?_⟩,⟨hO,sm,hd⟩⟩
 ·rcases hO b z with z | z
  ·exact F.o0 b z
  ·exact F.same.free z
 ·exact hk b o (F.same b o e) λz=>by rw [F.o0 b (hW b z)] at e;cases e
 ·rcases wc e with ⟨rfl,e'⟩ | ⟨ne,e⟩
  ·cases e'
  ·obtain ⟨v,q,r⟩:=F.pu j d e;exact ⟨v,by rw [wF (Ne.symm ne)];exact q,r.shift F.hb sm hol⟩
 ·rcases wc e with ⟨rfl,e'⟩ | ⟨ne,e⟩
  ·cases e'
  ·obtain ⟨c,vs,q,o,h,r⟩:=F.ow j ds e;exact ⟨c,vs,by rw [wF (Ne.symm ne)];exact q,hOO c o,hk c _ h (how j ds c ne e q).1,r.shift F.hb sm hol⟩
 ·rcases wc e1 with ⟨rfl,e'⟩ | ⟨n1,e1⟩
  ·cases e'
  ·rcases wc e2 with ⟨rfl,e'⟩ | ⟨n2,e2⟩
   ·cases e'
   ·rw [wF (Ne.symm n1)] at q1;rw [wF (Ne.symm n2)] at q2;exact F.ap j k _ _ b e1 e2 q1 q2
 ·have one:∀ (j:Nat) es',(ρ.set i (.gr es))[j]?=some (.gr es')->j=i:=λj es' e=>by
   rcases wc e with ⟨z,_⟩ | ⟨_,e⟩
   ·exact z
   ·exact hng j es' e
  rw [one j es1 e1,one k es2 e2]
 ·rcases wc e with ⟨rfl,e'⟩ | ⟨ne,e⟩
  ·cases e'
  ·rw [wF (Ne.symm ne)] at q;exact (how j ds c ne e q).2
 ·rcases wc e with ⟨rfl,e'⟩ | ⟨ne,e⟩
  ·cases e';exact ⟨a,en,ep,xs,vn hi,g⟩
  ·exact absurd (hng j es1 e) ne
theorem FR.newd {i:Nat} {p:Addr} (F:FR K B H0 O σ H ρ) (hi:i<σ.length) (hng:(ρ.set i .un).any Sl.isGr=false) (hp:H p=none) (hy:(p==sysModules)=false) :
  FR K B H0 (λb=>O b\/b=p) (σ.set i (some (.ref p))) (upd H p (qX p #[] 0)) (ρ.set i (.gr []))/\Ext B O H (λb=>O b\/b=p) (upd H p (qX p #[] 0)):=by
 refine F.regr (W:=λ_=>False) (G1:=λ_=>False) hi (λj es e=>?_) (λ_ z=>z.elim) (λb o e _=>qa hp _ b o e) (λb o e=>⟨o,qa hp _ b o e⟩) (λb z=>z.imp id λ(z:b=p)=>z▸hp) (λb z=>.inl z) ⟨λb z=>?_,λx hx=>qa hp _ _ _ (F.hb.t x hx)⟩ (λ_ _ _ _ _ _=>⟨id,id⟩)
  (xs:=[]) ⟨.inr rfl,ya,hy,rfl,List.Pairwise.nil,List.Pairwise.nil,Nat.zero_le _,.nil⟩
 ·by_cases ne:j=i
  ·exact ne
  ·have:(ρ.set i .un)[j]?=some (.gr es):=by rw [wF (Ne.symm ne)];exact e
   have hm:Sl.gr es∈ρ.set i .un:=wR this;rw [List.any_eq_false] at hng;exact absurd rfl (hng _ hm)
 ·rcases z with z | z | z
  ·exact (F.hb.same (qa hp _)).h b (.inl z)
  ·exact (F.hb.same (qa hp _)).h b (.inr z)
  ·exact .inr ⟨#[],0,z▸ya⟩
end
section
variable {K:Frag} {B O O1 G G1:Addr->Prop} {H0 H H1:Hp} {σ:L2.St} {ρ:List Sl}
theorem put_old {k:List Int} {d:D} {l:Addr} (m:∀ x e,EntR K B O G H x e->x.2.2≠l->EntR K B O1 G1 H1 x e) (hit:∀ x e,EntR K B O G H x e->x.2.2=l->EntR K B O1 G1 H1 x (e.1,e.2++[d])) :
  ∀ {xs:List (List Int×Addr×Addr)} {es:List (List Int×List D)},Paired (EntR K B O G H) xs es->(xs.map (·.1)).Nodup->(xs.map (·.2.2)).Nodup->(∃ y,(k,y,l)∈xs)->Paired (EntR K B O1 G1 H1) xs (yT k d es)
 | _,_,.nil,_,_,⟨_,h⟩=>by cases h
 | x::xs,(j,ds)::es,.cons a t,n1,n2,⟨y,h⟩=>by
  rw [List.map_cons,List.nodup_cons] at n1 n2;have hj:x.1=j:=a.1;rw [yT]
  by_cases c:j=k
  ·rw [if_pos c]
   have hx:x=(k,y,l):=by
    rcases wu.mp h with e | e
    ·exact e.symm
    ·exact absurd (show x.1∈xs.map (·.1) from wH.mpr ⟨_,e,by rw [hj,c]⟩) n1.1
   subst hx;refine .cons (hit _ _ a rfl) (rest t λz hz=>λe=>n2.1 (wH.mpr ⟨z,hz,e⟩))
  ·rw [if_neg c]
   have hx:∃ y,(k,y,l)∈xs:=by
    rcases wu.mp h with e | e
    ·exact absurd (by rw [<-hj,<-e]) c
    ·exact ⟨y,e⟩
   obtain ⟨y',hy'⟩:=hx;exact .cons (m _ _ a λe=>n2.1 (wH.mpr ⟨_,hy',e.symm⟩)) (put_old m hit t n1.2 n2.2 ⟨y',hy'⟩)
where
 rest {xs:List (List Int×Addr×Addr)} {es:List (List Int×List D)}:Paired (EntR K B O G H) xs es->(∀ z∈xs,z.2.2≠l)->Paired (EntR K B O1 G1 H1) xs es
  | .nil,_=>.nil
  | .cons a t,h=>.cons (m _ _ a (h _ wN)) (rest t λz hz=>h z (wI _ hz))
theorem put_new {k:List Int} {d:D} {x0:List Int×Addr×Addr} (m:∀ x e,EntR K B O G H x e->EntR K B O1 G1 H1 x e) (new:EntR K B O1 G1 H1 x0 (k,[d])) :
  ∀ {xs:List (List Int×Addr×Addr)} {es:List (List Int×List D)},Paired (EntR K B O G H) xs es->k∉xs.map (·.1)->Paired (EntR K B O1 G1 H1) (xs++[x0]) (yT k d es)
 | _,_,.nil,_=>.cons new .nil
 | x::xs,(j,ds)::es,.cons a t,n=>by
  rw [List.map_cons,wu,not_or] at n;have hj:x.1=j:=a.1;rw [yT,if_neg (by rw [<-hj];exact Ne.symm n.1)];exact .cons (m _ _ a) (put_new m new t n.2)
theorem set_same {α:Type} {l:List α} {i:Nat} {x:α} (h:l[i]?=some x):l.set i x=l:=by
 obtain ⟨hi,e⟩:=wq.mp h;rw [<-e,List.set_getElem_self]
theorem FR.put_old {i:Nat} {a l y:Addr} {k:List Int} {v:V} {d:D} {vs:List V} {es:List (List Int×List D)} {en:Array DictEntry} {ep:Nat} {xs:List (List Int×Addr×Addr)} (F:FR K B H0 O σ H ρ) (hρ:ρ[i]?=some (.gr es)) (hσ:σ[i]?=some (some (.ref a)))
  (hG:∀ (i:Nat) (ds:List D) (a:Addr),ρ[i]?=some (.ow ds)->σ[i]?=some (some (.ref a))->¬ G a) (g:GrpR K B O G H a es en ep xs) {j:Nat} (hj:xs[j]?=some (k,y,l)) (hl:H l=some (.lst vs)) (r:Rep K (BO B O) H v d) :
  FR K B H0 O σ (upd H l (.lst (vs++[v]))) (ρ.set i (.gr (yT k d es)))/\Ext B O H O (upd H l (.lst (vs++[v]))):=by
 have hmem:(k,y,l)∈xs:=wR hj
 have key:∀ {xs:List (List Int×Addr×Addr)} {es:List (List Int×List D)},Paired (EntR K B O G H) xs es->(k,y,l)∈xs->O l/\G l:=by
  intro xs es p
  induction p with
  | nil=>intro h;cases h
  | cons a t ih =>
   intro h;rcases wu.mp h with e | e
   ·rw [<-e] at a;exact ⟨a.2.2.1,a.2.2.2.1⟩
   ·exact ih e
 obtain ⟨ol,gl⟩:=key g.al hmem;have nal:a≠l:=λz=>by have:=g.h;rw [z,hl] at this;cases this
 have sm:yr (BO B O) H (upd H l (.lst (vs++[v]))):=λb o nb e=>by rw [ja λz=>nb (by rw [z];exact .inr ol)];exact e
 have hi:i<σ.length:=(wq.mp hσ).1;have hlt:∀ b xs,H b=some (.tup xs)->upd H l (.lst (vs++[v])) b=some (.tup xs):=λb xs e=>by rw [ja λz=>by rw [z,hl] at e;cases e];exact e
 have z:=F.regr (i:=i) (a:=a) (es:=yT k d es) (en:=en) (ep:=ep) (xs:=xs) (W:=λb=>b=l) (G1:=G) (O1:=O) (H1:=upd H l (.lst (vs++[v]))) hi (λj' es' e=>F.g1 j' i es' es e hρ) (λb z=>z▸ol)
  (λb o e nb=>by rw [ja nb];exact e) (λb o e=>by by_cases c:b=l;exact ⟨_,by rw [c];exact ya⟩;exact ⟨o,by rw [ja c];exact e⟩) (λb z=>.inl z) (λb z=>z)
  ⟨λb z=>by
   by_cases c:b=l
   ·exact .inl ⟨_,by rw [c];exact ya⟩
   ·exact (F.hb.h b z).imp (λ⟨xs,e⟩=>⟨xs,by rw [ja c];exact e⟩) λ⟨es,ep,e⟩=>⟨es,ep,by rw [ja c];exact e⟩,λx hx=>by rw [ja λz=>by have:=F.hb.t x hx;rw [z,hl] at this;cases this];exact F.hb.t x hx⟩
  (λj' ds c _ e q=>⟨λz=>hG j' ds c e q (by rw [z];exact gl),hG j' ds c e q⟩)
  ⟨g.o,by rw [ja nal];exact g.h,g.sy,g.en,g.ks,g.ls,g.len,Eng.put_old (l:=l) (λx e h n=>?_) (λx e h n=>?_) g.al g.ks g.ls ⟨y,hmem⟩⟩
 ·rw [set_same hσ] at z;exact z
 ·obtain ⟨h1,h2,h3,h4,ws,h5,h6⟩:=h;exact ⟨h1,hlt _ _ h2,h3,h4,ws,by rw [ja n];exact h5,h6.mono F.hb sm⟩
 ·obtain ⟨h1,h2,h3,h4,ws,h5,h6⟩:=h;rw [n,hl] at h5;cases h5;exact ⟨h1,hlt _ _ h2,h3,h4,_,by rw [n];exact ya,(h6.mono F.hb sm).append (.cons (r.mono F.hb sm) .nil)⟩
theorem FR.put_new {i:Nat} {a b p:Addr} {k:List Int} {v:V} {d:D} {es:List (List Int×List D)} {en:Array DictEntry} {ep ep':Nat} {xs:List (List Int×Addr×Addr)} {H3:Hp} (F:FR K B H0 O σ H ρ) (hρ:ρ[i]?=some (.gr es)) (hσ:σ[i]?=some (some (.ref a)))
  (hG:∀ (i:Nat) (ds:List D) (a:Addr),ρ[i]?=some (.ow ds)->σ[i]?=some (some (.ref a))->¬ G a) (g:GrpR K B O G H a es en ep xs) (hz:xs.length<1000) (hk:k∉xs.map (·.1)) (hp:H p=none) (s1:Same H H1) (hb:H1 b=some (.tup (k.map V.int)))
  (s3:Same (upd H1 a (qX a (en.push (zaO (k,b,p))) ep')) H3) (hp3:H3 p=some (.lst [])) (r:Rep K (λc=>BO B O c\/c=p) H3 v d) :
  FR K B H0 (λc=>O c\/c=p) σ (upd H3 p (.lst [v])) (ρ.set i (.gr (yT k d es)))/\Ext B O H (λc=>O c\/c=p) (upd H3 p (.lst [v])):=by
 have hi:i<σ.length:=(wq.mp hσ).1;have npa:a≠p:=λz=>by have:=g.h;rw [z,hp] at this;cases this
 have a3:H3 a=some (qX a (en.push (zaO (k,b,p))) ep'):=s3 _ _ ya
 have old:∀ c o,H c=some o->c≠a->upd H3 p (.lst [v]) c=some o:=λc o e n=>by
  rw [ja λz=>by rw [z,hp] at e;cases e];exact s3 _ _ (by rw [ja n];exact s1 _ _ e)
 have a4:upd H3 p (.lst [v]) a=some (qX a (en.push (zaO (k,b,p))) ep'):=by rw [ja npa];exact a3
 have sm:yr (BO B O) H (upd H3 p (.lst [v])):=λc o nb e=>old c o e λz=>nb (by rw [z];exact .inr g.o)
 have hol:∀ c,BO B (λc=>O c\/c=p) c->BO B O c\/H c=none:=λc z=>by
  rcases z with z | z | z
  ·exact .inl (.inl z)
  ·exact .inl (.inr z)
  ·exact .inr (z▸hp)
 have tupA:∀ c ws,H c=some (.tup ws)->c≠a:=λc ws e z=>by rw [z,g.h] at e;cases e
 have z:=F.regr (i:=i) (a:=a) (es:=yT k d es) (en:=en.push (zaO (k,b,p))) (ep:=ep') (xs:=xs++[(k,b,p)]) (W:=λc=>c=a) (G1:=λc=>G c\/c=p) (O1:=λc=>O c\/c=p) (H1:=upd H3 p (.lst [v])) hi (λj' es' e=>F.g1 j' i es' es e hρ) (λc z=>z▸g.o)
  (λc o e n=>old c o e n) (λc o e=>by by_cases n:c=a;exact ⟨_,by rw [n];exact a4⟩;exact ⟨o,old c o e n⟩) (λc z=>z.imp id λ(z:c=p)=>z▸hp) (λc z=>.inl z)
  ⟨λc z=>by
   have go:∀ c,BO B O c->(∃ xs,upd H3 p (.lst [v]) c=some (.lst xs))\/∃ es ep,upd H3 p (.lst [v]) c=some (qX c es ep):=λc z=>by
    by_cases n:c=a
    ·subst n;exact .inr ⟨_,_,a4⟩
    ·exact (F.hb.h c z).imp (λ⟨xs,e⟩=>⟨xs,old c _ e n⟩) λ⟨es,ep,e⟩=>⟨es,ep,old c _ e n⟩
   rcases z with z | z | z
   ·exact go c (.inl z)
   ·exact go c (.inr z)
   ·exact .inl ⟨_,by rw [z];exact ya⟩,λx hx=>old _ _ (F.hb.t x hx) λz=>by have:=F.hb.t x hx;rw [z,g.h] at this;cases this⟩
  (λj' ds c _ e q=>by
   obtain ⟨c',ws,q',o,h,_⟩:=F.ow j' ds e;rw [q] at q';cases q'
   refine ⟨λz=>by (rw [z,g.h] at h;cases h),λz=>?_⟩;rcases z with z | z
   ·exact hG j' ds c e q z
   ·rw [z,hp] at h;cases h)
  ⟨.inl g.o,a4,g.sy,by rw [Array.toList_push,g.en];simp,?_,?_,by rw [wU];exact hz,Eng.put_new (λx e h=>?_) ?_ g.al hk⟩
 ·rw [set_same hσ] at z;exact z
 ·rw [List.map_append,List.nodup_append];refine ⟨g.ks,by simp,λx hx y hy=>?_⟩
  have:y=k:=by simpa using hy
  subst this;exact λz=>hk (z▸hx)
 ·rw [List.map_append,List.nodup_append];refine ⟨g.ls,by simp,λx hx y hy=>?_⟩;have hy':y=p:=by simpa using hy
  subst hy';intro z;subst z
  have key:∀ {xs:List (List Int×Addr×Addr)} {es:List (List Int×List D)},Paired (EntR K B O G H) xs es->x∈xs.map (·.2.2)->∃ ws,H x=some (.lst ws):=by
   intro xs es pr
   induction pr with
   | nil=>intro h;cases h
   | cons a t ih =>
    intro h;rcases wu.mp h with e | e
    ·obtain ⟨_,_,_,_,ws,h5,_⟩:=a;exact ⟨ws,by rw [e];exact h5⟩
    ·exact ih e
  obtain ⟨ws,e⟩:=key g.al hx;rw [hp] at e;cases e
 ·obtain ⟨h1,h2,h3,h4,ws,h5,h6⟩:=h;exact ⟨h1,old _ _ h2 (tupA _ _ h2),.inl h3,.inl h4,ws,old _ _ h5 (λz=>by rw [z,g.h] at h5;cases h5),h6.shift F.hb sm hol⟩
 ·have nbp:b≠p:=λz=>by
   have:H3 b=some (.tup (k.map V.int)):=s3 _ _ (by rw [ja λz=>by rw [z] at hb;rw [s1 _ _ g.h] at hb;cases hb];exact hb)
   rw [z,hp3] at this;cases this
  have hb3:H3 b=some (.tup (k.map V.int)):=s3 _ _ (by rw [ja λz=>by rw [z] at hb;rw [s1 _ _ g.h] at hb;cases hb];exact hb)
  have hbb:HB (λc=>BO B O c\/c=p) H3:=⟨λc z=>by
   rcases z with z | z
   ·by_cases n:c=a
    ·subst n;exact .inr ⟨_,_,a3⟩
    ·have up:∀ o,H c=some o->H3 c=some o:=λo e=>s3 _ _ (by rw [ja n];exact s1 _ _ e)
     exact (F.hb.h c z).imp (λ⟨xs,e⟩=>⟨xs,up _ e⟩) λ⟨es,ep,e⟩=>⟨es,ep,up _ e⟩
   ·exact .inl ⟨_,z▸hp3⟩,λx hx=>s3 _ _ (by rw [ja λz=>by have:=F.hb.t x hx;rw [z,g.h] at this;cases this];exact s1 _ _ (F.hb.t x hx))⟩
  have r4:Rep K (λc=>BO B O c\/c=p) (upd H3 p (.lst [v])) v d:=r.mono hbb λc o n e=>by rw [ja λz=>n (.inr z)];exact e
  refine ⟨rfl,by rw [ja nbp];exact hb3,.inr rfl,.inr rfl,[v],ya,.cons (r4.less λc z=>?_) .nil⟩;rcases z with z | z | z
  ·exact .inl (.inl z)
  ·exact .inl (.inr z)
  ·exact .inr z
end
section
variable {X:Cx} {C:Tab}
theorem ycQ {x:Str} {px dp pos:Pos} {i:Nat} (hN:X.N.Nodup) (hy:X.N[i]?=some x) (hl:Loc X.env.scope x) (hf:X.fn x=true\/X.env.scope.names.lookup x=some .local) (hi:i<X.N.length) :
  SS X C (.Assign [.Name x px] (.Dict [] [] dp) pos) (.newd i):=λB H0 O ρ r he=>by
 have he':(if (ρ.set i .un).any Sl.isGr then none else some (Fl.nx (ρ.set i (.gr []))))=some r:=by rw [ex] at he;exact he
 split at he'
 ·cases he'
 ·rename_i hg;cases he';rw [Bool.not_eq_true] at hg;intro pins s σ H D I q;refine zaf hN hy hl zcQ (yai rfl _ _ _) hf pins s σ H D I λp hp hs=>?_
  obtain ⟨F,x⟩:=q.1.newd (by rw [I.len];exact hi) hg hp hs;exact q.2 _ _ _ x F (by simp)
theorem qdD {es:List Expr} {cs:Codes} (h:SA X C es cs) {ρ:En} {ds:List D} (e:evs C cs ρ=some ds):PA X es (λσ H Q=>∃ B,tDs X.K B ρ ds σ H Q) :=
 λpos pins s σ H Q I ⟨B,q⟩=>h B ρ ds e pos pins s σ H Q I q
theorem ydD {x:Str} {px ap1 ap2 cp1 cp2 lp spos:Pos} {i:Nat} {ek e:Expr} {ck cv:Code} (hu:X.A.units+64<cLine) (hN:X.N[i]?=some x) (hv:Vis X.env.scope x) (hd:(x==("__debug__":Str))=false) (hcd:(x==("__classdict__":Str))=false)
  (hk:SE X C ek ck) (he:SE X C e cv) (hsk:starEach [ek,.List [] lp] X.env=(false,eval ek X.env)::starEach [.List [] lp] X.env) (hs:starEach [e] X.env=[(false,eval e X.env)])
  (hl1:(ap1.endLine==cp1.line)=true) (hl2:(ap2.endLine==cp2.line)=true) :
  SS X C (.Expr (.Call (.Attribute (.Call (.Attribute (.Name x px) "setdefault" ap1) [ek,.List [] lp] [] cp1) "append" ap2) [e] [] cp2) spos) (.grp i ck cv):=λB H0 O ρ r h=>by
 obtain ⟨dk,edk,h⟩:=wa (show (ev C ck (vP ρ)).bind (λx=>(ev C cv (vP ρ)).bind λd=>(qdS x).bind λns=>zde i ns d ρ)=some r from h);obtain ⟨d,ed,h⟩:=wa h;obtain ⟨k,ek',h⟩:=wa h;unfold zde at h;split at h
 case h_2=>cases h
 rename_i es hρ;split at h
 case isFalse=>cases h
 rename_i hz;cases h
 have hkey:∃ ks,dk=.tup ks/\intsOf ks=some k:=by
  cases dk<;>first | exact ⟨_,rfl,ek'⟩ | cases ek'
 obtain ⟨ks,rfl,hks⟩:=hkey
 have pin:=jbC (X:=X) (T:="dict") (name:="setdefault") F.plainAttrs_dict F.slot_dict_setdefault F.type_dict_setdefault (qcQ hu) (zD (pos:=px) hN hv hd hcd)
  (qD (hk (BO B O) (vP ρ) _ edk) (qD (yby (X:=X) (C:=C) (pos:=lp) yn (BO B O) (vP ρ) [] rfl) jaf rfl) hsk) rfl (by rw [hsk];rfl) hl1 hsk rfl
 have hpa:=qdD (zi he yn hs) (ρ:=vP ρ) (ds:=[d]) (by rw [evs,ed];rfl);refine (jP (ybf F.plainAttrs_list F.slot_list_append F.type_list_append zZ pin hpa rfl (by rw [hs];rfl) hl2 hs rfl)).imp λDn σ H q=>?_
 obtain ⟨F,q⟩:=q;obtain ⟨G,hG,g2⟩:=F.gs;obtain ⟨a,en,ep,xs,hσ,g⟩:=g2 i es hρ;have hlen:xs.length=es.length:=Paired.length g.al;refine ⟨_,hσ,zbD g.h,F.hb,F.erP,λv1 H1 s1 r1=>⟨F.hb.same s1,F.erP.same s1,λv2 H2 s2 r2 fr=>?_⟩⟩;obtain ⟨b,bs,rfl,hb,rb⟩:=r1.tupD;have eb:=rb.ints hks;subst eb;obtain ⟨p,ps,rfl,np,hp,rp⟩:=r2.lstD;cases rp;obtain ⟨p',ep',fp⟩:=fr;cases ep';have sm:=s1.trans s2;have fpH:H p=none:=s1.free fp;have F2:=F.grow sm;have g':=g.same sm
 have tups:∀ {xs:List (List Int×Addr×Addr)} {es:List (List Int×List D)},Paired (EntR X.K B O G H2) xs es->∀ x∈xs,H2 x.2.1=some (.tup (x.1.map V.int)):=by
  intro xs es pr
  induction pr with
  | nil=>intro x h;cases h
  | cons a t ih =>
   intro x h;rcases wu.mp h with e | e
   ·rw [e];exact a.2.1
   ·exact ih x e
 unfold tNil;refine (id ?_:rSetd (V.ref a) [V.ref b,V.ref p] H2 λx H1=>tyV X.K "list" x H1/\∃ B,tDs X.K B (vP ρ) [d] σ H1 λxs H2=>rAppend x xs H2 λx H1=>Dn.nx σ H1);refine ⟨a,b,p,k,en,ep,xs,rfl,rfl,g'.h,g.sy,g.en,g.ks,g.len,s2 _ _ hb,tups g'.al,λj y l hj=>?_,λnj epn=>?_⟩
 ·have mem:∀ {xs:List (List Int×Addr×Addr)} {es:List (List Int×List D)},Paired (EntR X.K B O G H2) xs es->(∀ e∈es,e.2.length<1000)->(k,y,l)∈xs->∃ vs,H2 l=some (.lst vs)/\vs.length<1000:=by
   intro xs es pr
   induction pr with
   | nil=>intro _ h;cases h
   | cons a t ih =>
    intro hz h;rcases wu.mp h with e | e
    ·obtain ⟨_,_,_,_,vs,h5,h6⟩:=a;exact ⟨vs,by rw [<-e] at h5;exact h5,by rw [h6.length];exact hz _ wN⟩
    ·exact ih (λe he=>hz e (wI _ he)) e
  obtain ⟨vs,hl,hlv⟩:=mem g'.al hz.2 (wR hj);refine ⟨.inl ⟨rfl,_,SqL.of hl⟩,BO B O,F2.hb,F2.erP,λws H4 s4 r4=>?_⟩;obtain ⟨v,rfl,rv⟩:=r4.one;obtain ⟨F5,x5⟩:=(F2.grow s4).put_old hρ hσ hG (g'.same s4) hj (s4 _ _ hl) rv;exact ⟨l,vs,v,rfl,rfl,s4 _ _ hl,qbs (Nat.le_of_lt hlv),q O σ _ ((Ext.of_same (sm.trans s4)).trans x5) F5 rfl⟩
 ·have npa:p≠a:=λz=>by have:=g.h;rw [<-z,fpH] at this;cases this
  have hk:k∉xs.map (·.1):=λh=>by
   obtain ⟨⟨k',y,l⟩,hm,e⟩:=wH.mp h;simp only at e;subst e;obtain ⟨j,hj⟩:=List.mem_iff_getElem?.mp hm;exact nj j y l hj
  have hp2:upd H2 a (qX a (en.push (zaO (k,b,p))) epn) p=some (.lst []):=by rw [ja npa];exact hp
  have up:∀ c o,H c=some o->c≠a->upd H2 a (qX a (en.push (zaO (k,b,p))) epn) c=some o:=λc o e n=>by rw [ja n];exact sm _ _ e
  have sB:yr (BO B O) H (upd H2 a (qX a (en.push (zaO (k,b,p))) epn)):=λc o n e=>up c o e λz=>n (by rw [z];exact .inr g.o)
  have hol:∀ c,(BO B O c\/c=p)->BO B O c\/H c=none:=λc z=>z.imp id λ(z:c=p)=>z▸fpH
  refine ⟨.inl ⟨rfl,_,SqL.of hp2⟩,λc=>BO B O c\/c=p,⟨λc z=>?_,λx hx=>up _ _ (F.hb.t x hx) λz=>by have:=F.hb.t x hx;rw [z,g.h] at this;cases this⟩,λj d' e=>?_,λws H4 s4 r4=>?_⟩
  ·rcases z with z | z
   ·by_cases n:c=a
    ·subst n;exact .inr ⟨_,_,ya⟩
    ·exact (F.hb.h c z).imp (λ⟨xs,e⟩=>⟨xs,up _ _ e n⟩) λ⟨es,ep,e⟩=>⟨es,ep,up _ _ e n⟩
   ·exact .inl ⟨[],by rw [z];exact hp2⟩
  ·obtain ⟨v,qv,rv⟩:=F.erP j d' e;exact ⟨v,qv,rv.shift F.hb sB hol⟩
  ·obtain ⟨v,rfl,rv⟩:=r4.one;obtain ⟨F5,x5⟩:=F.put_new hρ hσ hG g (by rw [hlen];exact hz.1) hk fpH sm (s2 _ _ hb) s4 (s4 _ _ hp2) rv;exact ⟨p,[],v,rfl,rfl,s4 _ _ hp2,by rw [sizeLine_eq];decide,q _ σ _ x5 F5 rfl⟩
open PySem.Builtin.List in
theorem jcQ (l:Addr) (items:Array Value) (n:Nat) (b:Addr) (items2:Array Value) (hlong:¬ (!items.isEmpty&&listTooLong (items.size+items2.size))=true) (h1:items.size<=sizeLine) (h2:items.size+items2.size<=sizeLine) :
  Meets (Builtin.«list.extend» ⟨[.ref l,.ref b],[]⟩) (λ_ R s=>s.heap.get? l=some { cls:=.type "list",dict:=none,data:=.seq items n,slots:=#[] }/\(∃ o n2,s.heap.get? b=some o/\o.cls=.type "tuple"/\o.data=.seq items2 n2)/\R (.ok (.ret Value.none)) { s with heap:=s.heap.update l (Obj.mapSeq λx=>x++items2),toks:=s.toks }) :=
 .of_wp λprog w A R s ⟨hl,⟨o,n2,ho,hc,hd⟩,h⟩=>by
  show wpAny _ _ (listExtendWith (.ref l) (.ref b) .none) _ _ _;unfold listExtendWith;refine we (wpAny_typeOf (T:="tuple") ⟨o,ho,hc⟩ ?_);have ht:(Value.type "tuple"==Value.type "tuple")=true:=by rfl
  rw [if_pos (by rw [ht];simp)];refine we (listItems_at ho hd (we (listItems_at hl rfl ?_)));rw [if_neg hlong];exact we (listUpdate_at hl rfl (wm ⟨_,rfl,h⟩) h1 (by rw [Array.size_append];omega))
def rExtT:V->List V->Hp->VK->Prop:=λx vs H Q=>∃ l b xs zs,x=.ref l/\vs=[.ref b]/\H l=some (.lst xs)/\H b=some (.tup zs)/\xs.length+zs.length<=sizeLine/\Q .non (upd H l (.lst (xs++zs)))
theorem zcR:MtM X "list.extend" rExtT:=by
 intro pins s σ H x vs v us Q I rx rv h;obtain ⟨l,b,xs,zs,rfl,rfl,hH,hB,hz,q⟩:=h;cases rx;obtain ⟨u,rfl,ru⟩:=rv.one;cases ru;obtain ⟨z,its,n,r,hl,e⟩:=I.lstM hH;obtain ⟨_,its2,r2,o,ho,hc,_,n2,hd⟩:=(show ObjOk X.prog X.w H s.heap b (.tup zs) from I.hok b _ hB);have hl2:=r2.length;have hsz:its.toArray.size+its2.toArray.size<=sizeLine:=by rw [vj,vj];omega
 have hlong:¬ (!its.toArray.isEmpty&&Builtin.List.listTooLong (its.toArray.size+its2.toArray.size))=true:=by
  rw [zao hsz,Bool.and_false];exact wA
 refine call_meets F.slot_list_extend ⟨_,e,rfl⟩ F.entry_list_extend (F.args_list_extend_2 _ _) (jcQ l its.toArray n b its2.toArray hlong (by rw [vj];omega) hsz) ⟨e,⟨o,n2,ho,hc,hd⟩,?_⟩;refine ⟨.non,_,I.lset (its':=its++its2) hH e (by simp) (r.append r2) ?_,rfl,q⟩;rw [wU];omega
theorem jdD {i:Nat} {x:Str} {px apos cpos spos:Pos} {e:Expr} {c:Code} (hN:X.N[i]?=some x) (hv:Vis X.env.scope x) (hd:(x==("__debug__":Str))=false) (hcd:(x==("__classdict__":Str))=false)
  (he:SE X C e c) (hs:starEach [e] X.env=[(false,eval e X.env)]) (hline:(apos.endLine==cpos.line)=true):SS X C (.Expr (.Call (.Attribute (.Name x px) "extend" apos) [e] [] cpos) spos) (.ext i .pu c):=λB H0 O ρ r h=>by
 obtain ⟨d,ed,h⟩:=wa (show (ev C c (vP ρ)).bind (λd=>yco i d ρ)=some r from h);unfold yco at h;split at h
 case h_3=>cases h
 all_goals
  rename_i ds es hρ;split at h
  case isFalse=>cases h
  rename_i hz;cases h
 ·have hpa:PA X [e] (tDs X.K (BO B O) (vP ρ) [.lst es]):=zi he yn hs _ _ _ (by rw [evs,ed];rfl);refine (jP (ybf F.plainAttrs_list F.slot_list_extend F.type_list_extend zaC (zD (pos:=px) hN hv hd hcd) hpa rfl (by rw [hs];rfl) hline hs rfl)).imp λDn σ H q=>?_
  obtain ⟨F,q⟩:=q;obtain ⟨a,vs,hσ,o,ha,rs⟩:=F.ow i ds hρ;refine ⟨_,hσ,.inl ⟨rfl,_,SqL.of ha⟩,F.hb,F.erP,λws H1 sm rw'=>?_⟩;obtain ⟨v,rfl,rv⟩:=rw'.one;obtain ⟨b,zs,rfl,nb,hb,rz⟩:=rv.lstD;obtain ⟨F2,x2⟩:=(F.grow sm).write (es:=ds++es) (ws:=vs++zs) hρ hσ ((rs.same sm).append rz);exact ⟨a,b,vs,zs,rfl,rfl,sm _ _ ha,hb,by rw [rs.length,rz.length];exact Nat.le_of_lt hz,q O σ _ ((Ext.of_same sm).trans x2) F2 rfl⟩
 ·have hpa:PA X [e] (tDs X.K (BO B O) (vP ρ) [.tup es]):=zi he yn hs _ _ _ (by rw [evs,ed];rfl);refine (jP (ybf F.plainAttrs_list F.slot_list_extend F.type_list_extend zcR (zD (pos:=px) hN hv hd hcd) hpa rfl (by rw [hs];rfl) hline hs rfl)).imp λDn σ H q=>?_
  obtain ⟨F,q⟩:=q;obtain ⟨a,vs,hσ,o,ha,rs⟩:=F.ow i ds hρ;refine ⟨_,hσ,.inl ⟨rfl,_,SqL.of ha⟩,F.hb,F.erP,λws H1 sm rw'=>?_⟩;obtain ⟨v,rfl,rv⟩:=rw'.one;obtain ⟨b,zs,rfl,hb,rz⟩:=rv.tupD;obtain ⟨F2,x2⟩:=(F.grow sm).write (es:=ds++es) (ws:=vs++zs) hρ hσ ((rs.same sm).append rz);exact ⟨a,b,vs,zs,rfl,rfl,sm _ _ ha,hb,by rw [rs.length,rz.length];exact Nat.le_of_lt hz,q O σ _ ((Ext.of_same sm).trans x2) F2 rfl⟩
end
noncomputable abbrev zdE (a:Addr):Obj:={ cls:=.type "dict_values",data:=.fields #[.ref a] }
noncomputable abbrev qcR (p a:Addr):HO:=.ext λh=>h.get? p=some (zdE a)
noncomputable abbrev jeu (a:Addr) (i n ep:Nat):Obj:={ cls:=.type "dict_valueiterator",data:=.fields #[.ref a,.int i 0,.int n 0,.int ep 0] }
noncomputable def Itd (a:Addr) (en:Array DictEntry) (ep:Nat) (vs:List V):It :=
 ⟨λi H=>H a=some (qX a en ep)/\∃ x,vs[i]?=some x,λi H x H'=>H'=H/\vs[i]?=some x,λi H=>H a=some (qX a en ep)/\vs.length<=i⟩
theorem ybD {P:Program} {w:World} {K:Frag} {tg:Expr} (a it:Addr) (en:Array DictEntry) (ep:Nat) (vs:List V) (hv:Vals vs (en.toList.map (·.val))) :
  Turn P w K tg (Itd a en ep vs) [it] it (λi h=>h.get? it=some (jeu a i en.size ep)) where
 mem:=by simp
 obj:=λi h st b hb=>by
  have e:b=it:=by simpa using hb
  subst e;exact ⟨_,st,λv z=>by cases z⟩
 keep:=λi h h' st k=>k it (by simp) _ st
 item:=by
  intro X hP hw hK hc i pins s σ H E I hf st hg;subst hP hw hK;obtain ⟨hH,x,hx⟩:=hg;obtain ⟨u,hu,ru⟩:=hv.get hx;rw [wx] at hu;obtain ⟨e,he,rfl⟩:=Option.map_eq_some_iff.mp hu;obtain ⟨f0,f1,f2,f3,f4,f5⟩:=hf it (by simp);refine qbC st (jai I hH) (e:=e) (by rw [<-Array.getElem?_toList];exact he) λh' st' sb=>?_
  have I1:L2.Inv X pins σ H { s with heap:=h' }:=I.turned (t':=s.toks) (λb o hb e=>(sb.2 b hb).trans e) f0 f1 f3 f4 f5;exact ⟨_,rfl,zb4 (s:={ s with heap:=h' }) st' rfl rfl (by decide) ⟨x,H,I1,ru,⟨rfl,hx⟩,st',λb hb=>(hf b hb).1⟩⟩
 done:=by
  intro X hP hw hK hc i pins s σ H E I hf st hg;subst hP hw hK;obtain ⟨hH,hx⟩:=hg;obtain ⟨f0,f1,f2,f3,f4,f5⟩:=hf it (by simp);have hl:vs.length=en.size:=by rw [hv.length,wD,Array.length_toList]
  exact ybC (I.ok.hd hc) st (jai I hH) (by simp;omega) λh' eb=>⟨rfl,I.turned (t':=s.toks) (λb o hb e=>eb b o hb e) f0 f1 f3 f4 f5⟩
 self:=λ_ i _ _ _ st h=>wpAny_pyIter_valiter (i:=i) (n:=en.size) (ep:=ep) (d:=a) ⟨_,st,rfl,rfl⟩ h
section
variable {X:Cx} {C:Tab} {tg a:Expr} {ca:Code}
theorem jbD:MtR X "dict.values" (λx vs H Q=>∃ (a:Addr) (en:Array DictEntry) (ep:Nat),x=.ref a/\vs=[]/\H a=some (qX a en ep)/\(a==sysModules)=false/\∀ p,H p=none->Q (.ref p) (upd H p (qcR p a))):=by
 intro pins s σ H x vs v us Q I rx rv ⟨a,en,ep,e1,e2,ha,hy,q⟩;subst e1;subst e2
 cases rx;cases rv
 have hl:=jai I ha;refine call_meets F.slot_dict_values ⟨_,hl,rfl⟩ F.entry_dict_values (F.args_dict_values_1 _) (qcd a en ep hy) ⟨hl,?_⟩;exact ⟨.ref s.heap.objs.size,_,I.laid (t':=s.toks) (o:=qcR s.heap.objs.size a) (λb ob q=>wj _ q) (wC _) ⟨wt _ rfl,⟨_,wt _ rfl⟩,λ_ _ p k=>k _ p⟩,rfl,q _ I.fresh⟩
theorem ycR {apos cpos:Pos} (ha:SE X C a ca) (hbase:attributeBase a "values" X.env (eval a X.env)=eval a X.env) (hline:(apos.endLine==cpos.line)=true):SI X C tg (.Call (.Attribute a "values" apos) [] [] cpos) (.vals ca):=λB ρ ds h=>by
 obtain ⟨d,ed,hi⟩:=wa (show (ev C ca ρ).bind ydd=some ds from h);have hd:d=.grp ds:=by cases d<;>cases hi;rfl
 subst hd;intro pins s σ H R I ⟨hb,er,q⟩;refine thn (jcP F.plainAttrs_dict F.slot_dict_values F.type_dict_values jbD (ha B ρ _ ed) hbase hline pins s σ H (λv H'=>Same H H'/\∃ p b en ep vs,v=.ref p/\H' p=some (qcR p b)/\¬ B b/\H' b=some (qX b en ep)/\vs.length<=sizeLine/\Vals vs (en.toList.map (·.val))/\Reps X.K B H' vs ds) I ⟨hb,er,λv H1 s1 r1=>?_⟩) λv s1 ⟨x,H1,I1,r1,sm1,p,b,en,ep,vs,e1,hp,nb,hd,hz,hvs,rs⟩=>?_
 ·cases r1 with
  | @grp b en ep vs ds n e hy hz hv rs =>
   exact ⟨zbD e,b,en,ep,rfl,rfl,e,hy,λp hp=>⟨s1.trans (qa hp _),p,b,en,ep,vs,rfl,ya,n,qa hp _ _ _ e,hz,hv,rs.same (qa hp _)⟩⟩
 ·subst e1;cases r1;have hv:s1.heap.get? p=some (zdE b):=(I1.hok p _ hp).1
  have fp:∀ c∈[s1.heap.objs.size],FpOk X pins H1 c:=λc hc=>by
   have e:c=s1.heap.objs.size:=by simpa using hc
   subst e;exact I1.fpOk (wC _) I1.fresh
  have hb1:=hb.same sm1;refine zbC hv (jai I1 hd) ⟨s1.heap.objs.size,[s1.heap.objs.size],_,Itd b en ep vs,H1,rfl,I1.kept (t':=s1.toks) λc o e=>wj _ e,ybD b _ en ep vs hvs,wt _ rfl,fp,q _ H1 sm1 ?_⟩;refine ⟨by rw [<-rs.length];exact hz,λB' H' f2 hb' sm i d hd'=>?_,λH' sm=>⟨sm _ _ nb hd,by rw [rs.length];exact wC _⟩⟩;obtain ⟨x,ex,rx⟩:=rs.get hd';refine ⟨⟨sm _ _ nb hd,x,ex⟩,λy H'' ⟨e1,e2⟩=>?_⟩;subst e1;rw [ex] at e2;cases e2;exact ⟨Same.refl _,rx.shift hb1 sm f2⟩
end
end Eng
end
section
namespace Eng
open PySem
inductive All2 {α:Type} (R:α->Value->Prop):List α->List Value->Prop
 | nil:All2 R [] []
 | cons {k:α} {v:Value} {ks:List α} {vs:List Value}:R k v->All2 R ks vs->All2 R (k::ks) (v::vs)
section
variable {prog:Program} {w:World} {A:Around} {E:Value->Shared->Prop} {s:Shared} {α:Type} {R:α->Value->Prop} {a b:Addr}
theorem ya5 {hsh:α->Int} {dr:α->Nat} {ks:List α} {o:Obj} {items:Array Value} {n:Nat} {Q:Int->Shared->Prop} (hu:A.units<cLine) (ho:s.heap.get? a=some o) (hc:o.cls=.type "tuple") (hd:o.data=.seq items n) (hi:All2 R ks items.toList)
  (hR:∀ k v,R k v->∀ (tk:Nat) (Q:Int->Shared->Prop),Q (hsh k) { s with toks:=tk+dr k }->wpAny (model prog w) A.in1 (pyHash v) Q E { s with toks:=tk })
  (h:Q (reduceHash (Builtin.Tuple.tupleHashOf (ks.map hsh))) { s with toks:=s.toks+((ks.map dr).sum+1) }):wpAny (model prog w) A (pyHash (.ref a)) Q E s:=by
 have hT:s.TypeIs (.ref a) "tuple":=⟨o,ho,hc⟩;unfold pyHash
 first | unfold pyHashByItsType | skip
 first | refine we (wpAny_cRoomFor_or (.inr hu) ?_) | skip
 refine we (wpAny_specialOf hT F.slot_tuple_hash.lookup ?_);show wpAny _ _ (if (some (Value.builtin "tuple.__hash__")==some Value.none)=true then _ else _) Q E s;rw [if_neg (by rw [beq_builtin_none];exact wA)];refine we (wpAny_specialOf hT F.slot_tuple_hash.lookup ?_);show wpAny _ _ (callSpecialIfBoundUnlessNone? (.ref a) "__hash__" _ >>= _) Q E s;refine we (wpAny_callSpecialIfBoundUnlessNone?_slot hT F.slot_tuple_hash (wW F.slot_tuple_hash hT F.entry_tuple_hash ?_ (F.args_tuple_hash_1 _)));show wpAny _ _ (Builtin.Tuple.tupleItemsOf (.ref a) >>= _) _ _ s;refine we (wpAny_tupleItemsOf ho hd ?_);refine we ?_;rw [<-Array.forIn_toList]
 refine wpAny_forIn_list _
  (λrest (b:Array Int) s'=>∃ done left,ks=done++left/\All2 R left rest/\b.toList=done.map hsh/\s'={ s with toks:=s.toks+(done.map dr).sum })
  _ ?_ ?_ _ _ ⟨[],ks,rfl,hi,rfl,rfl⟩
 ·rintro x rest b s' ⟨done,left,rfl,hl,hb,rfl⟩;cases hl with
  | @cons k _ ks' _ h1 hl' =>
   refine we (hR k x h1 _ _ ?_)
   first
    | exact wm ⟨done++[k],ks',by simp,hl',by simp [hb],by simp [Nat.add_assoc]⟩
    | exact we (wm (wm ⟨done++[k],ks',by simp,hl',by simp [hb],by simp [Nat.add_assoc]⟩))
 ·rintro b s' ⟨done,left,rfl,hl,hb,rfl⟩;cases hl;rw [List.append_nil] at h;show wpAny _ _ (retInt (Builtin.Tuple.tupleHashOf b.toList)) _ _ _;rw [hb];refine wpAny_ret_mkInt ?_;show wpAny _ _ (if (decide (-(2:Int)^63<=Builtin.Tuple.tupleHashOf (done.map hsh))&&decide (Builtin.Tuple.tupleHashOf (done.map hsh)<2^63))=true then _ else _) Q E _;unfold reduceHash at h
  by_cases hr:(decide (-(2:Int)^63<=Builtin.Tuple.tupleHashOf (done.map hsh))&&decide (Builtin.Tuple.tupleHashOf (done.map hsh)<2^63))=true
  ·rw [if_pos hr];rw [if_pos hr] at h;exact wm (by simpa [Nat.add_assoc] using h)
  ·rw [if_neg hr];rw [if_neg hr] at h;exact we (wpAny_rule (wm (by simpa [Nat.add_assoc] using h)))
theorem jcR [DecidableEq α] {x y:List α} {oa ob:Obj} {xs ys:Array Value} {na nb:Nat} {P:Fin->Shared->Prop} (hoa:s.heap.get? a=some oa) (hda:oa.data=.seq xs na) (hia:All2 R x xs.toList) (hob:s.heap.get? b=some ob) (hcb:ob.cls=.type "tuple") (hdb:ob.data=.seq ys nb) (hib:All2 R y ys.toList)
  (hR:∀ p∈List.zip x y,∀ u v,R p.1 u->R p.2 v->∀ Q:Bool->Shared->Prop,Q (decide (p.1=p.2)) s->wpAny (model prog w) A (eqBool u v) Q E s) (h:P (.done (.ret (.bool (decide (x=y))))) s) :
  wpAny (model prog w) A (Builtin.«tuple.__eq__» ⟨[.ref a,.ref b],[]⟩) P E s:=by
 show wpAny _ _ (isInstance (.ref b) (.type "tuple") >>= _) _ _ s;refine we (wpAny_isInstance ⟨ob,hob,hcb⟩ isSubtype_tuple_tuple ?_);simp only [Bool.not_true,wo,if_false];refine we (wpAny_tupleItemsOf hoa hda ?_);refine we (wpAny_tupleItemsOf hob hdb ?_);refine we ?_
 refine wpAny_forIn_list _
  (λrest r s'=>r.1=none/\s'=s/\∃ x' y' xs' ys',rest=List.zip xs' ys'/\All2 R x' xs'/\All2 R y' ys'/\decide (x'=y')=decide (x=y)/\(xs'.length==ys'.length)=(xs.size==ys.size)/\∀ p∈List.zip x' y',p∈List.zip x y)
  _ ?_ ?_ _ _ ⟨rfl,rfl,x,y,xs.toList,ys.toList,rfl,hia,hib,rfl,by simp,λp hp=>hp⟩
 ·rintro ⟨u,v⟩ rest r s' ⟨hr,rfl,x',y',xs',ys',hz,hx',hy',hdec,hlen,hsub⟩;cases hx' with
  | nil=>simp at hz
  | @cons k1 u' x'' xs'' h1 hx'' =>
   cases hy' with
   | nil=>simp at hz
   | @cons k2 v' y'' ys'' h2 hy'' =>
    simp only [List.zip_cons_cons,List.cons.injEq,Prod.mk.injEq] at hz;obtain ⟨⟨rfl,rfl⟩,rfl⟩:=hz;refine we (hR (k1,k2) (hsub _ (by simp)) _ _ h1 h2 _ ?_)
    by_cases hk:k1=k2
    ·subst hk;rw [decide_eq_true rfl];simp only [Bool.not_true,wo,if_false];refine wm ⟨rfl,rfl,x'',y'',xs'',ys'',rfl,hx'',hy'',?_,by simpa using hlen,λp hp=>hsub p (by simp [hp])⟩;rw [<-hdec]
     by_cases hxy:x''=y''
     ·simp [hxy]
     ·simp [hxy]
    ·rw [vk hk];simp only [Bool.not_false,if_true];have hf:decide (x=y)=false:=by rw [<-hdec];simp [hk]
     rw [hf] at h;exact we (wm (wm (wm h)))
 ·rintro ⟨r1,r2⟩ s' ⟨hr,rfl,x',y',xs',ys',hz,hx',hy',hdec,hlen,_⟩;simp only at hr;subst hr;refine wm ?_
  have hfin:(xs.size==ys.size)=decide (x=y):=by
   rw [<-hdec,<-hlen];cases hx' with
   | nil =>
    cases hy' with
    | nil=>simp
    | cons _ _=>simp
   | cons _ _ =>
    cases hy' with
    | nil=>simp
    | cons _ _=>simp at hz
  show P (.done (.ret (.bool (xs.size==ys.size)))) s';rw [hfin];exact h
theorem zcv [DecidableEq α] {x y:List α} {oa ob:Obj} {xs ys:Array Value} {na nb:Nat} {Q:Bool->Shared->Prop} (hu:A.units<cLine) (hoa:s.heap.get? a=some oa) (hca:oa.cls=.type "tuple") (hda:oa.data=.seq xs na) (hia:All2 R x xs.toList) (hob:s.heap.get? b=some ob) (hcb:ob.cls=.type "tuple") (hdb:ob.data=.seq ys nb) (hib:All2 R y ys.toList) (hinj:a=b->x=y)
  (hR:∀ p∈List.zip x y,∀ u v,R p.1 u->R p.2 v->∀ (E:Value->Shared->Prop) (Q:Bool->Shared->Prop),Q (decide (p.1=p.2)) s->wpAny (model prog w) A.in1 (eqBool u v) Q E s) (h:Q (decide (x=y)) s):wpAny (model prog w) A (eqBool (.ref a) (.ref b)) Q E s:=by
 unfold eqBool
 try with_reducible refine wpAny_holding ?_
 show wpAny _ _ (if (Value.ref a==Value.ref b)=true then _ else _) Q E s
 by_cases hab:(Value.ref a==Value.ref b)=true
 ·rw [if_pos hab];have e:a=b:=by have:=eq_of_beq hab;injection this
  rw [decide_eq_true (hinj e)] at h;exact we (wpAny_rule (wm h))
 ·rw [if_neg hab]
  exact we (wpAny_richCompare_same_room (op:=.Eq) ⟨oa,hoa,hca⟩ ⟨ob,hob,hcb⟩ F.slot_tuple_eq
   (wW F.slot_tuple_eq ⟨oa,hoa,hca⟩ F.entry_tuple_eq (jcR hoa hda hia hob hcb hdb hib (λp hp u v h1 h2 Q q=>hR p hp u v h1 h2 _ Q q) ⟨_,rfl,(λe=>nomatch e),wpAny_truthy_bool h⟩) (F.args_tuple_eq_2 _ _)) hu)
theorem q8 {o:Obj} {items:Array Value} {n m:Nat} {Q:Bool->Shared->Prop} (ho:s.heap.get? a=some o) (hc:o.cls=.type "tuple") (hd:o.data=.seq items n)
  (hR:∀ v∈items.toList,∀ Q:Bool->Shared->Prop,Q true s->wpAny (model prog w) A (eqIsQuiet m v) Q E s) (h:Q true s):wpAny (model prog w) A (eqIsQuiet (m+1) (.ref a)) Q E s:=by
 have hT:s.TypeIs (.ref a) "tuple":=⟨o,ho,hc⟩;unfold eqIsQuiet;refine we (wpAny_specialOf hT F.slot_tuple_eq.lookup ?_);show wpAny _ _ (isInstance (.ref a) (.type "tuple") >>= _) _ _ s;refine we (wpAny_isInstance hT isSubtype_tuple_tuple ?_);simp only [Bool.not_true,wo,if_false];refine we (wpAny_seqItems ho hd ?_);refine we ?_;show wpAny _ _ (forIn items _ _) _ _ s;rw [<-Array.forIn_toList];refine wpAny_forIn_list _ (λrest r s'=>r.1=none/\s'=s/\∀ v∈rest,v∈items.toList) _ ?_ ?_ _ _ ⟨rfl,rfl,λv hv=>hv⟩
 ·rintro v rest r s' ⟨hr,rfl,hall⟩;refine we (hR v (hall v wN) _ ?_);simp only [Bool.not_true,wo,if_false];exact wm ⟨rfl,rfl,λu hu'=>hall u (wI _ hu')⟩
 ·rintro ⟨r1,r2⟩ s' ⟨hr,rfl,_⟩;simp only at hr;subst hr;exact wm h
end
section
variable {prog:Program} {w:World} {A:Around} {E:Value->Shared->Prop} {s:Shared}
def RTI (prog:Program) (w:World) (h:Heap) (ns:List Int) (v:Value):Prop:=∃ b,v=.ref b/\IsTupleKey (intKind prog w) h ns b
def TT (prog:Program) (w:World) (h:Heap) (L:List (List Int)) (a:Addr):Prop:=∃ o items n,h.get? a=some o/\o.cls=.type "tuple"/\o.data=.seq items n/\All2 (RTI prog w h) L items.toList
theorem All2.inj {α:Type} {R:α->Value->Prop} (hR:∀ x y v,R x v->R y v->x=y):∀ {x y:List α} {vs:List Value},All2 R x vs->All2 R y vs->x=y
 | _,_,_,.nil,h=>by cases h;rfl
 | _,_,_,.cons h1 t1,h=>by
  cases h with
  | cons h2 t2=>rw [hR _ _ _ h1 h2,All2.inj hR t1 t2]
theorem All2.imp {α:Type} {R R':α->Value->Prop} (hR:∀ x v,R x v->R' x v):∀ {x:List α} {vs:List Value},All2 R x vs->All2 R' x vs
 | _,_,.nil=>.nil
 | _,_,.cons h t=>.cons (hR _ _ h) (All2.imp hR t)
theorem RTI.inj {h:Heap} {x y:List Int} {v:Value} (h1:RTI prog w h x v) (h2:RTI prog w h y v):x=y:=by
 obtain ⟨b,rfl,k1⟩:=h1;obtain ⟨b',e,k2⟩:=h2;cases e;exact k1.inj k2
theorem TT.inj {h:Heap} {x y:List (List Int)} {a:Addr} (h1:TT prog w h x a) (h2:TT prog w h y a):x=y:=by
 obtain ⟨o,items,n,ho,_,hd,hi⟩:=h1;obtain ⟨o',items',n',ho',_,hd',hi'⟩:=h2;obtain rfl:o=o':=wB (ho.symm.trans ho');rw [hd] at hd';injection hd' with h1 _
 subst h1;exact All2.inj (R:=RTI prog w h) (λ_ _ _ a b=>RTI.inj a b) hi hi'
theorem RTI.keeps {h h':Heap} {ns:List Int} {v:Value} {d:Addr} {o:Obj} {es:Array DictEntry} {ep:Nat} (x:RTI prog w h ns v) (ho:h.get? d=some o) (hd:o.data=.dict es ep) (hs:Heap.SameBut d h h'):RTI prog w h' ns v:=let ⟨b,e,k⟩:=x;⟨b,e,k.keeps ho hd hs⟩
theorem TT.keeps {h h':Heap} {L:List (List Int)} {a d:Addr} {o:Obj} {es:Array DictEntry} {ep:Nat} (x:TT prog w h L a) (ho:h.get? d=some o) (hd:o.data=.dict es ep) (hs:Heap.SameBut d h h'):TT prog w h' L a:=by
 obtain ⟨o',items,n,ho',hc,hd',hi⟩:=x
 have hne:a≠d:=by
  rintro rfl;obtain rfl:o'=o:=wB (ho'.symm.trans ho);rw [hd] at hd';exact nomatch hd'
 exact ⟨o',items,n,(hs.2 a hne).trans ho',hc,hd',hi.imp λ_ _ z=>z.keeps ho hd hs⟩
theorem TT.hash {L:List (List Int)} {a:Addr} {Q:Int->Shared->Prop} (hu:A.units+1<cLine) (hk:TT prog w s.heap L a) (h:Q (reduceHash (Builtin.Tuple.tupleHashOf (L.map (tupleKeyHash (intKind prog w))))) { s with toks:=s.toks+((L.map λns=>ns.length+1).sum+1) }):wpAny (model prog w) A (pyHash (.ref a)) Q E s:=by
 obtain ⟨o,items,n,ho,hc,hd,hi⟩:=hk;refine ya5 (dr:=λns=>ns.length+1) (by omega) ho hc hd hi (λns v ⟨b,e,k⟩ tk Q q=>?_) h;subst e;exact wpAny_pyHash_tuple (s:={ s with toks:=tk }) (show A.in1.units<cLine from hu) k q
theorem TT.eq {x y:List (List Int)} {a b:Addr} {Q:Bool->Shared->Prop} (hu:A.units+1<cLine) (hx:TT prog w s.heap x a) (hy:TT prog w s.heap y b) (h:Q (decide (x=y)) s):wpAny (model prog w) A (eqBool (.ref a) (.ref b)) Q E s:=by
 have hinj:a=b->x=y:=λe=>by subst e;exact hx.inj hy
 obtain ⟨o,items,n,ho,hc,hd,hi⟩:=hx;obtain ⟨o',items',n',ho',hc',hd',hi'⟩:=hy;refine zcv (by omega) ho hc hd hi ho' hc' hd' hi' hinj (λp _ u v ⟨b1,e1,k1⟩ ⟨b2,e2,k2⟩ E Q q=>?_) h;subst e1;subst e2
 exact wpAny_eqBool_tuple (show A.in1.units<cLine from hu) k1 k2 q
theorem ja5 {ns:List Int} {a:Addr} {m:Nat} {Q:Bool->Shared->Prop} (hk:IsTupleKey (intKind prog w) s.heap ns a) (h:Q true s):wpAny (model prog w) A (eqIsQuiet (m+1) (.ref a)) Q E s:=by
 obtain ⟨o,items,n,ho,hc,hd,hi⟩:=hk;refine q8 ho hc hd (λv hv Q q=>?_) h;rw [eqIsQuiet_byValue _ (hi.byValue v hv)];exact wm q
theorem All2.mem {α:Type} {R:α->Value->Prop}:∀ {ks:List α} {vs:List Value},All2 R ks vs->∀ v∈vs,∃ k,R k v
 | _,_,.nil,v,h=>by cases h
 | _,_,.cons h t,v,hv=>by
  rcases wu.mp hv with e | e
  ·exact ⟨_,e▸h⟩
  ·exact All2.mem t v e
theorem ycd {L:List (List Int)} {a:Addr} {m:Nat} {Q:Bool->Shared->Prop} (hk:TT prog w s.heap L a) (h:Q true s):wpAny (model prog w) A (eqIsQuiet (m+2) (.ref a)) Q E s:=by
 obtain ⟨o,items,n,ho,hc,hd,hi⟩:=hk;refine q8 (m:=m+1) ho hc hd (λv hv Q q=>?_) h;obtain ⟨ns,b,rfl,k⟩:=hi.mem v hv;exact ja5 k q
noncomputable abbrev zbm:=List Int×List (List Int)
inductive PT where
 | rows (ns:List Int) | left (L:List (List Int))
deriving DecidableEq
def RPT (prog:Program) (w:World) (h:Heap):PT->Value->Prop
 | .rows ns,v=>RTI prog w h ns v
 | .left L,v=>∃ b,v=.ref b/\TT prog w h L b
def PK (prog:Program) (w:World) (h:Heap) (k:zbm) (a:Addr):Prop:=∃ o items n,h.get? a=some o/\o.cls=.type "tuple"/\o.data=.seq items n/\All2 (RPT prog w h) [.rows k.1,.left k.2] items.toList
noncomputable def qdE (prog:Program) (w:World):PT->Int
 | .rows ns=>tupleKeyHash (intKind prog w) ns
 | .left L=>reduceHash (Builtin.Tuple.tupleHashOf (L.map (tupleKeyHash (intKind prog w))))
noncomputable def zeg:PT->Nat
 | .rows ns=>ns.length+1
 | .left L=>(L.map λns=>ns.length+1).sum+1
theorem PK.inj {h:Heap} {x y:zbm} {a:Addr} (h1:PK prog w h x a) (h2:PK prog w h y a):x=y:=by
 obtain ⟨o,items,n,ho,_,hd,hi⟩:=h1;obtain ⟨o',items',n',ho',_,hd',hi'⟩:=h2;obtain rfl:o=o':=wB (ho.symm.trans ho');rw [hd] at hd';injection hd' with h1 _
 subst h1;obtain ⟨x1,x2⟩:=x;obtain ⟨y1,y2⟩:=y;generalize items.toList=l at hi hi';cases hi with
 | cons a1 t1 =>
  cases hi' with
  | cons a2 t2 =>
   cases t1 with
   | cons b1 _ =>
    cases t2 with
    | cons b2 _ =>
     obtain ⟨b,rfl,k1⟩:=b1;obtain ⟨b',e,k2⟩:=b2;cases e;exact Prod.ext (RTI.inj a1 a2) (k1.inj k2)
theorem PK.keeps {h h':Heap} {k:zbm} {a d:Addr} {o:Obj} {es:Array DictEntry} {ep:Nat} (x:PK prog w h k a) (ho:h.get? d=some o) (hd:o.data=.dict es ep) (hs:Heap.SameBut d h h'):PK prog w h' k a:=by
 obtain ⟨o',items,n,ho',hc,hd',hi⟩:=x
 have hne:a≠d:=by
  rintro rfl;obtain rfl:o'=o:=wB (ho'.symm.trans ho);rw [hd] at hd';exact nomatch hd'
 refine ⟨o',items,n,(hs.2 a hne).trans ho',hc,hd',hi.imp λp v z=>?_⟩;cases p with
 | rows ns=>exact RTI.keeps z ho hd hs
 | left L=>exact let ⟨b,e,k⟩:=z;⟨b,e,k.keeps ho hd hs⟩
noncomputable def jaS (prog:Program) (w:World):HeapKind prog w zbm where
 is:=PK prog w
 hash:=λk=>reduceHash (Builtin.Tuple.tupleHashOf [tupleKeyHash (intKind prog w) k.1,reduceHash (Builtin.Tuple.tupleHashOf (k.2.map (tupleKeyHash (intKind prog w))))])
 draws:=λk=>((([.rows k.1,.left k.2]:List PT).map zeg).sum+1)
 room:=λA=>A.units+2<cLine
 inj:=λhx hy=>hx.inj hy
 keeps:=λx ho hd hs=>x.keeps ho hd hs
 pyHash:=λ{A E s k a Q} hu hk h=>by
  obtain ⟨o,items,n,ho,hc,hd,hi⟩:=hk
  refine ya5 (hsh:=qdE prog w) (dr:=zeg) (by omega) ho hc hd hi (λp v z tk Q q=>?_) h
  cases p with
  | rows ns =>
   obtain ⟨b,rfl,k⟩:=z
   exact wpAny_pyHash_tuple (s:={ s with toks:=tk }) (show A.units+1<cLine by omega) k q
  | left L =>
   obtain ⟨b,rfl,k⟩:=z
   exact TT.hash (s:={ s with toks:=tk }) (show A.units+1+1<cLine from hu) k q
 eqBool:=λ{A E s x y a b Q} hu hx hy h=>by
  have hinj:a=b->([.rows x.1,.left x.2]:List PT)=[.rows y.1,.left y.2]:=λe=>by subst e;rw [hx.inj hy]
  obtain ⟨o,items,n,ho,hc,hd,hi⟩:=hx
  obtain ⟨o',items',n',ho',hc',hd',hi'⟩:=hy
  have e:decide (([.rows x.1,.left x.2]:List PT)=[.rows y.1,.left y.2])=decide (x=y):=by
   rw [decide_eq_decide]
   obtain ⟨x1,x2⟩:=x
   obtain ⟨y1,y2⟩:=y
   simp
  refine zcv (by omega) ho hc hd hi ho' hc' hd' hi' hinj (λp hp u v z1 z2 E Q q=>?_) (by rw [e];exact h)
  rcases wu.mp hp with rfl | hp
  ·obtain ⟨b1,rfl,k1⟩:=z1
   obtain ⟨b2,rfl,k2⟩:=z2
   refine wpAny_eqBool_tuple (show A.units+1<cLine by omega) k1 k2 ?_
   have e2:decide ((PT.rows x.1)=PT.rows y.1)=decide (x.1=y.1):=by rw [decide_eq_decide];simp
   rw [<-e2];exact q
  ·rcases wu.mp hp with rfl | hp
   ·obtain ⟨b1,rfl,k1⟩:=z1
    obtain ⟨b2,rfl,k2⟩:=z2
    refine TT.eq (show A.units+1+1<cLine from hu) k1 k2 ?_
    have e2:decide ((PT.left x.2)=PT.left y.2)=decide (x.2=y.2):=by rw [decide_eq_decide];simp
    rw [<-e2];exact q
   ·cases hp
 quiet:=λ{A E s k a Q} hk h=>by
  obtain ⟨o,items,n,ho,hc,hd,hi⟩:=hk
  refine q8 (m:=7) ho hc hd (λv hv Q q=>?_) h
  obtain ⟨p,z⟩:=hi.mem v hv
  cases p with
  | rows ns=>obtain ⟨b,rfl,k⟩:=z;exact ja5 (m:=6) k q
  | left L=>obtain ⟨b,rfl,k⟩:=z;exact ycd (m:=5) k q
end
end Eng
end
section
namespace Eng
open PySem
open PySem.AutoSeq1 (wpAny_loadPart')
open PySem.MeetsSeq PySem.MeetsSeq2 PySem.MeetsSeq3 PySem.SeqRoads2 PySem.SeqAt
theorem yas (l:Addr) (items:Array Value) (n:Nat) (dd:Option Addr) (sl:Array (Option Value)) (x:Value) (e:Value->Bool) (j:Nat) (hj:j<items.size) (hit:e items[j]=true) (hno:∀ m (hm:m<items.size),m<j->e items[m]=false) :
  Meets (Builtin.«tuple.index» ⟨[.ref l,x],[]⟩)
   (λA R s=>s.heap.get? l=some { cls:=.type "tuple",dict:=dd,data:=.seq items n,slots:=sl }/\(∀ y,y∈items->EqAt A.in1 s y x (e y))/\R (.ok (.ret (.int j s.toks))) { s with toks:=s.toks+1 }) :=
 .of_wp λprog w A R s h=>by
  obtain ⟨hp,g,d,tk,os⟩:=s;obtain ⟨hl,he,h⟩:=h
  wp_walk using wpAny_loadPart' hl
  show wpAny (model prog w) A.in1 (forIn [:min items.size items.size] ((none,()):Option PySem.Fin×Unit) λ(i:Nat) __s=>match items[i]? with
   | some y => do
    let __do_lift <-eqBool y x
    if __do_lift = true then do
     let __do_lift <-retInt (i:Int)
     pure (ForInStep.done (some __do_lift,()))
    else pure (ForInStep.yield (none,()))
   | x=>pure (ForInStep.yield (none,()))) _ _ _
  rw [Std.Legacy.Range.forIn_eq_forIn_range'];simp only [Std.Legacy.Range.size,Nat.sub_zero,Nat.add_sub_cancel,Nat.div_one,Nat.min_self];refine wpAny_forIn_list _ (λrest b s'=>s'=⟨hp,g,d,tk,os⟩/\b.1=none/\∃ i,i<=j/\rest=List.range' i (items.size-i)) _ ?_ ?_ _ _ ⟨rfl,rfl,0,Nat.zero_le _,by simp⟩
  ·rintro y rest b s' ⟨rfl,hb,i,hi,hrest⟩;have hlt:i<items.size:=by omega
   rw [show items.size-i=(items.size-(i+1))+1 by omega,List.range'_succ] at hrest;injection hrest with e1 e2
   subst e1;have hy:items[y]?=some items[y]:=by simp [hlt]
   rw [hy];refine we (he items[y] (Array.getElem_mem hlt) prog w _ _ ?_)
   by_cases ej:y=j
   ·subst ej;rw [hit]
    wp_walk
    exact ⟨_,rfl,h⟩
   ·rw [hno y hlt (by omega)]
    wp_walk
    exact ⟨rfl,rfl,y+1,by omega,e2⟩
  ·rintro b s' ⟨rfl,hb,i,hi,hrest⟩
   have:=congrArg List.length hrest
   simp at this;omega
end Eng
end
section
namespace Eng
open PySem PySem.Spec PyProof.Rows L2
variable [Tb]
theorem len_sub {α:Type} [DecidableEq α]:∀ {l m:List α},l.Nodup->(∀ x∈l,x∈m)->l.length<=m.length
 | [],_,_,_=>Nat.zero_le _
 | a::l,m,n,h=>by
  rw [List.nodup_cons] at n;have ha:=h a wN
  have:=len_sub (l:=l) (m:=m.erase a) n.2 λx hx=>(List.mem_erase_of_ne (λz:x=a=>n.1 (z▸hx))).mpr (h x (wI _ hx))
  rw [List.length_erase_of_mem ha] at this
  have:=List.length_pos_of_mem ha
  rw [List.length_cons];omega
theorem za6 {H:Hp} {a:Addr} {o:HO} (h:H a=some o):upd H a o=H:=by
 funext b;unfold upd;split
 ·rename_i e;rw [e,h]
 ·rfl
section
variable {X:Cx} {pins:List (Addr×Obj)} {σ:L2.St} {H:Hp} {s:Shared}
theorem j8:∀ {ls:List Addr} {us:List Value},Vals (ls.map V.ref) us->us=ls.map Value.ref
 | [],_,r=>by cases r;rfl
 | _::_,_,r=>by
  cases r with
  | cons a b=>cases a;rw [j8 b];rfl
theorem zbE (I:L2.Inv X pins σ H s):∀ {ls:List Addr} {L:List (List Int)},Paired (λ(a:Addr) (ns:List Int)=>H a=some (.tup (ns.map V.int))) ls L->All2 (RTI X.prog X.w s.heap) L (ls.map Value.ref)
 | _,_,.nil=>.nil
 | _,_,.cons h t=>.cons ⟨_,rfl,qa5 I h⟩ (zbE I t)
theorem qbE {k:zbm} {b:Addr} (I:L2.Inv X pins σ H s) (h:KeyM H k b):PK X.prog X.w s.heap k b:=by
 obtain ⟨r,l,ls,h1,h2,h3,h4⟩:=h;obtain ⟨_,its,rv,ob,e,hc,hd,n,dt⟩:=I.hok b _ h1;obtain ⟨_,its2,rv2,ob2,e2,hc2,hd2,n2,dt2⟩:=I.hok l _ h3;have ei:its=[.ref r,.ref l]:=j8 (ls:=[r,l]) rv;have ei2:=j8 rv2;subst ei;subst ei2
 exact ⟨ob,_,n,e,hc,dt,.cons ⟨r,rfl,qa5 I h2⟩ (.cons ⟨l,rfl,ob2,_,n2,e2,hc2,dt2,by simpa using zbE I h4⟩ .nil)⟩
noncomputable def conM (x:zbm×Addr):zbm×Addr×Value:=(x.1,x.2,.bool true)
theorem qa6 (xs:List (zbm×Addr)):xs.map ydS=(xs.map conM).map (entryOfKey (jaS X.prog X.w)):=by rw [wJ];rfl
theorem ydE {a:Addr} {m:MemP} (I:L2.Inv X pins σ H s) (h:H a=some (.mm m)):(a==sysModules)=false/\∃ xs:List (zbm×Addr),(∀ x∈xs,m.p x.1.1 x.1.2=true/\KeyM H x.1 x.2)/\(xs.map (·.1)).Nodup/\xs.length<=sizeLine/\s.heap.DictOfH (jaS X.prog X.w) a (xs.map conM):=by
 obtain ⟨y,xs,q,n,ep,e⟩:=I.hok a _ h;refine ⟨y,xs,q,n,?_,_,_,ep,e,⟨rfl,rfl,rfl⟩,rfl,by rw [List.toList_toArray];exact qa6 xs,λx hx=>?_,by rw [wJ];exact n⟩
 ·have:=len_sub n (m:=m.U) λx hx=>by
   obtain ⟨z,hz,rfl⟩:=wH.mp hx;exact m.hU _ _ (q z hz).1
  rw [wD] at this;exact wQ this m.hl
 ·obtain ⟨z,hz,rfl⟩:=wH.mp hx;exact qbE I (q z hz).2
theorem zcS {xs:List (zbm×Addr)} {k:zbm}:(atKey (xs.map conM) k).isSome=true->∃ x∈xs,x.1=k:=λh=>by
 unfold atKey at h;rw [Option.isSome_map] at h;obtain ⟨z,hz⟩:=w9.mp h;obtain ⟨x,hx,rfl⟩:=wH.mp (List.mem_of_find?_eq_some hz);have z:=List.find?_some hz;exact ⟨x,hx,vg z⟩
def rInM:R2:=λx y H Q=>∃ b a m k,x=.ref b/\y=.ref a/\H a=some (.mm m)/\KeyM H k b/\∀ v:Bool,(v=true->m.p k.1 k.2=true)->Q (.bl v) H
theorem jdE (hu:X.A.units+64<cLine):OpR X (compareOp .In) rInM:=by
 intro pins s σ H x y v u Q I rx ry ⟨b,a,m,k,e1,e2,hm,hk,q⟩;subst e1;subst e2
 cases rx;cases ry
 obtain ⟨hy,xs,hq,_,_,hd⟩:=ydE I hm;refine wpAny_in_heap (show X.A.units+1+2<cLine by omega) (qbE I hk) hy hd ⟨.bl _,H,I.tok _,rfl,q _ λz=>?_⟩;obtain ⟨x,hx,rfl⟩:=zcS z;exact (hq x hx).1
def rSetM:V->V->V->Hp->(Hp->Prop)->Prop:=λo i v H Q=>∃ a b m k,o=.ref a/\i=.ref b/\v=.bl true/\H a=some (.mm m)/\KeyM H k b/\m.p k.1 k.2=true/\Q H
theorem qcS (hu:X.A.units+64<cLine):jdS X rSetM:=by
 intro pins s σ H o i v ov iv u Q I ro ri rv ⟨a,b,m,k,e1,e2,e3,hm,hk,hp,q⟩;subst e1;subst e2;subst e3
 cases ro;cases ri;cases rv
 obtain ⟨hy,xs,hq,hn,hz,hd⟩:=ydE I hm;refine wpAny_setItem_heap (show X.A.units+1+2<cLine by omega) (qbE I hk) hd (λh' hd' sb=>?_) (by rw [wD];exact hz);obtain ⟨o',es,ep,e,⟨c1,c2,c3⟩,dt,he,_,hn'⟩:=hd'
 have new:∃ ys:List (zbm×Addr),(∀ x∈ys,m.p x.1.1 x.1.2=true/\KeyM H x.1 x.2)/\storedH (xs.map conM) k b (.bool true)=ys.map conM:=by
  cases z:atKey (xs.map conM) k with
  | some p =>
   refine ⟨xs,hq,?_⟩;rw [storedH_old z,wJ];refine vh λx _=>?_
   show putAt k (.bool true) (conM x)=conM x;unfold putAt conM;split<;>rfl
  | none =>
   refine ⟨xs++[(k,b)],λx hx=>?_,by rw [storedH_new z,List.map_append];rfl⟩;rcases List.mem_append.mp hx with hx | hx
   ·exact hq x hx
   ·have:x=(k,b):=by simpa using hx
    subst this;exact ⟨hp,hk⟩
 obtain ⟨ys,hy1,hy2⟩:=new;rw [hy2] at he hn'
 have ho:h'.get? a=some { cls:=.type "dict",data:=.dict (ys.map ydS).toArray ep }:=by
  rw [e];obtain ⟨cl,di,da,sl⟩:=o';simp only at c1 c2 c3 dt;subst c1;subst c2;subst c3;subst dt
  have:es=(ys.map ydS).toArray:=by
   rw [qa6 (X:=X),<-he]
  rw [this]
 have I' := I.write (x := a) (e := a) (o := .mm m) (t' := s.toks + (jaS X.prog X.w).draws k) (h' := h') (by rw [hm]; exact trivial) (.inl rfl) (λc u hc e => (sb.2 c hc).trans e) ⟨_, ho⟩
  ⟨hy,ys,λx hx=>⟨(hy1 x hx).1,by rw [za6 hm];exact (hy1 x hx).2⟩,by rw [wJ] at hn';exact hn',ep,ho⟩
 rw [za6 hm] at I';exact ⟨H,I',q⟩
theorem ycS (m:MemP) {pos:Pos}:PE X (.Dict [] [] pos) (λ_ H Q=>∀ p,H p=none->(p==sysModules)=false->Q (.ref p) (upd H p (.mm m))):=λpins s σ H Q I h =>
 have hy:=wY.mpr (Nat.ne_of_gt (jcu I))
 wpAny_Dict_empty ⟨.ref s.heap.objs.size,_,I.laid (a:=s.heap.objs.size) (o:=.mm m) (t':=s.toks) (λ_ _ q=>wj _ q) (wC _) ⟨hy,[],λx hx=>(List.not_mem_nil hx).elim,List.nodup_nil,0,wt _ rfl⟩,rfl,
  h _ (I.hok.fresh (wC _)) hy⟩
end
section
variable {K:Frag} {B:Addr->Prop} {H:Hp}
theorem Reps.set:∀ {vs:List V} {ds:List D} {v:V} {d:D} (j:Nat),Reps K B H vs ds->Rep K B H v d->Reps K B H (vs.set j v) (ds.set j d)
 | _,_,_,_,_,.nil,_=>.nil
 | _,_,_,_,0,.cons _ r,x=>.cons x r
 | _,_,_,_,j+1,.cons a r,x=>.cons a (Reps.set j r x)
theorem Reps.tups:∀ {vs:List V} {ds:List D} {L:List (List Int)},Reps K B H vs ds->yM ds=some L->∃ ls:List Addr,vs=ls.map V.ref/\Paired (λ(a:Addr) (ns:List Int)=>H a=some (.tup (ns.map V.int))) ls L
 | _,_,_,.nil,e=>by cases e;exact ⟨[],rfl,.nil⟩
 | _,_,_,.cons (d:=d) a r,e=>by
  cases d with
  | tup xs =>
   obtain ⟨ns,e1,e⟩:=wa (show (intsOf xs).bind _=some _ from e);obtain ⟨L,e2,rfl⟩:=wb e;obtain ⟨ls,rfl,p⟩:=Reps.tups r e2;obtain ⟨b,bs,rfl,hb,rb⟩:=a.tupD;have eb:=rb.ints e1;subst eb;exact ⟨b::ls,rfl,.cons hb p⟩
  | _=>cases e
theorem qcv {b:Addr} {r l:V} {x y:D} {k:List Int×List (List Int)} (h:H b=some (.tup [r,l])) (rx:Rep K B H r x) (ry:Rep K B H l y) (e:jdd x y=some k):KeyM H k b:=by
 cases x with
 | tup xs =>
  cases y with
  | tup ys =>
   obtain ⟨ns,e1,e⟩:=wa (show (intsOf xs).bind _=some k from e);obtain ⟨L,e2,rfl⟩:=wb e;obtain ⟨a,as,rfl,ha,ra⟩:=rx.tupD;obtain ⟨c,cs,rfl,hc,rc⟩:=ry.tupD;have ea:=ra.ints e1;subst ea;obtain ⟨ls,rfl,p⟩:=rc.tups e2;exact ⟨a,c,ls,h,ha,hc,p⟩
  | _=>cases e
 | _=>cases e
end
section
variable {X:Cx} {C:Tab}
theorem ya6 {K:Frag} {B O:Addr->Prop} {H0 H:Hp} {σ:L2.St} {ρ:List Sl} {i:Nat} {m:MemP} (F:FR K B H0 O σ H ρ) (h:zdc ρ i=some m):∃ a,σ[i]?=some (some (.ref a))/\H a=some (.mm m):=by
 unfold zdc at h;split at h
 ·rename_i p hp;cases h;obtain ⟨v,q,r⟩:=F.pu i _ hp;cases r with
  | mem e=>exact ⟨_,q,e⟩
 ·cases h
theorem ycv {ea eb:Expr} {ca cb:Code} {kt:Nat} {tp:Pos} {ρ:En} {dx dy:D} (ha:SE X C ea ca) (hb:SE X C eb cb) (sa:starEach [ea,eb] X.env=(false,eval ea X.env)::starEach [eb] X.env) (sb:starEach [eb] X.env=[(false,eval eb X.env)]) (ex:ev C ca ρ=some dx) (ey:ev C cb ρ=some dy) (B:Addr->Prop):PE X (.Tuple [ea,eb] kt tp) (tD X.K B ρ (.tup [dx,dy])) :=
 jct (zi ha (zi hb yn sb) sa) B ρ _ (by
  show (evs C (.cons ca (.cons cb .nil)) ρ).bind _=_;rw [evs,ex,wd,evs,ey];show (if [dx,dy].length<=sizeLine then some (D.tup [dx,dy]) else none)=_;exact if_pos (show 2<=sizeLine by rw [sizeLine_eq];decide))
theorem jcS {i:Nat} {x:Str} {ea eb:Expr} {ca cb:Code} {kt kf:Nat} {tp px cp rp fp ip:Pos} {sts:List Stmt} {r:Stms} (hu:X.A.units+64<cLine) (hN:X.N[i]?=some x) (hv:Vis X.env.scope x) (hd:(x==("__debug__":Str))=false) (hcd:(x==("__classdict__":Str))=false)
  (ha:SE X C ea ca) (hb:SE X C eb cb) (sa:starEach [ea,eb] X.env=(false,eval ea X.env)::starEach [eb] X.env) (sb:starEach [eb] X.env=[(false,eval eb X.env)]) (h:SSs X C sts r) :
  SSs X C (.If (.Compare (.Tuple [ea,eb] kt tp) [.In] [.Name x px] cp) [.Return (some (.Constant (.bool false) kf fp)) rp] [] ip::sts) (.mgd i ca cb r):=λB H0 O ρ f he=>by
 obtain ⟨dx,ex,he⟩:=wa (show (ev C ca (vP ρ)).bind _=some f from he);obtain ⟨dy,ey,he⟩:=wa he;obtain ⟨k,hk,he⟩:=wa he;obtain ⟨m,hm,he⟩:=wa he;obtain ⟨f',hf,he⟩:=wa he
 have ff:f'=f/\(m.p k.1 k.2=true->f=.rt (.bl false)):=by
  cases hp:m.p k.1 k.2 with
  | false=>rw [hp] at he;exact ⟨wB he,λz=>by cases z⟩
  | true =>
   rw [hp,if_pos rfl] at he;split at he
   ·cases he;exact ⟨rfl,λ_=>rfl⟩
   ·cases he
 obtain ⟨rfl,ff⟩:=ff;refine (jM (ydh (qbp (jdE hu) (ycv (kt:=kt) (tp:=tp) ha hb sa sb ex ey (BO B O)) (zD (pos:=px) hN hv hd hcd) rfl) (ycE (ycp jcD)) pss_nil) h.any).imp λD σ H q=>?_
 obtain ⟨a,hσ,hma⟩:=ya6 q.1 hm;refine ⟨q.1.hb,q.1.erP,λv H1 sm rv=>⟨_,hσ,?_⟩⟩;obtain ⟨b,bs,rfl,hb',rb⟩:=rv.tupD;cases rb with
 | cons r1 rb =>
  obtain ⟨l,rfl,r2⟩:=rb.one;refine ⟨b,a,m,k,rfl,rfl,sm _ _ hma,qcv hb' r1 r2 hk,λv hv=>⟨v,rfl,?_⟩⟩;cases v with
  | true =>
   have:=ff (hv rfl)
   subst this;exact qcI (q.2 _ H1 (q.1.same.trans sm) (.bl false))
  | false=>exact zcI ⟨B,H0,O,ρ,f',hf,zy q (Ext.of_same sm) (q.1.grow sm) rfl⟩
theorem jas {o i e:Expr} {p:Pos} {l:Nat} {env:Env}:swapsWithSole [.Subscript o i p] e l env=pure false:=by cases e<;>rfl
theorem zaT {o i e:Expr} {p:Pos} {env:Env}:swappedStores [.Subscript o i p] e env=pure none:=by cases e<;>rfl
theorem jcd {i:Nat} {x:Str} {ea eb:Expr} {ca cb:Code} {kt kf:Nat} {tp px sp fp ip:Pos} {sts:List Stmt} {r:Stms} (hu:X.A.units+64<cLine) (hN:X.N[i]?=some x) (hv:Vis X.env.scope x) (hd:(x==("__debug__":Str))=false) (hcd:(x==("__classdict__":Str))=false)
  (ha:SE X C ea ca) (hb:SE X C eb cb) (sa:starEach [ea,eb] X.env=(false,eval ea X.env)::starEach [eb] X.env) (sb:starEach [eb] X.env=[(false,eval eb X.env)]) (h:SSs X C sts r) :
  SSs X C (.Assign [.Subscript (.Name x px) (.Tuple [ea,eb] kt tp) sp] (.Constant (.bool true) kf fp) ip::sts) (.mput i ca cb r):=λB H0 O ρ f he=>by
 obtain ⟨dx,ex,he⟩:=wa (show (ev C ca (vP ρ)).bind _=some f from he);obtain ⟨dy,ey,he⟩:=wa he;obtain ⟨k,hk,he⟩:=wa he;obtain ⟨m,hm,he⟩:=wa he;split at he
 case isFalse=>cases he
 rename_i hp;refine (jM (qaY jcD (ybn (zD (pos:=px) hN hv hd hcd) (ycv (kt:=kt) (tp:=tp) ha hb sa sb ex ey (BO B O)) (qcS hu)) jas zaT) h.any).imp λD σ H q=>?_
 obtain ⟨a,hσ,hma⟩:=ya6 q.1 hm;refine ⟨_,hσ,q.1.hb,q.1.erP,λv H1 sm rv=>?_⟩;obtain ⟨b,bs,rfl,hb',rb⟩:=rv.tupD;cases rb with
 | cons r1 rb =>
  obtain ⟨l,rfl,r2⟩:=rb.one;exact ⟨a,b,m,k,rfl,rfl,rfl,sm _ _ hma,qcv hb' r1 r2 hk,hp,B,H0,O,ρ,f,he,zy q (Ext.of_same sm) (q.1.grow sm) rfl⟩
theorem zcT {x:Str} {px dp pos:Pos} {i:Nat} {c:Code} {g:D->MemP} (hN:X.N.Nodup) (hy:X.N[i]?=some x) (hl:Loc X.env.scope x) (hf:X.fn x=true\/X.env.scope.names.lookup x=some .local) (hi:i<X.N.length) :
  SS X C (.Assign [.Name x px] (.Dict [] [] dp) pos) (.newm i c g):=λB H0 O ρ r he=>by
 obtain ⟨d,_,he⟩:=wa (show (ev C c (vP ρ)).bind (λd=>some (Fl.nx (ρ.set i (.pu (.mem (g d))))))=some r from he);cases he;intro pins s σ H D I q;refine zaf hN hy hl (ycS (g d)) (yai rfl _ _ _) hf pins s σ H D I λp hp hs=>?_
 have sm:=qa hp (.mm (g d));exact q.2 O _ _ (Ext.of_same sm) ((q.1.grow sm).set (by rw [I.len];exact hi) (.mem ya)) (by simp)
theorem zdF {i:Nat} {x:Str} {px sp pos:Pos} {ek e:Expr} {ck ce:Code} (hN:X.N[i]?=some x) (hv:Vis X.env.scope x) (hd:(x==("__debug__":Str))=false) (hcd:(x==("__classdict__":Str))=false) (hk:SE X C ek ck) (he:SE X C e ce)
  (hp : ∀ v, assign (.Subscript (.Name x px) ek sp) X.env v = (do
   let ov <-holding [v] (eval (.Name x px) X.env)
   let iv <-holding [v,ov] (eval ek X.env)
   standAt sp
   holding [v,ov,iv] (setItem ov iv v)
   release [v,ov,iv] [])):SS X C (.Assign [.Subscript (.Name x px) ek sp] e pos) (.put i ck ce):=λB H0 O ρ r h=>by
 obtain ⟨d,ed,h⟩:=wa (show (ev C ce (vP ρ)).bind (λd=>(ev C ck (vP ρ)).bind λj=>qde i j d ρ)=some r from h);obtain ⟨dj,ej,h⟩:=wa h;unfold qde at h;split at h
 case h_2=>cases h
 rename_i ds j hρ;split at h
 case isFalse=>cases h
 rename_i hj;cases h;refine (qaY (he (BO B O) (vP ρ) d ed) (ybn (zD (pos:=px) hN hv hd hcd) (hk (BO B O) (vP ρ) _ ej) set_list hp) jas zaT).imp λD σ H q=>?_
 obtain ⟨F,q⟩:=q;obtain ⟨a,vs,hσ,o,ha,rs⟩:=F.ow i ds hρ;refine ⟨F.hb,F.erP,λv H1 sm rv=>⟨_,hσ,F.hb.same sm,F.erP.same sm,λw H2 sm2 rw'=>?_⟩⟩;cases rw';have s12:=sm.trans sm2;obtain ⟨F2,x2⟩:=(F.grow s12).write (es:=ds.set j.toNat d) (ws:=vs.set j.toNat v) hρ hσ ((rs.same s12).set j.toNat (rv.same sm2));refine ⟨a,vs,j,j.toNat,rfl,rfl,s12 _ _ ha,?_,q O σ _ ((Ext.of_same s12).trans x2) F2 rfl⟩
 have:=rs.length
 unfold L2.ixN;rw [if_pos hj.1,if_pos (by omega)]
theorem ybE {i:Nat} {x:Str} {px apos cpos spos:Pos} {e:Expr} {c:Code} {m:Mode} (hm:m≠.pu) (hN:X.N[i]?=some x) (hv:Vis X.env.scope x) (hd:(x==("__debug__":Str))=false) (hcd:(x==("__classdict__":Str))=false)
  (he:SE X C e c) (hs:starEach [e] X.env=[(false,eval e X.env)]) (hline:(apos.endLine==cpos.line)=true):SS X C (.Expr (.Call (.Attribute (.Name x px) "extend" apos) [e] [] cpos) spos) (.ext i m c):=λB H0 O ρ r h=>by
 have h':(ev C c (vA ρ)).bind (λd=>if zef d then yco i d ρ else none)=some r:=by
  cases m with
  | pu=>exact absurd rfl hm
  | cl=>exact h
  | ow=>exact h
 obtain ⟨d,ed,h⟩:=wa h';split at h
 case isFalse=>cases h
 rename_i hn;unfold yco at h;split at h
 case h_3=>cases h
 case h_2=>cases hn
 rename_i ds es hρ;split at h
 case isFalse=>cases h
 rename_i hz;cases h;have hpa:PA X [e] (tDs X.K B (vA ρ) [.lst es]):=zi he yn hs _ _ _ (by rw [evs,ed];rfl);refine (jP (ybf F.plainAttrs_list F.slot_list_extend F.type_list_extend zaC (zD (pos:=px) hN hv hd hcd) hpa rfl (by rw [hs];rfl) hline hs rfl)).imp λDn σ H q=>?_
 obtain ⟨F,q⟩:=q;obtain ⟨a,vs,hσ,o,ha,rs⟩:=F.ow i ds hρ;refine ⟨_,hσ,.inl ⟨rfl,_,SqL.of ha⟩,F.hbB,F.erA,λws H1 sm rw'=>?_⟩;obtain ⟨v,rfl,rv⟩:=rw'.one;obtain ⟨b,zs,rfl,nb,hb,rz⟩:=rv.lstD;obtain ⟨F2,x2⟩:=(F.grow sm).write (es:=ds++es) (ws:=vs++zs) hρ hσ ((rs.same sm).append (rz.clean hn));exact ⟨a,b,vs,zs,rfl,rfl,sm _ _ ha,hb,by rw [rs.length,rz.length];exact Nat.le_of_lt hz,q O σ _ ((Ext.of_same sm).trans x2) F2 rfl⟩
end
theorem zbi:∀ S∈subs lowM,S.Nodup:=by decide +kernel
theorem qbi {S:List Nat} {ns ms:List Int} (hS:S∈subs lowM) (hm:∀ x:Nat,x∈S↔(x:Int)∈ns) (h0:∀ n∈ns,0<=n) (p:ms.Perm (S.map Int.ofNat)) (hs:ms.Pairwise (·<=·)):ms=sortI (zan ns):=by
 refine yq (p.trans ((?_:(S.map Int.ofNat).Perm (zan ns)).trans (sortI_perm _).symm)) hs (yv _);refine yY ?_ (jG _) λx=>?_
 ·exact List.Pairwise.map _ (λa b h e=>h (Int.ofNat.inj e)) (zbi S hS)
 ·rw [mem_dedI,wH];constructor
  ·rintro ⟨n,hn,rfl⟩;exact (hm n).mp hn
  ·intro hx
   have:=h0 x hx
   exact ⟨x.toNat,(hm _).mpr (by rw [Int.toNat_of_nonneg this];exact hx),Int.toNat_of_nonneg this⟩
noncomputable def qdc (w:World) (p:Addr) (S:List Nat):HO:=.ext λh=>∃ L,keys L=S/\ybl h p L (!zm w)
section
variable {X:Cx}
def qeg (K:Frag) (w:World):List V->Hp->VK->Prop:=λxs H Q=>∃ t a ns,xs=[.ref a]/\Sq t K H a (ns.map V.int)/\qT ns=true/\∀ p S,H p=none->S∈subs lowM->(∀ x:Nat,x∈S↔(x:Int)∈ns)->Q (.ref p) (upd H p (qdc w p S))
theorem ja6 {ns:List Int} (h:qT ns=true):∀ n∈ns,0<=n/\n<lowM:=λn hn=>by
 have:=List.all_eq_true.mp h n hn
 simpa using this
theorem jbE (hc:X.calm=true):zr X (.type "set") (qeg X.K X.w):=by
 intro pins s σ H xs us Q I rv ⟨t,a,ns,e,sq,sm,q⟩;subst e;obtain ⟨u,rfl,ru⟩:=rv.one;cases ru;obtain ⟨its,rits,p,hz⟩:=I.sseq sq;have sml:=ja6 sm;have hl:=rits.length;rw [wD] at hl
 have val:∀ (i:Nat) (v:Value),its.toArray[i]?=some v->∃ t,v=Value.int (((ns.getD i 0).toNat:Nat):Int) t:=λi v hv=>by
  have hv':its[i]?=some v:=by simpa using hv
  have hi:i<ns.length:=by rw [hl];exact (wq.mp hv').1
  obtain ⟨u,hu,r⟩:=rits.get (i:=i) (x:=V.int ns[i]) (by simp [hi]);rw [hv'] at hu;cases hu
  obtain ⟨tk,rfl⟩:=r;refine ⟨tk,?_⟩;have e1:ns.getD i 0=ns[i]:=by simp [List.getD,hi]
  have:=(sml ns[i] (List.getElem_mem hi)).1
  rw [e1,Int.toNat_of_nonneg this]
 refine zb9 (I.ok.hd hc) p val (λi hi=>?_) λh' tk L hS hm kp=>?_
 ·have hi:i<ns.length:=by rw [hl];simpa using hi
  have e1:ns.getD i 0=ns[i]:=by simp [List.getD,hi]
  have:=sml ns[i] (List.getElem_mem hi)
  rw [e1];omega
 ·refine ⟨.ref s.heap.objs.size,upd H s.heap.objs.size (qdc X.w s.heap.objs.size (keys L)),I.laid (t':=tk) kp (wC _) ⟨⟨L,rfl,hS⟩,?_,?_⟩,rfl,q _ _ I.fresh hS.1 λx=>?_⟩
  ·obtain ⟨_,ep,ho⟩:=hS;exact ⟨_,ho⟩
  ·rintro h1 h2 ⟨L',e,hk,ep,ho⟩ k;exact ⟨L',e,hk,ep,k _ ho⟩
  ·rw [hm x];constructor
   ·rintro ⟨j,hj,e⟩;have hj:j<ns.length:=by rw [hl];simpa using hj
    have e1:ns.getD j 0=ns[j]:=by simp [List.getD,hj]
    have:=(sml ns[j] (List.getElem_mem hj)).1
    rw [<-e,e1,Int.toNat_of_nonneg this];exact List.getElem_mem hj
   ·intro hx;obtain ⟨j,hj,e⟩:=List.mem_iff_getElem.mp hx;have e1:ns.getD j 0=ns[j]:=by simp [List.getD,hj]
    exact ⟨j,by simpa [<-hl] using hj,by rw [e1,e];rfl⟩
theorem zae (hc:X.calm=true):zr X (.builtin "sorted") (λxs H Q=>∃ (p:Addr) (S:List Nat),xs=[.ref p]/\H p=some (qdc X.w p S)/\S∈subs lowM/\∀ (l:Addr) (ms:List Int),H l=none->ms.Perm (S.map Int.ofNat)->ms.Pairwise (·<=·)->Q (.ref l) (upd H l (.lst (ms.map V.int)))):=by
 intro pins s σ H xs us Q I rv ⟨p,S,e,hp,hS,q⟩;subst e;obtain ⟨u,rfl,ru⟩:=rv.one;cases ru;obtain ⟨⟨L,rfl,hC⟩,_,_⟩:=(show ObjOk X.prog X.w H s.heap p (qdc X.w p S) from I.hok p _ hp);refine qbh (I.ok.hd hc) hC λh' tk l out ms ep kp hl ho hi hperm hs=>?_
 have hlen:ms.length<=8:=by rw [hperm.length_eq,wD];exact (z0 hS true).2.1
 exact ⟨.ref l,upd H l (.lst (ms.map V.int)),I.laid (t':=tk) kp hl ⟨by rw [wD,sizeLine_eq];omega,out,ep,qN hi,ho⟩,rfl,q l ms (I.hok.fresh hl) hperm hs⟩
end
theorem zbF:bootBuiltins "set"=some (.type "set"):=by kernel_rfl
theorem jaE:bootBuiltins "sorted"=some (.builtin "sorted"):=by kernel_rfl
theorem qbF:bootBuiltins "len"=some (.builtin "len"):=by kernel_rfl
theorem jQ:bootBuiltins "list"=some (.type "list"):=by kernel_rfl
theorem q9:bootBuiltins "range"=some (.type "range"):=by kernel_rfl
section
variable {X:Cx} {C:Tab} {a:Expr} {ca:Code}
theorem zce {B:Addr->Prop} {H:Hp} {vs:List V} {dx:D} {xs:List D} {ns:List Int} (hb:HB B H) (r:Reps X.K B H vs [dx]) (h1:itemsD dx=some xs) (h2:intsOf xs=some ns):∃ t a,vs=[.ref a]/\Sq t X.K H a (ns.map V.int):=by
 obtain ⟨v,rfl,rv⟩:=r.one;obtain ⟨t,l,ws,rfl,sq,_,rws⟩:=rv.srcT hb h1;exact ⟨t,l,rfl,by rw [<-rws.ints h2];exact sq⟩
theorem ybF {p2 pos2:Pos} (hc:X.calm=true) (hg:Gl X "set") (hm:X.mg "set"=none) (ha:SE X C a ca) (hs:starEach [a] X.env=[(false,eval a X.env)]) {B:Addr->Prop} {ρ:En} {dx:D} (ed:ev C ca ρ=some dx) :
  PE X (.Call (.Name "set" p2) [a] [] pos2) (tCB (qeg X.K X.w) (tDs X.K B ρ [dx])) :=
 yo (jbE hc) hg hm zbF (zi ha yn hs B ρ [dx] (by rw [evs,ed];rfl)) (by decide) (by decide) hs rfl
theorem qU {p1 p2 pos1 pos2:Pos} (hc:X.calm=true) (hg:Gl X "set") (hm:X.mg "set"=none) (hg2:Gl X "sorted") (hm2:X.mg "sorted"=none) (ha:SE X C a ca) (hs:starEach [a] X.env=[(false,eval a X.env)]) :
  SF X C (.Call (.Name "sorted" p1) [.Call (.Name "set" p2) [a] [] pos2] [] pos1) (.blt .sortedSet (.cons ca .nil)):=λB ρ ds e=>by
 obtain ⟨dxs,exs',e⟩:=wa (show (evs C (.cons ca .nil) ρ).bind (λxs=>yz .sortedSet xs)=some (D.lst ds) from e);obtain ⟨dx,ex,e1⟩:=wa (show (ev C ca ρ).bind _=some dxs from exs');obtain ⟨dr,er',rfl⟩:=wb e1;cases er';obtain ⟨xs,hxs,e⟩:=wa (show (itemsD dx).bind _=some (D.lst ds) from e);obtain ⟨ns,hns,e⟩:=wa e;split at e
 ·rename_i hsm;cases e;refine (yan (zae hc) hg2 hm2 jaE (qD (ybF (p2:=p2) (pos2:=pos2) hc hg hm ha hs ex (B:=B)) jaf) (by decide) (by decide) rfl rfl).imp λσ H Q ⟨hb,er,q⟩=>?_
  refine ⟨hb,er,λvs H1 sm1 r1=>?_⟩;obtain ⟨t,l,rfl,sq⟩:=zce (hb.same sm1) r1 hxs hns;refine ⟨t,l,ns,rfl,sq,hsm,λp S hp hS hm'=>?_⟩;refine ⟨p,S,rfl,ya,hS,λl' ms hl perm hso=>?_⟩;have e1:ms=sortI (zan ns):=qbi hS hm' (λn hn=>(ja6 hsm n hn).1) perm hso;subst e1;have sm2:Same H (upd (upd H1 p (qdc X.w p S)) l' (.lst ((sortI (zan ns)).map V.int))):=(sm1.trans (qa hp _)).trans (qa hl _);have fl:H l'=none:=(sm1.trans (qa hp _)).free hl;exact q _ _ sm2 (.lst (hb.notN fl) ya (Reps.of_ints _)) ⟨l',rfl,fl⟩
 ·cases e
theorem zaF {p1 p2 pos1 pos2:Pos} (hc:X.calm=true) (hg:Gl X "set") (hm:X.mg "set"=none) (hg2:Gl X "sorted") (hm2:X.mg "sorted"=none) (ha:SE X C a ca) (hs:starEach [a] X.env=[(false,eval a X.env)]) :
  SE X C (.Call (.Name "sorted" p1) [.Call (.Name "set" p2) [a] [] pos2] [] pos1) (.blt .sortedSet (.cons ca .nil)):=λB ρ d e=>by
 have:∃ ds,d=.lst ds:=by
  obtain ⟨dxs,exs',e⟩:=wa (show (evs C (.cons ca .nil) ρ).bind (λxs=>yz .sortedSet xs)=some d from e);obtain ⟨dx,ex,e1⟩:=wa (show (ev C ca ρ).bind _=some dxs from exs');obtain ⟨dr,er',rfl⟩:=wb e1;cases er';obtain ⟨xs,hxs,e⟩:=wa (show (itemsD dx).bind _=some d from e);obtain ⟨ns,hns,e⟩:=wa e;split at e
  ·cases e;exact ⟨_,rfl⟩
  ·cases e
 obtain ⟨ds,rfl⟩:=this;exact SF.se (qU hc hg hm hg2 hm2 ha hs) B ρ ds e
def rRng:List V->Hp->VK->Prop:=λxs H Q=>(∃ j:Int,xs=[.int j]/\-(2^62)<=j/\j<2^62/\∀ p,H p=none->Q (.ref p) (upd H p (.rng 0 j))) \/
 (∃ i j:Int,xs=[.int i,.int j]/\(-(2^62)<=i/\i<2^62/\-(2^62)<=j/\j<2^62)/\∀ p,H p=none->Q (.ref p) (upd H p (.rng i j)))
theorem za7:zr X (.type "range") rRng:=by
 intro pins s σ H xs us Q I rv h;rcases h with ⟨j,e,h1,h2,q⟩ | ⟨i,j,e,⟨h1,h2,h3,h4⟩,q⟩
 ·subst e;obtain ⟨u,rfl,t,rfl⟩:=rv.one;exact call_range_1 ⟨.ref s.heap.objs.size,upd H s.heap.objs.size (.rng 0 j),I.laid (λb o e=>wj _ e) (wC _) ⟨_,_,_,wt _ rfl⟩,rfl,q _ I.fresh⟩
 ·subst e;obtain ⟨u,u2,rfl,⟨t,rfl⟩,⟨t2,rfl⟩⟩:=rv.two;exact call_range_2 ⟨.ref s.heap.objs.size,upd H s.heap.objs.size (.rng i j),I.laid (λb o e=>wj _ e) (wC _) ⟨_,_,_,wt _ rfl⟩,rfl,q _ I.fresh⟩
theorem j9 (lo:Int) (n:Nat):jb lo n=((List.range n).map λi=>lo+(i:Nat)).map D.int:=by
 induction n generalizing lo with
 | zero=>rfl
 | succ n ih =>
  rw [jb,ih,List.range_succ_eq_map];simp only [List.map_cons,wJ];congr 1
  ·congr 1;omega
  ·apply vh;intro i _;simp only [Function.comp];congr 1
   push_cast;omega
theorem qaj {lo:Int} {acc:Array Value} {n:Nat} (h:ItemsOf (λi v=>∃ t,v=.int (lo+i*1) t) acc n):Vals (((List.range n).map λi=>lo+(i:Nat)).map V.int) acc.toList:=by
 have:∀ (l:List Value) (k:Nat),(∀ j v,l[j]?=some v->∃ t,v=Value.int (lo+((k+j:Nat):Int)) t)->Vals (((List.range' k l.length).map λi=>lo+(i:Nat)).map V.int) l:=by
  intro l
  induction l with
  | nil=>intro k _;exact .nil
  | cons x r ih =>
   intro k hl;rw [List.length_cons,List.range'_succ,List.map_cons,List.map_cons];refine .cons ?_ (ih (k+1) λj v hj=>?_)
   ·obtain ⟨t,e⟩:=hl 0 x rfl;exact ⟨t,by rw [e];rfl⟩
   ·obtain ⟨t,e⟩:=hl (j+1) v (by simpa using hj);exact ⟨t,by rw [e,show k+(j+1)=k+1+j by omega]⟩
 have hsz:acc.toList.length=n:=by simpa using h.1
 have:=this acc.toList 0 λj v hj=>by
  obtain ⟨t,e⟩:=h.2 j v (by simpa using hj);exact ⟨t,by rw [e,Int.mul_one,Nat.zero_add]⟩
 rwa [hsz,<-List.range_eq_range'] at this
theorem qaF (hc:X.calm=true):zr X (.type "list") (λxs H Q=>∃ (p:Addr) (lo hi:Int),xs=[.ref p]/\H p=some (.rng lo hi)/\(-(2^62)<=lo/\lo<2^62/\-(2^62)<=hi/\hi<2^62)/\(hi-lo).toNat<=sizeLine /\
  ∀ l,H l=none->Q (.ref l) (upd H l (.lst (((List.range (hi-lo).toNat).map λi=>lo+(i:Nat)).map V.int)))):=by
 intro pins s σ H xs us Q I rv ⟨p,lo,hi,e,hp,⟨b1,b2,b3,b4⟩,hz,q⟩;subst e;obtain ⟨u,rfl,ru⟩:=rv.one;cases ru;obtain ⟨t,u,v,ho⟩:=(show ObjOk X.prog X.w H s.heap p (.rng lo hi) from I.hok p _ hp);have h16:=sizeLine_eq;refine call_list_range (n:=(hi-lo).toNat) (I.ok.hd hc) ho (small_one b1 b2 b3 b4) (by rw [rangeSize_one];split<;>omega) (by omega) λh' tk acc ep kp ha hit=>?_
 refine ⟨.ref s.heap.objs.size,_,I.laid (o:=.lst (((List.range (hi-lo).toNat).map λi=>lo+(i:Nat)).map V.int)) (t':=tk) kp (wC _) ⟨?_,acc.toList,ep,qaj hit,by simpa using ha⟩,rfl,q _ I.fresh⟩
 simp;omega
theorem yaj {p1 p2 pos1 pos2:Pos} {e:Expr} {es:List Expr} {cs:Codes} (hc:X.calm=true) (hg:Gl X "range") (hm:X.mg "range"=none) (hg2:Gl X "list") (hm2:X.mg "list"=none) (ha:SA X C (e::es) cs) (hs:starEach (e::es) X.env=(false,eval e X.env)::starEach es X.env)
  (hpl:(backTo pos2 (starEach es X.env)).any (·.1)=false):SF X C (.Call (.Name "list" p1) [.Call (.Name "range" p2) (e::es) [] pos2] [] pos1) (.ofi .list (.rng cs)):=λB ρ ds h=>by
 obtain ⟨ds',hd,h⟩:=wa (show (evI C (.rng cs) ρ).bind (λds=>some (D.lst ds))=some (D.lst ds) from h);cases h;obtain ⟨dx,ex,hd⟩:=wa (show (evs C cs ρ).bind rngD=some ds from hd);have hpe:PE X (.Call (.Name "range" p2) (e::es) [] pos2) (tCB rRng (tDs X.K B ρ dx)):=yo za7 hg hm q9 (ha B ρ dx ex) (by decide) (by decide) hs hpl;refine (yo (qaF hc) hg2 hm2 jQ (qD hpe jaf) (by decide) (by decide) rfl rfl).imp λσ H Q ⟨hb,er,q⟩=>?_
 refine ⟨hb,er,λvs H1 sm1 r1=>?_⟩
 have fin:∀ (lo hi:Int) (p l:Addr),ds=jb lo (hi-lo).toNat->H1 p=none->(upd H1 p (.rng lo hi)) l=none->Q (.ref l) (upd (upd H1 p (.rng lo hi)) l (.lst (((List.range (hi-lo).toNat).map λi=>lo+(i:Nat)).map V.int))):=λlo hi p l ed hp hl=>by
  have fl:H l=none:=(sm1.trans (qa hp _)).free hl;refine q _ _ ((sm1.trans (qa hp _)).trans (qa hl _)) (.lst (hb.notN fl) ya ?_) ⟨l,rfl,fl⟩;rw [ed,j9];exact Reps.of_ints _
 match dx,hd with
 | [.int j],hd =>
  simp only [rngD] at hd;split at hd
  ·rename_i hcd;cases hd;obtain ⟨v,rfl,rv⟩:=r1.one;cases rv;refine .inl ⟨j,rfl,hcd.1,hcd.2.1,λp hp=>⟨p,0,j,rfl,ya,⟨by omega,by omega,hcd.1,hcd.2.1⟩,by rw [Int.sub_zero];exact hcd.2.2,λl hl=>fin 0 j p l (by rw [Int.sub_zero]) hp hl⟩⟩
  ·cases hd
 | [.int i,.int j],hd =>
  simp only [rngD] at hd;split at hd
  ·rename_i hcd;cases hd;cases r1 with
   | cons ra r =>
    obtain ⟨v2,rfl,rb⟩:=r.one;cases ra;cases rb
    exact .inr ⟨i,j,rfl,⟨hcd.1,hcd.2.1,hcd.2.2.1,hcd.2.2.2.1⟩,λp hp=>⟨p,i,j,rfl,ya,⟨hcd.1,hcd.2.1,hcd.2.2.1,hcd.2.2.2.1⟩,hcd.2.2.2.2,λl hl=>fin i j p l rfl hp hl⟩⟩
  ·cases hd
end
theorem qcT {bs:List Bool}:(List.range bs.length).map (λi=>bs.getD i false)=bs:=by
 refine List.ext_getElem (by simp) λi h1 h2=>?_
 simp [List.getD,h2]
section
variable {X:Cx}
theorem ycT {bs:List Bool} {its:List Value} (r:Vals (bs.map V.bl) its):∀ (i:Nat) (v:Value),its.toArray[i]?=some v->v=Value.bool (bs.getD i false):=λi v hv=>by
 have hv':its[i]?=some v:=by simpa using hv
 have hi:i<bs.length:=by
  have hl:=r.length;rw [wD] at hl;rw [hl];exact (wq.mp hv').1
 obtain ⟨u,hu,r⟩:=r.get (i:=i) (x:=V.bl bs[i]) (by simp [hi]);rw [hv'] at hu;cases hu
 have:v=Value.bool bs[i]:=r
 rw [this];simp [List.getD,hi]
theorem jcT {h h':Heap} {o:Obj} (kp:∀ b u,b∉[h.objs.size]->(h.push o).get? b=some u->h'.get? b=some u):∀ b u,h.get? b=some u->h'.get? b=some u:=λb u e =>
 kp b u (by simp only [wu,List.not_mem_nil,or_false];exact wM (wz e)) (wj _ e)
theorem jbF {P:Program} {w:World} {A:Around} {bs:List Bool} {its:List Value} (r:Vals (bs.map V.bl) its):TruthOf P w A (λi v=>its.toArray[i]?=some v) (λi=>bs.getD i false):=λi v s Q E h q=>by
 rw [ycT r i v h];exact wpAny_truthy_bool q
theorem zbG (hc:X.calm=true):zr X (.builtin "all") (rDs X.K (yz .all)):=by
 intro pins s σ H xs us Q I rv ⟨B,dx,d,hb,r,e,q⟩
 obtain ⟨x,ds,bs,rfl,hds,hbs,rfl⟩:∃ x ds bs,dx=[x]/\itemsD x=some ds/\yad ds=some bs/\d=.bl (bs.all id):=by
  match dx,e with
  | [x],e =>
   obtain ⟨ds,h1,e⟩:=wa (show (itemsD x).bind _=some d from e);obtain ⟨bs,h2,e⟩:=wb e;exact ⟨x,ds,bs,rfl,h1,h2,e.symm⟩
  | [],e=>cases e
  | _::_::_,e=>cases e
 obtain ⟨v,rfl,rx⟩:=r.one;obtain ⟨t,a,ws,rfl,sq,_,rws⟩:=rx.srcT hb hds;rw [rws.bls hbs] at sq;obtain ⟨u,rfl,ru⟩:=rv.one;cases ru;obtain ⟨its,rits,p,hz⟩:=I.sseq sq;have hl:its.length=bs.length:=by have:=rits.length;rw [wD] at this;exact this.symm
 have halt:a<s.heap.objs.size:=by obtain ⟨o,_,ho,_⟩:=p.ob;exact wz ho
 refine call_all_walk (zA p ⟨s.heap.objs.size,_,_,its.toArray.size,_,_,λi=>bs.getD i false,rfl,yN (by simp [I.ok.hd hc]) t s.heap.objs.size a (wM halt) its.toArray,⟨SItr.fresh t s.heap a,p.at λo e=>wj _ e⟩,jbF rits,λh' tk kp=>?_⟩);refine ⟨.bl (bs.all id),H,I.kept (t':=tk) (jcT kp),?_,q _ H (Same.refl H) (.bl _) (nofr λ_ z=>nomatch z)⟩;show Value.bool _=Value.bool _;rw [vj,hl]
 conv=>rhs;rw [<-qcT (bs:=bs),List.all_map]
 rfl
end
theorem jcv (n d:Nat) (o:Option Int):HT.sIx n d o=Eng.sIx n d o:=by cases o<;>rfl
section
variable {K:Frag} {B:Addr->Prop} {H:Hp}
theorem Reps.cut {vs:List V} {ds:List D} (r:Reps K B H vs ds) (lo hi:Option Int):Reps K B H (qb1 vs lo hi) (cutD ds lo hi):=by
 unfold qb1 cutD;rw [jcv,jcv,r.length];exact (r.drop _).take _
theorem ybi {vs:List V} {lo hi:Option Int} (h:HT.sIx vs.length 0 lo=0/\HT.sIx vs.length vs.length hi=vs.length):qb1 vs lo hi=vs:=by
 unfold qb1;rw [h.1,h.2];simp
end
section
variable {prog:Program} {w:World} {A:Around} {E:Value->Shared->Prop} {s:Shared}
theorem zK {t sl:Addr} {items:Array Value} {vl vu:Value} {lo hi:Option Int} {Q:Value->Shared->Prop} (ht:IsTup s.heap t items) (hs:s.heap.IsSliceOf sl vl vu .none) (pl:IsPart vl lo) (pu:IsPart vu hi)
  (hw:HT.sIx items.size 0 lo=0/\HT.sIx items.size items.size hi=items.size) (h:Q (.ref t) s):wpAny (model prog w) A (getItem (.ref t) (.ref sl)) Q E s:=by
 obtain ⟨os,hos,hcs,hds⟩:=id hs;have hTs:s.TypeIs (.ref sl) "slice":=⟨os,hos,hcs⟩;unfold getItem
 try with_reducible refine wpAny_holding ?_
 first | refine we (wm ?_) | skip
 refine we (wpAny_sequenceKey ht.typeIs (by decide) ?_)
 refine we (w8 (name:=Str.ofString "__getitem__") ht.typeIs PyProof.Rows.slot_tuple_getitem
  (wW PyProof.Rows.slot_tuple_getitem ht.typeIs entry_tuple_getitem ?_ (args_tuple_getitem _ _)))
 show wpAny _ _ (Builtin.Tuple.tupleItemsOf (.ref t) >>= _) _ _ s;refine we (tupleItemsOf_ ht ?_);refine we (wpAny_typeOf hTs ?_);rw [if_pos (by decide)];refine we (HT.yB hs pl pu ?_)
 have hyes:(((HT.sIx items.size 0 lo:Nat):Int)==0&&(1:Int)==1&&(HT.sIx items.size items.size hi-HT.sIx items.size 0 lo)==items.size)=true:=by
  rw [hw.1,hw.2];simp
 show wpAny _ _ (if (((HT.sIx items.size 0 lo:Nat):Int)==0&&(1:Int)==1&&(HT.sIx items.size items.size hi-HT.sIx items.size 0 lo)==items.size)=true then _ else _) _ _ s;rw [if_pos hyes];unfold Builtin.Tuple.tupleIsExact;refine we (we (wpAny_typeOf ht.typeIs (wm ?_)));rw [if_pos (by decide)];refine we (wpAny_rule ?_)
 first
  | exact wm ⟨_,rfl,wm h⟩
  | exact we (wm (wm ⟨_,rfl,wm h⟩))
  | exact we (wm (wm (wm ⟨_,rfl,wm h⟩)))
  | exact we (we (wm (wm ⟨_,rfl,wm h⟩)))
  | (wp_walk;trace_state)
end
end Eng
end
section
namespace Eng
open PySem PySem.Spec PyProof.Rows L2
variable [Tb]
open AutoSeq1 (wpAny_loadPart')
section
variable {prog:Program} {w:World} {A:Around} {E:Value->Shared->Prop} {s:Shared}
theorem yaF {R:Result->Shared->Prop} {r:Addr} {a b c:Int} {t u v:Tok} {n:Nat} (hh:A.handled=none) (hr:IsRange s.heap r a b c t u v) (hsmall:Builtin.Range.small a b c=true) (hn:Builtin.Range.rangeSize a b c=n) (hlen:n<=2^24)
  (hR:∀ h' tk acc c',s.heap.objs.size<h'.objs.size->(∀ b o,s.heap.get? b=some o->h'.get? b=some o)->h'.get? s.heap.objs.size=some { cls:=.type "list",dict:=none,data:=.seq acc c',slots:=#[] }->ItemsOf (λi v=>∃ t,v=.int (a+i*c) t) acc n->R (.ok (.ret (.ref s.heap.objs.size))) { s with heap:=h',toks:=tk }) :
  codeAny (model prog w) A (.builtin "proto.collect" ⟨[.ref r],[]⟩) R s:=by
 refine codeAny_builtin F.entry_proto_collect ?_;rw [Around.under_plainId F.plain_proto_collect _];show wpAny _ A.in1 (newList [] >>= λl=>again (.builtin "list.__iadd__" ⟨[l,.ref r],[]⟩)) _ _ s;refine we (vc ?_);refine wm ⟨plainId_quiet F.plain_list_iadd _,codeAny_builtin F.entry_list_iadd ?_⟩;rw [Around.under_plainId F.plain_list_iadd _];show wpAny _ A.in1 (Builtin.List.listExtendWith (.ref s.heap.objs.size) (.ref r) (.ref s.heap.objs.size)) _ _ _;have hS0:(s.heap.push { cls:=.type "list",data:=.seq ([]:List Value).toArray }).get? s.heap.objs.size=some { cls:=.type "list",data:=.seq #[] 0 }:=wt _ rfl;refine wpAny_extend_range (R:=R) (s:={ s with heap:=s.heap.push { cls:=.type "list",data:=.seq ([]:List Value).toArray } }) hh (wj _ hr) hsmall hn hlen s.heap.objs.size (.ref s.heap.objs.size) 0 hS0 λh' tk acc c' kp hS hacc=>?_
 exact hR h' tk acc c' (wz hS) (λb o e=>kp b o (wM (wz e)) (wj _ e)) hS hacc
theorem zat {Q:List Value->Shared->Prop} {r:Addr} {a b c:Int} {t u v:Tok} {n:Nat} (hh:A.handled=none) (hr:IsRange s.heap r a b c t u v) (hsmall:Builtin.Range.small a b c=true) (hn:Builtin.Range.rangeSize a b c=n) (hlen:n<=2^24)
  (hQ:∀ h' tk acc,s.heap.objs.size<h'.objs.size->(∀ b o,s.heap.get? b=some o->h'.get? b=some o)->ItemsOf (λi v=>∃ t,v=.int (a+i*c) t) acc n->Q acc.toList { s with heap:=h',toks:=tk }) :
  wpAny (model prog w) A (collect (.ref r)) Q E s:=by
 unfold collect;refine we (wpAny_runValue (yaF hh hr hsmall hn hlen λh' tk acc c' hlt kp hS hacc=>?_));show wpAny _ A (load s.heap.objs.size >>= _) _ _ _;refine we (wpAny_load hS ?_);exact wm (hQ h' tk acc hlt kp hacc)
end
theorem qF (r:Addr) (a b c:Int) (t u v:Tok) (n:Nat) (hsmall:Builtin.Range.small a b c=true) (hn:Builtin.Range.rangeSize a b c=n) (hlen:n<=2^24) :
  Meets (Builtin.«tuple.__new__» ⟨[.type "tuple",.ref r],[]⟩)
   (λA R s=>A.handled=none/\IsRange s.heap r a b c t u v/\∀ (h':Heap) (tk:Nat) (acc:Array Value),s.heap.objs.size<h'.objs.size->(∀ b o,s.heap.get? b=some o->h'.get? b=some o)->ItemsOf (λi v=>∃ t,v=.int (a+i*c) t) acc n ->
    R (.ok (.ret (.ref h'.objs.size))) { s with heap:=h'.push { cls:=.type "tuple",data:=.seq acc },toks:=tk }) :=
 .of_wp λprog w A R s h=>by
  obtain ⟨hh,hr,h⟩:=h;have hsub:=sub_tuple_self;have hinit:=init_tuple_lookup;have hmh:=madeHere_tuple;have hT:s.TypeIs (.ref r) "range":=⟨_,hr,rfl⟩;have hh1:A.in1.handled=none:=hh
  wp_walk using wpAny_typeOf hT,zat hh1 hr hsmall hn hlen
  intro h' tk acc hlt hk hacc;show wpAny _ _ (Builtin.Tuple.tupleExact acc.toList.toArray >>= λv=>ret v) _ _ _;unfold Builtin.Tuple.tupleExact;refine we (vc ?_ (show acc.toList.toArray.size<=sizeLine by simp only [Array.toArray_toList];rw [hacc.1,sizeLine_eq];exact hlen));refine wm ⟨_,rfl,?_⟩;have e:acc.toList.toArray=acc:=by simp
  rw [e];exact h h' tk acc hlt hk hacc
section
variable {prog:Program} {w:World} {A:Around} {E:Value->Shared->Prop} {s:Shared}
theorem qW {Q:Value->Shared->Prop} {r:Addr} {a b c:Int} {t u v:Tok} {n:Nat} (hh:A.handled=none) (hr:IsRange s.heap r a b c t u v) (hsmall:Builtin.Range.small a b c=true) (hn:Builtin.Range.rangeSize a b c=n) (hlen:n<=2^24)
  (h:∀ (h':Heap) (tk:Nat) (acc:Array Value),s.heap.objs.size<h'.objs.size->(∀ b o,s.heap.get? b=some o->h'.get? b=some o)->ItemsOf (λi v=>∃ t,v=.int (a+i*c) t) acc n->Q (.ref h'.objs.size) { s with heap:=h'.push { cls:=.type "tuple",data:=.seq acc },toks:=tk }) :
  wpAny (model prog w) A (call (.type "tuple") [.ref r]) Q E s:=by
 refine callType_new F.called_tuple (by decide) (F.typeCall_tuple_1 _) (F.newCall_tuple_1 _) (λobj => F.args_object_init_2 obj _) F.entry_tuple_new
  (qF r a b c t u v n hsmall hn hlen) ⟨hh,hr,λh' tk acc hlt hk hacc=>⟨⟨_,wt _ rfl,rfl⟩,?_⟩⟩
 exact h h' tk acc hlt hk hacc
end
section
variable {X:Cx} {C:Tab}
theorem qat (hc:X.calm=true):zr X (.type "tuple") (λxs H Q=>∃ (p:Addr) (lo hi:Int),xs=[.ref p]/\H p=some (.rng lo hi)/\(-(2^62)<=lo/\lo<2^62/\-(2^62)<=hi/\hi<2^62)/\(hi-lo).toNat<=sizeLine /\
  ∀ l,H l=none->Q (.ref l) (upd H l (.tup (((List.range (hi-lo).toNat).map λi=>lo+(i:Nat)).map V.int)))):=by
 intro pins s σ H xs us Q I rv ⟨p,lo,hi,e,hp,⟨b1,b2,b3,b4⟩,hz,q⟩;subst e;obtain ⟨u,rfl,ru⟩:=rv.one;cases ru;obtain ⟨t,u,v,ho⟩:=(show ObjOk X.prog X.w H s.heap p (.rng lo hi) from I.hok p _ hp);have h16:=sizeLine_eq;refine qW (n:=(hi-lo).toNat) (I.ok.hd hc) ho (small_one b1 b2 b3 b4) (by rw [rangeSize_one];split<;>omega) (by omega) λh' tk acc hlt kp hit=>?_
 have hle:=Nat.le_of_lt hlt;refine ⟨.ref h'.objs.size,_,I.laid (o:=.tup (((List.range (hi-lo).toNat).map λi=>lo+(i:Nat)).map V.int)) (t':=tk) (λb u e=>wj _ (kp b u e)) hle ⟨?_,acc.toList,qaj hit,?_⟩,rfl,q _ (I.hok.fresh hle)⟩
 ·simp;omega
 ·rw [Array.toArray_toList];exact IsTupN.new _ _
theorem qaT {p1 p2 pos1 pos2:Pos} {e:Expr} {es:List Expr} {cs:Codes} (hc:X.calm=true) (hg:Gl X "range") (hm:X.mg "range"=none) (hg2:Gl X "tuple") (hm2:X.mg "tuple"=none) (hv2:bootBuiltins "tuple"=some (.type "tuple")) (ha:SA X C (e::es) cs) (hs:starEach (e::es) X.env=(false,eval e X.env)::starEach es X.env)
  (hpl:(backTo pos2 (starEach es X.env)).any (·.1)=false):SE X C (.Call (.Name "tuple" p1) [.Call (.Name "range" p2) (e::es) [] pos2] [] pos1) (.ofi .tuple (.rng cs)):=λB ρ d h=>by
 obtain ⟨ds,hd,h⟩:=wa (show (evI C (.rng cs) ρ).bind (λds=>some (D.tup ds))=some d from h);cases h;obtain ⟨dx,ex,hd⟩:=wa (show (evs C cs ρ).bind rngD=some ds from hd);have hpe:PE X (.Call (.Name "range" p2) (e::es) [] pos2) (tCB rRng (tDs X.K B ρ dx)):=yo za7 hg hm q9 (ha B ρ dx ex) (by decide) (by decide) hs hpl;refine (yo (qat hc) hg2 hm2 hv2 (qD hpe jaf) (by decide) (by decide) rfl rfl).imp λσ H Q ⟨hb,er,q⟩=>?_
 refine ⟨hb,er,λvs H1 sm1 r1=>?_⟩
 have fin:∀ (lo hi:Int) (p l:Addr),ds=jb lo (hi-lo).toNat->H1 p=none->(upd H1 p (.rng lo hi)) l=none->Q (.ref l) (upd (upd H1 p (.rng lo hi)) l (.tup (((List.range (hi-lo).toNat).map λi=>lo+(i:Nat)).map V.int))):=λlo hi p l ed hp hl=>by
  refine q _ _ ((sm1.trans (qa hp _)).trans (qa hl _)) (.tup ya ?_);rw [ed,j9];exact Reps.of_ints _
 match dx,hd with
 | [.int j],hd =>
  simp only [rngD] at hd;split at hd
  ·rename_i hcd;cases hd;obtain ⟨v,rfl,rv⟩:=r1.one;cases rv;refine .inl ⟨j,rfl,hcd.1,hcd.2.1,λp hp=>⟨p,0,j,rfl,ya,⟨by omega,by omega,hcd.1,hcd.2.1⟩,by rw [Int.sub_zero];exact hcd.2.2,λl hl=>fin 0 j p l (by rw [Int.sub_zero]) hp hl⟩⟩
  ·cases hd
 | [.int i,.int j],hd =>
  simp only [rngD] at hd;split at hd
  ·rename_i hcd;cases hd;cases r1 with
   | cons ra r =>
    obtain ⟨v2,rfl,rb⟩:=r.one;cases ra;cases rb;refine .inr ⟨i,j,rfl,⟨hcd.1,hcd.2.1,hcd.2.2.1,hcd.2.2.2.1⟩,λp hp=>⟨p,i,j,rfl,ya,⟨hcd.1,hcd.2.1,hcd.2.2.1,hcd.2.2.2.1⟩,hcd.2.2.2.2,λl hl=>fin i j p l rfl hp hl⟩⟩
  ·cases hd
end
end Eng
end
section
namespace Eng
open PySem
structure Gam where
 N:List Str
 names:List (Str×NameKind)
 /-- where its lambda stands -/
 lp:Option Pos
structure GTab where
 fns:List Str
 cons:List (Str×Int)
 /-- the defs with a lambda -/
 lams:List (Str×Pos)
noncomputable def jN (g:Gam) (x:Str):Option NameKind:=g.names.lookup x
noncomputable def yb1 (g:Gam) (x:Str):Bool:=jN g x==some .local||jN g x==some .cell||jN g x==some .free
noncomputable def zcU (g:Gam) (x:Str):Bool:=jN g x==some .local||jN g x==some .cell
noncomputable def qaO (g:Gam) (x:Str):Bool:=jN g x==some .globalImplicit
noncomputable def yF (x:Str):Bool:=!(x==("__debug__":Str))&&!(x==("__classdict__":Str))
noncomputable def zO (g:Gam) (i:Nat) (x:Str):Bool:=g.N[i]?==some x
noncomputable def jn:Expr->Bool
 | .Starred ..=>true
 | _=>false
noncomputable def setB:Expr->Bool
 | .Set ..=>true
 | _=>false
noncomputable def qa7:Expr->Bool
 | .Slice ..=>true
 | _=>false
noncomputable def qcU:Expr->Bool
 | .Call _ as _ _=>as.isEmpty
 | _=>false
noncomputable def ydc:Expr->Bool
 | .Tuple ..=>true
 | _=>false
noncomputable def zcw:Const->D->Bool
 | .none,.non=>true
 | .bool a,.bl b=>a==b
 | .int a,.int b=>a==b
 | .str a,.str b=>a==b
 | _,_=>false
noncomputable def qdT (g:Gam):List Expr->List Nat->Bool
 | [],[]=>true
 | .Name x _::es,i::is=>zO g i x&&zcU g x&&qdT g es is
 | _,_=>false
noncomputable def tgB (g:Gam):Expr->Tgt->Bool
 | .Name x _,.one i=>zO g i x&&zcU g x
 | .Tuple es _ _,.many is=>qdT g es is
 | _,_=>false
noncomputable def qbG:Expr->List Str
 | .Name x _=>[x]
 | .Tuple es _ _=>es.filterMap λe=>match e with | .Name x _=>some x | _=>none
 | _=>[]
noncomputable def ycU (g:Gam) (scope:Scope) (tg:Expr) (keep:List Nat):Gam:=⟨qbG tg++keep.map λj=>(g.N[j]?).getD Str.empty,scope.names,none⟩
noncomputable def qdF (g:Gam) (scope:Scope) (keep:List Nat):Bool:=keep.all λj=>match g.N[j]? with
 | some x=>scope.names.lookup x==some .free&&(jN g x==some .cell||jN g x==some .free)
 | none=>false
noncomputable def jaj (g:Gam) (scope:Scope):Bool:=decide (scope.kind=.function)&&scope.names.all λp=>(decide (p.2≠.cell)||scope.names.all λq=>decide (q.1≠p.1)||decide (q.2≠.free))&&(decide (p.2≠.free)||(jN g p.1==some .cell||jN g p.1==some .free))&&(decide (p.2≠.local)||scope.names.lookup p.1==some .local)
noncomputable def jd5 (t:Tgt) (n:Nat):Bool:=match t with
 | .one i=>decide (i<n)
 | .many is=>is.all λi=>decide (i<n)
noncomputable def ydT:CmpOp->Bool
 | .In=>false
 | .NotIn=>false
 | _=>true
noncomputable def yaT (es:List Expr):Bool:=!es.isEmpty&&es.all λe=>!jn e
noncomputable abbrev RE:=Gam->Expr->Code->Bool
noncomputable def okA (r:Expr->Code->Bool):List Expr->Codes->Bool
 | [],.nil=>true
 | e::es,.cons c cs=>r e c&&okA r es cs
 | _,_=>false
noncomputable def jb1 (r:Expr->Code->Bool) (op:BoolOp):List Expr->Code->Bool
 | [],_=>false
 | [a],c=>r a c
 | a::b::es,c=>match op,c with
  | .And,.and x y=>r a x&&jb1 r op (b::es) y
  | .Or,.or x y=>r a x&&jb1 r op (b::es) y
  | _,_=>false
noncomputable def yeg:Blt->Option Str
 | .len=>some "len"
 | .list=>some "list"
 | .tuple=>some "tuple"
 | .int=>some "int"
 | .all=>some "all"
 | .sorted=>some "sorted"
 | _=>none
noncomputable def tyN:Ty->String
 | .int=>"int"
 | .bool=>"bool"
 | .str=>"str"
 | .tuple=>"tuple"
 | .list=>"list"
noncomputable def tyS (t:Ty):Str:=Str.ofString (tyN t)
noncomputable def ydF (r:Expr->Code->Bool) (g:Gam) (args:List Expr) (a:Code) (t:Ty):Bool:=match args with
 | [e,.Name y _]=>y==tyS t&&qaO g y&&!jn e&&r e a
 | _=>false
noncomputable def okO (r:Expr->Code->Bool):Option Expr->OCode->Bool
 | none,.none=>true
 | some e,.some c=>r e c
 | _,_=>false
noncomputable def jaF (e:Expr):Option (Str×List Expr):=match e with
 | .Call f as kws _=>(match f with | .Name y _=>(match kws with | []=>some (y,as) | _=>none) | _=>none)
 | _=>none
theorem qI {e:Expr} {y:Str} {as:List Expr} (h:jaF e=some (y,as)):∃ p q,e=.Call (.Name y p) as [] q:=by
 unfold jaF at h;split at h
 ·split at h
  ·split at h
   ·cases h;exact ⟨_,_,rfl⟩
   ·cases h
  ·cases h
 ·cases h
noncomputable def qce (args:List Expr):Option (Str×List Expr):=match args with
 | [e]=>jaF e
 | _=>none
theorem ya7 {args:List Expr} {y:Str} {as:List Expr} (h:qce args=some (y,as)):∃ p q,args=[.Call (.Name y p) as [] q]:=by
 unfold qce at h;split at h
 ·obtain ⟨p,q,rfl⟩:=qI h;exact ⟨p,q,rfl⟩
 ·cases h
noncomputable def one? {α:Type}:List α->Option α
 | [a]=>some a
 | _=>none
noncomputable def jdT {α:Type}:List α->Option (α×α)
 | [a,b]=>some (a,b)
 | _=>none
theorem qy {α:Type} {l:List α} {a:α} (h:one? l=some a):l=[a]:=by
 unfold one? at h;split at h
 ·cases h;rfl
 ·cases h
theorem qcw {α:Type} {l:List α} {a b:α} (h:jdT l=some (a,b)):l=[a,b]:=by
 unfold jdT at h;split at h
 ·cases h;rfl
 ·cases h
noncomputable def yce (r:Expr->Code->Bool) (g:Gam) (args:List Expr) (cs:Codes):Bool:=match qce args with
 | some (y,as)=>(match one? as with
  | some a=>(match cs with | .cons c .nil=>y==("set":Str)&&qaO g y&&!jn a&&r a c | _=>false)
  | none=>false)
 | none=>false
noncomputable def ybG (r:Expr->Code->Bool) (g:Gam) (args:List Expr) (cs:Codes):Bool:=match qce args with
 | some (y,as)=>y==("range":Str)&&qaO g y&&yaT as&&okA r as cs
 | none=>false
noncomputable def jbG (G:GTab) (r:Expr->Code->Bool) (g:Gam) (x:Str) (args:List Expr) (c:Code):Bool:=qaO g x&&yF x&&match c with
 | .call i cs=>G.fns[i]?==some x&&yaT args&&okA r args cs
 | .blt .lenSet _=>false
 | .blt .sortedSet cs=>x==("sorted":Str)&&yce r g args cs
 | .blt b cs=>yeg b==some x&&yaT args&&okA r args cs
 | .ofi .list (.rng cs)=>x==("list":Str)&&ybG r g args cs
 | .ofi .tuple (.rng cs)=>x==("tuple":Str)&&ybG r g args cs
 | .isi a t=>x==("isinstance":Str)&&ydF r g args a t
 | _=>false
noncomputable def okI (r:Expr->Code->Bool) (g:Gam) (tg it:Expr) (i:Iter):Bool:=!setB it&&match i with
 | .data c=>r it c
 | .rng cs=>(match jaF it with | some (y,as)=>y==("range":Str)&&qaO g y&&(decide (as.length=1)||decide (as.length=2))&&yaT as&&okA r as cs | none=>false)
 | .enu c=>ydc tg&&(match jaF it with | some (y,as)=>(match one? as with | some a=>y==("enumerate":Str)&&qaO g y&&!jn a&&r a c | none=>false) | none=>false)
 | .zip c d=>ydc tg&&(match jaF it with | some (y,as)=>(match jdT as with | some (a,b)=>y==("zip":Str)&&qaO g y&&!jn a&&!jn b&&r a c&&r b d | none=>false) | none=>false)
 | .vals c=>(match it with | .Call f as kws cpos=>(match f with | .Attribute o nm apos=>(as.isEmpty&&kws.isEmpty)&&(nm==("values":Str)&&!qcU o&&apos.endLine==cpos.line&&r o c) | _=>false) | _=>false)
noncomputable def okC (r t:RE) (g:Gam) (elt tg it:Expr) (ifs:List Expr) (asy:Int) (scope:Scope) (c:Code):Bool:=match c with
 | .comp ce tt m keep i cc=>asy==0&&jaj g scope&&qdF g scope keep&&decide ((qbG tg).length=m)&&jd5 tt m&&decide (ycU g scope tg keep).N.Nodup&&tgB (ycU g scope tg keep) tg tt&&okI (r g) g tg it i&&r (ycU g scope tg keep) elt ce
  && (match ifs,cc with | [],.none=>true | [e],.some c=>t (ycU g scope tg keep) e c | _,_=>false)
 | _=>false
noncomputable def jce (r:Expr->Code->Bool) (l:Expr) (os:List CmpOp) (es:List Expr) (c:Code):Bool:=match os,es,c with
 | [o],[e],.cmp op a b=>decide (o=op)&&!setB e&&r l a&&r e b
 | [o,o'],[m,e],.chn op op' a b d=>decide (o=op)&&decide (o'=op')&&ydT op&&ydT op'&&r l a&&r m b&&r e d
 | _,_,_=>false
noncomputable def jeg (r:Expr->Code->Bool) (o:Expr) (nm:Str) (l l':Nat) (b:Expr) (c:Code):Bool:=match c with
 | .blt bb (.cons x (.cons y .nil))=>(match bb with | .count=>nm==("count":Str) | .index=>nm==("index":Str) | _=>false)&&(!qcU o&&!jn b&&l==l'&&r o x&&r b y)
 | _=>false
noncomputable def zd6 (G:GTab) (r:Expr->Code->Bool) (g:Gam) (f:Expr) (args:List Expr) (kws:List Keyword) (l':Nat) (c:Code):Bool:=match f with
 | .Name x _=>(match kws with
  | []=>jbG G r g x args c
  | _=>false)
 | .Attribute o nm apos=>(match kws with
  | []=>(match args with | [b]=>jeg r o nm apos.endLine l' b c | _=>false)
  | _=>false)
 | _=>false
noncomputable def zeh (r:Expr->Code->Bool) (v s:Expr) (c:Code):Bool:=match c with
 | .idx a b=>!qa7 s&&r v a&&r s b
 | .slc a lo hi=>(match s with | .Slice l h none _=>r v a&&okO r l lo&&okO r h hi | _=>false)
 | _=>false
noncomputable def qeh (G:GTab) (g:Gam) (x:Str) (c:Code):Bool:=match c with
 | .var i=>zO g i x&&yb1 g x
 | .cst (.int i)=>qaO g x&&G.cons.lookup x==some i
 | _=>false
noncomputable def qd6 (e:Expr):Option Const:=match e with
 | .Constant k _ _=>some k
 | _=>none
theorem jcU {e:Expr} {k:Const} (h:qd6 e=some k):∃ j p,e=.Constant k j p:=by
 unfold qd6 at h;split at h
 ·cases h;exact ⟨_,_,rfl⟩
 ·cases h
noncomputable def jaT (e:Expr):Option Str:=match e with
 | .Name x _=>some x
 | _=>none
theorem yI {e:Expr} {x:Str} (h:jaT e=some x):∃ p,e=.Name x p:=by
 unfold jaT at h;split at h
 ·cases h;exact ⟨_,rfl⟩
 ·cases h
noncomputable def yd6 (e:Expr):Option (Arguments×Expr×Scope×Pos):=match e with
 | .Lambda a b s p=>some (a,b,s,p)
 | _=>none
theorem zcV {e b:Expr} {a:Arguments} {s:Scope} {p:Pos} (h:yd6 e=some (a,b,s,p)):e=.Lambda a b s p:=by
 unfold yd6 at h;split at h
 ·cases h;rfl
 ·cases h
noncomputable def qcV:Code->Option (Code×List Nat×Code)
 | .mink e k c=>some (e,k,c)
 | _=>none
theorem zcf {c e a:Code} {k:List Nat} (h:qcV c=some (e,k,a)):c=.mink e k a:=by
 unfold qcV at h;split at h
 ·cases h;rfl
 ·cases h
noncomputable def jd6 (ps:Arguments):Option Str:=if ps.posonlyargs.isEmpty&&ps.vararg.isNone&&ps.kwonlyargs.isEmpty&&ps.kw_defaults.isEmpty&&ps.kwarg.isNone&&ps.defaults.isEmpty then (one? ps.args).map (·.arg) else none
theorem ycV {ps:Arguments} {y:Str} (h:jd6 ps=some y):∃ an p,ps=⟨[],[⟨y,an,p⟩],none,[],[],none,[]⟩:=by
 unfold jd6 at h;split at h
 ·rename_i hc;obtain ⟨a,b,c,d,e,f,g⟩:=ps;simp only [wg,List.isEmpty_iff,Option.isNone_iff_eq_none] at hc;obtain ⟨⟨⟨⟨⟨h1,h2⟩,h3⟩,h4⟩,h5⟩,h6⟩:=hc;subst h1;subst h2;subst h3;subst h4;subst h5;subst h6
  cases q:one? b with
  | none=>rw [show one? b=none from q] at h;cases h
  | some x =>
   rw [show one? b=some x from q] at h;cases h;cases qy q;obtain ⟨n,an,p⟩:=x;exact ⟨an,p,rfl⟩
 ·cases h
noncomputable def zdU (g:Gam) (y:Str) (scope:Scope) (keep:List Nat):Gam:=⟨y::keep.map λj=>(g.N[j]?).getD Str.empty,scope.names,none⟩
noncomputable def jdF (r:RE) (g:Gam) (ps:Arguments) (body:Expr) (scope:Scope) (pos:Pos) (ce:Code) (keep:List Nat):Bool:=match jd6 ps with
 | some y=>(g.lp==some pos&&jaj g scope)&&(scope.names.all (λp=>decide (p.2≠.cell))&&!scope.isCoroutine&&!scope.isGenerator)&&(scope.names.lookup y==some .local&&qdF g scope keep&&decide (zdU g y scope keep).N.Nodup)&&r (zdU g y scope keep) body ce
 | none=>false
noncomputable def zd7 (r:RE) (g:Gam) (f:Expr) (args:List Expr) (kws:List Keyword) (c:Code):Bool:=match jaT f,one? args,one? kws,qcV c with
 | some x,some a,some k,some (ce,keep,ca)=>x==("min":Str)&&qaO g x&&!jn a&&k.arg==some ("key":Str)&&r g a ca&&(match yd6 k.value with | some (ps,body,scope,pos)=>jdF r g ps body scope pos ce keep | none=>false)
 | _,_,_,_=>false
noncomputable def yeh (r:Expr->Code->Bool) (ks:List (Option Expr)) (vs:List Expr) (c:Code):Bool:=match c with
 | .dlit a b=>(match (one? ks).bind id,one? vs with | some k,some v=>r k a&&r v b | _,_=>false)
 | _=>false
noncomputable def jcV (G:GTab) (r t:RE) (g:Gam) (e:Expr) (c:Code):Bool:=match e with
 | .Constant k _ _=>(match c with | .cst d=>zcw k d | _=>false)
 | .Name x _=>yF x&&qeh G g x c
 | .BinOp l o rr _=>(match c with | .bin op a b=>decide (o=op)&&r g l a&&r g rr b | _=>false)
 | .UnaryOp op a _=>(match op with
  | .USub=>(match c with | .neg x=>r g a x | _=>false)
  | .Not=>(match c with | .not x=>r g a x | _=>false)
  | _=>false)
 | .BoolOp op es _=>jb1 (r g) op es c
 | .IfExp q a b _=>(match c with | .ite x y z=>t g q x&&r g a y&&r g b z | _=>false)
 | .Compare l os es _=>jce (r g) l os es c
 | .Tuple es _ _=>(match c with | .tup cs=>es.all (λe=>!jn e)&&okA (r g) es cs | _=>false)
 | .List es _=>(match c with | .lst cs=>es.all (λe=>!jn e)&&okA (r g) es cs | _=>false)
 | .Subscript v s _=>zeh (r g) v s c
 | .Dict ks vs _=>yeh (r g) ks vs c
 | .ListComp elt gens scope _=>(match gens with | [⟨tg,it,ifs,asy⟩]=>okC r t g elt tg it ifs asy scope c | _=>false)
 | .Call f args kws cpos=>zd6 G (r g) g f args kws cpos.line c||zd7 r g f args kws c
 | _=>false
noncomputable def stepT (G:GTab) (r t:RE) (g:Gam) (e:Expr) (c:Code):Bool:=match e with
 | .UnaryOp .Not a _=>(match c with | .not x=>t g a x | _=>false)
 | .BoolOp op es _=>jb1 (t g) op es c
 | .IfExp ..=>false
 | .Compare l os es _=>jce (r g) l os es c
 | e=>r g e c
noncomputable def ok (G:GTab):Nat->RE×RE
 | 0=>(λ_ _ _=>false,λ_ _ _=>false)
 | n+1=>(jcV G (ok G n).1 (ok G n).2,stepT G (ok G n).1 (ok G n).2)
end Eng
end
section
namespace Eng
open PySem PySem.Spec PyProof.Rows L2
variable [Tb]
def tO (K:Frag) (B:Addr->Prop) (ρ:En) (o:Option Int):TO:=λσ H Q=>HB B H/\ER K B H σ ρ/\∀ H',Same H H'->Q o H'
def SO (X:Cx) (C:Tab) (e:Option Expr) (c:OCode):Prop:=∀ B ρ o,evO C c ρ=some o->PO X e (tO X.K B ρ o)
section
variable {X:Cx} {C:Tab}
theorem PO.imp {e:Option Expr} {t t':TO} (h:PO X e t) (i:∀ σ H Q,t' σ H Q->t σ H Q):PO X e t':=λpins s σ H Q I q=>h pins s σ H Q I (i _ _ _ q)
theorem zcW:SO X C none .none:=λB ρ o e=>by
 cases e;exact PO.imp jcG λσ H Q ⟨_,_,q⟩=>q H (Same.refl H)
theorem qcW {e:Expr} {c:Code} (h:SE X C e c):SO X C (some e) (.some c):=λB ρ o ee=>by
 obtain ⟨d,ed,ee⟩:=wa (show (ev C c ρ).bind _=some o from ee);cases d with
 | int i =>
  cases ee;refine PO.imp (zcH (h B ρ _ ed)) λσ H Q ⟨h1,h2,q⟩=>⟨h1,h2,λv H' sm r=>?_⟩
  cases r;exact ⟨i,rfl,q H' sm⟩
 | _=>cases ee
def qev (K:Frag):V->Option Int->Option Int->Hp->VK->Prop:=λx lo hi H Q=>∃ B dx d,HB B H/\Rep K B H x dx/\jcC dx lo hi=some d/\∀ v H',Same H H'->Rep K B H' v d->Q v H'
theorem zaG {a:Addr} {xs:List V} {pins:List (Addr×Obj)} {s:Shared} {σ:L2.St} {H:Hp} {vl vu:Value} {lo hi:Option Int} {sl:Addr} {Q:VK} (I:L2.Inv X pins σ H s) (hx:SqT X.K H a xs) (hs:s.heap.IsSliceOf sl vl vu .none) (pl:IsPart vl lo) (pu:IsPart vu hi)
  (hw:HT.sIx xs.length 0 lo=0/\HT.sIx xs.length xs.length hi=xs.length) (q:Q (.ref a) H):∃ T id,typeLookup (.type T) "__getitem__"=pure (some (.builtin id))/\s.TypeIs (.ref a) T/\wpAny (model X.prog X.w) X.A (getItem (.ref a) (.ref sl)) (EP X pins σ Q) X.xe s:=by
 obtain ⟨its,r,ht,hz⟩:=I.tuple hx;have hlen:its.toArray.size=xs.length:=by rw [vj];exact r.length.symm
 refine ⟨"tuple",_,PyProof.Rows.slot_tuple_getitem.lookup,ht.typeIs,?_⟩;exact zK ht hs pl pu (by rw [hlen];exact hw) ⟨.ref a,H,I,rfl,q⟩
theorem yev:SlR X (qev X.K):=by
 intro pins s σ H x v vl vu lo hi sl Q I rx hs pl pu ⟨B,dx,d,hb,r,e,q⟩;cases dx with
 | tup ds =>
  cases e;obtain ⟨a,vs,rfl,ha,ra⟩:=r.tupD;cases rx
  by_cases hw:HT.sIx vs.length 0 lo=0/\HT.sIx vs.length vs.length hi=vs.length
  ·refine zaG I (SqT.of ha) hs pl pu hw (q _ H (Same.refl H) ?_)
   have:=ra.cut lo hi
   rw [ybi hw] at this;exact .tup ha this
  ·exact ydm pins s σ H (.ref a) _ vl vu lo hi sl Q I rfl hs pl pu ⟨a,vs,rfl,SqT.of ha,hw,λp hp=>q _ _ (qa hp _) (.newT hp (ra.cut lo hi))⟩
 | lst ds =>
  cases e;obtain ⟨a,vs,rfl,na,ha,ra⟩:=r.lstD;cases rx;exact ycH pins s σ H (.ref a) _ vl vu lo hi sl Q I rfl hs pl pu ⟨a,vs,rfl,SqL.of ha,λp hp=>q _ _ (qa hp _) (.newL hb hp (ra.cut lo hi))⟩
 | _=>cases e
theorem zdG {a:Expr} {lo hi:Option Expr} {ca:Code} {cl ch:OCode} {p2 pos:Pos} (ha:SE X C a ca) (hl:SO X C lo cl) (hh:SO X C hi ch):SE X C (.Subscript a (.Slice lo hi none p2) pos) (.slc ca cl ch):=λB ρ d e=>by
 obtain ⟨dx,ex,e⟩:=wa (show (ev C ca ρ).bind _=some d from e);obtain ⟨l,el,e⟩:=wa e;obtain ⟨h,eh,e⟩:=wa e
 exact (jb4 yev (ha B ρ dx ex) (hl B ρ l el) (hh B ρ h eh)).imp λσ H Q ⟨h1,h2,q⟩ =>
  ⟨h1,h2,λx H1 s1 r1=>⟨h1.same s1,h2.same s1,λH2 s2=>⟨(h1.same s1).same s2,(h2.same s1).same s2,λH3 s3 =>
   ⟨B,dx,d,((h1.same s1).same s2).same s3,(r1.same s2).same s3,e,λv H' s4 r4=>q v H' (((s1.trans s2).trans s3).trans s4) r4⟩⟩⟩⟩
theorem ycW:∀ t:Ty,bootBuiltins (tyS t)=some (.type (tyN t)):=λt=>by cases t<;>kernel_rfl
noncomputable def dTy:D->String
 | .non=>"NoneType"
 | .bl _=>"bool"
 | .int _=>"int"
 | .str _=>"str"
 | .tup _=>"tuple"
 | .lst _=>"list"
 | .scr _=>"list"
 | .grp _=>"list"
 | .mem _=>"list"
 | .dct _=>"list"
noncomputable def noX:D->Bool
 | .scr _=>false
 | .grp _=>false
 | .mem _=>false
 | .dct _=>false
 | _=>true
theorem qdG {K:Frag} (d:D) (t:Ty) (h:noX d=true):PySem.W.kitOne K (.type (dTy d)) (.type (tyN t))=some (qdd d t):=by
 cases d with
 | scr _=>cases h
 | grp _=>cases h
 | mem _=>cases h
 | dct _=>cases h
 | _=>cases t<;>kernel_rfl
theorem jev {K:Frag} {B:Addr->Prop} {H:Hp} {v:V} {d:D} (r:Rep K B H v d) (h:noX d=true):TyOf K H v (.type (dTy d)):=by
 cases r with
 | non=>exact .non
 | bl b=>exact .bl b
 | int i=>exact .int i
 | str x=>exact .str x
 | tup e _=>exact .tup e
 | lst _ e _=>exact .lst e
 | scr _=>cases h
 | grp _ _ _ _ _ _=>cases h
 | mem _=>cases h
 | dct _ _=>cases h
theorem qcf (t:Ty):zr X (.builtin "isinstance") (λxs H Q=>∃ B x dx,xs=[x,.ty (tyN t)]/\Rep X.K B H x dx/\noX dx=true/\Q (.bl (qdd dx t)) H):=by
 intro pins s σ H xs us Q I rv ⟨B,x,dx,e,r,hn,q⟩;subst e;obtain ⟨u,u2,rfl,ru,ru2⟩:=rv.two;cases ru2;exact zbq I ru (jev r hn) (qdG dx t hn) λtk=>⟨.bl (qdd dx t),H,I.tok _,rfl,q⟩
theorem qd7 {x:Str} {n:String} {pos:Pos} (hg:Gl X x) (hm:X.mg x=none) (hv:bootBuiltins x=some (.type n)) (hn:x≠"__name__") (hd:(x==("__debug__":Str))=false):PE X (.Name x pos) (tC (.ty n)) :=
 λ_ _ _ H _ I h=>jT I hg hm hv ⟨.ty n,H,I,rfl,h⟩ hn hd
theorem ydG {a:Expr} {ca:Code} {t:Ty} {p p2 pos:Pos} (hg:Gl X "isinstance") (hm:X.mg "isinstance"=none) (hv:bootBuiltins "isinstance"=some (.builtin "isinstance")) (hg2:Gl X (tyS t)) (hm2:X.mg (tyS t)=none) (ha:SE X C a ca) (hs:jn a=false) :
  SE X C (.Call (.Name "isinstance" p) [a,.Name (tyS t) p2] [] pos) (.isi ca t):=λB ρ d e=>by
 obtain ⟨dx,ex,e⟩:=wa (show (ev C ca ρ).bind (λx=>ydR x t)=some d from e);have hd:noX dx=true/\d=.bl (qdd dx t):=by cases dx<;>cases e<;>exact ⟨rfl,rfl⟩
 have h2:PE X (.Name (tyS t) p2) (tC (.ty (tyN t))):=qd7 hg2 hm2 (ycW t) (by cases t<;>decide) (by cases t<;>decide);have s1:starEach [a,.Name (tyS t) p2] X.env=(false,eval a X.env)::starEach [.Name (tyS t) p2] X.env:=by cases a<;>first | rfl | cases hs
 refine (yan (qcf t) hg hm hv (qD (ha B ρ dx ex) (qD h2 jaf rfl) s1) (by decide) (by decide) s1 rfl).imp λσ H Q ⟨h1,h2,q⟩=>?_
 refine ⟨h1,h2,λv H1 sm r=>?_⟩;exact ⟨B,v,dx,rfl,r,hd.1,by rw [hd.2] at q;exact q _ H1 sm (.bl _)⟩
end
open Classical in
noncomputable def qae (h:Heap) (d:PyData) (y:Value):Bool:=if q:∃ e as,Reads h y e as then PyData.eqv q.choose d else false
theorem zR {h:Heap} {d e:PyData} {y:Value} {as:List Addr} (r:Reads h y e as):qae h d y=PyData.eqv e d:=by
 unfold qae;have q:∃ e as,Reads h y e as:=⟨e,as,r⟩;rw [dif_pos q];obtain ⟨bs,r'⟩:=q.choose_spec;rw [(Reads.unique r' e as r).1]
theorem yX:∀ {ds:List D} {d:D},d∈ds->dep d<=qbl ds
 | [],_,h=>by cases h
 | x::xs,d,h=>by
  rw [qbl];rcases wu.mp h with rfl | q
  ·exact Nat.le_max_left _ _
  ·exact wQ (yX q) (Nat.le_max_right _ _)
section
variable {X:Cx} {pins:List (Addr×Obj)} {σ:L2.St} {H:Hp} {s:Shared} {B:Addr->Prop}
theorem jA (I:L2.Inv X pins σ H s):∀ {vs:List V} {ds:List D} {us:List Value},Reps X.K B H vs ds->Vals vs us->zM ds=true->∀ u∈us,∃ d∈ds,∃ as,Reads s.heap u (toP d) as
 | _,_,_,.nil,r,_=>by cases r;intro u hu;cases hu
 | _,_,_,.cons a rs,r,h=>by
  cases r with
  | cons r1 r2 =>
   rw [zM,wg] at h;intro u hu;rcases wu.mp hu with rfl | q
   ·obtain ⟨as,z⟩:=a.reads I r1 h.1;exact ⟨_,by simp,as,z⟩
   ·obtain ⟨d,hd,as,z⟩:=jA I rs r2 h.2 u q;exact ⟨d,by simp [hd],as,z⟩
theorem zaa (I:L2.Inv X pins σ H s) {dx:D} (nx:noS dx=true):∀ {vs:List V} {ds:List D} {us:List Value},Reps X.K B H vs ds->Vals vs us->zM ds=true->us.any (qae s.heap (toP dx))=inD dx ds
 | _,_,_,.nil,r,_=>by cases r;rfl
 | _,_,_,.cons a rs,r,h=>by
  cases r with
  | cons r1 r2 =>
   rw [zM,wg] at h;obtain ⟨as,z⟩:=a.reads I r1 h.1;rw [List.any_cons,zR z,qah _ _ h.1 nx,zaa I nx rs r2 h.2,inD]
end
section
variable {X:Cx}
theorem jcW (kvs:List (Int×Int)) (i:Int):(kvs.any λp=>p.1==i)=(kvs.lookup i).isSome:=by
 induction kvs with
 | nil=>rfl
 | cons p r ih =>
  rw [List.any_cons,List.lookup_cons,ih]
  by_cases e:i=p.1
  ·rw [e];simp
  ·rw [wY.mpr λz=>e z.symm,wY.mpr e];rfl
theorem ycw {x y:D} {k:Bool} (h:inC x y=some k):(∃ ds,(y=.tup ds\/y=.lst ds)/\zC x (.tup ds)=true/\k=inD x ds)\/∃ i kvs,x=.int i/\y=.dct kvs/\k=(kvs.lookup i).isSome:=by
 unfold inC at h;split at h
 ·split at h
  ·rename_i q;exact .inl ⟨_,.inl rfl,q,(wB h).symm⟩
  ·cases h
 ·split at h
  ·rename_i q;exact .inl ⟨_,.inr rfl,q,(wB h).symm⟩
  ·cases h
 ·split at h
  ·exact .inr ⟨_,_,rfl,rfl,by rw [<-jcW];exact (wB h).symm⟩
  ·cases h
 ·cases h
theorem ycf {neg:Bool} {dx dy:D} {k:Bool} (h:yC (if neg then .NotIn else .In) dx dy=some k):(∃ ds,(dy=.tup ds\/dy=.lst ds)/\zC dx (.tup ds)=true/\k=(if neg then !inD dx ds else inD dx ds))\/∃ i kvs,dx=.int i/\dy=.dct kvs/\k=(if neg then !(kvs.lookup i).isSome else (kvs.lookup i).isSome):=by
 cases neg with
 | false=>exact ycw h
 | true =>
  obtain ⟨k',h',rfl⟩:=wb (show (inC dx dy).map not=some k from h);rcases ycw h' with ⟨ds,h1,h2,rfl⟩ | ⟨i,kvs,h1,h2,rfl⟩
  ·exact .inl ⟨ds,h1,h2,rfl⟩
  ·exact .inr ⟨i,kvs,h1,h2,rfl⟩
theorem jcw (hu:X.A.units+64<cLine) (neg:Bool):OpR X (compareOp (if neg then .NotIn else .In)) (rD2 X.K (zW (if neg then .NotIn else .In))):=by
 intro pins s σ H x y v u Q I rx ry ⟨B,dx,dy,d,hb,r1,r2,e,q⟩;obtain ⟨k,ek,rfl⟩:=wb (show (yC _ dx dy).map D.bl=some d from e);rcases ycf ek with ⟨ds,hd,ok,rfl⟩ | ⟨i,kvs,rfl,rfl,rfl⟩
 rotate_left
 ·cases r1;cases r2 with
  | dct n ha =>
   cases ry;cases neg with
   | false=>exact jeq I ha rx λs' I'=>⟨.bl _,H,I',rfl,q _ H (Same.refl H) (.bl _) (λ_ z=>nomatch z)⟩
   | true=>exact ycI I ha rx λs' I'=>⟨.bl _,H,I',rfl,q _ H (Same.refl H) (.bl _) (λ_ z=>nomatch z)⟩
 obtain ⟨h1,h2,h3⟩:=eqOk_iff.mp ok;obtain ⟨as,qx⟩:=r1.reads I rx h2
 have he:∀ (vs:List V) (its:List Value),Reps X.K B H vs ds->Vals vs its->∀ w∈its,SeqAt.EqAt X.A.in1 s w v (qae s.heap (toP dx) w):=λvs its r rv w hw=>by
  obtain ⟨d',hd',bs,z⟩:=jA I r rv h3 w hw;rw [zR z]
  have n3:noS d'=true:=by
   have:∀ {l:List D},zM l=true->∀ d∈l,noS d=true:=by
    intro l
    induction l with
    | nil=>intro _ d hd;cases hd
    | cons a r ih =>
     intro h d hd;rw [zM,wg] at h;rcases wu.mp hd with rfl | q
     ·exact h.1
     ·exact ih h.2 d q
   exact this h3 d' hd'
  refine SeqAt.eqAt_reads _ _ _ s w v bs as z qx (yE _ n3) (yE _ h2) ?_;rw [jr,jr]
  have:=yX hd'
  have hq:min (dep d') (dep dx)<=40:=by
   rcases h1 with z | z
   ·exact wQ (Nat.min_le_right _ _) z
   ·rw [dep] at z;exact wQ (Nat.min_le_left _ _) (by omega)
  have:X.A.in1.units=X.A.units+1:=rfl
  omega
 have fin:∀ k,EP X pins σ Q (.bool k) s↔EP X pins σ Q (.bool k) s:=λ_=>Iff.rfl
 rcases hd with rfl | rfl
 ·obtain ⟨a,vs,rfl,ha,ra⟩:=r2.tupD;cases ry;obtain ⟨its,rv,p,hz⟩:=I.tuple (SqT.of ha);have ea:its.toArray.any (qae s.heap (toP dx))=inD dx ds:=by rw [show its.toArray.any (qae s.heap (toP dx))=its.any (qae s.heap (toP dx)) by simp,zaa I h2 ra rv h3]
  cases neg with
  | false =>
   refine SeqAt.in_tupleAt (qae s.heap (toP dx)) p (λw hw=>he vs its ra rv w (by simpa using hw)) ?_;rw [ea];exact ⟨.bl _,H,I,rfl,q _ H (Same.refl H) (.bl _) (λ_ z=>nomatch z)⟩
  | true =>
   refine SeqAt.notIn_tupleAt (qae s.heap (toP dx)) p (λw hw=>he vs its ra rv w (by simpa using hw)) ?_;rw [ea];exact ⟨.bl _,H,I,rfl,q _ H (Same.refl H) (.bl _) (λ_ z=>nomatch z)⟩
 ·obtain ⟨a,vs,rfl,na,ha,ra⟩:=r2.lstD;cases ry;obtain ⟨its,rv,p,hz⟩:=I.list (SqL.of ha);have ea:its.toArray.any (qae s.heap (toP dx))=inD dx ds:=by rw [show its.toArray.any (qae s.heap (toP dx))=its.any (qae s.heap (toP dx)) by simp,zaa I h2 ra rv h3]
  cases neg with
  | false =>
   refine SeqAt.in_listAt (qae s.heap (toP dx)) p.isList (λw hw=>he vs its ra rv w (by simpa using hw)) ?_;rw [ea];exact ⟨.bl _,H,I,rfl,q _ H (Same.refl H) (.bl _) (λ_ z=>nomatch z)⟩
  | true =>
   refine SeqAt.notIn_listAt (qae s.heap (toP dx)) p.isList (λw hw=>he vs its ra rv w (by simpa using hw)) ?_;rw [ea];exact ⟨.bl _,H,I,rfl,q _ H (Same.refl H) (.bl _) (λ_ z=>nomatch z)⟩
end
end Eng
end
section
namespace Eng
open PySem PyProof.Rows
end Eng
end
section
namespace Eng
open PySem PySem.Spec PyProof.Rows L2
variable [Tb]
open PySem.SeqAt
open PySem.AutoSeq1 (wpAny_loadPart')
open PySem.MeetsSeq PySem.MeetsSeq2 PySem.MeetsSeq3
end Eng
end
section
namespace Eng
open PySem PySem.Spec PyProof.Rows L2
variable [Tb]
section
variable {X:Cx} {pins:List (Addr×Obj)} {σ:L2.St} {H:Hp} {s:Shared} {B:Addr->Prop}
theorem qaG (I:L2.Inv X pins σ H s) {dx:D} (nx:noS dx=true):∀ {vs:List V} {ds:List D} {us:List Value},Reps X.K B H vs ds->Vals vs us->zM ds=true->us.countP (qae s.heap (toP dx))=qbm dx ds
 | _,_,_,.nil,r,_=>by cases r;rfl
 | _,_,_,.cons a rs,r,h=>by
  cases r with
  | cons r1 r2 =>
   rw [zM,wg] at h;obtain ⟨as,z⟩:=a.reads I r1 h.1;rw [List.countP_cons,zR z,qah _ _ h.1 nx,qaG I nx rs r2 h.2,qbm,Nat.add_comm]
end
section
variable {X:Cx} {C:Tab} {a b:Expr} {ca cb:Code}
theorem jcf (hu:X.A.units+64<cLine):MtR X "tuple.count" (λx xs H Q=>∃ a vs B ds y dy,x=.ref a/\xs=[y]/\H a=some (.tup vs)/\Reps X.K B H vs ds/\Rep X.K B H y dy/\zC dy (.tup ds)=true/\Q (.int (qbm dy ds)) H):=by
 intro pins s σ H x xs v us Q I rx rv ⟨a,vs,B,ds,y,dy,e1,e2,ha,rs,ry,ho,q⟩;subst e1;subst e2
 cases rx;obtain ⟨u,rfl,ru⟩:=rv.one;obtain ⟨h1,h2,h3⟩:=eqOk_iff.mp ho;obtain ⟨_,its,rits,⟨cls,dd,data,sl⟩,e,hc,hd,n,hdt⟩:=I.hok a _ ha;simp only at hc hdt;subst hc hdt;obtain ⟨bs,rb⟩:=ry.reads I ru h2;refine call_meets F.slot_tuple_count ⟨_,e,rfl⟩ F.entry_tuple_count (F.args_tuple_count_2 _ _) (SeqAt.tuple_countAt a its.toArray n dd sl u (qae s.heap (toP dy))) ⟨e,λy' hy'=>?_,?_⟩
 ·obtain ⟨d,hd',as,z⟩:=jA I rs rits h3 y' (by simpa using hy');rw [zR z]
  have hn:noS d=true:=by
   have all:∀ {ds:List D},zM ds=true->d∈ds->noS d=true:=by
    intro ds
    induction ds with
    | nil=>intro _ h;cases h
    | cons x xs ih =>
     intro h1 h;rw [zM,wg] at h1;rcases wu.mp h with e | e
     ·rw [e];exact h1.1
     ·exact ih h1.2 e
   exact all h3 hd'
  refine SeqAt.eqAt_reads _ _ _ _ _ _ _ _ z rb (yE _ hn) (yE _ h2) ?_;rw [jr,jr]
  have:=yX hd'
  show X.A.units+1+_<_;rcases h1 with z | z
  ·omega
  ·rw [dep] at z;omega
 ·refine ⟨.int (qbm dy ds),H,I.tok _,⟨s.toks,?_⟩,q⟩
  have:its.toArray.toList.countP (qae s.heap (toP dy))=qbm dy ds:=qaG I h2 rs rits h3
  rw [this]
theorem zcg {apos cpos:Pos} (hu:X.A.units+64<cLine) (ha:SE X C a ca) (hb:SE X C b cb) (hbase:attributeBase a "count" X.env (eval a X.env)=eval a X.env) (hline:(apos.endLine==cpos.line)=true) (hsb:starEach [b] X.env=[(false,eval b X.env)]) :
  SE X C (.Call (.Attribute a "count" apos) [b] [] cpos) (.blt .count (.cons ca (.cons cb .nil))):=λB ρ d e=>by
 obtain ⟨dxs,exs',e⟩:=wa (show (evs C (.cons ca (.cons cb .nil)) ρ).bind _=some d from e);obtain ⟨dx,ex,e1⟩:=wa (show (ev C ca ρ).bind _=some dxs from exs');obtain ⟨dr,er,rfl⟩:=wb e1;obtain ⟨dy,ey,e2⟩:=wa (show (ev C cb ρ).bind _=some dr from er);obtain ⟨dn,en,rfl⟩:=wb e2;cases en;cases dx with
 | tup xs =>
  have e:(if zC dy (.tup xs) then some (D.int (qbm dy xs)) else none)=some d:=e;split at e
  ·rename_i ho;cases e;have hpa:PA X [b] (tDs X.K B ρ [dy]):=zi hb yn hsb B ρ _ (by rw [evs,ey];rfl);refine (jbC F.plainAttrs_tuple F.slot_tuple_count F.type_tuple_count (jcf hu) (ha B ρ _ ex) hpa hbase (by rw [hsb];rfl) hline hsb (by rfl)).imp λσ H Q ⟨h1,h2,q⟩=>?_
   refine ⟨h1,h2,λx H1 s1 r1=>?_⟩;obtain ⟨l,vs,rfl,hl,rl⟩:=r1.tupD;refine ⟨qbD hl,h1.same s1,h2.same s1,λws H2 s2 r2=>?_⟩;obtain ⟨y,rfl,ry⟩:=r2.one;exact ⟨l,vs,B,xs,y,dy,rfl,rfl,s2 _ _ hl,rl.same s2,ry,ho,q _ H2 (s1.trans s2) (.int _)⟩
  ·cases e
 | _=>cases e
end
end Eng
end
section
namespace Eng
open PySem PySem.Spec PyProof.Rows L2
variable [Tb]
open PySem.W (KasT kas_asc kas_count kas_sort kas_ask kas_item kat_run kat_snds kat_lt KatLex KatGo KatTups kat_kind kat_cons kat_no kat_go Looks)
theorem zbH:∀ {l m:List Int},l.Perm m->l.Pairwise (·<=·)->l=sortI m:=λ{l m} hp hs=>by
 exact yq (hp.trans (sortI_perm m).symm) hs (yv m)
theorem intsAre_of:∀ {ns:List Int} {its:List Value},Vals (ns.map V.int) its->IntsAre its ns
 | [],_,r=>by cases r;exact .nil
 | n::ns,_,r=>by
  cases r with
  | cons a r=>obtain ⟨t,rfl⟩:=a;exact .cons n t (intsAre_of r)
section
variable {X:Cx} {pins:List (Addr×Obj)} {σ:L2.St} {H:Hp} {s:Shared} {B:Addr->Prop}
theorem yaG:zr X (.builtin "sorted") (rDs X.K (yz .sorted)):=by
 intro pins s σ H xs us Q I rv ⟨B,dx,d,hb,r,e,q⟩
 obtain ⟨ds,rfl,h64,e⟩:∃ ds,dx=[.lst ds]/\ds.length<64/\qco ds=some d:=by
  match dx,e with
  | [.lst ds],e =>
   have e:(if ds.length<64 then qco ds else none)=some d:=e;split at e
   ·rename_i h;exact ⟨ds,rfl,h,e⟩
   ·cases e
 obtain ⟨v,rfl,rx⟩:=r.one;obtain ⟨a,vs,rfl,na,ha,ra⟩:=rx.lstD;obtain ⟨u,rfl,ru⟩:=rv.one;cases ru;obtain ⟨its,rits,⟨o,n,ho,hc,_,hd⟩,hz⟩:=I.list (SqL.of ha);have hl:its.length=ds.length:=by rw [<-rits.length,ra.length]
 have fin:∀ (out:Array Value) (ws:List V) (es:List D),d=.lst es->Vals ws out.toList->ws.length<64->Reps X.K B H ws es->EP X pins σ Q (.ref (s.heap.objs.size+1)) { s with heap:=sortedAll s.heap its out }:=λout ws es hd' rw' hw rs=>by
  subst hd';obtain ⟨ep,hat⟩:=sortedAll_at s.heap its out;have hn:H (s.heap.objs.size+1)=none:=I.hok.fresh (Nat.le_succ _);exact ⟨.ref (s.heap.objs.size+1),upd H (s.heap.objs.size+1) (.lst ws),I.laid (t':=s.toks) (λb o e=>sortedAll_old e) (Nat.le_succ _) ⟨by rw [sizeLine_eq];omega,out.toList,ep,rw',by rw [Array.toArray_toList];exact hat⟩,rfl,q _ _ (qa hn _) (.newL hb hn rs) λ_ _=>⟨_,rfl,hn⟩⟩
 unfold qco at e;split at e
 ·rename_i ns hns;cases e;have hv:=ra.ints hns;subst hv;refine sorted_ints ⟨o,ho,hc,n,hd⟩ (intsAre_of rits) (by omega) λout ns' h1 h2 h3=>?_
  have e1:=zbH h2 h3;subst e1;refine fin out ((sortI ns).map V.int) _ rfl (qN h1) ?_ (Reps.of_ints _);rw [wD,(sortI_perm ns).length_eq];rw [wD] at hz
  have:=rits.length
  rw [wD] at this;omega
 ·cases e
end
end Eng
end
section
namespace Eng
open PySem PySem.Spec PyProof.Rows L2
variable [Tb]
section
variable {X:Cx} {pins:List (Addr×Obj)} {σ:L2.St} {H:Hp} {s:Shared} {B:Addr->Prop}
theorem jaG (I:L2.Inv X pins σ H s) {dx:D} (nx:noS dx=true):∀ {vs:List V} {ds:List D} {us:List Value} {i:Nat},Reps X.K B H vs ds->Vals vs us->zM ds=true->Eng.idxOf dx ds=some i->(∃ u,us[i]?=some u/\qae s.heap (toP dx) u=true)/\∀ (m:Nat) (u:Value),us[m]?=some u->m<i->qae s.heap (toP dx) u=false
 | _,_,_,_,.nil,r,_,e=>by cases e
 | _,_,_,i,.cons (d:=d) (ds:=ds) a rs,r,h,e=>by
  cases r with
  | @cons _ u _ us r1 r2 =>
   rw [zM,wg] at h;obtain ⟨as,z⟩:=a.reads I r1 h.1;have hq:qae s.heap (toP dx) u=eqD d dx:=by rw [zR z,qah _ _ h.1 nx]
   rw [Eng.idxOf] at e;cases hd:eqD d dx with
   | true =>
    rw [hd,if_pos rfl] at e;cases e;exact ⟨⟨u,rfl,by rw [hq,hd]⟩,λm u' _ hm=>absurd hm (Nat.not_lt_zero _)⟩
   | false =>
    rw [hd,if_neg wA] at e;obtain ⟨j,ej,rfl⟩:=wb e;obtain ⟨h1,h2⟩:=jaG I nx rs r2 h.2 ej;refine ⟨by simpa using h1,λm u' hm hlt=>?_⟩;cases m with
    | zero =>
     have:u=u':=by simpa using hm
     rw [<-this,hq,hd]
    | succ m=>exact h2 m u' (by simpa using hm) (by omega)
end
section
variable {X:Cx} {C:Tab} {a b:Expr} {ca cb:Code}
theorem qcg (hu:X.A.units+64<cLine):MtR X "tuple.index" (λx xs H Q=>∃ a vs B ds y dy,x=.ref a/\xs=[y]/\H a=some (.tup vs)/\Reps X.K B H vs ds/\Rep X.K B H y dy/\zC dy (.tup ds)=true/\∃ i,Eng.idxOf dy ds=some i/\Q (.int (i:Nat)) H):=by
 intro pins s σ H x xs v us Q I rx rv ⟨a,vs,B,ds,y,dy,e1,e2,ha,rs,ry,ho,i,hi,q⟩;subst e1;subst e2
 cases rx;obtain ⟨u,rfl,ru⟩:=rv.one;obtain ⟨h1,h2,h3⟩:=eqOk_iff.mp ho;obtain ⟨_,its,rits,⟨cls,dd,data,sl⟩,e,hc,hd,n,hdt⟩:=I.hok a _ ha;simp only at hc hdt;subst hc hdt;obtain ⟨bs,rb⟩:=ry.reads I ru h2;obtain ⟨⟨u0,hu0,hit⟩,hno⟩:=jaG I h2 rs rits h3 hi
 have hlt:i<its.toArray.size:=by
  have:=(wq.mp hu0).1
  simpa using this
 refine call_meets F.slot_tuple_index ⟨_, e, rfl⟩ F.entry_tuple_index (F.args_tuple_index_2 _ _) (yas a its.toArray n dd sl u (qae s.heap (toP dy)) i hlt (by
  have e2:its.toArray[i]=u0:=by
   have:=(wq.mp hu0).2
   simpa using this
  rw [e2];exact hit) λm hm hlt'=>hno m _ (by simp at hm ⊢) hlt') ⟨e,λy' hy'=>?_,?_⟩
 ·obtain ⟨d,hd',as,z⟩:=jA I rs rits h3 y' (by simpa using hy');rw [zR z]
  have hn:noS d=true:=by
   have all:∀ {ds:List D},zM ds=true->d∈ds->noS d=true:=by
    intro ds
    induction ds with
    | nil=>intro _ h;cases h
    | cons x xs ih =>
     intro h1 h;rw [zM,wg] at h1;rcases wu.mp h with e | e
     ·rw [e];exact h1.1
     ·exact ih h1.2 e
   exact all h3 hd'
  refine SeqAt.eqAt_reads _ _ _ _ _ _ _ _ z rb (yE _ hn) (yE _ h2) ?_;rw [jr,jr]
  have:=yX hd'
  show X.A.units+1+_<_;rcases h1 with z | z
  ·omega
  ·rw [dep] at z;omega
 ·exact ⟨.int (i:Nat),H,I.tok _,⟨s.toks,rfl⟩,q⟩
theorem ycg {apos cpos:Pos} (hu:X.A.units+64<cLine) (ha:SE X C a ca) (hb:SE X C b cb) (hbase:attributeBase a "index" X.env (eval a X.env)=eval a X.env) (hline:(apos.endLine==cpos.line)=true) (hsb:starEach [b] X.env=[(false,eval b X.env)]) :
  SE X C (.Call (.Attribute a "index" apos) [b] [] cpos) (.blt .index (.cons ca (.cons cb .nil))):=λB ρ d e=>by
 obtain ⟨dxs,exs',e⟩:=wa (show (evs C (.cons ca (.cons cb .nil)) ρ).bind _=some d from e);obtain ⟨dx,ex,e1⟩:=wa (show (ev C ca ρ).bind _=some dxs from exs');obtain ⟨dr,er,rfl⟩:=wb e1;obtain ⟨dy,ey,e2⟩:=wa (show (ev C cb ρ).bind _=some dr from er);obtain ⟨dn,en,rfl⟩:=wb e2;cases en;cases dx with
 | tup xs =>
  have e:(if zC dy (.tup xs) then (Eng.idxOf dy xs).map (λi:Nat=>D.int (i:Int)) else none)=some d:=e;split at e
  ·rename_i ho;obtain ⟨i,hi,rfl⟩:=wb e;have hpa:PA X [b] (tDs X.K B ρ [dy]):=zi hb yn hsb B ρ _ (by rw [evs,ey];rfl);refine (jbC F.plainAttrs_tuple F.slot_tuple_index F.type_tuple_index (qcg hu) (ha B ρ _ ex) hpa hbase (by rw [hsb];rfl) hline hsb (by rfl)).imp λσ H Q ⟨h1,h2,q⟩=>?_
   refine ⟨h1,h2,λx H1 s1 r1=>?_⟩;obtain ⟨l,vs,rfl,hl,rl⟩:=r1.tupD;refine ⟨qbD hl,h1.same s1,h2.same s1,λws H2 s2 r2=>?_⟩;obtain ⟨y,rfl,ry⟩:=r2.one;exact ⟨l,vs,B,xs,y,dy,rfl,rfl,s2 _ _ hl,rl.same s2,ry,ho,i,hi,q _ H2 (s1.trans s2) (.int _)⟩
  ·cases e
 | _=>cases e
end
def zcX (X:Cx) (pos:Pos):Prop:=∃ c P,X.env.code=.ref c/\PySem.W.codeHdIn X.K c P=true/\(P,pos,X.env.qual++"<lambda>")∈Tb.tabs
def FnL (H:Hp) (fa c:Addr) (qual:Str) (fo:Obj):Prop:=H fa=some (.frz fo (.own fa))/\∃ oc u vs t,H c=some (.frz oc u)/\oc.data=.fields vs/\vs[1]?=some (.str qual t)
theorem FnL.same {H H':Hp} {fa c:Addr} {q:Str} {fo:Obj} (h:FnL H fa c q fo) (s:Same H H'):FnL H' fa c q fo :=
 let ⟨h1,oc,u,vs,t,h2,h3,h4⟩:=h;⟨s _ _ h1,oc,u,vs,t,s _ _ h2,h3,h4⟩
section
variable {X:Cx} {pins:List (Addr×Obj)} {σ:L2.St} {H:Hp} {s:Shared} {B:Addr->Prop}
theorem FnL.code {fa c:Addr} {q:Str} {fo:Obj} (h:FnL H fa c q fo) (I:L2.Inv X pins σ H s):s.heap.CodeRec (.ref c) q :=
 let ⟨_,oc,u,vs,t,h2,h3,h4⟩:=h;⟨c,oc,vs,t,rfl,(I.hok c _ h2).1,h3,h4⟩
theorem jcg {params:Arguments} {body:Expr} {scope:Scope} {pos:Pos} (hdef:defaultsOf params X.env=([],[])) (hfr:∀ x∈scope.names,x.2=.free->(X.env.cells.lookup x.1).isSome=true) (hl:zcX X pos) (I:L2.Inv X pins σ H s) (hb:HB B H)
  {Q E:Value->Shared->Prop}
  (h:∀ (fa c:Addr) (pm ctv:Value) (H':Hp) (s':Shared),L2.Inv X pins σ H' s'->Same H H'->FnL H' fa c (X.env.qual++"<lambda>") (PySem.W.kla_obj "<lambda>" (X.env.qual++"<lambda>") params body scope (yH X.env.cells scope.names []) pm c ctv)->Q (.ref fa) s') :
  wpAny (model X.prog X.w) X.A (eval (.Lambda params body scope pos) X.env) Q E s:=by
 obtain ⟨c,P,hcode,hcd,hmem⟩:=hl;have hP:=hb.t _ hmem;obtain ⟨ps,eP,ht,hq⟩:=I.hok P _ hP;have C:=PySem.W.codeHd_of_K I.kIn hcd;have hg:=I.mod.glob.keeps I.bk;obtain ⟨bm,ob,b1,b2,b3,b4,b5,b6⟩:=I.mod.bmod;have b3':=I.bk _ _ b3
 have hgP:mainGlobals≠P:=λq=>by
  obtain ⟨o,es,ep,e,hd,_⟩:=hg;rw [q,eP] at e;cases e;cases hd
 have hbP:bm≠P:=λq=>by rw [q,eP] at b3';cases b3';cases b4
 have hbG:bm≠mainGlobals:=λq=>by
  obtain ⟨o,es,ep,e,hd,_⟩:=hg;rw [q,e] at b3';cases b3';rw [hd] at b6;cases b6
 have bA:s.heap.BuiltinsAt X.mg P:=⟨bm,ob,b1,b2,hbG,hbP,b3',b4,b5,b6⟩;refine PySem.W.kla_eval hdef ?_;cases hf:codeAmong pos ps.toList with
 | some cv =>
  obtain ⟨c',oc,u,vs,t,rfl,hc1,hc2,hc3⟩:=hq cv hf;refine PySem.W.kla_makeFunctionHit (jH hfr) I.ok.glob hg hcode C eP ht hf bA λctv h' tk hk hsz=>?_
  have hfn:H h'.objs.size=none:=I.hok.fresh hsz;exact h h'.objs.size c' _ ctv _ _ (I.laid (o:=.frz _ (.own h'.objs.size)) (t':=tk) (λb u e=>wj _ (hk b u e)) hsz ⟨wt _ rfl,_,wt _ rfl⟩) (qa hfn _) ⟨ya,oc,u,vs,t,qa hfn _ _ _ hc1,hc2,hc3⟩
 | none =>
  refine PySem.W.kla_makeFunction (jH hfr) I.ok.glob hg hcode C eP ht hf hgP bA λc' ctv h' tk hx hge hlt hrec htb=>?_
  obtain ⟨c₂,oc,vs,t,e2,hoc,hd,hv⟩:=hrec;cases e2;have hcn:H c'=none:=I.hok.fresh hge;have hfz:s.heap.objs.size<=h'.objs.size:=wQ hge (Nat.le_of_lt hlt);have hfn:H h'.objs.size=none:=I.hok.fresh hfz;have hcf:c'≠h'.objs.size:=wM hlt;obtain ⟨fo,hfo⟩:∃ fo,fo=PySem.W.kla_obj "<lambda>" (X.env.qual++"<lambda>") params body scope (yH X.env.cells scope.names []) ((X.mg "__name__").getD .none) c' ctv:=⟨_,rfl⟩;obtain ⟨H1,hH1⟩:∃ H1,H1=upd (upd H c' (.frz oc (.own c'))) h'.objs.size (.frz fo (.own h'.objs.size)):=⟨_,rfl⟩;have at_f:H1 h'.objs.size=some (.frz fo (.own h'.objs.size)):=by rw [hH1];exact ya
  have at_c:H1 c'=some (.frz oc (.own c')):=by rw [hH1,ja hcf];exact ya
  have at_o:∀ b,b≠c'->b≠h'.objs.size->H1 b=H b:=λb n1 n2=>by rw [hH1,ja n2,ja n1]
  have sm:Same H H1:=λb o e=>by
   rw [at_o b (λz=>by rw [z,hcn] at e;cases e) (λz=>by rw [z,hfn] at e;cases e)];exact e
  have neP:∀ b,H b=none->b≠P:=λb n z=>by rw [z,hP] at n;cases n
  have kp:∀ b o,b≠P->s.heap.get? b=some o->(h'.push fo).get? b=some o:=λb o n e=>wj _ (hx b o n e)
  have fP:(h'.push fo).get? P=some (PySem.W.tabObj (ps++#[rawInt pos.line,rawInt pos.col,.ref c'])):=wj _ htb;rw [<-hfo]
  have I1:L2.Inv X pins σ H1 { s with heap:=h'.push fo,toks:=tk }:=by
   refine I.un ⟨λb o e n _ _=>kp b o (neP b n) e,λb o e n _ _=>⟨o.slots,kp b o (neP b n) e⟩,λb o e n _=>?_,λb o e _=>?_,λb xs e=>sm b _ e,λb o u e=>sm b _ e,λb p q e=>sm b _ e⟩ λa o e=>?_
   ·have hlt':=wz e;rw [at_o b (wM (wL hlt' hge)) (wM (wL hlt' hfz))];exact n
   ·by_cases z:b=P
    ·exact ⟨_,z▸fP⟩
    ·exact ⟨o,kp b o z e⟩
   ·by_cases z:a=h'.objs.size
    ·subst z;rw [at_f] at e;cases e
     exact ⟨wt _ (by rw [hfo];rfl),_,wt _ (by rw [hfo];rfl)⟩
    ·by_cases y:a=c'
     ·subst y;rw [at_c] at e;cases e
      exact ⟨wj _ hoc,_,wj _ hoc⟩
     ·rw [at_o a y z] at e
      by_cases x:a=P
      ·subst x;rw [hP] at e;cases e
       refine ⟨_,fP,by rw [Array.toList_append];exact TriplesOk_snoc _ _ _ _ ht,λcv q=>?_⟩;rw [Array.toList_append] at q
       have:=(codeAmong_snoc (c:=.ref c') ps.toList ht hf).symm.trans q
       cases this;exact ⟨c',oc,_,vs,t,rfl,at_c,hd,hv⟩
      ·refine (I.hok a o e).stay (λb u hb q=>kp b u (λw=>?_) q) (λb q=>sm b _ q) (λb xs q=>sm b _ q) λb o u q=>sm b _ q
       rcases hb with w' | w'
       ·exact x (w'.symm.trans w)
       ·rw [w,hP] at w';cases w'
  exact h _ c' _ ctv H1 _ I1 sm (by rw [<-hfo];exact ⟨at_f,oc,_,vs,t,at_c,hd,hv⟩)
end
noncomputable def qbH (X:Cx) (scope:Scope) (L fa:Addr) (cd:Value):Env:=newEnv scope L mainGlobals (yH X.env.cells scope.names []) (X.env.qual++"<lambda>"++".<locals>.") (some fa) cd none builtinsNs
noncomputable def lam (X:Cx) (N':List Str) (scope:Scope) (s₀:Shared) (H₀:Hp) (fa:Addr) (cd:Value):Cx :=
 { X with A:=X.A.in1.deeper (qbH X scope s₀.heap.objs.size fa cd),N:=N',s₀:=s₀,H₀:=H₀,env:=qbH X scope s₀.heap.objs.size fa cd,outer:=X.stack,stack:=qbH X scope s₀.heap.objs.size fa cd::X.stack,ex:=[],fn:=λ_=>false,pn:=[],xe:=λ_ _=>False }
section
variable {X:Cx} {pins:List (Addr×Obj)} {σ:L2.St} {H:Hp} {s:Shared}
theorem jdG {N':List Str} {scope:Scope} {fa:Addr} {cd:Value} (I:L2.Inv X pins σ H s) (hk:scope.kind=.function) (hnc:∀ x∈scope.names,x.2≠.cell) (hfr:∀ x∈scope.names,x.2=.free->X.env.kindOf x.1=some .cell\/X.env.kindOf x.1=some .free):(lam X N' scope s H fa cd).Ok:=by
 have hs:∀ x∈scope.names,x.2=.free->(X.env.cells.lookup x.1).isSome=true:=λx hx hx2=>by
  obtain ⟨c,e⟩:=I.ok.has x.1 (hfr x hx hx2);rw [e];rfl
 have look:∀ x c,(yH X.env.cells scope.names []).lookup x=some c->X.env.cells.lookup x=some c:=jx _ _ _ hs (λx c e=>by simp at e);refine ⟨I.ok.mod,hk,rfl,rfl,wC _,λx y c h1 h2=>I.ok.inj x y c (look x c h1) (look y c h2),λx hx=>?_,λx c hfn _=>(by cases hfn),I.ok.hd,Around.frames_deeper I.ok.frames,.inr ⟨rfl,rfl⟩,λb z=>absurd z List.not_mem_nil,I.bs,wQ I.ok.bsz I.sz,λb _ _=>List.not_mem_nil,λb z=>absurd z List.not_mem_nil,I.stack,I.stkFree⟩;have hx':scope.names.lookup x=some .cell\/scope.names.lookup x=some .free:=hx;rcases hx' with z | z
 ·exact absurd rfl (hnc _ (wZ z))
 ·exact w9.mp (zI _ _ _ x (.inl (wZ z)))
theorem qcX {N':List Str} {scope:Scope} {fa:Addr} {cd:Value} {h':Heap} {tk:Nat} {m:Str->Option Value} {σ':L2.St} {y:Str} {v0:V} {u0:Value} (I:L2.Inv X pins σ H s) (ok:(lam X N' scope s H fa cd).Ok) (hn:h'.Ns s.heap.objs.size m) (hm:m y=some u0) (hy:scope.names.lookup y=some .local) (r0:L2.RelV v0 u0)
  (hk:∀ b o,s.heap.get? b=some o->h'.get? b=some o) (hl:σ'.length=N'.length) (hfr:∀ x∈scope.names,x.2=.free->(X.env.cells.lookup x.1).isSome=true)
  (hσ:∀ (i:Nat) (x:Str) (v:V),N'[i]?=some x->σ'[i]?=some (some v)->(x=y/\v=v0)\/(scope.names.lookup x=some .free/\∃ j:Nat,X.N[j]?=some x/\σ[j]?=some (some v)/\(X.env.scope.names.lookup x=some .cell\/X.env.scope.names.lookup x=some .free))) :
  L2.Inv (lam X N' scope s H fa cd) [] σ' H { s with heap:=h',toks:=tk }:=by
 have look:∀ x c,(yH X.env.cells scope.names []).lookup x=some c->X.env.cells.lookup x=some c:=jx _ _ _ hfr (λx c e=>by simp at e);have cellK:∀ c v,s.heap.IsCell c v->h'.IsCell c v:=λc v ⟨o,ho,hd⟩=>⟨o,hk c o ho,hd⟩
 refine ⟨ok,rfl,I.bare,Un.kept hk,⟨m,hn,λi x v e1 e2 _=>?_⟩,λx c e=>?_,I.fresh,λx c e=>I.freeC x c (look x c e),λp hp=>(by cases hp),I.hok.kept hk,hl⟩
 ·rcases hσ i x v e1 e2 with ⟨rfl,rfl⟩ | ⟨k1,j,e3,e4,k3⟩
  ·exact ⟨u0,r0,.inl ⟨hy,hm⟩⟩
  ·obtain ⟨c,hc⟩:=w9.mp (zI X.env.cells scope.names [] x (.inl (wZ k1)));obtain ⟨mX,_,hX⟩:=I.loc;obtain ⟨u,ru,lk⟩:=hX j x v e3 e4 (k3.elim (λz=>.inr (.inl z)) λz=>.inr (.inr z));refine ⟨u,ru,.inr ⟨.inr k1,c,hc,?_⟩⟩;rcases lk with ⟨z,_⟩ | ⟨_,c',hc',z⟩
   ·have z':X.env.scope.names.lookup x=some .local:=z;rcases k3 with k | k<;>(rw [k] at z';cases z')
   ·rw [look x c hc] at hc';cases hc';exact cellK c _ z
 ·obtain ⟨v,z⟩:=I.cell x c (look x c e);exact ⟨v,cellK c v z⟩
end
structure LamS (X:Cx) (C:Tab) (y:Str) (body:Expr) (scope:Scope) (ce:Code) (keep:List Nat) (N':List Str):Prop where
 kind:scope.kind=.function
 nc:∀ x∈scope.names,x.2≠.cell
 co:scope.isCoroutine=false
 gen:scope.isGenerator=false
 fr:∀ x∈scope.names,x.2=.free->X.env.kindOf x.1=some .cell\/X.env.kindOf x.1=some .free
 par:scope.names.lookup y=some .local
 hd:N'[0]?=some y
 len:N'.length=1+keep.length
 kp:∀ (k j:Nat),keep[k]?=some j->∃ x,N'[1+k]?=some x/\X.N[j]?=some x/\scope.names.lookup x=some .free/\(X.env.scope.names.lookup x=some .cell\/X.env.scope.names.lookup x=some .free)
 E:∀ s₀ H₀ fa cd,SE (lam X N' scope s₀ H₀ fa cd) C body ce
section
variable {X:Cx} {C:Tab} {y:Str} {body:Expr} {scope:Scope} {ce:Code} {keep:List Nat} {N':List Str} {pins:List (Addr×Obj)} {σ:L2.St} {H:Hp} {s:Shared} {B:Addr->Prop} {ρ:En}
theorem LamS.some (S:LamS X C y body scope ce keep N') (I:L2.Inv X pins σ H s):∀ x∈scope.names,x.2=.free->(X.env.cells.lookup x.1).isSome=true:=λx hx hx2=>by
 obtain ⟨c,e⟩:=I.ok.has x.1 (S.fr x hx hx2);rw [e];rfl
theorem zch (S:LamS X C y body scope ce keep N') (hroom:X.A.depth<recursionLimit) {params:Arguments} {pm ctv:Value} {fa c:Addr} {x:V} {u:Value} {d dz:D}
  (hbind:∀ pm cd ctv u,bindArgs (PySem.W.kla_fn "<lambda>" (X.env.qual++"<lambda>") params body scope (yH X.env.cells scope.names []) pm cd ctv) ⟨[u],[]⟩=pure [(y,u)])
  (I:L2.Inv X pins σ H s) (F:FnL H fa c (X.env.qual++"<lambda>") (PySem.W.kla_obj "<lambda>" (X.env.qual++"<lambda>") params body scope (yH X.env.cells scope.names []) pm c ctv)) (hb:HB B H) (er:ER X.K B H σ ρ) (rx:L2.RelV x u) (rp:Rep X.K B H x d)
  (e:ev C ce (some d::keep.map λi=>(ρ[i]?).join)=some dz) {E:Value->Shared->Prop} :
  wpAny (model X.prog X.w) X.A.in1 (call (.ref fa) [u]) (EP X pins σ λv H'=>Same H H'/\Rep X.K B H' v dz) E s:=by
 have ho:=(I.hok fa _ F.1).1;refine wpAny_call (PySem.W.kla_callFunE (A:=X.A.in1) hroom ho rfl S.co S.gen rfl (F.code I) ?_);rw [hbind];refine wm (wpAny_newFunctionEnv S.nc (λz hz=>?_) (λh₁ hns hsb=>⟨I.nolimit.fresh _ hsb,?_⟩) S.kind)
 ·have:z=(y,u):=by simpa using hz
  subst this;exact S.par
 have hk₁:∀ b o,s.heap.get? b=some o->h₁.get? b=some o:=λb o e=>hsb.extBut b o (wM (wz e)) (wj _ e)
 have ok:(lam X N' scope s H fa (.ref c)).Ok:=jdG I S.kind S.nc S.fr
 have I1:L2.Inv (lam X N' scope s H fa (.ref c)) [] (some x::keep.map λi=>(σ[i]?).join) H { s with heap:=h₁,toks:=s.toks+[(y,u)].length }:=by
  refine qcX (y:=y) (v0:=x) (u0:=u) I ok hns (by simp) S.par rx hk₁ (by simp [S.len];omega) (S.some I) λi z v e1 e2=>?_
  cases i with
  | zero =>
   rw [S.hd] at e1;cases e1
   exact .inl ⟨rfl,by simpa using e2.symm⟩
  | succ k =>
   right
   rw [List.getElem?_cons_succ,wx] at e2;cases hj:keep[k]? with
   | none=>rw [hj] at e2;cases e2
   | some j =>
    rw [hj] at e2;obtain ⟨z',y1,y2,y3,y4⟩:=S.kp k j hj;rw [Nat.add_comm,e1] at y1;cases y1;refine ⟨y3,j,y2,?_,y4⟩;have h':(σ[j]?).join=some v:=wB e2;cases q:σ[j]? with
    | none=>rw [q] at h';cases h'
    | some o=>rw [q] at h';exact congrArg some h'
 have er1:ER X.K B H (some x::keep.map λi=>(σ[i]?).join) (some d::keep.map λi=>(ρ[i]?).join):=λi d' e1=>by
  cases i with
  | zero =>
   have:d=d':=by simpa using e1
   subst this;exact ⟨x,rfl,rp⟩
  | succ k =>
   rw [List.getElem?_cons_succ,wx] at e1;cases hj:keep[k]? with
   | none=>rw [hj] at e1;cases e1
   | some j =>
    rw [hj] at e1;have h':(ρ[j]?).join=some d':=wB e1
    have h'':ρ[j]?=some (some d'):=by
     cases q:ρ[j]? with
     | none=>rw [q] at h';cases h'
     | some o=>rw [q] at h';exact congrArg some h'
    obtain ⟨v,e2,rv⟩:=er j d' h'';refine ⟨v,?_,rv⟩;rw [List.getElem?_cons_succ,wx,hj];show some ((σ[j]?).join)=_;rw [e2];rfl
 refine PySem.W.kla_codeExpr ?_;have run:=S.E s H fa (.ref c) B _ dz e [] _ _ H (λv H'=>Same H H'/\Rep X.K B H' v dz) I1 ⟨hb,er1,λv H' s r=>⟨s,r⟩⟩;exact wpAny_mono run (λz s' ⟨v,H',I',rz,q⟩=>I.after ⟨v,H',I'.os,I'.bare,I'.base,I'.hok,rz,q⟩) λ_ _ z=>z.elim
end
theorem _root_.L2.FpOk.to {X:Cx} {pins:List (Addr×Obj)} {H H2:Hp} {b:Addr} (h:FpOk X pins H b) (n:H2 b=none):FpOk X pins H2 b:=⟨n,h.2⟩
theorem ycX {prog:Program} {w:World} {A:Around} {s:Shared} {Q E:Value->Shared->Prop} {i j:Int} {t u:Tok} (h:Q (.bool (decide (i<j))) s):wpAny (model prog w) A (richCompare .Lt (.int i t) (.int j u)) Q E s :=
 CmpOf.ints_lt (P:=λn v=>∃ t,v=.int (if n=0 then i else j) t) (λn=>if n=0 then i else j) (λ_ _ h=>h) 0 1 _ _ _ _ _ ⟨t,rfl⟩ ⟨u,rfl⟩ h
noncomputable abbrev qch (its:Array Value) (c:Nat):Obj:={ cls:=.type "list",data:=.seq its c }
section
variable {X:Cx} {pins:List (Addr×Obj)} {σ:L2.St} {B:Addr->Prop}
theorem _root_.L2.Inv.moved {H:Hp} {s:Shared} {h':Heap} {tk:Nat} {b:Addr} (I:L2.Inv X pins σ H s) (f:FpOk X pins H b) (k:∀ c o,c≠b->s.heap.get? c=some o->h'.get? c=some o):L2.Inv X pins σ H { s with heap:=h',toks:=tk } :=
 I.turned k f.1 f.2.1 f.2.2.2.1 f.2.2.2.2.1 f.2.2.2.2.2
def jeh (X:Cx) (σ:L2.St) (B:Addr->Prop) (H0:Hp) (fa:Addr) (f:D->Option D):Prop :=
 ∀ (pins:List (Addr×Obj)) (s:Shared) (H:Hp) (x:V) (u:Value) (d k:D),L2.Inv X pins σ H s->Same H0 H->L2.RelV x u->Rep X.K B H x d->f d=some k ->
  wpAny (model X.prog X.w) X.A.in1 (call (.ref fa) [u]) (EP X pins σ λv H'=>Same H H'/\Rep X.K B H' v k) (λ_ _=>False) s
theorem _root_.L2.Inv.two {H:Hp} {s:Shared} {S It:Addr} {oS oI:Obj} (I:L2.Inv X pins σ H s) (fS:FpOk X pins H S) (fI:FpOk X pins H It) (hS:s.heap.get? S=some oS) (hI:s.heap.get? It=some oI) (dS:∀ v,oS.data≠.cell v) (dI:∀ v,oI.data≠.cell v):L2.Inv X (pins++[(S,oS),(It,oI)]) σ H s :=
 I.pins_of λp hp=>by
  rcases List.mem_append.mp hp with z | z
  ·exact I.pin p (wK _ z)
  ·rcases wu.mp z with rfl | z
   ·exact ⟨hS,fS.1,fS.2.1,fS.2.2.1,dS⟩
   ·rw [va.mp z];exact ⟨hI,fI.1,fI.2.1,fI.2.2.1,dI⟩
theorem ybH {t:Bool} {a It S fa:Addr} {vs:List V} {ds:List D} {H0:Hp} {f:D->Option D} {m:D} {R:Result->Shared->Prop} (hc:X.calm=true)
  (sqm:∀ H,Same H0 H->Sq t X.K H a vs) (rs:Reps X.K B H0 vs ds) (hSI:S≠It) (turn:jeh X σ B H0 fa f)
  (hR:∀ v u H' s',L2.Inv X pins σ H' s'->Same H0 H'->L2.RelV v u->Rep X.K B H' v m->R (.ok (.ret u)) s') :
  ∀ (r j:Nat) (s:Shared) (H:Hp) (vb:Value) (xb:V) (b:D) (kb:Int) (tb:Tok) (c:Nat),ds.length-j=r->j<=ds.length->L2.Inv X pins σ H s->Same H0 H->FpOk X pins H S->FpOk X pins H It ->
   s.heap.get? S=some (qch #[vb,.int kb tb] c)->SItr t s.heap It a j->L2.RelV xb vb->Rep X.K B H xb b->zaz f b kb (ds.drop j)=some m ->
   codeAny (model X.prog X.w) X.A (.builtin "min.loop" ⟨[.ref It,.ref fa,.ref S],[]⟩) R s:=by
 have hname:(toString "min"++toString ".loop":String)="min.loop":=by decide
 intro r
 induction r with
 | zero =>
  intro j s H vb xb b kb tb c hr hj I sm fS fI hS hit rb pb hm;have hin:j=ds.length:=by omega
  subst hin;rw [List.drop_length] at hm;cases hm;obtain ⟨its,rits,p,hz⟩:=I.sseq (sqm H sm);have hsz:its.toArray.size=ds.length:=by rw [vj,<-rits.length,rs.length]
  have W:=yN (prog:=X.prog) (w:=X.w) (A:=X.A.in1) (by simp [I.ok.hd hc]) t It a (p.ne_itr hit) its.toArray;refine codeAny_builtin PySem.F.entry_min_loop ?_;rw [Around.under_plainId PySem.F.plain_min_loop _];show wpAny _ X.A.in1 (seqItems? (.ref S) >>= _) _ _ _;refine we (wpAny_seqItems hS rfl ?_);show wpAny _ X.A.in1 (tryCatch (pyNext (.ref It)) _ >>= _) _ _ _;refine we (wpAny_tryCatch (W.done _ _ _ ⟨by rw [hsz];exact hit,p⟩ λh' tk' hk'=>?_));have hS':=hk' S _ (by simpa using hSI) hS;have I1:=I.moved (tk:=tk') fI λb o n e=>hk' b o (by simpa using n) e
  have s1:=Heap.SameBut.update h' S (Obj.mapSeq λ_=>(#[]:Array Value));show wpAny _ X.A.in1 (updateSeq S (λ_=>#[]) >>= _) _ _ _;refine we ?_;refine wpAny_updateSeq hS' rfl (we (wpAny_letGo (wm ?_)));exact hR xb vb H _ (I1.moved (tk:=tk') fS λb o n e=>(s1.2 b n).trans e) sm rb pb
 | succ r ih =>
  intro j s H vb xb b kb tb c hr hj I sm fS fI hS hit rb pb hm;have hlt:j<ds.length:=by omega
  obtain ⟨its,rits,p,hz⟩:=I.sseq (sqm H sm);have hsz:its.toArray.size=ds.length:=by rw [vj,<-rits.length,rs.length]
  have W:=yN (prog:=X.prog) (w:=X.w) (A:=X.A.in1) (by simp [I.ok.hd hc]) t It a (p.ne_itr hit) its.toArray;refine codeAny_builtin PySem.F.entry_min_loop ?_;rw [Around.under_plainId PySem.F.plain_min_loop _];show wpAny _ X.A.in1 (seqItems? (.ref S) >>= _) _ _ _;refine we (wpAny_seqItems hS rfl ?_);show wpAny _ X.A.in1 (tryCatch (pyNext (.ref It)) _ >>= _) _ _ _;refine we (wpAny_tryCatch (W.item j _ _ _ (by rw [hsz];exact hlt) ⟨hit,p⟩ λv h' tk' hP hst' hk'=>?_));have hS':=hk' S _ (by simpa using hSI) hS;obtain ⟨oI',nm,hoI',hoc,hcn,hod⟩:=hst'.1.ob;have hd:ds[j]?=some ds[j]:=by simp [hlt]
  obtain ⟨d,hdd⟩:∃ d,d=ds[j]:=⟨_,rfl⟩;rw [<-hdd] at hd;obtain ⟨x,hx,rx⟩:=rs.get hd;obtain ⟨u,hu,ru⟩:=rits.get hx;have hv:its[j]?=some v:=by simpa using hP
  rw [hu] at hv;have huv:=wB hv;subst huv
  rw [List.drop_eq_getElem_cons hlt,<-hdd] at hm;obtain ⟨k,ek,hm⟩:=wa (show (f d).bind _=some m from hm);cases k with
  | int i =>
   have I1:=I.moved (tk:=tk') fI λb o n e=>hk' b o (by simpa using n) e
   have I1p:=I1.two fS fI hS' hoI' (λv z=>by cases z) (λv z=>by rw [hod] at z;cases z);show wpAny _ X.A.in1 (tryCatch (holding [u] (call (.ref fa) [u])) _ >>= _) _ _ _;refine we (wpAny_tryCatch (wpAny_holding (wpAny_mono (turn _ _ H x u d (.int i) I1p sm ru (rx.same sm) ek) (λz s2 ⟨zv,H2,I2,rz,sm2,pz⟩=>?_) λ_ _ hF=>hF.elim)));cases pz;obtain ⟨t2,rfl⟩:=rz;have nS:=I2.pin (S,qch #[vb,.int kb tb] c) (wK _ (wK _ (.head _)));have nI:=I2.pin (It,oI') (wK _ (wK _ (.tail _ (.head _))));have I2':=I2.unpinned;have sm':=sm.trans sm2;have hit2:SItr t s2.heap It a (j+1):=hst'.1.at λo e=>by rw [hoI'] at e;cases e;exact nI.1
   have fS2:FpOk X pins H2 S:=fS.to nS.2.1;have fI2:FpOk X pins H2 It:=fI.to nI.2.1;show wpAny _ X.A.in1 (tryCatch (holding [u,.int i t2] (richCompare .Lt (.int i t2) (.int kb tb) >>= _)) _ >>= _) _ _ _;refine we (wpAny_tryCatch (wpAny_holding (we (ycX ?_))));refine we (wpAny_holding (wpAny_truthy_bool ?_));refine we (wpAny_letGo (wm ?_));have hm':(if i<kb then zaz f d i (ds.drop (j+1)) else zaz f b kb (ds.drop (j+1)))=some m:=hm
   by_cases hb':i<kb
   ·rw [if_pos hb'] at hm';have s1:=Heap.SameBut.update s2.heap S (Obj.mapSeq λ_=>#[u,.int i t2]);obtain ⟨c2,hc2⟩:∃ c2,(s2.heap.update S (Obj.mapSeq λ_=>#[u,.int i t2])).get? S=some (qch #[u,.int i t2] c2):=⟨_,get?_update_seq nS.1 λ_=>#[u,.int i t2]⟩;simp only [hb',decide_true,if_true];refine we ?_;refine wpAny_updateSeq nS.1 rfl (we (wpAny_letGo ?_));rw [hname];exact wm ⟨plainId_quiet PySem.F.plain_min_loop _,ih (j+1) _ H2 u x d i t2 c2 (by omega) hlt (I2'.moved (tk:=s2.toks) fS2 λb o n e=>(s1.2 b n).trans e) sm' fS2 fI2 hc2 (hit2.at λo e=>(s1.2 It hSI.symm).trans e) ru (rx.same sm') hm'⟩
   ·rw [if_neg hb'] at hm';simp only [hb',decide_false,wo,if_false];refine we (wpAny_letGo ?_);rw [hname];exact wm ⟨plainId_quiet PySem.F.plain_min_loop _,ih (j+1) _ H2 vb xb b kb tb c (by omega) hlt I2' sm' fS2 fI2 nS.1 hit2 rb (pb.same sm2) hm'⟩
  | _=>cases hm
theorem jcX {t:Bool} {a fa:Addr} {vs:List V} {ds:List D} {H:Hp} {s:Shared} {f:D->Option D} {m:D} {Q:VK} {E:Value->Shared->Prop} (hc:X.calm=true) (I:L2.Inv X pins σ H s)
  (sqm:∀ H',Same H H'->Sq t X.K H' a vs) (rs:Reps X.K B H vs ds) (turn:jeh X σ B H fa f) (hm:zdS f ds=some m) (hQ:∀ v H',Same H H'->Rep X.K B H' v m->Q v H') :
  wpAny (model X.prog X.w) X.A (call (.builtin "min") [.ref a] [(Str.ofString "key",.ref fa)]) (EP X pins σ Q) E s:=by
 have hname:(toString "min"++toString ".loop":String)="min.loop":=by decide
 obtain ⟨its,rits,p,hz⟩:=I.sseq (sqm H (Same.refl H));have hsz:its.toArray.size=ds.length:=by rw [vj,<-rits.length,rs.length]
 have halt:a<s.heap.objs.size:=by obtain ⟨o,_,ho,_⟩:=p.ob;exact wz ho
 cases ds with
 | nil=>cases hm
 | cons d ds =>
 obtain ⟨k,ek,hm⟩:=wa (show (f d).bind _=some m from hm);cases k with
 | int i =>
  refine kmk_tree PySem.F.kind_min PySem.F.plain_min PySem.F.entry_min (kmk_min_key _ _) ?_;show wpAny _ X.A.in1 (Builtin.Builtins.bindParams "min" ["key","default"] 0 ⟨[],[(Str.ofString "key",.ref fa)]⟩ >>= _) _ _ s;refine we (wpAny_of_eq (show Builtin.Builtins.bindParams "min" ["key","default"] 0 ⟨[],[(Str.ofString "key",.ref fa)]⟩=pure [some (.ref fa),none] from rfl) ?_);refine we (wm ?_);refine we (zA p ?_);refine we (wpAny_newList ?_ (Nat.zero_le _));rw [hname];obtain ⟨oI,hoI⟩:∃ oI:Obj,oI={ cls:=.type (cond t "tuple_iterator" "list_iterator"),data:=.fields #[.ref a,.int 0 0] }:=⟨_,rfl⟩;rw [<-hoI];have hS:(s.heap.push oI).objs.size=s.heap.objs.size+1:=Heap.size_push ..;have hSI:(s.heap.push oI).objs.size≠s.heap.objs.size:=by rw [hS];exact Nat.ne_of_gt (Nat.lt_succ_self _)
  have fr:=SItr.fresh t s.heap a;rw [<-hoI] at fr;have kp:∀ b o,s.heap.get? b=some o->((s.heap.push oI).push (qch #[] 0)).get? b=some o:=λb o e=>wj _ (wj _ e)
  have gS:((s.heap.push oI).push (qch #[] 0)).get? (s.heap.push oI).objs.size=some (qch #[] 0):=wt _ rfl;have hit:SItr t ((s.heap.push oI).push (qch #[] 0)) s.heap.objs.size a 0:=fr.at λo e=>wj _ e
  have I0:=I.kept (t':=s.toks) kp;have fI:FpOk X pins H s.heap.objs.size:=I.fpOk (wC _) I.fresh;have fS:FpOk X pins H (s.heap.push oI).objs.size:=I.fpOk (by rw [hS];exact Nat.le_succ _) (I.hok.fresh (by rw [hS];exact Nat.le_succ _));refine wm ⟨plainId_quiet PySem.F.plain_min_loop _,?_⟩;have W:=yN (prog:=X.prog) (w:=X.w) (A:=X.A.in1) (by simp [I.ok.hd hc]) t s.heap.objs.size a (wM halt) its.toArray;refine codeAny_builtin PySem.F.entry_min_loop ?_;rw [Around.under_plainId PySem.F.plain_min_loop _];show wpAny _ X.A.in1 (seqItems? (.ref _) >>= _) _ _ _;refine we (wpAny_seqItems gS rfl ?_);show wpAny _ X.A.in1 (tryCatch (pyNext (.ref s.heap.objs.size)) _ >>= _) _ _ _;refine we (wpAny_tryCatch (W.item 0 _ _ _ (by rw [hsz];simp) ⟨hit,p.at λo e=>kp _ o e⟩ λv h' tk' hP hst' hk'=>?_));have hS':=hk' _ _ (by simpa using hSI) gS;obtain ⟨oI',nm,hoI',hoc,hcn,hod⟩:=hst'.1.ob;obtain ⟨x,hx,rx⟩:=rs.get (i:=0) (d:=d) rfl;obtain ⟨u,hu,ru⟩:=rits.get hx;have hv:its[0]?=some v:=by simpa using hP
  rw [hu] at hv;have huv:=wB hv;subst huv
  have I1:=I0.moved (tk:=tk') fI λb o n e=>hk' b o (by simpa using n) e
  have I1p:=I1.two fS fI hS' hoI' (λv z=>by cases z) (λv z=>by rw [hod] at z;cases z);show wpAny _ X.A.in1 (tryCatch (holding [u] (call (.ref fa) [u])) _ >>= _) _ _ _;refine we (wpAny_tryCatch (wpAny_holding (wpAny_mono (turn _ _ H x u d (.int i) I1p (Same.refl H) ru rx ek) (λz s2 ⟨zv,H2,I2,rz,sm2,pz⟩=>?_) λ_ _ hF=>hF.elim)));cases pz;obtain ⟨t2,rfl⟩:=rz;have nS:=I2.pin (_,qch #[] 0) (wK _ (wK _ (.head _)));have nI:=I2.pin (s.heap.objs.size,oI') (wK _ (wK _ (.tail _ (.head _))));have I2':=I2.unpinned;have hit2:SItr t s2.heap s.heap.objs.size a 1:=hst'.1.at λo e=>by rw [hoI'] at e;cases e;exact nI.1
  have fS2:FpOk X pins H2 (s.heap.push oI).objs.size:=fS.to nS.2.1;have fI2:FpOk X pins H2 s.heap.objs.size:=fI.to nI.2.1;have s1:=Heap.SameBut.update s2.heap (s.heap.push oI).objs.size (Obj.mapSeq λ_=>#[u,.int i t2]);obtain ⟨c2,hc2⟩:∃ c2,(s2.heap.update (s.heap.push oI).objs.size (Obj.mapSeq λ_=>#[u,.int i t2])).get? (s.heap.push oI).objs.size=some (qch #[u,.int i t2] c2):=⟨_,get?_update_seq nS.1 λ_=>#[u,.int i t2]⟩;show wpAny _ X.A.in1 (updateSeq (s.heap.push oI).objs.size (λ_=>#[u,.int i t2]) >>= _) _ _ _;refine we ?_;refine wpAny_updateSeq nS.1 rfl ?_;rw [hname];refine wm ⟨plainId_quiet PySem.F.plain_min_loop _,ybH hc sqm rs hSI turn (λv u H' s' I' sm r q=>⟨v,H',I',r,hQ v H' sm q⟩) _ 1 _ H2 u x d i t2 c2 rfl (by simp) (I2'.moved (tk:=s2.toks) fS2 λb o n e=>(s1.2 b n).trans e) sm2 fS2 fI2 hc2 (hit2.at λo e=>(s1.2 _ hSI.symm).trans e) ru (rx.same sm2) hm⟩
 | _=>cases hm
variable {C:Tab}
theorem zcY {a body:Expr} {ca ce:Code} {p kp cpos pos:Pos} {params:Arguments} {scope:Scope} {y:Str} {keep:List Nat} {N':List Str} (S:LamS X C y body scope ce keep N') (hc:X.calm=true) (hl:zcX X pos) (hroom:X.A.depth<recursionLimit)
  (hdef:defaultsOf params X.env=([],[])) (hbind:∀ pm cd ctv u,bindArgs (PySem.W.kla_fn "<lambda>" (X.env.qual++"<lambda>") params body scope (yH X.env.cells scope.names []) pm cd ctv) ⟨[u],[]⟩=pure [(y,u)])
  (hg:Gl X "min") (hm:X.mg "min"=none) (hv:bootBuiltins "min"=some (.builtin "min")) (ha:SE X C a ca) (hs:starEach [a] X.env=[(false,eval a X.env)]) :
  SE X C (.Call (.Name "min" p) [a] [⟨some "key",.Lambda params body scope pos,kp⟩] cpos) (.mink ce keep ca):=λB ρ d h=>by
 obtain ⟨dx,ex,e⟩:=wa (show (ev C ca ρ).bind _=some d from h);cases dx with
 | tup ds =>
  intro pins s σ H Q I ⟨h1,h2,q⟩;refine wpAny_Call_Name_kw (jT I hg hm hv ?_ (by decide) (by decide));have hpa:PA X [a] (tDs X.K B ρ [.tup ds]):=zi ha yn hs B ρ [.tup ds] (by rw [evs,ex];rfl);refine callWith_kw (thn (hpa cpos pins s σ H (λvs H1=>Same H H1/\Reps X.K B H1 vs [.tup ds]) I ⟨h1,h2,λvs H' sm r=>⟨sm,r⟩⟩) λus s1 ⟨vs,H1,I1,r1,sm1,rr1⟩=>?_) (by rw [hs];rfl) (by rw [hs];rfl) rfl rfl;refine kws_cons (jcg (B:=B) hdef (S.some I1) hl I1 (h1.same sm1) λfa c pm ctv H2 s2 I2 sm2 F=>kws_nil ?_);obtain ⟨v,rfl,rv⟩:=(rr1.same sm2).one;obtain ⟨u,rfl,ru⟩:=r1.one;obtain ⟨t,al,vs,rfl,sq,sqm,rs⟩:=rv.srcT ((h1.same sm1).same sm2) (ds:=ds) rfl;cases ru;have hb2:=(h1.same sm1).same sm2;have er2:=(h2.same sm1).same sm2;refine jcX (f:=λd=>ev C ce (some d::keep.map λi=>(ρ[i]?).join)) hc I2 (λH' sm=>sqm H' λb o _ e=>sm b o e) rs (λpins s H x u d k I sm r rp e=>zch S hroom hbind I (F.same sm) (hb2.same sm) (er2.same sm) r rp e) e λv H' sm r=>q v H' ((sm1.trans sm2).trans sm) r
 | _=>cases e
end
theorem bind1 {y:Str} {an:Option Expr} {pp:Pos} {q:Str} {body:Expr} {scope:Scope} {cl:List (Str×Addr)} (pm cd ctv u:Value) :
  bindArgs (PySem.W.kla_fn "<lambda>" q ⟨[],[⟨y,an,pp⟩],none,[],[],none,[]⟩ body scope cl pm cd ctv) ⟨[u],[]⟩=pure [(y,u)]:=by
 have h:(List.lookup y [(y,u)])=some u:=by simp
 unfold bindArgs;simp only [List.forIn_nil,pure_bind,List.map_nil,List.map_cons,List.nil_append,List.append_nil,List.zip_cons_cons,List.zip_nil_right,List.filterMap_cons,List.filterMap_nil];show (seqItems? Value.none >>= λr=>_)=_;rw [show seqItems? Value.none=pure none from rfl,pure_bind];have hf:List.filter (λn=>(List.lookup n [(y,u)]).isNone) [y]=[]:=by simp
 show (if (!(List.filter (λn=>(List.lookup n [(y,u)]).isNone) [y]).isEmpty)=true then _ else _)=_;rw [hf,if_neg (by decide)];show ((pure [(y,u)]:Sem (List (Str×Value))) >>= λ__s=>_)=_;rw [pure_bind,if_neg (by decide)];rw [h];rfl
theorem jbi:bootBuiltins "dict"=some (.type "dict"):=by kernel_rfl
theorem qaa {d:D} {i:Int} (h:yb2 d=some i):d=.int i:=by
 cases d with
 | int j=>cases h;rfl
 | _=>cases h
theorem qcY {d:D} {k:List (Int×Int)} (h:jdR d=some k):d=.dct k:=by
 cases d with
 | dct j=>cases h;rfl
 | _=>cases h
section
variable {X:Cx} {C:Tab}
theorem ycY {a b:Expr} {ca cb:Code} {pos:Pos} (ha:SE X C a ca) (hb:SE X C b cb):SE X C (.Dict [some a] [b] pos) (.dlit ca cb):=λB ρ d e=>by
 obtain ⟨i,e1,e⟩:=wa (show ((ev C ca ρ).bind yb2).bind _=some d from e);obtain ⟨j,e2,e⟩:=wa e;cases e;obtain ⟨dx,ex,e1⟩:=wa e1;obtain ⟨dy,ey,e2⟩:=wa e2;cases qaa e1;cases qaa e2;refine (jd1 (ha B ρ _ ex) (hb B ρ _ ey)).imp λσ H Q ⟨h1,h2,q⟩ p hp=>?_
 have s0:=qa hp (.dK []);refine ⟨h1.same s0,h2.same s0,λx H1 s1 r1=>⟨(h1.same s0).same s1,(h2.same s0).same s1,λy H2 s2 r2=>?_⟩⟩;cases r1;cases r2;have h2p:H2 p=some (.dK []):=s2 _ _ (s1 _ _ ya);refine ⟨i,j,rfl,rfl,h2p,q _ _ (λb o e=>?_) (.dct (h1.notN hp) ya)⟩;rw [ja (jc e hp)];exact s2 _ _ (s1 _ _ (s0 _ _ e))
theorem jbH:∀ {ns:List Int} {us:List Value},Vals (ns.map V.int) us->PySem.W.kf_ints us=true
 | [],_,r=>by cases r;rfl
 | _::_,_,r=>by
  cases r with
  | cons a b =>
   obtain ⟨t,rfl⟩:=(show ∃ t,_=Value.int _ t from a)
   have:=jbH b
   exact this
theorem ja7 {α:Type} (f:Int->α) (s:Int):∀ {xs:List Int},s∈xs->(xs.map f).eraseIdx (xs.idxOf s)=(xs.erase s).map f
 | [],h=>by cases h
 | a::r,h=>by
  by_cases e:a=s
  ·subst e;simp
  ·have hr:s∈r:=(wu.mp h).resolve_left λz=>e z.symm
   have e':(a==s)=false:=by simpa using e
   have ei:(a::r).idxOf s=r.idxOf s+1:=by rw [List.idxOf_cons,e'];rfl
   rw [ei,List.erase_cons_tail (by simpa using e),List.map_cons,List.map_cons,List.eraseIdx_cons_succ,ja7 f s hr]
def rRem:V->List V->Hp->VK->Prop:=λx vs H Q=>∃ (l:Addr) (ns:List Int) (a:Int),x=.ref l/\vs=[.int a]/\H l=some (.lst (ns.map V.int))/\a∈ns/\Q .non (upd H l (.lst ((ns.erase a).map V.int)))
theorem zbI (a:Int):∀ {ns:List Int} {us:List Value},Vals (ns.map V.int) us->a∈ns->∃ h:ns.idxOf a<us.length,isInt a us[ns.idxOf a]=true/\∀ m (hm:m<us.length),m<ns.idxOf a->isInt a us[m]=false
 | [],_,_,h=>by cases h
 | b::r,_,.cons (b:=u) x rv,h=>by
  obtain ⟨t,rfl⟩:=(show ∃ t,u=Value.int b t from x)
  by_cases e:b=a
  ·subst e;have ei:(b::r).idxOf b=0:=by rw [List.idxOf_cons];simp
   refine ⟨by rw [ei];simp,?_,λm _ h=>by rw [ei] at h;exact absurd h (Nat.not_lt_zero _)⟩;simp [ei,isInt,Value.isInt]
  ·have hr:a∈r:=(wu.mp h).resolve_left λz=>e z.symm
   have e':(b==a)=false:=by simpa using e
   have ei:(b::r).idxOf a=r.idxOf a+1:=by rw [List.idxOf_cons,e'];rfl
   obtain ⟨h1,h2,h3⟩:=zbI a rv hr;refine ⟨by rw [ei,List.length_cons];omega,?_,λm hm hlt=>?_⟩
   ·simp only [ei,List.getElem_cons_succ];exact h2
   ·cases m with
    | zero=>simp [isInt,Value.isInt,e]
    | succ m =>
     rw [ei] at hlt;rw [List.length_cons] at hm;simp only [List.getElem_cons_succ];exact h3 m (by omega) (by omega)
theorem qbI:MtM X "list.remove" rRem:=by
 intro pins s σ H x vs v us Q I rx rv h;obtain ⟨l,ns,a,rfl,rfl,hH,hm,q⟩:=h;cases rx;obtain ⟨u,rfl,ru⟩:=rv.one;obtain ⟨t,rfl⟩:=(show ∃ t,u=Value.int a t from ru);obtain ⟨z,its,n,r,hl,e⟩:=I.lstM hH;obtain ⟨hj,h1,h2⟩:=zbI a r hm
 refine call_meets PySem.F.slot_list_remove ⟨_,e,rfl⟩ PySem.F.entry_list_remove (PySem.F.args_list_remove_2 _ _)
  (MeetsSeq.list_remove l its.toArray n (.int a t) (isInt a) (λy hy=>PySem.W.kf_eq (jbH r) y (by simpa using hy)) (ns.idxOf a) (by simpa using hj) (by simpa using h1) (λm hm hlt=>by simpa using h2 m (by simpa using hm) hlt) (by rw [vj,<-hl];exact z)) ⟨e,?_⟩
 refine ⟨.non,_,I.lset (its':=its.eraseIdx (ns.idxOf a)) hH e ?_ (by rw [<-ja7 V.int a hm];exact r.eraseIdx _) ?_,rfl,q⟩
 ·apply Array.toList_inj.mp;simp [Array.toList_eraseIdxIfInBounds]
 ·rw [wD] at z ⊢;exact wQ (List.length_erase_le) z
theorem zdH {i:Nat} {x:Str} {px apos cpos spos:Pos} {e:Expr} {c:Code} (hN:X.N[i]?=some x) (hv:Vis X.env.scope x) (hd:(x==("__debug__":Str))=false) (hcd:(x==("__classdict__":Str))=false)
  (he:SE X C e c) (hs:starEach [e] X.env=[(false,eval e X.env)]) (hline:(apos.endLine==cpos.line)=true):SS X C (.Expr (.Call (.Attribute (.Name x px) "remove" apos) [e] [] cpos) spos) (.rem i c):=λB H0 O ρ r h=>by
 obtain ⟨d,ed,h⟩:=wa (show (ev C c (vP ρ)).bind (λd=>yde i d ρ)=some r from h);unfold yde at h;split at h
 case h_2=>cases h
 rename_i ds hρ;obtain ⟨a,ea,h2⟩:=wa h;have ea':=qaa ea;obtain ⟨ns,en,h3⟩:=wa h2;rw [ea'] at ed;clear h h2 ea ea';split at h3
 case isFalse=>cases h3
 rename_i hm;cases h3;have hpa:PA X [e] (tDs X.K (BO B O) (vP ρ) [.int a]):=zi he yn hs _ _ _ (by rw [evs,ed];rfl);refine (jP (ybf F.plainAttrs_list F.slot_list_remove F.type_list_remove qbI (zD (pos:=px) hN hv hd hcd) hpa rfl (by rw [hs];rfl) hline hs rfl)).imp λDn σ H q=>?_
 obtain ⟨F,q⟩:=q;obtain ⟨l,vs,hσ,o,hl,rs⟩:=F.ow i ds hρ;have ev':=rs.ints en;subst ev';refine ⟨_,hσ,.inl ⟨rfl,_,SqL.of hl⟩,F.hb,F.erP,λws H1 sm rw'=>?_⟩;obtain ⟨v,rfl,rv⟩:=rw'.one;cases rv;obtain ⟨F2,x2⟩:=(F.grow sm).write (es:=(ns.erase a).map D.int) (ws:=(ns.erase a).map V.int) hρ hσ (Reps.of_ints _);exact ⟨l,ns,a,rfl,rfl,sm _ _ hl,hm,q O σ _ ((Ext.of_same sm).trans x2) F2 rfl⟩
theorem qdH {ec:Expr} {body:List Stmt} {pos:Pos} {n:Nat} {c:Code} {b:Stms} (hx:X.xe=λ_ _=>False) (hc:SB X C ec c) (hb:SSs X C body b):SS X C (.While ec body [] pos) (.whl n c b):=λB H0 O ρ r h=>by
 obtain ⟨f,hf⟩:∃ f:List Sl->Option Fl,f=λρ'=>exs C b ρ':=⟨_,rfl⟩
 obtain ⟨t,ht⟩:∃ t:List Sl->Option Bool,t=λρ'=>(ev C c (vA ρ')).bind truO:=⟨_,rfl⟩
 have h:zb1 f t n ρ=some r:=by rw [hf,ht];exact h
 have hp:PassesOwn (model X.prog X.w) X.A X.env X.xe:=by rw [hx];exact PassesOwn.never
 have hc':L2.PT X ec (λσ H Q=>∃ B ρ d k,ev C c ρ=some d/\truO d=some k/\tTr X.K B ρ k σ H Q):=λpins s σ H Q I ⟨B,ρ,d,k,e1,e2,h⟩=>hc B ρ d k e1 e2 pins s σ H Q I h
 intro pins s σ H D I q;refine (jb3 hp hc' hb.any) pins s σ H D I ⟨λm σ' H'=>∃ O' ρ',FR X.K B H0 O' σ' H' ρ'/\Ext B O H O' H'/\σ'.length=σ.length/\zb1 f t m ρ'=some r,⟨n,O,ρ,q.1,Ext.refl,rfl,h⟩,?_⟩;rintro m σ' H' ⟨O',ρ',F,x,hl,hrun⟩;cases m with
 | zero=>cases hrun
 | succ m =>
  rw [zb1] at hrun;obtain ⟨k,ek,hrun⟩:=wa hrun;rw [ht] at ek;obtain ⟨d,ed,ek⟩:=wa ek;refine ⟨B,vA ρ',d,k,ed,ek,F.hbB,F.erA,λH1 sm=>?_⟩;cases k with
  | false =>
   rw [if_neg wA] at hrun ⊢;cases hrun;exact q.2 O' σ' H1 (x.trans (Ext.of_same sm)) (F.grow sm) hl
  | true =>
   rw [if_pos rfl] at hrun ⊢;obtain ⟨r1,e1,hrun⟩:=wa hrun;rw [hf] at e1;have x1:Ext B O H O' H1:=x.trans (Ext.of_same sm);refine ⟨λσ3 H3=>∃ O3 ρ3,FR X.K B H0 O3 σ3 H3 ρ3/\Ext B O H O3 H3/\σ3.length=σ.length/\zb1 f t m ρ3=some r,λσ3 H3 ⟨O3,ρ3,z⟩=>⟨m,Nat.lt_succ_self m,O3,ρ3,z⟩,B,H0,O',ρ',r1,e1,F.grow sm,?_⟩;cases r1 with
   | nx ρ3=>exact λO3 σ3 H3 y F3 l3=>⟨O3,ρ3,F3,x1.trans y,l3.trans hl,hrun⟩
   | ct ρ3=>exact λO3 σ3 H3 y F3 l3=>⟨O3,ρ3,F3,x1.trans y,l3.trans hl,hrun⟩
   | bk ρ3 =>
    cases hrun;exact λO3 σ3 H3 y F3 l3=>q.2 O3 σ3 H3 (x1.trans y) F3 (l3.trans hl)
   | rt dv =>
    cases hrun;exact q.2
theorem zbj:zr X (.type "dict") (λxs H Q=>∃ (a:Addr) (kvs:List (Int×Int)),xs=[.ref a]/\H a=some (.dK (dkI kvs))/\∀ p,H p=none->Q (.ref p) (upd H p (.dK (dkI kvs)))):=by
 intro pins s σ H xs us Q I rv ⟨a,kvs,e,ha,q⟩;subst e;obtain ⟨u,rfl,ru⟩:=rv.one;cases ru;exact jb5 I ha λp s' hp I'=>⟨.ref p,_,I',rfl,q p hp⟩
def rSetD:V->V->V->Hp->(Hp->Prop)->Prop:=λo i v H Q=>∃ (a:Addr) (kvs:List (Int×Int)) (b j:Int),o=.ref a/\i=.int b/\v=.int j/\H a=some (.dK (dkI kvs))/\kvs.length<sizeLine/\Q (upd H a (.dK (dkI (jb0 kvs b j))))
theorem jcY:jdS X rSetD:=by
 intro pins s σ H o i v ov iv u Q I ro ri rv ⟨a,kvs,b,j,e1,e2,e3,ha,hl,q⟩;subst e1;subst e2;subst e3
 cases ro;exact zbt I ha hl ri rv λs' I'=>⟨_,I',q⟩
theorem zcZ {i:Nat} {x:Str} {ed ek ev':Expr} {cd ck cv:Code} {px pd pc p1 px2 sp p2:Pos} {sts:List Stmt} {r:Stms} (hnd:X.N.Nodup) (hN:X.N[i]?=some x) (hl:Loc X.env.scope x) (hf:X.fn x=true\/X.env.scope.names.lookup x=some .local) (hv:Vis X.env.scope x) (hd:(x==("__debug__":Str))=false) (hcd:(x==("__classdict__":Str))=false)
  (hg:Gl X "dict") (hm:X.mg "dict"=none) (h1:SE X C ed cd) (hs:starEach [ed] X.env=[(false,eval ed X.env)]) (h2:SE X C ek ck) (h3:SE X C ev' cv)
  (hp : ∀ v, assign (.Subscript (.Name x px2) ek sp) X.env v = (do
   let ov <-holding [v] (eval (.Name x px2) X.env)
   let iv <-holding [v,ov] (eval ek X.env)
   standAt sp
   holding [v,ov,iv] (setItem ov iv v)
   release [v,ov,iv] [])) (h:SSs X C sts r) :
  SSs X C (.Assign [.Name x px] (.Call (.Name "dict" pd) [ed] [] pc) p1::.Assign [.Subscript (.Name x px2) ek sp] ev' p2::sts) (.dcp i cd ck cv r):=λB H0 O ρ f he=>by
 obtain ⟨kvs,e1,he⟩:=wa (show ((ev C cd (vP ρ)).bind jdR).bind _=some f from he);obtain ⟨dx,ex,e1⟩:=wa e1;cases qcY e1;obtain ⟨j,e2,he⟩:=wa he;obtain ⟨dy,ey,e2⟩:=wa e2;cases qaa e2;obtain ⟨b,e3,he⟩:=wa he;obtain ⟨dz,ez,e3⟩:=wa e3;cases qaa e3;split at he
 case isFalse=>cases he
 rename_i hz;have hpa:PA X [ed] (tDs X.K (BO B O) (vP ρ) [.dct kvs]):=zi h1 yn hs _ _ _ (by rw [evs,ex];rfl);have hi:i<X.N.length:=(wq.mp hN).1;intro pins s σ H D I q;refine (jM (zaf (pos:=p1) hnd hN hl (yo (p:=pd) (pos:=pc) zbj hg hm jbi hpa (by decide) (by decide) (by rw [hs];rfl) rfl) (yai rfl _ _ _) hf) (jM (qaY (pos:=p2) (h3 (BO B O) _ _ ey) (ybn (zD (pos:=px2) hN hv hd hcd) (h2 (BO B O) _ _ ez) jcY hp) jas zaT) h.any)) pins s σ H D I ?_;obtain ⟨F,q⟩:=q;refine ⟨F.hb,F.erP,λvs H1 sm rvs=>?_⟩;obtain ⟨v,rfl,rv1⟩:=rvs.one;cases rv1 with
 | dct na ha =>
  rename_i a;refine ⟨a,kvs,rfl,ha,λp hp'=>?_⟩;have F1:=F.grow sm;have hpn:¬ BO B O p:=F1.hb.notN hp';have s2:=qa hp' (.dK (dkI kvs));have hil:i<σ.length:=by rw [I.len];exact hi
  have F2:=(F1.grow s2).set hil (.dct hpn ya);refine ⟨F2.hb,F2.erP,λw H3 s3 rw'=>?_⟩;cases rw';refine ⟨_,by rw [vn hil],F2.hb.same s3,F2.erP.same s3,λz H4 s4 rz=>?_⟩;cases rz;have h4p:H4 p=some (.dK (dkI kvs)):=s4 _ _ (s3 _ _ ya)
  have s5:Same H1 (upd H4 p (.dK (dkI (jb0 kvs b j)))):=λc o e=>by
   rw [ja (jc e hp')];exact s4 _ _ (s3 _ _ (s2 _ _ e))
  refine ⟨p,kvs,b,j,rfl,rfl,rfl,h4p,wL hz (by rw [sizeLine_eq];decide),B,H0,O,_,f,he,zy ⟨F,q⟩ ((Ext.of_same sm).trans (Ext.of_same s5)) ((F1.grow s5).set hil (.dct hpn ya)) (by simp)⟩
end
end Eng
end
section
namespace Eng
open PySem
open AutoSeq1 (wpAny_loadPart')
end Eng
end
section
namespace Eng
open PySem PySem.Spec PyProof.Rows L2
variable [Tb]
def spD (K:Frag) (C:Tab) (i:Nat):Sp:=λvs H Q _=>∃ B ds d,HB B H/\Reps K B H vs ds/\C i ds=some d/\∀ v H',Same H H'->Rep K B H' v d->Q v H'
noncomputable def bltL:List Str:=["range","enumerate","zip","len","sorted","set","list","tuple","int","str","min","max","sum","all","any","isinstance","bool","dict"]
structure Glob (G:GTab) (g:Gam) (X:Cx) (C:Tab):Prop where
 calm:X.calm=true
 hx:X.xe=λ_ _=>False
 hu:X.A.units+64<cLine
 fns:∀ (i:Nat) (x:Str),G.fns[i]?=some x->∃ k f fd ps,FnOk X.prog X.w X.K X.mg X.base CX0 k f fd ps (spD X.K C i)/\(Room k X.A/\(g.lp≠none->∀ env,Room k (X.A.in1.deeper env)))/\X.mg x=some (.ref f)/\PySem.W.keepIn X.K (.ref f)=true/\Binds X.K fd ps []
 lr:g.lp≠none->X.A.units+128<cLine/\X.A.depth<recursionLimit
 blts:∀ x∈bltL,X.mg x=none
 cons:∀ (x:Str) (i:Int),G.cons.lookup x=some i->∃ t,X.mg x=some (.int i t)
structure Fit (g:Gam) (X:Cx):Prop where
 N:X.N=g.N
 nd:X.N.Nodup
 loc:∀ x,jN g x=some .local->X.env.scope.names.lookup x=some .local
 cel:∀ x,jN g x=some .cell->X.env.scope.names.lookup x=some .cell/\X.fn x=true
 fre:∀ x,jN g x=some .free->X.env.scope.names.lookup x=some .cell\/X.env.scope.names.lookup x=some .free
 glo:∀ x,jN g x=some .globalImplicit->Gl X x
 lmo:∀ pos,g.lp=some pos->zcX X pos
section
variable {g:Gam} {X:Cx} {C:Tab} {G:GTab}
theorem Fit.vis (F:Fit g X) {x:Str} (h:yb1 g x=true):Vis X.env.scope x:=by
 simp only [yb1,Bool.or_eq_true,vm] at h;rcases h with (h | h) | h
 ·exact .inl (F.loc x h)
 ·exact .inr (.inl (F.cel x h).1)
 ·exact (F.fre x h).elim (λz=>.inr (.inl z)) λz=>.inr (.inr z)
theorem Fit.locd (F:Fit g X) {x:Str} (h:zcU g x=true):Loc X.env.scope x/\(X.fn x=true\/X.env.scope.names.lookup x=some .local):=by
 simp only [zcU,Bool.or_eq_true,vm] at h;rcases h with h | h
 ·exact ⟨.inl (F.loc x h),.inr (F.loc x h)⟩
 ·exact ⟨.inr (F.cel x h).1,.inl (F.cel x h).2⟩
theorem Fit.glob (F:Fit g X) {x:Str} (h:qaO g x=true):Gl X x:=F.glo x (by simpa [qaO] using h)
theorem Fit.slot (F:Fit g X) {i:Nat} {x:Str} (h:zO g i x=true):X.N[i]?=some x:=by rw [F.N];simpa [zO] using h
theorem ye {x:Str} (h:yF x=true):(x==("__debug__":Str))=false/\(x==("__classdict__":Str))=false:=by
 simp only [yF,wg,w4] at h;exact h
theorem ym {e:Expr} {es:List Expr} {env:Env} (h:jn e=false):starEach (e::es) env=(false,eval e env)::starEach es env:=by
 cases e<;>first | rfl | cases h
theorem zak:∀ {es:List Expr} {env:Env} {pos:Pos},(∀ e∈es,jn e=false)->(backTo pos (starEach es env)).any (·.1)=false
 | [],_,_,_=>rfl
 | e::es,env,pos,h=>by
  rw [ym (h e (by simp))]
  have:=zak (es:=es) (env:=env) (pos:=pos) λe he=>h e (by simp [he])
  simp only [backTo,List.map_cons,List.any_cons,Bool.false_or] at *;exact this
theorem yaa {es:List Expr} (h:yaT es=true):∃ a as,es=a::as/\∀ e∈es,jn e=false:=by
 simp only [yaT,wg,w4,List.all_eq_true] at h;cases es with
 | nil=>simp at h
 | cons a as=>exact ⟨a,as,rfl,h.2⟩
theorem zaH {r:Expr->Code->Bool} (hr:∀ e c,r e c=true->SE X C e c):∀ {es:List Expr} {cs:Codes},(∀ e∈es,jn e=false)->okA r es cs=true->SA X C es cs
 | [],.nil,_,_=>yn
 | [],.cons _ _,_,h=>by cases h
 | _::_,.nil,_,h=>by cases h
 | e::es,.cons c cs,hs,h=>by
  rw [okA,wg] at h;exact zi (hr e c h.1) (zaH hr (λe he=>hs e (by simp [he])) h.2) (ym (hs e (by simp)))
theorem qcZ {r:Expr->Code->Bool} (hr:∀ e c,r e c=true->SE X C e c) {op:BoolOp} {pos:Pos}:∀ {es:List Expr} {c:Code},jb1 r op es c=true->SE X C (.BoolOp op es pos) c
 | [],_,h=>by cases h
 | [a],c,h=>ydv (hr a c h)
 | a::b::es,c,h=>by
  cases op with
  | And =>
   cases c with
   | and x y =>
    rw [jb1,wg] at h;exact jdv (hr a x h.1) (qcZ hr h.2)
   | _=>cases h
  | Or =>
   cases c with
   | or x y =>
    rw [jb1,wg] at h;exact qd5 (hr a x h.1) (qcZ hr h.2)
   | _=>cases h
theorem ycZ {t:Expr->Code->Bool} (ht:∀ e c,t e c=true->SB X C e c) {op:BoolOp} {pos:Pos}:∀ {es:List Expr} {c:Code},jb1 t op es c=true->∀ B ρ d k,ev C c ρ=some d->truO d=some k->PW X (.BoolOp op es pos) (tTr X.K B ρ k)
 | [],_,h=>by cases h
 | [a],c,h=>by
  cases op with
  | And=>exact ybh (ht a c h)
  | Or=>exact qby (ht a c h)
 | a::b::es,c,h=>by
  cases op with
  | And =>
   cases c with
   | and x y =>
    rw [jb1,wg] at h;exact qdv (ht a x h.1) (ycZ ht h.2)
   | _=>cases h
  | Or =>
   cases c with
   | or x y =>
    rw [jb1,wg] at h;exact zd5 (ht a x h.1) (ycZ ht h.2)
   | _=>cases h
theorem yat {op:CmpOp} (h:ydT op=true):op∈cmpOps:=by cases op<;>first | decide | cases h
theorem zcx {op:CmpOp} (h:ydT op=true) (b:Expr):behindInMarks op b=false:=zdl b (by intro e;subst e;cases h) (by intro e;subst e;cases h)
theorem ybI {X:Cx} (hu:X.A.units+64<cLine) (op:CmpOp):OpR X (compareOp op) (rD2 X.K (zW op)):=by
 cases op with
 | In=>exact jcw hu false
 | NotIn=>exact jcw hu true
 | _=>exact j5 hu (by decide)
theorem ydH {op:CmpOp} {b:Expr} (h:setB b=false):behindInMarks op b=false:=by cases b<;>first | rfl | cases h
theorem qcx {r:Expr->Code->Bool} (hr:∀ e c,r e c=true->SE X C e c) (hu:X.A.units+64<cLine) {l:Expr} {os:List CmpOp} {es:List Expr} {c:Code} {pos:Pos} (h:jce r l os es c=true):SE X C (.Compare l os es pos) c/\SB X C (.Compare l os es pos) c:=by
 unfold jce at h;split at h
 ·simp only [wg,wG,w4] at h;obtain ⟨⟨⟨rfl,h2⟩,h3⟩,h4⟩:=h;exact ⟨jdt (ybI hu _) (hr _ _ h3) (hr _ _ h4) (ydH h2),zdu (ybI hu _) (hr _ _ h3) (hr _ _ h4) (ydH h2)⟩
 ·simp only [wg,wG] at h;obtain ⟨⟨⟨⟨⟨⟨rfl,rfl⟩,h2⟩,h2'⟩,h3⟩,h4⟩,h5⟩:=h;exact ⟨qdu (j5 hu (yat h2)) (j5 hu (yat h2')) (hr _ _ h3) (hr _ _ h4) (hr _ _ h5) (zcx h2' _),ydu (j5 hu (yat h2)) (j5 hu (yat h2')) (hr _ _ h3) (hr _ _ h4) (hr _ _ h5) (zcx h2' _)⟩
 ·cases h
theorem jcZ {i:Nat} {x:Str} {p pos:Pos} {e:Expr} {es:List Expr} {cs:Codes} (W:Glob G g X C) (hi:G.fns[i]?=some x) (hg:Gl X x) (hd:(x==("__debug__":Str))=false) (ha:SA X C (e::es) cs) (hs:∀ a∈e::es,jn a=false):SE X C (.Call (.Name x p) (e::es) [] pos) (.call i cs):=λB ρ d ed=>by
 obtain ⟨ds,eds,ed⟩:=wa (show (evs C cs ρ).bind (λxs=>C i xs)=some d from ed);obtain ⟨k,f,fd,ps,F,hr,hm,hk,hb⟩:=W.fns i x hi;refine (zcG F hr.1 hg hm hk hb .nil yd1 (ha B ρ ds eds) hd (ym (hs e (by simp))) (zak λa h=>hs a (by simp [h]))).imp λσ H Q ⟨h1,h2,q⟩=>⟨h1,h2,λvs H1 sm r=>?_⟩
 show spD X.K C i (vs++[]) H1 Q E0;rw [List.append_nil];exact ⟨B,ds,d,h1.same sm,r,ed,λv H' s r'=>q v H' (sm.trans s) r'⟩
end
theorem jv {env:Env} {k':NameKind} (hk:k'≠.free):∀ {names:List (Str×NameKind)} {x:Str},names.lookup x=some k' ->
  (names.map λ(n,k)=>if (k==NameKind.free&&env.scope.kind==.function&&env.kindOf n==some .cell) then (n,NameKind.cell) else (n,k)).lookup x=some k'
 | [],_,h=>by simp at h
 | (n,k)::r,x,h=>by
  rw [List.lookup_cons] at h;rw [List.map_cons];cases hx:x==n with
  | true =>
   rw [hx] at h;have ek:k=k':=wB h;subst ek
   have c:¬ (k==NameKind.free&&env.scope.kind==.function&&env.kindOf n==some .cell)=true:=by
    cases k<;>first | exact absurd rfl hk | simp
   show List.lookup x ((if _ then _ else _)::_)=_;rw [if_neg c,List.lookup_cons,hx]
  | false =>
   rw [hx] at h;have ih:=jv (env:=env) hk h
   by_cases c:(k==NameKind.free&&env.scope.kind==.function&&env.kindOf n==some .cell)=true
   ·show List.lookup x ((if _ then _ else _)::_)=_;rw [if_pos c,List.lookup_cons,hx];exact ih
   ·show List.lookup x ((if _ then _ else _)::_)=_;rw [if_neg c,List.lookup_cons,hx];exact ih
section
variable {g:Gam} {X:Cx} {C:Tab} {G:GTab}
theorem Glob.blk (W:Glob G g X C) (N':List Str) (scope:Scope) (s₀:Shared) (H₀:Hp) (fp:List Addr):Glob G ⟨N',scope.names,none⟩ (blk X N' scope s₀ H₀ fp) C :=
 ⟨W.calm,W.hx,W.hu,λi x h=>let ⟨k,f,fd,ps,F,hr,q⟩:=W.fns i x h;⟨k,f,fd,ps,F,⟨hr.1,λz=>absurd rfl z⟩,q⟩,λz=>absurd rfl z,W.blts,W.cons⟩
theorem Glob.lam (W:Glob G g X C) (hl:g.lp≠none) (N':List Str) (scope:Scope) (s₀:Shared) (H₀:Hp) (fa:Addr) (cd:Value):Glob G ⟨N',scope.names,none⟩ (Eng.lam X N' scope s₀ H₀ fa cd) C :=
 ⟨W.calm,rfl,by have:=(W.lr hl).1;show X.A.units+1+3+64<cLine;omega,λi x h=>let ⟨k,f,fd,ps,F,hr,q⟩:=W.fns i x h;⟨k,f,fd,ps,F,⟨hr.2 hl _,λz=>absurd rfl z⟩,q⟩,λz=>absurd rfl z,W.blts,W.cons⟩
theorem Fit.lamb {scope:Scope} {N':List Str} (hc:∀ x∈scope.names,x.2≠.cell) (hn:N'.Nodup) (s₀:Shared) (H₀:Hp) (fa:Addr) (cd:Value):Fit ⟨N',scope.names,none⟩ (Eng.lam X N' scope s₀ H₀ fa cd) :=
 ⟨rfl,hn,λx h=>h,λx h=>absurd rfl (hc _ (wZ h)),λx h=>.inr h,λx h=>h,λpos h=>by cases h⟩
theorem Fit.blk {scope:Scope} {N':List Str} (hs:jaj g scope=true) (hn:N'.Nodup) (s₀:Shared) (H₀:Hp) (fp:List Addr):Fit ⟨N',scope.names,none⟩ (blk X N' scope s₀ H₀ fp):=by
 simp only [jaj,wg,List.all_eq_true,wG] at hs;refine ⟨rfl,hn,λx h=>?_,λx h=>?_,λx h=>?_,λx h=>?_,λpos h=>by cases h⟩
 ·exact jv (env:=X.env) (by decide) h
 ·exact ⟨jv (env:=X.env) (by decide) h,by show (scope.names.lookup x==some .cell)=true;rw [show scope.names.lookup x=some .cell from h];rfl⟩
 ·exact zF (env:=X.env) h
 ·exact jv (env:=X.env) (by decide) h
theorem zc0 (F:Fit g X) (hc:X.calm=true) {tg:Expr} {t:Tgt} (h:tgB g tg t=true):PG X tg (gT t)/\∀ i∈t.ixs,i<X.N.length:=by
 have pairs:∀ (es:List Expr) (is:List Nat),qdT g es is=true->(∀ e∈es.zip is,∃ x p,e.1=Expr.Name x p/\X.N[e.2]?=some x/\Loc X.env.scope x/\(X.fn x=true\/X.env.scope.names.lookup x=some .local))/\es.length=is.length/\∀ i∈is,i<X.N.length:=by
  intro es
  induction es with
  | nil =>
   intro is h;cases is with
   | nil=>exact ⟨λe he=>by simp at he,rfl,λi hi=>by simp at hi⟩
   | cons _ _=>cases h
  | cons e es ih =>
   intro is h;cases is with
   | nil=>cases e<;>cases h
   | cons i is =>
    cases e with
    | Name x p =>
     simp only [qdT,wg] at h;obtain ⟨h1,h2,h3⟩:=ih is h.2;have hsl:=F.slot h.1.1;have hlt:=(wq.mp hsl).1;refine ⟨λe he=>?_,by simp [h2],λj hj=>?_⟩
     ·rw [List.zip_cons_cons,wu] at he;rcases he with rfl | he
      ·exact ⟨x,p,rfl,hsl,F.locd h.1.2⟩
      ·exact h1 e he
     ·rcases wu.mp hj with rfl | hj
      ·exact hlt
      ·exact h3 j hj
    | _=>cases h
 cases tg with
 | Name x p =>
  cases t with
  | one i =>
   simp only [tgB,wg] at h;have hsl:=F.slot h.1;refine ⟨jdz F.nd hsl (F.locd h.2).1 (F.locd h.2).2,λj hj=>?_⟩
   have:j=i:=by simpa [Tgt.ixs] using hj
   rw [this];exact (wq.mp hsl).1
  | many is=>cases h
 | Tuple es k p =>
  cases t with
  | one i=>cases h
  | many is =>
   obtain ⟨h1,h2,h3⟩:=pairs es is h;exact ⟨qcN hc F.nd h1 h2,h3⟩
 | _=>cases h
theorem jdH {t:Tgt} {n:Nat} (h:jd5 t n=true):∀ i∈t.ixs,i<n:=by
  cases t with
  | one i => intro j hj; have : j = i := by simpa [Tgt.ixs] using hj
             rw [this];simpa [jd5] using h
  | many is=>intro j hj;exact vg (List.all_eq_true.mp h j hj)
theorem ych {e:Expr} (h:setB e=false) (env:Env) (x:Value):foldedSetIterable e env x=pure x:=by
 cases e<;>first | rfl | cases h
theorem jaa {o:Expr} (h:qcU o=false) (nm:Str) (env:Env) (w:Sem Value):attributeBase o nm env w=w:=by
 cases o with
 | Call f as kws p =>
  cases as with
  | nil=>cases h
  | cons a r=>cases f<;>rfl
 | _=>rfl
theorem zdI (F:Fit g X) (W:Glob G g X C) {r:Expr->Code->Bool} (hr:∀ e c,r e c=true->SE X C e c) {tg it:Expr} {i:Iter} (h:okI r g tg it i=true):SI X C tg it i/\∀ x,foldedSetIterable it X.env x=pure x:=by
 unfold okI at h;rw [wg,w4] at h;obtain ⟨h0,h⟩:=h;refine ⟨?_,ych h0 X.env⟩;cases i with
 | data c=>exact zcO (hr it c h)
 | rng cs =>
  simp only at h;split at h
  ·rename_i y as hcn;obtain ⟨p,pos,rfl⟩:=qI hcn;simp only [wg,Bool.or_eq_true,vm,wG] at h;obtain ⟨⟨⟨⟨rfl,hg⟩,hl⟩,ha⟩,hA⟩:=h;obtain ⟨_,_,_,hst⟩:=yaa ha;have hm:=W.blts "range" (by decide)
   match as,cs,hA,hl,hst with
   | [a],.cons c .nil,hA,_,hst =>
    simp only [okA,Bool.and_true] at hA;exact qcO (F.glob hg) hm (hr a c hA) (ym (hst a (by simp)))
   | [a],.nil,hA,_,_=>simp [okA] at hA
   | [a],.cons _ (.cons _ _),hA,_,_=>simp [okA] at hA
   | [a,b],.cons c (.cons d .nil),hA,_,hst =>
    simp only [okA,Bool.and_true,wg] at hA;exact ycO (F.glob hg) hm (hr a c hA.1) (hr b d hA.2) (by rw [ym (hst a (by simp)),ym (hst b (by simp))];rfl) (ym (hst b (by simp)))
   | [a,b],.nil,hA,_,_=>simp [okA] at hA
   | [a,b],.cons _ .nil,hA,_,_=>simp [okA] at hA
   | [a,b],.cons _ (.cons _ (.cons _ _)),hA,_,_=>simp [okA] at hA
   | [],_,_,hl,_=>simp at hl
   | _::_::_::_,_,_,hl,_=>simp at hl
  ·cases h
 | enu c =>
  simp only [wg] at h;obtain ⟨ht,h⟩:=h;cases tg with
  | Tuple es k p =>
   split at h
   ·rename_i y as hcn;obtain ⟨p',pos,rfl⟩:=qI hcn;split at h
    ·rename_i a ha;cases qy ha;simp only [wg,vm,w4] at h;obtain ⟨⟨⟨rfl,hg⟩,hs⟩,hA⟩:=h;exact jdC (F.glob hg) (W.blts "enumerate" (by decide)) (hr _ _ hA) (ym hs)
    ·cases h
   ·cases h
  | _=>cases ht
 | zip c d =>
  simp only [wg] at h;obtain ⟨ht,h⟩:=h;cases tg with
  | Tuple es k p =>
   split at h
   ·rename_i y as hcn;obtain ⟨p',pos,rfl⟩:=qI hcn;split at h
    ·rename_i a b ha;cases qcw ha;simp only [wg,vm,w4] at h;obtain ⟨⟨⟨⟨⟨rfl,hg⟩,hs⟩,hs'⟩,hA⟩,hB⟩:=h;exact zdD (F.glob hg) (W.blts "zip" (by decide)) (hr _ _ hA) (hr _ _ hB) (by rw [ym hs,ym hs'];rfl) (ym hs')
    ·cases h
   ·cases h
  | _=>cases ht
 | vals c =>
  simp only at h;split at h
  ·split at h
   ·rw [wg,wg,List.isEmpty_iff,List.isEmpty_iff] at h;obtain ⟨⟨rfl,rfl⟩,h⟩:=h;simp only [wg,vm,w4] at h;obtain ⟨⟨⟨rfl,h1⟩,h2⟩,h3⟩:=h;exact ycR (hr _ _ h3) (jaa h1 _ _ _) (by simpa using h2)
   ·cases h
  ·cases h
theorem jbI (F:Fit g X) (W:Glob G g X C) {r t:RE} (hr:∀ g X,Fit g X->Glob G g X C->(∀ e c,r g e c=true->SE X C e c)/\∀ e c,t g e c=true->SB X C e c)
  {elt tg it:Expr} {ifs:List Expr} {asy:Int} {scope:Scope} {c:Code} (h:okC r t g elt tg it ifs asy scope c=true) :
  asy=0/\∃ ce tt m keep i cc N',c=.comp ce tt m keep i cc/\CompS X C elt tg it ifs scope ce tt m keep cc N'/\SI X C tg it i:=by
 unfold okC at h;split at h
 ·rename_i ce tt m keep i cc;simp only [wg,vm,wG] at h;obtain ⟨⟨⟨⟨⟨⟨⟨⟨⟨h0,hsc⟩,hk⟩,hm⟩,hix⟩,hnd⟩,htg⟩,hI⟩,hE⟩,hT⟩:=h;have hI':=zdI F W (hr g X F W).1 hI;have Fb:=λs₀ H₀ fp=>Fit.blk (X:=X) hsc hnd s₀ H₀ fp
  have Wb:=λs₀ H₀ fp=>W.blk (ycU g scope tg keep).N scope s₀ H₀ fp
  refine ⟨h0,ce,tt,m,keep,i,cc,(ycU g scope tg keep).N,rfl,?_,hI'.1⟩;have hsc':=hsc;simp only [jaj,wg,List.all_eq_true,wG,Bool.or_eq_true,vm] at hsc';refine ⟨W.hx,W.calm,hsc'.1,λx hx hx'=>?_,λx hx hf=>?_,λx hx hl=>?_,?_,λk j hkj=>?_,jdH hix,hI'.2,λs₀ H₀ fp=>(zc0 (Fb s₀ H₀ fp) W.calm htg).1,λs₀ H₀ fp=>(hr _ _ (Fb s₀ H₀ fp) (Wb s₀ H₀ fp)).1 elt ce hE,?_⟩
  ·rcases (hsc'.2 _ hx).1.1 with z | z
   ·exact z rfl
   ·rcases z _ hx' with y | y
    ·exact y rfl
    ·exact y rfl
  ·rcases (hsc'.2 x hx).1.2 with z | z | z
   ·exact absurd hf z
   ·exact .inl (F.cel _ z).1
   ·exact F.fre _ z
  ·rcases (hsc'.2 x hx).2 with z | z
   ·exact absurd hl z
   ·exact z
  ·simp [ycU,hm]
  ·have hj:=List.all_eq_true.mp hk j (wR hkj);cases hN:g.N[j]? with
   | none=>rw [hN] at hj;cases hj
   | some x =>
    rw [hN] at hj;simp only [wg,Bool.or_eq_true,vm] at hj;refine ⟨x,?_,by rw [F.N];exact hN,hj.1,?_⟩
    ·show (qbG tg++keep.map λj=>(g.N[j]?).getD Str.empty)[m+k]?=some x;rw [<-hm,List.getElem?_append_right (Nat.le_add_right _ _),Nat.add_sub_cancel_left,wx,hkj];simp [hN]
    ·rcases hj.2 with z | z
     ·exact .inl (F.cel _ z).1
     ·exact F.fre _ z
  ·split at hT
   ·exact .inl ⟨rfl,rfl⟩
   ·rename_i e c';exact .inr ⟨e,c',rfl,rfl,λs₀ H₀ fp=>(hr _ _ (Fb s₀ H₀ fp) (Wb s₀ H₀ fp)).2 e c' hT⟩
   ·cases hT
 ·cases h
end
theorem zab:bootBuiltins "tuple"=some (.type "tuple"):=by kernel_rfl
theorem zbJ:bootBuiltins "int"=some (.type "int"):=by kernel_rfl
theorem qbJ:bootBuiltins "all"=some (.builtin "all"):=by kernel_rfl
theorem ybJ:bootBuiltins "sorted"=some (.builtin "sorted"):=by kernel_rfl
theorem jbJ:bootBuiltins "min"=some (.builtin "min"):=by kernel_rfl
theorem zbK:bootBuiltins "isinstance"=some (.builtin "isinstance"):=by kernel_rfl
section
variable {g:Gam} {X:Cx} {C:Tab} {G:GTab}
theorem jch {s:Expr} (h:qa7 s=false):qaP s:=λo i=>by cases s<;>first | rfl | cases h
theorem ycx (F:Fit g X) {r:Expr->Code->Bool} (hr:∀ e c,r e c=true->SE X C e c) {args:List Expr} {cs:Codes} (h:yce r g args cs=true):∃ a c p pos,args=[.Call (.Name "set" p) [a] [] pos]/\cs=.cons c .nil/\Gl X "set"/\starEach [a] X.env=[(false,eval a X.env)]/\SE X C a c:=by
 unfold yce at h;split at h
 ·rename_i y as hc;obtain ⟨p,q,rfl⟩:=ya7 hc;split at h
  ·rename_i a ha;cases qy ha;split at h
   ·simp only [wg,vm,w4] at h;obtain ⟨⟨⟨rfl,hg⟩,hs⟩,hA⟩:=h;exact ⟨_,_,_,_,rfl,rfl,F.glob hg,ym hs,hr _ _ hA⟩
   ·cases h
  ·cases h
 ·cases h
theorem qbK (F:Fit g X) {r:Expr->Code->Bool} (hr:∀ e c,r e c=true->SE X C e c) {args:List Expr} {cs:Codes} (h:ybG r g args cs=true):∃ e es p pos,args=[.Call (.Name "range" p) (e::es) [] pos]/\Gl X "range"/\(∀ a∈e::es,jn a=false)/\SA X C (e::es) cs:=by
 unfold ybG at h;split at h
 ·rename_i y as hc;obtain ⟨p,q,rfl⟩:=ya7 hc;simp only [wg,vm] at h;obtain ⟨⟨⟨rfl,hg⟩,ha⟩,hA⟩:=h;obtain ⟨a,as,rfl,hst⟩:=yaa ha;exact ⟨_,_,_,_,rfl,F.glob hg,hst,zaH hr hst hA⟩
 ·cases h
theorem jcx (F:Fit g X) (W:Glob G g X C) {b:Blt} {x:Str} {e:Expr} {es:List Expr} {cs:Codes} {p pos:Pos} (hb:yeg b=some x) (hg:qaO g x=true) (hst:∀ a∈e::es,jn a=false) (hA:SA X C (e::es) cs) :
  SE X C (.Call (.Name x p) (e::es) [] pos) (.blt b cs)/\(b=.list->SF X C (.Call (.Name x p) (e::es) [] pos) (.blt b cs)):=by
 have s1:=ym (env:=X.env) (es:=es) (hst e (by simp));have s2:=zak (env:=X.env) (pos:=pos) (es:=es) λa h=>hst a (by simp [h])
 cases b with
 | len=>cases hb;exact ⟨jaq zbA (F.glob hg) (W.blts _ (by decide)) qbF hA (by decide) (by decide) s1 s2,λz=>by cases z⟩
 | list=>cases hb;exact ⟨zar yah (F.glob hg) (W.blts _ (by decide)) jQ hA (by decide) (by decide) s1 s2,λ_=>ycb yah (F.glob hg) (W.blts _ (by decide)) jQ hA (by decide) (by decide) s1 s2⟩
 | tuple=>cases hb;exact ⟨zar yaR (F.glob hg) (W.blts _ (by decide)) zab hA (by decide) (by decide) s1 s2,λz=>by cases z⟩
 | int=>cases hb;exact ⟨zar qbA (F.glob hg) (W.blts _ (by decide)) zbJ hA (by decide) (by decide) s1 s2,λz=>by cases z⟩
 | str=>cases hb
 | all=>cases hb;exact ⟨jaq (zbG W.calm) (F.glob hg) (W.blts _ (by decide)) qbJ hA (by decide) (by decide) s1 s2,λz=>by cases z⟩
 | any=>cases hb
 | sum=>cases hb
 | min=>cases hb
 | sorted=>cases hb;exact ⟨jaq yaG (F.glob hg) (W.blts _ (by decide)) ybJ hA (by decide) (by decide) s1 s2,λz=>by cases z⟩
 | max=>cases hb
 | _=>cases hb
theorem qdI (t:Ty):tyS t∈bltL:=by cases t<;>decide
theorem ydI {r:Expr->Code->Bool} (hr:∀ e c,r e c=true->SE X C e c) {e:Option Expr} {c:OCode} (h:okO r e c=true):SO X C e c:=by
 unfold okO at h;split at h
 ·exact zcW
 ·exact qcW (hr _ _ h)
 ·cases h
theorem call_of (F:Fit g X) (W:Glob G g X C) {r:Expr->Code->Bool} (hr:∀ e c,r e c=true->SE X C e c) {x:Str} {args:List Expr} {c:Code} {p pos:Pos} (h:jbG G r g x args c=true):SE X C (.Call (.Name x p) args [] pos) c:=by
 unfold jbG at h;rw [wg,wg] at h;obtain ⟨⟨hg,hp⟩,h⟩:=h;split at h
 ·simp only [wg,vm] at h;obtain ⟨a,as,rfl,hst⟩:=yaa h.1.2;exact jcZ W h.1.1 (F.glob hg) (ye hp).1 (zaH hr hst h.2) hst
 ·cases h
 ·simp only [wg,vm] at h;obtain ⟨rfl,h⟩:=h;obtain ⟨a,c,p',pos',rfl,rfl,h1,h2,h3⟩:=ycx F hr h;exact zaF W.calm h1 (W.blts _ (by decide)) (F.glob hg) (W.blts _ (by decide)) h3 h2
 ·simp only [wg,vm] at h;obtain ⟨a,as,rfl,hst⟩:=yaa h.1.2;exact (jcx F W h.1.1 hg hst (zaH hr hst h.2)).1
 ·simp only [wg,vm] at h;obtain ⟨rfl,h⟩:=h;obtain ⟨e,es,p',pos',rfl,h1,h2,h3⟩:=qbK F hr h;have sf:=yaj (p1:=p) (pos1:=pos) (p2:=p') (pos2:=pos') W.calm h1 (W.blts _ (by decide)) (F.glob hg) (W.blts _ (by decide)) h3 (ym (h2 e (by simp))) (zak λa h=>h2 a (by simp [h]));intro B ρ d ed
  have:∃ ds,d=.lst ds:=by
   obtain ⟨ds',hd,ed⟩:=wa (show (evI C (.rng _) ρ).bind (λds=>some (D.lst ds))=some d from ed);exact ⟨ds',(wB ed).symm⟩
  obtain ⟨ds,rfl⟩:=this;exact sf.se B ρ ds ed
 ·simp only [wg,vm] at h;obtain ⟨rfl,h⟩:=h;obtain ⟨e,es,p',pos',rfl,h1,h2,h3⟩:=qbK F hr h;exact qaT W.calm h1 (W.blts _ (by decide)) (F.glob hg) (W.blts _ (by decide)) zab h3 (ym (h2 e (by simp))) (zak λa h=>h2 a (by simp [h]))
 ·simp only [wg,vm] at h;obtain ⟨rfl,h⟩:=h;unfold ydF at h;split at h
  ·simp only [wg,vm,w4] at h;obtain ⟨⟨⟨rfl,hy⟩,hs⟩,hA⟩:=h;exact ydG (F.glob hg) (W.blts _ (by decide)) zbK (F.glob hy) (W.blts _ (qdI _)) (hr _ _ hA) hs
  ·cases h
 ·cases h
theorem yd7 (F:Fit g X) (W:Glob G g X C) {r:Expr->Code->Bool} (hE:∀ e c,r e c=true->SE X C e c) {f:Expr} {args:List Expr} {kws:List Keyword} {cpos:Pos} {c:Code} (h:zd6 G r g f args kws cpos.line c=true):SE X C (.Call f args kws cpos) c:=by
 unfold zd6 at h;split at h
 ·split at h
  ·exact call_of F W hE h
  ·cases h
 ·split at h
  ·split at h
   ·unfold jeg at h;split at h
    ·rw [wg] at h;obtain ⟨h0,h⟩:=h;simp only [wg,vm,w4] at h;obtain ⟨⟨⟨⟨h1,h2⟩,h3⟩,h4⟩,h5⟩:=h;split at h0
     ·rw [vm] at h0;subst h0;exact zcg W.hu (hE _ _ h4) (hE _ _ h5) (jaa h1 _ _ _) (by simpa using h3) (ym h2)
     ·rw [vm] at h0;subst h0;exact ycg W.hu (hE _ _ h4) (hE _ _ h5) (jaa h1 _ _ _) (by simpa using h3) (ym h2)
     ·cases h0
    ·cases h
   ·cases h
  ·cases h
 ·cases h
theorem jd7 (F:Fit g X) (W:Glob G g X C) {r t:RE} (hr:∀ g X,Fit g X->Glob G g X C->(∀ e c,r g e c=true->SE X C e c)/\∀ e c,t g e c=true->SB X C e c) {f:Expr} {args:List Expr} {kws:List Keyword} {cpos:Pos} {c:Code} (h:zd7 r g f args kws c=true):SE X C (.Call f args kws cpos) c:=by
 unfold zd7 at h;split at h
 rotate_left
 ·cases h
 rename_i x a k ce keep ca h1 h2 h3 h4;obtain ⟨p,rfl⟩:=yI h1;cases qy h2;cases qy h3;cases zcf h4;obtain ⟨karg,kval,kpos⟩:=k;simp only [wg,vm,w4] at h;obtain ⟨⟨⟨⟨⟨rfl,hg⟩,hs⟩,rfl⟩,hA⟩,h⟩:=h;split at h
 rotate_left
 ·cases h
 rename_i ps body scope pos hlm;cases zcV hlm;unfold jdF at h;split at h
 rotate_left
 ·cases h
 rename_i y hy;obtain ⟨an,pp,rfl⟩:=ycV hy;simp only [wg,vm,w4,List.all_eq_true,wG] at h;obtain ⟨⟨⟨⟨hlp,hsc⟩,⟨⟨hnc,hco⟩,hge⟩⟩,⟨⟨hpar,hkp⟩,hnd⟩⟩,hB⟩:=h;have hlp':g.lp≠none:=by rw [hlp];exact λz=>by cases z
 have hsc':=hsc;simp only [jaj,wg,List.all_eq_true,wG,Bool.or_eq_true,vm] at hsc'
 have Sl:LamS X C y body scope ce keep (zdU g y scope keep).N:=by
  refine ⟨hsc'.1,hnc,hco,hge,λx hx hf=>?_,hpar,rfl,by simp [zdU,Nat.add_comm],λk j hkj=>?_,λs₀ H₀ fa cd=>(hr _ _ (Fit.lamb (X:=X) hnc hnd s₀ H₀ fa cd) (W.lam hlp' _ scope s₀ H₀ fa cd)).1 body ce hB⟩
  ·rcases (hsc'.2 x hx).1.2 with z | z | z
   ·exact absurd hf z
   ·exact .inl (F.cel _ z).1
   ·exact F.fre _ z
  ·have hj:=List.all_eq_true.mp hkp j (wR hkj);cases hN:g.N[j]? with
   | none=>rw [hN] at hj;cases hj
   | some x =>
    rw [hN] at hj;simp only [wg,Bool.or_eq_true,vm] at hj;refine ⟨x,?_,by rw [F.N];exact hN,hj.1,?_⟩
    ·show (y::keep.map λj=>(g.N[j]?).getD Str.empty)[1+k]?=some x;rw [Nat.add_comm,List.getElem?_cons_succ,wx,hkj];simp [hN]
    ·rcases hj.2 with z | z
     ·exact .inl (F.cel _ z).1
     ·exact F.fre _ z
 exact zcY Sl W.calm (F.lmo pos hlp) (W.lr hlp').2 rfl bind1 (F.glob hg) (W.blts _ (by decide)) jbJ ((hr g X F W).1 _ _ hA) (ym hs)
theorem zci (F:Fit g X) (W:Glob G g X C) {r t:RE} (hr:∀ g X,Fit g X->Glob G g X C->(∀ e c,r g e c=true->SE X C e c)/\∀ e c,t g e c=true->SB X C e c) {e:Expr} {c:Code} (h:jcV G r t g e c=true):SE X C e c:=by
 have hE:=(hr g X F W).1;have hT:=(hr g X F W).2;unfold jcV at h;split at h
 ·-- a constant
  split at h
  ·unfold zcw at h;split at h
   ·exact qds
   ·have:=eq_of_beq h;subst this;exact yd4
   ·have:=eq_of_beq h;subst this;exact zds
   ·have:=eq_of_beq h;subst this;exact yds
   ·cases h
  ·cases h
 ·-- a name
  rw [wg] at h;obtain ⟨hp,h⟩:=h;unfold qeh at h;split at h
  ·rw [wg] at h;exact jds (F.slot h.1) (F.vis h.2) (ye hp).1 (ye hp).2
  ·rw [wg,vm] at h;obtain ⟨tk,hm⟩:=W.cons _ _ h.2;exact zcM (v:=.int _) (F.glob h.1) hm ⟨tk,rfl⟩ (λ_ _=>.int _) (ye hp).1
  ·cases h
 ·split at h
  ·simp only [wg,wG] at h;obtain ⟨⟨rfl,h1⟩,h2⟩:=h;exact zdt (ybz _) (hE _ _ h1) (hE _ _ h2)
  ·cases h
 ·split at h
  ·split at h
   ·exact ydt (hE _ _ h)
   ·cases h
  ·split at h
   ·exact zdv (hE _ _ h)
   ·cases h
  ·cases h
 ·exact qcZ hE h
 ·split at h
  ·simp only [wg] at h;exact zdw (hT _ _ h.1.1) (hE _ _ h.1.2) (hE _ _ h.2)
  ·cases h
 ·exact (qcx hE W.hu h).1
 ·split at h
  ·simp only [wg,List.all_eq_true,w4] at h;exact jct (zaH hE h.1 h.2)
  ·cases h
 ·split at h
  ·simp only [wg,List.all_eq_true,w4] at h;exact qdw (zaH hE h.1 h.2)
  ·cases h
 ·unfold zeh at h;split at h
  ·simp only [wg,w4] at h;exact ydz (hE _ _ h.1.2) (hE _ _ h.2) (jch h.1.1)
  ·split at h
   ·simp only [wg] at h;exact zdG (hE _ _ h.1.1) (ydI hE h.1.2) (ydI hE h.2)
   ·cases h
  ·cases h
 ·unfold yeh at h;split at h
  ·split at h
   ·rename_i k v hk hv;obtain ⟨k',h1,h2⟩:=wa hk;cases qy h1;cases qy hv;have h2':k'=some k:=h2;subst h2';rw [wg] at h;exact ycY (hE _ _ h.1) (hE _ _ h.2)
   ·cases h
  ·cases h
 ·split at h
  ·obtain ⟨rfl,ce,tt,m,keep,i,cc,N',rfl,S,hi⟩:=jbI F W hr h;exact jcN S hi
  ·cases h
 ·rw [Bool.or_eq_true] at h;exact h.elim (λh=>yd7 F W hE h) (λh=>jd7 F W hr h)
 ·cases h
theorem qci (F:Fit g X) (W:Glob G g X C) {r t:RE} (hr:∀ g X,Fit g X->Glob G g X C->(∀ e c,r g e c=true->SE X C e c)/\∀ e c,t g e c=true->SB X C e c) {e:Expr} {c:Code} (h:stepT G r t g e c=true):SB X C e c:=by
 have hE:=(hr g X F W).1;have hT:=(hr g X F W).2;unfold stepT at h;split at h
 ·split at h
  ·exact jdu (hT _ _ h)
  ·cases h
 ·exact λB ρ d k e1 e2=>(ycZ hT h B ρ d k e1 e2).pt
 ·cases h
 ·exact (qcx hE W.hu h).2
 ·rename_i n1 n2 n3 n4;refine jd4 (hE _ _ h) λwhole=>?_
  cases e with
  | UnaryOp op a p =>
   cases op with
   | Not=>exact absurd rfl (n1 _ _)
   | _=>rfl
  | BoolOp op es p=>exact absurd rfl (n2 _ _ _)
  | IfExp a b c p=>exact absurd rfl (n3 _ _ _ _)
  | Compare a b c p=>exact absurd rfl (n4 _ _ _ _)
  | _=>rfl
theorem jat (G:GTab) (C:Tab):∀ (n:Nat) (g:Gam) (X:Cx),Fit g X->Glob G g X C->(∀ e c,(ok G n).1 g e c=true->SE X C e c)/\∀ e c,(ok G n).2 g e c=true->SB X C e c
 | 0,_,_,_,_=>⟨λ_ _ h=>(by cases h),λ_ _ h=>(by cases h)⟩
 | n+1,g,X,F,W=>⟨λe c h=>zci F W (jat G C n) h,λe c h=>qci F W (jat G C n) h⟩
end
noncomputable def zei (r:Expr->Code->Bool) (g:Gam) (x:Str) (args:List Expr) (c:Code):Bool:=match c with
 | .blt .list cs=>x==("list":Str)&&qaO g x&&yaT args&&okA r args cs
 | .blt .sortedSet cs=>x==("sorted":Str)&&qaO g x&&yce r g args cs
 | .ofi .list (.rng cs)=>x==("list":Str)&&qaO g x&&ybG r g args cs
 | _=>false
noncomputable def zd8 (r:Expr->Code->Bool) (g:Gam) (e:Expr) (c:Code):Bool:=match jaF e with
 | some (x,args)=>zei r g x args c
 | none=>(match e with
  | .List es _=>(match c with | .lst cs=>es.all (λe=>!jn e)&&okA r es cs | _=>false)
  | .BinOp l o rr _=>(match c with | .bin op a b=>decide (o=op)&&r l a&&r rr b | _=>false)
  | _=>false)
noncomputable def ybK (r t:RE) (g:Gam) (tg e:Expr) (m:Mode) (tt:Tgt) (c:Code):Bool:=tgB g tg tt&&match e with
 | .ListComp elt [⟨tg',it,ifs,asy⟩] scope _=>(match tg with | .Name ..=>okC r t g elt tg' it ifs asy scope c | _=>false)
 | e=>!yaE e&&(match m with
  | .ow=>(match tg with | .Name ..=>zd8 (r g) g e c | _=>false)
  | _=>(match tg with | .Name ..=>r g e c | _=>!ydc e&&r g e c))
noncomputable def qei (r:Expr->Code->Bool) (v:Option Expr) (c:Code):Bool:=match v with
 | some e=>r e c
 | none=>(match c with | .cst .non=>true | _=>false)
noncomputable def qd8 (r t:RE) (g:Gam) (tg e:Expr) (s:Stm):Bool:=match s with
 | .set m tt c=>ybK r t g tg e m tt c
 | .newd i=>(match e with | .Dict ks vs _=>(ks.isEmpty&&vs.isEmpty)&&(match tg with | .Name x _=>zO g i x&&zcU g x | _=>false) | _=>false)
 | .newm i _ _=>(match e with | .Dict ks vs _=>(ks.isEmpty&&vs.isEmpty)&&(match tg with | .Name x _=>zO g i x&&zcU g x | _=>false) | _=>false)
 | .put i ck ce=>(match tg with | .Subscript o ix _=>(match jaT o with | some x=>zO g i x&&yb1 g x&&yF x&&!qa7 ix&&r g ix ck&&r g e ce | none=>false) | _=>false)
 | _=>false
noncomputable def yei (r:Expr->Code->Bool) (g:Gam) (x nm:Str) (l l':Nat) (e:Expr) (s:Stm):Bool:=match s with
 | .app i m c=>nm==("append":Str)&&zO g i x&&yb1 g x&&yF x&&!jn e&&l==l'&&r e c
 | .rem i c=>nm==("remove":Str)&&zO g i x&&yb1 g x&&yF x&&!jn e&&l==l'&&r e c
 | .ext i m c=>nm==("extend":Str)&&zO g i x&&yb1 g x&&yF x&&!jn e&&l==l'&&r e c
 | _=>false
noncomputable def jei (r:Expr->Code->Bool) (g:Gam) (f:Expr) (args:List Expr) (kws:List Keyword) (l1:Nat) (n2:Str) (l2 l2':Nat) (e:Expr) (s:Stm):Bool:=match f with
 | .Attribute o n1 ap1=>(match o with
  | .Name x _=>(match args with
   | [ek,ev]=>(match ev with
    | .List es _=>(es.isEmpty&&kws.isEmpty)&&(match s with
     | .grp i ck cv=>n1==("setdefault":Str)&&n2==("append":Str)&&zO g i x&&yb1 g x&&yF x&&!jn ek&&!jn e&&ap1.endLine==l1&&l2==l2'&&r ek ck&&r e cv
     | _=>false)
    | _=>false)
   | _=>false)
  | _=>false)
 | _=>false
noncomputable def yd8 (r:Expr->Code->Bool) (g:Gam) (e:Expr) (s:Stm):Bool:=match e with
 | .Call f args kws cpos=>kws.isEmpty&&(match f with
  | .Attribute o nm apos=>(match args with
   | [e]=>(match o with
    | .Name x _=>yei r g x nm apos.endLine cpos.line e s
    | .Call f' args' kws' cp1=>jei r g f' args' kws' cp1.line nm apos.endLine cpos.line e s
    | _=>false)
   | _=>false)
  | _=>false)
 | _=>false
noncomputable def qc0 (r t:RE) (b:List Stmt->Stms->Bool) (g:Gam) (st:Stmt) (s:Stm):Bool:=match st with
 | .Return v _=>(match s with | .ret c=>qei (r g) v c | _=>false)
 | .Pass _=>(match s with | .pas=>true | _=>false)
 | .Break _=>(match s with | .brk=>true | _=>false)
 | .Continue _=>(match s with | .cnt=>true | _=>false)
 | .If e x y _=>(match s with | .ite c sx sy=>t g e c&&b x sx&&b y sy | _=>false)
 | .While e body els _=>els.isEmpty&&(match s with | .whl _ c bb=>t g e c&&b body bb | _=>false)
 | .For tg it body els _=>els.isEmpty&&(match s with | .for tt i bb=>tgB g tg tt&&okI (r g) g tg it i&&b body bb | _=>false)
 | .Assign tgs e _=>(match tgs with | [tg]=>qd8 r t g tg e s | _=>false)
 | .Expr e _=>yd8 (r g) g e s
 | _=>false
noncomputable def jd8 (e:Expr):Option (Expr×Expr):=match e with
 | .Tuple es _ _=>jdT es
 | _=>none
theorem jbK {e a b:Expr} (h:jd8 e=some (a,b)):∃ k p,e=.Tuple [a,b] k p:=by
 unfold jd8 at h;split at h
 ·cases qcw h;exact ⟨_,_,rfl⟩
 ·cases h
noncomputable def zd9 (e:Expr):Option (Expr×CmpOp×Expr):=match e with
 | .Compare l os es _=>(one? os).bind λo=>(one? es).map λr=>(l,o,r)
 | _=>none
theorem yc0 {e l r:Expr} {o:CmpOp} (h:zd9 e=some (l,o,r)):∃ p,e=.Compare l [o] [r] p:=by
 unfold zd9 at h;split at h
 ·rename_i os es p;cases h1:one? os with
  | none=>rw [h1] at h;cases h
  | some o' =>
   rw [h1,wd] at h;cases h2:one? es with
   | none=>rw [h2] at h;cases h
   | some r' =>
    rw [h2] at h;cases h
    cases qy h1;cases qy h2
    exact ⟨_,rfl⟩
 ·cases h
noncomputable def qd9 (st:Stmt):Option Expr:=match st with
 | .Return v _=>v
 | _=>none
theorem jc0 {st:Stmt} {e:Expr} (h:qd9 st=some e):∃ p,st=.Return (some e) p:=by
 unfold qd9 at h;split at h
 ·cases h;exact ⟨_,rfl⟩
 ·cases h
noncomputable def qdU (e:Expr):Option (Expr×Expr):=match e with
 | .Subscript o i _=>some (o,i)
 | _=>none
theorem zbL {e o i:Expr} (h:qdU e=some (o,i)):∃ p,e=.Subscript o i p:=by
 unfold qdU at h;split at h
 ·cases h;exact ⟨_,rfl⟩
 ·cases h
noncomputable def blB (b:Bool) (e:Expr):Bool:=match qd6 e with
 | some (.bool k)=>k==b
 | _=>false
theorem zcy {b:Bool} {e:Expr} (h:blB b e=true):∃ j p,e=.Constant (.bool b) j p:=by
 unfold blB at h;split at h
 ·rename_i w;rw [vm] at h;subst h;exact jcU w
 ·cases h
noncomputable def ydU (r:Expr->Code->Bool) (g:Gam) (i:Nat) (d k:Expr) (a b:Code):Bool:=match jaT d,jd8 k with
 | some x,some (ea,eb)=>zO g i x&&yb1 g x&&yF x&&!jn ea&&!jn eb&&r ea a&&r eb b
 | _,_=>false
noncomputable def jdI (r:Expr->Code->Bool) (g:Gam) (st:Stmt) (i:Nat) (a b:Code):Bool:=match st with
 | .If e x y _=>y.isEmpty&&(match zd9 e,(one? x).bind qd9 with
  | some (l,o,d),some z=>decide (o=.In)&&blB false z&&ydU r g i d l a b
  | _,_=>false)
 | _=>false
noncomputable def zdJ (r:Expr->Code->Bool) (g:Gam) (st:Stmt) (i:Nat) (a b:Code):Bool:=match st with
 | .Assign tgs e _=>(match (one? tgs).bind qdU with
  | some (d,k)=>blB true e&&ydU r g i d k a b
  | none=>false)
 | _=>false
noncomputable def jdU (st:Stmt):Option (Expr×Expr):=match st with
 | .Assign tgs e _=>(one? tgs).map λt=>(t,e)
 | _=>none
theorem qbL {st:Stmt} {t e:Expr} (h:jdU st=some (t,e)):∃ p,st=.Assign [t] e p:=by
 unfold jdU at h;split at h
 ·obtain ⟨t',h1,h2⟩:=wb h;cases h2;cases qy h1;exact ⟨_,rfl⟩
 ·cases h
noncomputable def qdJ (r:Expr->Code->Bool) (g:Gam) (s1 s2:Stmt) (i:Nat) (d k v:Code):Bool:=match jdU s1,jdU s2 with
 | some (t1,e1),some (t2,e2)=>(match jaT t1,jaF e1,qdU t2 with
  | some x,some (f,as),some (o,ek)=>(match one? as,jaT o with
   | some ed,some x'=>(f==("dict":Str)&&qaO g f&&x'==x)&&(zO g i x&&zcU g x&&yb1 g x&&yF x)&&(!jn ed&&!qa7 ek)&&(r ed d&&r ek k&&r e2 v)
   | _,_=>false)
  | _,_,_=>false)
 | _,_=>false
noncomputable def oks (r t:RE) (g:Gam):Nat->List Stmt->Stms->Bool
 | 0,_,_=>false
 | n+1,sts,s=>match s with
  | .nil=>sts.isEmpty
  | .frz _ q=>oks r t g n sts q
  | .mgd i a b q=>(match sts with | st::rest=>jdI (r g) g st i a b&&oks r t g n rest q | []=>false)
  | .dcp i d k v q=>(match sts with | s1::s2::rest=>qdJ (r g) g s1 s2 i d k v&&oks r t g n rest q | _=>false)
  | .mput i a b q=>(match sts with | st::rest=>zdJ (r g) g st i a b&&oks r t g n rest q | []=>false)
  | .cons a q=>(match sts with | st::rest=>qc0 r t (oks r t g n) g st a&&oks r t g n rest q | []=>false)
section
variable {g:Gam} {X:Cx} {C:Tab} {G:GTab}
theorem yd9 (F:Fit g X) (W:Glob G g X C) {r:Expr->Code->Bool} (hr:∀ e c,r e c=true->SE X C e c) {e:Expr} {c:Code} (h:zd8 r g e c=true):SF X C e c:=by
 unfold zd8 at h;split at h
 ·rename_i x args hc;obtain ⟨p,q,rfl⟩:=qI hc;unfold zei at h;split at h
  ·simp only [wg,vm] at h;obtain ⟨⟨⟨rfl,hg⟩,ha⟩,hA⟩:=h;obtain ⟨a,as,rfl,hst⟩:=yaa ha;exact (jcx F W (b:=.list) rfl hg hst (zaH hr hst hA)).2 rfl
  ·simp only [wg,vm] at h;obtain ⟨⟨rfl,hg⟩,hA⟩:=h;obtain ⟨a,c,p',pos',rfl,rfl,h1,h2,h3⟩:=ycx F hr hA;exact qU W.calm h1 (W.blts _ (by decide)) (F.glob hg) (W.blts _ (by decide)) h3 h2
  ·simp only [wg,vm] at h;obtain ⟨⟨rfl,hg⟩,hA⟩:=h;obtain ⟨e,es,p',pos',rfl,h1,h2,h3⟩:=qbK F hr hA;exact yaj W.calm h1 (W.blts _ (by decide)) (F.glob hg) (W.blts _ (by decide)) h3 (ym (h2 e (by simp))) (zak λa h=>h2 a (by simp [h]))
  ·cases h
 ·split at h
  ·split at h
   ·simp only [wg,List.all_eq_true,w4] at h;exact yby (zaH hr h.1 h.2)
   ·cases h
  ·split at h
   ·simp only [wg,wG] at h;obtain ⟨⟨rfl,h1⟩,h2⟩:=h;exact qdt (ybz _) (hr _ _ h1) (hr _ _ h2)
   ·cases h
  ·cases h
theorem zc1 {tg e:Expr} (h:yaE e=false) (n:Nat) (env:Env):swapsWithSole [tg] e n env=pure false:=yai h _ _ _
theorem qc1 {e:Expr} (h:ydc e=false) (env:Env):∀ es k p,swappedStores [.Tuple es k p] e env=pure none:=by
 intro es k p;cases e<;>first | rfl | cases h
theorem yc1 (F:Fit g X) (W:Glob G g X C) {r t:RE} (hr:∀ g X,Fit g X->Glob G g X C->(∀ e c,r g e c=true->SE X C e c)/\∀ e c,t g e c=true->SB X C e c) {tg e:Expr} {m:Mode} {tt:Tgt} {c:Code} {pos:Pos}
  (h:ybK r t g tg e m tt c=true):SS X C (.Assign [tg] e pos) (.set m tt c):=by
 have hE:=(hr g X F W).1;unfold ybK at h;rw [wg] at h;obtain ⟨htg,h⟩:=h;obtain ⟨hpg,hix⟩:=zc0 F W.calm htg;split at h
 ·split at h
  ·rename_i x p;obtain ⟨rfl,ce,tt',m',keep,i,cc,N',rfl,S,hi⟩:=jbI F W hr h;cases tt with
   | many is=>cases htg
   | one j =>
    simp only [tgB,wg] at htg;have hsl:=F.slot htg.1;obtain ⟨hl,hf⟩:=F.locd htg.2;cases m with
    | pu=>exact ydB (ya4 S hi F.nd hsl hl hf) hix
    | cl=>exact jdB (ya4 S hi F.nd hsl hl hf) hix
    | ow=>exact zdC (zcd S hi F.nd hsl hl hf) (hix j (by simp [Tgt.ixs]))
  ·cases h
 ·rw [wg,w4] at h;obtain ⟨hnc,h⟩:=h
  have plain:r g e c=true->(ydc tg=true->ydc e=false)->SAs X C tg e pos tt c:=λhrc hte=>by
   cases tg with
   | Name x p =>
    cases tt with
    | many is=>cases htg
    | one j =>
     simp only [tgB,wg] at htg;obtain ⟨hl,hf⟩:=F.locd htg.2;exact ycc (hE _ _ hrc) hnc F.nd (F.slot htg.1) hl hf
   | Tuple es k p=>exact λB ρ d ed=>qaY (hE _ _ hrc B ρ d ed) hpg (zc1 hnc _ _) (qc1 (hte rfl) _ _ _ _) rfl
   | _=>cases tt<;>cases htg
  split at h
  ·split at h
   ·cases tt with
    | many is=>cases htg
    | one j =>
     simp only [tgB,wg] at htg;obtain ⟨hl,hf⟩:=F.locd htg.2;exact zdC (jcc (yd9 F W hE h) hnc F.nd (F.slot htg.1) hl hf) (hix j (by simp [Tgt.ixs]))
   ·cases h
  ·rename_i hm
   have sas:SAs X C tg e pos tt c:=by
    split at h
    ·exact plain h λz=>by cases z
    ·rw [wg,w4] at h;exact plain h.2 λ_=>h.1
   cases m with
   | pu=>exact ydB sas hix
   | cl=>exact jdB sas hix
   | ow=>exact absurd rfl hm
theorem jc1 {i:Nat} {x:Str} {px apos cpos spos:Pos} {e:Expr} {c:Code} {m:Mode} (hN:X.N[i]?=some x) (hv:Vis X.env.scope x) (hd:(x==("__debug__":Str))=false) (hcd:(x==("__classdict__":Str))=false)
  (he:SE X C e c) (hs:starEach [e] X.env=[(false,eval e X.env)]) (hline:(apos.endLine==cpos.line)=true):SS X C (.Expr (.Call (.Attribute (.Name x px) "extend" apos) [e] [] cpos) spos) (.ext i m c):=by
 cases m with
 | pu=>exact jdD hN hv hd hcd he hs hline
 | cl=>exact ybE (λz=>by cases z) hN hv hd hcd he hs hline
 | ow=>exact ybE (λz=>by cases z) hN hv hd hcd he hs hline
theorem jd9 (F:Fit g X) (W:Glob G g X C) {r:Expr->Code->Bool} (hE:∀ e c,r e c=true->SE X C e c) {e:Expr} {p:Pos} {s:Stm} (h:yd8 r g e s=true):SS X C (.Expr e p) s:=by
 unfold yd8 at h;split at h
 ·rw [wg,List.isEmpty_iff] at h;obtain ⟨rfl,h⟩:=h;split at h
  ·split at h
   ·split at h
    ·unfold yei at h;split at h
     ·simp only [wg,vm,w4] at h;obtain ⟨⟨⟨⟨⟨⟨rfl,h1⟩,h2⟩,h3⟩,h4⟩,h5⟩,h6⟩:=h;exact qdC (F.slot h1) (F.vis h2) (ye h3).1 (ye h3).2 (hE _ _ h6) (ym h4) (by simpa using h5)
     ·simp only [wg,vm,w4] at h;obtain ⟨⟨⟨⟨⟨⟨rfl,h1⟩,h2⟩,h3⟩,h4⟩,h5⟩,h6⟩:=h;exact zdH (F.slot h1) (F.vis h2) (ye h3).1 (ye h3).2 (hE _ _ h6) (ym h4) (by simpa using h5)
     ·simp only [wg,vm,w4] at h;obtain ⟨⟨⟨⟨⟨⟨rfl,h1⟩,h2⟩,h3⟩,h4⟩,h5⟩,h6⟩:=h;exact jc1 (F.slot h1) (F.vis h2) (ye h3).1 (ye h3).2 (hE _ _ h6) (ym h4) (by simpa using h5)
     ·cases h
    ·unfold jei at h;split at h
     ·split at h
      ·split at h
       ·split at h
        ·rw [wg,wg,List.isEmpty_iff,List.isEmpty_iff] at h;obtain ⟨⟨rfl,rfl⟩,h⟩:=h;split at h
         ·simp only [wg,vm,w4] at h;obtain ⟨⟨⟨⟨⟨⟨⟨⟨⟨⟨rfl,rfl⟩,h1⟩,h2⟩,h3⟩,h4⟩,h5⟩,h6⟩,h7⟩,h8⟩,h9⟩:=h;exact ydD W.hu (F.slot h1) (F.vis h2) (ye h3).1 (ye h3).2 (hE _ _ h8) (hE _ _ h9) (ym h4) (ym h5) (by simpa using h6) (by simpa using h7)
         ·cases h
        ·cases h
       ·cases h
      ·cases h
     ·cases h
    ·cases h
   ·cases h
  ·cases h
 ·cases h
theorem zea (F:Fit g X) (W:Glob G g X C) {r t:RE} (hr:∀ g X,Fit g X->Glob G g X C->(∀ e c,r g e c=true->SE X C e c)/\∀ e c,t g e c=true->SB X C e c) {tg e:Expr} {p:Pos} {s:Stm} (h:qd8 r t g tg e s=true):SS X C (.Assign [tg] e p) s:=by
 unfold qd8 at h;split at h
 ·exact yc1 F W hr h
 ·split at h
  ·rw [wg,wg,List.isEmpty_iff,List.isEmpty_iff] at h;obtain ⟨⟨rfl,rfl⟩,h⟩:=h;split at h
   ·rw [wg] at h;have hsl:=F.slot h.1;obtain ⟨hl,hf⟩:=F.locd h.2;exact ycQ F.nd hsl hl hf (wq.mp hsl).1
   ·cases h
  ·cases h
 ·split at h
  ·rw [wg,wg,List.isEmpty_iff,List.isEmpty_iff] at h;obtain ⟨⟨rfl,rfl⟩,h⟩:=h;split at h
   ·rw [wg] at h;have hsl:=F.slot h.1;obtain ⟨hl,hf⟩:=F.locd h.2;exact zcT F.nd hsl hl hf (wq.mp hsl).1
   ·cases h
  ·cases h
 ·split at h
  ·split at h
   ·rename_i x hn;obtain ⟨px,rfl⟩:=yI hn;simp only [wg,w4] at h;obtain ⟨⟨⟨⟨⟨h1,h2⟩,h3⟩,h4⟩,h5⟩,h6⟩:=h;refine zdF (F.slot h1) (F.vis h2) (ye h3).1 (ye h3).2 ((hr g X F W).1 _ _ h5) ((hr g X F W).1 _ _ h6) λv=>?_
    rename_i ix _ _;cases ix<;>first | rfl | cases h4
   ·cases h
  ·cases h
 ·cases h
theorem yci (F:Fit g X) (W:Glob G g X C) {r t:RE} (hr:∀ g X,Fit g X->Glob G g X C->(∀ e c,r g e c=true->SE X C e c)/\∀ e c,t g e c=true->SB X C e c) {b:List Stmt->Stms->Bool} (hb:∀ sts s,b sts s=true->SSs X C sts s)
  {st:Stmt} {s:Stm} (h:qc0 r t b g st s=true):SS X C st s:=by
 have hE:=(hr g X F W).1;have hT:=(hr g X F W).2;unfold qc0 at h;split at h
 ·split at h
  ·unfold qei at h;split at h
   ·exact zdB (hE _ _ h)
   ·split at h
    ·exact qcP
    ·cases h
  ·cases h
 ·split at h
  ·exact qdA
  ·cases h
 ·split at h
  ·exact ydA
  ·cases h
 ·split at h
  ·exact jdA
  ·cases h
 ·split at h
  ·simp only [wg] at h;exact qdB (hT _ _ h.1.1) (hb _ _ h.1.2) (hb _ _ h.2)
  ·cases h
 ·rw [wg,List.isEmpty_iff] at h;obtain ⟨rfl,h⟩:=h;split at h
  ·rw [wg] at h;exact qdH W.hx (hT _ _ h.1) (hb _ _ h.2)
  ·cases h
 ·rw [wg,List.isEmpty_iff] at h;obtain ⟨rfl,h⟩:=h;split at h
  ·simp only [wg] at h;obtain ⟨hpg,hix⟩:=zc0 F W.calm h.1.1;obtain ⟨hi,hs⟩:=zdI F W hE h.1.2;exact ydC W.hx W.calm hi hpg (hb _ _ h.2) hix hs
  ·cases h
 ·split at h
  ·exact zea F W hr h
  ·cases h
 ·exact jd9 F W hE h
 ·cases h
theorem js (F:Fit g X) (W:Glob G g X C) {r t:RE} (hr:∀ g X,Fit g X->Glob G g X C->(∀ e c,r g e c=true->SE X C e c)/\∀ e c,t g e c=true->SB X C e c):∀ (n:Nat) (sts:List Stmt) (s:Stms),oks r t g n sts s=true->SSs X C sts s
 | 0,_,_,h=>by cases h
 | n+1,sts,.nil,h=>by
  have:sts=[]:=by simpa [oks] using h
  subst this;exact jcO
 | n+1,sts,.frz i q,h=>zcP (js F W hr n sts q h)
 | n+1,[],.mgd i a b q,h=>by cases h
 | n+1,[],.dcp i d k v q,h=>by cases h
 | n+1,[_],.dcp i d k v q,h=>by cases h
 | n+1,s1::s2::rest,.dcp i d k v q,h=>by
  simp only [oks,wg] at h;obtain ⟨h0,h⟩:=h;have hE:=(hr g X F W).1;unfold qdJ at h0;split at h0
  ·rename_i t1 e1 t2 e2 ha1 ha2;obtain ⟨p1,rfl⟩:=qbL ha1;obtain ⟨p2,rfl⟩:=qbL ha2;split at h0
   ·rename_i x f as o ek hn hc hs;obtain ⟨px,rfl⟩:=yI hn;obtain ⟨pd,pc,rfl⟩:=qI hc;obtain ⟨sp,rfl⟩:=zbL hs;split at h0
    ·rename_i ed x' ho hn';cases qy ho;obtain ⟨px2,rfl⟩:=yI hn';simp only [wg,vm,w4] at h0;obtain ⟨⟨⟨⟨⟨rfl,hg⟩,rfl⟩,⟨⟨⟨k1,k2⟩,k3⟩,k4⟩⟩,⟨k5,k6⟩⟩,⟨⟨k7,k8⟩,k9⟩⟩:=h0;obtain ⟨hl,hf⟩:=F.locd k2;refine zcZ F.nd (F.slot k1) hl hf (F.vis k3) (ye k4).1 (ye k4).2 (F.glob hg) (W.blts _ (by decide)) (hE _ _ k7) (ym k5) (hE _ _ k8) (hE _ _ k9) (λv=>?_) (js F W hr n rest q h);cases ek<;>first | rfl | cases k6
    ·cases h0
   ·cases h0
  ·cases h0
 | n+1,[],.mput i a b q,h=>by cases h
 | n+1,st::rest,.mgd i a b q,h=>by
  simp only [oks,wg] at h;obtain ⟨h0,h⟩:=h;have hE:=(hr g X F W).1;unfold jdI at h0;split at h0
  ·rw [wg,List.isEmpty_iff] at h0;obtain ⟨rfl,h0⟩:=h0;split at h0
   ·rename_i l o d z hc hz;obtain ⟨p,rfl⟩:=yc0 hc;obtain ⟨st',h1,hz⟩:=wa hz;cases qy h1;obtain ⟨p',rfl⟩:=jc0 hz;rw [wg,wg,wG] at h0;obtain ⟨⟨rfl,hb⟩,hk⟩:=h0;obtain ⟨j,pj,rfl⟩:=zcy hb;unfold ydU at hk;split at hk
    ·rename_i x ea eb hn hkn;obtain ⟨px,rfl⟩:=yI hn;obtain ⟨kk,pk,rfl⟩:=jbK hkn;simp only [wg,w4] at hk;obtain ⟨⟨⟨⟨⟨⟨k1,k2⟩,k3⟩,k4⟩,k5⟩,k6⟩,k7⟩:=hk;exact jcS W.hu (F.slot k1) (F.vis k2) (ye k3).1 (ye k3).2 (hE _ _ k6) (hE _ _ k7) (ym k4) (ym k5) (js F W hr n rest q h)
    ·cases hk
   ·cases h0
  ·cases h0
 | n+1,st::rest,.mput i a b q,h=>by
  simp only [oks,wg] at h;obtain ⟨h0,h⟩:=h;have hE:=(hr g X F W).1;unfold zdJ at h0;split at h0
  ·split at h0
   ·rename_i d k hs;obtain ⟨tg,h1,hs⟩:=wa hs;cases qy h1;obtain ⟨p,rfl⟩:=zbL hs;rw [wg] at h0;obtain ⟨hb,hk⟩:=h0;obtain ⟨j,pj,rfl⟩:=zcy hb;unfold ydU at hk;split at hk
    ·rename_i x ea eb hn hkn;obtain ⟨px,rfl⟩:=yI hn;obtain ⟨kk,pk,rfl⟩:=jbK hkn;simp only [wg,w4] at hk;obtain ⟨⟨⟨⟨⟨⟨k1,k2⟩,k3⟩,k4⟩,k5⟩,k6⟩,k7⟩:=hk;exact jcd W.hu (F.slot k1) (F.vis k2) (ye k3).1 (ye k3).2 (hE _ _ k6) (hE _ _ k7) (ym k4) (ym k5) (js F W hr n rest q h)
    ·cases hk
   ·cases h0
  ·cases h0
 | n+1,[],.cons a q,h=>by cases h
 | n+1,st::rest,.cons a q,h=>by
  simp only [oks,wg] at h;exact qcc (yci F W hr (js F W hr n) h.1) (js F W hr n rest q h.2)
end
noncomputable def zw (st:Stmt):List Str:=(yw st).args.map (·.arg)
noncomputable def zc2:Nat:=60
noncomputable def ydJ:Nat:=80
noncomputable def qc2 (G:GTab) (nm:Str) (N:List Str) (st:Stmt) (f:Def):Bool :=
 decide (f.n=N.length)&&decide (f.p=(zw st).length)&&decide N.Nodup&&decide (N.take (zw st).length=zw st)&&decide ((yd st).kind=.function)&&!(yd st).isCoroutine&&!(yd st).isGenerator
 && (zw st).all (λx=>(yd st).names.lookup x==some .local||(yd st).names.lookup x==some .cell)&&(yd st).names.all (λy=>decide (y.2≠.free))
 && oks (ok G zc2).1 (ok G zc2).2 ⟨N,(yd st).names,G.lams.lookup nm⟩ ydJ (jz st) f.b
noncomputable def qab (G:GTab):List Str->List (List Str)->List Stmt->List Def->Bool
 | [],[],[],[]=>true
 | x::xs,N::Ns,st::sts,f::fs=>qc2 G x N st f&&qab G xs Ns sts fs
 | _,_,_,_=>false
noncomputable def ybL (G:GTab) (Ns:List (List Str)) (sts:List Stmt) (P:List Def):Bool:=qab G G.fns Ns sts P
theorem qak {G:GTab}:∀ {xs:List Str} {Ns:List (List Str)} {sts:List Stmt} {P:List Def},qab G xs Ns sts P=true->∀ {i:Nat} {f:Def},P[i]?=some f->∃ x N st,xs[i]?=some x/\sts[i]?=some st/\qc2 G x N st f=true
 | [],[],[],[],_,i,f,e=>by simp at e
 | x::xs,N::Ns,st::sts,g::fs,h,0,f,e=>by
  rw [qab,wg] at h;have e:g=f:=by simpa using e
  subst e;exact ⟨x,N,st,rfl,rfl,h.1⟩
 | x::xs,N::Ns,st::sts,g::fs,h,i+1,f,e=>by
  rw [qab,wg] at h;obtain ⟨x',N',st',h0,h1,h2⟩:=qak h.2 (i:=i) (f:=f) (by simpa using e);exact ⟨x',N',st',by simpa using h0,by simpa using h1,h2⟩
 | [],[],[],_::_,h,_,_,_=>by cases h
 | [],[],_::_,_,h,_,_,_=>by cases h
 | [],_::_,_,_,h,_,_,_=>by cases h
 | _::_,[],_,_,h,_,_,_=>by cases h
 | _::_,_::_,[],_,h,_,_,_=>by cases h
 | _::_,_::_,_::_,[],h,_,_,_=>by cases h
theorem jci {K:Frag} {B:Addr->Prop} {H:Hp} {N:List Str} {vs:List V} {ds:List D} {m:Nat} (hb:HB B H) (r:Reps K B H vs ds):FR K B H (λ_=>False) (L2.start N vs) H (ds.map Sl.pu++List.replicate m .un):=by
 have less:∀ b,BO B (λ_=>False) b->B b:=λb z=>z.elim id False.elim
 have at':∀ (i:Nat) (sl:Sl),(ds.map Sl.pu++List.replicate m .un)[i]?=some sl->sl=.un\/∃ d,ds[i]?=some d/\sl=.pu d:=λi sl e=>by
  by_cases hi:i<ds.length
  ·rw [vi (by simpa using hi),wx] at e;have hd:ds[i]?=some ds[i]:=by simp [hi]
   rw [hd] at e;exact .inr ⟨ds[i],hd,(wB e).symm⟩
  ·rw [List.getElem?_append_right (by simpa using hi),List.getElem?_replicate] at e;split at e
   ·exact .inl (wB e).symm
   ·cases e
 refine ⟨λ_ z=>z.elim,Same.refl H,⟨λb z=>hb.h b (less b z),hb.t⟩,hb,λi d e=>?_,λi es e=>?_,λi j es es' a e=>?_,λi j es es' e=>?_,λ_=>False,λi es a e q=>id,λi es e=>?_⟩
 ·rcases at' i _ e with z | ⟨d',h1,h2⟩
  ·cases z
  ·cases h2;obtain ⟨v,hv,rv⟩:=r.get h1;refine ⟨v,?_,rv.less less⟩;have hlt:=(wq.mp hv).1;unfold L2.start;rw [vi (by simpa using hlt),wx,hv];rfl
 ·rcases at' i _ e with z | ⟨d',h1,h2⟩
  ·cases z
  ·cases h2
 ·rcases at' i _ e with z | ⟨d',h1,h2⟩
  ·cases z
  ·cases h2
 ·rcases at' i _ e with z | ⟨d',h1,h2⟩
  ·cases z
  ·cases h2
 ·rcases at' i _ e with z | ⟨d',h1,h2⟩
  ·cases z
  ·cases h2
section
variable {Pg:Program} {w:World} {K:Frag} {mg:Str->Option Value} {base:Heap}
structure PF (K:Frag) (mg:Str->Option Value) (G:GTab) (sts:List Stmt):Prop where
 defs:∀ (i:Nat) (x:Str),G.fns[i]?=some x->∃ st f fd,sts[i]?=some st/\Fun K x x st f fd/\mg x=some (.ref f)/\Binds K fd (zw st) []
 blts:∀ x∈bltL,mg x=none
 cons:∀ (x:Str) (i:Int),G.cons.lookup x=some i->∃ t,mg x=some (.int i t)
 lams:∀ (x:Str) (pos:Pos),G.lams.lookup x=some pos->∃ f oc od fd osl c P,mg x=some (.ref f)/\K.lookup f=some ⟨oc,od,.func fd,osl⟩/\fd.code=.ref c/\PySem.W.codeHdIn K c P=true/\(P,pos,x++".<locals>."++"<lambda>")∈Tb.tabs
theorem zcj {k:Nat} {A:Around} (r:Room (k+1) A) (env:Env):Room k (A.in1.deeper env) :=
 ⟨r.hd,by have:=r.dp;show A.depth+1+3*k+5<_;omega,by have:=r.un;show A.units+1+3+16*k+200<_;omega⟩
theorem za8 {P:List Def} {i:Nat} {vs:List V} {H:Hp} {Q:VK} {E:XK} (h:spD K (jh P 0) i vs H Q E):False:=by
 obtain ⟨B,ds,d,_,_,e,_⟩:=h;cases e
theorem qa8 {G:GTab} {Ns:List (List Str)} {sts:List Stmt} {P:List Def} (T:PF K mg G sts) (hP:ybL G Ns sts P=true) (hl:G.fns.length=P.length):∀ (k i:Nat) (x:Str) (st:Stmt) (f:Addr) (fd:FuncData),G.fns[i]?=some x->sts[i]?=some st->Fun K x x st f fd->mg x=some (.ref f) ->
  FnOk Pg w K mg base CX0 (2*k+1) f fd (zw st) (spD K (jh P k) i)
 | 0,i,x,st,f,fd,hx,hst,F,hmg=>⟨λvs H Q E h=>(za8 h).elim,λA outer s H args us vs Q E _ _ _ _ h=>(za8 h).elim⟩
 | k+1,i,x,st,f,fd,hx,hst,F,hmg=>by
  have hi:i<P.length:=by rw [<-hl];exact (wq.mp hx).1
  obtain ⟨df,hdf⟩:∃ df,P[i]?=some df:=⟨P[i],by simp [hi]⟩;obtain ⟨x',N,st',hx',hst',hok⟩:=qak hP hdf;rw [hst] at hst';cases hst'
  rw [hx] at hx';cases hx'
  simp only [qc2,wg,wG,w4,List.all_eq_true,Bool.or_eq_true,vm] at hok;obtain ⟨⟨⟨⟨⟨⟨⟨⟨⟨h1,h2⟩,h3⟩,h4⟩,h5⟩,h6⟩,h7⟩,h8⟩,h9⟩,h10⟩:=hok;have S:FnScope N (zw st) (yd st):=⟨h5,h6,h7,h3,h4,h8,h9⟩
  have run_of:∀ {ds:List D} {d:D},jh P (k+1) i ds=some d->ds.length=df.p/\∃ r,exs (jh P k) df.b (ds.map Sl.pu++List.replicate (df.n-df.p) .un)=some r/\(r=.rt d\/(∃ ρ,r=.nx ρ)/\d=.non):=λ{ds d} e=>by
   have e':(P[i]?).bind (λf=>jC (jh P k) f ds)=some d:=e;rw [hdf,wd,jC] at e';split at e'
   ·rename_i hlen;obtain ⟨r,er,e'⟩:=wa e';refine ⟨hlen,r,er,?_⟩;cases r with
    | rt d'=>cases e';exact .inl rfl
    | nx ρ=>cases e';exact .inr ⟨⟨ρ,rfl⟩,rfl⟩
    | bk ρ=>cases e'
    | ct ρ=>cases e'
   ·cases e'
  refine F.ok (k:=2*k+2) S (λvs H Q E h=>?_) (λcdv hcdv A outer s H vs Q E hr h=>?_)
  ·obtain ⟨B,ds,d,_,r,e,_⟩:=h;rw [r.length,(run_of e).1,h2]
  ·obtain ⟨B,ds,d,hb,r,e,q⟩:=h;obtain ⟨hlen,rr,er,hrr⟩:=run_of e;obtain ⟨X,hX⟩:∃ X,X=(qcG CX0 Pg w K mg base N x (yd st) f cdv A outer s H E).nox:=⟨_,rfl⟩
   have FF:Fit ⟨N,(yd st).names,G.lams.lookup x⟩ X:=by
    rw [hX];refine ⟨rfl,h3,λx h=>h,λx h=>⟨h,rfl⟩,λx h=>.inr h,λx h=>h,λpos h=>?_⟩;obtain ⟨f',oc,od,fd',osl,c,Pt,e1,e2,e3,e4,e5⟩:=T.lams x pos h;rw [hmg] at e1;cases e1
    obtain ⟨oc',od',kV,doc,pm,an,cdv',ct,osl',_,lk,_⟩:=F.ex;rw [e2] at lk;cases lk
    exact ⟨c,Pt,hcdv.symm.trans e3,e4,e5⟩
   have W:Glob G ⟨N,(yd st).names,G.lams.lookup x⟩ X (jh P k):=by
    rw [hX];refine ⟨rfl,rfl,hr.units,λj y hy=>?_,λ_=>⟨by have:=hr.un;show (A.deeper (envOfC x (yd st) s.heap.objs.size f cdv)).units+128<cLine;omega,hr.depth⟩,T.blts,T.cons⟩;obtain ⟨st',f',fd',a1,a2,a3,a4⟩:=T.defs j y hy;exact ⟨2*k+1,f',fd',zw st',qa8 T hP hl k j y st' f' fd' hy a1 a2 a3,⟨hr.mono (by omega),λ_ env=>zcj (hr.mono (by omega)) env⟩,a3,a2.kp,a4⟩
   have body:=js FF W (jat G (jh P k) zc2) ydJ (jz st) df.b h10 B H (λ_=>False) _ rr er;refine ⟨_,hX▸body,?_⟩;show tFl K B H (λx=>False) _ rr _ (L2.start N vs) H;refine ⟨jci hb r,?_⟩;rcases hrr with rfl | ⟨⟨ρ,rfl⟩,rfl⟩
   ·exact λv H' s r=>q v H' s r
   ·exact λO' σ' H' _ F' _=>q .non H' F'.same .non
def jdJ (K:Frag):Sp:=λvs H Q _=>∃ (a:Addr) (ns:List Int),vs=[.ref a]/\SqS K H a ns/\(∀ x∈Tb.tabs,H x.1=some (.tbl x.2.1 x.2.2))/\∀ H',Q (.bl true) H'
theorem jbL {G:GTab} {Ns:List (List Str)} {sts:List Stmt} {P:List Def} (T:PF K mg G sts) (hP:ybL G Ns sts P=true) (hl:G.fns.length=P.length) {k i:Nat} {x:Str} {st:Stmt} {f:Addr} {fd:FuncData} (hx:G.fns[i]?=some x) (hst:sts[i]?=some st) (F:Fun K x x st f fd) (hmg:mg x=some (.ref f))
  (hrun:∀ ns:List Int,jh P k i [.scr ns]=some (.bl true)):FnOk Pg w K mg base CX0 (2*k+1) f fd (zw st) (jdJ K):=by
 refine (qa8 T hP hl k i x st f fd hx hst F hmg).imp λvs H Q E h=>?_
 obtain ⟨a,ns,rfl,hS,ht,q⟩:=h;refine ⟨λ_=>False,[.scr ns],.bl true,⟨λb z=>z.elim,ht⟩,.cons (.scr hS) .nil,hrun ns,λv H' _ r=>?_⟩;cases r;exact q H'
end
def DF (K:Frag) (x:Str) (st:Stmt):Prop:=∃ f fd,nsIn K mainGlobals x=some (some (.ref f))/\Fun K x x st f fd
theorem qea {K:Frag} {x:Str} {st:Stmt} {f:Addr} {oc:Value} {od an:Option Addr} {osl:Array (Option Value)} {kV doc pm cdv ct:Value} (a:nsIn K mainGlobals x=some (some (.ref f)))
 (l:K.lookup f=some ⟨oc,od,.func (PySem.W.fnOf x x (yw st) (jz st) (yd st) .none kV doc pm an cdv ct),osl⟩) (c:PySem.W.codeIn K cdv x=true) (k:PySem.W.keepIn K (.ref f)=true):DF K x st:=⟨f,_,a,zdo l c k⟩
def LF (K:Frag) (x:Str) (P:Addr):Prop:=∃ f oc od fd osl c,nsIn K mainGlobals x=some (some (.ref f))/\K.lookup f=some ⟨oc,od,.func fd,osl⟩/\fd.code=.ref c/\PySem.W.codeHdIn K c P=true
theorem yea {K:Frag} {x:Str} {st:Stmt} {f c P:Addr} {oc:Value} {od an:Option Addr} {osl:Array (Option Value)} {kV doc pm ct:Value} (a:nsIn K mainGlobals x=some (some (.ref f)))
 (l:K.lookup f=some ⟨oc,od,.func (PySem.W.fnOf x x (yw st) (jz st) (yd st) .none kV doc pm an (.ref c) ct),osl⟩) (h:PySem.W.codeHdIn K c P=true):LF K x P:=⟨f,_,_,_,_,c,a,l,rfl,h⟩
theorem zew {h:Heap} {ts:List Addr} {P:Addr} {pos:Pos} {q:Str} (Y:∀ P∈ts,h.get? P=some (PySem.W.tabObj #[])) (hm:P∈ts):∀ x∈[(P,pos,q)],h.get? x.1=some (PySem.W.tabObj #[]):=λx hx=>by
 rw [va.mp hx];exact Y P hm
theorem lk1 {P:Addr} {pos:Pos} {q:Str}:∀ x∈[(P,pos,q)],List.lookup x.1 [(P,pos,q)]=some x.2:=λx hx=>by
 rw [va.mp hx];simp
theorem hd1 {K:Frag} {x:Str} {P:Addr} {pos:Pos} {q:Str} (l:LF K x P):∀ y∈[(P,pos,q)],∃ c,PySem.W.codeHdIn K c y.1=true:=λy hy=>by
 obtain ⟨_,_,_,_,_,c,_,_,_,h⟩:=l;rw [va.mp hy];exact ⟨c,h⟩
def CF (K:Frag) (x:Str) (i:Int):Prop:=∃ t,nsIn K mainGlobals x=some (some (.int i t))
theorem jea {K:Frag} {x:Str} {i:Int} {t:Tok} (a:nsIn K mainGlobals x=some (some (.int i t))):CF K x i:=⟨t,a⟩
def Ds (K:Frag):List Str->List Stmt->Prop
 | x::xs,s::ss=>DF K x s/\Ds K xs ss
 | [],_=>True
 | _::_,[]=>False
def Zs (K:Frag):List Str->Prop
 | []=>True
 | x::l=>nsIn K mainGlobals x=some none/\Zs K l
def Cs (K:Frag):List (Str×Int)->Prop
 | []=>True
 | (x,i)::l=>CF K x i/\Cs K l
theorem zdK {K:Frag}:∀ {xs:List Str} {ss:List Stmt},Ds K xs ss->∀ (i:Nat) (x:Str),xs[i]?=some x->∃ st,ss[i]?=some st/\DF K x st
 | [],_,_,_,_,e=>by cases e
 | _::_,[],h,_,_,_=>h.elim
 | _::_,s::_,h,0,_,e=>by cases e;exact ⟨s,rfl,h.1⟩
 | _::_,_::_,h,i+1,y,e=>zdK h.2 i y e
theorem qdK {K:Frag}:∀ {l:List Str},Zs K l->∀ x∈l,nsIn K mainGlobals x=some none
 | _::_,h,x,hx=>by
  rcases wu.mp hx with rfl | hx
  ·exact h.1
  ·exact qdK h.2 x hx
theorem ydK {K:Frag} {x:Str} {i:Int}:∀ {l:List (Str×Int)},Cs K l->l.lookup x=some i->CF K x i
 | [],_,h=>by cases h
 | (y,j)::l,c,h=>by
  rw [List.lookup_cons] at h;split at h
  ·rename_i e;have:=eq_of_beq e;subst this;cases h;exact c.1
  ·exact ydK c.2 h
noncomputable def zeb (ps:Arguments):Bool:=ps.posonlyargs.isEmpty&&ps.vararg.isNone&&ps.kwonlyargs.isEmpty&&ps.kw_defaults.isEmpty&&ps.kwarg.isNone&&ps.defaults.isEmpty
theorem qcy {α:Type}:∀ {N:List Str} {us:List α},N.Nodup->us.length=N.length->(∀ n∈N,((N.zip us).lookup n).isNone=false)/\(N.filterMap λn=>((N.zip us).lookup n).map λv=>(n,v))=N.zip us
 | [],_,_,_=>⟨(λn h=>by cases h),rfl⟩
 | _::_,[],_,h=>by cases h
 | n::N,u::us,hn,h=>by
  rw [List.nodup_cons] at hn;obtain ⟨h1,h2⟩:=qcy hn.2 (Nat.succ.inj h)
  have e:∀ m∈N,List.lookup m ((n,u)::N.zip us)=(N.zip us).lookup m:=λm hm=>by
   rw [List.lookup_cons,wY.mpr λ(z:m=n)=>hn.1 (by rw [<-z];exact hm)]
  have g:∀ M:List Str,(∀ m∈M,m∈N)->(M.filterMap λm=>(List.lookup m ((n,u)::N.zip us)).map λv=>(m,v))=M.filterMap λm=>((N.zip us).lookup m).map λv=>(m,v):=λM=>by
   induction M with
   | nil=>exact λ_=>rfl
   | cons m M ih=>intro hM;rw [List.filterMap_cons,List.filterMap_cons,e m (hM m (.head _)),ih λk hk=>hM k (.tail _ hk)]
  rw [List.zip_cons_cons];refine ⟨λm hm=>?_,?_⟩
  ·rcases wu.mp hm with rfl | hm
   ·simp
   ·rw [e m hm];exact h1 m hm
  ·rw [List.filterMap_cons,List.lookup_cons_self];exact congrArg ((n,u)::·) ((g N λ_ h=>h).trans h2)
theorem qcj {K:Frag} {x q:Str} {st:Stmt} {f:Addr} {fd:FuncData} (F:Fun K x q st f fd) (hp:zeb (yw st)=true) (hn:(zw st).Nodup):Binds K fd (zw st) []:=F.binds (ps:=zw st) λkV doc pm an cdv ct us hl=>by
 unfold zw at hn hl ⊢;generalize yw st=A at *;obtain ⟨p1,as,p2,p3,p4,p5,p6⟩:=A;simp only [zeb,wg,List.isEmpty_iff,Option.isNone_iff_eq_none] at hp;obtain ⟨⟨⟨⟨⟨rfl,rfl⟩,rfl⟩,rfl⟩,rfl⟩,rfl⟩:=hp;dsimp only at hn hl ⊢;obtain ⟨h1,h2⟩:=qcy hn hl;unfold bindArgs;dsimp only;generalize as.map (·.arg)=N at *;simp only [List.forIn_nil,pure_bind,List.map_nil,List.nil_append,List.append_nil];show (seqItems? Value.none >>= λr=>_)=_;rw [show seqItems? Value.none=pure none from rfl,pure_bind]
 have hf:List.filter (λn=>(List.lookup n (N.zip us)).isNone) (N.take (N.length-0))=[]:=List.filter_eq_nil_iff.mpr λn hm=>by
  rw [h1 n (List.mem_of_mem_take hm)];exact wA
 have z (k:Nat):List.drop k ((none:Option (Array Value)).getD #[]).toList=[]:=List.drop_nil;rw [z];refine (if_neg (by simp;omega)).trans ?_;show (if (!(List.filter (λn=>(List.lookup n (N.zip us)).isNone) (N.take (N.length-0))).isEmpty)=true then _ else _)=_;rw [hf,if_neg (by decide)];show ((forIn ((N.drop (N.length-0)).zip ([]:List Value)) (N.zip us) _:Sem (List (Str×Value))) >>= λ__s=>_)=_;rw [List.zip_nil_right];show ((pure (N.zip us):Sem (List (Str×Value))) >>= λ__s=>_)=_;rw [pure_bind,if_neg (by decide)];exact congrArg pure h2
noncomputable def yc2 (s:Stmt):Bool:=zeb (yw s)&&decide (zw s).Nodup
theorem qeb {K:Frag} {h:Heap} {mg:Str->Option Value} {G:GTab} {sts:List Stmt} (X:K.In h) (N:h.Ns mainGlobals mg) (D:Ds K G.fns sts) (hb:sts.all yc2=true) (z:Zs K bltL) (c:Cs K G.cons) {ln:Str} {P:Addr} {pos:Pos} (l0:LF K ln P) (hL:G.lams=[(ln,pos)]) (hm:(P,pos,ln++".<locals>."++"<lambda>")∈Tb.tabs):PF K mg G sts:=by
 refine ⟨λi x e=>?_,λx hx=>PySem.W.mg_none_of X N (qdK z x hx),λx i e=>?_,λx pos e=>?_⟩
 ·obtain ⟨st,hs,f,fd,a,F⟩:=zdK D i x e;have q:=List.all_eq_true.mp hb st (wR hs);rw [yc2,wg] at q;exact ⟨st,f,fd,hs,F,PySem.W.mg_of X N a,qcj F q.1 (vg q.2)⟩
 ·obtain ⟨t,a⟩:=ydK c e;exact ⟨t,PySem.W.mg_of X N a⟩
 ·rw [hL] at e;have e:=wZ e;rw [va] at e;cases e;obtain ⟨f,oc,od,fd,osl,c,a,l,h1,h2⟩:=l0;exact ⟨f,oc,od,fd,osl,c,P,PySem.W.mg_of X N a,l,h1,h2,hm⟩
end Eng
end
section
namespace LG
open PySem Eng
noncomputable def qO:Def:=⟨2,2,(.cons (.ite (.cmp .Lt (.var 1) (.blt .len (.cons (.var 0) .nil))) (.cons (.ret (.idx (.var 0) (.var 1))) .nil) .nil) (.cons (.ret (.cst (.int 0))) .nil))⟩
noncomputable def qk:Def:=⟨3,2,(.cons (.set .pu (.one 2) (.bin .Mod (.bin .Mult (.bin .Add (.bin .Add (.call 0 (.cons (.var 0) (.cons (.var 1) .nil))) (.bin .Mult (.cst (.int 7919)) (.var 1))) (.cst (.int 1))) (.cst (.int 48271))) (.cst (.int 2147483647)))) (.cons (.ret (.bin .Mod (.bin .Add (.bin .Add (.bin .Mult (.var 2) (.var 2)) (.bin .Mult (.cst (.int 7)) (.var 2))) (.var 1)) (.cst (.int 2147483629)))) .nil))⟩
noncomputable def qK:Def:=⟨3,2,(.cons (.set .pu (.one 2) (.bin .Mod (.bin .Mult (.bin .Add (.bin .Add (.var 0) (.bin .Mult (.cst (.int 104729)) (.var 1))) (.cst (.int 17))) (.cst (.int 69621))) (.cst (.int 2147483647)))) (.cons (.ret (.bin .Mod (.bin .Add (.bin .Add (.bin .Mult (.var 2) (.var 2)) (.bin .Mult (.cst (.int 3)) (.var 2))) (.var 1)) (.cst (.int 2147483629)))) .nil))⟩
noncomputable def zt:Stms:=(.cons (.set .pu (.one 6) (.blt .sortedSet (.cons (.var 2) .nil))) (.cons (.ite (.cmp .Gt (.blt .len (.cons (.var 6) .nil)) (.cst (.int 2))) (.cons (.set .pu (.one 7) (.bin .FloorDiv (.call 2 (.cons (.var 0) (.cons (.bin .Add (.bin .Mult (.cst (.int 4)) (.var 4)) (.var 5)) .nil))) (.cst (.int 4)))) (.cons (.set .pu (.one 8) (.bin .Add (.cst (.int 1)) (.bin .Mod (.var 7) (.bin .Sub (.blt .len (.cons (.var 6) .nil)) (.cst (.int 1)))))) (.cons (.set .pu (.one 9) (.bin .Mod (.bin .FloorDiv (.var 7) (.cst (.int 8))) (.var 8))) (.cons (.set .pu (.one 2) (.comp (.idx (.lst (.cons (.var 0) (.cons (.idx (.var 1) (.var 2)) .nil))) (.blt .int (.cons (.cmp .Eq (.var 0) (.idx (.var 1) (.var 3))) .nil))) (.one 0) 1 [6,9,8] (.data (.var 2)) .none)) .nil)))) .nil) .nil))
noncomputable def yk:Stms:=(.cons (.for (.one 5) (.rng (.cons (.bin .Add (.cst (.int 1)) (.bin .Mod (.bin .FloorDiv (.var 0) (.cst (.int 24))) (.cst (.int 2)))) .nil)) zt) (.cons (.ite (.cmp .NotEq (.blt .tuple (.cons (.var 2) .nil)) (.idx (.var 3) (.neg (.cst (.int 1))))) (.cons (.app 3 .pu (.blt .tuple (.cons (.var 2) .nil))) .nil) .nil) .nil))
noncomputable def d_law_ladder:Def:=⟨10,1,(.cons (.set .pu (.one 1) (.idx (.tup (.cons (.cst (.int 1)) (.cons (.cst (.int 2)) (.cons (.cst (.int 3)) (.cons (.cst (.int 4)) (.cons (.cst (.int 5)) (.cons (.cst (.int 3)) (.cons (.cst (.int 4)) (.cons (.cst (.int 5)) .nil))))))))) (.bin .Mod (.var 0) (.cst (.int 8))))) (.cons (.set .pu (.one 2) (.ofi .list (.rng (.cons (.var 1) .nil)))) (.cons (.set .ow (.one 3) (.lst (.cons (.blt .tuple (.cons (.var 2) .nil)) .nil))) (.cons (.for (.one 4) (.rng (.cons (.bin .Mod (.bin .FloorDiv (.var 0) (.cst (.int 8))) (.cst (.int 3))) .nil)) yk) (.cons (.ite (.cmp .NotEq (.idx (.var 3) (.neg (.cst (.int 1)))) (.bin .Mult (.tup (.cons (.cst (.int 0)) .nil)) (.var 1))) (.cons (.app 3 .pu (.bin .Mult (.tup (.cons (.cst (.int 0)) .nil)) (.var 1))) .nil) .nil) (.cons (.ret (.blt .tuple (.cons (.var 3) .nil))) .nil))))))⟩
noncomputable def qo:Stms:=(.cons (.app 5 .pu (.bin .Mod (.bin .FloorDiv (.call 2 (.cons (.var 0) (.cons (.bin .Add (.bin .Add (.cst (.int 10)) (.bin .Mult (.cst (.int 4)) (.var 4))) (.var 6)) .nil))) (.cst (.int 4))) (.blt .len (.cons (.idx (.var 7) (.cst (.int 0))) .nil)))) .nil)
noncomputable def qm:Stms:=(.cons (.set .ow (.one 5) (.lst .nil)) (.cons (.for (.many [6,7]) (.enu (.var 1)) qo) (.cons (.ite (.and (.cmp .Gt (.var 4) (.cst (.int 0))) (.and (.cmp .Eq (.bin .Mod (.bin .FloorDiv (.var 0) (.cst (.int 24))) (.cst (.int 3))) (.cst (.int 1))) (.cmp .Eq (.bin .Mod (.bin .FloorDiv (.call 2 (.cons (.var 0) (.cons (.bin .Add (.cst (.int 50)) (.var 4)) .nil))) (.cst (.int 4))) (.cst (.int 2))) (.cst (.int 1))))) (.cons (.set .ow (.one 5) (.blt .list (.cons (.idx (.var 2) (.bin .Mod (.bin .FloorDiv (.call 2 (.cons (.var 0) (.cons (.bin .Add (.cst (.int 60)) (.var 4)) .nil))) (.cst (.int 4))) (.var 4))) .nil))) .nil) .nil) (.cons (.app 2 .cl (.blt .tuple (.cons (.var 5) .nil))) (.cons (.app 3 .pu (.bin .Mod (.bin .FloorDiv (.call 2 (.cons (.var 0) (.cons (.bin .Add (.cst (.int 70)) (.var 4)) .nil))) (.cst (.int 4))) (.idx (.tup (.cons (.cst (.int 2)) (.cons (.cst (.int 4)) (.cons (.cst (.int 3)) .nil)))) (.bin .Mod (.bin .FloorDiv (.var 0) (.cst (.int 72))) (.cst (.int 3)))))) .nil)))))
noncomputable def yK:Def:=⟨8,1,(.cons (.set .pu (.one 1) (.blt .tuple (.cons (.comp (.call 3 (.cons (.call 2 (.cons (.var 1) (.cons (.var 0) .nil))) .nil)) (.one 0) 1 [0] (.rng (.cons (.bin .Add (.cst (.int 1)) (.bin .Mod (.var 0) (.cst (.int 3)))) .nil)) .none) .nil))) (.cons (.set .ow (.one 2) (.lst .nil)) (.cons (.set .ow (.one 3) (.lst .nil)) (.cons (.for (.one 4) (.rng (.cons (.bin .Add (.cst (.int 1)) (.bin .Mod (.bin .FloorDiv (.var 0) (.cst (.int 3))) (.cst (.int 8)))) .nil)) qm) (.cons (.ret (.tup (.cons (.var 1) (.cons (.blt .tuple (.cons (.var 2) .nil)) (.cons (.blt .tuple (.cons (.var 3) .nil)) .nil))))) .nil)))))⟩
noncomputable def qaH:Def:=⟨2,2,(.cons (.ret (.blt .tuple (.cons (.comp (.bin .Mod (.bin .FloorDiv (.call 2 (.cons (.var 2) (.cons (.var 0) .nil))) (.cst (.int 4))) (.blt .len (.cons (.var 1) .nil))) (.many [0,1]) 2 [0] (.enu (.idx (.var 1) (.cst (.int 0)))) .none) .nil))) .nil)⟩
end LG
end
local macro_rules | `(tactic| simp! [$xs,*] $[$l]?) => `(tactic| simp only [Eng.EA,Eng.qaC,Eng.qb6,Eng.yb6,Eng.qa1,Eng.ya1,Eng.ja1,Eng.jcs,Eng.zct,wd,Option.map_some,Option.bind_none,Option.map_none,if_true,if_false,↓reduceIte,and_self,Bool.not_true,Bool.not_false,wo,Int.reduceLT,Int.reduceLE,Int.reduceNeg,Nat.reduceMul,Nat.reduceAdd,Nat.reduceLeDiff,List.length_cons,List.length_nil,List.set,true_and,and_true,$xs,*] $[$l]?)
section
open PySem Eng LG
namespace M
noncomputable def eI (xs:List Int):List D:=xs.map D.int
noncomputable def tI (xs:List Int):D:=.tup (eI xs)
noncomputable def eL (L:List (List Int)):D:=.tup (L.map tI)
theorem jm (xs:List Int):intsOf (eI xs)=some xs:=by
 induction xs with
 | nil=>rfl
 | cons x r ih=>simp only [eI,List.map_cons,intsOf] at *;rw [ih];rfl
theorem zau (xs:List Int):yay (eI xs)=true:=by
 induction xs with
 | nil=>rfl
 | cons x r ih=>simp only [eI,List.map_cons,yay,noL] at *;rw [ih];rfl
theorem qau (xs:List Int):zM (eI xs)=true:=by
 induction xs with
 | nil=>rfl
 | cons x r ih=>simp only [eI,List.map_cons,zM,noS] at *;rw [ih];rfl
theorem zaU (xs:List Int):qbl (eI xs)=0:=by
 induction xs with
 | nil=>rfl
 | cons x r ih=>simp only [eI,List.map_cons,qbl,dep] at *;rw [ih];rfl
theorem jc2 (xs ys:List Int):qb2 (eI xs) (eI ys)=decide (xs=ys):=by
 induction xs generalizing ys with
 | nil=>cases ys<;>simp [eI,qb2]
 | cons x r ih =>
  cases ys with
  | nil=>simp [eI,qb2]
  | cons y s =>
   have:=ih s
   simp only [eI,List.map_cons,qb2,eqD] at *;rw [this]
   by_cases h:x=y<;>simp [h]
theorem yaH (xs ys:List Int):eqD (tI xs) (tI ys)=decide (xs=ys):=jc2 xs ys
theorem qaU (xs ys:List Int):zC (tI xs) (tI ys)=true:=by
 simp [zC,tI,dep,noS,zaU,qau]
theorem qp (xs:List Int):(eI xs).length=xs.length:=by simp [eI]
theorem yab {α:Type} {xs:List α} {j:Nat} {v:α} (h:xs[j]?=some v):atI xs (j:Int)=some v:=by
 have hj:j<xs.length:=(wq.mp h).1
 have e:Eng.ixN xs.length (j:Int)=some j:=by
  unfold Eng.ixN;rw [if_pos (by omega),if_pos (by omega)];simp
 unfold atI;rw [e];exact h
theorem zx {α:Type} {xs:List α} {i:Int} {v:α} (h0:0<=i) (h:xs[i.toNat]?=some v):atI xs i=some v:=by
 have:=yab h
 rwa [show ((i.toNat:Nat):Int)=i by omega] at this
theorem yaZ {α:Type} (xs:List α) (v:α):atI (xs++[v]) (-1)=some v:=by
 have e:Eng.ixN (xs++[v]).length (-1)=some xs.length:=by
  unfold Eng.ixN;rw [if_neg (by omega),if_pos (by simp;omega),wU,List.length_singleton];congr 1;omega
 unfold atI;rw [e];simp
theorem ya8 {f:D->List Sl->Option Fl} (P:List Sl->Prop):∀ (ds:List D) (ρ:List Sl),P ρ->(∀ d∈ds,∀ ρ,P ρ->∃ ρ',f d ρ=some (.nx ρ')/\P ρ')->∃ ρ',forL f ds ρ=some (.nx ρ')/\P ρ'
 | [],ρ,h,_=>⟨ρ,rfl,h⟩
 | d::ds,ρ,h,hs=>by
  obtain ⟨ρ1,e1,h1⟩:=hs d (by simp) ρ h;obtain ⟨ρ2,e2,h2⟩:=ya8 P ds ρ1 h1 λd hd=>hs d (by simp [hd])
  refine ⟨ρ2,?_,h2⟩;simp only [forL,e1,wd];exact e2
theorem yau {f:D->List Sl->Option Fl} (P:Nat->List Sl->Prop):∀ (ds:List D) (k:Nat) (ρ:List Sl),P k ρ->(∀ i d ρ,ds[i]?=some d->P (k+i) ρ->∃ ρ',f d ρ=some (.nx ρ')/\P (k+i+1) ρ')->∃ ρ',forL f ds ρ=some (.nx ρ')/\P (k+ds.length) ρ'
 | [],k,ρ,h,_=>⟨ρ,rfl,h⟩
 | d::ds,k,ρ,h,hs=>by
  obtain ⟨ρ1,e1,h1⟩:=hs 0 d ρ (by simp) h
  obtain ⟨ρ2,e2,h2⟩:=yau P ds (k+1) ρ1 h1 λi d ρ hd hp=>by
   have:=hs (i+1) d ρ (by simpa using hd) (by rwa [show k+(i+1)=k+1+i by omega])
   rwa [show k+(i+1)+1=k+1+i+1 by omega] at this
  refine ⟨ρ2,?_,by rwa [show k+1+ds.length=k+(ds.length+1) by omega] at h2⟩;simp only [forL,e1,wd];exact e2
theorem qR {d:D}:∀ {n:Nat} {lo:Int},d∈jb lo n->∃ i:Int,d=.int i/\lo<=i/\i<lo+n
 | 0,_,h=>by simp [jb] at h
 | n+1,lo,h=>by
  simp only [jb,wu] at h;rcases h with rfl | h
  ·exact ⟨lo,rfl,by omega,by omega⟩
  ·obtain ⟨i,e,h1,h2⟩:=qR h;exact ⟨i,e,by omega,by omega⟩
theorem ql:∀ (n:Nat) (lo:Int),(jb lo n).length=n
 | 0,_=>rfl
 | n+1,lo=>by simp [jb,ql n]
theorem yR:∀ (n:Nat) (lo:Int) (i:Nat),i<n->(jb lo n)[i]?=some (.int (lo+i))
 | 0,_,_,h=>by omega
 | n+1,lo,0,_=>by simp [jb]
 | n+1,lo,i+1,h=>by
  simp only [jb,List.getElem?_cons_succ];rw [yR n (lo+1) i (by omega)];congr 2;omega
theorem yak {f:D->Option (Option D)} (R:D->D->Prop):∀ (ds:List D),(∀ d∈ds,∃ x,f d=some (some x)/\R d x)->∃ rs,gather f ds=some rs/\rs.length=ds.length/\∀ x∈rs,∃ d∈ds,R d x
 | [],_=>⟨[],rfl,rfl,by simp⟩
 | d::ds,h=>by
  obtain ⟨x,e,hx⟩:=h d (by simp);obtain ⟨rs,e2,hl,h2⟩:=yak R ds λd hd=>h d (by simp [hd])
  refine ⟨x::rs,by rw [gather,e,wd,e2];rfl,by simp [hl],λy hy=>?_⟩;rcases wu.mp hy with rfl | hy
  ·exact ⟨d,by simp,hx⟩
  ·obtain ⟨d',hd',r⟩:=h2 y hy;exact ⟨d',by simp [hd'],r⟩
theorem jak {i j:Int} (h:-(2^64)<j/\j<2^64):ju i j=true:=by
 unfold ju;rw [decide_eq_true h.1,decide_eq_true h.2];simp
theorem qt {i j:Int} (h:-(2^64)<i/\i<2^64):ju i j=true:=by
 unfold ju;rw [decide_eq_true h.1,decide_eq_true h.2];simp
noncomputable def drawn (n k:Int):Int :=
 let d:=(n+104729*k+17)*69621%2147483647
 (d*d+3*d+k)%2147483629
theorem jau (n k:Int):0<=drawn n k/\drawn n k<2147483629 :=
 ⟨Int.emod_nonneg _ (by decide),vd _ (by decide)⟩
theorem zbM (C:Tab) (n k:Int):jC C qK [.int n,.int k]=some (.int (drawn n k)):=by
 have h1:=Int.emod_nonneg ((n+104729*k+17)*69621) (show (2147483647:Int)≠0 by decide);have h2:=vd ((n+104729*k+17)*69621) (show (0:Int)<2147483647 by decide);have c1:ju 104729 k=true:=qt (by decide);have c2:ju (n+104729*k+17) 69621=true:=jak (by decide);have c3:∀ d:Int,0<=d->d<2147483647->ju d d=true:=λd a b=>qt (by omega)
 have c4:∀ d:Int,ju 3 d=true:=λd=>qt (by decide)
 simp [jC,qK,exs,ex,ev,evs,vP,vA,qM,ydV,jdb,ycC,puT,Sl.pure,Sl.all,List.replicate,c1,c2,c3 _ h1 h2,c4,drawn]
theorem ycj (C:Tab) (ns:List Int) (k:Int) (hk:0<=k):jC C qO [.scr ns,.int k]=some (.int (ns.getD k.toNat 0)):=by
 refine qc rfl ?_
 by_cases h:k<(ns.length:Int)
 ·have h2:k.toNat<ns.length:=by omega
  have h3:ns[k.toNat]?=some ns[k.toNat]:=by simp [h2]
  refine qr (k:=true) (d:=.bl true) ?_ rfl (λ_=>?_) (λz=>nomatch z)
  ·simp! [List.map_cons,List.map_nil,List.cons_append];rw [decide_eq_true h]
  ·rw [qe (d:=.int ns[k.toNat]) ?_]
   ·simp [List.getD,h3]
   ·simp! [List.map_cons,List.map_nil,List.cons_append,zx hk h3]
 ·have h3:ns[k.toNat]?=none:=by simp;omega
  refine qr (k:=false) (d:=.bl false) ?_ rfl (λz=>nomatch z) (λ_=>?_)
  ·simp! [List.map_cons,List.map_nil,List.cons_append];rw [vk h]
  ·rw [qag,wd];have e:ns.getD k.toNat 0=0:=by simp [List.getD,h3]
   rw [e];exact qe (d:=.int 0) rfl
end M
end
section
open PySem Eng LG
namespace M
noncomputable def sv (s:List Int) (v:Nat):Nat:=(s.getD v 0).toNat
noncomputable def okS (m:Nat) (s:List Int):Bool:=s.length==m&&(List.range m).all λv=>decide (0<=s.getD v 0)&&decide (s.getD v 0<=(v:Int))&&(s.getD (sv s v) 0==s.getD v 0)
noncomputable def yt (s t:List Int):Bool:=(List.range s.length).all λv=>t.getD v 0==t.getD (sv s v) 0
noncomputable def yW (s:List Int):List Int:=sortI (zan s)
noncomputable def mrg (s:List Int) (hi lo:Nat):List Int:=s.map λp=>if p=(yW s).getD hi 0 then (yW s).getD lo 0 else p
noncomputable def lists:Nat->List (List Int)
 | 0=>[[]]
 | m+1=>(lists m).flatMap λl=>[0,1,2,3,4].map λv=>l++[v]
noncomputable def steps (m:Nat):List (List Int):=(lists m).filter (okS m)
theorem jaH:∀ (m:Nat) (s:List Int),s.length=m->(∀ x∈s,0<=x/\x<5)->s∈lists m
 | 0,s,h,_=>by simp [lists,List.length_eq_zero_iff.mp h]
 | m+1,s,h,hv=>by
  have hne:s≠[]:=by intro e;subst e;simp at h
  rw [<-List.dropLast_concat_getLast hne];refine List.mem_flatMap.mpr ⟨s.dropLast,jaH m _ (by simp;omega) λx hx=>hv x ((List.dropLast_subset s) hx),?_⟩
  have:=hv _ (List.getLast_mem hne)
  refine wH.mpr ⟨s.getLast hne,?_,rfl⟩
  have:s.getLast hne=0\/s.getLast hne=1\/s.getLast hne=2\/s.getLast hne=3\/s.getLast hne=4:=by omega
  rcases this with e | e | e | e | e<;>simp [e]
theorem okS_iff {m:Nat} {s:List Int}:okS m s=true↔s.length=m/\∀ v<m,0<=s.getD v 0/\s.getD v 0<=(v:Int)/\s.getD (sv s v) 0=s.getD v 0:=by
 simp [okS,and_assoc]
theorem zav {m:Nat} (hm:m<=5) {s:List Int} (h:okS m s=true):s∈steps m:=by
 obtain ⟨hl,hv⟩:=okS_iff.mp h;refine List.mem_filter.mpr ⟨jaH m s hl λx hx=>?_,h⟩;obtain ⟨i,hi,rfl⟩:=List.mem_iff_getElem.mp hx
 have:=hv i (by omega)
 have e:s.getD i 0=s[i]:=by simp [List.getD,hi]
 rw [e] at this;omega
noncomputable def yeb (m:Nat) (s:List Int):Bool:=(List.range (yW s).length).all λhi=>(List.range hi).all λlo=>okS m (mrg s hi lo)&&yt s (mrg s hi lo)
theorem zc3:∀ m∈[1,2,3,4,5],∀ s∈steps m,yeb m s=true:=by decide +kernel
theorem jdK {m:Nat} (h1:1<=m) (hm:m<=5) {s:List Int} (h:okS m s=true) {hi lo:Nat} (a:hi<(yW s).length) (b:lo<hi):okS m (mrg s hi lo)=true/\yt s (mrg s hi lo)=true:=by
 have h5:m∈[1,2,3,4,5]:=by
  have:m=1\/m=2\/m=3\/m=4\/m=5:=by omega
  simpa using this
 have q:=zc3 m h5 s (zav hm h);have q1:=List.all_eq_true.mp q hi (ve.mpr a);have q2:=List.all_eq_true.mp q1 lo (ve.mpr b);simpa using q2
theorem qbM:∀ m∈[1,2,3,4,5],okS m (List.replicate m 0)=true/\okS m ((List.range m).map Int.ofNat)=true/\∀ s∈steps m,yt s (List.replicate m 0)=true:=by decide +kernel
theorem coarse_iff {s t:List Int}:yt s t=true↔∀ v<s.length,t.getD v 0=t.getD (sv s v) 0:=by simp [yt]
theorem jt {m:Nat} {s:List Int} (h:okS m s=true):yt s s=true:=by
 obtain ⟨hl,hv⟩:=okS_iff.mp h;exact coarse_iff.mpr λv hv'=>((hv v (by omega)).2.2).symm
theorem yU {m:Nat} {s t u:List Int} (hs:okS m s=true) (ht:okS m t=true) (a:yt s t=true) (b:yt t u=true):yt s u=true:=by
 obtain ⟨hl,hv⟩:=okS_iff.mp hs;obtain ⟨hl2,hv2⟩:=okS_iff.mp ht;have a:=coarse_iff.mp a;have b:=coarse_iff.mp b;refine coarse_iff.mpr λv hv'=>?_
 have lt:sv s v<m:=by have:=hv v (by omega);unfold sv;omega
 rw [b v (by omega),b (sv s v) (by omega)];unfold sv at *;rw [a v hv']
structure Lad (m:Nat) (L:List (List Int)):Prop where
 m1:1<=m
 m5:m<=5
 len:L.length<=4
 ok:∀ s∈L,okS m s=true
 first:L[0]?=some ((List.range m).map Int.ofNat)
 last:L.getLast?=some (List.replicate m 0)
 up:∀ (i:Nat) (s t:List Int),L[i]?=some s->L[i+1]?=some t->yt s t=true/\s≠t
end M
end
section
open PySem Eng LG
namespace M
theorem ycy {k:Int}:qM .Mult (.int 4) (.int k)=some (.int (4*k)):=qaC (qt (by decide))
theorem qd {n:Nat} (h:n<=1000):n<=sizeLine:=wQ h (by decide)
theorem jK {n:Nat} (h:n<=1000):n<sizeLine:=Nat.lt_of_le_of_lt h (by decide)
noncomputable abbrev LSt (n:Int) (m:Int) (s:List Int) (F:List (List Int)) (r:List Sl):List Sl :=
 .pu (.int n)::.pu (.int m)::.pu (.lst (eI s))::.ow (F.map tI)::r
theorem zaI {f:D->Option (Option D)} {g:Int->Int}:∀ (xs:List Int),(∀ x∈xs,f (.int x)=some (some (.int (g x))))->gather f (eI xs)=some (eI (xs.map g))
 | [],_=>rfl
 | x::xs,h=>by
  have h1:=h x (by simp);have h2:=zaI xs λy hy=>h y (by simp [hy])
  simp only [eI,List.map_cons] at *;rw [gather,h1,wd,h2];rfl
theorem jeb (x y:D) (k:Bool):atI [x,y] (if k then 1 else 0)=some (if k then y else x):=by cases k<;>rfl
theorem ybM {m:Nat} (h5:m<=5) {s:List Int} (ok:okS m s=true):qT s=true:=by
 obtain ⟨hl,hv⟩:=okS_iff.mp ok;unfold qT;rw [List.all_eq_true];intro x hx;obtain ⟨i,hi,rfl⟩:=List.mem_iff_getElem.mp hx
 have:=hv i (by omega)
 have e:s.getD i 0=s[i]:=by simp [List.getD,hi]
 rw [e] at this;have z:(lowM:Int)=5:=rfl;simp only [wg,wG,z];omega
theorem jU {s:List Int} (h:qT s=true):yz .sortedSet [.lst (eI s)]=some (.lst (eI (yW s))):=by
 simp only [yz,ints1,itemsD,wd,jm];rw [if_pos h];rfl
theorem inner (C:Tab) (hC:∀ a b:Int,C 2 [.int a,.int b]=some (.int (drawn a b))) {n k j mi:Int} {m:Nat} {s:List Int} {F:List (List Int)} {x6 x7 x8 x9:Sl} (h1:1<=m) (h5:m<=5) (ok:okS m s=true) :
  ∃ s' x6' x7' x8' x9',exs C zt (LSt n mi s F [.pu (.int k),.pu (.int j),x6,x7,x8,x9])=some (.nx (LSt n mi s' F [.pu (.int k),.pu (.int j),x6',x7',x8',x9']))/\okS m s'=true/\yt s s'=true:=by
 have sm:=ybM h5 ok
 by_cases hb:2<(yW s).length
 ·have dd:=jau n (4*k+j);generalize hd:drawn n (4*k+j)=dr at dd;have t1:(0:Int)<((yW s).length:Int)-1:=by omega
  have hi1:0<1+dr/4%(((yW s).length:Int)-1):=by
   have:=Int.emod_nonneg (dr/4) (show (((yW s).length:Int)-1)≠0 by omega)
   omega
  have hi2:1+dr/4%(((yW s).length:Int)-1)<((yW s).length:Int):=by
   have:=vd (dr/4) t1
   omega
  generalize hhi:1+dr/4%(((yW s).length:Int)-1)=hi at hi1 hi2;have lo1:0<=dr/4/8%hi:=Int.emod_nonneg _ (by omega);have lo2:dr/4/8%hi<hi:=vd _ hi1;generalize hlo:dr/4/8%hi=lo at lo1 lo2
  have ghi:(eI (yW s))[hi.toNat]?=some (.int ((yW s).getD hi.toNat 0)):=by
   have:hi.toNat<(yW s).length:=by omega
   simp [eI,List.getD,this]
  have glo:(eI (yW s))[lo.toNat]?=some (.int ((yW s).getD lo.toNat 0)):=by
   have:lo.toNat<(yW s).length:=by omega
   simp [eI,List.getD,this]
  have mo:=jdK h1 h5 ok (hi:=hi.toNat) (lo:=lo.toNat) (by omega) (by omega);have eh:=zx (by omega:0<=hi) ghi;have el:=zx lo1 glo;have L2:2<=sizeLine:=qd (by decide);refine ⟨mrg s hi.toNat lo.toNat,.pu (.lst (eI (yW s))),.pu (.int (dr/4)),.pu (.int hi),.pu (.int lo),?_,mo.1,mo.2⟩;refine qg (d:=.lst (eI (yW s))) (by simp! [jU sm]) rfl ?_;refine qr (k:=true) (d:=.bl true) ?_ rfl (λ_=>?_) (λz=>nomatch z)
  ·simp! [LSt,List.set,qp];rw [decide_eq_true (by omega)]
  simp only [LSt,List.set];rw [qg (d:=.int (dr/4)) (x:=some (.nx _)) ?_ rfl (qg (d:=.int hi) ?_ rfl (qg (d:=.int lo) ?_ rfl (qg (d:=.lst (eI (mrg s hi.toNat lo.toNat))) ?_ rfl rfl)))]
  ·rfl
  ·simp! [ycy,hC,hd]
  ·simp! [qp,t1,hhi]
  ·simp! [List.set,hi1,hlo]
  ·simp! [List.set];rw [zaI (g:=λp=>if p=(yW s).getD hi.toNat 0 then (yW s).getD lo.toNat 0 else p)]
   ·rfl
   intro p hp;simp only [turn,jay,yj,List.replicate,List.map_cons,List.map_nil,List.set,List.cons_append,List.nil_append,EA,qaC,qb6,yb6,qa1,ya1,ja1,jcs,zct,wd,Option.map_some,Option.bind_none,Option.map_none,if_true,if_false,↓reduceIte,and_self,Bool.not_true,Bool.not_false,wo,Int.reduceLT,Int.reduceLE,Int.reduceNeg,Nat.reduceMul,Nat.reduceAdd,Nat.reduceLeDiff,List.length_cons,List.length_nil,List.set,true_and,and_true,eh,el,L2];rw [jcs (by rfl)];simp! [eqD,jeb]
   by_cases q:p=(yW s).getD hi.toNat 0
   ·simp only [q,beq_self_eq_true,if_true]
   ·simp only [q,wY.mpr q,if_false,wo]
 ·refine ⟨s,.pu (.lst (eI (yW s))),x7,x8,x9,?_,ok,jt ok⟩;refine qg (d:=.lst (eI (yW s))) (by simp! [jU sm]) rfl ?_;refine qr (k:=false) (d:=.bl false) ?_ rfl (λz=>nomatch z) (λ_=>rfl);simp! [LSt,List.set,qp];rw [vk (by omega)]
end M
end
section
open PySem Eng LG
namespace M
structure Cha (m:Nat) (L:List (List Int)) (f:List Int):Prop where
 ok:∀ s∈L,okS m s=true
 first:L[0]?=some ((List.range m).map Int.ofNat)
 last:L.getLast?=some f
 up:∀ (i:Nat) (s t:List Int),L[i]?=some s->L[i+1]?=some t->yt s t=true/\s≠t
theorem Cha.snoc {m:Nat} {L:List (List Int)} {f g:List Int} (c:Cha m L f) (ok:okS m g=true) (hc:yt f g=true) (ne:f≠g):Cha m (L++[g]) g:=by
 have hpos:0<L.length:=by
  have:=c.first
  cases L with
  | nil=>simp at this
  | cons a r=>simp
 refine ⟨λs hs=>?_,?_,by simp,λi s t h1 h2=>?_⟩
 ·rcases List.mem_append.mp hs with h | h
  ·exact c.ok s h
  ·rw [va.mp h];exact ok
 ·rw [vi hpos];exact c.first
 ·have hi:i+1<(L++[g]).length:=(wq.mp h2).1;rw [wU,List.length_singleton] at hi;rw [vi (by omega)] at h1
  by_cases hl:i+1<L.length
  ·rw [vi hl] at h2;exact c.up i s t h1 h2
  ·rw [List.getElem?_append_right (by omega),show i+1-L.length=0 by omega] at h2;have e:g=t:=by simpa using h2
   have hf:=c.last;rw [List.getLast?_eq_getElem?,show L.length-1=i by omega,h1] at hf;have e2:s=f:=by simpa using hf
   rw [<-e,e2];exact ⟨hc,ne⟩
theorem qbj {L:List (List Int)} {f:List Int} (h:L.getLast?=some f):∃ L0,L=L0++[f]:=by
 obtain ⟨L0,e⟩:=List.getLast?_eq_some_iff.mp h;exact ⟨L0,e⟩
theorem jR {L:List (List Int)} {f:List Int} (h:L.getLast?=some f):atI (L.map tI) (-1)=some (tI f):=by
 obtain ⟨L0,rfl⟩:=qbj h;rw [List.map_append];exact yaZ _ _
theorem qav {xs ys:List Int}:yC .NotEq (tI xs) (tI ys)=some (!decide (xs=ys)):=by rw [zct (qaU xs ys),yaH]
theorem ja8 {xs:List Int}:D.tup (eI xs)=tI xs:=rfl
def LI (n mi:Int) (m:Nat) (i:Nat) (ρ:List Sl):Prop :=
 ∃ s L f x4 x5 x6 x7 x8 x9,ρ=LSt n mi s L [x4,x5,x6,x7,x8,x9]/\Cha m L f/\okS m s=true/\yt f s=true/\L.length<=1+i
theorem outer (C:Tab) (hC:∀ a b:Int,C 2 [.int a,.int b]=some (.int (drawn a b))) {n k mi:Int} {m i:Nat} {ρ:List Sl} (h1:1<=m) (h5:m<=5) (hi:i<=5) (h:LI n mi m i ρ) :
  ∃ ρ',((puT (.one 4) (.int k) ρ).bind λρ''=>exs C yk ρ'')=some (.nx ρ')/\LI n mi m (i+1) ρ':=by
 obtain ⟨s,L,f,x4,x5,x6,x7,x8,x9,rfl,ch,ok,co,hl⟩:=h;have m1:0<=n/24%2:=Int.emod_nonneg _ (by decide);have m2:n/24%2<2:=vd _ (by decide)
 obtain ⟨ρ1,e1,s',y5,y6,y7,y8,y9,rfl,ok',co'⟩:=ya8 (f:=λd ρ'=>(puT (.one 5) d ρ').bind λρ''=>exs C zt ρ'')
  (λρ=>∃ s' y5 y6 y7 y8 y9,ρ=LSt n mi s' L [.pu (.int k),y5,y6,y7,y8,y9]/\okS m s'=true/\yt s s'=true)
  (jb 0 (1+n/24%2).toNat) (LSt n mi s L [.pu (.int k),x5,x6,x7,x8,x9]) ⟨s,x5,x6,x7,x8,x9,rfl,ok,jt ok⟩ (λd hd ρ ⟨s',y5,y6,y7,y8,y9,e,ok',co'⟩=>by
   obtain ⟨j,rfl,_,_⟩:=qR hd;subst e;obtain ⟨s2,z6,z7,z8,z9,e2,ok2,co2⟩:=inner C hC (n:=n) (k:=k) (j:=j) (F:=L) (x6:=y6) (x7:=y7) (x8:=y8) (x9:=y9) h1 h5 ok';exact ⟨_,e2,s2,.pu (.int j),z6,z7,z8,z9,rfl,ok2,yU ok ok' co' co2⟩)
 have okf:=ch.ok f (List.mem_of_getLast? ch.last);have co2:=yU okf ok co co'
 by_cases q:s'=f
 ·subst q;refine ⟨_,?_,s',L,s',.pu (.int k),y5,y6,y7,y8,y9,rfl,ch,ok',jt ok',by omega⟩;simp only [puT,wd,LSt,List.set,yk];refine jo (ds:=jb 0 (1+n/24%2).toNat) ?_ e1 (qr (d:=.bl false) (k:=false) ?_ rfl (λz=>nomatch z) (λ_=>rfl))
  ·simp! [rngD];rw [if_pos ⟨by omega,by omega,qd (by omega)⟩]
  ·simp! [jR ch.last,ja8,qav,decide_eq_true]
 ·refine ⟨_,?_,s',L++[s'],s',.pu (.int k),y5,y6,y7,y8,y9,rfl,ch.snoc ok' co2 (Ne.symm q),ok',jt ok',by simp;omega⟩;simp only [puT,wd,LSt,List.set,yk];refine jo (ds:=jb 0 (1+n/24%2).toNat) ?_ e1 (qr (d:=.bl true) (k:=true) ?_ rfl (λ_=>?_) (λz=>nomatch z))
  ·simp! [rngD];rw [if_pos ⟨by omega,by omega,qd (by omega)⟩]
  ·simp! [jR ch.last,ja8,qav,vk q]
  ·rw [zU (d:=tI s') (ds:=L.map tI) (x:=some (.nx _)) ?_ rfl ?_ rfl]
   ·simp [LSt];rfl
   ·simp! [ja8]
   ·rw [wD];exact jK (by omega)
theorem jcj:∀ m:Nat,m<=5->jb 0 m=eI ((List.range m).map Int.ofNat):=by
 intro m h
 have:m=0\/m=1\/m=2\/m=3\/m=4\/m=5:=by omega
 rcases this with e | e | e | e | e | e<;>subst e<;>rfl
theorem zec (n:Int):∃ (mi:Int) (m:Nat),atI [D.int 1,.int 2,.int 3,.int 4,.int 5,.int 3,.int 4,.int 5] (n%8)=some (.int mi)/\mi=(m:Int)/\1<=m/\m<=5:=by
 have h:n%8=0\/n%8=1\/n%8=2\/n%8=3\/n%8=4\/n%8=5\/n%8=6\/n%8=7:=by omega
 rcases h with e | e | e | e | e | e | e | e<;>rw [e]
 ·exact ⟨1,1,rfl,rfl,by decide,by decide⟩
 ·exact ⟨2,2,rfl,rfl,by decide,by decide⟩
 ·exact ⟨3,3,rfl,rfl,by decide,by decide⟩
 ·exact ⟨4,4,rfl,rfl,by decide,by decide⟩
 ·exact ⟨5,5,rfl,rfl,by decide,by decide⟩
 ·exact ⟨3,3,rfl,rfl,by decide,by decide⟩
 ·exact ⟨4,4,rfl,rfl,by decide,by decide⟩
 ·exact ⟨5,5,rfl,rfl,by decide,by decide⟩
theorem rep0 (m:Nat):zco m [D.int 0]=eI (List.replicate m 0):=by
 induction m with
 | zero=>rfl
 | succ m ih =>
  simp only [zco,eI,List.replicate_succ,List.flatten_cons,List.map_cons] at *;rw [ih];rfl
theorem qew {m:Nat} (h1:1<=m) (h5:m<=5):m∈[1,2,3,4,5]:=by
 have:m=1\/m=2\/m=3\/m=4\/m=5:=by omega
 simpa using this
theorem ybj (C:Tab) (hC:∀ a b:Int,C 2 [.int a,.int b]=some (.int (drawn a b))) (n:Int):∃ m L,jC C d_law_ladder [.int n]=some (eL L)/\Lad m L:=by
 obtain ⟨mi,m,e8,hmi,h1,h5⟩:=zec n;have z:=qbM m (qew h1 h5);have k1:0<=n/8%3:=Int.emod_nonneg _ (by decide);have k2:n/8%3<3:=vd _ (by decide);obtain ⟨s0,hs0⟩:∃ s0,s0=(List.range m).map Int.ofNat:=⟨_,rfl⟩;rw [<-hs0] at z;have c0:Cha m [s0] s0:=⟨λs hs=>by rw [va.mp hs];exact z.2.1,by rw [<-hs0];rfl,rfl,λi s t a b=>by simp at b⟩
 obtain ⟨ρ1,e1,s,L,f,x4,x5,x6,x7,x8,x9,rfl,ch,ok,co,hl⟩:=yau (f:=λd ρ'=>(puT (.one 4) d ρ').bind λρ''=>exs C yk ρ'') (LI n mi m) (jb 0 (n/8%3).toNat) 0
  (LSt n mi s0 [s0] [.un, .un, .un, .un, .un, .un]) ⟨s0, [s0], s0, .un, .un, .un, .un, .un, .un, rfl, c0, z.2.1, jt z.2.1, by simp⟩ (λi d ρ hd hp => by
   have hi:i<(jb 0 (n/8%3).toNat).length:=(wq.mp hd).1;rw [ql] at hi;rw [yR _ _ _ hi] at hd;cases hd;exact outer C hC h1 h5 (by omega) hp)
 rw [ql] at hl;have okf:=ch.ok f (List.mem_of_getLast? ch.last)
 have rep:qM .Mult (.tup [.int 0]) (.int mi)=some (tI (List.replicate m 0)):=by
  have e:mi.toNat=m:=by omega
  rw [ja1 ⟨by rw [e];exact qd (by show 1*m<=1000;omega),by omega,by omega⟩,e,rep0];rfl
 have run:∀ (x:Option Fl),(exs C (.cons (.ite (.cmp .NotEq (.idx (.var 3) (.neg (.cst (.int 1)))) (.bin .Mult (.tup (.cons (.cst (.int 0)) .nil)) (.var 1))) (.cons (.app 3 .pu (.bin .Mult (.tup (.cons (.cst (.int 0)) .nil)) (.var 1))) .nil) .nil) (.cons (.ret (.blt .tuple (.cons (.var 3) .nil))) .nil)) (LSt n mi s L [x4,x5,x6,x7,x8,x9])=x) ->
   exs C d_law_ladder.b ([.pu (.int n)]++List.replicate 9 .un)=x:=λx hx=>by
  simp only [d_law_ladder,List.replicate,List.cons_append,List.nil_append];refine qg (d:=.int mi) (ρ':=[.pu (.int n),.pu (.int mi),.un,.un,.un,.un,.un,.un,.un,.un]) ?_ rfl ?_
  ·simp! [];rw [if_pos (qd (by decide)),wd];exact e8
  refine qg (d:=.lst (eI s0)) (ρ':=[.pu (.int n),.pu (.int mi),.pu (.lst (eI s0)),.un,.un,.un,.un,.un,.un,.un]) ?_ rfl ?_
  ·simp! [rngD];rw [if_pos ⟨by omega,by omega,qd (by omega)⟩,wd,show mi.toNat=m by omega,jcj m h5,<-hs0]
  refine yV (ds:=[tI s0]) ?_ ?_ ?_
  ·simp! [ja8];rw [if_pos (qd (by decide))]
  ·simp [yay,noL,tI,zau]
  simp only [List.set];refine jo (ds:=jb 0 (n/8%3).toNat) ?_ e1 hx
  ·simp! [rngD];rw [if_pos ⟨by omega,by omega,qd (by omega)⟩]
 have fin:∀ L':List (List Int),yz .tuple [.lst (L'.map tI)]=some (eL L'):=λL'=>rfl
 by_cases q:f=List.replicate m 0
 ·refine ⟨m,L,?_,h1,h5,by omega,ch.ok,ch.first,by rw [ch.last,q],ch.up⟩;refine qc rfl (run (some (.rt (eL L))) (qr (d:=.bl false) (k:=false) ?_ rfl (λz=>nomatch z) λ_=>?_))
  ·simp! [jR ch.last];rw [if_pos (qd (by decide)),wd,rep,wd,qav,decide_eq_true q];rfl
  ·rw [qag,wd];refine qe ?_;simp! [];rfl
 ·refine ⟨m,L++[List.replicate m 0],?_,h1,h5,by simp;omega,(ch.snoc z.1 (z.2.2 f (zav h5 okf)) q).ok,(ch.snoc z.1 (z.2.2 f (zav h5 okf)) q).first,by simp,(ch.snoc z.1 (z.2.2 f (zav h5 okf)) q).up⟩;refine qc rfl (run (some (.rt (eL (L++[List.replicate m 0])))) (qr (d:=.bl true) (k:=true) ?_ rfl (λ_=>?_) (λz=>nomatch z)))
  ·simp! [jR ch.last];rw [if_pos (qd (by decide)),wd,rep,wd,qav,vk q];rfl
  ·rw [zU (d:=tI (List.replicate m 0)) (ds:=L.map tI) (x:=some (.nx _)) ?_ rfl ?_ rfl]
   ·rw [wd];refine qe ?_;simp! [LSt];rw [<-fin,List.map_append];simp! [List.map_cons,List.map_nil]
   ·simp! [];rw [if_pos (qd (by decide)),wd,rep]
   ·rw [wD];exact jK (by omega)
end M
end
section
open PySem Eng LG
namespace M
theorem jab:∀ (ds:List D) (k:Nat),(qP k ds).length=ds.length
 | [],_=>rfl
 | d::ds,k=>by simp [qP,jab ds]
theorem za9:∀ (ds:List D) (k i:Nat),(qP k ds)[i]?=(ds[i]?).map λd=>.tup [.int ((k+i:Nat):Int),d]
 | [],_,_=>by simp [qP]
 | d::ds,k,0=>by simp [qP]
 | d::ds,k,i+1=>by
  simp only [qP,List.getElem?_cons_succ];rw [za9 ds (k+1) i,show k+1+i=k+(i+1) by omega]
def RowOk:List Int->List (List (List Int))->Prop
 | [],[]=>True
 | x::r,L::Ls=>(0<=x/\x<((L.headD []).length:Int))/\RowOk r Ls
 | _,_=>False
theorem RowOk.snoc {L:List (List Int)} {x:Int} (h:0<=x/\x<((L.headD []).length:Int)):∀ {r:List Int} {Ls:List (List (List Int))},RowOk r Ls->RowOk (r++[x]) (Ls++[L])
 | [],[],_=>⟨h,trivial⟩
 | y::r,M::Ls,q=>⟨q.1,RowOk.snoc h q.2⟩
 | [],_::_,q=>q.elim
 | _::_,[],q=>q.elim
theorem RowOk.len:∀ {r:List Int} {Ls:List (List (List Int))},RowOk r Ls->r.length=Ls.length
 | [],[],_=>rfl
 | y::r,M::Ls,q=>by simp [RowOk.len q.2]
 | [],_::_,q=>q.elim
 | _::_,[],q=>q.elim
structure TabOk (Ls:List (List (List Int))) (rows:List (List Int)) (secs:List Int):Prop where
 c1:1<=Ls.length
 c3:Ls.length<=3
 lad:∀ L∈Ls,∃ m,Lad m L
 r1:1<=rows.length
 r8:rows.length<=8
 row:∀ r∈rows,RowOk r Ls
 sl:secs.length=rows.length
 sec:∀ s∈secs,0<=s/\s<4
noncomputable def eT (Ls:List (List (List Int))) (rows:List (List Int)) (secs:List Int):D:=.tup [.tup (Ls.map eL),.tup (rows.map tI),tI secs]
theorem jcy (xs:List Int):noL (tI xs)=true:=by simp [tI,noL,zau]
theorem jbM (L:List (List Int)):yay (L.map tI)=true:=by
 induction L with
 | nil=>rfl
 | cons a r ih=>simp [yay,jcy,ih]
theorem Lad.head {m:Nat} {L:List (List Int)} (h:Lad m L):L.headD []=(List.range m).map Int.ofNat:=by
 have:=h.first
 cases L with
 | nil=>simp at this
 | cons a r=>simpa using this
theorem Lad.pos {m:Nat} {L:List (List Int)} (h:Lad m L):0<(L.headD []).length:=by
 rw [h.head];simp;exact h.m1
theorem Lad.hd {m:Nat} {L:List (List Int)} (h:Lad m L):atI (L.map tI) 0=some (tI (L.headD [])):=by
 have:=h.first
 cases L with
 | nil=>simp at this
 | cons a r=>exact zx (by decide) rfl
theorem zcz (xs:List Int):yz .len [tI xs]=some (.int xs.length):=by rw [tI,zk,qp]
noncomputable abbrev TSt (n:Int) (Ls:List (List (List Int))) (rows:List (List Int)) (secs:List Int) (r:List Sl):List Sl :=
 .pu (.int n)::.pu (.tup (Ls.map eL))::.ow (rows.map tI)::.ow (eI secs)::r
theorem zbN (C:Tab) (hC:∀ a b:Int,C 2 [.int a,.int b]=some (.int (drawn a b))) {n k:Int} {Ls:List (List (List Int))} {rows:List (List Int)} {secs:List Int} (hL:∀ L∈Ls,∃ m,Lad m L) (h3:Ls.length<=3) {x6 x7:Sl} :
  ∃ row x6' x7',forL (λd ρ'=>(puT (.many [6,7]) d ρ').bind λρ''=>exs C qo ρ'') (qP 0 (Ls.map eL)) (TSt n Ls rows secs [.pu (.int k),.ow [],x6,x7])=some (.nx (TSt n Ls rows secs [.pu (.int k),.ow (eI row),x6',x7']))/\RowOk row Ls:=by
 obtain ⟨ρ',e,row,x6',x7',rfl,ok⟩:=yau (f:=λd ρ'=>(puT (.many [6,7]) d ρ').bind λρ''=>exs C qo ρ'')
  (λi ρ=>∃ row x6 x7,ρ=TSt n Ls rows secs [.pu (.int k),.ow (eI row),x6,x7]/\RowOk row (Ls.take i)) (qP 0 (Ls.map eL)) 0 (TSt n Ls rows secs [.pu (.int k),.ow [],x6,x7]) ⟨[],x6,x7,rfl,by simp [RowOk]⟩
  (λi d ρ hd ⟨row,y6,y7,er,ok⟩=>by
   subst er;rw [za9,wx] at hd;cases hLi:Ls[i]? with
   | none=>rw [hLi] at hd;cases hd
   | some L =>
    rw [hLi] at hd;cases hd;obtain ⟨m,lad⟩:=hL L (wR hLi);have hp:=lad.pos;have dd:=jau n (10+4*k+((0+i:Nat):Int));generalize hi0:((0+i:Nat):Int)=ii at dd;generalize hdr:drawn n (10+4*k+ii)=dr at dd;generalize hln:((L.headD []).length:Int)=ln at hp;have ln1:0<ln:=by omega
    have x1:0<=dr/4%ln:=Int.emod_nonneg _ (by omega);have x2:dr/4%ln<ln:=vd _ ln1;have rl:=ok.len;have il:i<Ls.length:=(wq.mp hLi).1;refine ⟨_,?_,row++[dr/4%ln],.pu (.int ii),.pu (eL L),rfl,?_⟩
    ·simp only [hi0,puT,List.length_cons,List.length_nil,if_true,puM,wd,TSt,List.set,qo];rw [zU (d:=.int (dr/4%ln)) (ds:=eI row) (x:=some (.nx _)) ?_ rfl ?_ rfl]
     ·simp [eI]
     ·simp! [ycy,hC,hdr,eL,lad.hd,zcz,hln,ln1]
     ·rw [qp,rl,List.length_take];exact jK (by omega)
    ·rw [show 0+i+1=i+1 by omega,List.take_add_one,hLi];rw [show 0+i=i by omega] at ok;exact ok.snoc ⟨x1,by rw [hln];exact x2⟩)
 rw [jab,wD,show 0+Ls.length=Ls.length by omega,List.take_length] at ok;exact ⟨row,x6',x7',e,ok⟩
theorem three (n:Int):∃ q:Int,atI [D.int 2,.int 4,.int 3] (n/72%3)=some (.int q)/\0<q/\q<=4:=by
 have h:n/72%3=0\/n/72%3=1\/n/72%3=2:=by omega
 rcases h with e | e | e<;>rw [e]
 ·exact ⟨2,rfl,by decide,by decide⟩
 ·exact ⟨4,rfl,by decide,by decide⟩
 ·exact ⟨3,rfl,by decide,by decide⟩
def TI (n:Int) (Ls:List (List (List Int))) (i:Nat) (ρ:List Sl):Prop :=
 ∃ rows secs x4 x5 x6 x7,ρ=TSt n Ls rows secs [x4,x5,x6,x7]/\rows.length=i/\secs.length=i/\(∀ r∈rows,RowOk r Ls)/\∀ s∈secs,0<=s/\s<4
theorem jX {i j:Int}:yC .Eq (.int i) (.int j)=some (i==j):=rfl
theorem qbN (C:Tab) (hC:∀ a b:Int,C 2 [.int a,.int b]=some (.int (drawn a b))) {n:Int} {Ls:List (List (List Int))} (hL:∀ L∈Ls,∃ m,Lad m L) (h3:Ls.length<=3) {i:Nat} {ki:Int} (hk:ki=(i:Int)) (hi:i<=8) {ρ:List Sl} (h:TI n Ls i ρ) :
  ∃ ρ',((puT (.one 4) (.int ki) ρ).bind λρ''=>exs C qm ρ'')=some (.nx ρ')/\TI n Ls (i+1) ρ':=by
 obtain ⟨rows,secs,x4,x5,x6,x7,rfl,rl,sl,ro,so⟩:=h;obtain ⟨row,y6,y7,e1,ok⟩:=zbN C hC (n:=n) (k:=ki) (rows:=rows) (secs:=secs) hL h3 (x6:=x6) (x7:=x7);obtain ⟨q,eq,q1,q2⟩:=three n;have d70:=jau n (70+ki);generalize h70:drawn n (70+ki)=s70 at d70;have s1:0<=s70/4%q:=Int.emod_nonneg _ (by omega);have s2:s70/4%q<q:=vd _ q1;have L3:3<=sizeLine:=qd (by decide)
 have tail:∀ (row:List Int),RowOk row Ls->exs C (.cons (.app 2 .cl (.blt .tuple (.cons (.var 5) .nil))) (.cons (.app 3 .pu (.bin .Mod (.bin .FloorDiv (.call 2 (.cons (.var 0) (.cons (.bin .Add (.cst (.int 70)) (.var 4)) .nil))) (.cst (.int 4))) (.idx (.tup (.cons (.cst (.int 2)) (.cons (.cst (.int 4)) (.cons (.cst (.int 3)) .nil)))) (.bin .Mod (.bin .FloorDiv (.var 0) (.cst (.int 72))) (.cst (.int 3)))))) .nil))
   (TSt n Ls rows secs [.pu (.int ki),.ow (eI row),y6,y7])=some (.nx (TSt n Ls (rows++[row]) (secs++[s70/4%q]) [.pu (.int ki),.ow (eI row),y6,y7])):=λrow ok=>by
  refine ycJ (d:=tI row) (ds:=rows.map tI) ?_ rfl (jcy row) ?_ ?_
  ·simp! [TSt];rfl
  ·rw [wD];exact jK (by omega)
  simp only [TSt,List.set];rw [zU (d:=.int (s70/4%q)) (ds:=eI secs) (x:=some (.nx _)) ?_ rfl ?_ rfl]
  ·simp [eI]
  ·simp! [hC,h70,L3,eq,q1]
  ·rw [qp];exact jK (by omega)
 have nxt:∀ (row:List Int),RowOk row Ls->TI n Ls (i+1) (TSt n Ls (rows++[row]) (secs++[s70/4%q]) [.pu (.int ki),.ow (eI row),y6,y7]):=λrow ok =>
  ⟨rows ++ [row], secs ++ [s70 / 4 % q], _, _, _, _, rfl, by simp [rl], by simp [sl], λr hr => by
   rcases List.mem_append.mp hr with z | z
   ·exact ro r z
   ·rw [va.mp z];exact ok,λs hs=>by
   rcases List.mem_append.mp hs with z | z
   ·exact so s z
   ·rw [va.mp z];exact ⟨s1,by omega⟩⟩
 have head:∀ x,(exs C (.cons (.ite (.and (.cmp .Gt (.var 4) (.cst (.int 0))) (.and (.cmp .Eq (.bin .Mod (.bin .FloorDiv (.var 0) (.cst (.int 24))) (.cst (.int 3))) (.cst (.int 1))) (.cmp .Eq (.bin .Mod (.bin .FloorDiv (.call 2 (.cons (.var 0) (.cons (.bin .Add (.cst (.int 50)) (.var 4)) .nil))) (.cst (.int 4))) (.cst (.int 2))) (.cst (.int 1))))) (.cons (.set .ow (.one 5) (.blt .list (.cons (.idx (.var 2) (.bin .Mod (.bin .FloorDiv (.call 2 (.cons (.var 0) (.cons (.bin .Add (.cst (.int 60)) (.var 4)) .nil))) (.cst (.int 4))) (.var 4))) .nil))) .nil) .nil) (.cons (.app 2 .cl (.blt .tuple (.cons (.var 5) .nil))) (.cons (.app 3 .pu (.bin .Mod (.bin .FloorDiv (.call 2 (.cons (.var 0) (.cons (.bin .Add (.cst (.int 70)) (.var 4)) .nil))) (.cst (.int 4))) (.idx (.tup (.cons (.cst (.int 2)) (.cons (.cst (.int 4)) (.cons (.cst (.int 3)) .nil)))) (.bin .Mod (.bin .FloorDiv (.var 0) (.cst (.int 72))) (.cst (.int 3)))))) .nil)))
   (TSt n Ls rows secs [.pu (.int ki),.ow (eI row),y6,y7])=x)->((puT (.one 4) (.int ki) (TSt n Ls rows secs [x4,x5,x6,x7])).bind λρ''=>exs C qm ρ'')=x:=λx hx=>by
  simp only [puT,wd,TSt,List.set,qm];refine yV (ds:=[]) ?_ rfl ?_
  ·simp! [];rw [if_pos (qd (by decide))]
  simp only [List.set];refine jo (ds:=qP 0 (Ls.map eL)) ?_ e1 hx;simp! []
 by_cases c1:0<ki
 ·by_cases c2:n/24%3=1
  ·by_cases c3:drawn n (50+ki)/4%2=1
   ·-- an elder row
    have j1:0<=drawn n (60+ki)/4%ki:=Int.emod_nonneg _ (by omega);have j2:drawn n (60+ki)/4%ki<ki:=vd _ c1;generalize hj:drawn n (60+ki)/4%ki=j at j1 j2;have jl:j.toNat<rows.length:=by omega
    have ej:atI (rows.map tI) j=some (tI rows[j.toNat]):=zx j1 (by simp [jl]);refine ⟨_,head _ (qr (k:=true) (d:=.bl true) ?_ rfl (λ_=>?_) (λz=>nomatch z)),nxt rows[j.toNat] (ro _ (List.getElem_mem jl))⟩
    ·simp! [TSt,hC];rw [decide_eq_true c1];simp! [jX,c2,c3,beq_self_eq_true]
    ·rw [yV (ds:=eI rows[j.toNat]) (x:=some (.nx _)) ?_ (zau _) rfl]
     ·exact tail _ (ro _ (List.getElem_mem jl))
     ·simp! [TSt,hC,c1,hj,ej];rfl
   ·refine ⟨_,head _ (qr (k:=false) (d:=.bl false) ?_ rfl (λz=>nomatch z) (λ_=>?_)),nxt row ok⟩
    ·simp! [TSt,hC];rw [decide_eq_true c1];simp! [jX,c2,beq_self_eq_true,wY.mpr c3]
    ·rw [qag,wd];exact tail row ok
  ·refine ⟨_,head _ (qr (k:=false) (d:=.bl false) ?_ rfl (λz=>nomatch z) (λ_=>?_)),nxt row ok⟩
   ·simp! [TSt,hC];rw [decide_eq_true c1];simp! [jX,wY.mpr c2]
   ·rw [qag,wd];exact tail row ok
 ·refine ⟨_,head _ (qr (k:=false) (d:=.bl false) ?_ rfl (λz=>nomatch z) (λ_=>?_)),nxt row ok⟩
  ·simp! [TSt,hC];rw [vk c1]
  ·rw [qag,wd];exact tail row ok
end M
end
section
open PySem Eng LG
namespace M
theorem qa9:∀ (rs:List D),(∀ x∈rs,∃ L m,x=eL L/\Lad m L)->∃ Ls:List (List (List Int)),rs=Ls.map eL/\∀ L∈Ls,∃ m,Lad m L
 | [],_=>⟨[],rfl,by simp⟩
 | x::rs,h=>by
  obtain ⟨L,m,rfl,hl⟩:=h x (by simp);obtain ⟨Ls,rfl,hs⟩:=qa9 rs λy hy=>h y (by simp [hy])
  refine ⟨L::Ls,rfl,λM hM=>?_⟩;rcases wu.mp hM with rfl | q
  ·exact ⟨m,hl⟩
  ·exact hs M q
theorem ybN (C:Tab) (hC:∀ a b:Int,C 2 [.int a,.int b]=some (.int (drawn a b))) (hC7:∀ n:Int,∃ m L,C 3 [.int n]=some (eL L)/\Lad m L) (n:Int) :
  ∃ Ls rows secs,jC C yK [.int n]=some (eT Ls rows secs)/\TabOk Ls rows secs:=by
 have k1:0<=n%3:=Int.emod_nonneg _ (by decide);have k2:n%3<3:=vd _ (by decide);have j1:0<=n/3%8:=Int.emod_nonneg _ (by decide);have j2:n/3%8<8:=vd _ (by decide)
 obtain ⟨rs,eg,rl,hr⟩:=yak (f:=turn C (.call 3 (.cons (.call 2 (.cons (.var 1) (.cons (.var 0) .nil))) .nil)) (.one 0) 1 [0] .none [some (.int n),none,none,none,none,none,none,none])
  (λ_ x=>∃ L m,x=eL L/\Lad m L) (jb 0 (1+n%3).toNat) (λd hd=>by
   obtain ⟨i,rfl,_,_⟩:=qR hd;obtain ⟨m,L,e7,lad⟩:=hC7 (drawn n i);refine ⟨eL L,?_,L,m,rfl,lad⟩;simp only [turn,jay,yj,List.replicate,List.map_cons,List.map_nil,List.cons_append,List.nil_append,EA,qaC,qb6,yb6,qa1,ya1,ja1,jcs,zct,wd,Option.map_some,Option.bind_none,Option.map_none,if_true,if_false,↓reduceIte,and_self,Bool.not_true,Bool.not_false,wo,Int.reduceLT,Int.reduceLE,Int.reduceNeg,Nat.reduceMul,Nat.reduceAdd,Nat.reduceLeDiff,List.length_cons,List.length_nil,List.set,true_and,and_true,hC,e7])
 rw [ql] at rl;obtain ⟨Ls,rfl,hL⟩:=qa9 rs λx hx=>by obtain ⟨d,_,q⟩:=hr x hx;exact q
 rw [wD] at rl
 obtain ⟨ρ1,e1,rows,secs,x4,x5,x6,x7,rfl,hrl,hsl,hro,hso⟩:=yau (f:=λd ρ'=>(puT (.one 4) d ρ').bind λρ''=>exs C qm ρ'') (TI n Ls) (jb 0 (1+n/3%8).toNat) 0
  (TSt n Ls [] [] [.un, .un, .un, .un]) ⟨[], [], .un, .un, .un, .un, rfl, rfl, rfl, by simp, by simp⟩ (λi d ρ hd hp => by
   have hi:i<(jb 0 (1+n/3%8).toNat).length:=(wq.mp hd).1;rw [ql] at hi;rw [yR _ _ _ hi] at hd;cases hd;rw [show 0+i=i by omega] at hp ⊢;exact qbN C hC hL (by omega) (by omega) (by omega) hp)
 rw [ql] at hrl hsl;refine ⟨Ls,rows,secs,?_,⟨by omega,by omega,hL,by omega,by omega,hro,by omega,hso⟩⟩;refine qc rfl ?_;simp only [yK,List.replicate,List.map_cons,List.map_nil,List.cons_append,List.nil_append];refine qg (d:=.tup (Ls.map eL)) (ρ':=[.pu (.int n),.pu (.tup (Ls.map eL)),.un,.un,.un,.un,.un,.un]) ?_ rfl ?_
 ·simp! [rngD];rw [if_pos ⟨by omega,by omega,qd (by omega)⟩];simp only [wd];rw [eg];rfl
 refine yV (ds:=[]) ?_ rfl ?_
 ·simp! [];rw [if_pos (qd (by decide))]
 refine yV (ds:=[]) ?_ rfl ?_
 ·simp! [];rw [if_pos (qd (by decide))]
 simp only [List.set];refine jo (ds:=jb 0 (1+n/3%8).toNat) ?_ e1 (qe ?_)
 ·simp! [rngD];rw [if_pos ⟨by omega,by omega,qd (by omega)⟩]
 ·simp! [TSt];rw [if_pos (qd (by decide))];rfl
theorem jbN (C:Tab) (ns:List Int) (k:Int) (c:Int) (hC:C 0 [.scr ns,.int k]=some (.int c)):∃ r:Int,jC C qk [.scr ns,.int k]=some (.int r):=by
 have h1:=Int.emod_nonneg ((c+7919*k+1)*48271) (show (2147483647:Int)≠0 by decide);have h2:=vd ((c+7919*k+1)*48271) (show (0:Int)<2147483647 by decide);have c1:qM .Mult (.int 7919) (.int k)=some (.int (7919*k)):=qaC (qt (by decide));have c2:qM .Mult (.int (c+7919*k+1)) (.int 48271)=some (.int ((c+7919*k+1)*48271)):=qaC (jak (by decide));generalize hd:(c+7919*k+1)*48271%2147483647=d at h1 h2;have c3:qM .Mult (.int d) (.int d)=some (.int (d*d)):=qaC (qt (by omega));have c4:qM .Mult (.int 7) (.int d)=some (.int (7*d)):=qaC (qt (by decide));refine ⟨(d*d+7*d+k)%2147483629,qc rfl ?_⟩;simp only [qk,List.replicate,List.map_cons,List.map_nil,List.cons_append,List.nil_append];refine qg (d:=.int d) (ρ':=[.pu (.scr ns),.pu (.int k),.pu (.int d)]) ?_ rfl (qe ?_)
 ·simp! [hC,c1,c2,hd]
 ·simp! [c3,c4]
end M
end
section
open PySem Eng LG
namespace M
section
variable {C:Tab} {ρ:En} {a b c:Eng.Code} {x y z d:D} {k:Bool}
theorem jq {op:CmpOp} (h1:ev C a ρ=some x) (h2:ev C b ρ=some y) (h3:yC op x y=some k):ev C (.cmp op a b) ρ=some (.bl k):=by
 rw [qcr,h1,wd,h2,wd,h3];rfl
theorem jk {f:Blt} (h1:ev C a ρ=some x) (h2:yz f [x]=some d):ev C (.blt f (.cons a .nil)) ρ=some d:=by
 rw [qa0,yh,h1,wd,jJ];exact h2
theorem yi {e:Eng.Code} {t:Tgt} {n:Nat} {keep:List Nat} {it:Iter} {o:OCode} {ds rs:List D} (h1:evI C it ρ=some ds) (h2:gather (turn C e t n keep o ρ) ds=some rs):ev C (.comp e t n keep it o) ρ=some (.lst rs):=by
 rw [jbt,h1,wd,h2];rfl
theorem qaI {ds:List D} (h1:ev C a ρ=some x) (h2:rngD [x]=some ds):evI C (.rng (.cons a .nil)) ρ=some ds:=by
 rw [zaQ,yh,h1,wd,jJ];exact h2
theorem zj {ds:List D} (h1:ev C a ρ=some x) (h2:itemsD x=some ds):evI C (.data a) ρ=some ds:=by
 rw [za1,h1,wd];exact h2
theorem zck {ds:List D} (h1:ev C a ρ=some x) (h2:itemsD x=some ds):evI C (.enu a) ρ=some (qP 0 ds):=by
 rw [zbu,h1,wd,h2];rfl
theorem zdL {ds es:List D} (h1:ev C a ρ=some x) (h2:itemsD x=some ds) (h3:ev C b ρ=some y) (h4:itemsD y=some es):evI C (.zip a b) ρ=some (jaO ds es):=by
 rw [qbu,h1,wd,h3,wd,h2,wd,h4];rfl
theorem ji (h1:ev C a ρ=some x) (h2:ev C b ρ=some y) (h3:jam x y=some d):ev C (.idx a b) ρ=some d:=by
 rw [zcs,h1,wd,h2,wd];exact h3
theorem qC {op:Operator} (h1:ev C a ρ=some x) (h2:ev C b ρ=some y) (h3:qM op x y=some d):ev C (.bin op a b) ρ=some d:=by
 rw [jcq,h1,wd,h2,wd];exact h3
theorem qck (h1:ev C a ρ=some x) (h2:truO x=some k):ev C (.not a) ρ=some (.bl (!k)):=by
 rw [zcr,h1,wd,h2];rfl
theorem qec (h1:ev C a ρ=some (.bl true)):ev C (.or a b) ρ=some (.bl true):=by rw [jcI,h1];rfl
theorem yec (h1:ev C a ρ=some (.bl false)) (h2:ev C b ρ=some d):ev C (.or a b) ρ=some d:=by rw [jcI,h1];exact h2
theorem qdL (h1:ev C a ρ=some (.bl false)):ev C (.and a b) ρ=some (.bl false):=by rw [ybt,h1];rfl
theorem ydL (h1:ev C a ρ=some (.bl true)) (h2:ev C b ρ=some d):ev C (.and a b) ρ=some d:=by rw [ybt,h1];exact h2
theorem zdV {k l:Bool} (h1:ev C a ρ=some (.bl k)) (h2:k=false->ev C b ρ=some (.bl l)):ev C (.or a b) ρ=some (.bl (k||l)):=by
 cases k with
 | true=>exact qec h1
 | false=>exact yec h1 (h2 rfl)
theorem qc3 {k l:Bool} (h1:ev C a ρ=some (.bl k)) (h2:k=true->ev C b ρ=some (.bl l)):ev C (.and a b) ρ=some (.bl (k&&l)):=by
 cases k with
 | false=>exact qdL h1
 | true=>exact ydL h1 (h2 rfl)
theorem yc3 {t:Ty} (h1:ev C a ρ=some x) (h2:ydR x t=some d):ev C (.isi a t) ρ=some d:=by
 rw [ycs,h1];exact h2
theorem jc3 {f:Nat} (h1:ev C a ρ=some x) (h2:C f [x]=some d):ev C (.call f (.cons a .nil)) ρ=some d:=by
 rw [yZ,yh,h1,wd,jJ];exact h2
theorem je {f:Nat} (h1:ev C a ρ=some x) (h2:ev C b ρ=some y) (h3:C f [x,y]=some d):ev C (.call f (.cons a (.cons b .nil))) ρ=some d:=by
 rw [yZ,yh,h1,wd,yh,h2,wd,jJ];exact h3
theorem zu {f:Nat} (h1:ev C a ρ=some x) (h2:ev C b ρ=some y) (h3:ev C c ρ=some z) (h4:C f [x,y,z]=some d):ev C (.call f (.cons a (.cons b (.cons c .nil)))) ρ=some d:=by
 rw [yZ,yh,h1,wd,yh,h2,wd,yh,h3,wd,jJ];exact h4
theorem qw:evs C .nil ρ=some []:=rfl
theorem zl {cs:Codes} {xs:List D} (h1:ev C a ρ=some x) (h2:evs C cs ρ=some xs):evs C (.cons a cs) ρ=some (x::xs):=by rw [yh,h1,wd,h2];rfl
theorem jbj {cs:Codes} {xs:List D} (h1:evs C cs ρ=some xs) (h2:xs.length<=1000):ev C (.tup cs) ρ=some (.tup xs):=by rw [ycr,h1,wd,if_pos (qd h2)]
theorem yaU {cs:Codes} {xs:List D} (h1:evs C cs ρ=some xs) (h2:xs.length<=1000):ev C (.lst cs) ρ=some (.lst xs):=by rw [jcr,h1,wd,if_pos (qd h2)]
theorem zc4 {lo hi:OCode} {l h:Option Int} (h1:ev C a ρ=some x) (h2:evO C lo ρ=some l) (h3:evO C hi ρ=some h) (h4:jcC x l h=some d):ev C (.slc a lo hi) ρ=some d:=by
 rw [qcs,h1,wd,h2,wd,h3];exact h4
theorem jaU {i:Int} (h1:ev C a ρ=some (.int i)):evO C (.some a) ρ=some (some i):=by rw [ya0,h1];rfl
section
variable {σ σ':List Sl} {r t u:Stms} {v:Option Fl}
theorem zq (h:ev C a (vA σ)=some (.bl false)) (h2:exs C r σ=v):exs C (.cons (.ite a t .nil) r) σ=v:=by
 refine qr h rfl (λz=>nomatch z) (λ_=>?_);rw [qag,wd];exact h2
theorem zS (h:ev C a (vA σ)=some (.bl true)) (h1:exs C t σ=some (.rt d)):exs C (.cons (.ite a t u) r) σ=some (.rt d):=by
 refine qr h rfl (λ_=>?_) (λz=>nomatch z);rw [h1];rfl
theorem zaV (h:ev C a (vA σ)=some (.bl true)) (h1:exs C t σ=some (.nx σ')) (h2:exs C r σ'=v):exs C (.cons (.ite a t u) r) σ=v:=by
 refine qr h rfl (λ_=>?_) (λz=>nomatch z);rw [h1,wd];exact h2
end
end
theorem yav {C:Tab} {ρ:List Sl} {t:Tgt} {it:Iter} {b r:Stms} {ds:List D} {d:D} (h:evI C it (vP ρ)=some ds) (h1:forL (λd ρ'=>(puT t d ρ').bind λρ''=>exs C b ρ'') ds ρ=some (.rt d)):exs C (.cons (.for t it b) r) ρ=some (.rt d):=by
 rw [exs,ex,h,wd,h1];rfl
theorem zbO (bs:List Bool):yad (bs.map D.bl)=some bs:=by
 induction bs with
 | nil=>rfl
 | cons a r ih=>simp [yad,ih]
theorem qc4 (bs:List Bool):yz .all [.lst (bs.map D.bl)]=some (.bl (bs.all id)):=by
 simp only [yz,jee,itemsD,wd,zbO];rfl
theorem qbO {xs:List D} (h:∀ d∈xs,noS d=true):zM xs=true:=by
 induction xs with
 | nil=>rfl
 | cons a r ih =>
  rw [zM,h a (by simp),ih λd hd=>h d (by simp [hd])];rfl
theorem zac (xs:List Int):noS (tI xs)=true:=qau xs
theorem yO {x:D} {i:Int} (h:noS x=true):zC x (.int i)=true:=by
 rw [eqOk_iff'];exact ⟨.inr (Nat.zero_le _),h,rfl⟩
where eqOk_iff' {x y:D}:zC x y=true↔(dep x<=40\/dep y<=40)/\noS x=true/\noS y=true:=by simp [zC,and_assoc]
theorem yaI {x y:D} (h:noS x=true) (hy:noS y=true) (hd:dep y<=40):zC x y=true:=by simp [zC,h,hy,hd]
theorem ya9 (xs:List Int):dep (tI xs)<=40:=by simp [tI,dep,zaU]
def InB (r bs:List Int):Prop:=r.length=bs.length/\∀ i<r.length,0<=r.getD i 0/\r.getD i 0<bs.getD i 0
noncomputable def jdc (Ls:List (List (List Int))):List Int:=Ls.map λL=>((L.headD []).length:Int)
theorem InB_cons {x b:Int} {r bs:List Int}:InB (x::r) (b::bs)↔(0<=x/\x<b)/\InB r bs:=by
 constructor
 ·rintro ⟨h1,h2⟩;refine ⟨by simpa using h2 0 (by simp),by simpa using h1,λi hi=>?_⟩;simpa using h2 (i+1) (by simpa using hi)
 ·rintro ⟨h0,h1,h2⟩;refine ⟨by simp [h1],λi hi=>?_⟩;cases i with
  | zero=>simpa using h0
  | succ i=>simpa using h2 i (by simpa using hi)
theorem row_iff:∀ {r:List Int} {Ls:List (List (List Int))},RowOk r Ls↔InB r (jdc Ls)
 | [],[]=>by simp [RowOk,InB,jdc]
 | [],_::_=>by simp [RowOk,InB,jdc]
 | _::_,[]=>by simp [RowOk,InB,jdc]
 | x::r,L::Ls=>by
  have ih:=row_iff (r:=r) (Ls:=Ls);show ((0<=x/\x<((L.headD []).length:Int))/\RowOk r Ls)↔InB (x::r) (((L.headD []).length:Int)::jdc Ls);rw [InB_cons,ih]
theorem yb {P:List Def} {k i:Nat} {f:Def} {ds:List D} {d:D} (h:P[i]?=some f) (h2:jC (jh P k) f ds=some d):jh P (k+1) i ds=some d:=by
 show (P[i]?).bind (λf=>jC (jh P k) f ds)=some d;rw [h];exact h2
noncomputable def zb2 (n:Int):Nat->List (List (List Int))->List Int
 | _,[]=>[]
 | k,L::Ls=>drawn n k/4%(L.length:Int)::zb2 n (k+1) Ls
theorem Lad.ne {m:Nat} {L:List (List Int)} (h:Lad m L):0<L.length:=by
 have:=h.first
 cases L with
 | nil=>simp at this
 | cons _ _=>simp
theorem zal (C:Tab) (hC:∀ a b:Int,C 2 [.int a,.int b]=some (.int (drawn a b))) (n:Int) (ρ:En) (r0:ρ[0]?=some (some (.int n))):∀ (Ls:List (List (List Int))) (k:Nat),(∀ L∈Ls,∃ m,Lad m L) ->
  gather (turn C (.bin .Mod (.bin .FloorDiv (.call 2 (.cons (.var 2) (.cons (.var 0) .nil))) (.cst (.int 4))) (.blt .len (.cons (.var 1) .nil))) (.many [0,1]) 2 [0] .none ρ) (qP k (Ls.map eL))=some (eI (zb2 n k Ls))
 | [],k,_=>rfl
 | L::Ls,k,hL=>by
  obtain ⟨m,l⟩:=hL L (by simp);have ih:=zal C hC n ρ r0 Ls (k+1) λL h=>hL L (by simp [h])
  have pos:=l.ne;rw [List.map_cons,qP,gather,ih];simp only [turn,jay,setM,yj,List.replicate,List.map_cons,List.map_nil,List.length_cons,List.length_nil,if_true,List.set,List.cons_append,List.nil_append,wd,qao,r0,join_some];rw [qC (x:=.int (drawn n k/4)) (y:=.int (L.length:Int)) (qC (x:=.int (drawn n k)) (y:=.int 4) (je (x:=.int n) (y:=.int k) rfl rfl (hC n k)) rfl (qb6 (by decide))) (jk (x:=eL L) rfl (by rw [eL,zk,wD])) (yb6 (by omega))];rfl
theorem yc4 (C:Tab) (hC:∀ a b:Int,C 2 [.int a,.int b]=some (.int (drawn a b))) (n:Int) {Ls:List (List (List Int))} {rows:List (List Int)} {secs:List Int} (T:TabOk Ls rows secs):jC C qaH [.int n,eT Ls rows secs]=some (tI (zb2 n 0 Ls)):=by
 refine qc rfl (qe ?_);refine jk (yi (zck (x:=.tup (Ls.map eL)) (ji (x:=eT Ls rows secs) (y:=.int 0) rfl rfl rfl) rfl) (zal C hC n _ rfl Ls 0 T.lad)) rfl
theorem ybO (n:Int):∀ (Ls:List (List (List Int))) (k:Nat),(∀ L∈Ls,∃ m,Lad m L)->InB (zb2 n k Ls) (Ls.map λL=>(L.length:Int))
 | [],_,_=>⟨rfl,by simp [zb2]⟩
 | L::Ls,k,h=>by
  obtain ⟨m,l⟩:=h L (by simp)
  have:=l.ne
  exact InB_cons.mpr ⟨⟨Int.emod_nonneg _ (by omega),vd _ (by omega)⟩,ybO n Ls (k+1) λL hL=>h L (by simp [hL])⟩
end M
end
section
open PySem Eng LG
namespace M
noncomputable def qf:List (List (List Int))->List Int->List (List Int)
 | L::Ls,i::w=>L.getD i.toNat []::qf Ls w
 | _,_=>[]
noncomputable def jf:List (List Int)->List Int->List Int
 | s::ss,v::r=>s.getD v.toNat 0::jf ss r
 | _,_=>[]
noncomputable def zc (Ls:List (List (List Int))) (rows:List (List Int)) (w:List Int):List (List Int):=rows.map (jf (qf Ls w))
def zL (Ls:List (List (List Int))) (w:List Int):Prop:=InB w (Ls.map λL=>(L.length:Int))
def Fits:List (List Int)->List Int->Prop
 | s::ss,v::r=>(0<=v/\v<(s.length:Int))/\Fits ss r
 | [],[]=>True
 | _,_=>False
theorem Lad.at {m:Nat} {L:List (List Int)} (h:Lad m L) {i:Int} (h0:0<=i) (h1:i<(L.length:Int)):L[i.toNat]?=some (L.getD i.toNat [])/\okS m (L.getD i.toNat [])=true:=by
 have hi:i.toNat<L.length:=by omega
 have e:L[i.toNat]?=some (L.getD i.toNat []):=by simp [List.getD,hi]
 exact ⟨e,h.ok _ (wR e)⟩
theorem Lad.m_len {m:Nat} {L:List (List Int)} (h:Lad m L):(L.headD []).length=m:=by rw [h.head];simp
theorem fits_of:∀ {Ls:List (List (List Int))} {w r:List Int},(∀ L∈Ls,∃ m,Lad m L)->zL Ls w->RowOk r Ls->Fits (qf Ls w) r
 | [],[],[],_,_,_=>trivial
 | [],[],_::_,_,_,h=>by cases h
 | [],_::_,_,_,h,_=>by have:=h.1;simp at this
 | L::Ls,[],_,_,h,_=>by have:=h.1;simp at this
 | L::Ls,i::w,[],_,_,h=>by cases h
 | L::Ls,i::w,v::r,hL,hw,hr=>by
  obtain ⟨m,lad⟩:=hL L (by simp);have hw':=InB_cons.mp (show InB (i::w) ((L.length:Int)::Ls.map λL=>(L.length:Int)) from hw);obtain ⟨e,ok⟩:=lad.at hw'.1.1 hw'.1.2;have hr':(0<=v/\v<((L.headD []).length:Int))/\RowOk r Ls:=hr;rw [lad.m_len] at hr';refine ⟨?_,fits_of (λL hL'=>hL L (by simp [hL'])) hw'.2 hr'.2⟩;rw [(okS_iff.mp ok).1];exact hr'.1
noncomputable def qal:Def:=⟨2,2,(.cons (.ret (.comp (.idx (.var 0) (.var 1)) (.many [0,1]) 2 [] (.zip (.idx (.var 0) (.cst (.int 0))) (.var 1)) .none)) .nil)⟩
noncomputable def qac:Def:=⟨2,2,(.cons (.ret (.blt .tuple (.cons (.comp (.idx (.var 0) (.var 1)) (.many [0,1]) 2 [] (.zip (.var 0) (.var 1)) .none) .nil))) .nil)⟩
noncomputable def jbO (i6 i7:Nat):Def:=⟨3,2,(.cons (.set .pu (.one 2) (.call i7 (.cons (.var 0) (.cons (.var 1) .nil)))) (.cons (.ret (.blt .tuple (.cons (.comp (.call i6 (.cons (.var 1) (.cons (.var 0) .nil))) (.one 0) 1 [2] (.data (.idx (.var 0) (.cst (.int 1)))) .none) .nil))) .nil))⟩
theorem at0 {x y z:D}:atI [x,y,z] 0=some x:=rfl
theorem at1 {x y z:D}:atI [x,y,z] 1=some y:=rfl
theorem at2 {x y z:D}:atI [x,y,z] 2=some z:=rfl
theorem qaV (C:Tab) (ρ:En) {f:D->D->Option D} (hf:∀ x y,jam x y=f x y):∀ {xs ys rs:List D},(∀ (i:Nat) (x y:D),xs[i]?=some x->ys[i]?=some y->∃ r,rs[i]?=some r/\jam x y=some r)->rs.length=min xs.length ys.length ->
  gather (turn C (.idx (.var 0) (.var 1)) (.many [0,1]) 2 [] .none ρ) (jaO xs ys)=some rs
 | [],ys,rs,_,hl=>by
  have:rs=[]:=List.length_eq_zero_iff.mp (by simpa using hl)
  subst this;cases ys<;>rfl
 | _::_,[],rs,_,hl=>by
  have:rs=[]:=List.length_eq_zero_iff.mp (by simpa using hl)
  subst this;rfl
 | x::xs,y::ys,rs,h,hl=>by
  obtain ⟨r0,e0,e1⟩:=h 0 x y rfl rfl;cases rs with
  | nil=>cases e0
  | cons r rs =>
   have e0':r=r0:=wB e0;subst e0';have ih:=qaV C ρ hf (xs:=xs) (ys:=ys) (rs:=rs) (λi x y a b=>h (i+1) x y (by simpa using a) (by simpa using b)) (by simp at hl;omega)
   have t0:turn C (.idx (.var 0) (.var 1)) (.many [0,1]) 2 [] .none ρ (.tup [x,y])=some (some r):=by
    show ((ev C (.idx (.var 0) (.var 1)) [some x,some y]).map some)=_;rw [ji (x:=x) (y:=y) rfl rfl e1];rfl
   show gather _ (.tup [x,y]::jaO xs ys)=_;rw [gather,t0,wd,ih];rfl
theorem qL:∀ (Ls:List (List (List Int))) (w:List Int) (i:Nat) (L:List (List Int)) (j:Int),Ls[i]?=some L->w[i]?=some j->(qf Ls w)[i]?=some (L.getD j.toNat [])
 | [],_,_,_,_,h,_=>by simp at h
 | _::_,[],_,_,_,_,h=>by simp at h
 | L::Ls,k::w,0,_,_,h1,h2=>by simp at h1 h2;subst h1;subst h2;rfl
 | L::Ls,k::w,i+1,L',j,h1,h2=>qL Ls w i L' j (by simpa using h1) (by simpa using h2)
theorem zB:∀ (Ls:List (List (List Int))) (w:List Int),(qf Ls w).length=min Ls.length w.length
 | [],w=>by cases w<;>rfl
 | _::_,[]=>rfl
 | L::Ls,k::w=>by simp [qf,zB Ls w]
theorem jF:∀ (ss:List (List Int)) (r:List Int) (i:Nat) (s:List Int) (v:Int),ss[i]?=some s->r[i]?=some v->(jf ss r)[i]?=some (s.getD v.toNat 0)
 | [],_,_,_,_,h,_=>by simp at h
 | _::_,[],_,_,_,_,h=>by simp at h
 | s::ss,k::w,0,_,_,h1,h2=>by simp at h1 h2;subst h1;subst h2;rfl
 | s::ss,k::w,i+1,s',j,h1,h2=>jF ss w i s' j (by simpa using h1) (by simpa using h2)
theorem zG:∀ (ss:List (List Int)) (r:List Int),(jf ss r).length=min ss.length r.length
 | [],w=>by cases w<;>rfl
 | _::_,[]=>rfl
 | L::Ls,k::w=>by simp [jf,zG Ls w]
theorem qcz {Ls:List (List (List Int))} {w:List Int} (h:zL Ls w) {i:Nat} {L:List (List Int)} {j:Int} (h1:Ls[i]?=some L) (h2:w[i]?=some j):0<=j/\j<(L.length:Int):=by
 have hi:=(wq.mp h2).1
 have:=h.2 i hi
 simpa [List.getD,h1,h2] using this
theorem jaI (C:Tab) {Ls:List (List (List Int))} {rows:List (List Int)} {secs:List Int} (T:TabOk Ls rows secs) {w:List Int} (W:zL Ls w):jC C qal [eT Ls rows secs,tI w]=some (.lst ((qf Ls w).map tI)):=by
 refine qc rfl ?_;refine qe (yi (zdL (ji rfl rfl at0) rfl rfl rfl) ?_);refine qaV C _ (f:=jam) (λ_ _=>rfl) (λi x y hx hy=>?_) (by simp [zB,qp]);rw [wx] at hx;obtain ⟨L,hL,rfl⟩:=Option.map_eq_some_iff.mp hx;rw [eI,wx] at hy;obtain ⟨j,hj,rfl⟩:=Option.map_eq_some_iff.mp hy;have b:=qcz W hL hj;obtain ⟨m,lad⟩:=T.lad L (wR hL);obtain ⟨e,_⟩:=lad.at b.1 b.2;refine ⟨tI (L.getD j.toNat []),by rw [wx,qL Ls w i L j hL hj];rfl,?_⟩;show atI (L.map tI) j=_;exact zx b.1 (by rw [wx,e];rfl)
theorem yaV:∀ {ss:List (List Int)} {r:List Int},Fits ss r->ss.length=r.length/\∀ (i:Nat) (s:List Int) (v:Int),ss[i]?=some s->r[i]?=some v->0<=v/\v<(s.length:Int)
 | [],[],_=>⟨rfl,λi s v h=>by simp at h⟩
 | [],_::_,h=>by cases h
 | _::_,[],h=>by cases h
 | s::ss,v::r,h=>by
  obtain ⟨l,f⟩:=yaV h.2;refine ⟨by simp [l],λi s' v' h1 h2=>?_⟩;cases i with
  | zero=>simp at h1 h2;subst h1;subst h2;exact h.1
  | succ i=>exact f i s' v' (by simpa using h1) (by simpa using h2)
theorem jav (C:Tab) {ss:List (List Int)} {r:List Int} (h:Fits ss r):jC C qac [.lst (ss.map tI),tI r]=some (tI (jf ss r)):=by
 obtain ⟨hl,f⟩:=yaV h;refine qc rfl ?_;refine qe (jk (yi (zdL rfl rfl rfl rfl) (qaV C _ (f:=jam) (λ_ _=>rfl) (rs:=eI (jf ss r)) (λi x y hx hy=>?_) (by simp [qp,zG]))) rfl);rw [wx] at hx;obtain ⟨s,hs,rfl⟩:=Option.map_eq_some_iff.mp hx;rw [eI,wx] at hy;obtain ⟨v,hv,rfl⟩:=Option.map_eq_some_iff.mp hy;have b:=f i s v hs hv;refine ⟨.int (s.getD v.toNat 0),by rw [eI,wx,jF ss r i s v hs hv];rfl,?_⟩;show atI (eI s) v=_;exact zx b.1 (by rw [eI,wx];simp [List.getD,show v.toNat<s.length by omega])
theorem yg {f:D->Option (Option D)} {α:Type} {g h:α->D}:∀ (xs:List α),(∀ x∈xs,f (g x)=some (some (h x)))->gather f (xs.map g)=some (xs.map h)
 | [],_=>rfl
 | x::xs,q=>by
  rw [List.map_cons,gather,q x (by simp),wd,yg xs λy hy=>q y (by simp [hy])];rfl
theorem zbP (C:Tab) {i6 i7:Nat} {Ls:List (List (List Int))} {rows:List (List Int)} {secs:List Int} (T:TabOk Ls rows secs) {w:List Int} (W:zL Ls w) (h7:C i7 [eT Ls rows secs,tI w]=some (.lst ((qf Ls w).map tI)))
  (h6:∀ r∈rows,C i6 [.lst ((qf Ls w).map tI),tI r]=some (tI (jf (qf Ls w) r))):jC C (jbO i6 i7) [eT Ls rows secs,tI w]=some (.tup ((zc Ls rows w).map tI)):=by
 refine qc rfl ?_;refine qg (je rfl rfl h7) rfl ?_;refine qe (jk (yi (zj (ji rfl rfl at1) rfl) (yg (g:=tI) (h:=λr=>tI (jf (qf Ls w) r)) rows λr hr=>?_)) ?_)
 ·show ((ev C (.call i6 (.cons (.var 1) (.cons (.var 0) .nil))) [some (tI r),some (.lst ((qf Ls w).map tI))]).map some)=_;rw [je rfl rfl (h6 r hr)];rfl
 ·show some (D.tup _)=_;rw [zc,wJ];rfl
end M
end
section
open PySem Eng LG
namespace M
noncomputable def jg (S:List (List Int)):List (List Int):=S.foldl (λks x=>if x∈ks then ks else ks++[x]) []
noncomputable def yu (S:List (List Int)) (k:List Int):List Int:=((List.range S.length).filter λi=>S.getD i []==k).map Int.ofNat
noncomputable def jdL:Nat->List (List Int×List D)->List (List Int)->List (List Int×List D)
 | _,es,[]=>es
 | k,es,x::S=>jdL (k+1) (yT x (.int (k:Int)) es) S
theorem zo (A:List (List Int)) (x:List Int):jg (A++[x])=if x∈jg A then jg A else jg A++[x]:=by
 unfold jg;rw [List.foldl_append];rfl
theorem snoc_ind {α:Type} {P:List α->Prop} (h0:P []) (h1:∀ A x,P A->P (A++[x])) (l:List α):P l:=by
 have:∀ n (l:List α),l.length=n->P l:=by
  intro n
  induction n with
  | zero=>intro l hl;have:l=[]:=List.length_eq_zero_iff.mp hl;rw [this];exact h0
  | succ n ih =>
   intro l hl;have hne:l≠[]:=λz=>by rw [z] at hl;simp at hl
   rw [<-List.dropLast_concat_getLast hne];exact h1 _ _ (ih _ (by simp [hl]))
 exact this l.length l rfl
theorem yy {k:List Int} (A:List (List Int)):k∈jg A↔k∈A:=by
 induction A using snoc_ind with
 | h0=>simp [jg]
 | h1 A x ih =>
  rw [zo];split
  ·rename_i h;rw [ih];simp only [List.mem_append,va]
   constructor
   ·exact .inl
   ·rintro (q | q)
    ·exact q
    ·subst q;exact ih.mp h
  ·simp only [List.mem_append,va,ih]
theorem zaJ (A:List (List Int)):(jg A).Nodup:=by
 induction A using snoc_ind with
 | h0=>exact List.Pairwise.nil
 | h1 A x ih =>
  rw [zo];split
  ·exact ih
  ·rename_i h;rw [List.nodup_append];refine ⟨ih,by simp,λa ha b hb=>?_⟩
   have:b=x:=by simpa using hb
   rw [this];exact λz=>h (z▸ha)
theorem qbP (A:List (List Int)) (x k:List Int):yu (A++[x]) k=if x=k then yu A k++[(A.length:Int)] else yu A k:=by
 unfold yu;rw [wU,List.length_singleton,List.range_succ,List.filter_append]
 have e1:(List.range A.length).filter (λi=>(A++[x]).getD i []==k)=(List.range A.length).filter λi=>A.getD i []==k:=by
  apply List.filter_congr;intro i hi;have hi:i<A.length:=ve.mp hi;simp [List.getD,vi hi]
 have e2:(A++[x]).getD A.length []=x:=by simp [List.getD]
 rw [e1]
 by_cases h:x=k
 ·rw [if_pos h,List.filter_cons_of_pos (by rw [e2,h];simp)];simp
 ·rw [if_neg h,List.filter_cons_of_neg (by rw [e2];simpa using h)];simp
theorem ybP {A:List (List Int)} {k:List Int} (h:k∉A):yu A k=[]:=by
 unfold yu;rw [List.filter_eq_nil_iff.mpr];rfl
 intro i hi;have hi:i<A.length:=ve.mp hi;simp only [vm];intro e;exact h (by rw [<-e];simp [List.getD,hi])
theorem jbP {x:List Int} {d:D} {f:List Int->List D}:∀ (ks:List (List Int)),ks.Nodup->x∈ks->yT x d (ks.map λk=>(k,f k))=ks.map λk=>(k,if x=k then f k++[d] else f k)
 | [],_,h=>by cases h
 | k::ks,hn,h=>by
  rw [List.nodup_cons] at hn;rw [List.map_cons,List.map_cons,yT]
  by_cases e:k=x
  ·rw [if_pos e]
   have rest:ks.map (λk=>(k,f k))=ks.map λk=>(k,if x=k then f k++[d] else f k):=vh λy hy=>by
    rw [if_neg (λz=>hn.1 (by rw [e,z];exact hy))]
   rw [if_pos e.symm,rest]
  ·rw [if_neg e,if_neg (λz=>e z.symm),jbP ks hn.2 (by rcases wu.mp h with q | q;exact absurd q.symm e;exact q)]
theorem ja9 {x:List Int} {d:D} {f:List Int->List D}:∀ (ks:List (List Int)),x∉ks->yT x d (ks.map λk=>(k,f k))=(ks.map λk=>(k,f k))++[(x,[d])]
 | [],_=>rfl
 | k::ks,h=>by
  rw [wu,not_or] at h;rw [List.map_cons,yT,if_neg (λz=>h.1 z.symm),ja9 ks h.2];rfl
theorem zba:∀ (S A:List (List Int)),jdL A.length ((jg A).map λk=>(k,eI (yu A k))) S=(jg (A++S)).map λk=>(k,eI (yu (A++S) k))
 | [],A=>by rw [List.append_nil];rfl
 | x::S,A=>by
  have step:yT x (.int (A.length:Int)) ((jg A).map λk=>(k,eI (yu A k)))=(jg (A++[x])).map λk=>(k,eI (yu (A++[x]) k)):=by
   have e:∀ k,eI (yu (A++[x]) k)=if x=k then eI (yu A k)++[.int (A.length:Int)] else eI (yu A k):=λk=>by
    rw [qbP]
    by_cases h:x=k
    ·rw [if_pos h,if_pos h];simp [eI]
    ·rw [if_neg h,if_neg h]
   rw [zo]
   by_cases h:x∈jg A
   ·rw [if_pos h,jbP _ (zaJ A) h];exact vh λk _=>by rw [e k]
   ·rw [if_neg h,ja9 _ h,List.map_append];have hA:x∉A:=λz=>h ((yy A).mpr z)
    have r1:(jg A).map (λk=>(k,eI (yu A k)))=(jg A).map λk=>(k,eI (yu (A++[x]) k)):=vh λk hk=>by
     rw [e k,if_neg (λz=>h (by rw [z];exact hk))]
    rw [r1,List.map_singleton,e x,if_pos rfl,ybP hA];rfl
  rw [jdL,step]
  have:=zba S (A++[x])
  rw [wU,List.length_singleton,List.append_assoc] at this;exact this
theorem jc4 (S:List (List Int)):jdL 0 [] S=(jg S).map λk=>(k,eI (yu S k)):=zba S []
noncomputable def qu (S:List (List Int)):List (List Int):=(jg S).map (yu S)
noncomputable def eC (S:List (List Int)):D:=.tup ((qu S).map tI)
noncomputable def yp:Stms:=(.cons (.grp 2 (.var 4) (.var 3)) .nil)
noncomputable def qaJ (i8:Nat):Def:=⟨5,2,(.cons (.newd 2) (.cons (.for (.many [3,4]) (.enu (.call i8 (.cons (.var 0) (.cons (.var 1) .nil)))) yp) (.cons (.ret (.blt .tuple (.cons (.comp (.blt .tuple (.cons (.var 0) .nil)) (.one 0) 1 [] (.vals (.var 2)) .none) .nil))) .nil)))⟩
theorem zc5 {x:List Int} {d:D} {n:Nat}:∀ (es:List (List Int×List D)),es.length<=n->(∀ e∈es,e.2.length<=n)->(yT x d es).length<=n+1/\∀ e∈yT x d es,e.2.length<=n+1
 | [],_,_=>by simp [yT]
 | (k,ds)::r,h1,h2=>by
  have hd:=h2 (k,ds) (by simp);rw [yT];split
  ·refine ⟨by simp at h1 ⊢;omega,λe he=>?_⟩;rcases wu.mp he with q | q
   ·rw [q];simp at hd ⊢;omega
   ·exact Nat.le_succ_of_le (h2 e (by simp [q]))
  ·have ih:∀ (r:List (List Int×List D)) (m:Nat),r.length<=m->(∀ e∈r,e.2.length<=n)->(yT x d r).length<=m+1/\∀ e∈yT x d r,e.2.length<=n+1:=by
    intro r
    induction r with
    | nil=>intro m _ _;simp [yT]
    | cons e r ih =>
     intro m h1 h2;obtain ⟨k,ds⟩:=e;rw [yT];split
     ·refine ⟨by simp at h1 ⊢;omega,λe he=>?_⟩;rcases wu.mp he with q | q
      ·rw [q];have:=h2 (k,ds) (by simp);simp at this ⊢;omega
      ·exact Nat.le_succ_of_le (h2 e (by simp [q]))
     ·simp at h1;obtain ⟨a,b⟩:=ih (m-1) (by omega) λe he=>h2 e (by simp [he])
      refine ⟨by simp;omega,λe he=>?_⟩;rcases wu.mp he with q | q
      ·rw [q];have:=h2 (k,ds) (by simp);simp at this ⊢;omega
      ·exact b e q
   simp at h1;obtain ⟨a,b⟩:=ih r (n-1) (by omega) λe he=>h2 e (by simp [he])
   refine ⟨by simp;omega,λe he=>?_⟩;rcases wu.mp he with q | q
   ·rw [q];simp at hd ⊢;omega
   ·exact b e q
theorem qba (C:Tab) (t w:D):∀ (S:List (List Int)) (k:Nat) (es:List (List Int×List D)) (y3 y4:Sl),k+S.length<=200->es.length<=k->(∀ e∈es,e.2.length<=k) ->
  ∃ y3' y4',forL (λd ρ'=>(puT (.many [3,4]) d ρ').bind λρ''=>exs C yp ρ'') (qP k (S.map tI)) [.pu t,.pu w,.gr es,y3,y4]=some (.nx [.pu t,.pu w,.gr (jdL k es S),y3',y4'])
 | [],k,es,y3,y4,_,_,_=>⟨y3,y4,rfl⟩
 | x::S,k,es,y3,y4,hs,h1,h2=>by
  have hs':k+(S.length+1)<=200:=hs;obtain ⟨b1,b2⟩:=zc5 (x:=x) (d:=.int (k:Int)) es h1 h2
  have turn1:(puT (.many [3,4]) (.tup [.int (k:Int),tI x]) [Sl.pu t,.pu w,.gr es,y3,y4]).bind (λρ''=>exs C yp ρ'')=some (.nx [.pu t,.pu w,.gr (yT x (.int (k:Int)) es),.pu (.int (k:Int)),.pu (tI x)]):=by
   show exs C yp [.pu t,.pu w,.gr es,.pu (.int (k:Int)),.pu (tI x)]=_;unfold yp;rw [exs,ex];show (((qdS (tI x)).bind λns=>zde 2 ns (.int (k:Int)) [Sl.pu t,.pu w,.gr es,.pu (.int (k:Int)),.pu (tI x)]).bind _)=_;rw [show qdS (tI x)=some x from jm x,wd];unfold zde;show ((if es.length<1000/\(∀ e∈es,e.2.length<1000) then _ else _):Option Fl).bind _=_;rw [if_pos ⟨by omega,λe he=>by have:=h2 e he;omega⟩];rfl
  obtain ⟨y3',y4',ih⟩:=qba C t w S (k+1) (yT x (.int (k:Int)) es) (.pu (.int (k:Int))) (.pu (tI x)) (by omega) b1 b2;refine ⟨y3',y4',?_⟩;show forL _ (.tup [.int (k:Int),tI x]::qP (k+1) (S.map tI)) _=_;rw [forL,turn1,wd];exact ih
theorem jaV (C:Tab) {i8:Nat} {t w:D} {S:List (List Int)} (hS:S.length<=50) (h8:C i8 [t,w]=some (.tup (S.map tI))):jC C (qaJ i8) [t,w]=some (eC S):=by
 refine qc rfl ?_;show exs C (.cons (.newd 2) _) [.pu t,.pu w,.un,.un,.un]=_;rw [exs,ex];show ((if ([Sl.pu t,.pu w,.un,.un,.un]:List Sl).any Sl.isGr then none else some (Fl.nx [Sl.pu t,.pu w,.gr [],.un,.un]))).bind _=_;rw [if_neg (by simp [Sl.isGr]),wd];obtain ⟨y3,y4,h⟩:=qba C t w S 0 [] .un .un (by omega) (Nat.zero_le _) (λe he=>by cases he);rw [jc4] at h;refine jo (zck (je rfl rfl h8) rfl) h ?_;refine qe (jk (yi (ds:=(qu S).map λc=>.lst (eI c)) (rs:=(qu S).map tI) ?_ ?_) rfl)
 ·show some (((jg S).map λk=>(k,eI (yu S k))).map λe=>D.lst e.2)=_;rw [wJ,qu,wJ];rfl
 ·exact yg (g:=λc=>.lst (eI c)) (h:=tI) (qu S) λc _=>rfl
end M
end
section
open PySem Eng LG
namespace M
theorem zbQ {C:Tab} {ρ:En} {f:Blt} {a b:Eng.Code} {x y d:D} (h1:ev C a ρ=some x) (h2:ev C b ρ=some y) (h3:yz f [x,y]=some d):ev C (.blt f (.cons a (.cons b .nil))) ρ=some d:=by
 rw [qa0,yh,h1,wd,yh,h2,wd,jJ];exact h3
noncomputable def qj (secs c:List Int):List Int:=c.map λi=>secs.getD i.toNat 0
theorem yac {f:D->Option (Option D)} {α:Type} {g:α->D} {h:α->Int} (xs:List α) (q:∀ x∈xs,f (g x)=some (some (.int (h x)))):gather f (xs.map g)=some (eI (xs.map h)):=by
 rw [yg (g:=g) (h:=λx=>.int (h x)) xs q,eI,wJ];rfl
theorem zbk {f:D->Option (Option D)} {α:Type} {g:α->D} {h:α->Bool} (xs:List α) (q:∀ x∈xs,f (g x)=some (some (.bl (h x)))):gather f (xs.map g)=some ((xs.map h).map D.bl):=by
 rw [yg (g:=g) (h:=λx=>.bl (h x)) xs q,wJ];rfl
noncomputable def jec (s:List Int) (x:Int):Nat:=s.countP λy=>y==x
theorem qbQ (x:Int):∀ s:List Int,qbm (.int x) (eI s)=jec s x
 | []=>rfl
 | y::s=>by
  show (if eqD (.int y) (.int x) then 1 else 0)+qbm (.int x) (eI s)=_;rw [qbQ x s,jec,jec,List.countP_cons,Nat.add_comm];rfl
end M
end
section
open PySem Eng LG
namespace M
theorem mem_idxI {S:List (List Int)} {k:List Int} {x:Int}:x∈yu S k↔∃ i,i<S.length/\x=(i:Int)/\S.getD i []=k:=by
 unfold yu;simp only [wH,List.mem_filter,ve,vm];constructor
 ·rintro ⟨i,⟨h1,h2⟩,rfl⟩;exact ⟨i,h1,rfl,h2⟩
 ·rintro ⟨i,h1,rfl,h2⟩;exact ⟨i,⟨h1,h2⟩,rfl⟩
theorem mem_clsL {S:List (List Int)} {c:List Int}:c∈qu S↔∃ i,i<S.length/\c=yu S (S.getD i []):=by
 unfold qu;simp only [wH];constructor
 ·rintro ⟨k,hk,rfl⟩;obtain ⟨i,hi,e⟩:=List.mem_iff_getElem.mp ((yy S).mp hk);exact ⟨i,hi,by simp [List.getD,hi,e]⟩
 ·rintro ⟨i,hi,rfl⟩;exact ⟨S.getD i [],(yy S).mpr (by simp [List.getD,hi]),rfl⟩
end M
end
section
open PySem Eng LG
namespace M
theorem yal:∀ (n:Nat) (lo:Nat),jb (lo:Int) n=(List.range' lo n).map λ(s:Nat)=>D.int (s:Int)
 | 0,_=>rfl
 | n+1,lo=>by
  have:=yal n (lo+1)
  rw [jb,List.range'_succ,List.map_cons,<-this];rfl
theorem yaJ (n:Nat):jb 0 n=(List.range n).map λ(s:Nat)=>D.int (s:Int):=by
 rw [List.range_eq_range'];exact yal n 0
theorem ybQ {n:Nat} (h:n<=1000):rngD [.int (n:Int)]=some ((List.range n).map λ(s:Nat)=>D.int (s:Int)):=by
 simp only [rngD];rw [if_pos ⟨by omega,by omega,qd (by rw [wV];exact h)⟩,wV,yaJ]
end M
end
section
open PySem Eng LG
namespace M
theorem yc {f:D->Option (Option D)} {α:Type} {g:α->D} {p:α->Bool}:∀ (xs:List α),(∀ x∈xs,f (g x)=some (if p x then some (g x) else none))->gather f (xs.map g)=some ((xs.filter p).map g)
 | [],_=>rfl
 | x::xs,h=>by
  rw [List.map_cons,gather,h x (by simp),wd,yc xs λy hy=>h y (by simp [hy])];cases e:p x<;>simp [e]
theorem zU {C:Tab} {σ:List Sl} {i:Nat} {e:Eng.Code} {r:Stms} {d:D} {ds:List D} {v:Option Fl} (h:ev C e (vP σ)=some d) (h1:σ[i]?=some (.ow ds)) (hl:ds.length<900) (h2:exs C r (σ.set i (.ow (ds++[d])))=v):exs C (.cons (.app i .pu e) r) σ=v:=by
 rw [exs,ex];show ((ev C e (vP σ)).bind _).bind _=v;rw [h,wd,h1];show (if ds.length<sizeLine then _ else _:Option Fl).bind _=v;rw [if_pos (wL hl (qd (by decide))),wd];exact h2
theorem yV {C:Tab} {σ:List Sl} {i:Nat} {r:Stms} {v:Option Fl} (h2:exs C r (σ.set i (.ow []))=v):exs C (.cons (.set .ow (.one i) (.lst .nil)) r) σ=v:=by
 rw [exs,ex,show ev C (.lst .nil) (vA σ)=some (.lst []) from yaU qw (Nat.zero_le _),wd];exact h2
noncomputable def zY:Eng.Code:=(.idx (.idx (.idx (.idx (.var 1) (.cst (.int 0))) (.var 0)) (.idx (.var 2) (.var 0))) (.idx (.var 3) (.var 0)))
noncomputable def jbQ:Stms:=(.cons (.app 2 .pu (.blt .tuple (.cons (.comp zY (.one 0) 1 [0,1,3] (.rng (.cons (.blt .len (.cons (.var 3) .nil)) .nil)) .none) .nil))) .nil)
noncomputable def zbR:Def:=⟨4,2,(.cons (.set .ow (.one 2) (.lst .nil)) (.cons (.for (.one 3) (.data (.idx (.var 0) (.cst (.int 1)))) jbQ) (.cons (.ret (.var 2)) .nil)))⟩
theorem getD_some {s:List Int} {i:Nat} (h:i<s.length):s[i]?=some (s.getD i 0):=by simp [List.getD,h]
theorem qc5 {Ls:List (List (List Int))} {rows:List (List Int)} {secs:List Int} (T:TabOk Ls rows secs) {w:List Int} (W:zL Ls w) {r:List Int} (hr:RowOk r Ls) {k:Nat} (hk:k<r.length) :
  ∃ (L:List (List Int)) (s:List Int) (j v:Int),Ls[k]?=some L/\w[k]?=some j/\r[k]?=some v/\(qf Ls w)[k]?=some s/\atI (L.map tI) j=some (tI s)/\atI (eI s) v=some (.int (s.getD v.toNat 0))/\(jf (qf Ls w) r)[k]?=some (s.getD v.toNat 0):=by
 have F:=fits_of T.lad W hr;obtain ⟨hl,f⟩:=yaV F;have hw:w.length=Ls.length:=by have:=W.1;simpa using this
 have hs:(qf Ls w).length=Ls.length:=by rw [zB];omega
 have hkL:k<Ls.length:=by omega
 have eL':Ls[k]?=some Ls[k]:=by simp [hkL]
 have ew:w[k]?=some (w[k]'(by omega)):=by simp [show k<w.length by omega]
 have er:r[k]?=some r[k]:=by simp [hk]
 have es:=qL Ls w k _ _ eL' ew;have b:=qcz W eL' ew;obtain ⟨m,lad⟩:=T.lad _ (wR eL');obtain ⟨e,_⟩:=lad.at b.1 b.2;have fv:=f k _ _ es er;refine ⟨_,_,_,_,eL',ew,er,es,?_,?_,jF _ _ k _ _ es er⟩
 ·exact zx b.1 (by rw [wx,e];rfl)
 ·exact zx fv.1 (by rw [eI,wx,getD_some (by omega)];rfl)
theorem qbR (C:Tab) {Ls:List (List (List Int))} {rows:List (List Int)} {secs:List Int} (T:TabOk Ls rows secs) {w:List Int} (W:zL Ls w) {r:List Int} (hr:RowOk r Ls) {k:Nat} (hk:k<r.length) :
  ev C zY [some (.int (k:Int)),some (eT Ls rows secs),some (tI w),some (tI r)]=some (.int ((jf (qf Ls w) r).getD k 0)):=by
 obtain ⟨L,s,j,v,e1,e2,e3,e4,e5,e6,e7⟩:=qc5 T W hr hk;have a1:atI (Ls.map eL) (k:Int)=some (eL L):=yab (by rw [wx,e1];rfl);have a2:atI (eI w) (k:Int)=some (.int j):=yab (by rw [eI,wx,e2];rfl);have a3:atI (eI r) (k:Int)=some (.int v):=yab (by rw [eI,wx,e3];rfl);refine ji (x:=tI s) (y:=.int v) (ji (x:=eL L) (y:=.int j) (ji (x:=.tup (Ls.map eL)) (y:=.int (k:Int)) (ji (x:=eT Ls rows secs) (y:=.int 0) rfl rfl at0) rfl a1) (ji (x:=tI w) (y:=.int (k:Int)) rfl rfl a2) e5) (ji (x:=tI r) (y:=.int (k:Int)) rfl rfl a3) ?_;show atI (eI s) v=_;rw [e6,show (jf (qf Ls w) r).getD k 0=s.getD v.toNat 0 by rw [wO,e7];rfl]
theorem yae {xs:List Int} {n:Nat} (h:xs.length=n):(List.range n).map (λk=>xs.getD k 0)=xs:=by
 subst h;apply List.ext_getElem?;intro i;rw [wx]
 by_cases hi:i<xs.length
 ·simp [hi,List.getD]
 ·simp [hi]
theorem yc5 {r:List Int} {Ls:List (List (List Int))} (h:RowOk r Ls):r.length=Ls.length:=by
 have:=(row_iff.mp h).1;simpa [jdc] using this
theorem jc5 (C:Tab) {Ls:List (List (List Int))} {rows:List (List Int)} {secs:List Int} (T:TabOk Ls rows secs) {w:List Int} (W:zL Ls w) {r:List Int} (hr:RowOk r Ls) (ρ:En) (h0:ρ[0]?=some (some (eT Ls rows secs))) (h1:ρ[1]?=some (some (tI w))) (h3:ρ[3]?=some (some (tI r))) :
  ev C (.blt .tuple (.cons (.comp zY (.one 0) 1 [0,1,3] (.rng (.cons (.blt .len (.cons (.var 3) .nil)) .nil)) .none) .nil)) ρ=some (tI (jf (qf Ls w) r)):=by
 have hrl:=yc5 hr
 have hlen:(jf (qf Ls w) r).length=r.length:=by
  have hw:w.length=Ls.length:=by have:=W.1;simpa using this
  rw [zG,zB];omega
 refine jk (yi (qaI (jk (x:=tI r) (by rw [qbt,h3];rfl) (zcz r)) (ybQ (by have:=T.c3;omega))) (yac (h:=λk=>(jf (qf Ls w) r).getD k 0) (List.range r.length) λk hk=>?_)) ?_
 ·have hb:jay (.one 0) (.int (k:Int)) (yj 1 [0,1,3] ρ)=some [some (.int (k:Int)),some (eT Ls rows secs),some (tI w),some (tI r)]:=by
   show some (([none]++[(ρ[0]?).join,(ρ[1]?).join,(ρ[3]?).join]).set 0 (some (.int (k:Int))))=_;rw [h0,h1,h3];rfl
  unfold turn;rw [hb,wd];show ((ev C zY [some (.int (k:Int)),some (eT Ls rows secs),some (tI w),some (tI r)]).map some)=_;rw [qbR C T W hr (ve.mp hk)];rfl
 ·rw [yae hlen];rfl
theorem zaw (C:Tab) {Ls:List (List (List Int))} {rows:List (List Int)} {secs:List Int} (T:TabOk Ls rows secs) {w:List Int} (W:zL Ls w):jC C zbR [eT Ls rows secs,tI w]=some (.lst ((zc Ls rows w).map tI)):=by
 refine qc rfl ?_;refine yV ?_
 have loop:∀ (R:List (List Int)) (A:List D) (y3:Sl),(∀ r∈R,RowOk r Ls)->A.length+R.length<=100->∃ y3',forL (λd ρ'=>(puT (.one 3) d ρ').bind λρ''=>exs C jbQ ρ'') (R.map tI) [.pu (eT Ls rows secs),.pu (tI w),.ow A,y3]=some (.nx [.pu (eT Ls rows secs),.pu (tI w),.ow (A++(zc Ls R w).map tI),y3']):=by
  intro R
  induction R with
  | nil=>intro A y3 _ _;exact ⟨y3,by simp [zc,forL]⟩
  | cons r R ih =>
   intro A y3 hR hl;have hl':A.length+(R.length+1)<=100:=hl;obtain ⟨y3',e⟩:=ih (A++[tI (jf (qf Ls w) r)]) (.pu (tI r)) (λr h=>hR r (by simp [h])) (by simp;omega);refine ⟨y3',?_⟩
   have t1:(puT (.one 3) (tI r) [Sl.pu (eT Ls rows secs),.pu (tI w),.ow A,y3]).bind (λρ''=>exs C jbQ ρ'')=some (.nx [.pu (eT Ls rows secs),.pu (tI w),.ow (A++[tI (jf (qf Ls w) r)]),.pu (tI r)]):=by
    rw [show puT (.one 3) (tI r) [Sl.pu (eT Ls rows secs),.pu (tI w),.ow A,y3]=some [Sl.pu (eT Ls rows secs),.pu (tI w),.ow A,.pu (tI r)] from rfl,wd];exact zU (jc5 C T W (hR r (by simp)) _ rfl rfl rfl) rfl (by omega) rfl
   rw [List.map_cons,forL,t1,wd];rw [List.append_assoc] at e;exact e
 obtain ⟨y3,e⟩:=loop rows [] .un T.row (by have:=T.r8;simp;omega);refine jo (zj (ji rfl rfl at1) rfl) e ?_;exact qe rfl
theorem jaJ (x:List Int):∀ S:List (List Int),inD (tI x) (S.map tI)=decide (x∈S)
 | []=>by simp [inD]
 | y::S=>by
  show (eqD (tI y) (tI x)||inD (tI x) (S.map tI))=_;rw [jaJ x S,yaH]
  by_cases e:y=x
  ·subst e;simp
  ·have:¬ x=y:=λz=>e z.symm
   simp [e,this]
theorem zaW (S:List (List Int)):zM (S.map tI)=true:=qbO λd hd=>by
 obtain ⟨s,_,rfl⟩:=wH.mp hd;exact zac s
theorem zc6 (S:List (List Int)):qbl (S.map tI)<=1:=by
 induction S with
 | nil=>simp [qbl]
 | cons x S ih=>simp [qbl,tI,dep,zaU] at ih ⊢;omega
theorem yck (S:List (List Int)):dep (.lst (S.map tI))<=2:=by have:=zc6 S;simp [dep];omega
theorem qc6 (x:List Int) (S:List (List Int)):yC .In (tI x) (.lst (S.map tI))=some (decide (x∈S)):=by
 show (if zC (tI x) (.lst (S.map tI)) then some (inD (tI x) (S.map tI)) else none)=_;rw [if_pos (yaI (y:=.lst (S.map tI)) (zac x) (zaW S) (by have:=yck S;omega)),jaJ]
theorem qS (x:List Int) (S:List (List Int)):yC .NotIn (tI x) (.lst (S.map tI))=some (!decide (x∈S)):=by
 have:=qc6 x S
 show (inC (tI x) (.lst (S.map tI))).map not=_;rw [show inC (tI x) (.lst (S.map tI))=some (decide (x∈S)) from this];rfl
theorem zed (xs ys:List Int):yC .Eq (tI xs) (tI ys)=some (decide (xs=ys)):=by rw [jcs (qaU xs ys),yaH]
noncomputable def ybR:Stms:=(.cons (.ite (.cmp .NotIn (.var 5) (.slc (.var 2) .none (.some (.var 4)))) (.cons (.app 3 .pu (.blt .tuple (.cons (.comp (.var 0) (.one 0) 1 [2,5] (.rng (.cons (.blt .len (.cons (.var 2) .nil)) .nil)) (.some (.cmp .Eq (.idx (.var 1) (.var 0)) (.var 2)))) .nil))) .nil) .nil) .nil)
noncomputable def zaK (i28:Nat):Def:=⟨6,2,(.cons (.set .pu (.one 2) (.call i28 (.cons (.var 0) (.cons (.var 1) .nil)))) (.cons (.set .ow (.one 3) (.lst .nil)) (.cons (.for (.many [4,5]) (.enu (.var 2)) ybR) (.cons (.ret (.var 3)) .nil))))⟩
theorem jck (S:List (List Int)) {k:Nat} (h:k<=S.length):jcC (.lst (S.map tI)) none (some (k:Int))=some (.lst ((S.take k).map tI)):=by
 show some (D.lst (cutD (S.map tI) none (some (k:Int))))=_;have e1:sIx (S.map tI).length 0 none=0:=rfl
 have e2:sIx (S.map tI).length (S.map tI).length (some (k:Int))=k:=by
  unfold sIx;simp only [];rw [if_neg (by omega),wV,wD];omega
 unfold cutD;rw [e1,e2,List.drop_zero,Nat.sub_zero,List.map_take]
theorem jbR (C:Tab) (S:List (List Int)) (x:List Int) (hS:S.length<=100) (ρ:En) (h2:ρ[2]?=some (some (.lst (S.map tI)))) (h5:ρ[5]?=some (some (tI x))) :
  ev C (.blt .tuple (.cons (.comp (.var 0) (.one 0) 1 [2,5] (.rng (.cons (.blt .len (.cons (.var 2) .nil)) .nil)) (.some (.cmp .Eq (.idx (.var 1) (.var 0)) (.var 2)))) .nil)) ρ=some (tI (yu S x)):=by
 refine jk (yi (qaI (jk (x:=.lst (S.map tI)) (by rw [qbt,h2];rfl) yD) (by rw [wD];exact ybQ (by omega))) (yc (p:=λk=>S.getD k []==x) (List.range S.length) λk hk=>?_)) ?_
 ·have hk:k<S.length:=ve.mp hk
  have hb:jay (.one 0) (.int (k:Int)) (yj 1 [2,5] ρ)=some [some (.int (k:Int)),some (.lst (S.map tI)),some (tI x)]:=by
   show some (([none]++[(ρ[2]?).join,(ρ[5]?).join]).set 0 (some (.int (k:Int))))=_;rw [h2,h5];rfl
  unfold turn;rw [hb,wd];show ((ev C (.cmp .Eq (.idx (.var 1) (.var 0)) (.var 2)) [some (.int (k:Int)),some (.lst (S.map tI)),some (tI x)]).bind truO).bind _=_;rw [jq (x:=tI (S.getD k [])) (ji (x:=.lst (S.map tI)) (y:=.int (k:Int)) rfl rfl (yab (by rw [wx];simp [List.getD,hk]))) rfl (zed _ _)];show (if decide (S.getD k []=x)=true then _ else _)=_
  by_cases e:S.getD k []=x
  ·rw [if_pos (decide_eq_true e),if_pos (by rw [e];simp)];rfl
  ·rw [if_neg (by simpa using e),if_neg (by simpa using e)]
 ·show some (D.tup _)=_;rw [yu,tI,eI,wJ];rfl
theorem jI (P:List (List Int)):(jg P).length<=P.length:=by
 induction P using snoc_ind with
 | h0=>exact wC _
 | h1 A x ih =>
  rw [zo];split
  ·simp;omega
  ·simp;omega
theorem jac (C:Tab) {i28:Nat} {t w:D} {S:List (List Int)} (hS:S.length<=50) (h28:C i28 [t,w]=some (.lst (S.map tI))):jC C (zaK i28) [t,w]=some (.lst ((qu S).map tI)):=by
 refine qc rfl ?_;refine qg (je rfl rfl h28) rfl (yV ?_)
 have loop:∀ (Q:List (List Int)) (P:List (List Int)) (y4 y5:Sl),S=P++Q->∃ y4' y5',forL (λd ρ'=>(puT (.many [4,5]) d ρ').bind λρ''=>exs C ybR ρ'') (qP P.length (Q.map tI)) [.pu t,.pu w,.pu (.lst (S.map tI)),.ow (((jg P).map (yu S)).map tI),y4,y5]=some (.nx [.pu t,.pu w,.pu (.lst (S.map tI)),.ow (((jg S).map (yu S)).map tI),y4',y5']):=by
  intro Q
  induction Q with
  | nil=>intro P y4 y5 e;rw [List.append_nil] at e;rw [e];exact ⟨y4,y5,rfl⟩
  | cons x Q ih =>
   intro P y4 y5 e;obtain ⟨y4',y5',e'⟩:=ih (P++[x]) (.pu (.int (P.length:Int))) (.pu (tI x)) (by rw [e];simp);have hP:P.length<=S.length:=by rw [e];simp
   have htk:S.take P.length=P:=by rw [e];simp
   refine ⟨y4',y5',?_⟩;have hfl:(jg P).length<=P.length:=jI P
   have t1:(puT (.many [4,5]) (.tup [.int (P.length:Int),tI x]) [Sl.pu t,.pu w,.pu (.lst (S.map tI)),.ow (((jg P).map (yu S)).map tI),y4,y5]).bind (λρ''=>exs C ybR ρ'')=some (.nx [.pu t,.pu w,.pu (.lst (S.map tI)),.ow (((jg (P++[x])).map (yu S)).map tI),.pu (.int (P.length:Int)),.pu (tI x)]):=by
    rw [show puT (.many [4,5]) (.tup [.int (P.length:Int),tI x]) [Sl.pu t,.pu w,.pu (.lst (S.map tI)),.ow (((jg P).map (yu S)).map tI),y4,y5]=some [Sl.pu t,.pu w,.pu (.lst (S.map tI)),.ow (((jg P).map (yu S)).map tI),.pu (.int (P.length:Int)),.pu (tI x)] from rfl,wd]
    have hc:ev C (.cmp .NotIn (.var 5) (.slc (.var 2) .none (.some (.var 4)))) (vA [Sl.pu t,.pu w,.pu (.lst (S.map tI)),.ow (((jg P).map (yu S)).map tI),.pu (.int (P.length:Int)),.pu (tI x)])=some (.bl (!decide (x∈P))):=by
     refine jq rfl (zc4 (x:=.lst (S.map tI)) rfl rfl (jaU (i:=(P.length:Int)) rfl) (jck S hP)) ?_;rw [htk];exact qS x P
    rw [zo]
    by_cases hx:x∈P
    ·rw [if_pos ((yy P).mpr hx)];rw [decide_eq_true hx] at hc;exact zq hc rfl
    ·rw [if_neg λz=>hx ((yy P).mp z)];rw [vk hx] at hc;refine zaV hc (zU (jbR C S x (by omega) _ rfl rfl) rfl (by simp;omega) rfl) ?_;rw [List.map_append,List.map_append];rfl
   show forL _ (.tup [.int (P.length:Int),tI x]::qP (P.length+1) (Q.map tI)) _=_;rw [forL,t1,wd];rw [wU,List.length_singleton] at e';exact e'
 obtain ⟨y4,y5,e⟩:=loop S [] .un .un rfl;refine jo (zck rfl rfl) e ?_;exact qe rfl
end M
end
section
namespace DL
def By (f:Nat->Int) (rows:List Nat) (left:List (List Int)) (pl:Nat->List Nat):Prop :=
 ∀ p l,left[p]?=some l->∀ x,rows.countP (λr=>decide (p∈pl r/\f r=x))<=l.count x
noncomputable def after (left:List (List Int)) (ps:List Nat) (s:Int):List (List Int):=left.mapIdx λp l=>if p∈ps then l.erase s else l
theorem zJ {P:Nat->Bool} {row:Nat}:∀ {rows:List Nat},rows.Nodup->row∈rows->rows.countP P=(rows.filter λr=>r != row).countP P+if P row then 1 else 0
 | [],_,h=>by cases h
 | a::r,n,h=>by
  rw [List.nodup_cons] at n;rcases wu.mp h with e | e
  ·subst e
   have:(r.filter λx=>x != row)=r:=List.filter_eq_self.mpr λx hx=>by simp;exact λz=>n.1 (z▸hx)
   rw [List.filter_cons_of_neg (by simp),this,List.countP_cons]
  ·have ne:a≠row:=λz=>n.1 (z▸e)
   rw [List.filter_cons_of_pos (by simpa using ne),List.countP_cons,List.countP_cons,zJ n.2 e];omega
theorem qG {P Q:Nat->Bool} {rows:List Nat} (h:∀ r∈rows,P r=Q r):rows.countP P=rows.countP Q:=by
 induction rows with
 | nil=>rfl
 | cons a r ih=>rw [List.countP_cons,List.countP_cons,ih λx hx=>h x (wI _ hx),h a wN]
theorem zbS {f:Nat->Int} {rows:List Nat} {left:List (List Int)} {pl:Nat->List Nat} {row:Nat} (n:rows.Nodup) (hr:row∈rows) (h:By f rows left pl) :
  (∀ p∈pl row,∀ l,left[p]?=some l->f row∈l)/\By f (rows.filter λr=>r != row) (after left (pl row) (f row)) pl:=by
 refine ⟨λp hp l hl=>?_,λp l hl x=>?_⟩
 ·have:=h p l hl (f row);rw [zJ n hr,if_pos (by simp [hp])] at this;exact List.count_pos_iff.mp (by omega)
 ·unfold after at hl;rw [List.getElem?_mapIdx] at hl;obtain ⟨m,hm,e⟩:=Option.map_eq_some_iff.mp hl
  have:=h p m hm x
  rw [zJ n hr] at this
  by_cases c:p∈pl row
  ·rw [if_pos c] at e;subst e;rw [List.count_erase]
   by_cases d:f row=x
   ·rw [if_pos (by simp [c,d])] at this;rw [if_pos (by simpa using d)];omega
   ·rw [if_neg (by simp [d])] at this;rw [if_neg (by simpa using d)];omega
  ·rw [if_neg c] at e;subst e;omega
theorem yc6 {f:Nat->Int} {rows:List Nat} {left:List (List Int)} {pl:Nat->List Nat} {row:Nat} {s:Int} (n:rows.Nodup) (hr:row∈rows) (hs:∀ p∈pl row,∀ l,left[p]?=some l->s∈l)
  (h:By f (rows.filter λr=>r != row) (after left (pl row) s) pl):By (λr=>if r=row then s else f r) rows left pl:=λp l hl x=>by
 rw [zJ n hr]
 have e:((rows.filter λr=>r != row).countP λr=>decide (p∈pl r/\(if r=row then s else f r)=x))=(rows.filter λr=>r != row).countP λr=>decide (p∈pl r/\f r=x):=qG λr hr=>by
  have:r≠row:=by simpa using (List.mem_filter.mp hr).2
  rw [if_neg this]
 rw [e]
 have hl':(after left (pl row) s)[p]?=some (if p∈pl row then l.erase s else l):=by
  unfold after;rw [List.getElem?_mapIdx,hl];rfl
 have:=h p _ hl' x
 by_cases c:p∈pl row
 ·rw [if_pos c,List.count_erase] at this;have hp:=List.count_pos_iff.mpr (hs p c l hl)
  by_cases d:s=x
  ·subst d;rw [if_pos (by simp)] at this;rw [if_pos (by simp [c])];omega
  ·rw [if_neg (by simpa using d)] at this;rw [if_neg (by simp [d])];omega
 ·rw [if_neg c] at this;rw [if_neg (by simp [c])];exact this
def qdV (left:List (List Int)) (ps:List Nat) (s:Int):Prop:=∀ p∈ps,∀ l,left[p]?=some l->s∈l
theorem qaw {rows:List Nat} {left:List (List Int)} {pl:Nat->List Nat} {row:Nat} {s:Int} (n:rows.Nodup) (hr:row∈rows) :
  (∃ f,f row=s/\By f rows left pl)↔qdV left (pl row) s/\∃ f,By f (rows.filter λr=>r != row) (after left (pl row) s) pl:=by
 constructor
 ·rintro ⟨f,rfl,h⟩;exact ⟨(zbS n hr h).1,f,(zbS n hr h).2⟩
 ·rintro ⟨h1,f,h2⟩;exact ⟨_,if_pos rfl,yc6 n hr h1 h2⟩
theorem jc6 {rows:List Nat} {left:List (List Int)} {pl:Nat->List Nat} {row:Nat} (n:rows.Nodup) (hr:row∈rows) :
  (∃ f,By f rows left pl)↔∃ s,qdV left (pl row) s/\∃ f,By f (rows.filter λr=>r != row) (after left (pl row) s) pl:=by
 constructor
 ·rintro ⟨f,h⟩;exact ⟨f row,(qaw n hr).mp ⟨f,rfl,h⟩⟩
 ·rintro ⟨s,h⟩;obtain ⟨f,_,h⟩:=(qaw n hr).mpr h;exact ⟨f,h⟩
theorem zdM {f:Nat->Int} {left:List (List Int)} {pl:Nat->List Nat}:By f [] left pl:=λ_ _ _ _=>Nat.zero_le _
def Fits (sec f:Nat->Int) (told:List (List Nat)):Prop:=∀ c∈told,∀ x,(c.map f).count x<=(c.map sec).count x
theorem count_map {f:Nat->Int} {x:Int} (c:List Nat):(c.map f).count x=c.countP λr=>decide (f r=x):=by
 rw [List.count,List.countP_map];exact qG λr _=>by rw [vf];simp
theorem qbk {P:Nat->Bool} {c rows:List Nat} (hc:c.Nodup) (hn:rows.Nodup) (h:∀ r∈c,r∈rows):(rows.countP λr=>decide (r∈c)&&P r)=c.countP P:=by
 have pm:(rows.filter λr=>decide (r∈c)).Perm c:=(List.perm_ext_iff_of_nodup (hn.filter _) hc).mpr λr=>by
  rw [List.mem_filter];exact ⟨λz=>by simpa using z.2,λz=>⟨h r z,by simpa using z⟩⟩
 rw [<-pm.countP_eq,List.countP_filter];exact qG λr _=>Bool.and_comm _ _
theorem zc7 {sec f:Nat->Int} {told:List (List Nat)} {rows:List Nat} {g:List Nat->List Int} {pl:Nat->List Nat} (hn:rows.Nodup) (hc:∀ c∈told,c.Nodup/\∀ r∈c,r∈rows)
  (hl:∀ c∈told,(g c).Perm (c.map sec)) (hp:∀ r∈rows,∀ (p:Nat) (c:List Nat),told[p]?=some c->(p∈pl r↔r∈c)):By f rows (told.map g) pl↔Fits sec f told:=by
 have key:∀ (p:Nat) (c:List Nat),told[p]?=some c->∀ x,rows.countP (λr=>decide (p∈pl r/\f r=x))=(c.map f).count x:=λp c e x=>by
  have hm:=hc c (wR e);rw [count_map,<-qbk hm.1 hn hm.2];exact qG λr hr=>by rw [vf];simp [hp r hr p c e]
 constructor
 ·intro h c hcm x;obtain ⟨p,hp'⟩:=List.mem_iff_getElem?.mp hcm;rw [<-key p c hp' x,<-(hl c hcm).count_eq x];exact h p _ (by rw [wx,hp'];rfl) x
 ·intro h p l e x;rw [wx] at e;obtain ⟨c,ht,rfl⟩:=Option.map_eq_some_iff.mp e;have hcm:=wR ht;rw [key p c ht x,(hl c hcm).count_eq x];exact h c hcm x
def qed (S:List (List Int)) (sec f:Nat->Int):Prop:=∀ k x,(List.range S.length).countP (λi=>decide (S.getD i []=k/\f i=x))<=(List.range S.length).countP (λi=>decide (S.getD i []=k/\sec i=x))
theorem qbS {P:Nat->Bool} {l:List Nat} (h:∀ i∈l,P i=false):l.countP P=0:=List.countP_eq_zero.mpr λi hi=>by rw [h i hi];exact wA
end DL
end
section
namespace DL
open PySem Eng
noncomputable def univ (pl:Nat->List Nat):List Nat->List (List Int)->List (List Nat×List (List Int))
 | [],left=>[([],left)]
 | r::rs,left=>(univ pl rs left).map (λq=>(r::q.1,q.2))++([0,1,2,3]:List Int).flatMap λs=>univ pl rs (after left (pl r) s)
theorem yba (pl:Nat->List Nat):∀ (rs:List Nat) (left:List (List Int)),(univ pl rs left).length=5^rs.length
 | [],_=>rfl
 | r::rs,left=>by
  simp [univ,yba pl rs];omega
theorem ybk (left:List (List Int)) (ps qs:List Nat) (s t:Int):after (after left ps s) qs t=after (after left qs t) ps s:=by
 apply List.ext_getElem?;intro p;unfold after;simp only [List.getElem?_mapIdx,Option.map_map];cases left[p]? with
 | none=>rfl
 | some l =>
  simp only [Option.map_some,Function.comp]
  by_cases h1:p∈ps<;>by_cases h2:p∈qs<;>simp [h1,h2,List.erase_comm s t]
theorem yS {pl:Nat->List Nat} (ps:List Nat) (s:Int):∀ {rs:List Nat} {left:List (List Int)} {q:List Nat×List (List Int)},q∈univ pl rs left->(q.1,after q.2 ps s)∈univ pl rs (after left ps s)
 | [],left,q,h=>by
  have:q=([],left):=by simpa [univ] using h
  subst this;simp [univ]
 | r::rs,left,q,h=>by
  rw [univ,List.mem_append] at h ⊢;rcases h with h | h
  ·obtain ⟨u,hu,rfl⟩:=wH.mp h;exact .inl (wH.mpr ⟨_,yS ps s hu,rfl⟩)
  ·obtain ⟨t,ht,hu⟩:=List.mem_flatMap.mp h;refine .inr (List.mem_flatMap.mpr ⟨t,ht,?_⟩);rw [ybk];exact yS ps s hu
theorem yaw {pl:Nat->List Nat}:∀ {rs:List Nat} {left:List (List Int)} {q:List Nat×List (List Int)},q∈univ pl rs left->∀ r∈q.1,r∈rs
 | [],left,q,h,r,hr=>by
  have:q=([],left):=by simpa [univ] using h
  subst this;exact hr
 | a::rs,left,q,h,r,hr=>by
  rw [univ,List.mem_append] at h;rcases h with h | h
  ·obtain ⟨u,hu,rfl⟩:=wH.mp h;rcases wu.mp hr with e | e
   ·simp [e]
   ·exact wI _ (yaw hu r e)
  ·obtain ⟨t,ht,hu⟩:=List.mem_flatMap.mp h;exact wI _ (yaw hu r hr)
theorem zad {pl:Nat->List Nat} {row:Nat} {s:Int} (hs:s∈([0,1,2,3]:List Int)):∀ {rs:List Nat} {left:List (List Int)} {q:List Nat×List (List Int)},rs.Nodup->q∈univ pl rs left->row∈q.1->(q.1.filter λr=>r != row,after q.2 (pl row) s)∈univ pl rs left
 | [],left,q,_,h,hr=>by
  have:q=([],left):=by simpa [univ] using h
  subst this;cases hr
 | a::rs,left,q,n,h,hr=>by
  rw [List.nodup_cons] at n;rw [univ,List.mem_append] at h ⊢;rcases h with h | h
  ·obtain ⟨u,hu,rfl⟩:=wH.mp h
   by_cases e:row=a
   ·subst e;refine .inr (List.mem_flatMap.mpr ⟨s,hs,?_⟩)
    have:((row::u.1).filter λr=>r != row)=u.1:=by
     rw [List.filter_cons_of_neg (by simp)]
     exact List.filter_eq_self.mpr λx hx=>by
      have:=yaw hu x hx
      simp;exact λz=>n.1 (z▸this)
    rw [this];exact yS _ s hu
   ·have hr':row∈u.1:=(wu.mp hr).resolve_left e;refine .inl (wH.mpr ⟨_,zad hs n.2 hu hr',?_⟩);rw [List.filter_cons_of_pos (by simpa using λz:a=row=>e z.symm)]
  ·obtain ⟨t,ht,hu⟩:=List.mem_flatMap.mp h;exact .inr (List.mem_flatMap.mpr ⟨t,ht,zad hs n.2 hu hr⟩)
theorem qaK (pl:Nat->List Nat):∀ (rs:List Nat) (left:List (List Int)),(rs,left)∈univ pl rs left
 | [],left=>by simp [univ]
 | r::rs,left=>by
  rw [univ,List.mem_append];exact .inl (wH.mpr ⟨_,qaK pl rs left,rfl⟩)
noncomputable def nI (ns:List Nat):List Int:=ns.map λ(n:Nat)=>(n:Int)
noncomputable def yaK:List D->List Nat
 | .int i::r=>i.toNat::yaK r
 | _=>[]
noncomputable def qdM:List D->List (List Nat)
 | .lst ys::r=>yaK ys::qdM r
 | _=>[]
noncomputable def plD:D->List (List Nat)
 | .tup [.lst xs,_]=>qdM xs
 | _=>[]
noncomputable def lfD:D->List (List Int)
 | .tup [_,.tup ys]=>(yM ys).getD []
 | _=>[]
def Bad (pl:List (List Nat)) (left0:List (List Int)) (a:List Int) (b:List (List Int)):Prop:=∃ q∈univ (λr=>pl.getD r []) (List.range pl.length) left0,a=nI q.1/\b=q.2/\¬ ∃ f,By f q.1 q.2 λr=>pl.getD r []
open Classical in
noncomputable def yaO (pl:List (List Nat)) (left0:List (List Int)):MemP :=
 if h:pl.length<=8 then ⟨λa b=>decide (Bad pl left0 a b),(univ (λr=>pl.getD r []) (List.range pl.length) left0).map λq=>(nI q.1,q.2),by
  rw [wD,yba,List.length_range]
  exact wQ (Nat.pow_le_pow_right (by decide) h) (by decide),λa b z=>by
  obtain ⟨q,hq,rfl,rfl,_⟩:=vg z
  exact wH.mpr ⟨q,hq,rfl⟩⟩
 else ⟨λ_ _=>false,[],Nat.zero_le _,λ_ _ z=>by cases z⟩
noncomputable def zej (d:D):MemP:=yaO (plD d) (lfD d)
end DL
end
section
open PySem Eng LG M DL
namespace Q
theorem yc {f:D->Option (Option D)} {α:Type} {g:α->D} {p:α->Bool}:∀ (xs:List α),(∀ x∈xs,f (g x)=some (if p x then some (g x) else none))->gather f (xs.map g)=some ((xs.filter p).map g)
 | [],_=>rfl
 | x::xs,h=>by
  rw [List.map_cons,gather,h x (by simp),wd,yc xs λy hy=>h y (by simp [hy])];cases e:p x<;>simp [e]
theorem turn_if {C:Tab} {e c:Eng.Code} {t:Tgt} {n:Nat} {keep:List Nat} {ρ ρ':En} {d x:D} {k:Bool} (hb:jay t d (yj n keep ρ)=some ρ') (hc:ev C c ρ'=some (.bl k)) (hv:ev C e ρ'=some x):turn C e t n keep (.some c) ρ d=some (if k then some x else none):=by
 unfold turn;rw [hb,wd,ja0,hc,wd,show truO (.bl k)=some k from rfl,wd,hv];cases k<;>rfl
theorem yL {C:Tab} {e:Eng.Code} {t:Tgt} {n:Nat} {keep:List Nat} {ρ ρ':En} {d x:D} (hb:jay t d (yj n keep ρ)=some ρ') (hv:ev C e ρ'=some x):turn C e t n keep .none ρ d=some (some x):=by
 unfold turn;rw [hb,wd,qao,wd,if_pos rfl,hv];rfl
theorem ybS (x:Int):∀ d:List Int,inD (.int x) (eI d)=decide (x∈d)
 | []=>by simp [eI,inD]
 | y::d=>by
  show (eqD (.int y) (.int x)||inD (.int x) (eI d))=_;rw [ybS x d,show eqD (.int y) (.int x)=(y==x) from rfl]
  by_cases e:y=x
  ·subst e;simp
  ·have:¬ x=y:=λz=>e z.symm
   simp [e,this]
theorem qc7 (x:Int) (d:List Int):yC .In (.int x) (tI d)=some (decide (x∈d)):=by
 show (if zC (.int x) (tI d) then some (inD (.int x) (eI d)) else none)=_;rw [if_pos (yaI rfl (zac d) (ya9 d)),ybS]
noncomputable def ePl (pl:List (List Nat)):D:=.lst (pl.map λps=>.lst (eI (nI ps)))
theorem jaK:∀ ns:List Nat,yaK (eI (nI ns))=ns
 | []=>rfl
 | n::r=>by show (n:Int).toNat::yaK (eI (nI r))=_;rw [jaK r];rfl
theorem jbS:∀ pl:List (List Nat),qdM (pl.map λps=>.lst (eI (nI ps)))=pl
 | []=>rfl
 | p::pl=>by show yaK (eI (nI p))::qdM _=_;rw [jaK,jbS pl]
theorem jO:∀ L:List (List Int),yM (L.map tI)=some L
 | []=>rfl
 | a::L=>by
  show (intsOf (eI a)).bind (λns=>(yM (L.map tI)).map (ns::·))=_;rw [jm,jO L];rfl
theorem zcl (pl:List (List Nat)) (left:List (List Int)):zej (.tup [ePl pl,eL left])=yaO pl left:=by
 show yaO (qdM (pl.map λps=>.lst (eI (nI ps)))) ((yM (left.map tI)).getD [])=_;rw [jbS,jO];rfl
theorem ycz:∀ {a b:List Nat},nI a=nI b->a=b
 | [],[],_=>rfl
 | [],_::_,h=>by cases h
 | _::_,[],h=>by cases h
 | x::a,y::b,h=>by
  have h':(x:Int)::nI a=(y:Int)::nI b:=h;injection h' with h1 h2
  rw [ycz h2,show x=y by omega]
theorem jcz {α:Type} {xs:List α} {i:Nat} {x:α} (h:xs[i]?=some x):atI xs (i:Int)=some x:=by
 have hi:=(wq.mp h).1;unfold atI ixN;rw [if_pos (by omega),if_pos (by omega)];exact h
theorem jaw {xs:List D} {i:Nat} {x:D} (h:xs[i]?=some x):jam (.tup xs) (.int (i:Int))=some x:=jcz h
theorem qad {xs:List D} {i:Nat} {x:D} (h:xs[i]?=some x):jam (.lst xs) (.int (i:Int))=some x:=jcz h
theorem jba (s:Int):∀ {xs:List Int},s∈xs->Eng.idxOf (.int s) (eI xs)=some (xs.idxOf s)
 | [],h=>by cases h
 | y::r,h=>by
  show (if eqD (.int y) (.int s) then some 0 else (Eng.idxOf (.int s) (eI r)).map (·+1))=_;rw [show eqD (.int y) (.int s)=(y==s) from rfl,List.idxOf_cons]
  by_cases e:y=s
  ·subst e;simp
  ·have e':(y==s)=false:=by simpa using e
   rw [e',jba s ((wu.mp h).resolve_left λz=>e z.symm)];rfl
theorem ydM {xs:List D} {i:Nat} (h:i<=xs.length):jcC (.tup xs) none (some (i:Int))=some (.tup (xs.take i)):=by
 show some (D.tup (cutD xs none (some (i:Int))))=_;unfold cutD sIx;simp only;rw [if_neg (by omega),wV,Nat.min_eq_left h];rfl
theorem jdM {xs:List D} {i:Nat} (h:i<=xs.length):jcC (.tup xs) (some (i:Int)) none=some (.tup (xs.drop i)):=by
 show some (D.tup (cutD xs (some (i:Int)) none))=_;unfold cutD sIx;simp only;rw [if_neg (by omega),wV,Nat.min_eq_left h,List.take_of_length_le (by simp)]
noncomputable def zP:Def:=⟨3,2,(.cons (.set .pu (.one 2) (.blt .index (.cons (.var 0) (.cons (.var 1) .nil)))) (.cons (.ret (.bin .Add (.slc (.var 0) .none (.some (.var 2))) (.slc (.var 0) (.some (.bin .Add (.var 2) (.cst (.int 1)))) .none))) .nil))⟩
theorem qaW (C:Tab) {xs:List Int} {s:Int} (h:s∈xs) (hl:xs.length<=900):jC C zP [tI xs,.int s]=some (tI (xs.erase s)):=by
 have hi:=List.idxOf_lt_length_iff.mpr h
 have hx:yz .index [tI xs,.int s]=some (.int (xs.idxOf s:Nat)):=by
  show (if zC (.int s) (tI xs) then (Eng.idxOf (.int s) (eI xs)).map λ(i:Nat)=>D.int (i:Int) else none)=_;rw [if_pos (yaI rfl (zac xs) (ya9 xs)),jba s h];rfl
 have hle:(eI xs).length=xs.length:=by simp [eI]
 refine qc rfl ?_;refine qg (zbQ rfl rfl hx) rfl ?_;refine qe (qC (zc4 rfl rfl (jaU rfl) (ydM (by omega))) (zc4 rfl (jaU (i:=((xs.idxOf s+1:Nat):Int)) (qC rfl rfl rfl)) rfl (jdM (by omega))) ?_);show (if _<=sizeLine then some (D.tup _) else none)=_;rw [if_pos (qd (by simp;omega)),List.erase_eq_eraseIdx_of_idxOf (l:=xs) (a:=s) rfl,List.eraseIdx_eq_take_drop_succ];unfold tI eI;rw [List.map_append,List.map_take,List.map_drop]
theorem zbT {left:List (List Int)} {ps:List Nat} {s:Int} {p:Nat} {l:List Int} (h:left[p]?=some l):(after left ps s).set p (l.erase s)=after left (ps++[p]) s:=by
 apply List.ext_getElem?;intro q;have hp:=(wq.mp h).1;unfold after;rw [List.getElem?_set,List.length_mapIdx,List.getElem?_mapIdx,List.getElem?_mapIdx]
 by_cases e:p=q
 ·subst e;rw [if_pos rfl,if_pos hp,h]
  simp
 ·rw [if_neg e];cases left[q]? with
  | none=>rfl
  | some m =>
   have:(q∈ps++[p])↔q∈ps:=by simp;intro z;exact absurd z.symm e
   simp [this]
noncomputable def qcl (i15:Nat):Stms:=(.cons (.put 3 (.var 4) (.call i15 (.cons (.idx (.var 0) (.var 4)) (.cons (.var 2) .nil)))) .nil)
noncomputable def zV (i15:Nat):Def:=⟨5,3,(.cons (.set .ow (.one 3) (.blt .list (.cons (.var 0) .nil))) (.cons (.for (.one 4) (.data (.var 1)) (qcl i15)) (.cons (.ret (.blt .tuple (.cons (.var 3) .nil))) .nil)))⟩
theorem zdN {C:Tab} {σ:List Sl} {i j:Nat} {k e:Eng.Code} {r:Stms} {d:D} {ds:List D} {v:Option Fl} (h:ev C e (vP σ)=some d) (h0:ev C k (vP σ)=some (.int j)) (h1:σ[i]?=some (.ow ds)) (hl:j<ds.length) (h2:exs C r (σ.set i (.ow (ds.set j d)))=v):exs C (.cons (.put i k e) r) σ=v:=by
 have e1:ex C (.put i k e) σ=some (.nx (σ.set i (.ow (ds.set j d)))):=by
  show (ev C e (vP σ)).bind (λd=>(ev C k (vP σ)).bind λj=>qde i j d σ)=_;rw [h,wd,h0,wd];unfold qde;rw [h1];show (if _ then some (Fl.nx (σ.set i (.ow (ds.set ((j:Int)).toNat d)))) else none)=_;rw [if_pos (by omega),wV]
 show (ex C (.put i k e) σ).bind _=_;rw [e1];exact h2
theorem qbT (C:Tab) {i15:Nat} {left:List (List Int)} {s:Int} (h15:∀ l∈left,s∈l->C i15 [tI l,.int s]=some (tI (l.erase s))) (x1:D):∀ (qs ps:List Nat) (y4:Sl),(∀ p∈qs,∀ l,left[p]?=some l->s∈l)->(∀ p∈qs,p<left.length) ->
  ∃ y4',forL (λd ρ'=>(puT (.one 4) d ρ').bind λρ''=>exs C (qcl i15) ρ'') (eI (nI qs)) [.pu (eL left),.pu x1,.pu (.int s),.ow ((after left ps s).map tI),y4]=some (.nx [.pu (eL left),.pu x1,.pu (.int s),.ow ((after left (ps++qs) s).map tI),y4'])
 | [],ps,y4,_,_=>⟨y4,by rw [List.append_nil];rfl⟩
 | p::qs,ps,y4,h1,h2=>by
  obtain ⟨l,hl⟩:∃ l,left[p]?=some l:=⟨left[p]'(h2 p (by simp)),by simp [h2 p (by simp)]⟩;obtain ⟨y4',ih⟩:=qbT C h15 x1 qs (ps++[p]) (.pu (.int p)) (λq hq=>h1 q (by simp [hq])) (λq hq=>h2 q (by simp [hq]));refine ⟨y4',?_⟩;have hm:=wR hl;have hs:=h1 p (by simp) l hl
  have step:exs C (qcl i15) [.pu (eL left),.pu x1,.pu (.int s),.ow ((after left ps s).map tI),.pu (.int p)]=some (.nx [.pu (eL left),.pu x1,.pu (.int s),.ow ((after left (ps++[p]) s).map tI),.pu (.int p)]):=by
   refine zdN (d:=tI (l.erase s)) (ds:=(after left ps s).map tI) (j:=p) (je (ji rfl rfl (jaw (by rw [wx,hl];rfl))) rfl (h15 l hm hs)) rfl rfl (by simp [after];exact h2 p (by simp)) ?_;rw [<-zbT hl,List.map_set];rfl
  show (exs C (qcl i15) [.pu (eL left),.pu x1,.pu (.int s),.ow ((after left ps s).map tI),.pu (.int p)]).bind _=_;rw [step,wd];show forL _ (eI (nI qs)) _=_;rw [ih,List.append_assoc];rfl
theorem ybT (left:List (List Int)) (s:Int):after left [] s=left:=by
 unfold after;apply List.ext_getElem?;intro q;rw [List.getElem?_mapIdx];cases left[q]?<;>simp
theorem jae (C:Tab) {i15:Nat} {left:List (List Int)} {s:Int} {ps:List Nat} (h15:∀ l∈left,s∈l->C i15 [tI l,.int s]=some (tI (l.erase s))) (h1:∀ p∈ps,∀ l,left[p]?=some l->s∈l) (h2:∀ p∈ps,p<left.length) :
  jC C (zV i15) [eL left,.lst (eI (nI ps)),.int s]=some (eL (after left ps s)):=by
 obtain ⟨y4,hf⟩:=qbT C h15 (.lst (eI (nI ps))) ps [] .un h1 h2;rw [ybT,List.nil_append] at hf;refine qc rfl ?_;refine Eng.yV (ds:=left.map tI) (jk (x:=eL left) rfl rfl) (jbM left) ?_;refine jo (zj rfl rfl) hf ?_;exact qe (jk rfl rfl)
noncomputable def jL (left:List (List Int)) (ps:List Nat):List Int:=(sortI (zan (left.getD (ps.headD 0) []))).filter λs=>ps.all λp=>decide (s∈left.getD p [])
noncomputable def zcA:Def:=⟨3,2,(.cons (.set .pu (.one 2) (.idx (.var 0) (.idx (.var 1) (.cst (.int 0))))) (.cons (.ret (.comp (.var 0) (.one 0) 1 [1,0] (.data (.blt .sortedSet (.cons (.var 2) .nil))) (.some (.blt .all (.cons (.comp (.cmp .In (.var 1) (.idx (.var 2) (.var 0))) (.one 0) 1 [0,2] (.data (.var 1)) .none) .nil))))) .nil))⟩
theorem ycl (C:Tab) {left:List (List Int)} {ps:List Nat} (h0:ps≠[]) (h2:∀ p∈ps,p<left.length) (hs:∀ l∈left,qT l=true):jC C zcA [eL left,.lst (eI (nI ps))]=some (.lst (eI (jL left ps))):=by
 obtain ⟨p0,qs,rfl⟩:∃ p0 qs,ps=p0::qs:=by cases ps with | nil=>exact absurd rfl h0 | cons a b=>exact ⟨a,b,rfl⟩
 have at':∀ p∈p0::qs,left[p]?=some (left.getD p []):=λp hp=>by simp [wO,h2 p hp]
 have a0:=at' p0 (by simp);have sm:=hs _ (wR a0)
 have hb:yz .sortedSet [tI (left.getD p0 [])]=some (.lst (eI (sortI (zan (left.getD p0 []))))):=by
  show (intsOf (eI (left.getD p0 []))).bind _=_;rw [jm,wd,if_pos sm];rfl
 refine qc rfl ?_;refine qg (d:=tI (left.getD p0 [])) (ji rfl (ji rfl rfl (qad (i:=0) rfl)) (jaw (i:=p0) (by rw [wx,a0];rfl))) rfl ?_;refine qe (yi (zj (jk rfl hb) rfl) (yc (g:=D.int) _ λs _=>?_));refine turn_if (ρ':=[some (.int s),some (.lst (eI (nI (p0::qs)))),some (eL left)]) rfl ?_ rfl;refine jk (x:=.lst (((p0::qs).map λp=>decide (s∈left.getD p [])).map D.bl)) (yi (zj rfl rfl) ?_) ?_
 ·show gather _ (((p0::qs).map λp:Nat=>(p:Int)).map D.int)=_;rw [wJ];refine zbk (p0::qs) λp hp=>?_
  refine yL (ρ':=[some (.int p),some (.int s),some (eL left)]) rfl ?_;exact jq rfl (ji rfl rfl (jaw (i:=p) (by rw [wx,at' p hp];rfl))) (qc7 s _)
 ·rw [qc4,List.all_map];rfl
theorem jy {left:List (List Int)} {ps:List Nat} {s:Int} (h0:ps≠[]) (h2:∀ p∈ps,p<left.length):s∈jL left ps↔qdV left ps s:=by
 unfold jL qdV;rw [List.mem_filter,List.all_eq_true];have at':∀ p∈ps,left[p]?=some (left.getD p []):=λp hp=>by simp [wO,h2 p hp]
 constructor
 ·rintro ⟨_,h⟩ p hp l hl
  have:=h p hp
  rw [at' p hp] at hl;cases hl
  simpa using this
 ·intro h;have h':∀ p∈ps,s∈left.getD p []:=λp hp=>h p hp _ (at' p hp)
  refine ⟨(sortI_perm _).mem_iff.mpr (mem_dedI.mpr ?_),λp hp=>by simpa using h' p hp⟩;cases ps with
  | nil=>exact absurd rfl h0
  | cons a b=>exact h' a (by simp)
end Q
end
section
open PySem Eng LG M DL
namespace Q
theorem jS {f:D->Option D}:∀ (xs:List D) (b:D) (kb:Int),(∀ x∈xs,∃ i,f x=some (.int i))->∃ y,(y=b\/y∈xs)/\zaz f b kb xs=some y
 | [],b,kb,_=>⟨b,.inl rfl,rfl⟩
 | x::r,b,kb,h=>by
  obtain ⟨i,hi⟩:=h x (by simp);rw [zaz,hi,wd]
  by_cases e:i<kb
  ·obtain ⟨y,h1,h2⟩:=jS r x i λz hz=>h z (by simp [hz])
   refine ⟨y,.inr ?_,by simp only [e,if_true];exact h2⟩;rcases h1 with h1 | h1
   ·simp [h1]
   ·simp [h1]
  ·obtain ⟨y,h1,h2⟩:=jS r b kb λz hz=>h z (by simp [hz])
   refine ⟨y,?_,by simp only [e,if_false];exact h2⟩;rcases h1 with h1 | h1
   ·exact .inl h1
   ·exact .inr (by simp [h1])
theorem jbT {f:D->Option D} {xs:List D} (h:∀ x∈xs,∃ i,f x=some (.int i)) (hn:xs≠[]):∃ y∈xs,zdS f xs=some y:=by
 cases xs with
 | nil=>exact absurd rfl hn
 | cons x r =>
  obtain ⟨i,hi⟩:=h x (by simp);obtain ⟨y,h1,h2⟩:=jS r x i λz hz=>h z (by simp [hz])
  refine ⟨y,?_,by rw [zdS,hi,wd];exact h2⟩;rcases h1 with h1 | h1
  ·simp [h1]
  ·simp [h1]
structure Wf (l0:List (List Int)) (rows:List Nat) (left:List (List Int)) (pl:List (List Nat)):Prop where
 un:(rows,left)∈univ (λr=>pl.getD r []) (List.range pl.length) l0
 p8:pl.length<=8
 nd:rows.Nodup
 ln:rows.length<=900
 pl:∀ r∈rows,∃ ps,pl[r]?=some ps/\ps≠[]/\∀ p∈ps,p<left.length
 sm:∀ l∈left,∀ s∈l,0<=s/\s<4
 ll:∀ l∈left,l.length<=900
theorem zbU (left:List (List Int)) (ps:List Nat) (s:Int):(after left ps s).length=left.length:=by simp [after]
theorem zaL {left:List (List Int)} {ps:List Nat} {s:Int} {l:List Int} (h:l∈after left ps s):∃ m∈left,l=m\/l=m.erase s:=by
 unfold after at h;obtain ⟨i,hi,e⟩:=List.mem_iff_getElem.mp h;rw [List.getElem_mapIdx] at e;have hi':i<left.length:=by simpa using hi
 refine ⟨left[i],List.getElem_mem hi',?_⟩;split at e
 ·exact .inr e.symm
 ·exact .inl e.symm
theorem qdN {s:Int} (h:0<=s/\s<4):s∈([0,1,2,3]:List Int):=by simp;omega
theorem Wf.next {l0:List (List Int)} {rows:List Nat} {left:List (List Int)} {pl:List (List Nat)} (w:Wf l0 rows left pl) {row:Nat} (hr:row∈rows) {s:Int} (hs:s∈([0,1,2,3]:List Int)):Wf l0 (rows.filter λr=>r != row) (after left (pl.getD row []) s) pl:=by
 refine ⟨zad hs List.nodup_range w.un hr,w.p8,w.nd.filter _,wQ (List.length_filter_le _ _) w.ln,λr hr=>?_,λl hl=>?_,λl hl=>?_⟩
 ·rw [zbU];exact w.pl r (List.mem_filter.mp hr).1
 ·obtain ⟨m,hm,e | e⟩:=zaL hl
  ·rw [e];exact w.sm m hm
  ·rw [e];exact λx hx=>w.sm m hm x (List.mem_of_mem_erase hx)
 ·obtain ⟨m,hm,e | e⟩:=zaL hl
  ·rw [e];exact w.ll m hm
  ·rw [e];exact wQ (List.length_erase_le ..) (w.ll m hm)
open Classical in
noncomputable def zay (rows:List Nat) (left:List (List Int)) (pl:List (List Nat)):Bool:=decide (∃ f,By f rows left λr=>pl.getD r [])
theorem qbU {l:List Int} (h:∀ s∈l,0<=s/\s<4):qT l=true:=List.all_eq_true.mpr λs hs=>by
 have:=h s hs
 have z:(lowM:Int)=5:=rfl;simp only [wg,wG,z];omega
open Classical in
theorem ybU {l0:List (List Int)} {rows:List Nat} {left:List (List Int)} {pl:List (List Nat)} (w:Wf l0 rows left pl):(yaO pl l0).p (nI rows) left=!zay rows left pl:=by
 unfold yaO zay;rw [dif_pos w.p8]
 by_cases h:∃ f,By f rows left λr=>pl.getD r []
 ·rw [show decide (∃ f,By f rows left λr=>pl.getD r [])=true from decide_eq_true h];refine vk λ⟨q,_,e1,e2,z⟩=>z ?_
  rw [<-ycz e1,<-e2];exact h
 ·rw [show decide (∃ f,By f rows left λr=>pl.getD r [])=false from vk h];exact decide_eq_true ⟨_,w.un,rfl,rfl,h⟩
theorem qaL {left:List (List Int)} {ps:List Nat} {s:Int} (hs:∀ l∈left,∀ s∈l,0<=s/\s<4) (h0:ps≠[]) (h2:∀ p∈ps,p<left.length) (h:s∈jL left ps):s∈([0,1,2,3]:List Int):=by
 have fr:=(jy h0 h2).mp h;obtain ⟨p,qs,rfl⟩:∃ p qs,ps=p::qs:=by cases ps with | nil=>exact absurd rfl h0 | cons a b=>exact ⟨a,b,rfl⟩
 have hp:=h2 p (by simp);exact qdN (hs _ (List.getElem_mem hp) s (fr p (by simp) _ (List.getElem?_eq_getElem hp)))
theorem yaL {l0:List (List Int)} {rows:List Nat} {left:List (List Int)} {pl:List (List Nat)} (w:Wf l0 rows left pl) {row:Nat} (hr:row∈rows) :
  zay rows left pl=(jL left (pl.getD row [])).any λs=>zay (rows.filter λr=>r != row) (after left (pl.getD row []) s) pl:=by
 obtain ⟨ps,e,h0,h2⟩:=w.pl row hr;have e':pl.getD row []=ps:=by rw [wO,e];rfl
 rw [vf,List.any_eq_true];unfold zay;simp only [wG];rw [jc6 w.nd hr];simp only [e'];exact ⟨λ⟨s,h1,h3⟩=>⟨s,(jy h0 h2).mpr h1,h3⟩,λ⟨s,h1,h3⟩=>⟨s,(jy h0 h2).mp h1,h3⟩⟩
noncomputable def jal (i16 i18:Nat):Stms:=(.cons (.ite (.call i18 (.cons (.var 5) (.cons (.call i16 (.cons (.var 1) (.cons (.idx (.var 2) (.var 4)) (.cons (.var 6) .nil)))) (.cons (.var 2) (.cons (.var 3) .nil))))) (.cons (.ret (.cst (.bl true))) .nil) .nil) .nil)
noncomputable def c_can (i16 i17 i18:Nat):Def:=⟨7,4,(.cons (.ite (.not (.var 0)) (.cons (.ret (.cst (.bl true))) .nil) .nil) (.mgd 3 (.var 0) (.var 1) (.cons (.set .pu (.one 4) (.mink (.blt .len (.cons (.call i17 (.cons (.var 1) (.cons (.idx (.var 2) (.var 0)) .nil))) .nil)) [1,2] (.var 0))) (.cons (.set .pu (.one 5) (.blt .tuple (.cons (.comp (.var 0) (.one 0) 1 [4] (.data (.var 0)) (.some (.cmp .NotEq (.var 0) (.var 1)))) .nil))) (.cons (.for (.one 6) (.data (.call i17 (.cons (.var 1) (.cons (.idx (.var 2) (.var 4)) .nil)))) (jal i16 i18)) (.mput 3 (.var 0) (.var 1) (.cons (.ret (.cst (.bl false))) .nil)))))))⟩
theorem jbU {C:Tab} {ρ:En} {a b c e:Eng.Code} {x y z w d:D} {f:Nat} (h1:ev C a ρ=some x) (h2:ev C b ρ=some y) (h3:ev C c ρ=some z) (h4:ev C e ρ=some w) (h5:C f [x,y,z,w]=some d):ev C (.call f (.cons a (.cons b (.cons c (.cons e .nil))))) ρ=some d:=by
 rw [yZ,zl h1 (zl h2 (zl h3 (zl h4 qw)))];exact h5
theorem ydN {C:Tab} {ρ:List Sl} {i:Nat} {a b:Eng.Code} {r:Stms} {x y:D} {k:List Int×List (List Int)} {p:MemP} {v:Bool} (h1:ev C a (vP ρ)=some x) (h2:ev C b (vP ρ)=some y) (h3:jdd x y=some k) (h4:zdc ρ i=some p)
  (h5:exs C r ρ=some (.rt (.bl v))) (h6:p.p k.1 k.2=true->v=false):exs C (.mgd i a b r) ρ=some (.rt (.bl v)):=by
 rw [exs,h1,wd,h2,wd,h3,wd,h4,wd,h5,wd];cases e:p.p k.1 k.2 with
 | false=>rfl
 | true=>rw [h6 e];rfl
theorem yc7 {C:Tab} {ρ:List Sl} {i:Nat} {a b:Eng.Code} {r:Stms} {x y:D} {k:List Int×List (List Int)} {p:MemP} {v:Option Fl} (h1:ev C a (vP ρ)=some x) (h2:ev C b (vP ρ)=some y) (h3:jdd x y=some k) (h4:zdc ρ i=some p)
  (h6:p.p k.1 k.2=true) (h5:exs C r ρ=v):exs C (.mput i a b r) ρ=v:=by
 rw [exs,h1,wd,h2,wd,h3,wd,h4,wd,if_pos h6,h5]
theorem zbb {C:Tab} {b:Stms} {g:Int->Bool} {x0 x1 x2 x3 x4 x5:Sl}:∀ (ss:List Int) (y:Sl),(∀ s∈ss,exs C b [x0,x1,x2,x3,x4,x5,.pu (.int s)]=some (if g s then .rt (.bl true) else .nx [x0,x1,x2,x3,x4,x5,.pu (.int s)])) ->
  ∃ y',forL (λd ρ'=>(puT (.one 6) d ρ').bind λρ''=>exs C b ρ'') (eI ss) [x0,x1,x2,x3,x4,x5,y]=some (if ss.any g then .rt (.bl true) else .nx [x0,x1,x2,x3,x4,x5,y'])
 | [],y,_=>⟨y,rfl⟩
 | s::ss,y,h=>by
  obtain ⟨y',ih⟩:=zbb ss (.pu (.int s)) λt ht=>h t (by simp [ht])
  refine ⟨y',?_⟩;show (exs C b [x0,x1,x2,x3,x4,x5,.pu (.int s)]).bind _=_;rw [h s (by simp),wd,List.any_cons];cases g s with
  | true=>rfl
  | false=>rw [Bool.false_or];exact ih
theorem zbV (C:Tab) {i16 i17 i18:Nat} {l0:List (List Int)} {rows:List Nat} {left:List (List Int)} {pl:List (List Nat)} (w:Wf l0 rows left pl)
  (h16:∀ ps s,(∀ p∈ps,∀ l,left[p]?=some l->s∈l)->(∀ p∈ps,p<left.length)->C i16 [eL left,.lst (eI (nI ps)),.int s]=some (eL (after left ps s)))
  (h17:∀ ps,ps≠[]->(∀ p∈ps,p<left.length)->C i17 [eL left,.lst (eI (nI ps))]=some (.lst (eI (jL left ps))))
  (h18:∀ rows' left',rows'.length<rows.length->Wf l0 rows' left' pl->C i18 [tI (nI rows'),eL left',ePl pl,.mem (yaO pl l0)]=some (.bl (zay rows' left' pl))) :
  jC C (c_can i16 i17 i18) [tI (nI rows),eL left,ePl pl,.mem (yaO pl l0)]=some (.bl (zay rows left pl)):=by
 refine qc rfl ?_
 by_cases hn:rows=[]
 ·subst hn
  have:zay [] left pl=true:=by unfold zay;simp only [wG];exact ⟨λ_=>0,zdM⟩
  rw [this];exact zS (qck (k:=false) rfl rfl) (qe rfl)
 have hpl:∀ r∈rows,jam (ePl pl) (.int (r:Int))=some (.lst (eI (nI (pl.getD r []))))/\pl.getD r []≠[]/\∀ p∈pl.getD r [],p<left.length:=λr hr=>by
  obtain ⟨ps,e,h0,h2⟩:=w.pl r hr;have e':pl.getD r []=ps:=by rw [wO,e];rfl
  rw [e'];exact ⟨qad (by rw [wx,e];rfl),h0,h2⟩
 refine zq (qck rfl (k:=true) ?_) ?_
 ·cases rows with
  | nil=>exact absurd rfl hn
  | cons a b=>rfl
 refine ydN (p:=yaO pl l0) (k:=(nI rows,left)) rfl rfl ?_ rfl ?_ λz=>?_
 ·show (intsOf (eI (nI rows))).bind (λns=>(yM (left.map tI)).map λl=>(ns,l))=_;rw [jm,jO];rfl
 rotate_left
 ·rw [ybU w] at z;simpa using z
 obtain ⟨d,hd,hmin⟩:=jbT (f:=λd=>ev C (.blt .len (.cons (.call i17 (.cons (.var 1) (.cons (.idx (.var 2) (.var 0)) .nil))) .nil)) [some d,some (eL left),some (ePl pl)]) (xs:=eI (nI rows)) (λx hx=>by
  obtain ⟨z,hz,rfl⟩:=wH.mp hx;obtain ⟨r,hr,rfl⟩:=wH.mp hz;obtain ⟨h1,h2,h3⟩:=hpl r hr;exact ⟨_,jk (je rfl (ji rfl rfl h1) (h17 _ h2 h3)) yD⟩) (by
  cases rows with
  | nil=>exact absurd rfl hn
  | cons a b=>exact List.cons_ne_nil _ _)
 obtain ⟨z,hz,rfl⟩:=wH.mp hd;obtain ⟨row,hr,rfl⟩:=wH.mp hz;obtain ⟨q1,q2,q3⟩:=hpl row hr;refine qg (d:=.int (row:Int)) (by rw [ev];exact hmin) rfl ?_;refine qg (d:=tI (nI (rows.filter λr=>r != row))) (jk (yi (rs:=eI (nI (rows.filter λr=>r != row))) (zj rfl rfl) ?_) rfl) rfl ?_
 ·show gather _ ((rows.map λn:Nat=>(n:Int)).map D.int)=some (((rows.filter λr=>r != row).map λn:Nat=>(n:Int)).map D.int);rw [wJ,wJ];refine yc rows λr _=>?_
  refine turn_if (ρ':=[some (.int (r:Int)),some (.int (row:Int))]) rfl (jq rfl rfl ?_) rfl;rw [zct (yO rfl)];congr 1;show (!((r:Int)==(row:Int)))=_;rw [vf];simp;omega
 obtain ⟨y',hf⟩:=zbb (C:=C) (b:=jal i16 i18) (g:=λs=>zay (rows.filter λr=>r != row) (after left (pl.getD row []) s) pl) (x0:=.pu (tI (nI rows))) (x1:=.pu (eL left)) (x2:=.pu (ePl pl)) (x3:=.pu (.mem (yaO pl l0))) (x4:=.pu (.int (row:Int))) (x5:=.pu (tI (nI (rows.filter λr=>r != row))))
  (jL left (pl.getD row [])) .un λs hs=>by
   have fr:=(jy q2 q3).mp hs
   have c := h18 (rows.filter λr => r != row) (after left (pl.getD row []) s) (by
    have:=List.length_filter_lt_length_iff_exists (l:=rows) (p:=λr=>r != row)
    exact this.mpr ⟨row,hr,by simp⟩) (w.next hr (qaL w.sm q2 q3 hs))
   have ec:=jbU (C:=C) (f:=i18) (ρ:=vA [.pu (tI (nI rows)),.pu (eL left),.pu (ePl pl),.pu (.mem (yaO pl l0)),.pu (.int (row:Int)),.pu (tI (nI (rows.filter λr=>r != row))),.pu (.int s)]) (a:=.var 5) (b:=.call i16 (.cons (.var 1) (.cons (.idx (.var 2) (.var 4)) (.cons (.var 6) .nil)))) (c:=.var 2) (e:=.var 3) rfl (zu rfl (ji rfl rfl q1) rfl (h16 _ s fr q3)) rfl rfl c;show exs C (.cons (.ite _ _ _) _) _=_;cases e:zay (rows.filter λr=>r != row) (after left (pl.getD row []) s) pl with
   | true=>rw [e] at ec;exact zS ec (qe rfl)
   | false=>rw [e] at ec;exact zq ec rfl
 have hfr:evI C (.data (.call i17 (.cons (.var 1) (.cons (.idx (.var 2) (.var 4)) .nil)))) (vP [.pu (tI (nI rows)),.pu (eL left),.pu (ePl pl),.pu (.mem (yaO pl l0)),.pu (.int (row:Int)),.pu (tI (nI (rows.filter λr=>r != row))),.un])=some (eI (jL left (pl.getD row []))):=zj (je rfl (ji rfl rfl q1) (h17 _ q2 q3)) rfl;rw [yaL w hr];cases e:(jL left (pl.getD row [])).any λs=>zay (rows.filter λr=>r != row) (after left (pl.getD row []) s) pl with
 | true =>
  rw [e] at hf;exact yav hfr hf
 | false =>
  rw [e] at hf;refine jo hfr hf ?_;refine yc7 (p:=yaO pl l0) (k:=(nI rows,left)) rfl rfl ?_ rfl ?_ (qe rfl)
  ·show (intsOf (eI (nI rows))).bind (λns=>(yM (left.map tI)).map λl=>(ns,l))=_;rw [jm,jO];rfl
  ·rw [ybU w,yaL w hr,e];rfl
end Q
end
section
open PySem Eng LG M DL
namespace Q
noncomputable def qB:List (List (List Int))->List (List Int)->List (List Int)
 | [],t=>t
 | S::Ss,t=>qB Ss (t++(qu S).filter λc=>!decide (c∈t))
theorem mem_toldL {c:List Int}:∀ {Ss:List (List (List Int))} {t:List (List Int)},c∈qB Ss t↔c∈t\/∃ S∈Ss,c∈qu S
 | [],t=>by simp [qB]
 | S::Ss,t=>by
  rw [qB,mem_toldL,List.mem_append,List.mem_filter]
  by_cases h:c∈t<;>simp [h]
theorem jI (P:List (List Int)):(jg P).length<=P.length:=by
 induction P using snoc_ind with
 | h0=>exact wC _
 | h1 A x ih =>
  rw [zo];split
  ·simp;omega
  ·simp;omega
noncomputable def jcl (i9:Nat):Stms:=(.cons (.ext 2 .cl (.comp (.var 0) (.one 0) 1 [2] (.data (.call i9 (.cons (.var 0) (.cons (.var 3) .nil)))) (.some (.cmp .NotIn (.var 0) (.var 1))))) .nil)
noncomputable def qcA (i9:Nat):Def:=⟨4,2,(.cons (.set .ow (.one 2) (.lst .nil)) (.cons (.for (.one 3) (.data (.var 1)) (jcl i9)) (.cons (.ret (.var 2)) .nil)))⟩
theorem jaJ (x:List Int):∀ S:List (List Int),inD (tI x) (S.map tI)=decide (x∈S)
 | []=>by simp [inD]
 | y::S=>by
  show (eqD (tI y) (tI x)||inD (tI x) (S.map tI))=_;rw [jaJ x S,yaH]
  by_cases e:y=x
  ·subst e;simp
  ·have:¬ x=y:=λz=>e z.symm
   simp [e,this]
theorem zaW (S:List (List Int)):zM (S.map tI)=true:=qbO λd hd=>by
 obtain ⟨x,_,rfl⟩:=wH.mp hd;exact zac x
theorem qS (x:List Int) (S:List (List Int)):yC .NotIn (tI x) (.lst (S.map tI))=some (!decide (x∈S)):=by
 have hd:dep (tI x)<=40:=ya9 x;show (if zC (tI x) (.lst (S.map tI)) then some (inD (tI x) (S.map tI)) else none).map not=_;rw [if_pos (by simp [zC,hd,zac,show noS (.lst (S.map tI))=true from zaW S]),jaJ];rfl
theorem jc7 {C:Tab} {σ:List Sl} {i:Nat} {e:Eng.Code} {r:Stms} {ds es:List D} {v:Option Fl} (h:ev C e (vA σ)=some (.lst es)) (h1:σ[i]?=some (.ow ds)) (hn:yay es=true) (hl:ds.length+es.length<=900) (h2:exs C r (σ.set i (.ow (ds++es)))=v):exs C (.cons (.ext i .cl e) r) σ=v:=by
 have e1:ex C (.ext i .cl e) σ=some (.nx (σ.set i (.ow (ds++es)))):=by
  rw [ex]
  ·show (ev C e (vA σ)).bind _=_;rw [h,wd];show (if yay es=true then yco i (.lst es) σ else none)=_;rw [if_pos hn];unfold yco;rw [h1];exact if_pos (jK (by omega))
  ·exact λz=>by cases z
 rw [exs,e1];exact h2
theorem jaL (C:Tab) {i9:Nat} {t x1:D} {sh:List Int->List (List Int)}:∀ (ws:List (List Int)) (A:List (List Int)) (y:Sl),(∀ w∈ws,C i9 [t,tI w]=some (eC (sh w)))->(∀ w∈ws,(sh w).length<=8)->A.length+8*ws.length<=900 ->
  ∃ y',forL (λd ρ'=>(puT (.one 3) d ρ').bind λρ''=>exs C (jcl i9) ρ'') (ws.map tI) [.pu t,.pu x1,.ow (A.map tI),y]=some (.nx [.pu t,.pu x1,.ow ((qB (ws.map sh) A).map tI),y'])
 | [],A,y,_,_,_=>⟨y,rfl⟩
 | w::ws,A,y,h,h8,hl=>by
  have c8:(qu (sh w)).length<=8:=wQ (by simp [qu];exact jI _) (h8 w (by simp));have f8:=List.length_filter_le (λc=>!decide (c∈A)) (qu (sh w));simp only [List.length_cons] at hl;obtain ⟨y',ih⟩:=jaL C (t:=t) (x1:=x1) (sh:=sh) ws (A++(qu (sh w)).filter λc=>!decide (c∈A)) (.pu (tI w)) (λv hv=>h v (by simp [hv])) (λv hv=>h8 v (by simp [hv])) (by simp;omega);refine ⟨y',?_⟩
  have step:exs C (jcl i9) [.pu t,.pu x1,.ow (A.map tI),.pu (tI w)]=some (.nx [.pu t,.pu x1,.ow ((A++(qu (sh w)).filter λc=>!decide (c∈A)).map tI),.pu (tI w)]):=by
   refine jc7 (es:=((qu (sh w)).filter λc=>!decide (c∈A)).map tI) (ds:=A.map tI) (yi (zj (je rfl rfl (h w (by simp))) rfl) (yc (qu (sh w)) λc _=>?_)) rfl (jbM _) (by simp;omega) (by rw [List.map_append];rfl);exact turn_if (ρ':=[some (tI c),some (.lst (A.map tI))]) rfl (jq rfl rfl (qS c A)) rfl
  show (exs C (jcl i9) [.pu t,.pu x1,.ow (A.map tI),.pu (tI w)]).bind _=_;rw [step,wd];exact ih
theorem zcm (C:Tab) {i9:Nat} {t:D} {sh:List Int->List (List Int)} {ws:List (List Int)} (h:∀ w∈ws,C i9 [t,tI w]=some (eC (sh w))) (h8:∀ w∈ws,(sh w).length<=8) (hl:ws.length<=100):jC C (qcA i9) [t,.tup (ws.map tI)]=some (.lst ((qB (ws.map sh) []).map tI)):=by
 obtain ⟨y,hf⟩:=jaL C (t:=t) (x1:=.tup (ws.map tI)) (sh:=sh) ws [] .un h h8 (by simp;omega);refine qc rfl ?_;refine Eng.yV (ds:=[]) (yaU qw (Nat.zero_le _)) rfl ?_;refine jo (zj rfl rfl) hf ?_;exact qe rfl
noncomputable def plR (told:List (List Int)) (r:Nat):List Nat:=(List.range told.length).filter λp=>decide ((r:Int)∈told.getD p [])
noncomputable def c_places:Def:=⟨2,2,(.cons (.ret (.comp (.var 0) (.many [0,1]) 2 [1] (.enu (.var 0)) (.some (.cmp .In (.var 2) (.var 1))))) .nil)⟩
theorem zc8 (L:List (List Int)) (k:Nat):qP k (L.map tI)=(List.range' k L.length).map λp=>.tup [.int (p:Int),tI (L.getD (p-k) [])]:=by
 induction L generalizing k with
 | nil=>rfl
 | cons a L ih =>
  rw [List.map_cons,qP,ih,List.length_cons,List.range'_succ,List.map_cons];congr 1
  ·simp
  ·apply vh;intro p hp
   have:=(List.mem_range'_1.mp hp).1
   rw [show p-k=(p-(k+1))+1 by omega,List.getD_cons_succ]
theorem zam {f:D->Option (Option D)} {α:Type} {g h:α->D} {p:α->Bool}:∀ (xs:List α),(∀ x∈xs,f (g x)=some (if p x then some (h x) else none))->gather f (xs.map g)=some ((xs.filter p).map h)
 | [],_=>rfl
 | x::xs,q=>by
  rw [List.map_cons,gather,q x (by simp),wd,zam xs λy hy=>q y (by simp [hy])];cases e:p x<;>simp [e]
theorem jbk (C:Tab) (told:List (List Int)) (r:Nat):jC C c_places [.lst (told.map tI),.int (r:Int)]=some (.lst (eI (nI (plR told r)))):=by
 refine qc rfl (qe (yi (zck rfl rfl) ?_));rw [zc8]
 have:=zam (f:=turn C (.var 0) (.many [0,1]) 2 [1] (.some (.cmp .In (.var 2) (.var 1))) (vA (List.map Sl.pu [.lst (told.map tI),.int (r:Int)]++List.replicate (c_places.n-c_places.p) .un))) (g:=λp:Nat=>.tup [.int (p:Int),tI (told.getD (p-0) [])]) (h:=λp:Nat=>.int (p:Int)) (p:=λp=>decide ((r:Int)∈told.getD p [])) (List.range' 0 told.length) λp _ =>
  turn_if (ρ':=[some (.int (p:Int)),some (tI (told.getD p [])),some (.int (r:Int))]) rfl (jq rfl rfl (qc7 _ _)) rfl
 rw [this];unfold plR eI nI;rw [wJ,List.range_eq_range'];rfl
noncomputable def qbV:Def:=⟨2,2,(.cons (.ret (.blt .tuple (.cons (.blt .sorted (.cons (.comp (.idx (.idx (.var 1) (.cst (.int 2))) (.var 0)) (.one 0) 1 [0] (.data (.var 1)) .none) .nil)) .nil))) .nil)⟩
theorem zaM (C:Tab) {Ls:List (List (List Int))} {rows:List (List Int)} {secs:List Int} (T:TabOk Ls rows secs) {c:List Int} (hc:∀ i∈c,0<=i/\i<(rows.length:Int)) (hl:c.length<64):jC C qbV [eT Ls rows secs,tI c]=some (tI (sortI (qj secs c))):=by
 have at':∀ i∈c,secs[i.toNat]?=some (secs.getD i.toNat 0):=λi hi=>by
  have:=hc i hi
  have h1:=T.sl;simp [List.getD,show i.toNat<secs.length by omega]
 refine qc rfl ?_;refine qe (jk (x:=.lst (eI (sortI (qj secs c)))) (jk (x:=.lst (eI (qj secs c))) (yi (zj rfl rfl) (yac (g:=D.int) (h:=λi=>secs.getD i.toNat 0) c λi hi=>?_)) ?_) rfl)
 ·refine yL (ρ':=[some (.int i),some (eT Ls rows secs)]) rfl ?_;exact ji (x:=tI secs) (ji (x:=eT Ls rows secs) (y:=.int 2) rfl rfl at2) rfl (zx (hc i hi).1 (by rw [eI,wx,at' i hi];rfl))
 ·show (if (eI (qj secs c)).length<64 then qco (eI (qj secs c)) else none)=_;rw [if_pos (by simp [eI,qj];exact hl)];unfold qco;rw [jm];rfl
end Q
end
section
open PySem Eng LG M DL
namespace Q
noncomputable def ybV (i16 i18:Nat):Stms:=(.cons (.ite (.call i18 (.cons (.var 7) (.cons (.call i16 (.cons (.var 4) (.cons (.idx (.var 6) (.var 2)) (.cons (.var 10) .nil)))) (.cons (.var 6) (.cons (.var 8) .nil))))) (.cons (.app 9 .pu (.var 10)) .nil) .nil) .nil)
noncomputable def ycA (i12 i13 i14 i16 i17 i18:Nat):Def:=⟨11,3,(.cons (.ite (.not (.var 1)) (.cons (.ret (.ofi .tuple (.rng (.cons (.cst (.int 4)) .nil)))) .nil) .nil) (.cons (.set .pu (.one 3) (.call i12 (.cons (.var 0) (.cons (.var 1) .nil)))) (.cons (.set .pu (.one 4) (.blt .tuple (.cons (.comp (.call i14 (.cons (.var 1) (.cons (.var 0) .nil))) (.one 0) 1 [0] (.data (.var 3)) .none) .nil))) (.cons (.set .pu (.one 5) (.ofi .list (.rng (.cons (.blt .len (.cons (.idx (.var 0) (.cst (.int 1))) .nil)) .nil)))) (.cons (.set .pu (.one 6) (.comp (.call i13 (.cons (.var 1) (.cons (.var 0) .nil))) (.one 0) 1 [3] (.data (.var 5)) .none)) (.cons (.set .pu (.one 7) (.blt .tuple (.cons (.comp (.var 0) (.one 0) 1 [2] (.data (.var 5)) (.some (.cmp .NotEq (.var 0) (.var 1)))) .nil))) (.cons (.newm 8 (.tup (.cons (.var 6) (.cons (.var 4) .nil))) DL.zej) (.cons (.set .ow (.one 9) (.lst .nil)) (.cons (.for (.one 10) (.data (.call i17 (.cons (.var 4) (.cons (.idx (.var 6) (.var 2)) .nil)))) (ybV i16 i18)) (.cons (.ret (.blt .tuple (.cons (.var 9) .nil))) .nil))))))))))⟩
theorem qam {C:Tab} {b:Stms} {g:Int->Bool} {x0 x1 x2 x3 x4 x5 x6 x7 x8:Sl}:∀ (ss A:List Int) (y:Sl),(∀ s∈ss,∀ A:List Int,A.length<900->exs C b [x0,x1,x2,x3,x4,x5,x6,x7,x8,.ow (eI A),.pu (.int s)]=some (.nx [x0,x1,x2,x3,x4,x5,x6,x7,x8,.ow (eI (if g s then A++[s] else A)),.pu (.int s)]))->A.length+ss.length<=900 ->
  ∃ y',forL (λd ρ'=>(puT (.one 10) d ρ').bind λρ''=>exs C b ρ'') (eI ss) [x0,x1,x2,x3,x4,x5,x6,x7,x8,.ow (eI A),y]=some (.nx [x0,x1,x2,x3,x4,x5,x6,x7,x8,.ow (eI (A++ss.filter g)),y'])
 | [],A,y,_,_=>⟨y,by rw [List.filter_nil,List.append_nil];rfl⟩
 | s::ss,A,y,h,hl=>by
  simp only [List.length_cons] at hl;obtain ⟨y',ih⟩:=qam ss (if g s then A++[s] else A) (.pu (.int s)) (λt ht=>h t (by simp [ht])) (by split<;>(try simp)<;>omega);refine ⟨y',?_⟩;show (exs C b [x0,x1,x2,x3,x4,x5,x6,x7,x8,.ow (eI A),.pu (.int s)]).bind _=_;rw [h s (by simp) A (by omega),wd];refine ih.trans ?_;cases e:g s<;>simp [e]
theorem qc8 (l:List Int):(sortI (zan l)).length<=l.length:=by
 rw [(sortI_perm _).length_eq]
 induction l with
 | nil=>exact wC _
 | cons a r ih =>
  unfold zan;split
  ·simp;omega
  ·simp;exact ih
noncomputable def qh (secs:List Int) (told:List (List Int)):List (List Int):=told.map λc=>sortI (qj secs c)
noncomputable def plL (told:List (List Int)) (n:Nat):List (List Nat):=(List.range n).map (plR told)
noncomputable def qcm (secs:List Int) (told:List (List Int)) (n row:Nat):List Int:=(jL (qh secs told) (plR told row)).filter λs=>zay ((List.range n).filter λr=>r != row) (after (qh secs told) (plR told row) s) (plL told n)
theorem jbV (n k:Nat):jb (k:Int) n=eI (nI (List.range' k n)):=by
 induction n generalizing k with
 | zero=>rfl
 | succ n ih =>
  have:=ih (k+1)
  rw [jb,List.range'_succ];show _=D.int k::eI (nI (List.range' (k+1) n));rw [<-this];rfl
theorem zbl {n:Nat} (h:n<=1000):rngD [.int (n:Int)]=some (eI (nI (List.range n))):=by
 simp only [rngD];rw [if_pos ⟨by omega,by omega,qd (by simpa using h)⟩,wV,List.range_eq_range',<-jbV];rfl
theorem yc8 {C:Tab} {ρ:List Sl} {i:Nat} {e:Eng.Code} {f:D->MemP} {r:Stms} {d:D} {x:Option Fl} (h:ev C e (vP ρ)=some d) (h2:exs C r (ρ.set i (.pu (.mem (f d))))=x):exs C (.cons (.newm i e f) r) ρ=x:=by
 rw [exs,ex,h];exact h2
theorem ycm (C:Tab) {i12 i13 i14 i16 i17 i18:Nat} {Ls:List (List (List Int))} {rows:List (List Int)} {secs:List Int} (T:TabOk Ls rows secs) {ws:List (List Int)} (hw:ws≠[]) {told:List (List Int)} {row:Nat} (hrow:row<rows.length)
  (h12:C i12 [eT Ls rows secs,.tup (ws.map tI)]=some (.lst (told.map tI)))
  (h14:∀ c∈told,C i14 [eT Ls rows secs,tI c]=some (tI (sortI (qj secs c))))
  (h13:∀ r:Nat,C i13 [.lst (told.map tI),.int (r:Int)]=some (.lst (eI (nI (plR told r)))))
  (hp:plR told row≠[]) (hW:Wf (qh secs told) (List.range rows.length) (qh secs told) (plL told rows.length))
  (h16:∀ ps s,(∀ p∈ps,∀ l,(qh secs told)[p]?=some l->s∈l)->(∀ p∈ps,p<(qh secs told).length)->C i16 [eL (qh secs told),.lst (eI (nI ps)),.int s]=some (eL (after (qh secs told) ps s)))
  (h17:∀ ps,ps≠[]->(∀ p∈ps,p<(qh secs told).length)->C i17 [eL (qh secs told),.lst (eI (nI ps))]=some (.lst (eI (jL (qh secs told) ps))))
  (h18:∀ rows' left',rows'.length<rows.length->Wf (qh secs told) rows' left' (plL told rows.length)->C i18 [tI (nI rows'),eL left',ePl (plL told rows.length),.mem (yaO (plL told rows.length) (qh secs told))]=some (.bl (zay rows' left' (plL told rows.length)))) :
  jC C (ycA i12 i13 i14 i16 i17 i18) [eT Ls rows secs,.tup (ws.map tI),.int (row:Int)]=some (tI (qcm secs told rows.length row)):=by
 have h8:=T.r8
 have hpl:∀ p∈plR told row,p<(qh secs told).length:=λp hp=>by
  have:=ve.mp (List.mem_filter.mp hp).1
  simpa [qh] using this
 have hidx:jam (ePl (plL told rows.length)) (.int (row:Int))=some (.lst (eI (nI (plR told row)))):=qad (by simp [plL,hrow]);refine qc rfl ?_;refine zq (qck rfl (k:=true) ?_) ?_
 ·cases ws with
  | nil=>exact absurd rfl hw
  | cons a b=>rfl
 refine qg (je rfl rfl h12) rfl ?_;refine qg (d:=eL (qh secs told)) (jk (x:=.lst ((qh secs told).map tI)) (yi (zj rfl rfl) ?_) rfl) rfl ?_
 ·rw [qh,wJ];exact yg told λc hc=>yL (ρ':=[some (tI c),some (eT Ls rows secs)]) rfl (je rfl rfl (h14 c hc))
 refine qg (d:=.lst (eI (nI (List.range rows.length)))) ?_ rfl ?_
 ·have:evI C (.rng (.cons (.blt .len (.cons (.idx (.var 0) (.cst (.int 1))) .nil)) .nil)) (vP [.pu (eT Ls rows secs),.pu (.tup (ws.map tI)),.pu (.int (row:Int)),.pu (.lst (told.map tI)),.pu (eL (qh secs told)),.un,.un,.un,.un,.un,.un])=some (eI (nI (List.range rows.length))):=by
   refine qaI (x:=.int (rows.length:Int)) (jk (x:=.tup (rows.map tI)) (ji rfl rfl at1) ?_) ?_
   ·rw [zk,wD]
   ·rw [zbl (by omega)]
  rw [ev];refine (congrArg (λo:Option (List D)=>o.bind _) this).trans ?_;rfl
 refine qg (d:=ePl (plL told rows.length)) (yi (rs:=(plL told rows.length).map λps=>.lst (eI (nI ps))) (zj rfl rfl) ?_) rfl ?_
 ·show gather _ (((List.range rows.length).map λn:Nat=>(n:Int)).map D.int)=some (((List.range rows.length).map (plR told)).map λps=>.lst (eI (nI ps)));rw [wJ,wJ];exact yg (List.range rows.length) λr _=>yL (ρ':=[some (.int (r:Int)),some (.lst (told.map tI))]) rfl (je rfl rfl (h13 r))
 refine qg (d:=tI (nI ((List.range rows.length).filter λr=>r != row))) (jk (x:=.lst (eI (nI ((List.range rows.length).filter λr=>r != row)))) (yi (zj rfl rfl) ?_) rfl) rfl ?_
 ·show gather _ (((List.range rows.length).map λn:Nat=>(n:Int)).map D.int)=some ((((List.range rows.length).filter λr=>r != row).map λn:Nat=>(n:Int)).map D.int);rw [wJ,wJ];refine yc (List.range rows.length) λr _=>?_
  refine turn_if (ρ':=[some (.int (r:Int)),some (.int (row:Int))]) rfl (jq rfl rfl ?_) rfl;rw [zct (yO rfl)];congr 1;show (!((r:Int)==(row:Int)))=_;rw [vf];simp;omega
 refine yc8 (jbj (zl rfl (zl rfl qw)) (show 2<=1000 by decide)) ?_;rw [zcl];refine Eng.yV (ds:=[]) (yaU qw (Nat.zero_le _)) rfl ?_
 have hfl:(jL (qh secs told) (plR told row)).length<=900:=by
  unfold jL;refine wQ (List.length_filter_le _ _) (wQ (qc8 _) ?_);cases e:plR told row with
  | nil=>exact absurd e hp
  | cons p qs =>
   have:=hpl p (by rw [e];simp)
   refine hW.ll _ (wR (i:=p) ?_);show _=some ((qh secs told).getD p []);simp [wO,this]
 obtain ⟨y',hf⟩:=qam (C:=C) (b:=ybV i16 i18) (g:=λs=>zay ((List.range rows.length).filter λr=>r != row) (after (qh secs told) (plR told row) s) (plL told rows.length)) (x0:=.pu (eT Ls rows secs)) (x1:=.pu (.tup (ws.map tI))) (x2:=.pu (.int (row:Int))) (x3:=.pu (.lst (told.map tI))) (x4:=.pu (eL (qh secs told))) (x5:=.pu (.lst (eI (nI (List.range rows.length)))))
  (x6:=.pu (ePl (plL told rows.length))) (x7:=.pu (tI (nI ((List.range rows.length).filter λr=>r != row)))) (x8:=.pu (.mem (yaO (plL told rows.length) (qh secs told)))) (jL (qh secs told) (plR told row)) [] .un (λs hs A hA=>by
   have fr:=(jy hp hpl).mp hs
   have c := h18 ((List.range rows.length).filter λr => r != row) (after (qh secs told) (plR told row) s) (by
    have:=List.length_filter_lt_length_iff_exists (l:=List.range rows.length) (p:=λr=>r != row)
    exact Nat.lt_of_lt_of_eq (this.mpr ⟨row,ve.mpr hrow,by simp⟩) List.length_range) (by
    have hg:(plL told rows.length).getD row []=plR told row:=by simp [plL,wO,hrow]
    rw [<-hg];refine hW.next (ve.mpr hrow) ?_;exact qaL hW.sm hp hpl hs)
   have ec:=jbU (C:=C) (f:=i18) (ρ:=vA [.pu (eT Ls rows secs),.pu (.tup (ws.map tI)),.pu (.int (row:Int)),.pu (.lst (told.map tI)),.pu (eL (qh secs told)),.pu (.lst (eI (nI (List.range rows.length)))),.pu (ePl (plL told rows.length)),.pu (tI (nI ((List.range rows.length).filter λr=>r != row))),.pu (.mem (yaO (plL told rows.length) (qh secs told))),.ow (eI A),.pu (.int s)])
    (a:=.var 7) (b:=.call i16 (.cons (.var 4) (.cons (.idx (.var 6) (.var 2)) (.cons (.var 10) .nil)))) (c:=.var 6) (e:=.var 8) rfl (zu rfl (ji rfl rfl hidx) rfl (h16 _ s fr hpl)) rfl rfl c
   show exs C (.cons (.ite _ _ _) _) _=_;cases e:zay ((List.range rows.length).filter λr=>r != row) (after (qh secs told) (plR told row) s) (plL told rows.length) with
   | true =>
    rw [e] at ec;refine zaV ec (Eng.zU (d:=.int s) rfl rfl (jK (by simp [eI];omega)) rfl) ?_;simp [e,eI];rfl
   | false=>rw [e] at ec;exact zq ec rfl) (by simp;exact hfl)
 refine jo (zj (je rfl (ji rfl rfl hidx) (h17 _ hp hpl)) rfl) hf ?_;exact qe (jk rfl rfl)
end Q
end
section
open PySem Eng LG M DL
namespace Q
def jdN (Ss:List (List (List Int))) (secs:List Int) (row:Nat) (s:Int):Prop:=∃ f:Nat->Int,f row=s/\∀ S∈Ss,qed S (λi=>secs.getD i 0) f
open Classical in
noncomputable def zT (Ss:List (List (List Int))) (secs:List Int) (row:Nat):List Int:=([0,1,2,3]:List Int).filter λs=>decide (jdN Ss secs row s)
noncomputable def zdO (S:List (List Int)) (k:List Int):List Nat:=(List.range S.length).filter λi=>S.getD i []==k
theorem yaW (S:List (List Int)) (k:List Int):(yu S k).map Int.toNat=zdO S k:=by
 unfold yu zdO;rw [wJ];exact (vh λi _=>rfl).trans (List.map_id _)
theorem jcA {S:List (List Int)} {c:List Int} (h:c∈qu S):∃ k,c=yu S k:=let ⟨i,_,e⟩:=mem_clsL.mp h;⟨_,e⟩
theorem zax {Ss:List (List (List Int))} {told:List (List Int)} {sec f:Nat->Int} (ht:∀ c,c∈told↔∃ S∈Ss,c∈qu S):Fits sec f (told.map λc=>c.map Int.toNat)↔∀ S∈Ss,qed S sec f:=by
 have cnt:∀ (S:List (List Int)) (k:List Int) (g:Nat->Int) (x:Int),((zdO S k).map g).count x=(List.range S.length).countP λi=>decide (S.getD i []=k/\g i=x):=λS k g x=>by
  rw [count_map,zdO,List.countP_filter];exact qG λi _=>by rw [vf];simp [and_comm]
 constructor
 ·intro h S hS k x
  by_cases z:∃ i,i<S.length/\S.getD i []=k
  ·obtain ⟨i,hi,rfl⟩:=z
   have:=h (zdO S (S.getD i [])) (wH.mpr ⟨_,(ht _).mpr ⟨S,hS,mem_clsL.mpr ⟨i,hi,rfl⟩⟩,yaW _ _⟩) x
   rw [cnt,cnt] at this;exact this
  ·rw [qbS λi hi=>vk λw=>z ⟨i,ve.mp hi,w.1⟩];exact Nat.zero_le _
 ·intro h c hc x;obtain ⟨c',hc',rfl⟩:=wH.mp hc;obtain ⟨S,hS,hcl⟩:=(ht c').mp hc';obtain ⟨k,rfl⟩:=jcA hcl;rw [yaW,cnt,cnt];exact h S hS k x
section
variable {secs:List Int} {Ss:List (List (List Int))} {n:Nat} (hn:∀ S∈Ss,S.length=n)
include hn
theorem qax {c:List Int} (h:c∈qB Ss []):∃ S∈Ss,∃ k,c=yu S k/\S.length=n:=by
 rcases mem_toldL.mp h with z | ⟨S,hS,z⟩
 ·cases z
 ·obtain ⟨k,e⟩:=jcA z;exact ⟨S,hS,k,e,hn S hS⟩
theorem jaW {c:List Int} (h:c∈qB Ss []):∀ i∈c,0<=i/\i<(n:Int):=λi hi=>by
 obtain ⟨S,_,k,rfl,e⟩:=qax hn h;obtain ⟨j,hj,rfl,_⟩:=mem_idxI.mp hi;omega
theorem qbb {c:List Int} (h:c∈qB Ss []):c.length<=n:=by
 obtain ⟨S,_,k,rfl,e⟩:=qax hn h;unfold yu;rw [wD];exact wQ (List.length_filter_le _ _) (by simp [e])
theorem zbW (hs:Ss≠[]) {r:Nat} (hr:r<n):plR (qB Ss []) r≠[]:=by
 obtain ⟨S,Sr,rfl⟩:∃ S Sr,Ss=S::Sr:=by cases Ss with | nil=>exact absurd rfl hs | cons a b=>exact ⟨a,b,rfl⟩
 have hS:=hn S (by simp);have hc:yu S (S.getD r [])∈qB (S::Sr) []:=mem_toldL.mpr (.inr ⟨S,by simp,mem_clsL.mpr ⟨r,by omega,rfl⟩⟩);obtain ⟨p,hp,e⟩:=List.mem_iff_getElem.mp hc;refine List.ne_nil_of_mem (a:=p) (List.mem_filter.mpr ⟨ve.mpr hp,?_⟩);rw [wO,List.getElem?_eq_getElem hp,e];exact decide_eq_true (mem_idxI.mpr ⟨r,by omega,rfl,rfl⟩)
theorem zcB (hsec:∀ s∈secs,0<=s/\s<4) (hl:secs.length=n) {l:List Int} (h:l∈qh secs (qB Ss [])):∀ s∈l,0<=s/\s<4:=λs hs=>by
 obtain ⟨c,hc,rfl⟩:=wH.mp h;obtain ⟨i,hi,rfl⟩:=wH.mp ((sortI_perm _).mem_iff.mp hs);have hb:=jaW hn hc i hi;have hi':i.toNat<secs.length:=by omega
 exact hsec _ (by rw [wO,List.getElem?_eq_getElem hi'];exact List.getElem_mem hi')
theorem qbW (hs:Ss≠[]) (h9:n<=8) (hsec:∀ s∈secs,0<=s/\s<4) (hl:secs.length=n):Wf (qh secs (qB Ss [])) (List.range n) (qh secs (qB Ss [])) (plL (qB Ss []) n):=by
 refine ⟨by
  rw [show (plL (qB Ss []) n).length=n by simp [plL]];exact qaK _ _ _,by simp [plL];exact h9,List.nodup_range,by simp;omega,λr hr=>?_,λl hl'=>?_,λl hl'=>?_⟩
 ·have hr:=ve.mp hr;refine ⟨plR (qB Ss []) r,by simp [plL,hr],zbW hn hs hr,λp hp=>?_⟩
  have:=ve.mp (List.mem_filter.mp hp).1
  simpa [qh] using this
 ·exact zcB hn hsec hl hl'
 ·obtain ⟨c,hc,rfl⟩:=wH.mp hl'
  have:=qbb hn hc
  rw [(sortI_perm _).length_eq];simp [qj];omega
theorem jc8 (hs:Ss≠[]) (h9:n<=8) (hsec:∀ s∈secs,0<=s/\s<4) (hl:secs.length=n) {row:Nat} (hr:row<n):qcm secs (qB Ss []) n row=zT Ss secs row:=by
 obtain ⟨told,ht⟩:∃ t,t=qB Ss []:=⟨_,rfl⟩;have W:=qbW hn hs h9 hsec hl;have hne:=zbW hn hs hr;have mt:∀ c,c∈told↔∃ S∈Ss,c∈qu S:=λc=>by rw [ht,mem_toldL];simp
 have bd:∀ c∈told,∀ i∈c,0<=i/\i<(n:Int):=λc hc=>jaW hn (ht▸hc)
 have tm:∀ c∈told,∃ S∈Ss,∃ k,c=yu S k/\S.length=n:=λc hc=>qax hn (ht▸hc)
 have sb:∀ l∈qh secs told,∀ s∈l,0<=s/\s<4:=λl h=>zcB hn hsec hl (ht▸h)
 rw [<-ht] at W hne ⊢;have hpl:∀ r<n,(plL told n).getD r []=plR told r:=λr hr=>by simp [plL,wO,hr]
 have hlt:∀ p∈plR told row,p<(qh secs told).length:=λp hp=>by
  have:=ve.mp (List.mem_filter.mp hp).1
  simpa [qh] using this
 have key:∀ f:Nat->Int,By f (List.range n) (qh secs told) (λr=>(plL told n).getD r [])↔∀ S∈Ss,qed S (λi=>secs.getD i 0) f:=λf=>by
  rw [<-zax mt]
  have e:qh secs told=(told.map λc=>c.map Int.toNat).map λc=>sortI (c.map λi=>secs.getD i 0):=by
   unfold qh qj;rw [wJ];refine vh λc _=>?_
   show _=sortI ((c.map Int.toNat).map _);rw [wJ];rfl
  rw [e];refine zc7 List.nodup_range (λc hc=>?_) (λc _=>sortI_perm _) λr hr p c hp=>?_
  ·obtain ⟨c',hc',rfl⟩:=wH.mp hc;obtain ⟨S,_,k,rfl,e⟩:=tm c' hc';rw [yaW];refine ⟨List.nodup_range.filter _,λr hr=>?_⟩;rw [<-e];exact (List.mem_filter.mp hr).1
  ·rw [wx] at hp;obtain ⟨c',hc',rfl⟩:=Option.map_eq_some_iff.mp hp;have hr:=ve.mp hr;rw [hpl r hr];have hp':=(wq.mp hc').1;have hg:told.getD p []=c':=by rw [wO,hc'];rfl
   unfold plR;rw [List.mem_filter,hg];constructor
   ·rintro ⟨_,z⟩;exact wH.mpr ⟨(r:Int),vg z,rfl⟩
   ·intro z;obtain ⟨i,hi,e⟩:=wH.mp z
    have:=bd c' (wR hc') i hi
    have hi':i=(r:Int):=by omega
    exact ⟨ve.mpr hp',decide_eq_true (hi'▸hi)⟩
 have nd1:(sortI (zan ((qh secs told).getD ((plR told row).headD 0) []))).Nodup:=(sortI_perm _).nodup_iff.mpr (jG _);have so1:=yv (zan ((qh secs told).getD ((plR told row).headD 0) []))
 have mem:∀ s,s∈qcm secs told n row↔s∈zT Ss secs row:=λs=>by
  unfold qcm zT;rw [List.mem_filter,List.mem_filter,jy hne hlt];have e2:=qaw (s:=s) (left:=qh secs told) (pl:=λr=>(plL told n).getD r []) List.nodup_range (ve.mpr hr);simp only [hpl row hr] at e2;unfold zay;simp only [wG];rw [<-e2];constructor
  ·intro z;have fr:=(e2.mp z).1;obtain ⟨f,e3,h3⟩:=z;refine ⟨?_,f,e3,(key f).mp h3⟩;cases hq:plR told row with
   | nil=>exact absurd hq hne
   | cons p qs =>
    have hp:=hlt p (by rw [hq];simp)
    have:=sb _ (List.getElem_mem hp) s (fr p (by rw [hq];simp) _ (List.getElem?_eq_getElem hp))
    simp;omega
  ·rintro ⟨_,f,e3,h3⟩;exact ⟨f,e3,(key f).mpr h3⟩
 refine yq (yY ?_ ?_ mem) ?_ ?_
 ·exact (nd1.filter _).filter _
 ·exact List.Pairwise.filter _ (by decide)
 ·exact (so1.filter _).filter _
 ·exact List.Pairwise.filter _ (by decide)
end
end Q
end
section
open PySem Eng LG M DL
namespace Q
noncomputable def mx (x y:Int):Int:=if x<y then y else x
noncomputable def qV (Ss:List (List (List Int))) (secs:List Int) (n:Nat):List Nat:=(List.range n).filter λr=>decide ((zT Ss secs r).length=1)
noncomputable def ybW (i19:Nat):Def:=⟨2,2,(.cons (.ret (.blt .tuple (.cons (.comp (.var 0) (.one 0) 1 [0,1] (.rng (.cons (.blt .len (.cons (.idx (.var 0) (.cst (.int 1))) .nil)) .nil)) (.some (.cmp .Eq (.blt .len (.cons (.call i19 (.cons (.var 1) (.cons (.var 2) (.cons (.var 0) .nil)))) .nil)) (.cst (.int 1))))) .nil))) .nil)⟩
theorem jbW (C:Tab) {i19:Nat} {Ls:List (List (List Int))} {rows:List (List Int)} {secs:List Int} (T:TabOk Ls rows secs) {Ss:List (List (List Int))} {w:D} (h:∀ r<rows.length,C i19 [eT Ls rows secs,w,.int (r:Int)]=some (tI (zT Ss secs r))):jC C (ybW i19) [eT Ls rows secs,w]=some (tI (nI (qV Ss secs rows.length))):=by
 have h8:=T.r8;refine qc rfl (qe (jk (x:=.lst (eI (nI (qV Ss secs rows.length)))) (yi (qaI (x:=.int (rows.length:Int)) (jk (x:=.tup (rows.map tI)) (ji rfl rfl at1) (by rw [zk,wD])) (zbl (by omega))) ?_) rfl));show gather _ (((List.range rows.length).map λn:Nat=>(n:Int)).map D.int)=some (((qV Ss secs rows.length).map λn:Nat=>(n:Int)).map D.int);rw [wJ,wJ];refine yc (List.range rows.length) λr hr=>?_
 refine turn_if (ρ':=[some (.int (r:Int)),some (eT Ls rows secs),some w]) rfl (jq (jk (zu rfl rfl rfl (h r (ve.mp hr))) zk) rfl ?_) rfl;rw [jcs (yO rfl)];congr 1;show (((eI (zT Ss secs r)).length:Int)==1)=_;rw [vf];simp [eI];omega
end Q
end
section
open PySem Eng LG M DL
namespace U
open Q
noncomputable def subB:List Int->List Int->Bool
 | [],_=>true
 | x::r,l=>decide (x∈l)&&subB r (l.erase x)
theorem ybb:∀ (m l:List Int),subB m l=true↔∀ x,m.count x<=l.count x
 | [],l=>by simp [subB]
 | a::m,l=>by
  rw [subB,wg,wG,ybb m];constructor
  ·rintro ⟨h,q⟩ x
   have:=q x
   rw [List.count_erase] at this;rw [List.count_cons];have hp:=List.count_pos_iff.mpr h
   by_cases e:a=x
   ·subst e;simp at this ⊢;omega
   ·simp [e] at this ⊢;exact this
  ·intro q;refine ⟨?_,λx=>?_⟩
   ·have:=q a;rw [List.count_cons_self] at this;exact List.count_pos_iff.mp (by omega)
   ·have:=q x;rw [List.count_cons] at this;rw [List.count_erase]
    by_cases e:a=x
    ·subst e;simp at this ⊢;omega
    ·simp [e] at this ⊢;exact this
noncomputable def yG (gv:List (Int×Int)) (c:List Int):List Int:=c.filterMap λr=>gv.lookup r
noncomputable def qay (secs:List Int) (gv:List (Int×Int)) (c:List Int):Bool:=subB (sortI (yG gv c)) (qj secs c)
theorem fitC_iff {secs c:List Int} {gv:List (Int×Int)}:qay secs gv c=true↔∀ x,(yG gv c).count x<=(qj secs c).count x:=by
 rw [qay,ybb];constructor<;>(intro h x;have:=h x;rw [(sortI_perm _).count_eq x] at *;exact this)
theorem yed (x:Int) (d:List Int):yC .In (.int x) (.lst (eI d))=some (decide (x∈d)):=by
 show (if zC (.int x) (.lst (eI d)) then some (inD (.int x) (eI d)) else none)=_;rw [if_pos (by simp [zC,dep,noS,qau]),ybS]
theorem qdO {C:Tab} {σ:List Sl} {i:Nat} {e:Eng.Code} {r:Stms} {a:Int} {l:List Int} {v:Option Fl} (h:ev C e (vP σ)=some (.int a)) (h1:σ[i]?=some (.ow (eI l))) (hm:a∈l) (h2:exs C r (σ.set i (.ow (eI (l.erase a))))=v):exs C (.cons (.rem i e) r) σ=v:=by
 have:ex C (.rem i e) σ=some (.nx (σ.set i (.ow (eI (l.erase a))))):=by
  show (ev C e (vP σ)).bind (λd=>yde i d σ)=_;rw [h,wd,yde,h1];show (intsOf (eI l)).bind (λns=>if a∈ns then some (Fl.nx (σ.set i (.ow ((ns.erase a).map D.int)))) else none)=_;rw [jm,wd,if_pos hm];rfl
 show (ex C (.rem i e) σ).bind _=v;rw [this];exact h2
noncomputable def yax:Stms:=(.cons (.ite (.cmp .NotIn (.var 6) (.var 5)) (.cons (.ret (.cst (.bl false))) .nil) .nil) (.cons (.rem 5 (.var 6)) .nil))
theorem jbb (C:Tab) {x0 x1 x2 x3 x4:Sl}:∀ (m l:List Int) (y:Sl),∃ l' y',forL (λd ρ'=>(puT (.one 6) d ρ').bind λρ''=>exs C yax ρ'') (eI m) [x0,x1,x2,x3,x4,.ow (eI l),y]=some (if subB m l then .nx [x0,x1,x2,x3,x4,.ow (eI l'),y'] else .rt (.bl false))
 | [],l,y=>⟨l,y,rfl⟩
 | a::m,l,y=>by
  have cnd : ev C (.cmp .NotIn (.var 6) (.var 5)) (vA [x0, x1, x2, x3, x4, .ow (eI l), .pu (.int a)]) = some (.bl (!decide (a ∈ l))) := jq rfl rfl (by
   show (yC .In (.int a) (.lst (eI l))).map not=_;rw [yed];rfl)
  by_cases h:a∈l
  ·obtain ⟨l',y',e⟩:=jbb C (x0:=x0) (x1:=x1) (x2:=x2) (x3:=x3) (x4:=x4) m (l.erase a) (.pu (.int a));refine ⟨l',y',?_⟩
   have t1:exs C yax [x0,x1,x2,x3,x4,.ow (eI l),.pu (.int a)]=some (.nx [x0,x1,x2,x3,x4,.ow (eI (l.erase a)),.pu (.int a)]):=by
    unfold yax;refine zq (by rw [cnd];simp [h]) (qdO (a:=a) (l:=l) rfl rfl h rfl)
   show forL _ (.int a::eI m) _=_;rw [forL];show (exs C yax [x0,x1,x2,x3,x4,.ow (eI l),.pu (.int a)]).bind _=_;rw [t1,wd];have e2:subB (a::m) l=subB m (l.erase a):=by rw [subB];simp [h]
   rw [e2];exact e
  ·refine ⟨[],y,?_⟩
   have t1:exs C yax [x0,x1,x2,x3,x4,.ow (eI l),.pu (.int a)]=some (.rt (.bl false)):=by
    unfold yax;exact zS (by rw [cnd];simp [h]) (qe rfl)
   show forL _ (.int a::eI m) _=_;rw [forL];show (exs C yax [x0,x1,x2,x3,x4,.ow (eI l),.pu (.int a)]).bind _=_;rw [t1,wd];have e2:subB (a::m) l=false:=by rw [subB];simp [h]
   rw [e2];rfl
noncomputable def zbX:Stms:=(.cons (.set .pu (.one 4) (.blt .sorted (.cons (.comp (.idx (.var 1) (.var 0)) (.one 0) 1 [2] (.data (.var 3)) (.some (.cmp .In (.var 0) (.var 1)))) .nil))) (.cons (.set .ow (.one 5) (.comp (.idx (.idx (.var 1) (.cst (.int 2))) (.var 0)) (.one 0) 1 [0] (.data (.var 3)) .none)) (.cons (.for (.one 6) (.data (.var 4)) yax) .nil)))
noncomputable def qcB:Def:=⟨7,3,(.cons (.for (.one 3) (.data (.var 1)) zbX) (.cons (.ret (.cst (.bl true))) .nil))⟩
theorem ycB (gv:List (Int×Int)) (r:Int):(gv.any λp=>p.1==r)=(gv.lookup r).isSome:=by
 induction gv with
 | nil=>rfl
 | cons p gv ih =>
  obtain ⟨k,v⟩:=p;rw [List.any_cons,List.lookup_cons,ih]
  by_cases e:r=k
  ·subst e;simp
  ·have e1:(k==r)=false:=by simpa using λz=>e z.symm
   have e2:(r==k)=false:=by simpa using e
   rw [e1,e2];rfl
theorem qaM (C:Tab) (ρ:En) (gv:List (Int×Int)) (h2:ρ[2]?=some (some (.dct gv))):∀ c:List Int,gather (turn C (.idx (.var 1) (.var 0)) (.one 0) 1 [2] (.some (.cmp .In (.var 0) (.var 1))) ρ) (eI c)=some (eI (yG gv c))
 | []=>rfl
 | r::c=>by
  have bl:jay (.one 0) (.int r) (yj 1 [2] ρ)=some [some (.int r),some (.dct gv)]:=by
   show some [some (D.int r),(ρ[2]?).join]=_;rw [h2];rfl
  have t:turn C (.idx (.var 1) (.var 0)) (.one 0) 1 [2] (.some (.cmp .In (.var 0) (.var 1))) ρ (.int r)=some ((gv.lookup r).map D.int):=by
   show (jay (.one 0) (.int r) (yj 1 [2] ρ)).bind _=_;rw [bl,wd];show (((ev C (.cmp .In (.var 0) (.var 1)) [some (.int r),some (.dct gv)]).bind truO).bind _)=_;rw [jq (x:=.int r) (y:=.dct gv) (k:=gv.any λp=>p.1==r) rfl rfl rfl,ycB];cases q:gv.lookup r with
   | none=>rfl
   | some v =>
    show ((ev C (.idx (.var 1) (.var 0)) [some (.int r),some (.dct gv)]).map some)=_;rw [ji (x:=.dct gv) (y:=.int r) (d:=.int v) rfl rfl (by show (gv.lookup r).map D.int=_;rw [q];rfl)];rfl
  show gather _ (.int r::eI c)=_;rw [gather,t,wd,qaM C ρ gv h2 c];unfold yG;cases q:gv.lookup r with
  | none=>simp only [List.filterMap_cons,q];rfl
  | some v=>simp only [List.filterMap_cons,q];rfl
theorem zbc {Ls:List (List (List Int))} {rows:List (List Int)} {secs:List Int} (T:TabOk Ls rows secs) {i:Int} (h:0<=i/\i<(rows.length:Int)):jam (tI secs) (.int i)=some (.int (secs.getD i.toNat 0)):=by
 have h1:=T.sl
 have:jam (tI secs) (.int (i.toNat:Int))=some (.int (secs.getD i.toNat 0)):=jaw (by simp [eI,wO,show i.toNat<secs.length by omega])
 rwa [Int.toNat_of_nonneg h.1] at this
theorem qbX (gv:List (Int×Int)) (c:List Int):(yG gv c).length<=c.length:=List.length_filterMap_le _ _
theorem yaM (C:Tab) {Ls:List (List (List Int))} {rows:List (List Int)} {secs:List Int} (T:TabOk Ls rows secs) (gv:List (Int×Int)) {x1:Sl}:∀ (gs:List (List Int)) (y3 y4 y5 y6:Sl),(∀ c∈gs,c.length<64/\∀ i∈c,0<=i/\i<(rows.length:Int)) ->
  ∃ y3' y4' y5' y6',forL (λd ρ'=>(puT (.one 3) d ρ').bind λρ''=>exs C zbX ρ'') (gs.map tI) [.pu (eT Ls rows secs),x1,.pu (.dct gv),y3,y4,y5,y6]=some (if gs.all (qay secs gv) then .nx [.pu (eT Ls rows secs),x1,.pu (.dct gv),y3',y4',y5',y6'] else .rt (.bl false))
 | [],y3,y4,y5,y6,_=>⟨y3,y4,y5,y6,rfl⟩
 | c::gs,y3,y4,y5,y6,h=>by
  have hc:=h c wN;obtain ⟨l',z,el⟩:=jbb C (x0:=.pu (eT Ls rows secs)) (x1:=x1) (x2:=.pu (.dct gv)) (x3:=.pu (tI c)) (x4:=.pu (.lst (eI (sortI (yG gv c))))) (sortI (yG gv c)) (qj secs c) y6
  have body:exs C zbX [.pu (eT Ls rows secs),x1,.pu (.dct gv),.pu (tI c),y4,y5,y6]=some (if qay secs gv c then .nx [.pu (eT Ls rows secs),x1,.pu (.dct gv),.pu (tI c),.pu (.lst (eI (sortI (yG gv c)))),.ow (eI l'),z] else .rt (.bl false)):=by
   unfold zbX;refine Eng.qg (d:=.lst (eI (sortI (yG gv c)))) (jk (x:=.lst (eI (yG gv c))) (yi (zj (x:=tI c) rfl rfl) (qaM C _ gv rfl c)) ?_) rfl ?_
   ·show (if (eI (yG gv c)).length<64 then qco (eI (yG gv c)) else none)=_;rw [if_pos (by have:=qbX gv c;simp [eI];omega),qco,jm];rfl
   refine Eng.yV (ds:=eI (qj secs c)) ?_ (zau _) ?_
   ·refine yi (zj (x:=tI c) rfl rfl) ?_;show gather _ (c.map D.int)=some ((c.map λi=>secs.getD i.toNat 0).map D.int);rw [wJ];refine yg c λi hi=>?_
    exact Q.yL (ρ':=[some (.int i),some (eT Ls rows secs)]) rfl (ji (x:=tI secs) (y:=.int i) (ji rfl rfl at2) rfl (zbc T (hc.2 i hi)))
   show exs C (.cons (.for (.one 6) (.data (.var 4)) yax) .nil) [.pu (eT Ls rows secs),x1,.pu (.dct gv),.pu (tI c),.pu (.lst (eI (sortI (yG gv c)))),.ow (eI (qj secs c)),y6]=_;have hf:qay secs gv c=subB (sortI (yG gv c)) (qj secs c):=rfl;cases q:qay secs gv c with
   | true =>
    rw [<-hf,q,if_pos rfl] at el;rw [if_pos rfl];exact Eng.jo (zj rfl rfl) el rfl
   | false =>
    rw [<-hf,q] at el;exact yav (zj rfl rfl) el
  show ∃ y3' y4' y5' y6',forL _ (tI c::gs.map tI) _=_;rw [forL];show ∃ y3' y4' y5' y6',(exs C zbX [.pu (eT Ls rows secs),x1,.pu (.dct gv),.pu (tI c),y4,y5,y6]).bind _=_;rw [body,wd];cases q:qay secs gv c with
  | true =>
   obtain ⟨a,b,c',d,e⟩:=yaM C T gv (x1:=x1) gs (.pu (tI c)) (.pu (.lst (eI (sortI (yG gv c))))) (.ow (eI l')) z λc' hc'=>h c' (wI _ hc')
   refine ⟨a,b,c',d,?_⟩;rw [List.all_cons,q,Bool.true_and];exact e
  | false =>
   refine ⟨y3,y4,y5,y6,?_⟩;rw [List.all_cons,q,Bool.false_and];rfl
theorem jcm (C:Tab) {Ls:List (List (List Int))} {rows:List (List Int)} {secs:List Int} (T:TabOk Ls rows secs) (gv:List (Int×Int)) {gs:List (List Int)} (h:∀ c∈gs,c.length<64/\∀ i∈c,0<=i/\i<(rows.length:Int)) :
  jC C qcB [eT Ls rows secs,.lst (gs.map tI),.dct gv]=some (.bl (gs.all (qay secs gv))):=by
 obtain ⟨a,b,c,d,e⟩:=yaM C T gv (x1:=.pu (.lst (gs.map tI))) gs .un .un .un .un h;refine qc rfl ?_;cases q:gs.all (qay secs gv) with
 | true =>
  rw [q,if_pos rfl] at e;exact Eng.jo (zj rfl rfl) e (qe rfl)
 | false =>
  rw [q] at e;exact yav (zj rfl rfl) e
end U
end
section
open PySem Eng LG M DL
namespace U
open Q
open Classical in
def jax (secs:List Int) (gs:List (List Int)) (gv:List (Int×Int)):Prop:=∃ f:Int->Int,(∀ p∈gv,f p.1=p.2)/\∀ c∈gs,∀ x,(c.map f).count x<=(qj secs c).count x
theorem ydO {gv:List (Int×Int)} {r v:Int} (h:gv.lookup r=some v):(r,v)∈gv:=by
 induction gv with
 | nil=>cases h
 | cons p gv ih =>
  obtain ⟨k,w⟩:=p;rw [List.lookup_cons] at h;cases e:r==k with
  | true=>rw [e] at h;cases h;rw [eq_of_beq e];exact wN
  | false=>rw [e] at h;exact wI _ (ih h)
theorem jdO {g:Int->Option Int} {f:Int->Int} (x:Int):∀ c:List Int,(∀ r v,g r=some v->f r=v)->(c.filterMap g).count x<=(c.map f).count x
 | [],_=>wC _
 | r::c,h=>by
  have ih:=jdO x c h;cases q:g r with
  | none =>
   rw [List.filterMap_cons_none q,List.map_cons,List.count_cons];omega
  | some v =>
   rw [List.filterMap_cons_some q,List.map_cons,h r v q,List.count_cons,List.count_cons];omega
theorem qbc {secs:List Int} {gs:List (List Int)} {gv:List (Int×Int)} (h:jax secs gs gv):gs.all (qay secs gv)=true:=by
 obtain ⟨f,h1,h2⟩:=h;rw [List.all_eq_true];intro c hc;rw [fitC_iff];intro x;exact wQ (jdO x c λr v q=>h1 (r,v) (ydO q)) (h2 c hc x)
theorem zc9 {secs:List Int} {gs:List (List Int)} {gv:List (Int×Int)} (hf:gs.all (qay secs gv)=true) (hk:(gv.map (·.1)).Nodup) (hr:∀ c∈gs,∀ i∈c,(gv.lookup i).isSome=true):jax secs gs gv:=by
 refine ⟨λi=>(gv.lookup i).getD 0,λp hp=>?_,λc hc x=>?_⟩
 ·have:gv.lookup p.1=some p.2:=by
   clear hf hr
   induction gv with
   | nil=>cases hp
   | cons q gv ih =>
    obtain ⟨k,w⟩:=q;rw [List.map_cons,List.nodup_cons] at hk;rw [List.lookup_cons];rcases wu.mp hp with rfl | hp
    ·simp
    ·have ne:p.1≠k:=λz=>hk.1 (z▸wH.mpr ⟨p,hp,rfl⟩)
     have e:(p.1==k)=false:=by simpa using ne
     rw [e];exact ih hk.2 hp
  show (gv.lookup p.1).getD 0=p.2;rw [this];rfl
 ·have:=fitC_iff.mp (List.all_eq_true.mp hf c hc) x
  have e:c.map (λi=>(gv.lookup i).getD 0)=yG gv c:=by
   have hc':=hr c hc;clear this hf hc hr hk;unfold yG
   induction c with
   | nil=>rfl
   | cons i c ih =>
    obtain ⟨v,hv⟩:=w9.mp (hc' i wN);rw [List.map_cons,ih λj hj=>hc' j (wI _ hj)];simp only [List.filterMap_cons,hv];rfl
  rw [e];exact this
theorem zcn {secs:List Int} {gs:List (List Int)} {gv:List (Int×Int)} {r:Int} (hsec:∀ c∈gs,∀ s∈qj secs c,0<=s/\s<4) (hr:∀ p∈gv,p.1≠r):jax secs gs gv↔∃ s∈([0,1,2,3]:List Int),jax secs gs (gv++[(r,s)]):=by
 constructor
 ·rintro ⟨f,h1,h2⟩
  by_cases z:∃ c∈gs,r∈c
  ·obtain ⟨c,hc,hrc⟩:=z
   have hm:f r∈qj secs c:=by
    have:=h2 c hc (f r)
    have hp:=List.count_pos_iff.mpr (wH.mpr ⟨r,hrc,rfl⟩:f r∈c.map f);exact List.count_pos_iff.mp (by omega)
   have hb:=hsec c hc _ hm;refine ⟨f r,?_,f,λp hp=>?_,h2⟩
   ·have:f r=0\/f r=1\/f r=2\/f r=3:=by omega
    simpa using this
   ·rcases List.mem_append.mp hp with hp | hp
    ·exact h1 p hp
    ·rw [va.mp hp]
  ·refine ⟨0,by simp,λi=>if i=r then 0 else f i,λp hp=>?_,λc hc x=>?_⟩
   ·rcases List.mem_append.mp hp with hp | hp
    ·show (if p.1=r then 0 else f p.1)=p.2;rw [if_neg (hr p hp)];exact h1 p hp
    ·rw [va.mp hp];exact if_pos rfl
   ·have e:c.map (λi=>if i=r then 0 else f i)=c.map f:=vh λi hi=>if_neg (λw:i=r=>z ⟨c,hc,by rw [<-w];exact hi⟩)
    rw [e];exact h2 c hc x
 ·rintro ⟨s,_,f,h1,h2⟩;exact ⟨f,λp hp=>h1 p (List.mem_append_left _ hp),h2⟩
noncomputable def jW (n:Nat) (gv:List (Int×Int)):List Int:=(nI (List.range n)).filter λr=>!(gv.any λp=>p.1==r)
theorem put_new {gv:List (Int×Int)} {r s:Int} (h:(gv.any λp=>p.1==r)=false):jb0 gv r s=gv++[(r,s)]:=by rw [jb0,h];rfl
noncomputable def jal (i29 i30:Nat):Stms:=(.dcp 5 (.var 2) (.idx (.var 3) (.neg (.cst (.int 1)))) (.var 4) (.cons (.ite (.and (.call i29 (.cons (.var 0) (.cons (.var 1) (.cons (.var 5) .nil)))) (.call i30 (.cons (.var 0) (.cons (.var 1) (.cons (.var 5) .nil))))) (.cons (.ret (.cst (.bl true))) .nil) .nil) .nil))
noncomputable def c_can (i29 i30:Nat):Def:=⟨6,3,(.cons (.set .pu (.one 3) (.comp (.var 0) (.one 0) 1 [2] (.rng (.cons (.blt .len (.cons (.idx (.var 0) (.cst (.int 1))) .nil)) .nil)) (.some (.cmp .NotIn (.var 0) (.var 1))))) (.cons (.ite (.cmp .Eq (.var 3) (.lst .nil)) (.cons (.ret (.cst (.bl true))) .nil) .nil) (.cons (.for (.one 4) (.data (.tup (.cons (.cst (.int 0)) (.cons (.cst (.int 1)) (.cons (.cst (.int 2)) (.cons (.cst (.int 3)) .nil)))))) (jal i29 i30)) (.cons (.ret (.cst (.bl false))) .nil))))⟩
theorem jaM {C:Tab} {b:Stms} {g:Int->Bool} {x0 x1 x2 x3:Sl}:∀ (ss:List Int) (y4 y5:Sl),(∀ s∈ss,∀ y5,∃ z5,exs C b [x0,x1,x2,x3,.pu (.int s),y5]=some (if g s then .rt (.bl true) else .nx [x0,x1,x2,x3,.pu (.int s),z5])) ->
  ∃ z4 z5,forL (λd ρ'=>(puT (.one 4) d ρ').bind λρ''=>exs C b ρ'') (eI ss) [x0,x1,x2,x3,y4,y5]=some (if ss.any g then .rt (.bl true) else .nx [x0,x1,x2,x3,z4,z5])
 | [],y4,y5,_=>⟨y4,y5,rfl⟩
 | s::ss,y4,y5,h=>by
  obtain ⟨w5,e⟩:=h s wN y5;show ∃ z4 z5,forL _ (.int s::eI ss) _=_;rw [forL];show ∃ z4 z5,(exs C b [x0,x1,x2,x3,.pu (.int s),y5]).bind _=_;rw [e,wd,List.any_cons];cases q:g s with
  | true=>exact ⟨y4,y5,rfl⟩
  | false =>
   obtain ⟨z4,z5,e2⟩:=jaM (C:=C) (b:=b) (g:=g) (x0:=x0) (x1:=x1) (x2:=x2) (x3:=x3) ss (.pu (.int s)) w5 λs' hs'=>h s' (wI _ hs')
   refine ⟨z4,z5,?_⟩;rw [Bool.false_or];exact e2
theorem jR {A:List Int} {r:Int}:jam (.lst (eI (A++[r]))) (.int (-1))=some (.int r):=by
 show atI (eI (A++[r])) (-1)=_
 have:(eI (A++[r])).length=A.length+1:=by simp [eI]
 unfold atI ixN;rw [if_neg (by omega),if_pos (by omega),this];show (eI (A++[r]))[(-1+((A.length+1:Nat):Int)).toNat]?=_;rw [show (-1+((A.length+1:Nat):Int)).toNat=A.length by omega];simp [eI]
open Classical in
theorem ybc (C:Tab) {i29 i30:Nat} {Ls:List (List (List Int))} {rows:List (List Int)} {secs:List Int} (T:TabOk Ls rows secs) {gs:List (List Int)} (gv:List (Int×Int)) (hgl:gv.length<900) (hb:∀ c∈gs,∀ i∈c,0<=i/\i<(rows.length:Int))
  (hk:(gv.map (·.1)).Nodup) (hf:gs.all (qay secs gv)=true)
  (h29:∀ gv,C i29 [eT Ls rows secs,.lst (gs.map tI),.dct gv]=some (.bl (gs.all (qay secs gv))))
  (h30:∀ r s,r∈jW rows.length gv->gs.all (qay secs (gv++[(r,s)]))=true->C i30 [eT Ls rows secs,.lst (gs.map tI),.dct (gv++[(r,s)])]=some (.bl (decide (jax secs gs (gv++[(r,s)]))))) :
  jC C (c_can i29 i30) [eT Ls rows secs,.lst (gs.map tI),.dct gv]=some (.bl (decide (jax secs gs gv))):=by
 have h8:=T.r8
 have hsec:∀ c∈gs,∀ s∈qj secs c,0<=s/\s<4:=λc hc s hs=>by
  obtain ⟨i,hi,rfl⟩:=wH.mp hs
  have:=hb c hc i hi
  have hl:=T.sl;have hi':i.toNat<secs.length:=by omega
  exact T.sec _ (by rw [wO,List.getElem?_eq_getElem hi'];exact List.getElem_mem hi')
 obtain ⟨rest,hrest⟩:∃ l,l=jW rows.length gv:=⟨_,rfl⟩;refine qc rfl ?_;refine Eng.qg (d:=.lst (eI rest)) (yi (qaI (x:=.int (rows.length:Int)) (jk (x:=.tup (rows.map tI)) (ji rfl rfl at1) (by rw [zk,wD])) (zbl (by omega))) ?_) rfl ?_
 ·show gather _ ((nI (List.range rows.length)).map D.int)=some (rest.map D.int);rw [hrest];refine Q.yc (nI (List.range rows.length)) λr hr=>?_
  exact Q.turn_if (ρ':=[some (.int r),some (.dct gv)]) rfl (jq (x:=.int r) (y:=.dct gv) rfl rfl rfl) rfl
 show exs C _ [.pu (eT Ls rows secs),.pu (.lst (gs.map tI)),.pu (.dct gv),.pu (.lst (eI rest)),.un,.un]=_
 have ceq:ev C (.cmp .Eq (.var 3) (.lst .nil)) (vA [.pu (eT Ls rows secs),.pu (.lst (gs.map tI)),.pu (.dct gv),.pu (.lst (eI rest)),.un,.un])=some (.bl (decide (rest=[]))):=by
  refine jq (x:=.lst (eI rest)) (y:=.lst []) rfl (yaU qw (Nat.zero_le _)) ?_;rw [jcs (yaI (by simp [noS,qau]) rfl (by decide))];congr 1;cases rest with
  | nil=>rfl
  | cons a r=>rfl
 have key:∀ r,r∈jW rows.length gv↔(0<=r/\r<(rows.length:Int))/\(gv.any λp=>p.1==r)=false:=λr=>by
  unfold jW nI;rw [List.mem_filter,wH];constructor
  ·rintro ⟨⟨n,hn,rfl⟩,h⟩
   have:=ve.mp hn
   exact ⟨by omega,by simpa using h⟩
  ·rintro ⟨h1,h2⟩;exact ⟨⟨r.toNat,ve.mpr (by omega),Int.toNat_of_nonneg h1.1⟩,by rw [h2];rfl⟩
 by_cases hz:rest=[]
 ·refine zS (by rw [ceq];simp [hz]) (qe ?_)
  have:jax secs gs gv:=zc9 hf hk λc hc i hi=>by
   have:=hb c hc i hi
   rw [<-ycB];cases q:gv.any λp=>p.1==i with
   | true=>rfl
   | false =>
    have:=(key i).mpr ⟨this,q⟩
    rw [<-hrest,hz] at this;cases this
  rw [decide_eq_true this];rfl
 ·refine zq (by rw [ceq];simp [hz]) ?_;obtain ⟨A,r,hA⟩:∃ A r,rest=A++[r]:=⟨rest.dropLast,rest.getLast hz,(List.dropLast_concat_getLast hz).symm⟩;have hr:r∈jW rows.length gv:=by rw [<-hrest,hA];simp
  have hrk:=(key r).mp hr
  have hrn:∀ p∈gv,p.1≠r:=λp hp z=>by
   have:(gv.any λp=>p.1==r)=true:=List.any_eq_true.mpr ⟨p,hp,by simpa using z⟩
   rw [this] at hrk;cases hrk.2
  obtain ⟨z4,z5,e⟩:=jaM (C:=C) (b:=jal i29 i30) (g:=λs=>decide (jax secs gs (gv++[(r,s)]))) (x0:=.pu (eT Ls rows secs)) (x1:=.pu (.lst (gs.map tI))) (x2:=.pu (.dct gv)) (x3:=.pu (.lst (eI rest))) [0,1,2,3] .un .un λs _ y5=>⟨.pu (.dct (gv++[(r,s)])),by
   have step:exs C (jal i29 i30) [.pu (eT Ls rows secs),.pu (.lst (gs.map tI)),.pu (.dct gv),.pu (.lst (eI rest)),.pu (.int s),y5]=exs C (.cons (.ite (.and (.call i29 (.cons (.var 0) (.cons (.var 1) (.cons (.var 5) .nil)))) (.call i30 (.cons (.var 0) (.cons (.var 1) (.cons (.var 5) .nil))))) (.cons (.ret (.cst (.bl true))) .nil) .nil) .nil) [.pu (eT Ls rows secs),.pu (.lst (gs.map tI)),.pu (.dct gv),.pu (.lst (eI rest)),.pu (.int s),.pu (.dct (gv++[(r,s)]))]:=by
    have i1:ev C (.idx (.var 3) (.neg (.cst (.int 1)))) (vP [.pu (eT Ls rows secs),.pu (.lst (gs.map tI)),.pu (.dct gv),.pu (.lst (eI rest)),.pu (.int s),Sl.pu (.dct gv)])=some (.int r):=ji (x:=.lst (eI rest)) (y:=.int (-1)) rfl rfl (by rw [hA];exact jR);show ((some (D.dct gv)).bind jdR).bind (λkvs=>((some (D.int s)).bind yb2).bind λb=>((ev C (.idx (.var 3) (.neg (.cst (.int 1)))) (vP [.pu (eT Ls rows secs),.pu (.lst (gs.map tI)),.pu (.dct gv),.pu (.lst (eI rest)),.pu (.int s),Sl.pu (.dct gv)])).bind yb2).bind λa=>if kvs.length<1000 then exs C _ ([Sl.pu (eT Ls rows secs),.pu (.lst (gs.map tI)),.pu (.dct gv),.pu (.lst (eI rest)),.pu (.int s),y5].set 5 (.pu (.dct (jb0 kvs a b)))) else none)=_;rw [i1];show (if gv.length<1000 then exs C _ [Sl.pu (eT Ls rows secs),.pu (.lst (gs.map tI)),.pu (.dct gv),.pu (.lst (eI rest)),.pu (.int s),.pu (.dct (jb0 gv r s))] else none)=_;rw [if_pos (by omega),put_new hrk.2]
   rw [step]
   have cnd:ev C (.and (.call i29 (.cons (.var 0) (.cons (.var 1) (.cons (.var 5) .nil)))) (.call i30 (.cons (.var 0) (.cons (.var 1) (.cons (.var 5) .nil))))) (vA [.pu (eT Ls rows secs),.pu (.lst (gs.map tI)),.pu (.dct gv),.pu (.lst (eI rest)),.pu (.int s),.pu (.dct (gv++[(r,s)]))])=some (.bl (decide (jax secs gs (gv++[(r,s)])))):=by
    have:=qc3 (C:=C) (a:=.call i29 (.cons (.var 0) (.cons (.var 1) (.cons (.var 5) .nil)))) (b:=.call i30 (.cons (.var 0) (.cons (.var 1) (.cons (.var 5) .nil)))) (ρ:=vA [.pu (eT Ls rows secs),.pu (.lst (gs.map tI)),.pu (.dct gv),.pu (.lst (eI rest)),.pu (.int s),.pu (.dct (gv++[(r,s)]))]) (zu rfl rfl rfl (h29 _)) λq=>zu rfl rfl rfl (h30 r s hr q)
    rw [this];congr 2;rw [vf,wg,wG];exact ⟨λz=>z.2,λz=>⟨qbc z,z⟩⟩
   cases q:decide (jax secs gs (gv++[(r,s)])) with
   | true=>exact zS (by rw [cnd,q]) (qe rfl)
   | false=>exact zq (by rw [cnd,q]) rfl⟩
  have eq:(([0,1,2,3]:List Int).any λs=>decide (jax secs gs (gv++[(r,s)])))=decide (jax secs gs gv):=by
   rw [vf,List.any_eq_true,wG,zcn hsec hrn];simp only [wG]
  rw [eq] at e;have it:evI C (.data (.tup (.cons (.cst (.int 0)) (.cons (.cst (.int 1)) (.cons (.cst (.int 2)) (.cons (.cst (.int 3)) .nil)))))) (vP [.pu (eT Ls rows secs),.pu (.lst (gs.map tI)),.pu (.dct gv),.pu (.lst (eI rest)),.un,.un])=some (eI [0,1,2,3]):=zj (jbj (zl rfl (zl rfl (zl rfl (zl rfl qw)))) (by simp)) rfl;cases q:decide (jax secs gs gv) with
  | true =>
   rw [q,if_pos rfl] at e;exact yav it e
  | false =>
   rw [q] at e;exact Eng.jo it e (qe rfl)
theorem qc9 {n:Nat} {gv:List (Int×Int)} {r s:Int} (h:r∈jW n gv):(jW n (gv++[(r,s)])).length<(jW n gv).length:=by
 have e:jW n (gv++[(r,s)])=(jW n gv).filter λx=>x != r:=by
  unfold jW;rw [List.filter_filter];refine List.filter_congr λx _=>?_
  rw [List.any_append,List.any_cons,List.any_nil,Bool.or_false];generalize (gv.any λp=>p.1==x)=k
  have:(r==x)=(x==r):=by
   by_cases h:r=x
   ·rw [h]
   ·rw [wY.mpr h,wY.mpr λz=>h z.symm]
  show (!(k||(r==x)))=((x != r)&&!k);rw [this];show (!(k||(x==r)))=(!(x==r)&&!k);cases k<;>cases (x==r)<;>rfl
 rw [e];exact List.length_filter_lt_length_iff_exists.mpr ⟨r,h,by simp⟩
end U
end
section
open PySem Eng LG M DL
namespace U
open Q
theorem qcn {Ss:List (List (List Int))} {secs:List Int} {gs:List (List Int)} {row:Nat} {s:Int} (ht:∀ c,c∈gs↔∃ S∈Ss,c∈qu S) (h0:∀ c∈gs,∀ i∈c,0<=i):jax secs gs [((row:Int),s)]↔jdN Ss secs row s:=by
 constructor
 ·rintro ⟨f,h1,h2⟩;refine ⟨λn=>f (n:Int),h1 ((row:Int),s) wN,(zax ht).mp λc hc x=>?_⟩;obtain ⟨c',hc',rfl⟩:=wH.mp hc
  have:=h2 c' hc' x
  rw [wJ,wJ]
  have e:c'.map ((λn:Nat=>f (n:Int))∘Int.toNat)=c'.map f:=vh λi hi=>by
   show f ((i.toNat:Nat):Int)=f i;rw [Int.toNat_of_nonneg (h0 c' hc' i hi)]
  rw [e];exact this
 ·rintro ⟨f,h1,h2⟩;have h2:=(zax ht).mpr h2;refine ⟨λi=>f i.toNat,λp hp=>?_,λc hc x=>?_⟩
  ·rw [va.mp hp];exact h1
  ·have:=h2 (c.map Int.toNat) (wH.mpr ⟨c,hc,rfl⟩) x;rw [wJ,wJ] at this;exact this
noncomputable def ybX (i29 i30:Nat):Stms:=(.cons (.set .pu (.one 7) (.dlit (.var 2) (.var 6))) (.cons (.ite (.and (.call i29 (.cons (.var 0) (.cons (.var 3) (.cons (.var 7) .nil)))) (.call i30 (.cons (.var 0) (.cons (.var 3) (.cons (.var 7) .nil))))) (.cons (.set .pu (.one 5) (.bin .Add (.var 5) (.tup (.cons (.var 6) .nil)))) .nil) .nil) .nil))
noncomputable def zaN (i23:Nat):Stms:=(.cons (.set .pu (.one 3) (.bin .Add (.var 3) (.call i23 (.cons (.var 0) (.cons (.var 4) .nil))))) .nil)
noncomputable def jbX (i23 i29 i30:Nat):Def:=⟨8,3,(.cons (.set .pu (.one 3) (.lst .nil)) (.cons (.for (.one 4) (.data (.var 1)) (zaN i23)) (.cons (.set .pu (.one 5) (.tup .nil)) (.cons (.for (.one 6) (.data (.tup (.cons (.cst (.int 0)) (.cons (.cst (.int 1)) (.cons (.cst (.int 2)) (.cons (.cst (.int 3)) .nil)))))) (ybX i29 i30)) (.cons (.ret (.var 5)) .nil)))))⟩
theorem jbc (C:Tab) {i23:Nat} {t x1 x2:D} {cl:List Int->List (List Int)}:∀ (ws:List (List Int)) (A:List (List Int)) (y:Sl),(∀ w∈ws,C i23 [t,tI w]=some (.lst ((cl w).map tI))/\(cl w).length<=50)->A.length+50*ws.length<=900 ->
  ∃ z,forL (λd ρ'=>(puT (.one 4) d ρ').bind λρ''=>exs C (zaN i23) ρ'') (ws.map tI) [.pu t,.pu x1,.pu x2,.pu (.lst (A.map tI)),y,.un,.un,.un]=some (.nx [.pu t,.pu x1,.pu x2,.pu (.lst ((A++ws.flatMap cl).map tI)),z,.un,.un,.un])
 | [],A,y,_,_=>⟨y,by simp [forL]⟩
 | w::ws,A,y,h,hl=>by
  have hw:=h w wN;rw [List.length_cons] at hl
  have step:exs C (zaN i23) [.pu t,.pu x1,.pu x2,.pu (.lst (A.map tI)),.pu (tI w),.un,.un,.un]=some (.nx [.pu t,.pu x1,.pu x2,.pu (.lst ((A++cl w).map tI)),.pu (tI w),.un,.un,.un]):=by
   unfold zaN;refine Eng.qg (d:=.lst ((A++cl w).map tI)) (qC (x:=.lst (A.map tI)) (y:=.lst ((cl w).map tI)) rfl (je rfl rfl hw.1) ?_) rfl rfl;rw [ya1 (qd (by rw [wD,wD];omega)),List.map_append]
  obtain ⟨z,e⟩:=jbc C (t:=t) (x1:=x1) (x2:=x2) ws (A++cl w) (.pu (tI w)) (λv hv=>h v (wI _ hv)) (by rw [wU];omega);refine ⟨z,?_⟩;show forL _ (tI w::ws.map tI) _=_;rw [forL];show (exs C (zaN i23) [.pu t,.pu x1,.pu x2,.pu (.lst (A.map tI)),.pu (tI w),.un,.un,.un]).bind _=_;rw [step,wd];rw [List.flatMap_cons,<-List.append_assoc];exact e
theorem zbd (C:Tab) {b:Stms} {g:Int->Bool} {x0 x1 x2 x3 x4:Sl}:∀ (ss A:List Int) (y6 y7:Sl),A.length+ss.length<=100->(∀ s∈ss,∀ (A:List Int) (y7:Sl),A.length<=100->∃ z7,exs C b [x0,x1,x2,x3,x4,.pu (tI A),.pu (.int s),y7]=some (.nx [x0,x1,x2,x3,x4,.pu (tI (if g s then A++[s] else A)),.pu (.int s),z7])) ->
  ∃ z6 z7,forL (λd ρ'=>(puT (.one 6) d ρ').bind λρ''=>exs C b ρ'') (eI ss) [x0,x1,x2,x3,x4,.pu (tI A),y6,y7]=some (.nx [x0,x1,x2,x3,x4,.pu (tI (A++ss.filter g)),z6,z7])
 | [],A,y6,y7,_,_=>⟨y6,y7,by simp [forL,eI]⟩
 | s::ss,A,y6,y7,hl,h=>by
  rw [List.length_cons] at hl;obtain ⟨w7,e⟩:=h s wN A y7 (by omega);obtain ⟨z6,z7,e2⟩:=zbd C (b:=b) (g:=g) (x0:=x0) (x1:=x1) (x2:=x2) (x3:=x3) (x4:=x4) ss (if g s then A++[s] else A) (.pu (.int s)) w7 (by cases g s<;>simp only [wo,if_false,if_true,wU,List.length_singleton]<;>omega) λs' hs'=>h s' (wI _ hs')
  refine ⟨z6,z7,?_⟩;show forL _ (.int s::eI ss) _=_;rw [forL];show (exs C b [x0,x1,x2,x3,x4,.pu (tI A),.pu (.int s),y7]).bind _=_;rw [e,wd]
  have:A++List.filter g (s::ss)=(if g s then A++[s] else A)++ss.filter g:=by
   cases q:g s with
   | true=>rw [List.filter_cons_of_pos q];simp
   | false=>rw [List.filter_cons_of_neg (by simp [q])];simp
  rw [this];exact e2
open Classical in
theorem zbY (C:Tab) {i23 i29 i30:Nat} {Ls:List (List (List Int))} {rows:List (List Int)} {secs:List Int} {ws:List (List Int)} {sh:List Int->List (List Int)} {row:Nat} (hw:ws.length<=8)
  (h23:∀ w∈ws,C i23 [eT Ls rows secs,tI w]=some (.lst ((qu (sh w)).map tI))/\(qu (sh w)).length<=50) (h0:∀ w∈ws,∀ c∈qu (sh w),∀ i∈c,0<=i)
  (h29:∀ s,C i29 [eT Ls rows secs,.lst ((ws.flatMap λw=>qu (sh w)).map tI),.dct [((row:Int),s)]]=some (.bl ((ws.flatMap λw=>qu (sh w)).all (qay secs [((row:Int),s)]))))
  (h30:∀ s,(ws.flatMap λw=>qu (sh w)).all (qay secs [((row:Int),s)])=true->C i30 [eT Ls rows secs,.lst ((ws.flatMap λw=>qu (sh w)).map tI),.dct [((row:Int),s)]]=some (.bl (decide (jax secs (ws.flatMap λw=>qu (sh w)) [((row:Int),s)])))) :
  jC C (jbX i23 i29 i30) [eT Ls rows secs,.tup (ws.map tI),.int (row:Int)]=some (tI (zT (ws.map sh) secs row)):=by
 obtain ⟨gs,hgs⟩:∃ gs,gs=ws.flatMap λw=>qu (sh w):=⟨_,rfl⟩
 rw [<-hgs] at h29 h30;obtain ⟨t,ht⟩:∃ t,t=eT Ls rows secs:=⟨_,rfl⟩;rw [<-ht] at h29 h30 h23 ⊢
 have mem:∀ c,c∈gs↔∃ S∈ws.map sh,c∈qu S:=λc=>by
  rw [hgs,List.mem_flatMap];constructor
  ·rintro ⟨w,h1,h2⟩;exact ⟨sh w,wH.mpr ⟨w,h1,rfl⟩,h2⟩
  ·rintro ⟨S,h1,h2⟩;obtain ⟨w,h3,rfl⟩:=wH.mp h1;exact ⟨w,h3,h2⟩
 have nn:∀ c∈gs,∀ i∈c,0<=i:=λc hc=>by
  rw [hgs,List.mem_flatMap] at hc;obtain ⟨w,h1,h2⟩:=hc;exact h0 w h1 c h2
 refine qc rfl ?_;refine Eng.qg (d:=.lst []) (yaU qw (Nat.zero_le _)) rfl ?_;obtain ⟨z,e⟩:=jbc C (t:=t) (x1:=.tup (ws.map tI)) (x2:=.int (row:Int)) (cl:=λw=>qu (sh w)) ws [] .un h23 (by simp;omega);rw [List.nil_append,<-hgs] at e;refine Eng.jo (zj rfl rfl) e ?_;refine Eng.qg (d:=tI []) (jbj qw (Nat.zero_le _)) rfl ?_;have it:evI C (.data (.tup (.cons (.cst (.int 0)) (.cons (.cst (.int 1)) (.cons (.cst (.int 2)) (.cons (.cst (.int 3)) .nil)))))) (vP [.pu t,.pu (.tup (ws.map tI)),.pu (.int (row:Int)),.pu (.lst (gs.map tI)),z,.pu (tI []),.un,.un])=some (eI [0,1,2,3]):=zj (jbj (zl rfl (zl rfl (zl rfl (zl rfl qw)))) (by simp)) rfl
 obtain ⟨z6, z7, e2⟩ := zbd C (b := ybX i29 i30) (g := λs => decide (jax secs gs [((row : Int), s)])) (x0 := .pu t) (x1 := .pu (.tup (ws.map tI))) (x2 := .pu (.int (row : Int))) (x3 := .pu (.lst (gs.map tI))) (x4 := z) [0, 1, 2, 3] [] .un .un (by simp) λs _ A y7 hA => ⟨.pu (.dct [((row : Int), s)]), by
  unfold ybX;refine Eng.qg (d:=.dct [((row:Int),s)]) rfl rfl ?_;show exs C _ [.pu t,.pu (.tup (ws.map tI)),.pu (.int (row:Int)),.pu (.lst (gs.map tI)),z,.pu (tI A),.pu (.int s),.pu (.dct [((row:Int),s)])]=_
  have cnd:ev C (.and (.call i29 (.cons (.var 0) (.cons (.var 3) (.cons (.var 7) .nil)))) (.call i30 (.cons (.var 0) (.cons (.var 3) (.cons (.var 7) .nil))))) (vA [.pu t,.pu (.tup (ws.map tI)),.pu (.int (row:Int)),.pu (.lst (gs.map tI)),z,.pu (tI A),.pu (.int s),.pu (.dct [((row:Int),s)])])=some (.bl (decide (jax secs gs [((row:Int),s)]))):=by
   have:=qc3 (C:=C) (a:=.call i29 (.cons (.var 0) (.cons (.var 3) (.cons (.var 7) .nil)))) (b:=.call i30 (.cons (.var 0) (.cons (.var 3) (.cons (.var 7) .nil)))) (ρ:=vA [.pu t,.pu (.tup (ws.map tI)),.pu (.int (row:Int)),.pu (.lst (gs.map tI)),z,.pu (tI A),.pu (.int s),.pu (.dct [((row:Int),s)])]) (zu rfl rfl rfl (h29 s)) λq=>zu rfl rfl rfl (h30 s q)
   rw [this];congr 2;rw [vf,wg,wG];exact ⟨λz=>z.2,λz=>⟨qbc z,z⟩⟩
  cases q:decide (jax secs gs [((row:Int),s)]) with
  | true =>
   refine zaV (by rw [cnd,q]) (Eng.qg (d:=tI (A++[s])) (qC (x:=tI A) (y:=.tup [.int s]) rfl (jbj (zl rfl qw) (by simp)) ?_) rfl rfl) rfl;unfold tI;rw [qa1 (qd (by simp [eI];omega))];simp [eI]
  | false=>exact zq (by rw [cnd,q]) rfl⟩
 refine Eng.jo it e2 ?_;refine qe ?_;show some (tI ([]++_))=_;rw [List.nil_append];congr 2;unfold zT;refine List.filter_congr λs _=>?_
 rw [vf,wG,wG];exact qcn mem nn
end U
end
section
open PySem Eng LG M DL
namespace U
open Q
theorem zdP {C:Tab} {σ σ':List Sl} {n:Nat} {c:Eng.Code} {b r:Stms} {v:Option Fl} (h:zb1 (λρ'=>exs C b ρ') (λρ'=>(ev C c (vA ρ')).bind truO) n σ=some (.nx σ')) (h2:exs C r σ'=v):exs C (.cons (.whl n c b) r) σ=v:=by
 show (ex C (.whl n c b) σ).bind _=v;rw [show ex C (.whl n c b) σ=some (.nx σ') from h];exact h2
noncomputable def qbY:Stms:=(.cons (.set .pu (.one 2) (.bin .Mod (.var 0) (.var 1))) (.cons (.set .pu (.one 0) (.var 1)) (.cons (.set .pu (.one 1) (.var 2)) .nil)))
noncomputable def qej:Def:=⟨3,2,(.cons (.whl 20 (.cmp .Gt (.var 1) (.cst (.int 0))) qbY) (.cons (.ret (.var 0)) .nil))⟩
theorem ybY (C:Tab):∀ (n a b:Nat) (y:Sl),b<n->∃ z,zb1 (λρ'=>exs C qbY ρ') (λρ'=>(ev C (.cmp .Gt (.var 1) (.cst (.int 0))) (vA ρ')).bind truO) n [.pu (.int (a:Int)),.pu (.int (b:Int)),y]=some (.nx [.pu (.int ((Nat.gcd a b:Nat):Int)),.pu (.int 0),z])
 | 0,_,_,_,h=>absurd h (Nat.not_lt_zero _)
 | n+1,a,b,y,h=>by
  have cnd:(ev C (.cmp .Gt (.var 1) (.cst (.int 0))) (vA [.pu (.int (a:Int)),.pu (.int (b:Int)),y])).bind truO=some (decide (0<b)):=by
   rw [jq (x:=.int (b:Int)) (y:=.int 0) (k:=decide ((0:Int)<(b:Int))) rfl rfl rfl,wd];show some _=some _;congr 1;exact decide_eq_decide.mpr (by omega)
  rw [zb1];show ∃ z,((ev C (.cmp .Gt (.var 1) (.cst (.int 0))) (vA [.pu (.int (a:Int)),.pu (.int (b:Int)),y])).bind truO).bind _=_;rw [cnd,wd]
  by_cases hb:0<b
  ·have step:exs C qbY [.pu (.int (a:Int)),.pu (.int (b:Int)),y]=some (.nx [.pu (.int (b:Int)),.pu (.int ((a%b:Nat):Int)),.pu (.int ((a%b:Nat):Int))]):=by
    unfold qbY;refine Eng.qg (d:=.int ((a%b:Nat):Int)) (qC (x:=.int (a:Int)) (y:=.int (b:Int)) rfl rfl ?_) rfl ?_
    ·show (if (0:Int)<(b:Int) then some (D.int ((a:Int)%(b:Int))) else none)=_;rw [if_pos (by omega)];rfl
    exact Eng.qg rfl rfl (Eng.qg rfl rfl rfl)
   obtain ⟨z,e⟩:=ybY C n b (a%b) (.pu (.int ((a%b:Nat):Int))) (by have:=Nat.mod_lt a hb;omega);refine ⟨z,?_⟩;rw [decide_eq_true hb,if_pos rfl];show (exs C qbY [.pu (.int (a:Int)),.pu (.int (b:Int)),y]).bind _=_;rw [step,wd];have g:Nat.gcd a b=Nat.gcd b (a%b):=by rw [Nat.gcd_comm a b,Nat.gcd_rec b a,Nat.gcd_comm]
   rw [g];exact e
  ·have:b=0:=by omega
   subst this;refine ⟨y,?_⟩;rw [Nat.gcd_zero_right];rfl
theorem qdP (C:Tab) {a b:Nat} (h:b<20):jC C qej [.int (a:Int),.int (b:Int)]=some (.int ((Nat.gcd a b:Nat):Int)):=by
 obtain ⟨z,e⟩:=ybY C 20 a b .un h;exact qc rfl (zdP e (qe rfl))
theorem ydP {S:List (List Int)} {row:Nat} (hr:row<S.length):∃ B,(qu S).filter (λc=>decide ((row:Int)∈c))=yu S (S.getD row [])::B:=by
 have all:∀ c∈(qu S).filter (λc=>decide ((row:Int)∈c)),c=yu S (S.getD row []):=λc hc=>by
  obtain ⟨h1,h2⟩:=List.mem_filter.mp hc;obtain ⟨i,hi,rfl⟩:=mem_clsL.mp h1;obtain ⟨l,hl,e,hk⟩:=mem_idxI.mp (vg h2)
  have:l=row:=by omega
  subst this;rw [hk]
 have ne:(qu S).filter (λc=>decide ((row:Int)∈c))≠[]:=λz=>by
  have:yu S (S.getD row [])∈(qu S).filter (λc=>decide ((row:Int)∈c)):=List.mem_filter.mpr ⟨mem_clsL.mpr ⟨row,hr,rfl⟩,decide_eq_true (mem_idxI.mpr ⟨row,hr,rfl,rfl⟩)⟩
  rw [z] at this;cases this
 cases q:(qu S).filter (λc=>decide ((row:Int)∈c)) with
 | nil=>exact absurd q ne
 | cons c B=>exact ⟨B,by rw [all c (by rw [q];exact wN)]⟩
theorem yc9 {S:List (List Int)} {row:Nat} (hr:row<S.length):(row:Int)∈yu S (S.getD row []):=mem_idxI.mpr ⟨row,hr,rfl,rfl⟩
noncomputable def yej (e:Eng.Code) (k:Nat):Eng.Code:=(.idx (.comp (.var 0) (.one 0) 1 [k] (.data e) (.some (.cmp .In (.var 1) (.var 0)))) (.cst (.int 0)))
theorem jbY {C:Tab} {ρ:En} {e:Eng.Code} {k:Nat} {x:D} {S:List (List Int)} {row:Nat} (he:ev C e ρ=some x) (hx:itemsD x=some ((qu S).map tI)) (hk:ρ[k]?=some (some (.int (row:Int)))) (hr:row<S.length):ev C (yej e k) ρ=some (tI (yu S (S.getD row []))):=by
 obtain ⟨B,hB⟩:=ydP hr;refine ji (x:=.lst (((qu S).filter λc=>decide ((row:Int)∈c)).map tI)) (y:=.int 0) (yi (zj he hx) (Q.yc (qu S) λc _=>?_)) rfl ?_
 ·refine Q.turn_if (ρ':=[some (tI c),some (.int (row:Int))]) ?_ (jq rfl rfl (qc7 _ _)) rfl;show some [some (tI c),(ρ[k]?).join]=_;rw [hk];rfl
 ·rw [hB];exact qad (i:=0) rfl
noncomputable def yam (i9:Nat):Def:=⟨3,3,(.cons (.ret (yej (.call i9 (.cons (.var 0) (.cons (.var 1) .nil))) 2)) .nil)⟩
theorem qaN (C:Tab) {i9:Nat} {t w:D} {S:List (List Int)} {row:Nat} (h9:C i9 [t,w]=some (eC S)) (hr:row<S.length):jC C (yam i9) [t,w,.int (row:Int)]=some (tI (yu S (S.getD row []))) :=
 qc rfl (qe (jbY (je rfl rfl h9) rfl rfl hr))
theorem jdP (xs:List Int) (v:Int):yz .count [tI xs,.int v]=some (.int ((xs.count v:Nat):Int)):=by
 show (if zC (.int v) (tI xs) then some (D.int (qbm (.int v) (eI xs))) else none)=_;rw [if_pos (yaI rfl (zac xs) (ya9 xs)),qbQ];congr 3
noncomputable def qz (secs:List Int) (c:List Int) (row:Nat):Nat:=(qj secs c).count (secs.getD row 0)
theorem yaN {secs c:List Int} {row:Nat} (h:(row:Int)∈c):0<qz secs c row:=List.count_pos_iff.mpr (wH.mpr ⟨_,h,by simp⟩)
theorem qbd {secs c:List Int} {row:Nat}:qz secs c row<=c.length:=by
 unfold qz
 have:=List.count_le_length (a:=secs.getD row 0) (l:=qj secs c)
 simpa [qj] using this
noncomputable def jej (i12 i19 i20:Nat):Def:=⟨6,3,(.cons (.set .pu (.one 3) (.call i20 (.cons (.var 0) (.cons (.var 1) (.cons (.var 2) .nil))))) (.cons (.set .pu (.one 4) (.blt .count (.cons (.call i12 (.cons (.var 0) (.cons (.var 3) .nil))) (.cons (.idx (.idx (.var 0) (.cst (.int 2))) (.var 2)) .nil)))) (.cons (.set .pu (.one 5) (.call i19 (.cons (.var 4) (.cons (.blt .len (.cons (.var 3) .nil)) .nil)))) (.cons (.ret (.tup (.cons (.bin .FloorDiv (.var 4) (.var 5)) (.cons (.bin .FloorDiv (.blt .len (.cons (.var 3) .nil)) (.var 5)) .nil)))) .nil))))⟩
theorem zbQ {C:Tab} {ρ:En} {a b:Eng.Code} {x y d:D} {f:Blt} (h1:ev C a ρ=some x) (h2:ev C b ρ=some y) (h3:yz f [x,y]=some d):ev C (.blt f (.cons a (.cons b .nil))) ρ=some d:=by
 rw [qa0,yh,h1,wd,yh,h2,wd];exact h3
theorem ybd {a g:Nat} (h:0<g) (h2:g<1000):qM .FloorDiv (.int (a:Int)) (.int (g:Int))=some (.int ((a/g:Nat):Int)):=by
 show (if (0:Int)<(g:Int)/\(g:Int)<1073741824 then some (D.int ((a:Int)/(g:Int))) else none)=_;rw [if_pos (by omega)];rfl
theorem zdQ (C:Tab) {i12 i19 i20:Nat} {Ls:List (List (List Int))} {rows:List (List Int)} {secs c:List Int} {w:D} {row:Nat} (T:TabOk Ls rows secs) (hr:row<rows.length) (hc:(row:Int)∈c) (hcl:c.length<=8)
  (h20:C i20 [eT Ls rows secs,w,.int (row:Int)]=some (tI c)) (h12:C i12 [eT Ls rows secs,tI c]=some (tI (sortI (qj secs c)))) (h19:∀ a b:Nat,b<20->C i19 [.int (a:Int),.int (b:Int)]=some (.int ((Nat.gcd a b:Nat):Int))) :
  jC C (jej i12 i19 i20) [eT Ls rows secs,w,.int (row:Int)]=some (.tup [.int ((qz secs c row/Nat.gcd (qz secs c row) c.length:Nat):Int),.int ((c.length/Nat.gcd (qz secs c row) c.length:Nat):Int)]):=by
 have hu:=yaN (secs:=secs) hc;have hul:=qbd (secs:=secs) (c:=c) (row:=row);have hg:0<Nat.gcd (qz secs c row) c.length:=Nat.gcd_pos_of_pos_left _ hu;have hgl:Nat.gcd (qz secs c row) c.length<=qz secs c row:=Nat.gcd_le_left _ hu;refine qc rfl ?_;refine Eng.qg (zu rfl rfl rfl h20) rfl ?_;refine Eng.qg (d:=.int ((qz secs c row:Nat):Int)) (zbQ (x:=tI (sortI (qj secs c))) (y:=.int (secs.getD row 0)) (je rfl rfl h12) (ji (x:=tI secs) (y:=.int (row:Int)) (ji rfl rfl at2) rfl ?_) ?_) rfl ?_
 ·have:=zbc T (i:=(row:Int)) (by omega);simpa using this
 ·rw [jdP,(sortI_perm _).count_eq];rfl
 refine Eng.qg (d:=.int ((Nat.gcd (qz secs c row) c.length:Nat):Int)) (je rfl (jk (x:=tI c) rfl zk) ?_) rfl ?_
 ·have:((eI c).length:Int)=((c.length:Nat):Int):=by simp [eI]
  rw [this];exact h19 _ _ (by omega)
 refine qe (jbj (zl (qC rfl rfl (ybd hg (by omega))) (zl (qC (x:=.int ((c.length:Nat):Int)) (jk (x:=tI c) rfl (by rw [tI,zk];simp [eI])) rfl (ybd hg (by omega))) qw)) (by simp))
end U
end
section
noncomputable section
namespace K50
open PySem Eng M Q U
noncomputable def jed:Def:=⟨12,1,(.cons (.set .pu (.one 1) (.call 4 (.cons (.call 1 (.cons (.var 0) (.cons (.cst (.int 0)) .nil))) .nil))) (.cons (.set .pu (.one 2) (.call 1 (.cons (.var 0) (.cons (.cst (.int 1)) .nil)))) (.cons (.set .pu (.one 3) (.blt .tuple (.cons (.comp (.call 5 (.cons (.call 1 (.cons (.var 1) (.cons (.bin .Add (.cst (.int 2)) (.var 0)) .nil))) (.cons (.var 2) .nil))) (.one 0) 1 [0,1] (.rng (.cons (.bin .Mod (.var 2) (.cst (.int 4))) .nil)) .none) .nil))) (.cons (.set .pu (.one 4) (.comp (.call 31 (.cons (.var 1) (.cons (.var 2) (.cons (.var 0) .nil)))) (.one 0) 1 [1,3] (.rng (.cons (.blt .len (.cons (.idx (.var 1) (.cst (.int 1))) .nil)) .nil)) .none)) (.cons (.set .pu (.one 5) (.bin .Mod (.bin .FloorDiv (.var 2) (.cst (.int 4))) (.blt .len (.cons (.idx (.var 1) (.cst (.int 1))) .nil)))) (.cons (.set .pu (.one 6) (.call 17 (.cons (.var 1) (.cons (.var 3) (.cons (.var 5) .nil))))) (.cons (.ite (.or (.cmp .NotEq (.var 6) (.idx (.var 4) (.var 5))) (.cmp .NotEq (.comp (.var 0) (.one 0) 1 [] (.data (.var 6)) (.some (.isi (.var 0) .bool))) (.lst .nil))) (.cons (.ret (.cst (.bl false))) .nil) .nil) (.cons (.ite (.cmp .NotEq (.call 18 (.cons (.var 1) (.cons (.var 3) .nil))) (.blt .tuple (.cons (.comp (.var 0) (.one 0) 1 [4] (.rng (.cons (.blt .len (.cons (.var 4) .nil)) .nil)) (.some (.cmp .Eq (.blt .len (.cons (.idx (.var 1) (.var 0)) .nil)) (.cst (.int 1))))) .nil))) (.cons (.ret (.cst (.bl false))) .nil) .nil) (.cons (.set .pu (.one 7) (.call 5 (.cons (.call 1 (.cons (.var 0) (.cons (.cst (.int 6)) .nil))) (.cons (.var 1) .nil)))) (.cons (.set .pu (.one 8) (.idx (.comp (.var 0) (.one 0) 1 [5] (.data (.call 23 (.cons (.var 1) (.cons (.var 7) .nil)))) (.some (.cmp .In (.var 1) (.var 0)))) (.cst (.int 0)))) (.cons (.set .pu (.one 9) (.blt .len (.cons (.comp (.var 0) (.one 0) 1 [1,5] (.data (.var 8)) (.some (.cmp .Eq (.idx (.idx (.var 1) (.cst (.int 2))) (.var 0)) (.idx (.idx (.var 1) (.cst (.int 2))) (.var 2))))) .nil))) (.cons (.set .pu (.many [10,11]) (.call 21 (.cons (.var 1) (.cons (.var 7) (.cons (.var 5) .nil))))) (.cons (.ite (.or (.isi (.var 10) .bool) (.or (.isi (.var 11) .bool) (.or (.cmp .NotEq (.bin .Mult (.var 10) (.blt .len (.cons (.var 8) .nil))) (.bin .Mult (.var 9) (.var 11))) (.cmp .Lt (.var 11) (.cst (.int 1)))))) (.cons (.ret (.cst (.bl false))) .nil) .nil) (.cons (.ret (.cmp .Eq (.comp (.var 0) (.one 0) 1 [10,11] (.rng (.cons (.cst (.int 2)) (.cons (.bin .Add (.var 10) (.cst (.int 1))) .nil))) (.some (.and (.cmp .Eq (.bin .Mod (.var 1) (.var 0)) (.cst (.int 0))) (.cmp .Eq (.bin .Mod (.var 2) (.var 0)) (.cst (.int 0)))))) (.lst .nil))) .nil))))))))))))))⟩
noncomputable def prog:List Def:=[LG.qO,LG.qk,LG.qK,LG.d_law_ladder,LG.yK,LG.qaH,qac,qal,jbO 6 7,qaJ 8,qcA 9,c_places,qbV,zP,zV 13,zcA,Q.c_can 14 15 16,ycA 10 11 12 14 15 16,ybW 17,qej,yam 9,jej 12 19 20,zbR,zaK 22,LG.qk,LG.qk,LG.qk,LG.qk,LG.qk,qcB,U.c_can 29 30,jbX 23 29 30,jed]
end K50
end
end
section
open PySem Eng LG DL
namespace M50
open M K50 Q U
theorem zaX (k:Nat) (a b:Int):jh prog (k+1) 2 [.int a,.int b]=some (.int (drawn a b)):=yb rfl (zbM _ a b)
theorem ycn (k:Nat) (n:Int):∃ m L,jh prog (k+2) 3 [.int n]=some (eL L)/\Lad m L:=by
 obtain ⟨m,L,h1,h2⟩:=ybj (jh prog (k+1)) (zaX k) n;exact ⟨m,L,yb rfl h1,h2⟩
theorem jc9 (k:Nat) (n:Int):∃ Ls rows secs,jh prog (k+3) 4 [.int n]=some (eT Ls rows secs)/\TabOk Ls rows secs:=by
 obtain ⟨Ls,rows,secs,h1,h2⟩:=ybN (jh prog (k+2)) (zaX (k+1)) (ycn k) n;exact ⟨Ls,rows,secs,yb rfl h1,h2⟩
theorem zbZ (k:Nat) (ns:List Int) (j:Int) (hj:0<=j):∃ r:Int,jh prog (k+2) 1 [.scr ns,.int j]=some (.int r):=by
 obtain ⟨r,h⟩:=jbN (jh prog (k+1)) ns j _ (yb rfl (ycj _ ns j hj));exact ⟨r,yb rfl h⟩
section
variable {Ls:List (List (List Int))} {rows:List (List Int)} {secs:List Int} (T:TabOk Ls rows secs)
include T
theorem zee (k:Nat) (n:Int):jh prog (k+2) 5 [.int n,eT Ls rows secs]=some (tI (zb2 n 0 Ls)):=yb rfl (yc4 (jh prog (k+1)) (zaX k) n T)
section
variable {w:List Int} (W:zL Ls w)
include W
theorem zda (k:Nat):jh prog (k+1) 7 [eT Ls rows secs,tI w]=some (.lst ((qf Ls w).map tI)):=yb rfl (jaI _ T W)
theorem qdQ (k:Nat):∀ r∈rows,jh prog (k+1) 6 [.lst ((qf Ls w).map tI),tI r]=some (tI (jf (qf Ls w) r)):=λr hr=>yb rfl (jav _ (fits_of T.lad W (T.row r hr)))
theorem qda (k:Nat):jh prog (k+2) 8 [eT Ls rows secs,tI w]=some (.tup ((zc Ls rows w).map tI)):=yb rfl (zbP _ T W (zda T W k) (qdQ T W k))
theorem ydQ:(zc Ls rows w).length<=50:=by have:=T.r8;simp [zc];omega
theorem jaN (k:Nat):jh prog (k+3) 9 [eT Ls rows secs,tI w]=some (eC (zc Ls rows w)):=yb rfl (jaV _ (ydQ T W) (qda T W k))
theorem jcB (k:Nat):jh prog (k+2) 23 [eT Ls rows secs,tI w]=some (.lst ((qu (zc Ls rows w)).map tI)):=yb rfl (jac _ (ydQ T W) (yb rfl (zaw _ T W)))
theorem qbZ {c:List Int} (hc:c∈qu (zc Ls rows w)):∀ i∈c,0<=i/\i<(rows.length:Int):=λi hi=>by
 obtain ⟨j,_,rfl⟩:=mem_clsL.mp hc;obtain ⟨l,hl,rfl,_⟩:=mem_idxI.mp hi;simp [zc] at hl;omega
theorem ybZ {c:List Int} (hc:c∈qu (zc Ls rows w)):c.length<=8:=by
 obtain ⟨j,_,rfl⟩:=mem_clsL.mp hc
 have:=List.length_filter_le (λi=>(zc Ls rows w).getD i []==(zc Ls rows w).getD j []) (List.range (zc Ls rows w).length)
 have h8:=T.r8
 have:(yu (zc Ls rows w) ((zc Ls rows w).getD j [])).length<=(zc Ls rows w).length:=by simpa [yu] using this
 simp [zc] at this ⊢;omega
end
end
theorem qaX (k:Nat) {left:List (List Int)} (h9:∀ l∈left,l.length<=900):∀ ps s,(∀ p∈ps,∀ l,left[p]?=some l->s∈l)->(∀ p∈ps,p<left.length)->jh prog (k+2) 14 [eL left,.lst (eI (nI ps)),.int s]=some (eL (after left ps s)) :=
 λps s h1 h2=>yb rfl (jae _ (λl hl hs=>yb rfl (qaW _ hs (h9 l hl))) h1 h2)
theorem jbZ (k:Nat) {left:List (List Int)} (hs:∀ l∈left,∀ s∈l,0<=s/\s<4):∀ ps,ps≠[]->(∀ p∈ps,p<left.length)->jh prog (k+1) 15 [eL left,.lst (eI (nI ps))]=some (.lst (eI (jL left ps))) :=
 λps h0 h2=>yb rfl (ycl _ h0 h2 λl hl=>qbU (hs l hl))
theorem jdQ (k:Nat) {l0:List (List Int)} {pl:List (List Nat)}:∀ (m:Nat) (rows:List Nat) (left:List (List Int)),rows.length<=m->Wf l0 rows left pl->jh prog (k+m+3) 16 [tI (nI rows),eL left,ePl pl,.mem (yaO pl l0)]=some (.bl (zay rows left pl))
 | 0,rows,left,h,w=>yb rfl (zbV _ w (qaX (k+0) w.ll) (jbZ (k+0+1) w.sm) λrows' left' hl _=>absurd hl (by omega))
 | m+1,rows,left,h,w=>yb rfl (zbV (jh prog (k+m+3)) w (qaX (k+m+1) w.ll) (jbZ (k+m+2) w.sm) λrows' left' hl w'=>jdQ k m rows' left' (by omega) w')
open Classical in
theorem jcn (secs:List Int) (r:Nat):zT [] secs r=[0,1,2,3]:=by
 unfold zT;rw [List.filter_eq_self];intro s _;exact decide_eq_true ⟨λ_=>s,rfl,λS hS=>by cases hS⟩
section
variable {Ls:List (List (List Int))} {rows:List (List Int)} {secs:List Int} (T:TabOk Ls rows secs)
include T
theorem zcC (k:Nat) {ws:List (List Int)} (hl:ws.length<=100) (W:∀ w∈ws,zL Ls w) {r:Nat} (hr:r<rows.length) :
  jh prog (k+12) 17 [eT Ls rows secs,.tup (ws.map tI),.int (r:Int)]=some (tI (zT (ws.map (zc Ls rows)) secs r)):=by
 cases ws with
 | nil =>
  rw [List.map_nil,List.map_nil,jcn];exact yb rfl (qc rfl (zS (qck (k:=false) rfl rfl) (qe rfl)))
 | cons w0 ws =>
 obtain ⟨ws',hws⟩:∃ l,l=w0::ws:=⟨_,rfl⟩;rw [<-hws] at hl W ⊢;have hw:ws'≠[]:=by rw [hws];simp
 have hn:∀ S∈ws'.map (zc Ls rows),S.length=rows.length:=λS hS=>by
  obtain ⟨w,_,rfl⟩:=wH.mp hS;simp [zc]
 have hS:ws'.map (zc Ls rows)≠[]:=by simpa using hw
 have h8:=T.r8;have wf:=qbW hn hS h8 T.sec T.sl;rw [<-jc8 hn hS h8 T.sec T.sl hr];refine yb rfl (ycm (jh prog (k+11)) T hw hr ?_ (λc hc=>?_) (λr=>yb rfl (jbk _ _ r)) (zbW hn hS hr) wf (qaX (k+9) wf.ll) (jbZ (k+10) wf.sm) λrows' left' h w=>jdQ k 8 rows' left' (by omega) w)
 ·exact yb rfl (zcm (sh:=zc Ls rows) _ (λw hw'=>jaN T (W w hw') (k+7)) (λw _=>by simp [zc];exact h8) hl)
 ·have:=qbb hn hc;exact yb rfl (zaM _ T (jaW hn hc) (by omega))
theorem yda (k:Nat) {ws:List (List Int)} (hl:ws.length<=100) (W:∀ w∈ws,zL Ls w):jh prog (k+13) 18 [eT Ls rows secs,.tup (ws.map tI)]=some (tI (nI (qV (ws.map (zc Ls rows)) secs rows.length))) :=
 yb rfl (jbW _ T λr hr=>zcC T k hl W hr)
theorem zb0 (k:Nat) {gs:List (List Int)} (h:∀ c∈gs,c.length<64/\∀ i∈c,0<=i/\i<(rows.length:Int)) (gv:List (Int×Int)):jh prog (k+1) 29 [eT Ls rows secs,.lst (gs.map tI),.dct gv]=some (.bl (gs.all (qay secs gv))):=yb rfl (jcm _ T gv h)
open Classical in
theorem qcC (k:Nat) {gs:List (List Int)} (h:∀ c∈gs,c.length<64/\∀ i∈c,0<=i/\i<(rows.length:Int)):∀ (m:Nat) (gv:List (Int×Int)),(jW rows.length gv).length<=m->gv.length+m<900->(gv.map (·.1)).Nodup->gs.all (qay secs gv)=true ->
  jh prog (k+m+2) 30 [eT Ls rows secs,.lst (gs.map tI),.dct gv]=some (.bl (decide (jax secs gs gv)))
 | 0, gv, hm, hl, hk, hf => yb rfl (ybc _ T gv (by omega) (λc hc => (h c hc).2) hk hf (zb0 T (k + 0) h) λr s hr _ => by
   have:=List.length_pos_of_mem hr
   omega)
 | m + 1, gv, hm, hl, hk, hf => yb rfl (ybc (jh prog (k + m + 2)) T gv (by omega) (λc hc => (h c hc).2) hk hf (zb0 T (k + m + 1) h) λr s hr hf' => by
   have:=qc9 (s:=s) hr
   refine qcC k h m _ (by omega) (by rw [wU,List.length_singleton];omega) ?_ hf';rw [List.map_append,List.map_cons,List.map_nil]
   have hn:r∉gv.map (·.1):=λz=>by
    obtain ⟨p,hp,e⟩:=wH.mp z;have h2:=(List.mem_filter.mp hr).2
    have:(gv.any λp=>p.1==r)=true:=List.any_eq_true.mpr ⟨p,hp,by simpa using e⟩
    rw [this] at h2;cases h2
   rw [List.nodup_append];exact ⟨hk,by simp,λa ha b hb=>by rw [va.mp hb];exact λ(z:a=r)=>hn (by rw [<-z];exact ha)⟩)
theorem jda (k:Nat) {ws:List (List Int)} (hl:ws.length<=8) (W:∀ w∈ws,zL Ls w) {r:Nat} (hr:r<rows.length) :
  jh prog (k+11) 31 [eT Ls rows secs,.tup (ws.map tI),.int (r:Int)]=some (tI (zT (ws.map (zc Ls rows)) secs r)):=by
 have h8:=T.r8
 have hg:∀ c∈ws.flatMap (λw=>qu (zc Ls rows w)),c.length<64/\∀ i∈c,0<=i/\i<(rows.length:Int):=λc hc=>by
  obtain ⟨w,h1,h2⟩:=List.mem_flatMap.mp hc
  have:=ybZ T (W w h1) h2
  exact ⟨by omega,qbZ T (W w h1) h2⟩
 refine yb rfl (zbY (jh prog (k+10)) hl (λw hw=>⟨jcB T (W w hw) (k+8),?_⟩) (λw hw c hc i hi=>(qbZ T (W w hw) hc i hi).1) (λs=>zb0 T (k+9) hg _) λs hf=>qcC T k hg 8 _ ?_ (by simp) (by simp) hf)
 ·have:=Q.jI (zc Ls rows w);simp [qu,zc] at this ⊢;omega
 ·refine wQ (List.length_filter_le _ _) ?_;rw [nI,wD,List.length_range];exact h8
end
end M50
end
section
open PySem Eng LG DL
namespace M50
open M K50 Q U
theorem zdb {C:Tab} {ρ:En} {c:Eng.Code} {k l:Bool} (h:ev C c ρ=some (.bl k)) (e:k=l):ev C c ρ=some (.bl l):=e▸h
theorem zdR (xs ys:List Int):yC .NotEq (tI xs) (tI ys)=some (!decide (xs=ys)):=by rw [zct (qaU xs ys),yaH]
theorem ne_nil:yC .NotEq (.lst []) (.lst [])=some false:=rfl
theorem qb0 {a:Int} {n:Nat} (h:0<n):∃ r:Nat,r<n/\qM .Mod (.int a) (.int (n:Int))=some (.int (r:Int)):=by
 have h1:=Int.emod_nonneg a (by omega:(n:Int)≠0);have h2:=vd a (by omega:(0:Int)<n);refine ⟨(a%(n:Int)).toNat,by omega,?_⟩;show (if (0:Int)<(n:Int) then some (D.int (a%(n:Int))) else none)=_;rw [if_pos (by omega),Int.toNat_of_nonneg h1]
theorem qdb (C:Tab) (ρ:En) (xs:List Int):gather (turn C (.var 0) (.one 0) 1 [] (.some (.isi (.var 0) .bool)) ρ) (eI xs)=some []:=by
 have:=Q.yc (f:=turn C (.var 0) (.one 0) 1 [] (.some (.isi (.var 0) .bool)) ρ) (g:=D.int) (p:=λ_=>false) xs λx _=>Q.turn_if (ρ':=[some (.int x)]) rfl (yc3 (d:=.bl false) rfl rfl) rfl
 rw [eI,this];simp
theorem yb0 (C:Tab) (ρ:En) {a b:Int} (h1:ρ[10]?=some (some (.int a))) (h2:ρ[11]?=some (some (.int b))):∀ (n:Nat) (lo:Int),0<lo->(∀ p,lo<=p->p<lo+n->¬ (a%p=0/\b%p=0)) ->
  gather (turn C (.var 0) (.one 0) 1 [10,11] (.some (.and (.cmp .Eq (.bin .Mod (.var 1) (.var 0)) (.cst (.int 0))) (.cmp .Eq (.bin .Mod (.var 2) (.var 0)) (.cst (.int 0))))) ρ) (jb lo n)=some []
 | 0,_,_,_=>rfl
 | n+1,lo,h0,h=>by
  have bl:jay (.one 0) (.int lo) (yj 1 [10,11] ρ)=some [some (.int lo),some (.int a),some (.int b)]:=by
   show some [some (D.int lo),(ρ[10]?).join,(ρ[11]?).join]=_;rw [h1,h2];rfl
  have md:∀ x:Int,qM .Mod (.int x) (.int lo)=some (.int (x%lo)):=λx=>if_pos h0
  have t:=Q.turn_if (C:=C) (e:=.var 0) (t:=.one 0) (n:=1) (keep:=[10,11]) (ρ:=ρ) (c:=.and (.cmp .Eq (.bin .Mod (.var 1) (.var 0)) (.cst (.int 0))) (.cmp .Eq (.bin .Mod (.var 2) (.var 0)) (.cst (.int 0)))) (k:=(a%lo==0)&&(b%lo==0)) (x:=.int lo) bl (qc3 (jq (qC rfl rfl (md a)) rfl rfl) λ_=>jq (qC rfl rfl (md b)) rfl rfl) rfl
  have hf:((a%lo==0)&&(b%lo==0))=false:=by
   have:=h lo (Int.le_refl _) (by omega)
   cases q:(a%lo==0)&&(b%lo==0) with
   | false=>rfl
   | true =>
    rw [wg,vm,vm] at q;exact absurd q this
  rw [hf] at t;rw [jb,gather,t,wd,yb0 C ρ h1 h2 n (lo+1) (by omega) λp hp hq=>h p (by omega) (by omega)];rfl
theorem cop {u L:Nat} (hu:0<u) {p:Int} (hp:2<=p):¬ (((u/Nat.gcd u L:Nat):Int)%p=0/\((L/Nat.gcd u L:Nat):Int)%p=0):=by
 rintro ⟨h1,h2⟩;obtain ⟨q,rfl⟩:∃ q:Nat,p=(q:Int):=⟨p.toNat,by omega⟩;have d1:q∣u/Nat.gcd u L:=Int.natCast_dvd_natCast.mp (Int.dvd_of_emod_eq_zero h1);have d2:q∣L/Nat.gcd u L:=Int.natCast_dvd_natCast.mp (Int.dvd_of_emod_eq_zero h2);have g0:=Nat.gcd_pos_of_pos_left L hu;have e1:=Nat.div_mul_cancel (Nat.gcd_dvd_left u L);have e2:=Nat.div_mul_cancel (Nat.gcd_dvd_right u L)
 have f1:q*Nat.gcd u L∣u:=by
  have:=Nat.mul_dvd_mul_right d1 (Nat.gcd u L)
  rwa [e1] at this
 have f2:q*Nat.gcd u L∣L:=by
  have:=Nat.mul_dvd_mul_right d2 (Nat.gcd u L)
  rwa [e2] at this
 have:=Nat.le_of_dvd g0 (Nat.dvd_gcd f1 f2)
 have:=Nat.mul_le_mul_right (Nat.gcd u L) (show 2<=q by omega)
 omega
theorem qdR {C:Tab} {ρ:En} {a b:Eng.Code} {x y:D} {ds:List D} (h1:ev C a ρ=some x) (h2:ev C b ρ=some y) (h3:rngD [x,y]=some ds):evI C (.rng (.cons a (.cons b .nil))) ρ=some ds:=by
 rw [zaQ,yh,h1,wd,yh,h2,wd];exact h3
theorem yew {a:Nat} (h:a<=8):rngD [.int 2,.int ((a:Int)+1)]=some (jb 2 ((a:Int)+1-2).toNat):=by
 have e:(((a:Int)+1-2).toNat<=sizeLine):=qd (by omega);unfold rngD;exact if_pos ⟨by decide,by decide,by omega,by omega,e⟩
theorem ydb (ns:List Int):jh prog 14 32 [.scr ns]=some (.bl true):=by
 refine yb rfl ?_;obtain ⟨C,hC⟩:∃ C,C=jh prog 13:=⟨_,rfl⟩;rw [<-hC];obtain ⟨mx,hmx⟩:∃ mx:Nat->Int,∀ j:Nat,C 1 [.scr ns,.int (j:Int)]=some (.int (mx j)):=⟨λj=>Classical.choose (zbZ 11 ns (j:Int) (by omega)),λj=>by rw [hC];exact Classical.choose_spec (zbZ 11 ns (j:Int) (by omega))⟩;obtain ⟨Ls,rows,secs,ht,T⟩:=jc9 10 (mx 0);have n1:=T.r1;have n8:=T.r8;have hsl:=T.sl;have wy:∀ n:Int,C 5 [.int n,eT Ls rows secs]=some (tI (zb2 n 0 Ls)):=λn=>by rw [hC];exact zee T 11 n
 have wok:∀ n:Int,zL Ls (zb2 n 0 Ls):=λn=>ybO n Ls 0 T.lad
 obtain ⟨nw,hnw,enw⟩:=qb0 (a:=mx 1) (n:=4) (by decide);obtain ⟨ws,hws⟩:∃ ws:List (List Int),ws=(List.range nw).map λk=>zb2 (mx (2+k)) 0 Ls:=⟨_,rfl⟩
 have wl:ws.length<=8:=by rw [hws];simp;omega
 have W:∀ w∈ws,zL Ls w:=λw hw=>by
  rw [hws] at hw;obtain ⟨k,_,rfl⟩:=wH.mp hw;exact wok _
 obtain ⟨r,hr,er⟩:=qb0 (a:=mx 1/4) (n:=rows.length) (by omega);obtain ⟨P,hP⟩:∃ P:Nat->List Int,P=λr=>zT (ws.map (zc Ls rows)) secs r:=⟨_,rfl⟩
 have lp:∀ r<rows.length,C 31 [eT Ls rows secs,.tup (ws.map tI),.int (r:Int)]=some (tI (P r)):=λr hr=>by rw [hC,hP];exact jda T 2 wl W hr
 have pp:C 17 [eT Ls rows secs,.tup (ws.map tI),.int (r:Int)]=some (tI (P r)):=by rw [hC,hP];exact zcC T 1 (by omega) W hr
 have fo:C 18 [eT Ls rows secs,.tup (ws.map tI)]=some (tI (nI (qV (ws.map (zc Ls rows)) secs rows.length))):=by rw [hC];exact yda T 0 (by omega) W
 obtain ⟨w,hw⟩:∃ w,w=zb2 (mx 6) 0 Ls:=⟨_,rfl⟩;have Ww:zL Ls w:=by rw [hw];exact wok _
 have w6:C 5 [.int (mx 6),eT Ls rows secs]=some (tI w):=by rw [hw];exact wy _
 have lc:C 23 [eT Ls rows secs,tI w]=some (.lst ((qu (zc Ls rows w)).map tI)):=by rw [hC];exact jcB T Ww 11
 have Sl:(zc Ls rows w).length=rows.length:=by simp [zc]
 obtain ⟨c,hc⟩:∃ c,c=yu (zc Ls rows w) ((zc Ls rows w).getD r []):=⟨_,rfl⟩;have cm:c∈qu (zc Ls rows w):=by rw [hc];exact mem_clsL.mpr ⟨r,by omega,rfl⟩
 have cr:(r:Int)∈c:=by rw [hc];exact yc9 (by omega)
 have cl:=ybZ T Ww cm;have cb:=qbZ T Ww cm;obtain ⟨u,hu⟩:∃ u,u=qz secs c r:=⟨_,rfl⟩;have u0:0<u:=by rw [hu];exact yaN cr
 have ul:u<=c.length:=by rw [hu];exact qbd
 have gs:C 21 [eT Ls rows secs,tI w,.int (r:Int)]=some (.tup [.int ((u/Nat.gcd u c.length:Nat):Int),.int ((c.length/Nat.gcd u c.length:Nat):Int)]):=by
  rw [hC,hu];exact yb rfl (zdQ (jh prog 12) T hr cr cl (yb rfl (by rw [hc];exact qaN _ (jaN T Ww 8) (by omega))) (yb rfl (zaM _ T cb (by omega))) λa b h=>yb rfl (qdP _ h))
 have g0:0<Nat.gcd u c.length:=Nat.gcd_pos_of_pos_left _ u0;have gl:Nat.gcd u c.length<=u:=Nat.gcd_le_left _ u0;have gd1:=Nat.gcd_dvd_left u c.length;have gd2:=Nat.gcd_dvd_right u c.length;have cop:=λp (hp:2<=p)=>cop (L:=c.length) u0 hp
 obtain ⟨g,hg⟩:∃ g,g=Nat.gcd u c.length:=⟨_,rfl⟩;rw [<-hg] at gs g0 gl gd1 gd2 cop;obtain ⟨a,ha⟩:∃ a,a=u/g:=⟨_,rfl⟩;obtain ⟨b,hb⟩:∃ b,b=c.length/g:=⟨_,rfl⟩;have ea:a*g=u:=by rw [ha];exact Nat.div_mul_cancel gd1
 have eb:b*g=c.length:=by rw [hb];exact Nat.div_mul_cancel gd2
 rw [<-ha,<-hb] at gs cop;have ab:a<=8:=by rw [ha];have:=Nat.div_le_self u g;omega
 have bb:b<=8:=by rw [hb];have:=Nat.div_le_self c.length g;omega
 have b0:0<b:=by
  rcases Nat.eq_zero_or_pos b with z | z
  ·rw [z] at eb;omega
  ·exact z
 have mul:a*c.length=u*b:=by rw [<-ea,<-eb,Nat.mul_comm b g,Nat.mul_assoc]
 rw [<-hC] at ht;have m0:=hmx 0;have m1:=hmx 1;have m6:=hmx 6;refine qc rfl ?_;refine Eng.qg (jc3 (je rfl rfl m0) ht) rfl ?_;refine Eng.qg (je rfl rfl m1) rfl ?_;refine Eng.qg (d:=.tup (ws.map tI)) (jk (x:=.lst (ws.map tI)) (yi (qaI (x:=.int (nw:Int)) (qC rfl rfl enw) (zbl (by omega))) ?_) rfl) rfl ?_
 ·show gather _ (((List.range nw).map λn:Nat=>(n:Int)).map D.int)=_;rw [hws,wJ,wJ];refine yg (List.range nw) λk _=>?_
  refine Q.yL (ρ':=[some (.int (k:Int)),some (.scr ns),some (eT Ls rows secs)]) rfl (je (je rfl (qC rfl rfl (show qM .Add (.int 2) (.int (k:Int))=some (.int ((2+k:Nat):Int)) from ?_)) (hmx (2+k))) rfl (wy _));show some (D.int (2+(k:Int)))=_;congr 2
 have lenr:∀ {ρ:En},ev C (.idx (.var 1) (.cst (.int 1))) ρ=some (.tup (rows.map tI))->ev C (.blt .len (.cons (.idx (.var 1) (.cst (.int 1))) .nil)) ρ=some (.int (rows.length:Int)):=λh=>jk h (by rw [zk,wD])
 refine Eng.qg (d:=.lst ((List.range rows.length).map λr=>tI (P r))) (yi (qaI (lenr (ji rfl rfl at1)) (zbl (by omega))) ?_) rfl ?_
 ·show gather _ (((List.range rows.length).map λn:Nat=>(n:Int)).map D.int)=_;rw [wJ];refine yg (List.range rows.length) λk hk=>?_
  exact Q.yL (ρ':=[some (.int (k:Int)),some (eT Ls rows secs),some (.tup (ws.map tI))]) rfl (zu rfl rfl rfl (lp k (ve.mp hk)))
 refine Eng.qg (d:=.int (r:Int)) (qC (qC rfl rfl (show qM .FloorDiv (.int (mx 1)) (.int 4)=some (.int (mx 1/4)) from rfl)) (lenr (ji rfl rfl at1)) er) rfl ?_;refine Eng.qg (zu rfl rfl rfl pp) rfl ?_;have due:∀ k<rows.length,jam (.lst ((List.range rows.length).map λr=>tI (P r))) (.int (k:Int))=some (tI (P k)):=λk hk=>qad (by simp [hk])
 refine zq (zdb (zdV (k:=!decide (P r=P r)) (jq rfl (ji rfl rfl (due r hr)) (zdR _ _)) λ_=>jq (yi (zj (x:=tI (P r)) rfl rfl) (qdb C _ (P r))) (yaU qw (Nat.zero_le _)) ne_nil) (by simp)) ?_;refine zq (zdb (jq (y:=tI (nI (qV (ws.map (zc Ls rows)) secs rows.length))) (je rfl rfl fo) (jk (x:=.lst (eI (nI (qV (ws.map (zc Ls rows)) secs rows.length)))) (yi (qaI (x:=.int (rows.length:Int)) (jk rfl (by rw [yD];simp)) (zbl (by omega))) ?_) rfl) (zdR _ _)) (by simp)) ?_
 ·show gather _ (((List.range rows.length).map λn:Nat=>(n:Int)).map D.int)=some (((qV (ws.map (zc Ls rows)) secs rows.length).map λn:Nat=>(n:Int)).map D.int);rw [wJ,wJ];refine Q.yc (List.range rows.length) λk hk=>?_
  refine Q.turn_if (ρ':=[some (.int (k:Int)),some (.lst ((List.range rows.length).map λr=>tI (P r)))]) rfl (jq (jk (ji rfl rfl (due k (ve.mp hk))) zk) rfl ?_) rfl;rw [jcs (yO rfl)];congr 1;show (((eI (P k)).length:Int)==1)=_;rw [vf,hP];simp [eI];omega
 refine Eng.qg (je (je rfl rfl m6) rfl w6) rfl ?_;refine Eng.qg (d:=tI c) (by rw [hc];exact jbY (je rfl rfl lc) rfl rfl (by omega)) rfl ?_;refine Eng.qg (d:=.int (u:Int)) (jk (x:=.lst ((c.filter λk=>secs.getD k.toNat 0==secs.getD r 0).map D.int)) (yi (zj (x:=tI c) rfl rfl) (Q.yc c λk hk=>?_)) ?_) rfl ?_
 ·have s1:=zbc T (cb k hk);have s2:=zbc T (i:=(r:Int)) (by omega);rw [wV] at s2;exact Q.turn_if (ρ':=[some (.int k),some (eT Ls rows secs),some (.int (r:Int))]) rfl (jq (ji (ji rfl rfl at2) rfl s1) (ji (ji rfl rfl at2) rfl s2) (jX)) rfl
 ·rw [yD,wD,hu,qz,qj,List.count,List.countP_map,List.countP_eq_length_filter];rfl
 refine Eng.qg (zu rfl rfl rfl gs) rfl ?_;show exs C _ [.pu (.scr ns),.pu (eT Ls rows secs),.pu (.int (mx 1)),.pu (.tup (ws.map tI)),.pu (.lst ((List.range rows.length).map λr=>tI (P r))),.pu (.int (r:Int)),.pu (tI (P r)),.pu (tI w),.pu (tI c),.pu (.int (u:Int)),.pu (.int (a:Int)),.pu (.int (b:Int))]=_
 have jdb:∀ x y:Nat,x<=8->qM .Mult (.int (x:Int)) (.int (y:Int))=some (.int ((x*y:Nat):Int)):=λx y h=>by
  show (if ju (x:Int) (y:Int) then some (D.int ((x:Int)*(y:Int))) else none)=_;rw [if_pos (by unfold ju;simp;left;omega)];rfl
 refine zq (zdb (zdV (k:=false) (yc3 rfl rfl) λ_=>zdV (k:=false) (yc3 rfl rfl) λ_=>zdV (jq (x:=.int ((a*c.length:Nat):Int)) (y:=.int ((u*b:Nat):Int)) (qC rfl (jk (x:=tI c) rfl (show yz .len [tI c]=some (.int (c.length:Int)) by rw [tI,zk];simp [eI])) (jdb a c.length ab)) (qC rfl rfl (jdb u b (by omega))) (zct (yO rfl))) λ_=>jq rfl rfl rfl) ?_) ?_
 ·rw [mul];show (false||(false||(!(((u*b:Nat):Int)==((u*b:Nat):Int))||decide ((b:Int)<1))))=false;rw [beq_self_eq_true,vk (by omega)];rfl
 refine qe (jq (x:=.lst []) (y:=.lst []) (yi (ds:=jb 2 ((a:Int)+1-2).toNat) ?_ (yb0 C _ (a:=(a:Int)) (b:=(b:Int)) rfl rfl _ 2 (by decide) λp h1 _=>cop p h1)) (yaU qw (Nat.zero_le _)) rfl);exact qdR (x:=.int 2) (y:=.int ((a:Int)+1)) rfl (qC (x:=.int (a:Int)) (y:=.int 1) rfl rfl rfl) (yew ab)
end M50
end
namespace K50
open PySem PySem.Spec PyProof.Rows L2 Eng
noncomputable def top (i:Nat):Stmt:=PySem.Challenge.pw_amongalike_k50_whole_possible.main.body.getD i (.Pass ⟨0,0,0,0⟩)
noncomputable def sts:List Stmt:=([top 20,top 21,top 22,top 23,top 24,top 25,top 1,top 2,top 3,top 4,top 7,top 8,top 9,top 10,top 11,top 12]:List Stmt)++([top 13,top 14,top 15,top 16,top 17,top 18,top 26,top 27,top 21,top 21,top 21,top 21,top 21,top 33,top 34,top 35]:List Stmt)++([top 36]:List Stmt)
noncomputable def Ns:List (List Str):=([["_law_script","_law_k"],["_law_script","_law_k","_law_drawn_here"],["_law_number","_law_k","_law_drawn_here"],["_law_number","_law_many","_law_step","_law_found","_law_k","_law_more","_law_tops","_law_drawn_here","_law_high","_law_low"],["_law_number","_law_ladders","_law_rows","_law_secrets","_law_k","_law_row","_law_column","_law_ladder_here"],["_law_number","_law_table_here"],["steps","row"],["table","way"],["table","way","steps"],["table","way","alike","number","row"],["table","ways","told","way"],["told","row"],["table","members"],["secrets","secret","place"],["left","row_places","secret","after","place"],["left","row_places","first"]]:List (List Str))++([["rows","left","places","failed","row","others","secret"],["table","ways","row","told","left","rows","places","others","failed","found","secret"],["table","ways"],["one","other","rest"],["table","way","row"],["table","way","row","members","upper","divisor"],["_law_table_here","_law_way_here","_law_found","_law_row"],["_law_table_here","_law_way_here","_law_rows","_law_found","_law_number","_law_row"],["_law_script","_law_k","_law_drawn_here"],["_law_script","_law_k","_law_drawn_here"],["_law_script","_law_k","_law_drawn_here"],["_law_script","_law_k","_law_drawn_here"],["_law_script","_law_k","_law_drawn_here"],["_law_table_here","_law_groups","_law_given","_law_some","_law_mine","_law_left","_law_secret"],["_law_table_here","_law_groups","_law_given","_law_rest","_law_secret","_law_more"],["_law_table_here","_law_ways_here","_law_row","_law_groups","_law_way_here","_law_found","_law_secret","_law_given"]]:List (List Str))++([["_law_script","_law_table_here","_law_number","_law_ways_here","_law_due","_law_row","_law_found","_law_way_here","_law_some","_law_upper","_law_one","_law_other"]]:List (List Str))
noncomputable def zek:Pos:=⟨41,24,41,78⟩
noncomputable def G:GTab:=⟨(["_law_cell_at","_law_mixed","_law_drawn","_law_ladder","_law_table","_law_way","shown_row","steps_by","shown","classes","told_classes","places_of","secrets_in","without_one","left_after","free_secrets"]:List Str)++(["can_be_dealt","possible","found_out","greatest_divisor","class_of","guess_share","_law_shown","_law_classes","_law_mixed","_law_mixed","_law_mixed","_law_mixed","_law_mixed","_law_fits","_law_can","_law_possible"]:List Str)++(["law"]:List Str),[("SECRETS",4)],[("can_be_dealt",zek)]⟩
noncomputable instance tbI:Eng.Tb:=⟨[(70,zek,("can_be_dealt":Str)++".<locals>."++"<lambda>")]⟩
theorem hP:ybL G Ns sts prog=true:=by decide +kernel
theorem hB:sts.all yc2=true:=by decide +kernel
end K50
namespace PySem.W.Fast
abbrev tw927901549263919700:=Unit
abbrev tw5997859061076213846:=Unit
abbrev tw2423983357730526978:=Unit
abbrev tw2066772258211452252:=Unit
abbrev tw15912138657910100247:=Unit
abbrev tw5485088315071594457:=Unit
abbrev tw4841396380406121931:=Unit
abbrev tw4770777747846954351:=Unit
abbrev tw1169365902193224973:=Unit
abbrev tw9387081908917690230:=Unit
abbrev tw4391736757366917675:=Unit
abbrev tw15216929404848234430:=Unit
abbrev tw10456256739337619165:=Unit
abbrev tw3682311073797222836:=Unit
abbrev tw10131333654777534224:=Unit
abbrev tw16186175373293653473:=Unit
abbrev tw15267108584635186780:=Unit
abbrev tw15442668358800854758:=Unit
abbrev tw3993868365608212485:=Unit
abbrev tw10102641308800536791:=Unit
abbrev tw9809561234045139054:=Unit
abbrev tw10495827319243717636:=Unit
abbrev tw2837945836694365658:=Unit
abbrev tw17479894643290506915:=Unit
abbrev tw13598373521839388055:=Unit
abbrev tw7910236593704214406:=Unit
abbrev tw8855140345172568018:=Unit
abbrev tw6484967204407080254:=Unit
abbrev tw15444307998501011635:=Unit
abbrev tw1830981993277289128:=Unit
abbrev tw10591571763047037975:=Unit
abbrev tw7964243004892924175:=Unit
abbrev tw8428257011369881756:=Unit
abbrev tw6792238520167807876:=Unit
abbrev tw11603150110422807239:=Unit
abbrev tw4813146565528683281:=Unit
abbrev tw7092080073107839409:=Unit
abbrev tw2310109005435084553:=Unit
abbrev tw3047213414495798117:=Unit
abbrev tw5690288828793473445:=Unit
abbrev tw12965290970511997438:=Unit
abbrev tw5325055588359959417:=Unit
abbrev tw131267789444917698:=Unit
abbrev tw9596654891241294402:=Unit
abbrev tw17263571490436640702:=Unit
abbrev tw2944830953715414339:=Unit
abbrev tw14352285833341608896:=Unit
abbrev tw15773172650752409336:=Unit
abbrev tw12912625405005798804:=Unit
abbrev tw11276861378332662129:=Unit
abbrev tw14427816256148517473:=Unit
abbrev tw11307639037158996648:=Unit
abbrev tw8205319580607437987:=Unit
abbrev tw717658585851889570:=Unit
abbrev tw10236208501180002749:=Unit
abbrev tw13540607735341361988:=Unit
abbrev tw9778173965913988915:=Unit
abbrev tw6993781618435429519:=Unit
abbrev tw2570908218512329058:=Unit
abbrev tw16326967632310658427:=Unit
abbrev tw9432956316319846753:=Unit
abbrev tw16789899127335448655:=Unit
abbrev tw6444933767050379672:=Unit
abbrev tw11782816904257053481:=Unit
abbrev tw17025632303155832978:=Unit
abbrev tw1983153580247527671:=Unit
abbrev tw10481141798033391269:=Unit
abbrev tw17375822330936000744:=Unit
abbrev tw7530885741223848617:=Unit
abbrev tw4476620617159384211:=Unit
abbrev tw17944819048872050965:=Unit
abbrev tw18259010804851054441:=Unit
abbrev tw14761584783888722853:=Unit
abbrev tw18233248486755564190:=Unit
abbrev tw15328618741083236782:=Unit
abbrev tw8310843169141570168:=Unit
abbrev tw11255465803415623861:=Unit
abbrev tw5904391459030470589:=Unit
abbrev tw17579508228498315137:=Unit
abbrev tw8413870638343797010:=Unit
abbrev tw12332688296292816315:=Unit
abbrev tw12084587701246116990:=Unit
abbrev tw12711632399890486705:=Unit
abbrev tw8937565944090783266:=Unit
abbrev tw15677539884824835602:=Unit
abbrev tw15955238836668695340:=Unit
abbrev tw2803025103025209848:=Unit
abbrev tw1979620766200310586:=Unit
end PySem.W.Fast
open PySem PySem.W PyProof.Rows
set_option maxRecDepth 100000 in
set_option maxHeartbeats 0 in
theorem PySem.Challenge.cw_amongalike_k50_whole_possible_holds : PySem.Challenge.rw_amongalike_k50_whole_possible.Holds := by
  w_on;o_law;k_head;(case hw=>w_witness2)
  k_fill
  refine L2.qb5 (l:=PySem.Challenge.rw_amongalike_k50_whole_possible) (n:=63) (k:=29) (x:="_law_script") (CX:=L2.CX0) (sp:=Eng.jdJ) (tabs:=K50.tbI.tabs) rfl (by decide) rfl ⟨rfl,by decide,by decide⟩ (λw h Y=>⟨PySem.W.km_in_of Y,Eng.zew (PySem.W.km_tabs_of Y) (.head _)⟩) Eng.lk1 ?F (λK H a ns hl hO hS hT=>⟨a,ns,rfl,Eng.SqS.of hO hS,hT,λ_=>rfl⟩) λ_ _ _ _ z=>z
  case F =>
    intro w mg fa h KX N hmg
    have D:Eng.Ds (L2.KOf KX) K50.G.fns K50.sts:=by
      dsimp only [L2.KOf]
      iterate 33 refine And.intro (by refine' Eng.qea ?a ?l ?c ?k;(case a=>k_is);(case l=>k_is);(case c=>k_is);case k=>k_is) ?_
      exact trivial
    have z:Eng.Zs (L2.KOf KX) Eng.bltL:=by
      dsimp only [L2.KOf]
      iterate 18 refine And.intro (by k_is) ?_
      exact trivial
    have c:Eng.Cs (L2.KOf KX) K50.G.cons:=by
      dsimp only [L2.KOf]
      iterate 1 refine And.intro (by refine' Eng.jea ?a;case a=>k_is) ?_
      exact trivial
    have l0:Eng.LF (L2.KOf KX) "can_be_dealt" 70:=by dsimp only [L2.KOf];refine' Eng.yea (st:=K50.top 13) ?a ?l ?h;(case a=>k_is);(case l=>k_is);(case h=>kernel_rfl)
    have nt:PySem.W.noTabs (L2.KOf KX)=true:=by dsimp only [L2.KOf];kernel_rfl
    have T:=Eng.qeb KX N D K50.hB z c l0 rfl wN;obtain ⟨st,f,fd,e,F,a,-⟩:=T.defs 32 "law" rfl;cases (show some (K50.top 36)=some st from e);cases hmg.symm.trans a;refine ⟨fd,?b,⟨nt,Eng.hd1 l0⟩,λbase kb nb=>Eng.jbL (G:=K50.G) (Ns:=K50.Ns) (sts:=K50.sts) (P:=K50.prog) (k:=14) (i:=32) T K50.hP rfl rfl rfl F hmg M50.ydb⟩;obtain ⟨oc,od,kV,doc,pm,an,cdv,ct,osl,rfl,lk,hcd⟩:=F.ex;exact λs u=>.of_eq rfl

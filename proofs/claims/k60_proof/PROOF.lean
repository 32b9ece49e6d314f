import PyProof.Rows.All
import Wide.All
import OpenK.AllK
import Wide.FinOn
import Lean
import PyProof.EqAt
import PyProof.EqKinds
import PyProof.TupleCall
import PyProof.CollectWalk
import PyProof.Draws
import PyProof.EnumMake
import PyProof.Rows.SetFrom
import PyProof.Rows.SortShell
import PyProof.Rows.SortWalk
import PyProof.WalksMore
import PyProof.ZipIter
import PyProof.ConsumeWalk
import PyProof.SumAny
import PyProof.WalkInts
import PyProof.SeqI3
import PyProof.TupleOfStr
import PyProof.ListRange
import PyProof.DictValues
import PyProof.DictWalks
import PyProof.MinMaxWalk
import PyProof.Rows.CallKwBuiltin
import PyProof.Claim2Refuses
import PyProof.P3Eq
import PyProof.DictRoadsH
import PyProof.TupleKey
import PySem.Challenge.RW_amongalike_k60_whole_tables_changed
set_option Elab.async false
set_option linter.all false
set_option autoImplicit false
set_option genSizeOf false
set_option maxRecDepth 100000
section
open PySem PySem.Spec PyProof.Rows
theorem wd {α:Type _} {β:Type _} (a:α) (f:α->Option β):(some a).bind f=f a:=rfl
def we:=@wpAny_bind
def wg:=@Bool.and_eq_true
def wj:=@Heap.get?_push_of_some
def wm:=@wpAny_pure
def wo:=@Bool.false_eq_true
def wq:=@List.getElem?_eq_some_iff
def wt:=@Heap.get?_push_size
def wu:=@List.mem_cons
def wx:=@List.getElem?_map
def wy:=@Heap.lt_size
def wz:=@Bool.false_ne_true
def wA:=@Option.some.inj
def wB:=@Nat.le_refl
def wC:=@List.length_map
def wD:=@List.getElem?_set_ne
def wF:=@decide_eq_true_eq
def wG:=@List.mem_map
def wH:=@List.mem_cons_of_mem
def wI:=@PySem.W.mg_of
def wJ:=@List.map_map
def wK:=@List.mem_append_right
def wL:=@Nat.lt_of_lt_of_le
def wM:=@Nat.ne_of_lt
def wN:=@List.mem_cons_self
def wO:=@List.getD_eq_getElem?_getD
def wQ:=@Nat.le_trans
def wR:=@List.mem_of_getElem?
def wU:=@List.length_append
def wV:=@Int.toNat_natCast
def wW:=@wpAny_call_entry
def wX:=@wpAny_setField_rec
def wY:=@beq_eq_false_iff_ne
def wZ:=@PySem.mem_of_lookup
def w4:=@Bool.not_eq_true'
def w5:=@wpAny_callSpecial?_slot
def w6:=@Option.isSome_iff_exists
def w8:=@List.mem_singleton
def w9:=@wpAny_newObj_type
def va:=@Int.emod_lt_of_pos
def vc:=@List.mem_range
def vd:=@Bool.eq_iff_iff
def ve:=@of_decide_eq_true
def vf:=@List.map_congr_left
def vg:=@List.getElem?_append_left
def vh:=@List.size_toArray
def vk:=@decide_eq_false
def vm:=@beq_iff_eq
def vn:=@List.getElem?_set_self
end
open PySem.W (Frag nsIn)
section
namespace Eng
open PySem
structure MemP where
 p:List Int->List (List Int)->Bool
 U:List (List Int×List (List Int))
 hl:U.length<=sizeLine
 hU:∀ a b,p a b=true->(a,b)∈U
inductive D where
 | non | bl (b:Bool) | int (i:Int) | str (x:Str) | tup (xs:List D) | lst (xs:List D) | scr (ns:List Int)
 /-- a dict whose keys are tuples of ints: its values -/
 | grp (xs:List D)
 /-- a dict that remembers: p holds of each of its keys -/
 | mem (m:MemP)
mutual
noncomputable def eqD:D->D->Bool
 | .non,.non=>true
 | .bl a,.bl b=>a==b
 | .bl a,.int j=>(if a then 1 else 0)==j
 | .int i,.bl b=>i==(if b then 1 else 0)
 | .int i,.int j=>i==j
 | .str x,.str y=>x==y
 | .tup xs,.tup ys=>qbn xs ys
 | .lst xs,.lst ys=>qbn xs ys
 | _,_=>false
noncomputable def qbn:List D->List D->Bool
 | [],[]=>true
 | x::xs,y::ys=>eqD x y&&qbn xs ys
 | _,_=>false
end
mutual
noncomputable def dep:D->Nat
 | .tup xs=>za5 xs+1
 | .lst xs=>za5 xs+1
 | _=>0
noncomputable def za5:List D->Nat
 | []=>0
 | x::xs=>max (dep x) (za5 xs)
end
mutual
noncomputable def noL:D->Bool
 | .lst _=>false
 | .grp _=>false
 | .tup xs=>yai xs
 | _=>true
noncomputable def yai:List D->Bool
 | []=>true
 | x::xs=>noL x&&yai xs
end
mutual
noncomputable def noS:D->Bool
 | .scr _=>false
 | .grp _=>false
 | .mem _=>false
 | .str x=>x.cps.all (·<0x110000)
 | .tup xs=>yE xs
 | .lst xs=>yE xs
 | _=>true
noncomputable def yE:List D->Bool
 | []=>true
 | x::xs=>noS x&&yE xs
end
noncomputable def yek:D->Bool
 | .non=>false
 | .bl b=>b
 | .int i=>i != 0
 | .str x=>x.length != 0
 | .tup xs=>!xs.isEmpty
 | .lst xs=>!xs.isEmpty
 | .scr xs=>!xs.isEmpty
 | .grp xs=>!xs.isEmpty
 | .mem _=>true
noncomputable def truO:D->Option Bool
 | .str _=>none
 | .grp _=>none
 | .mem _=>none
 | x=>some (yek x)
noncomputable abbrev En:=List (Option D)
noncomputable abbrev Tab:=Nat->List D->Option D
noncomputable def intsOf:List D->Option (List Int)
 | []=>some []
 | .int i::r=>(intsOf r).map (i::·)
 | _=>none
noncomputable def strsOf:List D->Option (List Str)
 | []=>some []
 | .str x::r=>(strsOf r).map (x::·)
 | _=>none
noncomputable def zaj:List D->Option (List Bool)
 | []=>some []
 | .bl x::r=>(zaj r).map (x::·)
 | _=>none
noncomputable def qD (i j:Int):Bool:=(decide (-(2^64)<i)&&decide (i<2^64))||(decide (-(2^64)<j)&&decide (j<2^64))
noncomputable def qcv (k:Nat) (xs:List D):List D:=(List.replicate k xs).flatten
noncomputable def zd2:D->D->Option D
 | .int i,.int j=>some (.int (i+j))
 | .str x,.str y=>if x.length+y.length<=sizeLine then some (.str (x++y)) else none
 | .tup xs,.tup ys=>if xs.length+ys.length<=sizeLine then some (.tup (xs++ys)) else none
 | .lst xs,.lst ys=>if xs.length+ys.length<=sizeLine then some (.lst (xs++ys)) else none
 | _,_=>none
noncomputable def qd2:D->D->Option D
 | .int i,.int j=>if qD i j then some (.int (i*j)) else none
 | .tup xs,.int j=>if xs.length*j.toNat<=sizeLine/\-(2^63)<=j/\j<2^63 then some (.tup (qcv j.toNat xs)) else none
 | .lst xs,.int j=>if xs.length*j.toNat<=sizeLine/\-(2^63)<=j/\j<2^63 then some (.lst (qcv j.toNat xs)) else none
 | _,_=>none
noncomputable def zcM (f:Int->Int->Option D):D->D->Option D
 | .int i,.int j=>f i j
 | _,_=>none
noncomputable def q8 (op:Operator) (x y:D):Option D:=match op with
 | .Add=>zd2 x y
 | .Sub=>zcM (λi j=>some (.int (i-j))) x y
 | .Mult=>qd2 x y
 | .FloorDiv=>zcM (λi j=>if 0<j/\j<1073741824 then some (.int (i/j)) else none) x y
 | .Mod=>zcM (λi j=>if 0<j then some (.int (i%j)) else none) x y
 | .Pow=>zcM (λi j=>if 0<=j/\j<=64/\i.natAbs<2^64 then some (.int (i^j.toNat)) else none) x y
 | _=>none
noncomputable def jA (x y:D):Bool:=(decide (dep x<=40)||decide (dep y<=40))&&noS x&&noS y
noncomputable def inD (x:D):List D->Bool
 | []=>false
 | y::r=>eqD y x||inD x r
noncomputable def isS:D->Bool
 | .str _=>true
 | _=>false
noncomputable def jdl (f:Int->Int->Bool):D->D->Option Bool
 | .int i,.int j=>some (f i j)
 | _,_=>none
noncomputable def isN:D->Bool
 | .non=>true
 | _=>false
noncomputable def isC:D->D->Option Bool
 | x,.non=>some (isN x)
 | .bl a,.bl b=>some (a==b)
 | _,_=>none
noncomputable def inC (x:D):D->Option Bool
 | .tup ys=>if jA x (.tup ys) then some (inD x ys) else none
 | .lst ys=>if jA x (.lst ys) then some (inD x ys) else none
 | _=>none
noncomputable def zO (op:CmpOp) (x y:D):Option Bool:=match op with
 | .Eq=>if (isS x&&isS y)||jA x y then some (eqD x y) else none
 | .NotEq=>if (isS x&&isS y)||jA x y then some (!eqD x y) else none
 | .Lt=>jdl (λi j=>decide (i<j)) x y
 | .LtE=>jdl (λi j=>decide (i<=j)) x y
 | .Gt=>jdl (λi j=>decide (j<i)) x y
 | .GtE=>jdl (λi j=>decide (j<=i)) x y
 | .Is=>isC x y
 | .IsNot=>(isC x y).map not
 | .In=>inC x y
 | .NotIn=>(inC x y).map not
noncomputable def ixN (n:Nat) (i:Int):Option Nat:=if 0<=i then (if i<n then some i.toNat else none) else if -(n:Int)<=i then some (i+n).toNat else none
noncomputable def atI {α:Type} (xs:List α) (i:Int):Option α:=(ixN xs.length i).bind λj=>xs[j]?
noncomputable def jaE:D->D->Option D
 | .tup xs,.int i=>atI xs i
 | .lst xs,.int i=>atI xs i
 | .scr ns,.int i=>(atI ns i).map D.int
 | _,_=>none
noncomputable def sIx (n d:Nat):Option Int->Nat
 | none=>d
 | some v=>if v<0 then (v+(n:Int)).toNat else min v.toNat n
noncomputable def cutD (xs:List D) (lo hi:Option Int):List D:=(xs.drop (sIx xs.length 0 lo)).take (sIx xs.length xs.length hi-sIx xs.length 0 lo)
noncomputable def jdk:D->Option Int->Option Int->Option D
 | .tup xs,lo,hi=>some (.tup (cutD xs lo hi))
 | .lst xs,lo,hi=>some (.lst (cutD xs lo hi))
 | _,_,_=>none
noncomputable def revD:D->Option D
 | .tup xs=>some (.tup xs.reverse)
 | .lst xs=>some (.lst xs.reverse)
 | _=>none
inductive Ty where
 | int | bool | str | tuple | list
noncomputable def zeq:D->Ty->Bool
 | .int _,.int=>true
 | .bl _,.int=>true
 | .bl _,.bool=>true
 | .str _,.str=>true
 | .tup _,.tuple=>true
 | .lst _,.list=>true
 | .scr _,.list=>true
 | _,_=>false
noncomputable def jek:D->Ty->Option D
 | .scr _,_=>none
 | .grp _,_=>none
 | .mem _,_=>none
 | x,t=>some (.bl (zeq x t))
noncomputable def insI (x:Int):List Int->List Int
 | []=>[x]
 | y::r=>if x<=y then x::y::r else y::insI x r
noncomputable def sortI:List Int->List Int
 | []=>[]
 | x::r=>insI x (sortI r)
noncomputable def jat:List Int->List Int
 | []=>[]
 | x::r=>if r.contains x then jat r else x::jat r
noncomputable def lowM:Nat:=5
noncomputable def qW (ns:List Int):Bool:=ns.all λn=>decide (0<=n)&&decide (n<lowM)
inductive Blt where
 | len | lenSet | sortedSet | sorted | list | tuple | int | str | min | max | sum | all | any | join | count | minD | hdS | index
noncomputable def itemsD:D->Option (List D)
 | .tup xs=>some xs
 | .lst xs=>some xs
 | .scr ns=>some (ns.map D.int)
 | _=>none
mutual
noncomputable def ltD:D->D->Option Bool
 | .int i,.int j=>some (decide (i<j))
 | .tup xs,.tup ys=>qa5 xs ys
 | _,_=>none
noncomputable def qa5:List D->List D->Option Bool
 | [],[]=>some false
 | [],_::_=>some true
 | _::_,[]=>some false
 | x::xs,y::ys=>if jA x y then (if eqD x y then qa5 xs ys else ltD x y) else none
end
noncomputable def qcM (x y:D):Bool:=jA x y&&decide (dep x<=8)&&decide (dep y<=8)
noncomputable def zau (b:D):List D->Option D
 | []=>some b
 | x::r=>if qcM x b then (ltD x b).bind λk=>zau (if k then x else b) r else none
noncomputable def noT:D->Bool
 | .lst _=>false
 | _=>true
noncomputable def zal:List D->Option D
 | []=>none
 | x::r=>(zau x r).bind λm=>if noT m then some m else none
noncomputable def qbw (x:D):List D->Nat
 | []=>0
 | y::r=>(if eqD y x then 1 else 0)+qbw x r
noncomputable def ints1 (f:List Int->Option D):List D->Option D
 | [x]=>(itemsD x).bind λxs=>(intsOf xs).bind f
 | _=>none
noncomputable def zel (f:List Bool->D):List D->Option D
 | [x]=>(itemsD x).bind λxs=>(zaj xs).map f
 | _=>none
noncomputable def yd2:List D->Option D
 | [x]=>match x with | .str z=>if z.length<=sizeLine then some (.int z.length) else none | _=>(itemsD x).map λxs=>.int xs.length
 | _=>none
noncomputable def qeq:List D->Option D
 | [.scr _]=>none
 | [x]=>(itemsD x).map D.lst
 | _=>none
noncomputable def yeq:List D->Option D
 | [.scr _]=>none
 | [x]=>(itemsD x).map D.tup
 | _=>none
noncomputable def jeq:List D->Option D
 | [.bl b]=>some (.int (if b then 1 else 0))
 | [.int i]=>some (.int i)
 | _=>none
noncomputable def jd2:List D->Option D
 | [.str sep,.lst xs]=>(strsOf xs).bind λts=>if (ts.map (·.length)).sum+ts.length*sep.length<=sizeLine then some (.str (Str.join sep ts)) else none
 | _=>none
noncomputable def zer:List D->Option D
 | [.tup xs,y]=>if jA y (.tup xs) then some (.int (qbw y xs)) else none
 | _=>none
noncomputable def idxOf (x:D):List D->Option Nat
 | []=>none
 | y::r=>if eqD y x then some 0 else (idxOf x r).map (·+1)
noncomputable def ixB:List D->Option D
 | [.tup xs,y]=>if jA y (.tup xs) then (idxOf y xs).map λ(i:Nat)=>D.int (i:Int) else none
 | _=>none
noncomputable def qer:List D->Option D
 | [x,z]=>(itemsD x).bind λxs=>match xs with | []=>some z | _=>zal xs
 | _=>none
noncomputable def ycv (xs:List D):Option D:=match intsOf xs with | some ns=>some (.lst ((sortI ns).map D.int)) | none=>none
noncomputable def yer:List D->Option D
 | [.lst xs]=>if xs.length<64 then ycv xs else none
 | _=>none
noncomputable def qy:Blt->List D->Option D
 | .index=>ixB
 | .len=>yd2
 | .sortedSet=>ints1 λns=>if qW ns then some (.lst ((sortI (jat ns)).map D.int)) else none
 | .sorted=>yer
 | .list=>qeq
 | .tuple=>yeq
 | .int=>jeq
 | .sum=>ints1 λns=>some (.int ns.sum)
 | .all=>zel λbs=>.bl (bs.all id)
 | .join=>jd2
 | .count=>zer
 | .minD=>qer
 | _=>λ_=>none
inductive Tgt where
 | one (i:Nat) | many (is:List Nat)
mutual
inductive Code where
 | cst (d:D) | var (i:Nat) | bin (op:Operator) (a b:Code) | neg (a:Code) | not (a:Code)
 | and (a b:Code) | or (a b:Code) | ite (c a b:Code) | cmp (op:CmpOp) (a b:Code) | chn (op op':CmpOp) (a b c:Code)
 | tup (cs:Codes) | lst (cs:Codes) | idx (a b:Code) | slc (a:Code) (lo hi:OCode) | rev (a:Code)
 | call (f:Nat) (cs:Codes) | blt (b:Blt) (cs:Codes) | isi (a:Code) (t:Ty)
 | comp (e:Code) (t:Tgt) (n:Nat) (keep:List Nat) (it:Iter) (c:OCode)
 | ofi (b:Blt) (it:Iter)
 /-- min(c, key=lambda x: e) -/
 | mink (e:Code) (keep:List Nat) (c:Code)
inductive Codes where
 | nil | cons (c:Code) (cs:Codes)
inductive OCode where
 | none | some (c:Code)
inductive Iter where
 | data (c:Code) | rng (cs:Codes) | enu (c:Code) | zip (a b:Code) | vals (c:Code)
end
noncomputable def setM:List Nat->List D->En->En
 | i::is,d::ds,ρ=>setM is ds (ρ.set i (some d))
 | _,_,ρ=>ρ
noncomputable def ybn:Tgt->D->En->Option En
 | .one i,d,ρ=>some (ρ.set i (some d))
 | .many is,.tup ds,ρ=>if ds.length=is.length then some (setM is ds ρ) else none
 | _,_,_=>none
noncomputable def qm (n:Nat) (keep:List Nat) (ρ:En):En:=List.replicate n none++keep.map λi=>(ρ[i]?).join
noncomputable def gather (f:D->Option (Option D)):List D->Option (List D)
 | []=>some []
 | d::ds=>(f d).bind λo=>(gather f ds).map λr=>match o with | none=>r | some x=>x::r
noncomputable def yc (lo:Int):Nat->List D
 | 0=>[]
 | n+1=>.int lo::yc (lo+1) n
noncomputable def rngD:List D->Option (List D)
 | [.int j]=>if -(2^62)<=j/\j<2^62/\j.toNat<=sizeLine then some (yc 0 j.toNat) else none
 | [.int i,.int j]=>if -(2^62)<=i/\i<2^62/\-(2^62)<=j/\j<2^62/\(j-i).toNat<=sizeLine then some (yc i (j-i).toNat) else none
 | _=>none
noncomputable def yW (k:Nat):List D->List D
 | []=>[]
 | d::ds=>.tup [.int k,d]::yW (k+1) ds
noncomputable def zdm:D->Option (List D)
 | .grp xs=>some xs
 | _=>none
noncomputable def qaF:List D->List D->List D
 | x::xs,y::ys=>.tup [x,y]::qaF xs ys
 | _,_=>[]
noncomputable def yaF (f:D->Option D) (b:D) (kb:Int):List D->Option D
 | []=>some b
 | x::r=>(f x).bind λk=>match k with | .int i=>if i<kb then yaF f x i r else yaF f b kb r | _=>none
noncomputable def zdZ (f:D->Option D):List D->Option D
 | []=>none
 | x::r=>(f x).bind λk=>match k with | .int i=>yaF f x i r | _=>none
noncomputable def qO:List D->Option (List (List Int))
 | []=>some []
 | .tup xs::r=>(intsOf xs).bind λns=>(qO r).map (ns::·)
 | _=>none
noncomputable def qdm:D->D->Option (List Int×List (List Int))
 | .tup xs,.tup ys=>(intsOf xs).bind λns=>(qO ys).map λl=>(ns,l)
 | _,_=>none
mutual
noncomputable def ev (C:Tab):Code->En->Option D
 | .cst d,_=>some d
 | .var i,ρ=>(ρ[i]?).join
 | .bin op a b,ρ=>(ev C a ρ).bind λx=>(ev C b ρ).bind λy=>q8 op x y
 | .neg a,ρ=>(ev C a ρ).bind λx=>match x with | .int i=>some (.int (-i)) | _=>none
 | .not a,ρ=>(ev C a ρ).bind λx=>(truO x).map λk=>.bl (!k)
 | .and a b,ρ=>(ev C a ρ).bind λx=>match x with | .bl true=>ev C b ρ | .bl false=>some (.bl false) | _=>none
 | .or a b,ρ=>(ev C a ρ).bind λx=>match x with | .bl false=>ev C b ρ | .bl true=>some (.bl true) | _=>none
 | .ite c a b,ρ=>(ev C c ρ).bind λx=>(truO x).bind λk=>if k then ev C a ρ else ev C b ρ
 | .cmp op a b,ρ=>(ev C a ρ).bind λx=>(ev C b ρ).bind λy=>(zO op x y).map D.bl
 | .chn op op' a b c,ρ=>(ev C a ρ).bind λx=>(ev C b ρ).bind λy=>(zO op x y).bind λt =>
  if t then (ev C c ρ).bind λz=>(zO op' y z).map D.bl else some (.bl false)
 | .tup cs,ρ=>(evs C cs ρ).bind λxs=>if xs.length<=sizeLine then some (.tup xs) else none
 | .lst cs,ρ=>(evs C cs ρ).bind λxs=>if xs.length<=sizeLine then some (.lst xs) else none
 | .idx a b,ρ=>(ev C a ρ).bind λx=>(ev C b ρ).bind λy=>jaE x y
 | .slc a lo hi,ρ=>(ev C a ρ).bind λx=>(evO C lo ρ).bind λl=>(evO C hi ρ).bind λh=>jdk x l h
 | .rev a,ρ=>(ev C a ρ).bind revD
 | .call f cs,ρ=>(evs C cs ρ).bind λxs=>C f xs
 | .blt b cs,ρ=>(evs C cs ρ).bind λxs=>qy b xs
 | .isi a t,ρ=>(ev C a ρ).bind λx=>jek x t
 | .comp e t n keep it c,ρ=>(evI C it ρ).bind λds =>
  (gather (λd=>(ybn t d (qm n keep ρ)).bind λρ'=>(evT C c ρ').bind λk=>if k then (ev C e ρ').map some else some none) ds).map D.lst
 | .ofi b it,ρ=>(evI C it ρ).bind λds=>match b with | .list=>some (.lst ds) | .tuple=>some (.tup ds) | _=>none
 | .mink e keep c,ρ=>(ev C c ρ).bind λx=>match x with | .tup xs=>zdZ (λd=>ev C e (some d::keep.map λi=>(ρ[i]?).join)) xs | _=>none
noncomputable def evs (C:Tab):Codes->En->Option (List D)
 | .nil,_=>some []
 | .cons c cs,ρ=>(ev C c ρ).bind λx=>(evs C cs ρ).map λxs=>x::xs
noncomputable def evO (C:Tab):OCode->En->Option (Option Int)
 | .none,_=>some none
 | .some c,ρ=>(ev C c ρ).bind λx=>match x with | .int i=>some (some i) | _=>none
noncomputable def evT (C:Tab):OCode->En->Option Bool
 | .none,_=>some true
 | .some c,ρ=>(ev C c ρ).bind truO
noncomputable def evI (C:Tab):Iter->En->Option (List D)
 | .data c,ρ=>(ev C c ρ).bind itemsD
 | .rng cs,ρ=>(evs C cs ρ).bind rngD
 | .enu c,ρ=>(ev C c ρ).bind λx=>(itemsD x).map (yW 0)
 | .zip a b,ρ=>(ev C a ρ).bind λx=>(ev C b ρ).bind λy=>(itemsD x).bind λxs=>(itemsD y).map λys=>qaF xs ys
 | .vals c,ρ=>(ev C c ρ).bind zdm
end
inductive Sl where
 | un | pu (d:D) | ow (ds:List D) | gr (es:List (List Int×List D))
inductive Mode where
 | pu | cl | ow
mutual
inductive Stm where
 | set (m:Mode) (t:Tgt) (e:Code)
 | app (i:Nat) (m:Mode) (e:Code)
 | ite (c:Code) (a b:Stms)
 | for (t:Tgt) (it:Iter) (b:Stms)
 | ret (e:Code)
 | newd (i:Nat) | grp (i:Nat) (k v:Code) | ext (i:Nat) (m:Mode) (e:Code)
 | put (i:Nat) (k e:Code) | newm (i:Nat) (e:Code) (f:D->MemP)
 | brk | cnt | pas
inductive Stms where
 | nil | cons (s:Stm) (r:Stms) | frz (i:Nat) (r:Stms) | mgd (i:Nat) (a b:Code) (r:Stms) | mput (i:Nat) (a b:Code) (r:Stms)
 /-- x = tuple(sorted(range(..), key=lambda y: e)), and what follows -/
 | srt (i:Nat) (e:Code) (keep:List Nat) (cs:Codes) (r:Stms)
end
inductive Fl where
 | nx (ρ:List Sl) | rt (d:D) | bk (ρ:List Sl) | ct (ρ:List Sl)
noncomputable def Sl.all:Sl->Option D
 | .un=>none
 | .pu d=>some d
 | .ow ds=>some (.lst ds)
 | .gr es=>some (.grp (es.map λe=>.lst e.2))
noncomputable def Sl.isGr:Sl->Bool
 | .gr _=>true
 | _=>false
noncomputable def jW (k:List Int) (d:D):List (List Int×List D)->List (List Int×List D)
 | []=>[(k,[d])]
 | (j,ds)::r=>if j=k then (j,ds++[d])::r else (j,ds)::jW k d r
noncomputable def qdZ:D->Option (List Int)
 | .tup xs=>intsOf xs
 | _=>none
noncomputable def ydm (i:Nat) (k:List Int) (d:D) (ρ:List Sl):Option Fl:=match ρ[i]? with
 | some (.gr es)=>if es.length<1000/\(∀ e∈es,e.2.length<1000) then some (.nx (ρ.set i (.gr (jW k d es)))) else none
 | _=>none
noncomputable def qb9 (i:Nat) (d:D) (ρ:List Sl):Option Fl:=match ρ[i]?,d with
 | some (.ow ds),.lst es=>if ds.length+es.length<sizeLine then some (.nx (ρ.set i (.ow (ds++es)))) else none
 | some (.ow ds),.tup es=>if ds.length+es.length<sizeLine then some (.nx (ρ.set i (.ow (ds++es)))) else none
 | _,_=>none
noncomputable def qel:D->Bool
 | .lst es=>yai es
 | _=>false
noncomputable def jdm (i:Nat) (k d:D) (ρ:List Sl):Option Fl:=match ρ[i]?,k with
 | some (.ow ds),.int j=>if 0<=j/\j<ds.length then some (.nx (ρ.set i (.ow (ds.set j.toNat d)))) else none
 | _,_=>none
noncomputable def zdl (ρ:List Sl) (i:Nat):Option MemP:=match ρ[i]? with
 | some (.pu (.mem p))=>some p
 | _=>none
noncomputable def Sl.pure:Sl->Option D
 | .pu d=>some d
 | _=>none
noncomputable def vA (ρ:List Sl):En:=ρ.map Sl.all
noncomputable def vP (ρ:List Sl):En:=ρ.map Sl.pure
noncomputable def puM:List Nat->List D->List Sl->List Sl
 | i::is,d::ds,ρ=>puM is ds (ρ.set i (.pu d))
 | _,_,ρ=>ρ
noncomputable def puT:Tgt->D->List Sl->Option (List Sl)
 | .one i,d,ρ=>some (ρ.set i (.pu d))
 | .many is,.tup ds,ρ=>if ds.length=is.length then some (puM is ds ρ) else none
 | _,_,_=>none
noncomputable def forL (f:D->List Sl->Option Fl):List D->List Sl->Option Fl
 | [],ρ=>some (.nx ρ)
 | d::ds,ρ=>(f d ρ).bind λr=>match r with
  | .nx ρ'=>forL f ds ρ'
  | .ct ρ'=>forL f ds ρ'
  | .bk ρ'=>some (.nx ρ')
  | .rt v=>some (.rt v)
noncomputable def zdn (xs:List D) (k:D->Option D) (g:List D->Option Fl):Option Fl :=
 @dite _ (xs.length<64/\(∀ x∈xs,∃ i,k x=some (.int i))/\∃ d,∀ ys,ys.Perm xs->g ys=some (.rt d)) (Classical.propDecidable _) (λh=>some (.rt h.2.2.choose)) λ_=>none
theorem ycM {xs:List D} {k:D->Option D} {g:List D->Option Fl} {f:Fl} (h:zdn xs k g=some f):xs.length<64/\(∀ x∈xs,∃ i,k x=some (.int i))/\∀ ys,ys.Perm xs->g ys=some f:=by
 unfold zdn at h;split at h
 ·rename_i q;cases h;exact ⟨q.1,q.2.1,q.2.2.choose_spec⟩
 ·cases h
theorem jcM {xs:List D} {k:D->Option D} {g:List D->Option Fl} {d:D} (h1:xs.length<64) (h2:∀ x∈xs,∃ i,k x=some (.int i)) (h3:∀ ys,ys.Perm xs->g ys=some (.rt d)):zdn xs k g=some (.rt d):=by
 have q:xs.length<64/\(∀ x∈xs,∃ i,k x=some (.int i))/\∃ d,∀ ys,ys.Perm xs->g ys=some (.rt d):=⟨h1,h2,d,h3⟩;have e:zdn xs k g=some (.rt q.2.2.choose):=dif_pos q;rw [e,<-q.2.2.choose_spec xs (.refl _)];exact h3 xs (.refl _)
mutual
noncomputable def ex (C:Tab):Stm->List Sl->Option Fl
 | .set .pu t e,ρ=>(ev C e (vP ρ)).bind λd=>(puT t d ρ).map Fl.nx
 | .set .cl t e,ρ=>(ev C e (vA ρ)).bind λd=>if noL d then (puT t d ρ).map Fl.nx else none
 | .set .ow t e,ρ=>(ev C e (vA ρ)).bind λd=>match t,d with
  | .one i,.lst ds=>if yai ds then some (.nx (ρ.set i (.ow ds))) else none
  | _,_=>none
 | .app i m e,ρ=>(ev C e (match m with | .pu=>vP ρ | _=>vA ρ)).bind λd=>match m,ρ[i]? with
  | .pu,some (.ow ds)=>if ds.length<sizeLine then some (.nx (ρ.set i (.ow (ds++[d])))) else none
  | .cl,some (.ow ds)=>if noL d&&decide (ds.length<sizeLine) then some (.nx (ρ.set i (.ow (ds++[d])))) else none
  | _,_=>none
 | .ite c a b,ρ=>(ev C c (vA ρ)).bind λd=>(truO d).bind λk=>if k then exs C a ρ else exs C b ρ
 | .for t it b,ρ=>(evI C it (vP ρ)).bind λds=>forL (λd ρ'=>(puT t d ρ').bind λρ''=>exs C b ρ'') ds ρ
 | .ret e,ρ=>(ev C e (vA ρ)).map Fl.rt
 | .newd i,ρ=>if (ρ.set i .un).any Sl.isGr then none else some (.nx (ρ.set i (.gr [])))
 | .grp i k v,ρ=>(ev C k (vP ρ)).bind λx=>(ev C v (vP ρ)).bind λd=>(qdZ x).bind λns=>ydm i ns d ρ
 | .ext i m e,ρ=>(ev C e (match m with | .pu=>vP ρ | _=>vA ρ)).bind λd=>match m with | .pu=>qb9 i d ρ | _=>if qel d then qb9 i d ρ else none
 | .put i k e,ρ=>(ev C e (vP ρ)).bind λd=>(ev C k (vP ρ)).bind λj=>jdm i j d ρ
 | .newm i e f,ρ=>(ev C e (vP ρ)).bind λd=>some (.nx (ρ.set i (.pu (.mem (f d)))))
 | .brk,ρ=>some (.bk ρ)
 | .cnt,ρ=>some (.ct ρ)
 | .pas,ρ=>some (.nx ρ)
noncomputable def exs (C:Tab):Stms->List Sl->Option Fl
 | .nil,ρ=>some (.nx ρ)
 | .cons s r,ρ=>(ex C s ρ).bind λf=>match f with
  | .nx ρ'=>exs C r ρ'
  | f=>some f
 | .frz i r,ρ=>match ρ[i]? with
  | some (.ow ds)=>exs C r (ρ.set i (.pu (.lst ds)))
  | _=>none
 | .mgd i a b r,ρ=>(ev C a (vP ρ)).bind λx=>(ev C b (vP ρ)).bind λy=>(qdm x y).bind λk=>(zdl ρ i).bind λp =>
  (exs C r ρ).bind λf=>if p.p k.1 k.2 then (match f with | .rt (.bl false)=>some f | _=>none) else some f
 | .mput i a b r,ρ=>(ev C a (vP ρ)).bind λx=>(ev C b (vP ρ)).bind λy=>(qdm x y).bind λk=>(zdl ρ i).bind λp=>if p.p k.1 k.2 then exs C r ρ else none
 | .srt i e keep cs r,ρ=>((evs C cs (vP ρ)).bind rngD).bind λxs=>zdn xs (λd=>ev C e (some d::keep.map λi=>((vP ρ)[i]?).join)) λys=>exs C r (ρ.set i (.pu (.tup ys)))
end
structure Def where
 n:Nat
 p:Nat
 b:Stms
noncomputable def zB (C:Tab) (f:Def) (ds:List D):Option D :=
 if ds.length=f.p then
  (exs C f.b (ds.map Sl.pu++List.replicate (f.n-f.p) .un)).bind λr=>match r with
   | .rt d=>some d
   | .nx _=>some .non
   | _=>none
 else none
noncomputable def ji (P:List Def):Nat->Tab
 | 0=>λ_ _=>none
 | k+1=>λi ds=>(P[i]?).bind λf=>zB (ji P k) f ds
theorem ym:∀ {l m:List Int},l.Perm m->l.Pairwise (·<=·)->m.Pairwise (·<=·)->l=m
 | [],m,p,_,_=>(List.perm_nil.mp p.symm).symm
 | x::l,[],p,_,_=>by have:=p.length_eq;simp at this
 | x::l,y::m,p,h1,h2=>by
  rw [List.pairwise_cons] at h1 h2
  have e:x=y:=by
   have hx:x∈y::m:=p.mem_iff.mp (by simp);have hy:y∈x::l:=p.mem_iff.mpr (by simp);rcases wu.mp hx with z | z
   ·exact z
   ·rcases wu.mp hy with w | w
    ·exact w.symm
    ·exact Int.le_antisymm (h1.1 y w) (h2.1 x z)
  subst e;rw [ym (List.perm_cons x |>.mp p) h1.2 h2.2]
theorem insI_perm (x:Int):∀ l:List Int,(insI x l).Perm (x::l)
 | []=>List.Perm.refl _
 | y::r=>by
  unfold insI;split
  ·exact List.Perm.refl _
  ·exact ((insI_perm x r).cons y).trans (List.Perm.swap x y r)
theorem sortI_perm:∀ l:List Int,(sortI l).Perm l
 | []=>List.Perm.refl _
 | x::r=>(insI_perm x (sortI r)).trans ((sortI_perm r).cons x)
theorem j8 (x:Int):∀ {l:List Int},l.Pairwise (·<=·)->(insI x l).Pairwise (·<=·)
 | [],_=>by simp [insI]
 | y::r,h=>by
  rw [List.pairwise_cons] at h;unfold insI;split
  ·rename_i hxy;refine List.pairwise_cons.mpr ⟨λz hz=>?_,List.pairwise_cons.mpr h⟩;rcases wu.mp hz with e | e
   ·rw [e];exact hxy
   ·exact Int.le_trans hxy (h.1 z e)
  ·rename_i hxy;refine List.pairwise_cons.mpr ⟨λz hz=>?_,j8 x h.2⟩;rcases wu.mp ((insI_perm x r).mem_iff.mp hz) with e | e
   ·rw [e];omega
   ·exact h.1 z e
theorem zq:∀ l:List Int,(sortI l).Pairwise (·<=·)
 | []=>List.Pairwise.nil
 | x::r=>j8 x (zq r)
theorem mem_dedI {x:Int}:∀ {l:List Int},x∈jat l↔x∈l
 | []=>by simp [jat]
 | y::r=>by
  unfold jat;split
  ·rename_i h;rw [mem_dedI (l:=r)];have hy:y∈r:=by simpa using h
   constructor
   ·intro z;exact wH _ z
   ·intro z;rcases wu.mp z with e | e
    ·rw [e];exact hy
    ·exact e
  ·simp [mem_dedI (l:=r)]
theorem jH:∀ l:List Int,(jat l).Nodup
 | []=>List.nodup_nil
 | y::r=>by
  unfold jat;split
  ·exact jH r
  ·rename_i h;refine List.nodup_cons.mpr ⟨λz=>h (by simpa using mem_dedI.mp z),jH r⟩
theorem q9:∀ {l m:List Int},l.Nodup->m.Nodup->(∀ x,x∈l↔x∈m)->l.Perm m:=λh1 h2 h=>(List.perm_ext_iff_of_nodup h1 h2).mpr h
end Eng
end
section
namespace L2
open PySem PySem.Spec PyProof.Rows
noncomputable abbrev Key:=Sum Int Str
noncomputable def qdn:Key->Value->Bool
 | .inl k,v=>Value.isInt k v
 | .inr x,v=>Value.isStrOf x v
noncomputable def jer (w:World):Key->Int
 | .inl k=>hashInt k
 | .inr x=>hashStr w x
theorem zi:∀ {k:Key} {v:Value},qdn k v=true->(∃ i t,k=Sum.inl i/\v=Value.int i t)\/(∃ x t,k=Sum.inr x/\v=Value.str x t)
 | .inl i,v,h=>by
  obtain ⟨t,e⟩:=Value.isInt_shape (k:=i) (v:=v) h;exact .inl ⟨i,t,rfl,e⟩
 | .inr x,v,h=>by
  obtain ⟨t,e⟩:=Value.isStrOf_shape (x:=x) (v:=v) h;exact .inr ⟨x,t,rfl,e⟩
theorem ydn (a b:Int):decide ((Sum.inl a:Key)=Sum.inl b)=(a==b):=by
 by_cases e:a=b
 ·subst e;simp
 ·have h:¬ (Sum.inl a:Key)=Sum.inl b:=λq=>e (Sum.inl.inj q)
  rw [vk h];exact (wY.mpr e).symm
theorem jdn (a b:Str):decide ((Sum.inr a:Key)=Sum.inr b)=decide (a=b):=by
 by_cases e:a=b
 ·subst e;simp
 ·have h:¬ (Sum.inr a:Key)=Sum.inr b:=λq=>e (Sum.inr.inj q)
  rw [vk h,vk e]
theorem zdo (a:Int) (b:Str):decide ((Sum.inl a:Key)=Sum.inr b)=false:=vk (λq=>nomatch q)
theorem qdo (a:Str) (b:Int):decide ((Sum.inr a:Key)=Sum.inl b)=false:=vk (λq=>nomatch q)
noncomputable def qaW (prog:Program) (w:World):PySem.KeyKind prog w Key where
 is:=qdn
 hash:=jer w
 inj:=λv a b ha hb=>by
  rcases zi ha with ⟨i,t,rfl,rfl⟩ | ⟨x,t,rfl,rfl⟩
  ·rcases zi hb with ⟨j,u,rfl,e⟩ | ⟨y,u,rfl,e⟩
   ·injection e with e1 _;rw [e1]
   ·exact nomatch e
  ·rcases zi hb with ⟨j,u,rfl,e⟩ | ⟨y,u,rfl,e⟩
   ·exact nomatch e
   ·injection e with e1 _;rw [e1]
 byValue:=λk v h=>by
  rcases zi h with ⟨i,t,rfl,rfl⟩ | ⟨x,t,rfl,rfl⟩<;>rfl
 pyHash:=λhv h=>by
  rcases zi hv with ⟨i,t,rfl,rfl⟩ | ⟨x,t,rfl,rfl⟩
  ·exact wpAny_pyHash_int h
  ·exact wpAny_pyHash_str h
 eqBool:=λhu hv h=>by
  rcases zi hu with ⟨i,t,rfl,rfl⟩ | ⟨x,t,rfl,rfl⟩
  ·rcases zi hv with ⟨j,u,rfl,rfl⟩ | ⟨y,u,rfl,rfl⟩
   ·rw [ydn] at h;exact wpAny_eqBool_int h
   ·rw [zdo] at h;exact SeqAt.EqAt.int_str i t y u _ _ _ _ h
  ·rcases zi hv with ⟨j,u,rfl,rfl⟩ | ⟨y,u,rfl,rfl⟩
   ·rw [qdo] at h;exact SeqAt.EqAt.str_int x t j u _ _ _ _ h
   ·rw [jdn] at h;exact wpAny_eqBool_str h
 «strs»:=λk x t v h=>by
  rcases zi h with ⟨i,u,rfl,e⟩ | ⟨y,u,rfl,e⟩
  ·exact nomatch e
  ·injection e with e1 _
   subst e1
   cases v<;>rfl
inductive V where
 | non | bl (b:Bool) | int (i:Int) | str (x:Str) | byt (b:Array UInt8) | flt (b:UInt64) | ref (a:Addr) | ty (n:String)
 deriving DecidableEq
def RelV:V->Value->Prop
 | .non,u=>u=Value.none
 | .bl b,u=>u=Value.bool b
 | .int i,u=>∃ t,u=Value.int i t
 | .str x,u=>∃ t,u=Value.str x t
 | .byt b,u=>∃ t,u=Value.bytes b t
 | .flt b,u=>∃ t,u=Value.float b t
 | .ref a,u=>u=Value.ref a
 | .ty n,u=>u=Value.type n
abbrev Vals:List V->List Value->Prop:=Paired RelV
theorem Vals.length {xs:List V} {us:List Value} (r:Vals xs us):xs.length=us.length:=Paired.length r
theorem Vals.get:∀ {xs:List V} {us:List Value} {i:Nat} {x:V},Vals xs us->xs[i]?=some x->∃ u,us[i]?=some u/\RelV x u
 | _,_,_,_,.nil,e=>by simp at e
 | _,_,0,_,.cons r _,e=>by simp at e;subst e;exact ⟨_,rfl,r⟩
 | _,_,i+1,x,.cons _ t,e=>by
  obtain ⟨u,h1,h2⟩:=Vals.get (i:=i) (x:=x) t (by simpa using e);exact ⟨u,by simpa using h1,h2⟩
theorem Vals.set {x:V} {u:Value} (r:RelV x u):∀ {xs:List V} {us:List Value} (i:Nat),Vals xs us->Vals (xs.set i x) (us.set i u)
 | _,_,_,.nil=>.nil
 | _,_,0,.cons _ t=>.cons r t
 | _,_,i+1,.cons q t=>.cons q (Vals.set r i t)
theorem Vals.append:∀ {xs ys:List V} {us ws:List Value},Vals xs us->Vals ys ws->Vals (xs++ys) (us++ws)
 | _,_,_,_,.nil,s=>s
 | _,_,_,_,.cons r t,s=>.cons r (Vals.append t s)
theorem Vals.take:∀ {xs:List V} {us:List Value} (n:Nat),Vals xs us->Vals (xs.take n) (us.take n)
 | _,_,0,_=>.nil
 | _,_,_+1,.nil=>.nil
 | _,_,n+1,.cons r t=>.cons r (Vals.take n t)
theorem Vals.drop:∀ {xs:List V} {us:List Value} (n:Nat),Vals xs us->Vals (xs.drop n) (us.drop n)
 | _,_,0,r=>r
 | _,_,_+1,.nil=>.nil
 | _,_,n+1,.cons _ t=>Vals.drop n t
def yel:Option V->Option Value->Prop
 | some v,some u=>RelV v u
 | none,none=>True
 | _,_=>False
def KV {κ:Type}:List (κ×V)->List (κ×Value)->Prop:=Paired λ(p:κ×V) (q:κ×Value)=>p.1=q.1/\RelV p.2 q.2
noncomputable def kV:Key->V
 | .inl i=>.int i
 | .inr x=>.str x
inductive HO where
 /-- a list -/
 | lst (xs:List V)
 /-- a tuple (never changes) -/
 | tup (xs:List V)
 /-- a dict whose keys are ints and texts; one whose keys are tuples of ints and texts (the empty one is both) -/
 | dK (kvs:List (Key×V)) | dT (kvs:List (List Key×V))
 /-- a set of ints: its members, its size -/
 | set (S:Int->Bool) (n:Nat)
 /-- an instance of the class at C, its dict at dx, its attributes -/
 | ins (C dx:Addr) (fs:List (Str×V))
 /-- the dict of the instance at x -/
 | own (x:Addr)
 /-- the dict of an exception -/
 | xd (fs:List (Str×V))
 /-- a bound method, f of x -/
 | met (f x:Addr)
 /-- a range object lo, lo + 1, .. below hi -/
 | rng (lo hi:Int)
 /-- a thing that is known to the object (the script; a dict while a loop walks it): read, never written while it is so -/
 | frz (o:Obj) (u:HO)
 /-- a code object's table -/
 | tbl (pos:Pos) (qual:Str)
 /-- a dict that remembers -/
 | mm (m:Eng.MemP)
 /-- any other thing, by what is true of its one object (a def of one's own: qdl a S n := HO.ext λh => ..) -/
 | ext (φ:Heap->Prop)
noncomputable abbrev Hp:=Addr->Option HO
noncomputable def upd (H:Hp) (a:Addr) (o:HO):Hp:=λb=>if b=a then some o else H b
theorem ja {H:Hp} {a:Addr} {o:HO}:upd H a o a=some o:=by unfold upd;rw [if_pos rfl]
theorem ya {H:Hp} {a b:Addr} {o:HO} (h:b≠a):upd H a o b=H b:=by unfold upd;rw [if_neg h]
theorem je {H:Hp} {a b:Addr} {o:HO} (h:H a=some o) (h':H b=none):a≠b:=by
 intro e;subst e;rw [h] at h';cases h'
noncomputable def tkI (ns:List Int):Int:=reduceHash (Builtin.Tuple.tupleHashOf (ns.map hashInt))
noncomputable def zcN (k:List Int×List (List Int)):Int:=reduceHash (Builtin.Tuple.tupleHashOf [tkI k.1,reduceHash (Builtin.Tuple.tupleHashOf (k.2.map tkI))])
noncomputable def ydZ (x:(List Int×List (List Int))×Addr):DictEntry:={ hash:=zcN x.1,key:=.ref x.2,val:=.bool true }
def KeyM (H:Hp) (k:List Int×List (List Int)) (b:Addr):Prop:=∃ r l ls,H b=some (.tup [.ref r,.ref l])/\H r=some (.tup (k.1.map V.int))/\H l=some (.tup (ls.map V.ref))/\Paired (λ(a:Addr) (ns:List Int)=>H a=some (.tup (ns.map V.int))) ls k.2
def IsTupN (h:Heap) (a:Addr) (items:Array Value):Prop:=∃ o,h.get? a=some o/\o.cls=.type "tuple"/\o.dict=none/\∃ n,o.data=.seq items n
theorem IsTupN.tup {h:Heap} {a:Addr} {items:Array Value} (x:IsTupN h a items):PyProof.Rows.IsTup h a items:=let ⟨o,e,c,_,d⟩:=x;⟨o,e,c,d⟩
theorem IsTupN.new (h:Heap) (items:Array Value):IsTupN (h.push { cls:=.type "tuple",data:=.seq items }) h.objs.size items:=⟨_,wt _ rfl,rfl,rfl,_,rfl⟩
section
variable (P:Program) (w:World)
def ObjOk (H:Hp) (h:Heap) (a:Addr):HO->Prop
 | .lst xs=>xs.length<=sizeLine/\∃ (its:List Value) (n:Nat),Vals xs its/\h.get? a=some { cls:=.type "list",data:=.seq its.toArray n }
 | .tup xs=>xs.length<=sizeLine/\∃ its:List Value,Vals xs its/\IsTupN h a its.toArray
 | .dK kvs=>kvs.length<=sizeLine/\(a==sysModules)=false/\∃ vs,KV kvs vs/\h.DictOf (qaW P w) a vs
 | .dT kvs=>kvs.length<=sizeLine/\(a==sysModules)=false/\∃ xs:List (List Key×Addr×Value),
  Paired (λ(p:List Key×V) (q:List Key×Addr×Value)=>p.1=q.1/\H q.2.1=some (.tup (p.1.map kV))/\RelV p.2 q.2.2) kvs xs /\
  ∃ o es ep,h.get? a=some o/\o.ExactDict/\o.data=.dict es ep/\es.toList=xs.map (entryOfKey (tupleKind (qaW P w)))/\(xs.map (·.1)).Nodup
 | .set S n=>h.SetOf (intKind P w) a S n
 | .ins C dx fs=>H dx=some (.own a)/\fs.length<=1000/\dx≠a/\h.get? a=some (PySem.W.instObj C dx) /\
  ∃ mA,h.Ns1 dx mA/\(∀ f,yel (fs.lookup f) (mA f))/\PySem.Within mA (fs.map (·.1))
 | .own _=>∃ o,h.get? a=some o
 | .xd fs=>∃ mA,h.Ns1 a mA/\∀ f,yel (fs.lookup f) (mA f)
 | .rng lo hi=>∃ t u v,h.get? a=some { cls:=.type "range",data:=.fields #[.int lo t,.int hi u,.int 1 v] }
 | .frz o u=>h.get? a=some o/\ObjOk H h a u
 | .tbl pos qual=>∃ ps,h.get? a=some { cls:=.none,data:=.fields ps }/\TriplesOk ps.toList/\∀ p cv,codeAmong p ps.toList=some cv->∃ c oc u vs t,cv=.ref c/\H c=some (.frz oc u)/\oc.data=.fields vs/\vs[1]?=some (.str qual t)
 | .mm m=>(a==sysModules)=false/\∃ xs:List ((List Int×List (List Int))×Addr),(∀ x∈xs,m.p x.1.1 x.1.2=true/\KeyM H x.1 x.2)/\(xs.map (·.1)).Nodup/\∃ ep,h.get? a=some { cls:=.type "dict",data:=.dict (xs.map ydZ).toArray ep }
 | .met f x=>h.get? a=some (PySem.W.methodObj (.ref f) (.ref x))
 | .ext φ=>φ h/\(∃ o,h.get? a=some o)/\∀ h1 h2:Heap,φ h1->(∀ o,h1.get? a=some o->h2.get? a=some o)->φ h2
def HOk (H:Hp) (h:Heap):Prop:=∀ a o,H a=some o->ObjOk P w H h a o
end
section
variable {P:Program} {w:World} {H H':Hp} {h h':Heap} {a:Addr} {o:HO}
theorem ObjOk.lt (x:ObjOk P w H h a o):a<h.objs.size:=by
 cases o with
 | lst xs=>obtain ⟨_,_,_,_,e⟩:=x;exact wy e
 | tup xs=>obtain ⟨_,_,_,o,e,_⟩:=x;exact wy e
 | dK kvs=>obtain ⟨_,_,_,_,o,_,_,e,_⟩:=x;exact wy e
 | dT kvs=>obtain ⟨_,_,_,_,o,_,_,e,_⟩:=x;exact wy e
 | set S n=>obtain ⟨o,_,_,_,e,_⟩:=x;exact wy e
 | ins C dx fs=>obtain ⟨_,_,_,e,_⟩:=x;exact wy e
 | own y=>obtain ⟨_,e⟩:=x;exact wy e
 | xd fs=>obtain ⟨_,⟨_,_,_,e,_⟩,_⟩:=x;exact wy e
 | rng lo hi=>obtain ⟨_,_,_,e⟩:=x;exact wy e
 | frz ob u=>obtain ⟨e,_⟩:=x;exact wy e
 | tbl pos qual=>obtain ⟨_,e,_⟩:=x;exact wy e
 | mm m=>obtain ⟨_,_,_,_,_,e⟩:=x;exact wy e
 | met f y=>exact wy (show h.get? a=some _ from x)
 | ext φ=>obtain ⟨_,⟨_,e⟩,_⟩:=x;exact wy e
theorem Paired.mapP {α β:Type} {F G:α->β->Prop}:∀ {l₁:List α} {l₂:List β},Paired F l₁ l₂->(∀ a b,F a b->G a b)->Paired G l₁ l₂
 | _,_,.nil,_=>.nil
 | _,_,.cons r t,f=>.cons (f _ _ r) (Paired.mapP t f)
theorem KeyM.mono {k:List Int×List (List Int)} {b:Addr} (ht:∀ b xs,H b=some (.tup xs)->H' b=some (.tup xs)) (x:KeyM H k b):KeyM H' k b:=let ⟨r,l,ls,h1,h2,h3,h4⟩:=x;⟨r,l,ls,ht _ _ h1,ht _ _ h2,ht _ _ h3,Paired.mapP h4 λ_ _ z=>ht _ _ z⟩
theorem ObjOk.stay (x:ObjOk P w H h a o) (k:∀ b u,(b=a\/H b=some (.own a))->h.get? b=some u->h'.get? b=some u)
  (ho:∀ b,H b=some (.own a)->H' b=some (.own a)) (ht:∀ b xs,H b=some (.tup xs)->H' b=some (.tup xs)) (hf:∀ b o u,H b=some (.frz o u)->H' b=some (.frz o u)):ObjOk P w H' h' a o:=by
 induction o with
 | lst xs=>obtain ⟨z,its,n,r,e⟩:=x;exact ⟨z,its,n,r,k _ _ (.inl rfl) e⟩
 | tup xs=>obtain ⟨z,its,r,ob,e,c⟩:=x;exact ⟨z,its,r,ob,k _ _ (.inl rfl) e,c⟩
 | dK kvs=>obtain ⟨z,y,vs,r,ob,es,ep,e,c⟩:=x;exact ⟨z,y,vs,r,ob,es,ep,k _ _ (.inl rfl) e,c⟩
 | dT kvs =>
  obtain ⟨z,y,xs,r,ob,es,ep,e,c⟩:=x;exact ⟨z,y,xs,Paired.mapP r λp q z=>⟨z.1,ht _ _ z.2.1,z.2.2⟩,ob,es,ep,k _ _ (.inl rfl) e,c⟩
 | set S n=>obtain ⟨ob,es,ep,t,e,c⟩:=x;exact ⟨ob,es,ep,t,k _ _ (.inl rfl) e,c⟩
 | ins C dx fs =>
  obtain ⟨d,z,ne,e,mA,⟨od,es,ep,e2,c⟩,r⟩:=x;exact ⟨ho _ d,z,ne,k _ _ (.inl rfl) e,mA,⟨od,es,ep,k _ _ (.inr d) e2,c⟩,r⟩
 | own y=>obtain ⟨ob,e⟩:=x;exact ⟨ob,k _ _ (.inl rfl) e⟩
 | xd fs=>obtain ⟨mA,⟨od,es,ep,e,c⟩,r⟩:=x;exact ⟨mA,⟨od,es,ep,k _ _ (.inl rfl) e,c⟩,r⟩
 | rng lo hi=>obtain ⟨t,u,v,e⟩:=x;exact ⟨t,u,v,k _ _ (.inl rfl) e⟩
 | frz ob u ih=>obtain ⟨e,q⟩:=x;exact ⟨k _ _ (.inl rfl) e,ih q⟩
 | tbl pos qual =>
  obtain ⟨ps,e,t,q⟩:=x;exact ⟨ps,k _ _ (.inl rfl) e,t,λp cv z=>let ⟨c,oc,u,vs,t,h1,h2,h3⟩:=q p cv z;⟨c,oc,u,vs,t,h1,hf _ _ _ h2,h3⟩⟩
 | mm m =>
  obtain ⟨y,xs,q,n,ep,e⟩:=x;exact ⟨y,xs,λz hz=>⟨(q z hz).1,(q z hz).2.mono ht⟩,n,ep,k _ _ (.inl rfl) e⟩
 | met f y =>
  have e:h.get? a=some (PySem.W.methodObj (.ref f) (.ref y)):=x;show h'.get? a=some (PySem.W.methodObj (.ref f) (.ref y));exact k a _ (.inl rfl) e
 | ext φ=>obtain ⟨p,⟨o,e⟩,st⟩:=x;exact ⟨st _ _ p λo q=>k _ _ (.inl rfl) q,⟨o,k _ _ (.inl rfl) e⟩,st⟩
theorem HOk.lt (x:HOk P w H h) (e:H a=some o):a<h.objs.size:=(x a o e).lt
theorem HOk.fresh (x:HOk P w H h) (e:h.objs.size<=a):H a=none:=by
 cases q:H a with
 | none=>rfl
 | some u=>exact absurd (wL (x.lt q) e) (Nat.lt_irrefl _)
theorem HOk.kept (x:HOk P w H h) (k:∀ b u,h.get? b=some u->h'.get? b=some u):HOk P w H h':=λa o e =>
 (x a o e).stay (λb u _ q=>k b u q) (λ_ q=>q) (λ_ _ q=>q) λ_ _ _ q=>q
theorem HOk.laid (x:HOk P w H h) (k:∀ b u,h.get? b=some u->h'.get? b=some u) (hp:h.objs.size<=a) (new:ObjOk P w (upd H a o) h' a o):HOk P w (upd H a o) h':=λb u e=>by
 have hn:=x.fresh hp
 by_cases hb:b=a
 ·subst hb;rw [ja] at e;cases e;exact new
 ·rw [ya hb] at e;exact (x b u e).stay (λc v _ q=>k c v q) (λc q=>by rw [ya (je q hn)];exact q) (λc xs q=>by rw [ya (je q hn)];exact q) λc o u q=>by rw [ya (je q hn)];exact q
end
def Rd (H:Hp) (a:Addr) (u:HO):Prop:=H a=some u\/∃ o,H a=some (.frz o u)
theorem Rd.ok {P:Program} {w:World} {H:Hp} {h:Heap} {a:Addr} {u:HO} (r:Rd H a u) (x:HOk P w H h):ObjOk P w H h a u:=by
 rcases r with r | ⟨o,r⟩
 ·exact x a u r
 ·obtain ⟨_,q⟩:=x a _ r;exact q
def Mut:Option HO->Prop
 | some (.lst _)=>True
 | some (.dK _)=>True
 | some (.dT _)=>True
 | some (.set _ _)=>True
 | some (.ins _ _ _)=>True
 | some (.ext _)=>True
 | some (.mm _)=>True
 | _=>False
section
variable {P:Program} {w:World} {H:Hp} {h h':Heap} {x e:Addr} {o':HO}
theorem HOk.write (ok:HOk P w H h) (mu:Mut (H x)) (he:e=x\/H e=some (.own x)) (k:∀ b u,b≠e->h.get? b=some u->h'.get? b=some u) (heo:∃ u,h'.get? e=some u)
  (new:ObjOk P w (upd H x o') h' x o'):HOk P w (upd H x o') h':=λb u q=>by
 have nown:∀ c y,H c=some (.own y)->c≠x:=λc y r z=>by subst z;rw [r] at mu;exact mu
 have ntup:∀ c xs,H c=some (.tup xs)->c≠x:=λc xs r z=>by subst z;rw [r] at mu;exact mu
 have nfrz:∀ c o u,H c=some (.frz o u)->c≠x:=λc o u r z=>by subst z;rw [r] at mu;exact mu
 by_cases hb:b=x
 ·subst hb;rw [ja] at q;cases q;exact new
 ·rw [ya hb] at q
  by_cases hbe:b=e
  ·have q':H b=some (.own x):=by
    rcases he with z | z
    ·exact absurd (hbe.trans z) hb
    ·rw [hbe];exact z
   rw [q] at q';cases q'
   obtain ⟨v,hv⟩:=heo;exact ⟨v,by rw [hbe];exact hv⟩
  ·refine (ok b u q).stay (λc v hc r=>k c v ?_ r) (λc r=>by rw [ya (nown c b r)];exact r) (λc xs r=>by rw [ya (ntup c xs r)];exact r) λc o u r=>by rw [ya (nfrz c o u r)];exact r
   rcases hc with rfl | hc
   ·exact hbe
   ·rintro rfl;rcases he with z | z
    ·exact nown c b hc z
    ·rw [hc] at z;cases z;exact hb rfl
end
structure Un (fs ex:List Addr) (H H':Hp) (h h':Heap):Prop where
 keep:∀ b o,h.get? b=some o->H b=none->b∉fs->b∉ex->h'.get? b=some o
 slot:∀ b o,h.get? b=some o->H b=none->b∈fs->b∉ex->∃ sl,h'.get? b=some { o with slots:=sl }
 free:∀ b o,h.get? b=some o->H b=none->b∉ex->H' b=none
 there:∀ b o,h.get? b=some o->b∉ex->∃ o',h'.get? b=some o'
 tups:∀ b xs,H b=some (.tup xs)->H' b=some (.tup xs)
 frzs:∀ b o u,H b=some (.frz o u)->H' b=some (.frz o u)
 tbls:∀ b p q,H b=some (.tbl p q)->H' b=some (.tbl p q)
section
variable {fs fs' ex ex':List Addr} {H H1 H2:Hp} {h h1 h2 h':Heap} {a x e:Addr} {o:HO}
theorem Un.any (u:Un fs ex H H1 h h1) {b:Addr} {ob:Obj} (q:h.get? b=some ob) (n:H b=none) (hx:b∉ex):∃ sl,h1.get? b=some { ob with slots:=sl }:=by
 by_cases hb:b∈fs
 ·exact u.slot b ob q n hb hx
 ·exact ⟨ob.slots,u.keep b ob q n hb hx⟩
theorem Un.kept (k:∀ b u,h.get? b=some u->h'.get? b=some u):Un fs ex H H h h' :=
 ⟨λb ob q _ _ _=>k b ob q,λb ob q _ _ _=>⟨ob.slots,k b ob q⟩,λ_ _ _ n _=>n,λb ob q _=>⟨ob,k b ob q⟩,λ_ _ q=>q,λ_ _ _ q=>q,λ_ _ _ q=>q⟩
theorem Un.refl:Un fs ex H H h h:=Un.kept λ_ _ q=>q
theorem Un.laid (k:∀ b u,h.get? b=some u->h'.get? b=some u) (hp:h.objs.size<=a) (hn:H a=none):Un fs ex H (upd H a o) h h' where
 keep:=λb u q _ _ _=>k b u q
 slot:=λb u q _ _ _=>⟨u.slots,k b u q⟩
 free:=λb u q n _=>by rw [ya (wM (wL (wy q) hp))];exact n
 there:=λb u q _=>⟨u,k b u q⟩
 tups:=λb xs q=>by rw [ya (je q hn)];exact q
 frzs:=λb u xs q=>by rw [ya (je q hn)];exact q
 tbls:=λb p q z=>by rw [ya (je z hn)];exact z
theorem Un.write (mu:Mut (H x)) (he:e=x\/H e=some (.own x)) (k:∀ b u,b≠e->h.get? b=some u->h'.get? b=some u) (heo:∃ u,h'.get? e=some u):Un fs ex H (upd H x o) h h':=by
 have hx:∀ b,H b=none->b≠x:=λb n z=>by subst z;rw [n] at mu;exact mu
 have hb:∀ b,H b=none->b≠e:=λb n z=>by
  subst z;rcases he with r | r
  ·exact hx b n r
  ·rw [n] at r;cases r
 have hm:∀ b u,H b=some u->¬ Mut (some u)->b≠x:=λb u q nm z=>by subst z;rw [q] at mu;exact nm mu
 refine ⟨λb u q n _ _ => k b u (hb b n) q, λb u q n _ _ => ⟨u.slots, k b u (hb b n) q⟩, λb u q n _ => by rw [ya (hx b n)]; exact n, λb u q _ => ?_,
  λb xs q=>by rw [ya (hm b _ q λz=>z)];exact q,λb u xs q=>by rw [ya (hm b _ q λz=>z)];exact q,λb p r q=>by rw [ya (hm b _ q λz=>z)];exact q⟩
 by_cases hbe:b=e
 ·subst hbe;exact heo
 ·exact ⟨u,k b u hbe q⟩
end
noncomputable def trk (h:Heap) (H:Hp):List Addr:=(List.range h.objs.size).filter λa=>(H a).isSome
noncomputable def yb9 (h:Heap) (H:Hp):Heap:=PySem.W.hideAll h (trk h H)
theorem ybw (h:Heap) (H:Hp):(yb9 h H).objs.size=h.objs.size:=PySem.W.hideAll_size _ _
theorem jb9 {h:Heap} {H:Hp} {b:Addr} {o:Obj} (e:h.get? b=some o) (n:H b=none):(yb9 h H).get? b=some o :=
 PySem.W.hideAll_get _ e λhm=>by
  have q:(H b).isSome=true:=(List.mem_filter.mp hm).2;rw [n] at q;simp at q
theorem qcN {h:Heap} {H:Hp} {b:Addr} {o:Obj} (e:(yb9 h H).get? b=some o):h.get? b=some o/\H b=none:=by
 have e':h.get? b=some o:=PySem.W.of_hideAll (trk h H) e;refine ⟨e',?_⟩;cases q:H b with
 | none=>rfl
 | some x =>
  have hm:b∈trk h H:=List.mem_filter.mpr ⟨vc.mpr (wy e'),by simp [q]⟩;have z:(yb9 h H).get? b=none:=PySem.W.hideAll_none (trk h H) hm;rw [z] at e;cases e
noncomputable def ycN (g h:Heap) (L:Addr):List (Addr×Obj):=(List.range h.objs.size).filterMap λa=>if a=L\/(g.get? a).isSome=true then none else (h.get? a).map λo=>(a,o)
noncomputable def rest (g h:Heap) (L d:Addr):List (Addr×Obj):=(ycN g h L).filter λp=>decide (p.1≠d)
structure Mod (K:Frag) (mg:Str->Option Value) (base:Heap):Prop where
 kin:K.In base
 glob:base.Ns mainGlobals mg
 blt:∃ mb,base.Ns builtinsNs mb/\∀ x:Str,x≠"__name__"->mb x=bootBuiltins x
 nolimit:base.NoLimit
 bmod:∃ bm ob,mg "__builtins__"=some (.ref bm)/\bm≠builtinsNs/\base.get? bm=some ob/\ob.cls=.type "module"/\ob.dict=some builtinsNs/\ob.data=.plain
structure Cx where
 prog:Program
 w:World
 K:Frag
 mg:Str->Option Value
 base:Heap
 A:Around
 N:List Str
 s₀:Shared
 H₀:Hp
 env:Env
 outer:List Env
 stack:List Env
 ex:List Addr
 fn:Str->Bool
 calm:Bool
 pn:List (Addr×Obj)
 xe:Value->Shared->Prop
noncomputable def frs (l:List Env):List Addr:=l.filterMap (·.frame)
noncomputable abbrev Cx.fs (X:Cx):List Addr:=frs X.outer
def Vis (sc:Scope) (x:Str):Prop:=sc.names.lookup x=some .local\/sc.names.lookup x=some .cell\/sc.names.lookup x=some .free
def Loc (sc:Scope) (x:Str):Prop:=sc.names.lookup x=some .local\/sc.names.lookup x=some .cell
def Look (env:Env) (h:Heap) (m:Str->Option Value) (x:Str) (u:Value):Prop :=
 (env.kindOf x=some .local/\m x=some u)\/((env.kindOf x=some .cell\/env.kindOf x=some .free)/\∃ c,env.cells.lookup x=some c/\h.IsCell c (some u))
structure Cx.Ok (X:Cx):Prop where
 mod:Mod X.K X.mg X.base
 kind:X.env.scope.kind=.function
 glob:X.env.globals=mainGlobals
 blt:X.env.builtins=builtinsNs
 above:X.s₀.heap.objs.size<=X.env.locals
 inj:∀ x y c,X.env.cells.lookup x=some c->X.env.cells.lookup y=some c->x=y
 has:∀ x,(X.env.kindOf x=some .cell\/X.env.kindOf x=some .free)->∃ c,X.env.cells.lookup x=some c
 cab:∀ x c,X.fn x=true->X.env.cells.lookup x=some c->X.s₀.heap.objs.size<=c
 hd:X.calm=true->X.A.handled=none
 frames:X.A.frames=some X.stack
 stk:X.stack=X.outer\/(X.stack=X.env::X.outer/\X.env.frame=some X.env.locals)
 exf:∀ b∈X.ex,b≠X.env.locals/\∀ x c,X.env.cells.lookup x=some c->c≠b
 bs:∀ b o,X.base.get? b=some o->X.s₀.heap.get? b=some o/\X.H₀ b=none
 bsz:X.base.objs.size<=X.s₀.heap.objs.size
 noex:∀ b o,X.base.get? b=some o->b∉X.ex
 exfs:∀ b∈X.ex,b∉X.fs
 funs:X.s₀.heap.FunFrames X.base X.outer
 frf:∀ b∈X.fs,X.H₀ b=none
structure Inv (X:Cx) (pins:List (Addr×Obj)) (σ:List (Option V)) (H:Hp) (s:Shared):Prop where
 ok:X.Ok
 os:s.os=X.s₀.os
 bare:AllBare s.gens
 base:Un X.fs X.ex X.H₀ H X.s₀.heap s.heap
 loc:∃ m,s.heap.Ns X.env.locals m/\∀ (i:Nat) (x:Str) (v:V),X.N[i]?=some x->σ[i]?=some (some v)->Vis X.env.scope x->∃ u,RelV v u/\Look X.env s.heap m x u
 cell:∀ x c,X.env.cells.lookup x=some c->∃ v,s.heap.IsCell c v
 free:H X.env.locals=none
 freeC:∀ x c,X.env.cells.lookup x=some c->H c=none
 pin:∀ p∈X.pn++pins,s.heap.get? p.1=some p.2/\H p.1=none/\p.1≠X.env.locals/\p.1∉X.fs/\∀ v,p.2.data≠.cell v
 hok:HOk X.prog X.w H s.heap
 len:σ.length=X.N.length
section
variable {X:Cx} {pins:List (Addr×Obj)} {σ:List (Option V)} {H H':Hp} {s:Shared} {h':Heap}
theorem Cx.Ok.nofr (ok:X.Ok) {b:Addr} {o:Obj} (e:X.base.get? b=some o):b∉X.fs:=λhb=>by
 have:=(ok.funs.mem hb).1
 rw [e] at this;cases this
theorem Inv.bs (I:Inv X pins σ H s):∀ b o,X.base.get? b=some o->s.heap.get? b=some o/\H b=none:=λb o e =>
 ⟨I.base.keep b o (I.ok.bs b o e).1 (I.ok.bs b o e).2 (I.ok.nofr e) (I.ok.noex b o e),I.base.free b o (I.ok.bs b o e).1 (I.ok.bs b o e).2 (I.ok.noex b o e)⟩
theorem Inv.bk (I:Inv X pins σ H s):∀ b o,X.base.get? b=some o->s.heap.get? b=some o:=λb o e=>(I.bs b o e).1
theorem Inv.mod (I:Inv X pins σ H s):Mod X.K X.mg X.base:=I.ok.mod
theorem Inv.kIn (I:Inv X pins σ H s):X.K.In s.heap:=I.ok.mod.kin.keeps I.bk
theorem Inv.nolimit (I:Inv X pins σ H s):s.heap.NoLimit:=I.ok.mod.nolimit.keeps I.bk
theorem Inv.lt (I:Inv X pins σ H s):X.env.locals<s.heap.objs.size:=let ⟨_,hn,_⟩:=I.loc;hn.lt
theorem Inv.sz (I:Inv X pins σ H s):X.s₀.heap.objs.size<=s.heap.objs.size:=wQ I.ok.above (Nat.le_of_lt I.lt)
theorem Inv.nofs (I:Inv X pins σ H s) {a:Addr} (h:s.heap.objs.size<=a):a∉X.fs:=λhb=>by
 obtain ⟨_,o,ho,_⟩:=I.ok.funs.mem hb;exact absurd (wL (wy ho) (wQ I.sz h)) (Nat.lt_irrefl _)
theorem Inv.cne (I:Inv X pins σ H s):∀ x c,X.env.cells.lookup x=some c->c≠X.env.locals:=λx c e z=>by
 obtain ⟨v,o,ho,hd⟩:=I.cell x c e;obtain ⟨m,⟨o',es,ep,ho',hd',_⟩,_⟩:=I.loc;rw [z,ho'] at ho;cases ho;rw [hd'] at hd;cases hd
theorem Inv.funs (I:Inv X pins σ H s):s.heap.FunFrames X.base X.outer:=by
 have all:∀ (l:List Env),(∀ b∈frs l,b∈X.fs)->X.s₀.heap.FunFrames X.base l->s.heap.FunFrames X.base l:=by
  intro l
  induction l with
  | nil=>intro _ _;trivial
  | cons env r ih =>
   intro hs hl;obtain ⟨hk,⟨L,o,hf,hn,ho,hd⟩,hr⟩:=hl;have hL:L∈X.fs:=hs L (by unfold frs;rw [List.filterMap_cons,hf];exact wN);obtain ⟨sl,e⟩:=I.base.slot L o ho (I.ok.frf L hL) hL λz=>I.ok.exfs L z hL
   exact ⟨hk,⟨L,_,hf,hn,e,hd⟩,ih (λb hb=>hs b (by unfold frs;rw [List.filterMap_cons,hf];exact wH _ hb)) hr⟩
 exact all X.outer (λ_ hb=>hb) I.ok.funs
theorem Inv.stack (I:Inv X pins σ H s):s.heap.FunFrames X.base X.stack:=by
 rcases I.ok.stk with e | ⟨e,hf⟩
 ·rw [e];exact I.funs
 ·rw [e];obtain ⟨m,hn,_⟩:=I.loc;refine .cons (by rw [I.ok.kind];decide) hf hn ?_ I.funs;exact Heap.get?_none_of_le (wQ I.ok.bsz I.ok.above)
theorem Inv.stkSub (I:Inv X pins σ H s):∀ b∈frs X.stack,b∈X.env.locals::X.fs:=λb hb=>by
 rcases I.ok.stk with e | ⟨e,hf⟩
 ·rw [e] at hb;exact wH _ hb
 ·rw [e] at hb;unfold frs at hb;rw [List.filterMap_cons,hf] at hb;exact hb
theorem Inv.stkFree (I:Inv X pins σ H s):∀ b∈frs X.stack,H b=none:=λb hb=>by
 rcases wu.mp (I.stkSub b hb) with e | hb
 ·rw [e];exact I.free
 ·obtain ⟨_,o,ho,_⟩:=I.ok.funs.mem hb;exact I.base.free b o ho (I.ok.frf b hb) λz=>I.ok.exfs b z hb
theorem Inv.step {g':Array GenState} {t':Nat} {d':Drawn} {ch:List Addr} (I:Inv X pins σ H s)
  (hch:∀ b∈ch,(b∈X.ex\/X.s₀.heap.objs.size<=b)/\b≠X.env.locals/\(∀ x c,X.env.cells.lookup x=some c->c≠b)/\∀ p∈X.pn++pins,p.1≠b)
  (keep:∀ b o,b≠X.env.locals->b∉X.fs->b∉ch->s.heap.get? b=some o->H b=none->h'.get? b=some o)
  (slot:∀ b o,b≠X.env.locals->b∈X.fs->b∉ch->s.heap.get? b=some o->H b=none->∃ sl,h'.get? b=some { o with slots:=sl }) (free:∀ b o,b∉ch->s.heap.get? b=some o->H b=none->H' b=none)
  (there:∀ b o,b∉ch->s.heap.get? b=some o->∃ o',h'.get? b=some o')
  (tups:∀ b xs,H b=some (.tup xs)->H' b=some (.tup xs)) (frzs:∀ b o u,H b=some (.frz o u)->H' b=some (.frz o u)) (tbls:∀ b p q,H b=some (.tbl p q)->H' b=some (.tbl p q))
  (ns:∀ m,s.heap.Ns X.env.locals m->h'.Ns X.env.locals m) (hok:HOk X.prog X.w H' h') (hg:AllBare g') :
  Inv X pins σ H' { s with heap:=h',gens:=g',drawn:=d',toks:=t' }:=by
 have neL:∀ b o,X.s₀.heap.get? b=some o->b≠X.env.locals:=λb o e=>wM (wL (wy e) I.ok.above)
 have neC:∀ b o,X.s₀.heap.get? b=some o->b∉X.ex->b∉ch:=λb o e hx hb=>by
  rcases (hch b hb).1 with z | z
  ·exact hx z
  ·exact absurd (wL (wy e) z) (Nat.lt_irrefl _)
 have cellK:∀ x c,X.env.cells.lookup x=some c->∀ v,s.heap.IsCell c v->h'.IsCell c v:=λx c e v ⟨o,ho,hd⟩=>by
  have nch:c∉ch:=λz=>(hch c z).2.2.1 x c e rfl
  by_cases hc:c∈X.fs
  ·obtain ⟨sl,q⟩:=slot c o (I.cne x c e) hc nch ho (I.freeC x c e);exact ⟨_,q,hd⟩
  ·exact ⟨o,keep c o (I.cne x c e) hc nch ho (I.freeC x c e),hd⟩
 refine ⟨I.ok,I.os,hg,⟨λb o e n hb hx=>?_,λb o e n hb hx=>?_,λb o e n hx=>?_,λb o e hx=>?_,λb xs e=>tups b xs (I.base.tups b xs e),λb o xs e=>frzs b o xs (I.base.frzs b o xs e),λb p q e=>tbls b p q (I.base.tbls b p q e)⟩,?_,λx c e=>?_,?_,λx c e=>?_,λp hp=>?_,hok,I.len⟩
 ·exact keep b o (neL b o e) hb (neC b o e hx) (I.base.keep b o e n hb hx) (I.base.free b o e n hx)
 ·obtain ⟨sl,e1⟩:=I.base.slot b o e n hb hx;obtain ⟨sl',e2⟩:=slot b _ (neL b o e) hb (neC b o e hx) e1 (I.base.free b o e n hx);exact ⟨sl',e2⟩
 ·obtain ⟨o',e1⟩:=I.base.there b o e hx;exact free b o' (neC b o e hx) e1 (I.base.free b o e n hx)
 ·obtain ⟨o',e1⟩:=I.base.there b o e hx;exact there b o' (neC b o e hx) e1
 ·obtain ⟨m,hn,hl⟩:=I.loc;refine ⟨m,ns m hn,λi x v e1 e2 e3=>?_⟩;obtain ⟨u,r,l⟩:=hl i x v e1 e2 e3;refine ⟨u,r,?_⟩;rcases l with l | ⟨k,c,e,z⟩
  ·exact .inl l
  ·exact .inr ⟨k,c,e,cellK x c e _ z⟩
 ·obtain ⟨v,z⟩:=I.cell x c e;exact ⟨v,cellK x c e v z⟩
 ·obtain ⟨m,⟨o,_,_,ho,_⟩,_⟩:=I.loc;exact free _ o (λz=>(hch _ z).2.1 rfl) ho I.free
 ·obtain ⟨v,o,ho,hd⟩:=I.cell x c e;exact free c o (λz=>(hch c z).2.2.1 x c e rfl) ho (I.freeC x c e)
 ·obtain ⟨e,n,ne,nf,d⟩:=I.pin p hp;have nch:p.1∉ch:=λz=>(hch p.1 z).2.2.2 p hp rfl
  exact ⟨keep p.1 p.2 ne nf nch e n,free p.1 p.2 nch e n,ne,nf,d⟩
theorem Inv.un {t':Nat} (I:Inv X pins σ H s) (u:Un X.fs [] H H' s.heap h') (hok:HOk X.prog X.w H' h'):Inv X pins σ H' { s with heap:=h',toks:=t' }:=by
 obtain ⟨m,⟨o,es,ep,ho,r⟩,_⟩:=id I.loc;obtain ⟨sl,hL⟩:=u.any ho I.free (by simp)
 exact I.step (g' := s.gens) (d' := s.drawn) (ch := []) (λ_ z => nomatch z) (λb o _ hb _ e n => u.keep b o e n hb (by simp)) (λb o _ hb _ e n => u.slot b o e n hb (by simp)) (λb o _ e n => u.free b o e n (by simp)) (λb o _ e => u.there b o e (by simp)) u.tups u.frzs u.tbls (λm' hm => by
  obtain ⟨o',es',ep',ho',r'⟩:=hm;rw [ho] at ho';cases ho'
  exact ⟨_,es',ep',hL,r'⟩) hok I.bare
theorem Inv.call {g':Array GenState} {t':Nat} {d':Drawn} {ch:List Addr} (I:Inv X pins σ H s) (u:Un (frs X.stack) ch H H' s.heap h') (hok:HOk X.prog X.w H' h') (hg:AllBare g')
  (hch:∀ b∈ch,(b∈X.ex\/X.s₀.heap.objs.size<=b)/\b≠X.env.locals/\(∀ x c,X.env.cells.lookup x=some c->c≠b)/\∀ p∈X.pn++pins,p.1≠b) :
  Inv X pins σ H' { s with heap:=h',gens:=g',drawn:=d',toks:=t' }:=by
 obtain ⟨m,⟨o,es,ep,ho,r⟩,_⟩:=id I.loc;obtain ⟨sl,hL⟩:=u.any ho I.free λz=>(hch _ z).2.1 rfl
 exact I.step (ch:=ch) hch (λb o hL hb hc e n=>u.keep b o e n (λz=>(wu.mp (I.stkSub b z)).elim hL hb) hc) (λb o _ _ hc e n=>u.any e n hc) (λb o hc e n=>u.free b o e n hc) (λb o hc e=>u.there b o e hc) u.tups u.frzs u.tbls (λm' hm=>by
  obtain ⟨o',es',ep',ho',r'⟩:=hm;rw [ho] at ho';cases ho'
  exact ⟨_,es',ep',hL,r'⟩) hok hg
theorem Inv.turned {t':Nat} {it:Addr} (I:Inv X pins σ H s) (k:∀ b o,b≠it->s.heap.get? b=some o->h'.get? b=some o) (hn:H it=none) (hL:it≠X.env.locals)
  (h1:it∈X.ex\/X.s₀.heap.objs.size<=it) (h2:∀ x c,X.env.cells.lookup x=some c->c≠it) (h3:∀ p∈X.pn++pins,p.1≠it):Inv X pins σ H { s with heap:=h',toks:=t' }:=by
 have nit:∀ b u,H b=some u->b≠it:=λb u e z=>by rw [z,hn] at e;cases e
 refine I.step (g' := s.gens) (d' := s.drawn) (ch := [it]) (λb hb => ?_) (λb o _ _ hc e _ => k b o (λz => hc (by simp [z])) e) (λb o _ _ hc e _ => ⟨o.slots, k b o (λz => hc (by simp [z])) e⟩) (λ_ _ _ _ n => n)
  (λb o hc e=>⟨o,k b o (λz=>hc (by simp [z])) e⟩) (λ_ _ e=>e) (λ_ _ _ e=>e) (λ_ _ _ e=>e) (λm hm=>?_) (λb u e=>?_) I.bare
 ·have e:b=it:=by simpa using hb
  subst e;exact ⟨h1,hL,h2,h3⟩
 ·obtain ⟨o,es,ep,ho,r⟩:=hm;exact ⟨o,es,ep,k _ o (Ne.symm hL) ho,r⟩
 ·refine (I.hok b u e).stay (λc v hc q=>k c v ?_ q) (λ_ q=>q) (λ_ _ q=>q) λ_ _ _ q=>q
  rcases hc with z | z
  ·rw [z];exact nit b u e
  ·exact nit c _ z
theorem Inv.tok (I:Inv X pins σ H s) (t:Nat):Inv X pins σ H { s with toks:=t }:=I.un (h':=s.heap) (t':=t) Un.refl I.hok
theorem Inv.kept {t':Nat} (I:Inv X pins σ H s) (k:∀ b u,s.heap.get? b=some u->h'.get? b=some u):Inv X pins σ H { s with heap:=h',toks:=t' }:=I.un (Un.kept k) (I.hok.kept k)
theorem Inv.laid {a:Addr} {o:HO} {t':Nat} (I:Inv X pins σ H s) (k:∀ b u,s.heap.get? b=some u->h'.get? b=some u) (hp:s.heap.objs.size<=a) (new:ObjOk X.prog X.w (upd H a o) h' a o) :
 Inv X pins σ (upd H a o) { s with heap:=h',toks:=t' }:=I.un (Un.laid k hp (I.hok.fresh hp)) (I.hok.laid k hp new)
theorem Inv.write {x e:Addr} {o:HO} {t':Nat} (I:Inv X pins σ H s) (mu:Mut (H x)) (he:e=x\/H e=some (.own x)) (k:∀ b u,b≠e->s.heap.get? b=some u->h'.get? b=some u) (heo:∃ u,h'.get? e=some u)
 (new:ObjOk X.prog X.w (upd H x o) h' x o):Inv X pins σ (upd H x o) { s with heap:=h',toks:=t' }:=I.un (Un.write mu he k heo) (I.hok.write mu he k heo new)
theorem Inv.pins_of {pins':List (Addr×Obj)} (I:Inv X pins σ H s) (h:∀ p∈pins',s.heap.get? p.1=some p.2/\H p.1=none/\p.1≠X.env.locals/\p.1∉X.fs/\∀ v,p.2.data≠.cell v):Inv X pins' σ H s :=
 ⟨I.ok,I.os,I.bare,I.base,I.loc,I.cell,I.free,I.freeC,λp hp=>(List.mem_append.mp hp).elim (λz=>I.pin p (List.mem_append_left _ z)) (h p),I.hok,I.len⟩
theorem ya5 {N:List Str} (hN:N.Nodup) {i j:Nat} {x:Str} (a:N[i]?=some x) (b:N[j]?=some x):i=j:=by
 obtain ⟨h1,e1⟩:=wq.mp a;obtain ⟨h2,e2⟩:=wq.mp b;exact (List.getElem_inj hN).mp (e1.trans e2.symm)
theorem jaF {M:Model} {A:Around} {E:Value->Shared->Prop} {i:Nat} {x:Str} {v:V} {u:Value} {Q:Unit->Shared->Prop} (I:Inv X pins σ H s) (hN:X.N.Nodup) (hi:X.N[i]?=some x) (hx:Loc X.env.scope x) (r:RelV v u)
  (h:∀ s',Inv X pins (σ.set i (some v)) H s'->(∃ a,Heap.SameBut a s.heap s'.heap/\(a=X.env.locals\/X.env.cells.lookup x=some a))->Q () s') (hf:X.fn x=true\/X.env.scope.names.lookup x=some .local:=by first | exact .inl rfl | exact .inr rfl | assumption):wpAny M A (storeName X.env x u) Q E s:=by
 obtain ⟨m,hn,hl⟩:=id I.loc;have hcls:(X.env.scope.kind==.class||(X.env.scope.kind==.module&&X.env.locals != X.env.globals))=false:=by rw [I.ok.kind];rfl
 have hiσ:i<σ.length:=by rw [I.len];exact (wq.mp hi).1
 have cne:=I.cne
 have tracked:∀ {a:Addr} {h':Heap},(∃ o,s.heap.get? a=some o/\H a=none)->Heap.SameBut a s.heap h'->HOk X.prog X.w H h':=λ{a h'} ha hs b ob e=>by
  obtain ⟨_,_,hfree⟩:=ha;refine (I.hok b ob e).stay (λc w' hc q=>(hs.2 c ?_).trans q) (λ_ q=>q) (λ_ _ q=>q) λ_ _ _ q=>q
  rintro rfl;rcases hc with rfl | hc
  ·rw [hfree] at e;cases e
  ·rw [hfree] at hc;cases hc
 rcases hx with hk | hk
 ·refine wpAny_storeName_local hk hn (λh' hn' hs=>?_) hcls;obtain ⟨oL,_,_,hoL,_⟩:=id hn;refine h _ ⟨I.ok,I.os,I.bare,⟨λb o e n hb hx=>?_,λb o e n hb hx=>?_,I.base.free,λb o e hx=>?_,I.base.tups,I.base.frzs,I.base.tbls⟩,⟨_,hn',λj y v' e1 e2 e3=>?_⟩,λy c e=>?_,I.free,I.freeC,λp hp=>?_,tracked ⟨oL,hoL,I.free⟩ hs,by simpa using I.len⟩ ⟨_,hs,.inl rfl⟩
  ·exact (hs.2 b (wM (wL (wy e) I.ok.above))).trans (I.base.keep b o e n hb hx)
  ·obtain ⟨sl,e1⟩:=I.base.slot b o e n hb hx;exact ⟨sl,(hs.2 b (wM (wL (wy e) I.ok.above))).trans e1⟩
  ·obtain ⟨o',e1⟩:=I.base.there b o e hx;exact ⟨o',(hs.2 b (wM (wL (wy e) I.ok.above))).trans e1⟩
  ·by_cases hj:j=i
   ·subst hj;rw [hi] at e1;cases e1
    rw [vn hiσ] at e2;cases e2;exact ⟨u,r,.inl ⟨hk,by simp⟩⟩
   ·rw [wD (Ne.symm hj)] at e2;obtain ⟨u',r',q⟩:=hl j y v' e1 e2 e3;refine ⟨u',r',?_⟩;rcases q with ⟨k,e⟩ | ⟨k,c,e,z⟩
    ·refine .inl ⟨k,?_⟩
     have:y≠x:=λe=>hj (ya5 hN e1 (e▸hi))
     simp [this,e]
    ·exact .inr ⟨k,c,e,z.sameBut hs (cne y c e)⟩
  ·obtain ⟨w',z⟩:=I.cell y c e;exact ⟨w',z.sameBut hs (cne y c e)⟩
  ·obtain ⟨e,n,ne,nf,d⟩:=I.pin p hp;exact ⟨(hs.2 p.1 ne).trans e,n,ne,nf,d⟩
 ·have hfn:X.fn x=true:=by
   rcases hf with z | z
   ·exact z
   ·rw [z] at hk;cases hk
  obtain ⟨c,hc⟩:=I.ok.has x (.inl hk);obtain ⟨w',z⟩:=I.cell x c hc;refine wpAny_storeName_cell I.ok.kind hk hc z (λh' hc' hs=>?_);obtain ⟨oc,hoc,hocd⟩:=id z;refine h { s with heap:=h' } ⟨I.ok,I.os,I.bare,⟨λb o e n hb hx=>?_,λb o e n hb hx=>?_,I.base.free,λb o e hx=>?_,I.base.tups,I.base.frzs,I.base.tbls⟩,⟨m,hn.sameBut hs (Ne.symm (cne x c hc)),λj y v' e1 e2 e3=>?_⟩,λy c' e=>?_,I.free,I.freeC,λp hp=>?_,tracked ⟨oc,hoc,I.freeC x c hc⟩ hs,by simpa using I.len⟩ ⟨c,hs,.inr hc⟩
  ·exact (hs.2 b (wM (wL (wy e) (I.ok.cab x c hfn hc)))).trans (I.base.keep b o e n hb hx)
  ·obtain ⟨sl,e1⟩:=I.base.slot b o e n hb hx;exact ⟨sl,(hs.2 b (wM (wL (wy e) (I.ok.cab x c hfn hc)))).trans e1⟩
  ·obtain ⟨o',e1⟩:=I.base.there b o e hx;exact ⟨o',(hs.2 b (wM (wL (wy e) (I.ok.cab x c hfn hc)))).trans e1⟩
  ·by_cases hj:j=i
   ·subst hj;rw [hi] at e1;cases e1
    rw [vn hiσ] at e2;cases e2;exact ⟨u,r,.inr ⟨.inl hk,c,hc,hc'⟩⟩
   ·rw [wD (Ne.symm hj)] at e2;obtain ⟨u',r',q⟩:=hl j y v' e1 e2 e3;refine ⟨u',r',?_⟩;rcases q with q | ⟨k,c',e,z'⟩
    ·exact .inl q
    ·refine .inr ⟨k,c',e,z'.sameBut hs ?_⟩;rintro rfl;exact hj (ya5 hN e1 (I.ok.inj _ _ _ e hc▸hi))
  ·by_cases hcc:c'=c
   ·subst hcc;exact ⟨_,hc'⟩
   ·obtain ⟨w2,z2⟩:=I.cell y c' e;exact ⟨w2,z2.sameBut hs hcc⟩
  ·obtain ⟨e,n,ne,nf,d⟩:=I.pin p hp;refine ⟨(hs.2 p.1 ?_).trans e,n,ne,nf,d⟩;intro q;rw [q,hoc] at e;have q':oc=p.2:=wA e;exact d w' (by rw [<-q'];exact hocd)
theorem ja5 {M:Model} {A:Around} {E:Value->Shared->Prop} {i:Nat} {x:Str} {v:V} {u:Value} {Q:Unit->Shared->Prop} (I:Inv X pins σ H s) (hN:X.N.Nodup) (hi:X.N[i]?=some x) (hx:Loc X.env.scope x) (r:RelV v u)
  (h:∀ s',Inv X pins (σ.set i (some v)) H s'->Q () s') (hf:X.fn x=true\/X.env.scope.names.lookup x=some .local:=by first | exact .inl rfl | exact .inr rfl | assumption):wpAny M A (storeName X.env x u) Q E s :=
 jaF I hN hi hx r (λs' I' _=>h s' I') hf
theorem Inv.call' {s':Shared} {ch:List Addr} (I:Inv X pins σ H s) (ho:s'.os=s.os) (u:Un (frs X.stack) ch H H' s.heap s'.heap) (hok:HOk X.prog X.w H' s'.heap) (hg:AllBare s'.gens)
  (hch:∀ b∈ch,(b∈X.ex\/X.s₀.heap.objs.size<=b)/\b≠X.env.locals/\(∀ x c,X.env.cells.lookup x=some c->c≠b)/\∀ p∈X.pn++pins,p.1≠b):Inv X pins σ H' s':=by
 obtain ⟨h',g',d',t',o'⟩:=s';have e:o'=s.os:=ho;subst e;exact I.call (g':=g') (t':=t') (d':=d') u hok hg hch
end
abbrev XK:=Value->Option Addr->Hp->Prop
noncomputable abbrev St:=List (Option V)
abbrev VK:=V->Hp->Prop
abbrev TE:=St->Hp->VK->Prop
abbrev TT:=St->Hp->(Bool->Hp->Prop)->Prop
abbrev TA:=St->Hp->(List V->Hp->Prop)->Prop
structure Ends where
 nx:St->Hp->Prop
 rt:VK
 bk:St->Hp->Prop:=λ_ _=>False
 ct:St->Hp->Prop:=λ_ _=>False
abbrev TS:=Ends->St->Hp->Prop
def EP (X:Cx) (pins:List (Addr×Obj)) (σ:St) (Q:VK) (u:Value) (s':Shared):Prop:=∃ v H',Inv X pins σ H' s'/\RelV v u/\Q v H'
def TP (X:Cx) (pins:List (Addr×Obj)) (σ:St) (Q:Bool->Hp->Prop) (b:Bool) (s':Shared):Prop:=∃ H',Inv X pins σ H' s'/\Q b H'
def AP (X:Cx) (pins:List (Addr×Obj)) (σ:St) (Q:List V->Hp->Prop) (us:List Value) (s':Shared):Prop:=∃ vs H',Inv X pins σ H' s'/\Vals vs us/\Q vs H'
def SP (X:Cx) (pins:List (Addr×Obj)) (D:Ends) (f:Flow) (s':Shared):Prop :=
 match f with
 | .next=>∃ σ' H',Inv X pins σ' H' s'/\D.nx σ' H'
 | .brk=>∃ σ' H',Inv X pins σ' H' s'/\D.bk σ' H'
 | .cont=>∃ σ' H',Inv X pins σ' H' s'/\D.ct σ' H'
 | .ret u=>∃ v σ' H',Inv X pins σ' H' s'/\RelV v u/\D.rt v H'
def PE (X:Cx) (e:Expr) (t:TE):Prop :=
 ∀ (pins:List (Addr×Obj)) (s:Shared) (σ:St) (H:Hp) (Q:VK),Inv X pins σ H s->t σ H Q->wpAny (model X.prog X.w) X.A (eval e X.env) (EP X pins σ Q) X.xe s
def PT (X:Cx) (e:Expr) (t:TT):Prop :=
 ∀ (pins:List (Addr×Obj)) (s:Shared) (σ:St) (H:Hp) (Q:Bool->Hp->Prop),Inv X pins σ H s->t σ H Q->wpAny (model X.prog X.w) X.A (isTrue e X.env (eval e X.env)) (TP X pins σ Q) X.xe s
def PW (X:Cx) (e:Expr) (t:TT):Prop :=
 ∀ (whole:Sem Value) (pins:List (Addr×Obj)) (s:Shared) (σ:St) (H:Hp) (Q:Bool->Hp->Prop),Inv X pins σ H s->t σ H Q->wpAny (model X.prog X.w) X.A (isTrue e X.env whole) (TP X pins σ Q) X.xe s
theorem PW.pt {X:Cx} {e:Expr} {t:TT} (h:PW X e t):PT X e t:=h _
def PA (X:Cx) (es:List Expr) (t:TA):Prop :=
 ∀ (pos:Pos) (pins:List (Addr×Obj)) (s:Shared) (σ:St) (H:Hp) (Q:List V->Hp->Prop),Inv X pins σ H s->t σ H Q->wpAny (model X.prog X.w) X.A (spliced (backTo pos (starEach es X.env))) (AP X pins σ Q) X.xe s
def PS (X:Cx) (st:Stmt) (t:TS):Prop :=
 ∀ (pins:List (Addr×Obj)) (s:Shared) (σ:St) (H:Hp) (D:Ends),Inv X pins σ H s->t D σ H->wpAny (model X.prog X.w) X.A (exec st X.env) (SP X pins D) X.xe s
def PSs (X:Cx) (st:List Stmt) (t:TS):Prop :=
 ∀ (pins:List (Addr×Obj)) (s:Shared) (σ:St) (H:Hp) (D:Ends),Inv X pins σ H s->t D σ H->wpAny (model X.prog X.w) X.A (execs st X.env) (SP X pins D) X.xe s
theorem thn {α:Type} {t:Sem α} {Q Q':α->Shared->Prop} {M:Model} {A:Around} {E:Value->Shared->Prop} {s:Shared} (h:wpAny M A t Q E s) (hQ:∀ a s,Q a s->Q' a s):wpAny M A t Q' E s:=wpAny_mono h hQ λ_ _ x=>x
section
variable {X:Cx}
theorem bin {a b:Expr} {ta tb:TE} (ha:PE X a ta) (hb:PE X b tb) {pins:List (Addr×Obj)} {s:Shared} {σ:St} {H:Hp} {R:V->V->Hp->Prop} (I:Inv X pins σ H s) (h:ta σ H λx H1=>tb σ H1 λy H2=>R x y H2)
  {α:Type} {Q:α->Shared->Prop} {f:Value->Value->Sem α}
  (hf:∀ v u s2 x y H2,Inv X pins σ H2 s2->RelV x v->RelV y u->R x y H2->wpAny (model X.prog X.w) X.A (f v u) Q X.xe s2) :
  wpAny (model X.prog X.w) X.A (eval a X.env) (λv s₁=>wpAny (model X.prog X.w) X.A (eval b X.env) (λu s₂=>wpAny (model X.prog X.w) X.A (f v u) Q X.xe s₂) X.xe s₁) X.xe s:=by
 refine thn (ha pins s σ H _ I h) λv s1 ⟨x,H1,I1,r1,q1⟩=>?_
 refine thn (hb pins s1 σ H1 _ I1 q1) λu s2 ⟨y,H2,I2,r2,q2⟩=>?_
 exact hf v u s2 x y H2 I2 r1 r2 q2
def jel (i:Nat):TE:=λσ H Q=>∃ v,σ[i]?=some (some v)/\Q v H
def tC (v:V):TE:=λ_ H Q=>Q v H
theorem zK {i : Nat} {x : Str} {pos : Pos} (hN : X.N[i]? = some x) (hv : Vis X.env.scope x) (hd : (x == ("__debug__" : Str)) = false := by decide) (hcd : (x == ("__classdict__" : Str)) = false := by decide) : PE X (.Name x pos) (jel i) := by
 intro pins s σ H Q I h;obtain ⟨v,e,h⟩:=h;obtain ⟨m,hn,hl⟩:=I.loc;obtain ⟨u,r,l⟩:=hl i x v hN e hv;have fin:EP X pins σ Q u s:=⟨v,H,I,r,h⟩;rcases l with ⟨hk,hm⟩ | ⟨hk,c,hc,hcell⟩
 ·exact wpAny_Name (wpAny_loadName_local I.ok.kind hk hn hm fin) hd
 ·rcases hk with hk | hk
  ·exact wpAny_Name (wpAny_loadName_cell I.ok.kind hk hc hcell fin) hd
  ·exact wpAny_Name (wpAny_loadName_free I.ok.kind hk hc hcell fin hcd) hd
theorem ydo {i j pos}:PE X (.Constant (.int i) j pos) (tC (.int i)):=λ_ _ _ H _ I h=>wpAny_Constant_int ⟨.int i,H,I.tok _,⟨_,rfl⟩,h⟩
theorem jcN {b j pos}:PE X (.Constant (.bool b) j pos) (tC (.bl b)):=λ_ _ _ H _ I h=>Constant_bool ⟨.bl b,H,I,rfl,h⟩
theorem jdo {j pos}:PE X (.Constant .none j pos) (tC .non):=λ_ _ _ H _ I h=>Constant_none ⟨.non,H,I,rfl,h⟩
theorem zdp {x j pos}:PE X (.Constant (.str x) j pos) (tC (.str x)):=λ_ _ _ H _ I h=>Calls.Constant_str ⟨.str x,H,I.tok _,⟨_,rfl⟩,h⟩
def Gl (X:Cx) (x:Str):Prop:=X.env.kindOf x=some .globalImplicit
theorem jbw {E:Value->Shared->Prop} {pins:List (Addr×Obj)} {s:Shared} {σ:St} {H:Hp} {x:Str} {u:Value} {pos:Pos} {Q:Value->Shared->Prop} (I:Inv X pins σ H s) (hg:Gl X x) (hm:X.mg x=some u) (h:Q u s)
  (hd:(x==("__debug__":Str))=false:=by decide):wpAny (model X.prog X.w) X.A (eval (.Name x pos) X.env) Q E s :=
 Calls.Name_function_global I.ok.kind hg (Calls.loadGlobal_global (by rw [I.ok.glob];exact I.mod.glob.keeps I.bk) hm h) hd
theorem yO {E:Value->Shared->Prop} {pins:List (Addr×Obj)} {s:Shared} {σ:St} {H:Hp} {x:Str} {u:Value} {pos:Pos} {Q:Value->Shared->Prop} (I:Inv X pins σ H s) (hg:Gl X x) (hm:X.mg x=none) (hv:bootBuiltins x=some u) (h:Q u s)
  (hn:x≠"__name__":=by decide) (hd:(x==("__debug__":Str))=false:=by decide):wpAny (model X.prog X.w) X.A (eval (.Name x pos) X.env) Q E s:=by
 obtain ⟨mb,h1,h2⟩:=I.mod.blt;exact Calls.Name_function_global I.ok.kind hg (Calls.loadGlobal_builtin (by rw [I.ok.glob];exact I.mod.glob.keeps I.bk) hm (by rw [I.ok.blt];exact h1.keeps I.bk) ((h2 x hn).trans hv) h) hd
theorem zcO {x : Str} {v : V} {u : Value} {pos : Pos} (hg : Gl X x) (hm : X.mg x = some u) (r : RelV v u) (hd : (x == ("__debug__" : Str)) = false := by decide) : PE X (.Name x pos) (tC v) :=
 λ_ _ _ H _ I h=>jbw I hg hm ⟨v,H,I,r,h⟩ hd
variable {a b:Expr} {ta tb:TE} {pos:Pos}
variable {tA tB':TT} {rest:List Expr}
def zes (t u:TT):TT:=λσ H Q=>t σ H λc H1=>if c=true then u σ H1 Q else Q false H1
def tOr (t u:TT):TT:=λσ H Q=>t σ H λc H1=>if c=true then Q true H1 else u σ H1 Q
def qes (t:TT):TT:=λσ H Q=>t σ H λc H1=>Q (!c) H1
theorem qcO (ha:PT X a tA):PW X (.BoolOp .And [a] pos) tA:=by
 intro wh pins s σ H Q I h;refine isTrue_and (thn (ha pins s σ H Q I h) λc s1 e=>?_);cases c with
 | true=>exact isTrue_and_nil e
 | false=>exact e
theorem qdp (ha:PT X a tA):PW X (.BoolOp .Or [a] pos) tA:=by
 intro wh pins s σ H Q I h;refine isTrue_or (thn (ha pins s σ H Q I h) λc s1 e=>?_);cases c with
 | false=>exact isTrue_or_nil e
 | true=>exact e
theorem jcv (ha:PT X a tA) (hb:PW X (.BoolOp .And (b::rest) pos) tB'):PW X (.BoolOp .And (a::b::rest) pos) (zes tA tB'):=by
 intro wh pins s σ H Q I h;refine isTrue_and (thn (ha pins s σ H _ I h) λc s1 ⟨H1,I1,q1⟩=>?_);cases c with
 | true=>exact hb wh pins s1 σ H1 Q I1 q1
 | false=>exact ⟨H1,I1,q1⟩
theorem ydp (ha:PT X a tA) (hb:PW X (.BoolOp .Or (b::rest) pos) tB'):PW X (.BoolOp .Or (a::b::rest) pos) (tOr tA tB'):=by
 intro wh pins s σ H Q I h;refine isTrue_or (thn (ha pins s σ H _ I h) λc s1 ⟨H1,I1,q1⟩=>?_);cases c with
 | true=>exact ⟨H1,I1,q1⟩
 | false=>exact hb wh pins s1 σ H1 Q I1 q1
theorem jdp (ha:PT X a tA):PT X (.UnaryOp .Not a pos) (qes tA):=by
 intro pins s σ H Q I h;exact isTrue_not (ha pins s σ H (λc H1=>Q (!c) H1) I h)
def zd3 (ta tb:TE):TE:=λσ H Q=>ta σ H λx H1=>∃ c,x=.bl c/\if c=true then tb σ H1 Q else Q (.bl false) H1
def jes (ta tb:TE):TE:=λσ H Q=>ta σ H λx H1=>∃ c,x=.bl c/\if c=true then Q (.bl true) H1 else tb σ H1 Q
theorem zdq {op} {t:TE} (h:PE X a t):PE X (.BoolOp op [a] pos) t:=λpins s σ H Q I hw=>BoolOp_one (h pins s σ H Q I hw)
theorem zcw (ha:PE X a ta) (hb:PE X (.BoolOp .And (b::rest) pos) tb):PE X (.BoolOp .And (a::b::rest) pos) (zd3 ta tb):=by
 intro pins s σ H Q I h;refine BoolOp_and (thn (ha pins s σ H _ I h) λv s1 ⟨x,H1,I1,r1,q1⟩=>?_);obtain ⟨c,rfl,q1⟩:=q1;cases r1;refine wpAny_truthy_bool ?_;cases c with
 | true=>exact hb pins s1 σ H1 Q I1 q1
 | false=>exact ⟨.bl false,H1,I1,rfl,q1⟩
theorem qdq (ha:PE X a ta) (hb:PE X (.BoolOp .Or (b::rest) pos) tb):PE X (.BoolOp .Or (a::b::rest) pos) (jes ta tb):=by
 intro pins s σ H Q I h;refine BoolOp_or (thn (ha pins s σ H _ I h) λv s1 ⟨x,H1,I1,r1,q1⟩=>?_);obtain ⟨c,rfl,q1⟩:=q1;cases r1;refine wpAny_truthy_bool ?_;cases c with
 | false=>exact hb pins s1 σ H1 Q I1 q1
 | true=>exact ⟨.bl true,H1,I1,rfl,q1⟩
def tIf (t:TT) (ta tb:TE):TE:=λσ H Q=>t σ H λc H1=>if c=true then ta σ H1 Q else tb σ H1 Q
theorem za6 {c:Expr} (hc:PT X c tA) (ha:PE X a ta) (hb:PE X b tb):PE X (.IfExp c a b pos) (tIf tA ta tb):=by
 intro pins s σ H Q I h;refine wpAny_IfExp (thn (hc pins s σ H _ I h) λd s1 ⟨H1,I1,q1⟩=>?_);cases d with
 | true=>exact ha pins s1 σ H1 Q I1 q1
 | false=>exact hb pins s1 σ H1 Q I1 q1
end
def SqL (K:Frag) (H:Hp) (a:Addr) (xs:List V):Prop :=
 Rd H a (.lst xs) \/
  ∃ (o:Obj) (its:Array Value) (n:Nat),K.lookup a=some o/\o.cls=.type "list"/\o.dict=none/\o.data=.seq its n/\its.size<=sizeLine/\Vals xs its.toList
def SqT (K:Frag) (H:Hp) (a:Addr) (xs:List V):Prop :=
 Rd H a (.tup xs) \/
  ∃ (o:Obj) (its:Array Value) (n:Nat),K.lookup a=some o/\o.cls=.type "tuple"/\o.data=.seq its n/\its.size<=sizeLine/\Vals xs its.toList
noncomputable def zet:Value->Option V
 | .none=>some .non
 | .bool b=>some (.bl b)
 | .int i _=>some (.int i)
 | .str x _=>some (.str x)
 | .bytes b _=>some (.byt b)
 | .float b _=>some (.flt b)
 | .ref a=>some (.ref a)
 | .type n=>some (.ty n)
 | _=>none
theorem RelV.abs {x:V} {u:Value} (r:RelV x u):zet u=some x:=by
 cases x with
 | non=>cases r;rfl
 | bl _=>cases r;rfl
 | int _=>obtain ⟨t,rfl⟩:=r;rfl
 | str _=>obtain ⟨t,rfl⟩:=r;rfl
 | byt _=>obtain ⟨t,rfl⟩:=r;rfl
 | flt _=>obtain ⟨t,rfl⟩:=r;rfl
 | ref _=>cases r;rfl
 | ty _=>cases r;rfl
theorem RelV.inj {x y:V} {u:Value} (r:RelV x u) (q:RelV y u):x=y:=wA (r.abs.symm.trans q.abs)
theorem Vals.inj:∀ {xs ys:List V} {us:List Value},Vals xs us->Vals ys us->xs=ys
 | _,_,_,.nil,.nil=>rfl
 | _,_,_,.cons r t,.cons r' t'=>by rw [r.inj r',Vals.inj t t']
section
variable {X:Cx} {pins:List (Addr×Obj)} {σ:St} {H:Hp} {s:Shared} {a:Addr} {xs ys:List V}
theorem SqL.of {K:Frag} (h:H a=some (.lst xs)):SqL K H a xs:=.inl (.inl h)
theorem SqT.of {K:Frag} (h:H a=some (.tup xs)):SqT K H a xs:=.inl (.inl h)
theorem Inv.list (I:Inv X pins σ H s) (h:SqL X.K H a xs):∃ its:List Value,Vals xs its/\PlainL s.heap a its.toArray/\xs.length<=sizeLine:=by
 rcases h with h | ⟨o,its,n,hk,hc,hd,hs,hz,r⟩
 ·obtain ⟨z,its,n,r,e⟩:=h.ok I.hok;exact ⟨its,r,⟨_,n,e,rfl,rfl,rfl⟩,z⟩
 ·refine ⟨its.toList,r,⟨o,n,I.kIn a o hk,hc,hd,by simpa using hs⟩,?_⟩;have e:=r.length;simp only [Array.length_toList] at e;omega
theorem Inv.tuple (I:Inv X pins σ H s) (h:SqT X.K H a xs):∃ its:List Value,Vals xs its/\IsTup s.heap a its.toArray/\xs.length<=sizeLine:=by
 rcases h with h | ⟨o,its,n,hk,hc,hs,hz,r⟩
 ·obtain ⟨z,its,r,p⟩:=h.ok I.hok;exact ⟨its,r,p.tup,z⟩
 ·refine ⟨its.toList,r,⟨o,I.kIn a o hk,hc,n,by simpa using hs⟩,?_⟩;have e:=r.length;simp only [Array.length_toList] at e;omega
theorem Inv.list_inj (I:Inv X pins σ H s) (h:SqL X.K H a xs) (h':SqL X.K H a ys):xs=ys:=by
 obtain ⟨its,r,⟨o,n,e,_,_,d⟩,_⟩:=I.list h;obtain ⟨its',r',⟨o',n',e',_,_,d'⟩,_⟩:=I.list h';rw [e] at e';cases e'
 rw [d] at d';injection d' with d1 _
 have:its=its':=by simpa using congrArg Array.toList d1
 subst this;exact r.inj r'
theorem Inv.tuple_inj (I:Inv X pins σ H s) (h:SqT X.K H a xs) (h':SqT X.K H a ys):xs=ys:=by
 obtain ⟨its,r,⟨o,e,_,n,d⟩,_⟩:=I.tuple h;obtain ⟨its',r',⟨o',e',_,n',d'⟩,_⟩:=I.tuple h';rw [e] at e';cases e'
 rw [d] at d';injection d' with d1 _
 have:its=its':=by simpa using congrArg Array.toList d1
 subst this;exact r.inj r'
end
noncomputable abbrev Cx.wish (X:Cx) (E:Value->Shared->Prop):Cx:={ X with xe:=E }
noncomputable abbrev Cx.nox (X:Cx):Cx:=X.wish λ_ _=>False
theorem Cx.Ok.wish {X:Cx} (ok:X.Ok) (E:Value->Shared->Prop):(X.wish E).Ok :=
 ⟨ok.mod,ok.kind,ok.glob,ok.blt,ok.above,ok.inj,ok.has,ok.cab,ok.hd,ok.frames,ok.stk,ok.exf,ok.bs,ok.bsz,ok.noex,ok.exfs,ok.funs,ok.frf⟩
theorem Cx.Ok.unwish {X:Cx} {E:Value->Shared->Prop} (ok:(X.wish E).Ok):X.Ok :=
 ⟨ok.mod,ok.kind,ok.glob,ok.blt,ok.above,ok.inj,ok.has,ok.cab,ok.hd,ok.frames,ok.stk,ok.exf,ok.bs,ok.bsz,ok.noex,ok.exfs,ok.funs,ok.frf⟩
section
variable {X:Cx} {pins:List (Addr×Obj)} {σ:St} {H:Hp} {s:Shared} {E:Value->Shared->Prop}
theorem Inv.wish (I:Inv X pins σ H s) (E:Value->Shared->Prop):Inv (X.wish E) pins σ H s:=⟨I.ok.wish E,I.os,I.bare,I.base,I.loc,I.cell,I.free,I.freeC,I.pin,I.hok,I.len⟩
theorem Inv.unwish (I:Inv (X.wish E) pins σ H s):Inv X pins σ H s:=⟨I.ok.unwish,I.os,I.bare,I.base,I.loc,I.cell,I.free,I.freeC,I.pin,I.hok,I.len⟩
theorem SP.unwish {D:Ends} {f:Flow} {s':Shared} (h:SP (X.wish E) pins D f s'):SP X pins D f s':=by
 cases f with
 | next=>obtain ⟨σ',H',I,q⟩:=h;exact ⟨σ',H',I.unwish,q⟩
 | brk=>obtain ⟨σ',H',I,q⟩:=h;exact ⟨σ',H',I.unwish,q⟩
 | cont=>obtain ⟨σ',H',I,q⟩:=h;exact ⟨σ',H',I.unwish,q⟩
 | ret u=>obtain ⟨v,σ',H',I,r,q⟩:=h;exact ⟨v,σ',H',I.unwish,r,q⟩
theorem PSs.nox {st:List Stmt} {t:TS} (h:PSs X.nox st t):PSs X st t:=λpins s σ H D I hw =>
 wpAny_mono (h pins s σ H D (I.wish _) hw) (λ_ _ q=>q.unwish) λ_ _ z=>False.elim z
end
section
variable {X:Cx} {st:Stmt} {rest:List Stmt} {t u:TS} {e:Expr} {te:TE} {pos:Pos}
def tNext:TS:=λD σ H=>D.nx σ H
def qet (t u:TS):TS:=λD σ H=>t { D with nx:=u D } σ H
theorem pss_nil:PSs X [] tNext:=λ_ _ σ H _ I h=>wpAny_execs_nil ⟨σ,H,I,h⟩
theorem j0 (h1:PS X st t) (h2:PSs X rest u):PSs X (st::rest) (qet t u):=by
 intro pins s σ H D I h;refine wpAny_execs_cons (thn (h1 pins s σ H { D with nx:=u D } I h) λf s1 q=>?_);cases f with
 | next =>
  obtain ⟨σ',H',I',q⟩:=q;exact h2 pins s1 σ' H' D I' q
 | ret v=>exact q
 | brk=>exact q
 | cont=>exact q
theorem ycO (h1:PS X st t):PSs X [st] t:=by
 intro pins s σ H D I h;refine wpAny_execs_cons (thn (h1 pins s σ H D I h) λf s1 q=>?_);cases f with
 | next=>exact wpAny_execs_nil q
 | ret v=>exact q
 | brk=>exact q
 | cont=>exact q
def tBreak:TS:=λD σ H=>D.bk σ H
def tCont:TS:=λD σ H=>D.ct σ H
theorem ps_pass:PS X (.Pass pos) tNext:=λ_ _ σ H _ I h=>wpAny_Pass ⟨σ,H,I,h⟩
theorem ps_break:PS X (.Break pos) tBreak:=λ_ _ σ H _ I h=>wpAny_Break ⟨σ,H,I,h⟩
theorem ps_continue:PS X (.Continue pos) tCont:=λ_ _ σ H _ I h=>wpAny_Continue ⟨σ,H,I,h⟩
theorem Inv.quiet {pins:List (Addr×Obj)} {σ:St} {H:Hp} {s:Shared} (I:Inv X pins σ H s):interactive X.env=false:=by simp [interactive,I.ok.kind]
def qd3 (te:TE):TS:=λD σ H=>te σ H λ_ H1=>D.nx σ H1
theorem j9 (he : PE X e te) (hs : swapsWith e none pos.line X.env = pure false := by rfl) : PS X (.Expr e pos) (qd3 te) := by
 intro pins s σ H D I h;exact wpAny_Expr_any (thn (he pins s σ H _ I h) λv s1 ⟨x,H1,I1,r1,q1⟩=>⟨σ,H1,I1,q1⟩) I.quiet hs
def yet (te:TE):TS:=λD σ H=>te σ H D.rt
theorem qcw (he:PE X e te):PS X (.Return (some e) pos) (yet te):=by
 intro pins s σ H D I h;exact wpAny_Return_some (thn (he pins s σ H _ I h) λv s1 ⟨x,H1,I1,r1,q1⟩=>⟨x,σ,H1,I1,r1,q1⟩)
def tRetN:TS:=λD _ H=>D.rt .non H
theorem ps_retN:PS X (.Return none pos) tRetN:=λ_ _ σ H _ I h=>wpAny_Return_none ⟨.non,σ,H,I,rfl,h⟩
def jet (c:TT) (t u:TS):TS:=λD σ H=>c σ H λb H1=>if b=true then t D σ H1 else u D σ H1
theorem ydq {c:Expr} {a b:List Stmt} {tc:TT} (hc:PT X c tc) (ha:PSs X a t) (hb:PSs X b u):PS X (.If c a b pos) (jet tc t u):=by
 intro pins s σ H D I h;refine wpAny_If (thn (hc pins s σ H _ I h) λd s1 ⟨H1,I1,q1⟩=>?_);cases d with
 | true=>exact ha pins s1 σ H1 D I1 q1
 | false=>exact hb pins s1 σ H1 D I1 q1
end
abbrev TG:=V->St->Hp->(St->Hp->Prop)->Prop
abbrev TGs:=List V->St->Hp->(St->Hp->Prop)->Prop
def PG (X:Cx) (target:Expr) (t:TG):Prop :=
 ∀ (pins:List (Addr×Obj)) (s:Shared) (σ:St) (H:Hp) (v:V) (u:Value) (Q:St->Hp->Prop),Inv X pins σ H s->RelV v u->t v σ H Q ->
  wpAny (model X.prog X.w) X.A (assign target X.env u) (λ_ s'=>∃ σ' H',Inv X pins σ' H' s'/\Q σ' H') X.xe s
def PGs (X:Cx) (ts:List Expr) (t:TGs):Prop :=
 ∀ (pins:List (Addr×Obj)) (s:Shared) (σ:St) (H:Hp) (vs:List V) (us:List Value) (Q:St->Hp->Prop),Inv X pins σ H s->Vals vs us->t vs σ H Q ->
  wpAny (model X.prog X.w) X.A (assignInOrder ((assignEach ts X.env).map (·.2)) us) (λ_ s'=>∃ σ' H',Inv X pins σ' H' s'/\Q σ' H') X.xe s
abbrev yd3:=V->V->V->Hp->(Hp->Prop)->Prop
def jd3 (X:Cx) (t:yd3):Prop :=
 ∀ (pins:List (Addr×Obj)) (s:Shared) (σ:St) (H:Hp) (o i v:V) (ov iv u:Value) (Q:Hp->Prop),Inv X pins σ H s->RelV o ov->RelV i iv->RelV v u->t o i v H Q ->
  wpAny (model X.prog X.w) X.A (setItem ov iv u) (λ_ s'=>∃ H',Inv X pins σ H' s'/\Q H') X.xe s
section
variable {X:Cx} {pos:Pos}
def jdq (i:Nat):TG:=λv σ H Q=>Q (σ.set i (some v)) H
theorem zbx {i : Nat} {x : Str} (hN : X.N.Nodup) (hi : X.N[i]? = some x) (hx : Loc X.env.scope x) (hf : X.fn x = true \/ X.env.scope.names.lookup x = some .local := by first | exact .inl rfl | exact .inr rfl | assumption) : PG X (.Name x pos) (jdq i) := by
 intro pins s σ H v u Q I r h;exact wpAny_assign_Name (ja5 I hN hi hx r (λs' I'=>⟨_,H,I',h⟩) hf)
def gNil:TGs:=λvs σ H Q=>vs=[]/\Q σ H
def zd4 (t:TG) (u:TGs):TGs:=λvs σ H Q=>∃ v r,vs=v::r/\t v σ H λσ' H'=>u r σ' H' Q
theorem jcO:PGs X [] gNil:=by
 intro pins s σ H vs us Q I r h;obtain ⟨e,h⟩:=h;subst e;cases r;exact assignInOrder_nil ⟨σ,H,I,h⟩
theorem zca {e:Expr} {es:List Expr} {t:TG} {u:TGs} (h1:PG X e t) (h2:PGs X es u)
  (hs:(assignEach (e::es) X.env).map (·.2)=assign e X.env::(assignEach es X.env).map (·.2):=by rfl):PGs X (e::es) (zd4 t u):=by
 intro pins s σ H vs us Q I r h;obtain ⟨v,vr,e1,h⟩:=h;subst e1;cases r with
 | cons r rr =>
  rw [hs];refine assignInOrder_cons (thn (h1 pins s σ H _ _ _ I r h) λ_ s1 ⟨σ1,H1,I1,q1⟩=>?_);exact h2 pins s1 σ1 H1 _ _ Q I1 rr q1
def zeu (K:Frag) (n:Nat) (t:TGs):TG:=λv σ H Q=>∃ a xs,v=.ref a/\SqT K H a xs/\xs.length=n/\t xs σ H Q
theorem zdr {es:List Expr} {k:Nat} {t:TGs} {n:Nat} (hc:X.calm=true) (h:PGs X es t)
  (hn:(assignEach es X.env).length=n:=by rfl) (hst:(assignEach es X.env).findIdx? (·.1)=none:=by rfl):PG X (.Tuple es k pos) (zeu X.K n t):=by
 intro pins s σ H v u Q I r hw;obtain ⟨a,xs,e1,hq,hl,hw⟩:=hw;subst e1;cases r;obtain ⟨its,rv,ht,hz⟩:=I.tuple hq;refine assign_Tuple_tuple (I.ok.hd hc) ht (by simp [hn,<-hl,rv.length]) hst λh' hx=>?_
 have I1:Inv X pins σ H { s with heap:=h' }:=I.kept (t':=s.toks) λb o e=>hx b o (wM (wy e)) e
 exact h pins _ σ H xs _ Q I1 (by simpa using rv) hw
def qeu (to ti:TE) (t:yd3):TG:=λv σ H Q=>to σ H λo H1=>ti σ H1 λi H2=>t o i v H2 λH3=>Q σ H3
theorem ycw {o i:Expr} {to ti:TE} {t:yd3} (ho:PE X o to) (hi:PE X i ti) (hs:jd3 X t)
  (ha : ∀ v, assign (.Subscript o i pos) X.env v = (do
   let ov <-holding [v] (eval o X.env)
   let iv <-holding [v,ov] (eval i X.env)
   standAt pos
   holding [v,ov,iv] (setItem ov iv v)
   release [v,ov,iv] []):=by intro _;rfl):PG X (.Subscript o i pos) (qeu to ti t):=by
 intro pins s σ H v u Q I r h;rw [ha];refine we (wpAny_holding (thn (ho pins s σ H _ I h) λov s1 ⟨x,H1,I1,r1,q1⟩=>?_));refine we (wpAny_holding (thn (hi pins s1 σ H1 _ I1 q1) λiv s2 ⟨y,H2,I2,r2,q2⟩=>?_));refine we (wpAny_standAt (we (wpAny_holding (thn (hs pins s2 σ H2 x y v ov iv u _ I2 r1 r2 r q2) λ_ s3 ⟨H3,I3,q3⟩=>?_))));exact wpAny_release ⟨σ,H3,I3,q3⟩
def qdr (te:TE) (g:TG):TS:=λD σ H=>te σ H λx H1=>g x σ H1 D.nx
theorem qbx {tg e : Expr} {te : TE} {g : TG} (he : PE X e te) (hg : PG X tg g) (hs : swapsWithSole [tg] e pos.line X.env = pure false := by rfl) (hw : swappedStores [tg] e X.env = pure none := by rfl)
  (h1:(assignEach [tg] X.env).map (·.2)=[assign tg X.env]:=by rfl):PS X (.Assign [tg] e pos) (qdr te g):=by
 intro pins s σ H D I h;refine wpAny_Assign_stores (thn (he pins s σ H _ I h) λv s1 ⟨x,H1,I1,r1,q1⟩=>?_) hs hw;rw [h1];exact thn (hg pins s1 σ H1 x v _ I1 r1 q1) λ_ s2 q=>q
theorem qal {i : Nat} {x : Str} {e : Expr} {te : TE} {pos' : Pos} (hN : X.N.Nodup) (hi : X.N[i]? = some x) (hx : Loc X.env.scope x) (he : PE X e te) (hs : swapsWith e (some (.Name x pos')) pos.line X.env = pure false := by rfl) (hf : X.fn x = true \/ X.env.scope.names.lookup x = some .local := by first | exact .inl rfl | exact .inr rfl | assumption) :
  PS X (.Assign [.Name x pos'] e pos) (qdr te (jdq i)):=by
 intro pins s σ H D I h;refine wpAny_Assign_Name (thn (he pins s σ H _ I h) λv s1 ⟨y,H1,I1,r1,q1⟩=>?_) hs;exact ja5 I1 hN hi hx r1 (λs2 I2=>⟨_,H1,I2,q1⟩) hf
end
structure It where
 go:Nat->Hp->Prop
 yld:Nat->Hp->V->Hp->Prop
 stop:Nat->Hp->Prop
def FpOk (X:Cx) (pins:List (Addr×Obj)) (H:Hp) (b:Addr):Prop :=
 H b=none/\b≠X.env.locals/\b∉X.fs/\(b∈X.ex\/X.s₀.heap.objs.size<=b)/\(∀ x c,X.env.cells.lookup x=some c->c≠b)/\∀ p∈X.pn++pins,p.1≠b
theorem Inv.fpOk {X:Cx} {pins:List (Addr×Obj)} {σ:St} {H H':Hp} {s:Shared} {b:Addr} (I:Inv X pins σ H s) (hb:s.heap.objs.size<=b) (hn:H' b=none):FpOk X pins H' b:=by
 refine ⟨hn,Nat.ne_of_gt (wL I.lt hb),I.nofs hb,.inr (wQ I.sz hb),λx c e z=>?_,λp hp z=>?_⟩
 ·obtain ⟨v,q⟩:=I.cell x c e;exact absurd (wL q.lt (by rw [z];exact hb)) (Nat.lt_irrefl _)
 ·exact absurd (wL (wy (I.pin p hp).1) (by rw [z];exact hb)) (Nat.lt_irrefl _)
structure Turn (P:Program) (w:World) (K:Frag) (tg:Expr) (J:It) (fp:List Addr) (it:Addr) (tn:Nat->Heap->Prop):Prop where
 mem:it∈fp
 obj:∀ i h,tn i h->∀ b∈fp,∃ o,h.get? b=some o/\∀ v,o.data≠.cell v
 keep:∀ i h h',tn i h->(∀ b∈fp,∀ o,h.get? b=some o->h'.get? b=some o)->tn i h'
 item:∀ (X:Cx),X.prog=P->X.w=w->X.K=K->X.calm=true->∀ (i:Nat) (pins:List (Addr×Obj)) (s:Shared) (σ:St) (H:Hp) (E:Value->Shared->Prop),Inv X pins σ H s->(∀ b∈fp,FpOk X pins H b)->tn i s.heap->J.go i H ->
  wpAny (model P w) X.A (pyNext (.ref it)) (λr s1=>∃ u,r=some u /\
   wpAny (model P w) X.A (letOwnedTupleGo tg (.ref it) u) (λ_ s2=>∃ x H',Inv X pins σ H' s2/\RelV x u/\J.yld i H x H'/\tn (i+1) s2.heap/\∀ b∈fp,H' b=none) E s1) E s
 done:∀ (X:Cx),X.prog=P->X.w=w->X.K=K->X.calm=true->∀ (i:Nat) (pins:List (Addr×Obj)) (s:Shared) (σ:St) (H:Hp) (E:Value->Shared->Prop),Inv X pins σ H s->(∀ b∈fp,FpOk X pins H b)->tn i s.heap->J.stop i H ->
  wpAny (model P w) X.A (pyNext (.ref it)) (λr s1=>r=none/\Inv X pins σ H s1) E s
 self:∀ (A:Around) (i:Nat) (s:Shared) (Q:Value->Shared->Prop) (E:Value->Shared->Prop),tn i s.heap->Q (.ref it) s->wpAny (model P w) A (pyIter (.ref it)) Q E s
abbrev TI:=St->Hp->(It->Hp->Prop)->Prop
def PIE (X:Cx) (pins:List (Addr×Obj)) (σ:St) (tg:Expr) (R:It->Hp->Prop) (itv:Value) (s2:Shared):Prop :=
 ∃ (it:Addr) (fp:List Addr) (tn:Nat->Heap->Prop) (J:It) (H':Hp),itv=.ref it/\Inv X pins σ H' s2/\Turn X.prog X.w X.K tg J fp it tn/\tn 0 s2.heap/\(∀ b∈fp,FpOk X pins H' b)/\R J H'
def PI (X:Cx) (tg iter:Expr) (wi:TI):Prop :=
 ∀ (pins:List (Addr×Obj)) (s:Shared) (σ:St) (H:Hp) (R:It->Hp->Prop),Inv X pins σ H s->wi σ H R ->
  wpAny (model X.prog X.w) X.A (eval iter X.env) (λv s1=>wpAny (model X.prog X.w) X.A (pyIter v) (PIE X pins σ tg R) X.xe s1) X.xe s
theorem qca {M:Model} {A:Around} {E:Value->Shared->Prop} {s:Shared} {tg:Expr} {it:Addr} {u:Value} {o:Obj} {n:String} {vs:Array Value} {Q:Unit->Shared->Prop} (ho:s.heap.get? it=some o) (hc:o.cls=.type n) (hd:o.data=.fields vs)
    (hn:["enumerate","zip","dict_itemiterator","dict_reverseitemiterator","odict_iterator","itertools.zip_longest","itertools.pairwise"].contains n=false) (hQ:Q () s):wpAny M A (letOwnedTupleGo tg (.ref it) u) Q E s:=by
  unfold letOwnedTupleGo
  cases tg <;> first
    | exact wm hQ
    | (cases u <;> first
        | exact wm hQ
        | (refine we (wpAny_load ho ?_)
           rw [hc,hd];show wpAny M A (if (["enumerate","zip","dict_itemiterator","dict_reverseitemiterator","odict_iterator","itertools.zip_longest","itertools.pairwise"].contains n&&vs[0]?==some (rawInt _))=true then _ else _) Q E s;rw [if_neg (by intro h;rw [hn,Bool.false_and] at h;cases h)];exact wm hQ))
noncomputable def Itl (K:Frag) (a:Addr):It :=
 ⟨λi H=>∃ xs x,SqL K H a xs/\xs[i]?=some x,λi H x H'=>H'=H/\∀ xs,SqL K H a xs->xs[i]?=some x,λi H=>∃ xs,SqL K H a xs/\xs.length<=i⟩
noncomputable def Itt (K:Frag) (a:Addr):It :=
 ⟨λi H=>∃ xs x,SqT K H a xs/\xs[i]?=some x,λi H x H'=>H'=H/\∀ xs,SqT K H a xs->xs[i]?=some x,λi H=>∃ xs,SqT K H a xs/\xs.length<=i⟩
noncomputable def Itr (lo:Int) (n:Nat):It:=⟨λi _=>i<n,λi H x H'=>H'=H/\x=.int (lo+i),λi _=>n<=i⟩
theorem ybx {P:Program} {w:World} {K:Frag} {tg:Expr} (a it:Addr):Turn P w K tg (Itl K a) [it] it (λi h=>h.IsListIter it a i) where
 mem:=by simp
 obj:=λi h st b hb=>by
  have e:b=it:=by simpa using hb
  subst e;obtain ⟨o,e,c,d⟩:=st;exact ⟨o,e,λv z=>by rw [d] at z;cases z⟩
 keep:=λi h h' st k=>st.at λo e=>k it (by simp) o e
 item:=by
  intro X hP hw hK hc i pins s σ H E I hf st hg;subst hP hw hK;obtain ⟨xs,x,hq,hx⟩:=hg;obtain ⟨its,rv,p,hz⟩:=I.list hq;obtain ⟨u,hu,ru⟩:=rv.get hx;obtain ⟨f0,f1,f2,f3,f4,f5⟩:=hf it (by simp);refine wpAny_pyNext_list_item st p.isList (x:=u) (by simpa using hu) λh' st' sb=>?_
  have I1:Inv X pins σ H { s with heap:=h' }:=I.turned (t':=s.toks) (λb o hb e=>(sb.2 b hb).trans e) f0 f1 f3 f4 f5;obtain ⟨o,e,c,d⟩:=id st';exact ⟨u,rfl,qca (s:={ s with heap:=h' }) e c d (by decide) ⟨x,H,I1,ru,⟨rfl,λys hy=>by rw [I.list_inj hy hq];exact hx⟩,st',λb hb=>(hf b hb).1⟩⟩
 done:=by
  intro X hP hw hK hc i pins s σ H E I hf st hg;subst hP hw hK;obtain ⟨xs,hq,hx⟩:=hg;obtain ⟨its,rv,p,hz⟩:=I.list hq;obtain ⟨f0,f1,f2,f3,f4,f5⟩:=hf it (by simp);have hl:=rv.length;exact wpAny_pyNext_list_end (I.ok.hd hc) st p.isList (by simp;omega) λh' eb=>⟨rfl,I.turned (t':=s.toks) (λb o hb e=>eb b o hb e) f0 f1 f3 f4 f5⟩
 self:=λ_ _ _ _ _ st h=>wpAny_pyIter_listiter st h
theorem jbn {P:Program} {w:World} {K:Frag} {tg:Expr} (a it:Addr):Turn P w K tg (Itt K a) [it] it (λi h=>h.IsTupleIter it a i) where
 mem:=by simp
 obj:=λi h st b hb=>by
  have e:b=it:=by simpa using hb
  subst e;obtain ⟨o,e,c,d⟩:=st;exact ⟨o,e,λv z=>by rw [d] at z;cases z⟩
 keep:=λi h h' st k=>st.at λo e=>k it (by simp) o e
 item:=by
  intro X hP hw hK hc i pins s σ H E I hf st hg;subst hP hw hK;obtain ⟨xs,x,hq,hx⟩:=hg;obtain ⟨its,rv,p,hz⟩:=I.tuple hq;obtain ⟨u,hu,ru⟩:=rv.get hx;obtain ⟨f0,f1,f2,f3,f4,f5⟩:=hf it (by simp);refine wpAny_pyNext_tuple_item st (show s.heap.IsTuple a its.toArray from p) (x:=u) (by simpa using hu) λh' st' sb=>?_
  have I1:Inv X pins σ H { s with heap:=h' }:=I.turned (t':=s.toks) (λb o hb e=>(sb.2 b hb).trans e) f0 f1 f3 f4 f5;obtain ⟨o,e,c,d⟩:=id st';exact ⟨u,rfl,qca (s:={ s with heap:=h' }) e c d (by decide) ⟨x,H,I1,ru,⟨rfl,λys hy=>by rw [I.tuple_inj hy hq];exact hx⟩,st',λb hb=>(hf b hb).1⟩⟩
 done:=by
  intro X hP hw hK hc i pins s σ H E I hf st hg;subst hP hw hK;obtain ⟨xs,hq,hx⟩:=hg;obtain ⟨its,rv,p,hz⟩:=I.tuple hq;obtain ⟨f0,f1,f2,f3,f4,f5⟩:=hf it (by simp);have hl:=rv.length;exact wpAny_pyNext_tuple_end (I.ok.hd hc) st (show s.heap.IsTuple a its.toArray from p) (by simp;omega) λh' eb=>⟨rfl,I.turned (t':=s.toks) (λb o hb e=>eb b o hb e) f0 f1 f3 f4 f5⟩
 self:=λ_ _ _ _ _ st h=>wpAny_pyIter_tupleiter st h
theorem zbo {P:Program} {w:World} {K:Frag} {tg:Expr} (it:Addr) (lo:Int) (n:Nat):Turn P w K tg (Itr lo n) [it] it (λi h=>IsRangeIter h it (lo+(i:Nat)*1) ((n:Int)-(i:Nat)) 1) where
 mem:=by simp
 obj:=λi h st b hb=>by
  have e:b=it:=by simpa using hb
  subst e
  exact ⟨_,st,λv z=>by
   have z':Data.fields _=Data.cell v:=z;cases z'⟩
 keep:=λi h h' st k=>k it (by simp) _ st
 item:=by
  intro X hP hw hK hc i pins s σ H E I hf st hg;subst hP hw hK;obtain ⟨f0,f1,f2,f3,f4,f5⟩:=hf it (by simp);have W:=Walks.range (prog:=X.prog) (w:=X.w) (I.ok.hd hc) it lo 1 n;refine W.item i s _ _ hg st λv h' tk hv st' kk=>?_
  obtain ⟨t,rfl⟩:=hv;have I1:Inv X pins σ H { s with heap:=h',toks:=tk }:=I.turned (λb o hb e=>kk b o (by simpa using hb) e) f0 f1 f3 f4 f5;refine ⟨_,rfl,qca (s:={ s with heap:=h',toks:=tk }) (n:="range_iterator") st' rfl rfl (by decide) ⟨.int (lo+i),H,I1,⟨t,?_⟩,⟨rfl,rfl⟩,st',λb hb=>(hf b hb).1⟩⟩;rw [Int.mul_one]
 done:=by
  intro X hP hw hK hc i pins s σ H E I hf st hg;subst hP hw hK;obtain ⟨f0,f1,f2,f3,f4,f5⟩:=hf it (by simp);exact wpAny_pyNext_range_end (I.ok.hd hc) st (by have:n<=i:=hg;omega) λh' eb=>⟨rfl,I.turned (t':=s.toks) (λb o hb e=>eb b o hb e) f0 f1 f3 f4 f5⟩
 self:=λ_ _ _ _ _ st h=>wpAny_pyIter_rangeiter st h
section
variable {X:Cx} {tg:Expr}
theorem qa6 {pins:List (Addr×Obj)} {σ:St} {H:Hp} {s:Shared} {R:It->Hp->Prop} {E:Value->Shared->Prop} {lo hi:Int} {t u v:Tok} {tk:Nat} (I:Inv X pins σ H s) (h1:-(2^62)<=lo) (h2:lo<2^62) (h3:-(2^62)<=hi) (h4:hi<2^62)
  (q:R (Itr lo (hi-lo).toNat) H):wpAny (model X.prog X.w) X.A (pyIter (.ref s.heap.objs.size)) (PIE X pins σ tg R) E { s with heap:=s.heap.push { cls:=.type "range",data:=.fields #[.int lo t,.int hi u,.int 1 v] },toks:=tk }:=by
 refine wpAny_pyIter_range (IsRange.new ..) (small_one h1 h2 h3 h4) ?_;have I1:Inv X pins σ H { s with heap:=s.heap.push { cls:=.type "range",data:=.fields #[.int lo t,.int hi u,.int 1 v] },toks:=tk }:=I.kept λb o e=>wj _ e
 refine ⟨(s.heap.push { cls:=.type "range",data:=.fields #[.int lo t,.int hi u,.int 1 v] }).objs.size,[(s.heap.push { cls:=.type "range",data:=.fields #[.int lo t,.int hi u,.int 1 v] }).objs.size],_,_,H,rfl,
  I1.kept (t':=tk) λb o e=>wj _ e,zbo _ lo (hi-lo).toNat,?_,λb hb=>?_,q⟩
 ·have e1:lo+((0:Nat):Int)*1=lo:=by simp
  have e2:(((hi-lo).toNat:Nat):Int)-((0:Nat):Int)=Builtin.Range.rangeSize lo hi 1:=by rw [rangeSize_one];split<;>omega
  show IsRangeIter _ _ (lo+((0:Nat):Int)*1) ((((hi-lo).toNat:Nat):Int)-((0:Nat):Int)) 1;rw [e1,e2];exact wt _ rfl
 ·have e:b=(s.heap.push { cls:=.type "range",data:=.fields #[.int lo t,.int hi u,.int 1 v] }).objs.size:=by simpa using hb
  subst e;exact I1.fpOk (wB _) (I1.hok.fresh (wB _))
def qd4 (ta:TA):TI:=λσ H R=>ta σ H λvs H1=>∃ j:Int,vs=[.int j]/\-(2^62)<=j/\j<2^62/\R (Itr 0 j.toNat) H1
def yd4 (ta:TA):TI:=λσ H R=>ta σ H λvs H1=>∃ i j:Int,vs=[.int i,.int j]/\(-(2^62)<=i/\i<2^62/\-(2^62)<=j/\j<2^62)/\R (Itr i (j-i).toNat) H1
theorem jbx {a : Expr} {ta : TA} {p pos : Pos} (hg : Gl X "range") (hm : X.mg "range" = none) (ha : PA X [a] ta) (hs : starEach [a] X.env = [(false, eval a X.env)] := by rfl) : PI X tg (.Call (.Name "range" p) [a] [] pos) (qd4 ta) := by
 intro pins s σ H R I h;refine Call_ (yO I hg hm boot_range (PyProof.Rows.callWith_type1 (thn (ha pos pins s σ H _ I h) λus s1 ⟨vs,H1,I1,r1,q1⟩=>?_) hs rfl));obtain ⟨j,e,q1,q2,q⟩:=q1;subst e;cases r1 with
 | cons r rr =>
  cases rr;obtain ⟨t,rfl⟩:=r;exact call_range_1 (qa6 I1 (by omega) (by omega) q1 q2 (by simpa using q))
theorem zby {a b : Expr} {ta : TA} {p pos : Pos} (hg : Gl X "range") (hm : X.mg "range" = none) (ha : PA X [a, b] ta) (hs : starEach [a, b] X.env = [(false, eval a X.env), (false, eval b X.env)] := by rfl) (hs2 : starEach [b] X.env = [(false, eval b X.env)] := by rfl) :
  PI X tg (.Call (.Name "range" p) [a,b] [] pos) (yd4 ta):=by
 intro pins s σ H R I h;refine Call_ (yO I hg hm boot_range (PyProof.Rows.callWith_type1 (thn (ha pos pins s σ H _ I h) λus s1 ⟨vs,H1,I1,r1,q1⟩=>?_) (by rw [hs,hs2]) (by rw [hs2];rfl)));obtain ⟨i,j,e,⟨q1,q2,q3,q4⟩,q⟩:=q1;subst e;cases r1 with
 | cons r rr =>
  cases rr with
  | cons r' rr =>
   cases rr;obtain ⟨t,rfl⟩:=r;obtain ⟨t',rfl⟩:=r';exact call_range_2 (qa6 I1 q1 q2 q3 q4 q)
def yeu (wi:TI) (g:TG) (tb:TS):TS:=λD σ H=>wi σ H λJ H1=>∃ W:Nat->Nat->St->Hp->Prop,(∃ m,W 0 m σ H1)/\∀ i m σ H,W i m σ H ->
 (J.stop i H/\D.nx σ H)\/(J.go i H/\∃ N:St->Hp->Prop,(∀ σ' H',N σ' H'->∃ m',m'<m/\W (i+1) m' σ' H')/\∀ x H',J.yld i H x H'->g x σ H' λσ2 H2=>tb { D with nx:=N,ct:=N,bk:=D.nx } σ2 H2)
noncomputable def zaG (fp:List Addr) (h:Heap):List (Addr×Obj):=fp.filterMap λb=>(h.get? b).map λo=>(b,o)
theorem zI {fp:List Addr} {h:Heap} {b:Addr} {o:Obj} (hb:b∈fp) (e:h.get? b=some o):(b,o)∈zaG fp h:=List.mem_filterMap.mpr ⟨b,hb,by rw [e];rfl⟩
theorem qby {fp:List Addr} {h:Heap} {p:Addr×Obj} (hp:p∈zaG fp h):p.1∈fp/\h.get? p.1=some p.2:=by
 obtain ⟨b,hb,e⟩:=List.mem_filterMap.mp hp;cases q:h.get? b with
 | none=>rw [q] at e;cases e
 | some o =>
  rw [q] at e;have e':(b,o)=p:=wA e;subst e';exact ⟨hb,q⟩
theorem Inv.pinned {pins:List (Addr×Obj)} {σ:St} {H:Hp} {s:Shared} {fp:List Addr} (I:Inv X pins σ H s) (hf:∀ b∈fp,FpOk X pins H b) (ho:∀ b∈fp,∃ o,s.heap.get? b=some o/\∀ v,o.data≠.cell v):Inv X (pins++zaG fp s.heap) σ H s :=
 I.pins_of λp hp=>(List.mem_append.mp hp).elim (λz=>I.pin p (wK _ z)) λz=>by
  obtain ⟨hb,e⟩:=qby z;obtain ⟨f0,f1,f2,_⟩:=hf p.1 hb;obtain ⟨o,e',d⟩:=ho p.1 hb;rw [e] at e';cases e'
  exact ⟨e,f0,f1,f2,d⟩
theorem Inv.unpinned {pins pl:List (Addr×Obj)} {σ:St} {H:Hp} {s:Shared} (I:Inv X (pins++pl) σ H s):Inv X pins σ H s:=I.pins_of λp hp=>I.pin p (wK _ (List.mem_append_left _ hp))
theorem ydr {iter:Expr} {body:List Stmt} {wi:TI} {g:TG} {tb:TS} {pos:Pos} (hp:PassesOwn (model X.prog X.w) X.A X.env X.xe) (hc:X.calm=true) (hi:PI X tg iter wi) (hg:PG X tg g) (hb:PSs X body tb)
  (hs:∀ x,foldedSetIterable iter X.env x=pure x:=by intro _;rfl):PS X (.For tg iter body [] pos) (yeu wi g tb):=by
 intro pins s σ H D I h;refine wpAny_For (thn (hi pins s σ H _ I h) λv s1 h1=>thn h1 λitv s2 h2=>?_) hs;obtain ⟨it,fp,tn,J,H2,e,I2,T,st2,f2,W,⟨m0,w0⟩,turn⟩:=h2;subst e;have stat:∀ {H':Hp},(∀ b∈fp,H' b=none)->∀ b∈fp,FpOk X pins H' b:=λhn b hb=>⟨hn b hb,(f2 b hb).2⟩
 refine codeAny_forLoop_any (λn s'=>∃ i σ' H',Inv X pins σ' H' s'/\tn i s'.heap/\(∀ b∈fp,H' b=none)/\W i n σ' H') ?_ m0 ⟨0,σ,H2,I2,st2,λb hb=>(f2 b hb).1,w0⟩;rintro n s3 ⟨i,σ3,H3,I3,st3,fr3,w3⟩;rcases turn i n σ3 H3 w3 with ⟨stop,qn⟩ | ⟨go,N,hN,step⟩
 ·refine wpAny_passesOwn hp (thn (T.done X rfl rfl rfl hc i pins s3 σ3 H3 X.xe I3 (stat fr3) st3 stop) λr s4 ⟨hr,I4⟩=>?_);subst hr;exact wpAny_execs_nil ⟨σ3,H3,I4,qn⟩
 ·refine wpAny_passesOwn hp (thn (T.item X rfl rfl rfl hc i pins s3 σ3 H3 X.xe I3 (stat fr3) st3 go) λr s4 ⟨u,hr,h4⟩=>?_);subst hr;refine wpAny_passesOwn hp (thn h4 λ_ s5 ⟨x,H5,I5,r5,y5,st5,fr5⟩=>?_);have I5':=I5.pinned (stat fr5) (T.obj _ _ st5);refine wpAny_passesOwn hp (thn (hg _ s5 σ3 H5 x u _ I5' r5 (step x H5 y5)) λ_ s6 ⟨σ6,H6,I6,q6⟩=>?_);refine wpAny_passesOwn hp (thn (hb _ s6 σ6 H6 _ I6 q6) λf s7 q7=>?_)
  have again:∀ {σ7:St} {H7:Hp},Inv X (pins++zaG fp s5.heap) σ7 H7 s7->N σ7 H7->∃ m,m<n/\∃ i σ' H',Inv X pins σ' H' s7/\tn i s7.heap/\(∀ b∈fp,H' b=none)/\W i m σ' H':=λ{σ7 H7} I7 n7=>by
   obtain ⟨m',hm,w7⟩:=hN σ7 H7 n7;refine ⟨m',hm,i+1,σ7,H7,I7.unpinned,T.keep _ _ _ st5 λb hb o e=>(I7.pin (b,o) (wK _ (wK _ (zI hb e)))).1,λb hb=>?_,w7⟩;obtain ⟨o,e,d⟩:=T.obj _ _ st5 b hb;exact (I7.pin (b,o) (wK _ (wK _ (zI hb e)))).2.1
  cases f with
  | next=>obtain ⟨σ7,H7,I7,n7⟩:=q7;exact again I7 n7
  | cont=>obtain ⟨σ7,H7,I7,n7⟩:=q7;exact again I7 n7
  | brk=>obtain ⟨σ7,H7,I7,q7⟩:=q7;exact ⟨σ7,H7,I7.unpinned,q7⟩
  | ret v=>obtain ⟨x7,σ7,H7,I7,r7,q7⟩:=q7;exact ⟨x7,σ7,H7,I7.unpinned,r7,q7⟩
end
abbrev R2:=V->V->Hp->VK->Prop
def OpR (X:Cx) (f:Value->Value->Sem Value) (r:R2):Prop :=
 ∀ (pins:List (Addr×Obj)) (s:Shared) (σ:St) (H:Hp) (x y:V) (v u:Value) (Q:VK),Inv X pins σ H s->RelV x v->RelV y u->r x y H Q ->
  wpAny (model X.prog X.w) X.A (f v u) (EP X pins σ Q) X.xe s
def UnR (X:Cx) (f:Value->Sem Value) (r:V->Hp->VK->Prop):Prop :=
 ∀ (pins:List (Addr×Obj)) (s:Shared) (σ:St) (H:Hp) (x:V) (v:Value) (Q:VK),Inv X pins σ H s->RelV x v->r x H Q ->
  wpAny (model X.prog X.w) X.A (f v) (EP X pins σ Q) X.xe s
def qw (X:Cx) (f:Value) (r:List V->Hp->VK->Prop):Prop :=
 ∀ (pins:List (Addr×Obj)) (s:Shared) (σ:St) (H:Hp) (xs:List V) (us:List Value) (Q:VK),Inv X pins σ H s->Vals xs us->r xs H Q ->
  wpAny (model X.prog X.w) X.A (call f us) (EP X pins σ Q) X.xe s
def jeu (X:Cx) (r:V->Hp->(Bool->Hp->Prop)->Prop):Prop :=
 ∀ (pins:List (Addr×Obj)) (s:Shared) (σ:St) (H:Hp) (x:V) (v:Value) (Q:Bool->Hp->Prop),Inv X pins σ H s->RelV x v->r x H Q ->
  wpAny (model X.prog X.w) X.A (truthy v) (TP X pins σ Q) X.xe s
def tOp (r:R2) (ta tb:TE):TE:=λσ H Q=>ta σ H λx H1=>tb σ H1 λy H2=>r x y H2 Q
def tUn (r:V->Hp->VK->Prop) (ta:TE):TE:=λσ H Q=>ta σ H λx H1=>r x H1 Q
def rI (C:Int->Int->Prop) (g:Int->Int->V):R2:=λx y H Q=>∃ i j,x=.int i/\y=.int j/\C i j/\Q (g i j) H
def rI0 (g:Int->Int->V):R2:=λx y H Q=>∃ i j,x=.int i/\y=.int j/\Q (g i j) H
def rU (g:Int->V):V->Hp->VK->Prop:=λx H Q=>∃ i,x=.int i/\Q (g i) H
section
variable {X:Cx} {a b c:Expr} {ta tb tc:TE} {pos:Pos}
theorem jd4 (ha:PE X a ta) (hb:PE X b tb) {pins:List (Addr×Obj)} {s:Shared} {σ:St} {H:Hp} {R:V->V->Hp->Prop} (I:Inv X pins σ H s)
  (h:ta σ H λx H1=>tb σ H1 λy H2=>R x y H2) {Q:Value->Shared->Prop} {f:Value->Value->Sem Value}
  (hf:∀ v u s2 x y H2,Inv X pins σ H2 s2->RelV x v->RelV y u->R x y H2->wpAny (model X.prog X.w) X.A (f v u) Q X.xe s2) :
  wpAny (model X.prog X.w) X.A (eval a X.env) (λv s₁=>wpAny (model X.prog X.w) X.A (eval b X.env) (λu s₂=>wpAny (model X.prog X.w) X.A (f v u) Q X.xe s₂) X.xe s₁) X.xe s:=by
 refine thn (ha pins s σ H _ I h) λv s1 ⟨x,H1,I1,r1,q1⟩=>?_
 refine thn (hb pins s1 σ H1 _ I1 q1) λu s2 ⟨y,H2,I2,r2,q2⟩=>?_
 exact hf v u s2 x y H2 I2 r1 r2 q2
theorem jdr {op:Operator} {r:R2} (ho:OpR X (binaryOp op) r) (ha:PE X a ta) (hb:PE X b tb):PE X (.BinOp a op b pos) (tOp r ta tb):=by
 intro pins s σ H Q I h;exact wpAny_BinOp (jd4 ha hb I h λv u s2 x y H2 I2 rx ry q=>ho pins s2 σ H2 x y v u Q I2 rx ry q)
theorem zd5 {op:UnaryOp} {r:V->Hp->VK->Prop} (ho:UnR X (unaryOp op) r) (ha:PE X a ta):PE X (.UnaryOp op a pos) (tUn r ta):=by
 intro pins s σ H Q I h;exact UnaryOp_ (thn (ha pins s σ H _ I h) λv s1 ⟨x,H1,I1,r1,q1⟩=>ho pins s1 σ H1 x v Q I1 r1 q1)
theorem opI {f:Value->Value->Sem Value} {C:Int->Int->Prop} {g:Int->Int->Int}
  (rule:∀ (i j:Int) (t u:Tok) (s:Shared) (Q:Value->Shared->Prop) (E:Value->Shared->Prop),C i j->Q (.int (g i j) s.toks) { s with toks:=s.toks+1 }->wpAny (model X.prog X.w) X.A (f (.int i t) (.int j u)) Q E s) :
  OpR X f (rI C λi j=>.int (g i j)):=by
 intro pins s σ H x y v u Q I rx ry h;obtain ⟨i,j,rfl,rfl,hc,q⟩:=h;obtain ⟨t,rfl⟩:=rx;obtain ⟨t',rfl⟩:=ry;exact rule i j t t' s _ _ hc ⟨.int (g i j),H,I.tok _,⟨_,rfl⟩,q⟩
theorem zem {f:Value->Value->Sem Value} {g:Int->Int->Int}
  (rule:∀ (i j:Int) (t u:Tok) (s:Shared) (Q:Value->Shared->Prop) (E:Value->Shared->Prop),Q (.int (g i j) s.toks) { s with toks:=s.toks+1 }->wpAny (model X.prog X.w) X.A (f (.int i t) (.int j u)) Q E s) :
  OpR X f (rI0 λi j=>.int (g i j)):=by
 intro pins s σ H x y v u Q I rx ry h;obtain ⟨i,j,rfl,rfl,q⟩:=h;obtain ⟨t,rfl⟩:=rx;obtain ⟨t',rfl⟩:=ry;exact rule i j t t' s _ _ ⟨.int (g i j),H,I.tok _,⟨_,rfl⟩,q⟩
theorem jdZ {f:Value->Value->Sem Value} {g:Int->Int->Bool}
  (rule:∀ (i j:Int) (t u:Tok) (s:Shared) (Q:Value->Shared->Prop) (E:Value->Shared->Prop),Q (.bool (g i j)) s->wpAny (model X.prog X.w) X.A (f (.int i t) (.int j u)) Q E s) :
  OpR X f (rI0 λi j=>.bl (g i j)):=by
 intro pins s σ H x y v u Q I rx ry h;obtain ⟨i,j,rfl,rfl,q⟩:=h;obtain ⟨t,rfl⟩:=rx;obtain ⟨t',rfl⟩:=ry;exact rule i j t t' s _ _ ⟨.bl (g i j),H,I,rfl,q⟩
def qev (i j:Int):Prop:=0<j/\j<1073741824
def yev (i j:Int):Prop:=0<=j/\j<=1000000/\i.natAbs<2^64
def CMul (i j:Int):Prop:=(-(2^64)<i/\i<2^64)\/(-(2^64)<j/\j<2^64)
theorem CMul.ok {i j:Int} (h:CMul i j):IntMulOk i j:=by
 rcases h with ⟨h1,h2⟩ | ⟨h1,h2⟩
 ·exact .of_left (intBits_le_64 h1 h2)
 ·exact .of_right (intBits_le_64 h1 h2)
theorem zds:OpR X (binaryOp .Add) (rI0 λi j=>.int (i+j)):=zem λ_ _ _ _ _ _ _ q=>add_int q
theorem qds:OpR X (binaryOp .Sub) (rI0 λi j=>.int (i-j)):=zem λ_ _ _ _ _ _ _ q=>sub_int q
theorem yds:OpR X (binaryOp .Mult) (rI CMul λi j=>.int (i*j)):=opI λ_ _ _ _ _ _ _ hc q=>mul_int q hc.ok
theorem zcP:OpR X (binaryOp .FloorDiv) (rI qev λi j=>.int (i/j)):=opI λi j _ _ _ _ _ hc q=>by
 have h1:(0:Int)<j:=hc.1;have h2:j<1073741824:=hc.2;exact floordiv_int (by omega) (by rw [Int.fdiv_eq_ediv_of_nonneg i (by omega)];exact q) (.inl (PyProof.noPylong_small (by omega)))
theorem jds:OpR X (binaryOp .Mod) (rI (λ_ j=>0<j) λi j=>.int (i%j)):=opI λi j _ _ _ _ _ hc q=>by
 have h1:(0:Int)<j:=hc;exact mod_int' (by omega) (by rw [Int.fmod_eq_emod_of_nonneg i (by omega)];exact q)
theorem zdt:OpR X (binaryOp .Pow) (rI yev λi j=>.int (i^j.toNat)):=opI λ_ _ _ _ _ _ _ hc q=>pow_int_small hc.1 hc.2.1 hc.2.2 q
theorem unI {f:Value->Sem Value} {g:Int->Int}
  (rule:∀ (i:Int) (t:Tok) (s:Shared) (Q:Value->Shared->Prop) (E:Value->Shared->Prop),Q (.int (g i) s.toks) { s with toks:=s.toks+1 }->wpAny (model X.prog X.w) X.A (f (.int i t)) Q E s) :
  UnR X f (rU λi=>.int (g i)):=by
 intro pins s σ H x v Q I rx h;obtain ⟨i,rfl,q⟩:=h;obtain ⟨t,rfl⟩:=rx;exact rule i t s _ _ ⟨.int (g i),H,I.tok _,⟨_,rfl⟩,q⟩
theorem qdt:UnR X (unaryOp .USub) (rU λi=>.int (-i)):=unI λ_ _ _ _ _ q=>neg_int q
end
noncomputable def qem:V->V->Bool
 | .non,.non=>true | .non,.int _=>true | .int _,.non=>true | .non,.bl _=>true | .bl _,.non=>true | .non,.str _=>true | .str _,.non=>true
 | .int _,.int _=>true | .bl _,.bl _=>true | .str _,.str _=>true | .byt _,.byt _=>true
 | .int _,.str _=>true | .str _,.int _=>true | .bl _,.str _=>true | .str _,.bl _=>true
 | _,_=>false
def rEq:R2:=λx y H Q=>qem x y=true/\Q (.bl (decide (x=y))) H
def rNe:R2:=λx y H Q=>qem x y=true/\Q (.bl (!decide (x=y))) H
theorem yby {i j:Int}:decide (V.int i=V.int j)=(i==j):=by
 rw [vd]
 simp
theorem jcw {i j:Bool}:decide (V.bl i=V.bl j)=(i==j):=by
 rw [vd]
 simp
theorem qau {i j:Str}:decide (V.str i=V.str j)=(i==j):=by
 rw [vd]
 simp
theorem jby {i j:Array UInt8}:decide (V.byt i=V.byt j)=(i.toList==j.toList):=by
 rw [vd];cases i;cases j
 simp
section
variable {X:Cx} {a b c:Expr} {ta tb tc:TE} {pos:Pos}
theorem qf {pins:List (Addr×Obj)} {σ:St} {H:Hp} {s:Shared} {Q:VK} {k k':Bool} (I:Inv X pins σ H s) (q:Q (.bl k) H) (e:k=k'):EP X pins σ Q (.bool k') s:=by
 subst e;exact ⟨.bl k,H,I,rfl,q⟩
theorem qd5:OpR X (compareOp .Eq) rEq:=by
 intro pins s σ H x y v u Q I rx ry h;obtain ⟨hs,q⟩:=h;cases x with
 | non =>
  cases rx;cases y with
  | non=>cases ry;exact PySem.EqNone.eq_none_none (qf I q (by simp))
  | bl j=>cases ry;exact PySem.EqNone.eq_none_bool (qf I q (by simp))
  | int j=>obtain ⟨t',rfl⟩:=ry;exact PySem.EqNone.eq_none_int (qf I q (by simp))
  | str j=>obtain ⟨t',rfl⟩:=ry;exact PySem.EqNone.eq_none_str (qf I q (by simp))
  | _=>exact absurd (show false=true from hs) wz
 | bl i =>
  cases rx;cases y with
  | non=>cases ry;exact PySem.EqNone.eq_bool_none (qf I q (by simp))
  | bl j=>cases ry;exact eq_bool (qf I q jcw)
  | str j=>obtain ⟨t',rfl⟩:=ry;exact PySem.EqMixed.eq_bool_str (qf I q (by simp))
  | _=>exact absurd (show false=true from hs) wz
 | int i =>
  obtain ⟨t,rfl⟩:=rx;cases y with
  | non=>cases ry;exact PySem.EqNone.eq_int_none (qf I q (by simp))
  | int j=>obtain ⟨t',rfl⟩:=ry;exact eq_int (qf I q yby)
  | str j=>obtain ⟨t',rfl⟩:=ry;exact PySem.EqMixed.eq_int_str (qf I q (by simp))
  | _=>exact absurd (show false=true from hs) wz
 | str i =>
  obtain ⟨t,rfl⟩:=rx;cases y with
  | non=>cases ry;exact PySem.EqNone.eq_str_none (qf I q (by simp))
  | bl j=>cases ry;exact PySem.EqMixed.eq_str_bool (qf I q (by simp))
  | int j=>obtain ⟨t',rfl⟩:=ry;exact PySem.EqMixed.eq_str_int (qf I q (by simp))
  | str j=>obtain ⟨t',rfl⟩:=ry;exact eq_str (qf I q qau)
  | _=>exact absurd (show false=true from hs) wz
 | byt i =>
  obtain ⟨t,rfl⟩:=rx;cases y with
  | byt j=>obtain ⟨t',rfl⟩:=ry;exact PySem.W.eq_bytes (qf I q jby)
  | _=>exact absurd (show false=true from hs) wz
 | _=>cases y<;>exact absurd (show false=true from hs) wz
theorem yd5:OpR X (compareOp .NotEq) rNe:=by
 intro pins s σ H x y v u Q I rx ry h;obtain ⟨hs,q⟩:=h;cases x with
 | non =>
  cases rx;cases y with
  | non=>cases ry;exact PySem.EqNone.ne_none_none (qf I q (by simp))
  | bl j=>cases ry;exact PySem.EqNone.ne_none_bool (qf I q (by simp))
  | int j=>obtain ⟨t',rfl⟩:=ry;exact PySem.EqNone.ne_none_int (qf I q (by simp))
  | str j=>obtain ⟨t',rfl⟩:=ry;exact PySem.EqNone.ne_none_str (qf I q (by simp))
  | _=>exact absurd (show false=true from hs) wz
 | bl i =>
  cases rx;cases y with
  | non=>cases ry;exact PySem.EqNone.ne_bool_none (qf I q (by simp))
  | bl j=>cases ry;exact ne_bool (qf I q (congrArg not jcw))
  | str j=>obtain ⟨t',rfl⟩:=ry;exact PySem.EqMixed.ne_bool_str (qf I q (by simp))
  | _=>exact absurd (show false=true from hs) wz
 | int i =>
  obtain ⟨t,rfl⟩:=rx;cases y with
  | non=>cases ry;exact PySem.EqNone.ne_int_none (qf I q (by simp))
  | int j=>obtain ⟨t',rfl⟩:=ry;exact ne_int (qf I q (congrArg not yby))
  | str j=>obtain ⟨t',rfl⟩:=ry;exact PySem.EqMixed.ne_int_str (qf I q (by simp))
  | _=>exact absurd (show false=true from hs) wz
 | str i =>
  obtain ⟨t,rfl⟩:=rx;cases y with
  | non=>cases ry;exact PySem.EqNone.ne_str_none (qf I q (by simp))
  | bl j=>cases ry;exact PySem.EqMixed.ne_str_bool (qf I q (by simp))
  | int j=>obtain ⟨t',rfl⟩:=ry;exact PySem.EqMixed.ne_str_int (qf I q (by simp))
  | str j=>obtain ⟨t',rfl⟩:=ry;exact ne_str (qf I q (congrArg not qau))
  | _=>exact absurd (show false=true from hs) wz
 | byt i =>
  obtain ⟨t,rfl⟩:=rx;cases y with
  | byt j=>obtain ⟨t',rfl⟩:=ry;exact PySem.W.ne_bytes (qf I q (congrArg not jby))
  | _=>exact absurd (show false=true from hs) wz
 | _=>cases y<;>exact absurd (show false=true from hs) wz
theorem jd5:OpR X (compareOp .Lt) (rI0 λi j=>.bl (decide (i<j))):=jdZ λ_ _ _ _ _ _ _ q=>lt_int q
theorem zd6:OpR X (compareOp .LtE) (rI0 λi j=>.bl (decide (i<=j))):=jdZ λ_ _ _ _ _ _ _ q=>le_int q
theorem qd6:OpR X (compareOp .Gt) (rI0 λi j=>.bl (decide (j<i))):=jdZ λ_ _ _ _ _ _ _ q=>gt_int q
theorem yd6:OpR X (compareOp .GtE) (rI0 λi j=>.bl (decide (j<=i))):=jdZ λ_ _ _ _ _ _ _ q=>ge_int q
theorem ydt:OpR X (compareOp .Is) (λx y H Q=>y=.non/\Q (.bl (decide (x=.non))) H):=by
 intro pins s σ H x y v u Q I rx ry h;obtain ⟨rfl,q⟩:=h;cases ry;refine is_none_gen (qf I q ?_)
 cases x <;> first
  | (cases rx;rfl)
  | (obtain ⟨t,rfl⟩:=rx;rfl)
theorem qcP:OpR X (compareOp .IsNot) (λx y H Q=>y=.non/\Q (.bl (!decide (x=.non))) H):=by
 intro pins s σ H x y v u Q I rx ry h;obtain ⟨rfl,q⟩:=h;cases ry;refine isnot_none_gen (qf I q ?_)
 cases x <;> first
  | (cases rx;rfl)
  | (obtain ⟨t,rfl⟩:=rx;rfl)
theorem ycP {op:CmpOp} {r:R2} (ho:OpR X (compareOp op) r) (ha:PE X a ta) (hb:PE X b tb) (hm:behindInMarks op b=false):PE X (.Compare a [op] [b] pos) (tOp r ta tb):=by
 intro pins s σ H Q I h;exact wpAny_Compare1 (jd4 ha hb I h λv u s2 x y H2 I2 rx ry q=>ho pins s2 σ H2 x y v u Q I2 rx ry q) hm
def jd6 (t:TE):TT:=λσ H Q=>t σ H λx H'=>∃ k,x=.bl k/\Q k H'
theorem zbz {op:CmpOp} {r:R2} (ho:OpR X (compareOp op) r) (ha:PE X a ta) (hb:PE X b tb) (hm:behindInMarks op b=false):PT X (.Compare a [op] [b] pos) (jd6 (tOp r ta tb)):=by
 intro pins s σ H Q I h
 refine wpAny_isTrue_Compare1 (thn (ha pins s σ H _ I h) λv s1 ⟨x,H1,I1,r1,q1⟩=>thn (hb pins s1 σ H1 _ I1 q1) λu s2 ⟨y,H2,I2,r2,q2⟩ =>
  thn (ho pins s2 σ H2 x y v u _ I2 r1 r2 q2) λc s3 ⟨z,H3,I3,r3,k,e,q3⟩=>?_) hm
 subst e;cases r3;exact wpAny_truthy_bool ⟨H3,I3,q3⟩
def zd7 (K:Frag) (x:V) (H:Hp) (k:Bool):Prop :=
 match x with
 | .non=>k=false
 | .bl b=>k=b
 | .int i=>k=(i != 0)
 | .str y=>y.length<=sizeLine/\k=((y.length:Int) != 0)
 | .byt y=>y.size<=sizeLine/\k=((y.size:Int) != 0)
 | .ref p=>(∃ xs,SqL K H p xs/\k=!xs.isEmpty)\/(∃ xs,SqT K H p xs/\k=!xs.isEmpty)\/∃ kvs,H p=some (.dK kvs)/\k=!kvs.isEmpty
 | _=>False
theorem qbo {κ:Type} {kvs:List (κ×V)} {vs:List (κ×Value)} (r:KV kvs vs):(!vs.isEmpty)=!kvs.isEmpty:=by
 cases r<;>rfl
theorem yal {xs:List V} {its:List Value} (r:Vals xs its):(!its.toArray.isEmpty)=!xs.isEmpty:=by
 cases r<;>simp
theorem jal:(sizeLine:Nat)<2^63:=by rw [sizeLine_eq];decide
theorem zcx:jeu X (λx H Q=>∃ k,zd7 X.K x H k/\Q k H):=by
 intro pins s σ H x v Q I rx h;obtain ⟨k,e,q⟩:=h;have hl:=jal;have hs:sizeLine=16777216:=sizeLine_eq;cases x with
 | non =>
  cases rx;have e':k=false:=e;subst e';exact truthy_none ⟨H,I,q⟩
 | bl b =>
  cases rx;have e':k=b:=e;subst e';exact wpAny_truthy_bool ⟨H,I,q⟩
 | int i =>
  obtain ⟨t,rfl⟩:=rx;have e':k=(i != 0):=e;subst e';exact PySem.P.truthy_int ⟨H,I,q⟩
 | str y =>
  obtain ⟨t,rfl⟩:=rx;obtain ⟨hy,e'⟩:y.length<=sizeLine/\k=((y.length:Int) != 0):=e;subst e';exact PySem.P.truthy_str (by omega) ⟨H,I.tok _,q⟩
 | byt y =>
  obtain ⟨t,rfl⟩:=rx;obtain ⟨hy,e'⟩:y.size<=sizeLine/\k=((y.size:Int) != 0):=e;subst e';exact PySem.W.truthy_bytes (by omega) ⟨H,I.tok _,q⟩
 | ref p =>
  cases rx;have e':(∃ xs,SqL X.K H p xs/\k=!xs.isEmpty)\/(∃ xs,SqT X.K H p xs/\k=!xs.isEmpty)\/∃ kvs,H p=some (.dK kvs)/\k=!kvs.isEmpty:=e;rcases e' with ⟨xs,hx,e'⟩ | ⟨xs,hx,e'⟩ | ⟨kvs,hx,e'⟩
  ·subst e';obtain ⟨its,r,pl,hz⟩:=I.list hx;have hlen:=r.length;exact wpAny_truthy_list pl.isList (by simp only [vh];omega) ⟨H,I.tok _,by rw [yal r];exact q⟩
  ·subst e';obtain ⟨its,r,pl,hz⟩:=I.tuple hx;have hlen:=r.length;exact truthy_tuple pl (by simp only [vh];omega) ⟨H,I.tok _,by rw [yal r];exact q⟩
  ·subst e';obtain ⟨hz,hS,vs,r,m⟩:kvs.length<=sizeLine/\(p==sysModules)=false/\∃ vs,KV kvs vs/\s.heap.DictOf (qaW X.prog X.w) p vs:=I.hok p _ hx;have hlen:kvs.length=vs.length:=Paired.length r;exact wpAny_truthy_dict hS m (by omega) ⟨H,I.tok _,by rw [qbo r];exact q⟩
 | _=>exact (show False from e).elim
theorem yca (ha : PE X a ta) (he : ∀ whole, isTrue a X.env whole = (do let v <- whole; standAt a.pos; holding [v] (truthy v))) :
  PT X a (λσ H Q=>ta σ H λx H'=>∃ k,zd7 X.K x H' k/\Q k H'):=by
 intro pins s σ H Q I h;exact isTrue_plain (thn (ha pins s σ H _ I h) λv s1 ⟨x,H1,I1,r1,q1⟩=>zcx pins s1 σ H1 x v Q I1 r1 q1) (he _)
theorem ybo:OpR X (binaryOp .Add) (λx y H Q=>∃ i j,x=.str i/\y=.str j/\i.length+j.length<=sizeLine/\Q (.str (i++j)) H):=by
 intro pins s σ H x y v u Q I rx ry h;obtain ⟨i,j,rfl,rfl,hz,q⟩:=h;obtain ⟨t,rfl⟩:=rx;obtain ⟨t',rfl⟩:=ry;exact add_str (λt' tk=>⟨.str (i++j),H,I.tok _,⟨_,rfl⟩,q⟩) hz
theorem vals1 {x:V} {us:List Value} (r:Vals [x] us):∃ u,us=[u]/\RelV x u:=by
 cases r with
 | cons r1 r2=>cases r2;exact ⟨_,rfl,r1⟩
theorem vals2 {x y:V} {us:List Value} (r:Vals [x,y] us):∃ u w',us=[u,w']/\RelV x u/\RelV y w':=by
 cases r with
 | cons r1 r2 =>
  cases r2 with
  | cons r3 r4=>cases r4;exact ⟨_,_,rfl,r1,r3⟩
theorem qaG:qw X (.type "int") (λxs H Q=>(∃ i,xs=[.int i]/\Q (.int i) H)\/∃ k,xs=[.bl k]/\Q (.int (if k then 1 else 0)) H):=by
 intro pins s σ H xs us Q I r h;rcases h with ⟨i,rfl,q⟩ | ⟨k,rfl,q⟩
 ·obtain ⟨u,rfl,t,rfl⟩:=vals1 r;exact call_int_int ⟨.int i,H,I,⟨_,rfl⟩,q⟩
 ·obtain ⟨u,rfl,r1⟩:=vals1 r;cases r1;exact call_int_bool ⟨.int (if k then 1 else 0),H,I.tok _,⟨_,rfl⟩,q⟩
end
structure Room (k:Nat) (A:Around):Prop where
 hd:A.handled=none
 dp:A.depth+3*k+5<recursionLimit
 un:A.units+16*k+200<cLine
theorem Room.mono {j k:Nat} {A:Around} (r:Room k A) (h:j<=k):Room j A:=⟨r.hd,by have:=r.dp;omega,by have:=r.un;omega⟩
theorem Room.deeper {k:Nat} {A:Around} (r:Room (k+1) A) (env:Env):Room k (A.deeper env) :=
 ⟨r.hd,by have:=r.dp;show A.depth+1+3*k+5<_;omega,by have:=r.un;show A.units+3+16*k+200<_;omega⟩
theorem Room.depth {k:Nat} {A:Around} (r:Room k A):A.depth<recursionLimit:=by have:=r.dp;omega
theorem Room.units {k:Nat} {A:Around} (r:Room k A):A.units+64<cLine:=by have:=r.un;omega
def tNil:TA:=λ_ H Q=>Q [] H
def qd7 (ta:TE) (tr:TA):TA:=λσ H Q=>ta σ H λx H1=>tr σ H1 λxs H2=>Q (x::xs) H2
section
variable {X:Cx} {e:Expr} {es:List Expr} {te:TE} {t:TA} {pos:Pos}
theorem zaa:PA X [] tNil:=λ_ _ _ _ H Q I h=>Calls.spliced_nil ⟨[],H,I,.nil,h⟩
theorem zF (ha : PE X e te) (hr : PA X es t) (hs : starEach (e :: es) X.env = (false, eval e X.env) :: starEach es X.env := by rfl) : PA X (e :: es) (qd7 te t) := by
 intro pos pins s σ H Q I h;rw [hs];show wpAny _ _ (spliced ((false,eval e X.env)::backTo pos (starEach es X.env))) _ _ s;refine Calls.spliced_cons (thn (ha pins s σ H _ I h) λu s1 ⟨x,H1,I1,r1,q1⟩=>?_);exact thn (hr pos pins s1 σ H1 _ I1 q1) λus s2 ⟨xs,H2,I2,r2,q2⟩=>⟨x::xs,H2,I2,.cons r1 r2,q2⟩
def jev (t:TA):TE:=λσ H Q=>t σ H λxs H1=>xs.length<=sizeLine/\∀ p,H1 p=none->Q (.ref p) (upd H1 p (.tup xs))
def zew (t:TA):TE:=λσ H Q=>t σ H λxs H1=>xs.length<=sizeLine/\∀ p,H1 p=none->Q (.ref p) (upd H1 p (.lst xs))
theorem jdt {x1} (h:PA X es t):PE X (.Tuple es x1 pos) (jev t):=by
 intro pins s σ H Q I hq;refine wpAny_Tuple_spliced (thn (h pos pins s σ H _ I hq) λus s1 ⟨xs,H1,I1,r,z,q⟩=>⟨by rw [<-r.length];exact z,?_⟩);have hf:H1 s1.heap.objs.size=none:=I1.hok.fresh (wB _);refine ⟨.ref s1.heap.objs.size,upd H1 s1.heap.objs.size (.tup xs),I1.laid (t':=s1.toks) (λb u e=>wj _ e) (wB _) ?_,rfl,q _ hf⟩;exact ⟨z,us,r,⟨_,wt _ rfl,rfl,rfl,_,rfl⟩⟩
theorem zdu (h:PA X es t):PE X (.List es pos) (zew t):=by
 intro pins s σ H Q I hq;refine wpAny_List_spliced (thn (h pos pins s σ H _ I hq) λus s1 ⟨xs,H1,I1,r,z,q⟩=>⟨by rw [<-r.length];exact z,?_⟩);have hf:H1 s1.heap.objs.size=none:=I1.hok.fresh (wB _);refine ⟨.ref s1.heap.objs.size,upd H1 s1.heap.objs.size (.lst xs),I1.laid (t':=s1.toks) (λb u e=>wj _ e) (wB _) ?_,rfl,q _ hf⟩;exact ⟨z,us,0,r,wt _ rfl⟩
end
abbrev Sp:=List V->Hp->VK->XK->Prop
abbrev CXT:=List Env->Hp->Shared->XK->Value->Shared->Prop
structure Env0 (P:Program) (w:World) (K:Frag) (mg:Str->Option Value) (base:Heap) (A:Around) (outer:List Env) (s:Shared) (H:Hp):Prop where
 frames:A.frames=some outer
 mod:Mod K mg base
 bs:∀ b o,base.get? b=some o->s.heap.get? b=some o/\H b=none
 bsz:base.objs.size<=s.heap.objs.size
 funs:s.heap.FunFrames base outer
 frf:∀ b∈frs outer,H b=none
 hok:HOk P w H s.heap
 bare:AllBare s.gens
def CE (outer:List Env) (P:Program) (w:World) (H:Hp) (s:Shared) (Q:VK) (u:Value) (s':Shared):Prop :=
 ∃ v H',s'.os=s.os/\AllBare s'.gens/\Un (frs outer) [] H H' s.heap s'.heap/\HOk P w H' s'.heap/\RelV v u/\Q v H'
def CR (CX:CXT) (outer:List Env) (P:Program) (w:World) (H:Hp) (s:Shared) (Q:VK) (E:XK) (r:Result) (s':Shared):Prop :=
 match r with
 | .ok (.ret u)=>CE outer P w H s Q u s'
 | .ok _=>False
 | .error e=>CX outer H s E e s'
structure FnOk (P:Program) (w:World) (K:Frag) (mg:Str->Option Value) (base:Heap) (CX:CXT) (k:Nat) (f:Addr) (fd:FuncData) (ps:List Str) (sp:Sp):Prop where
 len:∀ vs H Q E,sp vs H Q E->vs.length=ps.length
 run:∀ (A:Around) (outer:List Env) (s:Shared) (H:Hp) (args:Args) (us:List Value) (vs:List V) (Q:VK) (E:XK),Room k A->Env0 P w K mg base A outer s H->BindsTo s fd args (ps.zip us)->Vals vs us->sp vs H Q E ->
  codeAny (model P w) A (.call (.ref f) args) (CR CX outer P w H s Q E) s
theorem FnOk.imp {P:Program} {w:World} {K:Frag} {mg:Str->Option Value} {base:Heap} {CX:CXT} {k:Nat} {f:Addr} {fd:FuncData} {ps:List Str} {sp sp':Sp} (F:FnOk P w K mg base CX k f fd ps sp)
  (h:∀ vs H Q E,sp' vs H Q E->sp vs H Q E):FnOk P w K mg base CX k f fd ps sp' :=
 ⟨λvs H Q E q=>F.len vs H Q E (h _ _ _ _ q),λA outer s H args us vs Q E hr he hb hv hs=>F.run A outer s H args us vs Q E hr he hb hv (h _ _ _ _ hs)⟩
section
variable {X:Cx} {pins:List (Addr×Obj)} {σ:St} {H:Hp} {s s':Shared}
theorem Inv.env0 (I:Inv X pins σ H s):Env0 X.prog X.w X.K X.mg X.base X.A X.stack s H :=
 ⟨I.ok.frames,I.ok.mod,I.bs,wQ I.ok.bsz I.sz,I.stack,I.stkFree,I.hok,I.bare⟩
theorem Inv.after {Q:VK} {u:Value} (I:Inv X pins σ H s) (h:CE X.stack X.prog X.w H s Q u s'):EP X pins σ Q u s':=by
 obtain ⟨v,H',os,bare,un,hok,r,q⟩:=h;obtain ⟨hh,g,d,t,os'⟩:=s';obtain rfl:os'=s.os:=os;exact ⟨v,H',I.call (h':=hh) (g':=g) (d':=d) (t':=t) (ch:=[]) un hok bare (λb z=>absurd z (by simp)),r,q⟩
end
def yd7 (sp:Sp) (dvs:List V) (E:XK) (t:TA):TE:=λσ H Q=>t σ H λvs H1=>sp (vs++dvs) H1 Q E
def Binds (K:Frag) (fd:FuncData) (ps:List Str) (ds:List Value):Prop :=
 ∀ (s:Shared) (us:List Value),K.In s.heap->(us++ds).length=ps.length->BindsTo s fd ⟨us,[]⟩ (ps.zip (us++ds))
theorem Binds.all {K:Frag} {fd:FuncData} {ps:List Str} (h:∀ us:List Value,us.length=ps.length->bindArgs fd ⟨us,[]⟩=pure (ps.zip us)):Binds K fd ps []:=λs us _ hl=>by
 rw [List.append_nil] at hl ⊢;exact .of_eq (h us hl)
def qbz (CX:CXT) (X:Cx) (E:XK):Prop:=∀ (pins:List (Addr×Obj)) (σ:St) (H:Hp) (s:Shared) (e:Value) (s':Shared),Inv X pins σ H s->CX X.stack H s E e s'->X.xe e s'
section
variable {X:Cx} {CX:CXT} {k:Nat} {f C:Addr} {fd:FuncData} {ps:List Str} {sp:Sp} {dvs:List V} {ds:List Value} {E:XK} {x m:Str} {p pos apos:Pos} {e o:Expr} {es:List Expr} {ta:TE} {t:TA}
theorem qdu {pins:List (Addr×Obj)} {σ:St} {H:Hp} {s:Shared} {Q:VK} {us:List Value} {vs:List V} (F:FnOk X.prog X.w X.K X.mg X.base CX k f fd ps sp) (hr:Room k X.A) (hb:Binds X.K fd ps ds) (hd:Vals dvs ds) (hx:qbz CX X E)
  (I:Inv X pins σ H s) (r:Vals vs us) (h:sp (vs++dvs) H Q E):wpAny (model X.prog X.w) X.A (call (.ref f) us) (EP X pins σ Q) X.xe s:=by
 have r2:Vals (vs++dvs) (us++ds):=r.append hd;have hl:(us++ds).length=ps.length:=by rw [<-r2.length];exact F.len _ _ _ _ h
 refine wpAny_call (codeAny_mono (F.run X.A X.stack s H ⟨us,[]⟩ (us++ds) (vs++dvs) Q E hr I.env0 (hb s us I.kIn hl) r2 h) λr s' hq=>?_);cases r with
 | error e=>exact hx pins σ H s e s' I hq
 | ok fl =>
  cases fl with
  | ret u=>exact I.after hq
  | next=>exact False.elim hq
  | brk=>exact False.elim hq
  | cont=>exact False.elim hq
theorem jcP (F:FnOk X.prog X.w X.K X.mg X.base CX k f fd ps sp) (hr:Room k X.A) (hg:Gl X x) (hm:X.mg x=some (.ref f)) (hk:PySem.W.keepIn X.K (.ref f)=true) (hb:Binds X.K fd ps ds) (hd:Vals dvs ds) (hx:qbz CX X E)
  (ha:PA X (e::es) t) (hdb:(x==("__debug__":Str))=false:=by decide) (he:starEach (e::es) X.env=(false,eval e X.env)::starEach es X.env:=by rfl) (hpl:(backTo pos (starEach es X.env)).any (·.1)=false:=by rfl) :
  PE X (.Call (.Name x p) (e::es) [] pos) (yd7 sp dvs E t):=by
 intro pins s σ H Q I h;refine wpAny_Call_Name_kw (jbw I hg hm ?_ hdb);refine PySem.W.callWith_K (h₀:=X.base) I.ok.mod.kin hk (thn (ha pos pins s σ H _ I h) λus s1 ⟨vs,H1,I1,r,q⟩=>⟨I1.kIn,?_⟩) he hpl;exact qdu F hr hb hd hx I1 r q
end
def PK (X:Cx) (kws:List Keyword) (t:TA):Prop :=
 ∀ (pos:Pos) (pins:List (Addr×Obj)) (s:Shared) (σ:St) (H:Hp) (Q:List V->Hp->Prop),Inv X pins σ H s->t σ H Q->wpAny (model X.prog X.w) X.A (evalAll ((backToKw pos (keywordEach kws X.env)).map (·.2))) (AP X pins σ Q) X.xe s
structure FnScope (N P:List Str) (sc:Scope):Prop where
 kind:sc.kind=.function
 co:sc.isCoroutine=false
 gen:sc.isGenerator=false
 nd:N.Nodup
 pre:N.take P.length=P
 par:∀ x∈P,sc.names.lookup x=some .local\/sc.names.lookup x=some .cell
 nofree:∀ y∈sc.names,y.2≠.free
theorem yaG {kindOf:Str->Option NameKind} {x:Str}:∀ {binds:List (Str×Value)} {m:Str->Option Value},(∀ v,(x,v)∉binds)->bindL kindOf binds m x=m x
 | [],_,_=>rfl
 | (n,v)::r,m,h=>by
  unfold bindL;rw [yaG λw hw=>h w (wH _ hw)];split
  ·have:x≠n:=by rintro rfl;exact h v wN
   simp [this]
  ·rfl
theorem jaG {kindOf:Str->Option NameKind} {x:Str}:∀ {binds:List (Str×Value)} {m:Str->Option Value},(∀ v,(x,v)∉binds)->bindC kindOf binds m x=m x
 | [],_,_=>rfl
 | (n,v)::r,m,h=>by
  unfold bindC;rw [jaG λw hw=>h w (wH _ hw)];split
  ·rfl
  ·have:x≠n:=by rintro rfl;exact h v wN
   simp [this]
theorem zaH {kindOf:Str->Option NameKind} {x:Str} {v:Value}:∀ {P:List Str} {vs:List Value} {i:Nat} {m:Str->Option Value},P.Nodup->P[i]?=some x->vs[i]?=some v->kindOf x=some .local ->
  bindL kindOf (P.zip vs) m x=some v
 | [],_,_,_,_,h,_,_=>by simp at h
 | _::_,[],_,_,_,_,h,_=>by simp at h
 | p::P,w::vs,0,m,nd,h1,h2,hk=>by
  simp at h1 h2;subst h1;subst h2
  show bindL kindOf ((p,w)::P.zip vs) m p=_;unfold bindL;rw [yaG λv hv=>(List.nodup_cons.mp nd).1 (List.of_mem_zip hv).1,if_pos hk]
  simp
 | p::P,w::vs,i+1,m,nd,h1,h2,hk=>by
  show bindL kindOf ((p,w)::P.zip vs) m x=_;unfold bindL;exact zaH (i:=i) (List.nodup_cons.mp nd).2 (by simpa using h1) (by simpa using h2) hk
theorem qaH {kindOf:Str->Option NameKind} {x:Str} {v:Value}:∀ {P:List Str} {vs:List Value} {i:Nat} {m:Str->Option Value},P.Nodup->P[i]?=some x->vs[i]?=some v->kindOf x≠some .local ->
  bindC kindOf (P.zip vs) m x=some v
 | [],_,_,_,_,h,_,_=>by simp at h
 | _::_,[],_,_,_,_,h,_=>by simp at h
 | p::P,w::vs,0,m,nd,h1,h2,hk=>by
  simp at h1 h2;subst h1;subst h2
  show bindC kindOf ((p,w)::P.zip vs) m p=_;unfold bindC;rw [jaG λv hv=>(List.nodup_cons.mp nd).1 (List.of_mem_zip hv).1,if_neg hk]
  simp
 | p::P,w::vs,i+1,m,nd,h1,h2,hk=>by
  show bindC kindOf ((p,w)::P.zip vs) m x=_;unfold bindC;exact qaH (i:=i) (List.nodup_cons.mp nd).2 (by simpa using h1) (by simpa using h2) hk
noncomputable def start (N:List Str) (vs:List V):St:=vs.map some++List.replicate (N.length-vs.length) none
noncomputable def zcQ (CX:CXT) (P:Program) (w:World) (K:Frag) (mg:Str->Option Value) (base:Heap) (N:List Str) (qual:Str) (scope:Scope) (f:Addr) (cd:Value) (A:Around) (outer:List Env) (s:Shared) (H:Hp) (E:XK):Cx where
 prog:=P
 w:=w
 K:=K
 mg:=mg
 base:=base
 A:=A.deeper (envOfC qual scope s.heap.objs.size f cd)
 N:=N
 s₀:=s
 H₀:=H
 env:=envOfC qual scope s.heap.objs.size f cd
 outer:=outer
 stack:=envOfC qual scope s.heap.objs.size f cd::outer
 ex:=[]
 calm:=true
 fn:=λ_=>true
 pn:=[]
 xe:=λe s'=>wpAny (model P w) (A.deeper (envOfC qual scope s.heap.objs.size f cd)) (leaving (envOfC qual scope s.heap.objs.size f cd) e) (λ_ s''=>CX outer H s E e s'') (λe' s''=>CX outer H s E e' s'') s'
theorem ya6 {sc:Scope} {n:Nat} {x:Str} (h:sc.names.lookup x=some .cell):∃ c,(cellsFrom n sc.names []).lookup x=some c:=by
 have q:=PySem.W.cellsFrom_some sc.names n [] (.inl h);exact w6.mp q
theorem ybz {CX:CXT} {P:Program} {w:World} {K:Frag} {mg:Str->Option Value} {base:Heap} {N ps:List Str} {qual:Str} {scope:Scope} {f:Addr} {cd:Value} {A:Around} {outer:List Env} {s s1:Shared} {H:Hp} {E:XK} {us:List Value} {vs:List V}
  (S:FnScope N ps scope) (hd:A.handled=none) (e0:Env0 P w K mg base A outer s H) (hl:vs.length=ps.length) (r:Vals vs us)
  (x:InCallC s s.heap.objs.size (bindL (envOfC qual scope s.heap.objs.size f cd).kindOf (ps.zip us) λ_=>none) (cellsFrom (s.heap.objs.size+1) scope.names []) (bindC (envOfC qual scope s.heap.objs.size f cd).kindOf (ps.zip us) λ_=>none) s1) :
  Inv (zcQ CX P w K mg base N qual scope f cd A outer s H E) [] (start N vs) H s1:=by
 have hpl:ps.length<=N.length:=by have:=congrArg List.length S.pre;rw [List.length_take] at this;omega
 obtain ⟨h1,tk,rfl,hk⟩:=x.done;have noA:∀ b:Addr,b∉(zcQ CX P w K mg base N qual scope f cd A outer s H E).ex:=λb z=>absurd (show b∈([]:List Addr) from z) (by simp)
 refine ⟨⟨e0.mod,S.kind,rfl,rfl,wB _,λy z c h1 h2=>?_,λy hy=>?_,λy c _ h=>?_,λ_=>hd,Around.frames_deeper e0.frames,.inr ⟨rfl,rfl⟩,λb z=>absurd z (noA b),e0.bs,e0.bsz,λb _ _=>noA b,λb z=>absurd z (noA b),e0.funs,e0.frf⟩,
  rfl,e0.bare,Un.kept hk,⟨_,x.toInCall.ns,λi y v h1 h2 h3=>?_⟩,λy c h=>⟨_,x.cell y c h⟩,e0.hok.fresh (wB _),λy c h=>?_,λp hp=>absurd (show p∈([]:List (Addr×Obj)) from hp) (by simp),e0.hok.kept hk,?_⟩
 ·exact name_of_addr x.apart (wZ h1) (wZ h2)
 ·have hy:scope.names.lookup y=some .cell\/scope.names.lookup y=some .free:=hy;rcases hy with hy | hy
  ·exact ya6 hy
  ·exact absurd rfl (S.nofree _ (wZ hy))
 ·exact Nat.le_of_lt (x.above y c (wZ h))
 ·have hi:i<vs.length:=by
   unfold start at h2
   by_cases hi:i<vs.length
   ·exact hi
   ·rw [List.getElem?_append_right (by simpa using hi)] at h2;rw [List.getElem?_replicate] at h2;split at h2<;>cases h2
  have ha:vs[i]?=some v:=by
   unfold start at h2;rw [vg (by simpa using hi),wx] at h2;cases e:vs[i]? with
   | none=>rw [e] at h2;cases h2
   | some a=>rw [e] at h2;cases h2;rfl
  obtain ⟨u,hu,rv⟩:=r.get ha
  have hp:ps[i]?=some y:=by
   rw [<-S.pre,List.getElem?_take_of_lt (by omega)];exact h1
  have ndP:ps.Nodup:=by rw [<-S.pre];exact S.nd.sublist (List.take_sublist _ _)
  refine ⟨u,rv,?_⟩;rcases S.par y (wR hp) with k | k
  ·exact .inl ⟨k,zaH ndP hp hu k⟩
  ·obtain ⟨c,e⟩:=ya6 (n:=s.heap.objs.size+1) k;refine .inr ⟨.inl k,c,e,?_⟩;have q:=x.cell y c e;rw [qaH ndP hp hu (by show scope.names.lookup y≠_;rw [k];decide)] at q;exact q
 ·exact e0.hok.fresh (Nat.le_of_lt (x.above y c (wZ h)))
 ·unfold start;show _=N.length;rw [wU,wC,List.length_replicate];omega
theorem jd7 {CX:CXT} {P:Program} {w:World} {K:Frag} {mg:Str->Option Value} {base:Heap} {k:Nat} {f:Addr} {name qual:Str} {params:Arguments} {body:List Stmt} {scope:Scope} {dV kV doc pm cdv ct oc:Value} {an od:Option Addr}
  {osl:Array (Option Value)} {N ps:List Str} {sp:Sp} (lk:K.lookup f=some ⟨oc,od,.func (PySem.W.fnOf name qual params body scope dV kV doc pm an cdv ct),osl⟩) (hcd:PySem.W.codeIn K cdv qual=true) (S:FnScope N ps scope)
  (len:∀ vs H Q E,sp vs H Q E->vs.length=ps.length)
  (hbody:∀ (A:Around) (outer:List Env) (s:Shared) (H:Hp) (vs:List V) (Q:VK) (E:XK),Room k (A.deeper (envOfC qual scope s.heap.objs.size f cdv))->sp vs H Q E ->
   ∃ t,PSs (zcQ CX P w K mg base N qual scope f cdv A outer s H E) body t/\t { nx:=λ_ H'=>Q .non H',rt:=Q } (start N vs) H) :
  FnOk P w K mg base CX (k+1) f (PySem.W.fnOf name qual params body scope dV kV doc pm an cdv ct) ps sp:=by
 refine ⟨len,λA outer s H args us vs Q E hr e0 hb r hsp=>?_⟩;have hl:=len _ _ _ _ hsp;have KX:K.In s.heap:=e0.mod.kin.keeps λb o e=>(e0.bs b o e).1
 have lim:s.heap.NoLimit:=e0.mod.nolimit.keeps λb o e=>(e0.bs b o e).1
 have hkind:∀ y∈ps.zip us,scope.names.lookup y.1=some .local\/(scope.names.lookup y.1=some .cell/\((cellsFrom (s.heap.objs.size+1) scope.names []).lookup y.1).isSome=true):=λ⟨n,v⟩ hy=>by
  rcases S.par n (List.of_mem_zip hy).1 with q | q
  ·exact .inl q
  ·exact .inr ⟨q,PySem.W.cellsFrom_some _ _ _ (.inl q)⟩
 refine codeAny_call_function hr.depth (KX _ _ lk) rfl S.co S.gen rfl (PySem.W.codeRec_of KX hcd) (hb _ _ _ _ ?_);refine wpAny_newFunctionEnv_cells S.kind hkind λenv he s1 x=>?_
 subst he;refine ⟨lim.keeps x.toInCall.keep,codeAny_func ?_⟩;obtain ⟨t,ht,hq⟩:=hbody A outer s H vs Q E (hr.deeper _) hsp;have I:Inv (zcQ CX P w K mg base N qual scope f cdv A outer s H E) [] (start N vs) H s1:=ybz S hr.hd e0 hl r x;refine wpAny_mono (ht [] s1 (start N vs) H _ I hq) (λfl s' hs=>?_) λe s' hs=>hs
 have fin:∀ {σ':St} {H':Hp} {v:V} {u:Value},Inv (zcQ CX P w K mg base N qual scope f cdv A outer s H E) [] σ' H' s'->RelV v u->Q v H'->CE outer P w H s Q u s' :=
  λ{σ' H' v u} J rv q=>⟨v,H',J.os,J.bare,J.base,J.hok,rv,q⟩
 cases fl with
 | ret u =>
  obtain ⟨v,σ',H',J,rv,q⟩:=hs;exact fin J rv q
 | next =>
  obtain ⟨σ',H',J,q⟩:=hs;exact fin (v:=V.non) (u:=Value.none) J rfl q
 | brk =>
  obtain ⟨_,_,_,q⟩:=hs;exact False.elim q
 | cont =>
  obtain ⟨_,_,_,q⟩:=hs;exact False.elim q
section
variable {X:Cx} {x:Str} {p pos:Pos} {e:Expr} {es:List Expr} {t:TA} {id T:String} {r:List V->Hp->VK->Prop}
def tCB (r:List V->Hp->VK->Prop) (t:TA):TE:=λσ H Q=>t σ H λvs H1=>r vs H1 Q
theorem ja6 (hc : qw X (.builtin id) r) (hg : Gl X x) (hm : X.mg x = none) (hv : bootBuiltins x = some (.builtin id)) (ha : PA X (e :: es) t) (hn : x ≠ "__name__" := by decide) (hdb : (x == ("__debug__" : Str)) = false := by decide)
  (he:starEach (e::es) X.env=(false,eval e X.env)::starEach es X.env:=by rfl) (hpl:(backTo pos (starEach es X.env)).any (·.1)=false:=by rfl):PE X (.Call (.Name x p) (e::es) [] pos) (tCB r t):=by
 intro pins s σ H Q I h;refine wpAny_Call_Name_kw (yO I hg hm hv ?_ hn hdb);exact PyProof.Rows.callWith_builtin1 (thn (ha pos pins s σ H _ I h) λus s1 ⟨vs,H1,I1,r1,q1⟩=>hc pins s1 σ H1 vs us Q I1 r1 q1) he hpl
theorem jm (hc : qw X (.type T) r) (hg : Gl X x) (hm : X.mg x = none) (hv : bootBuiltins x = some (.type T)) (ha : PA X (e :: es) t) (hn : x ≠ "__name__" := by decide) (hdb : (x == ("__debug__" : Str)) = false := by decide)
  (he:starEach (e::es) X.env=(false,eval e X.env)::starEach es X.env:=by rfl) (hpl:(backTo pos (starEach es X.env)).any (·.1)=false:=by rfl):PE X (.Call (.Name x p) (e::es) [] pos) (tCB r t):=by
 intro pins s σ H Q I h;refine wpAny_Call_Name_kw (yO I hg hm hv ?_ hn hdb);exact PyProof.Rows.callWith_type1 (thn (ha pos pins s σ H _ I h) λus s1 ⟨vs,H1,I1,r1,q1⟩=>hc pins s1 σ H1 vs us Q I1 r1 q1) he hpl
end
end L2
namespace HT
open PySem PyProof.Rows
theorem za7 (A:Around) (s:Shared) (a:Int) (t:Tok) (c:Int) (u:Tok) (prog:Program) (w:World) (E:Value->Shared->Prop) (Q:Value->Shared->Prop) (h:Q (.bool (decide (a<c))) s) :
  wpAny (model prog w) A (richCompare .Lt (.int a t) (.int c u)) Q E s :=
 (PyProof.Rows.lt_int h:wpAny (model prog w) A (compareOp .Lt (.int a t) (.int c u)) Q E s)
section
variable {prog:Program} {w:World} {A:Around} {E:Value->Shared->Prop} {s:Shared}
theorem qcQ {t b:Addr} {vs ws:List Value} {Q:Value->Shared->Prop} (ht:IsTup s.heap t vs.toArray) (hb:IsTup s.heap b ws.toArray) (hv:vs≠[])
  (h1:ws=[]->Q (.ref t) s) (h2:ws≠[]->Q (.ref s.heap.objs.size) { s with heap:=s.heap.push { cls:=.type "tuple",data:=.seq (vs++ws).toArray } })
  (hsz:vs.length+ws.length<=sizeLine):wpAny (model prog w) A (binaryOp .Add (.ref t) (.ref b)) Q E s:=by
 obtain ⟨⟨cls,dd,data,sl⟩,ho,hc,n,hd⟩:=id ht;obtain ⟨⟨cls2,dd2,data2,sl2⟩,ho2,hc2,n2,hd2⟩:=id hb;simp only at hc hd hc2 hd2;subst hc hd hc2 hd2;have e:vs.toArray++ws.toArray=(vs++ws).toArray:=by simp
 by_cases hw:ws=[]
 ·exact concat_meets ⟨_,ho,rfl⟩ ⟨_,ho2,rfl⟩ noFill_tuple_add seq_tuple_add PySem.F.slot_tuple_add PySem.F.entry_tuple_add (PySem.F.args_tuple_add_2 _ _)
   (tuple_addW1 t b vs.toArray ws.toArray n n2 dd dd2 sl sl2 (by simpa using hv) (by simp [hw])) ⟨ho,ho2,h1 hw⟩
 ·refine concat_meets ⟨_,ho,rfl⟩ ⟨_,ho2,rfl⟩ noFill_tuple_add seq_tuple_add PySem.F.slot_tuple_add PySem.F.entry_tuple_add (PySem.F.args_tuple_add_2 _ _)
   (tuple_addW2 t b vs.toArray ws.toArray n n2 dd dd2 sl sl2 (by simpa using hv) (by simpa using hw) (by rw [vh,vh];exact hsz)) ⟨ho,ho2,?_⟩
  rw [e];exact h2 hw
noncomputable def sIx (n d:Nat):Option Int->Nat
 | none=>d
 | some v=>if v<0 then (v+(n:Int)).toNat else min v.toNat n
theorem ydu (n d:Nat) (hd:d<=n) (o:Option Int):sIx n d o<=n:=by
 cases o with
 | none=>exact hd
 | some v =>
  show (if v<0 then (v+(n:Int)).toNat else min v.toNat n)<=n
  by_cases hv:v<0
  ·rw [if_pos hv];omega
  ·rw [if_neg hv];exact Nat.min_le_right _ _
theorem jbz (v:Int) (n d:Nat):(if v<0 then max (v+(n:Int)) 0 else min v (n:Int))=((sIx n d (some v):Nat):Int):=by
 show (if v<0 then max (v+(n:Int)) 0 else min v (n:Int))=(((if v<0 then (v+(n:Int)).toNat else min v.toNat n):Nat):Int)
 by_cases hv:v<0
 ·simp only [if_pos hv];omega
 ·simp only [if_neg hv];omega
theorem jbo (lo hi:Option Int) (n:Nat):Builtin.Slice.sliceAdjust lo hi 1 (n:Int)=(((sIx n 0 lo:Nat):Int),((sIx n n hi:Nat):Int)):=by
 have h1:¬ ((1:Int)<0):=by omega
 unfold Builtin.Slice.sliceAdjust;simp only [h1,if_false];refine Prod.ext ?_ ?_
 ·cases lo with
  | none=>rfl
  | some v=>exact jbz v n 0
 ·cases hi with
  | none=>rfl
  | some v=>exact jbz v n n
theorem zbp (i j:Nat):Builtin.Slice.slicePlaces (i:Int) (j:Int) 1=j-i:=by
 unfold Builtin.Slice.slicePlaces;have h1:(1:Int)>0:=by omega
 simp only [h1,if_true,Int.ediv_one];split<;>omega
theorem zam {v:Value} {o:Option Int} {Q:Option Int->Shared->Prop} (p:IsPart v o) (h:Q o s):wpAny (model prog w) A (Builtin.Slice.slicePartIndex v) Q E s:=by
 cases p with
 | none=>exact slicePart_none h
 | int i t=>exact slicePart_int h
theorem yD {sl:Addr} {vl vu:Value} {lo hi:Option Int} {n:Nat} {Q:Int×Int×Nat->Shared->Prop} (hs:s.heap.IsSliceOf sl vl vu .none) (pl:IsPart vl lo) (pu:IsPart vu hi)
  (h:Q (((sIx n 0 lo:Nat):Int),1,sIx n n hi-sIx n 0 lo) s):wpAny (model prog w) A (Builtin.Slice.sliceApplied (.ref sl) (pure (n:Int))) Q E s:=by
 obtain ⟨os,hos,hcs,hds⟩:=id hs;unfold Builtin.Slice.sliceApplied Builtin.Slice.sliceFields;refine we (we (wpAny_field hos hds (x:=vl) rfl (we (wpAny_field hos hds (x:=vu) rfl (we (wpAny_field hos hds (x:=.none) rfl (wm ?_)))))));refine we (slicePart_none ?_);show wpAny _ _ (if ((1:Int)==0)=true then _ else _) _ _ s;rw [if_neg (by decide)];refine we (zam pl (we (zam pu (we (wm ?_)))));show wpAny _ _ (match Builtin.Slice.sliceAdjust lo hi 1 (n:Int) with | (lo,hi)=>pure (lo,(1:Int),Builtin.Slice.slicePlaces lo hi 1)) _ _ s;rw [jbo lo hi n];show wpAny _ _ (pure (((sIx n 0 lo:Nat):Int),(1:Int),Builtin.Slice.slicePlaces ((sIx n 0 lo:Nat):Int) ((sIx n n hi:Nat):Int) 1)) _ _ s;rw [zbp];exact wm h
theorem jca (xs:Array Value) (i k:Nat):((List.range k).filterMap λ(m:Nat)=>xs[((i:Int)+(m:Int)*1).toNat]?).toArray=((xs.toList.drop i).take k).toArray:=by
 have e:(λ(m:Nat)=>xs[((i:Int)+(m:Int)*1).toNat]?)=λm=>xs[i+m]?:=by
  funext m
  have:((i:Int)+(m:Int)*1).toNat=i+m:=by omega
  rw [this]
 rw [e]
 have:=pick_run xs i k
 rw [List.filterMap_map] at this;have e2:((λx=>xs[x]?)∘λx=>i+x)=λm=>xs[i+m]?:=rfl
 rw [e2] at this;rw [this]
theorem qS {t sl:Addr} {items:Array Value} {vl vu:Value} {lo hi:Option Int} {Q:Value->Shared->Prop} (ht:IsTup s.heap t items) (hs:s.heap.IsSliceOf sl vl vu .none) (pl:IsPart vl lo) (pu:IsPart vu hi)
  (hw:¬ (sIx items.size 0 lo=0/\sIx items.size items.size hi=items.size))
  (h:Q (.ref s.heap.objs.size) { s with heap:=s.heap.push { cls:=.type "tuple",data:=.seq ((items.toList.drop (sIx items.size 0 lo)).take (sIx items.size items.size hi-sIx items.size 0 lo)).toArray } })
  (hsz:items.size<=sizeLine):wpAny (model prog w) A (getItem (.ref t) (.ref sl)) Q E s:=by
 have htake:sizeOk (.seq ((items.toList.drop (sIx items.size 0 lo)).take (sIx items.size items.size hi-sIx items.size 0 lo)).toArray):=by
  show ((items.toList.drop (sIx items.size 0 lo)).take (sIx items.size items.size hi-sIx items.size 0 lo)).toArray.size<=sizeLine;rw [vh,List.length_take,List.length_drop,Array.length_toList];omega
 have hj:sIx items.size items.size hi<=items.size:=ydu _ _ (wB _) hi;obtain ⟨os,hos,hcs,hds⟩:=id hs;have hTs:s.TypeIs (.ref sl) "slice":=⟨os,hos,hcs⟩;unfold getItem
 try with_reducible refine wpAny_holding ?_
 first | refine we (wm ?_) | skip
 refine we (wpAny_sequenceKey ht.typeIs (by decide) ?_)
 refine we (w5 (name:=Str.ofString "__getitem__") ht.typeIs PyProof.Rows.slot_tuple_getitem
  (wW PyProof.Rows.slot_tuple_getitem ht.typeIs entry_tuple_getitem ?_ (args_tuple_getitem _ _)))
 show wpAny _ _ (Builtin.Tuple.tupleItemsOf (.ref t) >>= _) _ _ s;refine we (tupleItemsOf_ ht ?_);refine we (wpAny_typeOf hTs ?_);rw [if_pos (by decide)];refine we (yD hs pl pu ?_)
 have hno:¬ ((((sIx items.size 0 lo:Nat):Int)==0&&(1:Int)==1&&(sIx items.size items.size hi-sIx items.size 0 lo)==items.size)=true):=by
  intro q;rw [wg,wg] at q;have q1:((sIx items.size 0 lo:Nat):Int)=0:=eq_of_beq q.1.1;have q2:sIx items.size items.size hi-sIx items.size 0 lo=items.size:=eq_of_beq q.2;exact hw ⟨by omega,by omega⟩
 show wpAny _ _ (if (((sIx items.size 0 lo:Nat):Int)==0&&(1:Int)==1&&(sIx items.size items.size hi-sIx items.size 0 lo)==items.size)=true then _ else _) _ _ s;rw [if_neg hno,jca]
 first
  | exact we (m:=Builtin.Tuple.tupleExact _) (w9 (wm ⟨_,rfl,wm h⟩) htake)
  | exact we (m:=Builtin.Tuple.tupleExact _) (w9 (we (wm (wm ⟨_,rfl,wm h⟩))) htake)
  | exact we (we (m:=Builtin.Tuple.tupleExact _) (w9 (wm (wm ⟨_,rfl,wm h⟩)) htake))
  | exact we (we (m:=Builtin.Tuple.tupleExact _) (w9 (wm ⟨_,rfl,wm h⟩) htake))
end
end HT
namespace L2
open PySem PySem.Spec PyProof.Rows
abbrev TO:=St->Hp->(Option Int->Hp->Prop)->Prop
def PO (X:Cx) (e:Option Expr) (t:TO):Prop :=
 ∀ (pins:List (Addr×Obj)) (s:Shared) (σ:St) (H:Hp) (Q:Option Int->Hp->Prop),Inv X pins σ H s->t σ H Q ->
  wpAny (model X.prog X.w) X.A (evalPart e X.env) (λu s'=>∃ o H',Inv X pins σ H' s'/\IsPart u o/\Q o H') X.xe s
def tNoPart:TO:=λ_ H Q=>Q none H
def zd8 (t:TE):TO:=λσ H Q=>t σ H λx H1=>∃ i,x=.int i/\Q (some i) H1
section
variable {X:Cx} {e:Expr} {te:TE} {lo hi:Option Expr} {tl th:TO} {pos p2:Pos}
theorem ycQ:PO X none tNoPart:=by
 intro pins s σ H Q I h;rw [evalPart_none];exact wm ⟨none,H,I,.none,h⟩
theorem jcQ (h:PE X e te):PO X (some e) (zd8 te):=by
 intro pins s σ H Q I hw;rw [evalPart_some];refine thn (h pins s σ H _ I hw) λu s1 ⟨x,H1,I1,r1,q1⟩=>?_
 obtain ⟨i,rfl,q⟩:=q1;obtain ⟨t,rfl⟩:=r1;exact ⟨some i,H1,I1,.int i t,q⟩
def SlR (X:Cx) (r:V->Option Int->Option Int->Hp->VK->Prop):Prop :=
 ∀ (pins:List (Addr×Obj)) (s:Shared) (σ:St) (H:Hp) (x:V) (v vl vu:Value) (lo hi:Option Int) (sl:Addr) (Q:VK),Inv X pins σ H s->RelV x v->s.heap.IsSliceOf sl vl vu .none->IsPart vl lo->IsPart vu hi->r x lo hi H Q ->
  ∃ T id,typeLookup (.type T) "__getitem__"=pure (some (.builtin id))/\s.TypeIs v T/\wpAny (model X.prog X.w) X.A (getItem v (.ref sl)) (EP X pins σ Q) X.xe s
def tSl (r:V->Option Int->Option Int->Hp->VK->Prop) (te:TE) (tl th:TO):TE:=λσ H Q=>te σ H λx H1=>tl σ H1 λl H2=>th σ H2 λu H3=>r x l u H3 Q
theorem zcb {r:V->Option Int->Option Int->Hp->VK->Prop} (hr:SlR X r) (he:PE X e te) (hl:PO X lo tl) (hu:PO X hi th):PE X (.Subscript e (.Slice lo hi none p2) pos) (tSl r te tl th):=by
 intro pins s σ H Q I h;refine Subscript_ (thn (he pins s σ H _ I h) λv s1 ⟨x,H1,I1,r1,q1⟩=>?_);refine wpAny_Slice (thn (hl pins s1 σ H1 _ I1 q1) λvl s2 ⟨l,H2,I2,pl,q2⟩=>thn (hu pins s2 σ H2 _ I2 q2) λvu s3 ⟨u,H3,I3,pu,q3⟩=>?_);rw [evalPart_none];refine wm ?_;have I4:Inv X pins σ H3 { s3 with heap:=s3.heap.push { cls:=.type "slice",data:=.fields #[vl,vu,.none] } }:=I3.kept (t':=s3.toks) λb ob q=>wj _ q
 obtain ⟨T,id,hT,ht,hg⟩:=hr pins { s3 with heap:=s3.heap.push { cls:=.type "slice",data:=.fields #[vl,vu,.none] } } σ H3 x v vl vu l u s3.heap.objs.size Q I4 r1 (Heap.IsSliceOf.new ..) pl pu q3;show wpAny (model X.prog X.w) X.A (subscriptTail e (.Slice lo hi none p2) v (.ref s3.heap.objs.size)) (EP X pins σ Q) X.xe { s3 with heap:=s3.heap.push { cls:=.type "slice",data:=.fields #[vl,vu,.none] } };exact tail_any (ops:=[.ref s3.heap.objs.size,v]) ht hT hg (by with_unfolding_all rfl)
noncomputable def jb8 (xs:List V) (lo hi:Option Int):List V:=(xs.drop (HT.sIx xs.length 0 lo)).take (HT.sIx xs.length xs.length hi-HT.sIx xs.length 0 lo)
theorem qaa (xs:List V) (lo hi:Option Int):(jb8 xs lo hi).length<=xs.length:=by
 unfold jb8;rw [List.length_take,List.length_drop];omega
def qew (K:Frag):V->Option Int->Option Int->Hp->VK->Prop:=λx lo hi H Q=>∃ a xs,x=.ref a/\SqT K H a xs /\
 ¬ (HT.sIx xs.length 0 lo=0/\HT.sIx xs.length xs.length hi=xs.length)/\∀ p,H p=none->Q (.ref p) (upd H p (.tup (jb8 xs lo hi)))
theorem jdu:SlR X (qew X.K):=by
 intro pins s σ H x v vl vu lo hi sl Q I rx hs pl pu h;obtain ⟨a,xs,rfl,hx,hw,q⟩:=h;cases rx;obtain ⟨its,r,ht,hz⟩:=I.tuple hx;have hlen:its.toArray.size=xs.length:=by rw [vh];exact r.length.symm
 refine ⟨"tuple",_,PyProof.Rows.slot_tuple_getitem.lookup,ht.typeIs,?_⟩;refine HT.qS ht hs pl pu (by rw [hlen];exact hw) ?_ (by rw [hlen];exact hz);rw [hlen];refine ⟨.ref s.heap.objs.size,_,I.laid (t':=s.toks) (o:=.tup (jb8 xs lo hi)) (λb ob q=>wj _ q) (wB _) ?_,rfl,q _ (I.hok.fresh (wB _))⟩;exact ⟨wQ (qaa xs lo hi) hz,_,(r.drop (HT.sIx xs.length 0 lo)).take (HT.sIx xs.length xs.length hi-HT.sIx xs.length 0 lo),IsTupN.new _ _⟩
def qd8 (K:Frag):R2:=λx y H Q=>∃ a b xs ys,x=.ref a/\y=.ref b/\SqT K H a xs/\SqT K H b ys/\xs≠[]/\xs.length+ys.length<=sizeLine /\
 (ys=[]->Q (.ref a) H)/\(ys≠[]->∀ p,H p=none->Q (.ref p) (upd H p (.tup (xs++ys))))
theorem Vals.nil_iff {xs:List V} {us:List Value} (r:Vals xs us):us=[]↔xs=[]:=by
 cases r with
 | nil=>simp
 | cons _ _=>simp
theorem zcR:OpR X (binaryOp .Add) (qd8 X.K):=by
 intro pins s σ H x y v u Q I rx ry h;obtain ⟨a,b,xs,ys,rfl,rfl,ha,hb,hx,hz,q1,q2⟩:=h;cases rx;cases ry;obtain ⟨its,r1,p1,_⟩:=I.tuple ha;obtain ⟨its2,r2,p2,_⟩:=I.tuple hb;refine HT.qcQ p1 p2 (λz=>hx (r1.nil_iff.mp z)) (λz=>⟨.ref a,H,I,rfl,q1 (r2.nil_iff.mp z)⟩) (λz=>?_) (by rw [<-r1.length,<-r2.length];exact hz);refine ⟨.ref s.heap.objs.size,_,I.laid (t':=s.toks) (o:=.tup (xs++ys)) (λb ob q=>wj _ q) (wB _) ?_,rfl,q2 (λw=>z (r2.nil_iff.mpr w)) _ (I.hok.fresh (wB _))⟩;exact ⟨by rw [wU];exact hz,_,r1.append r2,IsTupN.new _ _⟩
end
noncomputable def ixN (n:Nat) (i:Int):Option Nat:=if 0<=i then (if i<n then some i.toNat else none) else if -(n:Int)<=i then some (i+n).toNat else none
noncomputable def atI {α:Type} (xs:List α) (i:Int):Option α:=(ixN xs.length i).bind λj=>xs[j]?
theorem zbA {n:Nat} {i:Int} {j:Nat} (h:ixN n i=some j):seqIndex? i n=some j/\j<n/\-(n:Int)<=i/\i<n:=by
 unfold ixN at h
 by_cases h0:0<=i
 ·rw [if_pos h0] at h
  by_cases h1:i<n
  ·rw [if_pos h1] at h;have e:i.toNat=j:=wA h;exact ⟨by rw [seqIndex_of h0 h1,e],by omega,by omega,h1⟩
  ·rw [if_neg h1] at h;cases h
 ·rw [if_neg h0] at h
  by_cases h1:-(n:Int)<=i
  ·rw [if_pos h1] at h;have e:(i+n).toNat=j:=wA h;exact ⟨by rw [seqIndex_neg (by omega) h1,e],by omega,h1,by omega⟩
  ·rw [if_neg h1] at h;cases h
theorem qbA {α:Type} {xs:List α} {i:Int} {v:α} (h:atI xs i=some v):∃ j,seqIndex? i xs.length=some j/\xs[j]?=some v/\j<xs.length/\-(xs.length:Int)<=i/\i<xs.length:=by
 unfold atI at h;cases e:ixN xs.length i with
 | none=>rw [e] at h;cases h
 | some j =>
  rw [e] at h;obtain ⟨h1,h2,h3,h4⟩:=zbA e;exact ⟨j,h1,h,h2,h3,h4⟩
theorem qa7 {α:Type} (xs:List α) (v:α):atI (xs++[v]) (-1)=some v:=by
 have hl:(xs++[v]).length=xs.length+1:=by simp
 have e:ixN (xs++[v]).length (-1)=some xs.length:=by
  unfold ixN;rw [hl,if_neg (by decide),if_pos (by omega)];congr 1;omega
 unfold atI;rw [e];show (xs++[v])[xs.length]?=some v
 simp
def yaW (b:Expr):Prop:=∀ o i,subscripted b false o i=operate [o,i] (getItem o i)
def IxR (X:Cx) (r:R2):Prop :=
 ∀ (value slice:Expr) (pins:List (Addr×Obj)) (s:Shared) (σ:St) (H:Hp) (x y:V) (v u:Value) (Q:VK),Inv X pins σ H s->RelV x v->RelV y u->r x y H Q ->
  subscripted slice false v u=operate [v,u] (getItem v u)->wpAny (model X.prog X.w) X.A (subscriptTail value slice v u) (EP X pins σ Q) X.xe s
def MtR (X:Cx) (id:String) (r:V->List V->Hp->VK->Prop):Prop :=
 ∀ (pins:List (Addr×Obj)) (s:Shared) (σ:St) (H:Hp) (x:V) (xs:List V) (v:Value) (us:List Value) (Q:VK),Inv X pins σ H s->RelV x v->Vals xs us->r x xs H Q ->
  wpAny (model X.prog X.w) X.A (call (.builtin id) (v::us)) (EP X pins σ Q) X.xe s
section
variable {X:Cx} {a b:Expr} {ta tb:TE} {pos:Pos}
theorem yd8 {r:R2} (hr:IxR X r) (ha:PE X a ta) (hb:PE X b tb) (hs:yaW b):PE X (.Subscript a b pos) (tOp r ta tb):=by
 intro pins s σ H Q I h;exact Subscript_ (jd4 ha hb I h λv u s2 x y H2 I2 rx ry q=>hr a b pins s2 σ H2 x y v u Q I2 rx ry q (hs _ _))
def yew (K:Frag):R2:=λx y H Q=>∃ p xs i v,x=.ref p/\y=.int i/\SqL K H p xs/\atI xs i=some v/\Q v H
def jew (K:Frag):R2:=λx y H Q=>∃ p xs i v,x=.ref p/\y=.int i/\SqT K H p xs/\atI xs i=some v/\Q v H
theorem ybA:IxR X (yew X.K):=by
 intro value slice pins s σ H x y v u Q I rx ry h hs;obtain ⟨p,xs,i,z,rfl,rfl,hq,he,q⟩:=h;cases rx;obtain ⟨t,rfl⟩:=ry;obtain ⟨its,r,pl,hz⟩:=I.list hq;obtain ⟨j,h1,h2,h3,h4,h5⟩:=qbA he;obtain ⟨w,ew,rw'⟩:=r.get h2;have hl:=r.length;have hn:=jal;have fin:EP X pins σ Q w s:=⟨z,H,I,rw',q⟩
 by_cases h0:0<=i
 ·have hj:i.toNat=j:=by
   rw [seqIndex_of h0 h5] at h1;exact wA h1
  exact item_listR pl.isList h0 (by omega) (by rw [hj];simpa using ew) fin hs
 ·have hj:(i+(its.toArray.size:Int)).toNat=j:=by
   rw [seqIndex_neg (by omega) h4] at h1;rw [vh,<-hl];exact wA h1
  exact subscriptTail_builtinR (x:=w) pl.isList.typeIs slot_list_getitem.lookup
   (wpAny_getItem_list_neg (Q:=λr s'=>r=w/\EP X pins σ Q r s') pl.isList (by omega) (by rw [vh]<;>omega) (by omega) (by rw [hj];simpa using ew) ⟨rfl,fin⟩) hs
theorem zdv:IxR X (jew X.K):=by
 intro value slice pins s σ H x y v u Q I rx ry h hs;obtain ⟨p,xs,i,z,rfl,rfl,hq,he,q⟩:=h;cases rx;obtain ⟨t,rfl⟩:=ry;obtain ⟨its,r,pl,hz⟩:=I.tuple hq;obtain ⟨j,h1,h2,h3,h4,h5⟩:=qbA he;obtain ⟨w,ew,rw'⟩:=r.get h2;have hl:=r.length;have hn:=jal;have fin:EP X pins σ Q w s:=⟨z,H,I,rw',q⟩
 exact subscriptTail_builtinR (x:=w) pl.typeIs slot_tuple_getitem.lookup
  (getItem_tuple (j:=j) (Q:=λr s'=>r=w/\EP X pins σ Q r s') pl (by omega) (by omega) (by rw [vh,<-hl];exact h1) (by simpa using ew) ⟨rfl,fin⟩) hs
theorem qbp (its:List Value) (n j:Nat) (u:Value):Obj.mapSeq (·.setIfInBounds j u) { cls:=.type "list",data:=.seq its.toArray n }={ cls:=.type "list",data:=.seq (its.set j u).toArray n }:=by
 simp [Obj.mapSeq]
theorem Inv.lst {pins:List (Addr×Obj)} {σ:St} {H:Hp} {s:Shared} {p:Addr} {xs:List V} (I:Inv X pins σ H s) (h:H p=some (.lst xs)) :
  ∃ (its:List Value) (n:Nat),Vals xs its/\s.heap.get? p=some { cls:=.type "list",data:=.seq its.toArray n }/\xs.length<=sizeLine:=by
 obtain ⟨z,its,n,r,e⟩:=I.hok p _ h;exact ⟨its,n,r,e,z⟩
theorem Inv.lstUpd {pins:List (Addr×Obj)} {σ:St} {H:Hp} {s:Shared} {p:Addr} {xs ys:List V} {its its':List Value} {n n':Nat} {f:Obj->Obj} (I:Inv X pins σ H s) (h:H p=some (.lst xs))
  (ho:s.heap.get? p=some { cls:=.type "list",data:=.seq its.toArray n }) (hf:f { cls:=.type "list",data:=.seq its.toArray n }={ cls:=.type "list",data:=.seq its'.toArray n' }) (r:Vals ys its') (hz:ys.length<=sizeLine) (t:Nat) :
  Inv X pins σ (upd H p (.lst ys)) { s with heap:=s.heap.update p f,toks:=t }:=by
 have e:(s.heap.update p f).get? p=some { cls:=.type "list",data:=.seq its'.toArray n' }:=by
  rw [Heap.get?_update_self f ho (by rw [hf]<;>rfl),hf]
 refine I.write (x:=p) (e:=p) (by rw [h];trivial) (.inl rfl) (λb u hb q=>(Heap.get?_update_other _ _ (Ne.symm hb)).trans q) ⟨_,e⟩ ?_;exact ⟨hz,its',n',r,e⟩
def rSetL:V->V->V->Hp->(Hp->Prop)->Prop:=λo i v H Q=>∃ p xs k j,o=.ref p/\i=.int k/\H p=some (.lst xs)/\ixN xs.length k=some j/\Q (upd H p (.lst (xs.set j v)))
theorem set_list:jd3 X rSetL:=by
 intro pins s σ H o i v ov iv u Q I ro ri rv h;obtain ⟨p,xs,k,j,rfl,rfl,hp,hj,q⟩:=h;cases ro;obtain ⟨t,rfl⟩:=ri;obtain ⟨its,n,r,ho,hz⟩:=I.lst hp;obtain ⟨h1,h2,h3,h4⟩:=zbA hj;have hl:=r.length;have hn:=jal
 have I':Inv X pins σ (upd H p (.lst (xs.set j v))) { s with heap:=s.heap.update p (Obj.mapSeq (·.setIfInBounds j u)) } :=
  I.lstUpd hp ho (qbp its n j u) (r.set rv j) (by rw [List.length_set];exact hz) s.toks
 by_cases h0:0<=k
 ·have hk:k.toNat=j:=by
   rw [seqIndex_of h0 h4] at h1;exact wA h1
  exact PySem.W.ki_setAt ho h0 (by omega) (by rw [vh,<-hl];exact h4) (by rw [hk];exact ⟨_,I',q⟩)
 ·have hk:(k+(its.toArray.size:Int)).toNat=j:=by
   rw [seqIndex_neg (by omega) h3] at h1;rw [vh,<-hl];exact wA h1
  exact PySem.W.ki_setBack ho (by omega) (by rw [vh,<-hl];exact h3) (by omega) (by rw [hk];exact ⟨_,I',q⟩)
theorem yaH (lo hi:Option Int) (n:Nat):(sliceBounds lo hi none n).1=((HT.sIx n 0 lo:Nat):Int)/\(sliceBounds lo hi none n).2.1=((HT.sIx n n hi:Nat):Int)/\(sliceBounds lo hi none n).2.2=1:=by
 refine ⟨?_,?_,rfl⟩
 ·cases lo with
  | none=>simp [sliceBounds,HT.sIx]
  | some i =>
   simp only [sliceBounds,HT.sIx,Option.getD_none,show (1:Int)>0 by decide,if_true]
   by_cases h:i<0
   ·simp only [h,if_true]<;>omega
   ·simp only [h,if_false]<;>omega
 ·cases hi with
  | none=>simp [sliceBounds,HT.sIx]
  | some i =>
   simp only [sliceBounds,HT.sIx,Option.getD_none,show (1:Int)>0 by decide,if_true]
   by_cases h:i<0
   ·simp only [h,if_true]<;>omega
   ·simp only [h,if_false]<;>omega
theorem yau (its:List Value) (lo hi:Option Int):slicePick its.toArray lo hi none=((its.drop (HT.sIx its.length 0 lo)).take (HT.sIx its.length its.length hi-HT.sIx its.length 0 lo)).toArray:=by
 obtain ⟨h1,h2,h3⟩:=yaH lo hi its.toArray.size;unfold slicePick;rw [h1,h2,h3];simp only [sliceRange_one,pick_run,vh]<;>rfl
def zex (K:Frag):V->Option Int->Option Int->Hp->VK->Prop:=λx lo hi H Q=>∃ a xs,x=.ref a/\SqL K H a xs/\∀ p,H p=none->Q (.ref p) (upd H p (.lst (jb8 xs lo hi)))
theorem qcR:SlR X (zex X.K):=by
 intro pins s σ H x v vl vu lo hi sl Q I rx hs pl pu h;obtain ⟨a,xs,rfl,hx,q⟩:=h;cases rx;obtain ⟨its,r,ht,hz⟩:=I.list hx;have hlen:=r.length;refine ⟨"list",_,slot_list_getitem.lookup,ht.isList.typeIs,?_⟩;refine wpAny_getItem_list_slice ht.isList hs pl pu .none (by simp) ?_ (by rw [vh]<;>omega);rw [yau,<-hlen];refine ⟨.ref s.heap.objs.size,_,I.laid (t':=s.toks) (o:=.lst (jb8 xs lo hi)) (λb ob q=>wj _ q) (wB _) ?_,rfl,q _ (I.hok.fresh (wB _))⟩;exact ⟨wQ (qaa xs lo hi) hz,_,0,(r.drop (HT.sIx xs.length 0 lo)).take (HT.sIx xs.length xs.length hi-HT.sIx xs.length 0 lo),wt _ rfl⟩
theorem jaH:qw X (.builtin "len") (λxs H Q=>∃ p ys,xs=[.ref p]/\(SqL X.K H p ys\/SqT X.K H p ys)/\Q (.int ys.length) H):=by
 intro pins s σ H xs us Q I r h;obtain ⟨p,ys,rfl,hq,q⟩:=h;obtain ⟨u,rfl,rx⟩:=vals1 r;cases rx;have hn:=jal;rcases hq with hq | hq
 ·obtain ⟨its,r',pl,hz⟩:=I.list hq;have hlen:=r'.length;exact Calls.call_len_list pl.isList (by simp only [vh]<;>omega) ⟨.int ys.length,H,I.tok _,⟨s.toks+1,by rw [vh,hlen]⟩,q⟩
 ·obtain ⟨its,r',pl,hz⟩:=I.tuple hq;have hlen:=r'.length;exact len_tuple pl (by simp only [vh]<;>omega) ⟨.int ys.length,H,I.tok _,⟨s.toks+1,by rw [vh,hlen]⟩,q⟩
theorem zaI:qw X (.builtin "len") (λxs H Q=>∃ z,xs=[.str z]/\z.length<=sizeLine/\Q (.int z.length) H):=by
 intro pins s σ H xs us Q I r h;obtain ⟨z,rfl,hz,q⟩:=h;obtain ⟨u,rfl,t,rfl⟩:=vals1 r;have hn:=jal;exact len_str (by omega) ⟨.int z.length,H,I.tok _,⟨_,rfl⟩,q⟩
theorem qaI:qw X (.type "list") (λxs H Q=>∃ p ys,xs=[.ref p]/\(SqL X.K H p ys\/SqT X.K H p ys)/\∀ l,H l=none->Q (.ref l) (upd H l (.lst ys))):=by
 intro pins s σ H xs us Q I r h;obtain ⟨p,ys,rfl,hq,q⟩:=h;obtain ⟨u,rfl,rx⟩:=vals1 r;cases rx
 have fin:∀ (its:List Value),Vals ys its->ys.length<=sizeLine->∀ (h':Heap) (c':Nat),(∀ b o',s.heap.get? b=some o'->h'.get? b=some o') ->
   h'.get? s.heap.objs.size=some { cls:=.type "list",dict:=none,data:=.seq its.toArray c',slots:=#[] }->EP X pins σ Q (.ref s.heap.objs.size) { s with heap:=h' }:=λits r' hz h' c' kp e =>
  ⟨.ref s.heap.objs.size,_,I.laid (t':=s.toks) kp (wB _) (show ObjOk X.prog X.w _ h' _ (.lst ys) from ⟨hz,its,c',r',e⟩),rfl,q _ (I.hok.fresh (wB _))⟩
 rcases hq with hq | hq
 ·obtain ⟨its,r',pl,hz⟩:=I.list hq;have hlen:=r'.length;obtain ⟨o,ho,hc,n,hd⟩:=pl.isList;exact call_list_seq p (.inl rfl) ho hc hd (λh' c' kp e=>fin its r' hz h' c' kp e) (by simp only [vh]<;>omega)
 ·obtain ⟨its,r',pl,hz⟩:=I.tuple hq;have hlen:=r'.length;obtain ⟨o,ho,hc,n,hd⟩:=pl;exact call_list_seq p (.inr rfl) ho hc hd (λh' c' kp e=>fin its r' hz h' c' kp e) (by simp only [vh]<;>omega)
theorem jO:qw X (.type "tuple") (λxs H Q=>∃ p ys,xs=[.ref p]/\((SqL X.K H p ys/\∀ l,H l=none->Q (.ref l) (upd H l (.tup ys)))\/(SqT X.K H p ys/\Q (.ref p) H))):=by
 intro pins s σ H xs us Q I r h;obtain ⟨p,ys,rfl,h⟩:=h;obtain ⟨u,rfl,rx⟩:=vals1 r;cases rx;rcases h with ⟨hq,q⟩ | ⟨hq,q⟩
 ·obtain ⟨its,r',pl,hz⟩:=I.list hq;have hlen:=r'.length;refine call_tuple_list pl.isList (λh' kp=>?_) (by simp only [vh]<;>omega);have I1:Inv X pins σ H { s with heap:=h' }:=I.kept (t':=s.toks) kp
  have I2:Inv X pins σ (upd H h'.objs.size (.tup ys)) { s with heap:=h'.push { cls:=.type "tuple",data:=.seq its.toArray } } :=
   I1.laid (t':=s.toks) (λb o e=>wj _ e) (wB _) (show ObjOk X.prog X.w _ _ _ (.tup ys) from ⟨hz,its,r',IsTupN.new _ _⟩)
  exact ⟨.ref h'.objs.size,_,I2,rfl,q _ (I1.hok.fresh (wB _))⟩
 ·obtain ⟨its,r',pl,hz⟩:=I.tuple hq;exact call_tuple_same pl ⟨.ref p,H,I,rfl,q⟩
def tyV (K:Frag) (T:String) (x:V) (H:Hp):Prop:=match x with
 | .str _=>T="str"
 | .int _=>T="int"
 | .ref p=>(T="list"/\∃ xs,SqL K H p xs)\/(T="tuple"/\∃ o,K.lookup p=some o/\o.cls=.type "tuple"/\o.dict=none) \/
  (T="dict"/\((∃ kvs,H p=some (.dK kvs))\/∃ kvs,H p=some (.dT kvs)))\/(T="set"/\∃ S n,H p=some (.set S n))
 | _=>False
theorem qdv {pins:List (Addr×Obj)} {σ:St} {H:Hp} {s:Shared} {T:String} {x:V} {v:Value} (I:Inv X pins σ H s) (r:RelV x v) (ty:tyV X.K T x H) :
  s.TypeIs v T/\∀ a,v=.ref a->∃ ob,s.heap.get? a=some ob/\ob.dict=none:=by
 cases x with
 | str z =>
  obtain ⟨t,rfl⟩:=r;cases (show T="str" from ty);exact ⟨typeIs_str s z t,λ_ e=>nomatch e⟩
 | int i =>
  obtain ⟨t,rfl⟩:=r;cases (show T="int" from ty);exact ⟨typeIs_int s i t,λ_ e=>nomatch e⟩
 | ref p =>
  cases r;rcases ty with ⟨rfl,xs,hq⟩ | ⟨rfl,o,hk,hc,hd⟩ | ⟨rfl,hk⟩ | ⟨rfl,S,n,hk⟩
  ·obtain ⟨its,_,pl,_⟩:=I.list hq;refine ⟨pl.isList.typeIs,λa e=>?_⟩;cases e;obtain ⟨o,n,e,c,hd,_⟩:=pl;exact ⟨o,e,hd⟩
  ·refine ⟨⟨o,I.kIn p o hk,hc⟩,λa e=>?_⟩;cases e;exact ⟨o,I.kIn _ o hk,hd⟩
  ·have z:∃ o,s.heap.get? p=some o/\o.ExactDict:=by
    rcases hk with ⟨kvs,hk⟩ | ⟨kvs,hk⟩
    ·obtain ⟨_,_,_,_,o,_,_,e,ex,_⟩:=I.hok p _ hk;exact ⟨o,e,ex⟩
    ·obtain ⟨_,_,_,_,o,_,_,e,ex,_⟩:=I.hok p _ hk;exact ⟨o,e,ex⟩
   obtain ⟨o,e,ex⟩:=z;refine ⟨⟨o,e,ex.1⟩,λa e2=>?_⟩;cases e2;exact ⟨o,e,ex.2.1⟩
  ·obtain ⟨o,_,_,_,e,ex,_⟩:=I.hok p _ hk;refine ⟨⟨o,e,ex.1⟩,λa e2=>?_⟩;cases e2;exact ⟨o,e,ex.2.1⟩
 | _=>exact False.elim ty
def tBM (K:Frag) (T:String) (r:V->List V->Hp->VK->Prop) (to:TE) (t:TA):TE:=λσ H Q=>to σ H λx H1=>tyV K T x H1/\t σ H1 λxs H2=>r x xs H2 Q
variable {o e:Expr} {es:List Expr} {to:TE} {t:TA} {name:Str} {apos cpos:Pos} {T id:String} {r:V->List V->Hp->VK->Prop}
theorem jbA (pa:PlainAttrs T) (slot:Slot T name id) (hty:typeOf (.builtin id)=pure (.type "method_descriptor")) (hm:MtR X id r) (ho:PE X o to) (ha:PA X (e::es) t)
  (hbase:attributeBase o name X.env (eval o X.env)=eval o X.env:=by rfl)
  (hfew:((backTo cpos (starEach (e::es) X.env)).all (λx=>!x.1)&&(backToKw cpos (keywordEach [] X.env)).all (λx=>x.1.isSome)
   && decide ((e::es).length+([]:List Keyword).length+(if ([]:List Keyword).isEmpty then 0 else 1)<30))=true:=by rfl)
  (hline:(apos.endLine==cpos.line)=true:=by rfl) (hs:starEach (e::es) X.env=(false,eval e X.env)::starEach es X.env:=by rfl) (hplain:(backTo cpos (starEach es X.env)).any (·.1)=false:=by rfl) :
  PE X (.Call (.Attribute o name apos) (e::es) [] cpos) (tBM X.K T r to t):=by
 intro pins s σ H Q I h;refine wpAny_Call_method_late hbase hfew hline rfl (thn (ho pins s σ H _ I h) λv s1 ⟨x,H1,I1,r1,ty,q1⟩=>?_);obtain ⟨h1,h2⟩:=qdv I1 r1 ty;refine ⟨T,id,pa,slot,hty,h1,h2,?_⟩;have hA:=ha cpos pins s1 σ H1 _ I1 q1;rw [hs] at hA ⊢;refine Calls.callWith_builtin (by show (false||(backTo cpos (starEach es X.env)).any (·.1))=false;rw [hplain]<;>rfl) (Calls.evalArgs_plain ?_);exact thn hA λus s2 ⟨vs,H2,I2,r2,q2⟩=>hm pins s2 σ H2 x vs v us Q I2 r1 r2 q2
end
def MtM (X:Cx) (id:String) (r:V->List V->Hp->VK->Prop):Prop :=
 ∀ (pins:List (Addr×Obj)) (s:Shared) (σ:St) (H:Hp) (x:V) (xs:List V) (v:Value) (us:List Value) (Q:VK),Inv X pins σ H s->RelV x v->Vals xs us->r x xs H Q ->
  wpAny (model X.prog X.w) X.A (call (.builtin id) (v::us)) (EP X pins σ Q) X.xe s
theorem Vals.one:∀ {x:V} {us:List Value},Vals [x] us->∃ u,us=[u]/\RelV x u
 | _,_,.cons r .nil=>⟨_,rfl,r⟩
theorem Vals.two:∀ {x y:V} {us:List Value},Vals [x,y] us->∃ u v,us=[u,v]/\RelV x u/\RelV y v
 | _,_,_,.cons r (.cons q .nil)=>⟨_,_,rfl,r,q⟩
theorem Vals.rep {xs:List V} {us:List Value} (h:Vals xs us):∀ k:Nat,Vals (List.replicate k xs).flatten (List.replicate k us).flatten
 | 0=>.nil
 | k+1=>by
  rw [List.replicate_succ,List.replicate_succ,List.flatten_cons,List.flatten_cons];exact Vals.append h (Vals.rep h k)
theorem foldl_rep (its:List Value):∀ (k:Nat) (acc:List Value),
  List.foldl (λx1 x2=>x1++x2) acc.toArray (List.replicate k its.toArray)=(acc++(List.replicate k its).flatten).toArray
 | 0,acc=>by simp
 | k+1,acc=>by
  have e:acc.toArray++its.toArray=(acc++its).toArray:=by simp
  have e2:(acc++its)++(List.replicate k its).flatten=acc++(List.replicate (k+1) its).flatten:=by
   rw [List.replicate_succ,List.flatten_cons,List.append_assoc]
  rw [<-e2,<-foldl_rep its k (acc++its),<-e,List.replicate_succ,List.foldl_cons]
section
variable {X:Cx} {pins:List (Addr×Obj)} {σ:St} {H:Hp} {s:Shared} {l b:Addr} {xs ys zs:List V}
theorem Inv.lset {its its':List Value} {n:Nat} {f:Array Value->Array Value} {t':Nat} (I:Inv X pins σ H s) (hH:H l=some (.lst xs))
  (e:s.heap.get? l=some { cls:=.type "list",data:=.seq its.toArray n }) (hf:f its.toArray=its'.toArray) (hv:Vals ys its') (hz:ys.length<=sizeLine) :
  Inv X pins σ (upd H l (.lst ys)) { s with heap:=s.heap.update l (Obj.mapSeq f),toks:=t' }:=by
 have q:=PySem.IsL.update e f;rw [hf] at q;refine I.write (x:=l) (e:=l) (by rw [hH];exact trivial) (.inl rfl) (λb' u hb hu=>(Heap.get?_update_other s.heap (Obj.mapSeq f) (Ne.symm hb)).trans hu) ⟨_,q⟩ ?_;exact ⟨hz,its',_,hv,q⟩
theorem Inv.lnew {its:List Value} {t':Nat} (I:Inv X pins σ H s) (hv:Vals ys its) (hz:ys.length<=sizeLine) :
  Inv X pins σ (upd H s.heap.objs.size (.lst ys)) { s with heap:=s.heap.push { cls:=.type "list",data:=.seq its.toArray },toks:=t' } :=
 I.laid (λ_ _ q=>wj _ q) (wB _) ⟨hz,its,0,hv,wt _ rfl⟩
theorem Inv.fresh (I:Inv X pins σ H s):H s.heap.objs.size=none:=I.hok.fresh (wB _)
theorem Inv.lstM (I:Inv X pins σ H s) (hH:H l=some (.lst xs)):xs.length<=sizeLine/\∃ (its:List Value) (n:Nat),Vals xs its/\xs.length=its.length/\s.heap.get? l=some { cls:=.type "list",data:=.seq its.toArray n }:=by
 obtain ⟨z,its,n,r,e⟩:=I.hok l _ hH;exact ⟨z,its,n,r,r.length,e⟩
theorem jau {n:Nat} (h:n<=sizeLine):Builtin.List.listTooLong n=false:=by
 unfold Builtin.List.listTooLong;exact vk (by omega)
end
section
variable {X:Cx}
def rAppend:V->List V->Hp->VK->Prop:=λx vs H Q=>∃ l xs y,x=.ref l/\vs=[y]/\H l=some (.lst xs)/\xs.length<sizeLine/\Q .non (upd H l (.lst (xs++[y])))
theorem yaa:MtM X "list.append" rAppend:=by
 intro pins s σ H x vs v us Q I rx rv h;obtain ⟨l,xs,y,rfl,rfl,hH,hz,q⟩:=h;cases rx;obtain ⟨u,rfl,ru⟩:=rv.one;obtain ⟨z,its,n,r,hl,e⟩:=I.lstM hH;refine call_meets F.slot_list_append ⟨_,e,rfl⟩ F.entry_list_append (F.args_list_append_2 _ _) (PySem.list_append l its.toArray n u (by rw [vh];omega)) ⟨e,?_⟩;refine ⟨.non,_,I.lset (its':=its++[u]) hH e (by simp) (r.append (.cons ru .nil)) ?_,rfl,q⟩;rw [wU,List.length_singleton];omega
def rExtend:V->List V->Hp->VK->Prop:=λx vs H Q=>∃ l b xs zs,x=.ref l/\vs=[.ref b]/\H l=some (.lst xs)/\H b=some (.lst zs)/\xs.length+zs.length<=sizeLine/\Q .non (upd H l (.lst (xs++zs)))
theorem yaI:MtM X "list.extend" rExtend:=by
 intro pins s σ H x vs v us Q I rx rv h;obtain ⟨l,b,xs,zs,rfl,rfl,hH,hB,hz,q⟩:=h;cases rx;obtain ⟨u,rfl,ru⟩:=rv.one;cases ru;obtain ⟨z,its,n,r,hl,e⟩:=I.lstM hH;obtain ⟨z2,its2,n2,r2,hl2,e2⟩:=I.lstM hB;have hsz:its.toArray.size+its2.toArray.size<=sizeLine:=by rw [vh,vh];omega
 have hlong:¬ (!its.toArray.isEmpty&&Builtin.List.listTooLong (its.toArray.size+its2.toArray.size))=true:=by
  rw [jau hsz,Bool.and_false];exact wz
 refine call_meets F.slot_list_extend ⟨_,e,rfl⟩ F.entry_list_extend (F.args_list_extend_2 _ _)
  (AutoSeq1.list_extend_list_list_0 l its.toArray n b its2.toArray n2 hlong (by rw [vh];omega) (by omega)) ⟨e,e2,?_⟩
 refine ⟨.non,_,I.lset (its':=its++its2) hH e (by simp) (r.append r2) ?_,rfl,q⟩;rw [wU];omega
def rCat:R2:=λx y H Q=>∃ l b xs zs,x=.ref l/\y=.ref b/\H l=some (.lst xs)/\H b=some (.lst zs)/\xs.length+zs.length<=sizeLine/\∀ p,H p=none->Q (.ref p) (upd H p (.lst (xs++zs)))
theorem ydv:OpR X (binaryOp .Add) rCat:=by
 intro pins s σ H x y v u Q I rx ry h;obtain ⟨l,b,xs,zs,rfl,rfl,hH,hB,hz,q⟩:=h;cases rx;cases ry;obtain ⟨z,its,n,r,hl,e⟩:=I.lstM hH;obtain ⟨z2,its2,n2,r2,hl2,e2⟩:=I.lstM hB;refine PySem.P.add_list e e2 ?_ (by rw [vh,vh];omega);have ea:its.toArray++its2.toArray=(its++its2).toArray:=by simp
 rw [ea];exact ⟨.ref _,_,I.lnew (t':=s.toks) (r.append r2) (by rw [wU];omega),rfl,q _ I.fresh⟩
def rRep:R2:=λx y H Q=>∃ l k xs,x=.ref l/\y=.int k/\H l=some (.lst xs)/\-(2^63)<=k/\k<2^63/\xs.length*k.toNat<=sizeLine /\
 ∀ p,H p=none->Q (.ref p) (upd H p (.lst (List.replicate k.toNat xs).flatten))
theorem len_rep {α:Type} (xs:List α) (k:Nat):(List.replicate k xs).flatten.length=k*xs.length:=by
 induction k with
 | zero=>simp
 | succ k ih=>rw [List.replicate_succ,List.flatten_cons,wU,ih,Nat.succ_mul,Nat.add_comm]
theorem jdv:OpR X (binaryOp .Mult) rRep:=by
 intro pins s σ H x y v u Q I rx ry h;obtain ⟨l,k,xs,rfl,rfl,hH,h1,h2,hz,q⟩:=h;cases rx;obtain ⟨t,rfl⟩:=ry;obtain ⟨z,its,n,r,hl,e⟩:=I.lstM hH;have hlen:its.toArray.size*k.toNat<=sizeLine:=by rw [vh,<-hl];exact hz
 have hcap:¬ its.toArray.size*k.toNat>(2^63-1)/8:=by
  have:(sizeLine:Nat)<=(2^63-1)/8:=by decide
  omega
 have hfit:¬ (!Builtin.List.listFitsIndex k)=true:=by
  rw [fitsIndex_both h1 h2];exact wz
 have hlong:¬ Builtin.List.listTooLong (its.toArray.size*k.toNat)=true:=by
  rw [jau hlen];exact wz
 have hnew:List.foldl (λx1 x2=>x1++x2) #[] (List.replicate (if its.toArray.isEmpty=true then 0 else k.toNat) its.toArray)=(List.replicate k.toNat its).flatten.toArray:=by
  have f0:∀ m:Nat,List.foldl (λx1 x2=>x1++x2) #[] (List.replicate m its.toArray)=(List.replicate m its).flatten.toArray:=λm=>by
   have:=foldl_rep its m []
   rw [List.nil_append] at this;exact this
  rw [f0];cases its with
  | nil=>simp
  | cons a r'=>rw [if_neg (by simp)]
 refine wpAny_binaryOp_repeat_ref (T := "list") (U := "int") (by decide) ⟨_, e, rfl⟩ (λs' => typeIs_int s' k t) noFill_list_mul F.fills_int_mul F.slot_int_rmul repeat_list F.slot_int_index.lookup
  (call_meets F.slot_int_rmul (typeIs_int s k t) F.entry_int_rmul (F.args_int_rmul_2 _ _) (int___rmul___int_list k t l its.toArray n)
   ⟨e,rfl,⟨_,e,rfl⟩,call_meets F.slot_list_mul ⟨_,e,rfl⟩ F.entry_list_mul (F.args_list_mul_2 _ _) (AutoListH.list___mul___list_int_3 l its.toArray n k t hfit hcap hlong) ⟨e,?_⟩⟩)
 rw [hnew];exact ⟨.ref _,_,I.lnew (t':=s.toks) (r.rep k.toNat) (by rw [len_rep,Nat.mul_comm];exact hz),rfl,q _ I.fresh⟩
end
end L2
namespace Att
open PySem PySem.W PySem.Calls PyProof.Rows
theorem jaa {P:Params} {h:Heap}:∀ (ns:List Int) (vs:List Value),WellAll P h vs (ns.map WData.int)->IntsAre vs ns:=by
 intro ns
 induction ns with
 | nil =>
  intro vs w;rw [List.map_nil] at w;cases w;exact .nil
 | cons n ns ih =>
  intro vs w;rw [List.map_cons] at w;cases w with
  | cons a b =>
   cases a;exact .cons _ _ (ih _ b)
theorem zbB {l:OpenLaw} {n:Nat} (hn:l.most=some n) {P:Params} {h:Heap} {args:List WData} {vals:List Value}
  (hpre:l.row.toRowW.claim.pre args=true) (hwl:WellAll P h vals args) :
  ∃ a vs ns,vals=[Value.ref a]/\args=[WData.list (ns.map WData.int)]/\h.get? a=some { cls:=.type "list",data:=.seq vs.toArray }/\IntsAre vs ns/\ns.length<=n:=by
 have hsh:WShape.hasAll [] args [.list .int]=true:=(pre_splitW hpre).1;have hc:l.pre.holds [] { args:=args }=true:=(pre_splitW hpre).2;obtain ⟨d,r,rfl,h1,h2⟩:=hasAllW_cons hsh;obtain rfl:=hasAllW_nil h2;obtain ⟨xs,rfl,h3⟩:=hasW_list h1;obtain ⟨ns,rfl⟩:=items_int h3
 have hlen:ns.length<=n:=by
  unfold OpenLaw.pre at hc
  have h4:(WTm.not (.lt (.lit (.int (n:Int))) (.len (.arg 0)))).holds [] { args:=[.list (ns.map .int)] }=true:=by
   have h4:=(holds_andW hc).1;rw [hn] at h4;exact h4
  have h5:=condW_of h4 (w_not (w_lt w_lit (w_len_list (w_arg rfl))));rw [wC] at h5;refine Nat.le_of_not_lt λq=>?_
  have q':(n:Int)<((ns.length:Nat):Int):=by omega
  first
   | (rw [decide_eq_true q'] at h5;exact absurd h5 (by decide))
   | (simp at h5;omega)
 cases hwl with
 | cons w1 w2 =>
  cases w2;cases w1 with
  | list ho hall=>exact ⟨_,_,ns,rfl,rfl,ho,jaa ns _ hall,hlen⟩
theorem qbB (l:OpenLaw) (args:List WData):l.row.toRowW.claim.post args (.bool true) args=true :=
 postW_of (r:=l.row.toRowW) (X:=(true==true))
  (show WShape.has [] (.bool true) .bool=true by first | rfl | decide | simp [WShape.has,WShape.arms,WShape.armsAll])
  (show (WTm.eq .res (.lit (.bool true))).value [] { args:=args,res:=some (.bool true),after:=args }=some (.bool (true==true)) from w_eq_bool (w_res rfl) w_lit) rfl
theorem attach_call {l:OpenLaw} {n:Nat} {q:Program} {loose:List Str} {XP:(Str->Option Value)->Heap->Prop} {YP:World->Heap->Prop} {d:DefRec}
  (hn:l.most=some n) (hdf:d.params.defaults=[])
  (call:∀ (w:World) (s₀ s₁:Shared) (mg mb:Str->Option Value) (fa:Addr) (o:Obj) (pm cd doc:Value) (a:Addr) (vs:List Value) (ns:List Int),
   Ground q loose [] XP w s₀ mg mb s₁.heap->YP w s₁.heap ->
   s₁.heap.get? fa=some o->o.data=.func (docDef d.name d.params d.body d.scope pm cd doc)->s₁.heap.CodeRec cd d.name->mg d.name=some (.ref fa) ->
   s₁.heap.get? a=some { cls:=.type "list",data:=.seq vs.toArray }->IntsAre vs ns->ns.length<=n->s₁.gens=#[] ->
   codeAny (model l.prog w) callerA (.call (.ref fa) ⟨[.ref a],[]⟩) (λr s'=>r=.ok (.ret (.bool true))/\OldK s₁.heap s'.heap/\s'.os=s₁.os/\AllBare s'.gens) s₁) :
  WalkO q loose XP YP l.row.toRowW d [] (λf vs=>PySem.call f vs):=by
 intro w s₀ s₁ mg mb G Y fa o pm cd doc dV kV ho hd hcd hD hmg hg args vals as hpre hlay hrd hwl hlo;obtain rfl:dV=.none:=Dflts.none hD hdf;obtain rfl:kV=.none:=Dflts.noKw hD;obtain ⟨a,vs,ns,rfl,rfl,hobj,hints,hlen⟩:=zbB hn hpre hwl;refine enter_call (codeAny_mono (call w s₀ s₁ mg mb fa o pm cd doc a vs ns G Y ho (fd_plain hd) hcd hmg hobj hints hlen hg) λr s' hq=>?_);obtain ⟨rfl,h2,h3,h4⟩:=hq;exact ⟨.inl ⟨.bool true,.bool true,[],rfl,λ_=>rfl,.bool true,qbB l _,λ_=>⟨List.Pairwise.nil,λ_ hm=>(nomatch hm)⟩⟩,h2,h3,h4⟩
end Att
namespace L2
open PySem PySem.Spec PyProof.Rows
theorem qF:∀ {vs:List Value} {ns:List Int},IntsAre vs ns->Vals (ns.map V.int) vs
 | _,_,.nil=>.nil
 | _,_,.cons n t h=>.cons ⟨t,rfl⟩ (qF h)
def zdw (H:Hp):Prop:=∀ b,H b=none\/(∃ o xs,H b=some (.frz o (.lst xs)))\/∃ p q,H b=some (.tbl p q)
theorem qcx {α:Type} {b:Addr} {y:α}:∀ {l:List (Addr×α)},l.lookup b=some y->(b,y)∈l
 | [],e=>by cases e
 | (c,x)::r,e=>by
  rw [List.lookup_cons] at e;cases hb:b==c with
  | true=>rw [hb] at e;cases e;rw [eq_of_beq hb];exact .head _
  | false=>rw [hb] at e;exact .tail _ (qcx e)
theorem qcb {P:Program} {w:World} {K:Frag} {mg mb:Str->Option Value} {CX:CXT} {k:Nat} {fa a:Addr} {fd:FuncData} {x:Str} {sp:Sp} {s₁:Shared} {vs:List Value} {ns:List Int} {tabs:List (Addr×Pos×Str)}
  (hbm:∃ bm ob,mg "__builtins__"=some (.ref bm)/\bm≠builtinsNs/\s₁.heap.get? bm=some ob/\ob.cls=.type "module"/\ob.dict=some builtinsNs/\ob.data=.plain) (hT:∀ x∈tabs,s₁.heap.get? x.1=some (PySem.W.tabObj #[])/\∃ c,PySem.W.CodeHd s₁.heap c x.1) (hnt:PySem.W.noTabs K=true) (hlk:∀ x∈tabs,tabs.lookup x.1=some x.2)
  (KX:K.In s₁.heap) (hns:s₁.heap.Ns mainGlobals mg) (hb:s₁.heap.Ns builtinsNs mb) (hbb:∀ x:Str,x≠"__name__"->mb x=bootBuiltins x) (hlim:s₁.heap.NoLimit) (hg:s₁.gens=#[])
  (ha:s₁.heap.get? a=some { cls:=.type "list",data:=.seq vs.toArray }) (hi:IntsAre vs ns) (hl:ns.length<=sizeLine) (hr:Room k callerA)
  (F:∀ base:Heap,K.In base->base.Ns mainGlobals mg->FnOk P w K mg base CX k fa fd [x] sp) (hbind:∀ (s:Shared) (u:Value),BindsTo s fd ⟨[u],[]⟩ [(x,u)])
  (hsp:∀ H:Hp,zdw H->SqL K H a (ns.map V.int)->(∀ x∈tabs,H x.1=some (.tbl x.2.1 x.2.2))->sp [.ref a] H (λv _=>v=.bl true) λ_ _ _=>False)
  (hCX:∀ H e s',CX [] H s₁ (λ_ _ _=>False) e s'->False) :
  codeAny (model P w) callerA (.call (.ref fa) ⟨[.ref a],[]⟩) (λr s'=>r=.ok (.ret (.bool true))/\OldK s₁.heap s'.heap/\s'.os=s₁.os/\AllBare s'.gens) s₁:=by
 have rv:=qF hi;have lenV:=hi.length
 have core:∀ H:Hp,zdw H->SqL K H a (ns.map V.int)->(∀ x∈tabs,H x.1=some (.tbl x.2.1 x.2.2))->HOk P w H s₁.heap->(∀ b,H b≠none->b=a\/∃ x∈tabs,b=x.1)->(H a≠none->K.lookup a=none) ->
   codeAny (model P w) callerA (.call (.ref fa) ⟨[.ref a],[]⟩) (λr s'=>r=.ok (.ret (.bool true))/\OldK s₁.heap s'.heap/\s'.os=s₁.os/\AllBare s'.gens) s₁:=by
  intro H hO hS hTt hok hA hK;have base_of:∀ {b:Addr} {o:Obj},s₁.heap.get? b=some o->H b=none->(yb9 s₁.heap H).get? b=some o:=λe n=>jb9 e n
  have noA:∀ {b:Addr} {o:Obj} {es:Array DictEntry} {ep:Nat},s₁.heap.get? b=some o->o.data=.dict es ep->H b=none:=λ{b o es ep} e d=>by
   cases q:H b with
   | none=>rfl
   | some u =>
    rcases hA b (by rw [q];simp) with e' | ⟨x,hx,e'⟩
    ·subst e';rw [ha] at e;cases e
     have d':Data.seq vs.toArray _=Data.dict es ep:=d;cases d'
    ·subst e';rw [(hT x hx).1] at e;cases e
     cases d
  have nsK:∀ {b:Addr} {m:Str->Option Value},s₁.heap.Ns b m->(yb9 s₁.heap H).Ns b m:=λ{b m} ⟨o,es,ep,e,d,r⟩=>⟨o,es,ep,base_of e (noA e d),d,r⟩
  have hKb : K.In (yb9 s₁.heap H) := λb o e => base_of (KX b o e) (by
   cases q:H b with
   | none=>rfl
   | some u =>
    rcases hA b (by rw [q];simp) with e' | ⟨x,hx,e'⟩
    ·subst e';rw [hK (by rw [q];simp)] at e;cases e
    ·subst e';have e2:=KX _ _ e;rw [(hT x hx).1] at e2;cases e2
     exact absurd (show false=true from List.all_eq_true.mp hnt (_,_) (PySem.W.mem_of_lookupK e)) wz)
  have hM : Mod K mg (yb9 s₁.heap H) := ⟨hKb, nsK hns, ⟨mb, nsK hb, hbb⟩, let ⟨mc, h1, h2⟩ := hlim; ⟨mc, nsK h1, h2⟩, by
   obtain ⟨bm,ob,b1,b2,b3,b4,b5⟩:=hbm;refine ⟨bm,ob,b1,b2,base_of b3 ?_,b4,b5⟩;cases q:H bm with
   | none=>rfl
   | some u =>
    rcases hA bm (by rw [q];simp) with e' | ⟨x,hx,e'⟩
    ·rw [e',ha] at b3;cases b3;injection b4 with h;exact absurd h (by decide)
    ·rw [e',(hT x hx).1] at b3;cases b3;cases b4⟩
  have e0:Env0 P w K mg (yb9 s₁.heap H) callerA [] s₁ H:=⟨rfl,hM,λb o e=>qcN e,Nat.le_of_eq (ybw _ _),trivial,λb hb=>absurd (show b∈([]:List Addr) from hb) (by simp),hok,.of_eq hg⟩;refine codeAny_mono ((F _ hKb (nsK hns)).run callerA [] s₁ H ⟨[.ref a],[]⟩ [.ref a] [.ref a] _ _ hr e0 (hbind s₁ (.ref a)) (.cons rfl .nil) (hsp H hO hS hTt)) λr s' h=>?_
  cases r with
  | error e=>exact (hCX H e s' h).elim
  | ok fl =>
   cases fl with
   | next=>exact False.elim h
   | brk=>exact False.elim h
   | cont=>exact False.elim h
   | ret u =>
    obtain ⟨v,H',os,bare,un,hok',r',q⟩:=h;have q':v=.bl true:=q;subst q';obtain rfl:u=Value.bool true:=r'
    have all:∀ b o,s₁.heap.get? b=some o->s'.heap.get? b=some o\/(PySem.isCodeTable s₁.heap b/\o=PySem.W.tabObj #[]/\∃ ps,s'.heap.get? b=some (PySem.W.tabObj ps)):=λb o e=>by
     cases q:H b with
     | none=>exact .inl (un.keep b o e q (by intro z;exact absurd (show b∈([]:List Addr) from z) (by simp)) (by simp))
     | some u =>
      rcases hO b with z | ⟨ob,xs,z⟩ | ⟨p,r,z⟩
      ·rw [q] at z;cases z
      ·have z2:=un.frzs b ob _ z;obtain ⟨e1,_⟩:=hok b _ z;obtain ⟨e2,_⟩:=hok' b _ z2;rw [e] at e1;cases e1
       exact .inl e2
      ·right
       obtain ⟨ps0,e1,_⟩:=hok b _ z;obtain ⟨ps,e2,_⟩:=hok' b _ (un.tbls b p r z);rcases hA b (by rw [q];simp) with e' | ⟨x,hx,e'⟩
       ·rw [e',ha] at e1;cases e1
       ·obtain ⟨h1,c,h2⟩:=hT x hx;rw [<-e'] at h1 h2;rw [e] at h1;exact ⟨(h2.tab (e.trans h1)).isCodeTable,wA h1,ps,e2⟩
    refine ⟨rfl,⟨λb o e=>?_,λb o e=>?_⟩,os,bare⟩
    ·rcases all b o e with z | ⟨h1,rfl,ps,h2⟩
     ·exact .inl z
     ·exact .inr (.inl ⟨h1,rfl,#[],ps,rfl,by rw [Array.empty_append];exact h2⟩)
    ·rcases all b o e with z | ⟨_,_,ps,h2⟩
     ·exact ⟨o,z⟩
     ·exact ⟨_,h2⟩
 have na:∀ x∈tabs,x.1≠a:=λx hx z=>by have:=(hT x hx).1;rw [z,ha] at this;cases this
 have tl:∀ {b:Addr} {y:Pos×Str},tabs.lookup b=some y->(b,y)∈tabs:=λ{b y} e=>qcx e
 have tok:∀ (H:Hp) (b:Addr) (y:Pos×Str),tabs.lookup b=some y->ObjOk P w H s₁.heap b (.tbl y.1 y.2):=λH b y e=>⟨#[],(hT _ (tl e)).1,trivial,λp cv z=>by cases z⟩
 cases hk:K.lookup a with
 | some o =>
  have e:=KX a o hk;rw [ha] at e;cases e;refine core (λb=>(tabs.lookup b).map λy=>.tbl y.1 y.2) (λb=>?_) (.inr ⟨_,vs.toArray,_,hk,rfl,rfl,rfl,by rw [vh,lenV];exact hl,by simpa using rv⟩) (λx hx=>?_) (λb u z=>?_) (λb z=>?_) λz=>?_
  ·cases q:tabs.lookup b with
   | none=>exact .inl (by dsimp only;rw [q];rfl)
   | some y=>exact .inr (.inr ⟨y.1,y.2,by dsimp only;rw [q];rfl⟩)
  ·show (tabs.lookup x.1).map _=_;rw [hlk x hx];rfl
  ·have z':(tabs.lookup b).map (λy=>HO.tbl y.1 y.2)=some u:=z;cases q:tabs.lookup b with
   | none=>rw [q] at z';cases z'
   | some y=>rw [q] at z';cases z';exact tok _ b y q
  ·have z':(tabs.lookup b).map (λy=>HO.tbl y.1 y.2)≠none:=z;cases q:tabs.lookup b with
   | none=>rw [q] at z';exact absurd rfl z'
   | some y=>exact .inr ⟨_,tl q,rfl⟩
  ·have z':(tabs.lookup a).map (λy=>HO.tbl y.1 y.2)≠none:=z;cases q:tabs.lookup a with
   | none=>rw [q] at z';exact absurd rfl z'
   | some y=>exact absurd rfl (na _ (tl q))
 | none =>
  refine core (λb=>if b=a then some (.frz { cls:=.type "list",data:=.seq vs.toArray } (.lst (ns.map V.int))) else (tabs.lookup b).map λy=>.tbl y.1 y.2) (λb=>?_) (.inl (.inr ⟨{ cls:=.type "list",data:=.seq vs.toArray },if_pos rfl⟩)) (λx hx=>?_) (λb u z=>?_) (λb z=>?_) λ_=>hk
  ·by_cases hb:b=a
   ·exact .inr (.inl ⟨_,_,if_pos hb⟩)
   ·cases q:tabs.lookup b with
    | none=>exact .inl (by dsimp only;rw [if_neg hb,q];rfl)
    | some y=>exact .inr (.inr ⟨y.1,y.2,by dsimp only;rw [if_neg hb,q];rfl⟩)
  ·show (if x.1=a then _ else _)=_;rw [if_neg (na x hx),hlk x hx];rfl
  ·by_cases hb:b=a
   ·have z':=(if_pos hb).symm.trans z;cases z';subst hb;exact ⟨ha,by rw [wC];exact hl,vs,_,rv,ha⟩
   ·have z':=(if_neg hb).symm.trans z;cases q:tabs.lookup b with
    | none=>rw [q] at z';cases z'
    | some y=>rw [q] at z';cases z';exact tok _ b y q
  ·by_cases hb:b=a
   ·exact .inl hb
   ·have z':(tabs.lookup b).map (λy=>HO.tbl y.1 y.2)≠none:=λw=>z ((if_neg hb).trans w)
    cases q:tabs.lookup b with
    | none=>rw [q] at z';exact absurd rfl z'
    | some y=>exact .inr ⟨_,tl q,rfl⟩
noncomputable abbrev KOf {K:Frag} {h:Heap} (_:K.In h):Frag:=K
theorem ycR {l:PySem.W.OpenLaw} {n k:Nat} {q:Program} {loose:List Str} {XP:(Str->Option Value)->Heap->Prop} {YP:World->Heap->Prop} {d:DefRec} {K:Params->Frag} {CX:World->CXT} {sp:World->Sp} {x:Str} {tabs:List (Addr×Pos×Str)}
  (hn:l.most=some n) (hn2:n<=sizeLine) (hdf:d.params.defaults=[]) (hr:Room k callerA)
  (hY:∀ (w:World) (h:Heap),YP w h->(K w.params).In h/\∀ x∈tabs,h.get? x.1=some (PySem.W.tabObj #[])) (hlk:∀ x∈tabs,tabs.lookup x.1=some x.2)
  (F:∀ (w:World) (mg:Str->Option Value) (fa:Addr) (h:Heap),(K w.params).In h->h.Ns mainGlobals mg->mg d.name=some (.ref fa) ->
   ∃ fd:FuncData,(∀ (s:Shared) (u:Value),BindsTo s fd ⟨[u],[]⟩ [(x,u)])/\(PySem.W.noTabs (K w.params)=true/\∀ x∈tabs,∃ c,PySem.W.codeHdIn (K w.params) c x.1=true) /\
    ∀ base:Heap,(K w.params).In base->base.Ns mainGlobals mg->FnOk l.prog w (K w.params) mg base (CX w) k fa fd [x] (sp w))
  (hsp:∀ (w:World) (H:Hp) (a:Addr) (ns:List Int),ns.length<=n->zdw H->SqL (K w.params) H a (ns.map V.int)->(∀ x∈tabs,H x.1=some (.tbl x.2.1 x.2.2))->sp w [.ref a] H (λv _=>v=.bl true) λ_ _ _=>False)
  (hCX:∀ (w:World) (H:Hp) (s:Shared) (e:Value) (s':Shared),CX w [] H s (λ_ _ _=>False) e s'->False) :
  PySem.W.WalkO q loose XP YP l.row.toRowW d [] (λf vs=>PySem.call f vs):=by
 refine Att.attach_call hn hdf λw s₀ s₁ mg mb fa o pm cd doc a vs ns G Y ho hd hcd hmg hobj hints hlen hg=>?_
 obtain ⟨KX,hT0⟩:=hY w _ Y;obtain ⟨fd,hb,⟨hnt,hT1⟩,hF⟩:=F w mg fa _ KX G.T.g hmg;exact qcb G.T.bmain (λx hx=>⟨hT0 x hx,let ⟨c,e⟩:=hT1 x hx;⟨c,PySem.W.codeHd_of_K KX e⟩⟩) hnt hlk KX G.T.g G.T.b G.T.builtins G.T.nolimit hg hobj hints (wQ hlen hn2) hr hF hb (λH hO hS hTt=>hsp w H a ns hlen hO hS hTt) λH e s'=>hCX w H s₁ e s'
theorem ycb {l:PySem.W.OpenLaw} {n k:Nat} {q:Program} {loose:List Str} {XP:(Str->Option Value)->Heap->Prop} {YP:World->Heap->Prop} {d:DefRec} {K:Params->Frag} {CX:CXT} {sp:Frag->Sp} {x:Str} {tabs:List (Addr×Pos×Str)}
  (hn:l.most=some n) (hn2:n<=sizeLine) (hdf:d.params.defaults=[]) (hr:Room k callerA)
  (hY:∀ (w:World) (h:Heap),YP w h->(K w.params).In h/\∀ x∈tabs,h.get? x.1=some (PySem.W.tabObj #[])) (hlk:∀ x∈tabs,tabs.lookup x.1=some x.2)
  (F:∀ (w:World) (mg:Str->Option Value) (fa:Addr) (h:Heap),(K w.params).In h->h.Ns mainGlobals mg->mg d.name=some (.ref fa) ->
   ∃ fd:FuncData,(∀ (s:Shared) (u:Value),BindsTo s fd ⟨[u],[]⟩ [(x,u)])/\(PySem.W.noTabs (K w.params)=true/\∀ x∈tabs,∃ c,PySem.W.codeHdIn (K w.params) c x.1=true) /\
    ∀ base:Heap,(K w.params).In base->base.Ns mainGlobals mg->FnOk l.prog w (K w.params) mg base CX k fa fd [x] (sp (K w.params)))
  (hsp:∀ (K:Frag) (H:Hp) (a:Addr) (ns:List Int),ns.length<=n->zdw H->SqL K H a (ns.map V.int)->(∀ x∈tabs,H x.1=some (.tbl x.2.1 x.2.2))->sp K [.ref a] H (λv _=>v=.bl true) λ_ _ _=>False)
  (hCX:∀ (H:Hp) (s:Shared) (e:Value) (s':Shared),CX [] H s (λ_ _ _=>False) e s'->False) :
  PySem.W.WalkO q loose XP YP l.row.toRowW d [] (λf vs=>PySem.call f vs) :=
 ycR (K:=K) (CX:=λ_=>CX) (sp:=λw=>sp (K w.params)) hn hn2 hdf hr hY hlk F (λw H a ns h1 h2 h3 h4=>hsp (K w.params) H a ns h1 h2 h3 h4) λ_ H s e s'=>hCX H s e s'
noncomputable def zx (s:Stmt):Arguments:=match s with
 | .FunctionDef _ a _ _ _ _ _ _ _ _=>a
 | _=>{ posonlyargs:=[],args:=[],vararg:=none,kwonlyargs:=[],kw_defaults:=[],kwarg:=none,defaults:=[] }
noncomputable def qB (s:Stmt):List Stmt:=match s with
 | .FunctionDef _ _ b _ _ _ _ _ _ _=>b
 | _=>[]
noncomputable def yd (s:Stmt):Scope:=match s with
 | .FunctionDef _ _ _ _ _ _ sc _ _ _=>sc
 | _=>{ kind:=.function,names:=[],isGenerator:=false,isCoroutine:=false }
abbrev CX0:CXT:=λ_ _ _ _ _ _=>False
abbrev E0:XK:=λ_ _ _=>False
theorem jd8 {X:Cx}:qbz CX0 X E0:=λ_ _ _ _ _ _ _ h=>h.elim
structure Fun (K:Frag) (x qual:Str) (st:Stmt) (f:Addr) (fd:FuncData):Prop where
 ex:∃ (oc:Value) (od:Option Addr) (kV doc pm:Value) (an:Option Addr) (cdv ct:Value) (osl:Array (Option Value)),
  fd=PySem.W.fnOf x qual (zx st) (qB st) (yd st) .none kV doc pm an cdv ct/\K.lookup f=some ⟨oc,od,.func fd,osl⟩/\PySem.W.codeIn K cdv qual=true
 kp:PySem.W.keepIn K (.ref f)=true
section
variable {P:Program} {w:World} {K:Frag} {mg:Str->Option Value} {base:Heap}
theorem Fun.ok {x qual:Str} {st:Stmt} {f:Addr} {fd:FuncData} {N ps:List Str} {k:Nat} {sp:Sp} (F:Fun K x qual st f fd) (S:FnScope N ps (yd st)) (len:∀ vs H Q E,sp vs H Q E->vs.length=ps.length)
  (hbody:∀ (cdv:Value),fd.code=cdv->∀ (A:Around) (outer:List Env) (s:Shared) (H:Hp) (vs:List V) (Q:VK) (E:XK),Room k (A.deeper (envOfC qual (yd st) s.heap.objs.size f cdv))->sp vs H Q E ->
   ∃ t,PSs (zcQ CX0 P w K mg base N qual (yd st) f cdv A outer s H E).nox (qB st) t/\t { nx:=λ_ H'=>Q .non H',rt:=Q } (start N vs) H):FnOk P w K mg base CX0 (k+1) f fd ps sp:=by
 obtain ⟨oc,od,kV,doc,pm,an,cdv,ct,osl,rfl,lk,hcd⟩:=F.ex;refine jd7 lk hcd S len λA outer s H vs Q E hr hsp=>?_
 obtain ⟨t,h,q⟩:=hbody cdv rfl A outer s H vs Q E hr hsp;exact ⟨t,h.nox,q⟩
theorem Fun.binds {x qual:Str} {st:Stmt} {f:Addr} {fd:FuncData} {ps:List Str} (F:Fun K x qual st f fd)
  (h:∀ (kV doc pm:Value) (an:Option Addr) (cdv ct:Value) (us:List Value),us.length=ps.length->bindArgs (PySem.W.fnOf x qual (zx st) (qB st) (yd st) .none kV doc pm an cdv ct) ⟨us,[]⟩=pure (ps.zip us)):Binds K fd ps []:=by
 obtain ⟨oc,od,kV,doc,pm,an,cdv,ct,osl,rfl,lk,hcd⟩:=F.ex;exact .all (h kV doc pm an cdv ct)
theorem qdw {x qual:Str} {st:Stmt} {f:Addr} {oc:Value} {od an:Option Addr} {osl:Array (Option Value)} {kV doc pm cdv ct:Value} (l:K.lookup f=some ⟨oc,od,.func (PySem.W.fnOf x qual (zx st) (qB st) (yd st) .none kV doc pm an cdv ct),osl⟩)
 (c:PySem.W.codeIn K cdv qual=true) (k:PySem.W.keepIn K (.ref f)=true):Fun K x qual st f (PySem.W.fnOf x qual (zx st) (qB st) (yd st) .none kV doc pm an cdv ct):=⟨⟨oc,od,kV,doc,pm,an,cdv,ct,osl,rfl,l,c⟩,k⟩
end
theorem ybB {n:Nat} (h:n<=1000):n<sizeLine:=Nat.lt_of_le_of_lt h (by decide)
section
variable {X:Cx}
theorem pv (i : Nat) {x : Str} {pos : Pos} (hN : X.N[i]? = some x := by rfl) (hv : Vis X.env.scope x := by first | exact Or.inl rfl | exact Or.inr (Or.inl rfl) | exact Or.inr (Or.inr rfl)) (hd : (x == ("__debug__" : Str)) = false := by decide)
 (hcd:(x==("__classdict__":Str))=false:=by decide):PE X (.Name x pos) (jel i):=zK hN hv hd hcd
end
theorem jcR {A B:Prop} (h:B):if false=true then A else B:=by
 rw [if_neg wz];exact h
theorem zcS {A B:Prop} (h:A):if true=true then A else B:=by
 rw [if_pos rfl];exact h
def Same (H H':Hp):Prop:=∀ b o,H b=some o->H' b=some o
theorem Same.refl (H:Hp):Same H H:=λ_ _ h=>h
theorem Same.trans {H H1 H2:Hp} (a:Same H H1) (b:Same H1 H2):Same H H2:=λc o h=>b c o (a c o h)
theorem Same.free {H H':Hp} (e:Same H H') {l:Addr} (h:H' l=Option.none):H l=Option.none:=by
 cases q:H l with
 | none=>rfl
 | some o =>
  rw [e l o q] at h;cases h
end L2
end
section
namespace Eng
open PySem
section
variable {C:Tab} {ρ:En} {a b c:Code} {cs:Codes}
theorem ydw {d:D}:ev C (.cst d) ρ=some d:=rfl
theorem ya7 {i:Nat}:ev C (.var i) ρ=(ρ[i]?).join:=rfl
theorem ycx {op:Operator}:ev C (.bin op a b) ρ=(ev C a ρ).bind λx=>(ev C b ρ).bind λy=>q8 op x y:=rfl
theorem jdw:ev C (.neg a) ρ=(ev C a ρ).bind λx=>match x with | .int i=>some (.int (-i)) | _=>none:=rfl
theorem jcx:ev C (.not a) ρ=(ev C a ρ).bind λx=>(truO x).map λk=>.bl (!k):=rfl
theorem jbB:ev C (.and a b) ρ=(ev C a ρ).bind λx=>match x with | .bl true=>ev C b ρ | .bl false=>some (.bl false) | _=>none:=rfl
theorem qcS:ev C (.or a b) ρ=(ev C a ρ).bind λx=>match x with | .bl false=>ev C b ρ | .bl true=>some (.bl true) | _=>none:=rfl
theorem zdx:ev C (.ite c a b) ρ=(ev C c ρ).bind λx=>(truO x).bind λk=>if k then ev C a ρ else ev C b ρ:=rfl
theorem zcy {op:CmpOp}:ev C (.cmp op a b) ρ=(ev C a ρ).bind λx=>(ev C b ρ).bind λy=>(zO op x y).map D.bl:=rfl
theorem qdx {op op':CmpOp}:ev C (.chn op op' a b c) ρ=(ev C a ρ).bind λx=>(ev C b ρ).bind λy=>(zO op x y).bind λt =>
 if t then (ev C c ρ).bind λz=>(zO op' y z).map D.bl else some (.bl false):=rfl
theorem qcy:ev C (.tup cs) ρ=(evs C cs ρ).bind λxs=>if xs.length<=sizeLine then some (.tup xs) else none:=rfl
theorem ycy:ev C (.lst cs) ρ=(evs C cs ρ).bind λxs=>if xs.length<=sizeLine then some (.lst xs) else none:=rfl
theorem jcy:ev C (.idx a b) ρ=(ev C a ρ).bind λx=>(ev C b ρ).bind λy=>jaE x y:=rfl
theorem zcz {lo hi:OCode}:ev C (.slc a lo hi) ρ=(ev C a ρ).bind λx=>(evO C lo ρ).bind λl=>(evO C hi ρ).bind λh=>jdk x l h:=rfl
theorem ydx:ev C (.rev a) ρ=(ev C a ρ).bind revD:=rfl
theorem zab {f:Nat}:ev C (.call f cs) ρ=(evs C cs ρ).bind λxs=>C f xs:=rfl
theorem zbC {f:Blt}:ev C (.blt f cs) ρ=(evs C cs ρ).bind λxs=>qy f xs:=rfl
theorem jdx {t:Ty}:ev C (.isi a t) ρ=(ev C a ρ).bind λx=>jek x t:=rfl
noncomputable def turn (C:Tab) (e:Code) (t:Tgt) (n:Nat) (keep:List Nat) (c:OCode) (ρ:En) (d:D):Option (Option D) :=
 (ybn t d (qm n keep ρ)).bind λρ'=>(evT C c ρ').bind λk=>if k then (ev C e ρ').map some else some none
theorem qbC {e:Code} {t:Tgt} {n:Nat} {keep:List Nat} {it:Iter} {c:OCode}:ev C (.comp e t n keep it c) ρ=(evI C it ρ).bind λds=>(gather (turn C e t n keep c ρ) ds).map D.lst:=rfl
theorem zdy {b:Blt} {it:Iter}:ev C (.ofi b it) ρ=(evI C it ρ).bind λds=>match b with | .list=>some (.lst ds) | .tuple=>some (.tup ds) | _=>none:=rfl
theorem yK:evs C .nil ρ=some []:=rfl
theorem zm:evs C (.cons a cs) ρ=(ev C a ρ).bind λx=>(evs C cs ρ).map λxs=>x::xs:=rfl
theorem jcb:evO C .none ρ=some none:=rfl
theorem ja7:evO C (.some c) ρ=(ev C c ρ).bind λx=>match x with | .int i=>some (some i) | _=>none:=rfl
theorem zav:evT C .none ρ=some true:=rfl
theorem za8:evT C (.some c) ρ=(ev C c ρ).bind truO:=rfl
theorem qa8:evI C (.data c) ρ=(ev C c ρ).bind itemsD:=rfl
theorem ybC:evI C (.rng cs) ρ=(evs C cs ρ).bind rngD:=rfl
theorem jbC:evI C (.enu c) ρ=(ev C c ρ).bind λx=>(itemsD x).map (yW 0):=rfl
theorem zbD:evI C (.zip a b) ρ=(ev C a ρ).bind λx=>(ev C b ρ).bind λy=>(itemsD x).bind λxs=>(itemsD y).map λys=>qaF xs ys:=rfl
end
section
variable {i j:Int}
theorem zd9:q8 .Add (.int i) (.int j)=some (.int (i+j)):=rfl
theorem qd9:q8 .Sub (.int i) (.int j)=some (.int (i-j)):=rfl
theorem jaI (h:qD i j=true):q8 .Mult (.int i) (.int j)=some (.int (i*j)):=if_pos h
theorem qbD (h:0<j/\j<1073741824):q8 .FloorDiv (.int i) (.int j)=some (.int (i/j)):=if_pos h
theorem jaW (h:0<j):q8 .Mod (.int i) (.int j)=some (.int (i%j)):=if_pos h
theorem ya8 {xs:List D} (h:xs.length*j.toNat<=sizeLine/\-(2^63)<=j/\j<2^63):q8 .Mult (.tup xs) (.int j)=some (.tup (qcv j.toNat xs)):=if_pos h
theorem zd0 {x y:D} (h:jA x y=true):zO .Eq x y=some (eqD x y):=if_pos (by rw [h,Bool.or_true])
theorem zcc {x y:D} (h:jA x y=true):zO .NotEq x y=some (!eqD x y):=if_pos (by rw [h,Bool.or_true])
theorem qex:zO .Lt (.int i) (.int j)=some (decide (i<j)):=rfl
theorem yex:zO .LtE (.int i) (.int j)=some (decide (i<=j)):=rfl
theorem jex:zO .Gt (.int i) (.int j)=some (decide (j<i)):=rfl
theorem zey:zO .GtE (.int i) (.int j)=some (decide (j<=i)):=rfl
theorem yd9 {xs:List D}:jaE (.tup xs) (.int i)=atI xs i:=rfl
theorem jd9 {xs:List D}:jaE (.lst xs) (.int i)=atI xs i:=rfl
theorem zea {xs:List Int}:jaE (.scr xs) (.int i)=(atI xs i).map D.int:=rfl
theorem qea:truO .non=some false:=rfl
theorem qey {b:Bool}:truO (.bl b)=some b:=rfl
theorem yea:truO (.int i)=some (i != 0):=rfl
theorem jea {xs:List D}:truO (.tup xs)=some (!xs.isEmpty):=rfl
theorem zeb {xs:List D}:truO (.lst xs)=some (!xs.isEmpty):=rfl
theorem yk {xs:List D}:qy .len [.tup xs]=some (.int xs.length):=rfl
theorem zaJ {xs:List D}:qy .len [.lst xs]=some (.int xs.length):=rfl
theorem ybD {xs:List Int}:qy .len [.scr xs]=some (.int xs.length):=by simp [qy,yd2,itemsD]
theorem ybp {xs:List D}:qy .list [.tup xs]=some (.lst xs):=rfl
theorem jbp {xs:List D}:qy .list [.lst xs]=some (.lst xs):=rfl
theorem zaX {xs:List D}:qy .tuple [.tup xs]=some (.tup xs):=rfl
theorem qaX {xs:List D}:qy .tuple [.lst xs]=some (.tup xs):=rfl
theorem qcc {b:Bool}:qy .int [.bl b]=some (.int (if b then 1 else 0)):=rfl
theorem jbD:qy .int [.int i]=some (.int i):=rfl
theorem qdy {sep:Str} {xs:List D}:qy .join [.str sep,.lst xs]=(strsOf xs).bind λts=>if (ts.map (·.length)).sum+ts.length*sep.length<=sizeLine then some (.str (Str.join sep ts)) else none:=rfl
theorem zbE {xs:List D}:itemsD (.tup xs)=some xs:=rfl
theorem qbE {xs:List D}:itemsD (.lst xs)=some xs:=rfl
theorem ybE {xs:List Int}:itemsD (.scr xs)=some (xs.map D.int):=rfl
end
section
variable {s:Sl} {ρ:List Sl} {x:Option D} {r:En} {d:D} {ds:List D} {n:Nat}
theorem ycS:vP (s::ρ)=s.pure::vP ρ:=rfl
theorem jcS:vA (s::ρ)=s.all::vA ρ:=rfl
theorem ydy:vP []=[]:=rfl
theorem jdy:vA []=[]:=rfl
theorem yey:(Sl.pu d).pure=some d:=rfl
theorem jey:(Sl.ow ds).pure=none:=rfl
theorem zez:Sl.un.pure=none:=rfl
theorem qez:(Sl.pu d).all=some d:=rfl
theorem yez:(Sl.ow ds).all=some (.lst ds):=rfl
theorem jez:Sl.un.all=none:=rfl
theorem zdz:(x::r)[0]?=some x:=rfl
theorem qdz:(x::r)[n+1]?=r[n]?:=rfl
theorem join_some:(some x).join=x:=rfl
theorem join_none:(none:Option (Option D)).join=none:=rfl
end
section
variable {C:Tab} {ρ ρ':List Sl} {e c:Code} {t:Tgt} {d:D} {ds:List D} {r a b:Stms} {i:Nat} {x:Option Fl}
theorem qam:exs C .nil ρ=some (.nx ρ):=rfl
theorem yg (h:ev C e (vP ρ)=some d) (h1:puT t d ρ=some ρ') (h2:exs C r ρ'=x):exs C (.cons (.set .pu t e) r) ρ=x:=by
 rw [exs,ex,h,wd,h1];exact h2
theorem qeb (h:ev C e (vA ρ)=some d) (hn:noL d=true) (h1:puT t d ρ=some ρ') (h2:exs C r ρ'=x):exs C (.cons (.set .cl t e) r) ρ=x:=by
 rw [exs,ex,h,wd,if_pos hn,h1];exact h2
theorem qaj (h:ev C e (vA ρ)=some (.lst ds)) (hn:yai ds=true) (h2:exs C r (ρ.set i (.ow ds))=x):exs C (.cons (.set .ow (.one i) e) r) ρ=x:=by
 rw [exs,ex,h,wd];show (if yai ds=true then some (Fl.nx (ρ.set i (.ow ds))) else none).bind _=x;rw [if_pos hn];exact h2
theorem qaJ (h:ev C e (vP ρ)=some d) (hi:ρ[i]?=some (.ow ds)) (hl:ds.length<sizeLine) (h2:exs C r (ρ.set i (.ow (ds++[d])))=x):exs C (.cons (.app i .pu e) r) ρ=x:=by
 rw [exs,ex];show ((ev C e (vP ρ)).bind _).bind _=x;rw [h,wd,hi];show (if ds.length<sizeLine then some (Fl.nx (ρ.set i (.ow (ds++[d])))) else none).bind _=x;rw [if_pos hl];exact h2
theorem zcT (h:ev C e (vA ρ)=some d) (hi:ρ[i]?=some (.ow ds)) (hn:noL d=true) (hl:ds.length<sizeLine) (h2:exs C r (ρ.set i (.ow (ds++[d])))=x):exs C (.cons (.app i .cl e) r) ρ=x:=by
 rw [exs];show ((ev C e (vA ρ)).bind _).bind _=x;rw [h,wd,hi];show (if (noL d&&decide (ds.length<sizeLine))=true then some (Fl.nx (ρ.set i (.ow (ds++[d])))) else none).bind _=x;rw [hn,decide_eq_true hl];exact h2
theorem qt {k : Bool} (h : ev C c (vA ρ) = some d) (hk : truO d = some k) (h1 : k = true -> (exs C a ρ).bind (λf => match f with | .nx ρ' => exs C r ρ' | f => some f) = x)
  (h2:k=false->(exs C b ρ).bind (λf=>match f with | .nx ρ'=>exs C r ρ' | f=>some f)=x):exs C (.cons (.ite c a b) r) ρ=x:=by
 rw [exs,ex,h,wd,hk,wd];cases k with
 | true=>exact h1 rfl
 | false=>exact h2 rfl
theorem jD {it:Iter} (h:evI C it (vP ρ)=some ds) (h1:forL (λd ρ'=>(puT t d ρ').bind λρ''=>exs C b ρ'') ds ρ=some (.nx ρ')) (h2:exs C r ρ'=x):exs C (.cons (.for t it b) r) ρ=x:=by
 rw [exs,ex,h,wd,h1];exact h2
theorem qe (h:ev C e (vA ρ)=some d):exs C (.cons (.ret e) r) ρ=some (.rt d):=by
 rw [exs,ex,h];rfl
theorem qc {f:Def} (h:ds.length=f.p) (h2:exs C f.b (ds.map Sl.pu++List.replicate (f.n-f.p) .un)=some (.rt d)):zB C f ds=some d:=by
 rw [zB,if_pos h,h2];rfl
end
noncomputable def EA :=
 And.intro @ydw<|And.intro @ya7<|And.intro @ycx<|And.intro @jdw<|And.intro @jcx<|And.intro @jbB<|And.intro @qcS<|And.intro @zdx<|And.intro @zcy<|And.intro @qdx<|And.intro @qcy<|And.intro @ycy<|And.intro @jcy<|And.intro @zcz<|And.intro @ydx<|And.intro @zab<|And.intro @zbC<|And.intro @jdx<|And.intro @qbC<|And.intro @zdy<|And.intro @yK<|And.intro @zm<|And.intro @jcb<|And.intro @ja7<|And.intro @zav<|And.intro @za8<|And.intro @qa8<|And.intro @ybC<|And.intro @jbC<|And.intro @zbD<|And.intro @zd9<|And.intro @qd9<|And.intro @qex<|And.intro @yex<|And.intro @jex<|And.intro @zey<|And.intro @yd9<|And.intro @jd9<|And.intro @zea<|And.intro @qea<|And.intro @qey<|And.intro @yea<|And.intro @jea<|And.intro @zeb<|And.intro @yk<|And.intro @zaJ<|And.intro @ybD<|And.intro @ybp<|And.intro @jbp<|And.intro @zaX<|And.intro @qaX<|And.intro @qcc<|And.intro @jbD<|And.intro @qdy<|And.intro @zbE<|And.intro @qbE<|And.intro @ybE<|And.intro @ycS<|And.intro @jcS<|And.intro @ydy<|And.intro @jdy<|And.intro @yey<|And.intro @jey<|And.intro @zez<|And.intro @qez<|And.intro @yez<|And.intro @jez<|And.intro @zdz<|And.intro @qdz<|And.intro @join_some<|@join_none
section
variable {prog:Program} {w:World} {A:Around} {E:Value->Shared->Prop} {s:Shared}
theorem qav {it l:Addr} {i:Nat} {items:Array Value} {x:Value} {Q:Value->Shared->Prop} (hit:s.heap.IsTupleIter it l i) (hl:s.heap.IsTuple l items) (hx:items[i]?=some x)
  (hQ:∀ h',h'.IsTupleIter it l (i+1)->Heap.SameBut it s.heap h'->Q x { s with heap:=h' }):wpAny (model prog w) A (Builtin.SmallTypes.nextOf (.ref it)) Q E s:=by
 obtain ⟨o,ho,hc,hd⟩:=id hit;obtain ⟨ol,hol,_,nl,hdl⟩:=hl;unfold Builtin.SmallTypes.nextOf;refine we (w5 (name:=Str.ofString "__next__") hit.typeIs F.slot_tuple_iterator_next (wW F.slot_tuple_iterator_next hit.typeIs F.entry_tuple_iterator_next ?_ (F.args_tuple_iterator_next_1 _)));show wpAny _ _ (field (.ref it) 0 >>= _) _ _ s;refine we (wpAny_field ho hd (x:=.ref l) rfl ?_);rw [if_neg (show ¬ ((Value.ref l==Value.none)=true) from wz)];refine we (wpAny_field ho hd (x:=.int i 0) rfl ?_);refine we (wpAny_seqItems hol hdl ?_);simp only [wV,hx];refine we (wpAny_setField ho hd (by simp) (wm ⟨x,rfl,wm (hQ _ ⟨_,Heap.get?_update_self _ ho (Obj.isFreed_of_fields (Obj.data_mapFields hd _)),(Obj.cls_mapFields ..).trans hc,?_⟩ (Heap.SameBut.update ..))⟩));rw [Obj.data_mapFields hd];simp [rawInt]
theorem yaJ {it l:Addr} {i:Nat} {items:Array Value} {Q:Value->Shared->Prop} (hh:A.handled=none) (hit:s.heap.IsTupleIter it l i) (hl:s.heap.IsTuple l items) (hx:items[i]?=none)
  (hE:∀ h' e,Heap.ExtBut it s.heap h'->(∃ o,h'.get? e=some o/\o.cls=.type "StopIteration")->E (.ref e) { s with heap:=h' }):wpAny (model prog w) A (Builtin.SmallTypes.nextOf (.ref it)) Q E s:=by
 obtain ⟨o,ho,hc,hd⟩:=id hit;obtain ⟨ol,hol,_,nl,hdl⟩:=hl;unfold Builtin.SmallTypes.nextOf;refine we (w5 (name:=Str.ofString "__next__") hit.typeIs F.slot_tuple_iterator_next (wW F.slot_tuple_iterator_next hit.typeIs F.entry_tuple_iterator_next ?_ (F.args_tuple_iterator_next_1 _)));show wpAny _ _ (field (.ref it) 0 >>= _) _ _ s;refine we (wpAny_field ho hd (x:=.ref l) rfl ?_);rw [if_neg (show ¬ ((Value.ref l==Value.none)=true) from wz)];refine we (wpAny_field ho hd (x:=.int i 0) rfl ?_);refine we (wpAny_seqItems hol hdl ?_);simp only [wV,hx];refine we (wpAny_rule (we (wpAny_setField ho hd (by simp) (we ?_))));simp only [newExc,newTuple];refine we (w9 (we (m:=firstArgMember _ _) (wpAny_of_eq (a:=Value.none) (by first | rfl | (simp only [firstArgMember];rfl)) (w9 ?_ (by size_fits)))) (by size_fits));simp only [raiseNew];refine we (wpAny_handled ?_)
 first | rw [show A.in1.handled=none from hh] | rw [hh]
 exact we (wm (wpAny_throw (hE _ _ (((Heap.SameBut.update ..).extBut.push _).push _) ⟨_,wt _ rfl,rfl⟩)))
end
def SItr (t:Bool) (h:Heap) (it a:Addr) (i:Nat):Prop:=cond t (h.IsTupleIter it a i) (h.IsListIter it a i)
def SSeq (t:Bool) (h:Heap) (a:Addr) (items:Array Value):Prop:=cond t (h.IsTuple a items) (h.IsList a items)
theorem SItr.at {t:Bool} {h h':Heap} {it a:Addr} {i:Nat} (x:SItr t h it a i) (k:∀ o,h.get? it=some o->h'.get? it=some o):SItr t h' it a i:=by
 cases t<;>obtain ⟨o,ho,r⟩:=x<;>exact ⟨o,k o ho,r⟩
theorem SSeq.at {t:Bool} {h h':Heap} {a:Addr} {items:Array Value} (x:SSeq t h a items) (k:∀ o,h.get? a=some o->h'.get? a=some o):SSeq t h' a items:=by
 cases t<;>obtain ⟨o,ho,r⟩:=x<;>exact ⟨o,k o ho,r⟩
theorem SItr.ob {t:Bool} {h:Heap} {it a:Addr} {i:Nat} (x:SItr t h it a i):∃ o n,h.get? it=some o/\o.cls=.type n/\(n="tuple_iterator"\/n="list_iterator")/\o.data=.fields #[.ref a,.int i 0]:=by
 cases t
 ·obtain ⟨o,ho,hc,hd⟩:=x;exact ⟨o,_,ho,hc,.inr rfl,hd⟩
 ·obtain ⟨o,ho,hc,hd⟩:=x;exact ⟨o,_,ho,hc,.inl rfl,hd⟩
theorem SSeq.ob {t:Bool} {h:Heap} {a:Addr} {items:Array Value} (x:SSeq t h a items):∃ o n,h.get? a=some o/\o.cls=.type n/\(n="tuple"\/n="list"):=by
 cases t
 ·obtain ⟨o,ho,hc,_⟩:=x;exact ⟨o,_,ho,hc,.inr rfl⟩
 ·obtain ⟨o,ho,hc,_⟩:=x;exact ⟨o,_,ho,hc,.inl rfl⟩
theorem SSeq.ne_itr {t u:Bool} {h:Heap} {a b it:Addr} {i:Nat} {items:Array Value} (x:SSeq t h a items) (y:SItr u h it b i):a≠it:=λz=>by
 subst z;obtain ⟨o,n,ho,hc,hn⟩:=x.ob;obtain ⟨o',n',ho',hc',hn',_⟩:=y.ob;rw [ho] at ho';cases ho'
 rw [hc] at hc';cases hc'
 rcases hn with rfl | rfl<;>rcases hn' with z | z<;>simp at z
section
variable {prog:Program} {w:World} {A:Around} {E:Value->Shared->Prop} {s:Shared}
theorem qab {t:Bool} {it a:Addr} {i:Nat} {items:Array Value} {x:Value} {Q:Value->Shared->Prop} (hit:SItr t s.heap it a i) (hl:SSeq t s.heap a items) (hx:items[i]?=some x)
  (hQ:∀ h',SItr t h' it a (i+1)->Heap.SameBut it s.heap h'->Q x { s with heap:=h' }):wpAny (model prog w) A (Builtin.SmallTypes.nextOf (.ref it)) Q E s:=by
 cases t
 ·exact wpAny_nextOf_list_item hit hl hx hQ
 ·exact qav hit hl hx hQ
theorem jbE {t:Bool} {it a:Addr} {i:Nat} {items:Array Value} {Q:Value->Shared->Prop} (hh:A.handled=none) (hit:SItr t s.heap it a i) (hl:SSeq t s.heap a items) (hx:items[i]?=none)
  (hE:∀ h' e,Heap.ExtBut it s.heap h'->(∃ o,h'.get? e=some o/\o.cls=.type "StopIteration")->E (.ref e) { s with heap:=h' }):wpAny (model prog w) A (Builtin.SmallTypes.nextOf (.ref it)) Q E s:=by
 cases t
 ·exact wpAny_nextOf_list_end hh hit hl hx hE
 ·exact yaJ hh hit hl hx hE
theorem yt {t:Bool} {a:Addr} {items:Array Value} {Q:Value->Shared->Prop} (hl:SSeq t s.heap a items)
  (hQ:Q (.ref s.heap.objs.size) { s with heap:=s.heap.push { cls:=.type (cond t "tuple_iterator" "list_iterator"),data:=.fields #[.ref a,.int 0 0] } }):wpAny (model prog w) A (pyIter (.ref a)) Q E s:=by
 cases t
 ·exact wpAny_pyIter_list hl hQ
 ·exact wpAny_pyIter_tuple hl hQ
end
theorem SItr.fresh (t:Bool) (h:Heap) (a:Addr):SItr t (h.push { cls:=.type (cond t "tuple_iterator" "list_iterator"),data:=.fields #[.ref a,.int 0 0] }) h.objs.size a 0:=by
 cases t<;>exact ⟨_,wt _ rfl,rfl,rfl⟩
theorem ja8 {prog:Program} {w:World} {A:Around} (hh:A.handled=none) (t:Bool) (it a:Addr) (hne:a≠it) (items:Array Value) :
  Draws prog w A it [it,a] items.size (λi v=>items[i]?=some v) (λi h=>SItr t h it a i/\SSeq t h a items) where
 live:=λ_ _ st=>let ⟨o,_,ho,_⟩:=st.1.ob;⟨o,ho⟩
 frame:=λ_ _ _ st hk=>⟨st.1.at λo e=>hk it (by simp) o e,st.2.at λo e=>hk a (by simp) o e⟩
 item:=λi s Q E hi st hQ=>by
  refine qab st.1 st.2 (x:=items[i]) (by simp [hi]) λh' hit' hs'=>?_
  exact hQ _ h' s.toks (by simp [hi]) ⟨hit',st.2.at λo e=>hs'.extBut _ _ hne e⟩ hs'
 done:=λs Q E st hE=>jbE hh st.1 st.2 (by simp) hE
end Eng
end
section
namespace Eng
open PySem
open AutoSeq1 (wpAny_loadPart')
noncomputable abbrev itO (t:Bool) (a:Addr):Obj:={ cls:=.type (cond t "tuple_iterator" "list_iterator"),data:=.fields #[.ref a,.int 0 0] }
theorem ycc (t:Bool) (a:Addr) (items:Array Value) :
  Meets (Builtin.«enumerate.__new__» ⟨[.type "enumerate",.ref a],[]⟩) (λ_ R s=>SSeq t s.heap a items /\
   R (.ok (.ret (.ref (s.heap.push (itO t a)).objs.size))) { s with heap:=(s.heap.push (itO t a)).push { cls:=.type "enumerate",data:=.fields #[.none,.bool false,.ref s.heap.objs.size,rawInt 0,.none,.none] } }) :=
 .of_wp λprog w A R s h=>by
  obtain ⟨hp,g,d,tk,os⟩:=s;obtain ⟨hl,h⟩:=h
  have hsub:=sub_enumerate;have hL:SSeq t (Shared.heap ⟨hp,g,d,tk,os⟩) a items:=hl
  wp_walk using yt hL
  refine wpAny_stack_any λst=>wm ?_
  split
  ·rename_i c _ _ _ _ _;cases (c==Value.type "enumerate")
   ·wp_walk using yt hL
    exact ⟨_,rfl,h⟩
   ·wp_walk using yt hL
    exact ⟨_,rfl,h⟩
  ·wp_walk using yt hL
   exact ⟨_,rfl,h⟩
noncomputable abbrev zpA (h:Heap) (t u:Bool) (a b:Addr):Heap:=(h.push (itO t a)).push (itO u b)
noncomputable abbrev zpB (h:Heap) (t u:Bool) (a b:Addr):Heap:=(zpA h t u a b).push { cls:=.type "tuple",data:=.seq #[.ref h.objs.size,.ref (h.push (itO t a)).objs.size] }
noncomputable abbrev zpC (h:Heap) (t u:Bool) (a b:Addr):Heap:=(zpB h t u a b).push { cls:=.type "tuple",data:=.seq #[.none,.none] }
noncomputable abbrev zpD (h:Heap) (t u:Bool) (a b:Addr):Heap:=(zpC h t u a b).push { cls:=.type "zip",data:=.fields #[.none,.bool false,.bool false,.ref (zpA h t u a b).objs.size,.ref (zpB h t u a b).objs.size] }
theorem qcT (t u:Bool) (a b:Addr) (xs ys:Array Value) :
  Meets (Builtin.«zip.__new__» ⟨[.type "zip",.ref a,.ref b],[]⟩) (λ_ R s=>SSeq t s.heap a xs/\SSeq u s.heap b ys/\R (.ok (.ret (.ref (zpC s.heap t u a b).objs.size))) { s with heap:=zpD s.heap t u a b }) :=
 .of_wp λprog w A R s h=>by
  obtain ⟨hp,g,d,tk,os⟩:=s;obtain ⟨hl1,hl2,h⟩:=h
  have hsub:=sub_zip;have hL1:SSeq t (Shared.heap ⟨hp,g,d,tk,os⟩) a xs:=hl1;have hL2:SSeq u (Shared.heap ⟨hp.push (itO t a),g,d,tk,os⟩) b ys:=hl2.at λo e=>wj _ e
  wp_walk using yt hL1,yt hL2
  exact ⟨_,rfl,h⟩
section
variable {prog:Program} {w:World} {A:Around} {E:Value->Shared->Prop} {s:Shared}
theorem zbF {t:Bool} {a:Addr} {items:Array Value} {Q:Value->Shared->Prop} (hL:SSeq t s.heap a items)
  (h:∀ h',IsEnum h' (s.heap.objs.size+1) s.heap.objs.size 0 .none->SItr t h' s.heap.objs.size a 0->h'.objs.size=s.heap.objs.size+2->(∀ b o,s.heap.get? b=some o->h'.get? b=some o)->Q (.ref (s.heap.objs.size+1)) { s with heap:=h' }) :
  wpAny (model prog w) A (call (.type "enumerate") [.ref a]) Q E s:=by
 refine callType_new F.called_enumerate (by decide) (F.typeCall_enumerate_1 _) (F.newCall_enumerate_1 _) (λobj=>F.args_object_init_2 obj _) F.entry_enumerate_new (ycc t a items) ⟨hL,?_⟩;have hz:(s.heap.push (itO t a)).objs.size=s.heap.objs.size+1:=Heap.size_push ..;obtain ⟨h1,e1⟩:∃ h1,h1=s.heap.push (itO t a):=⟨_,rfl⟩;have hi:SItr t h1 s.heap.objs.size a 0:=e1▸SItr.fresh t s.heap a;have hk:∀ b o,s.heap.get? b=some o->h1.get? b=some o:=λb o e=>e1▸wj _ e
 show _/\_;rw [<-e1] at hz ⊢;obtain ⟨o1,e2⟩:∃ o1:Obj,o1={ cls:=.type "enumerate",data:=.fields #[.none,.bool false,.ref s.heap.objs.size,rawInt 0,.none,.none] }:=⟨_,rfl⟩;have he:(h1.push o1).get? (s.heap.objs.size+1)=some o1:=by rw [<-hz];exact wt _ (by rw [e2];rfl)
 rw [<-e2,hz];refine ⟨⟨_,he,by rw [e2]⟩,h _ (by rw [e2] at he ⊢;exact he) (hi.at λo e=>wj _ e) (by rw [Heap.size_push,hz]) λb o x=>wj _ (hk b o x)⟩
theorem jcc {t u:Bool} {a b:Addr} {xs ys:Array Value} {Q:Value->Shared->Prop} (hl1:SSeq t s.heap a xs) (hl2:SSeq u s.heap b ys)
  (h:∀ h',IsZip h' (s.heap.objs.size+4) (s.heap.objs.size+2) (s.heap.objs.size+3) .none->IsPair h' (s.heap.objs.size+2) (.ref s.heap.objs.size) (.ref (s.heap.objs.size+1))->IsPair h' (s.heap.objs.size+3) .none .none ->
   SItr t h' s.heap.objs.size a 0->SItr u h' (s.heap.objs.size+1) b 0->h'.objs.size=s.heap.objs.size+5->(∀ c o,s.heap.get? c=some o->h'.get? c=some o)->Q (.ref (s.heap.objs.size+4)) { s with heap:=h' }) :
  wpAny (model prog w) A (call (.type "zip") [.ref a,.ref b]) Q E s:=by
 refine callType_new F.called_zip (by decide) (F.typeCall_zip_2 _ _) (F.newCall_zip_2 _ _) (λobj=>F.args_object_init_3 obj _ _) F.entry_zip_new (qcT t u a b xs ys) ⟨hl1,hl2,?_⟩;obtain ⟨n,hn⟩:∃ n,n=s.heap.objs.size:=⟨_,rfl⟩;rw [<-hn] at h;have s1:(s.heap.push (itO t a)).objs.size=n+1:=by rw [Heap.size_push,hn]
 obtain ⟨h1,e1⟩:∃ h1,h1=s.heap.push (itO t a):=⟨_,rfl⟩;have i1:SItr t h1 n a 0:=by rw [e1,hn];exact SItr.fresh t s.heap a
 have k1:∀ b o,s.heap.get? b=some o->h1.get? b=some o:=λb o e=>e1▸wj _ e
 rw [<-e1] at s1;obtain ⟨h2,e2⟩:∃ h2,h2=h1.push (itO u b):=⟨_,rfl⟩;have s2:h2.objs.size=n+2:=by rw [e2,Heap.size_push,s1]
 have i2:SItr u h2 (n+1) b 0:=by rw [e2,<-s1];exact SItr.fresh u h1 b
 have k2:∀ b o,h1.get? b=some o->h2.get? b=some o:=λb o e=>e2▸wj _ e
 obtain ⟨h3,e3⟩:∃ h3,h3=h2.push { cls:=.type "tuple",data:=.seq #[.ref n,.ref (n+1)] }:=⟨_,rfl⟩;have s3:h3.objs.size=n+3:=by rw [e3,Heap.size_push,s2]
 have g3:IsPair h3 (n+2) (.ref n) (.ref (n+1)):=by rw [e3,<-s2];exact wt _ rfl
 have k3:∀ b o,h2.get? b=some o->h3.get? b=some o:=λb o e=>e3▸wj _ e
 obtain ⟨h4,e4⟩:∃ h4,h4=h3.push { cls:=.type "tuple",data:=.seq #[.none,.none] }:=⟨_,rfl⟩;have s4:h4.objs.size=n+4:=by rw [e4,Heap.size_push,s3]
 have g4:IsPair h4 (n+3) .none .none:=by rw [e4,<-s3];exact wt _ rfl
 have k4:∀ b o,h3.get? b=some o->h4.get? b=some o:=λb o e=>e4▸wj _ e
 obtain ⟨h5,e5⟩:∃ h5,h5=h4.push { cls:=.type "zip",data:=.fields #[.none,.bool false,.bool false,.ref (n+2),.ref (n+3)] }:=⟨_,rfl⟩;have s5:h5.objs.size=n+5:=by rw [e5,Heap.size_push,s4]
 have g5:IsZip h5 (n+4) (n+2) (n+3) .none:=by rw [e5,<-s4];exact wt _ rfl
 have k5:∀ b o,h4.get? b=some o->h5.get? b=some o:=λb o e=>e5▸wj _ e
 show _/\_;have q4:zpC s.heap t u a b=h4:=by unfold zpC zpB zpA;rw [<-e1,<-hn,s1,<-e2,<-e3,<-e4]
 have q5:zpD s.heap t u a b=h5:=by unfold zpD zpC zpB zpA;rw [<-e1,<-hn,s1,<-e2,s2,<-e3,s3,<-e4,<-e5]
 rw [q4,s4,q5];exact ⟨⟨_,g5,rfl⟩,h h5 g5 (k5 _ _ (k4 _ _ g3)) (k5 _ _ g4) (i1.at λo e=>k5 _ _ (k4 _ _ (k3 _ _ (k2 _ _ e)))) (i2.at λo e=>k5 _ _ (k4 _ _ (k3 _ _ e))) s5 λc o e=>k5 _ _ (k4 _ _ (k3 _ _ (k2 _ _ (k1 _ _ e))))⟩
theorem zcd {t u:Bool} {z TI TO i1 i2 a b:Addr} {k1 k2:Nat} {xs ys:Array Value} {x y p q:Value} {Q:Value->Shared->Prop} (D:ZipApart z TI TO i1 i2 a b)
  (hz:IsZip s.heap z TI TO .none) (hTI:IsPair s.heap TI (.ref i1) (.ref i2)) (hTO:IsPair s.heap TO p q)
  (h1:SItr t s.heap i1 a k1) (h2:SItr u s.heap i2 b k2) (hl1:SSeq t s.heap a xs) (hl2:SSeq u s.heap b ys) (hx:xs[k1]?=some x) (hy:ys[k2]?=some y)
  (hQ:∀ h',IsZip h' z TI TO (rawInt s.heap.objs.size)->IsPair h' TO x y->SItr t h' i1 a (k1+1)->SItr u h' i2 b (k2+1)->IsPair h' s.heap.objs.size x y->h'.objs.size=s.heap.objs.size+1 ->
   (∀ c o,c≠z->c≠TO->c≠i1->c≠i2->s.heap.get? c=some o->h'.get? c=some o)->Q (.ref s.heap.objs.size) { s with heap:=h' }) :
  wpAny (model prog w) A (Builtin.«zip.__next__» ⟨[.ref z],[]⟩) (λfin s'=>∃ v,fin=.done (.ret v)/\Q v s') E s:=by
 show wpAny _ _ (field (.ref z) 2 >>= _) _ _ _;refine we (wpAny_field hz rfl (x:=.bool false) rfl ?_);refine we (wpAny_field hz rfl (x:=.ref TI) rfl ?_);refine we (wpAny_seqItems hTI rfl ?_);show wpAny _ _ (Builtin.SmallTypes.ownedTupleIsFree (.ref z) >>= _) _ _ _;refine we ?_;unfold Builtin.SmallTypes.ownedTupleIsFree;refine we (wpAny_field hz rfl (x:=.none) rfl (wm ?_));simp only [if_true];refine we (wpAny_rule (we (wpAny_field hz rfl (x:=.ref TO) rfl (we (wX hz (by simp) λha za sa=>?_)))))
 replace za:IsZip ha z TI TO .ellipsis:=za
 refine we ?_;simp only [List.zipIdx_cons,List.zipIdx_nil,List.forIn_cons,List.forIn_nil];refine we (we (wpAny_onRaise ?_));show wpAny _ _ (Builtin.SmallTypes.nextOf (.ref i1) >>= _) _ _ _;refine we (qab (h1.at λo e=>sa.extBut _ _ D.i1z e) (hl1.at λo e=>sa.extBut _ _ D.l1z e) hx λhb j1 sb=>wm ?_);have tb:IsPair hb TO p q:=sb.extBut _ _ D.TOi1 (sa.extBut _ _ D.TOz hTO);refine we (wpAny_seqItems tb rfl (we (wpAny_updateSeq_pair tb λhc tc sc=>?_)))
 replace tc:IsPair hc TO x q:=tc
 refine we (wpAny_letGo (wm (we (we (wpAny_onRaise ?_)))));show wpAny _ _ (Builtin.SmallTypes.nextOf (.ref i2) >>= _) _ _ _
 refine we (qab (((h2.at λo e=>sa.extBut _ _ D.i2z e).at λo e=>sb.extBut _ _ D.i12.symm e).at λo e=>sc.extBut _ _ D.TOi2.symm e)
  (((hl2.at λo e=>sa.extBut _ _ D.l2z e).at λo e=>sb.extBut _ _ D.l2i1 e).at λo e=>sc.extBut _ _ D.l2TO e) hy λhd j2 sd=>wm ?_)
 have td:IsPair hd TO x q:=sd.extBut _ _ D.TOi2 tc;refine we (wpAny_seqItems td rfl (we (wpAny_updateSeq_pair td λhe te se=>?_)))
 replace te:IsPair he TO x y:=te
 refine we (wpAny_letGo (wm (wm (we (wpAny_seqItems te rfl (we (wpAny_newTuple ?_)))))));have hsz:he.objs.size=s.heap.objs.size:=by rw [se.1,sd.1,sc.1,sb.1,sa.1]
 have ze:IsZip he z TI TO .ellipsis:=se.extBut _ _ D.TOz.symm (sd.extBut _ _ D.i2z.symm (sc.extBut _ _ D.TOz.symm (sb.extBut _ _ D.i1z.symm za)));have ke:∀ c o,c≠z->c≠TO->c≠i1->c≠i2->s.heap.get? c=some o->he.get? c=some o:=λc o c1 c2 c3 c4 e=>se.extBut _ _ c2 (sd.extBut _ _ c4 (sc.extBut _ _ c2 (sb.extBut _ _ c3 (sa.extBut _ _ c1 e))))
 have f1:SItr t he i1 a (k1+1):=((j1.at λo e=>sc.extBut _ _ D.TOi1.symm e).at λo e=>sd.extBut _ _ D.i12 e).at λo e=>se.extBut _ _ D.TOi1.symm e
 have f2:SItr u he i2 b (k2+1):=j2.at λo e=>se.extBut _ _ D.TOi2.symm e
 have zlt:z<he.objs.size:=wy ze;show wpAny _ _ (Builtin.SmallTypes.ownedTupleHandOut (.ref z) (.ref he.objs.size) >>= _) _ _ _;refine we ?_;unfold Builtin.SmallTypes.ownedTupleHandOut;have zf:IsZip (he.push { cls:=.type "tuple",data:=.seq #[x,y] }) z TI TO .ellipsis:=wj _ ze;refine we (wX zf (by simp) λhg zg sg=>?_)
 replace zg:IsZip hg z TI TO (rawInt he.objs.size):=zg
 refine wX zg (by simp) λhh zh sh=>?_
 replace zh:IsZip hh z TI TO (rawInt he.objs.size):=zh
 have up:∀ c o,c≠z->he.get? c=some o->hh.get? c=some o:=λc o c1 e=>sh.extBut _ _ c1 (sg.extBut _ _ c1 (wj _ e))
 have th:IsPair hh he.objs.size x y:=sh.extBut _ _ (Nat.ne_of_gt zlt) (sg.extBut _ _ (Nat.ne_of_gt zlt) (wt _ rfl));have zz:hh.objs.size=he.objs.size+1:=by rw [sh.1,sg.1,Heap.size_push]
 rw [hsz] at zh th zz;refine wm ⟨_,rfl,?_⟩;show Q (.ref he.objs.size) _;rw [hsz];exact hQ hh zh (up _ _ D.TOz te) (f1.at λo e=>up _ o D.i1z e) (f2.at λo e=>up _ o D.i2z e) th zz λc o c1 c2 c3 c4 e=>up c o c1 (ke c o c1 c2 c3 c4 e)
theorem ycT {t u:Bool} {z TI TO i1 i2 a b:Addr} {k1 k2:Nat} {xs ys:Array Value} {p q:Value} {Q:Fin->Shared->Prop} (hh:A.handled=none) (D:ZipApart z TI TO i1 i2 a b)
  (hz:IsZip s.heap z TI TO .none) (hTI:IsPair s.heap TI (.ref i1) (.ref i2)) (hTO:IsPair s.heap TO p q)
  (h1:SItr t s.heap i1 a k1) (h2:SItr u s.heap i2 b k2) (hl1:SSeq t s.heap a xs) (hl2:SSeq u s.heap b ys) (hend:xs[k1]?=none\/ys[k2]?=none)
  (hE:∀ h' e,(∀ c o,c≠z->c≠TO->c≠i1->c≠i2->s.heap.get? c=some o->h'.get? c=some o)->(∃ o,h'.get? e=some o/\o.cls=.type "StopIteration")->E (.ref e) { s with heap:=h' }) :
  wpAny (model prog w) A (Builtin.«zip.__next__» ⟨[.ref z],[]⟩) Q E s:=by
 show wpAny _ _ (field (.ref z) 2 >>= _) _ _ _;refine we (wpAny_field hz rfl (x:=.bool false) rfl ?_);refine we (wpAny_field hz rfl (x:=.ref TI) rfl ?_);refine we (wpAny_seqItems hTI rfl ?_);show wpAny _ _ (Builtin.SmallTypes.ownedTupleIsFree (.ref z) >>= _) _ _ _;refine we ?_;unfold Builtin.SmallTypes.ownedTupleIsFree;refine we (wpAny_field hz rfl (x:=.none) rfl (wm ?_));simp only [if_true];refine we (wpAny_rule (we (wpAny_field hz rfl (x:=.ref TO) rfl (we (wX hz (by simp) λha za sa=>?_)))))
 replace za:IsZip ha z TI TO .ellipsis:=za
 refine we ?_;simp only [List.zipIdx_cons,List.zipIdx_nil,List.forIn_cons,List.forIn_nil];refine we (we (wpAny_onRaise ?_));show wpAny _ _ (Builtin.SmallTypes.nextOf (.ref i1) >>= _) _ _ _;cases hx:xs[k1]? with
 | none =>
  refine we (jbE hh (h1.at λo e=>sa.extBut _ _ D.i1z e) (hl1.at λo e=>sa.extBut _ _ D.l1z e) hx λhb e sb he=>?_);obtain ⟨oe,hoe,hce⟩:=he;have zb:IsZip hb z TI TO .ellipsis:=sb _ _ D.i1z.symm za;have hez:e≠z:=λx=>by subst x;rw [zb] at hoe;cases hoe;simp at hce
  exact wX zb (by simp) λhc _ sc=>hE hc e (λc o c1 _ c3 _ x=>sc.extBut _ _ c1 (sb _ _ c3 (sa.extBut _ _ c1 x))) ⟨oe,sc.extBut _ _ hez hoe,hce⟩
 | some x =>
  have hy:ys[k2]?=none:=by rcases hend with h | h;rw [hx] at h;cases h;exact h
  refine we (qab (h1.at λo e=>sa.extBut _ _ D.i1z e) (hl1.at λo e=>sa.extBut _ _ D.l1z e) hx λhb j1 sb=>wm ?_);have tb:IsPair hb TO p q:=sb.extBut _ _ D.TOi1 (sa.extBut _ _ D.TOz hTO);refine we (wpAny_seqItems tb rfl (we (wpAny_updateSeq_pair tb λhc tc sc=>?_)));refine we (wpAny_letGo (wm (we (we (wpAny_onRaise ?_)))));show wpAny _ _ (Builtin.SmallTypes.nextOf (.ref i2) >>= _) _ _ _
  refine we (jbE hh (((h2.at λo e=>sa.extBut _ _ D.i2z e).at λo e=>sb.extBut _ _ D.i12.symm e).at λo e=>sc.extBut _ _ D.TOi2.symm e)
   (((hl2.at λo e=>sa.extBut _ _ D.l2z e).at λo e=>sb.extBut _ _ D.l2i1 e).at λo e=>sc.extBut _ _ D.l2TO e) hy λhd e sd he=>?_)
  obtain ⟨oe,hoe,hce⟩:=he;have zd:IsZip hd z TI TO .ellipsis:=sd _ _ D.i2z.symm (sc.extBut _ _ D.TOz.symm (sb.extBut _ _ D.i1z.symm za));have hez:e≠z:=λx=>by subst x;rw [zd] at hoe;cases hoe;simp at hce
  exact wX zd (by simp) λhe _ se=>hE he e (λc o c1 c2 c3 c4 x=>se.extBut _ _ c1 (sd _ _ c4 (sc.extBut _ _ c2 (sb.extBut _ _ c3 (sa.extBut _ _ c1 x))))) ⟨oe,se.extBut _ _ hez hoe,hce⟩
theorem qcd {t u:Bool} {z TI TO i1 i2 a b:Addr} {k1 k2:Nat} {xs ys:Array Value} {x y p q:Value} {Q:Option Value->Shared->Prop} (D:ZipApart z TI TO i1 i2 a b)
  (hz:IsZip s.heap z TI TO .none) (hTI:IsPair s.heap TI (.ref i1) (.ref i2)) (hTO:IsPair s.heap TO p q)
  (h1:SItr t s.heap i1 a k1) (h2:SItr u s.heap i2 b k2) (hl1:SSeq t s.heap a xs) (hl2:SSeq u s.heap b ys) (hx:xs[k1]?=some x) (hy:ys[k2]?=some y)
  (hQ:∀ h',IsZip h' z TI TO (rawInt s.heap.objs.size)->IsPair h' TO x y->SItr t h' i1 a (k1+1)->SItr u h' i2 b (k2+1)->IsPair h' s.heap.objs.size x y->h'.objs.size=s.heap.objs.size+1 ->
   (∀ c o,c≠z->c≠TO->c≠i1->c≠i2->s.heap.get? c=some o->h'.get? c=some o)->Q (some (.ref s.heap.objs.size)) { s with heap:=h' }) :
  wpAny (model prog w) A (pyNext (.ref z)) Q E s:=by
 have hT:s.TypeIs (.ref z) "zip":=⟨_,hz,rfl⟩;unfold pyNext
 exact we (wpAny_attempt (w5 (name:=Str.ofString "__next__") hT F.slot_zip_next (wW F.slot_zip_next hT F.entry_zip_next
  (zcd D hz hTI hTO h1 h2 hl1 hl2 hx hy λh' a1 a2 a3 a4 a5 a6 a7=>wm (hQ h' a1 a2 a3 a4 a5 a6 a7)) (F.args_zip_next_1 _))))
theorem ycd {t u:Bool} {z TI TO i1 i2 a b:Addr} {k1 k2:Nat} {xs ys:Array Value} {p q:Value} {Q:Option Value->Shared->Prop} (hh:A.handled=none) (D:ZipApart z TI TO i1 i2 a b)
  (hz:IsZip s.heap z TI TO .none) (hTI:IsPair s.heap TI (.ref i1) (.ref i2)) (hTO:IsPair s.heap TO p q)
  (h1:SItr t s.heap i1 a k1) (h2:SItr u s.heap i2 b k2) (hl1:SSeq t s.heap a xs) (hl2:SSeq u s.heap b ys) (hend:xs[k1]?=none\/ys[k2]?=none)
  (hQ:∀ h',(∀ c o,c≠z->c≠TO->c≠i1->c≠i2->s.heap.get? c=some o->h'.get? c=some o)->Q none { s with heap:=h' }):wpAny (model prog w) A (pyNext (.ref z)) Q E s:=by
 have hT:s.TypeIs (.ref z) "zip":=⟨_,hz,rfl⟩;unfold pyNext
 refine we (wpAny_attempt (w5 (name:=Str.ofString "__next__") hT F.slot_zip_next
  (wW F.slot_zip_next hT F.entry_zip_next (ycT hh D hz hTI hTO h1 h2 hl1 hl2 hend λh' e hk he=>?_) (F.args_zip_next_1 _))))
 obtain ⟨o,ho,hc⟩:=he;refine we (wpAny_isInstance (T:="StopIteration") (b:=true) ⟨o,ho,hc⟩ isSubtype_stop ?_);exact wm (hQ _ hk)
theorem qbF {t:Bool} {e it a:Addr} {i:Nat} {items:Array Value} {x old:Value} {Q:Value->Shared->Prop} (hne:e≠it) (hea:e≠a)
  (he:IsEnum s.heap e it i old) (hi:SItr t s.heap it a i) (hl:SSeq t s.heap a items) (hx:items[i]?=some x)
  (hQ:∀ h' tk k,IsEnumOut h' e it (i+1) x s.heap.objs.size->SItr t h' it a (i+1)->IsPair h' s.heap.objs.size (.int i k) x ->
   (∀ c o,c≠e->c≠it->s.heap.get? c=some o->h'.get? c=some o)->Q (.ref s.heap.objs.size) { s with heap:=h',toks:=tk }) :
  wpAny (model prog w) A (Builtin.«enumerate.__next__» ⟨[.ref e],[]⟩) (λfin s'=>∃ v,fin=.done (.ret v)/\Q v s') E s:=by
 show wpAny _ _ (field (.ref e) 2 >>= _) _ _ _;refine we (wpAny_field he rfl (x:=.ref it) rfl ?_);refine we (qab hi hl hx λhb j1 sb=>?_);have eb:IsEnum hb e it i old:=sb.extBut _ _ hne he;refine we (wpAny_field eb rfl (x:=rawInt i) rfl ?_);show wpAny _ _ (field (.ref e) 4 >>= _) _ _ _;refine we (wpAny_field eb rfl (x:=.none) rfl ?_);show wpAny _ _ (mkInt i >>= _) _ _ _;refine we (wpAny_mkInt ?_);refine we (wX eb (by simp) λhc ec sc=>?_)
 replace ec:IsEnum hc e it (i+1) old:=ec
 refine we (wX ec (by simp) λhd ed sd=>?_)
 replace ed:IsEnum hd e it (i+1) old:=ed
 refine we (wpAny_newTuple ?_);have hsz:hd.objs.size=s.heap.objs.size:=by rw [sd.1,sc.1,sb.1]
 have ke:∀ c o,c≠e->c≠it->s.heap.get? c=some o->hd.get? c=some o:=λc o c1 c2 q=>sd.extBut _ _ c1 (sc.extBut _ _ c1 (sb.extBut _ _ c2 q))
 have jd:SItr t hd it a (i+1):=(j1.at λo q=>sc.extBut _ _ hne.symm q).at λo q=>sd.extBut _ _ hne.symm q
 obtain ⟨T,hT⟩:∃ T,T=hd.objs.size:=⟨_,rfl⟩;have elt:e<hd.objs.size:=wy ed;have ee:IsEnum (hd.push { cls:=.type "tuple",data:=.seq #[.int i s.toks,x] }) e it (i+1) old:=wj _ ed;show wpAny _ _ (Builtin.SmallTypes.ownedTupleIsFree (.ref e) >>= _) _ _ _;refine we ?_;unfold Builtin.SmallTypes.ownedTupleIsFree;refine we (wpAny_field ee rfl (x:=.none) rfl (wm ?_));simp only [if_true];refine we (wpAny_rule (we (wpAny_field ee rfl (x:=old) rfl (we (wX ee (by simp) λhf ef sf=>?_)))))
 replace ef:IsEnum hf e it (i+1) x:=ef
 show wpAny _ _ (Builtin.SmallTypes.ownedTupleHandOut (.ref e) (.ref hd.objs.size) >>= _) _ _ _;refine we ?_;unfold Builtin.SmallTypes.ownedTupleHandOut;refine we (wX ef (by simp) λhg eg sg=>?_)
 replace eg:IsEnumOut hg e it (i+1) x hd.objs.size:=eg
 refine wX eg (by simp) λhh eh sh=>?_
 replace eh:IsEnumOut hh e it (i+1) x hd.objs.size:=eh
 have up:∀ c o,c≠e->hd.get? c=some o->hh.get? c=some o:=λc o c1 q=>sh.extBut _ _ c1 (sg.extBut _ _ c1 (sf.extBut _ _ c1 (wj _ q)))
 have th:IsPair hh hd.objs.size (.int i s.toks) x:=sh.extBut _ _ (Nat.ne_of_gt elt) (sg.extBut _ _ (Nat.ne_of_gt elt) (sf.extBut _ _ (Nat.ne_of_gt elt) (wt _ rfl)));rw [hsz] at eh th;refine we (wpAny_letGo (wm ⟨_,rfl,?_⟩));show Q (.ref hd.objs.size) _;rw [hsz];exact hQ hh _ s.toks eh (jd.at λo q=>up _ o hne.symm q) th λc o c1 c2 q=>up c o c1 (ke c o c1 c2 q)
theorem ybF {t:Bool} {e it a:Addr} {i:Nat} {items:Array Value} {x old:Value} {Q:Option Value->Shared->Prop} (hne:e≠it) (hea:e≠a)
  (he:IsEnum s.heap e it i old) (hi:SItr t s.heap it a i) (hl:SSeq t s.heap a items) (hx:items[i]?=some x)
  (hQ:∀ h' tk k,IsEnumOut h' e it (i+1) x s.heap.objs.size->SItr t h' it a (i+1)->IsPair h' s.heap.objs.size (.int i k) x ->
   (∀ c o,c≠e->c≠it->s.heap.get? c=some o->h'.get? c=some o)->Q (some (.ref s.heap.objs.size)) { s with heap:=h',toks:=tk }) :
  wpAny (model prog w) A (pyNext (.ref e)) Q E s:=by
 have hT:s.TypeIs (.ref e) "enumerate":=⟨_,he,rfl⟩;unfold pyNext
 exact we (wpAny_attempt (w5 (name:=Str.ofString "__next__") hT F.slot_enumerate_next (wW F.slot_enumerate_next hT F.entry_enumerate_next
  (qbF hne hea he hi hl hx λh' tk k a1 a2 a3 a4=>wm (hQ h' tk k a1 a2 a3 a4)) (F.args_enumerate_next_1 _))))
end
end Eng
end
section
namespace Eng
open PySem
noncomputable def zS (S:List Nat) (led:Bool):SetTable :=
 if S.length<5 then { mask:=7,place:=S.toArray,dummies:=#[],finger:=0,led:=led,moves:=0,plain:=true }
 else { mask:=31,place:=S.toArray,dummies:=#[],finger:=0,led:=led,moves:=1,plain:=true }
noncomputable def yav (k:Nat):List Nat->List Nat
 | []=>[k]
 | x::r=>if k<x then k::x::r else x::yav k r
noncomputable def subs:Nat->List (List Nat)
 | 0=>[[]]
 | n+1=>subs n++(subs n).map (·++[n])
noncomputable def cnt (k:Nat) (S:List Nat):Nat:=(S.filter (·<k)).length
noncomputable def jaJ (S:List Nat) (k:Nat) (led:Bool):SetTable:={ mask:=if S.length<5 then 7 else 31,place:=(yav k S).toArray,dummies:=#[],finger:=0,led:=led,moves:=if S.length<5 then 0 else 1,plain:=true }
noncomputable def ydz (S:List Nat) (k:Nat) (led:Bool):Bool :=
 S.contains k ||
 (decide ((zS S led).freeSlot (k:Int)=some (k,false))&&decide ((zS S led).put k=(jaJ S k led,cnt k S))&&(jaJ S k led).fits (S.length+1)
  && decide (S.take (cnt k S)++k::S.drop (cnt k S)=yav k S)&&decide (yav k S∈subs lowM)
  && (if (jaJ S k led).tooFull then decide ((jaJ S k led).relaid ((yav k S).toArray.map Int.ofNat) (SetTable.grown (S.length+1))=some (zS (yav k S) led,Array.range (S.length+1)))&&coversAll (Array.range (S.length+1)) (S.length+1)&&(zS (yav k S) led).fits (S.length+1)
   else decide (jaJ S k led=zS (yav k S) led)))
noncomputable def qcz (S:List Nat):Bool:=(List.range S.length).all λi=>decide (SetTable.below S.toArray (if i=0 then 0 else S.getD (i-1) 0+1)=i)
noncomputable def yeb (S:List Nat):Bool:=decide (S.length<=SetTable.below S.toArray (if S.length=0 then 0 else S.getD (S.length-1) 0+1))
noncomputable def jdz (S:List Nat) (led:Bool):Bool:=(zS S led).fits S.length&&!(zS S led).gaveWay&&decide (S.length<=8)&&S.all (·<lowM)
theorem jcT:∀ led∈[true,false],∀ S∈subs lowM,∀ k∈List.range lowM,ydz S k led=true:=by decide +kernel
theorem jav:∀ S∈subs lowM,qcz S=true/\yeb S=true/\∀ led∈[true,false],jdz S led=true:=by decide +kernel
noncomputable def esL (L:List (Nat×Tok)):List (Int×Value):=L.map λp=>((p.1:Int),Value.int p.1 p.2)
noncomputable def keys (L:List (Nat×Tok)):List Nat:=L.map (·.1)
noncomputable def yq (L:List (Nat×Tok)) (led:Bool) (ep:Nat):Obj:={ cls:=.type "set",dict:=none,data:=.set (esL L).toArray ep (zS (keys L) led),slots:=#[] }
def jbv (h:Heap) (a:Addr) (L:List (Nat×Tok)) (led:Bool):Prop:=keys L∈subs lowM/\∃ ep,h.get? a=some (yq L led ep)
theorem zdA (led:Bool):led∈[true,false]:=by cases led<;>simp
theorem yab {S:List Nat} (h:S∈subs lowM) (led:Bool):(zS S led).fits S.length=true/\S.length<=8/\∀ k∈S,k<lowM:=by
 have:=(jav S h).2.2 led (zdA led)
 simp only [jdz,wg,wF,List.all_eq_true] at this;exact ⟨this.1.1.1,this.1.2,λk hk=>this.2 k hk⟩
theorem yB (L:List (Nat×Tok)):(keys L).length=L.length:=by simp [keys]
theorem yx (L:List (Nat×Tok)):(esL L).toArray.size=(keys L).length:=by simp [esL,keys]
theorem zbq:∀ k∈List.range 64,hashInt ((k:Nat):Int)=k:=by decide +kernel
theorem zcU:lowM<=64:=by decide
theorem jbF {k:Nat} (h:k<lowM):hashInt (k:Int)=k:=zbq k (vc.mpr (wL h zcU))
theorem isInt_iff (k j:Nat) (t:Tok):Value.isInt (k:Int) (Value.int (j:Int) t)=decide (k=j):=by
 by_cases h:k=j
 ·subst h;simp [Value.isInt]
 ·simp [Value.isInt,h];omega
section
variable {prog:Program} {w:World} {A:Around} {E:Value->Shared->Prop} {s:Shared}
theorem jcd {L:List (Nat×Tok)} (h:keys L∈subs lowM):ElemsOf (intKind prog w) (esL L).toArray.toList:=λe he=>by
 have he:e∈esL L:=by simpa using he
 obtain ⟨p,hp,rfl⟩:=wG.mp he;have hk:=(yab h true).2.2 p.1 (wG.mpr ⟨p,hp,rfl⟩);exact ⟨⟨(p.1:Int),(isInt_iff p.1 p.1 p.2).trans (by simp),(jbF hk).symm⟩,rfl⟩
theorem qcU (L:List (Nat×Tok)) (k:Nat):(((esL L).toArray.toList.findIdx? λe=>Value.isInt (k:Int) e.2)=none↔k∉keys L):=by
 rw [List.findIdx?_eq_none_iff];constructor
 ·intro h hk;obtain ⟨p,hp,e⟩:=wG.mp hk
  have:=h ((p.1:Int),Value.int p.1 p.2) (by simp only [esL];exact wG.mpr ⟨p,hp,rfl⟩)
  rw [isInt_iff,e] at this;simp at this
 ·intro h e he;have he:e∈esL L:=by simpa using he
  obtain ⟨p,hp,rfl⟩:=wG.mp he;rw [isInt_iff];exact vk λz=>h (wG.mpr ⟨p,hp,z.symm⟩)
theorem ycU (L:List (Nat×Tok)) (k p:Nat) (t:Tok) (hp:p<=L.length):SetTable.insertAt (esL L).toArray p ((k:Int),Value.int k t)=(esL (L.take p++(k,t)::L.drop p)).toArray:=by
 unfold SetTable.insertAt;apply Array.ext';simp [esL,List.map_take,List.map_drop];rw [List.take_of_length_le (l:=List.drop p _) (by simp)]
end
structure AddF (S:List Nat) (k:Nat) (led:Bool):Prop where
 free:(zS S led).freeSlot (k:Int)=some (k,false)
 put:(zS S led).put k=(jaJ S k led,cnt k S)
 fit:(jaJ S k led).fits (S.length+1)=true
 ins:S.take (cnt k S)++k::S.drop (cnt k S)=yav k S
 mem:yav k S∈subs lowM
 full:(jaJ S k led).tooFull=true->(jaJ S k led).relaid ((yav k S).toArray.map Int.ofNat) (SetTable.grown (S.length+1))=some (zS (yav k S) led,Array.range (S.length+1))/\coversAll (Array.range (S.length+1)) (S.length+1)=true/\(zS (yav k S) led).fits (S.length+1)=true
 part:(jaJ S k led).tooFull=false->jaJ S k led=zS (yav k S) led
theorem qdA {S:List Nat} (hS:S∈subs lowM) {k:Nat} (hk:k<lowM) (hn:k∉S) (led:Bool):AddF S k led:=by
 have h:=jcT led (zdA led) S hS k (vc.mpr hk);unfold ydz at h;rw [show S.contains k=false by simpa using hn,Bool.false_or] at h;simp only [wg,wF] at h;obtain ⟨⟨⟨⟨⟨h1,h2⟩,h3⟩,h4⟩,h5⟩,h6⟩:=h;refine ⟨h1,h2,h3,h4,h5,λhf=>?_,λhf=>?_⟩
 ·rw [if_pos hf] at h6;simp only [wg,wF] at h6;exact ⟨h6.1.1,h6.1.2,h6.2⟩
 ·rw [hf,if_neg wz] at h6;simpa using h6
theorem ycz (k:Nat) (S:List Nat):cnt k S<=S.length:=List.length_filter_le _ _
theorem za9 (L:List (Nat×Tok)) (k p:Nat) (t:Tok):keys (L.take p++(k,t)::L.drop p)=(keys L).take p++k::(keys L).drop p:=by simp [keys,List.map_take,List.map_drop]
theorem qbq (L:List (Nat×Tok)):(esL L).toArray.map (·.1)=(keys L).toArray.map Int.ofNat:=by
 apply Array.ext';simp [esL,keys]
theorem jJ {α:Type}:∀ (l:List α),(List.range l.length).filterMap (λ(i:Nat)=>l[i]?)=l:=by
 intro l;have h:(List.range l.length).filterMap (λ(i:Nat)=>l[i]?)=((List.range l.length).map (λ(i:Nat)=>l[i]?)).filterMap id:=by rw [List.filterMap_map];rfl
 rw [h]
 have h2:(List.range l.length).map (λ(i:Nat)=>l[i]?)=l.map some:=by
  apply List.ext_getElem
  ·simp
  ·intro i h1 h2;simp at h1;simp [h1]
 rw [h2,List.filterMap_map]
 simp
theorem jab (l:List (Int×Value)):(Array.range l.length).filterMap (λ(i:Nat)=>l.toArray[i]?)=l.toArray:=by
 apply Array.ext';rw [Array.toList_filterMap,Array.toList_range]
 have:(λ(i:Nat)=>l.toArray[i]?)=λ(i:Nat)=>l[i]?:=by funext i;simp
 rw [this];exact jJ l
section
variable {prog:Program} {w:World} {A:Around} {E:Value->Shared->Prop} {s:Shared}
theorem zbG {h:Heap} {a:Addr} {o:Obj} {es es':Array (Int×Value)} {ep:Nat} {t t':SetTable} (ho:h.get? a=some o) (hd:o.data=.set es ep t) :
  (h.update a (Obj.putSet es' t')).get? a=some { o with data:=.set es' (ep+1) t' }:=by
 have:=Heap.get?_update_self (Obj.putSet es' t') ho (by rw [putSet_of es' t' hd];rfl)
 rw [putSet_of es' t' hd] at this;exact this
theorem jcU {a:Addr} {L:List (Nat×Tok)} {led:Bool} {k:Nat} {tk:Tok} {Q:Bool->Shared->Prop} (hS:jbv s.heap a L led) (hk:k<lowM)
  (h:∀ b h' L',Heap.SameBut a s.heap h'->jbv h' a L' led->(keys L'=if k∈keys L then keys L else yav k (keys L))->Q b { s with heap:=h' }) :
  wpAny (model prog w) A (setAddHashed a (.int k tk) (hashInt k)) Q E s:=by
 obtain ⟨hin,ep,ho⟩:=id hS;obtain ⟨hf,hl8,_⟩:=yab hin led;have hb:(esL L).toArray.size<scanBound:=by rw [yx];unfold scanBound;omega
 have hel:=jcd (prog:=prog) (w:=w) hin;have hkey:(intKind prog w).is (k:Int) (.int k tk)=true:=(isInt_iff k k tk).trans (by simp);have hf':(zS (keys L) led).fits (esL L).toArray.size=true:=by rw [yx];exact hf
 unfold setAddHashed setAddHashedIn;refine wpAny_holding (we (wpAny_setState_of ho rfl hf' ?_));dsimp only;rw [byScan_of (knd:=intKind prog w) rfl hb hel];simp only [↓reduceIte];unfold setAddByScan;refine we (we (wpAny_rule (we (wpAny_setScan_of (knd:=intKind prog w) hkey ho rfl hf' hel ?_))));have hfo:=qcU L k;cases hr:List.findIdx? (λe=>(intKind prog w).is (k:Int) e.2) (esL L).toArray.toList with
 | some j =>
  have hm:k∈keys L:=by
   refine Classical.byContradiction λz=>?_
   have:=hfo.mpr z
   rw [show List.findIdx? (λe=>Value.isInt (k:Int) e.2) (esL L).toArray.toList=some j from hr] at this;cases this
  dsimp only;refine wm (wm ?_);have e:s={ s with heap:=s.heap }:=by cases s;rfl
  rw [e];exact h _ s.heap L (Heap.SameBut.refl a s.heap) hS (by rw [if_pos hm])
 | none =>
  have hm:k∉keys L:=hfo.mp hr;have F:=qdA hin hk hm led;dsimp only
  have hgw:∀ (b:Bool) {s₁:Shared} {Q':Unit->Shared->Prop},Q' () s₁->wpAny (model prog w) A (match b with | true=>rule "set.scan.the-table-gave-way" | false=>pure ()) Q' E s₁ :=
   λb s₁ Q' hq=>by cases b<;>first | exact wm hq | exact wpAny_rule hq
  obtain ⟨L',hL'⟩:∃ L',L'=L.take (cnt k (keys L))++(k,tk)::L.drop (cnt k (keys L)):=⟨_,rfl⟩;have hkL:keys L'=yav k (keys L):=by rw [hL',za9];exact F.ins
  have hlen:(keys L').length=(keys L).length+1:=by
   rw [hL',za9,wU,List.length_cons,List.length_take,List.length_drop]
   have:=ycz k (keys L)
   omega
  have hLay:layNew (zS (keys L) led) (esL L).toArray (hashInt k) (.int k tk)=((esL L').toArray,jaJ (keys L) k led,false,false):=by
   unfold layNew;rw [jbF hk,F.free];dsimp only;rw [F.put];dsimp only;rw [ycU L k _ tk (by rw [<-yB];exact ycz _ _),<-hL'];have e1:(esL L').toArray.size=(keys L).length+1:=by rw [yx,hlen]
   rw [e1];unfold SetTable.orStandIn;rw [F.fit];rfl
  rw [hLay];dsimp only;refine we (hgw false ?_);have hp:(jaJ (keys L) k led).plain=true:=rfl;rw [hp];simp only [↓reduceIte];rw [hashByValue_scannable 8 (x:=Value.int k tk) rfl];refine we (wm ?_);rw [show plainKind (Value.int (k:Int) tk)=true from rfl];simp only [↓reduceIte];have hin':keys L'∈subs lowM:=by rw [hkL];exact F.mem
  obtain ⟨_,hl8',_⟩:=yab hin' led;have hsz:(esL L').toArray.size<scanBound:=by rw [yx];unfold scanBound;omega
  refine we (wpAny_storeSet_of ho rfl ?_ (fits_of_scanBound hsz));have g1:=zbG (es':=(esL L').toArray) (t':=jaJ (keys L) k led) ho (rfl:(yq L led ep).data=_);have sb1:=Heap.SameBut.update s.heap a (Obj.putSet (esL L').toArray (jaJ (keys L) k led));cases hfull:(jaJ (keys L) k led).tooFull with
  | false =>
   simp only [Bool.not_false,Bool.true_and,hfull,wo,↓reduceIte];refine wm (wm (h _ _ L' sb1 ⟨hin',ep+1,?_⟩ (by rw [if_neg hm,hkL])));rw [g1,F.part hfull,<-hkL];rfl
  | true =>
   simp only [Bool.not_false,Bool.true_and,hfull,↓reduceIte];obtain ⟨r1,r2,r3⟩:=F.full hfull;have e1:(esL L').toArray.size=(keys L).length+1:=by rw [yx,hlen]
   have hRel:relayAll (jaJ (keys L) k led) (esL L').toArray (SetTable.grown (esL L').toArray.size)=((esL L').toArray,zS (keys L') led,false):=by
    unfold relayAll;rw [qbq,hkL,e1,r1];dsimp only
    have e2:(Array.range ((keys L).length+1)).filterMap (λ(i:Nat)=>(esL L').toArray[i]?)=(esL L').toArray:=by
     have:=jab (esL L')
     rwa [show (esL L').length=(keys L).length+1 by simpa using e1] at this
    rw [e2,e1,r2,r3];rfl
   rw [hRel];dsimp only;refine we (hgw false ?_);refine we (wpAny_storeSet_of g1 rfl ?_ (fits_of_scanBound hsz));have g2:=zbG (es':=(esL L').toArray) (t':=zS (keys L') led) g1 rfl;exact wm (wm (h _ _ L' (sb1.trans (Heap.SameBut.update _ a _)) ⟨hin',ep+1+1,g2⟩ (by rw [if_neg hm,hkL])))
end
theorem jB {prog:Program} {w:World} {A:Around} (hh:A.handled=none) (t:Bool) (I a:Addr) (hne:a≠I) (items:Array Value) :
  Walks prog w A I [I,a] [I] items.size (λi v=>items[i]?=some v) (λi h=>SItr t h I a i/\SSeq t h a items):=by
 cases t
 ·exact Walks.list hh I a hne items
 ·exact Walks.tuple hh I a hne items
theorem qa9 {x k:Nat}:∀ {S:List Nat},x∈yav k S↔x=k\/x∈S
 | []=>by simp [yav]
 | y::r=>by
  unfold yav;split
  ·simp
  ·simp only [wu,qa9 (S:=r)];constructor
   ·rintro (h | h | h)
    ·exact .inr (.inl h)
    ·exact .inl h
    ·exact .inr (.inr h)
   ·rintro (h | h | h)
    ·exact .inr (.inl h)
    ·exact .inl h
    ·exact .inr (.inr h)
section
variable {prog:Program} {w:World} {A:Around} {R:Result->Shared->Prop} {I:Addr} {fp wr:List Addr} {G:Array GenState->Array GenState->Prop} {n:Nat} {P:Nat->Value->Prop} {St:Nat->Shared->Prop} {led:Bool}
theorem zce (W:WalksS prog w A.in1 I fp wr G n P St) (S:Addr) (hSf:S∉fp) (val:Nat->Nat) (hval:∀ i v,P i v->∃ t,v=.int (val i:Int) t) (hlt:∀ i,i<n->val i<lowM) :
  ∀ (k i:Nat) (s:Shared) (L:List (Nat×Tok)),n-i=k->i<=n->St i s->jbv s.heap S L led->(∀ x,x∈keys L↔∃ j,j<i/\val j=x) ->
   (∀ s' L',Moved (S::wr) G s s'->jbv s'.heap S L' led->(∀ x,x∈keys L'↔∃ j,j<n/\val j=x)->R (.ok (.ret .none)) s') ->
   codeAny (model prog w) A (.builtin "set.update.loop" ⟨[.ref S,.ref I],[]⟩) R s:=by
 have hSw:S∉wr:=λh=>hSf (W.sub _ h)
 have hsub:∀ b∈wr,b∈S::wr:=λb hb=>wH _ hb
 intro k
 induction k with
 | zero =>
  intro i s L hk hi hst hS hm hR;have hin:i=n:=by omega
  subst hin;refine codeAny_builtin PyProof.Rows.F.entry_set_update_loop ?_;rw [Around.under_plainId PyProof.Rows.F.plain_set_update_loop _];show wpAny _ A.in1 (pyNext (.ref I) >>= _) _ _ s;refine we (W.done s _ _ hst λs' mv=>?_);show wpAny _ A.in1 (ret Value.none) _ _ s';obtain ⟨h1,ep,h2⟩:=hS;exact wm (hR s' L (mv.mono hsub) ⟨h1,ep,mv.heap S _ hSw h2⟩ hm)
 | succ k ih =>
  intro i s L hk hi hst hS hm hR;have hilt:i<n:=by omega
  refine codeAny_builtin PyProof.Rows.F.entry_set_update_loop ?_;rw [Around.under_plainId PyProof.Rows.F.plain_set_update_loop _];show wpAny _ A.in1 (pyNext (.ref I) >>= _) _ _ s;refine we (W.item i s _ _ hilt hst λv s' hP hst' mv=>?_);obtain ⟨t,rfl⟩:=hval i v hP;obtain ⟨h1,ep,h2⟩:=hS;have hS':jbv s'.heap S L led:=⟨h1,ep,mv.heap S _ hSw h2⟩;show wpAny _ A.in1 (holding [Value.int (val i) t] (setAdd S (.int (val i) t)) >>= _) _ _ s';refine we (wpAny_holding ?_);unfold setAdd;refine wpAny_holding ?_;refine we ((intKind prog w).pyHash (k:=(val i:Int)) (intKind_is _ _ _ _) ?_);refine jcU (s:={ s' with toks:=s'.toks+1 }) hS' (hlt i hilt) λb h' L' hsb hS2 hk2=>?_
  refine wm ⟨plainId_quiet PyProof.Rows.F.plain_set_update_loop _,ih (i+1) _ L' (by omega) hilt (W.frame _ s' _ _ hst' (Nat.le_succ _) λb hb o e=>?_) hS2 (λx=>?_) λs'' L'' mv2 hS3 hm3=>?_⟩
  ·exact (hsb.2 b (λh:b=S=>hSf (by rw [<-h];exact hb))).trans e
  ·rw [hk2]
   by_cases hx:val i∈keys L
   ·rw [if_pos hx,hm x];constructor
    ·rintro ⟨j,hj,e⟩;exact ⟨j,by omega,e⟩
    ·rintro ⟨j,hj,e⟩
     by_cases hji:j=i
     ·subst hji;rw [<-e];exact (hm _).mp hx
     ·exact ⟨j,by omega,e⟩
   ·rw [if_neg hx,qa9,hm x];constructor
    ·rintro (e | ⟨j,hj,e⟩)
     ·exact ⟨i,by omega,e.symm⟩
     ·exact ⟨j,by omega,e⟩
    ·rintro ⟨j,hj,e⟩
     by_cases hji:j=i
     ·subst hji;exact .inl e.symm
     ·exact .inr ⟨j,by omega,e⟩
  ·refine hR s'' L'' (Moved.trans W.gtrans ((mv.mono hsub).then_heap (Nat.le_succ _) λb o hb e=>?_) mv2) hS3 hm3;exact (hsb.2 b (λh:b=S=>hb (by rw [h];exact wN))).trans e
end
noncomputable def zk (w:World):Bool:=w.params.followText "set-order"
section
variable {prog:Program} {w:World} {A:Around} {E:Value->Shared->Prop} {s:Shared}
theorem qce (a:Value) {Q₁:Value->Shared->Prop} (h:Q₁ (.ref s.heap.objs.size) { s with heap:=s.heap.push (yq [] (!zk w) 0) }) :
  codeAny (model prog w) A (.call (.builtin "set.__new__") ⟨[.type "set",a],[]⟩) (wants Q₁ E) s:=by
 refine codeAny_of_tree ?_;show wpAny _ A.in1 (do checkBuiltinCall "set.__new__" ⟨[.type "set",a],[]⟩;again (.builtin "set.__new__" ⟨[.type "set",a],[]⟩)) _ _ s;refine we (wpAny_of_eq (F.newCall_set_1 a) (wm ⟨plainId_quiet F.plain_set_new _,codeAny_builtin F.entry_set_new ?_⟩));rw [Around.under_plainId F.plain_set_new _];unfold Builtin.«set.__new__» Builtin.Frozenset.newClass;have hsub:=sub_set_self;obtain ⟨hp,g,d,tk,os⟩:=s;dsimp only
 wp_walk
 refine wpAny_askSetting (wm ?_);dsimp only;simp only [newObj];refine we (wpAny_alloc (wm ?_));exact wm h
theorem sub_tuple_set:isSubtype (.type "tuple") (.type "set")=pure false:=by rw [isSubtype_type];kernel_rfl
theorem sub_tuple_frozenset:isSubtype (.type "tuple") (.type "frozenset")=pure false:=by rw [isSubtype_type];kernel_rfl
end
section
variable {prog:Program} {w:World} {A:Around} {E:Value->Shared->Prop} {s:Shared}
set_option maxHeartbeats 3200000 in
theorem zcV {t:Bool} {S a:Addr} {items:Array Value} {val:Nat->Nat} {led:Bool} {R:Shared->Prop} (hh:A.handled=none) (hl:SSeq t s.heap a items) (hS:jbv s.heap S [] led) (hne:S≠a)
  (hval:∀ (i:Nat) (v:Value),items[i]?=some v->∃ t,v=Value.int (val i:Int) t) (hlt:∀ i,i<items.size->val i<lowM)
  (hR:∀ (h':Heap) (tk:Nat) L,jbv h' S L led->(∀ x,x∈keys L↔∃ j,j<items.size/\val j=x)->(∀ b o,b≠S->s.heap.get? b=some o->h'.get? b=some o)->R { s with heap:=h',toks:=tk }) :
  wpAny (model prog w) A (Builtin.Frozenset.updateFrom "set.__init__" S (.ref a)) (λ_ s'=>R s') E s:=by
 have hSlt:S<s.heap.objs.size:=by obtain ⟨_,ep,q⟩:=hS;exact wy q
 have halt:a<s.heap.objs.size:=by obtain ⟨o,_,ho,_⟩:=hl.ob;exact wy ho
 have fin : wpAny (model prog w) A (pyIter (.ref a)) (λv s' => wpAny (model prog w) A (do let _ <- runValue (.builtin "set.update.loop" ⟨[.ref S, v], []⟩); pure ()) (λ_ s' => R s') E s') E s := by
  refine yt hl (we (wpAny_runValue ?_));have hneI:a≠s.heap.objs.size:=wM halt;have hSf:S∉[s.heap.objs.size,a]:=by simp only [wu,List.not_mem_nil,or_false,not_or];exact ⟨wM hSlt,hne⟩
  obtain ⟨h1,ep,h2⟩:=hS;refine zce ((jB (by simp [hh]) t s.heap.objs.size a hneI items).toS) S hSf val hval hlt (items.size-0) 0 _ [] (by omega) (Nat.zero_le _) ⟨SItr.fresh t s.heap a,hl.at λo e=>wj _ e⟩ ⟨h1,ep,wj _ h2⟩ (λx=>by simp [keys]) λs' L mv hS' hm=>?_
  obtain ⟨h',g',d',tk',os'⟩:=s';have eg:g'=s.gens:=mv.gens;have ed:d'=s.drawn:=mv.drawn;have eo:os'=s.os:=mv.os;subst eg;subst ed;subst eo
  refine wm (hR h' tk' L hS' hm λb o hb e=>mv.heap b o ?_ (wj _ e));simp only [wu,List.not_mem_nil,or_false,not_or];exact ⟨hb,wM (wy e)⟩
 unfold Builtin.Frozenset.updateFrom;obtain ⟨⟨oc,od,odt,osl⟩,n,ho,hc,hn⟩:=hl.ob;simp only at hc;subst hc;have hTy:s.TypeIs (.ref a) n:=⟨_,ho,rfl⟩;have h1:isSubtype (.type n) (.type "set")=pure false:=by rcases hn with rfl | rfl;exact sub_tuple_set;exact F.sub_list_set
 have h2:isSubtype (.type n) (.type "frozenset")=pure false:=by rcases hn with rfl | rfl;exact sub_tuple_frozenset;exact F.sub_list_frozenset
 have h3:(Value.type n==Value.type "dict")=false:=by rcases hn with rfl | rfl<;>decide
 unfold Builtin.Frozenset.isAnySet;generalize hPI:pyIter=PI at fin ⊢;refine we ?_
 wp_walk using wpAny_isInstance hTy h1,wpAny_isInstance hTy h2,wpAny_typeOf hTy
 exact fin
set_option maxHeartbeats 3200000 in
theorem yce {t:Bool} {a:Addr} {items:Array Value} {val:Nat->Nat} {Q:Value->Shared->Prop} (hh:A.handled=none) (hl:SSeq t s.heap a items)
  (hval:∀ (i:Nat) (v:Value),items[i]?=some v->∃ t,v=Value.int (val i:Int) t) (hlt:∀ i,i<items.size->val i<lowM)
  (h:∀ (h':Heap) (tk:Nat) L,jbv h' s.heap.objs.size L (!zk w)->(∀ x,x∈keys L↔∃ j,j<items.size/\val j=x)->(∀ b o,s.heap.get? b=some o->h'.get? b=some o)->Q (.ref s.heap.objs.size) { s with heap:=h',toks:=tk }) :
  wpAny (model prog w) A (call (.type "set") [.ref a]) Q E s:=by
 obtain ⟨c,tl,hmro⟩:=F.called_set.mro;have hmade:=F.called_set.made;have hsub:=F.called_set.sub;refine wpAny_call (codeAny_of_tree ?_);show wpAny _ _ (callAny (.type "set") _) _ _ _;refine wm ⟨Code.quiet_builtin _ (by decide +kernel),codeAny_builtin F.entry_type_call ?_⟩;rw [Around.under_plain (weight_type_call_type "set" [.ref a] []) rfl];have h1:=F.called_set.notType;have h2:=F.called_set.canCreate;have hct:=F.typeCall_set_1 (.ref a)
 repeat (any_goals (first | assumption | wp_step))
 refine codeAny_mono (qce (.ref a) (E:=E) (Q₁:=λobj s₁=>obj=.ref s.heap.objs.size/\s₁={ s with heap:=s.heap.push (yq [] (!zk w) 0) }) ⟨rfl,rfl⟩) λr s₁ hr=>?_
 cases r with
 | error e=>exact hr
 | ok fl =>
  cases fl with
  | ret obj =>
   obtain ⟨rfl,rfl⟩:=hr;have hS:(s.heap.push (yq [] (!zk w) 0)).get? s.heap.objs.size=some (yq [] (!zk w) 0):=wt _ rfl;have hT:Shared.TypeIs { s with heap:=s.heap.push (yq [] (!zk w) 0) } (.ref s.heap.objs.size) "set":=⟨_,hS,rfl⟩;have hli:=F.called_set.init.lookup;have hbi:=F.called_set.init.bind (.ref s.heap.objs.size)
   repeat (any_goals (first | assumption | wp_step))
   refine codeAny_mono (codeAny_call_builtin (R:=wants (λr s₂=>r=.none/\∃ h' tk L,s₂={ s with heap:=h',toks:=tk }/\jbv h' s.heap.objs.size L (!zk w)/\(∀ x,x∈keys L↔∃ j,j<items.size/\val j=x) /\
     (∀ b o,s.heap.get? b=some o->h'.get? b=some o)) E) F.called_set.init.plain F.entry_set_init (check_set_init_1 hT ?_)) λr₂ s₂ hr₂=>?_
   ·have hne:s.heap.objs.size≠a:=by obtain ⟨o,_,ho,_⟩:=hl.ob;exact Nat.ne_of_gt (wy ho)
    have upd:=zcV (prog:=prog) (w:=w) (A:=A.in1.in1) (E:=λe s'=>E e s') (s:={ s with heap:=s.heap.push (yq [] (!zk w) 0) }) (R:=λs₂=>∃ h' tk L,s₂={ s with heap:=h',toks:=tk }/\jbv h' s.heap.objs.size L (!zk w)/\(∀ x,x∈keys L↔∃ j,j<items.size/\val j=x)/\(∀ b o,s.heap.get? b=some o->h'.get? b=some o))
     (by simp [hh]) (hl.at λo e=>wj _ e) ⟨by decide,0,hS⟩ hne hval hlt λh' tk L x1 x2 x3=>⟨h',tk,L,rfl,x1,x2,λb o e=>x3 b o (wM (wy e)) (wj _ e)⟩
    generalize hUF:Builtin.Frozenset.updateFrom=UF at upd;unfold Builtin.«set.__init__» noKeywords;rw [hUF]
    wp_walk
    exact wpAny_mono upd (λ_ s' hq=>wm ⟨rfl,hq⟩) λ_ _ hq=>hq
   ·cases r₂ with
    | error e=>exact hr₂
    | ok fl₂ =>
     cases fl₂ with
     | ret r =>
      obtain ⟨rfl,h',tk,L,rfl,x1,x2,x3⟩:=hr₂
      repeat (any_goals (first | assumption | wp_step))
      exact h _ _ L x1 x2 x3
     | _=>exact hr₂.elim
  | _=>exact hr.elim
end
theorem slot_setit_next:Slot "set_iterator" "__next__" "set_iterator.__next__" :=
 .of (owner:="set_iterator") (n:="__next__") (by rw [typeLookup_type,builtinLookup_eq_fast];kernel_rfl) (by decide +kernel) (by decide +kernel) (by decide +kernel) (by first | exact .inl (by decide +kernel) | exact .inr (by decide +kernel)) (by rw [isSubtype_type];kernel_rfl)
theorem zac:Manifest.owners.lookup (String.ofList ['r','o','t','a','r','e','t','i','_','t','e','s'].reverse)=some Manifest.sig_set_iterator:=by kernel_rfl
theorem zE:entryFor table "set_iterator.__next__"=some Builtin.«set_iterator.__next__»:=entryFor_of_tree (by kernel_rfl)
theorem yF (a:Value):argsOk "set_iterator.__next__" ⟨[a],[]⟩:=by
 unfold argsOk; rw [signature?_of (id:="set_iterator.__next__") (n:=['_','_','t','x','e','n','_','_']) (o:=['r','o','t','a','r','e','t','i','_','t','e','s']) (by kernel_rfl) zac]; kernel_rfl
theorem yaj:entryFor table "set.__iter__"=some Builtin.«frozenset.__iter__» :=
 entryFor_alias (id':="frozenset.__iter__") (by kernel_rfl) (by first | rfl | decide +kernel | (unfold String.splitOn;simp +decide [String.splitOnAux])) (by decide +kernel) (by kernel_rfl)
noncomputable abbrev jF (a:Addr) (slot i n ep:Nat):Obj:={ cls:=.type "set_iterator",dict:=none,data:=.fields #[rawInt slot,rawInt i,.ref a,rawInt n,rawInt ep],slots:=#[] }
section
variable {prog:Program} {w:World} {A:Around} {E:Value->Shared->Prop} {s:Shared}
theorem yy {a:Addr} {L:List (Nat×Tok)} {led:Bool} {ep:Nat} (hin:keys L∈subs lowM) (ho:s.heap.get? a=some (yq L led ep)) {Q:(Array (Int×Value)×Nat×SetTable)->Shared->Prop} (h:Q ((esL L).toArray,ep,zS (keys L) led) s):wpAny (model prog w) A (setState a) Q E s :=
 wpAny_setState_of ho rfl (by rw [yx];exact (yab hin led).1) h
theorem yam (S:List Nat) (led:Bool):(zS S led).plain=true:=by unfold zS;split<;>rfl
theorem jce (S:List Nat) (led:Bool):(zS S led).led=led:=by unfold zS;split<;>rfl
theorem ybq (S:List Nat) (led:Bool):(zS S led).place=S.toArray:=by unfold zS;split<;>rfl
theorem zcf {a:Addr} {L:List (Nat×Tok)} {led:Bool} {ep:Nat} {Q:Value->Shared->Prop} (hin:keys L∈subs lowM) (ho:s.heap.get? a=some (yq L led ep))
  (hQ:Q (.ref s.heap.objs.size) { s with heap:=s.heap.push (jF a 0 0 L.length ep) }):wpAny (model prog w) A (pyIter (.ref a)) Q E s:=by
 have hT:s.TypeIs (.ref a) "set":=⟨_,ho,rfl⟩;refine wpAny_pyIter_slot hT F.slot_set_iter (wW F.slot_set_iter hT yaj ?_ (F.args_set_iter_1 _));unfold Builtin.«frozenset.__iter__» Builtin.Frozenset.slot0 Builtin.Frozenset.sizeOf setEntries setDrawn setEpoch setsByText;refine we (we (m:=slotArgs _ _ _) (wm (wm ?_)));refine we (we (we (yy hin ho (wm (wm ?_)))));refine we (we (yy hin ho (we (we (wpAny_askSetting (wm (wm ?_)))))));have hd:∀ b:Bool,(!b&&(!(zS (keys L) led).plain&&decide ((esL L).toArray.size>1)))=false:=λb=>by rw [yam];cases b<;>rfl
 have hd':=hd (w.params.followText "set-order");refine wpAny_ite_false (vk (Bool.eq_false_iff.mp hd')) ?_;refine we (wm (we (we (yy hin ho (wm ?_)))));refine we (w9 (wm ⟨_,rfl,"set_iterator",_,⟨_,wt _ rfl,rfl⟩,slot_setit_next.lookup,?_⟩));have e:(esL L).toArray.size=L.length:=by rw [yx,yB]
 rw [<-e] at hQ;exact hQ
end
theorem jam {α:Type}:∀ (l:List α) (j:Nat) (h:j<l.length),(l[j]::l.eraseIdx j).Perm l
 | x::r,0,_=>by simp
 | x::r,j+1,h=>by
  have h':j<r.length:=by simpa using h
  have:=jam r j h'
  simp only [List.getElem_cons_succ,List.eraseIdx_cons_succ];exact (List.Perm.swap _ _ _).trans (this.cons x)
theorem qcV {α:Type} (next:Nat->Nat):∀ (left:List α) (k:Nat) (out:Array α),(pickOrder.go next left.length k left out).toList.Perm (out.toList++left):=by
 intro left;generalize hn:left.length=n
 induction n generalizing left with
 | zero=>intro k out;have:=List.length_eq_zero_iff.mp hn;subst this;simp [pickOrder.go]
 | succ n ih =>
  intro k out;have hlt:next k%left.length<left.length:=Nat.mod_lt _ (by omega);have hx:left[next k%left.length]?=some left[next k%left.length]:=by simp [hlt]
  rw [pickOrder.go];generalize hj:next k%left.length=j at hlt hx;simp only [hx];refine (ih (left.eraseIdx j) (by rw [List.length_eraseIdx_of_lt hlt];omega) (k+1) (out.push left[j])).trans ?_;rw [Array.toList_push,List.append_assoc];refine List.Perm.append_left _ ?_;exact jam left j hlt
theorem qbG {α:Type} (next:Nat->Nat) (xs:Array α):(pickOrder next xs).toList.Perm xs.toList:=by
 have:=qcV next xs.toList 0 #[]
 simpa [pickOrder] using this
noncomputable def zan (w:World) (a:Addr) (ep:Nat) (L:List (Nat×Tok)):List (Int×Value):=if zk w then (pickOrder (w.params.setOrder a ep) (esL L).toArray).toList else esL L
theorem zC (w:World) (a:Addr) (ep:Nat) (L:List (Nat×Tok)):(zan w a ep L).Perm (esL L):=by
 unfold zan;split
 ·simpa using qbG (w.params.setOrder a ep) (esL L).toArray
 ·exact List.Perm.refl _
noncomputable def slotAt (w:World) (L:List (Nat×Tok)) (i:Nat):Nat:=if zk w then 0 else if i=0 then 0 else (keys L).getD (i-1) 0+1
theorem below_at {S:List Nat} (h:S∈subs lowM) {i:Nat} (hi:i<S.length):SetTable.below S.toArray (if i=0 then 0 else S.getD (i-1) 0+1)=i:=by
 have:=(jav S h).1
 unfold qcz at this;exact ve (List.all_eq_true.mp this i (vc.mpr hi))
theorem ybG {S:List Nat} (h:S∈subs lowM):S.length<=SetTable.below S.toArray (if S.length=0 then 0 else S.getD (S.length-1) 0+1):=ve (jav S h).2.1
section
variable {prog:Program} {w:World} {A:Around} {E:Value->Shared->Prop} {s:Shared}
theorem ya9 {a:Addr} {L:List (Nat×Tok)} {ep i:Nat} (hin:keys L∈subs lowM) (ho:s.heap.get? a=some (yq L (!zk w) ep)) (hi:i<=L.length) {Q:Option (Value×Nat)->Shared->Prop}
  (h:Q (((zan w a ep L)[i]?).map λe=>(e.2,slotAt w L (i+1))) s):wpAny (model prog w) A (setNext a (slotAt w L i) i ep) Q E s:=by
 unfold setNext;refine we (yy hin ho ?_);dsimp only;unfold setsByText;refine we (we (wpAny_askSetting (wm ?_)));show wpAny _ _ (if (zk w)=true then _ else _) _ _ s;cases hb:zk w with
 | true =>
  rw [if_pos rfl];simp only [bne_self_eq_false,wo,↓reduceIte];unfold setWalk setsByText;refine we (we (yy hin ho ?_));dsimp only;refine we (we (wpAny_askSetting (wm ?_)));show wpAny _ _ (if (zk w)=true then _ else _) _ _ s;rw [hb,if_pos rfl];refine we (wpAny_askSetting (wm (wm ?_)))
  have e:(pickOrder (w.params.setOrder a ep) (esL L).toArray)[i]?=(zan w a ep L)[i]?:=by
   unfold zan;rw [if_pos hb];simp
  show Q (Option.map _ ((pickOrder (w.params.setOrder a ep) (esL L).toArray)[i]?)) s;rw [e];unfold slotAt at h ⊢;rw [if_pos hb] at h ⊢;exact h
 | false =>
  rw [if_neg wz];have hd:(!(zS (keys L) (!zk w)).plain&&decide ((esL L).toArray.size>1))=false:=by rw [yam];rfl
  rw [hb] at hd;refine wpAny_ite_false (vk (Bool.eq_false_iff.mp hd)) ?_;have hl:(!(zS (keys L) (!false)).led&&!(esL L).toArray.isEmpty)=false:=by rw [jce];rfl
  refine we (wpAny_ite_false (vk (Bool.eq_false_iff.mp hl)) (wm ?_));refine wm ?_;rw [ybq];have es:slotAt w L i=if i=0 then 0 else (keys L).getD (i-1) 0+1:=by unfold slotAt;rw [hb];rfl
  rw [es];have eo:zan w a ep L=esL L:=by unfold zan;rw [hb];rfl
  rw [eo] at h;have kl:=yB L
  by_cases hlt:i<L.length
  ·rw [below_at hin (by omega)];have e1:(esL L).toArray[i]?=some ((L[i].1:Int),Value.int L[i].1 L[i].2):=by simp [esL,hlt]
   have e2:(keys L).toArray[i]?=some L[i].1:=by simp [keys,hlt]
   have e3:(esL L)[i]?=some ((L[i].1:Int),Value.int L[i].1 L[i].2):=by simp [esL,hlt]
   have e4:slotAt w L (i+1)=L[i].1+1:=by
    unfold slotAt;rw [hb]
    simp [keys,List.getD,hlt]
   rw [e1,e2];rw [e3,e4] at h;exact h
  ·have hil:i=(keys L).length:=by omega
   have hge:=ybG hin;rw [<-hil] at hge
   have e1:(esL L).toArray[SetTable.below (keys L).toArray (if i=0 then 0 else (keys L).getD (i-1) 0+1)]?=none:=by
    have hz:(esL L).toArray.size=i:=by rw [yx,hil]
    exact Array.getElem?_eq_none (by rw [hz];exact hge)
   have e3:(esL L)[i]?=none:=by simp [esL];omega
   rw [e1];rw [e3] at h;exact h
end
section
variable {prog:Program} {w:World} {A:Around} {E:Value->Shared->Prop} {s:Shared}
theorem qac {a:Addr} {L:List (Nat×Tok)} {led:Bool} {ep:Nat} (hin:keys L∈subs lowM) (ho:s.heap.get? a=some (yq L led ep)) {Q:Array (Int×Value)->Shared->Prop} (h:Q (esL L).toArray s):wpAny (model prog w) A (setEntries a) Q E s:=by
 unfold setEntries;exact we (yy hin ho (wm h))
theorem qcf {it a:Addr} {L:List (Nat×Tok)} {ep i:Nat} {e:Int×Value} {Q:Option Value->Shared->Prop} (hin:keys L∈subs lowM) (ho:s.heap.get? a=some (yq L (!zk w) ep)) (hit:s.heap.get? it=some (jF a (slotAt w L i) i L.length ep))
  (hx:(zan w a ep L)[i]?=some e) (hQ:∀ h',h'.get? it=some (jF a (slotAt w L (i+1)) (i+1) L.length ep)->Heap.SameBut it s.heap h'->Q (some e.2) { s with heap:=h' }):wpAny (model prog w) A (pyNext (.ref it)) Q E s:=by
 have hT:s.TypeIs (.ref it) "set_iterator":=⟨_,hit,rfl⟩
 have hil:i<L.length:=by
  have:=(wq.mp hx).1
  rwa [(zC w a ep L).length_eq,show (esL L).length=L.length by simp [esL]] at this
 unfold pyNext;refine we (wpAny_attempt (w5 (name:=Str.ofString "__next__") hT slot_setit_next (wW slot_setit_next hT zE ?_ (yF _))));unfold Builtin.«set_iterator.__next__»;refine we (m:=slotArgs _ _ _) (wm ?_);refine we (wpAny_fieldsOf hit rfl ?_);show wpAny _ _ (setEntries a >>= _) _ _ s;refine we (qac hin ho ?_);have hsz:(((esL L).toArray.size:Int) != ((L.length:Nat):Int))=false:=by rw [yx,yB];simp
 refine wpAny_ite_false (vk (Bool.eq_false_iff.mp hsz)) ?_;show wpAny _ _ (setNext a ((slotAt w L i:Nat):Int).toNat ((i:Nat):Int).toNat ((ep:Nat):Int).toNat >>= _) _ _ s;rw [wV,wV,wV];refine we (ya9 hin ho (Nat.le_of_lt hil) ?_);rw [hx];dsimp only [Option.map_some];refine we (wX hit (by simp) λh1 q1 s1=>?_)
 replace q1:h1.get? it=some (jF a (slotAt w L (i+1)) i L.length ep):=q1
 refine we (wX q1 (by simp) λh2 q2 s2=>?_)
 replace q2:h2.get? it=some (jF a (slotAt w L (i+1)) (i+1) L.length ep):=q2
 exact wm ⟨_,rfl,wm (hQ h2 q2 (s1.trans s2))⟩
theorem ycf {it a:Addr} {L:List (Nat×Tok)} {ep:Nat} {Q:Option Value->Shared->Prop} (hh:A.handled=none) (hin:keys L∈subs lowM) (ho:s.heap.get? a=some (yq L (!zk w) ep)) (hit:s.heap.get? it=some (jF a (slotAt w L L.length) L.length L.length ep))
  (hQ:∀ h',Heap.ExtBut it s.heap h'->Q none { s with heap:=h' }):wpAny (model prog w) A (pyNext (.ref it)) Q E s:=by
 have hT:s.TypeIs (.ref it) "set_iterator":=⟨_,hit,rfl⟩;obtain ⟨i,hi⟩:∃ i,i=L.length:=⟨_,rfl⟩;have hit':s.heap.get? it=some (jF a (slotAt w L i) i L.length ep):=by rw [hi];exact hit
 have hx:(zan w a ep L)[i]?=none:=by
  rw [List.getElem?_eq_none_iff,(zC w a ep L).length_eq,show (esL L).length=L.length by simp [esL],hi];exact wB _
 unfold pyNext;refine we (wpAny_attempt (w5 (name:=Str.ofString "__next__") hT slot_setit_next (wW slot_setit_next hT zE ?_ (yF _))));unfold Builtin.«set_iterator.__next__»;refine we (m:=slotArgs _ _ _) (wm ?_);refine we (wpAny_fieldsOf hit' rfl ?_);show wpAny _ _ (setEntries a >>= _) _ _ s;refine we (qac hin ho ?_);have hsz:(((esL L).toArray.size:Int) != ((L.length:Nat):Int))=false:=by rw [yx,yB];simp
 refine wpAny_ite_false (vk (Bool.eq_false_iff.mp hsz)) ?_;show wpAny _ _ (setNext a ((slotAt w L i:Nat):Int).toNat ((i:Nat):Int).toNat ((ep:Nat):Int).toNat >>= _) _ _ s;rw [wV,wV,wV];refine we (ya9 hin ho (Nat.le_of_eq hi) ?_);rw [hx];dsimp only [Option.map_none];refine we (wX hit' (by simp) λh1 q1 s1=>we ?_);simp only [newExc,newTuple];refine we (w9 (we (m:=firstArgMember _ _) (wpAny_of_eq (a:=Value.none) (by first | rfl | (simp only [firstArgMember];rfl)) (w9 ?_ (by size_fits)))) (by size_fits));simp only [raiseNew];refine we (wpAny_handled ?_)
 first | rw [show A.in1.handled=none from hh] | rw [hh]
 refine we (wm (wpAny_throw ?_));refine we (wpAny_isInstance (T:="StopIteration") (b:=true) ⟨_,wt _ rfl,rfl⟩ isSubtype_stop ?_);exact wm (hQ _ ((s1.extBut.push _).push _))
end
theorem zG:Slot "set_iterator" "__iter__" "set_iterator.__iter__" :=
 .of (owner:="set_iterator") (n:="__iter__") (by rw [typeLookup_type,builtinLookup_eq_fast];kernel_rfl) (by decide +kernel) (by decide +kernel) (by decide +kernel) (by first | exact .inl (by decide +kernel) | exact .inr (by decide +kernel)) (by rw [isSubtype_type];kernel_rfl)
theorem jZ:entryFor table "set_iterator.__iter__"=some Builtin.«dict_keyiterator.__iter__» :=
 entryFor_alias (id':="dict_keyiterator.__iter__") (by kernel_rfl) (by first | rfl | decide +kernel | (unfold String.splitOn;simp +decide [String.splitOnAux])) (by decide +kernel) (by kernel_rfl)
theorem yac (a:Value):argsOk "set_iterator.__iter__" ⟨[a],[]⟩:=by
 unfold argsOk; rw [signature?_of (id:="set_iterator.__iter__") (n:=['_','_','r','e','t','i','_','_']) (o:=['r','o','t','a','r','e','t','i','_','t','e','s']) (by kernel_rfl) zac]; kernel_rfl
section
variable {prog:Program} {w:World} {A:Around} {E:Value->Shared->Prop} {s:Shared}
theorem jbq {it a:Addr} {slot i n ep:Nat} {Q:Value->Shared->Prop} (hit:s.heap.get? it=some (jF a slot i n ep)) (h:Q (.ref it) s):wpAny (model prog w) A (pyIter (.ref it)) Q E s:=by
 have hT:s.TypeIs (.ref it) "set_iterator":=⟨_,hit,rfl⟩;refine wpAny_pyIter_slot hT zG (wW zG hT jZ ?_ (yac _));show wpAny _ _ (ret (.ref it)) _ _ s;exact wm ⟨_,rfl,"set_iterator",_,hT,slot_setit_next.lookup,h⟩
theorem jcf {a:Addr} {L:List (Nat×Tok)} {led:Bool} {ep:Nat} {Q:Bool->Shared->Prop} (ho:s.heap.get? a=some (yq L led ep)) (h:Q false s):wpAny (model prog w) A (Builtin.List.listLengthHint (.ref a)) Q E s:=by
 have hT:s.TypeIs (.ref a) "set":=⟨_,ho,rfl⟩;unfold Builtin.List.listLengthHint;refine we (wpAny_specialOf hT F.slot_set_len.lookup ?_);have hsp:splitId "set.__len__"=some ("set","__len__"):=by kernel_rfl
 simp only [hsp];refine we (wpAny_isInstance hT sub_set_self ?_);refine wpAny_ite_false rfl ?_;refine wpAny_ite_true (by decide +kernel) ?_;exact we (wpAny_typeOf hT (wm h))
end
theorem jbG {prog:Program} {w:World} {A:Around} (hh:A.handled=none) (I a:Addr) (hne:a≠I) (L:List (Nat×Tok)) (ep:Nat) (hin:keys L∈subs lowM) :
  Walks prog w A I [I,a] [I] L.length (λi v=>∃ e,(zan w a ep L)[i]?=some e/\v=e.2) (λi h=>h.get? I=some (jF a (slotAt w L i) i L.length ep)/\h.get? a=some (yq L (!zk w) ep)) where
 sub:=λb hb=>by simp at hb;simp [hb]
 frame:=λ_ _ _ st hk=>⟨hk I (by simp) _ st.1,hk a (by simp) _ st.2⟩
 item:=λi s Q E hi st hQ=>by
  have hol:i<(zan w a ep L).length:=by rw [(zC w a ep L).length_eq];simpa [esL] using hi
  refine qcf hin st.2 st.1 (e:=(zan w a ep L)[i]) (by simp [hol]) λh' q sb=>?_
  exact hQ _ h' s.toks ⟨_,by simp [hol],rfl⟩ ⟨q,sb.extBut _ _ hne st.2⟩ λb o hb e=>sb.extBut b o (λh=>hb (by simp [h])) e
 done:=λs Q E st hQ=>ycf hh hin st.2 st.1 λh' he=>hQ h' s.toks λb o hb e=>he b o (λh=>hb (by simp [h])) e
 self:=λ_ _ _ _ st hQ=>jbq st.1 hQ
end Eng
end
section
namespace Eng
open PySem PyProof.Rows
theorem zbH {w:World} {a:Addr} {ep:Nat} {L:List (Nat×Tok)} {acc:Array Value} (h:ItemsOf (λi v=>∃ e,(zan w a ep L)[i]?=some e/\v=e.2) acc L.length):acc.toList=(zan w a ep L).map (·.2):=by
 have hl:(zan w a ep L).length=L.length:=by rw [(zC w a ep L).length_eq];simp [esL]
 apply List.ext_getElem?;intro i
 by_cases hi:i<L.length
 ·have hia:i<acc.size:=by rw [h.1];exact hi
  have h1:acc[i]?=some acc[i]:=by simp [hia]
  obtain ⟨e,he,hv⟩:=h.2 i _ h1;rw [wx,he,Array.getElem?_toList,h1,hv];rfl
 ·rw [List.getElem?_eq_none (by simp [h.1];omega),List.getElem?_eq_none (by simp [hl];omega)]
section
variable {prog:Program} {w:World} {A:Around} {E:Value->Shared->Prop} {s:Shared}
theorem yaX {a:Addr} {L:List (Nat×Tok)} {ep:Nat} {Q:List Value->Shared->Prop} (hh:A.handled=none) (hin:keys L∈subs lowM) (ho:s.heap.get? a=some (yq L (!zk w) ep))
  (hQ:∀ (h':Heap) (tk:Nat),s.heap.objs.size<h'.objs.size->(∀ b o,s.heap.get? b=some o->h'.get? b=some o)->Q ((zan w a ep L).map (·.2)) { s with heap:=h',toks:=tk }):wpAny (model prog w) A (collect (.ref a)) Q E s:=by
 have halt:a<s.heap.objs.size:=wy ho;unfold collect;refine we (wpAny_runValue (codeAny_builtin F.entry_proto_collect ?_));rw [Around.under_plainId F.plain_proto_collect _];show wpAny _ A.in1 (newList [] >>= λl=>again (.builtin "list.__iadd__" ⟨[l,.ref a],[]⟩)) _ _ s;refine we (w9 ?_);refine wm ⟨plainId_quiet F.plain_list_iadd _,codeAny_builtin F.entry_list_iadd ?_⟩;rw [Around.under_plainId F.plain_list_iadd _];obtain ⟨n,hn⟩:∃ n,n=s.heap.objs.size:=⟨_,rfl⟩;obtain ⟨h1,e1⟩:∃ h1,h1=s.heap.push { cls:=.type "list",data:=.seq ([]:List Value).toArray }:=⟨_,rfl⟩;have k1:∀ b o,s.heap.get? b=some o->h1.get? b=some o:=λb o e=>e1▸wj _ e
 have g1:h1.get? n=some { cls:=.type "list",data:=.seq ([]:List Value).toArray }:=by rw [e1,hn];exact wt _ rfl
 have s1:h1.objs.size=n+1:=by rw [e1,Heap.size_push,hn]
 have ho1:=k1 _ _ ho;show wpAny _ A.in1 (Builtin.List.listExtendWith (.ref s.heap.objs.size) (.ref a) (.ref s.heap.objs.size)) _ _ { s with heap:=s.heap.push { cls:=.type "list",data:=.seq ([]:List Value).toArray } };rw [<-e1,<-hn];unfold Builtin.List.listExtendWith;refine we (wpAny_typeOf (T:="set") ⟨_,ho1,rfl⟩ ?_);have q1:Builtin.List.listSameRef (.ref n) (.ref a)=false:=by simp [Builtin.List.listSameRef,hn];exact Nat.ne_of_gt halt
 have q2:(Value.type "set"==Value.type "list")=false:=by decide
 have q3:(Value.type "set"==Value.type "tuple")=false:=by decide
 simp only [q1,q2,q3,Bool.or_false,wo,if_false];refine we (zcf hin ho1 ?_);obtain ⟨h2,e2⟩:∃ h2,h2=h1.push (jF a 0 0 L.length ep):=⟨_,rfl⟩;have k2:∀ b o,h1.get? b=some o->h2.get? b=some o:=λb o e=>e2▸wj _ e
 have g2:h2.get? (n+1)=some (jF a 0 0 L.length ep):=by rw [e2,<-s1];exact wt _ rfl
 rw [<-e2,s1];refine we (wpAny_holding (jcf (k2 _ _ ho1) ?_));refine wpAny_ite_true (by decide +kernel) ?_;refine we (wpAny_rule ?_);have g3:=k2 _ _ g1;refine we ?_;show wpAny _ A.in1 (updateSeq n (·.push .none) >>= λ_=>updateSeq n (·.pop)) _ _ _;refine we (wpAny_updateSeq g3 rfl ?_);have g4:=Heap.get?_update_self (Obj.mapSeq (·.push Value.none)) g3 rfl;refine wpAny_updateSeq g4 rfl ?_;have g5:=Heap.get?_update_self (Obj.mapSeq (·.pop)) g4 rfl
 have oth:∀ b o,b≠n->h2.get? b=some o->((h2.update n (Obj.mapSeq (·.push Value.none))).update n (Obj.mapSeq (·.pop))).get? b=some o :=
  λb o hb e=>(Heap.get?_update_other _ _ (Ne.symm hb)).trans ((Heap.get?_update_other _ _ (Ne.symm hb)).trans e)
 have han:a<n:=by rw [hn];exact halt
 have hna:a≠n:=wM han;have slot0:slotAt w L 0=0:=by unfold slotAt;split<;>rfl
 have hl8:=(yab hin true).2.1;have hkl:=yB L;refine wm ⟨plainId_quiet F.plain_extend_loop _,codeAny_extend_loopS ((jbG (prog:=prog) (w:=w) (A:=A.in1) (by simp [hh]) (n+1) a (wM (Nat.lt_succ_of_lt han)) L ep hin).toS) (by rw [sizeLine_eq];omega) n (by simp only [wu,List.not_mem_nil,or_false,not_or];exact ⟨wM (Nat.lt_succ_self n),Nat.ne_of_gt han⟩) _ L.length 0 _ _ _ rfl (Nat.zero_le _) ⟨?_,?_⟩ g5 (ItemsOf.nil _) λs' acc' c' mv hS' hacc=>?_⟩
 ·rw [slot0];exact oth _ _ (Nat.ne_of_gt (Nat.lt_succ_self n)) g2
 ·exact oth _ _ hna (k2 _ _ ho1)
 ·show wpAny _ A (load n >>= _) _ _ s';refine we (wpAny_load hS' (wm ?_));rw [zbH hacc];obtain ⟨h',g',d',tk',os'⟩:=s';have eg:g'=s.gens:=mv.gens;have ed:d'=s.drawn:=mv.drawn;have eo:os'=s.os:=mv.os;subst eg;subst ed;subst eo
  have nlt:n<h'.objs.size:=wy hS';refine hQ h' tk' (hn▸nlt) λb o e=>mv.heap b o ?_ (oth b o ?_ (k2 _ _ (k1 _ _ e)))
  ·have hb:b<n:=by rw [hn];exact wy e
   simp only [wu,List.not_mem_nil,or_false,not_or];exact ⟨wM hb,wM (Nat.lt_succ_of_lt hb)⟩
  ·exact wM (by rw [hn];exact wy e)
theorem zcg (w:World) (a:Addr) (ep:Nat) (L:List (Nat×Tok)):IntsAre ((zan w a ep L).map (·.2)) ((zan w a ep L).map (·.1)):=by
 have:∀ l:List (Int×Value),(∀ e∈l,∃ t,e.2=.int e.1 t)->IntsAre (l.map (·.2)) (l.map (·.1)):=by
  intro l
  induction l with
  | nil=>intro _;exact .nil
  | cons e r ih =>
   intro h;obtain ⟨t,ht⟩:=h e (by simp);rw [List.map_cons,List.map_cons,ht];exact .cons _ _ (ih λe he=>h e (by simp [he]))
 refine this _ λe he=>?_
 have he:=(zC w a ep L).mem_iff.mp he;obtain ⟨p,hp,rfl⟩:=wG.mp he;exact ⟨p.2,rfl⟩
theorem zbr {a:Addr} {L:List (Nat×Tok)} {Q:Value->Shared->Prop} (hh:A.handled=none) (hS:jbv s.heap a L (!zk w))
  (hQ:∀ (h':Heap) (tk:Nat) (l:Addr) (out:List Value) (ns:List Int) (ep:Nat),(∀ b o,s.heap.get? b=some o->h'.get? b=some o)->s.heap.objs.size<=l->h'.get? l=some { cls:=.type "list",data:=.seq out.toArray ep }->IntsAre out ns->ns.Perm ((keys L).map Int.ofNat)->ns.Pairwise (·<=·)->Q (.ref l) { s with heap:=h',toks:=tk }) :
  wpAny (model prog w) A (call (.builtin "sorted") [.ref a]) Q E s:=by
 obtain ⟨hin,ep,ho⟩:=hS;refine Calls.call_function_entry kind_sorted plain_sorted entry_sorted (args_sorted1 _) ?_;unfold Builtin.«sorted»;refine we (m:=checkCount "sorted" 1 1 _) (wm ?_);refine we (yaX (by simp [hh]) hin ho λh1 tk hz k1=>?_)
 have hlen:((zan w a ep L).map (·.2)).length<=8:=by
  rw [wC,(zC w a ep L).length_eq]
  have:=(yab hin true).2.1
  rw [yB] at this;simpa [esL] using this
 refine we (wpAny_newList ?_ (by rw [sizeLine_eq];omega));obtain ⟨vs,hvs⟩:∃ vs,vs=(zan w a ep L).map (·.2):=⟨_,rfl⟩;have hints:=zcg w a ep L;rw [<-hvs] at hlen hints ⊢;have hoL:(h1.push (seqObj "list" vs.toArray 0)).get? h1.objs.size=some (seqObj "list" vs.toArray 0):=wt _ rfl;show wpAny _ _ _ _ _ { s with heap:=h1.push (seqObj "list" vs.toArray 0),toks:=tk };refine we (wpAny_holding (wW slot_list_sort ⟨_,hoL,rfl⟩ entry_list_sort (list_sort_tree hoL hints (by omega) λout ns' a1 a2 a3=>⟨_,rfl,?_⟩) (args_list_sort _)));obtain ⟨ep',hat⟩:=sortedHeap_at (out:=out) hoL
 have old:∀ b o,h1.get? b=some o->(sortedHeap (h1.push (seqObj "list" vs.toArray 0)) h1.objs.size vs out).get? b=some o:=λb o e=>by
  rw [sortedHeap_old (wM (wy e)) (by rw [size_push'];exact Nat.lt_succ_of_lt (wy e))];exact wj _ e
 refine wm ⟨_,rfl,hQ _ tk h1.objs.size out.toList ns' ep' (λb o e=>old b o (k1 b o e)) (Nat.le_of_lt hz) (by simpa using hat) a1 (a2.trans ?_) a3⟩;have p:=(zC w a ep L).map (·.1);rwa [show (esL L).map (·.1)=(keys L).map Int.ofNat by simp [esL,keys]] at p
end
end Eng
end
section
namespace Eng
open PySem PySem.Spec PyProof.Rows L2
def SqS (K:Frag) (H:Hp) (a:Addr) (ns:List Int):Prop :=
 (∃ o,H a=some (.frz o (.lst (ns.map V.int)))) \/
  ∃ (o:Obj) (its:Array Value) (n:Nat),K.lookup a=some o/\o.cls=.type "list"/\o.dict=none/\o.data=.seq its n/\its.size<=sizeLine/\Vals (ns.map V.int) its.toList
theorem SqS.sq {K:Frag} {H:Hp} {a:Addr} {ns:List Int} (h:SqS K H a ns):SqL K H a (ns.map V.int):=by
 rcases h with ⟨o,h⟩ | h
 ·exact .inl (.inr ⟨o,h⟩)
 ·exact .inr h
theorem SqS.of {K:Frag} {H:Hp} {a:Addr} {ns:List Int} (o:zdw H) (h:SqL K H a (ns.map V.int)):SqS K H a ns:=by
 rcases h with (h | ⟨ob,h⟩) | h
 ·rcases o a with z | ⟨ob,xs,z⟩ | ⟨p,q,z⟩<;>(rw [h] at z;cases z)
 ·exact .inl ⟨ob,h⟩
 ·exact .inr h
noncomputable abbrev qcg (es:Array DictEntry) (ep:Nat):Obj:={ cls:=.type "dict",data:=.dict es ep }
noncomputable abbrev j3 (a:Addr) (es:Array DictEntry) (ep:Nat):HO:=.ext λh=>h.get? a=some (qcg es ep)
class Tb where
 tabs:List (Addr×Pos×Str)
variable [Tb]
mutual
inductive Rep (K:Frag) (B:Addr->Prop) (H:Hp):V->D->Prop where
 | non:Rep K B H .non .non
 | bl (b:Bool):Rep K B H (.bl b) (.bl b)
 | int (i:Int):Rep K B H (.int i) (.int i)
 | str (x:Str):Rep K B H (.str x) (.str x)
 | tup {a:Addr} {vs:List V} {ds:List D}:H a=some (.tup vs)->Reps K B H vs ds->Rep K B H (.ref a) (.tup ds)
 | lst {a:Addr} {vs:List V} {ds:List D}:¬ B a->H a=some (.lst vs)->Reps K B H vs ds->Rep K B H (.ref a) (.lst ds)
 | scr {a:Addr} {ns:List Int}:SqS K H a ns->Rep K B H (.ref a) (.scr ns)
 | grp {a:Addr} {es:Array DictEntry} {ep:Nat} {vs:List V} {ds:List D}:¬ B a->H a=some (j3 a es ep)->(a==sysModules)=false->vs.length<=sizeLine->Vals vs (es.toList.map (·.val))->Reps K B H vs ds->Rep K B H (.ref a) (.grp ds)
 | mem {a:Addr} {m:MemP}:H a=some (.mm m)->Rep K B H (.ref a) (.mem m)
inductive Reps (K:Frag) (B:Addr->Prop) (H:Hp):List V->List D->Prop where
 | nil:Reps K B H [] []
 | cons {v:V} {d:D} {vs:List V} {ds:List D}:Rep K B H v d->Reps K B H vs ds->Reps K B H (v::vs) (d::ds)
end
structure HB (B:Addr->Prop) (H:Hp):Prop where
 h:∀ b,B b->(∃ xs,H b=some (.lst xs))\/∃ es ep,H b=some (j3 b es ep)
 t:∀ x∈Tb.tabs,H x.1=some (.tbl x.2.1 x.2.2)
theorem HB.notM {B:Addr->Prop} {H:Hp} {a:Addr} {m:MemP} (hb:HB B H) (e:H a=some (.mm m)):¬ B a:=λz=>by
 rcases hb.h a z with ⟨xs,q⟩ | ⟨es,ep,q⟩<;>(rw [e] at q;cases q)
theorem HB.notT {B:Addr->Prop} {H:Hp} {a:Addr} {vs:List V} (hb:HB B H) (e:H a=some (.tup vs)):¬ B a:=λz=>by
 rcases hb.h a z with ⟨xs,q⟩ | ⟨es,ep,q⟩<;>(rw [e] at q;cases q)
theorem HB.notN {B:Addr->Prop} {H:Hp} {a:Addr} (hb:HB B H) (e:H a=none):¬ B a:=λz=>by
 rcases hb.h a z with ⟨xs,q⟩ | ⟨es,ep,q⟩<;>(rw [e] at q;cases q)
theorem HB.notF {B:Addr->Prop} {H:Hp} {a:Addr} {o:Obj} {u:HO} (hb:HB B H) (e:H a=some (.frz o u)):¬ B a:=λz=>by
 rcases hb.h a z with ⟨xs,q⟩ | ⟨es,ep,q⟩<;>(rw [e] at q;cases q)
def jt (B:Addr->Prop) (H H':Hp):Prop:=∀ b o,¬ B b->H b=some o->H' b=some o
section
variable {K:Frag} {B B':Addr->Prop} {H H':Hp}
theorem HB.same (h:HB B H) (s:Same H H'):HB B H':=⟨λb hb=>(h.h b hb).imp (λ⟨xs,e⟩=>⟨xs,s b _ e⟩) λ⟨es,ep,e⟩=>⟨es,ep,s b _ e⟩,λx hx=>s _ _ (h.t x hx)⟩
mutual
theorem Rep.mono (hb:HB B H) (s:jt B H H'):∀ {v:V} {d:D},Rep K B H v d->Rep K B H' v d
 | _,_,.non=>.non
 | _,_,.bl b=>.bl b
 | _,_,.int i=>.int i
 | _,_,.str x=>.str x
 | _,_,.tup e r=>.tup (s _ _ (hb.notT e) e) (Reps.mono hb s r)
 | _,_,.lst n e r=>.lst n (s _ _ n e) (Reps.mono hb s r)
 | _,_,.scr (.inl ⟨o,e⟩)=>.scr (.inl ⟨o,s _ _ (hb.notF e) e⟩)
 | _,_,.scr (.inr h)=>.scr (.inr h)
 | _,_,.grp n e y z w r=>.grp n (s _ _ n e) y z w (Reps.mono hb s r)
 | _,_,.mem e=>.mem (s _ _ (hb.notM e) e)
theorem Reps.mono (hb:HB B H) (s:jt B H H'):∀ {vs:List V} {ds:List D},Reps K B H vs ds->Reps K B H' vs ds
 | _,_,.nil=>.nil
 | _,_,.cons a r=>.cons (Rep.mono hb s a) (Reps.mono hb s r)
end
mutual
theorem Rep.same (s:Same H H'):∀ {v:V} {d:D},Rep K B H v d->Rep K B H' v d
 | _,_,.non=>.non
 | _,_,.bl b=>.bl b
 | _,_,.int i=>.int i
 | _,_,.str x=>.str x
 | _,_,.tup e r=>.tup (s _ _ e) (Reps.same s r)
 | _,_,.lst n e r=>.lst n (s _ _ e) (Reps.same s r)
 | _,_,.scr (.inl ⟨o,e⟩)=>.scr (.inl ⟨o,s _ _ e⟩)
 | _,_,.scr (.inr h)=>.scr (.inr h)
 | _,_,.grp n e y z w r=>.grp n (s _ _ e) y z w (Reps.same s r)
 | _,_,.mem e=>.mem (s _ _ e)
theorem Reps.same (s:Same H H'):∀ {vs:List V} {ds:List D},Reps K B H vs ds->Reps K B H' vs ds
 | _,_,.nil=>.nil
 | _,_,.cons a r=>.cons (Rep.same s a) (Reps.same s r)
end
mutual
theorem Rep.less (s:∀ b,B' b->B b):∀ {v:V} {d:D},Rep K B H v d->Rep K B' H v d
 | _,_,.non=>.non
 | _,_,.bl b=>.bl b
 | _,_,.int i=>.int i
 | _,_,.str x=>.str x
 | _,_,.tup e r=>.tup e (Reps.less s r)
 | _,_,.lst n e r=>.lst (λz=>n (s _ z)) e (Reps.less s r)
 | _,_,.scr h=>.scr h
 | _,_,.grp n e y z w r=>.grp (λq=>n (s _ q)) e y z w (Reps.less s r)
 | _,_,.mem e=>.mem e
theorem Reps.less (s:∀ b,B' b->B b):∀ {vs:List V} {ds:List D},Reps K B H vs ds->Reps K B' H vs ds
 | _,_,.nil=>.nil
 | _,_,.cons a r=>.cons (Rep.less s a) (Reps.less s r)
end
mutual
theorem Rep.clean:∀ {v:V} {d:D},noL d=true->Rep K B H v d->Rep K B' H v d
 | _,_,_,.non=>.non
 | _,_,_,.bl b=>.bl b
 | _,_,_,.int i=>.int i
 | _,_,_,.str x=>.str x
 | _,_,n,.tup e r=>.tup e (Reps.clean (by simpa [noL] using n) r)
 | _,_,n,.lst _ _ _=>by simp [noL] at n
 | _,_,_,.scr h=>.scr h
 | _,_,n,.grp _ _ _ _ _ _=>by simp [noL] at n
 | _,_,_,.mem e=>.mem e
theorem Reps.clean:∀ {vs:List V} {ds:List D},yai ds=true->Reps K B H vs ds->Reps K B' H vs ds
 | _,_,_,.nil=>.nil
 | _,_,n,.cons a r=>by
  rw [yai,wg] at n;exact .cons (Rep.clean n.1 a) (Reps.clean n.2 r)
end
theorem Reps.length:∀ {vs:List V} {ds:List D},Reps K B H vs ds->vs.length=ds.length
 | _,_,.nil=>rfl
 | _,_,.cons _ r=>by simp [Reps.length r]
theorem Reps.get:∀ {vs:List V} {ds:List D} {i:Nat} {d:D},Reps K B H vs ds->ds[i]?=some d->∃ v,vs[i]?=some v/\Rep K B H v d
 | _,_,_,_,.nil,e=>by simp at e
 | _,_,0,_,.cons a r,e=>⟨_,rfl,by simp at e;subst e;exact a⟩
 | _,_,i+1,_,.cons a r,e=>Reps.get (i:=i) r (by simpa using e)
theorem Reps.append:∀ {vs ws:List V} {ds es:List D},Reps K B H vs ds->Reps K B H ws es->Reps K B H (vs++ws) (ds++es)
 | _,_,_,_,.nil,s=>s
 | _,_,_,_,.cons a r,s=>.cons a (Reps.append r s)
theorem Reps.take:∀ {vs:List V} {ds:List D} (n:Nat),Reps K B H vs ds->Reps K B H (vs.take n) (ds.take n)
 | _,_,0,_=>.nil
 | _,_,_+1,.nil=>.nil
 | _,_,n+1,.cons a r=>.cons a (Reps.take n r)
theorem Reps.drop:∀ {vs:List V} {ds:List D} (n:Nat),Reps K B H vs ds->Reps K B H (vs.drop n) (ds.drop n)
 | _,_,0,r=>r
 | _,_,_+1,.nil=>.nil
 | _,_,n+1,.cons a r=>Reps.drop n r
theorem Reps.rep {vs:List V} {ds:List D} (r:Reps K B H vs ds):∀ k:Nat,Reps K B H (List.replicate k vs).flatten (List.replicate k ds).flatten
 | 0=>.nil
 | k+1=>by
  rw [List.replicate_succ,List.replicate_succ,List.flatten_cons,List.flatten_cons];exact Reps.append r (Reps.rep r k)
theorem Reps.ints:∀ {vs:List V} {ds:List D} {ns:List Int},Reps K B H vs ds->intsOf ds=some ns->vs=ns.map V.int
 | _,_,_,.nil,e=>by simp [intsOf] at e;subst e;rfl
 | _,_,_,.cons (d:=d) a r,e=>by
  cases d with
  | int i =>
   rw [intsOf] at e;cases q:intsOf _ with
   | none=>rw [q] at e;simp at e
   | some ms =>
    rw [q] at e;simp at e;subst e
    cases a;rw [Reps.ints r q];rfl
  | _=>simp [intsOf] at e
theorem Reps.of_ints:∀ (ns:List Int),Reps K B H (ns.map V.int) (ns.map D.int)
 | []=>.nil
 | n::r=>.cons (.int n) (Reps.of_ints r)
theorem Reps.bls:∀ {vs:List V} {ds:List D} {ts:List Bool},Reps K B H vs ds->zaj ds=some ts->vs=ts.map V.bl
 | _,_,_,.nil,e=>by simp [zaj] at e;subst e;rfl
 | _,_,_,.cons (d:=d) a r,e=>by
  cases d with
  | bl i =>
   rw [zaj] at e;cases q:zaj _ with
   | none=>rw [q] at e;simp at e
   | some ms =>
    rw [q] at e;simp at e;subst e
    cases a;rw [Reps.bls r q];rfl
  | _=>simp [zaj] at e
theorem qa {p:Addr} (h:H p=none) (o:HO):Same H (upd H p o):=λb u q=>by rw [ya (je q h)];exact q
def Fresh (H:Hp) (v:V):Prop:=∃ a,v=.ref a/\H a=none
theorem Fresh.back {v:V} (s:Same H H') (f:Fresh H' v):Fresh H v:=let ⟨a,e,h⟩:=f;⟨a,e,s.free h⟩
theorem Rep.newT {p:Addr} {vs:List V} {ds:List D} (h:H p=none) (r:Reps K B H vs ds):Rep K B (upd H p (.tup vs)) (.ref p) (.tup ds):=.tup ja (r.same (qa h _))
theorem Rep.newL {p:Addr} {vs:List V} {ds:List D} (hb:HB B H) (h:H p=none) (r:Reps K B H vs ds):Rep K B (upd H p (.lst vs)) (.ref p) (.lst ds) :=
 .lst (hb.notN h) ja (r.same (qa h _))
def ER (K:Frag) (B:Addr->Prop) (H:Hp) (σ:L2.St) (ρ:En):Prop:=∀ (i:Nat) (d:D),ρ[i]?=some (some d)->∃ v,σ[i]?=some (some v)/\Rep K B H v d
theorem ER.same {σ:L2.St} {ρ:En} (h:ER K B H σ ρ) (s:Same H H'):ER K B H' σ ρ:=λi d e=>let ⟨v,q,r⟩:=h i d e;⟨v,q,r.same s⟩
end
def tD (K:Frag) (B:Addr->Prop) (ρ:En) (d:D):TE:=λσ H Q=>HB B H/\ER K B H σ ρ/\∀ v H',Same H H'->Rep K B H' v d->Q v H'
def tF (K:Frag) (B:Addr->Prop) (ρ:En) (d:D):TE:=λσ H Q=>HB B H/\ER K B H σ ρ/\∀ v H',Same H H'->Rep K B H' v d->Fresh H v->Q v H'
def tDs (K:Frag) (B:Addr->Prop) (ρ:En) (ds:List D):TA:=λσ H Q=>HB B H/\ER K B H σ ρ/\∀ vs H',Same H H'->Reps K B H' vs ds->Q vs H'
def tTr (K:Frag) (B:Addr->Prop) (ρ:En) (b:Bool):TT:=λσ H Q=>HB B H/\ER K B H σ ρ/\∀ H',Same H H'->Q b H'
def SE (X:Cx) (C:Tab) (e:Expr) (c:Code):Prop:=∀ B ρ d,ev C c ρ=some d->PE X e (tD X.K B ρ d)
def SF (X:Cx) (C:Tab) (e:Expr) (c:Code):Prop:=∀ B ρ ds,ev C c ρ=some (.lst ds)->PE X e (tF X.K B ρ (.lst ds))
def SA (X:Cx) (C:Tab) (es:List Expr) (cs:Codes):Prop:=∀ B ρ ds,evs C cs ρ=some ds->PA X es (tDs X.K B ρ ds)
def SB (X:Cx) (C:Tab) (e:Expr) (c:Code):Prop:=∀ B ρ d k,ev C c ρ=some d->truO d=some k->PT X e (tTr X.K B ρ k)
def rD2 (K:Frag) (f:D->D->Option D):R2:=λx y H Q=>∃ B dx dy d,HB B H/\Rep K B H x dx/\Rep K B H y dy/\f dx dy=some d /\
 ∀ v H',Same H H'->Rep K B H' v d->(∀ ds,d=.lst ds->Fresh H v)->Q v H'
def rDs (K:Frag) (f:List D->Option D):List V->Hp->VK->Prop:=λxs H Q=>∃ B dx d,HB B H/\Reps K B H xs dx/\f dx=some d /\
 ∀ v H',Same H H'->Rep K B H' v d->(∀ ds,d=.lst ds->Fresh H v)->Q v H'
theorem _root_.L2.PE.imp {X:Cx} {e:Expr} {t t':TE} (h:PE X e t) (i:∀ σ H Q,t' σ H Q->t σ H Q):PE X e t':=λpins s σ H Q I q=>h pins s σ H Q I (i _ _ _ q)
theorem _root_.L2.PT.imp {X:Cx} {e:Expr} {t t':TT} (h:PT X e t) (i:∀ σ H Q,t' σ H Q->t σ H Q):PT X e t':=λpins s σ H Q I q=>h pins s σ H Q I (i _ _ _ q)
theorem _root_.L2.PA.imp {X:Cx} {e:List Expr} {t t':TA} (h:PA X e t) (i:∀ σ H Q,t' σ H Q->t σ H Q):PA X e t':=λpos pins s σ H Q I q=>h pos pins s σ H Q I (i _ _ _ q)
theorem wa {α β:Type} {o:Option α} {f:α->Option β} {b:β} (h:o.bind f=some b):∃ a,o=some a/\f a=some b:=by
 cases o with
 | none=>cases h
 | some a=>exact ⟨a,rfl,h⟩
theorem wb {α β:Type} {o:Option α} {f:α->β} {b:β} (h:o.map f=some b):∃ a,o=some a/\f a=b:=by
 cases o with
 | none=>cases h
 | some a=>exact ⟨a,rfl,wA h⟩
section
variable {X:Cx} {C:Tab} {a b c:Expr} {ca cb cc:Code} {pos:Pos}
theorem SF.se (h:SF X C a ca):∀ B ρ ds,ev C ca ρ=some (.lst ds)->PE X a (tD X.K B ρ (.lst ds)):=λB ρ ds e =>
 (h B ρ ds e).imp λσ H Q ⟨h1,h2,q⟩=>⟨h1,h2,λv H' s r _=>q v H' s r⟩
theorem ydA {i:Int} {j:Nat}:SE X C (.Constant (.int i) j pos) (.cst (.int i)):=λB ρ d e=>by
 cases e;exact (ydo).imp λσ H Q ⟨_,_,q⟩=>q _ H (Same.refl H) (.int i)
theorem jeb {i:Bool} {j:Nat}:SE X C (.Constant (.bool i) j pos) (.cst (.bl i)):=λB ρ d e=>by
 cases e;exact (jcN).imp λσ H Q ⟨_,_,q⟩=>q _ H (Same.refl H) (.bl i)
theorem jdA {j:Nat}:SE X C (.Constant .none j pos) (.cst .non):=λB ρ d e=>by
 cases e;exact (jdo).imp λσ H Q ⟨_,_,q⟩=>q _ H (Same.refl H) .non
theorem zdB {x:Str} {j:Nat}:SE X C (.Constant (.str x) j pos) (.cst (.str x)):=λB ρ d e=>by
 cases e;exact (zdp).imp λσ H Q ⟨_,_,q⟩=>q _ H (Same.refl H) (.str x)
theorem qdB {i:Nat} {x:Str} (hN:X.N[i]?=some x) (hv:Vis X.env.scope x) (hd:(x==("__debug__":Str))=false) (hcd:(x==("__classdict__":Str))=false):SE X C (.Name x pos) (.var i):=λB ρ d e=>by
 have e':ρ[i]?=some (some d):=by
  rw [ev] at e;cases q:ρ[i]? with
  | none=>rw [q] at e;cases e
  | some o=>rw [q] at e;exact congrArg some e
 refine (zK hN hv hd hcd).imp λσ H Q ⟨_,h2,q⟩=>?_
 obtain ⟨v,e1,r⟩:=h2 i d e';exact ⟨v,e1,q v H (Same.refl H) r⟩
theorem ycV {x:Str} {v:V} {u:Value} {d:D} (hg:Gl X x) (hm:X.mg x=some u) (r:RelV v u) (hv:∀ B H,Rep X.K B H v d) (hd:(x==("__debug__":Str))=false):SE X C (.Name x pos) (.cst d):=λB ρ d' e=>by
 cases e;exact (zcO hg hm r hd).imp λσ H Q ⟨_,_,q⟩=>q v H (Same.refl H) (hv B H)
theorem ycg {K:Frag} {B:Addr->Prop} {ρ:En} {dx dy d:D} {f:D->D->Option D} (hf:f dx dy=some d) {σ:L2.St} {H:Hp} {Q:VK}
  (h1:HB B H) (h2:ER K B H σ ρ) (q:∀ v H',Same H H'->Rep K B H' v d->(∀ ds,d=.lst ds->Fresh H v)->Q v H'):tOp (rD2 K f) (tD K B ρ dx) (tD K B ρ dy) σ H Q :=
 ⟨h1,h2,λx H1 s1 r1=>⟨h1.same s1,h2.same s1,λy H2 s2 r2=>⟨B,dx,dy,d,(h1.same s1).same s2,r1.same s2,r2,hf,λv H' s3 r3 fr=>q v H' ((s1.trans s2).trans s3) r3 λds e=>(fr ds e).back (s1.trans s2)⟩⟩⟩
theorem ydB {op:Operator} (ho:OpR X (binaryOp op) (rD2 X.K (q8 op))) (ha:SE X C a ca) (hb:SE X C b cb):SE X C (.BinOp a op b pos) (.bin op ca cb):=λB ρ d e=>by
 obtain ⟨dx,ex,e⟩:=wa (show (ev C ca ρ).bind _=some d from e);obtain ⟨dy,ey,e⟩:=wa e;exact (jdr ho (ha B ρ dx ex) (hb B ρ dy ey)).imp λσ H Q ⟨h1,h2,q⟩=>ycg e h1 h2 λv H' s r _=>q v H' s r
theorem jdB {op:Operator} (ho:OpR X (binaryOp op) (rD2 X.K (q8 op))) (ha:SE X C a ca) (hb:SE X C b cb):SF X C (.BinOp a op b pos) (.bin op ca cb):=λB ρ ds e=>by
 obtain ⟨dx,ex,e⟩:=wa (show (ev C ca ρ).bind (λx=>(ev C cb ρ).bind λy=>q8 op x y)=some (D.lst ds) from e);obtain ⟨dy,ey,e⟩:=wa e;exact (jdr ho (ha B ρ dx ex) (hb B ρ dy ey)).imp λσ H Q ⟨h1,h2,q⟩=>ycg e h1 h2 λv H' s r f=>q v H' s r (f ds rfl)
theorem zdC (ha:SE X C a ca):SE X C (.UnaryOp .USub a pos) (.neg ca):=λB ρ d e=>by
 obtain ⟨dx,ex,e⟩:=wa (show (ev C ca ρ).bind _=some d from e);cases dx with
 | int i =>
  cases e;refine (zd5 qdt (ha B ρ _ ex)).imp λσ H Q ⟨h1,h2,q⟩=>⟨h1,h2,λv H' s r=>?_⟩
  cases r;exact ⟨i,rfl,q _ H' s (.int _)⟩
 | _=>cases e
noncomputable def zaK (op:CmpOp):D->D->Option D:=λx y=>(zO op x y).map D.bl
theorem qdC {op:CmpOp} (ho:OpR X (compareOp op) (rD2 X.K (zaK op))) (ha:SE X C a ca) (hb:SE X C b cb) (hm:behindInMarks op b=false):SE X C (.Compare a [op] [b] pos) (.cmp op ca cb):=λB ρ d e=>by
 obtain ⟨dx,ex,e⟩:=wa (show (ev C ca ρ).bind _=some d from e);obtain ⟨dy,ey,e⟩:=wa e;exact (ycP ho (ha B ρ dx ex) (hb B ρ dy ey) hm).imp λσ H Q ⟨h1,h2,q⟩=>ycg (f:=zaK op) e h1 h2 λv H' s r _=>q v H' s r
theorem ydC {op:CmpOp} (ho:OpR X (compareOp op) (rD2 X.K (zaK op))) (ha:SE X C a ca) (hb:SE X C b cb) (hm:behindInMarks op b=false):SB X C (.Compare a [op] [b] pos) (.cmp op ca cb):=λB ρ d k' e hk=>by
 obtain ⟨dx,ex,e⟩:=wa (show (ev C ca ρ).bind _=some d from e);obtain ⟨dy,ey,e⟩:=wa e;obtain ⟨k,ek,rfl⟩:=wb e;cases hk;refine (zbz ho (ha B ρ dx ex) (hb B ρ dy ey) hm).imp λσ H Q ⟨h1,h2,q⟩=>?_
 refine ycg (f:=zaK op) (d:=.bl k) (by unfold zaK;rw [ek];rfl) h1 h2 λv H' s r _=>?_
 cases r;exact ⟨k,rfl,q H' s⟩
theorem Rep.tru {K:Frag} {B:Addr->Prop} {H:Hp} {v:V} {d:D} {k:Bool} (r:Rep K B H v d) (hs:truO d=some k):zd7 K v H k:=by
 cases r with
 | non=>cases hs;rfl
 | bl b=>cases hs;rfl
 | int i=>cases hs;rfl
 | str x=>cases hs
 | tup e r=>cases hs;exact .inr (.inl ⟨_,SqT.of e,by cases r<;>rfl⟩)
 | lst n e r=>cases hs;exact .inl ⟨_,SqL.of e,by cases r<;>rfl⟩
 | scr h=>cases hs;exact .inl ⟨_,h.sq,by simp [yek,List.isEmpty_map]⟩
 | grp _ _ _ _ _ _=>cases hs
 | mem _=>cases hs
theorem zec (ha : SE X C a ca) (he : ∀ whole, isTrue a X.env whole = (do let v <- whole; standAt a.pos; holding [v] (truthy v))) : SB X C a ca := λB ρ d k e hk =>
 (yca (ha B ρ d e) he).imp λσ H Q ⟨h1,h2,q⟩=>⟨h1,h2,λv H' s r=>⟨k,r.tru hk,q H' s⟩⟩
theorem jdC (ha:SB X C a ca):SB X C (.UnaryOp .Not a pos) (.not ca):=λB ρ d k e hk=>by
 obtain ⟨dx,ex,e⟩:=wa (show (ev C ca ρ).bind _=some d from e);obtain ⟨t,et,rfl⟩:=wb e;cases hk;exact (jdp (ha B ρ dx t ex et)).imp λσ H Q ⟨h1,h2,q⟩=>⟨h1,h2,λH' s=>q H' s⟩
theorem zdD (ha:SE X C a ca):SE X C (.UnaryOp .Not a pos) (.not ca):=λB ρ d e=>by
 obtain ⟨dx,ex,e⟩:=wa (show (ev C ca ρ).bind _=some d from e);obtain ⟨t,et,rfl⟩:=wb e;intro pins s σ H Q I ⟨h1,h2,q⟩;refine UnaryOp_ (thn (ha B ρ dx ex pins s σ H (λv H'=>Same H H'/\Rep X.K B H' v dx) I ⟨h1,h2,λv H' s r=>⟨s,r⟩⟩) λv s1 ⟨x,H1,I1,r1,s01,rx⟩=>?_);have tr:=zcx pins s1 σ H1 x v (λb H'=>b=t/\H'=H1) I1 r1 ⟨t,rx.tru et,rfl,rfl⟩;refine not_of (thn tr λb s2 z=>?_);obtain ⟨H2,I2,eb,eH⟩:=z;subst eb;subst eH
 exact ⟨.bl (!b),H2,I2,rfl,q _ H2 s01 (.bl _)⟩
theorem qdD {rest:List Expr} {p:Pos} (ha:SB X C a ca) (hb:∀ B ρ d k,ev C cb ρ=some d->truO d=some k->PW X (.BoolOp .And (b::rest) p) (tTr X.K B ρ k)) :
  ∀ B ρ d k,ev C (.and ca cb) ρ=some d->truO d=some k->PW X (.BoolOp .And (a::b::rest) p) (tTr X.K B ρ k):=λB ρ d k e hk=>by
 obtain ⟨dx,ex,e⟩:=wa (show (ev C ca ρ).bind _=some d from e);cases dx with
 | bl t =>
  cases t with
  | true =>
   intro wh pins s σ H Q I ⟨h1,h2,q⟩;exact jcv (ha B ρ _ true ex rfl) (hb B ρ d k e hk) wh pins s σ H Q I ⟨h1,h2,λH' s=>zcS ⟨h1.same s,h2.same s,λH'' s'=>q H'' (s.trans s')⟩⟩
  | false =>
   cases e;cases hk;intro wh pins s σ H Q I ⟨h1,h2,q⟩;exact jcv (tB':=λ_ _ _=>False) (ha B ρ _ false ex rfl) (λ_ _ _ _ _ _ _ z=>z.elim) wh pins s σ H Q I ⟨h1,h2,λH' s=>jcR (q H' s)⟩
 | _=>cases e
theorem qec {rest:List Expr} {p:Pos} (ha:SB X C a ca) (hb:∀ B ρ d k,ev C cb ρ=some d->truO d=some k->PW X (.BoolOp .Or (b::rest) p) (tTr X.K B ρ k)) :
  ∀ B ρ d k,ev C (.or ca cb) ρ=some d->truO d=some k->PW X (.BoolOp .Or (a::b::rest) p) (tTr X.K B ρ k):=λB ρ d k e hk=>by
 obtain ⟨dx,ex,e⟩:=wa (show (ev C ca ρ).bind _=some d from e);cases dx with
 | bl t =>
  cases t with
  | false =>
   intro wh pins s σ H Q I ⟨h1,h2,q⟩;exact ydp (ha B ρ _ false ex rfl) (hb B ρ d k e hk) wh pins s σ H Q I ⟨h1,h2,λH' s=>jcR ⟨h1.same s,h2.same s,λH'' s'=>q H'' (s.trans s')⟩⟩
  | true =>
   cases e;cases hk;intro wh pins s σ H Q I ⟨h1,h2,q⟩;exact ydp (tB':=λ_ _ _=>False) (ha B ρ _ true ex rfl) (λ_ _ _ _ _ _ _ z=>z.elim) wh pins s σ H Q I ⟨h1,h2,λH' s=>zcS (q H' s)⟩
 | _=>cases e
theorem qbr {p:Pos} (ha:SB X C a ca):∀ B ρ d k,ev C ca ρ=some d->truO d=some k->PW X (.BoolOp .And [a] p) (tTr X.K B ρ k):=λB ρ d k e hk=>qcO (ha B ρ d k e hk)
theorem qbH {p:Pos} (ha:SB X C a ca):∀ B ρ d k,ev C ca ρ=some d->truO d=some k->PW X (.BoolOp .Or [a] p) (tTr X.K B ρ k):=λB ρ d k e hk=>qdp (ha B ρ d k e hk)
theorem ydD {op:BoolOp} (ha:SE X C a ca):SE X C (.BoolOp op [a] pos) ca:=λB ρ d e=>zdq (ha B ρ d e)
theorem jdD {rest:List Expr} (ha:SE X C a ca) (hb:SE X C (.BoolOp .And (b::rest) pos) cb):SE X C (.BoolOp .And (a::b::rest) pos) (.and ca cb):=λB ρ d e=>by
 obtain ⟨dx,ex,e⟩:=wa (show (ev C ca ρ).bind _=some d from e);cases dx with
 | bl t =>
  cases t with
  | true =>
   refine (zcw (ha B ρ _ ex) (hb B ρ d e)).imp λσ H Q ⟨h1,h2,q⟩=>⟨h1,h2,λv H' s r=>?_⟩
   cases r;exact ⟨true,rfl,zcS ⟨h1.same s,h2.same s,λv H'' s' r'=>q v H'' (s.trans s') r'⟩⟩
  | false =>
   cases e;refine (zcw (tb:=λ_ _ _=>False) (ha B ρ _ ex) (λ_ _ _ _ _ _ z=>z.elim)).imp λσ H Q ⟨h1,h2,q⟩=>⟨h1,h2,λv H' s r=>?_⟩
   cases r;exact ⟨false,rfl,jcR (q _ H' s (.bl _))⟩
 | _=>cases e
theorem yec {rest:List Expr} (ha:SE X C a ca) (hb:SE X C (.BoolOp .Or (b::rest) pos) cb):SE X C (.BoolOp .Or (a::b::rest) pos) (.or ca cb):=λB ρ d e=>by
 obtain ⟨dx,ex,e⟩:=wa (show (ev C ca ρ).bind _=some d from e);cases dx with
 | bl t =>
  cases t with
  | false =>
   refine (qdq (ha B ρ _ ex) (hb B ρ d e)).imp λσ H Q ⟨h1,h2,q⟩=>⟨h1,h2,λv H' s r=>?_⟩
   cases r;exact ⟨false,rfl,jcR ⟨h1.same s,h2.same s,λv H'' s' r'=>q v H'' (s.trans s') r'⟩⟩
  | true =>
   cases e;refine (qdq (tb:=λ_ _ _=>False) (ha B ρ _ ex) (λ_ _ _ _ _ _ z=>z.elim)).imp λσ H Q ⟨h1,h2,q⟩=>⟨h1,h2,λv H' s r=>?_⟩
   cases r;exact ⟨true,rfl,zcS (q _ H' s (.bl _))⟩
 | _=>cases e
theorem zdE (hc:SB X C c cc) (ha:SE X C a ca) (hb:SE X C b cb):SE X C (.IfExp c a b pos) (.ite cc ca cb):=λB ρ d e=>by
 obtain ⟨dx,ex,e⟩:=wa (show (ev C cc ρ).bind _=some d from e);obtain ⟨k,ek,e⟩:=wa e;cases k with
 | true =>
  rw [if_pos rfl] at e;exact (za6 (tb:=λ_ _ _=>False) (hc B ρ dx true ex ek) (ha B ρ d e) (λ_ _ _ _ _ _ z=>z.elim)).imp λσ H Q ⟨h1,h2,q⟩=>⟨h1,h2,λH' s=>zcS ⟨h1.same s,h2.same s,λv H'' s' r'=>q v H'' (s.trans s') r'⟩⟩
 | false =>
  rw [if_neg wz] at e;exact (za6 (ta:=λ_ _ _=>False) (hc B ρ dx false ex ek) (λ_ _ _ _ _ _ z=>z.elim) (hb B ρ d e)).imp λσ H Q ⟨h1,h2,q⟩=>⟨h1,h2,λH' s=>jcR ⟨h1.same s,h2.same s,λv H'' s' r'=>q v H'' (s.trans s') r'⟩⟩
theorem jq:SA X C [] .nil:=λB ρ ds e=>by
 cases e;exact (zaa).imp λσ H Q ⟨_,_,q⟩=>q [] H (Same.refl H) .nil
theorem yi {es:List Expr} {cs:Codes} (ha:SE X C a ca) (hr:SA X C es cs) (hs:starEach (a::es) X.env=(false,eval a X.env)::starEach es X.env):SA X C (a::es) (.cons ca cs):=λB ρ ds e=>by
 obtain ⟨d,ed,e⟩:=wa (show (ev C ca ρ).bind _=some ds from e);obtain ⟨dr,er,rfl⟩:=wb e;exact (zF (ha B ρ d ed) (hr B ρ dr er) hs).imp λσ H Q ⟨h1,h2,q⟩=>⟨h1,h2,λv H1 s1 r1=>⟨h1.same s1,h2.same s1,λvs H2 s2 r2=>q _ H2 (s1.trans s2) (.cons (r1.same s2) r2)⟩⟩
theorem jcz {es:List Expr} {cs:Codes} {k:Nat} (h:SA X C es cs):SE X C (.Tuple es k pos) (.tup cs):=λB ρ d e=>by
 obtain ⟨ds,ed,e⟩:=wa (show (evs C cs ρ).bind _=some d from e);split at e
 ·rename_i hz;cases e;exact (jdt (h B ρ ds ed)).imp λσ H Q ⟨h1,h2,q⟩=>⟨h1,h2,λvs H1 s1 r1=>⟨by rw [r1.length];exact hz,λp hp=>q _ _ (s1.trans (qa hp _)) (.newT hp r1)⟩⟩
 ·cases e
theorem ybH {es:List Expr} {cs:Codes} (h:SA X C es cs):SF X C (.List es pos) (.lst cs):=λB ρ ds e=>by
 obtain ⟨ds',ed,e⟩:=wa (show (evs C cs ρ).bind (λxs=>if xs.length<=sizeLine then some (D.lst xs) else none)=some (D.lst ds) from e);split at e
 ·rename_i hz;cases e;exact (zdu (h B ρ _ ed)).imp λσ H Q ⟨h1,h2,q⟩=>⟨h1,h2,λvs H1 s1 r1=>⟨by rw [r1.length];exact hz,λp hp=>q _ _ (s1.trans (qa hp _)) (.newL (h1.same s1) hp r1) ⟨p,rfl,s1.free hp⟩⟩⟩
 ·cases e
theorem qdE {es:List Expr} {cs:Codes} (h:SA X C es cs):SE X C (.List es pos) (.lst cs):=λB ρ d e=>by
 have:∃ ds,d=.lst ds:=by
  obtain ⟨ds',ed,e⟩:=wa (show (evs C cs ρ).bind _=some d from e);split at e
  ·cases e;exact ⟨_,rfl⟩
  ·cases e
 obtain ⟨ds,rfl⟩:=this;exact SF.se (ybH h) B ρ ds e
end
end Eng
end
section
namespace Eng
open PySem PySem.Spec PyProof.Rows L2
variable [Tb]
section
variable {K:Frag} {B:Addr->Prop} {H:Hp} {v:V} {ds:List D}
theorem Rep.tupD (r:Rep K B H v (.tup ds)):∃ a vs,v=.ref a/\H a=some (.tup vs)/\Reps K B H vs ds:=by cases r with | tup e r=>exact ⟨_,_,rfl,e,r⟩
theorem Rep.lstD (r:Rep K B H v (.lst ds)):∃ a vs,v=.ref a/\¬ B a/\H a=some (.lst vs)/\Reps K B H vs ds:=by cases r with | lst n e r=>exact ⟨_,_,rfl,n,e,r⟩
theorem Rep.scrD {i:List Int} (r:Rep K B H v (.scr i)):∃ a,v=.ref a/\SqS K H a i:=by cases r with | scr h=>exact ⟨_,rfl,h⟩
end
mutual
noncomputable def toP:D->PyData
 | .non=>.none
 | .bl b=>.bool b
 | .int i=>.int i
 | .str x=>.str x
 | .tup xs=>.tuple (qaK xs)
 | .lst xs=>.list (qaK xs)
 | .scr _=>.none
 | .grp _=>.none
 | .mem _=>.none
noncomputable def qaK:List D->List PyData
 | []=>[]
 | x::xs=>toP x::qaK xs
end
mutual
theorem jy:∀ d:D,noS d=true->(toP d).canLay0=true
 | .non,_=>rfl
 | .bl _,_=>rfl
 | .int _,_=>rfl
 | .str x,h=>h
 | .tup xs,h=>jaX xs h
 | .lst xs,h=>jaX xs h
 | .scr _,h=>by cases h
 | .grp _,h=>by cases h
 | .mem _,h=>by cases h
theorem jaX:∀ ds:List D,yE ds=true->PyData.canLayAll0 (qaK ds)=true
 | [],_=>rfl
 | x::xs,h=>by
  rw [yE,wg] at h;rw [qaK,PyData.canLayAll0,jy x h.1,jaX xs h.2];rfl
end
mutual
theorem yo:∀ d:D,(toP d).depth=dep d
 | .non=>rfl
 | .bl _=>rfl
 | .int _=>rfl
 | .str x=>rfl
 | .tup xs=>by rw [toP,PyData.depth,dep,zaw xs]
 | .lst xs=>by rw [toP,PyData.depth,dep,zaw xs]
 | .scr _=>rfl
 | .grp _=>rfl
 | .mem _=>rfl
theorem zaw:∀ ds:List D,PyData.depthAll (qaK ds)=za5 ds
 | []=>rfl
 | x::xs=>by rw [qaK,PyData.depthAll,za5,yo x,zaw xs]
end
mutual
theorem jac:∀ x y:D,noS x=true->noS y=true->PyData.eqv (toP x) (toP y)=eqD x y
 | .non,y,_,hy=>by cases y<;>first | rfl | cases hy
 | .bl _,y,_,hy=>by cases y<;>first | rfl | cases hy
 | .int _,y,_,hy=>by cases y<;>first | rfl | cases hy
 | .str x,y,_,hy=>by cases y<;>first | rfl | cases hy
 | .tup xs,y,hx,hy=>by
  cases y<;>first | rfl | cases hy | exact zaY xs _ hx hy
 | .lst xs,y,hx,hy=>by
  cases y<;>first | rfl | cases hy | exact zaY xs _ hx hy
 | .scr _,_,h,_=>by cases h
 | .grp _,_,h,_=>by cases h
 | .mem _,_,h,_=>by cases h
theorem zaY:∀ xs ys:List D,yE xs=true->yE ys=true->PyData.eqvAll (qaK xs) (qaK ys)=qbn xs ys
 | [],[],_,_=>rfl
 | [],_::_,_,_=>rfl
 | _::_,[],_,_=>rfl
 | x::xs,y::ys,hx,hy=>by
  rw [yE,wg] at hx hy;rw [qaK,qaK,PyData.eqvAll,qbn,jac x y hx.1 hy.1,zaY xs ys hx.2 hy.2]
end
section
variable {X:Cx} {pins:List (Addr×Obj)} {σ:L2.St} {H:Hp} {s:Shared} {B:Addr->Prop}
mutual
theorem Rep.reads (I:L2.Inv X pins σ H s):∀ {v:V} {d:D} {u:Value},Rep X.K B H v d->L2.RelV v u->noS d=true->∃ as,Reads s.heap u (toP d) as
 | _,_,_,.non,r,_=>by cases r;exact ⟨_,.none⟩
 | _,_,_,.bl b,r,_=>by cases r;exact ⟨_,.bool b⟩
 | _,_,_,.int i,r,_=>by obtain ⟨t,rfl⟩:=r;exact ⟨_,.int i t⟩
 | _,_,_,.str x,r,_=>by obtain ⟨t,rfl⟩:=r;exact ⟨_,.str x t⟩
 | _,_,_,.tup e rs,r,h=>by
  cases r;obtain ⟨_,its,rv,o,ho,hc,_,n,hd⟩:=I.hok _ _ e;obtain ⟨as,q⟩:=Reps.reads I rs rv h;exact ⟨_,.tuple ho hc hd (by simpa using q)⟩
 | _,_,_,.lst _ e rs,r,h=>by
  cases r;obtain ⟨_,its,n,rv,ho⟩:=I.hok _ _ e;obtain ⟨as,q⟩:=Reps.reads I rs rv h;exact ⟨_,.list ho rfl rfl (by simpa using q)⟩
 | _,_,_,.scr _,_,h=>by cases h
 | _,_,_,.grp _ _ _ _ _ _,_,h=>by cases h
 | _,_,_,.mem _,_,h=>by cases h
theorem Reps.reads (I:L2.Inv X pins σ H s):∀ {vs:List V} {ds:List D} {us:List Value},Reps X.K B H vs ds->Vals vs us->yE ds=true->∃ as,ReadsAll s.heap us (qaK ds) as
 | _,_,_,.nil,r,_=>by cases r;exact ⟨_,.nil⟩
 | _,_,_,.cons a rs,r,h=>by
  cases r with
  | cons r1 r2 =>
   rw [yE,wg] at h;obtain ⟨as,q1⟩:=Rep.reads I a r1 h.1;obtain ⟨bs,q2⟩:=Reps.reads I rs r2 h.2;exact ⟨_,.cons q1 q2⟩
end
theorem eqOk_iff {x y:D}:jA x y=true↔(dep x<=40\/dep y<=40)/\noS x=true/\noS y=true:=by
 simp [jA,and_assoc]
theorem ydE (hu:X.A.units+64<cLine) {x y:V} {v u:Value} {dx dy:D} {Q:Value->Shared->Prop} {E:Value->Shared->Prop} (I:L2.Inv X pins σ H s) (rx:L2.RelV x v) (ry:L2.RelV y u) (r1:Rep X.K B H x dx) (r2:Rep X.K B H y dy)
  (h:jA dx dy=true) (q:Q (.bool (eqD dx dy)) s):wpAny (model X.prog X.w) X.A (compareOp .Eq v u) Q E s:=by
 obtain ⟨h1,h2,h3⟩:=eqOk_iff.mp h;obtain ⟨as,q1⟩:=r1.reads I rx h2;obtain ⟨bs,q2⟩:=r2.reads I ry h3;refine SeqAt.compareEq_reads q1 q2 (jy _ h2) (jy _ h3) ?_ (by rw [jac _ _ h2 h3];exact q);rw [yo,yo]
 have:min (dep dx) (dep dy)<=40:=by rcases h1 with z | z<;>omega
 omega
end
section
variable {X:Cx}
theorem jdE {x:D} (h:isS x=true):∃ a,x=.str a:=by
 cases x<;>first | exact ⟨_,rfl⟩ | cases h
theorem zdF {x y:D} (h:(isS x&&isS y)=true):∃ a b,x=.str a/\y=.str b:=by
 rw [wg] at h;obtain ⟨a,e⟩:=jdE h.1;obtain ⟨b,e'⟩:=jdE h.2;exact ⟨a,b,e,e'⟩
theorem jbH {x y:D} {c k:Bool} (hs:¬ (isS x&&isS y)=true) (h:(if ((isS x&&isS y)||jA x y)=true then some c else none)=some k):jA x y=true/\c=k:=by
 rw [Bool.not_eq_true] at hs;rw [hs,Bool.false_or] at h;split at h
 ·rename_i z;exact ⟨z,wA h⟩
 ·cases h
theorem qdF (hu:X.A.units+64<cLine):OpR X (compareOp .Eq) (rD2 X.K (zaK .Eq)):=by
 intro pins s σ H x y v u Q I rx ry ⟨B,dx,dy,d,hb,r1,r2,e,q⟩;obtain ⟨k,ek,rfl⟩:=wb (show (zO .Eq dx dy).map D.bl=some d from e)
 by_cases hs:(isS dx&&isS dy)=true
 ·obtain ⟨a,b,rfl,rfl⟩:=zdF hs;cases ek;cases r1;cases r2;refine qd5 pins s σ H _ _ v u Q I rx ry ⟨rfl,?_⟩;rw [qau];exact q _ H (Same.refl H) (.bl _) (λ_ z=>nomatch z)
 ·have hk:jA dx dy=true/\eqD dx dy=k:=jbH hs ek;refine ydE hu I rx ry r1 r2 hk.1 ?_;rw [hk.2];exact ⟨.bl k,H,I,rfl,q _ H (Same.refl H) (.bl _) (λ_ z=>nomatch z)⟩
end
section
variable {X:Cx}
theorem ydF (hu:X.A.units+64<cLine):OpR X (compareOp .NotEq) (rD2 X.K (zaK .NotEq)):=by
 intro pins s σ H x y v u Q I rx ry ⟨B,dx,dy,d,hb,r1,r2,e,q⟩;obtain ⟨k,ek,rfl⟩:=wb (show (zO .NotEq dx dy).map D.bl=some d from e)
 by_cases hs:(isS dx&&isS dy)=true
 ·obtain ⟨a,b,rfl,rfl⟩:=zdF hs;cases ek;cases r1;cases r2;refine yd5 pins s σ H _ _ v u Q I rx ry ⟨rfl,?_⟩;rw [qau];exact q _ H (Same.refl H) (.bl _) (λ_ z=>nomatch z)
 ·have hk:jA dx dy=true/\(!eqD dx dy)=k:=jbH hs ek;obtain ⟨h1,h2,h3⟩:=eqOk_iff.mp hk.1;obtain ⟨as,q1⟩:=r1.reads I rx h2;obtain ⟨bs,q2⟩:=r2.reads I ry h3
  have hm:X.A.units+min (toP dx).depth (toP dy).depth<cLine:=by
   rw [yo,yo]
   have:min (dep dx) (dep dy)<=40:=by rcases h1 with z | z<;>omega
   omega
  refine SeqAt.compareNe_reads q1 q2 (jy _ h2) (jy _ h3) hm ?_;rw [jac _ _ h2 h3,hk.2];exact ⟨.bl k,H,I,rfl,q _ H (Same.refl H) (.bl _) (λ_ z=>nomatch z)⟩
theorem qaw {f:Int->Int->Bool} {x y:D} {k:Bool} (h:jdl f x y=some k):∃ i j,x=.int i/\y=.int j/\k=f i j:=by
 cases x<;>first | (cases y<;>first | exact ⟨_,_,rfl,rfl,(wA h).symm⟩ | cases h) | cases h
theorem zcA {x y:D} {k:Bool} (h:isC x y=some k):(y=.non/\isN x=k)\/∃ a b,x=.bl a/\y=.bl b/\(a==b)=k:=by
 cases y with
 | non=>exact .inl ⟨rfl,wA (by cases x<;>exact h)⟩
 | bl b=>cases x<;>first | exact .inr ⟨_,_,rfl,rfl,wA h⟩ | cases h
 | _=>cases x<;>cases h
theorem yaw {op:CmpOp} {p:Int->Int->Bool} (hp:∀ dx dy k,zO op dx dy=some k->∃ i j,dx=.int i/\dy=.int j/\k=p i j) (ho:OpR X (compareOp op) (rI0 λi j=>.bl (p i j))):OpR X (compareOp op) (rD2 X.K (zaK op)):=by
 intro pins s σ H x y v u Q I rx ry ⟨B,dx,dy,d,hb,r1,r2,e,q⟩;obtain ⟨k,ek,rfl⟩:=wb (show (zO op dx dy).map D.bl=some d from e);obtain ⟨i,j,rfl,rfl,rfl⟩:=hp dx dy k ek;cases r1;cases r2;exact ho pins s σ H _ _ v u Q I rx ry ⟨i,j,rfl,rfl,q _ H (Same.refl H) (.bl _) (λ_ z=>nomatch z)⟩
theorem jdF:OpR X (compareOp .Lt) (rD2 X.K (zaK .Lt)):=yaw (p:=λi j=>decide (i<j)) (λdx dy k e=>qaw e) jd5
theorem zdG:OpR X (compareOp .LtE) (rD2 X.K (zaK .LtE)):=yaw (p:=λi j=>decide (i<=j)) (λdx dy k e=>qaw e) zd6
theorem qdG:OpR X (compareOp .Gt) (rD2 X.K (zaK .Gt)):=yaw (p:=λi j=>decide (j<i)) (λdx dy k e=>qaw e) qd6
theorem ydG:OpR X (compareOp .GtE) (rD2 X.K (zaK .GtE)):=yaw (p:=λi j=>decide (j<=i)) (λdx dy k e=>qaw e) yd6
theorem zbI {K:Frag} {B:Addr->Prop} {H:Hp} {v:V} {d:D} (r:Rep K B H v d):decide (v=.non)=isN d:=by cases r<;>rfl
theorem jcg {prog:Program} {w:World} {A:Around} {E:Value->Shared->Prop} {s:Shared} {a b:Bool} {Q:Value->Shared->Prop} (h:Q (.bool (a==b)) s):wpAny (model prog w) A (compareOp .Is (.bool a) (.bool b)) Q E s:=by
 cases a<;>cases b<;>(wp_walk;exact h)
theorem qbI {prog:Program} {w:World} {A:Around} {E:Value->Shared->Prop} {s:Shared} {a b:Bool} {Q:Value->Shared->Prop} (h:Q (.bool (!(a==b))) s):wpAny (model prog w) A (compareOp .IsNot (.bool a) (.bool b)) Q E s:=by
 cases a<;>cases b<;>(wp_walk;exact h)
theorem jdG:OpR X (compareOp .Is) (rD2 X.K (zaK .Is)):=by
 intro pins s σ H x y v u Q I rx ry ⟨B,dx,dy,d,hb,r1,r2,e,q⟩;obtain ⟨k,ek,rfl⟩:=wb (show (zO .Is dx dy).map D.bl=some d from e);rcases zcA ek with ⟨rfl,hk⟩ | ⟨a,b,rfl,rfl,hk⟩
 ·cases r2;refine ydt pins s σ H _ _ v u Q I rx ry ⟨rfl,?_⟩;rw [zbI r1,hk];exact q _ H (Same.refl H) (.bl _) (λ_ z=>nomatch z)
 ·cases r1;cases r2;cases rx;cases ry
  refine jcg ⟨.bl k,H,I,by rw [hk];rfl,q _ H (Same.refl H) (.bl _) (λ_ z=>nomatch z)⟩
theorem jcV:OpR X (compareOp .IsNot) (rD2 X.K (zaK .IsNot)):=by
 intro pins s σ H x y v u Q I rx ry ⟨B,dx,dy,d,hb,r1,r2,e,q⟩;obtain ⟨k,ek,rfl⟩:=wb (show (zO .IsNot dx dy).map D.bl=some d from e);obtain ⟨k',ek',rfl⟩:=wb (show (isC dx dy).map not=some k from ek);rcases zcA ek' with ⟨rfl,hk⟩ | ⟨a,b,rfl,rfl,hk⟩
 ·cases r2;refine qcP pins s σ H _ _ v u Q I rx ry ⟨rfl,?_⟩;rw [zbI r1,hk];exact q _ H (Same.refl H) (.bl _) (λ_ z=>nomatch z)
 ·cases r1;cases r2;cases rx;cases ry
  refine qbI ⟨.bl (!k'),H,I,by rw [hk];rfl,q _ H (Same.refl H) (.bl _) (λ_ z=>nomatch z)⟩
noncomputable def zdH:List CmpOp:=[.Eq,.NotEq,.Lt,.LtE,.Gt,.GtE,.Is,.IsNot]
theorem zcW (hu:X.A.units+64<cLine) {op:CmpOp} (h:op∈zdH):OpR X (compareOp op) (rD2 X.K (zaK op)):=by
 cases op with
 | Eq=>exact qdF hu
 | NotEq=>exact ydF hu
 | Lt=>exact jdF
 | LtE=>exact zdG
 | Gt=>exact qdG
 | GtE=>exact ydG
 | Is=>exact jdG
 | IsNot=>exact jcV
 | In=>exact absurd h (by decide)
 | NotIn=>exact absurd h (by decide)
theorem jaw:fillsNumberSlot (.type "tuple") "mul"=pure false :=
 PySem.fillsNumberSlot_seq (r:=some (.builtin "tuple.__rmul__")) (id:="tuple.__mul__") F.slot_tuple_mul.lookup (by decide +kernel) F.slot_tuple_rmul.lookup (by decide +kernel)
theorem ybr:seqRepeat? (.type "tuple")=pure (some (.builtin "tuple.__mul__")):=by
 unfold seqRepeat?;rw [PySem.seqSlot_of (T:="tuple") (name:="__mul__") (id:="tuple.__mul__") F.slot_tuple_mul.lookup (by decide +kernel),PySem.seqSlot_of (T:="tuple") (name:="__rmul__") (id:="tuple.__rmul__") F.slot_tuple_rmul.lookup (by decide +kernel)];rfl
theorem yaK (a:Int) (t:Tok) (l:Addr) (its:Array Value) (n:Nat) (dd:Option Addr) (sl:Array (Option Value)) :
  Meets (Builtin.«int.__rmul__» ⟨[.int a t,.ref l],[]⟩) (λ_ R s=>s.heap.get? l=some { cls:=.type "tuple",dict:=dd,data:=.seq its n,slots:=sl }/\R (.ok (.ret Value.notImplemented)) s) :=
 .of_wp λ_ _ _ _ s h=>by obtain ⟨h0,g0,d0,t0,o0⟩:=s;obtain ⟨hl,h⟩:=h;wp_walk;exact ⟨_,rfl,h⟩
end
theorem jaK (l:Addr) (its:Array Value) (n:Nat) (x:Int) (u:Tok) (dd:Option Addr) (sl:Array (Option Value)) (h0:(decide (x < -(2^63))||decide (x>=2^63))=false) (h1:(its.isEmpty||x==1)=true) :
  Meets (Builtin.«tuple.__mul__» ⟨[.ref l,.int x u],[]⟩) (λ_ R s=>s.heap.get? l=some { cls:=.type "tuple",dict:=dd,data:=.seq its n,slots:=sl }/\R (.ok (.ret (Value.ref l))) s) :=
 .of_wp λ_ _ _ _ s h=>by obtain ⟨h0',g0,d0,t0,o0⟩:=s;obtain ⟨hl,h⟩:=h;have f1:=AutoSeq1.idx_int;have f2:=AutoSeq1.sub_tuple_tuple;wp_walk using AutoSeq1.wpAny_loadPart' hl;refine wpAny_ite_false (by rw [h0];rfl) ?_;wp_walk using AutoSeq1.wpAny_loadPart' hl;exact ⟨_,rfl,h⟩
theorem zaL (l:Addr) (its:Array Value) (n:Nat) (x:Int) (u:Tok) (dd:Option Addr) (sl:Array (Option Value)) (h0:(decide (x < -(2^63))||decide (x>=2^63))=false) (h1:(its.isEmpty||x==1)=false) (h2:(decide (x<=0)||its.isEmpty)=true) :
  Meets (Builtin.«tuple.__mul__» ⟨[.ref l,.int x u],[]⟩) (λ_ R s=>s.heap.get? l=some { cls:=.type "tuple",dict:=dd,data:=.seq its n,slots:=sl }/\R (.ok (.ret (Value.ref s.heap.objs.size))) { s with heap:=s.heap.push { cls:=.type "tuple",data:=.seq #[] } }) :=
 .of_wp λ_ _ _ _ s h=>by obtain ⟨h0',g0,d0,t0,o0⟩:=s;obtain ⟨hl,h⟩:=h;have f1:=AutoSeq1.idx_int;have f2:=AutoSeq1.sub_tuple_tuple;wp_walk using AutoSeq1.wpAny_loadPart' hl;refine wpAny_ite_false (by rw [h0];rfl) ?_;wp_walk using AutoSeq1.wpAny_loadPart' hl;exact ⟨_,rfl,h⟩
theorem qaL (l:Addr) (its:Array Value) (n:Nat) (x:Int) (u:Tok) (dd:Option Addr) (sl:Array (Option Value)) (h0:(decide (x < -(2^63))||decide (x>=2^63))=false) (h1:(its.isEmpty||x==1)=false) (h2:(decide (x<=0)||its.isEmpty)=false)
  (h3:¬ ((its.size:Int)*x>(2^63-1)/8)) (h4:¬ Builtin.Tuple.tupleTooMany ((its.size:Int)*x)=true) (h5:((List.replicate x.toNat its).foldl (·++·) #[]).size<=sizeLine) :
  Meets (Builtin.«tuple.__mul__» ⟨[.ref l,.int x u],[]⟩) (λ_ R s=>s.heap.get? l=some { cls:=.type "tuple",dict:=dd,data:=.seq its n,slots:=sl }/\R (.ok (.ret (Value.ref s.heap.objs.size))) { s with heap:=s.heap.push { cls:=.type "tuple",data:=.seq ((List.replicate x.toNat its).foldl (·++·) #[]) } }) :=
 .of_wp λ_ _ _ _ s h=>by obtain ⟨h0',g0,d0,t0,o0⟩:=s;obtain ⟨hl,h⟩:=h;have f1:=AutoSeq1.idx_int;have f2:=AutoSeq1.sub_tuple_tuple;wp_walk using AutoSeq1.wpAny_loadPart' hl;refine wpAny_ite_false (by rw [h0];rfl) ?_;wp_walk using AutoSeq1.wpAny_loadPart' hl;refine wpAny_ite_false (vk h3) ?_;wp_walk using AutoSeq1.wpAny_loadPart' hl;exact ⟨_,rfl,h⟩
section
variable {X:Cx}
theorem ja9 (its:List Value) (k:Nat):List.foldl (λx1 x2=>x1++x2) #[] (List.replicate k its.toArray)=(List.replicate k its).flatten.toArray:=by
 have:=foldl_rep its k []
 rwa [List.nil_append] at this
theorem qcW:OpR X (binaryOp .Mult) (λx y H Q=>∃ a j vs,x=.ref a/\y=.int j/\H a=some (.tup vs)/\vs.length*j.toNat<=sizeLine/\-(2^63)<=j/\j<2^63 /\
  (j=1->Q (.ref a) H)/\(vs=[]->Q (.ref a) H)/\∀ p,H p=none->Q (.ref p) (upd H p (.tup (List.replicate j.toNat vs).flatten))):=by
 intro pins s σ H x y v u Q I rx ry ⟨a,j,vs,e1,e2,hH,hz,h1,h2,q1,q0,q⟩;subst e1;subst e2
 cases rx;obtain ⟨t,rfl⟩:=ry;obtain ⟨z,its,rv,o,ho,hc,_,n,hd⟩:=I.hok _ _ hH;obtain ⟨oc,od,odt,osl⟩:=o;simp only at hc hd;subst hc;subst hd
 have hl:vs.length=its.length:=rv.length
 have h0:(decide (j < -(2^63))||decide (j>=2^63))=false:=by
  rw [vk (by omega),vk (by omega)];rfl
 have hsz:its.toArray.size=its.length:=by simp
 refine wpAny_binaryOp_repeat_ref (T := "tuple") (U := "int") (by decide) ⟨_, ho, rfl⟩ (λs' => typeIs_int s' j t) jaw F.fills_int_mul F.slot_int_rmul ybr F.slot_int_index.lookup
  (call_meets F.slot_int_rmul (typeIs_int s j t) F.entry_int_rmul (F.args_int_rmul_2 _ _) (yaK j t a its.toArray n od osl) ⟨ho,rfl,⟨_,ho,rfl⟩,?_⟩)
 by_cases c1:(its.toArray.isEmpty||j==1)=true
 ·refine call_meets F.slot_tuple_mul ⟨_,ho,rfl⟩ F.entry_tuple_mul (F.args_tuple_mul_2 _ _) (jaK a its.toArray n j t od osl h0 c1) ⟨ho,?_⟩;refine ⟨.ref a,H,I,rfl,?_⟩;rcases (Bool.or_eq_true _ _).mp c1 with c | c
  ·have:its=[]:=by simpa using c
   rw [this] at hl;exact q0 (List.length_eq_zero_iff.mp hl)
  ·exact q1 (by simpa using c)
 ·have c1':=Bool.eq_false_iff.mpr c1
  by_cases c2:(decide (j<=0)||its.toArray.isEmpty)=true
  ·refine call_meets F.slot_tuple_mul ⟨_,ho,rfl⟩ F.entry_tuple_mul (F.args_tuple_mul_2 _ _) (zaL a its.toArray n j t od osl h0 c1' c2) ⟨ho,?_⟩
   have ej:j.toNat=0:=by
    rw [(Bool.or_eq_false_iff.mp c1').1,Bool.or_false] at c2
    have:=ve c2
    omega
   have q':=q s.heap.objs.size I.fresh;rw [ej] at q';exact ⟨.ref s.heap.objs.size,_,I.laid (t':=s.toks) (o:=.tup []) (λb ob q=>wj _ q) (wB _) ⟨Nat.zero_le _,[],.nil,IsTupN.new _ _⟩,rfl,q'⟩
  ·have c2':=Bool.eq_false_iff.mpr c2
   have jp:0<j:=by
    have:=of_decide_eq_false (Bool.or_eq_false_iff.mp c2').1
    omega
   have hm:((its.toArray.size:Nat):Int)*j=((its.length*j.toNat:Nat):Int):=by
    rw [hsz,Int.natCast_mul,Int.toNat_of_nonneg (by omega)]
   have hz':its.length*j.toNat<=sizeLine:=by rw [<-hl];exact hz
   have h16:sizeLine=16777216:=sizeLine_eq;have hlen:(List.replicate j.toNat its).flatten.length=j.toNat*its.length:=len_rep its j.toNat
   refine call_meets F.slot_tuple_mul ⟨_, ho, rfl⟩ F.entry_tuple_mul (F.args_tuple_mul_2 _ _) (qaL a its.toArray n j t od osl h0 c1' c2' (by rw [hm]; omega) (by
    rw [hm];unfold Builtin.Tuple.tupleTooMany
    intro w;have:=ve w;omega) (by rw [ja9,vh,hlen,Nat.mul_comm];exact hz')) ⟨ho,?_⟩
   rw [ja9]
   exact ⟨.ref s.heap.objs.size,_,I.laid (t':=s.toks) (o:=.tup (List.replicate j.toNat vs).flatten) (λb ob q=>wj _ q) (wB _)
    ⟨by rw [len_rep,Nat.mul_comm];exact hz,_,rv.rep j.toNat,IsTupN.new _ _⟩,rfl,q _ I.fresh⟩
theorem ycW:OpR X (binaryOp .Add) (λx y H Q=>∃ a b vs ws,x=.ref a/\y=.ref b/\H a=some (.tup vs)/\H b=some (.tup ws)/\vs.length+ws.length<=sizeLine /\
  (vs=[]->Q (.ref b) H)/\(ws=[]->Q (.ref a) H)/\∀ p,H p=none->Q (.ref p) (upd H p (.tup (vs++ws)))):=by
 intro pins s σ H x y v u Q I rx ry ⟨a,b,vs,ws,e1,e2,h1,h2,hz,q0,q1,q⟩;subst e1;subst e2
 by_cases hv:vs=[]
 ·cases rx;cases ry;obtain ⟨its,rv,⟨o,ho,hc,n,hd⟩,_⟩:=I.tuple (SqT.of h1);obtain ⟨its2,rw',⟨o2,ho2,hc2,n2,hd2⟩,_⟩:=I.tuple (SqT.of h2);obtain ⟨oc,od,odt,osl⟩:=o;obtain ⟨oc2,od2,odt2,osl2⟩:=o2;simp only at hc hd hc2 hd2;subst hc;subst hd;subst hc2;subst hd2
  exact concat_meets ⟨_,ho,rfl⟩ ⟨_,ho2,rfl⟩ noFill_tuple_add seq_tuple_add PySem.F.slot_tuple_add PySem.F.entry_tuple_add (PySem.F.args_tuple_add_2 _ _)
   (tuple_addW0 a b its.toArray its2.toArray n n2 od od2 osl osl2 (by simpa using rv.nil_iff.mpr hv)) ⟨ho,ho2,⟨.ref b,H,I,rfl,q0 hv⟩⟩
 ·exact zcR pins s σ H _ _ v u Q I rx ry ⟨a,b,vs,ws,rfl,rfl,SqT.of h1,SqT.of h2,hv,hz,q1,λ_=>q⟩
theorem jcW {i j:Int} (h:qD i j=true):CMul i j:=by
 unfold qD at h;rcases (Bool.or_eq_true _ _).mp h with h | h
 ·exact .inl ⟨ve (wg _ _▸h).1,ve (wg _ _▸h).2⟩
 ·exact .inr ⟨ve (wg _ _▸h).1,ve (wg _ _▸h).2⟩
theorem nofr {v:V} {H:Hp} {d:D} (h:∀ ds,d≠.lst ds):∀ ds,d=.lst ds->Fresh H v:=λds e=>absurd e (h ds)
theorem zax {f:Int->Int->Option D} {x y d:D} (h:zcM f x y=some d):∃ i j,x=.int i/\y=.int j/\f i j=some d:=by
 unfold zcM at h;split at h
 ·exact ⟨_,_,rfl,rfl,h⟩
 ·cases h
theorem ybI (op:Operator):OpR X (binaryOp op) (rD2 X.K (q8 op)):=by
 intro pins s σ H x y v u Q I rx ry ⟨B,dx,dy,d,hb,r1,r2,e,q⟩;have qi:∀ k:Int,some (D.int k)=some d->Q (.int k) H:=λk z=>by cases z;exact q _ H (Same.refl H) (.int _) (nofr λ_ z=>nomatch z)
 unfold q8 at e;split at e
 ·unfold zd2 at e;split at e
  ·cases r1;cases r2;exact zds pins s σ H _ _ v u Q I rx ry ⟨_,_,rfl,rfl,qi _ e⟩
  ·split at e
   ·rename_i hc;cases r1;cases r2;cases e
    exact ybo pins s σ H _ _ v u Q I rx ry ⟨_,_,rfl,rfl,hc,q _ H (Same.refl H) (.str _) (nofr λ_ z=>nomatch z)⟩
   ·cases e
  ·split at e
   ·rename_i hc;cases e;obtain ⟨a,vs,rfl,ha,ra⟩:=r1.tupD;obtain ⟨b,ws,rfl,hb',rb⟩:=r2.tupD;refine ycW pins s σ H _ _ v u Q I rx ry ⟨a,b,vs,ws,rfl,rfl,ha,hb',by rw [ra.length,rb.length];exact hc,λz=>?_,λz=>?_,λp hp=>q _ _ (qa hp _) (.newT hp (ra.append rb)) (nofr λ_ z=>nomatch z)⟩
    ·subst z;cases ra;exact q _ H (Same.refl H) r2 (nofr λ_ z=>nomatch z)
    ·subst z;cases rb;rw [List.append_nil] at q;exact q _ H (Same.refl H) r1 (nofr λ_ z=>nomatch z)
   ·cases e
  ·split at e
   ·rename_i hc;cases e;obtain ⟨a,vs,rfl,na,ha,ra⟩:=r1.lstD;obtain ⟨b,ws,rfl,nb,hb',rb⟩:=r2.lstD;exact ydv pins s σ H _ _ v u Q I rx ry ⟨a,b,vs,ws,rfl,rfl,ha,hb',by rw [ra.length,rb.length];exact hc,λp hp=>q _ _ (qa hp _) (.newL hb hp (ra.append rb)) λ_ _=>⟨p,rfl,hp⟩⟩
   ·cases e
  ·cases e
 ·replace e:=zax e
  obtain ⟨i,j,rfl,rfl,e⟩:=e;cases r1;cases r2;exact qds pins s σ H _ _ v u Q I rx ry ⟨_,_,rfl,rfl,qi _ e⟩
 ·unfold qd2 at e;split at e
  ·split at e
   ·rename_i hc;cases r1;cases r2;exact yds pins s σ H _ _ v u Q I rx ry ⟨_,_,rfl,rfl,jcW hc,qi _ e⟩
   ·cases e
  ·split at e
   ·rename_i hc;cases e;obtain ⟨a,vs,rfl,ha,ra⟩:=r1.tupD;cases r2;refine qcW pins s σ H _ _ v u Q I rx ry ⟨a,_,vs,rfl,rfl,ha,by rw [ra.length];exact hc.1,hc.2.1,hc.2.2,λz=>?_,λz=>?_,λp hp=>q _ _ (qa hp _) (.newT hp (ra.rep _)) (nofr λ_ z=>nomatch z)⟩
    ·subst z;refine q _ H (Same.refl H) ?_ (nofr λ_ z=>nomatch z);have e1:∀ ds,qcv (1:Int).toNat ds=ds:=λds=>by show (List.replicate 1 ds).flatten=ds;simp
     rw [e1];exact r1
    ·subst z;cases ra;refine q _ H (Same.refl H) ?_ (nofr λ_ z=>nomatch z);have e1:∀ k,qcv k ([]:List D)=[]:=λk=>by unfold qcv;simp
     rw [e1];exact r1
   ·cases e
  ·split at e
   ·rename_i hc;cases e;obtain ⟨a,vs,rfl,na,ha,ra⟩:=r1.lstD;cases r2;exact jdv pins s σ H _ _ v u Q I rx ry ⟨a,_,vs,rfl,rfl,ha,hc.2.1,hc.2.2,by rw [ra.length];exact hc.1,λp hp=>q _ _ (qa hp _) (.newL hb hp (ra.rep _)) λ_ _=>⟨p,rfl,hp⟩⟩
   ·cases e
  ·cases e
 ·replace e:=zax e
  obtain ⟨i,j,rfl,rfl,e⟩:=e;split at e
  ·rename_i hc;cases r1;cases r2;exact zcP pins s σ H _ _ v u Q I rx ry ⟨_,_,rfl,rfl,hc,qi _ e⟩
  ·cases e
 ·replace e:=zax e
  obtain ⟨i,j,rfl,rfl,e⟩:=e;split at e
  ·rename_i hc;cases r1;cases r2;exact jds pins s σ H _ _ v u Q I rx ry ⟨_,_,rfl,rfl,hc,qi _ e⟩
  ·cases e
 ·replace e:=zax e
  obtain ⟨i,j,rfl,rfl,e⟩:=e;split at e
  ·rename_i hc;cases r1;cases r2;exact zdt pins s σ H _ _ v u Q I rx ry ⟨_,_,rfl,rfl,⟨hc.1,by omega,hc.2.2⟩,qi _ e⟩
  ·cases e
 ·cases e
end
def rE2 (K:Frag) (f:D->D->Option D):R2:=λx y H Q=>∃ B dx dy d,HB B H/\Rep K B H x dx/\Rep K B H y dy/\f dx dy=some d /\
 ∀ v H',Same H H'->Rep K B H' v d->Q v H'
section
variable {X:Cx}
theorem qdH (n:Nat) (i:Int):Eng.ixN n i=L2.ixN n i:=rfl
theorem Reps.atI {K:Frag} {B:Addr->Prop} {H:Hp} {vs:List V} {ds:List D} {i:Int} {d:D} (r:Reps K B H vs ds) (h:Eng.atI ds i=some d):∃ v,L2.atI vs i=some v/\Rep K B H v d:=by
 unfold Eng.atI at h;obtain ⟨j,e,h⟩:=wa h;obtain ⟨v,e2,rv⟩:=r.get h;refine ⟨v,?_,rv⟩;unfold L2.atI;rw [r.length,<-qdH,e];exact e2
theorem ydH:IxR X (rE2 X.K jaE):=by
 intro value slice pins s σ H x y v u Q I rx ry ⟨B,dx,dy,d,hb,r1,r2,e,q⟩ hs;cases dx with
 | tup xs =>
  cases dy with
  | int i =>
   obtain ⟨a,vs,rfl,ha,ra⟩:=r1.tupD;cases r2;obtain ⟨z,ez,rz⟩:=ra.atI e;exact zdv value slice pins s σ H _ _ v u Q I rx ry ⟨a,vs,i,z,rfl,rfl,SqT.of ha,ez,q z H (Same.refl H) rz⟩ hs
  | _=>cases e
 | lst xs =>
  cases dy with
  | int i =>
   obtain ⟨a,vs,rfl,na,ha,ra⟩:=r1.lstD;cases r2;obtain ⟨z,ez,rz⟩:=ra.atI e;exact ybA value slice pins s σ H _ _ v u Q I rx ry ⟨a,vs,i,z,rfl,rfl,SqL.of ha,ez,q z H (Same.refl H) rz⟩ hs
  | _=>cases e
 | scr ns =>
  cases dy with
  | int i =>
   obtain ⟨a,rfl,ha⟩:=r1.scrD;cases r2;obtain ⟨k,ek,rfl⟩:=wb e;have ra:Reps X.K B H (ns.map V.int) (ns.map D.int):=Reps.of_ints ns
   have ek':Eng.atI (ns.map D.int) i=some (.int k):=by
    unfold Eng.atI at ek ⊢;obtain ⟨j,ej,ek⟩:=wa ek;rw [wC,ej];show (ns.map D.int)[j]?=_;rw [wx,ek];rfl
   obtain ⟨z,ez,rz⟩:=ra.atI ek';exact ybA value slice pins s σ H _ _ v u Q I rx ry ⟨a,_,i,z,rfl,rfl,ha.sq,ez,q z H (Same.refl H) rz⟩ hs
  | _=>cases e
 | _=>cases e
variable {C:Tab} {a b:Expr} {ca cb:Code} {pos:Pos}
theorem jdH (ha:SE X C a ca) (hb:SE X C b cb) (hs:yaW b):SE X C (.Subscript a b pos) (.idx ca cb):=λB ρ d e=>by
 obtain ⟨dx,ex,e⟩:=wa (show (ev C ca ρ).bind _=some d from e);obtain ⟨dy,ey,e⟩:=wa e
 exact (yd8 ydH (ha B ρ dx ex) (hb B ρ dy ey) hs).imp λσ H Q ⟨h1,h2,q⟩ =>
  ⟨h1,h2,λx H1 s1 r1=>⟨h1.same s1,h2.same s1,λy H2 s2 r2=>⟨B,dx,dy,d,(h1.same s1).same s2,r1.same s2,r2,e,λv H' s3 r3=>q v H' ((s1.trans s2).trans s3) r3⟩⟩⟩
theorem Reps.one {K:Frag} {B:Addr->Prop} {H:Hp} {vs:List V} {d:D} (r:Reps K B H vs [d]):∃ v,vs=[v]/\Rep K B H v d:=by
 cases r with | cons a r=>cases r;exact ⟨_,rfl,a⟩
theorem Rep.items {K:Frag} {B:Addr->Prop} {H:Hp} {v:V} {d:D} {ds:List D} (r:Rep K B H v d) (h:itemsD d=some ds):∃ a vs,v=.ref a/\(SqL K H a vs\/SqT K H a vs)/\Reps K B H vs ds:=by
 cases r with
 | tup e rs=>cases h;exact ⟨_,_,rfl,.inr (SqT.of e),rs⟩
 | lst n e rs=>cases h;exact ⟨_,_,rfl,.inl (SqL.of e),rs⟩
 | scr hs=>cases h;exact ⟨_,_,rfl,.inl hs.sq,Reps.of_ints _⟩
 | _=>cases h
theorem jbI:qw X (.builtin "len") (rDs X.K (qy .len)):=by
 intro pins s σ H xs us Q I rv ⟨B,dx,d,hb,r,e,q⟩;cases dx with
 | nil=>cases e
 | cons x r' =>
  cases r' with
  | nil =>
   obtain ⟨v,rfl,rx⟩:=r.one
   have go:∀ ds,itemsD x=some ds->d=.int ds.length->wpAny (model X.prog X.w) X.A (call (.builtin "len") us) (EP X pins σ Q) X.xe s:=λds hi hd=>by
    obtain ⟨a,vs,rfl,hs,ra⟩:=rx.items hi;subst hd;refine jaH pins s σ H _ us Q I rv ⟨a,vs,rfl,hs,?_⟩;rw [ra.length];exact q _ H (Same.refl H) (.int _) (nofr λ_ z=>nomatch z)
   cases x with
   | str z =>
    simp only [qy,yd2] at e;split at e
    ·rename_i hz;cases e;cases rx;exact zaI pins s σ H _ us Q I rv ⟨z,rfl,hz,q _ H (Same.refl H) (.int _) (nofr λ_ z=>nomatch z)⟩
    ·cases e
   | tup ds=>exact go ds rfl (by cases e;rfl)
   | lst ds=>exact go ds rfl (by cases e;rfl)
   | scr ns=>exact go (ns.map D.int) rfl (by cases e;rfl)
   | _=>cases e
  | cons _ _=>cases x<;>cases e
theorem qan:qw X (.type "list") (rDs X.K (qy .list)):=by
 intro pins s σ H xs us Q I rv ⟨B,dx,d,hb,r,e,q⟩;cases dx with
 | nil=>cases e
 | cons x r' =>
  cases r' with
  | nil =>
   obtain ⟨v,rfl,rx⟩:=r.one
   have go:∀ ds,itemsD x=some ds->d=.lst ds->wpAny (model X.prog X.w) X.A (call (.type "list") us) (EP X pins σ Q) X.xe s:=λds hi hd=>by
    obtain ⟨a,vs,rfl,hs,ra⟩:=rx.items hi;subst hd;exact qaI pins s σ H _ us Q I rv ⟨a,vs,rfl,hs,λl hl=>q _ _ (qa hl _) (.newL hb hl ra) λ_ _=>⟨l,rfl,hl⟩⟩
   cases x with
   | tup ds=>exact go ds rfl (by cases e;rfl)
   | lst ds=>exact go ds rfl (by cases e;rfl)
   | _=>cases e
  | cons _ _=>cases x<;>cases e
theorem zad:qw X (.type "tuple") (rDs X.K (qy .tuple)):=by
 intro pins s σ H xs us Q I rv ⟨B,dx,d,hb,r,e,q⟩;cases dx with
 | nil=>cases e
 | cons x r' =>
  cases r' with
  | nil =>
   obtain ⟨v,rfl,rx⟩:=r.one;cases x with
   | tup ds =>
    cases e;obtain ⟨a,vs,rfl,ha,ra⟩:=rx.tupD;exact jO pins s σ H _ us Q I rv ⟨a,vs,rfl,.inr ⟨SqT.of ha,q _ H (Same.refl H) rx (nofr λ_ z=>nomatch z)⟩⟩
   | lst ds =>
    cases e;obtain ⟨a,vs,rfl,na,ha,ra⟩:=rx.lstD;exact jO pins s σ H _ us Q I rv ⟨a,vs,rfl,.inl ⟨SqL.of ha,λl hl=>q _ _ (qa hl _) (.newT hl ra) (nofr λ_ z=>nomatch z)⟩⟩
   | _=>cases e
  | cons _ _=>cases x<;>cases e
theorem zbJ:qw X (.type "int") (rDs X.K (qy .int)):=by
 intro pins s σ H xs us Q I rv ⟨B,dx,d,hb,r,e,q⟩;cases dx with
 | nil=>cases e
 | cons x r' =>
  cases r' with
  | nil =>
   obtain ⟨v,rfl,rx⟩:=r.one;cases x with
   | int i =>
    cases e;cases rx;exact qaG pins s σ H _ us Q I rv (.inl ⟨i,rfl,q _ H (Same.refl H) (.int _) (nofr λ_ z=>nomatch z)⟩)
   | bl k =>
    cases e;cases rx;refine qaG pins s σ H _ us Q I rv (.inr ⟨k,rfl,?_⟩)
    have:=q _ H (Same.refl H) (.int (if k=true then 1 else 0)) (nofr λ_ z=>nomatch z)
    cases k<;>exact this
   | _=>cases e
  | cons _ _=>cases x<;>cases e
theorem j4 {x:Str} {id:String} {bb:Blt} {p:Pos} {es:List Expr} {cs:Codes} (hc:qw X (.builtin id) (rDs X.K (qy bb))) (hg:Gl X x) (hm:X.mg x=none) (hv:bootBuiltins x=some (.builtin id)) (ha:SA X C (a::es) cs) (hn:x≠"__name__") (hdb:(x==("__debug__":Str))=false)
  (he:starEach (a::es) X.env=(false,eval a X.env)::starEach es X.env) (hpl:(backTo pos (starEach es X.env)).any (·.1)=false):SE X C (.Call (.Name x p) (a::es) [] pos) (.blt bb cs):=λB ρ d e=>by
 obtain ⟨ds,eds,e⟩:=wa (show (evs C cs ρ).bind _=some d from e);exact (ja6 hc hg hm hv (ha B ρ ds eds) hn hdb he hpl).imp λσ H Q ⟨h1,h2,q⟩=>⟨h1,h2,λvs H1 s1 r1=>⟨B,ds,d,h1.same s1,r1,e,λv H' s2 r2 _=>q v H' (s1.trans s2) r2⟩⟩
theorem qax {x:Str} {T:String} {bb:Blt} {p:Pos} {es:List Expr} {cs:Codes} (hc:qw X (.type T) (rDs X.K (qy bb))) (hg:Gl X x) (hm:X.mg x=none) (hv:bootBuiltins x=some (.type T)) (ha:SA X C (a::es) cs) (hn:x≠"__name__") (hdb:(x==("__debug__":Str))=false)
  (he:starEach (a::es) X.env=(false,eval a X.env)::starEach es X.env) (hpl:(backTo pos (starEach es X.env)).any (·.1)=false):SE X C (.Call (.Name x p) (a::es) [] pos) (.blt bb cs):=λB ρ d e=>by
 obtain ⟨ds,eds,e⟩:=wa (show (evs C cs ρ).bind _=some d from e);exact (jm hc hg hm hv (ha B ρ ds eds) hn hdb he hpl).imp λσ H Q ⟨h1,h2,q⟩=>⟨h1,h2,λvs H1 s1 r1=>⟨B,ds,d,h1.same s1,r1,e,λv H' s2 r2 _=>q v H' (s1.trans s2) r2⟩⟩
theorem zch {x:Str} {T:String} {bb:Blt} {p:Pos} {es:List Expr} {cs:Codes} (hc:qw X (.type T) (rDs X.K (qy bb))) (hg:Gl X x) (hm:X.mg x=none) (hv:bootBuiltins x=some (.type T)) (ha:SA X C (a::es) cs) (hn:x≠"__name__") (hdb:(x==("__debug__":Str))=false)
  (he:starEach (a::es) X.env=(false,eval a X.env)::starEach es X.env) (hpl:(backTo pos (starEach es X.env)).any (·.1)=false):SF X C (.Call (.Name x p) (a::es) [] pos) (.blt bb cs):=λB ρ ds' e=>by
 obtain ⟨ds,eds,e⟩:=wa (show (evs C cs ρ).bind (λxs=>qy bb xs)=some (D.lst ds') from e);exact (jm hc hg hm hv (ha B ρ ds eds) hn hdb he hpl).imp λσ H Q ⟨h1,h2,q⟩=>⟨h1,h2,λvs H1 s1 r1=>⟨B,ds,_,h1.same s1,r1,e,λv H' s2 r2 f=>q v H' (s1.trans s2) r2 ((f _ rfl).back s1)⟩⟩
end
noncomputable def yax:List Nat->List V->L2.St->L2.St
 | i::is,v::vs,σ=>yax is vs (σ.set i (some v))
 | _,_,σ=>σ
def gT (t:Tgt):TG:=λv σ H Q=>match t with
 | .one i=>Q (σ.set i (some v)) H
 | .many is=>∃ a vs,v=.ref a/\H a=some (.tup vs)/\vs.length=is.length/\Q (yax is vs σ) H
theorem qG:∀ (is:List Nat) (vs:List V) (σ:L2.St),(yax is vs σ).length=σ.length
 | [],_,_=>by cases ‹List V›<;>rfl
 | _::_,[],_=>rfl
 | i::is,v::vs,σ=>by rw [yax,qG is vs];simp
section
variable {K:Frag} {B:Addr->Prop} {H:Hp}
theorem ER.set {σ:L2.St} {ρ:En} {i:Nat} {v:V} {d:D} (h:ER K B H σ ρ) (hi:i<σ.length) (r:Rep K B H v d):ER K B H (σ.set i (some v)) (ρ.set i (some d)):=λj d' e=>by
 by_cases hj:j=i
 ·subst hj
  have hl:j<ρ.length:=by
   have:=(wq.mp e).1
   simpa using this
  rw [vn hl] at e;cases e;exact ⟨v,vn hi,r⟩
 ·rw [wD (Ne.symm hj)] at e ⊢;exact h j d' e
theorem ER.setM:∀ {is:List Nat} {vs:List V} {ds:List D} {σ:L2.St} {ρ:En},ER K B H σ ρ->(∀ i∈is,i<σ.length)->Reps K B H vs ds->ER K B H (yax is vs σ) (setM is ds ρ)
 | [],_,_,_,_,h,_,r=>by cases r<;>exact h
 | _::_,_,_,_,_,h,_,.nil=>h
 | i::is,_,_,σ,ρ,h,hi,.cons a r=>by
  rw [yax,Eng.setM];exact ER.setM (h.set (hi i (by simp)) a) (λj hj=>by simpa using hi j (by simp [hj])) r
theorem ER.tgt {t : Tgt} {σ : L2.St} {ρ ρ' : En} {v : V} {d : D} {Q : L2.St -> Hp -> Prop} (h : ER K B H σ ρ) (ht : ybn t d ρ = some ρ') (hi : ∀ i ∈ (match t with | .one i => [i] | .many is => is), i < σ.length) (r : Rep K B H v d)
  (q:∀ σ',ER K B H σ' ρ'->σ'.length=σ.length->Q σ' H):gT t v σ H Q:=by
 cases t with
 | one i =>
  cases ht;exact q _ (h.set (hi i (by simp)) r) (by simp)
 | many is =>
  cases d with
  | tup ds =>
   simp only [ybn] at ht;split at ht
   ·rename_i hl;cases ht;obtain ⟨a,vs,rfl,ha,ra⟩:=r.tupD;exact ⟨a,vs,rfl,ha,by rw [ra.length];exact hl,q _ (h.setM hi ra) (qG _ _ _)⟩
   ·cases ht
  | _=>cases ht
end
section
variable {X:Cx} {pos:Pos}
theorem zdI {i:Nat} {x:Str} (hN:X.N.Nodup) (hi:X.N[i]?=some x) (hx:Loc X.env.scope x) (hf:X.fn x=true\/X.env.scope.names.lookup x=some .local):PG X (.Name x pos) (gT (.one i)):=zbx hN hi hx hf
def gMs (is:List Nat):TGs:=λvs σ H Q=>vs.length=is.length/\Q (yax is vs σ) H
theorem yaL (hN:X.N.Nodup):∀ (es:List Expr) (is:List Nat),(∀ e∈es.zip is,∃ x p,e.1=.Name x p/\X.N[e.2]?=some x/\Loc X.env.scope x/\(X.fn x=true\/X.env.scope.names.lookup x=some .local))->es.length=is.length->PGs X es (gMs is)
 | [],[],_,_=>λpins s σ H vs us Q I r h=>by
  obtain ⟨hl,h⟩:=h;exact jcO pins s σ H vs us Q I r ⟨List.length_eq_zero_iff.mp hl,by cases vs with | nil=>exact h | cons _ _=>exact h⟩
 | [],_::_,_,hl=>by cases hl
 | _::_,[],_,hl=>by cases hl
 | e::es,i::is,h,hl=>λpins s σ H vs us Q I r hq=>by
  obtain ⟨x,p,e1,h1,h2,h3⟩:=h (e,i) (by simp);have e1:e=.Name x p:=e1;subst e1;obtain ⟨hvl,hq⟩:=hq;cases vs with
  | nil=>cases hvl
  | cons v vs =>
   have ih:=yaL hN es is (λe he=>h e (by simp [he])) (by simpa using hl);exact zca (zbx hN h1 h2 h3) ih rfl pins s σ H (v::vs) us Q I r ⟨v,vs,rfl,by simpa using hvl,hq⟩
theorem jaL:∀ (es:List Expr) (env:Env),(∀ e∈es,∃ x p,e=Expr.Name x p)->(assignEach es env).findIdx? (·.1)=none/\(assignEach es env).length=es.length
 | [],_,_=>⟨rfl,rfl⟩
 | e::es,env,h=>by
  obtain ⟨x,p,rfl⟩:=h e (by simp);obtain ⟨h1,h2⟩:=jaL es env λe he=>h e (by simp [he])
  constructor
  ·show List.findIdx? _ ((false,assign (.Name x p) env)::assignEach es env)=none;rw [List.findIdx?_cons];simp only [wo,if_false];rw [h1];rfl
  ·show (_::assignEach es env).length=_;simp [h2]
theorem zcX {es:List Expr} {is:List Nat} {k:Nat} (hc:X.calm=true) (hN:X.N.Nodup) (h:∀ e∈es.zip is,∃ x p,e.1=.Name x p/\X.N[e.2]?=some x/\Loc X.env.scope x/\(X.fn x=true\/X.env.scope.names.lookup x=some .local)) (hl:es.length=is.length) :
  PG X (.Tuple es k pos) (gT (.many is)):=by
 have hn:∀ e∈es,∃ x p,e=Expr.Name x p:=λe he=>by
  obtain ⟨i,hi,rfl⟩:=List.mem_iff_getElem.mp he;obtain ⟨x,p,e1,_⟩:=h (es[i],is[i]'(by omega)) (List.mem_iff_getElem.mpr ⟨i,by simp;omega,by simp⟩);exact ⟨x,p,e1⟩
 obtain ⟨h1,h2⟩:=jaL es X.env hn;intro pins s σ H v u Q I r ⟨a,vs,e,ha,hvl,q⟩;exact zdr (n:=es.length) hc (yaL hN es is h hl) h2 h1 pins s σ H v u Q I r ⟨a,vs,e,SqT.of ha,by omega,hvl,q⟩
end
noncomputable def qI (cells:List (Str×Addr)):List (Str×NameKind)->List (Str×Addr)->List (Str×Addr)
 | [],cs=>cs
 | (n,k)::r,cs=>if k==.free then qI cells r ((n,(cells.lookup n).getD 0)::cs) else qI cells r cs
theorem yS (env:Env):∀ (names:List (Str×NameKind)) (cs:List (Str×Addr)),(∀ x∈names,x.2=.free->(env.cells.lookup x.1).isSome=true) ->
  (forIn names cs λ(x:Str×NameKind) (cs:List (Str×Addr))=>if (x.2==NameKind.free)=true then do let a <-cellOf env x.1;pure (ForInStep.yield ((x.1,a)::cs)) else pure (ForInStep.yield cs))=(pure (qI env.cells names cs):Sem (List (Str×Addr)))
 | [],_,_=>rfl
 | (n,k)::r,cs,h=>by
  rw [List.forIn_cons]
  by_cases hk:(k==NameKind.free)=true
  ·have hs:=h (n,k) (by simp) (by simpa using hk);obtain ⟨c,hc⟩:=w6.mp hs;have e:cellOf env n=pure c:=by unfold cellOf;rw [show env.cells.lookup n=some c from hc]
   simp only [hk,if_true,e,qI,hc,Option.getD_some];exact yS env r _ λx hx=>h x (by simp [hx])
  ·simp only [hk,if_false,qI];exact yS env r _ λx hx=>h x (by simp [hx])
theorem yI {scope:Scope} {env:Env} (h:∀ x∈scope.names,x.2=.free->(env.cells.lookup x.1).isSome=true):closureFor scope env=pure (qI env.cells scope.names []):=by
 exact congrArg (λm:Sem (List (Str×Addr))=>m >>= λcs=>pure cs) (yS env scope.names [] h)
theorem qz (cells:List (Str×Addr)):∀ (names:List (Str×NameKind)) (cs:List (Str×Addr)),(∀ x∈names,x.2=.free->(cells.lookup x.1).isSome=true)->(∀ x c,cs.lookup x=some c->cells.lookup x=some c)->∀ x c,(qI cells names cs).lookup x=some c->cells.lookup x=some c
 | [],_,_,h,x,c,e=>h x c e
 | (n,k)::r,cs,hs,h,x,c,e=>by
  by_cases hk:(k==NameKind.free)=true
  ·simp only [qI,hk,if_true] at e;refine qz cells r _ (λy hy=>hs y (by simp [hy])) (λy d q=>?_) x c e;rw [List.lookup_cons] at q;split at q
   ·rename_i hy;have hy:y=n:=by simpa using hy
    obtain ⟨c',hc⟩:=w6.mp (hs (n,k) (by simp) (by simpa using hk));rw [hc] at q;cases q;rw [hy];exact hc
   ·exact h y d q
  ·simp only [qI,hk,if_false] at e;exact qz cells r cs (λy hy=>hs y (by simp [hy])) h x c e
theorem jI (cells:List (Str×Addr)):∀ (names:List (Str×NameKind)) (cs:List (Str×Addr)) (x:Str),((x,NameKind.free)∈names\/(cs.lookup x).isSome=true)->((qI cells names cs).lookup x).isSome=true
 | [],_,_,h=>h.elim (λz=>by simp at z) id
 | (n,k)::r,cs,x,h=>by
  by_cases hk:(k==NameKind.free)=true
  ·simp only [qI,hk,if_true];refine jI cells r _ x ?_
   by_cases hx:x=n
   ·right;rw [hx,List.lookup_cons];simp
   ·rcases h with h | h
    ·rcases wu.mp h with z | z
     ·exact absurd (congrArg Prod.fst z) hx
     ·exact .inl z
    ·right
     have hb:(x==n)=false:=by simpa using hx
     rw [List.lookup_cons,hb];exact h
  ·simp only [qI,hk,if_false];refine jI cells r _ x ?_;rcases h with h | h
   ·rcases wu.mp h with z | z
    ·have:k=.free:=(congrArg Prod.snd z).symm;rw [this] at hk;exact absurd rfl hk
    ·exact .inl z
   ·exact .inr h
noncomputable def cOn:Nat->List (Str×NameKind)->List (Str×Addr)->List (Str×Addr)
 | _,[],cs=>cs
 | n,(x,k)::r,cs=>if k==.cell then cOn (n+1) r ((x,n)::cs) else cOn n r cs
theorem qad:∀ (names:List (Str×NameKind)) (n:Nat) (cs:List (Str×Addr)) (x:Str) (c:Addr),(cOn n names cs).lookup x=some c->cs.lookup x=some c\/(n<=c/\(x,NameKind.cell)∈names)
 | [],_,_,_,_,h=>.inl h
 | (y,k)::r,n,cs,x,c,h=>by
  by_cases hk:(k==NameKind.cell)=true
  ·simp only [cOn,hk,if_true] at h;have ek:k=.cell:=by simpa using hk
   rcases qad r (n+1) _ x c h with q | ⟨q,m⟩
   ·rw [List.lookup_cons] at q;split at q
    ·rename_i hx;have hx:x=y:=by simpa using hx
     cases q;exact .inr ⟨wB _,by rw [hx,ek];exact wN⟩
    ·exact .inl q
   ·exact .inr ⟨Nat.le_of_succ_le q,wH _ m⟩
  ·simp only [cOn,hk,if_false] at h;rcases qad r n cs x c h with q | ⟨q,m⟩
   ·exact .inl q
   ·exact .inr ⟨q,wH _ m⟩
theorem jax:∀ (names:List (Str×NameKind)) (n:Nat) (cs:List (Str×Addr)) (x:Str),((x,NameKind.cell)∈names\/(cs.lookup x).isSome=true)->((cOn n names cs).lookup x).isSome=true
 | [],_,_,_,h=>h.elim (λz=>by cases z) id
 | (y,k)::r,n,cs,x,h=>by
  by_cases hk:(k==NameKind.cell)=true
  ·simp only [cOn,hk,if_true];refine jax r (n+1) _ x ?_
   by_cases hx:x=y
   ·right;rw [hx,List.lookup_cons];simp
   ·rcases h with h | h
    ·rcases wu.mp h with z | z
     ·exact absurd (congrArg Prod.fst z) hx
     ·exact .inl z
    ·right
     have hb:(x==y)=false:=by simpa using hx
     rw [List.lookup_cons,hb];exact h
  ·simp only [cOn,hk,if_false];refine jax r n cs x (h.imp (λh=>?_) id);rcases wu.mp h with z | z
   ·have:k=.cell:=(congrArg Prod.snd z).symm;rw [this] at hk;exact absurd rfl hk
   ·exact z
theorem qaY:∀ (names:List (Str×NameKind)) (n:Nat) (cs:List (Str×Addr)) (x:Str) (c:Addr),(x,NameKind.cell)∈names->(cOn n names cs).lookup x=some c->n<=c
 | [],_,_,_,_,m,_=>by cases m
 | (y,k)::r,n,cs,x,c,m,h=>by
  by_cases hk:(k==NameKind.cell)=true
  ·simp only [cOn,hk,if_true] at h;rcases wu.mp m with z | z
   ·rcases qad r (n+1) _ x c h with q | ⟨q,_⟩
    ·have hx:x=y:=congrArg Prod.fst z;rw [hx,List.lookup_cons] at q;simp at q;exact Nat.le_of_eq q
    ·exact Nat.le_of_succ_le q
   ·exact Nat.le_of_succ_le (qaY r (n+1) _ x c z h)
  ·simp only [cOn,hk,if_false] at h;rcases wu.mp m with z | z
   ·have:k=.cell:=(congrArg Prod.snd z).symm;rw [this] at hk;exact absurd rfl hk
   ·exact qaY r n cs x c z h
theorem yaY:∀ (names:List (Str×NameKind)) (n:Nat) (cs:List (Str×Addr)),(∀ x y c,cs.lookup x=some c->cs.lookup y=some c->x=y)->(∀ x c,cs.lookup x=some c->c<n)->∀ x y c,(cOn n names cs).lookup x=some c->(cOn n names cs).lookup y=some c->x=y
 | [],_,_,hi,_,x,y,c,h1,h2=>hi x y c h1 h2
 | (z,k)::r,n,cs,hi,hl,x,y,c,h1,h2=>by
  by_cases hk:(k==NameKind.cell)=true
  ·simp only [cOn,hk,if_true] at h1 h2
   have at':∀ x c,((z,n)::cs).lookup x=some c->(x=z/\c=n)\/(x≠z/\cs.lookup x=some c):=λx c q=>by
    rw [List.lookup_cons] at q;split at q
    ·rename_i hx;cases q;exact .inl ⟨by simpa using hx,rfl⟩
    ·rename_i hx;exact .inr ⟨by simpa using hx,q⟩
   refine yaY r (n+1) ((z,n)::cs) (λa b e q1 q2=>?_) (λa e q=>?_) x y c h1 h2
   ·rcases at' a e q1 with ⟨a1,a2⟩ | ⟨a1,a2⟩<;>rcases at' b e q2 with ⟨b1,b2⟩ | ⟨b1,b2⟩
    ·rw [a1,b1]
    ·exact absurd (hl b e b2) (by rw [a2];exact Nat.lt_irrefl _)
    ·exact absurd (hl a e a2) (by rw [b2];exact Nat.lt_irrefl _)
    ·exact hi a b e a2 b2
   ·rcases at' a e q with ⟨_,a2⟩ | ⟨_,a2⟩
    ·rw [a2];exact Nat.lt_succ_self _
    ·exact Nat.lt_succ_of_lt (hl a e a2)
  ·simp only [cOn,hk,if_false] at h1 h2;exact yaY r n cs hi hl x y c h1 h2
theorem yad {M:Model} {A:Around} {E:Value->Shared->Prop}:∀ (names:List (Str×NameKind)) (cs:List (Str×Addr)) (s:Shared) (Q:List (Str×Addr)->Shared->Prop),
  (∀ h':Heap,(∀ b o,s.heap.get? b=some o->h'.get? b=some o)->(∀ x c,(cOn s.heap.objs.size names cs).lookup x=some c->cs.lookup x=some c\/(s.heap.objs.size<=c/\h'.IsCell c none))->Q (cOn s.heap.objs.size names cs) { s with heap:=h' }) ->
  wpAny M A (forIn names cs λ(x:Str×NameKind) (cs:List (Str×Addr))=>match x with
   | (name,kind)=>if (kind==NameKind.cell)=true then do let a <-alloc { cls:=.type "cell",data:=.cell none };pure (ForInStep.yield ((name,a)::cs)) else pure (ForInStep.yield cs)) Q E s
 | [],cs,s,Q,h=>wm (h s.heap (λ_ _ e=>e) λ_ _ e=>.inl e)
 | (y,k)::r,cs,s,Q,h=>by
  rw [List.forIn_cons]
  by_cases hk:(k==NameKind.cell)=true
  ·simp only [hk,if_true];refine we (we (wpAny_alloc (wm ?_)));refine yad r _ { s with heap:=s.heap.push { cls:=.type "cell",data:=.cell none } } Q λh' kp hc=>?_
   have hsz:(s.heap.push { cls:=.type "cell",data:=.cell none }).objs.size=s.heap.objs.size+1:=Heap.size_push ..;simp only [hsz] at hc ⊢;have e1:cOn s.heap.objs.size ((y,k)::r) cs=cOn (s.heap.objs.size+1) r ((y,s.heap.objs.size)::cs):=by simp only [cOn,hk,if_true]
   have:=h h' (λb o e=>kp b o (wj _ e)) λx c q=>by
    rw [e1] at q;rcases hc x c q with z | ⟨z1,z2⟩
    ·rw [List.lookup_cons] at z;split at z
     ·cases z;exact .inr ⟨wB _,_,kp _ _ (wt _ rfl),rfl⟩
     ·exact .inl z
    ·exact .inr ⟨Nat.le_of_succ_le z1,z2⟩
   rw [e1] at this;exact this
  ·simp only [hk,if_false];refine we (wm ?_);have e1:cOn s.heap.objs.size ((y,k)::r) cs=cOn s.heap.objs.size r cs:=by rw [cOn,if_neg hk]
   rw [e1] at h;exact yad r cs s Q h
theorem jaY {M:Model} {A:Around} {E:Value->Shared->Prop} {s:Shared} {scope:Scope} {globals:Addr} {cl:List (Str×Addr)} {qual:Str} {env:Env} {Q:Env->Shared->Prop}
  (h:∀ (h':Heap) (m:Str->Option Value),h'.Ns s.heap.objs.size m->(∀ b o,s.heap.get? b=some o->h'.get? b=some o)->(∀ x c,(cOn (s.heap.objs.size+1) scope.names cl).lookup x=some c->cl.lookup x=some c\/(s.heap.objs.size+1<=c/\h'.IsCell c none)) ->
   Q (newEnv scope s.heap.objs.size globals (cOn (s.heap.objs.size+1) scope.names cl) qual none .none (some env) builtinsNs) { s with heap:=h' }) :
  wpAny M A (newFunctionEnv scope globals cl [] qual none .none (some env)) Q E s:=by
 unfold newFunctionEnv;refine we (wpAny_alloc ?_);refine we (yad scope.names cl _ _ λh' kp hc=>?_);have hsz:(s.heap.push { cls:=.type (if (some env).isSome=true then "dict" else "frame"),data:=.dict #[] }).objs.size=s.heap.objs.size+1:=Heap.size_push ..;simp only [hsz] at hc ⊢;refine we (wm (wm ?_));exact h h' (λx=>nsFind #[] x) ⟨_,#[],0,kp _ _ (wt _ rfl),rfl,by simp [StrKeys],λ_=>rfl⟩ (λb o e=>kp b o (wj _ e)) hc
noncomputable def blk (X:Cx) (N':List Str) (scope:Scope) (s₀:Shared) (H₀:Hp) (fp:List Addr):Cx :=
 { X with N:=N',s₀:=s₀,H₀:=H₀,env:=compEnvC scope (cOn (s₀.heap.objs.size+1) scope.names (qI X.env.cells scope.names [])) s₀.heap.objs.size X.env,outer:=X.stack,stack:=X.stack,ex:=fp,fn:=λx=>scope.names.lookup x==some .cell,pn:=[] }
section
variable {K:Frag} {B B':Addr->Prop} {H:Hp}
mutual
theorem Rep.holes (f:∀ b,B' b->B b\/H b=none):∀ {v:V} {d:D},Rep K B H v d->Rep K B' H v d
 | _,_,.non=>.non
 | _,_,.bl b=>.bl b
 | _,_,.int i=>.int i
 | _,_,.str x=>.str x
 | _,_,.tup e r=>.tup e (Reps.holes f r)
 | _,_,.lst n e r=>.lst (λz=>(f _ z).elim n λq=>by rw [q] at e;cases e) e (Reps.holes f r)
 | _,_,.scr h=>.scr h
 | _,_,.grp n e y z w r=>.grp (λq=>(f _ q).elim n λq'=>by rw [q'] at e;cases e) e y z w (Reps.holes f r)
 | _,_,.mem e=>.mem e
theorem Reps.holes (f:∀ b,B' b->B b\/H b=none):∀ {vs:List V} {ds:List D},Reps K B H vs ds->Reps K B' H vs ds
 | _,_,.nil=>.nil
 | _,_,.cons a r=>.cons (Rep.holes f a) (Reps.holes f r)
end
theorem ER.holes {σ:L2.St} {ρ:En} (f:∀ b,B' b->B b\/H b=none) (h:ER K B H σ ρ):ER K B' H σ ρ:=λi d e=>let ⟨v,q,r⟩:=h i d e;⟨v,q,r.holes f⟩
theorem ER.mono {σ:L2.St} {ρ:En} {H':Hp} (hb:HB B H) (s:jt B H H') (h:ER K B H σ ρ):ER K B H' σ ρ:=λi d e=>let ⟨v,q,r⟩:=h i d e;⟨v,q,r.mono hb s⟩
mutual
theorem Rep.shift {H':Hp} (hb:HB B H) (s:jt B H H') (f:∀ b,B' b->B b\/H b=none):∀ {v:V} {d:D},Rep K B H v d->Rep K B' H' v d
 | _,_,.non=>.non
 | _,_,.bl b=>.bl b
 | _,_,.int i=>.int i
 | _,_,.str x=>.str x
 | _,_,.tup e r=>.tup (s _ _ (hb.notT e) e) (Reps.shift hb s f r)
 | _,_,.lst n e r=>.lst (λz=>(f _ z).elim n λq=>by rw [q] at e;cases e) (s _ _ n e) (Reps.shift hb s f r)
 | _,_,.scr (.inl ⟨o,e⟩)=>.scr (.inl ⟨o,s _ _ (hb.notF e) e⟩)
 | _,_,.scr (.inr h)=>.scr (.inr h)
 | _,_,.grp n e y z w r=>.grp (λq=>(f _ q).elim n λq'=>by rw [q'] at e;cases e) (s _ _ n e) y z w (Reps.shift hb s f r)
 | _,_,.mem e=>.mem (s _ _ (hb.notM e) e)
theorem Reps.shift {H':Hp} (hb:HB B H) (s:jt B H H') (f:∀ b,B' b->B b\/H b=none):∀ {vs:List V} {ds:List D},Reps K B H vs ds->Reps K B' H' vs ds
 | _,_,.nil=>.nil
 | _,_,.cons a r=>.cons (Rep.shift hb s f a) (Reps.shift hb s f r)
end
end
structure ItOk (K:Frag) (B:Addr->Prop) (H0:Hp) (ds:List D) (J:It):Prop where
 len:ds.length<=sizeLine
 go:∀ (B':Addr->Prop) (H:Hp),(∀ b,B' b->B b\/H0 b=none)->HB B' H->jt B H0 H->∀ i d,ds[i]?=some d->J.go i H/\∀ x H',J.yld i H x H'->Same H H'/\Rep K B' H' x d
 stop:∀ (H:Hp),jt B H0 H->J.stop ds.length H
def iD (K:Frag) (B:Addr->Prop) (ρ:En) (ds:List D):TI:=λσ H R=>HB B H/\ER K B H σ ρ/\∀ J H',Same H H'->ItOk K B H' ds J->R J H'
def SI (X:Cx) (C:Tab) (tg iter:Expr) (it:Iter):Prop:=∀ B ρ ds,evI C it ρ=some ds->PI X tg iter (iD X.K B ρ ds)
theorem wk {α:Type} {M:Model} {A:Around} {t:Sem α} {Q:α->Shared->Prop} {E:Value->Shared->Prop} {s:Shared} (h:wpAny M A t Q (λ_ _=>False) s):wpAny M A t Q E s:=wpAny_mono h (λ_ _ q=>q) λ_ _ z=>z.elim
section
variable {X:Cx} {pins:List (Addr×Obj)} {σ:L2.St} {H:Hp} {s:Shared}
theorem qdI {N':List Str} {scope:Scope} {fp:List Addr} (I:L2.Inv X pins σ H s) (hk:scope.kind=.function) (hfr:∀ x∈scope.names,x.2=.free->X.env.kindOf x.1=some .cell\/X.env.kindOf x.1=some .free)
  (hf:∀ b∈fp,FpOk X pins H b) (hfl:∀ b∈fp,b<s.heap.objs.size):(blk X N' scope s H fp).Ok:=by
 have hs:∀ x∈scope.names,x.2=.free->(X.env.cells.lookup x.1).isSome=true:=λx hx hx2=>by
  obtain ⟨c,e⟩:=I.ok.has x.1 (hfr x hx hx2);rw [e];rfl
 have look:∀ x c,(qI X.env.cells scope.names []).lookup x=some c->X.env.cells.lookup x=some c:=qz _ _ _ hs (λx c e=>by simp at e);have clt:∀ x c,X.env.cells.lookup x=some c->c<s.heap.objs.size:=λx c e=>let ⟨v,q⟩:=I.cell x c e;q.lt
 refine ⟨I.ok.mod,hk,I.ok.glob,I.ok.blt,wB _,yaY _ _ _ (λx y c h1 h2=>I.ok.inj x y c (look x c h1) (look y c h2)) (λx c h=>Nat.lt_succ_of_lt (clt x c (look x c h))),λx hx=>?_,λx c hfn h=>Nat.le_of_succ_le (qaY _ _ _ x c (wZ (by simpa using (show (scope.names.lookup x==some .cell)=true from hfn))) h),I.ok.hd,I.ok.frames,.inl rfl,λb hb=>⟨?_,λx c h=>?_⟩,I.bs,wQ I.ok.bsz I.sz,λb o e hb=>?_,λb hb hfs=>?_,I.stack,I.stkFree⟩
 ·-- a name of the block that is no local has its cell
  have hmem:(x,NameKind.free)∈scope.names\/(x,NameKind.cell)∈scope.names:=by
   have hx':(relabel scope X.env).names.lookup x=some .cell\/(relabel scope X.env).names.lookup x=some .free:=hx;have hm:(x,NameKind.cell)∈(relabel scope X.env).names\/(x,NameKind.free)∈(relabel scope X.env).names:=hx'.elim (λz=>.inl (wZ z)) λz=>.inr (wZ z)
   unfold relabel at hm;rcases hm with hm | hm
   ·obtain ⟨⟨n,k⟩,hn,e⟩:=wG.mp hm
    by_cases c:(k==NameKind.free&&X.env.scope.kind==.function&&X.env.kindOf n==some .cell)=true
    ·simp only [c,if_true] at e
     have hkf:k=.free:=by
      have:=(wg _ _▸(wg _ _▸c).1).1
      simpa using this
     cases e;rw [hkf] at hn;exact .inl hn
    ·simp only [c,if_false] at e;cases e;exact .inr hn
   ·obtain ⟨⟨n,k⟩,hn,e⟩:=wG.mp hm
    by_cases c:(k==NameKind.free&&X.env.scope.kind==.function&&X.env.kindOf n==some .cell)=true
    ·simp only [c,if_true] at e;cases e
    ·simp only [c,if_false] at e;cases e;exact .inl hn
  exact w6.mp (jax _ _ _ x (hmem.elim (λz=>.inr (jI _ _ _ x (.inl z))) .inl))
 ·exact wM (hfl b hb)
 ·rcases qad _ _ _ x c h with q | ⟨q,_⟩
  ·exact (hf b hb).2.2.2.2.1 x c (look x c q)
  ·exact λz=>absurd (hfl b hb) (by rw [<-z];exact Nat.not_lt.mpr (Nat.le_of_succ_le q))
 ·have hb':b∈fp:=hb;rcases (hf b hb').2.2.2.1 with z | z
  ·exact I.ok.noex b o e z
  ·exact absurd (wL (wy e) (wQ I.ok.bsz z)) (Nat.lt_irrefl _)
 ·have hb':b∈fp:=hb;rcases wu.mp (I.stkSub b hfs) with z | z
  ·exact (hf b hb').2.1 z
  ·exact (hf b hb').2.2.1 z
theorem qcX {N':List Str} {scope:Scope} {fp:List Addr} {h':Heap} {tk:Nat} {m:Str->Option Value} {σ':L2.St} (I:L2.Inv X pins σ H s) (ok:(blk X N' scope s H fp).Ok) (hn:h'.Ns s.heap.objs.size m)
  (hk:∀ b o,s.heap.get? b=some o->h'.get? b=some o) (hl:σ'.length=N'.length) (hfr:∀ x∈scope.names,x.2=.free->(X.env.cells.lookup x.1).isSome=true)
  (hcl:∀ x c,(cOn (s.heap.objs.size+1) scope.names (qI X.env.cells scope.names [])).lookup x=some c->(qI X.env.cells scope.names []).lookup x=some c\/(s.heap.objs.size+1<=c/\h'.IsCell c none))
  (hnc:∀ x,(x,NameKind.cell)∈scope.names->(x,NameKind.free)∉scope.names)
  (hσ:∀ (i:Nat) (x:Str) (v:V),N'[i]?=some x->σ'[i]?=some (some v)->((relabel scope X.env).names.lookup x=some .cell\/(relabel scope X.env).names.lookup x=some .free)/\(x,NameKind.free)∈scope.names/\((qI X.env.cells scope.names []).lookup x).isSome=true /\
   ∃ j:Nat,X.N[j]?=some x/\σ[j]?=some (some v)/\(X.env.scope.names.lookup x=some .cell\/X.env.scope.names.lookup x=some .free)) :
  L2.Inv (blk X N' scope s H fp) [] σ' H { s with heap:=h',toks:=tk }:=by
 have look:∀ x c,(qI X.env.cells scope.names []).lookup x=some c->X.env.cells.lookup x=some c:=qz _ _ _ hfr (λx c e=>by simp at e);have cellK:∀ c v,s.heap.IsCell c v->h'.IsCell c v:=λc v ⟨o,ho,hd⟩=>⟨o,hk c o ho,hd⟩
 refine ⟨ok,rfl,I.bare,Un.kept hk,⟨m,hn,λi x v e1 e2 _=>?_⟩,λx c e=>?_,I.fresh,λx c e=>?_,λp hp=>(by cases hp),I.hok.kept hk,hl⟩
 ·obtain ⟨k1,k0,k2,j,e3,e4,k3⟩:=hσ i x v e1 e2;obtain ⟨c1,hc1⟩:=w6.mp (jax scope.names (s.heap.objs.size+1) _ x (.inr k2));have hc:(qI X.env.cells scope.names []).lookup x=some c1:=(qad _ _ _ x c1 hc1).elim id λq=>absurd k0 (hnc x q.2)
  obtain ⟨c,hce⟩:∃ c,c=c1:=⟨_,rfl⟩;rw [<-hce] at hc hc1;obtain ⟨mX,_,hX⟩:=I.loc;obtain ⟨u,ru,lk⟩:=hX j x v e3 e4 (k3.elim (λz=>.inr (.inl z)) λz=>.inr (.inr z));refine ⟨u,ru,.inr ⟨k1,c,hc1,?_⟩⟩;rcases lk with ⟨z,_⟩ | ⟨_,c',hc',z⟩
  ·have z':X.env.scope.names.lookup x=some .local:=z;rcases k3 with k | k<;>(rw [k] at z';cases z')
  ·rw [look x c hc] at hc';cases hc';exact cellK c _ z
 ·rcases hcl x c e with q | ⟨_,q⟩
  ·obtain ⟨v,z⟩:=I.cell x c (look x c q);exact ⟨v,cellK c v z⟩
  ·exact ⟨_,q⟩
 ·rcases hcl x c e with q | ⟨q,_⟩
  ·exact I.freeC x c (look x c q)
  ·exact I.hok.fresh (Nat.le_of_succ_le q)
end
noncomputable def Tgt.ixs:Tgt->List Nat
 | .one i=>[i]
 | .many is=>is
noncomputable def yan (n:Nat) (keep:List Nat) (σ:L2.St):L2.St:=List.replicate n none++keep.map λi=>(σ[i]?).join
theorem yG {env:Env}:∀ {names:List (Str×NameKind)} {x:Str},names.lookup x=some .free ->
  (names.map λ(n,k)=>if (k==NameKind.free&&env.scope.kind==.function&&env.kindOf n==some .cell) then (n,NameKind.cell) else (n,k)).lookup x=some .cell \/
  (names.map λ(n,k)=>if (k==NameKind.free&&env.scope.kind==.function&&env.kindOf n==some .cell) then (n,NameKind.cell) else (n,k)).lookup x=some .free
 | [],_,h=>by simp at h
 | (n,k)::r,x,h=>by
  rw [List.lookup_cons] at h;rw [List.map_cons];cases hx:x==n with
  | true =>
   rw [hx] at h;cases h
   by_cases c:(NameKind.free==NameKind.free&&env.scope.kind==.function&&env.kindOf n==some .cell)=true
   ·left
    show List.lookup x ((if _ then _ else _)::_)=_;rw [if_pos c,List.lookup_cons,hx]
   ·right
    show List.lookup x ((if _ then _ else _)::_)=_;rw [if_neg c,List.lookup_cons,hx]
  | false =>
   rw [hx] at h;have ih:=yG (env:=env) h
   by_cases c:(k==NameKind.free&&env.scope.kind==.function&&env.kindOf n==some .cell)=true
   ·show List.lookup x ((if _ then _ else _)::_)=_\/List.lookup x ((if _ then _ else _)::_)=_;rw [if_pos c,List.lookup_cons,hx];exact ih
   ·show List.lookup x ((if _ then _ else _)::_)=_\/List.lookup x ((if _ then _ else _)::_)=_;rw [if_neg c,List.lookup_cons,hx];exact ih
section
variable {K:Frag} {B:Addr->Prop} {H:Hp}
theorem zay {α:Type} {n:Nat} {keep:List Nat} {l:List (Option α)} {i:Nat} {a:α} (h:(List.replicate n (none:Option α)++keep.map λj=>(l[j]?).join)[i]?=some (some a)) :
  ∃ k j,i=n+k/\keep[k]?=some j/\l[j]?=some (some a):=by
 by_cases hi:i<n
 ·rw [vg (by simpa using hi),List.getElem?_replicate] at h;split at h<;>cases h
 ·rw [List.getElem?_append_right (by simpa using hi),List.length_replicate,wx] at h;cases e:keep[i-n]? with
  | none=>rw [e] at h;cases h
  | some j =>
   rw [e] at h;refine ⟨i-n,j,by omega,e,?_⟩;have h':(l[j]?).join=some a:=wA h;cases q:l[j]? with
   | none=>rw [q] at h';cases h'
   | some o=>rw [q] at h';exact congrArg some h'
theorem ER.block {σ:L2.St} {ρ:En} {n:Nat} {keep:List Nat} (h:ER K B H σ ρ):ER K B H (yan n keep σ) (qm n keep ρ):=λi d e=>by
 obtain ⟨k,j,hi,hk,hj⟩:=zay e;obtain ⟨v,ev,rv⟩:=h j d hj;refine ⟨v,?_,rv⟩;unfold yan;rw [hi,List.getElem?_append_right (by simp),List.length_replicate,Nat.add_sub_cancel_left,wx,hk];show some ((σ[j]?).join)=_;rw [ev];rfl
theorem jan:∀ {is:List Nat} {ds:List D} {ρ:En} {i:Nat},i∉is->(setM is ds ρ)[i]?=ρ[i]?
 | [],_,_,_,_=>by cases ‹List D›<;>rfl
 | _::_,[],_,_,_=>rfl
 | j::is,d::ds,ρ,i,h=>by
  rw [Eng.setM,jan (λz=>h (by simp [z]))];exact wD (λe=>h (by simp [e]))
theorem ER.back {σ:L2.St} {ρ ρ1:En} {n:Nat} {keep:List Nat} {t:Tgt} {d:D} (h:ER K B H σ ρ1) (ht:ybn t d (qm n keep ρ)=some ρ1) (hi:∀ i∈t.ixs,i<n):ER K B H σ (qm n keep ρ):=λi d' e=>by
 obtain ⟨k,j,hik,_,_⟩:=zay e;have hni:i∉t.ixs:=λz=>by have:=hi i z;omega
 refine h i d' ?_;cases t with
 | one j =>
  cases ht;rw [wD (λe=>hni (by simp [Tgt.ixs,e]))];exact e
 | many is =>
  cases d with
  | tup ds =>
   simp only [ybn] at ht;split at ht
   ·cases ht;rw [jan (show i∉is from hni)];exact e
   ·cases ht
  | _=>cases ht
end
structure CompS (X:Cx) (C:Tab) (elt tg iter:Expr) (ifs:List Expr) (scope:Scope) (ce:Code) (t:Tgt) (n:Nat) (keep:List Nat) (cc:OCode) (N':List Str):Prop where
 hx:X.xe=λ_ _=>False
 calm:X.calm=true
 kind:scope.kind=.function
 nc:∀ x,(x,NameKind.cell)∈scope.names->(x,NameKind.free)∉scope.names
 fr:∀ x∈scope.names,x.2=.free->X.env.kindOf x.1=some .cell\/X.env.kindOf x.1=some .free
 names:∀ x∈scope.names,x.2=.local->scope.names.lookup x.1=some .local
 len:N'.length=n+keep.length
 kp:∀ (k j:Nat),keep[k]?=some j->∃ x,N'[n+k]?=some x/\X.N[j]?=some x/\scope.names.lookup x=some .free/\(X.env.scope.names.lookup x=some .cell\/X.env.scope.names.lookup x=some .free)
 ti:∀ i∈t.ixs,i<n
 hs:∀ x,foldedSetIterable iter X.env x=pure x
 G:∀ s₀ H₀ fp,PG (blk X N' scope s₀ H₀ fp) tg (gT t)
 E:∀ s₀ H₀ fp,SE (blk X N' scope s₀ H₀ fp) C elt ce
 T:(ifs=[]/\cc=.none)\/∃ e c,ifs=[e]/\cc=.some c/\∀ s₀ H₀ fp,SB (blk X N' scope s₀ H₀ fp) C e c
section
variable {X:Cx} {C:Tab} {elt tg iter:Expr} {ifs:List Expr} {scope:Scope} {ce:Code} {t:Tgt} {n:Nat} {keep:List Nat} {cc:OCode} {N':List Str}
theorem zaZ {f:D->Option (Option D)} {d:D} {ds rs:List D} (h:gather f (d::ds)=some rs):∃ o r,f d=some o/\gather f ds=some r/\rs=(match o with | none=>r | some x=>x::r):=by
 rw [gather] at h;obtain ⟨o,eo,h⟩:=wa h;obtain ⟨r,er,h⟩:=wb h;refine ⟨o,r,eo,er,?_⟩;cases o<;>exact h.symm
theorem zba (S:CompS X C elt tg iter ifs scope ce t n keep cc N') {pos:Pos} {pins:List (Addr×Obj)} {σ:L2.St} {H:Hp} {s:Shared} {B:Addr->Prop} {ρ:En} {ds rs:List D} {fp:List Addr} {ia:Addr} {tn:Nat->Heap->Prop} {J:It}
  {use:Option (Value->Sem Unit)} {Q:Value->Shared->Prop} {E:Value->Shared->Prop}
  (I:L2.Inv X pins σ H s) (Tn:Turn X.prog X.w X.K tg J fp ia tn) (st:tn 0 s.heap) (fpo:∀ b∈fp,FpOk X pins H b) (ok:ItOk X.K B H ds J) (hb:HB B H) (er:ER X.K B H σ ρ) (hg:gather (turn C ce t n keep cc ρ) ds=some rs)
  (fin:∀ (p Cc:Addr) (Hf:Hp) (ys:List V) (s':Shared) (m:Str->Option Value),H p=none->Same H Hf->Hf p=some (.lst ys)->Reps X.K (λb=>B b\/b=p) Hf ys rs->L2.Inv X pins σ Hf s'->s'.heap.Ns Cc m->FpOk X pins Hf Cc->Hf Cc=none ->
   compPost (model X.prog X.w) X.A E use Q (.ref p) Cc (.ok .next) s') :
  wpAny (model X.prog X.w) X.A (newList []) (λacc s₃=>wpAny (model X.prog X.w) X.A (newFunctionEnv scope X.env.globals (qI X.env.cells scope.names []) [] X.env.qual none .none (some X.env)) (λcenv s₄ =>
   codeAny (model X.prog X.w) X.A (.compStart (.ListComp elt [⟨tg,iter,ifs,0⟩] scope pos) 0 (.ref ia) acc { cenv with scope:=relabel scope X.env }) (compPost (model X.prog X.w) X.A E use Q acc cenv.locals) s₄) E s₃) E s:=by
 have hsome:∀ x∈scope.names,x.2=.free->(X.env.cells.lookup x.1).isSome=true:=λx hx hx2=>by
  obtain ⟨c,e⟩:=I.ok.has x.1 (S.fr x hx hx2);rw [e];rfl
 obtain ⟨p,hp⟩:∃ p,p=s.heap.objs.size:=⟨_,rfl⟩;have pf:H p=none:=hp▸I.fresh
 have fpl:∀ b∈fp,b<s.heap.objs.size:=λb hb=>by
  obtain ⟨o,e,_⟩:=Tn.obj 0 _ st b hb;exact wy e
 refine w9 (jaY λh₁ mm hns kept' hcl=>?_)
 have I3:L2.Inv X pins σ (upd H p (.lst [])) { s with heap:=s.heap.push { cls:=.type "list",data:=.seq ([]:List Value).toArray } }:=by
  subst hp;exact I.lnew (t':=s.toks) .nil (Nat.zero_le _)
 obtain ⟨s3,hs3⟩:∃ s3:Shared,s3={ s with heap:=s.heap.push { cls:=.type "list",data:=.seq ([]:List Value).toArray } }:=⟨_,rfl⟩;rw [<-hs3] at I3;obtain ⟨m0,hns⟩:∃ m0,h₁.Ns s3.heap.objs.size m0:=⟨_,by rw [hs3];exact hns⟩;have kept:∀ b o,s3.heap.get? b=some o->h₁.get? b=some o:=by rw [hs3];exact kept'
 have hcl:∀ x c,(cOn (s3.heap.objs.size+1) scope.names (qI X.env.cells scope.names [])).lookup x=some c->(qI X.env.cells scope.names []).lookup x=some c\/(s3.heap.objs.size+1<=c/\h₁.IsCell c none):=by rw [hs3];exact hcl
 have old:∀ b o,s.heap.get? b=some o->s3.heap.get? b=some o:=λb o e=>by rw [hs3];exact wj _ e
 have fpo3:∀ b∈fp,FpOk X pins (upd H p (.lst [])) b:=λb hb=>⟨by rw [ya (wM (hp▸fpl b hb))];exact (fpo b hb).1,(fpo b hb).2⟩
 have okB:(blk X N' scope s3 (upd H p (.lst [])) fp).Ok:=qdI I3 S.kind S.fr fpo3 λb hb=>by
  obtain ⟨o,e,_⟩:=Tn.obj 0 _ st b hb;exact wy (old b o e)
 obtain ⟨X',hX'⟩:∃ X':Cx,X'=blk X N' scope s3 (upd H p (.lst [])) fp:=⟨_,rfl⟩
 have hS0:∀ (i:Nat) (x:Str) (v:V),N'[i]?=some x->(yan n keep σ)[i]?=some (some v)->((relabel scope X.env).names.lookup x=some .cell\/(relabel scope X.env).names.lookup x=some .free)/\(x,NameKind.free)∈scope.names/\((qI X.env.cells scope.names []).lookup x).isSome=true /\
   ∃ j:Nat,X.N[j]?=some x/\σ[j]?=some (some v)/\(X.env.scope.names.lookup x=some .cell\/X.env.scope.names.lookup x=some .free):=λi x v e1 e2=>by
  obtain ⟨k,j,hi,hk,hj⟩:=zay e2;obtain ⟨y,y1,y2,y3,y4⟩:=S.kp k j hk;rw [hi,y1] at e1;cases e1;exact ⟨yG y3,wZ y3,jI _ _ _ _ (.inl (wZ y3)),j,y2,hj,y4⟩
 have I4:L2.Inv X' [] (yan n keep σ) (upd H p (.lst [])) { s3 with heap:=h₁,toks:=s3.toks }:=by
  rw [hX'];exact qcX I3 okB hns kept (by simp [yan,S.len]) hsome hcl S.nc hS0
 obtain ⟨f,hf⟩:∃ f,f=turn C ce t n keep cc ρ:=⟨_,rfl⟩;rw [<-hf] at hg;have hK':X'.K=X.K:=by rw [hX'];rfl
 have hP':X'.prog=X.prog:=by rw [hX'];rfl
 have hw':X'.w=X.w:=by rw [hX'];rfl
 have hA':X'.A=X.A:=by rw [hX'];rfl
 have hc':X'.calm=true:=by rw [hX'];exact S.calm
 have hxe:X'.xe=λ_ _=>False:=by rw [hX'];exact S.hx
 have henv:X'.env=compEnvC scope (cOn (s3.heap.objs.size+1) scope.names (qI X.env.cells scope.names [])) s3.heap.objs.size X.env:=by rw [hX'];rfl
 obtain ⟨B',hB'⟩:∃ B':Addr->Prop,B'=λb=>B b\/b=p:=⟨_,rfl⟩
 have BB:∀ b,B b->B' b:=λb z=>by rw [hB'];exact .inl z
 have Bn:∀ b,B' b->B b\/H b=none:=λb z=>by
  rw [hB'] at z;exact z.elim .inl λq=>.inr (q▸pf)
 have stat:∀ {H':Hp},(∀ b∈fp,H' b=none)->∀ b∈fp,FpOk X' [] H' b:=λ{H'} hn b hb=>by
  have e:=okB.exf b hb;have e2:=okB.exfs b hb;rw [<-hX'] at e e2;exact ⟨hn b hb,e.1,e2,.inl (by rw [hX'];exact hb),e.2,λq hq=>(by rw [hX'] at hq;cases hq)⟩
 have loop:codeAny (model X.prog X.w) X.A (.compLoop (.ListComp elt [⟨tg,iter,ifs,0⟩] scope pos) 0 (.ref ia) (.ref p) X'.env) (compPost (model X.prog X.w) X.A E use Q (.ref p) s3.heap.objs.size) { s3 with heap:=h₁,toks:=s3.toks }:=by
  refine codeAny_loop rfl (λk s'=>∃ (i:Nat) (σ':L2.St) (H':Hp) (ys:List V) (r1 r2:List D),L2.Inv X' [] σ' H' s'/\tn i s'.heap/\(∀ b∈fp,H' b=none)/\k=ds.length-i/\i<=ds.length/\H' p=some (.lst ys)/\Reps X.K B' H' ys r1/\ys.length<=i /\
   jt B' H H'/\Same H H'/\HB B' H'/\gather f (ds.drop i)=some r2/\r1++r2=rs/\ER X.K B' H' σ' (qm n keep ρ)) ?_ ds.length ?_
  ·rintro k s5 ⟨i,σ5,H5,ys,r1,r2,I5,st5,fr5,rfl,hi,hpl,ry,hyl,sb5,sm5,hb5,hg5,er2,ER5⟩;show wpAny _ _ ((compTurn (.ListComp elt [⟨tg,iter,ifs,0⟩] scope pos) 0 (.ref ia) (.ref p) X'.env).onRaise (λx=>do noteFrame x X'.env;theTreesLotGoes x)) _ _ s5;refine wpAny_noted ?_;rw [compTurn_list];refine we (wpAny_standAt ?_)
   by_cases hlt:i<ds.length
   ·-- an item
    have hd:ds[i]?=some ds[i]:=by simp [hlt]
    obtain ⟨d,hdd⟩:∃ d,d=ds[i]:=⟨_,rfl⟩;rw [<-hdd] at hd;rw [List.drop_eq_getElem_cons hlt,<-hdd] at hg5;obtain ⟨o,r,eo,er',e2⟩:=zaZ hg5;obtain ⟨go,yl⟩:=ok.go B' H5 Bn hb5 (λb o _ e=>sm5 b o e) i d hd;have item:=Tn.item X' hP' hw' hK' hc' i [] s5 σ5 H5 (λ_ _=>False) I5 (stat fr5) st5 go;rw [hA'] at item;refine we (wk (thn item λrr s6 ⟨u,hr,h6⟩=>?_));subst hr;refine we (wk (thn h6 λ_ s7 ⟨x,H7,I7,rx,y7,st7,fr7⟩=>?_));obtain ⟨sm7,rep7⟩:=yl x H7 y7;have I7':=I7.pinned (stat fr7) (Tn.obj _ _ st7);obtain ⟨pins7,hp7⟩:∃ q,q=[]++zaG fp s7.heap:=⟨_,rfl⟩;rw [<-hp7] at I7';rw [hf] at eo;obtain ⟨ρ1,et1,eo⟩:=wa (show (ybn t d (qm n keep ρ)).bind _=some o from eo);obtain ⟨kk,ekk,eo⟩:=wa eo;have hG:=S.G s3 (upd H p (.lst [])) fp;rw [<-hX'] at hG
    have lenσ:σ5.length=n+keep.length:=by
     have:=I5.len
     rw [this,hX'];exact S.len
    have asg:=hG pins7 s7 σ5 H7 x u (λσ8 H8=>H8=H7/\ER X.K B' H7 σ8 ρ1) I7' rx (ER.tgt (ER5.same sm7) et1 (λj hj=>by have:=S.ti j hj;omega) rep7 λσ' e _=>⟨rfl,e⟩);rw [hA',hP',hw',hxe] at asg;refine we (wk (thn asg λ_ s8 ⟨σ8,H8,I8,e8,ER8⟩=>?_));subst e8;have hb8:HB B' H8:=hb5.same sm7
    have again:∀ (s9:Shared) (H9:Hp) (ys9:List V) (r9:List D),L2.Inv X' pins7 σ8 H9 s9->(∀ b o,b≠p->H8 b=some o->H9 b=some o)->H9 p=some (.lst ys9)->Reps X.K B' H9 ys9 r9->ys9.length<=i+1->r9++r=rs->ER X.K B' H9 σ8 ρ1 ->
      ∃ m,m<ds.length-i/\∃ (i:Nat) (σ':L2.St) (H':Hp) (ys:List V) (r1 r2:List D),L2.Inv X' [] σ' H' s9/\tn i s9.heap/\(∀ b∈fp,H' b=none)/\m=ds.length-i/\i<=ds.length/\H' p=some (.lst ys)/\Reps X.K B' H' ys r1/\ys.length<=i /\
       jt B' H H'/\Same H H'/\HB B' H'/\gather f (ds.drop i)=some r2/\r1++r2=rs/\ER X.K B' H' σ' (qm n keep ρ):=λs9 H9 ys9 r9 I9 k9 p9 ry9 l9 e9 ER9=>by
     have ne:∀ b o,H b=some o->b≠p:=λb o e z=>by rw [z,pf] at e;cases e
     refine ⟨ds.length-(i+1),by omega,i+1,σ8,H9,ys9,r9,r,I9.pins_of λq hq=>(by cases hq),?_,?_,rfl,hlt,p9,ry9,l9,λb o nb e=>k9 b o (ne b o e) (sm7 b o (sm5 b o e)),λb o e=>k9 b o (ne b o e) (sm7 b o (sm5 b o e)),?_,er',e9,ER9.back et1 S.ti⟩
     ·refine Tn.keep _ _ _ st7 λb hb o e=>?_
      have:=I9.pin (b,o) (wK _ (by rw [hp7];exact wK _ (zI hb e)))
      exact this.1
     ·intro b hb;obtain ⟨o',e,_⟩:=Tn.obj _ _ st7 b hb
      have:=I9.pin (b,o') (wK _ (by rw [hp7];exact wK _ (zI hb e)))
      exact this.2.1
     ·refine ⟨λb hb=>?_,λx hx=>k9 _ _ (λz=>by have:=hb8.t x hx;rw [z,sm7 p _ hpl] at this;cases this) (hb8.t x hx)⟩;rw [hB'] at hb;rcases hb with z | z
      ·by_cases hbp:b=p
       ·exact .inl ⟨ys9,hbp▸p9⟩
       ·exact (hb8.h b (BB b z)).imp (λ⟨xs,e⟩=>⟨xs,k9 b _ hbp e⟩) λ⟨es,ep,e⟩=>⟨es,ep,k9 b _ hbp e⟩
      ·exact .inl ⟨ys9,z▸p9⟩
    have p8:H8 p=some (.lst ys):=sm7 p _ hpl;have ry8:Reps X.K B' H8 ys r1:=ry.same sm7
    have behind:∀ (s9:Shared) (H9:Hp),L2.Inv X' pins7 σ8 H9 s9->Same H8 H9->kk=true->o≠none ->
      wpAny (model X.prog X.w) X.A (eval elt X'.env) (λz s10=>wpAny (model X.prog X.w) X.A (call (.builtin "list.append") [.ref p,z]) (λ_ s11=>∃ m,m<ds.length-i/\∃ (i:Nat) (σ':L2.St) (H':Hp) (ys:List V) (r1 r2:List D),L2.Inv X' [] σ' H' s11/\tn i s11.heap/\(∀ b∈fp,H' b=none)/\m=ds.length-i/\i<=ds.length/\H' p=some (.lst ys)/\Reps X.K B' H' ys r1/\ys.length<=i /\
       jt B' H H'/\Same H H'/\HB B' H'/\gather f (ds.drop i)=some r2/\r1++r2=rs/\ER X.K B' H' σ' (qm n keep ρ)) (λ_ _=>False) s10) (λ_ _=>False) s9:=λs9 H9 I9 sm9 hkk ho=>by
     subst hkk;rw [if_pos rfl] at eo;obtain ⟨dz,edz,rfl⟩:=wb eo;have hE:=S.E s3 (upd H p (.lst [])) fp B' ρ1 dz edz;rw [<-hX',hK'] at hE;have run:=hE pins7 s9 σ8 H9 (λz H10=>Same H9 H10/\Rep X.K B' H10 z dz) I9 ⟨hb8.same sm9,ER8.same sm9,λv H' s r=>⟨s,r⟩⟩;rw [hA',hP',hw',hxe] at run;refine thn run λz s10 ⟨zv,H10,I10,rz,sm10,repz⟩=>?_
     have p10:H10 p=some (.lst ys):=sm10 p _ (sm9 p _ p8);have ap:=yaa (X:=X') pins7 s10 σ8 H10 (.ref p) [zv] (.ref p) [z] (λ_ H11=>H11=upd H10 p (.lst (ys++[zv]))) I10 rfl (.cons rz .nil) ⟨p,ys,zv,rfl,rfl,p10,by have:=ok.len;omega,rfl⟩;rw [hA',hP',hw',hxe] at ap;refine thn ap λ_ s11 ⟨_,H11,I11,_,e11⟩=>?_
     subst e11
     have sbp:jt B' H10 (upd H10 p (.lst (ys++[zv]))):=λb o nb e=>by
      rw [ya (λw=>nb (by rw [hB',w];exact .inr rfl))];exact e
     have hb10:HB B' H10:=(hb8.same sm9).same sm10;refine again s11 _ (ys++[zv]) (r1++[dz]) I11 (λb o nb e=>by rw [ya nb];exact sm10 b o (sm9 b o e)) ja ?_ (by simp;omega) ?_ (((ER8.same sm9).same sm10).mono hb10 sbp)
     ·exact (((ry8.same sm9).same sm10).mono hb10 sbp).append (.cons (repz.mono hb10 sbp) .nil)
     ·rw [<-er2,e2];simp
    rcases S.T with ⟨hifs,hcc⟩ | ⟨ec,c,hifs,hcc,hT⟩
    ·subst hifs;subst hcc
     cases ekk;refine we (wpAny_tests_nil ?_)
     have ho:o≠none:=by
      rw [if_pos rfl] at eo;obtain ⟨_,_,rfl⟩:=wb eo
      simp
     exact we (we (wk (thn (behind s8 H8 I8 (Same.refl _) rfl ho) λz s10 h10=>we (wk (thn h10 λ_ s11 h11=>wm (wm ⟨rfl,h11⟩))))))
    ·subst hifs;subst hcc
     obtain ⟨dt,edt,etr⟩:=wa (show (ev C c ρ1).bind truO=some kk from ekk);have hT':=hT s3 (upd H p (.lst [])) fp B' ρ1 dt kk edt etr;rw [<-hX',hK'] at hT';have run:=hT' pins7 s8 σ8 H8 (λb H9=>b=kk/\Same H8 H9) I8 ⟨hb8,ER8,λH' s=>⟨rfl,s⟩⟩;rw [hA',hP',hw',hxe] at run;refine we (wpAny_tests_one (wk (thn run λb s9 ⟨H9,I9,eb,sm9⟩=>?_)));subst eb;cases b with
     | true =>
      have ho:o≠none:=by
       rw [if_pos rfl] at eo;obtain ⟨_,_,rfl⟩:=wb eo
       simp
      exact we (we (wk (thn (behind s9 H9 I9 sm9 rfl ho) λz s10 h10=>we (wk (thn h10 λ_ s11 h11=>wm (wm ⟨rfl,h11⟩))))))
     | false =>
      rw [if_neg wz] at eo;cases eo;refine wm ⟨rfl,again s9 H9 ys r1 I9 (λb o _ e=>sm9 b o e) (sm9 p _ p8) (ry8.same sm9) (by omega) (by rw [<-er2,e2]) (ER8.same sm9)⟩
   ·-- the end
    have hin:i=ds.length:=by omega
    subst hin;rw [List.drop_length] at hg5;cases hg5;rw [List.append_nil] at er2;subst er2;have done:=Tn.done X' hP' hw' hK' hc' ds.length [] s5 σ5 H5 (λ_ _=>False) I5 (stat fr5) st5 (ok.stop H5 (λb o _ e=>sm5 b o e));rw [hA'] at done;refine we (wk (thn done λrr s6 ⟨hr,I6⟩=>?_));subst hr;refine wm ?_;obtain ⟨mC,hnC,_⟩:=I6.loc;have hloc:X'.env.locals=s3.heap.objs.size:=by rw [henv];rfl
    rw [hloc] at hnC
    have un:Un (frs X.stack) fp (upd H p (.lst [])) H5 s3.heap s6.heap:=by
     have:=I6.base
     rw [hX'] at this;exact this
    have I7:L2.Inv X pins σ H5 s6:=by
     refine I3.call' ?_ un (by have:=I6.hok;rw [hP',hw'] at this;exact this) I6.bare λb hb=>⟨(fpo b hb).2.2.2.1,(fpo b hb).2.1,(fpo b hb).2.2.2.2.1,(fpo b hb).2.2.2.2.2⟩
     have:=I6.os
     rw [hX'] at this;exact this
    have hCn:H5 s3.heap.objs.size=none:=by
     have:=I6.free
     rw [hloc] at this;exact this
    refine fin p s3.heap.objs.size H5 ys s6 mC pf sm5 hpl (hB'▸ry) I7 hnC ?_ hCn;refine ⟨hCn,Nat.ne_of_gt I3.lt,I3.nofs (wB _),.inr I3.sz,λx c e z=>?_,λq hq z=>?_⟩
    ·obtain ⟨v,w⟩:=I3.cell x c e;exact absurd w.lt (by rw [z];exact Nat.lt_irrefl _)
    ·exact absurd (wy (I3.pin q hq).1) (by rw [z];exact Nat.lt_irrefl _)
  ·refine ⟨0,yan n keep σ,upd H p (.lst []),[],[],rs,I4,Tn.keep 0 _ _ st λb hb o e=>kept b o (old b o e),λb hb=>(fpo3 b hb).1,rfl,Nat.zero_le _,ja,.nil,wB _,?_,qa pf _,?_,by simpa using hg,by simp,?_⟩
   ·intro b o _ e;exact qa pf _ b o e
   ·refine ⟨λb hbb=>?_,λx hx=>qa pf _ _ _ (hb.t x hx)⟩;rw [hB'] at hbb;rcases hbb with z | z
    ·exact (hb.h b z).imp (λ⟨xs,e⟩=>⟨xs,qa pf _ b _ e⟩) λ⟨es,ep,e⟩=>⟨es,ep,qa pf _ b _ e⟩
    ·exact .inl ⟨[],z▸ja⟩
   ·exact ((er.block).holes Bn).same (qa pf _)
 have e1:({ newEnv scope s3.heap.objs.size X.env.globals (cOn (s3.heap.objs.size+1) scope.names (qI X.env.cells scope.names [])) X.env.qual none .none (some X.env) builtinsNs with scope:=relabel scope X.env }:Env)=X'.env:=by rw [henv];rfl
 rw [hs3] at loop e1;subst hp;show codeAny _ _ (.compStart _ 0 _ _ { newEnv scope _ X.env.globals (cOn _ scope.names (qI X.env.cells scope.names [])) X.env.qual none .none (some X.env) builtinsNs with scope:=relabel scope X.env }) _ _;rw [e1];exact codeAny_compStart_list loop (Tn.self X.A 0 _ _ _ (Tn.keep 0 _ _ st λb hb o e=>kept b o (old b o e)) loop)
end
section
variable {X:Cx} {C:Tab} {elt tg iter:Expr} {ifs:List Expr} {scope:Scope} {ce:Code} {t:Tgt} {n:Nat} {keep:List Nat} {cc:OCode} {N':List Str} {it:Iter} {pos:Pos}
theorem CompS.some (S:CompS X C elt tg iter ifs scope ce t n keep cc N') {pins:List (Addr×Obj)} {σ:L2.St} {H:Hp} {s:Shared} (I:L2.Inv X pins σ H s):∀ x∈scope.names,x.2=.free->(X.env.cells.lookup x.1).isSome=true:=λx hx hx2=>by
 obtain ⟨c,e⟩:=I.ok.has x.1 (S.fr x hx hx2);rw [e];rfl
theorem qbJ (S:CompS X C elt tg iter ifs scope ce t n keep cc N') (hi:SI X C tg iter it):SF X C (.ListComp elt [⟨tg,iter,ifs,0⟩] scope pos) (.comp ce t n keep it cc):=λB ρ rs e=>by
 obtain ⟨ds,eds,e⟩:=wa (show (evI C it ρ).bind (λds=>(gather (turn C ce t n keep cc ρ) ds).map D.lst)=some (D.lst rs) from e);obtain ⟨rs',hg,e⟩:=wb e;cases e;intro pins s σ H Q I ⟨hb,er,q⟩;rw [eval_ListComp];refine wpAny_comprehension_free (use:=none) rfl S.hs (yI (S.some I)) S.kind S.names ?_;refine thn (hi B ρ ds eds pins s σ H (λJ H'=>Same H H'/\ItOk X.K B H' ds J) I ⟨hb,er,λJ H' sm ok=>⟨sm,ok⟩⟩) λxv s1 h1=>thn h1 λitv s2 h2=>?_
 obtain ⟨ia,fp,tn,J,H2,e2,I2,T2,st2,f2,sm2,ok2⟩:=h2;subst e2;refine zba S I2 T2 st2 f2 ok2 (hb.same sm2) (er.same sm2) hg λp Cc Hf ys s' m pf smf hpl ry I' hn fpo hc=>?_
 refine ⟨m,hn,λh' hsb=>?_⟩;refine ⟨.ref p,Hf,I'.turned (t':=s'.toks) (it:=Cc) (λb o hb e=>hsb.extBut b o hb e) hc fpo.2.1 fpo.2.2.2.1 fpo.2.2.2.2.1 fpo.2.2.2.2.2,rfl,?_⟩;refine q _ Hf (sm2.trans smf) (.lst (λz=>?_) hpl (ry.less λb z=>.inl z)) ⟨p,rfl,sm2.free pf⟩;exact hb.notN (sm2.free pf) z
theorem ycX (S:CompS X C elt tg iter ifs scope ce t n keep cc N') (hi:SI X C tg iter it):SE X C (.ListComp elt [⟨tg,iter,ifs,0⟩] scope pos) (.comp ce t n keep it cc):=λB ρ d e=>by
 have:∃ ds,d=.lst ds:=by
  obtain ⟨ds,eds,e⟩:=wa (show (evI C it ρ).bind (λds=>(gather (turn C ce t n keep cc ρ) ds).map D.lst)=some d from e);obtain ⟨rs',hg,e⟩:=wb e;exact ⟨_,e.symm⟩
 obtain ⟨ds,rfl⟩:=this;exact SF.se (qbJ S hi) B ρ ds e
theorem ybJ {y:Str} {py spos:Pos} {i:Nat} (S:CompS X C elt tg iter ifs scope ce t n keep cc N') (hi:SI X C tg iter it) (hN:X.N.Nodup) (hy:X.N[i]?=some y) (hl:Loc X.env.scope y) (hf:X.fn y=true\/X.env.scope.names.lookup y=some .local)
  {B:Addr->Prop} {ρ:En} {rs:List D} (e:ev C (.comp ce t n keep it cc) ρ=some (.lst rs)):PS X (.Assign [.Name y py] (.ListComp elt [⟨tg,iter,ifs,0⟩] scope pos) spos) (qdr (tF X.K B ρ (.lst rs)) (gT (.one i))):=by
 obtain ⟨b,hsw⟩:∃ b:Bool,swapsWith (.ListComp elt [⟨tg,iter,ifs,0⟩] scope pos) (some (.Name y py)) spos.line X.env=pure b:=⟨_,rfl⟩;cases b with
 | false=>exact qal hN hy hl (qbJ S hi B ρ rs e) hsw hf
 | true =>
  obtain ⟨ds,eds,e⟩:=wa (show (evI C it ρ).bind (λds=>(gather (turn C ce t n keep cc ρ) ds).map D.lst)=some (D.lst rs) from e);obtain ⟨rs',hg,e⟩:=wb e;cases e;intro pins s σ H D I ⟨hb,er,q⟩;rw [exec_Assign_Name_used _ _ _ _ hsw];refine we (wpAny_standAt (we ?_));show wpAny _ X.A (do let _ <-comprehension (.ListComp elt [⟨tg,iter,ifs,0⟩] scope pos) scope X.env _ (newList []) false (eval iter X.env) (some (assign (.Name y py) X.env))) _ _ s;refine we (thn (wpAny_comprehension_free (use:=some (assign (.Name y py) X.env)) (Q:=λ_ s'=>SP X pins D .next s') rfl S.hs (yI (S.some I)) S.kind S.names ?_) λ_ s' hq=>wm (wm hq));refine thn (hi B ρ ds eds pins s σ H (λJ H'=>Same H H'/\ItOk X.K B H' ds J) I ⟨hb,er,λJ H' sm ok=>⟨sm,ok⟩⟩) λxv s1 h1=>thn h1 λitv s2 h2=>?_
  obtain ⟨ia,fp,tn,J,H2,e2,I2,T2,st2,f2,sm2,ok2⟩:=h2;subst e2;refine zba S I2 T2 st2 f2 ok2 (hb.same sm2) (er.same sm2) hg λp Cc Hf ys s' m pf smf hpl ry I' hn fpo hc=>?_
  have rp:Rep X.K B Hf (.ref p) (.lst rs):=.lst (hb.notN (sm2.free pf)) hpl (ry.less λb z=>.inl z);have q':=q (.ref p) Hf (sm2.trans smf) rp ⟨p,rfl,sm2.free pf⟩;show wpAny _ _ (assign (.Name y py) X.env (.ref p)) _ _ s';refine wpAny_assign_Name (jaF I' hN hy hl (v:=.ref p) rfl (λs'' I'' ⟨a,hsa,ha⟩=>?_) hf)
  have hca:Cc≠a:=by
   rcases ha with rfl | ha
   ·exact fpo.2.1
   ·exact (fpo.2.2.2.2.1 y a ha).symm
  refine ⟨m,hn.sameBut hsa hca,λh' hsb=>?_⟩;exact ⟨_,Hf,I''.turned (t':=s''.toks) (it:=Cc) (λb o hb e=>hsb.extBut b o hb e) hc fpo.2.1 fpo.2.2.2.1 fpo.2.2.2.2.1 fpo.2.2.2.2.2,q'⟩
end
section
variable {X:Cx} {C:Tab} {tg e:Expr} {c:Code}
theorem qba {K:Frag} {B:Addr->Prop} {H H':Hp} {a:Addr} {xs:List V} (n:¬ B a) (s:jt B H H') (h:SqL K H a xs):SqL K H' a xs:=by
 rcases h with (h | ⟨o,h⟩) | h
 ·exact .inl (.inl (s _ _ n h))
 ·exact .inl (.inr ⟨o,s _ _ n h⟩)
 ·exact .inr h
theorem qch {K:Frag} {B:Addr->Prop} {H H':Hp} {a:Addr} {xs:List V} (n:¬ B a) (s:jt B H H') (h:SqT K H a xs):SqT K H' a xs:=by
 rcases h with (h | ⟨o,h⟩) | h
 ·exact .inl (.inl (s _ _ n h))
 ·exact .inl (.inr ⟨o,s _ _ n h⟩)
 ·exact .inr h
inductive Src (K:Frag) (B:Addr->Prop) (H:Hp) (a:Addr) (vs:List V):Prop where
 | l (n:∀ H',jt B H H'->SqL K H' a vs) (s:SqL K H a vs)
 | t (n:∀ H',jt B H H'->SqT K H' a vs) (s:SqT K H a vs)
theorem Rep.src {K:Frag} {B:Addr->Prop} {H:Hp} {v:V} {d:D} {ds:List D} (hb:HB B H) (r:Rep K B H v d) (h:itemsD d=some ds):∃ a vs,v=.ref a/\Src K B H a vs/\Reps K B H vs ds:=by
 cases r with
 | @tup a vs ds' e rs =>
  cases h;refine ⟨a,vs,rfl,.t (λH' sm=>qch (B:=B) (λz=>?_) sm (SqT.of e)) (SqT.of e),rs⟩;exact hb.notT e z
 | @lst a vs ds' n e rs =>
  cases h;exact ⟨a,vs,rfl,.l (λH' sm=>qba (B:=B) n sm (SqL.of e)) (SqL.of e),rs⟩
 | @scr a ns hs =>
  cases h;refine ⟨a,_,rfl,.l (λH' sm=>?_) hs.sq,Reps.of_ints _⟩;rcases hs with ⟨o,e⟩ | w
  ·refine qba (B:=B) (λz=>?_) sm (.inl (.inr ⟨o,e⟩));exact hb.notF e z
  ·exact .inr w
 | _=>cases h
theorem jcX (he:SE X C e c):SI X C tg e (.data c):=λB ρ ds h=>by
 obtain ⟨d,ed,hi⟩:=wa (show (ev C c ρ).bind itemsD=some ds from h);intro pins s σ H R I ⟨hb,er,q⟩;refine thn (he B ρ d ed pins s σ H (λv H'=>Same H H'/\Rep X.K B H' v d) I ⟨hb,er,λv H' s r=>⟨s,r⟩⟩) λv s1 ⟨x,H1,I1,r1,sm1,rep1⟩=>?_
 obtain ⟨a,vs,rfl,src,rvs⟩:=rep1.src (hb.same sm1) hi;cases r1
 have fp:∀ b∈[s1.heap.objs.size],FpOk X pins H1 b:=λb hb=>by
  have e:b=s1.heap.objs.size:=by simpa using hb
  subst e;exact I1.fpOk (wB _) I1.fresh
 have hb1:=hb.same sm1;cases src with
 | l ns sq =>
  obtain ⟨its,rv,p,hz⟩:=I1.list sq;refine wpAny_pyIter_list p.isList ⟨s1.heap.objs.size,[s1.heap.objs.size],_,Itl X.K a,H1,rfl,I1.kept (t':=s1.toks) λb o e=>wj _ e,ybx a _,⟨_,wt _ rfl,rfl,rfl⟩,fp,q _ H1 sm1 ?_⟩;refine ⟨by rw [<-rvs.length];exact hz,λB' H' f2 hb' sm i d hd=>?_,λH' sm=>⟨vs,ns H' sm,by rw [rvs.length];exact wB _⟩⟩;have q':=ns H' sm;obtain ⟨x,ex,rx⟩:=rvs.get hd;refine ⟨⟨vs,x,q',ex⟩,λy H'' ⟨e1,e2⟩=>?_⟩;subst e1
  have:=e2 vs q'
  rw [ex] at this;cases this;exact ⟨Same.refl _,rx.shift hb1 sm f2⟩
 | t ns sq =>
  obtain ⟨its,rv,p,hz⟩:=I1.tuple sq;refine wpAny_pyIter_tuple (show s1.heap.IsTuple a its.toArray from p) ⟨s1.heap.objs.size,[s1.heap.objs.size],_,Itt X.K a,H1,rfl,I1.kept (t':=s1.toks) λb o e=>wj _ e,jbn a _,⟨_,wt _ rfl,rfl,rfl⟩,fp,q _ H1 sm1 ?_⟩;refine ⟨by rw [<-rvs.length];exact hz,λB' H' f2 hb' sm i d hd=>?_,λH' sm=>⟨vs,ns H' sm,by rw [rvs.length];exact wB _⟩⟩;have q':=ns H' sm;obtain ⟨x,ex,rx⟩:=rvs.get hd;refine ⟨⟨vs,x,q',ex⟩,λy H'' ⟨e1,e2⟩=>?_⟩;subst e1
  have:=e2 vs q'
  rw [ex] at this;cases this;exact ⟨Same.refl _,rx.shift hb1 sm f2⟩
theorem zao:∀ (n:Nat) (lo:Int) (i:Nat) (d:D),(yc lo n)[i]?=some d->i<n/\d=.int (lo+i)
 | 0,_,_,_,h=>by simp [yc] at h
 | n+1,lo,0,d,h=>by simp [yc] at h;exact ⟨by omega,by simp [h]⟩
 | n+1,lo,i+1,d,h=>by
  simp only [yc,List.getElem?_cons_succ] at h;obtain ⟨h1,h2⟩:=zao n (lo+1) i d h;exact ⟨by omega,by rw [h2];congr 1;push_cast;omega⟩
theorem jS:∀ (n:Nat) (lo:Int),(yc lo n).length=n
 | 0,_=>rfl
 | n+1,lo=>by simp [yc,jS n]
theorem qcA {K:Frag} {B:Addr->Prop} {H:Hp} {lo:Int} {n:Nat} (hz:n<=sizeLine):ItOk K B H (yc lo n) (Itr lo n) :=
 ⟨by rw [jS]; exact hz, λB' H' _ _ _ i d hd => by
  obtain ⟨h1,rfl⟩:=zao n lo i d hd;refine ⟨h1,λx H'' ⟨e1,e2⟩=>?_⟩;subst e1;subst e2
  exact ⟨Same.refl _,.int _⟩,λH' _=>by rw [jS];exact wB _⟩
theorem zcY {a:Expr} {ca:Code} {p pos:Pos} (hg:Gl X "range") (hm:X.mg "range"=none) (ha:SE X C a ca) (hs:starEach [a] X.env=[(false,eval a X.env)]):SI X C tg (.Call (.Name "range" p) [a] [] pos) (.rng (.cons ca .nil)):=λB ρ ds h=>by
 obtain ⟨dx,ex,h⟩:=wa (show (evs C (.cons ca .nil) ρ).bind rngD=some ds from h);have hpa:PA X [a] (tDs X.K B ρ dx):=yi ha jq hs B ρ dx ex;intro pins s σ H R I ⟨hb,er,q⟩;refine jbx hg hm hpa hs pins s σ H R I ⟨hb,er,λvs H1 sm1 r1=>?_⟩
 match dx,h with
 | [.int j],h =>
  simp only [rngD] at h;split at h
  ·rename_i hc;cases h;obtain ⟨v,rfl,rv⟩:=r1.one;cases rv;exact ⟨j,rfl,hc.1,hc.2.1,q _ H1 sm1 (qcA hc.2.2)⟩
  ·cases h
 | [.int i,.int j],h=>cases r1 with | cons _ r=>cases r with | cons _ r =>
   obtain ⟨_,_,h2⟩:=wa (show (ev C ca ρ).bind (λx=>(evs C .nil ρ).map λxs=>x::xs)=some [.int i,.int j] from ex);simp [evs] at h2
theorem qcY {a b:Expr} {ca cb:Code} {p pos:Pos} (hg:Gl X "range") (hm:X.mg "range"=none) (ha:SE X C a ca) (hb':SE X C b cb) (hs:starEach [a,b] X.env=[(false,eval a X.env),(false,eval b X.env)]) (hs2:starEach [b] X.env=[(false,eval b X.env)]) :
  SI X C tg (.Call (.Name "range" p) [a,b] [] pos) (.rng (.cons ca (.cons cb .nil))):=λB ρ ds h=>by
 obtain ⟨dx,ex,h⟩:=wa (show (evs C (.cons ca (.cons cb .nil)) ρ).bind rngD=some ds from h);have hpa:PA X [a,b] (tDs X.K B ρ dx):=yi ha (yi hb' jq hs2) (by rw [hs,hs2]) B ρ dx ex;obtain ⟨d1,e1,ex⟩:=wa (show (ev C ca ρ).bind _=some dx from ex);obtain ⟨dr,e2,rfl⟩:=wb ex;obtain ⟨d2,e2,ex⟩:=wa (show (ev C cb ρ).bind _=some dr from e2);obtain ⟨dn,e3,rfl⟩:=wb ex;cases e3;intro pins s σ H R I ⟨hb,er,q⟩;refine zby hg hm hpa hs hs2 pins s σ H R I ⟨hb,er,λvs H1 sm1 r1=>?_⟩;cases r1 with
 | cons ra r =>
  obtain ⟨v2,rfl,rb⟩:=r.one;cases d1 with
  | int i =>
   cases d2 with
   | int j =>
    simp only [rngD] at h;split at h
    ·rename_i hc;cases h;cases ra;cases rb
     exact ⟨i,j,rfl,⟨hc.1,hc.2.1,hc.2.2.1,hc.2.2.2.1⟩,q _ H1 sm1 (qcA hc.2.2.2.2)⟩
    ·cases h
   | _=>cases h
  | _=>cases h
end
def Sq (t:Bool) (K:Frag) (H:Hp) (a:Addr) (xs:List V):Prop:=cond t (SqT K H a xs) (SqL K H a xs)
section
variable {X:Cx} {pins:List (Addr×Obj)} {σ:L2.St} {H:Hp} {s:Shared}
theorem _root_.L2.Inv.sseq {t:Bool} {a:Addr} {xs:List V} (I:L2.Inv X pins σ H s) (h:Sq t X.K H a xs):∃ its:List Value,Vals xs its/\SSeq t s.heap a its.toArray/\xs.length<=sizeLine:=by
 cases t
 ·obtain ⟨its,rv,p,hz⟩:=I.list h;exact ⟨its,rv,p.isList,hz⟩
 ·obtain ⟨its,rv,p,hz⟩:=I.tuple h;exact ⟨its,rv,p,hz⟩
theorem _root_.L2.Inv.sq_inj {t:Bool} {a:Addr} {xs ys:List V} (I:L2.Inv X pins σ H s) (h:Sq t X.K H a xs) (h':Sq t X.K H a ys):xs=ys:=by
 cases t
 ·exact I.list_inj h h'
 ·exact I.tuple_inj h h'
theorem _root_.L2.Inv.sq_ne {t:Bool} {a b:Addr} {xs:List V} (I:L2.Inv X pins σ H s) (h:Sq t X.K H a xs) (f:FpOk X pins H b):a≠b:=λz=>by
 subst z
 have young:∀ o,X.K.lookup a=some o->False:=λo e=>by
  have hb:=I.ok.mod.kin a o e;rcases f.2.2.2.1 with q | q
  ·exact I.ok.noex a o hb q
  ·exact absurd (wL (wy hb) (wQ I.ok.bsz q)) (Nat.lt_irrefl _)
 have n:=f.1;cases t
 ·rcases h with (h | ⟨o,h⟩) | ⟨o,_,_,h,_⟩
  ·rw [n] at h;cases h
  ·rw [n] at h;cases h
  ·exact young o h
 ·rcases h with (h | ⟨o,h⟩) | ⟨o,_,_,h,_⟩
  ·rw [n] at h;cases h
  ·rw [n] at h;cases h
  ·exact young o h
theorem _root_.L2.Inv.drew {ch:List Addr} {T:Addr} {vs:List V} {us:List Value} {h':Heap} {t':Nat} (I:L2.Inv X pins σ H s) (hch:∀ b∈ch,FpOk X pins H b) (k:∀ b o,b∉ch->s.heap.get? b=some o->h'.get? b=some o)
  (hT:s.heap.objs.size<=T) (ht:IsTupN h' T us.toArray) (rv:Vals vs us) (hz:vs.length<=sizeLine):L2.Inv X pins σ (upd H T (.tup vs)) { s with heap:=h',toks:=t' }:=by
 have hTn:H T=none:=I.hok.fresh hT;have nch:∀ b u,H b=some u->b∉ch:=λb u e z=>by have:=(hch b z).1;rw [e] at this;cases this
 refine I.step (g':=s.gens) (d':=s.drawn) (ch:=ch) (λb hb=>⟨(hch b hb).2.2.2.1,(hch b hb).2.1,(hch b hb).2.2.2.2.1,(hch b hb).2.2.2.2.2⟩) (λb o _ _ hc e _=>k b o hc e) (λb o _ _ hc e _=>⟨o.slots,k b o hc e⟩) (λb o _ e n=>?_) (λb o hc e=>⟨o,k b o hc e⟩) (λb xs e=>?_) (λb o u e=>?_) (λb pq qq e=>?_) (λm hm=>?_) (λb u e=>?_) I.bare
 ·rw [ya (wM (wL (wy e) hT))];exact n
 ·rw [ya (je e hTn)];exact e
 ·rw [ya (je e hTn)];exact e
 ·rw [ya (je e hTn)];exact e
 ·obtain ⟨o,es,ep,ho,r⟩:=hm;exact ⟨o,es,ep,k _ o (λz=>(hch _ z).2.1 rfl) ho,r⟩
 ·by_cases hb:b=T
  ·subst hb;rw [ja] at e;cases e;exact ⟨hz,us,rv,ht⟩
  ·rw [ya hb] at e;refine (I.hok b u e).stay (λc v hc q=>k c v ?_ q) (λc q=>by rw [ya (je q hTn)];exact q) (λc xs q=>by rw [ya (je q hTn)];exact q) λc o u q=>by rw [ya (je q hTn)];exact q
   rcases hc with z | z
   ·rw [z];exact nch b u e
   ·exact nch c _ z
theorem _root_.L2.Inv.turns {ch:List Addr} {h':Heap} {t':Nat} (I:L2.Inv X pins σ H s) (hch:∀ b∈ch,FpOk X pins H b) (k:∀ b o,b∉ch->s.heap.get? b=some o->h'.get? b=some o):L2.Inv X pins σ H { s with heap:=h',toks:=t' }:=by
 have nch:∀ b u,H b=some u->b∉ch:=λb u e z=>by have:=(hch b z).1;rw [e] at this;cases this
 refine I.step (g':=s.gens) (d':=s.drawn) (ch:=ch) (λb hb=>⟨(hch b hb).2.2.2.1,(hch b hb).2.1,(hch b hb).2.2.2.2.1,(hch b hb).2.2.2.2.2⟩) (λb o _ _ hc e _=>k b o hc e) (λb o _ _ hc e _=>⟨o.slots,k b o hc e⟩) (λb o _ e n=>n) (λb o hc e=>⟨o,k b o hc e⟩) (λb xs e=>e) (λb o u e=>e) (λb pq qq e=>e) (λm hm=>?_) (λb u e=>?_) I.bare
 ·obtain ⟨o,es,ep,ho,r⟩:=hm;exact ⟨o,es,ep,k _ o (λz=>(hch _ z).2.1 rfl) ho,r⟩
 ·refine (I.hok b u e).stay (λc v hc q=>k c v ?_ q) (λc q=>q) (λc xs q=>q) λc o u q=>q
  rcases hc with z | z
  ·rw [z];exact nch b u e
  ·exact nch c _ z
end
noncomputable def Ite (t:Bool) (K:Frag) (a:Addr):It :=
 ⟨λi H=>∃ xs x,Sq t K H a xs/\xs[i]?=some x,λi H v H'=>∃ T x,v=.ref T/\H T=none/\H'=upd H T (.tup [.int i,x])/\∀ xs,Sq t K H a xs->xs[i]?=some x,λi H=>∃ xs,Sq t K H a xs/\xs.length=i⟩
noncomputable def Itz (t u:Bool) (K:Frag) (a b:Addr):It :=
 ⟨λi H=>∃ xs ys x y,Sq t K H a xs/\Sq u K H b ys/\xs[i]?=some x/\ys[i]?=some y,
  λi H v H'=>∃ T x y,v=.ref T/\H T=none/\H'=upd H T (.tup [x,y])/\(∀ xs,Sq t K H a xs->xs[i]?=some x)/\∀ ys,Sq u K H b ys->ys[i]?=some y,
  λi H=>∃ xs ys,Sq t K H a xs/\Sq u K H b ys/\(xs[i]?=none\/ys[i]?=none)⟩
theorem nn (n i j:Nat) (h:i≠j):((n+i:Nat):Addr)≠((n+j:Nat):Addr):=λe=>h (by have e':n+i=n+j:=e;omega)
theorem zap {n:Nat} {a b:Addr} (h1:a≠n+4) (h2:a≠n+3) (h3:a≠n) (h4:a≠n+1) (k1:b≠n+4) (k2:b≠n+3) (k3:b≠n) (k4:b≠n+1):ZipApart (n+4) (n+2) (n+3) n (n+1) a b :=
 ⟨nn n 2 4 (by decide),nn n 3 4 (by decide),nn n 0 4 (by decide),nn n 1 4 (by decide),nn n 2 3 (by decide),nn n 2 0 (by decide),nn n 2 1 (by decide),nn n 3 0 (by decide),nn n 3 1 (by decide),nn n 0 1 (by decide),h1,h2,h3,h4,k1,k2,k3,k4⟩
theorem yba:(2:Nat)<=sizeLine:=by rw [sizeLine_eq];decide
theorem jbJ {P:Program} {w:World} {K:Frag} {elts:List Expr} {kk:Nat} {pos:Pos} (t:Bool) (a it e:Addr) (hne:e≠it) :
  Turn P w K (.Tuple elts kk pos) (Ite t K a) [e,it] e (λi h=>(∃ old,IsEnum h e it i old)/\SItr t h it a i) where
 mem:=by simp
 obj:=λi h st b hb=>by
  have:b=e\/b=it:=by simpa using hb
  rcases this with z | z
  ·subst z;obtain ⟨old,q⟩:=st.1;exact ⟨_,q,λv z=>by have z':Data.fields _=Data.cell v:=z;cases z'⟩
  ·subst z;obtain ⟨o,n,ho,hc,hn,hd⟩:=st.2.ob;exact ⟨o,ho,λv z=>by rw [hd] at z;cases z⟩
 keep:=λi h h' st k=>⟨let ⟨old,q⟩:=st.1;⟨old,k e (by simp) _ q⟩,st.2.at λo q=>k it (by simp) o q⟩
 item:=by
  intro X hP hw hK hc i pins s σ H E I hf st hg;subst hP hw hK;obtain ⟨xs,x,hq,hx⟩:=hg;obtain ⟨its,rv,p,hz⟩:=I.sseq hq;obtain ⟨u,hu,ru⟩:=rv.get hx;have hil:i<its.toArray.size:=by simpa using (wq.mp hu).1
  have hea:e≠a:=(I.sq_ne hq (hf e (by simp))).symm;have W:=WalksT.enumerateD (ja8 (prog:=X.prog) (w:=X.w) (A:=X.A.in1) (by simp [I.ok.hd hc]) t it a (p.ne_itr st.2) its.toArray) e hne (by simp [hne,hea]) (by simp);obtain ⟨old,he⟩:=st.1;refine ybF hne hea he st.2 p (by simpa using hu) λh' tk tk' en si pr kp=>?_
  have hen:s.heap.objs.size≠e:=Nat.ne_of_gt (wy he)
  have hin:s.heap.objs.size≠it:=by
   obtain ⟨o,n,ho,_⟩:=st.2.ob;exact Nat.ne_of_gt (wy ho)
  have p':SSeq t h' a its.toArray:=p.at λo q=>kp _ _ hea.symm (p.ne_itr st.2) q
  have mid:(∃ x,IsEnumOut h' e it (i+1) x s.heap.objs.size)/\(SItr t h' it a (i+1)/\SSeq t h' a its.toArray)/\s.heap.objs.size≠e/\s.heap.objs.size≠it:=⟨⟨u,en⟩,⟨si,p'⟩,hen,hin⟩;refine ⟨_,rfl,W.go elts kk pos i s.heap.objs.size _ _ E mid λh'' st'' kp2=>?_⟩;have hTw:s.heap.objs.size∉[e,it]:=by simp [hen,hin]
  have sub:∀ b o,b∉[e,it]->s.heap.get? b=some o->h''.get? b=some o:=λb o hb q=>kp2 b o hb (kp b o (λz=>hb (by simp [z])) (λz=>hb (by simp [z])) q)
  have htT:IsTupN h'' s.heap.objs.size ([Value.int i tk',u]:List Value).toArray:=⟨_,kp2 _ _ hTw pr,rfl,rfl,_,rfl⟩;refine ⟨.ref s.heap.objs.size,upd H s.heap.objs.size (.tup [.int i,x]),I.drew (t':=tk) (λb hb=>hf b hb) sub (wB _) htT (.cons ⟨tk',rfl⟩ (.cons ru .nil)) yba,rfl,⟨_,x,rfl,I.hok.fresh (wB _),rfl,λys hy=>by rw [I.sq_inj hy hq];exact hx⟩,⟨st''.1,st''.2.1⟩,λb hb=>?_⟩;have hbT:b≠s.heap.objs.size:=λz=>by subst z;exact hTw hb
  rw [ya hbT];exact (hf b hb).1
 done:=by
  intro X hP hw hK hc i pins s σ H E I hf st hg;subst hP hw hK;obtain ⟨xs,hq,hx⟩:=hg;obtain ⟨its,rv,p,hz⟩:=I.sseq hq;have hea:e≠a:=(I.sq_ne hq (hf e (by simp))).symm;have W:=WalksT.enumerateD (ja8 (prog:=X.prog) (w:=X.w) (A:=X.A.in1) (by simp [I.ok.hd hc]) t it a (p.ne_itr st.2) its.toArray) e hne (by simp [hne,hea]) (by simp);have hsz:its.toArray.size=i:=by rw [vh,<-rv.length];exact hx
  refine W.done s _ E (by rw [hsz];exact ⟨st.1,st.2,p⟩) λh' tk kp=>⟨rfl,I.turns (t':=tk) (λb hb=>hf b hb) kp⟩
 self:=λA i s Q E st h=>let ⟨old,q⟩:=st.1;wpAny_pyIter_enum q h
theorem ych {P:Program} {w:World} {K:Frag} {elts:List Expr} {kk:Nat} {pos:Pos} (t u:Bool) (a b:Addr) (n:Nat) :
  Turn P w K (.Tuple elts kk pos) (Itz t u K a b) [n+4,n+2,n+3,n,n+1] (n+4) (λi h=>IsZip h (n+4) (n+2) (n+3) .none/\IsPair h (n+2) (.ref n) (.ref (n+1))/\(∃ p q,IsPair h (n+3) p q)/\SItr t h n a i/\SItr u h (n+1) b i) where
 mem:=by simp
 obj:=λi h st c hc=>by
  have:c=n+4\/c=n+2\/c=n+3\/c=n\/c=n+1:=by simpa using hc
  obtain ⟨h1,h2,⟨p,q,h3⟩,h4,h5⟩:=st;rcases this with z | z | z | z | z<;>subst z
  ·exact ⟨_,h1,λv z=>by have z':Data.fields _=Data.cell v:=z;cases z'⟩
  ·exact ⟨_,h2,λv z=>by have z':Data.seq _ _=Data.cell v:=z;cases z'⟩
  ·exact ⟨_,h3,λv z=>by have z':Data.seq _ _=Data.cell v:=z;cases z'⟩
  ·obtain ⟨o,m,ho,hc,hn,hd⟩:=h4.ob;exact ⟨o,ho,λv z=>by rw [hd] at z;cases z⟩
  ·obtain ⟨o,m,ho,hc,hn,hd⟩:=h5.ob;exact ⟨o,ho,λv z=>by rw [hd] at z;cases z⟩
 keep:=λi h h' st k=>by
  obtain ⟨h1,h2,⟨p,q,h3⟩,h4,h5⟩:=st;exact ⟨k _ (by simp) _ h1,k _ (by simp) _ h2,⟨p,q,k _ (by simp) _ h3⟩,h4.at λo e=>k n (by simp) o e,h5.at λo e=>k (n+1) (by simp) o e⟩
 item:=by
  intro X hP hw hK hc i pins s σ H E I hf st hg;subst hP hw hK;obtain ⟨xs,ys,x,y,q1,q2,hx,hy⟩:=hg;obtain ⟨is1,rv1,p1,z1⟩:=I.sseq q1;obtain ⟨is2,rv2,p2,z2⟩:=I.sseq q2;obtain ⟨u1,hu1,ru1⟩:=rv1.get hx;obtain ⟨u2,hu2,ru2⟩:=rv2.get hy;obtain ⟨h1,h2,⟨p,q,h3⟩,h4,h5⟩:=st;have D:ZipApart (n+4) (n+2) (n+3) n (n+1) a b:=zap (I.sq_ne q1 (hf _ (by simp))) (I.sq_ne q1 (hf _ (by simp))) (I.sq_ne q1 (hf _ (by simp))) (I.sq_ne q1 (hf _ (by simp))) (I.sq_ne q2 (hf _ (by simp))) (I.sq_ne q2 (hf _ (by simp))) (I.sq_ne q2 (hf _ (by simp))) (I.sq_ne q2 (hf _ (by simp)));refine qcd D h1 h2 h3 h4 h5 p1 p2 (by simpa using hu1) (by simpa using hu2) λh' zz tz j1 j2 pr sz kp=>?_
  refine ⟨_,rfl,wpAny_letOwnedTupleGo_zip zz λh'' z'' s''=>?_⟩;have s'':Heap.SameBut (n+4) h' h'':=s'';have lz:n+4<s.heap.objs.size:=wy h1
  have lz':∀ i,i<=4->((n+i:Nat):Addr)≠s.heap.objs.size:=λi hi e=>by
   have e':n+i=s.heap.objs.size:=e;have l':n+4<s.heap.objs.size:=lz;omega
  have sub:∀ c o,c∉[n+4,n+2,n+3,n,n+1]->s.heap.get? c=some o->h''.get? c=some o:=λc o hc e =>
   s''.extBut _ _ (λw=>hc (by simp [w])) (kp c o (λw=>hc (by simp [w])) (λw=>hc (by simp [w])) (λw=>hc (by simp [w])) (λw=>hc (by simp [w])) e)
  have htT:IsTupN h'' s.heap.objs.size ([u1,u2]:List Value).toArray:=⟨_,s''.extBut _ _ (Ne.symm (lz' 4 (by decide))) pr,rfl,rfl,_,rfl⟩
  refine ⟨.ref s.heap.objs.size,upd H s.heap.objs.size (.tup [x,y]),I.drew (t':=s.toks) (λc hc=>hf c hc) sub (wB _) htT (.cons ru1 (.cons ru2 .nil)) yba,rfl,
   ⟨_,x,y,rfl,I.fresh,rfl,λzs hz=>by rw [I.sq_inj hz q1];exact hx,λzs hz=>by rw [I.sq_inj hz q2];exact hy⟩,⟨z'',s''.extBut _ _ D.TIz (kp _ _ D.TIz D.TITO D.TIi1 D.TIi2 h2),⟨u1,u2,s''.extBut _ _ D.TOz tz⟩,j1.at λo e=>s''.extBut _ _ D.i1z e,j2.at λo e=>s''.extBut _ _ D.i2z e⟩,λc hc=>?_⟩
  have hcl:c≠s.heap.objs.size:=by
   have:c=n+4\/c=n+2\/c=n+3\/c=n\/c=n+1:=by simpa using hc
   rcases this with z | z | z | z | z<;>subst z
   ·exact lz' 4 (by decide)
   ·exact lz' 2 (by decide)
   ·exact lz' 3 (by decide)
   ·exact lz' 0 (by decide)
   ·exact lz' 1 (by decide)
  rw [ya hcl];exact (hf c hc).1
 done:=by
  intro X hP hw hK hc i pins s σ H E I hf st hg;subst hP hw hK;obtain ⟨xs,ys,q1,q2,hend⟩:=hg;obtain ⟨is1,rv1,p1,z1⟩:=I.sseq q1;obtain ⟨is2,rv2,p2,z2⟩:=I.sseq q2;obtain ⟨h1,h2,⟨p,q,h3⟩,h4,h5⟩:=st;have D:ZipApart (n+4) (n+2) (n+3) n (n+1) a b:=zap (I.sq_ne q1 (hf _ (by simp))) (I.sq_ne q1 (hf _ (by simp))) (I.sq_ne q1 (hf _ (by simp))) (I.sq_ne q1 (hf _ (by simp))) (I.sq_ne q2 (hf _ (by simp))) (I.sq_ne q2 (hf _ (by simp))) (I.sq_ne q2 (hf _ (by simp))) (I.sq_ne q2 (hf _ (by simp)));have l1:=rv1.length;have l2:=rv2.length
  have hend':is1.toArray[i]?=none\/is2.toArray[i]?=none:=by
   rcases hend with z | z
   ·exact .inl (by have:=List.getElem?_eq_none_iff.mp z;simp;omega)
   ·exact .inr (by have:=List.getElem?_eq_none_iff.mp z;simp;omega)
  exact ycd (I.ok.hd hc) D h1 h2 h3 h4 h5 p1 p2 hend' λh' kp=>⟨rfl,I.turns (t':=s.toks) (λc hc=>hf c hc) λc o hc e=>kp c o (λw=>hc (by simp [w])) (λw=>hc (by simp [w])) (λw=>hc (by simp [w])) (λw=>hc (by simp [w])) e⟩
 self:=λA i s Q E st h=>wpAny_pyIter_zip st.1 h
def BO (B O:Addr->Prop):Addr->Prop:=λb=>B b\/O b
noncomputable def tkh (ks:List Int):Int:=reduceHash (Builtin.Tuple.tupleHashOf (ks.map hashInt))
noncomputable def jaV (x:List Int×Addr×Addr):DictEntry:={ hash:=tkh x.1,key:=.ref x.2.1,val:=.ref x.2.2 }
def EntR (K:Frag) (B O G:Addr->Prop) (H:Hp) (x:List Int×Addr×Addr) (e:List Int×List D):Prop :=
 x.1=e.1/\H x.2.1=some (.tup (x.1.map V.int))/\O x.2.2/\G x.2.2/\∃ vs,H x.2.2=some (.lst vs)/\Reps K (BO B O) H vs e.2
structure GrpR (K:Frag) (B O G:Addr->Prop) (H:Hp) (a:Addr) (es:List (List Int×List D)) (en:Array DictEntry) (ep:Nat) (xs:List (List Int×Addr×Addr)):Prop where
 o:O a
 h:H a=some (j3 a en ep)
 sy:(a==sysModules)=false
 en:en.toList=xs.map jaV
 ks:(xs.map (·.1)).Nodup
 ls:(xs.map (·.2.2)).Nodup
 len:xs.length<=1000
 al:Paired (EntR K B O G H) xs es
structure FR (K:Frag) (B:Addr->Prop) (H0:Hp) (O:Addr->Prop) (σ:L2.St) (H:Hp) (ρ:List Sl):Prop where
 o0:∀ a,O a->H0 a=none
 same:Same H0 H
 hb:HB (BO B O) H
 hb0:HB B H0
 pu:∀ (i:Nat) (d:D),ρ[i]?=some (.pu d)->∃ v,σ[i]?=some (some v)/\Rep K (BO B O) H v d
 ow:∀ (i:Nat) (ds:List D),ρ[i]?=some (.ow ds)->∃ a vs,σ[i]?=some (some (.ref a))/\O a/\H a=some (.lst vs)/\Reps K (BO B O) H vs ds
 ap:∀ (i j:Nat) (ds es:List D) (a:Addr),ρ[i]?=some (.ow ds)->ρ[j]?=some (.ow es)->σ[i]?=some (some (.ref a))->σ[j]?=some (some (.ref a))->i=j
 g1:∀ (i j:Nat) es es',ρ[i]?=some (.gr es)->ρ[j]?=some (.gr es')->i=j
 gs:∃ G:Addr->Prop,(∀ (i:Nat) (ds:List D) (a:Addr),ρ[i]?=some (.ow ds)->σ[i]?=some (some (.ref a))->¬ G a) /\
  ∀ (i:Nat) es,ρ[i]?=some (.gr es)->∃ a en ep xs,σ[i]?=some (some (.ref a))/\GrpR K B O G H a es en ep xs
structure Ext (B O:Addr->Prop) (H:Hp) (O':Addr->Prop) (H':Hp):Prop where
 fr:∀ b,O' b->O b\/H b=none
 sm:jt (BO B O) H H'
 dom:∀ b o,H b=some o->∃ o',H' b=some o'
section
variable {K:Frag} {B O O1 O2:Addr->Prop} {H0 H H1 H2:Hp} {σ:L2.St} {ρ ρ':List Sl}
theorem Ext.of_same (s:Same H H1):Ext B O H O H1:=⟨λ_ h=>.inl h,λb o _ e=>s b o e,λb o e=>⟨o,s b o e⟩⟩
theorem Ext.refl:Ext B O H O H:=Ext.of_same (Same.refl H)
theorem Ext.trans (a:Ext B O H O1 H1) (b:Ext B O1 H1 O2 H2):Ext B O H O2 H2:=by
 refine ⟨λc h=>?_,λc o nb e=>?_,λc o e=>?_⟩
 ·rcases b.fr c h with q | q
  ·exact a.fr c q
  ·right
   cases e:H c with
   | none=>rfl
   | some o=>obtain ⟨o',e'⟩:=a.dom c o e;rw [q] at e';cases e'
 ·refine b.sm c o (λz=>?_) (a.sm c o nb e);rcases z with z | z
  ·exact nb (.inl z)
  ·rcases a.fr c z with q | q
   ·exact nb (.inr q)
   ·rw [q] at e;cases e
 ·obtain ⟨o',e'⟩:=a.dom c o e;exact b.dom c o' e'
theorem EntR.same {G:Addr->Prop} (s:Same H H1) {x:List Int×Addr×Addr} {e:List Int×List D} (h:EntR K B O G H x e):EntR K B O G H1 x e:=by
 obtain ⟨a,b,c,d,vs,f,g⟩:=h;exact ⟨a,s _ _ b,c,d,vs,s _ _ f,g.same s⟩
theorem GrpR.same {G:Addr->Prop} {a:Addr} {es:List (List Int×List D)} {en:Array DictEntry} {ep:Nat} {xs:List (List Int×Addr×Addr)} (s:Same H H1) (g:GrpR K B O G H a es en ep xs):GrpR K B O G H1 a es en ep xs :=
 ⟨g.o,s _ _ g.h,g.sy,g.en,g.ks,g.ls,g.len,L2.Paired.mapP g.al λ_ _ z=>z.same s⟩
theorem GrpR.shift {G G':Addr->Prop} {a:Addr} {es:List (List Int×List D)} {en:Array DictEntry} {ep:Nat} {xs:List (List Int×Addr×Addr)} (g:GrpR K B O G H a es en ep xs)
  (hb:HB (BO B O) H) (sm:jt (BO B O) H H1) (ha:H1 a=H a) (hl:∀ l,O l->G l->H1 l=H l) (hO:∀ b,(b=a\/G b)->O b->O1 b) (hG:∀ b o,H b=some o->G b->G' b) (hol:∀ b,BO B O1 b->BO B O b\/H b=none):GrpR K B O1 G' H1 a es en ep xs:=by
 refine ⟨hO _ (.inl rfl) g.o,by rw [ha];exact g.h,g.sy,g.en,g.ks,g.ls,g.len,L2.Paired.mapP g.al λx e z=>?_⟩;obtain ⟨z1,z2,z3,z4,vs,z5,z6⟩:=z;exact ⟨z1,sm _ _ (hb.notT z2) z2,hO _ (.inr z4) z3,hG _ _ z5 z4,vs,by rw [hl _ z3 z4];exact z5,z6.shift hb sm hol⟩
theorem FR.grow (F:FR K B H0 O σ H ρ) (s:Same H H1):FR K B H0 O σ H1 ρ where
 o0:=F.o0
 same:=F.same.trans s
 hb:=F.hb.same s
 hb0:=F.hb0
 pu:=λi d e=>let ⟨v,q,r⟩:=F.pu i d e;⟨v,q,r.same s⟩
 ow:=λi ds e=>let ⟨a,vs,q,o,h,r⟩:=F.ow i ds e;⟨a,vs,q,o,s _ _ h,r.same s⟩
 ap:=F.ap
 g1:=F.g1
 gs:=let ⟨G,g1,g2⟩:=F.gs;⟨G,g1,λi es e=>let ⟨a,en,ep,xs,q,g⟩:=g2 i es e;⟨a,en,ep,xs,q,g.same s⟩⟩
theorem FR.nb (F:FR K B H0 O σ H ρ) {a:Addr} (o:O a):¬ B a:=λz=>by
 exact F.hb0.notN (F.o0 a o) z
theorem FR.hbB (F:FR K B H0 O σ H ρ):HB B H:=⟨λb z=>F.hb.h b (.inl z),F.hb.t⟩
theorem FR.erP (F:FR K B H0 O σ H ρ):ER K (BO B O) H σ (vP ρ):=λi d e=>by
 unfold vP at e;rw [wx] at e;cases q:ρ[i]? with
 | none=>rw [q] at e;cases e
 | some s =>
  rw [q] at e;cases s with
  | pu x =>
   have e':x=d:=wA (wA e);rw [<-e'];exact F.pu i x q
  | un=>cases e
  | ow ds=>cases e
  | gr es=>cases e
theorem jba:∀ xs:List (List Int×Addr×Addr),Vals (xs.map λx=>V.ref x.2.2) (xs.map ((·.val)∘jaV))
 | []=>.nil
 | _::r=>.cons rfl (jba r)
theorem zbb {G:Addr->Prop} (f:∀ {l:Addr} {vs:List V} {ds:List D},O l->H l=some (.lst vs)->Reps K (BO B O) H vs ds->Rep K B H (.ref l) (.lst ds)):∀ {xs:List (List Int×Addr×Addr)} {es:List (List Int×List D)},Paired (EntR K B O G H) xs es ->
  Reps K B H (xs.map λx=>V.ref x.2.2) (es.map λe=>.lst e.2)
 | _,_,.nil=>.nil
 | _,_,.cons ⟨_,_,o,_,_,h,r⟩ t=>.cons (f o h r) (zbb f t)
theorem FR.erA (F:FR K B H0 O σ H ρ):ER K B H σ (vA ρ):=λi d e=>by
 unfold vA at e;rw [wx] at e;cases q:ρ[i]? with
 | none=>rw [q] at e;cases e
 | some s =>
  rw [q] at e;cases s with
  | pu x =>
   have e':x=d:=wA (wA e);rw [<-e'];obtain ⟨v,q,r⟩:=F.pu i x q;exact ⟨v,q,r.less λb z=>.inl z⟩
  | un=>cases e
  | ow ds =>
   have e':D.lst ds=d:=wA (wA e);rw [<-e'];obtain ⟨a,vs,q,o,h,r⟩:=F.ow i ds q;exact ⟨_,q,.lst (F.nb o) h (r.less λb z=>.inl z)⟩
  | gr es =>
   have e':D.grp (es.map λe=>.lst e.2)=d:=wA (wA e);rw [<-e'];obtain ⟨G,_,g2⟩:=F.gs;obtain ⟨a,en,ep,xs,q,g⟩:=g2 i es q;refine ⟨_,q,.grp (vs:=xs.map λx=>.ref x.2.2) (F.nb g.o) g.h g.sy (by rw [wC];exact wQ g.len (by rw [sizeLine_eq];decide)) ?_ ?_⟩
   ·rw [g.en,wJ];exact jba xs
   ·exact zbb (λo h r=>.lst (F.nb o) h (r.less λb z=>.inl z)) g.al
theorem wc {α:Type} {l:List α} {i j:Nat} {x y:α} (h:(l.set i x)[j]?=some y):(j=i/\y=x)\/(j≠i/\l[j]?=some y):=by
 by_cases e:j=i
 ·subst e
  have hl:j<l.length:=by
   have:=(wq.mp h).1
   simpa using this
  rw [vn hl] at h;exact .inl ⟨rfl,(wA h).symm⟩
 ·rw [wD (Ne.symm e)] at h;exact .inr ⟨e,h⟩
theorem FR.set {i:Nat} {v:V} {d:D} (F:FR K B H0 O σ H ρ) (hi:i<σ.length) (r:Rep K (BO B O) H v d):FR K B H0 O (σ.set i (some v)) H (ρ.set i (.pu d)) where
 o0:=F.o0
 same:=F.same
 hb:=F.hb
 hb0:=F.hb0
 pu:=λj d' e=>by
  rcases wc e with ⟨rfl,e'⟩ | ⟨ne,e⟩
  ·cases e';exact ⟨v,vn hi,r⟩
  ·obtain ⟨w,q,rw'⟩:=F.pu j d' e;exact ⟨w,by rw [wD (Ne.symm ne)];exact q,rw'⟩
 ow:=λj ds e=>by
  rcases wc e with ⟨rfl,e'⟩ | ⟨ne,e⟩
  ·cases e'
  ·obtain ⟨a,vs,q,o,h,rs⟩:=F.ow j ds e;exact ⟨a,vs,by rw [wD (Ne.symm ne)];exact q,o,h,rs⟩
 ap:=λj k ds es a e1 e2 q1 q2=>by
  rcases wc e1 with ⟨rfl,e'⟩ | ⟨n1,e1⟩
  ·cases e'
  ·rcases wc e2 with ⟨rfl,e'⟩ | ⟨n2,e2⟩
   ·cases e'
   ·rw [wD (Ne.symm n1)] at q1;rw [wD (Ne.symm n2)] at q2;exact F.ap j k ds es a e1 e2 q1 q2
 g1:=λj k es es' e1 e2=>by
  rcases wc e1 with ⟨rfl,e'⟩ | ⟨n1,e1⟩
  ·cases e'
  ·rcases wc e2 with ⟨rfl,e'⟩ | ⟨n2,e2⟩
   ·cases e'
   ·exact F.g1 j k es es' e1 e2
 gs:=by
  obtain ⟨G,g1,g2⟩:=F.gs;refine ⟨G,λj ds a e q=>?_,λj es e=>?_⟩
  ·rcases wc e with ⟨rfl,e'⟩ | ⟨ne,e⟩
   ·cases e'
   ·rw [wD (Ne.symm ne)] at q;exact g1 j ds a e q
  ·rcases wc e with ⟨rfl,e'⟩ | ⟨ne,e⟩
   ·cases e'
   ·obtain ⟨a,en,ep,xs,q,g⟩:=g2 j es e;exact ⟨a,en,ep,xs,by rw [wD (Ne.symm ne)];exact q,g⟩
theorem FR.setM:∀ {is:List Nat} {vs:List V} {ds:List D} {σ:L2.St} {ρ:List Sl},FR K B H0 O σ H ρ->(∀ i∈is,i<σ.length)->Reps K (BO B O) H vs ds->FR K B H0 O (yax is vs σ) H (puM is ds ρ)
 | [],_,_,_,_,F,_,r=>by cases r<;>exact F
 | _::_,_,_,_,_,F,_,.nil=>F
 | i::is,_,_,σ,ρ,F,hi,.cons a r=>by
  rw [yax,puM];exact FR.setM (F.set (hi i (by simp)) a) (λj hj=>by simpa using hi j (by simp [hj])) r
theorem FR.tgt {t:Tgt} {v:V} {d:D} {Q:L2.St->Hp->Prop} (F:FR K B H0 O σ H ρ) (ht:puT t d ρ=some ρ') (hi:∀ i∈t.ixs,i<σ.length) (r:Rep K (BO B O) H v d)
  (q:∀ σ',FR K B H0 O σ' H ρ'->σ'.length=σ.length->Q σ' H):gT t v σ H Q:=by
 cases t with
 | one i =>
  cases ht;exact q _ (F.set (hi i (by simp [Tgt.ixs])) r) (by simp)
 | many is =>
  cases d with
  | tup ds =>
   simp only [puT] at ht;split at ht
   ·rename_i hl;cases ht;obtain ⟨a,vs,rfl,ha,ra⟩:=r.tupD;exact ⟨a,vs,rfl,ha,by rw [ra.length];exact hl,q _ (F.setM hi ra) (qG _ _ _)⟩
   ·cases ht
  | _=>cases ht
theorem FR.own {i:Nat} {a:Addr} {vs:List V} {ds:List D} (F:FR K B H0 O σ H ρ) (hi:i<σ.length) (s:Same H H1) (hf:H a=none) (ha:H1 a=some (.lst vs)) (r:Reps K B H1 vs ds) (hn:yai ds=true) :
  FR K B H0 (λb=>O b\/b=a) (σ.set i (some (.ref a))) H1 (ρ.set i (.ow ds))/\Ext B O H (λb=>O b\/b=a) H1:=by
 have hol:∀ b,BO B (λb=>O b\/b=a) b->BO B O b\/H b=none:=λb z=>by
  rcases z with z | z | z
  ·exact .inl (.inl z)
  ·exact .inl (.inr z)
  ·exact .inr (z▸hf)
 refine ⟨⟨λb z=>?_,F.same.trans s,⟨λb z=>?_,λx hx=>s _ _ (F.hb.t x hx)⟩,F.hb0,λj d e=>?_,λj es e=>?_,λj k ds1 ds2 b e1 e2 q1 q2=>?_,λj k es es' e1 e2=>?_,?_⟩,⟨λb z=>?_,λb o _ e=>s b o e,λb o e=>⟨o,s b o e⟩⟩⟩
 ·rcases z with z | z
  ·exact F.o0 b z
  ·rw [z];exact F.same.free hf
 ·rcases z with z | z | z
  ·exact (F.hb.same s).h b (.inl z)
  ·exact (F.hb.same s).h b (.inr z)
  ·exact .inl ⟨vs,z▸ha⟩
 ·rcases wc e with ⟨rfl,e'⟩ | ⟨ne,e⟩
  ·cases e'
  ·obtain ⟨w,q,rw'⟩:=F.pu j d e;exact ⟨w,by rw [wD (Ne.symm ne)];exact q,(rw'.holes hol).same s⟩
 ·rcases wc e with ⟨rfl,e'⟩ | ⟨ne,e⟩
  ·cases e';exact ⟨a,vs,vn hi,.inr rfl,ha,r.clean hn⟩
  ·obtain ⟨b,ws,q,o,h,rs⟩:=F.ow j es e;exact ⟨b,ws,by rw [wD (Ne.symm ne)];exact q,.inl o,s _ _ h,(rs.holes hol).same s⟩
 ·have old:∀ (m:Nat) (es:List D),ρ[m]?=some (.ow es)->σ[m]?=some (some (.ref a))->False:=λm es e q=>by
   obtain ⟨b,ws,q',o,h,_⟩:=F.ow m es e;rw [q] at q';cases q'
   rw [hf] at h;cases h
  rcases wc e1 with ⟨rfl,e1'⟩ | ⟨n1,f1⟩
  ·rcases wc e2 with ⟨rfl,e2'⟩ | ⟨n2,f2⟩
   ·rfl
   ·rw [vn hi] at q1;cases q1;rw [wD (Ne.symm n2)] at q2;exact (old k _ f2 q2).elim
  ·rw [wD (Ne.symm n1)] at q1;rcases wc e2 with ⟨rfl,e2'⟩ | ⟨n2,f2⟩
   ·rw [vn hi] at q2;cases q2;exact (old j _ f1 q1).elim
   ·rw [wD (Ne.symm n2)] at q2;exact F.ap j k _ _ b f1 f2 q1 q2
 ·rcases wc e1 with ⟨rfl,e'⟩ | ⟨n1,e1⟩
  ·cases e'
  ·rcases wc e2 with ⟨rfl,e'⟩ | ⟨n2,e2⟩
   ·cases e'
   ·exact F.g1 j k es es' e1 e2
 ·obtain ⟨G,g1,g2⟩:=F.gs;refine ⟨λb=>G b/\b≠a,λj es b e q=>?_,λj es e=>?_⟩
  ·rcases wc e with ⟨rfl,e'⟩ | ⟨ne,e⟩
   ·rw [vn hi] at q;cases q;exact λz=>z.2 rfl
   ·rw [wD (Ne.symm ne)] at q;exact λz=>g1 j es b e q z.1
  ·rcases wc e with ⟨rfl,e'⟩ | ⟨ne,e⟩
   ·cases e'
   ·obtain ⟨b,en,ep,xs,q,g⟩:=g2 j es e;refine ⟨b,en,ep,xs,by rw [wD (Ne.symm ne)];exact q,(g.shift (O1:=λb=>O b\/b=a) (G':=λb=>G b/\b≠a) F.hb (λ_ _ _ e=>e) rfl (λ_ _ _=>rfl) (λ_ _ z=>.inl z) (λb o e z=>⟨z,λq=>by rw [q,hf] at e;cases e⟩) hol).same s⟩
 ·rcases z with z | z
  ·exact .inl z
  ·exact .inr (z▸hf)
theorem FR.write {i:Nat} {a:Addr} {ws:List V} {ds es:List D} (F:FR K B H0 O σ H ρ) (hi:ρ[i]?=some (.ow ds)) (hs:σ[i]?=some (some (.ref a))) (r:Reps K (BO B O) H ws es) :
  FR K B H0 O σ (upd H a (.lst ws)) (ρ.set i (.ow es))/\Ext B O H O (upd H a (.lst ws)):=by
 obtain ⟨a',vs',q',o,h,rs⟩:=F.ow i ds hi;rw [hs] at q';cases q'
 have sb:jt (BO B O) H (upd H a (.lst ws)):=λb ob nb e=>by rw [ya (λz=>nb (by rw [z];exact .inr o))];exact e
 refine ⟨⟨F.o0,λb ob e=>?_,⟨λb z=>?_,λx hx=>by rw [ya λz=>by have:=F.hb.t x hx;rw [z,h] at this;cases this];exact F.hb.t x hx⟩,F.hb0,λj d e=>?_,λj es' e=>?_,λj k ds1 ds2 b e1 e2 q1 q2=>?_,λj k es1 es2 e1 e2=>?_,?_⟩,⟨λb z=>.inl z,sb,λb ob e=>?_⟩⟩
 ·rw [ya (λz=>by rw [z,F.o0 a o] at e;cases e)];exact F.same b ob e
 ·by_cases hb:b=a
  ·exact .inl ⟨ws,by rw [hb];exact ja⟩
  ·exact (F.hb.h b z).imp (λ⟨xs,e⟩=>⟨xs,by rw [ya hb];exact e⟩) λ⟨es,ep,e⟩=>⟨es,ep,by rw [ya hb];exact e⟩
 ·rcases wc e with ⟨rfl,e'⟩ | ⟨ne,e⟩
  ·cases e'
  ·obtain ⟨w,q,rw'⟩:=F.pu j d e;exact ⟨w,q,rw'.mono F.hb sb⟩
 ·rcases wc e with ⟨rfl,e'⟩ | ⟨ne,e⟩
  ·cases e';exact ⟨a,ws,hs,o,ja,r.mono F.hb sb⟩
  ·obtain ⟨b,us,q,ob,hb,rb⟩:=F.ow j es' e;have nba:b≠a:=λz=>ne (F.ap j i _ _ a e hi (z▸q) hs)
   exact ⟨b,us,q,ob,by rw [ya nba];exact hb,rb.mono F.hb sb⟩
 ·rcases wc e1 with ⟨rfl,e1'⟩ | ⟨n1,f1⟩
  ·rcases wc e2 with ⟨rfl,e2'⟩ | ⟨n2,f2⟩
   ·rfl
   ·exact F.ap _ _ _ _ b hi f2 q1 q2
  ·rcases wc e2 with ⟨rfl,e2'⟩ | ⟨n2,f2⟩
   ·exact F.ap _ _ _ _ b f1 hi q1 q2
   ·exact F.ap _ _ _ _ b f1 f2 q1 q2
 ·rcases wc e1 with ⟨rfl,e'⟩ | ⟨n1,e1⟩
  ·cases e'
  ·rcases wc e2 with ⟨rfl,e'⟩ | ⟨n2,e2⟩
   ·cases e'
   ·exact F.g1 j k es1 es2 e1 e2
 ·obtain ⟨G,g1,g2⟩:=F.gs;have ng:¬ G a:=g1 i ds a hi hs;refine ⟨G,λj es b e q=>?_,λj es e=>?_⟩
  ·rcases wc e with ⟨rfl,e'⟩ | ⟨ne,e⟩
   ·rw [hs] at q;cases q;exact ng
   ·exact g1 j es b e q
  ·rcases wc e with ⟨rfl,e'⟩ | ⟨ne,e⟩
   ·cases e'
   ·obtain ⟨b,en,ep,xs,q,g⟩:=g2 j es e;have nba:b≠a:=λz=>by have:=g.h;rw [z,h] at this;cases this
    exact ⟨b,en,ep,xs,q,g.shift F.hb sb (ya nba) (λl _ gl=>ya λz=>ng (z▸gl)) (λ_ _ z=>z) (λ_ _ _ z=>z) λ_ z=>.inl z⟩
 ·by_cases hb:b=a
  ·exact ⟨_,by rw [hb];exact ja⟩
  ·exact ⟨ob,by rw [ya hb];exact e⟩
theorem FR.frz {i:Nat} {ds:List D} (F:FR K B H0 O σ H ρ) (hi:ρ[i]?=some (.ow ds)):∃ O',FR K B H0 O' σ H (ρ.set i (.pu (.lst ds)))/\Ext B O H O' H:=by
 obtain ⟨a,vs,q,o,h,rs⟩:=F.ow i ds hi;have less:∀ b,BO B (λb=>O b/\b≠a) b->BO B O b:=λb z=>z.elim .inl λz=>.inr z.1
 refine ⟨λb=>O b/\b≠a,⟨λb z=>F.o0 b z.1,F.same,⟨λb z=>F.hb.h b (less b z),F.hb.t⟩,F.hb0,λj d e=>?_,λj es e=>?_,λj k ds1 ds2 b e1 e2 q1 q2=>?_,λj k es1 es2 e1 e2=>?_,?_⟩,⟨λb z=>.inl z.1,λ_ _ _ e=>e,λ_ ob e=>⟨ob,e⟩⟩⟩
 ·rcases wc e with ⟨rfl,e'⟩ | ⟨ne,e⟩
  ·cases e';exact ⟨_,q,.lst (λz=>z.elim (F.nb o) λz=>z.2 rfl) h (rs.less less)⟩
  ·obtain ⟨w,q,rw'⟩:=F.pu j d e;exact ⟨w,q,rw'.less less⟩
 ·rcases wc e with ⟨rfl,e'⟩ | ⟨ne,e⟩
  ·cases e'
  ·obtain ⟨b,us,qb,ob,hb,rb⟩:=F.ow j es e;exact ⟨b,us,qb,⟨ob,λz=>ne (F.ap j i _ _ a e hi (z▸qb) q)⟩,hb,rb.less less⟩
 ·rcases wc e1 with ⟨rfl,e'⟩ | ⟨n1,e1⟩
  ·cases e'
  ·rcases wc e2 with ⟨rfl,e'⟩ | ⟨n2,e2⟩
   ·cases e'
   ·exact F.ap _ _ _ _ b e1 e2 q1 q2
 ·rcases wc e1 with ⟨rfl,e'⟩ | ⟨n1,e1⟩
  ·cases e'
  ·rcases wc e2 with ⟨rfl,e'⟩ | ⟨n2,e2⟩
   ·cases e'
   ·exact F.g1 j k es1 es2 e1 e2
 ·obtain ⟨G,g1,g2⟩:=F.gs;have ng:¬ G a:=g1 i ds a hi q;refine ⟨G,λj es b e q=>?_,λj es e=>?_⟩
  ·rcases wc e with ⟨rfl,e'⟩ | ⟨ne,e⟩
   ·cases e'
   ·exact g1 j es b e q
  ·rcases wc e with ⟨rfl,e'⟩ | ⟨ne,e⟩
   ·cases e'
   ·obtain ⟨b,en,ep,xs,qb,g⟩:=g2 j es e;have nba:b≠a:=λz=>by have:=g.h;rw [z,h] at this;cases this
    exact ⟨b,en,ep,xs,qb,g.shift F.hb (λ_ _ _ e=>e) rfl (λ_ _ _=>rfl) (λc z o=>⟨o,λy=>z.elim (λw=>nba (w▸y)) λw=>ng (y▸w)⟩) (λ_ _ _ z=>z) λc z=>.inl (less c z)⟩
end
def tFl (K:Frag) (B:Addr->Prop) (H0:Hp) (O:Addr->Prop) (ρ:List Sl) (r:Fl):TS:=λD σ H=>FR K B H0 O σ H ρ/\match r with
 | .nx ρ'=>∀ O' σ' H',Ext B O H O' H'->FR K B H0 O' σ' H' ρ'->σ'.length=σ.length->D.nx σ' H'
 | .bk ρ'=>∀ O' σ' H',Ext B O H O' H'->FR K B H0 O' σ' H' ρ'->σ'.length=σ.length->D.bk σ' H'
 | .ct ρ'=>∀ O' σ' H',Ext B O H O' H'->FR K B H0 O' σ' H' ρ'->σ'.length=σ.length->D.ct σ' H'
 | .rt d=>∀ v H',Same H0 H'->Rep K B H' v d->D.rt v H'
def SS (X:Cx) (C:Tab) (st:Stmt) (s:Stm):Prop:=∀ B H0 O ρ r,ex C s ρ=some r->PS X st (tFl X.K B H0 O ρ r)
def SSs (X:Cx) (C:Tab) (sts:List Stmt) (s:Stms):Prop:=∀ B H0 O ρ r,exs C s ρ=some r->PSs X sts (tFl X.K B H0 O ρ r)
theorem _root_.L2.PS.imp {X:Cx} {e:Stmt} {t t':TS} (h:PS X e t) (i:∀ D σ H,t' D σ H->t D σ H):PS X e t':=λpins s σ H D I q=>h pins s σ H D I (i _ _ _ q)
theorem _root_.L2.PSs.imp {X:Cx} {e:List Stmt} {t t':TS} (h:PSs X e t) (i:∀ D σ H,t' D σ H->t D σ H):PSs X e t':=λpins s σ H D I q=>h pins s σ H D I (i _ _ _ q)
theorem yz {K:Frag} {B:Addr->Prop} {H0:Hp} {O O1:Addr->Prop} {ρ ρ1:List Sl} {r:Fl} {D:Ends} {σ σ1:L2.St} {H H1:Hp} (h:tFl K B H0 O ρ r D σ H) (x:Ext B O H O1 H1) (F:FR K B H0 O1 σ1 H1 ρ1) (hl:σ1.length=σ.length):tFl K B H0 O1 ρ1 r D σ1 H1:=by
 refine ⟨F,?_⟩;cases r with
 | nx ρ'=>exact λO' σ' H' x' F' l'=>h.2 O' σ' H' (x.trans x') F' (l'.trans hl)
 | bk ρ'=>exact λO' σ' H' x' F' l'=>h.2 O' σ' H' (x.trans x') F' (l'.trans hl)
 | ct ρ'=>exact λO' σ' H' x' F' l'=>h.2 O' σ' H' (x.trans x') F' (l'.trans hl)
 | rt d=>exact h.2
def zeA (X:Cx) (C:Tab) (s:Stms):TS:=λD σ H=>∃ B H0 O ρ r,exs C s ρ=some r/\tFl X.K B H0 O ρ r D σ H
section
variable {X:Cx} {C:Tab}
theorem SSs.any {sts:List Stmt} {s:Stms} (h:SSs X C sts s):PSs X sts (zeA X C s):=λpins sh σ H D I ⟨B,H0,O,ρ,r,e,q⟩=>h B H0 O ρ r e pins sh σ H D I q
theorem ycY:SSs X C [] .nil:=λB H0 O ρ r e=>by
 cases e;exact pss_nil.imp λD σ H ⟨F,q⟩=>q O σ H Ext.refl F rfl
theorem jch {st:Stmt} {sts:List Stmt} {s:Stm} {ss:Stms} (h1:SS X C st s) (h2:SSs X C sts ss):SSs X C (st::sts) (.cons s ss):=λB H0 O ρ r e=>by
 obtain ⟨f,ef,e⟩:=wa (show (ex C s ρ).bind (λf=>match f with | .nx ρ'=>exs C ss ρ' | f=>some f)=some r from e);refine (j0 (h1 B H0 O ρ f ef) h2.any).imp λD σ H q=>?_
 cases f with
 | nx ρ1=>exact ⟨q.1,λO' σ' H' x F l=>⟨B,H0,O',ρ1,r,e,yz q x F l⟩⟩
 | bk ρ1=>cases e;exact q
 | ct ρ1=>cases e;exact q
 | rt d=>cases e;exact q
theorem jcY {sts:List Stmt} {i:Nat} {ss:Stms} (h:SSs X C sts ss):SSs X C sts (.frz i ss):=λB H0 O ρ r e=>by
 have e':(match ρ[i]? with | some (.ow ds)=>exs C ss (ρ.set i (.pu (.lst ds))) | _=>none)=some r:=by rw [exs] at e;exact e
 cases q:ρ[i]? with
 | none=>rw [q] at e';cases e'
 | some sl =>
  rw [q] at e';cases sl with
  | ow ds =>
   refine h.any.imp λD σ H t=>?_
   obtain ⟨O',F,x⟩:=t.1.frz q;exact ⟨B,H0,O',_,r,e',yz t x F rfl⟩
  | un=>cases e'
  | pu d=>cases e'
  | gr es=>cases e'
theorem ydI {pos:Pos}:SS X C (.Pass pos) .pas:=λB H0 O ρ r e=>by
 cases e;exact ps_pass.imp λD σ H ⟨F,q⟩=>q O σ H Ext.refl F rfl
theorem jdI {pos:Pos}:SS X C (.Break pos) .brk:=λB H0 O ρ r e=>by
 cases e;exact ps_break.imp λD σ H ⟨F,q⟩=>q O σ H Ext.refl F rfl
theorem zdJ {pos:Pos}:SS X C (.Continue pos) .cnt:=λB H0 O ρ r e=>by
 cases e;exact ps_continue.imp λD σ H ⟨F,q⟩=>q O σ H Ext.refl F rfl
theorem qdJ {pos:Pos} {e:Expr} {c:Code} (h:SE X C e c):SS X C (.Return (some e) pos) (.ret c):=λB H0 O ρ r he=>by
 obtain ⟨d,ed,rfl⟩:=wb (show (ev C c (vA ρ)).map Fl.rt=some r from he);exact (qcw (h B (vA ρ) d ed)).imp λD σ H ⟨F,q⟩=>⟨F.hbB,F.erA,λv H' s rv=>q v H' (F.same.trans s) rv⟩
theorem zcZ {pos:Pos}:SS X C (.Return none pos) (.ret (.cst .non)):=λB H0 O ρ r he=>by
 cases he;exact ps_retN.imp λD σ H ⟨F,q⟩=>q .non H F.same .non
theorem ydJ {pos:Pos} {e:Expr} {c:Code} {a b:List Stmt} {sa sb:Stms} (h:SB X C e c) (ha:SSs X C a sa) (hb:SSs X C b sb):SS X C (.If e a b pos) (.ite c sa sb):=λB H0 O ρ r he=>by
 obtain ⟨d,ed,he⟩:=wa (show (ev C c (vA ρ)).bind (λd=>(truO d).bind λk=>if k then exs C sa ρ else exs C sb ρ)=some r from he);obtain ⟨k,ek,he⟩:=wa he;refine (ydq (h B (vA ρ) d k ed ek) ha.any hb.any).imp λD σ H q=>⟨q.1.hbB,q.1.erA,λH' s=>?_⟩
 have t:=yz q (Ext.of_same s) (q.1.grow s) rfl;cases k with
 | true =>
  rw [if_pos rfl] at he;exact zcS ⟨B,H0,O,ρ,r,he,t⟩
 | false =>
  rw [if_neg wz] at he;exact jcR ⟨B,H0,O,ρ,r,he,t⟩
def SAs (X:Cx) (C:Tab) (tg e:Expr) (pos:Pos) (t:Tgt) (c:Code):Prop:=∀ B ρ d,ev C c ρ=some d->PS X (.Assign [tg] e pos) (qdr (tD X.K B ρ d) (gT t))
def SAf (X:Cx) (C:Tab) (tg e:Expr) (pos:Pos) (t:Tgt) (c:Code):Prop:=∀ B ρ ds,ev C c ρ=some (.lst ds)->PS X (.Assign [tg] e pos) (qdr (tF X.K B ρ (.lst ds)) (gT t))
theorem jdJ {tg e:Expr} {pos:Pos} {t:Tgt} {c:Code} (h:SAs X C tg e pos t c) (hi:∀ i∈t.ixs,i<X.N.length):SS X C (.Assign [tg] e pos) (.set .pu t c):=λB H0 O ρ r he=>by
 obtain ⟨d,ed,he⟩:=wa (show (ev C c (vP ρ)).bind (λd=>(puT t d ρ).map Fl.nx)=some r from he);obtain ⟨ρ',eρ,rfl⟩:=wb he;intro pins s σ H D I q;refine h (BO B O) (vP ρ) d ed pins s σ H D I ⟨q.1.hb,q.1.erP,λv H' sm rv=>?_⟩;exact (q.1.grow sm).tgt eρ (λi hi'=>by rw [I.len];exact hi i hi') rv λσ' F l=>q.2 O σ' H' (Ext.of_same sm) F l
theorem zdK {tg e:Expr} {pos:Pos} {t:Tgt} {c:Code} (h:SAs X C tg e pos t c) (hi:∀ i∈t.ixs,i<X.N.length):SS X C (.Assign [tg] e pos) (.set .cl t c):=λB H0 O ρ r he=>by
 obtain ⟨d,ed,he⟩:=wa (show (ev C c (vA ρ)).bind (λd=>if noL d then (puT t d ρ).map Fl.nx else none)=some r from he);split at he
 ·rename_i hn;obtain ⟨ρ',eρ,rfl⟩:=wb he;intro pins s σ H D I q;refine h B (vA ρ) d ed pins s σ H D I ⟨q.1.hbB,q.1.erA,λv H' sm rv=>?_⟩;exact (q.1.grow sm).tgt eρ (λi hi'=>by rw [I.len];exact hi i hi') (rv.clean hn) λσ' F l=>q.2 O σ' H' (Ext.of_same sm) F l
 ·cases he
theorem qdK {tg e:Expr} {pos:Pos} {i:Nat} {c:Code} (h:SAf X C tg e pos (.one i) c) (hi:i<X.N.length):SS X C (.Assign [tg] e pos) (.set .ow (.one i) c):=λB H0 O ρ r he=>by
 obtain ⟨d,ed,he⟩:=wa (show (ev C c (vA ρ)).bind (λd=>match Tgt.one i,d with | .one i,.lst ds=>if yai ds then some (.nx (ρ.set i (.ow ds))) else none | _,_=>none)=some r from he);cases d with
 | lst ds =>
  simp only at he;split at he
  ·rename_i hn;cases he;intro pins s σ H D I q;refine h B (vA ρ) ds ed pins s σ H D I ⟨q.1.hbB,q.1.erA,λv H' sm rv fr=>?_⟩;obtain ⟨a,vs,rfl,na,ha,ra⟩:=rv.lstD;obtain ⟨a',ea,hf⟩:=fr;cases ea;obtain ⟨F,x⟩:=q.1.own (by rw [I.len];exact hi) sm hf ha ra hn;exact q.2 _ _ H' x F (by simp)
  ·cases he
 | _=>cases he
end
section
variable {X:Cx} {C:Tab}
theorem zbK {i:Nat} {x:Str} {px apos cpos spos:Pos} {e:Expr} {c:Code} {B':Addr->Prop} {ρe:En} {d:D} (hN:X.N[i]?=some x) (hv:Vis X.env.scope x) (hd:(x==("__debug__":Str))=false) (hcd:(x==("__classdict__":Str))=false)
  (he:SE X C e c) (hs:starEach [e] X.env=[(false,eval e X.env)]) (hline:(apos.endLine==cpos.line)=true) (ed:ev C c ρe=some d) {B:Addr->Prop} {H0:Hp} {O:Addr->Prop} {ρ:List Sl} {ds:List D} (hρ:ρ[i]?=some (.ow ds)) (hz:ds.length<sizeLine)
  (hB:∀ {σ:L2.St} {H:Hp},FR X.K B H0 O σ H ρ->HB B' H/\ER X.K B' H σ ρe) (hc:∀ {v:V} {H:Hp},Rep X.K B' H v d->Rep X.K (BO B O) H v d) :
  PS X (.Expr (.Call (.Attribute (.Name x px) "append" apos) [e] [] cpos) spos) (tFl X.K B H0 O ρ (.nx (ρ.set i (.ow (ds++[d]))))):=by
 have hpa:PA X [e] (tDs X.K B' ρe [d]):=yi he jq hs B' ρe [d] (by rw [evs,ed];rfl);refine (j9 (jbA F.plainAttrs_list F.slot_list_append F.type_list_append yaa (zK (pos:=px) hN hv hd hcd) hpa rfl (by rw [hs];rfl) hline hs rfl)).imp λD σ H q=>?_
 obtain ⟨F,q⟩:=q;obtain ⟨a,vs,hσ,o,ha,rs⟩:=F.ow i ds hρ;refine ⟨_,hσ,.inl ⟨rfl,_,SqL.of ha⟩,(hB F).1,(hB F).2,λws H1 sm rw'=>?_⟩;obtain ⟨v,rfl,rv⟩:=rw'.one;have F1:=F.grow sm;obtain ⟨F2,x2⟩:=F1.write (es:=ds++[d]) (ws:=vs++[v]) hρ hσ ((rs.same sm).append (.cons (hc rv) .nil));exact ⟨a,vs,v,rfl,rfl,sm _ _ ha,by rw [rs.length];exact hz,q O σ _ ((Ext.of_same sm).trans x2) F2 rfl⟩
theorem ydK {i:Nat} {x:Str} {px apos cpos spos:Pos} {e:Expr} {c:Code} {m:Mode} (hN:X.N[i]?=some x) (hv:Vis X.env.scope x) (hd:(x==("__debug__":Str))=false) (hcd:(x==("__classdict__":Str))=false)
  (he:SE X C e c) (hs:starEach [e] X.env=[(false,eval e X.env)]) (hline:(apos.endLine==cpos.line)=true):SS X C (.Expr (.Call (.Attribute (.Name x px) "append" apos) [e] [] cpos) spos) (.app i m c):=λB H0 O ρ r h=>by
 cases m with
 | pu =>
  obtain ⟨d,ed,h⟩:=wa (show (ev C c (vP ρ)).bind (λd=>match Mode.pu,ρ[i]? with
   | .pu,some (.ow ds)=>if ds.length<sizeLine then some (.nx (ρ.set i (.ow (ds++[d])))) else none
   | .cl,some (.ow ds)=>if noL d&&decide (ds.length<sizeLine) then some (.nx (ρ.set i (.ow (ds++[d])))) else none
   | _,_=>none)=some r from h)
  cases hρ:ρ[i]? with
  | none=>rw [hρ] at h;cases h
  | some sl =>
   rw [hρ] at h;cases sl with
   | ow ds =>
    simp only at h;split at h
    ·rename_i hz;cases h;exact zbK (B':=BO B O) hN hv hd hcd he hs hline ed hρ hz (λF=>⟨F.hb,F.erP⟩) λr=>r
    ·cases h
   | un=>cases h
   | pu d'=>cases h
   | gr es=>cases h
 | cl =>
  obtain ⟨d,ed,h⟩:=wa (show (ev C c (vA ρ)).bind (λd=>match Mode.cl,ρ[i]? with
   | .pu,some (.ow ds)=>if ds.length<sizeLine then some (.nx (ρ.set i (.ow (ds++[d])))) else none
   | .cl,some (.ow ds)=>if noL d&&decide (ds.length<sizeLine) then some (.nx (ρ.set i (.ow (ds++[d])))) else none
   | _,_=>none)=some r from h)
  cases hρ:ρ[i]? with
  | none=>rw [hρ] at h;cases h
  | some sl =>
   rw [hρ] at h;cases sl with
   | ow ds =>
    simp only at h;split at h
    ·rename_i hz;cases h;rw [wg,wF] at hz;exact zbK (B':=B) hN hv hd hcd he hs hline ed hρ hz.2 (λF=>⟨F.hbB,F.erA⟩) λr=>r.clean hz.1
    ·cases h
   | un=>cases h
   | pu d'=>cases h
   | gr es=>cases h
 | ow =>
  obtain ⟨d,ed,h⟩:=wa (show (ev C c (vA ρ)).bind (λd=>match Mode.ow,ρ[i]? with
   | .pu,some (.ow ds)=>if ds.length<sizeLine then some (.nx (ρ.set i (.ow (ds++[d])))) else none
   | .cl,some (.ow ds)=>if noL d&&decide (ds.length<sizeLine) then some (.nx (ρ.set i (.ow (ds++[d])))) else none
   | _,_=>none)=some r from h)
  cases h
theorem qbK {f:D->List Sl->Option Fl} {d:D} {ds:List D} {ρ:List Sl} {r:Fl} (h:forL f (d::ds) ρ=some r):∃ r1,f d ρ=some r1/\(match r1 with
  | .nx ρ'=>forL f ds ρ' | .ct ρ'=>forL f ds ρ' | .bk ρ'=>some (.nx ρ') | .rt v=>some (.rt v))=some r:=by
 rw [forL] at h;exact wa h
theorem jdK {tg iter:Expr} {body:List Stmt} {pos:Pos} {t:Tgt} {it:Iter} {b:Stms} (hx:X.xe=λ_ _=>False) (hc:X.calm=true) (hi:SI X C tg iter it) (hg:PG X tg (gT t)) (hb:SSs X C body b) (hix:∀ i∈t.ixs,i<X.N.length)
  (hs:∀ x,foldedSetIterable iter X.env x=pure x):SS X C (.For tg iter body [] pos) (.for t it b):=λB H0 O ρ r h=>by
 obtain ⟨ds,eds,h⟩:=wa (show (evI C it (vP ρ)).bind (λds=>forL (λd ρ'=>(puT t d ρ').bind λρ''=>exs C b ρ'') ds ρ)=some r from h);obtain ⟨f,hf⟩:∃ f:D->List Sl->Option Fl,f=λd ρ'=>(puT t d ρ').bind λρ''=>exs C b ρ'':=⟨_,rfl⟩
 rw [<-hf] at h;have hp:PassesOwn (model X.prog X.w) X.A X.env X.xe:=by rw [hx];exact PassesOwn.never
 intro pins s σ H D I q;have hlen:=I.len;refine (ydr hp hc (hi (BO B O) (vP ρ) ds eds) hg hb.any hs) pins s σ H D I ⟨q.1.hb,q.1.erP,λJ H1 sm ok=>?_⟩;refine ⟨λi m σ' H'=>∃ O' ρ',FR X.K B H0 O' σ' H' ρ'/\Ext B O H1 O' H'/\m=ds.length-i/\i<=ds.length/\σ'.length=σ.length/\forL f (ds.drop i) ρ'=some r,⟨ds.length,O,ρ,q.1.grow sm,Ext.refl,rfl,Nat.zero_le _,rfl,h⟩,?_⟩;rintro i m σ' H' ⟨O',ρ',F,x,rfl,hil,hl,hrun⟩;have xx:Ext B O H O' H':=(Ext.of_same sm).trans x
 by_cases hlt:i<ds.length
 ·right
  obtain ⟨d,hd⟩:∃ d,ds[i]?=some d:=⟨ds[i],by simp [hlt]⟩
  have hdrop:ds.drop i=d::ds.drop (i+1):=by
   have e:ds[i]=d:=by simpa [hlt] using hd
   rw [List.drop_eq_getElem_cons hlt,e]
  rw [hdrop] at hrun;obtain ⟨r1,e1,hrun⟩:=qbK hrun;rw [hf] at e1;obtain ⟨ρ2,e2,e3⟩:=wa (show (puT t d ρ').bind _=some r1 from e1);have hfr:∀ b,BO B O' b->BO B O b\/H1 b=none:=λb z=>z.elim (λz=>.inl (.inl z)) λz=>(x.fr b z).elim (λz=>.inl (.inr z)) .inr
  obtain ⟨go,yl⟩:=ok.go (BO B O') H' hfr F.hb x.sm i d hd;refine ⟨go,λσ3 H3=>∃ O3 ρ3,FR X.K B H0 O3 σ3 H3 ρ3/\Ext B O H1 O3 H3/\σ3.length=σ.length/\forL f (ds.drop (i+1)) ρ3=some r,?_,?_⟩
  ·rintro σ3 H3 ⟨O3,ρ3,F3,x3,l3,run3⟩;exact ⟨ds.length-(i+1),by omega,O3,ρ3,F3,x3,rfl,by omega,l3,run3⟩
  ·intro v H2 y2;obtain ⟨sm2,rv⟩:=yl v H2 y2;refine (F.grow sm2).tgt e2 (λj hj=>by rw [hl,hlen];exact hix j hj) rv λσ2 F2 l2=>?_
   have x2:Ext B O H1 O' H2:=x.trans (Ext.of_same sm2);refine ⟨B,H0,O',ρ2,r1,e3,F2,?_⟩;cases r1 with
   | nx ρ3=>exact λO3 σ3 H3 y F3 l3=>⟨O3,ρ3,F3,x2.trans y,l3.trans (l2.trans hl),hrun⟩
   | ct ρ3=>exact λO3 σ3 H3 y F3 l3=>⟨O3,ρ3,F3,x2.trans y,l3.trans (l2.trans hl),hrun⟩
   | bk ρ3 =>
    cases hrun;exact λO3 σ3 H3 y F3 l3=>q.2 O3 σ3 H3 ((Ext.of_same sm).trans (x2.trans y)) F3 (l3.trans (l2.trans hl))
   | rt dv =>
    cases hrun;exact q.2
 ·left
  have hie:i=ds.length:=by omega
  subst hie;rw [List.drop_length] at hrun;cases hrun;exact ⟨ok.stop H' x.sm,q.2 O' σ' H' xx F hl⟩
noncomputable def zaM:Expr->Bool
 | .ListComp .. | .SetComp .. | .DictComp ..=>true
 | _=>false
theorem qao {e:Expr} (h:zaM e=false) (t:Option Expr) (n:Nat) (env:Env):swapsWith e t n env=pure false:=by
 cases e<;>first | rfl | cases h
theorem zci {y:Str} {py pos:Pos} {i:Nat} {e:Expr} {c:Code} (he:SE X C e c) (h:zaM e=false) (hN:X.N.Nodup) (hy:X.N[i]?=some y) (hl:Loc X.env.scope y) (hf:X.fn y=true\/X.env.scope.names.lookup y=some .local) :
 SAs X C (.Name y py) e pos (.one i) c:=λB ρ d ed=>qal hN hy hl (he B ρ d ed) (qao h _ _ _) hf
theorem qci {y:Str} {py pos:Pos} {i:Nat} {e:Expr} {c:Code} (he:SF X C e c) (h:zaM e=false) (hN:X.N.Nodup) (hy:X.N[i]?=some y) (hl:Loc X.env.scope y) (hf:X.fn y=true\/X.env.scope.names.lookup y=some .local) :
 SAf X C (.Name y py) e pos (.one i) c:=λB ρ d ed=>qal hN hy hl (he B ρ d ed) (qao h _ _ _) hf
end
section
variable {X:Cx} {C:Tab} {elt tg iter:Expr} {ifs:List Expr} {scope:Scope} {ce:Code} {t:Tgt} {n:Nat} {keep:List Nat} {cc:OCode} {N':List Str} {it:Iter} {pos:Pos}
theorem yci {y:Str} {py spos:Pos} {i:Nat} (S:CompS X C elt tg iter ifs scope ce t n keep cc N') (hi:SI X C tg iter it) (hN:X.N.Nodup) (hy:X.N[i]?=some y) (hl:Loc X.env.scope y) (hf:X.fn y=true\/X.env.scope.names.lookup y=some .local) :
 SAf X C (.Name y py) (.ListComp elt [⟨tg,iter,ifs,0⟩] scope pos) spos (.one i) (.comp ce t n keep it cc):=λB ρ ds e=>ybJ S hi hN hy hl hf e
theorem qbb {y:Str} {py spos:Pos} {i:Nat} (S:CompS X C elt tg iter ifs scope ce t n keep cc N') (hi:SI X C tg iter it) (hN:X.N.Nodup) (hy:X.N[i]?=some y) (hl:Loc X.env.scope y) (hf:X.fn y=true\/X.env.scope.names.lookup y=some .local) :
  SAs X C (.Name y py) (.ListComp elt [⟨tg,iter,ifs,0⟩] scope pos) spos (.one i) (.comp ce t n keep it cc):=λB ρ d e=>by
 have:∃ ds,d=.lst ds:=by
  obtain ⟨ds,eds,e⟩:=wa (show (evI C it ρ).bind (λds=>(gather (turn C ce t n keep cc ρ) ds).map D.lst)=some d from e);obtain ⟨rs',hg,e⟩:=wb e;exact ⟨_,e.symm⟩
 obtain ⟨ds,rfl⟩:=this;exact (ybJ S hi hN hy hl hf e).imp λD σ H ⟨h1,h2,q⟩=>⟨h1,h2,λv H' s r _=>q v H' s r⟩
end
theorem ybK:bootBuiltins "enumerate"=some (.type "enumerate"):=by kernel_rfl
theorem boot_zip:bootBuiltins "zip"=some (.type "zip"):=by kernel_rfl
theorem ybb:∀ (es:List D) (k i:Nat) (d:D),(yW k es)[i]?=some d->∃ e,es[i]?=some e/\d=.tup [.int ((k+i:Nat):Int),e]
 | [],_,_,_,h=>by simp [yW] at h
 | e::es,k,0,d,h=>by simp [yW] at h;exact ⟨e,by simp,by simp [h]⟩
 | e::es,k,i+1,d,h=>by
  simp only [yW,List.getElem?_cons_succ] at h;obtain ⟨e',h1,h2⟩:=ybb es (k+1) i d h;exact ⟨e',by simpa using h1,by rw [h2,show k+1+i=k+(i+1) by omega]⟩
theorem qay:∀ (es:List D) (k:Nat),(yW k es).length=es.length
 | [],_=>rfl
 | e::es,k=>by simp [yW,qay es]
theorem jbb:∀ (xs ys:List D) (i:Nat) (d:D),(qaF xs ys)[i]?=some d->∃ x y,xs[i]?=some x/\ys[i]?=some y/\d=.tup [x,y]
 | [],_,_,_,h=>by simp [qaF] at h
 | _::_,[],_,_,h=>by simp [qaF] at h
 | x::xs,y::ys,0,d,h=>by simp [qaF] at h;exact ⟨x,y,by simp,by simp,h.symm⟩
 | x::xs,y::ys,i+1,d,h=>by
  simp only [qaF,List.getElem?_cons_succ] at h;obtain ⟨x',y',h1,h2,h3⟩:=jbb xs ys i d h;exact ⟨x',y',by simpa using h1,by simpa using h2,h3⟩
theorem yay:∀ (xs ys:List D),(qaF xs ys).length=min xs.length ys.length
 | [],_=>by simp [qaF]
 | _::_,[]=>by simp [qaF]
 | x::xs,y::ys=>by simp [qaF,yay xs ys]
section
variable {K:Frag} {B:Addr->Prop} {H:Hp}
theorem Rep.srcT {v:V} {d:D} {ds:List D} (hb:HB B H) (r:Rep K B H v d) (h:itemsD d=some ds):∃ t a vs,v=.ref a/\Sq t K H a vs/\(∀ H',jt B H H'->Sq t K H' a vs)/\Reps K B H vs ds:=by
 obtain ⟨a,vs,e,src,rs⟩:=r.src hb h;cases src with
 | l n s=>exact ⟨false,a,vs,e,s,n,rs⟩
 | t n s=>exact ⟨true,a,vs,e,s,n,rs⟩
end
section
variable {X:Cx} {C:Tab} {elts:List Expr} {kk:Nat} {tpos:Pos}
theorem zdL {a:Expr} {ca:Code} {p pos:Pos} (hg:Gl X "enumerate") (hm:X.mg "enumerate"=none) (ha:SE X C a ca) (hs:starEach [a] X.env=[(false,eval a X.env)]):SI X C (.Tuple elts kk tpos) (.Call (.Name "enumerate" p) [a] [] pos) (.enu ca):=λB ρ ds h=>by
 obtain ⟨dx,ex,h⟩:=wa (show (ev C ca ρ).bind (λx=>(itemsD x).map (yW 0))=some ds from h);obtain ⟨es,hes,rfl⟩:=wb h;have hpa:PA X [a] (tDs X.K B ρ [dx]):=yi ha jq hs B ρ [dx] (by rw [evs,ex];rfl);intro pins s σ H R I ⟨hb,er,q⟩;refine Call_ (yO I hg hm ybK (callWith_type1 (thn (hpa pos pins s σ H (λvs H1=>Same H H1/\Reps X.K B H1 vs [dx]) I ⟨hb,er,λvs H1 sm r=>⟨sm,r⟩⟩) λus s1 ⟨vs,H1,I1,r1,sm1,rep⟩=>?_) hs rfl));obtain ⟨v,rfl,rv⟩:=rep.one;have hb1:=hb.same sm1;obtain ⟨t,l,ws,rfl,sq,keep,rws⟩:=rv.srcT hb1 hes;obtain ⟨u,rfl,ru⟩:=r1.one;cases ru;obtain ⟨its,rits,p1,hz⟩:=I1.sseq sq;refine zbF p1 λh' e1 i1 sz kp=>wpAny_pyIter_enum e1 ?_
 have hne:((s1.heap.objs.size+1:Nat):Addr)≠s1.heap.objs.size:=Nat.succ_ne_self _;refine ⟨_,[s1.heap.objs.size+1,s1.heap.objs.size],_,Ite t X.K l,H1,rfl,I1.kept (t':=s1.toks) kp,jbJ t l s1.heap.objs.size (s1.heap.objs.size+1) hne,⟨⟨_,e1⟩,i1⟩,λb hbm=>?_,q _ H1 sm1 ⟨by rw [qay,<-rws.length];exact hz,λB' H' f2 hb' sm i d hd=>?_,λH' sm=>⟨ws,keep H' sm,by rw [qay,rws.length]⟩⟩⟩
 ·have hbb:b=s1.heap.objs.size+1\/b=s1.heap.objs.size:=by simpa using hbm
  rcases hbb with z | z<;>subst z
  ·exact I1.fpOk (Nat.le_succ _) (I1.hok.fresh (Nat.le_succ _))
  ·exact I1.fpOk (wB _) I1.fresh
 ·obtain ⟨e,he,rfl⟩:=ybb es 0 i d hd;obtain ⟨x,hx,rx⟩:=rws.get he;refine ⟨⟨ws,x,keep H' sm,hx⟩,λy H'' ⟨T,x',e1,e2,e3,e4⟩=>?_⟩;subst e1;subst e3
  have:=e4 ws (keep H' sm)
  rw [hx] at this;cases this;refine ⟨qa e2 _,.tup ja (.cons ?_ (.cons ((rx.shift hb1 sm f2).same (qa e2 _)) .nil))⟩;rw [Nat.zero_add];exact .int _
theorem qdL {a b:Expr} {ca cb:Code} {p pos:Pos} (hg:Gl X "zip") (hm:X.mg "zip"=none) (ha:SE X C a ca) (hb':SE X C b cb) (hs:starEach [a,b] X.env=[(false,eval a X.env),(false,eval b X.env)]) (hs2:starEach [b] X.env=[(false,eval b X.env)]) :
  SI X C (.Tuple elts kk tpos) (.Call (.Name "zip" p) [a,b] [] pos) (.zip ca cb):=λB ρ ds h=>by
 obtain ⟨dx,ex,h⟩:=wa (show (ev C ca ρ).bind _=some ds from h);obtain ⟨dy,ey,h⟩:=wa h;obtain ⟨xs,hxs,h⟩:=wa h;obtain ⟨ys,hys,rfl⟩:=wb h;have hpa:PA X [a,b] (tDs X.K B ρ [dx,dy]):=yi ha (yi hb' jq hs2) (by rw [hs,hs2]) B ρ [dx,dy] (by rw [evs,ex,wd,evs,ey];rfl);intro pins s σ H R I ⟨hb,er,q⟩;refine Call_ (yO I hg hm boot_zip (callWith_type1 (thn (hpa pos pins s σ H (λvs H1=>Same H H1/\Reps X.K B H1 vs [dx,dy]) I ⟨hb,er,λvs H1 sm r=>⟨sm,r⟩⟩) λus s1 ⟨vs,H1,I1,r1,sm1,rep⟩=>?_) (by rw [hs,hs2]) (by rw [hs2];rfl)));cases rep with
 | cons rv rest =>
  obtain ⟨v2,rfl,rv2⟩:=rest.one;have hb1:=hb.same sm1;obtain ⟨t,l,ws,rfl,sq,keep,rws⟩:=rv.srcT hb1 hxs;obtain ⟨t2,l2,ws2,rfl,sq2,keep2,rws2⟩:=rv2.srcT hb1 hys;obtain ⟨u,u2,rfl,ru,ru2⟩:=r1.two;cases ru;cases ru2;obtain ⟨its,rits,p1,hz⟩:=I1.sseq sq;obtain ⟨its2,rits2,p2,hz2⟩:=I1.sseq sq2;refine jcc p1 p2 λh' e1 e2 e3 i1 i2 sz kp=>wpAny_pyIter_zip e1 ?_
  refine ⟨_,_,_,Itz t t2 X.K l l2,H1,rfl,I1.kept (t':=s1.toks) kp,ych t t2 l l2 s1.heap.objs.size,⟨e1,e2,⟨_,_,e3⟩,i1,i2⟩,λc hcm=>?_,q _ H1 sm1 ⟨by rw [yay,<-rws.length];exact wQ (Nat.min_le_left _ _) hz,λB' H' f2 hb'' sm i d hd=>?_,λH' sm=>⟨ws,ws2,keep H' sm,keep2 H' sm,?_⟩⟩⟩
  ·have hbb:c=s1.heap.objs.size+4\/c=s1.heap.objs.size+2\/c=s1.heap.objs.size+3\/c=s1.heap.objs.size\/c=s1.heap.objs.size+1:=by simpa using hcm
   have young:∀ i:Nat,FpOk X pins H1 ((s1.heap.objs.size+i:Nat):Addr):=λi=>I1.fpOk (Nat.le_add_right _ _) (I1.hok.fresh (Nat.le_add_right _ _))
   rcases hbb with z | z | z | z | z<;>subst z
   ·exact young 4
   ·exact young 2
   ·exact young 3
   ·exact young 0
   ·exact young 1
  ·obtain ⟨x,y,hx,hy,rfl⟩:=jbb xs ys i d hd;obtain ⟨v1,hv1,r1⟩:=rws.get hx;obtain ⟨v2,hv2,r2⟩:=rws2.get hy;refine ⟨⟨ws,ws2,v1,v2,keep H' sm,keep2 H' sm,hv1,hv2⟩,λz H'' ⟨T,x',y',e1,e2,e3,e4,e5⟩=>?_⟩;subst e1;subst e3
   have q1:=e4 ws (keep H' sm);have q2:=e5 ws2 (keep2 H' sm);rw [hv1] at q1;rw [hv2] at q2;cases q1;cases q2;exact ⟨qa e2 _,.tup ja (.cons ((r1.shift hb1 sm f2).same (qa e2 _)) (.cons ((r2.shift hb1 sm f2).same (qa e2 _)) .nil))⟩
  ·rw [yay,<-rws.length,<-rws2.length];rcases Nat.le_total ws.length ws2.length with z | z
   ·left;rw [Nat.min_eq_left z];simp
   ·right;rw [Nat.min_eq_right z];simp
end
end Eng
end
section
namespace Eng
open PySem
theorem jci (d:Addr) (es:Array DictEntry) (ep:Nat) (hd:(d==sysModules)=false) :
  Meets (Builtin.«dict.values» ⟨[.ref d],[]⟩) (λ_ R s=>s.heap.get? d=some (qcg es ep) /\
   R (.ok (.ret (.ref s.heap.objs.size))) { s with heap:=s.heap.push { cls:=.type "dict_values",data:=.fields #[.ref d] } }) :=
 .of_wp λprog w A R s h=>by
  obtain ⟨hp,g,dd,tk,os⟩:=s;obtain ⟨hl,h⟩:=h
  have hT:(Shared.mk hp g dd tk os).TypeIs (.ref d) "dict":=⟨_,hl,rfl⟩
  wp_walk
  exact ⟨_,rfl,h⟩
theorem jbK {prog:Program} {w:World} {A:Around} {E:Value->Shared->Prop} {s:Shared} {v d:Addr} {es:Array DictEntry} {ep:Nat} {Q:Value->Shared->Prop}
  (hv:s.heap.get? v=some { cls:=.type "dict_values",data:=.fields #[.ref d] }) (hl:s.heap.get? d=some (qcg es ep))
  (h:Q (.ref s.heap.objs.size) { s with heap:=s.heap.push { cls:=.type "dict_valueiterator",data:=.fields #[.ref d,.int 0 0,.int es.size 0,.int ep 0] } }) :
  wpAny (model prog w) A (pyIter (.ref v)) Q E s:=by
 have hT:s.TypeIs (.ref v) "dict_values":=⟨_,hv,rfl⟩;refine wpAny_pyIter_slot hT F.slot_dict_values_iter (wW F.slot_dict_values_iter hT F.entry_dict_values_iter ?_ (F.args_dict_values_iter_1 _))
 wp_walk
 exact ⟨_,rfl,"dict_valueiterator",_,⟨_,wt _ rfl,rfl⟩,F.slot_dict_valueiterator_next.lookup,h⟩
theorem zbL {prog:Program} {w:World} {A:Around} {E:Value->Shared->Prop} {s:Shared} {it d:Addr} {i:Nat} {es:Array DictEntry} {ep:Nat} {e:DictEntry} {Q:Option Value->Shared->Prop}
  (hit:s.heap.get? it=some { cls:=.type "dict_valueiterator",data:=.fields #[.ref d,.int i 0,.int es.size 0,.int ep 0] }) (hl:s.heap.get? d=some (qcg es ep)) (he:es[i]?=some e)
  (h:∀ h':Heap,h'.get? it=some { cls:=.type "dict_valueiterator",data:=.fields #[.ref d,.int (i+1:Nat) 0,.int es.size 0,.int ep 0] }->Heap.SameBut it s.heap h'->Q (some e.val) { s with heap:=h' }) :
  wpAny (model prog w) A (pyNext (.ref it)) Q E s:=by
 have hT:s.TypeIs (.ref it) "dict_valueiterator":=⟨_,hit,rfl⟩;unfold pyNext;refine we (wpAny_attempt (w5 (name:=Str.ofString "__next__") hT F.slot_dict_valueiterator_next (wW F.slot_dict_valueiterator_next hT F.entry_dict_valueiterator_next ?_ (F.args_dict_valueiterator_next_1 _))))
 wp_walk
 rw [show (if (i:Int)<0 then none else es[(i:Int).toNat]?)=some e by rw [if_neg (by omega),wV];exact he];have hman:Builtin.Dict_items.ownsTuple ((Manifest.find? "dict_valueiterator").elim "dict_valueiterator" λx=>x.tpName)=false:=by kernel_rfl
 wp_walk using wpAny_isOneOf_valiter hT,wX hit
 case hk=>rw [hman];exact by simp
 case h =>
  intro h' e1 sm;rw [hman] at e1;have hT':(Shared.mk h' s.gens s.drawn s.toks s.os).TypeIs (.ref it) "dict_valueiterator":=⟨_,e1,rfl⟩
  wp_walk using wpAny_isOneOf_valiter hT'
  exact ⟨_,rfl,wm (h h' e1 sm)⟩
theorem qbL {prog:Program} {w:World} {A:Around} {E:Value->Shared->Prop} {s:Shared} {it d:Addr} {i:Nat} {es:Array DictEntry} {ep:Nat} {Q:Option Value->Shared->Prop} (hh:A.handled=none)
  (hit:s.heap.get? it=some { cls:=.type "dict_valueiterator",data:=.fields #[.ref d,.int i 0,.int es.size 0,.int ep 0] }) (hl:s.heap.get? d=some (qcg es ep)) (he:es[i]?=none)
  (h:∀ h':Heap,Heap.ExtBut it s.heap h'->Q none { s with heap:=h' }) :
  wpAny (model prog w) A (pyNext (.ref it)) Q E s:=by
 have hT:s.TypeIs (.ref it) "dict_valueiterator":=⟨_,hit,rfl⟩;unfold pyNext;refine we (wpAny_attempt (w5 (name:=Str.ofString "__next__") hT F.slot_dict_valueiterator_next (wW F.slot_dict_valueiterator_next hT F.entry_dict_valueiterator_next ?_ (F.args_dict_valueiterator_next_1 _))))
 wp_walk
 rw [show (if (i:Int)<0 then none else es[(i:Int).toNat]?)=none by rw [if_neg (by omega),wV];exact he];have hman:Builtin.Dict_items.ownsTuple ((Manifest.find? "dict_valueiterator").elim "dict_valueiterator" λx=>x.tpName)=false:=by kernel_rfl
 wp_walk using wpAny_isOneOf_valiter hT,wX hit
 case hk=>rw [hman];exact by simp
 case h =>
  intro h' e1 sm;rw [hman] at e1;simp only [newExc,newTuple];refine we ?_;refine we (w9 (we (m:=firstArgMember _ _) (wpAny_of_eq (a:=Value.none) (by first | rfl | (simp only [firstArgMember];rfl)) (w9 ?_ (by size_fits)))) (by size_fits));simp only [raiseNew];refine we (wpAny_handled ?_)
  first | rw [show A.in1.handled=none from hh] | rw [hh]
  refine we (wm (wpAny_throw ?_));refine we (wpAny_isInstance (T:="StopIteration") (b:=true) ⟨_,wt _ rfl,rfl⟩ isSubtype_stop ?_);exact wm (h _ ((sm.extBut.push _).push _))
noncomputable def yem (x:List Int×Addr×Addr):List Int×Addr×Value:=(x.1,x.2.1,.ref x.2.2)
theorem qcZ (prog:Program) (w:World) (xs:List (List Int×Addr×Addr)):xs.map jaV=(xs.map yem).map (entryOfKey (tupleKind (intKind prog w))):=by
 rw [wJ];rfl
theorem qeA {prog:Program} {w:World} {A:Around} {E:Value->Shared->Prop} {s:Shared} {d b p:Addr} {k:List Int} {en:Array DictEntry} {ep:Nat} {xs:List (List Int×Addr×Addr)} {Q:Value->Shared->Prop}
  (hu:A.units+1<cLine) (hd:(d==sysModules)=false) (hl:s.heap.get? d=some (qcg en ep)) (he:en.toList=xs.map jaV) (hk:IsTupleKey (intKind prog w) s.heap k b) (hks:∀ x∈xs,IsTupleKey (intKind prog w) s.heap x.1 x.2.1) (hn:(xs.map (·.1)).Nodup) (hz:xs.length<=1000)
  (h1:∀ (j:Nat) (y:Addr) (l:Addr) (tk:Nat),xs[j]?=some (k,y,l)->Q (.ref l) { s with toks:=tk })
  (h2:(∀ (j:Nat) (y:Addr) (l:Addr),xs[j]?≠some (k,y,l))->∀ (h':Heap) (ep':Nat) (tk:Nat),h'.get? d=some (qcg (en.push (jaV (k,b,p))) ep')->Heap.SameBut d s.heap h'->Q (.ref p) { s with heap:=h',toks:=tk }) :
  wpAny (model prog w) A (call (.builtin "dict.setdefault") [.ref d,.ref b,.ref p]) Q E s:=by
 have hT:s.TypeIs (.ref d) "dict":=⟨_,hl,rfl⟩;refine wW F.slot_dict_setdefault hT F.entry_dict_setdefault ?_ (F.args_dict_setdefault_3 _ _ _);have hu1:A.in1.units<cLine:=hu
 have hf:∀ {Q:Option Nat->Shared->Prop} {tk:Nat},((∀ (j:Nat) (y l:Addr),xs[j]?≠some (k,y,l))->Q none { s with toks:=tk })->(∀ (j:Nat) (y l:Addr),xs[j]?=some (k,y,l)->Q (some j) { s with toks:=tk }) ->
   wpAny (model prog w) A.in1 (dictFind d (.ref b) (tupleKeyHash (intKind prog w) k)) Q E { s with toks:=tk }:=λ{Q tk} q1 q2=>by
  refine wpAny_dictFind_heap (s:={ s with toks:=tk }) (knd:=tupleKind (intKind prog w)) (xs:=xs.map yem) hu1 hk hl rfl (by rw [he];exact qcZ prog w xs) (λx hx=>?_) (by rw [wJ];exact hn) (λz=>q1 λj y l e=>z j (y,.ref l) (by rw [wx,e];rfl)) λj q e=>?_
  ·obtain ⟨y,hy,rfl⟩:=wG.mp hx;exact hks y hy
  ·rw [wx] at e;obtain ⟨⟨k',y,l⟩,e1,e2⟩:=Option.map_eq_some_iff.mp e
   have:k'=k:=congrArg (·.1) e2
   subst this;exact q2 j y l e1
 have hsz:en.size=xs.length:=by rw [<-Array.length_toList,he,wC]
 wp_walk using wpAny_pyHash_tuple hu1 hk,hf
 ·intro z;show wpAny _ _ (rule _ >>= λ_=>updateDictKeys d _ _ >>= λ_=>pure _) _ _ _;refine we (wpAny_rule (we (wpAny_updateDictKeys hl rfl ?_ (by rw [hsz];exact wQ hz (by rw [sizeLine_eq];decide)) (by simp))))
  wp_walk
  exact ⟨_,rfl,h2 z _ _ _ (Heap.get?_update_self _ hl rfl) (Heap.SameBut.update ..)⟩
 ·intro j y l e;have e3:en[j]?=some (jaV (k,y,l)):=by rw [<-Array.getElem?_toList,he,wx,e];rfl
  wp_walk using wpAny_dictEntries hl rfl
  rw [e3]
  wp_walk
  exact ⟨_,rfl,h1 j y l _ e⟩
end Eng
end
section
namespace Eng
open PySem PySem.Spec PyProof.Rows L2
variable [Tb]
def tyG (X:Cx) (T:String) (x:V) (H:Hp):Prop:=∀ (pins:List (Addr×Obj)) (σ:L2.St) (s:Shared) (v:Value),L2.Inv X pins σ H s->L2.RelV x v->s.TypeIs v T/\∀ a,v=.ref a->∃ o,s.heap.get? a=some o/\o.dict=none
def yeA (X:Cx) (T:String) (r:V->List V->Hp->VK->Prop) (to:TE) (t:TA):TE:=λσ H Q=>to σ H λx H1=>tyG X T x H1/\t σ H1 λxs H2=>r x xs H2 Q
def jec (X:Cx) (T:String) (r:V->List V->Hp->VK->Prop) (to:TE):TE:=λσ H Q=>to σ H λx H1=>tyG X T x H1/\r x [] H1 Q
section
variable {X:Cx} {o e:Expr} {es:List Expr} {to:TE} {t:TA} {name:Str} {apos cpos:Pos} {T id:String} {r:V->List V->Hp->VK->Prop}
theorem ybL (pa:PlainAttrs T) (slot:Slot T name id) (hty:typeOf (.builtin id)=pure (.type "method_descriptor")) (hm:MtR X id r) (ho:PE X o to) (ha:PA X (e::es) t)
  (hbase:attributeBase o name X.env (eval o X.env)=eval o X.env)
  (hfew:((backTo cpos (starEach (e::es) X.env)).all (λx=>!x.1)&&(backToKw cpos (keywordEach [] X.env)).all (λx=>x.1.isSome)
   && decide ((e::es).length+([]:List Keyword).length+(if ([]:List Keyword).isEmpty then 0 else 1)<30))=true)
  (hline:(apos.endLine==cpos.line)=true) (hs:starEach (e::es) X.env=(false,eval e X.env)::starEach es X.env) (hplain:(backTo cpos (starEach es X.env)).any (·.1)=false) :
  PE X (.Call (.Attribute o name apos) (e::es) [] cpos) (yeA X T r to t):=by
 intro pins s σ H Q I h;refine wpAny_Call_method_late hbase hfew hline rfl (thn (ho pins s σ H _ I h) λv s1 ⟨x,H1,I1,r1,ty,q1⟩=>?_);obtain ⟨h1,h2⟩:=ty pins σ s1 v I1 r1;refine ⟨T,id,pa,slot,hty,h1,h2,?_⟩;have hA:=ha cpos pins s1 σ H1 _ I1 q1;rw [hs] at hA ⊢;refine Calls.callWith_builtin (by show (false||(backTo cpos (starEach es X.env)).any (·.1))=false;rw [hplain]<;>rfl) (Calls.evalArgs_plain ?_);exact thn hA λus s2 ⟨vs,H2,I2,r2,q2⟩=>hm pins s2 σ H2 x vs v us Q I2 r1 r2 q2
theorem ycZ (pa:PlainAttrs T) (slot:Slot T name id) (hty:typeOf (.builtin id)=pure (.type "method_descriptor")) (hm:MtR X id r) (ho:PE X o to)
  (hbase:attributeBase o name X.env (eval o X.env)=eval o X.env) (hline:(apos.endLine==cpos.line)=true):PE X (.Call (.Attribute o name apos) [] [] cpos) (jec X T r to):=by
 intro pins s σ H Q I h;refine wpAny_Call_method0_late hbase hline (thn (ho pins s σ H _ I h) λv s1 ⟨x,H1,I1,r1,ty,q1⟩=>?_);obtain ⟨h1,h2⟩:=ty pins σ s1 v I1 r1;exact ⟨T,id,pa,slot,hty,h1,h2,Calls.callWith_builtin rfl (PySem.evalArgs_none (hm pins s1 σ H1 x [] v [] Q I1 r1 .nil q1))⟩
theorem yao {pins:List (Addr×Obj)} {σ:L2.St} {H:Hp} {s:Shared} {a:Addr} {en:Array DictEntry} {ep:Nat} (I:L2.Inv X pins σ H s) (h:H a=some (j3 a en ep)):s.heap.get? a=some (qcg en ep):=(I.hok a _ h).1
theorem ycA {P:Program} {w:World} {H:Hp} {h:Heap} {a:Addr} {en:Array DictEntry} {ep:Nat} (e:h.get? a=some (qcg en ep)):ObjOk P w H h a (j3 a en ep):=⟨e,⟨_,e⟩,λ_ _ p k=>k _ p⟩
theorem jbL {H:Hp} {a:Addr} {en:Array DictEntry} {ep:Nat} (h:H a=some (j3 a en ep)):tyG X "dict" (.ref a) H:=λpins σ s v I r=>by
 cases r;have e:=yao I h;exact ⟨⟨_,e,rfl⟩,λb z=>by cases z;exact ⟨_,e,rfl⟩⟩
theorem zbM {H:Hp} {a:Addr} {vs:List V} (h:H a=some (.tup vs)):tyG X "tuple" (.ref a) H:=λpins σ s v I r=>by
 cases r;obtain ⟨_,its,rv,ob,e,hc,hd,n⟩:=I.hok a _ h;exact ⟨⟨_,e,hc⟩,λb z=>by cases z;exact ⟨_,e,hd⟩⟩
theorem jcA {pins:List (Addr×Obj)} {σ:L2.St} {H:Hp} {s:Shared} (I:L2.Inv X pins σ H s):sysModules<s.heap.objs.size:=by
 have h:mainGlobals<s.heap.objs.size:=(I.mod.glob.keeps I.bk).lt;exact Nat.lt_trans (by decide) h
theorem jcZ {pos:Pos}:PE X (.Dict [] [] pos) (λ_ H Q=>∀ p,H p=none->(p==sysModules)=false->Q (.ref p) (upd H p (j3 p #[] 0))):=λpins s σ H Q I h =>
 wpAny_Dict_empty ⟨.ref s.heap.objs.size,_,I.laid (a:=s.heap.objs.size) (o:=j3 s.heap.objs.size #[] 0) (t':=s.toks) (λ_ _ q=>wj _ q) (wB _) (ycA (wt _ rfl)),rfl,
  h _ (I.hok.fresh (wB _)) (wY.mpr (Nat.ne_of_gt (jcA I)))⟩
theorem jao {P:Program} {w:World}:∀ {ks:List Int} {us:List Value},Vals (ks.map V.int) us->ItemsAre (intKind P w) ks us
 | [],_,r=>by cases r;exact .nil
 | _::_,_,r=>by
  cases r with
  | cons a b=>obtain ⟨t,rfl⟩:=a;exact .cons (by simp [intKind,Value.isInt]) (jao b)
theorem zbc {pins:List (Addr×Obj)} {σ:L2.St} {H:Hp} {s:Shared} {a:Addr} {ks:List Int} (I:L2.Inv X pins σ H s) (h:H a=some (.tup (ks.map V.int))):IsTupleKey (intKind X.prog X.w) s.heap ks a:=by
 obtain ⟨_,its,rv,ob,e,hc,hd,n,dt⟩:=I.hok a _ h;exact ⟨ob,its.toArray,n,e,hc,dt,by simpa using jao rv⟩
def rSetd:V->List V->Hp->VK->Prop:=λx vs H Q=>∃ (a b p:Addr) (k:List Int) (en:Array DictEntry) (ep:Nat) (xs:List (List Int×Addr×Addr)),x=.ref a/\vs=[.ref b,.ref p]/\H a=some (j3 a en ep)/\(a==sysModules)=false /\
 en.toList=xs.map jaV/\(xs.map (·.1)).Nodup/\xs.length<=1000/\H b=some (.tup (k.map V.int))/\(∀ x∈xs,H x.2.1=some (.tup (x.1.map V.int))) /\
 (∀ (j:Nat) (y l:Addr),xs[j]?=some (k,y,l)->Q (.ref l) H)/\((∀ (j:Nat) (y l:Addr),xs[j]?≠some (k,y,l))->∀ ep',Q (.ref p) (upd H a (j3 a (en.push (jaV (k,b,p))) ep')))
theorem zc0 (hu:X.A.units+64<cLine):MtR X "dict.setdefault" rSetd:=by
 intro pins s σ H x vs v us Q I rx rv ⟨a,b,p,k,en,ep,xs,e1,e2,ha,hy,he,hn,hz,hb,hks,q1,q2⟩;subst e1;subst e2
 cases rx;obtain ⟨u1,u2,rfl,r1,r2⟩:=vals2 rv;cases r1;cases r2
 have hl:=yao I ha;refine qeA (by omega) hy hl he (zbc I hb) (λx hx=>zbc I (hks x hx)) hn hz (λj y l tk e=>⟨.ref l,H,I.tok tk,rfl,q1 j y l e⟩) λz h' ep' tk hg sb=>?_
 refine ⟨.ref p,_,I.write (x:=a) (e:=a) (o:=j3 a (en.push (jaV (k,b,p))) ep') (by rw [ha];exact trivial) (.inl rfl) (λc u hc e=>(sb.2 c hc).trans e) ⟨_,hg⟩ (ycA hg),rfl,q2 z ep'⟩
end
section
variable {K:Frag} {B O O1:Addr->Prop} {H0 H H1:Hp} {σ:L2.St} {ρ:List Sl}
theorem FR.regr {i:Nat} {a:Addr} {es:List (List Int×List D)} {en:Array DictEntry} {ep:Nat} {xs:List (List Int×Addr×Addr)} {W G1:Addr->Prop} (F:FR K B H0 O σ H ρ) (hi:i<σ.length) (hng:∀ j es,ρ[j]?=some (.gr es)->j=i)
  (hW:∀ b,W b->O b) (hk:∀ b o,H b=some o->¬ W b->H1 b=some o) (hd:∀ b o,H b=some o->∃ o',H1 b=some o') (hO:∀ b,O1 b->O b\/H b=none) (hOO:∀ b,O b->O1 b) (hb1:HB (BO B O1) H1)
  (how:∀ j ds c,j≠i->ρ[j]?=some (.ow ds)->σ[j]?=some (some (.ref c))->¬ W c/\¬ G1 c) (g:GrpR K B O1 G1 H1 a es en ep xs) :
  FR K B H0 O1 (σ.set i (some (.ref a))) H1 (ρ.set i (.gr es))/\Ext B O H O1 H1:=by
 have sm:jt (BO B O) H H1:=λb o nb e=>hk b o e λz=>nb (.inr (hW b z))
 have hol:∀ b,BO B O1 b->BO B O b\/H b=none:=λb z=>z.elim (λz=>.inl (.inl z)) λz=>(hO b z).imp .inr id
 refine ⟨⟨λb z=>?_,λb o e=>?_,hb1,F.hb0,λj d e=>?_,λj ds e=>?_,λj k ds1 ds2 b e1 e2 q1 q2=>?_,λj k es1 es2 e1 e2=>?_,G1,λj ds c e q=>?_,λj es1 e=>?_⟩,⟨hO,sm,hd⟩⟩
 ·rcases hO b z with z | z
  ·exact F.o0 b z
  ·exact F.same.free z
 ·exact hk b o (F.same b o e) λz=>by rw [F.o0 b (hW b z)] at e;cases e
 ·rcases wc e with ⟨rfl,e'⟩ | ⟨ne,e⟩
  ·cases e'
  ·obtain ⟨v,q,r⟩:=F.pu j d e;exact ⟨v,by rw [wD (Ne.symm ne)];exact q,r.shift F.hb sm hol⟩
 ·rcases wc e with ⟨rfl,e'⟩ | ⟨ne,e⟩
  ·cases e'
  ·obtain ⟨c,vs,q,o,h,r⟩:=F.ow j ds e;exact ⟨c,vs,by rw [wD (Ne.symm ne)];exact q,hOO c o,hk c _ h (how j ds c ne e q).1,r.shift F.hb sm hol⟩
 ·rcases wc e1 with ⟨rfl,e'⟩ | ⟨n1,e1⟩
  ·cases e'
  ·rcases wc e2 with ⟨rfl,e'⟩ | ⟨n2,e2⟩
   ·cases e'
   ·rw [wD (Ne.symm n1)] at q1;rw [wD (Ne.symm n2)] at q2;exact F.ap j k _ _ b e1 e2 q1 q2
 ·have one:∀ (j:Nat) es',(ρ.set i (.gr es))[j]?=some (.gr es')->j=i:=λj es' e=>by
   rcases wc e with ⟨z,_⟩ | ⟨_,e⟩
   ·exact z
   ·exact hng j es' e
  rw [one j es1 e1,one k es2 e2]
 ·rcases wc e with ⟨rfl,e'⟩ | ⟨ne,e⟩
  ·cases e'
  ·rw [wD (Ne.symm ne)] at q;exact (how j ds c ne e q).2
 ·rcases wc e with ⟨rfl,e'⟩ | ⟨ne,e⟩
  ·cases e';exact ⟨a,en,ep,xs,vn hi,g⟩
  ·exact absurd (hng j es1 e) ne
theorem FR.newd {i:Nat} {p:Addr} (F:FR K B H0 O σ H ρ) (hi:i<σ.length) (hng:(ρ.set i .un).any Sl.isGr=false) (hp:H p=none) (hy:(p==sysModules)=false) :
  FR K B H0 (λb=>O b\/b=p) (σ.set i (some (.ref p))) (upd H p (j3 p #[] 0)) (ρ.set i (.gr []))/\Ext B O H (λb=>O b\/b=p) (upd H p (j3 p #[] 0)):=by
 refine F.regr (W:=λ_=>False) (G1:=λ_=>False) hi (λj es e=>?_) (λ_ z=>z.elim) (λb o e _=>qa hp _ b o e) (λb o e=>⟨o,qa hp _ b o e⟩) (λb z=>z.imp id λ(z:b=p)=>z▸hp) (λb z=>.inl z) ⟨λb z=>?_,λx hx=>qa hp _ _ _ (F.hb.t x hx)⟩ (λ_ _ _ _ _ _=>⟨id,id⟩)
  (xs:=[]) ⟨.inr rfl,ja,hy,rfl,List.Pairwise.nil,List.Pairwise.nil,Nat.zero_le _,.nil⟩
 ·by_cases ne:j=i
  ·exact ne
  ·have:(ρ.set i .un)[j]?=some (.gr es):=by rw [wD (Ne.symm ne)];exact e
   have hm:Sl.gr es∈ρ.set i .un:=wR this;rw [List.any_eq_false] at hng;exact absurd rfl (hng _ hm)
 ·rcases z with z | z | z
  ·exact (F.hb.same (qa hp _)).h b (.inl z)
  ·exact (F.hb.same (qa hp _)).h b (.inr z)
  ·exact .inr ⟨#[],0,z▸ja⟩
end
section
variable {K:Frag} {B O O1 G G1:Addr->Prop} {H0 H H1:Hp} {σ:L2.St} {ρ:List Sl}
theorem put_old {k:List Int} {d:D} {l:Addr} (m:∀ x e,EntR K B O G H x e->x.2.2≠l->EntR K B O1 G1 H1 x e) (hit:∀ x e,EntR K B O G H x e->x.2.2=l->EntR K B O1 G1 H1 x (e.1,e.2++[d])) :
  ∀ {xs:List (List Int×Addr×Addr)} {es:List (List Int×List D)},Paired (EntR K B O G H) xs es->(xs.map (·.1)).Nodup->(xs.map (·.2.2)).Nodup->(∃ y,(k,y,l)∈xs)->Paired (EntR K B O1 G1 H1) xs (jW k d es)
 | _,_,.nil,_,_,⟨_,h⟩=>by cases h
 | x::xs,(j,ds)::es,.cons a t,n1,n2,⟨y,h⟩=>by
  rw [List.map_cons,List.nodup_cons] at n1 n2;have hj:x.1=j:=a.1;rw [jW]
  by_cases c:j=k
  ·rw [if_pos c]
   have hx:x=(k,y,l):=by
    rcases wu.mp h with e | e
    ·exact e.symm
    ·exact absurd (show x.1∈xs.map (·.1) from wG.mpr ⟨_,e,by rw [hj,c]⟩) n1.1
   subst hx;refine .cons (hit _ _ a rfl) (rest t λz hz=>λe=>n2.1 (wG.mpr ⟨z,hz,e⟩))
  ·rw [if_neg c]
   have hx:∃ y,(k,y,l)∈xs:=by
    rcases wu.mp h with e | e
    ·exact absurd (by rw [<-hj,<-e]) c
    ·exact ⟨y,e⟩
   obtain ⟨y',hy'⟩:=hx;exact .cons (m _ _ a λe=>n2.1 (wG.mpr ⟨_,hy',e.symm⟩)) (put_old m hit t n1.2 n2.2 ⟨y',hy'⟩)
where
 rest {xs:List (List Int×Addr×Addr)} {es:List (List Int×List D)}:Paired (EntR K B O G H) xs es->(∀ z∈xs,z.2.2≠l)->Paired (EntR K B O1 G1 H1) xs es
  | .nil,_=>.nil
  | .cons a t,h=>.cons (m _ _ a (h _ wN)) (rest t λz hz=>h z (wH _ hz))
theorem put_new {k:List Int} {d:D} {x0:List Int×Addr×Addr} (m:∀ x e,EntR K B O G H x e->EntR K B O1 G1 H1 x e) (new:EntR K B O1 G1 H1 x0 (k,[d])) :
  ∀ {xs:List (List Int×Addr×Addr)} {es:List (List Int×List D)},Paired (EntR K B O G H) xs es->k∉xs.map (·.1)->Paired (EntR K B O1 G1 H1) (xs++[x0]) (jW k d es)
 | _,_,.nil,_=>.cons new .nil
 | x::xs,(j,ds)::es,.cons a t,n=>by
  rw [List.map_cons,wu,not_or] at n;have hj:x.1=j:=a.1;rw [jW,if_neg (by rw [<-hj];exact Ne.symm n.1)];exact .cons (m _ _ a) (put_new m new t n.2)
theorem set_same {α:Type} {l:List α} {i:Nat} {x:α} (h:l[i]?=some x):l.set i x=l:=by
 obtain ⟨hi,e⟩:=wq.mp h;rw [<-e,List.set_getElem_self]
theorem FR.put_old {i:Nat} {a l y:Addr} {k:List Int} {v:V} {d:D} {vs:List V} {es:List (List Int×List D)} {en:Array DictEntry} {ep:Nat} {xs:List (List Int×Addr×Addr)} (F:FR K B H0 O σ H ρ) (hρ:ρ[i]?=some (.gr es)) (hσ:σ[i]?=some (some (.ref a)))
  (hG:∀ (i:Nat) (ds:List D) (a:Addr),ρ[i]?=some (.ow ds)->σ[i]?=some (some (.ref a))->¬ G a) (g:GrpR K B O G H a es en ep xs) {j:Nat} (hj:xs[j]?=some (k,y,l)) (hl:H l=some (.lst vs)) (r:Rep K (BO B O) H v d) :
  FR K B H0 O σ (upd H l (.lst (vs++[v]))) (ρ.set i (.gr (jW k d es)))/\Ext B O H O (upd H l (.lst (vs++[v]))):=by
 have hmem:(k,y,l)∈xs:=wR hj
 have key:∀ {xs:List (List Int×Addr×Addr)} {es:List (List Int×List D)},Paired (EntR K B O G H) xs es->(k,y,l)∈xs->O l/\G l:=by
  intro xs es p
  induction p with
  | nil=>intro h;cases h
  | cons a t ih =>
   intro h;rcases wu.mp h with e | e
   ·rw [<-e] at a;exact ⟨a.2.2.1,a.2.2.2.1⟩
   ·exact ih e
 obtain ⟨ol,gl⟩:=key g.al hmem;have nal:a≠l:=λz=>by have:=g.h;rw [z,hl] at this;cases this
 have sm:jt (BO B O) H (upd H l (.lst (vs++[v]))):=λb o nb e=>by rw [ya λz=>nb (by rw [z];exact .inr ol)];exact e
 have hi:i<σ.length:=(wq.mp hσ).1;have hlt:∀ b xs,H b=some (.tup xs)->upd H l (.lst (vs++[v])) b=some (.tup xs):=λb xs e=>by rw [ya λz=>by rw [z,hl] at e;cases e];exact e
 have z:=F.regr (i:=i) (a:=a) (es:=jW k d es) (en:=en) (ep:=ep) (xs:=xs) (W:=λb=>b=l) (G1:=G) (O1:=O) (H1:=upd H l (.lst (vs++[v]))) hi (λj' es' e=>F.g1 j' i es' es e hρ) (λb z=>z▸ol)
  (λb o e nb=>by rw [ya nb];exact e) (λb o e=>by by_cases c:b=l;exact ⟨_,by rw [c];exact ja⟩;exact ⟨o,by rw [ya c];exact e⟩) (λb z=>.inl z) (λb z=>z)
  ⟨λb z=>by
   by_cases c:b=l
   ·exact .inl ⟨_,by rw [c];exact ja⟩
   ·exact (F.hb.h b z).imp (λ⟨xs,e⟩=>⟨xs,by rw [ya c];exact e⟩) λ⟨es,ep,e⟩=>⟨es,ep,by rw [ya c];exact e⟩,λx hx=>by rw [ya λz=>by have:=F.hb.t x hx;rw [z,hl] at this;cases this];exact F.hb.t x hx⟩
  (λj' ds c _ e q=>⟨λz=>hG j' ds c e q (by rw [z];exact gl),hG j' ds c e q⟩)
  ⟨g.o,by rw [ya nal];exact g.h,g.sy,g.en,g.ks,g.ls,g.len,Eng.put_old (l:=l) (λx e h n=>?_) (λx e h n=>?_) g.al g.ks g.ls ⟨y,hmem⟩⟩
 ·rw [set_same hσ] at z;exact z
 ·obtain ⟨h1,h2,h3,h4,ws,h5,h6⟩:=h;exact ⟨h1,hlt _ _ h2,h3,h4,ws,by rw [ya n];exact h5,h6.mono F.hb sm⟩
 ·obtain ⟨h1,h2,h3,h4,ws,h5,h6⟩:=h;rw [n,hl] at h5;cases h5;exact ⟨h1,hlt _ _ h2,h3,h4,_,by rw [n];exact ja,(h6.mono F.hb sm).append (.cons (r.mono F.hb sm) .nil)⟩
theorem FR.put_new {i:Nat} {a b p:Addr} {k:List Int} {v:V} {d:D} {es:List (List Int×List D)} {en:Array DictEntry} {ep ep':Nat} {xs:List (List Int×Addr×Addr)} {H3:Hp} (F:FR K B H0 O σ H ρ) (hρ:ρ[i]?=some (.gr es)) (hσ:σ[i]?=some (some (.ref a)))
  (hG:∀ (i:Nat) (ds:List D) (a:Addr),ρ[i]?=some (.ow ds)->σ[i]?=some (some (.ref a))->¬ G a) (g:GrpR K B O G H a es en ep xs) (hz:xs.length<1000) (hk:k∉xs.map (·.1)) (hp:H p=none) (s1:Same H H1) (hb:H1 b=some (.tup (k.map V.int)))
  (s3:Same (upd H1 a (j3 a (en.push (jaV (k,b,p))) ep')) H3) (hp3:H3 p=some (.lst [])) (r:Rep K (λc=>BO B O c\/c=p) H3 v d) :
  FR K B H0 (λc=>O c\/c=p) σ (upd H3 p (.lst [v])) (ρ.set i (.gr (jW k d es)))/\Ext B O H (λc=>O c\/c=p) (upd H3 p (.lst [v])):=by
 have hi:i<σ.length:=(wq.mp hσ).1;have npa:a≠p:=λz=>by have:=g.h;rw [z,hp] at this;cases this
 have a3:H3 a=some (j3 a (en.push (jaV (k,b,p))) ep'):=s3 _ _ ja
 have old:∀ c o,H c=some o->c≠a->upd H3 p (.lst [v]) c=some o:=λc o e n=>by
  rw [ya λz=>by rw [z,hp] at e;cases e];exact s3 _ _ (by rw [ya n];exact s1 _ _ e)
 have a4:upd H3 p (.lst [v]) a=some (j3 a (en.push (jaV (k,b,p))) ep'):=by rw [ya npa];exact a3
 have sm:jt (BO B O) H (upd H3 p (.lst [v])):=λc o nb e=>old c o e λz=>nb (by rw [z];exact .inr g.o)
 have hol:∀ c,BO B (λc=>O c\/c=p) c->BO B O c\/H c=none:=λc z=>by
  rcases z with z | z | z
  ·exact .inl (.inl z)
  ·exact .inl (.inr z)
  ·exact .inr (z▸hp)
 have tupA:∀ c ws,H c=some (.tup ws)->c≠a:=λc ws e z=>by rw [z,g.h] at e;cases e
 have z:=F.regr (i:=i) (a:=a) (es:=jW k d es) (en:=en.push (jaV (k,b,p))) (ep:=ep') (xs:=xs++[(k,b,p)]) (W:=λc=>c=a) (G1:=λc=>G c\/c=p) (O1:=λc=>O c\/c=p) (H1:=upd H3 p (.lst [v])) hi (λj' es' e=>F.g1 j' i es' es e hρ) (λc z=>z▸g.o)
  (λc o e n=>old c o e n) (λc o e=>by by_cases n:c=a;exact ⟨_,by rw [n];exact a4⟩;exact ⟨o,old c o e n⟩) (λc z=>z.imp id λ(z:c=p)=>z▸hp) (λc z=>.inl z)
  ⟨λc z=>by
   have go:∀ c,BO B O c->(∃ xs,upd H3 p (.lst [v]) c=some (.lst xs))\/∃ es ep,upd H3 p (.lst [v]) c=some (j3 c es ep):=λc z=>by
    by_cases n:c=a
    ·subst n;exact .inr ⟨_,_,a4⟩
    ·exact (F.hb.h c z).imp (λ⟨xs,e⟩=>⟨xs,old c _ e n⟩) λ⟨es,ep,e⟩=>⟨es,ep,old c _ e n⟩
   rcases z with z | z | z
   ·exact go c (.inl z)
   ·exact go c (.inr z)
   ·exact .inl ⟨_,by rw [z];exact ja⟩,λx hx=>old _ _ (F.hb.t x hx) λz=>by have:=F.hb.t x hx;rw [z,g.h] at this;cases this⟩
  (λj' ds c _ e q=>by
   obtain ⟨c',ws,q',o,h,_⟩:=F.ow j' ds e;rw [q] at q';cases q'
   refine ⟨λz=>by (rw [z,g.h] at h;cases h),λz=>?_⟩;rcases z with z | z
   ·exact hG j' ds c e q z
   ·rw [z,hp] at h;cases h)
  ⟨.inl g.o,a4,g.sy,by rw [Array.toList_push,g.en];simp,?_,?_,by rw [wU];exact hz,Eng.put_new (λx e h=>?_) ?_ g.al hk⟩
 ·rw [set_same hσ] at z;exact z
 ·rw [List.map_append,List.nodup_append];refine ⟨g.ks,by simp,λx hx y hy=>?_⟩
  have:y=k:=by simpa using hy
  subst this;exact λz=>hk (z▸hx)
 ·rw [List.map_append,List.nodup_append];refine ⟨g.ls,by simp,λx hx y hy=>?_⟩;have hy':y=p:=by simpa using hy
  subst hy';intro z;subst z
  have key:∀ {xs:List (List Int×Addr×Addr)} {es:List (List Int×List D)},Paired (EntR K B O G H) xs es->x∈xs.map (·.2.2)->∃ ws,H x=some (.lst ws):=by
   intro xs es pr
   induction pr with
   | nil=>intro h;cases h
   | cons a t ih =>
    intro h;rcases wu.mp h with e | e
    ·obtain ⟨_,_,_,_,ws,h5,_⟩:=a;exact ⟨ws,by rw [e];exact h5⟩
    ·exact ih e
  obtain ⟨ws,e⟩:=key g.al hx;rw [hp] at e;cases e
 ·obtain ⟨h1,h2,h3,h4,ws,h5,h6⟩:=h;exact ⟨h1,old _ _ h2 (tupA _ _ h2),.inl h3,.inl h4,ws,old _ _ h5 (λz=>by rw [z,g.h] at h5;cases h5),h6.shift F.hb sm hol⟩
 ·have nbp:b≠p:=λz=>by
   have:H3 b=some (.tup (k.map V.int)):=s3 _ _ (by rw [ya λz=>by rw [z] at hb;rw [s1 _ _ g.h] at hb;cases hb];exact hb)
   rw [z,hp3] at this;cases this
  have hb3:H3 b=some (.tup (k.map V.int)):=s3 _ _ (by rw [ya λz=>by rw [z] at hb;rw [s1 _ _ g.h] at hb;cases hb];exact hb)
  have hbb:HB (λc=>BO B O c\/c=p) H3:=⟨λc z=>by
   rcases z with z | z
   ·by_cases n:c=a
    ·subst n;exact .inr ⟨_,_,a3⟩
    ·have up:∀ o,H c=some o->H3 c=some o:=λo e=>s3 _ _ (by rw [ya n];exact s1 _ _ e)
     exact (F.hb.h c z).imp (λ⟨xs,e⟩=>⟨xs,up _ e⟩) λ⟨es,ep,e⟩=>⟨es,ep,up _ e⟩
   ·exact .inl ⟨_,z▸hp3⟩,λx hx=>s3 _ _ (by rw [ya λz=>by have:=F.hb.t x hx;rw [z,g.h] at this;cases this];exact s1 _ _ (F.hb.t x hx))⟩
  have r4:Rep K (λc=>BO B O c\/c=p) (upd H3 p (.lst [v])) v d:=r.mono hbb λc o n e=>by rw [ya λz=>n (.inr z)];exact e
  refine ⟨rfl,by rw [ya nbp];exact hb3,.inr rfl,.inr rfl,[v],ja,.cons (r4.less λc z=>?_) .nil⟩;rcases z with z | z | z
  ·exact .inl (.inl z)
  ·exact .inl (.inr z)
  ·exact .inr z
end
section
variable {X:Cx} {C:Tab}
theorem qc0 {x:Str} {px dp pos:Pos} {i:Nat} (hN:X.N.Nodup) (hy:X.N[i]?=some x) (hl:Loc X.env.scope x) (hf:X.fn x=true\/X.env.scope.names.lookup x=some .local) (hi:i<X.N.length) :
  SS X C (.Assign [.Name x px] (.Dict [] [] dp) pos) (.newd i):=λB H0 O ρ r he=>by
 have he':(if (ρ.set i .un).any Sl.isGr then none else some (Fl.nx (ρ.set i (.gr []))))=some r:=by rw [ex] at he;exact he
 split at he'
 ·cases he'
 ·rename_i hg;cases he';rw [Bool.not_eq_true] at hg;intro pins s σ H D I q;refine qal hN hy hl jcZ (qao rfl _ _ _) hf pins s σ H D I λp hp hs=>?_
  obtain ⟨F,x⟩:=q.1.newd (by rw [I.len];exact hi) hg hp hs;exact q.2 _ _ _ x F (by simp)
theorem ydL {es:List Expr} {cs:Codes} (h:SA X C es cs) {ρ:En} {ds:List D} (e:evs C cs ρ=some ds):PA X es (λσ H Q=>∃ B,tDs X.K B ρ ds σ H Q) :=
 λpos pins s σ H Q I ⟨B,q⟩=>h B ρ ds e pos pins s σ H Q I q
theorem jdL {x:Str} {px ap1 ap2 cp1 cp2 lp spos:Pos} {i:Nat} {ek e:Expr} {ck cv:Code} (hu:X.A.units+64<cLine) (hN:X.N[i]?=some x) (hv:Vis X.env.scope x) (hd:(x==("__debug__":Str))=false) (hcd:(x==("__classdict__":Str))=false)
  (hk:SE X C ek ck) (he:SE X C e cv) (hsk:starEach [ek,.List [] lp] X.env=(false,eval ek X.env)::starEach [.List [] lp] X.env) (hs:starEach [e] X.env=[(false,eval e X.env)])
  (hl1:(ap1.endLine==cp1.line)=true) (hl2:(ap2.endLine==cp2.line)=true) :
  SS X C (.Expr (.Call (.Attribute (.Call (.Attribute (.Name x px) "setdefault" ap1) [ek,.List [] lp] [] cp1) "append" ap2) [e] [] cp2) spos) (.grp i ck cv):=λB H0 O ρ r h=>by
 obtain ⟨dk,edk,h⟩:=wa (show (ev C ck (vP ρ)).bind (λx=>(ev C cv (vP ρ)).bind λd=>(qdZ x).bind λns=>ydm i ns d ρ)=some r from h);obtain ⟨d,ed,h⟩:=wa h;obtain ⟨k,ek',h⟩:=wa h;unfold ydm at h;split at h
 case h_2=>cases h
 rename_i es hρ;split at h
 case isFalse=>cases h
 rename_i hz;cases h
 have hkey:∃ ks,dk=.tup ks/\intsOf ks=some k:=by
  cases dk<;>first | exact ⟨_,rfl,ek'⟩ | cases ek'
 obtain ⟨ks,rfl,hks⟩:=hkey
 have pin:=ybL (X:=X) (T:="dict") (name:="setdefault") F.plainAttrs_dict F.slot_dict_setdefault F.type_dict_setdefault (zc0 hu) (zK (pos:=px) hN hv hd hcd)
  (zF (hk (BO B O) (vP ρ) _ edk) (zF (ybH (X:=X) (C:=C) (pos:=lp) jq (BO B O) (vP ρ) [] rfl) zaa rfl) hsk) rfl (by rw [hsk];rfl) hl1 hsk rfl
 have hpa:=ydL (yi he jq hs) (ρ:=vP ρ) (ds:=[d]) (by rw [evs,ed];rfl);refine (j9 (jbA F.plainAttrs_list F.slot_list_append F.type_list_append yaa pin hpa rfl (by rw [hs];rfl) hl2 hs rfl)).imp λDn σ H q=>?_
 obtain ⟨F,q⟩:=q;obtain ⟨G,hG,g2⟩:=F.gs;obtain ⟨a,en,ep,xs,hσ,g⟩:=g2 i es hρ;have hlen:xs.length=es.length:=Paired.length g.al;refine ⟨_,hσ,jbL g.h,F.hb,F.erP,λv1 H1 s1 r1=>⟨F.hb.same s1,F.erP.same s1,λv2 H2 s2 r2 fr=>?_⟩⟩;obtain ⟨b,bs,rfl,hb,rb⟩:=r1.tupD;have eb:=rb.ints hks;subst eb;obtain ⟨p,ps,rfl,np,hp,rp⟩:=r2.lstD;cases rp;obtain ⟨p',ep',fp⟩:=fr;cases ep';have sm:=s1.trans s2;have fpH:H p=none:=s1.free fp;have F2:=F.grow sm;have g':=g.same sm
 have tups:∀ {xs:List (List Int×Addr×Addr)} {es:List (List Int×List D)},Paired (EntR X.K B O G H2) xs es->∀ x∈xs,H2 x.2.1=some (.tup (x.1.map V.int)):=by
  intro xs es pr
  induction pr with
  | nil=>intro x h;cases h
  | cons a t ih =>
   intro x h;rcases wu.mp h with e | e
   ·rw [e];exact a.2.1
   ·exact ih x e
 unfold tNil;refine (id ?_:rSetd (V.ref a) [V.ref b,V.ref p] H2 λx H1=>tyV X.K "list" x H1/\∃ B,tDs X.K B (vP ρ) [d] σ H1 λxs H2=>rAppend x xs H2 λx H1=>Dn.nx σ H1);refine ⟨a,b,p,k,en,ep,xs,rfl,rfl,g'.h,g.sy,g.en,g.ks,g.len,s2 _ _ hb,tups g'.al,λj y l hj=>?_,λnj epn=>?_⟩
 ·have mem:∀ {xs:List (List Int×Addr×Addr)} {es:List (List Int×List D)},Paired (EntR X.K B O G H2) xs es->(∀ e∈es,e.2.length<1000)->(k,y,l)∈xs->∃ vs,H2 l=some (.lst vs)/\vs.length<1000:=by
   intro xs es pr
   induction pr with
   | nil=>intro _ h;cases h
   | cons a t ih =>
    intro hz h;rcases wu.mp h with e | e
    ·obtain ⟨_,_,_,_,vs,h5,h6⟩:=a;exact ⟨vs,by rw [<-e] at h5;exact h5,by rw [h6.length];exact hz _ wN⟩
    ·exact ih (λe he=>hz e (wH _ he)) e
  obtain ⟨vs,hl,hlv⟩:=mem g'.al hz.2 (wR hj);refine ⟨.inl ⟨rfl,_,SqL.of hl⟩,BO B O,F2.hb,F2.erP,λws H4 s4 r4=>?_⟩;obtain ⟨v,rfl,rv⟩:=r4.one;obtain ⟨F5,x5⟩:=(F2.grow s4).put_old hρ hσ hG (g'.same s4) hj (s4 _ _ hl) rv;exact ⟨l,vs,v,rfl,rfl,s4 _ _ hl,ybB (Nat.le_of_lt hlv),q O σ _ ((Ext.of_same (sm.trans s4)).trans x5) F5 rfl⟩
 ·have npa:p≠a:=λz=>by have:=g.h;rw [<-z,fpH] at this;cases this
  have hk:k∉xs.map (·.1):=λh=>by
   obtain ⟨⟨k',y,l⟩,hm,e⟩:=wG.mp h;simp only at e;subst e;obtain ⟨j,hj⟩:=List.mem_iff_getElem?.mp hm;exact nj j y l hj
  have hp2:upd H2 a (j3 a (en.push (jaV (k,b,p))) epn) p=some (.lst []):=by rw [ya npa];exact hp
  have up:∀ c o,H c=some o->c≠a->upd H2 a (j3 a (en.push (jaV (k,b,p))) epn) c=some o:=λc o e n=>by rw [ya n];exact sm _ _ e
  have sB:jt (BO B O) H (upd H2 a (j3 a (en.push (jaV (k,b,p))) epn)):=λc o n e=>up c o e λz=>n (by rw [z];exact .inr g.o)
  have hol:∀ c,(BO B O c\/c=p)->BO B O c\/H c=none:=λc z=>z.imp id λ(z:c=p)=>z▸fpH
  refine ⟨.inl ⟨rfl,_,SqL.of hp2⟩,λc=>BO B O c\/c=p,⟨λc z=>?_,λx hx=>up _ _ (F.hb.t x hx) λz=>by have:=F.hb.t x hx;rw [z,g.h] at this;cases this⟩,λj d' e=>?_,λws H4 s4 r4=>?_⟩
  ·rcases z with z | z
   ·by_cases n:c=a
    ·subst n;exact .inr ⟨_,_,ja⟩
    ·exact (F.hb.h c z).imp (λ⟨xs,e⟩=>⟨xs,up _ _ e n⟩) λ⟨es,ep,e⟩=>⟨es,ep,up _ _ e n⟩
   ·exact .inl ⟨[],by rw [z];exact hp2⟩
  ·obtain ⟨v,qv,rv⟩:=F.erP j d' e;exact ⟨v,qv,rv.shift F.hb sB hol⟩
  ·obtain ⟨v,rfl,rv⟩:=r4.one;obtain ⟨F5,x5⟩:=F.put_new hρ hσ hG g (by rw [hlen];exact hz.1) hk fpH sm (s2 _ _ hb) s4 (s4 _ _ hp2) rv;exact ⟨p,[],v,rfl,rfl,s4 _ _ hp2,by rw [sizeLine_eq];decide,q _ σ _ x5 F5 rfl⟩
open PySem.Builtin.List in
theorem yc0 (l:Addr) (items:Array Value) (n:Nat) (b:Addr) (items2:Array Value) (hlong:¬ (!items.isEmpty&&listTooLong (items.size+items2.size))=true) (h1:items.size<=sizeLine) (h2:items.size+items2.size<=sizeLine) :
  Meets (Builtin.«list.extend» ⟨[.ref l,.ref b],[]⟩) (λ_ R s=>s.heap.get? l=some { cls:=.type "list",dict:=none,data:=.seq items n,slots:=#[] }/\(∃ o n2,s.heap.get? b=some o/\o.cls=.type "tuple"/\o.data=.seq items2 n2)/\R (.ok (.ret Value.none)) { s with heap:=s.heap.update l (Obj.mapSeq λx=>x++items2),toks:=s.toks }) :=
 .of_wp λprog w A R s ⟨hl,⟨o,n2,ho,hc,hd⟩,h⟩=>by
  show wpAny _ _ (listExtendWith (.ref l) (.ref b) .none) _ _ _;unfold listExtendWith;refine we (wpAny_typeOf (T:="tuple") ⟨o,ho,hc⟩ ?_);have ht:(Value.type "tuple"==Value.type "tuple")=true:=by rfl
  rw [if_pos (by rw [ht];simp)];refine we (listItems_at ho hd (we (listItems_at hl rfl ?_)));rw [if_neg hlong];exact we (listUpdate_at hl rfl (wm ⟨_,rfl,h⟩) h1 (by rw [Array.size_append];omega))
def rExtT:V->List V->Hp->VK->Prop:=λx vs H Q=>∃ l b xs zs,x=.ref l/\vs=[.ref b]/\H l=some (.lst xs)/\H b=some (.tup zs)/\xs.length+zs.length<=sizeLine/\Q .non (upd H l (.lst (xs++zs)))
theorem jc0:MtM X "list.extend" rExtT:=by
 intro pins s σ H x vs v us Q I rx rv h;obtain ⟨l,b,xs,zs,rfl,rfl,hH,hB,hz,q⟩:=h;cases rx;obtain ⟨u,rfl,ru⟩:=rv.one;cases ru;obtain ⟨z,its,n,r,hl,e⟩:=I.lstM hH;obtain ⟨_,its2,r2,o,ho,hc,_,n2,hd⟩:=(show ObjOk X.prog X.w H s.heap b (.tup zs) from I.hok b _ hB);have hl2:=r2.length;have hsz:its.toArray.size+its2.toArray.size<=sizeLine:=by rw [vh,vh];omega
 have hlong:¬ (!its.toArray.isEmpty&&Builtin.List.listTooLong (its.toArray.size+its2.toArray.size))=true:=by
  rw [jau hsz,Bool.and_false];exact wz
 refine call_meets F.slot_list_extend ⟨_,e,rfl⟩ F.entry_list_extend (F.args_list_extend_2 _ _) (yc0 l its.toArray n b its2.toArray hlong (by rw [vh];omega) hsz) ⟨e,⟨o,n2,ho,hc,hd⟩,?_⟩;refine ⟨.non,_,I.lset (its':=its++its2) hH e (by simp) (r.append r2) ?_,rfl,q⟩;rw [wU];omega
theorem zdM {i:Nat} {x:Str} {px apos cpos spos:Pos} {e:Expr} {c:Code} (hN:X.N[i]?=some x) (hv:Vis X.env.scope x) (hd:(x==("__debug__":Str))=false) (hcd:(x==("__classdict__":Str))=false)
  (he:SE X C e c) (hs:starEach [e] X.env=[(false,eval e X.env)]) (hline:(apos.endLine==cpos.line)=true):SS X C (.Expr (.Call (.Attribute (.Name x px) "extend" apos) [e] [] cpos) spos) (.ext i .pu c):=λB H0 O ρ r h=>by
 obtain ⟨d,ed,h⟩:=wa (show (ev C c (vP ρ)).bind (λd=>qb9 i d ρ)=some r from h);unfold qb9 at h;split at h
 case h_3=>cases h
 all_goals
  rename_i ds es hρ;split at h
  case isFalse=>cases h
  rename_i hz;cases h
 ·have hpa:PA X [e] (tDs X.K (BO B O) (vP ρ) [.lst es]):=yi he jq hs _ _ _ (by rw [evs,ed];rfl);refine (j9 (jbA F.plainAttrs_list F.slot_list_extend F.type_list_extend yaI (zK (pos:=px) hN hv hd hcd) hpa rfl (by rw [hs];rfl) hline hs rfl)).imp λDn σ H q=>?_
  obtain ⟨F,q⟩:=q;obtain ⟨a,vs,hσ,o,ha,rs⟩:=F.ow i ds hρ;refine ⟨_,hσ,.inl ⟨rfl,_,SqL.of ha⟩,F.hb,F.erP,λws H1 sm rw'=>?_⟩;obtain ⟨v,rfl,rv⟩:=rw'.one;obtain ⟨b,zs,rfl,nb,hb,rz⟩:=rv.lstD;obtain ⟨F2,x2⟩:=(F.grow sm).write (es:=ds++es) (ws:=vs++zs) hρ hσ ((rs.same sm).append rz);exact ⟨a,b,vs,zs,rfl,rfl,sm _ _ ha,hb,by rw [rs.length,rz.length];exact Nat.le_of_lt hz,q O σ _ ((Ext.of_same sm).trans x2) F2 rfl⟩
 ·have hpa:PA X [e] (tDs X.K (BO B O) (vP ρ) [.tup es]):=yi he jq hs _ _ _ (by rw [evs,ed];rfl);refine (j9 (jbA F.plainAttrs_list F.slot_list_extend F.type_list_extend jc0 (zK (pos:=px) hN hv hd hcd) hpa rfl (by rw [hs];rfl) hline hs rfl)).imp λDn σ H q=>?_
  obtain ⟨F,q⟩:=q;obtain ⟨a,vs,hσ,o,ha,rs⟩:=F.ow i ds hρ;refine ⟨_,hσ,.inl ⟨rfl,_,SqL.of ha⟩,F.hb,F.erP,λws H1 sm rw'=>?_⟩;obtain ⟨v,rfl,rv⟩:=rw'.one;obtain ⟨b,zs,rfl,hb,rz⟩:=rv.tupD;obtain ⟨F2,x2⟩:=(F.grow sm).write (es:=ds++es) (ws:=vs++zs) hρ hσ ((rs.same sm).append rz);exact ⟨a,b,vs,zs,rfl,rfl,sm _ _ ha,hb,by rw [rs.length,rz.length];exact Nat.le_of_lt hz,q O σ _ ((Ext.of_same sm).trans x2) F2 rfl⟩
end
noncomputable abbrev qdM (a:Addr):Obj:={ cls:=.type "dict_values",data:=.fields #[.ref a] }
noncomputable abbrev zc1 (p a:Addr):HO:=.ext λh=>h.get? p=some (qdM a)
noncomputable abbrev jeA (a:Addr) (i n ep:Nat):Obj:={ cls:=.type "dict_valueiterator",data:=.fields #[.ref a,.int i 0,.int n 0,.int ep 0] }
noncomputable def Itd (a:Addr) (en:Array DictEntry) (ep:Nat) (vs:List V):It :=
 ⟨λi H=>H a=some (j3 a en ep)/\∃ x,vs[i]?=some x,λi H x H'=>H'=H/\vs[i]?=some x,λi H=>H a=some (j3 a en ep)/\vs.length<=i⟩
theorem qbM {P:Program} {w:World} {K:Frag} {tg:Expr} (a it:Addr) (en:Array DictEntry) (ep:Nat) (vs:List V) (hv:Vals vs (en.toList.map (·.val))) :
  Turn P w K tg (Itd a en ep vs) [it] it (λi h=>h.get? it=some (jeA a i en.size ep)) where
 mem:=by simp
 obj:=λi h st b hb=>by
  have e:b=it:=by simpa using hb
  subst e;exact ⟨_,st,λv z=>by cases z⟩
 keep:=λi h h' st k=>k it (by simp) _ st
 item:=by
  intro X hP hw hK hc i pins s σ H E I hf st hg;subst hP hw hK;obtain ⟨hH,x,hx⟩:=hg;obtain ⟨u,hu,ru⟩:=hv.get hx;rw [wx] at hu;obtain ⟨e,he,rfl⟩:=Option.map_eq_some_iff.mp hu;obtain ⟨f0,f1,f2,f3,f4,f5⟩:=hf it (by simp);refine zbL st (yao I hH) (e:=e) (by rw [<-Array.getElem?_toList];exact he) λh' st' sb=>?_
  have I1:L2.Inv X pins σ H { s with heap:=h' }:=I.turned (t':=s.toks) (λb o hb e=>(sb.2 b hb).trans e) f0 f1 f3 f4 f5;exact ⟨_,rfl,qca (s:={ s with heap:=h' }) st' rfl rfl (by decide) ⟨x,H,I1,ru,⟨rfl,hx⟩,st',λb hb=>(hf b hb).1⟩⟩
 done:=by
  intro X hP hw hK hc i pins s σ H E I hf st hg;subst hP hw hK;obtain ⟨hH,hx⟩:=hg;obtain ⟨f0,f1,f2,f3,f4,f5⟩:=hf it (by simp);have hl:vs.length=en.size:=by rw [hv.length,wC,Array.length_toList]
  exact qbL (I.ok.hd hc) st (yao I hH) (by simp;omega) λh' eb=>⟨rfl,I.turned (t':=s.toks) (λb o hb e=>eb b o hb e) f0 f1 f3 f4 f5⟩
 self:=λ_ i _ _ _ st h=>wpAny_pyIter_valiter (i:=i) (n:=en.size) (ep:=ep) (d:=a) ⟨_,st,rfl,rfl⟩ h
section
variable {X:Cx} {C:Tab} {tg a:Expr} {ca:Code}
theorem ybM:MtR X "dict.values" (λx vs H Q=>∃ (a:Addr) (en:Array DictEntry) (ep:Nat),x=.ref a/\vs=[]/\H a=some (j3 a en ep)/\(a==sysModules)=false/\∀ p,H p=none->Q (.ref p) (upd H p (zc1 p a))):=by
 intro pins s σ H x vs v us Q I rx rv ⟨a,en,ep,e1,e2,ha,hy,q⟩;subst e1;subst e2
 cases rx;cases rv
 have hl:=yao I ha;refine call_meets F.slot_dict_values ⟨_,hl,rfl⟩ F.entry_dict_values (F.args_dict_values_1 _) (jci a en ep hy) ⟨hl,?_⟩;exact ⟨.ref s.heap.objs.size,_,I.laid (t':=s.toks) (o:=zc1 s.heap.objs.size a) (λb ob q=>wj _ q) (wB _) ⟨wt _ rfl,⟨_,wt _ rfl⟩,λ_ _ p k=>k _ p⟩,rfl,q _ I.fresh⟩
theorem qc1 {apos cpos:Pos} (ha:SE X C a ca) (hbase:attributeBase a "values" X.env (eval a X.env)=eval a X.env) (hline:(apos.endLine==cpos.line)=true):SI X C tg (.Call (.Attribute a "values" apos) [] [] cpos) (.vals ca):=λB ρ ds h=>by
 obtain ⟨d,ed,hi⟩:=wa (show (ev C ca ρ).bind zdm=some ds from h);have hd:d=.grp ds:=by cases d<;>cases hi;rfl
 subst hd;intro pins s σ H R I ⟨hb,er,q⟩;refine thn (ycZ F.plainAttrs_dict F.slot_dict_values F.type_dict_values ybM (ha B ρ _ ed) hbase hline pins s σ H (λv H'=>Same H H'/\∃ p b en ep vs,v=.ref p/\H' p=some (zc1 p b)/\¬ B b/\H' b=some (j3 b en ep)/\vs.length<=sizeLine/\Vals vs (en.toList.map (·.val))/\Reps X.K B H' vs ds) I ⟨hb,er,λv H1 s1 r1=>?_⟩) λv s1 ⟨x,H1,I1,r1,sm1,p,b,en,ep,vs,e1,hp,nb,hd,hz,hvs,rs⟩=>?_
 ·cases r1 with
  | @grp b en ep vs ds n e hy hz hv rs =>
   exact ⟨jbL e,b,en,ep,rfl,rfl,e,hy,λp hp=>⟨s1.trans (qa hp _),p,b,en,ep,vs,rfl,ja,n,qa hp _ _ _ e,hz,hv,rs.same (qa hp _)⟩⟩
 ·subst e1;cases r1;have hv:s1.heap.get? p=some (qdM b):=(I1.hok p _ hp).1
  have fp:∀ c∈[s1.heap.objs.size],FpOk X pins H1 c:=λc hc=>by
   have e:c=s1.heap.objs.size:=by simpa using hc
   subst e;exact I1.fpOk (wB _) I1.fresh
  have hb1:=hb.same sm1;refine jbK hv (yao I1 hd) ⟨s1.heap.objs.size,[s1.heap.objs.size],_,Itd b en ep vs,H1,rfl,I1.kept (t':=s1.toks) λc o e=>wj _ e,qbM b _ en ep vs hvs,wt _ rfl,fp,q _ H1 sm1 ?_⟩;refine ⟨by rw [<-rs.length];exact hz,λB' H' f2 hb' sm i d hd'=>?_,λH' sm=>⟨sm _ _ nb hd,by rw [rs.length];exact wB _⟩⟩;obtain ⟨x,ex,rx⟩:=rs.get hd';refine ⟨⟨sm _ _ nb hd,x,ex⟩,λy H'' ⟨e1,e2⟩=>?_⟩;subst e1;rw [ex] at e2;cases e2;exact ⟨Same.refl _,rx.shift hb1 sm f2⟩
end
end Eng
end
section
namespace Eng
open PySem
inductive All2 {α:Type} (R:α->Value->Prop):List α->List Value->Prop
 | nil:All2 R [] []
 | cons {k:α} {v:Value} {ks:List α} {vs:List Value}:R k v->All2 R ks vs->All2 R (k::ks) (v::vs)
section
variable {prog:Program} {w:World} {A:Around} {E:Value->Shared->Prop} {s:Shared} {α:Type} {R:α->Value->Prop} {a b:Addr}
theorem qbc {hsh:α->Int} {dr:α->Nat} {ks:List α} {o:Obj} {items:Array Value} {n:Nat} {Q:Int->Shared->Prop} (hu:A.units<cLine) (ho:s.heap.get? a=some o) (hc:o.cls=.type "tuple") (hd:o.data=.seq items n) (hi:All2 R ks items.toList)
  (hR:∀ k v,R k v->∀ (tk:Nat) (Q:Int->Shared->Prop),Q (hsh k) { s with toks:=tk+dr k }->wpAny (model prog w) A.in1 (pyHash v) Q E { s with toks:=tk })
  (h:Q (reduceHash (Builtin.Tuple.tupleHashOf (ks.map hsh))) { s with toks:=s.toks+((ks.map dr).sum+1) }):wpAny (model prog w) A (pyHash (.ref a)) Q E s:=by
 have hT:s.TypeIs (.ref a) "tuple":=⟨o,ho,hc⟩;unfold pyHash
 first | unfold pyHashByItsType | skip
 first | refine we (wpAny_cRoomFor_or (.inr hu) ?_) | skip
 refine we (wpAny_specialOf hT F.slot_tuple_hash.lookup ?_);show wpAny _ _ (if (some (Value.builtin "tuple.__hash__")==some Value.none)=true then _ else _) Q E s;rw [if_neg (by rw [beq_builtin_none];exact wz)];refine we (wpAny_specialOf hT F.slot_tuple_hash.lookup ?_);show wpAny _ _ (callSpecialIfBoundUnlessNone? (.ref a) "__hash__" _ >>= _) Q E s;refine we (wpAny_callSpecialIfBoundUnlessNone?_slot hT F.slot_tuple_hash (wW F.slot_tuple_hash hT F.entry_tuple_hash ?_ (F.args_tuple_hash_1 _)));show wpAny _ _ (Builtin.Tuple.tupleItemsOf (.ref a) >>= _) _ _ s;refine we (wpAny_tupleItemsOf ho hd ?_);refine we ?_;rw [<-Array.forIn_toList]
 refine wpAny_forIn_list _
  (λrest (b:Array Int) s'=>∃ done left,ks=done++left/\All2 R left rest/\b.toList=done.map hsh/\s'={ s with toks:=s.toks+(done.map dr).sum })
  _ ?_ ?_ _ _ ⟨[],ks,rfl,hi,rfl,rfl⟩
 ·rintro x rest b s' ⟨done,left,rfl,hl,hb,rfl⟩;cases hl with
  | @cons k _ ks' _ h1 hl' =>
   refine we (hR k x h1 _ _ ?_)
   first
    | exact wm ⟨done++[k],ks',by simp,hl',by simp [hb],by simp [Nat.add_assoc]⟩
    | exact we (wm (wm ⟨done++[k],ks',by simp,hl',by simp [hb],by simp [Nat.add_assoc]⟩))
 ·rintro b s' ⟨done,left,rfl,hl,hb,rfl⟩;cases hl;rw [List.append_nil] at h;show wpAny _ _ (retInt (Builtin.Tuple.tupleHashOf b.toList)) _ _ _;rw [hb];refine wpAny_ret_mkInt ?_;show wpAny _ _ (if (decide (-(2:Int)^63<=Builtin.Tuple.tupleHashOf (done.map hsh))&&decide (Builtin.Tuple.tupleHashOf (done.map hsh)<2^63))=true then _ else _) Q E _;unfold reduceHash at h
  by_cases hr:(decide (-(2:Int)^63<=Builtin.Tuple.tupleHashOf (done.map hsh))&&decide (Builtin.Tuple.tupleHashOf (done.map hsh)<2^63))=true
  ·rw [if_pos hr];rw [if_pos hr] at h;exact wm (by simpa [Nat.add_assoc] using h)
  ·rw [if_neg hr];rw [if_neg hr] at h;exact we (wpAny_rule (wm (by simpa [Nat.add_assoc] using h)))
theorem yc1 [DecidableEq α] {x y:List α} {oa ob:Obj} {xs ys:Array Value} {na nb:Nat} {P:Fin->Shared->Prop} (hoa:s.heap.get? a=some oa) (hda:oa.data=.seq xs na) (hia:All2 R x xs.toList) (hob:s.heap.get? b=some ob) (hcb:ob.cls=.type "tuple") (hdb:ob.data=.seq ys nb) (hib:All2 R y ys.toList)
  (hR:∀ p∈List.zip x y,∀ u v,R p.1 u->R p.2 v->∀ Q:Bool->Shared->Prop,Q (decide (p.1=p.2)) s->wpAny (model prog w) A (eqBool u v) Q E s) (h:P (.done (.ret (.bool (decide (x=y))))) s) :
  wpAny (model prog w) A (Builtin.«tuple.__eq__» ⟨[.ref a,.ref b],[]⟩) P E s:=by
 show wpAny _ _ (isInstance (.ref b) (.type "tuple") >>= _) _ _ s;refine we (wpAny_isInstance ⟨ob,hob,hcb⟩ isSubtype_tuple_tuple ?_);simp only [Bool.not_true,wo,if_false];refine we (wpAny_tupleItemsOf hoa hda ?_);refine we (wpAny_tupleItemsOf hob hdb ?_);refine we ?_
 refine wpAny_forIn_list _
  (λrest r s'=>r.1=none/\s'=s/\∃ x' y' xs' ys',rest=List.zip xs' ys'/\All2 R x' xs'/\All2 R y' ys'/\decide (x'=y')=decide (x=y)/\(xs'.length==ys'.length)=(xs.size==ys.size)/\∀ p∈List.zip x' y',p∈List.zip x y)
  _ ?_ ?_ _ _ ⟨rfl,rfl,x,y,xs.toList,ys.toList,rfl,hia,hib,rfl,by simp,λp hp=>hp⟩
 ·rintro ⟨u,v⟩ rest r s' ⟨hr,rfl,x',y',xs',ys',hz,hx',hy',hdec,hlen,hsub⟩;cases hx' with
  | nil=>simp at hz
  | @cons k1 u' x'' xs'' h1 hx'' =>
   cases hy' with
   | nil=>simp at hz
   | @cons k2 v' y'' ys'' h2 hy'' =>
    simp only [List.zip_cons_cons,List.cons.injEq,Prod.mk.injEq] at hz;obtain ⟨⟨rfl,rfl⟩,rfl⟩:=hz;refine we (hR (k1,k2) (hsub _ (by simp)) _ _ h1 h2 _ ?_)
    by_cases hk:k1=k2
    ·subst hk;rw [decide_eq_true rfl];simp only [Bool.not_true,wo,if_false];refine wm ⟨rfl,rfl,x'',y'',xs'',ys'',rfl,hx'',hy'',?_,by simpa using hlen,λp hp=>hsub p (by simp [hp])⟩;rw [<-hdec]
     by_cases hxy:x''=y''
     ·simp [hxy]
     ·simp [hxy]
    ·rw [vk hk];simp only [Bool.not_false,if_true];have hf:decide (x=y)=false:=by rw [<-hdec];simp [hk]
     rw [hf] at h;exact we (wm (wm (wm h)))
 ·rintro ⟨r1,r2⟩ s' ⟨hr,rfl,x',y',xs',ys',hz,hx',hy',hdec,hlen,_⟩;simp only at hr;subst hr;refine wm ?_
  have hfin:(xs.size==ys.size)=decide (x=y):=by
   rw [<-hdec,<-hlen];cases hx' with
   | nil =>
    cases hy' with
    | nil=>simp
    | cons _ _=>simp
   | cons _ _ =>
    cases hy' with
    | nil=>simp
    | cons _ _=>simp at hz
  show P (.done (.ret (.bool (xs.size==ys.size)))) s';rw [hfin];exact h
theorem zcB [DecidableEq α] {x y:List α} {oa ob:Obj} {xs ys:Array Value} {na nb:Nat} {Q:Bool->Shared->Prop} (hu:A.units<cLine) (hoa:s.heap.get? a=some oa) (hca:oa.cls=.type "tuple") (hda:oa.data=.seq xs na) (hia:All2 R x xs.toList) (hob:s.heap.get? b=some ob) (hcb:ob.cls=.type "tuple") (hdb:ob.data=.seq ys nb) (hib:All2 R y ys.toList) (hinj:a=b->x=y)
  (hR:∀ p∈List.zip x y,∀ u v,R p.1 u->R p.2 v->∀ (E:Value->Shared->Prop) (Q:Bool->Shared->Prop),Q (decide (p.1=p.2)) s->wpAny (model prog w) A.in1 (eqBool u v) Q E s) (h:Q (decide (x=y)) s):wpAny (model prog w) A (eqBool (.ref a) (.ref b)) Q E s:=by
 unfold eqBool
 try with_reducible refine wpAny_holding ?_
 show wpAny _ _ (if (Value.ref a==Value.ref b)=true then _ else _) Q E s
 by_cases hab:(Value.ref a==Value.ref b)=true
 ·rw [if_pos hab];have e:a=b:=by have:=eq_of_beq hab;injection this
  rw [decide_eq_true (hinj e)] at h;exact we (wpAny_rule (wm h))
 ·rw [if_neg hab]
  exact we (wpAny_richCompare_same_room (op:=.Eq) ⟨oa,hoa,hca⟩ ⟨ob,hob,hcb⟩ F.slot_tuple_eq
   (wW F.slot_tuple_eq ⟨oa,hoa,hca⟩ F.entry_tuple_eq (yc1 hoa hda hia hob hcb hdb hib (λp hp u v h1 h2 Q q=>hR p hp u v h1 h2 _ Q q) ⟨_,rfl,(λe=>nomatch e),wpAny_truthy_bool h⟩) (F.args_tuple_eq_2 _ _)) hu)
theorem jad {o:Obj} {items:Array Value} {n m:Nat} {Q:Bool->Shared->Prop} (ho:s.heap.get? a=some o) (hc:o.cls=.type "tuple") (hd:o.data=.seq items n)
  (hR:∀ v∈items.toList,∀ Q:Bool->Shared->Prop,Q true s->wpAny (model prog w) A (eqIsQuiet m v) Q E s) (h:Q true s):wpAny (model prog w) A (eqIsQuiet (m+1) (.ref a)) Q E s:=by
 have hT:s.TypeIs (.ref a) "tuple":=⟨o,ho,hc⟩;unfold eqIsQuiet;refine we (wpAny_specialOf hT F.slot_tuple_eq.lookup ?_);show wpAny _ _ (isInstance (.ref a) (.type "tuple") >>= _) _ _ s;refine we (wpAny_isInstance hT isSubtype_tuple_tuple ?_);simp only [Bool.not_true,wo,if_false];refine we (wpAny_seqItems ho hd ?_);refine we ?_;show wpAny _ _ (forIn items _ _) _ _ s;rw [<-Array.forIn_toList];refine wpAny_forIn_list _ (λrest r s'=>r.1=none/\s'=s/\∀ v∈rest,v∈items.toList) _ ?_ ?_ _ _ ⟨rfl,rfl,λv hv=>hv⟩
 ·rintro v rest r s' ⟨hr,rfl,hall⟩;refine we (hR v (hall v wN) _ ?_);simp only [Bool.not_true,wo,if_false];exact wm ⟨rfl,rfl,λu hu'=>hall u (wH _ hu')⟩
 ·rintro ⟨r1,r2⟩ s' ⟨hr,rfl,_⟩;simp only at hr;subst hr;exact wm h
end
section
variable {prog:Program} {w:World} {A:Around} {E:Value->Shared->Prop} {s:Shared}
def RTI (prog:Program) (w:World) (h:Heap) (ns:List Int) (v:Value):Prop:=∃ b,v=.ref b/\IsTupleKey (intKind prog w) h ns b
def TT (prog:Program) (w:World) (h:Heap) (L:List (List Int)) (a:Addr):Prop:=∃ o items n,h.get? a=some o/\o.cls=.type "tuple"/\o.data=.seq items n/\All2 (RTI prog w h) L items.toList
theorem All2.inj {α:Type} {R:α->Value->Prop} (hR:∀ x y v,R x v->R y v->x=y):∀ {x y:List α} {vs:List Value},All2 R x vs->All2 R y vs->x=y
 | _,_,_,.nil,h=>by cases h;rfl
 | _,_,_,.cons h1 t1,h=>by
  cases h with
  | cons h2 t2=>rw [hR _ _ _ h1 h2,All2.inj hR t1 t2]
theorem All2.imp {α:Type} {R R':α->Value->Prop} (hR:∀ x v,R x v->R' x v):∀ {x:List α} {vs:List Value},All2 R x vs->All2 R' x vs
 | _,_,.nil=>.nil
 | _,_,.cons h t=>.cons (hR _ _ h) (All2.imp hR t)
theorem RTI.inj {h:Heap} {x y:List Int} {v:Value} (h1:RTI prog w h x v) (h2:RTI prog w h y v):x=y:=by
 obtain ⟨b,rfl,k1⟩:=h1;obtain ⟨b',e,k2⟩:=h2;cases e;exact k1.inj k2
theorem TT.inj {h:Heap} {x y:List (List Int)} {a:Addr} (h1:TT prog w h x a) (h2:TT prog w h y a):x=y:=by
 obtain ⟨o,items,n,ho,_,hd,hi⟩:=h1;obtain ⟨o',items',n',ho',_,hd',hi'⟩:=h2;obtain rfl:o=o':=wA (ho.symm.trans ho');rw [hd] at hd';injection hd' with h1 _
 subst h1;exact All2.inj (R:=RTI prog w h) (λ_ _ _ a b=>RTI.inj a b) hi hi'
theorem RTI.keeps {h h':Heap} {ns:List Int} {v:Value} {d:Addr} {o:Obj} {es:Array DictEntry} {ep:Nat} (x:RTI prog w h ns v) (ho:h.get? d=some o) (hd:o.data=.dict es ep) (hs:Heap.SameBut d h h'):RTI prog w h' ns v:=let ⟨b,e,k⟩:=x;⟨b,e,k.keeps ho hd hs⟩
theorem TT.keeps {h h':Heap} {L:List (List Int)} {a d:Addr} {o:Obj} {es:Array DictEntry} {ep:Nat} (x:TT prog w h L a) (ho:h.get? d=some o) (hd:o.data=.dict es ep) (hs:Heap.SameBut d h h'):TT prog w h' L a:=by
 obtain ⟨o',items,n,ho',hc,hd',hi⟩:=x
 have hne:a≠d:=by
  rintro rfl;obtain rfl:o'=o:=wA (ho'.symm.trans ho);rw [hd] at hd';exact nomatch hd'
 exact ⟨o',items,n,(hs.2 a hne).trans ho',hc,hd',hi.imp λ_ _ z=>z.keeps ho hd hs⟩
theorem TT.hash {L:List (List Int)} {a:Addr} {Q:Int->Shared->Prop} (hu:A.units+1<cLine) (hk:TT prog w s.heap L a) (h:Q (reduceHash (Builtin.Tuple.tupleHashOf (L.map (tupleKeyHash (intKind prog w))))) { s with toks:=s.toks+((L.map λns=>ns.length+1).sum+1) }):wpAny (model prog w) A (pyHash (.ref a)) Q E s:=by
 obtain ⟨o,items,n,ho,hc,hd,hi⟩:=hk;refine qbc (dr:=λns=>ns.length+1) (by omega) ho hc hd hi (λns v ⟨b,e,k⟩ tk Q q=>?_) h;subst e;exact wpAny_pyHash_tuple (s:={ s with toks:=tk }) (show A.in1.units<cLine from hu) k q
theorem TT.eq {x y:List (List Int)} {a b:Addr} {Q:Bool->Shared->Prop} (hu:A.units+1<cLine) (hx:TT prog w s.heap x a) (hy:TT prog w s.heap y b) (h:Q (decide (x=y)) s):wpAny (model prog w) A (eqBool (.ref a) (.ref b)) Q E s:=by
 have hinj:a=b->x=y:=λe=>by subst e;exact hx.inj hy
 obtain ⟨o,items,n,ho,hc,hd,hi⟩:=hx;obtain ⟨o',items',n',ho',hc',hd',hi'⟩:=hy;refine zcB (by omega) ho hc hd hi ho' hc' hd' hi' hinj (λp _ u v ⟨b1,e1,k1⟩ ⟨b2,e2,k2⟩ E Q q=>?_) h;subst e1;subst e2
 exact wpAny_eqBool_tuple (show A.in1.units<cLine from hu) k1 k2 q
theorem ybc {ns:List Int} {a:Addr} {m:Nat} {Q:Bool->Shared->Prop} (hk:IsTupleKey (intKind prog w) s.heap ns a) (h:Q true s):wpAny (model prog w) A (eqIsQuiet (m+1) (.ref a)) Q E s:=by
 obtain ⟨o,items,n,ho,hc,hd,hi⟩:=hk;refine jad ho hc hd (λv hv Q q=>?_) h;rw [eqIsQuiet_byValue _ (hi.byValue v hv)];exact wm q
theorem All2.mem {α:Type} {R:α->Value->Prop}:∀ {ks:List α} {vs:List Value},All2 R ks vs->∀ v∈vs,∃ k,R k v
 | _,_,.nil,v,h=>by cases h
 | _,_,.cons h t,v,hv=>by
  rcases wu.mp hv with e | e
  ·exact ⟨_,e▸h⟩
  ·exact All2.mem t v e
theorem zcj {L:List (List Int)} {a:Addr} {m:Nat} {Q:Bool->Shared->Prop} (hk:TT prog w s.heap L a) (h:Q true s):wpAny (model prog w) A (eqIsQuiet (m+2) (.ref a)) Q E s:=by
 obtain ⟨o,items,n,ho,hc,hd,hi⟩:=hk;refine jad (m:=m+1) ho hc hd (λv hv Q q=>?_) h;obtain ⟨ns,b,rfl,k⟩:=hi.mem v hv;exact ybc k q
noncomputable abbrev zbw:=List Int×List (List Int)
inductive PT where
 | rows (ns:List Int) | left (L:List (List Int))
deriving DecidableEq
def RPT (prog:Program) (w:World) (h:Heap):PT->Value->Prop
 | .rows ns,v=>RTI prog w h ns v
 | .left L,v=>∃ b,v=.ref b/\TT prog w h L b
def PK (prog:Program) (w:World) (h:Heap) (k:zbw) (a:Addr):Prop:=∃ o items n,h.get? a=some o/\o.cls=.type "tuple"/\o.data=.seq items n/\All2 (RPT prog w h) [.rows k.1,.left k.2] items.toList
noncomputable def ydM (prog:Program) (w:World):PT->Int
 | .rows ns=>tupleKeyHash (intKind prog w) ns
 | .left L=>reduceHash (Builtin.Tuple.tupleHashOf (L.map (tupleKeyHash (intKind prog w))))
noncomputable def jem:PT->Nat
 | .rows ns=>ns.length+1
 | .left L=>(L.map λns=>ns.length+1).sum+1
theorem PK.inj {h:Heap} {x y:zbw} {a:Addr} (h1:PK prog w h x a) (h2:PK prog w h y a):x=y:=by
 obtain ⟨o,items,n,ho,_,hd,hi⟩:=h1;obtain ⟨o',items',n',ho',_,hd',hi'⟩:=h2;obtain rfl:o=o':=wA (ho.symm.trans ho');rw [hd] at hd';injection hd' with h1 _
 subst h1;obtain ⟨x1,x2⟩:=x;obtain ⟨y1,y2⟩:=y;generalize items.toList=l at hi hi';cases hi with
 | cons a1 t1 =>
  cases hi' with
  | cons a2 t2 =>
   cases t1 with
   | cons b1 _ =>
    cases t2 with
    | cons b2 _ =>
     obtain ⟨b,rfl,k1⟩:=b1;obtain ⟨b',e,k2⟩:=b2;cases e;exact Prod.ext (RTI.inj a1 a2) (k1.inj k2)
theorem PK.keeps {h h':Heap} {k:zbw} {a d:Addr} {o:Obj} {es:Array DictEntry} {ep:Nat} (x:PK prog w h k a) (ho:h.get? d=some o) (hd:o.data=.dict es ep) (hs:Heap.SameBut d h h'):PK prog w h' k a:=by
 obtain ⟨o',items,n,ho',hc,hd',hi⟩:=x
 have hne:a≠d:=by
  rintro rfl;obtain rfl:o'=o:=wA (ho'.symm.trans ho);rw [hd] at hd';exact nomatch hd'
 refine ⟨o',items,n,(hs.2 a hne).trans ho',hc,hd',hi.imp λp v z=>?_⟩;cases p with
 | rows ns=>exact RTI.keeps z ho hd hs
 | left L=>exact let ⟨b,e,k⟩:=z;⟨b,e,k.keeps ho hd hs⟩
noncomputable def qaZ (prog:Program) (w:World):HeapKind prog w zbw where
 is:=PK prog w
 hash:=λk=>reduceHash (Builtin.Tuple.tupleHashOf [tupleKeyHash (intKind prog w) k.1,reduceHash (Builtin.Tuple.tupleHashOf (k.2.map (tupleKeyHash (intKind prog w))))])
 draws:=λk=>((([.rows k.1,.left k.2]:List PT).map jem).sum+1)
 room:=λA=>A.units+2<cLine
 inj:=λhx hy=>hx.inj hy
 keeps:=λx ho hd hs=>x.keeps ho hd hs
 pyHash:=λ{A E s k a Q} hu hk h=>by
  obtain ⟨o,items,n,ho,hc,hd,hi⟩:=hk
  refine qbc (hsh:=ydM prog w) (dr:=jem) (by omega) ho hc hd hi (λp v z tk Q q=>?_) h
  cases p with
  | rows ns =>
   obtain ⟨b,rfl,k⟩:=z
   exact wpAny_pyHash_tuple (s:={ s with toks:=tk }) (show A.units+1<cLine by omega) k q
  | left L =>
   obtain ⟨b,rfl,k⟩:=z
   exact TT.hash (s:={ s with toks:=tk }) (show A.units+1+1<cLine from hu) k q
 eqBool:=λ{A E s x y a b Q} hu hx hy h=>by
  have hinj:a=b->([.rows x.1,.left x.2]:List PT)=[.rows y.1,.left y.2]:=λe=>by subst e;rw [hx.inj hy]
  obtain ⟨o,items,n,ho,hc,hd,hi⟩:=hx
  obtain ⟨o',items',n',ho',hc',hd',hi'⟩:=hy
  have e:decide (([.rows x.1,.left x.2]:List PT)=[.rows y.1,.left y.2])=decide (x=y):=by
   rw [decide_eq_decide]
   obtain ⟨x1,x2⟩:=x
   obtain ⟨y1,y2⟩:=y
   simp
  refine zcB (by omega) ho hc hd hi ho' hc' hd' hi' hinj (λp hp u v z1 z2 E Q q=>?_) (by rw [e];exact h)
  rcases wu.mp hp with rfl | hp
  ·obtain ⟨b1,rfl,k1⟩:=z1
   obtain ⟨b2,rfl,k2⟩:=z2
   refine wpAny_eqBool_tuple (show A.units+1<cLine by omega) k1 k2 ?_
   have e2:decide ((PT.rows x.1)=PT.rows y.1)=decide (x.1=y.1):=by rw [decide_eq_decide];simp
   rw [<-e2];exact q
  ·rcases wu.mp hp with rfl | hp
   ·obtain ⟨b1,rfl,k1⟩:=z1
    obtain ⟨b2,rfl,k2⟩:=z2
    refine TT.eq (show A.units+1+1<cLine from hu) k1 k2 ?_
    have e2:decide ((PT.left x.2)=PT.left y.2)=decide (x.2=y.2):=by rw [decide_eq_decide];simp
    rw [<-e2];exact q
   ·cases hp
 quiet:=λ{A E s k a Q} hk h=>by
  obtain ⟨o,items,n,ho,hc,hd,hi⟩:=hk
  refine jad (m:=7) ho hc hd (λv hv Q q=>?_) h
  obtain ⟨p,z⟩:=hi.mem v hv
  cases p with
  | rows ns=>obtain ⟨b,rfl,k⟩:=z;exact ybc (m:=6) k q
  | left L=>obtain ⟨b,rfl,k⟩:=z;exact zcj (m:=5) k q
end
end Eng
end
section
namespace Eng
open PySem
open PySem.AutoSeq1 (wpAny_loadPart')
open PySem.MeetsSeq PySem.MeetsSeq2 PySem.MeetsSeq3 PySem.SeqRoads2 PySem.SeqAt
theorem jay (l:Addr) (items:Array Value) (n:Nat) (dd:Option Addr) (sl:Array (Option Value)) (x:Value) (e:Value->Bool) (j:Nat) (hj:j<items.size) (hit:e items[j]=true) (hno:∀ m (hm:m<items.size),m<j->e items[m]=false) :
  Meets (Builtin.«tuple.index» ⟨[.ref l,x],[]⟩)
   (λA R s=>s.heap.get? l=some { cls:=.type "tuple",dict:=dd,data:=.seq items n,slots:=sl }/\(∀ y,y∈items->EqAt A.in1 s y x (e y))/\R (.ok (.ret (.int j s.toks))) { s with toks:=s.toks+1 }) :=
 .of_wp λprog w A R s h=>by
  obtain ⟨hp,g,d,tk,os⟩:=s;obtain ⟨hl,he,h⟩:=h
  wp_walk using wpAny_loadPart' hl
  show wpAny (model prog w) A.in1 (forIn [:min items.size items.size] ((none,()):Option PySem.Fin×Unit) λ(i:Nat) __s=>match items[i]? with
   | some y => do
    let __do_lift <-eqBool y x
    if __do_lift = true then do
     let __do_lift <-retInt (i:Int)
     pure (ForInStep.done (some __do_lift,()))
    else pure (ForInStep.yield (none,()))
   | x=>pure (ForInStep.yield (none,()))) _ _ _
  rw [Std.Legacy.Range.forIn_eq_forIn_range'];simp only [Std.Legacy.Range.size,Nat.sub_zero,Nat.add_sub_cancel,Nat.div_one,Nat.min_self];refine wpAny_forIn_list _ (λrest b s'=>s'=⟨hp,g,d,tk,os⟩/\b.1=none/\∃ i,i<=j/\rest=List.range' i (items.size-i)) _ ?_ ?_ _ _ ⟨rfl,rfl,0,Nat.zero_le _,by simp⟩
  ·rintro y rest b s' ⟨rfl,hb,i,hi,hrest⟩;have hlt:i<items.size:=by omega
   rw [show items.size-i=(items.size-(i+1))+1 by omega,List.range'_succ] at hrest;injection hrest with e1 e2
   subst e1;have hy:items[y]?=some items[y]:=by simp [hlt]
   rw [hy];refine we (he items[y] (Array.getElem_mem hlt) prog w _ _ ?_)
   by_cases ej:y=j
   ·subst ej;rw [hit]
    wp_walk
    exact ⟨_,rfl,h⟩
   ·rw [hno y hlt (by omega)]
    wp_walk
    exact ⟨rfl,rfl,y+1,by omega,e2⟩
  ·rintro b s' ⟨rfl,hb,i,hi,hrest⟩
   have:=congrArg List.length hrest
   simp at this;omega
end Eng
end
section
namespace Eng
open PySem PySem.Spec PyProof.Rows L2
variable [Tb]
theorem len_sub {α:Type} [DecidableEq α]:∀ {l m:List α},l.Nodup->(∀ x∈l,x∈m)->l.length<=m.length
 | [],_,_,_=>Nat.zero_le _
 | a::l,m,n,h=>by
  rw [List.nodup_cons] at n;have ha:=h a wN
  have:=len_sub (l:=l) (m:=m.erase a) n.2 λx hx=>(List.mem_erase_of_ne (λz:x=a=>n.1 (z▸hx))).mpr (h x (wH _ hx))
  rw [List.length_erase_of_mem ha] at this
  have:=List.length_pos_of_mem ha
  rw [List.length_cons];omega
theorem jbc {H:Hp} {a:Addr} {o:HO} (h:H a=some o):upd H a o=H:=by
 funext b;unfold upd;split
 ·rename_i e;rw [e,h]
 ·rfl
section
variable {X:Cx} {pins:List (Addr×Obj)} {σ:L2.St} {H:Hp} {s:Shared}
theorem zae:∀ {ls:List Addr} {us:List Value},Vals (ls.map V.ref) us->us=ls.map Value.ref
 | [],_,r=>by cases r;rfl
 | _::_,_,r=>by
  cases r with
  | cons a b=>cases a;rw [zae b];rfl
theorem jbM (I:L2.Inv X pins σ H s):∀ {ls:List Addr} {L:List (List Int)},Paired (λ(a:Addr) (ns:List Int)=>H a=some (.tup (ns.map V.int))) ls L->All2 (RTI X.prog X.w s.heap) L (ls.map Value.ref)
 | _,_,.nil=>.nil
 | _,_,.cons h t=>.cons ⟨_,rfl,zbc I h⟩ (jbM I t)
theorem zbN {k:zbw} {b:Addr} (I:L2.Inv X pins σ H s) (h:KeyM H k b):PK X.prog X.w s.heap k b:=by
 obtain ⟨r,l,ls,h1,h2,h3,h4⟩:=h;obtain ⟨_,its,rv,ob,e,hc,hd,n,dt⟩:=I.hok b _ h1;obtain ⟨_,its2,rv2,ob2,e2,hc2,hd2,n2,dt2⟩:=I.hok l _ h3;have ei:its=[.ref r,.ref l]:=zae (ls:=[r,l]) rv;have ei2:=zae rv2;subst ei;subst ei2
 exact ⟨ob,_,n,e,hc,dt,.cons ⟨r,rfl,zbc I h2⟩ (.cons ⟨l,rfl,ob2,_,n2,e2,hc2,dt2,by simpa using jbM I h4⟩ .nil)⟩
noncomputable def conM (x:zbw×Addr):zbw×Addr×Value:=(x.1,x.2,.bool true)
theorem zbd (xs:List (zbw×Addr)):xs.map ydZ=(xs.map conM).map (entryOfKey (qaZ X.prog X.w)):=by rw [wJ];rfl
theorem jdM {a:Addr} {m:MemP} (I:L2.Inv X pins σ H s) (h:H a=some (.mm m)):(a==sysModules)=false/\∃ xs:List (zbw×Addr),(∀ x∈xs,m.p x.1.1 x.1.2=true/\KeyM H x.1 x.2)/\(xs.map (·.1)).Nodup/\xs.length<=sizeLine/\s.heap.DictOfH (qaZ X.prog X.w) a (xs.map conM):=by
 obtain ⟨y,xs,q,n,ep,e⟩:=I.hok a _ h;refine ⟨y,xs,q,n,?_,_,_,ep,e,⟨rfl,rfl,rfl⟩,rfl,by rw [List.toList_toArray];exact zbd xs,λx hx=>?_,by rw [wJ];exact n⟩
 ·have:=len_sub n (m:=m.U) λx hx=>by
   obtain ⟨z,hz,rfl⟩:=wG.mp hx;exact m.hU _ _ (q z hz).1
  rw [wC] at this;exact wQ this m.hl
 ·obtain ⟨z,hz,rfl⟩:=wG.mp hx;exact zbN I (q z hz).2
theorem jc1 {xs:List (zbw×Addr)} {k:zbw}:(atKey (xs.map conM) k).isSome=true->∃ x∈xs,x.1=k:=λh=>by
 unfold atKey at h;rw [Option.isSome_map] at h;obtain ⟨z,hz⟩:=w6.mp h;obtain ⟨x,hx,rfl⟩:=wG.mp (List.mem_of_find?_eq_some hz);have z:=List.find?_some hz;exact ⟨x,hx,ve z⟩
def rInM:R2:=λx y H Q=>∃ b a m k,x=.ref b/\y=.ref a/\H a=some (.mm m)/\KeyM H k b/\∀ v:Bool,(v=true->m.p k.1 k.2=true)->Q (.bl v) H
theorem zdN (hu:X.A.units+64<cLine):OpR X (compareOp .In) rInM:=by
 intro pins s σ H x y v u Q I rx ry ⟨b,a,m,k,e1,e2,hm,hk,q⟩;subst e1;subst e2
 cases rx;cases ry
 obtain ⟨hy,xs,hq,_,_,hd⟩:=jdM I hm;refine wpAny_in_heap (show X.A.units+1+2<cLine by omega) (zbN I hk) hy hd ⟨.bl _,H,I.tok _,rfl,q _ λz=>?_⟩;obtain ⟨x,hx,rfl⟩:=jc1 z;exact (hq x hx).1
def rSetM:V->V->V->Hp->(Hp->Prop)->Prop:=λo i v H Q=>∃ a b m k,o=.ref a/\i=.ref b/\v=.bl true/\H a=some (.mm m)/\KeyM H k b/\m.p k.1 k.2=true/\Q H
theorem zc2 (hu:X.A.units+64<cLine):jd3 X rSetM:=by
 intro pins s σ H o i v ov iv u Q I ro ri rv ⟨a,b,m,k,e1,e2,e3,hm,hk,hp,q⟩;subst e1;subst e2;subst e3
 cases ro;cases ri;cases rv
 obtain ⟨hy,xs,hq,hn,hz,hd⟩:=jdM I hm;refine wpAny_setItem_heap (show X.A.units+1+2<cLine by omega) (zbN I hk) hd (λh' hd' sb=>?_) (by rw [wC];exact hz);obtain ⟨o',es,ep,e,⟨c1,c2,c3⟩,dt,he,_,hn'⟩:=hd'
 have new:∃ ys:List (zbw×Addr),(∀ x∈ys,m.p x.1.1 x.1.2=true/\KeyM H x.1 x.2)/\storedH (xs.map conM) k b (.bool true)=ys.map conM:=by
  cases z:atKey (xs.map conM) k with
  | some p =>
   refine ⟨xs,hq,?_⟩;rw [storedH_old z,wJ];refine vf λx _=>?_
   show putAt k (.bool true) (conM x)=conM x;unfold putAt conM;split<;>rfl
  | none =>
   refine ⟨xs++[(k,b)],λx hx=>?_,by rw [storedH_new z,List.map_append];rfl⟩;rcases List.mem_append.mp hx with hx | hx
   ·exact hq x hx
   ·have:x=(k,b):=by simpa using hx
    subst this;exact ⟨hp,hk⟩
 obtain ⟨ys,hy1,hy2⟩:=new;rw [hy2] at he hn'
 have ho:h'.get? a=some { cls:=.type "dict",data:=.dict (ys.map ydZ).toArray ep }:=by
  rw [e];obtain ⟨cl,di,da,sl⟩:=o';simp only at c1 c2 c3 dt;subst c1;subst c2;subst c3;subst dt
  have:es=(ys.map ydZ).toArray:=by
   rw [zbd (X:=X),<-he]
  rw [this]
 have I' := I.write (x := a) (e := a) (o := .mm m) (t' := s.toks + (qaZ X.prog X.w).draws k) (h' := h') (by rw [hm]; exact trivial) (.inl rfl) (λc u hc e => (sb.2 c hc).trans e) ⟨_, ho⟩
  ⟨hy,ys,λx hx=>⟨(hy1 x hx).1,by rw [jbc hm];exact (hy1 x hx).2⟩,by rw [wJ] at hn';exact hn',ep,ho⟩
 rw [jbc hm] at I';exact ⟨H,I',q⟩
theorem qc2 (m:MemP) {pos:Pos}:PE X (.Dict [] [] pos) (λ_ H Q=>∀ p,H p=none->(p==sysModules)=false->Q (.ref p) (upd H p (.mm m))):=λpins s σ H Q I h =>
 have hy:=wY.mpr (Nat.ne_of_gt (jcA I))
 wpAny_Dict_empty ⟨.ref s.heap.objs.size,_,I.laid (a:=s.heap.objs.size) (o:=.mm m) (t':=s.toks) (λ_ _ q=>wj _ q) (wB _) ⟨hy,[],λx hx=>(List.not_mem_nil hx).elim,List.nodup_nil,0,wt _ rfl⟩,rfl,
  h _ (I.hok.fresh (wB _)) hy⟩
end
section
variable {K:Frag} {B:Addr->Prop} {H:Hp}
theorem Reps.set:∀ {vs:List V} {ds:List D} {v:V} {d:D} (j:Nat),Reps K B H vs ds->Rep K B H v d->Reps K B H (vs.set j v) (ds.set j d)
 | _,_,_,_,_,.nil,_=>.nil
 | _,_,_,_,0,.cons _ r,x=>.cons x r
 | _,_,_,_,j+1,.cons a r,x=>.cons a (Reps.set j r x)
theorem Reps.tups:∀ {vs:List V} {ds:List D} {L:List (List Int)},Reps K B H vs ds->qO ds=some L->∃ ls:List Addr,vs=ls.map V.ref/\Paired (λ(a:Addr) (ns:List Int)=>H a=some (.tup (ns.map V.int))) ls L
 | _,_,_,.nil,e=>by cases e;exact ⟨[],rfl,.nil⟩
 | _,_,_,.cons (d:=d) a r,e=>by
  cases d with
  | tup xs =>
   obtain ⟨ns,e1,e⟩:=wa (show (intsOf xs).bind _=some _ from e);obtain ⟨L,e2,rfl⟩:=wb e;obtain ⟨ls,rfl,p⟩:=Reps.tups r e2;obtain ⟨b,bs,rfl,hb,rb⟩:=a.tupD;have eb:=rb.ints e1;subst eb;exact ⟨b::ls,rfl,.cons hb p⟩
  | _=>cases e
theorem qcB {b:Addr} {r l:V} {x y:D} {k:List Int×List (List Int)} (h:H b=some (.tup [r,l])) (rx:Rep K B H r x) (ry:Rep K B H l y) (e:qdm x y=some k):KeyM H k b:=by
 cases x with
 | tup xs =>
  cases y with
  | tup ys =>
   obtain ⟨ns,e1,e⟩:=wa (show (intsOf xs).bind _=some k from e);obtain ⟨L,e2,rfl⟩:=wb e;obtain ⟨a,as,rfl,ha,ra⟩:=rx.tupD;obtain ⟨c,cs,rfl,hc,rc⟩:=ry.tupD;have ea:=ra.ints e1;subst ea;obtain ⟨ls,rfl,p⟩:=rc.tups e2;exact ⟨a,c,ls,h,ha,hc,p⟩
  | _=>cases e
 | _=>cases e
end
section
variable {X:Cx} {C:Tab}
theorem qbd {K:Frag} {B O:Addr->Prop} {H0 H:Hp} {σ:L2.St} {ρ:List Sl} {i:Nat} {m:MemP} (F:FR K B H0 O σ H ρ) (h:zdl ρ i=some m):∃ a,σ[i]?=some (some (.ref a))/\H a=some (.mm m):=by
 unfold zdl at h;split at h
 ·rename_i p hp;cases h;obtain ⟨v,q,r⟩:=F.pu i _ hp;cases r with
  | mem e=>exact ⟨_,q,e⟩
 ·cases h
theorem ycB {ea eb:Expr} {ca cb:Code} {kt:Nat} {tp:Pos} {ρ:En} {dx dy:D} (ha:SE X C ea ca) (hb:SE X C eb cb) (sa:starEach [ea,eb] X.env=(false,eval ea X.env)::starEach [eb] X.env) (sb:starEach [eb] X.env=[(false,eval eb X.env)]) (ex:ev C ca ρ=some dx) (ey:ev C cb ρ=some dy) (B:Addr->Prop):PE X (.Tuple [ea,eb] kt tp) (tD X.K B ρ (.tup [dx,dy])) :=
 jcz (yi ha (yi hb jq sb) sa) B ρ _ (by
  show (evs C (.cons ca (.cons cb .nil)) ρ).bind _=_;rw [evs,ex,wd,evs,ey];show (if [dx,dy].length<=sizeLine then some (D.tup [dx,dy]) else none)=_;exact if_pos (show 2<=sizeLine by rw [sizeLine_eq];decide))
theorem yc2 {i:Nat} {x:Str} {ea eb:Expr} {ca cb:Code} {kt kf:Nat} {tp px cp rp fp ip:Pos} {sts:List Stmt} {r:Stms} (hu:X.A.units+64<cLine) (hN:X.N[i]?=some x) (hv:Vis X.env.scope x) (hd:(x==("__debug__":Str))=false) (hcd:(x==("__classdict__":Str))=false)
  (ha:SE X C ea ca) (hb:SE X C eb cb) (sa:starEach [ea,eb] X.env=(false,eval ea X.env)::starEach [eb] X.env) (sb:starEach [eb] X.env=[(false,eval eb X.env)]) (h:SSs X C sts r) :
  SSs X C (.If (.Compare (.Tuple [ea,eb] kt tp) [.In] [.Name x px] cp) [.Return (some (.Constant (.bool false) kf fp)) rp] [] ip::sts) (.mgd i ca cb r):=λB H0 O ρ f he=>by
 obtain ⟨dx,ex,he⟩:=wa (show (ev C ca (vP ρ)).bind _=some f from he);obtain ⟨dy,ey,he⟩:=wa he;obtain ⟨k,hk,he⟩:=wa he;obtain ⟨m,hm,he⟩:=wa he;obtain ⟨f',hf,he⟩:=wa he
 have ff:f'=f/\(m.p k.1 k.2=true->f=.rt (.bl false)):=by
  cases hp:m.p k.1 k.2 with
  | false=>rw [hp] at he;exact ⟨wA he,λz=>by cases z⟩
  | true =>
   rw [hp,if_pos rfl] at he;split at he
   ·cases he;exact ⟨rfl,λ_=>rfl⟩
   ·cases he
 obtain ⟨rfl,ff⟩:=ff;refine (j0 (ydq (zbz (zdN hu) (ycB (kt:=kt) (tp:=tp) ha hb sa sb ex ey (BO B O)) (zK (pos:=px) hN hv hd hcd) rfl) (ycO (qcw jcN)) pss_nil) h.any).imp λD σ H q=>?_
 obtain ⟨a,hσ,hma⟩:=qbd q.1 hm;refine ⟨q.1.hb,q.1.erP,λv H1 sm rv=>⟨_,hσ,?_⟩⟩;obtain ⟨b,bs,rfl,hb',rb⟩:=rv.tupD;cases rb with
 | cons r1 rb =>
  obtain ⟨l,rfl,r2⟩:=rb.one;refine ⟨b,a,m,k,rfl,rfl,sm _ _ hma,qcB hb' r1 r2 hk,λv hv=>⟨v,rfl,?_⟩⟩;cases v with
  | true =>
   have:=ff (hv rfl)
   subst this;exact zcS (q.2 _ H1 (q.1.same.trans sm) (.bl false))
  | false=>exact jcR ⟨B,H0,O,ρ,f',hf,yz q (Ext.of_same sm) (q.1.grow sm) rfl⟩
theorem ybd {o i e:Expr} {p:Pos} {l:Nat} {env:Env}:swapsWithSole [.Subscript o i p] e l env=pure false:=by cases e<;>rfl
theorem qbN {o i e:Expr} {p:Pos} {env:Env}:swappedStores [.Subscript o i p] e env=pure none:=by cases e<;>rfl
theorem qcj {i:Nat} {x:Str} {ea eb:Expr} {ca cb:Code} {kt kf:Nat} {tp px sp fp ip:Pos} {sts:List Stmt} {r:Stms} (hu:X.A.units+64<cLine) (hN:X.N[i]?=some x) (hv:Vis X.env.scope x) (hd:(x==("__debug__":Str))=false) (hcd:(x==("__classdict__":Str))=false)
  (ha:SE X C ea ca) (hb:SE X C eb cb) (sa:starEach [ea,eb] X.env=(false,eval ea X.env)::starEach [eb] X.env) (sb:starEach [eb] X.env=[(false,eval eb X.env)]) (h:SSs X C sts r) :
  SSs X C (.Assign [.Subscript (.Name x px) (.Tuple [ea,eb] kt tp) sp] (.Constant (.bool true) kf fp) ip::sts) (.mput i ca cb r):=λB H0 O ρ f he=>by
 obtain ⟨dx,ex,he⟩:=wa (show (ev C ca (vP ρ)).bind _=some f from he);obtain ⟨dy,ey,he⟩:=wa he;obtain ⟨k,hk,he⟩:=wa he;obtain ⟨m,hm,he⟩:=wa he;split at he
 case isFalse=>cases he
 rename_i hp;refine (j0 (qbx jcN (ycw (zK (pos:=px) hN hv hd hcd) (ycB (kt:=kt) (tp:=tp) ha hb sa sb ex ey (BO B O)) (zc2 hu)) ybd qbN) h.any).imp λD σ H q=>?_
 obtain ⟨a,hσ,hma⟩:=qbd q.1 hm;refine ⟨_,hσ,q.1.hb,q.1.erP,λv H1 sm rv=>?_⟩;obtain ⟨b,bs,rfl,hb',rb⟩:=rv.tupD;cases rb with
 | cons r1 rb =>
  obtain ⟨l,rfl,r2⟩:=rb.one;exact ⟨a,b,m,k,rfl,rfl,rfl,sm _ _ hma,qcB hb' r1 r2 hk,hp,B,H0,O,ρ,f,he,yz q (Ext.of_same sm) (q.1.grow sm) rfl⟩
theorem jc2 {x:Str} {px dp pos:Pos} {i:Nat} {c:Code} {g:D->MemP} (hN:X.N.Nodup) (hy:X.N[i]?=some x) (hl:Loc X.env.scope x) (hf:X.fn x=true\/X.env.scope.names.lookup x=some .local) (hi:i<X.N.length) :
  SS X C (.Assign [.Name x px] (.Dict [] [] dp) pos) (.newm i c g):=λB H0 O ρ r he=>by
 obtain ⟨d,_,he⟩:=wa (show (ev C c (vP ρ)).bind (λd=>some (Fl.nx (ρ.set i (.pu (.mem (g d))))))=some r from he);cases he;intro pins s σ H D I q;refine qal hN hy hl (qc2 (g d)) (qao rfl _ _ _) hf pins s σ H D I λp hp hs=>?_
 have sm:=qa hp (.mm (g d));exact q.2 O _ _ (Ext.of_same sm) ((q.1.grow sm).set (by rw [I.len];exact hi) (.mem ja)) (by simp)
theorem qdN {i:Nat} {x:Str} {px sp pos:Pos} {ek e:Expr} {ck ce:Code} (hN:X.N[i]?=some x) (hv:Vis X.env.scope x) (hd:(x==("__debug__":Str))=false) (hcd:(x==("__classdict__":Str))=false) (hk:SE X C ek ck) (he:SE X C e ce)
  (hp : ∀ v, assign (.Subscript (.Name x px) ek sp) X.env v = (do
   let ov <-holding [v] (eval (.Name x px) X.env)
   let iv <-holding [v,ov] (eval ek X.env)
   standAt sp
   holding [v,ov,iv] (setItem ov iv v)
   release [v,ov,iv] [])):SS X C (.Assign [.Subscript (.Name x px) ek sp] e pos) (.put i ck ce):=λB H0 O ρ r h=>by
 obtain ⟨d,ed,h⟩:=wa (show (ev C ce (vP ρ)).bind (λd=>(ev C ck (vP ρ)).bind λj=>jdm i j d ρ)=some r from h);obtain ⟨dj,ej,h⟩:=wa h;unfold jdm at h;split at h
 case h_2=>cases h
 rename_i ds j hρ;split at h
 case isFalse=>cases h
 rename_i hj;cases h;refine (qbx (he (BO B O) (vP ρ) d ed) (ycw (zK (pos:=px) hN hv hd hcd) (hk (BO B O) (vP ρ) _ ej) set_list hp) ybd qbN).imp λD σ H q=>?_
 obtain ⟨F,q⟩:=q;obtain ⟨a,vs,hσ,o,ha,rs⟩:=F.ow i ds hρ;refine ⟨F.hb,F.erP,λv H1 sm rv=>⟨_,hσ,F.hb.same sm,F.erP.same sm,λw H2 sm2 rw'=>?_⟩⟩;cases rw';have s12:=sm.trans sm2;obtain ⟨F2,x2⟩:=(F.grow s12).write (es:=ds.set j.toNat d) (ws:=vs.set j.toNat v) hρ hσ ((rs.same s12).set j.toNat (rv.same sm2));refine ⟨a,vs,j,j.toNat,rfl,rfl,s12 _ _ ha,?_,q O σ _ ((Ext.of_same s12).trans x2) F2 rfl⟩
 have:=rs.length
 unfold L2.ixN;rw [if_pos hj.1,if_pos (by omega)]
theorem ybN {i:Nat} {x:Str} {px apos cpos spos:Pos} {e:Expr} {c:Code} {m:Mode} (hm:m≠.pu) (hN:X.N[i]?=some x) (hv:Vis X.env.scope x) (hd:(x==("__debug__":Str))=false) (hcd:(x==("__classdict__":Str))=false)
  (he:SE X C e c) (hs:starEach [e] X.env=[(false,eval e X.env)]) (hline:(apos.endLine==cpos.line)=true):SS X C (.Expr (.Call (.Attribute (.Name x px) "extend" apos) [e] [] cpos) spos) (.ext i m c):=λB H0 O ρ r h=>by
 have h':(ev C c (vA ρ)).bind (λd=>if qel d then qb9 i d ρ else none)=some r:=by
  cases m with
  | pu=>exact absurd rfl hm
  | cl=>exact h
  | ow=>exact h
 obtain ⟨d,ed,h⟩:=wa h';split at h
 case isFalse=>cases h
 rename_i hn;unfold qb9 at h;split at h
 case h_3=>cases h
 case h_2=>cases hn
 rename_i ds es hρ;split at h
 case isFalse=>cases h
 rename_i hz;cases h;have hpa:PA X [e] (tDs X.K B (vA ρ) [.lst es]):=yi he jq hs _ _ _ (by rw [evs,ed];rfl);refine (j9 (jbA F.plainAttrs_list F.slot_list_extend F.type_list_extend yaI (zK (pos:=px) hN hv hd hcd) hpa rfl (by rw [hs];rfl) hline hs rfl)).imp λDn σ H q=>?_
 obtain ⟨F,q⟩:=q;obtain ⟨a,vs,hσ,o,ha,rs⟩:=F.ow i ds hρ;refine ⟨_,hσ,.inl ⟨rfl,_,SqL.of ha⟩,F.hbB,F.erA,λws H1 sm rw'=>?_⟩;obtain ⟨v,rfl,rv⟩:=rw'.one;obtain ⟨b,zs,rfl,nb,hb,rz⟩:=rv.lstD;obtain ⟨F2,x2⟩:=(F.grow sm).write (es:=ds++es) (ws:=vs++zs) hρ hσ ((rs.same sm).append (rz.clean hn));exact ⟨a,b,vs,zs,rfl,rfl,sm _ _ ha,hb,by rw [rs.length,rz.length];exact Nat.le_of_lt hz,q O σ _ ((Ext.of_same sm).trans x2) F2 rfl⟩
end
theorem jbr:∀ S∈subs lowM,S.Nodup:=by decide +kernel
theorem zbs {S:List Nat} {ns ms:List Int} (hS:S∈subs lowM) (hm:∀ x:Nat,x∈S↔(x:Int)∈ns) (h0:∀ n∈ns,0<=n) (p:ms.Perm (S.map Int.ofNat)) (hs:ms.Pairwise (·<=·)):ms=sortI (jat ns):=by
 refine ym (p.trans ((?_:(S.map Int.ofNat).Perm (jat ns)).trans (sortI_perm _).symm)) hs (zq _);refine q9 ?_ (jH _) λx=>?_
 ·exact List.Pairwise.map _ (λa b h e=>h (Int.ofNat.inj e)) (jbr S hS)
 ·rw [mem_dedI,wG];constructor
  ·rintro ⟨n,hn,rfl⟩;exact (hm n).mp hn
  ·intro hx
   have:=h0 x hx
   exact ⟨x.toNat,(hm _).mpr (by rw [Int.toNat_of_nonneg this];exact hx),Int.toNat_of_nonneg this⟩
noncomputable def qdl (w:World) (p:Addr) (S:List Nat):HO:=.ext λh=>∃ L,keys L=S/\jbv h p L (!zk w)
section
variable {X:Cx}
def zen (K:Frag) (w:World):List V->Hp->VK->Prop:=λxs H Q=>∃ t a ns,xs=[.ref a]/\Sq t K H a (ns.map V.int)/\qW ns=true/\∀ p S,H p=none->S∈subs lowM->(∀ x:Nat,x∈S↔(x:Int)∈ns)->Q (.ref p) (upd H p (qdl w p S))
theorem jbd {ns:List Int} (h:qW ns=true):∀ n∈ns,0<=n/\n<lowM:=λn hn=>by
 have:=List.all_eq_true.mp h n hn
 simpa using this
theorem jbN (hc:X.calm=true):qw X (.type "set") (zen X.K X.w):=by
 intro pins s σ H xs us Q I rv ⟨t,a,ns,e,sq,sm,q⟩;subst e;obtain ⟨u,rfl,ru⟩:=rv.one;cases ru;obtain ⟨its,rits,p,hz⟩:=I.sseq sq;have sml:=jbd sm;have hl:=rits.length;rw [wC] at hl
 have val:∀ (i:Nat) (v:Value),its.toArray[i]?=some v->∃ t,v=Value.int (((ns.getD i 0).toNat:Nat):Int) t:=λi v hv=>by
  have hv':its[i]?=some v:=by simpa using hv
  have hi:i<ns.length:=by rw [hl];exact (wq.mp hv').1
  obtain ⟨u,hu,r⟩:=rits.get (i:=i) (x:=V.int ns[i]) (by simp [hi]);rw [hv'] at hu;cases hu
  obtain ⟨tk,rfl⟩:=r;refine ⟨tk,?_⟩;have e1:ns.getD i 0=ns[i]:=by simp [List.getD,hi]
  have:=(sml ns[i] (List.getElem_mem hi)).1
  rw [e1,Int.toNat_of_nonneg this]
 refine yce (I.ok.hd hc) p val (λi hi=>?_) λh' tk L hS hm kp=>?_
 ·have hi:i<ns.length:=by rw [hl];simpa using hi
  have e1:ns.getD i 0=ns[i]:=by simp [List.getD,hi]
  have:=sml ns[i] (List.getElem_mem hi)
  rw [e1];omega
 ·refine ⟨.ref s.heap.objs.size,upd H s.heap.objs.size (qdl X.w s.heap.objs.size (keys L)),I.laid (t':=tk) kp (wB _) ⟨⟨L,rfl,hS⟩,?_,?_⟩,rfl,q _ _ I.fresh hS.1 λx=>?_⟩
  ·obtain ⟨_,ep,ho⟩:=hS;exact ⟨_,ho⟩
  ·rintro h1 h2 ⟨L',e,hk,ep,ho⟩ k;exact ⟨L',e,hk,ep,k _ ho⟩
  ·rw [hm x];constructor
   ·rintro ⟨j,hj,e⟩;have hj:j<ns.length:=by rw [hl];simpa using hj
    have e1:ns.getD j 0=ns[j]:=by simp [List.getD,hj]
    have:=(sml ns[j] (List.getElem_mem hj)).1
    rw [<-e,e1,Int.toNat_of_nonneg this];exact List.getElem_mem hj
   ·intro hx;obtain ⟨j,hj,e⟩:=List.mem_iff_getElem.mp hx;have e1:ns.getD j 0=ns[j]:=by simp [List.getD,hj]
    exact ⟨j,by simpa [<-hl] using hj,by rw [e1,e];rfl⟩
theorem jaj (hc:X.calm=true):qw X (.builtin "sorted") (λxs H Q=>∃ (p:Addr) (S:List Nat),xs=[.ref p]/\H p=some (qdl X.w p S)/\S∈subs lowM/\∀ (l:Addr) (ms:List Int),H l=none->ms.Perm (S.map Int.ofNat)->ms.Pairwise (·<=·)->Q (.ref l) (upd H l (.lst (ms.map V.int)))):=by
 intro pins s σ H xs us Q I rv ⟨p,S,e,hp,hS,q⟩;subst e;obtain ⟨u,rfl,ru⟩:=rv.one;cases ru;obtain ⟨⟨L,rfl,hC⟩,_,_⟩:=(show ObjOk X.prog X.w H s.heap p (qdl X.w p S) from I.hok p _ hp);refine zbr (I.ok.hd hc) hC λh' tk l out ms ep kp hl ho hi hperm hs=>?_
 have hlen:ms.length<=8:=by rw [hperm.length_eq,wC];exact (yab hS true).2.1
 exact ⟨.ref l,upd H l (.lst (ms.map V.int)),I.laid (t':=tk) kp hl ⟨by rw [wC,sizeLine_eq];omega,out,ep,qF hi,ho⟩,rfl,q l ms (I.hok.fresh hl) hperm hs⟩
end
theorem zbO:bootBuiltins "set"=some (.type "set"):=by kernel_rfl
theorem zX:bootBuiltins "sorted"=some (.builtin "sorted"):=by kernel_rfl
theorem qbO:bootBuiltins "len"=some (.builtin "len"):=by kernel_rfl
theorem zT:bootBuiltins "list"=some (.type "list"):=by kernel_rfl
theorem jK:bootBuiltins "range"=some (.type "range"):=by kernel_rfl
section
variable {X:Cx} {C:Tab} {a:Expr} {ca:Code}
theorem zbe {B:Addr->Prop} {H:Hp} {vs:List V} {dx:D} {xs:List D} {ns:List Int} (hb:HB B H) (r:Reps X.K B H vs [dx]) (h1:itemsD dx=some xs) (h2:intsOf xs=some ns):∃ t a,vs=[.ref a]/\Sq t X.K H a (ns.map V.int):=by
 obtain ⟨v,rfl,rv⟩:=r.one;obtain ⟨t,l,ws,rfl,sq,_,rws⟩:=rv.srcT hb h1;exact ⟨t,l,rfl,by rw [<-rws.ints h2];exact sq⟩
theorem ybO {p2 pos2:Pos} (hc:X.calm=true) (hg:Gl X "set") (hm:X.mg "set"=none) (ha:SE X C a ca) (hs:starEach [a] X.env=[(false,eval a X.env)]) {B:Addr->Prop} {ρ:En} {dx:D} (ed:ev C ca ρ=some dx) :
  PE X (.Call (.Name "set" p2) [a] [] pos2) (tCB (zen X.K X.w) (tDs X.K B ρ [dx])) :=
 jm (jbN hc) hg hm zbO (yi ha jq hs B ρ [dx] (by rw [evs,ed];rfl)) (by decide) (by decide) hs rfl
theorem qX {p1 p2 pos1 pos2:Pos} (hc:X.calm=true) (hg:Gl X "set") (hm:X.mg "set"=none) (hg2:Gl X "sorted") (hm2:X.mg "sorted"=none) (ha:SE X C a ca) (hs:starEach [a] X.env=[(false,eval a X.env)]) :
  SF X C (.Call (.Name "sorted" p1) [.Call (.Name "set" p2) [a] [] pos2] [] pos1) (.blt .sortedSet (.cons ca .nil)):=λB ρ ds e=>by
 obtain ⟨dxs,exs',e⟩:=wa (show (evs C (.cons ca .nil) ρ).bind (λxs=>qy .sortedSet xs)=some (D.lst ds) from e);obtain ⟨dx,ex,e1⟩:=wa (show (ev C ca ρ).bind _=some dxs from exs');obtain ⟨dr,er',rfl⟩:=wb e1;cases er';obtain ⟨xs,hxs,e⟩:=wa (show (itemsD dx).bind _=some (D.lst ds) from e);obtain ⟨ns,hns,e⟩:=wa e;split at e
 ·rename_i hsm;cases e;refine (ja6 (jaj hc) hg2 hm2 zX (zF (ybO (p2:=p2) (pos2:=pos2) hc hg hm ha hs ex (B:=B)) zaa) (by decide) (by decide) rfl rfl).imp λσ H Q ⟨hb,er,q⟩=>?_
  refine ⟨hb,er,λvs H1 sm1 r1=>?_⟩;obtain ⟨t,l,rfl,sq⟩:=zbe (hb.same sm1) r1 hxs hns;refine ⟨t,l,ns,rfl,sq,hsm,λp S hp hS hm'=>?_⟩;refine ⟨p,S,rfl,ja,hS,λl' ms hl perm hso=>?_⟩;have e1:ms=sortI (jat ns):=zbs hS hm' (λn hn=>(jbd hsm n hn).1) perm hso;subst e1;have sm2:Same H (upd (upd H1 p (qdl X.w p S)) l' (.lst ((sortI (jat ns)).map V.int))):=(sm1.trans (qa hp _)).trans (qa hl _);have fl:H l'=none:=(sm1.trans (qa hp _)).free hl;exact q _ _ sm2 (.lst (hb.notN fl) ja (Reps.of_ints _)) ⟨l',rfl,fl⟩
 ·cases e
theorem qaM {p1 p2 pos1 pos2:Pos} (hc:X.calm=true) (hg:Gl X "set") (hm:X.mg "set"=none) (hg2:Gl X "sorted") (hm2:X.mg "sorted"=none) (ha:SE X C a ca) (hs:starEach [a] X.env=[(false,eval a X.env)]) :
  SE X C (.Call (.Name "sorted" p1) [.Call (.Name "set" p2) [a] [] pos2] [] pos1) (.blt .sortedSet (.cons ca .nil)):=λB ρ d e=>by
 have:∃ ds,d=.lst ds:=by
  obtain ⟨dxs,exs',e⟩:=wa (show (evs C (.cons ca .nil) ρ).bind (λxs=>qy .sortedSet xs)=some d from e);obtain ⟨dx,ex,e1⟩:=wa (show (ev C ca ρ).bind _=some dxs from exs');obtain ⟨dr,er',rfl⟩:=wb e1;cases er';obtain ⟨xs,hxs,e⟩:=wa (show (itemsD dx).bind _=some d from e);obtain ⟨ns,hns,e⟩:=wa e;split at e
  ·cases e;exact ⟨_,rfl⟩
  ·cases e
 obtain ⟨ds,rfl⟩:=this;exact SF.se (qX hc hg hm hg2 hm2 ha hs) B ρ ds e
def rRng:List V->Hp->VK->Prop:=λxs H Q=>(∃ j:Int,xs=[.int j]/\-(2^62)<=j/\j<2^62/\∀ p,H p=none->Q (.ref p) (upd H p (.rng 0 j))) \/
 (∃ i j:Int,xs=[.int i,.int j]/\(-(2^62)<=i/\i<2^62/\-(2^62)<=j/\j<2^62)/\∀ p,H p=none->Q (.ref p) (upd H p (.rng i j)))
theorem zaz:qw X (.type "range") rRng:=by
 intro pins s σ H xs us Q I rv h;rcases h with ⟨j,e,h1,h2,q⟩ | ⟨i,j,e,⟨h1,h2,h3,h4⟩,q⟩
 ·subst e;obtain ⟨u,rfl,t,rfl⟩:=rv.one;exact call_range_1 ⟨.ref s.heap.objs.size,upd H s.heap.objs.size (.rng 0 j),I.laid (λb o e=>wj _ e) (wB _) ⟨_,_,_,wt _ rfl⟩,rfl,q _ I.fresh⟩
 ·subst e;obtain ⟨u,u2,rfl,⟨t,rfl⟩,⟨t2,rfl⟩⟩:=rv.two;exact call_range_2 ⟨.ref s.heap.objs.size,upd H s.heap.objs.size (.rng i j),I.laid (λb o e=>wj _ e) (wB _) ⟨_,_,_,wt _ rfl⟩,rfl,q _ I.fresh⟩
theorem jo (lo:Int) (n:Nat):yc lo n=((List.range n).map λi=>lo+(i:Nat)).map D.int:=by
 induction n generalizing lo with
 | zero=>rfl
 | succ n ih =>
  rw [yc,ih,List.range_succ_eq_map];simp only [List.map_cons,wJ];congr 1
  ·congr 1;omega
  ·apply vf;intro i _;simp only [Function.comp];congr 1
   push_cast;omega
theorem qT {lo:Int} {acc:Array Value} {n:Nat} (h:ItemsOf (λi v=>∃ t,v=.int (lo+i*1) t) acc n):Vals (((List.range n).map λi=>lo+(i:Nat)).map V.int) acc.toList:=by
 have:∀ (l:List Value) (k:Nat),(∀ j v,l[j]?=some v->∃ t,v=Value.int (lo+((k+j:Nat):Int)) t)->Vals (((List.range' k l.length).map λi=>lo+(i:Nat)).map V.int) l:=by
  intro l
  induction l with
  | nil=>intro k _;exact .nil
  | cons x r ih =>
   intro k hl;rw [List.length_cons,List.range'_succ,List.map_cons,List.map_cons];refine .cons ?_ (ih (k+1) λj v hj=>?_)
   ·obtain ⟨t,e⟩:=hl 0 x rfl;exact ⟨t,by rw [e];rfl⟩
   ·obtain ⟨t,e⟩:=hl (j+1) v (by simpa using hj);exact ⟨t,by rw [e,show k+(j+1)=k+1+j by omega]⟩
 have hsz:acc.toList.length=n:=by simpa using h.1
 have:=this acc.toList 0 λj v hj=>by
  obtain ⟨t,e⟩:=h.2 j v (by simpa using hj);exact ⟨t,by rw [e,Int.mul_one,Nat.zero_add]⟩
 rwa [hsz,<-List.range_eq_range'] at this
theorem yaM (hc:X.calm=true):qw X (.type "list") (λxs H Q=>∃ (p:Addr) (lo hi:Int),xs=[.ref p]/\H p=some (.rng lo hi)/\(-(2^62)<=lo/\lo<2^62/\-(2^62)<=hi/\hi<2^62)/\(hi-lo).toNat<=sizeLine /\
  ∀ l,H l=none->Q (.ref l) (upd H l (.lst (((List.range (hi-lo).toNat).map λi=>lo+(i:Nat)).map V.int)))):=by
 intro pins s σ H xs us Q I rv ⟨p,lo,hi,e,hp,⟨b1,b2,b3,b4⟩,hz,q⟩;subst e;obtain ⟨u,rfl,ru⟩:=rv.one;cases ru;obtain ⟨t,u,v,ho⟩:=(show ObjOk X.prog X.w H s.heap p (.rng lo hi) from I.hok p _ hp);have h16:=sizeLine_eq;refine call_list_range (n:=(hi-lo).toNat) (I.ok.hd hc) ho (small_one b1 b2 b3 b4) (by rw [rangeSize_one];split<;>omega) (by omega) λh' tk acc ep kp ha hit=>?_
 refine ⟨.ref s.heap.objs.size,_,I.laid (o:=.lst (((List.range (hi-lo).toNat).map λi=>lo+(i:Nat)).map V.int)) (t':=tk) kp (wB _) ⟨?_,acc.toList,ep,qT hit,by simpa using ha⟩,rfl,q _ I.fresh⟩
 simp;omega
theorem qap {p1 p2 pos1 pos2:Pos} {e:Expr} {es:List Expr} {cs:Codes} (hc:X.calm=true) (hg:Gl X "range") (hm:X.mg "range"=none) (hg2:Gl X "list") (hm2:X.mg "list"=none) (ha:SA X C (e::es) cs) (hs:starEach (e::es) X.env=(false,eval e X.env)::starEach es X.env)
  (hpl:(backTo pos2 (starEach es X.env)).any (·.1)=false):SF X C (.Call (.Name "list" p1) [.Call (.Name "range" p2) (e::es) [] pos2] [] pos1) (.ofi .list (.rng cs)):=λB ρ ds h=>by
 obtain ⟨ds',hd,h⟩:=wa (show (evI C (.rng cs) ρ).bind (λds=>some (D.lst ds))=some (D.lst ds) from h);cases h;obtain ⟨dx,ex,hd⟩:=wa (show (evs C cs ρ).bind rngD=some ds from hd);have hpe:PE X (.Call (.Name "range" p2) (e::es) [] pos2) (tCB rRng (tDs X.K B ρ dx)):=jm zaz hg hm jK (ha B ρ dx ex) (by decide) (by decide) hs hpl;refine (jm (yaM hc) hg2 hm2 zT (zF hpe zaa) (by decide) (by decide) rfl rfl).imp λσ H Q ⟨hb,er,q⟩=>?_
 refine ⟨hb,er,λvs H1 sm1 r1=>?_⟩
 have fin:∀ (lo hi:Int) (p l:Addr),ds=yc lo (hi-lo).toNat->H1 p=none->(upd H1 p (.rng lo hi)) l=none->Q (.ref l) (upd (upd H1 p (.rng lo hi)) l (.lst (((List.range (hi-lo).toNat).map λi=>lo+(i:Nat)).map V.int))):=λlo hi p l ed hp hl=>by
  have fl:H l=none:=(sm1.trans (qa hp _)).free hl;refine q _ _ ((sm1.trans (qa hp _)).trans (qa hl _)) (.lst (hb.notN fl) ja ?_) ⟨l,rfl,fl⟩;rw [ed,jo];exact Reps.of_ints _
 match dx,hd with
 | [.int j],hd =>
  simp only [rngD] at hd;split at hd
  ·rename_i hcd;cases hd;obtain ⟨v,rfl,rv⟩:=r1.one;cases rv;refine .inl ⟨j,rfl,hcd.1,hcd.2.1,λp hp=>⟨p,0,j,rfl,ja,⟨by omega,by omega,hcd.1,hcd.2.1⟩,by rw [Int.sub_zero];exact hcd.2.2,λl hl=>fin 0 j p l (by rw [Int.sub_zero]) hp hl⟩⟩
  ·cases hd
 | [.int i,.int j],hd =>
  simp only [rngD] at hd;split at hd
  ·rename_i hcd;cases hd;cases r1 with
   | cons ra r =>
    obtain ⟨v2,rfl,rb⟩:=r.one;cases ra;cases rb
    exact .inr ⟨i,j,rfl,⟨hcd.1,hcd.2.1,hcd.2.2.1,hcd.2.2.2.1⟩,λp hp=>⟨p,i,j,rfl,ja,⟨hcd.1,hcd.2.1,hcd.2.2.1,hcd.2.2.2.1⟩,hcd.2.2.2.2,λl hl=>fin i j p l rfl hp hl⟩⟩
  ·cases hd
end
theorem zc3 {bs:List Bool}:(List.range bs.length).map (λi=>bs.getD i false)=bs:=by
 refine List.ext_getElem (by simp) λi h1 h2=>?_
 simp [List.getD,h2]
theorem qbs (ns:List Int):preSum (λi=>ns.getD i 0) ns.length=ns.sum:=by
 have key:∀ j,j<=ns.length->preSum (λi=>ns.getD i 0) j=(ns.take j).sum:=by
  intro j
  induction j with
  | zero=>intro _;rfl
  | succ j ih =>
   intro h;have hj:j<ns.length:=h;rw [preSum,ih (by omega),List.take_succ,List.getElem?_eq_getElem hj,List.sum_append];simp [List.getD,hj]
 rw [key _ (wB _),List.take_length]
section
variable {X:Cx}
theorem ycj {ns:List Int} {its:List Value} (r:Vals (ns.map V.int) its):∀ (i:Nat) (v:Value),its.toArray[i]?=some v->∃ t,v=Value.int (ns.getD i 0) t:=λi v hv=>by
 have hv':its[i]?=some v:=by simpa using hv
 have hi:i<ns.length:=by
  have hl:=r.length;rw [wC] at hl;rw [hl];exact (wq.mp hv').1
 obtain ⟨u,hu,r⟩:=r.get (i:=i) (x:=V.int ns[i]) (by simp [hi]);rw [hv'] at hu;cases hu
 obtain ⟨tk,rfl⟩:=r;exact ⟨tk,by simp [List.getD,hi]⟩
theorem qc3 {bs:List Bool} {its:List Value} (r:Vals (bs.map V.bl) its):∀ (i:Nat) (v:Value),its.toArray[i]?=some v->v=Value.bool (bs.getD i false):=λi v hv=>by
 have hv':its[i]?=some v:=by simpa using hv
 have hi:i<bs.length:=by
  have hl:=r.length;rw [wC] at hl;rw [hl];exact (wq.mp hv').1
 obtain ⟨u,hu,r⟩:=r.get (i:=i) (x:=V.bl bs[i]) (by simp [hi]);rw [hv'] at hu;cases hu
 have:v=Value.bool bs[i]:=r
 rw [this];simp [List.getD,hi]
theorem qaz {h h':Heap} {o:Obj} (kp:∀ b u,b∉[h.objs.size]->(h.push o).get? b=some u->h'.get? b=some u):∀ b u,h.get? b=some u->h'.get? b=some u:=λb u e =>
 kp b u (by simp only [wu,List.not_mem_nil,or_false];exact wM (wy e)) (wj _ e)
theorem jbO {P:Program} {w:World} {A:Around} {bs:List Bool} {its:List Value} (r:Vals (bs.map V.bl) its):TruthOf P w A (λi v=>its.toArray[i]?=some v) (λi=>bs.getD i false):=λi v s Q E h q=>by
 rw [qc3 r i v h];exact wpAny_truthy_bool q
theorem zbP (hc:X.calm=true):qw X (.builtin "all") (rDs X.K (qy .all)):=by
 intro pins s σ H xs us Q I rv ⟨B,dx,d,hb,r,e,q⟩
 obtain ⟨x,ds,bs,rfl,hds,hbs,rfl⟩:∃ x ds bs,dx=[x]/\itemsD x=some ds/\zaj ds=some bs/\d=.bl (bs.all id):=by
  match dx,e with
  | [x],e =>
   obtain ⟨ds,h1,e⟩:=wa (show (itemsD x).bind _=some d from e);obtain ⟨bs,h2,e⟩:=wb e;exact ⟨x,ds,bs,rfl,h1,h2,e.symm⟩
  | [],e=>cases e
  | _::_::_,e=>cases e
 obtain ⟨v,rfl,rx⟩:=r.one;obtain ⟨t,a,ws,rfl,sq,_,rws⟩:=rx.srcT hb hds;rw [rws.bls hbs] at sq;obtain ⟨u,rfl,ru⟩:=rv.one;cases ru;obtain ⟨its,rits,p,hz⟩:=I.sseq sq;have hl:its.length=bs.length:=by have:=rits.length;rw [wC] at this;exact this.symm
 have halt:a<s.heap.objs.size:=by obtain ⟨o,_,ho,_⟩:=p.ob;exact wy ho
 refine call_all_walk (yt p ⟨s.heap.objs.size,_,_,its.toArray.size,_,_,λi=>bs.getD i false,rfl,jB (by simp [I.ok.hd hc]) t s.heap.objs.size a (wM halt) its.toArray,⟨SItr.fresh t s.heap a,p.at λo e=>wj _ e⟩,jbO rits,λh' tk kp=>?_⟩);refine ⟨.bl (bs.all id),H,I.kept (t':=tk) (qaz kp),?_,q _ H (Same.refl H) (.bl _) (nofr λ_ z=>nomatch z)⟩;show Value.bool _=Value.bool _;rw [vh,hl]
 conv=>rhs;rw [<-zc3 (bs:=bs),List.all_map]
 rfl
theorem qbP (hc:X.calm=true):qw X (.builtin "sum") (rDs X.K (qy .sum)):=by
 intro pins s σ H xs us Q I rv ⟨B,dx,d,hb,r,e,q⟩
 obtain ⟨x,ds,ns,rfl,hds,hns,rfl⟩:∃ x ds ns,dx=[x]/\itemsD x=some ds/\intsOf ds=some ns/\d=.int ns.sum:=by
  match dx,e with
  | [x],e =>
   obtain ⟨ds,h1,e⟩:=wa (show (itemsD x).bind _=some d from e);obtain ⟨bs,h2,e⟩:=wa e;exact ⟨x,ds,bs,rfl,h1,h2,(wA e).symm⟩
  | [],e=>cases e
  | _::_::_,e=>cases e
 obtain ⟨t,a,rfl,sq⟩:=zbe hb r hds hns;obtain ⟨u,rfl,ru⟩:=rv.one;cases ru;obtain ⟨its,rits,p,hz⟩:=I.sseq sq;have hl:its.length=ns.length:=by have:=rits.length;rw [wC] at this;exact this.symm
 have halt:a<s.heap.objs.size:=by obtain ⟨o,_,ho,_⟩:=p.ob;exact wy ho
 refine call_sum_walkAnyS (yt p ⟨s.heap.objs.size,_,_,_,its.toArray.size,_,_,λi=>ns.getD i 0,rfl,(jB (by simp [I.ok.hd hc]) t s.heap.objs.size a (wM halt) its.toArray).toS,⟨SItr.fresh t s.heap a,p.at λo e=>wj _ e⟩,λb hb=>?_,ycj rits,λs' t' mv=>?_⟩)
 ·show b<(s.heap.push _).objs.size;rw [Heap.size_push];simp only [wu,List.not_mem_nil,or_false] at hb;rcases hb with rfl | rfl
  ·exact Nat.lt_succ_self _
  ·exact Nat.lt_succ_of_lt halt
 obtain ⟨h',g',d',tk',os'⟩:=s';have eg:g'=s.gens:=mv.gens;have ed:d'=s.drawn:=mv.drawn;have eo:os'=s.os:=mv.os;subst eg;subst ed;subst eo
 refine ⟨.int ns.sum,H,I.kept (t':=tk') (qaz mv.heap),⟨t',?_⟩,q _ H (Same.refl H) (.int _) (nofr λ_ z=>nomatch z)⟩;rw [vh,hl,qbs]
end
theorem jcB (n d:Nat) (o:Option Int):HT.sIx n d o=Eng.sIx n d o:=by cases o<;>rfl
section
variable {K:Frag} {B:Addr->Prop} {H:Hp}
theorem Reps.cut {vs:List V} {ds:List D} (r:Reps K B H vs ds) (lo hi:Option Int):Reps K B H (jb8 vs lo hi) (cutD ds lo hi):=by
 unfold jb8 cutD;rw [jcB,jcB,r.length];exact (r.drop _).take _
theorem ybs {vs:List V} {lo hi:Option Int} (h:HT.sIx vs.length 0 lo=0/\HT.sIx vs.length vs.length hi=vs.length):jb8 vs lo hi=vs:=by
 unfold jb8;rw [h.1,h.2];simp
end
section
variable {prog:Program} {w:World} {A:Around} {E:Value->Shared->Prop} {s:Shared}
theorem zL {t sl:Addr} {items:Array Value} {vl vu:Value} {lo hi:Option Int} {Q:Value->Shared->Prop} (ht:IsTup s.heap t items) (hs:s.heap.IsSliceOf sl vl vu .none) (pl:IsPart vl lo) (pu:IsPart vu hi)
  (hw:HT.sIx items.size 0 lo=0/\HT.sIx items.size items.size hi=items.size) (h:Q (.ref t) s):wpAny (model prog w) A (getItem (.ref t) (.ref sl)) Q E s:=by
 obtain ⟨os,hos,hcs,hds⟩:=id hs;have hTs:s.TypeIs (.ref sl) "slice":=⟨os,hos,hcs⟩;unfold getItem
 try with_reducible refine wpAny_holding ?_
 first | refine we (wm ?_) | skip
 refine we (wpAny_sequenceKey ht.typeIs (by decide) ?_)
 refine we (w5 (name:=Str.ofString "__getitem__") ht.typeIs PyProof.Rows.slot_tuple_getitem
  (wW PyProof.Rows.slot_tuple_getitem ht.typeIs entry_tuple_getitem ?_ (args_tuple_getitem _ _)))
 show wpAny _ _ (Builtin.Tuple.tupleItemsOf (.ref t) >>= _) _ _ s;refine we (tupleItemsOf_ ht ?_);refine we (wpAny_typeOf hTs ?_);rw [if_pos (by decide)];refine we (HT.yD hs pl pu ?_)
 have hyes:(((HT.sIx items.size 0 lo:Nat):Int)==0&&(1:Int)==1&&(HT.sIx items.size items.size hi-HT.sIx items.size 0 lo)==items.size)=true:=by
  rw [hw.1,hw.2];simp
 show wpAny _ _ (if (((HT.sIx items.size 0 lo:Nat):Int)==0&&(1:Int)==1&&(HT.sIx items.size items.size hi-HT.sIx items.size 0 lo)==items.size)=true then _ else _) _ _ s;rw [if_pos hyes];unfold Builtin.Tuple.tupleIsExact;refine we (we (wpAny_typeOf ht.typeIs (wm ?_)));rw [if_pos (by decide)];refine we (wpAny_rule ?_)
 first
  | exact wm ⟨_,rfl,wm h⟩
  | exact we (wm (wm ⟨_,rfl,wm h⟩))
  | exact we (wm (wm (wm ⟨_,rfl,wm h⟩)))
  | exact we (we (wm (wm ⟨_,rfl,wm h⟩)))
  | (wp_walk;trace_state)
end
end Eng
end
section
namespace Eng
open PySem PySem.Spec PyProof.Rows L2
variable [Tb]
open AutoSeq1 (wpAny_loadPart')
section
variable {prog:Program} {w:World} {A:Around} {E:Value->Shared->Prop} {s:Shared}
theorem jaM {R:Result->Shared->Prop} {r:Addr} {a b c:Int} {t u v:Tok} {n:Nat} (hh:A.handled=none) (hr:IsRange s.heap r a b c t u v) (hsmall:Builtin.Range.small a b c=true) (hn:Builtin.Range.rangeSize a b c=n) (hlen:n<=2^24)
  (hR:∀ h' tk acc c',s.heap.objs.size<h'.objs.size->(∀ b o,s.heap.get? b=some o->h'.get? b=some o)->h'.get? s.heap.objs.size=some { cls:=.type "list",dict:=none,data:=.seq acc c',slots:=#[] }->ItemsOf (λi v=>∃ t,v=.int (a+i*c) t) acc n->R (.ok (.ret (.ref s.heap.objs.size))) { s with heap:=h',toks:=tk }) :
  codeAny (model prog w) A (.builtin "proto.collect" ⟨[.ref r],[]⟩) R s:=by
 refine codeAny_builtin F.entry_proto_collect ?_;rw [Around.under_plainId F.plain_proto_collect _];show wpAny _ A.in1 (newList [] >>= λl=>again (.builtin "list.__iadd__" ⟨[l,.ref r],[]⟩)) _ _ s;refine we (w9 ?_);refine wm ⟨plainId_quiet F.plain_list_iadd _,codeAny_builtin F.entry_list_iadd ?_⟩;rw [Around.under_plainId F.plain_list_iadd _];show wpAny _ A.in1 (Builtin.List.listExtendWith (.ref s.heap.objs.size) (.ref r) (.ref s.heap.objs.size)) _ _ _;have hS0:(s.heap.push { cls:=.type "list",data:=.seq ([]:List Value).toArray }).get? s.heap.objs.size=some { cls:=.type "list",data:=.seq #[] 0 }:=wt _ rfl;refine wpAny_extend_range (R:=R) (s:={ s with heap:=s.heap.push { cls:=.type "list",data:=.seq ([]:List Value).toArray } }) hh (wj _ hr) hsmall hn hlen s.heap.objs.size (.ref s.heap.objs.size) 0 hS0 λh' tk acc c' kp hS hacc=>?_
 exact hR h' tk acc c' (wy hS) (λb o e=>kp b o (wM (wy e)) (wj _ e)) hS hacc
theorem zP {Q:List Value->Shared->Prop} {r:Addr} {a b c:Int} {t u v:Tok} {n:Nat} (hh:A.handled=none) (hr:IsRange s.heap r a b c t u v) (hsmall:Builtin.Range.small a b c=true) (hn:Builtin.Range.rangeSize a b c=n) (hlen:n<=2^24)
  (hQ:∀ h' tk acc,s.heap.objs.size<h'.objs.size->(∀ b o,s.heap.get? b=some o->h'.get? b=some o)->ItemsOf (λi v=>∃ t,v=.int (a+i*c) t) acc n->Q acc.toList { s with heap:=h',toks:=tk }) :
  wpAny (model prog w) A (collect (.ref r)) Q E s:=by
 unfold collect;refine we (wpAny_runValue (jaM hh hr hsmall hn hlen λh' tk acc c' hlt kp hS hacc=>?_));show wpAny _ A (load s.heap.objs.size >>= _) _ _ _;refine we (wpAny_load hS ?_);exact wm (hQ h' tk acc hlt kp hacc)
end
theorem jG (r:Addr) (a b c:Int) (t u v:Tok) (n:Nat) (hsmall:Builtin.Range.small a b c=true) (hn:Builtin.Range.rangeSize a b c=n) (hlen:n<=2^24) :
  Meets (Builtin.«tuple.__new__» ⟨[.type "tuple",.ref r],[]⟩)
   (λA R s=>A.handled=none/\IsRange s.heap r a b c t u v/\∀ (h':Heap) (tk:Nat) (acc:Array Value),s.heap.objs.size<h'.objs.size->(∀ b o,s.heap.get? b=some o->h'.get? b=some o)->ItemsOf (λi v=>∃ t,v=.int (a+i*c) t) acc n ->
    R (.ok (.ret (.ref h'.objs.size))) { s with heap:=h'.push { cls:=.type "tuple",data:=.seq acc },toks:=tk }) :=
 .of_wp λprog w A R s h=>by
  obtain ⟨hh,hr,h⟩:=h;have hsub:=sub_tuple_self;have hinit:=init_tuple_lookup;have hmh:=madeHere_tuple;have hT:s.TypeIs (.ref r) "range":=⟨_,hr,rfl⟩;have hh1:A.in1.handled=none:=hh
  wp_walk using wpAny_typeOf hT,zP hh1 hr hsmall hn hlen
  intro h' tk acc hlt hk hacc;show wpAny _ _ (Builtin.Tuple.tupleExact acc.toList.toArray >>= λv=>ret v) _ _ _;unfold Builtin.Tuple.tupleExact;refine we (w9 ?_ (show acc.toList.toArray.size<=sizeLine by simp only [Array.toArray_toList];rw [hacc.1,sizeLine_eq];exact hlen));refine wm ⟨_,rfl,?_⟩;have e:acc.toList.toArray=acc:=by simp
  rw [e];exact h h' tk acc hlt hk hacc
section
variable {prog:Program} {w:World} {A:Around} {E:Value->Shared->Prop} {s:Shared}
theorem z0 {Q:Value->Shared->Prop} {r:Addr} {a b c:Int} {t u v:Tok} {n:Nat} (hh:A.handled=none) (hr:IsRange s.heap r a b c t u v) (hsmall:Builtin.Range.small a b c=true) (hn:Builtin.Range.rangeSize a b c=n) (hlen:n<=2^24)
  (h:∀ (h':Heap) (tk:Nat) (acc:Array Value),s.heap.objs.size<h'.objs.size->(∀ b o,s.heap.get? b=some o->h'.get? b=some o)->ItemsOf (λi v=>∃ t,v=.int (a+i*c) t) acc n->Q (.ref h'.objs.size) { s with heap:=h'.push { cls:=.type "tuple",data:=.seq acc },toks:=tk }) :
  wpAny (model prog w) A (call (.type "tuple") [.ref r]) Q E s:=by
 refine callType_new F.called_tuple (by decide) (F.typeCall_tuple_1 _) (F.newCall_tuple_1 _) (λobj => F.args_object_init_2 obj _) F.entry_tuple_new
  (jG r a b c t u v n hsmall hn hlen) ⟨hh,hr,λh' tk acc hlt hk hacc=>⟨⟨_,wt _ rfl,rfl⟩,?_⟩⟩
 exact h h' tk acc hlt hk hacc
end
section
variable {X:Cx} {C:Tab}
theorem yaz (hc:X.calm=true):qw X (.type "tuple") (λxs H Q=>∃ (p:Addr) (lo hi:Int),xs=[.ref p]/\H p=some (.rng lo hi)/\(-(2^62)<=lo/\lo<2^62/\-(2^62)<=hi/\hi<2^62)/\(hi-lo).toNat<=sizeLine /\
  ∀ l,H l=none->Q (.ref l) (upd H l (.tup (((List.range (hi-lo).toNat).map λi=>lo+(i:Nat)).map V.int)))):=by
 intro pins s σ H xs us Q I rv ⟨p,lo,hi,e,hp,⟨b1,b2,b3,b4⟩,hz,q⟩;subst e;obtain ⟨u,rfl,ru⟩:=rv.one;cases ru;obtain ⟨t,u,v,ho⟩:=(show ObjOk X.prog X.w H s.heap p (.rng lo hi) from I.hok p _ hp);have h16:=sizeLine_eq;refine z0 (n:=(hi-lo).toNat) (I.ok.hd hc) ho (small_one b1 b2 b3 b4) (by rw [rangeSize_one];split<;>omega) (by omega) λh' tk acc hlt kp hit=>?_
 have hle:=Nat.le_of_lt hlt;refine ⟨.ref h'.objs.size,_,I.laid (o:=.tup (((List.range (hi-lo).toNat).map λi=>lo+(i:Nat)).map V.int)) (t':=tk) (λb u e=>wj _ (kp b u e)) hle ⟨?_,acc.toList,qT hit,?_⟩,rfl,q _ (I.hok.fresh hle)⟩
 ·simp;omega
 ·rw [Array.toArray_toList];exact IsTupN.new _ _
theorem yaZ {p1 p2 pos1 pos2:Pos} {e:Expr} {es:List Expr} {cs:Codes} (hc:X.calm=true) (hg:Gl X "range") (hm:X.mg "range"=none) (hg2:Gl X "tuple") (hm2:X.mg "tuple"=none) (hv2:bootBuiltins "tuple"=some (.type "tuple")) (ha:SA X C (e::es) cs) (hs:starEach (e::es) X.env=(false,eval e X.env)::starEach es X.env)
  (hpl:(backTo pos2 (starEach es X.env)).any (·.1)=false):SE X C (.Call (.Name "tuple" p1) [.Call (.Name "range" p2) (e::es) [] pos2] [] pos1) (.ofi .tuple (.rng cs)):=λB ρ d h=>by
 obtain ⟨ds,hd,h⟩:=wa (show (evI C (.rng cs) ρ).bind (λds=>some (D.tup ds))=some d from h);cases h;obtain ⟨dx,ex,hd⟩:=wa (show (evs C cs ρ).bind rngD=some ds from hd);have hpe:PE X (.Call (.Name "range" p2) (e::es) [] pos2) (tCB rRng (tDs X.K B ρ dx)):=jm zaz hg hm jK (ha B ρ dx ex) (by decide) (by decide) hs hpl;refine (jm (yaz hc) hg2 hm2 hv2 (zF hpe zaa) (by decide) (by decide) rfl rfl).imp λσ H Q ⟨hb,er,q⟩=>?_
 refine ⟨hb,er,λvs H1 sm1 r1=>?_⟩
 have fin:∀ (lo hi:Int) (p l:Addr),ds=yc lo (hi-lo).toNat->H1 p=none->(upd H1 p (.rng lo hi)) l=none->Q (.ref l) (upd (upd H1 p (.rng lo hi)) l (.tup (((List.range (hi-lo).toNat).map λi=>lo+(i:Nat)).map V.int))):=λlo hi p l ed hp hl=>by
  refine q _ _ ((sm1.trans (qa hp _)).trans (qa hl _)) (.tup ja ?_);rw [ed,jo];exact Reps.of_ints _
 match dx,hd with
 | [.int j],hd =>
  simp only [rngD] at hd;split at hd
  ·rename_i hcd;cases hd;obtain ⟨v,rfl,rv⟩:=r1.one;cases rv;refine .inl ⟨j,rfl,hcd.1,hcd.2.1,λp hp=>⟨p,0,j,rfl,ja,⟨by omega,by omega,hcd.1,hcd.2.1⟩,by rw [Int.sub_zero];exact hcd.2.2,λl hl=>fin 0 j p l (by rw [Int.sub_zero]) hp hl⟩⟩
  ·cases hd
 | [.int i,.int j],hd =>
  simp only [rngD] at hd;split at hd
  ·rename_i hcd;cases hd;cases r1 with
   | cons ra r =>
    obtain ⟨v2,rfl,rb⟩:=r.one;cases ra;cases rb;refine .inr ⟨i,j,rfl,⟨hcd.1,hcd.2.1,hcd.2.2.1,hcd.2.2.2.1⟩,λp hp=>⟨p,i,j,rfl,ja,⟨hcd.1,hcd.2.1,hcd.2.2.1,hcd.2.2.2.1⟩,hcd.2.2.2.2,λl hl=>fin i j p l rfl hp hl⟩⟩
  ·cases hd
end
end Eng
end
section
namespace Eng
open PySem
structure Gam where
 N:List Str
 names:List (Str×NameKind)
 /-- where its lambda stands -/
 lp:Option Pos
structure GTab where
 fns:List Str
 cons:List (Str×Int)
 /-- the defs with a lambda -/
 lams:List (Str×Pos)
noncomputable def qP (g:Gam) (x:Str):Option NameKind:=g.names.lookup x
noncomputable def zcC (g:Gam) (x:Str):Bool:=qP g x==some .local||qP g x==some .cell||qP g x==some .free
noncomputable def yc3 (g:Gam) (x:Str):Bool:=qP g x==some .local||qP g x==some .cell
noncomputable def zaN (g:Gam) (x:Str):Bool:=qP g x==some .globalImplicit
noncomputable def yP (x:Str):Bool:=!(x==("__debug__":Str))&&!(x==("__classdict__":Str))
noncomputable def yT (g:Gam) (i:Nat) (x:Str):Bool:=g.N[i]?==some x
noncomputable def zt:Expr->Bool
 | .Starred ..=>true
 | _=>false
noncomputable def setB:Expr->Bool
 | .Set ..=>true
 | _=>false
noncomputable def ybP:Expr->Bool
 | .Slice ..=>true
 | _=>false
noncomputable def jc3:Expr->Bool
 | .Call ..=>true
 | _=>false
noncomputable def ydl:Expr->Bool
 | .Tuple ..=>true
 | _=>false
noncomputable def qcC:Const->D->Bool
 | .none,.non=>true
 | .bool a,.bl b=>a==b
 | .int a,.int b=>a==b
 | .str a,.str b=>a==b
 | _,_=>false
noncomputable def qd0 (g:Gam):List Expr->List Nat->Bool
 | [],[]=>true
 | .Name x _::es,i::is=>yT g i x&&yc3 g x&&qd0 g es is
 | _,_=>false
noncomputable def tgB (g:Gam):Expr->Tgt->Bool
 | .Name x _,.one i=>yT g i x&&yc3 g x
 | .Tuple es _ _,.many is=>qd0 g es is
 | _,_=>false
noncomputable def jbP:Expr->List Str
 | .Name x _=>[x]
 | .Tuple es _ _=>es.filterMap λe=>match e with | .Name x _=>some x | _=>none
 | _=>[]
noncomputable def zc4 (g:Gam) (scope:Scope) (tg:Expr) (keep:List Nat):Gam:=⟨jbP tg++keep.map λj=>(g.N[j]?).getD Str.empty,scope.names,none⟩
noncomputable def ydN (g:Gam) (scope:Scope) (keep:List Nat):Bool:=keep.all λj=>match g.N[j]? with
 | some x=>scope.names.lookup x==some .free&&(qP g x==some .cell||qP g x==some .free)
 | none=>false
noncomputable def yap (g:Gam) (scope:Scope):Bool:=decide (scope.kind=.function)&&scope.names.all λp=>(decide (p.2≠.cell)||scope.names.all λq=>decide (q.1≠p.1)||decide (q.2≠.free))&&(decide (p.2≠.free)||(qP g p.1==some .cell||qP g p.1==some .free))&&(decide (p.2≠.local)||scope.names.lookup p.1==some .local)
noncomputable def zed (t:Tgt) (n:Nat):Bool:=match t with
 | .one i=>decide (i<n)
 | .many is=>is.all λi=>decide (i<n)
noncomputable def jaZ (es:List Expr):Bool:=!es.isEmpty&&es.all λe=>!zt e
noncomputable abbrev RE:=Gam->Expr->Code->Bool
noncomputable def okA (r:Expr->Code->Bool):List Expr->Codes->Bool
 | [],.nil=>true
 | e::es,.cons c cs=>r e c&&okA r es cs
 | _,_=>false
noncomputable def zb9 (r:Expr->Code->Bool) (op:BoolOp):List Expr->Code->Bool
 | [],_=>false
 | [a],c=>r a c
 | a::b::es,c=>match op,c with
  | .And,.and x y=>r a x&&zb9 r op (b::es) y
  | .Or,.or x y=>r a x&&zb9 r op (b::es) y
  | _,_=>false
noncomputable def qen:Blt->Option Str
 | .len=>some "len"
 | .list=>some "list"
 | .tuple=>some "tuple"
 | .int=>some "int"
 | .all=>some "all"
 | .sum=>some "sum"
 | .sorted=>some "sorted"
 | _=>none
noncomputable def okO (r:Expr->Code->Bool):Option Expr->OCode->Bool
 | none,.none=>true
 | some e,.some c=>r e c
 | _,_=>false
noncomputable def qaN (e:Expr):Option (Str×List Expr):=match e with
 | .Call f as kws _=>(match f with | .Name y _=>(match kws with | []=>some (y,as) | _=>none) | _=>none)
 | _=>none
theorem zJ {e:Expr} {y:Str} {as:List Expr} (h:qaN e=some (y,as)):∃ p q,e=.Call (.Name y p) as [] q:=by
 unfold qaN at h;split at h
 ·split at h
  ·split at h
   ·cases h;exact ⟨_,_,rfl⟩
   ·cases h
  ·cases h
 ·cases h
noncomputable def jcj (args:List Expr):Option (Str×List Expr):=match args with
 | [e]=>qaN e
 | _=>none
theorem qbe {args:List Expr} {y:Str} {as:List Expr} (h:jcj args=some (y,as)):∃ p q,args=[.Call (.Name y p) as [] q]:=by
 unfold jcj at h;split at h
 ·obtain ⟨p,q,rfl⟩:=zJ h;exact ⟨p,q,rfl⟩
 ·cases h
noncomputable def one? {α:Type}:List α->Option α
 | [a]=>some a
 | _=>none
noncomputable def yd0 {α:Type}:List α->Option (α×α)
 | [a,b]=>some (a,b)
 | _=>none
theorem qE {α:Type} {l:List α} {a:α} (h:one? l=some a):l=[a]:=by
 unfold one? at h;split at h
 ·cases h;rfl
 ·cases h
theorem ycC {α:Type} {l:List α} {a b:α} (h:yd0 l=some (a,b)):l=[a,b]:=by
 unfold yd0 at h;split at h
 ·cases h;rfl
 ·cases h
noncomputable def zck (r:Expr->Code->Bool) (g:Gam) (args:List Expr) (cs:Codes):Bool:=match jcj args with
 | some (y,as)=>(match one? as with
  | some a=>(match cs with | .cons c .nil=>y==("set":Str)&&zaN g y&&!zt a&&r a c | _=>false)
  | none=>false)
 | none=>false
noncomputable def jbs (r:Expr->Code->Bool) (g:Gam) (args:List Expr) (cs:Codes):Bool:=match jcj args with
 | some (y,as)=>y==("range":Str)&&zaN g y&&jaZ as&&okA r as cs
 | none=>false
noncomputable def zbQ (G:GTab) (r:Expr->Code->Bool) (g:Gam) (x:Str) (args:List Expr) (c:Code):Bool:=zaN g x&&yP x&&match c with
 | .call i cs=>G.fns[i]?==some x&&jaZ args&&okA r args cs
 | .blt .lenSet _=>false
 | .blt .sortedSet cs=>x==("sorted":Str)&&zck r g args cs
 | .blt b cs=>qen b==some x&&jaZ args&&okA r args cs
 | .ofi .list (.rng cs)=>x==("list":Str)&&jbs r g args cs
 | .ofi .tuple (.rng cs)=>x==("tuple":Str)&&jbs r g args cs
 | _=>false
noncomputable def okI (r:Expr->Code->Bool) (g:Gam) (tg it:Expr) (i:Iter):Bool:=!setB it&&match i with
 | .data c=>r it c
 | .rng cs=>(match qaN it with | some (y,as)=>y==("range":Str)&&zaN g y&&(decide (as.length=1)||decide (as.length=2))&&jaZ as&&okA r as cs | none=>false)
 | .enu c=>ydl tg&&(match qaN it with | some (y,as)=>(match one? as with | some a=>y==("enumerate":Str)&&zaN g y&&!zt a&&r a c | none=>false) | none=>false)
 | .zip c d=>ydl tg&&(match qaN it with | some (y,as)=>(match yd0 as with | some (a,b)=>y==("zip":Str)&&zaN g y&&!zt a&&!zt b&&r a c&&r b d | none=>false) | none=>false)
 | .vals c=>(match it with | .Call f as kws cpos=>(match f with | .Attribute o nm apos=>(as.isEmpty&&kws.isEmpty)&&(nm==("values":Str)&&!jc3 o&&apos.endLine==cpos.line&&r o c) | _=>false) | _=>false)
noncomputable def okC (r t:RE) (g:Gam) (elt tg it:Expr) (ifs:List Expr) (asy:Int) (scope:Scope) (c:Code):Bool:=match c with
 | .comp ce tt m keep i cc=>asy==0&&yap g scope&&ydN g scope keep&&decide ((jbP tg).length=m)&&zed tt m&&decide (zc4 g scope tg keep).N.Nodup&&tgB (zc4 g scope tg keep) tg tt&&okI (r g) g tg it i&&r (zc4 g scope tg keep) elt ce
  && (match ifs,cc with | [],.none=>true | [e],.some c=>t (zc4 g scope tg keep) e c | _,_=>false)
 | _=>false
noncomputable def qck (r:Expr->Code->Bool) (l:Expr) (os:List CmpOp) (es:List Expr) (c:Code):Bool:=match os,es,c with
 | [o],[e],.cmp op a b=>decide (o=op)&&!setB e&&r l a&&r e b
 | _,_,_=>false
noncomputable def yen (r:Expr->Code->Bool) (o:Expr) (nm:Str) (l l':Nat) (b:Expr) (c:Code):Bool:=match c with
 | .blt bb (.cons x (.cons y .nil))=>(match bb with | .count=>nm==("count":Str) | .index=>nm==("index":Str) | _=>false)&&(!jc3 o&&!zt b&&l==l'&&r o x&&r b y)
 | _=>false
noncomputable def jcC (r:Expr->Code->Bool) (g:Gam) (x:Str) (a:Expr) (k:Option Str) (e:Expr) (c:Code):Bool:=match c with
 | .blt .minD (.cons u (.cons v .nil))=>x==("min":Str)&&k==some ("default":Str)&&zaN g x&&!zt a&&r a u&&r e v
 | _=>false
noncomputable def qed (G:GTab) (r:Expr->Code->Bool) (g:Gam) (f:Expr) (args:List Expr) (kws:List Keyword) (l':Nat) (c:Code):Bool:=match f with
 | .Name x _=>(match kws with
  | []=>zbQ G r g x args c
  | [⟨k,e,_⟩]=>(match args with | [a]=>jcC r g x a k e c | _=>false)
  | _=>false)
 | .Attribute o nm apos=>(match kws with
  | []=>(match args with | [b]=>yen r o nm apos.endLine l' b c | _=>false)
  | _=>false)
 | _=>false
noncomputable def jen (r:Expr->Code->Bool) (v s:Expr) (c:Code):Bool:=match c with
 | .idx a b=>!ybP s&&r v a&&r s b
 | .slc a lo hi=>(match s with | .Slice l h none _=>r v a&&okO r l lo&&okO r h hi | _=>false)
 | _=>false
noncomputable def zeo (G:GTab) (g:Gam) (x:Str) (c:Code):Bool:=match c with
 | .var i=>yT g i x&&zcC g x
 | .cst (.int i)=>zaN g x&&G.cons.lookup x==some i
 | _=>false
noncomputable def yed (e:Expr):Option Const:=match e with
 | .Constant k _ _=>some k
 | _=>none
theorem qc4 {e:Expr} {k:Const} (h:yed e=some k):∃ j p,e=.Constant k j p:=by
 unfold yed at h;split at h
 ·cases h;exact ⟨_,_,rfl⟩
 ·cases h
noncomputable def za0 (e:Expr):Option Str:=match e with
 | .Name x _=>some x
 | _=>none
theorem qJ {e:Expr} {x:Str} (h:za0 e=some x):∃ p,e=.Name x p:=by
 unfold za0 at h;split at h
 ·cases h;exact ⟨_,rfl⟩
 ·cases h
noncomputable def jd0 (e:Expr):Option (Arguments×Expr×Scope×Pos):=match e with
 | .Lambda a b s p=>some (a,b,s,p)
 | _=>none
theorem qbQ {e b:Expr} {a:Arguments} {s:Scope} {p:Pos} (h:jd0 e=some (a,b,s,p)):e=.Lambda a b s p:=by
 unfold jd0 at h;split at h
 ·cases h;rfl
 ·cases h
noncomputable def yc4:Code->Option (Code×List Nat×Code)
 | .mink e k c=>some (e,k,c)
 | _=>none
theorem yck {c e a:Code} {k:List Nat} (h:yc4 c=some (e,k,a)):c=.mink e k a:=by
 unfold yc4 at h;split at h
 ·cases h;rfl
 ·cases h
noncomputable def jed (ps:Arguments):Option Str:=if ps.posonlyargs.isEmpty&&ps.vararg.isNone&&ps.kwonlyargs.isEmpty&&ps.kw_defaults.isEmpty&&ps.kwarg.isNone&&ps.defaults.isEmpty then (one? ps.args).map (·.arg) else none
theorem jc4 {ps:Arguments} {y:Str} (h:jed ps=some y):∃ an p,ps=⟨[],[⟨y,an,p⟩],none,[],[],none,[]⟩:=by
 unfold jed at h;split at h
 ·rename_i hc;obtain ⟨a,b,c,d,e,f,g⟩:=ps;simp only [wg,List.isEmpty_iff,Option.isNone_iff_eq_none] at hc;obtain ⟨⟨⟨⟨⟨h1,h2⟩,h3⟩,h4⟩,h5⟩,h6⟩:=hc;subst h1;subst h2;subst h3;subst h4;subst h5;subst h6
  cases q:one? b with
  | none=>rw [show one? b=none from q] at h;cases h
  | some x =>
   rw [show one? b=some x from q] at h;cases h;cases qE q;obtain ⟨n,an,p⟩:=x;exact ⟨an,p,rfl⟩
 ·cases h
noncomputable def jdN (g:Gam) (y:Str) (scope:Scope) (keep:List Nat):Gam:=⟨y::keep.map λj=>(g.N[j]?).getD Str.empty,scope.names,none⟩
noncomputable def jck (r:RE) (g:Gam) (ps:Arguments) (body:Expr) (scope:Scope) (pos:Pos) (ce:Code) (keep:List Nat):Bool:=match jed ps with
 | some y=>(g.lp.isSome&&yap g scope)&&(scope.names.all (λp=>decide (p.2≠.cell))&&!scope.isCoroutine&&!scope.isGenerator)&&(scope.names.lookup y==some .local&&ydN g scope keep&&decide (jdN g y scope keep).N.Nodup)&&r (jdN g y scope keep) body ce
 | none=>false
noncomputable def zee (r:RE) (g:Gam) (f:Expr) (args:List Expr) (kws:List Keyword) (c:Code):Bool:=match za0 f,one? args,one? kws,yc4 c with
 | some x,some a,some k,some (ce,keep,ca)=>x==("min":Str)&&zaN g x&&!zt a&&k.arg==some ("key":Str)&&r g a ca&&(match jd0 k.value with | some (ps,body,scope,pos)=>jck r g ps body scope pos ce keep | none=>false)
 | _,_,_,_=>false
noncomputable def zc5 (G:GTab) (r t:RE) (g:Gam) (e:Expr) (c:Code):Bool:=match e with
 | .Constant k _ _=>(match c with | .cst d=>qcC k d | _=>false)
 | .Name x _=>yP x&&zeo G g x c
 | .BinOp l o rr _=>(match c with | .bin op a b=>decide (o=op)&&r g l a&&r g rr b | _=>false)
 | .UnaryOp op a _=>(match op with
  | .USub=>(match c with | .neg x=>r g a x | _=>false)
  | .Not=>(match c with | .not x=>r g a x | _=>false)
  | _=>false)
 | .BoolOp op es _=>zb9 (r g) op es c
 | .IfExp q a b _=>(match c with | .ite x y z=>t g q x&&r g a y&&r g b z | _=>false)
 | .Compare l os es _=>qck (r g) l os es c
 | .Tuple es _ _=>(match c with | .tup cs=>es.all (λe=>!zt e)&&okA (r g) es cs | _=>false)
 | .List es _=>(match c with | .lst cs=>es.all (λe=>!zt e)&&okA (r g) es cs | _=>false)
 | .Subscript v s _=>jen (r g) v s c
 | .ListComp elt gens scope _=>(match gens with | [⟨tg,it,ifs,asy⟩]=>okC r t g elt tg it ifs asy scope c | _=>false)
 | .Call f args kws cpos=>qed G (r g) g f args kws cpos.line c||zee r g f args kws c
 | _=>false
noncomputable def stepT (G:GTab) (r t:RE) (g:Gam) (e:Expr) (c:Code):Bool:=match e with
 | .UnaryOp .Not a _=>(match c with | .not x=>t g a x | _=>false)
 | .BoolOp op es _=>zb9 (t g) op es c
 | .IfExp ..=>false
 | .Compare l os es _=>qck (r g) l os es c
 | e=>r g e c
noncomputable def ok (G:GTab):Nat->RE×RE
 | 0=>(λ_ _ _=>false,λ_ _ _=>false)
 | n+1=>(zc5 G (ok G n).1 (ok G n).2,stepT G (ok G n).1 (ok G n).2)
end Eng
end
section
namespace Eng
open PySem PySem.Spec PyProof.Rows L2
variable [Tb]
def tO (K:Frag) (B:Addr->Prop) (ρ:En) (o:Option Int):TO:=λσ H Q=>HB B H/\ER K B H σ ρ/\∀ H',Same H H'->Q o H'
def SO (X:Cx) (C:Tab) (e:Option Expr) (c:OCode):Prop:=∀ B ρ o,evO C c ρ=some o->PO X e (tO X.K B ρ o)
section
variable {X:Cx} {C:Tab}
theorem PO.imp {e:Option Expr} {t t':TO} (h:PO X e t) (i:∀ σ H Q,t' σ H Q->t σ H Q):PO X e t':=λpins s σ H Q I q=>h pins s σ H Q I (i _ _ _ q)
theorem qc5:SO X C none .none:=λB ρ o e=>by
 cases e;exact PO.imp ycQ λσ H Q ⟨_,_,q⟩=>q H (Same.refl H)
theorem yc5 {e:Expr} {c:Code} (h:SE X C e c):SO X C (some e) (.some c):=λB ρ o ee=>by
 obtain ⟨d,ed,ee⟩:=wa (show (ev C c ρ).bind _=some o from ee);cases d with
 | int i =>
  cases ee;refine PO.imp (jcQ (h B ρ _ ed)) λσ H Q ⟨h1,h2,q⟩=>⟨h1,h2,λv H' sm r=>?_⟩
  cases r;exact ⟨i,rfl,q H' sm⟩
 | _=>cases ee
def zeB (K:Frag):V->Option Int->Option Int->Hp->VK->Prop:=λx lo hi H Q=>∃ B dx d,HB B H/\Rep K B H x dx/\jdk dx lo hi=some d/\∀ v H',Same H H'->Rep K B H' v d->Q v H'
theorem yaN {a:Addr} {xs:List V} {pins:List (Addr×Obj)} {s:Shared} {σ:L2.St} {H:Hp} {vl vu:Value} {lo hi:Option Int} {sl:Addr} {Q:VK} (I:L2.Inv X pins σ H s) (hx:SqT X.K H a xs) (hs:s.heap.IsSliceOf sl vl vu .none) (pl:IsPart vl lo) (pu:IsPart vu hi)
  (hw:HT.sIx xs.length 0 lo=0/\HT.sIx xs.length xs.length hi=xs.length) (q:Q (.ref a) H):∃ T id,typeLookup (.type T) "__getitem__"=pure (some (.builtin id))/\s.TypeIs (.ref a) T/\wpAny (model X.prog X.w) X.A (getItem (.ref a) (.ref sl)) (EP X pins σ Q) X.xe s:=by
 obtain ⟨its,r,ht,hz⟩:=I.tuple hx;have hlen:its.toArray.size=xs.length:=by rw [vh];exact r.length.symm
 refine ⟨"tuple",_,PyProof.Rows.slot_tuple_getitem.lookup,ht.typeIs,?_⟩;exact zL ht hs pl pu (by rw [hlen];exact hw) ⟨.ref a,H,I,rfl,q⟩
theorem qeB:SlR X (zeB X.K):=by
 intro pins s σ H x v vl vu lo hi sl Q I rx hs pl pu ⟨B,dx,d,hb,r,e,q⟩;cases dx with
 | tup ds =>
  cases e;obtain ⟨a,vs,rfl,ha,ra⟩:=r.tupD;cases rx
  by_cases hw:HT.sIx vs.length 0 lo=0/\HT.sIx vs.length vs.length hi=vs.length
  ·refine yaN I (SqT.of ha) hs pl pu hw (q _ H (Same.refl H) ?_)
   have:=ra.cut lo hi
   rw [ybs hw] at this;exact .tup ha this
  ·exact jdu pins s σ H (.ref a) _ vl vu lo hi sl Q I rfl hs pl pu ⟨a,vs,rfl,SqT.of ha,hw,λp hp=>q _ _ (qa hp _) (.newT hp (ra.cut lo hi))⟩
 | lst ds =>
  cases e;obtain ⟨a,vs,rfl,na,ha,ra⟩:=r.lstD;cases rx;exact qcR pins s σ H (.ref a) _ vl vu lo hi sl Q I rfl hs pl pu ⟨a,vs,rfl,SqL.of ha,λp hp=>q _ _ (qa hp _) (.newL hb hp (ra.cut lo hi))⟩
 | _=>cases e
theorem zdO {a:Expr} {lo hi:Option Expr} {ca:Code} {cl ch:OCode} {p2 pos:Pos} (ha:SE X C a ca) (hl:SO X C lo cl) (hh:SO X C hi ch):SE X C (.Subscript a (.Slice lo hi none p2) pos) (.slc ca cl ch):=λB ρ d e=>by
 obtain ⟨dx,ex,e⟩:=wa (show (ev C ca ρ).bind _=some d from e);obtain ⟨l,el,e⟩:=wa e;obtain ⟨h,eh,e⟩:=wa e
 exact (zcb qeB (ha B ρ dx ex) (hl B ρ l el) (hh B ρ h eh)).imp λσ H Q ⟨h1,h2,q⟩ =>
  ⟨h1,h2,λx H1 s1 r1=>⟨h1.same s1,h2.same s1,λH2 s2=>⟨(h1.same s1).same s2,(h2.same s1).same s2,λH3 s3 =>
   ⟨B,dx,d,((h1.same s1).same s2).same s3,(r1.same s2).same s3,e,λv H' s4 r4=>q v H' (((s1.trans s2).trans s3).trans s4) r4⟩⟩⟩⟩
end
open Classical in
noncomputable def zak (h:Heap) (d:PyData) (y:Value):Bool:=if q:∃ e as,Reads h y e as then PyData.eqv q.choose d else false
theorem jT {h:Heap} {d e:PyData} {y:Value} {as:List Addr} (r:Reads h y e as):zak h d y=PyData.eqv e d:=by
 unfold zak;have q:∃ e as,Reads h y e as:=⟨e,as,r⟩;rw [dif_pos q];obtain ⟨bs,r'⟩:=q.choose_spec;rw [(Reads.unique r' e as r).1]
theorem j5:∀ {ds:List D} {d:D},d∈ds->dep d<=za5 ds
 | [],_,h=>by cases h
 | x::xs,d,h=>by
  rw [za5];rcases wu.mp h with rfl | q
  ·exact Nat.le_max_left _ _
  ·exact wQ (j5 q) (Nat.le_max_right _ _)
section
variable {X:Cx} {pins:List (Addr×Obj)} {σ:L2.St} {H:Hp} {s:Shared} {B:Addr->Prop}
theorem qC (I:L2.Inv X pins σ H s):∀ {vs:List V} {ds:List D} {us:List Value},Reps X.K B H vs ds->Vals vs us->yE ds=true->∀ u∈us,∃ d∈ds,∃ as,Reads s.heap u (toP d) as
 | _,_,_,.nil,r,_=>by cases r;intro u hu;cases hu
 | _,_,_,.cons a rs,r,h=>by
  cases r with
  | cons r1 r2 =>
   rw [yE,wg] at h;intro u hu;rcases wu.mp hu with rfl | q
   ·obtain ⟨as,z⟩:=a.reads I r1 h.1;exact ⟨_,by simp,as,z⟩
   ·obtain ⟨d,hd,as,z⟩:=qC I rs r2 h.2 u q;exact ⟨d,by simp [hd],as,z⟩
theorem qae (I:L2.Inv X pins σ H s) {dx:D} (nx:noS dx=true):∀ {vs:List V} {ds:List D} {us:List Value},Reps X.K B H vs ds->Vals vs us->yE ds=true->us.any (zak s.heap (toP dx))=inD dx ds
 | _,_,_,.nil,r,_=>by cases r;rfl
 | _,_,_,.cons a rs,r,h=>by
  cases r with
  | cons r1 r2 =>
   rw [yE,wg] at h;obtain ⟨as,z⟩:=a.reads I r1 h.1;rw [List.any_cons,jT z,jac _ _ h.1 nx,qae I nx rs r2 h.2,inD]
end
section
variable {X:Cx}
theorem zcD {x y:D} {k:Bool} (h:inC x y=some k):∃ ds,(y=.tup ds\/y=.lst ds)/\jA x (.tup ds)=true/\k=inD x ds:=by
 unfold inC at h;split at h
 ·split at h
  ·rename_i q;exact ⟨_,.inl rfl,q,(wA h).symm⟩
  ·cases h
 ·split at h
  ·rename_i q;exact ⟨_,.inr rfl,q,(wA h).symm⟩
  ·cases h
 ·cases h
theorem zcl {neg:Bool} {dx dy:D} {k:Bool} (h:zO (if neg then .NotIn else .In) dx dy=some k):∃ ds,(dy=.tup ds\/dy=.lst ds)/\jA dx (.tup ds)=true/\k=(if neg then !inD dx ds else inD dx ds):=by
 cases neg with
 | false=>exact zcD h
 | true =>
  obtain ⟨k',h',rfl⟩:=wb (show (inC dx dy).map not=some k from h);obtain ⟨ds,h1,h2,rfl⟩:=zcD h';exact ⟨ds,h1,h2,rfl⟩
theorem qcD (hu:X.A.units+64<cLine) (neg:Bool):OpR X (compareOp (if neg then .NotIn else .In)) (rD2 X.K (zaK (if neg then .NotIn else .In))):=by
 intro pins s σ H x y v u Q I rx ry ⟨B,dx,dy,d,hb,r1,r2,e,q⟩;obtain ⟨k,ek,rfl⟩:=wb (show (zO _ dx dy).map D.bl=some d from e);obtain ⟨ds,hd,ok,rfl⟩:=zcl ek;obtain ⟨h1,h2,h3⟩:=eqOk_iff.mp ok;obtain ⟨as,qx⟩:=r1.reads I rx h2
 have he:∀ (vs:List V) (its:List Value),Reps X.K B H vs ds->Vals vs its->∀ w∈its,SeqAt.EqAt X.A.in1 s w v (zak s.heap (toP dx) w):=λvs its r rv w hw=>by
  obtain ⟨d',hd',bs,z⟩:=qC I r rv h3 w hw;rw [jT z]
  have n3:noS d'=true:=by
   have:∀ {l:List D},yE l=true->∀ d∈l,noS d=true:=by
    intro l
    induction l with
    | nil=>intro _ d hd;cases hd
    | cons a r ih =>
     intro h d hd;rw [yE,wg] at h;rcases wu.mp hd with rfl | q
     ·exact h.1
     ·exact ih h.2 d q
   exact this h3 d' hd'
  refine SeqAt.eqAt_reads _ _ _ s w v bs as z qx (jy _ n3) (jy _ h2) ?_;rw [yo,yo]
  have:=j5 hd'
  have hq:min (dep d') (dep dx)<=40:=by
   rcases h1 with z | z
   ·exact wQ (Nat.min_le_right _ _) z
   ·rw [dep] at z;exact wQ (Nat.min_le_left _ _) (by omega)
  have:X.A.in1.units=X.A.units+1:=rfl
  omega
 have fin:∀ k,EP X pins σ Q (.bool k) s↔EP X pins σ Q (.bool k) s:=λ_=>Iff.rfl
 rcases hd with rfl | rfl
 ·obtain ⟨a,vs,rfl,ha,ra⟩:=r2.tupD;cases ry;obtain ⟨its,rv,p,hz⟩:=I.tuple (SqT.of ha);have ea:its.toArray.any (zak s.heap (toP dx))=inD dx ds:=by rw [show its.toArray.any (zak s.heap (toP dx))=its.any (zak s.heap (toP dx)) by simp,qae I h2 ra rv h3]
  cases neg with
  | false =>
   refine SeqAt.in_tupleAt (zak s.heap (toP dx)) p (λw hw=>he vs its ra rv w (by simpa using hw)) ?_;rw [ea];exact ⟨.bl _,H,I,rfl,q _ H (Same.refl H) (.bl _) (λ_ z=>nomatch z)⟩
  | true =>
   refine SeqAt.notIn_tupleAt (zak s.heap (toP dx)) p (λw hw=>he vs its ra rv w (by simpa using hw)) ?_;rw [ea];exact ⟨.bl _,H,I,rfl,q _ H (Same.refl H) (.bl _) (λ_ z=>nomatch z)⟩
 ·obtain ⟨a,vs,rfl,na,ha,ra⟩:=r2.lstD;cases ry;obtain ⟨its,rv,p,hz⟩:=I.list (SqL.of ha);have ea:its.toArray.any (zak s.heap (toP dx))=inD dx ds:=by rw [show its.toArray.any (zak s.heap (toP dx))=its.any (zak s.heap (toP dx)) by simp,qae I h2 ra rv h3]
  cases neg with
  | false =>
   refine SeqAt.in_listAt (zak s.heap (toP dx)) p.isList (λw hw=>he vs its ra rv w (by simpa using hw)) ?_;rw [ea];exact ⟨.bl _,H,I,rfl,q _ H (Same.refl H) (.bl _) (λ_ z=>nomatch z)⟩
  | true =>
   refine SeqAt.notIn_listAt (zak s.heap (toP dx)) p.isList (λw hw=>he vs its ra rv w (by simpa using hw)) ?_;rw [ea];exact ⟨.bl _,H,I,rfl,q _ H (Same.refl H) (.bl _) (λ_ z=>nomatch z)⟩
end
end Eng
end
section
namespace Eng
open PySem PyProof.Rows
theorem ybQ (a b:Value):argsOk "min" { pos:=[a],kw:=[(Str.ofString "default",b)] }:=by
 first | exact rfl | kernel_rfl | decide
section
variable {prog:Program} {w:World} {A:Around} {R:Result->Shared->Prop} {I S:Addr} {z:Value} {fp wr:List Addr} {n:Nat} {P:Nat->Value->Prop} {St:Nat->Heap->Prop} {kw:List (Str×Value)} {Kp:Shared->Prop}
def zd1 (prog:Program) (w:World) (A:Around) (Kp:Shared->Prop) (P:Nat->Value->Prop) (bt:Nat->Nat->Bool) (n:Nat):Prop :=
 ∀ (j:Nat) (vi vj:Value) (s:Shared) (Q E:Value->Shared->Prop),j+1<n->Kp s->P (j+1) vi->P (argBest bt j) vj->Q (.bool (bt (j+1) (argBest bt j))) s->wpAny (model prog w) A (richCompare .Lt vi vj) Q E s
theorem qee (W:Walks prog w A.in1 I fp wr n P St) {s:Shared} {c:Nat} (h0:n=0) (st:St 0 s.heap)
  (hs:s.heap.get? S=some { cls:=.type "list",data:=.seq #[] c })
  (h:∀ (h':Heap) (tk:Nat),(∀ (b:Addr) (o:Obj),¬ b∈wr->s.heap.get? b=some o->h'.get? b=some o)->R (.ok (.ret z)) { s with heap:=h',toks:=tk }) :
  codeAny (model prog w) A (.builtin "min.loop" ⟨[.ref I,.none,.ref S],[(Str.ofString "default",z)]⟩) R s:=by
 refine codeAny_builtin F.entry_min_loop ?_;subst h0;show wpAny (model prog w) A.in1 _ _ _ s
 have hd:∀ {Q:Option Value->Shared->Prop} {E:Value->Shared->Prop},(∀ (h':Heap) (tk:Nat),(∀ (b:Addr) (o:Obj),¬b∈wr->s.heap.get? b=some o->h'.get? b=some o)->Q none { heap:=h',gens:=s.gens,drawn:=s.drawn,toks:=tk,os:=s.os }) ->
  wpAny (model prog w) A.in1 (pyNext (.ref I)) Q E s:=λq=>W.done s _ _ st q
 wp_walk
 refine (show wpAny (model prog w) A.in1 (Sem.tryCatch (pyNext (.ref I)) _) _ _ _ from ?_);refine wpAny_tryCatch (hd λh' tk kp=>?_)
 wp_walk
 exact h h' tk kp
theorem jc5 (W:Walks prog w A.in1 I fp wr n P St) (bt:Nat->Nat->Bool) (hc:zd1 prog w A.in1 Kp P bt n) (hK:∀ (s:Shared) (h':Heap) (tk:Nat),Kp s->(∀ (b:Addr) (o:Obj),¬ b∈wr->b≠S->s.heap.get? b=some o->h'.get? b=some o)->Kp { s with heap:=h',toks:=tk }) (hS:S∉fp) (hw:S∉wr):∀ (k j:Nat) (s:Shared) (vb:Value) (c:Nat),Kp s->n-(j+1)=k->j+1<=n->St (j+1) s.heap->P (argBest bt j) vb ->
  s.heap.get? S=some { cls:=.type "list",data:=.seq #[vb,vb] c } ->
  (∀ (v:Value) (h':Heap) (tk:Nat),P (argBest bt (n-1)) v->(∀ (b:Addr) (o:Obj),¬ b∈wr->b≠S->s.heap.get? b=some o->h'.get? b=some o)->R (.ok (.ret v)) { s with heap:=h',toks:=tk }) ->
  codeAny (model prog w) A (.builtin "min.loop" ⟨[.ref I,.none,.ref S],kw⟩) R s
 | 0,j,s,vb,c,ks,hk,hj,st,pv,hs,h=>by
  have hn:n=j+1:=by omega
  refine codeAny_builtin F.entry_min_loop ?_;show wpAny (model prog w) A.in1 _ _ _ s
  wp_walk
  refine (show wpAny (model prog w) A.in1 (Sem.tryCatch (pyNext (.ref I)) _) _ _ _ from ?_);refine wpAny_tryCatch (W.done s _ _ (hn▸st) λh' tk kp=>?_);have hs':=kp S _ hw hs
  wp_walk using wpAny_updateSeq hs' rfl
  refine h vb _ tk (by rw [hn];exact pv) λb o hb hbS e=>?_
  exact (Heap.get?_update_other h' (Obj.mapSeq _) (Ne.symm hbS)).trans (kp b o hb e)
 | k+1,j,s,vb,c,ks,hk,hj,st,pv,hs,h=>by
  refine codeAny_builtin F.entry_min_loop ?_;show wpAny (model prog w) A.in1 _ _ _ s
  wp_walk
  refine (show wpAny (model prog w) A.in1 (Sem.tryCatch (pyNext (.ref I)) _) _ _ _ from ?_);refine wpAny_tryCatch (W.item (j+1) s _ _ (by omega) st λv h' tk pv' st' kp=>?_);have hs':=kp S _ hw hs;have ks':Kp { s with heap:=h',toks:=tk }:=hK s h' tk ks λb o hb _ e=>kp b o hb e
  have hcm:∀ {Q:Value->Shared->Prop} {E:Value->Shared->Prop},Q (.bool (bt (j+1) (argBest bt j))) { s with heap:=h',toks:=tk }->wpAny (model prog w) A.in1 (richCompare .Lt v vb) Q E { s with heap:=h',toks:=tk }:=λq=>hc j v vb _ _ _ (by omega) ks' pv' pv q
  wp_walk using hcm
  refine wpAny_tryCatch ?_
  wp_walk using hcm
  have ab:argBest bt (j+1)=if bt (j+1) (argBest bt j)=true then j+1 else argBest bt j:=rfl
  cases hb:bt (j+1) (argBest bt j) with
  | true =>
   rw [hb,if_pos rfl] at ab
   wp_walk using wpAny_updateSeq hs' rfl
   refine ⟨rfl,jc5 W bt hc hK hS hw k (j+1) _ v _ (hK _ _ _ ks' λb o _ hbS e=>(Heap.get?_update_other h' (Obj.mapSeq _) (Ne.symm hbS)).trans e) (by omega) (by omega) (W.frame _ _ _ st' λb hb' o e=>(Heap.get?_update_other h' (Obj.mapSeq _) (λ(z:S=b)=>hS (by rw [z];exact hb'))).trans e) (by rw [ab];exact pv') (PySem.IsL.update hs' _) λu h'' tk' pu kp'=>h u h'' tk' pu λb o hb' hbS e=>kp' b o hb' hbS ?_⟩;exact (Heap.get?_update_other h' (Obj.mapSeq _) (Ne.symm hbS)).trans (kp b o hb' e)
  | false =>
   rw [hb,if_neg wz] at ab
   wp_walk
   exact ⟨rfl,jc5 W bt hc hK hS hw k (j+1) _ vb _ ks' (by omega) (by omega) st' (by rw [ab];exact pv) hs' λu h'' tk' pu kp'=>h u h'' tk' pu λb o hb' hbS e=>kp' b o hb' hbS (kp b o hb' e)⟩
theorem yee (W:Walks prog w A.in1 I fp wr n P St) (bt:Nat->Nat->Bool) (hc:zd1 prog w A.in1 Kp P bt n) (hK:∀ (s:Shared) (h':Heap) (tk:Nat),Kp s->(∀ (b:Addr) (o:Obj),¬ b∈wr->b≠S->s.heap.get? b=some o->h'.get? b=some o)->Kp { s with heap:=h',toks:=tk }) (hS:S∉fp) (hw:S∉wr) {s:Shared} {c:Nat} (ks:Kp s) (h0:0<n) (st:St 0 s.heap)
  (hs:s.heap.get? S=some { cls:=.type "list",data:=.seq #[] c })
  (h:∀ (v:Value) (h':Heap) (tk:Nat),P (argBest bt (n-1)) v->(∀ (b:Addr) (o:Obj),¬ b∈wr->b≠S->s.heap.get? b=some o->h'.get? b=some o)->R (.ok (.ret v)) { s with heap:=h',toks:=tk }) :
  codeAny (model prog w) A (.builtin "min.loop" ⟨[.ref I,.none,.ref S],kw⟩) R s:=by
 refine codeAny_builtin F.entry_min_loop ?_;show wpAny (model prog w) A.in1 _ _ _ s
 wp_walk
 refine (show wpAny (model prog w) A.in1 (Sem.tryCatch (pyNext (.ref I)) _) _ _ _ from ?_);refine wpAny_tryCatch (W.item 0 s _ _ h0 st λv h' tk pv' st' kp=>?_);have hs':=kp S _ hw hs
 wp_walk using wpAny_updateSeq hs' rfl
 refine ⟨rfl,jc5 W bt hc hK hS hw (n-1) 0 _ v _ (hK _ _ _ (hK s h' tk ks λb o hb _ e=>kp b o hb e) λb o _ hbS e=>(Heap.get?_update_other h' (Obj.mapSeq _) (Ne.symm hbS)).trans e) (by omega) (by omega) (W.frame _ _ _ st' λb hb' o e=>(Heap.get?_update_other h' (Obj.mapSeq _) (λ(z:S=b)=>hS (by rw [z];exact hb'))).trans e) pv' (PySem.IsL.update hs' _) λu h'' tk' pu kp'=>h u h'' tk' pu λb o hb' hbS e=>kp' b o hb' hbS ?_⟩;exact (Heap.get?_update_other h' (Obj.mapSeq _) (Ne.symm hbS)).trans (kp b o hb' e)
theorem qcl {E:Value->Shared->Prop} {s:Shared} {x z:Value} {Q:Value->Shared->Prop}
  (h:wpAny (model prog w) A.in1 (pyIter x) (λit s₂=>∃ I fp wr n P St bt Kp,it=.ref I/\Walks prog w A.in1 I fp wr n P St/\St 0 s₂.heap/\(∀ b∈fp,b<s₂.heap.objs.size) /\
   zd1 prog w A.in1 Kp P bt n/\Kp s₂/\(∀ (s:Shared) (h':Heap) (tk:Nat),Kp s->(∀ (b:Addr) (o:Obj),¬ b∈wr->b≠s₂.heap.objs.size->s.heap.get? b=some o->h'.get? b=some o)->Kp { s with heap:=h',toks:=tk }) /\
   (n=0->∀ (h':Heap) (tk:Nat),(∀ (b:Addr) (o:Obj),¬ b∈wr->s₂.heap.get? b=some o->h'.get? b=some o)->Q z { s₂ with heap:=h',toks:=tk }) /\
   (0<n->∀ (v:Value) (h':Heap) (tk:Nat),P (argBest bt (n-1)) v->(∀ (b:Addr) (o:Obj),¬ b∈wr->s₂.heap.get? b=some o->h'.get? b=some o)->Q v { s₂ with heap:=h',toks:=tk })) E s) :
  wpAny (model prog w) A (call (.builtin "min") [x] [(Str.ofString "default",z)]) Q E s:=by
 refine wpAny_call (codeAny_call_builtin F.plain_min F.entry_min ?_)
 have chk:checkBuiltinCall "min" { pos:=[x],kw:=[(Str.ofString "default",z)] }=pure ():=by
  unfold checkBuiltinCall;rw [F.kind_min];exact ybQ x z
 rw [chk];refine wm ?_;have hi:∀ {Q':Value->Shared->Prop} {E':Value->Shared->Prop},_->(∀ e s',E e s'->E' e s')->wpAny (model prog w) A.in1 (pyIter x) Q' E' s:=λa b=>wpAny_mono h a b
 wp_walk using hi
 case a =>
  intro it s₂ hh;obtain ⟨I,fp,wr,n,P,St,bt,Kp,rfl,W,st,hfp,hc,ks,hK,q0,q1⟩:=hh;have hS:s₂.heap.objs.size∉fp:=λhm=>Nat.lt_irrefl _ (hfp _ hm)
  have kpp:∀ (b:Addr) (o:Obj),s₂.heap.get? b=some o->b≠s₂.heap.objs.size:=λb o e=>wM (wy e)
  wp_walk
  refine ⟨rfl,(?_:codeAny (model prog w) A (.builtin "min.loop" ⟨[.ref I,.none,.ref s₂.heap.objs.size],[(Str.ofString "default",z)]⟩) _ _)⟩;have st':St 0 (s₂.heap.push { cls:=.type "list",data:=.seq #[] }):=W.frame _ _ _ st λb _ o e=>wj _ e
  rcases Nat.eq_zero_or_pos n with h0 | h0
  ·exact qee W h0 st' (wt _ rfl) λh' tk kp=>q0 h0 h' tk λb o hb e=>kp b o hb (wj _ e)
  ·exact yee W bt hc hK hS (λhm=>hS (W.sub _ hm)) (hK _ _ _ ks λb o _ _ e=>wj _ e) h0 st' (wt _ rfl) λv h' tk pv kp=>q1 h0 v h' tk pv λb o hb e=>kp b o hb (kpp b o e) (wj _ e)
 case a=>exact λe s' hE=>hE
end
end Eng
end
section
namespace Eng
open PySem PySem.Spec PyProof.Rows L2
variable [Tb]
open PySem.SeqAt
open PySem.AutoSeq1 (wpAny_loadPart')
open PySem.MeetsSeq PySem.MeetsSeq2 PySem.MeetsSeq3
def qeo (n:Nat):Prop:=∀ (prog:Program) (w:World) (A:Around) (s:Shared) (dx dy:D) (k:Bool) (a b:Value) (as bs:List Addr) (Q E:Value->Shared->Prop),dep dx<=n->ltD dx dy=some k->noS dx=true->noS dy=true ->
 Reads s.heap a (toP dx) as->Reads s.heap b (toP dy) bs->A.units+3*n+8<cLine->Q (.bool k) s->wpAny (model prog w) A (richCompare .Lt a b) Q E s
theorem jbQ {x y:D} {xs ys:List D} {k:Bool} (h:qa5 (x::xs) (y::ys)=some k):jA x y=true/\((eqD x y=true/\qa5 xs ys=some k)\/(eqD x y=false/\ltD x y=some k)):=by
 rw [qa5] at h;split at h
 ·rename_i ho;refine ⟨ho,?_⟩;split at h
  ·rename_i he;exact .inl ⟨he,h⟩
  ·rename_i he;exact .inr ⟨by simpa using he,h⟩
 ·cases h
theorem zbR {n:Nat} (ih:qeo n) (l b:Addr) (items items2:Array Value) (n1 n2:Nat) (dd dd2:Option Addr) (sl sl2:Array (Option Value)) (xs ys:List D) (k:Bool) (hk:qa5 xs ys=some k) (hd:za5 xs<=n) (hx:yE xs=true) (hy:yE ys=true) :
  Meets (Builtin.«tuple.__lt__» ⟨[.ref l,.ref b],[]⟩)
   (λA R s=>A.units+3*n+10<cLine/\s.heap.get? l=some { cls:=.type "tuple",dict:=dd,data:=.seq items n1,slots:=sl }/\s.heap.get? b=some { cls:=.type "tuple",dict:=dd2,data:=.seq items2 n2,slots:=sl2 } /\
    (∃ as,ReadsAll s.heap items.toList (qaK xs) as)/\(∃ as,ReadsAll s.heap items2.toList (qaK ys) as)/\R (.ok (.ret (.bool k))) s) :=
 .of_wp λprog w A R s h=>by
  obtain ⟨hp,g,d,tk,os⟩:=s;obtain ⟨hu,hl,hb,⟨as,r1⟩,⟨bs,r2⟩,h⟩:=h
  have f2:=AutoSeq1.sub_tuple_tuple
  have len:∀ {h:Heap} {vs:List Value} {zs:List D} {as:List Addr},ReadsAll h vs (qaK zs) as->vs.length=zs.length:=by
   intro h vs zs
   induction zs generalizing vs with
   | nil=>intro as r;cases r;rfl
   | cons z zs ih=>intro as r;cases r with | cons a b=>simp [ih b]
  have z1:items.size=xs.length:=by rw [<-len r1];simp
  have z2:items2.size=ys.length:=by rw [<-len r2];simp
  wp_walk using wpAny_loadPart' hl,wpAny_loadPart' hb,wpAny_forIn_list _ (λrest b s'=>b.1=none/\s'=⟨hp,g,d,tk,os⟩/\∃ (vs ws:List Value) (xs' ys':List D),rest=vs.zip ws /\
   (∃ as,ReadsAll hp vs (qaK xs') as)/\(∃ as,ReadsAll hp ws (qaK ys') as)/\xs'.length+items2.size=ys'.length+items.size/\qa5 xs' ys'=some k/\za5 xs'<=n/\yE xs'=true/\yE ys'=true) _
  case turn =>
   rintro ⟨y,x⟩ rest b s' ⟨hb',rfl,vs,ws,xs',ys',hz,⟨as,hvi⟩,⟨bs,hwi⟩,hlen,hR,hdp,hnx,hny⟩
   match xs',hvi with
   | [],.nil=>rw [List.zip_nil_left] at hz;cases hz
   | dx::xs'',.cons ra hvi' =>
    match ys',hwi with
    | [],.nil=>rw [List.zip_nil_right] at hz;cases hz
    | dy::ys'',.cons rb hwi' =>
     rw [List.zip_cons_cons] at hz;injection hz with hyx hrest
     injection hyx with hy hx
     subst hy hx;obtain ⟨ho,hR⟩:=jbQ hR;obtain ⟨hdep,n1',n2'⟩:=eqOk_iff.mp ho;simp only [List.length_cons] at hlen;rw [yE,wg] at hnx hny;rw [za5] at hdp
     have he := eqAt_reads (toP dx) (toP dy) A.in1 ⟨hp, g, d, tk, os⟩ _ _ _ _ ra rb (jy _ n1') (jy _ n2') (by
      rw [yo,yo]
      have:min (dep dx) (dep dy)<=n:=by omega
      show A.units+1+_<_;omega)
     rw [jac _ _ n1' n2'] at he;refine we (he prog w _ _ ?_);rcases hR with ⟨e,hR⟩ | ⟨e,hR⟩
     ·rw [e]
      wp_walk
      exact ⟨rfl,rfl,_,_,_,_,hrest,⟨_,hvi'⟩,⟨_,hwi'⟩,by omega,hR,by omega,hnx.2,hny.2⟩
     ·rw [e];have hri:=λ(Q E:Value->Shared->Prop) (q:Q (.bool k) ⟨hp,g,d,tk,os⟩)=>ih prog w A.in1 ⟨hp,g,d,tk,os⟩ dx dy k _ _ _ _ Q E (by omega) hR n1' n2' ra rb (by show A.units+1+_+_<_;omega) q
      wp_walk using hri _ _
      exact ⟨_,rfl,by simpa using h⟩
  case fin =>
   rintro ⟨b1,b2⟩ s' ⟨hb',rfl,vs,ws,xs',ys',hz,⟨as,hvi⟩,⟨bs,hwi⟩,hlen,hR,_,_,_⟩;simp only at hb';subst hb'
   have hv:k=decide (items.size<items2.size):=by
    match xs',hvi with
    | [],.nil =>
     match ys',hwi with
     | [],.nil =>
      simp only [List.length_nil] at hlen;rw [qa5] at hR;cases hR;exact (vk (by omega)).symm
     | _::_,.cons _ _ =>
      simp only [List.length_nil,List.length_cons] at hlen;rw [qa5] at hR;cases hR;exact (decide_eq_true (by omega)).symm
    | _::_,.cons _ _ =>
     match ys',hwi with
     | [],.nil =>
      simp only [List.length_nil,List.length_cons] at hlen;rw [qa5] at hR;cases hR;exact (vk (by omega)).symm
     | _::_,.cons _ _=>rw [List.zip_cons_cons] at hz;cases hz
   rw [hv] at h
   wp_walk
   exact ⟨_,rfl,by simpa [Builtin.Tuple.tupleCompareSizes] using h⟩
  case h =>
   exact ⟨rfl,rfl,items.toList,items2.toList,xs,ys,rfl,⟨as,r1⟩,⟨bs,r2⟩,by omega,hk,hd,hx,hy⟩
theorem ycD:∀ n,qeo n
 | 0=>λprog w A s dx dy k a b as bs Q E hd hl hx hy r1 r2 hu q=>by
  cases dx with
  | int i =>
   cases dy with
   | int j =>
    cases r1;cases r2
    cases hl;exact HT.za7 A s i _ j _ prog w E Q q
   | _=>cases hl
  | tup xs=>rw [dep] at hd;omega
  | _=>cases dy<;>cases hl
 | n+1=>λprog w A s dx dy k a b as bs Q E hd hl hx hy r1 r2 hu q=>by
  cases dx with
  | int i =>
   cases dy with
   | int j =>
    cases r1;cases r2
    cases hl;exact HT.za7 A s i _ j _ prog w E Q q
   | _=>cases hl
  | tup xs =>
   cases dy with
   | tup ys =>
    cases r1 with
    | tuple ho hc hd1 ra =>
     cases r2 with
     | tuple ho2 hc2 hd2 rb =>
      rename_i l o items n1 l2 o2 items2 n2;obtain ⟨cls,dd,data,sl⟩:=o;obtain ⟨cls2,dd2,data2,sl2⟩:=o2;simp only at hc hd1 hc2 hd2;subst hc hd1 hc2 hd2;rw [dep] at hd
      exact richCompare_meets_room (op := .Lt) ⟨_, ho, rfl⟩ ⟨_, ho2, rfl⟩ PySem.F.slot_tuple_lt PySem.F.entry_tuple_lt (PySem.F.args_tuple_lt_2 _ _) (zbR (ycD n) _ _ items items2 n1 n2 dd dd2 sl sl2 xs ys k hl (by omega) hx hy)
       ⟨by omega,ho,ho2,⟨_,ra⟩,⟨_,rb⟩,(show Value.bool k≠Value.notImplemented/\Q (.bool k) s from ⟨(λx=>nomatch x),q⟩)⟩ (by omega)
   | _=>cases hl
  | _=>cases dy<;>cases hl
end Eng
end
section
namespace Eng
open PySem PySem.Spec PyProof.Rows L2
variable [Tb]
noncomputable def btD (ds:List D) (i j:Nat):Bool:=ltD (ds.getD i .non) (ds.getD j .non)==some true
theorem jap (ds:List D):∀ (k j:Nat) (m:D),ds.length-(j+1)=k->j<ds.length->zau (ds.getD (argBest (btD ds) j) .non) (ds.drop (j+1))=some m ->
  (∀ i,j<=i->i+1<ds.length->qcM (ds.getD (i+1) .non) (ds.getD (argBest (btD ds) i) .non)=true/\∃ b,ltD (ds.getD (i+1) .non) (ds.getD (argBest (btD ds) i) .non)=some b)/\ds.getD (argBest (btD ds) (ds.length-1)) .non=m
 | 0,j,m,hk,hj,h=>by
  have e:ds.drop (j+1)=[]:=List.drop_eq_nil_of_le (by omega);rw [e] at h;have hj':ds.length-1=j:=by omega
  exact ⟨λi h1 h2=>absurd h2 (by omega),by rw [hj'];exact wA h⟩
 | k+1,j,m,hk,hj,h=>by
  have hj1:j+1<ds.length:=by omega
  have e:ds.drop (j+1)=ds.getD (j+1) .non::ds.drop (j+1+1):=by
   rw [List.drop_eq_getElem_cons hj1];simp [List.getD,hj1]
  rw [e,zau] at h;split at h
  ·rename_i ho;obtain ⟨b,hb,h⟩:=wa h;have ab:argBest (btD ds) (j+1)=if btD ds (j+1) (argBest (btD ds) j)=true then j+1 else argBest (btD ds) j:=rfl
   have hbt:btD ds (j+1) (argBest (btD ds) j)=b:=by show (ltD _ _==some true)=b;rw [hb];cases b<;>rfl
   rw [hbt] at ab
   have h':zau (ds.getD (argBest (btD ds) (j+1)) .non) (ds.drop (j+1+1))=some m:=by
    rw [ab];cases b with
    | true=>exact h
    | false=>exact h
   obtain ⟨h1,h2⟩:=jap ds k (j+1) m (by omega) hj1 h';refine ⟨λi hi hl=>?_,h2⟩
   by_cases c:i=j
   ·subst c;exact ⟨ho,b,hb⟩
   ·exact h1 i (by omega) hl
  ·cases h
theorem zU (bt:Nat->Nat->Bool):∀ j,argBest bt j<=j
 | 0=>wB _
 | j+1=>by
  show (if bt (j+1) (argBest bt j)=true then j+1 else argBest bt j)<=j+1
  have:=zU bt j
  split<;>omega
theorem yae {ds:List D} {m:D} (h:zal ds=some m):(∀ i,i+1<ds.length->qcM (ds.getD (i+1) .non) (ds.getD (argBest (btD ds) i) .non)=true/\∃ b,ltD (ds.getD (i+1) .non) (ds.getD (argBest (btD ds) i) .non)=some b) /\
  ds.getD (argBest (btD ds) (ds.length-1)) .non=m/\0<ds.length/\noT m=true:=by
 cases ds with
 | nil=>cases h
 | cons x r =>
  obtain ⟨m',h1,h2⟩:=wa (show (zau x r).bind _=some m from h);split at h2
  ·rename_i hn;cases h2;obtain ⟨a,b⟩:=jap (x::r) ((x::r).length-1) 0 m rfl (by simp) h1;exact ⟨λi hi=>a i (Nat.zero_le _) hi,b,by simp,hn⟩
  ·cases h2
section
variable {X:Cx}
theorem yeB {pins:List (Addr×Obj)} {σ:L2.St} {H:Hp} {s:Shared} {B:Addr->Prop} {vs:List V} {ds:List D} {its:List Value} (hu:X.A.units+64<cLine) (I:L2.Inv X pins σ H s) (rs:Reps X.K B H vs ds) (rv:Vals vs its)
  (ok:∀ i,i+1<ds.length->qcM (ds.getD (i+1) .non) (ds.getD (argBest (btD ds) i) .non)=true/\∃ b,ltD (ds.getD (i+1) .non) (ds.getD (argBest (btD ds) i) .non)=some b) :
  zd1 X.prog X.w X.A.in1 (λs'=>∀ b o,s.heap.get? b=some o->s'.heap.get? b=some o) (λi v=>its.toArray[i]?=some v) (btD ds) ds.length:=by
 intro j vi vj s' Q E hj kp hi hj' q;obtain ⟨ho,b,hb⟩:=ok j hj;have hbt:btD ds (j+1) (argBest (btD ds) j)=b:=by show (ltD _ _==some true)=b;rw [hb];cases b<;>rfl
 rw [hbt] at q;simp only [qcM,wg,wF] at ho;obtain ⟨⟨hq,d1⟩,d2⟩:=ho;obtain ⟨_,n1,n2⟩:=eqOk_iff.mp hq
 have at':∀ (i:Nat) (v:Value),i<ds.length->its.toArray[i]?=some v->noS (ds.getD i .non)=true->∃ as,Reads s'.heap v (toP (ds.getD i .non)) as:=λi v hi hv hn=>by
  have hd:ds[i]?=some (ds.getD i .non):=by simp [List.getD,hi]
  obtain ⟨x,hx,rx⟩:=rs.get hd;obtain ⟨u,hu',ru⟩:=rv.get hx
  have:its[i]?=some v:=by simpa using hv
  rw [hu'] at this;cases this
  obtain ⟨as,r⟩:=rx.reads I ru hn;exact ⟨as,Reads.keeps kp r⟩
 have hle:=zU (btD ds) j;obtain ⟨as,r1⟩:=at' (j+1) vi hj hi n1;obtain ⟨bs,r2⟩:=at' (argBest (btD ds) j) vj (by omega) hj' n2;exact ycD 8 X.prog X.w X.A.in1 s' _ _ b vi vj as bs Q E d1 hb n1 n2 r1 r2 (by show X.A.units+1+3*8+8<cLine;omega) q
variable {C:Tab}
theorem jee (hc:X.calm=true) (hu:X.A.units+64<cLine) {pins:List (Addr×Obj)} {σ:L2.St} {H:Hp} {s:Shared} {B:Addr->Prop} {v z:V} {u w:Value} {dx dz d:D} {Q:VK} (I:L2.Inv X pins σ H s) (hb:HB B H) (rx:Rep X.K B H v dx) (rz:Rep X.K B H z dz) (ru:L2.RelV v u) (rw':L2.RelV z w)
  (e:qy .minD [dx,dz]=some d) (q:∀ v,Rep X.K B H v d->Q v H):wpAny (model X.prog X.w) X.A (call (.builtin "min") [u] [(Str.ofString "default",w)]) (EP X pins σ Q) X.xe s:=by
 obtain ⟨ds,hds,e⟩:=wa (show (itemsD dx).bind (λxs=>match xs with | []=>some dz | _=>zal xs)=some d from e);obtain ⟨t,a,vs,rfl,sq,_,rs⟩:=rx.srcT hb hds;cases ru;obtain ⟨its,rits,p,hz⟩:=I.sseq sq;have hsz:its.toArray.size=ds.length:=by rw [vh,<-rits.length,rs.length]
 have halt:a<s.heap.objs.size:=by obtain ⟨o,_,ho,_⟩:=p.ob;exact wy ho
 have hm:0<ds.length->zal ds=some d:=λh=>by
  cases ds with
  | nil=>exact absurd h (by simp)
  | cons a r=>exact e
 refine qcl (yt p ⟨s.heap.objs.size,_,_,its.toArray.size,_,_,btD ds,λs'=>∀ b o,s.heap.get? b=some o->s'.heap.get? b=some o,rfl,jB (by simp [I.ok.hd hc]) t s.heap.objs.size a (wM halt) its.toArray,⟨SItr.fresh t s.heap a,p.at λo e=>wj _ e⟩,λb hb=>?_,?_,λb o e=>wj _ e,λs' h' tk k1 k2 b o e=>?_,λh0 h' tk kp=>?_,λhpos v h' tk hv kp=>?_⟩)
 ·show b<(s.heap.push _).objs.size;rw [Heap.size_push];simp only [wu,List.not_mem_nil,or_false] at hb;rcases hb with rfl | rfl
  ·exact Nat.lt_succ_self _
  ·exact Nat.lt_succ_of_lt halt
 ·rw [hsz];refine yeB hu I rs rits λi hi=>(yae (hm (by omega))).1 i hi
 ·have hlt:=wy e;refine k2 b o (by simp only [wu,List.not_mem_nil,or_false];exact wM hlt) (wM ?_) (k1 b o e);show b<(s.heap.push _).objs.size;rw [Heap.size_push];exact Nat.lt_succ_of_lt hlt
 ·rw [hsz] at h0
  have:ds=[]:=List.length_eq_zero_iff.mp h0
  subst this;cases e;exact ⟨z,H,I.kept (t':=tk) (qaz kp),rw',q _ rz⟩
 ·rw [hsz] at hv hpos;obtain ⟨_,hm2,_,_⟩:=yae (hm hpos);have hlt:argBest (btD ds) (ds.length-1)<ds.length:=by have:=zU (btD ds) (ds.length-1);omega
  have hd:ds[argBest (btD ds) (ds.length-1)]?=some d:=by rw [<-hm2];simp [List.getD,hlt]
  obtain ⟨x,hx,rx'⟩:=rs.get hd;obtain ⟨u,hu',ru⟩:=rits.get hx
  have:its[argBest (btD ds) (ds.length-1)]?=some v:=by simpa using hv
  rw [hu'] at this;cases this
  exact ⟨x,H,I.kept (t':=tk) (qaz kp),ru,q _ rx'⟩
theorem zc6 {a e:Expr} {ca ce:Code} {p kp pos:Pos} (hc:X.calm=true) (hu:X.A.units+64<cLine) (hg:Gl X "min") (hm:X.mg "min"=none) (hv:bootBuiltins "min"=some (.builtin "min")) (ha:SE X C a ca) (he:SE X C e ce) (hs:starEach [a] X.env=[(false,eval a X.env)]) :
  SE X C (.Call (.Name "min" p) [a] [⟨some "default",e,kp⟩] pos) (.blt .minD (.cons ca (.cons ce .nil))):=λB ρ d h=>by
 obtain ⟨dxs,exs',e'⟩:=wa (show (evs C (.cons ca (.cons ce .nil)) ρ).bind _=some d from h);obtain ⟨dx,ex,e1⟩:=wa (show (ev C ca ρ).bind _=some dxs from exs');obtain ⟨dr,er,rfl⟩:=wb e1;obtain ⟨dz,ez,e2⟩:=wa (show (ev C ce ρ).bind _=some dr from er);obtain ⟨dn,en,rfl⟩:=wb e2;cases en;intro pins s σ H Q I ⟨h1,h2,q⟩;refine wpAny_Call_Name_kw (yO I hg hm hv ?_ (by decide) (by decide));have hpa:PA X [a] (tDs X.K B ρ [dx]):=yi ha jq hs B ρ [dx] (by rw [evs,ex];rfl);refine callWith_kw (thn (hpa pos pins s σ H (λvs H1=>Same H H1/\Reps X.K B H1 vs [dx]) I ⟨h1,h2,λvs H' sm r=>⟨sm,r⟩⟩) λus s1 ⟨vs,H1,I1,r1,sm1,rr1⟩=>?_) (by rw [hs];rfl) (by rw [hs];rfl) rfl rfl;refine kws_cons (thn (he B ρ dz ez pins s1 σ H1 (λv H'=>Same H1 H'/\Rep X.K B H' v dz) I1 ⟨h1.same sm1,h2.same sm1,λv H' sm r=>⟨sm,r⟩⟩) λw s2 ⟨z,H2,I2,r2,sm2,rr2⟩=>kws_nil ?_);obtain ⟨v,rfl,rv⟩:=(rr1.same sm2).one;obtain ⟨u,rfl,ru⟩:=r1.one;exact jee hc hu I2 ((h1.same sm1).same sm2) rv rr2 ru r2 e' λv r=>q v H2 (sm1.trans sm2) r
end
section
variable {X:Cx} {pins:List (Addr×Obj)} {σ:L2.St} {H:Hp} {s:Shared} {B:Addr->Prop}
theorem jaN (I:L2.Inv X pins σ H s) {dx:D} (nx:noS dx=true):∀ {vs:List V} {ds:List D} {us:List Value},Reps X.K B H vs ds->Vals vs us->yE ds=true->us.countP (zak s.heap (toP dx))=qbw dx ds
 | _,_,_,.nil,r,_=>by cases r;rfl
 | _,_,_,.cons a rs,r,h=>by
  cases r with
  | cons r1 r2 =>
   rw [yE,wg] at h;obtain ⟨as,z⟩:=a.reads I r1 h.1;rw [List.countP_cons,jT z,jac _ _ h.1 nx,jaN I nx rs r2 h.2,qbw,Nat.add_comm]
end
section
variable {X:Cx} {C:Tab} {a b:Expr} {ca cb:Code}
theorem ycl (hu:X.A.units+64<cLine):MtR X "tuple.count" (λx xs H Q=>∃ a vs B ds y dy,x=.ref a/\xs=[y]/\H a=some (.tup vs)/\Reps X.K B H vs ds/\Rep X.K B H y dy/\jA dy (.tup ds)=true/\Q (.int (qbw dy ds)) H):=by
 intro pins s σ H x xs v us Q I rx rv ⟨a,vs,B,ds,y,dy,e1,e2,ha,rs,ry,ho,q⟩;subst e1;subst e2
 cases rx;obtain ⟨u,rfl,ru⟩:=rv.one;obtain ⟨h1,h2,h3⟩:=eqOk_iff.mp ho;obtain ⟨_,its,rits,⟨cls,dd,data,sl⟩,e,hc,hd,n,hdt⟩:=I.hok a _ ha;simp only at hc hdt;subst hc hdt;obtain ⟨bs,rb⟩:=ry.reads I ru h2;refine call_meets F.slot_tuple_count ⟨_,e,rfl⟩ F.entry_tuple_count (F.args_tuple_count_2 _ _) (SeqAt.tuple_countAt a its.toArray n dd sl u (zak s.heap (toP dy))) ⟨e,λy' hy'=>?_,?_⟩
 ·obtain ⟨d,hd',as,z⟩:=qC I rs rits h3 y' (by simpa using hy');rw [jT z]
  have hn:noS d=true:=by
   have all:∀ {ds:List D},yE ds=true->d∈ds->noS d=true:=by
    intro ds
    induction ds with
    | nil=>intro _ h;cases h
    | cons x xs ih =>
     intro h1 h;rw [yE,wg] at h1;rcases wu.mp h with e | e
     ·rw [e];exact h1.1
     ·exact ih h1.2 e
   exact all h3 hd'
  refine SeqAt.eqAt_reads _ _ _ _ _ _ _ _ z rb (jy _ hn) (jy _ h2) ?_;rw [yo,yo]
  have:=j5 hd'
  show X.A.units+1+_<_;rcases h1 with z | z
  ·omega
  ·rw [dep] at z;omega
 ·refine ⟨.int (qbw dy ds),H,I.tok _,⟨s.toks,?_⟩,q⟩
  have:its.toArray.toList.countP (zak s.heap (toP dy))=qbw dy ds:=jaN I h2 rs rits h3
  rw [this]
theorem jcl {apos cpos:Pos} (hu:X.A.units+64<cLine) (ha:SE X C a ca) (hb:SE X C b cb) (hbase:attributeBase a "count" X.env (eval a X.env)=eval a X.env) (hline:(apos.endLine==cpos.line)=true) (hsb:starEach [b] X.env=[(false,eval b X.env)]) :
  SE X C (.Call (.Attribute a "count" apos) [b] [] cpos) (.blt .count (.cons ca (.cons cb .nil))):=λB ρ d e=>by
 obtain ⟨dxs,exs',e⟩:=wa (show (evs C (.cons ca (.cons cb .nil)) ρ).bind _=some d from e);obtain ⟨dx,ex,e1⟩:=wa (show (ev C ca ρ).bind _=some dxs from exs');obtain ⟨dr,er,rfl⟩:=wb e1;obtain ⟨dy,ey,e2⟩:=wa (show (ev C cb ρ).bind _=some dr from er);obtain ⟨dn,en,rfl⟩:=wb e2;cases en;cases dx with
 | tup xs =>
  have e:(if jA dy (.tup xs) then some (D.int (qbw dy xs)) else none)=some d:=e;split at e
  ·rename_i ho;cases e;have hpa:PA X [b] (tDs X.K B ρ [dy]):=yi hb jq hsb B ρ _ (by rw [evs,ey];rfl);refine (ybL F.plainAttrs_tuple F.slot_tuple_count F.type_tuple_count (ycl hu) (ha B ρ _ ex) hpa hbase (by rw [hsb];rfl) hline hsb (by rfl)).imp λσ H Q ⟨h1,h2,q⟩=>?_
   refine ⟨h1,h2,λx H1 s1 r1=>?_⟩;obtain ⟨l,vs,rfl,hl,rl⟩:=r1.tupD;refine ⟨zbM hl,h1.same s1,h2.same s1,λws H2 s2 r2=>?_⟩;obtain ⟨y,rfl,ry⟩:=r2.one;exact ⟨l,vs,B,xs,y,dy,rfl,rfl,s2 _ _ hl,rl.same s2,ry,ho,q _ H2 (s1.trans s2) (.int _)⟩
  ·cases e
 | _=>cases e
end
end Eng
end
section
namespace Eng
open PySem PySem.Spec PyProof.Rows L2
variable [Tb]
open PySem.W (KasT kas_asc kas_count kas_sort kas_ask kas_item kat_run kat_snds kat_lt KatLex KatGo KatTups kat_kind kat_cons kat_no kat_go Looks)
theorem qbR:∀ {l m:List Int},l.Perm m->l.Pairwise (·<=·)->l=sortI m:=λ{l m} hp hs=>by
 exact ym (hp.trans (sortI_perm m).symm) hs (zq m)
theorem intsAre_of:∀ {ns:List Int} {its:List Value},Vals (ns.map V.int) its->IntsAre its ns
 | [],_,r=>by cases r;exact .nil
 | n::ns,_,r=>by
  cases r with
  | cons a r=>obtain ⟨t,rfl⟩:=a;exact .cons n t (intsAre_of r)
section
variable {X:Cx} {pins:List (Addr×Obj)} {σ:L2.St} {H:Hp} {s:Shared} {B:Addr->Prop}
theorem zaO:qw X (.builtin "sorted") (rDs X.K (qy .sorted)):=by
 intro pins s σ H xs us Q I rv ⟨B,dx,d,hb,r,e,q⟩
 obtain ⟨ds,rfl,h64,e⟩:∃ ds,dx=[.lst ds]/\ds.length<64/\ycv ds=some d:=by
  match dx,e with
  | [.lst ds],e =>
   have e:(if ds.length<64 then ycv ds else none)=some d:=e;split at e
   ·rename_i h;exact ⟨ds,rfl,h,e⟩
   ·cases e
 obtain ⟨v,rfl,rx⟩:=r.one;obtain ⟨a,vs,rfl,na,ha,ra⟩:=rx.lstD;obtain ⟨u,rfl,ru⟩:=rv.one;cases ru;obtain ⟨its,rits,⟨o,n,ho,hc,_,hd⟩,hz⟩:=I.list (SqL.of ha);have hl:its.length=ds.length:=by rw [<-rits.length,ra.length]
 have fin:∀ (out:Array Value) (ws:List V) (es:List D),d=.lst es->Vals ws out.toList->ws.length<64->Reps X.K B H ws es->EP X pins σ Q (.ref (s.heap.objs.size+1)) { s with heap:=sortedAll s.heap its out }:=λout ws es hd' rw' hw rs=>by
  subst hd';obtain ⟨ep,hat⟩:=sortedAll_at s.heap its out;have hn:H (s.heap.objs.size+1)=none:=I.hok.fresh (Nat.le_succ _);exact ⟨.ref (s.heap.objs.size+1),upd H (s.heap.objs.size+1) (.lst ws),I.laid (t':=s.toks) (λb o e=>sortedAll_old e) (Nat.le_succ _) ⟨by rw [sizeLine_eq];omega,out.toList,ep,rw',by rw [Array.toArray_toList];exact hat⟩,rfl,q _ _ (qa hn _) (.newL hb hn rs) λ_ _=>⟨_,rfl,hn⟩⟩
 unfold ycv at e;split at e
 ·rename_i ns hns;cases e;have hv:=ra.ints hns;subst hv;refine sorted_ints ⟨o,ho,hc,n,hd⟩ (intsAre_of rits) (by omega) λout ns' h1 h2 h3=>?_
  have e1:=qbR h2 h3;subst e1;refine fin out ((sortI ns).map V.int) _ rfl (qF h1) ?_ (Reps.of_ints _);rw [wC,(sortI_perm ns).length_eq];rw [wC] at hz
  have:=rits.length
  rw [wC] at this;omega
 ·cases e
end
end Eng
end
section
namespace Eng
open PySem PySem.Spec PyProof.Rows L2
variable [Tb]
section
variable {X:Cx} {pins:List (Addr×Obj)} {σ:L2.St} {H:Hp} {s:Shared} {B:Addr->Prop}
theorem qaO (I:L2.Inv X pins σ H s) {dx:D} (nx:noS dx=true):∀ {vs:List V} {ds:List D} {us:List Value} {i:Nat},Reps X.K B H vs ds->Vals vs us->yE ds=true->Eng.idxOf dx ds=some i->(∃ u,us[i]?=some u/\zak s.heap (toP dx) u=true)/\∀ (m:Nat) (u:Value),us[m]?=some u->m<i->zak s.heap (toP dx) u=false
 | _,_,_,_,.nil,r,_,e=>by cases e
 | _,_,_,i,.cons (d:=d) (ds:=ds) a rs,r,h,e=>by
  cases r with
  | @cons _ u _ us r1 r2 =>
   rw [yE,wg] at h;obtain ⟨as,z⟩:=a.reads I r1 h.1;have hq:zak s.heap (toP dx) u=eqD d dx:=by rw [jT z,jac _ _ h.1 nx]
   rw [Eng.idxOf] at e;cases hd:eqD d dx with
   | true =>
    rw [hd,if_pos rfl] at e;cases e;exact ⟨⟨u,rfl,by rw [hq,hd]⟩,λm u' _ hm=>absurd hm (Nat.not_lt_zero _)⟩
   | false =>
    rw [hd,if_neg wz] at e;obtain ⟨j,ej,rfl⟩:=wb e;obtain ⟨h1,h2⟩:=qaO I nx rs r2 h.2 ej;refine ⟨by simpa using h1,λm u' hm hlt=>?_⟩;cases m with
    | zero =>
     have:u=u':=by simpa using hm
     rw [<-this,hq,hd]
    | succ m=>exact h2 m u' (by simpa using hm) (by omega)
end
section
variable {X:Cx} {C:Tab} {a b:Expr} {ca cb:Code}
theorem zcm (hu:X.A.units+64<cLine):MtR X "tuple.index" (λx xs H Q=>∃ a vs B ds y dy,x=.ref a/\xs=[y]/\H a=some (.tup vs)/\Reps X.K B H vs ds/\Rep X.K B H y dy/\jA dy (.tup ds)=true/\∃ i,Eng.idxOf dy ds=some i/\Q (.int (i:Nat)) H):=by
 intro pins s σ H x xs v us Q I rx rv ⟨a,vs,B,ds,y,dy,e1,e2,ha,rs,ry,ho,i,hi,q⟩;subst e1;subst e2
 cases rx;obtain ⟨u,rfl,ru⟩:=rv.one;obtain ⟨h1,h2,h3⟩:=eqOk_iff.mp ho;obtain ⟨_,its,rits,⟨cls,dd,data,sl⟩,e,hc,hd,n,hdt⟩:=I.hok a _ ha;simp only at hc hdt;subst hc hdt;obtain ⟨bs,rb⟩:=ry.reads I ru h2;obtain ⟨⟨u0,hu0,hit⟩,hno⟩:=qaO I h2 rs rits h3 hi
 have hlt:i<its.toArray.size:=by
  have:=(wq.mp hu0).1
  simpa using this
 refine call_meets F.slot_tuple_index ⟨_, e, rfl⟩ F.entry_tuple_index (F.args_tuple_index_2 _ _) (jay a its.toArray n dd sl u (zak s.heap (toP dy)) i hlt (by
  have e2:its.toArray[i]=u0:=by
   have:=(wq.mp hu0).2
   simpa using this
  rw [e2];exact hit) λm hm hlt'=>hno m _ (by simp at hm ⊢) hlt') ⟨e,λy' hy'=>?_,?_⟩
 ·obtain ⟨d,hd',as,z⟩:=qC I rs rits h3 y' (by simpa using hy');rw [jT z]
  have hn:noS d=true:=by
   have all:∀ {ds:List D},yE ds=true->d∈ds->noS d=true:=by
    intro ds
    induction ds with
    | nil=>intro _ h;cases h
    | cons x xs ih =>
     intro h1 h;rw [yE,wg] at h1;rcases wu.mp h with e | e
     ·rw [e];exact h1.1
     ·exact ih h1.2 e
   exact all h3 hd'
  refine SeqAt.eqAt_reads _ _ _ _ _ _ _ _ z rb (jy _ hn) (jy _ h2) ?_;rw [yo,yo]
  have:=j5 hd'
  show X.A.units+1+_<_;rcases h1 with z | z
  ·omega
  ·rw [dep] at z;omega
 ·exact ⟨.int (i:Nat),H,I.tok _,⟨s.toks,rfl⟩,q⟩
theorem qcm {apos cpos:Pos} (hu:X.A.units+64<cLine) (ha:SE X C a ca) (hb:SE X C b cb) (hbase:attributeBase a "index" X.env (eval a X.env)=eval a X.env) (hline:(apos.endLine==cpos.line)=true) (hsb:starEach [b] X.env=[(false,eval b X.env)]) :
  SE X C (.Call (.Attribute a "index" apos) [b] [] cpos) (.blt .index (.cons ca (.cons cb .nil))):=λB ρ d e=>by
 obtain ⟨dxs,exs',e⟩:=wa (show (evs C (.cons ca (.cons cb .nil)) ρ).bind _=some d from e);obtain ⟨dx,ex,e1⟩:=wa (show (ev C ca ρ).bind _=some dxs from exs');obtain ⟨dr,er,rfl⟩:=wb e1;obtain ⟨dy,ey,e2⟩:=wa (show (ev C cb ρ).bind _=some dr from er);obtain ⟨dn,en,rfl⟩:=wb e2;cases en;cases dx with
 | tup xs =>
  have e:(if jA dy (.tup xs) then (Eng.idxOf dy xs).map (λi:Nat=>D.int (i:Int)) else none)=some d:=e;split at e
  ·rename_i ho;obtain ⟨i,hi,rfl⟩:=wb e;have hpa:PA X [b] (tDs X.K B ρ [dy]):=yi hb jq hsb B ρ _ (by rw [evs,ey];rfl);refine (ybL F.plainAttrs_tuple F.slot_tuple_index F.type_tuple_index (zcm hu) (ha B ρ _ ex) hpa hbase (by rw [hsb];rfl) hline hsb (by rfl)).imp λσ H Q ⟨h1,h2,q⟩=>?_
   refine ⟨h1,h2,λx H1 s1 r1=>?_⟩;obtain ⟨l,vs,rfl,hl,rl⟩:=r1.tupD;refine ⟨zbM hl,h1.same s1,h2.same s1,λws H2 s2 r2=>?_⟩;obtain ⟨y,rfl,ry⟩:=r2.one;exact ⟨l,vs,B,xs,y,dy,rfl,rfl,s2 _ _ hl,rl.same s2,ry,ho,i,hi,q _ H2 (s1.trans s2) (.int _)⟩
  ·cases e
 | _=>cases e
end
def ybR (X:Cx):Prop:=∃ c P pos,X.env.code=.ref c/\PySem.W.codeHdIn X.K c P=true/\(P,pos,X.env.qual++"<lambda>")∈Tb.tabs
theorem zaq {p q:Pos} {c cv:Value}:∀ (l:List Value),TriplesOk l->codeAmong q (l++[rawInt p.line,rawInt p.col,c])=some cv->codeAmong q l=some cv\/cv=c
 | [],_,h=>by
  have h:(if ((p.line:Int)==q.line&&(p.col:Int)==q.col)=true then some c else none)=some cv:=h;split at h
  ·exact .inr (wA h).symm
  ·cases h
 | .int l t::.int k u::x::r,ht,h=>by
  have h:(if (l==q.line&&k==q.col)=true then some x else codeAmong q (r++[rawInt p.line,rawInt p.col,c]))=some cv:=h;show (if (l==q.line&&k==q.col)=true then some x else codeAmong q r)=some cv\/_;split at h
  ·rename_i e;rw [if_pos e];exact .inl h
  ·rename_i e;rw [if_neg e];exact zaq r ht h
def FnL (H:Hp) (fa c:Addr) (qual:Str) (fo:Obj):Prop:=H fa=some (.frz fo (.own fa))/\∃ oc u vs t,H c=some (.frz oc u)/\oc.data=.fields vs/\vs[1]?=some (.str qual t)
theorem FnL.same {H H':Hp} {fa c:Addr} {q:Str} {fo:Obj} (h:FnL H fa c q fo) (s:Same H H'):FnL H' fa c q fo :=
 let ⟨h1,oc,u,vs,t,h2,h3,h4⟩:=h;⟨s _ _ h1,oc,u,vs,t,s _ _ h2,h3,h4⟩
section
variable {X:Cx} {pins:List (Addr×Obj)} {σ:L2.St} {H:Hp} {s:Shared} {B:Addr->Prop}
theorem FnL.code {fa c:Addr} {q:Str} {fo:Obj} (h:FnL H fa c q fo) (I:L2.Inv X pins σ H s):s.heap.CodeRec (.ref c) q :=
 let ⟨_,oc,u,vs,t,h2,h3,h4⟩:=h;⟨c,oc,vs,t,rfl,(I.hok c _ h2).1,h3,h4⟩
theorem ybe {params:Arguments} {body:Expr} {scope:Scope} {pos:Pos} (hdef:defaultsOf params X.env=([],[])) (hfr:∀ x∈scope.names,x.2=.free->(X.env.cells.lookup x.1).isSome=true) (hl:ybR X) (I:L2.Inv X pins σ H s) (hb:HB B H)
  {Q E:Value->Shared->Prop}
  (h:∀ (fa c:Addr) (pm ctv:Value) (H':Hp) (s':Shared),L2.Inv X pins σ H' s'->Same H H'->FnL H' fa c (X.env.qual++"<lambda>") (PySem.W.kla_obj "<lambda>" (X.env.qual++"<lambda>") params body scope (qI X.env.cells scope.names []) pm c ctv)->Q (.ref fa) s') :
  wpAny (model X.prog X.w) X.A (eval (.Lambda params body scope pos) X.env) Q E s:=by
 obtain ⟨c,P,pos',hcode,hcd,hmem⟩:=hl;have hP:=hb.t _ hmem;obtain ⟨ps,eP,ht,hq⟩:=I.hok P _ hP;have C:=PySem.W.codeHd_of_K I.kIn hcd;have hg:=I.mod.glob.keeps I.bk;obtain ⟨bm,ob,b1,b2,b3,b4,b5,b6⟩:=I.mod.bmod;have b3':=I.bk _ _ b3
 have hgP:mainGlobals≠P:=λq=>by
  obtain ⟨o,es,ep,e,hd,_⟩:=hg;rw [q,eP] at e;cases e;cases hd
 have hbP:bm≠P:=λq=>by rw [q,eP] at b3';cases b3';cases b4
 have hbG:bm≠mainGlobals:=λq=>by
  obtain ⟨o,es,ep,e,hd,_⟩:=hg;rw [q,e] at b3';cases b3';rw [hd] at b6;cases b6
 have bA:s.heap.BuiltinsAt X.mg P:=⟨bm,ob,b1,b2,hbG,hbP,b3',b4,b5,b6⟩;refine PySem.W.kla_eval hdef ?_;cases hf:codeAmong pos ps.toList with
 | some cv =>
  obtain ⟨c',oc,u,vs,t,rfl,hc1,hc2,hc3⟩:=hq pos cv hf;refine PySem.W.kla_makeFunctionHit (yI hfr) I.ok.glob hg hcode C eP ht hf bA λctv h' tk hk hsz=>?_
  have hfn:H h'.objs.size=none:=I.hok.fresh hsz;exact h h'.objs.size c' _ ctv _ _ (I.laid (o:=.frz _ (.own h'.objs.size)) (t':=tk) (λb u e=>wj _ (hk b u e)) hsz ⟨wt _ rfl,_,wt _ rfl⟩) (qa hfn _) ⟨ja,oc,u,vs,t,qa hfn _ _ _ hc1,hc2,hc3⟩
 | none =>
  refine PySem.W.kla_makeFunction (yI hfr) I.ok.glob hg hcode C eP ht hf hgP bA λc' ctv h' tk hx hge hlt hrec htb=>?_
  obtain ⟨c₂,oc,vs,t,e2,hoc,hd,hv⟩:=hrec;cases e2;have hcn:H c'=none:=I.hok.fresh hge;have hfz:s.heap.objs.size<=h'.objs.size:=wQ hge (Nat.le_of_lt hlt);have hfn:H h'.objs.size=none:=I.hok.fresh hfz;have hcf:c'≠h'.objs.size:=wM hlt;obtain ⟨fo,hfo⟩:∃ fo,fo=PySem.W.kla_obj "<lambda>" (X.env.qual++"<lambda>") params body scope (qI X.env.cells scope.names []) ((X.mg "__name__").getD .none) c' ctv:=⟨_,rfl⟩;obtain ⟨H1,hH1⟩:∃ H1,H1=upd (upd H c' (.frz oc (.own c'))) h'.objs.size (.frz fo (.own h'.objs.size)):=⟨_,rfl⟩;have at_f:H1 h'.objs.size=some (.frz fo (.own h'.objs.size)):=by rw [hH1];exact ja
  have at_c:H1 c'=some (.frz oc (.own c')):=by rw [hH1,ya hcf];exact ja
  have at_o:∀ b,b≠c'->b≠h'.objs.size->H1 b=H b:=λb n1 n2=>by rw [hH1,ya n2,ya n1]
  have sm:Same H H1:=λb o e=>by
   rw [at_o b (λz=>by rw [z,hcn] at e;cases e) (λz=>by rw [z,hfn] at e;cases e)];exact e
  have neP:∀ b,H b=none->b≠P:=λb n z=>by rw [z,hP] at n;cases n
  have kp:∀ b o,b≠P->s.heap.get? b=some o->(h'.push fo).get? b=some o:=λb o n e=>wj _ (hx b o n e)
  have fP:(h'.push fo).get? P=some (PySem.W.tabObj (ps++#[rawInt pos.line,rawInt pos.col,.ref c'])):=wj _ htb;rw [<-hfo]
  have I1:L2.Inv X pins σ H1 { s with heap:=h'.push fo,toks:=tk }:=by
   refine I.un ⟨λb o e n _ _=>kp b o (neP b n) e,λb o e n _ _=>⟨o.slots,kp b o (neP b n) e⟩,λb o e n _=>?_,λb o e _=>?_,λb xs e=>sm b _ e,λb o u e=>sm b _ e,λb p q e=>sm b _ e⟩ λa o e=>?_
   ·have hlt':=wy e;rw [at_o b (wM (wL hlt' hge)) (wM (wL hlt' hfz))];exact n
   ·by_cases z:b=P
    ·exact ⟨_,z▸fP⟩
    ·exact ⟨o,kp b o z e⟩
   ·by_cases z:a=h'.objs.size
    ·subst z;rw [at_f] at e;cases e
     exact ⟨wt _ (by rw [hfo];rfl),_,wt _ (by rw [hfo];rfl)⟩
    ·by_cases y:a=c'
     ·subst y;rw [at_c] at e;cases e
      exact ⟨wj _ hoc,_,wj _ hoc⟩
     ·rw [at_o a y z] at e
      by_cases x:a=P
      ·subst x;rw [hP] at e;cases e
       refine ⟨_,fP,by rw [Array.toList_append];exact TriplesOk_snoc _ _ _ _ ht,λp cv q=>?_⟩;rw [Array.toList_append] at q;rcases zaq ps.toList ht q with z | rfl
       ·obtain ⟨c2,oc2,u2,vs2,t2,z1,z2,z3⟩:=hq p cv z;exact ⟨c2,oc2,u2,vs2,t2,z1,sm _ _ z2,z3⟩
       ·exact ⟨c',oc,_,vs,t,rfl,at_c,hd,hv⟩
      ·refine (I.hok a o e).stay (λb u hb q=>kp b u (λw=>?_) q) (λb q=>sm b _ q) (λb xs q=>sm b _ q) λb o u q=>sm b _ q
       rcases hb with w' | w'
       ·exact x (w'.symm.trans w)
       ·rw [w,hP] at w';cases w'
  exact h _ c' _ ctv H1 _ I1 sm (by rw [<-hfo];exact ⟨at_f,oc,_,vs,t,at_c,hd,hv⟩)
end
noncomputable def jbR (X:Cx) (scope:Scope) (L fa:Addr) (cd:Value):Env:=newEnv scope L mainGlobals (qI X.env.cells scope.names []) (X.env.qual++"<lambda>"++".<locals>.") (some fa) cd none builtinsNs
@[reducible] def up (n:Nat) (A:Around):Around:={ A with units:=A.units+n }
noncomputable def lam (X:Cx) (n:Nat) (N':List Str) (scope:Scope) (s₀:Shared) (H₀:Hp) (fa:Addr) (cd:Value):Cx :=
 { X with A:=(up n X.A).deeper (jbR X scope s₀.heap.objs.size fa cd),N:=N',s₀:=s₀,H₀:=H₀,env:=jbR X scope s₀.heap.objs.size fa cd,outer:=X.stack,stack:=jbR X scope s₀.heap.objs.size fa cd::X.stack,ex:=[],fn:=λ_=>false,pn:=[],xe:=λ_ _=>False }
section
variable {X:Cx} {pins:List (Addr×Obj)} {σ:L2.St} {H:Hp} {s:Shared}
theorem qdO {n:Nat} {N':List Str} {scope:Scope} {fa:Addr} {cd:Value} (I:L2.Inv X pins σ H s) (hk:scope.kind=.function) (hnc:∀ x∈scope.names,x.2≠.cell) (hfr:∀ x∈scope.names,x.2=.free->X.env.kindOf x.1=some .cell\/X.env.kindOf x.1=some .free):(lam X n N' scope s H fa cd).Ok:=by
 have hs:∀ x∈scope.names,x.2=.free->(X.env.cells.lookup x.1).isSome=true:=λx hx hx2=>by
  obtain ⟨c,e⟩:=I.ok.has x.1 (hfr x hx hx2);rw [e];rfl
 have look:∀ x c,(qI X.env.cells scope.names []).lookup x=some c->X.env.cells.lookup x=some c:=qz _ _ _ hs (λx c e=>by simp at e);refine ⟨I.ok.mod,hk,rfl,rfl,wB _,λx y c h1 h2=>I.ok.inj x y c (look x c h1) (look y c h2),λx hx=>?_,λx c hfn _=>(by cases hfn),I.ok.hd,Around.frames_deeper I.ok.frames,.inr ⟨rfl,rfl⟩,λb z=>absurd z List.not_mem_nil,I.bs,wQ I.ok.bsz I.sz,λb _ _=>List.not_mem_nil,λb z=>absurd z List.not_mem_nil,I.stack,I.stkFree⟩;have hx':scope.names.lookup x=some .cell\/scope.names.lookup x=some .free:=hx;rcases hx' with z | z
 ·exact absurd rfl (hnc _ (wZ z))
 ·exact w6.mp (jI _ _ _ x (.inl (wZ z)))
theorem qc6 {n:Nat} {N':List Str} {scope:Scope} {fa:Addr} {cd:Value} {h':Heap} {tk:Nat} {m:Str->Option Value} {σ':L2.St} {y:Str} {v0:V} {u0:Value} (I:L2.Inv X pins σ H s) (ok:(lam X n N' scope s H fa cd).Ok) (hn:h'.Ns s.heap.objs.size m) (hm:m y=some u0) (hy:scope.names.lookup y=some .local) (r0:L2.RelV v0 u0)
  (hk:∀ b o,s.heap.get? b=some o->h'.get? b=some o) (hl:σ'.length=N'.length) (hfr:∀ x∈scope.names,x.2=.free->(X.env.cells.lookup x.1).isSome=true)
  (hσ:∀ (i:Nat) (x:Str) (v:V),N'[i]?=some x->σ'[i]?=some (some v)->(x=y/\v=v0)\/(scope.names.lookup x=some .free/\∃ j:Nat,X.N[j]?=some x/\σ[j]?=some (some v)/\(X.env.scope.names.lookup x=some .cell\/X.env.scope.names.lookup x=some .free))) :
  L2.Inv (lam X n N' scope s H fa cd) [] σ' H { s with heap:=h',toks:=tk }:=by
 have look:∀ x c,(qI X.env.cells scope.names []).lookup x=some c->X.env.cells.lookup x=some c:=qz _ _ _ hfr (λx c e=>by simp at e);have cellK:∀ c v,s.heap.IsCell c v->h'.IsCell c v:=λc v ⟨o,ho,hd⟩=>⟨o,hk c o ho,hd⟩
 refine ⟨ok,rfl,I.bare,Un.kept hk,⟨m,hn,λi x v e1 e2 _=>?_⟩,λx c e=>?_,I.fresh,λx c e=>I.freeC x c (look x c e),λp hp=>(by cases hp),I.hok.kept hk,hl⟩
 ·rcases hσ i x v e1 e2 with ⟨rfl,rfl⟩ | ⟨k1,j,e3,e4,k3⟩
  ·exact ⟨u0,r0,.inl ⟨hy,hm⟩⟩
  ·obtain ⟨c,hc⟩:=w6.mp (jI X.env.cells scope.names [] x (.inl (wZ k1)));obtain ⟨mX,_,hX⟩:=I.loc;obtain ⟨u,ru,lk⟩:=hX j x v e3 e4 (k3.elim (λz=>.inr (.inl z)) λz=>.inr (.inr z));refine ⟨u,ru,.inr ⟨.inr k1,c,hc,?_⟩⟩;rcases lk with ⟨z,_⟩ | ⟨_,c',hc',z⟩
   ·have z':X.env.scope.names.lookup x=some .local:=z;rcases k3 with k | k<;>(rw [k] at z';cases z')
   ·rw [look x c hc] at hc';cases hc';exact cellK c _ z
 ·obtain ⟨v,z⟩:=I.cell x c (look x c e);exact ⟨v,cellK c v z⟩
end
structure LamS (n:Nat) (X:Cx) (C:Tab) (y:Str) (body:Expr) (scope:Scope) (ce:Code) (keep:List Nat) (N':List Str):Prop where
 kind:scope.kind=.function
 nc:∀ x∈scope.names,x.2≠.cell
 co:scope.isCoroutine=false
 gen:scope.isGenerator=false
 fr:∀ x∈scope.names,x.2=.free->X.env.kindOf x.1=some .cell\/X.env.kindOf x.1=some .free
 par:scope.names.lookup y=some .local
 hd:N'[0]?=some y
 len:N'.length=1+keep.length
 kp:∀ (k j:Nat),keep[k]?=some j->∃ x,N'[1+k]?=some x/\X.N[j]?=some x/\scope.names.lookup x=some .free/\(X.env.scope.names.lookup x=some .cell\/X.env.scope.names.lookup x=some .free)
 E:∀ s₀ H₀ fa cd,SE (lam X n N' scope s₀ H₀ fa cd) C body ce
section
variable {n:Nat} {X:Cx} {C:Tab} {y:Str} {body:Expr} {scope:Scope} {ce:Code} {keep:List Nat} {N':List Str} {pins:List (Addr×Obj)} {σ:L2.St} {H:Hp} {s:Shared} {B:Addr->Prop} {ρ:En}
theorem LamS.some (S:LamS n X C y body scope ce keep N') (I:L2.Inv X pins σ H s):∀ x∈scope.names,x.2=.free->(X.env.cells.lookup x.1).isSome=true:=λx hx hx2=>by
 obtain ⟨c,e⟩:=I.ok.has x.1 (S.fr x hx hx2);rw [e];rfl
theorem jbe (S:LamS n X C y body scope ce keep N') (hroom:X.A.depth<recursionLimit) {params:Arguments} {pm ctv:Value} {fa c:Addr} {x:V} {u:Value} {d dz:D}
  (hbind:∀ pm cd ctv u,bindArgs (PySem.W.kla_fn "<lambda>" (X.env.qual++"<lambda>") params body scope (qI X.env.cells scope.names []) pm cd ctv) ⟨[u],[]⟩=pure [(y,u)])
  (I:L2.Inv X pins σ H s) (F:FnL H fa c (X.env.qual++"<lambda>") (PySem.W.kla_obj "<lambda>" (X.env.qual++"<lambda>") params body scope (qI X.env.cells scope.names []) pm c ctv)) (hb:HB B H) (er:ER X.K B H σ ρ) (rx:L2.RelV x u) (rp:Rep X.K B H x d)
  (e:ev C ce (some d::keep.map λi=>(ρ[i]?).join)=some dz) {E:Value->Shared->Prop} :
  wpAny (model X.prog X.w) (up n X.A) (call (.ref fa) [u]) (EP X pins σ λv H'=>Same H H'/\Rep X.K B H' v dz) E s:=by
 have ho:=(I.hok fa _ F.1).1;refine wpAny_call (PySem.W.kla_callFunE (A:=up n X.A) hroom ho rfl S.co S.gen rfl (F.code I) ?_);rw [hbind];refine wm (wpAny_newFunctionEnv S.nc (λz hz=>?_) (λh₁ hns hsb=>⟨I.nolimit.fresh _ hsb,?_⟩) S.kind)
 ·have:z=(y,u):=by simpa using hz
  subst this;exact S.par
 have hk₁:∀ b o,s.heap.get? b=some o->h₁.get? b=some o:=λb o e=>hsb.extBut b o (wM (wy e)) (wj _ e)
 have ok:(lam X n N' scope s H fa (.ref c)).Ok:=qdO I S.kind S.nc S.fr
 have I1:L2.Inv (lam X n N' scope s H fa (.ref c)) [] (some x::keep.map λi=>(σ[i]?).join) H { s with heap:=h₁,toks:=s.toks+[(y,u)].length }:=by
  refine qc6 (y:=y) (v0:=x) (u0:=u) I ok hns (by simp) S.par rx hk₁ (by simp [S.len];omega) (S.some I) λi z v e1 e2=>?_
  cases i with
  | zero =>
   rw [S.hd] at e1;cases e1
   exact .inl ⟨rfl,by simpa using e2.symm⟩
  | succ k =>
   right
   rw [List.getElem?_cons_succ,wx] at e2;cases hj:keep[k]? with
   | none=>rw [hj] at e2;cases e2
   | some j =>
    rw [hj] at e2;obtain ⟨z',y1,y2,y3,y4⟩:=S.kp k j hj;rw [Nat.add_comm,e1] at y1;cases y1;refine ⟨y3,j,y2,?_,y4⟩;have h':(σ[j]?).join=some v:=wA e2;cases q:σ[j]? with
    | none=>rw [q] at h';cases h'
    | some o=>rw [q] at h';exact congrArg some h'
 have er1:ER X.K B H (some x::keep.map λi=>(σ[i]?).join) (some d::keep.map λi=>(ρ[i]?).join):=λi d' e1=>by
  cases i with
  | zero =>
   have:d=d':=by simpa using e1
   subst this;exact ⟨x,rfl,rp⟩
  | succ k =>
   rw [List.getElem?_cons_succ,wx] at e1;cases hj:keep[k]? with
   | none=>rw [hj] at e1;cases e1
   | some j =>
    rw [hj] at e1;have h':(ρ[j]?).join=some d':=wA e1
    have h'':ρ[j]?=some (some d'):=by
     cases q:ρ[j]? with
     | none=>rw [q] at h';cases h'
     | some o=>rw [q] at h';exact congrArg some h'
    obtain ⟨v,e2,rv⟩:=er j d' h'';refine ⟨v,?_,rv⟩;rw [List.getElem?_cons_succ,wx,hj];show some ((σ[j]?).join)=_;rw [e2];rfl
 refine PySem.W.kla_codeExpr ?_;have run:=S.E s H fa (.ref c) B _ dz e [] _ _ H (λv H'=>Same H H'/\Rep X.K B H' v dz) I1 ⟨hb,er1,λv H' s r=>⟨s,r⟩⟩;exact wpAny_mono run (λz s' ⟨v,H',I',rz,q⟩=>I.after ⟨v,H',I'.os,I'.bare,I'.base,I'.hok,rz,q⟩) λ_ _ z=>z.elim
end
theorem _root_.L2.FpOk.to {X:Cx} {pins:List (Addr×Obj)} {H H2:Hp} {b:Addr} (h:FpOk X pins H b) (n:H2 b=none):FpOk X pins H2 b:=⟨n,h.2⟩
theorem yc6 {prog:Program} {w:World} {A:Around} {s:Shared} {Q E:Value->Shared->Prop} {i j:Int} {t u:Tok} (h:Q (.bool (decide (i<j))) s):wpAny (model prog w) A (richCompare .Lt (.int i t) (.int j u)) Q E s :=
 CmpOf.ints_lt (P:=λn v=>∃ t,v=.int (if n=0 then i else j) t) (λn=>if n=0 then i else j) (λ_ _ h=>h) 0 1 _ _ _ _ _ ⟨t,rfl⟩ ⟨u,rfl⟩ h
noncomputable abbrev qak (its:Array Value) (c:Nat):Obj:={ cls:=.type "list",data:=.seq its c }
section
variable {X:Cx} {pins:List (Addr×Obj)} {σ:L2.St} {B:Addr->Prop}
theorem _root_.L2.Inv.moved {H:Hp} {s:Shared} {h':Heap} {tk:Nat} {b:Addr} (I:L2.Inv X pins σ H s) (f:FpOk X pins H b) (k:∀ c o,c≠b->s.heap.get? c=some o->h'.get? c=some o):L2.Inv X pins σ H { s with heap:=h',toks:=tk } :=
 I.turned k f.1 f.2.1 f.2.2.2.1 f.2.2.2.2.1 f.2.2.2.2.2
def qd1 (n:Nat) (X:Cx) (σ:L2.St) (B:Addr->Prop) (H0:Hp) (fa:Addr) (f:D->Option D):Prop :=
 ∀ (pins:List (Addr×Obj)) (s:Shared) (H:Hp) (x:V) (u:Value) (d k:D),L2.Inv X pins σ H s->Same H0 H->L2.RelV x u->Rep X.K B H x d->f d=some k ->
  wpAny (model X.prog X.w) (up n X.A) (call (.ref fa) [u]) (EP X pins σ λv H'=>Same H H'/\Rep X.K B H' v k) (λ_ _=>False) s
theorem _root_.L2.Inv.two {H:Hp} {s:Shared} {S It:Addr} {oS oI:Obj} (I:L2.Inv X pins σ H s) (fS:FpOk X pins H S) (fI:FpOk X pins H It) (hS:s.heap.get? S=some oS) (hI:s.heap.get? It=some oI) (dS:∀ v,oS.data≠.cell v) (dI:∀ v,oI.data≠.cell v):L2.Inv X (pins++[(S,oS),(It,oI)]) σ H s :=
 I.pins_of λp hp=>by
  rcases List.mem_append.mp hp with z | z
  ·exact I.pin p (wK _ z)
  ·rcases wu.mp z with rfl | z
   ·exact ⟨hS,fS.1,fS.2.1,fS.2.2.1,dS⟩
   ·rw [w8.mp z];exact ⟨hI,fI.1,fI.2.1,fI.2.2.1,dI⟩
theorem zbS {t:Bool} {a It S fa:Addr} {vs:List V} {ds:List D} {H0:Hp} {f:D->Option D} {m:D} {R:Result->Shared->Prop} (hc:X.calm=true)
  (sqm:∀ H,Same H0 H->Sq t X.K H a vs) (rs:Reps X.K B H0 vs ds) (hSI:S≠It) (turn:qd1 1 X σ B H0 fa f)
  (hR:∀ v u H' s',L2.Inv X pins σ H' s'->Same H0 H'->L2.RelV v u->Rep X.K B H' v m->R (.ok (.ret u)) s') :
  ∀ (r j:Nat) (s:Shared) (H:Hp) (vb:Value) (xb:V) (b:D) (kb:Int) (tb:Tok) (c:Nat),ds.length-j=r->j<=ds.length->L2.Inv X pins σ H s->Same H0 H->FpOk X pins H S->FpOk X pins H It ->
   s.heap.get? S=some (qak #[vb,.int kb tb] c)->SItr t s.heap It a j->L2.RelV xb vb->Rep X.K B H xb b->yaF f b kb (ds.drop j)=some m ->
   codeAny (model X.prog X.w) X.A (.builtin "min.loop" ⟨[.ref It,.ref fa,.ref S],[]⟩) R s:=by
 have hname:(toString "min"++toString ".loop":String)="min.loop":=by decide
 intro r
 induction r with
 | zero =>
  intro j s H vb xb b kb tb c hr hj I sm fS fI hS hit rb pb hm;have hin:j=ds.length:=by omega
  subst hin;rw [List.drop_length] at hm;cases hm;obtain ⟨its,rits,p,hz⟩:=I.sseq (sqm H sm);have hsz:its.toArray.size=ds.length:=by rw [vh,<-rits.length,rs.length]
  have W:=jB (prog:=X.prog) (w:=X.w) (A:=X.A.in1) (by simp [I.ok.hd hc]) t It a (p.ne_itr hit) its.toArray;refine codeAny_builtin PySem.F.entry_min_loop ?_;rw [Around.under_plainId PySem.F.plain_min_loop _];show wpAny _ X.A.in1 (seqItems? (.ref S) >>= _) _ _ _;refine we (wpAny_seqItems hS rfl ?_);show wpAny _ X.A.in1 (tryCatch (pyNext (.ref It)) _ >>= _) _ _ _;refine we (wpAny_tryCatch (W.done _ _ _ ⟨by rw [hsz];exact hit,p⟩ λh' tk' hk'=>?_));have hS':=hk' S _ (by simpa using hSI) hS;have I1:=I.moved (tk:=tk') fI λb o n e=>hk' b o (by simpa using n) e
  have s1:=Heap.SameBut.update h' S (Obj.mapSeq λ_=>(#[]:Array Value));show wpAny _ X.A.in1 (updateSeq S (λ_=>#[]) >>= _) _ _ _;refine we ?_;refine wpAny_updateSeq hS' rfl (we (wpAny_letGo (wm ?_)));exact hR xb vb H _ (I1.moved (tk:=tk') fS λb o n e=>(s1.2 b n).trans e) sm rb pb
 | succ r ih =>
  intro j s H vb xb b kb tb c hr hj I sm fS fI hS hit rb pb hm;have hlt:j<ds.length:=by omega
  obtain ⟨its,rits,p,hz⟩:=I.sseq (sqm H sm);have hsz:its.toArray.size=ds.length:=by rw [vh,<-rits.length,rs.length]
  have W:=jB (prog:=X.prog) (w:=X.w) (A:=X.A.in1) (by simp [I.ok.hd hc]) t It a (p.ne_itr hit) its.toArray;refine codeAny_builtin PySem.F.entry_min_loop ?_;rw [Around.under_plainId PySem.F.plain_min_loop _];show wpAny _ X.A.in1 (seqItems? (.ref S) >>= _) _ _ _;refine we (wpAny_seqItems hS rfl ?_);show wpAny _ X.A.in1 (tryCatch (pyNext (.ref It)) _ >>= _) _ _ _;refine we (wpAny_tryCatch (W.item j _ _ _ (by rw [hsz];exact hlt) ⟨hit,p⟩ λv h' tk' hP hst' hk'=>?_));have hS':=hk' S _ (by simpa using hSI) hS;obtain ⟨oI',nm,hoI',hoc,hcn,hod⟩:=hst'.1.ob;have hd:ds[j]?=some ds[j]:=by simp [hlt]
  obtain ⟨d,hdd⟩:∃ d,d=ds[j]:=⟨_,rfl⟩;rw [<-hdd] at hd;obtain ⟨x,hx,rx⟩:=rs.get hd;obtain ⟨u,hu,ru⟩:=rits.get hx;have hv:its[j]?=some v:=by simpa using hP
  rw [hu] at hv;have huv:=wA hv;subst huv
  rw [List.drop_eq_getElem_cons hlt,<-hdd] at hm;obtain ⟨k,ek,hm⟩:=wa (show (f d).bind _=some m from hm);cases k with
  | int i =>
   have I1:=I.moved (tk:=tk') fI λb o n e=>hk' b o (by simpa using n) e
   have I1p:=I1.two fS fI hS' hoI' (λv z=>by cases z) (λv z=>by rw [hod] at z;cases z);show wpAny _ X.A.in1 (tryCatch (holding [u] (call (.ref fa) [u])) _ >>= _) _ _ _;refine we (wpAny_tryCatch (wpAny_holding (wpAny_mono (turn _ _ H x u d (.int i) I1p sm ru (rx.same sm) ek) (λz s2 ⟨zv,H2,I2,rz,sm2,pz⟩=>?_) λ_ _ hF=>hF.elim)));cases pz;obtain ⟨t2,rfl⟩:=rz;have nS:=I2.pin (S,qak #[vb,.int kb tb] c) (wK _ (wK _ (.head _)));have nI:=I2.pin (It,oI') (wK _ (wK _ (.tail _ (.head _))));have I2':=I2.unpinned;have sm':=sm.trans sm2;have hit2:SItr t s2.heap It a (j+1):=hst'.1.at λo e=>by rw [hoI'] at e;cases e;exact nI.1
   have fS2:FpOk X pins H2 S:=fS.to nS.2.1;have fI2:FpOk X pins H2 It:=fI.to nI.2.1;show wpAny _ X.A.in1 (tryCatch (holding [u,.int i t2] (richCompare .Lt (.int i t2) (.int kb tb) >>= _)) _ >>= _) _ _ _;refine we (wpAny_tryCatch (wpAny_holding (we (yc6 ?_))));refine we (wpAny_holding (wpAny_truthy_bool ?_));refine we (wpAny_letGo (wm ?_));have hm':(if i<kb then yaF f d i (ds.drop (j+1)) else yaF f b kb (ds.drop (j+1)))=some m:=hm
   by_cases hb':i<kb
   ·rw [if_pos hb'] at hm';have s1:=Heap.SameBut.update s2.heap S (Obj.mapSeq λ_=>#[u,.int i t2]);obtain ⟨c2,hc2⟩:∃ c2,(s2.heap.update S (Obj.mapSeq λ_=>#[u,.int i t2])).get? S=some (qak #[u,.int i t2] c2):=⟨_,get?_update_seq nS.1 λ_=>#[u,.int i t2]⟩;simp only [hb',decide_true,if_true];refine we ?_;refine wpAny_updateSeq nS.1 rfl (we (wpAny_letGo ?_));rw [hname];exact wm ⟨plainId_quiet PySem.F.plain_min_loop _,ih (j+1) _ H2 u x d i t2 c2 (by omega) hlt (I2'.moved (tk:=s2.toks) fS2 λb o n e=>(s1.2 b n).trans e) sm' fS2 fI2 hc2 (hit2.at λo e=>(s1.2 It hSI.symm).trans e) ru (rx.same sm') hm'⟩
   ·rw [if_neg hb'] at hm';simp only [hb',decide_false,wo,if_false];refine we (wpAny_letGo ?_);rw [hname];exact wm ⟨plainId_quiet PySem.F.plain_min_loop _,ih (j+1) _ H2 vb xb b kb tb c (by omega) hlt I2' sm' fS2 fI2 nS.1 hit2 rb (pb.same sm2) hm'⟩
  | _=>cases hm
theorem jc6 {t:Bool} {a fa:Addr} {vs:List V} {ds:List D} {H:Hp} {s:Shared} {f:D->Option D} {m:D} {Q:VK} {E:Value->Shared->Prop} (hc:X.calm=true) (I:L2.Inv X pins σ H s)
  (sqm:∀ H',Same H H'->Sq t X.K H' a vs) (rs:Reps X.K B H vs ds) (turn:qd1 1 X σ B H fa f) (hm:zdZ f ds=some m) (hQ:∀ v H',Same H H'->Rep X.K B H' v m->Q v H') :
  wpAny (model X.prog X.w) X.A (call (.builtin "min") [.ref a] [(Str.ofString "key",.ref fa)]) (EP X pins σ Q) E s:=by
 have hname:(toString "min"++toString ".loop":String)="min.loop":=by decide
 obtain ⟨its,rits,p,hz⟩:=I.sseq (sqm H (Same.refl H));have hsz:its.toArray.size=ds.length:=by rw [vh,<-rits.length,rs.length]
 have halt:a<s.heap.objs.size:=by obtain ⟨o,_,ho,_⟩:=p.ob;exact wy ho
 cases ds with
 | nil=>cases hm
 | cons d ds =>
 obtain ⟨k,ek,hm⟩:=wa (show (f d).bind _=some m from hm);cases k with
 | int i =>
  refine kmk_tree PySem.F.kind_min PySem.F.plain_min PySem.F.entry_min (kmk_min_key _ _) ?_;show wpAny _ X.A.in1 (Builtin.Builtins.bindParams "min" ["key","default"] 0 ⟨[],[(Str.ofString "key",.ref fa)]⟩ >>= _) _ _ s;refine we (wpAny_of_eq (show Builtin.Builtins.bindParams "min" ["key","default"] 0 ⟨[],[(Str.ofString "key",.ref fa)]⟩=pure [some (.ref fa),none] from rfl) ?_);refine we (wm ?_);refine we (yt p ?_);refine we (wpAny_newList ?_ (Nat.zero_le _));rw [hname];obtain ⟨oI,hoI⟩:∃ oI:Obj,oI={ cls:=.type (cond t "tuple_iterator" "list_iterator"),data:=.fields #[.ref a,.int 0 0] }:=⟨_,rfl⟩;rw [<-hoI];have hS:(s.heap.push oI).objs.size=s.heap.objs.size+1:=Heap.size_push ..;have hSI:(s.heap.push oI).objs.size≠s.heap.objs.size:=by rw [hS];exact Nat.ne_of_gt (Nat.lt_succ_self _)
  have fr:=SItr.fresh t s.heap a;rw [<-hoI] at fr;have kp:∀ b o,s.heap.get? b=some o->((s.heap.push oI).push (qak #[] 0)).get? b=some o:=λb o e=>wj _ (wj _ e)
  have gS:((s.heap.push oI).push (qak #[] 0)).get? (s.heap.push oI).objs.size=some (qak #[] 0):=wt _ rfl;have hit:SItr t ((s.heap.push oI).push (qak #[] 0)) s.heap.objs.size a 0:=fr.at λo e=>wj _ e
  have I0:=I.kept (t':=s.toks) kp;have fI:FpOk X pins H s.heap.objs.size:=I.fpOk (wB _) I.fresh;have fS:FpOk X pins H (s.heap.push oI).objs.size:=I.fpOk (by rw [hS];exact Nat.le_succ _) (I.hok.fresh (by rw [hS];exact Nat.le_succ _));refine wm ⟨plainId_quiet PySem.F.plain_min_loop _,?_⟩;have W:=jB (prog:=X.prog) (w:=X.w) (A:=X.A.in1) (by simp [I.ok.hd hc]) t s.heap.objs.size a (wM halt) its.toArray;refine codeAny_builtin PySem.F.entry_min_loop ?_;rw [Around.under_plainId PySem.F.plain_min_loop _];show wpAny _ X.A.in1 (seqItems? (.ref _) >>= _) _ _ _;refine we (wpAny_seqItems gS rfl ?_);show wpAny _ X.A.in1 (tryCatch (pyNext (.ref s.heap.objs.size)) _ >>= _) _ _ _;refine we (wpAny_tryCatch (W.item 0 _ _ _ (by rw [hsz];simp) ⟨hit,p.at λo e=>kp _ o e⟩ λv h' tk' hP hst' hk'=>?_));have hS':=hk' _ _ (by simpa using hSI) gS;obtain ⟨oI',nm,hoI',hoc,hcn,hod⟩:=hst'.1.ob;obtain ⟨x,hx,rx⟩:=rs.get (i:=0) (d:=d) rfl;obtain ⟨u,hu,ru⟩:=rits.get hx;have hv:its[0]?=some v:=by simpa using hP
  rw [hu] at hv;have huv:=wA hv;subst huv
  have I1:=I0.moved (tk:=tk') fI λb o n e=>hk' b o (by simpa using n) e
  have I1p:=I1.two fS fI hS' hoI' (λv z=>by cases z) (λv z=>by rw [hod] at z;cases z);show wpAny _ X.A.in1 (tryCatch (holding [u] (call (.ref fa) [u])) _ >>= _) _ _ _;refine we (wpAny_tryCatch (wpAny_holding (wpAny_mono (turn _ _ H x u d (.int i) I1p (Same.refl H) ru rx ek) (λz s2 ⟨zv,H2,I2,rz,sm2,pz⟩=>?_) λ_ _ hF=>hF.elim)));cases pz;obtain ⟨t2,rfl⟩:=rz;have nS:=I2.pin (_,qak #[] 0) (wK _ (wK _ (.head _)));have nI:=I2.pin (s.heap.objs.size,oI') (wK _ (wK _ (.tail _ (.head _))));have I2':=I2.unpinned;have hit2:SItr t s2.heap s.heap.objs.size a 1:=hst'.1.at λo e=>by rw [hoI'] at e;cases e;exact nI.1
  have fS2:FpOk X pins H2 (s.heap.push oI).objs.size:=fS.to nS.2.1;have fI2:FpOk X pins H2 s.heap.objs.size:=fI.to nI.2.1;have s1:=Heap.SameBut.update s2.heap (s.heap.push oI).objs.size (Obj.mapSeq λ_=>#[u,.int i t2]);obtain ⟨c2,hc2⟩:∃ c2,(s2.heap.update (s.heap.push oI).objs.size (Obj.mapSeq λ_=>#[u,.int i t2])).get? (s.heap.push oI).objs.size=some (qak #[u,.int i t2] c2):=⟨_,get?_update_seq nS.1 λ_=>#[u,.int i t2]⟩;show wpAny _ X.A.in1 (updateSeq (s.heap.push oI).objs.size (λ_=>#[u,.int i t2]) >>= _) _ _ _;refine we ?_;refine wpAny_updateSeq nS.1 rfl ?_;rw [hname];refine wm ⟨plainId_quiet PySem.F.plain_min_loop _,zbS hc sqm rs hSI turn (λv u H' s' I' sm r q=>⟨v,H',I',r,hQ v H' sm q⟩) _ 1 _ H2 u x d i t2 c2 rfl (by simp) (I2'.moved (tk:=s2.toks) fS2 λb o n e=>(s1.2 b n).trans e) sm2 fS2 fI2 hc2 (hit2.at λo e=>(s1.2 _ hSI.symm).trans e) ru (rx.same sm2) hm⟩
 | _=>cases hm
variable {C:Tab}
theorem zc7 {a body:Expr} {ca ce:Code} {p kp cpos pos:Pos} {params:Arguments} {scope:Scope} {y:Str} {keep:List Nat} {N':List Str} (S:LamS 1 X C y body scope ce keep N') (hc:X.calm=true) (hl:ybR X) (hroom:X.A.depth<recursionLimit)
  (hdef:defaultsOf params X.env=([],[])) (hbind:∀ pm cd ctv u,bindArgs (PySem.W.kla_fn "<lambda>" (X.env.qual++"<lambda>") params body scope (qI X.env.cells scope.names []) pm cd ctv) ⟨[u],[]⟩=pure [(y,u)])
  (hg:Gl X "min") (hm:X.mg "min"=none) (hv:bootBuiltins "min"=some (.builtin "min")) (ha:SE X C a ca) (hs:starEach [a] X.env=[(false,eval a X.env)]) :
  SE X C (.Call (.Name "min" p) [a] [⟨some "key",.Lambda params body scope pos,kp⟩] cpos) (.mink ce keep ca):=λB ρ d h=>by
 obtain ⟨dx,ex,e⟩:=wa (show (ev C ca ρ).bind _=some d from h);cases dx with
 | tup ds =>
  intro pins s σ H Q I ⟨h1,h2,q⟩;refine wpAny_Call_Name_kw (yO I hg hm hv ?_ (by decide) (by decide));have hpa:PA X [a] (tDs X.K B ρ [.tup ds]):=yi ha jq hs B ρ [.tup ds] (by rw [evs,ex];rfl);refine callWith_kw (thn (hpa cpos pins s σ H (λvs H1=>Same H H1/\Reps X.K B H1 vs [.tup ds]) I ⟨h1,h2,λvs H' sm r=>⟨sm,r⟩⟩) λus s1 ⟨vs,H1,I1,r1,sm1,rr1⟩=>?_) (by rw [hs];rfl) (by rw [hs];rfl) rfl rfl;refine kws_cons (ybe (B:=B) hdef (S.some I1) hl I1 (h1.same sm1) λfa c pm ctv H2 s2 I2 sm2 F=>kws_nil ?_);obtain ⟨v,rfl,rv⟩:=(rr1.same sm2).one;obtain ⟨u,rfl,ru⟩:=r1.one;obtain ⟨t,al,vs,rfl,sq,sqm,rs⟩:=rv.srcT ((h1.same sm1).same sm2) (ds:=ds) rfl;cases ru;have hb2:=(h1.same sm1).same sm2;have er2:=(h2.same sm1).same sm2;refine jc6 (f:=λd=>ev C ce (some d::keep.map λi=>(ρ[i]?).join)) hc I2 (λH' sm=>sqm H' λb o _ e=>sm b o e) rs (λpins s H x u d k I sm r rp e=>jbe S hroom hbind I (F.same sm) (hb2.same sm) (er2.same sm) r rp e) e λv H' sm r=>q v H' ((sm1.trans sm2).trans sm) r
 | _=>cases e
end
theorem bind1 {y:Str} {an:Option Expr} {pp:Pos} {q:Str} {body:Expr} {scope:Scope} {cl:List (Str×Addr)} (pm cd ctv u:Value) :
  bindArgs (PySem.W.kla_fn "<lambda>" q ⟨[],[⟨y,an,pp⟩],none,[],[],none,[]⟩ body scope cl pm cd ctv) ⟨[u],[]⟩=pure [(y,u)]:=by
 have h:(List.lookup y [(y,u)])=some u:=by simp
 unfold bindArgs;simp only [List.forIn_nil,pure_bind,List.map_nil,List.map_cons,List.nil_append,List.append_nil,List.zip_cons_cons,List.zip_nil_right,List.filterMap_cons,List.filterMap_nil];show (seqItems? Value.none >>= λr=>_)=_;rw [show seqItems? Value.none=pure none from rfl,pure_bind];have hf:List.filter (λn=>(List.lookup n [(y,u)]).isNone) [y]=[]:=by simp
 show (if (!(List.filter (λn=>(List.lookup n [(y,u)]).isNone) [y]).isEmpty)=true then _ else _)=_;rw [hf,if_neg (by decide)];show ((pure [(y,u)]:Sem (List (Str×Value))) >>= λ__s=>_)=_;rw [pure_bind,if_neg (by decide)];rw [h];rfl
section
variable {X:Cx} {pins:List (Addr×Obj)} {σ:L2.St} {B:Addr->Prop}
theorem _root_.L2.Inv.adopt {H:Hp} {s:Shared} {a:Addr} {o:HO} (I:L2.Inv X pins σ H s) (f:FpOk X pins H a) (new:ObjOk X.prog X.w (upd H a o) s.heap a o):L2.Inv X pins σ (upd H a o) s:=by
 have ne:∀ b u,H b=some u->b≠a:=λb u e=>je e f.1
 refine I.step (h':=s.heap) (g':=s.gens) (d':=s.drawn) (t':=s.toks) (ch:=[a]) (λb hb=>?_) (λb o _ _ _ e _=>e) (λb o _ _ _ e _=>⟨o.slots,e⟩) (λb o hc e n=>?_) (λb o hc e=>⟨o,e⟩) (λb xs e=>?_) (λb o u e=>?_) (λb p q e=>?_) (λm hm=>hm) (λb u e=>?_) I.bare
 ·rw [w8.mp hb];exact ⟨f.2.2.2.1,f.2.1,f.2.2.2.2.1,f.2.2.2.2.2⟩
 ·rw [ya λz=>hc (by simp [z])];exact n
 ·rw [ya (ne _ _ e)];exact e
 ·rw [ya (ne _ _ e)];exact e
 ·rw [ya (ne _ _ e)];exact e
 ·by_cases hb:b=a
  ·subst hb;rw [ja] at e;cases e;exact new
  ·rw [ya hb] at e;exact (I.hok b u e).stay (λc v _ q=>q) (λc q=>by rw [ya (ne _ _ q)];exact q) (λc xs q=>by rw [ya (ne _ _ q)];exact q) λc o u q=>by rw [ya (ne _ _ q)];exact q
noncomputable def zbf (f:D->Option D) (d:D):Int:=match f d with
 | some (.int i)=>i
 | _=>0
theorem qc7 {f:D->Option D} {d:D} (h:∃ i,f d=some (.int i)):f d=some (.int (zbf f d)):=by
 obtain ⟨i,e⟩:=h;unfold zbf;rw [e]
set_option maxHeartbeats 2000000 in
theorem ycm {a fa:Addr} {vs:List V} {ds:List D} {its:List Value} {H0:Hp} {s:Shared} {f:D->Option D} {e0:Nat} {P:PySem.Fin->Shared->Prop} {E:Value->Shared->Prop}
  (I:L2.Inv X pins σ H0 s) (fA:FpOk X pins H0 a) (ho:s.heap.get? a=some (qak its.toArray e0)) (rits:Vals vs its) (rs:Reps X.K B H0 vs ds) (h64:ds.length<64)
  (hf:∀ d∈ds,∃ i,f d=some (.int i)) (turn:qd1 2 X σ B H0 fa f)
  (h:∀ H' s' c out,L2.Inv X pins σ H' s'->Same H0 H'->FpOk X pins H' a->s'.heap.get? a=some (qak out c)->out.toList.Perm its->P (.done (.ret .none)) s') :
  wpAny (model X.prog X.w) (up 2 X.A) (ksk_tree a (.ref fa) false) P E s:=by
 have hlen:its.length=ds.length:=by rw [<-rits.length,rs.length]
 have h16:=sizeLine_eq;obtain ⟨kz,hkz⟩:∃ kz:List Int,kz=ds.map (zbf f):=⟨_,rfl⟩;have hkl:kz.length=ds.length:=by rw [hkz,wC]
 have ha:a<s.heap.objs.size:=wy ho;have s1:=Heap.SameBut.update s.heap a (Obj.mapSeq λ_=>(#[]:Array Value));obtain ⟨e1,ho1⟩:∃ e1,(s.heap.update a (Obj.mapSeq λ_=>(#[]:Array Value))).get? a=some (qak #[] e1):=⟨_,get?_update_seq ho λ_=>#[]⟩;unfold ksk_tree;refine we (listItems_at ho rfl ?_);refine we (listUpdate_at ho rfl ?_ (by rw [vh];omega) (Nat.zero_le _));refine we (seqEpoch_at ho1 rfl ?_);refine we (wpAny_newTuple ?_ (by show its.length<=_;omega));refine we (wpAny_newList ?_ (Nat.zero_le _));refine wpAny_holding ?_;obtain ⟨kS,hkS⟩:∃ kS,kS=((s.heap.update a (Obj.mapSeq λ_=>(#[]:Array Value))).push (seqObj "tuple" its.toArray 0)).objs.size:=⟨_,rfl⟩;have hkS':kS=s.heap.objs.size+1:=by rw [hkS,size_push',Heap.size_update]
 have hka:kS≠a:=by rw [hkS'];exact Nat.ne_of_gt (Nat.lt_succ_of_lt ha)
 obtain ⟨h2,hh2⟩:∃ h2,h2=((s.heap.update a (Obj.mapSeq λ_=>(#[]:Array Value))).push (seqObj "tuple" its.toArray 0)).push (seqObj "list" #[] 0):=⟨_,rfl⟩;have hK2:h2.get? kS=some (qak #[] 0):=by rw [hh2,hkS];exact wt _ rfl
 have hA2:h2.get? a=some (qak #[] e1):=by rw [hh2];exact wj _ (wj _ ho1)
 have I2:L2.Inv X pins σ H0 { s with heap:=h2,toks:=s.toks }:=I.moved fA λb o n e=>by
  rw [hh2];exact wj _ (wj _ ((s1.2 b n).trans e))
 have fK:FpOk X pins H0 kS:=I.fpOk (by rw [hkS'];exact Nat.le_succ _) (I.hok.fresh (by rw [hkS'];exact Nat.le_succ _));show wpAny _ _ (ksk_rest a (.ref fa) false its.toArray e1 (.ref ((s.heap.update a (Obj.mapSeq λ_=>(#[]:Array Value))).push (seqObj "tuple" its.toArray 0)).objs.size)) _ _ { s with heap:=((s.heap.update a (Obj.mapSeq λ_=>(#[]:Array Value))).push (seqObj "tuple" its.toArray 0)).push (seqObj "list" #[] 0) };rw [<-hh2,<-hkS];unfold ksk_rest;refine we (wpAny_rule ?_);rw [List.forIn_toArray]
 refine we (ksk_fold (λi s'=>∃ H' kA e,L2.Inv X pins σ H' s'/\Same H0 H'/\FpOk X pins H' a/\FpOk X pins H' kS/\s'.heap.get? kS=some (qak kA e)/\s'.heap.get? a=some (qak #[] e1)/\IntsAre kA.toList (kz.take i)) its 0 _
  ⟨H0,#[],0,I2,Same.refl H0,fA,fK,hK2,hA2,by simpa using IntsAre.nil⟩ ?step ?done)
 case step =>
  rintro j x s' hx ⟨H',kA,e,I',sm,fA',fK',hK,hA,hk⟩;simp only [Nat.zero_add] at hk ⊢;have hj:j<ds.length:=by rw [<-hlen];exact (wq.mp hx).1
  obtain ⟨d,hd⟩:∃ d,ds[j]?=some d:=⟨_,List.getElem?_eq_getElem hj⟩;obtain ⟨v,hv,rd⟩:=rs.get hd;obtain ⟨u,hu,ru⟩:=rits.get hv;rw [hx] at hu;cases hu;have hkj:kz[j]?=some (zbf f d):=by rw [hkz,wx,hd];rfl
  have hz:kA.size<=ds.length:=by
   have h1:=hk.length;rw [Array.length_toList,List.length_take] at h1;omega
  refine we (wpAny_attempt (wpAny_mono (turn _ _ H' v x d (.int (zbf f d)) (I'.two fK' fA' hK hA (λv z=>by cases z) (λv z=>by cases z)) sm ru (rd.same sm) (qc7 (hf d (wR hd)))) (λz s2 ⟨zv,H2,I3,rz,sm2,pz⟩=>?_) λ_ _ hF=>hF.elim));cases pz;obtain ⟨t2,rfl⟩:=rz;have nK:=I3.pin (kS,qak kA e) (wK _ (wK _ (.head _)));have nA:=I3.pin (a,qak #[] e1) (wK _ (wK _ (.tail _ (.head _))));have I4:=I3.unpinned;have u1:=Heap.SameBut.update s2.heap kS (Obj.mapSeq (·.push (.int (zbf f d) t2)));obtain ⟨c2,hc2⟩:∃ c2,(s2.heap.update kS (Obj.mapSeq (·.push (.int (zbf f d) t2)))).get? kS=some (qak (kA.push (.int (zbf f d) t2)) c2):=⟨_,get?_update_seq nK.1 (·.push (.int (zbf f d) t2))⟩;have ek:kz.take (j+1)=kz.take j++[zbf f d]:=by rw [List.take_add_one,hkj];rfl
  have ea:(kA.push (Value.int (zbf f d) t2)).toList=kA.toList++[Value.int (zbf f d) t2]:=by simp
  refine we (listUpdate_at nK.1 rfl ?_ (by omega) (wQ (Nat.le_of_eq (Array.size_push ..)) (by omega)));have I5:L2.Inv X pins σ H2 { s2 with heap:=s2.heap.update kS (Obj.mapSeq (·.push (.int (zbf f d) t2))),toks:=s2.toks }:=I4.moved (fK'.to nK.2.1) λb o n e=>(u1.2 b n).trans e
  exact wm ⟨rfl,H2,kA.push (.int (zbf f d) t2),c2,I5,sm.trans sm2,fA'.to nA.2.1,fK'.to nK.2.1,hc2,(u1.2 a hka.symm).trans nA.1,by rw [ea,ek];exact ksk_snoc hk⟩
 case done =>
  rintro s' ⟨H',kA,e,I',sm,fA',fK',hK,hA,hk⟩
  have hk':IntsAre kA.toList kz:=by
   have e3:kz.take (0+its.length)=kz:=List.take_of_length_le (by omega);rw [e3] at hk;exact hk
  have hsz:kA.size=its.length:=by
   have h1:=hk'.length;rw [Array.length_toList] at h1;omega
  have hzs:(kA.zip its.toArray).size=its.length:=by rw [Array.size_zip,hsz,vh,Nat.min_self]
  have tail:∀ st:SortSt,(arrOf st).Perm (kA.zip its.toArray)->SortedTo (arrOf st) (arrOf st).size->failedOf st=none->wpAny (model X.prog X.w) (up 2 X.A) (ksk_tail a false e1 (.ref kS) st) P E s':=λst hp hs hfl=>by
   have u1:=Heap.SameBut.update s'.heap kS (Obj.mapSeq λ_=>(#[]:Array Value));have nA:=(u1.2 a hka.symm).trans hA;have u2:=Heap.SameBut.update (s'.heap.update kS (Obj.mapSeq λ_=>(#[]:Array Value))) a (Obj.mapSeq λ_=>(arrOf st).map (·.2));obtain ⟨c2,hc2⟩:∃ c2,((s'.heap.update kS (Obj.mapSeq λ_=>(#[]:Array Value))).update a (Obj.mapSeq λ_=>(arrOf st).map (·.2))).get? a=some (qak ((arrOf st).map (·.2)) c2):=⟨_,get?_update_seq nA λ_=>(arrOf st).map (·.2)⟩;have I6:L2.Inv X pins σ H' { s' with heap:=s'.heap.update kS (Obj.mapSeq λ_=>(#[]:Array Value)),toks:=s'.toks }:=I'.moved fK' λb o n e=>(u1.2 b n).trans e
   have I7:L2.Inv X pins σ H' { s' with heap:=(s'.heap.update kS (Obj.mapSeq λ_=>(#[]:Array Value))).update a (Obj.mapSeq λ_=>(arrOf st).map (·.2)),toks:=s'.toks }:=I6.moved fA' λb o n e=>(u2.2 b n).trans e
   clear I6;unfold ksk_tail;dsimp only;refine we (listUpdate_at hK rfl ?_ (by omega) (Nat.zero_le _));refine we (wpAny_letGo ?_);refine we (seqEpoch_at nA rfl ?_);refine we (listUpdate_at nA rfl ?_ (Nat.zero_le _) (by simp only [wo,if_false,Array.size_map];rw [hp.size_eq,hzs];omega));rw [hfl];simp only [bne_self_eq_false,wo,if_false];refine wm (h H' _ c2 _ I7 sm fA' hc2 ?_);obtain ⟨ps,hp1,hp2,_⟩:=ksk_out (b:=false) hk' hp hs;have e5:((arrOf st).map (·.2)).toList=ps.map Prod.snd:=hp2;rw [e5]
   have:=hp1.map Prod.snd
   rw [List.map_snd_zip (by omega)] at this;exact this
  try dsimp only
  refine we (listItems_at hK rfl ?_);unfold ksk_end
  try dsimp only
  rw [if_neg wz]
  by_cases hl2:its.toArray.size<2
  ·rw [if_pos hl2,if_pos hl2];refine we (wm ?_);rw [StateT.run_pure];refine we (wm ?_)
   try dsimp only
   refine tail (SortSt.mk' general' (kA.zip its.toArray) #[] 7 none) (Array.Perm.refl _) (λi j hij hj=>?_) rfl;have hj2:j<(kA.zip its.toArray).size:=hj;rw [hzs] at hj2;rw [vh] at hl2
   have:i=j:=by omega
   subst this;exact Int.le_refl _
  ·rw [if_neg hl2,if_neg hl2];rw [vh] at hl2;rw [ksk_kind hk' (by rw [hsz];omega)];refine we (wm ?_)
   refine we (wpAny_mono (wpS_sortRuns (a₀:=kA.zip its.toArray) (st:=SortSt.mk' oneType' (kA.zip its.toArray) #[] 7 none)
    (Q:=λ_ st'=>(arrOf st').Perm (kA.zip its.toArray)/\failedOf st'=none/\SortedTo (arrOf st') (kA.zip its.toArray).size)
    (ksk_intKeys hk') ⟨Array.Perm.refl _,rfl,rfl,rfl⟩ (by rw [hzs];omega) (by rw [hzs];omega) λst' a1 a2 a3=>⟨a1,a2,a3⟩) ?_ λ_ _ e=>e)
   rintro ⟨⟨⟩,st'⟩ s2 ⟨rfl,hp,hfl,hs⟩
   try dsimp only
   exact tail st' hp (by rw [hp.size_eq];exact hs) hfl
theorem qbS {p fa:Addr} {lo hi:Int} {H:Hp} {s:Shared} {f:D->Option D} {Q:VK} {E:Value->Shared->Prop} (hc:X.calm=true) (I:L2.Inv X pins σ H s) (hb:HB B H) (hp:H p=some (.rng lo hi)) (hr:-(2^62)<=lo/\lo<2^62/\-(2^62)<=hi/\hi<2^62)
  (h64:(hi-lo).toNat<64) (hf:∀ d∈yc lo (hi-lo).toNat,∃ i,f d=some (.int i)) (turn:qd1 2 X σ B H fa f)
  (hQ:∀ l H' ys,Same H H'->ys.Perm (yc lo (hi-lo).toNat)->Rep X.K B H' (.ref l) (.lst ys)->Q (.ref l) H') :
  wpAny (model X.prog X.w) X.A (call (.builtin "sorted") [.ref p] [(Str.ofString "key",.ref fa)]) (EP X pins σ Q) E s:=by
 obtain ⟨b1,b2,b3,b4⟩:=hr;obtain ⟨t,u,v,ho⟩:=(show ObjOk X.prog X.w H s.heap p (.rng lo hi) from I.hok p _ hp);have h16:=sizeLine_eq;refine call_function_entry_kw kind_sorted plain_sorted entry_sorted (ksk_s1 _ _) ?_;unfold Builtin.«sorted»;refine we (m:=checkCount "sorted" 1 1 _) (wm ?_);refine we (zP (n:=(hi-lo).toNat) (I.ok.hd hc) ho (small_one b1 b2 b3 b4) (by rw [rangeSize_one];split<;>omega) (by omega) λh' tk acc hlt kp hit=>?_);have rits:=qT hit;have hal:acc.toList.length=(hi-lo).toNat:=by rw [<-rits.length];simp
 refine we (wpAny_newList ?_ (by omega));have hoL:(h'.push (seqObj "list" acc.toList.toArray 0)).get? h'.objs.size=some (qak acc.toList.toArray 0):=wt _ rfl;have I1:L2.Inv X pins σ H { s with heap:=h'.push (seqObj "list" acc.toList.toArray 0),toks:=tk }:=I.kept λb o e=>wj _ (kp b o e)
 have hle:=Nat.le_of_lt hlt;have fA:FpOk X pins H h'.objs.size:=I.fpOk hle (I.hok.fresh hle);show wpAny _ _ _ _ _ { s with heap:=h'.push (seqObj "list" acc.toList.toArray 0),toks:=tk };refine we (wpAny_holding (wpAny_call_entry_kw slot_list_sort ⟨_,hoL,rfl⟩ entry_list_sort ?body (ksk_l1 _ _)))
 case body =>
  show wpAny (model X.prog X.w) X.A.in1.in1 (Builtin.«list.sort» ⟨[.ref h'.objs.size],[(Str.ofString "key",.ref fa)]⟩) _ _ _;rw [ksk_t1];refine ycm (ds:=yc lo (hi-lo).toNat) I1 fA hoL rits (by rw [jo];exact Reps.of_ints _) (by rw [jo];simpa using h64) hf turn λH' s' c out I' sm fA' hA hp=>⟨_,rfl,wm ⟨_,rfl,?_⟩⟩
  obtain ⟨ns,hns,e1⟩:∃ ns:List Int,IntsAre out.toList ns/\ns.Perm ((List.range (hi-lo).toNat).map λi=>lo+(i:Nat)):=by
   have hI:=intsAre_of rits;refine ⟨out.toList.map numOf,intsAre_map _ λv hv=>?_,?_⟩
   ·exact hI.all _ (hp.mem_iff.mp hv)
   ·have:=hp.map numOf;rw [hI.nums] at this;exact this
  have hnl:ns.length=(hi-lo).toNat:=by rw [e1.length_eq];simp
  have I2:=I'.adopt (o:=.lst (ns.map V.int)) fA' ⟨by rw [wC];omega,out.toList,c,qF hns,by rw [Array.toArray_toList];exact hA⟩;refine ⟨.ref h'.objs.size,_,I2,rfl,hQ _ _ (ns.map D.int) (sm.trans (qa fA'.1 _)) ?_ (.newL (hb.same sm) fA'.1 (Reps.of_ints ns))⟩;rw [jo];exact e1.map D.int
end
section
variable {X:Cx} {C:Tab}
theorem yc7 {i:Nat} {x:Str} {body a:Expr} {as:List Expr} {ce:Code} {cs:Codes} {px p1 p2 p3 kp q1 q2 q3 pos ip:Pos} {scope:Scope} {y:Str} {an:Option Expr} {pp:Pos} {keep:List Nat} {N':List Str} {sts:List Stmt} {r:Stms} (S:LamS 2 X C y body scope ce keep N') (hc:X.calm=true) (hl:ybR X) (hroom:X.A.depth<recursionLimit)
  (hN:X.N.Nodup) (hi:X.N[i]?=some x) (hlc:Loc X.env.scope x) (hfn:X.fn x=true\/X.env.scope.names.lookup x=some .local)
  (hg1:Gl X "tuple") (hm1:X.mg "tuple"=none) (hv1:bootBuiltins "tuple"=some (.type "tuple")) (hg2:Gl X "sorted") (hm2:X.mg "sorted"=none) (hg3:Gl X "range") (hm3:X.mg "range"=none) (ha:SA X C (a::as) cs) (hs:starEach (a::as) X.env=(false,eval a X.env)::starEach as X.env) (hpl:(backTo q3 (starEach as X.env)).any (·.1)=false) (h:SSs X C sts r) :
  SSs X C (.Assign [.Name x px] (.Call (.Name "tuple" p1) [.Call (.Name "sorted" p2) [.Call (.Name "range" p3) (a::as) [] q3] [⟨some "key",.Lambda ⟨[],[⟨y,an,pp⟩],none,[],[],none,[]⟩ body scope pos,kp⟩] q2] [] q1) ip::sts) (.srt i ce keep cs r):=λB H0 O ρ fl he=>by
 obtain ⟨xs,hx,he⟩:=wa (show ((evs C cs (vP ρ)).bind rngD).bind _=some fl from he);obtain ⟨dx,ex,hx⟩:=wa hx;obtain ⟨h64,hf,hall⟩:=ycM he
 have hsort:PE X (.Call (.Name "sorted" p2) [.Call (.Name "range" p3) (a::as) [] q3] [⟨some "key",.Lambda ⟨[],[⟨y,an,pp⟩],none,[],[],none,[]⟩ body scope pos,kp⟩] q2) (λσ H Q=>HB (BO B O) H/\ER X.K (BO B O) H σ (vP ρ)/\∀ l H' ys,Same H H'->ys.Perm xs->Rep X.K (BO B O) H' (.ref l) (.lst ys)->Q (.ref l) H'):=by
  intro pins s σ H Q I ⟨hb,er,q⟩;have hpe:PE X (.Call (.Name "range" p3) (a::as) [] q3) (tCB rRng (tDs X.K (BO B O) (vP ρ) dx)):=jm zaz hg3 hm3 jK (ha (BO B O) (vP ρ) dx ex) (by decide) (by decide) hs hpl;refine wpAny_Call_Name_kw (yO I hg2 hm2 zX ?_ (by decide) (by decide));refine callWith_kw (thn ((zF hpe zaa) q2 pins s σ H (λvs H1=>∃ (p:Addr) (lo hi:Int),vs=[.ref p]/\H1 p=some (.rng lo hi)/\xs=yc lo (hi-lo).toNat/\(-(2^62)<=lo/\lo<2^62/\-(2^62)<=hi/\hi<2^62)/\Same H H1) I ⟨hb,er,λvs H1 sm1 r1=>?T⟩) λus s1 ⟨vs,H1,I1,r1,p,lo,hi,ev',hp,hxs,hbd,sm1⟩=>?_) rfl rfl rfl rfl
  case T =>
   match dx,hx with
   | [.int j],hd =>
    simp only [rngD] at hd;split at hd
    ·rename_i hcd;cases hd;obtain ⟨v,rfl,rv⟩:=r1.one;cases rv;exact .inl ⟨j,rfl,hcd.1,hcd.2.1,λp hp=>⟨p,0,j,rfl,ja,by rw [Int.sub_zero],⟨by omega,by omega,hcd.1,hcd.2.1⟩,sm1.trans (qa hp _)⟩⟩
    ·cases hd
   | [.int i,.int j],hd =>
    simp only [rngD] at hd;split at hd
    ·rename_i hcd;cases hd;cases r1 with
     | cons ra r =>
      obtain ⟨v2,rfl,rb⟩:=r.one;cases ra;cases rb;exact .inr ⟨i,j,rfl,⟨hcd.1,hcd.2.1,hcd.2.2.1,hcd.2.2.2.1⟩,λp hp=>⟨p,i,j,rfl,ja,rfl,⟨hcd.1,hcd.2.1,hcd.2.2.1,hcd.2.2.2.1⟩,sm1.trans (qa hp _)⟩⟩
    ·cases hd
  subst ev';refine kws_cons (ybe (B:=BO B O) rfl (S.some I1) hl I1 (hb.same sm1) λfa c pm ctv H2 s2 I2 sm2 F=>kws_nil ?_);obtain ⟨u,rfl,ru⟩:=r1.one;cases ru;subst hxs;have hb2:=(hb.same sm1).same sm2;have er2:=(er.same sm1).same sm2;exact qbS (f:=λd=>ev C ce (some d::keep.map λi=>((vP ρ)[i]?).join)) hc I2 hb2 (sm2 _ _ hp) hbd (by rw [jo] at h64;simpa using h64) hf (λpins s H x u d k I sm r rp e=>jbe S hroom bind1 I (F.same sm) (hb2.same sm) (er2.same sm) r rp e) λl H' ys sm hpm rep=>q l H' ys ((sm1.trans sm2).trans sm) hpm rep
 intro pins s σ H D I q;refine j0 (qal hN hi hlc (jm zad hg1 hm1 hv1 (zF hsort zaa) (by decide) (by decide) rfl rfl) (qao rfl _ _ _) hfn) h.any pins s σ H D I ?_;refine ⟨q.1.hb,q.1.erP,λl H1 ys sm hp rl=>⟨BO B O,[.lst ys],.tup ys,q.1.hb.same sm,.cons rl .nil,rfl,λv H2 sm2 rv _=>?_⟩⟩;have sm':=sm.trans sm2;exact ⟨B,H0,O,_,fl,hall ys hp,yz q (Ext.of_same sm') ((q.1.grow sm').set (by rw [I.len];exact (wq.mp hi).1) rv) (by simp)⟩
end
end Eng
end
section
namespace Eng
open PySem
open AutoSeq1 (wpAny_loadPart')
end Eng
end
section
namespace Eng
open PySem PySem.Spec PyProof.Rows L2
variable [Tb]
def spD (K:Frag) (C:Tab) (i:Nat):Sp:=λvs H Q _=>∃ B ds d,HB B H/\Reps K B H vs ds/\C i ds=some d/\∀ v H',Same H H'->Rep K B H' v d->Q v H'
noncomputable def bltL:List Str:=["range","enumerate","zip","len","sorted","set","list","tuple","int","str","min","max","sum","all","any","isinstance","bool"]
structure Glob (G:GTab) (g:Gam) (X:Cx) (C:Tab):Prop where
 calm:X.calm=true
 hx:X.xe=λ_ _=>False
 hu:X.A.units+64<cLine
 fns:∀ (i:Nat) (x:Str),G.fns[i]?=some x->∃ k f fd ps,FnOk X.prog X.w X.K X.mg X.base CX0 k f fd ps (spD X.K C i)/\(Room k X.A/\(g.lp≠none->∀ n,n<=2->∀ env,Room k ((up n X.A).deeper env)))/\X.mg x=some (.ref f)/\PySem.W.keepIn X.K (.ref f)=true/\Binds X.K fd ps []
 lr:g.lp≠none->X.A.units+128<cLine/\X.A.depth<recursionLimit
 blts:∀ x∈bltL,X.mg x=none
 cons:∀ (x:Str) (i:Int),G.cons.lookup x=some i->∃ t,X.mg x=some (.int i t)
structure Fit (g:Gam) (X:Cx):Prop where
 N:X.N=g.N
 nd:X.N.Nodup
 loc:∀ x,qP g x=some .local->X.env.scope.names.lookup x=some .local
 cel:∀ x,qP g x=some .cell->X.env.scope.names.lookup x=some .cell/\X.fn x=true
 fre:∀ x,qP g x=some .free->X.env.scope.names.lookup x=some .cell\/X.env.scope.names.lookup x=some .free
 glo:∀ x,qP g x=some .globalImplicit->Gl X x
 lmo:g.lp.isSome=true->ybR X
section
variable {g:Gam} {X:Cx} {C:Tab} {G:GTab}
theorem Fit.vis (F:Fit g X) {x:Str} (h:zcC g x=true):Vis X.env.scope x:=by
 simp only [zcC,Bool.or_eq_true,vm] at h;rcases h with (h | h) | h
 ·exact .inl (F.loc x h)
 ·exact .inr (.inl (F.cel x h).1)
 ·exact (F.fre x h).elim (λz=>.inr (.inl z)) λz=>.inr (.inr z)
theorem Fit.locd (F:Fit g X) {x:Str} (h:yc3 g x=true):Loc X.env.scope x/\(X.fn x=true\/X.env.scope.names.lookup x=some .local):=by
 simp only [yc3,Bool.or_eq_true,vm] at h;rcases h with h | h
 ·exact ⟨.inl (F.loc x h),.inr (F.loc x h)⟩
 ·exact ⟨.inr (F.cel x h).1,.inl (F.cel x h).2⟩
theorem Fit.glob (F:Fit g X) {x:Str} (h:zaN g x=true):Gl X x:=F.glo x (by simpa [zaN] using h)
theorem Fit.slot (F:Fit g X) {i:Nat} {x:Str} (h:yT g i x=true):X.N[i]?=some x:=by rw [F.N];simpa [yT] using h
theorem yh {x:Str} (h:yP x=true):(x==("__debug__":Str))=false/\(x==("__classdict__":Str))=false:=by
 simp only [yP,wg,w4] at h;exact h
theorem yn {e:Expr} {es:List Expr} {env:Env} (h:zt e=false):starEach (e::es) env=(false,eval e env)::starEach es env:=by
 cases e<;>first | rfl | cases h
theorem jae:∀ {es:List Expr} {env:Env} {pos:Pos},(∀ e∈es,zt e=false)->(backTo pos (starEach es env)).any (·.1)=false
 | [],_,_,_=>rfl
 | e::es,env,pos,h=>by
  rw [yn (h e (by simp))]
  have:=jae (es:=es) (env:=env) (pos:=pos) λe he=>h e (by simp [he])
  simp only [backTo,List.map_cons,List.any_cons,Bool.false_or] at *;exact this
theorem zaf {es:List Expr} (h:jaZ es=true):∃ a as,es=a::as/\∀ e∈es,zt e=false:=by
 simp only [jaZ,wg,w4,List.all_eq_true] at h;cases es with
 | nil=>simp at h
 | cons a as=>exact ⟨a,as,rfl,h.2⟩
theorem yaO {r:Expr->Code->Bool} (hr:∀ e c,r e c=true->SE X C e c):∀ {es:List Expr} {cs:Codes},(∀ e∈es,zt e=false)->okA r es cs=true->SA X C es cs
 | [],.nil,_,_=>jq
 | [],.cons _ _,_,h=>by cases h
 | _::_,.nil,_,h=>by cases h
 | e::es,.cons c cs,hs,h=>by
  rw [okA,wg] at h;exact yi (hr e c h.1) (yaO hr (λe he=>hs e (by simp [he])) h.2) (yn (hs e (by simp)))
theorem jc7 {r:Expr->Code->Bool} (hr:∀ e c,r e c=true->SE X C e c) {op:BoolOp} {pos:Pos}:∀ {es:List Expr} {c:Code},zb9 r op es c=true->SE X C (.BoolOp op es pos) c
 | [],_,h=>by cases h
 | [a],c,h=>ydD (hr a c h)
 | a::b::es,c,h=>by
  cases op with
  | And =>
   cases c with
   | and x y =>
    rw [zb9,wg] at h;exact jdD (hr a x h.1) (jc7 hr h.2)
   | _=>cases h
  | Or =>
   cases c with
   | or x y =>
    rw [zb9,wg] at h;exact yec (hr a x h.1) (jc7 hr h.2)
   | _=>cases h
theorem zc8 {t:Expr->Code->Bool} (ht:∀ e c,t e c=true->SB X C e c) {op:BoolOp} {pos:Pos}:∀ {es:List Expr} {c:Code},zb9 t op es c=true->∀ B ρ d k,ev C c ρ=some d->truO d=some k->PW X (.BoolOp op es pos) (tTr X.K B ρ k)
 | [],_,h=>by cases h
 | [a],c,h=>by
  cases op with
  | And=>exact qbr (ht a c h)
  | Or=>exact qbH (ht a c h)
 | a::b::es,c,h=>by
  cases op with
  | And =>
   cases c with
   | and x y =>
    rw [zb9,wg] at h;exact qdD (ht a x h.1) (zc8 ht h.2)
   | _=>cases h
  | Or =>
   cases c with
   | or x y =>
    rw [zb9,wg] at h;exact qec (ht a x h.1) (zc8 ht h.2)
   | _=>cases h
theorem ybS {X:Cx} (hu:X.A.units+64<cLine) (op:CmpOp):OpR X (compareOp op) (rD2 X.K (zaK op)):=by
 cases op with
 | In=>exact qcD hu false
 | NotIn=>exact qcD hu true
 | _=>exact zcW hu (by decide)
theorem ydO {op:CmpOp} {b:Expr} (h:setB b=false):behindInMarks op b=false:=by cases b<;>first | rfl | cases h
theorem jcD {r:Expr->Code->Bool} (hr:∀ e c,r e c=true->SE X C e c) (hu:X.A.units+64<cLine) {l:Expr} {os:List CmpOp} {es:List Expr} {c:Code} {pos:Pos} (h:qck r l os es c=true):SE X C (.Compare l os es pos) c/\SB X C (.Compare l os es pos) c:=by
 unfold qck at h;split at h
 ·simp only [wg,wF,w4] at h;obtain ⟨⟨⟨rfl,h2⟩,h3⟩,h4⟩:=h;exact ⟨qdC (ybS hu _) (hr _ _ h3) (hr _ _ h4) (ydO h2),ydC (ybS hu _) (hr _ _ h3) (hr _ _ h4) (ydO h2)⟩
 ·cases h
theorem qc8 {i:Nat} {x:Str} {p pos:Pos} {e:Expr} {es:List Expr} {cs:Codes} (W:Glob G g X C) (hi:G.fns[i]?=some x) (hg:Gl X x) (hd:(x==("__debug__":Str))=false) (ha:SA X C (e::es) cs) (hs:∀ a∈e::es,zt a=false):SE X C (.Call (.Name x p) (e::es) [] pos) (.call i cs):=λB ρ d ed=>by
 obtain ⟨ds,eds,ed⟩:=wa (show (evs C cs ρ).bind (λxs=>C i xs)=some d from ed);obtain ⟨k,f,fd,ps,F,hr,hm,hk,hb⟩:=W.fns i x hi;refine (jcP F hr.1 hg hm hk hb .nil jd8 (ha B ρ ds eds) hd (yn (hs e (by simp))) (jae λa h=>hs a (by simp [h]))).imp λσ H Q ⟨h1,h2,q⟩=>⟨h1,h2,λvs H1 sm r=>?_⟩
 show spD X.K C i (vs++[]) H1 Q E0;rw [List.append_nil];exact ⟨B,ds,d,h1.same sm,r,ed,λv H' s r'=>q v H' (sm.trans s) r'⟩
end
theorem yw {env:Env} {k':NameKind} (hk:k'≠.free):∀ {names:List (Str×NameKind)} {x:Str},names.lookup x=some k' ->
  (names.map λ(n,k)=>if (k==NameKind.free&&env.scope.kind==.function&&env.kindOf n==some .cell) then (n,NameKind.cell) else (n,k)).lookup x=some k'
 | [],_,h=>by simp at h
 | (n,k)::r,x,h=>by
  rw [List.lookup_cons] at h;rw [List.map_cons];cases hx:x==n with
  | true =>
   rw [hx] at h;have ek:k=k':=wA h;subst ek
   have c:¬ (k==NameKind.free&&env.scope.kind==.function&&env.kindOf n==some .cell)=true:=by
    cases k<;>first | exact absurd rfl hk | simp
   show List.lookup x ((if _ then _ else _)::_)=_;rw [if_neg c,List.lookup_cons,hx]
  | false =>
   rw [hx] at h;have ih:=yw (env:=env) hk h
   by_cases c:(k==NameKind.free&&env.scope.kind==.function&&env.kindOf n==some .cell)=true
   ·show List.lookup x ((if _ then _ else _)::_)=_;rw [if_pos c,List.lookup_cons,hx];exact ih
   ·show List.lookup x ((if _ then _ else _)::_)=_;rw [if_neg c,List.lookup_cons,hx];exact ih
section
variable {g:Gam} {X:Cx} {C:Tab} {G:GTab}
theorem Glob.blk (W:Glob G g X C) (N':List Str) (scope:Scope) (s₀:Shared) (H₀:Hp) (fp:List Addr):Glob G ⟨N',scope.names,none⟩ (blk X N' scope s₀ H₀ fp) C :=
 ⟨W.calm,W.hx,W.hu,λi x h=>let ⟨k,f,fd,ps,F,hr,q⟩:=W.fns i x h;⟨k,f,fd,ps,F,⟨hr.1,λz=>absurd rfl z⟩,q⟩,λz=>absurd rfl z,W.blts,W.cons⟩
theorem Glob.lam (W:Glob G g X C) (hl:g.lp≠none) {n:Nat} (hn:n<=2) (N':List Str) (scope:Scope) (s₀:Shared) (H₀:Hp) (fa:Addr) (cd:Value):Glob G ⟨N',scope.names,none⟩ (Eng.lam X n N' scope s₀ H₀ fa cd) C :=
 ⟨W.calm,rfl,by have:=(W.lr hl).1;show X.A.units+n+3+64<cLine;omega,λi x h=>let ⟨k,f,fd,ps,F,hr,q⟩:=W.fns i x h;⟨k,f,fd,ps,F,⟨hr.2 hl n hn _,λz=>absurd rfl z⟩,q⟩,λz=>absurd rfl z,W.blts,W.cons⟩
theorem Fit.lamb {n:Nat} {scope:Scope} {N':List Str} (hc:∀ x∈scope.names,x.2≠.cell) (hn:N'.Nodup) (s₀:Shared) (H₀:Hp) (fa:Addr) (cd:Value):Fit ⟨N',scope.names,none⟩ (Eng.lam X n N' scope s₀ H₀ fa cd) :=
 ⟨rfl,hn,λx h=>h,λx h=>absurd rfl (hc _ (wZ h)),λx h=>.inr h,λx h=>h,λh=>by cases h⟩
theorem Fit.blk {scope:Scope} {N':List Str} (hs:yap g scope=true) (hn:N'.Nodup) (s₀:Shared) (H₀:Hp) (fp:List Addr):Fit ⟨N',scope.names,none⟩ (blk X N' scope s₀ H₀ fp):=by
 simp only [yap,wg,List.all_eq_true,wF] at hs;refine ⟨rfl,hn,λx h=>?_,λx h=>?_,λx h=>?_,λx h=>?_,λh=>by cases h⟩
 ·exact yw (env:=X.env) (by decide) h
 ·exact ⟨yw (env:=X.env) (by decide) h,by show (scope.names.lookup x==some .cell)=true;rw [show scope.names.lookup x=some .cell from h];rfl⟩
 ·exact yG (env:=X.env) h
 ·exact yw (env:=X.env) (by decide) h
theorem yc8 (F:Fit g X) (hc:X.calm=true) {tg:Expr} {t:Tgt} (h:tgB g tg t=true):PG X tg (gT t)/\∀ i∈t.ixs,i<X.N.length:=by
 have pairs:∀ (es:List Expr) (is:List Nat),qd0 g es is=true->(∀ e∈es.zip is,∃ x p,e.1=Expr.Name x p/\X.N[e.2]?=some x/\Loc X.env.scope x/\(X.fn x=true\/X.env.scope.names.lookup x=some .local))/\es.length=is.length/\∀ i∈is,i<X.N.length:=by
  intro es
  induction es with
  | nil =>
   intro is h;cases is with
   | nil=>exact ⟨λe he=>by simp at he,rfl,λi hi=>by simp at hi⟩
   | cons _ _=>cases h
  | cons e es ih =>
   intro is h;cases is with
   | nil=>cases e<;>cases h
   | cons i is =>
    cases e with
    | Name x p =>
     simp only [qd0,wg] at h;obtain ⟨h1,h2,h3⟩:=ih is h.2;have hsl:=F.slot h.1.1;have hlt:=(wq.mp hsl).1;refine ⟨λe he=>?_,by simp [h2],λj hj=>?_⟩
     ·rw [List.zip_cons_cons,wu] at he;rcases he with rfl | he
      ·exact ⟨x,p,rfl,hsl,F.locd h.1.2⟩
      ·exact h1 e he
     ·rcases wu.mp hj with rfl | hj
      ·exact hlt
      ·exact h3 j hj
    | _=>cases h
 cases tg with
 | Name x p =>
  cases t with
  | one i =>
   simp only [tgB,wg] at h;have hsl:=F.slot h.1;refine ⟨zdI F.nd hsl (F.locd h.2).1 (F.locd h.2).2,λj hj=>?_⟩
   have:j=i:=by simpa [Tgt.ixs] using hj
   rw [this];exact (wq.mp hsl).1
  | many is=>cases h
 | Tuple es k p =>
  cases t with
  | one i=>cases h
  | many is =>
   obtain ⟨h1,h2,h3⟩:=pairs es is h;exact ⟨zcX hc F.nd h1 h2,h3⟩
 | _=>cases h
theorem jdO {t:Tgt} {n:Nat} (h:zed t n=true):∀ i∈t.ixs,i<n:=by
  cases t with
  | one i => intro j hj; have : j = i := by simpa [Tgt.ixs] using hj
             rw [this];simpa [zed] using h
  | many is=>intro j hj;exact ve (List.all_eq_true.mp h j hj)
theorem jcm {e:Expr} (h:setB e=false) (env:Env) (x:Value):foldedSetIterable e env x=pure x:=by
 cases e<;>first | rfl | cases h
theorem qaf {o:Expr} (h:jc3 o=false) (nm:Str) (env:Env) (w:Sem Value):attributeBase o nm env w=w:=by
 cases o<;>first | rfl | cases h
theorem zdP (F:Fit g X) (W:Glob G g X C) {r:Expr->Code->Bool} (hr:∀ e c,r e c=true->SE X C e c) {tg it:Expr} {i:Iter} (h:okI r g tg it i=true):SI X C tg it i/\∀ x,foldedSetIterable it X.env x=pure x:=by
 unfold okI at h;rw [wg,w4] at h;obtain ⟨h0,h⟩:=h;refine ⟨?_,jcm h0 X.env⟩;cases i with
 | data c=>exact jcX (hr it c h)
 | rng cs =>
  simp only at h;split at h
  ·rename_i y as hcn;obtain ⟨p,pos,rfl⟩:=zJ hcn;simp only [wg,Bool.or_eq_true,vm,wF] at h;obtain ⟨⟨⟨⟨rfl,hg⟩,hl⟩,ha⟩,hA⟩:=h;obtain ⟨_,_,_,hst⟩:=zaf ha;have hm:=W.blts "range" (by decide)
   match as,cs,hA,hl,hst with
   | [a],.cons c .nil,hA,_,hst =>
    simp only [okA,Bool.and_true] at hA;exact zcY (F.glob hg) hm (hr a c hA) (yn (hst a (by simp)))
   | [a],.nil,hA,_,_=>simp [okA] at hA
   | [a],.cons _ (.cons _ _),hA,_,_=>simp [okA] at hA
   | [a,b],.cons c (.cons d .nil),hA,_,hst =>
    simp only [okA,Bool.and_true,wg] at hA;exact qcY (F.glob hg) hm (hr a c hA.1) (hr b d hA.2) (by rw [yn (hst a (by simp)),yn (hst b (by simp))];rfl) (yn (hst b (by simp)))
   | [a,b],.nil,hA,_,_=>simp [okA] at hA
   | [a,b],.cons _ .nil,hA,_,_=>simp [okA] at hA
   | [a,b],.cons _ (.cons _ (.cons _ _)),hA,_,_=>simp [okA] at hA
   | [],_,_,hl,_=>simp at hl
   | _::_::_::_,_,_,hl,_=>simp at hl
  ·cases h
 | enu c =>
  simp only [wg] at h;obtain ⟨ht,h⟩:=h;cases tg with
  | Tuple es k p =>
   split at h
   ·rename_i y as hcn;obtain ⟨p',pos,rfl⟩:=zJ hcn;split at h
    ·rename_i a ha;cases qE ha;simp only [wg,vm,w4] at h;obtain ⟨⟨⟨rfl,hg⟩,hs⟩,hA⟩:=h;exact zdL (F.glob hg) (W.blts "enumerate" (by decide)) (hr _ _ hA) (yn hs)
    ·cases h
   ·cases h
  | _=>cases ht
 | zip c d =>
  simp only [wg] at h;obtain ⟨ht,h⟩:=h;cases tg with
  | Tuple es k p =>
   split at h
   ·rename_i y as hcn;obtain ⟨p',pos,rfl⟩:=zJ hcn;split at h
    ·rename_i a b ha;cases ycC ha;simp only [wg,vm,w4] at h;obtain ⟨⟨⟨⟨⟨rfl,hg⟩,hs⟩,hs'⟩,hA⟩,hB⟩:=h;exact qdL (F.glob hg) (W.blts "zip" (by decide)) (hr _ _ hA) (hr _ _ hB) (by rw [yn hs,yn hs'];rfl) (yn hs')
    ·cases h
   ·cases h
  | _=>cases ht
 | vals c =>
  simp only at h;split at h
  ·split at h
   ·rw [wg,wg,List.isEmpty_iff,List.isEmpty_iff] at h;obtain ⟨⟨rfl,rfl⟩,h⟩:=h;simp only [wg,vm,w4] at h;obtain ⟨⟨⟨rfl,h1⟩,h2⟩,h3⟩:=h;exact qc1 (hr _ _ h3) (qaf h1 _ _ _) (by simpa using h2)
   ·cases h
  ·cases h
theorem jbS (F:Fit g X) (W:Glob G g X C) {r t:RE} (hr:∀ g X,Fit g X->Glob G g X C->(∀ e c,r g e c=true->SE X C e c)/\∀ e c,t g e c=true->SB X C e c)
  {elt tg it:Expr} {ifs:List Expr} {asy:Int} {scope:Scope} {c:Code} (h:okC r t g elt tg it ifs asy scope c=true) :
  asy=0/\∃ ce tt m keep i cc N',c=.comp ce tt m keep i cc/\CompS X C elt tg it ifs scope ce tt m keep cc N'/\SI X C tg it i:=by
 unfold okC at h;split at h
 ·rename_i ce tt m keep i cc;simp only [wg,vm,wF] at h;obtain ⟨⟨⟨⟨⟨⟨⟨⟨⟨h0,hsc⟩,hk⟩,hm⟩,hix⟩,hnd⟩,htg⟩,hI⟩,hE⟩,hT⟩:=h;have hI':=zdP F W (hr g X F W).1 hI;have Fb:=λs₀ H₀ fp=>Fit.blk (X:=X) hsc hnd s₀ H₀ fp
  have Wb:=λs₀ H₀ fp=>W.blk (zc4 g scope tg keep).N scope s₀ H₀ fp
  refine ⟨h0,ce,tt,m,keep,i,cc,(zc4 g scope tg keep).N,rfl,?_,hI'.1⟩;have hsc':=hsc;simp only [yap,wg,List.all_eq_true,wF,Bool.or_eq_true,vm] at hsc';refine ⟨W.hx,W.calm,hsc'.1,λx hx hx'=>?_,λx hx hf=>?_,λx hx hl=>?_,?_,λk j hkj=>?_,jdO hix,hI'.2,λs₀ H₀ fp=>(yc8 (Fb s₀ H₀ fp) W.calm htg).1,λs₀ H₀ fp=>(hr _ _ (Fb s₀ H₀ fp) (Wb s₀ H₀ fp)).1 elt ce hE,?_⟩
  ·rcases (hsc'.2 _ hx).1.1 with z | z
   ·exact z rfl
   ·rcases z _ hx' with y | y
    ·exact y rfl
    ·exact y rfl
  ·rcases (hsc'.2 x hx).1.2 with z | z | z
   ·exact absurd hf z
   ·exact .inl (F.cel _ z).1
   ·exact F.fre _ z
  ·rcases (hsc'.2 x hx).2 with z | z
   ·exact absurd hl z
   ·exact z
  ·simp [zc4,hm]
  ·have hj:=List.all_eq_true.mp hk j (wR hkj);cases hN:g.N[j]? with
   | none=>rw [hN] at hj;cases hj
   | some x =>
    rw [hN] at hj;simp only [wg,Bool.or_eq_true,vm] at hj;refine ⟨x,?_,by rw [F.N];exact hN,hj.1,?_⟩
    ·show (jbP tg++keep.map λj=>(g.N[j]?).getD Str.empty)[m+k]?=some x;rw [<-hm,List.getElem?_append_right (Nat.le_add_right _ _),Nat.add_sub_cancel_left,wx,hkj];simp [hN]
    ·rcases hj.2 with z | z
     ·exact .inl (F.cel _ z).1
     ·exact F.fre _ z
  ·split at hT
   ·exact .inl ⟨rfl,rfl⟩
   ·rename_i e c';exact .inr ⟨e,c',rfl,rfl,λs₀ H₀ fp=>(hr _ _ (Fb s₀ H₀ fp) (Wb s₀ H₀ fp)).2 e c' hT⟩
   ·cases hT
 ·cases h
end
theorem qL:bootBuiltins "tuple"=some (.type "tuple"):=by kernel_rfl
theorem zbT:bootBuiltins "int"=some (.type "int"):=by kernel_rfl
theorem qbT:bootBuiltins "all"=some (.builtin "all"):=by kernel_rfl
theorem ybT:bootBuiltins "sum"=some (.builtin "sum"):=by kernel_rfl
theorem jbT:bootBuiltins "sorted"=some (.builtin "sorted"):=by kernel_rfl
theorem jaO:bootBuiltins "min"=some (.builtin "min"):=by kernel_rfl
section
variable {g:Gam} {X:Cx} {C:Tab} {G:GTab}
theorem zcn {s:Expr} (h:ybP s=false):yaW s:=λo i=>by cases s<;>first | rfl | cases h
theorem zcE (F:Fit g X) {r:Expr->Code->Bool} (hr:∀ e c,r e c=true->SE X C e c) {args:List Expr} {cs:Codes} (h:zck r g args cs=true):∃ a c p pos,args=[.Call (.Name "set" p) [a] [] pos]/\cs=.cons c .nil/\Gl X "set"/\starEach [a] X.env=[(false,eval a X.env)]/\SE X C a c:=by
 unfold zck at h;split at h
 ·rename_i y as hc;obtain ⟨p,q,rfl⟩:=qbe hc;split at h
  ·rename_i a ha;cases qE ha;split at h
   ·simp only [wg,vm,w4] at h;obtain ⟨⟨⟨rfl,hg⟩,hs⟩,hA⟩:=h;exact ⟨_,_,_,_,rfl,rfl,F.glob hg,yn hs,hr _ _ hA⟩
   ·cases h
  ·cases h
 ·cases h
theorem qbf (F:Fit g X) {r:Expr->Code->Bool} (hr:∀ e c,r e c=true->SE X C e c) {args:List Expr} {cs:Codes} (h:jbs r g args cs=true):∃ e es p pos,args=[.Call (.Name "range" p) (e::es) [] pos]/\Gl X "range"/\(∀ a∈e::es,zt a=false)/\SA X C (e::es) cs:=by
 unfold jbs at h;split at h
 ·rename_i y as hc;obtain ⟨p,q,rfl⟩:=qbe hc;simp only [wg,vm] at h;obtain ⟨⟨⟨rfl,hg⟩,ha⟩,hA⟩:=h;obtain ⟨a,as,rfl,hst⟩:=zaf ha;exact ⟨_,_,_,_,rfl,F.glob hg,hst,yaO hr hst hA⟩
 ·cases h
theorem qcE (F:Fit g X) (W:Glob G g X C) {b:Blt} {x:Str} {e:Expr} {es:List Expr} {cs:Codes} {p pos:Pos} (hb:qen b=some x) (hg:zaN g x=true) (hst:∀ a∈e::es,zt a=false) (hA:SA X C (e::es) cs) :
  SE X C (.Call (.Name x p) (e::es) [] pos) (.blt b cs)/\(b=.list->SF X C (.Call (.Name x p) (e::es) [] pos) (.blt b cs)):=by
 have s1:=yn (env:=X.env) (es:=es) (hst e (by simp));have s2:=jae (env:=X.env) (pos:=pos) (es:=es) λa h=>hst a (by simp [h])
 cases b with
 | len=>cases hb;exact ⟨j4 jbI (F.glob hg) (W.blts _ (by decide)) qbO hA (by decide) (by decide) s1 s2,λz=>by cases z⟩
 | list=>cases hb;exact ⟨qax qan (F.glob hg) (W.blts _ (by decide)) zT hA (by decide) (by decide) s1 s2,λ_=>zch qan (F.glob hg) (W.blts _ (by decide)) zT hA (by decide) (by decide) s1 s2⟩
 | tuple=>cases hb;exact ⟨qax zad (F.glob hg) (W.blts _ (by decide)) qL hA (by decide) (by decide) s1 s2,λz=>by cases z⟩
 | int=>cases hb;exact ⟨qax zbJ (F.glob hg) (W.blts _ (by decide)) zbT hA (by decide) (by decide) s1 s2,λz=>by cases z⟩
 | str=>cases hb
 | all=>cases hb;exact ⟨j4 (zbP W.calm) (F.glob hg) (W.blts _ (by decide)) qbT hA (by decide) (by decide) s1 s2,λz=>by cases z⟩
 | any=>cases hb
 | sum=>cases hb;exact ⟨j4 (qbP W.calm) (F.glob hg) (W.blts _ (by decide)) ybT hA (by decide) (by decide) s1 s2,λz=>by cases z⟩
 | min=>cases hb
 | sorted=>cases hb;exact ⟨j4 zaO (F.glob hg) (W.blts _ (by decide)) jbT hA (by decide) (by decide) s1 s2,λz=>by cases z⟩
 | max=>cases hb
 | _=>cases hb
theorem qdP {r:Expr->Code->Bool} (hr:∀ e c,r e c=true->SE X C e c) {e:Option Expr} {c:OCode} (h:okO r e c=true):SO X C e c:=by
 unfold okO at h;split at h
 ·exact qc5
 ·exact yc5 (hr _ _ h)
 ·cases h
theorem call_of (F:Fit g X) (W:Glob G g X C) {r:Expr->Code->Bool} (hr:∀ e c,r e c=true->SE X C e c) {x:Str} {args:List Expr} {c:Code} {p pos:Pos} (h:zbQ G r g x args c=true):SE X C (.Call (.Name x p) args [] pos) c:=by
 unfold zbQ at h;rw [wg,wg] at h;obtain ⟨⟨hg,hp⟩,h⟩:=h;split at h
 ·simp only [wg,vm] at h;obtain ⟨a,as,rfl,hst⟩:=zaf h.1.2;exact qc8 W h.1.1 (F.glob hg) (yh hp).1 (yaO hr hst h.2) hst
 ·cases h
 ·simp only [wg,vm] at h;obtain ⟨rfl,h⟩:=h;obtain ⟨a,c,p',pos',rfl,rfl,h1,h2,h3⟩:=zcE F hr h;exact qaM W.calm h1 (W.blts _ (by decide)) (F.glob hg) (W.blts _ (by decide)) h3 h2
 ·simp only [wg,vm] at h;obtain ⟨a,as,rfl,hst⟩:=zaf h.1.2;exact (qcE F W h.1.1 hg hst (yaO hr hst h.2)).1
 ·simp only [wg,vm] at h;obtain ⟨rfl,h⟩:=h;obtain ⟨e,es,p',pos',rfl,h1,h2,h3⟩:=qbf F hr h;have sf:=qap (p1:=p) (pos1:=pos) (p2:=p') (pos2:=pos') W.calm h1 (W.blts _ (by decide)) (F.glob hg) (W.blts _ (by decide)) h3 (yn (h2 e (by simp))) (jae λa h=>h2 a (by simp [h]));intro B ρ d ed
  have:∃ ds,d=.lst ds:=by
   obtain ⟨ds',hd,ed⟩:=wa (show (evI C (.rng _) ρ).bind (λds=>some (D.lst ds))=some d from ed);exact ⟨ds',(wA ed).symm⟩
  obtain ⟨ds,rfl⟩:=this;exact sf.se B ρ ds ed
 ·simp only [wg,vm] at h;obtain ⟨rfl,h⟩:=h;obtain ⟨e,es,p',pos',rfl,h1,h2,h3⟩:=qbf F hr h;exact yaZ W.calm h1 (W.blts _ (by decide)) (F.glob hg) (W.blts _ (by decide)) qL h3 (yn (h2 e (by simp))) (jae λa h=>h2 a (by simp [h]))
 ·cases h
theorem zef (F:Fit g X) (W:Glob G g X C) {r:Expr->Code->Bool} (hE:∀ e c,r e c=true->SE X C e c) {f:Expr} {args:List Expr} {kws:List Keyword} {cpos:Pos} {c:Code} (h:qed G r g f args kws cpos.line c=true):SE X C (.Call f args kws cpos) c:=by
 unfold qed at h;split at h
 ·split at h
  ·exact call_of F W hE h
  ·split at h
   ·unfold jcC at h;split at h
    ·simp only [wg,vm,w4] at h;obtain ⟨⟨⟨⟨⟨rfl,rfl⟩,hg⟩,hs⟩,h4⟩,h5⟩:=h;exact zc6 W.calm W.hu (F.glob hg) (W.blts _ (by decide)) jaO (hE _ _ h4) (hE _ _ h5) (yn hs)
    ·cases h
   ·cases h
  ·cases h
 ·split at h
  ·split at h
   ·unfold yen at h;split at h
    ·rw [wg] at h;obtain ⟨h0,h⟩:=h;simp only [wg,vm,w4] at h;obtain ⟨⟨⟨⟨h1,h2⟩,h3⟩,h4⟩,h5⟩:=h;split at h0
     ·rw [vm] at h0;subst h0;exact jcl W.hu (hE _ _ h4) (hE _ _ h5) (qaf h1 _ _ _) (by simpa using h3) (yn h2)
     ·rw [vm] at h0;subst h0;exact qcm W.hu (hE _ _ h4) (hE _ _ h5) (qaf h1 _ _ _) (by simpa using h3) (yn h2)
     ·cases h0
    ·cases h
   ·cases h
  ·cases h
 ·cases h
theorem zbU (F:Fit g X) (W:Glob G g X C) {r t:RE} (hr:∀ g X,Fit g X->Glob G g X C->(∀ e c,r g e c=true->SE X C e c)/\∀ e c,t g e c=true->SB X C e c) {n:Nat} (hn:n<=2) {ps:Arguments} {body:Expr} {scope:Scope} {pos:Pos} {ce:Code} {keep:List Nat}
  (h:jck r g ps body scope pos ce keep=true):∃ y an pp,ps=⟨[],[⟨y,an,pp⟩],none,[],[],none,[]⟩/\LamS n X C y body scope ce keep (jdN g y scope keep).N/\ybR X/\X.A.depth<recursionLimit:=by
 unfold jck at h;split at h
 rotate_left
 ·cases h
 rename_i y hy;obtain ⟨an,pp,rfl⟩:=jc4 hy;refine ⟨y,an,pp,rfl,?_⟩;simp only [wg,vm,w4,List.all_eq_true,wF] at h;obtain ⟨⟨⟨⟨hlp,hsc⟩,⟨⟨hnc,hco⟩,hge⟩⟩,⟨⟨hpar,hkp⟩,hnd⟩⟩,hB⟩:=h;have hlp':g.lp≠none:=λz=>by rw [z] at hlp;cases hlp
 have hsc':=hsc;simp only [yap,wg,List.all_eq_true,wF,Bool.or_eq_true,vm] at hsc'
 have Sl:LamS n X C y body scope ce keep (jdN g y scope keep).N:=by
  refine ⟨hsc'.1,hnc,hco,hge,λx hx hf=>?_,hpar,rfl,by simp [jdN,Nat.add_comm],λk j hkj=>?_,λs₀ H₀ fa cd=>(hr _ _ (Fit.lamb (X:=X) hnc hnd s₀ H₀ fa cd) (W.lam hlp' hn _ scope s₀ H₀ fa cd)).1 body ce hB⟩
  ·rcases (hsc'.2 x hx).1.2 with z | z | z
   ·exact absurd hf z
   ·exact .inl (F.cel _ z).1
   ·exact F.fre _ z
  ·have hj:=List.all_eq_true.mp hkp j (wR hkj);cases hN:g.N[j]? with
   | none=>rw [hN] at hj;cases hj
   | some x =>
    rw [hN] at hj;simp only [wg,Bool.or_eq_true,vm] at hj;refine ⟨x,?_,by rw [F.N];exact hN,hj.1,?_⟩
    ·show (y::keep.map λj=>(g.N[j]?).getD Str.empty)[1+k]?=some x;rw [Nat.add_comm,List.getElem?_cons_succ,wx,hkj];simp [hN]
    ·rcases hj.2 with z | z
     ·exact .inl (F.cel _ z).1
     ·exact F.fre _ z
 exact ⟨Sl,F.lmo hlp,(W.lr hlp').2⟩
theorem qef (F:Fit g X) (W:Glob G g X C) {r t:RE} (hr:∀ g X,Fit g X->Glob G g X C->(∀ e c,r g e c=true->SE X C e c)/\∀ e c,t g e c=true->SB X C e c) {f:Expr} {args:List Expr} {kws:List Keyword} {cpos:Pos} {c:Code} (h:zee r g f args kws c=true):SE X C (.Call f args kws cpos) c:=by
 unfold zee at h;split at h
 rotate_left
 ·cases h
 rename_i x a k ce keep ca h1 h2 h3 h4;obtain ⟨p,rfl⟩:=qJ h1;cases qE h2;cases qE h3;cases yck h4;obtain ⟨karg,kval,kpos⟩:=k;simp only [wg,vm,w4] at h;obtain ⟨⟨⟨⟨⟨rfl,hg⟩,hs⟩,rfl⟩,hA⟩,h⟩:=h;split at h
 rotate_left
 ·cases h
 rename_i ps body scope pos hlm;cases qbQ hlm;obtain ⟨y,an,pp,rfl,Sl,hl,hd⟩:=zbU F W hr (n:=1) (by decide) h;exact zc7 Sl W.calm hl hd rfl bind1 (F.glob hg) (W.blts _ (by decide)) jaO ((hr g X F W).1 _ _ hA) (yn hs)
theorem qcn (F:Fit g X) (W:Glob G g X C) {r t:RE} (hr:∀ g X,Fit g X->Glob G g X C->(∀ e c,r g e c=true->SE X C e c)/\∀ e c,t g e c=true->SB X C e c) {e:Expr} {c:Code} (h:zc5 G r t g e c=true):SE X C e c:=by
 have hE:=(hr g X F W).1;have hT:=(hr g X F W).2;unfold zc5 at h;split at h
 ·-- a constant
  split at h
  ·unfold qcC at h;split at h
   ·exact jdA
   ·have:=eq_of_beq h;subst this;exact jeb
   ·have:=eq_of_beq h;subst this;exact ydA
   ·have:=eq_of_beq h;subst this;exact zdB
   ·cases h
  ·cases h
 ·-- a name
  rw [wg] at h;obtain ⟨hp,h⟩:=h;unfold zeo at h;split at h
  ·rw [wg] at h;exact qdB (F.slot h.1) (F.vis h.2) (yh hp).1 (yh hp).2
  ·rw [wg,vm] at h;obtain ⟨tk,hm⟩:=W.cons _ _ h.2;exact ycV (v:=.int _) (F.glob h.1) hm ⟨tk,rfl⟩ (λ_ _=>.int _) (yh hp).1
  ·cases h
 ·split at h
  ·simp only [wg,wF] at h;obtain ⟨⟨rfl,h1⟩,h2⟩:=h;exact ydB (ybI _) (hE _ _ h1) (hE _ _ h2)
  ·cases h
 ·split at h
  ·split at h
   ·exact zdC (hE _ _ h)
   ·cases h
  ·split at h
   ·exact zdD (hE _ _ h)
   ·cases h
  ·cases h
 ·exact jc7 hE h
 ·split at h
  ·simp only [wg] at h;exact zdE (hT _ _ h.1.1) (hE _ _ h.1.2) (hE _ _ h.2)
  ·cases h
 ·exact (jcD hE W.hu h).1
 ·split at h
  ·simp only [wg,List.all_eq_true,w4] at h;exact jcz (yaO hE h.1 h.2)
  ·cases h
 ·split at h
  ·simp only [wg,List.all_eq_true,w4] at h;exact qdE (yaO hE h.1 h.2)
  ·cases h
 ·unfold jen at h;split at h
  ·simp only [wg,w4] at h;exact jdH (hE _ _ h.1.2) (hE _ _ h.2) (zcn h.1.1)
  ·split at h
   ·simp only [wg] at h;exact zdO (hE _ _ h.1.1) (qdP hE h.1.2) (qdP hE h.2)
   ·cases h
  ·cases h
 ·split at h
  ·obtain ⟨rfl,ce,tt,m,keep,i,cc,N',rfl,S,hi⟩:=jbS F W hr h;exact ycX S hi
  ·cases h
 ·rw [Bool.or_eq_true] at h;exact h.elim (λh=>zef F W hE h) (λh=>qef F W hr h)
 ·cases h
theorem ycn (F:Fit g X) (W:Glob G g X C) {r t:RE} (hr:∀ g X,Fit g X->Glob G g X C->(∀ e c,r g e c=true->SE X C e c)/\∀ e c,t g e c=true->SB X C e c) {e:Expr} {c:Code} (h:stepT G r t g e c=true):SB X C e c:=by
 have hE:=(hr g X F W).1;have hT:=(hr g X F W).2;unfold stepT at h;split at h
 ·split at h
  ·exact jdC (hT _ _ h)
  ·cases h
 ·exact λB ρ d k e1 e2=>(zc8 hT h B ρ d k e1 e2).pt
 ·cases h
 ·exact (jcD hE W.hu h).2
 ·rename_i n1 n2 n3 n4;refine zec (hE _ _ h) λwhole=>?_
  cases e with
  | UnaryOp op a p =>
   cases op with
   | Not=>exact absurd rfl (n1 _ _)
   | _=>rfl
  | BoolOp op es p=>exact absurd rfl (n2 _ _ _)
  | IfExp a b c p=>exact absurd rfl (n3 _ _ _ _)
  | Compare a b c p=>exact absurd rfl (n4 _ _ _ _)
  | _=>rfl
theorem jaz (G:GTab) (C:Tab):∀ (n:Nat) (g:Gam) (X:Cx),Fit g X->Glob G g X C->(∀ e c,(ok G n).1 g e c=true->SE X C e c)/\∀ e c,(ok G n).2 g e c=true->SB X C e c
 | 0,_,_,_,_=>⟨λ_ _ h=>(by cases h),λ_ _ h=>(by cases h)⟩
 | n+1,g,X,F,W=>⟨λe c h=>qcn F W (jaz G C n) h,λe c h=>ycn F W (jaz G C n) h⟩
end
noncomputable def yeo (r:Expr->Code->Bool) (g:Gam) (x:Str) (args:List Expr) (c:Code):Bool:=match c with
 | .blt .list cs=>x==("list":Str)&&zaN g x&&jaZ args&&okA r args cs
 | .blt .sortedSet cs=>x==("sorted":Str)&&zaN g x&&zck r g args cs
 | .ofi .list (.rng cs)=>x==("list":Str)&&zaN g x&&jbs r g args cs
 | _=>false
noncomputable def yef (r:Expr->Code->Bool) (g:Gam) (e:Expr) (c:Code):Bool:=match qaN e with
 | some (x,args)=>yeo r g x args c
 | none=>(match e with
  | .List es _=>(match c with | .lst cs=>es.all (λe=>!zt e)&&okA r es cs | _=>false)
  | .BinOp l o rr _=>(match c with | .bin op a b=>decide (o=op)&&r l a&&r rr b | _=>false)
  | _=>false)
noncomputable def qbU (r t:RE) (g:Gam) (tg e:Expr) (m:Mode) (tt:Tgt) (c:Code):Bool:=tgB g tg tt&&match e with
 | .ListComp elt [⟨tg',it,ifs,asy⟩] scope _=>(match tg with | .Name ..=>okC r t g elt tg' it ifs asy scope c | _=>false)
 | e=>!zaM e&&(match m with
  | .ow=>(match tg with | .Name ..=>yef (r g) g e c | _=>false)
  | _=>(match tg with | .Name ..=>r g e c | _=>!ydl e&&r g e c))
noncomputable def jeo (r:Expr->Code->Bool) (v:Option Expr) (c:Code):Bool:=match v with
 | some e=>r e c
 | none=>(match c with | .cst .non=>true | _=>false)
noncomputable def jef (r t:RE) (g:Gam) (tg e:Expr) (s:Stm):Bool:=match s with
 | .set m tt c=>qbU r t g tg e m tt c
 | .newd i=>(match e with | .Dict ks vs _=>(ks.isEmpty&&vs.isEmpty)&&(match tg with | .Name x _=>yT g i x&&yc3 g x | _=>false) | _=>false)
 | .newm i _ _=>(match e with | .Dict ks vs _=>(ks.isEmpty&&vs.isEmpty)&&(match tg with | .Name x _=>yT g i x&&yc3 g x | _=>false) | _=>false)
 | .put i ck ce=>(match tg with | .Subscript o ix _=>(match za0 o with | some x=>yT g i x&&zcC g x&&yP x&&!ybP ix&&r g ix ck&&r g e ce | none=>false) | _=>false)
 | _=>false
noncomputable def zep (r:Expr->Code->Bool) (g:Gam) (x nm:Str) (l l':Nat) (e:Expr) (s:Stm):Bool:=match s with
 | .app i m c=>nm==("append":Str)&&yT g i x&&zcC g x&&yP x&&!zt e&&l==l'&&r e c
 | .ext i m c=>nm==("extend":Str)&&yT g i x&&zcC g x&&yP x&&!zt e&&l==l'&&r e c
 | _=>false
noncomputable def qep (r:Expr->Code->Bool) (g:Gam) (f:Expr) (args:List Expr) (kws:List Keyword) (l1:Nat) (n2:Str) (l2 l2':Nat) (e:Expr) (s:Stm):Bool:=match f with
 | .Attribute o n1 ap1=>(match o with
  | .Name x _=>(match args with
   | [ek,ev]=>(match ev with
    | .List es _=>(es.isEmpty&&kws.isEmpty)&&(match s with
     | .grp i ck cv=>n1==("setdefault":Str)&&n2==("append":Str)&&yT g i x&&zcC g x&&yP x&&!zt ek&&!zt e&&ap1.endLine==l1&&l2==l2'&&r ek ck&&r e cv
     | _=>false)
    | _=>false)
   | _=>false)
  | _=>false)
 | _=>false
noncomputable def zeg (r:Expr->Code->Bool) (g:Gam) (e:Expr) (s:Stm):Bool:=match e with
 | .Call f args kws cpos=>kws.isEmpty&&(match f with
  | .Attribute o nm apos=>(match args with
   | [e]=>(match o with
    | .Name x _=>zep r g x nm apos.endLine cpos.line e s
    | .Call f' args' kws' cp1=>qep r g f' args' kws' cp1.line nm apos.endLine cpos.line e s
    | _=>false)
   | _=>false)
  | _=>false)
 | _=>false
noncomputable def jc8 (r t:RE) (b:List Stmt->Stms->Bool) (g:Gam) (st:Stmt) (s:Stm):Bool:=match st with
 | .Return v _=>(match s with | .ret c=>jeo (r g) v c | _=>false)
 | .Pass _=>(match s with | .pas=>true | _=>false)
 | .Break _=>(match s with | .brk=>true | _=>false)
 | .Continue _=>(match s with | .cnt=>true | _=>false)
 | .If e x y _=>(match s with | .ite c sx sy=>t g e c&&b x sx&&b y sy | _=>false)
 | .For tg it body els _=>els.isEmpty&&(match s with | .for tt i bb=>tgB g tg tt&&okI (r g) g tg it i&&b body bb | _=>false)
 | .Assign tgs e _=>(match tgs with | [tg]=>jef r t g tg e s | _=>false)
 | .Expr e _=>zeg (r g) g e s
 | _=>false
noncomputable def qeg (e:Expr):Option (Expr×Expr):=match e with
 | .Tuple es _ _=>yd0 es
 | _=>none
theorem ybU {e a b:Expr} (h:qeg e=some (a,b)):∃ k p,e=.Tuple [a,b] k p:=by
 unfold qeg at h;split at h
 ·cases ycC h;exact ⟨_,_,rfl⟩
 ·cases h
noncomputable def yeg (e:Expr):Option (Expr×CmpOp×Expr):=match e with
 | .Compare l os es _=>(one? os).bind λo=>(one? es).map λr=>(l,o,r)
 | _=>none
theorem zc9 {e l r:Expr} {o:CmpOp} (h:yeg e=some (l,o,r)):∃ p,e=.Compare l [o] [r] p:=by
 unfold yeg at h;split at h
 ·rename_i os es p;cases h1:one? os with
  | none=>rw [h1] at h;cases h
  | some o' =>
   rw [h1,wd] at h;cases h2:one? es with
   | none=>rw [h2] at h;cases h
   | some r' =>
    rw [h2] at h;cases h
    cases qE h1;cases qE h2
    exact ⟨_,rfl⟩
 ·cases h
noncomputable def jeg (st:Stmt):Option Expr:=match st with
 | .Return v _=>v
 | _=>none
theorem qc9 {st:Stmt} {e:Expr} (h:jeg st=some e):∃ p,st=.Return (some e) p:=by
 unfold jeg at h;split at h
 ·cases h;exact ⟨_,rfl⟩
 ·cases h
noncomputable def zeh (e:Expr):Option (Expr×Expr):=match e with
 | .Subscript o i _=>some (o,i)
 | _=>none
theorem yc9 {e o i:Expr} (h:zeh e=some (o,i)):∃ p,e=.Subscript o i p:=by
 unfold zeh at h;split at h
 ·cases h;exact ⟨_,rfl⟩
 ·cases h
noncomputable def blB (b:Bool) (e:Expr):Bool:=match yed e with
 | some (.bool k)=>k==b
 | _=>false
theorem ycE {b:Bool} {e:Expr} (h:blB b e=true):∃ j p,e=.Constant (.bool b) j p:=by
 unfold blB at h;split at h
 ·rename_i w;rw [vm] at h;subst h;exact qc4 w
 ·cases h
noncomputable def yd1 (r:Expr->Code->Bool) (g:Gam) (i:Nat) (d k:Expr) (a b:Code):Bool:=match za0 d,qeg k with
 | some x,some (ea,eb)=>yT g i x&&zcC g x&&yP x&&!zt ea&&!zt eb&&r ea a&&r eb b
 | _,_=>false
noncomputable def ydP (r:Expr->Code->Bool) (g:Gam) (st:Stmt) (i:Nat) (a b:Code):Bool:=match st with
 | .If e x y _=>y.isEmpty&&(match yeg e,(one? x).bind jeg with
  | some (l,o,d),some z=>decide (o=.In)&&blB false z&&yd1 r g i d l a b
  | _,_=>false)
 | _=>false
noncomputable def jdP (r:Expr->Code->Bool) (g:Gam) (st:Stmt) (i:Nat) (a b:Code):Bool:=match st with
 | .Assign tgs e _=>(match (one? tgs).bind zeh with
  | some (d,k)=>blB true e&&yd1 r g i d k a b
  | none=>false)
 | _=>false
noncomputable def jc9 (e:Expr):Option (Str×List Expr×List Keyword):=match e with
 | .Call f as kws _=>(za0 f).map λx=>(x,as,kws)
 | _=>none
theorem jcn {e:Expr} {x:Str} {as:List Expr} {kws:List Keyword} (h:jc9 e=some (x,as,kws)):∃ p q,e=.Call (.Name x p) as kws q:=by
 unfold jc9 at h;split at h
 ·rename_i f as' kws' q;obtain ⟨y,h1,h2⟩:=wb h;obtain ⟨p,rfl⟩:=qJ h1;cases h2;exact ⟨p,q,rfl⟩
 ·cases h
noncomputable def qeh (st:Stmt):Option (Expr×Expr):=match st with
 | .Assign tgs e _=>(one? tgs).map λt=>(t,e)
 | _=>none
theorem zda {st:Stmt} {t e:Expr} (h:qeh st=some (t,e)):∃ p,st=.Assign [t] e p:=by
 unfold qeh at h;split at h
 ·obtain ⟨t',h1,h2⟩:=wb h;cases h2;cases qE h1;exact ⟨_,rfl⟩
 ·cases h
noncomputable def zdQ (r:RE) (g:Gam) (st:Stmt) (i:Nat) (ce:Code) (keep:List Nat) (cs:Codes):Bool:=match qeh st with
 | some (tg,e)=>(match za0 tg,qaN e with
  | some x,some (f,as)=>(match (one? as).bind jc9 with
   | some (f2,as2,kws)=>(match one? kws with
    | some k=>(yT g i x&&yc3 g x)&&(f==("tuple":Str)&&zaN g f&&f2==("sorted":Str)&&zaN g f2&&k.arg==some ("key":Str))&&jbs (r g) g as2 cs&&(match jd0 k.value with | some (ps,body,scope,pos)=>jck r g ps body scope pos ce keep | none=>false)
    | none=>false)
   | none=>false)
  | _,_=>false)
 | none=>false
noncomputable def oks (r t:RE) (g:Gam):Nat->List Stmt->Stms->Bool
 | 0,_,_=>false
 | n+1,sts,s=>match s with
  | .nil=>sts.isEmpty
  | .frz _ q=>oks r t g n sts q
  | .mgd i a b q=>(match sts with | st::rest=>ydP (r g) g st i a b&&oks r t g n rest q | []=>false)
  | .srt i ce keep cs q=>(match sts with | st::rest=>zdQ r g st i ce keep cs&&oks r t g n rest q | []=>false)
  | .mput i a b q=>(match sts with | st::rest=>jdP (r g) g st i a b&&oks r t g n rest q | []=>false)
  | .cons a q=>(match sts with | st::rest=>jc8 r t (oks r t g n) g st a&&oks r t g n rest q | []=>false)
section
variable {g:Gam} {X:Cx} {C:Tab} {G:GTab}
theorem yeh (F:Fit g X) (W:Glob G g X C) {r:Expr->Code->Bool} (hr:∀ e c,r e c=true->SE X C e c) {e:Expr} {c:Code} (h:yef r g e c=true):SF X C e c:=by
 unfold yef at h;split at h
 ·rename_i x args hc;obtain ⟨p,q,rfl⟩:=zJ hc;unfold yeo at h;split at h
  ·simp only [wg,vm] at h;obtain ⟨⟨⟨rfl,hg⟩,ha⟩,hA⟩:=h;obtain ⟨a,as,rfl,hst⟩:=zaf ha;exact (qcE F W (b:=.list) rfl hg hst (yaO hr hst hA)).2 rfl
  ·simp only [wg,vm] at h;obtain ⟨⟨rfl,hg⟩,hA⟩:=h;obtain ⟨a,c,p',pos',rfl,rfl,h1,h2,h3⟩:=zcE F hr hA;exact qX W.calm h1 (W.blts _ (by decide)) (F.glob hg) (W.blts _ (by decide)) h3 h2
  ·simp only [wg,vm] at h;obtain ⟨⟨rfl,hg⟩,hA⟩:=h;obtain ⟨e,es,p',pos',rfl,h1,h2,h3⟩:=qbf F hr hA;exact qap W.calm h1 (W.blts _ (by decide)) (F.glob hg) (W.blts _ (by decide)) h3 (yn (h2 e (by simp))) (jae λa h=>h2 a (by simp [h]))
  ·cases h
 ·split at h
  ·split at h
   ·simp only [wg,List.all_eq_true,w4] at h;exact ybH (yaO hr h.1 h.2)
   ·cases h
  ·split at h
   ·simp only [wg,wF] at h;obtain ⟨⟨rfl,h1⟩,h2⟩:=h;exact jdB (ybI _) (hr _ _ h1) (hr _ _ h2)
   ·cases h
  ·cases h
theorem qda {tg e:Expr} (h:zaM e=false) (n:Nat) (env:Env):swapsWithSole [tg] e n env=pure false:=qao h _ _ _
theorem yda {e:Expr} (h:ydl e=false) (env:Env):∀ es k p,swappedStores [.Tuple es k p] e env=pure none:=by
 intro es k p;cases e<;>first | rfl | cases h
theorem jda (F:Fit g X) (W:Glob G g X C) {r t:RE} (hr:∀ g X,Fit g X->Glob G g X C->(∀ e c,r g e c=true->SE X C e c)/\∀ e c,t g e c=true->SB X C e c) {tg e:Expr} {m:Mode} {tt:Tgt} {c:Code} {pos:Pos}
  (h:qbU r t g tg e m tt c=true):SS X C (.Assign [tg] e pos) (.set m tt c):=by
 have hE:=(hr g X F W).1;unfold qbU at h;rw [wg] at h;obtain ⟨htg,h⟩:=h;obtain ⟨hpg,hix⟩:=yc8 F W.calm htg;split at h
 ·split at h
  ·rename_i x p;obtain ⟨rfl,ce,tt',m',keep,i,cc,N',rfl,S,hi⟩:=jbS F W hr h;cases tt with
   | many is=>cases htg
   | one j =>
    simp only [tgB,wg] at htg;have hsl:=F.slot htg.1;obtain ⟨hl,hf⟩:=F.locd htg.2;cases m with
    | pu=>exact jdJ (qbb S hi F.nd hsl hl hf) hix
    | cl=>exact zdK (qbb S hi F.nd hsl hl hf) hix
    | ow=>exact qdK (yci S hi F.nd hsl hl hf) (hix j (by simp [Tgt.ixs]))
  ·cases h
 ·rw [wg,w4] at h;obtain ⟨hnc,h⟩:=h
  have plain:r g e c=true->(ydl tg=true->ydl e=false)->SAs X C tg e pos tt c:=λhrc hte=>by
   cases tg with
   | Name x p =>
    cases tt with
    | many is=>cases htg
    | one j =>
     simp only [tgB,wg] at htg;obtain ⟨hl,hf⟩:=F.locd htg.2;exact zci (hE _ _ hrc) hnc F.nd (F.slot htg.1) hl hf
   | Tuple es k p=>exact λB ρ d ed=>qbx (hE _ _ hrc B ρ d ed) hpg (qda hnc _ _) (yda (hte rfl) _ _ _ _) rfl
   | _=>cases tt<;>cases htg
  split at h
  ·split at h
   ·cases tt with
    | many is=>cases htg
    | one j =>
     simp only [tgB,wg] at htg;obtain ⟨hl,hf⟩:=F.locd htg.2;exact qdK (qci (yeh F W hE h) hnc F.nd (F.slot htg.1) hl hf) (hix j (by simp [Tgt.ixs]))
   ·cases h
  ·rename_i hm
   have sas:SAs X C tg e pos tt c:=by
    split at h
    ·exact plain h λz=>by cases z
    ·rw [wg,w4] at h;exact plain h.2 λ_=>h.1
   cases m with
   | pu=>exact jdJ sas hix
   | cl=>exact zdK sas hix
   | ow=>exact absurd rfl hm
theorem zdb {i:Nat} {x:Str} {px apos cpos spos:Pos} {e:Expr} {c:Code} {m:Mode} (hN:X.N[i]?=some x) (hv:Vis X.env.scope x) (hd:(x==("__debug__":Str))=false) (hcd:(x==("__classdict__":Str))=false)
  (he:SE X C e c) (hs:starEach [e] X.env=[(false,eval e X.env)]) (hline:(apos.endLine==cpos.line)=true):SS X C (.Expr (.Call (.Attribute (.Name x px) "extend" apos) [e] [] cpos) spos) (.ext i m c):=by
 cases m with
 | pu=>exact zdM hN hv hd hcd he hs hline
 | cl=>exact ybN (λz=>by cases z) hN hv hd hcd he hs hline
 | ow=>exact ybN (λz=>by cases z) hN hv hd hcd he hs hline
theorem jeh (F:Fit g X) (W:Glob G g X C) {r:Expr->Code->Bool} (hE:∀ e c,r e c=true->SE X C e c) {e:Expr} {p:Pos} {s:Stm} (h:zeg r g e s=true):SS X C (.Expr e p) s:=by
 unfold zeg at h;split at h
 ·rw [wg,List.isEmpty_iff] at h;obtain ⟨rfl,h⟩:=h;split at h
  ·split at h
   ·split at h
    ·unfold zep at h;split at h
     ·simp only [wg,vm,w4] at h;obtain ⟨⟨⟨⟨⟨⟨rfl,h1⟩,h2⟩,h3⟩,h4⟩,h5⟩,h6⟩:=h;exact ydK (F.slot h1) (F.vis h2) (yh h3).1 (yh h3).2 (hE _ _ h6) (yn h4) (by simpa using h5)
     ·simp only [wg,vm,w4] at h;obtain ⟨⟨⟨⟨⟨⟨rfl,h1⟩,h2⟩,h3⟩,h4⟩,h5⟩,h6⟩:=h;exact zdb (F.slot h1) (F.vis h2) (yh h3).1 (yh h3).2 (hE _ _ h6) (yn h4) (by simpa using h5)
     ·cases h
    ·unfold qep at h;split at h
     ·split at h
      ·split at h
       ·split at h
        ·rw [wg,wg,List.isEmpty_iff,List.isEmpty_iff] at h;obtain ⟨⟨rfl,rfl⟩,h⟩:=h;split at h
         ·simp only [wg,vm,w4] at h;obtain ⟨⟨⟨⟨⟨⟨⟨⟨⟨⟨rfl,rfl⟩,h1⟩,h2⟩,h3⟩,h4⟩,h5⟩,h6⟩,h7⟩,h8⟩,h9⟩:=h;exact jdL W.hu (F.slot h1) (F.vis h2) (yh h3).1 (yh h3).2 (hE _ _ h8) (hE _ _ h9) (yn h4) (yn h5) (by simpa using h6) (by simpa using h7)
         ·cases h
        ·cases h
       ·cases h
      ·cases h
     ·cases h
    ·cases h
   ·cases h
  ·cases h
 ·cases h
theorem zei (F:Fit g X) (W:Glob G g X C) {r t:RE} (hr:∀ g X,Fit g X->Glob G g X C->(∀ e c,r g e c=true->SE X C e c)/\∀ e c,t g e c=true->SB X C e c) {tg e:Expr} {p:Pos} {s:Stm} (h:jef r t g tg e s=true):SS X C (.Assign [tg] e p) s:=by
 unfold jef at h;split at h
 ·exact jda F W hr h
 ·split at h
  ·rw [wg,wg,List.isEmpty_iff,List.isEmpty_iff] at h;obtain ⟨⟨rfl,rfl⟩,h⟩:=h;split at h
   ·rw [wg] at h;have hsl:=F.slot h.1;obtain ⟨hl,hf⟩:=F.locd h.2;exact qc0 F.nd hsl hl hf (wq.mp hsl).1
   ·cases h
  ·cases h
 ·split at h
  ·rw [wg,wg,List.isEmpty_iff,List.isEmpty_iff] at h;obtain ⟨⟨rfl,rfl⟩,h⟩:=h;split at h
   ·rw [wg] at h;have hsl:=F.slot h.1;obtain ⟨hl,hf⟩:=F.locd h.2;exact jc2 F.nd hsl hl hf (wq.mp hsl).1
   ·cases h
  ·cases h
 ·split at h
  ·split at h
   ·rename_i x hn;obtain ⟨px,rfl⟩:=qJ hn;simp only [wg,w4] at h;obtain ⟨⟨⟨⟨⟨h1,h2⟩,h3⟩,h4⟩,h5⟩,h6⟩:=h;refine qdN (F.slot h1) (F.vis h2) (yh h3).1 (yh h3).2 ((hr g X F W).1 _ _ h5) ((hr g X F W).1 _ _ h6) λv=>?_
    rename_i ix _ _;cases ix<;>first | rfl | cases h4
   ·cases h
  ·cases h
 ·cases h
theorem zco (F:Fit g X) (W:Glob G g X C) {r t:RE} (hr:∀ g X,Fit g X->Glob G g X C->(∀ e c,r g e c=true->SE X C e c)/\∀ e c,t g e c=true->SB X C e c) {b:List Stmt->Stms->Bool} (hb:∀ sts s,b sts s=true->SSs X C sts s)
  {st:Stmt} {s:Stm} (h:jc8 r t b g st s=true):SS X C st s:=by
 have hE:=(hr g X F W).1;have hT:=(hr g X F W).2;unfold jc8 at h;split at h
 ·split at h
  ·unfold jeo at h;split at h
   ·exact qdJ (hE _ _ h)
   ·split at h
    ·exact zcZ
    ·cases h
  ·cases h
 ·split at h
  ·exact ydI
  ·cases h
 ·split at h
  ·exact jdI
  ·cases h
 ·split at h
  ·exact zdJ
  ·cases h
 ·split at h
  ·simp only [wg] at h;exact ydJ (hT _ _ h.1.1) (hb _ _ h.1.2) (hb _ _ h.2)
  ·cases h
 ·rw [wg,List.isEmpty_iff] at h;obtain ⟨rfl,h⟩:=h;split at h
  ·simp only [wg] at h;obtain ⟨hpg,hix⟩:=yc8 F W.calm h.1.1;obtain ⟨hi,hs⟩:=zdP F W hE h.1.2;exact jdK W.hx W.calm hi hpg (hb _ _ h.2) hix hs
  ·cases h
 ·split at h
  ·exact zei F W hr h
  ·cases h
 ·exact jeh F W hE h
 ·cases h
theorem zu (F:Fit g X) (W:Glob G g X C) {r t:RE} (hr:∀ g X,Fit g X->Glob G g X C->(∀ e c,r g e c=true->SE X C e c)/\∀ e c,t g e c=true->SB X C e c):∀ (n:Nat) (sts:List Stmt) (s:Stms),oks r t g n sts s=true->SSs X C sts s
 | 0,_,_,h=>by cases h
 | n+1,sts,.nil,h=>by
  have:sts=[]:=by simpa [oks] using h
  subst this;exact ycY
 | n+1,sts,.frz i q,h=>jcY (zu F W hr n sts q h)
 | n+1,[],.mgd i a b q,h=>by cases h
 | n+1,[],.srt i ce keep cs q,h=>by cases h
 | n+1,st::rest,.srt i ce keep cs q,h=>by
  simp only [oks,wg] at h;obtain ⟨h0,h⟩:=h;have hE:=(hr g X F W).1;unfold zdQ at h0;split at h0
  ·rename_i tg e ha;obtain ⟨p1,rfl⟩:=zda ha;split at h0
   ·rename_i x f as hn hc;obtain ⟨px,rfl⟩:=qJ hn;obtain ⟨pd,pc,rfl⟩:=zJ hc;split at h0
    ·rename_i f2 as2 kws hk;obtain ⟨e2,ho,hk⟩:=wa hk;cases qE ho;obtain ⟨pf,pq,rfl⟩:=jcn hk;split at h0
     ·rename_i k hkw;cases qE hkw;obtain ⟨karg,kval,kpos⟩:=k;simp only [wg,vm] at h0;obtain ⟨⟨⟨⟨k1,k2⟩,⟨⟨⟨⟨rfl,hg⟩,rfl⟩,hg2⟩,rfl⟩⟩,hR⟩,h0⟩:=h0;split at h0
      ·rename_i ps body scope pos hlm;cases qbQ hlm;obtain ⟨y,an,pp,rfl,Sl,hl,hd⟩:=zbU F W hr (n:=2) (by decide) h0;obtain ⟨a,as,p',pos',rfl,h1,h2,h3⟩:=qbf F hE hR;obtain ⟨hlc,hf⟩:=F.locd k2;exact yc7 Sl W.calm hl hd F.nd (F.slot k1) hlc hf (F.glob hg) (W.blts _ (by decide)) qL (F.glob hg2) (W.blts _ (by decide)) h1 (W.blts _ (by decide)) h3 (yn (h2 a (by simp))) (jae λz hz=>h2 z (by simp [hz])) (zu F W hr n rest q h)
      ·cases h0
     ·cases h0
    ·cases h0
   ·cases h0
  ·cases h0
 | n+1,[],.mput i a b q,h=>by cases h
 | n+1,st::rest,.mgd i a b q,h=>by
  simp only [oks,wg] at h;obtain ⟨h0,h⟩:=h;have hE:=(hr g X F W).1;unfold ydP at h0;split at h0
  ·rw [wg,List.isEmpty_iff] at h0;obtain ⟨rfl,h0⟩:=h0;split at h0
   ·rename_i l o d z hc hz;obtain ⟨p,rfl⟩:=zc9 hc;obtain ⟨st',h1,hz⟩:=wa hz;cases qE h1;obtain ⟨p',rfl⟩:=qc9 hz;rw [wg,wg,wF] at h0;obtain ⟨⟨rfl,hb⟩,hk⟩:=h0;obtain ⟨j,pj,rfl⟩:=ycE hb;unfold yd1 at hk;split at hk
    ·rename_i x ea eb hn hkn;obtain ⟨px,rfl⟩:=qJ hn;obtain ⟨kk,pk,rfl⟩:=ybU hkn;simp only [wg,w4] at hk;obtain ⟨⟨⟨⟨⟨⟨k1,k2⟩,k3⟩,k4⟩,k5⟩,k6⟩,k7⟩:=hk;exact yc2 W.hu (F.slot k1) (F.vis k2) (yh k3).1 (yh k3).2 (hE _ _ k6) (hE _ _ k7) (yn k4) (yn k5) (zu F W hr n rest q h)
    ·cases hk
   ·cases h0
  ·cases h0
 | n+1,st::rest,.mput i a b q,h=>by
  simp only [oks,wg] at h;obtain ⟨h0,h⟩:=h;have hE:=(hr g X F W).1;unfold jdP at h0;split at h0
  ·split at h0
   ·rename_i d k hs;obtain ⟨tg,h1,hs⟩:=wa hs;cases qE h1;obtain ⟨p,rfl⟩:=yc9 hs;rw [wg] at h0;obtain ⟨hb,hk⟩:=h0;obtain ⟨j,pj,rfl⟩:=ycE hb;unfold yd1 at hk;split at hk
    ·rename_i x ea eb hn hkn;obtain ⟨px,rfl⟩:=qJ hn;obtain ⟨kk,pk,rfl⟩:=ybU hkn;simp only [wg,w4] at hk;obtain ⟨⟨⟨⟨⟨⟨k1,k2⟩,k3⟩,k4⟩,k5⟩,k6⟩,k7⟩:=hk;exact qcj W.hu (F.slot k1) (F.vis k2) (yh k3).1 (yh k3).2 (hE _ _ k6) (hE _ _ k7) (yn k4) (yn k5) (zu F W hr n rest q h)
    ·cases hk
   ·cases h0
  ·cases h0
 | n+1,[],.cons a q,h=>by cases h
 | n+1,st::rest,.cons a q,h=>by
  simp only [oks,wg] at h;exact jch (zco F W hr (zu F W hr n) h.1) (zu F W hr n rest q h.2)
end
noncomputable def jw (st:Stmt):List Str:=(zx st).args.map (·.arg)
noncomputable def qdb:Nat:=60
noncomputable def qdQ:Nat:=80
noncomputable def ydb (G:GTab) (nm:Str) (N:List Str) (st:Stmt) (f:Def):Bool :=
 decide (f.n=N.length)&&decide (f.p=(jw st).length)&&decide N.Nodup&&decide (N.take (jw st).length=jw st)&&decide ((yd st).kind=.function)&&!(yd st).isCoroutine&&!(yd st).isGenerator
 && (jw st).all (λx=>(yd st).names.lookup x==some .local||(yd st).names.lookup x==some .cell)&&(yd st).names.all (λy=>decide (y.2≠.free))
 && oks (ok G qdb).1 (ok G qdb).2 ⟨N,(yd st).names,G.lams.lookup nm⟩ qdQ (qB st) f.b
noncomputable def yaf (G:GTab):List Str->List (List Str)->List Stmt->List Def->Bool
 | [],[],[],[]=>true
 | x::xs,N::Ns,st::sts,f::fs=>ydb G x N st f&&yaf G xs Ns sts fs
 | _,_,_,_=>false
noncomputable def jbU (G:GTab) (Ns:List (List Str)) (sts:List Stmt) (P:List Def):Bool:=yaf G G.fns Ns sts P
theorem qaq {G:GTab}:∀ {xs:List Str} {Ns:List (List Str)} {sts:List Stmt} {P:List Def},yaf G xs Ns sts P=true->∀ {i:Nat} {f:Def},P[i]?=some f->∃ x N st,xs[i]?=some x/\sts[i]?=some st/\ydb G x N st f=true
 | [],[],[],[],_,i,f,e=>by simp at e
 | x::xs,N::Ns,st::sts,g::fs,h,0,f,e=>by
  rw [yaf,wg] at h;have e:g=f:=by simpa using e
  subst e;exact ⟨x,N,st,rfl,rfl,h.1⟩
 | x::xs,N::Ns,st::sts,g::fs,h,i+1,f,e=>by
  rw [yaf,wg] at h;obtain ⟨x',N',st',h0,h1,h2⟩:=qaq h.2 (i:=i) (f:=f) (by simpa using e);exact ⟨x',N',st',by simpa using h0,by simpa using h1,h2⟩
 | [],[],[],_::_,h,_,_,_=>by cases h
 | [],[],_::_,_,h,_,_,_=>by cases h
 | [],_::_,_,_,h,_,_,_=>by cases h
 | _::_,[],_,_,h,_,_,_=>by cases h
 | _::_,_::_,[],_,h,_,_,_=>by cases h
 | _::_,_::_,_::_,[],h,_,_,_=>by cases h
theorem qco {K:Frag} {B:Addr->Prop} {H:Hp} {N:List Str} {vs:List V} {ds:List D} {m:Nat} (hb:HB B H) (r:Reps K B H vs ds):FR K B H (λ_=>False) (L2.start N vs) H (ds.map Sl.pu++List.replicate m .un):=by
 have less:∀ b,BO B (λ_=>False) b->B b:=λb z=>z.elim id False.elim
 have at':∀ (i:Nat) (sl:Sl),(ds.map Sl.pu++List.replicate m .un)[i]?=some sl->sl=.un\/∃ d,ds[i]?=some d/\sl=.pu d:=λi sl e=>by
  by_cases hi:i<ds.length
  ·rw [vg (by simpa using hi),wx] at e;have hd:ds[i]?=some ds[i]:=by simp [hi]
   rw [hd] at e;exact .inr ⟨ds[i],hd,(wA e).symm⟩
  ·rw [List.getElem?_append_right (by simpa using hi),List.getElem?_replicate] at e;split at e
   ·exact .inl (wA e).symm
   ·cases e
 refine ⟨λ_ z=>z.elim,Same.refl H,⟨λb z=>hb.h b (less b z),hb.t⟩,hb,λi d e=>?_,λi es e=>?_,λi j es es' a e=>?_,λi j es es' e=>?_,λ_=>False,λi es a e q=>id,λi es e=>?_⟩
 ·rcases at' i _ e with z | ⟨d',h1,h2⟩
  ·cases z
  ·cases h2;obtain ⟨v,hv,rv⟩:=r.get h1;refine ⟨v,?_,rv.less less⟩;have hlt:=(wq.mp hv).1;unfold L2.start;rw [vg (by simpa using hlt),wx,hv];rfl
 ·rcases at' i _ e with z | ⟨d',h1,h2⟩
  ·cases z
  ·cases h2
 ·rcases at' i _ e with z | ⟨d',h1,h2⟩
  ·cases z
  ·cases h2
 ·rcases at' i _ e with z | ⟨d',h1,h2⟩
  ·cases z
  ·cases h2
 ·rcases at' i _ e with z | ⟨d',h1,h2⟩
  ·cases z
  ·cases h2
section
variable {Pg:Program} {w:World} {K:Frag} {mg:Str->Option Value} {base:Heap}
structure PF (K:Frag) (mg:Str->Option Value) (G:GTab) (sts:List Stmt):Prop where
 defs:∀ (i:Nat) (x:Str),G.fns[i]?=some x->∃ st f fd,sts[i]?=some st/\Fun K x x st f fd/\mg x=some (.ref f)/\Binds K fd (jw st) []
 blts:∀ x∈bltL,mg x=none
 cons:∀ (x:Str) (i:Int),G.cons.lookup x=some i->∃ t,mg x=some (.int i t)
 lams:∀ (x:Str) (pos:Pos),G.lams.lookup x=some pos->∃ f oc od fd osl c P,mg x=some (.ref f)/\K.lookup f=some ⟨oc,od,.func fd,osl⟩/\fd.code=.ref c/\PySem.W.codeHdIn K c P=true/\(P,pos,x++".<locals>."++"<lambda>")∈Tb.tabs
theorem yco {k n:Nat} {A:Around} (r:Room (k+1) A) (hn:n<=2) (env:Env):Room k ((up n A).deeper env) :=
 ⟨r.hd,by have:=r.dp;show A.depth+1+3*k+5<_;omega,by have:=r.un;show A.units+n+3+16*k+200<_;omega⟩
theorem ybf {P:List Def} {i:Nat} {vs:List V} {H:Hp} {Q:VK} {E:XK} (h:spD K (ji P 0) i vs H Q E):False:=by
 obtain ⟨B,ds,d,_,_,e,_⟩:=h;cases e
theorem jbf {G:GTab} {Ns:List (List Str)} {sts:List Stmt} {P:List Def} (T:PF K mg G sts) (hP:jbU G Ns sts P=true) (hl:G.fns.length=P.length):∀ (k i:Nat) (x:Str) (st:Stmt) (f:Addr) (fd:FuncData),G.fns[i]?=some x->sts[i]?=some st->Fun K x x st f fd->mg x=some (.ref f) ->
  FnOk Pg w K mg base CX0 (2*k+1) f fd (jw st) (spD K (ji P k) i)
 | 0,i,x,st,f,fd,hx,hst,F,hmg=>⟨λvs H Q E h=>(ybf h).elim,λA outer s H args us vs Q E _ _ _ _ h=>(ybf h).elim⟩
 | k+1,i,x,st,f,fd,hx,hst,F,hmg=>by
  have hi:i<P.length:=by rw [<-hl];exact (wq.mp hx).1
  obtain ⟨df,hdf⟩:∃ df,P[i]?=some df:=⟨P[i],by simp [hi]⟩;obtain ⟨x',N,st',hx',hst',hok⟩:=qaq hP hdf;rw [hst] at hst';cases hst'
  rw [hx] at hx';cases hx'
  simp only [ydb,wg,wF,w4,List.all_eq_true,Bool.or_eq_true,vm] at hok;obtain ⟨⟨⟨⟨⟨⟨⟨⟨⟨h1,h2⟩,h3⟩,h4⟩,h5⟩,h6⟩,h7⟩,h8⟩,h9⟩,h10⟩:=hok;have S:FnScope N (jw st) (yd st):=⟨h5,h6,h7,h3,h4,h8,h9⟩
  have run_of:∀ {ds:List D} {d:D},ji P (k+1) i ds=some d->ds.length=df.p/\∃ r,exs (ji P k) df.b (ds.map Sl.pu++List.replicate (df.n-df.p) .un)=some r/\(r=.rt d\/(∃ ρ,r=.nx ρ)/\d=.non):=λ{ds d} e=>by
   have e':(P[i]?).bind (λf=>zB (ji P k) f ds)=some d:=e;rw [hdf,wd,zB] at e';split at e'
   ·rename_i hlen;obtain ⟨r,er,e'⟩:=wa e';refine ⟨hlen,r,er,?_⟩;cases r with
    | rt d'=>cases e';exact .inl rfl
    | nx ρ=>cases e';exact .inr ⟨⟨ρ,rfl⟩,rfl⟩
    | bk ρ=>cases e'
    | ct ρ=>cases e'
   ·cases e'
  refine F.ok (k:=2*k+2) S (λvs H Q E h=>?_) (λcdv hcdv A outer s H vs Q E hr h=>?_)
  ·obtain ⟨B,ds,d,_,r,e,_⟩:=h;rw [r.length,(run_of e).1,h2]
  ·obtain ⟨B,ds,d,hb,r,e,q⟩:=h;obtain ⟨hlen,rr,er,hrr⟩:=run_of e;obtain ⟨X,hX⟩:∃ X,X=(zcQ CX0 Pg w K mg base N x (yd st) f cdv A outer s H E).nox:=⟨_,rfl⟩
   have FF:Fit ⟨N,(yd st).names,G.lams.lookup x⟩ X:=by
    rw [hX];refine ⟨rfl,h3,λx h=>h,λx h=>⟨h,rfl⟩,λx h=>.inr h,λx h=>h,λh=>?_⟩;obtain ⟨pos,h⟩:=w6.mp h;obtain ⟨f',oc,od,fd',osl,c,Pt,e1,e2,e3,e4,e5⟩:=T.lams x pos h;rw [hmg] at e1;cases e1
    obtain ⟨oc',od',kV,doc,pm,an,cdv',ct,osl',_,lk,_⟩:=F.ex;rw [e2] at lk;cases lk
    exact ⟨c,Pt,_,hcdv.symm.trans e3,e4,e5⟩
   have W:Glob G ⟨N,(yd st).names,G.lams.lookup x⟩ X (ji P k):=by
    rw [hX];refine ⟨rfl,rfl,hr.units,λj y hy=>?_,λ_=>⟨by have:=hr.un;show (A.deeper (envOfC x (yd st) s.heap.objs.size f cdv)).units+128<cLine;omega,hr.depth⟩,T.blts,T.cons⟩;obtain ⟨st',f',fd',a1,a2,a3,a4⟩:=T.defs j y hy;exact ⟨2*k+1,f',fd',jw st',jbf T hP hl k j y st' f' fd' hy a1 a2 a3,⟨hr.mono (by omega),λ_ n hn env=>yco (hr.mono (by omega)) hn env⟩,a3,a2.kp,a4⟩
   have body:=zu FF W (jaz G (ji P k) qdb) qdQ (qB st) df.b h10 B H (λ_=>False) _ rr er;refine ⟨_,hX▸body,?_⟩;show tFl K B H (λx=>False) _ rr _ (L2.start N vs) H;refine ⟨qco hb r,?_⟩;rcases hrr with rfl | ⟨⟨ρ,rfl⟩,rfl⟩
   ·exact λv H' s r=>q v H' s r
   ·exact λO' σ' H' _ F' _=>q .non H' F'.same .non
def ydQ (K:Frag):Sp:=λvs H Q _=>∃ (a:Addr) (ns:List Int),vs=[.ref a]/\SqS K H a ns/\(∀ x∈Tb.tabs,H x.1=some (.tbl x.2.1 x.2.2))/\∀ H',Q (.bl true) H'
theorem zbV {G:GTab} {Ns:List (List Str)} {sts:List Stmt} {P:List Def} (T:PF K mg G sts) (hP:jbU G Ns sts P=true) (hl:G.fns.length=P.length) {k i:Nat} {x:Str} {st:Stmt} {f:Addr} {fd:FuncData} (hx:G.fns[i]?=some x) (hst:sts[i]?=some st) (F:Fun K x x st f fd) (hmg:mg x=some (.ref f))
  (hrun:∀ ns:List Int,ji P k i [.scr ns]=some (.bl true)):FnOk Pg w K mg base CX0 (2*k+1) f fd (jw st) (ydQ K):=by
 refine (jbf T hP hl k i x st f fd hx hst F hmg).imp λvs H Q E h=>?_
 obtain ⟨a,ns,rfl,hS,ht,q⟩:=h;refine ⟨λ_=>False,[.scr ns],.bl true,⟨λb z=>z.elim,ht⟩,.cons (.scr hS) .nil,hrun ns,λv H' _ r=>?_⟩;cases r;exact q H'
end
def DF (K:Frag) (x:Str) (st:Stmt):Prop:=∃ f fd,nsIn K mainGlobals x=some (some (.ref f))/\Fun K x x st f fd
theorem qei {K:Frag} {x:Str} {st:Stmt} {f:Addr} {oc:Value} {od an:Option Addr} {osl:Array (Option Value)} {kV doc pm cdv ct:Value} (a:nsIn K mainGlobals x=some (some (.ref f)))
 (l:K.lookup f=some ⟨oc,od,.func (PySem.W.fnOf x x (zx st) (qB st) (yd st) .none kV doc pm an cdv ct),osl⟩) (c:PySem.W.codeIn K cdv x=true) (k:PySem.W.keepIn K (.ref f)=true):DF K x st:=⟨f,_,a,qdw l c k⟩
def LF (K:Frag) (x:Str) (P:Addr):Prop:=∃ f oc od fd osl c,nsIn K mainGlobals x=some (some (.ref f))/\K.lookup f=some ⟨oc,od,.func fd,osl⟩/\fd.code=.ref c/\PySem.W.codeHdIn K c P=true
theorem jdQ {K:Frag} {x:Str} {st:Stmt} {f c P:Addr} {oc:Value} {od an:Option Addr} {osl:Array (Option Value)} {kV doc pm ct:Value} (a:nsIn K mainGlobals x=some (some (.ref f)))
 (l:K.lookup f=some ⟨oc,od,.func (PySem.W.fnOf x x (zx st) (qB st) (yd st) .none kV doc pm an (.ref c) ct),osl⟩) (h:PySem.W.codeHdIn K c P=true):LF K x P:=⟨f,_,_,_,_,c,a,l,rfl,h⟩
theorem jeB {h:Heap} {ts:List Addr} {P P':Addr} {pos pos':Pos} {q q':Str} (Y:∀ P∈ts,h.get? P=some (PySem.W.tabObj #[])) (hm:P∈ts) (hm':P'∈ts):∀ x∈[(P,pos,q),(P',pos',q')],h.get? x.1=some (PySem.W.tabObj #[]):=λx hx=>by
 rcases wu.mp hx with rfl | hx
 ·exact Y P hm
 ·rw [w8.mp hx];exact Y P' hm'
theorem lk2 {P P':Addr} {pos pos':Pos} {q q':Str} (hn:P'≠P):∀ x∈[(P,pos,q),(P',pos',q')],List.lookup x.1 [(P,pos,q),(P',pos',q')]=some x.2:=λx hx=>by
 rcases wu.mp hx with rfl | hx
 ·exact List.lookup_cons_self
 ·rw [w8.mp hx,List.lookup_cons,wY.mpr hn];exact List.lookup_cons_self
theorem hd2 {K:Frag} {x x':Str} {P P':Addr} {pos pos':Pos} {q q':Str} (l:LF K x P) (l':LF K x' P'):∀ y∈[(P,pos,q),(P',pos',q')],∃ c,PySem.W.codeHdIn K c y.1=true:=λy hy=>by
 obtain ⟨_,_,_,_,_,c,_,_,_,h⟩:=l;obtain ⟨_,_,_,_,_,c',_,_,_,h'⟩:=l';rcases wu.mp hy with rfl | hy
 ·exact ⟨c,h⟩
 ·rw [w8.mp hy];exact ⟨c',h'⟩
def CF (K:Frag) (x:Str) (i:Int):Prop:=∃ t,nsIn K mainGlobals x=some (some (.int i t))
theorem yei {K:Frag} {x:Str} {i:Int} {t:Tok} (a:nsIn K mainGlobals x=some (some (.int i t))):CF K x i:=⟨t,a⟩
def Ds (K:Frag):List Str->List Stmt->Prop
 | x::xs,s::ss=>DF K x s/\Ds K xs ss
 | [],_=>True
 | _::_,[]=>False
def Zs (K:Frag):List Str->Prop
 | []=>True
 | x::l=>nsIn K mainGlobals x=some none/\Zs K l
def Cs (K:Frag):List (Str×Int)->Prop
 | []=>True
 | (x,i)::l=>CF K x i/\Cs K l
theorem zdR {K:Frag}:∀ {xs:List Str} {ss:List Stmt},Ds K xs ss->∀ (i:Nat) (x:Str),xs[i]?=some x->∃ st,ss[i]?=some st/\DF K x st
 | [],_,_,_,_,e=>by cases e
 | _::_,[],h,_,_,_=>h.elim
 | _::_,s::_,h,0,_,e=>by cases e;exact ⟨s,rfl,h.1⟩
 | _::_,_::_,h,i+1,y,e=>zdR h.2 i y e
theorem qdR {K:Frag}:∀ {l:List Str},Zs K l->∀ x∈l,nsIn K mainGlobals x=some none
 | _::_,h,x,hx=>by
  rcases wu.mp hx with rfl | hx
  ·exact h.1
  ·exact qdR h.2 x hx
theorem ydR {K:Frag} {x:Str} {i:Int}:∀ {l:List (Str×Int)},Cs K l->l.lookup x=some i->CF K x i
 | [],_,h=>by cases h
 | (y,j)::l,c,h=>by
  rw [List.lookup_cons] at h;split at h
  ·rename_i e;have:=eq_of_beq e;subst this;cases h;exact c.1
  ·exact ydR c.2 h
noncomputable def jei (ps:Arguments):Bool:=ps.posonlyargs.isEmpty&&ps.vararg.isNone&&ps.kwonlyargs.isEmpty&&ps.kw_defaults.isEmpty&&ps.kwarg.isNone&&ps.defaults.isEmpty
theorem jcE {α:Type}:∀ {N:List Str} {us:List α},N.Nodup->us.length=N.length->(∀ n∈N,((N.zip us).lookup n).isNone=false)/\(N.filterMap λn=>((N.zip us).lookup n).map λv=>(n,v))=N.zip us
 | [],_,_,_=>⟨(λn h=>by cases h),rfl⟩
 | _::_,[],_,h=>by cases h
 | n::N,u::us,hn,h=>by
  rw [List.nodup_cons] at hn;obtain ⟨h1,h2⟩:=jcE hn.2 (Nat.succ.inj h)
  have e:∀ m∈N,List.lookup m ((n,u)::N.zip us)=(N.zip us).lookup m:=λm hm=>by
   rw [List.lookup_cons,wY.mpr λ(z:m=n)=>hn.1 (by rw [<-z];exact hm)]
  have g:∀ M:List Str,(∀ m∈M,m∈N)->(M.filterMap λm=>(List.lookup m ((n,u)::N.zip us)).map λv=>(m,v))=M.filterMap λm=>((N.zip us).lookup m).map λv=>(m,v):=λM=>by
   induction M with
   | nil=>exact λ_=>rfl
   | cons m M ih=>intro hM;rw [List.filterMap_cons,List.filterMap_cons,e m (hM m (.head _)),ih λk hk=>hM k (.tail _ hk)]
  rw [List.zip_cons_cons];refine ⟨λm hm=>?_,?_⟩
  ·rcases wu.mp hm with rfl | hm
   ·simp
   ·rw [e m hm];exact h1 m hm
  ·rw [List.filterMap_cons,List.lookup_cons_self];exact congrArg ((n,u)::·) ((g N λ_ h=>h).trans h2)
theorem jco {K:Frag} {x q:Str} {st:Stmt} {f:Addr} {fd:FuncData} (F:Fun K x q st f fd) (hp:jei (zx st)=true) (hn:(jw st).Nodup):Binds K fd (jw st) []:=F.binds (ps:=jw st) λkV doc pm an cdv ct us hl=>by
 unfold jw at hn hl ⊢;generalize zx st=A at *;obtain ⟨p1,as,p2,p3,p4,p5,p6⟩:=A;simp only [jei,wg,List.isEmpty_iff,Option.isNone_iff_eq_none] at hp;obtain ⟨⟨⟨⟨⟨rfl,rfl⟩,rfl⟩,rfl⟩,rfl⟩,rfl⟩:=hp;dsimp only at hn hl ⊢;obtain ⟨h1,h2⟩:=jcE hn hl;unfold bindArgs;dsimp only;generalize as.map (·.arg)=N at *;simp only [List.forIn_nil,pure_bind,List.map_nil,List.nil_append,List.append_nil];show (seqItems? Value.none >>= λr=>_)=_;rw [show seqItems? Value.none=pure none from rfl,pure_bind]
 have hf:List.filter (λn=>(List.lookup n (N.zip us)).isNone) (N.take (N.length-0))=[]:=List.filter_eq_nil_iff.mpr λn hm=>by
  rw [h1 n (List.mem_of_mem_take hm)];exact wz
 have z (k:Nat):List.drop k ((none:Option (Array Value)).getD #[]).toList=[]:=List.drop_nil;rw [z];refine (if_neg (by simp;omega)).trans ?_;show (if (!(List.filter (λn=>(List.lookup n (N.zip us)).isNone) (N.take (N.length-0))).isEmpty)=true then _ else _)=_;rw [hf,if_neg (by decide)];show ((forIn ((N.drop (N.length-0)).zip ([]:List Value)) (N.zip us) _:Sem (List (Str×Value))) >>= λ__s=>_)=_;rw [List.zip_nil_right];show ((pure (N.zip us):Sem (List (Str×Value))) >>= λ__s=>_)=_;rw [pure_bind,if_neg (by decide)];exact congrArg pure h2
noncomputable def jdb (s:Stmt):Bool:=jei (zx s)&&decide (jw s).Nodup
theorem zej {K:Frag} {h:Heap} {mg:Str->Option Value} {G:GTab} {sts:List Stmt} (X:K.In h) (N:h.Ns mainGlobals mg) (D:Ds K G.fns sts) (hb:sts.all jdb=true) (z:Zs K bltL) (c:Cs K G.cons) {ln ln':Str} {P P':Addr} {pos pos':Pos} (l0:LF K ln P) (l1:LF K ln' P') (hL:G.lams=[(ln,pos),(ln',pos')]) (hm:(P,pos,ln++".<locals>."++"<lambda>")∈Tb.tabs) (hm':(P',pos',ln'++".<locals>."++"<lambda>")∈Tb.tabs):PF K mg G sts:=by
 refine ⟨λi x e=>?_,λx hx=>PySem.W.mg_none_of X N (qdR z x hx),λx i e=>?_,λx pos e=>?_⟩
 ·obtain ⟨st,hs,f,fd,a,F⟩:=zdR D i x e;have q:=List.all_eq_true.mp hb st (wR hs);rw [jdb,wg] at q;exact ⟨st,f,fd,hs,F,wI X N a,jco F q.1 (ve q.2)⟩
 ·obtain ⟨t,a⟩:=ydR c e;exact ⟨t,wI X N a⟩
 ·rw [hL] at e;have e:=wZ e;rcases wu.mp e with e | e
  ·cases e;obtain ⟨f,oc,od,fd,osl,c,a,l,h1,h2⟩:=l0;exact ⟨f,oc,od,fd,osl,c,P,wI X N a,l,h1,h2,hm⟩
  ·cases w8.mp e;obtain ⟨f,oc,od,fd,osl,c,a,l,h1,h2⟩:=l1;exact ⟨f,oc,od,fd,osl,c,P',wI X N a,l,h1,h2,hm'⟩
end Eng
end
section
namespace LG
open PySem Eng
noncomputable def jP:Def:=⟨2,2,(.cons (.ite (.cmp .Lt (.var 1) (.blt .len (.cons (.var 0) .nil))) (.cons (.ret (.idx (.var 0) (.var 1))) .nil) .nil) (.cons (.ret (.cst (.int 0))) .nil))⟩
noncomputable def yL:Def:=⟨3,2,(.cons (.set .pu (.one 2) (.bin .Mod (.bin .Mult (.bin .Add (.bin .Add (.call 0 (.cons (.var 0) (.cons (.var 1) .nil))) (.bin .Mult (.cst (.int 7919)) (.var 1))) (.cst (.int 1))) (.cst (.int 48271))) (.cst (.int 2147483647)))) (.cons (.ret (.bin .Mod (.bin .Add (.bin .Add (.bin .Mult (.var 2) (.var 2)) (.bin .Mult (.cst (.int 7)) (.var 2))) (.var 1)) (.cst (.int 2147483629)))) .nil))⟩
noncomputable def jL:Def:=⟨3,2,(.cons (.set .pu (.one 2) (.bin .Mod (.bin .Mult (.bin .Add (.bin .Add (.var 0) (.bin .Mult (.cst (.int 104729)) (.var 1))) (.cst (.int 17))) (.cst (.int 69621))) (.cst (.int 2147483647)))) (.cons (.ret (.bin .Mod (.bin .Add (.bin .Add (.bin .Mult (.var 2) (.var 2)) (.bin .Mult (.cst (.int 3)) (.var 2))) (.var 1)) (.cst (.int 2147483629)))) .nil))⟩
noncomputable def qu:Stms:=(.cons (.set .pu (.one 6) (.blt .sortedSet (.cons (.var 2) .nil))) (.cons (.ite (.cmp .Gt (.blt .len (.cons (.var 6) .nil)) (.cst (.int 2))) (.cons (.set .pu (.one 7) (.bin .FloorDiv (.call 2 (.cons (.var 0) (.cons (.bin .Add (.bin .Mult (.cst (.int 4)) (.var 4)) (.var 5)) .nil))) (.cst (.int 4)))) (.cons (.set .pu (.one 8) (.bin .Add (.cst (.int 1)) (.bin .Mod (.var 7) (.bin .Sub (.blt .len (.cons (.var 6) .nil)) (.cst (.int 1)))))) (.cons (.set .pu (.one 9) (.bin .Mod (.bin .FloorDiv (.var 7) (.cst (.int 8))) (.var 8))) (.cons (.set .pu (.one 2) (.comp (.idx (.lst (.cons (.var 0) (.cons (.idx (.var 1) (.var 2)) .nil))) (.blt .int (.cons (.cmp .Eq (.var 0) (.idx (.var 1) (.var 3))) .nil))) (.one 0) 1 [6,9,8] (.data (.var 2)) .none)) .nil)))) .nil) .nil))
noncomputable def zj:Stms:=(.cons (.for (.one 5) (.rng (.cons (.bin .Add (.cst (.int 1)) (.bin .Mod (.bin .FloorDiv (.var 0) (.cst (.int 24))) (.cst (.int 2)))) .nil)) qu) (.cons (.ite (.cmp .NotEq (.blt .tuple (.cons (.var 2) .nil)) (.idx (.var 3) (.neg (.cst (.int 1))))) (.cons (.app 3 .pu (.blt .tuple (.cons (.var 2) .nil))) .nil) .nil) .nil))
noncomputable def d_law_ladder:Def:=⟨10,1,(.cons (.set .pu (.one 1) (.idx (.tup (.cons (.cst (.int 1)) (.cons (.cst (.int 2)) (.cons (.cst (.int 3)) (.cons (.cst (.int 4)) (.cons (.cst (.int 5)) (.cons (.cst (.int 3)) (.cons (.cst (.int 4)) (.cons (.cst (.int 5)) .nil))))))))) (.bin .Mod (.var 0) (.cst (.int 8))))) (.cons (.set .pu (.one 2) (.ofi .list (.rng (.cons (.var 1) .nil)))) (.cons (.set .ow (.one 3) (.lst (.cons (.blt .tuple (.cons (.var 2) .nil)) .nil))) (.cons (.for (.one 4) (.rng (.cons (.bin .Mod (.bin .FloorDiv (.var 0) (.cst (.int 8))) (.cst (.int 3))) .nil)) zj) (.cons (.ite (.cmp .NotEq (.idx (.var 3) (.neg (.cst (.int 1)))) (.bin .Mult (.tup (.cons (.cst (.int 0)) .nil)) (.var 1))) (.cons (.app 3 .pu (.bin .Mult (.tup (.cons (.cst (.int 0)) .nil)) (.var 1))) .nil) .nil) (.cons (.ret (.blt .tuple (.cons (.var 3) .nil))) .nil))))))⟩
noncomputable def yp:Stms:=(.cons (.app 5 .pu (.bin .Mod (.bin .FloorDiv (.call 2 (.cons (.var 0) (.cons (.bin .Add (.bin .Add (.cst (.int 10)) (.bin .Mult (.cst (.int 4)) (.var 4))) (.var 6)) .nil))) (.cst (.int 4))) (.blt .len (.cons (.idx (.var 7) (.cst (.int 0))) .nil)))) .nil)
noncomputable def jk:Stms:=(.cons (.set .ow (.one 5) (.lst .nil)) (.cons (.for (.many [6,7]) (.enu (.var 1)) yp) (.cons (.ite (.and (.cmp .Gt (.var 4) (.cst (.int 0))) (.and (.cmp .Eq (.bin .Mod (.bin .FloorDiv (.var 0) (.cst (.int 24))) (.cst (.int 3))) (.cst (.int 1))) (.cmp .Eq (.bin .Mod (.bin .FloorDiv (.call 2 (.cons (.var 0) (.cons (.bin .Add (.cst (.int 50)) (.var 4)) .nil))) (.cst (.int 4))) (.cst (.int 2))) (.cst (.int 1))))) (.cons (.set .ow (.one 5) (.blt .list (.cons (.idx (.var 2) (.bin .Mod (.bin .FloorDiv (.call 2 (.cons (.var 0) (.cons (.bin .Add (.cst (.int 60)) (.var 4)) .nil))) (.cst (.int 4))) (.var 4))) .nil))) .nil) .nil) (.cons (.app 2 .cl (.blt .tuple (.cons (.var 5) .nil))) (.cons (.app 3 .pu (.bin .Mod (.bin .FloorDiv (.call 2 (.cons (.var 0) (.cons (.bin .Add (.cst (.int 70)) (.var 4)) .nil))) (.cst (.int 4))) (.idx (.tup (.cons (.cst (.int 2)) (.cons (.cst (.int 4)) (.cons (.cst (.int 3)) .nil)))) (.bin .Mod (.bin .FloorDiv (.var 0) (.cst (.int 72))) (.cst (.int 3)))))) .nil)))))
noncomputable def zM:Def:=⟨8,1,(.cons (.set .pu (.one 1) (.blt .tuple (.cons (.comp (.call 3 (.cons (.call 2 (.cons (.var 1) (.cons (.var 0) .nil))) .nil)) (.one 0) 1 [0] (.rng (.cons (.bin .Add (.cst (.int 1)) (.bin .Mod (.var 0) (.cst (.int 3)))) .nil)) .none) .nil))) (.cons (.set .ow (.one 2) (.lst .nil)) (.cons (.set .ow (.one 3) (.lst .nil)) (.cons (.for (.one 4) (.rng (.cons (.bin .Add (.cst (.int 1)) (.bin .Mod (.bin .FloorDiv (.var 0) (.cst (.int 3))) (.cst (.int 8)))) .nil)) jk) (.cons (.ret (.tup (.cons (.var 1) (.cons (.blt .tuple (.cons (.var 2) .nil)) (.cons (.blt .tuple (.cons (.var 3) .nil)) .nil))))) .nil)))))⟩
noncomputable def zaP:Def:=⟨2,2,(.cons (.ret (.blt .tuple (.cons (.comp (.bin .Mod (.bin .FloorDiv (.call 2 (.cons (.var 2) (.cons (.var 0) .nil))) (.cst (.int 4))) (.blt .len (.cons (.var 1) .nil))) (.many [0,1]) 2 [0] (.enu (.idx (.var 1) (.cst (.int 0)))) .none) .nil))) .nil)⟩
end LG
end
local macro_rules | `(tactic| simp! [$xs,*] $[$l]?) => `(tactic| simp only [Eng.EA,Eng.jaI,Eng.qbD,Eng.jaW,Eng.ya8,Eng.zd0,Eng.zcc,wd,Option.map_some,Option.bind_none,Option.map_none,if_true,if_false,↓reduceIte,and_self,Bool.not_true,Bool.not_false,wo,Int.reduceLT,Int.reduceLE,Int.reduceNeg,Nat.reduceMul,Nat.reduceAdd,Nat.reduceLeDiff,List.length_cons,List.length_nil,List.set,true_and,and_true,$xs,*] $[$l]?)
section
open PySem Eng LG
namespace M
noncomputable def eI (xs:List Int):List D:=xs.map D.int
noncomputable def tI (xs:List Int):D:=.tup (eI xs)
noncomputable def eL (L:List (List Int)):D:=.tup (L.map tI)
theorem jn (xs:List Int):intsOf (eI xs)=some xs:=by
 induction xs with
 | nil=>rfl
 | cons x r ih=>simp only [eI,List.map_cons,intsOf] at *;rw [ih];rfl
theorem jaf (xs:List Int):yai (eI xs)=true:=by
 induction xs with
 | nil=>rfl
 | cons x r ih=>simp only [eI,List.map_cons,yai,noL] at *;rw [ih];rfl
theorem qbV (xs:List Int):yE (eI xs)=true:=by
 induction xs with
 | nil=>rfl
 | cons x r ih=>simp only [eI,List.map_cons,yE,noS] at *;rw [ih];rfl
theorem zaA (xs:List Int):za5 (eI xs)=0:=by
 induction xs with
 | nil=>rfl
 | cons x r ih=>simp only [eI,List.map_cons,za5,dep] at *;rw [ih];rfl
theorem zdc (xs ys:List Int):qbn (eI xs) (eI ys)=decide (xs=ys):=by
 induction xs generalizing ys with
 | nil=>cases ys<;>simp [eI,qbn]
 | cons x r ih =>
  cases ys with
  | nil=>simp [eI,qbn]
  | cons y s =>
   have:=ih s
   simp only [eI,List.map_cons,qbn,eqD] at *;rw [this]
   by_cases h:x=y<;>simp [h]
theorem zbg (xs ys:List Int):eqD (tI xs) (tI ys)=decide (xs=ys):=zdc xs ys
theorem ybV (xs ys:List Int):jA (tI xs) (tI ys)=true:=by
 simp [jA,tI,dep,noS,zaA,qbV]
theorem qj (xs:List Int):(eI xs).length=xs.length:=by simp [eI]
theorem qdc {α:Type} {xs:List α} {j:Nat} {v:α} (h:xs[j]?=some v):atI xs (j:Int)=some v:=by
 have hj:j<xs.length:=(wq.mp h).1
 have e:Eng.ixN xs.length (j:Int)=some j:=by
  unfold Eng.ixN;rw [if_pos (by omega),if_pos (by omega)];simp
 unfold atI;rw [e];exact h
theorem yu {α:Type} {xs:List α} {i:Int} {v:α} (h0:0<=i) (h:xs[i.toNat]?=some v):atI xs i=some v:=by
 have:=qdc h
 rwa [show ((i.toNat:Nat):Int)=i by omega] at this
theorem qa7 {α:Type} (xs:List α) (v:α):atI (xs++[v]) (-1)=some v:=by
 have e:Eng.ixN (xs++[v]).length (-1)=some xs.length:=by
  unfold Eng.ixN;rw [if_neg (by omega),if_pos (by simp;omega),wU,List.length_singleton];congr 1;omega
 unfold atI;rw [e];simp
theorem qbg {f:D->List Sl->Option Fl} (P:List Sl->Prop):∀ (ds:List D) (ρ:List Sl),P ρ->(∀ d∈ds,∀ ρ,P ρ->∃ ρ',f d ρ=some (.nx ρ')/\P ρ')->∃ ρ',forL f ds ρ=some (.nx ρ')/\P ρ'
 | [],ρ,h,_=>⟨ρ,rfl,h⟩
 | d::ds,ρ,h,hs=>by
  obtain ⟨ρ1,e1,h1⟩:=hs d (by simp) ρ h;obtain ⟨ρ2,e2,h2⟩:=qbg P ds ρ1 h1 λd hd=>hs d (by simp [hd])
  refine ⟨ρ2,?_,h2⟩;simp only [forL,e1,wd];exact e2
theorem qaA {f:D->List Sl->Option Fl} (P:Nat->List Sl->Prop):∀ (ds:List D) (k:Nat) (ρ:List Sl),P k ρ->(∀ i d ρ,ds[i]?=some d->P (k+i) ρ->∃ ρ',f d ρ=some (.nx ρ')/\P (k+i+1) ρ')->∃ ρ',forL f ds ρ=some (.nx ρ')/\P (k+ds.length) ρ'
 | [],k,ρ,h,_=>⟨ρ,rfl,h⟩
 | d::ds,k,ρ,h,hs=>by
  obtain ⟨ρ1,e1,h1⟩:=hs 0 d ρ (by simp) h
  obtain ⟨ρ2,e2,h2⟩:=qaA P ds (k+1) ρ1 h1 λi d ρ hd hp=>by
   have:=hs (i+1) d ρ (by simpa using hd) (by rwa [show k+(i+1)=k+1+i by omega])
   rwa [show k+(i+1)+1=k+1+i+1 by omega] at this
  refine ⟨ρ2,?_,by rwa [show k+1+ds.length=k+(ds.length+1) by omega] at h2⟩;simp only [forL,e1,wd];exact e2
theorem qU {d:D}:∀ {n:Nat} {lo:Int},d∈yc lo n->∃ i:Int,d=.int i/\lo<=i/\i<lo+n
 | 0,_,h=>by simp [yc] at h
 | n+1,lo,h=>by
  simp only [yc,wu] at h;rcases h with rfl | h
  ·exact ⟨lo,rfl,by omega,by omega⟩
  ·obtain ⟨i,e,h1,h2⟩:=qU h;exact ⟨i,e,by omega,by omega⟩
theorem yj:∀ (n:Nat) (lo:Int),(yc lo n).length=n
 | 0,_=>rfl
 | n+1,lo=>by simp [yc,yj n]
theorem yU:∀ (n:Nat) (lo:Int) (i:Nat),i<n->(yc lo n)[i]?=some (.int (lo+i))
 | 0,_,_,h=>by omega
 | n+1,lo,0,_=>by simp [yc]
 | n+1,lo,i+1,h=>by
  simp only [yc,List.getElem?_cons_succ];rw [yU n (lo+1) i (by omega)];congr 2;omega
theorem yaq {f:D->Option (Option D)} (R:D->D->Prop):∀ (ds:List D),(∀ d∈ds,∃ x,f d=some (some x)/\R d x)->∃ rs,gather f ds=some rs/\rs.length=ds.length/\∀ x∈rs,∃ d∈ds,R d x
 | [],_=>⟨[],rfl,rfl,by simp⟩
 | d::ds,h=>by
  obtain ⟨x,e,hx⟩:=h d (by simp);obtain ⟨rs,e2,hl,h2⟩:=yaq R ds λd hd=>h d (by simp [hd])
  refine ⟨x::rs,by rw [gather,e,wd,e2];rfl,by simp [hl],λy hy=>?_⟩;rcases wu.mp hy with rfl | hy
  ·exact ⟨d,by simp,hx⟩
  ·obtain ⟨d',hd',r⟩:=h2 y hy;exact ⟨d',by simp [hd'],r⟩
theorem jaq {i j:Int} (h:-(2^64)<j/\j<2^64):qD i j=true:=by
 unfold qD;rw [decide_eq_true h.1,decide_eq_true h.2];simp
theorem ju {i j:Int} (h:-(2^64)<i/\i<2^64):qD i j=true:=by
 unfold qD;rw [decide_eq_true h.1,decide_eq_true h.2];simp
noncomputable def drawn (n k:Int):Int :=
 let d:=(n+104729*k+17)*69621%2147483647
 (d*d+3*d+k)%2147483629
theorem yaA (n k:Int):0<=drawn n k/\drawn n k<2147483629 :=
 ⟨Int.emod_nonneg _ (by decide),va _ (by decide)⟩
theorem jbV (C:Tab) (n k:Int):zB C jL [.int n,.int k]=some (.int (drawn n k)):=by
 have h1:=Int.emod_nonneg ((n+104729*k+17)*69621) (show (2147483647:Int)≠0 by decide);have h2:=va ((n+104729*k+17)*69621) (show (0:Int)<2147483647 by decide);have c1:qD 104729 k=true:=ju (by decide);have c2:qD (n+104729*k+17) 69621=true:=jaq (by decide);have c3:∀ d:Int,0<=d->d<2147483647->qD d d=true:=λd a b=>ju (by omega)
 have c4:∀ d:Int,qD 3 d=true:=λd=>ju (by decide)
 simp [zB,jL,exs,ex,ev,evs,vP,vA,q8,zd2,qd2,zcM,puT,Sl.pure,Sl.all,List.replicate,c1,c2,c3 _ h1 h2,c4,drawn]
theorem zcp (C:Tab) (ns:List Int) (k:Int) (hk:0<=k):zB C jP [.scr ns,.int k]=some (.int (ns.getD k.toNat 0)):=by
 refine qc rfl ?_
 by_cases h:k<(ns.length:Int)
 ·have h2:k.toNat<ns.length:=by omega
  have h3:ns[k.toNat]?=some ns[k.toNat]:=by simp [h2]
  refine qt (k:=true) (d:=.bl true) ?_ rfl (λ_=>?_) (λz=>nomatch z)
  ·simp! [List.map_cons,List.map_nil,List.cons_append];rw [decide_eq_true h]
  ·rw [qe (d:=.int ns[k.toNat]) ?_]
   ·simp [List.getD,h3]
   ·simp! [List.map_cons,List.map_nil,List.cons_append,yu hk h3]
 ·have h3:ns[k.toNat]?=none:=by simp;omega
  refine qt (k:=false) (d:=.bl false) ?_ rfl (λz=>nomatch z) (λ_=>?_)
  ·simp! [List.map_cons,List.map_nil,List.cons_append];rw [vk h]
  ·rw [qam,wd];have e:ns.getD k.toNat 0=0:=by simp [List.getD,h3]
   rw [e];exact qe (d:=.int 0) rfl
end M
end
section
open PySem Eng LG
namespace M
noncomputable def sv (s:List Int) (v:Nat):Nat:=(s.getD v 0).toNat
noncomputable def okS (m:Nat) (s:List Int):Bool:=s.length==m&&(List.range m).all λv=>decide (0<=s.getD v 0)&&decide (s.getD v 0<=(v:Int))&&(s.getD (sv s v) 0==s.getD v 0)
noncomputable def yv (s t:List Int):Bool:=(List.range s.length).all λv=>t.getD v 0==t.getD (sv s v) 0
noncomputable def y0 (s:List Int):List Int:=sortI (jat s)
noncomputable def mrg (s:List Int) (hi lo:Nat):List Int:=s.map λp=>if p=(y0 s).getD hi 0 then (y0 s).getD lo 0 else p
noncomputable def lists:Nat->List (List Int)
 | 0=>[[]]
 | m+1=>(lists m).flatMap λl=>[0,1,2,3,4].map λv=>l++[v]
noncomputable def steps (m:Nat):List (List Int):=(lists m).filter (okS m)
theorem qaP:∀ (m:Nat) (s:List Int),s.length=m->(∀ x∈s,0<=x/\x<5)->s∈lists m
 | 0,s,h,_=>by simp [lists,List.length_eq_zero_iff.mp h]
 | m+1,s,h,hv=>by
  have hne:s≠[]:=by intro e;subst e;simp at h
  rw [<-List.dropLast_concat_getLast hne];refine List.mem_flatMap.mpr ⟨s.dropLast,qaP m _ (by simp;omega) λx hx=>hv x ((List.dropLast_subset s) hx),?_⟩
  have:=hv _ (List.getLast_mem hne)
  refine wG.mpr ⟨s.getLast hne,?_,rfl⟩
  have:s.getLast hne=0\/s.getLast hne=1\/s.getLast hne=2\/s.getLast hne=3\/s.getLast hne=4:=by omega
  rcases this with e | e | e | e | e<;>simp [e]
theorem okS_iff {m:Nat} {s:List Int}:okS m s=true↔s.length=m/\∀ v<m,0<=s.getD v 0/\s.getD v 0<=(v:Int)/\s.getD (sv s v) 0=s.getD v 0:=by
 simp [okS,and_assoc]
theorem jaA {m:Nat} (hm:m<=5) {s:List Int} (h:okS m s=true):s∈steps m:=by
 obtain ⟨hl,hv⟩:=okS_iff.mp h;refine List.mem_filter.mpr ⟨qaP m s hl λx hx=>?_,h⟩;obtain ⟨i,hi,rfl⟩:=List.mem_iff_getElem.mp hx
 have:=hv i (by omega)
 have e:s.getD i 0=s[i]:=by simp [List.getD,hi]
 rw [e] at this;omega
noncomputable def qej (m:Nat) (s:List Int):Bool:=(List.range (y0 s).length).all λhi=>(List.range hi).all λlo=>okS m (mrg s hi lo)&&yv s (mrg s hi lo)
theorem ydc:∀ m∈[1,2,3,4,5],∀ s∈steps m,qej m s=true:=by decide +kernel
theorem jdR {m:Nat} (h1:1<=m) (hm:m<=5) {s:List Int} (h:okS m s=true) {hi lo:Nat} (a:hi<(y0 s).length) (b:lo<hi):okS m (mrg s hi lo)=true/\yv s (mrg s hi lo)=true:=by
 have h5:m∈[1,2,3,4,5]:=by
  have:m=1\/m=2\/m=3\/m=4\/m=5:=by omega
  simpa using this
 have q:=ydc m h5 s (jaA hm h);have q1:=List.all_eq_true.mp q hi (vc.mpr a);have q2:=List.all_eq_true.mp q1 lo (vc.mpr b);simpa using q2
theorem zbW:∀ m∈[1,2,3,4,5],okS m (List.replicate m 0)=true/\okS m ((List.range m).map Int.ofNat)=true/\∀ s∈steps m,yv s (List.replicate m 0)=true:=by decide +kernel
theorem coarse_iff {s t:List Int}:yv s t=true↔∀ v<s.length,t.getD v 0=t.getD (sv s v) 0:=by simp [yv]
theorem jv {m:Nat} {s:List Int} (h:okS m s=true):yv s s=true:=by
 obtain ⟨hl,hv⟩:=okS_iff.mp h;exact coarse_iff.mpr λv hv'=>((hv v (by omega)).2.2).symm
theorem yX {m:Nat} {s t u:List Int} (hs:okS m s=true) (ht:okS m t=true) (a:yv s t=true) (b:yv t u=true):yv s u=true:=by
 obtain ⟨hl,hv⟩:=okS_iff.mp hs;obtain ⟨hl2,hv2⟩:=okS_iff.mp ht;have a:=coarse_iff.mp a;have b:=coarse_iff.mp b;refine coarse_iff.mpr λv hv'=>?_
 have lt:sv s v<m:=by have:=hv v (by omega);unfold sv;omega
 rw [b v (by omega),b (sv s v) (by omega)];unfold sv at *;rw [a v hv']
structure Lad (m:Nat) (L:List (List Int)):Prop where
 m1:1<=m
 m5:m<=5
 len:L.length<=4
 ok:∀ s∈L,okS m s=true
 first:L[0]?=some ((List.range m).map Int.ofNat)
 last:L.getLast?=some (List.replicate m 0)
 up:∀ (i:Nat) (s t:List Int),L[i]?=some s->L[i+1]?=some t->yv s t=true/\s≠t
end M
end
section
open PySem Eng LG
namespace M
theorem zcF {k:Int}:q8 .Mult (.int 4) (.int k)=some (.int (4*k)):=jaI (ju (by decide))
theorem ye {n:Nat} (h:n<=1000):n<=sizeLine:=wQ h (by decide)
theorem qM {n:Nat} (h:n<=1000):n<sizeLine:=Nat.lt_of_le_of_lt h (by decide)
noncomputable abbrev LSt (n:Int) (m:Int) (s:List Int) (F:List (List Int)) (r:List Sl):List Sl :=
 .pu (.int n)::.pu (.int m)::.pu (.lst (eI s))::.ow (F.map tI)::r
theorem yaP {f:D->Option (Option D)} {g:Int->Int}:∀ (xs:List Int),(∀ x∈xs,f (.int x)=some (some (.int (g x))))->gather f (eI xs)=some (eI (xs.map g))
 | [],_=>rfl
 | x::xs,h=>by
  have h1:=h x (by simp);have h2:=yaP xs λy hy=>h y (by simp [hy])
  simp only [eI,List.map_cons] at *;rw [gather,h1,wd,h2];rfl
theorem yej (x y:D) (k:Bool):atI [x,y] (if k then 1 else 0)=some (if k then y else x):=by cases k<;>rfl
theorem qbW {m:Nat} (h5:m<=5) {s:List Int} (ok:okS m s=true):qW s=true:=by
 obtain ⟨hl,hv⟩:=okS_iff.mp ok;unfold qW;rw [List.all_eq_true];intro x hx;obtain ⟨i,hi,rfl⟩:=List.mem_iff_getElem.mp hx
 have:=hv i (by omega)
 have e:s.getD i 0=s[i]:=by simp [List.getD,hi]
 rw [e] at this;have z:(lowM:Int)=5:=rfl;simp only [wg,wF,z];omega
theorem jX {s:List Int} (h:qW s=true):qy .sortedSet [.lst (eI s)]=some (.lst (eI (y0 s))):=by
 simp only [qy,ints1,itemsD,wd,jn];rw [if_pos h];rfl
theorem inner (C:Tab) (hC:∀ a b:Int,C 2 [.int a,.int b]=some (.int (drawn a b))) {n k j mi:Int} {m:Nat} {s:List Int} {F:List (List Int)} {x6 x7 x8 x9:Sl} (h1:1<=m) (h5:m<=5) (ok:okS m s=true) :
  ∃ s' x6' x7' x8' x9',exs C qu (LSt n mi s F [.pu (.int k),.pu (.int j),x6,x7,x8,x9])=some (.nx (LSt n mi s' F [.pu (.int k),.pu (.int j),x6',x7',x8',x9']))/\okS m s'=true/\yv s s'=true:=by
 have sm:=qbW h5 ok
 by_cases hb:2<(y0 s).length
 ·have dd:=yaA n (4*k+j);generalize hd:drawn n (4*k+j)=dr at dd;have t1:(0:Int)<((y0 s).length:Int)-1:=by omega
  have hi1:0<1+dr/4%(((y0 s).length:Int)-1):=by
   have:=Int.emod_nonneg (dr/4) (show (((y0 s).length:Int)-1)≠0 by omega)
   omega
  have hi2:1+dr/4%(((y0 s).length:Int)-1)<((y0 s).length:Int):=by
   have:=va (dr/4) t1
   omega
  generalize hhi:1+dr/4%(((y0 s).length:Int)-1)=hi at hi1 hi2;have lo1:0<=dr/4/8%hi:=Int.emod_nonneg _ (by omega);have lo2:dr/4/8%hi<hi:=va _ hi1;generalize hlo:dr/4/8%hi=lo at lo1 lo2
  have ghi:(eI (y0 s))[hi.toNat]?=some (.int ((y0 s).getD hi.toNat 0)):=by
   have:hi.toNat<(y0 s).length:=by omega
   simp [eI,List.getD,this]
  have glo:(eI (y0 s))[lo.toNat]?=some (.int ((y0 s).getD lo.toNat 0)):=by
   have:lo.toNat<(y0 s).length:=by omega
   simp [eI,List.getD,this]
  have mo:=jdR h1 h5 ok (hi:=hi.toNat) (lo:=lo.toNat) (by omega) (by omega);have eh:=yu (by omega:0<=hi) ghi;have el:=yu lo1 glo;have L2:2<=sizeLine:=ye (by decide);refine ⟨mrg s hi.toNat lo.toNat,.pu (.lst (eI (y0 s))),.pu (.int (dr/4)),.pu (.int hi),.pu (.int lo),?_,mo.1,mo.2⟩;refine yg (d:=.lst (eI (y0 s))) (by simp! [jX sm]) rfl ?_;refine qt (k:=true) (d:=.bl true) ?_ rfl (λ_=>?_) (λz=>nomatch z)
  ·simp! [LSt,List.set,qj];rw [decide_eq_true (by omega)]
  simp only [LSt,List.set];rw [yg (d:=.int (dr/4)) (x:=some (.nx _)) ?_ rfl (yg (d:=.int hi) ?_ rfl (yg (d:=.int lo) ?_ rfl (yg (d:=.lst (eI (mrg s hi.toNat lo.toNat))) ?_ rfl rfl)))]
  ·rfl
  ·simp! [zcF,hC,hd]
  ·simp! [qj,t1,hhi]
  ·simp! [List.set,hi1,hlo]
  ·simp! [List.set];rw [yaP (g:=λp=>if p=(y0 s).getD hi.toNat 0 then (y0 s).getD lo.toNat 0 else p)]
   ·rfl
   intro p hp;simp only [turn,ybn,qm,List.replicate,List.map_cons,List.map_nil,List.set,List.cons_append,List.nil_append,EA,jaI,qbD,jaW,ya8,zd0,zcc,wd,Option.map_some,Option.bind_none,Option.map_none,if_true,if_false,↓reduceIte,and_self,Bool.not_true,Bool.not_false,wo,Int.reduceLT,Int.reduceLE,Int.reduceNeg,Nat.reduceMul,Nat.reduceAdd,Nat.reduceLeDiff,List.length_cons,List.length_nil,List.set,true_and,and_true,eh,el,L2];rw [zd0 (by rfl)];simp! [eqD,yej]
   by_cases q:p=(y0 s).getD hi.toNat 0
   ·simp only [q,beq_self_eq_true,if_true]
   ·simp only [q,wY.mpr q,if_false,wo]
 ·refine ⟨s,.pu (.lst (eI (y0 s))),x7,x8,x9,?_,ok,jv ok⟩;refine yg (d:=.lst (eI (y0 s))) (by simp! [jX sm]) rfl ?_;refine qt (k:=false) (d:=.bl false) ?_ rfl (λz=>nomatch z) (λ_=>rfl);simp! [LSt,List.set,qj];rw [vk (by omega)]
end M
end
section
open PySem Eng LG
namespace M
structure Cha (m:Nat) (L:List (List Int)) (f:List Int):Prop where
 ok:∀ s∈L,okS m s=true
 first:L[0]?=some ((List.range m).map Int.ofNat)
 last:L.getLast?=some f
 up:∀ (i:Nat) (s t:List Int),L[i]?=some s->L[i+1]?=some t->yv s t=true/\s≠t
theorem Cha.snoc {m:Nat} {L:List (List Int)} {f g:List Int} (c:Cha m L f) (ok:okS m g=true) (hc:yv f g=true) (ne:f≠g):Cha m (L++[g]) g:=by
 have hpos:0<L.length:=by
  have:=c.first
  cases L with
  | nil=>simp at this
  | cons a r=>simp
 refine ⟨λs hs=>?_,?_,by simp,λi s t h1 h2=>?_⟩
 ·rcases List.mem_append.mp hs with h | h
  ·exact c.ok s h
  ·rw [w8.mp h];exact ok
 ·rw [vg hpos];exact c.first
 ·have hi:i+1<(L++[g]).length:=(wq.mp h2).1;rw [wU,List.length_singleton] at hi;rw [vg (by omega)] at h1
  by_cases hl:i+1<L.length
  ·rw [vg hl] at h2;exact c.up i s t h1 h2
  ·rw [List.getElem?_append_right (by omega),show i+1-L.length=0 by omega] at h2;have e:g=t:=by simpa using h2
   have hf:=c.last;rw [List.getLast?_eq_getElem?,show L.length-1=i by omega,h1] at hf;have e2:s=f:=by simpa using hf
   rw [<-e,e2];exact ⟨hc,ne⟩
theorem zbt {L:List (List Int)} {f:List Int} (h:L.getLast?=some f):∃ L0,L=L0++[f]:=by
 obtain ⟨L0,e⟩:=List.getLast?_eq_some_iff.mp h;exact ⟨L0,e⟩
theorem zaB {L:List (List Int)} {f:List Int} (h:L.getLast?=some f):atI (L.map tI) (-1)=some (tI f):=by
 obtain ⟨L0,rfl⟩:=zbt h;rw [List.map_append];exact qa7 _ _
theorem jU {xs ys:List Int}:zO .NotEq (tI xs) (tI ys)=some (!decide (xs=ys)):=by rw [zcc (ybV xs ys),zbg]
theorem ybg {xs:List Int}:D.tup (eI xs)=tI xs:=rfl
def LI (n mi:Int) (m:Nat) (i:Nat) (ρ:List Sl):Prop :=
 ∃ s L f x4 x5 x6 x7 x8 x9,ρ=LSt n mi s L [x4,x5,x6,x7,x8,x9]/\Cha m L f/\okS m s=true/\yv f s=true/\L.length<=1+i
theorem outer (C:Tab) (hC:∀ a b:Int,C 2 [.int a,.int b]=some (.int (drawn a b))) {n k mi:Int} {m i:Nat} {ρ:List Sl} (h1:1<=m) (h5:m<=5) (hi:i<=5) (h:LI n mi m i ρ) :
  ∃ ρ',((puT (.one 4) (.int k) ρ).bind λρ''=>exs C zj ρ'')=some (.nx ρ')/\LI n mi m (i+1) ρ':=by
 obtain ⟨s,L,f,x4,x5,x6,x7,x8,x9,rfl,ch,ok,co,hl⟩:=h;have m1:0<=n/24%2:=Int.emod_nonneg _ (by decide);have m2:n/24%2<2:=va _ (by decide)
 obtain ⟨ρ1,e1,s',y5,y6,y7,y8,y9,rfl,ok',co'⟩:=qbg (f:=λd ρ'=>(puT (.one 5) d ρ').bind λρ''=>exs C qu ρ'')
  (λρ=>∃ s' y5 y6 y7 y8 y9,ρ=LSt n mi s' L [.pu (.int k),y5,y6,y7,y8,y9]/\okS m s'=true/\yv s s'=true)
  (yc 0 (1+n/24%2).toNat) (LSt n mi s L [.pu (.int k),x5,x6,x7,x8,x9]) ⟨s,x5,x6,x7,x8,x9,rfl,ok,jv ok⟩ (λd hd ρ ⟨s',y5,y6,y7,y8,y9,e,ok',co'⟩=>by
   obtain ⟨j,rfl,_,_⟩:=qU hd;subst e;obtain ⟨s2,z6,z7,z8,z9,e2,ok2,co2⟩:=inner C hC (n:=n) (k:=k) (j:=j) (F:=L) (x6:=y6) (x7:=y7) (x8:=y8) (x9:=y9) h1 h5 ok';exact ⟨_,e2,s2,.pu (.int j),z6,z7,z8,z9,rfl,ok2,yX ok ok' co' co2⟩)
 have okf:=ch.ok f (List.mem_of_getLast? ch.last);have co2:=yX okf ok co co'
 by_cases q:s'=f
 ·subst q;refine ⟨_,?_,s',L,s',.pu (.int k),y5,y6,y7,y8,y9,rfl,ch,ok',jv ok',by omega⟩;simp only [puT,wd,LSt,List.set,zj];refine jD (ds:=yc 0 (1+n/24%2).toNat) ?_ e1 (qt (d:=.bl false) (k:=false) ?_ rfl (λz=>nomatch z) (λ_=>rfl))
  ·simp! [rngD];rw [if_pos ⟨by omega,by omega,ye (by omega)⟩]
  ·simp! [zaB ch.last,ybg,jU,decide_eq_true]
 ·refine ⟨_,?_,s',L++[s'],s',.pu (.int k),y5,y6,y7,y8,y9,rfl,ch.snoc ok' co2 (Ne.symm q),ok',jv ok',by simp;omega⟩;simp only [puT,wd,LSt,List.set,zj];refine jD (ds:=yc 0 (1+n/24%2).toNat) ?_ e1 (qt (d:=.bl true) (k:=true) ?_ rfl (λ_=>?_) (λz=>nomatch z))
  ·simp! [rngD];rw [if_pos ⟨by omega,by omega,ye (by omega)⟩]
  ·simp! [zaB ch.last,ybg,jU,vk q]
  ·rw [qaJ (d:=tI s') (ds:=L.map tI) (x:=some (.nx _)) ?_ rfl ?_ rfl]
   ·simp [LSt];rfl
   ·simp! [ybg]
   ·rw [wC];exact qM (by omega)
theorem qcp:∀ m:Nat,m<=5->yc 0 m=eI ((List.range m).map Int.ofNat):=by
 intro m h
 have:m=0\/m=1\/m=2\/m=3\/m=4\/m=5:=by omega
 rcases this with e | e | e | e | e | e<;>subst e<;>rfl
theorem jej (n:Int):∃ (mi:Int) (m:Nat),atI [D.int 1,.int 2,.int 3,.int 4,.int 5,.int 3,.int 4,.int 5] (n%8)=some (.int mi)/\mi=(m:Int)/\1<=m/\m<=5:=by
 have h:n%8=0\/n%8=1\/n%8=2\/n%8=3\/n%8=4\/n%8=5\/n%8=6\/n%8=7:=by omega
 rcases h with e | e | e | e | e | e | e | e<;>rw [e]
 ·exact ⟨1,1,rfl,rfl,by decide,by decide⟩
 ·exact ⟨2,2,rfl,rfl,by decide,by decide⟩
 ·exact ⟨3,3,rfl,rfl,by decide,by decide⟩
 ·exact ⟨4,4,rfl,rfl,by decide,by decide⟩
 ·exact ⟨5,5,rfl,rfl,by decide,by decide⟩
 ·exact ⟨3,3,rfl,rfl,by decide,by decide⟩
 ·exact ⟨4,4,rfl,rfl,by decide,by decide⟩
 ·exact ⟨5,5,rfl,rfl,by decide,by decide⟩
theorem rep0 (m:Nat):qcv m [D.int 0]=eI (List.replicate m 0):=by
 induction m with
 | zero=>rfl
 | succ m ih =>
  simp only [qcv,eI,List.replicate_succ,List.flatten_cons,List.map_cons] at *;rw [ih];rfl
theorem zeC {m:Nat} (h1:1<=m) (h5:m<=5):m∈[1,2,3,4,5]:=by
 have:m=1\/m=2\/m=3\/m=4\/m=5:=by omega
 simpa using this
theorem qbt (C:Tab) (hC:∀ a b:Int,C 2 [.int a,.int b]=some (.int (drawn a b))) (n:Int):∃ m L,zB C d_law_ladder [.int n]=some (eL L)/\Lad m L:=by
 obtain ⟨mi,m,e8,hmi,h1,h5⟩:=jej n;have z:=zbW m (zeC h1 h5);have k1:0<=n/8%3:=Int.emod_nonneg _ (by decide);have k2:n/8%3<3:=va _ (by decide);obtain ⟨s0,hs0⟩:∃ s0,s0=(List.range m).map Int.ofNat:=⟨_,rfl⟩;rw [<-hs0] at z;have c0:Cha m [s0] s0:=⟨λs hs=>by rw [w8.mp hs];exact z.2.1,by rw [<-hs0];rfl,rfl,λi s t a b=>by simp at b⟩
 obtain ⟨ρ1,e1,s,L,f,x4,x5,x6,x7,x8,x9,rfl,ch,ok,co,hl⟩:=qaA (f:=λd ρ'=>(puT (.one 4) d ρ').bind λρ''=>exs C zj ρ'') (LI n mi m) (yc 0 (n/8%3).toNat) 0
  (LSt n mi s0 [s0] [.un, .un, .un, .un, .un, .un]) ⟨s0, [s0], s0, .un, .un, .un, .un, .un, .un, rfl, c0, z.2.1, jv z.2.1, by simp⟩ (λi d ρ hd hp => by
   have hi:i<(yc 0 (n/8%3).toNat).length:=(wq.mp hd).1;rw [yj] at hi;rw [yU _ _ _ hi] at hd;cases hd;exact outer C hC h1 h5 (by omega) hp)
 rw [yj] at hl;have okf:=ch.ok f (List.mem_of_getLast? ch.last)
 have rep:q8 .Mult (.tup [.int 0]) (.int mi)=some (tI (List.replicate m 0)):=by
  have e:mi.toNat=m:=by omega
  rw [ya8 ⟨by rw [e];exact ye (by show 1*m<=1000;omega),by omega,by omega⟩,e,rep0];rfl
 have run:∀ (x:Option Fl),(exs C (.cons (.ite (.cmp .NotEq (.idx (.var 3) (.neg (.cst (.int 1)))) (.bin .Mult (.tup (.cons (.cst (.int 0)) .nil)) (.var 1))) (.cons (.app 3 .pu (.bin .Mult (.tup (.cons (.cst (.int 0)) .nil)) (.var 1))) .nil) .nil) (.cons (.ret (.blt .tuple (.cons (.var 3) .nil))) .nil)) (LSt n mi s L [x4,x5,x6,x7,x8,x9])=x) ->
   exs C d_law_ladder.b ([.pu (.int n)]++List.replicate 9 .un)=x:=λx hx=>by
  simp only [d_law_ladder,List.replicate,List.cons_append,List.nil_append];refine yg (d:=.int mi) (ρ':=[.pu (.int n),.pu (.int mi),.un,.un,.un,.un,.un,.un,.un,.un]) ?_ rfl ?_
  ·simp! [];rw [if_pos (ye (by decide)),wd];exact e8
  refine yg (d:=.lst (eI s0)) (ρ':=[.pu (.int n),.pu (.int mi),.pu (.lst (eI s0)),.un,.un,.un,.un,.un,.un,.un]) ?_ rfl ?_
  ·simp! [rngD];rw [if_pos ⟨by omega,by omega,ye (by omega)⟩,wd,show mi.toNat=m by omega,qcp m h5,<-hs0]
  refine qaj (ds:=[tI s0]) ?_ ?_ ?_
  ·simp! [ybg];rw [if_pos (ye (by decide))]
  ·simp [yai,noL,tI,jaf]
  simp only [List.set];refine jD (ds:=yc 0 (n/8%3).toNat) ?_ e1 hx
  ·simp! [rngD];rw [if_pos ⟨by omega,by omega,ye (by omega)⟩]
 have fin:∀ L':List (List Int),qy .tuple [.lst (L'.map tI)]=some (eL L'):=λL'=>rfl
 by_cases q:f=List.replicate m 0
 ·refine ⟨m,L,?_,h1,h5,by omega,ch.ok,ch.first,by rw [ch.last,q],ch.up⟩;refine qc rfl (run (some (.rt (eL L))) (qt (d:=.bl false) (k:=false) ?_ rfl (λz=>nomatch z) λ_=>?_))
  ·simp! [zaB ch.last];rw [if_pos (ye (by decide)),wd,rep,wd,jU,decide_eq_true q];rfl
  ·rw [qam,wd];refine qe ?_;simp! [];rfl
 ·refine ⟨m,L++[List.replicate m 0],?_,h1,h5,by simp;omega,(ch.snoc z.1 (z.2.2 f (jaA h5 okf)) q).ok,(ch.snoc z.1 (z.2.2 f (jaA h5 okf)) q).first,by simp,(ch.snoc z.1 (z.2.2 f (jaA h5 okf)) q).up⟩;refine qc rfl (run (some (.rt (eL (L++[List.replicate m 0])))) (qt (d:=.bl true) (k:=true) ?_ rfl (λ_=>?_) (λz=>nomatch z)))
  ·simp! [zaB ch.last];rw [if_pos (ye (by decide)),wd,rep,wd,jU,vk q];rfl
  ·rw [qaJ (d:=tI (List.replicate m 0)) (ds:=L.map tI) (x:=some (.nx _)) ?_ rfl ?_ rfl]
   ·rw [wd];refine qe ?_;simp! [LSt];rw [<-fin,List.map_append];simp! [List.map_cons,List.map_nil]
   ·simp! [];rw [if_pos (ye (by decide)),wd,rep]
   ·rw [wC];exact qM (by omega)
end M
end
section
open PySem Eng LG
namespace M
theorem zag:∀ (ds:List D) (k:Nat),(yW k ds).length=ds.length
 | [],_=>rfl
 | d::ds,k=>by simp [yW,zag ds]
theorem jbg:∀ (ds:List D) (k i:Nat),(yW k ds)[i]?=(ds[i]?).map λd=>.tup [.int ((k+i:Nat):Int),d]
 | [],_,_=>by simp [yW]
 | d::ds,k,0=>by simp [yW]
 | d::ds,k,i+1=>by
  simp only [yW,List.getElem?_cons_succ];rw [jbg ds (k+1) i,show k+1+i=k+(i+1) by omega]
def RowOk:List Int->List (List (List Int))->Prop
 | [],[]=>True
 | x::r,L::Ls=>(0<=x/\x<((L.headD []).length:Int))/\RowOk r Ls
 | _,_=>False
theorem RowOk.snoc {L:List (List Int)} {x:Int} (h:0<=x/\x<((L.headD []).length:Int)):∀ {r:List Int} {Ls:List (List (List Int))},RowOk r Ls->RowOk (r++[x]) (Ls++[L])
 | [],[],_=>⟨h,trivial⟩
 | y::r,M::Ls,q=>⟨q.1,RowOk.snoc h q.2⟩
 | [],_::_,q=>q.elim
 | _::_,[],q=>q.elim
theorem RowOk.len:∀ {r:List Int} {Ls:List (List (List Int))},RowOk r Ls->r.length=Ls.length
 | [],[],_=>rfl
 | y::r,M::Ls,q=>by simp [RowOk.len q.2]
 | [],_::_,q=>q.elim
 | _::_,[],q=>q.elim
structure TabOk (Ls:List (List (List Int))) (rows:List (List Int)) (secs:List Int):Prop where
 c1:1<=Ls.length
 c3:Ls.length<=3
 lad:∀ L∈Ls,∃ m,Lad m L
 r1:1<=rows.length
 r8:rows.length<=8
 row:∀ r∈rows,RowOk r Ls
 sl:secs.length=rows.length
 sec:∀ s∈secs,0<=s/\s<4
noncomputable def eT (Ls:List (List (List Int))) (rows:List (List Int)) (secs:List Int):D:=.tup [.tup (Ls.map eL),.tup (rows.map tI),tI secs]
theorem qcF (xs:List Int):noL (tI xs)=true:=by simp [tI,noL,jaf]
theorem qaB (L:List (List Int)):yai (L.map tI)=true:=by
 induction L with
 | nil=>rfl
 | cons a r ih=>simp [yai,qcF,ih]
theorem Lad.head {m:Nat} {L:List (List Int)} (h:Lad m L):L.headD []=(List.range m).map Int.ofNat:=by
 have:=h.first
 cases L with
 | nil=>simp at this
 | cons a r=>simpa using this
theorem Lad.pos {m:Nat} {L:List (List Int)} (h:Lad m L):0<(L.headD []).length:=by
 rw [h.head];simp;exact h.m1
theorem Lad.hd {m:Nat} {L:List (List Int)} (h:Lad m L):atI (L.map tI) 0=some (tI (L.headD [])):=by
 have:=h.first
 cases L with
 | nil=>simp at this
 | cons a r=>exact yu (by decide) rfl
theorem ycF (xs:List Int):qy .len [tI xs]=some (.int xs.length):=by rw [tI,yk,qj]
noncomputable abbrev TSt (n:Int) (Ls:List (List (List Int))) (rows:List (List Int)) (secs:List Int) (r:List Sl):List Sl :=
 .pu (.int n)::.pu (.tup (Ls.map eL))::.ow (rows.map tI)::.ow (eI secs)::r
theorem ybW (C:Tab) (hC:∀ a b:Int,C 2 [.int a,.int b]=some (.int (drawn a b))) {n k:Int} {Ls:List (List (List Int))} {rows:List (List Int)} {secs:List Int} (hL:∀ L∈Ls,∃ m,Lad m L) (h3:Ls.length<=3) {x6 x7:Sl} :
  ∃ row x6' x7',forL (λd ρ'=>(puT (.many [6,7]) d ρ').bind λρ''=>exs C yp ρ'') (yW 0 (Ls.map eL)) (TSt n Ls rows secs [.pu (.int k),.ow [],x6,x7])=some (.nx (TSt n Ls rows secs [.pu (.int k),.ow (eI row),x6',x7']))/\RowOk row Ls:=by
 obtain ⟨ρ',e,row,x6',x7',rfl,ok⟩:=qaA (f:=λd ρ'=>(puT (.many [6,7]) d ρ').bind λρ''=>exs C yp ρ'')
  (λi ρ=>∃ row x6 x7,ρ=TSt n Ls rows secs [.pu (.int k),.ow (eI row),x6,x7]/\RowOk row (Ls.take i)) (yW 0 (Ls.map eL)) 0 (TSt n Ls rows secs [.pu (.int k),.ow [],x6,x7]) ⟨[],x6,x7,rfl,by simp [RowOk]⟩
  (λi d ρ hd ⟨row,y6,y7,er,ok⟩=>by
   subst er;rw [jbg,wx] at hd;cases hLi:Ls[i]? with
   | none=>rw [hLi] at hd;cases hd
   | some L =>
    rw [hLi] at hd;cases hd;obtain ⟨m,lad⟩:=hL L (wR hLi);have hp:=lad.pos;have dd:=yaA n (10+4*k+((0+i:Nat):Int));generalize hi0:((0+i:Nat):Int)=ii at dd;generalize hdr:drawn n (10+4*k+ii)=dr at dd;generalize hln:((L.headD []).length:Int)=ln at hp;have ln1:0<ln:=by omega
    have x1:0<=dr/4%ln:=Int.emod_nonneg _ (by omega);have x2:dr/4%ln<ln:=va _ ln1;have rl:=ok.len;have il:i<Ls.length:=(wq.mp hLi).1;refine ⟨_,?_,row++[dr/4%ln],.pu (.int ii),.pu (eL L),rfl,?_⟩
    ·simp only [hi0,puT,List.length_cons,List.length_nil,if_true,puM,wd,TSt,List.set,yp];rw [qaJ (d:=.int (dr/4%ln)) (ds:=eI row) (x:=some (.nx _)) ?_ rfl ?_ rfl]
     ·simp [eI]
     ·simp! [zcF,hC,hdr,eL,lad.hd,ycF,hln,ln1]
     ·rw [qj,rl,List.length_take];exact qM (by omega)
    ·rw [show 0+i+1=i+1 by omega,List.take_add_one,hLi];rw [show 0+i=i by omega] at ok;exact ok.snoc ⟨x1,by rw [hln];exact x2⟩)
 rw [zag,wC,show 0+Ls.length=Ls.length by omega,List.take_length] at ok;exact ⟨row,x6',x7',e,ok⟩
theorem three (n:Int):∃ q:Int,atI [D.int 2,.int 4,.int 3] (n/72%3)=some (.int q)/\0<q/\q<=4:=by
 have h:n/72%3=0\/n/72%3=1\/n/72%3=2:=by omega
 rcases h with e | e | e<;>rw [e]
 ·exact ⟨2,rfl,by decide,by decide⟩
 ·exact ⟨4,rfl,by decide,by decide⟩
 ·exact ⟨3,rfl,by decide,by decide⟩
def TI (n:Int) (Ls:List (List (List Int))) (i:Nat) (ρ:List Sl):Prop :=
 ∃ rows secs x4 x5 x6 x7,ρ=TSt n Ls rows secs [x4,x5,x6,x7]/\rows.length=i/\secs.length=i/\(∀ r∈rows,RowOk r Ls)/\∀ s∈secs,0<=s/\s<4
theorem j6 {i j:Int}:zO .Eq (.int i) (.int j)=some (i==j):=rfl
theorem jbW (C:Tab) (hC:∀ a b:Int,C 2 [.int a,.int b]=some (.int (drawn a b))) {n:Int} {Ls:List (List (List Int))} (hL:∀ L∈Ls,∃ m,Lad m L) (h3:Ls.length<=3) {i:Nat} {ki:Int} (hk:ki=(i:Int)) (hi:i<=8) {ρ:List Sl} (h:TI n Ls i ρ) :
  ∃ ρ',((puT (.one 4) (.int ki) ρ).bind λρ''=>exs C jk ρ'')=some (.nx ρ')/\TI n Ls (i+1) ρ':=by
 obtain ⟨rows,secs,x4,x5,x6,x7,rfl,rl,sl,ro,so⟩:=h;obtain ⟨row,y6,y7,e1,ok⟩:=ybW C hC (n:=n) (k:=ki) (rows:=rows) (secs:=secs) hL h3 (x6:=x6) (x7:=x7);obtain ⟨q,eq,q1,q2⟩:=three n;have d70:=yaA n (70+ki);generalize h70:drawn n (70+ki)=s70 at d70;have s1:0<=s70/4%q:=Int.emod_nonneg _ (by omega);have s2:s70/4%q<q:=va _ q1;have L3:3<=sizeLine:=ye (by decide)
 have tail:∀ (row:List Int),RowOk row Ls->exs C (.cons (.app 2 .cl (.blt .tuple (.cons (.var 5) .nil))) (.cons (.app 3 .pu (.bin .Mod (.bin .FloorDiv (.call 2 (.cons (.var 0) (.cons (.bin .Add (.cst (.int 70)) (.var 4)) .nil))) (.cst (.int 4))) (.idx (.tup (.cons (.cst (.int 2)) (.cons (.cst (.int 4)) (.cons (.cst (.int 3)) .nil)))) (.bin .Mod (.bin .FloorDiv (.var 0) (.cst (.int 72))) (.cst (.int 3)))))) .nil))
   (TSt n Ls rows secs [.pu (.int ki),.ow (eI row),y6,y7])=some (.nx (TSt n Ls (rows++[row]) (secs++[s70/4%q]) [.pu (.int ki),.ow (eI row),y6,y7])):=λrow ok=>by
  refine zcT (d:=tI row) (ds:=rows.map tI) ?_ rfl (qcF row) ?_ ?_
  ·simp! [TSt];rfl
  ·rw [wC];exact qM (by omega)
  simp only [TSt,List.set];rw [qaJ (d:=.int (s70/4%q)) (ds:=eI secs) (x:=some (.nx _)) ?_ rfl ?_ rfl]
  ·simp [eI]
  ·simp! [hC,h70,L3,eq,q1]
  ·rw [qj];exact qM (by omega)
 have nxt:∀ (row:List Int),RowOk row Ls->TI n Ls (i+1) (TSt n Ls (rows++[row]) (secs++[s70/4%q]) [.pu (.int ki),.ow (eI row),y6,y7]):=λrow ok =>
  ⟨rows ++ [row], secs ++ [s70 / 4 % q], _, _, _, _, rfl, by simp [rl], by simp [sl], λr hr => by
   rcases List.mem_append.mp hr with z | z
   ·exact ro r z
   ·rw [w8.mp z];exact ok,λs hs=>by
   rcases List.mem_append.mp hs with z | z
   ·exact so s z
   ·rw [w8.mp z];exact ⟨s1,by omega⟩⟩
 have head:∀ x,(exs C (.cons (.ite (.and (.cmp .Gt (.var 4) (.cst (.int 0))) (.and (.cmp .Eq (.bin .Mod (.bin .FloorDiv (.var 0) (.cst (.int 24))) (.cst (.int 3))) (.cst (.int 1))) (.cmp .Eq (.bin .Mod (.bin .FloorDiv (.call 2 (.cons (.var 0) (.cons (.bin .Add (.cst (.int 50)) (.var 4)) .nil))) (.cst (.int 4))) (.cst (.int 2))) (.cst (.int 1))))) (.cons (.set .ow (.one 5) (.blt .list (.cons (.idx (.var 2) (.bin .Mod (.bin .FloorDiv (.call 2 (.cons (.var 0) (.cons (.bin .Add (.cst (.int 60)) (.var 4)) .nil))) (.cst (.int 4))) (.var 4))) .nil))) .nil) .nil) (.cons (.app 2 .cl (.blt .tuple (.cons (.var 5) .nil))) (.cons (.app 3 .pu (.bin .Mod (.bin .FloorDiv (.call 2 (.cons (.var 0) (.cons (.bin .Add (.cst (.int 70)) (.var 4)) .nil))) (.cst (.int 4))) (.idx (.tup (.cons (.cst (.int 2)) (.cons (.cst (.int 4)) (.cons (.cst (.int 3)) .nil)))) (.bin .Mod (.bin .FloorDiv (.var 0) (.cst (.int 72))) (.cst (.int 3)))))) .nil)))
   (TSt n Ls rows secs [.pu (.int ki),.ow (eI row),y6,y7])=x)->((puT (.one 4) (.int ki) (TSt n Ls rows secs [x4,x5,x6,x7])).bind λρ''=>exs C jk ρ'')=x:=λx hx=>by
  simp only [puT,wd,TSt,List.set,jk];refine qaj (ds:=[]) ?_ rfl ?_
  ·simp! [];rw [if_pos (ye (by decide))]
  simp only [List.set];refine jD (ds:=yW 0 (Ls.map eL)) ?_ e1 hx;simp! []
 by_cases c1:0<ki
 ·by_cases c2:n/24%3=1
  ·by_cases c3:drawn n (50+ki)/4%2=1
   ·-- an elder row
    have j1:0<=drawn n (60+ki)/4%ki:=Int.emod_nonneg _ (by omega);have j2:drawn n (60+ki)/4%ki<ki:=va _ c1;generalize hj:drawn n (60+ki)/4%ki=j at j1 j2;have jl:j.toNat<rows.length:=by omega
    have ej:atI (rows.map tI) j=some (tI rows[j.toNat]):=yu j1 (by simp [jl]);refine ⟨_,head _ (qt (k:=true) (d:=.bl true) ?_ rfl (λ_=>?_) (λz=>nomatch z)),nxt rows[j.toNat] (ro _ (List.getElem_mem jl))⟩
    ·simp! [TSt,hC];rw [decide_eq_true c1];simp! [j6,c2,c3,beq_self_eq_true]
    ·rw [qaj (ds:=eI rows[j.toNat]) (x:=some (.nx _)) ?_ (jaf _) rfl]
     ·exact tail _ (ro _ (List.getElem_mem jl))
     ·simp! [TSt,hC,c1,hj,ej];rfl
   ·refine ⟨_,head _ (qt (k:=false) (d:=.bl false) ?_ rfl (λz=>nomatch z) (λ_=>?_)),nxt row ok⟩
    ·simp! [TSt,hC];rw [decide_eq_true c1];simp! [j6,c2,beq_self_eq_true,wY.mpr c3]
    ·rw [qam,wd];exact tail row ok
  ·refine ⟨_,head _ (qt (k:=false) (d:=.bl false) ?_ rfl (λz=>nomatch z) (λ_=>?_)),nxt row ok⟩
   ·simp! [TSt,hC];rw [decide_eq_true c1];simp! [j6,wY.mpr c2]
   ·rw [qam,wd];exact tail row ok
 ·refine ⟨_,head _ (qt (k:=false) (d:=.bl false) ?_ rfl (λz=>nomatch z) (λ_=>?_)),nxt row ok⟩
  ·simp! [TSt,hC];rw [vk c1]
  ·rw [qam,wd];exact tail row ok
end M
end
section
open PySem Eng LG
namespace M
theorem zbh:∀ (rs:List D),(∀ x∈rs,∃ L m,x=eL L/\Lad m L)->∃ Ls:List (List (List Int)),rs=Ls.map eL/\∀ L∈Ls,∃ m,Lad m L
 | [],_=>⟨[],rfl,by simp⟩
 | x::rs,h=>by
  obtain ⟨L,m,rfl,hl⟩:=h x (by simp);obtain ⟨Ls,rfl,hs⟩:=zbh rs λy hy=>h y (by simp [hy])
  refine ⟨L::Ls,rfl,λM hM=>?_⟩;rcases wu.mp hM with rfl | q
  ·exact ⟨m,hl⟩
  ·exact hs M q
theorem zbX (C:Tab) (hC:∀ a b:Int,C 2 [.int a,.int b]=some (.int (drawn a b))) (hC7:∀ n:Int,∃ m L,C 3 [.int n]=some (eL L)/\Lad m L) (n:Int) :
  ∃ Ls rows secs,zB C zM [.int n]=some (eT Ls rows secs)/\TabOk Ls rows secs:=by
 have k1:0<=n%3:=Int.emod_nonneg _ (by decide);have k2:n%3<3:=va _ (by decide);have j1:0<=n/3%8:=Int.emod_nonneg _ (by decide);have j2:n/3%8<8:=va _ (by decide)
 obtain ⟨rs,eg,rl,hr⟩:=yaq (f:=turn C (.call 3 (.cons (.call 2 (.cons (.var 1) (.cons (.var 0) .nil))) .nil)) (.one 0) 1 [0] .none [some (.int n),none,none,none,none,none,none,none])
  (λ_ x=>∃ L m,x=eL L/\Lad m L) (yc 0 (1+n%3).toNat) (λd hd=>by
   obtain ⟨i,rfl,_,_⟩:=qU hd;obtain ⟨m,L,e7,lad⟩:=hC7 (drawn n i);refine ⟨eL L,?_,L,m,rfl,lad⟩;simp only [turn,ybn,qm,List.replicate,List.map_cons,List.map_nil,List.cons_append,List.nil_append,EA,jaI,qbD,jaW,ya8,zd0,zcc,wd,Option.map_some,Option.bind_none,Option.map_none,if_true,if_false,↓reduceIte,and_self,Bool.not_true,Bool.not_false,wo,Int.reduceLT,Int.reduceLE,Int.reduceNeg,Nat.reduceMul,Nat.reduceAdd,Nat.reduceLeDiff,List.length_cons,List.length_nil,List.set,true_and,and_true,hC,e7])
 rw [yj] at rl;obtain ⟨Ls,rfl,hL⟩:=zbh rs λx hx=>by obtain ⟨d,_,q⟩:=hr x hx;exact q
 rw [wC] at rl
 obtain ⟨ρ1,e1,rows,secs,x4,x5,x6,x7,rfl,hrl,hsl,hro,hso⟩:=qaA (f:=λd ρ'=>(puT (.one 4) d ρ').bind λρ''=>exs C jk ρ'') (TI n Ls) (yc 0 (1+n/3%8).toNat) 0
  (TSt n Ls [] [] [.un, .un, .un, .un]) ⟨[], [], .un, .un, .un, .un, rfl, rfl, rfl, by simp, by simp⟩ (λi d ρ hd hp => by
   have hi:i<(yc 0 (1+n/3%8).toNat).length:=(wq.mp hd).1;rw [yj] at hi;rw [yU _ _ _ hi] at hd;cases hd;rw [show 0+i=i by omega] at hp ⊢;exact jbW C hC hL (by omega) (by omega) (by omega) hp)
 rw [yj] at hrl hsl;refine ⟨Ls,rows,secs,?_,⟨by omega,by omega,hL,by omega,by omega,hro,by omega,hso⟩⟩;refine qc rfl ?_;simp only [zM,List.replicate,List.map_cons,List.map_nil,List.cons_append,List.nil_append];refine yg (d:=.tup (Ls.map eL)) (ρ':=[.pu (.int n),.pu (.tup (Ls.map eL)),.un,.un,.un,.un,.un,.un]) ?_ rfl ?_
 ·simp! [rngD];rw [if_pos ⟨by omega,by omega,ye (by omega)⟩];simp only [wd];rw [eg];rfl
 refine qaj (ds:=[]) ?_ rfl ?_
 ·simp! [];rw [if_pos (ye (by decide))]
 refine qaj (ds:=[]) ?_ rfl ?_
 ·simp! [];rw [if_pos (ye (by decide))]
 simp only [List.set];refine jD (ds:=yc 0 (1+n/3%8).toNat) ?_ e1 (qe ?_)
 ·simp! [rngD];rw [if_pos ⟨by omega,by omega,ye (by omega)⟩]
 ·simp! [TSt];rw [if_pos (ye (by decide))];rfl
theorem qbX (C:Tab) (ns:List Int) (k:Int) (c:Int) (hC:C 0 [.scr ns,.int k]=some (.int c)):∃ r:Int,zB C yL [.scr ns,.int k]=some (.int r):=by
 have h1:=Int.emod_nonneg ((c+7919*k+1)*48271) (show (2147483647:Int)≠0 by decide);have h2:=va ((c+7919*k+1)*48271) (show (0:Int)<2147483647 by decide);have c1:q8 .Mult (.int 7919) (.int k)=some (.int (7919*k)):=jaI (ju (by decide));have c2:q8 .Mult (.int (c+7919*k+1)) (.int 48271)=some (.int ((c+7919*k+1)*48271)):=jaI (jaq (by decide));generalize hd:(c+7919*k+1)*48271%2147483647=d at h1 h2;have c3:q8 .Mult (.int d) (.int d)=some (.int (d*d)):=jaI (ju (by omega));have c4:q8 .Mult (.int 7) (.int d)=some (.int (7*d)):=jaI (ju (by decide));refine ⟨(d*d+7*d+k)%2147483629,qc rfl ?_⟩;simp only [yL,List.replicate,List.map_cons,List.map_nil,List.cons_append,List.nil_append];refine yg (d:=.int d) (ρ':=[.pu (.scr ns),.pu (.int k),.pu (.int d)]) ?_ rfl (qe ?_)
 ·simp! [hC,c1,c2,hd]
 ·simp! [c3,c4]
end M
end
section
open PySem Eng LG
namespace M
section
variable {C:Tab} {ρ:En} {a b c:Eng.Code} {x y z d:D} {k:Bool}
theorem yr {op:CmpOp} (h1:ev C a ρ=some x) (h2:ev C b ρ=some y) (h3:zO op x y=some k):ev C (.cmp op a b) ρ=some (.bl k):=by
 rw [zcy,h1,wd,h2,wd,h3];rfl
theorem jg {f:Blt} (h1:ev C a ρ=some x) (h2:qy f [x]=some d):ev C (.blt f (.cons a .nil)) ρ=some d:=by
 rw [zbC,zm,h1,wd,yK];exact h2
theorem yf {e:Eng.Code} {t:Tgt} {n:Nat} {keep:List Nat} {it:Iter} {o:OCode} {ds rs:List D} (h1:evI C it ρ=some ds) (h2:gather (turn C e t n keep o ρ) ds=some rs):ev C (.comp e t n keep it o) ρ=some (.lst rs):=by
 rw [qbC,h1,wd,h2];rfl
theorem ycp {ds:List D} (h1:ev C a ρ=some x) (h2:rngD [x]=some ds):evI C (.rng (.cons a .nil)) ρ=some ds:=by
 rw [ybC,zm,h1,wd,yK];exact h2
theorem jf {ds:List D} (h1:ev C a ρ=some x) (h2:itemsD x=some ds):evI C (.data a) ρ=some ds:=by
 rw [qa8,h1,wd];exact h2
theorem jdc {ds:List D} (h1:ev C a ρ=some x) (h2:itemsD x=some ds):evI C (.enu a) ρ=some (yW 0 ds):=by
 rw [jbC,h1,wd,h2];rfl
theorem zdd {ds es:List D} (h1:ev C a ρ=some x) (h2:itemsD x=some ds) (h3:ev C b ρ=some y) (h4:itemsD y=some es):evI C (.zip a b) ρ=some (qaF ds es):=by
 rw [zbD,h1,wd,h3,wd,h2,wd,h4];rfl
theorem jh (h1:ev C a ρ=some x) (h2:ev C b ρ=some y) (h3:jaE x y=some d):ev C (.idx a b) ρ=some d:=by
 rw [jcy,h1,wd,h2,wd];exact h3
theorem jE {op:Operator} (h1:ev C a ρ=some x) (h2:ev C b ρ=some y) (h3:q8 op x y=some d):ev C (.bin op a b) ρ=some d:=by
 rw [ycx,h1,wd,h2,wd];exact h3
theorem jcp (h1:ev C a ρ=some x) (h2:truO x=some k):ev C (.not a) ρ=some (.bl (!k)):=by
 rw [jcx,h1,wd,h2];rfl
theorem zdS (h1:ev C a ρ=some (.bl true)):ev C (.or a b) ρ=some (.bl true):=by rw [qcS,h1];rfl
theorem qdS (h1:ev C a ρ=some (.bl false)) (h2:ev C b ρ=some d):ev C (.or a b) ρ=some d:=by rw [qcS,h1];exact h2
theorem ydS (h1:ev C a ρ=some (.bl false)):ev C (.and a b) ρ=some (.bl false):=by rw [jbB,h1];rfl
theorem ybX (h1:ev C a ρ=some (.bl true)) (h2:ev C b ρ=some d):ev C (.and a b) ρ=some d:=by rw [jbB,h1];exact h2
theorem qeC {k l:Bool} (h1:ev C a ρ=some (.bl k)) (h2:k=false->ev C b ρ=some (.bl l)):ev C (.or a b) ρ=some (.bl (k||l)):=by
 cases k with
 | true=>exact zdS h1
 | false=>exact qdS h1 (h2 rfl)
theorem jdS {k l:Bool} (h1:ev C a ρ=some (.bl k)) (h2:k=true->ev C b ρ=some (.bl l)):ev C (.and a b) ρ=some (.bl (k&&l)):=by
 cases k with
 | false=>exact ydS h1
 | true=>exact ybX h1 (h2 rfl)
theorem jbX {f:Nat} (h1:ev C a ρ=some x) (h2:C f [x]=some d):ev C (.call f (.cons a .nil)) ρ=some d:=by
 rw [zab,zm,h1,wd,yK];exact h2
theorem zc {f:Nat} (h1:ev C a ρ=some x) (h2:ev C b ρ=some y) (h3:C f [x,y]=some d):ev C (.call f (.cons a (.cons b .nil))) ρ=some d:=by
 rw [zab,zm,h1,wd,zm,h2,wd,yK];exact h3
theorem zp {f:Nat} (h1:ev C a ρ=some x) (h2:ev C b ρ=some y) (h3:ev C c ρ=some z) (h4:C f [x,y,z]=some d):ev C (.call f (.cons a (.cons b (.cons c .nil)))) ρ=some d:=by
 rw [zab,zm,h1,wd,zm,h2,wd,zm,h3,wd,yK];exact h4
theorem qg:evs C .nil ρ=some []:=rfl
theorem yb {cs:Codes} {xs:List D} (h1:ev C a ρ=some x) (h2:evs C cs ρ=some xs):evs C (.cons a cs) ρ=some (x::xs):=by rw [zm,h1,wd,h2];rfl
theorem jx {cs:Codes} {xs:List D} (h1:evs C cs ρ=some xs) (h2:xs.length<=1000):ev C (.tup cs) ρ=some (.tup xs):=by rw [qcy,h1,wd,if_pos (ye h2)]
theorem zcq {cs:Codes} {xs:List D} (h1:evs C cs ρ=some xs) (h2:xs.length<=1000):ev C (.lst cs) ρ=some (.lst xs):=by rw [ycy,h1,wd,if_pos (ye h2)]
theorem qcq {lo hi:OCode} {l h:Option Int} (h1:ev C a ρ=some x) (h2:evO C lo ρ=some l) (h3:evO C hi ρ=some h) (h4:jdk x l h=some d):ev C (.slc a lo hi) ρ=some d:=by
 rw [zcz,h1,wd,h2,wd,h3];exact h4
theorem yaB {i:Int} (h1:ev C a ρ=some (.int i)):evO C (.some a) ρ=some (some i):=by rw [ja7,h1];rfl
section
variable {σ σ':List Sl} {r t u:Stms} {v:Option Fl}
theorem jr (h:ev C a (vA σ)=some (.bl false)) (h2:exs C r σ=v):exs C (.cons (.ite a t .nil) r) σ=v:=by
 refine qt h rfl (λz=>nomatch z) (λ_=>?_);rw [qam,wd];exact h2
theorem zbY (h:ev C a (vA σ)=some (.bl true)) (h1:exs C t σ=some (.rt d)):exs C (.cons (.ite a t u) r) σ=some (.rt d):=by
 refine qt h rfl (λ_=>?_) (λz=>nomatch z);rw [h1];rfl
theorem qdd (h:ev C a (vA σ)=some (.bl true)) (h1:exs C t σ=some (.nx σ')) (h2:exs C r σ'=v):exs C (.cons (.ite a t u) r) σ=v:=by
 refine qt h rfl (λ_=>?_) (λz=>nomatch z);rw [h1,wd];exact h2
end
end
theorem ydd {C:Tab} {ρ:List Sl} {t:Tgt} {it:Iter} {b r:Stms} {ds:List D} {d:D} (h:evI C it (vP ρ)=some ds) (h1:forL (λd ρ'=>(puT t d ρ').bind λρ''=>exs C b ρ'') ds ρ=some (.rt d)):exs C (.cons (.for t it b) r) ρ=some (.rt d):=by
 rw [exs,ex,h,wd,h1];rfl
theorem qbY (bs:List Bool):zaj (bs.map D.bl)=some bs:=by
 induction bs with
 | nil=>rfl
 | cons a r ih=>simp [zaj,ih]
theorem ybY (bs:List Bool):qy .all [.lst (bs.map D.bl)]=some (.bl (bs.all id)):=by
 simp only [qy,zel,itemsD,wd,qbY];rfl
theorem qa0 {xs:List D} (h:∀ d∈xs,noS d=true):yE xs=true:=by
 induction xs with
 | nil=>rfl
 | cons a r ih =>
  rw [yE,h a (by simp),ih λd hd=>h d (by simp [hd])];rfl
theorem zY (xs:List Int):noS (tI xs)=true:=qbV xs
theorem jcF (L:List (List Int)):noS (eL L)=true:=qa0 λd hd=>by
 obtain ⟨s,_,rfl⟩:=wG.mp hd;exact zY s
theorem jaB {x:D} {i:Int} (h:noS x=true):jA x (.int i)=true:=by
 rw [eqOk_iff'];exact ⟨.inr (Nat.zero_le _),h,rfl⟩
where eqOk_iff' {x y:D}:jA x y=true↔(dep x<=40\/dep y<=40)/\noS x=true/\noS y=true:=by simp [jA,and_assoc]
theorem zar {x y:D} (h:noS x=true) (hy:noS y=true) (hd:dep y<=40):jA x y=true:=by simp [jA,h,hy,hd]
theorem qbh (xs:List Int):dep (tI xs)<=40:=by simp [tI,dep,zaA]
def InB (r bs:List Int):Prop:=r.length=bs.length/\∀ i<r.length,0<=r.getD i 0/\r.getD i 0<bs.getD i 0
noncomputable def zcG (Ls:List (List (List Int))):List Int:=Ls.map λL=>((L.headD []).length:Int)
theorem InB_cons {x b:Int} {r bs:List Int}:InB (x::r) (b::bs)↔(0<=x/\x<b)/\InB r bs:=by
 constructor
 ·rintro ⟨h1,h2⟩;refine ⟨by simpa using h2 0 (by simp),by simpa using h1,λi hi=>?_⟩;simpa using h2 (i+1) (by simpa using hi)
 ·rintro ⟨h0,h1,h2⟩;refine ⟨by simp [h1],λi hi=>?_⟩;cases i with
  | zero=>simpa using h0
  | succ i=>simpa using h2 i (by simpa using hi)
theorem row_iff:∀ {r:List Int} {Ls:List (List (List Int))},RowOk r Ls↔InB r (zcG Ls)
 | [],[]=>by simp [RowOk,InB,zcG]
 | [],_::_=>by simp [RowOk,InB,zcG]
 | _::_,[]=>by simp [RowOk,InB,zcG]
 | x::r,L::Ls=>by
  have ih:=row_iff (r:=r) (Ls:=Ls);show ((0<=x/\x<((L.headD []).length:Int))/\RowOk r Ls)↔InB (x::r) (((L.headD []).length:Int)::zcG Ls);rw [InB_cons,ih]
theorem jb {P:List Def} {k i:Nat} {f:Def} {ds:List D} {d:D} (h:P[i]?=some f) (h2:zB (ji P k) f ds=some d):ji P (k+1) i ds=some d:=by
 show (P[i]?).bind (λf=>zB (ji P k) f ds)=some d;rw [h];exact h2
noncomputable def jdd (n:Int):Nat->List (List (List Int))->List Int
 | _,[]=>[]
 | k,L::Ls=>drawn n k/4%(L.length:Int)::jdd n (k+1) Ls
theorem Lad.ne {m:Nat} {L:List (List Int)} (h:Lad m L):0<L.length:=by
 have:=h.first
 cases L with
 | nil=>simp at this
 | cons _ _=>simp
theorem qar (C:Tab) (hC:∀ a b:Int,C 2 [.int a,.int b]=some (.int (drawn a b))) (n:Int) (ρ:En) (r0:ρ[0]?=some (some (.int n))):∀ (Ls:List (List (List Int))) (k:Nat),(∀ L∈Ls,∃ m,Lad m L) ->
  gather (turn C (.bin .Mod (.bin .FloorDiv (.call 2 (.cons (.var 2) (.cons (.var 0) .nil))) (.cst (.int 4))) (.blt .len (.cons (.var 1) .nil))) (.many [0,1]) 2 [0] .none ρ) (yW k (Ls.map eL))=some (eI (jdd n k Ls))
 | [],k,_=>rfl
 | L::Ls,k,hL=>by
  obtain ⟨m,l⟩:=hL L (by simp);have ih:=qar C hC n ρ r0 Ls (k+1) λL h=>hL L (by simp [h])
  have pos:=l.ne;rw [List.map_cons,yW,gather,ih];simp only [turn,ybn,setM,qm,List.replicate,List.map_cons,List.map_nil,List.length_cons,List.length_nil,if_true,List.set,List.cons_append,List.nil_append,wd,zav,r0,join_some];rw [jE (x:=.int (drawn n k/4)) (y:=.int (L.length:Int)) (jE (x:=.int (drawn n k)) (y:=.int 4) (zc (x:=.int n) (y:=.int k) rfl rfl (hC n k)) rfl (qbD (by decide))) (jg (x:=eL L) rfl (by rw [eL,yk,wC])) (jaW (by omega))];rfl
theorem zde (C:Tab) (hC:∀ a b:Int,C 2 [.int a,.int b]=some (.int (drawn a b))) (n:Int) {Ls:List (List (List Int))} {rows:List (List Int)} {secs:List Int} (T:TabOk Ls rows secs):zB C zaP [.int n,eT Ls rows secs]=some (tI (jdd n 0 Ls)):=by
 refine qc rfl (qe ?_);refine jg (yf (jdc (x:=.tup (Ls.map eL)) (jh (x:=eT Ls rows secs) (y:=.int 0) rfl rfl rfl) rfl) (qar C hC n _ rfl Ls 0 T.lad)) rfl
theorem jbY (n:Int):∀ (Ls:List (List (List Int))) (k:Nat),(∀ L∈Ls,∃ m,Lad m L)->InB (jdd n k Ls) (Ls.map λL=>(L.length:Int))
 | [],_,_=>⟨rfl,by simp [jdd]⟩
 | L::Ls,k,h=>by
  obtain ⟨m,l⟩:=h L (by simp)
  have:=l.ne
  exact InB_cons.mpr ⟨⟨Int.emod_nonneg _ (by omega),va _ (by omega)⟩,jbY n Ls (k+1) λL hL=>h L (by simp [hL])⟩
end M
end
section
open PySem Eng LG
namespace M
noncomputable def jc:List (List (List Int))->List Int->List (List Int)
 | L::Ls,i::w=>L.getD i.toNat []::jc Ls w
 | _,_=>[]
noncomputable def jj:List (List Int)->List Int->List Int
 | s::ss,v::r=>s.getD v.toNat 0::jj ss r
 | _,_=>[]
noncomputable def zl (Ls:List (List (List Int))) (rows:List (List Int)) (w:List Int):List (List Int):=rows.map (jj (jc Ls w))
def zH (Ls:List (List (List Int))) (w:List Int):Prop:=InB w (Ls.map λL=>(L.length:Int))
def Fits:List (List Int)->List Int->Prop
 | s::ss,v::r=>(0<=v/\v<(s.length:Int))/\Fits ss r
 | [],[]=>True
 | _,_=>False
theorem Lad.at {m:Nat} {L:List (List Int)} (h:Lad m L) {i:Int} (h0:0<=i) (h1:i<(L.length:Int)):L[i.toNat]?=some (L.getD i.toNat [])/\okS m (L.getD i.toNat [])=true:=by
 have hi:i.toNat<L.length:=by omega
 have e:L[i.toNat]?=some (L.getD i.toNat []):=by simp [List.getD,hi]
 exact ⟨e,h.ok _ (wR e)⟩
theorem Lad.m_len {m:Nat} {L:List (List Int)} (h:Lad m L):(L.headD []).length=m:=by rw [h.head];simp
theorem fits_of:∀ {Ls:List (List (List Int))} {w r:List Int},(∀ L∈Ls,∃ m,Lad m L)->zH Ls w->RowOk r Ls->Fits (jc Ls w) r
 | [],[],[],_,_,_=>trivial
 | [],[],_::_,_,_,h=>by cases h
 | [],_::_,_,_,h,_=>by have:=h.1;simp at this
 | L::Ls,[],_,_,h,_=>by have:=h.1;simp at this
 | L::Ls,i::w,[],_,_,h=>by cases h
 | L::Ls,i::w,v::r,hL,hw,hr=>by
  obtain ⟨m,lad⟩:=hL L (by simp);have hw':=InB_cons.mp (show InB (i::w) ((L.length:Int)::Ls.map λL=>(L.length:Int)) from hw);obtain ⟨e,ok⟩:=lad.at hw'.1.1 hw'.1.2;have hr':(0<=v/\v<((L.headD []).length:Int))/\RowOk r Ls:=hr;rw [lad.m_len] at hr';refine ⟨?_,fits_of (λL hL'=>hL L (by simp [hL'])) hw'.2 hr'.2⟩;rw [(okS_iff.mp ok).1];exact hr'.1
noncomputable def yar:Def:=⟨2,2,(.cons (.ret (.comp (.idx (.var 0) (.var 1)) (.many [0,1]) 2 [] (.zip (.idx (.var 0) (.cst (.int 0))) (.var 1)) .none)) .nil)⟩
noncomputable def qag:Def:=⟨2,2,(.cons (.ret (.blt .tuple (.cons (.comp (.idx (.var 0) (.var 1)) (.many [0,1]) 2 [] (.zip (.var 0) (.var 1)) .none) .nil))) .nil)⟩
noncomputable def zbZ (i6 i7:Nat):Def:=⟨3,2,(.cons (.set .pu (.one 2) (.call i7 (.cons (.var 0) (.cons (.var 1) .nil)))) (.cons (.ret (.blt .tuple (.cons (.comp (.call i6 (.cons (.var 1) (.cons (.var 0) .nil))) (.one 0) 1 [2] (.data (.idx (.var 0) (.cst (.int 1)))) .none) .nil))) .nil))⟩
theorem at0 {x y z:D}:atI [x,y,z] 0=some x:=rfl
theorem at1 {x y z:D}:atI [x,y,z] 1=some y:=rfl
theorem at2 {x y z:D}:atI [x,y,z] 2=some z:=rfl
theorem ya0 (C:Tab) (ρ:En) {f:D->D->Option D} (hf:∀ x y,jaE x y=f x y):∀ {xs ys rs:List D},(∀ (i:Nat) (x y:D),xs[i]?=some x->ys[i]?=some y->∃ r,rs[i]?=some r/\jaE x y=some r)->rs.length=min xs.length ys.length ->
  gather (turn C (.idx (.var 0) (.var 1)) (.many [0,1]) 2 [] .none ρ) (qaF xs ys)=some rs
 | [],ys,rs,_,hl=>by
  have:rs=[]:=List.length_eq_zero_iff.mp (by simpa using hl)
  subst this;cases ys<;>rfl
 | _::_,[],rs,_,hl=>by
  have:rs=[]:=List.length_eq_zero_iff.mp (by simpa using hl)
  subst this;rfl
 | x::xs,y::ys,rs,h,hl=>by
  obtain ⟨r0,e0,e1⟩:=h 0 x y rfl rfl;cases rs with
  | nil=>cases e0
  | cons r rs =>
   have e0':r=r0:=wA e0;subst e0';have ih:=ya0 C ρ hf (xs:=xs) (ys:=ys) (rs:=rs) (λi x y a b=>h (i+1) x y (by simpa using a) (by simpa using b)) (by simp at hl;omega)
   have t0:turn C (.idx (.var 0) (.var 1)) (.many [0,1]) 2 [] .none ρ (.tup [x,y])=some (some r):=by
    show ((ev C (.idx (.var 0) (.var 1)) [some x,some y]).map some)=_;rw [jh (x:=x) (y:=y) rfl rfl e1];rfl
   show gather _ (.tup [x,y]::qaF xs ys)=_;rw [gather,t0,wd,ih];rfl
theorem yag:∀ (Ls:List (List (List Int))) (w:List Int) (i:Nat) (L:List (List Int)) (j:Int),Ls[i]?=some L->w[i]?=some j->(jc Ls w)[i]?=some (L.getD j.toNat [])
 | [],_,_,_,_,h,_=>by simp at h
 | _::_,[],_,_,_,_,h=>by simp at h
 | L::Ls,k::w,0,_,_,h1,h2=>by simp at h1 h2;subst h1;subst h2;rfl
 | L::Ls,k::w,i+1,L',j,h1,h2=>yag Ls w i L' j (by simpa using h1) (by simpa using h2)
theorem yM:∀ (Ls:List (List (List Int))) (w:List Int),(jc Ls w).length=min Ls.length w.length
 | [],w=>by cases w<;>rfl
 | _::_,[]=>rfl
 | L::Ls,k::w=>by simp [jc,yM Ls w]
theorem qY:∀ (ss:List (List Int)) (r:List Int) (i:Nat) (s:List Int) (v:Int),ss[i]?=some s->r[i]?=some v->(jj ss r)[i]?=some (s.getD v.toNat 0)
 | [],_,_,_,_,h,_=>by simp at h
 | _::_,[],_,_,_,_,h=>by simp at h
 | s::ss,k::w,0,_,_,h1,h2=>by simp at h1 h2;subst h1;subst h2;rfl
 | s::ss,k::w,i+1,s',j,h1,h2=>qY ss w i s' j (by simpa using h1) (by simpa using h2)
theorem yY:∀ (ss:List (List Int)) (r:List Int),(jj ss r).length=min ss.length r.length
 | [],w=>by cases w<;>rfl
 | _::_,[]=>rfl
 | L::Ls,k::w=>by simp [jj,yY Ls w]
theorem zdT {Ls:List (List (List Int))} {w:List Int} (h:zH Ls w) {i:Nat} {L:List (List Int)} {j:Int} (h1:Ls[i]?=some L) (h2:w[i]?=some j):0<=j/\j<(L.length:Int):=by
 have hi:=(wq.mp h2).1
 have:=h.2 i hi
 simpa [List.getD,h1,h2] using this
theorem jaP (C:Tab) {Ls:List (List (List Int))} {rows:List (List Int)} {secs:List Int} (hL':∀ L∈Ls,∃ m,Lad m L) {w:List Int} (W:zH Ls w):zB C yar [eT Ls rows secs,tI w]=some (.lst ((jc Ls w).map tI)):=by
 refine qc rfl ?_;refine qe (yf (zdd (jh rfl rfl at0) rfl rfl rfl) ?_);refine ya0 C _ (f:=jaE) (λ_ _=>rfl) (λi x y hx hy=>?_) (by simp [yM,qj]);rw [wx] at hx;obtain ⟨L,hL,rfl⟩:=Option.map_eq_some_iff.mp hx;rw [eI,wx] at hy;obtain ⟨j,hj,rfl⟩:=Option.map_eq_some_iff.mp hy;have b:=zdT W hL hj;obtain ⟨m,lad⟩:=hL' L (wR hL);obtain ⟨e,_⟩:=lad.at b.1 b.2;refine ⟨tI (L.getD j.toNat []),by rw [wx,yag Ls w i L j hL hj];rfl,?_⟩;show atI (L.map tI) j=_;exact yu b.1 (by rw [wx,e];rfl)
theorem qbZ:∀ {ss:List (List Int)} {r:List Int},Fits ss r->ss.length=r.length/\∀ (i:Nat) (s:List Int) (v:Int),ss[i]?=some s->r[i]?=some v->0<=v/\v<(s.length:Int)
 | [],[],_=>⟨rfl,λi s v h=>by simp at h⟩
 | [],_::_,h=>by cases h
 | _::_,[],h=>by cases h
 | s::ss,v::r,h=>by
  obtain ⟨l,f⟩:=qbZ h.2;refine ⟨by simp [l],λi s' v' h1 h2=>?_⟩;cases i with
  | zero=>simp at h1 h2;subst h1;subst h2;exact h.1
  | succ i=>exact f i s' v' (by simpa using h1) (by simpa using h2)
theorem zaC (C:Tab) {ss:List (List Int)} {r:List Int} (h:Fits ss r):zB C qag [.lst (ss.map tI),tI r]=some (tI (jj ss r)):=by
 obtain ⟨hl,f⟩:=qbZ h;refine qc rfl ?_;refine qe (jg (yf (zdd rfl rfl rfl rfl) (ya0 C _ (f:=jaE) (λ_ _=>rfl) (rs:=eI (jj ss r)) (λi x y hx hy=>?_) (by simp [qj,yY]))) rfl);rw [wx] at hx;obtain ⟨s,hs,rfl⟩:=Option.map_eq_some_iff.mp hx;rw [eI,wx] at hy;obtain ⟨v,hv,rfl⟩:=Option.map_eq_some_iff.mp hy;have b:=f i s v hs hv;refine ⟨.int (s.getD v.toNat 0),by rw [eI,wx,qY ss r i s v hs hv];rfl,?_⟩;show atI (eI s) v=_;exact yu b.1 (by rw [eI,wx];simp [List.getD,show v.toNat<s.length by omega])
theorem qd {f:D->Option (Option D)} {α:Type} {g h:α->D}:∀ (xs:List α),(∀ x∈xs,f (g x)=some (some (h x)))->gather f (xs.map g)=some (xs.map h)
 | [],_=>rfl
 | x::xs,q=>by
  rw [List.map_cons,gather,q x (by simp),wd,qd xs λy hy=>q y (by simp [hy])];rfl
theorem ybZ (C:Tab) {i6 i7:Nat} {Ls:List (List (List Int))} {rows:List (List Int)} {secs:List Int} {w:List Int} (h7:C i7 [eT Ls rows secs,tI w]=some (.lst ((jc Ls w).map tI)))
  (h6:∀ r∈rows,C i6 [.lst ((jc Ls w).map tI),tI r]=some (tI (jj (jc Ls w) r))):zB C (zbZ i6 i7) [eT Ls rows secs,tI w]=some (.tup ((zl Ls rows w).map tI)):=by
 refine qc rfl ?_;refine yg (zc rfl rfl h7) rfl ?_;refine qe (jg (yf (jf (jh rfl rfl at1) rfl) (qd (g:=tI) (h:=λr=>tI (jj (jc Ls w) r)) rows λr hr=>?_)) ?_)
 ·show ((ev C (.call i6 (.cons (.var 1) (.cons (.var 0) .nil))) [some (tI r),some (.lst ((jc Ls w).map tI))]).map some)=_;rw [zc rfl rfl (h6 r hr)];rfl
 ·show some (D.tup _)=_;rw [zl,wJ];rfl
end M
end
section
open PySem Eng LG
namespace M
noncomputable def zo (S:List (List Int)):List (List Int):=S.foldl (λks x=>if x∈ks then ks else ks++[x]) []
noncomputable def jM (S:List (List Int)) (k:List Int):List Int:=((List.range S.length).filter λi=>S.getD i []==k).map Int.ofNat
noncomputable def qdT:Nat->List (List Int×List D)->List (List Int)->List (List Int×List D)
 | _,es,[]=>es
 | k,es,x::S=>qdT (k+1) (jW x (.int (k:Int)) es) S
theorem yC (A:List (List Int)) (x:List Int):zo (A++[x])=if x∈zo A then zo A else zo A++[x]:=by
 unfold zo;rw [List.foldl_append];rfl
theorem snoc_ind {α:Type} {P:List α->Prop} (h0:P []) (h1:∀ A x,P A->P (A++[x])) (l:List α):P l:=by
 have:∀ n (l:List α),l.length=n->P l:=by
  intro n
  induction n with
  | zero=>intro l hl;have:l=[]:=List.length_eq_zero_iff.mp hl;rw [this];exact h0
  | succ n ih =>
   intro l hl;have hne:l≠[]:=λz=>by rw [z] at hl;simp at hl
   rw [<-List.dropLast_concat_getLast hne];exact h1 _ _ (ih _ (by simp [hl]))
 exact this l.length l rfl
theorem jz {k:List Int} (A:List (List Int)):k∈zo A↔k∈A:=by
 induction A using snoc_ind with
 | h0=>simp [zo]
 | h1 A x ih =>
  rw [yC];split
  ·rename_i h;rw [ih];simp only [List.mem_append,w8]
   constructor
   ·exact .inl
   ·rintro (q | q)
    ·exact q
    ·subst q;exact ih.mp h
  ·simp only [List.mem_append,w8,ih]
theorem zaQ (A:List (List Int)):(zo A).Nodup:=by
 induction A using snoc_ind with
 | h0=>exact List.Pairwise.nil
 | h1 A x ih =>
  rw [yC];split
  ·exact ih
  ·rename_i h;rw [List.nodup_append];refine ⟨ih,by simp,λa ha b hb=>?_⟩
   have:b=x:=by simpa using hb
   rw [this];exact λz=>h (z▸ha)
theorem jbZ (A:List (List Int)) (x k:List Int):jM (A++[x]) k=if x=k then jM A k++[(A.length:Int)] else jM A k:=by
 unfold jM;rw [wU,List.length_singleton,List.range_succ,List.filter_append]
 have e1:(List.range A.length).filter (λi=>(A++[x]).getD i []==k)=(List.range A.length).filter λi=>A.getD i []==k:=by
  apply List.filter_congr;intro i hi;have hi:i<A.length:=vc.mp hi;simp [List.getD,vg hi]
 have e2:(A++[x]).getD A.length []=x:=by simp [List.getD]
 rw [e1]
 by_cases h:x=k
 ·rw [if_pos h,List.filter_cons_of_pos (by rw [e2,h];simp)];simp
 ·rw [if_neg h,List.filter_cons_of_neg (by rw [e2];simpa using h)];simp
theorem zb0 {A:List (List Int)} {k:List Int} (h:k∉A):jM A k=[]:=by
 unfold jM;rw [List.filter_eq_nil_iff.mpr];rfl
 intro i hi;have hi:i<A.length:=vc.mp hi;simp only [vm];intro e;exact h (by rw [<-e];simp [List.getD,hi])
theorem qb0 {x:List Int} {d:D} {f:List Int->List D}:∀ (ks:List (List Int)),ks.Nodup->x∈ks->jW x d (ks.map λk=>(k,f k))=ks.map λk=>(k,if x=k then f k++[d] else f k)
 | [],_,h=>by cases h
 | k::ks,hn,h=>by
  rw [List.nodup_cons] at hn;rw [List.map_cons,List.map_cons,jW]
  by_cases e:k=x
  ·rw [if_pos e]
   have rest:ks.map (λk=>(k,f k))=ks.map λk=>(k,if x=k then f k++[d] else f k):=vf λy hy=>by
    rw [if_neg (λz=>hn.1 (by rw [e,z];exact hy))]
   rw [if_pos e.symm,rest]
  ·rw [if_neg e,if_neg (λz=>e z.symm),qb0 ks hn.2 (by rcases wu.mp h with q | q;exact absurd q.symm e;exact q)]
theorem ybh {x:List Int} {d:D} {f:List Int->List D}:∀ (ks:List (List Int)),x∉ks->jW x d (ks.map λk=>(k,f k))=(ks.map λk=>(k,f k))++[(x,[d])]
 | [],_=>rfl
 | k::ks,h=>by
  rw [wu,not_or] at h;rw [List.map_cons,jW,if_neg (λz=>h.1 z.symm),ybh ks h.2];rfl
theorem jbh:∀ (S A:List (List Int)),qdT A.length ((zo A).map λk=>(k,eI (jM A k))) S=(zo (A++S)).map λk=>(k,eI (jM (A++S) k))
 | [],A=>by rw [List.append_nil];rfl
 | x::S,A=>by
  have step:jW x (.int (A.length:Int)) ((zo A).map λk=>(k,eI (jM A k)))=(zo (A++[x])).map λk=>(k,eI (jM (A++[x]) k)):=by
   have e:∀ k,eI (jM (A++[x]) k)=if x=k then eI (jM A k)++[.int (A.length:Int)] else eI (jM A k):=λk=>by
    rw [jbZ]
    by_cases h:x=k
    ·rw [if_pos h,if_pos h];simp [eI]
    ·rw [if_neg h,if_neg h]
   rw [yC]
   by_cases h:x∈zo A
   ·rw [if_pos h,qb0 _ (zaQ A) h];exact vf λk _=>by rw [e k]
   ·rw [if_neg h,ybh _ h,List.map_append];have hA:x∉A:=λz=>h ((jz A).mpr z)
    have r1:(zo A).map (λk=>(k,eI (jM A k)))=(zo A).map λk=>(k,eI (jM (A++[x]) k)):=vf λk hk=>by
     rw [e k,if_neg (λz=>h (by rw [z];exact hk))]
    rw [r1,List.map_singleton,e x,if_pos rfl,zb0 hA];rfl
  rw [qdT,step]
  have:=jbh S (A++[x])
  rw [wU,List.length_singleton,List.append_assoc] at this;exact this
theorem qde (S:List (List Int)):qdT 0 [] S=(zo S).map λk=>(k,eI (jM S k)):=jbh S []
noncomputable def jai (S:List (List Int)):List (List Int):=(zo S).map (jM S)
noncomputable def eC (S:List (List Int)):D:=.tup ((jai S).map tI)
noncomputable def zr:Stms:=(.cons (.grp 2 (.var 4) (.var 3)) .nil)
noncomputable def qaQ (i8:Nat):Def:=⟨5,2,(.cons (.newd 2) (.cons (.for (.many [3,4]) (.enu (.call i8 (.cons (.var 0) (.cons (.var 1) .nil)))) zr) (.cons (.ret (.blt .tuple (.cons (.comp (.blt .tuple (.cons (.var 0) .nil)) (.one 0) 1 [] (.vals (.var 2)) .none) .nil))) .nil)))⟩
theorem yde {x:List Int} {d:D} {n:Nat}:∀ (es:List (List Int×List D)),es.length<=n->(∀ e∈es,e.2.length<=n)->(jW x d es).length<=n+1/\∀ e∈jW x d es,e.2.length<=n+1
 | [],_,_=>by simp [jW]
 | (k,ds)::r,h1,h2=>by
  have hd:=h2 (k,ds) (by simp);rw [jW];split
  ·refine ⟨by simp at h1 ⊢;omega,λe he=>?_⟩;rcases wu.mp he with q | q
   ·rw [q];simp at hd ⊢;omega
   ·exact Nat.le_succ_of_le (h2 e (by simp [q]))
  ·have ih:∀ (r:List (List Int×List D)) (m:Nat),r.length<=m->(∀ e∈r,e.2.length<=n)->(jW x d r).length<=m+1/\∀ e∈jW x d r,e.2.length<=n+1:=by
    intro r
    induction r with
    | nil=>intro m _ _;simp [jW]
    | cons e r ih =>
     intro m h1 h2;obtain ⟨k,ds⟩:=e;rw [jW];split
     ·refine ⟨by simp at h1 ⊢;omega,λe he=>?_⟩;rcases wu.mp he with q | q
      ·rw [q];have:=h2 (k,ds) (by simp);simp at this ⊢;omega
      ·exact Nat.le_succ_of_le (h2 e (by simp [q]))
     ·simp at h1;obtain ⟨a,b⟩:=ih (m-1) (by omega) λe he=>h2 e (by simp [he])
      refine ⟨by simp;omega,λe he=>?_⟩;rcases wu.mp he with q | q
      ·rw [q];have:=h2 (k,ds) (by simp);simp at this ⊢;omega
      ·exact b e q
   simp at h1;obtain ⟨a,b⟩:=ih r (n-1) (by omega) λe he=>h2 e (by simp [he])
   refine ⟨by simp;omega,λe he=>?_⟩;rcases wu.mp he with q | q
   ·rw [q];simp at hd ⊢;omega
   ·exact b e q
theorem zbi (C:Tab) (t w:D):∀ (S:List (List Int)) (k:Nat) (es:List (List Int×List D)) (y3 y4:Sl),k+S.length<=200->es.length<=k->(∀ e∈es,e.2.length<=k) ->
  ∃ y3' y4',forL (λd ρ'=>(puT (.many [3,4]) d ρ').bind λρ''=>exs C zr ρ'') (yW k (S.map tI)) [.pu t,.pu w,.gr es,y3,y4]=some (.nx [.pu t,.pu w,.gr (qdT k es S),y3',y4'])
 | [],k,es,y3,y4,_,_,_=>⟨y3,y4,rfl⟩
 | x::S,k,es,y3,y4,hs,h1,h2=>by
  have hs':k+(S.length+1)<=200:=hs;obtain ⟨b1,b2⟩:=yde (x:=x) (d:=.int (k:Int)) es h1 h2
  have turn1:(puT (.many [3,4]) (.tup [.int (k:Int),tI x]) [Sl.pu t,.pu w,.gr es,y3,y4]).bind (λρ''=>exs C zr ρ'')=some (.nx [.pu t,.pu w,.gr (jW x (.int (k:Int)) es),.pu (.int (k:Int)),.pu (tI x)]):=by
   show exs C zr [.pu t,.pu w,.gr es,.pu (.int (k:Int)),.pu (tI x)]=_;unfold zr;rw [exs,ex];show (((qdZ (tI x)).bind λns=>ydm 2 ns (.int (k:Int)) [Sl.pu t,.pu w,.gr es,.pu (.int (k:Int)),.pu (tI x)]).bind _)=_;rw [show qdZ (tI x)=some x from jn x,wd];unfold ydm;show ((if es.length<1000/\(∀ e∈es,e.2.length<1000) then _ else _):Option Fl).bind _=_;rw [if_pos ⟨by omega,λe he=>by have:=h2 e he;omega⟩];rfl
  obtain ⟨y3',y4',ih⟩:=zbi C t w S (k+1) (jW x (.int (k:Int)) es) (.pu (.int (k:Int))) (.pu (tI x)) (by omega) b1 b2;refine ⟨y3',y4',?_⟩;show forL _ (.tup [.int (k:Int),tI x]::yW (k+1) (S.map tI)) _=_;rw [forL,turn1,wd];exact ih
theorem ja0 (C:Tab) {i8:Nat} {t w:D} {S:List (List Int)} (hS:S.length<=50) (h8:C i8 [t,w]=some (.tup (S.map tI))):zB C (qaQ i8) [t,w]=some (eC S):=by
 refine qc rfl ?_;show exs C (.cons (.newd 2) _) [.pu t,.pu w,.un,.un,.un]=_;rw [exs,ex];show ((if ([Sl.pu t,.pu w,.un,.un,.un]:List Sl).any Sl.isGr then none else some (Fl.nx [Sl.pu t,.pu w,.gr [],.un,.un]))).bind _=_;rw [if_neg (by simp [Sl.isGr]),wd];obtain ⟨y3,y4,h⟩:=zbi C t w S 0 [] .un .un (by omega) (Nat.zero_le _) (λe he=>by cases he);rw [qde] at h;refine jD (jdc (zc rfl rfl h8) rfl) h ?_;refine qe (jg (yf (ds:=(jai S).map λc=>.lst (eI c)) (rs:=(jai S).map tI) ?_ ?_) rfl)
 ·show some (((zo S).map λk=>(k,eI (jM S k))).map λe=>D.lst e.2)=_;rw [wJ,jai,wJ];rfl
 ·exact qd (g:=λc=>.lst (eI c)) (h:=tI) (jai S) λc _=>rfl
end M
end
section
open PySem Eng LG
namespace M
theorem yb0 {C:Tab} {ρ:En} {f:Blt} {a b:Eng.Code} {x y d:D} (h1:ev C a ρ=some x) (h2:ev C b ρ=some y) (h3:qy f [x,y]=some d):ev C (.blt f (.cons a (.cons b .nil))) ρ=some d:=by
 rw [zbC,zm,h1,wd,zm,h2,wd,yK];exact h3
theorem qcG (xs:List Int):qy .sum [.lst (eI xs)]=some (.int xs.sum):=by
 show (intsOf (eI xs)).bind _=_;rw [jn];rfl
noncomputable def qaC (S:List (List Int)) (many:Int):Bool:=(jai S).all λc=>decide (many<=(c.length:Int))
noncomputable def qK (secs c:List Int):List Int:=c.map λi=>secs.getD i.toNat 0
noncomputable def yaQ (i9:Nat):Def:=⟨3,3,(.cons (.ret (.blt .all (.cons (.comp (.cmp .GtE (.blt .len (.cons (.var 0) .nil)) (.var 1)) (.one 0) 1 [2] (.data (.call i9 (.cons (.var 0) (.cons (.var 1) .nil)))) .none) .nil))) .nil)⟩
noncomputable def jar:Def:=⟨2,2,(.cons (.ret (.blt .sum (.cons (.comp (.bin .Sub (.blt .count (.cons (.var 0) (.cons (.idx (.var 0) (.var 1)) .nil))) (.cst (.int 1))) (.many [0,1]) 2 [] (.zip (.var 0) (.var 1)) .none) .nil))) .nil)⟩
noncomputable def ycG (i7 i15:Nat):Def:=⟨3,2,(.cons (.set .pu (.one 2) (.call i7 (.cons (.var 0) (.cons (.var 1) .nil)))) (.cons (.ret (.blt .sum (.cons (.comp (.call i15 (.cons (.var 1) (.cons (.var 0) .nil))) (.one 0) 1 [2] (.data (.idx (.var 0) (.cst (.int 1)))) .none) .nil))) .nil))⟩
theorem jag {f:D->Option (Option D)} {α:Type} {g:α->D} {h:α->Int} (xs:List α) (q:∀ x∈xs,f (g x)=some (some (.int (h x)))):gather f (xs.map g)=some (eI (xs.map h)):=by
 rw [qd (g:=g) (h:=λx=>.int (h x)) xs q,eI,wJ];rfl
theorem zas {f:D->Option (Option D)} {α:Type} {g:α->D} {h:α->Bool} (xs:List α) (q:∀ x∈xs,f (g x)=some (some (.bl (h x)))):gather f (xs.map g)=some ((xs.map h).map D.bl):=by
 rw [qd (g:=g) (h:=λx=>.bl (h x)) xs q,wJ];rfl
theorem ycq (C:Tab) {i9:Nat} {t w:D} {many:Int} {S:List (List Int)} (h9:C i9 [t,w]=some (eC S)):zB C (yaQ i9) [t,w,.int many]=some (.bl (qaC S many)):=by
 refine qc rfl ?_;refine qe (jg (yf (jf (zc rfl rfl h9) rfl) (zas (g:=tI) (h:=λc=>decide (many<=(c.length:Int))) (jai S) λc _=>?_)) ?_)
 ·show ((ev C (.cmp .GtE (.blt .len (.cons (.var 0) .nil)) (.var 1)) [some (tI c),some (.int many)]).map some)=_;rw [yr (jg rfl (ycF c)) rfl rfl];rfl
 ·rw [ybY,qaC,List.all_map];rfl
noncomputable def jcG (s:List Int) (x:Int):Nat:=s.countP λy=>y==x
theorem jb0 (x:Int):∀ s:List Int,qbw (.int x) (eI s)=jcG s x
 | []=>rfl
 | y::s=>by
  show (if eqD (.int y) (.int x) then 1 else 0)+qbw (.int x) (eI s)=_;rw [jb0 x s,jcG,jcG,List.countP_cons,Nat.add_comm];rfl
noncomputable def zy:List (List Int)->List Int->Int
 | s::ss,v::r=>((jcG s (s.getD v.toNat 0):Int)-1)+zy ss r
 | _,_=>0
noncomputable def yaC (Ls:List (List (List Int))) (rows:List (List Int)) (w:List Int):Int:=(rows.map (zy (jc Ls w))).sum
theorem qbi (C:Tab) (ρ:En):∀ {ss:List (List Int)} {r:List Int},Fits ss r->∃ xs:List Int,gather (turn C (.bin .Sub (.blt .count (.cons (.var 0) (.cons (.idx (.var 0) (.var 1)) .nil))) (.cst (.int 1))) (.many [0,1]) 2 [] .none ρ) (qaF (ss.map tI) (eI r))=some (eI xs)/\xs.sum=zy ss r
 | [],[],_=>⟨[],rfl,rfl⟩
 | [],_::_,h=>by cases h
 | _::_,[],h=>by cases h
 | s::ss,v::r,h=>by
  obtain ⟨xs,e,hx⟩:=qbi C ρ h.2;have ai:atI (eI s) v=some (.int (s.getD v.toNat 0)):=yu h.1.1 (by rw [eI,wx];have:=h.1;simp [List.getD,show v.toNat<s.length by omega])
  have hc:qy .count [tI s,.int (s.getD v.toNat 0)]=some (.int (jcG s (s.getD v.toNat 0))):=by
   show (if jA (.int (s.getD v.toNat 0)) (tI s) then some (D.int (qbw (.int (s.getD v.toNat 0)) (eI s))) else none)=_;rw [if_pos (zar rfl (zY s) (qbh s)),jb0]
  have t0:turn C (.bin .Sub (.blt .count (.cons (.var 0) (.cons (.idx (.var 0) (.var 1)) .nil))) (.cst (.int 1))) (.many [0,1]) 2 [] .none ρ (.tup [tI s,.int v])=some (some (.int ((jcG s (s.getD v.toNat 0):Int)-1))):=by
   show ((ev C (.bin .Sub (.blt .count (.cons (.var 0) (.cons (.idx (.var 0) (.var 1)) .nil))) (.cst (.int 1))) [some (tI s),some (.int v)]).map some)=_;rw [jE (yb0 rfl (jh (x:=tI s) (y:=.int v) rfl rfl ai) hc) rfl rfl];rfl
  refine ⟨((jcG s (s.getD v.toNat 0):Int)-1)::xs,?_,?_⟩
  ·show gather _ (.tup [tI s,.int v]::qaF (ss.map tI) (eI r))=_;rw [gather,t0,wd,e];rfl
  ·rw [List.sum_cons,hx];rfl
theorem jaQ (C:Tab) {ss:List (List Int)} {r:List Int} (h:Fits ss r):zB C jar [.lst (ss.map tI),tI r]=some (.int (zy ss r)):=by
 refine qc rfl ?_;obtain ⟨xs,e,hx⟩:=qbi C [some (.lst (ss.map tI)),some (tI r)] h;refine qe (jg (yf (zdd rfl rfl rfl rfl) e) ?_);rw [qcG,hx]
theorem jcq (C:Tab) {i7 i15:Nat} {Ls:List (List (List Int))} {rows:List (List Int)} {secs:List Int} {w:List Int} (h7:C i7 [eT Ls rows secs,tI w]=some (.lst ((jc Ls w).map tI)))
  (h15:∀ r∈rows,C i15 [.lst ((jc Ls w).map tI),tI r]=some (.int (zy (jc Ls w) r))):zB C (ycG i7 i15) [eT Ls rows secs,tI w]=some (.int (yaC Ls rows w)):=by
 refine qc rfl ?_;refine yg (zc rfl rfl h7) rfl ?_;refine qe (jg (yf (jf (jh rfl rfl at1) rfl) (jag (g:=tI) (h:=zy (jc Ls w)) rows λr hr=>?_)) (qcG _));show ((ev C (.call i15 (.cons (.var 1) (.cons (.var 0) .nil))) [some (tI r),some (.lst ((jc Ls w).map tI))]).map some)=_;rw [zc rfl rfl (h15 r hr)];rfl
end M
end
section
open PySem Eng LG
namespace M
theorem mem_idxI {S:List (List Int)} {k:List Int} {x:Int}:x∈jM S k↔∃ i,i<S.length/\x=(i:Int)/\S.getD i []=k:=by
 unfold jM;simp only [wG,List.mem_filter,vc,vm];constructor
 ·rintro ⟨i,⟨h1,h2⟩,rfl⟩;exact ⟨i,h1,rfl,h2⟩
 ·rintro ⟨i,h1,rfl,h2⟩;exact ⟨i,⟨h1,h2⟩,rfl⟩
theorem mem_clsL {S:List (List Int)} {c:List Int}:c∈jai S↔∃ i,i<S.length/\c=jM S (S.getD i []):=by
 unfold jai;simp only [wG];constructor
 ·rintro ⟨k,hk,rfl⟩;obtain ⟨i,hi,e⟩:=List.mem_iff_getElem.mp ((jz S).mp hk);exact ⟨i,hi,by simp [List.getD,hi,e]⟩
 ·rintro ⟨i,hi,rfl⟩;exact ⟨S.getD i [],(jz S).mpr (by simp [List.getD,hi]),rfl⟩
end M
end
section
open PySem Eng LG
namespace M
noncomputable def zah (w:List Int) (n:Nat):List (List Int):=(List.range n).map λ(s:Nat)=>w++[(s:Int)]
noncomputable def zaR (W:List (List Int)) (n:Nat):List (List Int):=W.flatMap λw=>zah w n
noncomputable def zQ (W:List (List Int)):List (List (List Int))->List (List Int)
 | []=>W
 | L::Ls=>zQ (zaR W L.length) Ls
noncomputable def ybt (Ls:List (List (List Int))):List (List Int):=zQ [[]] Ls
theorem qas:∀ (n:Nat) (lo:Nat),yc (lo:Int) n=(List.range' lo n).map λ(s:Nat)=>D.int (s:Int)
 | 0,_=>rfl
 | n+1,lo=>by
  have:=qas n (lo+1)
  rw [yc,List.range'_succ,List.map_cons,<-this];rfl
theorem qaR (n:Nat):yc 0 n=(List.range n).map λ(s:Nat)=>D.int (s:Int):=by
 rw [List.range_eq_range'];exact qas n 0
theorem jde {n:Nat} (h:n<=1000):rngD [.int (n:Int)]=some ((List.range n).map λ(s:Nat)=>D.int (s:Int)):=by
 simp only [rngD];rw [if_pos ⟨by omega,by omega,ye (by rw [wV];exact h)⟩,wV,qaR]
theorem ydT {a b:List Int} (h:a.length+b.length<=1000):q8 .Add (tI a) (tI b)=some (tI (a++b)):=by
 show (if (eI a).length+(eI b).length<=sizeLine then some (D.tup (eI a++eI b)) else none)=_;rw [if_pos (ye (by rw [qj,qj];exact h))];simp [tI,eI]
noncomputable def ybi:Eng.Code:=(.comp (.bin .Add (.var 1) (.tup (.cons (.var 0) .nil))) (.one 0) 1 [4] (.rng (.cons (.blt .len (.cons (.var 2) .nil)) .nil)) .none)
theorem zcr (C:Tab) {w:List Int} {L:List (List Int)} {ρ:En} (h4:ρ[4]?=some (some (tI w))) (h2:ρ[2]?=some (some (eL L))) (hw:w.length<=10) (hL:L.length<=10) :
  ev C ybi ρ=some (.lst ((zah w L.length).map tI)):=by
 refine yf (ycp (jg (x:=eL L) (by rw [ya7,h2];rfl) (by rw [eL,yk,wC])) (jde (by omega))) ?_;rw [zah,wJ];refine qd (List.range L.length) λs _=>?_
 have hb:ybn (.one 0) (.int (s:Int)) (qm 1 [4] ρ)=some [some (.int (s:Int)),some (tI w)]:=by
  show some (([none]++[(ρ[4]?).join]).set 0 (some (.int (s:Int))))=_;rw [h4];rfl
 unfold turn;rw [hb,wd];show ((ev C (.bin .Add (.var 1) (.tup (.cons (.var 0) .nil))) [some (.int (s:Int)),some (tI w)]).map some)=_;rw [jE (x:=tI w) (y:=tI [(s:Int)]) rfl (jx (xs:=[.int (s:Int)]) (yb rfl qg) (show 1<=1000 by decide)) (ydT (by show w.length+1<=1000;omega))];rfl
theorem qcr (W:List (List Int)) (n:Nat):(zaR W n).length=W.length*n:=by
 induction W with
 | nil=>simp [zaR]
 | cons w W ih =>
  rw [zaR,List.flatMap_cons,wU];rw [zaR] at ih;rw [ih];simp [zah,Nat.add_mul,Nat.add_comm]
theorem zb1 (w:List Int) (W:List (List Int)) (n:Nat):zaR (w::W) n=zah w n++zaR W n:=rfl
noncomputable def yaR:Stms:=(.cons (.ext 3 .pu ybi) .nil)
noncomputable def jaR:Stms:=(.cons (.set .ow (.one 3) (.lst .nil)) (.cons (.for (.one 4) (.data (.var 1)) yaR) (.frz 3 (.cons (.set .pu (.one 1) (.var 3)) .nil))))
noncomputable def yas:Def:=⟨5,1,(.cons (.set .pu (.one 1) (.lst (.cons (.tup .nil) .nil))) (.cons (.for (.one 2) (.data (.idx (.var 0) (.cst (.int 0)))) jaR) (.cons (.ret (.blt .tuple (.cons (.var 1) .nil))) .nil)))⟩
theorem jbi (C:Tab) (t x1:D) {L:List (List Int)} (hL:L.length<=10):∀ (W:List (List Int)) (A:List (List Int)) (y4:Sl),(∀ w∈W,w.length<=10)->A.length+W.length*L.length<900 ->
  ∃ y4',forL (λd ρ'=>(puT (.one 4) d ρ').bind λρ''=>exs C yaR ρ'') (W.map tI) [.pu t,.pu x1,.pu (eL L),.ow (A.map tI),y4]=some (.nx [.pu t,.pu x1,.pu (eL L),.ow ((A++zaR W L.length).map tI),y4'])
 | [],A,y4,_,_=>⟨y4,by rw [show zaR [] L.length=[] from rfl,List.append_nil];rfl⟩
 | w::W,A,y4,hw,hs=>by
  have hs':A.length+(W.length+1)*L.length<900:=hs;rw [Nat.add_mul,Nat.one_mul] at hs';obtain ⟨y4',ih⟩:=jbi C t x1 hL W (A++zah w L.length) (.pu (tI w)) (λv hv=>hw v (by simp [hv])) (by simp [zah];omega);refine ⟨y4',?_⟩
  have t1:(puT (.one 4) (tI w) [Sl.pu t,.pu x1,.pu (eL L),.ow (A.map tI),y4]).bind (λρ''=>exs C yaR ρ'')=some (.nx [.pu t,.pu x1,.pu (eL L),.ow ((A++zah w L.length).map tI),.pu (tI w)]):=by
   rw [show puT (.one 4) (tI w) [Sl.pu t,.pu x1,.pu (eL L),.ow (A.map tI),y4]=some [Sl.pu t,.pu x1,.pu (eL L),.ow (A.map tI),.pu (tI w)] from rfl,wd];unfold yaR;rw [exs,ex,zcr C (w:=w) (L:=L) rfl rfl (hw w (by simp)) hL,wd];unfold qb9;show (if (A.map tI).length+((zah w L.length).map tI).length<sizeLine then some (Fl.nx [Sl.pu t,.pu x1,.pu (eL L),.ow (A.map tI++(zah w L.length).map tI),.pu (tI w)]) else none:Option Fl).bind _=_;rw [if_pos (wL (m:=900) (by simp [zah];omega) (ye (by decide)))];rw [List.map_append];rfl
  rw [List.map_cons,forL,t1,wd];rw [List.append_assoc,<-zb1] at ih;exact ih
theorem zbj (C:Tab) (t:D):∀ (Ls:List (List (List Int))) (W:List (List Int)) (k:Nat) (y2 y3 y4:Sl),(∀ L∈Ls,L.length<=4)->k+Ls.length<=3->W.length<=4^k->(∀ w∈W,w.length=k) ->
  ∃ y2' y3' y4',forL (λd ρ'=>(puT (.one 2) d ρ').bind λρ''=>exs C jaR ρ'') (Ls.map eL) [.pu t,.pu (.lst (W.map tI)),y2,y3,y4]=some (.nx [.pu t,.pu (.lst ((zQ W Ls).map tI)),y2',y3',y4'])
 | [],W,k,y2,y3,y4,_,_,_,_=>⟨y2,y3,y4,rfl⟩
 | L::Ls,W,k,y2,y3,y4,hL,hk,hW,hl=>by
  have h4:=hL L (by simp);have hk':k+(Ls.length+1)<=3:=hk;have b0:4^k<=4^2:=Nat.pow_le_pow_right (by decide) (by omega);have b1:W.length*L.length<=4^2*4:=Nat.mul_le_mul (by omega) h4;obtain ⟨y4',e⟩:=jbi C t (.lst (W.map tI)) (L:=L) (by omega) W [] y4 (λw hw=>by rw [hl w hw];omega) (by simp;omega)
  have hW':(zaR W L.length).length<=4^(k+1):=by
   rw [qcr,Nat.pow_succ];exact Nat.mul_le_mul hW h4
  have hl':∀ w∈zaR W L.length,w.length=k+1:=λw hw=>by
   obtain ⟨v,hv,h2⟩:=List.mem_flatMap.mp hw;obtain ⟨s,_,rfl⟩:=wG.mp h2;simp [hl v hv]
  obtain ⟨z2,z3,z4,ih⟩:=zbj C t Ls (zaR W L.length) (k+1) (.pu (eL L)) (.pu (.lst ((zaR W L.length).map tI))) y4' (λL h=>hL L (by simp [h])) (by omega) hW' hl';refine ⟨z2,z3,z4,?_⟩
  have t1:(puT (.one 2) (eL L) [Sl.pu t,.pu (.lst (W.map tI)),y2,y3,y4]).bind (λρ''=>exs C jaR ρ'')=some (.nx [.pu t,.pu (.lst ((zaR W L.length).map tI)),.pu (eL L),.pu (.lst ((zaR W L.length).map tI)),y4']):=by
   show exs C jaR [.pu t,.pu (.lst (W.map tI)),.pu (eL L),y3,y4]=_;unfold jaR;rw [exs,ex];rw [show ev C (.lst .nil) (vA [.pu t,.pu (.lst (W.map tI)),.pu (eL L),y3,y4])=some (.lst []) from zcq qg (Nat.zero_le _),wd];show exs C (.cons (.for (.one 4) (.data (.var 1)) yaR) _) [.pu t,.pu (.lst (W.map tI)),.pu (eL L),.ow [],y4]=_;refine jD rfl e ?_;rw [exs];rfl
  rw [List.map_cons,forL,t1,wd];exact ih
theorem zaS (C:Tab) {Ls:List (List (List Int))} {rows:List (List Int)} {secs:List Int} (T:TabOk Ls rows secs):zB C yas [eT Ls rows secs]=some (.tup ((ybt Ls).map tI)):=by
 refine qc rfl ?_;refine yg (d:=.lst (([[]]:List (List Int)).map tI)) (zcq (xs:=[.tup []]) (yb (jx qg (Nat.zero_le _)) qg) (show 1<=1000 by decide)) rfl ?_;obtain ⟨y2,y3,y4,h⟩:=zbj C (eT Ls rows secs) Ls [[]] 0 .un .un .un (λL hL=>by obtain ⟨m,l⟩:=T.lad L hL;exact l.len) (by have:=T.c3;omega) (by decide) (by simp);refine jD (jf (jh rfl rfl at0) rfl) h ?_;exact qe (jg rfl rfl)
theorem inB_snoc {w bs:List Int} {x b:Int}:InB (w++[x]) (bs++[b])↔InB w bs/\0<=x/\x<b:=by
 induction w generalizing bs with
 | nil =>
  cases bs with
  | nil=>simp [InB]
  | cons c bs =>
   constructor
   ·rintro ⟨h,_⟩;simp at h
   ·rintro ⟨⟨h,_⟩,_⟩;simp at h
 | cons y w ih =>
  cases bs with
  | nil =>
   constructor
   ·rintro ⟨h,_⟩;simp at h
   ·rintro ⟨⟨h,_⟩,_⟩;simp at h
  | cons c bs =>
   rw [List.cons_append,List.cons_append,InB_cons,InB_cons,ih,and_assoc,and_assoc,and_assoc]
theorem jY:∀ (Ls:List (List (List Int))) (W:List (List Int)) (bs:List Int),(∀ w,w∈W↔InB w bs)->∀ w,w∈zQ W Ls↔InB w (bs++Ls.map λL=>(L.length:Int))
 | [],W,bs,h,w=>by simpa [zQ] using h w
 | L::Ls,W,bs,h,w=>by
  have h':∀ w,w∈zaR W L.length↔InB w (bs++[(L.length:Int)]):=λw=>by
   constructor
   ·intro hw;obtain ⟨v,hv,h2⟩:=List.mem_flatMap.mp hw;obtain ⟨s,hs,rfl⟩:=wG.mp h2
    have:=vc.mp hs
    exact inB_snoc.mpr ⟨(h v).mp hv,by omega,by omega⟩
   ·intro hw;have hne:w≠[]:=λz=>by have:=hw.1;rw [z] at this;simp at this
    rw [<-List.dropLast_concat_getLast hne] at hw ⊢;obtain ⟨h1,h2,h3⟩:=inB_snoc.mp hw;refine List.mem_flatMap.mpr ⟨_,(h _).mpr h1,wG.mpr ⟨(w.getLast hne).toNat,vc.mpr ((Int.toNat_lt h2).mpr h3),?_⟩⟩;rw [Int.toNat_of_nonneg h2]
  have:=jY Ls (zaR W L.length) (bs++[(L.length:Int)]) h' w
  rw [List.append_assoc] at this;exact this
theorem mem_waysL {Ls:List (List (List Int))} {w:List Int}:w∈ybt Ls↔zH Ls w:=by
 have:=jY Ls [[]] [] (λw=>by
  constructor
  ·intro h;have:w=[]:=by simpa using h
   subst this;exact ⟨rfl,by simp⟩
  ·intro h;have:=h.1;simpa using this) w
 simpa [ybt,zH] using this
end M
end
section
namespace DL
def By (f:Nat->Int) (rows:List Nat) (left:List (List Int)) (pl:Nat->List Nat):Prop :=
 ∀ p l,left[p]?=some l->∀ x,rows.countP (λr=>decide (p∈pl r/\f r=x))<=l.count x
noncomputable def after (left:List (List Int)) (ps:List Nat) (s:Int):List (List Int):=left.mapIdx λp l=>if p∈ps then l.erase s else l
theorem yJ {P:Nat->Bool} {row:Nat}:∀ {rows:List Nat},rows.Nodup->row∈rows->rows.countP P=(rows.filter λr=>r != row).countP P+if P row then 1 else 0
 | [],_,h=>by cases h
 | a::r,n,h=>by
  rw [List.nodup_cons] at n;rcases wu.mp h with e | e
  ·subst e
   have:(r.filter λx=>x != row)=r:=List.filter_eq_self.mpr λx hx=>by simp;exact λz=>n.1 (z▸hx)
   rw [List.filter_cons_of_neg (by simp),this,List.countP_cons]
  ·have ne:a≠row:=λz=>n.1 (z▸e)
   rw [List.filter_cons_of_pos (by simpa using ne),List.countP_cons,List.countP_cons,yJ n.2 e];omega
theorem qo {P Q:Nat->Bool} {rows:List Nat} (h:∀ r∈rows,P r=Q r):rows.countP P=rows.countP Q:=by
 induction rows with
 | nil=>rfl
 | cons a r ih=>rw [List.countP_cons,List.countP_cons,ih λx hx=>h x (wH _ hx),h a wN]
theorem qb1 {f:Nat->Int} {rows:List Nat} {left:List (List Int)} {pl:Nat->List Nat} {row:Nat} (n:rows.Nodup) (hr:row∈rows) (h:By f rows left pl) :
  (∀ p∈pl row,∀ l,left[p]?=some l->f row∈l)/\By f (rows.filter λr=>r != row) (after left (pl row) (f row)) pl:=by
 refine ⟨λp hp l hl=>?_,λp l hl x=>?_⟩
 ·have:=h p l hl (f row);rw [yJ n hr,if_pos (by simp [hp])] at this;exact List.count_pos_iff.mp (by omega)
 ·unfold after at hl;rw [List.getElem?_mapIdx] at hl;obtain ⟨m,hm,e⟩:=Option.map_eq_some_iff.mp hl
  have:=h p m hm x
  rw [yJ n hr] at this
  by_cases c:p∈pl row
  ·rw [if_pos c] at e;subst e;rw [List.count_erase]
   by_cases d:f row=x
   ·rw [if_pos (by simp [c,d])] at this;rw [if_pos (by simpa using d)];omega
   ·rw [if_neg (by simp [d])] at this;rw [if_neg (by simpa using d)];omega
  ·rw [if_neg c] at e;subst e;omega
theorem zdf {f:Nat->Int} {rows:List Nat} {left:List (List Int)} {pl:Nat->List Nat} {row:Nat} {s:Int} (n:rows.Nodup) (hr:row∈rows) (hs:∀ p∈pl row,∀ l,left[p]?=some l->s∈l)
  (h:By f (rows.filter λr=>r != row) (after left (pl row) s) pl):By (λr=>if r=row then s else f r) rows left pl:=λp l hl x=>by
 rw [yJ n hr]
 have e:((rows.filter λr=>r != row).countP λr=>decide (p∈pl r/\(if r=row then s else f r)=x))=(rows.filter λr=>r != row).countP λr=>decide (p∈pl r/\f r=x):=qo λr hr=>by
  have:r≠row:=by simpa using (List.mem_filter.mp hr).2
  rw [if_neg this]
 rw [e]
 have hl':(after left (pl row) s)[p]?=some (if p∈pl row then l.erase s else l):=by
  unfold after;rw [List.getElem?_mapIdx,hl];rfl
 have:=h p _ hl' x
 by_cases c:p∈pl row
 ·rw [if_pos c,List.count_erase] at this;have hp:=List.count_pos_iff.mpr (hs p c l hl)
  by_cases d:s=x
  ·subst d;rw [if_pos (by simp)] at this;rw [if_pos (by simp [c])];omega
  ·rw [if_neg (by simpa using d)] at this;rw [if_neg (by simp [d])];omega
 ·rw [if_neg c] at this;rw [if_neg (by simp [c])];exact this
def jd1 (left:List (List Int)) (ps:List Nat) (s:Int):Prop:=∀ p∈ps,∀ l,left[p]?=some l->s∈l
theorem jaC {rows:List Nat} {left:List (List Int)} {pl:Nat->List Nat} {row:Nat} {s:Int} (n:rows.Nodup) (hr:row∈rows) :
  (∃ f,f row=s/\By f rows left pl)↔jd1 left (pl row) s/\∃ f,By f (rows.filter λr=>r != row) (after left (pl row) s) pl:=by
 constructor
 ·rintro ⟨f,rfl,h⟩;exact ⟨(qb1 n hr h).1,f,(qb1 n hr h).2⟩
 ·rintro ⟨h1,f,h2⟩;exact ⟨_,if_pos rfl,zdf n hr h1 h2⟩
theorem qdf {rows:List Nat} {left:List (List Int)} {pl:Nat->List Nat} {row:Nat} (n:rows.Nodup) (hr:row∈rows) :
  (∃ f,By f rows left pl)↔∃ s,jd1 left (pl row) s/\∃ f,By f (rows.filter λr=>r != row) (after left (pl row) s) pl:=by
 constructor
 ·rintro ⟨f,h⟩;exact ⟨f row,(jaC n hr).mp ⟨f,rfl,h⟩⟩
 ·rintro ⟨s,h⟩;obtain ⟨f,_,h⟩:=(jaC n hr).mpr h;exact ⟨f,h⟩
theorem jdT {f:Nat->Int} {left:List (List Int)} {pl:Nat->List Nat}:By f [] left pl:=λ_ _ _ _=>Nat.zero_le _
def Fits (sec f:Nat->Int) (told:List (List Nat)):Prop:=∀ c∈told,∀ x,(c.map f).count x<=(c.map sec).count x
theorem count_map {f:Nat->Int} {x:Int} (c:List Nat):(c.map f).count x=c.countP λr=>decide (f r=x):=by
 rw [List.count,List.countP_map];exact qo λr _=>by rw [vd];simp
theorem jbt {P:Nat->Bool} {c rows:List Nat} (hc:c.Nodup) (hn:rows.Nodup) (h:∀ r∈c,r∈rows):(rows.countP λr=>decide (r∈c)&&P r)=c.countP P:=by
 have pm:(rows.filter λr=>decide (r∈c)).Perm c:=(List.perm_ext_iff_of_nodup (hn.filter _) hc).mpr λr=>by
  rw [List.mem_filter];exact ⟨λz=>by simpa using z.2,λz=>⟨h r z,by simpa using z⟩⟩
 rw [<-pm.countP_eq,List.countP_filter];exact qo λr _=>Bool.and_comm _ _
theorem ydf {sec f:Nat->Int} {told:List (List Nat)} {rows:List Nat} {g:List Nat->List Int} {pl:Nat->List Nat} (hn:rows.Nodup) (hc:∀ c∈told,c.Nodup/\∀ r∈c,r∈rows)
  (hl:∀ c∈told,(g c).Perm (c.map sec)) (hp:∀ r∈rows,∀ (p:Nat) (c:List Nat),told[p]?=some c->(p∈pl r↔r∈c)):By f rows (told.map g) pl↔Fits sec f told:=by
 have key:∀ (p:Nat) (c:List Nat),told[p]?=some c->∀ x,rows.countP (λr=>decide (p∈pl r/\f r=x))=(c.map f).count x:=λp c e x=>by
  have hm:=hc c (wR e);rw [count_map,<-jbt hm.1 hn hm.2];exact qo λr hr=>by rw [vd];simp [hp r hr p c e]
 constructor
 ·intro h c hcm x;obtain ⟨p,hp'⟩:=List.mem_iff_getElem?.mp hcm;rw [<-key p c hp' x,<-(hl c hcm).count_eq x];exact h p _ (by rw [wx,hp'];rfl) x
 ·intro h p l e x;rw [wx] at e;obtain ⟨c,ht,rfl⟩:=Option.map_eq_some_iff.mp e;have hcm:=wR ht;rw [key p c ht x,(hl c hcm).count_eq x];exact h c hcm x
def zcH (S:List (List Int)) (sec f:Nat->Int):Prop:=∀ k x,(List.range S.length).countP (λi=>decide (S.getD i []=k/\f i=x))<=(List.range S.length).countP (λi=>decide (S.getD i []=k/\sec i=x))
theorem qaS {P:Nat->Bool} {l:List Nat} (h:∀ i∈l,P i=false):l.countP P=0:=List.countP_eq_zero.mpr λi hi=>by rw [h i hi];exact wz
noncomputable def sw (a b i:Nat):Nat:=if i=a then b else if i=b then a else i
theorem ycr (a b i:Nat):sw a b (sw a b i)=i:=by unfold sw;split<;>(try split)<;>(try split)<;>simp_all
end DL
end
section
namespace DL
open PySem Eng
noncomputable def univ (pl:Nat->List Nat):List Nat->List (List Int)->List (List Nat×List (List Int))
 | [],left=>[([],left)]
 | r::rs,left=>(univ pl rs left).map (λq=>(r::q.1,q.2))++([0,1,2,3]:List Int).flatMap λs=>univ pl rs (after left (pl r) s)
theorem qbj (pl:Nat->List Nat):∀ (rs:List Nat) (left:List (List Int)),(univ pl rs left).length=5^rs.length
 | [],_=>rfl
 | r::rs,left=>by
  simp [univ,qbj pl rs];omega
theorem zbu (left:List (List Int)) (ps qs:List Nat) (s t:Int):after (after left ps s) qs t=after (after left qs t) ps s:=by
 apply List.ext_getElem?;intro p;unfold after;simp only [List.getElem?_mapIdx,Option.map_map];cases left[p]? with
 | none=>rfl
 | some l =>
  simp only [Option.map_some,Function.comp]
  by_cases h1:p∈ps<;>by_cases h2:p∈qs<;>simp [h1,h2,List.erase_comm s t]
theorem zV {pl:Nat->List Nat} (ps:List Nat) (s:Int):∀ {rs:List Nat} {left:List (List Int)} {q:List Nat×List (List Int)},q∈univ pl rs left->(q.1,after q.2 ps s)∈univ pl rs (after left ps s)
 | [],left,q,h=>by
  have:q=([],left):=by simpa [univ] using h
  subst this;simp [univ]
 | r::rs,left,q,h=>by
  rw [univ,List.mem_append] at h ⊢;rcases h with h | h
  ·obtain ⟨u,hu,rfl⟩:=wG.mp h;exact .inl (wG.mpr ⟨_,zV ps s hu,rfl⟩)
  ·obtain ⟨t,ht,hu⟩:=List.mem_flatMap.mp h;refine .inr (List.mem_flatMap.mpr ⟨t,ht,?_⟩);rw [zbu];exact zV ps s hu
theorem zaD {pl:Nat->List Nat}:∀ {rs:List Nat} {left:List (List Int)} {q:List Nat×List (List Int)},q∈univ pl rs left->∀ r∈q.1,r∈rs
 | [],left,q,h,r,hr=>by
  have:q=([],left):=by simpa [univ] using h
  subst this;exact hr
 | a::rs,left,q,h,r,hr=>by
  rw [univ,List.mem_append] at h;rcases h with h | h
  ·obtain ⟨u,hu,rfl⟩:=wG.mp h;rcases wu.mp hr with e | e
   ·simp [e]
   ·exact wH _ (zaD hu r e)
  ·obtain ⟨t,ht,hu⟩:=List.mem_flatMap.mp h;exact wH _ (zaD hu r hr)
theorem qah {pl:Nat->List Nat} {row:Nat} {s:Int} (hs:s∈([0,1,2,3]:List Int)):∀ {rs:List Nat} {left:List (List Int)} {q:List Nat×List (List Int)},rs.Nodup->q∈univ pl rs left->row∈q.1->(q.1.filter λr=>r != row,after q.2 (pl row) s)∈univ pl rs left
 | [],left,q,_,h,hr=>by
  have:q=([],left):=by simpa [univ] using h
  subst this;cases hr
 | a::rs,left,q,n,h,hr=>by
  rw [List.nodup_cons] at n;rw [univ,List.mem_append] at h ⊢;rcases h with h | h
  ·obtain ⟨u,hu,rfl⟩:=wG.mp h
   by_cases e:row=a
   ·subst e;refine .inr (List.mem_flatMap.mpr ⟨s,hs,?_⟩)
    have:((row::u.1).filter λr=>r != row)=u.1:=by
     rw [List.filter_cons_of_neg (by simp)]
     exact List.filter_eq_self.mpr λx hx=>by
      have:=zaD hu x hx
      simp;exact λz=>n.1 (z▸this)
    rw [this];exact zV _ s hu
   ·have hr':row∈u.1:=(wu.mp hr).resolve_left e;refine .inl (wG.mpr ⟨_,qah hs n.2 hu hr',?_⟩);rw [List.filter_cons_of_pos (by simpa using λz:a=row=>e z.symm)]
  ·obtain ⟨t,ht,hu⟩:=List.mem_flatMap.mp h;exact .inr (List.mem_flatMap.mpr ⟨t,ht,qah hs n.2 hu hr⟩)
theorem yaS (pl:Nat->List Nat):∀ (rs:List Nat) (left:List (List Int)),(rs,left)∈univ pl rs left
 | [],left=>by simp [univ]
 | r::rs,left=>by
  rw [univ,List.mem_append];exact .inl (wG.mpr ⟨_,yaS pl rs left,rfl⟩)
noncomputable def nI (ns:List Nat):List Int:=ns.map λ(n:Nat)=>(n:Int)
noncomputable def jaS:List D->List Nat
 | .int i::r=>i.toNat::jaS r
 | _=>[]
noncomputable def zdU:List D->List (List Nat)
 | .lst ys::r=>jaS ys::zdU r
 | _=>[]
noncomputable def plD:D->List (List Nat)
 | .tup [.lst xs,_]=>zdU xs
 | _=>[]
noncomputable def lfD:D->List (List Int)
 | .tup [_,.tup ys]=>(qO ys).getD []
 | _=>[]
def Bad (pl:List (List Nat)) (left0:List (List Int)) (a:List Int) (b:List (List Int)):Prop:=∃ q∈univ (λr=>pl.getD r []) (List.range pl.length) left0,a=nI q.1/\b=q.2/\¬ ∃ f,By f q.1 q.2 λr=>pl.getD r []
open Classical in
noncomputable def zaW (pl:List (List Nat)) (left0:List (List Int)):MemP :=
 if h:pl.length<=8 then ⟨λa b=>decide (Bad pl left0 a b),(univ (λr=>pl.getD r []) (List.range pl.length) left0).map λq=>(nI q.1,q.2),by
  rw [wC,qbj,List.length_range]
  exact wQ (Nat.pow_le_pow_right (by decide) h) (by decide),λa b z=>by
  obtain ⟨q,hq,rfl,rfl,_⟩:=ve z
  exact wG.mpr ⟨q,hq,rfl⟩⟩
 else ⟨λ_ _=>false,[],Nat.zero_le _,λ_ _ z=>by cases z⟩
noncomputable def yep (d:D):MemP:=zaW (plD d) (lfD d)
end DL
end
section
open PySem Eng LG M DL
namespace Q
theorem gather_film {f:D->Option (Option D)} {α:Type} {g:α->D} {p:α->Bool}:∀ (xs:List α),(∀ x∈xs,f (g x)=some (if p x then some (g x) else none))->gather f (xs.map g)=some ((xs.filter p).map g)
 | [],_=>rfl
 | x::xs,h=>by
  rw [List.map_cons,gather,h x (by simp),wd,gather_film xs λy hy=>h y (by simp [hy])];cases e:p x<;>simp [e]
theorem turn_if {C:Tab} {e c:Eng.Code} {t:Tgt} {n:Nat} {keep:List Nat} {ρ ρ':En} {d x:D} {k:Bool} (hb:ybn t d (qm n keep ρ)=some ρ') (hc:ev C c ρ'=some (.bl k)) (hv:ev C e ρ'=some x):turn C e t n keep (.some c) ρ d=some (if k then some x else none):=by
 unfold turn;rw [hb,wd,za8,hc,wd,show truO (.bl k)=some k from rfl,wd,hv];cases k<;>rfl
theorem turn_ev {C:Tab} {e:Eng.Code} {t:Tgt} {n:Nat} {keep:List Nat} {ρ ρ':En} {d x:D} (hb:ybn t d (qm n keep ρ)=some ρ') (hv:ev C e ρ'=some x):turn C e t n keep .none ρ d=some (some x):=by
 unfold turn;rw [hb,wd,zav,wd,if_pos rfl,hv];rfl
theorem qcH (x:Int):∀ d:List Int,inD (.int x) (eI d)=decide (x∈d)
 | []=>by simp [eI,inD]
 | y::d=>by
  show (eqD (.int y) (.int x)||inD (.int x) (eI d))=_;rw [qcH x d,show eqD (.int y) (.int x)=(y==x) from rfl]
  by_cases e:y=x
  ·subst e;simp
  ·have:¬ x=y:=λz=>e z.symm
   simp [e,this]
theorem qdU (x:Int) (d:List Int):zO .In (.int x) (tI d)=some (decide (x∈d)):=by
 show (if jA (.int x) (tI d) then some (inD (.int x) (eI d)) else none)=_;rw [if_pos (zar rfl (zY d) (qbh d)),qcH]
noncomputable def ePl (pl:List (List Nat)):D:=.lst (pl.map λps=>.lst (eI (nI ps)))
theorem zaT:∀ ns:List Nat,jaS (eI (nI ns))=ns
 | []=>rfl
 | n::r=>by show (n:Int).toNat::jaS (eI (nI r))=_;rw [zaT r];rfl
theorem yb1:∀ pl:List (List Nat),zdU (pl.map λps=>.lst (eI (nI ps)))=pl
 | []=>rfl
 | p::pl=>by show jaS (eI (nI p))::zdU _=_;rw [zaT,yb1 pl]
theorem qQ:∀ L:List (List Int),qO (L.map tI)=some L
 | []=>rfl
 | a::L=>by
  show (intsOf (eI a)).bind (λns=>(qO (L.map tI)).map (ns::·))=_;rw [jn,qQ L];rfl
theorem jcr (pl:List (List Nat)) (left:List (List Int)):yep (.tup [ePl pl,eL left])=zaW pl left:=by
 show zaW (zdU (pl.map λps=>.lst (eI (nI ps)))) ((qO (left.map tI)).getD [])=_;rw [yb1,qQ];rfl
theorem ycH:∀ {a b:List Nat},nI a=nI b->a=b
 | [],[],_=>rfl
 | [],_::_,h=>by cases h
 | _::_,[],h=>by cases h
 | x::a,y::b,h=>by
  have h':(x:Int)::nI a=(y:Int)::nI b:=h;injection h' with h1 h2
  rw [ycH h2,show x=y by omega]
theorem jcH {α:Type} {xs:List α} {i:Nat} {x:α} (h:xs[i]?=some x):atI xs (i:Int)=some x:=by
 have hi:=(wq.mp h).1;unfold atI ixN;rw [if_pos (by omega),if_pos (by omega)];exact h
theorem qV {xs:List D} {i:Nat} {x:D} (h:xs[i]?=some x):jaE (.tup xs) (.int (i:Int))=some x:=jcH h
theorem za1 {xs:List D} {i:Nat} {x:D} (h:xs[i]?=some x):jaE (.lst xs) (.int (i:Int))=some x:=jcH h
theorem ybj (s:Int):∀ {xs:List Int},s∈xs->Eng.idxOf (.int s) (eI xs)=some (xs.idxOf s)
 | [],h=>by cases h
 | y::r,h=>by
  show (if eqD (.int y) (.int s) then some 0 else (Eng.idxOf (.int s) (eI r)).map (·+1))=_;rw [show eqD (.int y) (.int s)=(y==s) from rfl,List.idxOf_cons]
  by_cases e:y=s
  ·subst e;simp
  ·have e':(y==s)=false:=by simpa using e
   rw [e',ybj s ((wu.mp h).resolve_left λz=>e z.symm)];rfl
theorem zcI {xs:List D} {i:Nat} (h:i<=xs.length):jdk (.tup xs) none (some (i:Int))=some (.tup (xs.take i)):=by
 show some (D.tup (cutD xs none (some (i:Int))))=_;unfold cutD sIx;simp only;rw [if_neg (by omega),wV,Nat.min_eq_left h];rfl
theorem qcI {xs:List D} {i:Nat} (h:i<=xs.length):jdk (.tup xs) (some (i:Int)) none=some (.tup (xs.drop i)):=by
 show some (D.tup (cutD xs (some (i:Int)) none))=_;unfold cutD sIx;simp only;rw [if_neg (by omega),wV,Nat.min_eq_left h,List.take_of_length_le (by simp)]
noncomputable def yQ:Def:=⟨3,2,(.cons (.set .pu (.one 2) (.blt .index (.cons (.var 0) (.cons (.var 1) .nil)))) (.cons (.ret (.bin .Add (.slc (.var 0) .none (.some (.var 2))) (.slc (.var 0) (.some (.bin .Add (.var 2) (.cst (.int 1)))) .none))) .nil))⟩
theorem qa1 (C:Tab) {xs:List Int} {s:Int} (h:s∈xs) (hl:xs.length<=900):zB C yQ [tI xs,.int s]=some (tI (xs.erase s)):=by
 have hi:=List.idxOf_lt_length_iff.mpr h
 have hx:qy .index [tI xs,.int s]=some (.int (xs.idxOf s:Nat)):=by
  show (if jA (.int s) (tI xs) then (Eng.idxOf (.int s) (eI xs)).map λ(i:Nat)=>D.int (i:Int) else none)=_;rw [if_pos (zar rfl (zY xs) (qbh xs)),ybj s h];rfl
 have hle:(eI xs).length=xs.length:=by simp [eI]
 refine qc rfl ?_;refine yg (yb0 rfl rfl hx) rfl ?_;refine qe (jE (qcq rfl rfl (yaB rfl) (zcI (by omega))) (qcq rfl (yaB (i:=((xs.idxOf s+1:Nat):Int)) (jE rfl rfl rfl)) rfl (qcI (by omega))) ?_);show (if _<=sizeLine then some (D.tup _) else none)=_;rw [if_pos (ye (by simp;omega)),List.erase_eq_eraseIdx_of_idxOf (l:=xs) (a:=s) rfl,List.eraseIdx_eq_take_drop_succ];unfold tI eI;rw [List.map_append,List.map_take,List.map_drop]
theorem jb1 {left:List (List Int)} {ps:List Nat} {s:Int} {p:Nat} {l:List Int} (h:left[p]?=some l):(after left ps s).set p (l.erase s)=after left (ps++[p]) s:=by
 apply List.ext_getElem?;intro q;have hp:=(wq.mp h).1;unfold after;rw [List.getElem?_set,List.length_mapIdx,List.getElem?_mapIdx,List.getElem?_mapIdx]
 by_cases e:p=q
 ·subst e;rw [if_pos rfl,if_pos hp,h]
  simp
 ·rw [if_neg e];cases left[q]? with
  | none=>rfl
  | some m =>
   have:(q∈ps++[p])↔q∈ps:=by simp;intro z;exact absurd z.symm e
   simp [this]
noncomputable def zcs (i15:Nat):Stms:=(.cons (.put 3 (.var 4) (.call i15 (.cons (.idx (.var 0) (.var 4)) (.cons (.var 2) .nil)))) .nil)
noncomputable def zZ (i15:Nat):Def:=⟨5,3,(.cons (.set .ow (.one 3) (.blt .list (.cons (.var 0) .nil))) (.cons (.for (.one 4) (.data (.var 1)) (zcs i15)) (.cons (.ret (.blt .tuple (.cons (.var 3) .nil))) .nil)))⟩
theorem qaT {C:Tab} {σ:List Sl} {i j:Nat} {k e:Eng.Code} {r:Stms} {d:D} {ds:List D} {v:Option Fl} (h:ev C e (vP σ)=some d) (h0:ev C k (vP σ)=some (.int j)) (h1:σ[i]?=some (.ow ds)) (hl:j<ds.length) (h2:exs C r (σ.set i (.ow (ds.set j d)))=v):exs C (.cons (.put i k e) r) σ=v:=by
 have e1:ex C (.put i k e) σ=some (.nx (σ.set i (.ow (ds.set j d)))):=by
  show (ev C e (vP σ)).bind (λd=>(ev C k (vP σ)).bind λj=>jdm i j d σ)=_;rw [h,wd,h0,wd];unfold jdm;rw [h1];show (if _ then some (Fl.nx (σ.set i (.ow (ds.set ((j:Int)).toNat d)))) else none)=_;rw [if_pos (by omega),wV]
 show (ex C (.put i k e) σ).bind _=_;rw [e1];exact h2
theorem zb2 (C:Tab) {i15:Nat} {left:List (List Int)} {s:Int} (h15:∀ l∈left,s∈l->C i15 [tI l,.int s]=some (tI (l.erase s))) (x1:D):∀ (qs ps:List Nat) (y4:Sl),(∀ p∈qs,∀ l,left[p]?=some l->s∈l)->(∀ p∈qs,p<left.length) ->
  ∃ y4',forL (λd ρ'=>(puT (.one 4) d ρ').bind λρ''=>exs C (zcs i15) ρ'') (eI (nI qs)) [.pu (eL left),.pu x1,.pu (.int s),.ow ((after left ps s).map tI),y4]=some (.nx [.pu (eL left),.pu x1,.pu (.int s),.ow ((after left (ps++qs) s).map tI),y4'])
 | [],ps,y4,_,_=>⟨y4,by rw [List.append_nil];rfl⟩
 | p::qs,ps,y4,h1,h2=>by
  obtain ⟨l,hl⟩:∃ l,left[p]?=some l:=⟨left[p]'(h2 p (by simp)),by simp [h2 p (by simp)]⟩;obtain ⟨y4',ih⟩:=zb2 C h15 x1 qs (ps++[p]) (.pu (.int p)) (λq hq=>h1 q (by simp [hq])) (λq hq=>h2 q (by simp [hq]));refine ⟨y4',?_⟩;have hm:=wR hl;have hs:=h1 p (by simp) l hl
  have step:exs C (zcs i15) [.pu (eL left),.pu x1,.pu (.int s),.ow ((after left ps s).map tI),.pu (.int p)]=some (.nx [.pu (eL left),.pu x1,.pu (.int s),.ow ((after left (ps++[p]) s).map tI),.pu (.int p)]):=by
   refine qaT (d:=tI (l.erase s)) (ds:=(after left ps s).map tI) (j:=p) (zc (jh rfl rfl (qV (by rw [wx,hl];rfl))) rfl (h15 l hm hs)) rfl rfl (by simp [after];exact h2 p (by simp)) ?_;rw [<-jb1 hl,List.map_set];rfl
  show (exs C (zcs i15) [.pu (eL left),.pu x1,.pu (.int s),.ow ((after left ps s).map tI),.pu (.int p)]).bind _=_;rw [step,wd];show forL _ (eI (nI qs)) _=_;rw [ih,List.append_assoc];rfl
theorem qb2 (left:List (List Int)) (s:Int):after left [] s=left:=by
 unfold after;apply List.ext_getElem?;intro q;rw [List.getElem?_mapIdx];cases left[q]?<;>simp
theorem yak (C:Tab) {i15:Nat} {left:List (List Int)} {s:Int} {ps:List Nat} (h15:∀ l∈left,s∈l->C i15 [tI l,.int s]=some (tI (l.erase s))) (h1:∀ p∈ps,∀ l,left[p]?=some l->s∈l) (h2:∀ p∈ps,p<left.length) :
  zB C (zZ i15) [eL left,.lst (eI (nI ps)),.int s]=some (eL (after left ps s)):=by
 obtain ⟨y4,hf⟩:=zb2 C h15 (.lst (eI (nI ps))) ps [] .un h1 h2;rw [qb2,List.nil_append] at hf;refine qc rfl ?_;refine Eng.qaj (ds:=left.map tI) (jg (x:=eL left) rfl rfl) (qaB left) ?_;refine jD (jf rfl rfl) hf ?_;exact qe (jg rfl rfl)
noncomputable def zN (left:List (List Int)) (ps:List Nat):List Int:=(sortI (jat (left.getD (ps.headD 0) []))).filter λs=>ps.all λp=>decide (s∈left.getD p [])
noncomputable def ycI:Def:=⟨3,2,(.cons (.set .pu (.one 2) (.idx (.var 0) (.idx (.var 1) (.cst (.int 0))))) (.cons (.ret (.comp (.var 0) (.one 0) 1 [1,0] (.data (.blt .sortedSet (.cons (.var 2) .nil))) (.some (.blt .all (.cons (.comp (.cmp .In (.var 1) (.idx (.var 2) (.var 0))) (.one 0) 1 [0,2] (.data (.var 1)) .none) .nil))))) .nil))⟩
theorem qcs (C:Tab) {left:List (List Int)} {ps:List Nat} (h0:ps≠[]) (h2:∀ p∈ps,p<left.length) (hs:∀ l∈left,qW l=true):zB C ycI [eL left,.lst (eI (nI ps))]=some (.lst (eI (zN left ps))):=by
 obtain ⟨p0,qs,rfl⟩:∃ p0 qs,ps=p0::qs:=by cases ps with | nil=>exact absurd rfl h0 | cons a b=>exact ⟨a,b,rfl⟩
 have at':∀ p∈p0::qs,left[p]?=some (left.getD p []):=λp hp=>by simp [wO,h2 p hp]
 have a0:=at' p0 (by simp);have sm:=hs _ (wR a0)
 have hb:qy .sortedSet [tI (left.getD p0 [])]=some (.lst (eI (sortI (jat (left.getD p0 []))))):=by
  show (intsOf (eI (left.getD p0 []))).bind _=_;rw [jn,wd,if_pos sm];rfl
 refine qc rfl ?_;refine yg (d:=tI (left.getD p0 [])) (jh rfl (jh rfl rfl (za1 (i:=0) rfl)) (qV (i:=p0) (by rw [wx,a0];rfl))) rfl ?_;refine qe (yf (jf (jg rfl hb) rfl) (gather_film (g:=D.int) _ λs _=>?_));refine turn_if (ρ':=[some (.int s),some (.lst (eI (nI (p0::qs)))),some (eL left)]) rfl ?_ rfl;refine jg (x:=.lst (((p0::qs).map λp=>decide (s∈left.getD p [])).map D.bl)) (yf (jf rfl rfl) ?_) ?_
 ·show gather _ (((p0::qs).map λp:Nat=>(p:Int)).map D.int)=_;rw [wJ];refine zas (p0::qs) λp hp=>?_
  refine turn_ev (ρ':=[some (.int p),some (.int s),some (eL left)]) rfl ?_;exact yr rfl (jh rfl rfl (qV (i:=p) (by rw [wx,at' p hp];rfl))) (qdU s _)
 ·rw [ybY,List.all_map];rfl
theorem zA {left:List (List Int)} {ps:List Nat} {s:Int} (h0:ps≠[]) (h2:∀ p∈ps,p<left.length):s∈zN left ps↔jd1 left ps s:=by
 unfold zN jd1;rw [List.mem_filter,List.all_eq_true];have at':∀ p∈ps,left[p]?=some (left.getD p []):=λp hp=>by simp [wO,h2 p hp]
 constructor
 ·rintro ⟨_,h⟩ p hp l hl
  have:=h p hp
  rw [at' p hp] at hl;cases hl
  simpa using this
 ·intro h;have h':∀ p∈ps,s∈left.getD p []:=λp hp=>h p hp _ (at' p hp)
  refine ⟨(sortI_perm _).mem_iff.mpr (mem_dedI.mpr ?_),λp hp=>by simpa using h' p hp⟩;cases ps with
  | nil=>exact absurd rfl h0
  | cons a b=>exact h' a (by simp)
end Q
end
section
open PySem Eng LG M DL
namespace Q
theorem yV {f:D->Option D}:∀ (xs:List D) (b:D) (kb:Int),(∀ x∈xs,∃ i,f x=some (.int i))->∃ y,(y=b\/y∈xs)/\yaF f b kb xs=some y
 | [],b,kb,_=>⟨b,.inl rfl,rfl⟩
 | x::r,b,kb,h=>by
  obtain ⟨i,hi⟩:=h x (by simp);rw [yaF,hi,wd]
  by_cases e:i<kb
  ·obtain ⟨y,h1,h2⟩:=yV r x i λz hz=>h z (by simp [hz])
   refine ⟨y,.inr ?_,by simp only [e,if_true];exact h2⟩;rcases h1 with h1 | h1
   ·simp [h1]
   ·simp [h1]
  ·obtain ⟨y,h1,h2⟩:=yV r b kb λz hz=>h z (by simp [hz])
   refine ⟨y,?_,by simp only [e,if_false];exact h2⟩;rcases h1 with h1 | h1
   ·exact .inl h1
   ·exact .inr (by simp [h1])
theorem yb2 {f:D->Option D} {xs:List D} (h:∀ x∈xs,∃ i,f x=some (.int i)) (hn:xs≠[]):∃ y∈xs,zdZ f xs=some y:=by
 cases xs with
 | nil=>exact absurd rfl hn
 | cons x r =>
  obtain ⟨i,hi⟩:=h x (by simp);obtain ⟨y,h1,h2⟩:=yV r x i λz hz=>h z (by simp [hz])
  refine ⟨y,?_,by rw [zdZ,hi,wd];exact h2⟩;rcases h1 with h1 | h1
  ·simp [h1]
  ·simp [h1]
structure Wf (l0:List (List Int)) (rows:List Nat) (left:List (List Int)) (pl:List (List Nat)):Prop where
 un:(rows,left)∈univ (λr=>pl.getD r []) (List.range pl.length) l0
 p8:pl.length<=8
 nd:rows.Nodup
 ln:rows.length<=900
 pl:∀ r∈rows,∃ ps,pl[r]?=some ps/\ps≠[]/\∀ p∈ps,p<left.length
 sm:∀ l∈left,∀ s∈l,0<=s/\s<4
 ll:∀ l∈left,l.length<=900
theorem jb2 (left:List (List Int)) (ps:List Nat) (s:Int):(after left ps s).length=left.length:=by simp [after]
theorem yaT {left:List (List Int)} {ps:List Nat} {s:Int} {l:List Int} (h:l∈after left ps s):∃ m∈left,l=m\/l=m.erase s:=by
 unfold after at h;obtain ⟨i,hi,e⟩:=List.mem_iff_getElem.mp h;rw [List.getElem_mapIdx] at e;have hi':i<left.length:=by simpa using hi
 refine ⟨left[i],List.getElem_mem hi',?_⟩;split at e
 ·exact .inr e.symm
 ·exact .inl e.symm
theorem ydU {s:Int} (h:0<=s/\s<4):s∈([0,1,2,3]:List Int):=by simp;omega
theorem Wf.next {l0:List (List Int)} {rows:List Nat} {left:List (List Int)} {pl:List (List Nat)} (w:Wf l0 rows left pl) {row:Nat} (hr:row∈rows) {s:Int} (hs:s∈([0,1,2,3]:List Int)):Wf l0 (rows.filter λr=>r != row) (after left (pl.getD row []) s) pl:=by
 refine ⟨qah hs List.nodup_range w.un hr,w.p8,w.nd.filter _,wQ (List.length_filter_le _ _) w.ln,λr hr=>?_,λl hl=>?_,λl hl=>?_⟩
 ·rw [jb2];exact w.pl r (List.mem_filter.mp hr).1
 ·obtain ⟨m,hm,e | e⟩:=yaT hl
  ·rw [e];exact w.sm m hm
  ·rw [e];exact λx hx=>w.sm m hm x (List.mem_of_mem_erase hx)
 ·obtain ⟨m,hm,e | e⟩:=yaT hl
  ·rw [e];exact w.ll m hm
  ·rw [e];exact wQ (List.length_erase_le ..) (w.ll m hm)
open Classical in
noncomputable def zaF (rows:List Nat) (left:List (List Int)) (pl:List (List Nat)):Bool:=decide (∃ f,By f rows left λr=>pl.getD r [])
theorem zb3 {l:List Int} (h:∀ s∈l,0<=s/\s<4):qW l=true:=List.all_eq_true.mpr λs hs=>by
 have:=h s hs
 have z:(lowM:Int)=5:=rfl;simp only [wg,wF,z];omega
open Classical in
theorem qb3 {l0:List (List Int)} {rows:List Nat} {left:List (List Int)} {pl:List (List Nat)} (w:Wf l0 rows left pl):(zaW pl l0).p (nI rows) left=!zaF rows left pl:=by
 unfold zaW zaF;rw [dif_pos w.p8]
 by_cases h:∃ f,By f rows left λr=>pl.getD r []
 ·rw [show decide (∃ f,By f rows left λr=>pl.getD r [])=true from decide_eq_true h];refine vk λ⟨q,_,e1,e2,z⟩=>z ?_
  rw [<-ycH e1,<-e2];exact h
 ·rw [show decide (∃ f,By f rows left λr=>pl.getD r [])=false from vk h];exact decide_eq_true ⟨_,w.un,rfl,rfl,h⟩
theorem jaT {left:List (List Int)} {ps:List Nat} {s:Int} (hs:∀ l∈left,∀ s∈l,0<=s/\s<4) (h0:ps≠[]) (h2:∀ p∈ps,p<left.length) (h:s∈zN left ps):s∈([0,1,2,3]:List Int):=by
 have fr:=(zA h0 h2).mp h;obtain ⟨p,qs,rfl⟩:∃ p qs,ps=p::qs:=by cases ps with | nil=>exact absurd rfl h0 | cons a b=>exact ⟨a,b,rfl⟩
 have hp:=h2 p (by simp);exact ydU (hs _ (List.getElem_mem hp) s (fr p (by simp) _ (List.getElem?_eq_getElem hp)))
theorem zaU {l0:List (List Int)} {rows:List Nat} {left:List (List Int)} {pl:List (List Nat)} (w:Wf l0 rows left pl) {row:Nat} (hr:row∈rows) :
  zaF rows left pl=(zN left (pl.getD row [])).any λs=>zaF (rows.filter λr=>r != row) (after left (pl.getD row []) s) pl:=by
 obtain ⟨ps,e,h0,h2⟩:=w.pl row hr;have e':pl.getD row []=ps:=by rw [wO,e];rfl
 rw [vd,List.any_eq_true];unfold zaF;simp only [wF];rw [qdf w.nd hr];simp only [e'];exact ⟨λ⟨s,h1,h3⟩=>⟨s,(zA h0 h2).mpr h1,h3⟩,λ⟨s,h1,h3⟩=>⟨s,(zA h0 h2).mp h1,h3⟩⟩
noncomputable def jcI (i16 i18:Nat):Stms:=(.cons (.ite (.call i18 (.cons (.var 5) (.cons (.call i16 (.cons (.var 1) (.cons (.idx (.var 2) (.var 4)) (.cons (.var 6) .nil)))) (.cons (.var 2) (.cons (.var 3) .nil))))) (.cons (.ret (.cst (.bl true))) .nil) .nil) .nil)
noncomputable def jdU (i16 i17 i18:Nat):Def:=⟨7,4,(.cons (.ite (.not (.var 0)) (.cons (.ret (.cst (.bl true))) .nil) .nil) (.mgd 3 (.var 0) (.var 1) (.cons (.set .pu (.one 4) (.mink (.blt .len (.cons (.call i17 (.cons (.var 1) (.cons (.idx (.var 2) (.var 0)) .nil))) .nil)) [1,2] (.var 0))) (.cons (.set .pu (.one 5) (.blt .tuple (.cons (.comp (.var 0) (.one 0) 1 [4] (.data (.var 0)) (.some (.cmp .NotEq (.var 0) (.var 1)))) .nil))) (.cons (.for (.one 6) (.data (.call i17 (.cons (.var 1) (.cons (.idx (.var 2) (.var 4)) .nil)))) (jcI i16 i18)) (.mput 3 (.var 0) (.var 1) (.cons (.ret (.cst (.bl false))) .nil)))))))⟩
theorem ya1 {C:Tab} {ρ:En} {a b c e:Eng.Code} {x y z w d:D} {f:Nat} (h1:ev C a ρ=some x) (h2:ev C b ρ=some y) (h3:ev C c ρ=some z) (h4:ev C e ρ=some w) (h5:C f [x,y,z,w]=some d):ev C (.call f (.cons a (.cons b (.cons c (.cons e .nil))))) ρ=some d:=by
 rw [zab,yb h1 (yb h2 (yb h3 (yb h4 qg)))];exact h5
theorem zdV {C:Tab} {ρ:List Sl} {i:Nat} {a b:Eng.Code} {r:Stms} {x y:D} {k:List Int×List (List Int)} {p:MemP} {v:Bool} (h1:ev C a (vP ρ)=some x) (h2:ev C b (vP ρ)=some y) (h3:qdm x y=some k) (h4:zdl ρ i=some p)
  (h5:exs C r ρ=some (.rt (.bl v))) (h6:p.p k.1 k.2=true->v=false):exs C (.mgd i a b r) ρ=some (.rt (.bl v)):=by
 rw [exs,h1,wd,h2,wd,h3,wd,h4,wd,h5,wd];cases e:p.p k.1 k.2 with
 | false=>rfl
 | true=>rw [h6 e];rfl
theorem jdf {C:Tab} {ρ:List Sl} {i:Nat} {a b:Eng.Code} {r:Stms} {x y:D} {k:List Int×List (List Int)} {p:MemP} {v:Option Fl} (h1:ev C a (vP ρ)=some x) (h2:ev C b (vP ρ)=some y) (h3:qdm x y=some k) (h4:zdl ρ i=some p)
  (h6:p.p k.1 k.2=true) (h5:exs C r ρ=v):exs C (.mput i a b r) ρ=v:=by
 rw [exs,h1,wd,h2,wd,h3,wd,h4,wd,if_pos h6,h5]
theorem jbj {C:Tab} {b:Stms} {g:Int->Bool} {x0 x1 x2 x3 x4 x5:Sl}:∀ (ss:List Int) (y:Sl),(∀ s∈ss,exs C b [x0,x1,x2,x3,x4,x5,.pu (.int s)]=some (if g s then .rt (.bl true) else .nx [x0,x1,x2,x3,x4,x5,.pu (.int s)])) ->
  ∃ y',forL (λd ρ'=>(puT (.one 6) d ρ').bind λρ''=>exs C b ρ'') (eI ss) [x0,x1,x2,x3,x4,x5,y]=some (if ss.any g then .rt (.bl true) else .nx [x0,x1,x2,x3,x4,x5,y'])
 | [],y,_=>⟨y,rfl⟩
 | s::ss,y,h=>by
  obtain ⟨y',ih⟩:=jbj ss (.pu (.int s)) λt ht=>h t (by simp [ht])
  refine ⟨y',?_⟩;show (exs C b [x0,x1,x2,x3,x4,x5,.pu (.int s)]).bind _=_;rw [h s (by simp),wd,List.any_cons];cases g s with
  | true=>rfl
  | false=>rw [Bool.false_or];exact ih
theorem yb3 (C:Tab) {i16 i17 i18:Nat} {l0:List (List Int)} {rows:List Nat} {left:List (List Int)} {pl:List (List Nat)} (w:Wf l0 rows left pl)
  (h16:∀ ps s,(∀ p∈ps,∀ l,left[p]?=some l->s∈l)->(∀ p∈ps,p<left.length)->C i16 [eL left,.lst (eI (nI ps)),.int s]=some (eL (after left ps s)))
  (h17:∀ ps,ps≠[]->(∀ p∈ps,p<left.length)->C i17 [eL left,.lst (eI (nI ps))]=some (.lst (eI (zN left ps))))
  (h18:∀ rows' left',rows'.length<rows.length->Wf l0 rows' left' pl->C i18 [tI (nI rows'),eL left',ePl pl,.mem (zaW pl l0)]=some (.bl (zaF rows' left' pl))) :
  zB C (jdU i16 i17 i18) [tI (nI rows),eL left,ePl pl,.mem (zaW pl l0)]=some (.bl (zaF rows left pl)):=by
 refine qc rfl ?_
 by_cases hn:rows=[]
 ·subst hn
  have:zaF [] left pl=true:=by unfold zaF;simp only [wF];exact ⟨λ_=>0,jdT⟩
  rw [this];exact zbY (jcp (k:=false) rfl rfl) (qe rfl)
 have hpl:∀ r∈rows,jaE (ePl pl) (.int (r:Int))=some (.lst (eI (nI (pl.getD r []))))/\pl.getD r []≠[]/\∀ p∈pl.getD r [],p<left.length:=λr hr=>by
  obtain ⟨ps,e,h0,h2⟩:=w.pl r hr;have e':pl.getD r []=ps:=by rw [wO,e];rfl
  rw [e'];exact ⟨za1 (by rw [wx,e];rfl),h0,h2⟩
 refine jr (jcp rfl (k:=true) ?_) ?_
 ·cases rows with
  | nil=>exact absurd rfl hn
  | cons a b=>rfl
 refine zdV (p:=zaW pl l0) (k:=(nI rows,left)) rfl rfl ?_ rfl ?_ λz=>?_
 ·show (intsOf (eI (nI rows))).bind (λns=>(qO (left.map tI)).map λl=>(ns,l))=_;rw [jn,qQ];rfl
 rotate_left
 ·rw [qb3 w] at z;simpa using z
 obtain ⟨d,hd,hmin⟩:=yb2 (f:=λd=>ev C (.blt .len (.cons (.call i17 (.cons (.var 1) (.cons (.idx (.var 2) (.var 0)) .nil))) .nil)) [some d,some (eL left),some (ePl pl)]) (xs:=eI (nI rows)) (λx hx=>by
  obtain ⟨z,hz,rfl⟩:=wG.mp hx;obtain ⟨r,hr,rfl⟩:=wG.mp hz;obtain ⟨h1,h2,h3⟩:=hpl r hr;exact ⟨_,jg (zc rfl (jh rfl rfl h1) (h17 _ h2 h3)) zaJ⟩) (by
  cases rows with
  | nil=>exact absurd rfl hn
  | cons a b=>exact List.cons_ne_nil _ _)
 obtain ⟨z,hz,rfl⟩:=wG.mp hd;obtain ⟨row,hr,rfl⟩:=wG.mp hz;obtain ⟨q1,q2,q3⟩:=hpl row hr;refine yg (d:=.int (row:Int)) (by rw [ev];exact hmin) rfl ?_;refine yg (d:=tI (nI (rows.filter λr=>r != row))) (jg (yf (rs:=eI (nI (rows.filter λr=>r != row))) (jf rfl rfl) ?_) rfl) rfl ?_
 ·show gather _ ((rows.map λn:Nat=>(n:Int)).map D.int)=some (((rows.filter λr=>r != row).map λn:Nat=>(n:Int)).map D.int);rw [wJ,wJ];refine gather_film rows λr _=>?_
  refine turn_if (ρ':=[some (.int (r:Int)),some (.int (row:Int))]) rfl (yr rfl rfl ?_) rfl;rw [zcc (jaB rfl)];congr 1;show (!((r:Int)==(row:Int)))=_;rw [vd];simp;omega
 obtain ⟨y',hf⟩:=jbj (C:=C) (b:=jcI i16 i18) (g:=λs=>zaF (rows.filter λr=>r != row) (after left (pl.getD row []) s) pl) (x0:=.pu (tI (nI rows))) (x1:=.pu (eL left)) (x2:=.pu (ePl pl)) (x3:=.pu (.mem (zaW pl l0))) (x4:=.pu (.int (row:Int))) (x5:=.pu (tI (nI (rows.filter λr=>r != row))))
  (zN left (pl.getD row [])) .un λs hs=>by
   have fr:=(zA q2 q3).mp hs
   have c := h18 (rows.filter λr => r != row) (after left (pl.getD row []) s) (by
    have:=List.length_filter_lt_length_iff_exists (l:=rows) (p:=λr=>r != row)
    exact this.mpr ⟨row,hr,by simp⟩) (w.next hr (jaT w.sm q2 q3 hs))
   have ec:=ya1 (C:=C) (f:=i18) (ρ:=vA [.pu (tI (nI rows)),.pu (eL left),.pu (ePl pl),.pu (.mem (zaW pl l0)),.pu (.int (row:Int)),.pu (tI (nI (rows.filter λr=>r != row))),.pu (.int s)]) (a:=.var 5) (b:=.call i16 (.cons (.var 1) (.cons (.idx (.var 2) (.var 4)) (.cons (.var 6) .nil)))) (c:=.var 2) (e:=.var 3) rfl (zp rfl (jh rfl rfl q1) rfl (h16 _ s fr q3)) rfl rfl c;show exs C (.cons (.ite _ _ _) _) _=_;cases e:zaF (rows.filter λr=>r != row) (after left (pl.getD row []) s) pl with
   | true=>rw [e] at ec;exact zbY ec (qe rfl)
   | false=>rw [e] at ec;exact jr ec rfl
 have hfr:evI C (.data (.call i17 (.cons (.var 1) (.cons (.idx (.var 2) (.var 4)) .nil)))) (vP [.pu (tI (nI rows)),.pu (eL left),.pu (ePl pl),.pu (.mem (zaW pl l0)),.pu (.int (row:Int)),.pu (tI (nI (rows.filter λr=>r != row))),.un])=some (eI (zN left (pl.getD row []))):=jf (zc rfl (jh rfl rfl q1) (h17 _ q2 q3)) rfl;rw [zaU w hr];cases e:(zN left (pl.getD row [])).any λs=>zaF (rows.filter λr=>r != row) (after left (pl.getD row []) s) pl with
 | true =>
  rw [e] at hf;exact ydd hfr hf
 | false =>
  rw [e] at hf;refine jD hfr hf ?_;refine jdf (p:=zaW pl l0) (k:=(nI rows,left)) rfl rfl ?_ rfl ?_ (qe rfl)
  ·show (intsOf (eI (nI rows))).bind (λns=>(qO (left.map tI)).map λl=>(ns,l))=_;rw [jn,qQ];rfl
  ·rw [qb3 w,zaU w hr,e];rfl
end Q
end
section
open PySem Eng LG M DL
namespace Q
noncomputable def jC:List (List (List Int))->List (List Int)->List (List Int)
 | [],t=>t
 | S::Ss,t=>jC Ss (t++(jai S).filter λc=>!decide (c∈t))
theorem mem_toldL {c:List Int}:∀ {Ss:List (List (List Int))} {t:List (List Int)},c∈jC Ss t↔c∈t\/∃ S∈Ss,c∈jai S
 | [],t=>by simp [jC]
 | S::Ss,t=>by
  rw [jC,mem_toldL,List.mem_append,List.mem_filter]
  by_cases h:c∈t<;>simp [h]
theorem qbu (P:List (List Int)):(zo P).length<=P.length:=by
 induction P using snoc_ind with
 | h0=>exact wB _
 | h1 A x ih =>
  rw [yC];split
  ·simp;omega
  ·simp;omega
noncomputable def ycs (i9:Nat):Stms:=(.cons (.ext 2 .cl (.comp (.var 0) (.one 0) 1 [2] (.data (.call i9 (.cons (.var 0) (.cons (.var 3) .nil)))) (.some (.cmp .NotIn (.var 0) (.var 1))))) .nil)
noncomputable def zcJ (i9:Nat):Def:=⟨4,2,(.cons (.set .ow (.one 2) (.lst .nil)) (.cons (.for (.one 3) (.data (.var 1)) (ycs i9)) (.cons (.ret (.var 2)) .nil)))⟩
theorem qcJ (x:List Int):∀ S:List (List Int),inD (tI x) (S.map tI)=decide (x∈S)
 | []=>by simp [inD]
 | y::S=>by
  show (eqD (tI y) (tI x)||inD (tI x) (S.map tI))=_;rw [qcJ x S,zbg]
  by_cases e:y=x
  ·subst e;simp
  ·have:¬ x=y:=λz=>e z.symm
   simp [e,this]
theorem zdg (S:List (List Int)):yE (S.map tI)=true:=qa0 λd hd=>by
 obtain ⟨x,_,rfl⟩:=wG.mp hd;exact zY x
theorem ybu (x:List Int) (S:List (List Int)):zO .NotIn (tI x) (.lst (S.map tI))=some (!decide (x∈S)):=by
 have hd:dep (tI x)<=40:=qbh x;show (if jA (tI x) (.lst (S.map tI)) then some (inD (tI x) (S.map tI)) else none).map not=_;rw [if_pos (by simp [jA,hd,zY,show noS (.lst (S.map tI))=true from zdg S]),qcJ];rfl
theorem qdg {C:Tab} {σ:List Sl} {i:Nat} {e:Eng.Code} {r:Stms} {ds es:List D} {v:Option Fl} (h:ev C e (vA σ)=some (.lst es)) (h1:σ[i]?=some (.ow ds)) (hn:yai es=true) (hl:ds.length+es.length<=900) (h2:exs C r (σ.set i (.ow (ds++es)))=v):exs C (.cons (.ext i .cl e) r) σ=v:=by
 have e1:ex C (.ext i .cl e) σ=some (.nx (σ.set i (.ow (ds++es)))):=by
  rw [ex]
  ·show (ev C e (vA σ)).bind _=_;rw [h,wd];show (if yai es=true then qb9 i (.lst es) σ else none)=_;rw [if_pos hn];unfold qb9;rw [h1];exact if_pos (qM (by omega))
  ·exact λz=>by cases z
 rw [exs,e1];exact h2
theorem qaU (C:Tab) {i9:Nat} {t x1:D} {sh:List Int->List (List Int)}:∀ (ws:List (List Int)) (A:List (List Int)) (y:Sl),(∀ w∈ws,C i9 [t,tI w]=some (eC (sh w)))->(∀ w∈ws,(sh w).length<=8)->A.length+8*ws.length<=900 ->
  ∃ y',forL (λd ρ'=>(puT (.one 3) d ρ').bind λρ''=>exs C (ycs i9) ρ'') (ws.map tI) [.pu t,.pu x1,.ow (A.map tI),y]=some (.nx [.pu t,.pu x1,.ow ((jC (ws.map sh) A).map tI),y'])
 | [],A,y,_,_,_=>⟨y,rfl⟩
 | w::ws,A,y,h,h8,hl=>by
  have c8:(jai (sh w)).length<=8:=wQ (by simp [jai];exact qbu _) (h8 w (by simp));have f8:=List.length_filter_le (λc=>!decide (c∈A)) (jai (sh w));simp only [List.length_cons] at hl;obtain ⟨y',ih⟩:=qaU C (t:=t) (x1:=x1) (sh:=sh) ws (A++(jai (sh w)).filter λc=>!decide (c∈A)) (.pu (tI w)) (λv hv=>h v (by simp [hv])) (λv hv=>h8 v (by simp [hv])) (by simp;omega);refine ⟨y',?_⟩
  have step:exs C (ycs i9) [.pu t,.pu x1,.ow (A.map tI),.pu (tI w)]=some (.nx [.pu t,.pu x1,.ow ((A++(jai (sh w)).filter λc=>!decide (c∈A)).map tI),.pu (tI w)]):=by
   refine qdg (es:=((jai (sh w)).filter λc=>!decide (c∈A)).map tI) (ds:=A.map tI) (yf (jf (zc rfl rfl (h w (by simp))) rfl) (gather_film (jai (sh w)) λc _=>?_)) rfl (qaB _) (by simp;omega) (by rw [List.map_append];rfl);exact turn_if (ρ':=[some (tI c),some (.lst (A.map tI))]) rfl (yr rfl rfl (ybu c A)) rfl
  show (exs C (ycs i9) [.pu t,.pu x1,.ow (A.map tI),.pu (tI w)]).bind _=_;rw [step,wd];exact ih
theorem jcs (C:Tab) {i9:Nat} {t:D} {sh:List Int->List (List Int)} {ws:List (List Int)} (h:∀ w∈ws,C i9 [t,tI w]=some (eC (sh w))) (h8:∀ w∈ws,(sh w).length<=8) (hl:ws.length<=100):zB C (zcJ i9) [t,.tup (ws.map tI)]=some (.lst ((jC (ws.map sh) []).map tI)):=by
 obtain ⟨y,hf⟩:=qaU C (t:=t) (x1:=.tup (ws.map tI)) (sh:=sh) ws [] .un h h8 (by simp;omega);refine qc rfl ?_;refine Eng.qaj (ds:=[]) (zcq qg (Nat.zero_le _)) rfl ?_;refine jD (jf rfl rfl) hf ?_;exact qe rfl
noncomputable def plR (told:List (List Int)) (r:Nat):List Nat:=(List.range told.length).filter λp=>decide ((r:Int)∈told.getD p [])
noncomputable def c_places:Def:=⟨2,2,(.cons (.ret (.comp (.var 0) (.many [0,1]) 2 [1] (.enu (.var 0)) (.some (.cmp .In (.var 2) (.var 1))))) .nil)⟩
theorem ydg (L:List (List Int)) (k:Nat):yW k (L.map tI)=(List.range' k L.length).map λp=>.tup [.int (p:Int),tI (L.getD (p-k) [])]:=by
 induction L generalizing k with
 | nil=>rfl
 | cons a L ih =>
  rw [List.map_cons,yW,ih,List.length_cons,List.range'_succ,List.map_cons];congr 1
  ·simp
  ·apply vf;intro p hp
   have:=(List.mem_range'_1.mp hp).1
   rw [show p-k=(p-(k+1))+1 by omega,List.getD_cons_succ]
theorem jas {f:D->Option (Option D)} {α:Type} {g h:α->D} {p:α->Bool}:∀ (xs:List α),(∀ x∈xs,f (g x)=some (if p x then some (h x) else none))->gather f (xs.map g)=some ((xs.filter p).map h)
 | [],_=>rfl
 | x::xs,q=>by
  rw [List.map_cons,gather,q x (by simp),wd,jas xs λy hy=>q y (by simp [hy])];cases e:p x<;>simp [e]
theorem jbu (C:Tab) (told:List (List Int)) (r:Nat):zB C c_places [.lst (told.map tI),.int (r:Int)]=some (.lst (eI (nI (plR told r)))):=by
 refine qc rfl (qe (yf (jdc rfl rfl) ?_));rw [ydg]
 have:=jas (f:=turn C (.var 0) (.many [0,1]) 2 [1] (.some (.cmp .In (.var 2) (.var 1))) (vA (List.map Sl.pu [.lst (told.map tI),.int (r:Int)]++List.replicate (c_places.n-c_places.p) .un))) (g:=λp:Nat=>.tup [.int (p:Int),tI (told.getD (p-0) [])]) (h:=λp:Nat=>.int (p:Int)) (p:=λp=>decide ((r:Int)∈told.getD p [])) (List.range' 0 told.length) λp _ =>
  turn_if (ρ':=[some (.int (p:Int)),some (tI (told.getD p [])),some (.int (r:Int))]) rfl (yr rfl rfl (qdU _ _)) rfl
 rw [this];unfold plR eI nI;rw [wJ,List.range_eq_range'];rfl
noncomputable def jb3:Def:=⟨2,2,(.cons (.ret (.blt .tuple (.cons (.blt .sorted (.cons (.comp (.idx (.idx (.var 1) (.cst (.int 2))) (.var 0)) (.one 0) 1 [0] (.data (.var 1)) .none) .nil)) .nil))) .nil)⟩
theorem zb4 (C:Tab) {Ls:List (List (List Int))} {rows:List (List Int)} {secs:List Int} (T:TabOk Ls rows secs) {c:List Int} (hc:∀ i∈c,0<=i/\i<(rows.length:Int)) (hl:c.length<64):zB C jb3 [eT Ls rows secs,tI c]=some (tI (sortI (qK secs c))):=by
 have at':∀ i∈c,secs[i.toNat]?=some (secs.getD i.toNat 0):=λi hi=>by
  have:=hc i hi
  have h1:=T.sl;simp [List.getD,show i.toNat<secs.length by omega]
 refine qc rfl ?_;refine qe (jg (x:=.lst (eI (sortI (qK secs c)))) (jg (x:=.lst (eI (qK secs c))) (yf (jf rfl rfl) (jag (g:=D.int) (h:=λi=>secs.getD i.toNat 0) c λi hi=>?_)) ?_) rfl)
 ·refine turn_ev (ρ':=[some (.int i),some (eT Ls rows secs)]) rfl ?_;exact jh (x:=tI secs) (jh (x:=eT Ls rows secs) (y:=.int 2) rfl rfl at2) rfl (yu (hc i hi).1 (by rw [eI,wx,at' i hi];rfl))
 ·show (if (eI (qK secs c)).length<64 then ycv (eI (qK secs c)) else none)=_;rw [if_pos (by simp [eI,qK];exact hl)];unfold ycv;rw [jn];rfl
end Q
end
section
open PySem Eng LG M DL
namespace Q
noncomputable def qb4 (i16 i18:Nat):Stms:=(.cons (.ite (.call i18 (.cons (.var 7) (.cons (.call i16 (.cons (.var 4) (.cons (.idx (.var 6) (.var 2)) (.cons (.var 10) .nil)))) (.cons (.var 6) (.cons (.var 8) .nil))))) (.cons (.app 9 .pu (.var 10)) .nil) .nil) .nil)
noncomputable def ycJ (i12 i13 i14 i16 i17 i18:Nat):Def:=⟨11,3,(.cons (.ite (.not (.var 1)) (.cons (.ret (.ofi .tuple (.rng (.cons (.cst (.int 4)) .nil)))) .nil) .nil) (.cons (.set .pu (.one 3) (.call i12 (.cons (.var 0) (.cons (.var 1) .nil)))) (.cons (.set .pu (.one 4) (.blt .tuple (.cons (.comp (.call i14 (.cons (.var 1) (.cons (.var 0) .nil))) (.one 0) 1 [0] (.data (.var 3)) .none) .nil))) (.cons (.set .pu (.one 5) (.ofi .list (.rng (.cons (.blt .len (.cons (.idx (.var 0) (.cst (.int 1))) .nil)) .nil)))) (.cons (.set .pu (.one 6) (.comp (.call i13 (.cons (.var 1) (.cons (.var 0) .nil))) (.one 0) 1 [3] (.data (.var 5)) .none)) (.cons (.set .pu (.one 7) (.blt .tuple (.cons (.comp (.var 0) (.one 0) 1 [2] (.data (.var 5)) (.some (.cmp .NotEq (.var 0) (.var 1)))) .nil))) (.cons (.newm 8 (.tup (.cons (.var 6) (.cons (.var 4) .nil))) DL.yep) (.cons (.set .ow (.one 9) (.lst .nil)) (.cons (.for (.one 10) (.data (.call i17 (.cons (.var 4) (.cons (.idx (.var 6) (.var 2)) .nil)))) (qb4 i16 i18)) (.cons (.ret (.blt .tuple (.cons (.var 9) .nil))) .nil))))))))))⟩
theorem zat {C:Tab} {b:Stms} {g:Int->Bool} {x0 x1 x2 x3 x4 x5 x6 x7 x8:Sl}:∀ (ss A:List Int) (y:Sl),(∀ s∈ss,∀ A:List Int,A.length<900->exs C b [x0,x1,x2,x3,x4,x5,x6,x7,x8,.ow (eI A),.pu (.int s)]=some (.nx [x0,x1,x2,x3,x4,x5,x6,x7,x8,.ow (eI (if g s then A++[s] else A)),.pu (.int s)]))->A.length+ss.length<=900 ->
  ∃ y',forL (λd ρ'=>(puT (.one 10) d ρ').bind λρ''=>exs C b ρ'') (eI ss) [x0,x1,x2,x3,x4,x5,x6,x7,x8,.ow (eI A),y]=some (.nx [x0,x1,x2,x3,x4,x5,x6,x7,x8,.ow (eI (A++ss.filter g)),y'])
 | [],A,y,_,_=>⟨y,by rw [List.filter_nil,List.append_nil];rfl⟩
 | s::ss,A,y,h,hl=>by
  simp only [List.length_cons] at hl;obtain ⟨y',ih⟩:=zat ss (if g s then A++[s] else A) (.pu (.int s)) (λt ht=>h t (by simp [ht])) (by split<;>(try simp)<;>omega);refine ⟨y',?_⟩;show (exs C b [x0,x1,x2,x3,x4,x5,x6,x7,x8,.ow (eI A),.pu (.int s)]).bind _=_;rw [h s (by simp) A (by omega),wd];refine ih.trans ?_;cases e:g s<;>simp [e]
theorem jdg (l:List Int):(sortI (jat l)).length<=l.length:=by
 rw [(sortI_perm _).length_eq]
 induction l with
 | nil=>exact wB _
 | cons a r ih =>
  unfold jat;split
  ·simp;omega
  ·simp;exact ih
noncomputable def qh (secs:List Int) (told:List (List Int)):List (List Int):=told.map λc=>sortI (qK secs c)
noncomputable def plL (told:List (List Int)) (n:Nat):List (List Nat):=(List.range n).map (plR told)
noncomputable def zct (secs:List Int) (told:List (List Int)) (n row:Nat):List Int:=(zN (qh secs told) (plR told row)).filter λs=>zaF ((List.range n).filter λr=>r != row) (after (qh secs told) (plR told row) s) (plL told n)
theorem yb4 (n k:Nat):yc (k:Int) n=eI (nI (List.range' k n)):=by
 induction n generalizing k with
 | zero=>rfl
 | succ n ih =>
  have:=ih (k+1)
  rw [yc,List.range'_succ];show _=D.int k::eI (nI (List.range' (k+1) n));rw [<-this];rfl
theorem jb4 {n:Nat} (h:n<=1000):rngD [.int (n:Int)]=some (eI (nI (List.range n))):=by
 simp only [rngD];rw [if_pos ⟨by omega,by omega,ye (by simpa using h)⟩,wV,List.range_eq_range',<-yb4];rfl
theorem zdh {C:Tab} {ρ:List Sl} {i:Nat} {e:Eng.Code} {f:D->MemP} {r:Stms} {d:D} {x:Option Fl} (h:ev C e (vP ρ)=some d) (h2:exs C r (ρ.set i (.pu (.mem (f d))))=x):exs C (.cons (.newm i e f) r) ρ=x:=by
 rw [exs,ex,h];exact h2
theorem qct (C:Tab) {i12 i13 i14 i16 i17 i18:Nat} {Ls:List (List (List Int))} {rows:List (List Int)} {secs:List Int} (T:TabOk Ls rows secs) {ws:List (List Int)} (hw:ws≠[]) {told:List (List Int)} {row:Nat} (hrow:row<rows.length)
  (h12:C i12 [eT Ls rows secs,.tup (ws.map tI)]=some (.lst (told.map tI)))
  (h14:∀ c∈told,C i14 [eT Ls rows secs,tI c]=some (tI (sortI (qK secs c))))
  (h13:∀ r:Nat,C i13 [.lst (told.map tI),.int (r:Int)]=some (.lst (eI (nI (plR told r)))))
  (hp:plR told row≠[]) (hW:Wf (qh secs told) (List.range rows.length) (qh secs told) (plL told rows.length))
  (h16:∀ ps s,(∀ p∈ps,∀ l,(qh secs told)[p]?=some l->s∈l)->(∀ p∈ps,p<(qh secs told).length)->C i16 [eL (qh secs told),.lst (eI (nI ps)),.int s]=some (eL (after (qh secs told) ps s)))
  (h17:∀ ps,ps≠[]->(∀ p∈ps,p<(qh secs told).length)->C i17 [eL (qh secs told),.lst (eI (nI ps))]=some (.lst (eI (zN (qh secs told) ps))))
  (h18:∀ rows' left',rows'.length<rows.length->Wf (qh secs told) rows' left' (plL told rows.length)->C i18 [tI (nI rows'),eL left',ePl (plL told rows.length),.mem (zaW (plL told rows.length) (qh secs told))]=some (.bl (zaF rows' left' (plL told rows.length)))) :
  zB C (ycJ i12 i13 i14 i16 i17 i18) [eT Ls rows secs,.tup (ws.map tI),.int (row:Int)]=some (tI (zct secs told rows.length row)):=by
 have h8:=T.r8
 have hpl:∀ p∈plR told row,p<(qh secs told).length:=λp hp=>by
  have:=vc.mp (List.mem_filter.mp hp).1
  simpa [qh] using this
 have hidx:jaE (ePl (plL told rows.length)) (.int (row:Int))=some (.lst (eI (nI (plR told row)))):=za1 (by simp [plL,hrow]);refine qc rfl ?_;refine jr (jcp rfl (k:=true) ?_) ?_
 ·cases ws with
  | nil=>exact absurd rfl hw
  | cons a b=>rfl
 refine yg (zc rfl rfl h12) rfl ?_;refine yg (d:=eL (qh secs told)) (jg (x:=.lst ((qh secs told).map tI)) (yf (jf rfl rfl) ?_) rfl) rfl ?_
 ·rw [qh,wJ];exact qd told λc hc=>turn_ev (ρ':=[some (tI c),some (eT Ls rows secs)]) rfl (zc rfl rfl (h14 c hc))
 refine yg (d:=.lst (eI (nI (List.range rows.length)))) ?_ rfl ?_
 ·have:evI C (.rng (.cons (.blt .len (.cons (.idx (.var 0) (.cst (.int 1))) .nil)) .nil)) (vP [.pu (eT Ls rows secs),.pu (.tup (ws.map tI)),.pu (.int (row:Int)),.pu (.lst (told.map tI)),.pu (eL (qh secs told)),.un,.un,.un,.un,.un,.un])=some (eI (nI (List.range rows.length))):=by
   refine ycp (x:=.int (rows.length:Int)) (jg (x:=.tup (rows.map tI)) (jh rfl rfl at1) ?_) ?_
   ·rw [yk,wC]
   ·rw [jb4 (by omega)]
  rw [ev];refine (congrArg (λo:Option (List D)=>o.bind _) this).trans ?_;rfl
 refine yg (d:=ePl (plL told rows.length)) (yf (rs:=(plL told rows.length).map λps=>.lst (eI (nI ps))) (jf rfl rfl) ?_) rfl ?_
 ·show gather _ (((List.range rows.length).map λn:Nat=>(n:Int)).map D.int)=some (((List.range rows.length).map (plR told)).map λps=>.lst (eI (nI ps)));rw [wJ,wJ];exact qd (List.range rows.length) λr _=>turn_ev (ρ':=[some (.int (r:Int)),some (.lst (told.map tI))]) rfl (zc rfl rfl (h13 r))
 refine yg (d:=tI (nI ((List.range rows.length).filter λr=>r != row))) (jg (x:=.lst (eI (nI ((List.range rows.length).filter λr=>r != row)))) (yf (jf rfl rfl) ?_) rfl) rfl ?_
 ·show gather _ (((List.range rows.length).map λn:Nat=>(n:Int)).map D.int)=some ((((List.range rows.length).filter λr=>r != row).map λn:Nat=>(n:Int)).map D.int);rw [wJ,wJ];refine gather_film (List.range rows.length) λr _=>?_
  refine turn_if (ρ':=[some (.int (r:Int)),some (.int (row:Int))]) rfl (yr rfl rfl ?_) rfl;rw [zcc (jaB rfl)];congr 1;show (!((r:Int)==(row:Int)))=_;rw [vd];simp;omega
 refine zdh (jx (yb rfl (yb rfl qg)) (show 2<=1000 by decide)) ?_;rw [jcr];refine Eng.qaj (ds:=[]) (zcq qg (Nat.zero_le _)) rfl ?_
 have hfl:(zN (qh secs told) (plR told row)).length<=900:=by
  unfold zN;refine wQ (List.length_filter_le _ _) (wQ (jdg _) ?_);cases e:plR told row with
  | nil=>exact absurd e hp
  | cons p qs =>
   have:=hpl p (by rw [e];simp)
   refine hW.ll _ (wR (i:=p) ?_);show _=some ((qh secs told).getD p []);simp [wO,this]
 obtain ⟨y',hf⟩:=zat (C:=C) (b:=qb4 i16 i18) (g:=λs=>zaF ((List.range rows.length).filter λr=>r != row) (after (qh secs told) (plR told row) s) (plL told rows.length)) (x0:=.pu (eT Ls rows secs)) (x1:=.pu (.tup (ws.map tI))) (x2:=.pu (.int (row:Int))) (x3:=.pu (.lst (told.map tI))) (x4:=.pu (eL (qh secs told))) (x5:=.pu (.lst (eI (nI (List.range rows.length)))))
  (x6:=.pu (ePl (plL told rows.length))) (x7:=.pu (tI (nI ((List.range rows.length).filter λr=>r != row)))) (x8:=.pu (.mem (zaW (plL told rows.length) (qh secs told)))) (zN (qh secs told) (plR told row)) [] .un (λs hs A hA=>by
   have fr:=(zA hp hpl).mp hs
   have c := h18 ((List.range rows.length).filter λr => r != row) (after (qh secs told) (plR told row) s) (by
    have:=List.length_filter_lt_length_iff_exists (l:=List.range rows.length) (p:=λr=>r != row)
    exact Nat.lt_of_lt_of_eq (this.mpr ⟨row,vc.mpr hrow,by simp⟩) List.length_range) (by
    have hg:(plL told rows.length).getD row []=plR told row:=by simp [plL,wO,hrow]
    rw [<-hg];refine hW.next (vc.mpr hrow) ?_;exact jaT hW.sm hp hpl hs)
   have ec:=ya1 (C:=C) (f:=i18) (ρ:=vA [.pu (eT Ls rows secs),.pu (.tup (ws.map tI)),.pu (.int (row:Int)),.pu (.lst (told.map tI)),.pu (eL (qh secs told)),.pu (.lst (eI (nI (List.range rows.length)))),.pu (ePl (plL told rows.length)),.pu (tI (nI ((List.range rows.length).filter λr=>r != row))),.pu (.mem (zaW (plL told rows.length) (qh secs told))),.ow (eI A),.pu (.int s)])
    (a:=.var 7) (b:=.call i16 (.cons (.var 4) (.cons (.idx (.var 6) (.var 2)) (.cons (.var 10) .nil)))) (c:=.var 6) (e:=.var 8) rfl (zp rfl (jh rfl rfl hidx) rfl (h16 _ s fr hpl)) rfl rfl c
   show exs C (.cons (.ite _ _ _) _) _=_;cases e:zaF ((List.range rows.length).filter λr=>r != row) (after (qh secs told) (plR told row) s) (plL told rows.length) with
   | true =>
    rw [e] at ec;refine qdd ec (Eng.qaJ (d:=.int s) rfl rfl (qM (by simp [eI];omega)) rfl) ?_;simp [e,eI];rfl
   | false=>rw [e] at ec;exact jr ec rfl) (by simp;exact hfl)
 refine jD (jf (zc rfl (jh rfl rfl hidx) (h17 _ hp hpl)) rfl) hf ?_;exact qe (jg rfl rfl)
end Q
end
section
open PySem Eng LG M DL
namespace Q
def zbv (Ss:List (List (List Int))) (secs:List Int) (row:Nat) (s:Int):Prop:=∃ f:Nat->Int,f row=s/\∀ S∈Ss,zcH S (λi=>secs.getD i 0) f
open Classical in
noncomputable def jQ (Ss:List (List (List Int))) (secs:List Int) (row:Nat):List Int:=([0,1,2,3]:List Int).filter λs=>decide (zbv Ss secs row s)
noncomputable def qdV (S:List (List Int)) (k:List Int):List Nat:=(List.range S.length).filter λi=>S.getD i []==k
theorem ja1 (S:List (List Int)) (k:List Int):(jM S k).map Int.toNat=qdV S k:=by
 unfold jM qdV;rw [wJ];exact (vf λi _=>rfl).trans (List.map_id _)
theorem jcJ {S:List (List Int)} {c:List Int} (h:c∈jai S):∃ k,c=jM S k:=let ⟨i,_,e⟩:=mem_clsL.mp h;⟨_,e⟩
theorem yct {Ss:List (List (List Int))} {told:List (List Int)} {sec f:Nat->Int} (ht:∀ c,c∈told↔∃ S∈Ss,c∈jai S):Fits sec f (told.map λc=>c.map Int.toNat)↔∀ S∈Ss,zcH S sec f:=by
 have cnt:∀ (S:List (List Int)) (k:List Int) (g:Nat->Int) (x:Int),((qdV S k).map g).count x=(List.range S.length).countP λi=>decide (S.getD i []=k/\g i=x):=λS k g x=>by
  rw [count_map,qdV,List.countP_filter];exact qo λi _=>by rw [vd];simp [and_comm]
 constructor
 ·intro h S hS k x
  by_cases z:∃ i,i<S.length/\S.getD i []=k
  ·obtain ⟨i,hi,rfl⟩:=z
   have:=h (qdV S (S.getD i [])) (wG.mpr ⟨_,(ht _).mpr ⟨S,hS,mem_clsL.mpr ⟨i,hi,rfl⟩⟩,ja1 _ _⟩) x
   rw [cnt,cnt] at this;exact this
  ·rw [qaS λi hi=>vk λw=>z ⟨i,vc.mp hi,w.1⟩];exact Nat.zero_le _
 ·intro h c hc x;obtain ⟨c',hc',rfl⟩:=wG.mp hc;obtain ⟨S,hS,hcl⟩:=(ht c').mp hc';obtain ⟨k,rfl⟩:=jcJ hcl;rw [ja1,cnt,cnt];exact h S hS k x
section
variable {secs:List Int} {Ss:List (List (List Int))} {n:Nat} (hn:∀ S∈Ss,S.length=n)
include hn
theorem qaD {c:List Int} (h:c∈jC Ss []):∃ S∈Ss,∃ k,c=jM S k/\S.length=n:=by
 rcases mem_toldL.mp h with z | ⟨S,hS,z⟩
 ·cases z
 ·obtain ⟨k,e⟩:=jcJ z;exact ⟨S,hS,k,e,hn S hS⟩
theorem za2 {c:List Int} (h:c∈jC Ss []):∀ i∈c,0<=i/\i<(n:Int):=λi hi=>by
 obtain ⟨S,_,k,rfl,e⟩:=qaD hn h;obtain ⟨j,hj,rfl,_⟩:=mem_idxI.mp hi;omega
theorem zbk {c:List Int} (h:c∈jC Ss []):c.length<=n:=by
 obtain ⟨S,_,k,rfl,e⟩:=qaD hn h;unfold jM;rw [wC];exact wQ (List.length_filter_le _ _) (by simp [e])
theorem zb5 (hs:Ss≠[]) {r:Nat} (hr:r<n):plR (jC Ss []) r≠[]:=by
 obtain ⟨S,Sr,rfl⟩:∃ S Sr,Ss=S::Sr:=by cases Ss with | nil=>exact absurd rfl hs | cons a b=>exact ⟨a,b,rfl⟩
 have hS:=hn S (by simp);have hc:jM S (S.getD r [])∈jC (S::Sr) []:=mem_toldL.mpr (.inr ⟨S,by simp,mem_clsL.mpr ⟨r,by omega,rfl⟩⟩);obtain ⟨p,hp,e⟩:=List.mem_iff_getElem.mp hc;refine List.ne_nil_of_mem (a:=p) (List.mem_filter.mpr ⟨vc.mpr hp,?_⟩);rw [wO,List.getElem?_eq_getElem hp,e];exact decide_eq_true (mem_idxI.mpr ⟨r,by omega,rfl,rfl⟩)
theorem zcK (hsec:∀ s∈secs,0<=s/\s<4) (hl:secs.length=n) {l:List Int} (h:l∈qh secs (jC Ss [])):∀ s∈l,0<=s/\s<4:=λs hs=>by
 obtain ⟨c,hc,rfl⟩:=wG.mp h;obtain ⟨i,hi,rfl⟩:=wG.mp ((sortI_perm _).mem_iff.mp hs);have hb:=za2 hn hc i hi;have hi':i.toNat<secs.length:=by omega
 exact hsec _ (by rw [wO,List.getElem?_eq_getElem hi'];exact List.getElem_mem hi')
theorem qb5 (hs:Ss≠[]) (h9:n<=8) (hsec:∀ s∈secs,0<=s/\s<4) (hl:secs.length=n):Wf (qh secs (jC Ss [])) (List.range n) (qh secs (jC Ss [])) (plL (jC Ss []) n):=by
 refine ⟨by
  rw [show (plL (jC Ss []) n).length=n by simp [plL]];exact yaS _ _ _,by simp [plL];exact h9,List.nodup_range,by simp;omega,λr hr=>?_,λl hl'=>?_,λl hl'=>?_⟩
 ·have hr:=vc.mp hr;refine ⟨plR (jC Ss []) r,by simp [plL,hr],zb5 hn hs hr,λp hp=>?_⟩
  have:=vc.mp (List.mem_filter.mp hp).1
  simpa [qh] using this
 ·exact zcK hn hsec hl hl'
 ·obtain ⟨c,hc,rfl⟩:=wG.mp hl'
  have:=zbk hn hc
  rw [(sortI_perm _).length_eq];simp [qK];omega
theorem qdh (hs:Ss≠[]) (h9:n<=8) (hsec:∀ s∈secs,0<=s/\s<4) (hl:secs.length=n) {row:Nat} (hr:row<n):zct secs (jC Ss []) n row=jQ Ss secs row:=by
 obtain ⟨told,ht⟩:∃ t,t=jC Ss []:=⟨_,rfl⟩;have W:=qb5 hn hs h9 hsec hl;have hne:=zb5 hn hs hr;have mt:∀ c,c∈told↔∃ S∈Ss,c∈jai S:=λc=>by rw [ht,mem_toldL];simp
 have bd:∀ c∈told,∀ i∈c,0<=i/\i<(n:Int):=λc hc=>za2 hn (ht▸hc)
 have tm:∀ c∈told,∃ S∈Ss,∃ k,c=jM S k/\S.length=n:=λc hc=>qaD hn (ht▸hc)
 have sb:∀ l∈qh secs told,∀ s∈l,0<=s/\s<4:=λl h=>zcK hn hsec hl (ht▸h)
 rw [<-ht] at W hne ⊢;have hpl:∀ r<n,(plL told n).getD r []=plR told r:=λr hr=>by simp [plL,wO,hr]
 have hlt:∀ p∈plR told row,p<(qh secs told).length:=λp hp=>by
  have:=vc.mp (List.mem_filter.mp hp).1
  simpa [qh] using this
 have key:∀ f:Nat->Int,By f (List.range n) (qh secs told) (λr=>(plL told n).getD r [])↔∀ S∈Ss,zcH S (λi=>secs.getD i 0) f:=λf=>by
  rw [<-yct mt]
  have e:qh secs told=(told.map λc=>c.map Int.toNat).map λc=>sortI (c.map λi=>secs.getD i 0):=by
   unfold qh qK;rw [wJ];refine vf λc _=>?_
   show _=sortI ((c.map Int.toNat).map _);rw [wJ];rfl
  rw [e];refine ydf List.nodup_range (λc hc=>?_) (λc _=>sortI_perm _) λr hr p c hp=>?_
  ·obtain ⟨c',hc',rfl⟩:=wG.mp hc;obtain ⟨S,_,k,rfl,e⟩:=tm c' hc';rw [ja1];refine ⟨List.nodup_range.filter _,λr hr=>?_⟩;rw [<-e];exact (List.mem_filter.mp hr).1
  ·rw [wx] at hp;obtain ⟨c',hc',rfl⟩:=Option.map_eq_some_iff.mp hp;have hr:=vc.mp hr;rw [hpl r hr];have hp':=(wq.mp hc').1;have hg:told.getD p []=c':=by rw [wO,hc'];rfl
   unfold plR;rw [List.mem_filter,hg];constructor
   ·rintro ⟨_,z⟩;exact wG.mpr ⟨(r:Int),ve z,rfl⟩
   ·intro z;obtain ⟨i,hi,e⟩:=wG.mp z
    have:=bd c' (wR hc') i hi
    have hi':i=(r:Int):=by omega
    exact ⟨vc.mpr hp',decide_eq_true (hi'▸hi)⟩
 have nd1:(sortI (jat ((qh secs told).getD ((plR told row).headD 0) []))).Nodup:=(sortI_perm _).nodup_iff.mpr (jH _);have so1:=zq (jat ((qh secs told).getD ((plR told row).headD 0) []))
 have mem:∀ s,s∈zct secs told n row↔s∈jQ Ss secs row:=λs=>by
  unfold zct jQ;rw [List.mem_filter,List.mem_filter,zA hne hlt];have e2:=jaC (s:=s) (left:=qh secs told) (pl:=λr=>(plL told n).getD r []) List.nodup_range (vc.mpr hr);simp only [hpl row hr] at e2;unfold zaF;simp only [wF];rw [<-e2];constructor
  ·intro z;have fr:=(e2.mp z).1;obtain ⟨f,e3,h3⟩:=z;refine ⟨?_,f,e3,(key f).mp h3⟩;cases hq:plR told row with
   | nil=>exact absurd hq hne
   | cons p qs =>
    have hp:=hlt p (by rw [hq];simp)
    have:=sb _ (List.getElem_mem hp) s (fr p (by rw [hq];simp) _ (List.getElem?_eq_getElem hp))
    simp;omega
  ·rintro ⟨_,f,e3,h3⟩;exact ⟨f,e3,(key f).mpr h3⟩
 refine ym (q9 ?_ ?_ mem) ?_ ?_
 ·exact (nd1.filter _).filter _
 ·exact List.Pairwise.filter _ (by decide)
 ·exact (so1.filter _).filter _
 ·exact List.Pairwise.filter _ (by decide)
end
end Q
end
section
open PySem Eng LG M DL
namespace Q
section
variable {Ss Rs:List (List (List Int))} {secs:List Int} {row:Nat} {s:Int}
theorem qA (h4:∀ s∈secs,0<=s/\s<4):s∈jQ Ss secs row↔(0<=s/\s<4)/\zbv Ss secs row s:=by
 unfold jQ;rw [List.mem_filter];simp only [wF]
 have:s∈([0,1,2,3]:List Int)↔0<=s/\s<4:=by simp;omega
 rw [this]
end
end Q
end
section
open PySem Eng LG M DL
namespace M
open Q (turn_ev turn_if gather_film)
noncomputable def sfB (Ls:List (List (List Int))) (rows:List (List Int)) (many:Int) (w:List Int):Bool:=qaC (zl Ls rows w) many
noncomputable def zw (Ls:List (List (List Int))) (rows:List (List Int)) (many:Int):List (List Int):=(ybt Ls).filter (sfB Ls rows many)
noncomputable def yah (i10 i11:Nat):Def:=⟨2,2,(.cons (.ret (.comp (.var 0) (.one 0) 1 [0,1] (.data (.call i10 (.cons (.var 0) .nil))) (.some (.call i11 (.cons (.var 1) (.cons (.var 0) (.cons (.var 2) .nil))))))) .nil)⟩
theorem yaD {C:Tab} {i10 i11:Nat} {Ls:List (List (List Int))} {rows:List (List Int)} {secs:List Int} {many:Int} (h10:C i10 [eT Ls rows secs]=some (.tup ((ybt Ls).map tI))) (h11:∀ w,zH Ls w->C i11 [eT Ls rows secs,tI w,.int many]=some (.bl (sfB Ls rows many w))):zB C (yah i10 i11) [eT Ls rows secs,.int many]=some (.lst ((zw Ls rows many).map tI)):=by
 refine qc rfl (qe ?_);exact yf (jf (jbX rfl h10) rfl) (gather_film (g:=tI) (p:=sfB Ls rows many) (ybt Ls) λw hw=>turn_if (ρ':=[some (tI w),some (eT Ls rows secs),some (.int many)]) rfl (zp rfl rfl rfl (h11 w (mem_waysL.mp hw))) rfl)
noncomputable abbrev Pr:=Int×List Int
noncomputable def pD (p:Pr):D:=.tup [.int p.1,tI p.2]
noncomputable def ltI:List Int->List Int->Bool
 | [],[]=>false
 | [],_::_=>true
 | _::_,[]=>false
 | x::a,y::b=>if x=y then ltI a b else decide (x<y)
noncomputable def ltP (p q:Pr):Bool:=if p.1=q.1 then (if p.2=q.2 then false else ltI p.2 q.2) else decide (p.1<q.1)
theorem yb5:∀ (a b:List Int),qa5 (eI a) (eI b)=some (ltI a b)
 | [],[]=>rfl
 | [],_::_=>rfl
 | _::_,[]=>rfl
 | x::a,y::b=>by
  show (if jA (.int x) (.int y) then (if eqD (.int x) (.int y) then qa5 (eI a) (eI b) else ltD (.int x) (.int y)) else none)=_;rw [if_pos (by rfl),yb5 a b,ltI];show (if (x==y)=true then _ else _)=_
  by_cases h:x=y
  ·rw [if_pos (by simp [h]),if_pos h]
  ·rw [if_neg (by simpa using h),if_neg h];rfl
theorem ydV (p q:Pr):ltD (pD p) (pD q)=some (ltP p q):=by
 show (if jA (.int p.1) (.int q.1) then (if eqD (.int p.1) (.int q.1) then qa5 [tI p.2] [tI q.2] else ltD (.int p.1) (.int q.1)) else none)=_;rw [if_pos (by rfl),ltP];show (if (p.1==q.1)=true then _ else _)=_
 by_cases h:p.1=q.1
 ·rw [if_pos (by simp [h]),if_pos h];show (if jA (tI p.2) (tI q.2) then (if eqD (tI p.2) (tI q.2) then qa5 [] [] else ltD (tI p.2) (tI q.2)) else none)=_;rw [if_pos (ybV _ _),zbg]
  by_cases h2:p.2=q.2
  ·rw [if_pos (decide_eq_true h2),if_pos h2];rfl
  ·rw [if_neg (by simpa using h2),if_neg h2];exact yb5 p.2 q.2
 ·rw [if_neg (by simpa using h),if_neg h];rfl
theorem qbk (p:Pr):noS (pD p)=true:=by
 show (noS (.int p.1)&&yE [tI p.2])=true;rw [show yE [tI p.2]=(noS (tI p.2)&&yE []) from rfl,zY];rfl
theorem ybk (p:Pr):dep (pD p)<=8:=by simp [pD,dep,za5,tI,zaA]
theorem ydh (p q:Pr):qcM (pD p) (pD q)=true:=by
 unfold qcM;rw [zar (qbk p) (qbk q) (by have:=ybk q;omega),decide_eq_true (ybk p),decide_eq_true (ybk q)];rfl
noncomputable def jaD (b:Pr):List Pr->Pr
 | []=>b
 | p::ps=>jaD (if ltP p b then p else b) ps
theorem jbk:∀ (ps:List Pr) (b:Pr),zau (pD b) (ps.map pD)=some (pD (jaD b ps))
 | [],b=>rfl
 | p::ps,b=>by
  rw [List.map_cons,zau,if_pos (ydh p b),ydV,wd,jaD];rw [<-jbk ps];cases ltP p b<;>rfl
theorem jb5 (b:Pr) (ps:List Pr):zal ((b::ps).map pD)=some (pD (jaD b ps)):=by
 show (zau (pD b) (ps.map pD)).bind _=_;rw [jbk];rfl
theorem zaE:∀ (ps:List Pr) (b:Pr),(jaD b ps).1<=b.1/\(∀ q∈ps,(jaD b ps).1<=q.1)/\(jaD b ps=b\/jaD b ps∈ps)
 | [],b=>⟨Int.le_refl _,by simp,.inl rfl⟩
 | p::ps,b=>by
  obtain ⟨h1,h2,h3⟩:=zaE ps (if ltP p b then p else b);rw [jaD]
  have fst:ltP p b=true->p.1<=b.1:=λh=>by
   unfold ltP at h;split at h
   ·omega
   ·have:=ve h;omega
  have snd:ltP p b=false->b.1<=p.1:=λh=>by
   unfold ltP at h;split at h
   ·omega
   ·have:=of_decide_eq_false h;omega
  cases e:ltP p b with
  | true =>
   rw [e] at h1 h2 h3;have e':=fst e;refine ⟨Int.le_trans h1 e',λq hq=>?_,?_⟩
   ·rcases wu.mp hq with z | z
    ·rw [z];exact h1
    ·exact h2 q z
   ·rcases h3 with z | z
    ·exact .inr (by rw [z];simp)
    ·exact .inr (wH _ z)
  | false =>
   rw [e] at h1 h2 h3;have e':=snd e;refine ⟨h1,λq hq=>?_,?_⟩
   ·rcases wu.mp hq with z | z
    ·rw [z];exact Int.le_trans h1 e'
    ·exact h2 q z
   ·rcases h3 with z | z
    ·exact .inl z
    ·exact .inr (wH _ z)
noncomputable def lpL (Ls:List (List (List Int))) (rows:List (List Int)) (A:List (List Int)):List Pr:=A.map λw=>(yaC Ls rows w,w)
noncomputable def jV:List Pr->D
 | []=>.non
 | b::ps=>pD (jaD b ps)
theorem jdh (ps:List Pr):qy .minD [.lst (ps.map pD),.non]=some (jV ps):=by
 show (match ps.map pD with | []=>some D.non | _=>zal (ps.map pD))=_;cases ps with
 | nil=>rfl
 | cons b ps=>exact jb5 b ps
noncomputable def qZ (i14 i18:Nat):Def:=⟨2,2,(.cons (.ret (.blt .minD (.cons (.comp (.tup (.cons (.call i14 (.cons (.var 1) (.cons (.var 0) .nil))) (.cons (.var 0) .nil))) (.one 0) 1 [0] (.data (.call i18 (.cons (.var 0) (.cons (.var 1) .nil)))) .none) (.cons (.cst .non) .nil)))) .nil)⟩
theorem jak {C:Tab} {i14 i18:Nat} {Ls:List (List (List Int))} {rows:List (List Int)} {secs:List Int} {many:Int} {A:List (List Int)} (h18:C i18 [eT Ls rows secs,.int many]=some (.lst (A.map tI))) (h14:∀ w∈A,C i14 [eT Ls rows secs,tI w]=some (.int (yaC Ls rows w))):zB C (qZ i14 i18) [eT Ls rows secs,.int many]=some (jV (lpL Ls rows A)):=by
 refine qc rfl (qe ?_);refine yb0 (yf (rs:=(lpL Ls rows A).map pD) (jf (zc rfl rfl h18) rfl) ?_) rfl (jdh _);rw [lpL,wJ];exact qd (g:=tI) A λw hw=>turn_ev (ρ':=[some (tI w),some (eT Ls rows secs)]) rfl (jx (yb (zc rfl rfl (h14 w hw)) (yb rfl qg)) (show 2<=1000 by decide))
end M
end
section
open PySem Eng LG M DL Q
namespace R
noncomputable def reL {α:Type} (d:α) (p:List Nat) (xs:List α):List α:=p.map λi=>xs.getD i d
section
variable {α:Type} {d:α} {p:List Nat} {xs:List α}
theorem qk {i:Nat} (h:i<xs.length):xs[i]?=some (xs.getD i d):=by rw [wO,List.getElem?_eq_getElem h];rfl
theorem range_getD (d:α) (xs:List α):(List.range xs.length).map (λi=>xs.getD i d)=xs:=by
 apply List.ext_getElem
 ·simp
 ·intro i h1 h2;simp [wO,h2]
theorem zbl (h:p.Perm (List.range xs.length)):(reL d p xs).Perm xs:=by
 have:=h.map λi=>xs.getD i d
 rwa [range_getD] at this
theorem js:(reL d p xs).length=p.length:=wC _
theorem qbl {i:Nat} (h:i<p.length):(reL d p xs).getD i d=xs.getD (p.getD i 0) d:=by
 unfold reL;rw [wO,wx,qk (d:=0) h];rfl
theorem qa2 (hp:∀ i∈p,i<xs.length):∀ x∈reL d p xs,x∈xs:=λx hx=>by
 obtain ⟨i,hi,rfl⟩:=wG.mp hx;exact wR (qk (hp i hi))
theorem zD {n:Nat} (h:p.Perm (List.range n)):∀ i∈p,i<n:=λi hi=>vc.mp (h.mem_iff.mp hi)
theorem zR {n:Nat} (h:p.Perm (List.range n)):p.length=n:=by rw [h.length_eq,List.length_range]
end
theorem ybl (S:List (List Int)) (k:List Int):(jM S k).length=S.count k:=by
 have:S.count k=((List.range S.length).map λi=>S.getD i []).count k:=by rw [range_getD]
 rw [jM,wC,<-List.countP_eq_length_filter,this,List.count,List.countP_map];rfl
theorem qR {S:List (List Int)} {many:Int}:qaC S many=true↔∀ k∈S,many<=(S.count k:Int):=by
 unfold qaC jai;rw [List.all_eq_true];constructor
 ·intro h k hk
  have:=ve (h (jM S k) (wG.mpr ⟨k,(jz S).mpr hk,rfl⟩))
  rwa [ybl] at this
 ·intro h c hc;obtain ⟨k,hk,rfl⟩:=wG.mp hc;exact decide_eq_true (by rw [ybl];exact h k ((jz S).mp hk))
theorem qbv {S S':List (List Int)} {many:Int} (p:S.Perm S'):qaC S many=qaC S' many:=by
 rw [vd,qR,qR];constructor<;>intro h k hk
 ·rw [<-p.count_eq];exact h k (p.mem_iff.mpr hk)
 ·rw [p.count_eq];exact h k (p.mem_iff.mp hk)
theorem zb6 {S:List (List Int)} {many:Int} {x:List Int} (hx:x∈S) (h:qaC S many=true):qaC (S++[x]) many=true:=by
 rw [qR] at *;intro k hk
 have hk':k∈S:=by
  rcases List.mem_append.mp hk with z | z
  ·exact z
  ·rw [w8.mp z];exact hx
 have:=h k hk'
 rw [List.count_append];omega
theorem jbl {a b:List Int} (h:a.Perm b):a.sum=b.sum:=by
 induction h with
 | nil=>rfl
 | cons x _ ih=>simp [ih]
 | swap x y l=>simp;omega
 | trans _ _ h1 h2=>exact h1.trans h2
theorem qb6 {Ls:List (List (List Int))} {rows rows':List (List Int)} {many:Int} (h:rows'.Perm rows):lpL Ls rows' (zw Ls rows' many)=lpL Ls rows (zw Ls rows many):=by
 have e:zw Ls rows' many=zw Ls rows many:=List.filter_congr λw _=>qbv (h.map _)
 rw [e];exact vf λw _=>by rw [yaC,yaC,jbl (h.map _)]
theorem yaU {n:Nat} {p:Nat->Nat} (h:((List.range n).map p).Perm (List.range n)) (P:Nat->Bool):((List.range n).countP λi=>P (p i))=(List.range n).countP P :=
 (List.countP_map (f:=p) (p:=P) (l:=List.range n)).symm.trans (h.countP_eq P)
theorem qcK {S S':List (List Int)} {sec sec' f:Nat->Int} {p:Nat->Nat} (hl:S'.length=S.length) (h:((List.range S.length).map p).Perm (List.range S.length)) (hS:∀ i<S.length,S'.getD i []=S.getD (p i) []) (hs:∀ i<S.length,sec' i=sec (p i)) (q:zcH S sec f):zcH S' sec' λi=>f (p i):=λk x=>by
 rw [hl];have e1:((List.range S.length).countP λi=>decide (S'.getD i []=k/\f (p i)=x))=(List.range S.length).countP λi=>(λj=>decide (S.getD j []=k/\f j=x)) (p i):=qo λi hi=>by rw [hS i (vc.mp hi)]
 have e2:((List.range S.length).countP λi=>decide (S'.getD i []=k/\sec' i=x))=(List.range S.length).countP λi=>(λj=>decide (S.getD j []=k/\sec j=x)) (p i):=qo λi hi=>by rw [hS i (vc.mp hi),hs i (vc.mp hi)]
 rw [e1,e2,yaU h λj=>decide (S.getD j []=k/\f j=x),yaU h λj=>decide (S.getD j []=k/\sec j=x)];exact q k x
theorem zdi {S:List (List Int)} {secs:List Int} {p:List Nat} (hs:secs.length=S.length) (h:p.Perm (List.range S.length)) {j:Nat} (hj:j<S.length) (s:Int):zbv [reL [] p S] (reL 0 p secs) j s↔zbv [S] secs (p.getD j 0) s:=by
 have hl:=zR h;have hm:(List.range S.length).map (λi=>p.getD i 0)=p:=by rw [<-hl];exact range_getD 0 p
 have nd:p.Nodup:=h.symm.nodup List.nodup_range;have hp:((List.range S.length).map λi=>p.getD i 0).Perm (List.range S.length):=by rw [hm];exact h
 have qp:∀ i<S.length,p.idxOf (p.getD i 0)=i:=λi hi=>by
  have hi':i<p.length:=by omega
  have e:p.getD i 0=p[i]:=by simp [wO,hi']
  rw [e];exact List.Nodup.idxOf_getElem nd i hi'
 have pq:∀ i<S.length,p.getD (p.idxOf i) 0=i:=λi hi=>by
  have hi':p.idxOf i<p.length:=List.idxOf_lt_length_iff.mpr (h.mem_iff.mpr (vc.mpr hi));rw [wO,List.getElem?_eq_getElem hi'];exact List.getElem_idxOf hi'
 have ql:∀ i<S.length,p.idxOf i<S.length:=λi hi=>by rw [<-hl];exact List.idxOf_lt_length_iff.mpr (h.mem_iff.mpr (vc.mpr hi))
 have hq:((List.range S.length).map λi=>p.idxOf i).Perm (List.range S.length):=by
  have e:((List.range S.length).map λi=>p.getD i 0).map (λi=>p.idxOf i)=List.range S.length:=by
   rw [wJ];exact (vf λi hi=>qp i (vc.mp hi)).trans (List.map_id _)
  have:=(hp.map λi=>p.idxOf i).symm
  rw [e] at this;exact this
 have aS:∀ i<S.length,(reL [] p S).getD i []=S.getD (p.getD i 0) []:=λi hi=>qbl (by omega)
 have as:∀ i<S.length,(reL 0 p secs).getD i 0=secs.getD (p.getD i 0) 0:=λi hi=>qbl (by omega)
 have ll:(reL [] p S).length=S.length:=by rw [js,hl]
 constructor
 ·rintro ⟨f,e,q⟩;refine ⟨λi=>f (p.idxOf i),(congrArg f (qp j hj)).trans e,λS' hS'=>?_⟩;rw [w8.mp hS'];refine qcK (S:=reL [] p S) ll.symm (by rw [ll];exact hq) (λi hi=>?_) (λi hi=>?_) (q _ (w8.mpr rfl))
  ·rw [ll] at hi;rw [aS _ (ql i hi),pq i hi]
  ·rw [ll] at hi;rw [as _ (ql i hi),pq i hi]
 ·rintro ⟨f,e,q⟩;refine ⟨λi=>f (p.getD i 0),e,λS' hS'=>?_⟩;rw [w8.mp hS'];exact qcK ll hp aS as (q _ (w8.mpr rfl))
theorem ya2 {S:List (List Int)} {sec f:Nat->Int} (q:zcH S sec f) {i:Nat} (hi:i<S.length):∃ j,j<S.length/\sec j=f i:=by
 have h1:0<(List.range S.length).countP λj=>decide (S.getD j []=S.getD i []/\f j=f i):=List.countP_pos_iff.mpr ⟨i,vc.mpr hi,by simp⟩
 obtain ⟨j,hj,e⟩:=List.countP_pos_iff.mp (wL h1 (q _ _));exact ⟨j,vc.mp hj,(ve e).2⟩
theorem ycK {S:List (List Int)} {sec sec' f:Nat->Int} {g:Int->Int} (inj:∀ i j,i<S.length->j<S.length->g (sec i)=g (sec j)->sec i=sec j) (hs:∀ i<S.length,sec' i=g (sec i)) (q:zcH S sec f):zcH S sec' λi=>g (f i):=λk x=>by
 by_cases z:∃ j,j<S.length/\g (sec j)=x
 ·obtain ⟨j,hj,e⟩:=z
  have e1:((List.range S.length).countP λi=>decide (S.getD i []=k/\g (f i)=x))=(List.range S.length).countP λi=>decide (S.getD i []=k/\f i=sec j):=qo λi hi=>by
   obtain ⟨l,hl,el⟩:=ya2 q (vc.mp hi);rw [decide_eq_decide,<-el,<-e];exact ⟨λw=>⟨w.1,inj l j hl hj w.2⟩,λw=>⟨w.1,by rw [w.2]⟩⟩
  have e2:((List.range S.length).countP λi=>decide (S.getD i []=k/\sec' i=x))=(List.range S.length).countP λi=>decide (S.getD i []=k/\sec i=sec j):=qo λi hi=>by
   have hi:=vc.mp hi;rw [decide_eq_decide,hs i hi,<-e];exact ⟨λw=>⟨w.1,inj i j hi hj w.2⟩,λw=>⟨w.1,by rw [w.2]⟩⟩
  rw [e1,e2];exact q k _
 ·rw [qaS λi hi=>by
   obtain ⟨l,hl,el⟩:=ya2 q (vc.mp hi);rw [decide_eq_false_iff_not];show ¬ (_/\g (f i)=x);rw [<-el];exact λw=>z ⟨l,hl,w.2⟩]
  exact Nat.zero_le _
noncomputable def nm (p:List Int) (s:Int):Int:=p.getD s.toNat 0
section
variable {p:List Int} (h:p.Perm [0,1,2,3])
include h
theorem jdV {s:Int} (h0:0<=s) (h4:s<4):p[s.toNat]?=some (nm p s):=qk (by rw [h.length_eq];show s.toNat<4;omega)
theorem qdi {s:Int} (h0:0<=s) (h4:s<4):0<=nm p s/\nm p s<4:=by
 have:=h.mem_iff.mp (wR (jdV h h0 h4))
 simp at this;omega
theorem zW {s:Int} (h0:0<=s) (h4:s<4):(p.idxOf (nm p s):Int)=s:=by
 have nd:p.Nodup:=h.symm.nodup (by decide);have hi:s.toNat<p.length:=by rw [h.length_eq];show s.toNat<4;omega
 have e:nm p s=p[s.toNat]:=by simp [nm,wO,hi]
 rw [e,List.Nodup.idxOf_getElem nd _ hi];omega
theorem jcK {s t:Int} (h0:0<=s) (h4:s<4) (h0':0<=t) (h4':t<4) (e:nm p s=nm p t):s=t:=by rw [<-zW h h0 h4,e,zW h h0' h4']
theorem ydi {S:List (List Int)} {secs:List Int} (hb:∀ s∈secs,0<=s/\s<4) (hs:secs.length=S.length) {r:Nat} (hr:r<S.length) (t:Int):zbv [S] (secs.map (nm p)) r t↔∃ s,(0<=s/\s<4)/\nm p s=t/\zbv [S] secs r s:=by
 have bd:∀ i<S.length,0<=secs.getD i 0/\secs.getD i 0<4:=λi hi=>hb _ (wR (qk (d:=0) (by omega)))
 have at':∀ i<S.length,(secs.map (nm p)).getD i 0=nm p (secs.getD i 0):=λi hi=>by
  rw [wO,wx,qk (d:=0) (by omega:i<secs.length)];rfl
 constructor
 ·rintro ⟨f,e,q⟩;have q:=q S (w8.mpr rfl);obtain ⟨j,hj,ej⟩:=ya2 q hr;rw [at' j hj,e] at ej;refine ⟨secs.getD j 0,bd j hj,ej,λi=>(p.idxOf (f i):Int),by show (p.idxOf (f r):Int)=_;rw [e,<-ej];exact zW h (bd j hj).1 (bd j hj).2,λS' hS'=>?_⟩;rw [w8.mp hS'];refine ycK (sec:=λi=>(secs.map (nm p)).getD i 0) (g:=λx=>(p.idxOf x:Int)) (λi j hi hj e=>?_) (λi hi=>?_) q
  ·have e:(p.idxOf ((secs.map (nm p)).getD i 0):Int)=(p.idxOf ((secs.map (nm p)).getD j 0):Int):=e;show (secs.map (nm p)).getD i 0=(secs.map (nm p)).getD j 0;rw [at' i hi,at' j hj] at e ⊢;rw [zW h (bd i hi).1 (bd i hi).2,zW h (bd j hj).1 (bd j hj).2] at e;rw [e]
  ·show secs.getD i 0=(p.idxOf ((secs.map (nm p)).getD i 0):Int);rw [at' i hi,zW h (bd i hi).1 (bd i hi).2]
 ·rintro ⟨s,hs',rfl,f,e,q⟩;refine ⟨λi=>nm p (f i),congrArg (nm p) e,λS' hS'=>?_⟩;rw [w8.mp hS'];exact ycK (λi j hi hj e=>jcK h (bd i hi).1 (bd i hi).2 (bd j hj).1 (bd j hj).2 e) at' (q S (w8.mpr rfl))
theorem jct {S:List (List Int)} {secs:List Int} (hb:∀ s∈secs,0<=s/\s<4) (hs:secs.length=S.length) {r:Nat} (hr:r<S.length):jQ [S] (secs.map (nm p)) r=sortI ((jQ [S] secs r).map (nm p)):=by
 have hb':∀ s∈secs.map (nm p),0<=s/\s<4:=λt ht=>by
  obtain ⟨s,hs,rfl⟩:=wG.mp ht;exact qdi h (hb s hs).1 (hb s hs).2
 have nd:∀ q:Int->Bool,(([0,1,2,3]:List Int).filter q).Nodup:=λq=>List.Pairwise.filter q (by decide:([0,1,2,3]:List Int).Nodup)
 refine ym (List.Perm.trans ?_ (sortI_perm _).symm) (List.Pairwise.filter _ (by decide)) (zq _);refine (List.perm_ext_iff_of_nodup (nd _) ?_).mpr λt=>?_
 ·refine List.pairwise_map.mpr (List.Pairwise.imp_of_mem (λ{x y} hx hy ne e=>ne ?_) (nd _));have hx:=((qA hb).mp hx).1;have hy:=((qA hb).mp hy).1;exact jcK h hx.1 hx.2 hy.1 hy.2 e
 ·have:t∈jQ [S] (secs.map (nm p)) r↔_:=qA hb';refine this.trans ?_;rw [ydi h hb hs hr,wG];constructor
  ·rintro ⟨_,s,hs',e,q⟩;exact ⟨s,(qA hb).mpr ⟨hs',q⟩,e⟩
  ·rintro ⟨s,hs',rfl⟩;obtain ⟨b,q⟩:=(qA hb).mp hs';exact ⟨qdi h b.1 b.2,s,b,rfl,q⟩
end
end R
end
section
open PySem Eng LG M DL Q
namespace R
theorem zbm {α β γ:Type} {g:α->β->γ} {d:α} {e:β} {c:γ} {xs:List α} {ys:List β} (hl:xs.length=ys.length):∀ {p:List Nat},(∀ i∈p,i<xs.length)->List.zipWith g (reL d p xs) (reL e p ys)=reL c p (List.zipWith g xs ys)
 | [],_=>rfl
 | i::p,h=>by
  have hi:=h i (by simp);have ih:=zbm (g:=g) (d:=d) (e:=e) (c:=c) hl (p:=p) λj hj=>h j (by simp [hj])
  show g (xs.getD i d) (ys.getD i e)::List.zipWith g (reL d p xs) (reL e p ys)=(List.zipWith g xs ys).getD i c::reL c p (List.zipWith g xs ys);rw [ih,wO (l:=List.zipWith g xs ys),List.getElem?_zipWith,qk (d:=d) hi,qk (d:=e) (hl▸hi)];rfl
theorem yb6 {α β:Type} {f:α->β} {d:α} {e:β} {xs:List α} {p:List Nat} (h:∀ i∈p,i<xs.length):(reL d p xs).map f=reL e p (xs.map f):=by
 unfold reL;rw [wJ];refine vf λi hi=>?_
 rw [wO (l:=xs.map f),wx,qk (d:=d) (h i hi)];rfl
theorem qN:∀ (Ls:List (List (List Int))) (w:List Int),jc Ls w=List.zipWith (λL i=>L.getD i.toNat []) Ls w
 | [],w=>by cases w<;>rfl
 | _::_,[]=>rfl
 | L::Ls,i::w=>by rw [jc,List.zipWith_cons_cons,qN Ls w]
theorem qH:∀ (ss:List (List Int)) (r:List Int),jj ss r=List.zipWith (λs v=>s.getD v.toNat 0) ss r
 | [],w=>by cases w<;>rfl
 | _::_,[]=>rfl
 | s::ss,v::r=>by rw [jj,List.zipWith_cons_cons,qH ss r]
theorem yN:∀ (ss:List (List Int)) (r:List Int),zy ss r=(List.zipWith (λ(s:List Int) (v:Int)=>((jcG s (s.getD v.toNat 0):Int)-1)) ss r).sum
 | [],w=>by cases w<;>rfl
 | _::_,[]=>rfl
 | s::ss,v::r=>by rw [zy,List.zipWith_cons_cons,List.sum_cons,yN ss r]
theorem zcL {r bs:List Int} {p:List Nat} (hp:∀ i∈p,i<r.length) (h:InB r bs):InB (reL 0 p r) (reL 0 p bs):=by
 refine ⟨by rw [js,js],λi hi=>?_⟩;rw [js] at hi;rw [qbl hi,qbl hi];exact h.2 _ (hp _ (wR (qk hi)))
section
variable {Ls:List (List (List Int))} {rows:List (List Int)} {secs:List Int} {p:List Nat} (T:TabOk Ls rows secs) (hp:p.Perm (List.range Ls.length))
include T hp
theorem jah {r:List Int} (hr:r∈rows):r.length=Ls.length:=by
 have:=(row_iff.mp (T.row r hr)).1
 simpa [zcG] using this
theorem zdW:TabOk (reL [] p Ls) (rows.map (reL 0 p)) secs:=by
 have hl:=zR hp;have lt:=zD hp;refine ⟨by rw [js,hl];exact T.c1,by rw [js,hl];exact T.c3,λL hL=>T.lad L (qa2 lt L hL),by rw [wC];exact T.r1,by rw [wC];exact T.r8,λr' hr'=>?_,by rw [wC];exact T.sl,T.sec⟩;obtain ⟨r,hr,rfl⟩:=wG.mp hr';rw [row_iff];have e:zcG (reL [] p Ls)=reL 0 p (zcG Ls):=yb6 lt;rw [e];exact zcL (λi hi=>by rw [jah T hp hr];exact lt i hi) (row_iff.mp (T.row r hr))
theorem qdW {w:List Int} (W:zH Ls w):zH (reL [] p Ls) (reL 0 p w):=by
 have lt:=zD hp;have e:(reL [] p Ls).map (λL=>(L.length:Int))=reL 0 p (Ls.map λL=>(L.length:Int)):=yb6 lt;unfold zH;rw [e];exact zcL (λi hi=>by have:=W.1;rw [wC] at this;rw [this];exact lt i hi) W
theorem qbm {w:List Int} (W:zH Ls w):jc (reL [] p Ls) (reL 0 p w)=reL [] p (jc Ls w):=by
 rw [qN,qN];exact zbm (by have:=W.1;rw [wC] at this;exact this.symm) (zD hp)
theorem yH {w:List Int} (W:zH Ls w):(jc Ls w).length=Ls.length:=by
 have:=W.1;rw [wC] at this
 rw [yM,this,Nat.min_self]
theorem zcu {w:List Int} (W:zH Ls w):zl (reL [] p Ls) (rows.map (reL 0 p)) (reL 0 p w)=(zl Ls rows w).map (reL 0 p):=by
 unfold zl;rw [wJ,wJ,qbm T hp W];refine vf λr hr=>?_
 show jj (reL [] p (jc Ls w)) (reL 0 p r)=reL 0 p (jj (jc Ls w) r);rw [qH,qH];exact zbm (by rw [yH T hp W,jah T hp hr]) (λi hi=>by rw [yH T hp W];exact zD hp i hi)
theorem jdi {w:List Int} {many:Int} (W:zH Ls w) (h:sfB Ls rows many w=true):sfB (reL [] p Ls) (rows.map (reL 0 p)) many (reL 0 p w)=true:=by
 unfold sfB at *;rw [zcu T hp W];rw [qR] at *;intro k' hk';obtain ⟨k,hk,rfl⟩:=wG.mp hk';refine Int.le_trans (h k hk) (Int.ofNat_le.mpr ?_);rw [List.count,List.count,List.countP_map];refine List.countP_mono_left λx _ e=>?_
 have:x=k:=by simpa using e
 subst this
 simp
theorem zdj {w:List Int} (W:zH Ls w):yaC (reL [] p Ls) (rows.map (reL 0 p)) (reL 0 p w)=yaC Ls rows w:=by
 unfold yaC;rw [wJ,qbm T hp W];refine congrArg List.sum (vf λr hr=>?_);show zy (reL [] p (jc Ls w)) (reL 0 p r)=zy (jc Ls w) r;have el:(jc Ls w).length=r.length:=by rw [yH T hp W,jah T hp hr]
 rw [yN,yN,zbm (c:=0) el (λi hi=>by rw [yH T hp W];exact zD hp i hi)];refine jbl (zbl ?_);rw [List.length_zipWith,<-el,Nat.min_self,yH T hp W];exact hp
theorem jb6 {many:Int}:∀ q∈lpL Ls rows (zw Ls rows many),∃ q'∈lpL (reL [] p Ls) (rows.map (reL 0 p)) (zw (reL [] p Ls) (rows.map (reL 0 p)) many),q'.1=q.1:=λq hq=>by
 obtain ⟨w,hw,rfl⟩:=wG.mp hq;obtain ⟨h1,h2⟩:=List.mem_filter.mp hw;have W:=mem_waysL.mp h1;exact ⟨_,wG.mpr ⟨reL 0 p w,List.mem_filter.mpr ⟨mem_waysL.mpr (qdW T hp W),jdi T hp W h2⟩,rfl⟩,zdj T hp W⟩
end
noncomputable def swP (n a b:Nat):List Nat:=(List.range n).map (sw a b)
theorem qdj {a b n i:Nat} (ha:a<n) (hb:b<n) (hi:i<n):sw a b i<n:=by unfold sw;split;exact hb;split;exact ha;exact hi
theorem ybm {n a b:Nat} (ha:a<n) (hb:b<n):(swP n a b).Perm (List.range n):=by
 refine (List.perm_ext_iff_of_nodup ?_ List.nodup_range).mpr λi=>?_
 ·refine List.Pairwise.map _ (λx y h e=>h ?_) List.nodup_range;rw [<-ycr a b x,e,ycr]
 ·rw [swP,wG,vc];constructor
  ·rintro ⟨j,hj,rfl⟩;exact qdj ha hb (vc.mp hj)
  ·intro hi;exact ⟨sw a b i,vc.mpr (qdj ha hb hi),ycr a b i⟩
theorem ydW {n a b i:Nat} (hi:i<n):(swP n a b)[i]?=some (sw a b i):=by rw [swP,wx,List.getElem?_range hi];rfl
theorem jdW {α:Type} {d:α} {xs:List α} {a b:Nat} (ha:a<xs.length) (hb:b<xs.length):reL d (swP xs.length a b) (reL d (swP xs.length a b) xs)=xs:=by
 refine Eq.trans ?_ (range_getD d xs);unfold reL swP;rw [wJ,wJ];refine vf λi hi=>?_
 have hi:=vc.mp hi;show (((List.range xs.length).map ((λi=>xs.getD i d)∘sw a b)).getD (sw a b i) d)=_;rw [wO,wx,List.getElem?_range (qdj ha hb hi)];show xs.getD (sw a b (sw a b i)) d=_;rw [ycr]
theorem qcL {α:Type} {d:α} {xs:List α} {a b:Nat} (ha:a<xs.length) (hb:b<xs.length):(xs.set a (xs.getD b d)).set b (xs.getD a d)=reL d (swP xs.length a b) xs:=by
 apply List.ext_getElem?;intro i;rw [List.getElem?_set,List.length_set,List.getElem?_set];unfold reL;rw [wx]
 by_cases hi:i<xs.length
 ·rw [ydW hi];show _=some (xs.getD (sw a b i) d);unfold sw
  by_cases e:b=i
  ·subst e;rw [if_pos rfl,if_pos hb]
   by_cases e2:b=a
   ·rw [if_pos e2,e2]
   ·rw [if_neg e2,if_pos rfl]
  ·rw [if_neg e]
   by_cases e2:a=i
   ·subst e2;rw [if_pos rfl,if_pos ha,if_pos rfl]
   ·rw [if_neg e2,if_neg (λz=>e2 z.symm),if_neg (λz=>e z.symm)];exact qk hi
 ·have h2:(swP xs.length a b)[i]?=none:=by rw [List.getElem?_eq_none_iff,swP,wC,List.length_range];omega
  rw [h2,if_neg (by omega),if_neg (by omega),List.getElem?_eq_none_iff.mpr (by omega)];rfl
theorem zb7 {A B:List Pr} (h1:∀ q∈A,∃ q'∈B,q'.1=q.1) (h2:∀ q∈B,∃ q'∈A,q'.1=q.1):(A=[]/\B=[])\/∃ a as b bs,A=a::as/\B=b::bs/\(jaD a as).1=(jaD b bs).1:=by
 cases A with
 | nil =>
  cases B with
  | nil=>exact .inl ⟨rfl,rfl⟩
  | cons b bs=>obtain ⟨_,h,_⟩:=h2 b (by simp);cases h
 | cons a as =>
  cases B with
  | nil=>obtain ⟨_,h,_⟩:=h1 a (by simp);cases h
  | cons b bs =>
   refine .inr ⟨a,as,b,bs,rfl,rfl,?_⟩
   have mem:∀ (x:Pr) (xs:List Pr),jaD x xs∈x::xs:=λx xs=>by
    rcases (zaE xs x).2.2 with e | e
    ·rw [e];simp
    ·exact wH _ e
   have le:∀ (x:Pr) (xs:List Pr),∀ q∈x::xs,(jaD x xs).1<=q.1:=λx xs q hq=>by
    rcases wu.mp hq with e | e
    ·rw [e];exact (zaE xs x).1
    ·exact (zaE xs x).2.1 q e
   obtain ⟨q,hq,e⟩:=h1 _ (mem a as);obtain ⟨q2,hq2,e2⟩:=h2 _ (mem b bs)
   have:=le b bs q hq
   have:=le a as q2 hq2
   omega
end R
end
section
namespace K60
open PySem Eng M Q
noncomputable def qat:Def:=⟨4,2,(.cons (.set .pu (.one 2) (.blt .tuple (.cons (.comp (.idx (.idx (.var 1) (.cst (.int 1))) (.var 0)) (.one 0) 1 [0] (.data (.var 1)) .none) .nil))) (.cons (.set .pu (.one 3) (.blt .tuple (.cons (.comp (.idx (.idx (.var 1) (.cst (.int 2))) (.var 0)) (.one 0) 1 [0] (.data (.var 1)) .none) .nil))) (.cons (.ret (.tup (.cons (.idx (.var 0) (.cst (.int 0))) (.cons (.var 2) (.cons (.var 3) .nil))))) .nil)))⟩
noncomputable def yat:Def:=⟨3,3,(.cons (.ret (.tup (.cons (.idx (.var 0) (.cst (.int 0))) (.cons (.bin .Add (.idx (.var 0) (.cst (.int 1))) (.tup (.cons (.var 1) .nil))) (.cons (.bin .Add (.idx (.var 0) (.cst (.int 2))) (.tup (.cons (.var 2) .nil))) .nil))))) .nil)⟩
noncomputable def yR:Def:=⟨2,2,(.cons (.ret (.call 6 (.cons (.var 0) (.cons (.comp (.var 0) (.one 0) 1 [1] (.rng (.cons (.blt .len (.cons (.idx (.var 0) (.cst (.int 1))) .nil)) .nil)) (.some (.cmp .NotEq (.var 0) (.var 1)))) .nil)))) .nil)⟩
noncomputable def qr:Def:=⟨4,3,(.cons (.set .ow (.one 3) (.blt .list (.cons (.var 0) .nil))) (.cons (.put 3 (.var 1) (.idx (.var 0) (.var 2))) (.cons (.put 3 (.var 2) (.idx (.var 0) (.var 1))) (.cons (.ret (.blt .tuple (.cons (.var 3) .nil))) .nil))))⟩
noncomputable def jaU:Def:=⟨5,3,(.cons (.set .pu (.one 3) (.call 9 (.cons (.idx (.var 0) (.cst (.int 0))) (.cons (.var 1) (.cons (.var 2) .nil))))) (.cons (.set .pu (.one 4) (.blt .tuple (.cons (.comp (.call 9 (.cons (.var 0) (.cons (.var 1) (.cons (.var 2) .nil)))) (.one 0) 1 [1,2] (.data (.idx (.var 0) (.cst (.int 1)))) .none) .nil))) (.cons (.ret (.tup (.cons (.var 3) (.cons (.var 4) (.cons (.idx (.var 0) (.cst (.int 2))) .nil))))) .nil)))⟩
noncomputable def yA:Def:=⟨2,2,(.cons (.ret (.tup (.cons (.idx (.var 0) (.cst (.int 0))) (.cons (.idx (.var 0) (.cst (.int 1))) (.cons (.blt .tuple (.cons (.comp (.idx (.var 1) (.var 0)) (.one 0) 1 [1] (.data (.idx (.var 0) (.cst (.int 2)))) .none) .nil)) .nil))))) .nil)⟩
noncomputable def jR:Def:=⟨14,4,(.cons (.set .pu (.many [4,5,6]) (.var 0)) (.cons (.set .pu (.one 7) (.blt .len (.cons (.var 4) .nil))) (.cons (.set .pu (.one 8) (.bin .Mod (.var 1) (.var 7))) (.cons (.set .pu (.one 9) (.bin .Mod (.bin .FloorDiv (.var 1) (.cst (.int 3))) (.var 7))) (.cons (.set .ow (.one 10) (.ofi .list (.rng (.cons (.var 7) .nil)))) (.cons (.put 10 (.var 8) (.var 9)) (.cons (.put 10 (.var 9) (.var 8)) (.cons (.set .pu (.one 11) (.call 10 (.cons (.var 0) (.cons (.var 8) (.cons (.var 9) .nil))))) (.cons (.set .cl (.one 12) (.blt .tuple (.cons (.comp (.blt .tuple (.cons (.comp (.idx (.var 1) (.var 0)) (.one 0) 1 [0] (.data (.var 1)) .none) .nil)) (.one 0) 1 [10] (.data (.var 5)) .none) .nil))) (.cons (.ite (.cmp .NotEq (.var 11) (.tup (.cons (.blt .tuple (.cons (.comp (.idx (.var 1) (.var 0)) (.one 0) 1 [4] (.data (.var 10)) .none) .nil)) (.cons (.var 12) (.cons (.var 6) .nil))))) (.cons (.ret (.cst (.bl false))) .nil) .nil) (.cons (.set .pu (.one 13) (.call 21 (.cons (.var 11) (.cons (.var 2) .nil)))) (.cons (.ret (.and (.cmp .Eq (.cmp .Is (.var 13) (.cst .non)) (.cmp .Is (.var 3) (.cst .non))) (.or (.cmp .Is (.var 13) (.cst .non)) (.cmp .Eq (.idx (.var 13) (.cst (.int 0))) (.idx (.var 3) (.cst (.int 0))))))) .nil))))))))))))⟩
noncomputable def zek:Def:=⟨13,1,(.cons (.set .pu (.one 1) (.call 4 (.cons (.call 1 (.cons (.var 0) (.cons (.cst (.int 0)) .nil))) .nil))) (.cons (.set .pu (.many [2,3,4]) (.var 1)) (.cons (.set .pu (.one 5) (.bin .Add (.cst (.int 1)) (.bin .Mod (.call 1 (.cons (.var 0) (.cons (.cst (.int 1)) .nil))) (.cst (.int 4))))) (.cons (.set .pu (.one 6) (.call 21 (.cons (.var 1) (.cons (.var 5) .nil)))) (.cons (.set .pu (.one 7) (.call 5 (.cons (.call 1 (.cons (.var 0) (.cons (.cst (.int 2)) .nil))) (.cons (.var 1) .nil)))) (.srt 8 (.call 2 (.cons (.call 1 (.cons (.var 1) (.cons (.cst (.int 3)) .nil))) (.cons (.var 0) .nil))) [0] (.cons (.blt .len (.cons (.var 3) .nil)) .nil) (.cons (.set .pu (.one 9) (.call 6 (.cons (.var 1) (.cons (.var 8) .nil)))) (.cons (.ite (.cmp .NotEq (.var 9) (.tup (.cons (.var 2) (.cons (.blt .tuple (.cons (.comp (.idx (.var 1) (.var 0)) (.one 0) 1 [3] (.data (.var 8)) .none) .nil)) (.cons (.blt .tuple (.cons (.comp (.idx (.var 1) (.var 0)) (.one 0) 1 [4] (.data (.var 8)) .none) .nil)) .nil))))) (.cons (.ret (.cst (.bl false))) .nil) .nil) (.cons (.ite (.or (.cmp .NotEq (.call 21 (.cons (.var 9) (.cons (.var 5) .nil))) (.var 6)) (.cmp .NotEq (.call 29 (.cons (.var 9) (.cons (.tup (.cons (.var 7) .nil)) (.cons (.cst (.int 0)) .nil)))) (.call 29 (.cons (.var 1) (.cons (.tup (.cons (.var 7) .nil)) (.cons (.idx (.var 8) (.cst (.int 0))) .nil)))))) (.cons (.ret (.cst (.bl false))) .nil) .nil) (.srt 10 (.call 2 (.cons (.call 1 (.cons (.var 1) (.cons (.cst (.int 4)) .nil))) (.cons (.var 0) .nil))) [0] (.cons (.cst (.int 4)) .nil) (.cons (.set .pu (.one 9) (.call 11 (.cons (.var 1) (.cons (.var 10) .nil)))) (.cons (.ite (.cmp .NotEq (.var 9) (.tup (.cons (.var 2) (.cons (.var 3) (.cons (.blt .tuple (.cons (.comp (.idx (.var 1) (.var 0)) (.one 0) 1 [10] (.data (.var 4)) .none) .nil)) .nil))))) (.cons (.ret (.cst (.bl false))) .nil) .nil) (.cons (.ite (.cmp .NotEq (.call 29 (.cons (.var 9) (.cons (.tup (.cons (.var 7) .nil)) (.cons (.cst (.int 0)) .nil)))) (.blt .tuple (.cons (.blt .sorted (.cons (.comp (.idx (.var 1) (.var 0)) (.one 0) 1 [10] (.data (.call 29 (.cons (.var 1) (.cons (.tup (.cons (.var 7) .nil)) (.cons (.cst (.int 0)) .nil))))) .none) .nil)) .nil))) (.cons (.ret (.cst (.bl false))) .nil) .nil) (.cons (.set .pu (.one 11) (.bin .Mod (.call 1 (.cons (.var 0) (.cons (.cst (.int 5)) .nil))) (.blt .len (.cons (.var 3) .nil)))) (.cons (.set .pu (.one 9) (.call 7 (.cons (.var 1) (.cons (.idx (.var 3) (.var 11)) (.cons (.cst (.int 3)) .nil))))) (.cons (.ite (.cmp .NotEq (.var 9) (.tup (.cons (.var 2) (.cons (.bin .Add (.var 3) (.tup (.cons (.idx (.var 3) (.var 11)) .nil))) (.cons (.bin .Add (.var 4) (.tup (.cons (.cst (.int 3)) .nil))) .nil))))) (.cons (.ret (.cst (.bl false))) .nil) .nil) (.cons (.ite (.and (.call 17 (.cons (.var 1) (.cons (.var 7) (.cons (.var 5) .nil)))) (.not (.call 17 (.cons (.var 9) (.cons (.var 7) (.cons (.var 5) .nil)))))) (.cons (.ret (.cst (.bl false))) .nil) .nil) (.cons (.set .pu (.one 12) (.tup (.cons (.var 2) (.cons (.bin .Add (.slc (.var 3) .none (.some (.var 11))) (.slc (.var 3) (.some (.bin .Add (.var 11) (.cst (.int 1)))) .none)) (.cons (.bin .Add (.slc (.var 4) .none (.some (.var 11))) (.slc (.var 4) (.some (.bin .Add (.var 11) (.cst (.int 1)))) .none)) .nil))))) (.cons (.ite (.and (.cmp .Gt (.blt .len (.cons (.var 3) .nil)) (.cst (.int 1))) (.cmp .NotEq (.call 8 (.cons (.var 1) (.cons (.var 11) .nil))) (.var 12))) (.cons (.ret (.cst (.bl false))) .nil) .nil) (.cons (.ret (.call 30 (.cons (.var 1) (.cons (.call 1 (.cons (.var 0) (.cons (.cst (.int 6)) .nil))) (.cons (.var 5) (.cons (.var 6) .nil)))))) .nil))))))))))))))))))))⟩
noncomputable def prog:List Def:=[LG.jP,LG.yL,LG.jL,LG.d_law_ladder,LG.zM,LG.zaP,qat,yat,yR,qr,jaU,yA,qag,yar,zbZ 12 13,qaQ 14,yas,yaQ 15,jar,ycG 13 18,yah 16 17,qZ 19 20,zcJ 15,c_places,jb3,yQ,zZ 25,ycI,jdU 26 27 28,ycJ 22 23 24 26 27 28,jR,zek]
end K60
end
section
open PySem Eng LG M DL Q
namespace R
theorem ycL {C:Tab} {ρ:List Sl} {i:Nat} {e:Eng.Code} {keep:List Nat} {cs:Codes} {r:Stms} {dx xs:List D} {d:D} (h1:evs C cs (vP ρ)=some dx) (h2:rngD dx=some xs) (h3:xs.length<64) (h4:∀ x∈xs,∃ k,ev C e (some x::keep.map λi=>((vP ρ)[i]?).join)=some (.int k)) (h5:∀ ys,ys.Perm xs->exs C r (ρ.set i (.pu (.tup ys)))=some (.rt d)):exs C (.srt i e keep cs r) ρ=some (.rt d):=by
 rw [exs,h1,wd,h2,wd];exact jcM h3 h4 h5
theorem jbm {α β:Type} {f:α->β} {g:β->α} (gf:∀ x,g (f x)=x) {l:List β} {xs:List α} (h:l.Perm (xs.map f)):∃ zs:List α,l=zs.map f/\zs.Perm xs:=by
 refine ⟨l.map g,?_,?_⟩
 ·rw [wJ];refine ((vf λy hy=>?_).trans (List.map_id l)).symm;obtain ⟨x,_,rfl⟩:=wG.mp (h.mem_iff.mp hy);show f (g (f x))=f x;rw [gf]
 ·have:=h.map g;rw [wJ] at this;exact this.trans (by rw [(vf λx _=>gf x:xs.map (g∘f)=xs.map id),List.map_id])
noncomputable def unD:D->Int
 | .int i=>i
 | _=>0
theorem qb7 {ys:List D} {ns:List Int} (h:ys.Perm (eI ns)):∃ zs:List Int,ys=eI zs/\zs.Perm ns:=jbm (g:=unD) (λ_=>rfl) h
theorem ydj {ys:List D} {ns:List Nat} (h:ys.Perm (eI (nI ns))):∃ zs:List Nat,ys=eI (nI zs)/\zs.Perm ns:=by
 obtain ⟨zs,rfl,h2⟩:=qb7 h;obtain ⟨us,rfl,h3⟩:=jbm (f:=λn:Nat=>(n:Int)) (g:=Int.toNat) (λn=>wV n) h2;exact ⟨us,rfl,h3⟩
theorem pick_run {C:Tab} {ρ:En} {x:D} {m:Nat} {α:Type} {g:α->D} {xs:List α} {d:α} {is:List Int} (h0:ρ[m]?=some (some x)) (hx:x=.tup (xs.map g)) (hp:∀ i∈is,0<=i/\i<(xs.length:Int)):gather (turn C (.idx (.var 1) (.var 0)) (.one 0) 1 [m] .none ρ) (eI is)=some ((is.map λi=>xs.getD i.toNat d).map g):=by
 rw [wJ];refine qd is λi hi=>?_
 refine turn_ev (ρ':=[some (.int i),some x]) (by show some (([none]++[(ρ[m]?).join]).set 0 (some (.int i)))=_;rw [h0];rfl) (jh rfl rfl ?_);subst hx;obtain ⟨a,b⟩:=hp i hi;exact yu a (by rw [wx,qk (d:=d) (by omega:i.toNat<xs.length)];rfl)
theorem zaV {C:Tab} {ρ:En} {t x:D} {j:Int} {α:Type} {g:α->D} {xs:List α} {d:α} {is:List Int} (h0:ρ[0]?=some (some t)) (hj:jaE t (.int j)=some (.tup (xs.map g))) (hp:∀ i∈is,0<=i/\i<(xs.length:Int)):gather (turn C (.idx (.idx (.var 1) (.cst (.int j))) (.var 0)) (.one 0) 1 [0] .none ρ) (eI is)=some ((is.map λi=>xs.getD i.toNat d).map g):=by
 rw [wJ];refine qd is λi hi=>?_
 refine turn_ev (ρ':=[some (.int i),some t]) (by show some (([none]++[(ρ[0]?).join]).set 0 (some (.int i)))=_;rw [h0];rfl) (jh (jh rfl rfl hj) rfl ?_);obtain ⟨a,b⟩:=hp i hi;exact yu a (by rw [wx,qk (d:=d) (by omega:i.toNat<xs.length)];rfl)
theorem qcu {α:Type} {d:α} {xs:List α} (p:List Nat):((nI p).map λi=>xs.getD i.toNat d)=reL d p xs:=by
 unfold nI reL;rw [wJ];rfl
theorem ybv {p:List Nat} {n:Nat} (h:∀ i∈p,i<n):∀ i∈nI p,0<=i/\i<(n:Int):=λi hi=>by
 obtain ⟨k,hk,rfl⟩:=wG.mp hi
 have:=h k hk
 omega
theorem le3 {x y z:D}:[x,y,z].length<=1000:=show 3<=1000 by decide
theorem le1 {x:D}:[x].length<=1000:=show 1<=1000 by decide
section
variable {C:Tab} {Ls:List (List (List Int))} {rows:List (List Int)} {secs:List Int}
theorem yZ {x:D} {p:List Nat} (hx:itemsD x=some (eI (nI p))) (hp:∀ i∈p,i<rows.length) (hs:secs.length=rows.length):zB C K60.qat [eT Ls rows secs,x]=some (eT Ls (reL [] p rows) (reL 0 p secs)):=by
 have e1:=zaV (C:=C) (ρ:=[some (eT Ls rows secs),some x,none,none]) (t:=eT Ls rows secs) (j:=1) (g:=tI) (xs:=rows) (d:=[]) (is:=nI p) (x:=x) rfl rfl (ybv hp);have e2:=zaV (C:=C) (ρ:=[some (eT Ls rows secs),some x,some (.tup ((reL [] p rows).map tI)),none]) (t:=eT Ls rows secs) (j:=2) (g:=D.int) (xs:=secs) (d:=0) (is:=nI p) (x:=x) rfl rfl (ybv λi hi=>by rw [hs];exact hp i hi);rw [qcu] at e1 e2;refine qc rfl ?_;refine yg (d:=.tup ((reL [] p rows).map tI)) (jg (yf (jf rfl hx) e1) rfl) rfl ?_;refine yg (d:=tI (reL 0 p secs)) (jg (yf (jf rfl hx) e2) rfl) rfl ?_;exact qe (jx (yb (jh rfl rfl at0) (yb rfl (yb rfl qg))) le3)
theorem zai {α:Type} {g:α->D} {a b:List α} (h:a.length+b.length<=1000):q8 .Add (.tup (a.map g)) (.tup (b.map g))=some (.tup ((a++b).map g)):=by
 show (if (a.map g).length+(b.map g).length<=sizeLine then some (D.tup (a.map g++b.map g)) else none)=_;rw [if_pos (ye (by simpa using h)),List.map_append]
theorem qaV {r:List Int} {s:Int} (h8:rows.length<=8) (hs:secs.length=rows.length):zB C K60.yat [eT Ls rows secs,tI r,.int s]=some (eT Ls (rows++[r]) (secs++[s])) :=
 qc rfl (qe (jx (yb (jh rfl rfl at0) (yb (jE (jh rfl rfl at1) (jx (yb rfl qg) le1) (zai (a:=rows) (b:=[r]) (g:=tI) (by simp;omega))) (yb (jE (jh rfl rfl at2) (jx (yb rfl qg) le1) (zai (a:=secs) (b:=[s]) (g:=D.int) (by simp;omega))) qg))) le3))
theorem zbn {α:Type} {d:α} {xs:List α} {k:Nat} (hk:k<xs.length):reL d ((List.range xs.length).filter λr=>r != k) xs=xs.take k++xs.drop (k+1):=by
 obtain ⟨m,hm⟩:∃ m,xs.length=k+1+m:=⟨xs.length-(k+1),by omega⟩
 have e:((List.range xs.length).filter λr=>r != k)=List.range k++(List.range m).map (k+1+·):=by
  rw [hm,List.range_add,List.filter_append,List.range_succ,List.filter_append,List.filter_cons_of_neg (by simp),List.filter_nil,List.append_nil];congr 1
  ·exact List.filter_eq_self.mpr λi hi=>by have:=vc.mp hi;simp;omega
  ·exact List.filter_eq_self.mpr λi hi=>by obtain ⟨j,_,rfl⟩:=wG.mp hi;simp;omega
 rw [e,reL,List.map_append,wJ];congr 1
 ·apply List.ext_getElem
  ·simp;omega
  ·intro i h1 h2
   have:i<xs.length:=by simp at h1;omega
   simp [wO,this]
 ·apply List.ext_getElem
  ·simp;omega
  ·intro i h1 h2
   have:k+1+i<xs.length:=by simp at h1;omega
   simp [wO,this]
theorem qai {k:Nat} (h8:rows.length<=8) (hs:secs.length=rows.length) (h6:∀ x p,itemsD x=some (eI (nI p))->(∀ i∈p,i<rows.length)->C 6 [eT Ls rows secs,x]=some (eT Ls (reL [] p rows) (reL 0 p secs))) (hk:k<rows.length) :
  zB C K60.yR [eT Ls rows secs,.int (k:Int)]=some (eT Ls (rows.take k++rows.drop (k+1)) (secs.take k++secs.drop (k+1))):=by
 have e:=h6 (.lst (eI (nI ((List.range rows.length).filter λr=>r != k)))) _ rfl λi hi=>vc.mp (List.mem_filter.mp hi).1
 have e1:=zbn (d:=[]) (xs:=rows) hk;have e2:=zbn (d:=0) (xs:=secs) (k:=k) (by omega);rw [hs] at e2;rw [e1,e2] at e;refine qc rfl (qe (zc rfl (yf (ycp (x:=.int (rows.length:Int)) (jg (x:=.tup (rows.map tI)) (jh rfl rfl at1) (by rw [yk,wC])) (jb4 (by omega))) ?_) e));show gather _ (((List.range rows.length).map λn:Nat=>(n:Int)).map D.int)=some ((((List.range rows.length).filter λr=>r != k).map λn:Nat=>(n:Int)).map D.int);rw [wJ,wJ];refine gather_film (List.range rows.length) λr _=>?_
 refine turn_if (ρ':=[some (.int (r:Int)),some (.int (k:Int))]) rfl (yr rfl rfl ?_) rfl;rw [zcc (jaB rfl)];congr 1;show (!((r:Int)==(k:Int)))=_;rw [vd];simp;omega
theorem ja2 {α:Type} {g:α->D} {d:α} {xs:List α} {a b:Nat} (hn:yai (xs.map g)=true) (ha:a<xs.length) (hb:b<xs.length):zB C K60.qr [.tup (xs.map g),.int (a:Int),.int (b:Int)]=some (.tup ((reL d (swP xs.length a b) xs).map g)):=by
 have get:∀ i,i<xs.length->jaE (.tup (xs.map g)) (.int (i:Int))=some (g (xs.getD i d)):=λi hi=>qV (by rw [wx,qk (d:=d) hi];rfl)
 refine qc rfl ?_;refine Eng.qaj (ds:=xs.map g) (jg rfl rfl) hn ?_;refine qaT (j:=a) (ds:=xs.map g) (jh rfl rfl (get b hb)) rfl rfl (by simpa using ha) ?_;refine qaT (j:=b) (ds:=(xs.map g).set a (g (xs.getD b d))) (jh rfl rfl (get a ha)) rfl rfl (by simpa using hb) ?_;refine qe (jg rfl ?_);show some (D.tup (((xs.map g).set a (g (xs.getD b d))).set b (g (xs.getD a d))))=_;rw [<-qcL ha hb,List.map_set,List.map_set]
theorem za3 {p:List Int} (hp:p.Perm [0,1,2,3]) (hb:∀ s∈secs,0<=s/\s<4):zB C K60.yA [eT Ls rows secs,tI p]=some (eT Ls rows (secs.map (nm p))):=by
 have hl:p.length=4:=hp.length_eq;have e:=pick_run (C:=C) (ρ:=[some (eT Ls rows secs),some (tI p)]) (m:=1) (x:=tI p) (g:=D.int) (xs:=p) (d:=0) (is:=secs) rfl rfl (λs hs=>by have:=hb s hs;omega);exact qc rfl (qe (jx (yb (jh rfl rfl at0) (yb (jh rfl rfl at1) (yb (jg (yf (jf (jh rfl rfl at2) rfl) e) rfl) qg))) le3))
theorem qa3 {a b:Nat} (h9:∀ {α:Type} (g:α->D) (d:α) (xs:List α),yai (xs.map g)=true->a<xs.length->b<xs.length->C 9 [.tup (xs.map g),.int (a:Int),.int (b:Int)]=some (.tup ((reL d (swP xs.length a b) xs).map g)))
  (ha:a<Ls.length) (hb:b<Ls.length) (hr:∀ r∈rows,r.length=Ls.length):zB C K60.jaU [eT Ls rows secs,.int (a:Int),.int (b:Int)]=some (eT (reL [] (swP Ls.length a b) Ls) (rows.map (reL 0 (swP Ls.length a b))) secs):=by
 have nl:yai (Ls.map eL)=true:=by
  have:∀ M:List (List (List Int)),yai (M.map eL)=true:=λM=>by
   induction M with
   | nil=>rfl
   | cons L M ih=>show (noL (eL L)&&yai (M.map eL))=true;rw [ih];simp [eL,noL,qaB]
  exact this Ls
 refine qc rfl ?_;refine yg (zp (jh rfl rfl at0) rfl rfl (h9 eL [] Ls nl ha hb)) rfl ?_;refine yg (d:=.tup ((rows.map (reL 0 (swP Ls.length a b))).map tI)) (jg (yf (jf (jh rfl rfl at1) rfl) (qd (g:=tI) (h:=λr=>tI (reL 0 (swP Ls.length a b) r)) rows λr hr'=>?_)) ?_) rfl ?_
 ·have:=h9 D.int 0 r (jaf r) (by rw [hr r hr'];exact ha) (by rw [hr r hr'];exact hb);rw [hr r hr'] at this;exact turn_ev (ρ':=[some (tI r),some (.int (a:Int)),some (.int (b:Int))]) rfl (zp rfl rfl rfl this)
 ·show some (D.tup _)=_;rw [wJ];rfl
 exact qe (jx (yb rfl (yb rfl (yb (jh rfl rfl at2) qg))) le3)
end
theorem j7 {α:Type} {g:α->D}:∀ {xs:List α},(∀ x∈xs,eqD (g x) (g x)=true)->qbn (xs.map g) (xs.map g)=true
 | [],_=>rfl
 | x::xs,h=>by
  show (eqD (g x) (g x)&&qbn (xs.map g) (xs.map g))=true;rw [h x (by simp),j7 λy hy=>h y (by simp [hy])];rfl
theorem qaE (x:List Int):eqD (tI x) (tI x)=true:=by rw [zbg];simp
theorem zdX (L:List (List Int)):eqD (eL L) (eL L)=true:=j7 λx _=>qaE x
theorem ya3 {n:Nat}:∀ {xs:List D},(∀ d∈xs,dep d<=n)->za5 xs<=n
 | [],_=>Nat.zero_le _
 | x::xs,h=>Nat.max_le.mpr ⟨h x (by simp),ya3 λd hd=>h d (by simp [hd])⟩
theorem ja3 (x:List Int):dep (tI x)<=1:=by simp [tI,dep,zaA]
theorem za4 {α:Type} {g:α->D} {n:Nat} {xs:List α} (h:∀ x,dep (g x)<=n):dep (.tup (xs.map g))<=n+1:=Nat.succ_le_succ (ya3 λd hd=>by obtain ⟨x,_,rfl⟩:=wG.mp hd;exact h x)
theorem yb7 (Ls:List (List (List Int))) (rows:List (List Int)) (secs:List Int):zO .NotEq (eT Ls rows secs) (eT Ls rows secs)=some false:=by
 have n1:noS (.tup (Ls.map eL))=true:=qa0 λd hd=>by obtain ⟨L,_,rfl⟩:=wG.mp hd;exact jcF L
 have n2:noS (.tup (rows.map tI))=true:=jcF rows;have d1:dep (.tup (Ls.map eL))<=3:=za4 λL=>za4 λx=>ja3 x
 have d2:dep (.tup (rows.map tI))<=2:=za4 λx=>ja3 x
 have d3:=ja3 secs
 have nn:noS (eT Ls rows secs)=true:=by
  show (noS (.tup (Ls.map eL))&&(noS (.tup (rows.map tI))&&(noS (tI secs)&&true)))=true;rw [n1,n2,zY];rfl
 have dd:dep (eT Ls rows secs)<=40:=by
  refine wQ (Nat.succ_le_succ (ya3 (n:=3) λd hd=>?_)) (by decide:4<=40);rcases wu.mp hd with rfl | hd
  ·exact d1
  ·rcases wu.mp hd with rfl | hd
   ·omega
   ·rw [w8.mp hd];omega
 rw [zcc (zar nn nn dd)];show some (!(qbn (Ls.map eL) (Ls.map eL)&&(qbn (rows.map tI) (rows.map tI)&&(eqD (tI secs) (tI secs)&&true))))=_;rw [j7 λL _=>zdX L,j7 λx _=>qaE x,qaE];rfl
theorem jdj (ps:List Pr):zO .NotEq (jV ps) (jV ps)=some false:=by
 cases ps with
 | nil=>rfl
 | cons b ps =>
  show zO .NotEq (pD (jaD b ps)) (pD (jaD b ps))=_;generalize jaD b ps=q;rw [zcc (zar (qbk q) (qbk q) (by have:=ybk q;omega))];show some (!((q.1==q.1)&&(eqD (tI q.2) (tI q.2)&&true)))=_;rw [qaE];simp
end R
end
section
open PySem Eng LG DL
namespace M60
open M K60 Q R
theorem yaE (k:Nat) (a b:Int):ji prog (k+1) 2 [.int a,.int b]=some (.int (drawn a b)):=jb rfl (jbV _ a b)
theorem ycu (k:Nat) (n:Int):∃ m L,ji prog (k+2) 3 [.int n]=some (eL L)/\Lad m L:=by
 obtain ⟨m,L,h1,h2⟩:=qbt (ji prog (k+1)) (yaE k) n;exact ⟨m,L,jb rfl h1,h2⟩
theorem zdk (k:Nat) (n:Int):∃ Ls rows secs,ji prog (k+3) 4 [.int n]=some (eT Ls rows secs)/\TabOk Ls rows secs:=by
 obtain ⟨Ls,rows,secs,h1,h2⟩:=zbX (ji prog (k+2)) (yaE (k+1)) (ycu k) n;exact ⟨Ls,rows,secs,jb rfl h1,h2⟩
theorem jN (k:Nat) (ns:List Int) (j:Int) (hj:0<=j):∃ r:Int,ji prog (k+2) 1 [.scr ns,.int j]=some (.int r):=by
 obtain ⟨r,h⟩:=qbX (ji prog (k+1)) ns j _ (jb rfl (zcp _ ns j hj));exact ⟨r,jb rfl h⟩
section
variable {Ls:List (List (List Int))} {rows:List (List Int)} {secs:List Int} (hL:∀ L∈Ls,∃ m,Lad m L) (hR:∀ r∈rows,RowOk r Ls)
section
variable {w:List Int} (W:zH Ls w)
include hL W
theorem jb7 (k:Nat):ji prog (k+1) 13 [eT Ls rows secs,tI w]=some (.lst ((jc Ls w).map tI)):=jb rfl (jaP _ hL W)
include hR
theorem qdk (k:Nat):ji prog (k+2) 14 [eT Ls rows secs,tI w]=some (.tup ((zl Ls rows w).map tI)):=jb rfl (ybZ _ (jb7 hL W k) λr hr=>jb rfl (zaC _ (fits_of hL W (hR r hr))))
theorem yaV (k:Nat) (h9:rows.length<=9):ji prog (k+3) 15 [eT Ls rows secs,tI w]=some (eC (zl Ls rows w)):=jb rfl (ja0 _ (by simp [zl];omega) (qdk hL hR W k))
theorem jcL (k:Nat) (h9:rows.length<=9) (many:Int):ji prog (k+4) 17 [eT Ls rows secs,tI w,.int many]=some (.bl (sfB Ls rows many w)):=jb rfl (ycq _ (yaV hL hR W k h9))
theorem qdX (k:Nat):ji prog (k+2) 19 [eT Ls rows secs,tI w]=some (.int (yaC Ls rows w)):=jb rfl (jcq _ (jb7 hL W k) λr hr=>jb rfl (jaQ _ (fits_of hL W (hR r hr))))
end
end
theorem qa4 (k:Nat) {left:List (List Int)} (h9:∀ l∈left,l.length<=900):∀ ps s,(∀ p∈ps,∀ l,left[p]?=some l->s∈l)->(∀ p∈ps,p<left.length)->ji prog (k+2) 26 [eL left,.lst (eI (nI ps)),.int s]=some (eL (after left ps s)) :=
 λps s h1 h2=>jb rfl (yak _ (λl hl hs=>jb rfl (qa1 _ hs (h9 l hl))) h1 h2)
theorem zb8 (k:Nat) {left:List (List Int)} (hs:∀ l∈left,∀ s∈l,0<=s/\s<4):∀ ps,ps≠[]->(∀ p∈ps,p<left.length)->ji prog (k+1) 27 [eL left,.lst (eI (nI ps))]=some (.lst (eI (zN left ps))) :=
 λps h0 h2=>jb rfl (qcs _ h0 h2 λl hl=>zb3 (hs l hl))
theorem ydX (k:Nat) {l0:List (List Int)} {pl:List (List Nat)}:∀ (m:Nat) (rows:List Nat) (left:List (List Int)),rows.length<=m->Wf l0 rows left pl->ji prog (k+m+3) 28 [tI (nI rows),eL left,ePl pl,.mem (zaW pl l0)]=some (.bl (zaF rows left pl))
 | 0,rows,left,h,w=>jb rfl (yb3 _ w (qa4 (k+0) w.ll) (zb8 (k+0+1) w.sm) λrows' left' hl _=>absurd hl (by omega))
 | m+1,rows,left,h,w=>jb rfl (yb3 (ji prog (k+m+3)) w (qa4 (k+m+1) w.ll) (zb8 (k+m+2) w.sm) λrows' left' hl w'=>ydX k m rows' left' (by omega) w')
section
variable {Ls:List (List (List Int))} {rows:List (List Int)} {secs:List Int} (T:TabOk Ls rows secs)
include T
theorem qek (k:Nat) (n:Int):ji prog (k+2) 5 [.int n,eT Ls rows secs]=some (tI (jdd n 0 Ls)):=jb rfl (zde (ji prog (k+1)) (yaE k) n T)
theorem qb8 (k:Nat) (many:Int):ji prog (k+6) 21 [eT Ls rows secs,.int many]=some (jV (lpL Ls rows (zw Ls rows many))):=by
 have h8:=T.r8;exact jb rfl (jak (jb rfl (yaD (jb rfl (zaS _ T)) λw W=>jcL T.lad T.row W k (by omega) many)) λw hw=>qdX T.lad T.row (mem_waysL.mp (List.mem_filter.mp hw).1) (k+3))
theorem jdX (k:Nat) {w:List Int} (W:zH Ls w) {r:Nat} (hr:r<rows.length) :
  ji prog (k+12) 29 [eT Ls rows secs,.tup [tI w],.int (r:Int)]=some (tI (jQ [zl Ls rows w] secs r)):=by
 have hn:∀ S∈[zl Ls rows w],S.length=rows.length:=λS hS=>by
  rw [w8.mp hS];simp [zl]
 have hS:[zl Ls rows w]≠[]:=by simp
 have h8:=T.r8;have wf:=qb5 hn hS h8 T.sec T.sl;rw [<-qdh hn hS h8 T.sec T.sl hr];refine jb rfl (qct (ws:=[w]) (ji prog (k+11)) T (by simp) hr ?_ (λc hc=>?_) (λr=>jb rfl (jbu _ _ r)) (zb5 hn hS hr) wf (qa4 (k+9) wf.ll) (zb8 (k+10) wf.sm) λrows' left' h w=>ydX k 8 rows' left' (by omega) w)
 ·exact jb rfl (jcs (sh:=zl Ls rows) (ws:=[w]) _ (λw' hw'=>by rw [w8.mp hw'];exact yaV T.lad T.row W (k+7) (by omega)) (λw _=>by simp [zl];exact h8) (by simp))
 ·have:=zbk hn hc;exact jb rfl (zb4 _ T (za2 hn hc) (by omega))
end
theorem jcu {C:Tab} {ρ:En} {c:Eng.Code} {k l:Bool} (h:ev C c ρ=some (.bl k)) (e:k=l):ev C c ρ=some (.bl l):=e▸h
theorem ya4 {n:Int} {c:Nat} (h:0 < c):∃ a:Nat,a < c/\n % (c:Int)=(a:Int):=⟨(n % (c:Int)).toNat,by
 have:=Int.emod_nonneg n (by omega:(c:Int)≠0)
 have:=va n (by omega:(0:Int)<c)
 omega,(Int.toNat_of_nonneg (Int.emod_nonneg n (by omega))).symm⟩
theorem zcv {c a b:Nat} (ha:a<c) (hb:b<c):((eI (nI (List.range c))).set a (.int (b:Int))).set b (.int (a:Int))=eI (nI (swP c a b)):=by
 have g:∀ i,i<c->(List.range c).getD i 0=i:=λi hi=>by simp [wO,hi]
 have e:=qcL (d:=0) (xs:=List.range c) (a:=a) (b:=b) (by simpa using ha) (by simpa using hb);rw [g a ha,g b hb,List.length_range] at e;have e2:reL 0 (swP c a b) (List.range c)=swP c a b:=(vf λi hi=>g i (zD (ybm ha hb) i hi)).trans (List.map_id _);rw [e2] at e;rw [<-e];unfold eI nI;rw [List.map_set,List.map_set,List.map_set,List.map_set]
set_option maxHeartbeats 4000000 in
theorem ja4 {C:Tab} {Ls:List (List (List Int))} {rows:List (List Int)} {secs:List Int} (T:TabOk Ls rows secs) (n many:Int)
  (h10:∀ a b:Nat,a<Ls.length->b<Ls.length->C 10 [eT Ls rows secs,.int (a:Int),.int (b:Int)]=some (eT (reL [] (swP Ls.length a b) Ls) (rows.map (reL 0 (swP Ls.length a b))) secs))
  (h21:∀ Ls rows,TabOk Ls rows secs->C 21 [eT Ls rows secs,.int many]=some (jV (lpL Ls rows (zw Ls rows many)))) :
  zB C jR [eT Ls rows secs,.int n,.int many,jV (lpL Ls rows (zw Ls rows many))]=some (.bl true):=by
 have c1:=T.c1;have c3:=T.c3;obtain ⟨a,ha,ea⟩:=ya4 (n:=n) (c:=Ls.length) (by omega);obtain ⟨b,hb,eb⟩:=ya4 (n:=n/3) (c:=Ls.length) (by omega);have hp:=ybm ha hb;have lt:=zD hp;have T':=zdW T hp;have hr:∀ r∈rows,r.length=Ls.length:=λr hr=>jah T hp hr
 have B1:=jb6 (many:=many) T hp;have B2:=jb6 (many:=many) T' (p:=swP Ls.length a b) (by rw [js,zR hp];exact hp);rw [jdW ha hb,wJ,(vf λr hr'=>by show reL 0 _ (reL 0 _ r)=id r;rw [<-hr r hr'];exact jdW (by rw [hr r hr'];exact ha) (by rw [hr r hr'];exact hb):rows.map (reL 0 (swP Ls.length a b)∘reL 0 (swP Ls.length a b))=rows.map id),List.map_id] at B2;have hB:=zb7 B1 B2;have g1:=h10 a b ha hb;have g2:=h21 _ _ T';generalize hP:swP Ls.length a b=P at *;generalize lpL Ls rows (zw Ls rows many)=A at *;generalize hBq:lpL (reL [] P Ls) (rows.map (reL 0 P)) (zw (reL [] P Ls) (rows.map (reL 0 P)) many)=Bq at *;refine qc rfl ?_;refine yg rfl rfl ?_;refine yg (d:=.int (Ls.length:Int)) (jg (x:=.tup (Ls.map eL)) rfl (by rw [yk,wC])) rfl ?_;refine yg (d:=.int (a:Int)) (jE rfl rfl (by rw [jaW (by omega),ea])) rfl ?_;refine yg (d:=.int (b:Int)) (jE (jE rfl rfl (qbD (by decide))) rfl (by rw [jaW (by omega),eb])) rfl ?_;refine Eng.qaj (ds:=eI (nI (List.range Ls.length))) ?_ (jaf _) ?_
 ·have:evI C (.rng (.cons (.var 7) .nil)) (vA [.pu (eT Ls rows secs),.pu (.int n),.pu (.int many),.pu (jV A),.pu (.tup (Ls.map eL)),.pu (.tup (rows.map tI)),.pu (tI secs),.pu (.int (Ls.length:Int)),.pu (.int (a:Int)),.pu (.int (b:Int)),.un,.un,.un,.un])=some (eI (nI (List.range Ls.length))):=ycp (x:=.int (Ls.length:Int)) rfl (jb4 (by omega));rw [ev];exact (congrArg (λo:Option (List D)=>o.bind _) this).trans rfl
 refine qaT (j:=a) (ds:=eI (nI (List.range Ls.length))) (d:=.int (b:Int)) rfl rfl rfl (by simpa [eI,nI] using ha) ?_;refine qaT (j:=b) (ds:=(eI (nI (List.range Ls.length))).set a (.int (b:Int))) (d:=.int (a:Int)) rfl rfl rfl (by simpa [eI,nI] using hb) ?_;rw [zcv ha hb,hP];refine yg (zp rfl rfl rfl g1) rfl ?_;show exs C _ [.pu (eT Ls rows secs),.pu (.int n),.pu (.int many),.pu (jV A),.pu (.tup (Ls.map eL)),.pu (.tup (rows.map tI)),.pu (tI secs),.pu (.int (Ls.length:Int)),.pu (.int (a:Int)),.pu (.int (b:Int)),.ow (eI (nI P)),.pu (eT (reL [] P Ls) (rows.map (reL 0 P)) secs),.un,.un]=_;refine qeb (d:=.tup ((rows.map (reL 0 P)).map tI)) (jg (yf (jf rfl rfl) (qd (g:=tI) (h:=λr=>tI (reL 0 P r)) rows λr hr'=>turn_ev (ρ':=[some (tI r),some (.lst (eI (nI P)))]) rfl ?_)) ?_) ?_ rfl ?_
 ·have:=pick_run (C:=C) (ρ:=[some (tI r),some (.lst (eI (nI P)))]) (m:=0) (x:=tI r) (g:=D.int) (xs:=r) (d:=0) (is:=nI P) rfl rfl (ybv λi hi=>by rw [hr r hr'];exact lt i hi);rw [qcu] at this;exact jg (yf (jf rfl rfl) this) rfl
 ·show some (D.tup _)=_;rw [wJ];rfl
 ·exact qaB _
 refine jr (yr (y:=eT (reL [] P Ls) (rows.map (reL 0 P)) secs) rfl (jx (yb (jg (x:=.lst ((reL [] P Ls).map eL)) (yf (jf rfl rfl) ?_) rfl) (yb rfl (yb rfl qg))) R.le3) (yb7 _ _ _)) ?_
 ·have:=pick_run (C:=C) (ρ:=vA [.pu (eT Ls rows secs),.pu (.int n),.pu (.int many),.pu (jV A),.pu (.tup (Ls.map eL)),.pu (.tup (rows.map tI)),.pu (tI secs),.pu (.int (Ls.length:Int)),.pu (.int (a:Int)),.pu (.int (b:Int)),.ow (eI (nI P)),.pu (eT (reL [] P Ls) (rows.map (reL 0 P)) secs),.pu (.tup ((rows.map (reL 0 P)).map tI)),.un]) (m:=4) (x:=.tup (Ls.map eL)) (g:=eL) (xs:=Ls) (d:=[]) (is:=nI P) rfl rfl (ybv lt);rw [qcu] at this;exact this
 refine yg (zc rfl rfl g2) rfl ?_;refine qe ?_;rcases hB with ⟨rfl,rfl⟩ | ⟨x,xs,y,ys,rfl,rfl,e⟩
 ·exact ybX (yr (k:=true) (yr (k:=true) rfl rfl rfl) (yr (k:=true) rfl rfl rfl) rfl) (zdS (yr (k:=true) rfl rfl rfl))
 ·refine ybX (yr (k:=true) (x:=.bl false) (y:=.bl false) (yr (k:=false) rfl rfl rfl) (yr (k:=false) rfl rfl rfl) rfl) (qdS (yr (k:=false) rfl rfl rfl) (yr (k:=true) (x:=.int (jaD y ys).1) (y:=.int (jaD x xs).1) (jh rfl rfl rfl) (jh rfl rfl rfl) ?_));rw [j6,e];simp
end M60
end
section
open PySem Eng LG DL
namespace M60
open M K60 Q R
section
variable {Ls:List (List (List Int))} {rows:List (List Int)} {secs:List Int} (T:TabOk Ls rows secs)
include T
theorem zdY {p:List Nat} (hp:p.Perm (List.range rows.length)):TabOk Ls (reL [] p rows) (reL 0 p secs):=by
 have hl:=zR hp;have lt:=zD hp;exact ⟨T.c1,T.c3,T.lad,by rw [js,hl];exact T.r1,by rw [js,hl];exact T.r8,λr hr=>T.row r (qa2 lt r hr),by rw [js,js],λs hs=>T.sec s (qa2 (by rw [T.sl];exact lt) s hs)⟩
theorem qdY {q:List Int} (hq:q.Perm [0,1,2,3]):TabOk Ls rows (secs.map (nm q)) :=
 ⟨T.c1,T.c3,T.lad,T.r1,T.r8,T.row,by rw [wC];exact T.sl,λt ht=>by obtain ⟨s,hs,rfl⟩:=wG.mp ht;exact qdi hq (T.sec s hs).1 (T.sec s hs).2⟩
end
theorem yb8 {l:List Int} (h:l.length<64):qy .sorted [.lst (eI l)]=some (.lst (eI (sortI l))):=by
 show (if (eI l).length<64 then ycv (eI l) else none)=_;rw [if_pos (by rw [qj];exact h)];unfold ycv;rw [jn];rfl
theorem jep {α:Type} {C:Tab} {ρ:En} {g:α->D} {xs:List α} {i j k:Nat} (hi:ρ[i]?=some (some (.tup (xs.map g)))) (hj:ρ[j]?=some (some (.int (k:Int)))) (hk:k<xs.length) (h8:xs.length<=8):ev C (.bin .Add (.slc (.var i) .none (.some (.var j))) (.slc (.var i) (.some (.bin .Add (.var j) (.cst (.int 1)))) .none)) ρ=some (.tup ((xs.take k++xs.drop (k+1)).map g)):=by
 have ei:ev C (.var i) ρ=some (.tup (xs.map g)):=by rw [ya7,hi];rfl
 have ej:ev C (.var j) ρ=some (.int (k:Int)):=by rw [ya7,hj];rfl
 refine jE (qcq ei rfl (yaB ej) (zcI (by simp;omega))) (qcq ei (yaB (i:=((k+1:Nat):Int)) (jE ej rfl rfl)) rfl (qcI (by simp;omega))) ?_;rw [<-List.map_take,<-List.map_drop];exact zai (by simp;omega)
set_option maxHeartbeats 8000000 in
theorem ydk (ns:List Int):ji prog 14 31 [.scr ns]=some (.bl true):=by
 refine jb rfl ?_;obtain ⟨C,hC⟩:∃ C,C=ji prog 13:=⟨_,rfl⟩;rw [<-hC];obtain ⟨r0,m0⟩:=jN 11 ns 0 (by decide);obtain ⟨r1,m1⟩:=jN 11 ns 1 (by decide);obtain ⟨r2,m2⟩:=jN 11 ns 2 (by decide);obtain ⟨r3,m3⟩:=jN 11 ns 3 (by decide);obtain ⟨r4,m4⟩:=jN 11 ns 4 (by decide);obtain ⟨r5,m5⟩:=jN 11 ns 5 (by decide);obtain ⟨r6,m6⟩:=jN 11 ns 6 (by decide);obtain ⟨Ls,rows,secs,ht,T⟩:=zdk 10 r0;have w0:=qek T 11 r2;obtain ⟨w,hw⟩:∃ w,w=jdd r2 0 Ls:=⟨_,rfl⟩;have W:zH Ls w:=by rw [hw];exact jbY r2 Ls 0 T.lad
 rw [<-hw] at w0;have n1:=T.r1;have n8:=T.r8;have hsl:=T.sl;obtain ⟨many,hmany⟩:∃ many,many=1+r1%4:=⟨_,rfl⟩;obtain ⟨k,hk,ek⟩:=ya4 (n:=r5) (c:=rows.length) (by omega);have dr:∀ a b:Int,C 2 [.int a,.int b]=some (.int (drawn a b)):=λa b=>by rw [hC];exact yaE 12 a b
 have lea:∀ Ls rows secs,TabOk Ls rows secs->C 21 [eT Ls rows secs,.int many]=some (jV (lpL Ls rows (zw Ls rows many))):=λLs rows secs T=>by rw [hC];exact qb8 T 7 many
 have pos:∀ rows secs,TabOk Ls rows secs->∀ r,r<rows.length->C 29 [eT Ls rows secs,.tup [tI w],.int (r:Int)]=some (tI (jQ [zl Ls rows w] secs r)):=λrows secs T r hr=>by rw [hC];exact jdX T 1 W hr
 have ino:C 6=ji prog 13 6:=by rw [hC]
 have ord:∀ x p,itemsD x=some (eI (nI p))->(∀ i∈p,i<rows.length)->C 6 [eT Ls rows secs,x]=some (eT Ls (reL [] p rows) (reL 0 p secs)):=λx p h1 h2=>by rw [hC];exact jb rfl (yZ h1 h2 hsl)
 have ren:∀ q:List Int,q.Perm [0,1,2,3]->C 11 [eT Ls rows secs,tI q]=some (eT Ls rows (secs.map (nm q))):=λq hq=>by rw [hC];exact jb rfl (za3 hq T.sec)
 have wir:∀ r,C 7 [eT Ls rows secs,tI r,.int 3]=some (eT Ls (rows++[r]) (secs++[3])):=λr=>by rw [hC];exact jb rfl (qaV n8 hsl)
 have wor:C 8 [eT Ls rows secs,.int (k:Int)]=some (eT Ls (rows.take k++rows.drop (k+1)) (secs.take k++secs.drop (k+1))):=by
  rw [hC];exact jb rfl (qai n8 hsl (λx p h1 h2=>jb rfl (yZ h1 h2 hsl)) hk)
 have saf:∀ rows secs,rows.length<=9->(∀ r∈rows,RowOk r Ls)->C 17 [eT Ls rows secs,tI w,.int many]=some (.bl (sfB Ls rows many w)):=λrows secs h hR=>by rw [hC];exact jcL T.lad hR W 9 h many
 have swa:C 30 [eT Ls rows secs,.int r6,.int many,jV (lpL Ls rows (zw Ls rows many))]=some (.bl true):=by
  rw [hC];exact jb rfl (ja4 T r6 many (λa b ha hb=>jb rfl (qa3 (λg d xs hn ha hb=>jb rfl (ja2 hn ha hb)) ha hb λr hr=>jah T (.refl _) hr)) λLs rows T=>qb8 T 6 many)
 rw [<-hC] at m0 m1 m2 m3 m4 m5 m6 ht w0;have le0:=lea _ _ _ T;have p0:=pos _ _ T;obtain ⟨S,hS⟩:∃ S,S=zl Ls rows w:=⟨_,rfl⟩;have hSl:S.length=rows.length:=by rw [hS];simp [zl]
 obtain ⟨bd,hbd⟩:∃ bd,bd=jV (lpL Ls rows (zw Ls rows many)):=⟨_,rfl⟩;rw [<-hbd] at le0 swa;have hrk:rows[k]?=some (rows.getD k []):=qk hk;refine qc rfl ?_;refine yg (jbX (zc rfl rfl m0) ht) rfl ?_;refine yg rfl rfl ?_;refine yg (d:=.int many) (jE rfl (jE (zc rfl rfl m1) rfl rfl) (by rw [hmany];rfl)) rfl ?_;refine yg (zc rfl rfl le0) rfl ?_;refine yg (zc (zc rfl rfl m2) rfl w0) rfl ?_;show exs C _ [.pu (.scr ns),.pu (eT Ls rows secs),.pu (.tup (Ls.map eL)),.pu (.tup (rows.map tI)),.pu (tI secs),.pu (.int many),.pu bd,.pu (tI w),.un,.un,.un,.un,.un]=_;refine ycL (dx:=[.int (rows.length:Int)]) (yb (jg (x:=.tup (rows.map tI)) rfl (by rw [yk,wC])) qg) (jb4 (by omega)) (by simp [eI,nI];omega) (λx hx=>?_) λys hys=>?_
 ·obtain ⟨i,_,rfl⟩:=wG.mp hx;exact ⟨_,zc (zc rfl rfl m3) rfl (dr r3 i)⟩
 obtain ⟨p,rfl,hp⟩:=ydj hys;have lt:=zD hp;have pl:=zR hp;have T1:=zdY T hp;have q1:=ord (.tup (eI (nI p))) p rfl lt;have l1:=lea _ _ _ T1;rw [qb6 (zbl hp),<-hbd] at l1;have p1:=pos _ _ T1 0 (by rw [js];omega)
 have pe:jQ [zl Ls (reL [] p rows) w] (reL 0 p secs) 0=jQ [S] secs (p.getD 0 0):=by
  rw [show zl Ls (reL [] p rows) w=reL [] p S from hS▸yb6 lt];unfold jQ;refine List.filter_congr λs _=>?_
  rw [decide_eq_decide];exact zdi (by omega) (by rw [hSl];exact hp) (by omega) s
 rw [pe] at p1;have p2:=p0 (p.getD 0 0) (lt _ (wR (qk (by omega))));rw [<-hS] at p0 p2
 have h80:(eI (nI p))[0]?=some (.int ((p.getD 0 0:Nat):Int)):=by
  unfold eI nI;rw [wx,wx,qk (d:=0) (by omega)];rfl
 have g1:=pick_run (C:=C) (ρ:=vA [.pu (.scr ns),.pu (eT Ls rows secs),.pu (.tup (Ls.map eL)),.pu (.tup (rows.map tI)),.pu (tI secs),.pu (.int many),.pu bd,.pu (tI w),.pu (.tup (eI (nI p))),.pu (eT Ls (reL [] p rows) (reL 0 p secs)),.un,.un,.un]) (m:=3) (x:=.tup (rows.map tI)) (g:=tI) (xs:=rows) (d:=[]) (is:=nI p) rfl rfl (ybv lt);have g2:=pick_run (C:=C) (ρ:=vA [.pu (.scr ns),.pu (eT Ls rows secs),.pu (.tup (Ls.map eL)),.pu (.tup (rows.map tI)),.pu (tI secs),.pu (.int many),.pu bd,.pu (tI w),.pu (.tup (eI (nI p))),.pu (eT Ls (reL [] p rows) (reL 0 p secs)),.un,.un,.un]) (m:=4) (x:=tI secs) (g:=D.int) (xs:=secs) (d:=0) (is:=nI p) rfl rfl (ybv (by rw [hsl];exact lt));rw [qcu] at g1 g2;refine yg (zc rfl rfl q1) rfl ?_;show exs C _ [.pu (.scr ns),.pu (eT Ls rows secs),.pu (.tup (Ls.map eL)),.pu (.tup (rows.map tI)),.pu (tI secs),.pu (.int many),.pu bd,.pu (tI w),.pu (.tup (eI (nI p))),.pu (eT Ls (reL [] p rows) (reL 0 p secs)),.un,.un,.un]=_;refine jr (yr rfl (jx (yb rfl (yb (jg (yf (jf rfl rfl) g1) rfl) (yb (jg (yf (jf rfl rfl) g2) rfl) qg))) R.le3) (yb7 _ _ _)) ?_;refine jr ?_ ?_
 ·refine jcu (qeC (k:=false) (yr (x:=bd) (y:=bd) (zc rfl rfl l1) rfl (by rw [hbd];exact jdj _)) λ_=>yr (zp rfl (jx (yb rfl qg) R.le1) rfl p1) (zp rfl (jx (yb rfl qg) R.le1) (jh rfl rfl (qV (i:=0) h80)) p2) jU) ?_
  simp
 clear g1 g2 q1 l1 p1 p2 T1 pe h80;refine ycL (dx:=[.int 4]) (xs:=eI [0,1,2,3]) (yb rfl qg) (jb4 (n:=4) (by decide)) (by decide) (λx hx=>?_) λys hys=>?_
 ·obtain ⟨i,_,rfl⟩:=wG.mp hx;exact ⟨_,zc (zc rfl rfl m4) rfl (dr r4 i)⟩
 obtain ⟨q,rfl,hq⟩:=qb7 hys;have hql:q.length=4:=hq.length_eq;have q1:=ren q hq;have p1:=pos _ _ (qdY T hq) 0 (by omega);rw [<-hS,jct hq T.sec (by omega) (by omega)] at p1;have p2:=p0 0 (by omega);obtain ⟨po,hpo⟩:∃ po,po=jQ [S] secs 0:=⟨_,rfl⟩;rw [<-hpo] at p1 p2;have hpl:po.length<=4:=by rw [hpo];exact List.length_filter_le _ _
 have hpb:∀ s∈po,0<=s/\s<4:=λs hs=>((qA T.sec).mp (hpo▸hs)).1
 refine yg (zc rfl rfl q1) rfl ?_;show exs C _ [.pu (.scr ns),.pu (eT Ls rows secs),.pu (.tup (Ls.map eL)),.pu (.tup (rows.map tI)),.pu (tI secs),.pu (.int many),.pu bd,.pu (tI w),.pu (.tup (eI (nI p))),.pu (eT Ls rows (secs.map (nm q))),.pu (tI q),.un,.un]=_;have g1:∀ is:List Int,(∀ s∈is,0<=s/\s<4)->gather (turn C (.idx (.var 1) (.var 0)) (.one 0) 1 [10] .none (vA [.pu (.scr ns),.pu (eT Ls rows secs),.pu (.tup (Ls.map eL)),.pu (.tup (rows.map tI)),.pu (tI secs),.pu (.int many),.pu bd,.pu (tI w),.pu (.tup (eI (nI p))),.pu (eT Ls rows (secs.map (nm q))),.pu (tI q),.un,.un])) (eI is)=some (eI (is.map (nm q))):=λis h=>pick_run (x:=tI q) (g:=D.int) (xs:=q) (d:=0) rfl rfl (λs hs=>by have:=h s hs;omega)
 refine jr (yr rfl (jx (yb rfl (yb rfl (yb (jg (yf (jf rfl rfl) (g1 secs T.sec)) rfl) qg))) R.le3) (yb7 _ _ _)) ?_;refine jr ?_ ?_
 ·refine jcu (yr (zp rfl (jx (yb rfl qg) R.le1) rfl p1) (jg (jg (yf (jf (zp rfl (jx (yb rfl qg) R.le1) rfl p2) rfl) (g1 po hpb)) (yb8 (by rw [wC];omega))) rfl) jU) ?_
  simp
 clear g1 q1 p1 p2;refine yg (d:=.int (k:Int)) (jE (zc rfl rfl m5) (jg (x:=.tup (rows.map tI)) rfl yk) (by rw [wC,jaW (by omega),ek])) rfl ?_;have ix:jaE (.tup (rows.map tI)) (.int (k:Int))=some (tI (rows.getD k [])):=qV (by rw [wx,hrk];rfl);refine yg (zp rfl (jh rfl rfl ix) rfl (wir _)) rfl ?_;show exs C _ [.pu (.scr ns),.pu (eT Ls rows secs),.pu (.tup (Ls.map eL)),.pu (.tup (rows.map tI)),.pu (tI secs),.pu (.int many),.pu bd,.pu (tI w),.pu (.tup (eI (nI p))),.pu (eT Ls (rows++[rows.getD k []]) (secs++[3])),.pu (tI q),.pu (.int (k:Int)),.un]=_;refine jr (yr rfl (jx (yb rfl (yb (jE rfl (jx (yb (jh rfl rfl ix) qg) R.le1) (zai (a:=rows) (b:=[rows.getD k []]) (g:=tI) (by simp;omega))) (yb (jE rfl (jx (yb rfl qg) R.le1) (zai (a:=secs) (b:=[3]) (g:=D.int) (by simp;omega))) qg))) R.le3) (yb7 _ _ _)) ?_;refine jr ?_ ?_
 ·have s1:=saf rows secs (by omega) T.row
  have s2 := saf (rows ++ [rows.getD k []]) (secs ++ [3]) (by simp; omega) λr hr => by
   rcases List.mem_append.mp hr with z | z
   ·exact T.row r z
   ·rw [w8.mp z];exact T.row _ (wR hrk)
  refine jcu (jdS (zp rfl rfl rfl s1) λ_=>jcp (zp rfl rfl rfl s2) rfl) ?_;cases z:sfB Ls rows many w with
  | false=>rfl
  | true =>
   have:sfB Ls (rows++[rows.getD k []]) many w=true:=by
    unfold sfB at *;rw [zl,List.map_append];exact zb6 (wG.mpr ⟨_,wR hrk,rfl⟩) z
   rw [this];rfl
 refine yg (d:=eT Ls (rows.take k++rows.drop (k+1)) (secs.take k++secs.drop (k+1))) (jx (yb rfl (yb (jep (g:=tI) (xs:=rows) rfl rfl hk n8) (yb (jep (g:=D.int) (xs:=secs) rfl rfl (by omega) (by omega)) qg))) R.le3) rfl ?_;refine jr ?_ ?_
 ·refine jcu (jdS (k:=decide (1<(rows.length:Int))) (l:=false) (yr (jg (x:=.tup (rows.map tI)) rfl yk) rfl (by rw [wC];rfl)) λ_=>yr (zc rfl rfl wor) rfl (yb7 _ _ _)) ?_
  simp
 exact qe (ya1 rfl (zc rfl rfl m6) rfl rfl swa)
end M60
end
namespace K60
open PySem PySem.Spec PyProof.Rows L2 Eng
noncomputable def top (i:Nat):Stmt:=PySem.Challenge.pw_amongalike_k60_whole_tables_changed.main.body.getD i (.Pass ⟨0,0,0,0⟩)
noncomputable def sts:List Stmt:=([top 30,top 31,top 32,top 33,top 34,top 35,top 1,top 2,top 3,top 4,top 5,top 6,top 8,top 9,top 10,top 11]:List Stmt)++([top 12,top 13,top 14,top 15,top 18,top 19,top 21,top 22,top 23,top 24,top 25,top 26,top 27,top 28,top 36,top 37]:List Stmt)
noncomputable def Ns:List (List Str):=([["_law_script","_law_k"],["_law_script","_law_k","_law_drawn_here"],["_law_number","_law_k","_law_drawn_here"],["_law_number","_law_many","_law_step","_law_found","_law_k","_law_more","_law_tops","_law_drawn_here","_law_high","_law_low"],["_law_number","_law_ladders","_law_rows","_law_secrets","_law_k","_law_row","_law_column","_law_ladder_here"],["_law_number","_law_table_here"],["table","order","rows","secrets"],["table","row","secret"],["table","number"],["parts","one","other","changed"],["table","one","other","ladders","rows"],["table","names"],["steps","row"],["table","way"],["table","way","steps"],["table","way","alike","number","row"]]:List (List Str))++([["table","ways","ladder","longer","way"],["table","way","many"],["steps","row"],["table","way","steps"],["table","many"],["table","many"],["table","ways","told","way"],["told","row"],["table","members"],["secrets","secret","place"],["left","row_places","secret","after","place"],["left","row_places","first"],["rows","left","places","failed","row","others","secret"],["table","ways","row","told","left","rows","places","others","failed","found","secret"],["_law_table_here","_law_number","_law_many","_law_least","_law_ladders","_law_rows","_law_secrets","_law_columns","_law_one","_law_two","_law_place","_law_other","_law_due","_law_found"],["_law_script","_law_table_here","_law_ladders","_law_rows","_law_secrets","_law_many","_law_least","_law_way_here","_law_order","_law_other","_law_names","_law_at","_law_due"]]:List (List Str))
noncomputable def ydY:Pos:=⟨81,24,81,78⟩
noncomputable def jdY:Pos:=⟨165,57,165,118⟩
noncomputable def G:GTab:=⟨(["_law_cell_at","_law_mixed","_law_drawn","_law_ladder","_law_table","_law_way","in_order","with_row","without_row","with_places_changed","swapped","secrets_renamed","shown_row","steps_by","shown","classes"]:List Str)++(["all_ways","is_safe","row_loss","loss","safe_ways","least_loss","told_classes","places_of","secrets_in","without_one","left_after","free_secrets","can_be_dealt","possible","_law_swapped","law"]:List Str),[("SECRETS",4)],[("can_be_dealt",ydY),("law",jdY)]⟩
noncomputable instance tbI:Eng.Tb:=⟨[(134,ydY,("can_be_dealt":Str)++".<locals>."++"<lambda>"),(185,jdY,("law":Str)++".<locals>."++"<lambda>")]⟩
theorem hP:jbU G Ns sts prog=true:=by decide +kernel
theorem hB:sts.all jdb=true:=by decide +kernel
end K60
namespace PySem.W.Fast
abbrev tw13815413250480327503:=Unit
abbrev tw2821677135016803271:=Unit
abbrev tw12545752833254252411:=Unit
abbrev tw4333010916787936232:=Unit
abbrev tw14692768323548278998:=Unit
abbrev tw1284131136389945530:=Unit
abbrev tw2441151216317161248:=Unit
abbrev tw4774429936763428364:=Unit
abbrev tw12700635927654321148:=Unit
abbrev tw15624279827711944447:=Unit
abbrev tw5298724302106461724:=Unit
abbrev tw8054185322123337952:=Unit
abbrev tw3547263041718863521:=Unit
abbrev tw4152793838875072792:=Unit
abbrev tw16121960869096218117:=Unit
abbrev tw14833670834081312424:=Unit
abbrev tw15219892798225562859:=Unit
abbrev tw6375212997130799839:=Unit
abbrev tw10393136753480258192:=Unit
abbrev tw13362198263291958733:=Unit
abbrev tw685546150408235015:=Unit
abbrev tw2156291777223520042:=Unit
abbrev tw15592521622148472204:=Unit
abbrev tw1992630680358147853:=Unit
abbrev tw6542143737719396619:=Unit
abbrev tw11571962876550171079:=Unit
abbrev tw259396970764197082:=Unit
abbrev tw18034147916357222629:=Unit
abbrev tw8619289861948641528:=Unit
abbrev tw11464978197691700883:=Unit
abbrev tw14842077950737481581:=Unit
abbrev tw7566175437903269493:=Unit
abbrev tw1253123635324592181:=Unit
abbrev tw17429005612490696073:=Unit
abbrev tw4979333543060771405:=Unit
abbrev tw4142362371880350269:=Unit
abbrev tw9783196877850784789:=Unit
abbrev tw17254177577055430805:=Unit
abbrev tw5045094840473316432:=Unit
abbrev tw10957834776067383300:=Unit
abbrev tw13220203974108660403:=Unit
abbrev tw2358422281090032358:=Unit
abbrev tw17980520709551895705:=Unit
abbrev tw4558213370156213453:=Unit
abbrev tw6210465378423875413:=Unit
abbrev tw14131038253235134261:=Unit
abbrev tw7514728859943081947:=Unit
abbrev tw16733008921364145248:=Unit
abbrev tw1639763893505820851:=Unit
abbrev tw12647531702158503276:=Unit
abbrev tw18212504049455290895:=Unit
abbrev tw14434930095676269698:=Unit
abbrev tw7940106037797991753:=Unit
abbrev tw10940839043946242508:=Unit
abbrev tw1504644706873977047:=Unit
abbrev tw9766347261692316814:=Unit
abbrev tw1885095710907792512:=Unit
abbrev tw12189501873145397765:=Unit
abbrev tw13366809121041128150:=Unit
abbrev tw7909116081426430162:=Unit
abbrev tw8107039716872607930:=Unit
abbrev tw2360127794847103828:=Unit
abbrev tw10109075274802590755:=Unit
abbrev tw1561286426566036127:=Unit
abbrev tw4058003225293359238:=Unit
abbrev tw12681185553627323860:=Unit
abbrev tw4313845418486220370:=Unit
abbrev tw12199353390168809921:=Unit
abbrev tw4736025328963667788:=Unit
abbrev tw16775298203997107572:=Unit
abbrev tw14105867910144116216:=Unit
abbrev tw17190465503552452406:=Unit
abbrev tw14292906280019159903:=Unit
abbrev tw1919409026259935128:=Unit
abbrev tw11130934390745920509:=Unit
abbrev tw7422113147399481039:=Unit
abbrev tw13498122816515108413:=Unit
abbrev tw3525442315166762625:=Unit
abbrev tw9929961198031087024:=Unit
abbrev tw1775372787832265520:=Unit
abbrev tw16227094466874841939:=Unit
abbrev tw7682710203821474330:=Unit
abbrev tw7635805934758833601:=Unit
abbrev tw12489335493476916931:=Unit
abbrev tw89467073904259374:=Unit
abbrev tw13080467482784338212:=Unit
abbrev tw13646001412867274965:=Unit
abbrev tw17426718968311864298:=Unit
abbrev tw13788497775208074054:=Unit
abbrev tw8670481480766600050:=Unit
abbrev tw7989634136059361855:=Unit
abbrev tw14307691241857766744:=Unit
abbrev tw3643576953930611867:=Unit
abbrev tw15669631943399242794:=Unit
end PySem.W.Fast
open PySem PySem.W PyProof.Rows
set_option maxRecDepth 100000 in
set_option maxHeartbeats 0 in
theorem PySem.Challenge.cw_amongalike_k60_whole_tables_changed_holds : PySem.Challenge.rw_amongalike_k60_whole_tables_changed.Holds := by
  w_on;o_law;k_head;(case hw=>w_witness2)
  k_fill
  refine L2.ycb (l:=PySem.Challenge.rw_amongalike_k60_whole_tables_changed) (n:=63) (k:=29) (x:="_law_script") (CX:=L2.CX0) (sp:=Eng.ydQ) (tabs:=K60.tbI.tabs) rfl (by decide) rfl ⟨rfl,by decide,by decide⟩ (λw h Y=>⟨PySem.W.km_in_of Y,Eng.jeB (PySem.W.km_tabs_of Y) (.head _) (.tail _ (.head _))⟩) (Eng.lk2 (by decide)) ?F (λK H a ns hl hO hS hT=>⟨a,ns,rfl,Eng.SqS.of hO hS,hT,λ_=>rfl⟩) λ_ _ _ _ z=>z
  case F =>
    intro w mg fa h KX N hmg
    have D:Eng.Ds (L2.KOf KX) K60.G.fns K60.sts:=by
      dsimp only [L2.KOf]
      iterate 32 refine And.intro (by refine' Eng.qei ?a ?l ?c ?k;(case a=>k_is);(case l=>k_is);(case c=>k_is);case k=>k_is) ?_
      exact trivial
    have z:Eng.Zs (L2.KOf KX) Eng.bltL:=by
      dsimp only [L2.KOf]
      iterate 17 refine And.intro (by k_is) ?_
      exact trivial
    have c:Eng.Cs (L2.KOf KX) K60.G.cons:=by
      dsimp only [L2.KOf]
      iterate 1 refine And.intro (by refine' Eng.yei ?a;case a=>k_is) ?_
      exact trivial
    have l0:Eng.LF (L2.KOf KX) "can_be_dealt" 134:=by dsimp only [L2.KOf];refine' Eng.jdQ (st:=K60.top 27) ?a ?l ?h;(case a=>k_is);(case l=>k_is);(case h=>kernel_rfl)
    have l1:Eng.LF (L2.KOf KX) "law" 185:=by dsimp only [L2.KOf];refine' Eng.jdQ (st:=K60.top 37) ?a ?l ?h;(case a=>k_is);(case l=>k_is);(case h=>kernel_rfl)
    have nt:PySem.W.noTabs (L2.KOf KX)=true:=by dsimp only [L2.KOf];kernel_rfl
    have T:=Eng.zej KX N D K60.hB z c l0 l1 rfl wN (.tail _ (.head _));obtain ⟨st,f,fd,e,F,a,-⟩:=T.defs 31 "law" rfl;cases (show some (K60.top 37)=some st from e);cases hmg.symm.trans a;refine ⟨fd,?b,⟨nt,Eng.hd2 l0 l1⟩,λbase kb nb=>Eng.zbV (G:=K60.G) (Ns:=K60.Ns) (sts:=K60.sts) (P:=K60.prog) (k:=14) (i:=31) T K60.hP rfl rfl rfl F hmg M60.ydk⟩;obtain ⟨oc,od,kV,doc,pm,an,cdv,ct,osl,rfl,lk,hcd⟩:=F.ex;exact λs u=>.of_eq rfl

import Derived.Laws.Entries
import Derived.Lib.Join
namespace Go.Proofs.YtlohdfpinmdljaaGreatDoor
open Go
def hasI (f x:Int):Bool:=bits .and .i64 f x != 0
def knownI (f:Int):List Int→Int
  | []=>0
  | x::l=>(if hasI f x then x else 0)+knownI f l
def chosenW (f:Int):List (Int×List UInt8)→List (List UInt8)
  | []=>[]
  | p::l=>if hasI f p.1 then p.2::chosenW f l else chosenW f l
def wPublic:List UInt8:=[112,117,98,108,105,99]
def wPrivate:List UInt8:=[112,114,105,118,97,116,101]
def wProtected:List UInt8:=[112,114,111,116,101,99,116,101,100]
def wStatic:List UInt8:=[115,116,97,116,105,99]
def wFinal:List UInt8:=[102,105,110,97,108]
def wSuper:List UInt8:=[115,117,112,101,114]
def wInterface:List UInt8:=[105,110,116,101,114,102,97,99,101]
def wAbstract:List UInt8:=[97,98,115,116,114,97,99,116]
def clsP:List (Int×List UInt8):=[(1,wPublic),(16,wFinal),(32,wSuper),(512,wInterface),(1024,wAbstract)]
def mthP:List (Int×List UInt8):=[(1,wPublic),(2,wPrivate),(4,wProtected),(8,wStatic),(16,wFinal),(1024,wAbstract)]
def flagsOf (ps:List (Int×List UInt8)):List Int:=ps.map (·.1)
def onlyB (f:Int) (ps:List (Int×List UInt8)):Bool:=decide (knownI f (flagsOf ps)=f)
def subW:List (Int×List UInt8)→List (List UInt8)→Option Int
  | _,[]=>some 0
  | [],_::_=>none
  | p::ps,t::ts=>if p.2=t then (subW ps ts).map (p.1 + ·) else subW ps (t::ts)
end Go.Proofs.YtlohdfpinmdljaaGreatDoor

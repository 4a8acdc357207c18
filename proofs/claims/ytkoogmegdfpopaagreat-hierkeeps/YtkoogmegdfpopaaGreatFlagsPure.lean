import Derived.Lib.Join
namespace Go.Proofs.YtkoogmegdfpopaaGreat
open Go
def hasI (f x:Int):Bool:=bits .and .i64 f x != 0
def Z1 (f:Int):List Int→Int
 | []=>0
 | x::l=>(if hasI f x then x else 0)+Z1 f l
def Xk (f:Int):List (Int×List UInt8)→List (List UInt8)
 | []=>[]
 | p::l=>if hasI f p.1 then p.2::Xk f l else Xk f l
def Zhg:List UInt8:=[112,117,98,108,105,99]
def wPrivate:List UInt8:=[112,114,105,118,97,116,101]
def Zf3:List UInt8:=[112,114,111,116,101,99,116,101,100]
def wStatic:List UInt8:=[115,116,97,116,105,99]
def wFinal:List UInt8:=[102,105,110,97,108]
def wSuper:List UInt8:=[115,117,112,101,114]
def Zf4:List UInt8:=[105,110,116,101,114,102,97,99,101]
def Zc0:List UInt8:=[97,98,115,116,114,97,99,116]
def clsP:List (Int×List UInt8):=[(1,Zhg),(16,wFinal),(32,wSuper),(512,Zf4),(1024,Zc0)]
def mthP:List (Int×List UInt8):=[(1,Zhg),(2,wPrivate),(4,Zf3),(8,wStatic),(16,wFinal),(1024,Zc0)]
def flagsOf (ps:List (Int×List UInt8)):List Int:=ps.map (·.1)
def Y9 (f:Int) (ps:List (Int×List UInt8)):Bool:=decide (Z1 f (flagsOf ps)=f)
def subW:List (Int×List UInt8)→List (List UInt8)→Option Int
 | _,[]=>some 0
 | [],_::_=>none
 | p::ps,t::ts=>if p.2=t then (subW ps ts).map (p.1 + ·) else subW ps (t::ts)
end Go.Proofs.YtkoogmegdfpopaaGreat

import Derived.Test.YtfbhjfpkhofifaaGreatDoorCodeF
import Derived.Lib.SmallJoins
namespace Go.Proofs.YtfbhjfpkhofifaaGreatDoor
open Go.ChangeShapes Go.WideShapes Go.ChangeAt Go.RowKit Go.Joins Go.Deep
def InsW (i:Ins):Prop:=(-9223372036854775808≤i.n∧i.n≤9223372036854775807)∧Zib i
def MthW (m:Mth):Prop:=m.nm.size≤maxLen∧m.ds.size≤maxLen∧(-9223372036854775808≤m.fl∧m.fl≤9223372036854775807)∧(-9223372036854775808≤m.lo∧m.lo≤9223372036854775807)∧(-9223372036854775808≤m.st∧m.st≤9223372036854775807)∧∀ i∈m.code,InsW i
def ClsW (c:Cls):Prop:=c.nm.size≤maxLen∧c.su.size≤maxLen∧(∀ p∈c.ifs,p.length≤maxLen)∧(-9223372036854775808≤c.fl∧c.fl≤9223372036854775807)∧(-9223372036854775808≤c.ld∧c.ld≤9223372036854775807)∧∀ m∈c.ms,MthW m
end Go.Proofs.YtfbhjfpkhofifaaGreatDoor

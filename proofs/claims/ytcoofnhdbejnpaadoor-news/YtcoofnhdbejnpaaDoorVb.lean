/- Plain functions: what package panesref's symbols become, and what fits them. -/
import Derived.Test.YtcoofnhdbejnpaaDoorVa
namespace Go.Proofs.YtcoofnhdbejnpaaDoor
namespace Pr
open Pq
abbrev sBY : Bytes := [66, 89]
abbrev sCOLS : Bytes := [67, 79, 76, 83]
abbrev sKEYS : Bytes := [75, 69, 89, 83]
abbrev sDESC : Bytes := [68, 69, 83, 67]
abbrev sFUNCS : Bytes := [70, 85, 78, 67, 83]
abbrev sTOP : Bytes := [84, 79, 80]
abbrev sFROM : Bytes := [70, 82, 79, 77]
abbrev sFUNC : Bytes := [70, 85, 78, 67]
abbrev sFRAME : Bytes := [70, 82, 65, 77, 69]
abbrev sEDGE : Bytes := [69, 68, 71, 69]
abbrev sSIDE : Bytes := [83, 73, 68, 69]
abbrev sCOL : Bytes := [67, 79, 76]
abbrev sNUM : Bytes := [78, 85, 77]
/-- does the token begin with a digit? -/
def numT (t : Bytes) : Bool := match t with | [] => false | c :: _ => isDig c
def partsF (sym t : Bytes) : Option (List Bytes) := if (sym == sFUNC) then (if inW t [[110, 117, 109, 98, 101, 114], [114, 97, 110, 107], [100, 101, 110, 115, 101]] then (some [t]) else if (t == [116, 105, 108, 101]) then (some [[116, 105, 108, 101], [40], sNUM, [41]]) else if (t == [108, 97, 103]) then (some [t, [40], sCOL, [44], sNUM, [41]]) else if (t == [108, 101, 97, 100]) then (some [t, [40], sCOL, [44], sNUM, [41]]) else if inW t [[99, 111, 117, 110, 116], [115, 117, 109], [109, 105, 110], [109, 97, 120], [102, 105, 114, 115, 116], [108, 97, 115, 116]] then (some [t, [40], sCOL, [44], sFRAME, [41]]) else some [[116, 105, 108, 101]]) else if (sym == sFRAME) then (if (t == [97, 108, 108]) then (some [t]) else if (t == [112, 101, 101, 114, 115]) then (some [t]) else if (t == [110, 101, 97, 114]) then (some [[110, 101, 97, 114], sNUM]) else some [sEDGE, [116, 111], sEDGE]) else if (sym == sEDGE) then (if inW t [[115, 116, 97, 114, 116], [101, 110, 100], [104, 101, 114, 101]] then (some [t]) else if numT t then (some [sNUM, sSIDE]) else some [[104, 101, 114, 101]]) else if (sym == sSIDE) then (if (t == [98, 97, 99, 107]) then (some [[98, 97, 99, 107]]) else some [[111, 110]]) else none
def becomesF (sym t : Bytes) : Option (List Bytes) := if (sym == sBY) then (if (t == [98, 121]) then (some [[98, 121], sCOL, sCOLS]) else some []) else if (sym == sCOLS) then (if (t == [44]) then (some [[44], sCOL, sCOLS]) else some []) else if (sym == sKEYS) then (if (t == [44]) then (some [[44], sCOL, sDESC, sKEYS]) else some []) else if (sym == sDESC) then (if (t == [100, 101, 115, 99]) then (some [[100, 101, 115, 99]]) else some []) else if (sym == sFUNCS) then (if (t == [44]) then (some [[44], sFUNC, sFUNCS]) else some []) else if (sym == sTOP) then (if (t == [116, 111, 112]) then (some [[116, 111, 112], sNUM, sFROM]) else some []) else if (sym == sFROM) then (if (t == [102, 114, 111, 109]) then (some [[102, 114, 111, 109], sNUM]) else some []) else partsF sym t
def colWs : List Bytes := [[112], [107], [118]]
def fitsF (sym t : Bytes) : Bool := if t == [] then false else if sym == sCOL then inW t [[112], [107], [118]] else if sym == sNUM then numT t else sym == t
end Pr
end Go.Proofs.YtcoofnhdbejnpaaDoor

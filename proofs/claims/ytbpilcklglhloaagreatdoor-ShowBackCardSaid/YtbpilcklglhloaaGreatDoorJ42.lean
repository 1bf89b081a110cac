/- Lemmas. -/
import Derived.Test.YtbpilcklglhloaaGreatDoorJ40
import Derived.WalkMore
import Derived.ScopeJumps
set_option maxRecDepth 100000
set_option maxHeartbeats 8000000
set_option linter.unusedVariables false
namespace Go.Proofs.YtbpilcklglhloaaGreatDoor
section
open Go.RowKit
theorem outL_short (k:Nat) (c:UInt8):Short (k+1) (outL k c).2.2:=by
 unfold outL
 (repeat' split)<;>simp[Short,pendQ]
theorem stepL_short (st:LSt) (k:Nat) (c:UInt8) (h:Short k st):Short (k+1) (stepL st k c).2.2:=by
 cases st with
 | dead=>exact trivial
 | out=>exact outL_short k c
 | num a f p =>
   have h:p.length≤k:=h
   show Short (k+1) (if nxI a c.toNat≠0 then (([],0,LSt.num (nxI a c.toNat) f (p++[c])):List Tok×Int×LSt) else if whI a && !stickI c.toNat then (⟨9,false,f,k,p⟩ :: (outL k c).1,(outL k c).2.1,(outL k c).2.2) else ([],5,.dead)).2.2
   split
   ·show (p++[c]).length≤k+1
    simp;omega
   split
   ·exact outL_short k c
   ·exact trivial
 | word f p =>
   show Short (k+1) (if refL (p++[c])=2 then (([],6,.dead):List Tok×Int×LSt) else if refL (p++[c])=1 then ([⟨10,false,f,k+1,p++[c]⟩],0,.out) else ([],0,.word f (p++[c]))).2.2
   (repeat' split)<;>exact trivial
 | str q f acc =>
   have h:acc.length+pendQ q≤4*k:=h
   show Short (k+1) (strL q f acc k c (stepQ q c)).2.2
   cases hs:stepQ q c with
   | none=>exact trivial
   | some p =>
     obtain ⟨q',x⟩:=p
     have hl:=stepQ_len hs
     have key:(acc++x).length+pendQ q'≤4*(k+1):=by simp;omega
     cases q'<;>first|exact trivial|exact key
theorem stepL_two (st:LSt) (k:Nat) (c:UInt8):(stepL st k c).1.length≤2:=by
 have ho:=outL_len k c
 cases st with
 | dead=>show ([]:List Tok).length≤2;simp
 | out=>exact Nat.le_trans ho (by decide)
 | num a f p =>
   show (if nxI a c.toNat≠0 then (([],0,LSt.num (nxI a c.toNat) f (p++[c])):List Tok×Int×LSt) else if whI a && !stickI c.toNat then (⟨9,false,f,k,p⟩ :: (outL k c).1,(outL k c).2.1,(outL k c).2.2) else ([],5,.dead)).1.length≤2
   split
   ·simp
   split
   ·simp;omega
   ·simp
 | word f p =>
   show (if refL (p++[c])=2 then (([],6,.dead):List Tok×Int×LSt) else if refL (p++[c])=1 then ([⟨10,false,f,k+1,p++[c]⟩],0,.out) else ([],0,.word f (p++[c]))).1.length≤2
   (repeat' split)<;>simp
 | str q f acc =>
   show (strL q f acc k c (stepQ q c)).1.length≤2
   cases hs:stepQ q c with
   | none=>simp[strL]
   | some p =>
     obtain ⟨q',x⟩:=p
     cases q'<;>simp[strL]
theorem closeL_one (st:LSt) (k:Nat):(closeL st k).1.length≤2∧(closeL st k).2≠0:=by
 cases st with
 | dead=>exact ⟨by simp[closeL],by simp[closeL]⟩
 | out=>exact ⟨by simp[closeL],by simp[closeL]⟩
 | num a f p =>
   show (if whI a then (([⟨9,false,f,k,p⟩],1):List Tok×Int) else ([],10)).1.length≤2∧(if whI a then (([⟨9,false,f,k,p⟩],1):List Tok×Int) else ([],10)).2≠0
   split<;>exact ⟨by simp,by simp⟩
 | word f p=>exact ⟨by simp[closeL],by simp[closeL]⟩
 | str q f acc=>exact ⟨by simp[closeL],by simp[closeL]⟩
end
end Go.Proofs.YtbpilcklglhloaaGreatDoor

/- Lemmas. -/
import Derived.Test.YtnokhgfifbkflaaGreatProg
import Derived.Test.YtnokhgfifbkflaaGreatJ37
import Derived.Test.YtnokhgfifbkflaaGreatJ38
import Derived.Test.YtnokhgfifbkflaaGreatJ39
set_option maxRecDepth 100000
set_option maxHeartbeats 8000000
set_option linter.unusedVariables false
set_option linter.unusedSimpArgs false
namespace Go.Proofs.YtnokhgfifbkflaaGreat
section
open Go.RowKit
theorem given_any (q:List Sgm) (A B:Option Addr) (n c bl bc:Nat) (l:List UInt8) (W:World) (hx:Rd W W.heap.size B bl (byteCells l)) (hbl:bl≤maxLen) (hn:n≤maxLen) (hq:QRd W A n q) (hs:ReQ q) :
   Calls Tryz.prog 7 #[.slice B bl bc,.slice A n c] W (GivEnd FitV q W):=by
 by_cases h1:400<bl
 ·exact given_big FitV q A B n c bl bc W h1 hbl
 by_cases h2:8<n
 ·exact given_wide FitV q A B n c bl bc W (by omega) h2 hn
 have hql:=hq.1
 have hb:=hs.big (by omega)
 cases hr:rightQ q with
 | false=>exact given_wrong FitV q A B n c bl bc W (by omega) (by omega) hq hb hr
 | true =>
   have hll:l.length=bl:=by have:=hx.1;rwa [byteCells_length] at this
   obtain ⟨⟨pv,kk,pp⟩,hp⟩:∃ r,ParseR l 40=r:=⟨_,rfl⟩
   refine given_right FitV q A B n c bl bc l W hx (by omega) (by omega) hq hb hr pv kk pp (fun w => ?_) (fun h8 h => ?_)
   ·have:=rParseK_any ⟨l.toArray⟩ 40 (by show l.length≤50000;omega) (by decide) (by decide) w
    rw[show ParseR (⟨l.toArray⟩:ByteArray).data.toList ((40:Nat):Int)=(pv,kk,pp) from hp] at this
    exact this
   ·subst h
    obtain ⟨k,e,he,st⟩:=parseR_ord l (by omega) 40 pv pp hp
    have h3:=st.cnt
    have h4:=st.wgt
    obtain ⟨o1,o2,o3,o4⟩:=(ordT_iff _ _ _).1 st.ord
    exact ⟨st.nam,by omega,right_okq hr (by omega) h8,st.arm,(ordT_iff _ _ _).2 ⟨Nat.zero_le _,o2,by omega,o4⟩,st.kid,by omega⟩
theorem row_max16 {A:Option Addr} {len cap:Nat} {zs:List Int} {W:World} (h:IsRow .u8 W A len cap zs):len≤maxLen:=by
 rcases h with ⟨_,h,_⟩|⟨_,_,h1,h2,_⟩
 ·rw[h];exact Nat.zero_le _
 ·exact Nat.le_trans h1 h2
theorem given_row {q:List Sgm} {A B:Option Addr} {n c bl bc:Nat} {zs:List Int} {W:World} (h:IsRow .u8 W B bl bc zs) (hq:QRd W A n q) (hs:ReQ q∧n≤maxLen) (w:World) (hb:Below W.heap.size W w) :
   Calls Tryz.prog 7 #[.slice B bl bc,.slice A n c] w (GivEnd FitV q w):=by
 obtain ⟨l,hx⟩:=h.bytes
 exact given_any q A B n c bl bc l w ((hx.stay hb).more hb.size) (row_max16 h) hs.2 (hq.stay hb) hs.1
end
end Go.Proofs.YtnokhgfifbkflaaGreat

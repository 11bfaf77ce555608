/- Contracts of bytes256's spans and Text, and of the document's inside and Text. -/
import Derived.Test.YthcjfgfbeollpaaDoorKB03
import Derived.Test.YthcjfgfbeollpaaDoorKB02
import Derived.Lib.Builder
import Derived.Test.YthcjfgfbeollpaaDoorKB23
import Derived.Lib.UnsafeStr
namespace Go.Proofs.YthcjfgfbeollpaaDoor
namespace Bytes
open Go.RowKit Base Sets PL IL
def spansT (L:List (Nat × Nat)):List UInt8:=L.flatMap fun r=>spanT r.1 r.2
theorem spanT_len (a b:Nat):(spanT a b).length≤9:=by
 have h1:=esc_len a;have h2:=esc_len b;unfold spanT
 split
 ·omega
 ·split
  ·rw [List.length_append];omega
  ·simp only [List.length_append,List.length_cons,List.length_nil];omega
theorem spansT_len:∀ L,(spansT L).length≤9 * L.length
 | []=>Nat.le_refl _
 | r::L=>by
  have:=spansT_len L;have:=spanT_len r.1 r.2;unfold spansT at *;rw [List.flatMap_cons,List.length_append,List.length_cons];omega
end Bytes
namespace Bytes
open Go.RowKit Base Sets PL IL
def textT (s:ST):List UInt8 :=
 if s.count=256 then [46] else if s.count=1 then esc (nxt s.has 0) else if s.count≤128 then 91::(spansT (rgs s.has 256)++[93]) else 91::94::(spansT (rgs s.not.has 256)++[93])
end Bytes
end Go.Proofs.YthcjfgfbeollpaaDoor

/- Which bytes are written as themselves, and how a byte is written: contracts of bytes256's plain and Escape and of the document's own. -/
import Derived.Test.YthcjfgfbeollpaaDoorKB17
import Derived.Test.YthcjfgfbeollpaaDoorKB02
namespace Go.Proofs.YthcjfgfbeollpaaDoor
namespace Bytes
open Go.RowKit Base Sets
def signs:List UInt8:=[32,33,34,35,37,38,39,44,47,58,59,60,61,62,64,95,96,126]
def sgn (b:Nat):Int:=Lib.indexByte signs (UInt8.ofNat b)
def alnum (b:Nat):Bool:=decide (97≤b∧b≤122∨65≤b∧b≤90∨48≤b∧b≤57)
def plainB (b:Nat):Bool:=alnum b || decide (0≤sgn b)
theorem idx_any (b:Nat) (w:World):Calls Tryd.prog 73 #[.string ⟨#[32,33,34,35,37,38,39,44,47,58,59,60,61,62,64,95,96,126]⟩,.int .u8 b] w fun e w'=>e=.returned (.int .i64 (sgn b))∧w=w':=by
 refine (Lay.strings_IndexByte _ (b:Int) w).mono ?_;rintro e w' ⟨rfl,rfl⟩;exact ⟨by rw [Int.toNat_natCast];rfl,rfl⟩
@[reducible] def signsV:Value:=.string ⟨#[32,33,34,35,37,38,39,44,47,58,59,60,61,62,64,95,96,126]⟩
def hexs:List UInt8:=[48,49,50,51,52,53,54,55,56,57,97,98,99,100,101,102]
def hexd (k:Nat):UInt8:=hexs.getD k 0
@[reducible] def hexV:Value:=.string ⟨#[48,49,50,51,52,53,54,55,56,57,97,98,99,100,101,102]⟩
def esc (b:Nat):List UInt8:=if plainB b then [UInt8.ofNat b] else [92,120,hexd (b / 16),hexd (b % 16)]
@[reducible] def str (l:List UInt8):Value:=.string ⟨l.toArray⟩
theorem conv1 (b:Nat) (hb:b<256) (w:World):(convert 106 9 (.slice (some ⟨w.heap.size,0,none⟩) 1 1)).run Tryd.prog (w.alloc (.cells #[.int .u8 b] 5))=.ok (str [UInt8.ofNat b]) (w.alloc (.cells #[.int .u8 b] 5)):=by
 refine run_convert_bytes_back (P:=Tryd.prog) _ _ _ 5 ⟨w.heap.size,0,none⟩ 1 [UInt8.ofNat b] Tryd.underlying106 Tryd.underlying5 Tryd.underlying9 (fun j hj=>?_)
 obtain rfl:j=0:=by simp at hj;omega
 have e:(UInt8.ofNat b).toNat=b:=by simp;omega
 have h:=(At.new w #[.int .u8 b] 5).cell (o:=0) rfl
 simp only [List.getElem_cons_zero,e]
 exact h
theorem conv4 (x y:UInt8) (w:World):(convert 106 9 (.slice (some ⟨w.heap.size,0,none⟩) 4 4)).run Tryd.prog (w.alloc (.cells #[.int .u8 92,.int .u8 120,.int .u8 x.toNat,.int .u8 y.toNat] 5)).drew=.ok (str [92,120,x,y]) (w.alloc (.cells #[.int .u8 92,.int .u8 120,.int .u8 x.toNat,.int .u8 y.toNat] 5)).drew:=by
 have h:=At.new w #[.int .u8 92,.int .u8 120,.int .u8 x.toNat,.int .u8 y.toNat] 5;refine run_convert_bytes_back (P:=Tryd.prog) _ _ _ 5 ⟨w.heap.size,0,none⟩ 4 [92,120,x,y] Tryd.underlying106 Tryd.underlying5 Tryd.underlying9 (fun j hj=>?_)
 match j,hj with
 | 0,_=>exact h.cell rfl
 | 1,_=>exact h.cell rfl
 | 2,_=>exact h.cell rfl
 | 3,_=>exact h.cell rfl
end Bytes
namespace Bytes
open Go.RowKit Base Sets
theorem esc_len (b:Nat):(esc b).length≤4:=by
 unfold esc
 split <;> simp
def spanT (lo hi:Nat):List UInt8:=if hi=lo then esc lo else if hi=lo+1 then esc lo++esc hi else esc lo++[45]++esc hi
end Bytes
end Go.Proofs.YthcjfgfbeollpaaDoor

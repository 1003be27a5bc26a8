/-
  The functions of the library that title calls, by the contracts of the library's shelf, at this program's numbers.
-/
import Derived.Shelf.Strings.BuilderK
import Derived.Shelf.Small.Utf8
import Derived.Shelf.Small.Strs
import Derived.Shelf.Strings.BuilderF
import Derived.Shelf.Strings.Prefix
import Derived.Test.YtlenfocdhchphaaMem2
namespace Go.Proofs.Ytlenfocdhchphaa
open Go.Shelf Go.RowKit
set_option maxRecDepth 100000
set_option linter.unusedVariables false

def lay170_ren : Go.Shelf.Ren := ⟨fun | 170 => 45 | n => n, fun | 0 => 0 | 3 => 3 | 37 => 41 | 70 => 60 | 72 => 62 | 5 => 5 | n => n, fun | n => n⟩
theorem lay170 : Go.Proofs.Lays.n170 Try.prog lay170_ren := {
  mixed := by kernel_rfl
  f170 := Try.func45.trans (congrArg some (by kernel_rfl))
  t0 := Try.underlying0
  a0 := Try.isAgg0
  z0 := Try.sizeOf0
  v0 := Try.zeroValue0
  t3 := Try.underlying3
  a3 := Try.isAgg3
  z3 := Try.sizeOf3
  v3 := Try.zeroValue3
  t37 := Try.underlying41
  a37 := Try.isAgg41
  z37 := Try.sizeOf41
  v37 := Try.zeroValue41
  t70 := Try.underlying60
  a70 := Try.isAgg60
  z70 := Try.sizeOf60
  v70 := Try.zeroValue60
  t72 := Try.underlying62
  a72 := Try.isAgg62
  z72 := Try.sizeOf62
  v72 := Try.zeroValue62 }
def lay169_ren : Go.Shelf.Ren := ⟨fun | 169 => 41 | n => n, fun | 0 => 0 | 3 => 3 | 9 => 9 | 37 => 41 | 70 => 60 | 72 => 62 | 127 => 73 | 5 => 5 | n => n, fun | n => n⟩
theorem lay169 : Go.Proofs.Lays.n169 Try.prog lay169_ren := {
  mixed := by kernel_rfl
  f169 := Try.func41.trans (congrArg some (by kernel_rfl))
  t0 := Try.underlying0
  a0 := Try.isAgg0
  z0 := Try.sizeOf0
  v0 := Try.zeroValue0
  t3 := Try.underlying3
  a3 := Try.isAgg3
  z3 := Try.sizeOf3
  v3 := Try.zeroValue3
  t9 := Try.underlying9
  a9 := Try.isAgg9
  z9 := Try.sizeOf9
  v9 := Try.zeroValue9
  t37 := Try.underlying41
  a37 := Try.isAgg41
  z37 := Try.sizeOf41
  v37 := Try.zeroValue41
  t70 := Try.underlying60
  a70 := Try.isAgg60
  z70 := Try.sizeOf60
  v70 := Try.zeroValue60
  t72 := Try.underlying62
  a72 := Try.isAgg62
  z72 := Try.sizeOf62
  v72 := Try.zeroValue62
  t127 := Try.underlying73
  a127 := Try.isAgg73
  z127 := Try.sizeOf73
  v127 := Try.zeroValue73 }
theorem extra169 : Builder.Extra Try.prog lay169_ren := {
  sizeBuilder := by kernel_rfl
  liesBuilder := by kernel_rfl
  t5 := Try.underlying5
  a5 := Try.isAgg5
  z5 := Try.sizeOf5
  v5 := Try.zeroValue5
  infoByte := by kernel_rfl
  cellsByte := by kernel_rfl
  sizeByte := by kernel_rfl
  neB5 := by decide }
def lay166_ren : Go.Shelf.Ren := ⟨fun | 166 => 40 | 240 => 49 | 276 => 54 | n => n, fun | 0 => 0 | 3 => 3 | 4 => 4 | 9 => 9 | 20 => 20 | 37 => 41 | 70 => 60 | 72 => 62 | 75 => 65 | 164 => 78 | 5 => 5 | 80 => 68 | n => n, fun | n => n⟩
theorem lay166 : Go.Proofs.Lays.n166 Try.prog lay166_ren := {
  mixed := by kernel_rfl
  f166 := Try.func40.trans (congrArg some (by kernel_rfl))
  f240 := Try.func49.trans (congrArg some (by kernel_rfl))
  f276 := Try.func54.trans (congrArg some (by kernel_rfl))
  t0 := Try.underlying0
  a0 := Try.isAgg0
  z0 := Try.sizeOf0
  v0 := Try.zeroValue0
  t3 := Try.underlying3
  a3 := Try.isAgg3
  z3 := Try.sizeOf3
  v3 := Try.zeroValue3
  t4 := Try.underlying4
  a4 := Try.isAgg4
  z4 := Try.sizeOf4
  v4 := Try.zeroValue4
  t9 := Try.underlying9
  a9 := Try.isAgg9
  z9 := Try.sizeOf9
  v9 := Try.zeroValue9
  t20 := Try.underlying20
  a20 := Try.isAgg20
  z20 := Try.sizeOf20
  v20 := Try.zeroValue20
  t37 := Try.underlying41
  a37 := Try.isAgg41
  z37 := Try.sizeOf41
  v37 := Try.zeroValue41
  t70 := Try.underlying60
  a70 := Try.isAgg60
  z70 := Try.sizeOf60
  v70 := Try.zeroValue60
  t72 := Try.underlying62
  a72 := Try.isAgg62
  z72 := Try.sizeOf62
  v72 := Try.zeroValue62
  t75 := Try.underlying65
  a75 := Try.isAgg65
  z75 := Try.sizeOf65
  v75 := Try.zeroValue65
  t164 := Try.underlying78
  a164 := Try.isAgg78
  z164 := Try.sizeOf78
  v164 := Try.zeroValue78 }
theorem extra166 : Builder.Extra Try.prog lay166_ren := {
  sizeBuilder := by kernel_rfl
  liesBuilder := by kernel_rfl
  t5 := Try.underlying5
  a5 := Try.isAgg5
  z5 := Try.sizeOf5
  v5 := Try.zeroValue5
  infoByte := by kernel_rfl
  cellsByte := by kernel_rfl
  sizeByte := by kernel_rfl
  neB5 := by decide }
def lay118_ren : Go.Shelf.Ren := ⟨fun | 118 => 51 | n => n, fun | 3 => 3 | 4 => 4 | 21 => 21 | n => n, fun | n => n⟩
theorem lay118 : Go.Proofs.Lays.n118 Try.prog lay118_ren := {
  mixed := by kernel_rfl
  f118 := Try.func51.trans (congrArg some (by kernel_rfl))
  t3 := Try.underlying3
  a3 := Try.isAgg3
  z3 := Try.sizeOf3
  v3 := Try.zeroValue3
  t4 := Try.underlying4
  a4 := Try.isAgg4
  z4 := Try.sizeOf4
  v4 := Try.zeroValue4
  t21 := Try.underlying21
  a21 := Try.isAgg21
  z21 := Try.sizeOf21
  v21 := Try.zeroValue21 }
def lay99_ren : Go.Shelf.Ren := ⟨fun | 99 => 19 | 206 => 30 | n => n, fun | 3 => 3 | 4 => 4 | 9 => 9 | n => n, fun | n => n⟩
theorem lay99 : Go.Proofs.Lays.n99 Try.prog lay99_ren := {
  mixed := by kernel_rfl
  f99 := Try.func19.trans (congrArg some (by kernel_rfl))
  f206 := Try.func30.trans (congrArg some (by kernel_rfl))
  t3 := Try.underlying3
  a3 := Try.isAgg3
  z3 := Try.sizeOf3
  v3 := Try.zeroValue3
  t4 := Try.underlying4
  a4 := Try.isAgg4
  z4 := Try.sizeOf4
  v4 := Try.zeroValue4
  t9 := Try.underlying9
  a9 := Try.isAgg9
  z9 := Try.sizeOf9
  v9 := Try.zeroValue9 }

theorem runeLen_any (v : Int) (w : World) : Calls Try.prog 51 #[.int .i32 v] w fun e w' => e = .returned (.int .i64 (Lib.runeLen v)) ∧ w = w' :=
  (Any.utf8_RuneLen lay118 v w).mono fun _ _ h => ⟨h.1, h.2.symm⟩
theorem prefix_any (a b : List UInt8) (w : World) : Calls Try.prog 19 #[.string (str a), .string (str b)] w fun e w' => e = .returned (.bool (Lib.hasPrefix a b)) ∧ w = w' :=
  (Any.strings_HasPrefix lay99 (str a) (str b) w).mono fun _ _ h => ⟨h.1, h.2.symm⟩
/-- the builder in block b holds these octets; all of it lies from block B on -/
def Bd (w : World) (B b : Nat) (l : List UInt8) : Prop := Lib.IsBuilderF 62 5 B b (Lib.byteCells l) w
/-- every other block that isn't a row of octets is as it was -/
def Oth (b : Nat) (w w' : World) : Prop := Lib.OthersKept 5 (some b) w w'
theorem Bd.new (w : World) : Bd (w.alloc (.cells #[.pointer none, .slice none 0 0] 62)) w.heap.size w.heap.size [] := Lib.IsBuilderF.of (Lib.fresh_isBuilder _ _ w)
theorem Bd.alloc {w : World} {B b : Nat} {l : List UInt8} (h : Bd w B b l) (o : Obj) : Bd (w.alloc o) B b l := Lib.IsBuilderF.alloc h o
theorem Oth.bk {w w' : World} {b g : Nat} {t : TypeId} {cs : Array Value} (h : Oth b w w') (hk : Bk w g t cs) (hg : g ≠ b) (ht : t ≠ 5) : Bk w' g t cs :=
  h g _ hk (fun e => hg (Option.some.inj e)) (fun c fz e => ht (by injection e))
theorem Oth.iter {w w' : World} {b g : Nat} {s : ByteArray} {p : Nat} (h : Oth b w w') (hk : w.heap[g]? = some (.stringIter s p)) (hg : g ≠ b) : w'.heap[g]? = some (.stringIter s p) := Lib.OthersKept.iter h hk hg
theorem len_any {w : World} {B b : Nat} {l : List UInt8} (h : Bd w B b l) : Calls Try.prog 45 #[.pointer (some ⟨b, 0, none⟩)] w fun e w' => e = .returned (.int .i64 (l.length : Int)) ∧ w = w' :=
  (Any.Builder_Len_f lay170 B b _ w h).mono fun _ _ h => ⟨by rw [h.1, Lib.byteCells_length], h.2.symm⟩
theorem string_any {w : World} {B b : Nat} {l : List UInt8} (h : Bd w B b l) (hB : B ≤ w.heap.size) : Calls Try.prog 41 #[.pointer (some ⟨b, 0, none⟩)] w fun e w' => e = .returned (.string (str l)) ∧ Below B w w' :=
  (Any.Builder_String_any_k lay169 extra169 B b l w h hB).mono fun _ _ h => ⟨h.1, h.2.2.1⟩
theorem write_any {w : World} {B b : Nat} {l : List UInt8} (h : Bd w B b l) (s : List UInt8) (hl : l.length + s.length ≤ 140737488355328) (hB : B ≤ w.heap.size) : Calls Try.prog 40 #[.pointer (some ⟨b, 0, none⟩), .string (str s)] w
    fun e w' => e = .returned (.tuple #[.int .i64 (s.length : Int), .nilIface]) ∧ Bd w' B b (l ++ s) ∧ Below B w w' ∧ Oth b w w' :=
  (Any.Builder_WriteString_k lay166 extra166 B b _ (str s) w h (by rw [Lib.byteCells_length, str_size]; exact hl) hB).mono fun _ _ h =>
    ⟨by rw [h.1, str_size], by unfold Bd; rw [Lib.byteCells_append]; exact .inr h.2.1, h.2.2.1, h.2.2.2⟩
end Go.Proofs.Ytlenfocdhchphaa

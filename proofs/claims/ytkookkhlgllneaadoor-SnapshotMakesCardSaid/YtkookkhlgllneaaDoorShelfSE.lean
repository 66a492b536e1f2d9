/-
  slices.SortFunc at entries, its contract laid at this program (each row a fact of the program, or the kernel's comparison of a body).
-/
import Derived.Shelf.SlSortCmp.NoneTotal
import Derived.Test.YtkookkhlgllneaaDoorProg
namespace Go.Proofs
open Go.Shelf
def Tryd.sortEn_ren : Go.Shelf.Ren := ⟨fun | 6 => 101 | 15 => 137 | 14 => 136 | 28 => 164 | 29 => 165 | 20 => 156 | 21 => 157 | 22 => 158 | 23 => 159 | 24 => 160 | 25 => 161 | 26 => 162 | 27 => 163 | 46 => 175 | 47 => 176 | 48 => 177 | 49 => 178 | 50 => 179 | 57 => 190 | n => n, fun | 22 => 22 | 24 => 70 | 25 => 76 | 3 => 3 | 39 => 149 | 0 => 0 | 53 => 152 | 55 => 151 | 4 => 4 | 46 => 189 | 45 => 188 | 50 => 159 | 5 => 5 | 9 => 9 | 66 => 201 | 70 => 205 | 76 => 212 | 77 => 213 | n => n, fun | n => n⟩
theorem Tryd.sortEn : Go.Proofs.SlLaysF0.n6 Tryd.prog Tryd.sortEn_ren := {
  mixed := by kernel_rfl
  f6 := ⟨Tryd.f101.name, by decide, Tryd.func101.trans (congrArg some (by kernel_rfl))⟩
  f14 := ⟨Tryd.f136.name, by decide, Tryd.func136.trans (congrArg some (by kernel_rfl))⟩
  f15 := Tryd.func137.trans (congrArg some (by kernel_rfl))
  f20 := ⟨Tryd.f156.name, by decide, Tryd.func156.trans (congrArg some (by kernel_rfl))⟩
  f21 := ⟨Tryd.f157.name, by decide, Tryd.func157.trans (congrArg some (by kernel_rfl))⟩
  f22 := ⟨Tryd.f158.name, by decide, Tryd.func158.trans (congrArg some (by kernel_rfl))⟩
  f23 := ⟨Tryd.f159.name, by decide, Tryd.func159.trans (congrArg some (by kernel_rfl))⟩
  f24 := ⟨Tryd.f160.name, by decide, Tryd.func160.trans (congrArg some (by kernel_rfl))⟩
  f25 := ⟨Tryd.f161.name, by decide, Tryd.func161.trans (congrArg some (by kernel_rfl))⟩
  f26 := ⟨Tryd.f162.name, by decide, Tryd.func162.trans (congrArg some (by kernel_rfl))⟩
  f27 := ⟨Tryd.f163.name, by decide, Tryd.func163.trans (congrArg some (by kernel_rfl))⟩
  f28 := Tryd.func164.trans (congrArg some (by kernel_rfl))
  f29 := Tryd.func165.trans (congrArg some (by kernel_rfl))
  f46 := ⟨Tryd.f175.name, by decide, Tryd.func175.trans (congrArg some (by kernel_rfl))⟩
  f47 := Tryd.func176.trans (congrArg some (by kernel_rfl))
  f48 := Tryd.func177.trans (congrArg some (by kernel_rfl))
  f49 := ⟨Tryd.f178.name, by decide, Tryd.func178.trans (congrArg some (by kernel_rfl))⟩
  f50 := ⟨Tryd.f179.name, by decide, Tryd.func179.trans (congrArg some (by kernel_rfl))⟩
  f57 := ⟨Tryd.f190.name, by decide, Tryd.func190.trans (congrArg some (by kernel_rfl))⟩
  t0 := Tryd.underlying0
  a0 := Tryd.isAgg0
  z0 := Tryd.sizeOf0
  v0 := Tryd.zeroValue0
  t3 := Tryd.underlying3
  a3 := Tryd.isAgg3
  z3 := Tryd.sizeOf3
  v3 := Tryd.zeroValue3
  t4 := Tryd.underlying4
  a4 := Tryd.isAgg4
  z4 := Tryd.sizeOf4
  v4 := Tryd.zeroValue4
  t5 := Tryd.underlying5
  a5 := Tryd.isAgg5
  z5 := Tryd.sizeOf5
  v5 := Tryd.zeroValue5
  t9 := Tryd.underlying9
  a9 := Tryd.isAgg9
  z9 := Tryd.sizeOf9
  v9 := Tryd.zeroValue9
  t22 := Tryd.underlying22
  a22 := Tryd.isAgg22
  z22 := Tryd.sizeOf22
  v22 := Tryd.zeroValue22
  t25 := Tryd.underlying76
  a25 := Tryd.isAgg76
  z25 := Tryd.sizeOf76
  v25 := Tryd.zeroValue76
  t39 := Tryd.underlying149
  a39 := Tryd.isAgg149
  z39 := Tryd.sizeOf149
  v39 := Tryd.zeroValue149
  t45 := Tryd.underlying188
  a45 := Tryd.isAgg188
  z45 := Tryd.sizeOf188
  v45 := Tryd.zeroValue188
  t46 := Tryd.underlying189
  a46 := Tryd.isAgg189
  z46 := Tryd.sizeOf189
  v46 := Tryd.zeroValue189
  t50 := Tryd.underlying159
  a50 := Tryd.isAgg159
  z50 := Tryd.sizeOf159
  v50 := Tryd.zeroValue159
  t53 := Tryd.underlying152
  a53 := Tryd.isAgg152
  z53 := Tryd.sizeOf152
  v53 := Tryd.zeroValue152
  t55 := Tryd.underlying151
  a55 := Tryd.isAgg151
  z55 := Tryd.sizeOf151
  v55 := Tryd.zeroValue151
  t66 := Tryd.underlying201
  a66 := Tryd.isAgg201
  z66 := Tryd.sizeOf201
  v66 := Tryd.zeroValue201
  t70 := Tryd.underlying205
  a70 := Tryd.isAgg205
  z70 := Tryd.sizeOf205
  v70 := Tryd.zeroValue205
  t76 := Tryd.underlying212
  a76 := Tryd.isAgg212
  z76 := Tryd.sizeOf212
  v76 := Tryd.zeroValue212
  t77 := Tryd.underlying213
  a77 := Tryd.isAgg213
  z77 := Tryd.sizeOf213
  v77 := Tryd.zeroValue213 }
end Go.Proofs

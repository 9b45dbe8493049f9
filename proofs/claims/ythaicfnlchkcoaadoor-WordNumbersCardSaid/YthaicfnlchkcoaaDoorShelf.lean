/- strconv.FormatInt and ParseInt at base 10: the shelf's contracts, laid over this program. -/
import Derived.Shelf.Strconv.Itoa4
import Derived.Shelf.Strconv.ErrVarParseInt
import Derived.Shelf.Lay
import Derived.Ground.NamesProg
import Derived.Test.YthaicfnlchkcoaaDoorProg
namespace Go.Proofs
open Go.Shelf
namespace YthaicfnlchkcoaaDoor
shelf_lay LaysM.n173 Nm 173 at Tryd as lays173
shelf_lay LaysC.n174 Nm 174 at Tryd as lays174
theorem format_any (n : Int) (h0 : -9223372036854775808 ≤ n) (h1 : n ≤ 9223372036854775807) (w : World) (htab : Lib.TabIs Tryd.prog w "internal/strconv.uint64pow10" .u64 Lib.pow10Tab) :
    Calls Tryd.prog 10 #[.int .i64 n, .int .i64 10] w fun e w' => e = .returned (.string ⟨(Lib.itoa n).toArray⟩) ∧ ∃ k os, w' = Sort.grow (w.drewN k) os := Any.strconv_FormatInt_10 lays173 n h0 h1 w htab
theorem parse_ok (s : ByteArray) (hmax : s.size ≤ 9223372036854775806) (v : Int) (h : Lib.parseIntB 64 s.data.toList = .ok v) (w : World) :
    Calls Tryd.prog 9 #[.string s, .int .i64 10, .int .i64 64] w fun e w' => e = .returned (.tuple #[.int .i64 v, .nilIface]) ∧ (w' = w ∨ ∃ t, w' = Lib.bytesWorld w 5 t) := Any.strconv_ParseInt_10_at64_ok lays174 s hmax v h w
end YthaicfnlchkcoaaDoor
end Go.Proofs

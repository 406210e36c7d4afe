import Derived.WalkKit
import Derived.WalkSpells
import Derived.WalkLawsBesides
import Derived.Deep.QuietTactic
import Derived.BigQuiet
import Derived.Deep.RegionWith
import Derived.BigRegion
import Derived.RegionTactic
import Derived.Lib.Strings
namespace Go.Proofs.YtpbfiffgcgnidaaGreat
abbrev B8:=List UInt8
end Go.Proofs.YtpbfiffgcgnidaaGreat

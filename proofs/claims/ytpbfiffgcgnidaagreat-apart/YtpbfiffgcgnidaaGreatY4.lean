import Derived.Test.YtpbfiffgcgnidaaGreatYal
import Derived.Test.YtpbfiffgcgnidaaGreatProg
import Derived.Conc.MuLib
import Derived.Conc.MuLone
import Derived.KernelRfl
namespace Go.Proofs.YtpbfiffgcgnidaaGreat
set_option maxRecDepth 100000
set_option maxHeartbeats 4000000
open Go.Proofs.Tryz
section
abbrev muLink:Go.Conc.Locks.MuLink:={ lock:=64,unlock:=65,ilock:=84,iunlock:=85,lockSlow:=116,unlockSlow:=119,disable:=112,enable:=114,acquire:=115,relMerge:=117,cas32:=113,add32:=118,tMutex:=97,tIMutex:=95,tPMutex:=177,tPIMutex:=210,tPI32:=212,tUP:=214,tNoCopy:=92,tU32:=93 }
theorem muLib:Go.Conc.Locks.MuLib prog muLink:=
 ⟨func64,func65,func84,func85,func112,func114,func115,func117,func113,func118,underlying95,Tryz.runUnderlying95,Tryz.sizeOf95,Tryz.isAgg95,Tryz.zeroValue95,underlying97,Tryz.runUnderlying97,Tryz.sizeOf97,Tryz.isAgg97,Tryz.zeroValue97,underlying177,Tryz.runUnderlying177,Tryz.sizeOf177,Tryz.isAgg177,Tryz.zeroValue177,underlying210,Tryz.runUnderlying210,Tryz.sizeOf210,Tryz.isAgg210,Tryz.zeroValue210,underlying212,Tryz.runUnderlying212,Tryz.sizeOf212,Tryz.isAgg212,Tryz.zeroValue212,underlying214,Tryz.runUnderlying214,Tryz.sizeOf214,Tryz.isAgg214,Tryz.zeroValue214,underlying92,Tryz.runUnderlying92,Tryz.sizeOf92,Tryz.isAgg92,Tryz.zeroValue92,underlying21,Tryz.runUnderlying21,Tryz.sizeOf21,Tryz.isAgg21,Tryz.zeroValue21,(by kernel_rfl)⟩
end
end Go.Proofs.YtpbfiffgcgnidaaGreat

import Derived.Test.YtbgjiplfaolpjaaGreatDoorTBunQ18
import Derived.Test.YtbgjiplfaolpjaaGreatDoorTHdEq
set_option maxRecDepth 100000
set_option maxHeartbeats 4000000
namespace Go.Proofs.YtbgjiplfaolpjaaGreatDoor
open Go.RowKit Mem Sc
theorem qgz_ (h:Hd):0<(hdC h).length:=by simp[hdC]
theorem qnh_ {w:World} {g o:Nat} {h:Hd} (hr:w.rangeAt g o (hdC h)):w.rangeAt g (o+1) (Lib.byteCells h.prev):=fun j u hu=>by
 have:=hr (1+j) u (qmy_ j u hu)
 rwa [show o+(1+j)=o+1+j by omega] at this
end Go.Proofs.YtbgjiplfaolpjaaGreatDoor

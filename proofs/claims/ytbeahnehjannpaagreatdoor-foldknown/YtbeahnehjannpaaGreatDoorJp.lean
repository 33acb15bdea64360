/- Parts of the proof. -/
import Derived.Test.YtbeahnehjannpaaGreatDoorJo
namespace Go.Proofs.YtbeahnehjannpaaGreatDoor
open Go.RowKit
set_option linter.unusedVariables false
set_option linter.unusedSimpArgs false
def txk:ByteArray:=⟨#[105,110,112,117,116,32,98,32,98,111,111,108,59,32,114,117,108,101,32,97,32,98,111,111,108,32,61,32,102,97,108,115,101,32,111,114,32,40,116,114,117,101,32,97,110,100,32,98,41,59,32,114,117,108,101,32,99,32,99,111,117,110,116,32,61,32,49,32,47,32,48,59,32,114,117,108,101,32,100,32,99,111,117,110,116,32,61,32,105,102,32,49,32,60,32,50,32,116,104,101,110,32,51,32,101,108,115,101,32,49,32,47,32,48,59]⟩
def txs:ByteArray:=⟨#[105,110,112,117,116,32,98,32,98,111,111,108,59,10,114,117,108,101,32,97,32,98,111,111,108,32,61,32,98,59,10,114,117,108,101,32,99,32,99,111,117,110,116,32,61,32,40,49,32,47,32,48,41,59,10,114,117,108,101,32,100,32,99,111,117,110,116,32,61,32,51,59,10]⟩
theorem txk_ok:okX txk=true∧gdB (trX txk)=true∧sgF (fdS (trX txk))=true∧shw (fdS (trX txk))=txs.data.toList∧txk.size≤3000:=by decide +kernel
end Go.Proofs.YtbeahnehjannpaaGreatDoor

/-
  DERIVED. GIVEN WITH THE SEED: THE CARDS: each row of YtkcmfldcdokobaaGreatDoorRows.lean that lists a variable, with what it lists TIED to the program's text (the seventh form; the later family's looks); each row that meets fmt, with fmt's text TOLD by the authors' own Lean function (tested against real Go, not proved from fmt's source: count such statements apart). THE CARD IS WHAT COUNTS. Prove the row's statement (the work); the ties are given (YtkcmfldcdokobaaGreatDoorTie.lean); close each card by the builder's one call (the guide's Derived/Test/ToyasCard.lean, 'card_holds'). Laid BY PROGRAM, IN A SANDBOX (cutbox-door.mjs). By AI agents, Wed Nov 11 2026. No macro, syntax, notation, axiom, sorry.
-/
import Derived.Test.YtkcmfldcdokobaaGreatDoorRows
import GoSem.ClaimSeven
namespace Go.Proofs.YtkcmfldcdokobaaGreatDoor
namespace Rows

/-- THE TIED CARD OF 'troupelaw06.HeapSlots'. -/
def heapSlotsCard : Claim7 := { stood := { row := heapSlotsRow, standIns := [], harness := (true, "b84b3e9f05cf65b6c28f262063983a571e65060ee0138a3673fd7bb22660c8ea"), looks := true }, kinds := [], alts := [], laidByText := true, laidKinds := [.handle], laidTests := true, laidLooks := .later }
def HeapSlotsCardSaid : Prop := Claim7.holds Tryz.pinned (.plain (OpenSpec.ofChange heapSlotsSpec)) heapSlotsCard

/-- THE TIED CARD OF 'troupelaw06.HeapViews'. -/
def heapViewsCard : Claim7 := { stood := { row := heapViewsRow, standIns := [], harness := (true, "b84b3e9f05cf65b6c28f262063983a571e65060ee0138a3673fd7bb22660c8ea"), looks := true }, kinds := [], alts := [], laidByText := true, laidKinds := [.handle], laidTests := true, laidLooks := .later }
def HeapViewsCardSaid : Prop := Claim7.holds Tryz.pinned (.plain (OpenSpec.ofChange heapViewsSpec)) heapViewsCard

/-- THE TIED CARD OF 'troupelaw06.HeapNothing'. -/
def heapNothingCard : Claim7 := { stood := { row := heapNothingRow, standIns := [], harness := (true, "b84b3e9f05cf65b6c28f262063983a571e65060ee0138a3673fd7bb22660c8ea"), looks := true }, kinds := [], alts := [], laidByText := true, laidKinds := [.handle], laidTests := true, laidLooks := .later }
def HeapNothingCardSaid : Prop := Claim7.holds Tryz.pinned (.plain (OpenSpec.ofChange heapNothingSpec)) heapNothingCard

/-- THE TIED CARD OF 'troupelaw06.HeapBack'. -/
def heapBackCard : Claim7 := { stood := { row := heapBackRow, standIns := [], harness := (true, "b84b3e9f05cf65b6c28f262063983a571e65060ee0138a3673fd7bb22660c8ea"), looks := true }, kinds := [], alts := [], laidByText := true, laidKinds := [.handle], laidTests := true, laidLooks := .later }
def HeapBackCardSaid : Prop := Claim7.holds Tryz.pinned (.plain (OpenSpec.ofChange heapBackSpec)) heapBackCard

/-- THE TIED CARD OF 'troupelaw06.HeapLong'. -/
def heapLongCard : Claim7 := { stood := { row := heapLongRow, standIns := [], harness := (true, "b84b3e9f05cf65b6c28f262063983a571e65060ee0138a3673fd7bb22660c8ea"), looks := true }, kinds := [], alts := [], laidByText := true, laidKinds := [.handle], laidTests := true, laidLooks := .later }
def HeapLongCardSaid : Prop := Claim7.holds Tryz.pinned (.plain (OpenSpec.ofChange heapLongSpec)) heapLongCard

/-- THE TIED CARD OF 'troupelaw07.CopyShares'. -/
def copySharesCard : Claim7 := { stood := { row := copySharesRow, standIns := [], harness := (true, "b84b3e9f05cf65b6c28f262063983a571e65060ee0138a3673fd7bb22660c8ea"), looks := true }, kinds := [], alts := [], laidByText := true, laidKinds := [.handle], laidTests := true, laidLooks := .later }
def CopySharesCardSaid : Prop := Claim7.holds Tryz.pinned (.plain (OpenSpec.ofChange copySharesSpec)) copySharesCard

/-- THE TIED CARD OF 'troupelaw07.CopyNothing'. -/
def copyNothingCard : Claim7 := { stood := { row := copyNothingRow, standIns := [], harness := (true, "b84b3e9f05cf65b6c28f262063983a571e65060ee0138a3673fd7bb22660c8ea"), looks := true }, kinds := [], alts := [], laidByText := true, laidKinds := [.handle], laidTests := true, laidLooks := .later }
def CopyNothingCardSaid : Prop := Claim7.holds Tryz.pinned (.plain (OpenSpec.ofChange copyNothingSpec)) copyNothingCard

/-- THE TIED CARD OF 'troupelaw07.CopySame'. -/
def copySameCard : Claim7 := { stood := { row := copySameRow, standIns := [], harness := (true, "b84b3e9f05cf65b6c28f262063983a571e65060ee0138a3673fd7bb22660c8ea"), looks := true }, kinds := [], alts := [], laidByText := true, laidKinds := [.handle], laidTests := true, laidLooks := .later }
def CopySameCardSaid : Prop := Claim7.holds Tryz.pinned (.plain (OpenSpec.ofChange copySameSpec)) copySameCard

/-- THE TIED CARD OF 'troupelaw07.CopyHands'. -/
def copyHandsCard : Claim7 := { stood := { row := copyHandsRow, standIns := [], harness := (true, "b84b3e9f05cf65b6c28f262063983a571e65060ee0138a3673fd7bb22660c8ea"), looks := true }, kinds := [], alts := [], laidByText := true, laidKinds := [.handle], laidTests := true, laidLooks := .later }
def CopyHandsCardSaid : Prop := Claim7.holds Tryz.pinned (.plain (OpenSpec.ofChange copyHandsSpec)) copyHandsCard

/-- THE TIED CARD OF 'troupelaw07.CopyLists'. -/
def copyListsCard : Claim7 := { stood := { row := copyListsRow, standIns := [], harness := (true, "b84b3e9f05cf65b6c28f262063983a571e65060ee0138a3673fd7bb22660c8ea"), looks := true }, kinds := [], alts := [], laidByText := true, laidKinds := [.handle], laidTests := true, laidLooks := .later }
def CopyListsCardSaid : Prop := Claim7.holds Tryz.pinned (.plain (OpenSpec.ofChange copyListsSpec)) copyListsCard

/-- THE SECOND FORM's CARD OF 'troupelaw06.HeapSlots'. -/
def heapSlotsUptoCard : Claim7 := { stood := { row := heapSlotsUptoRow, standIns := [], harness := (true, "b84b3e9f05cf65b6c28f262063983a571e65060ee0138a3673fd7bb22660c8ea"), looks := true }, kinds := [], alts := [], laidByText := true, laidKinds := [.handle], laidTests := true, laidLooks := .later }
def HeapSlotsUptoCardSaid : Prop := Claim7.holds Tryz.pinned (.plain (OpenSpec.upto heapSlotsSpec)) heapSlotsUptoCard

/-- THE SECOND FORM's CARD OF 'troupelaw06.HeapViews'. -/
def heapViewsUptoCard : Claim7 := { stood := { row := heapViewsUptoRow, standIns := [], harness := (true, "b84b3e9f05cf65b6c28f262063983a571e65060ee0138a3673fd7bb22660c8ea"), looks := true }, kinds := [], alts := [], laidByText := true, laidKinds := [.handle], laidTests := true, laidLooks := .later }
def HeapViewsUptoCardSaid : Prop := Claim7.holds Tryz.pinned (.plain (OpenSpec.upto heapViewsSpec)) heapViewsUptoCard

/-- THE SECOND FORM's CARD OF 'troupelaw06.HeapNothing'. -/
def heapNothingUptoCard : Claim7 := { stood := { row := heapNothingUptoRow, standIns := [], harness := (true, "b84b3e9f05cf65b6c28f262063983a571e65060ee0138a3673fd7bb22660c8ea"), looks := true }, kinds := [], alts := [], laidByText := true, laidKinds := [.handle], laidTests := true, laidLooks := .later }
def HeapNothingUptoCardSaid : Prop := Claim7.holds Tryz.pinned (.plain (OpenSpec.upto heapNothingSpec)) heapNothingUptoCard

/-- THE SECOND FORM's CARD OF 'troupelaw06.HeapBack'. -/
def heapBackUptoCard : Claim7 := { stood := { row := heapBackUptoRow, standIns := [], harness := (true, "b84b3e9f05cf65b6c28f262063983a571e65060ee0138a3673fd7bb22660c8ea"), looks := true }, kinds := [], alts := [], laidByText := true, laidKinds := [.handle], laidTests := true, laidLooks := .later }
def HeapBackUptoCardSaid : Prop := Claim7.holds Tryz.pinned (.plain (OpenSpec.upto heapBackSpec)) heapBackUptoCard

/-- THE SECOND FORM's CARD OF 'troupelaw06.HeapLong'. -/
def heapLongUptoCard : Claim7 := { stood := { row := heapLongUptoRow, standIns := [], harness := (true, "b84b3e9f05cf65b6c28f262063983a571e65060ee0138a3673fd7bb22660c8ea"), looks := true }, kinds := [], alts := [], laidByText := true, laidKinds := [.handle], laidTests := true, laidLooks := .later }
def HeapLongUptoCardSaid : Prop := Claim7.holds Tryz.pinned (.plain (OpenSpec.upto heapLongSpec)) heapLongUptoCard

/-- THE SECOND FORM's CARD OF 'troupelaw07.CopyShares'. -/
def copySharesUptoCard : Claim7 := { stood := { row := copySharesUptoRow, standIns := [], harness := (true, "b84b3e9f05cf65b6c28f262063983a571e65060ee0138a3673fd7bb22660c8ea"), looks := true }, kinds := [], alts := [], laidByText := true, laidKinds := [.handle], laidTests := true, laidLooks := .later }
def CopySharesUptoCardSaid : Prop := Claim7.holds Tryz.pinned (.plain (OpenSpec.upto copySharesSpec)) copySharesUptoCard

/-- THE SECOND FORM's CARD OF 'troupelaw07.CopyNothing'. -/
def copyNothingUptoCard : Claim7 := { stood := { row := copyNothingUptoRow, standIns := [], harness := (true, "b84b3e9f05cf65b6c28f262063983a571e65060ee0138a3673fd7bb22660c8ea"), looks := true }, kinds := [], alts := [], laidByText := true, laidKinds := [.handle], laidTests := true, laidLooks := .later }
def CopyNothingUptoCardSaid : Prop := Claim7.holds Tryz.pinned (.plain (OpenSpec.upto copyNothingSpec)) copyNothingUptoCard

/-- THE SECOND FORM's CARD OF 'troupelaw07.CopySame'. -/
def copySameUptoCard : Claim7 := { stood := { row := copySameUptoRow, standIns := [], harness := (true, "b84b3e9f05cf65b6c28f262063983a571e65060ee0138a3673fd7bb22660c8ea"), looks := true }, kinds := [], alts := [], laidByText := true, laidKinds := [.handle], laidTests := true, laidLooks := .later }
def CopySameUptoCardSaid : Prop := Claim7.holds Tryz.pinned (.plain (OpenSpec.upto copySameSpec)) copySameUptoCard

/-- THE SECOND FORM's CARD OF 'troupelaw07.CopyHands'. -/
def copyHandsUptoCard : Claim7 := { stood := { row := copyHandsUptoRow, standIns := [], harness := (true, "b84b3e9f05cf65b6c28f262063983a571e65060ee0138a3673fd7bb22660c8ea"), looks := true }, kinds := [], alts := [], laidByText := true, laidKinds := [.handle], laidTests := true, laidLooks := .later }
def CopyHandsUptoCardSaid : Prop := Claim7.holds Tryz.pinned (.plain (OpenSpec.upto copyHandsSpec)) copyHandsUptoCard

/-- THE SECOND FORM's CARD OF 'troupelaw07.CopyLists'. -/
def copyListsUptoCard : Claim7 := { stood := { row := copyListsUptoRow, standIns := [], harness := (true, "b84b3e9f05cf65b6c28f262063983a571e65060ee0138a3673fd7bb22660c8ea"), looks := true }, kinds := [], alts := [], laidByText := true, laidKinds := [.handle], laidTests := true, laidLooks := .later }
def CopyListsUptoCardSaid : Prop := Claim7.holds Tryz.pinned (.plain (OpenSpec.upto copyListsSpec)) copyListsUptoCard
end Rows
end Go.Proofs.YtkcmfldcdokobaaGreatDoor

/- The statements of layer 10 (shelf): each as it was given, of the landed program's calls. -/
import Derived.Test.YtofafmjkjgiccaaSheTA
import Derived.Test.YtofafmjkjgiccaaShpI
namespace Go.Proofs.Ytofafmjkjgiccaa.Mat
open Go.RowKit Fld

/-- each call of package shelf answers as the document's -/
theorem shelfOk : ShelfOk where
  may := fun v i x hx w => may_any v i x hx w
  rec_ := fun v i x hx w => shRec_any v i x hx w
  take := fun s hs w => shTake_any s hs w
  list := fun _ _ _ _ _ _ h => shList_any h
  find := fun _ _ _ _ _ _ h v i => shFind_any h v i
  put := fun _ _ _ _ _ _ h hm v i x hx => shPut_any h hm v i x hx
  drop := fun _ _ _ _ _ _ h hm v i => shDrop_any h hm v i
  bad := fun _ _ _ _ _ _ h => shBad_any h
  free := fun _ _ _ _ _ _ h => shFree_any h
theorem holdsShelfRecords : Rows.ShelfRecordsSaid := saysShelfRecords shelfOk
theorem holdsShelfTells : Rows.ShelfTellsSaid := saysShelfTells shelfOk
theorem holdsShelfLists : Rows.ShelfListsSaid := saysShelfLists shelfOk
theorem holdsShelfTorn : Rows.ShelfTornSaid := saysShelfTorn shelfOk
theorem holdsShelfRoom : Rows.ShelfRoomSaid := saysShelfRoom shelfOk
theorem holdsShelfLasts : Rows.ShelfLastsSaid := saysShelfLasts shelfOk
theorem holdsShelfPuts : Rows.ShelfPutsUptoSaid := saysShelfPuts shelfOk
theorem holdsShelfGoes : Rows.ShelfGoesUptoSaid := saysShelfGoes shelfOk
end Go.Proofs.Ytofafmjkjgiccaa.Mat

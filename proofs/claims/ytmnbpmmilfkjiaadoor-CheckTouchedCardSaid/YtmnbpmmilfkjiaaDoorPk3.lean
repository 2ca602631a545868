/-
  Package pack: a Writer's fixed, Float, Complex.
-/
import Derived.Test.YtmnbpmmilfkjiaaDoorPk2
namespace Go.Proofs.YtmnbpmmilfkjiaaDoor
open Flo Go.RowKit
end Go.Proofs.YtmnbpmmilfkjiaaDoor

import PyProof.Rows.All
import Wide.All
import OpenK.AllK
import Wide.FinOn
import KE.KStateDown
import HandS.ForExc
import HandS.ExcIs
import HandS.Defaults
import HandS.Head0
import HandS.Head1
import HandS.Head2
import HandS.HeadHook1
import HandS.HeadHook2
import HandS.HeadHook3
import HandS.HeadHook4
import HandS.ForMost
import HandS.GenList
import HandS.AnyAll
import HandS.Lambda
import KE.KDflt
import HandS.IsInst
import HandS.TupMul
import HandS.TupLe
import HandS.Iter
import HandS.TupAny
import HandS.DictTup
import HandS.Star
import HandS.Zip
import KE.GoesEnum
import KE.GoesMore
import HandS.SortKw
import KE.KSortKeySt
import HandS.Walk
import HandS.Comp
import HandS.Wide
import HandS.Exc
import HandS.ExcOwn
import HandS.WordsExc
import HandS.List
import HandS.Deep
import HandS.Small
import KE.KDictZip
import KE.KDictItemsList
import HandS.MapObj
import HandS.ListItems
import PyProof.DictMoreH
import HandS.TupSets
import HandS.Conv
import HandS.More
import HandS.TryOnly
import HandS.SortOrd
import HandS.Text
import HandS.StrMore
import HandS.Codes
import HandS.EndTab
import HandS.HeadWalk
import PySem.Challenge.RW_slotpages_k10_whole_walks
set_option Elab.async false
set_option linter.all false
set_option maxRecDepth 100000
set_option maxHeartbeats 2000000
/-! the program's statements, by their places -/
namespace GX
open PySem PySem.Spec PyProof.Rows L2
def top (i : Nat) : Stmt := PySem.Challenge.pw_slotpages_k10_whole_walks.main.body.getD i (.Pass ⟨0, 0, 0, 0⟩)
abbrev s_wall : Stmt := top 0
abbrev s_WInit : Stmt := inClass (top 2) 0
abbrev s_WStep : Stmt := inClass (top 2) 1
abbrev s_is_number : Stmt := top 20
abbrev s_is_tuple : Stmt := top 21
abbrev s_is_next : Stmt := top 22
abbrev s_holds : Stmt := top 23
abbrev s_is_slot : Stmt := top 24
abbrev s_are_values : Stmt := top 25
abbrev s_are_cells : Stmt := top 26
abbrev s_is_frame : Stmt := top 27
abbrev s_is_page : Stmt := top 28
abbrev s_fresh_page : Stmt := top 29
abbrev s_all_pages : Stmt := top 32
abbrev s_DInit : Stmt := inClass (top 33) 0
abbrev s_DPages : Stmt := inClass (top 33) 1
abbrev s_DWrites : Stmt := inClass (top 33) 2
abbrev s_DPage : Stmt := inClass (top 33) 3
abbrev s_DWrite : Stmt := inClass (top 33) 4
abbrev s_DArm : Stmt := inClass (top 33) 5
abbrev s_DAgain : Stmt := inClass (top 33) 6
abbrev s_DCheck : Stmt := inClass (top 33) 7
abbrev s_DCount : Stmt := inClass (top 33) 8
abbrev s_slot_at : Stmt := top 35
abbrev s_places_from : Stmt := top 36
abbrev s_row_places : Stmt := top 37
abbrev s_row_names : Stmt := top 38
abbrev s_values_from : Stmt := top 39
abbrev s_lost : Stmt := top 41
abbrev s_size_of : Stmt := top 43
abbrev s_free_cells : Stmt := top 44
abbrev s_room_at : Stmt := top 45
abbrev s_usable_slots : Stmt := top 46
abbrev s_with_slot : Stmt := top 47
abbrev s_with_part_free : Stmt := top 48
abbrev s_with_values : Stmt := top 49
abbrev s_cells_of : Stmt := top 50
abbrev s_packed : Stmt := top 51
abbrev s_usable_pages : Stmt := top 53
abbrev s_pages_for_put : Stmt := top 54
abbrev s_shares : Stmt := top 55
abbrev s_SInit : Stmt := inClass (top 57) 0
abbrev s_SPut : Stmt := inClass (top 57) 1
abbrev s_SGet : Stmt := inClass (top 57) 2
abbrev s_SNames : Stmt := inClass (top 57) 3
abbrev s_SParts : Stmt := inClass (top 57) 4
abbrev s_SChange : Stmt := inClass (top 57) 5
abbrev s_SDrop : Stmt := inClass (top 57) 6
abbrev s_STidy : Stmt := inClass (top 57) 7
abbrev s_SRoom : Stmt := inClass (top 57) 8
abbrev s_SPages : Stmt := inClass (top 57) 9
abbrev s_SSettle : Stmt := inClass (top 57) 10
abbrev s_SFree : Stmt := inClass (top 57) 11
abbrev s_SFreeLost : Stmt := inClass (top 57) 12
abbrev s_check_values : Stmt := top 58
abbrev s_place : Stmt := top 59
abbrev s_is_name : Stmt := top 60
abbrev s_begun : Stmt := top 62
abbrev s_take : Stmt := top 63
abbrev s_alike : Stmt := top 64
abbrev s_lvalues : Stmt := top 65
abbrev s_lbegin : Stmt := top 66
abbrev s_ldeed : Stmt := top 67
abbrev s_lstep : Stmt := top 68
abbrev s_law : Stmt := top 69
end GX
set_option maxHeartbeats 0
/-! what the program's top leaves: facts by names, one run -/
namespace GX
open PySem PySem.Spec PyProof.Rows L2

def wordsH : List Str := ["BadCount", "BadDisk", "BadPage", "BadRow", "BadText", "Full", "NoPage", "NoRow", "Stopped"]
def dG (x : Str) (st : Stmt) : He.DefD := ⟨(x, none), x, x, defArgs st, defBody st, defScope st, [], []⟩
def dM (C x q : Str) (st : Stmt) : He.DefD := ⟨(C, some x), x, q, defArgs st, defBody st, defScope st, [], []⟩
def fnH : List He.DefD := ([dG "is_number" s_is_number, dG "is_tuple" s_is_tuple, dG "is_next" s_is_next, dG "_holds" s_holds, dG "is_slot" s_is_slot, dG "are_values" s_are_values, dG "are_cells" s_are_cells, dG "is_frame" s_is_frame, dG "is_page" s_is_page, dG "fresh_page" s_fresh_page] : List He.DefD) ++
  ([dG "all_pages" s_all_pages, dG "slot_at" s_slot_at, dG "places_from" s_places_from, dG "row_places" s_row_places, dG "row_names" s_row_names, dG "values_from" s_values_from, dG "lost" s_lost, dG "size_of" s_size_of, dG "free_cells" s_free_cells, dG "room_at" s_room_at] : List He.DefD) ++
  ([dG "usable_slots" s_usable_slots, dG "with_slot" s_with_slot, dG "with_part_free" s_with_part_free, dG "with_values" s_with_values, dG "_cells_of" s_cells_of, dG "_packed" s_packed, ⟨("usable_pages", none), "usable_pages", "usable_pages", defArgs s_usable_pages, defBody s_usable_pages, defScope s_usable_pages, [.non], []⟩, dG "pages_for_put" s_pages_for_put, dG "shares" s_shares, dG "_check_values" s_check_values] : List He.DefD) ++
  ([dG "_place" s_place, dG "_is_name" s_is_name, dM "Disk" "__init__" "Disk.__init__" s_DInit, dM "Disk" "writes" "Disk.writes" s_DWrites, dM "Disk" "pages" "Disk.pages" s_DPages, dM "Disk" "page" "Disk.page" s_DPage, dM "Disk" "write" "Disk.write" s_DWrite, dM "Disk" "_check" "Disk._check" s_DCheck, dM "Disk" "_count_down" "Disk._count_down" s_DCount, dM "Shelf" "__init__" "Shelf.__init__" s_SInit] : List He.DefD) ++
  ([dM "Shelf" "put" "Shelf.put" s_SPut, dM "Shelf" "get" "Shelf.get" s_SGet, dM "Shelf" "names" "Shelf.names" s_SNames, dM "Shelf" "parts" "Shelf.parts" s_SParts, dM "Shelf" "change" "Shelf.change" s_SChange, dM "Shelf" "drop" "Shelf.drop" s_SDrop, dM "Shelf" "_pages" "Shelf._pages" s_SPages, dM "Shelf" "_settle" "Shelf._settle" s_SSettle, dM "Shelf" "_free" "Shelf._free" s_SFree, dM "Shelf" "_free_lost" "Shelf._free_lost" s_SFreeLost] : List He.DefD) ++
  ([dM "Walk" "__init__" "Walk.__init__" s_WInit, dM "Walk" "step" "Walk.step" s_WStep, dG "_law_begun" s_begun, dG "_law_take" s_take, dG "_law_alike" s_alike, dG "_law_values" s_lvalues, dG "_law_begin" s_lbegin, dG "_law_deed" s_ldeed, dG "_law_step" s_lstep, dG "law" s_law] : List He.DefD)
def faH : List He.Fa := ([.glo "is_number", .glo "is_tuple", .glo "is_next", .glo "_holds", .glo "is_slot", .glo "are_values", .glo "are_cells", .glo "is_frame", .glo "is_page", .glo "fresh_page", .glo "all_pages", .glo "slot_at", .glo "places_from", .glo "row_places"] : List He.Fa) ++
  ([.glo "row_names", .glo "values_from", .glo "lost", .glo "size_of", .glo "free_cells", .glo "room_at", .glo "usable_slots", .glo "with_slot", .glo "with_part_free", .glo "with_values", .glo "_cells_of", .glo "_packed", .glo "usable_pages", .glo "pages_for_put"] : List He.Fa) ++
  ([.glo "shares", .glo "_check_values", .glo "_place", .glo "_is_name", .glo "Disk", .glo "Shelf", .glo "_law_begun", .glo "_law_take", .glo "_law_alike", .glo "_law_values", .glo "_law_begin", .glo "_law_deed", .glo "_law_step", .glo "law"] : List He.Fa) ++
  ([.glo "PageError", .glo "BadDisk", .glo "BadPage", .glo "BadRow", .glo "Full", .glo "NoPage", .glo "NoRow", .glo "Stopped", .free "isinstance", .free "len", .free "all", .free "int", .free "bool", .free "tuple"] : List He.Fa) ++
  ([.free "list", .free "range", .free "str", .free "min", .free "max", .free "ValueError", .free "sum", .free "enumerate", .free "sorted", .free "zip", .free "reversed", .int "SLOTS" 8, .int "CELLS" 24, .int "MOST_PAGES" 12] : List He.Fa) ++
  ([.int "MOST_VALUES" 300, .int "GREATEST_CELL" 99, .int "GREATEST_TURN" 99, .int "SPENT_TURN" 100, .int "LEAST_PAGES" 2, .cls "Disk", .noat "Disk" "_sheets", .noat "Disk" "_done", .noat "Disk" "_left", .noat "Disk" "_stands", .meth "Disk" "writes", .meth "Disk" "pages", .meth "Disk" "page", .meth "Disk" "write"] : List He.Fa) ++
  ([.meth "Disk" "_check", .meth "Disk" "_count_down", .mkr "Disk", .cls "Shelf", .noat "Shelf" "_disk", .meth "Shelf" "put", .meth "Shelf" "get", .meth "Shelf" "names", .meth "Shelf" "parts", .meth "Shelf" "change", .meth "Shelf" "drop", .meth "Shelf" "_pages", .meth "Shelf" "_settle", .meth "Shelf" "_free"] : List He.Fa) ++
  ([.meth "Shelf" "_free_lost", .mkr "Shelf", .exc "BadDisk", .exc "BadPage", .exc "BadRow", .exc "Full", .exc "NoPage", .exc "NoRow", .exc "Stopped", .exm "Full" "PageError" true, .exm "Full" "Full" true, .free "set", .glo "Walk", .cls "Walk"] : List He.Fa) ++
  ([.noat "Walk" "_shelf", .noat "Walk" "_place", .noat "Walk" "_over", .meth "Walk" "step", .mkr "Walk"] : List He.Fa)
def tfH : List He.Defn := [("are_values", none), ("is_page", none), ("free_cells", none), ("usable_pages", none)]
def excB (K : PySem.W.Frag) (D : Addr) : Bool :=
  decide (PySem.W.findIn K (.ref D) "__getattribute__" = some (some (.builtin "BaseException.__getattribute__"))) && (decide (PySem.W.findIn K (.ref D) "__getattr__" = some none) && (decide (PySem.W.subIn K (.ref D) (.type "BaseException") = some true) &&
  (PySem.W.hasDictIn K D && (decide (PySem.W.findIn K (.ref D) "__class__" = some (some (.builtin "object.__class__"))) && (decide (PySem.W.specialIn K (.builtin "object.__class__") "__get__" = some (some (.builtin "getset_descriptor.__get__"))) &&
  (decide (PySem.W.takesIn K (.builtin "object.__class__") = some true) && decide (PySem.W.mroIn K D (.type "object") = some true)))))))
theorem excB_ok {K : PySem.W.Frag} {D : Addr} (h : excB K D = true) : ExcC K D := by
  obtain ⟨h1, h⟩ := He.ba h
  obtain ⟨h2, h⟩ := He.ba h
  obtain ⟨h3, h⟩ := He.ba h
  obtain ⟨h4, h⟩ := He.ba h
  obtain ⟨h5, h⟩ := He.ba h
  obtain ⟨h6, h⟩ := He.ba h
  obtain ⟨h7, h8⟩ := He.ba h
  exact ⟨of_decide_eq_true h1, of_decide_eq_true h2, of_decide_eq_true h3, h4, of_decide_eq_true h5, of_decide_eq_true h6, of_decide_eq_true h7, of_decide_eq_true h8⟩
/-- an error's class among the nine -/
def kitB9 (K : PySem.W.Frag) (i : Nat) : Bool := (List.range 9).all fun j => decide (PySem.W.kitOne K (.ref (He.ga K (wordsH.getD i ""))) (.ref (He.ga K (wordsH.getD j ""))) = some (decide (j = i)))
def exH (K : PySem.W.Frag) : Bool := (true) && decide ((tfH.map fun p => (He.cT K p).2).Nodup)
abbrev RH : PySem.W.OpenRow := PySem.W.OpenLaw.row PySem.Challenge.rw_slotpages_k10_whole_walks
abbrev hkH : PySem.W.Hook := He.hookX 5 faH fnH [] tfH exH
def obH (s : PySem.W.SharedT) : He.AlX := He.obsX 5 faH fnH [] tfH exH (HandSHeadRun.getT s)
theorem obH_eq (s : PySem.W.SharedT) : obH s = hkH.obs s.abs := He.obsX_eq (HandSHeadRun.getT_eq s)
def looseH : List Str := (["_wall", "Walk", "PageError", "BadDisk", "NoPage", "BadPage", "Stopped", "BadRow", "NoRow", "Full", "SLOTS", "CELLS", "MOST_PAGES", "MOST_VALUES", "GREATEST_CELL", "GREATEST_TURN"] : List Str) ++
  (["SPENT_TURN", "is_number", "is_tuple", "is_next", "_holds", "is_slot", "are_values", "are_cells", "is_frame", "is_page", "fresh_page", "LEAST_PAGES", "all_pages", "Disk", "slot_at", "places_from"] : List Str) ++
  (["row_places", "row_names", "values_from", "lost", "size_of", "free_cells", "room_at", "usable_slots", "with_slot", "with_part_free", "with_values", "_cells_of", "_packed", "usable_pages", "pages_for_put", "shares"] : List Str) ++
  (["Shelf", "_check_values", "_place", "_is_name", "_law_begun", "_law_take", "_law_alike", "_law_values", "_law_begin", "_law_deed", "_law_step"] : List Str)
theorem runH (w : World) : HandSHeadRun.RunEq RH (PySem.W.view RH.prog [69]) hkH obH 60000 looseH w := by
  intro os
  kernel_rfl
end GX
set_option maxHeartbeats 2000000
namespace GX
open PySem PySem.Spec PyProof.Rows L2 GenW
/-- the code of a generator expression's loop has the frame of its names over what runs -/
theorem over_comp {A : Around} {elt : Expr} {gs : List Comprehension} {sc : Scope} {p : Pos} {it acc : Value} {env : Env} : A.over (.compLoop (.GeneratorExp elt gs sc p) 0 it acc env) [] = A.deeper env := by rfl
theorem over_compS {A : Around} {elt : Expr} {gs : List Comprehension} {sc : Scope} {p : Pos} {it acc : Value} {env : Env} : A.over (.compStart (.GeneratorExp elt gs sc p) 0 it acc env) [] = A.deeper env := by rfl
/-- the names of a generator expression: x its own, then captured ones, whose places in the maker's names are at cap -/
structure GS (N Ng : List Str) (sc scope : Scope) (x : Str) (cap : List Nat) : Prop where
  kind : scope.kind = .function
  co : scope.isCoroutine = false
  cell : ∀ y ∈ scope.names, y.2 ≠ .cell
  dot : scope.names.lookup (".0" : Str) = some NameKind.local
  loc : scope.names.lookup x = some .local
  free : ∀ y ∈ scope.names, y.2 = .free → sc.names.lookup y.1 = some .cell ∨ sc.names.lookup y.1 = some .free
  nd : Ng.Nodup
  hd : Ng[0]? = some x
  tl : ∀ (j : Nat) (y : Str), Ng[j + 1]? = some y → scope.names.lookup y = some .free ∧ ∃ i, cap[j]? = some i ∧ N[i]? = some y
  len : Ng.length = cap.length + 1
/-- the generator's slots at the start -/
def gSt (σ : L2.St) (cap : List Nat) : L2.St := none :: cap.map fun i => (σ[i]?).join
abbrev gEnv (X : Cx) (scope : Scope) (C : Addr) (code : Value) : Env := genEnv scope (cloFrom X.env.cells scope.names []) C code builtinsNs X.env
/-- the context in which the generator's element is reckoned: s, H when its frame is made -/
def gCx (X : Cx) (Ng : List Str) (scope : Scope) (code : Value) (s : Shared) (H : Hp) (fp : List Addr) (pn : List (Addr × Obj)) : Cx where
  prog := X.prog
  w := X.w
  K := X.K
  mg := X.mg
  base := X.base
  A := X.A.in1.in1.deeper (gEnv X scope s.heap.objs.size code)
  N := Ng
  s_0 := s
  H_0 := H
  env := gEnv X scope s.heap.objs.size code
  outer := X.stack
  stack := gEnv X scope s.heap.objs.size code :: X.stack
  ex := fp
  fn := fun _ => false
  calm := true
  pn := pn
  xe := fun _ _ => False
section
variable {X : Cx} {pins : List (Addr × Obj)} {σ : L2.St} {H : Hp} {s : Shared} {N Ng : List Str} {scope : Scope} {x : Str} {cap : List Nat}
theorem GS.has (S : GS X.N Ng X.env.scope scope x cap) (ok : X.Ok) : ∀ y ∈ scope.names, y.2 = .free → ∃ c, X.env.cells.lookup y.1 = some c := fun y hy e => by
  rcases S.free y hy e with k | k
  · exact ok.has _ (.inl k)
  · exact ok.has _ (.inr k)
theorem gStart {fp : List Addr} {code : Value} {it : Value} {a : Addr} {go : Obj} {h1 : Heap} {g' : Array GenState} {tk : Nat} (I : Inv X pins σ H s) (hd : X.A.handled = none) (S : GS X.N Ng X.env.scope scope x cap)
    (hfp : ∀ b ∈ fp, FpOk X pins H b ∧ b < s.heap.objs.size) (hns : h1.Ns s.heap.objs.size (fun y => if y = ".0" then some it else none)) (hk : ∀ b o, s.heap.get? b = some o → h1.get? b = some o)
    (ha : h1.get? a = some go) (ha2 : s.heap.objs.size < a) (hgo : ∀ v, go.data ≠ .cell v) (hg : AllBare g') :
    Inv (gCx X Ng scope code s H fp [(a, go)]) [] (gSt σ cap) H { s with heap := h1, gens := g', toks := tk } := by
  have hfree := S.has I.ok
  have cm : ∀ {y c}, (cloFrom X.env.cells scope.names []).lookup y = some c → X.env.cells.lookup y = some c := fun {y c} e => by
    rcases cloFrom_mem (PySem.mem_of_lookup e) with hm | ⟨q1, q2⟩
    · cases hm
    · obtain ⟨c1, hc⟩ := hfree _ q1 rfl
      have hc : X.env.cells.lookup y = some c1 := hc
      rw [hc] at q2
      have e2 : c = c1 := q2
      rw [e2]; exact hc
  have look : ∀ {y}, scope.names.lookup y = some .free → ∃ c, (cloFrom X.env.cells scope.names []).lookup y = some c := fun {y} hl =>
    mem_lookup (cloFrom_has (cells := X.env.cells) (acc := []) (PySem.mem_of_lookup hl))
  have neC : ∀ b o, s.heap.get? b = some o → b ≠ s.heap.objs.size := fun b o e => Nat.ne_of_lt (Heap.lt_size e)
  have ltc : ∀ {y c}, X.env.cells.lookup y = some c → c < s.heap.objs.size := fun {y c} e => by
    obtain ⟨v, z⟩ := I.cell y c e
    exact z.lt
  have stkLt : ∀ b ∈ frs X.stack, b < s.heap.objs.size := fun b hb => by
    obtain ⟨_, o, ho, _⟩ := I.stack.mem hb
    exact Heap.lt_size ho
  have cellK : ∀ {c : Addr} {v : Option Value}, s.heap.IsCell c v → h1.IsCell c v := fun {c v} ⟨o, ho, hd⟩ => ⟨o, hk _ _ ho, hd⟩
  refine ⟨⟨I.ok.mod, S.kind, I.ok.glob, rfl, Nat.le_refl _, fun y z c e1 e2 => I.ok.inj y z c (cm e1) (cm e2), fun y hy => ?_, fun y c z _ => absurd (show false = true from z) Bool.false_ne_true, fun _ => hd, Around.frames_deeper (A := X.A.in1.in1) I.ok.frames, .inr ⟨rfl, rfl⟩,
      fun b hb => ⟨Nat.ne_of_lt (hfp b hb).2, fun y c e => (hfp b hb).1.2.2.2.2.1 y c (cm e)⟩, I.bs, Nat.le_trans I.ok.bsz I.sz, fun b o e hb => ?_, fun b hb hm => ?_, I.stack, I.stkFree⟩,
    rfl, hg, Un.kept hk, ⟨_, hns, fun i y v e1 e2 e3 => ?_⟩, fun y c e => ?_, I.hok.fresh (Nat.le_refl _), fun y c e => I.freeC y c (cm e), fun p hp => ?_, I.hok.kept hk, ?_⟩
  · have hy : scope.names.lookup y = some .cell ∨ scope.names.lookup y = some .free := hy
    rcases hy with hy | hy
    · exact absurd rfl (S.cell _ (PySem.mem_of_lookup hy))
    · exact look hy
  · rcases (hfp b hb).1.2.2.2.1 with z | z
    · exact I.ok.noex b o e z
    · exact absurd (Nat.lt_of_lt_of_le (Heap.lt_size (I.ok.bs b o e).1) z) (Nat.lt_irrefl _)
  · rcases List.mem_cons.mp (I.stkSub b hm) with z | z
    · exact (hfp b hb).1.2.1 z
    · exact (hfp b hb).1.2.2.1 z
  · have e1 : Ng[i]? = some y := e1
    have e2 : (gSt σ cap)[i]? = some (some v) := e2
    cases i with
    | zero => exact absurd e2 (by simp [gSt])
    | succ j =>
      obtain ⟨hf, i', hc, hn⟩ := S.tl j y e1
      have e2' : (cap.map fun i => (σ[i]?).join)[j]? = some (some v) := by simpa [gSt] using e2
      rw [List.getElem?_map, hc] at e2'
      have e2'' : (σ[i']?).join = some v := by simpa using e2'
      have e4 : σ[i']? = some (some v) := by
        cases q : σ[i']? with
        | none => rw [q] at e2''; cases e2''
        | some w => rw [q] at e2''; rw [← e2'']; rfl
      have hv : X.env.kindOf y = some .cell ∨ X.env.kindOf y = some .free := S.free (y, .free) (PySem.mem_of_lookup hf) rfl
      obtain ⟨m, hn', hl⟩ := I.loc
      obtain ⟨u, r, q⟩ := hl i' y v hn e4 (.inr hv)
      refine ⟨u, r, .inr ⟨.inr hf, ?_⟩⟩
      rcases q with ⟨k, _⟩ | ⟨_, c, ec, z⟩
      · rcases hv with w | w <;> (rw [k] at w; cases w)
      · obtain ⟨c', ec'⟩ := look hf
        have q := cm ec'
        rw [ec] at q
        cases q
        exact ⟨c, ec', cellK z⟩
  · obtain ⟨v, z⟩ := I.cell y c (cm e)
    exact ⟨v, cellK z⟩
  · have hp' : p ∈ [(a, go)] := by simpa [gCx] using hp
    rw [List.mem_singleton.mp hp']
    exact ⟨ha, I.hok.fresh (Nat.le_of_lt ha2), Nat.ne_of_gt ha2, fun hm => absurd (Nat.lt_trans ha2 (stkLt a hm)) (Nat.lt_irrefl _), hgo⟩
  · show (gSt σ cap).length = Ng.length
    rw [S.len]; simp [gSt]
end
end GX
namespace GX
open PySem PySem.Spec PyProof.Rows L2 GenW
/-- a value is handed out: Y tells what is wanted of it; the run goes on where Pv holds -/
def GY (Z : Cx) (τ : L2.St) (fp : List Addr) (tn : Nat → Heap → Prop) (N : Nat) (PG : Nat → List (Addr × Obj) → Prop) (Pv : Nat → Hp → Prop) (Y : Nat → V → Hp → Prop) : Protocol := fun n _ v s kap =>
  ∃ (i : Nat) (y : V) (H : Hp) (pg : List (Addr × Obj)), i + 1 + n = N ∧ RelV y v ∧ PG i pg ∧ Inv Z pg τ H s ∧ tn (i + 1) s.heap ∧ (∀ b ∈ fp, FpOk Z pg H b) ∧ Y i y H ∧
    ∀ (s' : Shared) (pg' : List (Addr × Obj)), PG (i + 1) pg' → Inv Z pg' τ H s' → tn (i + 1) s'.heap → (∀ b ∈ fp, FpOk Z pg' H b) → Pv (i + 1) H → kap (.send .none) s'
/-- the run's end -/
def GF (Z : Cx) (τ : L2.St) (PG : Nat → List (Addr × Obj) → Prop) (Qe : Nat → Hp → Prop) (i : Nat) (s : Shared) : Prop := ∃ (H : Hp) (pg : List (Addr × Obj)), PG i pg ∧ Inv Z pg τ H s ∧ Qe i H
def GR (Z : Cx) (τ : L2.St) (N : Nat) (PG : Nat → List (Addr × Obj) → Prop) (Qe : Nat → Hp → Prop) : GenEnd := fun n _ r s => ((r = .ok (.ret .none) ∨ r = .ok .next) ∧ ∃ i, i + n = N ∧ GF Z τ PG Qe i s) ∨ ∃ e, r = .error e ∧ False
/-- what a turn asks -/
def Turns (J : It) (N : Nat) (τ : L2.St) (te : TE) (Pv : Nat → Hp → Prop) (Y : Nat → V → Hp → Prop) (Qe : Nat → Hp → Prop) : Prop :=
  ∀ i H, Pv i H → (J.stop i H ∧ Qe i H) ∨ (J.go i H ∧ i < N ∧ ∀ v H', J.yld i H v H' → te (τ.set 0 (some v)) H' fun y H2 => Y i y H2)
theorem gLoop {Z : Cx} {B : Around} {it : Addr} {fp : List Addr} {tn : Nat → Heap → Prop} {J : It} {elt iter : Expr} {x : Str} {px gpos : Pos} {scope : Scope} {τ : L2.St} {te : TE} {N : Nat} {Pv : Nat → Hp → Prop} {Y : Nat → V → Hp → Prop} {Qe : Nat → Hp → Prop} {PG : Nat → List (Addr × Obj) → Prop}
    (hA : B.deeper Z.env = Z.A) (hcalm : Z.calm = true) (T : Turn Z.prog Z.w Z.K (.Name x px) J fp it tn) (hel : PE Z elt te) (hxe : ∀ e s, ¬ Z.xe e s)
    (hnd : Z.N.Nodup) (h0 : Z.N[0]? = some x) (hl : Z.env.scope.names.lookup x = some .local) (hco : Z.env.scope.isCoroutine = false) (hτ : τ[0]? = some none) (turn : Turns J N τ te Pv Y Qe) :
    ∀ (n i : Nat) (s₀ s : Shared) (H : Hp) (pg : List (Addr × Obj)), i + n = N → PG i pg → Inv Z pg τ H s → tn i s.heap → (∀ b ∈ fp, FpOk Z pg H b) → Pv i H →
      Seg (model Z.prog Z.w) B (GR Z τ N PG Qe) (GY Z τ fp tn N PG Pv Y) n s₀ (.compLoop (.GeneratorExp elt [⟨.Name x px, iter, [], 0⟩] scope gpos) 0 (.ref it) .none Z.env)
        ((model Z.prog Z.w).den (.compLoop (.GeneratorExp elt [⟨.Name x px, iter, [], 0⟩] scope gpos) 0 (.ref it) .none Z.env)) [] s := by
  intro n
  induction n with
  | zero =>
    intro i s₀ s H pg hin hpg I ht hf hp
    show Seg _ B _ _ _ s₀ _ ((compTurn (.GeneratorExp elt [⟨.Name x px, iter, [], 0⟩] scope gpos) 0 (.ref it) .none Z.env).onRaise (leaving Z.env)) [] s
    rw [compTurn_gen, Sem.onRaise_eq_wrap]
    refine seg_bind_wrap (wpAny_standAt ?_)
    rcases turn i H hp with ⟨stop, qe⟩ | ⟨_, hi, _⟩
    · refine seg_bind_wrap ?_
      rw [over_comp, hA]
      refine thn (T.done Z rfl rfl rfl hcalm i pg s τ H _ I hf ht stop) fun r s4 hr => ?_
      obtain ⟨er, I4⟩ := hr
      subst er
      exact seg_end (.ok .next) (.inl ⟨.inr rfl, i, hin, H, pg, hpg, I4, qe⟩)
    · omega
  | succ n ih =>
    intro i s₀ s H pg hin hpg I ht hf hp
    show Seg _ B _ _ _ s₀ _ ((compTurn (.GeneratorExp elt [⟨.Name x px, iter, [], 0⟩] scope gpos) 0 (.ref it) .none Z.env).onRaise (leaving Z.env)) [] s
    rw [compTurn_gen, Sem.onRaise_eq_wrap]
    refine seg_bind_wrap (wpAny_standAt ?_)
    rcases turn i H hp with ⟨stop, qe⟩ | ⟨go, hi, step⟩
    · refine seg_bind_wrap ?_
      rw [over_comp, hA]
      refine thn (T.done Z rfl rfl rfl hcalm i pg s τ H _ I hf ht stop) fun r s4 hr => ?_
      obtain ⟨er, I4⟩ := hr
      subst er
      exact seg_end (.ok .next) (.inl ⟨.inr rfl, i, hin, H, pg, hpg, I4, qe⟩)
    · refine seg_bind_wrap ?_
      rw [over_comp, hA]
      refine thn (T.item Z rfl rfl rfl hcalm i pg s τ H _ I hf ht go) fun r s4 hr => ?_
      obtain ⟨u, er, h4⟩ := hr
      subst er
      refine seg_bind_wrap ?_
      rw [over_comp, hA]
      refine thn h4 fun _ s5 h5 => ?_
      obtain ⟨y, H5, I5, r5, y5, st5, fr5⟩ := h5
      have stat : ∀ b ∈ fp, FpOk Z pg H5 b := fun b hb => ⟨fr5 b hb, (hf b hb).2⟩
      have I5' := I5.pinned stat (T.obj _ _ st5)
      refine seg_bind_wrap ?_
      rw [over_comp, hA]
      refine wpAny_assign_Name (store_ok I5' hnd h0 (.inl hl) r5 (fun s6 I6 => ?_) (.inr hl))
      refine seg_bind_wrap ?_
      rw [List.forIn_nil]
      refine wpAny_pure ?_
      simp only [if_true]
      have hy : ∀ v, yieldOut Z.env v = yieldValue v := fun v => by simp only [yieldOut, hco, Bool.false_eq_true, if_false]
      simp only [hy]
      rw [Sem.bind_eq_wrap', Sem.bind_eq_wrap', Sem.wrap_wrap, Sem.wrap_wrap]
      refine seg_wrap ?_
      rw [over_comp, hA]
      refine wpAny_mono (hel.run _ s6 _ H5 _ I6 (step y H5 y5)) (fun z s7 h7 => ?_) fun e s7 z => absurd z (hxe e s7)
      obtain ⟨v7, H7, I7, r7, q7⟩ := h7
      have pin7 : ∀ b ∈ fp, ∀ o, s5.heap.get? b = some o → s7.heap.get? b = some o ∧ H7 b = none := fun b hb o e => by
        have q := I7.pin (b, o) (List.mem_append_right _ (List.mem_append_right _ (mem_pinsAt hb e)))
        exact ⟨q.1, q.2.1⟩
      have t7 : tn (i + 1) s7.heap := T.keep _ _ _ st5 fun b hb o e => (pin7 b hb o e).1
      have f7 : ∀ b ∈ fp, FpOk Z pg H7 b := fun b hb => by
        obtain ⟨o, e, _⟩ := T.obj _ _ st5 b hb
        exact ⟨(pin7 b hb o e).2, (hf b hb).2⟩
      have J7 : Inv Z pg τ H7 s7 := (I7.unpinned).weak (by rw [List.length_set]) fun j v e => by
        by_cases hj : j = 0
        · subst hj
          rw [hτ] at e
          cases e
        · rw [List.getElem?_set_ne (Ne.symm hj)]
          exact e
      refine seg_at (seg_yield rfl rfl rfl ?_)
      refine ⟨i, v7, H7, pg, by omega, r7, hpg, J7, t7, f7, q7, fun s8 pg8 g8 I8 t8 f8 p8 => ?_⟩
      exact seg_again rfl (ih (i + 1) s8 s8 H7 pg8 (by omega) g8 I8 t8 f8 p8)
/-- .. from the start -/
theorem gBegin {Z : Cx} {B : Around} {it : Addr} {fp : List Addr} {tn : Nat → Heap → Prop} {J : It} {elt iter : Expr} {x : Str} {px gpos : Pos} {scope : Scope} {τ : L2.St} {te : TE} {N : Nat} {Pv : Nat → Hp → Prop} {Y : Nat → V → Hp → Prop} {Qe : Nat → Hp → Prop} {PG : Nat → List (Addr × Obj) → Prop}
    (hA : B.deeper Z.env = Z.A) (hcalm : Z.calm = true) (T : Turn Z.prog Z.w Z.K (.Name x px) J fp it tn) (hel : PE Z elt te) (hxe : ∀ e s, ¬ Z.xe e s)
    (hnd : Z.N.Nodup) (h0 : Z.N[0]? = some x) (hl : Z.env.scope.names.lookup x = some .local) (hco : Z.env.scope.isCoroutine = false) (hτ : τ[0]? = some none) (turn : Turns J N τ te Pv Y Qe)
    (s₀ s : Shared) (H : Hp) (pg : List (Addr × Obj)) (hpg : PG 0 pg) (I : Inv Z pg τ H s) (ht : tn 0 s.heap) (hf : ∀ b ∈ fp, FpOk Z pg H b) (hp : Pv 0 H) :
    Seg (model Z.prog Z.w) B (GR Z τ N PG Qe) (GY Z τ fp tn N PG Pv Y) N s₀ (.compStart (.GeneratorExp elt [⟨.Name x px, iter, [], 0⟩] scope gpos) 0 (.ref it) .none Z.env)
        ((model Z.prog Z.w).den (.compStart (.GeneratorExp elt [⟨.Name x px, iter, [], 0⟩] scope gpos) 0 (.ref it) .none Z.env)) [] s := by
  have loop := gLoop (iter := iter) (scope := scope) (gpos := gpos) hA hcalm T hel hxe hnd h0 hl hco hτ turn N 0 s₀ s H pg (Nat.zero_add _) hpg I ht hf hp
  show Seg _ B _ _ _ s₀ _ ((compStart (.GeneratorExp elt [⟨.Name x px, iter, [], 0⟩] scope gpos) 0 (.ref it) .none Z.env).onRaise (leaving Z.env)) [] s
  unfold compStart
  rw [Sem.onRaise_eq_wrap]
  show Seg _ B _ _ _ s₀ _ ((ask >>= _).wrap _ _ _ _) [] s
  refine seg_bind_wrap (wpAny_askSetting ?_)
  split
  · exact seg_again rfl loop
  · first
      | exact seg_bind_wrap (wpAny_rule (seg_bind_wrap (wpAny_standAt (seg_bind_wrap (T.self _ 0 s _ _ ht (seg_again rfl loop))))))
      | (refine seg_bind_wrap (wpAny_rule ?_); show Seg _ B _ _ _ s₀ _ ((standAt iter.pos >>= _).wrap _ _ _ _) [] s; exact seg_bind_wrap (wpAny_standAt (seg_bind_wrap (T.self _ 0 s _ _ ht (seg_again rfl loop)))))
end GX
namespace GX
open PySem PySem.Spec PyProof.Rows L2 GenW
theorem inv_gens {X : Cx} {pins : List (Addr × Obj)} {σ : L2.St} {H : Hp} {s : Shared} {g' : Array GenState} (I : Inv X pins σ H s) (hg : AllBare g') : Inv X pins σ H { s with gens := g' } :=
  ⟨I.ok, I.os, hg, I.base, I.loc, I.cell, I.free, I.freeC, I.pin, I.hok, I.len⟩
theorem inv_set {X : Cx} {pins : List (Addr × Obj)} {σ : L2.St} {H : Hp} {s : Shared} {g : Nat} {y : GenState} (I : Inv X pins σ H s) (hy : y.bare = true) : Inv X pins σ H (s.setGen g y) :=
  inv_gens I (allBare_setGen I.bare hy)
section
variable {Z : Cx} {A : Around} {a : Addr} {g : Nat} {τ : L2.St} {fp : List Addr} {tn : Nat → Heap → Prop} {N : Nat} {PG : Nat → List (Addr × Obj) → Prop} {Pv : Nat → Hp → Prop} {Y : Nat → V → Hp → Prop} {Qe : Nat → Hp → Prop} {Qf : Hp → Prop} {R : Result → Shared → Prop}
/-- the generator sleeps, n values at most are to come -/
def Sleeps (Z : Cx) (A : Around) (g : Nat) (τ : L2.St) (fp : List Addr) (tn : Nat → Heap → Prop) (N : Nat) (PG : Nat → List (Addr × Obj) → Prop) (Pv : Nat → Hp → Prop) (Y : Nat → V → Hp → Prop) (Qe : Nat → Hp → Prop) (n : Nat) (s : Shared) : Prop :=
  ∃ gs, s.gens[g]? = some gs ∧ gs.Goes (model Z.prog Z.w) A.in1.in1 (GR Z τ N PG Qe) (GY Z τ fp tn N PG Pv Y) n (.send .none) (s.setGen g .running)
/-- one step of whoever draws -/
theorem gNext {n : Nat} {s : Shared} {E : Value → Shared → Prop} {Q : Option Value → Shared → Prop} (hh : A.handled = none) (hd : A.depth < recursionLimit) (hgen : ∀ (s : Shared) H pg, Inv Z pg τ H s → s.heap.IsGen a g)
    (hT : ∀ i h h', tn i h → (∀ b ∈ fp, ∀ o, h.get? b = some o → h'.get? b = some o) → tn i h')
    (I : ∃ H pg, Inv Z pg τ H s) (hs : Sleeps Z A g τ fp tn N PG Pv Y Qe n s)
    (hY : ∀ (i : Nat) (y : V) (v : Value) (H : Hp) (pg : List (Addr × Obj)) (s1 : Shared), i + 1 + (n - 1) = N → RelV y v → PG i pg → Inv Z pg τ H s1 → Y i y H → (∀ b ∈ fp, FpOk Z pg H b) →
      (∀ s2 pg2, s2.gens = s1.gens → PG (i + 1) pg2 → Inv Z pg2 τ H s2 → (∀ b ∈ fp, ∀ o, s1.heap.get? b = some o → s2.heap.get? b = some o) → (∀ b ∈ fp, FpOk Z pg2 H b) → Pv (i + 1) H → ∃ m, m + 1 = n ∧ Sleeps Z A g τ fp tn N PG Pv Y Qe m s2) → Q (some v) s1)
    (hE : ∀ i s1, i + n = N → GF Z τ PG Qe i s1 → Q none s1) :
    wpAny (model Z.prog Z.w) A.in1 (pyNext (.ref a)) Q E s := by
  obtain ⟨H, pg, I⟩ := I
  obtain ⟨gs, hgs, hgo⟩ := hs
  have hgl : g < s.gens.size := (Array.getElem?_eq_some_iff.mp hgs).1
  refine wpAny_gsz (n := g + 1) hgl ?_
  refine next_genG (F := fun n _ s1 => ∃ i, i + n = N ∧ GF Z τ PG Qe i s1) (Er := fun _ _ => False) hh I.nolimit hd (hgen _ _ _ I) hgs hgo (fun v s1 gs' hb hv hsz => ?_) (fun s1 hp h' hk hsz => ?_) fun e s1 he => he.elim
  · obtain ⟨i, y, H1, pg1, hn, r, g1, I1, t1, f1, q1, wake⟩ := hv
    have hsz1 : g < s1.gens.size := by
      have q : (s1.setGen g gs').gens.size = s1.gens.size := setGen_size _ _ _
      have hz : g + 1 ≤ (s1.setGen g gs').gens.size := hsz
      omega
    refine hY i y v H1 pg1 _ hn r g1 (inv_set I1 hb) q1 f1 (fun s2 pg2 eg g2 I2 hk2 f2 p2 => ?_)
    cases n with
    | zero => exact (wake s2 pg2 g2 I2 (hT _ _ _ t1 hk2) f2 p2).elim
    | succ m =>
      refine ⟨m, rfl, gs', ?_, ?_⟩
      · rw [eg]
        exact setGen_at hsz1
      · exact wake (s2.setGen g .running) pg2 g2 (inv_set I2 rfl) (hT _ _ _ t1 hk2) f2 p2
  · obtain ⟨i, hi, H1, pg1, g1, I1, q1⟩ := hp
    refine hE i _ hi ⟨H1, pg1, g1, ?_, q1⟩
    exact (inv_set I1 rfl).kept (t' := (s1.setGen g .finished).toks) hk
theorem allLoop (hh : A.handled = none) (hd : A.depth < recursionLimit) (hgen : ∀ (s : Shared) H pg, Inv Z pg τ H s → s.heap.IsGen a g)
    (hT : ∀ i h h', tn i h → (∀ b ∈ fp, ∀ o, h.get? b = some o → h'.get? b = some o) → tn i h')
    (hY : ∀ i y H, Y i y H → ∃ b, y = .bl b ∧ (b = true → Pv (i + 1) H) ∧ (b = false → Qf H))
    (hend : ∀ i s' H pg, Inv Z pg τ H s' → Qe i H → R (.ok (.ret (.bool true))) s') (hbrk : ∀ s' H pg, Inv Z pg τ H s' → Qf H → R (.ok (.ret (.bool false))) s') :
    ∀ (n : Nat) (s : Shared), (∃ H pg, Inv Z pg τ H s) → Sleeps Z A g τ fp tn N (fun _ pg => pg = []) Pv Y Qe n s → codeAny (model Z.prog Z.w) A (.builtin "all.loop" ⟨[.ref a], []⟩) R s := by
  intro n
  induction n using Nat.strongRecOn with
  | ind n ih =>
    intro s I hs
    refine codeAny_builtin F.entry_all_loop ?_
    rw [Around.under_plainId F.plain_all_loop _]
    show wpAny _ A.in1 (pyNext (.ref a) >>= _) _ _ s
    refine wpAny_bind (gNext hh hd hgen hT I hs (fun i y v H pg s1 _ r g1 I1 q1 f1 wake => ?_) fun i s1 _ h1 => ?_)
    · obtain ⟨b, ey, h1, h2⟩ := hY i y H q1
      subst ey
      obtain rfl : v = Value.bool b := r
      refine wpAny_bind (wpAny_holding (wpAny_truthy_bool ?_))
      refine wpAny_bind (wpAny_letGo ?_)
      cases b with
      | true =>
        simp only [if_true]
        obtain ⟨m, hm, sl⟩ := wake s1 pg rfl g1 I1 (fun _ _ _ e => e) f1 (h1 rfl)
        exact wpAny_pure ⟨plainId_quiet F.plain_all_loop _, ih m (by omega) s1 ⟨H, pg, I1⟩ sl⟩
      | false =>
        simp only [Bool.false_eq_true, if_false]
        exact wpAny_bind (wpAny_rule (wpAny_pure (hbrk _ H pg I1 (h2 rfl))))
    · obtain ⟨H1, pg1, _, I1, q1⟩ := h1
      exact wpAny_bind (wpAny_rule (wpAny_pure (hend i _ H1 pg1 I1 q1)))
theorem anyLoop (hh : A.handled = none) (hd : A.depth < recursionLimit) (hgen : ∀ (s : Shared) H pg, Inv Z pg τ H s → s.heap.IsGen a g)
    (hT : ∀ i h h', tn i h → (∀ b ∈ fp, ∀ o, h.get? b = some o → h'.get? b = some o) → tn i h')
    (hY : ∀ i y H, Y i y H → ∃ b, y = .bl b ∧ (b = false → Pv (i + 1) H) ∧ (b = true → Qf H))
    (hend : ∀ i s' H pg, Inv Z pg τ H s' → Qe i H → R (.ok (.ret (.bool false))) s') (hbrk : ∀ s' H pg, Inv Z pg τ H s' → Qf H → R (.ok (.ret (.bool true))) s') :
    ∀ (n : Nat) (s : Shared), (∃ H pg, Inv Z pg τ H s) → Sleeps Z A g τ fp tn N (fun _ pg => pg = []) Pv Y Qe n s → codeAny (model Z.prog Z.w) A (.builtin "any.loop" ⟨[.ref a], []⟩) R s := by
  intro n
  induction n using Nat.strongRecOn with
  | ind n ih =>
    intro s I hs
    refine codeAny_builtin F.entry_any_loop ?_
    rw [Around.under_plainId F.plain_any_loop _]
    show wpAny _ A.in1 (pyNext (.ref a) >>= _) _ _ s
    refine wpAny_bind (gNext hh hd hgen hT I hs (fun i y v H pg s1 _ r g1 I1 q1 f1 wake => ?_) fun i s1 _ h1 => ?_)
    · obtain ⟨b, ey, h1, h2⟩ := hY i y H q1
      subst ey
      obtain rfl : v = Value.bool b := r
      refine wpAny_bind (wpAny_holding (wpAny_truthy_bool ?_))
      refine wpAny_bind (wpAny_letGo ?_)
      cases b with
      | true =>
        simp only [if_true]
        exact wpAny_bind (wpAny_rule (wpAny_pure (hbrk _ H pg I1 (h2 rfl))))
      | false =>
        simp only [Bool.false_eq_true, if_false]
        obtain ⟨m, hm, sl⟩ := wake s1 pg rfl g1 I1 (fun _ _ _ e => e) f1 (h1 rfl)
        exact wpAny_pure ⟨plainId_quiet F.plain_any_loop _, ih m (by omega) s1 ⟨H, pg, I1⟩ sl⟩
    · obtain ⟨H1, pg1, _, I1, q1⟩ := h1
      exact wpAny_bind (wpAny_rule (wpAny_pure (hend i _ H1 pg1 I1 q1)))
/-- an untracked thing of the consumer's turns -/
theorem pinTurn {S : Addr} {o o' : Obj} {H : Hp} {s : Shared} {h' : Heap} {t' : Nat} (I : Inv Z [(S, o)] τ H s) (hS : Z.s_0.heap.objs.size ≤ S) (hc : ∀ y c, Z.env.cells.lookup y = some c → c ≠ S) (hp : ∀ p ∈ Z.pn, p.1 ≠ S)
    (k : ∀ b u, b ≠ S → s.heap.get? b = some u → h'.get? b = some u) (e : h'.get? S = some o') (ho : ∀ v, o'.data ≠ .cell v) : Inv Z [(S, o')] τ H { s with heap := h', toks := t' } := by
  obtain ⟨_, n0, nL, nF, _⟩ := I.pin (S, o) (List.mem_append_right _ List.mem_cons_self)
  have n0 : H S = none := n0
  have I0 : Inv Z [] τ H s := I.pins_of fun p hp => absurd hp (by simp)
  have nc : ∀ b, b ∉ [S] → b ≠ S := fun b hb z => hb (by rw [z]; exact List.mem_singleton.mpr rfl)
  have nt : ∀ b u, H b = some u → b ≠ S := fun b u q hb => by rw [hb, n0] at q; cases q
  have J : Inv Z [] τ H { s with heap := h', gens := s.gens, drawn := s.drawn, toks := t' } := by
    refine I0.step (g' := s.gens) (d' := s.drawn) (t' := t') (ch := [S]) (fun b hb => ?_) (fun b ob _ _ hc q _ => k b ob (nc b hc) q) (fun b ob _ _ hc q _ => ⟨ob.slots, k b ob (nc b hc) q⟩) (fun _ _ _ _ n => n) (fun b ob hc q => ⟨ob, k b ob (nc b hc) q⟩)
      (fun _ _ q => q) (fun _ _ _ q => q) (fun b ps q => ⟨#[], by rw [q]; simp⟩) (fun m hm => ?_) (fun b u q => ?_) I.bare
    · rw [List.mem_singleton.mp hb]
      exact ⟨.inr hS, nL, hc, fun p hq => hp p (by simpa using hq)⟩
    · obtain ⟨ob, es, ep, ho, r⟩ := hm
      exact ⟨ob, es, ep, k _ ob (Ne.symm nL) ho, r⟩
    · refine (I0.hok b u q).stay (fun c v hc y => k c v ?_ y) (fun _ y => y) fun _ _ y => y
      rcases hc with y | y
      · rw [y]; exact nt b u q
      · exact nt c _ y
  refine J.pins_of fun p hq => ?_
  rw [List.mem_singleton.mp hq]
  exact ⟨e, n0, nL, nF, ho⟩
abbrev accObj (c : Int) (t : Tok) (n : Nat) : Obj := { cls := .type "list", dict := none, data := .seq #[.int c t] n, slots := #[] }
theorem sumLoop {S : Addr} {val : Nat → Int} (hh : A.handled = none) (hd : A.depth < recursionLimit) (hgen : ∀ (s : Shared) H pg, Inv Z pg τ H s → s.heap.IsGen a g)
    (hT : ∀ i h h', tn i h → (∀ b ∈ fp, ∀ o, h.get? b = some o → h'.get? b = some o) → tn i h')
    (hS : Z.s_0.heap.objs.size ≤ S) (hc : ∀ y c, Z.env.cells.lookup y = some c → c ≠ S) (hp : ∀ p ∈ Z.pn, p.1 ≠ S)
    (hfit : ∀ j, j < N → InLong (val j) ∧ InLong (preSum val (j + 1))) (hY : ∀ i y H, Y i y H → y = .int (val i) ∧ Pv (i + 1) H)
    (hend : ∀ i s' H pg t', Inv Z pg τ H s' → Qe i H → R (.ok (.ret (.int (preSum val i) t'))) s') :
    ∀ (n : Nat) (s : Shared) (i : Nat) (t : Tok) (c : Nat), i + n = N → (∃ H, Inv Z [(S, accObj (preSum val i) t c)] τ H s) →
      Sleeps Z A g τ fp tn N (fun i pg => ∃ t c, pg = [(S, accObj (preSum val i) t c)]) Pv Y Qe n s → codeAny (model Z.prog Z.w) A (.builtin "sum.loop" ⟨[.ref a, .ref S, rawInt 0, rawInt 0], []⟩) R s := by
  intro n
  induction n with
  | zero =>
    intro s i t c hin I hs
    obtain ⟨H, I⟩ := I
    have eS : s.heap.get? S = some (accObj (preSum val i) t c) := (I.pin (S, _) (List.mem_append_right _ List.mem_cons_self)).1
    refine codeAny_builtin F.entry_sum_loop ?_
    rw [Around.under_plainId F.plain_sum_loop _]
    show wpAny _ A.in1 (seqItems? (.ref S) >>= _) _ _ s
    refine wpAny_bind (wpAny_seqItems eS rfl ?_)
    show wpAny _ A.in1 (tryCatch (pyNext (.ref a)) _ >>= _) _ _ s
    refine wpAny_bind (wpAny_tryCatch (gNext hh hd hgen hT ⟨H, _, I⟩ hs (fun j y v H1 pg s1 hn r g1 I1 q1 f1 wake => ?_) fun j s1 hj h1 => ?_))
    · obtain ⟨ey, p1⟩ := hY j y H1 q1
      obtain ⟨t1, c1, e1⟩ := g1
      subst e1
      -- nothing may come any more
      have e2 : s1.heap.get? S = some (accObj (preSum val j) t1 c1) := (I1.pin (S, _) (List.mem_append_right _ List.mem_cons_self)).1
      have nS : ∀ b ∈ fp, b ≠ S := fun b hb z => (f1 b hb).2.2.2.2.2 (S, _) (List.mem_append_right _ List.mem_cons_self) z.symm
      have J := pinTurn (o' := accObj (preSum val (j + 1)) t1 c1) (h' := s1.heap.update S (fun _ => accObj (preSum val (j + 1)) t1 c1)) (t' := s1.toks) I1 hS hc hp (fun b u hb q => (Heap.get?_update_other _ _ (Ne.symm hb)).trans q)
        (Heap.get?_update_self _ e2 rfl) (fun v z => by cases z)
      obtain ⟨m, hm, _⟩ := wake { s1 with heap := s1.heap.update S (fun _ => accObj (preSum val (j + 1)) t1 c1) } [(S, accObj (preSum val (j + 1)) t1 c1)] rfl ⟨t1, c1, rfl⟩ J
        (fun b hb o q => (Heap.get?_update_other _ _ (Ne.symm (nS b hb))).trans q) (fun b hb => ⟨(f1 b hb).1, (f1 b hb).2.1, (f1 b hb).2.2.1, (f1 b hb).2.2.2.1, (f1 b hb).2.2.2.2.1, fun p hq => by
          rcases List.mem_append.mp hq with z | z
          · exact (f1 b hb).2.2.2.2.2 p (List.mem_append_left _ z)
          · rw [List.mem_singleton.mp z]; exact Ne.symm (nS b hb)⟩) p1
      exact absurd hm (Nat.succ_ne_zero m)
    · obtain ⟨H1, pg1, _, I1, q1⟩ := h1
      have ej : j = i := by omega
      subst ej
      exact wpAny_pure (hend j s1 H1 pg1 t I1 q1)
  | succ n ih =>
    intro s i t c hin I hs
    obtain ⟨H, I⟩ := I
    have eS : s.heap.get? S = some (accObj (preSum val i) t c) := (I.pin (S, _) (List.mem_append_right _ List.mem_cons_self)).1
    refine codeAny_builtin F.entry_sum_loop ?_
    rw [Around.under_plainId F.plain_sum_loop _]
    show wpAny _ A.in1 (seqItems? (.ref S) >>= _) _ _ s
    refine wpAny_bind (wpAny_seqItems eS rfl ?_)
    show wpAny _ A.in1 (tryCatch (pyNext (.ref a)) _ >>= _) _ _ s
    refine wpAny_bind (wpAny_tryCatch (gNext hh hd hgen hT ⟨H, _, I⟩ hs (fun j y v H1 pg s1 hn r g1 I1 q1 f1 wake => ?_) fun j s1 hj h1 => ?_))
    · obtain ⟨ey, p1⟩ := hY j y H1 q1
      subst ey
      obtain ⟨tv, ev⟩ := r
      subst ev
      obtain ⟨t1, c1, e1⟩ := g1
      subst e1
      have ej : j = i := by omega
      subst ej
      have e2 : s1.heap.get? S = some (accObj (preSum val j) t1 c1) := (I1.pin (S, _) (List.mem_append_right _ List.mem_cons_self)).1
      have nS : ∀ b ∈ fp, b ≠ S := fun b hb z => (f1 b hb).2.2.2.2.2 (S, _) (List.mem_append_right _ List.mem_cons_self) z.symm
      obtain ⟨⟨b1, b2⟩, b3, b4⟩ := hfit j (by omega)
      have hok : ((decide (-(2 ^ 63) ≤ val j) && decide (val j < 2 ^ 63)) && (decide (-(2 ^ 63) ≤ preSum val j + val j) && decide (preSum val j + val j < 2 ^ 63))) = true := by
        simp only [preSum] at b3 b4
        simp only [Bool.and_eq_true, decide_eq_true_eq]
        exact ⟨⟨b1, b2⟩, b3, b4⟩
      show wpAny _ A.in1 (if (_ : Bool) = true then (mkInt (preSum val j + val j) >>= _) else _) _ _ _
      split
      · refine wpAny_bind (wpAny_mkInt ?_)
        show wpAny _ A.in1 (updateSeq S (fun _ => #[.int (preSum val j + val j) s1.toks]) >>= _) _ _ _
        refine wpAny_bind (wpAny_updateSeq e2 rfl ?_)
        have e3 := Heap.get?_update_self (Obj.mapSeq (fun _ => #[Value.int (preSum val j + val j) s1.toks])) e2 rfl
        obtain ⟨c2, e4⟩ : ∃ c2, Obj.mapSeq (fun _ => #[Value.int (preSum val j + val j) s1.toks]) (accObj (preSum val j) t1 c1) = accObj (preSum val (j + 1)) s1.toks c2 := ⟨_, rfl⟩
        rw [e4] at e3
        have J := pinTurn (o' := accObj (preSum val (j + 1)) s1.toks c2) (t' := s1.toks + 1) I1 hS hc hp (fun b u hb q => (Heap.get?_update_other _ _ (Ne.symm hb)).trans q) e3 (fun v z => by cases z)
        obtain ⟨m, hm, sl⟩ := wake { s1 with heap := s1.heap.update S (Obj.mapSeq (fun _ => #[Value.int (preSum val j + val j) s1.toks])), toks := s1.toks + 1 } [(S, accObj (preSum val (j + 1)) s1.toks c2)] rfl ⟨_, _, rfl⟩ J
          (fun b hb o q => (Heap.get?_update_other _ _ (Ne.symm (nS b hb))).trans q) (fun b hb => ⟨(f1 b hb).1, (f1 b hb).2.1, (f1 b hb).2.2.1, (f1 b hb).2.2.2.1, (f1 b hb).2.2.2.2.1, fun p hq => by
            rcases List.mem_append.mp hq with z | z
            · exact (f1 b hb).2.2.2.2.2 p (List.mem_append_left _ z)
            · rw [List.mem_singleton.mp z]; exact Ne.symm (nS b hb)⟩) p1
        have em : m = n := by omega
        subst em
        exact wpAny_pure ⟨plainId_quiet F.plain_sum_loop _, ih _ (j + 1) s1.toks c2 (by omega) ⟨H1, J⟩ sl⟩
      · rename_i hneg
        exact absurd hok hneg
    · obtain ⟨H1, pg1, hpg, I1, q1⟩ := h1
      obtain ⟨t1, c1, e1⟩ := hpg
      have ej : j = i := by omega
      subst ej
      exact wpAny_pure (hend j s1 H1 pg1 t I1 q1)
end
end GX
namespace GX
open PySem PySem.Spec PyProof.Rows L2 GenW
theorem room_gen {k : Nat} {X : Cx} {Ng : List Str} {scope : Scope} {code : Value} {s : Shared} {H : Hp} {fp : List Addr} {pn : List (Addr × Obj)} (r : Room (k + 1) X.A) : Room k (gCx X Ng scope code s H fp pn).A :=
  ⟨r.hd, by have := r.dp; show X.A.depth + 1 + 3 * k + 5 < _; omega, by have := r.un; show X.A.units + 1 + 1 + 3 + 16 * k + 200 < _; omega⟩
section
variable {X : Cx} {pins : List (Addr × Obj)} {σ : L2.St} {H : Hp} {s : Shared} {Ng : List Str} {scope : Scope} {x : Str} {cap : List Nat}
theorem gFp {fp : List Addr} {code : Value} {a : Addr} {go : Obj} (S : GS X.N Ng X.env.scope scope x cap) (ok : X.Ok) (I : Inv X pins σ H s) (hfp : ∀ b ∈ fp, FpOk X pins H b ∧ b < s.heap.objs.size) (ha : s.heap.objs.size < a) :
    ∀ b ∈ fp, FpOk (gCx X Ng scope code s H fp [(a, go)]) [] H b := fun b hb => by
  obtain ⟨⟨f1, f2, f3, f4, f5, f6⟩, lt⟩ := hfp b hb
  refine ⟨f1, Nat.ne_of_lt lt, fun hm => ?_, .inl hb, fun y c e => ?_, fun p hp => ?_⟩
  · rcases List.mem_cons.mp (I.stkSub b hm) with z | z
    · exact f2 z
    · exact f3 z
  · have e : (cloFrom X.env.cells scope.names []).lookup y = some c := e
    rcases cloFrom_mem (PySem.mem_of_lookup e) with hm | ⟨q1, q2⟩
    · cases hm
    · obtain ⟨c1, hc⟩ := S.has ok _ q1 rfl
      have hc : X.env.cells.lookup y = some c1 := hc
      rw [hc] at q2
      have e2 : c = c1 := q2
      rw [e2]
      exact f5 y c1 hc
  · have hp' : p ∈ [(a, go)] := by simpa [gCx] using hp
    rw [List.mem_singleton.mp hp']
    exact Nat.ne_of_gt (Nat.lt_trans lt ha)
/-- the run is over: the maker goes on -/
theorem gDone {fp : List Addr} {code : Value} {pn pg : List (Addr × Obj)} {τ : L2.St} {H' : Hp} {s' : Shared} (I : Inv X pins σ H s) (hfp : ∀ b ∈ fp, FpOk X pins H b ∧ b < s.heap.objs.size)
    (J : Inv (gCx X Ng scope code s H fp pn) pg τ H' s') : Inv X pins σ H' s' :=
  I.call' (ch := fp) J.os J.base J.hok J.bare fun b hb => ⟨(hfp b hb).1.2.2.2.1, (hfp b hb).1.2.1, (hfp b hb).1.2.2.2.2.1, (hfp b hb).1.2.2.2.2.2⟩
abbrev genObj (g : Nat) (t1 t2 : Tok) (q : Str) : Obj := { cls := .type "generator", data := .fields #[.int g 0, .str "<genexpr>" t1, .str q t2] }
/-- a generator has been made at a, that has not begun -/
structure Made (X : Cx) (pins : List (Addr × Obj)) (σ : L2.St) (Ng : List Str) (scope : Scope) (cap : List Nat) (elt iter : Expr) (x : Str) (px gpos : Pos) (P : Addr) (J : It) (H1 : Hp) (a : Addr) (s5 : Shared) : Prop where
  ex : ∃ (s3 : Shared) (H3 : Hp) (code : Value) (it : Addr) (fp : List Addr) (tn : Nat → Heap → Prop) (go : Obj) (g : Nat), GxR.Tabbed P H1 H3 ∧ Inv X pins σ H3 s3 ∧ (∀ b ∈ fp, FpOk X pins H3 b ∧ b < s3.heap.objs.size) ∧
    Turn X.prog X.w X.K (.Name x px) J fp it tn ∧ tn 0 s5.heap ∧ s3.heap.objs.size < a ∧ a < s5.heap.objs.size ∧ (∀ h : Heap, h.get? a = some go → h.IsGen a g) ∧
    Inv (gCx X Ng scope code s3 H3 fp [(a, go)]) [] (gSt σ cap) H3 s5 ∧ (∀ b ∈ fp, FpOk (gCx X Ng scope code s3 H3 fp [(a, go)]) [] H3 b) ∧
    s5.gens[g]? = some (.fresh (.compStart (.GeneratorExp elt [⟨.Name x px, iter, [], 0⟩] scope gpos) 0 (.ref it) .none (gEnv X scope s3.heap.objs.size code)))
theorem gMake {c P : Addr} {elt iter : Expr} {px gpos : Pos} {wi : TI} {Q' : Value → Shared → Prop} (hroom : X.A.depth < recursionLimit) (hd : X.A.handled = none) (TB : LamX.TabB X.base X.mg c P) (hcode : X.env.code = .ref c) (S : GS X.N Ng X.env.scope scope x cap)
    (hi : PI X (.Name x px) iter wi) (hs : ∀ v, genFold iter X.env v = pure v) {R : It → Hp → Prop} (I : Inv X pins σ H s) (h : wi σ H fun J H1 => GxR.TabG H1 P ∧ R J H1)
    (hQ : ∀ J H1 a s5, R J H1 → Made X pins σ Ng scope cap elt iter x px gpos P J H1 a s5 → Q' (.ref a) s5) :
    wpAny (model X.prog X.w) X.A (eval (.GeneratorExp elt [⟨.Name x px, iter, [], 0⟩] scope gpos) X.env) Q' X.xe s := by
  refine wpAny_GeneratorExp_make S.co (closure_ok (S.has I.ok)) S.cell S.dot S.kind hroom ?_ hs
  refine thn (hi.run pins s σ H _ I h) fun v s1 h1 => thn h1 fun itv s2 h2 => ?_
  obtain ⟨it, fp, tn, J, H2, e, I2, T, st2, f2, ⟨ps, hP, ht⟩, q2⟩ := h2
  subst e
  refine ⟨I2.nolimit, ?_⟩
  have hPs : s2.heap.get? P = some { cls := .none, data := .fields ps } := I2.hok P _ hP
  have fpLt : ∀ b ∈ fp, b < s2.heap.objs.size := fun b hb => by
    obtain ⟨o, e, _⟩ := T.obj _ _ st2 b hb
    exact Heap.lt_size e
  have fpP : ∀ b ∈ fp, b ≠ P := fun b hb z => by
    have q := (f2 b hb).1
    rw [z, hP] at q
    cases q
  have cd : PySem.W.CodeHd s2.heap c P := TB.code.keeps I2.bk
  have cont : ∀ (code : Value) (h3 : Heap) (tk : Nat) (more : Array Value), Heap.ExtBut P s2.heap h3 → s2.heap.objs.size ≤ h3.objs.size → h3.get? P = some { cls := .none, data := .fields (ps ++ more) } → TriplesOk (ps ++ more).toList →
      wpAny (model X.prog X.w) X.A (builtinsFor X.env.globals X.env.builtins) (fun bi s₄ => ∀ h', h'.Ns s₄.heap.objs.size (fun y => if y = ".0" then some (.ref it) else none) → Heap.SameBut s₄.heap.objs.size (s₄.heap.push { cls := .type "frame", data := .dict #[] }) h' →
        Q' (.ref h'.objs.size) { s₄ with
            gens := s₄.gens.push (.fresh (.compStart (.GeneratorExp elt [⟨.Name x px, iter, [], 0⟩] scope gpos) 0 (.ref it) .none (genEnv scope (cloFrom X.env.cells scope.names []) s₄.heap.objs.size code bi X.env))),
            toks := s₄.toks + 1 + 1 + 1,
            heap := h'.push { cls := .type "generator", data := .fields #[.int s₄.gens.size 0, .str "<genexpr>" (s₄.toks + 1), .str (X.env.qual ++ "<genexpr>") (s₄.toks + 1 + 1)] } }) X.xe { s2 with heap := h3, toks := tk } := by
    intro code h3 tk more hx hsz hP3 ht3
    obtain ⟨bm, ob, e1, e2, e3, e4, e5, e6, e7, e8⟩ := TB.bm
    have keep3 : ∀ b u, b ≠ P → s2.heap.get? b = some u → h3.get? b = some u := fun b u hb e => hx b u hb e
    refine wpAny_builtinsFor (m := X.mg) (by rw [I2.ok.glob]; exact (I2.mod.glob.keeps I2.bk).extBut hx TB.gP) e1 e2 (keep3 _ _ e4 (I2.bk _ _ e5)) e6 e7 e8 ?_
    intro h' hn' hs'
    have I3 : Inv X pins σ (upd H2 P (.tbl (ps ++ more))) { s2 with heap := h3, toks := tk } :=
      GxR.inv_tab (g' := s2.gens) (d' := s2.drawn) I2 hP (fun b u hb e => keep3 b u hb e) hP3 I2.bare
    have tab : GxR.Tabbed P H2 (upd H2 P (.tbl (ps ++ more))) := ⟨⟨ps ++ more, upd_same, ht3⟩, fun b hb => upd_ne hb⟩
    have f3 : ∀ b ∈ fp, FpOk X pins (upd H2 P (.tbl (ps ++ more))) b ∧ b < h3.objs.size := fun b hb => ⟨⟨by rw [upd_ne (fpP b hb)]; exact (f2 b hb).1, (f2 b hb).2⟩, Nat.lt_of_lt_of_le (fpLt b hb) hsz⟩
    have hsz' : h'.objs.size = h3.objs.size + 1 := by
      have q := hs'.1
      rw [q, Heap.size_push]
    have keep' : ∀ b o, h3.get? b = some o → h'.get? b = some o := fun b o e => hs'.extBut b o (Nat.ne_of_lt (Heap.lt_size e)) (Heap.get?_push_of_some _ e)
    have keep5 : ∀ b o, h3.get? b = some o → (h'.push (genObj s2.gens.size (tk + 1) (tk + 1 + 1) (X.env.qual ++ "<genexpr>"))).get? b = some o := fun b o e => Heap.get?_push_of_some _ (keep' b o e)
    have lt : h3.objs.size < h'.objs.size := by omega
    refine hQ J H2 h'.objs.size _ q2 ⟨{ s2 with heap := h3, toks := tk }, upd H2 P (.tbl (ps ++ more)), code, it, fp, tn, genObj s2.gens.size (tk + 1) (tk + 1 + 1) (X.env.qual ++ "<genexpr>"), s2.gens.size, tab, I3, f3, T, ?_, lt, ?_, ?_, ?_, ?_, ?_⟩
    · exact T.keep _ _ _ st2 fun b hb o e => keep5 b o (keep3 b o (fpP b hb) e)
    · show h'.objs.size < (h'.push _).objs.size
      rw [Heap.size_push]
      exact Nat.lt_succ_self _
    · intro h e
      exact ⟨_, _, _, e, rfl, rfl, rfl⟩
    · exact gStart (it := .ref it) I3 hd S f3 (hn'.push _) keep5 (Heap.get?_push_size _ rfl) lt (fun v z => by cases z) (I2.bare.push rfl)
    · exact gFp S I2.ok I3 f3 lt
    · exact Array.getElem?_push_size ..
  cases hf : codeAmong gpos ps.toList with
  | none =>
    refine wpAny_genexprCodeX hcode (cd.code hPs ht) (cd.tab hPs) hf fun c' h' tk hx hge hlt hco' _ htab' _ => ?_
    obtain ⟨o1, vs, f1, tf, fl, tg, inF, tx, tt, op, _, _, _, _, _, _, _, _, _, htr, _⟩ := hco'
    exact cont _ h' tk _ hx (Nat.le_trans hge (Nat.le_of_lt hlt)) htab'.2 htr
  | some cv =>
    refine wpAny_genexprCode_hit hcode (cd.code hPs ht) hf ?_
    exact cont cv s2.heap s2.toks #[] (Heap.ExtBut.refl _ _) (Nat.le_refl _) (by simpa using hPs) (by simpa using ht)
end
/-! ### the rules -/
/-- all(e for x in ..), any(..), sum(..): J the walk, N a bound of the turns -/
def tAllG (P : Addr) (cap : List Nat) (wi : TI) (te : TE) : TE := fun σ H Q => wi σ H fun J H1 => GxR.TabG H1 P ∧ ∀ H2, GxR.Tabbed P H1 H2 → ∃ (N : Nat) (Pv : Nat → Hp → Prop), Pv 0 H2 ∧
  Turns J N (gSt σ cap) te Pv (fun i y H => ∃ b, y = .bl b ∧ (b = true → Pv (i + 1) H) ∧ (b = false → Q (.bl false) H)) (fun _ H => Q (.bl true) H)
def tAnyG (P : Addr) (cap : List Nat) (wi : TI) (te : TE) : TE := fun σ H Q => wi σ H fun J H1 => GxR.TabG H1 P ∧ ∀ H2, GxR.Tabbed P H1 H2 → ∃ (N : Nat) (Pv : Nat → Hp → Prop), Pv 0 H2 ∧
  Turns J N (gSt σ cap) te Pv (fun i y H => ∃ b, y = .bl b ∧ (b = false → Pv (i + 1) H) ∧ (b = true → Q (.bl true) H)) (fun _ H => Q (.bl false) H)
def tSumG (P : Addr) (cap : List Nat) (wi : TI) (te : TE) : TE := fun σ H Q => wi σ H fun J H1 => GxR.TabG H1 P ∧ ∀ H2, GxR.Tabbed P H1 H2 → ∃ (N : Nat) (val : Nat → Int) (Pv : Nat → Hp → Prop), Pv 0 H2 ∧
  (∀ j, j < N → InLong (val j) ∧ InLong (preSum val (j + 1))) ∧ Turns J N (gSt σ cap) te Pv (fun i y H => y = .int (val i) ∧ Pv (i + 1) H) (fun i H => Q (.int (preSum val i)) H)
section
variable {X : Cx} {c P : Addr} {elt iter : Expr} {x : Str} {px p pos gpos : Pos} {scope : Scope} {Ng : List Str} {cap : List Nat} {wi : TI} {te : TE} {k : Nat}
theorem pe_allG (hr : Room k X.A) (hg : Gl X "all") (hm : X.mg "all" = none) (TB : LamX.TabB X.base X.mg c P) (hcode : X.env.code = .ref c) (S : GS X.N Ng X.env.scope scope x cap) (hi : PI X (.Name x px) iter wi)
    (hel : ∀ (code : Value) (s : Shared) (H : Hp) (fp : List Addr) (pn : List (Addr × Obj)), PE (gCx X Ng scope code s H fp pn) elt te) (hs : ∀ v, genFold iter X.env v = pure v := by intro _; rfl) (hb : bootBuiltins "all" = some (.builtin "all") := by decide +kernel)
    (he : starEach [.GeneratorExp elt [⟨.Name x px, iter, [], 0⟩] scope gpos] X.env = (false, eval (.GeneratorExp elt [⟨.Name x px, iter, [], 0⟩] scope gpos) X.env) :: starEach [] X.env := by rfl) :
    PE X (.Call (.Name "all" p) [.GeneratorExp elt [⟨.Name x px, iter, [], 0⟩] scope gpos] [] pos) (tAllG P cap wi te) := by
  refine ⟨fun pins s σ H Q I h => ?_⟩
  refine wpAny_Call_Name_kw (ld_blt I hg hm hb ?_)
  refine PyProof.Rows.callWith_builtin1 ?_ he (by rfl)
  rw [he]
  show wpAny _ _ (spliced ((false, eval (.GeneratorExp elt [⟨.Name x px, iter, [], 0⟩] scope gpos) X.env) :: backTo pos (starEach [] X.env))) _ _ s
  refine Calls.spliced_cons (gMake hr.depth hr.hd TB hcode S hi hs I h fun J H1 a s5 hR hM => ?_)
  refine Calls.spliced_nil ?_
  obtain ⟨s3, H3, code, it, fp, tn, go, g, tab, I3, f3, T, t5, la, la2, hgen, I5, f5, hg5⟩ := hM.ex
  obtain ⟨N, Pv, p0, turn⟩ := hR H3 tab
  have gen : ∀ (s : Shared) (H : Hp) (pg : List (Addr × Obj)), Inv (gCx X Ng scope code s3 H3 fp [(a, go)]) pg (gSt σ cap) H s → s.heap.IsGen a g := fun s H pg J => hgen _ (J.pin (a, go) (List.mem_append_left _ List.mem_cons_self)).1
  refine call_function_tree F.kind_all F.plain_all F.entry_all (F.args_all1 _) ?_
  unfold Builtin.«all»
  refine wpAny_bind (m := oneArg "all" _) (wpAny_pure ?_)
  refine wpAny_bind (wpAny_pyIter_gen (gen _ _ _ I5) ?_)
  refine wpAny_pure ⟨plainId_quiet F.plain_all_loop _, ?_⟩
  refine allLoop (Z := gCx X Ng scope code s3 H3 fp [(a, go)]) (Qf := fun H => Q (.bl false) H) (Qe := fun _ H => Q (.bl true) H) (Pv := Pv) (N := N) (tn := tn) (fp := fp) (τ := gSt σ cap) hr.hd hr.depth gen T.keep (fun i y H q => q)
    (fun i s' H pg J q => ⟨.bl true, H, gDone I3 f3 J, rfl, q⟩) (fun s' H pg J q => ⟨.bl false, H, gDone I3 f3 J, rfl, q⟩) N s5 ⟨H3, [], I5⟩ ⟨_, hg5, rfl, ?_⟩
  exact gBegin (Z := gCx X Ng scope code s3 H3 fp [(a, go)]) rfl rfl T (hel _ _ _ _ _) (fun _ _ z => z) S.nd S.hd S.loc S.co rfl turn _ _ H3 [] rfl (inv_set I5 rfl) t5 f5 p0
theorem pe_anyG (hr : Room k X.A) (hg : Gl X "any") (hm : X.mg "any" = none) (TB : LamX.TabB X.base X.mg c P) (hcode : X.env.code = .ref c) (S : GS X.N Ng X.env.scope scope x cap) (hi : PI X (.Name x px) iter wi)
    (hel : ∀ (code : Value) (s : Shared) (H : Hp) (fp : List Addr) (pn : List (Addr × Obj)), PE (gCx X Ng scope code s H fp pn) elt te) (hs : ∀ v, genFold iter X.env v = pure v := by intro _; rfl) (hb : bootBuiltins "any" = some (.builtin "any") := by decide +kernel)
    (he : starEach [.GeneratorExp elt [⟨.Name x px, iter, [], 0⟩] scope gpos] X.env = (false, eval (.GeneratorExp elt [⟨.Name x px, iter, [], 0⟩] scope gpos) X.env) :: starEach [] X.env := by rfl) :
    PE X (.Call (.Name "any" p) [.GeneratorExp elt [⟨.Name x px, iter, [], 0⟩] scope gpos] [] pos) (tAnyG P cap wi te) := by
  refine ⟨fun pins s σ H Q I h => ?_⟩
  refine wpAny_Call_Name_kw (ld_blt I hg hm hb ?_)
  refine PyProof.Rows.callWith_builtin1 ?_ he (by rfl)
  rw [he]
  show wpAny _ _ (spliced ((false, eval (.GeneratorExp elt [⟨.Name x px, iter, [], 0⟩] scope gpos) X.env) :: backTo pos (starEach [] X.env))) _ _ s
  refine Calls.spliced_cons (gMake hr.depth hr.hd TB hcode S hi hs I h fun J H1 a s5 hR hM => ?_)
  refine Calls.spliced_nil ?_
  obtain ⟨s3, H3, code, it, fp, tn, go, g, tab, I3, f3, T, t5, la, la2, hgen, I5, f5, hg5⟩ := hM.ex
  obtain ⟨N, Pv, p0, turn⟩ := hR H3 tab
  have gen : ∀ (s : Shared) (H : Hp) (pg : List (Addr × Obj)), Inv (gCx X Ng scope code s3 H3 fp [(a, go)]) pg (gSt σ cap) H s → s.heap.IsGen a g := fun s H pg J => hgen _ (J.pin (a, go) (List.mem_append_left _ List.mem_cons_self)).1
  refine call_function_tree F.kind_any F.plain_any F.entry_any (F.args_any1 _) ?_
  unfold Builtin.«any»
  refine wpAny_bind (m := oneArg "any" _) (wpAny_pure ?_)
  refine wpAny_bind (wpAny_pyIter_gen (gen _ _ _ I5) ?_)
  refine wpAny_pure ⟨plainId_quiet F.plain_any_loop _, ?_⟩
  refine anyLoop (Z := gCx X Ng scope code s3 H3 fp [(a, go)]) (Qf := fun H => Q (.bl true) H) (Qe := fun _ H => Q (.bl false) H) (Pv := Pv) (N := N) (tn := tn) (fp := fp) (τ := gSt σ cap) hr.hd hr.depth gen T.keep (fun i y H q => q)
    (fun i s' H pg J q => ⟨.bl false, H, gDone I3 f3 J, rfl, q⟩) (fun s' H pg J q => ⟨.bl true, H, gDone I3 f3 J, rfl, q⟩) N s5 ⟨H3, [], I5⟩ ⟨_, hg5, rfl, ?_⟩
  exact gBegin (Z := gCx X Ng scope code s3 H3 fp [(a, go)]) rfl rfl T (hel _ _ _ _ _) (fun _ _ z => z) S.nd S.hd S.loc S.co rfl turn _ _ H3 [] rfl (inv_set I5 rfl) t5 f5 p0
theorem pe_sumG (hr : Room k X.A) (hg : Gl X "sum") (hm : X.mg "sum" = none) (TB : LamX.TabB X.base X.mg c P) (hcode : X.env.code = .ref c) (S : GS X.N Ng X.env.scope scope x cap) (hi : PI X (.Name x px) iter wi)
    (hel : ∀ (code : Value) (s : Shared) (H : Hp) (fp : List Addr) (pn : List (Addr × Obj)), PE (gCx X Ng scope code s H fp pn) elt te) (hs : ∀ v, genFold iter X.env v = pure v := by intro _; rfl) (hb : bootBuiltins "sum" = some (.builtin "sum") := by decide +kernel)
    (he : starEach [.GeneratorExp elt [⟨.Name x px, iter, [], 0⟩] scope gpos] X.env = (false, eval (.GeneratorExp elt [⟨.Name x px, iter, [], 0⟩] scope gpos) X.env) :: starEach [] X.env := by rfl) :
    PE X (.Call (.Name "sum" p) [.GeneratorExp elt [⟨.Name x px, iter, [], 0⟩] scope gpos] [] pos) (tSumG P cap wi te) := by
  refine ⟨fun pins s σ H Q I h => ?_⟩
  refine wpAny_Call_Name_kw (ld_blt I hg hm hb ?_)
  refine PyProof.Rows.callWith_builtin1 ?_ he (by rfl)
  rw [he]
  show wpAny _ _ (spliced ((false, eval (.GeneratorExp elt [⟨.Name x px, iter, [], 0⟩] scope gpos) X.env) :: backTo pos (starEach [] X.env))) _ _ s
  refine Calls.spliced_cons (gMake hr.depth hr.hd TB hcode S hi hs I h fun J H1 a s5 hR hM => ?_)
  refine Calls.spliced_nil ?_
  obtain ⟨s3, H3, code, it, fp, tn, go, g, tab, I3, f3, T, t5, la, la2, hgen, I5, f5, hg5⟩ := hM.ex
  obtain ⟨N, val, Pv, p0, fit, turn⟩ := hR H3 tab
  have gen : ∀ (s : Shared) (H : Hp) (pg : List (Addr × Obj)), Inv (gCx X Ng scope code s3 H3 fp [(a, go)]) pg (gSt σ cap) H s → s.heap.IsGen a g := fun s H pg J => hgen _ (J.pin (a, go) (List.mem_append_left _ List.mem_cons_self)).1
  refine call_function_tree F.kind_sum F.plain_sum F.entry_sum (F.args_sum1 _) ?_
  unfold Builtin.«sum»
  simp only [List.length_cons, List.length_nil]
  rw [if_neg (by decide)]
  refine wpAny_bind (wpAny_of_eq (show Builtin.Builtins.bindParams "sum" ["start"] 0 { } = pure [none] from rfl) ?_)
  refine wpAny_bind (wpAny_pyIter_gen (gen _ _ _ I5) ?_)
  refine wpAny_bind (wpAny_mkInt ?_)
  refine wpAny_bind (wpAny_pure ?_)
  simp only [List.forIn_cons, List.forIn_nil]
  refine wpAny_bind (wpAny_bind (wpAny_bind (wpAny_isInstance (T := "int") (b := false) (typeIs_int _ _ _) PySem.sub_int_str ?_)))
  simp only [Bool.false_eq_true, if_false]
  refine wpAny_pure (wpAny_bind (wpAny_bind (wpAny_isInstance (T := "int") (b := false) (typeIs_int _ _ _) PySem.sub_int_bytes ?_)))
  simp only [Bool.false_eq_true, if_false]
  refine wpAny_pure (wpAny_bind (wpAny_bind (wpAny_isInstance (T := "int") (b := false) (typeIs_int _ _ _) PySem.sub_int_bytearray ?_)))
  simp only [Bool.false_eq_true, if_false]
  refine wpAny_pure (wpAny_pure ?_)
  refine wpAny_bind (wpAny_newObj_type ?_)
  -- the consumer's own list
  have I6 : Inv (gCx X Ng scope code s3 H3 fp [(a, go)]) [] (gSt σ cap) H3 { s5 with toks := s5.toks + 1, heap := s5.heap.push (accObj 0 s5.toks 0) } := (I5.tok _).kept fun b u e => Heap.get?_push_of_some _ e
  have lt0 : s3.heap.objs.size ≤ s5.heap.objs.size := Nat.le_of_lt (Nat.lt_trans la la2)
  have clt : ∀ y c, (gCx X Ng scope code s3 H3 fp [(a, go)]).env.cells.lookup y = some c → c ≠ s5.heap.objs.size := fun y c e z => by
    obtain ⟨v, q⟩ := I5.cell y c e
    have q1 := q.lt
    rw [z] at q1
    exact Nat.lt_irrefl _ q1
  have I7 : Inv (gCx X Ng scope code s3 H3 fp [(a, go)]) [(s5.heap.objs.size, accObj 0 s5.toks 0)] (gSt σ cap) H3 { s5 with toks := s5.toks + 1, heap := s5.heap.push (accObj 0 s5.toks 0) } := I6.pins_of fun q hq => by
    rw [List.mem_singleton.mp hq]
    exact ⟨Heap.get?_push_size _ rfl, I5.hok.fresh (Nat.le_refl _), Nat.ne_of_gt I5.lt, I5.nofs (Nat.le_refl _), fun v z => by cases z⟩
  have pnS : ∀ q ∈ (gCx X Ng scope code s3 H3 fp [(a, go)]).pn, q.1 ≠ s5.heap.objs.size := fun q hq => by
    have hq' : q ∈ [(a, go)] := hq
    rw [List.mem_singleton.mp hq']
    exact Nat.ne_of_lt la2
  refine wpAny_pure ⟨plainId_quiet F.plain_sum_loop _, ?_⟩
  refine sumLoop (Z := gCx X Ng scope code s3 H3 fp [(a, go)]) (Qe := fun i H => Q (.int (preSum val i)) H) (Pv := Pv) (N := N) (tn := tn) (fp := fp) (τ := gSt σ cap) (S := s5.heap.objs.size) (val := val) hr.hd hr.depth gen T.keep lt0 clt pnS fit (fun i y H q => q)
    (fun i s' H pg t' J q => ⟨.int (preSum val i), H, gDone I3 f3 J, ⟨t', rfl⟩, q⟩) N _ 0 s5.toks 0 (Nat.zero_add _) ⟨H3, I7⟩ ⟨_, hg5, rfl, ?_⟩
  have f6 : ∀ b ∈ fp, FpOk (gCx X Ng scope code s3 H3 fp [(a, go)]) [(s5.heap.objs.size, accObj 0 s5.toks 0)] H3 b := fun b hb => ⟨(f5 b hb).1, (f5 b hb).2.1, (f5 b hb).2.2.1, (f5 b hb).2.2.2.1, (f5 b hb).2.2.2.2.1, fun q hq => by
    rcases List.mem_append.mp hq with z | z
    · exact (f5 b hb).2.2.2.2.2 q (List.mem_append_left _ z)
    · rw [List.mem_singleton.mp z]
      obtain ⟨o, e, _⟩ := T.obj _ _ t5 b hb
      exact Nat.ne_of_gt (Heap.lt_size e)⟩
  exact gBegin (Z := gCx X Ng scope code s3 H3 fp [(a, go)]) (PG := fun i pg => ∃ t c, pg = [(s5.heap.objs.size, accObj (preSum val i) t c)]) rfl rfl T (hel _ _ _ _ _) (fun _ _ z => z) S.nd S.hd S.loc S.co rfl turn _ _ H3 _ ⟨s5.toks, 0, rfl⟩ (inv_set I7 rfl) (T.keep _ _ _ t5 fun b hb o e => Heap.get?_push_of_some _ e) f6 p0
end
end GX
namespace GX
open PySem PySem.Spec PyProof.Rows L2 LamX
/-- a thing that is known as it is -/
abbrev frzO (o : Obj) : HO := .frz o (.ext fun _ => True)
theorem frz_ok {P : Program} {w : World} {H : Hp} {h : Heap} {a : Addr} {o : Obj} (e : h.get? a = some o) : ObjOk P w H h a (frzO o) := ⟨e, True.intro, ⟨o, e⟩, fun _ _ _ _ => True.intro⟩
section
variable {X : Cx} {pins : List (Addr × Obj)} {σ : L2.St} {H : Hp} {s : Shared}
/-- an object that is there, and not tracked, is tracked from now on -/
theorem track {f : Addr} {u : HO} (I : Inv X pins σ H s) (hf : H f = none) (h0 : X.s_0.heap.objs.size ≤ f) (hL : f ≠ X.env.locals) (hc : ∀ y c, X.env.cells.lookup y = some c → c ≠ f) (hp : ∀ p ∈ X.pn ++ pins, p.1 ≠ f) (ok : ObjOk X.prog X.w (upd H f u) s.heap f u) :
    Inv X pins σ (upd H f u) s := by
  refine ⟨I.ok, I.os, I.bare, ⟨fun b ob e n hb hx => I.base.keep b ob e n hb hx, fun b ob e n hb hx => I.base.slot b ob e n hb hx, fun b ob e n hx => ?_, fun b ob e hx => I.base.there b ob e hx, fun b xs e => ?_, fun b ob xs e => ?_, fun b ps e => ?_⟩, I.loc, I.cell, ?_, fun y c e => ?_, fun p hq => ?_, fun b ob e => ?_, I.len⟩
  · rw [upd_ne (Nat.ne_of_lt (Nat.lt_of_lt_of_le (Heap.lt_size e) h0))]
    exact I.base.free b ob e n hx
  · have q := I.base.tups b xs e
    rw [upd_ne (ne_of_none q hf)]; exact q
  · have q := I.base.frzs b ob xs e
    rw [upd_ne (ne_of_none q hf)]; exact q
  · obtain ⟨more, q⟩ := I.base.tbls b ps e
    exact ⟨more, by rw [upd_ne (ne_of_none q hf)]; exact q⟩
  · rw [upd_ne (Ne.symm hL)]; exact I.free
  · rw [upd_ne (hc y c e)]; exact I.freeC y c e
  · obtain ⟨a1, a2, a3⟩ := I.pin p hq
    exact ⟨a1, by rw [upd_ne (hp p hq)]; exact a2, a3⟩
  · by_cases hb : b = f
    · subst hb
      rw [upd_same] at e
      cases e
      exact ok
    · rw [upd_ne hb] at e
      exact (I.hok b ob e).stay (fun _ _ _ q => q) (fun c q => by rw [upd_ne (ne_of_none q hf)]; exact q) fun c xs q => by rw [upd_ne (ne_of_none q hf)]; exact q
theorem fresh_facts (I : Inv X pins σ H s) {f : Addr} (hf : s.heap.objs.size ≤ f) : H f = none ∧ X.s_0.heap.objs.size ≤ f ∧ f ≠ X.env.locals ∧ (∀ y c, X.env.cells.lookup y = some c → c ≠ f) ∧ ∀ p ∈ X.pn ++ pins, p.1 ≠ f := by
  refine ⟨I.hok.fresh hf, Nat.le_trans I.sz hf, Nat.ne_of_gt (Nat.lt_of_lt_of_le I.lt hf), fun y c e z => ?_, fun p hp z => ?_⟩
  · obtain ⟨v, q⟩ := I.cell y c e
    exact absurd (Nat.lt_of_lt_of_le q.lt (by rw [z]; exact hf)) (Nat.lt_irrefl _)
  · exact absurd (Nat.lt_of_lt_of_le (Heap.lt_size (I.pin p hp).1) (by rw [z]; exact hf)) (Nat.lt_irrefl _)
abbrev lamObj (q : Str) (params : Arguments) (body : Expr) (scope : Scope) (clos : List (Str × Addr)) (dV doc pm : Value) (c' : Addr) (ctv : Value) : Obj := PySem.W.kdv_obj "<lambda>" q params (.expr body) scope clos dV doc pm c' ctv
/-- tables stay tables -/
def TabK (H H1 : Hp) : Prop := (∀ b ps, H b = some (.tbl ps) → ∃ ps', H1 b = some (.tbl ps')) ∧ ∀ p, GxR.TabG H p → GxR.TabG H1 p
theorem TabK.refl (H : Hp) : TabK H H := ⟨fun _ ps h => ⟨ps, h⟩, fun _ h => h⟩
theorem TabK.ext {H H1 H2 : Hp} (e : ∀ b o, H b = some o → H1 b = some o) (a : TabK H1 H2) : TabK H H2 := ⟨fun b ps h => a.1 b ps (e _ _ h), fun p h => by
  obtain ⟨ps, h1, h2⟩ := h
  exact a.2 p ⟨ps, e _ _ h1, h2⟩⟩
theorem TabK.one {H : Hp} {P c : Addr} {ps ps' : Array Value} {o : HO} (hP : H P = some (.tbl ps)) (t : TriplesOk ps'.toList) (nC : H c = none) : TabK H (upd (upd H P (.tbl ps')) c o) := by
  refine ⟨fun b qs h => ?_, fun p h => ?_⟩
  · by_cases hb : b = P
    · exact ⟨ps', by rw [hb, upd_ne (ne_of_none hP nC), upd_same]⟩
    · exact ⟨qs, by rw [upd_ne (ne_of_none h nC), upd_ne hb]; exact h⟩
  · obtain ⟨qs, h1, h2⟩ := h
    by_cases hb : p = P
    · exact ⟨ps', by rw [hb, upd_ne (ne_of_none hP nC), upd_same], t⟩
    · exact ⟨qs, by rw [upd_ne (ne_of_none h1 nC), upd_ne hb]; exact h1, h2⟩
/-- the making of a lambda, its defaults' tuple made -/
theorem lam_tail {T : List (Addr × Str)} {c P : Addr} {params : Arguments} {body : Expr} {scope : Scope} {pos : Pos} {line : Nat} {dV : Value} {E : Value → Shared → Prop} {Q : Value → Shared → Prop} (I : Inv X pins σ H s) (TB : LamX.TabB X.base X.mg c P) (hcode : X.env.code = .ref c)
    (hm : (P, X.env.qual ++ "<lambda>") ∈ T) (hu : ∀ p ∈ T, p.1 = P → p.2 = X.env.qual ++ "<lambda>") (hT : Tabs T H) (hfree : ∀ y ∈ scope.names, y.2 = .free → ∃ c, X.env.cells.lookup y.1 = some c)
    (h : ∀ (f c' : Addr) (doc pm ctv : Value) (H1 : Hp) (s' : Shared), ExtN H H1 → TabK H H1 → Tabs T H1 → H1 f = none → H1 c' = some (CodeO c' (X.env.qual ++ "<lambda>")) →
      Inv X pins σ (upd H1 f (frzO (lamObj (X.env.qual ++ "<lambda>") params body scope (cloFrom X.env.cells scope.names []) dV doc pm c' ctv))) s' → Q (.ref f) s') :
    wpAny (model X.prog X.w) X.A (makeTail "<lambda>" (X.env.qual ++ "<lambda>") params (.expr body) scope X.env dV .none none pos line) Q E s := by
  obtain ⟨ps, hP, ht, ha⟩ := hT _ hm
  have bP : s.heap.BuiltinsAt X.mg P := TB.bm.keeps I.bk
  have hP' : s.heap.get? P = some { cls := .none, data := .fields ps } := I.hok P _ hP
  cases hc : codeAmong pos ps.toList with
  | none =>
    refine PySem.W.kdv_makeTail (mg := X.mg) (c := c) (P := P) (ps := ps) (closure_ok hfree) I.ok.glob (I.mod.glob.keeps I.bk) hcode (TB.code.keeps I.bk) hP' ht hc TB.gP bP fun c' ctv doc h' tk hx hge hlt hrec htb => ?_
    obtain ⟨c2, oc, vs, t, e2, hoc, hd, hv⟩ := hrec
    cases e2
    have hsz : s.heap.objs.size ≤ h'.objs.size := Nat.le_trans hge (Nat.le_of_lt hlt)
    have nC : H c' = none := I.hok.fresh hge
    have I1 := inv_table (t' := tk) (more := #[rawInt pos.line, rawInt pos.col, .ref c']) (h' := h') I hP hx htb hge ⟨oc, vs, t, hoc, hd, hv⟩
    have hE : ExtN H (upd (upd H P (.tbl (ps ++ #[rawInt pos.line, rawInt pos.col, .ref c']))) c' (CodeO c' (X.env.qual ++ "<lambda>"))) := fun b o e n => by
      rw [upd_ne (ne_of_none e nC), upd_ne (fun z => n ps (Option.some.inj (e.symm.trans (by rw [z]; exact hP))))]
      exact e
    have eL : (ps ++ #[rawInt pos.line, rawInt pos.col, .ref c']).toList = ps.toList ++ [rawInt pos.line, rawInt pos.col, .ref c'] := by simp
    obtain ⟨q1, q2, q3, q4, q5⟩ := fresh_facts I1 (f := h'.objs.size) (Nat.le_refl _)
    have I2 := I1.kept (t' := tk) (h' := h'.push (lamObj (X.env.qual ++ "<lambda>") params body scope (cloFrom X.env.cells scope.names []) dV doc ((X.mg "__name__").getD .none) c' ctv)) fun b o e => Heap.get?_push_of_some _ e
    refine h h'.objs.size c' doc ((X.mg "__name__").getD .none) ctv _ _ hE (TabK.one hP (by rw [eL]; exact PySem.TriplesOk_snoc _ _ _ _ ht) nC) (fun p hp => ?_) q1 upd_same (track I2 q1 q2 q3 q4 q5 (frz_ok (Heap.get?_push_size _ rfl)))
    by_cases hb : p.1 = P
    · rw [hu p hp hb, hb]
      refine ⟨_, by rw [upd_ne (ne_of_none hP nC), upd_same], by rw [eL]; exact PySem.TriplesOk_snoc _ _ _ _ ht, fun p' cv hcv => ?_⟩
      rw [eL] at hcv
      rcases among_app _ ht hcv with z | z
      · obtain ⟨c0, e1, e2⟩ := ha p' cv z
        exact ⟨c0, e1, hE _ _ e2 codeO_ne⟩
      · exact ⟨c', z, upd_same⟩
    · obtain ⟨ps', a1, a2, a3⟩ := hT p hp
      refine ⟨ps', by rw [upd_ne (ne_of_none a1 nC), upd_ne hb]; exact a1, a2, fun p' cv hcv => ?_⟩
      obtain ⟨c0, e1, e2⟩ := a3 p' cv hcv
      exact ⟨c0, e1, hE _ _ e2 codeO_ne⟩
  | some cv =>
    obtain ⟨c', e, hco⟩ := ha pos cv hc
    subst e
    refine PySem.W.kdv_makeTailHit (mg := X.mg) (c := c) (P := P) (ps := ps) (closure_ok hfree) I.ok.glob (I.mod.glob.keeps I.bk) hcode (TB.code.keeps I.bk) hP' ht hc bP fun ctv doc h' tk hx hsz => ?_
    have I1 := I.kept (t' := tk) (h' := h') hx
    obtain ⟨q1, q2, q3, q4, q5⟩ := fresh_facts I1 (f := h'.objs.size) (Nat.le_refl _)
    have I2 := I1.kept (t' := tk) (h' := h'.push (lamObj (X.env.qual ++ "<lambda>") params body scope (cloFrom X.env.cells scope.names []) dV doc ((X.mg "__name__").getD .none) c' ctv)) fun b o e => Heap.get?_push_of_some _ e
    exact h h'.objs.size c' doc ((X.mg "__name__").getD .none) ctv H _ (ExtN.refl H) (TabK.refl H) hT q1 hco (track I2 q1 q2 q3 q4 q5 (frz_ok (Heap.get?_push_size _ rfl)))
/-- unlike names have unlike cells -/
def InjC (clos : List (Str × Addr)) : Prop := ∀ x y c, clos.lookup x = some c → clos.lookup y = some c → x = y
theorem clo_cm {X : Cx} {scope : Scope} (hf : ∀ y ∈ scope.names, y.2 = .free → ∃ c, X.env.cells.lookup y.1 = some c) {y : Str} {c : Addr} (e : (cloFrom X.env.cells scope.names []).lookup y = some c) : X.env.cells.lookup y = some c := by
  rcases cloFrom_mem (PySem.mem_of_lookup e) with hm | ⟨q1, q2⟩
  · cases hm
  · obtain ⟨c1, hc⟩ := hf _ q1 rfl
    have hc : X.env.cells.lookup y = some c1 := hc
    rw [hc] at q2
    have e2 : c = c1 := q2
    rw [e2]
    exact hc
theorem clo_inj {X : Cx} {scope : Scope} (ok : X.Ok) (hf : ∀ y ∈ scope.names, y.2 = .free → ∃ c, X.env.cells.lookup y.1 = some c) : InjC (cloFrom X.env.cells scope.names []) := fun x y c e1 e2 => ok.inj x y c (clo_cm hf e1) (clo_cm hf e2)
/-- lambda: body; its object is known as it is -/
def tLamV (T : List (Addr × Str)) (q : Str) (params : Arguments) (body : Expr) (scope : Scope) (clos : List (Str × Addr)) (D : Value → Hp → Prop) : TE := fun σ H Q => Tabs T H ∧
  ∀ (H1 : Hp) (f c' : Addr) (dV doc pm ctv : Value), InjC clos → ExtN H H1 → TabK H H1 → Tabs T H1 → D dV H1 → H1 f = none → H1 c' = some (CodeO c' q) → Q (.ref f) (upd H1 f (frzO (lamObj q params body scope clos dV doc pm c' ctv)))
theorem pe_lam0 {T : List (Addr × Str)} {c P : Addr} {params : Arguments} {body : Expr} {scope : Scope} {pos : Pos} (TB : LamX.TabB X.base X.mg c P) (hcode : X.env.code = .ref c)
    (hm : (P, X.env.qual ++ "<lambda>") ∈ T) (hu : ∀ p ∈ T, p.1 = P → p.2 = X.env.qual ++ "<lambda>") (L : LamS X.env.scope scope) (hdef : defaultsOf params X.env = ([], []) := by rfl) :
    PE X (.Lambda params body scope pos) (tLamV T (X.env.qual ++ "<lambda>") params body scope (cloFrom X.env.cells scope.names []) (fun dV _ => dV = .none)) := by
  refine ⟨fun pins s σ H Q I h => ?_⟩
  obtain ⟨hT, h⟩ := h
  refine PySem.W.kla_eval hdef ?_
  rw [makeFunction_eq]
  simp only [List.zip_nil_right, List.filterMap_nil, List.isEmpty_nil, if_true, pure_bind]
  exact lam_tail I TB hcode hm hu hT (L.has I.ok) fun f c' doc pm ctv H1 s' e1 tk t1 n1 k1 I1 => ⟨.ref f, _, I1, rfl, h H1 f c' .none doc pm ctv (clo_inj I.ok (L.has I.ok)) e1 tk t1 rfl n1 k1⟩
/-- a tuple of one default that is known as it is -/
def Dflt1 (i : Int) (dV : Value) (H : Hp) : Prop := ∃ (t : Addr) (u : Tok), dV = .ref t ∧ H t = some (frzO (PySem.W.kdv_tup [.int i u]))
/-- lambda a=i: body -/
theorem pe_lam1 {T : List (Addr × Str)} {c P : Addr} {params : Arguments} {body : Expr} {scope : Scope} {pos dp : Pos} {i : Int} {j : Nat} (TB : LamX.TabB X.base X.mg c P) (hcode : X.env.code = .ref c)
    (hm : (P, X.env.qual ++ "<lambda>") ∈ T) (hu : ∀ p ∈ T, p.1 = P → p.2 = X.env.qual ++ "<lambda>") (hfree : ∀ (ok : X.Ok), ∀ y ∈ scope.names, y.2 = .free → ∃ c, X.env.cells.lookup y.1 = some c) (hd : params.defaults = [.Constant (.int i) j dp] := by rfl) (hk : params.kw_defaults = [] := by rfl) :
    PE X (.Lambda params body scope pos) (tLamV T (X.env.qual ++ "<lambda>") params body scope (cloFrom X.env.cells scope.names []) (Dflt1 i)) := by
  refine ⟨fun pins s σ H Q I h => ?_⟩
  obtain ⟨hT, h⟩ := h
  refine PySem.W.kdv_lam (by rw [hd]; rfl) hk ?_
  rw [hd]
  refine PySem.W.kdv_all1 (thn ((pe_int (X := X) (i := i) (j := j) (pos := dp)).run pins s σ H (fun v H' => v = .int i ∧ H' = H) I ⟨rfl, rfl⟩) fun u s1 hh => PySem.W.kdv_all0 ?_)
  obtain ⟨v, H', I1, r, ev, eH⟩ := hh
  subst ev
  subst eH
  obtain ⟨tk, eu⟩ := r
  subst eu
  rw [makeFunction_eq]
  simp only [List.zip_nil_right, List.filterMap_nil, List.isEmpty_nil, List.isEmpty_cons, Bool.false_eq_true, if_false, if_true, pure_bind]
  refine wpAny_bind (wpAny_newTextTuple ?_)
  obtain ⟨q1, q2, q3, q4, q5⟩ := fresh_facts I1 (f := s1.heap.objs.size) (Nat.le_refl _)
  have I2 := I1.kept (t' := s1.toks) (h' := s1.heap.push (PySem.W.kdv_tup [.int i tk])) fun b o e => Heap.get?_push_of_some _ e
  have I3 := track I2 q1 q2 q3 q4 q5 (frz_ok (Heap.get?_push_size _ rfl))
  have eH : ∀ b o, H' b = some o → upd H' s1.heap.objs.size (frzO (PySem.W.kdv_tup [.int i tk])) b = some o := fun b o e => by
    rw [upd_ne (ne_of_none e q1)]
    exact e
  refine lam_tail I3 TB hcode hm hu (hT.ext eH) (hfree I3.ok) fun f c' doc pm ctv H1 s' e1 tkb t1 n1 k1 I4 => ⟨.ref f, _, I4, rfl, h H1 f c' _ doc pm ctv (clo_inj I.ok (hfree I.ok)) (fun b o e n => e1 b o (eH b o e) n) (tkb.ext eH) t1 ⟨_, tk, rfl, e1 _ _ upd_same fun ps z => by cases z⟩ n1 k1⟩
end
end GX
namespace GX
open PySem PySem.Spec PyProof.Rows L2 LamX
/-- what stands at f may be called without arguments: where ph holds of the heap it keeps the promise sp -/
def CallOk (P : Program) (w : World) (K : PySem.W.Frag) (mg : Str → Option Value) (base : Heap) (k : Nat) (f : Addr) (ph : Hp → Prop) (sp : Hp → VK → XK → Prop) : Prop :=
  ∀ (A : Around) (outer : List Env) (s : Shared) (H : Hp) (Q : VK) (E : XK), Room k A → Env0 P w K mg base A outer s H → ph H → sp H Q E →
    codeAny (model P w) A (.call (.ref f) ⟨[], []⟩) (CR (L2.CX P w) outer P w H s Q E) s
theorem CallOk.mono {P : Program} {w : World} {K : PySem.W.Frag} {mg : Str → Option Value} {base : Heap} {j k : Nat} {f : Addr} {ph : Hp → Prop} {sp : Hp → VK → XK → Prop} (c : CallOk P w K mg base j f ph sp) (h : j ≤ k) : CallOk P w K mg base k f ph sp :=
  fun A outer s H Q E hr => c A outer s H Q E (hr.mono h)
/-- a function object that is known as it is -/
def FnObj (H : Hp) (f : Addr) : Prop := ∃ (o : Obj) (fd : FuncData) (u : HO), H f = some (.frz o u) ∧ o.data = .func fd
theorem FnObj.at {X : Cx} {pins : List (Addr × Obj)} {σ : L2.St} {H : Hp} {s : Shared} {f : Addr} (h : FnObj H f) (I : Inv X pins σ H s) : PySem.W.FnAt f s.heap := by
  obtain ⟨o, fd, u, e, d⟩ := h
  obtain ⟨q, _⟩ := I.hok f _ e
  obtain ⟨oc, od, dt, sl⟩ := o
  cases d
  exact ⟨oc, od, fd, sl, q⟩
def tAct (P : Program) (w : World) (K : PySem.W.Frag) (mg : Str → Option Value) (base : Heap) (k i : Nat) (E : XK) : TE := fun σ H Q =>
  ∃ (f : Addr) (ph : Hp → Prop) (sp : Hp → VK → XK → Prop), σ[i]? = some (some (.ref f)) ∧ FnObj H f ∧ CallOk P w K mg base k f ph sp ∧ ph H ∧ sp H Q E
section
variable {X : Cx}
/-- a(), a the def's own name that holds such a thing -/
theorem pe_act0 {k i : Nat} {a : Str} {E : XK} {p1 p2 : Pos} (hr : Room k X.A) (hx : Passes (L2.CX X.prog X.w) X E) (hN : X.N[i]? = some a) (hv : Vis X.env.scope a) (hd : (a == ("__debug__" : Str)) = false := by decide) (hcd : (a == ("__classdict__" : Str)) = false := by decide) :
    PE X (.Call (.Name a p1) [] [] p2) (tAct X.prog X.w X.K X.mg X.base k i E) := by
  refine ⟨fun pins s σ H Q I h => ?_⟩
  obtain ⟨f, ph, sp, hs, ho, hc, hp, ht⟩ := h
  refine wpAny_Call_Name_kw (thn ((pe_var (pos := p1) (i := i) hN hv hd hcd).run pins s σ H (fun v H1 => v = .ref f ∧ H1 = H) I ⟨.ref f, hs, rfl, rfl⟩) fun u s1 hh => ?_)
  obtain ⟨v, H1, I1, r1, ev, eH⟩ := hh
  subst ev
  subst eH
  obtain rfl : u = Value.ref f := r1
  refine PySem.W.callWith_F0 (ho.at I1) ?_
  refine wpAny_call (codeAny_mono (hc X.A X.stack s1 H1 Q E hr I1.env0 hp ht) fun r s' hq => ?_)
  cases r with
  | error e => exact hx pins σ H1 s1 e s' I1 hq
  | ok fl =>
    cases fl with
    | ret u => exact I1.after hq
    | next => exact False.elim hq
    | brk => exact False.elim hq
    | cont => exact False.elim hq
end
/-! ### the maker's cells, known as they are while a def of it is called -/
def CellOf (X : Cx) (c : Addr) : Prop := ∃ y, X.env.cells.lookup y = some c
open Classical in
noncomputable def unf (S : Addr → Prop) (H : Hp) : Hp := fun b => if S b then none else H b
open Classical in
noncomputable def ref2 (S : Addr → Prop) (H H' : Hp) : Hp := fun b => if S b then H b else H' b
theorem unf_in {S : Addr → Prop} {H : Hp} {b : Addr} (h : S b) : unf S H b = none := by unfold unf; rw [if_pos h]
theorem unf_out {S : Addr → Prop} {H : Hp} {b : Addr} (h : ¬ S b) : unf S H b = H b := by unfold unf; rw [if_neg h]
theorem ref2_in {S : Addr → Prop} {H H' : Hp} {b : Addr} (h : S b) : ref2 S H H' b = H b := by unfold ref2; rw [if_pos h]
theorem ref2_out {S : Addr → Prop} {H H' : Hp} {b : Addr} (h : ¬ S b) : ref2 S H H' b = H' b := by unfold ref2; rw [if_neg h]
/-- H2 is H, the cells of X beside, as they stand -/
structure Frozen (X : Cx) (σ : L2.St) (H H2 : Hp) : Prop where
  out : ∀ b, ¬ CellOf X b → H2 b = H b
  free : ∀ b, CellOf X b → H b = none
  any : ∀ b, CellOf X b → ∃ o v, H2 b = some (frzO o) ∧ o.data = .cell v
  cell : ∀ (y : Str) (c : Addr) (i : Nat) (v : V), X.env.cells.lookup y = some c → X.N[i]? = some y → Vis X.env.scope y → X.env.scope.names.lookup y ≠ some .local → σ[i]? = some (some v) → ∃ o u, H2 c = some (frzO o) ∧ o.data = .cell (some u) ∧ RelV v u
section
variable {X : Cx} {pins : List (Addr × Obj)} {σ : L2.St} {H H2 H' : Hp} {s s' : Shared}
theorem Frozen.ext (z : Frozen X σ H H2) {b : Addr} {o : HO} (e : H b = some o) : H2 b = some o := by
  by_cases hb : CellOf X b
  · rw [z.free b hb] at e; cases e
  · rw [z.out b hb]; exact e
theorem freeze (I : Inv X pins σ H s) (hfn : ∀ y, X.fn y = true) : ∃ H2, Frozen X σ H H2 ∧ Env0 X.prog X.w X.K X.mg X.base X.A X.stack s H2 ∧ ∀ b, CellOf X b → ∃ o, s.heap.get? b = some o ∧ H2 b = some (frzO o) := by
  classical
  let H2 : Hp := fun b => if CellOf X b then (s.heap.get? b).map frzO else H b
  have hin : ∀ {b}, CellOf X b → H2 b = (s.heap.get? b).map frzO := fun {b} h => if_pos h
  have hout : ∀ {b}, ¬ CellOf X b → H2 b = H b := fun {b} h => if_neg h
  have free : ∀ b, CellOf X b → H b = none := fun b h => by obtain ⟨y, e⟩ := h; exact I.freeC y b e
  have young : ∀ b, CellOf X b → X.s_0.heap.objs.size ≤ b := fun b h => by obtain ⟨y, e⟩ := h; exact I.ok.cab y b (hfn y) e
  have obj : ∀ b, CellOf X b → ∃ o v, s.heap.get? b = some o ∧ o.data = .cell v := fun b h => by
    obtain ⟨y, e⟩ := h
    obtain ⟨v, o, ho, hd⟩ := I.cell y b e
    exact ⟨o, v, ho, hd⟩
  have at_ : ∀ b o, H b = some o → H2 b = some o := fun b o e => by
    by_cases hb : CellOf X b
    · rw [free b hb] at e; cases e
    · rw [hout hb]; exact e
  refine ⟨H2, ⟨fun b h => hout h, free, fun b h => ?_, fun y c i v e1 e2 e3 e4 e5 => ?_⟩, ⟨I.ok.frames, I.ok.mod, fun b o e => ⟨I.bk b o e, ?_⟩, Nat.le_trans I.ok.bsz I.sz, I.stack, fun b hb => ?_, fun b u e => ?_, I.bare⟩, fun b h => ?_⟩
  · obtain ⟨o, v, ho, hd⟩ := obj b h
    exact ⟨o, v, by rw [hin h, ho]; rfl, hd⟩
  · obtain ⟨m, hn, hl⟩ := I.loc
    obtain ⟨u, r, q⟩ := hl i y v e2 e5 e3
    rcases q with ⟨k, _⟩ | ⟨_, c2, ec, o, ho, hd⟩
    · exact absurd k e4
    · rw [e1] at ec
      cases ec
      exact ⟨o, u, by rw [hin ⟨y, e1⟩, ho]; rfl, hd, r⟩
  · have hb : ¬ CellOf X b := fun h => by
      have h1 := young b h
      have h2 := Heap.lt_size (I.ok.bs b o e).1
      exact absurd (Nat.lt_of_lt_of_le h2 h1) (Nat.lt_irrefl _)
    rw [hout hb]
    exact (I.bs b o e).2
  · have nb : ¬ CellOf X b := fun h => by
      rcases List.mem_cons.mp (I.stkSub b hb) with z | z
      · obtain ⟨y, e⟩ := h
        exact I.cne y b e z
      · obtain ⟨_, o, ho, _⟩ := I.ok.funs.mem z
        exact absurd (Nat.lt_of_lt_of_le (Heap.lt_size ho) (young b h)) (Nat.lt_irrefl _)
    rw [hout nb]
    exact I.stkFree b hb
  · by_cases hb : CellOf X b
    · obtain ⟨o, v, ho, hd⟩ := obj b hb
      rw [hin hb, ho] at e
      cases e
      exact frz_ok ho
    · rw [hout hb] at e
      exact (I.hok b u e).stay (fun _ _ _ q => q) (fun c q => at_ c _ q) fun c xs q => at_ c _ q
  · obtain ⟨o, v, ho, hd⟩ := obj b h
    exact ⟨o, ho, by rw [hin h, ho]; rfl⟩
theorem unfreeze (I : Inv X pins σ H s) (z : Frozen X σ H H2) (hz : ∀ b, CellOf X b → ∃ o, s.heap.get? b = some o ∧ H2 b = some (frzO o)) (os : s'.os = s.os) (ag : AllBare s'.gens) (un : Un (frs X.stack) [] H2 H' s.heap s'.heap) (hok : HOk X.prog X.w H' s'.heap) :
    Inv X pins σ (unf (CellOf X) H') s' := by
  have cellH : ∀ b, CellOf X b → ∃ o, s.heap.get? b = some o ∧ s'.heap.get? b = some o ∧ H' b = some (frzO o) := fun b h => by
    obtain ⟨o, ho, e⟩ := hz b h
    have e2 := un.frzs b o _ e
    exact ⟨o, ho, (hok b _ e2).1, e2⟩
  have out : ∀ {b o}, H b = some o → ¬ CellOf X b := fun {b o} e h => by rw [z.free b h] at e; cases e
  have nf : ∀ {b u}, H' b = some u → (∀ o, u ≠ frzO o) → ¬ CellOf X b := fun {b u} e n h => by
    obtain ⟨o, _, _, q⟩ := cellH b h
    rw [e] at q
    exact n o (Option.some.inj q)
  refine I.call' (ch := []) os ⟨fun b o e n hb hx => ?_, fun b o e n hb hx => ?_, fun b o e n hx => ?_, fun b o e hx => un.there b o e hx, fun b xs e => ?_, fun b o xs e => ?_, fun b ps e => ?_⟩ (fun b u e => ?_) ag fun b hb => absurd hb (by simp)
  · by_cases hc : CellOf X b
    · obtain ⟨o', h1, h2, _⟩ := cellH b hc
      rw [e] at h1
      cases h1
      exact h2
    · exact un.keep b o e (by rw [z.out b hc]; exact n) hb hx
  · by_cases hc : CellOf X b
    · obtain ⟨o', h1, h2, _⟩ := cellH b hc
      rw [e] at h1
      cases h1
      exact ⟨o.slots, h2⟩
    · exact un.slot b o e (by rw [z.out b hc]; exact n) hb hx
  · by_cases hc : CellOf X b
    · exact unf_in hc
    · rw [unf_out hc]
      exact un.free b o e (by rw [z.out b hc]; exact n) hx
  · rw [unf_out (out e)]
    exact un.tups b xs (z.ext e)
  · rw [unf_out (out e)]
    exact un.frzs b o xs (z.ext e)
  · obtain ⟨more, q⟩ := un.tbls b ps (z.ext e)
    exact ⟨more, by rw [unf_out (out e)]; exact q⟩
  · by_cases hc : CellOf X b
    · rw [unf_in hc] at e; cases e
    · rw [unf_out hc] at e
      exact (hok b u e).stay (fun _ _ _ q => q) (fun c q => by rw [unf_out (nf q fun o z => by cases z)]; exact q) fun c xs q => by rw [unf_out (nf q fun o z => by cases z)]; exact q
/-- f(e, ..): the callee may know the caller's cells -/
def tCallF (X : Cx) (sp : Sp) (t : TA) : TE := fun σ H Q => t σ H fun vs H1 => ∀ H2, Frozen X σ H1 H2 → sp vs H2 (fun v H' => Q v (unf (CellOf X) H')) fun _ _ _ => False
theorem pe_callF {k : Nat} {f : Addr} {fd : FuncData} {ps : List Str} {sp : Sp} {x : Str} {p pos : Pos} {e : Expr} {es : List Expr} {t : TA} (F : FnOk X.prog X.w X.K X.mg X.base CX0 k f fd ps sp) (hr : Room k X.A) (hfn : ∀ y, X.fn y = true) (hg : Gl X x) (hm : X.mg x = some (.ref f)) (hk : PySem.W.keepIn X.K (.ref f) = true) (hb : Binds X.K fd ps [])
    (ha : PA X (e :: es) t) (hdb : (x == ("__debug__" : Str)) = false := by decide) (he : starEach (e :: es) X.env = (false, eval e X.env) :: starEach es X.env := by rfl) (hpl : (backTo pos (starEach es X.env)).any (·.1) = false := by rfl) :
    PE X (.Call (.Name x p) (e :: es) [] pos) (tCallF X sp t) := by
  refine ⟨fun pins s σ H Q I h => ?_⟩
  refine wpAny_Call_Name_kw (ld_glob I hg hm ?_ hdb)
  refine PySem.W.callWith_K (h₀ := X.base) I.ok.mod.kin hk (thn (ha.run pos pins s σ H _ I h) fun us s1 hh => ?_) he hpl
  obtain ⟨vs, H1, I1, r, q⟩ := hh
  refine ⟨I1.kIn, ?_⟩
  obtain ⟨H2, z, e0, hz⟩ := freeze I1 hfn
  have sp2 := q H2 z
  have hl : us.length = ps.length := by rw [← r.length]; exact F.len _ _ _ _ sp2
  have hb2 := hb s1 us I1.kIn (by rw [List.append_nil]; exact hl)
  rw [List.append_nil] at hb2
  refine wpAny_call (codeAny_mono (F.run X.A X.stack s1 H2 ⟨us, []⟩ us vs _ _ hr e0 hb2 r sp2) fun r s' hq => ?_)
  cases r with
  | error e => exact (show False from hq).elim
  | ok fl =>
    cases fl with
    | ret u =>
      obtain ⟨v, H', os, bare, un, hok, rv, qv⟩ := hq
      exact ⟨v, unf (CellOf X) H', unfreeze I1 z hz os bare un hok, rv, qv⟩
    | next => exact False.elim hq
    | brk => exact False.elim hq
    | cont => exact False.elim hq
end
end GX
namespace GX
open PySem PySem.Spec PyProof.Rows L2 LamX
def CS (clos : List (Str × Addr)) (c : Addr) : Prop := ∃ y, clos.lookup y = some c
/-- the context of a lambda's body -/
def lCx (P : Program) (w : World) (K : PySem.W.Frag) (mg : Str → Option Value) (base : Heap) (Nl : List Str) (q : Str) (scope : Scope) (f c' : Addr) (clos : List (Str × Addr)) (A : Around) (outer : List Env) (s : Shared) (H : Hp) (E : XK) : Cx where
  prog := P
  w := w
  K := K
  mg := mg
  base := base
  A := A.deeper (PySem.W.envX q scope s.heap.objs.size f (.ref c') clos)
  N := Nl
  s_0 := s
  H_0 := H
  env := PySem.W.envX q scope s.heap.objs.size f (.ref c') clos
  outer := outer
  stack := PySem.W.envX q scope s.heap.objs.size f (.ref c') clos :: outer
  ex := []
  fn := fun _ => false
  calm := true
  pn := []
  xe := fun e s' => wpAny (model P w) (A.deeper (PySem.W.envX q scope s.heap.objs.size f (.ref c') clos)) (leaving (PySem.W.envX q scope s.heap.objs.size f (.ref c') clos) e)
    (fun _ s'' => L2.CX P w outer H s E e s'') (fun e' s'' => L2.CX P w outer H s E e' s'') s'
theorem passes_l {P : Program} {w : World} {K : PySem.W.Frag} {mg : Str → Option Value} {base : Heap} {Nl : List Str} {q : Str} {scope : Scope} {f c' : Addr} {clos : List (Str × Addr)} {A : Around} {outer : List Env} {s : Shared} {H : Hp} {E : XK} :
    Passes (L2.CX P w) (lCx P w K mg base Nl q scope f c' clos A outer s H E) E :=
  passes_call (X := lCx P w K mg base Nl q scope f c' clos A outer s H E) (W := fun cls d _ H => E cls d H) (takes_of rfl rfl rfl rfl) fun _ _ _ _ h => h
/-- what is known of the heap where the lambda is called -/
def LamAt (q : Str) (params : Arguments) (body : Expr) (scope : Scope) (clos : List (Str × Addr)) (dV doc pm : Value) (c' : Addr) (ctv : Value) (D : Value → Hp → Prop) (Nl : List Str) (τ : L2.St) (f : Addr) (H : Hp) : Prop :=
  H f = some (frzO (lamObj q params body scope clos dV doc pm c' ctv)) ∧ H c' = some (CodeO c' q) ∧ D dV H ∧
    ∀ y c, clos.lookup y = some c → ∃ o u, H c = some (frzO o) ∧ o.data = .cell u ∧ ∀ (i : Nat) (v : V), Nl[i]? = some y → τ[i]? = some (some v) → ∃ u', u = some u' ∧ RelV v u'
/-- a lambda's names -/
structure LScope (Nl : List Str) (sc : Scope) : Prop where
  kind : sc.kind = .function
  co : sc.isCoroutine = false
  gen : sc.isGenerator = false
  cell : ∀ y ∈ sc.names, y.2 ≠ .cell
section
variable {P : Program} {w : World} {K : PySem.W.Frag} {mg : Str → Option Value} {base : Heap} {Nl : List Str} {q : Str} {scope : Scope} {f c' : Addr} {clos : List (Str × Addr)} {params : Arguments} {body : Expr} {dV doc pm ctv : Value} {k : Nat} {D : Value → Hp → Prop} {τ : L2.St} {tb : XK → TE}
theorem callOk_core {ar : Args} {binds : List (Str × Value)} (S : LScope Nl scope) (hinj : InjC clos) (hclos : ∀ y, (scope.names.lookup y = some .cell ∨ scope.names.lookup y = some .free) → ∃ c, clos.lookup y = some c) (hlen : τ.length = Nl.length)
    {A : Around} {outer : List Env} {s : Shared} {H : Hp} {Q : VK} {E : XK} (hr : Room (k + 1) A) (e0 : Env0 P w K mg base A outer s H) (hp : LamAt q params body scope clos dV doc pm c' ctv D Nl τ f H)
    (hb : BindsTo s (PySem.W.kdv_fn "<lambda>" q params (.expr body) scope clos dV doc pm (.ref c') ctv) ar binds) (hl : ∀ y ∈ binds, scope.names.lookup y.1 = some .local)
    (hloc : ∀ (i : Nat) (y : Str) (v : V), Nl[i]? = some y → τ[i]? = some (some v) → scope.names.lookup y = some .local → ∃ u, RelV v u ∧ binds.reverse.lookup y = some u)
    (hbody : ∀ (A : Around) (outer : List Env) (s : Shared) (H : Hp) (E : XK), Room k (A.deeper (PySem.W.envX q scope s.heap.objs.size f (.ref c') clos)) → PE (lCx P w K mg base Nl q scope f c' clos A outer s H E) body (tb E))
    (h : tb (fun cls d H' => (∀ b, CS clos b → H' b = none) → E cls d (ref2 (CS clos) H H')) τ (unf (CS clos) H) (fun v H' => (∀ b, CS clos b → H' b = none) → Q v (ref2 (CS clos) H H'))) : codeAny (model P w) A (.call (.ref f) ar) (CR (L2.CX P w) outer P w H s Q E) s := by
  obtain ⟨hf, hc, hD, hcell⟩ := hp
  have cellH : ∀ b, CS clos b → ∃ o u, s.heap.get? b = some o ∧ H b = some (frzO o) ∧ o.data = .cell u := fun b hb => by
    obtain ⟨y, e⟩ := hb
    obtain ⟨o, u, e1, e2, _⟩ := hcell y b e
    exact ⟨o, u, (e0.hok b _ e1).1, e1, e2⟩
  have nf : ∀ {b u}, H b = some u → (∀ o, u ≠ frzO o) → ¬ CS clos b := fun {b u} e n hb => by
    obtain ⟨o, _, _, q, _⟩ := cellH b hb
    rw [e] at q
    exact n o (Option.some.inj q)
  have nn : ∀ {b}, H b = none → ¬ CS clos b := fun {b} e hb => by
    obtain ⟨o, _, _, q, _⟩ := cellH b hb
    rw [e] at q
    cases q
  have hidN : ∀ {b : Addr} {H' : Hp}, CS clos b → (∀ {u}, H' b = some u → ¬ CS clos b) → H' b = none := fun {b H'} hb n => by
    cases q : H' b with
    | none => rfl
    | some u => exact absurd hb (n q)
  have un0 : ∀ {b}, H b = none → unf (CS clos) H b = none := fun {b} e => by rw [unf_out (nn e)]; exact e
  have hok1 : HOk P w (unf (CS clos) H) s.heap := fun b u e => by
    by_cases hb : CS clos b
    · rw [unf_in hb] at e; cases e
    · rw [unf_out hb] at e
      exact (e0.hok b u e).stay (fun _ _ _ q => q) (fun c q => by rw [unf_out (nf q fun o z => by cases z)]; exact q) fun c xs q => by rw [unf_out (nf q fun o z => by cases z)]; exact q
  have e1 : Env0 P w K mg base A outer s (unf (CS clos) H) := ⟨e0.frames, e0.mod, fun b o e => ⟨(e0.bs b o e).1, un0 (e0.bs b o e).2⟩, e0.bsz, e0.funs, fun b hb => un0 (e0.frf b hb), hok1, e0.bare⟩
  obtain ⟨⟨oc, vs, t, hoc, hdc, hvc⟩, _, _⟩ := e0.hok c' _ hc
  have lim : s.heap.NoLimit := e0.mod.nolimit.keeps fun b o e => (e0.bs b o e).1
  refine PySem.W.kla_callFunE hr.depth (e0.hok f _ hf).1 rfl S.co S.gen rfl ⟨c', oc, vs, t, rfl, hoc, hdc, hvc⟩ ?_
  refine hb _ _ _ _ ?_
  refine wpAny_newFunctionEnv S.cell hl (fun h₁ hns hsb => ⟨lim.fresh _ hsb, ?_⟩) S.kind
  show codeAny _ _ (.expr body (PySem.W.envX q scope s.heap.objs.size f (.ref c') clos)) _ _
  have kp : ∀ b o, s.heap.get? b = some o → h₁.get? b = some o := fun b o e => hsb.extBut b o (Nat.ne_of_lt (Heap.lt_size e)) (Heap.get?_push_of_some _ e)
  have cellK : ∀ {y c}, clos.lookup y = some c → ∃ o u, h₁.get? c = some o ∧ o.data = .cell u ∧ ∀ (i : Nat) (v : V), Nl[i]? = some y → τ[i]? = some (some v) → ∃ u', u = some u' ∧ RelV v u' := fun {y c} e => by
    obtain ⟨o, u, q1, q2, q3⟩ := hcell y c e
    exact ⟨o, u, kp _ _ (e0.hok c _ q1).1, q2, q3⟩
  have J : Inv (lCx P w K mg base Nl q scope f c' clos A outer s (unf (CS clos) H) fun cls d H' => (∀ b, CS clos b → H' b = none) → E cls d (ref2 (CS clos) H H')) [] τ (unf (CS clos) H) { s with heap := h₁, toks := s.toks + binds.length } := by
    have noA : ∀ b : Addr, b ∉ (lCx P w K mg base Nl q scope f c' clos A outer s (unf (CS clos) H) fun cls d H' => (∀ b, CS clos b → H' b = none) → E cls d (ref2 (CS clos) H H')).ex := fun b z => absurd (show b ∈ ([] : List Addr) from z) (by simp)
    refine ⟨⟨e1.mod, S.kind, rfl, rfl, Nat.le_refl _, fun y z c q1 q2 => hinj y z c q1 q2, fun y hy => hclos y hy, fun y c z _ => absurd (show false = true from z) Bool.false_ne_true, fun _ => hr.hd, Around.frames_deeper e1.frames, .inr ⟨rfl, rfl⟩, fun b z => absurd z (noA b), e1.bs, e1.bsz, fun b _ _ => noA b,
        fun b z => absurd z (noA b), e1.funs, e1.frf⟩,
      rfl, e1.bare, Un.kept kp, ⟨_, hns, fun i y v q1 q2 q3 => ?_⟩, fun y c e => ?_, e1.hok.fresh (Nat.le_refl _), fun y c e => ?_, fun p hp => absurd (show p ∈ ([] : List (Addr × Obj)) from hp) (by simp), e1.hok.kept kp, hlen⟩
    · have q3 : scope.names.lookup y = some .local ∨ scope.names.lookup y = some .cell ∨ scope.names.lookup y = some .free := q3
      rcases q3 with k1 | k1 | k1
      · obtain ⟨u, r, e⟩ := hloc i y v q1 q2 k1
        exact ⟨u, r, .inl ⟨k1, e⟩⟩
      · exact absurd rfl (S.cell _ (PySem.mem_of_lookup k1))
      · obtain ⟨c, ec⟩ := hclos y (.inr k1)
        obtain ⟨o, u, o1, o2, o3⟩ := cellK ec
        obtain ⟨u', eu, r⟩ := o3 i v q1 q2
        exact ⟨u', r, .inr ⟨.inr k1, c, ec, o, o1, by rw [o2, eu]⟩⟩
    · obtain ⟨o, u, o1, o2, _⟩ := cellK e
      exact ⟨u, o, o1, o2⟩
    · exact unf_in ⟨y, e⟩
  refine PySem.W.kla_codeExpr (wpAny_mono ((hbody A outer s _ _ (hr.deeper _)).run [] _ τ _ _ J h) (fun v s' hq => ?_) fun e s' hq => wpAny_mono hq (fun _ s'' hx => ?_) fun e' s'' hx => ?_)
  · obtain ⟨v', H', J', rv, q1⟩ := hq
    have un : Un (frs outer) [] (unf (CS clos) H) H' s.heap s'.heap := J'.base
    have cellB : ∀ b, CS clos b → ∃ o, H b = some (frzO o) ∧ s'.heap.get? b = some o := fun b hb => by
      obtain ⟨o, u, o1, o2, o3⟩ := cellH b hb
      have nfr : b ∉ frs outer := fun hm => by
        have z := e0.frf b hm
        rw [o2] at z
        cases z
      exact ⟨o, o2, un.keep b o o1 (unf_in hb) nfr (by simp)⟩
    have nC : ∀ {b u}, H' b = some u → ¬ CS clos b := fun {b u} e hb => by
      obtain ⟨o, _, o1, _, _⟩ := cellH b hb
      have z := un.free b o o1 (unf_in hb) (by simp)
      rw [e] at z
      cases z
    refine ⟨v', ref2 (CS clos) H H', J'.os, J'.bare, ⟨fun b o e n hb hx => un.keep b o e (un0 n) hb hx, fun b o e n hb hx => un.slot b o e (un0 n) hb hx, fun b o e n hx => ?_, fun b o e hx => un.there b o e hx, fun b xs e => ?_, fun b o xs e => ?_, fun b ps e => ?_⟩, fun b u e => ?_, rv, q1 fun b hb => hidN hb fun {u} e => nC e⟩
    · rw [ref2_out (nn n)]
      exact un.free b o e (un0 n) hx
    · have nb := nf e fun o z => by cases z
      rw [ref2_out nb]
      exact un.tups b xs (by rw [unf_out nb]; exact e)
    · by_cases hb : CS clos b
      · rw [ref2_in hb]; exact e
      · rw [ref2_out hb]
        exact un.frzs b o xs (by rw [unf_out hb]; exact e)
    · have nb := nf e fun o z => by cases z
      obtain ⟨more, z⟩ := un.tbls b ps (by rw [unf_out nb]; exact e)
      exact ⟨more, by rw [ref2_out nb]; exact z⟩
    · by_cases hb : CS clos b
      · obtain ⟨o, o1, o2⟩ := cellB b hb
        rw [ref2_in hb, o1] at e
        cases e
        exact frz_ok o2
      · rw [ref2_out hb] at e
        exact (J'.hok b u e).stay (fun _ _ _ q => q) (fun c q => by rw [ref2_out (nC q)]; exact q) fun c xs q => by rw [ref2_out (nC q)]; exact q
  all_goals
    obtain ⟨a, B, H', cls, d, ea, fl, hokB, ub, na, os, ag, hW⟩ := hx
    have cellB : ∀ b, CS clos b → ∃ o, H b = some (frzO o) ∧ B.get? b = some o := fun b hb => by
      obtain ⟨o, u, o1, o2, o3⟩ := cellH b hb
      have nfr : b ∉ frs outer := fun hm => by
        have z := e0.frf b hm
        rw [o2] at z
        cases z
      exact ⟨o, o2, ub.keep b o o1 (unf_in hb) nfr⟩
    have nC : ∀ {b u}, H' b = some u → ¬ CS clos b := fun {b u} e hb => by
      obtain ⟨o, _, o1, _, _⟩ := cellH b hb
      have z := ub.free b o o1 (unf_in hb)
      rw [e] at z
      cases z
    refine ⟨a, B, ref2 (CS clos) H H', cls, d, ea, fl, fun b u e => ?_, ⟨fun b o e n hb => ub.keep b o e (un0 n) hb, fun b o e hb => ub.slot b o e hb, fun b o e n => ?_, fun b o e hb => ub.there b o e hb, fun b xs e => ?_, fun b o xs e => ?_, fun b ps e => ?_⟩, ?_, os, ag, hW fun b hb => hidN hb fun {u} e => nC e⟩
    · by_cases hb : CS clos b
      · obtain ⟨o, o1, o2⟩ := cellB b hb
        rw [ref2_in hb, o1] at e
        cases e
        exact frz_ok o2
      · rw [ref2_out hb] at e
        exact (hokB b u e).stay (fun _ _ _ q => q) (fun c q => by rw [ref2_out (nC q)]; exact q) fun c xs q => by rw [ref2_out (nC q)]; exact q
    · rw [ref2_out (nn n)]
      exact ub.free b o e (un0 n)
    · have nb := nf e fun o z => by cases z
      rw [ref2_out nb]
      exact ub.tups b xs (by rw [unf_out nb]; exact e)
    · by_cases hb : CS clos b
      · rw [ref2_in hb]; exact e
      · rw [ref2_out hb]
        exact ub.frzs b o xs (by rw [unf_out hb]; exact e)
    · have nb := nf e fun o z => by cases z
      obtain ⟨more, z⟩ := ub.tbls b ps (by rw [unf_out nb]; exact e)
      exact ⟨more, by rw [ref2_out nb]; exact z⟩
    · have nb : ¬ CS clos a := fun hb => by
        obtain ⟨o, _, o2⟩ := cellB a hb
        have z := fl.2.1
        rw [o2] at z
        cases z
      rw [ref2_out nb]
      exact na
/-- a lambda without parameters -/
theorem callOk_lam0 (S : LScope Nl scope) (hinj : InjC clos) (hclos : ∀ y, (scope.names.lookup y = some .cell ∨ scope.names.lookup y = some .free) → ∃ c, clos.lookup y = some c) (hlen : τ.length = Nl.length) (hnl : ∀ (i : Nat) (y : Str), Nl[i]? = some y → scope.names.lookup y ≠ some .local)
    (hbind : ∀ (doc pm cv ctv : Value), bindArgs (PySem.W.kdv_fn "<lambda>" q params (.expr body) scope clos .none doc pm cv ctv) ⟨[], []⟩ = pure [])
    (hbody : ∀ (A : Around) (outer : List Env) (s : Shared) (H : Hp) (E : XK), Room k (A.deeper (PySem.W.envX q scope s.heap.objs.size f (.ref c') clos)) → PE (lCx P w K mg base Nl q scope f c' clos A outer s H E) body (tb E)) :
    CallOk P w K mg base (k + 1) f (LamAt q params body scope clos dV doc pm c' ctv (fun dV _ => dV = .none) Nl τ f) (fun H Q E => tb (fun cls d H' => (∀ b, CS clos b → H' b = none) → E cls d (ref2 (CS clos) H H')) τ (unf (CS clos) H) fun v H' => (∀ b, CS clos b → H' b = none) → Q v (ref2 (CS clos) H H')) := by
  intro A outer s H Q E hr e0 hp h
  obtain ⟨_, _, eD, _⟩ := id hp
  subst eD
  exact callOk_core (binds := []) S hinj hclos hlen hr e0 hp (.of_eq (hbind _ _ _ _)) (fun y hy => absurd hy (by simp)) (fun i y v e1 _ e3 => absurd e3 (hnl i y e1)) hbody h
/-- a lambda with one parameter that has a default -/
theorem callOk_lam1 {i : Int} {a : Str} (S : LScope Nl scope) (hinj : InjC clos) (hclos : ∀ y, (scope.names.lookup y = some .cell ∨ scope.names.lookup y = some .free) → ∃ c, clos.lookup y = some c) (hlen : τ.length = Nl.length) (hnl : ∀ (j : Nat) (y : Str), Nl[j + 1]? = some y → scope.names.lookup y ≠ some .local)
    (h0 : Nl[0]? = some a) (ha : scope.names.lookup a = some .local) (hτ : τ[0]? = some (some (.int i)))
    (hbind : ∀ (s : Shared) (t : Addr) (u : Tok) (doc pm cv ctv : Value), s.heap.get? t = some (PySem.W.kdv_tup [.int i u]) → BindsTo s (PySem.W.kdv_fn "<lambda>" q params (.expr body) scope clos (.ref t) doc pm cv ctv) ⟨[], []⟩ [(a, .int i u)])
    (hbody : ∀ (A : Around) (outer : List Env) (s : Shared) (H : Hp) (E : XK), Room k (A.deeper (PySem.W.envX q scope s.heap.objs.size f (.ref c') clos)) → PE (lCx P w K mg base Nl q scope f c' clos A outer s H E) body (tb E)) :
    CallOk P w K mg base (k + 1) f (LamAt q params body scope clos dV doc pm c' ctv (Dflt1 i) Nl τ f) (fun H Q E => tb (fun cls d H' => (∀ b, CS clos b → H' b = none) → E cls d (ref2 (CS clos) H H')) τ (unf (CS clos) H) fun v H' => (∀ b, CS clos b → H' b = none) → Q v (ref2 (CS clos) H H')) := by
  intro A outer s H Q E hr e0 hp h
  obtain ⟨_, _, ⟨t, u, eD, et⟩, _⟩ := id hp
  subst eD
  refine callOk_core (binds := [(a, .int i u)]) S hinj hclos hlen hr e0 hp (hbind s t u _ _ _ _ (e0.hok t _ et).1) (fun y hy => ?_) (fun j y v e1 e2 e3 => ?_) hbody h
  · rw [List.mem_singleton.mp hy]
    exact ha
  · cases j with
    | zero =>
      rw [h0] at e1
      cases e1
      rw [hτ] at e2
      cases e2
      exact ⟨.int i u, ⟨u, rfl⟩, by simp⟩
    | succ j => exact absurd e3 (hnl j y e1)
/-- .. called with values -/
def CallOkV (P : Program) (w : World) (K : PySem.W.Frag) (mg : Str → Option Value) (base : Heap) (k : Nat) (f : Addr) (us : List Value) (ph : Hp → Prop) (sp : Hp → VK → XK → Prop) : Prop :=
  ∀ (A : Around) (outer : List Env) (s : Shared) (H : Hp) (Q : VK) (E : XK), Room k A → Env0 P w K mg base A outer s H → ph H → sp H Q E →
    codeAny (model P w) A (.call (.ref f) ⟨us, []⟩) (CR (L2.CX P w) outer P w H s Q E) s
/-- a lambda with one parameter -/
theorem callOk_lamP {v0 : V} {u0 : Value} {a : Str} (S : LScope Nl scope) (hinj : InjC clos) (hclos : ∀ y, (scope.names.lookup y = some .cell ∨ scope.names.lookup y = some .free) → ∃ c, clos.lookup y = some c) (hlen : τ.length = Nl.length) (hnl : ∀ (j : Nat) (y : Str), Nl[j + 1]? = some y → scope.names.lookup y ≠ some .local)
    (h0 : Nl[0]? = some a) (ha : scope.names.lookup a = some .local) (hτ : τ[0]? = some (some v0)) (hr0 : RelV v0 u0)
    (hbind : ∀ (doc pm cv ctv : Value), bindArgs (PySem.W.kdv_fn "<lambda>" q params (.expr body) scope clos .none doc pm cv ctv) ⟨[u0], []⟩ = pure [(a, u0)])
    (hbody : ∀ (A : Around) (outer : List Env) (s : Shared) (H : Hp) (E : XK), Room k (A.deeper (PySem.W.envX q scope s.heap.objs.size f (.ref c') clos)) → PE (lCx P w K mg base Nl q scope f c' clos A outer s H E) body (tb E)) :
    CallOkV P w K mg base (k + 1) f [u0] (LamAt q params body scope clos dV doc pm c' ctv (fun dV _ => dV = .none) Nl τ f) (fun H Q E => tb (fun cls d H' => (∀ b, CS clos b → H' b = none) → E cls d (ref2 (CS clos) H H')) τ (unf (CS clos) H) fun v H' => (∀ b, CS clos b → H' b = none) → Q v (ref2 (CS clos) H H')) := by
  intro A outer s H Q E hr e0 hp h
  obtain ⟨_, _, eD, _⟩ := id hp
  subst eD
  refine callOk_core (binds := [(a, u0)]) S hinj hclos hlen hr e0 hp (.of_eq (hbind _ _ _ _)) (fun y hy => ?_) (fun j y v e1 e2 e3 => ?_) hbody h
  · rw [List.mem_singleton.mp hy]
    exact ha
  · cases j with
    | zero =>
      rw [h0] at e1
      cases e1
      rw [hτ] at e2
      cases e2
      exact ⟨u0, hr0, by simp⟩
    | succ j => exact absurd e3 (hnl j y e1)
end
end GX
namespace GX
open PySem PySem.Spec PyProof.Rows L2 LamX
/-! ### what a call leaves: all that was known stands, but tables may have grown -/
structure XX (T : List (Addr × Str)) (H H' : Hp) : Prop where
  keep : ∀ b o, H b = some o → (∀ ps, o ≠ .tbl ps) → H' b = some o
  tbl : ∀ b ps, H b = some (.tbl ps) → ∃ ps', H' b = some (.tbl ps')
  tabG : ∀ p, GxR.TabG H p → GxR.TabG H' p
  tabs : Tabs T H → Tabs T H'
section
variable {T : List (Addr × Str)} {H H1 H2 : Hp} {K : PySem.W.Frag}
theorem XX.refl (H : Hp) : XX T H H := ⟨fun _ _ h _ => h, fun _ ps h => ⟨ps, h⟩, fun _ h => h, fun h => h⟩
theorem XX.trans (a : XX T H H1) (b : XX T H1 H2) : XX T H H2 :=
  ⟨fun c o h n => b.keep c o (a.keep c o h n) n, fun c ps h => by obtain ⟨ps', h'⟩ := a.tbl c ps h; exact b.tbl c ps' h', fun p h => b.tabG p (a.tabG p h), fun h => b.tabs (a.tabs h)⟩
theorem XX.of (e : ∀ b o, H b = some o → H1 b = some o) : XX T H H1 :=
  ⟨fun b o h _ => e b o h, fun b ps h => ⟨ps, e _ _ h⟩, fun p ⟨ps, h, t⟩ => ⟨ps, e _ _ h, t⟩, fun h => h.ext e⟩
theorem XX.new {p : Addr} {o : HO} (h : H p = none) : XX T H (upd H p o) := XX.of fun b u e => by rw [upd_ne (ne_of_none e h)]; exact e
theorem XX.then_new {p : Addr} {o : HO} (a : XX T H H1) (h : H1 p = none) : XX T H (upd H1 p o) := a.trans (XX.new h)
theorem XX.tabbed {P : Addr} (hT : ∀ p ∈ T, p.1 ≠ P) (hP : GxR.TabG H P) (t : GxR.Tabbed P H H1) : XX T H H1 := by
  obtain ⟨ps0, hp0, _⟩ := hP
  refine ⟨fun b o e n => ?_, fun b ps e => ?_, fun p h => ?_, fun h p hp => ?_⟩
  · have nb : b ≠ P := fun z => by rw [z, hp0] at e; exact n ps0 (Option.some.inj e).symm
    rw [t.2 b nb]; exact e
  · by_cases hb : b = P
    · rw [hb]; obtain ⟨ps', h', _⟩ := t.1; exact ⟨ps', h'⟩
    · exact ⟨ps, by rw [t.2 b hb]; exact e⟩
  · by_cases hb : p = P
    · rw [hb]; exact t.1
    · obtain ⟨ps, h1, h2⟩ := h
      exact ⟨ps, by rw [t.2 p hb]; exact h1, h2⟩
  · obtain ⟨ps, h1, h2, h3⟩ := h p hp
    refine ⟨ps, by rw [t.2 _ (hT p hp)]; exact h1, h2, fun pos cv hc => ?_⟩
    obtain ⟨c, e1, e2⟩ := h3 pos cv hc
    have nb : c ≠ P := fun z => by rw [z, hp0] at e2; exact codeO_ne ps0 (Option.some.inj e2).symm
    exact ⟨c, e1, by rw [t.2 c nb]; exact e2⟩
theorem XX.lam (e : ExtN H H1) (t : Tabs T H → Tabs T H1) (hg : ∀ b ps, H b = some (.tbl ps) → ∃ ps', H1 b = some (.tbl ps')) (hG : ∀ p, GxR.TabG H p → GxR.TabG H1 p) : XX T H H1 := ⟨fun b o h n => e b o h n, hg, hG, t⟩
theorem XX.there (a : XX T H H1) {p : Addr} {o : HO} (h : H p = some o) : ∃ o', H1 p = some o' := by
  by_cases ht : ∃ ps, o = .tbl ps
  · obtain ⟨ps, e⟩ := ht
    subst e
    obtain ⟨ps', h'⟩ := a.tbl p ps h
    exact ⟨_, h'⟩
  · exact ⟨o, a.keep p o h fun ps e => ht ⟨ps, e⟩⟩
theorem XX.free (a : XX T H H1) {p : Addr} (h : H1 p = none) : H p = none := by
  cases q : H p with
  | none => rfl
  | some o =>
    obtain ⟨o', q'⟩ := a.there q
    rw [h] at q'; cases q'
theorem XX.rd (a : XX T H H1) {p : Addr} {o : HO} (n : ∀ ps, o ≠ .tbl ps) (h : Rd H p o) : Rd H1 p o := by
  rcases h with h | ⟨ob, h⟩
  · exact .inl (a.keep _ _ h n)
  · exact .inr ⟨ob, a.keep _ _ h fun ps z => by cases z⟩
theorem XX.sqL (a : XX T H H1) {p : Addr} {xs : List V} (h : SqL K H p xs) : SqL K H1 p xs := by
  rcases h with h | h
  · exact .inl (a.rd (fun ps z => by cases z) h)
  · exact .inr h
theorem XX.sqT (a : XX T H H1) {p : Addr} {xs : List V} (h : SqT K H p xs) : SqT K H1 p xs := by
  rcases h with h | h
  · exact .inl (a.rd (fun ps z => by cases z) h)
  · exact .inr h
theorem XX.lst (a : XX T H H1) {p : Addr} {xs : List V} (h : H p = some (.lst xs)) : H1 p = some (.lst xs) := a.keep _ _ h fun ps z => by cases z
theorem XX.tup (a : XX T H H1) {p : Addr} {xs : List V} (h : H p = some (.tup xs)) : H1 p = some (.tup xs) := a.keep _ _ h fun ps z => by cases z
theorem XX.ins (a : XX T H H1) {p C dx : Addr} {fs : List (Str × V)} (h : H p = some (.ins C dx fs)) : H1 p = some (.ins C dx fs) := a.keep _ _ h fun ps z => by cases z
theorem XX.dk (a : XX T H H1) {p : Addr} {kvs : List (Key × V)} (h : H p = some (.dK kvs)) : H1 p = some (.dK kvs) := a.keep _ _ h fun ps z => by cases z
mutual
theorem Dp.xx (a : XX T H H1) : ∀ (d : PyData) (v : V), Dp K H v d → Dp K H1 v d
  | .none, _, h => by cases h; exact .non
  | .bool _, _, h => by cases h; exact .bl _
  | .int _, _, h => by cases h; exact .int _
  | .str _, _, h => by cases h; exact .str _
  | .list ds, _, h => by
    cases h with
    | lst hs ha => exact .lst (a.sqL hs) (Dp.xxAll a ds _ ha)
  | .tuple ds, _, h => by
    cases h with
    | tup hs ha => exact .tup (a.sqT hs) (Dp.xxAll a ds _ ha)
  | .dict _, _, h => by cases h
theorem Dp.xxAll (a : XX T H H1) : ∀ (ds : List PyData) (vs : List V), DpAll K H vs ds → DpAll K H1 vs ds
  | [], _, h => by cases h; exact .nil
  | d :: ds, _, h => by
    cases h with
    | cons h1 h2 => exact .cons (Dp.xx a d _ h1) (Dp.xxAll a ds _ h2)
end
/-! ### data -/
theorem dpAll_len : ∀ {vs : List V} {ds : List PyData}, DpAll K H vs ds → vs.length = ds.length
  | _, [], h => by cases h; rfl
  | _, d :: ds, h => by
    cases h with
    | cons h1 h2 => simp [dpAll_len h2]
theorem dpAll_get : ∀ {vs : List V} {ds : List PyData} {i : Nat} {v : V}, DpAll K H vs ds → vs[i]? = some v → ∃ d, ds[i]? = some d ∧ Dp K H v d
  | _, [], _, _, h, e => by cases h; simp at e
  | _, d :: ds, i, v, h, e => by
    cases h with
    | cons h1 h2 =>
      cases i with
      | zero => simp at e; subst e; exact ⟨d, rfl, h1⟩
      | succ i => simpa using dpAll_get h2 (by simpa using e)
theorem dpAll_at : ∀ {vs : List V} {ds : List PyData} {i : Nat} {d : PyData}, DpAll K H vs ds → ds[i]? = some d → ∃ v, vs[i]? = some v ∧ Dp K H v d
  | _, [], _, _, h, e => by simp at e
  | _, d0 :: ds, i, d, h, e => by
    cases h with
    | cons h1 h2 =>
      cases i with
      | zero => simp at e; subst e; exact ⟨_, rfl, h1⟩
      | succ i => simpa using dpAll_at h2 (by simpa using e)
theorem dp_tup {v : V} {ds : List PyData} (h : Dp K H v (.tuple ds)) : ∃ a xs, v = .ref a ∧ SqT K H a xs ∧ DpAll K H xs ds := by
  cases h with
  | tup hs ha => exact ⟨_, _, rfl, hs, ha⟩
theorem dp_lst {v : V} {ds : List PyData} (h : Dp K H v (.list ds)) : ∃ a xs, v = .ref a ∧ SqL K H a xs ∧ DpAll K H xs ds := by
  cases h with
  | lst hs ha => exact ⟨_, _, rfl, hs, ha⟩
theorem atI0 {v : V} {r : List V} : atI (v :: r) 0 = some v := atI_nat (j := 0) rfl
theorem dpAll0 {vs : List V} (h : DpAll K H vs []) : vs = [] := by cases h; rfl
theorem dpAllC {vs : List V} {d : PyData} {ds : List PyData} (h : DpAll K H vs (d :: ds)) : ∃ v r, vs = v :: r ∧ Dp K H v d ∧ DpAll K H r ds := by
  cases h with
  | cons h1 h2 => exact ⟨_, _, rfl, h1, h2⟩
theorem dpAll1 {v : V} {ds : List PyData} (h : DpAll K H [v] ds) : ∃ d, ds = [d] ∧ Dp K H v d := by
  cases ds with
  | nil => cases h
  | cons d r =>
    cases h with
    | cons h1 h2 =>
      cases r with
      | nil => exact ⟨d, rfl, h1⟩
      | cons _ _ => cases h2
theorem len2 {v0 : V} {xr : List V} (h : (v0 :: xr).length = 2) : ∃ v1, xr = [v1] := by
  match xr, h with
  | [v1], _ => exact ⟨v1, rfl⟩
theorem dpAll2 {vs : List V} {x y : PyData} (h : DpAll K H vs [x, y]) : ∃ a b, vs = [a, b] ∧ Dp K H a x ∧ Dp K H b y := by
  obtain ⟨a, r, rfl, h1, h2⟩ := dpAllC h
  obtain ⟨b, r2, rfl, h3, h4⟩ := dpAllC h2
  obtain rfl := dpAll0 h4
  exact ⟨a, b, rfl, h1, h3⟩
theorem dpAll5 {vs : List V} {d0 d1 d2 d3 d4 : PyData} (h : DpAll K H vs [d0, d1, d2, d3, d4]) : ∃ v0 v1 v2 v3 v4, vs = [v0, v1, v2, v3, v4] ∧ Dp K H v0 d0 ∧ Dp K H v1 d1 ∧ Dp K H v2 d2 ∧ Dp K H v3 d3 ∧ Dp K H v4 d4 := by
  obtain ⟨v0, r0, rfl, h0, k0⟩ := dpAllC h
  obtain ⟨v1, r1, rfl, h1, k1⟩ := dpAllC k0
  obtain ⟨v2, r2, rfl, h2, k2⟩ := dpAllC k1
  obtain ⟨v3, r3, rfl, h3, k3⟩ := dpAllC k2
  obtain ⟨v4, r4, rfl, h4, k4⟩ := dpAllC k3
  obtain rfl := dpAll0 k4
  exact ⟨v0, v1, v2, v3, v4, rfl, h0, h1, h2, h3, h4⟩
theorem dp_int {v : V} {i : Int} (h : Dp K H v (.int i)) : v = .int i := by cases h; rfl
theorem dp_str {v : V} {i : Str} (h : Dp K H v (.str i)) : v = .str i := by cases h; rfl
theorem dp_non {d : PyData} (h : Dp K H .non d) : d = .none := by cases h; rfl
theorem dp_notN {v : V} {d : PyData} (h : Dp K H v d) (hv : v ≠ .non) : d ≠ .none := by
  intro e
  subst e
  cases h
  exact hv rfl
/-- no dicts in it -/
def tyN : PyData → String
  | .none => "NoneType"
  | .bool _ => "bool"
  | .int _ => "int"
  | .str _ => "str"
  | .list _ => "list"
  | .tuple _ => "tuple"
  | .dict _ => "dict"
theorem ty_of {v : V} {d : PyData} (h : Dp K H v d) : TyX K H v (.type (tyN d)) := by
  cases h with
  | non => exact .base .non
  | bl b => exact .base (.bl b)
  | int i => exact .base (.int i)
  | str x => exact .base (.str x)
  | lst hs _ =>
    rcases hs with (h | ⟨o, h⟩) | ⟨o, its, n, h1, h2, _⟩
    · exact .base (.lst h)
    · exact .base (.frz h)
    · exact .kList h1 h2
  | tup hs _ =>
    rcases hs with (h | ⟨o, h⟩) | ⟨o, its, n, h1, h2, _⟩
    · exact .base (.tup h)
    · exact .fTuple h
    · exact .kTuple h1 h2
/-- isinstance, of data -/
def isT (n : String) (d : PyData) : Bool := match d with
  | .none => decide (n = "NoneType")
  | .bool _ => decide (n = "bool") || decide (n = "int")
  | .int _ => decide (n = "int")
  | .str _ => decide (n = "str")
  | .list _ => decide (n = "list")
  | .tuple _ => decide (n = "tuple")
  | .dict _ => decide (n = "dict")
theorem rIsi_of {v : V} {d : PyData} {Q : VK} (n : String) (h : Dp K H v d) (hn : ∀ m ∈ ["NoneType", "bool", "int", "str", "list", "tuple", "dict"], kitB m n = some (decide (m = n) || (decide (m = "bool") && decide (n = "int")))) (q : Q (.bl (isT n d)) H) : rIsi K [v, .ty n] H Q := by
  refine ⟨v, .ty n, .type (tyN d), .type n, isT n d, rfl, .ty n, ty_of h, kit_ty ?_, q⟩
  rw [hn (tyN d) (by cases d <;> simp [tyN])]
  cases d <;> simp [tyN, isT, eq_comm]
theorem t_isi {σ : L2.St} {i : Nat} {v : V} {d : PyData} {n : String} {Q : VK} (hσ : σ[i]? = some (some v)) (h : Dp K H v d) (hn : ∀ m ∈ ["NoneType", "bool", "int", "str", "list", "tuple", "dict"], kitB m n = some (decide (m = n) || (decide (m = "bool") && decide (n = "int")))) (q : Q (.bl (isT n d)) H) :
    tCB (rIsi K) (tCons (tVar i) (tCons (tC (.ty n)) tNil)) σ H Q := ⟨v, hσ, rIsi_of n h hn q⟩
theorem kit_int : ∀ m ∈ ["NoneType", "bool", "int", "str", "list", "tuple", "dict"], kitB m "int" = some (decide (m = "int") || (decide (m = "bool") && decide (("int" : String) = "int"))) := by decide +kernel
theorem kit_bool : ∀ m ∈ ["NoneType", "bool", "int", "str", "list", "tuple", "dict"], kitB m "bool" = some (decide (m = "bool") || (decide (m = "bool") && decide (("bool" : String) = "int"))) := by decide +kernel
theorem kit_tuple : ∀ m ∈ ["NoneType", "bool", "int", "str", "list", "tuple", "dict"], kitB m "tuple" = some (decide (m = "tuple") || (decide (m = "bool") && decide (("tuple" : String) = "int"))) := by decide +kernel
theorem kit_list : ∀ m ∈ ["NoneType", "bool", "int", "str", "list", "tuple", "dict"], kitB m "list" = some (decide (m = "list") || (decide (m = "bool") && decide (("list" : String) = "int"))) := by decide +kernel
theorem kit_str : ∀ m ∈ ["NoneType", "bool", "int", "str", "list", "tuple", "dict"], kitB m "str" = some (decide (m = "str") || (decide (m = "bool") && decide (("str" : String) = "int"))) := by decide +kernel
end
/-! ### a def that is called by its name -/
structure Cal1 (P : Program) (w : World) (K : PySem.W.Frag) (mg : Str → Option Value) (base : Heap) (CX : CXT) (x : Str) (ps : List Str) (k : Nat) (sp : Sp) (f : Addr) (fd : FuncData) : Prop where
  F : FnOk P w K mg base CX k f fd ps sp
  m : mg x = some (.ref f)
  kp : PySem.W.keepIn K (.ref f) = true
  b : Binds K fd ps []
def Cal (P : Program) (w : World) (K : PySem.W.Frag) (mg : Str → Option Value) (base : Heap) (CX : CXT) (x : Str) (ps : List Str) (k : Nat) (sp : Sp) : Prop := ∃ f fd, Cal1 P w K mg base CX x ps k sp f fd
section
variable {X : Cx}
theorem pe_cal {ps : List Str} {k : Nat} {sp : Sp} {x : Str} {p pos : Pos} {e : Expr} {es : List Expr} {t : TA} (c : Cal X.prog X.w X.K X.mg X.base CX0 x ps k sp) (hr : Room k X.A) (ha : PA X (e :: es) t) (hg : Gl X x := by rfl) (hdb : (x == ("__debug__" : Str)) = false := by decide)
    (he : starEach (e :: es) X.env = (false, eval e X.env) :: starEach es X.env := by rfl) (hpl : (backTo pos (starEach es X.env)).any (·.1) = false := by rfl) : PE X (.Call (.Name x p) (e :: es) [] pos) (tCall sp [] E0 t) := by
  obtain ⟨f, fd, c⟩ := c
  exact pe_call c.F hr hg c.m c.kp c.b .nil pass0 ha hdb he hpl
theorem pe_cal0 {ps : List Str} {k : Nat} {sp : Sp} {x : Str} {p pos : Pos} (c : Cal X.prog X.w X.K X.mg X.base CX0 x ps k sp) (hr : Room k X.A) (hg : Gl X x := by rfl) (hdb : (x == ("__debug__" : Str)) = false := by decide) : PE X (.Call (.Name x p) [] [] pos) (tCall sp [] E0 tNil) := by
  obtain ⟨f, fd, c⟩ := c
  exact pe_call0 c.F hr hg c.m c.kp c.b .nil pass0 hdb
/-- .. that may raise -/
theorem pe_calX {ps : List Str} {k : Nat} {sp : Sp} {x : Str} {p pos : Pos} {e : Expr} {es : List Expr} {t : TA} {E : XK} (c : Cal X.prog X.w X.K X.mg X.base (L2.CX X.prog X.w) x ps k sp) (hr : Room k X.A) (hx : Passes (L2.CX X.prog X.w) X E) (ha : PA X (e :: es) t) (hg : Gl X x := by rfl) (hdb : (x == ("__debug__" : Str)) = false := by decide)
    (he : starEach (e :: es) X.env = (false, eval e X.env) :: starEach es X.env := by rfl) (hpl : (backTo pos (starEach es X.env)).any (·.1) = false := by rfl) : PE X (.Call (.Name x p) (e :: es) [] pos) (tCall sp [] E t) := by
  obtain ⟨f, fd, c⟩ := c
  exact pe_call c.F hr hg c.m c.kp c.b .nil hx ha hdb he hpl
theorem pe_no {e : Expr} : PE X e (fun _ _ _ => False) := ⟨fun _ _ _ _ _ _ h => h.elim⟩
end
/-- a def whose code object is known -/
structure FunC (K : PySem.W.Frag) (x qual : Str) (st : Stmt) (f : Addr) (fd : FuncData) (c : Addr) : Prop where
  ex : ∃ (oc : Value) (od : Option Addr) (kV doc pm : Value) (an : Option Addr) (ct : Value) (osl : Array (Option Value)),
    fd = PySem.W.fnOf x qual (defArgs st) (defBody st) (defScope st) .none kV doc pm an (.ref c) ct ∧ K.lookup f = some ⟨oc, od, .func fd, osl⟩ ∧ PySem.W.codeIn K (.ref c) qual = true
  kp : PySem.W.keepIn K (.ref f) = true
theorem FunC.toFun {K : PySem.W.Frag} {x qual : Str} {st : Stmt} {f : Addr} {fd : FuncData} {c : Addr} (F : FunC K x qual st f fd c) : Fun K x qual st f fd := by
  obtain ⟨oc, od, kV, doc, pm, an, ct, osl, e, l, q⟩ := F.ex
  exact ⟨⟨oc, od, kV, doc, pm, an, .ref c, ct, osl, e, l, q⟩, F.kp⟩
theorem FunC.ok {P : Program} {w : World} {K : PySem.W.Frag} {mg : Str → Option Value} {base : Heap} {x qual : Str} {st : Stmt} {f : Addr} {fd : FuncData} {c : Addr} {N ps : List Str} {k : Nat} {sp : Sp} (F : FunC K x qual st f fd c) (S : FnScope N ps (defScope st)) (len : ∀ vs H Q E, sp vs H Q E → vs.length = ps.length)
    (hbody : ∀ (A : Around) (outer : List Env) (s : Shared) (H : Hp) (vs : List V) (Q : VK) (E : XK), Room k (A.deeper (envOfC qual (defScope st) s.heap.objs.size f (.ref c))) → sp vs H Q E →
      ∃ t, PSs (cxOf CX0 P w K mg base N qual (defScope st) f (.ref c) A outer s H E).nox (defBody st) t ∧ t { nx := fun _ H' => Q .non H', rt := Q } (start N vs) H) : FnOk P w K mg base CX0 (k + 1) f fd ps sp := by
  obtain ⟨oc, od, kV, doc, pm, an, ct, osl, rfl, lk, hcd⟩ := F.ex
  refine fn_of lk hcd S len fun A outer s H vs Q E hr hsp => ?_
  obtain ⟨t, h, q⟩ := hbody A outer s H vs Q E hr hsp
  exact ⟨t, h.nox, q⟩
end GX
/-! the program's forms as plain functions over data -/
namespace GX
open PySem PySem.Spec PyProof.Rows L2 LamX
def isNum : PyData → Int → Int → Bool
  | .int i, lo, hi => decide (lo ≤ i) && decide (i ≤ hi)
  | _, _, _ => false
def isTup : PyData → Int → Bool
  | .tuple ds, n => decide ((ds.length : Int) = n)
  | _, _ => false
def isNext : PyData → Bool
  | .none => true
  | .tuple [a, b] => isNum a 0 11 && isNum b 0 7
  | _ => false
def holds : List PyData → Int → Bool
  | [_, t, b, s, n], least => isNum t 0 99 && isNum b 0 24 && (match b with | .int bi => isNum s least (24 - bi) | _ => false) && isNext n
  | _, _ => false
def isSlot : PyData → Bool
  | .tuple (w :: r) => if PyData.eqv w (.str "free") = true then (match r with | [t] => isNum t 0 100 | _ => false) else if PyData.eqv w (.str "row") = true then holds (w :: r) 0 else PyData.eqv w (.str "part") && holds (w :: r) 1
  | _ => false
def isFrame : PyData → Bool
  | .tuple [.tuple s, .tuple c] => decide (s.length = 8) && decide (c.length = 24) && c.all fun x => isNum x 0 99
  | _ => false
def isPage : PyData → Bool
  | .tuple [.tuple s, .tuple c] => isFrame (.tuple [.tuple s, .tuple c]) && s.all isSlot
  | _ => false
def freeD (t : Int) : PyData := .tuple [.str "free", .int t]
def freshD : PyData := .tuple [.tuple (List.replicate 8 (freeD 0)), .tuple (List.replicate 24 (.int 0))]
theorem isTup_dec {xs : List V} {ds : List PyData} {n : Int} (h : xs.length = ds.length) : isTup (.tuple ds) n = decide (V.int (xs.length : Int) = V.int n) := by
  rw [dec_int, h]
  show decide _ = _
  by_cases e : ((ds.length : Nat) : Int) = n
  · simp [e]
  · simp [e]
theorem isTup2 {d : PyData} (h : isTup d 2 = true) : ∃ x y, d = .tuple [x, y] := by
  match d, h with
  | .tuple [x, y], _ => exact ⟨x, y, rfl⟩
  | .tuple [], h => simp [isTup] at h
  | .tuple [_], h => simp [isTup] at h
  | .tuple (_ :: _ :: _ :: r), h => simp [isTup] at h; omega
theorem isNext_no {d : PyData} (hn : d ≠ .none) (h : isTup d 2 = false) : isNext d = false := by
  match d, hn, h with
  | .none, hn, _ => exact absurd rfl hn
  | .tuple [x, y], _, h => simp [isTup] at h
  | .tuple [], _, _ => rfl
  | .tuple [_], _, _ => rfl
  | .tuple (_ :: _ :: _ :: r), _, _ => rfl
  | .int _, _, _ => rfl
  | .bool _, _, _ => rfl
  | .str _, _, _ => rfl
  | .list _, _, _ => rfl
  | .dict _, _, _ => rfl
theorem len5 {ds : List PyData} (h : ds.length = 5) : ∃ a b c d e, ds = [a, b, c, d, e] := by
  match ds, h with
  | [a, b, c, d, e], _ => exact ⟨a, b, c, d, e, rfl⟩
theorem holds_no {ds : List PyData} {least : Int} (h : ¬ ds.length = 5) : holds ds least = false := by
  unfold holds
  split
  · exact absurd rfl h
  · rfl
theorem isT_tuple {d : PyData} (h : isT "tuple" d = true) : ∃ ds, d = .tuple ds := by
  cases d with
  | tuple ds => exact ⟨ds, rfl⟩
  | _ => exact absurd h (by simp [isT])
theorem isSlot_no {d : PyData} (h : isT "tuple" d = false) : isSlot d = false := by
  cases d with
  | tuple ds => exact absurd h (by simp [isT])
  | _ => rfl
theorem isSlot_free {d0 : PyData} {r : List PyData} (e : PyData.eqv d0 (.str "free") = true) (h : ∀ d1, r ≠ [d1]) : isSlot (.tuple (d0 :: r)) = false := by
  match r, h with
  | [], _ => simp [isSlot, e]
  | [d1], h => exact absurd rfl (h d1)
  | _ :: _ :: _, _ => simp [isSlot, e]
theorem isTupN {d : PyData} {n : Nat} (h : isTup d n = true) : ∃ ds, d = .tuple ds ∧ ds.length = n := by
  match d, h with
  | .tuple ds, h => exact ⟨ds, rfl, by have := of_decide_eq_true h; omega⟩
theorem isFrame_no {d : PyData} (h : isTup d 2 = false) : isFrame d = false := by
  unfold isFrame
  split
  · simp [isTup] at h
  · rfl
theorem isFrame_no1 {x y : PyData} (h : isTup x 8 = false) : isFrame (.tuple [x, y]) = false := by
  unfold isFrame
  split
  · rename_i s c e
    injection e with e
    injection e with e1 e2
    subst e1
    have h' : ¬ ((s.length : Nat) : Int) = 8 := by simpa [isTup] using h
    have : ¬ s.length = 8 := by omega
    simp [this]
  · rfl
theorem isFrame_no2 {x y : PyData} (h : isTup y 24 = false) : isFrame (.tuple [x, y]) = false := by
  unfold isFrame
  split
  · rename_i s c e
    injection e with e
    injection e with e1 e2
    injection e2 with e2 e3
    subst e2
    have h' : ¬ ((c.length : Nat) : Int) = 24 := by simpa [isTup] using h
    have : ¬ c.length = 24 := by omega
    simp [this]
  · rfl
theorem isFrame_shape {d : PyData} (h : isFrame d = true) : ∃ s c, d = .tuple [.tuple s, .tuple c] := by
  unfold isFrame at h
  split at h
  · exact ⟨_, _, rfl⟩
  · cases h
theorem isPage_no {d : PyData} (h : isFrame d = false) : isPage d = false := by
  unfold isPage
  split
  · rw [h]; rfl
  · rfl
theorem isNum_int {d : PyData} {lo hi : Int} (h : isNum d lo hi = true) : ∃ i, d = .int i ∧ lo ≤ i ∧ i ≤ hi := by
  match d, h with
  | .int i, h => exact ⟨i, rfl, by simpa [isNum] using h⟩
theorem shaped_mem {xs : List PyData} {x : PyData} (h : SeqAt.shaped (.tuple xs) = true) (hx : x ∈ xs) : SeqAt.shaped x = true := by
  have h1 := SeqAt.canLay_of_shaped h
  have h2 := SeqAt.depth_of_shaped h
  have h3 : PyData.canLayAll0 xs = true := by simpa only [PyData.canLay0] using h1
  have h4 : PyData.depthAll xs + 1 ≤ 64 := by simpa only [PyData.depth] using h2
  have h5 := PyData.depth_le_depthAll xs x hx
  unfold SeqAt.shaped
  rw [PyData.canLay0_of_mem xs x h3 hx]
  exact decide_eq_true (by omega)
theorem shaped_str (x : Str) (h : PyData.canLay0 (.str x) = true) : SeqAt.shaped (.str x) = true := by
  unfold SeqAt.shaped
  rw [h]
  exact decide_eq_true (by show 0 ≤ 64; omega)
theorem sh_free : SeqAt.shaped (.str "free") = true := by decide +kernel
theorem sh_row : SeqAt.shaped (.str "row") = true := by decide +kernel
theorem sh_part : SeqAt.shaped (.str "part") = true := by decide +kernel
/-! ### promises -/
def spNum (K : PySem.W.Frag) : Sp := fun vs H Q _ => ∃ v d lo hi, vs = [v, .int lo, .int hi] ∧ Dp K H v d ∧ Q (.bl (isNum d lo hi)) H
def spTup (K : PySem.W.Frag) : Sp := fun vs H Q _ => ∃ v d n, vs = [v, .int n] ∧ Dp K H v d ∧ Q (.bl (isTup d n)) H
def spNext (K : PySem.W.Frag) : Sp := fun vs H Q _ => ∃ v d, vs = [v] ∧ Dp K H v d ∧ Q (.bl (isNext d)) H
def spHolds (K : PySem.W.Frag) : Sp := fun vs H Q _ => ∃ v ds least, vs = [v, .int least] ∧ Dp K H v (.tuple ds) ∧ Q (.bl (holds ds least)) H
def spSlot (K : PySem.W.Frag) : Sp := fun vs H Q _ => ∃ v d, vs = [v] ∧ Dp K H v d ∧ SeqAt.shaped d = true ∧ Q (.bl (isSlot d)) H
def valsB (ds : List PyData) : Bool := ds.all fun z => isNum z 0 99
def isCells : PyData → Bool
  | .tuple ds => decide (ds.length = 24) && valsB ds
  | _ => false
def spVals (K : PySem.W.Frag) (T : List (Addr × Str)) (P : Addr) : Sp := fun vs H Q _ => ∃ v d ds, vs = [v] ∧ Dp K H v d ∧ (d = .list ds ∨ d = .tuple ds) ∧ GxR.TabG H P ∧ ∀ H', XX T H H' → Q (.bl (valsB ds)) H'
def spCells (K : PySem.W.Frag) (T : List (Addr × Str)) (P : Addr) : Sp := fun vs H Q _ => ∃ v d, vs = [v] ∧ Dp K H v d ∧ GxR.TabG H P ∧ ∀ H', XX T H H' → Q (.bl (isCells d)) H'
def spFrame (K : PySem.W.Frag) (T : List (Addr × Str)) (P : Addr) : Sp := fun vs H Q _ => ∃ v d, vs = [v] ∧ Dp K H v d ∧ GxR.TabG H P ∧ ∀ H', XX T H H' → Q (.bl (isFrame d)) H'
def spPage (K : PySem.W.Frag) (T : List (Addr × Str)) (P1 P2 : Addr) : Sp := fun vs H Q _ => ∃ v d, vs = [v] ∧ Dp K H v d ∧ SeqAt.shaped d = true ∧ GxR.TabG H P1 ∧ GxR.TabG H P2 ∧ ∀ H', XX T H H' → Q (.bl (isPage d)) H'
def spFresh (K : PySem.W.Frag) (T : List (Addr × Str)) : Sp := fun vs H Q _ => vs = [] ∧ ∀ H' v, XX T H H' → Dp K H' v freshD → Q v H'
/-- the numbers of the module forms -/
structure CoF (mg : Str → Option Value) : Prop where
  slots : ∃ t, mg "SLOTS" = some (.int 8 t)
  cells : ∃ t, mg "CELLS" = some (.int 24 t)
  most : ∃ t, mg "MOST_PAGES" = some (.int 12 t)
  cell : ∃ t, mg "GREATEST_CELL" = some (.int 99 t)
  turn : ∃ t, mg "GREATEST_TURN" = some (.int 99 t)
  spent : ∃ t, mg "SPENT_TURN" = some (.int 100 t)
/-- built-in names that the program does not bind -/
structure Blt (mg : Str → Option Value) : Prop where
  isi : mg "isinstance" = none
  len : mg "len" = none
  all : mg "all" = none
  int : mg "int" = none
  bool : mg "bool" = none
  tuple : mg "tuple" = none
  list : mg "list" = none
  range : mg "range" = none
section
variable {X : Cx}
theorem pe_const {x : Str} {n : Int} {pos : Pos} (h : ∃ t, X.mg x = some (.int n t)) (hg : Gl X x := by rfl) (hd : (x == ("__debug__" : Str)) = false := by decide) : PE X (.Name x pos) (tC (.int n)) := by
  obtain ⟨t, h⟩ := h
  exact pe_glob hg h ⟨t, rfl⟩ hd
end
theorem k_isi : bootBuiltins "isinstance" = some (.builtin "isinstance") := by decide +kernel
end GX
namespace GX
open PySem PySem.Spec PyProof.Rows L2 LamX
def gsB (N Ng : List Str) (sc scope : Scope) (x : Str) (cap : List Nat) : Bool :=
  decide (scope.kind = .function) && !scope.isCoroutine && (scope.names.all fun y => !decide (y.2 = .cell)) && decide (scope.names.lookup (".0" : Str) = some .local) && decide (scope.names.lookup x = some .local) &&
    (scope.names.all fun y => !decide (y.2 = .free) || decide (sc.names.lookup y.1 = some .cell) || decide (sc.names.lookup y.1 = some .free)) && decide Ng.Nodup && decide (Ng[0]? = some x) && decide (Ng.length = cap.length + 1) &&
    (List.range cap.length).all fun j => match Ng[j + 1]?, cap[j]? with
      | some y, some i => decide (scope.names.lookup y = some .free) && decide (N[i]? = some y)
      | _, _ => false
theorem gs_by {N Ng : List Str} {sc scope : Scope} {x : Str} {cap : List Nat} (h : gsB N Ng sc scope x cap = true) : GS N Ng sc scope x cap := by
  unfold gsB at h
  simp only [Bool.and_eq_true, Bool.or_eq_true, Bool.not_eq_true', decide_eq_true_eq, decide_eq_false_iff_not, List.all_eq_true] at h
  obtain ⟨⟨⟨⟨⟨⟨⟨⟨⟨h1, h2⟩, h3⟩, h4⟩, h5⟩, h6⟩, h7⟩, h8⟩, h9⟩, h10⟩ := h
  refine ⟨h1, h2, fun y hy => h3 y hy, h4, h5, fun y hy e => ?_, h7, h8, fun j y e => ?_, h9⟩
  · rcases h6 y hy with (z | z) | z
    · exact absurd e z
    · exact .inl z
    · exact .inr z
  · have hj : j < cap.length := by
      have := (List.getElem?_eq_some_iff.mp e).1
      omega
    have q := h10 j (List.mem_range.mpr hj)
    rw [e, List.getElem?_eq_getElem hj] at q
    simp only [Bool.and_eq_true, decide_eq_true_eq] at q
    exact ⟨q.1, cap[j], List.getElem?_eq_getElem hj, q.2⟩
section
variable {K : PySem.W.Frag} {T : List (Addr × Str)} {H : Hp} {σ : L2.St} {cap : List Nat} {te : TE} {Q : VK} {P : Addr}
theorem all_take {α : Type} (g : α → Bool) : ∀ (l : List α) (i : Nat) (x : α), l[i]? = some x → (l.take (i + 1)).all g = ((l.take i).all g && g x)
  | [], i, x, h => by simp at h
  | a :: l, 0, x, h => by simp at h; subst h; simp
  | a :: l, i + 1, x, h => by
    have ih := all_take g l i x (by simpa using h)
    rw [List.take_succ_cons, List.all_cons, ih, List.take_succ_cons, List.all_cons, Bool.and_assoc]
theorem all_no {α : Type} (g : α → Bool) {l : List α} {x : α} (hx : x ∈ l) (h : g x = false) : l.all g = false := by
  rw [Bool.eq_false_iff]
  intro z
  have := List.all_eq_true.mp z x hx
  rw [h] at this
  cases this
/-- what is asked of a walk over data, in a tuple -/
theorem all_dpT {a : Addr} {xs : List V} {ds : List PyData} {g : PyData → Bool} (hS : SqT K H a xs) (hd : DpAll K H xs ds)
    (hel : ∀ (d : PyData) (v : V) (H' : Hp) (W : VK), d ∈ ds → Dp K H' v d → XX T H H' → (∀ H2, XX T H' H2 → W (.bl (g d)) H2) → te ((gSt σ cap).set 0 (some v)) H' W) (k : ∀ H', XX T H H' → Q (.bl (ds.all g)) H') :
    ∃ (N : Nat) (Pv : Nat → Hp → Prop), Pv 0 H ∧ Turns (Itt K a) N (gSt σ cap) te Pv (fun i y H => ∃ b, y = .bl b ∧ (b = true → Pv (i + 1) H) ∧ (b = false → Q (.bl false) H)) (fun _ H => Q (.bl true) H) := by
  refine ⟨ds.length, fun i H' => XX T H H' ∧ (ds.take i).all g = true ∧ i ≤ ds.length, ⟨XX.refl H, by simp, Nat.zero_le _⟩, fun i H' p => ?_⟩
  obtain ⟨x1, x2, x3⟩ := p
  have hl := dpAll_len hd
  by_cases hi : i < ds.length
  · obtain ⟨v, ev, dv⟩ := dpAll_at hd (List.getElem?_eq_getElem hi)
    refine .inr ⟨⟨xs, v, x1.sqT hS, ev⟩, hi, fun v' H'' y => ?_⟩
    obtain ⟨e1, e2⟩ := y
    rw [e1]
    have e3 := e2 xs (x1.sqT hS)
    have e5 : v = v' := Option.some.inj (ev.symm.trans e3)
    rw [e5] at dv
    refine hel ds[i] v' H' _ (List.getElem_mem hi) (Dp.xx x1 _ _ dv) x1 fun H2 x4 => ⟨g ds[i], rfl, fun hb => ⟨x1.trans x4, ?_, hi⟩, fun hb => ?_⟩
    · rw [all_take g ds i _ (List.getElem?_eq_getElem hi), x2, hb]; rfl
    · have := k H2 (x1.trans x4)
      rw [all_no g (List.getElem_mem hi) hb] at this
      exact this
  · refine .inl ⟨⟨xs, x1.sqT hS, by omega⟩, ?_⟩
    have e : ds.take i = ds := List.take_of_length_le (by omega)
    rw [e] at x2
    have := k H' x1
    rw [x2] at this
    exact this
theorem all_dpL {a : Addr} {xs : List V} {ds : List PyData} {g : PyData → Bool} (hS : SqL K H a xs) (hd : DpAll K H xs ds)
    (hel : ∀ (d : PyData) (v : V) (H' : Hp) (W : VK), d ∈ ds → Dp K H' v d → XX T H H' → (∀ H2, XX T H' H2 → W (.bl (g d)) H2) → te ((gSt σ cap).set 0 (some v)) H' W) (k : ∀ H', XX T H H' → Q (.bl (ds.all g)) H') :
    ∃ (N : Nat) (Pv : Nat → Hp → Prop), Pv 0 H ∧ Turns (Itl K a) N (gSt σ cap) te Pv (fun i y H => ∃ b, y = .bl b ∧ (b = true → Pv (i + 1) H) ∧ (b = false → Q (.bl false) H)) (fun _ H => Q (.bl true) H) := by
  refine ⟨ds.length, fun i H' => XX T H H' ∧ (ds.take i).all g = true ∧ i ≤ ds.length, ⟨XX.refl H, by simp, Nat.zero_le _⟩, fun i H' p => ?_⟩
  obtain ⟨x1, x2, x3⟩ := p
  have hl := dpAll_len hd
  by_cases hi : i < ds.length
  · obtain ⟨v, ev, dv⟩ := dpAll_at hd (List.getElem?_eq_getElem hi)
    refine .inr ⟨⟨xs, v, x1.sqL hS, ev⟩, hi, fun v' H'' y => ?_⟩
    obtain ⟨e1, e2⟩ := y
    rw [e1]
    have e3 := e2 xs (x1.sqL hS)
    have e5 : v = v' := Option.some.inj (ev.symm.trans e3)
    rw [e5] at dv
    refine hel ds[i] v' H' _ (List.getElem_mem hi) (Dp.xx x1 _ _ dv) x1 fun H2 x4 => ⟨g ds[i], rfl, fun hb => ⟨x1.trans x4, ?_, hi⟩, fun hb => ?_⟩
    · rw [all_take g ds i _ (List.getElem?_eq_getElem hi), x2, hb]; rfl
    · have := k H2 (x1.trans x4)
      rw [all_no g (List.getElem_mem hi) hb] at this
      exact this
  · refine .inl ⟨⟨xs, x1.sqL hS, by omega⟩, ?_⟩
    have e : ds.take i = ds := List.take_of_length_le (by omega)
    rw [e] at x2
    have := k H' x1
    rw [x2] at this
    exact this
end
end GX
namespace GX
open PySem PySem.Spec PyProof.Rows L2 LamX
/-- all that was known stands but what is at S (lists, dicts, instances); tables may have grown -/
structure XM (T : List (Addr × Str)) (S : Addr → Prop) (H H' : Hp) : Prop where
  keep : ∀ b o, H b = some o → ¬ S b → (∀ ps, o ≠ .tbl ps) → H' b = some o
  there : ∀ b o, H b = some o → ∃ o', H' b = some o'
  tup : ∀ b xs, H b = some (.tup xs) → H' b = some (.tup xs)
  frz : ∀ b o u, H b = some (.frz o u) → H' b = some (.frz o u)
  tabG : ∀ p, GxR.TabG H p → GxR.TabG H' p
  tabs : Tabs T H → Tabs T H'
/-- what may be changed -/
def MutO : HO → Prop
  | .lst _ => True
  | .dK _ => True
  | .dT _ => True
  | .ins _ _ _ => True
  | _ => False
section
variable {T : List (Addr × Str)} {S S' : Addr → Prop} {H H1 H2 : Hp} {K : PySem.W.Frag}
theorem XX.xm (a : XX T H H1) : XM T S H H1 := ⟨fun b o e _ n => a.keep b o e n, fun _ _ e => a.there e, fun _ _ e => a.tup e, fun _ _ _ e => a.keep _ _ e (fun ps z => by cases z), a.tabG, a.tabs⟩
theorem XM.refl (H : Hp) : XM T S H H := (XX.refl H).xm
theorem XM.trans (a : XM T S H H1) (b : XM T S H1 H2) : XM T S H H2 :=
  ⟨fun c o e n t => b.keep c o (a.keep c o e n t) n t, fun c o e => by obtain ⟨o', e'⟩ := a.there c o e; exact b.there c o' e', fun c xs e => b.tup c xs (a.tup c xs e), fun c o u e => b.frz c o u (a.frz c o u e), fun p h => b.tabG p (a.tabG p h), fun h => b.tabs (a.tabs h)⟩
theorem XM.mono (a : XM T S H H1) (h : ∀ b, S b → S' b) : XM T S' H H1 := ⟨fun b o e n t => a.keep b o e (fun z => n (h b z)) t, a.there, a.tup, a.frz, a.tabG, a.tabs⟩
theorem XM.upd {p : Addr} {o o' : HO} (hp : H p = some o) (hS : S p) (m : MutO o) : XM T S H (upd H p o') := by
  have ne : ∀ {b u}, H b = some u → ¬ MutO u → b ≠ p := fun {b u} e n z => by rw [z, hp] at e; cases e; exact n m
  refine ⟨fun b u e n _ => ?_, fun b u e => ?_, fun b xs e => ?_, fun b ob u e => ?_, fun q h => ?_, fun h q hq => ?_⟩
  · rw [upd_ne (fun z => n (by rw [z]; exact hS))]; exact e
  · by_cases hb : b = p
    · exact ⟨o', by rw [hb, upd_same]⟩
    · exact ⟨u, by rw [upd_ne hb]; exact e⟩
  · rw [upd_ne (ne e fun z => z)]; exact e
  · rw [upd_ne (ne e fun z => z)]; exact e
  · obtain ⟨ps, h1, h2⟩ := h
    exact ⟨ps, by rw [upd_ne (ne h1 fun z => z)]; exact h1, h2⟩
  · obtain ⟨ps, h1, h2, h3⟩ := h q hq
    refine ⟨ps, by rw [upd_ne (ne h1 fun z => z)]; exact h1, h2, fun pos cv hc => ?_⟩
    obtain ⟨c, e1, e2⟩ := h3 pos cv hc
    exact ⟨c, e1, by rw [upd_ne (ne e2 fun z => z)]; exact e2⟩
theorem XM.then_upd {p : Addr} {o o' : HO} (a : XM T S H H1) (hp : H1 p = some o) (hS : S p) (m : MutO o) : XM T S H (L2.upd H1 p o') := a.trans (XM.upd hp hS m)
theorem XM.then_new {p : Addr} {o : HO} (a : XM T S H H1) (h : H1 p = none) : XM T S H (L2.upd H1 p o) := a.trans (XX.new h).xm
/-- a new thing may be changed: it was not known -/
theorem XM.drop {S0 : Addr → Prop} (a : XM T S H H1) (h : ∀ b, S b → ¬ S0 b → H b = none) : XM T S0 H H1 :=
  ⟨fun b o e n t => a.keep b o e (fun z => by have := h b z n; rw [e] at this; cases this) t, a.there, a.tup, a.frz, a.tabG, a.tabs⟩
theorem XM.xx (a : XM T (fun _ => False) H H1) (ht : ∀ b ps, H b = some (.tbl ps) → ∃ ps', H1 b = some (.tbl ps')) : XX T H H1 := ⟨fun b o e t => a.keep b o e id t, ht, a.tabG, a.tabs⟩
theorem XM.free (a : XM T S H H1) {p : Addr} (h : H1 p = none) : H p = none := by
  cases q : H p with
  | none => rfl
  | some o =>
    obtain ⟨o', q'⟩ := a.there p o q
    rw [h] at q'; cases q'
theorem XM.sqT (a : XM T S H H1) {p : Addr} {xs : List V} (h : SqT K H p xs) : SqT K H1 p xs := by
  rcases h with (h | ⟨o, h⟩) | h
  · exact .inl (.inl (a.tup _ _ h))
  · exact .inl (.inr ⟨o, a.frz _ _ _ h⟩)
  · exact .inr h
theorem XM.lst (a : XM T S H H1) {p : Addr} {xs : List V} (h : H p = some (.lst xs)) (n : ¬ S p) : H1 p = some (.lst xs) := a.keep _ _ h n fun ps z => by cases z
theorem XM.ins (a : XM T S H H1) {p C dx : Addr} {fs : List (Str × V)} (h : H p = some (.ins C dx fs)) (n : ¬ S p) : H1 p = some (.ins C dx fs) := a.keep _ _ h n fun ps z => by cases z
theorem XM.dk (a : XM T S H H1) {p : Addr} {kvs : List (Key × V)} (h : H p = some (.dK kvs)) (n : ¬ S p) : H1 p = some (.dK kvs) := a.keep _ _ h n fun ps z => by cases z
/-! data without lists -/
mutual
def flatD : PyData → Bool
  | .none => true
  | .bool _ => true
  | .int _ => true
  | .str _ => true
  | .tuple ds => flatAll ds
  | .list _ => false
  | .dict _ => false
def flatAll : List PyData → Bool
  | [] => true
  | d :: ds => flatD d && flatAll ds
end
mutual
theorem Dp.xm (a : XM T S H H1) : ∀ (d : PyData) (v : V), flatD d = true → Dp K H v d → Dp K H1 v d
  | .none, _, _, h => by cases h; exact .non
  | .bool _, _, _, h => by cases h; exact .bl _
  | .int _, _, _, h => by cases h; exact .int _
  | .str _, _, _, h => by cases h; exact .str _
  | .list ds, _, f, h => by cases f
  | .tuple ds, _, f, h => by
    cases h with
    | tup hs ha =>
      exact .tup (a.sqT hs) (Dp.xmAll a ds _ f ha)
  | .dict _, _, _, h => by cases h
theorem Dp.xmAll (a : XM T S H H1) : ∀ (ds : List PyData) (vs : List V), flatAll ds = true → DpAll K H vs ds → DpAll K H1 vs ds
  | [], _, _, h => by cases h; exact .nil
  | d :: ds, _, f, h => by
    cases h with
    | cons h1 h2 =>
      have f' := Bool.and_eq_true_iff.mp f
      exact .cons (Dp.xm a d _ f'.1 h1) (Dp.xmAll a ds _ f'.2 h2)
end
end
/-! ### the error classes -/
abbrev veMro : List Value := [.type "ValueError", .type "Exception", .type "BaseException", .type "object"]
structure ErrC (K : PySem.W.Frag) (mg : Str → Option Value) (x : Str) (C : Addr) : Prop where
  g : mg x = some (.ref C)
  x : PySem.W.excIn K C veMro "ValueError.__new__" = true
  k : PySem.W.keepIn K (.ref C) = true
  s : PySem.W.subIn K (.ref C) (.type "BaseException") = some true
  t : PySem.W.typeIn K (.ref C) = some (.type "type")
section
variable {X : Cx}
theorem pmk_err {x m : Str} {j : Nat} {p p2 pos : Pos} {C : Addr} (e : ErrC X.K X.mg x C) (hg : Gl X x := by rfl) (hdb : (x == ("__debug__" : Str)) = false := by decide) : PMk X (.Call (.Name x p) [.Constant (.str m) j p2] [] pos) (fun _ H Q => Q (.ref C) none H) :=
  pmk_own PySem.F.excBase_ValueError e.x e.g e.k (raises_own e.s e.t) hg hdb
end
/-! ### a method that is called -/
structure Met1 (P : Program) (w : World) (K : PySem.W.Frag) (mg : Str → Option Value) (base : Heap) (CX : CXT) (C : Addr) (m : Str) (ps : List Str) (k : Nat) (sp : Sp) (f : Addr) (fd : FuncData) : Prop where
  F : FnOk P w K mg base CX k f fd ps sp
  m : Meth K C m f
  b : Binds K fd ps []
def Met (P : Program) (w : World) (K : PySem.W.Frag) (mg : Str → Option Value) (base : Heap) (CX : CXT) (C : Addr) (m : Str) (ps : List Str) (k : Nat) (sp : Sp) : Prop := ∃ f fd, Met1 P w K mg base CX C m ps k sp f fd
section
variable {X : Cx} {C : Addr} {m : Str} {ps : List Str} {k : Nat} {sp : Sp} {o e : Expr} {es : List Expr} {ta : TE} {t : TA} {apos pos : Pos} {E : XK} {CX : CXT}
theorem pe_met {pl : Sem Bool} (M : Met X.prog X.w X.K X.mg X.base CX C m ps k sp) (c : Cls X.K C) (hr : Room k X.A) (hx : Passes CX X E) (he : PE X o ta) (ha : PA X (e :: es) t)
    (hst : starEach (e :: es) X.env = (false, eval e X.env) :: starEach es X.env := by rfl) (hpl : (backTo pos (starEach es X.env)).any (·.1) = false := by rfl)
    (ht : eval (.Call (.Attribute o m apos) (e :: es) [] pos) X.env = (do
      let ov ← eval o X.env
      standAt apos.atName
      let (f, first) ← holding [ov] (getMethod ov m pl)
      callWith pos f first (backTo pos (starEach (e :: es) X.env)) (backToKw pos (keywordEach [] X.env))) := by rfl) : PE X (.Call (.Attribute o m apos) (e :: es) [] pos) (tMeth C m sp [] E ta t) := by
  obtain ⟨f, fd, M⟩ := M
  exact pe_meth he c M.m M.F hr M.b .nil hx ha hst hpl ht
end
section
variable {X : Cx} {C : Addr} {m : Str} {ps : List Str} {k : Nat} {sp : Sp} {o : Expr} {ta : TE} {apos pos : Pos} {E : XK} {CX : CXT}
theorem pe_met0 {pl : Sem Bool} (M : Met X.prog X.w X.K X.mg X.base CX C m ps k sp) (c : Cls X.K C) (hr : Room k X.A) (hx : Passes CX X E) (he : PE X o ta)
    (ht : eval (.Call (.Attribute o m apos) [] [] pos) X.env = (do
      let ov ← eval o X.env
      standAt apos.atName
      let (f, first) ← holding [ov] (getMethod ov m pl)
      callWith pos f first (backTo pos (starEach [] X.env)) (backToKw pos (keywordEach [] X.env))) := by rfl) : PE X (.Call (.Attribute o m apos) [] [] pos) (tMeth C m sp [] E ta tNil) := by
  obtain ⟨f, fd, M⟩ := M
  exact pe_meth0 he c M.m M.F hr M.b .nil hx ht
end
theorem passX {X : Cx} {P : Program} {w : World} {E : XK} (hP : P = X.prog := by rfl) (hw : w = X.w := by rfl) (tk : Takes X (fun cls d _ H => E cls d H)) : Passes (L2.CX P w) X E := by
  subst hP
  subst hw
  exact passes_call tk fun _ _ _ _ h => h
end GX
set_option maxHeartbeats 4000000
/-! pairs of whole numbers compared: a > b -/
namespace GX
open PySem PySem.Spec PyProof.Rows L2
def gtI (i j i2 j2 : Int) : Bool := if i = i2 then decide (j2 < j) else decide (i2 < i)
def rGtP (K : PySem.W.Frag) : R2 := fun x y H Q => ∃ (a b : Addr) (i j i2 j2 : Int), x = .ref a ∧ y = .ref b ∧ SqT K H a [.int i, .int j] ∧ SqT K H b [.int i2, .int j2] ∧ Q (.bl (gtI i j i2 j2)) H
section
variable {X : Cx}
theorem op_gtP (hu : X.A.units < cLine) : OpR X (compareOp .Gt) (rGtP X.K) := by
  intro pins s σ H x y v u Q I rx ry h
  obtain ⟨a, b, i, j, i2, j2, rfl, rfl, ha, hb, q⟩ := h
  cases rx
  cases ry
  obtain ⟨its, r1, p1, _⟩ := I.tuple ha
  obtain ⟨its2, r2, p2, _⟩ := I.tuple hb
  obtain ⟨v1, v2, rfl, ⟨t1, rfl⟩, ⟨t2, rfl⟩⟩ := vals2 r1
  obtain ⟨w1, w2, rfl, ⟨t3, rfl⟩, ⟨t4, rfl⟩⟩ := vals2 r2
  have R := Ob.RcOp.tuples_gt (A := X.A) (s := s) (e := fun n => if n = 0 then i == i2 else j == j2) (r := fun n => if n = 0 then decide (i > i2) else decide (j > j2)) p1 p2 hu (fun n h1 h2 => by
    match n, h1, h2 with
    | 0, _, _ => exact SeqAt.EqAt.int_int _ _ _ _
    | 1, _, _ => exact SeqAt.EqAt.int_int _ _ _ _
    | n + 2, h1, _ => exact absurd h1 (by simp)) (fun n h1 h2 _ => by
    match n, h1, h2 with
    | 0, _, _ => exact Ob.RcOp.gt_int _ _ _ _
    | 1, _, _ => exact Ob.RcOp.gt_int _ _ _ _
    | n + 2, h1, _ => exact absurd h1 (by simp))
  refine R X.prog X.w X.xe (EP X pins σ Q) ⟨.bl _, H, I, rfl, ?_⟩
  have e : Ob.lexAt (fun n => if n = 0 then i == i2 else j == j2) (fun n => if n = 0 then decide (i > i2) else decide (j > j2)) (decide ((#[Value.int i t1, Value.int j t2] : Array Value).size > (#[Value.int i2 t3, Value.int j2 t4] : Array Value).size)) 0 2 = gtI i j i2 j2 := by
    unfold gtI
    by_cases c : i = i2
    · by_cases d : j = j2
      · subst c; subst d; simp [Ob.lexAt]
      · subst c; simp [Ob.lexAt, d]
    · simp [Ob.lexAt, c]
  exact e ▸ q
end
end GX
/-! enumerate of a tuple; list.extend by a tuple -/
namespace GX
open PySem PySem.Spec PyProof.Rows L2
theorem meets_enum_tup (l : Addr) (items : Array Value) (n : Nat) (dct : Option Addr) (sl : Array (Option Value)) :
    Meets (Builtin.«enumerate.__new__» ⟨[.type "enumerate", .ref l], []⟩) (fun _ R s => s.heap.get? l = some { cls := .type "tuple", dict := dct, data := .seq items n, slots := sl } ∧
      R (.ok (.ret (.ref (s.heap.push { cls := .type "tuple_iterator", data := .fields #[.ref l, .int 0 0] }).objs.size)))
        { s with heap := (s.heap.push { cls := .type "tuple_iterator", data := .fields #[.ref l, .int 0 0] }).push { cls := .type "enumerate", data := .fields #[.none, .bool false, .ref s.heap.objs.size, rawInt 0, .none, .none] } }) :=
  .of_wp fun prog w A R s h => by
    obtain ⟨hp, g, d, tk, os⟩ := s; obtain ⟨hl, h⟩ := h
    have hsub := sub_enumerate
    have hL : Heap.IsTuple (Shared.heap ⟨hp, g, d, tk, os⟩) l items := ⟨_, hl, rfl, n, rfl⟩
    wp_walk using AutoSeq1.wpAny_loadPart' hl
    refine wpAny_stack_any fun st => wpAny_pure ?_
    split
    · rename_i c _ _ _ _ _
      cases (c == Value.type "enumerate")
      · wp_walk using AutoSeq1.wpAny_loadPart' hl, wpAny_pyIter_tuple hL
        exact ⟨_, rfl, h⟩
      · wp_walk using AutoSeq1.wpAny_loadPart' hl, wpAny_pyIter_tuple hL
        exact ⟨_, rfl, h⟩
    · wp_walk using AutoSeq1.wpAny_loadPart' hl, wpAny_pyIter_tuple hL
      exact ⟨_, rfl, h⟩
section
variable {prog : Program} {w : World} {A : Around} {E : Value → Shared → Prop} {s : Shared}
theorem call_enum_tup {l : Addr} {items : Array Value} {Q : Value → Shared → Prop} (hL : s.heap.IsTuple l items)
    (h : ∀ h', IsEnum h' (s.heap.objs.size + 1) s.heap.objs.size 0 .none → h'.IsTupleIter s.heap.objs.size l 0 → h'.objs.size = s.heap.objs.size + 2 →
      (∀ b o, s.heap.get? b = some o → h'.get? b = some o) → Q (.ref (s.heap.objs.size + 1)) { s with heap := h' }) :
    wpAny (model prog w) A (call (.type "enumerate") [.ref l]) Q E s := by
  obtain ⟨⟨c, dct, dt, sl⟩, hl, hc, n, hd⟩ := hL
  replace hc : c = .type "tuple" := hc
  replace hd : dt = .seq items n := hd
  subst hc hd
  refine callType_new F.called_enumerate (by decide) (F.typeCall_enumerate_1 _) (F.newCall_enumerate_1 _) (fun obj => F.args_object_init_2 obj _) F.entry_enumerate_new
    (meets_enum_tup l items n dct sl) ⟨hl, ?_⟩
  have hz : (s.heap.push { cls := .type "tuple_iterator", data := .fields #[.ref l, .int 0 0] }).objs.size = s.heap.objs.size + 1 := Heap.size_push ..
  show _ ∧ _
  rw [hz]
  have he : IsEnum ((s.heap.push { cls := .type "tuple_iterator", data := .fields #[.ref l, .int 0 0] }).push
      { cls := .type "enumerate", data := .fields #[.none, .bool false, .ref s.heap.objs.size, rawInt 0, .none, .none] }) (s.heap.objs.size + 1) s.heap.objs.size 0 .none := by
    have := Heap.get?_push_size (s.heap.push { cls := .type "tuple_iterator", data := .fields #[.ref l, .int 0 0] })
      (o := { cls := .type "enumerate", data := .fields #[.none, .bool false, .ref s.heap.objs.size, rawInt 0, .none, .none] }) rfl
    rw [hz] at this; exact this
  refine ⟨⟨_, he, rfl⟩, h _ he ⟨_, Heap.get?_push_of_some _ (Heap.get?_push_size _ rfl), rfl, rfl⟩ (by rw [Heap.size_push, hz]) fun b o x => Heap.get?_push_of_some _ (Heap.get?_push_of_some _ x)⟩
end
/-- the tuple at a, of n items, each in a new pair -/
def IteT (K : PySem.W.Frag) (a : Addr) (n : Nat) : It :=
  ⟨fun i H => ∃ (xs : List V) (x : V), SqT K H a xs ∧ xs.length = n ∧ xs[i]? = some x, fun i H v H' => ∃ T x, v = .ref T ∧ H T = none ∧ H' = upd H T (.tup [.int (i : Nat), x]) ∧ ∀ xs, SqT K H a xs → xs[i]? = some x, fun i H => ∃ xs : List V, SqT K H a xs ∧ xs.length = n ∧ n ≤ i⟩
theorem turn_enumT {P : Program} {w : World} {K : PySem.W.Frag} {elts : List Expr} {kk : Nat} {tpos : Pos} (a e it : Addr) (n : Nat) :
    Turn P w K (.Tuple elts kk tpos) (IteT K a n) [e, it] e (fun i h => (∃ old, IsEnum h e it ((i : Nat) : Int) old) ∧ h.IsTupleIter it a i ∧ e ≠ it ∧ a ≠ it ∧ a ≠ e ∧ i ≤ n) where
  mem := by simp
  obj := fun i h st b hb => by
    obtain ⟨⟨old, he⟩, ⟨o, ho, hc, hd⟩, _⟩ := st
    have e' : b = e ∨ b = it := by simpa using hb
    rcases e' with z | z
    · rw [z]; exact ⟨_, he, fun v q => nomatch q⟩
    · rw [z]; exact ⟨o, ho, fun v q => by rw [hd] at q; cases q⟩
  keep := fun i h h' st k => let ⟨⟨old, he⟩, hi, hne⟩ := st; ⟨⟨old, k e (by simp) _ he⟩, hi.at fun o q => k it (by simp) o q, hne⟩
  item := by
    intro X hP hw hK hc i pins s σ H E I hf st hg
    subst hP hw hK
    obtain ⟨⟨old, he⟩, hit, hne, hai, hae, hin⟩ := st
    obtain ⟨xs, x, hq, hln, hx⟩ := hg
    obtain ⟨its, rv, p, hz⟩ := I.tuple hq
    obtain ⟨u, hu, ru⟩ := rv.get hx
    have hel : e < s.heap.objs.size := Heap.lt_size he
    have hil : it < s.heap.objs.size := by obtain ⟨_, q, _⟩ := hit; exact Heap.lt_size q
    have hi : i < its.toArray.size := by
      rw [List.size_toArray]; exact (List.getElem?_eq_some_iff.mp hu).1
    have hhd : X.A.in1.in1.handled = none := I.ok.hd hc
    refine wpAny_pyNext_enum_itemC (Draws.tuple (prog := X.prog) (w := X.w) (A := X.A.in1) hhd it a hai its.toArray) he ⟨hit, p⟩ hi hne (by simp; exact ⟨hne, fun z => hae z.symm⟩) fun y h' tk hy ho hst' hT hsz hk => ?_
    have ey : y = u := by
      rw [List.getElem?_toArray, hu] at hy
      exact (Option.some.inj hy).symm
    subst ey
    obtain ⟨hit', _⟩ := hst'
    refine ⟨_, rfl, wpAny_letOwnedTupleGo_enum (s := { s with heap := h', toks := tk + 1 }) ho fun h'' he' sb => ?_⟩
    have hT2 : h''.get? s.heap.objs.size = some { cls := .type "tuple", data := .seq #[.int i tk, y] } := (sb.2 _ (Nat.ne_of_gt hel)).trans hT
    have new : ObjOk X.prog X.w (upd H s.heap.objs.size (.tup [.int (i : Nat), x])) h'' s.heap.objs.size (.tup [.int (i : Nat), x]) :=
      ⟨by show 2 ≤ sizeLine; decide, [.int i tk, y], .cons ⟨_, rfl⟩ (.cons ru .nil), ⟨_, hT2, rfl, _, rfl⟩⟩
    have I1 : Inv X pins σ (upd H s.heap.objs.size (.tup [.int (i : Nat), x])) { s with heap := h'', toks := tk + 1 } :=
      I.turnedNew (ch := [e, it]) (fun b ob hb q => (sb.2 b (fun z => hb (by simp [z]))).trans (hk b ob (fun z => hb (by simp [z])) (fun z => hb (by simp [z])) q)) hf (Nat.le_refl _) new
    refine ⟨.ref s.heap.objs.size, _, I1, rfl, ⟨_, x, rfl, I.hok.fresh (Nat.le_refl _), rfl, fun ys hy => by rw [I.tuple_inj hy hq]; exact hx⟩, ⟨⟨y, ?_⟩, hit'.at fun o q => (sb.2 it (Ne.symm hne)).trans q, hne, hai, hae, ?_⟩, fun b hb => ?_⟩
    · have e1 : ((i + 1 : Nat) : Int) = (i : Int) + 1 := by omega
      rw [e1]; exact he'
    · have := (List.getElem?_eq_some_iff.mp hx).1
      omega
    · have hb' : b < s.heap.objs.size := by
        have e' : b = e ∨ b = it := by simpa using hb
        rcases e' with z | z
        · rw [z]; exact hel
        · rw [z]; exact hil
      rw [upd_ne (Nat.ne_of_lt hb')]
      exact (hf b hb).1
  done := by
    intro X hP hw hK hc i pins s σ H E I hf st hg
    subst hP hw hK
    obtain ⟨⟨old, he⟩, hit, hne, hai, hae, hin⟩ := st
    obtain ⟨xs, hq, hln, hx⟩ := hg
    obtain ⟨its, rv, p, hz⟩ := I.tuple hq
    obtain ⟨f0, f1, f2, f3, f4, f5⟩ := hf it (by simp)
    have hl := rv.length
    have ei : i = its.toArray.size := by rw [List.size_toArray]; omega
    subst ei
    have hhd : X.A.in1.in1.handled = none := I.ok.hd hc
    exact wpAny_pyNext_enum_endD (Draws.tuple (prog := X.prog) (w := X.w) (A := X.A.in1) hhd it a hai its.toArray) he ⟨hit, p⟩ fun h' eb => ⟨rfl, I.turned (t' := s.toks) (fun b o hb q => eb b o hb q) f0 f1 f3 f4 f5⟩
  self := fun A i s Q E st h => let ⟨⟨_, he⟩, _⟩ := st; wpAny_pyIter_enum he h
def iEnumT (K : PySem.W.Frag) (ta : TA) : TI := fun σ H R => ta σ H fun vs H1 => ∃ a xs, vs = [.ref a] ∧ SqT K H1 a xs ∧ R (IteT K a xs.length) H1
theorem pi_enumT {X : Cx} {e : Expr} {ta : TA} {p pos tpos : Pos} {elts : List Expr} {kk : Nat} (hg : Gl X "enumerate") (hm : X.mg "enumerate" = none) (ha : PA X [e] ta) (hs : starEach [e] X.env = [(false, eval e X.env)] := by rfl) :
    PI X (.Tuple elts kk tpos) (.Call (.Name "enumerate" p) [e] [] pos) (iEnumT X.K ta) := by
  refine ⟨fun pins s σ H R I h => ?_⟩
  refine Call_ (ld_blt I hg hm boot_enumerate (PyProof.Rows.callWith_type1 (thn (ha.run pos pins s σ H _ I h) fun us s1 ⟨vs, H1, I1, r1, q1⟩ => ?_) hs rfl))
  obtain ⟨a, xs, ex, hq, q⟩ := q1
  subst ex
  cases r1 with
  | cons r rr =>
    cases rr
    cases r
    obtain ⟨its, rv, p', hz⟩ := I1.tuple hq
    have hal : a < s1.heap.objs.size := by obtain ⟨_, q, _⟩ := p'; exact Heap.lt_size q
    refine call_enum_tup p' fun h' he hit hsz hk => wpAny_pyIter_enum he ?_
    have I2 : Inv X pins σ H1 { s1 with heap := h' } := I1.kept (t' := s1.toks) hk
    refine ⟨s1.heap.objs.size + 1, [s1.heap.objs.size + 1, s1.heap.objs.size], _, _, H1, rfl, I2, turn_enumT a (s1.heap.objs.size + 1) s1.heap.objs.size xs.length, ⟨⟨.none, he⟩, hit, Nat.succ_ne_self _, Nat.ne_of_lt hal, Nat.ne_of_lt (Nat.lt_succ_of_lt hal), Nat.zero_le _⟩, fun b hb => ?_, q⟩
    have e' : b = s1.heap.objs.size + 1 ∨ b = s1.heap.objs.size := by simpa using hb
    have hle : s1.heap.objs.size ≤ b := by
      rcases e' with z | z
      · rw [z]; exact Nat.le_add_right _ _
      · rw [z]; exact Nat.le_refl _
    exact I1.fpOk hle (I1.hok.fresh hle)
theorem ext_list_tup (l : Addr) (items : Array Value) (n : Nat) (b : Addr) (items2 : Array Value) (n2 : Nat) (d2 : Option Addr) (sl2 : Array (Option Value)) (hs0 : ¬(!items.isEmpty && Builtin.List.listTooLong (items.size + items2.size)) = true) (hs1 : items.size ≤ sizeLine) (hs2 : items.size + items2.size ≤ sizeLine + 1) :
    Meets (Builtin.«list.extend» ⟨[.ref l, .ref b], []⟩) (fun _ R s => s.heap.get? l = some { cls := .type "list", dict := none, data := .seq items n, slots := #[] } ∧ s.heap.get? b = some { cls := .type "tuple", dict := d2, data := .seq items2 n2, slots := sl2 } ∧ R (.ok (.ret Value.none)) { s with heap := s.heap.update l (Obj.mapSeq fun x => x ++ items2), toks := s.toks }) :=
  .of_wp fun prog w A R s h => by
    obtain ⟨hp, g, d, tk, os⟩ := s; obtain ⟨hl, hb, h⟩ := h; have f1 := AutoSeq1.idx_int; have f2 := AutoSeq1.sub_tuple_tuple; have f3 := AutoSeq1.sub_list_list; have f4 := AutoSeq1.sub_tuple_list; have f5 := AutoSeq1.sub_list_tuple;
    have hz' : (items ++ items2).size ≤ sizeLine + 1 := by rw [Array.size_append]; exact hs2
    wp_walk using (wpAny_updateSeq hl rfl (hz := hs1) (_hz' := hz')), AutoSeq1.wpAny_loadPart' hl, AutoSeq1.wpAny_loadPart' hb; exact ⟨_, rfl, h⟩
/-- xs.extend(t), t a tuple or a list that is tracked -/
def rExtA (K : PySem.W.Frag) : V → List V → Hp → VK → Prop := fun x vs H Q => ∃ l b xs zs, x = .ref l ∧ vs = [.ref b] ∧ H l = some (.lst xs) ∧ (SqT K H b zs ∨ H b = some (.lst zs)) ∧ xs.length + zs.length ≤ sizeLine ∧ Q .non (upd H l (.lst (xs ++ zs)))
theorem mt_extendA {X : Cx} : MtR X "list.extend" (rExtA X.K) := by
  intro pins s σ H x xs0 v us Q I rx rv h
  obtain ⟨l, b, xs, zs, rfl, rfl, hH, hB, hz, q⟩ := h
  rcases hB with hB | hB
  · cases rx
    cases rv with
    | cons ru rt =>
      cases rt
      cases ru
      obtain ⟨z, its, n, r, hl, e⟩ := I.lstM hH
      obtain ⟨its2, r2, ⟨⟨cls, dd, data, sl⟩, ho, hc, n2, hd⟩, hl2⟩ := I.tuple hB
      simp only at hc hd
      subst hc hd
      have l1 := r.length
      have l2 := r2.length
      have hsz : its.toArray.size + its2.toArray.size ≤ sizeLine := by rw [List.size_toArray, List.size_toArray]; omega
      have hlong : ¬ (!its.toArray.isEmpty && Builtin.List.listTooLong (its.toArray.size + its2.toArray.size)) = true := by
        rw [notLongL hsz, Bool.and_false]
        exact Bool.false_ne_true
      refine call_meets F.slot_list_extend ⟨_, e, rfl⟩ F.entry_list_extend (F.args_list_extend_2 _ _)
        (ext_list_tup l its.toArray n b its2.toArray n2 dd sl hlong (by rw [List.size_toArray]; omega) (by omega)) ⟨e, ho, ?_⟩
      refine ⟨.non, _, I.lset (its' := its ++ its2) hH e (by simp) (r.append r2) ?_, rfl, q⟩
      rw [List.length_append]
      omega
  · exact mt_extend pins s σ H (.ref l) [.ref b] v us Q I rx rv ⟨l, b, xs, zs, rfl, rfl, hH, hB, hz, q⟩
end GX
/-! sorted(xs, key=lambda ..) of ints: the key's call may know the maker's cells -/
namespace GX
open PySem PySem.Spec PyProof.Rows L2 LamX
/-- what a stable sort tells -/
def StSorted (g : Int → Int) (ns out : List Int) : Prop := out.Perm ns ∧ out.Pairwise (fun x y => g x ≤ g y) ∧ ∀ c, out.filter (fun x => g x == c) = ns.filter (fun x => g x == c)
theorem ints_at : ∀ {us : List Value} {ns : List Int} {j : Nat} {x : Value} {n : Int}, IntsAre us ns → us[j]? = some x → ns[j]? = some n → ∃ t, x = .int n t
  | _, _, _, _, _, .nil, h, _ => by simp at h
  | _, _, 0, _, _, .cons n t _, h, h2 => by simp at h h2; subst h h2; exact ⟨t, rfl⟩
  | _, _, j + 1, _, _, .cons n t r, h, h2 => ints_at r (by simpa using h) (by simpa using h2)
section
variable {X : Cx} {pins : List (Addr × Obj)} {σ : L2.St} {H : Hp} {s : Shared}
theorem fpPin {b : Addr} {o : Obj} {H' : Hp} {s' : Shared} (f : FpOk X pins H b) (I : Inv X pins σ H' s') (h0 : H' b = none) (e : s'.heap.get? b = some o) (hc : ∀ v, o.data ≠ .cell v) : s'.heap.get? (b, o).1 = some (b, o).2 ∧ H' (b, o).1 = none ∧ (b, o).1 ≠ X.env.locals ∧ (b, o).1 ∉ X.fs ∧ ∀ v, (b, o).2.data ≠ .cell v :=
  ⟨e, h0, f.2.1, f.2.2.1, hc⟩
omit X pins σ H in
/-- the sort itself: none of the program's code runs -/
theorem end_run {M : Model} {A : Around} {P : PySem.Fin → Shared → Prop} {E : Value → Shared → Prop} {keys : Array Value} {kz : List Int} {us : List Value} {kS a : Addr} {e e1 : Nat} (hM : ∃ prog w, M = model prog w) (hk : IntsAre keys.toList kz) (hn : kz.length = us.length) (hZ : us.length ≤ sizeLine) (hka : kS ≠ a)
    (ek : s.heap.get? kS = some (seqObj "list" keys e)) (ea : s.heap.get? a = some (seqObj "list" #[] e1))
    (h : ∀ (h' : Heap) (out : Array Value) (c : Nat), (∀ b o, b ≠ kS → b ≠ a → s.heap.get? b = some o → h'.get? b = some o) → h'.get? a = some (seqObj "list" out c) → KskOutSt false kz us out.toList → P (.done (.ret .none)) { s with heap := h' }) :
    wpAny M A (ksk_end a false us.toArray e1 (.ref kS) keys) P E s := by
  obtain ⟨prog, w, rfl⟩ := hM
  have big := hZ
  rw [sizeLine_eq] at big
  have ks : keys.size = us.length := by
    have q := hk.length
    rw [Array.length_toList] at q
    exact q.trans hn
  have zs : (keys.zip us.toArray).size = us.length := by rw [Array.size_zip, ks, List.size_toArray, Nat.min_self]
  -- behind the runs
  have last : ∀ st : SortSt, (arrOf st).Perm (keys.zip us.toArray) → SortedTo (arrOf st) (arrOf st).size → failedOf st = none → Stable intKind (arrOf st) (keys.zip us.toArray) → wpAny (model prog w) A (ksk_tail a false e1 (.ref kS) st) P E s := by
    intro st p1 p2 p3 p4
    have c1 := Heap.SameBut.update s.heap kS (Obj.mapSeq fun _ => (#[] : Array Value))
    have ea1 := (c1.2 a hka.symm).trans ea
    have n2 : ((arrOf st).map (·.2)).size = us.length := by rw [Array.size_map, p1.size_eq, zs]
    have c2 := Heap.SameBut.update (s.heap.update kS (Obj.mapSeq fun _ => (#[] : Array Value))) a (Obj.mapSeq fun _ => (arrOf st).map (·.2))
    unfold ksk_tail
    simp only [Bool.false_eq_true, if_false]
    refine wpAny_bind (listUpdate_at ek rfl (wpAny_bind (wpAny_letGo (wpAny_bind (seqEpoch_at ea1 rfl (wpAny_bind (listUpdate_at ea1 rfl ?_ (Nat.zero_le _) (Nat.le_trans (Nat.le_of_eq n2) (by rw [sizeLine_eq]; omega)))))))) (by rw [ks, sizeLine_eq]; omega) (Nat.zero_le _))
    rw [p3]
    simp only [bne_self_eq_false, Bool.false_eq_true, if_false]
    exact wpAny_pure (h _ _ _ (fun b o b1 b2 q => (c2.2 b b2).trans ((c1.2 b b1).trans q)) (get?_update_seq ea1 fun _ => (arrOf st).map (·.2)) (ksk_outSt (b := false) hk p1 p2 p4))
  unfold ksk_end
  simp only [Bool.false_eq_true, if_false]
  by_cases few : us.toArray.size < 2
  · rw [if_pos few, if_pos few]
    refine wpAny_bind (wpAny_pure ?_)
    rw [StateT.run_pure]
    refine wpAny_bind (wpAny_pure (last _ (Array.Perm.refl _) (fun i j ij hj => ?_) rfl (Stable.refl _)))
    have hj2 : j < (keys.zip us.toArray).size := hj
    rw [zs] at hj2
    rw [List.size_toArray] at few
    obtain rfl : i = j := by omega
    exact Int.le_refl _
  · rw [if_neg few, if_neg few]
    rw [List.size_toArray] at few
    rw [ksk_kind hk (by rw [ks]; omega)]
    refine wpAny_bind (wpAny_pure (wpAny_bind (wpAny_mono (wpS_sortRunsSt (κ := intKind) (a₀ := keys.zip us.toArray) (st := SortSt.mk' oneType' (keys.zip us.toArray) #[] 7 none)
      (Q := fun _ st' => (arrOf st').Perm (keys.zip us.toArray) ∧ failedOf st' = none ∧ SortedTo (arrOf st') (arrOf st').size ∧ Stable intKind (arrOf st') (keys.zip us.toArray))
      intKind_oneLt (ksk_keysOfInt (ksk_intKeys hk)) ⟨Array.Perm.refl _, rfl, rfl⟩ rfl (Stable.refl _) (by rw [zs]; omega) fun st' a1 a2 a3 a4 => ⟨a1, a2, by rw [a1.size_eq]; exact sortedTo_of_int a3, a4⟩) ?_ fun _ _ q => q)))
    rintro ⟨⟨⟩, st'⟩ s' ⟨rfl, q1, q2, q3, q4⟩
    exact last st' q1 q3 q2 q4
/-- the keys, one after another -/
theorem keys_run {f : Value} {a kS : Addr} {e1 : Nat} {ns : List Int} {us : List Value} {g : Int → Int} {Gp : Hp → Prop} {P : PySem.Fin → Shared → Prop} {E : Value → Shared → Prop} (hI : IntsAre us ns) (hz : us.length ≤ sizeLine) (hka : kS ≠ a)
    (fk : FpOk X pins H kS) (fa : FpOk X pins H a) (I : Inv X pins σ H s) (hG : Gp H) (ek : s.heap.get? kS = some (seqObj "list" #[] 0)) (ea : s.heap.get? a = some (seqObj "list" #[] e1))
    (turn : ∀ (n : Int) (t : Tok) (pins' : List (Addr × Obj)) (H' : Hp) (s' : Shared), n ∈ ns → Gp H' → Inv X pins' σ H' s' →
      wpAny (model X.prog X.w) X.A.in1.in1 (call f [.int n t]) (fun u s'' => ∃ t' H'', u = .int (g n) t' ∧ Gp H'' ∧ Inv X pins' σ H'' s'') (fun _ _ => False) s')
    (done : ∀ (H' : Hp) (s' : Shared) (out : Array Value) (c : Nat), Gp H' → Inv X pins σ H' s' → s'.heap.get? a = some (seqObj "list" out c) → H' a = none → KskOutSt false (ns.map g) us out.toList → P (.done (.ret .none)) s') :
    wpAny (model X.prog X.w) X.A.in1.in1 (ksk_rest a f false us.toArray e1 (.ref kS)) P E s := by
  have hZ2 := hz
  rw [sizeLine_eq] at hZ2
  unfold ksk_rest
  refine wpAny_bind (wpAny_rule ?_)
  first
    | rw [List.forIn_toArray]
    | (rw [← Array.forIn_toList]; simp only [List.toList_toArray])
    | rw [← Array.forIn_toList]
  have hln := hI.length
  refine wpAny_bind (ksk_fold (fun i s' => ∃ H' kA e, Gp H' ∧ Inv X pins σ H' s' ∧ H' kS = none ∧ H' a = none ∧ s'.heap.get? kS = some (seqObj "list" kA e) ∧ s'.heap.get? a = some (seqObj "list" #[] e1) ∧ IntsAre kA.toList ((ns.map g).take i)) us 0 s
    ⟨H, #[], 0, hG, I, fk.1, fa.1, ek, ea, by simpa using IntsAre.nil⟩ ?step ?done)
  case step =>
    rintro j x s' hx ⟨H', kA, e, hG', I', k0, a0, ek', ea', hk⟩
    simp only [Nat.zero_add] at hk ⊢
    have hj : j < us.length := (List.getElem?_eq_some_iff.mp hx).1
    obtain ⟨n, hn⟩ : ∃ n, ns[j]? = some n := ⟨_, List.getElem?_eq_getElem (by omega)⟩
    obtain ⟨t, et⟩ : ∃ t, x = .int n t := by
      exact ints_at hI hx hn
    subst et
    have hz' : kA.size ≤ us.length := by
      have h1 := hk.length
      rw [Array.length_toList, List.length_take, List.length_map] at h1
      omega
    have Ip : Inv X (pins ++ [(kS, seqObj "list" kA e), (a, seqObj "list" #[] e1)]) σ H' s' := by
      refine I'.pins_of fun p hp => ?_
      rcases List.mem_append.mp hp with hp | hp
      · exact I'.pin p (List.mem_append_right _ hp)
      · rcases List.mem_cons.mp hp with rfl | hp
        · exact fpPin fk I' k0 ek' (fun v z => by cases z)
        · rw [List.mem_singleton.mp hp]
          exact fpPin fa I' a0 ea' (fun v z => by cases z)
    refine wpAny_bind (wpAny_attempt (wpAny_mono (turn n t _ H' s' (List.mem_of_getElem? hn) hG' Ip) (fun v s'' he => ?_) fun _ _ hF => hF.elim))
    obtain ⟨t2, H2, rfl, hG2, I2⟩ := he
    try dsimp only
    obtain ⟨nk, k2, _⟩ := I2.pin (kS, seqObj "list" kA e) (List.mem_append_right _ (List.mem_append_right _ (.head _)))
    obtain ⟨na, a2, _⟩ := I2.pin (a, seqObj "list" #[] e1) (List.mem_append_right _ (List.mem_append_right _ (.tail _ (.head _))))
    have I3 : Inv X pins σ H2 s'' := I2.pins_of fun p hp => I2.pin p (List.mem_append_right _ (List.mem_append_left _ hp))
    have sb := Heap.SameBut.update s''.heap kS (Obj.mapSeq (·.push (.int (g n) t2)))
    obtain ⟨c2, hc2⟩ : ∃ c2, (s''.heap.update kS (Obj.mapSeq (·.push (.int (g n) t2)))).get? kS = some (seqObj "list" (kA.push (.int (g n) t2)) c2) := ⟨_, get?_update_seq nk (·.push (.int (g n) t2))⟩
    have ekk : (ns.map g).take (j + 1) = (ns.map g).take j ++ [g n] := by rw [List.take_add_one, List.getElem?_map, hn]; simp
    have eaa : (kA.push (Value.int (g n) t2)).toList = kA.toList ++ [Value.int (g n) t2] := by simp
    refine wpAny_bind (listUpdate_at nk rfl ?_ (by rw [sizeLine_eq]; omega) (Nat.le_trans (Nat.le_of_eq (Array.size_push ..)) (by rw [sizeLine_eq]; omega)))
    have fk2 : FpOk X pins H2 kS := ⟨k2, fk.2⟩
    have I4 := I3.turnedL (t' := s''.toks) (h' := s''.heap.update kS (Obj.mapSeq (·.push (.int (g n) t2)))) (ch := [kS]) (fun b o hb q => (sb.2 b (fun z => hb (by rw [z]; exact List.mem_singleton.mpr rfl))).trans q) (fun b hb => by rw [List.mem_singleton.mp hb]; exact fk2)
    exact wpAny_pure ⟨rfl, H2, kA.push (.int (g n) t2), c2, hG2, I4, k2, a2, hc2, (sb.2 a (Ne.symm hka)).trans na, by rw [eaa, ekk]; exact ksk_snoc hk⟩
  case done =>
    rintro s' ⟨H', kA, e, hG', I', k0, a0, ek', ea', hk⟩
    have hk' : IntsAre kA.toList (ns.map g) := by
      have e3 : (ns.map g).take (0 + us.length) = ns.map g := List.take_of_length_le (by rw [List.length_map]; omega)
      rw [e3] at hk
      exact hk
    try dsimp only
    refine wpAny_bind (listItems_at ek' rfl ?_)
    refine end_run ⟨X.prog, X.w, rfl⟩ hk' (by rw [List.length_map]; omega) hz hka ek' ea' fun h' out c kp ea2 ko => ?_
    have I4 := I'.turnedL (t' := s'.toks) (h' := h') (ch := [kS, a]) (fun b o hb q => kp b o (fun z => hb (by rw [z]; simp)) (fun z => hb (by rw [z]; simp)) q) (fun b hb => by
        rcases List.mem_cons.mp hb with z | z
        · rw [z]; exact ⟨k0, fk.2⟩
        · rw [List.mem_singleton.mp z]; exact ⟨a0, fa.2⟩)
    exact done H' _ out c hG' I4 ea2 a0 ko
end
end GX
namespace GX
open PySem PySem.Spec PyProof.Rows L2 LamX
section
variable {X : Cx} {pins : List (Addr × Obj)} {σ : L2.St} {H : Hp} {s : Shared}
theorem ints_rel : ∀ {vs : List Value} {ns : List Int}, IntsAre vs ns → Vals (ns.map V.int) vs
  | _, _, .nil => .nil
  | _, _, .cons n t r => .cons ⟨t, rfl⟩ (ints_rel r)
theorem rel_ints : ∀ {vs : List Value} {ns : List Int}, Vals (ns.map V.int) vs → IntsAre vs ns
  | _, [], .nil => .nil
  | _, n :: ns, .cons r t => by obtain ⟨k, rfl⟩ := r; exact .cons n k (rel_ints t)
/-- what KskOutSt tells of ints whose keys are g's -/
theorem st_of {g : Int → Int} {us out : List Value} {ns : List Int} (hi : IntsAre us ns) (h : KskOutSt false (ns.map g) us out) : ∃ ns', IntsAre out ns' ∧ StSorted g ns ns' := by
  obtain ⟨ps, p1, p2, p3, p4⟩ := h
  have zipd : ∀ {us : List Value} {ns : List Int}, IntsAre us ns → ∀ q ∈ (ns.map g).zip us, ∃ n t, q = (g n, Value.int n t) := by
    intro us ns hi
    induction hi with
    | nil => intro q hq; simp at hq
    | cons n t r ih =>
      intro q hq
      rw [List.map_cons, List.zip_cons_cons] at hq
      rcases List.mem_cons.mp hq with z | z
      · exact ⟨n, t, z⟩
      · exact ih q z
  have all : ∀ q ∈ ps, ∃ n t, q = (g n, Value.int n t) := fun q hq => zipd hi q (p1.mem_iff.mp hq)
  let nm : Int × Value → Int := fun q => match q.2 with | .int n _ => n | _ => 0
  have isI : ∀ (l : List (Int × Value)), (∀ q ∈ l, ∃ n t, q = (g n, Value.int n t)) → IntsAre (l.map Prod.snd) (l.map nm) := by
    intro l
    induction l with
    | nil => intro _; exact .nil
    | cons q l ih =>
      intro hq
      obtain ⟨n, t, e⟩ := hq q List.mem_cons_self
      subst e
      exact .cons n t (ih fun q h => hq q (List.mem_cons_of_mem _ h))
  have zn : ∀ {us : List Value} {ns : List Int}, IntsAre us ns → ((ns.map g).zip us).map nm = ns := by
    intro us ns hi
    induction hi with
    | nil => rfl
    | cons n t r ih => rw [List.map_cons, List.zip_cons_cons, List.map_cons, ih]
  have key : ∀ q ∈ ps, q.1 = g (nm q) := fun q hq => by obtain ⟨n, t, e⟩ := all q hq; rw [e]
  refine ⟨ps.map nm, by rw [p2]; exact isI ps all, ?_, ?_, fun c => ?_⟩
  · have := p1.map nm
    rwa [zn hi] at this
  · rw [List.pairwise_map]
    refine List.Pairwise.imp_of_mem (fun {p q} hp hq h => ?_) p3
    rw [← key p hp, ← key q hq]
    simpa using h
  · have q := congrArg (List.map nm) (p4 c)
    rw [List.filter_map]
    have e1 : ps.filter ((fun x => g x == c) ∘ nm) = ps.filter fun p => p.1 == c := List.filter_congr fun p hp => by show (g (nm p) == c) = _; rw [← key p hp]
    rw [e1, q]
    have e2 : ((ns.map g).zip us).filter (fun p => p.1 == c) = ((ns.map g).zip us).filter ((fun x => g x == c) ∘ nm) := List.filter_congr fun p hp => by
      obtain ⟨n, t, e⟩ := zipd hi p hp
      rw [e]
      rfl
    rw [e2, ← List.filter_map, zn hi]
/-- sorted(l, key=f), f's calls told by turn -/
theorem sorted_key {f l : Addr} {ns : List Int} {g : Int → Int} {Gp : Hp → Prop} {Q : VK} (I : Inv X pins σ H s) (hl : SqL X.K H l (ns.map V.int)) (hG : Gp H)
    (turn : ∀ (n : Int) (t : Tok) (pins' : List (Addr × Obj)) (H' : Hp) (s' : Shared), n ∈ ns → Gp H' → Inv X pins' σ H' s' →
      wpAny (model X.prog X.w) X.A.in1.in1 (call (.ref f) [.int n t]) (fun u s'' => ∃ t' H'', u = .int (g n) t' ∧ Gp H'' ∧ Inv X pins' σ H'' s'') (fun _ _ => False) s')
    (q : ∀ (H' : Hp) (ns' : List Int) (p : Addr), Gp H' → StSorted g ns ns' → H' p = none → H p = none → Q (.ref p) (upd H' p (.lst (ns'.map V.int)))) :
    wpAny (model X.prog X.w) X.A (call (.builtin "sorted") [.ref l] [(Str.ofString "key", .ref f)]) (EP X pins σ Q) X.xe s := by
  obtain ⟨us, rv, il, hz⟩ := I.list hl
  have hi := rel_ints rv
  have hzu : us.length ≤ sizeLine := by rw [← rv.length]; exact hz
  have big := hzu
  rw [sizeLine_eq] at big
  refine call_function_entry_kw kind_sorted plain_sorted entry_sorted (ksk_s1 _ _) ?_
  unfold Builtin.«sorted»
  refine wpAny_bind (m := checkCount "sorted" 1 1 _) (wpAny_pure (wpAny_bind (collect_list il.isList (wpAny_bind (wpAny_newList ?_ hzu)) hzu)))
  have n1 : ((s.heap.push (seqObj "list" #[] 0)).update s.heap.objs.size (Obj.mapSeq (· ++ us.toArray))).objs.size = s.heap.objs.size + 1 := by rw [Heap.size_update, size_push']
  generalize hh1 : (s.heap.push (seqObj "list" #[] 0)).update s.heap.objs.size (Obj.mapSeq (· ++ us.toArray)) = h1 at n1 ⊢
  have k1 : ∀ b o, s.heap.get? b = some o → h1.get? b = some o := fun b o e => by
    rw [← hh1, Heap.get?_update_ne _ _ _ _ (Nat.ne_of_lt (Heap.lt_size e))]
    exact Heap.get?_push_of_some _ e
  have oL : (h1.push (seqObj "list" us.toArray 0)).get? (s.heap.objs.size + 1) = some (seqObj "list" us.toArray 0) := by rw [← n1]; exact Heap.get?_push_size _ rfl
  have n2 : (h1.push (seqObj "list" us.toArray 0)).objs.size = s.heap.objs.size + 2 := by rw [size_push', n1]
  have k2 : ∀ b o, s.heap.get? b = some o → (h1.push (seqObj "list" us.toArray 0)).get? b = some o := fun b o e => Heap.get?_push_of_some _ (k1 b o e)
  show wpAny _ _ _ _ _ { s with heap := h1.push (seqObj "list" us.toArray 0) }
  rw [n1]
  generalize h1.push (seqObj "list" us.toArray 0) = h2 at oL n2 k2 ⊢
  refine wpAny_bind (wpAny_holding (wpAny_call_entry_kw slot_list_sort ⟨_, oL, rfl⟩ entry_list_sort ?_ (ksk_l1 _ _)))
  rw [ksk_t1]
  have ha : s.heap.objs.size + 1 < h2.objs.size := by rw [n2]; exact Nat.lt_succ_self _
  have sb := Heap.SameBut.update h2 (s.heap.objs.size + 1) (Obj.mapSeq fun _ => (#[] : Array Value))
  obtain ⟨e1, o1⟩ : ∃ e1, (h2.update (s.heap.objs.size + 1) (Obj.mapSeq fun _ => (#[] : Array Value))).get? (s.heap.objs.size + 1) = some (seqObj "list" #[] e1) := ⟨_, get?_update_seq oL fun _ => #[]⟩
  unfold ksk_tree
  refine wpAny_bind (listItems_at oL rfl (wpAny_bind (listUpdate_at oL rfl (wpAny_bind (seqEpoch_at o1 rfl (wpAny_bind (wpAny_newTuple (wpAny_bind (wpAny_newList (wpAny_holding ?_) (Nat.zero_le _))) (by show us.length ≤ _; rw [sizeLine_eq]; omega))))) (by rw [List.size_toArray, sizeLine_eq]; omega) (Nat.zero_le _))))
  have n3 : ((h2.update (s.heap.objs.size + 1) (Obj.mapSeq fun _ => (#[] : Array Value))).push (seqObj "tuple" us.toArray 0)).objs.size = s.heap.objs.size + 3 := by rw [size_push', Heap.size_update, n2]
  have k3 : ∀ b o, b ≠ s.heap.objs.size + 1 → h2.get? b = some o → ((h2.update (s.heap.objs.size + 1) (Obj.mapSeq fun _ => (#[] : Array Value))).push (seqObj "tuple" us.toArray 0)).get? b = some o := fun b o hb e => Heap.get?_push_of_some _ ((sb.2 b hb).trans e)
  have o3 : ((h2.update (s.heap.objs.size + 1) (Obj.mapSeq fun _ => (#[] : Array Value))).push (seqObj "tuple" us.toArray 0)).get? (s.heap.objs.size + 1) = some (seqObj "list" #[] e1) := Heap.get?_push_of_some _ o1
  show wpAny _ _ _ _ _ { s with heap := ((h2.update (s.heap.objs.size + 1) (Obj.mapSeq fun _ => (#[] : Array Value))).push (seqObj "tuple" us.toArray 0)).push (seqObj "list" #[] 0) }
  generalize hh3 : (h2.update (s.heap.objs.size + 1) (Obj.mapSeq fun _ => (#[] : Array Value))).push (seqObj "tuple" us.toArray 0) = h3 at n3 k3 o3 ⊢
  have old : ∀ b o, s.heap.get? b = some o → (h3.push (seqObj "list" #[] 0)).get? b = some o := fun b o e => Heap.get?_push_of_some _ (k3 b o (Nat.ne_of_lt (Nat.lt_succ_of_lt (Heap.lt_size e))) (k2 b o e))
  have I1 : Inv X pins σ H { s with heap := h3.push (seqObj "list" #[] 0) } := I.kept (t' := s.toks) old
  have fk : FpOk X pins H h3.objs.size := I.fpOk (by rw [n3]; exact Nat.le_add_right _ _) (I.hok.fresh (by rw [n3]; exact Nat.le_add_right _ _))
  have fa : FpOk X pins H (s.heap.objs.size + 1) := I.fpOk (Nat.le_succ _) (I.hok.fresh (Nat.le_succ _))
  refine keys_run (Gp := Gp) (g := g) hi hzu (by rw [n3]; exact Nat.ne_of_gt (Nat.lt_succ_of_lt (Nat.lt_succ_self _))) fk fa I1 hG (Heap.get?_push_size _ rfl) (Heap.get?_push_of_some _ o3) turn fun H' s' out c hG' I' eo a0 ko => ⟨_, rfl, ?_⟩
  obtain ⟨ns', r1, r2⟩ := st_of hi ko
  have hln : (ns'.map V.int).length ≤ sizeLine := by
    rw [List.length_map] at hz ⊢
    rw [r2.1.length_eq]
    exact hz
  have I2 : Inv X pins σ (upd H' (s.heap.objs.size + 1) (.lst (ns'.map V.int))) s' := track I' a0 (Nat.le_trans I.sz (Nat.le_succ _)) fa.2.1 (fun y c e => fa.2.2.2.2.1 y c e) fa.2.2.2.2.2
    ⟨hln, out.toList, c, ints_rel r1, by rw [Array.toArray_toList]; exact eo⟩
  exact wpAny_pure ⟨_, rfl, .ref (s.heap.objs.size + 1), _, I2, rfl, q H' ns' _ hG' r2 a0 fa.1⟩
/-- sorted(e, key=f): f's calls may know the maker's cells -/
def tSortK (X : Cx) (k : Nat) (t tk : TA) : TE := fun σ H Q => t σ H fun vs H1 => tk σ H1 fun zs H2 => ∃ (l f : Addr) (ns : List Int) (g : Int → Int) (Gp : Hp → Prop), vs = [.ref l] ∧ zs = [.ref f] ∧ SqL X.K H2 l (ns.map V.int) ∧ Gp H2 ∧
  (∀ (n : Int) (u : Value) (H' HF : Hp), n ∈ ns → RelV (.int n) u → Gp H' → Frozen X σ H' HF → ∃ ph sp, CallOkV X.prog X.w X.K X.mg X.base k f [u] ph sp ∧ ph HF ∧ sp HF (fun v H'' => v = .int (g n) ∧ Gp (unf (CellOf X) H'')) fun _ _ _ => False) ∧
  ∀ (H' : Hp) (ns' : List Int) (p : Addr), Gp H' → StSorted g ns ns' → H' p = none → H2 p = none → Q (.ref p) (upd H' p (.lst (ns'.map V.int)))
theorem pe_sortK {k : Nat} {t tk : TA} {p pos : Pos} {e kx : Expr} {kpos : Pos} (hr : Room (k + 2) X.A) (hfn : ∀ y, X.fn y = true) (hg : Gl X "sorted") (hm : X.mg "sorted" = none) (hv : bootBuiltins "sorted" = some (.builtin "sorted")) (ha : PA X [e] t) (hk : PK X [⟨some "key", kx, kpos⟩] tk)
    (he : backTo pos (starEach [e] X.env) = (false, eval e X.env) :: backTo pos (starEach [] X.env) := by rfl) (hpl : (backTo pos (starEach [e] X.env)).any (·.1) = false := by rfl)
    (hall : (backToKw pos (keywordEach [⟨some "key", kx, kpos⟩] X.env)).all (·.1.isSome) = true := by rfl) (hnone : (backToKw pos (keywordEach [⟨some "key", kx, kpos⟩] X.env)).any (·.1.isNone) = false := by rfl) (hks : (backToKw pos (keywordEach [⟨some "key", kx, kpos⟩] X.env)).filterMap (·.1) = [Str.ofString "key"] := by rfl) :
    PE X (.Call (.Name "sorted" p) [e] [⟨some "key", kx, kpos⟩] pos) (tSortK X k t tk) := by
  refine ⟨fun pins s σ H Q I h => wpAny_Call_Name_kw (ld_blt I hg hm hv ?_)⟩
  refine PyProof.Rows.callWith_kw (thn (ha.run pos pins s σ H _ I h) fun us s1 ⟨vs, H1, I1, r1, q1⟩ => thn (hk.run pos pins s1 σ H1 _ I1 q1) fun ws s2 ⟨zs, H2, I2, r2, q2⟩ => ?_) he hpl hall hnone
  rw [hks]
  obtain ⟨l, f, ns, g, Gp, rfl, rfl, hl, hG, turn, q⟩ := q2
  obtain rfl := Vals.ref1 r1
  obtain rfl := Vals.ref1 r2
  refine sorted_key I2 hl hG (fun n tn pins' H' s' hn hG' I' => ?_) q
  obtain ⟨HF, z, e0, hz⟩ := freeze I' hfn
  obtain ⟨ph, sp, c, hp, hs⟩ := turn n (.int n tn) H' HF hn ⟨tn, rfl⟩ hG' z
  have e1 : Env0 X.prog X.w X.K X.mg X.base X.A.in1.in1 X.stack s' HF := ⟨e0.frames, e0.mod, e0.bs, e0.bsz, e0.funs, e0.frf, e0.hok, e0.bare⟩
  refine wpAny_call (codeAny_mono (c X.A.in1.in1 X.stack s' HF _ _ (hr.in1.in1) e1 hp hs) fun r s'' hq => ?_)
  cases r with
  | error er =>
    have q := hq
    obtain ⟨_, _, _, _, _, _, _, _, _, _, _, _, hW⟩ := q
    exact hW.elim
  | ok fl =>
    cases fl with
    | ret u =>
      obtain ⟨v, H'', os, bare, un, hok, rv, rfl, qG⟩ := hq
      obtain ⟨t', eu⟩ := rv
      exact ⟨t', _, eu, qG, unfreeze I' z hz os bare un hok⟩
    | next => exact False.elim hq
    | brk => exact False.elim hq
    | cont => exact False.elim hq
end
end GX
/-! slots and pages as plain data; what the page's own defs tell of them -/
namespace GX
open PySem PySem.Spec PyProof.Rows L2 LamX
abbrev Pl := Nat × Nat
inductive Slot where
  | free (t : Nat)
  | held (own : Bool) (t b s : Nat) (n : Option Pl)
structure Page where
  slots : List Slot
  cells : List Nat
def plD (p : Pl) : PyData := .tuple [.int p.1, .int p.2]
def nxD : Option Pl → PyData
  | none => .none
  | some p => plD p
def wordOf (own : Bool) : Str := if own then "row" else "part"
def Slot.d : Slot → PyData
  | .free t => .tuple [.str "free", .int t]
  | .held own t b s n => .tuple [.str (wordOf own), .int t, .int b, .int s, nxD n]
def intsD (l : List Nat) : List PyData := l.map fun (n : Nat) => PyData.int (n : Int)
def Page.d (p : Page) : PyData := .tuple [.tuple (p.slots.map Slot.d), .tuple (intsD p.cells)]
def shD (sh : List Page) : List PyData := sh.map Page.d
def Slot.size : Slot → Nat
  | .free _ => 0
  | .held _ _ _ s _ => s
def Slot.turn : Slot → Nat
  | .free t => t
  | .held _ t _ _ _ => t
def Slot.usable : Slot → Bool
  | .free t => decide (t < 100)
  | .held _ _ _ _ _ => false
def Page.used (p : Page) : Nat := (p.slots.map Slot.size).sum
def Page.freeI (p : Page) : Int := 24 - (p.used : Int)
/-- the places of the list at which g holds -/
def idxs {α : Type} (g : α → Bool) : List α → Nat → List Nat
  | [], _ => []
  | a :: l, i => if g a then i :: idxs g l (i + 1) else idxs g l (i + 1)
def Page.usable (p : Page) : List Nat := idxs Slot.usable p.slots 0
def Page.cellsOf (p : Page) : Slot → List Nat
  | .free _ => []
  | .held _ _ b s _ => (p.cells.drop b).take s
def Page.setSlot (p : Page) (at_ : Nat) (s : Slot) : Page := ⟨p.slots.set at_ s, p.cells⟩
/-- slots and their values, one behind another from o on -/
def packGo : List (Slot × List Nat) → Nat → List Slot × List Nat
  | [], _ => ([], [])
  | (.free t, _) :: r, o => (.free t :: (packGo r o).1, (packGo r o).2)
  | (.held w t _ _ n, vs) :: r, o => (.held w t (if vs.length = 0 then 0 else o) vs.length n :: (packGo r (o + vs.length)).1, vs ++ (packGo r (o + vs.length)).2)
def packed (l : List (Slot × List Nat)) : Page := ⟨(packGo l 0).1, (packGo l 0).2 ++ List.replicate (24 - (packGo l 0).2.length) 0⟩
def Page.withValues (p : Page) (at_ : Nat) (own : Bool) (vs : List Nat) (n : Option Pl) : Page :=
  packed ((p.slots.map fun s => (s, p.cellsOf s)).set at_ (.held own ((p.slots[at_]?.map Slot.turn).getD 0) 0 0 n, vs))
/-- slots may be looked at at all: the bounds that the model's machine wants -/
structure Page.Small (p : Page) : Prop where
  ns : p.slots.length = 8
  nc : p.cells.length = 24
section
variable {K : PySem.W.Frag} {T : List (Addr × Str)} {H H' : Hp}
theorem nx_flat (n : Option Pl) : flatD (nxD n) = true := by cases n <;> rfl
theorem slot_flat (s : Slot) : flatD s.d = true := by
  cases s with
  | free t => rfl
  | held o t b s n => cases n <;> rfl
theorem flatA_of : ∀ {l : List PyData}, (∀ d ∈ l, flatD d = true) → flatAll l = true
  | [], _ => rfl
  | d :: l, h => by
    show (flatD d && flatAll l) = true
    rw [h d List.mem_cons_self, flatA_of fun e he => h e (List.mem_cons_of_mem _ he)]; rfl
theorem ints_flat (l : List Nat) : flatAll (intsD l) = true := flatA_of fun d hd => by
  obtain ⟨n, _, e⟩ := List.mem_map.mp hd
  rw [← e]; rfl
theorem page_flat (p : Page) : flatD p.d = true := by
  show (flatAll (p.slots.map Slot.d) && (flatAll (intsD p.cells) && true)) = true
  rw [ints_flat, flatA_of fun d hd => by
    obtain ⟨s, _, e⟩ := List.mem_map.mp hd
    rw [← e]; exact slot_flat s]
  rfl
theorem sh_flat (sh : List Page) : ∀ d ∈ shD sh, flatD d = true := fun d hd => by
  obtain ⟨p, _, e⟩ := List.mem_map.mp hd
  rw [← e]; exact page_flat p
theorem dp_page {v : V} {p : Page} (h : Dp K H v p.d) : ∃ a x y, v = .ref a ∧ SqT K H a [x, y] ∧ Dp K H x (.tuple (p.slots.map Slot.d)) ∧ Dp K H y (.tuple (intsD p.cells)) := by
  obtain ⟨a, xs, rfl, hs, ha⟩ := dp_tup h
  obtain ⟨x, y, rfl, h1, h2⟩ := dpAll2 ha
  exact ⟨a, x, y, rfl, hs, h1, h2⟩
theorem dp_slots {v : V} {p : Page} (h : Dp K H v (.tuple (p.slots.map Slot.d))) : ∃ a xs, v = .ref a ∧ SqT K H a xs ∧ DpAll K H xs (p.slots.map Slot.d) ∧ xs.length = p.slots.length := by
  obtain ⟨a, xs, rfl, hs, ha⟩ := dp_tup h
  exact ⟨a, xs, rfl, hs, ha, by rw [dpAll_len ha, List.length_map]⟩
theorem dp_intsV : ∀ {l : List Nat} {xs : List V}, DpAll K H xs (intsD l) → xs = l.map fun (n : Nat) => V.int (n : Int)
  | [], _, h => dpAll0 h
  | n :: l, _, h => by
    obtain ⟨v, r, rfl, h1, h2⟩ := dpAllC h
    obtain rfl := dp_int h1
    rw [dp_intsV h2]; rfl
theorem intsV_dp (H : Hp) : ∀ l : List Nat, DpAll K H (l.map fun (n : Nat) => V.int (n : Int)) (intsD l)
  | [] => .nil
  | n :: l => .cons (.int _) (intsV_dp H l)
theorem dp_free {v : V} {t : Nat} (h : Dp K H v (Slot.free t).d) : ∃ a, v = .ref a ∧ SqT K H a [.str "free", .int t] := by
  obtain ⟨a, xs, rfl, hs, ha⟩ := dp_tup h
  obtain ⟨x, y, rfl, h1, h2⟩ := dpAll2 ha
  obtain rfl := dp_str h1
  obtain rfl := dp_int h2
  exact ⟨a, rfl, hs⟩
theorem dp_held {v : V} {o : Bool} {t b s : Nat} {n : Option Pl} (h : Dp K H v (Slot.held o t b s n).d) : ∃ a x, v = .ref a ∧ SqT K H a [.str (wordOf o), .int t, .int b, .int s, x] ∧ Dp K H x (nxD n) := by
  obtain ⟨a, xs, rfl, hs, ha⟩ := dp_tup h
  obtain ⟨v0, v1, v2, v3, v4, rfl, h0, h1, h2, h3, h4⟩ := dpAll5 ha
  obtain rfl := dp_str h0
  obtain rfl := dp_int h1
  obtain rfl := dp_int h2
  obtain rfl := dp_int h3
  exact ⟨a, v4, rfl, hs, h4⟩
theorem dp_pl {v : V} {p : Pl} (h : Dp K H v (plD p)) : ∃ a, v = .ref a ∧ SqT K H a [.int p.1, .int p.2] := by
  obtain ⟨a, xs, rfl, hs, ha⟩ := dp_tup h
  obtain ⟨x, y, rfl, h1, h2⟩ := dpAll2 ha
  obtain rfl := dp_int h1
  obtain rfl := dp_int h2
  exact ⟨a, rfl, hs⟩
theorem dp_sh {v : V} {sh : List Page} (h : Dp K H v (.list (shD sh))) : ∃ a xs, v = .ref a ∧ SqL K H a xs ∧ DpAll K H xs (shD sh) ∧ xs.length = sh.length := by
  obtain ⟨a, xs, rfl, hs, ha⟩ := dp_lst h
  exact ⟨a, xs, rfl, hs, ha, by rw [dpAll_len ha, shD, List.length_map]⟩
theorem sh_at {xs : List V} {sh : List Page} {i : Nat} {p : Page} (h : DpAll K H xs (shD sh)) (e : sh[i]? = some p) : ∃ v, xs[i]? = some v ∧ Dp K H v p.d :=
  dpAll_at h (by rw [shD, List.getElem?_map, e]; rfl)
theorem slot_at {xs : List V} {l : List Slot} {i : Nat} {s : Slot} (h : DpAll K H xs (l.map Slot.d)) (e : l[i]? = some s) : ∃ v, xs[i]? = some v ∧ Dp K H v s.d :=
  dpAll_at h (by rw [List.getElem?_map, e]; rfl)
end
/-! ### promises -/
def spSize (K : PySem.W.Frag) : Sp := fun vs H Q _ => ∃ v s, vs = [v] ∧ Dp K H v (Slot.d s) ∧ Q (.int s.size) H
def spFreeC (K : PySem.W.Frag) (T : List (Addr × Str)) (PF : Addr) : Sp := fun vs H Q _ => ∃ v p, vs = [v] ∧ Dp K H v (Page.d p) ∧ p.slots.length = 8 ∧ (∀ s ∈ p.slots, s.size ≤ 1000) ∧ GxR.TabG H PF ∧ ∀ H', XX T H H' → Q (.int p.freeI) H'
def spRoomAt (K : PySem.W.Frag) (T : List (Addr × Str)) (PF : Addr) : Sp := fun vs H Q _ => ∃ v p i s, vs = [v, .int (i : Nat)] ∧ Dp K H v (Page.d p) ∧ p.slots.length = 8 ∧ (∀ s ∈ p.slots, s.size ≤ 1000) ∧ p.slots[i]? = some s ∧ GxR.TabG H PF ∧ ∀ H', XX T H H' → Q (.int (p.freeI + s.size)) H'
def spUsable (K : PySem.W.Frag) (T : List (Addr × Str)) : Sp := fun vs H Q _ => ∃ v p, vs = [v] ∧ Dp K H v (Page.d p) ∧ p.slots.length = 8 ∧ ∀ H' r, XX T H H' → H r = none → H' r = some (.lst (p.usable.map fun (n : Nat) => V.int (n : Int))) → Q (.ref r) H'
def spWithSlot (K : PySem.W.Frag) (T : List (Addr × Str)) : Sp := fun vs H Q _ => ∃ v p i u s, vs = [v, .int (i : Nat), u] ∧ Dp K H v (Page.d p) ∧ p.slots.length = 8 ∧ i < 8 ∧ Dp K H u (Slot.d s) ∧ ∀ H' r, XX T H H' → Dp K H' r (p.setSlot i s).d → Q r H'
/-- a row's values, in a tuple or in a list that is tracked -/
def ValsAt (K : PySem.W.Frag) (H : Hp) (v : V) (l : List Nat) : Prop := ∃ b, v = .ref b ∧ (SqT K H b (l.map fun (n : Nat) => V.int (n : Int)) ∨ H b = some (.lst (l.map fun (n : Nat) => V.int (n : Int))))
def spCellsOf (K : PySem.W.Frag) (T : List (Addr × Str)) : Sp := fun vs H Q _ => ∃ v p u s, vs = [v, u] ∧ Dp K H v (Page.d p) ∧ p.cells.length = 24 ∧ Dp K H u (Slot.d s) ∧ (∀ o t b n z, s = .held o t b n z → b + n ≤ 24) ∧ ∀ H' b, XX T H H' → SqT K H' b ((p.cellsOf s).map fun (n : Nat) => V.int (n : Int)) → Q (.ref b) H'
end GX
/-! slotpages.sheet, first part -/
namespace GX
open PySem PySem.Spec PyProof.Rows L2 LamX
/-- more built-in names that the program does not bind -/
structure Blt2 (mg : Str → Option Value) : Prop where
  sum : mg "sum" = none
  enum : mg "enumerate" = none
  sorted : mg "sorted" = none
  min : mg "min" = none
  max : mg "max" = none
  zip : mg "zip" = none
  rev : mg "reversed" = none
theorem take_sum (l : List Nat) : ∀ i, (hi : i < l.length) → (l.take (i + 1)).sum = (l.take i).sum + l[i] := fun i hi => by
  rw [List.take_succ, List.getElem?_eq_getElem hi, List.sum_append]; simp
section
variable {K : PySem.W.Frag} {T : List (Addr × Str)} {H : Hp} {σ : L2.St} {cap : List Nat} {te : TE} {Q : VK}
/-- what is asked of a sum over data, in a tuple -/
theorem sum_dpT {a : Addr} {xs : List V} {ds : List PyData} {f : List Nat} (hS : SqT K H a xs) (hd : DpAll K H xs ds) (hl : ds.length = f.length) (hs : f.length ≤ 1000) (hb : ∀ z ∈ f, z ≤ 1000)
    (hel : ∀ (i : Nat) (d : PyData) (v : V) (z : Nat) (H' : Hp) (W : VK), ds[i]? = some d → f[i]? = some z → Dp K H' v d → XX T H H' → (∀ H2, XX T H' H2 → W (.int z) H2) → te ((gSt σ cap).set 0 (some v)) H' W) (k : ∀ H', XX T H H' → Q (.int (f.sum : Nat)) H') :
    ∃ (N : Nat) (val : Nat → Int) (Pv : Nat → Hp → Prop), Pv 0 H ∧ (∀ j, j < N → InLong (val j) ∧ InLong (preSum val (j + 1))) ∧ Turns (Itt K a) N (gSt σ cap) te Pv (fun i y H => y = .int (val i) ∧ Pv (i + 1) H) (fun i H => Q (.int (preSum val i)) H) := by
  have pre : ∀ i, i ≤ f.length → preSum (fun i => ((f[i]?).getD 0 : Nat)) i = ((f.take i).sum : Nat) := by
    intro i
    induction i with
    | zero => intro _; simp [preSum]
    | succ i ih =>
      intro hi
      show preSum _ i + _ = _
      rw [ih (by omega), take_sum f i (by omega)]
      dsimp only
      rw [List.getElem?_eq_getElem (show i < f.length by omega)]
      simp
  have bnd : ∀ l : List Nat, (∀ z ∈ l, z ≤ 1000) → l.sum ≤ 1000 * l.length := by
    intro l
    induction l with
    | nil => intro _; simp
    | cons z l ih =>
      intro h
      have h1 := h z List.mem_cons_self
      have h2 := ih fun y hy => h y (List.mem_cons_of_mem _ hy)
      simp only [List.sum_cons, List.length_cons]
      omega
  have hlx := dpAll_len hd
  refine ⟨ds.length, fun i => ((f[i]?).getD 0 : Nat), fun i H' => XX T H H' ∧ i ≤ ds.length, ⟨XX.refl H, Nat.zero_le _⟩, fun j hj => ?_, fun i H' p => ?_⟩
  · have hj' : j < f.length := by omega
    have e1 : ((f[j]?).getD 0) ≤ 1000 := by rw [List.getElem?_eq_getElem hj']; exact hb _ (List.getElem_mem hj')
    have e2 := bnd (f.take (j + 1)) fun z hz => hb z (List.mem_of_mem_take hz)
    rw [List.length_take] at e2
    refine ⟨⟨by dsimp only; omega, by dsimp only; omega⟩, ?_⟩
    rw [pre (j + 1) (by omega)]
    exact ⟨by omega, by omega⟩
  · obtain ⟨x1, x2⟩ := p
    by_cases hi : i < ds.length
    · obtain ⟨v, ev, dv⟩ := dpAll_at hd (List.getElem?_eq_getElem hi)
      refine .inr ⟨⟨xs, v, x1.sqT hS, ev⟩, hi, fun v' H'' y => ?_⟩
      obtain ⟨e1, e2⟩ := y
      rw [e1]
      have e5 : v = v' := Option.some.inj (ev.symm.trans (e2 xs (x1.sqT hS)))
      rw [e5] at dv
      have hf : f[i]? = some (f[i]'(by omega)) := List.getElem?_eq_getElem (by omega)
      refine hel i ds[i] v' _ H' _ (List.getElem?_eq_getElem hi) hf (Dp.xx x1 _ _ dv) x1 fun H2 x4 => ⟨?_, x1.trans x4, hi⟩
      dsimp only
      rw [hf]; rfl
    · have ei : i = ds.length := by omega
      refine .inl ⟨⟨xs, x1.sqT hS, by omega⟩, ?_⟩
      dsimp only
      rw [pre i (by omega), List.take_of_length_le (by omega)]
      exact k H' x1
end
section
variable {P : Program} {w : World} {K : PySem.W.Frag} {mg : Str → Option Value} {base : Heap} {T : List (Addr × Str)}
theorem sc_size_of : FnScope ["slot"] ["slot"] (defScope s_size_of) := ⟨rfl, rfl, rfl, by decide +kernel, rfl, by decide +kernel, by decide +kernel⟩
theorem word_free (o : Bool) : decide (V.str (wordOf o) = V.str "free") = false := by cases o <;> decide +kernel
theorem ok_size_of {f : Addr} {fd : FuncData} (F : L2.Fun K "size_of" "size_of" s_size_of f fd) : FnOk P w K mg base CX0 1 f fd ["slot"] (spSize K) := by
  refine F.ok sc_size_of (fun vs H Q E h => by obtain ⟨v, s, rfl, _⟩ := h; rfl) (fun cdv A outer s H vs Q E hr h => ?_)
  obtain ⟨v, s, rfl, hd, k⟩ := h
  refine ⟨_, pss_one (ps_ret (pe_ifExp (pt_cmpR op_eq (pe_ix ix_tup (pv 0) pe_int (fun _ _ => rfl)) pe_str (nomark _)) pe_int (pe_ix ix_tup (pv 0) pe_int (fun _ _ => rfl)))), ?_⟩
  cases s with
  | free t =>
    obtain ⟨a, rfl, hS⟩ := dp_free hd
    exact ⟨_, rfl, a, _, 0, _, rfl, rfl, hS, atI0, rfl, _, rfl, iteT k⟩
  | held o t b n z =>
    obtain ⟨a, x, rfl, hS, hx⟩ := dp_held hd
    refine ⟨_, rfl, a, _, 0, _, rfl, rfl, hS, atI0, rfl, _, rfl, ?_⟩
    rw [word_free]
    exact iteF ⟨_, rfl, a, _, 3, _, rfl, rfl, hS, atI_nat (j := 3) rfl, k⟩
theorem sc_free_cells : FnScope ["page"] ["page"] (defScope s_free_cells) := ⟨rfl, rfl, rfl, by decide +kernel, rfl, by decide +kernel, by decide +kernel⟩
theorem ok_free_cells {f c PF : Addr} {fd : FuncData} (F : FunC K "free_cells" "free_cells" s_free_cells f fd c) (TB : LamX.TabB base mg c PF) (hT : ∀ p ∈ T, p.1 ≠ PF) (B2 : Blt2 mg) (C : CoF mg) (cS : Cal P w K mg base CX0 "size_of" ["slot"] 1 (spSize K)) : FnOk P w K mg base CX0 3 f fd ["page"] (spFreeC K T PF) := by
  refine F.ok sc_free_cells (fun vs H Q E h => by obtain ⟨v, p, rfl, _⟩ := h; rfl) (fun A outer s H vs Q E hr h => ?_)
  obtain ⟨v, p, rfl, hd, h8, hb, hG, k⟩ := h
  refine ⟨_, pss_one (ps_ret (pe_op op_sub (pe_const C.cells) (pe_sumG (Ng := ["slot"]) (cap := []) hr (by rfl) B2.sum TB (by rfl) (gs_by (N := ["page"]) (sc := defScope s_free_cells) (by decide +kernel)) (pi_tup (pe_ix ix_tup (pv 0) pe_int (fun _ _ => rfl)))
    (fun code s H fp pn => pe_cal cS (room_gen hr) (pa_cons (pv 0) pa_nil))))), ?_⟩
  obtain ⟨a, x, y, rfl, hS, hx, hy⟩ := dp_page hd
  obtain ⟨b, xs, rfl, hs, ha, hl⟩ := dp_slots hx
  refine ⟨_, rfl, a, _, 0, _, rfl, rfl, hS, atI0, b, rfl, ⟨xs, hs⟩, hG, fun H2 tb => ?_⟩
  have xx := XX.tabbed hT hG tb
  refine sum_dpT (T := T) (Q := fun y H2 => rI0 (fun i j => .int (i - j)) (.int 24) y H2 Q) (f := p.slots.map Slot.size) (xx.sqT hs) (Dp.xxAll xx _ _ ha) (by simp) (by simp; omega) (fun z hz => by obtain ⟨s, hs, e⟩ := List.mem_map.mp hz; rw [← e]; exact hb s hs) (fun i d v z H' W e1 e2 hv x1 hW => ?_) fun H' x1 => ⟨_, _, rfl, rfl, k H' (xx.trans x1)⟩
  rw [List.getElem?_map] at e1 e2
  cases q : p.slots[i]? with
  | none => rw [q] at e1; cases e1
  | some s =>
    rw [q] at e1 e2
    cases e1
    cases e2
    exact ⟨v, rfl, v, s, rfl, hv, hW H' (XX.refl H')⟩
theorem sc_room_at : FnScope ["page", "at"] ["page", "at"] (defScope s_room_at) := ⟨rfl, rfl, rfl, by decide +kernel, rfl, by decide +kernel, by decide +kernel⟩
theorem ok_room_at {f PF : Addr} {fd : FuncData} (F : L2.Fun K "room_at" "room_at" s_room_at f fd) (cS : Cal P w K mg base CX0 "size_of" ["slot"] 1 (spSize K)) (cF : Cal P w K mg base CX0 "free_cells" ["page"] 3 (spFreeC K T PF)) : FnOk P w K mg base CX0 4 f fd ["page", "at"] (spRoomAt K T PF) := by
  refine F.ok sc_room_at (fun vs H Q E h => by obtain ⟨v, p, i, s, rfl, _⟩ := h; rfl) (fun cdv A outer s H vs Q E hr h => ?_)
  obtain ⟨v, p, i, sl, rfl, hd, h8, hb, hi, hG, k⟩ := h
  refine ⟨_, pss_one (ps_ret (pe_op op_add (pe_cal cF hr (pa_cons (pv 0) pa_nil)) (pe_cal cS (hr.mono (by decide)) (pa_cons (pe_ix ix_tup (pe_ix ix_tup (pv 0) pe_int (fun _ _ => rfl)) (pv 1) (fun _ _ => rfl)) pa_nil)))), ?_⟩
  refine ⟨v, rfl, v, p, rfl, hd, h8, hb, hG, fun H1 x1 => ?_⟩
  obtain ⟨a, x, y, rfl, hS, hx, hy⟩ := dp_page (Dp.xx x1 _ _ hd)
  obtain ⟨b, xs, rfl, hs, ha, hl⟩ := dp_slots hx
  obtain ⟨u, eu, du⟩ := slot_at ha hi
  exact ⟨_, rfl, a, _, 0, _, rfl, rfl, hS, atI0, _, rfl, b, _, (i : Int), u, rfl, rfl, hs, atI_nat eu, u, sl, rfl, du, _, _, rfl, rfl, k H1 x1⟩
end
end GX
set_option maxHeartbeats 2000000
namespace GX
open PySem PySem.Spec PyProof.Rows L2 LamX
def lv : Option Int → V
  | none => .non
  | some k => .int k
def dF (l : Addr) (n : Int) (lf : Option Int) (st : Bool) : List (Str × V) := [("_sheets", .ref l), ("_done", .int n), ("_left", lv lf), ("_stands", .bl st)]
structure DiskAt (K : PySem.W.Frag) (C : Addr) (H : Hp) (p dx l : Addr) (pages : List PyData) (done : Int) (left : Option Int) (stands : Bool) : Prop where
  ins : H p = some (.ins C dx (dF l done left stands))
  lst : ∃ xs, H l = some (.lst xs) ∧ DpAll K H xs pages
  flat : ∀ d ∈ pages, flatD d = true
/-- the classes that the disk's module speaks of -/
structure DTx (K : PySem.W.Frag) (mg : Str → Option Value) (C cD cN cP cC cS : Addr) : Prop where
  cl : Cls K C
  n1 : NoAttr K C "_sheets"
  n2 : NoAttr K C "_done"
  n3 : NoAttr K C "_left"
  n4 : NoAttr K C "_stands"
  eD : ErrC K mg "BadDisk" cD
  eN : ErrC K mg "NoPage" cN
  eP : ErrC K mg "BadPage" cP
  eS : ErrC K mg "Stopped" cS
  least : ∃ t, mg "LEAST_PAGES" = some (.int 2 t)
  most : ∃ t, mg "MOST_PAGES" = some (.int 12 t)
section
variable {K : PySem.W.Frag} {T : List (Addr × Str)} {C : Addr} {H H' : Hp} {p dx l : Addr} {pages : List PyData} {done : Int} {left : Option Int} {stands : Bool}
theorem DiskAt.ne (d : DiskAt K C H p dx l pages done left stands) : p ≠ l := by
  obtain ⟨xs, h, _⟩ := d.lst
  exact ne_of d.ins h fun z => by cases z
theorem dpAll_xm {S : Addr → Prop} {H1 : Hp} (a : XM T S H H1) : ∀ {ds : List PyData} {vs : List V}, (∀ d ∈ ds, flatD d = true) → DpAll K H vs ds → DpAll K H1 vs ds
  | [], _, _, h => by obtain rfl := dpAll0 h; exact .nil
  | d :: ds, _, f, h => by
    obtain ⟨v, r, rfl, h1, h2⟩ := dpAllC h
    exact .cons (Dp.xm a d v (f d List.mem_cons_self) h1) (dpAll_xm a (fun e he => f e (List.mem_cons_of_mem _ he)) h2)
theorem DiskAt.xm {S : Addr → Prop} (d : DiskAt K C H p dx l pages done left stands) (a : XM T S H H') (h1 : ¬ S p) (h2 : ¬ S l) : DiskAt K C H' p dx l pages done left stands := by
  obtain ⟨xs, h, hd⟩ := d.lst
  exact ⟨a.ins d.ins h1, ⟨xs, a.lst h h2, dpAll_xm a d.flat hd⟩, d.flat⟩
theorem DiskAt.xx (d : DiskAt K C H p dx l pages done left stands) (a : XX T H H') : DiskAt K C H' p dx l pages done left stands := d.xm (S := fun _ => False) a.xm id id
/-- its fields are stored -/
theorem DiskAt.fld (d : DiskAt K C H p dx l pages done left stands) (done' : Int) (left' : Option Int) (stands' : Bool) : DiskAt K C (upd H p (.ins C dx (dF l done' left' stands'))) p dx l pages done' left' stands' := by
  obtain ⟨xs, h, hd⟩ := d.lst
  exact ⟨upd_same, ⟨xs, by rw [upd_ne (Ne.symm d.ne)]; exact h, dpAll_xm (T := []) (XM.upd (S := fun b => b = p) d.ins rfl True.intro) d.flat hd⟩, d.flat⟩
theorem dpAll_set {v : V} {d : PyData} (hv : Dp K H v d) : ∀ (i : Nat) {xs : List V} {ds : List PyData}, DpAll K H xs ds → DpAll K H (xs.set i v) (ds.set i d)
  | _, _, [], h => by obtain rfl := dpAll0 h; exact .nil
  | 0, _, d0 :: ds, h => by
    obtain ⟨v0, r, rfl, h1, h2⟩ := dpAllC h
    exact .cons hv h2
  | i + 1, _, d0 :: ds, h => by
    obtain ⟨v0, r, rfl, h1, h2⟩ := dpAllC h
    exact .cons h1 (dpAll_set hv i h2)
theorem mem_set {α : Type} {l : List α} {i : Nat} {a b : α} (h : b ∈ l.set i a) : b = a ∨ b ∈ l := by
  rcases List.mem_or_eq_of_mem_set h with z | z
  · exact .inr z
  · exact .inl z
theorem dpAll_app {xs ys : List V} {ds es : List PyData} : DpAll K H xs ds → DpAll K H ys es → DpAll K H (xs ++ ys) (ds ++ es) := by
  intro h1 h2
  induction ds generalizing xs with
  | nil => obtain rfl := dpAll0 h1; exact h2
  | cons d ds ih =>
    obtain ⟨v, r, rfl, q1, q2⟩ := dpAllC h1
    exact .cons q1 (ih q2)
end
theorem flat_fresh : flatD freshD = true := by decide +kernel
theorem shaped_fresh : SeqAt.shaped freshD = true := by decide +kernel
theorem page_fresh : isPage freshD = true := by decide +kernel
/-! ### promises -/
def spDInit (K : PySem.W.Frag) (T : List (Addr × Str)) (C cD : Addr) : Sp := fun vs H Q E => ∃ p dx v d, vs = [.ref p, v] ∧ H p = some (.ins C dx []) ∧ Dp K H v d ∧ (isNum d 2 12 = false → E (.ref cD) none H) ∧
  ∀ n : Int, d = .int n → 2 ≤ n → n ≤ 12 → ∀ H' l, XM T (fun b => b = p) H H' → H l = none → DiskAt K C H' p dx l (List.replicate n.toNat freshD) 0 none false → Q .non H'
def spDPages (K : PySem.W.Frag) (C : Addr) : Sp := fun vs H Q _ => ∃ p dx l pages done left stands, vs = [.ref p] ∧ DiskAt K C H p dx l pages done left stands ∧ Q (.int pages.length) H
def spDWrites (K : PySem.W.Frag) (C : Addr) : Sp := fun vs H Q _ => ∃ p dx l pages done left stands, vs = [.ref p] ∧ DiskAt K C H p dx l pages done left stands ∧ Q (.int done) H
def spDCheck (K : PySem.W.Frag) (C cN cS : Addr) : Sp := fun vs H Q E => ∃ p dx l pages done left stands v d, vs = [.ref p, v] ∧ DiskAt K C H p dx l pages done left stands ∧ Dp K H v d ∧
  (stands = true → E (.ref cS) none H) ∧ (stands = false → isNum d 0 ((pages.length : Int) - 1) = false → E (.ref cN) none H) ∧ (stands = false → isNum d 0 ((pages.length : Int) - 1) = true → Q .non H)
def spDCount (K : PySem.W.Frag) (T : List (Addr × Str)) (C cS : Addr) : Sp := fun vs H Q E => ∃ p dx l pages done left stands, vs = [.ref p] ∧ DiskAt K C H p dx l pages done left stands ∧
  (left = none → Q .non H) ∧ (left = some 0 → ∀ H', XM T (fun b => b = p) H H' → DiskAt K C H' p dx l pages done left true → E (.ref cS) none H') ∧
  (∀ k, left = some k → k ≠ 0 → ∀ H', XM T (fun b => b = p) H H' → DiskAt K C H' p dx l pages done (some (k - 1)) stands → Q .non H')
def spDPage (K : PySem.W.Frag) (C cN cS : Addr) : Sp := fun vs H Q E => ∃ p dx l pages done left stands v d, vs = [.ref p, v] ∧ DiskAt K C H p dx l pages done left stands ∧ Dp K H v d ∧
  (stands = true → E (.ref cS) none H) ∧ (stands = false → isNum d 0 ((pages.length : Int) - 1) = false → E (.ref cN) none H) ∧
  (∀ (i : Nat) (e : PyData) (u : V), stands = false → d = .int i → pages[i]? = some e → Dp K H u e → Q u H)
def spDWrite (K : PySem.W.Frag) (T : List (Addr × Str)) (P1 P2 C cN cP cS : Addr) : Sp := fun vs H Q E => ∃ p dx l pages done left stands v d u e, vs = [.ref p, v, u] ∧ DiskAt K C H p dx l pages done left stands ∧ Dp K H v d ∧ Dp K H u e ∧ flatD e = true ∧ SeqAt.shaped e = true ∧
  GxR.TabG H P1 ∧ GxR.TabG H P2 ∧ (stands = true → E (.ref cS) none H) ∧ (stands = false → isNum d 0 ((pages.length : Int) - 1) = false → E (.ref cN) none H) ∧
  (stands = false → isNum d 0 ((pages.length : Int) - 1) = true → isPage e = false → ∀ H', XX T H H' → E (.ref cP) none H') ∧
  (stands = false → isNum d 0 ((pages.length : Int) - 1) = true → isPage e = true → left = some 0 → ∀ H', XM T (fun b => b = p) H H' → DiskAt K C H' p dx l pages done left true → E (.ref cS) none H') ∧
  (∀ (i : Nat), stands = false → d = .int i → i < pages.length → isPage e = true → left ≠ some 0 → ∀ H', XM T (fun b => b = p ∨ b = l) H H' → DiskAt K C H' p dx l (pages.set i e) (done + 1) (left.map (· - 1)) false → Q .non H')
def spDArm (K : PySem.W.Frag) (T : List (Addr × Str)) (C cC : Addr) : Sp := fun vs H Q E => ∃ p dx l pages done left stands v d, vs = [.ref p, v] ∧ DiskAt K C H p dx l pages done left stands ∧ Dp K H v d ∧ (isNum d 0 1000000 = false → E (.ref cC) none H) ∧
  (∀ n, d = .int n → isNum d 0 1000000 = true → ∀ H', XM T (fun b => b = p) H H' → DiskAt K C H' p dx l pages done (some n) stands → Q .non H')
def spDAgain (K : PySem.W.Frag) (T : List (Addr × Str)) (C : Addr) : Sp := fun vs H Q _ => ∃ p dx l pages done left stands, vs = [.ref p] ∧ DiskAt K C H p dx l pages done left stands ∧
  ∀ H', XM T (fun b => b = p) H H' → DiskAt K C H' p dx l pages done none false → Q .non H'
end GX
set_option maxHeartbeats 4000000
/-! slotpages.sheet, second part -/
namespace GX
open PySem PySem.Spec PyProof.Rows L2 LamX
theorem cut_lo (xs : List V) (i : Nat) (hi : i ≤ xs.length) : cutV xs none (some (i : Int)) = xs.take i := by
  unfold cutV
  rw [HT.sIx_none, HT.sIx_nat, List.drop_zero, Nat.sub_zero, Nat.min_eq_left hi]
theorem cut_hi (xs : List V) (i : Nat) (hi : i ≤ xs.length) : cutV xs (some (i : Int)) none = xs.drop i := by
  unfold cutV
  rw [HT.sIx_none, HT.sIx_nat, Nat.min_eq_left hi, List.take_of_length_le (by rw [List.length_drop]; omega)]
theorem cut_mid (xs : List V) (i j : Nat) (hi : i ≤ xs.length) (hj : j ≤ xs.length) : cutV xs (some (i : Int)) (some (j : Int)) = (xs.drop i).take (j - i) := by
  unfold cutV
  rw [HT.sIx_nat, HT.sIx_nat, Nat.min_eq_left hi, Nat.min_eq_left hj]
theorem cut_whole {xs : List V} {lo hi : Option Int} (h : HT.sIx xs.length 0 lo = 0 ∧ HT.sIx xs.length xs.length hi = xs.length) : cutV xs lo hi = xs := by
  unfold cutV
  rw [h.1, h.2, List.drop_zero, Nat.sub_zero, List.take_of_length_le (Nat.le_refl _)]
section
variable {K : PySem.W.Frag} {T : List (Addr × Str)} {H : Hp} {Q : VK}
theorem sl_any {a : Addr} {xs : List V} {lo hi : Option Int} (hS : SqT K H a xs) (k : ∀ H' r, XX T H H' → SqT K H' r (cutV xs lo hi) → Q (.ref r) H') : rSlA K (.ref a) lo hi H Q :=
  ⟨a, xs, rfl, hS, fun h => k H a (XX.refl H) (by rw [cut_whole h]; exact hS), fun _ p hp => k _ p (XX.new hp) (SqT.of upd_same)⟩
theorem cat_any {a b : Addr} {xs ys : List V} (h1 : SqT K H a xs) (h2 : SqT K H b ys) (hl : xs.length + ys.length ≤ 1000) (k : ∀ H' r, XX T H H' → SqT K H' r (xs ++ ys) → Q (.ref r) H') : rCatA K (.ref a) (.ref b) H Q :=
  ⟨a, b, xs, ys, rfl, rfl, h1, h2, Nat.le_trans hl (by decide), fun e => k H b (XX.refl H) (by rw [e]; exact h2), fun _ e => k H a (XX.refl H) (by rw [e, List.append_nil]; exact h1), fun _ _ p hp => k _ p (XX.new hp) (SqT.of upd_same)⟩
theorem walk_enumT {a : Addr} {xs : List V} : Walk (IteT K a xs.length) xs.length (fun H => SqT K H a xs) (YPair (fun i => some (.int (i : Nat))) (fun i => xs[i]?)) := by
  refine ⟨fun i _ hi q => ⟨xs, xs[i], q, rfl, by simp [hi]⟩, fun _ q => ⟨xs, q, rfl, Nat.le_refl _⟩, fun i H v H' _ q y => ?_⟩
  obtain ⟨t, x, h1, h2, h3, h4⟩ := y
  exact ⟨t, .int (i : Nat), x, h1, h2, h3, rfl, h4 xs q⟩
end
theorem idxs_snoc {α : Type} (g : α → Bool) : ∀ (l : List α) (a : α) (i : Nat), idxs g (l ++ [a]) i = idxs g l i ++ (if g a then [i + l.length] else [])
  | [], a, i => by simp [idxs]
  | b :: l, a, i => by
    simp only [List.cons_append, idxs, List.length_cons, idxs_snoc g l a (i + 1)]
    rw [show i + 1 + l.length = i + (l.length + 1) by omega]
    split <;> simp
theorem idxs_take {α : Type} (g : α → Bool) (l : List α) (i : Nat) (a : α) (h : l[i]? = some a) : idxs g (l.take (i + 1)) 0 = idxs g (l.take i) 0 ++ (if g a then [i] else []) := by
  have hi := (List.getElem?_eq_some_iff.mp h).1
  rw [List.take_succ, h]
  show idxs g (l.take i ++ [a]) 0 = _
  rw [idxs_snoc, List.length_take, Nat.min_eq_left (by omega), Nat.zero_add]
theorem idxs_len {α : Type} (g : α → Bool) : ∀ (l : List α) (i : Nat), (idxs g l i).length ≤ l.length
  | [], i => Nat.le_refl _
  | a :: l, i => by
    have := idxs_len g l (i + 1)
    simp only [idxs]
    split <;> simp <;> omega
theorem set_parts {α : Type} (l : List α) (i : Nat) (a : α) (hi : i < l.length) : l.take i ++ [a] ++ l.drop (i + 1) = l.set i a := by
  rw [List.set_eq_take_append_cons_drop, if_pos hi]
  simp
section
variable {K : PySem.W.Frag} {T : List (Addr × Str)} {H H4 : Hp} {D : Addr}
/-- a new list that is filled -/
theorem XX.atD {acc acc' : List V} (a : XX T H H4) (hD : H D = none) (h4 : H4 D = some (.lst acc)) : XX T H (upd H4 D (.lst acc')) := by
  have nD : ∀ {b o}, H b = some o → b ≠ D := fun {b o} e z => by rw [z, hD] at e; cases e
  have n4 : ∀ {b o}, H4 b = some o → (∀ l, o ≠ .lst l) → b ≠ D := fun {b o} e n z => by rw [z, h4] at e; exact n acc (Option.some.inj e).symm
  refine ⟨fun b o e n => ?_, fun b ps e => ?_, fun p h => ?_, fun h p hp => ?_⟩
  · rw [upd_ne (nD e)]; exact a.keep b o e n
  · rw [upd_ne (nD e)]; exact a.tbl b ps e
  · obtain ⟨ps, h1, h2⟩ := a.tabG p h
    exact ⟨ps, by rw [upd_ne (n4 h1 fun l z => by cases z)]; exact h1, h2⟩
  · obtain ⟨ps, h1, h2, h3⟩ := a.tabs h p hp
    refine ⟨ps, by rw [upd_ne (n4 h1 fun l z => by cases z)]; exact h1, h2, fun pos cv hc => ?_⟩
    obtain ⟨c, e1, e2⟩ := h3 pos cv hc
    exact ⟨c, e1, by rw [upd_ne (n4 e2 fun l z => by unfold CodeO at z; cases z)]; exact e2⟩
abbrev g2 (K : PySem.W.Frag) (i j : Nat) : TG := gTup K 2 (gCons (gName i) (gCons (gName j) gNil))
abbrev rIx (K : PySem.W.Frag) (a : TE) (i : Int) : TE := tOp (rIxT K) a (tC (.int i))
abbrev tIsW (K : PySem.W.Frag) (i : Nat) (z : Str) : TT := tTest (tOp rEq (rIx K (tVar i) 0) (tC (.str z)))
end
theorem usable_len (p : Page) (h8 : p.slots.length = 8) : p.usable.length ≤ 8 := by
  have := idxs_len Slot.usable p.slots 0
  unfold Page.usable
  omega
section
variable {P : Program} {w : World} {K : PySem.W.Frag} {mg : Str → Option Value} {base : Heap} {T : List (Addr × Str)}
abbrev usaN : List Str := ["page", "at", "slot"]
theorem sc_usable_slots : FnScope usaN ["page"] (defScope s_usable_slots) := ⟨rfl, rfl, rfl, by decide +kernel, rfl, by decide +kernel, by decide +kernel⟩
theorem ok_usable_slots {f : Addr} {fd : FuncData} (F : L2.Fun K "usable_slots" "usable_slots" s_usable_slots f fd) (B2 : Blt2 mg) (C : CoF mg) : FnOk P w K mg base CX0 1 f fd ["page"] (spUsable K T) := by
  refine F.ok sc_usable_slots (fun vs H Q E h => by obtain ⟨v, p, rfl, _⟩ := h; rfl) (fun cdv A outer s H vs Q E hr h => ?_)
  obtain ⟨v, p, rfl, hd, h8, k⟩ := h
  have nd := sc_usable_slots.nd
  refine ⟨_, pss_one (ps_ret (pe_lc (own := [("at", 1), ("slot", 2)]) (g := g2 K 1 2) (tt := tAnd (tIsW K 2 "free") (tTest (tOp (rI0 fun i j => .bl (decide (i < j))) (rIx K (tVar 2) 1) (tC (.int 100))))) (te := tVar 1) (by rfl) nd (pi_enumT (by rfl) B2.enum (pa_cons (pe_ix ix_tup (pv 0) pe_int (fun _ _ => rfl)) pa_nil)) (blkOk_by (own := [("at", 1), ("slot", 2)]) (N := usaN) (sc := defScope s_usable_slots) (by decide +kernel))
    (fun _ _ _ _ _ => pg_tup (by rfl) (pgs_cons (pg_name (i := 1) nd rfl (.inl rfl)) (pgs_cons (pg_name (i := 2) nd rfl (.inl rfl)) pgs_nil)))
    (fun _ _ _ _ _ => pts_one (PW.pt (pw_and (pt_cmpR op_eq (pe_ix ix_tup (pv 2) pe_int (fun _ _ => rfl)) pe_str (nomark _)) (pw_and1 (pt_cmpR op_lt (pe_ix ix_tup (pv 2) pe_int (fun _ _ => rfl)) (pe_const C.spent) (nomark _))))))
    (fun _ _ _ _ _ => pv 1))), ?_⟩
  obtain ⟨a, x, y, rfl, hS, hx, hy⟩ := dp_page hd
  obtain ⟨b, xs, rfl, hs, ha, hl⟩ := dp_slots hx
  refine ⟨_, rfl, a, _, 0, _, rfl, rfl, hS, atI0, b, xs, rfl, hs, fun D hD => ?_⟩
  refine lc_it walk_enumT (fun i H' => XX T H H' ∧ H' D = some (.lst ((idxs Slot.usable (p.slots.take i) 0).map fun (n : Nat) => V.int (n : Int)))) ⟨XX.new hD, upd_same⟩ (fun i H' _ pv => pv.1.sqT hs) (fun i v H' H'' hi pv y => ?_) fun H' pv => ?_
  · obtain ⟨t, u0, u, rfl, ht, rfl, e0, eu⟩ := y
    obtain ⟨x1, hl1⟩ := pv
    cases e0
    have eu : xs[i]? = some u := eu
    obtain ⟨sl, esl, dsl⟩ : ∃ sl, p.slots[i]? = some sl ∧ Dp K H' u sl.d := by
      have h2 : p.slots[i]? = some (p.slots[i]'(by omega)) := List.getElem?_eq_getElem (by omega)
      obtain ⟨u2, e2, d2⟩ := slot_at (Dp.xxAll x1 _ _ ha) h2
      rw [eu] at e2
      cases e2
      exact ⟨_, h2, d2⟩
    have x2 := x1.then_new (o := .tup [.int (i : Nat), u]) ht
    have dsl2 := Dp.xx (XX.new (T := T) (o := .tup [.int (i : Nat), u]) ht) _ _ dsl
    have hD2 : upd H' t (.tup [.int (i : Nat), u]) D = some (.lst ((idxs Slot.usable (p.slots.take i) 0).map fun (n : Nat) => V.int (n : Int))) := by rw [upd_ne (ne_of_none hl1 ht)]; exact hl1
    have step := idxs_take Slot.usable p.slots i sl esl
    have hln : (idxs Slot.usable (p.slots.take i) 0).length ≤ 8 := by
      have := idxs_len Slot.usable (p.slots.take i) 0
      rw [List.length_take] at this
      omega
    refine ⟨t, _, rfl, SqT.of upd_same, rfl, _, _, rfl, _, _, rfl, rfl, rfl, ?_⟩
    cases sl with
    | free n =>
      obtain ⟨c, rfl, hc⟩ := dp_free dsl2
      refine ⟨_, rfl, c, _, 0, _, rfl, rfl, hc, atI0, rfl, _, rfl, iteT ⟨_, rfl, c, _, 1, _, rfl, rfl, hc, atI_nat (j := 1) rfl, _, _, rfl, rfl, _, rfl, ?_⟩⟩
      by_cases hn : n < 100
      · rw [decide_eq_true (show (n : Int) < 100 by omega)]
        refine iteT ⟨_, rfl, _, hD2, ?_, x2.atD hD hD2, ?_⟩
        · rw [List.length_map]
          exact Nat.lt_of_le_of_lt hln (by decide)
        · rw [step, upd_same]
          simp [Slot.usable, hn]
      · rw [decide_eq_false (show ¬ (n : Int) < 100 by omega)]
        refine iteF ⟨x2, ?_⟩
        rw [step, hD2]
        simp [Slot.usable, hn]
    | held o n bb ss z =>
      obtain ⟨c, x0, rfl, hc, _⟩ := dp_held dsl2
      refine ⟨_, rfl, c, _, 0, _, rfl, rfl, hc, atI0, rfl, _, rfl, ?_⟩
      rw [word_free]
      refine iteF (iteF ⟨x2, ?_⟩)
      rw [step, hD2]
      simp [Slot.usable]
  · obtain ⟨x1, hl1⟩ := pv
    refine k H' D x1 hD ?_
    rw [hl1, List.take_of_length_le (by omega)]; rfl
theorem sc_with_slot : FnScope ["page", "at", "slot", "slots", "cells"] ["page", "at", "slot"] (defScope s_with_slot) := ⟨rfl, rfl, rfl, by decide +kernel, rfl, by decide +kernel, by decide +kernel⟩
theorem ok_with_slot {f : Addr} {fd : FuncData} (F : L2.Fun K "with_slot" "with_slot" s_with_slot f fd) : FnOk P w K mg base CX0 1 f fd ["page", "at", "slot"] (spWithSlot K T) := by
  refine F.ok sc_with_slot (fun vs H Q E h => by obtain ⟨v, p, i, u, s, rfl, _⟩ := h; rfl) (fun cdv A outer s H vs Q E hr h => ?_)
  obtain ⟨v, p, i, u, sl, rfl, hd, h8, hi, hu, k⟩ := h
  have nd := sc_with_slot.nd
  refine ⟨_, pss_cons (ps_asg (pv 0) (pg_tup (by rfl) (pgs_cons (pg_name (i := 3) nd rfl (.inl rfl)) (pgs_cons (pg_name (i := 4) nd rfl (.inl rfl)) pgs_nil))))
    (pss_one (ps_ret (pe_tup (pa_cons (pe_op op_catA (pe_op op_catA (pe_slice sl_tupA (pv 3) po_none (po_some (pv 1))) (pe_tup (pa_cons (pv 2) pa_nil))) (pe_slice sl_tupA (pv 3) (po_some (pe_op op_add (pv 1) pe_int)) po_none)) (pa_cons (pv 4) pa_nil))))), ?_⟩
  obtain ⟨a, x, y, rfl, hS, hx, hy⟩ := dp_page hd
  obtain ⟨b, xs, rfl, hs, ha, hl⟩ := dp_slots hx
  refine ⟨_, rfl, a, _, rfl, hS, rfl, _, _, rfl, _, _, rfl, rfl, ?_⟩
  refine ⟨_, rfl, _, rfl, _, rfl, sl_any (T := T) hs fun H1 r1 x1 q1 => ?_⟩
  refine ⟨_, rfl, (by show 1 ≤ sizeLine; decide), fun r2 n2 => ?_⟩
  have x2 := XX.new (T := T) (o := .tup [u]) n2
  refine cat_any (T := T) (x2.sqT q1) (SqT.of upd_same) (by rw [cut_lo xs i (by omega), List.length_take]; simp; omega) fun H3 r3 x3 q3 => ?_
  have x13 := (x1.trans x2).trans x3
  refine ⟨_, rfl, _, rfl, _, _, rfl, rfl, _, rfl, ?_⟩
  dsimp only [tNoPart]
  refine sl_any (T := T) (x13.sqT hs) fun H4 r4 x4 q4 => ?_
  have ec : cutV xs (some ((i : Int) + 1)) none = xs.drop (i + 1) := cut_hi xs (i + 1) (by omega)
  refine cat_any (T := T) (x4.sqT q3) q4 (by rw [ec, cut_lo xs i (by omega), List.length_append, List.length_take, List.length_drop]; simp; omega) fun H5 r5 x5 q5 => ?_
  refine ⟨_, rfl, (by show 2 ≤ sizeLine; decide), fun r6 n6 => ?_⟩
  have x15 := (x13.trans x4).trans x5
  have x6 := XX.new (T := T) (o := .tup [.ref r5, y]) n6
  rw [ec, cut_lo xs i (by omega), set_parts xs i u (by omega)] at q5
  have x16 := x15.trans x6
  refine k _ _ x16 (.tup (SqT.of upd_same) (.cons (.tup (x6.sqT q5) ?_) (.cons (Dp.xx x16 _ _ hy) .nil)))
  have e : (p.setSlot i sl).slots.map Slot.d = (p.slots.map Slot.d).set i sl.d := by rw [Page.setSlot, List.map_set]
  rw [e]
  exact dpAll_set (Dp.xx x16 _ _ hu) i (Dp.xxAll x16 _ _ ha)
def spWithPF (K : PySem.W.Frag) (T : List (Addr × Str)) : Sp := fun vs H Q _ => ∃ v p i s, vs = [v, .int (i : Nat)] ∧ Dp K H v (Page.d p) ∧ p.slots.length = 8 ∧ p.slots[i]? = some s ∧ ∀ H' r, XX T H H' → Dp K H' r (p.setSlot i (.free s.turn)).d → Q r H'
theorem sc_with_part_free : FnScope ["page", "at"] ["page", "at"] (defScope s_with_part_free) := ⟨rfl, rfl, rfl, by decide +kernel, rfl, by decide +kernel, by decide +kernel⟩
theorem ok_with_part_free {f : Addr} {fd : FuncData} (F : L2.Fun K "with_part_free" "with_part_free" s_with_part_free f fd) (cW : Cal P w K mg base CX0 "with_slot" ["page", "at", "slot"] 1 (spWithSlot K T)) : FnOk P w K mg base CX0 2 f fd ["page", "at"] (spWithPF K T) := by
  refine F.ok sc_with_part_free (fun vs H Q E h => by obtain ⟨v, p, i, s, rfl, _⟩ := h; rfl) (fun cdv A outer s H vs Q E hr h => ?_)
  obtain ⟨v, pg, i, sl, rfl, du, h8, e2, k⟩ := h
  refine ⟨_, pss_one (ps_ret (pe_cal cW hr (pa_cons (pv 0) (pa_cons (pv 1) (pa_cons (pe_tup (pa_cons pe_str (pa_cons (pe_ix ix_tup (pe_ix ix_tup (pe_ix ix_tup (pv 0) pe_int (fun _ _ => rfl)) (pv 1) (fun _ _ => rfl)) pe_int (fun _ _ => rfl)) pa_nil))) pa_nil))))), ?_⟩
  obtain ⟨b, x, y, rfl, hb, hx, _⟩ := dp_page du
  obtain ⟨b2, zs, rfl, hz, hza, _⟩ := dp_slots hx
  obtain ⟨w2, ew2, dw2⟩ := slot_at hza e2
  obtain ⟨cs, ws, hcs, hws, hturn⟩ : ∃ cs ws, w2 = .ref cs ∧ SqT K H cs ws ∧ atI ws 1 = some (.int (sl.turn : Nat)) := by
    cases sl with
    | free t => obtain ⟨c2, rfl, h⟩ := dp_free dw2; exact ⟨c2, _, rfl, h, atI_nat (j := 1) rfl⟩
    | held o t bb n z => obtain ⟨c2, x0, rfl, h, _⟩ := dp_held dw2; exact ⟨c2, _, rfl, h, atI_nat (j := 1) rfl⟩
  subst hcs
  have hi : i < 8 := by rw [← h8]; exact (List.getElem?_eq_some_iff.mp e2).1
  refine ⟨_, rfl, _, rfl, _, rfl, b, _, 0, _, rfl, rfl, hb, atI0, _, rfl, b2, _, _, _, rfl, rfl, hz, atI_nat ew2, cs, ws, 1, _, rfl, rfl, hws, hturn, (by show 2 ≤ sizeLine; decide), fun t3 h3 => ?_⟩
  have x3 := XX.new (T := T) (o := .tup [.str "free", .int (sl.turn : Nat)]) h3
  exact ⟨.ref b, pg, i, .ref t3, .free sl.turn, rfl, Dp.xx x3 _ _ du, h8, hi, .tup (SqT.of upd_same) (.cons (.str _) (.cons (.int _) .nil)), fun H4 r x4 dr => k H4 r (x3.trans x4) dr⟩
theorem sc_cells_of : FnScope ["page", "slot"] ["page", "slot"] (defScope s_cells_of) := ⟨rfl, rfl, rfl, by decide +kernel, rfl, by decide +kernel, by decide +kernel⟩
theorem map_cut (l : List Nat) (i j : Nat) : ((l.drop i).take j).map (fun (n : Nat) => V.int (n : Int)) = ((l.map fun (n : Nat) => V.int (n : Int)).drop i).take j := by rw [List.map_take, List.map_drop]
theorem ok_cells_of {f : Addr} {fd : FuncData} (F : L2.Fun K "_cells_of" "_cells_of" s_cells_of f fd) : FnOk P w K mg base CX0 1 f fd ["page", "slot"] (spCellsOf K T) := by
  refine F.ok sc_cells_of (fun vs H Q E h => by obtain ⟨v, p, u, s, rfl, _⟩ := h; rfl) (fun cdv A outer s H vs Q E hr h => ?_)
  obtain ⟨v, p, u, sl, rfl, hd, h24, hu, hb, k⟩ := h
  refine ⟨_, pss_cons (ps_if (pt_cmpR op_eq (pe_ix ix_tup (pv 1) pe_int (fun _ _ => rfl)) pe_str (nomark _)) (pss_one (ps_ret (pe_tup pa_nil))) pss_nil)
    (pss_one (ps_ret (pe_slice sl_tupA (pe_ix ix_tup (pv 0) pe_int (fun _ _ => rfl)) (po_some (pe_ix ix_tup (pv 1) pe_int (fun _ _ => rfl))) (po_some (pe_op op_add (pe_ix ix_tup (pv 1) pe_int (fun _ _ => rfl)) (pe_ix ix_tup (pv 1) pe_int (fun _ _ => rfl))))))), ?_⟩
  cases sl with
  | free t =>
    obtain ⟨c, rfl, hc⟩ := dp_free hu
    exact ⟨_, rfl, c, _, 0, _, rfl, rfl, hc, atI0, rfl, _, rfl, iteT ⟨(by show 0 ≤ sizeLine; decide), fun r hr => k _ r (XX.new hr) (SqT.of upd_same)⟩⟩
  | held o t bb nn z =>
    obtain ⟨c, x0, rfl, hc, _⟩ := dp_held hu
    refine ⟨_, rfl, c, _, 0, _, rfl, rfl, hc, atI0, rfl, _, rfl, ?_⟩
    rw [word_free]
    obtain ⟨a, x, y, rfl, hS, hx, hy⟩ := dp_page hd
    obtain ⟨cy, ys, rfl, hys, hya⟩ := dp_tup hy
    have bnd := hb _ _ _ _ _ rfl
    have ey := dp_intsV hya
    refine iteF ⟨_, rfl, a, _, 1, _, rfl, rfl, hS, atI_nat (j := 1) rfl, _, rfl, c, _, 2, _, rfl, rfl, hc, atI_nat (j := 2) rfl, _, rfl, _, rfl, c, _, 2, _, rfl, rfl, hc, atI_nat (j := 2) rfl, _, rfl, c, _, 3, _, rfl, rfl, hc, atI_nat (j := 3) rfl, _, _, rfl, rfl, _, rfl, ?_⟩
    refine sl_any (T := T) hys fun H1 r1 x1 q1 => k H1 r1 x1 ?_
    have hly : ys.length = 24 := by rw [ey, List.length_map]; exact h24
    have e2 : cutV ys (some (bb : Int)) (some ((bb : Int) + (nn : Int))) = (ys.drop bb).take nn := by
      have := cut_mid ys bb (bb + nn) (by omega) (by omega)
      rw [show bb + nn - bb = nn by omega] at this
      exact this
    rw [e2] at q1
    show SqT K H1 r1 (((p.cells.drop bb).take nn).map _)
    rw [map_cut, ← ey]
    exact q1
end
end GX
/-! slotpages.sheet: values laid one behind another -/
namespace GX
open PySem PySem.Spec PyProof.Rows L2 LamX
def packOne (o : Nat) : Slot × List Nat → Slot × List Nat
  | (.free t, _) => (.free t, [])
  | (.held w t _ _ n, vs) => (.held w t (if vs.length = 0 then 0 else o) vs.length n, vs)
theorem pack_snoc (x : Slot × List Nat) : ∀ (l : List (Slot × List Nat)) (o : Nat), packGo (l ++ [x]) o = ((packGo l o).1 ++ [(packOne (o + (packGo l o).2.length) x).1], (packGo l o).2 ++ (packOne (o + (packGo l o).2.length) x).2)
  | [], o => by
    obtain ⟨s, vs⟩ := x
    cases s <;> simp [packGo, packOne]
  | (.free t, vs) :: l, o => by
    simp only [List.cons_append, packGo, pack_snoc x l o]
  | (.held w t b s n, vs) :: l, o => by
    simp only [List.cons_append, packGo, pack_snoc x l (o + vs.length), List.length_append]
    rw [show o + (vs.length + (packGo l (o + vs.length)).2.length) = o + vs.length + (packGo l (o + vs.length)).2.length by omega]
    simp [List.append_assoc]
theorem pack_take (l : List (Slot × List Nat)) (i : Nat) (x : Slot × List Nat) (h : l[i]? = some x) : packGo (l.take (i + 1)) 0 = ((packGo (l.take i) 0).1 ++ [(packOne (packGo (l.take i) 0).2.length x).1], (packGo (l.take i) 0).2 ++ (packOne (packGo (l.take i) 0).2.length x).2) := by
  rw [List.take_succ, h]
  show packGo (l.take i ++ [x]) 0 = _
  rw [pack_snoc, Nat.zero_add]
theorem pack_len : ∀ (l : List (Slot × List Nat)) (o : Nat), (packGo l o).1.length = l.length
  | [], _ => rfl
  | (.free t, vs) :: l, o => by simp [packGo, pack_len l]
  | (.held w t b s n, vs) :: l, o => by simp [packGo, pack_len l]
theorem pack_mono : ∀ (l : List (Slot × List Nat)) (o i : Nat), (packGo (l.take i) o).2.length ≤ (packGo l o).2.length
  | [], o, i => by simp
  | x :: l, o, 0 => by simp [packGo]
  | (.free t, vs) :: l, o, i + 1 => by simp only [List.take_succ_cons, packGo]; exact pack_mono l o i
  | (.held w t b s n, vs) :: l, o, i + 1 => by
    simp only [List.take_succ_cons, packGo, List.length_append]
    have := pack_mono l (o + vs.length) i
    omega
/-- a list of pairs: slots and their values -/
def PairsAt (K : PySem.W.Frag) (H : Hp) (xs : List V) (l : List (Slot × List Nat)) : Prop := xs.length = l.length ∧ ∀ (i : Nat) (v : V) (x : Slot × List Nat), xs[i]? = some v → l[i]? = some x → ∃ c y z, v = .ref c ∧ SqT K H c [y, z] ∧ Dp K H y x.1.d ∧ ValsAt K H z x.2
def spPacked (K : PySem.W.Frag) (T : List (Addr × Str)) : Sp := fun vs H Q _ => ∃ a xs l, vs = [.ref a] ∧ SqL K H a xs ∧ PairsAt K H xs l ∧ l.length ≤ 8 ∧ (packGo l 0).2.length ≤ 24 ∧ ∀ H' r, XX T H H' → Dp K H' r (packed l).d → Q r H'
section
variable {K : PySem.W.Frag} {T : List (Addr × Str)} {H H' : Hp}
theorem ValsAt.xx {v : V} {l : List Nat} (h : ValsAt K H v l) (a : XX T H H') : ValsAt K H' v l := by
  obtain ⟨b, rfl, h | h⟩ := h
  · exact ⟨b, rfl, .inl (a.sqT h)⟩
  · exact ⟨b, rfl, .inr (a.lst h)⟩
theorem PairsAt.xx {xs : List V} {l : List (Slot × List Nat)} (h : PairsAt K H xs l) (a : XX T H H') : PairsAt K H' xs l := ⟨h.1, fun i v x e1 e2 => by
  obtain ⟨c, y, z, q1, q2, q3, q4⟩ := h.2 i v x e1 e2
  exact ⟨c, y, z, q1, a.sqT q2, Dp.xx a _ _ q3, q4.xx a⟩⟩
end
section
variable {P : Program} {w : World} {K : PySem.W.Frag} {mg : Str → Option Value} {base : Heap} {T : List (Addr × Str)}
abbrev pkN : List Str := ["held", "slots", "cells", "slot", "values", "begin"]
theorem sc_packed : FnScope pkN ["held"] (defScope s_packed) := ⟨rfl, rfl, rfl, by decide +kernel, rfl, by decide +kernel, by decide +kernel⟩
theorem ok_packed {f : Addr} {fd : FuncData} (F : L2.Fun K "_packed" "_packed" s_packed f fd) (B : Blt mg) (C : CoF mg) : FnOk P w K mg base CX0 1 f fd ["held"] (spPacked K T) := by
  refine F.ok sc_packed (fun vs H Q E h => by obtain ⟨a, xs, l, rfl, _⟩ := h; rfl) (fun cdv A outer s H vs Q E hr h => ?_)
  obtain ⟨a, xs, l, rfl, hS, hP, h8, h24, k⟩ := h
  have nd := sc_packed.nd
  refine ⟨_, pss_cons (ps_set (i := 1) nd rfl (.inl rfl) (pe_lst pa_nil)) (pss_cons (ps_set (i := 2) nd rfl (.inl rfl) (pe_lst pa_nil))
    (pss_cons (ps_for PassesOwn.never rfl (pi_list (pv 0)) (pg_tup (by rfl) (pgs_cons (pg_name (i := 3) nd rfl (.inl rfl)) (pgs_cons (pg_name (i := 4) nd rfl (.inl rfl)) pgs_nil)))
      (pss_cons (ps_if (pt_cmpR op_eq (pe_ix ix_tup (pv 3) pe_int (fun _ _ => rfl)) pe_str (nomark _)) (pss_cons (ps_expr (pe_bm PySem.F.plainAttrs_list PySem.F.slot_list_append PySem.F.type_list_append mt_append (pv 1) (pa_cons (pv 3) pa_nil))) (pss_one ps_continue)) pss_nil)
      (pss_cons (ps_set (i := 5) nd rfl (.inl rfl) (pe_ifExp (pt_cmpR op_gt (pe_callB call_len_seq (by rfl) B.len PySem.boot_len (pa_cons (pv 4) pa_nil)) pe_int (nomark _)) (pe_callB call_len_seq (by rfl) B.len PySem.boot_len (pa_cons (pv 2) pa_nil)) pe_int))
      (pss_cons (ps_expr (pe_bm PySem.F.plainAttrs_list PySem.F.slot_list_append PySem.F.type_list_append mt_append (pv 1) (pa_cons (pe_tup (pa_cons (pe_ix ix_tup (pv 3) pe_int (fun _ _ => rfl)) (pa_cons (pe_ix ix_tup (pv 3) pe_int (fun _ _ => rfl)) (pa_cons (pv 5) (pa_cons (pe_callB call_len_seq (by rfl) B.len PySem.boot_len (pa_cons (pv 4) pa_nil)) (pa_cons (pe_ix ix_tup (pv 3) pe_int (fun _ _ => rfl)) pa_nil)))))) pa_nil)))
      (pss_one (ps_expr (pe_bm PySem.F.plainAttrs_list PySem.F.slot_list_extend PySem.F.type_list_extend mt_extendA (pv 2) (pa_cons (pv 4) pa_nil))))))))
    (pss_cons (ps_expr (pe_bm PySem.F.plainAttrs_list PySem.F.slot_list_extend PySem.F.type_list_extend mt_extendA (pv 2) (pa_cons (pe_op op_rep (pe_lst (pa_cons pe_int pa_nil)) (pe_op op_sub (pe_const C.cells) (pe_callB call_len_seq (by rfl) B.len PySem.boot_len (pa_cons (pv 2) pa_nil)))) pa_nil)))
    (pss_one (ps_ret (pe_tup (pa_cons (pe_callTy call_tuple_of (by rfl) B.tuple boot_tuple (pa_cons (pv 1) pa_nil)) (pa_cons (pe_callTy call_tuple_of (by rfl) B.tuple boot_tuple (pa_cons (pv 2) pa_nil)) pa_nil)))))))), ?_⟩
  refine ⟨(by show 0 ≤ sizeLine; decide), fun ps hps => ⟨(by show 0 ≤ sizeLine; decide), fun pc hpc => ?_⟩⟩
  have nsc : ps ≠ pc := fun z => by rw [← z, upd_same] at hpc; cases hpc
  have x0 := (XX.new (T := T) (o := .lst []) hps).then_new (o := .lst []) hpc
  have hpc0 : H pc = none := by rw [upd_ne (Ne.symm nsc)] at hpc; exact hpc
  refine ⟨_, rfl, a, rfl, ⟨xs, x0.sqL hS⟩, for_list (xs := xs) (fun i σ' H' => ∃ ys u3 u4 u5, σ' = [some (.ref a), some (.ref ps), some (.ref pc), u3, u4, u5] ∧ XX T H H' ∧ H' ps = some (.lst ys) ∧ DpAll K H' ys ((packGo (l.take i) 0).1.map Slot.d) ∧ H' pc = some (.lst ((packGo (l.take i) 0).2.map fun (n : Nat) => V.int (n : Int))))
    ⟨[], none, none, none, rfl, x0, by rw [upd_ne nsc]; exact upd_same, .nil, upd_same⟩ (fun i σ' H' _ ⟨_, _, _, _, _, x1, _⟩ => x1.sqL hS) ?_ ?_⟩
  · rintro i v σ' H' hi ⟨ys, u3, u4, u5, rfl, x1, e1, d1, e2⟩
    have hil : i < l.length := by rw [← hP.1]; exact (List.getElem?_eq_some_iff.mp hi).1
    have hl : l[i]? = some (l[i]) := List.getElem?_eq_getElem hil
    obtain ⟨c, y, z, rfl, hcS, hyS, hz⟩ := hP.2 i v _ hi hl
    have hc := x1.sqT hcS
    have hy := Dp.xx x1 _ _ hyS
    have stp := pack_take l i _ hl
    have m1 := pack_mono l 0 (i + 1)
    have ly : ys.length = i := by rw [dpAll_len d1, List.length_map, pack_len, List.length_take]; omega
    obtain ⟨⟨sl, vals⟩, elx⟩ : ∃ x, l[i] = x := ⟨_, rfl⟩
    rw [elx] at hy hz stp hl
    refine ⟨c, _, rfl, hc, rfl, _, _, rfl, _, _, rfl, rfl, ?_⟩
    have hy0 := hy
    cases sl with
    | free t =>
      obtain ⟨cy, rfl, hcy⟩ := dp_free hy
      refine ⟨_, rfl, cy, _, 0, _, rfl, rfl, hcy, atI0, rfl, _, rfl, iteT ⟨_, rfl, .inl ⟨rfl, _, SqL.of e1⟩, _, rfl, ps, _, _, rfl, rfl, e1, ?_, ?_⟩⟩
      · rw [ly]; exact Nat.lt_of_lt_of_le (show i < 100 by omega) (by decide)
      have hps0 : H ps = none := hps
      have x2 := x1.atD (acc' := ys ++ [.ref cy]) hps0 e1
      have y2 : XM T (fun b => b = ps) H' (upd H' ps (.lst (ys ++ [.ref cy]))) := XM.upd e1 rfl True.intro
      refine ⟨ys ++ [.ref cy], _, _, _, rfl, x2, upd_same, ?_, ?_⟩
      · rw [stp]
        simp only [List.map_append]
        exact dpAll_app (dpAll_xm y2 (fun d hd => by obtain ⟨s, _, e⟩ := List.mem_map.mp hd; rw [← e]; exact slot_flat s) d1) (.cons (Dp.xm y2 _ _ (slot_flat _) hy0) .nil)
      · rw [upd_ne (Ne.symm nsc), e2, stp]
        simp [packOne]
    | held o t b n nx =>
      obtain ⟨cy, ny, rfl, hcy, hny⟩ := dp_held hy
      obtain ⟨bz, rfl, hbz⟩ := hz
      have lenV : ∀ {Hq : Hp}, XX T H Hq → (SqL K Hq bz (vals.map fun (n : Nat) => V.int (n : Int)) ∨ SqT K Hq bz (vals.map fun (n : Nat) => V.int (n : Int))) := fun {Hq} xq => by
        rcases hbz with q | q
        · exact .inr (xq.sqT q)
        · exact .inl (SqL.of (xq.lst q))
      have lv : ((vals.map fun (n : Nat) => V.int (n : Int)).length : Int) = vals.length := by rw [List.length_map]
      refine ⟨_, rfl, cy, _, 0, _, rfl, rfl, hcy, atI0, rfl, _, rfl, ?_⟩
      rw [word_free]
      refine iteF ⟨_, rfl, bz, _, rfl, lenV x1, _, _, rfl, rfl, _, rfl, ?_⟩
      have key : ∀ (bg : Nat) (D : V → Hp → Prop), bg = (if vals.length = 0 then 0 else (packGo (l.take i) 0).2.length) → D (.int (bg : Int)) H' → (if decide ((0 : Int) < ((vals.map fun (n : Nat) => V.int (n : Int)).length : Int)) = true then tCB (fun xs H Q => ∃ p ys, xs = [.ref p] ∧ (SqL K H p ys ∨ SqT K H p ys) ∧ Q (.int ys.length) H) (tCons (tVar 2) tNil) [some (.ref a), some (.ref ps), some (.ref pc), some (.ref cy), some (.ref bz), u5] H' D else tC (.int 0) [some (.ref a), some (.ref ps), some (.ref pc), some (.ref cy), some (.ref bz), u5] H' D) := by
        intro bg D eb hD
        rw [lv]
        by_cases h0 : vals.length = 0
        · rw [h0]
          rw [if_pos h0] at eb
          subst eb
          exact iteF hD
        · rw [decide_eq_true (show (0 : Int) < (vals.length : Int) by omega)]
          rw [if_neg h0] at eb
          refine iteT ⟨_, rfl, pc, _, rfl, .inl (SqL.of e2), ?_⟩
          rw [List.length_map, ← eb]
          exact hD
      refine key _ _ rfl ⟨_, rfl, .inl ⟨rfl, _, SqL.of e1⟩, ?_⟩
      refine ⟨_, rfl, cy, _, 0, _, rfl, rfl, hcy, atI0, _, rfl, cy, _, 1, _, rfl, rfl, hcy, atI_nat (j := 1) rfl, _, rfl, _, rfl, bz, _, rfl, lenV x1, _, rfl, cy, _, 4, _, rfl, rfl, hcy, atI_nat (j := 4) rfl, (by show 5 ≤ sizeLine; decide), fun t5 h5 => ?_⟩
      have xt := XX.new (T := T) (o := .tup [.str (wordOf o), .int t, .int ((if vals.length = 0 then 0 else (packGo (l.take i) 0).2.length : Nat) : Int), .int ((vals.map fun (n : Nat) => V.int (n : Int)).length : Int), ny]) h5
      have e1t := xt.lst e1
      have e2t := xt.lst e2
      refine ⟨ps, _, _, rfl, rfl, e1t, ?_, ?_⟩
      · rw [ly]; exact Nat.lt_of_lt_of_le (show i < 100 by omega) (by decide)
      have x2 := (x1.trans xt).atD (acc' := ys ++ [.ref t5]) hps e1t
      have y2 : XM T (fun b => b = ps) _ (upd (upd H' t5 (.tup [.str (wordOf o), .int t, .int ((if vals.length = 0 then 0 else (packGo (l.take i) 0).2.length : Nat) : Int), .int ((vals.map fun (n : Nat) => V.int (n : Int)).length : Int), ny])) ps (.lst (ys ++ [.ref t5]))) := XM.upd e1t rfl True.intro
      have e2u : upd (upd H' t5 (.tup [.str (wordOf o), .int t, .int ((if vals.length = 0 then 0 else (packGo (l.take i) 0).2.length : Nat) : Int), .int ((vals.map fun (n : Nat) => V.int (n : Int)).length : Int), ny])) ps (.lst (ys ++ [.ref t5])) pc = some (.lst ((packGo (l.take i) 0).2.map fun (n : Nat) => V.int (n : Int))) := by rw [upd_ne (Ne.symm nsc)]; exact e2t
      have dSlot : Dp K (upd H' t5 (.tup [.str (wordOf o), .int t, .int ((if vals.length = 0 then 0 else (packGo (l.take i) 0).2.length : Nat) : Int), .int ((vals.map fun (n : Nat) => V.int (n : Int)).length : Int), ny])) (.ref t5) (Slot.held o t (if vals.length = 0 then 0 else (packGo (l.take i) 0).2.length) vals.length nx).d := by
        refine .tup (SqT.of upd_same) (.cons (.str _) (.cons (.int _) (.cons (.int _) (.cons ?_ (.cons (Dp.xx xt _ _ hny) .nil)))))
        rw [lv]; exact .int _
      have hvq : SqT K (upd (upd H' t5 (.tup [.str (wordOf o), .int t, .int ((if vals.length = 0 then 0 else (packGo (l.take i) 0).2.length : Nat) : Int), .int ((vals.map fun (n : Nat) => V.int (n : Int)).length : Int), ny])) ps (.lst (ys ++ [.ref t5]))) bz (vals.map fun (n : Nat) => V.int (n : Int)) ∨ upd (upd H' t5 (.tup [.str (wordOf o), .int t, .int ((if vals.length = 0 then 0 else (packGo (l.take i) 0).2.length : Nat) : Int), .int ((vals.map fun (n : Nat) => V.int (n : Int)).length : Int), ny])) ps (.lst (ys ++ [.ref t5])) bz = some (.lst (vals.map fun (n : Nat) => V.int (n : Int))) := by
        rcases hbz with q | q
        · exact .inl (x2.sqT q)
        · exact .inr (x2.lst q)
      refine ⟨_, rfl, .inl ⟨rfl, _, SqL.of e2u⟩, _, rfl, pc, bz, _, _, rfl, rfl, e2u, hvq, ?_, ?_⟩
      · have m2 : (packGo (l.take i) 0).2.length + vals.length ≤ 24 := by
          rw [stp] at m1
          simp only [packOne, List.length_append] at m1
          omega
        rw [List.length_map, List.length_map]
        exact Nat.le_trans m2 (by decide)
      have x3 := x2.atD (acc' := (packGo (l.take i) 0).2.map (fun (n : Nat) => V.int (n : Int)) ++ vals.map fun (n : Nat) => V.int (n : Int)) hpc0 e2u
      have y3 : XM T (fun b => b = pc) _ (upd (upd (upd H' t5 (.tup [.str (wordOf o), .int t, .int ((if vals.length = 0 then 0 else (packGo (l.take i) 0).2.length : Nat) : Int), .int ((vals.map fun (n : Nat) => V.int (n : Int)).length : Int), ny])) ps (.lst (ys ++ [.ref t5]))) pc (.lst ((packGo (l.take i) 0).2.map (fun (n : Nat) => V.int (n : Int)) ++ vals.map fun (n : Nat) => V.int (n : Int)))) := XM.upd e2u rfl True.intro
      have fl : ∀ d ∈ (packGo (l.take i) 0).1.map Slot.d, flatD d = true := fun d hd => by obtain ⟨s, _, e⟩ := List.mem_map.mp hd; rw [← e]; exact slot_flat s
      refine ⟨ys ++ [.ref t5], _, _, _, rfl, x3, by rw [upd_ne nsc]; exact upd_same, ?_, ?_⟩
      · rw [stp]
        simp only [List.map_append, packOne]
        exact dpAll_app (dpAll_xm y3 fl (dpAll_xm y2 fl (Dp.xxAll xt _ _ d1))) (.cons (Dp.xm y3 _ _ (slot_flat _) (Dp.xm y2 _ _ (slot_flat _) dSlot)) .nil)
      · rw [upd_same, stp]
        simp [packOne]
  · rintro σ' H' ⟨ys, u3, u4, u5, rfl, x1, e1, d1, e2⟩
    rw [hP.1, List.take_length] at d1 e2
    refine ⟨_, rfl, .inl ⟨rfl, _, SqL.of e2⟩, (by show 1 ≤ sizeLine; decide), fun lz hlz => ?_⟩
    have xz := XX.new (T := T) (o := .lst [.int 0]) hlz
    have e2z := xz.lst e2
    refine ⟨_, rfl, pc, _, rfl, .inl (SqL.of e2z), _, _, rfl, rfl, lz, _, _, rfl, rfl, upd_same, ?_, ?_, ?_, fun lr hlr => ?_⟩
    · rw [List.length_map]; omega
    · rw [List.length_map]; omega
    · rw [List.length_map]
      exact Nat.le_trans (show 1 * ((24 : Int) - ((packGo l 0).2.length : Int)).toNat ≤ 24 by omega) (by decide)
    have xr := XX.new (T := T) (o := .lst (List.replicate ((24 : Int) - (((packGo l 0).2.map fun (n : Nat) => V.int (n : Int)).length : Int)).toNat [V.int 0]).flatten) hlr
    have ez : ((24 : Int) - (((packGo l 0).2.map fun (n : Nat) => V.int (n : Int)).length : Int)).toNat = 24 - (packGo l 0).2.length := by rw [List.length_map]; omega
    rw [ez] at xr ⊢
    have e2r := xr.lst e2z
    have er : ∀ n : Nat, (List.replicate n [V.int 0]).flatten = (List.replicate n 0).map fun (n : Nat) => V.int (n : Int) := by
      intro n
      induction n with
      | zero => rfl
      | succ n ih => rw [List.replicate_succ, List.flatten_cons, ih, List.replicate_succ]; rfl
    refine ⟨pc, lr, _, _, rfl, rfl, e2r, .inr upd_same, ?_, ?_⟩
    · rw [List.length_map, er, List.length_map, List.length_replicate]
      exact Nat.le_trans (show (packGo l 0).2.length + (24 - (packGo l 0).2.length) ≤ 24 by omega) (by decide)
    rw [er, ← List.map_append]
    have x4 := ((x1.trans xz).trans xr).atD (acc' := ((packGo l 0).2 ++ List.replicate (24 - (packGo l 0).2.length) 0).map fun (n : Nat) => V.int (n : Int)) hpc0 e2r
    rw [er] at x4 e2r
    have e1r : ∀ q : List V, upd (upd (upd H' lz (.lst [.int 0])) lr (.lst ((List.replicate (24 - (packGo l 0).2.length) 0).map fun (n : Nat) => V.int (n : Int)))) pc (.lst q) ps = some (.lst ys) := fun q => by
      rw [upd_ne nsc]
      rw [er] at xr
      exact xr.lst (xz.lst e1)
    have dq : ∀ q : List V, DpAll K (upd (upd (upd H' lz (.lst [.int 0])) lr (.lst ((List.replicate (24 - (packGo l 0).2.length) 0).map fun (n : Nat) => V.int (n : Int)))) pc (.lst q)) ys ((packGo l 0).1.map Slot.d) := fun q => by
      rw [er] at xr
      exact dpAll_xm (XM.upd (T := T) (S := fun b => b = pc) e2r rfl True.intro) (fun d hd => by obtain ⟨s, _, e⟩ := List.mem_map.mp hd; rw [← e]; exact slot_flat s) (Dp.xxAll xr _ _ (Dp.xxAll xz _ _ d1))
    refine ⟨_, rfl, ps, _, rfl, .inl ⟨SqL.of (e1r _), fun t1 ht1 => ?_⟩⟩
    have y1 := XX.new (T := T) (o := .tup ys) ht1
    refine ⟨_, rfl, pc, _, rfl, .inl ⟨SqL.of (y1.lst upd_same), fun t2 ht2 => ?_⟩⟩
    have y2 := XX.new (T := T) (o := .tup (((packGo l 0).2 ++ List.replicate (24 - (packGo l 0).2.length) 0).map fun (n : Nat) => V.int (n : Int))) ht2
    refine ⟨(by show 2 ≤ sizeLine; decide), fun t3 ht3 => ?_⟩
    have y3 := XX.new (T := T) (o := .tup [.ref t1, .ref t2]) ht3
    have yy := (y1.trans y2).trans y3
    exact k _ _ (x4.trans yy) (.tup (SqT.of upd_same) (.cons (.tup ((y2.trans y3).sqT (SqT.of upd_same)) (Dp.xxAll yy _ _ (dq _))) (.cons (.tup (y3.sqT (SqT.of upd_same)) (intsV_dp _ _)) .nil)))
end
end GX
/-! slotpages.sheet: with_values -/
namespace GX
open PySem PySem.Spec PyProof.Rows L2 LamX
/-- what a page's slots must be so that their cells can be read -/
def Page.Fits (p : Page) : Prop := p.slots.length = 8 ∧ p.cells.length = 24 ∧ ∀ o t b n z, Slot.held o t b n z ∈ p.slots → b + n ≤ 24
def spWithValues (K : PySem.W.Frag) (T : List (Addr × Str)) : Sp := fun vs H Q _ => ∃ v p i own vv vals va nx, vs = [v, .int (i : Nat), .str (wordOf own), vv, va] ∧ Dp K H v (Page.d p) ∧ p.Fits ∧ i < 8 ∧ ValsAt K H vv vals ∧ Dp K H va (nxD nx) ∧
  (packGo ((p.slots.map fun s => (s, p.cellsOf s)).set i (.held own ((p.slots[i]?.map Slot.turn).getD 0) 0 0 nx, vals)) 0).2.length ≤ 24 ∧ ∀ H' r, XX T H H' → Dp K H' r (p.withValues i own vals nx).d → Q r H'
section
variable {K : PySem.W.Frag} {T : List (Addr × Str)} {H H' : Hp}
theorem ixN_at {n i : Nat} (h : i < n) : ixN n (i : Int) = some i := by
  unfold ixN
  rw [if_pos (by omega), if_pos (by omega)]
  simp
theorem PairsAt.set {xs : List V} {l : List (Slot × List Nat)} (h : PairsAt K H xs l) (j : Nat) {v : V} {x : Slot × List Nat} (hv : ∃ c y z, v = .ref c ∧ SqT K H c [y, z] ∧ Dp K H y x.1.d ∧ ValsAt K H z x.2) : PairsAt K H (xs.set j v) (l.set j x) := by
  refine ⟨by rw [List.length_set, List.length_set]; exact h.1, fun i u y e1 e2 => ?_⟩
  by_cases hj : j = i
  · subst hj
    have l1 := (List.getElem?_eq_some_iff.mp e1).1
    have l2 := (List.getElem?_eq_some_iff.mp e2).1
    rw [List.length_set] at l1 l2
    rw [List.getElem?_set_self l1] at e1
    rw [List.getElem?_set_self l2] at e2
    cases e1
    cases e2
    exact hv
  · rw [List.getElem?_set_ne hj] at e1 e2
    exact h.2 i u y e1 e2
theorem PairsAt.snoc {xs : List V} {l : List (Slot × List Nat)} (h : PairsAt K H xs l) {v : V} {x : Slot × List Nat} (hv : ∃ c y z, v = .ref c ∧ SqT K H c [y, z] ∧ Dp K H y x.1.d ∧ ValsAt K H z x.2) : PairsAt K H (xs ++ [v]) (l ++ [x]) := by
  refine ⟨by rw [List.length_append, List.length_append, h.1]; rfl, fun i u y e1 e2 => ?_⟩
  by_cases hi : i < xs.length
  · rw [List.getElem?_append_left hi] at e1
    rw [List.getElem?_append_left (by rw [← h.1]; exact hi)] at e2
    exact h.2 i u y e1 e2
  · have l1 := (List.getElem?_eq_some_iff.mp e1).1
    rw [List.length_append, List.length_singleton] at l1
    have ei : i = xs.length := by omega
    subst ei
    rw [List.getElem?_append_right (Nat.le_refl _), Nat.sub_self] at e1
    rw [h.1, List.getElem?_append_right (Nat.le_refl _), Nat.sub_self] at e2
    cases e1
    cases e2
    exact hv
/-- pairs whose values lie in tuples -/
def PairsT (K : PySem.W.Frag) (H : Hp) (xs : List V) (l : List (Slot × List Nat)) : Prop := xs.length = l.length ∧ ∀ (i : Nat) (v : V) (x : Slot × List Nat), xs[i]? = some v → l[i]? = some x → ∃ c y b, v = .ref c ∧ SqT K H c [y, .ref b] ∧ Dp K H y x.1.d ∧ SqT K H b (x.2.map fun (n : Nat) => V.int (n : Int))
theorem PairsT.xm {S : Addr → Prop} {xs : List V} {l : List (Slot × List Nat)} (h : PairsT K H xs l) (a : XM T S H H') : PairsT K H' xs l := ⟨h.1, fun i v x e1 e2 => by
  obtain ⟨c, y, b, q1, q2, q3, q4⟩ := h.2 i v x e1 e2
  exact ⟨c, y, b, q1, a.sqT q2, Dp.xm a _ _ (slot_flat _) q3, a.sqT q4⟩⟩
theorem PairsT.pairs {xs : List V} {l : List (Slot × List Nat)} (h : PairsT K H xs l) : PairsAt K H xs l := ⟨h.1, fun i v x e1 e2 => by
  obtain ⟨c, y, b, q1, q2, q3, q4⟩ := h.2 i v x e1 e2
  exact ⟨c, y, _, q1, q2, q3, b, rfl, .inl q4⟩⟩
theorem PairsT.snoc {xs : List V} {l : List (Slot × List Nat)} (h : PairsT K H xs l) {v : V} {x : Slot × List Nat} (hv : ∃ c y b, v = .ref c ∧ SqT K H c [y, .ref b] ∧ Dp K H y x.1.d ∧ SqT K H b (x.2.map fun (n : Nat) => V.int (n : Int))) : PairsT K H (xs ++ [v]) (l ++ [x]) := by
  refine ⟨by rw [List.length_append, List.length_append, h.1]; rfl, fun i u y e1 e2 => ?_⟩
  by_cases hi : i < xs.length
  · rw [List.getElem?_append_left hi] at e1
    rw [List.getElem?_append_left (by rw [← h.1]; exact hi)] at e2
    exact h.2 i u y e1 e2
  · have l1 := (List.getElem?_eq_some_iff.mp e1).1
    rw [List.length_append, List.length_singleton] at l1
    obtain rfl : i = xs.length := by omega
    rw [List.getElem?_append_right (Nat.le_refl _), Nat.sub_self] at e1
    rw [h.1, List.getElem?_append_right (Nat.le_refl _), Nat.sub_self] at e2
    cases e1
    cases e2
    exact hv
end
section
variable {P : Program} {w : World} {K : PySem.W.Frag} {mg : Str → Option Value} {base : Heap} {T : List (Addr × Str)}
abbrev wvN : List Str := ["page", "at", "word", "values", "after", "held", "slot"]
theorem sc_with_values : FnScope wvN ["page", "at", "word", "values", "after"] (defScope s_with_values) := ⟨rfl, rfl, rfl, by decide +kernel, rfl, by decide +kernel, by decide +kernel⟩
theorem ok_with_values {f : Addr} {fd : FuncData} (F : L2.Fun K "with_values" "with_values" s_with_values f fd) (cC : Cal P w K mg base CX0 "_cells_of" ["page", "slot"] 1 (spCellsOf K T)) (cP : Cal P w K mg base CX0 "_packed" ["held"] 1 (spPacked K T)) : FnOk P w K mg base CX0 2 f fd ["page", "at", "word", "values", "after"] (spWithValues K T) := by
  refine F.ok sc_with_values (fun vs H Q E h => by obtain ⟨v, p, i, own, vv, vals, va, nx, rfl, _⟩ := h; rfl) (fun cdv A outer s H vs Q E hr h => ?_)
  obtain ⟨v, p, i, own, vv, vals, va, nx, rfl, hd, hf, hi, hv, ha, hlen, k⟩ := h
  have nd := sc_with_values.nd
  obtain ⟨h8, h24, hfit⟩ := hf
  refine ⟨_, pss_cons (ps_setLc (i := 5) (own := [("slot", 6)]) (g := gName 6) (tt := tYes) (by rfl) nd rfl rfl (sw_true rfl rfl rfl (by decide +kernel)) (pi_tup (pe_ix ix_tup (pv 0) pe_int (fun _ _ => rfl))) (blkOk_by (own := [("slot", 6)]) (N := wvN) (sc := defScope s_with_values) (by decide +kernel))
      (fun _ _ _ _ _ => pg_name (i := 6) nd rfl (.inl rfl)) (fun _ _ _ _ _ => pts_nil) (fun _ _ _ _ _ => pe_tup (pa_cons (pv 6) (pa_cons (pe_cal cC hr (pa_cons (pv 0) (pa_cons (pv 6) pa_nil))) pa_nil))))
    (pss_cons (ps_asg (pe_tup (pa_cons (pe_tup (pa_cons (pv 2) (pa_cons (pe_ix ix_tup (pe_ix ix_tup (pe_ix ix_tup (pv 0) pe_int (fun _ _ => rfl)) (pv 1) (fun _ _ => rfl)) pe_int (fun _ _ => rfl)) (pa_cons pe_int (pa_cons pe_int (pa_cons (pv 4) pa_nil)))))) (pa_cons (pv 3) pa_nil))) (pg_sub (pv 5) (pv 1) set_list))
    (pss_one (ps_ret (pe_cal cP hr (pa_cons (pv 5) pa_nil))))), ?_⟩
  obtain ⟨a, x, y, rfl, hS, hx, hy⟩ := dp_page hd
  obtain ⟨b, xs, rfl, hs, hax, hl⟩ := dp_slots hx
  refine ⟨_, rfl, a, _, 0, _, rfl, rfl, hS, atI0, b, rfl, ⟨xs, hs⟩, fun D hD => ?_⟩
  refine lc_it walk_tup (fun j H' => XX T H H' ∧ ∃ acc, H' D = some (.lst acc) ∧ PairsT K H' acc ((p.slots.take j).map fun s => (s, p.cellsOf s))) ⟨XX.new hD, [], upd_same, ⟨rfl, fun i v x e => by simp at e⟩⟩ (fun j H' _ pv => pv.1.sqT hs) (fun j u H' H'' hj pv yy => ?_) fun H' pv => ?_
  · obtain ⟨rfl, eu⟩ := yy
    obtain ⟨x1, acc, e1, hp⟩ := pv
    have hj8 : j < p.slots.length := by omega
    have e2 : p.slots[j]? = some (p.slots[j]) := List.getElem?_eq_getElem hj8
    obtain ⟨u2, eu2, du⟩ := slot_at (Dp.xxAll x1 _ _ hax) e2
    rw [eu] at eu2
    cases eu2
    have la : acc.length = j := by rw [hp.1, List.length_map, List.length_take]; omega
    refine ⟨rfl, ⟨u, rfl, _, rfl, u, rfl, _, p, u, _, rfl, Dp.xx x1 _ _ hd, h24, du, (fun o t bb n z e => hfit o t bb n z (by rw [← e]; exact List.getElem_mem hj8)), fun H2 c x2 hc => ⟨(by show 2 ≤ sizeLine; decide), fun t ht => ?_⟩⟩⟩
    have xt := XX.new (T := T) (o := .tup [u, .ref c]) ht
    have e1t : upd H2 t (.tup [u, .ref c]) D = some (.lst acc) := xt.lst (x2.lst e1)
    have x3 := x2.trans xt
    have m : XM T (fun b => b = D) (upd H2 t (.tup [u, .ref c])) (upd (upd H2 t (.tup [u, .ref c])) D (.lst (acc ++ [.ref t]))) := XM.upd e1t rfl True.intro
    refine ⟨acc, e1t, ?_, (x1.trans x3).atD hD e1t, acc ++ [.ref t], upd_same, ?_⟩
    · rw [la]; exact Nat.lt_of_lt_of_le (show j < 100 by omega) (by decide)
    · rw [List.take_succ, e2, List.map_append]
      exact (PairsT.snoc (hp.xm (x3.xm (S := fun _ => False))) ⟨t, u, c, rfl, SqT.of upd_same, Dp.xx x3 _ _ du, xt.sqT hc⟩).xm m
  · obtain ⟨x1, acc, e1, hp⟩ := pv
    rw [List.take_of_length_le (by omega)] at hp
    have hi8 : i < p.slots.length := by omega
    have e2 : p.slots[i]? = some (p.slots[i]) := List.getElem?_eq_getElem hi8
    obtain ⟨u2, eu2, du⟩ := slot_at (Dp.xxAll x1 _ _ hax) e2
    have ht1 : ∃ cu us, u2 = .ref cu ∧ SqT K H' cu us ∧ atI us 1 = some (.int ((p.slots[i]).turn : Int)) := by
      cases q : p.slots[i] with
      | free t =>
        rw [q] at du
        obtain ⟨cu, rfl, hc⟩ := dp_free du
        exact ⟨cu, _, rfl, hc, atI_nat (j := 1) rfl⟩
      | held o t b n z =>
        rw [q] at du
        obtain ⟨cu, x0, rfl, hc, _⟩ := dp_held du
        exact ⟨cu, _, rfl, hc, atI_nat (j := 1) rfl⟩
    obtain ⟨cu, us, rfl, hcu, eat⟩ := ht1
    refine ⟨_, rfl, _, rfl, a, _, 0, _, rfl, rfl, x1.sqT hS, atI0, _, rfl, b, _, (i : Int), _, rfl, rfl, x1.sqT hs, atI_nat eu2, cu, _, 1, _, rfl, rfl, hcu, eat, _, rfl, (by show 5 ≤ sizeLine; decide), fun t5 h5 => ?_⟩
    refine ⟨_, rfl, (by show 2 ≤ sizeLine; decide), fun t2 h2 => ?_⟩
    have y5 := XX.new (T := T) (o := .tup [.str (wordOf own), .int ((p.slots[i]).turn : Int), .int 0, .int 0, va]) h5
    have y2 := XX.new (T := T) (o := .tup [.ref t5, vv]) h2
    have x3 := (x1.trans y5).trans y2
    have e3 := y2.lst (y5.lst e1)
    have la : acc.length = 8 := by rw [hp.1, List.length_map]; exact h8
    refine ⟨_, rfl, _, rfl, D, acc, (i : Int), i, rfl, rfl, e3, ixN_at (by omega), ?_⟩
    have m := XM.upd (T := T) (S := fun b => b = D) (o' := .lst (acc.set i (.ref t2))) e3 rfl True.intro
    have x4 := x3.atD (acc' := acc.set i (.ref t2)) hD e3
    have eg : (p.slots[i]?.map Slot.turn).getD 0 = (p.slots[i]).turn := by rw [e2]; rfl
    refine ⟨_, rfl, D, _, _, rfl, SqL.of upd_same, ((hp.xm ((y5.trans y2).xm (S := fun _ => False))).xm m).pairs.set i ⟨t2, .ref t5, vv, rfl, m.sqT (SqT.of upd_same), ?_, hv.xx x4⟩, ?_, hlen, fun H5 r x5 dr => k H5 r (x4.trans x5) dr⟩
    · rw [eg]
      refine Dp.xm m _ _ (slot_flat _) (.tup (y2.sqT (SqT.of upd_same)) (.cons (.str _) (.cons (.int _) (.cons (.int 0) (.cons (.int 0) (.cons (Dp.xx x3 _ _ ha) .nil))))))
    · rw [List.length_set, List.length_map]; omega
end
end GX
/-! a stable sort by a key -/
namespace GX
def insK {α : Type} (g : α → Int) (a : α) : List α → List α
  | [] => [a]
  | b :: l => if g a ≤ g b then a :: b :: l else b :: insK g a l
def sortK {α : Type} (g : α → Int) : List α → List α
  | [] => []
  | a :: l => insK g a (sortK g l)
section
variable {α β : Type} {g : α → Int}
theorem insK_perm (a : α) : ∀ l : List α, (insK g a l).Perm (a :: l)
  | [] => .refl _
  | b :: l => by
    unfold insK
    split
    · exact .refl _
    · exact ((insK_perm a l).cons b).trans (.swap a b l)
theorem sortK_perm : ∀ l : List α, (sortK g l).Perm l
  | [] => .refl _
  | a :: l => (insK_perm a _).trans ((sortK_perm l).cons a)
theorem insK_sorted (a : α) : ∀ l : List α, l.Pairwise (fun x y => g x ≤ g y) → (insK g a l).Pairwise (fun x y => g x ≤ g y)
  | [], _ => by simp [insK]
  | b :: l, h => by
    obtain ⟨h1, h2⟩ := List.pairwise_cons.mp h
    unfold insK
    split
    · rename_i hab
      refine List.pairwise_cons.mpr ⟨fun y hy => ?_, h⟩
      rcases List.mem_cons.mp hy with rfl | hy
      · exact hab
      · exact Int.le_trans hab (h1 y hy)
    · rename_i hab
      refine List.pairwise_cons.mpr ⟨fun y hy => ?_, insK_sorted a l h2⟩
      rcases List.mem_cons.mp ((insK_perm a l).mem_iff.mp hy) with rfl | hy
      · omega
      · exact h1 y hy
theorem sortK_sorted : ∀ l : List α, (sortK g l).Pairwise (fun x y => g x ≤ g y)
  | [] => .nil
  | a :: l => insK_sorted a _ (sortK_sorted l)
theorem insK_filter (a : α) (c : Int) : ∀ l : List α, l.Pairwise (fun x y => g x ≤ g y) → (insK g a l).filter (fun x => g x == c) = (a :: l).filter (fun x => g x == c)
  | [], _ => rfl
  | b :: l, h => by
    obtain ⟨h1, h2⟩ := List.pairwise_cons.mp h
    unfold insK
    split
    · rfl
    · rename_i hab
      rw [List.filter_cons, insK_filter a c l h2]
      by_cases ha : g a = c
      · have hb : ¬ g b = c := by omega
        simp [List.filter_cons, ha, hb]
      · simp [List.filter_cons, ha]
theorem sortK_filter (c : Int) : ∀ l : List α, (sortK g l).filter (fun x => g x == c) = l.filter (fun x => g x == c)
  | [] => rfl
  | a :: l => by
    show (insK g a (sortK g l)).filter _ = _
    rw [insK_filter a c _ (sortK_sorted l), List.filter_cons, List.filter_cons, sortK_filter c l]
theorem sorted_unique : ∀ {l m : List α}, l.Pairwise (fun x y => g x ≤ g y) → m.Pairwise (fun x y => g x ≤ g y) → (∀ c, l.filter (fun x => g x == c) = m.filter (fun x => g x == c)) → l = m
  | [], [], _, _, _ => rfl
  | [], b :: m, _, _, h => by have := h (g b); simp at this
  | a :: l, [], _, _, h => by have := h (g a); simp at this
  | a :: l, b :: m, h1, h2, h => by
    obtain ⟨p1, p2⟩ := List.pairwise_cons.mp h1
    obtain ⟨q1, q2⟩ := List.pairwise_cons.mp h2
    have mem1 : a ∈ b :: m := by
      have : a ∈ (b :: m).filter (fun x => g x == g a) := by rw [← h]; simp
      exact (List.mem_filter.mp this).1
    have mem2 : b ∈ a :: l := by
      have : b ∈ (a :: l).filter (fun x => g x == g b) := by rw [h]; simp
      exact (List.mem_filter.mp this).1
    have e1 : g b ≤ g a := by
      rcases List.mem_cons.mp mem1 with z | z
      · rw [z]; exact Int.le_refl _
      · exact q1 a z
    have e2 : g a ≤ g b := by
      rcases List.mem_cons.mp mem2 with z | z
      · rw [z]; exact Int.le_refl _
      · exact p1 b z
    have eg : g a = g b := by omega
    have hc := h (g a)
    rw [List.filter_cons, List.filter_cons] at hc
    simp only [beq_self_eq_true, if_true, eg] at hc
    injection hc with ea et
    subst ea
    refine congrArg _ (sorted_unique p2 q2 fun c => ?_)
    have hc := h c
    rw [List.filter_cons, List.filter_cons] at hc
    split at hc
    · injection hc
    · exact hc
theorem insK_map (f : β → α) (b : β) : ∀ l : List β, insK g (f b) (l.map f) = (insK (fun x => g (f x)) b l).map f
  | [] => rfl
  | c :: l => by
    simp only [List.map_cons, insK, insK_map f b l]
    split <;> rfl
theorem sortK_map (f : β → α) : ∀ l : List β, sortK g (l.map f) = (sortK (fun x => g (f x)) l).map f
  | [] => rfl
  | b :: l => by
    show insK g (f b) (sortK g (l.map f)) = _
    rw [sortK_map f l, insK_map]
    rfl
end
theorem st_eq {g : Int → Int} {ns out : List Int} (h : StSorted g ns out) : out = sortK g ns :=
  sorted_unique h.2.1 (sortK_sorted ns) fun c => by rw [h.2.2 c, sortK_filter]
end GX
set_option maxHeartbeats 2000000
namespace GX
open PySem PySem.Spec PyProof.Rows L2 LamX
theorem box_div {i j : Int} (h0 : 0 < j) (h1 : j ≤ 1000000000000000000) : CDivW i j := by
  have e60 : (2 : Nat) ^ 60 = 1152921504606846976 := by decide
  exact wide_div (b := 60) h0 (by rw [e60]; omega) (by decide) (by decide)
/-- the box of the script's numbers -/
structure BoxAt (H : Hp) (b l : Addr) (ns : List Int) (z : Int) : Prop where
  hb : H b = some (.lst [.ref l, .int z])
  hl : H l = some (.lst (ns.map V.int))
  ne : b ≠ l
  lo : 0 ≤ z
  hi : z < 2147483647
  len : ns.length ≤ 63
def spBegun (K : PySem.W.Frag) (T : List (Addr × Str)) : Sp := fun vs H Q _ => ∃ a ns, vs = [.ref a] ∧ SqL K H a (ns.map V.int) ∧ ns.length ≤ 63 ∧ ∀ H' b l z, XX T H H' → BoxAt H' b l ns z → H b = none → H l = none → Q (.ref b) H'
def spTake (T : List (Addr × Str)) : Sp := fun vs H Q _ => ∃ b l ns z m, vs = [.ref b, .int m] ∧ BoxAt H b l ns z ∧ 0 < m ∧ m ≤ 1000000000000000000 ∧
  ∀ H' ns' z' r, XM T (fun c => c = b ∨ c = l) H H' → BoxAt H' b l ns' z' → 0 ≤ r → r < m → Q (.int r) H'
section
variable {K : PySem.W.Frag} {T : List (Addr × Str)} {H H' : Hp} {b l : Addr} {ns : List Int} {z : Int}
theorem BoxAt.xx (h : BoxAt H b l ns z) (a : XX T H H') : BoxAt H' b l ns z := ⟨a.lst h.hb, a.lst h.hl, h.ne, h.lo, h.hi, h.len⟩
theorem BoxAt.xm {S : Addr → Prop} (h : BoxAt H b l ns z) (a : XM T S H H') (h1 : ¬ S b) (h2 : ¬ S l) : BoxAt H' b l ns z := ⟨a.lst h.hb h1, a.lst h.hl h2, h.ne, h.lo, h.hi, h.len⟩
theorem dp_ints (H : Hp) : ∀ ns : List Int, DpAll K H (ns.map V.int) (ns.map PyData.int)
  | [] => .nil
  | n :: ns => .cons (.int n) (dp_ints H ns)
theorem canLay_ints : ∀ ns : List Int, PyData.canLayAll0 (ns.map PyData.int) = true
  | [] => rfl
  | n :: ns => by
    show (PyData.canLay0 (.int n) && PyData.canLayAll0 (ns.map PyData.int)) = true
    rw [canLay_ints ns]; rfl
theorem depth_ints : ∀ ns : List Int, PyData.depthAll (ns.map PyData.int) = 0
  | [] => rfl
  | n :: ns => by
    show max (PyData.depth (.int n)) (PyData.depthAll (ns.map PyData.int)) = 0
    rw [depth_ints ns]; rfl
theorem shaped_ints (ns : List Int) : SeqAt.shaped (.list (ns.map PyData.int)) = true := by
  unfold SeqAt.shaped
  have h1 : PyData.canLay0 (.list (ns.map PyData.int)) = true := by
    show PyData.canLayAll0 (ns.map PyData.int) = true
    exact canLay_ints ns
  have h2 : PyData.depth (.list (ns.map PyData.int)) = 1 := by
    show PyData.depthAll (ns.map PyData.int) + 1 = 1
    rw [depth_ints]
  rw [h1, h2]
  rfl
theorem eqv_nil (ns : List Int) : PyData.eqv (.list (ns.map PyData.int)) (.list []) = ns.isEmpty := by
  cases ns with
  | nil => rfl
  | cons n r => rfl
theorem shaped_nil : SeqAt.shaped (.list []) = true := by decide +kernel
end
end GX
namespace GX
open PySem PySem.Spec PyProof.Rows L2 LamX
/-! ### a call of a slot's thing inside a try -/
section
variable {X : Cx}
def tActS (P : Program) (w : World) (K : PySem.W.Frag) (mg : Str → Option Value) (base : Heap) (k i : Nat) (E : L2.St → XK) : TE := fun σ H Q => tAct P w K mg base k i (E σ) σ H Q
theorem pe_act0S {k i : Nat} {a : Str} {E : L2.St → XK} {p1 p2 : Pos} (hr : Room k X.A) (hx : ∀ σ, PassesAt (L2.CX X.prog X.w) X σ (E σ)) (hN : X.N[i]? = some a) (hv : Vis X.env.scope a) (hd : (a == ("__debug__" : Str)) = false := by decide) (hcd : (a == ("__classdict__" : Str)) = false := by decide) :
    PE X (.Call (.Name a p1) [] [] p2) (tActS X.prog X.w X.K X.mg X.base k i E) := by
  refine ⟨fun pins s σ H Q I h => ?_⟩
  obtain ⟨f, ph, sp, hs, ho, hc, hp, ht⟩ := h
  refine wpAny_Call_Name_kw (thn ((pe_var (pos := p1) (i := i) hN hv hd hcd).run pins s σ H (fun v H1 => v = .ref f ∧ H1 = H) I ⟨.ref f, hs, rfl, rfl⟩) fun u s1 hh => ?_)
  obtain ⟨v, H1, I1, r1, ev, eH⟩ := hh
  subst ev
  subst eH
  obtain rfl : u = Value.ref f := r1
  refine PySem.W.callWith_F0 (ho.at I1) ?_
  refine wpAny_call (codeAny_mono (hc X.A X.stack s1 H1 Q (E σ) hr I1.env0 hp ht) fun r s' hq => ?_)
  cases r with
  | error e => exact hx σ pins H1 s1 e s' I1 hq
  | ok fl =>
    cases fl with
    | ret u => exact I1.after hq
    | next => exact False.elim hq
    | brk => exact False.elim hq
    | cont => exact False.elim hq
/-! ### list.count of flat values -/
def rCntF (K : PySem.W.Frag) : V → List V → Hp → VK → Prop := fun x xs H Q => ∃ (p : Addr) (ys : List V) (y : V), x = .ref p ∧ xs = [y] ∧ SqL K H p ys ∧ flatV y = true ∧ ys.all flatV = true ∧ Q (.int ((ys.countP fun z => eqV z y : Nat) : Int)) H
theorem eqU_count {y : V} : ∀ {ys : List V} {us : List Value}, Vals ys us → ys.all flatV = true → us.countP (eqU y) = ys.countP fun z => eqV z y
  | _, _, .nil, _ => rfl
  | _, _, .cons r t, f => by
    rw [List.all_cons, Bool.and_eq_true] at f
    rw [List.countP_cons, List.countP_cons, eqU_count t f.2, eqU_of r f.1]
theorem mt_fcount : MtR X "list.count" (rCntF X.K) := by
  intro pins s σ H x xs v us Q I rx rxs h
  obtain ⟨p, ys, y, rfl, rfl, hs, fy, fys, q⟩ := h
  cases rx
  cases rxs with
  | cons ry rt =>
    rename_i uy ut
    cases rt
    obtain ⟨its, rv, ⟨⟨cls, dd, data, sl⟩, n, ho, hc, hdn, hd⟩, hlen⟩ := I.list hs
    simp only at hc hd
    subst hc hd
    refine call_meets PySem.F.slot_list_count ⟨_, ho, rfl⟩ PySem.F.entry_list_count (PySem.F.args_list_count_2 _ _)
      (SeqAt.list_countAt p its.toArray n dd sl uy (eqU y)) ⟨ho, fun u' hu' => mem_eqAt ry fy rv fys u' (by simpa using hu'), ?_⟩
    have ec : its.toArray.toList.countP (eqU y) = ys.countP fun z => eqV z y := eqU_count rv fys
    refine ⟨.int ((ys.countP fun z => eqV z y : Nat) : Int), H, I.tok _, ⟨s.toks, ?_⟩, q⟩
    show Value.int ((its.toArray.toList.countP (eqU y) : Nat) : Int) s.toks = _
    rw [ec]
end
theorem pss_ex {X : Cx} {α : Type} {b : List Stmt} {Pr : α → Prop} {t : α → TS} (h : ∀ y, Pr y → PSs X b (t y)) : PSs X b (fun D σ H => ∃ y, Pr y ∧ t y D σ H) := ⟨fun pins s σ H D I ht => by
  obtain ⟨y, hy, ht⟩ := ht
  exact (h y hy).run pins s σ H D I ht⟩
/-! ### the words of refusals -/
def wordsE : List Str := ["BadCount", "BadDisk", "BadPage", "BadRow", "BadText", "Full", "NoPage", "NoRow", "Stopped"]
/-- the nine classes' places -/
structure ETab (mg : Str → Option Value) (cE : Addr) (cs : Fin 9 → Addr) : Prop where
  gE : mg "PageError" = some (.ref cE)
  g0 : mg "BadCount" = some (.ref (cs 0))
  g1 : mg "BadDisk" = some (.ref (cs 1))
  g2 : mg "BadPage" = some (.ref (cs 2))
  g3 : mg "BadRow" = some (.ref (cs 3))
  g4 : mg "BadText" = some (.ref (cs 4))
  g5 : mg "Full" = some (.ref (cs 5))
  g6 : mg "NoPage" = some (.ref (cs 6))
  g7 : mg "NoRow" = some (.ref (cs 7))
  g8 : mg "Stopped" = some (.ref (cs 8))
/-- an error of the i-th class -/
structure EIs (K : PySem.W.Frag) (cE : Addr) (cs : Fin 9 → Addr) (i : Fin 9) (D : Addr) : Prop where
  ex : ExcC K D
  top : PySem.W.exmOne K (.ref D) (.ref cE) = some true
  is_ : ∀ j : Fin 9, PySem.W.kitOne K (.ref D) (.ref (cs j)) = some (decide (j = i))
  ve : PySem.W.kitOne K (.ref D) (.type "ValueError") = some true
def toldD (i : Fin 9) : PyData := .tuple [.str (wordsE.getD i.1 ""), .int 0]
/-- _law_told: what the callee tells, or its refusal's word -/
def spTold (P : Program) (w : World) (K : PySem.W.Frag) (mg : Str → Option Value) (base : Heap) (T : List (Addr × Str)) (cE : Addr) (cs : Fin 9 → Addr) (k : Nat) : Sp := fun vs H Q _ => ∃ f ph sp, vs = [.ref f] ∧ FnObj H f ∧ CallOk P w K mg base k f ph sp ∧ ph H ∧
  ∀ E : XK, (∀ H1 i D, i.1 ≠ 4 → EIs K cE cs i D → (∀ H' v, XX T H1 H' → Dp K H' v (toldD i) → Q v H') → E (.ref D) none H1) → sp H Q E
end GX
namespace GX
open PySem PySem.Spec PyProof.Rows L2 LamX
mutual
def okD : PyData → Bool
  | .none => true
  | .bool _ => true
  | .int _ => true
  | .str _ => true
  | .tuple ds => decide (ds.length ≤ 1000) && okAll ds
  | .list ds => decide (ds.length ≤ 1000) && okAll ds
  | .dict _ => false
def okAll : List PyData → Bool
  | [] => true
  | d :: ds => okD d && okAll ds
end
/-- two values that are the same data, of depth below n -/
def spAl (K : PySem.W.Frag) : Nat → Sp
  | 0 => fun _ _ _ _ => False
  | n + 1 => fun vs H Q _ => ∃ a b d, vs = [a, b] ∧ Dp K H a d ∧ Dp K H b d ∧ okD d = true ∧ PyData.depth d ≤ n ∧ Q (.bl true) H
/-- each of the works is refused, by the i-th word -/
def spAll (P : Program) (w : World) (K : PySem.W.Frag) (mg : Str → Option Value) (base : Heap) (T : List (Addr × Str)) (cE : Addr) (cs : Fin 9 → Addr) (k : Nat) : Sp := fun vs H Q _ => ∃ (a : Addr) (fs : List Addr) (v : V) (i : Fin 9), vs = [.ref a, v] ∧ SqL K H a (fs.map V.ref) ∧ Dp K H v (toldD i) ∧ i.1 ≠ 4 ∧
  (∀ f ∈ fs, ∀ H1, XX T H H1 → ∃ ph sp, FnObj H1 f ∧ CallOk P w K mg base k f ph sp ∧ ph H1 ∧ ∀ (Q : VK) (E : XK), (∀ H2 D, XX T H1 H2 → EIs K cE cs i D → E (.ref D) none H2) → sp H1 Q E) ∧ ∀ H', XX T H H' → Q (.bl true) H'
theorem depth_told (i : Fin 9) : PyData.depth (toldD i) ≤ 1 := by decide +revert +kernel
theorem ok_toldD (i : Fin 9) : okD (toldD i) = true := by decide +revert +kernel
end GX
/-! what is a page by isPage is a small thing without lists -/
namespace GX
open PySem PySem.Spec PyProof.Rows L2 LamX
structure Nice (d : PyData) (n : Nat) : Prop where
  fl : flatD d = true
  cl : PyData.canLay0 d = true
  ok : okD d = true
  dp : PyData.depth d ≤ n
theorem flatAll_of : ∀ {ds : List PyData}, (∀ d ∈ ds, flatD d = true) → flatAll ds = true
  | [], _ => rfl
  | d :: ds, h => by
    show (flatD d && flatAll ds) = true
    rw [h d List.mem_cons_self, flatAll_of fun e he => h e (List.mem_cons_of_mem _ he)] <;> rfl
theorem canLayAll_of : ∀ {ds : List PyData}, (∀ d ∈ ds, PyData.canLay0 d = true) → PyData.canLayAll0 ds = true
  | [], _ => rfl
  | d :: ds, h => by
    show (PyData.canLay0 d && PyData.canLayAll0 ds) = true
    rw [h d List.mem_cons_self, canLayAll_of fun e he => h e (List.mem_cons_of_mem _ he)] <;> rfl
theorem okAll_of : ∀ {ds : List PyData}, (∀ d ∈ ds, okD d = true) → okAll ds = true
  | [], _ => rfl
  | d :: ds, h => by
    show (okD d && okAll ds) = true
    rw [h d List.mem_cons_self, okAll_of fun e he => h e (List.mem_cons_of_mem _ he)] <;> rfl
theorem depthAll_of {n : Nat} : ∀ {ds : List PyData}, (∀ d ∈ ds, PyData.depth d ≤ n) → PyData.depthAll ds ≤ n
  | [], _ => Nat.zero_le _
  | d :: ds, h => by
    show max (PyData.depth d) (PyData.depthAll ds) ≤ n
    exact Nat.max_le.mpr ⟨h d List.mem_cons_self, depthAll_of fun e he => h e (List.mem_cons_of_mem _ he)⟩
theorem Nice.mono {d : PyData} {m n : Nat} (h : Nice d m) (hm : m ≤ n) : Nice d n := ⟨h.fl, h.cl, h.ok, Nat.le_trans h.dp hm⟩
theorem nice_tuple {ds : List PyData} {n : Nat} (hl : ds.length ≤ 1000) (h : ∀ d ∈ ds, Nice d n) : Nice (.tuple ds) (n + 1) := by
  refine ⟨flatAll_of fun d hd => (h d hd).fl, canLayAll_of fun d hd => (h d hd).cl, ?_, ?_⟩
  · show (decide (ds.length ≤ 1000) && okAll ds) = true
    rw [decide_eq_true hl, okAll_of fun d hd => (h d hd).ok] <;> rfl
  · show PyData.depthAll ds + 1 ≤ n + 1
    exact Nat.succ_le_succ (depthAll_of fun d hd => (h d hd).dp)
theorem nice_int (i : Int) : Nice (.int i) 0 := ⟨rfl, rfl, rfl, Nat.le_refl _⟩
theorem nice_none : Nice .none 0 := ⟨rfl, rfl, rfl, Nat.le_refl _⟩
theorem nice_num {d : PyData} {lo hi : Int} (h : isNum d lo hi = true) : Nice d 0 := by
  obtain ⟨i, rfl, _, _⟩ := isNum_int h
  exact nice_int i
theorem nice_next {d : PyData} (h : isNext d = true) : Nice d 1 := by
  match d, h with
  | .none, _ => exact nice_none.mono (by decide)
  | .tuple [a, b], h =>
    have h' := Bool.and_eq_true_iff.mp (show (isNum a 0 11 && isNum b 0 7) = true from h)
    refine nice_tuple (n := 0) (by simp) fun d hd => ?_
    rcases List.mem_cons.mp hd with e | hd
    · rw [e]; exact nice_num h'.1
    · rw [List.mem_singleton.mp hd]; exact nice_num h'.2
theorem eqv_strL {w : PyData} {x : Str} (h : PyData.eqv w (.str x) = true) : w = .str x := by
  cases w with
  | str y =>
    have h : (y == x) = true := h
    rw [eq_of_beq h]
  | _ => exact absurd h (by simp [PyData.eqv])
def sizeR (b s : PyData) (least : Int) : Bool := match b with
  | .int bi => isNum s least (24 - bi)
  | _ => false
theorem holds_4 (w t b s n : PyData) (least : Int) : holds [w, t, b, s, n] least = (isNum t 0 99 && isNum b 0 24 && sizeR b s least && isNext n) := by cases b <;> rfl
def freeR : List PyData → Bool
  | [t] => isNum t 0 100
  | _ => false
theorem isSlot_cons (w : PyData) (r : List PyData) : isSlot (.tuple (w :: r)) = if PyData.eqv w (.str "free") = true then freeR r else if PyData.eqv w (.str "row") = true then holds (w :: r) 0 else PyData.eqv w (.str "part") && holds (w :: r) 1 := by
  rcases r with _ | ⟨t, _ | ⟨u, r⟩⟩ <;> rfl
theorem nice_holds {w : PyData} {r : List PyData} {least : Int} (hw : Nice w 0) (h : holds (w :: r) least = true) : Nice (.tuple (w :: r)) 2 := by
  match r, h with
  | [t, b, s, n], h =>
    have h' := h
    rw [holds_4, Bool.and_eq_true, Bool.and_eq_true, Bool.and_eq_true] at h'
    obtain ⟨⟨⟨h1, h2⟩, h3⟩, h4⟩ := h'
    obtain ⟨bi, rfl, _, _⟩ := isNum_int h2
    have h3 : isNum s least (24 - bi) = true := h3
    refine nice_tuple (by simp) fun d hd => ?_
    rcases List.mem_cons.mp hd with e | hd
    · rw [e]; exact hw.mono (by decide)
    · rcases List.mem_cons.mp hd with e | hd
      · rw [e]; exact (nice_num h1).mono (by decide)
      · rcases List.mem_cons.mp hd with e | hd
        · rw [e]; exact (nice_num h2).mono (by decide)
        · rcases List.mem_cons.mp hd with e | hd
          · rw [e]; exact (nice_num h3).mono (by decide)
          · rw [List.mem_singleton.mp hd]; exact nice_next h4
theorem nice_lit {x : Str} (h : PyData.canLay0 (.str x) = true) : Nice (.str x) 0 := ⟨rfl, h, rfl, Nat.le_refl _⟩
theorem nice_slot {d : PyData} (h : isSlot d = true) : Nice d 2 := by
  match d, h with
  | .tuple (w :: r), h =>
    rw [isSlot_cons] at h
    by_cases e1 : PyData.eqv w (.str "free") = true
    · rw [if_pos e1] at h
      have h' : freeR r = true := h
      clear h
      obtain rfl := eqv_strL e1
      match r, h' with
      | [t], h' =>
        refine (nice_tuple (n := 0) (by simp) fun d hd => ?_).mono (by decide)
        rcases List.mem_cons.mp hd with e | hd
        · rw [e]; exact nice_lit (by decide +kernel)
        · rw [List.mem_singleton.mp hd]; exact nice_num h'
    · by_cases e2 : PyData.eqv w (.str "row") = true
      · rw [if_neg e1, if_pos e2] at h
        have h' := h
        obtain rfl := eqv_strL e2
        exact nice_holds (nice_lit (by decide +kernel)) h'
      · rw [if_neg e1, if_neg e2] at h
        have h' := h
        rw [Bool.and_eq_true] at h'
        obtain rfl := eqv_strL h'.1
        exact nice_holds (nice_lit (by decide +kernel)) h'.2
theorem isPage_parts {d : PyData} (h : isPage d = true) : ∃ s c, d = .tuple [.tuple s, .tuple c] ∧ s.length = 8 ∧ c.length = 24 ∧ (∀ x ∈ c, isNum x 0 99 = true) ∧ ∀ x ∈ s, isSlot x = true := by
  match d, h with
  | .tuple [.tuple s, .tuple c], h =>
    have h' : (isFrame (.tuple [.tuple s, .tuple c]) && s.all isSlot) = true := h
    rw [Bool.and_eq_true] at h'
    have h1 : (decide (s.length = 8) && decide (c.length = 24) && c.all fun x => isNum x 0 99) = true := h'.1
    rw [Bool.and_eq_true, Bool.and_eq_true] at h1
    exact ⟨s, c, rfl, of_decide_eq_true h1.1.1, of_decide_eq_true h1.1.2, List.all_eq_true.mp h1.2, List.all_eq_true.mp h'.2⟩
theorem isPage_of {s c : List PyData} (h1 : s.length = 8) (h2 : c.length = 24) (h3 : ∀ x ∈ c, isNum x 0 99 = true) (h4 : ∀ x ∈ s, isSlot x = true) : isPage (.tuple [.tuple s, .tuple c]) = true := by
  show (isFrame (.tuple [.tuple s, .tuple c]) && s.all isSlot) = true
  rw [Bool.and_eq_true]
  refine ⟨?_, List.all_eq_true.mpr h4⟩
  show (decide (s.length = 8) && decide (c.length = 24) && c.all fun x => isNum x 0 99) = true
  rw [Bool.and_eq_true, Bool.and_eq_true]
  exact ⟨⟨decide_eq_true h1, decide_eq_true h2⟩, List.all_eq_true.mpr h3⟩
theorem nice_page {d : PyData} (h : isPage d = true) : Nice d 4 := by
  obtain ⟨s, c, rfl, h1, h2, h3, h4⟩ := isPage_parts h
  refine nice_tuple (by simp) fun d hd => ?_
  rcases List.mem_cons.mp hd with e | hd
  · rw [e]; exact nice_tuple (by omega) fun x hx => nice_slot (h4 x hx)
  · rw [List.mem_singleton.mp hd]
    exact (nice_tuple (n := 0) (by omega) fun x hx => nice_num (h3 x hx)).mono (by decide)
theorem Nice.sh {d : PyData} {n : Nat} (h : Nice d n) (hn : n ≤ 64) : SeqAt.shaped d = true := by
  unfold SeqAt.shaped
  rw [h.cl, decide_eq_true (Nat.le_trans h.dp hn)] <;> rfl
/-! slots that are drawn -/
theorem num_of {i lo hi : Int} (h1 : lo ≤ i) (h2 : i ≤ hi) : isNum (.int i) lo hi = true := by
  show (decide (lo ≤ i) && decide (i ≤ hi)) = true
  rw [decide_eq_true h1, decide_eq_true h2] <;> rfl
theorem slot_free {t : Int} (h1 : 0 ≤ t) (h2 : t < 101) : isSlot (.tuple [.str "free", .int t]) = true := by
  have e : PyData.eqv (.str "free") (.str "free") = true := by decide +kernel
  rw [isSlot_cons]
  rw [if_pos e]
  exact num_of h1 (by omega)
theorem slot_row {t b s : Int} {n : PyData} (h1 : 0 ≤ t) (h2 : t < 100) (h3 : 0 ≤ b) (h4 : b < 25) (h5 : 0 ≤ s) (h6 : s < 25 - b) (h7 : isNext n = true) : isSlot (.tuple [.str "row", .int t, .int b, .int s, n]) = true := by
  have e1 : ¬ PyData.eqv (.str "row") (.str "free") = true := by decide +kernel
  have e2 : PyData.eqv (.str "row") (.str "row") = true := by decide +kernel
  rw [isSlot_cons]
  rw [if_neg e1, if_pos e2]
  rw [holds_4]
  show (isNum (.int t) 0 99 && isNum (.int b) 0 24 && isNum (.int s) 0 (24 - b) && isNext n) = true
  rw [num_of h1 (by omega), num_of h3 (by omega), num_of h5 (by omega), h7] <;> rfl
theorem slot_part {t b s : Int} {n : PyData} (h1 : 0 ≤ t) (h2 : t < 100) (h3 : 0 ≤ b) (h4 : b < 24) (h5 : 1 ≤ s) (h6 : s < 25 - b) (h7 : isNext n = true) : isSlot (.tuple [.str "part", .int t, .int b, .int s, n]) = true := by
  have e1 : ¬ PyData.eqv (.str "part") (.str "free") = true := by decide +kernel
  have e2 : ¬ PyData.eqv (.str "part") (.str "row") = true := by decide +kernel
  have e3 : PyData.eqv (.str "part") (.str "part") = true := by decide +kernel
  rw [isSlot_cons]
  rw [if_neg e1, if_neg e2, e3]
  rw [holds_4]
  show (true && (isNum (.int t) 0 99 && isNum (.int b) 0 24 && isNum (.int s) 1 (24 - b) && isNext n)) = true
  rw [num_of h1 (by omega), num_of h3 (by omega), num_of h5 (by omega), h7] <;> rfl
end GX
namespace GX
open PySem PySem.Spec PyProof.Rows L2 LamX
/-- _law_page: some page, drawn -/
def spLPage (K : PySem.W.Frag) (T : List (Addr × Str)) : Sp := fun vs H Q _ => ∃ b l ns z, vs = [.ref b] ∧ BoxAt H b l ns z ∧
  ∀ H' ns' z' d v, XM T (fun c => c = b ∨ c = l) H H' → BoxAt H' b l ns' z' → Dp K H' v d → isPage d = true → Q v H'
end GX
/-! cells that are frozen while a def of the program is called, and hidden while a lambda's body runs: what is known there is known here -/
namespace GX
open PySem PySem.Spec PyProof.Rows L2 LamX
def Fz (S : Addr → Prop) (H : Hp) : Prop := ∀ b, S b → ∃ (o : Obj) (v : Option Value), H b = some (frzO o) ∧ o.data = .cell v
def WkE (H H' : Hp) : Prop := ∀ b o, H b = some o → (∀ ob, o ≠ frzO ob) → (∀ ps, o ≠ .tbl ps) → H' b = some o
section
variable {T : List (Addr × Str)} {S S' : Addr → Prop} {H H1 H2 H' : Hp} {K : PySem.W.Frag}
theorem WkE.rd (a : WkE H H') {p : Addr} {o : HO} (n : ∀ ob, o ≠ frzO ob) (t : ∀ ps, o ≠ .tbl ps) (m : ∀ ob ob', HO.frz ob o ≠ frzO ob') (h : Rd H p o) : Rd H' p o := by
  rcases h with h | ⟨ob, h⟩
  · exact .inl (a _ _ h n t)
  · exact .inr ⟨ob, a _ _ h (m ob) fun ps z => by cases z⟩
theorem WkE.sqL (a : WkE H H') {p : Addr} {xs : List V} (h : SqL K H p xs) : SqL K H' p xs := by
  rcases h with h | h
  · exact .inl (a.rd (fun ob z => by cases z) (fun ps z => by cases z) (fun ob ob' z => by cases z) h)
  · exact .inr h
theorem WkE.sqT (a : WkE H H') {p : Addr} {xs : List V} (h : SqT K H p xs) : SqT K H' p xs := by
  rcases h with h | h
  · exact .inl (a.rd (fun ob z => by cases z) (fun ps z => by cases z) (fun ob ob' z => by cases z) h)
  · exact .inr h
mutual
theorem Dp.wk (a : WkE H H') : ∀ (d : PyData) (v : V), Dp K H v d → Dp K H' v d
  | .none, _, h => by cases h; exact .non
  | .bool _, _, h => by cases h; exact .bl _
  | .int _, _, h => by cases h; exact .int _
  | .str _, _, h => by cases h; exact .str _
  | .list ds, _, h => by
    cases h with
    | lst hs ha => exact .lst (a.sqL hs) (Dp.wkAll a ds _ ha)
  | .tuple ds, _, h => by
    cases h with
    | tup hs ha => exact .tup (a.sqT hs) (Dp.wkAll a ds _ ha)
  | .dict _, _, h => by cases h
theorem Dp.wkAll (a : WkE H H') : ∀ (ds : List PyData) (vs : List V), DpAll K H vs ds → DpAll K H' vs ds
  | [], _, h => by cases h; exact .nil
  | d :: ds, _, h => by
    cases h with
    | cons h1 h2 => exact .cons (Dp.wk a d _ h1) (Dp.wkAll a ds _ h2)
end
theorem Fz.no (f : Fz S H) {b : Addr} {o : HO} (e : H b = some o) (n : ∀ ob, o ≠ frzO ob) : ¬ S b := fun h => by
  obtain ⟨ob, v, q, _⟩ := f b h
  rw [e] at q
  exact n ob (Option.some.inj q)
theorem Fz.un (f : Fz S H) {b : Addr} {o : HO} (e : H b = some o) (n : ∀ ob, o ≠ frzO ob) : unf S H b = some o := by rw [unf_out (f.no e n)]; exact e
theorem Fz.wk (f : Fz S H) : WkE H (unf S H) := fun b o e n _ => f.un e n
theorem Fz.xm (f : Fz S H) (a : XM T S' H H') : Fz S H' := fun b h => by
  obtain ⟨ob, v, q, d⟩ := f b h
  exact ⟨ob, v, a.frz _ _ _ q, d⟩
theorem Fz.xx (f : Fz S H) (a : XX T H H') : Fz S H' := f.xm (S' := fun _ => False) a.xm
theorem Fz.sub (f : Fz S H) (h : ∀ b, S' b → S b) : Fz S' H := fun b hb => f b (h b hb)
theorem codeO_nf {c : Addr} {q : Str} (ob : Obj) : CodeO c q ≠ frzO ob := fun z => by
  unfold CodeO at z
  cases z
theorem tab_nf (ps : Array Value) (ob : Obj) : HO.tbl ps ≠ frzO ob := fun z => by cases z
/-- known outside the frozen things -/
theorem Fz.tabs (f : Fz S H) (t : Tabs T H) : Tabs T (unf S H) := fun p hp => by
  obtain ⟨ps, h1, h2, h3⟩ := t p hp
  refine ⟨ps, f.un h1 (tab_nf ps), h2, fun pos cv hc => ?_⟩
  obtain ⟨c, e1, e2⟩ := h3 pos cv hc
  exact ⟨c, e1, f.un e2 codeO_nf⟩
theorem Fz.tabG (f : Fz S H) {p : Addr} (t : GxR.TabG H p) : GxR.TabG (unf S H) p := by
  obtain ⟨ps, h1, h2⟩ := t
  exact ⟨ps, f.un h1 (tab_nf ps), h2⟩
/-- H outside of S is H1, and at S there stood nothing -/
structure Fr (S : Addr → Prop) (H1 H2 : Hp) : Prop where
  out : ∀ b, ¬ S b → H2 b = H1 b
  free : ∀ b, S b → H1 b = none
  any : Fz S H2
theorem Fr.ext (z : Fr S H1 H2) {b : Addr} {o : HO} (e : H1 b = some o) : H2 b = some o := by
  by_cases hb : S b
  · rw [z.free b hb] at e; cases e
  · rw [z.out b hb]; exact e
theorem Fr.no (z : Fr S H1 H2) {b : Addr} {o : HO} (e : H1 b = some o) : ¬ S b := fun h => by rw [z.free b h] at e; cases e
/-- behind the call -/
theorem Fr.back (z : Fr S H1 H2) (a : XM T S' H2 H') : XM T S' H1 (unf S H') := by
  have f := z.any.xm a
  refine ⟨fun b o e n t => ?_, fun b o e => ?_, fun b xs e => ?_, fun b o u e => ?_, fun p h => ?_, fun h => ?_⟩
  · rw [unf_out (z.no e)]; exact a.keep b o (z.ext e) n t
  · obtain ⟨o', e'⟩ := a.there b o (z.ext e)
    exact ⟨o', by rw [unf_out (z.no e)]; exact e'⟩
  · rw [unf_out (z.no e)]; exact a.tup b xs (z.ext e)
  · rw [unf_out (z.no e)]; exact a.frz b o u (z.ext e)
  · obtain ⟨ps, h1, h2⟩ := h
    exact f.tabG (a.tabG p ⟨ps, z.ext h1, h2⟩)
  · exact f.tabs (a.tabs (h.ext fun b o e => z.ext e))
/-- behind a lambda's body -/
theorem Fz.ref (f : Fz S H2) (a : XM T S' (unf S H2) H') (hn : ∀ b, S b → H' b = none) : XM T S' H2 (ref2 S H2 H') := by
  have nS : ∀ {b o}, H' b = some o → ¬ S b := fun {b o} e h => by rw [hn b h] at e; cases e
  refine ⟨fun b o e n t => ?_, fun b o e => ?_, fun b xs e => ?_, fun b o u e => ?_, fun p h => ?_, fun h => ?_⟩
  · by_cases hb : S b
    · rw [ref2_in hb]; exact e
    · rw [ref2_out hb]; exact a.keep b o (by rw [unf_out hb]; exact e) n t
  · by_cases hb : S b
    · exact ⟨o, by rw [ref2_in hb]; exact e⟩
    · obtain ⟨o', e'⟩ := a.there b o (by rw [unf_out hb]; exact e)
      exact ⟨o', by rw [ref2_out hb]; exact e'⟩
  · by_cases hb : S b
    · rw [ref2_in hb]; exact e
    · rw [ref2_out hb]; exact a.tup b xs (by rw [unf_out hb]; exact e)
  · by_cases hb : S b
    · rw [ref2_in hb]; exact e
    · rw [ref2_out hb]; exact a.frz b o u (by rw [unf_out hb]; exact e)
  · obtain ⟨ps, h1, h2⟩ := a.tabG p (f.tabG h)
    exact ⟨ps, by rw [ref2_out (nS h1)]; exact h1, h2⟩
  · intro p hp
    obtain ⟨ps, h1, h2, h3⟩ := a.tabs (f.tabs h) p hp
    refine ⟨ps, by rw [ref2_out (nS h1)]; exact h1, h2, fun pos cv hc => ?_⟩
    obtain ⟨c, e1, e2⟩ := h3 pos cv hc
    exact ⟨c, e1, by rw [ref2_out (nS e2)]; exact e2⟩
theorem ref_at (hn : ∀ b, S b → H' b = none) {b : Addr} {o : HO} (e : H' b = some o) : ref2 S H2 H' b = some o := by
  have nS : ¬ S b := fun h => by rw [hn b h] at e; cases e
  rw [ref2_out nS]; exact e
theorem ref_ext (hn : ∀ b, S b → H' b = none) : XX T H' (ref2 S H2 H') := XX.of fun b o e => by
  have nS : ¬ S b := fun h => by rw [hn b h] at e; cases e
  rw [ref2_out nS]; exact e
/-- into the lambda's body -/
theorem Fr.into (z : Fr S H1 H2) (h : ∀ b, S' b → S b) : XX T H1 (unf S' H2) := XX.of fun b o e => by
  rw [unf_out fun q => z.no e (h b q)]; exact z.ext e
theorem Fr.xx (z : Fr S H1 H2) : XX T H1 H2 := XX.of fun b o e => z.ext e
theorem fr_of {X : Cx} {σ : L2.St} (z : Frozen X σ H1 H2) : Fr (CellOf X) H1 H2 := ⟨z.out, z.free, z.any⟩
theorem BoxAt.wk {b l : Addr} {ns : List Int} {z : Int} (h : BoxAt H b l ns z) (a : WkE H H') : BoxAt H' b l ns z := ⟨a _ _ h.hb (fun ob z => by cases z) (fun ps z => by cases z), a _ _ h.hl (fun ob z => by cases z) (fun ps z => by cases z), h.ne, h.lo, h.hi, h.len⟩
theorem DiskAt.wk {C p dx l : Addr} {pages : List PyData} {done : Int} {left : Option Int} {stands : Bool} (d : DiskAt K C H p dx l pages done left stands) (a : WkE H H') : DiskAt K C H' p dx l pages done left stands := by
  obtain ⟨xs, h, hd⟩ := d.lst
  exact ⟨a _ _ d.ins (fun ob z => by cases z) (fun ps z => by cases z), ⟨xs, a _ _ h (fun ob z => by cases z) (fun ps z => by cases z), Dp.wkAll a _ _ hd⟩, d.flat⟩
end
end GX
/-! a lambda over the maker's cells, handed to _law_told -/
namespace GX
open PySem PySem.Spec PyProof.Rows L2 LamX
def capB (sc scope : Scope) (N Nl : List Str) (js : List Nat) : Bool :=
  lamSB sc scope && decide (Nl.length = js.length) &&
    ((List.range js.length).all fun i => match Nl[i]?, js[i]? with
      | some y, some j => decide (N[j]? = some y) && decide (sc.names.lookup y = some .cell) && decide (scope.names.lookup y = some .free)
      | _, _ => false) && scope.names.all fun y => !decide (y.2 = .free) || decide (sc.names.lookup y.1 = some .cell)
structure CapS (sc scope : Scope) (N Nl : List Str) (js : List Nat) : Prop where
  L : LamS sc scope
  len : Nl.length = js.length
  at_ : ∀ (i : Nat) (y : Str), Nl[i]? = some y → ∃ j, js[i]? = some j ∧ N[j]? = some y ∧ sc.names.lookup y = some .cell ∧ scope.names.lookup y = some .free
  cell : ∀ y ∈ scope.names, y.2 = .free → sc.names.lookup y.1 = some .cell
theorem cap_by {sc scope : Scope} {N Nl : List Str} {js : List Nat} (h : capB sc scope N Nl js = true) : CapS sc scope N Nl js := by
  unfold capB at h
  simp only [Bool.and_eq_true, Bool.or_eq_true, Bool.not_eq_true', decide_eq_true_eq, decide_eq_false_iff_not, List.all_eq_true] at h
  obtain ⟨⟨⟨h1, h2⟩, h3⟩, h4⟩ := h
  refine ⟨lamS_by h1, h2, fun i y e => ?_, fun y hy e => ?_⟩
  · have hi : i < js.length := by
      have := (List.getElem?_eq_some_iff.mp e).1
      omega
    have q := h3 i (List.mem_range.mpr hi)
    rw [e, List.getElem?_eq_getElem hi] at q
    simp only [Bool.and_eq_true, decide_eq_true_eq] at q
    exact ⟨js[i], List.getElem?_eq_getElem hi, q.1.1, q.1.2, q.2⟩
  · rcases h4 y hy with z | z
    · exact absurd e z
    · exact z
def capS (σ : L2.St) (js : List Nat) : L2.St := js.map fun j => (σ[j]?).getD none
theorem capS_at {σ : L2.St} {js : List Nat} {i : Nat} {v : V} (h : (capS σ js)[i]? = some (some v)) : ∃ j, js[i]? = some j ∧ σ[j]? = some (some v) := by
  unfold capS at h
  rw [List.getElem?_map] at h
  cases e : js[i]? with
  | none => rw [e] at h; cases h
  | some j =>
    rw [e] at h
    have h : (σ[j]?).getD none = some v := Option.some.inj h
    refine ⟨j, rfl, ?_⟩
    cases e2 : σ[j]? with
    | none => rw [e2] at h; cases h
    | some o =>
      rw [e2] at h
      have h : o = some v := h
      rw [h]
section
variable {X : Cx} {σ : L2.St} {Hx H2 : Hp} {sc scope : Scope} {params : Arguments} {body : Expr} {q : Str} {f c' : Addr} {dV doc pm ctv : Value} {k n : Nat} {tb : XK → TE} {Nl : List Str} {js : List Nat} {T : List (Addr × Str)} {cE : Addr} {cs : Fin 9 → Addr} {Q : VK}
theorem cap_free (cap : CapS sc scope X.N Nl js) (hce : X.env.cells = cellsFrom n sc.names []) : ∀ y ∈ scope.names, y.2 = .free → ∃ c, X.env.cells.lookup y.1 = some c := fun y hy e => by
  obtain ⟨c, hm⟩ := cells_has (n := n) (acc := []) (PySem.mem_of_lookup (cap.cell y hy e))
  rw [hce]
  exact mem_lookup hm
theorem cap_clos (cap : CapS sc scope X.N Nl js) : ∀ y, (scope.names.lookup y = some .cell ∨ scope.names.lookup y = some .free) → ∃ c, (cloFrom X.env.cells scope.names []).lookup y = some c := fun y h => by
  rcases h with h | h
  · exact absurd rfl (cap.L.own _ (PySem.mem_of_lookup h)).2
  · exact mem_lookup (cloFrom_has (PySem.mem_of_lookup h))
theorem lamAt_frz {D : Value → Hp → Prop} (z : Frozen X σ Hx H2) (cap : CapS sc scope X.N Nl js) (hce : X.env.cells = cellsFrom n sc.names []) (hsc : X.env.scope = sc) (hf : H2 f = some (frzO (lamObj q params body scope (cloFrom X.env.cells scope.names []) dV doc pm c' ctv))) (hc : H2 c' = some (CodeO c' q)) (hD : D dV H2) :
    LamAt q params body scope (cloFrom X.env.cells scope.names []) dV doc pm c' ctv D Nl (capS σ js) f H2 := by
  refine ⟨hf, hc, hD, fun y c e => ?_⟩
  have ec := clo_cm (cap_free cap hce) e
  obtain ⟨o, v, e1, e2⟩ := z.any c ⟨y, ec⟩
  refine ⟨o, v, e1, e2, fun i x h1 h2 => ?_⟩
  obtain ⟨j, h3, h4⟩ := capS_at h2
  obtain ⟨j', h5, h6, h7, h8⟩ := cap.at_ i y h1
  rw [h3] at h5
  cases h5
  obtain ⟨o', u, q1, q2, r⟩ := z.cell y c j x ec h6 (by rw [hsc]; exact .inr (.inl h7)) (by rw [hsc, h7]; exact fun z => by cases z) h4
  rw [e1] at q1
  cases q1
  rw [e2] at q2
  cases q2
  exact ⟨u, rfl, r⟩
/-- the reading of the lambda's body in its own words -/
def LamBody (X : Cx) (T : List (Addr × Str)) (cE : Addr) (cs : Fin 9 → Addr) (tb : XK → TE) (τ : L2.St) (Hx : Hp) (Q : VK) : Prop := ∀ Hl, XX T Hx Hl → ∀ (E : XK) (Q2 : VK),
  (∀ (S' : Addr → Prop) v H', XM T S' Hl H' → (∀ HT, XM T S' Hx (unf (CellOf X) HT) → WkE H' (unf (CellOf X) HT) → Q v HT) → Q2 v H') →
  (∀ (S' : Addr → Prop) i D H', i.1 ≠ 4 → EIs X.K cE cs i D → XM T S' Hl H' → (∀ HT v, XM T S' Hx (unf (CellOf X) HT) → WkE H' (unf (CellOf X) HT) → Dp X.K (unf (CellOf X) HT) v (toldD i) → Q v HT) → E (.ref D) none H') → tb E τ Hl Q2
theorem told_lam (z : Frozen X σ Hx H2) (cap : CapS sc scope X.N Nl js) (hce : X.env.cells = cellsFrom n sc.names []) (hsc : X.env.scope = sc) (inj : InjC (cloFrom X.env.cells scope.names []))
    (hf : Hx f = some (frzO (lamObj q params body scope (cloFrom X.env.cells scope.names []) dV doc pm c' ctv))) (hd : dV = .none) (hc : Hx c' = some (CodeO c' q))
    (hbind : ∀ (doc pm cv ctv : Value), bindArgs (PySem.W.kdv_fn "<lambda>" q params (.expr body) scope (cloFrom X.env.cells scope.names []) .none doc pm cv ctv) ⟨[], []⟩ = pure [])
    (hbody : ∀ (A : Around) (outer : List Env) (s : Shared) (H : Hp) (E : XK), Room k (A.deeper (PySem.W.envX q scope s.heap.objs.size f (.ref c') (cloFrom X.env.cells scope.names []))) → PE (lCx X.prog X.w X.K X.mg X.base Nl q scope f c' (cloFrom X.env.cells scope.names []) A outer s H E) body (tb E))
    (h : LamBody X T cE cs tb (capS σ js) Hx Q) : spTold X.prog X.w X.K X.mg X.base T cE cs (k + 1) [.ref f] H2 Q E0 := by
  have Z := fr_of z
  have sub : ∀ b, CS (cloFrom X.env.cells scope.names []) b → CellOf X b := fun b hb => by
    obtain ⟨y, e⟩ := hb
    exact ⟨y, clo_cm (cap_free cap hce) e⟩
  have fz1 : Fz (CS (cloFrom X.env.cells scope.names [])) H2 := Z.any.sub sub
  have f2 := Z.ext hf
  have c2 := Z.ext hc
  refine ⟨f, _, _, rfl, ⟨_, _, _, f2, rfl⟩, callOk_lam0 (τ := capS σ js) (Nl := Nl) (dV := dV) (doc := doc) (pm := pm) (ctv := ctv) ⟨cap.L.kind, cap.L.co, cap.L.gen, fun y hy => (cap.L.own y hy).2⟩ inj (cap_clos cap) (by unfold capS; rw [List.length_map]; exact cap.len.symm) (fun i y e => ?_) hbind hbody, lamAt_frz z cap hce hsc f2 c2 hd, fun E hE => ?_⟩
  · obtain ⟨j, _, _, _, e2⟩ := cap.at_ i y e
    rw [e2]
    exact fun z => by cases z
  · refine h _ (Z.into sub) _ _ (fun S' v H' a q hn => ?_) (fun S' i D H' h4 hE' a q hn => ?_)
    · have a2 := fz1.ref a hn
      exact q _ (Z.back a2) fun b o e n t => (Z.any.xm a2).un (ref_at hn e) n
    · have a2 := fz1.ref a hn
      refine hE _ i D h4 hE' fun H'' v x dp => ?_
      have a3 := a2.trans x.xm
      exact q _ v (Z.back a3) (fun b o e n t => (Z.any.xm a3).un (x.keep b o (ref_at hn e) t) n) (Dp.wk (Z.any.xm a3).wk _ _ dp)
end
end GX
namespace GX
open PySem PySem.Spec PyProof.Rows L2 LamX
theorem pe_calF {X : Cx} {ps : List Str} {k : Nat} {sp : Sp} {x : Str} {p pos : Pos} {e : Expr} {es : List Expr} {t : TA} (c : Cal X.prog X.w X.K X.mg X.base CX0 x ps k sp) (hr : Room k X.A) (hfn : ∀ y, X.fn y = true) (ha : PA X (e :: es) t) (hg : Gl X x := by rfl) (hdb : (x == ("__debug__" : Str)) = false := by decide)
    (he : starEach (e :: es) X.env = (false, eval e X.env) :: starEach es X.env := by rfl) (hpl : (backTo pos (starEach es X.env)).any (·.1) = false := by rfl) : PE X (.Call (.Name x p) (e :: es) [] pos) (tCallF X sp t) := by
  obtain ⟨f, fd, c⟩ := c
  exact pe_callF c.F hr hfn hg c.m c.kp c.b ha hdb he hpl
end GX
namespace GX
open PySem PySem.Spec PyProof.Rows L2 LamX
abbrev kPg : Key := .inr "pages"
abbrev kLf : Key := .inr "left"
abbrev kSt : Key := .inr "stands"
abbrev kMn : Key := .inr "many"
abbrev ownK (lp : Addr) (left : Option Int) (stands : Bool) (many : Int) : List (Key × V) := [(kPg, .ref lp), (kLf, lv left), (kSt, .bl stands), (kMn, .int many)]
structure OwnAt (K : PySem.W.Frag) (H : Hp) (o lp : Addr) (pages : List PyData) (left : Option Int) (stands : Bool) (many : Int) : Prop where
  hd : H o = some (.dK (ownK lp left stands many))
  hl : ∃ xs, H lp = some (.lst xs) ∧ DpAll K H xs pages
  pg : ∀ d ∈ pages, isPage d = true
theorem own_pages (lp : Addr) (left : Option Int) (stands : Bool) (many : Int) : valV (ownK lp left stands many) kPg = some (.ref lp) := valV_pos rfl
section
variable (lp : Addr) (left left' : Option Int) (stands stands' : Bool) (many many' : Int)
theorem k_pl : ¬ kPg = kLf := by decide +kernel
theorem k_ps : ¬ kPg = kSt := by decide +kernel
theorem k_pm : ¬ kPg = kMn := by decide +kernel
theorem k_ls : ¬ kLf = kSt := by decide +kernel
theorem k_lm : ¬ kLf = kMn := by decide +kernel
theorem k_sm : ¬ kSt = kMn := by decide +kernel
theorem own_left : valV (ownK lp left stands many) kLf = some (lv left) := (valV_neg (p := (kPg, .ref lp)) k_pl).trans (valV_pos rfl)
theorem own_stands : valV (ownK lp left stands many) kSt = some (.bl stands) := (valV_neg (p := (kPg, .ref lp)) k_ps).trans ((valV_neg (p := (kLf, lv left)) k_ls).trans (valV_pos rfl))
theorem own_many : valV (ownK lp left stands many) kMn = some (.int many) :=
  (valV_neg (p := (kPg, .ref lp)) k_pm).trans ((valV_neg (p := (kLf, lv left)) k_lm).trans ((valV_neg (p := (kSt, .bl stands)) k_sm).trans (valV_pos rfl)))
theorem put_left : putK (ownK lp left stands many) kLf (lv left') = ownK lp left' stands many := by
  have e1 : ¬ Str.ofString "pages" = Str.ofString "left" := fun e => k_pl (congrArg Sum.inr e)
  have e2 : ¬ Str.ofString "stands" = Str.ofString "left" := fun e => k_ls (congrArg Sum.inr e.symm)
  have e3 : ¬ Str.ofString "many" = Str.ofString "left" := fun e => k_lm (congrArg Sum.inr e.symm)
  simp [putK, ownK, e1, e2, e3]
theorem put_stands : putK (ownK lp left stands many) kSt (.bl stands') = ownK lp left stands' many := by
  have e1 : ¬ Str.ofString "pages" = Str.ofString "stands" := fun e => k_ps (congrArg Sum.inr e)
  have e2 : ¬ Str.ofString "left" = Str.ofString "stands" := fun e => k_ls (congrArg Sum.inr e)
  have e3 : ¬ Str.ofString "many" = Str.ofString "stands" := fun e => k_sm (congrArg Sum.inr e.symm)
  simp [putK, ownK, e1, e2, e3]
theorem put_many : putK (ownK lp left stands many) kMn (.int many') = ownK lp left stands many' := by
  have e1 : ¬ Str.ofString "pages" = Str.ofString "many" := fun e => k_pm (congrArg Sum.inr e)
  have e2 : ¬ Str.ofString "left" = Str.ofString "many" := fun e => k_lm (congrArg Sum.inr e)
  have e3 : ¬ Str.ofString "stands" = Str.ofString "many" := fun e => k_sm (congrArg Sum.inr e)
  simp [putK, ownK, e1, e2, e3]
end
section
variable {K : PySem.W.Frag} {T : List (Addr × Str)} {H H' : Hp} {o lp : Addr} {pages : List PyData} {left : Option Int} {stands : Bool} {many : Int}
theorem OwnAt.xm {S : Addr → Prop} (d : OwnAt K H o lp pages left stands many) (a : XM T S H H') (h1 : ¬ S o) (h2 : ¬ S lp) : OwnAt K H' o lp pages left stands many := by
  obtain ⟨xs, h, hd⟩ := d.hl
  exact ⟨a.dk d.hd h1, ⟨xs, a.lst h h2, dpAll_xm a (fun e he => (nice_page (d.pg e he)).fl) hd⟩, d.pg⟩
theorem OwnAt.wk (d : OwnAt K H o lp pages left stands many) (a : WkE H H') : OwnAt K H' o lp pages left stands many := by
  obtain ⟨xs, h, hd⟩ := d.hl
  exact ⟨a _ _ d.hd (fun ob z => by cases z) (fun ps z => by cases z), ⟨xs, a _ _ h (fun ob z => by cases z) (fun ps z => by cases z), Dp.wkAll a _ _ hd⟩, d.pg⟩
theorem OwnAt.ne (d : OwnAt K H o lp pages left stands many) : o ≠ lp := by
  obtain ⟨xs, h, _⟩ := d.hl
  exact ne_of d.hd h fun z => by cases z
/-- stored in the dict -/
theorem OwnAt.put (d : OwnAt K H o lp pages left stands many) (left' : Option Int) (stands' : Bool) (many' : Int) : OwnAt K (upd H o (.dK (ownK lp left' stands' many'))) o lp pages left' stands' many' := by
  obtain ⟨xs, h, hd⟩ := d.hl
  exact ⟨upd_same, ⟨xs, by rw [upd_ne (Ne.symm d.ne)]; exact h, dpAll_xm (T := []) (XM.upd (S := fun b => b = o) d.hd rfl True.intro) (fun e he => (nice_page (d.pg e he)).fl) hd⟩, d.pg⟩
end
/-- the things of the law -/
structure KInv (K : PySem.W.Frag) (C : Addr) (H : Hp) (b l p dx sl o lp : Addr) (ns : List Int) (z : Int) (pages : List PyData) (left : Option Int) (stands : Bool) (many : Int) : Prop where
  bx : BoxAt H b l ns z
  dk : DiskAt K C H p dx sl pages many left stands
  ow : OwnAt K H o lp pages left stands many
  n1 : sl ≠ b
  n2 : sl ≠ l
  n3 : lp ≠ b
  n4 : lp ≠ l
  n5 : lp ≠ sl
  lo : 2 ≤ pages.length
  hi : pages.length ≤ 12
  lf : ∀ k, left = some k → 0 ≤ k ∧ k ≤ 30
def S7 (b l p sl o lp : Addr) : Addr → Prop := fun c => c = b ∨ c = l ∨ c = p ∨ c = sl ∨ c = o ∨ c = lp
def spTurn (K : PySem.W.Frag) (T : List (Addr × Str)) (C P1 P2 : Addr) : Sp := fun vs H Q _ => ∃ b l p dx sl o lp ns z pages left stands many, vs = [.ref b, .ref p, .ref o] ∧ KInv K C H b l p dx sl o lp ns z pages left stands many ∧ Tabs T H ∧ GxR.TabG H P1 ∧ GxR.TabG H P2 ∧
  ∀ H' ns' z' pages' left' stands' many', XM T (S7 b l p sl o lp) H H' → KInv K C H' b l p dx sl o lp ns' z' pages' left' stands' many' → pages'.length = pages.length → Q (.bl true) H'
section
variable {K : PySem.W.Frag} {T : List (Addr × Str)} {C : Addr} {H H' : Hp} {b l p dx sl o lp : Addr} {ns ns' : List Int} {z z' : Int} {pages : List PyData} {left : Option Int} {stands : Bool} {many : Int}
theorem OwnAt.gPages (d : OwnAt K H o lp pages left stands many) : DGet H o (.str "pages") (some (.ref lp)) := by
  have q := DGet.k (k := kPg) d.hd
  rw [own_pages] at q
  exact q
theorem OwnAt.gLeft (d : OwnAt K H o lp pages left stands many) : DGet H o (.str "left") (some (lv left)) := by
  have q := DGet.k (k := kLf) d.hd
  rw [own_left] at q
  exact q
theorem OwnAt.gStands (d : OwnAt K H o lp pages left stands many) : DGet H o (.str "stands") (some (.bl stands)) := by
  have q := DGet.k (k := kSt) d.hd
  rw [own_stands] at q
  exact q
theorem OwnAt.gMany (d : OwnAt K H o lp pages left stands many) : DGet H o (.str "many") (some (.int many)) := by
  have q := DGet.k (k := kMn) d.hd
  rw [own_many] at q
  exact q
theorem four_line : (4 : Nat) < sizeLine := by decide
theorem OwnAt.pLeft (d : OwnAt K H o lp pages left stands many) (left' : Option Int) : DPut H o (.str "left") (lv left') (upd H o (.dK (ownK lp left' stands many))) := by
  have q := DPut.k (k := kLf) (v := lv left') d.hd four_line
  rw [put_left] at q
  exact q
theorem OwnAt.pStands (d : OwnAt K H o lp pages left stands many) (stands' : Bool) : DPut H o (.str "stands") (.bl stands') (upd H o (.dK (ownK lp left stands' many))) := by
  have q := DPut.k (k := kSt) (v := .bl stands') d.hd four_line
  rw [put_stands] at q
  exact q
theorem OwnAt.pMany (d : OwnAt K H o lp pages left stands many) (many' : Int) : DPut H o (.str "many") (.int many') (upd H o (.dK (ownK lp left stands many'))) := by
  have q := DPut.k (k := kMn) (v := .int many') d.hd four_line
  rw [put_many] at q
  exact q
/-- where things of unlike kinds lie -/
structure Apart (b l p sl o lp : Addr) : Prop where
  pb : p ≠ b
  pl : p ≠ l
  ps : p ≠ sl
  po : p ≠ o
  pp : p ≠ lp
  ob : o ≠ b
  ol : o ≠ l
  os : o ≠ sl
  op : o ≠ lp
theorem KInv.apart (k : KInv K C H b l p dx sl o lp ns z pages left stands many) : Apart b l p sl o lp := by
  obtain ⟨xs, h1, _⟩ := k.dk.lst
  obtain ⟨ys, h2, _⟩ := k.ow.hl
  exact ⟨ne_of k.dk.ins k.bx.hb (fun z => by cases z), ne_of k.dk.ins k.bx.hl (fun z => by cases z), ne_of k.dk.ins h1 (fun z => by cases z), ne_of k.dk.ins k.ow.hd (fun z => by cases z), ne_of k.dk.ins h2 (fun z => by cases z),
    ne_of k.ow.hd k.bx.hb (fun z => by cases z), ne_of k.ow.hd k.bx.hl (fun z => by cases z), ne_of k.ow.hd h1 (fun z => by cases z), ne_of k.ow.hd h2 fun z => by cases z⟩
theorem KInv.take (k : KInv K C H b l p dx sl o lp ns z pages left stands many) (a : XM T (fun c => c = b ∨ c = l) H H') (bx : BoxAt H' b l ns' z') : KInv K C H' b l p dx sl o lp ns' z' pages left stands many := by
  have A := k.apart
  exact ⟨bx, k.dk.xm a (fun e => e.elim A.pb A.pl) (fun e => e.elim k.n1 k.n2), k.ow.xm a (fun e => e.elim A.ob A.ol) (fun e => e.elim k.n3 k.n4), k.n1, k.n2, k.n3, k.n4, k.n5, k.lo, k.hi, k.lf⟩
theorem KInv.xx (k : KInv K C H b l p dx sl o lp ns z pages left stands many) (a : XX T H H') : KInv K C H' b l p dx sl o lp ns z pages left stands many :=
  k.take (T := T) (a.xm.mono (S := fun _ => False) fun b h => h.elim) (k.bx.xx a)
theorem s7_take : ∀ c, (c = b ∨ c = l) → S7 b l p sl o lp c := fun c h => h.elim .inl fun h => .inr (.inl h)
end
section
variable {K : PySem.W.Frag} {T : List (Addr × Str)} {C : Addr} {H H' : Hp} {b l p dx sl o lp : Addr} {ns ns' : List Int} {z z' : Int} {pages pages' : List PyData} {left left' : Option Int} {stands stands' : Bool} {many many' : Int}
theorem KInv.next (k : KInv K C H b l p dx sl o lp ns z pages left stands many) (bx : BoxAt H' b l ns' z') (dk : DiskAt K C H' p dx sl pages' many' left' stands') (ow : OwnAt K H' o lp pages' left' stands' many') (e : pages'.length = pages.length) (lf : ∀ k, left' = some k → 0 ≤ k ∧ k ≤ 30) :
    KInv K C H' b l p dx sl o lp ns' z' pages' left' stands' many' := ⟨bx, dk, ow, k.n1, k.n2, k.n3, k.n4, k.n5, by rw [e]; exact k.lo, by rw [e]; exact k.hi, lf⟩
theorem s7_p : ∀ c, c = p → S7 b l p sl o lp c := fun c h => .inr (.inr (.inl h))
theorem s7_o : ∀ c, c = o → S7 b l p sl o lp c := fun c h => .inr (.inr (.inr (.inr (.inl h))))
theorem s7_ps : ∀ c, (c = p ∨ c = sl) → S7 b l p sl o lp c := fun c h => h.elim (fun h => .inr (.inr (.inl h))) fun h => .inr (.inr (.inr (.inl h)))
theorem s7_lp : ∀ c, c = lp → S7 b l p sl o lp c := fun c h => .inr (.inr (.inr (.inr (.inr h))))
end
theorem if_key {c : Bool} {ta tb : TE} {σ : L2.St} {H : Hp} {Q : VK} (R : V → Hp → Prop) (key : ∀ v H', R v H' → Q v H') (h1 : c = true → ∀ Q' : VK, (∀ v H', R v H' → Q' v H') → ta σ H Q') (h2 : c = false → ∀ Q' : VK, (∀ v H', R v H' → Q' v H') → tb σ H Q') :
    if c = true then ta σ H Q else tb σ H Q := by
  cases c with
  | true => rw [if_pos rfl]; exact h1 rfl Q key
  | false => rw [if_neg (by decide)]; exact h2 rfl Q key
theorem ifs_key {c : Bool} {sA sB : TS} {D : Ends} {σ : L2.St} {H : Hp} (R : L2.St → Hp → Prop) (key : ∀ σ' H', R σ' H' → D.nx σ' H') (h1 : c = true → ∀ D' : Ends, (∀ σ' H', R σ' H' → D'.nx σ' H') → sA D' σ H) (h2 : c = false → ∀ D' : Ends, (∀ σ' H', R σ' H' → D'.nx σ' H') → sB D' σ H) :
    if c = true then sA D σ H else sB D σ H := by
  cases c with
  | true => rw [if_pos rfl]; exact h1 rfl D key
  | false => rw [if_neg (by decide)]; exact h2 rfl D key
theorem tOr_of {t1 t2 : TT} {σ : L2.St} {H : Hp} {Kt : Bool → Hp → Prop} (c1 c2 : Bool) (h1 : ∀ K' : Bool → Hp → Prop, K' c1 H → t1 σ H K') (h2 : c1 = false → ∀ K' : Bool → Hp → Prop, K' c2 H → t2 σ H K') (k : Kt (c1 || c2) H) : tOr t1 t2 σ H Kt := by
  refine h1 _ ?_
  cases c1 with
  | true => exact k
  | false => exact h2 rfl _ k
theorem lv_zero (left : Option Int) : decide (lv left = .int 0) = decide (left = some 0) := by
  cases left with
  | none => rfl
  | some k =>
    rw [Bool.eq_iff_iff, decide_eq_true_iff, decide_eq_true_iff]
    exact ⟨fun e => by cases e; rfl, fun e => by cases e; rfl⟩
section
variable {K : PySem.W.Frag} {H : Hp} {o lp : Addr} {pages : List PyData} {left : Option Int} {stands : Bool} {many : Int}
theorem OwnAt.setPage (w : OwnAt K H o lp pages left stands many) {xs : List V} {j : Nat} {v : V} {d : PyData} (h : H lp = some (.lst xs)) (hd : Dp K H v d) (pg : isPage d = true) : OwnAt K (upd H lp (.lst (xs.set j v))) o lp (pages.set j d) left stands many := by
  obtain ⟨ys, h2, hds⟩ := w.hl
  rw [h] at h2
  cases h2
  have x : XM [] (fun c => c = lp) H (upd H lp (.lst (xs.set j v))) := XM.upd h rfl True.intro
  have pgs : ∀ e ∈ pages.set j d, isPage e = true := fun e he => by
    rcases mem_set he with z | z
    · rw [z]; exact pg
    · exact w.pg e z
  exact ⟨by rw [upd_ne w.ne]; exact w.hd, ⟨_, upd_same, dpAll_xm x (fun e he => (nice_page (pgs e he)).fl) (dpAll_set hd j hds)⟩, pgs⟩
theorem ixN_nat {n j : Nat} (h : j < n) : ixN n (j : Int) = some j := by
  unfold ixN
  have q1 : (0 : Int) ≤ (j : Int) := by omega
  have q2 : (j : Int) < (n : Int) := by omega
  simp [q1, q2]
  try omega
end
end GX
/-! lambdas that are handed to _law_all in a list -/
namespace GX
open PySem PySem.Spec PyProof.Rows L2 LamX
section
variable {T : List (Addr × Str)} {S S' : Addr → Prop} {H H1 H2 H' : Hp} {K : PySem.W.Frag}
theorem Fz.refX (f : Fz S H2) (a : XX T (unf S H2) H') (hn : ∀ b, S b → H' b = none) : XX T H2 (ref2 S H2 H') := by
  have m := f.ref (S' := fun _ => False) a.xm hn
  refine m.xx fun b ps e => ?_
  have e2 := f.un e (tab_nf ps)
  obtain ⟨ps', e3⟩ := a.tbl b ps e2
  exact ⟨ps', ref_at hn e3⟩
theorem LamAt.xx {q : Str} {params : Arguments} {body : Expr} {scope : Scope} {clos : List (Str × Addr)} {dV doc pm : Value} {c' : Addr} {ctv : Value} {D : Value → Hp → Prop} {Nl : List Str} {τ : L2.St} {f : Addr} (h : LamAt q params body scope clos dV doc pm c' ctv D Nl τ f H) (a : XX T H H1) (hD : D dV H → D dV H1) :
    LamAt q params body scope clos dV doc pm c' ctv D Nl τ f H1 := by
  obtain ⟨h1, h2, h3, h4⟩ := h
  refine ⟨a.keep _ _ h1 (fun ps z => by cases z), a.keep _ _ h2 (fun ps => codeO_ne ps), hD h3, fun y c e => ?_⟩
  obtain ⟨o, u, e1, e2, e3⟩ := h4 y c e
  exact ⟨o, u, a.keep _ _ e1 (fun ps z => by cases z), e2, e3⟩
theorem Dflt1.xx {i : Int} {dV : Value} (h : Dflt1 i dV H) (a : XX T H H1) : Dflt1 i dV H1 := by
  obtain ⟨t, u, e, h⟩ := h
  exact ⟨t, u, e, a.keep _ _ h fun ps z => by cases z⟩
end
/-! a lambda with one parameter that has a default -/
def capB1 (sc scope : Scope) (N Nl : List Str) (js : List Nat) : Bool :=
  decide (scope.kind = .function) && !scope.isCoroutine && !scope.isGenerator && (scope.names.all fun y => !decide (y.2 = .cell)) && decide (Nl.length = js.length + 1) && (match Nl[0]? with | some a => decide (scope.names.lookup a = some .local) && decide (scope.names.lookup a ≠ some .free) && scope.names.all (fun y => !decide (y.1 = a) || !decide (y.2 = .free)) | none => false) &&
    ((List.range js.length).all fun i => match Nl[i + 1]?, js[i]? with
      | some y, some j => decide (N[j]? = some y) && decide (sc.names.lookup y = some .cell) && decide (scope.names.lookup y = some .free)
      | _, _ => false) && scope.names.all fun y => !decide (y.2 = .free) || decide (sc.names.lookup y.1 = some .cell)
structure CapS1 (sc scope : Scope) (N Nl : List Str) (js : List Nat) (a : Str) : Prop where
  kind : scope.kind = .function
  co : scope.isCoroutine = false
  gen : scope.isGenerator = false
  ncell : ∀ y ∈ scope.names, y.2 ≠ .cell
  len : Nl.length = js.length + 1
  at0 : Nl[0]? = some a
  loc : scope.names.lookup a = some .local
  nof : ∀ y ∈ scope.names, y.1 = a → y.2 ≠ .free
  at_ : ∀ (i : Nat) (y : Str), Nl[i + 1]? = some y → ∃ j, js[i]? = some j ∧ N[j]? = some y ∧ sc.names.lookup y = some .cell ∧ scope.names.lookup y = some .free
  cell : ∀ y ∈ scope.names, y.2 = .free → sc.names.lookup y.1 = some .cell
theorem cap1_by {sc scope : Scope} {N Nl : List Str} {js : List Nat} {a : Str} (e0 : Nl[0]? = some a) (h : capB1 sc scope N Nl js = true) : CapS1 sc scope N Nl js a := by
  unfold capB1 at h
  rw [e0] at h
  simp only [Bool.and_eq_true, Bool.or_eq_true, Bool.not_eq_true', decide_eq_true_eq, decide_eq_false_iff_not, List.all_eq_true] at h
  obtain ⟨⟨⟨⟨⟨⟨⟨h1, h2⟩, h3⟩, h4⟩, h5⟩, ⟨h6, h7⟩, h8⟩, h9⟩, h10⟩ := h
  refine ⟨h1, h2, h3, h4, h5, e0, h6, fun y hy e => ?_, fun i y e => ?_, fun y hy e => ?_⟩
  · rcases h8 y hy with z | z
    · exact absurd e z
    · exact z
  · have hi : i < js.length := by
      have := (List.getElem?_eq_some_iff.mp e).1
      omega
    have q := h9 i (List.mem_range.mpr hi)
    rw [e, List.getElem?_eq_getElem hi] at q
    simp only [Bool.and_eq_true, decide_eq_true_eq] at q
    exact ⟨js[i], List.getElem?_eq_getElem hi, q.1.1, q.1.2, q.2⟩
  · rcases h10 y hy with z | z
    · exact absurd e z
    · exact z
section
variable {X : Cx} {σ : L2.St} {Hx H2 : Hp} {sc scope : Scope} {params : Arguments} {body : Expr} {q : Str} {f c' : Addr} {dV doc pm ctv : Value} {k n : Nat} {tb : XK → TE} {Nl : List Str} {js : List Nat} {T : List (Addr × Str)} {cE : Addr} {cs : Fin 9 → Addr} {Q : VK} {a : Str}
theorem cap1_free (cap : CapS1 sc scope X.N Nl js a) (hce : X.env.cells = cellsFrom n sc.names []) : ∀ y ∈ scope.names, y.2 = .free → ∃ c, X.env.cells.lookup y.1 = some c := fun y hy e => by
  obtain ⟨c, hm⟩ := cells_has (n := n) (acc := []) (PySem.mem_of_lookup (cap.cell y hy e))
  rw [hce]
  exact mem_lookup hm
theorem cap1_clos (cap : CapS1 sc scope X.N Nl js a) : ∀ y, (scope.names.lookup y = some .cell ∨ scope.names.lookup y = some .free) → ∃ c, (cloFrom X.env.cells scope.names []).lookup y = some c := fun y h => by
  rcases h with h | h
  · exact absurd rfl (cap.ncell _ (PySem.mem_of_lookup h))
  · exact mem_lookup (cloFrom_has (PySem.mem_of_lookup h))
theorem lamAt_frz1 {D : Value → Hp → Prop} {v0 : V} (z : Frozen X σ Hx H2) (cap : CapS1 sc scope X.N Nl js a) (hce : X.env.cells = cellsFrom n sc.names []) (hsc : X.env.scope = sc) (hf : H2 f = some (frzO (lamObj q params body scope (cloFrom X.env.cells scope.names []) dV doc pm c' ctv))) (hc : H2 c' = some (CodeO c' q)) (hD : D dV H2) :
    LamAt q params body scope (cloFrom X.env.cells scope.names []) dV doc pm c' ctv D Nl (some v0 :: capS σ js) f H2 := by
  refine ⟨hf, hc, hD, fun y c e => ?_⟩
  have ec := clo_cm (cap1_free cap hce) e
  obtain ⟨o, v, e1, e2⟩ := z.any c ⟨y, ec⟩
  refine ⟨o, v, e1, e2, fun i x h1 h2 => ?_⟩
  cases i with
  | zero =>
    rw [cap.at0] at h1
    cases h1
    -- the parameter is no cell
    rcases cloFrom_mem (PySem.mem_of_lookup e) with hm | ⟨hm, _⟩
    · cases hm
    · exact absurd rfl (cap.nof _ hm rfl)
  | succ i =>
    obtain ⟨j, h3, h4⟩ := capS_at (show (capS σ js)[i]? = some (some x) from h2)
    obtain ⟨j', h5, h6, h7, h8⟩ := cap.at_ i y h1
    rw [h3] at h5
    cases h5
    obtain ⟨o', u, q1, q2, r⟩ := z.cell y c j x ec h6 (by rw [hsc]; exact .inr (.inl h7)) (by rw [hsc, h7]; exact fun z => by cases z) h4
    rw [e1] at q1
    cases q1
    rw [e2] at q2
    cases q2
    exact ⟨u, rfl, r⟩
/-- what _law_all asks of a work -/
def Work (X : Cx) (T : List (Addr × Str)) (cE : Addr) (cs : Fin 9 → Addr) (k : Nat) (i : Fin 9) (f : Addr) (H2 : Hp) : Prop := ∀ H1, XX T H2 H1 → ∃ ph sp, FnObj H1 f ∧ CallOk X.prog X.w X.K X.mg X.base k f ph sp ∧ ph H1 ∧ ∀ (Q : VK) (E : XK), (∀ H2 D, XX T H1 H2 → EIs X.K cE cs i D → E (.ref D) none H2) → sp H1 Q E
theorem work_lam0 {i : Fin 9} {C : Addr} (z : Frozen X σ Hx H2) (cap : CapS sc scope X.N Nl js) (hce : X.env.cells = cellsFrom n sc.names []) (hsc : X.env.scope = sc) (inj : InjC (cloFrom X.env.cells scope.names []))
    (hf : Hx f = some (frzO (lamObj q params body scope (cloFrom X.env.cells scope.names []) dV doc pm c' ctv))) (hd : dV = .none) (hc : Hx c' = some (CodeO c' q)) (hC : EIs X.K cE cs i C)
    (hbind : ∀ (doc pm cv ctv : Value), bindArgs (PySem.W.kdv_fn "<lambda>" q params (.expr body) scope (cloFrom X.env.cells scope.names []) .none doc pm cv ctv) ⟨[], []⟩ = pure [])
    (hbody : ∀ (A : Around) (outer : List Env) (s : Shared) (H : Hp) (E : XK), Room k (A.deeper (PySem.W.envX q scope s.heap.objs.size f (.ref c') (cloFrom X.env.cells scope.names []))) → PE (lCx X.prog X.w X.K X.mg X.base Nl q scope f c' (cloFrom X.env.cells scope.names []) A outer s H E) body (tb E))
    (h : ∀ Hl, XX T Hx Hl → ∀ (E : XK) (Q2 : VK), (∀ Hl', XX T Hl Hl' → E (.ref C) none Hl') → tb E (capS σ js) Hl Q2) : Work X T cE cs (k + 1) i f H2 := by
  intro H1 x1
  have Z := fr_of z
  have sub : ∀ b, CS (cloFrom X.env.cells scope.names []) b → CellOf X b := fun b hb => by
    obtain ⟨y, e⟩ := hb
    exact ⟨y, clo_cm (cap_free cap hce) e⟩
  have fz1 : Fz (CS (cloFrom X.env.cells scope.names [])) H1 := (Z.any.sub sub).xx x1
  have L2' := (lamAt_frz (D := fun dV _ => dV = .none) z cap hce hsc (Z.ext hf) (Z.ext hc) hd).xx x1 id
  have into : XX T Hx (unf (CS (cloFrom X.env.cells scope.names [])) H1) := by
    have f2 : Fz (CS (cloFrom X.env.cells scope.names [])) H2 := Z.any.sub sub
    have a1 : XX T Hx H1 := Z.xx.trans x1
    -- nothing of Hx is hidden
    have ns : ∀ {b o}, Hx b = some o → ¬ CS (cloFrom X.env.cells scope.names []) b := fun {b o} e h => Z.no e (sub b h)
    refine ⟨fun b o e t => by rw [unf_out (ns e)]; exact a1.keep b o e t, fun b ps e => ?_, fun p hG => fz1.tabG (a1.tabG p hG), fun hT => fz1.tabs (a1.tabs hT)⟩
    obtain ⟨ps', e'⟩ := a1.tbl b ps e
    exact ⟨ps', by rw [unf_out (ns e)]; exact e'⟩
  refine ⟨_, _, ⟨_, _, _, L2'.1, rfl⟩, callOk_lam0 (τ := capS σ js) (Nl := Nl) (dV := dV) (doc := doc) (pm := pm) (ctv := ctv) ⟨cap.L.kind, cap.L.co, cap.L.gen, fun y hy => (cap.L.own y hy).2⟩ inj (cap_clos cap) (by unfold capS; rw [List.length_map]; exact cap.len.symm) (fun i y e => ?_) hbind hbody, L2', fun Q' E hE => ?_⟩
  · obtain ⟨j, _, _, _, e2⟩ := cap.at_ i y e
    rw [e2]
    exact fun z => by cases z
  · exact h _ into _ _ fun Hl' xl hn => hE _ C (fz1.refX xl hn) hC
theorem work_lam1 {i : Fin 9} {C : Addr} {i0 : Int} (z : Frozen X σ Hx H2) (cap : CapS1 sc scope X.N Nl js a) (hce : X.env.cells = cellsFrom n sc.names []) (hsc : X.env.scope = sc) (inj : InjC (cloFrom X.env.cells scope.names []))
    (hf : Hx f = some (frzO (lamObj q params body scope (cloFrom X.env.cells scope.names []) dV doc pm c' ctv))) (hd : Dflt1 i0 dV Hx) (hc : Hx c' = some (CodeO c' q)) (hC : EIs X.K cE cs i C)
    (hbind : ∀ (s : Shared) (t : Addr) (u : Tok) (doc pm cv ctv : Value), s.heap.get? t = some (PySem.W.kdv_tup [.int i0 u]) → BindsTo s (PySem.W.kdv_fn "<lambda>" q params (.expr body) scope (cloFrom X.env.cells scope.names []) (.ref t) doc pm cv ctv) ⟨[], []⟩ [(a, .int i0 u)])
    (hbody : ∀ (A : Around) (outer : List Env) (s : Shared) (H : Hp) (E : XK), Room k (A.deeper (PySem.W.envX q scope s.heap.objs.size f (.ref c') (cloFrom X.env.cells scope.names []))) → PE (lCx X.prog X.w X.K X.mg X.base Nl q scope f c' (cloFrom X.env.cells scope.names []) A outer s H E) body (tb E))
    (h : ∀ Hl, XX T Hx Hl → ∀ (E : XK) (Q2 : VK), (∀ Hl', XX T Hl Hl' → E (.ref C) none Hl') → tb E (some (.int i0) :: capS σ js) Hl Q2) : Work X T cE cs (k + 1) i f H2 := by
  intro H1 x1
  have Z := fr_of z
  have sub : ∀ b, CS (cloFrom X.env.cells scope.names []) b → CellOf X b := fun b hb => by
    obtain ⟨y, e⟩ := hb
    exact ⟨y, clo_cm (cap1_free cap hce) e⟩
  have fz1 : Fz (CS (cloFrom X.env.cells scope.names [])) H1 := (Z.any.sub sub).xx x1
  have L2' := (lamAt_frz1 (D := Dflt1 i0) (v0 := .int i0) z cap hce hsc (Z.ext hf) (Z.ext hc) (hd.xx (T := T) Z.xx)).xx x1 fun q => q.xx x1
  have into : XX T Hx (unf (CS (cloFrom X.env.cells scope.names [])) H1) := by
    have a1 : XX T Hx H1 := Z.xx.trans x1
    have ns : ∀ {b o}, Hx b = some o → ¬ CS (cloFrom X.env.cells scope.names []) b := fun {b o} e h => Z.no e (sub b h)
    refine ⟨fun b o e t => by rw [unf_out (ns e)]; exact a1.keep b o e t, fun b ps e => ?_, fun p hG => fz1.tabG (a1.tabG p hG), fun hT => fz1.tabs (a1.tabs hT)⟩
    obtain ⟨ps', e'⟩ := a1.tbl b ps e
    exact ⟨ps', by rw [unf_out (ns e)]; exact e'⟩
  refine ⟨_, _, ⟨_, _, _, L2'.1, rfl⟩, callOk_lam1 (τ := some (.int i0) :: capS σ js) (Nl := Nl) (dV := dV) (doc := doc) (pm := pm) (ctv := ctv) ⟨cap.kind, cap.co, cap.gen, cap.ncell⟩ inj (cap1_clos cap) (by unfold capS; rw [List.length_cons, List.length_map]; exact cap.len.symm) (fun i y e => ?_) cap.at0 cap.loc rfl hbind hbody, L2', fun Q' E hE => ?_⟩
  · obtain ⟨j, _, _, _, e2⟩ := cap.at_ i y e
    rw [e2]
    exact fun z => by cases z
  · exact h _ into _ _ fun Hl' xl hn => hE _ C (fz1.refX xl hn) hC
end
end GX
namespace GX
open PySem PySem.Spec PyProof.Rows L2 LamX
def spLaw (K : PySem.W.Frag) (T : List (Addr × Str)) (P1 P2 : Addr) : Sp := fun vs H Q _ => ∃ (a : Addr) (ns : List Int), vs = [.ref a] ∧ SqL K H a (ns.map V.int) ∧ ns.length ≤ 63 ∧ Tabs T H ∧ GxR.TabG H P1 ∧ GxR.TabG H P2 ∧ ∀ H', Q (.bl true) H'
/-- a class that is called by its name -/
structure Ctor1 (P : Program) (w : World) (K : PySem.W.Frag) (mg : Str → Option Value) (base : Heap) (x : Str) (C : Addr) (ps : List Str) (k : Nat) (sp : Sp) (f : Addr) (fd : FuncData) : Prop where
  M : Mk K C f
  F : FnOk P w K mg base (L2.CX P w) k f fd ps sp
  b : Binds K fd ps []
def Ctor (P : Program) (w : World) (K : PySem.W.Frag) (mg : Str → Option Value) (base : Heap) (x : Str) (C : Addr) (ps : List Str) (k : Nat) (sp : Sp) : Prop := mg x = some (.ref C) ∧ ∃ f fd, Ctor1 P w K mg base x C ps k sp f fd
theorem pe_ctor {X : Cx} {ps : List Str} {k : Nat} {sp : Sp} {x : Str} {C : Addr} {p pos : Pos} {e : Expr} {es : List Expr} {t : TA} {E : XK} (c : Ctor X.prog X.w X.K X.mg X.base x C ps k sp) (hr : Room (k + 1) X.A) (hx : Passes (L2.CX X.prog X.w) X E) (ha : PA X (e :: es) t) (hg : Gl X x := by rfl) (hdb : (x == ("__debug__" : Str)) = false := by decide)
    (he : starEach (e :: es) X.env = (false, eval e X.env) :: starEach es X.env := by rfl) (hpl : (backTo pos (starEach es X.env)).any (·.1) = false := by rfl) : PE X (.Call (.Name x p) (e :: es) [] pos) (tMake C sp [] E t) := by
  obtain ⟨m, f, fd, c⟩ := c
  exact pe_make c.M c.F hr hg m c.b .nil hx ha hdb he hpl
end GX
namespace GX
open PySem PySem.Spec PyProof.Rows L2 LamX
section
variable {K : PySem.W.Frag} {T : List (Addr × Str)} {H : Hp}
/-- the fresh page as the law writes it -/
theorem fresh_data {p1 p2 p3 p4 p5 p6 : Addr} (h1 : H p1 = none) (h2 : (upd H p1 (.tup [.str "free", .int 0])) p2 = none) (h3 : (upd (upd H p1 (.tup [.str "free", .int 0])) p2 (.tup [.ref p1])) p3 = none) (h4 : (upd (upd (upd H p1 (.tup [.str "free", .int 0])) p2 (.tup [.ref p1])) p3 (.tup (List.replicate (8 : Int).toNat [V.ref p1]).flatten)) p4 = none) (h5 : (upd (upd (upd (upd H p1 (.tup [.str "free", .int 0])) p2 (.tup [.ref p1])) p3 (.tup (List.replicate (8 : Int).toNat [V.ref p1]).flatten)) p4 (.tup [.int 0])) p5 = none) (h6 : (upd (upd (upd (upd (upd H p1 (.tup [.str "free", .int 0])) p2 (.tup [.ref p1])) p3 (.tup (List.replicate (8 : Int).toNat [V.ref p1]).flatten)) p4 (.tup [.int 0])) p5 (.tup (List.replicate (24 : Int).toNat [V.int 0]).flatten)) p6 = none) : XX T H (upd (upd (upd (upd (upd (upd H p1 (.tup [.str "free", .int 0])) p2 (.tup [.ref p1])) p3 (.tup (List.replicate (8 : Int).toNat [V.ref p1]).flatten)) p4 (.tup [.int 0])) p5 (.tup (List.replicate (24 : Int).toNat [V.int 0]).flatten)) p6 (.tup [.ref p3, .ref p5])) ∧ Dp K (upd (upd (upd (upd (upd (upd H p1 (.tup [.str "free", .int 0])) p2 (.tup [.ref p1])) p3 (.tup (List.replicate (8 : Int).toNat [V.ref p1]).flatten)) p4 (.tup [.int 0])) p5 (.tup (List.replicate (24 : Int).toNat [V.int 0]).flatten)) p6 (.tup [.ref p3, .ref p5])) (.ref p6) freshD := by
  have n12 : p1 ≠ p2 := fun z => by rw [← z, upd_same] at h2; cases h2
  have x : XX T H _ := ((((((XX.new (T := T) h1).then_new h2).then_new h3).then_new h4).then_new h5).then_new (o := .tup [.ref p3, .ref p5]) h6)
  have g6 : ∀ {b o}, (upd (upd (upd (upd (upd H p1 (.tup [.str "free", .int 0])) p2 (.tup [.ref p1])) p3 (.tup (List.replicate (8 : Int).toNat [V.ref p1]).flatten)) p4 (.tup [.int 0])) p5 (.tup (List.replicate (24 : Int).toNat [V.int 0]).flatten)) b = some o → (upd (upd (upd (upd (upd (upd H p1 (.tup [.str "free", .int 0])) p2 (.tup [.ref p1])) p3 (.tup (List.replicate (8 : Int).toNat [V.ref p1]).flatten)) p4 (.tup [.int 0])) p5 (.tup (List.replicate (24 : Int).toNat [V.int 0]).flatten)) p6 (.tup [.ref p3, .ref p5])) b = some o := fun {b o} e => by
    rw [upd_ne (ne_of_none e h6)]; exact e
  have e5 := g6 (b := p5) upd_same
  have e3 : (upd (upd (upd (upd (upd H p1 (.tup [.str "free", .int 0])) p2 (.tup [.ref p1])) p3 (.tup (List.replicate (8 : Int).toNat [V.ref p1]).flatten)) p4 (.tup [.int 0])) p5 (.tup (List.replicate (24 : Int).toNat [V.int 0]).flatten)) p3 = some (.tup (List.replicate (8 : Int).toNat [V.ref p1]).flatten) := by
    have q4 := (upd_ne (H := upd (upd (upd H p1 (.tup [.str "free", .int 0])) p2 (.tup [.ref p1])) p3 (.tup (List.replicate (8 : Int).toNat [V.ref p1]).flatten)) (a := p4) (o := .tup [.int 0]) (ne_of_none upd_same h4)).trans upd_same
    exact (upd_ne (ne_of_none q4 h5)).trans q4
  have e1 : (upd (upd (upd (upd (upd H p1 (.tup [.str "free", .int 0])) p2 (.tup [.ref p1])) p3 (.tup (List.replicate (8 : Int).toNat [V.ref p1]).flatten)) p4 (.tup [.int 0])) p5 (.tup (List.replicate (24 : Int).toNat [V.int 0]).flatten)) p1 = some (.tup [.str "free", .int 0]) := by
    have y : XX T (upd H p1 (.tup [.str "free", .int 0])) _ := ((((XX.new (T := T) (o := .tup [.ref p1]) h2).then_new h3).then_new (o := .tup [.int 0]) h4).then_new (o := .tup (List.replicate (24 : Int).toNat [V.int 0]).flatten) h5)
    exact y.tup upd_same
  refine ⟨x, ?_⟩
  refine .tup (SqT.of upd_same) (.cons (.tup (SqT.of (g6 e3)) ?_) (.cons (.tup (SqT.of e5) ?_) .nil))
  · have d1 : Dp K _ (.ref p1) (freeD 0) := .tup (SqT.of (g6 e1)) (.cons (.str _) (.cons (.int _) .nil))
    exact .cons d1 (.cons d1 (.cons d1 (.cons d1 (.cons d1 (.cons d1 (.cons d1 (.cons d1 .nil)))))))
  · have d0 : ∀ {H}, Dp K H (.int 0) (.int 0) := fun {H} => .int 0
    exact .cons d0 (.cons d0 (.cons d0 (.cons d0 (.cons d0 (.cons d0 (.cons d0 (.cons d0 (.cons d0 (.cons d0 (.cons d0 (.cons d0 (.cons d0 (.cons d0 (.cons d0 (.cons d0 (.cons d0 (.cons d0 (.cons d0 (.cons d0 (.cons d0 (.cons d0 (.cons d0 (.cons d0 .nil)))))))))))))))))))))))
end
theorem merge_own (lp : Addr) : mergeK [] (ownK lp none false 0) = ownK lp none false 0 := by
  have e1 : ¬ Str.ofString "pages" = Str.ofString "left" := fun e => k_pl (congrArg Sum.inr e)
  have e2 : ¬ Str.ofString "pages" = Str.ofString "stands" := fun e => k_ps (congrArg Sum.inr e)
  have e3 : ¬ Str.ofString "pages" = Str.ofString "many" := fun e => k_pm (congrArg Sum.inr e)
  have e4 : ¬ Str.ofString "left" = Str.ofString "stands" := fun e => k_ls (congrArg Sum.inr e)
  have e5 : ¬ Str.ofString "left" = Str.ofString "many" := fun e => k_lm (congrArg Sum.inr e)
  have e6 : ¬ Str.ofString "stands" = Str.ofString "many" := fun e => k_sm (congrArg Sum.inr e)
  simp [mergeK, putK, ownK, e1, e2, e3, e4, e5, e6]
theorem dpAll_rep {K : PySem.W.Frag} {H : Hp} {v : V} {d : PyData} (h : Dp K H v d) : ∀ n : Nat, DpAll K H (List.replicate n [v]).flatten (List.replicate n d)
  | 0 => .nil
  | n + 1 => by
    rw [List.replicate_succ, List.replicate_succ, List.flatten_cons]
    exact .cons h (dpAll_rep h n)
end GX
set_option maxHeartbeats 4000000
/-! slotpages.rooms -/
namespace GX
open PySem PySem.Spec PyProof.Rows L2 LamX
/-- a def with defaults whose code object is known -/
structure FunCD (K : PySem.W.Frag) (x qual : Str) (st : Stmt) (dvs : List V) (f : Addr) (fd : FuncData) (c : Addr) : Prop where
  ex : ∃ (oc : Value) (od : Option Addr) (dV kV doc pm : Value) (an : Option Addr) (ct : Value) (osl : Array (Option Value)),
    fd = PySem.W.fnOf x qual (defArgs st) (defBody st) (defScope st) dV kV doc pm an (.ref c) ct ∧ K.lookup f = some ⟨oc, od, .func fd, osl⟩ ∧ PySem.W.codeIn K (.ref c) qual = true
  kp : PySem.W.keepIn K (.ref f) = true
theorem FunCD.ok {P : Program} {w : World} {K : PySem.W.Frag} {mg : Str → Option Value} {base : Heap} {x qual : Str} {st : Stmt} {dvs : List V} {f : Addr} {fd : FuncData} {c : Addr} {N ps : List Str} {k : Nat} {sp : Sp} (F : FunCD K x qual st dvs f fd c) (S : FnScope N ps (defScope st)) (len : ∀ vs H Q E, sp vs H Q E → vs.length = ps.length)
    (hbody : ∀ (A : Around) (outer : List Env) (s : Shared) (H : Hp) (vs : List V) (Q : VK) (E : XK), Room k (A.deeper (envOfC qual (defScope st) s.heap.objs.size f (.ref c))) → sp vs H Q E →
      ∃ t, PSs (cxOf CX0 P w K mg base N qual (defScope st) f (.ref c) A outer s H E).nox (defBody st) t ∧ t { nx := fun _ H' => Q .non H', rt := Q } (start N vs) H) : FnOk P w K mg base CX0 (k + 1) f fd ps sp := by
  obtain ⟨oc, od, dV, kV, doc, pm, an, ct, osl, rfl, lk, hcd⟩ := F.ex
  refine fn_of lk hcd S len fun A outer s H vs Q E hr hsp => ?_
  obtain ⟨t, h, q⟩ := hbody A outer s H vs Q E hr hsp
  exact ⟨t, h.nox, q⟩
/-- a call that leaves the last parameters to their defaults dv -/
def CalD (P : Program) (w : World) (K : PySem.W.Frag) (mg : Str → Option Value) (base : Heap) (x : Str) (ps : List Str) (dv : List V) (k : Nat) (sp : Sp) : Prop := ∃ f fd ds, FnOk P w K mg base CX0 k f fd ps sp ∧ mg x = some (.ref f) ∧ PySem.W.keepIn K (.ref f) = true ∧ Vals dv ds ∧ Binds K fd ps ds
theorem pe_calD {X : Cx} {ps : List Str} {dv : List V} {k : Nat} {sp : Sp} {x : Str} {p pos : Pos} {e : Expr} {es : List Expr} {t : TA} (c : CalD X.prog X.w X.K X.mg X.base x ps dv k sp) (hr : Room k X.A) (ha : PA X (e :: es) t) (hg : Gl X x := by rfl) (hdb : (x == ("__debug__" : Str)) = false := by decide)
    (he : starEach (e :: es) X.env = (false, eval e X.env) :: starEach es X.env := by rfl) (hpl : (backTo pos (starEach es X.env)).any (·.1) = false := by rfl) : PE X (.Call (.Name x p) (e :: es) [] pos) (tCall sp dv E0 t) := by
  obtain ⟨f, fd, ds, F, m, kp, rv, b⟩ := c
  exact pe_call F hr hg m kp b rv pass0 ha hdb he hpl
/-- lambda a, ..: body, without defaults -/
theorem pe_lamP {X : Cx} {T : List (Addr × Str)} {c P : Addr} {params : Arguments} {body : Expr} {scope : Scope} {pos : Pos} (TB : LamX.TabB X.base X.mg c P) (hcode : X.env.code = .ref c)
    (hm : (P, X.env.qual ++ "<lambda>") ∈ T) (hu : ∀ p ∈ T, p.1 = P → p.2 = X.env.qual ++ "<lambda>") (hfree : ∀ (ok : X.Ok), ∀ y ∈ scope.names, y.2 = .free → ∃ c, X.env.cells.lookup y.1 = some c) (hdef : defaultsOf params X.env = ([], []) := by rfl) :
    PE X (.Lambda params body scope pos) (tLamV T (X.env.qual ++ "<lambda>") params body scope (cloFrom X.env.cells scope.names []) (fun dV _ => dV = .none)) := by
  refine ⟨fun pins s σ H Q I h => ?_⟩
  obtain ⟨hT, h⟩ := h
  refine PySem.W.kla_eval hdef ?_
  rw [makeFunction_eq]
  simp only [List.zip_nil_right, List.filterMap_nil, List.isEmpty_nil, if_true, pure_bind]
  exact lam_tail I TB hcode hm hu hT (hfree I.ok) fun f c' doc pm ctv H1 s' e1 tk t1 n1 k1 I1 => ⟨.ref f, _, I1, rfl, h H1 f c' .none doc pm ctv (clo_inj I.ok (hfree I.ok)) e1 tk t1 rfl n1 k1⟩
/-- the numbers of the pages that may be used, without one -/
def usableN (sh : List Page) (but : Option Nat) : List Nat := (List.range sh.length).filter fun i => !(decide (some i = but)) && ((sh[i]?.map fun p => !p.usable.isEmpty).getD false)
def keyN (sh : List Page) (i : Nat) : Int := -((sh[i]?.map Page.freeI).getD 0)
def usableP (sh : List Page) (but : Option Nat) : List Nat := sortK (keyN sh) (usableN sh but)
def butV : Option Nat → V
  | none => .non
  | some n => .int (n : Int)
/-- pages as any shelf's def wants them -/
structure Pages (sh : List Page) : Prop where
  le : sh.length ≤ 12
  fit : ∀ p ∈ sh, p.Fits
  sz : ∀ p ∈ sh, ∀ s ∈ p.slots, s.size ≤ 1000
abbrev usaQ : Str := ("usable_pages" : Str) ++ (".<locals>." : Str) ++ ("<lambda>" : Str)
def spUsableP (K : PySem.W.Frag) (T : List (Addr × Str)) (PF : Addr) : Sp := fun vs H Q _ => ∃ v sh but, vs = [v, butV but] ∧ Dp K H v (.list (shD sh)) ∧ Pages sh ∧ GxR.TabG H PF ∧ Tabs T H ∧
  ∀ H' r, XX T H H' → H r = none → H' r = some (.lst ((usableP sh but).map fun (n : Nat) => V.int (n : Int))) → Q (.ref r) H'
end GX
/-! slotpages.rooms: usable_pages -/
namespace GX
open PySem PySem.Spec PyProof.Rows L2 LamX
theorem lamP_free {X : Cx} {sc scope : Scope} (ok : X.Ok) (hsc : X.env.scope = sc) (h : (scope.names.all fun y => !decide (y.2 = .free) || decide (sc.names.lookup y.1 = some .cell)) = true) : ∀ y ∈ scope.names, y.2 = .free → ∃ c, X.env.cells.lookup y.1 = some c := fun y hy e => by
  have q := List.all_eq_true.mp h y hy
  rw [decide_eq_true e, Bool.not_true, Bool.false_or] at q
  exact ok.has _ (.inl (by show X.env.scope.names.lookup y.1 = some .cell; rw [hsc]; exact of_decide_eq_true q))
section
variable {T : List (Addr × Str)} {S : Addr → Prop} {H1 H2 H' : Hp}
theorem Fr.backX (z : Fr S H1 H2) (a : XX T H2 H') : XX T H1 (unf S H') := by
  have m := z.back (S' := fun _ => False) a.xm
  refine m.xx fun b ps e => ?_
  obtain ⟨ps', e'⟩ := a.tbl b ps (z.ext e)
  exact ⟨ps', by rw [unf_out (z.no e)]; exact e'⟩
end
theorem lam_into {X : Cx} {σ : L2.St} {Hx H2 : Hp} {sc scope : Scope} {Nl : List Str} {js : List Nat} {a : Str} {n : Nat} {T : List (Addr × Str)} (z : Frozen X σ Hx H2) (cap : CapS1 sc scope X.N Nl js a) (hce : X.env.cells = cellsFrom n sc.names []) :
    XX T Hx (unf (CS (cloFrom X.env.cells scope.names [])) H2) ∧ ∀ H', XX T (unf (CS (cloFrom X.env.cells scope.names [])) H2) H' → (∀ b, CS (cloFrom X.env.cells scope.names []) b → H' b = none) → XX T Hx (unf (CellOf X) (ref2 (CS (cloFrom X.env.cells scope.names [])) H2 H')) := by
  have Z := fr_of z
  have sub : ∀ b, CS (cloFrom X.env.cells scope.names []) b → CellOf X b := fun b hb => by
    obtain ⟨y, e⟩ := hb
    exact ⟨y, clo_cm (cap1_free cap hce) e⟩
  exact ⟨Z.into sub, fun H' x hn => Z.backX ((Z.any.sub sub).refX x hn)⟩
theorem range_take (n i : Nat) (h : i < n) : (List.range n).take (i + 1) = (List.range n).take i ++ [i] := by
  rw [List.take_succ, List.getElem?_range h]; rfl
section
variable {P : Program} {w : World} {K : PySem.W.Frag} {mg : Str → Option Value} {base : Heap} {T : List (Addr × Str)}
abbrev upN : List Str := ["sheets", "but", "usable", "number", "sheet"]
theorem sc_usable_pages : FnScope upN ["sheets", "but"] (defScope s_usable_pages) := ⟨rfl, rfl, rfl, by decide +kernel, rfl, by decide +kernel, by decide +kernel⟩
def lamOf (st : Stmt) : Arguments × Expr × Scope := match defBody st with
  | [_, .Return (some (.Call _ _ [⟨_, .Lambda a b s _, _⟩] _)) _] => (a, b, s)
  | _ => (⟨[], [], none, [], [], none, []⟩, .Constant .none 0 ⟨0, 0, 0, 0⟩, ⟨.function, [], false, false, []⟩)
theorem ok_usable_pages {f c PU PF : Addr} {fd : FuncData} (F : FunCD K "usable_pages" "usable_pages" s_usable_pages [.non] f fd c) (TB : LamX.TabB base mg c PU) (hm : (PU, usaQ) ∈ T) (hu0 : ∀ p ∈ T, p.1 = PU → p.2 = usaQ) (B2 : Blt2 mg)
    (cU : Cal P w K mg base CX0 "usable_slots" ["page"] 1 (spUsable K T)) (cF : Cal P w K mg base CX0 "free_cells" ["page"] 3 (spFreeC K T PF)) : FnOk P w K mg base CX0 7 f fd ["sheets", "but"] (spUsableP K T PF) := by
  refine F.ok sc_usable_pages (fun vs H Q E h => by obtain ⟨v, sh, but, rfl, _⟩ := h; rfl) (fun A outer s H vs Q E hr h => ?_)
  obtain ⟨v, sh, but, rfl, hd, hp, hG, hT, k⟩ := h
  have nd := sc_usable_pages.nd
  refine ⟨_, pss_cons (ps_setLc (i := 2) (own := [("number", 3), ("sheet", 4)]) (g := g2 K 3 4)
      (tt := tAnd (tTest (tOp rNe (tVar 3) (tVar 1))) (fun σ H Q => tCall (spUsable K T) [] E0 (tCons (tVar 4) tNil) σ H fun x H' => ∃ k, TruV K x H' k ∧ Q k H')) (te := tVar 3)
      (by rfl) nd rfl rfl (sw_true rfl rfl rfl (by decide +kernel)) (pi_enum (by rfl) B2.enum (pa_cons (pv 0) pa_nil)) (blkOk_by (own := [("number", 3), ("sheet", 4)]) (N := upN) (sc := defScope s_usable_pages) (by decide +kernel))
      (fun _ _ _ _ _ => pg_tup (by rfl) (pgs_cons (pg_name (i := 3) nd rfl (.inl rfl)) (pgs_cons (pg_name (i := 4) nd rfl (.inl rfl)) pgs_nil)))
      (fun _ _ _ _ _ => pts_one (PW.pt (pw_and (pt_cmpR op_ne (pv 3) (pv 1) (nomark _)) (pw_and1 (pt_truth (pe_cal cU (hr.mono (by decide)) (pa_cons (pv 4) pa_nil)) (by intro _; rfl))))))
      (fun _ _ _ _ _ => pv 3))
    (pss_one (ps_ret (pe_sortK (k := 4) hr (fun _ => rfl) (by rfl) B2.sorted (by decide +kernel) (pa_cons (pv 2) pa_nil) (pk_cons (pe_lamP (T := T) TB (by rfl) hm hu0 (fun ok => lamP_free (sc := defScope s_usable_pages) ok rfl (by decide +kernel))) pk_nil)))), ?_⟩
  obtain ⟨a, xs, rfl, hs, ha, hl⟩ := dp_sh hd
  refine ⟨_, rfl, a, xs, rfl, hs, fun D hD => ?_⟩
  have hlen := hp.le
  refine lc_it walk_enum (fun i H' => XX T H H' ∧ H' D = some (.lst ((((List.range sh.length).take i).filter fun i => !(decide (some i = but)) && ((sh[i]?.map fun p => !p.usable.isEmpty).getD false)).map fun (n : Nat) => V.int (n : Int)))) ⟨XX.new hD, upd_same⟩ (fun i H' _ pv => pv.1.sqL hs) (fun i v H' H'' hi pv y => ?_) fun H' pv => ?_
  · obtain ⟨t, u0, u, rfl, ht, rfl, e0, eu⟩ := y
    obtain ⟨x1, hl1⟩ := pv
    cases e0
    have eu : xs[i]? = some u := eu
    have hi' : i < sh.length := by omega
    have e2 : sh[i]? = some (sh[i]) := List.getElem?_eq_getElem hi'
    obtain ⟨u2, eu2, du⟩ := sh_at (Dp.xxAll x1 _ _ ha) e2
    rw [eu] at eu2
    cases eu2
    have xt := XX.new (T := T) (o := .tup [.int (i : Nat), u]) ht
    have x2 := x1.trans xt
    have hD2 := xt.lst hl1
    have stp := range_take sh.length i hi'
    have hfl : (((List.range sh.length).take i).filter fun i => !(decide (some i = but)) && ((sh[i]?.map fun p => !p.usable.isEmpty).getD false)).length ≤ 12 := by
      refine Nat.le_trans (List.length_filter_le _ _) ?_
      rw [List.length_take, List.length_range]
      omega
    refine ⟨t, _, rfl, SqT.of upd_same, rfl, _, _, rfl, _, _, rfl, rfl, rfl, ?_⟩
    refine ⟨_, rfl, _, rfl, ?_, _, rfl, ?_⟩
    · cases but <;> rfl
    · have edc : (!decide (V.int (i : Int) = butV but)) = !(decide (some i = but)) := by
        cases but with
        | none => simp [butV]
        | some n =>
          by_cases hn : i = n
          · subst hn; simp [butV]
          · have h1 : ¬ (V.int (i : Int) = butV (some n)) := fun z => hn (by injection z with z; omega)
            have h2 : ¬ (some i = some n) := fun z => hn (Option.some.inj z)
            rw [decide_eq_false h1, decide_eq_false h2]
      rw [edc]
      by_cases hb : some i = but
      · rw [decide_eq_true hb]
        refine iteF (iteF ⟨x2, ?_⟩)
        rw [stp, hD2, List.filter_append]
        simp [hb]
      · rw [decide_eq_false hb]
        refine iteT ⟨u, rfl, u, sh[i], rfl, Dp.xx xt _ _ du, (hp.fit _ (List.getElem_mem hi')).1, fun H3 r x3 nr er => ?_⟩
        have hD3 := x3.lst hD2
        refine ⟨!(sh[i]).usable.isEmpty, .inl ⟨_, SqL.of er, by cases (sh[i]).usable <;> rfl⟩, ?_⟩
        cases q : (sh[i]).usable.isEmpty with
        | true =>
          refine iteF ⟨x2.trans x3, ?_⟩
          rw [stp, hD3, List.filter_append]
          simp [hb, e2, q]
        | false =>
          refine iteT ⟨_, rfl, _, hD3, ?_, (x2.trans x3).atD hD hD3, ?_⟩
          · rw [List.length_map]
            exact Nat.lt_of_le_of_lt hfl (by decide)
          · rw [upd_same, stp, List.filter_append]
            simp [hb, e2, q]
  · obtain ⟨x1, hl1⟩ := pv
    rw [hl, List.take_of_length_le (by rw [List.length_range]; omega)] at hl1
    refine ⟨_, rfl, x1.tabs hT, fun H1 fl c' dV doc pm ctv inj0 e1 tk1 t1 hdV nf hc => ?_⟩
    have xl := XX.lam (T := T) e1 (fun _ => t1) tk1.1 tk1.2
    have xf : ∀ ob, XX T H1 (upd H1 fl ob) := fun ob => XX.new nf
    have eD : ∀ ob, upd H1 fl ob D = some (.lst (((usableN sh but).map fun (n : Nat) => (n : Int)).map V.int)) := fun ob => by
      rw [List.map_map]
      exact (xl.trans (xf ob)).lst hl1
    refine ⟨D, fl, (usableN sh but).map fun (n : Nat) => (n : Int), fun z => keyN sh z.toNat, fun H' => XX T _ H', rfl, rfl, SqL.of (eD _), XX.refl _, ?_, fun H' ns' p xg st np np2 => ?_⟩
    · intro n u Hq HF hn hru xg z
      obtain ⟨i, hi, rfl⟩ := List.mem_map.mp hn
      have hi' : i < sh.length := List.mem_range.mp (List.mem_filter.mp hi).1
      have e2 : sh[i]? = some (sh[i]) := List.getElem?_eq_getElem hi'
      have cap : CapS1 (defScope s_usable_pages) (lamOf s_usable_pages).2.2 upN ["number", "sheets"] [0] "number" := cap1_by rfl (by decide +kernel)
      have hfz := z.ext (xg.keep _ _ upd_same fun ps q => by cases q)
      have hcz := z.ext (xg.keep _ _ (by rw [upd_ne (ne_of_none hc nf)]; exact hc) fun ps => codeO_ne ps)
      have L := lamAt_frz1 (D := fun dV _ => dV = .none) (v0 := .int (i : Int)) z cap rfl rfl hfz hcz hdV
      obtain ⟨into, back⟩ := lam_into (T := T) z cap rfl
      refine ⟨_, _, callOk_lamP (k := 3) (τ := some (.int (i : Int)) :: capS _ [0]) (Nl := ["number", "sheets"]) (v0 := .int (i : Int)) (u0 := u) (a := "number") (tb := fun E => tUn (rU fun i => .int (-i)) (tCall (spFreeC K T PF) [] E0 (tCons (tOp (rIxL K) (tVar 1) (tVar 0)) tNil)))
        ⟨cap.kind, cap.co, cap.gen, cap.ncell⟩ inj0 (cap1_clos cap) (by unfold capS; rw [List.length_cons, List.length_map]; rfl) (fun j y e => ?_) cap.at0 cap.loc rfl hru (fun _ _ _ _ => rfl)
        (fun A outer s H E hr => pe_un un_neg (pe_cal cF hr (pa_cons (pe_ix ix_list (pv 1) (pv 0) (fun _ _ => rfl)) pa_nil))), L, ?_⟩
      · obtain ⟨_, _, _, _, e2⟩ := cap.at_ j y e
        rw [e2]
        exact fun q => by cases q
      · have xq := ((x1.trans xl).trans (xf _)).trans (xg.trans into)
        obtain ⟨u2, eu2, du⟩ := sh_at ha e2
        refine ⟨_, rfl, _, rfl, a, xs, (i : Int), u2, rfl, rfl, xq.sqL hs, atI_nat eu2, u2, sh[i], rfl, Dp.xx xq _ _ du, (hp.fit _ (List.getElem_mem hi')).1, hp.sz _ (List.getElem_mem hi'), xq.tabG _ hG, fun H'' x'' => ⟨_, rfl, fun hnn => ⟨?_, xg.trans (back _ x'' hnn)⟩⟩⟩
        show V.int (-(sh[i]).freeI) = V.int (keyN sh (i : Int).toNat)
        rw [keyN, Int.toNat_natCast, e2]
        rfl
    · have e := st_eq st
      have em : ns' = (usableP sh but).map fun (n : Nat) => (n : Int) := by
        rw [e, sortK_map]
        rfl
      rw [em, List.map_map]
      exact k _ p ((((x1.trans xl).trans (xf _)).trans xg).trans (XX.new np)) (((x1.trans xl).trans (xf _)).free np2) upd_same
def spPagesPut (K : PySem.W.Frag) (T : List (Addr × Str)) (PF cF : Addr) : Sp := fun vs H Q E => ∃ v sh, vs = [v] ∧ Dp K H v (.list (shD sh)) ∧ Pages sh ∧ GxR.TabG H PF ∧ Tabs T H ∧
  (usableP sh none = [] → ∀ H', XX T H H' → E (.ref cF) none H') ∧
  (usableP sh none ≠ [] → ∀ H' r, XX T H H' → H r = none → H' r = some (.lst ((usableP sh none).map fun (n : Nat) => V.int (n : Int))) → Q (.ref r) H')
theorem sc_pages_for_put : FnScope ["sheets", "pages"] ["sheets"] (defScope s_pages_for_put) := ⟨rfl, rfl, rfl, by decide +kernel, rfl, by decide +kernel, by decide +kernel⟩
theorem ok_pages_for_put {f PF cF : Addr} {fd : FuncData} (F : L2.Fun K "pages_for_put" "pages_for_put" s_pages_for_put f fd) (eF : ErrC K mg "Full" cF) (cU : CalD P w K mg base "usable_pages" ["sheets", "but"] [.non] 7 (spUsableP K T PF)) :
    FnOk P w K mg base (L2.CX P w) 8 f fd ["sheets"] (spPagesPut K T PF cF) := by
  refine F.okX sc_pages_for_put (fun vs H Q E h => by obtain ⟨v, sh, rfl, _⟩ := h; rfl) (fun cdv A outer s H vs Q E hr h => ?_)
  obtain ⟨v, sh, rfl, hd, hp, hG, hT, kE, kQ⟩ := h
  have nd := sc_pages_for_put.nd
  refine ⟨_, pss_cons (ps_set (i := 1) nd rfl (.inl rfl) (pe_calD cU hr (pa_cons (pv 0) pa_nil)))
    (pss_cons (ps_if (pt_not (pt_truth (pv 1) (by intro _; rfl))) (pss_one (ps_raise rfl (takes_of rfl rfl rfl rfl) (pmk_err eF))) pss_nil)
    (pss_one (ps_ret (pv 1)))), ?_⟩
  refine ⟨_, rfl, v, sh, none, rfl, hd, hp, hG, hT, fun H3 r3 x3 n3 e3 => ?_⟩
  cases hup : usableP sh none with
  | nil =>
    rw [hup] at e3
    exact ⟨_, rfl, false, .inl ⟨_, SqL.of e3, rfl⟩, iteT (kE hup H3 x3)⟩
  | cons n pgs =>
    have e4 := e3
    rw [hup] at e3
    exact ⟨_, rfl, true, .inl ⟨_, SqL.of e3, rfl⟩, iteF ⟨_, rfl, kQ (by rw [hup]; exact List.cons_ne_nil _ _) H3 r3 x3 n3 e4⟩⟩
end
end GX
/-! slotpages.rooms: shares -/
namespace GX
open PySem PySem.Spec PyProof.Rows L2 LamX
/-- how many values lie in each room, and how many are left; any: whether there is a share already -/
def sharesGo : Bool → Nat → List Nat → List Nat × Nat
  | _, left, [] => ([], left)
  | any, left, r :: rs => if any = true ∧ left = 0 then ([], left) else (min left r :: (sharesGo true (left - min left r) rs).1, (sharesGo true (left - min left r) rs).2)
def spShares (K : PySem.W.Frag) (T : List (Addr × Str)) (cF : Addr) : Sp := fun vs H Q E => ∃ (many : Nat) (rooms : List Nat) (a : Addr), vs = [.int (many : Int), .ref a] ∧ SqL K H a (rooms.map fun (n : Nat) => V.int (n : Int)) ∧ rooms.length ≤ 1000 ∧
  ((sharesGo false many rooms).2 ≠ 0 → ∀ H', XX T H H' → E (.ref cF) none H') ∧
  ((sharesGo false many rooms).2 = 0 → ∀ H' r, XX T H H' → H r = none → H' r = some (.lst ((sharesGo false many rooms).1.map fun (n : Nat) => V.int (n : Int))) → Q (.ref r) H')
theorem shares_len : ∀ (any : Bool) (left : Nat) (rs : List Nat), (sharesGo any left rs).1.length ≤ rs.length
  | _, _, [] => Nat.le_refl _
  | any, left, r :: rs => by
    unfold sharesGo
    split
    · simp
    · have := shares_len true (left - min left r) rs
      simp; omega
section
variable {P : Program} {w : World} {K : PySem.W.Frag} {mg : Str → Option Value} {base : Heap} {T : List (Addr × Str)} {cF : Addr}
abbrev shN : List Str := ["many", "rooms", "sizes", "left", "room", "size"]
theorem sc_shares : FnScope shN ["many", "rooms"] (defScope s_shares) := ⟨rfl, rfl, rfl, by decide +kernel, rfl, by decide +kernel, by decide +kernel⟩
theorem ok_shares {f : Addr} {fd : FuncData} (F : L2.Fun K "shares" "shares" s_shares f fd) (B2 : Blt2 mg) (eF : ErrC K mg "Full" cF) : FnOk P w K mg base (L2.CX P w) 1 f fd ["many", "rooms"] (spShares K T cF) := by
  refine F.okX sc_shares (fun vs H Q E h => by obtain ⟨many, rooms, a, rfl, _⟩ := h; rfl) (fun cdv A outer s H vs Q E hr h => ?_)
  obtain ⟨many, rooms, a, rfl, hS, hln, kF, kQ⟩ := h
  have nd := sc_shares.nd
  refine ⟨_, pss_cons (ps_set (i := 2) nd rfl (.inl rfl) (pe_lst pa_nil)) (pss_cons (ps_set (i := 3) nd rfl (.inl rfl) (pv 0))
    (pss_cons (ps_for (passes_of rfl) rfl (pi_list (pv 1)) (pg_name (i := 4) nd rfl (.inl rfl))
      (pss_cons (ps_if (PW.pt (pw_and (pt_truth (pv 2) (by intro _; rfl)) (pw_and1 (pt_cmpR op_eq (pv 3) pe_int (nomark _))))) (pss_one ps_break) pss_nil)
      (pss_cons (ps_set (i := 5) nd rfl (.inl rfl) (pe_callB (call_min2 rfl) (by rfl) B2.min (by decide +kernel) (pa_cons (pv 3) (pa_cons (pv 4) pa_nil))))
      (pss_cons (ps_expr (pe_bm PySem.F.plainAttrs_list PySem.F.slot_list_append PySem.F.type_list_append mt_append (pv 2) (pa_cons (pv 5) pa_nil)))
      (pss_one (ps_aug (i := 3) nd rfl (.inl rfl) (pv 5) in_sub))))))
    (pss_cons (ps_if (pt_cmpR op_gt (pv 3) pe_int (nomark _)) (pss_one (ps_raise rfl (takes_of rfl rfl rfl rfl) (pmk_err eF))) pss_nil)
    (pss_one (ps_ret (pv 2)))))), ?_⟩
  refine ⟨(by show 0 ≤ sizeLine; decide), fun D hD => ⟨_, rfl, ?_⟩⟩
  -- behind the loop
  have fin : ∀ (σ' : L2.St) (H' : Hp), (∃ u4 u5, σ' = [some (.int (many : Int)), some (.ref a), some (.ref D), some (.int ((sharesGo false many rooms).2 : Int)), u4, u5] ∧ XX T H H' ∧ H' D = some (.lst ((sharesGo false many rooms).1.map fun (n : Nat) => V.int (n : Int)))) →
      tSeq (tIfS (tTest (tOp (rI0 fun i j => .bl (decide (j < i))) (tVar 3) (tC (.int 0)))) (fun _ _ H => E (.ref cF) none H) tNext) (tRet (tVar 2)) { nx := fun _ H' => Q .non H', rt := Q } σ' H' := by
    rintro σ' H' ⟨u4, u5, rfl, x1, e1⟩
    refine ⟨_, rfl, _, _, rfl, rfl, _, rfl, ?_⟩
    by_cases h0 : (sharesGo false many rooms).2 = 0
    · rw [decide_eq_false (show ¬ (0 : Int) < ((sharesGo false many rooms).2 : Int) by omega)]
      exact iteF ⟨_, rfl, kQ h0 H' D x1 hD e1⟩
    · rw [decide_eq_true (show (0 : Int) < ((sharesGo false many rooms).2 : Int) by omega)]
      exact iteT (kF h0 H' x1)
  have x0 := XX.new (T := T) (o := .lst []) hD
  refine ⟨_, rfl, a, rfl, ⟨_, x0.sqL hS⟩, for_list (xs := rooms.map fun (n : Nat) => V.int (n : Int)) (fun i σ' H' => ∃ (acc : List Nat) (left : Nat) (u4 u5 : Option V), σ' = [some (.int (many : Int)), some (.ref a), some (.ref D), some (.int (left : Int)), u4, u5] ∧ XX T H H' ∧ H' D = some (.lst (acc.map fun (n : Nat) => V.int (n : Int))) ∧ acc.length ≤ i ∧
      (sharesGo false many rooms) = (acc ++ (sharesGo (!acc.isEmpty) left (rooms.drop i)).1, (sharesGo (!acc.isEmpty) left (rooms.drop i)).2))
    ⟨[], many, none, none, rfl, x0, upd_same, Nat.le_refl _, rfl⟩ (fun i σ' H' _ ⟨_, _, _, _, _, x1, _⟩ => x1.sqL hS) ?_ ?_⟩
  · rintro i v σ' H' hi ⟨acc, left, u4, u5, rfl, x1, e1, hal, inv⟩
    rw [List.getElem?_map] at hi
    obtain ⟨r, er, rfl⟩ : ∃ r, rooms[i]? = some r ∧ v = V.int (r : Int) := by
      cases q : rooms[i]? with
      | none => rw [q] at hi; cases hi
      | some r => rw [q] at hi; cases hi; exact ⟨r, rfl, rfl⟩
    have hil := (List.getElem?_eq_some_iff.mp er).1
    have edr : rooms.drop i = r :: rooms.drop (i + 1) := by rw [List.drop_eq_getElem_cons hil, (List.getElem?_eq_some_iff.mp er).2]
    rw [edr] at inv
    refine ⟨_, rfl, !acc.isEmpty, .inl ⟨_, SqL.of e1, by cases acc <;> rfl⟩, ?_⟩
    by_cases hb : acc.isEmpty = false ∧ left = 0
    · obtain ⟨h1, rfl⟩ := hb
      rw [h1] at inv ⊢
      refine iteT ⟨_, rfl, rfl, _, rfl, iteT (fin _ _ ⟨some (.int (r : Int)), u5, ?_, x1, ?_⟩)⟩
      · rw [inv]; rfl
      · rw [inv, e1]; simp [sharesGo]
    · have em : (if (r : Int) < (left : Int) then (r : Int) else (left : Int)) = ((min left r : Nat) : Int) := by
        split <;> omega
      have hg : ¬ ((!acc.isEmpty) = true ∧ left = 0) := fun z => hb ⟨by simpa using z.1, z.2⟩
      have x2 := x1.atD (acc' := (acc.map fun (n : Nat) => V.int (n : Int)) ++ [.int ((min left r : Nat) : Int)]) hD e1
      have inv2 : sharesGo false many rooms = (acc ++ [min left r] ++ (sharesGo (!(acc ++ [min left r]).isEmpty) (left - min left r) (rooms.drop (i + 1))).1, (sharesGo (!(acc ++ [min left r]).isEmpty) (left - min left r) (rooms.drop (i + 1))).2) := by
        rw [inv, show (acc ++ [min left r]).isEmpty = false by cases acc <;> rfl]
        conv => lhs; unfold sharesGo
        rw [if_neg hg]
        simp
      have hlt : ((acc.map fun (n : Nat) => V.int (n : Int))).length < sizeLine := by
        rw [List.length_map]
        exact Nat.lt_of_lt_of_le (show acc.length < 1001 by omega) (by decide)
      by_cases ha : acc.isEmpty = true
      · rw [ha]
        refine iteF (iteF ⟨_, rfl, _, rfl, _, _, rfl, ?_⟩)
        rw [em]
        refine ⟨_, rfl, .inl ⟨rfl, _, SqL.of e1⟩, _, rfl, D, _, _, rfl, rfl, e1, hlt, _, rfl, _, rfl, _, _, rfl, rfl, acc ++ [min left r], left - min left r, _, _, by rw [show ((left - min left r : Nat) : Int) = (left : Int) - (min left r : Nat) by omega] <;> rfl, x2, by rw [upd_same]; simp, by simp; omega, inv2⟩
      · have ha' : acc.isEmpty = false := by simpa using ha
        have hl0 : ¬ left = 0 := fun z => hb ⟨ha', z⟩
        rw [ha']
        refine iteT ⟨_, rfl, rfl, _, rfl, ?_⟩
        rw [decide_eq_false (show ¬ V.int (left : Int) = V.int 0 from fun z => hl0 (by injection z with z; omega))]
        refine iteF ⟨_, rfl, _, rfl, _, _, rfl, ?_⟩
        rw [em]
        refine ⟨_, rfl, .inl ⟨rfl, _, SqL.of e1⟩, _, rfl, D, _, _, rfl, rfl, e1, hlt, _, rfl, _, rfl, _, _, rfl, rfl, acc ++ [min left r], left - min left r, _, _, by rw [show ((left - min left r : Nat) : Int) = (left : Int) - (min left r : Nat) by omega] <;> rfl, x2, by rw [upd_same]; simp, by simp; omega, inv2⟩
  · rintro σ' H' ⟨acc, left, u4, u5, rfl, x1, e1, hal, inv⟩
    rw [List.length_map, List.drop_length] at inv
    exact fin _ _ ⟨u4, u5, by rw [inv]; rfl, x1, by rw [inv, e1]; simp [sharesGo]⟩
end
end GX
/-! slotpages.chains -/
namespace GX
open PySem PySem.Spec PyProof.Rows L2 LamX
def slotAt (sh : List Page) (p : Pl) : Option Slot := (sh[p.1]?).bind fun pg => pg.slots[p.2]?
def Slot.next : Slot → Option Pl
  | .free _ => none
  | .held _ _ _ _ n => n
def Slot.isHeld : Slot → Bool
  | .free _ => false
  | .held _ _ _ _ _ => true
/-- the places to which n leads, one behind another -/
inductive Chain (sh : List Page) : Option Pl → List Pl → Prop
  | nil : Chain sh none []
  | cons {p : Pl} {o : Bool} {t b s : Nat} {n : Option Pl} {l : List Pl} : slotAt sh p = some (.held o t b s n) → Chain sh n l → Chain sh (some p) (p :: l)
theorem Chain.det {sh : List Page} : ∀ {l m : List Pl} {n : Option Pl}, Chain sh n l → Chain sh n m → l = m
  | [], m, _, .nil, h => by cases h; rfl
  | p :: l, m, _, .cons e h, h2 => by
    cases h2 with
    | cons e2 h2 =>
      rw [e] at e2
      cases e2
      rw [Chain.det h h2]
/-- the places of the slots of which g holds, rising -/
def placesOf (g : Pl → Slot → Bool) (sh : List Page) : List Pl := (List.range sh.length).flatMap fun i => ((List.range ((sh[i]?.map fun p => p.slots.length).getD 0)).filter fun j => ((slotAt sh (i, j)).map (g (i, j))).getD false).map fun j => (i, j)
def rowPlaces (sh : List Page) : List Pl := placesOf (fun _ s => match s with | .held true _ _ _ _ => true | _ => false) sh
def cellsAt (sh : List Page) (p : Pl) : List Nat := ((sh[p.1]?).bind fun pg => (pg.slots[p.2]?).map pg.cellsOf).getD []
def valsOf (sh : List Page) (l : List Pl) : List Nat := l.flatMap (cellsAt sh)
def spSlotAt (K : PySem.W.Frag) : Sp := fun vs H Q _ => ∃ v pv sh p s, vs = [v, pv] ∧ Dp K H v (.list (shD sh)) ∧ Dp K H pv (plD p) ∧ slotAt sh p = some s ∧ ∀ u, Dp K H u s.d → Q u H
def spPlaces (K : PySem.W.Frag) (T : List (Addr × Str)) : Sp := fun vs H Q _ => ∃ v pv sh n l, vs = [v, pv] ∧ Dp K H v (.list (shD sh)) ∧ Dp K H pv (nxD n) ∧ Chain sh n l ∧ l.length ≤ 200 ∧
  ∀ H' r xs, XX T H H' → H r = none → H' r = some (.lst xs) → DpAll K H' xs (l.map plD) → Q (.ref r) H'
def spRowPl (K : PySem.W.Frag) (T : List (Addr × Str)) : Sp := fun vs H Q _ => ∃ v sh, vs = [v] ∧ Dp K H v (.list (shD sh)) ∧ Pages sh ∧ ∀ H' r xs, XX T H H' → H r = none → H' r = some (.lst xs) → DpAll K H' xs ((rowPlaces sh).map plD) → Q (.ref r) H'
def spValuesF (K : PySem.W.Frag) (T : List (Addr × Str)) : Sp := fun vs H Q _ => ∃ v pv sh n l, vs = [v, pv] ∧ Dp K H v (.list (shD sh)) ∧ Pages sh ∧ Dp K H pv (nxD n) ∧ Chain sh n l ∧ l.length ≤ 200 ∧
  ∀ H' r, XX T H H' → H r = none → H' r = some (.lst ((valsOf sh l).map fun (n : Nat) => V.int (n : Int))) → Q (.ref r) H'
theorem pl_flat (l : List Pl) : ∀ d ∈ l.map plD, flatD d = true := fun d hd => by obtain ⟨p, _, e⟩ := List.mem_map.mp hd; rw [← e]; rfl
theorem flatMap_take {α β : Type} (f : α → List β) (l : List α) (i : Nat) (a : α) (h : l[i]? = some a) : (l.take (i + 1)).flatMap f = (l.take i).flatMap f ++ f a := by
  rw [List.take_succ, h, List.flatMap_append]; simp
/-- a walk's turns -/
theorem walk_run {J : It} {n : Nat} {G : Hp → Prop} {Y : Nat → Hp → V → Hp → Prop} (w : Walk J n G Y) {H0 : Hp} {Qd : Hp → Prop} {body : V → Hp → (Hp → Prop) → Prop} (Pv : Nat → Hp → Prop) (h0 : Pv 0 H0) (hG : ∀ i H, i ≤ n → Pv i H → G H)
    (hs : ∀ i x H H', i < n → Pv i H → Y i H x H' → body x H' (Pv (i + 1))) (hd : ∀ H, Pv n H → Qd H) :
    ∃ W : Nat → Nat → Hp → Prop, (∃ m, W 0 m H0) ∧ ∀ i m H, W i m H → (J.stop i H ∧ Qd H) ∨ (J.go i H ∧ ∃ Nx : Hp → Prop, (∀ H', Nx H' → ∃ m', m' < m ∧ W (i + 1) m' H') ∧ ∀ x H', J.yld i H x H' → body x H' Nx) := by
  refine ⟨fun i m H => m = n - i ∧ i ≤ n ∧ Pv i H, ⟨n, by simp, Nat.zero_le _, h0⟩, ?_⟩
  rintro i m H ⟨rfl, hi, p⟩
  by_cases hlt : i < n
  · exact .inr ⟨w.goes i H hlt (hG i H hi p), Pv (i + 1), fun H' p' => ⟨n - (i + 1), by omega, rfl, hlt, p'⟩, fun x H' y => hs i x H H' hlt p (w.yields i H x H' hlt (hG i H hi p) y)⟩
  · obtain rfl : i = n := by omega
    exact .inl ⟨w.stops H (hG i H hi p), hd H p⟩
section
variable {K : PySem.W.Frag} {T : List (Addr × Str)} {H : Hp}
theorem slotAt_some {sh : List Page} {p : Pl} {s : Slot} (h : slotAt sh p = some s) : ∃ pg, sh[p.1]? = some pg ∧ pg.slots[p.2]? = some s := by
  unfold slotAt at h
  cases e : sh[p.1]? with
  | none => rw [e] at h; cases h
  | some pg => rw [e] at h; exact ⟨pg, rfl, h⟩
end
section
variable {P : Program} {w : World} {K : PySem.W.Frag} {mg : Str → Option Value} {base : Heap} {T : List (Addr × Str)}
theorem sc_slot_at : FnScope ["sheets", "place"] ["sheets", "place"] (defScope s_slot_at) := ⟨rfl, rfl, rfl, by decide +kernel, rfl, by decide +kernel, by decide +kernel⟩
theorem ok_slot_at {f : Addr} {fd : FuncData} (F : L2.Fun K "slot_at" "slot_at" s_slot_at f fd) : FnOk P w K mg base CX0 1 f fd ["sheets", "place"] (spSlotAt K) := by
  refine F.ok sc_slot_at (fun vs H Q E h => by obtain ⟨v, pv, sh, p, s, rfl, _⟩ := h; rfl) (fun cdv A outer s H vs Q E hr h => ?_)
  obtain ⟨v, pv', sh, p, sl, rfl, hd, hp, hs, k⟩ := h
  refine ⟨_, pss_one (ps_ret (pe_ix ix_tup (pe_ix ix_tup (pe_ix ix_list (pv 0) (pe_ix ix_tup (pv 1) pe_int (fun _ _ => rfl)) (fun _ _ => rfl)) pe_int (fun _ _ => rfl)) (pe_ix ix_tup (pv 1) pe_int (fun _ _ => rfl)) (fun _ _ => rfl))), ?_⟩
  obtain ⟨a, xs, rfl, hx, ha, _⟩ := dp_sh hd
  obtain ⟨c, rfl, hc⟩ := dp_pl hp
  obtain ⟨pg, e1, e2⟩ := slotAt_some hs
  obtain ⟨u, eu, du⟩ := sh_at ha e1
  obtain ⟨b, x, y, rfl, hb, hxx, _⟩ := dp_page du
  obtain ⟨d, zs, rfl, hz, hza, _⟩ := dp_slots hxx
  obtain ⟨q, eq, dq⟩ := slot_at hza e2
  exact ⟨_, rfl, _, rfl, c, _, 0, _, rfl, rfl, hc, atI0, a, _, _, _, rfl, rfl, hx, atI_nat eu, b, _, 0, _, rfl, rfl, hb, atI0, _, rfl, c, _, 1, _, rfl, rfl, hc, atI_nat (j := 1) rfl, d, _, _, q, rfl, rfl, hz, atI_nat eq, k q dq⟩
theorem sc_places_from : FnScope ["sheets", "place", "places"] ["sheets", "place"] (defScope s_places_from) := ⟨rfl, rfl, rfl, by decide +kernel, rfl, by decide +kernel, by decide +kernel⟩
theorem ok_places_from {f : Addr} {fd : FuncData} (F : L2.Fun K "places_from" "places_from" s_places_from f fd) (cS : Cal P w K mg base CX0 "slot_at" ["sheets", "place"] 1 (spSlotAt K)) : FnOk P w K mg base CX0 2 f fd ["sheets", "place"] (spPlaces K T) := by
  refine F.ok sc_places_from (fun vs H Q E h => by obtain ⟨v, pv, sh, n, l, rfl, _⟩ := h; rfl) (fun cdv A outer s H vs Q E hr h => ?_)
  obtain ⟨v, pv', sh, n, l, rfl, hd, hp, hch, hl, k⟩ := h
  have nd := sc_places_from.nd
  refine ⟨_, pss_cons (ps_set (i := 2) nd rfl (.inl rfl) (pe_lst pa_nil))
    (pss_cons (ps_while PassesOwn.never (pt_cmpR op_notN (pv 1) pe_non (nomark _))
      (pss_cons (ps_expr (pe_bm PySem.F.plainAttrs_list PySem.F.slot_list_append PySem.F.type_list_append mt_append (pv 2) (pa_cons (pv 1) pa_nil)))
      (pss_one (ps_set (i := 1) nd rfl (.inl rfl) (pe_ix ix_tup (pe_cal cS hr (pa_cons (pv 0) (pa_cons (pv 1) pa_nil))) pe_int (fun _ _ => rfl))))))
    (pss_one (ps_ret (pv 2)))), ?_⟩
  refine ⟨(by show 0 ≤ sizeLine; decide), fun D hD => ?_⟩
  refine ⟨fun m σ' H' => ∃ done rest pv2 n2 xs, l = done ++ rest ∧ m = rest.length ∧ σ' = [some v, some pv2, some (.ref D)] ∧ XX T H H' ∧ H' D = some (.lst xs) ∧ DpAll K H' xs (done.map plD) ∧ Dp K H' pv2 (nxD n2) ∧ Chain sh n2 rest,
    ⟨l.length, [], l, pv', n, [], rfl, rfl, rfl, XX.new hD, upd_same, .nil, Dp.xx (XX.new (T := T) hD) _ _ hp, hch⟩, ?_⟩
  rintro m σ' H' ⟨done, rest, pv2, n2, xs, el, rfl, rfl, x1, e1, d1, dp2, hc2⟩
  cases hc2 with
  | nil =>
    obtain rfl : pv2 = .non := by cases dp2; rfl
    refine ⟨_, rfl, rfl, _, rfl, iteF ⟨_, rfl, ?_⟩⟩
    rw [List.append_nil] at el
    subst el
    exact k H' D xs x1 hD e1 d1
  | cons es hc3 =>
    rename_i p o t b ss n3 rest
    obtain ⟨c, rfl, hc⟩ := dp_pl dp2
    have lx : xs.length = done.length := by rw [dpAll_len d1, List.length_map]
    have ll : done.length < 200 := by rw [el, List.length_append, List.length_cons] at hl; omega
    refine ⟨_, rfl, rfl, _, rfl, iteT ⟨fun σ'' H'' => ∃ pv3 xs', σ'' = [some v, some pv3, some (.ref D)] ∧ XX T H H'' ∧ H'' D = some (.lst xs') ∧ DpAll K H'' xs' ((done ++ [p]).map plD) ∧ Dp K H'' pv3 (nxD n3), ?_, ?_⟩⟩
    · rintro σ'' H'' ⟨pv3, xs', rfl, y1, y2, y3, y4⟩
      exact ⟨rest.length, by simp, done ++ [p], rest, pv3, n3, xs', by rw [el]; simp, rfl, rfl, y1, y2, y3, y4, hc3⟩
    · have x2 := x1.atD (acc' := xs ++ [.ref c]) hD e1
      have m : XM T (fun b => b = D) H' (upd H' D (.lst (xs ++ [.ref c]))) := XM.upd e1 rfl True.intro
      have dv2 : Dp K (upd H' D (.lst (xs ++ [.ref c]))) v (.list (shD sh)) := Dp.xx x2 _ _ hd
      have dc2 : Dp K (upd H' D (.lst (xs ++ [.ref c]))) (.ref c) (plD p) := Dp.xm m _ _ rfl dp2
      refine ⟨_, rfl, .inl ⟨rfl, _, SqL.of e1⟩, _, rfl, D, xs, _, rfl, rfl, e1, ?_, _, rfl, _, rfl, v, .ref c, sh, p, _, rfl, dv2, dc2, es, fun u du => ?_⟩
      · rw [lx]; exact Nat.lt_of_lt_of_le (show done.length < 1000 by omega) (by decide)
      obtain ⟨cu, x0, rfl, hcu, hx0⟩ := dp_held du
      refine ⟨cu, _, 4, _, rfl, rfl, hcu, atI_nat (j := 4) rfl, x0, xs ++ [.ref c], rfl, x2, upd_same, ?_, hx0⟩
      rw [List.map_append]
      exact dpAll_app (dpAll_xm m (pl_flat done) d1) (.cons dc2 .nil)
theorem sc_row_places : FnScope ["sheets", "number", "sheet", "at", "slot"] ["sheets"] (defScope s_row_places) := ⟨rfl, rfl, rfl, by decide +kernel, rfl, by decide +kernel, by decide +kernel⟩
theorem ok_row_places {f : Addr} {fd : FuncData} (F : L2.Fun K "row_places" "row_places" s_row_places f fd) (B2 : Blt2 mg) : FnOk P w K mg base CX0 1 f fd ["sheets"] (spRowPl K T) := by
  refine F.ok sc_row_places (fun vs H Q E h => by obtain ⟨v, sh, rfl, _⟩ := h; rfl) (fun cdv A outer s H vs Q E hr h => ?_)
  obtain ⟨v, sh, rfl, hd, hp, k⟩ := h
  have nd := sc_row_places.nd
  refine ⟨_, pss_one (ps_ret (pe_lc2 (own := [("number", 1), ("sheet", 2), ("at", 3), ("slot", 4)]) (vs1 := [3, 4]) (g := g2 K 1 2) (tt := tYes) (wi1 := iEnumT K (tCons (rIx K (tVar 2) 0) tNil)) (g1 := g2 K 3 4) (tt1 := tIsW K 4 "row") (te := tTup (tCons (tVar 1) (tCons (tVar 3) tNil)))
      (by rfl) nd (pi_enum (by rfl) B2.enum (pa_cons (pv 0) pa_nil)) (blkOk_by (own := [("number", 1), ("sheet", 2), ("at", 3), ("slot", 4)]) (N := ["sheets", "number", "sheet", "at", "slot"]) (sc := defScope s_row_places) (by decide +kernel)) (by decide)
      (fun _ _ _ _ _ => pg_tup (by rfl) (pgs_cons (pg_name (i := 1) nd rfl (.inl rfl)) (pgs_cons (pg_name (i := 2) nd rfl (.inl rfl)) pgs_nil))) (fun _ _ _ _ _ => pts_nil)
      (fun _ _ _ _ _ => pi_enumT (by rfl) B2.enum (pa_cons (pe_ix ix_tup (pv 2) pe_int (fun _ _ => rfl)) pa_nil))
      (fun _ _ _ _ _ => pg_tup (by rfl) (pgs_cons (pg_name (i := 3) nd rfl (.inl rfl)) (pgs_cons (pg_name (i := 4) nd rfl (.inl rfl)) pgs_nil)))
      (fun _ _ _ _ _ => pts_one (pt_cmpR op_eq (pe_ix ix_tup (pv 4) pe_int (fun _ _ => rfl)) pe_str (nomark _)))
      (fun _ _ _ _ _ => pe_tup (pa_cons (pv 1) (pa_cons (pv 3) pa_nil))))), ?_⟩
  obtain ⟨a, xs, rfl, hs, ha, hl⟩ := dp_sh hd
  refine ⟨_, rfl, a, xs, rfl, hs, fun D hD => ?_⟩
  have hlen := hp.le
  let rowsAt : Nat → List Pl := fun i => ((List.range ((sh[i]?.map fun p => p.slots.length).getD 0)).filter fun j => ((slotAt sh (i, j)).map ((fun _ s => match s with | .held true _ _ _ _ => true | _ => false) (i, j))).getD false).map fun j => (i, j)
  refine walk_run walk_enum (fun i H' => XX T H H' ∧ ∃ ys, H' D = some (.lst ys) ∧ DpAll K H' ys ((((List.range sh.length).take i).flatMap rowsAt).map plD) ∧ ys.length ≤ 8 * i) ⟨XX.new hD, [], upd_same, .nil, Nat.le_refl _⟩ (fun i H' _ pv => pv.1.sqL hs) (fun i v H' H'' hi pv y => ?_) fun H' pv => ?_
  · obtain ⟨t, u0, u, rfl, ht, rfl, e0, eu⟩ := y
    obtain ⟨x1, ys, e1, d1, l1⟩ := pv
    cases e0
    have eu : xs[i]? = some u := eu
    have hi' : i < sh.length := by omega
    have e2 : sh[i]? = some (sh[i]) := List.getElem?_eq_getElem hi'
    have fit := hp.fit _ (List.getElem_mem hi')
    obtain ⟨u2, eu2, du⟩ := sh_at ha e2
    rw [eu] at eu2
    cases eu2
    have xt := XX.new (T := T) (o := .tup [.int (i : Nat), u]) ht
    have x2 := x1.trans xt
    obtain ⟨b, x, y, rfl, hb, hx, _⟩ := dp_page du
    obtain ⟨d, zs, rfl, hz, hza, hzl⟩ := dp_slots hx
    refine ⟨t, _, rfl, SqT.of upd_same, rfl, _, _, rfl, _, _, rfl, rfl, rfl, ?_⟩
    refine ⟨_, rfl, b, _, 0, _, rfl, rfl, x2.sqT hb, atI0, d, zs, rfl, x2.sqT hz, ?_⟩
    have stp := flatMap_take rowsAt (List.range sh.length) i i (List.getElem?_range hi')
    have hrl : rowsAt i = ((List.range 8).filter fun j => ((slotAt sh (i, j)).map fun s => match s with | .held true _ _ _ _ => true | _ => false).getD false).map fun j => (i, j) := by
      show ((List.range ((sh[i]?.map fun p => p.slots.length).getD 0)).filter _).map _ = _
      rw [e2]
      show ((List.range (sh[i]).slots.length).filter _).map _ = _
      rw [fit.1]
    refine walk_run walk_enumT (fun j H3 => XX T H H3 ∧ ∃ ys, H3 D = some (.lst ys) ∧ DpAll K H3 ys ((((List.range sh.length).take i).flatMap rowsAt ++ (((List.range 8).take j).filter fun j => ((slotAt sh (i, j)).map fun s => match s with | .held true _ _ _ _ => true | _ => false).getD false).map fun j => (i, j)).map plD) ∧ ys.length ≤ 8 * i + j)
      ⟨x2, ys, xt.lst e1, by simpa using Dp.xxAll xt _ _ d1, l1⟩ (fun j H3 _ pv => pv.1.sqT hz) (fun j v H3 H4 hj pv y => ?_) fun H3 pv => ?_
    · obtain ⟨t2, w0, w1, rfl, ht2, rfl, f0, fu⟩ := y
      obtain ⟨x3, ys3, e3, d3, l3⟩ := pv
      cases f0
      have fu : zs[j]? = some w1 := fu
      have hj8 : j < 8 := by have := fit.1; omega
      have es : (sh[i]).slots[j]? = some ((sh[i]).slots[j]'(by have := fit.1; omega)) := List.getElem?_eq_getElem _
      have esl : slotAt sh (i, j) = some ((sh[i]).slots[j]'(by have := fit.1; omega)) := by unfold slotAt; rw [e2]; exact es
      obtain ⟨w2, ew2, dw⟩ := slot_at (Dp.xxAll x3 _ _ hza) es
      rw [fu] at ew2
      cases ew2
      have xt2 := XX.new (T := T) (o := .tup [.int (j : Nat), w1]) ht2
      have x4 := x3.trans xt2
      have e3t := xt2.lst e3
      have dw2 := Dp.xx xt2 _ _ dw
      have stj := range_take 8 j hj8
      refine ⟨t2, _, rfl, SqT.of upd_same, rfl, _, _, rfl, _, _, rfl, rfl, rfl, ?_⟩
      have no : ∀ (q : ∀ o t b n z, (sh[i]).slots[j]'(by have := fit.1; omega) = Slot.held o t b n z → o = false), XX T H (upd H3 t2 (.tup [.int (j : Nat), w1])) ∧ ∃ ys, (upd H3 t2 (.tup [.int (j : Nat), w1])) D = some (.lst ys) ∧ DpAll K (upd H3 t2 (.tup [.int (j : Nat), w1])) ys ((((List.range sh.length).take i).flatMap rowsAt ++ (((List.range 8).take (j + 1)).filter fun j => ((slotAt sh (i, j)).map fun s => match s with | .held true _ _ _ _ => true | _ => false).getD false).map fun j => (i, j)).map plD) ∧ ys.length ≤ 8 * i + (j + 1) := by
        intro q
        refine ⟨x4, ys3, e3t, ?_, by omega⟩
        rw [stj, List.filter_append]
        have : ([j].filter fun j => ((slotAt sh (i, j)).map fun s => match s with | .held true _ _ _ _ => true | _ => false).getD false) = [] := by
          rw [List.filter_cons, esl]
          cases z : (sh[i]).slots[j]'(by have := fit.1; omega) with
          | free t => rfl
          | held o t b n z2 => rw [q _ _ _ _ _ z]; rfl
        rw [this, List.append_nil]
        exact Dp.xxAll xt2 _ _ d3
      cases z : (sh[i]).slots[j]'(by have := fit.1; omega) with
      | free t =>
        rw [z] at dw2
        obtain ⟨cw, rfl, hcw⟩ := dp_free dw2
        exact ⟨_, rfl, cw, _, 0, _, rfl, rfl, hcw, atI0, rfl, _, rfl, iteF (no fun o t b n q e => by rw [z] at e; cases e)⟩
      | held o tt bb nn q =>
        rw [z] at dw2 esl
        obtain ⟨cw, x0, rfl, hcw, _⟩ := dp_held dw2
        refine ⟨_, rfl, cw, _, 0, _, rfl, rfl, hcw, atI0, rfl, _, rfl, ?_⟩
        cases o with
        | false => exact iteF (no fun o t b n q e => by rw [z] at e; cases e; rfl)
        | true =>
          refine iteT ⟨_, rfl, _, rfl, (by show 2 ≤ sizeLine; decide), fun t5 h5 => ?_⟩
          have x5 := XX.new (T := T) (o := .tup [.int (i : Nat), .int (j : Nat)]) h5
          have e5 := x5.lst e3t
          have m : XM T (fun b => b = D) _ (upd (upd (upd H3 t2 (.tup [.int (j : Nat), .ref cw])) t5 (.tup [.int (i : Nat), .int (j : Nat)])) D (.lst (ys3 ++ [.ref t5]))) := XM.upd e5 rfl True.intro
          refine ⟨ys3, e5, ?_, ?_, ys3 ++ [.ref t5], upd_same, ?_, by simp; omega⟩
          · exact Nat.lt_of_lt_of_le (show ys3.length < 1000 by omega) (by decide)
          · exact (x4.trans x5).atD hD e5
          · rw [stj, List.filter_append]
            have : ([j].filter fun j => ((slotAt sh (i, j)).map fun s => match s with | .held true _ _ _ _ => true | _ => false).getD false) = [j] := by
              rw [List.filter_cons, esl]; rfl
            rw [this, List.map_append (f := fun j => (i, j)), ← List.append_assoc]
            rw [List.map_append (f := plD)]
            exact dpAll_app (dpAll_xm m (pl_flat _) (Dp.xxAll x5 _ _ (Dp.xxAll xt2 _ _ d3))) (.cons (.tup (m.sqT (SqT.of upd_same)) (.cons (.int _) (.cons (.int _) .nil))) .nil)
    · obtain ⟨x3, ys3, e3, d3, l3⟩ := pv
      refine ⟨x3, ys3, e3, ?_, by have := fit.1; omega⟩
      rw [stp, hrl]
      rw [hzl, fit.1, show (List.range 8).take 8 = List.range 8 from rfl] at d3
      exact d3
  · obtain ⟨x1, ys, e1, d1, l1⟩ := pv
    rw [List.take_of_length_le (by rw [List.length_range]; omega)] at d1
    exact k H' D ys x1 hD e1 d1
end
end GX
/-! slotpages.chains: values_from; slotpages.shelf: what stands beside the class -/
namespace GX
open PySem PySem.Spec PyProof.Rows L2 LamX
theorem Chain.held {sh : List Page} : ∀ {l : List Pl} {n : Option Pl}, Chain sh n l → ∀ p ∈ l, ∃ o t b s m, slotAt sh p = some (.held o t b s m)
  | _, _, .nil, p, hp => by simp at hp
  | _, _, .cons e h, p, hp => by
    rcases List.mem_cons.mp hp with z | z
    · rw [z]; exact ⟨_, _, _, _, _, e⟩
    · exact h.held p z
theorem cellsAt_of {sh : List Page} {p : Pl} {pg : Page} {s : Slot} (h1 : sh[p.1]? = some pg) (h2 : pg.slots[p.2]? = some s) : cellsAt sh p = pg.cellsOf s := by
  unfold cellsAt
  rw [h1]
  show ((pg.slots[p.2]?).map pg.cellsOf).getD [] = _
  rw [h2]; rfl
section
variable {P : Program} {w : World} {K : PySem.W.Frag} {mg : Str → Option Value} {base : Heap} {T : List (Addr × Str)}
abbrev vfN : List Str := ["sheets", "place", "values", "number", "at", "slots", "cells", "begin", "size"]
theorem sc_values_from : FnScope vfN ["sheets", "place"] (defScope s_values_from) := ⟨rfl, rfl, rfl, by decide +kernel, rfl, by decide +kernel, by decide +kernel⟩
theorem ok_values_from {f : Addr} {fd : FuncData} (F : L2.Fun K "values_from" "values_from" s_values_from f fd) (cP : Cal P w K mg base CX0 "places_from" ["sheets", "place"] 2 (spPlaces K T)) : FnOk P w K mg base CX0 3 f fd ["sheets", "place"] (spValuesF K T) := by
  refine F.ok sc_values_from (fun vs H Q E h => by obtain ⟨v, pv, sh, n, l, rfl, _⟩ := h; rfl) (fun cdv A outer s H vs Q E hr h => ?_)
  obtain ⟨v, pv', sh, n, l, rfl, hd, hp, hpv, hch, hl, k⟩ := h
  have nd := sc_values_from.nd
  refine ⟨_, pss_cons (ps_set (i := 2) nd rfl (.inl rfl) (pe_lst pa_nil))
    (pss_cons (ps_for PassesOwn.never rfl (pi_list (pe_cal cP hr (pa_cons (pv 0) (pa_cons (pv 1) pa_nil)))) (pg_tup (by rfl) (pgs_cons (pg_name (i := 3) nd rfl (.inl rfl)) (pgs_cons (pg_name (i := 4) nd rfl (.inl rfl)) pgs_nil)))
      (pss_cons (ps_asg (pe_ix ix_list (pv 0) (pv 3) (fun _ _ => rfl)) (pg_tup (by rfl) (pgs_cons (pg_name (i := 5) nd rfl (.inl rfl)) (pgs_cons (pg_name (i := 6) nd rfl (.inl rfl)) pgs_nil))))
      (pss_cons (ps_asg (pe_slice sl_tupA (pe_ix ix_tup (pv 5) (pv 4) (fun _ _ => rfl)) (po_some pe_int) (po_some pe_int)) (pg_tup (by rfl) (pgs_cons (pg_name (i := 7) nd rfl (.inl rfl)) (pgs_cons (pg_name (i := 8) nd rfl (.inl rfl)) pgs_nil))))
      (pss_one (ps_expr (pe_bm PySem.F.plainAttrs_list PySem.F.slot_list_extend PySem.F.type_list_extend mt_extendA (pv 2) (pa_cons (pe_slice sl_tupA (pv 6) (po_some (pv 7)) (po_some (pe_op op_add (pv 7) (pv 8)))) pa_nil)))))))
    (pss_one (ps_ret (pv 2)))), ?_⟩
  refine ⟨(by show 0 ≤ sizeLine; decide), fun D hD => ?_⟩
  have x0 := XX.new (T := T) (o := .lst []) hD
  refine ⟨_, rfl, _, rfl, v, pv', sh, n, l, rfl, Dp.xx x0 _ _ hd, Dp.xx x0 _ _ hpv, hch, hl, fun H1 r xs x1 nr er dx => ?_⟩
  have x01 := x0.trans x1
  have e1 := x1.lst (p := D) upd_same
  have nrD : r ≠ D := fun z => by rw [z, upd_same] at nr; cases nr
  have lx : xs.length = l.length := by rw [dpAll_len dx, List.length_map]
  have held := hch.held
  refine ⟨r, rfl, ⟨xs, SqL.of er⟩, for_list (xs := xs) (fun i σ' H' => ∃ u3 u4 u5 u6 u7 u8, σ' = [some v, some pv', some (.ref D), u3, u4, u5, u6, u7, u8] ∧ XX T H H' ∧ H' r = some (.lst xs) ∧ DpAll K H' xs (l.map plD) ∧ H' D = some (.lst ((valsOf sh (l.take i)).map fun (n : Nat) => V.int (n : Int))) ∧ (valsOf sh (l.take i)).length ≤ 24 * i)
    ⟨_, _, _, _, _, _, rfl, x01, er, dx, e1, by simp [valsOf]⟩ (fun i σ' H' _ ⟨_, _, _, _, _, _, _, _, e, _⟩ => SqL.of e) ?_ ?_⟩
  · rintro i u σ' H' hi ⟨u3, u4, u5, u6, u7, u8, rfl, y1, y2, y3, y4, y5⟩
    have hil : i < l.length := by rw [← lx]; exact (List.getElem?_eq_some_iff.mp hi).1
    obtain ⟨d, ed, dd⟩ := dpAll_get y3 hi
    rw [List.getElem?_map, List.getElem?_eq_getElem hil] at ed
    cases ed
    obtain ⟨c, rfl, hc⟩ := dp_pl dd
    obtain ⟨o, t, b, ss, nx, hs⟩ := held _ (List.getElem_mem hil)
    obtain ⟨pg, g1, g2'⟩ := slotAt_some hs
    obtain ⟨a, zs, rfl, hzs, haz, _⟩ := dp_sh hd
    obtain ⟨w1, ew1, dw1⟩ := sh_at haz g1
    obtain ⟨q, qx, qy, rfl, hq, hqx, hqy⟩ := dp_page dw1
    obtain ⟨q2, qs, rfl, hqs, hqa, _⟩ := dp_slots hqx
    obtain ⟨q3, eq3, dq3⟩ := slot_at hqa g2'
    obtain ⟨q4, q5, rfl, hq4, _⟩ := dp_held dq3
    obtain ⟨q6, ys, rfl, hys, hya⟩ := dp_tup hqy
    have ey := dp_intsV hya
    have fit := hp.fit pg (List.mem_of_getElem? g1)
    have bnd := fit.2.2 _ _ _ _ _ (List.mem_of_getElem? g2')
    refine ⟨c, _, rfl, hc, rfl, _, _, rfl, _, _, rfl, rfl, ?_⟩
    refine ⟨_, rfl, _, rfl, a, _, _, _, rfl, rfl, y1.sqL hzs, atI_nat ew1, q, _, rfl, y1.sqT hq, rfl, _, _, rfl, _, _, rfl, rfl, ?_⟩
    refine ⟨_, rfl, _, rfl, q2, _, _, _, rfl, rfl, y1.sqT hqs, atI_nat eq3, _, rfl, _, rfl, ?_⟩
    refine sl_any (T := T) (y1.sqT hq4) fun H2 r2 z2 s2 => ?_
    have ec : cutV [V.str (wordOf o), .int (t : Int), .int (b : Int), .int (ss : Int), q5] (some 2) (some 4) = [.int (b : Int), .int (ss : Int)] := cut_mid _ 2 4 (by simp) (by simp)
    rw [ec] at s2
    refine ⟨r2, _, rfl, s2, rfl, _, _, rfl, _, _, rfl, rfl, ?_⟩
    have y2' := z2.lst y2
    have y4' := z2.lst y4
    refine ⟨_, rfl, .inl ⟨rfl, _, SqL.of y4'⟩, _, rfl, _, rfl, _, rfl, _, rfl, _, rfl, _, _, rfl, rfl, _, rfl, ?_⟩
    refine sl_any (T := T) ((y1.trans z2).sqT hys) fun H3 r3 z3 s3 => ?_
    have hly : ys.length = 24 := by rw [ey, List.length_map]; exact fit.2.1
    have e2 : cutV ys (some (b : Int)) (some ((b : Int) + (ss : Int))) = (ys.drop b).take ss := by
      have := cut_mid ys b (b + ss) (by omega) (by omega)
      rw [show b + ss - b = ss by omega] at this
      exact this
    have ecl : (ys.drop b).take ss = (cellsAt sh l[i]).map fun (n : Nat) => V.int (n : Int) := by
      rw [cellsAt_of g1 g2', ey]
      exact (map_cut pg.cells b ss).symm
    rw [e2, ecl] at s3
    have y4'' := z3.lst y4'
    have stp : valsOf sh (l.take (i + 1)) = valsOf sh (l.take i) ++ cellsAt sh l[i] := flatMap_take _ _ _ _ (List.getElem?_eq_getElem hil)
    have lc : (cellsAt sh l[i]).length ≤ 24 := by
      have := congrArg List.length ecl
      rw [List.length_map, List.length_take, List.length_drop] at this
      omega
    have m : XM T (fun b => b = D) H3 (upd H3 D (.lst (((valsOf sh (l.take i)).map fun (n : Nat) => V.int (n : Int)) ++ (cellsAt sh l[i]).map fun (n : Nat) => V.int (n : Int)))) := XM.upd y4'' rfl True.intro
    refine ⟨D, r3, _, _, rfl, rfl, y4'', .inl s3, ?_, _, _, _, _, _, _, rfl, ((y1.trans z2).trans z3).atD hD y4'', ?_, ?_, ?_, ?_⟩
    · rw [List.length_map, List.length_map]
      exact Nat.le_trans (show (valsOf sh (l.take i)).length + (cellsAt sh l[i]).length ≤ 10000 by omega) (by decide)
    · rw [upd_ne nrD]; exact z3.lst y2'
    · exact dpAll_xm m (pl_flat l) (Dp.xxAll z3 _ _ (Dp.xxAll z2 _ _ y3))
    · rw [upd_same, stp, List.map_append]
    · rw [stp, List.length_append]; omega
  · rintro σ' H' ⟨u3, u4, u5, u6, u7, u8, rfl, y1, y2, y3, y4, y5⟩
    rw [lx, List.take_length] at y4
    exact ⟨_, rfl, k H' D y1 hD y4⟩
end
end GX
/-! slotpages.shelf: what stands beside the class -/
namespace GX
open PySem PySem.Spec PyProof.Rows L2 LamX
def isName (d : PyData) (many : Int) : Bool := match d with
  | .tuple [a, b, c] => isNum a 0 (many - 1) && (isNum b 0 7 && isNum c 0 99)
  | _ => false
/-- the place of the row of this name -/
def placeOf (sh : List Page) : PyData → Option Pl
  | .tuple [.int a, .int b, .int c] => if 0 ≤ a ∧ a < sh.length ∧ 0 ≤ b ∧ b ≤ 7 ∧ 0 ≤ c ∧ c ≤ 99 then
      (match slotAt sh (a.toNat, b.toNat) with
      | some (.held true t _ _ _) => if (t : Int) = c then some (a.toNat, b.toNat) else none
      | _ => none) else none
  | _ => none
def valsOk : PyData → Bool
  | .list ds => decide (ds.length ≤ 300) && ds.all fun d => isNum d 0 99
  | _ => false
theorem placeOf_no {sh : List Page} {d : PyData} (h : isName d sh.length = false) : placeOf sh d = none := by
  unfold placeOf
  split
  · rename_i a b c
    have h' : ¬ (0 ≤ a ∧ a < sh.length ∧ 0 ≤ b ∧ b ≤ 7 ∧ 0 ≤ c ∧ c ≤ 99) := fun z => by
      simp only [isName, isNum, Bool.and_eq_false_iff, decide_eq_false_iff_not] at h
      omega
    rw [if_neg h']
  · rfl
theorem isName_yes {d : PyData} {many : Nat} (h : isName d many = true) : ∃ a b c : Nat, d = .tuple [.int a, .int b, .int c] ∧ a < many ∧ b ≤ 7 ∧ c ≤ 99 := by
  unfold isName at h
  split at h
  · obtain ⟨h1, h2⟩ := Bool.and_eq_true_iff.mp h
    obtain ⟨h2, h3⟩ := Bool.and_eq_true_iff.mp h2
    obtain ⟨a, rfl, a1, a2⟩ := isNum_int h1
    obtain ⟨b, rfl, b1, b2⟩ := isNum_int h2
    obtain ⟨c, rfl, c1, c2⟩ := isNum_int h3
    refine ⟨a.toNat, b.toNat, c.toNat, ?_, by omega, by omega, by omega⟩
    rw [Int.toNat_of_nonneg a1, Int.toNat_of_nonneg b1, Int.toNat_of_nonneg c1]
  · cases h
theorem isTup3 {d : PyData} (h : isTup d 3 = true) : ∃ x y z, d = .tuple [x, y, z] := by
  obtain ⟨ds, rfl, hl⟩ := isTupN (n := 3) h
  match ds, hl with
  | [x, y, z], _ => exact ⟨x, y, z, rfl⟩
theorem isName_no {d : PyData} {m : Int} (h : isTup d 3 = false) : isName d m = false := by
  unfold isName
  split
  · simp [isTup] at h
  · rfl
def spIsName (K : PySem.W.Frag) : Sp := fun vs H Q _ => ∃ v d many, vs = [v, .int many] ∧ Dp K H v d ∧ Q (.bl (isName d many)) H
def spPlaceD (K : PySem.W.Frag) (T : List (Addr × Str)) (cNR : Addr) : Sp := fun vs H Q E => ∃ v u sh d, vs = [v, u] ∧ Dp K H v (.list (shD sh)) ∧ Pages sh ∧ Dp K H u d ∧ (placeOf sh d = none → E (.ref cNR) none H) ∧
  ∀ p, placeOf sh d = some p → ∀ H' r, XX T H H' → Dp K H' r (plD p) → Q r H'
def spCheckV (K : PySem.W.Frag) (T : List (Addr × Str)) (PV cBR : Addr) : Sp := fun vs H Q E => ∃ v d, vs = [v] ∧ Dp K H v d ∧ GxR.TabG H PV ∧ (valsOk d = false → ∀ H', XX T H H' → E (.ref cBR) none H') ∧ (valsOk d = true → ∀ H', XX T H H' → Q .non H')
section
variable {P : Program} {w : World} {K : PySem.W.Frag} {mg : Str → Option Value} {base : Heap} {T : List (Addr × Str)}
theorem sc_is_name : FnScope ["name", "many"] ["name", "many"] (defScope s_is_name) := ⟨rfl, rfl, rfl, by decide +kernel, rfl, by decide +kernel, by decide +kernel⟩
theorem ok_is_name {f : Addr} {fd : FuncData} (F : L2.Fun K "_is_name" "_is_name" s_is_name f fd) (C : CoF mg) (cN : Cal P w K mg base CX0 "is_number" ["thing", "low", "high"] 1 (spNum K)) (cT : Cal P w K mg base CX0 "is_tuple" ["thing", "many"] 1 (spTup K)) : FnOk P w K mg base CX0 2 f fd ["name", "many"] (spIsName K) := by
  refine F.ok sc_is_name (fun vs H Q E h => by obtain ⟨v, d, many, rfl, _⟩ := h; rfl) (fun cdv A outer s H vs Q E hr h => ?_)
  obtain ⟨v, d, many, rfl, hd, k⟩ := h
  refine ⟨_, pss_cons (ps_if (PW.pt (pw_or (pt_not (pt_val (pe_cal cT hr (pa_cons (pv 0) (pa_cons pe_int pa_nil))))) (pw_or1 (pt_not (pt_val (pe_cal cN hr (pa_cons (pe_ix ix_tup (pv 0) pe_int (fun _ _ => rfl)) (pa_cons pe_int (pa_cons (pe_op op_sub (pv 1) pe_int) pa_nil))))))))) (pss_one (ps_ret pe_bl)) pss_nil)
    (pss_one (ps_ret (pe_and (pe_cal cN hr (pa_cons (pe_ix ix_tup (pv 0) pe_int (fun _ _ => rfl)) (pa_cons pe_int (pa_cons (pe_op op_sub (pe_const C.slots) pe_int) pa_nil)))) (pe_one (pe_cal cN hr (pa_cons (pe_ix ix_tup (pv 0) pe_int (fun _ _ => rfl)) (pa_cons pe_int (pa_cons (pe_const C.turn) pa_nil)))))))), ?_⟩
  refine ⟨v, rfl, v, d, 3, rfl, hd, _, rfl, ?_⟩
  by_cases h3 : isTup d 3 = true
  · rw [h3]
    obtain ⟨x, y, z, rfl⟩ := isTup3 h3
    obtain ⟨a, xs, rfl, hs, ha⟩ := dp_tup hd
    obtain ⟨vx, r, rfl, hx, hr1⟩ := dpAllC ha
    obtain ⟨vy, r, rfl, hy, hr2⟩ := dpAllC hr1
    obtain ⟨vz, r, rfl, hz, hr3⟩ := dpAllC hr2
    obtain rfl := dpAll0 hr3
    refine iteF ⟨_, rfl, a, _, 0, _, rfl, rfl, hs, atI0, _, rfl, _, _, rfl, rfl, vx, x, 0, _, rfl, hx, _, rfl, ?_⟩
    have ek : isName (.tuple [x, y, z]) many = (isNum x 0 (many - 1) && (isNum y 0 7 && isNum z 0 99)) := rfl
    rw [ek] at k
    cases q1 : isNum x 0 (many - 1) with
    | false =>
      rw [q1] at k
      exact iteT k
    | true =>
      rw [q1] at k
      refine iteF ⟨_, rfl, a, _, 1, _, rfl, rfl, hs, atI_nat (j := 1) rfl, _, _, rfl, rfl, vy, y, 0, _, rfl, hy, _, rfl, ?_⟩
      have e7 : isNum y 0 (8 - 1) = isNum y 0 7 := rfl
      rw [e7]
      cases q2 : isNum y 0 7 with
      | false => rw [q2] at k; exact iteF k
      | true =>
        rw [q2] at k
        exact iteT ⟨_, rfl, a, _, 2, _, rfl, rfl, hs, atI_nat (j := 2) rfl, vz, z, 0, 99, rfl, hz, k⟩
  · have h3' : isTup d 3 = false := by simpa using h3
    rw [h3']
    rw [isName_no h3'] at k
    exact iteT k
theorem sc_place : FnScope ["sheets", "name", "slot"] ["sheets", "name"] (defScope s_place) := ⟨rfl, rfl, rfl, by decide +kernel, rfl, by decide +kernel, by decide +kernel⟩
theorem ok_place {f cNR : Addr} {fd : FuncData} (F : L2.Fun K "_place" "_place" s_place f fd) (B : Blt mg) (eN : ErrC K mg "NoRow" cNR) (cI : Cal P w K mg base CX0 "_is_name" ["name", "many"] 2 (spIsName K)) : FnOk P w K mg base (L2.CX P w) 3 f fd ["sheets", "name"] (spPlaceD K T cNR) := by
  refine F.okX sc_place (fun vs H Q E h => by obtain ⟨v, u, sh, d, rfl, _⟩ := h; rfl) (fun cdv A outer s H vs Q E hr h => ?_)
  obtain ⟨v, u, sh, d, rfl, hd, hp, hu, kE, kQ⟩ := h
  have nd := sc_place.nd
  refine ⟨_, pss_cons (ps_if (pt_val (pe_cal cI hr (pa_cons (pv 1) (pa_cons (pe_callB call_len_seq (by rfl) B.len PySem.boot_len (pa_cons (pv 0) pa_nil)) pa_nil))))
      (pss_cons (ps_set (i := 2) nd rfl (.inl rfl) (pe_ix ix_tup (pe_ix ix_tup (pe_ix ix_list (pv 0) (pe_ix ix_tup (pv 1) pe_int (fun _ _ => rfl)) (fun _ _ => rfl)) pe_int (fun _ _ => rfl)) (pe_ix ix_tup (pv 1) pe_int (fun _ _ => rfl)) (fun _ _ => rfl)))
      (pss_one (ps_if (PW.pt (pw_and (pt_cmpR op_eq (pe_ix ix_tup (pv 2) pe_int (fun _ _ => rfl)) pe_str (nomark _)) (pw_and1 (pt_cmpR op_eq (pe_ix ix_tup (pv 2) pe_int (fun _ _ => rfl)) (pe_ix ix_tup (pv 1) pe_int (fun _ _ => rfl)) (nomark _)))))
        (pss_one (ps_ret (pe_slice sl_tupA (pv 1) po_none (po_some pe_int)))) pss_nil))) pss_nil)
    (pss_one (ps_raise rfl (takes_of rfl rfl rfl rfl) (pmk_err eN))), ?_⟩
  obtain ⟨a, xs, rfl, hs, ha, hl⟩ := dp_sh hd
  refine ⟨u, rfl, _, rfl, a, _, rfl, .inl hs, u, d, _, rfl, hu, _, rfl, ?_⟩
  rw [hl]
  cases q : isName d sh.length with
  | false => exact iteF (kE (placeOf_no q))
  | true =>
    obtain ⟨i, j, n, rfl, hi, hj, hn⟩ := isName_yes q
    obtain ⟨c, cs, rfl, hc, hca⟩ := dp_tup hu
    obtain ⟨v0, r, rfl, h0, hr1⟩ := dpAllC hca
    obtain ⟨v1, r, rfl, h1, hr2⟩ := dpAllC hr1
    obtain ⟨v2, r, rfl, h2, hr3⟩ := dpAllC hr2
    obtain rfl := dpAll0 hr3
    obtain rfl := dp_int h0
    obtain rfl := dp_int h1
    obtain rfl := dp_int h2
    have e1 : sh[i]? = some (sh[i]) := List.getElem?_eq_getElem hi
    have fit := hp.fit _ (List.getElem_mem hi)
    have hj' : j < (sh[i]).slots.length := by rw [fit.1]; omega
    have e2 : (sh[i]).slots[j]? = some ((sh[i]).slots[j]) := List.getElem?_eq_getElem hj'
    obtain ⟨w1, ew1, dw1⟩ := sh_at ha e1
    obtain ⟨b, x, y, rfl, hb, hx, _⟩ := dp_page dw1
    obtain ⟨b2, zs, rfl, hz, hza, _⟩ := dp_slots hx
    obtain ⟨w2, ew2, dw2⟩ := slot_at hza e2
    have epl : placeOf sh (.tuple [.int i, .int j, .int n]) = (match slotAt sh (i, j) with
      | some (.held true t _ _ _) => if (t : Int) = (n : Int) then some (i, j) else none
      | _ => none) := by
      show (if _ then _ else _) = _
      rw [if_pos (by omega), Int.toNat_natCast, Int.toNat_natCast]
    have esl : slotAt sh (i, j) = some ((sh[i]).slots[j]) := by unfold slotAt; rw [e1]; exact e2
    rw [epl, esl] at kE kQ
    refine iteT ⟨_, rfl, _, rfl, c, _, 0, _, rfl, rfl, hc, atI0, a, _, _, _, rfl, rfl, hs, atI_nat ew1, b, _, 0, _, rfl, rfl, hb, atI0, _, rfl, c, _, 1, _, rfl, rfl, hc, atI_nat (j := 1) rfl, b2, _, _, w2, rfl, rfl, hz, atI_nat ew2, ?_⟩
    cases z : (sh[i]).slots[j] with
    | free t =>
      rw [z] at dw2 kE
      obtain ⟨c2, rfl, hc2⟩ := dp_free dw2
      exact ⟨_, rfl, c2, _, 0, _, rfl, rfl, hc2, atI0, rfl, _, rfl, iteF (iteF (kE rfl))⟩
    | held o t bb nn nx =>
      rw [z] at dw2 kE kQ
      obtain ⟨c2, x0, rfl, hc2, _⟩ := dp_held dw2
      refine ⟨_, rfl, c2, _, 0, _, rfl, rfl, hc2, atI0, rfl, _, rfl, ?_⟩
      cases o with
      | false => exact iteF (iteF (kE rfl))
      | true =>
        refine iteT ⟨_, rfl, c2, _, 1, _, rfl, rfl, hc2, atI_nat (j := 1) rfl, _, rfl, c, _, 2, _, rfl, rfl, hc, atI_nat (j := 2) rfl, rfl, _, rfl, ?_⟩
        by_cases ht : (t : Int) = (n : Int)
        · rw [decide_eq_true (show V.int (t : Int) = V.int (n : Int) by rw [ht])]
          refine iteT ⟨_, rfl, ?_⟩
          dsimp only [tNoPart]
          refine ⟨_, rfl, ?_⟩
          refine sl_any (T := T) hc fun H1 r1 x1 q1 => kQ (i, j) (by simp [ht]) H1 _ x1 (.tup q1 ?_)
          have ec : cutV [V.int (i : Int), .int (j : Int), .int (n : Int)] none (some 2) = [.int (i : Int), .int (j : Int)] := cut_lo _ 2 (by simp)
          rw [ec]
          exact .cons (.int _) (.cons (.int _) .nil)
        · rw [decide_eq_false (show ¬ V.int (t : Int) = V.int (n : Int) from fun z => ht (by injection z))]
          exact iteF (kE (by simp [ht]))
theorem sc_check_values : FnScope ["values"] ["values"] (defScope s_check_values) := ⟨rfl, rfl, rfl, by decide +kernel, rfl, by decide +kernel, by decide +kernel⟩
end
end GX
/-! slotpages.shelf: _check_values -/
namespace GX
open PySem PySem.Spec PyProof.Rows L2 LamX
theorem FunC.okX {P : Program} {w : World} {K : PySem.W.Frag} {mg : Str → Option Value} {base : Heap} {x qual : Str} {st : Stmt} {f : Addr} {fd : FuncData} {c : Addr} {N ps : List Str} {k : Nat} {sp : Sp} (F : FunC K x qual st f fd c) (S : FnScope N ps (defScope st)) (len : ∀ vs H Q E, sp vs H Q E → vs.length = ps.length)
    (hbody : ∀ (A : Around) (outer : List Env) (s : Shared) (H : Hp) (vs : List V) (Q : VK) (E : XK), Room k (A.deeper (envOfC qual (defScope st) s.heap.objs.size f (.ref c))) → sp vs H Q E →
      ∃ t, PSs (cxOf (L2.CX P w) P w K mg base N qual (defScope st) f (.ref c) A outer s H E) (defBody st) t ∧ t { nx := fun _ H' => Q .non H', rt := Q } (start N vs) H) : FnOk P w K mg base (L2.CX P w) (k + 1) f fd ps sp := by
  obtain ⟨oc, od, kV, doc, pm, an, ct, osl, rfl, lk, hcd⟩ := F.ex
  exact fn_of lk hcd S len fun A outer s H vs Q E hr hsp => hbody A outer s H vs Q E hr hsp
section
variable {P : Program} {w : World} {K : PySem.W.Frag} {mg : Str → Option Value} {base : Heap} {T : List (Addr × Str)}
theorem ok_check_values {f PV cBR : Addr} {fd : FuncData} (F : L2.Fun K "_check_values" "_check_values" s_check_values f fd) (B : Blt mg) (cM : ∃ t, mg "MOST_VALUES" = some (.int 300 t)) (eB : ErrC K mg "BadRow" cBR)
    (cV : Cal P w K mg base CX0 "are_values" ["things"] 3 (spVals K T PV)) : FnOk P w K mg base (L2.CX P w) 4 f fd ["values"] (spCheckV K T PV cBR) := by
  refine F.okX sc_check_values (fun vs H Q E h => by obtain ⟨v, d, rfl, _⟩ := h; rfl) (fun cdv A outer s H vs Q E hr h => ?_)
  obtain ⟨v, d, rfl, hd, hG, kE, kQ⟩ := h
  refine ⟨_, pss_cons (ps_if (PW.pt (pw_or (pt_not (pt_val (pe_callB call_isi (by rfl) B.isi k_isi (pa_cons (pv 0) (pa_cons (pe_bltn (v := .ty "list") (by rfl) B.list boot_list rfl) pa_nil))))) (pw_or1 (pt_cmpR op_gt (pe_callB call_len_seq (by rfl) B.len PySem.boot_len (pa_cons (pv 0) pa_nil)) (pe_const cM) (nomark _)))))
      (pss_one (ps_raise rfl (takes_of rfl rfl rfl rfl) (pmk_err eB))) pss_nil)
    (pss_one (ps_if (pt_not (pt_val (pe_cal cV hr (pa_cons (pv 0) pa_nil))))
      (pss_one (ps_raise rfl (takes_of rfl rfl rfl rfl) (pmk_err eB))) pss_nil)), ?_⟩
  refine t_isi rfl hd kit_list ⟨_, rfl, ?_⟩
  have hd0 := hd
  cases hd with
  | lst hs ha =>
    rename_i b xs ds
    have hl := dpAll_len ha
    refine iteF ⟨_, rfl, _, xs, rfl, .inl hs, _, _, rfl, rfl, _, rfl, ?_⟩
    by_cases h3 : ds.length ≤ 300
    · rw [decide_eq_false (show ¬ (300 : Int) < (xs.length : Int) by omega)]
      refine iteF ⟨_, rfl, _, _, ds, rfl, hd0, .inl rfl, hG, fun H' x1 => ⟨_, rfl, ?_⟩⟩
      have e : valsOk (.list ds) = valsB ds := by simp [valsOk, valsB, h3]
      rw [e] at kE kQ
      cases q : valsB ds with
      | true => exact iteF (kQ q H' x1)
      | false => exact iteT (kE q H' x1)
    · rw [decide_eq_true (show (300 : Int) < (xs.length : Int) by omega)]
      exact iteT (kE (by simp [valsOk, h3]) H (XX.refl H))
  | tup _ _ => exact iteT (kE rfl H (XX.refl H))
  | int i => exact iteT (kE rfl H (XX.refl H))
  | bl b => exact iteT (kE rfl H (XX.refl H))
  | non => exact iteT (kE rfl H (XX.refl H))
  | str x => exact iteT (kE rfl H (XX.refl H))
end
end GX
/-! a dict of the program's own whose keys are tuples, be they tracked, frozen or given -/
namespace GX
open PySem PySem.Spec PyProof.Rows L2 LamX
def PhiT (P : Program) (w : World) (a : Addr) (xs : List (List Key × Addr × Value)) : Heap → Prop := fun h =>
  ∃ o es ep, h.get? a = some o ∧ o.ExactDict ∧ o.data = .dict es ep ∧ es.toList = xs.map (entryOfKey (tupleKind (mixKind P w)))
def TD (P : Program) (w : World) (K : PySem.W.Frag) (H : Hp) (a : Addr) (ks : List (List Key)) : Prop :=
  (a == sysModules) = false ∧ ks.length ≤ sizeLine ∧ ks.Nodup ∧ ∃ xs : List (List Key × Addr × Value), xs.map (·.1) = ks ∧ H a = some (.ext (PhiT P w a xs)) ∧ ∀ x ∈ xs, SqT K H x.2.1 (x.1.map kV)
def hasK (ks : List (List Key)) (k : List Key) : Bool := ks.any fun z => decide (z = k)
theorem hasK_mem {ks : List (List Key)} {k : List Key} : hasK ks k = true ↔ k ∈ ks := by
  unfold hasK
  rw [List.any_eq_true]
  exact ⟨fun ⟨z, h1, h2⟩ => by rw [← of_decide_eq_true h2]; exact h1, fun h => ⟨k, h, decide_eq_true rfl⟩⟩
theorem hasK_no {ks : List (List Key)} {k : List Key} : hasK ks k = false ↔ ¬ k ∈ ks := by
  rw [← hasK_mem]; simp
def putS (ks : List (List Key)) (k : List Key) : List (List Key) := if hasK ks k = true then ks else ks ++ [k]
theorem codeO_dict {P : Program} {w : World} {a c : Addr} {q : Str} {xs : List (List Key × Addr × Value)} (e : a = c) : CodeO c q ≠ .ext (PhiT P w a xs) := fun z => by
  subst e
  unfold CodeO at z
  injection z with z
  have sz : ∀ n : Nat, ∃ h : Heap, h.objs.size = n := by
    intro n
    induction n with
    | zero => exact ⟨{ objs := #[] }, rfl⟩
    | succ n ih =>
      obtain ⟨h, e⟩ := ih
      exact ⟨h.push { cls := .none, data := .fields #[] }, by rw [Heap.size_push, e]⟩
  obtain ⟨h, e⟩ := sz a
  have g : (h.push { cls := .none, data := .fields #[.none, .str q 0] }).get? a = some { cls := .none, data := .fields #[.none, .str q 0] } := by
    rw [← e]; exact Heap.get?_push_size _ rfl
  have y := congrFun z (h.push { cls := .none, data := .fields #[.none, .str q 0] })
  have y2 : PhiT P w a xs (h.push { cls := .none, data := .fields #[.none, .str q 0] }) := by
    rw [← y]
    exact ⟨_, _, 0, g, rfl, rfl⟩
  obtain ⟨o, es, ep, g2, _, d, _⟩ := y2
  rw [g] at g2
  cases g2
  cases d
section
variable {P : Program} {w : World} {K : PySem.W.Frag} {T : List (Addr × Str)} {H H1 H4 : Hp} {a D : Addr} {ks : List (List Key)}
theorem XX.ext (x : XX T H H1) {φ : Heap → Prop} (h : H a = some (.ext φ)) : H1 a = some (.ext φ) := x.keep _ _ h fun ps z => by cases z
theorem TD.xx (t : TD P w K H a ks) (x : XX T H H1) : TD P w K H1 a ks := by
  obtain ⟨h1, h2, h3, xs, e1, e2, e3⟩ := t
  exact ⟨h1, h2, h3, xs, e1, x.ext e2, fun z hz => x.sqT (e3 z hz)⟩
theorem XX.atE {xs xs' : List (List Key × Addr × Value)} (x : XX T H H4) (hD : H D = none) (h4 : H4 D = some (.ext (PhiT P w D xs))) : XX T H (upd H4 D (.ext (PhiT P w D xs'))) := by
  have nD : ∀ {b o}, H b = some o → b ≠ D := fun {b o} e z => by rw [z, hD] at e; cases e
  refine ⟨fun b o e n => ?_, fun b ps e => ?_, fun p h => ?_, fun h p hp => ?_⟩
  · rw [upd_ne (nD e)]; exact x.keep b o e n
  · rw [upd_ne (nD e)]; exact x.tbl b ps e
  · obtain ⟨ps, h1, h2⟩ := x.tabG p h
    exact ⟨ps, by rw [upd_ne (fun z => by rw [z, h4] at h1; cases h1)]; exact h1, h2⟩
  · obtain ⟨ps, h1, h2, h3⟩ := x.tabs h p hp
    refine ⟨ps, by rw [upd_ne (fun z => by rw [z, h4] at h1; cases h1)]; exact h1, h2, fun pos cv hc => ?_⟩
    obtain ⟨c, e1, e2⟩ := h3 pos cv hc
    exact ⟨c, e1, by rw [upd_ne (fun z => by rw [z, h4] at e2; exact codeO_dict rfl (Option.some.inj e2).symm)]; exact e2⟩
theorem upd_sqT {u : HO} (hD : ∃ φ, H D = some (.ext φ)) {b : Addr} {ys : List V} (h : SqT K H b ys) : SqT K (upd H D u) b ys := by
  obtain ⟨φ, e⟩ := hD
  rcases h with (h | ⟨o, h⟩) | h
  · exact .inl (.inl (by rw [upd_ne (fun z => by rw [z, e] at h; cases h)]; exact h))
  · exact .inl (.inr ⟨o, by rw [upd_ne (fun z => by rw [z, e] at h; cases h)]; exact h⟩)
  · exact .inr h
end
theorem atKey_mem {k : List Key} {xs : List (List Key × Addr × Value)} : (atKey xs k).isSome = hasK (xs.map (·.1)) k := by
  unfold atKey hasK
  rw [Option.isSome_map]
  induction xs with
  | nil => rfl
  | cons x xs ih =>
    rw [List.find?_cons, List.map_cons, List.any_cons]
    cases decide (x.1 = k) with
    | true => rfl
    | false => simpa using ih
theorem storedH_keys {k : List Key} {b : Addr} {v : Value} (xs : List (List Key × Addr × Value)) : (storedH xs k b v).map (·.1) = putS (xs.map (·.1)) k := by
  unfold storedH putS
  rw [atKey_mem]
  cases h : hasK (xs.map (·.1)) k with
  | true =>
    rw [if_pos rfl, if_pos rfl, List.map_map]
    refine List.map_congr_left fun x _ => ?_
    show (putAt k v x).1 = x.1
    unfold putAt
    split <;> rfl
  | false => rw [if_neg (by simp), if_neg (by simp), List.map_append]; rfl
theorem storedH_all {k : List Key} {b : Addr} {v : Value} {Pr : List Key → Addr → Prop} {xs : List (List Key × Addr × Value)} (h : ∀ x ∈ xs, Pr x.1 x.2.1) (hb : Pr k b) : ∀ x ∈ storedH xs k b v, Pr x.1 x.2.1 := by
  intro x hx
  unfold storedH at hx
  split at hx
  · obtain ⟨y, hy, e⟩ := List.mem_map.mp hx
    have : x.1 = y.1 ∧ x.2.1 = y.2.1 := by
      rw [← e]; unfold putAt; split <;> exact ⟨rfl, rfl⟩
    rw [this.1, this.2]; exact h y hy
  · rcases List.mem_append.mp hx with z | z
    · exact h x z
    · rw [List.mem_singleton.mp z]; exact hb
theorem putS_nodup {ks : List (List Key)} {k : List Key} (h : ks.Nodup) : (putS ks k).Nodup := by
  unfold putS
  split
  · exact h
  · rename_i n
    exact List.nodup_append.mpr ⟨h, by simp, fun x hx y hy z => n (hasK_mem.mpr (by rw [← List.mem_singleton.mp hy, ← z]; exact hx))⟩
theorem putS_len {ks : List (List Key)} {k : List Key} : (putS ks k).length ≤ ks.length + 1 := by
  unfold putS
  split
  · omega
  · simp
theorem putS_mem {ks : List (List Key)} {k j : List Key} : j ∈ putS ks k ↔ j = k ∨ j ∈ ks := by
  unfold putS
  split
  · rename_i h
    exact ⟨.inr, fun z => z.elim (fun e => e ▸ hasK_mem.mp h) id⟩
  · simp [or_comm]
section
variable {X : Cx} {pins : List (Addr × Obj)} {σ : L2.St} {H : Hp} {s : Shared} {a b : Addr}
theorem keyS {k : List Key} (I : Inv X pins σ H s) (h : SqT X.K H b (k.map kV)) : (tupleKind (mixKind X.prog X.w)).is s.heap k b := by
  obtain ⟨its, rv, ⟨o, ho, hc, n, hd⟩, _⟩ := I.tuple h
  exact ⟨o, its.toArray, n, ho, hc, hd, by simpa using items_are rv⟩
theorem TD.of {ks : List (List Key)} (I : Inv X pins σ H s) (t : TD X.prog X.w X.K H a ks) : ∃ xs : List (List Key × Addr × Value), xs.map (·.1) = ks ∧ H a = some (.ext (PhiT X.prog X.w a xs)) ∧ (∀ x ∈ xs, SqT X.K H x.2.1 (x.1.map kV)) ∧ s.heap.DictOfH (tupleKind (mixKind X.prog X.w)) a xs := by
  obtain ⟨h1, h2, h3, xs, e1, e2, e3⟩ := t
  obtain ⟨⟨o, es, ep, q1, q2, q3, q4⟩, _⟩ := (show ObjOk X.prog X.w H s.heap a (.ext (PhiT X.prog X.w a xs)) from I.hok a _ e2)
  exact ⟨xs, e1, e2, e3, o, es, ep, q1, q2, q3, q4, fun x hx => keyS I (e3 x hx), by rw [e1]; exact h3⟩
theorem phi_ok {P : Program} {w : World} {H : Hp} {h : Heap} {xs : List (List Key × Addr × Value)} (p : PhiT P w a xs h) : ObjOk P w H h a (.ext (PhiT P w a xs)) := by
  obtain ⟨o, es, ep, q1, q2⟩ := p
  exact ⟨⟨o, es, ep, q1, q2⟩, ⟨o, q1⟩, fun h1 h2 ⟨o, es, ep, z1, z2⟩ st => ⟨o, es, ep, st o z1, z2⟩⟩
def tTNew (P : Program) (w : World) : TE := fun _ H Q => ∀ p, H p = none → (p == sysModules) = false → Q (.ref p) (upd H p (.ext (PhiT P w p [])))
def tTNotIn (P : Program) (w : World) (K : PySem.W.Frag) (neg : Bool) (ty td : TE) : TE := fun σ H Q => ty σ H fun y H1 => td σ H1 fun x H2 => ∃ a b ks k, x = .ref a ∧ y = .ref b ∧ TD P w K H2 a ks ∧ SqT K H2 b (k.map kV) ∧ Q (.bl (neg != hasK ks k)) H2
def sTPut (P : Program) (w : World) (K : PySem.W.Frag) (td ty tv : TE) : TS := fun D σ H => tv σ H fun v H1 => td σ H1 fun x H2 => ty σ H2 fun y H3 => ∃ a b ks k, x = .ref a ∧ y = .ref b ∧ TD P w K H3 a ks ∧ SqT K H3 b (k.map kV) ∧ ks.length < sizeLine ∧
  ∀ xs, TD P w K (upd H3 a (.ext (PhiT P w a xs))) a (putS ks k) → D.nx σ (upd H3 a (.ext (PhiT P w a xs)))
theorem td_new {P : Program} {w : World} {K : PySem.W.Frag} {H : Hp} {p : Addr} (h : (p == sysModules) = false) : TD P w K (upd H p (.ext (PhiT P w p []))) p [] :=
  ⟨h, Nat.zero_le _, List.nodup_nil, [], rfl, upd_same, fun _ hx => nomatch hx⟩
end
section
variable {X : Cx} {o i e value : Expr} {pos pos' : Pos} {td ty tv : TE}
theorem pe_tnew : PE X (.Dict [] [] pos) (tTNew X.prog X.w) := ⟨fun pins s σ H Q I h =>
  wpAny_Dict_empty ⟨.ref s.heap.objs.size, _, I.laid (a := s.heap.objs.size) (o := .ext (PhiT X.prog X.w s.heap.objs.size [])) (t' := s.toks) (fun _ _ q => Heap.get?_push_of_some _ q) (Nat.le_refl _)
    (phi_ok ⟨_, #[], 0, Heap.get?_push_size _ rfl, ⟨rfl, rfl, rfl⟩, rfl, rfl⟩), rfl, h _ (I.hok.fresh (Nat.le_refl _)) (beq_eq_false_iff_ne.mpr (Ne.symm (Nat.ne_of_lt I.big)))⟩⟩
theorem pc_tin (hu : X.A.units + 1 < cLine) (hi : PE X i ty) (ho : PE X o td) : PC X .In i o (tTNotIn X.prog X.w X.K false ty td) := by
  refine ⟨fun pins s σ H Q I h => ?_⟩
  refine thn (hi.run pins s σ H _ I h) fun iv s1 ⟨y, H1, I1, ry, q1⟩ => thn (ho.run pins s1 σ H1 _ I1 q1) fun u s2 ⟨x, H2, I2, rx, a, b, ks, k, ex, ey, t, hk, q2⟩ => ?_
  subst ex ey
  obtain rfl : u = Value.ref a := rx
  obtain rfl : iv = Value.ref b := ry
  obtain ⟨xs, e1, e2, e3, dd⟩ := t.of I2
  refine wpAny_in_heap (tupleKind_room_in1 hu) (keyS I2 hk) t.1 dd ?_
  rw [atKey_mem, e1]
  exact ⟨.bl (hasK ks k), H2, I2.tok _, rfl, by simpa using q2⟩
theorem pc_tnotin (hu : X.A.units + 1 < cLine) (hi : PE X i ty) (ho : PE X o td) : PC X .NotIn i o (tTNotIn X.prog X.w X.K true ty td) := by
  refine ⟨fun pins s σ H Q I h => ?_⟩
  refine thn (hi.run pins s σ H _ I h) fun iv s1 ⟨y, H1, I1, ry, q1⟩ => thn (ho.run pins s1 σ H1 _ I1 q1) fun u s2 ⟨x, H2, I2, rx, a, b, ks, k, ex, ey, t, hk, q2⟩ => ?_
  subst ex ey
  obtain rfl : u = Value.ref a := rx
  obtain rfl : iv = Value.ref b := ry
  obtain ⟨xs, e1, e2, e3, dd⟩ := t.of I2
  refine wpAny_notIn_heap (tupleKind_room_in1 hu) (keyS I2 hk) t.1 dd ?_
  rw [atKey_mem, e1]
  exact ⟨.bl (!hasK ks k), H2, I2.tok _, rfl, by simpa using q2⟩
theorem ps_tput (hu : X.A.units + 1 < cLine) (ho : PE X o td) (hi : PE X i ty) (hv : PE X value tv) (hs : swapsWith value (some (.Subscript o i pos')) pos.line X.env = pure false) :
    PS X (.Assign [.Subscript o i pos'] value pos) (sTPut X.prog X.w X.K td ty tv) := by
  refine ⟨fun pins s σ H D I h => ?_⟩
  refine wpAny_Assign_Subscript (thn (hv.run pins s σ H _ I h) fun r s1 ⟨v, H1, I1, rv, q1⟩ => thn (ho.run pins s1 σ H1 _ I1 q1) fun u s2 ⟨x, H2, I2, rx, q2⟩ => thn (hi.run pins s2 σ H2 _ I2 q2) fun iv s3 ⟨y, H3, I3, ry, a, b, ks, k, ex, ey, t, hk, hl, q3⟩ => ?_) hs
  subst ex ey
  obtain rfl : u = Value.ref a := rx
  obtain rfl : iv = Value.ref b := ry
  obtain ⟨xs, e1, e2, e3, dd⟩ := t.of I3
  have hz : xs.length ≤ sizeLine := by have := t.2.1; rw [← e1, List.length_map] at this; exact this
  refine wpAny_setItem_heap (hsz := hz) (tupleKind_room_in1 hu) (keyS I3 hk) dd fun h' dd' hs => ?_
  obtain ⟨q, es, ep, hq, z2, z3, z4, _, z5⟩ := dd'
  have new : PhiT X.prog X.w a (storedH xs k b r) h' := ⟨q, es, ep, hq, z2, z3, z4⟩
  refine ⟨σ, _, I3.write (x := a) (e := a) (o := .ext (PhiT X.prog X.w a (storedH xs k b r))) (by rw [e2]; exact True.intro) (.inl rfl) (fun b q hb z => (hs.2 b hb).trans z) ⟨q, hq⟩ (phi_ok new), q3 _ ⟨t.1, ?_, putS_nodup t.2.2.1, _, ?_, upd_same, ?_⟩⟩
  · have := putS_len (ks := ks) (k := k); omega
  · rw [storedH_keys, e1]
  · exact storedH_all (Pr := fun k b => SqT X.K (upd H3 a _) b (k.map kV)) (fun x hx => upd_sqT ⟨_, e2⟩ (e3 x hx)) (upd_sqT ⟨_, e2⟩ hk)
end
end GX
/-! slotpages.judging: lost -/
namespace GX
open PySem PySem.Spec PyProof.Rows L2 LamX
def kP (p : Pl) : List Key := [.inl p.1, .inl p.2]
theorem kP_inj {p q : Pl} (h : kP p = kP q) : p = q := by
  unfold kP at h
  injection h with h1 h2
  injection h2 with h2 _
  injection h1 with h1
  injection h2 with h2
  exact Prod.ext (by omega) (by omega)
def reachedOf (sh : List Page) (C : Pl → List Pl) : List Pl := (rowPlaces sh).flatMap C
def lostG (sh : List Page) (C : Pl → List Pl) : Pl → Slot → Bool := fun p s => match s with | .held false _ _ _ _ => !decide (p ∈ reachedOf sh C) | _ => false
def lostOf (sh : List Page) (C : Pl → List Pl) : List Pl := placesOf (lostG sh C) sh
theorem length_flatMap_le {α β : Type} (f : α → List β) (n : Nat) : ∀ l : List α, (∀ a ∈ l, (f a).length ≤ n) → (l.flatMap f).length ≤ n * l.length
  | [], _ => by simp
  | a :: l, h => by
    have h1 := h a List.mem_cons_self
    have h2 := length_flatMap_le f n l fun b hb => h b (List.mem_cons_of_mem _ hb)
    rw [List.flatMap_cons, List.length_append, List.length_cons, Nat.mul_add]
    omega
theorem placesOf_len {g : Pl → Slot → Bool} {sh : List Page} (h : Pages sh) : (placesOf g sh).length ≤ 96 := by
  have := length_flatMap_le (fun i => ((List.range ((sh[i]?.map fun p => p.slots.length).getD 0)).filter fun j => ((slotAt sh (i, j)).map (g (i, j))).getD false).map fun j => (i, j)) 8 (List.range sh.length) fun i hi => by
    have hi' : i < sh.length := List.mem_range.mp hi
    rw [List.length_map]
    refine Nat.le_trans (List.length_filter_le _ _) ?_
    rw [List.length_range, List.getElem?_eq_getElem hi']
    exact Nat.le_of_eq (h.fit _ (List.getElem_mem hi')).1
  rw [List.length_range] at this
  have h12 := h.le
  unfold placesOf
  omega
def spLost (K : PySem.W.Frag) (T : List (Addr × Str)) : Sp := fun vs H Q _ => ∃ v sh C, vs = [v] ∧ Dp K H v (.list (shD sh)) ∧ Pages sh ∧ (∀ p ∈ rowPlaces sh, Chain sh (some p) (C p) ∧ (C p).length ≤ 200) ∧
  ∀ H' r xs, XX T H H' → H r = none → H' r = some (.lst xs) → DpAll K H' xs ((lostOf sh C).map plD) → Q (.ref r) H'
theorem tup_upd {K : PySem.W.Frag} {H : Hp} {D : Addr} {o u : HO} (hD : H D = some o) (n1 : ∀ ys, o ≠ .tup ys) (n2 : ∀ ob v, o ≠ .frz ob v) {b : Addr} {ys : List V} (h : SqT K H b ys) : SqT K (upd H D u) b ys := by
  rcases h with (h | ⟨ob, h⟩) | h
  · exact .inl (.inl (by rw [upd_ne (fun z => by rw [z, hD] at h; exact n1 _ (Option.some.inj h))]; exact h))
  · exact .inl (.inr ⟨ob, by rw [upd_ne (fun z => by rw [z, hD] at h; exact n2 _ _ (Option.some.inj h))]; exact h⟩)
  · exact .inr h
theorem pls_upd {K : PySem.W.Frag} {H : Hp} {D : Addr} {o u : HO} (hD : H D = some o) (n1 : ∀ ys, o ≠ .tup ys) (n2 : ∀ ob v, o ≠ .frz ob v) : ∀ {l : List Pl} {xs : List V}, DpAll K H xs (l.map plD) → DpAll K (upd H D u) xs (l.map plD)
  | [], _, h => by rw [dpAll0 h]; exact .nil
  | p :: l, _, h => by
    obtain ⟨v, r, rfl, h1, h2⟩ := dpAllC h
    obtain ⟨a, rfl, ha⟩ := dp_pl h1
    exact .cons (.tup (tup_upd hD n1 n2 ha) (.cons (.int _) (.cons (.int _) .nil))) (pls_upd hD n1 n2 h2)
theorem TD.updL {P : Program} {w : World} {K : PySem.W.Frag} {H : Hp} {a D : Addr} {ks : List (List Key)} {l : List V} {u : HO} (t : TD P w K H a ks) (h : H D = some (.lst l)) : TD P w K (upd H D u) a ks := by
  obtain ⟨h1, h2, h3, xs, e1, e2, e3⟩ := t
  exact ⟨h1, h2, h3, xs, e1, by rw [upd_ne (fun z => by rw [z, h] at e2; cases e2)]; exact e2, fun z hz => tup_upd h (fun _ q => by cases q) (fun _ _ q => by cases q) (e3 z hz)⟩
section
variable {P : Program} {w : World} {K : PySem.W.Frag} {mg : Str → Option Value} {base : Heap} {T : List (Addr × Str)}
abbrev loN : List Str := ["sheets", "reached", "own", "place", "number", "sheet", "at", "slot"]
theorem sc_lost : FnScope loN ["sheets"] (defScope s_lost) := ⟨rfl, rfl, rfl, by decide +kernel, rfl, by decide +kernel, by decide +kernel⟩
theorem ok_lost {f : Addr} {fd : FuncData} (F : L2.Fun K "lost" "lost" s_lost f fd) (B2 : Blt2 mg) (cR : Cal P w K mg base CX0 "row_places" ["sheets"] 1 (spRowPl K T)) (cP : Cal P w K mg base CX0 "places_from" ["sheets", "place"] 2 (spPlaces K T)) : FnOk P w K mg base CX0 3 f fd ["sheets"] (spLost K T) := by
  refine F.ok sc_lost (fun vs H Q E h => by obtain ⟨v, sh, C, rfl, _⟩ := h; rfl) (fun cdv A outer s H vs Q E hr h => ?_)
  obtain ⟨v, sh, C, rfl, hd, hp, hch, k⟩ := h
  have nd := sc_lost.nd
  refine ⟨_, pss_cons (ps_set (i := 1) nd rfl (.inr rfl) pe_tnew)
    (pss_cons (ps_for PassesOwn.never rfl (pi_list (pe_cal cR (hr.mono (by decide)) (pa_cons (pv 0) pa_nil))) (pg_name (i := 2) nd rfl (.inl rfl))
      (pss_one (ps_for PassesOwn.never rfl (pi_list (pe_cal cP hr (pa_cons (pv 0) (pa_cons (pv 2) pa_nil)))) (pg_name (i := 3) nd rfl (.inl rfl))
        (pss_one (ps_tput (hu_of hr) (pv 1) (pv 3) pe_bl rfl)))))
    (pss_one (ps_ret (pe_lc2 (own := [("number", 4), ("sheet", 5), ("at", 6), ("slot", 7)]) (vs1 := [6, 7]) (g := g2 K 4 5) (tt := tYes) (wi1 := iEnumT K (tCons (rIx K (tVar 5) 0) tNil)) (g1 := g2 K 6 7)
      (tt1 := tAnd (tIsW K 7 "part") (tB (tTNotIn P w K true (tTup (tCons (tVar 4) (tCons (tVar 6) tNil))) (tVar 1)))) (te := tTup (tCons (tVar 4) (tCons (tVar 6) tNil)))
      (by rfl) nd (pi_enum (by rfl) B2.enum (pa_cons (pv 0) pa_nil)) (blkOk_by (own := [("number", 4), ("sheet", 5), ("at", 6), ("slot", 7)]) (N := loN) (sc := defScope s_lost) (by decide +kernel)) (by decide)
      (fun _ _ _ _ _ => pg_tup (by rfl) (pgs_cons (pg_name (i := 4) nd rfl (.inl rfl)) (pgs_cons (pg_name (i := 5) nd rfl (.inl rfl)) pgs_nil))) (fun _ _ _ _ _ => pts_nil)
      (fun _ _ _ _ _ => pi_enumT (by rfl) B2.enum (pa_cons (pe_ix ix_tup (pv 5) pe_int (fun _ _ => rfl)) pa_nil))
      (fun _ _ _ _ _ => pg_tup (by rfl) (pgs_cons (pg_name (i := 6) nd rfl (.inl rfl)) (pgs_cons (pg_name (i := 7) nd rfl (.inl rfl)) pgs_nil)))
      (fun _ _ _ _ _ => pts_one (PW.pt (pw_and (pt_cmpR op_eq (pe_ix ix_tup (pv 7) pe_int (fun _ _ => rfl)) pe_str (nomark _)) (pw_and1 (pt_cmp (pc_tnotin (hu_of hr) (pe_tup (pa_cons (pv 4) (pa_cons (pv 6) pa_nil))) (pv 1)))))))
      (fun _ _ _ _ _ => pe_tup (pa_cons (pv 4) (pa_cons (pv 6) pa_nil))))))), ?_⟩
  refine fun R hR hns => ?_
  have t0 := td_new (P := P) (w := w) (K := K) (H := H) hns
  have x0 := XX.new (T := T) (o := .ext (PhiT P w R [])) hR
  refine ⟨_, rfl, v, sh, rfl, Dp.xx x0 _ _ hd, hp, fun H1 r xs x1 nr er dx => ?_⟩
  have x01 := x0.trans x1
  have lx : xs.length = (rowPlaces sh).length := by rw [dpAll_len dx, List.length_map]
  have l96 : (rowPlaces sh).length ≤ 96 := placesOf_len hp
  have nrR : r ≠ R := fun z => by rw [z, upd_same] at nr; cases nr
  refine ⟨r, rfl, ⟨xs, SqL.of er⟩, for_list (xs := xs) (fun i σ' H' => ∃ u2 u3 ks, σ' = [some v, some (.ref R), u2, u3, none, none, none, none] ∧ XX T H H' ∧ H' r = some (.lst xs) ∧ DpAll K H' xs ((rowPlaces sh).map plD) ∧ TD P w K H' R ks ∧
      (∀ k, k ∈ ks ↔ ∃ p ∈ ((rowPlaces sh).take i).flatMap C, k = kP p) ∧ ks.length ≤ 200 * i)
    ⟨_, _, [], rfl, x01, er, dx, t0.xx x1, by simp, Nat.zero_le _⟩ (fun i σ' H' _ ⟨_, _, _, _, _, e, _⟩ => SqL.of e) ?_ ?_⟩
  · rintro i u σ' H' hi ⟨u2, u3, ks, rfl, y1, y2, y3, y4, y5, y6⟩
    have hil : i < (rowPlaces sh).length := by rw [← lx]; exact (List.getElem?_eq_some_iff.mp hi).1
    obtain ⟨d, ed, dd⟩ := dpAll_get y3 hi
    rw [List.getElem?_map, List.getElem?_eq_getElem hil] at ed
    cases ed
    obtain ⟨hc, hcl⟩ := hch _ (List.getElem_mem hil)
    have stp : ((rowPlaces sh).take (i + 1)).flatMap C = ((rowPlaces sh).take i).flatMap C ++ C ((rowPlaces sh)[i]) := flatMap_take _ _ _ _ (List.getElem?_eq_getElem hil)
    refine ⟨_, rfl, _, rfl, v, u, sh, some ((rowPlaces sh)[i]), C ((rowPlaces sh)[i]), rfl, Dp.xx y1 _ _ hd, dd, hc, hcl, fun H2 r2 zs z1 nr2 er2 dz => ?_⟩
    have lz : zs.length = (C ((rowPlaces sh)[i])).length := by rw [dpAll_len dz, List.length_map]
    obtain ⟨_, _, _, q0, _, eR0, _⟩ := id y4
    have nr2R : r2 ≠ R := fun z => by rw [z, eR0] at nr2; cases nr2
    refine ⟨r2, rfl, ⟨zs, SqL.of er2⟩, for_list (xs := zs) (fun j σ' H' => ∃ u3 ks, σ' = [some v, some (.ref R), some u, u3, none, none, none, none] ∧ XX T H H' ∧ H' r = some (.lst xs) ∧ DpAll K H' xs ((rowPlaces sh).map plD) ∧ H' r2 = some (.lst zs) ∧ DpAll K H' zs ((C ((rowPlaces sh)[i])).map plD) ∧ TD P w K H' R ks ∧
        (∀ k, k ∈ ks ↔ ∃ p ∈ ((rowPlaces sh).take i).flatMap C ++ (C ((rowPlaces sh)[i])).take j, k = kP p) ∧ ks.length ≤ 200 * i + j)
      ⟨_, ks, rfl, y1.trans z1, z1.lst y2, Dp.xxAll z1 _ _ y3, er2, dz, y4.xx z1, by simpa using y5, by omega⟩ (fun j σ' H' _ ⟨_, _, _, _, _, _, e, _⟩ => SqL.of e) ?_ ?_⟩
    · rintro j q σ' H' hj ⟨u3, ks, rfl, w1, w2, w3, w4, w5, w6, w7, w8⟩
      have hjl : j < (C ((rowPlaces sh)[i])).length := by rw [← lz]; exact (List.getElem?_eq_some_iff.mp hj).1
      obtain ⟨d, ed, dd2⟩ := dpAll_get w5 hj
      rw [List.getElem?_map, List.getElem?_eq_getElem hjl] at ed
      cases ed
      obtain ⟨c, rfl, hcc⟩ := dp_pl dd2
      obtain ⟨_, _, _, q1, _, eR, _⟩ := id w6
      refine ⟨_, rfl, _, rfl, R, c, ks, kP ((C ((rowPlaces sh)[i]))[j]), rfl, rfl, w6, hcc, Nat.lt_of_lt_of_le (show ks.length < 100000 by omega) (by decide), fun xs' t' => ?_⟩
      have lp := putS_len (ks := ks) (k := kP ((C ((rowPlaces sh)[i]))[j]))
      refine ⟨_, _, rfl, w1.atE hR eR, by rw [upd_ne nrR]; exact w2, pls_upd eR (fun _ q => by cases q) (fun _ _ q => by cases q) w3, by rw [upd_ne nr2R]; exact w4, pls_upd eR (fun _ q => by cases q) (fun _ _ q => by cases q) w5, t', fun k => ?_, by omega⟩
      rw [putS_mem, w7, List.take_succ, List.getElem?_eq_getElem hjl]
      constructor
      · rintro (e | ⟨p, hp, e⟩)
        · exact ⟨(C ((rowPlaces sh)[i]))[j], List.mem_append_right _ (List.mem_append_right _ (by simp)), e⟩
        · exact ⟨p, by rw [← List.append_assoc]; exact List.mem_append_left _ hp, e⟩
      · rintro ⟨p, hp, e⟩
        rw [← List.append_assoc] at hp
        rcases List.mem_append.mp hp with z | z
        · exact .inr ⟨p, z, e⟩
        · simp at z
          exact .inl (by rw [e, z])
    · rintro σ' H' ⟨u3, ks, rfl, w1, w2, w3, w4, w5, w6, w7, w8⟩
      refine ⟨_, _, ks, rfl, w1, w2, w3, w6, fun k => ?_, by omega⟩
      rw [w7, stp, lz, List.take_length]
  · rintro σ' H' ⟨u2, u3, ks, rfl, y1, y2, y3, y4, y5, y6⟩
    rw [lx, List.take_length] at y5
    obtain ⟨a, xs2, rfl, hs, ha, hl⟩ := dp_sh hd
    have hlen := hp.le
    refine ⟨_, rfl, a, xs2, rfl, y1.sqL hs, fun D hD => ?_⟩
    obtain ⟨_, _, _, q0, _, eR0, _⟩ := id y4
    have hRD : R ≠ D := ne_of_none eR0 hD
    have inks : ∀ p, hasK ks (kP p) = decide (p ∈ reachedOf sh C) := fun p => by
      have h1 : hasK ks (kP p) = true ↔ p ∈ reachedOf sh C := by
        rw [hasK_mem, y5]
        exact ⟨fun ⟨q, hq, e⟩ => by rw [kP_inj e]; exact hq, fun h => ⟨p, h, rfl⟩⟩
      by_cases z : p ∈ reachedOf sh C
      · rw [decide_eq_true z, h1.mpr z]
      · rw [decide_eq_false z]
        cases q : hasK ks (kP p) with
        | true => exact absurd (h1.mp q) z
        | false => rfl
    let rowsAt : Nat → List Pl := fun i => ((List.range ((sh[i]?.map fun p => p.slots.length).getD 0)).filter fun j => ((slotAt sh (i, j)).map (lostG sh C (i, j))).getD false).map fun j => (i, j)
    have tdn : TD P w K (upd H' D (.lst [])) R ks := y4.xx (XX.new (T := T) hD)
    refine walk_run walk_enum (fun i H' => XX T H H' ∧ TD P w K H' R ks ∧ ∃ ys, H' D = some (.lst ys) ∧ DpAll K H' ys ((((List.range sh.length).take i).flatMap rowsAt).map plD) ∧ ys.length ≤ 8 * i) ⟨y1.then_new hD, tdn, [], upd_same, .nil, Nat.le_refl _⟩ (fun i H' _ pv => pv.1.sqL hs) (fun i v H' H'' hi pv y => ?_) fun H' pv => ?_
    · obtain ⟨t, u0, u, rfl, ht, rfl, e0, eu⟩ := y
      obtain ⟨x1, td1, ys, e1, d1, l1⟩ := pv
      cases e0
      have eu : xs2[i]? = some u := eu
      have hi' : i < sh.length := by omega
      have e2 : sh[i]? = some (sh[i]) := List.getElem?_eq_getElem hi'
      have fit := hp.fit _ (List.getElem_mem hi')
      obtain ⟨u2, eu2, du⟩ := sh_at ha e2
      rw [eu] at eu2
      cases eu2
      have xt := XX.new (T := T) (o := .tup [.int (i : Nat), u]) ht
      have x2 := x1.trans xt
      obtain ⟨b, x, y, rfl, hb, hx, _⟩ := dp_page du
      obtain ⟨d, zs, rfl, hz, hza, hzl⟩ := dp_slots hx
      refine ⟨t, _, rfl, SqT.of upd_same, rfl, _, _, rfl, _, _, rfl, rfl, rfl, ?_⟩
      refine ⟨_, rfl, b, _, 0, _, rfl, rfl, x2.sqT hb, atI0, d, zs, rfl, x2.sqT hz, ?_⟩
      have stp := flatMap_take rowsAt (List.range sh.length) i i (List.getElem?_range hi')
      have hrl : rowsAt i = ((List.range 8).filter fun j => ((slotAt sh (i, j)).map (lostG sh C (i, j))).getD false).map fun j => (i, j) := by
        show ((List.range ((sh[i]?.map fun p => p.slots.length).getD 0)).filter _).map _ = _
        rw [e2]
        show ((List.range (sh[i]).slots.length).filter _).map _ = _
        rw [fit.1]
      refine walk_run walk_enumT (fun j H3 => XX T H H3 ∧ TD P w K H3 R ks ∧ ∃ ys, H3 D = some (.lst ys) ∧ DpAll K H3 ys ((((List.range sh.length).take i).flatMap rowsAt ++ (((List.range 8).take j).filter fun j => ((slotAt sh (i, j)).map (lostG sh C (i, j))).getD false).map fun j => (i, j)).map plD) ∧ ys.length ≤ 8 * i + j)
        ⟨x2, td1.xx xt, ys, xt.lst e1, by simpa using Dp.xxAll xt _ _ d1, l1⟩ (fun j H3 _ pv => pv.1.sqT hz) (fun j v H3 H4 hj pv y => ?_) fun H3 pv => ?_
      · obtain ⟨t2, w0, w1, rfl, ht2, rfl, f0, fu⟩ := y
        obtain ⟨x3, td3, ys3, e3, d3, l3⟩ := pv
        cases f0
        have fu : zs[j]? = some w1 := fu
        have hj8 : j < 8 := by have := fit.1; omega
        have es : (sh[i]).slots[j]? = some ((sh[i]).slots[j]'(by have := fit.1; omega)) := List.getElem?_eq_getElem _
        have esl : slotAt sh (i, j) = some ((sh[i]).slots[j]'(by have := fit.1; omega)) := by unfold slotAt; rw [e2]; exact es
        obtain ⟨w2, ew2, dw⟩ := slot_at (Dp.xxAll x3 _ _ hza) es
        rw [fu] at ew2
        cases ew2
        have xt2 := XX.new (T := T) (o := .tup [.int (j : Nat), w1]) ht2
        have x4 := x3.trans xt2
        have e3t := xt2.lst e3
        have dw2 := Dp.xx xt2 _ _ dw
        have stj := range_take 8 j hj8
        have td4 := td3.xx xt2
        refine ⟨t2, _, rfl, SqT.of upd_same, rfl, _, _, rfl, _, _, rfl, rfl, rfl, ?_⟩
        -- not kept
        have no : ∀ (H9 : Hp), XX T (upd H3 t2 (.tup [.int (j : Nat), w1])) H9 → lostG sh C (i, j) ((sh[i]).slots[j]'(by have := fit.1; omega)) = false → XX T H H9 ∧ TD P w K H9 R ks ∧ ∃ ys, H9 D = some (.lst ys) ∧
            DpAll K H9 ys ((((List.range sh.length).take i).flatMap rowsAt ++ (((List.range 8).take (j + 1)).filter fun j => ((slotAt sh (i, j)).map (lostG sh C (i, j))).getD false).map fun j => (i, j)).map plD) ∧ ys.length ≤ 8 * i + (j + 1) := by
          intro H9 x9 q
          refine ⟨x4.trans x9, td4.xx x9, ys3, x9.lst e3t, ?_, by omega⟩
          rw [stj, List.filter_append]
          have : ([j].filter fun j => ((slotAt sh (i, j)).map (lostG sh C (i, j))).getD false) = [] := by
            rw [List.filter_cons, esl]
            show (if lostG sh C (i, j) _ = true then _ else _) = _
            rw [q]; rfl
          rw [this, List.append_nil]
          exact Dp.xxAll x9 _ _ (Dp.xxAll xt2 _ _ d3)
        cases z : (sh[i]).slots[j]'(by have := fit.1; omega) with
        | free t =>
          rw [z] at dw2 no
          obtain ⟨cw, rfl, hcw⟩ := dp_free dw2
          exact ⟨_, rfl, cw, _, 0, _, rfl, rfl, hcw, atI0, rfl, _, rfl, iteF (iteF (no _ (XX.refl _) rfl))⟩
        | held o tt bb nn q =>
          rw [z] at dw2 esl no
          obtain ⟨cw, x0, rfl, hcw, _⟩ := dp_held dw2
          refine ⟨_, rfl, cw, _, 0, _, rfl, rfl, hcw, atI0, rfl, _, rfl, ?_⟩
          cases o with
          | true => exact iteF (iteF (no _ (XX.refl _) rfl))
          | false =>
            refine iteT ⟨_, rfl, _, rfl, (by show 2 ≤ sizeLine; decide), fun t5 h5 => ?_⟩
            have x5 := XX.new (T := T) (o := .tup [.int (i : Nat), .int (j : Nat)]) h5
            have td5 := td4.xx x5
            refine ⟨_, rfl, R, t5, ks, kP (i, j), rfl, rfl, td5, SqT.of upd_same, _, rfl, ?_⟩
            rw [inks]
            by_cases hin : (i, j) ∈ reachedOf sh C
            · rw [decide_eq_true hin]
              exact iteF (no _ x5 (by show (!decide _) = false; rw [decide_eq_true hin]; rfl))
            · rw [decide_eq_false hin]
              refine iteT ⟨_, rfl, _, rfl, (by show 2 ≤ sizeLine; decide), fun t6 h6 => ?_⟩
              have x6 := XX.new (T := T) (o := .tup [.int (i : Nat), .int (j : Nat)]) h6
              have x56 := x5.trans x6
              have e5 := x56.lst e3t
              have m := XM.upd (T := T) (S := fun b => b = D) (o' := .lst (ys3 ++ [.ref t6])) e5 rfl True.intro
              refine ⟨ys3, e5, ?_, ?_, (td5.xx x6).updL e5, ys3 ++ [.ref t6], upd_same, ?_, by simp; omega⟩
              · exact Nat.lt_of_le_of_lt (show ys3.length ≤ 1000 by omega) (by decide)
              · exact (x4.trans x56).atD (y1.free hD) e5
              · rw [stj, List.filter_append]
                have : ([j].filter fun j => ((slotAt sh (i, j)).map (lostG sh C (i, j))).getD false) = [j] := by
                  have hg : lostG sh C (i, j) (.held false tt bb nn q) = true := by
                    show (!decide _) = true
                    rw [decide_eq_false hin]; rfl
                  rw [List.filter_cons, esl, Option.map_some, Option.getD_some, hg]; rfl
                rw [this, List.map_append (f := fun j => (i, j)), ← List.append_assoc]
                rw [List.map_append (f := plD)]
                exact dpAll_app (dpAll_xm m (pl_flat _) (Dp.xxAll x56 _ _ (Dp.xxAll xt2 _ _ d3))) (.cons (.tup (m.sqT (SqT.of upd_same)) (.cons (.int _) (.cons (.int _) .nil))) .nil)
      · obtain ⟨x3, td3, ys3, e3, d3, l3⟩ := pv
        refine ⟨x3, td3, ys3, e3, ?_, by have := fit.1; omega⟩
        rw [stp, hrl]
        rw [hzl, fit.1, show (List.range 8).take 8 = List.range 8 from rfl] at d3
        exact d3
    · obtain ⟨x1, td1, ys, e1, d1, l1⟩ := pv
      rw [List.take_of_length_le (by rw [List.length_range]; omega)] at d1
      exact k H' D ys x1 (y1.free hD) e1 d1
end
end GX
/-! list(zip(xs, ys)) of two lists -/
namespace ZL
open PySem PySem.W PySem.Calls PyProof.Rows PyProof.V PySem.Spec
theorem nolen_zip : typeLookup (.type "zip") "__len__" = pure none := by rw [typeLookup_type, builtinLookup_eq_fast]; kernel_rfl
theorem nohint_zip : typeLookup (.type "zip") "__length_hint__" = pure none := by rw [typeLookup_type, builtinLookup_eq_fast]; kernel_rfl
structure ZG (xs ys : Array Value) (lo : Addr) (h : Heap) (as : List Addr) : Prop where
  rise : as.Pairwise (· < ·)
  above : ∀ a ∈ as, lo < a
  pairs : ∀ (j : Nat) (a : Addr), as[j]? = some a → ∃ x y, xs[j]? = some x ∧ ys[j]? = some y ∧ IsPair h a x y
theorem ZG.there {xs ys : Array Value} {lo : Addr} {h : Heap} {as : List Addr} (g : ZG xs ys lo h as) {a : Addr} (ha : a ∈ as) : a < h.objs.size := by
  obtain ⟨j, hj⟩ := List.mem_iff_getElem?.mp ha
  obtain ⟨_, _, _, _, e⟩ := g.pairs j a hj
  exact Heap.lt_size e
def ZSt (z TI TO i1 i2 l1 l2 S : Addr) (xs ys : Array Value) (i : Nat) (h : Heap) : Prop :=
  IsPair h TI (.ref i1) (.ref i2) ∧ h.IsListIter i1 l1 i ∧ h.IsListIter i2 l2 i ∧ h.IsList l1 xs ∧ h.IsList l2 ys ∧
    ((IsZip h z TI TO .none ∧ ∃ a b, IsPair h TO a b) ∨ ∃ T f oT, IsZipHeld h z TI TO T f ∧ h.get? T = some oT ∧ T ≠ z ∧ T ≠ i1 ∧ T ≠ i2 ∧ T ≠ S)
section
variable {prog : Program} {w : World} {A : Around} {E : Value → Shared → Prop} {s : Shared} {z TI TO i1 i2 l1 l2 S : Addr} {xs ys : Array Value}
theorem ZSt.keep {i : Nat} {h h' : Heap} (st : ZSt z TI TO i1 i2 l1 l2 S xs ys i h) (n : S ≠ z ∧ S ≠ TI ∧ S ≠ TO ∧ S ≠ i1 ∧ S ≠ i2 ∧ S ≠ l1 ∧ S ≠ l2) (hk : ∀ b o, b ≠ S → h.get? b = some o → h'.get? b = some o) : ZSt z TI TO i1 i2 l1 l2 S xs ys i h' := by
  obtain ⟨dz, dTI, dTO, di1, di2, dl1, dl2⟩ := n
  obtain ⟨hTI, h1, h2, hl1, hl2, hz⟩ := st
  refine ⟨hk _ _ (Ne.symm dTI) hTI, h1.at fun o e => hk _ o (Ne.symm di1) e, h2.at fun o e => hk _ o (Ne.symm di2) e, hl1.at fun o e => hk _ o (Ne.symm dl1) e, hl2.at fun o e => hk _ o (Ne.symm dl2) e, ?_⟩
  rcases hz with ⟨hz, a, b, hTO⟩ | ⟨T, f, oT, hz, hT, r1, r2, r3, r4⟩
  · exact .inl ⟨hk _ _ (Ne.symm dz) hz, a, b, hk _ _ (Ne.symm dTO) hTO⟩
  · exact .inr ⟨T, f, oT, hk _ _ (Ne.symm dz) hz, hk _ _ r4 hT, r1, r2, r3, r4⟩
theorem zl_item {i : Nat} {Q : Option Value → Shared → Prop} (D : ZipApart z TI TO i1 i2 l1 l2) (st : ZSt z TI TO i1 i2 l1 l2 S xs ys i s.heap) (hS : S < s.heap.objs.size) (hi : i < min xs.size ys.size)
    (hQ : ∀ h' x y, ZSt z TI TO i1 i2 l1 l2 S xs ys (i + 1) h' → xs[i]? = some x → ys[i]? = some y → IsPair h' s.heap.objs.size x y → h'.objs.size = s.heap.objs.size + 1 →
      (∀ b o, b ∉ [z, TO, i1, i2] → s.heap.get? b = some o → h'.get? b = some o) → Q (some (.ref s.heap.objs.size)) { s with heap := h' }) :
    wpAny (model prog w) A (pyNext (.ref z)) Q E s := by
  obtain ⟨hTI, h1, h2, hl1, hl2, hz⟩ := st
  have hix : i < xs.size := Nat.lt_of_lt_of_le hi (Nat.min_le_left ..)
  have hiy : i < ys.size := Nat.lt_of_lt_of_le hi (Nat.min_le_right ..)
  have ex := Array.getElem?_eq_getElem hix
  have ey := Array.getElem?_eq_getElem hiy
  have lt : ∀ {c o}, s.heap.get? c = some o → s.heap.objs.size ≠ c := fun e => Nat.ne_of_gt (Heap.lt_size e)
  have n1 : s.heap.objs.size ≠ i1 := let ⟨_, e, _⟩ := h1; lt e
  have n2 : s.heap.objs.size ≠ i2 := let ⟨_, e, _⟩ := h2; lt e
  rcases hz with ⟨hz, a, b, hTO⟩ | ⟨T, f, oT, hz, hT, r1, r2, r3, r4⟩
  · refine wpAny_pyNext_zip_item D hz hTI hTO h1 h2 hl1 hl2 ex ey fun h' a1 a2 a3 a4 a5 a6 hk => ?_
    exact hQ h' _ _
      ⟨hk _ _ D.TIz D.TITO D.TIi1 D.TIi2 hTI, a3, a4, hl1.at fun o e => hk _ o D.l1z D.l1TO D.l1i1 D.l1i2 e, hl2.at fun o e => hk _ o D.l2z D.l2TO D.l2i1 D.l2i2 e,
        .inr ⟨s.heap.objs.size, false, _, a1, a5, lt hz, n1, n2, Nat.ne_of_gt hS⟩⟩ ex ey a5 a6
      fun c o hc e => hk c o (fun x => hc (by simp [x])) (fun x => hc (by simp [x])) (fun x => hc (by simp [x])) (fun x => hc (by simp [x])) e
  · refine wpAny_pyNext_zip_item_held D hz hT hTI h1 h2 hl1 hl2 ex ey fun h' a1 a3 a4 a5 a6 hk => ?_
    exact hQ h' _ _
      ⟨hk _ _ D.TIz D.TIi1 D.TIi2 hTI, a3, a4, hl1.at fun o e => hk _ o D.l1z D.l1i1 D.l1i2 e, hl2.at fun o e => hk _ o D.l2z D.l2i1 D.l2i2 e,
        .inr ⟨T, true, oT, a1, hk _ _ r1 r2 r3 hT, r1, r2, r3, r4⟩⟩ ex ey a5 a6
      fun c o hc e => hk c o (fun x => hc (by simp [x])) (fun x => hc (by simp [x])) (fun x => hc (by simp [x])) e
theorem zl_done {i : Nat} {Q : Option Value → Shared → Prop} (hA : A.handled = none) (D : ZipApart z TI TO i1 i2 l1 l2) (st : ZSt z TI TO i1 i2 l1 l2 S xs ys i s.heap) (hi : min xs.size ys.size ≤ i)
    (hQ : ∀ h', (∀ b o, b ∉ [z, TO, i1, i2] → s.heap.get? b = some o → h'.get? b = some o) → Q none { s with heap := h' }) :
    wpAny (model prog w) A (pyNext (.ref z)) Q E s := by
  obtain ⟨hTI, h1, h2, hl1, hl2, hz⟩ := st
  have hend : xs[i]? = none ∨ ys[i]? = none := by
    rcases Nat.le_total xs.size ys.size with h | h
    · exact .inl (Array.getElem?_eq_none (by rw [Nat.min_eq_left h] at hi; exact hi))
    · exact .inr (Array.getElem?_eq_none (by rw [Nat.min_eq_right h] at hi; exact hi))
  rcases hz with ⟨hz, a, b, hTO⟩ | ⟨T, f, oT, hz, hT, r1, r2, r3, r4⟩
  · exact wpAny_pyNext_zip_end hA D hz hTI hTO h1 h2 hl1 hl2 hend fun h' hk => hQ h' fun c o hc e => hk c o (fun x => hc (by simp [x])) (fun x => hc (by simp [x])) (fun x => hc (by simp [x])) (fun x => hc (by simp [x])) e
  · exact wpAny_pyNext_zip_end_held hA D hz hT hTI h1 h2 hl1 hl2 hend fun h' hk => hQ h' fun c o hc e => hk c o (fun x => hc (by simp [x])) (fun x => hc (by simp [x])) (fun x => hc (by simp [x])) e
theorem zl_loop {R : Result → Shared → Prop} (hh : A.handled = none) (D : ZipApart z TI TO i1 i2 l1 l2) (n : z < S ∧ TI < S ∧ TO < S ∧ i1 < S ∧ i2 < S ∧ l1 < S ∧ l2 < S) (hn : min xs.size ys.size ≤ sizeLine) (res : Value) {h₁ : Heap}
    (hR : ∀ h' tk acc c as, (∀ b o, b ≠ S → b ∉ [z, TO, i1, i2] → h₁.get? b = some o → h'.get? b = some o) → h'.get? S = some { cls := .type "list", dict := none, data := .seq acc c, slots := #[] } → as.length = min xs.size ys.size → ZG xs ys S h' as →
      acc.toList = as.map Value.ref → R (.ok (.ret res)) { s with heap := h', toks := tk }) :
    ∀ (k i : Nat) (h : Heap) (tk c : Nat) (acc : Array Value) (as : List Addr), min xs.size ys.size - i = k → i ≤ min xs.size ys.size → ZSt z TI TO i1 i2 l1 l2 S xs ys i h → (∀ b o, b ≠ S → b ∉ [z, TO, i1, i2] → h₁.get? b = some o → h.get? b = some o) →
      h.get? S = some { cls := .type "list", dict := none, data := .seq acc c, slots := #[] } → acc.toList = as.map Value.ref → as.length = i → ZG xs ys S h as →
      codeAny (model prog w) A (.builtin "list.extend.loop" ⟨[.ref S, .ref z, res], []⟩) R { s with heap := h, toks := tk } := by
  obtain ⟨nz, nTI, nTO, n1, n2, nl1, nl2⟩ := n
  have nS : S ≠ z ∧ S ≠ TI ∧ S ≠ TO ∧ S ≠ i1 ∧ S ≠ i2 ∧ S ≠ l1 ∧ S ≠ l2 := ⟨Nat.ne_of_gt nz, Nat.ne_of_gt nTI, Nat.ne_of_gt nTO, Nat.ne_of_gt n1, Nat.ne_of_gt n2, Nat.ne_of_gt nl1, Nat.ne_of_gt nl2⟩
  have off : ∀ b, S ≤ b → b ∉ [z, TO, i1, i2] := fun b hb hm => by
    simp only [List.mem_cons, List.not_mem_nil, or_false] at hm
    have ne : ∀ y : Addr, y < S → b ≠ y := fun y hy => Nat.ne_of_gt (Nat.lt_of_lt_of_le hy hb)
    rcases hm with e | e | e | e
    · exact ne _ nz e
    · exact ne _ nTO e
    · exact ne _ n1 e
    · exact ne _ n2 e
  intro k
  induction k with
  | zero =>
    intro i h tk c acc as hk hi hst hkeep hS hacc hal hG
    refine codeAny_builtin PySem.F.entry_extend_loop ?_
    rw [Around.under_plainId PySem.F.plain_extend_loop _]
    show wpAny _ A.in1 (pyNext (.ref z) >>= _) _ _ _
    refine wpAny_bind (zl_done (s := { s with heap := h, toks := tk }) (A := A.in1) hh D hst (by omega) fun h' he => ?_)
    refine wpAny_pure (hR h' tk acc c as (fun b o h1 h2 e => he b o h2 (hkeep b o h1 h2 e)) (he S _ (off S (Nat.le_refl _)) hS) (by omega) ⟨hG.rise, hG.above, fun j a hj => ?_⟩ hacc)
    obtain ⟨x, y, ex, ey, e3⟩ := hG.pairs j a hj
    exact ⟨x, y, ex, ey, he a _ (off a (Nat.le_of_lt (hG.above a (List.mem_of_getElem? hj)))) e3⟩
  | succ k ih =>
    intro i h tk c acc as hk hi hst hkeep hS hacc hal hG
    have hlt : i < min xs.size ys.size := by omega
    have hsz : acc.size = i := by rw [← Array.length_toList, hacc, List.length_map, hal]
    refine codeAny_builtin PySem.F.entry_extend_loop ?_
    rw [Around.under_plainId PySem.F.plain_extend_loop _]
    show wpAny _ A.in1 (pyNext (.ref z) >>= _) _ _ _
    have hSl : S < h.objs.size := Heap.lt_size hS
    refine wpAny_bind (zl_item (s := { s with heap := h, toks := tk }) (S := S) D hst hSl hlt fun h' x y hst' ex ey ht hz hkp => ?_)
    dsimp only at ht hz hkp ⊢
    have hS' := hkp S _ (off S (Nat.le_refl _)) hS
    have up : ∀ b o, b ≠ S → h'.get? b = some o → (h'.update S (Obj.mapSeq (·.push (Value.ref h.objs.size)))).get? b = some o := fun b o hb e => (Heap.get?_update_other _ _ (Ne.symm hb)).trans e
    show wpAny _ A.in1 (updateSeq S (·.push (Value.ref h.objs.size)) >>= _) _ _ _
    refine wpAny_bind ?_
    refine wpAny_updateSeq hS' rfl (wpAny_pure ⟨plainId_quiet PySem.F.plain_extend_loop _, ih (i + 1) _ tk _ (acc.push (Value.ref h.objs.size)) (as ++ [h.objs.size]) (by omega) hlt (hst'.keep nS up)
      (fun b o h1 h2 e => up b o h1 (hkp b o h2 (hkeep b o h1 h2 e))) (Heap.get?_update_self _ hS' rfl) (by rw [Array.toList_push, hacc, List.map_append]; rfl) (by rw [List.length_append, hal]; rfl) ⟨?_, ?_, ?_⟩⟩) (by rw [hsz]; omega) (by show (acc.push (Value.ref h.objs.size)).size ≤ sizeLine + 1; rw [Array.size_push, hsz]; omega)
    · refine List.pairwise_append.mpr ⟨hG.rise, List.pairwise_singleton _ _, fun a ha b hb => ?_⟩
      rw [List.mem_singleton.mp hb]
      exact hG.there ha
    · intro a ha
      rcases List.mem_append.mp ha with ha | ha
      · exact hG.above a ha
      · rw [List.mem_singleton.mp ha]; exact hSl
    · intro j b hj
      rcases Nat.lt_trichotomy j as.length with h1 | h1 | h1
      · rw [List.getElem?_append_left h1] at hj
        obtain ⟨x', y', ex', ey', e3⟩ := hG.pairs j b hj
        have hb := hG.above b (List.mem_of_getElem? hj)
        exact ⟨x', y', ex', ey', up b _ (Nat.ne_of_gt hb) (hkp b _ (off b (Nat.le_of_lt hb)) e3)⟩
      · subst h1
        have hb : h.objs.size = b := by simpa using hj
        subst hb
        exact ⟨x, y, by rw [hal]; exact ex, by rw [hal]; exact ey, up _ _ (Nat.ne_of_gt hSl) ht⟩
      · have hnone : (as ++ [h.objs.size])[j]? = none := List.getElem?_eq_none (by rw [List.length_append, List.length_singleton]; omega)
        rw [hnone] at hj; cases hj
theorem zl_call {Q : Value → Shared → Prop} (hh : A.handled = none) (D : ZipApart z TI TO i1 i2 l1 l2) (hz : IsZip s.heap z TI TO .none) (hTI : IsPair s.heap TI (.ref i1) (.ref i2)) {a b : Value} (hTO : IsPair s.heap TO a b) (h1 : s.heap.IsListIter i1 l1 0) (h2 : s.heap.IsListIter i2 l2 0) (hl1 : s.heap.IsList l1 xs) (hl2 : s.heap.IsList l2 ys) (hn : min xs.size ys.size ≤ sizeLine)
    (hQ : ∀ h' tk acc c as, (∀ b o, b ∉ [z, TO, i1, i2] → s.heap.get? b = some o → h'.get? b = some o) → h'.get? s.heap.objs.size = some { cls := .type "list", dict := none, data := .seq acc c, slots := #[] } → as.length = min xs.size ys.size → ZG xs ys s.heap.objs.size h' as →
      acc.toList = as.map Value.ref → Q (.ref s.heap.objs.size) { s with heap := h', toks := tk }) :
    wpAny (model prog w) A (call (.type "list") [.ref z]) Q E s := by
  refine callType_codes (Q₁ := fun obj s₁ => obj = .ref s.heap.objs.size ∧ s₁ = { s with heap := s.heap.push { cls := .type "list", data := .seq #[] } }) PySem.F.called_list (PySem.F.typeCall_list_1 _) PySem.F.entry_list_init
    (code_list_new _ ⟨rfl, rfl⟩) fun obj s₁ h₁ => ?_
  obtain ⟨rfl, rfl⟩ := h₁
  have hS : (s.heap.push { cls := .type "list", data := .seq #[] }).get? s.heap.objs.size = some { cls := .type "list", data := .seq #[] } := Heap.get?_push_size _ rfl
  have lt : z < s.heap.objs.size ∧ TI < s.heap.objs.size ∧ TO < s.heap.objs.size ∧ i1 < s.heap.objs.size ∧ i2 < s.heap.objs.size ∧ l1 < s.heap.objs.size ∧ l2 < s.heap.objs.size :=
    ⟨Heap.lt_size hz, Heap.lt_size hTI, Heap.lt_size hTO, (let ⟨_, e, _⟩ := h1; Heap.lt_size e), (let ⟨_, e, _⟩ := h2; Heap.lt_size e), (let ⟨_, e, _⟩ := hl1; Heap.lt_size e), (let ⟨_, e, _⟩ := hl2; Heap.lt_size e)⟩
  have nS : s.heap.objs.size ≠ z ∧ s.heap.objs.size ≠ TI ∧ s.heap.objs.size ≠ TO ∧ s.heap.objs.size ≠ i1 ∧ s.heap.objs.size ≠ i2 ∧ s.heap.objs.size ≠ l1 ∧ s.heap.objs.size ≠ l2 :=
    ⟨Nat.ne_of_gt lt.1, Nat.ne_of_gt lt.2.1, Nat.ne_of_gt lt.2.2.1, Nat.ne_of_gt lt.2.2.2.1, Nat.ne_of_gt lt.2.2.2.2.1, Nat.ne_of_gt lt.2.2.2.2.2.1, Nat.ne_of_gt lt.2.2.2.2.2.2⟩
  have st0 : ZSt z TI TO i1 i2 l1 l2 s.heap.objs.size xs ys 0 s.heap := ⟨hTI, h1, h2, hl1, hl2, .inl ⟨hz, a, b, hTO⟩⟩
  refine ⟨⟨_, hS, rfl⟩, PySem.F.args_list_init_2 _ _, ?_⟩
  show wpAny _ A.in1.in1 (do let old ← Builtin.List.listItems (.ref s.heap.objs.size); Builtin.List.listUpdate (.ref s.heap.objs.size) (fun _ => #[]); letGo old.toList.reverse; Builtin.List.listExtendWith (.ref s.heap.objs.size) (.ref z) .none) _ _ _
  refine wpAny_bind ?_
  unfold Builtin.List.listItems
  refine wpAny_bind (wpAny_seqItems hS rfl (wpAny_pure ?_))
  show wpAny _ A.in1.in1 (updateSeq s.heap.objs.size (fun _ => #[]) >>= fun _ => letGo (#[] : Array Value).toList.reverse >>= fun _ => Builtin.List.listExtendWith (.ref s.heap.objs.size) (.ref z) .none) _ _ _
  refine wpAny_bind (wpAny_updateSeq hS rfl ?_)
  have hS2 := Heap.get?_update_self (Obj.mapSeq (fun _ => (#[] : Array Value))) hS rfl
  refine wpAny_bind (wpAny_letGo ?_)
  unfold Builtin.List.listExtendWith
  have up : ∀ (h : Heap) (f : Obj → Obj), (∀ b o, s.heap.get? b = some o → h.get? b = some o) → ∀ b o, s.heap.get? b = some o → (h.update s.heap.objs.size f).get? b = some o := fun h f q b o e =>
    (Heap.get?_update_other _ _ (Ne.symm (Nat.ne_of_lt (Heap.lt_size e)))).trans (q b o e)
  have k1 : ∀ b o, s.heap.get? b = some o → (s.heap.push { cls := .type "list", data := .seq #[] }).get? b = some o := fun b o e => Heap.get?_push_of_some _ e
  have k2 := up _ (Obj.mapSeq (fun _ => (#[] : Array Value))) k1
  have hzT : ∀ {h : Heap} {tk : Nat}, (∀ b o, s.heap.get? b = some o → h.get? b = some o) → Shared.TypeIs { s with heap := h, toks := tk } (.ref z) "zip" := fun q => ⟨_, q _ _ hz, rfl⟩
  refine wpAny_bind (wpAny_typeOf (hzT k2) ?_)
  have e1 : Builtin.List.listSameRef (.ref s.heap.objs.size) (.ref z) = false := by simp [Builtin.List.listSameRef, nS.1]
  have e2 : (Value.type "zip" == Value.type "list") = false := by decide
  have e3 : (Value.type "zip" == Value.type "tuple") = false := by decide
  simp only [e1, e2, e3, Bool.or_false, Bool.false_eq_true, if_false]
  refine wpAny_bind (wpAny_pyIter_zip (s := { s with heap := _ }) (k2 _ _ hz) ?_)
  refine wpAny_bind (wpAny_holding ?_)
  unfold Builtin.List.listLengthHint
  refine wpAny_bind (wpAny_specialOf (hzT k2) nolen_zip ?_)
  show wpAny _ A.in1.in1 (specialOf (Value.ref z) (Str.ofString "__length_hint__") >>= _) _ _ _
  refine wpAny_bind (wpAny_specialOf (hzT k2) nohint_zip ?_)
  refine wpAny_pure ?_
  show wpAny _ A.in1.in1 (rule "list.extend.makes-room" >>= fun _ => Builtin.List.listTouch (.ref s.heap.objs.size) >>= fun _ =>
    again (.builtin "list.extend.loop" ⟨[.ref s.heap.objs.size, .ref z, .none], []⟩)) _ _ _
  refine wpAny_bind (wpAny_rule ?_)
  refine wpAny_bind ?_
  show wpAny _ A.in1.in1 (updateSeq s.heap.objs.size (·.push .none) >>= fun _ => updateSeq s.heap.objs.size (·.pop)) _ _ _
  refine wpAny_bind (wpAny_updateSeq hS2 rfl ?_)
  have hS3 := Heap.get?_update_self (Obj.mapSeq (·.push Value.none)) hS2 rfl
  refine wpAny_updateSeq (hz := by seq_fits) hS3 rfl ?_
  have hS4 := Heap.get?_update_self (Obj.mapSeq (·.pop)) hS3 rfl
  have k3 := up _ (Obj.mapSeq (·.push Value.none)) k2
  have k4 := up _ (Obj.mapSeq (·.pop)) k3
  refine wpAny_pure ⟨plainId_quiet PySem.F.plain_extend_loop _, zl_loop (A := A.in1) (S := s.heap.objs.size) (xs := xs) (ys := ys) (s := s) (h₁ := s.heap) hh D lt hn .none (fun h' tk acc c as hk hS' hl hG hacc => ?_)
    (min xs.size ys.size) 0 _ _ _ #[] [] (Nat.sub_zero _) (Nat.zero_le _) (st0.keep nS fun b o _ e => k4 b o e) (fun b o _ _ e => k4 b o e) hS4 rfl rfl ⟨List.Pairwise.nil, (fun _ ha => nomatch ha), (fun j a hj => by simp at hj)⟩⟩
  exact ⟨rfl, hQ h' tk acc c as (fun b o hm e => hk b o (Nat.ne_of_lt (Heap.lt_size e)) hm e) hS' hl hG hacc⟩
end
end ZL
/-! list(zip(xs, ys)) as an expression -/
namespace GX
open PySem PySem.Spec PyProof.Rows L2 LamX
def putT2 : Hp → List Addr → List (V × V) → Hp
  | H, a :: as, p :: kvs => putT2 (upd H a (.tup [p.1, p.2])) as kvs
  | H, _, _ => H
theorem putT2_off {b : Addr} : ∀ (as : List Addr) (kvs : List (V × V)) (H : Hp), b ∉ as → putT2 H as kvs b = H b
  | [], _, _, _ => rfl
  | _ :: _, [], _, _ => rfl
  | a :: as, p :: kvs, H, h => by
    show putT2 (upd H a (.tup [p.1, p.2])) as kvs b = H b
    rw [putT2_off as kvs _ (fun z => h (List.mem_cons_of_mem _ z)), upd_ne (fun z => h (by rw [z]; exact List.mem_cons_self))]
theorem putT2_at : ∀ (as : List Addr) (kvs : List (V × V)) (H : Hp), as.length = kvs.length → as.Nodup → Paired (fun (t : Addr) (p : V × V) => putT2 H as kvs t = some (.tup [p.1, p.2])) as kvs
  | [], [], _, _, _ => .nil
  | [], _ :: _, _, h, _ => by cases h
  | _ :: _, [], _, h, _ => by cases h
  | a :: as, p :: kvs, H, h, hn => by
    have hn' := List.nodup_cons.mp hn
    have ih := putT2_at as kvs (upd H a (.tup [p.1, p.2])) (Nat.succ.inj h) hn'.2
    refine .cons ?_ ih
    show putT2 (upd H a (.tup [p.1, p.2])) as kvs a = some (.tup [p.1, p.2])
    rw [putT2_off as kvs _ hn'.1, upd_same]
section
variable {X : Cx}
theorem tuples_laid {pins : List (Addr × Obj)} {σ : L2.St} {H : Hp} {s : Shared} {h' : Heap} {tk : Nat} {kvs : List (V × V)} {acc : Array Value} {c : Nat} {S : Addr} {as : List Addr} (I : Inv X pins σ H s) (hz : kvs.length ≤ sizeLine) (hge : s.heap.objs.size ≤ S)
    (hk : ∀ b o, s.heap.get? b = some o → h'.get? b = some o) (hS : h'.get? S = some { cls := .type "list", dict := none, data := .seq acc c, slots := #[] }) (hl : as.length = kvs.length) (rise : as.Pairwise (· < ·)) (above : ∀ a ∈ as, S < a)
    (pairs : ∀ (j : Nat) (a : Addr) (p : V × V), as[j]? = some a → kvs[j]? = some p → ∃ x y, RelV p.1 x ∧ RelV p.2 y ∧ IsPair h' a x y) (hacc : acc.toList = as.map Value.ref) :
    ∃ H' : Hp, (∀ b o, H b = some o → H' b = some o) ∧ H S = none ∧ H' S = some (.lst (as.map V.ref)) ∧ Paired (fun (t : Addr) (q : V × V) => H' t = some (.tup [q.1, q.2])) as kvs ∧ Inv X pins σ H' { s with heap := h', toks := tk } := by
  have hSn : S ∉ as := fun z => Nat.lt_irrefl _ (above _ z)
  have nd : as.Nodup := List.Pairwise.imp (fun {a b} (h : a < b) => Nat.ne_of_lt h) rise
  have new : ∀ t ∈ as, H t = none := fun t ht => I.hok.fresh (Nat.le_trans hge (Nat.le_of_lt (above t ht)))
  have newS : H S = none := I.hok.fresh hge
  have atP := putT2_at as kvs (upd H S (.lst (as.map V.ref))) hl nd
  have off : ∀ b, b ∉ as → b ≠ S → putT2 (upd H S (.lst (as.map V.ref))) as kvs b = H b := fun b h1 h2 => by rw [putT2_off as kvs _ h1, upd_ne h2]
  have low : ∀ b o, s.heap.get? b = some o → b ∉ as ∧ b ≠ S := fun b o e => ⟨fun z => absurd (Heap.lt_size e) (Nat.not_lt.mpr (Nat.le_trans hge (Nat.le_of_lt (above b z)))), Nat.ne_of_lt (Nat.lt_of_lt_of_le (Heap.lt_size e) hge)⟩
  have kp : ∀ b u, H b = some u → (putT2 (upd H S (.lst (as.map V.ref))) as kvs) b = some u := fun b u e => by
    rw [off b (fun z => by rw [new b z] at e; cases e) (fun z => by rw [z, newS] at e; cases e)]
    exact e
  have eS : putT2 (upd H S (.lst (as.map V.ref))) as kvs S = some (.lst (as.map V.ref)) := by rw [putT2_off as kvs _ hSn, upd_same]
  refine ⟨putT2 (upd H S (.lst (as.map V.ref))) as kvs, kp, newS, eS, atP, ?_⟩
  refine I.call' (ch := []) rfl ⟨fun b o q _ _ _ => hk b o q, fun b o q _ _ _ => ⟨o.slots, hk b o q⟩, fun b o q n _ => ?_, fun b o q _ => ⟨o, hk b o q⟩, fun b xs q => kp b _ q, fun b o u q => kp b _ q, fun b ps q => ⟨#[], by rw [kp b _ q]; simp⟩⟩ (fun b u q => ?_) I.bare fun b z => by simp at z
  · obtain ⟨z1, z2⟩ := low b o q
    rw [off b z1 z2]
    exact n
  · by_cases hb : b ∈ as
    · obtain ⟨j, pk, e1, e2, e3⟩ := LiI.paired_ix atP hb
      rw [e3] at q
      cases q
      obtain ⟨x, y, rx, ry, f3⟩ := pairs j b pk e1 e2
      exact ⟨by show 2 ≤ sizeLine; decide, [x, y], .cons rx (.cons ry .nil), ⟨_, f3, rfl, _, rfl⟩⟩
    · by_cases hb2 : b = S
      · rw [hb2] at q ⊢
        rw [eS] at q
        cases q
        refine ⟨by rw [List.length_map, hl]; exact hz, acc.toList, c, by rw [hacc]; exact LiI.vals_refs as, ?_⟩
        rw [Array.toArray_toList]
        exact hS
      · rw [off b hb hb2] at q
        exact (I.hok b u q).stay (fun d v _ y => hk d v y) (fun d y => kp d _ y) fun d xs y => kp d _ y
def tListZip (K : PySem.W.Frag) (ta : TA) : TE := fun σ H Q => ta σ H fun vs H1 => ∃ a b xs ys, vs = [V.ref a, V.ref b] ∧ SqL K H1 a xs ∧ SqL K H1 b ys ∧
  ∀ H' r ts, (∀ b o, H1 b = some o → H' b = some o) → H1 r = none → H' r = some (.lst (ts.map V.ref)) → Paired (fun (t : Addr) (q : V × V) => H' t = some (.tup [q.1, q.2])) ts (xs.zip ys) → Q (.ref r) H'
theorem pe_listZip {e e2 : Expr} {ta : TA} {p p2 cpos pos : Pos} (hc : X.calm = true) (hg : Gl X "list") (hm : X.mg "list" = none) (hg2 : Gl X "zip") (hm2 : X.mg "zip" = none) (ha : PA X [e, e2] ta)
    (hs : starEach [.Call (.Name "zip" p2) [e, e2] [] cpos] X.env = (false, eval (.Call (.Name "zip" p2) [e, e2] [] cpos) X.env) :: starEach [] X.env := by rfl)
    (hs2 : starEach [e, e2] X.env = (false, eval e X.env) :: starEach [e2] X.env := by rfl) (hpl : (backTo cpos (starEach [e2] X.env)).any (·.1) = false := by rfl) :
    PE X (.Call (.Name "list" p) [.Call (.Name "zip" p2) [e, e2] [] cpos] [] pos) (tListZip X.K ta) := by
  refine ⟨fun pins s σ H Q I hq => ?_⟩
  refine wpAny_Call_Name_kw (ld_blt I hg hm boot_list ?_)
  refine PyProof.Rows.callWith_type1 ?_ hs rfl
  rw [hs]
  show wpAny _ _ (spliced ((false, eval (.Call (.Name "zip" p2) [e, e2] [] cpos) X.env) :: backTo pos (starEach [] X.env))) _ _ s
  refine Calls.spliced_cons ?_
  refine Call_ (ld_blt I hg2 hm2 PyProof.Rows.boot_zip (PyProof.Rows.callWith_type1 (thn (ha.run cpos pins s σ H _ I hq) fun us s1 ⟨vs, H1, I1, r1, q1⟩ => ?_) hs2 hpl))
  obtain ⟨a, b, xs, ys, ex, hqx, hqy, q⟩ := q1
  subst ex
  cases r1 with
  | cons r rr =>
    cases rr with
    | cons r' rr =>
      cases rr
      cases r
      cases r'
      obtain ⟨its, rv, p1, z1⟩ := I1.list hqx
      obtain ⟨its2, rv2, p2, z2⟩ := I1.list hqy
      have la : a < s1.heap.objs.size := p1.lt
      have lb : b < s1.heap.objs.size := p2.lt
      have l1 := rv.length
      have l2 := rv2.length
      refine call_zip_2 p1.isList p2.isList fun h0 hz hTI hTO h1 h2 hsz hk => ?_
      refine Calls.spliced_nil ?_
      refine ZL.zl_call (s := { s1 with heap := h0 }) (I1.ok.hd hc) (PySem.W.ktu_apart s1.heap.objs.size a b la lb) hz hTI hTO h1 h2 (p1.isList.at fun o e => hk _ o e) (p2.isList.at fun o e => hk _ o e) (by simp only [List.size_toArray]; omega) fun h' tk acc c as hk2 hS hl hG hacc => ?_
      have old : ∀ bb o, s1.heap.get? bb = some o → h'.get? bb = some o := fun bb o e => by
        have hlt := Heap.lt_size e
        refine hk2 bb o (fun z => ?_) (hk bb o e)
        simp only [List.mem_cons, List.not_mem_nil, or_false] at z
        rcases z with z | z | z | z
        · rw [z] at hlt; exact absurd hlt (Nat.not_lt.mpr (Nat.le_add_right _ _))
        · rw [z] at hlt; exact absurd hlt (Nat.not_lt.mpr (Nat.le_add_right _ _))
        · rw [z] at hlt; exact absurd hlt (Nat.lt_irrefl _)
        · rw [z] at hlt; exact absurd hlt (Nat.not_lt.mpr (Nat.le_add_right _ _))
      have pr : ∀ (j : Nat) (t : Addr) (pq : V × V), as[j]? = some t → (xs.zip ys)[j]? = some pq → ∃ x y, RelV pq.1 x ∧ RelV pq.2 y ∧ IsPair h' t x y := by
        intro j t pq e1 e2
        obtain ⟨x, y, ex, ey, hp⟩ := hG.pairs j t e1
        obtain ⟨h3, h4⟩ := List.getElem?_zip_eq_some.mp e2
        obtain ⟨u, h5, h6⟩ := rv.get h3
        obtain ⟨u2, h7, h8⟩ := rv2.get h4
        have e3 : u = x := Option.some.inj (h5.symm.trans (by simpa using ex))
        have e4 : u2 = y := Option.some.inj (h7.symm.trans (by simpa using ey))
        rw [e3] at h6
        rw [e4] at h8
        exact ⟨x, y, h6, h8, hp⟩
      obtain ⟨H', k1, k2, k3, k4, J⟩ := tuples_laid (tk := tk) (kvs := xs.zip ys) (S := h0.objs.size) I1 (by rw [List.length_zip]; omega) (by rw [hsz]; exact Nat.le_add_right _ _) old hS
        (by rw [hl, List.length_zip]; simp only [List.size_toArray]; omega) hG.rise hG.above pr hacc
      exact ⟨.ref _, H', J, rfl, q H' _ as k1 k2 k3 k4⟩
end
end GX
/-! pages that may be written -/
namespace GX
open PySem PySem.Spec PyProof.Rows L2 LamX
def NxOk (n : Option Pl) : Prop := ∀ p, n = some p → p.1 ≤ 11 ∧ p.2 ≤ 7
def Slot.Ok : Slot → Prop
  | .free t => t ≤ 100
  | .held o t b s n => t ≤ 99 ∧ b + s ≤ 24 ∧ (o = false → 1 ≤ s) ∧ NxOk n
structure Page.Ok (p : Page) : Prop where
  ns : p.slots.length = 8
  nc : p.cells.length = 24
  sl : ∀ s ∈ p.slots, s.Ok
  ce : ∀ c ∈ p.cells, c ≤ 99
theorem isNum_nat {n : Nat} {lo hi : Int} (h1 : lo ≤ (n : Int)) (h2 : (n : Int) ≤ hi) : isNum (.int (n : Int)) lo hi = true := by
  show (decide _ && decide _) = true
  rw [decide_eq_true h1, decide_eq_true h2]; rfl
theorem next_ok {n : Option Pl} (h : NxOk n) : isNext (nxD n) = true := by
  cases n with
  | none => rfl
  | some p =>
    obtain ⟨h1, h2⟩ := h p rfl
    show (isNum _ 0 11 && isNum _ 0 7) = true
    rw [isNum_nat (by omega) (by omega), isNum_nat (by omega) (by omega)]; rfl
theorem eqv_words : PyData.eqv (.str "free") (.str "free") = true ∧ PyData.eqv (.str "row") (.str "free") = false ∧ PyData.eqv (.str "part") (.str "free") = false ∧ PyData.eqv (.str "row") (.str "row") = true ∧ PyData.eqv (.str "part") (.str "row") = false ∧ PyData.eqv (.str "part") (.str "part") = true := by decide +kernel
theorem holds_ok {o : Bool} {t b s least : Nat} {n : Option Pl} (h1 : t ≤ 99) (h2 : b + s ≤ 24) (h3 : least ≤ s) (h4 : NxOk n) : holds [.str (wordOf o), .int t, .int b, .int s, nxD n] least = true := by
  show (isNum _ 0 99 && isNum _ 0 24 && isNum (.int (s : Int)) (least : Int) (24 - (b : Int)) && isNext _) = true
  rw [isNum_nat (lo := 0) (hi := 99) (by omega) (by omega), isNum_nat (lo := 0) (hi := 24) (by omega) (by omega), next_ok h4]
  have : isNum (.int (s : Int)) (least : Int) (24 - (b : Int)) = true := isNum_nat (by omega) (by omega)
  rw [this]; rfl
theorem slot_ok {s : Slot} (h : s.Ok) : isSlot s.d = true := by
  obtain ⟨e1, e2, e3, e4, e5, e6⟩ := eqv_words
  cases s with
  | free t =>
    have h : t ≤ 100 := h
    simp only [Slot.d, isSlot]
    rw [if_pos e1]
    exact isNum_nat (by omega) (by omega)
  | held o t b s n =>
    obtain ⟨h1, h2, h3, h4⟩ := h
    cases o with
    | true =>
      simp only [Slot.d, isSlot]
      show (if PyData.eqv (.str "row") (.str "free") = true then _ else if PyData.eqv (.str "row") (.str "row") = true then holds [.str (wordOf true), .int t, .int b, .int s, nxD n] (0 : Nat) else PyData.eqv (.str "row") (.str "part") && holds [.str (wordOf true), .int t, .int b, .int s, nxD n] (1 : Nat)) = true
      rw [e2, e4]
      exact holds_ok (o := true) h1 h2 (Nat.zero_le _) h4
    | false =>
      simp only [Slot.d, isSlot]
      show (if PyData.eqv (.str "part") (.str "free") = true then _ else if PyData.eqv (.str "part") (.str "row") = true then holds [.str (wordOf false), .int t, .int b, .int s, nxD n] (0 : Nat) else PyData.eqv (.str "part") (.str "part") && holds [.str (wordOf false), .int t, .int b, .int s, nxD n] (1 : Nat)) = true
      rw [e3, e5, e6]
      exact holds_ok (o := false) h1 h2 (h3 rfl) h4
theorem page_ok {p : Page} (h : p.Ok) : isPage p.d = true := by
  show (((decide ((p.slots.map Slot.d).length = 8) && decide ((intsD p.cells).length = 24) && (intsD p.cells).all fun x => isNum x 0 99)) && (p.slots.map Slot.d).all isSlot) = true
  have e1 : (p.slots.map Slot.d).length = 8 := by rw [List.length_map]; exact h.ns
  have e2 : (intsD p.cells).length = 24 := by unfold intsD; rw [List.length_map]; exact h.nc
  have e3 : ((intsD p.cells).all fun x => isNum x 0 99) = true := List.all_eq_true.mpr fun x hx => by
    obtain ⟨c, hc, e⟩ := List.mem_map.mp hx
    rw [← e]; exact isNum_nat (by omega) (by have := h.ce c hc; omega)
  have e4 : ((p.slots.map Slot.d).all isSlot) = true := List.all_eq_true.mpr fun x hx => by
    obtain ⟨c, hc, e⟩ := List.mem_map.mp hx
    rw [← e]; exact slot_ok (h.sl c hc)
  rw [decide_eq_true e1, decide_eq_true e2, e3, e4]; rfl
theorem canLayL {l : List PyData} (h : ∀ d ∈ l, PyData.canLay0 d = true) : PyData.canLayAll0 l = true := by
  induction l with
  | nil => simp only [PyData.canLayAll0]
  | cons d l ih =>
    simp only [PyData.canLayAll0]
    rw [h d List.mem_cons_self, ih fun e he => h e (List.mem_cons_of_mem _ he)]; rfl
theorem depthL {l : List PyData} {n : Nat} (h : ∀ d ∈ l, PyData.depth d ≤ n) : PyData.depthAll l ≤ n := by
  induction l with
  | nil => simp [PyData.depthAll]
  | cons d l ih =>
    simp only [PyData.depthAll]
    have h1 := h d List.mem_cons_self
    have h2 := ih fun e he => h e (List.mem_cons_of_mem _ he)
    omega
theorem strOk_words : PyData.canLay0 (.str "free") = true ∧ PyData.canLay0 (.str "row") = true ∧ PyData.canLay0 (.str "part") = true := by decide +kernel
theorem canLay_nx (n : Option Pl) : PyData.canLay0 (nxD n) = true := by
  cases n with
  | none => simp [nxD, PyData.canLay0]
  | some p => simp [nxD, plD, PyData.canLay0, PyData.canLayAll0]
theorem depth_nx (n : Option Pl) : PyData.depth (nxD n) ≤ 1 := by
  cases n with
  | none => simp [nxD, PyData.depth]
  | some p => simp [nxD, plD, PyData.depth, PyData.depthAll]
theorem canLay_slot (s : Slot) : PyData.canLay0 s.d = true := by
  obtain ⟨e1, e2, e3⟩ := strOk_words
  cases s with
  | free t => simp only [Slot.d, PyData.canLay0, PyData.canLayAll0] at *; rw [e1]; rfl
  | held o t b s n =>
    have e : PyData.canLay0 (.str (wordOf o)) = true := by cases o; exact e3; exact e2
    have en := canLay_nx n
    simp only [Slot.d, PyData.canLay0, PyData.canLayAll0] at *
    rw [e, en]; rfl
theorem depth_slot (s : Slot) : PyData.depth s.d ≤ 2 := by
  cases s with
  | free t => simp [Slot.d, PyData.depth, PyData.depthAll]
  | held o t b s n =>
    have := depth_nx n
    simp only [Slot.d, PyData.depth, PyData.depthAll]
    omega
theorem page_shaped (p : Page) : SeqAt.shaped p.d = true := by
  unfold SeqAt.shaped
  have h1 : PyData.canLay0 p.d = true := by
    simp only [Page.d, PyData.canLay0, PyData.canLayAll0]
    rw [canLayL (l := p.slots.map Slot.d) fun d hd => by obtain ⟨s, _, e⟩ := List.mem_map.mp hd; rw [← e]; exact canLay_slot s,
      canLayL (l := intsD p.cells) fun d hd => by obtain ⟨s, _, e⟩ := List.mem_map.mp hd; rw [← e]; simp [PyData.canLay0]]
    rfl
  have h2 : PyData.depth p.d ≤ 64 := by
    have e1 := depthL (l := p.slots.map Slot.d) (n := 2) fun d hd => by obtain ⟨s, _, e⟩ := List.mem_map.mp hd; rw [← e]; exact depth_slot s
    have e2 := depthL (l := intsD p.cells) (n := 0) fun d hd => by obtain ⟨s, _, e⟩ := List.mem_map.mp hd; rw [← e]; simp [PyData.depth]
    simp only [Page.d, PyData.depth, PyData.depthAll]
    omega
  rw [h1, decide_eq_true h2]; rfl
theorem Slot.Ok.size {s : Slot} (h : s.Ok) : s.size ≤ 24 := by
  cases s with
  | free t => exact Nat.zero_le _
  | held o t b s n => have := h.2.1; show s ≤ 24; omega
theorem Page.Ok.fits {p : Page} (h : p.Ok) : p.Fits := ⟨h.ns, h.nc, fun o t b n z hm => (h.sl _ hm).2.1⟩
theorem pages_of {sh : List Page} (h : ∀ p ∈ sh, p.Ok) (hl : sh.length ≤ 12) : Pages sh := ⟨hl, fun p hp => (h p hp).fits, fun p hp s hs => Nat.le_trans ((h p hp).sl s hs).size (by decide)⟩
theorem Page.Ok.setSlot {p : Page} (h : p.Ok) {i : Nat} {s : Slot} (hs : s.Ok) : (p.setSlot i s).Ok := ⟨by show (p.slots.set i s).length = 8; rw [List.length_set]; exact h.ns, h.nc, fun z hz => by
  rcases mem_set hz with e | e
  · rw [e]; exact hs
  · exact h.sl z e, h.ce⟩
/-! ### values laid in a slot -/
def heldLen : Slot × List Nat → Nat
  | (.free _, _) => 0
  | (.held _ _ _ _ _, vs) => vs.length
theorem pack_sum : ∀ (l : List (Slot × List Nat)) (o : Nat), (packGo l o).2.length = (l.map heldLen).sum
  | [], _ => rfl
  | (.free t, vs) :: l, o => by simp [packGo, heldLen, pack_sum l]
  | (.held w t b s n, vs) :: l, o => by simp [packGo, heldLen, pack_sum l]
theorem sum_set {α : Type} (f : α → Nat) : ∀ (l : List α) (i : Nat) (a b : α), l[i]? = some a → ((l.set i b).map f).sum + f a = (l.map f).sum + f b
  | [], _, _, _, h => by simp at h
  | x :: l, 0, a, b, h => by
    simp at h
    subst h
    simp; omega
  | x :: l, i + 1, a, b, h => by
    have := sum_set f l i a b (by simpa using h)
    simp only [List.set_cons_succ, List.map_cons, List.sum_cons]
    omega
theorem cellsOf_len {p : Page} (h : p.Ok) {s : Slot} (hs : s.Ok) : (p.cellsOf s).length = s.size := by
  cases s with
  | free t => rfl
  | held o t b n z =>
    have := hs.2.1
    show ((p.cells.drop b).take n).length = n
    rw [List.length_take, List.length_drop, h.nc]
    omega
theorem heldLen_of {p : Page} (h : p.Ok) {s : Slot} (hs : s.Ok) : heldLen (s, p.cellsOf s) = s.size := by
  have := cellsOf_len h hs
  cases s with
  | free t => rfl
  | held o t b n z => exact this
theorem held_used {p : Page} (h : p.Ok) : ((p.slots.map fun s => (s, p.cellsOf s)).map heldLen).sum = p.used := by
  unfold Page.used
  rw [List.map_map]
  congr 1
  exact List.map_congr_left fun s hs => heldLen_of h (h.sl s hs)
theorem pack_total {p : Page} (h : p.Ok) {i : Nat} {s : Slot} (hs : p.slots[i]? = some s) (own : Bool) (t : Nat) (nx : Option Pl) (vals : List Nat) :
    (packGo ((p.slots.map fun s => (s, p.cellsOf s)).set i (.held own t 0 0 nx, vals)) 0).2.length + s.size = p.used + vals.length := by
  have := sum_set heldLen (p.slots.map fun s => (s, p.cellsOf s)) i (s, p.cellsOf s) (.held own t 0 0 nx, vals) (by rw [List.getElem?_map, hs]; rfl)
  rw [pack_sum, ← held_used h]
  rw [heldLen_of h (h.sl s (List.mem_of_getElem? hs))] at this
  exact this
theorem pack_ok : ∀ (l : List (Slot × List Nat)) (o : Nat), (∀ x ∈ l, ∀ w t b s n, x.1 = .held w t b s n → t ≤ 99 ∧ (w = false → 1 ≤ x.2.length) ∧ NxOk n) → (∀ x ∈ l, ∀ t, x.1 = .free t → t ≤ 100) → o + (packGo l o).2.length ≤ 24 → ∀ s ∈ (packGo l o).1, s.Ok
  | [], _, _, _, _, s, hs => by simp [packGo] at hs
  | (.free t, vs) :: l, o, h1, h2, h3, s, hs => by
    rcases List.mem_cons.mp hs with e | e
    · rw [e]; exact h2 _ List.mem_cons_self t rfl
    · exact pack_ok l o (fun x hx => h1 x (List.mem_cons_of_mem _ hx)) (fun x hx => h2 x (List.mem_cons_of_mem _ hx)) h3 s e
  | (.held w t b n z, vs) :: l, o, h1, h2, h3, s, hs => by
    have e0 : (packGo ((.held w t b n z, vs) :: l) o).2.length = vs.length + (packGo l (o + vs.length)).2.length := by simp [packGo]
    rw [e0] at h3
    rcases List.mem_cons.mp hs with e | e
    · obtain ⟨q1, q2, q3⟩ := h1 _ List.mem_cons_self w t b n z rfl
      rw [e]
      refine ⟨q1, ?_, q2, q3⟩
      show (if vs.length = 0 then 0 else o) + vs.length ≤ 24
      split <;> omega
    · exact pack_ok l (o + vs.length) (fun x hx => h1 x (List.mem_cons_of_mem _ hx)) (fun x hx => h2 x (List.mem_cons_of_mem _ hx)) (by omega) s e
theorem pack_cells : ∀ (l : List (Slot × List Nat)) (o : Nat), (∀ x ∈ l, ∀ c ∈ x.2, c ≤ 99) → ∀ c ∈ (packGo l o).2, c ≤ 99
  | [], _, _, c, hc => by simp [packGo] at hc
  | (.free t, vs) :: l, o, h, c, hc => pack_cells l o (fun x hx => h x (List.mem_cons_of_mem _ hx)) c hc
  | (.held w t b n z, vs) :: l, o, h, c, hc => by
    rcases List.mem_append.mp hc with e | e
    · exact h _ List.mem_cons_self c e
    · exact pack_cells l _ (fun x hx => h x (List.mem_cons_of_mem _ hx)) c e
theorem cellsOf_le {p : Page} (h : p.Ok) (s : Slot) : ∀ c ∈ p.cellsOf s, c ≤ 99 := fun c hc => by
  cases s with
  | free t => simp [Page.cellsOf] at hc
  | held o t b n z => exact h.ce c (List.mem_of_mem_drop (List.mem_of_mem_take hc))
theorem Page.Ok.withValues {p : Page} (h : p.Ok) {i : Nat} {s : Slot} (hs : p.slots[i]? = some s) {own : Bool} {vals : List Nat} {nx : Option Pl} (ht : s.turn ≤ 99) (hv : ∀ c ∈ vals, c ≤ 99) (ho : own = false → 1 ≤ vals.length) (hn : NxOk nx) (hfit : p.used + vals.length ≤ 24 + s.size) : (p.withValues i own vals nx).Ok := by
  have tot := pack_total h hs own ((p.slots[i]?.map Slot.turn).getD 0) nx vals
  have e24 : (packGo ((p.slots.map fun s => (s, p.cellsOf s)).set i (.held own ((p.slots[i]?.map Slot.turn).getD 0) 0 0 nx, vals)) 0).2.length ≤ 24 := by omega
  have mem : ∀ x ∈ (p.slots.map fun s => (s, p.cellsOf s)).set i (.held own ((p.slots[i]?.map Slot.turn).getD 0) 0 0 nx, vals), x = (.held own ((p.slots[i]?.map Slot.turn).getD 0) 0 0 nx, vals) ∨ ∃ s ∈ p.slots, x = (s, p.cellsOf s) := fun x hx => by
    rcases mem_set hx with e | e
    · exact .inl e
    · obtain ⟨s, hs, e⟩ := List.mem_map.mp e
      exact .inr ⟨s, hs, e.symm⟩
  refine ⟨?_, ?_, ?_, ?_⟩
  · show (packGo _ 0).1.length = 8
    rw [pack_len, List.length_set, List.length_map]; exact h.ns
  · show ((packGo _ 0).2 ++ List.replicate (24 - (packGo _ 0).2.length) 0).length = 24
    rw [List.length_append, List.length_replicate]
    omega
  · refine pack_ok _ 0 (fun x hx w t b n z e => ?_) (fun x hx t e => ?_) (by omega)
    · rcases mem x hx with q | ⟨s', hs', q⟩
      · rw [q] at e
        cases e
        rw [q, hs]
        exact ⟨ht, ho, hn⟩
      · have ok := h.sl s' hs'
        have cl := cellsOf_len h ok
        rw [q] at e ⊢
        have e : s' = .held w t b n z := e
        rw [e] at ok cl
        refine ⟨ok.1, fun hw => ?_, ok.2.2.2⟩
        show 1 ≤ (p.cellsOf s').length
        rw [e, cl]; exact ok.2.2.1 hw
    · rcases mem x hx with q | ⟨s', hs', q⟩
      · rw [q] at e; cases e
      · have ok := h.sl s' hs'
        rw [q] at e
        have e : s' = .free t := e
        rw [e] at ok; exact ok
  · intro c hc
    rcases List.mem_append.mp hc with e | e
    · refine pack_cells _ 0 (fun x hx c hc => ?_) c e
      rcases mem x hx with q | ⟨s', hs', q⟩
      · rw [q] at hc; exact hv c hc
      · rw [q] at hc; exact cellsOf_le h s' c hc
    · have := (List.mem_replicate.mp e).2
      omega
end GX
set_option maxHeartbeats 2000000
namespace GX
open PySem PySem.Spec PyProof.Rows L2 LamX
section
variable {P : Program} {w : World} {K : PySem.W.Frag} {mg : Str → Option Value} {base : Heap} {T : List (Addr × Str)} {C cD cN cP cC cS : Addr}
theorem write_end {p dx l : Addr} {pages : List PyData} {done : Int} {left : Option Int} {stands : Bool} {v u : V} {d e : PyData} {H : Hp} {E2 : Ends} (D : DTx K mg C cD cN cP cC cS) (dk : DiskAt K C H p dx l pages done left stands) (hs : stands = false) (hq : isNum d 0 ((pages.length : Int) - 1) = true) {H0 : Hp} (hd : Dp K H0 v d) (he : Dp K H u e) (fe : flatD e = true)
    (k : ∀ (i : Nat) (H' : Hp), d = .int i → i < pages.length → XM T (fun b => b = p ∨ b = l) H H' → DiskAt K C H' p dx l (pages.set i e) (done + 1) left false → E2.nx [some (.ref p), some v, some u] H') :
    tSeq (tAsg (tVar 2) (gSub (tFld K (tVar 0) "_sheets") (tVar 1) rSetL)) (sFldAug K (tVar 0) (tC (.int 1)) rAdd "_done") E2 [some (.ref p), some v, some u] H := by
  obtain ⟨i, rfl, h1, h2⟩ := isNum_int hq
  obtain rfl := dp_int hd
  obtain ⟨xs, hl, hx⟩ := dk.lst
  obtain ⟨j, rfl⟩ : ∃ j : Nat, i = (j : Int) := ⟨i.toNat, by omega⟩
  have hj : j < pages.length := by omega
  have hxl := dpAll_len hx
  have hix : ixN xs.length (j : Int) = some j := by
    unfold ixN
    have q1 : (0 : Int) ≤ (j : Int) := by omega
    have q2 : (j : Int) < (xs.length : Int) := by omega
    simp [q1, q2]
    try omega
  have npl := dk.ne
  have x1 : XM T (fun b => b = p ∨ b = l) H (upd H l (.lst (xs.set j u))) := XM.upd hl (.inr rfl) True.intro
  have ins1 : upd H l (.lst (xs.set j u)) p = some (.ins C dx (dF l done left stands)) := by rw [upd_ne npl]; exact dk.ins
  have x2 := x1.then_upd (o' := .ins C dx (dF l (done + 1) left stands)) ins1 (.inl rfl) True.intro
  refine ⟨_, rfl, _, rfl, p, C, dx, _, _, rfl, dk.ins, D.cl, D.n1, rfl, _, rfl, l, xs, _, j, rfl, rfl, hl, hix, ?_⟩
  refine ⟨_, rfl, p, C, dx, _, _, rfl, ins1, D.cl, D.n2, rfl, _, _, rfl, rfl, dx, _, ins1, (by show 4 < 1000; decide), ?_⟩
  subst hs
  refine k j _ rfl hj x2 ⟨upd_same, ⟨xs.set j u, ?_, ?_⟩, fun d hm => ?_⟩
  · rw [upd_ne (Ne.symm npl), upd_same]
  · refine dpAll_xm x2 (fun d hm => ?_) (dpAll_set he j hx)
    rcases mem_set hm with z | z
    · rw [z]; exact fe
    · exact dk.flat d z
  · rcases mem_set hm with z | z
    · rw [z]; exact fe
    · exact dk.flat d z
theorem sc_DPage : FnScope ["self", "number"] ["self", "number"] (defScope s_DPage) := ⟨rfl, rfl, rfl, by decide +kernel, rfl, by decide +kernel, by decide +kernel⟩
theorem ok_DPage {f : Addr} {fd : FuncData} (F : Fun K "page" "Disk.page" s_DPage f fd) (D : DTx K mg C cD cN cP cC cS) (mC : Met P w K mg base (L2.CX P w) C "_check" ["self", "number"] 2 (spDCheck K C cN cS)) : FnOk P w K mg base (L2.CX P w) 3 f fd ["self", "number"] (spDPage K C cN cS) := by
  refine F.okX sc_DPage (fun vs H Q E h => by obtain ⟨p, dx, l, pages, done, left, stands, v, d, rfl, _⟩ := h; rfl) (fun cdv A outer s H vs Q E hr h => ?_)
  obtain ⟨p, dx, l, pages, done, left, stands, v, d, rfl, dk, hd, k1, k2, k3⟩ := h
  refine ⟨_, pss_cons (ps_expr (pe_met mC D.cl hr (passX (tk := takes_of rfl rfl rfl rfl)) (pv 0) (pa_cons (pv 1) pa_nil))) (pss_one (ps_ret (pe_ix ix_list (pe_fld (pv 0) rfl) (pv 1) (fun _ _ => rfl)))), ?_⟩
  refine ⟨_, rfl, p, dx, _, rfl, dk.ins, rfl, v, rfl, p, dx, l, pages, done, left, stands, v, d, rfl, dk, hd, k1, k2, fun hs hq => ?_⟩
  obtain ⟨i, rfl, h1, h2⟩ := isNum_int hq
  obtain rfl := dp_int hd
  obtain ⟨xs, hl, hx⟩ := dk.lst
  obtain ⟨j, rfl⟩ : ∃ j : Nat, i = (j : Int) := ⟨i.toNat, by omega⟩
  have hj : j < pages.length := by omega
  obtain ⟨u, eu, du⟩ := dpAll_at hx (List.getElem?_eq_getElem hj)
  exact ⟨_, rfl, p, C, dx, _, _, rfl, dk.ins, D.cl, D.n1, rfl, _, rfl, l, xs, _, u, rfl, rfl, SqL.of hl, atI_nat eu, k3 j _ u hs rfl (List.getElem?_eq_getElem hj) du⟩
theorem sc_DWrite : FnScope ["self", "number", "page"] ["self", "number", "page"] (defScope s_DWrite) := ⟨rfl, rfl, rfl, by decide +kernel, rfl, by decide +kernel, by decide +kernel⟩
theorem ok_DWrite {f P1 P2 : Addr} {fd : FuncData} (F : Fun K "write" "Disk.write" s_DWrite f fd) (D : DTx K mg C cD cN cP cC cS) (mC : Met P w K mg base (L2.CX P w) C "_check" ["self", "number"] 2 (spDCheck K C cN cS)) (mD : Met P w K mg base (L2.CX P w) C "_count_down" ["self"] 1 (spDCount K T C cS))
    (cP' : Cal P w K mg base CX0 "is_page" ["thing"] 6 (spPage K T P1 P2)) : FnOk P w K mg base (L2.CX P w) 7 f fd ["self", "number", "page"] (spDWrite K T P1 P2 C cN cP cS) := by
  refine F.okX sc_DWrite (fun vs H Q E h => by obtain ⟨p, dx, l, pages, done, left, stands, v, d, u, e, rfl, _⟩ := h; rfl) (fun cdv A outer s H vs Q E hr h => ?_)
  obtain ⟨p, dx, l, pages, done, left, stands, v, d, u, e, rfl, dk, hd, he, fe, she, g1, g2, k1, k2, k3, k4, k5⟩ := h
  refine ⟨_, pss_cons (ps_expr (pe_met mC D.cl (hr.mono (by decide)) (passX (tk := takes_of rfl rfl rfl rfl)) (pv 0) (pa_cons (pv 1) pa_nil)))
    (pss_cons (ps_if (pt_not (pt_val (pe_cal cP' hr (pa_cons (pv 2) pa_nil)))) (pss_one (ps_raise rfl (takes_of rfl rfl rfl rfl) (pmk_err D.eP))) pss_nil)
    (pss_cons (ps_expr (pe_met0 mD D.cl (hr.mono (by decide)) (passX (tk := takes_of rfl rfl rfl rfl)) (pv 0)))
    (pss_cons (ps_asg (pv 2) (pg_sub (pe_fld (pv 0) rfl) (pv 1) set_list))
    (pss_one (ps_fldaug (pv 0) pe_int in_add))))), ?_⟩
  refine ⟨_, rfl, p, dx, _, rfl, dk.ins, rfl, v, rfl, p, dx, l, pages, done, left, stands, v, d, rfl, dk, hd, k1, k2, fun hs hq => ?_⟩
  refine ⟨u, rfl, u, e, rfl, he, she, g1, g2, fun H1 x1 => ⟨_, rfl, ?_⟩⟩
  by_cases hp : isPage e = true
  · rw [hp]
    have dk1 := dk.xx x1
    refine iteF ⟨_, rfl, p, dx, _, rfl, dk1.ins, rfl, p, dx, l, pages, done, left, stands, rfl, dk1, fun hl => ?_, fun hl H2 x2 dk2 => k4 hs hq hp hl H2 (x1.xm.trans x2) dk2, fun n hl hn H2 x2 dk2 => ?_⟩
    · exact write_end D dk1 hs hq hd (he := Dp.xx x1 _ _ he) fe fun i H' ei hi x2 dk2 => k5 i hs ei hi hp (by rw [hl]; simp) H' (x1.xm.trans x2) (by rw [hl] at dk2 ⊢; exact dk2)
    · refine write_end D dk2 hs hq hd (he := Dp.xm x2 _ _ fe (Dp.xx x1 _ _ he)) fe fun i H' ei hi x3 dk3 => k5 i hs ei hi hp (by rw [hl]; simpa using hn) H' ((x1.xm.trans (x2.mono fun b z => .inl z)).trans x3) (by rw [hl]; exact dk3)
  · have hp' : isPage e = false := by simpa using hp
    rw [hp']
    exact iteT (k3 hs hq hp' H1 x1)
end
end GX
set_option maxHeartbeats 4000000
/-! slotpages.shelf: the class, over a disk that isn't armed -/
namespace GX
open PySem PySem.Spec PyProof.Rows L2 LamX
structure ShAt (K : PySem.W.Frag) (C CS : Addr) (H : Hp) (q qx p dx l : Addr) (sh : List Page) (done : Int) : Prop where
  ins : H q = some (.ins CS qx [("_disk", .ref p)])
  dk : DiskAt K C H p dx l (shD sh) done none false
  ok : ∀ pg ∈ sh, pg.Ok
  le : sh.length ≤ 12
section
variable {K : PySem.W.Frag} {T : List (Addr × Str)} {C CS : Addr} {H H' : Hp} {q qx p dx l : Addr} {sh : List Page} {done : Int}
theorem ShAt.pages (s : ShAt K C CS H q qx p dx l sh done) : Pages sh := pages_of s.ok s.le
theorem ShAt.xx (s : ShAt K C CS H q qx p dx l sh done) (x : XX T H H') : ShAt K C CS H' q qx p dx l sh done := ⟨x.ins s.ins, s.dk.xx x, s.ok, s.le⟩
theorem ShAt.len (s : ShAt K C CS H q qx p dx l sh done) : (shD sh).length = sh.length := List.length_map ..
end
/-- the class Shelf -/
structure STx (K : PySem.W.Frag) (CS : Addr) : Prop where
  cl : Cls K CS
  n1 : NoAttr K CS "_disk"
def spAllP (K : PySem.W.Frag) (T : List (Addr × Str)) (C : Addr) : Sp := fun vs H Q _ => ∃ p dx l sh done, vs = [.ref p] ∧ DiskAt K C H p dx l (shD sh) done none false ∧ sh.length ≤ 12 ∧ ∀ H' r, XX T H H' → H r = none → Dp K H' (.ref r) (.list (shD sh)) → Q (.ref r) H'
def spSPages (K : PySem.W.Frag) (T : List (Addr × Str)) (C CS : Addr) : Sp := fun vs H Q _ => ∃ q qx p dx l sh done, vs = [.ref q] ∧ ShAt K C CS H q qx p dx l sh done ∧ ∀ H' r, XX T H H' → H r = none → Dp K H' (.ref r) (.list (shD sh)) → Q (.ref r) H'
section
variable {P : Program} {w : World} {K : PySem.W.Frag} {mg : Str → Option Value} {base : Heap} {T : List (Addr × Str)} {C CS cN cS : Addr}
theorem sc_all_pages : FnScope ["disk", "number"] ["disk"] (defScope s_all_pages) := ⟨rfl, rfl, rfl, by decide +kernel, rfl, by decide +kernel, by decide +kernel⟩
theorem ok_all_pages {f : Addr} {fd : FuncData} (F : L2.Fun K "all_pages" "all_pages" s_all_pages f fd) (cD : Cls K C) (B : Blt mg) (mPages : Met P w K mg base CX0 C "pages" ["self"] 1 (spDPages K C)) (mPage : Met P w K mg base (L2.CX P w) C "page" ["self", "number"] 3 (spDPage K C cN cS)) :
    FnOk P w K mg base CX0 4 f fd ["disk"] (spAllP K T C) := by
  refine F.ok sc_all_pages (fun vs H Q E h => by obtain ⟨p, dx, l, sh, done, rfl, _⟩ := h; rfl) (fun cdv A outer s H vs Q E hr h => ?_)
  obtain ⟨p, dx, l, sh, done, rfl, dk, hle, k⟩ := h
  have nd := sc_all_pages.nd
  refine ⟨_, pss_one (ps_ret (pe_lc (own := [("number", 1)]) (g := gName 1) (tt := tYes) (te := tMeth C "page" (spDPage K C cN cS) [] E0 (tVar 0) (tCons (tVar 1) tNil)) (by rfl) nd (pi_range1 (by rfl) B.range (pa_cons (pe_met0 mPages cD (hr.mono (by decide)) pass0 (pv 0)) pa_nil)) (blkOk_by (own := [("number", 1)]) (N := ["disk", "number"]) (sc := defScope s_all_pages) (by decide +kernel))
    (fun _ _ _ _ _ => pg_name (i := 1) nd rfl (Or.inl rfl)) (fun _ _ _ _ _ => pts_nil) (fun _ _ _ _ _ => pe_met mPage cD hr passL (pv 0) (pa_cons (pv 1) pa_nil)))), ?_⟩
  have hln : (shD sh).length = sh.length := List.length_map ..
  refine ⟨_, rfl, p, dx, _, rfl, dk.ins, rfl, p, dx, l, shD sh, done, none, false, rfl, dk, _, rfl, by omega, by omega, fun D hD => ?_⟩
  refine lc_range (lo := 0) (n := ((shD sh).length : Int).toNat) (fun j H' => XX T H H' ∧ ∃ acc, H' D = some (.lst acc) ∧ DpAll K H' acc ((shD sh).take j)) ⟨XX.new hD, [], upd_same, .nil⟩ (fun j H' hj pv => ⟨rfl, ?_⟩) (fun H' pv => ?_)
  · obtain ⟨xj, acc, e1, da⟩ := pv
    have dkj := dk.xx xj
    have hj2 : j < (shD sh).length := by omega
    refine ⟨_, rfl, p, dx, _, rfl, dkj.ins, rfl, _, rfl, p, dx, l, shD sh, done, none, false, .int (0 + j), .int (0 + j), rfl, dkj, .int _, fun hs => by (cases hs), fun hs hq => ?_, fun i e u hs hi he du => ⟨acc, e1, ?_, xj.atD hD e1, acc ++ [u], upd_same, ?_⟩⟩
    · rw [show (0 : Int) + (j : Int) = ((j : Nat) : Int) by omega, isNum_nat (by omega) (by omega)] at hq; cases hq
    · rw [dpAll_len da, List.length_take]
      exact Nat.lt_of_le_of_lt (Nat.min_le_left _ _) (Nat.lt_of_lt_of_le (show j < 100 by omega) (by decide))
    · have hi' : (0 : Int) + (j : Int) = (i : Int) := by injection hi
      have hij : i = j := by omega
      subst hij
      have x3 : XM T (fun c => c = D) H' (upd H' D (.lst (acc ++ [u]))) := XM.upd e1 rfl True.intro
      have et : (shD sh).take (i + 1) = (shD sh).take i ++ [e] := by
        rw [List.take_succ, he] <;> rfl
      rw [et]
      exact dpAll_app (dpAll_xm x3 (fun d hd => sh_flat sh d (List.mem_of_mem_take hd)) da) (.cons (Dp.xm x3 _ _ (sh_flat sh e (List.mem_of_getElem? he)) du) .nil)
  · obtain ⟨xj, acc, e1, da⟩ := pv
    rw [List.take_of_length_le (by omega)] at da
    exact k H' D xj hD (.lst (SqL.of e1) da)
theorem sc_SPages : FnScope ["self"] ["self"] (defScope s_SPages) := ⟨rfl, rfl, rfl, by decide +kernel, rfl, by decide +kernel, by decide +kernel⟩
theorem ok_SPages {f : Addr} {fd : FuncData} (F : L2.Fun K "_pages" "Shelf._pages" s_SPages f fd) (S : STx K CS) (cA : Cal P w K mg base CX0 "all_pages" ["disk"] 4 (spAllP K T C)) :
    FnOk P w K mg base CX0 5 f fd ["self"] (spSPages K T C CS) := by
  refine F.ok sc_SPages (fun vs H Q E h => by obtain ⟨q, qx, p, dx, l, sh, done, rfl, _⟩ := h; rfl) (fun cdv A outer s H vs Q E hr h => ?_)
  obtain ⟨q, qx, p, dx, l, sh, done, rfl, st, k⟩ := h
  refine ⟨_, pss_one (ps_ret (pe_cal cA hr (pa_cons (pe_fld (pv 0) rfl) pa_nil))), ?_⟩
  exact ⟨_, rfl, q, CS, qx, _, _, rfl, st.ins, S.cl, S.n1, rfl, p, dx, l, sh, done, rfl, st.dk, st.le, k⟩
end
end GX
/-! slotpages.shelf: names, get, parts -/
namespace GX
open PySem PySem.Spec PyProof.Rows L2 LamX
theorem mem_placesOf {g : Pl → Slot → Bool} {sh : List Page} {p : Pl} : p ∈ placesOf g sh ↔ ∃ s, slotAt sh p = some s ∧ g p s = true := by
  unfold placesOf
  rw [List.mem_flatMap]
  constructor
  · rintro ⟨i, hi, h⟩
    obtain ⟨j, hj, e⟩ := List.mem_map.mp h
    obtain ⟨hj1, hj2⟩ := List.mem_filter.mp hj
    subst e
    cases q : slotAt sh (i, j) with
    | none => rw [q] at hj2; simp at hj2
    | some s => rw [q] at hj2; exact ⟨s, rfl, by simpa using hj2⟩
  · rintro ⟨s, e, h⟩
    obtain ⟨pg, e1, e2⟩ := slotAt_some e
    refine ⟨p.1, List.mem_range.mpr (List.getElem?_eq_some_iff.mp e1).1, List.mem_map.mpr ⟨p.2, List.mem_filter.mpr ⟨?_, ?_⟩, rfl⟩⟩
    · rw [e1]
      exact List.mem_range.mpr (List.getElem?_eq_some_iff.mp e2).1
    · rw [e]
      simpa using h
theorem mem_rowPlaces {sh : List Page} {p : Pl} : p ∈ rowPlaces sh ↔ ∃ t b s n, slotAt sh p = some (.held true t b s n) := by
  unfold rowPlaces
  rw [mem_placesOf]
  constructor
  · rintro ⟨s, e, h⟩
    cases s with
    | free t => simp at h
    | held o t b n z =>
      cases o with
      | false => simp at h
      | true => exact ⟨_, _, _, _, e⟩
  · rintro ⟨t, b, s, n, e⟩
    exact ⟨_, e, rfl⟩
abbrev Nm := Pl × Nat
def nmD (n : Nm) : PyData := .tuple [.int n.1.1, .int n.1.2, .int n.2]
def turnAt (sh : List Page) (p : Pl) : Nat := ((slotAt sh p).map Slot.turn).getD 0
def namesOf (sh : List Page) : List Nm := (rowPlaces sh).map fun p => (p, turnAt sh p)
def spSNames (K : PySem.W.Frag) (T : List (Addr × Str)) (C CS : Addr) : Sp := fun vs H Q _ => ∃ q qx p dx l sh done, vs = [.ref q] ∧ ShAt K C CS H q qx p dx l sh done ∧ ∀ H' r xs, XX T H H' → H r = none → H' r = some (.lst xs) → DpAll K H' xs ((namesOf sh).map nmD) → Q (.ref r) H'
section
variable {P : Program} {w : World} {K : PySem.W.Frag} {mg : Str → Option Value} {base : Heap} {T : List (Addr × Str)} {C CS cN cS : Addr}
abbrev rnN : List Str := ["sheets", "place"]
def spRowNames (K : PySem.W.Frag) (T : List (Addr × Str)) : Sp := fun vs H Q _ => ∃ v sh, vs = [v] ∧ Dp K H v (.list (shD sh)) ∧ Pages sh ∧ ∀ H' r xs, XX T H H' → H r = none → H' r = some (.lst xs) → DpAll K H' xs ((namesOf sh).map nmD) → Q (.ref r) H'
theorem nm_flat (l : List Nm) : ∀ d ∈ l.map nmD, flatD d = true := fun d hd => by obtain ⟨p, _, e⟩ := List.mem_map.mp hd; rw [← e]; rfl
theorem sc_row_names : FnScope rnN ["sheets"] (defScope s_row_names) := ⟨rfl, rfl, rfl, by decide +kernel, rfl, by decide +kernel, by decide +kernel⟩
theorem ok_row_names {f : Addr} {fd : FuncData} (F : L2.Fun K "row_names" "row_names" s_row_names f fd) (cR : Cal P w K mg base CX0 "row_places" ["sheets"] 1 (spRowPl K T)) (cS' : Cal P w K mg base CX0 "slot_at" ["sheets", "place"] 1 (spSlotAt K)) :
    FnOk P w K mg base CX0 2 f fd ["sheets"] (spRowNames K T) := by
  refine F.ok sc_row_names (fun vs H Q E h => by obtain ⟨v, sh, rfl, _⟩ := h; rfl) (fun cdv A outer s H vs Q E hr h => ?_)
  obtain ⟨v, sh, rfl, d1, hp, k⟩ := h
  have nd := sc_row_names.nd
  refine ⟨_, pss_one (ps_ret (pe_lc (own := [("place", 1)]) (g := gName 1) (tt := tYes) (te := tTup (StX.tStar K (tVar 1) (tCons (rIx K (tCall (spSlotAt K) [] E0 (tCons (tVar 0) (tCons (tVar 1) tNil))) 1) tNil))) (by rfl) nd (pi_list (pe_cal cR hr (pa_cons (pv 0) pa_nil))) (blkOk_by (own := [("place", 1)]) (N := rnN) (sc := defScope s_row_names) (by decide +kernel))
    (fun _ _ _ _ _ => pg_name (i := 1) nd rfl (Or.inl rfl)) (fun _ _ _ _ _ => pts_nil) (fun _ _ _ _ _ => pe_tup (StX.pa_star (pv 1) (pa_cons (pe_ix ix_tup (pe_cal cS' hr (pa_cons (pv 0) (pa_cons (pv 1) pa_nil))) pe_int (fun _ _ => rfl)) pa_nil))))), ?_⟩
  refine ⟨_, rfl, v, sh, rfl, d1, hp, fun H2 r2 xs x2 n2 e2 d2 => ?_⟩
  have hl : xs.length = (rowPlaces sh).length := by rw [dpAll_len d2, List.length_map]
  have l96 : (rowPlaces sh).length ≤ 96 := placesOf_len hp
  refine ⟨r2, rfl, ⟨xs, SqL.of e2⟩, fun D hD => ?_⟩
  refine lc_list (K := K) (a := r2) (xs := xs) (fun i H' => XX T H2 H' ∧ ∃ ys, H' D = some (.lst ys) ∧ DpAll K H' ys (((namesOf sh).take i).map nmD)) ⟨XX.new hD, [], upd_same, .nil⟩ (fun i H' _ pv => pv.1.sqL (SqL.of e2)) (fun i v H' hi pv => ?_) (fun H' pv => ?_)
  · obtain ⟨xj, ys, e3, d3⟩ := pv
    have hil : i < (rowPlaces sh).length := by rw [← hl]; exact (List.getElem?_eq_some_iff.mp hi).1
    obtain ⟨d, ed, dd⟩ := dpAll_get (Dp.xxAll xj _ _ d2) hi
    rw [List.getElem?_map, List.getElem?_eq_getElem hil] at ed
    cases ed
    obtain ⟨c, rfl, hc⟩ := dp_pl dd
    obtain ⟨t, b, n, z, es⟩ := mem_rowPlaces.mp (List.getElem_mem hil)
    have ly : ys.length ≤ 96 := by rw [dpAll_len d3, List.length_map, List.length_take]; unfold namesOf; rw [List.length_map]; omega
    refine ⟨rfl, _, rfl, c, _, rfl, .inl hc, _, rfl, _, rfl, _, _, sh, (rowPlaces sh)[i], _, rfl, Dp.xx xj _ _ (Dp.xx x2 _ _ d1), dd, es, fun u du => ?_⟩
    obtain ⟨c2, x0, rfl, hc2, _⟩ := dp_held du
    refine ⟨c2, _, 1, _, rfl, rfl, hc2, atI_nat (j := 1) rfl, (by show 3 ≤ sizeLine; decide), fun t3 h3 => ?_⟩
    have x3 := XX.new (T := T) (o := .tup [.int ((rowPlaces sh)[i].1 : Nat), .int ((rowPlaces sh)[i].2 : Nat), .int (t : Nat)]) h3
    have e4 := x3.lst e3
    have m := XM.upd (T := T) (S := fun b => b = D) (o' := .lst (ys ++ [.ref t3])) e4 rfl True.intro
    refine ⟨ys, e4, Nat.lt_of_le_of_lt (show ys.length ≤ 1000 by omega) (by decide), (xj.trans x3).atD hD e4, ys ++ [.ref t3], upd_same, ?_⟩
    have et : (namesOf sh).take (i + 1) = (namesOf sh).take i ++ [((rowPlaces sh)[i], t)] := by
      have e5 : (namesOf sh)[i]? = some ((rowPlaces sh)[i], t) := by
        unfold namesOf
        rw [List.getElem?_map, List.getElem?_eq_getElem hil]
        show some (_, turnAt sh _) = _
        unfold turnAt
        rw [es]; rfl
      rw [List.take_succ, e5] <;> rfl
    rw [et, List.map_append]
    exact dpAll_app (dpAll_xm m (nm_flat _) (Dp.xxAll x3 _ _ d3)) (.cons (.tup (m.sqT (SqT.of upd_same)) (.cons (.int _) (.cons (.int _) (.cons (.int _) .nil)))) .nil)
  · obtain ⟨xj, ys, e3, d3⟩ := pv
    rw [hl, List.take_of_length_le (by unfold namesOf; rw [List.length_map]; omega)] at d3
    exact k H' D ys (x2.trans xj) (x2.free hD) e3 d3
theorem sc_SNames : FnScope ["self"] ["self"] (defScope s_SNames) := ⟨rfl, rfl, rfl, by decide +kernel, rfl, by decide +kernel, by decide +kernel⟩
theorem ok_SNames {f : Addr} {fd : FuncData} (F : L2.Fun K "names" "Shelf.names" s_SNames f fd) (S : STx K CS) (mP : Met P w K mg base CX0 CS "_pages" ["self"] 5 (spSPages K T C CS)) (cRN : Cal P w K mg base CX0 "row_names" ["sheets"] 2 (spRowNames K T)) :
    FnOk P w K mg base CX0 6 f fd ["self"] (spSNames K T C CS) := by
  refine F.ok sc_SNames (fun vs H Q E h => by obtain ⟨q, qx, p, dx, l, sh, done, rfl, _⟩ := h; rfl) (fun cdv A outer s H vs Q E hr h => ?_)
  obtain ⟨q, qx, p, dx, l, sh, done, rfl, st, k⟩ := h
  refine ⟨_, pss_one (ps_ret (pe_cal cRN (hr.mono (by decide)) (pa_cons (pe_met0 mP S.cl hr pass0 (pv 0)) pa_nil))), ?_⟩
  refine ⟨_, rfl, q, qx, _, rfl, st.ins, rfl, q, qx, p, dx, l, sh, done, rfl, st, fun H1 r1 x1 n1 d1 => ?_⟩
  exact ⟨_, sh, rfl, d1, st.pages, fun H2 r2 xs x2 n2 e2 d2 => k H2 r2 xs (x1.trans x2) (x1.free n2) e2 d2⟩
end
end GX
/-! slotpages.shelf: get, parts, room -/
namespace GX
open PySem PySem.Spec PyProof.Rows L2 LamX
def spSGet (K : PySem.W.Frag) (T : List (Addr × Str)) (C CS cNR : Addr) : Sp := fun vs H Q E => ∃ q qx p dx l sh done u d, vs = [.ref q, u] ∧ ShAt K C CS H q qx p dx l sh done ∧ Dp K H u d ∧
  (placeOf sh d = none → ∀ H', XX T H H' → E (.ref cNR) none H') ∧
  ∀ pl, placeOf sh d = some pl → ∃ ps, Chain sh (some pl) ps ∧ ps.length ≤ 200 ∧ ∀ H' r, XX T H H' → H r = none → H' r = some (.lst ((valsOf sh ps).map fun (n : Nat) => V.int (n : Int))) → Q (.ref r) H'
def spSParts (K : PySem.W.Frag) (T : List (Addr × Str)) (C CS cNR : Addr) : Sp := fun vs H Q E => ∃ q qx p dx l sh done u d, vs = [.ref q, u] ∧ ShAt K C CS H q qx p dx l sh done ∧ Dp K H u d ∧
  (placeOf sh d = none → ∀ H', XX T H H' → E (.ref cNR) none H') ∧
  ∀ pl, placeOf sh d = some pl → ∃ ps, Chain sh (some pl) ps ∧ ps.length ≤ 200 ∧ ∀ H', XX T H H' → Q (.int (ps.length : Int)) H'
section
variable {P : Program} {w : World} {K : PySem.W.Frag} {mg : Str → Option Value} {base : Heap} {T : List (Addr × Str)} {C CS cN cS cNR : Addr}
theorem sc_SGet : FnScope ["self", "name", "sheets"] ["self", "name"] (defScope s_SGet) := ⟨rfl, rfl, rfl, by decide +kernel, rfl, by decide +kernel, by decide +kernel⟩
theorem ok_SGet {f : Addr} {fd : FuncData} (F : L2.Fun K "get" "Shelf.get" s_SGet f fd) (S : STx K CS) (mP : Met P w K mg base CX0 CS "_pages" ["self"] 5 (spSPages K T C CS)) (cV : Cal P w K mg base CX0 "values_from" ["sheets", "place"] 3 (spValuesF K T)) (cPl : Cal P w K mg base (L2.CX P w) "_place" ["sheets", "name"] 3 (spPlaceD K T cNR)) :
    FnOk P w K mg base (L2.CX P w) 6 f fd ["self", "name"] (spSGet K T C CS cNR) := by
  refine F.okX sc_SGet (fun vs H Q E h => by obtain ⟨q, qx, p, dx, l, sh, done, u, d, rfl, _⟩ := h; rfl) (fun cdv A outer s H vs Q E hr h => ?_)
  obtain ⟨q, qx, p, dx, l, sh, done, u, d, rfl, st, hu, kE, kQ⟩ := h
  have nd := sc_SGet.nd
  refine ⟨_, pss_cons (ps_set (i := 2) nd rfl (.inl rfl) (pe_met0 mP S.cl hr pass0 (pv 0)))
    (pss_one (ps_ret (pe_cal cV (hr.mono (by decide)) (pa_cons (pv 2) (pa_cons (pe_calX cPl (hr.mono (by decide)) (passX (tk := takes_of rfl rfl rfl rfl)) (pa_cons (pv 2) (pa_cons (pv 1) pa_nil))) pa_nil))))), ?_⟩
  refine ⟨_, rfl, q, qx, _, rfl, st.ins, rfl, q, qx, p, dx, l, sh, done, rfl, st, fun H1 r1 x1 n1 d1 => ?_⟩
  refine ⟨_, rfl, _, rfl, _, rfl, _, u, sh, d, rfl, d1, st.pages, Dp.xx x1 _ _ hu, fun h => kE h H1 x1, fun pl h H2 r2 x2 d2 => ?_⟩
  obtain ⟨ps, hc, hl, kq⟩ := kQ pl h
  exact ⟨_, _, sh, some pl, ps, rfl, Dp.xx x2 _ _ d1, st.pages, d2, hc, hl, fun H3 r3 x3 n3 e3 => kq H3 r3 ((x1.trans x2).trans x3) ((x1.trans x2).free n3) e3⟩
theorem sc_SParts : FnScope ["self", "name", "sheets"] ["self", "name"] (defScope s_SParts) := ⟨rfl, rfl, rfl, by decide +kernel, rfl, by decide +kernel, by decide +kernel⟩
theorem ok_SParts {f : Addr} {fd : FuncData} (F : L2.Fun K "parts" "Shelf.parts" s_SParts f fd) (S : STx K CS) (B : Blt mg) (mP : Met P w K mg base CX0 CS "_pages" ["self"] 5 (spSPages K T C CS)) (cF : Cal P w K mg base CX0 "places_from" ["sheets", "place"] 2 (spPlaces K T)) (cPl : Cal P w K mg base (L2.CX P w) "_place" ["sheets", "name"] 3 (spPlaceD K T cNR)) :
    FnOk P w K mg base (L2.CX P w) 6 f fd ["self", "name"] (spSParts K T C CS cNR) := by
  refine F.okX sc_SParts (fun vs H Q E h => by obtain ⟨q, qx, p, dx, l, sh, done, u, d, rfl, _⟩ := h; rfl) (fun cdv A outer s H vs Q E hr h => ?_)
  obtain ⟨q, qx, p, dx, l, sh, done, u, d, rfl, st, hu, kE, kQ⟩ := h
  have nd := sc_SParts.nd
  refine ⟨_, pss_cons (ps_set (i := 2) nd rfl (.inl rfl) (pe_met0 mP S.cl hr pass0 (pv 0)))
    (pss_one (ps_ret (pe_callB call_len_seq (by rfl) B.len PySem.boot_len (pa_cons (pe_cal cF (hr.mono (by decide)) (pa_cons (pv 2) (pa_cons (pe_calX cPl (hr.mono (by decide)) (passX (tk := takes_of rfl rfl rfl rfl)) (pa_cons (pv 2) (pa_cons (pv 1) pa_nil))) pa_nil))) pa_nil)))), ?_⟩
  refine ⟨_, rfl, q, qx, _, rfl, st.ins, rfl, q, qx, p, dx, l, sh, done, rfl, st, fun H1 r1 x1 n1 d1 => ?_⟩
  refine ⟨_, rfl, _, rfl, _, rfl, _, u, sh, d, rfl, d1, st.pages, Dp.xx x1 _ _ hu, fun h => kE h H1 x1, fun pl h H2 r2 x2 d2 => ?_⟩
  obtain ⟨ps, hc, hl, kq⟩ := kQ pl h
  refine ⟨_, _, sh, some pl, ps, rfl, Dp.xx x2 _ _ d1, d2, hc, hl, fun H3 r3 xs x3 n3 e3 d3 => ⟨r3, xs, rfl, .inl (SqL.of e3), ?_⟩⟩
  rw [dpAll_len d3, List.length_map]
  exact kq H3 ((x1.trans x2).trans x3)
end
end GX
/-! slotpages.shelf: room -/
namespace GX
open PySem PySem.Spec PyProof.Rows L2 LamX
section
variable {K : PySem.W.Frag} {T : List (Addr × Str)} {H : Hp} {σ : L2.St} {cap : List Nat} {te : TE} {Z : (Nat → Int) → Nat → Hp → Prop}
/-- what is asked of a sum over a list -/
theorem sum_L {a : Addr} {xs : List V} {f : List Nat} (hS : SqL K H a xs) (hl : xs.length = f.length) (hs : f.length ≤ 1000) (hb : ∀ z ∈ f, z ≤ 1000)
    (hel : ∀ (i : Nat) (v : V) (z : Nat) (H' : Hp) (W : VK), xs[i]? = some v → f[i]? = some z → XX T H H' → (∀ H2, XX T H' H2 → W (.int z) H2) → te ((gSt σ cap).set 0 (some v)) H' W) (k : ∀ (val : Nat → Int) H', preSum val xs.length = (f.sum : Nat) → XX T H H' → Z val xs.length H') :
    ∃ (N : Nat) (val : Nat → Int) (Pv : Nat → Hp → Prop), Pv 0 H ∧ (∀ j, j < N → InLong (val j) ∧ InLong (preSum val (j + 1))) ∧ Turns (Itl K a) N (gSt σ cap) te Pv (fun i y H => y = .int (val i) ∧ Pv (i + 1) H) (Z val) := by
  have pre : ∀ i, i ≤ f.length → preSum (fun i => ((f[i]?).getD 0 : Nat)) i = ((f.take i).sum : Nat) := by
    intro i
    induction i with
    | zero => intro _; simp [preSum]
    | succ i ih =>
      intro hi
      show preSum _ i + _ = _
      rw [ih (by omega), take_sum f i (by omega)]
      dsimp only
      rw [List.getElem?_eq_getElem (show i < f.length by omega)]
      simp
  have bnd : ∀ l : List Nat, (∀ z ∈ l, z ≤ 1000) → l.sum ≤ 1000 * l.length := by
    intro l
    induction l with
    | nil => intro _; simp
    | cons z l ih =>
      intro h
      have h1 := h z List.mem_cons_self
      have h2 := ih fun y hy => h y (List.mem_cons_of_mem _ hy)
      simp only [List.sum_cons, List.length_cons]
      omega
  refine ⟨xs.length, fun i => ((f[i]?).getD 0 : Nat), fun i H' => XX T H H' ∧ i ≤ xs.length, ⟨XX.refl H, Nat.zero_le _⟩, fun j hj => ?_, fun i H' p => ?_⟩
  · have hj' : j < f.length := by omega
    have e1 : ((f[j]?).getD 0) ≤ 1000 := by rw [List.getElem?_eq_getElem hj']; exact hb _ (List.getElem_mem hj')
    have e2 := bnd (f.take (j + 1)) fun z hz => hb z (List.mem_of_mem_take hz)
    rw [List.length_take] at e2
    refine ⟨⟨by dsimp only; omega, by dsimp only; omega⟩, ?_⟩
    rw [pre (j + 1) (by omega)]
    exact ⟨by omega, by omega⟩
  · obtain ⟨x1, x2⟩ := p
    by_cases hi : i < xs.length
    · have ev : xs[i]? = some xs[i] := List.getElem?_eq_getElem hi
      refine .inr ⟨⟨xs, _, x1.sqL hS, ev⟩, hi, fun v' H'' y => ?_⟩
      obtain ⟨e1, e2⟩ := y
      rw [e1]
      have e5 : xs[i] = v' := Option.some.inj (ev.symm.trans (e2 xs (x1.sqL hS)))
      have hf : f[i]? = some (f[i]'(by omega)) := List.getElem?_eq_getElem (by omega)
      refine hel i v' _ H' _ (by rw [ev, e5]) hf x1 fun H2 x4 => ⟨?_, x1.trans x4, hi⟩
      dsimp only
      rw [hf]; rfl
    · have ei : i = xs.length := by omega
      refine .inl ⟨⟨xs, x1.sqL hS, by omega⟩, ?_⟩
      rw [ei]
      exact k _ H' (by rw [pre xs.length (by omega), List.take_of_length_le (by omega)]) x1
end
def freeOf (sh : List Page) (i : Nat) : Nat := (sh[i]?.map fun p => 24 - p.used).getD 0
def roomCells (sh : List Page) : Nat := ((usableP sh none).map (freeOf sh)).sum
def roomSlots (sh : List Page) : Nat := (sh.map fun p => p.usable.length).sum
def spSRoom (K : PySem.W.Frag) (T : List (Addr × Str)) (C CS PR PF : Addr) : Sp := fun vs H Q _ => ∃ q qx p dx l sh done, vs = [.ref q] ∧ ShAt K C CS H q qx p dx l sh done ∧ (∀ pg ∈ sh, pg.used ≤ 24) ∧ GxR.TabG H PR ∧ GxR.TabG H PF ∧ Tabs T H ∧
  ∀ H' t, XX T H H' → H t = none → H' t = some (.tup [.int (roomCells sh : Nat), .int (roomSlots sh : Nat)]) → Q (.ref t) H'
theorem usableP_lt {sh : List Page} {but : Option Nat} {i : Nat} (h : i ∈ usableP sh but) : i < sh.length := by
  have := (sortK_perm (g := keyN sh) (usableN sh but)).mem_iff.mp h
  exact List.mem_range.mp (List.mem_filter.mp this).1
theorem usableP_len {sh : List Page} {but : Option Nat} : (usableP sh but).length ≤ sh.length := by
  have e : (usableP sh but).length = (usableN sh but).length := (sortK_perm (g := keyN sh) (usableN sh but)).length_eq
  rw [e]
  refine Nat.le_trans (List.length_filter_le _ _) ?_
  rw [List.length_range]
  exact Nat.le_refl _
section
variable {P : Program} {w : World} {K : PySem.W.Frag} {mg : Str → Option Value} {base : Heap} {T : List (Addr × Str)} {C CS : Addr}
theorem sc_SRoom : FnScope ["self", "sheets", "cells"] ["self"] (defScope s_SRoom) := ⟨rfl, rfl, rfl, by decide +kernel, rfl, by decide +kernel, by decide +kernel⟩
theorem ok_SRoom {f c PR PF : Addr} {fd : FuncData} (F : FunC K "room" "Shelf.room" s_SRoom f fd c) (TB : LamX.TabB base mg c PR) (hT : ∀ p ∈ T, p.1 ≠ PR) (S : STx K CS) (B : Blt mg) (B2 : Blt2 mg) (mP : Met P w K mg base CX0 CS "_pages" ["self"] 5 (spSPages K T C CS))
    (cU : CalD P w K mg base "usable_pages" ["sheets", "but"] [.non] 7 (spUsableP K T PF)) (cF : Cal P w K mg base CX0 "free_cells" ["page"] 3 (spFreeC K T PF)) (cS : Cal P w K mg base CX0 "usable_slots" ["page"] 1 (spUsable K T)) :
    FnOk P w K mg base CX0 8 f fd ["self"] (spSRoom K T C CS PR PF) := by
  refine F.ok sc_SRoom (fun vs H Q E h => by obtain ⟨q, qx, p, dx, l, sh, done, rfl, _⟩ := h; rfl) (fun A outer s H vs Q E hr h => ?_)
  obtain ⟨q, qx, p, dx, l, sh, done, rfl, st, h24, hG, hG2, hTs, k⟩ := h
  have nd := sc_SRoom.nd
  refine ⟨_, pss_cons (ps_set (i := 1) nd rfl (.inr rfl) (pe_met0 mP S.cl (hr.mono (by decide)) pass0 (pv 0)))
    (pss_cons (ps_set (i := 2) nd rfl (.inl rfl) (pe_sumG (Ng := ["number", "sheets"]) (cap := [1]) (te := tCall (spFreeC K T PF) [] E0 (tCons (tOp (rIxL K) (tVar 1) (tVar 0)) tNil)) hr (by rfl) B2.sum TB (by rfl) (gs_by (N := ["self", "sheets", "cells"]) (sc := defScope s_SRoom) (by decide +kernel)) (pi_list (pe_calD cU hr (pa_cons (pv 1) pa_nil)))
      (fun code s H fp pn => pe_cal cF (room_gen (hr.mono (by decide))) (pa_cons (pe_ix ix_list (pv 1) (pv 0) (fun _ _ => rfl)) pa_nil))))
    (pss_one (ps_ret (pe_tup (pa_cons (pv 2) (pa_cons (pe_sumG (Ng := ["sheet"]) (cap := []) (te := tCB (fun xs H Q => ∃ p ys, xs = [.ref p] ∧ (SqL K H p ys ∨ SqT K H p ys) ∧ Q (.int (ys.length : Nat)) H) (tCons (tCall (spUsable K T) [] E0 (tCons (tVar 0) tNil)) tNil)) hr (by rfl) B2.sum TB (by rfl) (gs_by (N := ["self", "sheets", "cells"]) (sc := defScope s_SRoom) (by decide +kernel)) (pi_list (pv 1))
      (fun code s H fp pn => pe_callB call_len_seq (by rfl) B.len PySem.boot_len (pa_cons (pe_cal cS (room_gen (hr.mono (by decide))) (pa_cons (pv 0) pa_nil)) pa_nil))) pa_nil)))))), ?_⟩
  refine ⟨_, rfl, q, qx, _, rfl, st.ins, rfl, q, qx, p, dx, l, sh, done, rfl, st, fun H1 r1 x1 n1 d1 => ?_⟩
  refine ⟨_, rfl, _, sh, none, rfl, d1, st.pages, x1.tabG _ hG2, x1.tabs hTs, fun H2 r2 x2 n2 e2 => ?_⟩
  have x12 := x1.trans x2
  have hle := st.le
  have hu := usableP_len (sh := sh) (but := none)
  refine ⟨r2, rfl, ⟨_, SqL.of e2⟩, x12.tabG _ hG, fun H3 tb => ?_⟩
  have x3 := XX.tabbed hT (x12.tabG _ hG) tb
  refine sum_L (T := T) (f := (usableP sh none).map (freeOf sh)) (x3.sqL (SqL.of e2)) (by simp) (by simp; omega) (fun z hz => ?_) (fun i v z H' W ev ef x4 hW => ?_) (fun val H4 ev x4 => ?_)
  · obtain ⟨i, _, e⟩ := List.mem_map.mp hz
    rw [← e]
    unfold freeOf
    cases sh[i]? with
    | none => simp
    | some pg => simp; omega
  · rw [List.getElem?_map] at ev ef
    cases qi : (usableP sh none)[i]? with
    | none => rw [qi] at ev; cases ev
    | some n =>
      rw [qi] at ev ef
      cases ev
      cases ef
      have hn := usableP_lt (List.mem_of_getElem? qi)
      have e5 : sh[n]? = some sh[n] := List.getElem?_eq_getElem hn
      have xx := (x2.trans x3).trans x4
      obtain ⟨a, xs, er, hs, ha, hlx⟩ := dp_sh (Dp.xx xx _ _ d1)
      cases er
      obtain ⟨u, eu, du⟩ := sh_at ha e5
      have mem := List.getElem_mem hn
      refine ⟨_, rfl, _, rfl, r1, _, _, u, rfl, rfl, hs, atI_nat eu, u, sh[n], rfl, du, (st.ok _ mem).ns, fun s hs => Nat.le_trans ((st.ok _ mem).sl s hs).size (by decide), x4.tabG _ (x3.tabG _ (x12.tabG _ hG2)), fun H' x5 => ?_⟩
      have e6 : (sh[n]).freeI = ((freeOf sh n : Nat) : Int) := by
        unfold freeOf Page.freeI
        rw [e5]
        have := h24 _ mem
        show 24 - ((sh[n]).used : Int) = ((24 - (sh[n]).used : Nat) : Int)
        omega
      rw [e6]
      exact hW H' x5
  · have x14 := (x12.trans x3).trans x4
    have d4 := Dp.xx ((x2.trans x3).trans x4) _ _ d1
    obtain ⟨a, xs, er, hs, ha, hlx⟩ := dp_sh d4
    cases er
    refine ⟨_, rfl, _, rfl, r1, rfl, ⟨_, hs⟩, x14.tabG _ hG, fun H5 tb5 => ?_⟩
    have x5 := XX.tabbed hT (x14.tabG _ hG) tb5
    refine sum_L (T := T) (f := sh.map fun p => p.usable.length) (x5.sqL hs) (by simp [hlx]) (by simp; omega) (fun z hz => ?_) (fun i v z H' W ev2 ef x6 hW => ?_) (fun val2 H6 ev2 x6 => ?_)
    · obtain ⟨pg, hp, e⟩ := List.mem_map.mp hz
      have := usable_len pg (st.ok _ hp).ns
      omega
    · rw [List.getElem?_map] at ef
      cases qi : sh[i]? with
      | none => rw [qi] at ef; cases ef
      | some pg =>
        rw [qi] at ef
        cases ef
        obtain ⟨u, eu, du⟩ := sh_at (Dp.xxAll (x5.trans x6) _ _ ha) qi
        rw [ev2] at eu
        cases eu
        refine ⟨v, rfl, v, pg, rfl, du, (st.ok _ (List.mem_of_getElem? qi)).ns, fun H' r x7 n7 e7 => ⟨r, _, rfl, .inl (SqL.of e7), ?_⟩⟩
        rw [List.length_map]
        exact hW H' x7
    · refine ⟨(by show 2 ≤ sizeLine; decide), fun t ht => ?_⟩
      rw [ev, ev2]
      have x := (x14.trans x5).trans x6
      exact k _ t (x.then_new ht) (x.free ht) upd_same
end
end GX
/-! slotpages.shelf: writes; _free -/
namespace GX
open PySem PySem.Spec PyProof.Rows L2 LamX
def setAt (sh : List Page) (p : Pl) (s : Slot) : List Page := match sh[p.1]? with
  | some pg => sh.set p.1 (pg.setSlot p.2 s)
  | none => sh
def freeAll (sh : List Page) (l : List Pl) : List Page := l.foldl (fun sh p => setAt sh p (.free (turnAt sh p))) sh
theorem setAt_len (sh : List Page) (p : Pl) (s : Slot) : (setAt sh p s).length = sh.length := by
  unfold setAt
  split
  · exact List.length_set ..
  · rfl
section
variable {K : PySem.W.Frag} {T : List (Addr × Str)} {P1 P2 C CS cN cP cS : Addr} {H H' : Hp} {q qx p dx l : Addr} {sh : List Page} {done : Int} {Q : VK}
theorem ShAt.nqp (s : ShAt K C CS H q qx p dx l sh done) : q ≠ p := fun e => by
  have h1 := s.ins
  rw [e, s.dk.ins] at h1
  cases h1
theorem ShAt.nql (s : ShAt K C CS H q qx p dx l sh done) : q ≠ l := fun e => by
  have h1 := s.ins
  obtain ⟨xs, h2, _⟩ := s.dk.lst
  rw [e, h2] at h1
  cases h1
theorem XM.sqL {S : Addr → Prop} {H1 : Hp} (a : XM T S H H1) {b : Addr} {xs : List V} (h : SqL K H b xs) (n : ¬ S b) : SqL K H1 b xs := by
  rcases h with (h | ⟨o, h⟩) | h
  · exact .inl (.inl (a.lst h n))
  · exact .inl (.inr ⟨o, a.frz _ _ _ h⟩)
  · exact .inr h
theorem ShAt.xm {S : Addr → Prop} (s : ShAt K C CS H q qx p dx l sh done) (x : XM T S H H') (h1 : ¬ S q) (h2 : ¬ S p) (h3 : ¬ S l) : ShAt K C CS H' q qx p dx l sh done := ⟨x.ins s.ins h1, s.dk.xm x h2 h3, s.ok, s.le⟩
theorem shD_set (sh : List Page) (i : Nat) (pg : Page) : (shD sh).set i pg.d = shD (sh.set i pg) := by
  unfold shD
  rw [List.map_set]
theorem page_sh {i : Nat} {pg : Page} (s : ShAt K C CS H q qx p dx l sh done) (e : sh[i]? = some pg) (k : ∀ u, Dp K H u pg.d → Q u H) : spDPage K C cN cS [.ref p, .int (i : Nat)] H Q E0 := by
  have hi : i < sh.length := (List.getElem?_eq_some_iff.mp e).1
  have hl := s.len
  refine ⟨p, dx, l, shD sh, done, none, false, .int (i : Nat), .int (i : Nat), rfl, s.dk, .int _, fun h => (by cases h), fun _ hq => ?_, fun j e2 u _ hj he du => ?_⟩
  · rw [isNum_nat (by omega) (by omega)] at hq; cases hq
  · have hij : (i : Int) = (j : Int) := by injection hj
    obtain rfl : i = j := by omega
    unfold shD at he
    rw [List.getElem?_map, e] at he
    cases he
    exact k u du
theorem write_sh {i : Nat} {pg : Page} {u : V} (s : ShAt K C CS H q qx p dx l sh done) (hi : i < sh.length) (hp : pg.Ok) (du : Dp K H u pg.d) (g1 : GxR.TabG H P1) (g2 : GxR.TabG H P2)
    (k : ∀ H', XM T (fun b => b = p ∨ b = l) H H' → ShAt K C CS H' q qx p dx l (sh.set i pg) (done + 1) → Q .non H') : spDWrite K T P1 P2 C cN cP cS [.ref p, .int (i : Nat), u] H Q E0 := by
  have hl := s.len
  have hn : isNum (.int (i : Int)) 0 (((shD sh).length : Int) - 1) = true := isNum_nat (by omega) (by omega)
  refine ⟨p, dx, l, shD sh, done, none, false, .int (i : Nat), .int (i : Nat), u, pg.d, rfl, s.dk, .int _, du, page_flat pg, page_shaped pg, g1, g2, fun h => (by cases h), fun _ h => (by rw [hn] at h; cases h), fun _ _ h => (by rw [page_ok hp] at h; cases h), fun _ _ _ h => (by cases h), fun j _ hj hjl _ _ H' x dk => ?_⟩
  have hij : (i : Int) = (j : Int) := by injection hj
  obtain rfl : i = j := by omega
  rw [shD_set] at dk
  refine k H' x ⟨x.ins s.ins (fun z => z.elim s.nqp s.nql), dk, fun pg' hm => ?_, by rw [List.length_set]; exact s.le⟩
  rcases mem_set hm with z | z
  · rw [z]; exact hp
  · exact s.ok _ z
theorem slot_get {pl : Pl} {s : Slot} {sh : List Page} (e : slotAt sh pl = some s) : ∃ pg, sh[pl.1]? = some pg ∧ pg.slots[pl.2]? = some s ∧ turnAt sh pl = s.turn ∧ ∀ z, setAt sh pl z = sh.set pl.1 (pg.setSlot pl.2 z) := by
  obtain ⟨pg, e1, e2⟩ := slotAt_some e
  refine ⟨pg, e1, e2, ?_, fun z => ?_⟩
  · unfold turnAt; rw [e]; rfl
  · unfold setAt; rw [e1]
theorem slotAt_in {sh : List Page} {pl : Pl} (h : ∀ pg ∈ sh, pg.slots.length = 8) (h1 : pl.1 < sh.length) (h2 : pl.2 < 8) : ∃ s, slotAt sh pl = some s := by
  have e1 : sh[pl.1]? = some sh[pl.1] := List.getElem?_eq_getElem h1
  have h8 := h _ (List.getElem_mem h1)
  refine ⟨(sh[pl.1]).slots[pl.2]'(by omega), ?_⟩
  unfold slotAt
  rw [e1]
  exact List.getElem?_eq_getElem _
theorem Slot.Ok.turn {s : Slot} (h : s.Ok) : s.turn ≤ 100 := by
  cases s with
  | free t => exact h
  | held o t b s n => have := h.1; show t ≤ 100; omega
end
def spSFree (K : PySem.W.Frag) (T : List (Addr × Str)) (C CS P1 P2 : Addr) : Sp := fun vs H Q _ => ∃ q qx p dx l sh done a xs pls, vs = [.ref q, .ref a] ∧ ShAt K C CS H q qx p dx l sh done ∧ SqL K H a xs ∧ DpAll K H xs (pls.map plD) ∧ a ≠ p ∧ a ≠ l ∧ GxR.TabG H P1 ∧ GxR.TabG H P2 ∧
  (∀ pl ∈ pls, pl.1 < sh.length ∧ pl.2 < 8) ∧ ∀ H', XM T (fun b => b = p ∨ b = l) H H' → ShAt K C CS H' q qx p dx l (freeAll sh pls) (done + pls.length) → Q .non H'
theorem freeAll_len : ∀ (l : List Pl) (sh : List Page), (freeAll sh l).length = sh.length
  | [], _ => rfl
  | p :: l, sh => by
    show (freeAll (setAt sh p _) l).length = _
    rw [freeAll_len l, setAt_len]
section
variable {P : Program} {w : World} {K : PySem.W.Frag} {mg : Str → Option Value} {base : Heap} {T : List (Addr × Str)} {C CS P1 P2 cN cP cS : Addr}
abbrev sfN : List Str := ["self", "places", "number", "at"]
theorem sc_SFree : FnScope sfN ["self", "places"] (defScope s_SFree) := ⟨rfl, rfl, rfl, by decide +kernel, rfl, by decide +kernel, by decide +kernel⟩
theorem ok_SFree {f : Addr} {fd : FuncData} (F : L2.Fun K "_free" "Shelf._free" s_SFree f fd) (S : STx K CS) (cD : Cls K C) (mPage : Met P w K mg base (L2.CX P w) C "page" ["self", "number"] 3 (spDPage K C cN cS)) (mWrite : Met P w K mg base (L2.CX P w) C "write" ["self", "number", "page"] 7 (spDWrite K T P1 P2 C cN cP cS))
    (cW : Cal P w K mg base CX0 "with_part_free" ["page", "at"] 2 (spWithPF K T)) : FnOk P w K mg base CX0 8 f fd ["self", "places"] (spSFree K T C CS P1 P2) := by
  refine F.ok sc_SFree (fun vs H Q E h => by obtain ⟨q, qx, p, dx, l, sh, done, a, xs, pls, rfl, _⟩ := h; rfl) (fun cdv A outer s H vs Q E hr h => ?_)
  obtain ⟨q, qx, p, dx, l, sh, done, a, xs, pls, rfl, st, hS, hda, nap, nal, g1, g2', hpl, k⟩ := h
  have nd := sc_SFree.nd
  refine ⟨_, pss_one (ps_for PassesOwn.never rfl (pi_list (pv 1)) (pg_tup (by rfl) (pgs_cons (pg_name (i := 2) nd rfl (.inl rfl)) (pgs_cons (pg_name (i := 3) nd rfl (.inl rfl)) pgs_nil)))
    (pss_one (ps_expr (pe_met mWrite cD hr passL (pe_fld (pv 0) rfl) (pa_cons (pv 2) (pa_cons (pe_cal cW (hr.mono (by decide)) (pa_cons (pe_met mPage cD (hr.mono (by decide)) passL (pe_fld (pv 0) rfl) (pa_cons (pv 2) pa_nil)) (pa_cons (pv 3) pa_nil))) pa_nil)))))), ?_⟩
  have hlx : xs.length = pls.length := by rw [dpAll_len hda, List.length_map]
  refine ⟨_, rfl, a, rfl, ⟨xs, hS⟩, for_list (xs := xs) (fun i σ' H' => ∃ u2 u3, σ' = [some (.ref q), some (.ref a), u2, u3] ∧ XM T (fun b => b = p ∨ b = l) H H' ∧ ShAt K C CS H' q qx p dx l (freeAll sh (pls.take i)) (done + i))
    ⟨_, _, rfl, XM.refl _, by simpa [freeAll] using st⟩ (fun i σ' H' _ ⟨_, _, _, x, _⟩ => x.sqL hS fun z => z.elim nap nal) ?_ ?_⟩
  · rintro i v σ' H' hi ⟨u2, u3, rfl, x1, st1⟩
    have hil : i < pls.length := by rw [← hlx]; exact (List.getElem?_eq_some_iff.mp hi).1
    obtain ⟨d, ed, dd⟩ := dpAll_get (dpAll_xm x1 (pl_flat pls) hda) hi
    rw [List.getElem?_map, List.getElem?_eq_getElem hil] at ed
    cases ed
    obtain ⟨c, rfl, hc⟩ := dp_pl dd
    obtain ⟨h1, h2⟩ := hpl _ (List.getElem_mem hil)
    obtain ⟨sl, es⟩ := slotAt_in (sh := freeAll sh (pls.take i)) (pl := pls[i]) (fun pg hm => (st1.ok pg hm).ns) (by rw [freeAll_len]; exact h1) h2
    obtain ⟨pg, e1, e2, e3, e4⟩ := slot_get es
    have okp := st1.ok pg (List.mem_of_getElem? e1)
    have stp : freeAll sh (pls.take (i + 1)) = (freeAll sh (pls.take i)).set (pls[i]).1 (pg.setSlot (pls[i]).2 (.free sl.turn)) := by
      rw [List.take_succ, List.getElem?_eq_getElem hil]
      show freeAll sh (pls.take i ++ [pls[i]]) = _
      unfold freeAll
      rw [List.foldl_append]
      show setAt (freeAll sh (pls.take i)) pls[i] (.free (turnAt (freeAll sh (pls.take i)) pls[i])) = _
      rw [e3, e4]; rfl
    refine ⟨c, _, rfl, hc, rfl, _, _, rfl, _, _, rfl, rfl, ?_⟩
    refine ⟨_, rfl, q, CS, qx, _, _, rfl, st1.ins, S.cl, S.n1, rfl, p, dx, _, rfl, st1.dk.ins, rfl, _, rfl, _, rfl, q, CS, qx, _, _, rfl, st1.ins, S.cl, S.n1, rfl, p, dx, _, rfl, st1.dk.ins, rfl, _, rfl, ?_⟩
    dsimp only [tNil, List.append_nil]
    refine page_sh st1 e1 fun u du => ?_
    refine ⟨_, rfl, u, pg, (pls[i]).2, sl, rfl, du, okp.ns, e2, fun H4 r x34 dr => ?_⟩
    dsimp only [tNil, List.append_nil]
    refine write_sh (st1.xx x34) (by rw [freeAll_len]; exact h1) (okp.setSlot (s := .free sl.turn) ((okp.sl sl (List.mem_of_getElem? e2)).turn)) dr (x34.tabG _ (x1.tabG _ g1)) (x34.tabG _ (x1.tabG _ g2')) fun H5 x5 st5 => ?_
    refine ⟨_, _, rfl, (x1.trans x34.xm).trans x5, ?_⟩
    rw [stp, show done + ((i + 1 : Nat) : Int) = done + (i : Int) + 1 by omega]
    exact st5
  · rintro σ' H' ⟨u2, u3, rfl, x1, st1⟩
    rw [hlx, List.take_length] at st1
    exact k H' x1 st1
end
end GX
/-! slotpages.shelf: drop -/
namespace GX
open PySem PySem.Spec PyProof.Rows L2 LamX
theorem placeOf_yes {sh : List Page} {d : PyData} {pl : Pl} (h : placeOf sh d = some pl) : ∃ n : Nat, d = .tuple [.int pl.1, .int pl.2, .int n] ∧ pl.1 < sh.length ∧ pl.2 ≤ 7 ∧ n ≤ 99 ∧ ∃ b s nx, slotAt sh pl = some (.held true n b s nx) := by
  unfold placeOf at h
  split at h
  · rename_i a b c
    split at h
    · rename_i hr
      obtain ⟨h1, h2, h3, h4, h5, h6⟩ := hr
      cases q : slotAt sh (a.toNat, b.toNat) with
      | none => rw [q] at h; cases h
      | some s =>
        rw [q] at h
        cases s with
        | free t => cases h
        | held o t bb n nx =>
          cases o with
          | false => cases h
          | true =>
            by_cases ht : (t : Int) = c
            · have h : (if (t : Int) = c then some (a.toNat, b.toNat) else none) = some pl := h
              rw [if_pos ht] at h
              cases h
              refine ⟨t, ?_, by omega, by omega, by omega, _, _, _, q⟩
              show PyData.tuple [.int a, .int b, .int c] = .tuple [.int ((a.toNat : Nat) : Int), .int ((b.toNat : Nat) : Int), .int (t : Int)]
              rw [Int.toNat_of_nonneg h1, Int.toNat_of_nonneg h3, ht]
            · have h : (if (t : Int) = c then some (a.toNat, b.toNat) else none) = some pl := h
              rw [if_neg ht] at h
              cases h
    · cases h
  · cases h
def spSDrop (K : PySem.W.Frag) (T : List (Addr × Str)) (C CS P1 P2 cNR : Addr) : Sp := fun vs H Q E => ∃ q qx p dx l sh done u d, vs = [.ref q, u] ∧ ShAt K C CS H q qx p dx l sh done ∧ Dp K H u d ∧ GxR.TabG H P1 ∧ GxR.TabG H P2 ∧
  (placeOf sh d = none → ∀ H', XX T H H' → E (.ref cNR) none H') ∧
  ∀ pl n, placeOf sh d = some pl → d = .tuple [.int pl.1, .int pl.2, .int (n : Nat)] → ∃ ps, Chain sh (some pl) (pl :: ps) ∧ ps.length ≤ 199 ∧ (∀ z ∈ ps, z.1 < sh.length ∧ z.2 < 8) ∧
    ∀ H', XM T (fun b => b = p ∨ b = l) H H' → ShAt K C CS H' q qx p dx l (freeAll (setAt sh pl (.free (n + 1))) ps) (done + 1 + ps.length) → Q .non H'
section
variable {P : Program} {w : World} {K : PySem.W.Frag} {mg : Str → Option Value} {base : Heap} {T : List (Addr × Str)} {C CS P1 P2 cN cP cS cNR : Addr}
abbrev sdN : List Str := ["self", "name", "sheets", "number", "at", "old"]
theorem sc_SDrop : FnScope sdN ["self", "name"] (defScope s_SDrop) := ⟨rfl, rfl, rfl, by decide +kernel, rfl, by decide +kernel, by decide +kernel⟩
theorem ok_SDrop {f : Addr} {fd : FuncData} (F : L2.Fun K "drop" "Shelf.drop" s_SDrop f fd) (S : STx K CS) (cD : Cls K C) (mP : Met P w K mg base CX0 CS "_pages" ["self"] 5 (spSPages K T C CS)) (mF : Met P w K mg base CX0 CS "_free" ["self", "places"] 8 (spSFree K T C CS P1 P2)) (mWrite : Met P w K mg base (L2.CX P w) C "write" ["self", "number", "page"] 7 (spDWrite K T P1 P2 C cN cP cS))
    (cW : Cal P w K mg base CX0 "with_slot" ["page", "at", "slot"] 1 (spWithSlot K T)) (cF : Cal P w K mg base CX0 "places_from" ["sheets", "place"] 2 (spPlaces K T)) (cPl : Cal P w K mg base (L2.CX P w) "_place" ["sheets", "name"] 3 (spPlaceD K T cNR)) :
    FnOk P w K mg base (L2.CX P w) 9 f fd ["self", "name"] (spSDrop K T C CS P1 P2 cNR) := by
  refine F.okX sc_SDrop (fun vs H Q E h => by obtain ⟨q, qx, p, dx, l, sh, done, u, d, rfl, _⟩ := h; rfl) (fun cdv A outer s H vs Q E hr h => ?_)
  obtain ⟨q, qx, p, dx, l, sh, done, u, d, rfl, st, hu, g1, g2', kE, kQ⟩ := h
  have nd := sc_SDrop.nd
  refine ⟨_, pss_cons (ps_set (i := 2) nd rfl (.inl rfl) (pe_met0 mP S.cl (hr.mono (by decide)) pass0 (pv 0)))
    (pss_cons (ps_asg (pe_calX cPl (hr.mono (by decide)) (passX (tk := takes_of rfl rfl rfl rfl)) (pa_cons (pv 2) (pa_cons (pv 1) pa_nil))) (pg_tup (by rfl) (pgs_cons (pg_name (i := 3) nd rfl (.inl rfl)) (pgs_cons (pg_name (i := 4) nd rfl (.inl rfl)) pgs_nil))))
    (pss_cons (ps_set (i := 5) nd rfl (.inl rfl) (pe_slice sl_list (pe_cal cF (hr.mono (by decide)) (pa_cons (pv 2) (pa_cons (pe_tup (pa_cons (pv 3) (pa_cons (pv 4) pa_nil))) pa_nil))) (po_some pe_int) po_none))
    (pss_cons (ps_expr (pe_met mWrite cD (hr.mono (by decide)) passL (pe_fld (pv 0) rfl) (pa_cons (pv 3) (pa_cons (pe_cal cW (hr.mono (by decide)) (pa_cons (pe_ix ix_list (pv 2) (pv 3) (fun _ _ => rfl)) (pa_cons (pv 4) (pa_cons (pe_tup (pa_cons pe_str (pa_cons (pe_op op_add (pe_ix ix_tup (pv 1) pe_int (fun _ _ => rfl)) pe_int) pa_nil))) pa_nil)))) pa_nil))))
    (pss_one (ps_expr (pe_met mF S.cl hr pass0 (pv 0) (pa_cons (pv 5) pa_nil))))))), ?_⟩
  refine ⟨_, rfl, q, qx, _, rfl, st.ins, rfl, q, qx, p, dx, l, sh, done, rfl, st, fun H1 r1 x1 n1 d1 => ?_⟩
  refine ⟨_, rfl, _, rfl, _, u, sh, d, rfl, d1, st.pages, Dp.xx x1 _ _ hu, fun h => kE h H1 x1, fun pl h H2 r2 x2 d2 => ?_⟩
  obtain ⟨n, ed, hl1, hl2, hn99, bb, ss, nx, esl⟩ := placeOf_yes h
  obtain ⟨ps, hch, hlen, hps, kq⟩ := kQ pl n h ed
  obtain ⟨c, rfl, hc⟩ := dp_pl d2
  have x12 := x1.trans x2
  refine ⟨c, _, rfl, hc, rfl, _, _, rfl, _, _, rfl, rfl, ?_⟩
  refine ⟨_, rfl, _, rfl, _, rfl, (by show 2 ≤ sizeLine; decide), fun t3 h3 => ?_⟩
  have x3 := XX.new (T := T) (o := .tup [.int (pl.1 : Nat), .int (pl.2 : Nat)]) h3
  refine ⟨_, _, sh, some pl, pl :: ps, rfl, Dp.xx (x2.trans x3) _ _ d1, .tup (SqT.of upd_same) (.cons (.int _) (.cons (.int _) .nil)), hch, (by simp; omega), fun H4 r4 xs4 x4 n4 e4 d4 => ?_⟩
  have x14 := (x12.trans x3).trans x4
  obtain ⟨v0, xs5, rfl, _, dps⟩ := dpAllC (ds := ps.map plD) d4
  have hlx : xs5.length = ps.length := by rw [dpAll_len dps, List.length_map]
  refine ⟨_, rfl, ?_⟩
  dsimp only [tNoPart]
  refine ⟨r4, v0 :: xs5, rfl, SqL.of e4, fun D hD => ?_⟩
  have ec : cutV (v0 :: xs5) (some 1) none = xs5 := cut_hi (v0 :: xs5) 1 (by simp)
  rw [ec]
  have x5 := XX.new (T := T) (o := .lst xs5) hD
  have x15 := x14.trans x5
  have st5 := st.xx x15
  obtain ⟨pg, e1, e2, e3, e4'⟩ := slot_get esl
  have okp := st.ok pg (List.mem_of_getElem? e1)
  obtain ⟨a, xs, er, hs, ha, _⟩ := dp_sh (Dp.xx (((x2.trans x3).trans x4).trans x5) _ _ d1)
  cases er
  obtain ⟨w1, ew1, dw1⟩ := sh_at ha e1
  subst ed
  obtain ⟨cn, ys, rfl, hcn, hya⟩ := dp_tup (Dp.xx x15 _ _ hu)
  obtain ⟨y0, r0, rfl, _, hy1⟩ := dpAllC hya
  obtain ⟨y1, r0, rfl, _, hy2⟩ := dpAllC hy1
  obtain ⟨y2, r0, rfl, hy, hy3⟩ := dpAllC hy2
  obtain rfl := dpAll0 hy3
  obtain rfl := dp_int hy
  refine ⟨_, rfl, q, CS, qx, _, _, rfl, st5.ins, S.cl, S.n1, rfl, p, dx, _, rfl, st5.dk.ins, rfl, _, rfl, _, rfl, _, rfl, r1, _, _, w1, rfl, rfl, hs, atI_nat ew1, _, rfl, _, rfl, cn, _, 2, _, rfl, rfl, hcn, atI_nat (j := 2) rfl, _, _, rfl, rfl, (by show 2 ≤ sizeLine; decide), fun t6 h6 => ?_⟩
  have x6 := XX.new (T := T) (o := .tup [.str "free", .int ((n : Int) + 1)]) h6
  refine ⟨w1, pg, pl.2, .ref t6, .free (n + 1), rfl, Dp.xx x6 _ _ dw1, okp.ns, by omega, .tup (SqT.of upd_same) (.cons (.str _) (.cons (.int _) .nil)), fun H7 r7 x7 dr => ?_⟩
  have x17 := (x15.trans x6).trans x7
  dsimp only [tNil, List.append_nil]
  refine write_sh (st.xx x17) hl1 (okp.setSlot (s := .free (n + 1)) (show n + 1 ≤ 100 by omega)) dr (x17.tabG _ g1) (x17.tabG _ g2') fun H8 x8 st8 => ?_
  have e8 : H7 D = some (.lst xs5) := (x6.trans x7).lst upd_same
  have nDp : D ≠ p := fun z => by have := st.dk.ins; rw [← z, x14.free hD] at this; cases this
  have nDl : D ≠ l := fun z => by obtain ⟨_, h, _⟩ := st.dk.lst; rw [← z, x14.free hD] at h; cases h
  have e9 := x8.lst e8 (fun z => z.elim nDp nDl)
  have x18 := x17.xm.trans x8
  refine ⟨_, rfl, q, qx, _, rfl, st8.ins, rfl, _, rfl, q, qx, p, dx, l, _, done + 1, D, xs5, ps, rfl, st8, SqL.of e9, dpAll_xm x8 (pl_flat ps) (Dp.xxAll ((x5.trans x6).trans x7) _ _ dps), nDp, nDl, x18.tabG _ g1, x18.tabG _ g2', fun z hz => ?_, fun H9 x9 st9 => ?_⟩
  · rw [List.length_set]; exact hps z hz
  · rw [← e4'] at st9
    exact kq H9 (x18.trans x9) st9
end
end GX
/-! shares and parts, plainly -/
namespace GX
open PySem PySem.Spec PyProof.Rows L2 LamX
def pageAt (sh : List Page) (i : Nat) : Page := (sh[i]?).getD ⟨[], []⟩
def spotAt (sh : List Page) (i : Nat) : Nat := (pageAt sh i).usable.headD 0
/-- the parts of these sizes laid on these pages, the last first: where the first lies, the pages, how many values are left -/
def lay (sh : List Page) (vals : List Nat) : List (Nat × Nat) → Option Pl × List Page × Nat
  | [] => (none, sh, vals.length)
  | (pg, sz) :: r =>
    let x := lay sh vals r
    (some (pg, spotAt sh pg), x.2.1.set pg ((pageAt sh pg).withValues (spotAt sh pg) false ((vals.drop (x.2.2 - sz)).take sz) x.1), x.2.2 - sz)
def settled (sh : List Page) (pl : Pl) (ps : List (Nat × Nat)) (vals : List Nat) : List Page :=
  let x := lay sh vals ps
  x.2.1.set pl.1 ((pageAt sh pl.1).withValues pl.2 true (vals.take x.2.2) x.1)
def roomOf (sh : List Page) (pl : Pl) : Nat := 24 - (pageAt sh pl.1).used + (((pageAt sh pl.1).slots[pl.2]?).map Slot.size).getD 0
def roomsOf (sh : List Page) (pl : Pl) (pgs : List Nat) : List Nat := roomOf sh pl :: pgs.map (freeOf sh)
/-- where values may be laid: a place, and pages behind it -/
structure MayLay (sh : List Page) (pl : Pl) (pgs : List Nat) : Prop where
  used : ∀ pg ∈ sh, pg.used ≤ 24
  p1 : pl.1 < sh.length
  p2 : pl.2 < 8
  turn : turnAt sh pl ≤ 99
  lt : ∀ i ∈ pgs, i < sh.length
  us : ∀ i ∈ pgs, (pageAt sh i).usable ≠ []
  nd : (pl.1 :: pgs).Nodup
  desc : (pgs.map (freeOf sh)).Pairwise (· ≥ ·)
  len : pgs.length ≤ 12

theorem sum_drop_le : ∀ (l : List Nat) (j : Nat), (l.drop j).sum ≤ l.sum
  | [], j => by simp
  | a :: l, 0 => Nat.le_refl _
  | a :: l, j + 1 => by
    have := sum_drop_le l j
    simp only [List.drop_succ_cons, List.sum_cons]
    omega
theorem shares_sum : ∀ (any : Bool) (left : Nat) (rs : List Nat), (sharesGo any left rs).1.sum + (sharesGo any left rs).2 = left
  | _, _, [] => by simp [sharesGo]
  | any, left, r :: rs => by
    unfold sharesGo
    split
    · simp
    · have := shares_sum true (left - min left r) rs
      simp only [List.sum_cons]
      omega
theorem shares_le : ∀ (any : Bool) (left : Nat) (rs : List Nat) (j z r : Nat), (sharesGo any left rs).1[j]? = some z → rs[j]? = some r → z ≤ r
  | _, _, [], _, _, _, h, _ => by simp [sharesGo] at h
  | any, left, r0 :: rs, j, z, r, h, h2 => by
    unfold sharesGo at h
    split at h
    · simp at h
    · cases j with
      | zero =>
        simp at h h2
        omega
      | succ j => exact shares_le true _ rs j z r (by simpa using h) (by simpa using h2)
theorem shares_zero : ∀ (any : Bool) (left : Nat) (rs : List Nat), (∀ r ∈ rs, r = 0) → (sharesGo any left rs).2 = left
  | _, _, [], _ => rfl
  | any, left, r :: rs, h => by
    unfold sharesGo
    split
    · rfl
    · have hr := h r List.mem_cons_self
      subst hr
      have := shares_zero true (left - min left 0) rs fun z hz => h z (List.mem_cons_of_mem _ hz)
      simp only [Nat.min_zero, Nat.sub_zero] at this ⊢
      exact this
theorem shares_pos : ∀ (left : Nat) (rs : List Nat), rs.Pairwise (· ≥ ·) → (sharesGo true left rs).2 = 0 → ∀ z ∈ (sharesGo true left rs).1, 1 ≤ z
  | _, [], _, _, z, hz => by simp [sharesGo] at hz
  | left, r :: rs, hp, h, z, hz => by
    have hp' := List.pairwise_cons.mp hp
    unfold sharesGo at h hz
    by_cases hl : left = 0
    · rw [if_pos ⟨rfl, hl⟩] at hz; simp at hz
    · rw [if_neg (fun q => hl q.2)] at h hz
      rcases List.mem_cons.mp hz with e | e
      · by_cases hr : r = 0
        · subst hr
          have := shares_zero true (left - min left 0) rs fun y hy => by have := hp'.1 y hy; omega
          simp only [Nat.min_zero, Nat.sub_zero] at this h
          omega
        · omega
      · exact shares_pos _ rs hp'.2 h z e
theorem shares_cons (left r : Nat) (rs : List Nat) : sharesGo false left (r :: rs) = (min left r :: (sharesGo true (left - min left r) rs).1, (sharesGo true (left - min left r) rs).2) := by
  show (if _ then _ else _) = _
  rw [if_neg (by simp)]
theorem lay_len (sh : List Page) (vals : List Nat) : ∀ ps : List (Nat × Nat), (lay sh vals ps).2.1.length = sh.length
  | [] => rfl
  | (pg, sz) :: r => by
    show ((lay sh vals r).2.1.set pg _).length = _
    rw [List.length_set, lay_len sh vals r]
theorem lay_end (sh : List Page) (vals : List Nat) : ∀ ps : List (Nat × Nat), (ps.map (·.2)).sum ≤ vals.length → (lay sh vals ps).2.2 + (ps.map (·.2)).sum = vals.length
  | [], _ => rfl
  | (pg, sz) :: r, h => by
    simp only [List.map_cons, List.sum_cons] at h
    have := lay_end sh vals r (by omega)
    show ((lay sh vals r).2.2 - sz) + _ = _
    simp only [List.map_cons, List.sum_cons]
    omega
theorem lay_other (sh : List Page) (vals : List Nat) {i : Nat} : ∀ ps : List (Nat × Nat), i ∉ ps.map (·.1) → (lay sh vals ps).2.1[i]? = sh[i]?
  | [], _ => rfl
  | (pg, sz) :: r, h => by
    show ((lay sh vals r).2.1.set pg _)[i]? = _
    rw [List.getElem?_set_ne (fun z => h (by simp [z])), lay_other sh vals r fun z => h (List.mem_cons_of_mem _ z)]
theorem mem_idxs {α : Type} {g : α → Bool} : ∀ {l : List α} {i x : Nat}, x ∈ idxs g l i → ∃ a, i ≤ x ∧ l[x - i]? = some a ∧ g a = true
  | [], _, _, h => by simp [idxs] at h
  | a :: l, i, x, h => by
    unfold idxs at h
    split at h
    · rename_i hg
      rcases List.mem_cons.mp h with e | e
      · exact ⟨a, by omega, by rw [e]; simp, hg⟩
      · obtain ⟨b, h1, h2, h3⟩ := mem_idxs e
        refine ⟨b, by omega, ?_, h3⟩
        rw [show x - i = (x - (i + 1)) + 1 by omega]
        simpa using h2
    · obtain ⟨b, h1, h2, h3⟩ := mem_idxs h
      refine ⟨b, by omega, ?_, h3⟩
      rw [show x - i = (x - (i + 1)) + 1 by omega]
      simpa using h2
theorem usable_spot {p : Page} (h : p.usable ≠ []) : ∃ t r, p.usable = p.usable.headD 0 :: r ∧ p.slots[p.usable.headD 0]? = some (.free t) ∧ t < 100 := by
  cases q : p.usable with
  | nil => exact absurd q h
  | cons x r =>
    have hx : x ∈ idxs Slot.usable p.slots 0 := by
      have : x ∈ p.usable := by rw [q]; exact List.mem_cons_self
      exact this
    obtain ⟨s, _, h2, h3⟩ := mem_idxs hx
    cases s with
    | free t => exact ⟨t, r, rfl, by simpa using h2, by simpa [Slot.usable] using h3⟩
    | held o t b n z => simp [Slot.usable] at h3
theorem pageAt_some {sh : List Page} {i : Nat} (h : i < sh.length) : sh[i]? = some (pageAt sh i) ∧ pageAt sh i ∈ sh := by
  have e : sh[i]? = some sh[i] := List.getElem?_eq_getElem h
  unfold pageAt
  rw [e]
  exact ⟨rfl, List.getElem_mem h⟩
theorem freeOf_page {sh : List Page} {i : Nat} (h : i < sh.length) : freeOf sh i = 24 - (pageAt sh i).used := by
  unfold freeOf
  rw [(pageAt_some h).1]; rfl
end GX
/-! slotpages.shelf: _settle -/
namespace GX
open PySem PySem.Spec PyProof.Rows L2 LamX
theorem for_itD {J : It} {n : Nat} {G : Hp → Prop} {Y : Nat → Hp → V → Hp → Prop} (w : Walk J n G Y) {g : TG} {tb : TS} {dn : L2.St → Hp → Prop} {rt0 : VK} {σ : L2.St} {H : Hp} (Pv : Nat → L2.St → Hp → Prop) (h0 : Pv 0 σ H) (hG : ∀ i σ H, i ≤ n → Pv i σ H → G H)
    (hs : ∀ i x σ H H', i < n → Pv i σ H → Y i H x H' → g x σ H' fun σ2 H2 => tb { nx := Pv (i + 1), rt := rt0, bk := dn, ct := Pv (i + 1) } σ2 H2) (hd : ∀ σ H, Pv n σ H → dn σ H) :
    ∃ W : Nat → Nat → L2.St → Hp → Prop, (∃ m, W 0 m σ H) ∧ ∀ i m σ H, W i m σ H →
      (J.stop i H ∧ dn σ H) ∨ (J.go i H ∧ ∃ N : L2.St → Hp → Prop, (∀ σ' H', N σ' H' → ∃ m', m' < m ∧ W (i + 1) m' σ' H') ∧ ∀ x H', J.yld i H x H' → g x σ H' fun σ2 H2 => tb { nx := N, rt := rt0, bk := dn, ct := N } σ2 H2) :=
  for_it (D := { nx := dn, rt := rt0, bk := dn, ct := dn }) w Pv h0 hG hs hd
def spSettle (K : PySem.W.Frag) (T : List (Addr × Str)) (C CS P1 P2 PF cFu : Addr) : Sp := fun vs H Q E => ∃ q qx p dx l sh done a xs t pl b pgs va vals, vs = [.ref q, .ref a, .ref t, .ref b, .ref va] ∧ ShAt K C CS H q qx p dx l sh done ∧
  SqL K H a xs ∧ DpAll K H xs (shD sh) ∧ a ≠ p ∧ a ≠ l ∧ Dp K H (.ref t) (plD pl) ∧ SqL K H b (pgs.map fun (n : Nat) => V.int (n : Int)) ∧ SqL K H va (vals.map fun (n : Nat) => V.int (n : Int)) ∧ va ≠ p ∧ va ≠ l ∧
  MayLay sh pl pgs ∧ (∀ c ∈ vals, c ≤ 99) ∧ vals.length ≤ 300 ∧ GxR.TabG H P1 ∧ GxR.TabG H P2 ∧ GxR.TabG H PF ∧
  ((sharesGo false vals.length (roomsOf sh pl pgs)).2 ≠ 0 → ∀ H', XX T H H' → E (.ref cFu) none H') ∧
  ((sharesGo false vals.length (roomsOf sh pl pgs)).2 = 0 → ∀ H', XM T (fun b => b = p ∨ b = l) H H' →
    ShAt K C CS H' q qx p dx l (settled sh pl (pgs.zip ((sharesGo false vals.length (roomsOf sh pl pgs)).1.drop 1)) vals) (done + (pgs.zip ((sharesGo false vals.length (roomsOf sh pl pgs)).1.drop 1)).length + 1) → Q .non H')
section
variable {P : Program} {w : World} {K : PySem.W.Frag} {mg : Str → Option Value} {base : Heap} {T : List (Addr × Str)} {C CS P1 P2 PF cN cP cS cFu : Addr}
abbrev ssN : List Str := ["self", "sheets", "place", "pages", "values", "number", "at", "rooms", "sizes", "after", "end", "page", "size", "spot"]
theorem sc_SSettle : FnScope ssN ["self", "sheets", "place", "pages", "values"] (defScope s_SSettle) := ⟨rfl, rfl, rfl, by decide +kernel, rfl, by decide +kernel, by decide +kernel⟩
theorem ok_SSettle {f : Addr} {fd : FuncData} (F : L2.Fun K "_settle" "Shelf._settle" s_SSettle f fd) (S : STx K CS) (cD : Cls K C) (B : Blt mg) (B2 : Blt2 mg) (mWrite : Met P w K mg base (L2.CX P w) C "write" ["self", "number", "page"] 7 (spDWrite K T P1 P2 C cN cP cS))
    (cRA : Cal P w K mg base CX0 "room_at" ["page", "at"] 4 (spRoomAt K T PF)) (cF : Cal P w K mg base CX0 "free_cells" ["page"] 3 (spFreeC K T PF)) (cSh : Cal P w K mg base (L2.CX P w) "shares" ["many", "rooms"] 1 (spShares K T cFu)) (cU : Cal P w K mg base CX0 "usable_slots" ["page"] 1 (spUsable K T))
    (cWV : Cal P w K mg base CX0 "with_values" ["page", "at", "word", "values", "after"] 2 (spWithValues K T)) : FnOk P w K mg base (L2.CX P w) 8 f fd ["self", "sheets", "place", "pages", "values"] (spSettle K T C CS P1 P2 PF cFu) := by
  refine F.okX sc_SSettle (fun vs H Q E h => by obtain ⟨q, qx, p, dx, l, sh, done, a, xs, t, pl, b, pgs, va, vals, rfl, _⟩ := h; rfl) (fun cdv A outer s H vs Q E hr h => ?_)
  obtain ⟨q, qx, p, dx, l, sh, done, a, xs, t, pl, b, pgs, va, vals, rfl, st, hS, ha, nap, nal, hpl, hb, hva, nvp, nvl, ml, hv99, hv300, g1, g2', gF, kE, kQ⟩ := h
  have nd := sc_SSettle.nd
  refine ⟨_, pss_cons (ps_asg (pv 2) (pg_tup (by rfl) (pgs_cons (pg_name (i := 5) nd rfl (.inl rfl)) (pgs_cons (pg_name (i := 6) nd rfl (.inl rfl)) pgs_nil))))
    (pss_cons (ps_set (i := 7) nd rfl (.inl rfl) (pe_op op_cat (pe_lst (pa_cons (pe_cal cRA (hr.mono (by decide)) (pa_cons (pe_ix ix_list (pv 1) (pv 5) (fun _ _ => rfl)) (pa_cons (pv 6) pa_nil))) pa_nil))
      (pe_lc (own := [("page", 11)]) (g := gName 11) (tt := tYes) (te := tCall (spFreeC K T PF) [] E0 (tCons (tOp (rIxL K) (tVar 1) (tVar 11)) tNil)) (by rfl) nd (pi_list (pv 3)) (blkOk_by (own := [("page", 11)]) (N := ssN) (sc := defScope s_SSettle) (by decide +kernel))
        (fun _ _ _ _ _ => pg_name (i := 11) nd rfl (Or.inl rfl)) (fun _ _ _ _ _ => pts_nil) (fun _ _ _ _ _ => pe_cal cF (hr.mono (by decide)) (pa_cons (pe_ix ix_list (pv 1) (pv 11) (fun _ _ => rfl)) pa_nil)))))
    (pss_cons (ps_set (i := 8) nd rfl (.inl rfl) (pe_calX cSh (hr.mono (by decide)) (passX (tk := takes_of rfl rfl rfl rfl)) (pa_cons (pe_callB call_len_seq (by rfl) B.len PySem.boot_len (pa_cons (pv 4) pa_nil)) (pa_cons (pv 7) pa_nil))))
    (pss_cons (ps_set (i := 9) nd rfl (.inl rfl) pe_non)
    (pss_cons (ps_set (i := 10) nd rfl (.inl rfl) (pe_callB call_len_seq (by rfl) B.len PySem.boot_len (pa_cons (pv 4) pa_nil)))
    (pss_cons (ps_for (passes_of rfl) rfl (pi_reversed (by rfl) B2.rev (pa_cons (pe_listZip (by rfl) (by rfl) B.list (by rfl) B2.zip (pa_cons (pv 3) (pa_cons (pe_slice sl_list (pv 8) (po_some pe_int) po_none) pa_nil))) pa_nil)) (pg_tup (by rfl) (pgs_cons (pg_name (i := 11) nd rfl (.inl rfl)) (pgs_cons (pg_name (i := 12) nd rfl (.inl rfl)) pgs_nil)))
      (pss_cons (ps_set (i := 13) nd rfl (.inl rfl) (pe_ix ix_list (pe_cal cU (hr.mono (by decide)) (pa_cons (pe_ix ix_list (pv 1) (pv 11) (fun _ _ => rfl)) pa_nil)) pe_int (fun _ _ => rfl)))
      (pss_cons (ps_expr (pe_met mWrite cD hr passL (pe_fld (pv 0) rfl) (pa_cons (pv 11) (pa_cons (pe_cal cWV (hr.mono (by decide)) (pa_cons (pe_ix ix_list (pv 1) (pv 11) (fun _ _ => rfl)) (pa_cons (pv 13) (pa_cons pe_str (pa_cons (pe_slice sl_list (pv 4) (po_some (pe_op op_sub (pv 10) (pv 12))) (po_some (pv 10))) (pa_cons (pv 9) pa_nil)))))) pa_nil))))
      (pss_cons (ps_set (i := 9) nd rfl (.inl rfl) (pe_tup (pa_cons (pv 11) (pa_cons (pv 13) pa_nil))))
      (pss_one (ps_aug (i := 10) nd rfl (.inl rfl) (pv 12) in_sub))))))
    (pss_one (ps_expr (pe_met mWrite cD hr passL (pe_fld (pv 0) rfl) (pa_cons (pv 5) (pa_cons (pe_cal cWV (hr.mono (by decide)) (pa_cons (pe_ix ix_list (pv 1) (pv 5) (fun _ _ => rfl)) (pa_cons (pv 6) (pa_cons pe_str (pa_cons (pe_slice sl_list (pv 4) po_none (po_some (pv 10))) (pa_cons (pv 9) pa_nil)))))) pa_nil)))))))))), ?_⟩
  obtain ⟨t', et, ht⟩ := dp_pl hpl
  cases et
  have hlx : xs.length = sh.length := by rw [dpAll_len ha]; exact st.len
  have hsz : ∀ pg ∈ sh, ∀ s ∈ pg.slots, s.size ≤ 1000 := fun pg hp s hs => Nat.le_trans ((st.ok pg hp).sl s hs).size (by decide)
  -- a page of the sheets, as it is read
  have rd : ∀ {H' : Hp} {i : Nat}, XM T (fun b => b = p ∨ b = l) H H' → i < sh.length → ∃ u, SqL K H' a xs ∧ atI xs (i : Int) = some u ∧ Dp K H' u (pageAt sh i).d := fun {H' i} x hi => by
    obtain ⟨u, eu, du⟩ := sh_at ha (pageAt_some hi).1
    exact ⟨u, x.sqL hS (fun z => z.elim nap nal), atI_nat eu, Dp.xm x _ _ (page_flat _) du⟩
  refine ⟨_, rfl, t, _, rfl, ht, rfl, _, _, rfl, _, _, rfl, rfl, ?_⟩
  -- the rooms
  obtain ⟨s0, es0⟩ := slotAt_in (sh := sh) (pl := pl) (fun pg hm => (st.ok pg hm).ns) ml.p1 ml.p2
  obtain ⟨pg0, q1, q2, q3, _⟩ := slot_get es0
  obtain rfl : pg0 = pageAt sh pl.1 := by
    have := (pageAt_some ml.p1).1
    rw [q1] at this
    exact Option.some.inj this
  have ok0 := st.ok _ (pageAt_some ml.p1).2
  obtain ⟨u0, sa0, eu0, du0⟩ := rd (XM.refl H) ml.p1
  refine ⟨_, rfl, _, rfl, a, xs, _, u0, rfl, rfl, sa0, eu0, _, rfl, u0, pageAt sh pl.1, pl.2, s0, rfl, du0, ok0.ns, hsz _ (pageAt_some ml.p1).2, q2, gF, fun H1 x1 => ?_⟩
  refine ⟨(by show 1 ≤ sizeLine; decide), fun L1 hL1 => ?_⟩
  have x2 := x1.then_new (o := .lst [.int ((pageAt sh pl.1).freeI + (s0.size : Nat))]) hL1
  have eroom : (pageAt sh pl.1).freeI + (s0.size : Nat) = ((roomOf sh pl : Nat) : Int) := by
    have := ml.used _ (pageAt_some ml.p1).2
    unfold roomOf Page.freeI
    rw [q2]
    show 24 - ((pageAt sh pl.1).used : Int) + (s0.size : Int) = ((24 - (pageAt sh pl.1).used + s0.size : Nat) : Int)
    omega
  rw [eroom] at x2 ⊢
  have hlp := ml.len
  refine ⟨_, rfl, b, rfl, ⟨_, x2.sqL hb⟩, fun D hD => ?_⟩
  have nDL : L1 ≠ D := fun z => by rw [← z, upd_same] at hD; cases hD
  refine lc_list (K := K) (a := b) (xs := pgs.map fun (n : Nat) => V.int (n : Int)) (fun i H' => XX T H H' ∧ H' L1 = some (.lst [.int ((roomOf sh pl : Nat) : Int)]) ∧ H' D = some (.lst (((pgs.take i).map (freeOf sh)).map fun (n : Nat) => V.int (n : Int)))) ⟨x2.then_new hD, by rw [upd_ne nDL]; exact upd_same, by rw [upd_same]; rfl⟩ (fun i H' _ pv => pv.1.sqL hb) (fun i v H' hi pv => ?_) (fun H3 pv => ?_)
  · obtain ⟨x3, e1, e2⟩ := pv
    rw [List.getElem?_map] at hi
    cases qi : pgs[i]? with
    | none => rw [qi] at hi; cases hi
    | some n =>
      rw [qi] at hi
      cases hi
      have hn := ml.lt n (List.mem_of_getElem? qi)
      obtain ⟨u, sa, eu, du⟩ := rd x3.xm hn
      have okn := st.ok _ (pageAt_some hn).2
      have hil := (List.getElem?_eq_some_iff.mp qi).1
      refine ⟨rfl, _, rfl, _, rfl, a, xs, _, u, rfl, rfl, sa, eu, u, pageAt sh n, rfl, du, okn.ns, hsz _ (pageAt_some hn).2, x3.tabG _ gF, fun H4 x4 => ⟨_, x4.lst e2, ?_, (x3.trans x4).atD (x2.free hD) (x4.lst e2), by rw [upd_ne nDL]; exact x4.lst e1, ?_⟩⟩
      · rw [List.length_map, List.length_map, List.length_take]
        exact Nat.lt_of_le_of_lt (Nat.min_le_left _ _) (Nat.lt_of_lt_of_le (show i < 100 by omega) (by decide))
      · have ef : (pageAt sh n).freeI = ((freeOf sh n : Nat) : Int) := by
          have := ml.used _ (pageAt_some hn).2
          rw [freeOf_page hn]
          unfold Page.freeI
          omega
        rw [upd_same, List.take_succ, qi, ef]
        simp
  · obtain ⟨x3, e1, e2⟩ := pv
    rw [List.length_map, List.take_length] at e2
    refine ⟨L1, D, _, _, rfl, rfl, e1, e2, ?_, fun R hR => ?_⟩
    · rw [List.length_map, List.length_map]
      exact Nat.le_trans (show 1 + pgs.length ≤ 100 by omega) (by decide)
    have x4 := x3.then_new (o := .lst ([.int ((roomOf sh pl : Nat) : Int)] ++ ((pgs.map (freeOf sh)).map fun (n : Nat) => V.int (n : Int)))) hR
    -- the shares
    refine ⟨_, rfl, va, _, rfl, .inl (x4.sqL hva), _, rfl, vals.length, roomsOf sh pl pgs, R, by rw [List.length_map]; rfl, SqL.of (by rw [upd_same]; rfl), ?_, fun h H5 x5 => kE h H5 (x4.trans x5), fun h0 H5 r5 x5 n5 e5 => ?_⟩
    · unfold roomsOf
      rw [List.length_cons, List.length_map]; omega
    have x05 := x4.trans x5
    refine ⟨_, rfl, va, _, rfl, .inl (x05.sqL hva), _, rfl, ?_⟩
    refine ⟨_, rfl, _, rfl, ?_⟩
    dsimp only [tNoPart]
    generalize hsh : sharesGo false vals.length (roomsOf sh pl pgs) = sg at h0 e5 kQ
    have hlen1 : 1 ≤ sg.1.length := by
      rw [← hsh]
      unfold roomsOf
      rw [shares_cons]
      simp
    refine ⟨r5, _, rfl, SqL.of e5, fun D2 hD2 => ?_⟩
    have ec : cutV (sg.1.map fun (n : Nat) => V.int (n : Int)) (some 1) none = (sg.1.drop 1).map fun (n : Nat) => V.int (n : Int) := by
      rw [List.map_drop]
      exact cut_hi _ 1 (by rw [List.length_map]; exact hlen1)
    rw [ec]
    have x6 := x05.then_new (o := .lst ((sg.1.drop 1).map fun (n : Nat) => V.int (n : Int))) hD2
    refine ⟨b, D2, _, _, rfl, x6.sqL hb, SqL.of upd_same, fun H7 r7 ts k7 n7 e7 p7 => ?_⟩
    have x7 : XX T H H7 := x6.trans (XX.of k7)
    generalize hPZ : pgs.zip (sg.1.drop 1) = PZ at kQ
    have ezip : ((pgs.map fun (n : Nat) => V.int (n : Int)).zip ((sg.1.drop 1).map fun (n : Nat) => V.int (n : Int))) = PZ.map fun z => (V.int (z.1 : Int), V.int (z.2 : Int)) := by
      rw [List.zip_map, hPZ]; rfl
    rw [ezip] at p7
    have lts : ts.length = PZ.length := by rw [Paired.length p7, List.length_map]
    have nr7p : r7 ≠ p := fun z => by have := st.dk.ins; rw [← z, x6.free n7] at this; cases this
    have nr7l : r7 ≠ l := fun z => by obtain ⟨_, h, _⟩ := st.dk.lst; rw [← z, x6.free n7] at h; cases h
    -- the parts, plainly
    have sums : sg.1.sum = vals.length := by
      have := shares_sum false vals.length (roomsOf sh pl pgs)
      rw [hsh, h0] at this
      omega
    have edrop : sg.1.drop 1 = (sharesGo true (vals.length - min vals.length (roomOf sh pl)) (pgs.map (freeOf sh))).1 := by
      rw [← hsh]
      unfold roomsOf
      rw [shares_cons]; rfl
    have psumE : min vals.length (roomOf sh pl) + (PZ.map (·.2)).sum = vals.length := by
      have hl : (sg.1.drop 1).length ≤ pgs.length := by
        rw [edrop]
        have := shares_len true (vals.length - min vals.length (roomOf sh pl)) (pgs.map (freeOf sh))
        rw [List.length_map] at this
        exact this
      have : PZ.map (·.2) = sg.1.drop 1 := by
        rw [← hPZ]
        exact List.map_snd_zip hl
      rw [this]
      have esg : sg.1 = min vals.length (roomOf sh pl) :: sg.1.drop 1 := by
        rw [edrop, ← hsh]
        unfold roomsOf
        rw [shares_cons]
      have := congrArg List.sum esg
      rw [sums, List.sum_cons] at this
      exact this.symm
    have psum : (PZ.map (·.2)).sum ≤ vals.length := by omega
    have pok : ∀ z ∈ PZ, z.1 ∈ pgs ∧ 1 ≤ z.2 ∧ z.2 ≤ freeOf sh z.1 := by
      intro z hz
      rw [← hPZ] at hz
      obtain ⟨j, hj⟩ := List.mem_iff_getElem?.mp hz
      obtain ⟨h1, h2⟩ := List.getElem?_zip_eq_some.mp hj
      rw [edrop] at h2
      have hr : (sharesGo true (vals.length - min vals.length (roomOf sh pl)) (pgs.map (freeOf sh))).2 = 0 := by
        rw [← hsh] at h0
        unfold roomsOf at h0
        rw [shares_cons] at h0
        exact h0
      exact ⟨List.mem_of_getElem? h1, shares_pos _ _ ml.desc hr _ (List.mem_of_getElem? h2), shares_le _ _ _ j _ _ h2 (by rw [List.getElem?_map, h1]; rfl)⟩
    have hn : (ts.map V.ref).length = PZ.length := by rw [List.length_map, lts]
    refine ⟨r7, ts.map V.ref, rfl, SqL.of e7, ?_⟩
    refine for_itD (J := Itv K r7 (ts.map V.ref).length) (walk_rev (K := K) (a := r7) (xs := ts.map V.ref)) (fun i σ' H' => ∃ u11 u12 u13 av, σ' = [some (.ref q), some (.ref a), some (.ref t), some (.ref b), some (.ref va), some (.int (pl.1 : Nat)), some (.int (pl.2 : Nat)), some (.ref R), some (.ref r5), some av, some (.int ((lay sh vals (PZ.drop (PZ.length - i))).2.2 : Nat)), u11, u12, u13] ∧
        XM T (fun b => b = p ∨ b = l) H H' ∧ ShAt K C CS H' q qx p dx l (lay sh vals (PZ.drop (PZ.length - i))).2.1 (done + i) ∧ Dp K H' av (nxD (lay sh vals (PZ.drop (PZ.length - i))).1) ∧ NxOk (lay sh vals (PZ.drop (PZ.length - i))).1 ∧ H' r7 = some (.lst (ts.map V.ref)) ∧
        Paired (fun (t : Addr) (q : V × V) => H' t = some (.tup [q.1, q.2])) ts (PZ.map fun z => (V.int (z.1 : Int), V.int (z.2 : Int))))
      ⟨none, none, none, .non, ?_, x7.xm, ?_, ?_, ?_, e7, p7⟩ (fun i σ' H' _ ⟨_, _, _, _, _, _, _, _, _, e, _⟩ => SqL.of e) ?_ ?_
    · rw [Nat.sub_zero, List.drop_length, List.length_map]; rfl
    · rw [Nat.sub_zero, List.drop_length]
      simpa [lay] using st.xx x7
    · rw [Nat.sub_zero, List.drop_length]; exact .non
    · rw [Nat.sub_zero, List.drop_length]; intro p hp; cases hp
    · rintro i x σ' H' H'' hi ⟨u11, u12, u13, av, rfl, x8, st8, dav, nxo, e8, p8⟩ ⟨rfl, ex⟩
      rw [hn] at hi ex
      have hj : PZ.length - 1 - i < PZ.length := by omega
      have ez : PZ[PZ.length - 1 - i]? = some (PZ[PZ.length - 1 - i]) := List.getElem?_eq_getElem hj
      have ed : PZ.drop (PZ.length - (i + 1)) = PZ[PZ.length - 1 - i] :: PZ.drop (PZ.length - i) := by
        rw [show PZ.length - (i + 1) = PZ.length - 1 - i by omega, List.drop_eq_getElem_cons hj, show PZ.length - 1 - i + 1 = PZ.length - i by omega]
      have hpz := pok _ (List.getElem_mem hj)
      rw [List.getElem?_map] at ex
      cases qt : ts[PZ.length - 1 - i]? with
      | none => rw [qt] at ex; cases ex
      | some tj =>
        rw [qt] at ex
        cases ex
        obtain ⟨y, ey, htj⟩ := LiI.paired_get p8 qt
        rw [List.getElem?_map, ez] at ey
        cases ey
        have psd : ((PZ.drop (PZ.length - (i + 1))).map (·.2)).sum ≤ vals.length := by
          rw [List.map_drop]
          exact Nat.le_trans (sum_drop_le _ _) psum
        have psr : ((PZ.drop (PZ.length - i)).map (·.2)).sum ≤ vals.length := by
          rw [List.map_drop]
          exact Nat.le_trans (sum_drop_le _ _) psum
        have hend := lay_end sh vals (PZ.drop (PZ.length - i)) psr
        have hlen := lay_len sh vals (PZ.drop (PZ.length - i))
        have el : lay sh vals (PZ.drop (PZ.length - (i + 1))) = (some ((PZ[PZ.length - 1 - i]).1, spotAt sh (PZ[PZ.length - 1 - i]).1), (lay sh vals (PZ.drop (PZ.length - i))).2.1.set (PZ[PZ.length - 1 - i]).1 ((pageAt sh (PZ[PZ.length - 1 - i]).1).withValues (spotAt sh (PZ[PZ.length - 1 - i]).1) false ((vals.drop ((lay sh vals (PZ.drop (PZ.length - i))).2.2 - (PZ[PZ.length - 1 - i]).2)).take (PZ[PZ.length - 1 - i]).2) (lay sh vals (PZ.drop (PZ.length - i))).1), (lay sh vals (PZ.drop (PZ.length - i))).2.2 - (PZ[PZ.length - 1 - i]).2) := by
          rw [ed]; rfl
        rw [ed, List.map_cons, List.sum_cons] at psd
        generalize PZ[PZ.length - 1 - i] = z at *
        obtain ⟨pg, sz⟩ := z
        generalize lay sh vals (PZ.drop (PZ.length - i)) = y at *
        obtain ⟨nx, sh1, e⟩ := y
        dsimp only at hend hlen el psd hpz htj st8 dav nxo ⊢
        obtain ⟨hpg, hs1, hsf⟩ := hpz
        have hlt := ml.lt pg hpg
        have okp := st.ok _ (pageAt_some hlt).2
        obtain ⟨tu, ru, eus, esp, htu⟩ := usable_spot (ml.us pg hpg)
        have esp : (pageAt sh pg).slots[spotAt sh pg]? = some (.free tu) := esp
        have hsp8 : spotAt sh pg < 8 := by rw [← okp.ns]; exact (List.getElem?_eq_some_iff.mp esp).1
        have hse : sz ≤ e := by omega
        have hve : e ≤ vals.length := by omega
        have lcut : ((vals.drop (e - sz)).take sz).length = sz := by
          rw [List.length_take, List.length_drop]; omega
        have fit : (pageAt sh pg).used + sz ≤ 24 := by
          have := ml.used _ (pageAt_some hlt).2
          rw [freeOf_page hlt] at hsf
          omega
        obtain ⟨u, sa, eu, du⟩ := rd x8 hlt
        refine ⟨tj, _, rfl, SqT.of htj, rfl, _, _, rfl, _, _, rfl, rfl, ?_⟩
        refine ⟨_, rfl, _, rfl, a, xs, _, u, rfl, rfl, sa, eu, u, pageAt sh pg, rfl, du, okp.ns, fun H9 r9 x9 n9 e9 => ?_⟩
        refine ⟨r9, _, 0, .int (spotAt sh pg : Nat), rfl, rfl, SqL.of e9, ?_, ?_⟩
        · rw [eus]; exact atI0
        have x89 := x8.trans x9.xm
        have st9 := st8.xx x9
        obtain ⟨u2, sa2, eu2, du2⟩ := rd x89 hlt
        refine ⟨_, rfl, q, CS, qx, _, _, rfl, st9.ins, S.cl, S.n1, rfl, p, dx, _, rfl, st9.dk.ins, rfl, _, rfl, _, rfl, _, rfl, a, xs, _, u2, rfl, rfl, sa2, eu2, _, rfl, _, rfl, _, rfl, _, rfl, _, _, rfl, rfl, _, rfl, _, rfl, _, rfl, va, _, rfl, x89.sqL hva (fun z => z.elim nvp nvl), fun D3 hD3 => ?_⟩
        have ecut : cutV (vals.map fun (n : Nat) => V.int (n : Int)) (some ((e : Int) - (sz : Int))) (some (e : Int)) = ((vals.drop (e - sz)).take sz).map fun (n : Nat) => V.int (n : Int) := by
          rw [show ((e : Int) - (sz : Int)) = ((e - sz : Nat) : Int) by omega, cut_mid _ (e - sz) e (by rw [List.length_map]; omega) (by rw [List.length_map]; omega), show e - (e - sz) = sz by omega]
          exact (map_cut vals (e - sz) sz).symm
        rw [ecut]
        have x10 := XX.new (T := T) (o := .lst (((vals.drop (e - sz)).take sz).map fun (n : Nat) => V.int (n : Int))) hD3
        have tot := pack_total okp esp false ((((pageAt sh pg).slots[spotAt sh pg]?).map Slot.turn).getD 0) nx ((vals.drop (e - sz)).take sz)
        rw [lcut] at tot
        have tot : _ + 0 = (pageAt sh pg).used + sz := tot
        refine ⟨_, rfl, u2, pageAt sh pg, spotAt sh pg, false, .ref D3, (vals.drop (e - sz)).take sz, av, nx, rfl, Dp.xx x10 _ _ du2, okp.fits, hsp8, ⟨D3, rfl, .inr upd_same⟩, Dp.xx (x9.trans x10) _ _ dav, by omega, fun H11 r11 x11 dr => ?_⟩
        have x811 := x89.trans (x10.trans x11).xm
        dsimp only [tNil, List.append_nil]
        refine write_sh (T := T) (st9.xx (x10.trans x11)) (by rw [hlen]; exact hlt) (okp.withValues esp (show tu ≤ 99 by omega) (fun c hc => hv99 c (List.mem_of_mem_drop (List.mem_of_mem_take hc))) (fun _ => by rw [lcut]; exact hs1) nxo (by rw [lcut]; show _ ≤ 24 + 0; omega)) dr (x811.tabG _ g1) (x811.tabG _ g2') fun H12 x12 st12 => ?_
        refine ⟨_, rfl, _, rfl, (by show 2 ≤ sizeLine; decide), fun t6 h6 => ⟨_, rfl, _, rfl, _, _, rfl, rfl, ?_⟩⟩
        have x6n := XX.new (T := T) (o := .tup [.int (pg : Nat), .int (spotAt sh pg : Nat)]) h6
        have xend := (x811.trans x12).trans x6n.xm
        have x8e := (((x9.trans (x10.trans x11)).xm (S := fun b => b = p ∨ b = l)).trans x12).trans x6n.xm
        refine ⟨some (.int (pg : Nat)), some (.int (sz : Nat)), some (.int (spotAt sh pg : Nat)), .ref t6, ?_, xend, ?_, ?_, ?_, ?_, ?_⟩
        · rw [el, show (((e - sz : Nat)) : Int) = (e : Int) - (sz : Int) by omega]; rfl
        · rw [el, show done + ((i + 1 : Nat) : Int) = done + (i : Int) + 1 by omega]
          exact st12.xx x6n
        · rw [el]; exact .tup (SqT.of upd_same) (.cons (.int _) (.cons (.int _) .nil))
        · rw [el]; intro w hw; cases hw; exact ⟨by have := st.le; omega, by omega⟩
        · exact x8e.lst e8 (fun z => z.elim nr7p nr7l)
        · exact Paired.mapP p8 fun _ _ z => x8e.tup _ _ z
    · rintro σ' H' ⟨u11, u12, u13, av, rfl, x8, st8, dav, nxo, e8, p8⟩
      rw [hn, Nat.sub_self, List.drop_zero] at st8 dav nxo ⊢
      have hend := lay_end sh vals PZ psum
      have hlen := lay_len sh vals PZ
      have kQ := kQ h0
      unfold settled at kQ
      generalize lay sh vals PZ = y at *
      obtain ⟨nx, sh1, e⟩ := y
      dsimp only at hend hlen st8 dav nxo kQ ⊢
      have he : e = min vals.length (roomOf sh pl) := by omega
      have hle : (vals.take e).length = e := by rw [List.length_take]; omega
      have tot := pack_total ok0 q2 true ((((pageAt sh pl.1).slots[pl.2]?).map Slot.turn).getD 0) nx (vals.take e)
      rw [hle] at tot
      have hu := ml.used _ (pageAt_some ml.p1).2
      have er : roomOf sh pl = 24 - (pageAt sh pl.1).used + s0.size := by unfold roomOf; rw [q2]; rfl
      obtain ⟨u, sa, eu, du⟩ := rd x8 ml.p1
      refine ⟨_, rfl, q, CS, qx, _, _, rfl, st8.ins, S.cl, S.n1, rfl, p, dx, _, rfl, st8.dk.ins, rfl, _, rfl, _, rfl, _, rfl, a, xs, _, u, rfl, rfl, sa, eu, _, rfl, _, rfl, ?_⟩
      dsimp only [tNoPart]
      refine ⟨_, rfl, _, rfl, va, _, rfl, x8.sqL hva (fun z => z.elim nvp nvl), fun D3 hD3 => ?_⟩
      have ecut : cutV (vals.map fun (n : Nat) => V.int (n : Int)) none (some (e : Int)) = (vals.take e).map fun (n : Nat) => V.int (n : Int) := by
        rw [cut_lo _ e (by rw [List.length_map]; omega), List.map_take]
      rw [ecut]
      have x10 := XX.new (T := T) (o := .lst ((vals.take e).map fun (n : Nat) => V.int (n : Int))) hD3
      refine ⟨_, rfl, u, pageAt sh pl.1, pl.2, true, .ref D3, vals.take e, av, nx, rfl, Dp.xx x10 _ _ du, ok0.fits, ml.p2, ⟨D3, rfl, .inr upd_same⟩, Dp.xx x10 _ _ dav, by omega, fun H11 r11 x11 dr => ?_⟩
      have x811 := x8.trans (x10.trans x11).xm
      dsimp only [tNil, List.append_nil]
      refine write_sh (T := T) (st8.xx (x10.trans x11)) (by rw [hlen]; exact ml.p1) (ok0.withValues q2 (by rw [← q3]; exact ml.turn) (fun c hc => hv99 c (List.mem_of_mem_take hc)) (fun h => by cases h) nxo (by rw [hle]; omega)) dr (x811.tabG _ g1) (x811.tabG _ g2') fun H12 x12 st12 => ?_
      exact kQ H12 (x811.trans x12) st12
end
end GX
/-! pages that may be used -/
namespace GX
open PySem PySem.Spec PyProof.Rows L2 LamX
theorem mem_usableP {sh : List Page} {but : Option Nat} {i : Nat} : i ∈ usableP sh but ↔ i < sh.length ∧ some i ≠ but ∧ (pageAt sh i).usable ≠ [] := by
  have e : i ∈ usableP sh but ↔ i ∈ usableN sh but := (sortK_perm (g := keyN sh) (usableN sh but)).mem_iff
  rw [e]
  unfold usableN
  rw [List.mem_filter, List.mem_range]
  constructor
  · rintro ⟨h1, h2⟩
    have h3 := Bool.and_eq_true_iff.mp h2
    rw [(pageAt_some h1).1] at h3
    refine ⟨h1, by simpa using h3.1, fun z => ?_⟩
    have h4 := h3.2
    simp [z] at h4
  · rintro ⟨h1, h2, h3⟩
    refine ⟨h1, Bool.and_eq_true_iff.mpr ⟨by simpa using h2, ?_⟩⟩
    rw [(pageAt_some h1).1]
    cases q : (pageAt sh i).usable with
    | nil => exact absurd q h3
    | cons a r => simp [q]
theorem usableP_nodup {sh : List Page} {but : Option Nat} : (usableP sh but).Nodup :=
  (sortK_perm (g := keyN sh) (usableN sh but)).nodup_iff.mpr (List.Nodup.sublist (List.filter_sublist) List.nodup_range)
theorem usableP_desc {sh : List Page} {but : Option Nat} (h : ∀ pg ∈ sh, pg.used ≤ 24) : ((usableP sh but).map (freeOf sh)).Pairwise (· ≥ ·) := by
  rw [List.pairwise_map]
  have s := sortK_sorted (g := keyN sh) (usableN sh but)
  refine List.Pairwise.imp_of_mem ?_ s
  intro x y hx hy hxy
  have hx' := (mem_usableP.mp hx).1
  have hy' := (mem_usableP.mp hy).1
  rw [freeOf_page hx', freeOf_page hy']
  have h1 := h _ (pageAt_some hx').2
  have h2 := h _ (pageAt_some hy').2
  unfold keyN at hxy
  rw [(pageAt_some hx').1, (pageAt_some hy').1] at hxy
  simp [Page.freeI] at hxy
  omega
theorem spot_turn {sh : List Page} {n : Nat} (hl : n < sh.length) (hu : (pageAt sh n).usable ≠ []) : ∃ t, slotAt sh (n, spotAt sh n) = some (.free t) ∧ t < 100 ∧ turnAt sh (n, spotAt sh n) = t := by
  obtain ⟨t, r, _, e, ht⟩ := usable_spot hu
  have es : slotAt sh (n, spotAt sh n) = some (.free t) := by
    unfold slotAt
    rw [(pageAt_some hl).1]
    exact e
  exact ⟨t, es, ht, by unfold turnAt; rw [es]; rfl⟩
theorem mayLay_put {sh : List Page} {n : Nat} {pgs : List Nat} (h : ∀ pg ∈ sh, pg.used ≤ 24) (h8 : ∀ pg ∈ sh, pg.slots.length = 8) (h12 : sh.length ≤ 12) (e : usableP sh none = n :: pgs) : MayLay sh (n, spotAt sh n) pgs := by
  have nd := usableP_nodup (sh := sh) (but := none)
  have ds := usableP_desc (sh := sh) (but := none) h
  have len := usableP_len (sh := sh) (but := none)
  rw [e] at nd ds len
  have hn := mem_usableP.mp (show n ∈ usableP sh none by rw [e]; exact List.mem_cons_self)
  have hp : ∀ i ∈ pgs, i ∈ usableP sh none := fun i hi => by rw [e]; exact List.mem_cons_of_mem _ hi
  obtain ⟨t, es, ht, et⟩ := spot_turn hn.1 hn.2.2
  have h2 : spotAt sh n < 8 := by
    obtain ⟨pg, e1, e2⟩ := slotAt_some es
    rw [← h8 pg (List.mem_of_getElem? e1)]
    exact (List.getElem?_eq_some_iff.mp e2).1
  rw [List.length_cons] at len
  exact ⟨h, hn.1, h2, by rw [et]; omega, fun i hi => (mem_usableP.mp (hp i hi)).1, fun i hi => (mem_usableP.mp (hp i hi)).2.2, nd, (List.pairwise_cons.mp ds).2, by omega⟩
theorem mayLay_change {sh : List Page} {pl : Pl} {t b s : Nat} {z : Option Pl} (h : ∀ pg ∈ sh, pg.used ≤ 24) (h8 : ∀ pg ∈ sh, pg.slots.length = 8) (h12 : sh.length ≤ 12) (e : slotAt sh pl = some (.held true t b s z)) (ht : t ≤ 99) : MayLay sh pl (usableP sh (some pl.1)) := by
  have len := usableP_len (sh := sh) (but := some pl.1)
  obtain ⟨pg, e1, e2⟩ := slotAt_some e
  refine ⟨h, (List.getElem?_eq_some_iff.mp e1).1, by rw [← h8 pg (List.mem_of_getElem? e1)]; exact (List.getElem?_eq_some_iff.mp e2).1, by unfold turnAt; rw [e]; exact ht, fun i hi => (mem_usableP.mp hi).1, fun i hi => (mem_usableP.mp hi).2.2,
    List.nodup_cons.mpr ⟨fun q => (mem_usableP.mp q).2.1 rfl, usableP_nodup⟩, usableP_desc h, by omega⟩
end GX
/-! slotpages.shelf: put -/
namespace GX
open PySem PySem.Spec PyProof.Rows L2 LamX
def natsD (l : List Nat) : PyData := .list (intsD l)
theorem valsOk_yes {d : PyData} (h : valsOk d = true) : ∃ vals : List Nat, d = natsD vals ∧ vals.length ≤ 300 ∧ ∀ c ∈ vals, c ≤ 99 := by
  cases d with
  | list ds =>
    obtain ⟨h1, h2⟩ := Bool.and_eq_true_iff.mp (show (decide (ds.length ≤ 300) && ds.all fun d => isNum d 0 99) = true from h)
    have h1 := of_decide_eq_true h1
    have go : ∀ l : List PyData, (∀ d ∈ l, isNum d 0 99 = true) → ∃ vals : List Nat, l = intsD vals ∧ ∀ c ∈ vals, c ≤ 99 := by
      intro l
      induction l with
      | nil => intro _; exact ⟨[], rfl, fun _ h => nomatch h⟩
      | cons d l ih =>
        intro h
        obtain ⟨i, rfl, i1, i2⟩ := isNum_int (h d List.mem_cons_self)
        obtain ⟨vals, rfl, hv⟩ := ih fun e he => h e (List.mem_cons_of_mem _ he)
        refine ⟨i.toNat :: vals, ?_, fun c hc => ?_⟩
        · show _ = PyData.int ((i.toNat : Nat) : Int) :: _
          rw [Int.toNat_of_nonneg i1]; rfl
        · rcases List.mem_cons.mp hc with e | e
          · rw [e]; omega
          · exact hv c e
    obtain ⟨vals, rfl, hv⟩ := go ds (List.all_eq_true.mp h2)
    refine ⟨vals, rfl, by rw [show (intsD vals).length = vals.length from List.length_map ..] at h1; exact h1, hv⟩
  | _ => cases h
def spSPut (K : PySem.W.Frag) (T : List (Addr × Str)) (C CS P1 P2 PF PV cFu cBR : Addr) : Sp := fun vs H Q E => ∃ q qx p dx l sh done u d, vs = [.ref q, u] ∧ ShAt K C CS H q qx p dx l sh done ∧ Dp K H u d ∧ u ≠ .ref p ∧ u ≠ .ref l ∧
  (∀ pg ∈ sh, pg.used ≤ 24) ∧ GxR.TabG H P1 ∧ GxR.TabG H P2 ∧ GxR.TabG H PF ∧ GxR.TabG H PV ∧ Tabs T H ∧
  (valsOk d = false → ∀ H', XX T H H' → E (.ref cBR) none H') ∧ (valsOk d = true → usableP sh none = [] → ∀ H', XX T H H' → E (.ref cFu) none H') ∧
  ∀ n pgs vals, d = natsD vals → vals.length ≤ 300 → (∀ c ∈ vals, c ≤ 99) → usableP sh none = n :: pgs →
    ((sharesGo false vals.length (roomsOf sh (n, spotAt sh n) pgs)).2 ≠ 0 → ∀ H', XX T H H' → E (.ref cFu) none H') ∧
    ((sharesGo false vals.length (roomsOf sh (n, spotAt sh n) pgs)).2 = 0 → ∀ H' t, XM T (fun b => b = p ∨ b = l) H H' → H t = none →
      ShAt K C CS H' q qx p dx l (settled sh (n, spotAt sh n) (pgs.zip ((sharesGo false vals.length (roomsOf sh (n, spotAt sh n) pgs)).1.drop 1)) vals) (done + (pgs.zip ((sharesGo false vals.length (roomsOf sh (n, spotAt sh n) pgs)).1.drop 1)).length + 1) →
      H' t = some (.tup [.int (n : Nat), .int (spotAt sh n : Nat), .int (turnAt sh (n, spotAt sh n) : Nat)]) → Q (.ref t) H')
section
variable {P : Program} {w : World} {K : PySem.W.Frag} {mg : Str → Option Value} {base : Heap} {T : List (Addr × Str)} {C CS P1 P2 PF PV cFu cBR : Addr}
abbrev spN : List Str := ["self", "values", "sheets", "pages", "number", "at"]
theorem sc_SPut : FnScope spN ["self", "values"] (defScope s_SPut) := ⟨rfl, rfl, rfl, by decide +kernel, rfl, by decide +kernel, by decide +kernel⟩
theorem ok_SPut {f : Addr} {fd : FuncData} (F : L2.Fun K "put" "Shelf.put" s_SPut f fd) (S : STx K CS) (mP : Met P w K mg base CX0 CS "_pages" ["self"] 5 (spSPages K T C CS)) (mS : Met P w K mg base (L2.CX P w) CS "_settle" ["self", "sheets", "place", "pages", "values"] 8 (spSettle K T C CS P1 P2 PF cFu))
    (cV : Cal P w K mg base (L2.CX P w) "_check_values" ["values"] 4 (spCheckV K T PV cBR)) (cPP : Cal P w K mg base (L2.CX P w) "pages_for_put" ["sheets"] 8 (spPagesPut K T PF cFu)) (cUs : Cal P w K mg base CX0 "usable_slots" ["page"] 1 (spUsable K T)) :
    FnOk P w K mg base (L2.CX P w) 9 f fd ["self", "values"] (spSPut K T C CS P1 P2 PF PV cFu cBR) := by
  refine F.okX sc_SPut (fun vs H Q E h => by obtain ⟨q, qx, p, dx, l, sh, done, u, d, rfl, _⟩ := h; rfl) (fun cdv A outer s H vs Q E hr h => ?_)
  obtain ⟨q, qx, p, dx, l, sh, done, u, d, rfl, st, hu, nup, nul, h24, g1, g2', gF, gV, hTs, kB, kF, kQ⟩ := h
  have nd := sc_SPut.nd
  refine ⟨_, pss_cons (ps_set (i := 2) nd rfl (.inl rfl) (pe_met0 mP S.cl (hr.mono (by decide)) pass0 (pv 0)))
    (pss_cons (ps_expr (pe_calX cV (hr.mono (by decide)) (passX (tk := takes_of rfl rfl rfl rfl)) (pa_cons (pv 1) pa_nil)))
    (pss_cons (ps_set (i := 3) nd rfl (.inl rfl) (pe_calX cPP hr (passX (tk := takes_of rfl rfl rfl rfl)) (pa_cons (pv 2) pa_nil)))
    (pss_cons (ps_set (i := 4) nd rfl (.inl rfl) (pe_ix ix_list (pv 3) pe_int (fun _ _ => rfl)))
    (pss_cons (ps_set (i := 5) nd rfl (.inl rfl) (pe_ix ix_list (pe_cal cUs (hr.mono (by decide)) (pa_cons (pe_ix ix_list (pv 2) (pv 4) (fun _ _ => rfl)) pa_nil)) pe_int (fun _ _ => rfl)))
    (pss_cons (ps_expr (pe_met mS S.cl hr (passX (tk := takes_of rfl rfl rfl rfl)) (pv 0) (pa_cons (pv 2) (pa_cons (pe_tup (pa_cons (pv 4) (pa_cons (pv 5) pa_nil))) (pa_cons (pe_slice sl_list (pv 3) (po_some pe_int) po_none) (pa_cons (pv 1) pa_nil))))))
    (pss_one (ps_ret (pe_tup (pa_cons (pv 4) (pa_cons (pv 5) (pa_cons (pe_ix ix_tup (pe_ix ix_tup (pe_ix ix_tup (pe_ix ix_list (pv 2) (pv 4) (fun _ _ => rfl)) pe_int (fun _ _ => rfl)) (pv 5) (fun _ _ => rfl)) pe_int (fun _ _ => rfl)) pa_nil))))))))))), ?_⟩
  refine ⟨_, rfl, q, qx, _, rfl, st.ins, rfl, q, qx, p, dx, l, sh, done, rfl, st, fun H1 r1 x1 n1 d1 => ?_⟩
  refine ⟨_, rfl, u, d, rfl, Dp.xx x1 _ _ hu, x1.tabG _ gV, fun hb H2 x2 => kB hb H2 (x1.trans x2), fun hv H2 x2 => ?_⟩
  have x12 := x1.trans x2
  refine ⟨_, rfl, _, sh, rfl, Dp.xx x2 _ _ d1, st.pages, x12.tabG _ gF, x12.tabs hTs, fun hup H3 x3 => kF hv hup H3 (x12.trans x3), fun hne H3 r3 x3 n3 e3 => ?_⟩
  have x13 := x12.trans x3
  cases hup : usableP sh none with
  | nil => exact absurd hup hne
  | cons n pgs =>
    rw [hup] at e3
    obtain ⟨vals, rfl, hv300, hv99⟩ := valsOk_yes hv
    have ml := mayLay_put h24 (fun pg hm => (st.ok pg hm).ns) st.le hup
    obtain ⟨va, vv, rfl, hva, dva⟩ := dp_lst hu
    obtain rfl := dp_intsV dva
    have hn := ml.p1
    have hus := (mem_usableP.mp (show n ∈ usableP sh none by rw [hup]; exact List.mem_cons_self)).2.2
    obtain ⟨tt, ru, eus, esp, htt⟩ := usable_spot hus
    refine ⟨_, rfl, r3, _, 0, _, rfl, rfl, SqL.of e3, atI0, ?_⟩
    obtain ⟨a, xs, er, hs, ha, hlx⟩ := dp_sh (Dp.xx (x2.trans x3) _ _ d1)
    cases er
    obtain ⟨u4, eu4, du4⟩ := sh_at ha (pageAt_some hn).1
    have okn := st.ok _ (pageAt_some hn).2
    refine ⟨_, rfl, _, rfl, r1, xs, _, u4, rfl, rfl, hs, atI_nat eu4, u4, pageAt sh n, rfl, du4, okn.ns, fun H5 r5 x5 n5 e5 => ⟨r5, _, 0, .int (spotAt sh n : Nat), rfl, rfl, SqL.of e5, ?_, ?_⟩⟩
    · rw [eus]; exact atI0
    have x15 := x13.trans x5
    refine ⟨_, rfl, q, qx, _, rfl, (st.xx x15).ins, rfl, _, rfl, _, rfl, _, rfl, (by show 2 ≤ sizeLine; decide), fun t6 h6 => ?_⟩
    have x6 := XX.new (T := T) (o := .tup [.int (n : Nat), .int (spotAt sh n : Nat)]) h6
    refine ⟨_, rfl, _, rfl, ?_⟩
    dsimp only [tNoPart]
    refine ⟨r3, _, rfl, (x5.trans x6).sqL (SqL.of e3), fun D hD => ?_⟩
    have ec : cutV ((n :: pgs).map fun (n : Nat) => V.int (n : Int)) (some 1) none = pgs.map fun (n : Nat) => V.int (n : Int) := cut_hi _ 1 (by simp)
    rw [ec]
    have x7 := XX.new (T := T) (o := .lst (pgs.map fun (n : Nat) => V.int (n : Int))) hD
    have x57 := (x5.trans x6).trans x7
    have x17 := x13.trans x57
    have nr1 : r1 ≠ p ∧ r1 ≠ l := ⟨fun z => (by have := st.dk.ins; rw [← z, n1] at this; cases this), fun z => (by obtain ⟨_, h, _⟩ := st.dk.lst; rw [← z, n1] at h; cases h)⟩
    obtain ⟨k1, k2⟩ := kQ n pgs vals rfl hv300 hv99 hup
    refine ⟨_, rfl, q, qx, p, dx, l, sh, done, r1, xs, t6, (n, spotAt sh n), D, pgs, va, vals, rfl, st.xx x17, x57.sqL hs, Dp.xxAll x57 _ _ ha, nr1.1, nr1.2, .tup (x7.sqT (SqT.of upd_same)) (.cons (.int _) (.cons (.int _) .nil)), SqL.of upd_same, x17.sqL hva, fun z => nup (by rw [z]), fun z => nul (by rw [z]), ml, hv99, hv300, x17.tabG _ g1, x17.tabG _ g2', x17.tabG _ gF, fun h H8 x8 => k1 h H8 (x17.trans x8), fun h H8 x8 st8 => ?_⟩
    have x18 := x17.xm.trans x8
    have s8 := x8.sqL (x57.sqL hs) (fun z => z.elim nr1.1 nr1.2)
    have du8 := Dp.xm x8 _ _ (page_flat _) (Dp.xx x57 _ _ du4)
    obtain ⟨b, x, y, rfl, hb, hx, _⟩ := dp_page du8
    obtain ⟨b2, zs, rfl, hz, hza, _⟩ := dp_slots hx
    obtain ⟨w2, ew2, dw2⟩ := slot_at hza esp
    obtain ⟨c2, rfl, hc2⟩ := dp_free dw2
    refine ⟨_, rfl, _, rfl, _, rfl, _, rfl, r1, xs, _, _, rfl, rfl, s8, atI_nat eu4, b, _, 0, _, rfl, rfl, hb, atI0, _, rfl, b2, _, _, _, rfl, rfl, hz, atI_nat ew2, c2, _, 1, _, rfl, rfl, hc2, atI_nat (j := 1) rfl, (by show 3 ≤ sizeLine; decide), fun t9 h9 => ?_⟩
    have et : turnAt sh (n, spotAt sh n) = tt := by
      unfold turnAt slotAt
      rw [(pageAt_some hn).1]
      show ((((pageAt sh n).slots[spotAt sh n]?)).map Slot.turn).getD 0 = tt
      rw [show (pageAt sh n).slots[spotAt sh n]? = some (.free tt) from esp]; rfl
    refine k2 h _ t9 (x18.trans (XX.new h9).xm) (x18.free h9) (st8.xx (XX.new (T := T) h9)) ?_
    rw [upd_same, et]
end
end GX
/-! slotpages.shelf: change -/
namespace GX
open PySem PySem.Spec PyProof.Rows L2 LamX
theorem settled_len (sh : List Page) (pl : Pl) (ps : List (Nat × Nat)) (vals : List Nat) : (settled sh pl ps vals).length = sh.length := by
  unfold settled
  show ((lay sh vals ps).2.1.set _ _).length = _
  rw [List.length_set, lay_len]
def partsOf (sh : List Page) (pl : Pl) (pgs : List Nat) (n : Nat) : List (Nat × Nat) := pgs.zip ((sharesGo false n (roomsOf sh pl pgs)).1.drop 1)
def spSChange (K : PySem.W.Frag) (T : List (Addr × Str)) (C CS P1 P2 PF PV cFu cBR cNR : Addr) : Sp := fun vs H Q E => ∃ q qx p dx l sh done u nm v d, vs = [.ref q, u, v] ∧ ShAt K C CS H q qx p dx l sh done ∧ Dp K H u nm ∧ Dp K H v d ∧ v ≠ .ref p ∧ v ≠ .ref l ∧
  (∀ pg ∈ sh, pg.used ≤ 24) ∧ GxR.TabG H P1 ∧ GxR.TabG H P2 ∧ GxR.TabG H PF ∧ GxR.TabG H PV ∧ Tabs T H ∧
  (placeOf sh nm = none → ∀ H', XX T H H' → E (.ref cNR) none H') ∧ (∀ pl, placeOf sh nm = some pl → valsOk d = false → ∀ H', XX T H H' → E (.ref cBR) none H') ∧
  ∀ pl vals, placeOf sh nm = some pl → d = natsD vals → vals.length ≤ 300 → (∀ c ∈ vals, c ≤ 99) → ∃ ps, Chain sh (some pl) (pl :: ps) ∧ ps.length ≤ 199 ∧ (∀ z ∈ ps, z.1 < sh.length ∧ z.2 < 8) ∧
    ((sharesGo false vals.length (roomsOf sh pl (usableP sh (some pl.1)))).2 ≠ 0 → ∀ H', XX T H H' → E (.ref cFu) none H') ∧
    ((sharesGo false vals.length (roomsOf sh pl (usableP sh (some pl.1)))).2 = 0 → ∀ H', XM T (fun b => b = p ∨ b = l) H H' →
      ShAt K C CS H' q qx p dx l (freeAll (settled sh pl (partsOf sh pl (usableP sh (some pl.1)) vals.length) vals) ps) (done + (partsOf sh pl (usableP sh (some pl.1)) vals.length).length + 1 + ps.length) → Q .non H')
section
variable {P : Program} {w : World} {K : PySem.W.Frag} {mg : Str → Option Value} {base : Heap} {T : List (Addr × Str)} {C CS P1 P2 PF PV cFu cBR cNR : Addr}
abbrev scN : List Str := ["self", "name", "values", "sheets", "place", "old"]
theorem sc_SChange : FnScope scN ["self", "name", "values"] (defScope s_SChange) := ⟨rfl, rfl, rfl, by decide +kernel, rfl, by decide +kernel, by decide +kernel⟩
theorem ok_SChange {f : Addr} {fd : FuncData} (F : L2.Fun K "change" "Shelf.change" s_SChange f fd) (S : STx K CS) (mP : Met P w K mg base CX0 CS "_pages" ["self"] 5 (spSPages K T C CS)) (mS : Met P w K mg base (L2.CX P w) CS "_settle" ["self", "sheets", "place", "pages", "values"] 8 (spSettle K T C CS P1 P2 PF cFu))
    (mF : Met P w K mg base CX0 CS "_free" ["self", "places"] 8 (spSFree K T C CS P1 P2)) (cPl : Cal P w K mg base (L2.CX P w) "_place" ["sheets", "name"] 3 (spPlaceD K T cNR)) (cF : Cal P w K mg base CX0 "places_from" ["sheets", "place"] 2 (spPlaces K T))
    (cV : Cal P w K mg base (L2.CX P w) "_check_values" ["values"] 4 (spCheckV K T PV cBR)) (cU : Cal P w K mg base CX0 "usable_pages" ["sheets", "but"] 7 (spUsableP K T PF)) :
    FnOk P w K mg base (L2.CX P w) 9 f fd ["self", "name", "values"] (spSChange K T C CS P1 P2 PF PV cFu cBR cNR) := by
  refine F.okX sc_SChange (fun vs H Q E h => by obtain ⟨q, qx, p, dx, l, sh, done, u, nm, v, d, rfl, _⟩ := h; rfl) (fun cdv A outer s H vs Q E hr h => ?_)
  obtain ⟨q, qx, p, dx, l, sh, done, u, nm, v, d, rfl, st, hu, hv, nvp, nvl, h24, g1, g2', gF, gV, hTs, kN, kB, kQ⟩ := h
  have nd := sc_SChange.nd
  refine ⟨_, pss_cons (ps_set (i := 3) nd rfl (.inl rfl) (pe_met0 mP S.cl (hr.mono (by decide)) pass0 (pv 0)))
    (pss_cons (ps_set (i := 4) nd rfl (.inl rfl) (pe_calX cPl (hr.mono (by decide)) (passX (tk := takes_of rfl rfl rfl rfl)) (pa_cons (pv 3) (pa_cons (pv 1) pa_nil))))
    (pss_cons (ps_expr (pe_calX cV (hr.mono (by decide)) (passX (tk := takes_of rfl rfl rfl rfl)) (pa_cons (pv 2) pa_nil)))
    (pss_cons (ps_set (i := 5) nd rfl (.inl rfl) (pe_slice sl_list (pe_cal cF (hr.mono (by decide)) (pa_cons (pv 3) (pa_cons (pv 4) pa_nil))) (po_some pe_int) po_none))
    (pss_cons (ps_expr (pe_met mS S.cl hr (passX (tk := takes_of rfl rfl rfl rfl)) (pv 0) (pa_cons (pv 3) (pa_cons (pv 4) (pa_cons (pe_cal cU (hr.mono (by decide)) (pa_cons (pv 3) (pa_cons (pe_ix ix_tup (pv 4) pe_int (fun _ _ => rfl)) pa_nil))) (pa_cons (pv 2) pa_nil))))))
    (pss_one (ps_expr (pe_met mF S.cl hr pass0 (pv 0) (pa_cons (pv 5) pa_nil)))))))), ?_⟩
  refine ⟨_, rfl, q, qx, _, rfl, st.ins, rfl, q, qx, p, dx, l, sh, done, rfl, st, fun H1 r1 x1 n1 d1 => ?_⟩
  refine ⟨_, rfl, _, rfl, _, u, sh, nm, rfl, d1, st.pages, Dp.xx x1 _ _ hu, fun h => kN h H1 x1, fun pl h H2 r2 x2 d2 => ?_⟩
  have x12 := x1.trans x2
  refine ⟨_, rfl, v, d, rfl, Dp.xx x12 _ _ hv, x12.tabG _ gV, fun hb H3 x3 => kB pl h hb H3 (x12.trans x3), fun hb H3 x3 => ?_⟩
  obtain ⟨vals, rfl, hv300, hv99⟩ := valsOk_yes hb
  obtain ⟨n, en, hl1, hl2, hn99, bb, ss, nx, esl⟩ := placeOf_yes h
  obtain ⟨ps, hch, hlen, hps, kF, kQ⟩ := kQ pl vals h rfl hv300 hv99
  have x13 := x12.trans x3
  have d3 := Dp.xx x3 _ _ d2
  obtain ⟨c, rfl, hc⟩ := dp_pl d3
  refine ⟨_, rfl, _, rfl, _, _, sh, some pl, pl :: ps, rfl, Dp.xx (x2.trans x3) _ _ d1, d3, hch, (by simp; omega), fun H4 r4 xs4 x4 n4 e4 d4 => ?_⟩
  have x14 := x13.trans x4
  obtain ⟨v0, xs5, rfl, _, dps⟩ := dpAllC (ds := ps.map plD) d4
  refine ⟨_, rfl, ?_⟩
  dsimp only [tNoPart]
  refine ⟨r4, v0 :: xs5, rfl, SqL.of e4, fun D hD => ?_⟩
  have ec : cutV (v0 :: xs5) (some 1) none = xs5 := cut_hi (v0 :: xs5) 1 (by simp)
  rw [ec]
  have x5 := XX.new (T := T) (o := .lst xs5) hD
  have x15 := x14.trans x5
  have x25 := ((x2.trans x3).trans x4).trans x5
  have x35 := x4.trans x5
  have ml := mayLay_change h24 (fun pg hm => (st.ok pg hm).ns) st.le esl (by omega)
  obtain ⟨va, vv, rfl, hva, dva⟩ := dp_lst hv
  obtain rfl := dp_intsV dva
  obtain ⟨a, xs, er, hs, ha, hlx⟩ := dp_sh (Dp.xx x25 _ _ d1)
  cases er
  refine ⟨_, rfl, q, qx, _, rfl, (st.xx x15).ins, rfl, _, rfl, _, rfl, _, rfl, _, rfl, c, _, 0, _, rfl, rfl, x35.sqT hc, atI0, _, sh, some pl.1, rfl, Dp.xx x25 _ _ d1, st.pages, x15.tabG _ gF, x15.tabs hTs, fun H6 r6 x6 n6 e6 => ?_⟩
  have x16 := x15.trans x6
  have nr1 : r1 ≠ p ∧ r1 ≠ l := ⟨fun z => (by have := st.dk.ins; rw [← z, n1] at this; cases this), fun z => (by obtain ⟨_, h, _⟩ := st.dk.lst; rw [← z, n1] at h; cases h)⟩
  have e5 : H6 D = some (.lst xs5) := x6.lst upd_same
  have nD : D ≠ p ∧ D ≠ l := ⟨fun z => (by have := st.dk.ins; rw [← z, x14.free hD] at this; cases this), fun z => (by obtain ⟨_, h, _⟩ := st.dk.lst; rw [← z, x14.free hD] at h; cases h)⟩
  refine ⟨_, rfl, q, qx, p, dx, l, sh, done, r1, xs, c, pl, r6, usableP sh (some pl.1), va, vals, rfl, st.xx x16, x6.sqL hs, Dp.xxAll x6 _ _ ha, nr1.1, nr1.2, Dp.xx (x35.trans x6) _ _ d3, SqL.of e6, x16.sqL hva, fun z => nvp (by rw [z]), fun z => nvl (by rw [z]), ml, hv99, hv300, x16.tabG _ g1, x16.tabG _ g2', x16.tabG _ gF, fun h H8 x8 => kF h H8 (x16.trans x8), fun h H8 x8 st8 => ?_⟩
  have x18 := x16.xm.trans x8
  have e8 := x8.lst e5 (fun z => z.elim nD.1 nD.2)
  refine ⟨_, rfl, q, qx, _, rfl, st8.ins, rfl, _, rfl, q, qx, p, dx, l, _, _, D, xs5, ps, rfl, st8, SqL.of e8, dpAll_xm x8 (pl_flat ps) (Dp.xxAll (x5.trans x6) _ _ dps), nD.1, nD.2, x18.tabG _ g1, x18.tabG _ g2', fun z hz => ?_, fun H9 x9 st9 => kQ h H9 (x18.trans x9) st9⟩
  rw [settled_len]; exact hps z hz
end
end GX
/-! slotpages.shelf: _free_lost -/
namespace GX
open PySem PySem.Spec PyProof.Rows L2 LamX
def ltP (n p : Pl) : Bool := HT.lexLt [(n.1 : Int), (n.2 : Int)] [(p.1 : Int), (p.2 : Int)]
/-- the part that is to lead nowhere any more -/
def cutSlot (sh0 : List Page) (p : Pl) : Option Slot := match slotAt sh0 p with
  | some (.held o t b s (some n)) => if ltP n p = true then some (.held o t b s none) else none
  | _ => none
def cut1 (sh0 sh : List Page) (p : Pl) : List Page := match cutSlot sh0 p with
  | some z => setAt sh p z
  | none => sh
def cutGo (sh0 sh : List Page) (l : List Pl) : List Page := l.foldl (cut1 sh0) sh
def cuts (sh0 : List Page) (l : List Pl) : Nat := (l.filter fun p => (cutSlot sh0 p).isSome).length
theorem cut1_len (sh0 sh : List Page) (p : Pl) : (cut1 sh0 sh p).length = sh.length := by
  unfold cut1
  split
  · exact setAt_len ..
  · rfl
theorem cutGo_len (sh0 : List Page) : ∀ (l : List Pl) (sh : List Page), (cutGo sh0 sh l).length = sh.length
  | [], _ => rfl
  | p :: l, sh => by
    show (cutGo sh0 (cut1 sh0 sh p) l).length = _
    rw [cutGo_len sh0 l, cut1_len]
def spSFreeLost (K : PySem.W.Frag) (T : List (Addr × Str)) (C CS P1 P2 : Addr) : Sp := fun vs H Q _ => ∃ q qx p dx l sh done Ch, vs = [.ref q] ∧ ShAt K C CS H q qx p dx l sh done ∧ (∀ z ∈ rowPlaces sh, Chain sh (some z) (Ch z) ∧ (Ch z).length ≤ 200) ∧ GxR.TabG H P1 ∧ GxR.TabG H P2 ∧
  ∀ H', XM T (fun b => b = p ∨ b = l) H H' → ShAt K C CS H' q qx p dx l (freeAll (cutGo sh sh (lostOf sh Ch)) (lostOf sh Ch)) (done + cuts sh (lostOf sh Ch) + (lostOf sh Ch).length) → Q .non H'
theorem lostOf_part {sh : List Page} {Ch : Pl → List Pl} {p : Pl} (h : p ∈ lostOf sh Ch) : ∃ t b s n, slotAt sh p = some (.held false t b s n) := by
  obtain ⟨s, e, hs⟩ := mem_placesOf.mp h
  cases s with
  | free t => cases hs
  | held o t b n z =>
    cases o with
    | true => cases hs
    | false => exact ⟨_, _, _, _, e⟩
section
variable {P : Program} {w : World} {K : PySem.W.Frag} {mg : Str → Option Value} {base : Heap} {T : List (Addr × Str)} {C CS P1 P2 cN cP cS : Addr}
abbrev slN : List Str := ["self", "sheets", "places", "place", "word", "turn", "begin", "size", "after", "page"]
theorem sc_SFreeLost : FnScope slN ["self"] (defScope s_SFreeLost) := ⟨rfl, rfl, rfl, by decide +kernel, rfl, by decide +kernel, by decide +kernel⟩
theorem ok_SFreeLost {f : Addr} {fd : FuncData} (F : L2.Fun K "_free_lost" "Shelf._free_lost" s_SFreeLost f fd) (S : STx K CS) (cD : Cls K C) (mP : Met P w K mg base CX0 CS "_pages" ["self"] 5 (spSPages K T C CS)) (mF : Met P w K mg base CX0 CS "_free" ["self", "places"] 8 (spSFree K T C CS P1 P2)) (mPage : Met P w K mg base (L2.CX P w) C "page" ["self", "number"] 3 (spDPage K C cN cS)) (mWrite : Met P w K mg base (L2.CX P w) C "write" ["self", "number", "page"] 7 (spDWrite K T P1 P2 C cN cP cS))
    (cL : Cal P w K mg base CX0 "lost" ["sheets"] 3 (spLost K T)) (cS' : Cal P w K mg base CX0 "slot_at" ["sheets", "place"] 1 (spSlotAt K)) (cW : Cal P w K mg base CX0 "with_slot" ["page", "at", "slot"] 1 (spWithSlot K T)) :
    FnOk P w K mg base CX0 9 f fd ["self"] (spSFreeLost K T C CS P1 P2) := by
  refine F.ok sc_SFreeLost (fun vs H Q E h => by obtain ⟨q, qx, p, dx, l, sh, done, Ch, rfl, _⟩ := h; rfl) (fun cdv A outer s H vs Q E hr h => ?_)
  obtain ⟨q, qx, p, dx, l, sh, done, Ch, rfl, st, hch, g1, g2', k⟩ := h
  have nd := sc_SFreeLost.nd
  refine ⟨_, pss_cons (ps_set (i := 1) nd rfl (.inl rfl) (pe_met0 mP S.cl (hr.mono (by decide)) pass0 (pv 0)))
    (pss_cons (ps_set (i := 2) nd rfl (.inl rfl) (pe_cal cL (hr.mono (by decide)) (pa_cons (pv 1) pa_nil)))
    (pss_cons (ps_for PassesOwn.never rfl (pi_list (pv 2)) (pg_name (i := 3) nd rfl (.inl rfl))
      (pss_cons (ps_asg (pe_cal cS' (hr.mono (by decide)) (pa_cons (pv 1) (pa_cons (pv 3) pa_nil))) (pg_tup (by rfl) (pgs_cons (pg_name (i := 4) nd rfl (.inl rfl)) (pgs_cons (pg_name (i := 5) nd rfl (.inl rfl)) (pgs_cons (pg_name (i := 6) nd rfl (.inl rfl)) (pgs_cons (pg_name (i := 7) nd rfl (.inl rfl)) (pgs_cons (pg_name (i := 8) nd rfl (.inl rfl)) pgs_nil)))))))
      (pss_one (ps_if (PW.pt (pw_and (pt_cmpR op_notN (pv 8) pe_non (nomark _)) (pw_and1 (pt_cmpR (op_ltT hr.units0) (pv 8) (pv 3) (nomark _)))))
        (pss_cons (ps_set (i := 9) nd rfl (.inl rfl) (pe_met mPage cD (hr.mono (by decide)) passL (pe_fld (pv 0) rfl) (pa_cons (pe_ix ix_tup (pv 3) pe_int (fun _ _ => rfl)) pa_nil)))
        (pss_one (ps_expr (pe_met mWrite cD (hr.mono (by decide)) passL (pe_fld (pv 0) rfl) (pa_cons (pe_ix ix_tup (pv 3) pe_int (fun _ _ => rfl)) (pa_cons (pe_cal cW (hr.mono (by decide)) (pa_cons (pv 9) (pa_cons (pe_ix ix_tup (pv 3) pe_int (fun _ _ => rfl)) (pa_cons (pe_tup (pa_cons (pv 4) (pa_cons (pv 5) (pa_cons (pv 6) (pa_cons (pv 7) (pa_cons pe_non pa_nil)))))) pa_nil)))) pa_nil)))))) pss_nil))))
    (pss_one (ps_expr (pe_met mF S.cl hr pass0 (pv 0) (pa_cons (pv 2) pa_nil)))))), ?_⟩
  refine ⟨_, rfl, q, qx, _, rfl, st.ins, rfl, q, qx, p, dx, l, sh, done, rfl, st, fun H1 r1 x1 n1 d1 => ?_⟩
  refine ⟨_, rfl, _, sh, Ch, rfl, d1, st.pages, hch, fun H2 r2 xs x2 n2 e2 d2 => ?_⟩
  have x12 := x1.trans x2
  have hlx : xs.length = (lostOf sh Ch).length := by rw [dpAll_len d2, List.length_map]
  obtain ⟨a, ss, er, hs, ha, _⟩ := dp_sh (Dp.xx x2 _ _ d1)
  cases er
  have nr1 : r1 ≠ p ∧ r1 ≠ l := ⟨fun z => (by have := st.dk.ins; rw [← z, n1] at this; cases this), fun z => (by obtain ⟨_, h, _⟩ := st.dk.lst; rw [← z, n1] at h; cases h)⟩
  have nr2 : r2 ≠ p ∧ r2 ≠ l := ⟨fun z => (by have := st.dk.ins; rw [← z, x1.free n2] at this; cases this), fun z => (by obtain ⟨_, h, _⟩ := st.dk.lst; rw [← z, x1.free n2] at h; cases h)⟩
  refine ⟨_, rfl, r2, rfl, ⟨xs, SqL.of e2⟩, for_list (xs := xs) (fun i σ' H' => ∃ u3 u4 u5 u6 u7 u8 u9, σ' = [some (.ref q), some (.ref r1), some (.ref r2), u3, u4, u5, u6, u7, u8, u9] ∧ XM T (fun b => b = p ∨ b = l) H2 H' ∧ ShAt K C CS H' q qx p dx l (cutGo sh sh ((lostOf sh Ch).take i)) (done + cuts sh ((lostOf sh Ch).take i)))
    ⟨_, _, _, _, _, _, _, rfl, XM.refl _, by simpa [cutGo, cuts] using st.xx x12⟩ (fun i σ' H' _ ⟨_, _, _, _, _, _, _, _, x, _⟩ => SqL.of (x.lst e2 fun z => z.elim nr2.1 nr2.2)) ?_ ?_⟩
  · rintro i v σ' H' hi ⟨u3, u4, u5, u6, u7, u8, u9, rfl, x3, st3⟩
    have hil : i < (lostOf sh Ch).length := by rw [← hlx]; exact (List.getElem?_eq_some_iff.mp hi).1
    obtain ⟨d, ed, dd⟩ := dpAll_get (dpAll_xm x3 (pl_flat _) d2) hi
    rw [List.getElem?_map, List.getElem?_eq_getElem hil] at ed
    cases ed
    obtain ⟨t, b, n, nx, es⟩ := lostOf_part (List.getElem_mem hil)
    have tk : (lostOf sh Ch).take (i + 1) = (lostOf sh Ch).take i ++ [(lostOf sh Ch)[i]] := by
      rw [List.take_succ, List.getElem?_eq_getElem hil]; rfl
    have stp : cutGo sh sh ((lostOf sh Ch).take (i + 1)) = cut1 sh (cutGo sh sh ((lostOf sh Ch).take i)) ((lostOf sh Ch)[i]) := by
      rw [tk]; unfold cutGo; rw [List.foldl_append]; rfl
    have stc : cuts sh ((lostOf sh Ch).take (i + 1)) = cuts sh ((lostOf sh Ch).take i) + if (cutSlot sh ((lostOf sh Ch)[i])).isSome = true then 1 else 0 := by
      rw [tk]; unfold cuts
      rw [List.filter_append, List.length_append]
      congr 1
      rw [List.filter_cons]
      split <;> rfl
    obtain ⟨c, rfl, hc⟩ := dp_pl dd
    obtain ⟨pg0, q1, q2, _, _⟩ := slot_get es
    have okp0 := st.ok pg0 (List.mem_of_getElem? q1)
    have oks := okp0.sl _ (List.mem_of_getElem? q2)
    obtain ⟨w1, ew1, dw1⟩ := sh_at ha q1
    obtain ⟨bp, px, py, rfl, hbp, hpx, _⟩ := dp_page dw1
    obtain ⟨bs, zs, rfl, hz, hza, _⟩ := dp_slots hpx
    have hd3 : Dp K H' (.ref r1) (.list (shD sh)) := by
      refine .lst (x3.sqL hs fun z => z.elim nr1.1 nr1.2) (dpAll_xm x3 (sh_flat sh) ha)
    refine ⟨_, rfl, _, rfl, .ref r1, .ref c, sh, _, _, rfl, hd3, dd, es, fun u du => ?_⟩
    obtain ⟨cu, x0, rfl, hcu, hx0⟩ := dp_held du
    refine ⟨cu, _, rfl, hcu, rfl, _, _, rfl, _, _, rfl, _, _, rfl, _, _, rfl, _, _, rfl, rfl, ?_⟩
    generalize (lostOf sh Ch)[i] = pl at *
    have no : cutSlot sh pl = none → ∃ u3 u4 u5 u6 u7 u8 u9', [some (V.ref q), some (.ref r1), some (.ref r2), some (.ref c), some (.str (wordOf false)), some (.int (t : Nat)), some (.int (b : Nat)), some (.int (n : Nat)), some x0, u9] = [some (.ref q), some (.ref r1), some (.ref r2), u3, u4, u5, u6, u7, u8, u9'] ∧ XM T (fun b => b = p ∨ b = l) H2 H' ∧ ShAt K C CS H' q qx p dx l (cutGo sh sh ((lostOf sh Ch).take (i + 1))) (done + cuts sh ((lostOf sh Ch).take (i + 1))) := fun h => by
      refine ⟨_, _, _, _, _, _, _, rfl, x3, ?_⟩
      rw [stp, stc, h]
      unfold cut1
      rw [h]
      simpa using st3
    cases nx with
    | none =>
      obtain rfl : x0 = .non := by cases hx0; rfl
      exact ⟨_, rfl, rfl, _, rfl, iteF (iteF (no (by unfold cutSlot; rw [es])))⟩
    | some np =>
      obtain ⟨cn, rfl, hcn⟩ := dp_pl hx0
      refine ⟨_, rfl, rfl, _, rfl, iteT ⟨_, rfl, _, rfl, cn, c, [(np.1 : Int), (np.2 : Int)], [(pl.1 : Int), (pl.2 : Int)], rfl, rfl, hcn, hc, _, rfl, ?_⟩⟩
      by_cases hlt : ltP np pl = true
      · have hlt' : HT.lexLt [(np.1 : Int), (np.2 : Int)] [(pl.1 : Int), (pl.2 : Int)] = true := hlt
        rw [hlt']
        have ecs : cutSlot sh pl = some (.held false t b n none) := by unfold cutSlot; rw [es]; show (if ltP np pl = true then _ else _) = _; rw [if_pos hlt]
        have h1 : pl.1 < sh.length := (List.getElem?_eq_some_iff.mp q1).1
        have h2 : pl.2 < 8 := by rw [← okp0.ns]; exact (List.getElem?_eq_some_iff.mp q2).1
        obtain ⟨sl, es2⟩ := slotAt_in (sh := cutGo sh sh ((lostOf sh Ch).take i)) (pl := pl) (fun pg hm => (st3.ok pg hm).ns) (by rw [cutGo_len]; exact h1) h2
        obtain ⟨pg, e1, e3, _, e4⟩ := slot_get es2
        have okp := st3.ok pg (List.mem_of_getElem? e1)
        refine iteT ⟨_, rfl, q, CS, qx, _, _, rfl, st3.ins, S.cl, S.n1, rfl, p, dx, _, rfl, st3.dk.ins, rfl, _, rfl, c, _, 0, _, rfl, rfl, hc, atI0, page_sh st3 e1 fun u du => ?_⟩
        refine ⟨_, rfl, q, CS, qx, _, _, rfl, st3.ins, S.cl, S.n1, rfl, p, dx, _, rfl, st3.dk.ins, rfl, _, rfl, c, _, 0, _, rfl, rfl, hc, atI0, _, rfl, _, rfl, c, _, 1, _, rfl, rfl, hc, atI_nat (j := 1) rfl, _, rfl, _, rfl, _, rfl, _, rfl, (by show 5 ≤ sizeLine; decide), fun t5 h5 => ?_⟩
        have x5 := XX.new (T := T) (o := .tup [.str (wordOf false), .int (t : Nat), .int (b : Nat), .int (n : Nat), .non]) h5
        refine ⟨u, pg, pl.2, .ref t5, .held false t b n none, rfl, Dp.xx x5 _ _ du, okp.ns, h2, .tup (SqT.of upd_same) (.cons (.str _) (.cons (.int _) (.cons (.int _) (.cons (.int _) (.cons .non .nil))))), fun H6 r6 x6 dr => ?_⟩
        have x56 := x5.trans x6
        dsimp only [tNil, List.append_nil]
        refine write_sh (T := T) (st3.xx x56) (by rw [cutGo_len]; exact h1) (okp.setSlot (s := .held false t b n none) ⟨oks.1, oks.2.1, oks.2.2.1, fun p hp => by cases hp⟩) dr (x56.tabG _ (x3.tabG _ (x12.tabG _ g1))) (x56.tabG _ (x3.tabG _ (x12.tabG _ g2'))) fun H7 x7 st7 => ?_
        refine ⟨some (.ref c), some (.str (wordOf false)), some (.int (t : Nat)), some (.int (b : Nat)), some (.int (n : Nat)), some (.ref cn), some u, rfl, (x3.trans x56.xm).trans x7, ?_⟩
        rw [stp, stc, ecs]
        unfold cut1
        rw [ecs]
        show ShAt K C CS H7 q qx p dx l (setAt _ pl _) _
        rw [e4, if_pos (show (some (Slot.held false t b n none)).isSome = true from rfl), show done + ((cuts sh ((lostOf sh Ch).take i) + 1 : Nat) : Int) = done + (cuts sh ((lostOf sh Ch).take i) : Nat) + 1 by omega]
        exact st7
      · have hlt' : HT.lexLt [(np.1 : Int), (np.2 : Int)] [(pl.1 : Int), (pl.2 : Int)] = false := by simpa [ltP] using hlt
        rw [hlt']
        exact iteF (no (by unfold cutSlot; rw [es]; show (if ltP np pl = true then _ else _) = _; rw [if_neg hlt]))
  · rintro σ' H' ⟨u3, u4, u5, u6, u7, u8, u9, rfl, x3, st3⟩
    rw [hlx, List.take_length] at st3
    have xx := x12.xm.trans x3
    refine ⟨_, rfl, q, qx, _, rfl, st3.ins, rfl, _, rfl, q, qx, p, dx, l, _, _, r2, xs, lostOf sh Ch, rfl, st3, SqL.of (x3.lst e2 fun z => z.elim nr2.1 nr2.2), dpAll_xm x3 (pl_flat _) d2, nr2.1, nr2.2, xx.tabG _ g1, xx.tabG _ g2', fun z hz => ?_, fun H9 x9 st9 => k H9 (xx.trans x9) st9⟩
    obtain ⟨t, b, n, nx, es⟩ := lostOf_part hz
    obtain ⟨pg0, q1, q2, _, _⟩ := slot_get es
    rw [cutGo_len]
    exact ⟨(List.getElem?_eq_some_iff.mp q1).1, by rw [← (st.ok pg0 (List.mem_of_getElem? q1)).ns]; exact (List.getElem?_eq_some_iff.mp q2).1⟩
end
end GX
/-! slotpages.shelf: Shelf.__init__; slotpages.plays: a Play that is refused -/
namespace GX
open PySem PySem.Spec PyProof.Rows L2 LamX
theorem pss_false {X : Cx} {b : List Stmt} : PSs X b (fun _ _ _ => False) := ⟨fun _ _ _ _ _ _ h => h.elim⟩
def spSInit (K : PySem.W.Frag) (T : List (Addr × Str)) (C CS P1 P2 : Addr) : Sp := fun vs H Q _ => ∃ q qx p dx l sh done Ch, vs = [.ref q, .ref p] ∧ H q = some (.ins CS qx []) ∧ DiskAt K C H p dx l (shD sh) done none false ∧ (∀ pg ∈ sh, pg.Ok) ∧ sh.length ≤ 12 ∧
  (∀ z ∈ rowPlaces sh, Chain sh (some z) (Ch z) ∧ (Ch z).length ≤ 200) ∧ GxR.TabG H P1 ∧ GxR.TabG H P2 ∧
  ∀ H', XM T (fun b => b = q ∨ b = p ∨ b = l) H H' → ShAt K C CS H' q qx p dx l (freeAll (cutGo sh sh (lostOf sh Ch)) (lostOf sh Ch)) (done + cuts sh (lostOf sh Ch) + (lostOf sh Ch).length) → Q .non H'
section
variable {P : Program} {w : World} {K : PySem.W.Frag} {mg : Str → Option Value} {base : Heap} {T : List (Addr × Str)} {C CS P1 P2 cD : Addr}
theorem sc_SInit : FnScope ["self", "disk"] ["self", "disk"] (defScope s_SInit) := ⟨rfl, rfl, rfl, by decide +kernel, rfl, by decide +kernel, by decide +kernel⟩
theorem ok_SInit {f : Addr} {fd : FuncData} (F : L2.Fun K "__init__" "Shelf.__init__" s_SInit f fd) (S : STx K CS) (mF : Met P w K mg base CX0 CS "_free_lost" ["self"] 9 (spSFreeLost K T C CS P1 P2)) :
    FnOk P w K mg base (L2.CX P w) 10 f fd ["self", "disk"] (spSInit K T C CS P1 P2) := by
  refine F.okX sc_SInit (fun vs H Q E h => by obtain ⟨q, qx, p, dx, l, sh, done, Ch, rfl, _⟩ := h; rfl) (fun cdv A outer s H vs Q E hr h => ?_)
  obtain ⟨q, qx, p, dx, l, sh, done, Ch, rfl, hq, dk, hok, hle, hch, g1, g2', k⟩ := h
  have nd := sc_SInit.nd
  refine ⟨_, pss_cons (ps_fld (pv 0) (pv 1) rfl) (pss_one (ps_expr (pe_met0 mF S.cl hr pass0 (pv 0)))), ?_⟩
  have nqp : q ≠ p := fun e => by rw [e, dk.ins] at hq; injection hq with hq; injection hq with _ _ h; unfold dF at h; cases h
  have nql : q ≠ l := fun e => by obtain ⟨_, h, _⟩ := dk.lst; rw [e, h] at hq; cases hq
  refine ⟨_, rfl, _, rfl, q, CS, qx, _, rfl, hq, S.cl, S.n1, (by show 0 < 1000; decide), ?_⟩
  have x1 : XM T (fun b => b = q) H (upd H q (.ins CS qx [("_disk", .ref p)])) := XM.upd hq rfl True.intro
  have st : ShAt K C CS (upd H q (.ins CS qx [("_disk", .ref p)])) q qx p dx l sh done := ⟨upd_same, dk.xm x1 (Ne.symm nqp) (Ne.symm nql), hok, hle⟩
  exact ⟨_, rfl, q, qx, _, rfl, upd_same, rfl, q, qx, p, dx, l, sh, done, Ch, rfl, st, hch, x1.tabG _ g1, x1.tabG _ g2', fun H' x st' => k H' ((x1.mono fun _ h => .inl h).trans (x.mono fun _ h => .inr h)) st'⟩
end
end GX
/-! the shelf's deeds on typed pages, as functions, and what the program's methods ask -/
namespace GX
open PySem PySem.Spec PyProof.Rows L2 LamX
/-- the places to which z leads -/
def chainX (sh : List Page) : Nat → Option Pl → List Pl
  | 0, _ => []
  | _ + 1, none => []
  | n + 1, some p => p :: chainX sh n (((slotAt sh p).map Slot.next).getD none)
def chainB (sh : List Page) : Option Pl → List Pl → Bool
  | none, [] => true
  | some p, q :: l => decide (p = q) && (match slotAt sh p with
    | some (.held _ _ _ _ n) => chainB sh n l
    | _ => false)
  | _, _ => false
theorem chain_of {sh : List Page} : ∀ {l : List Pl} {z : Option Pl}, chainB sh z l = true → Chain sh z l
  | [], none, _ => .nil
  | [], some _, h => by cases h
  | _ :: _, none, h => by cases h
  | q :: l, some p, h => by
    obtain ⟨h1, h2⟩ := Bool.and_eq_true_iff.mp (show (decide (p = q) && _) = true from h)
    obtain rfl := of_decide_eq_true h1
    split at h2
    · rename_i e
      exact .cons e (chain_of h2)
    · cases h2
def chn (sh : List Page) (p : Pl) : List Pl := chainX sh 97 (some p)
/-- the row's chain is one, and short -/
def chainOk (sh : List Page) (p : Pl) : Bool := chainB sh (some p) (chn sh p) && (decide ((chn sh p).length ≤ 199) && (chn sh p).all fun z => decide (z.1 < sh.length) && decide (z.2 < 8))
theorem chn_cons (sh : List Page) (p : Pl) : ∃ ps, chn sh p = p :: ps := ⟨_, rfl⟩
structure ChainP (sh : List Page) (p : Pl) : Prop where
  ch : Chain sh (some p) (chn sh p)
  le : (chn sh p).length ≤ 199
  inn : ∀ z ∈ chn sh p, z.1 < sh.length ∧ z.2 < 8
theorem chainOk_of {sh : List Page} {p : Pl} (h : chainOk sh p = true) : ChainP sh p := by
  obtain ⟨h1, h2⟩ := Bool.and_eq_true_iff.mp h
  obtain ⟨h2, h3⟩ := Bool.and_eq_true_iff.mp h2
  refine ⟨chain_of h1, of_decide_eq_true h2, fun z hz => ?_⟩
  obtain ⟨a, b⟩ := Bool.and_eq_true_iff.mp (List.all_eq_true.mp h3 z hz)
  exact ⟨of_decide_eq_true a, of_decide_eq_true b⟩
def usedB (sh : List Page) : Bool := sh.all fun pg => decide (pg.used ≤ 24)
theorem usedB_of {sh : List Page} (h : usedB sh = true) : ∀ pg ∈ sh, pg.used ≤ 24 := fun pg hp => of_decide_eq_true (List.all_eq_true.mp h pg hp)
/-- put: none where it is Full -/
def putX (sh : List Page) (vals : List Nat) : Option (List Page × Nm) := match usableP sh none with
  | [] => none
  | n :: pgs => if (sharesGo false vals.length (roomsOf sh (n, spotAt sh n) pgs)).2 = 0 then
      some (settled sh (n, spotAt sh n) (pgs.zip ((sharesGo false vals.length (roomsOf sh (n, spotAt sh n) pgs)).1.drop 1)) vals, ((n, spotAt sh n), turnAt sh (n, spotAt sh n))) else none
def changeX (sh : List Page) (pl : Pl) (vals : List Nat) : Option (List Page) :=
  if (sharesGo false vals.length (roomsOf sh pl (usableP sh (some pl.1)))).2 = 0 then some (freeAll (settled sh pl (partsOf sh pl (usableP sh (some pl.1)) vals.length) vals) (chn sh pl).tail) else none
def dropX (sh : List Page) (nm : Nm) : List Page := freeAll (setAt sh nm.1 (.free (nm.2 + 1))) (chn sh nm.1).tail
theorem natsD_inj {a b : List Nat} (h : natsD a = natsD b) : a = b := by
  have h : intsD a = intsD b := by injection h
  unfold intsD at h
  refine List.map_inj_right (f := fun (n : Nat) => PyData.int (n : Int)) (fun x y e => ?_) |>.mp h
  injection e with e
  omega
theorem valsOk_nats {vals : List Nat} (h1 : vals.length ≤ 300) (h2 : ∀ c ∈ vals, c ≤ 99) : valsOk (natsD vals) = true := by
  show (decide ((intsD vals).length ≤ 300) && (intsD vals).all fun d => isNum d 0 99) = true
  rw [show (intsD vals).length = vals.length from List.length_map .., decide_eq_true h1, Bool.true_and, List.all_eq_true]
  intro d hd
  obtain ⟨c, hc, e⟩ := List.mem_map.mp hd
  rw [← e]
  have := h2 c hc
  exact isNum_nat (n := c) (by omega) (by omega)
section
variable {K : PySem.W.Frag} {T : List (Addr × Str)} {C CS P1 P2 PF PV cFu cBR cNR : Addr} {H : Hp} {q qx p dx sl : Addr} {sh : List Page} {d : Int} {Q : VK} {E : XK}
structure TG (T : List (Addr × Str)) (P1 P2 PF PV : Addr) (H : Hp) : Prop where
  g1 : GxR.TabG H P1
  g2 : GxR.TabG H P2
  gF : GxR.TabG H PF
  gV : GxR.TabG H PV
  tb : Tabs T H
theorem TG.xm {S : Addr → Prop} {H' : Hp} (g : TG T P1 P2 PF PV H) (x : XM T S H H') : TG T P1 P2 PF PV H' := ⟨x.tabG _ g.g1, x.tabG _ g.g2, x.tabG _ g.gF, x.tabG _ g.gV, x.tabs g.tb⟩
def nmV (nm : Nm) : List V := [.int (nm.1.1 : Nat), .int (nm.1.2 : Nat), .int (nm.2 : Nat)]
theorem sp_put {u : V} {vals : List Nat} (st : ShAt K C CS H q qx p dx sl sh d) (du : Dp K H u (natsD vals)) (n1 : u ≠ .ref p) (n2 : u ≠ .ref sl) (h1 : vals.length ≤ 300) (h2 : ∀ c ∈ vals, c ≤ 99) (hu : usedB sh = true) (g : TG T P1 P2 PF PV H)
    (kf : putX sh vals = none → ∀ H', XX T H H' → E (.ref cFu) none H')
    (ko : ∀ sh' nm, putX sh vals = some (sh', nm) → ∀ H' t d', XM T (fun b => b = p ∨ b = sl) H H' → H t = none → ShAt K C CS H' q qx p dx sl sh' d' → H' t = some (.tup (nmV nm)) → Q (.ref t) H') :
    spSPut K T C CS P1 P2 PF PV cFu cBR [.ref q, u] H Q E := by
  refine ⟨q, qx, p, dx, sl, sh, d, u, natsD vals, rfl, st, du, n1, n2, usedB_of hu, g.g1, g.g2, g.gF, g.gV, g.tb, (fun h => by rw [valsOk_nats h1 h2] at h; cases h), (fun _ e => kf (by unfold putX; rw [e])), fun n pgs vals' ed _ _ hup => ?_⟩
  obtain rfl := natsD_inj ed
  refine ⟨fun hne => kf (by unfold putX; rw [hup]; exact if_neg hne), fun he H' t x nt st' et => ko _ ((n, spotAt sh n), turnAt sh (n, spotAt sh n)) (by unfold putX; rw [hup]; exact if_pos he) H' t _ x nt st' et⟩
theorem placeOf_nm {nm : Nm} {pl : Pl} (h : placeOf sh (nmD nm) = some pl) : pl = nm.1 ∧ ∃ b s nx, slotAt sh nm.1 = some (.held true nm.2 b s nx) := by
  obtain ⟨n, ed, _, _, _, b, s, nx, es⟩ := placeOf_yes h
  have e : [PyData.int nm.1.1, .int nm.1.2, .int nm.2] = [PyData.int pl.1, .int pl.2, .int n] := by injection ed
  injection e with e1 e
  injection e with e2 e
  injection e with e3 _
  have e1 : (nm.1.1 : Int) = pl.1 := by injection e1
  have e2 : (nm.1.2 : Int) = pl.2 := by injection e2
  have e3 : (nm.2 : Int) = n := by injection e3
  have ep : pl = nm.1 := Prod.ext (by omega) (by omega)
  have en : n = nm.2 := by omega
  rw [ep, en] at es
  exact ⟨ep, b, s, nx, es⟩
/-- the name is that of a row whose chain is one -/
def liveB (sh : List Page) (nm : Nm) : Bool := decide (placeOf sh (nmD nm) = some nm.1) && chainOk sh nm.1
theorem live_of {nm : Nm} (h : liveB sh nm = true) : placeOf sh (nmD nm) = some nm.1 ∧ ChainP sh nm.1 := by
  obtain ⟨h1, h2⟩ := Bool.and_eq_true_iff.mp h
  exact ⟨of_decide_eq_true h1, chainOk_of h2⟩
theorem chain_tail {pl : Pl} (c : ChainP sh pl) : Chain sh (some pl) (pl :: (chn sh pl).tail) ∧ (chn sh pl).tail.length ≤ 199 ∧ ∀ z ∈ (chn sh pl).tail, z.1 < sh.length ∧ z.2 < 8 := by
  obtain ⟨ps, e⟩ := chn_cons sh pl
  have h1 := c.ch
  have h2 := c.le
  have h3 := c.inn
  rw [e] at h1 h2 h3 ⊢
  refine ⟨h1, by rw [List.length_cons] at h2; show ps.length ≤ 199; omega, fun z hz => h3 z (List.mem_cons_of_mem _ hz)⟩
theorem sp_change {u v : V} {vals : List Nat} {nm : Nm} (st : ShAt K C CS H q qx p dx sl sh d) (dn : Dp K H u (nmD nm)) (du : Dp K H v (natsD vals)) (n1 : v ≠ .ref p) (n2 : v ≠ .ref sl) (h1 : vals.length ≤ 300) (h2 : ∀ c ∈ vals, c ≤ 99) (hu : usedB sh = true) (hl : liveB sh nm = true) (g : TG T P1 P2 PF PV H)
    (kf : changeX sh nm.1 vals = none → ∀ H', XX T H H' → E (.ref cFu) none H')
    (ko : ∀ sh', changeX sh nm.1 vals = some sh' → ∀ H' d', XM T (fun b => b = p ∨ b = sl) H H' → ShAt K C CS H' q qx p dx sl sh' d' → Q .non H') :
    spSChange K T C CS P1 P2 PF PV cFu cBR cNR [.ref q, u, v] H Q E := by
  obtain ⟨hp, c⟩ := live_of hl
  obtain ⟨c1, c2, c3⟩ := chain_tail c
  refine ⟨q, qx, p, dx, sl, sh, d, u, nmD nm, v, natsD vals, rfl, st, dn, du, n1, n2, usedB_of hu, g.g1, g.g2, g.gF, g.gV, g.tb, (fun h => by rw [hp] at h; cases h), (fun pl _ h => by rw [valsOk_nats h1 h2] at h; cases h), fun pl vals' hpl ed _ _ => ?_⟩
  obtain rfl := natsD_inj ed
  rw [hp] at hpl
  cases hpl
  refine ⟨(chn sh nm.1).tail, c1, c2, c3, fun hne => kf (if_neg hne), fun he H' x st' => ko _ (if_pos he) H' _ x st'⟩
theorem sp_drop {u : V} {nm : Nm} (st : ShAt K C CS H q qx p dx sl sh d) (dn : Dp K H u (nmD nm)) (hl : liveB sh nm = true) (g : TG T P1 P2 PF PV H) (ko : ∀ H' d', XM T (fun b => b = p ∨ b = sl) H H' → ShAt K C CS H' q qx p dx sl (dropX sh nm) d' → Q .non H') :
    spSDrop K T C CS P1 P2 cNR [.ref q, u] H Q E := by
  obtain ⟨hp, c⟩ := live_of hl
  obtain ⟨c1, c2, c3⟩ := chain_tail c
  refine ⟨q, qx, p, dx, sl, sh, d, u, nmD nm, rfl, st, dn, g.g1, g.g2, (fun h => by rw [hp] at h; cases h), fun pl n hpl ed => ?_⟩
  rw [hp] at hpl
  cases hpl
  have e : [PyData.int nm.1.1, .int nm.1.2, .int nm.2] = [PyData.int nm.1.1, .int nm.1.2, .int n] := by injection ed
  injection e with _ e
  injection e with _ e
  injection e with e _
  have e : (nm.2 : Int) = n := by injection e
  obtain rfl : nm.2 = n := by omega
  exact ⟨(chn sh nm.1).tail, c1, c2, c3, fun H' x st' => ko H' _ x st'⟩
theorem sp_get {u : V} {nm : Nm} (st : ShAt K C CS H q qx p dx sl sh d) (dn : Dp K H u (nmD nm)) (hl : liveB sh nm = true) (ko : ∀ H' r, XX T H H' → H r = none → H' r = some (.lst ((valsOf sh (chn sh nm.1)).map fun (n : Nat) => V.int (n : Int))) → Q (.ref r) H') :
    spSGet K T C CS cNR [.ref q, u] H Q E := by
  obtain ⟨hp, c⟩ := live_of hl
  refine ⟨q, qx, p, dx, sl, sh, d, u, nmD nm, rfl, st, dn, (fun h => by rw [hp] at h; cases h), fun pl hpl => ?_⟩
  rw [hp] at hpl
  cases hpl
  exact ⟨_, c.ch, by have := c.le; omega, ko⟩
theorem sp_parts {u : V} {nm : Nm} (st : ShAt K C CS H q qx p dx sl sh d) (dn : Dp K H u (nmD nm)) (hl : liveB sh nm = true) (ko : ∀ H', XX T H H' → Q (.int ((chn sh nm.1).length : Int)) H') :
    spSParts K T C CS cNR [.ref q, u] H Q E := by
  obtain ⟨hp, c⟩ := live_of hl
  refine ⟨q, qx, p, dx, sl, sh, d, u, nmD nm, rfl, st, dn, (fun h => by rw [hp] at h; cases h), fun pl hpl => ?_⟩
  rw [hp] at hpl
  cases hpl
  exact ⟨_, c.ch, by have := c.le; omega, ko⟩
theorem sp_room {PR : Addr} (st : ShAt K C CS H q qx p dx sl sh d) (hu : usedB sh = true) (gR : GxR.TabG H PR) (g : TG T P1 P2 PF PV H) (ko : ∀ H' t, XX T H H' → H t = none → H' t = some (.tup [.int (roomCells sh : Nat), .int (roomSlots sh : Nat)]) → Q (.ref t) H') :
    spSRoom K T C CS PR PF [.ref q] H Q E := ⟨q, qx, p, dx, sl, sh, d, rfl, st, usedB_of hu, gR, g.gF, g.tb, ko⟩
theorem sp_names (st : ShAt K C CS H q qx p dx sl sh d) (ko : ∀ H' r xs, XX T H H' → H r = none → H' r = some (.lst xs) → DpAll K H' xs ((namesOf sh).map nmD) → Q (.ref r) H') : spSNames K T C CS [.ref q] H Q E := ⟨q, qx, p, dx, sl, sh, d, rfl, st, ko⟩
end
end GX
/-! dicts with tuple keys: d.pop(k), sorted(d); a method that may raise in a try -/
namespace GX
open PySem PySem.Spec PyProof.Rows L2
section
variable {X : Cx}
def rPop1T : V → List V → Hp → VK → Prop := fun x xs H Q => ∃ (a : Addr) (kvs : List (List L2.Key × V)) (k : List L2.Key) (b : Addr) (v : V), x = .ref a ∧ xs = [.ref b] ∧ H a = some (.dT kvs) ∧ H b = some (.tup (k.map kV)) ∧ valV kvs k = some v ∧ Q v (upd H a (.dT (dropK kvs k)))
theorem mt_pop1T (hu : X.A.units + 1 < cLine) : MtR X "dict.pop" rPop1T := by
  intro pins s σ H x xs v us Q I rx rxs h
  obtain ⟨a, kvs, k, b, v0, rfl, rfl, ha, hb, hv, q⟩ := h
  cases rx
  obtain ⟨u1, rfl, r1⟩ := vals1 rxs
  cases r1
  obtain ⟨z, hd, xs', rel, dd⟩ := dt_of I.hok ha
  have hz : xs'.length ≤ sizeLine := by rw [← Paired.length rel]; exact z
  have r := rel.val k
  rw [hv] at r
  obtain ⟨w', hw, rw'⟩ := RelO.some_of r
  obtain ⟨p, hp, hp2⟩ := Option.map_eq_some_iff.mp hw
  refine call_pop_heap (more := []) (.inl rfl) (PySem.F.args_dict_pop_2 _ _) (tupleKind_room_in1 hu) (key_of I.hok hb) hd dd hp (fun h' dd' hs => ?_) hz
  obtain ⟨o, es, ep, hq, h2, h3, h4, _, h5⟩ := dd'
  have I2 : Inv X pins σ (upd H a (.dT (dropK kvs k))) { s with heap := h', toks := s.toks + (tupleKind (mixKind X.prog X.w)).draws k } :=
    d_write I (by rw [ha]; exact True.intro) hs ⟨o, hq⟩ ⟨Nat.le_trans (dropK_le kvs k) z, hd, _, (DX.KT_drop k rel).keeps (fun c ys ec => (by rw [upd_ne (ne_of ec ha (fun z => nomatch z))]; exact ec)), o, es, ep, hq, h2, h3, h4, h5⟩
  show EP X pins σ Q p.2 _
  exact ⟨v0, _, I2, by rw [hp2]; exact rw', q⟩
/-- sorted(d), fewer than 64 keys, each d ints in [0, B) -/
def rSortDT (d : Nat) (B : Int) : List V → Hp → VK → Prop := fun vs H Q => ∃ (a : Addr) (kvs : List (List L2.Key × V)), vs = [V.ref a] ∧ H a = some (.dT kvs) ∧ kvs.length < 64 ∧ (∀ e ∈ kvs, ∃ ns : List Int, e.1 = ns.map Sum.inl ∧ ns.length = d ∧ TS.Bd B ns) ∧
  ∀ (bs : List (List Int × Addr)) (p : Addr), (bs.map fun z => z.1.map Sum.inl).Perm (kvs.map (·.1)) → bs.Pairwise (fun x y => TS.code B x.1 ≤ TS.code B y.1) → (∀ z ∈ bs, H z.2 = some (.tup (z.1.map V.int))) → H p = none → Q (.ref p) (upd H p (.lst (bs.map fun z => V.ref z.2)))
theorem kt_rows {H : Hp} {P : List L2.Key → Prop} : ∀ {kvs : List (List L2.Key × V)} {xs : List (List L2.Key × Addr × Value)}, KT H kvs xs → (∀ e ∈ kvs, P e.1) → ∀ x ∈ xs, P x.1 ∧ H x.2.1 = some (.tup (x.1.map kV))
  | _, _, Paired.nil, _, x, hx => nomatch hx
  | _, _, Paired.cons h t, hp, x, hx => by
    rcases List.mem_cons.mp hx with e | e
    · rw [e, ← h.1]; exact ⟨hp _ List.mem_cons_self, h.2.1⟩
    · exact kt_rows t (fun z hz => hp z (List.mem_cons_of_mem _ hz)) x e
theorem kt_keys {H : Hp} : ∀ {kvs : List (List L2.Key × V)} {xs : List (List L2.Key × Addr × Value)}, KT H kvs xs → xs.map (·.1) = kvs.map (·.1)
  | _, _, Paired.nil => rfl
  | _, _, Paired.cons h t => by rw [List.map_cons, List.map_cons, kt_keys t, h.1]
theorem kV_ints : ∀ ns : List Int, (ns.map Sum.inl : List L2.Key).map kV = ns.map V.int
  | [] => rfl
  | n :: ns => by rw [List.map_cons, List.map_cons, kV_ints ns]; rfl
theorem inl_inj : ∀ {ns ms : List Int}, (ns.map Sum.inl : List L2.Key) = ms.map Sum.inl → ns = ms
  | [], [], _ => rfl
  | [], _ :: _, h => by cases h
  | _ :: _, [], h => by cases h
  | n :: ns, m :: ms, h => by
    rw [List.map_cons, List.map_cons] at h
    injection h with h1 h2
    injection h1 with h1
    rw [h1, inl_inj h2]
theorem mem_perm_map {α β : Type} {f : α → β} : ∀ {l : List α} {m : List β}, m.Perm (l.map f) → ∃ l' : List α, l'.Perm l ∧ l'.map f = m := by
  intro l m p
  generalize hn : l.map f = n at p
  induction p generalizing l with
  | nil =>
    refine ⟨l, .refl _, ?_⟩
    exact hn
  | @cons x l1 l2 p ih =>
    cases l with
    | nil => cases hn
    | cons a l =>
      rw [List.map_cons] at hn
      injection hn with h1 h2
      obtain ⟨l', h3, h4⟩ := ih h2
      exact ⟨a :: l', h3.cons a, by rw [List.map_cons, h4, h1]⟩
  | swap x y t =>
    match l, hn with
    | a :: b :: l, hn =>
      rw [List.map_cons, List.map_cons] at hn
      injection hn with h1 h2
      injection h2 with h2 h3
      exact ⟨b :: a :: l, .swap _ _ _, by rw [List.map_cons, List.map_cons, h1, h2, h3]⟩
  | trans p q ih1 ih2 =>
    obtain ⟨l', h1, h2⟩ := ih2 hn
    obtain ⟨l2, h3, h4⟩ := ih1 h2
    exact ⟨l2, h3.trans h1, h4⟩
theorem cr_sortedDT {d : Nat} {B : Int} (hd1 : 1 ≤ d) (hcalm : X.calm = true) : CallR X (.builtin "sorted") (rSortDT d B) := by
  intro pins s σ H vs us Q I r h
  obtain ⟨a, kvs, rfl, ha, h64, hk, q⟩ := h
  rw [Vals.ref1 r]
  obtain ⟨z, hsy, xs, rel, o, es, ep, ho, hx, hdt, he, his, hn⟩ := dt_of I.hok ha
  have l1 : es.size = xs.length := size_of_entries he
  have l2 : kvs.length = xs.length := Paired.length rel
  have rows := kt_rows (P := fun k => ∃ ns : List Int, k = ns.map Sum.inl ∧ ns.length = d ∧ TS.Bd B ns) rel hk
  refine Calls.call_function_entry PyProof.Rows.kind_sorted PyProof.Rows.plain_sorted PyProof.Rows.entry_sorted (PyProof.Rows.args_sorted1 _) ?_
  unfold Builtin.«sorted»
  refine wpAny_bind (m := checkCount "sorted" 1 1 _) (wpAny_pure ?_)
  refine wpAny_bind (PySem.W.kdu_collect (A := X.A.in1) (kdl_raw hsy hx hdt) (I.ok.hd hcalm) ho (by rw [sizeLine_eq]; omega) fun h' tk acc' hkp it => ?_)
  have ea : acc'.toList = xs.map fun x => Value.ref x.2.1 := by
    have hl : acc'.toList.length = xs.length := by rw [Array.length_toList, it.1]; exact l1
    apply List.ext_getElem?
    intro j
    rw [List.getElem?_map]
    cases hj : acc'.toList[j]? with
    | none =>
      have h1 := List.getElem?_eq_none_iff.mp hj
      rw [List.getElem?_eq_none (by omega)]
      all_goals rfl
    | some v =>
      obtain ⟨en, hen, hv⟩ := it.2 j v (by rw [← Array.getElem?_toList]; exact hj)
      have qe := entry_at he j
      rw [hen] at qe
      cases hb : xs[j]? with
      | none =>
        rw [hb] at qe
        exact nomatch (show some en = none from qe)
      | some b =>
        rw [hb] at qe
        have e2 : en = entryOfKey (tupleKind (mixKind X.prog X.w)) b := Option.some.inj qe
        rw [hv, e2]
        all_goals rfl
  have I1 : Inv X pins σ H { s with heap := h', toks := tk } := I.kept hkp
  have hal : acc'.toList.length = kvs.length := by rw [ea, List.length_map, l2]
  refine wpAny_bind (wpAny_newList ?_ (by rw [hal, sizeLine_eq]; omega))
  have hoL : (h'.push (seqObj "list" acc'.toList.toArray 0)).get? h'.objs.size = some (seqObj "list" acc'.toList.toArray 0) := Heap.get?_push_size _ rfl
  have keep : ∀ b o, h'.get? b = some o → (h'.push (seqObj "list" acc'.toList.toArray 0)).get? b = some o := fun b o e => Heap.get?_push_of_some _ e
  have raw : ∀ x ∈ xs, ∃ ns : List Int, x.1 = ns.map Sum.inl ∧ ns.length = d ∧ TS.Bd B ns ∧ H x.2.1 = some (.tup (ns.map V.int)) ∧ TS.TupInts (h'.push (seqObj "list" acc'.toList.toArray 0)) (.ref x.2.1) ns := fun x hx => by
    obtain ⟨⟨ns, e1, e2, e3⟩, e4⟩ := rows x hx
    rw [e1, kV_ints] at e4
    exact ⟨ns, e1, e2, e3, e4, (tupI_raw I1 (SqT.of e4)).keeps fun b o e _ => keep b o e⟩
  show wpAny _ _ _ _ _ { s with heap := h'.push (seqObj "list" acc'.toList.toArray 0), toks := tk }
  refine wpAny_bind (wpAny_holding (TS.call_sort_tups (s := { s with heap := h'.push (seqObj "list" acc'.toList.toArray 0), toks := tk }) (d := d) (B := B) hoL (by rw [hal]; exact h64) hd1 (fun v hv => ?_) fun out g1 g2 => ?_))
  · rw [ea] at hv
    obtain ⟨x, hx, rfl⟩ := List.mem_map.mp hv
    obtain ⟨ns, _, e2, e3, _, e5⟩ := raw x hx
    exact ⟨ns, e5, e2, e3⟩
  · obtain ⟨e', he'⟩ := PyProof.Rows.sortedHeap_at (vs := acc'.toList) (out := out) hoL
    have g1' : out.toList.Perm (xs.map fun x => Value.ref x.2.1) := by rw [← ea]; exact g1
    obtain ⟨xs', hp', hm'⟩ := mem_perm_map g1'
    let bs : List (List Int × Addr) := xs'.map fun x => (TS.intsOf (h'.push (seqObj "list" acc'.toList.toArray 0)) (.ref x.2.1), x.2.1)
    have hin : ∀ x ∈ xs', x ∈ xs := fun x hx => hp'.mem_iff.mp hx
    have e6 : out.toList = bs.map fun z => Value.ref z.2 := by rw [← hm', List.map_map]; rfl
    have hlen : (bs.map fun z => V.ref z.2).length ≤ sizeLine := by
      rw [List.length_map, List.length_map, hp'.length_eq, ← l2, sizeLine_eq]
      omega
    have hvv : Vals (bs.map fun z => V.ref z.2) out.toList := by
      have h0 := vals_refs (bs.map (·.2))
      have e7 : (bs.map (·.2)).map V.ref = bs.map fun z => V.ref z.2 := List.map_map
      have e8 : (bs.map (·.2)).map Value.ref = bs.map fun z => Value.ref z.2 := List.map_map
      rw [e6, ← e7, ← e8]
      exact h0
    refine wpAny_pure ⟨_, rfl, .ref h'.objs.size, upd H h'.objs.size (.lst (bs.map fun z => V.ref z.2)), I1.laid (t' := tk) (fun b u e => ?_) (Nat.le_refl _)
      (show ObjOk X.prog X.w _ _ _ (.lst (bs.map fun z => V.ref z.2)) from ⟨hlen, out.toList, e', hvv, by rw [Array.toArray_toList]; exact he'⟩), rfl, q bs _ ?_ ?_ ?_ (I1.hok.fresh (Nat.le_refl _))⟩
    · have hb : b < h'.objs.size := Heap.lt_size e
      rw [PyProof.Rows.sortedHeap_old (Nat.ne_of_lt hb) (by rw [size_push']; exact Nat.lt_succ_of_lt hb)]
      exact Heap.get?_push_of_some _ e
    · have e7 : (bs.map fun z => (z.1.map Sum.inl : List L2.Key)) = xs'.map (·.1) := by
        rw [List.map_map]
        refine List.map_congr_left fun x hx => ?_
        obtain ⟨ns, e1, _, _, _, e5⟩ := raw x (hin x hx)
        show (TS.intsOf _ (.ref x.2.1)).map Sum.inl = x.1
        rw [e5.ints, e1]
      rw [e7, ← kt_keys rel]
      exact hp'.map _
    · have g2' := g2
      rw [← hm', List.pairwise_map] at g2'
      rw [List.pairwise_map]
      exact g2'
    · intro w hw
      obtain ⟨x, hx, rfl⟩ := List.mem_map.mp hw
      obtain ⟨ns, e1, _, _, e4, e5⟩ := raw x (hin x hx)
      show H x.2.1 = some (.tup ((TS.intsOf _ (.ref x.2.1)).map V.int))
      rw [e5.ints]
      exact e4
end
/-! ### a method that may raise, in a try -/
section
variable {X : Cx} {CX : CXT} {k : Nat} {f C : Addr} {fd : FuncData} {ps : List Str} {sp : Sp} {E : L2.St → XK} {m : Str} {pos apos : Pos} {e o : Expr} {es : List Expr} {ta : TE} {t : TA}
def tMethS (C : Addr) (m : Str) (sp : Sp) (E : L2.St → XK) (ta : TE) (t : TA) : TE := fun σ H Q => tMeth C m sp [] (E σ) ta t σ H Q
theorem pe_methS {pl : Sem Bool} (he : PE X o ta) (c : Cls X.K C) (hm : L2.Meth X.K C m f) (F : FnOk X.prog X.w X.K X.mg X.base CX k f fd ps sp) (hr : Room k X.A) (hb : Binds X.K fd ps []) (hx : ∀ σ, PassesAt CX X σ (E σ)) (ha : PA X (e :: es) t)
    (hst : starEach (e :: es) X.env = (false, eval e X.env) :: starEach es X.env := by rfl) (hpl : (backTo pos (starEach es X.env)).any (·.1) = false := by rfl)
    (ht : eval (.Call (.Attribute o m apos) (e :: es) [] pos) X.env = (do
      let ov ← eval o X.env
      standAt apos.atName
      let (f, first) ← holding [ov] (getMethod ov m pl)
      callWith pos f first (backTo pos (starEach (e :: es) X.env)) (backToKw pos (keywordEach [] X.env))) := by rfl) :
    PE X (.Call (.Attribute o m apos) (e :: es) [] pos) (tMethS C m sp E ta t) := by
  refine ⟨fun pins s σ H Q I h => ?_⟩
  refine PySem.W.methodCall_KW (pl := pl) (thn (he.run pins s σ H _ I h) fun u s1 ⟨x, H1, I1, rx, a, dx, fs, ex, ea, l, q⟩ => ?_) ht
  subst ex
  obtain rfl : u = Value.ref a := rx
  refine getmeth_ok I1 ea c hm l ?_
  refine PySem.W.callWith_K (first := [.ref a]) (h₀ := X.base) I.ok.mod.kin hm.kp (thn (ha.run pos pins s1 σ H1 _ I1 q) fun us s2 ⟨vs, H2, I2, r, q2⟩ => ⟨I2.kIn, ?_⟩) hst hpl
  refine run_fnS (us := .ref a :: us) (vs := .ref a :: vs) F hr hb (hx σ) I2 (.cons rfl r) ?_
  have q3 : sp (V.ref a :: (vs ++ [])) H2 Q (E σ) := q2
  rw [List.append_nil] at q3
  exact q3
theorem pe_metS {pl : Sem Bool} (M : Met X.prog X.w X.K X.mg X.base CX C m ps k sp) (c : Cls X.K C) (hr : Room k X.A) (hx : ∀ σ, PassesAt CX X σ (E σ)) (he : PE X o ta) (ha : PA X (e :: es) t)
    (hst : starEach (e :: es) X.env = (false, eval e X.env) :: starEach es X.env := by rfl) (hpl : (backTo pos (starEach es X.env)).any (·.1) = false := by rfl)
    (ht : eval (.Call (.Attribute o m apos) (e :: es) [] pos) X.env = (do
      let ov ← eval o X.env
      standAt apos.atName
      let (f, first) ← holding [ov] (getMethod ov m pl)
      callWith pos f first (backTo pos (starEach (e :: es) X.env)) (backToKw pos (keywordEach [] X.env))) := by rfl) : PE X (.Call (.Attribute o m apos) (e :: es) [] pos) (tMethS C m sp E ta t) := by
  obtain ⟨f, fd, M⟩ := M
  exact pe_methS he c M.m M.F hr M.b hx ha hst hpl ht
end
end GX
/-! sorted of tuples of ints, any number of them: of a list, of a dict's keys -/
namespace GX
open PySem PySem.Spec PyProof.Rows L2 SrtO
def ltT (h : Heap) (B : Int) (v u : Value) : Bool := decide (TS.code B (TS.intsOf h v) < TS.code B (TS.intsOf h u))
theorem ltT_swo (h : Heap) (B : Int) : Swo (ltT h B) := by
  refine ⟨fun x y e => ?_, fun x y z e1 e2 => ?_⟩
  · have a := of_decide_eq_true e
    exact decide_eq_false (by omega)
  · have a := of_decide_eq_false e1
    have b := of_decide_eq_false e2
    exact decide_eq_false (by omega)
theorem ltT_no {h : Heap} {B : Int} {v u : Value} : ltT h B v u = false ↔ TS.code B (TS.intsOf h u) ≤ TS.code B (TS.intsOf h v) := by
  unfold ltT
  rw [decide_eq_false_iff_not]
  omega
section
variable {prog : Program} {w : World} {A : Around} {E : Value → Shared → Prop} {s : Shared}
theorem tups_cmp {h0 : Heap} {d : Nat} {B : Int} {vs : List Value} (x : TS.TupsOk s.heap d B vs) (y : ∀ v ∈ vs, TS.intsOf s.heap v = TS.intsOf h0 v) : Cmp prog w A s (tuples' true) (fun p => p.1 ∈ vs) (lt2 (ltT h0 B)) := by
  intro p q hm hm'
  obtain ⟨ns, t1, l1, b1⟩ := x _ hm
  obtain ⟨ms, t2, l2, b2⟩ := x _ hm'
  have e : lt2 (ltT h0 B) p q = decide (TS.code B ns < TS.code B ms) := by
    show decide (TS.code B (TS.intsOf h0 p.1) < TS.code B (TS.intsOf h0 q.1)) = _
    rw [← y _ hm, ← y _ hm', t1.ints, t2.ints]
  rw [e]
  obtain ⟨a, xs, e1, ⟨o, ho, hc, n, hdt⟩, i⟩ := t1
  obtain ⟨a', ys, e2, ⟨o', ho', hc', n', hdt'⟩, i'⟩ := t2
  rw [e1, e2]
  refine PySem.W.kat_lt ho hdt ho' hdt' ?_
  have sz : decide (xs.size < ys.size) = false := decide_eq_false (by
    have a1 := i.length
    have a2 := i'.length
    rw [Array.length_toList] at a1 a2
    omega)
  rw [sz]
  exact TS.lex_ints 0 i i' (by omega) b1 b2 ⟨rfl, rfl⟩
theorem tups_sortable {a : Addr} {d : Nat} {B : Int} {vs : List Value} (hd : 1 ≤ d) (h0 : 0 < vs.length) (x : TS.TupsOk s.heap d B vs) (ha : ∀ o, s.heap.get? a = some o → o.cls ≠ .type "tuple") : SortableO prog w A s a vs (ltT s.heap B) := by
  intro h' keep
  have kp : ∀ b o, s.heap.get? b = some o → o.cls = .type "tuple" → h'.get? b = some o := fun b o e c => keep b o (fun z => by rw [z] at e; exact ha o e c) e
  have x' : TS.TupsOk h' d B vs := x.keeps kp
  obtain ⟨fs, k, hl, hi⟩ := TS.firsts_of hd vs x'
  refine ⟨tuples' true, fun Q E hq => ?_, tups_cmp (s := { s with heap := h' }) x' fun v hv => ?_⟩
  · refine PySem.W.kat_kind (T := .type "int") k (by omega) (fun f hm => ?_) (by rfl) ?_
    · obtain ⟨m, t, rfl⟩ := hi f hm
      exact PySem.W.Looks.now
    · have c : (Value.type "int" != Value.type "tuple") = true := by decide +kernel
      rw [c]
      exact hq
  · obtain ⟨ns, t, _⟩ := x v hv
    show TS.intsOf h' v = _
    rw [(t.keeps kp).ints, t.ints]
/-- xs.sort(), any number of tuples of ints -/
theorem call_sort_tupsO {a : Addr} {vs : List Value} {n d : Nat} {B : Int} {Q : Value → Shared → Prop} (ho : s.heap.get? a = some (seqObj "list" vs.toArray n)) (hz : vs.length ≤ sizeLine) (hd : 1 ≤ d) (x : TS.TupsOk s.heap d B vs)
    (h : ∀ out : Array Value, out.toList.Perm vs → out.toList.Pairwise (fun u v => TS.code B (TS.intsOf s.heap u) ≤ TS.code B (TS.intsOf s.heap v)) → Q .none { s with heap := sortedHeap s.heap a vs out }) :
    wpAny (model prog w) A (call (.builtin "list.sort") [.ref a]) Q E s :=
  wpAny_call_entry slot_list_sort ⟨_, ho, rfl⟩ entry_list_sort (list_sort_ord (ltT_swo s.heap B) ho hz (fun h2 => tups_sortable hd (by omega) x fun o e c => by
      rw [ho] at e
      have e' : seqObj "list" vs.toArray n = o := Option.some.inj e
      rw [← e'] at c
      have c' : Value.type "list" = Value.type "tuple" := c
      injection c' with c''
      exact absurd c'' (by decide)) fun out hs hb => ⟨_, rfl, h out.toArray (by rw [List.toList_toArray]; exact hb.perm) (by
        rw [List.toList_toArray]
        exact List.Pairwise.imp (fun {u v} q => ltT_no.mp q) hs)⟩) (args_list_sort _)
end
end GX
set_option maxHeartbeats 8000000
/-! sorted(d) of a dict whose keys are tuples of ints, up to 300 of them -/
namespace GX
open PySem PySem.Spec PyProof.Rows L2
def rSortDO (d : Nat) (B : Int) : List V → Hp → VK → Prop := fun vs H Q => ∃ (a : Addr) (kvs : List (List L2.Key × V)), vs = [V.ref a] ∧ H a = some (.dT kvs) ∧ kvs.length ≤ 300 ∧ (∀ e ∈ kvs, ∃ ns : List Int, e.1 = ns.map Sum.inl ∧ ns.length = d ∧ TS.Bd B ns) ∧
  ∀ (bs : List (List Int × Addr)) (p : Addr), (bs.map fun z => z.1.map Sum.inl).Perm (kvs.map (·.1)) → bs.Pairwise (fun x y => TS.code B x.1 ≤ TS.code B y.1) → (∀ z ∈ bs, H z.2 = some (.tup (z.1.map V.int))) → H p = none → Q (.ref p) (upd H p (.lst (bs.map fun z => V.ref z.2)))
section
variable {X : Cx}
theorem cr_sortedDO {d : Nat} {B : Int} (hd1 : 1 ≤ d) (hcalm : X.calm = true) : CallR X (.builtin "sorted") (rSortDO d B) := by
  intro pins s σ H vs us Q I r h
  obtain ⟨a, kvs, rfl, ha, h64, hk, q⟩ := h
  rw [Vals.ref1 r]
  obtain ⟨z, hsy, xs, rel, o, es, ep, ho, hx, hdt, he, his, hn⟩ := dt_of I.hok ha
  have l1 : es.size = xs.length := size_of_entries he
  have l2 : kvs.length = xs.length := Paired.length rel
  have rows := kt_rows (P := fun k => ∃ ns : List Int, k = ns.map Sum.inl ∧ ns.length = d ∧ TS.Bd B ns) rel hk
  refine Calls.call_function_entry PyProof.Rows.kind_sorted PyProof.Rows.plain_sorted PyProof.Rows.entry_sorted (PyProof.Rows.args_sorted1 _) ?_
  unfold Builtin.«sorted»
  refine wpAny_bind (m := checkCount "sorted" 1 1 _) (wpAny_pure ?_)
  refine wpAny_bind (PySem.W.kdu_collect (A := X.A.in1) (kdl_raw hsy hx hdt) (I.ok.hd hcalm) ho (by rw [sizeLine_eq]; omega) fun h' tk acc' hkp it => ?_)
  have ea : acc'.toList = xs.map fun x => Value.ref x.2.1 := by
    have hl : acc'.toList.length = xs.length := by rw [Array.length_toList, it.1]; exact l1
    apply List.ext_getElem?
    intro j
    rw [List.getElem?_map]
    cases hj : acc'.toList[j]? with
    | none =>
      have h1 := List.getElem?_eq_none_iff.mp hj
      rw [List.getElem?_eq_none (by omega)]
      all_goals rfl
    | some v =>
      obtain ⟨en, hen, hv⟩ := it.2 j v (by rw [← Array.getElem?_toList]; exact hj)
      have qe := entry_at he j
      rw [hen] at qe
      cases hb : xs[j]? with
      | none =>
        rw [hb] at qe
        exact nomatch (show some en = none from qe)
      | some b =>
        rw [hb] at qe
        have e2 : en = entryOfKey (tupleKind (mixKind X.prog X.w)) b := Option.some.inj qe
        rw [hv, e2]
        all_goals rfl
  have I1 : Inv X pins σ H { s with heap := h', toks := tk } := I.kept hkp
  have hal : acc'.toList.length = kvs.length := by rw [ea, List.length_map, l2]
  refine wpAny_bind (wpAny_newList ?_ (by rw [hal, sizeLine_eq]; omega))
  have hoL : (h'.push (seqObj "list" acc'.toList.toArray 0)).get? h'.objs.size = some (seqObj "list" acc'.toList.toArray 0) := Heap.get?_push_size _ rfl
  have keep : ∀ b o, h'.get? b = some o → (h'.push (seqObj "list" acc'.toList.toArray 0)).get? b = some o := fun b o e => Heap.get?_push_of_some _ e
  have raw : ∀ x ∈ xs, ∃ ns : List Int, x.1 = ns.map Sum.inl ∧ ns.length = d ∧ TS.Bd B ns ∧ H x.2.1 = some (.tup (ns.map V.int)) ∧ TS.TupInts (h'.push (seqObj "list" acc'.toList.toArray 0)) (.ref x.2.1) ns := fun x hx => by
    obtain ⟨⟨ns, e1, e2, e3⟩, e4⟩ := rows x hx
    rw [e1, kV_ints] at e4
    exact ⟨ns, e1, e2, e3, e4, (tupI_raw I1 (SqT.of e4)).keeps fun b o e _ => keep b o e⟩
  show wpAny _ _ _ _ _ { s with heap := h'.push (seqObj "list" acc'.toList.toArray 0), toks := tk }
  refine wpAny_bind (wpAny_holding (call_sort_tupsO (s := { s with heap := h'.push (seqObj "list" acc'.toList.toArray 0), toks := tk }) (d := d) (B := B) hoL (by rw [hal, sizeLine_eq]; omega) hd1 (fun v hv => ?_) fun out g1 g2 => ?_))
  · rw [ea] at hv
    obtain ⟨x, hx, rfl⟩ := List.mem_map.mp hv
    obtain ⟨ns, _, e2, e3, _, e5⟩ := raw x hx
    exact ⟨ns, e5, e2, e3⟩
  · obtain ⟨e', he'⟩ := PyProof.Rows.sortedHeap_at (vs := acc'.toList) (out := out) hoL
    have g1' : out.toList.Perm (xs.map fun x => Value.ref x.2.1) := by rw [← ea]; exact g1
    obtain ⟨xs', hp', hm'⟩ := mem_perm_map g1'
    let bs : List (List Int × Addr) := xs'.map fun x => (TS.intsOf (h'.push (seqObj "list" acc'.toList.toArray 0)) (.ref x.2.1), x.2.1)
    have hin : ∀ x ∈ xs', x ∈ xs := fun x hx => hp'.mem_iff.mp hx
    have e6 : out.toList = bs.map fun z => Value.ref z.2 := by rw [← hm', List.map_map]; rfl
    have hlen : (bs.map fun z => V.ref z.2).length ≤ sizeLine := by
      rw [List.length_map, List.length_map, hp'.length_eq, ← l2, sizeLine_eq]
      omega
    have hvv : Vals (bs.map fun z => V.ref z.2) out.toList := by
      have h0 := vals_refs (bs.map (·.2))
      have e7 : (bs.map (·.2)).map V.ref = bs.map fun z => V.ref z.2 := List.map_map
      have e8 : (bs.map (·.2)).map Value.ref = bs.map fun z => Value.ref z.2 := List.map_map
      rw [e6, ← e7, ← e8]
      exact h0
    refine wpAny_pure ⟨_, rfl, .ref h'.objs.size, upd H h'.objs.size (.lst (bs.map fun z => V.ref z.2)), I1.laid (t' := tk) (fun b u e => ?_) (Nat.le_refl _)
      (show ObjOk X.prog X.w _ _ _ (.lst (bs.map fun z => V.ref z.2)) from ⟨hlen, out.toList, e', hvv, by rw [Array.toArray_toList]; exact he'⟩), rfl, q bs _ ?_ ?_ ?_ (I1.hok.fresh (Nat.le_refl _))⟩
    · have hb : b < h'.objs.size := Heap.lt_size e
      rw [PyProof.Rows.sortedHeap_old (Nat.ne_of_lt hb) (by rw [size_push']; exact Nat.lt_succ_of_lt hb)]
      exact Heap.get?_push_of_some _ e
    · have e7 : (bs.map fun z => (z.1.map Sum.inl : List L2.Key)) = xs'.map (·.1) := by
        rw [List.map_map]
        refine List.map_congr_left fun x hx => ?_
        obtain ⟨ns, e1, _, _, _, e5⟩ := raw x (hin x hx)
        show (TS.intsOf _ (.ref x.2.1)).map Sum.inl = x.1
        rw [e5.ints, e1]
      rw [e7, ← kt_keys rel]
      exact hp'.map _
    · have g2' := g2
      rw [← hm', List.pairwise_map] at g2'
      rw [List.pairwise_map]
      exact g2'
    · intro w hw
      obtain ⟨x, hx, rfl⟩ := List.mem_map.mp hw
      obtain ⟨ns, e1, _, _, e4, e5⟩ := raw x (hin x hx)
      show H x.2.1 = some (.tup ((TS.intsOf _ (.ref x.2.1)).map V.int))
      rw [e5.ints]
      exact e4
end
end GX
set_option maxHeartbeats 4000000
/-! what stands in a page behind values were laid in one of its slots -/
namespace GX
open PySem PySem.Spec PyProof.Rows L2 LamX
theorem packGo_free : ∀ (l : List (Slot × List Nat)) (o i t : Nat) (vs : List Nat), l[i]? = some (.free t, vs) → (packGo l o).1[i]? = some (.free t)
  | [], _, _, _, _, h => by simp at h
  | (.free t0, vs0) :: l, o, 0, t, vs, h => by
    simp at h
    obtain ⟨rfl, rfl⟩ := h
    simp [packGo]
  | (.free t0, vs0) :: l, o, i + 1, t, vs, h => by
    have := packGo_free l o i t vs (by simpa using h)
    simpa [packGo] using this
  | (.held w0 t0 b0 s0 n0, vs0) :: l, o, 0, t, vs, h => by simp at h
  | (.held w0 t0 b0 s0 n0, vs0) :: l, o, i + 1, t, vs, h => by
    have := packGo_free l (o + vs0.length) i t vs (by simpa using h)
    simpa [packGo] using this
theorem packGo_held : ∀ (l : List (Slot × List Nat)) (o i : Nat) (w : Bool) (t b s : Nat) (n : Option Pl) (vs : List Nat), l[i]? = some (.held w t b s n, vs) →
    ∃ b', (packGo l o).1[i]? = some (.held w t b' vs.length n) ∧ (vs.length = 0 ∨ (o ≤ b' ∧ ((packGo l o).2.drop (b' - o)).take vs.length = vs))
  | [], _, _, _, _, _, _, _, _, h => by simp at h
  | (.free t0, vs0) :: l, o, 0, w, t, b, s, n, vs, h => by simp at h
  | (.free t0, vs0) :: l, o, i + 1, w, t, b, s, n, vs, h => by
    obtain ⟨b', h1, h2⟩ := packGo_held l o i w t b s n vs (by simpa using h)
    exact ⟨b', by simpa [packGo] using h1, by simpa [packGo] using h2⟩
  | (.held w0 t0 b0 s0 n0, vs0) :: l, o, 0, w, t, b, s, n, vs, h => by
    simp at h
    obtain ⟨⟨rfl, rfl, rfl, rfl, rfl⟩, rfl⟩ := h
    refine ⟨if vs0.length = 0 then 0 else o, by simp [packGo], ?_⟩
    by_cases hz : vs0.length = 0
    · exact .inl hz
    · rw [if_neg hz]
      refine .inr ⟨Nat.le_refl _, ?_⟩
      show ((vs0 ++ _).drop (o - o)).take vs0.length = vs0
      rw [Nat.sub_self, List.drop_zero, List.take_left]
  | (.held w0 t0 b0 s0 n0, vs0) :: l, o, i + 1, w, t, b, s, n, vs, h => by
    obtain ⟨b', h1, h2⟩ := packGo_held l (o + vs0.length) i w t b s n vs (by simpa using h)
    refine ⟨b', by simpa [packGo] using h1, ?_⟩
    rcases h2 with h2 | ⟨h2, h3⟩
    · exact .inl h2
    · refine .inr ⟨by omega, ?_⟩
      show ((vs0 ++ (packGo l (o + vs0.length)).2).drop (b' - o)).take vs.length = vs
      rw [List.drop_append, List.drop_of_length_le (l := vs0) (by omega), List.nil_append, show b' - o - vs0.length = b' - (o + vs0.length) by omega]
      exact h3
theorem cut_left {A Z : List Nat} {b k : Nat} {vs : List Nat} (h : (A.drop b).take k = vs) (hk : vs.length = k) : ((A ++ Z).drop b).take k = vs := by
  have h1 := congrArg List.length h
  rw [List.length_take, List.length_drop] at h1
  by_cases hz : k = 0
  · subst hz
    rw [List.take_zero] at h ⊢
    exact h
  · rw [List.drop_append_of_le_length (by omega), List.take_append_of_le_length (by rw [List.length_drop]; omega)]
    exact h
theorem packed_held {l : List (Slot × List Nat)} {i : Nat} {w : Bool} {t b s : Nat} {n : Option Pl} {vs : List Nat} (h : l[i]? = some (.held w t b s n, vs)) :
    ∃ b', (packed l).slots[i]? = some (.held w t b' vs.length n) ∧ (packed l).cellsOf (.held w t b' vs.length n) = vs := by
  obtain ⟨b', h1, h2⟩ := packGo_held l 0 i w t b s n vs h
  refine ⟨b', h1, ?_⟩
  show (((packGo l 0).2 ++ _).drop b').take vs.length = vs
  rcases h2 with h2 | ⟨_, h3⟩
  · have : vs = [] := List.length_eq_zero_iff.mp h2
    rw [this]; simp
  · exact cut_left (by simpa using h3) rfl
theorem packed_free {l : List (Slot × List Nat)} {i t : Nat} {vs : List Nat} (h : l[i]? = some (.free t, vs)) : (packed l).slots[i]? = some (.free t) := packGo_free l 0 i t vs h
section
variable {p : Page} {i j : Nat} {own : Bool} {vals : List Nat} {nx : Option Pl}
theorem wv_list (hj : j ≠ i) {s : Slot} (h : p.slots[j]? = some s) (t : Nat) : ((p.slots.map fun s => (s, p.cellsOf s)).set i (.held own t 0 0 nx, vals))[j]? = some (s, p.cellsOf s) := by
  rw [List.getElem?_set_ne (Ne.symm hj), List.getElem?_map, h]; rfl
/-- the slot itself -/
theorem wv_self {s : Slot} (h : p.slots[i]? = some s) : ∃ b, (p.withValues i own vals nx).slots[i]? = some (.held own s.turn b vals.length nx) ∧ (p.withValues i own vals nx).cellsOf (.held own s.turn b vals.length nx) = vals := by
  have e : ((p.slots[i]?.map Slot.turn).getD 0) = s.turn := by rw [h]; rfl
  unfold Page.withValues
  rw [e]
  refine packed_held (b := 0) (s := 0) ?_
  rw [List.getElem?_set_self (by rw [List.length_map]; exact (List.getElem?_eq_some_iff.mp h).1)]
/-- the others -/
theorem wv_free (hj : j ≠ i) {t : Nat} (h : p.slots[j]? = some (.free t)) : (p.withValues i own vals nx).slots[j]? = some (.free t) :=
  packed_free (wv_list hj h _)
theorem wv_held (hp : p.Ok) (hj : j ≠ i) {w : Bool} {t b s : Nat} {n : Option Pl} (h : p.slots[j]? = some (.held w t b s n)) :
    ∃ b', (p.withValues i own vals nx).slots[j]? = some (.held w t b' s n) ∧ (p.withValues i own vals nx).cellsOf (.held w t b' s n) = p.cellsOf (.held w t b s n) := by
  obtain ⟨b', h1, h2⟩ := packed_held (wv_list (own := own) (vals := vals) (nx := nx) hj h ((p.slots[i]?.map Slot.turn).getD 0))
  have e := cellsOf_len hp (hp.sl _ (List.mem_of_getElem? h))
  rw [e] at h1 h2
  exact ⟨b', h1, h2⟩
end
end GX
/-! pages that are alike but at some places; a row that was laid -/
namespace GX
open PySem PySem.Spec PyProof.Rows L2 LamX
structure AlikeX (X : Pl → Prop) (sh sh' : List Page) : Prop where
  len : sh'.length = sh.length
  free : ∀ p t, ¬ X p → slotAt sh p = some (.free t) → slotAt sh' p = some (.free t)
  held : ∀ p o t b s n, ¬ X p → slotAt sh p = some (.held o t b s n) → ∃ b', slotAt sh' p = some (.held o t b' s n) ∧ cellsAt sh' p = cellsAt sh p
theorem AlikeX.refl (X : Pl → Prop) (sh : List Page) : AlikeX X sh sh := ⟨rfl, fun _ _ _ h => h, fun _ _ _ b _ _ _ h => ⟨b, h, rfl⟩⟩
theorem AlikeX.trans {X Y : Pl → Prop} {a b c : List Page} (h1 : AlikeX X a b) (h2 : AlikeX Y b c) : AlikeX (fun p => X p ∨ Y p) a c :=
  ⟨h2.len.trans h1.len, fun p t n h => h2.free p t (fun z => n (.inr z)) (h1.free p t (fun z => n (.inl z)) h), fun p o t b s nx n h => by
    obtain ⟨b1, e1, c1⟩ := h1.held p o t b s nx (fun z => n (.inl z)) h
    obtain ⟨b2, e2, c2⟩ := h2.held p o t b1 s nx (fun z => n (.inr z)) e1
    exact ⟨b2, e2, c2.trans c1⟩⟩
theorem AlikeX.mono {X Y : Pl → Prop} {a b : List Page} (h : AlikeX X a b) (k : ∀ p, X p → Y p) : AlikeX Y a b :=
  ⟨h.len, fun p t n => h.free p t fun z => n (k p z), fun p o t b s nx n => h.held p o t b s nx fun z => n (k p z)⟩
theorem AlikeX.chain {X : Pl → Prop} {sh sh' : List Page} (h : AlikeX X sh sh') : ∀ {l : List Pl} {n : Option Pl}, Chain sh n l → (∀ p ∈ l, ¬ X p) → Chain sh' n l ∧ valsOf sh' l = valsOf sh l
  | _, _, .nil, _ => ⟨.nil, rfl⟩
  | p :: l, _, .cons e c, k => by
    obtain ⟨b', e', c'⟩ := h.held _ _ _ _ _ _ (k p List.mem_cons_self) e
    obtain ⟨i1, i2⟩ := h.chain c fun q hq => k q (List.mem_cons_of_mem _ hq)
    refine ⟨.cons e' i1, ?_⟩
    show cellsAt sh' p ++ valsOf sh' l = cellsAt sh p ++ valsOf sh l
    rw [c', i2]
theorem slotAt_set_ne {sh : List Page} {i : Nat} {pg : Page} {p : Pl} (h : p.1 ≠ i) : slotAt (sh.set i pg) p = slotAt sh p := by
  unfold slotAt
  rw [List.getElem?_set_ne (Ne.symm h)]
theorem slotAt_set_eq {sh : List Page} {i j : Nat} {pg : Page} (h : i < sh.length) : slotAt (sh.set i pg) (i, j) = pg.slots[j]? := by
  unfold slotAt
  rw [List.getElem?_set_self h]; rfl
theorem cellsAt_set_ne {sh : List Page} {i : Nat} {pg : Page} {p : Pl} (h : p.1 ≠ i) : cellsAt (sh.set i pg) p = cellsAt sh p := by
  unfold cellsAt
  rw [List.getElem?_set_ne (Ne.symm h)]
/-- values laid in one slot -/
theorem alike_lay {sh : List Page} {i j : Nat} {pg : Page} {own : Bool} {vals : List Nat} {nx : Option Pl} (hi : sh[i]? = some pg) (hp : pg.Ok) : AlikeX (fun p => p = (i, j)) sh (sh.set i (pg.withValues j own vals nx)) := by
  have hlt := (List.getElem?_eq_some_iff.mp hi).1
  refine ⟨List.length_set .., fun p t n h => ?_, fun p o t b s m n h => ?_⟩
  · by_cases e : p.1 = i
    · obtain ⟨a, c⟩ := p
      have e : a = i := e
      subst e
      rw [slotAt_set_eq hlt]
      have h' : pg.slots[c]? = some (.free t) := by
        unfold slotAt at h
        rw [show (a, c).1 = a from rfl, hi] at h
        exact h
      exact wv_free (fun z => n (by rw [z])) h'
    · rw [slotAt_set_ne e]; exact h
  · by_cases e : p.1 = i
    · obtain ⟨a, c⟩ := p
      have e : a = i := e
      subst e
      have h' : pg.slots[c]? = some (.held o t b s m) := by
        unfold slotAt at h
        rw [show (a, c).1 = a from rfl, hi] at h
        exact h
      obtain ⟨b', e1, e2⟩ := wv_held (own := own) (vals := vals) (nx := nx) hp (fun z => n (by rw [z])) h'
      refine ⟨b', by rw [slotAt_set_eq hlt]; exact e1, ?_⟩
      rw [cellsAt_of (p := (a, c)) (List.getElem?_set_self hlt) e1, cellsAt_of (p := (a, c)) hi h', e2]
    · exact ⟨b, by rw [slotAt_set_ne e]; exact h, cellsAt_set_ne e⟩
/-- the slot that was laid -/
theorem laid_self {sh : List Page} {i j : Nat} {pg : Page} {s : Slot} {own : Bool} {vals : List Nat} {nx : Option Pl} (hi : sh[i]? = some pg) (hs : pg.slots[j]? = some s) :
    ∃ b, slotAt (sh.set i (pg.withValues j own vals nx)) (i, j) = some (.held own s.turn b vals.length nx) ∧ cellsAt (sh.set i (pg.withValues j own vals nx)) (i, j) = vals := by
  have hlt := (List.getElem?_eq_some_iff.mp hi).1
  obtain ⟨b, e1, e2⟩ := wv_self (own := own) (vals := vals) (nx := nx) hs
  refine ⟨b, by rw [slotAt_set_eq hlt]; exact e1, ?_⟩
  rw [cellsAt_of (p := (i, j)) (List.getElem?_set_self hlt) e1, e2]
/-- the parts that were laid -/
def spots (sh : List Page) (ps : List (Nat × Nat)) : List Pl := ps.map fun q => (q.1, spotAt sh q.1)
structure LayOk (sh : List Page) (vals : List Nat) (ps : List (Nat × Nat)) : Prop where
  chain : Chain (lay sh vals ps).2.1 (lay sh vals ps).1 (spots sh ps)
  vs : valsOf (lay sh vals ps).2.1 (spots sh ps) = vals.drop (lay sh vals ps).2.2
  left : (lay sh vals ps).2.2 + (ps.map (·.2)).sum = vals.length
  same : ∀ i, i ∉ ps.map (·.1) → (lay sh vals ps).2.1[i]? = sh[i]?
  len : (lay sh vals ps).2.1.length = sh.length
  alike : AlikeX (fun p => p ∈ spots sh ps) sh (lay sh vals ps).2.1
  parts : ∀ p ∈ spots sh ps, ∃ t b s n, slotAt (lay sh vals ps).2.1 p = some (.held false t b s n)
  from_ : ∀ pg ∈ (lay sh vals ps).2.1, pg ∈ sh ∨ ∃ l, pg = packed l
theorem lay_ok {sh : List Page} {vals : List Nat} (hok : ∀ pg ∈ sh, pg.Ok) : ∀ (ps : List (Nat × Nat)), (ps.map (·.1)).Nodup → (∀ q ∈ ps, q.1 < sh.length ∧ ∃ s, (pageAt sh q.1).slots[spotAt sh q.1]? = some s) → (ps.map (·.2)).sum ≤ vals.length → LayOk sh vals ps
  | [], _, _, _ => ⟨.nil, by show [] = vals.drop vals.length; rw [List.drop_length], rfl, fun _ _ => rfl, rfl, AlikeX.refl _ _, (fun _ h => by cases h), fun _ h => .inl h⟩
  | (pg, sz) :: r, hn, hq, hs => by
    obtain ⟨hn1, hn2⟩ := List.nodup_cons.mp (show (pg :: r.map (·.1)).Nodup from hn)
    have hsum : sz + (r.map (·.2)).sum ≤ vals.length := hs
    have ih := lay_ok hok r hn2 (fun q h => hq q (List.mem_cons_of_mem _ h)) (Nat.le_trans (Nat.le_add_left _ _) hsum)
    obtain ⟨hlt, s, hsl⟩ := hq (pg, sz) List.mem_cons_self
    have hlt : pg < sh.length := hlt
    have hsl : (pageAt sh pg).slots[spotAt sh pg]? = some s := hsl
    have e0 : (lay sh vals r).2.1[pg]? = some (pageAt sh pg) := by rw [ih.same pg hn1]; exact (pageAt_some hlt).1
    have hpg := hok _ (pageAt_some hlt).2
    have left := ih.left
    have hV : ((vals.drop ((lay sh vals r).2.2 - sz)).take sz).length = sz := by rw [List.length_take, List.length_drop]; omega
    obtain ⟨b, l1, l2⟩ := laid_self (own := false) (vals := (vals.drop ((lay sh vals r).2.2 - sz)).take sz) (nx := (lay sh vals r).1) e0 hsl
    have ng : ∀ p ∈ spots sh r, p.1 ≠ pg := fun p hp e => by
      obtain ⟨q, hq', rfl⟩ := List.mem_map.mp hp
      exact hn1 (List.mem_map.mpr ⟨q, hq', e⟩)
    have al := alike_lay (j := spotAt sh pg) (own := false) (vals := (vals.drop ((lay sh vals r).2.2 - sz)).take sz) (nx := (lay sh vals r).1) e0 hpg
    obtain ⟨c1, c2⟩ := al.chain ih.chain fun p hp z => ng p hp (by rw [z])
    refine ⟨.cons l1 c1, ?_, ?_, ?_, ?_, ?_, ?_, ?_⟩
    · show cellsAt _ (pg, spotAt sh pg) ++ valsOf _ (spots sh r) = vals.drop ((lay sh vals r).2.2 - sz)
      have c2' : valsOf ((lay sh vals r).2.1.set pg ((pageAt sh pg).withValues (spotAt sh pg) false ((vals.drop ((lay sh vals r).2.2 - sz)).take sz) (lay sh vals r).1)) (spots sh r) = vals.drop (lay sh vals r).2.2 := c2.trans ih.vs
      rw [show (lay sh vals ((pg, sz) :: r)).2.1 = (lay sh vals r).2.1.set pg ((pageAt sh pg).withValues (spotAt sh pg) false ((vals.drop ((lay sh vals r).2.2 - sz)).take sz) (lay sh vals r).1) from rfl, l2, c2']
      have e : vals.drop (lay sh vals r).2.2 = (vals.drop ((lay sh vals r).2.2 - sz)).drop sz := by rw [List.drop_drop]; congr 1; omega
      rw [e, List.take_append_drop]
    · show (lay sh vals r).2.2 - sz + (sz + (r.map (·.2)).sum) = vals.length
      omega
    · intro i hi
      have hi : i ∉ pg :: r.map (·.1) := hi
      show ((lay sh vals r).2.1.set pg _)[i]? = _
      rw [List.getElem?_set_ne (fun e => hi (by rw [e]; exact List.mem_cons_self))]
      exact ih.same i fun z => hi (List.mem_cons_of_mem _ z)
    · show ((lay sh vals r).2.1.set pg _).length = _
      rw [List.length_set]; exact ih.len
    · exact (ih.alike.trans al).mono fun p h => h.elim (fun h => List.mem_cons_of_mem _ h) fun (h : p = _) => by rw [h]; exact List.mem_cons_self
    · intro p hp
      rcases List.mem_cons.mp (show p ∈ (pg, spotAt sh pg) :: spots sh r from hp) with z | z
      · rw [z]; exact ⟨_, _, _, _, l1⟩
      · obtain ⟨t, b', s', n, e⟩ := ih.parts p z
        exact ⟨t, b', s', n, by
          show slotAt ((lay sh vals r).2.1.set pg _) p = _
          rw [slotAt_set_ne (ng p z)]; exact e⟩
    · intro x hx
      rcases mem_set (show x ∈ (lay sh vals r).2.1.set pg _ from hx) with z | z
      · exact .inr ⟨_, z⟩
      · exact ih.from_ x z
/-- a row that was laid: its chain, its values, and all else as it was -/
theorem settled_ok {sh : List Page} {vals : List Nat} {pl : Pl} {ps : List (Nat × Nat)} {s : Slot} (hok : ∀ pg ∈ sh, pg.Ok) (hn : (pl.1 :: ps.map (·.1)).Nodup) (h1 : pl.1 < sh.length) (hs : (pageAt sh pl.1).slots[pl.2]? = some s)
    (hq : ∀ q ∈ ps, q.1 < sh.length ∧ ∃ s, (pageAt sh q.1).slots[spotAt sh q.1]? = some s) (hsum : (ps.map (·.2)).sum ≤ vals.length) :
    Chain (settled sh pl ps vals) (some pl) (pl :: spots sh ps) ∧ valsOf (settled sh pl ps vals) (pl :: spots sh ps) = vals ∧ AlikeX (fun p => p ∈ pl :: spots sh ps) sh (settled sh pl ps vals) ∧ (∃ b n m, slotAt (settled sh pl ps vals) pl = some (.held true s.turn b n m)) ∧
      (∀ p ∈ spots sh ps, ∃ t b s n, slotAt (settled sh pl ps vals) p = some (.held false t b s n)) ∧ (settled sh pl ps vals).length = sh.length ∧ ∀ pg ∈ settled sh pl ps vals, pg ∈ sh ∨ ∃ l, pg = packed l := by
  obtain ⟨hn1, hn2⟩ := List.nodup_cons.mp hn
  have L := lay_ok (vals := vals) hok ps hn2 hq hsum
  have left := L.left
  have e0 : (lay sh vals ps).2.1[pl.1]? = some (pageAt sh pl.1) := by rw [L.same _ hn1]; exact (pageAt_some h1).1
  have hpg := hok _ (pageAt_some h1).2
  obtain ⟨b, l1, l2⟩ := laid_self (own := true) (vals := vals.take (lay sh vals ps).2.2) (nx := (lay sh vals ps).1) e0 hs
  have al := alike_lay (j := pl.2) (own := true) (vals := vals.take (lay sh vals ps).2.2) (nx := (lay sh vals ps).1) e0 hpg
  have ng : ∀ p ∈ spots sh ps, p.1 ≠ pl.1 := fun p hp e => by
    obtain ⟨q, hq', rfl⟩ := List.mem_map.mp hp
    exact hn1 (List.mem_map.mpr ⟨q, hq', e⟩)
  obtain ⟨c1, c2⟩ := al.chain L.chain fun p hp z => ng p hp (by rw [z])
  have es : settled sh pl ps vals = (lay sh vals ps).2.1.set pl.1 ((pageAt sh pl.1).withValues pl.2 true (vals.take (lay sh vals ps).2.2) (lay sh vals ps).1) := rfl
  rw [es]
  refine ⟨.cons l1 c1, ?_, (L.alike.trans al).mono fun p h => h.elim (fun h => List.mem_cons_of_mem _ h) fun (h : p = _) => by rw [h]; exact List.mem_cons_self, ?_⟩
  · show cellsAt _ pl ++ valsOf _ (spots sh ps) = vals
    rw [show cellsAt _ pl = vals.take (lay sh vals ps).2.2 from l2, c2, L.vs, List.take_append_drop]
  · refine ⟨⟨_, _, _, l1⟩, fun p hp => ?_, by rw [List.length_set]; exact L.len, fun x hx => ?_⟩
    · obtain ⟨t, b', s', n, e⟩ := L.parts p hp
      exact ⟨t, b', s', n, by rw [slotAt_set_ne (ng p hp)]; exact e⟩
    · rcases mem_set hx with z | z
      · exact .inr ⟨_, z⟩
      · exact L.from_ x z
end GX
/-! slots made free -/
namespace GX
open PySem PySem.Spec PyProof.Rows L2 LamX
theorem slotAt_setAt {sh : List Page} {p q : Pl} {s z : Slot} (h : slotAt sh p = some s) : slotAt (setAt sh p z) q = if q = p then some z else slotAt sh q := by
  obtain ⟨pg, e1, e2, _, e4⟩ := slot_get h
  rw [e4]
  have hlt := (List.getElem?_eq_some_iff.mp e1).1
  by_cases hq : q.1 = p.1
  · obtain ⟨a, c⟩ := q
    have hq : a = p.1 := hq
    subst hq
    rw [slotAt_set_eq hlt]
    show (pg.slots.set p.2 z)[c]? = _
    by_cases hc : c = p.2
    · subst hc
      rw [if_pos rfl, List.getElem?_set_self (List.getElem?_eq_some_iff.mp e2).1]
    · rw [if_neg (fun e => hc (by rw [← e])), List.getElem?_set_ne (Ne.symm hc)]
      unfold slotAt
      rw [show (p.1, c).1 = p.1 from rfl, e1]; rfl
  · rw [slotAt_set_ne hq, if_neg (fun e => hq (by rw [e]))]
theorem cellsAt_setAt {sh : List Page} {p q : Pl} {s z : Slot} (h : slotAt sh p = some s) (hq : q ≠ p) : cellsAt (setAt sh p z) q = cellsAt sh q := by
  obtain ⟨pg, e1, e2, _, e4⟩ := slot_get h
  rw [e4]
  have hlt := (List.getElem?_eq_some_iff.mp e1).1
  by_cases h1 : q.1 = p.1
  · obtain ⟨a, c⟩ := q
    have h1 : a = p.1 := h1
    subst h1
    have hc : c ≠ p.2 := fun e => hq (by rw [e])
    unfold cellsAt
    rw [show (p.1, c).1 = p.1 from rfl, List.getElem?_set_self hlt, e1]
    show (((pg.slots.set p.2 z)[c]?).map (pg.setSlot p.2 z).cellsOf).getD [] = ((pg.slots[c]?).map pg.cellsOf).getD []
    rw [List.getElem?_set_ne (Ne.symm hc)]
    cases pg.slots[c]? with
    | none => rfl
    | some s => cases s <;> rfl
  · exact cellsAt_set_ne h1
theorem alike_set {sh : List Page} {p : Pl} {s z : Slot} (h : slotAt sh p = some s) : AlikeX (fun q => q = p) sh (setAt sh p z) :=
  ⟨setAt_len .., fun q t n e => by rw [slotAt_setAt h, if_neg n]; exact e, fun q o t b s' m n e => ⟨b, by rw [slotAt_setAt h, if_neg n]; exact e, cellsAt_setAt h n⟩⟩
/-- a slot that was made free has its turn still -/
theorem freeAll_ok : ∀ (l : List Pl) (sh : List Page), (∀ p ∈ l, ∃ s, slotAt sh p = some s) → AlikeX (fun q => q ∈ l) sh (freeAll sh l) ∧ ∀ p ∈ l, slotAt (freeAll sh l) p = some (.free (turnAt sh p))
  | [], sh, _ => ⟨AlikeX.refl _ _, fun _ h => by cases h⟩
  | p :: l, sh, h => by
    obtain ⟨s, hs⟩ := h p List.mem_cons_self
    have ht : turnAt sh p = s.turn := by unfold turnAt; rw [hs]; rfl
    have a1 := alike_set (z := .free (turnAt sh p)) hs
    have h2 : ∀ q ∈ l, ∃ s, slotAt (setAt sh p (.free (turnAt sh p))) q = some s := fun q hq => by
      rw [slotAt_setAt hs]
      by_cases e : q = p
      · rw [if_pos e]; exact ⟨_, rfl⟩
      · rw [if_neg e]; exact h q (List.mem_cons_of_mem _ hq)
    obtain ⟨a2, f2⟩ := freeAll_ok l (setAt sh p (.free (turnAt sh p))) h2
    have tq : ∀ q, turnAt (setAt sh p (.free (turnAt sh p))) q = turnAt sh q := fun q => by
      show ((slotAt (setAt sh p (.free (turnAt sh p))) q).map Slot.turn).getD 0 = _
      rw [slotAt_setAt hs]
      by_cases e : q = p
      · rw [if_pos e, e]; rfl
      · rw [if_neg e]; rfl
    refine ⟨(a1.trans a2).mono fun q hq => hq.elim (fun (e : q = p) => by rw [e]; exact List.mem_cons_self) fun e => List.mem_cons_of_mem _ e, fun q hq => ?_⟩
    show slotAt (freeAll (setAt sh p (.free (turnAt sh p))) l) q = _
    by_cases hl : q ∈ l
    · rw [f2 q hl, tq]
    · have e : q = p := (List.mem_cons.mp hq).elim id fun z => absurd z hl
      subst e
      exact a2.free q _ hl (by rw [slotAt_setAt hs, if_pos rfl])
end GX
/-! pages that hold just these rows -/
namespace GX
open PySem PySem.Spec PyProof.Rows L2 LamX
theorem nodup_len : ∀ {l m : List Pl}, l.Nodup → (∀ x ∈ l, x ∈ m) → l.length ≤ m.length
  | [], _, _, _ => Nat.zero_le _
  | a :: l, m, h, k => by
    obtain ⟨h1, h2⟩ := List.nodup_cons.mp h
    have ha := k a List.mem_cons_self
    have := nodup_len (m := m.erase a) h2 fun x hx => (List.mem_erase_of_ne (fun e => h1 (by rw [← e]; exact hx))).mpr (k x (List.mem_cons_of_mem _ hx))
    have hl := List.length_erase_of_mem ha
    have hp := List.length_pos_of_mem ha
    rw [List.length_cons]
    omega
abbrev Row1 := Pl × List Pl
def places (r : Row1) : List Pl := r.1 :: r.2
structure Rows (sh : List Page) (R : List Row1) : Prop where
  ok : ∀ pg ∈ sh, pg.Ok
  le : sh.length ≤ 12
  used : ∀ pg ∈ sh, pg.used ≤ 24
  chain : ∀ r ∈ R, Chain sh (some r.1) (places r)
  own : ∀ r ∈ R, ∃ t b s n, slotAt sh r.1 = some (.held true t b s n)
  part : ∀ r ∈ R, ∀ p ∈ r.2, ∃ t b s n, slotAt sh p = some (.held false t b s n)
  nd : ∀ r ∈ R, (places r).Nodup
  dj : R.Pairwise fun a b => ∀ p ∈ places a, p ∉ places b
  all : ∀ p o t b s n, slotAt sh p = some (.held o t b s n) → p ∈ R.flatMap places
theorem slotAt_iff {sh : List Page} (hok : ∀ pg ∈ sh, pg.Ok) {p : Pl} : (∃ s, slotAt sh p = some s) ↔ p.1 < sh.length ∧ p.2 < 8 := by
  constructor
  · rintro ⟨s, h⟩
    obtain ⟨pg, e1, e2⟩ := slotAt_some h
    exact ⟨(List.getElem?_eq_some_iff.mp e1).1, by rw [← (hok pg (List.mem_of_getElem? e1)).ns]; exact (List.getElem?_eq_some_iff.mp e2).1⟩
  · rintro ⟨h1, h2⟩
    exact slotAt_in (fun pg hm => (hok pg hm).ns) h1 h2
section
variable {sh sh' : List Page} {R : List Row1}
theorem Rows.mem (h : Rows sh R) {p : Pl} : p ∈ rowPlaces sh ↔ ∃ r ∈ R, r.1 = p := by
  rw [mem_rowPlaces]
  constructor
  · rintro ⟨t, b, s, n, e⟩
    obtain ⟨r, hr, hp⟩ := List.mem_flatMap.mp (h.all _ _ _ _ _ _ e)
    rcases List.mem_cons.mp hp with z | z
    · exact ⟨r, hr, z.symm⟩
    · obtain ⟨_, _, _, _, e2⟩ := h.part r hr p z
      rw [e] at e2; cases e2
  · rintro ⟨r, hr, rfl⟩
    exact h.own r hr
/-- the parts of the row at a place -/
def partsAt (R : List Row1) (p : Pl) : List Pl := ((R.find? fun r => decide (r.1 = p)).map Prod.snd).getD []
theorem own_inj (h : Rows sh R) : ∀ {r s : Row1}, r ∈ R → s ∈ R → r.1 = s.1 → r = s := by
  intro r s hr hs e
  obtain ⟨i, hi⟩ := List.getElem?_of_mem hr
  obtain ⟨j, hj⟩ := List.getElem?_of_mem hs
  by_cases hij : i = j
  · subst hij
    rw [hi] at hj
    exact Option.some.inj hj
  · exfalso
    have i1 := List.getElem?_eq_some_iff.mp hi
    have j1 := List.getElem?_eq_some_iff.mp hj
    rcases Nat.lt_or_gt_of_ne hij with z | z
    · have := List.pairwise_iff_getElem.mp h.dj i j i1.1 j1.1 z
      rw [i1.2, j1.2] at this
      exact this r.1 List.mem_cons_self (by rw [e]; exact List.mem_cons_self)
    · have := List.pairwise_iff_getElem.mp h.dj j i j1.1 i1.1 z
      rw [i1.2, j1.2] at this
      exact this s.1 List.mem_cons_self (by rw [← e]; exact List.mem_cons_self)
theorem partsAt_of (h : Rows sh R) {r : Row1} (hr : r ∈ R) : partsAt R r.1 = r.2 := by
  unfold partsAt
  cases q : R.find? fun s => decide (s.1 = r.1) with
  | none =>
    have := List.find?_eq_none.mp q r hr
    simp at this
  | some s =>
    have h1 := List.find?_some q
    have h2 := List.mem_of_find?_eq_some q
    rw [own_inj h h2 hr (by simpa using h1)]; rfl
/-- no part is lost -/
theorem Rows.lost (h : Rows sh R) : lostOf sh (fun p => p :: partsAt R p) = [] := by
  refine List.eq_nil_iff_forall_not_mem.mpr fun p hp => ?_
  obtain ⟨s, e, g⟩ := mem_placesOf.mp hp
  cases s with
  | free t => cases g
  | held o t b n z =>
    cases o with
    | true => cases g
    | false =>
      obtain ⟨r, hr, hp⟩ := List.mem_flatMap.mp (h.all _ _ _ _ _ _ e)
      have g : (!decide (p ∈ reachedOf sh fun p => p :: partsAt R p)) = true := g
      rw [Bool.not_eq_true', decide_eq_false_iff_not] at g
      refine g (List.mem_flatMap.mpr ⟨r.1, h.mem.mpr ⟨r, hr, rfl⟩, ?_⟩)
      show p ∈ r.1 :: partsAt R r.1
      rw [partsAt_of h hr]; exact hp
theorem Rows.len (h : Rows sh R) {r : Row1} (hr : r ∈ R) : (places r).length ≤ 96 := by
  have nd := h.nd r hr
  have sub : ∀ p ∈ places r, p ∈ ((List.range sh.length).flatMap fun i => (List.range 8).map fun j => ((i, j) : Pl)) := fun p hp => by
    have : ∃ s, slotAt sh p = some s := by
      rcases List.mem_cons.mp hp with z | z
      · obtain ⟨_, _, _, _, e⟩ := h.own r hr; rw [z]; exact ⟨_, e⟩
      · obtain ⟨_, _, _, _, e⟩ := h.part r hr p z; exact ⟨_, e⟩
    obtain ⟨h1, h2⟩ := (slotAt_iff h.ok).mp this
    exact List.mem_flatMap.mpr ⟨p.1, List.mem_range.mpr h1, List.mem_map.mpr ⟨p.2, List.mem_range.mpr h2, rfl⟩⟩
  have l := nodup_len nd sub
  refine Nat.le_trans l ?_
  refine Nat.le_trans (length_flatMap_le _ 8 _ fun i _ => by simp) ?_
  rw [List.length_range]
  have := h.le
  omega
end
end GX
/-! a row is put: the rows behind it -/
namespace GX
open PySem PySem.Spec PyProof.Rows L2 LamX
theorem pack_used : ∀ (l : List (Slot × List Nat)) (o : Nat), ((packGo l o).1.map Slot.size).sum = (packGo l o).2.length
  | [], _ => rfl
  | (.free t, vs) :: l, o => by
    have := pack_used l o
    simpa [packGo, Slot.size] using this
  | (.held w t b s n, vs) :: l, o => by
    have := pack_used l (o + vs.length)
    simp only [packGo, List.map_cons, List.sum_cons, List.length_append, Slot.size, this]
theorem packed_used {l : List (Slot × List Nat)} (h : (packed l).Ok) : (packed l).used ≤ 24 := by
  have e : (packed l).used = (packGo l 0).2.length := pack_used l 0
  have n := h.nc
  rw [e]
  have : ((packGo l 0).2 ++ List.replicate (24 - (packGo l 0).2.length) 0).length = 24 := n
  rw [List.length_append, List.length_replicate] at this
  omega
section
variable {sh sh' : List Page} {R : List Row1} {X : Pl → Prop}
/-- where rows stand whose places are alike -/
theorem held_of_alike (a : AlikeX X sh sh') (hok : ∀ pg ∈ sh, pg.Ok) (hok' : ∀ pg ∈ sh', pg.Ok) {p : Pl} (hp : ¬ X p) {o : Bool} {t b s : Nat} {n : Option Pl} (h : slotAt sh' p = some (.held o t b s n)) : ∃ b', slotAt sh p = some (.held o t b' s n) := by
  have h8 := (slotAt_iff hok').mp ⟨_, h⟩
  rw [a.len] at h8
  obtain ⟨z, e⟩ := (slotAt_iff hok).mpr h8
  cases z with
  | free t0 =>
    rw [a.free p t0 hp e] at h
    cases h
  | held o0 t0 b0 s0 n0 =>
    obtain ⟨b1, e1, _⟩ := a.held p o0 t0 b0 s0 n0 hp e
    rw [e1] at h
    cases h
    exact ⟨b0, e⟩
/-- rows that are not touched stand as they stood -/
structure Kept (sh' : List Page) (R : List Row1) : Prop where
  chain : ∀ r ∈ R, Chain sh' (some r.1) (places r)
  own : ∀ r ∈ R, ∃ t b s n, slotAt sh' r.1 = some (.held true t b s n)
  part : ∀ r ∈ R, ∀ p ∈ r.2, ∃ t b s n, slotAt sh' p = some (.held false t b s n)
theorem kept_of (a : AlikeX X sh sh') (h : Rows sh R) {R' : List Row1} (sub : ∀ r ∈ R', r ∈ R) (hx : ∀ r ∈ R', ∀ p ∈ places r, ¬ X p) : Kept sh' R' :=
  ⟨fun r hr => (a.chain (h.chain r (sub r hr)) (hx r hr)).1, fun r hr => by
    obtain ⟨t, b, s, n, e⟩ := h.own r (sub r hr)
    obtain ⟨b', e', _⟩ := a.held _ _ _ _ _ _ (hx r hr _ List.mem_cons_self) e
    exact ⟨t, b', s, n, e'⟩, fun r hr p hp => by
    obtain ⟨t, b, s, n, e⟩ := h.part r (sub r hr) p hp
    obtain ⟨b', e', _⟩ := a.held _ _ _ _ _ _ (hx r hr _ (List.mem_cons_of_mem _ hp)) e
    exact ⟨t, b', s, n, e'⟩⟩
theorem vals_of (a : AlikeX X sh sh') (h : Rows sh R) {r : Row1} (hr : r ∈ R) (hx : ∀ p ∈ places r, ¬ X p) : valsOf sh' (places r) = valsOf sh (places r) := (a.chain (h.chain r hr) hx).2
/-- a new row -/
theorem Rows.put (h : Rows sh R) {pl : Pl} {ps : List (Nat × Nat)} {vals : List Nat} {t : Nat} (hok' : ∀ pg ∈ settled sh pl ps vals, pg.Ok) (hn : (pl.1 :: ps.map (·.1)).Nodup) (h1 : pl.1 < sh.length) (hs : slotAt sh pl = some (.free t))
    (hq : ∀ q ∈ ps, q.1 < sh.length ∧ ∃ t, slotAt sh (q.1, spotAt sh q.1) = some (.free t)) (hsum : (ps.map (·.2)).sum ≤ vals.length) :
    Rows (settled sh pl ps vals) ((pl, spots sh ps) :: R) ∧ valsOf (settled sh pl ps vals) (pl :: spots sh ps) = vals ∧ (∀ r ∈ R, valsOf (settled sh pl ps vals) (places r) = valsOf sh (places r)) ∧ turnAt (settled sh pl ps vals) pl = t := by
  have slot_of : ∀ {p : Pl} {s : Slot}, p.1 < sh.length → slotAt sh p = some s → (pageAt sh p.1).slots[p.2]? = some s := fun {p s} hl e => by
    unfold slotAt at e
    rw [(pageAt_some hl).1] at e
    exact e
  obtain ⟨c, v, a, ⟨b, m, nx, ho⟩, hp, hl, hf⟩ := settled_ok (vals := vals) h.ok hn h1 (slot_of h1 hs) (fun q hq' => ⟨(hq q hq').1, by obtain ⟨t', e⟩ := (hq q hq').2; exact ⟨_, slot_of (p := (q.1, spotAt sh q.1)) (hq q hq').1 e⟩⟩) hsum
  have fr : ∀ p ∈ pl :: spots sh ps, ∃ t, slotAt sh p = some (.free t) := fun p hp' => by
    rcases List.mem_cons.mp hp' with z | z
    · rw [z]; exact ⟨t, hs⟩
    · obtain ⟨q, hq', e⟩ := List.mem_map.mp z
      rw [← e]; exact (hq q hq').2
  have away : ∀ r ∈ R, ∀ p ∈ places r, ¬ p ∈ pl :: spots sh ps := fun r hr p hp' z => by
    obtain ⟨t0, e⟩ := fr p z
    rcases List.mem_cons.mp hp' with y | y
    · obtain ⟨_, _, _, _, e2⟩ := h.own r hr
      rw [y, e2] at e; cases e
    · obtain ⟨_, _, _, _, e2⟩ := h.part r hr p y
      rw [e2] at e; cases e
  have kp := kept_of a h (fun r hr => hr) away
  have nds : (pl :: spots sh ps).Nodup := by
    have : ((pl :: spots sh ps).map (·.1)).Nodup := by
      show (pl.1 :: (spots sh ps).map (·.1)).Nodup
      have e : (spots sh ps).map (·.1) = ps.map (·.1) := by unfold spots; rw [List.map_map]; rfl
      rw [e]; exact hn
    exact List.Pairwise.of_map _ (fun x y hxy e => hxy (by rw [e])) this
  refine ⟨⟨hok', by rw [hl]; exact h.le, fun pg hm => ?_, ?_, ?_, ?_, ?_, ?_, ?_⟩, v, fun r hr => vals_of a h hr (away r hr), ?_⟩
  · rcases hf pg hm with z | ⟨l, z⟩
    · exact h.used pg z
    · rw [z]; rw [z] at hm; exact packed_used (hok' _ hm)
  · intro r hr
    rcases List.mem_cons.mp hr with z | z
    · rw [z]; exact c
    · exact kp.chain r z
  · intro r hr
    rcases List.mem_cons.mp hr with z | z
    · rw [z]; exact ⟨_, _, _, _, ho⟩
    · exact kp.own r z
  · intro r hr
    rcases List.mem_cons.mp hr with z | z
    · rw [z]; exact hp
    · exact kp.part r z
  · intro r hr
    rcases List.mem_cons.mp hr with z | z
    · rw [z]; exact nds
    · exact h.nd r z
  · exact List.pairwise_cons.mpr ⟨fun r hr p hp' z => away r hr p z hp', h.dj⟩
  · intro p o t' b' s' n' e
    by_cases hx : p ∈ pl :: spots sh ps
    · exact List.mem_flatMap.mpr ⟨_, List.mem_cons_self, hx⟩
    · obtain ⟨b2, e2⟩ := held_of_alike a h.ok hok' hx e
      obtain ⟨r, hr, hp'⟩ := List.mem_flatMap.mp (h.all _ _ _ _ _ _ e2)
      exact List.mem_flatMap.mpr ⟨r, List.mem_cons_of_mem _ hr, hp'⟩
  · unfold turnAt
    rw [ho]; rfl
end
end GX
/-! a row is dropped, a row is changed: the rows behind it -/
namespace GX
open PySem PySem.Spec PyProof.Rows L2 LamX
theorem used_setFree {sh : List Page} (h : ∀ pg ∈ sh, pg.used ≤ 24) (p : Pl) (t : Nat) : ∀ pg ∈ setAt sh p (.free t), pg.used ≤ 24 := by
  intro pg hm
  unfold setAt at hm
  cases q : sh[p.1]? with
  | none => rw [q] at hm; exact h pg hm
  | some g =>
    rw [q] at hm
    rcases mem_set hm with z | z
    · rw [z]
      have hg := h g (List.mem_of_getElem? q)
      show ((g.slots.set p.2 (.free t)).map Slot.size).sum ≤ 24
      cases e : g.slots[p.2]? with
      | none => rw [List.set_eq_of_length_le (by have := List.getElem?_eq_none_iff.mp e; exact this)]; exact hg
      | some s =>
        have := sum_set Slot.size g.slots p.2 s (.free t) e
        have hg' : (g.slots.map Slot.size).sum ≤ 24 := hg
        have : ((g.slots.set p.2 (.free t)).map Slot.size).sum + s.size = (g.slots.map Slot.size).sum + 0 := this
        omega
    · exact h pg z
theorem used_freeAll : ∀ (l : List Pl) {sh : List Page}, (∀ pg ∈ sh, pg.used ≤ 24) → ∀ pg ∈ freeAll sh l, pg.used ≤ 24
  | [], _, h => h
  | p :: l, sh, h => used_freeAll l (used_setFree h p (turnAt sh p))
/-- the rows but that at a place -/
def butAt (R : List Row1) (p : Pl) : List Row1 := R.filter fun r => !decide (r.1 = p)
theorem mem_but {R : List Row1} {p : Pl} {r : Row1} : r ∈ butAt R p ↔ r ∈ R ∧ r.1 ≠ p := by
  unfold butAt
  rw [List.mem_filter]
  simp
section
variable {sh sh' : List Page} {R : List Row1}
/-- two rows have no place in common -/
theorem Rows.apart (h : Rows sh R) {r s : Row1} (hr : r ∈ R) (hs : s ∈ R) (ne : r.1 ≠ s.1) : ∀ p ∈ places r, p ∉ places s := by
  obtain ⟨i, hi⟩ := List.getElem?_of_mem hr
  obtain ⟨j, hj⟩ := List.getElem?_of_mem hs
  have i1 := List.getElem?_eq_some_iff.mp hi
  have j1 := List.getElem?_eq_some_iff.mp hj
  intro p hp hq
  rcases Nat.lt_trichotomy i j with z | z | z
  · have := List.pairwise_iff_getElem.mp h.dj i j i1.1 j1.1 z
    rw [i1.2, j1.2] at this
    exact this p hp hq
  · subst z
    rw [hi] at hj
    exact ne (by rw [Option.some.inj hj])
  · have := List.pairwise_iff_getElem.mp h.dj j i j1.1 i1.1 z
    rw [i1.2, j1.2] at this
    exact this p hq hp
theorem Rows.drop (h : Rows sh R) {pl : Pl} {ps : List Pl} {n : Nat} (hr : (pl, ps) ∈ R) (hok' : ∀ pg ∈ freeAll (setAt sh pl (.free n)) ps, pg.Ok) :
    Rows (freeAll (setAt sh pl (.free n)) ps) (butAt R pl) ∧ (∀ r ∈ butAt R pl, valsOf (freeAll (setAt sh pl (.free n)) ps) (places r) = valsOf sh (places r)) ∧ slotAt (freeAll (setAt sh pl (.free n)) ps) pl = some (.free n) := by
  obtain ⟨t0, b0, s0, n0, e0⟩ := h.own _ hr
  have e0 : slotAt sh pl = some (.held true t0 b0 s0 n0) := e0
  have nd := List.nodup_cons.mp (show (pl :: ps).Nodup from h.nd _ hr)
  have a1 := alike_set (z := .free n) e0
  have hp2 : ∀ p ∈ ps, ∃ s, slotAt (setAt sh pl (.free n)) p = some s := fun p hp => by
    obtain ⟨t, b, s, m, e⟩ := h.part _ hr p hp
    rw [slotAt_setAt e0]
    split
    · exact ⟨_, rfl⟩
    · exact ⟨_, e⟩
  obtain ⟨a2, f2⟩ := freeAll_ok ps _ hp2
  have a := (a1.trans a2).mono (Y := fun p => p ∈ pl :: ps) fun p hp => hp.elim (fun (z : p = pl) => by rw [z]; exact List.mem_cons_self) fun z => List.mem_cons_of_mem _ z
  have away : ∀ r ∈ butAt R pl, ∀ p ∈ places r, ¬ p ∈ pl :: ps := fun r hr' p hp hq => by
    obtain ⟨h1, h2⟩ := mem_but.mp hr'
    exact h.apart h1 hr h2 p hp hq
  have kp := kept_of a h (fun r hr' => (mem_but.mp hr').1) away
  have fpl : slotAt (freeAll (setAt sh pl (.free n)) ps) pl = some (.free n) := a2.free pl n nd.1 (by rw [slotAt_setAt e0, if_pos rfl])
  refine ⟨⟨hok', by rw [a.len]; exact h.le, used_freeAll ps (used_setFree h.used pl n), kp.chain, kp.own, kp.part, fun r hr' => h.nd r (mem_but.mp hr').1, h.dj.sublist List.filter_sublist, fun p o t b s m e => ?_⟩, fun r hr' => vals_of a h (mem_but.mp hr').1 (away r hr'), fpl⟩
  by_cases hx : p ∈ pl :: ps
  · rcases List.mem_cons.mp hx with z | z
    · rw [z, fpl] at e; cases e
    · rw [f2 p z] at e; cases e
  · obtain ⟨b2, e2⟩ := held_of_alike a h.ok hok' hx e
    obtain ⟨r, hr', hp'⟩ := List.mem_flatMap.mp (h.all _ _ _ _ _ _ e2)
    refine List.mem_flatMap.mpr ⟨r, mem_but.mpr ⟨hr', fun z => ?_⟩, hp'⟩
    have : r = (pl, ps) := own_inj h hr' hr z
    rw [this] at hp'
    exact hx hp'
/-- a row is given other values: its old parts are free behind it -/
theorem Rows.change (h : Rows sh R) {pl : Pl} {old : List Pl} {ps : List (Nat × Nat)} {vals : List Nat} (hr : (pl, old) ∈ R) (hokS : ∀ pg ∈ settled sh pl ps vals, pg.Ok) (hok' : ∀ pg ∈ freeAll (settled sh pl ps vals) old, pg.Ok) (hn : (pl.1 :: ps.map (·.1)).Nodup)
    (hq : ∀ q ∈ ps, q.1 < sh.length ∧ ∃ t, slotAt sh (q.1, spotAt sh q.1) = some (.free t)) (hsum : (ps.map (·.2)).sum ≤ vals.length) :
    Rows (freeAll (settled sh pl ps vals) old) ((pl, spots sh ps) :: butAt R pl) ∧ valsOf (freeAll (settled sh pl ps vals) old) (pl :: spots sh ps) = vals ∧ (∀ r ∈ butAt R pl, valsOf (freeAll (settled sh pl ps vals) old) (places r) = valsOf sh (places r)) ∧
      turnAt (freeAll (settled sh pl ps vals) old) pl = turnAt sh pl := by
  have slot_of : ∀ {p : Pl} {s : Slot}, p.1 < sh.length → slotAt sh p = some s → (pageAt sh p.1).slots[p.2]? = some s := fun {p s} hl e => by
    unfold slotAt at e
    rw [(pageAt_some hl).1] at e
    exact e
  obtain ⟨t0, b0, s0, n0, e0⟩ := h.own _ hr
  have e0 : slotAt sh pl = some (.held true t0 b0 s0 n0) := e0
  have h1 := ((slotAt_iff h.ok).mp ⟨_, e0⟩).1
  have nd := List.nodup_cons.mp (show (pl :: old).Nodup from h.nd _ hr)
  obtain ⟨c, v, a1, ⟨b, m, nx, ho⟩, hp, hl, hf⟩ := settled_ok (vals := vals) h.ok hn h1 (slot_of h1 e0) (fun q hq' => ⟨(hq q hq').1, by obtain ⟨t', e⟩ := (hq q hq').2; exact ⟨_, slot_of (p := (q.1, spotAt sh q.1)) (hq q hq').1 e⟩⟩) hsum
  have frs : ∀ p ∈ spots sh ps, ∃ t, slotAt sh p = some (.free t) := fun p hp' => by
    obtain ⟨q, hq', e⟩ := List.mem_map.mp hp'
    rw [← e]; exact (hq q hq').2
  -- what rows hold isn't among the spots
  have nsp : ∀ r ∈ R, ∀ p ∈ places r, p ∉ spots sh ps := fun r hr' p hp' z => by
    obtain ⟨t1, e⟩ := frs p z
    rcases List.mem_cons.mp hp' with y | y
    · obtain ⟨_, _, _, _, e2⟩ := h.own r hr'
      rw [y, e2] at e; cases e
    · obtain ⟨_, _, _, _, e2⟩ := h.part r hr' p y
      rw [e2] at e; cases e
  have hold : ∀ p ∈ old, p ∉ pl :: spots sh ps := fun p hp' z => by
    rcases List.mem_cons.mp z with y | y
    · exact nd.1 (by rw [← y]; exact hp')
    · exact nsp _ hr p (List.mem_cons_of_mem _ hp') y
  have hp2 : ∀ p ∈ old, ∃ s, slotAt (settled sh pl ps vals) p = some s := fun p hp' => by
    obtain ⟨t, b, s, m, e⟩ := h.part _ hr p hp'
    obtain ⟨b', e', _⟩ := a1.held _ _ _ _ _ _ (hold p hp') e
    exact ⟨_, e'⟩
  obtain ⟨a2, f2⟩ := freeAll_ok old _ hp2
  have a := a1.trans a2
  have away : ∀ r ∈ butAt R pl, ∀ p ∈ places r, ¬ (p ∈ pl :: spots sh ps ∨ p ∈ old) := fun r hr' p hp' hq' => by
    obtain ⟨k1, k2⟩ := mem_but.mp hr'
    rcases hq' with z | z
    · rcases List.mem_cons.mp z with y | y
      · exact h.apart k1 hr k2 p hp' (by rw [y]; exact List.mem_cons_self)
      · exact nsp r k1 p hp' y
    · exact h.apart k1 hr k2 p hp' (List.mem_cons_of_mem _ z)
  have kp := kept_of a h (fun r hr' => (mem_but.mp hr').1) away
  have nw : ∀ p ∈ pl :: spots sh ps, ¬ p ∈ old := fun p hp' z => hold p z hp'
  obtain ⟨c2, v2⟩ := a2.chain c nw
  obtain ⟨b3, ho3, _⟩ := a2.held _ _ _ _ _ _ (nw pl List.mem_cons_self) ho
  have nds : (pl :: spots sh ps).Nodup := by
    have : ((pl :: spots sh ps).map (·.1)).Nodup := by
      show (pl.1 :: (spots sh ps).map (·.1)).Nodup
      have e : (spots sh ps).map (·.1) = ps.map (·.1) := by unfold spots; rw [List.map_map]; rfl
      rw [e]; exact hn
    exact List.Pairwise.of_map _ (fun x y hxy e => hxy (by rw [e])) this
  have usedS : ∀ pg ∈ settled sh pl ps vals, pg.used ≤ 24 := fun pg hm => by
    rcases hf pg hm with z | ⟨l, z⟩
    · exact h.used pg z
    · rw [z]; rw [z] at hm; exact packed_used (hokS _ hm)
  refine ⟨⟨hok', by rw [a.len]; exact h.le, used_freeAll old usedS, ?_, ?_, ?_, ?_, ?_, ?_⟩, v2.trans v, fun r hr' => vals_of a h (mem_but.mp hr').1 (away r hr'), ?_⟩
  · intro r hr'
    rcases List.mem_cons.mp hr' with z | z
    · rw [z]; exact c2
    · exact kp.chain r z
  · intro r hr'
    rcases List.mem_cons.mp hr' with z | z
    · rw [z]; exact ⟨_, _, _, _, ho3⟩
    · exact kp.own r z
  · intro r hr'
    rcases List.mem_cons.mp hr' with z | z
    · rw [z]
      intro p hp'
      obtain ⟨t, b, s, m, e⟩ := hp p hp'
      obtain ⟨b', e', _⟩ := a2.held _ _ _ _ _ _ (nw p (List.mem_cons_of_mem _ hp')) e
      exact ⟨t, b', s, m, e'⟩
    · exact kp.part r z
  · intro r hr'
    rcases List.mem_cons.mp hr' with z | z
    · rw [z]; exact nds
    · exact h.nd r (mem_but.mp z).1
  · exact List.pairwise_cons.mpr ⟨fun r hr' p hp' z => away r hr' p z (.inl hp'), h.dj.sublist List.filter_sublist⟩
  · intro p o t b s m e
    by_cases hx : p ∈ pl :: spots sh ps
    · exact List.mem_flatMap.mpr ⟨_, List.mem_cons_self, hx⟩
    by_cases hy : p ∈ old
    · rw [f2 p hy] at e; cases e
    · obtain ⟨b2, e2⟩ := held_of_alike a h.ok hok' (fun z => z.elim hx hy) e
      obtain ⟨r, hr', hp'⟩ := List.mem_flatMap.mp (h.all _ _ _ _ _ _ e2)
      refine List.mem_flatMap.mpr ⟨r, List.mem_cons_of_mem _ (mem_but.mpr ⟨hr', fun z => ?_⟩), hp'⟩
      have : r = (pl, old) := own_inj h hr' hr z
      rw [this] at hp'
      rcases List.mem_cons.mp hp' with y | y
      · exact hx (by rw [y]; exact List.mem_cons_self)
      · exact hy y
  · unfold turnAt
    rw [ho3, e0]; rfl
end
end GX
/-! fresh pages; what a name tells of the rows -/
namespace GX
open PySem PySem.Spec PyProof.Rows L2 LamX
def freshP : Page := ⟨List.replicate 8 (.free 0), List.replicate 24 0⟩
theorem freshP_d : freshP.d = freshD := rfl
theorem freshP_ok : freshP.Ok := ⟨rfl, rfl, fun s hs => by rw [(List.mem_replicate.mp hs).2]; exact Nat.zero_le _, fun c hc => by rw [(List.mem_replicate.mp hc).2]; exact Nat.zero_le _⟩
theorem slotAt_fresh {n : Nat} {p : Pl} {s : Slot} (h : slotAt (List.replicate n freshP) p = some s) : s = .free 0 := by
  obtain ⟨pg, e1, e2⟩ := slotAt_some h
  rw [(List.mem_replicate.mp (List.mem_of_getElem? e1)).2] at e2
  exact (List.mem_replicate.mp (show s ∈ List.replicate 8 (Slot.free 0) from List.mem_of_getElem? e2)).2
theorem rows_fresh {n : Nat} (h : n ≤ 12) : Rows (List.replicate n freshP) [] :=
  ⟨fun pg hm => by rw [(List.mem_replicate.mp hm).2]; exact freshP_ok, by rw [List.length_replicate]; exact h, fun pg hm => by rw [(List.mem_replicate.mp hm).2]; decide, (fun _ h => by cases h), (fun _ h => by cases h), (fun _ h => by cases h), (fun _ h => by cases h), .nil,
    fun p o t b s n e => nomatch slotAt_fresh e⟩
section
variable {sh : List Page} {R : List Row1}
/-- a name that there is, is that of a row -/
theorem Rows.named (h : Rows sh R) {d : PyData} {pl : Pl} (e : placeOf sh d = some pl) : ∃ r ∈ R, r.1 = pl ∧ d = nmD (pl, turnAt sh pl) ∧ turnAt sh pl ≤ 99 := by
  obtain ⟨n, ed, h1, h2, h3, b, s, nx, es⟩ := placeOf_yes e
  obtain ⟨r, hr, hp⟩ := List.mem_flatMap.mp (h.all _ _ _ _ _ _ es)
  have ht : turnAt sh pl = n := by unfold turnAt; rw [es]; rfl
  rcases List.mem_cons.mp hp with z | z
  · exact ⟨r, hr, z.symm, by rw [ed, ht]; rfl, by rw [ht]; exact h3⟩
  · obtain ⟨_, _, _, _, e2⟩ := h.part r hr pl z
    rw [es] at e2; cases e2
/-- a row's name is one -/
theorem Rows.name (h : Rows sh R) {r : Row1} (hr : r ∈ R) : placeOf sh (nmD (r.1, turnAt sh r.1)) = some r.1 := by
  obtain ⟨t, b, s, n, e⟩ := h.own r hr
  have ht : turnAt sh r.1 = t := by unfold turnAt; rw [e]; rfl
  obtain ⟨h1, h2⟩ := (slotAt_iff h.ok).mp ⟨_, e⟩
  obtain ⟨pg, q1, q2, _, _⟩ := slot_get e
  have h99 : t ≤ 99 := ((h.ok pg (List.mem_of_getElem? q1)).sl _ (List.mem_of_getElem? q2)).1
  rw [ht]
  show placeOf sh (.tuple [.int r.1.1, .int r.1.2, .int (t : Int)]) = some r.1
  unfold placeOf
  dsimp only
  rw [if_pos (by omega), Int.toNat_natCast, Int.toNat_natCast, show ((r.1.1, r.1.2) : Pl) = r.1 from rfl, e]
  dsimp only
  rw [if_pos rfl]
end
end GX
/-! put and change on pages that hold just these rows -/
namespace GX
open PySem PySem.Spec PyProof.Rows L2 LamX
theorem zip_fst_sublist : ∀ (a b : List Nat), ((a.zip b).map (·.1)).Sublist a
  | [], _ => by simp
  | x :: a, [] => by simp
  | x :: a, y :: b => by
    simp only [List.zip_cons_cons, List.map_cons]
    exact (zip_fst_sublist a b).cons₂ x
theorem zip_snd_sum : ∀ (a b : List Nat), ((a.zip b).map (·.2)).sum ≤ b.sum
  | [], _ => by simp
  | x :: a, [] => by simp
  | x :: a, y :: b => by
    have := zip_snd_sum a b
    simp only [List.zip_cons_cons, List.map_cons, List.sum_cons]
    omega
theorem spot_free {sh : List Page} {i : Nat} {but : Option Nat} (h : i ∈ usableP sh but) : i < sh.length ∧ ∃ t, slotAt sh (i, spotAt sh i) = some (.free t) ∧ t < 100 := by
  obtain ⟨h1, _, h3⟩ := mem_usableP.mp h
  obtain ⟨tt, ru, eus, esp, htt⟩ := usable_spot h3
  refine ⟨h1, tt, ?_, htt⟩
  unfold slotAt
  rw [(pageAt_some h1).1]
  exact esp
theorem parts_sum (sh : List Page) (pl : Pl) (pgs : List Nat) (n : Nat) : ((pgs.zip ((sharesGo false n (roomsOf sh pl pgs)).1.drop 1)).map (·.2)).sum ≤ n := by
  have h1 := zip_snd_sum pgs ((sharesGo false n (roomsOf sh pl pgs)).1.drop 1)
  have h2 := sum_drop_le (sharesGo false n (roomsOf sh pl pgs)).1 1
  have h3 := shares_sum false n (roomsOf sh pl pgs)
  omega
section
variable {sh : List Page} {R : List Row1}
theorem put_rows (h : Rows sh R) {n : Nat} {pgs vals : List Nat} (hup : usableP sh none = n :: pgs) (hok' : ∀ pg ∈ settled sh (n, spotAt sh n) (pgs.zip ((sharesGo false vals.length (roomsOf sh (n, spotAt sh n) pgs)).1.drop 1)) vals, pg.Ok) :
    ∃ ps, Rows (settled sh (n, spotAt sh n) (pgs.zip ((sharesGo false vals.length (roomsOf sh (n, spotAt sh n) pgs)).1.drop 1)) vals) (((n, spotAt sh n), ps) :: R) ∧
      ps = spots sh (pgs.zip ((sharesGo false vals.length (roomsOf sh (n, spotAt sh n) pgs)).1.drop 1)) ∧
      valsOf (settled sh (n, spotAt sh n) (pgs.zip ((sharesGo false vals.length (roomsOf sh (n, spotAt sh n) pgs)).1.drop 1)) vals) ((n, spotAt sh n) :: ps) = vals ∧
      (∀ r ∈ R, valsOf (settled sh (n, spotAt sh n) (pgs.zip ((sharesGo false vals.length (roomsOf sh (n, spotAt sh n) pgs)).1.drop 1)) vals) (places r) = valsOf sh (places r)) ∧
      turnAt (settled sh (n, spotAt sh n) (pgs.zip ((sharesGo false vals.length (roomsOf sh (n, spotAt sh n) pgs)).1.drop 1)) vals) (n, spotAt sh n) = turnAt sh (n, spotAt sh n) := by
  have nd : (n :: pgs).Nodup := by rw [← hup]; exact usableP_nodup
  have hn := spot_free (show n ∈ usableP sh none by rw [hup]; exact List.mem_cons_self)
  obtain ⟨h1, t, ht, _⟩ := hn
  have sub := zip_fst_sublist pgs ((sharesGo false vals.length (roomsOf sh (n, spotAt sh n) pgs)).1.drop 1)
  obtain ⟨r1, r2, r3, r4⟩ := h.put (pl := (n, spotAt sh n)) (vals := vals) hok' (nd.sublist (sub.cons₂ n)) h1 ht (fun q hq => by
    have hm : q.1 ∈ pgs := sub.subset (List.mem_map.mpr ⟨q, hq, rfl⟩)
    obtain ⟨k1, t', k2, _⟩ := spot_free (show q.1 ∈ usableP sh none by rw [hup]; exact List.mem_cons_of_mem _ hm)
    exact ⟨k1, t', k2⟩) (parts_sum ..)
  refine ⟨_, r1, rfl, r2, r3, r4.trans ?_⟩
  unfold turnAt
  rw [ht]; rfl
theorem change_rows (h : Rows sh R) {pl : Pl} {old : List Pl} {vals : List Nat} (hr : (pl, old) ∈ R) (hokS : ∀ pg ∈ settled sh pl (partsOf sh pl (usableP sh (some pl.1)) vals.length) vals, pg.Ok) (hok' : ∀ pg ∈ freeAll (settled sh pl (partsOf sh pl (usableP sh (some pl.1)) vals.length) vals) old, pg.Ok) :
    Rows (freeAll (settled sh pl (partsOf sh pl (usableP sh (some pl.1)) vals.length) vals) old) ((pl, spots sh (partsOf sh pl (usableP sh (some pl.1)) vals.length)) :: butAt R pl) ∧
      valsOf (freeAll (settled sh pl (partsOf sh pl (usableP sh (some pl.1)) vals.length) vals) old) (pl :: spots sh (partsOf sh pl (usableP sh (some pl.1)) vals.length)) = vals ∧
      (∀ r ∈ butAt R pl, valsOf (freeAll (settled sh pl (partsOf sh pl (usableP sh (some pl.1)) vals.length) vals) old) (places r) = valsOf sh (places r)) ∧
      turnAt (freeAll (settled sh pl (partsOf sh pl (usableP sh (some pl.1)) vals.length) vals) old) pl = turnAt sh pl := by
  have sub : ((partsOf sh pl (usableP sh (some pl.1)) vals.length).map (·.1)).Sublist (usableP sh (some pl.1)) := zip_fst_sublist _ _
  refine h.change hr hokS hok' ?_ (fun q hq => ?_) (parts_sum ..)
  · refine List.nodup_cons.mpr ⟨fun z => ?_, usableP_nodup.sublist sub⟩
    exact (mem_usableP.mp (sub.subset z)).2.1 rfl
  · obtain ⟨k1, t', k2, _⟩ := spot_free (sub.subset (List.mem_map.mpr ⟨q, hq, rfl⟩))
    exact ⟨k1, t', k2⟩
end
end GX
/-! the law's own table of rows, and the pages that hold just these -/
namespace GX
open PySem PySem.Spec PyProof.Rows L2 LamX
/-! ### turns -/
theorem turn_alike {X : Pl → Prop} {sh sh' : List Page} (a : AlikeX X sh sh') {p : Pl} (hx : ¬ X p) {s : Slot} (e : slotAt sh p = some s) : turnAt sh' p = turnAt sh p := by
  unfold turnAt
  rw [e]
  cases s with
  | free t => rw [a.free p t hx e]
  | held o t b z n =>
    obtain ⟨b', e', _⟩ := a.held _ _ _ _ _ _ hx e
    rw [e']; rfl
section
variable {sh : List Page} {R : List Row1}
theorem slot_of {p : Pl} {s : Slot} (hl : p.1 < sh.length) (e : slotAt sh p = some s) : (pageAt sh p.1).slots[p.2]? = some s := by
  unfold slotAt at e
  rw [(pageAt_some hl).1] at e
  exact e
abbrev putPs (sh : List Page) (n : Nat) (pgs : List Nat) (m : Nat) : List (Nat × Nat) := pgs.zip ((sharesGo false m (roomsOf sh (n, spotAt sh n) pgs)).1.drop 1)
theorem put_alike (h : Rows sh R) {n : Nat} {pgs vals : List Nat} (hup : usableP sh none = n :: pgs) :
    AlikeX (fun p => p ∈ (n, spotAt sh n) :: spots sh (putPs sh n pgs vals.length)) sh (settled sh (n, spotAt sh n) (putPs sh n pgs vals.length) vals) ∧ (∀ p ∈ (n, spotAt sh n) :: spots sh (putPs sh n pgs vals.length), ∃ t, slotAt sh p = some (.free t) ∧ t < 100) ∧
      (((n, spotAt sh n) :: spots sh (putPs sh n pgs vals.length)).map (·.1)).Nodup := by
  have nd : (n :: pgs).Nodup := by rw [← hup]; exact usableP_nodup
  obtain ⟨h1, t, ht, ht100⟩ := spot_free (show n ∈ usableP sh none by rw [hup]; exact List.mem_cons_self)
  have sub := zip_fst_sublist pgs ((sharesGo false vals.length (roomsOf sh (n, spotAt sh n) pgs)).1.drop 1)
  have fr : ∀ q ∈ putPs sh n pgs vals.length, q.1 < sh.length ∧ ∃ t, slotAt sh (q.1, spotAt sh q.1) = some (.free t) ∧ t < 100 := fun q hq => by
    have hm : q.1 ∈ pgs := sub.subset (List.mem_map.mpr ⟨q, hq, rfl⟩)
    exact spot_free (show q.1 ∈ usableP sh none by rw [hup]; exact List.mem_cons_of_mem _ hm)
  have hnd : (n :: (putPs sh n pgs vals.length).map (·.1)).Nodup := nd.sublist (sub.cons₂ n)
  obtain ⟨_, _, a, _⟩ := settled_ok (vals := vals) (pl := (n, spotAt sh n)) h.ok hnd h1 (slot_of h1 ht) (fun q hq => ⟨(fr q hq).1, by obtain ⟨_, t', e, _⟩ := fr q hq; exact ⟨_, slot_of (p := (q.1, spotAt sh q.1)) (fr q hq).1 e⟩⟩) (parts_sum ..)
  refine ⟨a, fun p hp => ?_, ?_⟩
  · rcases List.mem_cons.mp hp with z | z
    · rw [z]; exact ⟨t, ht, ht100⟩
    · obtain ⟨q, hq, e⟩ := List.mem_map.mp z
      rw [← e]; exact (fr q hq).2
  · show (n :: (spots sh _).map (·.1)).Nodup
    have e : (spots sh (putPs sh n pgs vals.length)).map (·.1) = (putPs sh n pgs vals.length).map (·.1) := by unfold spots; rw [List.map_map]; rfl
    rw [e]; exact hnd
theorem change_alike (h : Rows sh R) {pl : Pl} {old : List Pl} {vals : List Nat} (hr : (pl, old) ∈ R) :
    AlikeX (fun p => p ∈ pl :: spots sh (partsOf sh pl (usableP sh (some pl.1)) vals.length) ∨ p ∈ old) sh (freeAll (settled sh pl (partsOf sh pl (usableP sh (some pl.1)) vals.length) vals) old) ∧
      (∀ p ∈ spots sh (partsOf sh pl (usableP sh (some pl.1)) vals.length), ∃ t, slotAt sh p = some (.free t) ∧ t < 100) ∧
      ((pl :: spots sh (partsOf sh pl (usableP sh (some pl.1)) vals.length)).map (·.1)).Nodup ∧
      (∀ p ∈ old, slotAt (freeAll (settled sh pl (partsOf sh pl (usableP sh (some pl.1)) vals.length) vals) old) p = some (.free (turnAt sh p))) := by
  have sub : ((partsOf sh pl (usableP sh (some pl.1)) vals.length).map (·.1)).Sublist (usableP sh (some pl.1)) := zip_fst_sublist _ _
  have hn : (pl.1 :: (partsOf sh pl (usableP sh (some pl.1)) vals.length).map (·.1)).Nodup := by
    refine List.nodup_cons.mpr ⟨fun z => ?_, usableP_nodup.sublist sub⟩
    exact (mem_usableP.mp (sub.subset z)).2.1 rfl
  have fr : ∀ q ∈ partsOf sh pl (usableP sh (some pl.1)) vals.length, q.1 < sh.length ∧ ∃ t, slotAt sh (q.1, spotAt sh q.1) = some (.free t) ∧ t < 100 := fun q hq => spot_free (sub.subset (List.mem_map.mpr ⟨q, hq, rfl⟩))
  obtain ⟨t0, b0, s0, n0, e0⟩ := h.own _ hr
  have e0 : slotAt sh pl = some (.held true t0 b0 s0 n0) := e0
  have h1 := ((slotAt_iff h.ok).mp ⟨_, e0⟩).1
  have nd := List.nodup_cons.mp (show (pl :: old).Nodup from h.nd _ hr)
  obtain ⟨c, v, a1, ⟨b, m, nx, ho⟩, hp, hl, hf⟩ := settled_ok (vals := vals) h.ok hn h1 (slot_of h1 e0) (fun q hq' => ⟨(fr q hq').1, by obtain ⟨_, t', e, _⟩ := fr q hq'; exact ⟨_, slot_of (p := (q.1, spotAt sh q.1)) (fr q hq').1 e⟩⟩) (parts_sum ..)
  have frs : ∀ p ∈ spots sh (partsOf sh pl (usableP sh (some pl.1)) vals.length), ∃ t, slotAt sh p = some (.free t) ∧ t < 100 := fun p hp' => by
    obtain ⟨q, hq', e⟩ := List.mem_map.mp hp'
    rw [← e]; exact (fr q hq').2
  have nsp : ∀ r ∈ R, ∀ p ∈ places r, p ∉ spots sh (partsOf sh pl (usableP sh (some pl.1)) vals.length) := fun r hr' p hp' z => by
    obtain ⟨t1, e, _⟩ := frs p z
    rcases List.mem_cons.mp hp' with y | y
    · obtain ⟨_, _, _, _, e2⟩ := h.own r hr'
      rw [y, e2] at e; cases e
    · obtain ⟨_, _, _, _, e2⟩ := h.part r hr' p y
      rw [e2] at e; cases e
  have hold : ∀ p ∈ old, p ∉ pl :: spots sh (partsOf sh pl (usableP sh (some pl.1)) vals.length) := fun p hp' z => by
    rcases List.mem_cons.mp z with y | y
    · exact nd.1 (by rw [← y]; exact hp')
    · exact nsp _ hr p (List.mem_cons_of_mem _ hp') y
  have hp2 : ∀ p ∈ old, ∃ s, slotAt (settled sh pl (partsOf sh pl (usableP sh (some pl.1)) vals.length) vals) p = some s := fun p hp' => by
    obtain ⟨t, b, s, m, e⟩ := h.part _ hr p hp'
    obtain ⟨b', e', _⟩ := a1.held _ _ _ _ _ _ (hold p hp') e
    exact ⟨_, e'⟩
  obtain ⟨a2, f2⟩ := freeAll_ok old _ hp2
  refine ⟨a1.trans a2, frs, ?_, fun p hp' => ?_⟩
  · show (pl.1 :: (spots sh _).map (·.1)).Nodup
    have e : (spots sh (partsOf sh pl (usableP sh (some pl.1)) vals.length)).map (·.1) = (partsOf sh pl (usableP sh (some pl.1)) vals.length).map (·.1) := by unfold spots; rw [List.map_map]; rfl
    rw [e]; exact hn
  · rw [f2 p hp']
    obtain ⟨t, b, s, m, e⟩ := h.part _ hr p hp'
    rw [turn_alike a1 (hold p hp') e]
theorem drop_alike (h : Rows sh R) {pl : Pl} {ps : List Pl} {n : Nat} (hr : (pl, ps) ∈ R) : AlikeX (fun p => p ∈ pl :: ps) sh (freeAll (setAt sh pl (.free n)) ps) ∧ ∀ p ∈ ps, slotAt (freeAll (setAt sh pl (.free n)) ps) p = some (.free (turnAt sh p)) := by
  obtain ⟨t0, b0, s0, n0, e0⟩ := h.own _ hr
  have e0 : slotAt sh pl = some (.held true t0 b0 s0 n0) := e0
  have nd := List.nodup_cons.mp (show (pl :: ps).Nodup from h.nd _ hr)
  have a1 := alike_set (z := .free n) e0
  have hp2 : ∀ p ∈ ps, ∃ s, slotAt (setAt sh pl (.free n)) p = some s := fun p hp => by
    obtain ⟨t, b, s, m, e⟩ := h.part _ hr p hp
    rw [slotAt_setAt e0]
    split
    · exact ⟨_, rfl⟩
    · exact ⟨_, e⟩
  obtain ⟨a2, f2⟩ := freeAll_ok ps _ hp2
  refine ⟨(a1.trans a2).mono fun p hp => hp.elim (fun (z : p = pl) => by rw [z]; exact List.mem_cons_self) fun z => List.mem_cons_of_mem _ z, fun p hp => ?_⟩
  rw [f2 p hp]
  obtain ⟨t, b, s, m, e⟩ := h.part _ hr p hp
  rw [turn_alike a1 (fun (z : p = pl) => nd.1 (by rw [← z]; exact hp)) e]
end
/-! ### the table -/
abbrev Ent := Nm × List Nat × Addr
def nmK (nm : Nm) : List L2.Key := [.inl (nm.1.1 : Int), .inl (nm.1.2 : Int), .inl (nm.2 : Int)]
def entV (e : Ent) : List L2.Key × V := (nmK e.1, V.ref e.2.2)
theorem nmK_inj {a b : Nm} (h : nmK a = nmK b) : a = b := by
  unfold nmK at h
  injection h with h1 h
  injection h with h2 h
  injection h with h3 _
  injection h1 with h1
  injection h2 with h2
  injection h3 with h3
  exact Prod.ext (Prod.ext (by omega) (by omega)) (by omega)
theorem nmK_kV (nm : Nm) : (nmK nm).map kV = nmV nm := rfl
def putE (D : List Ent) (nm : Nm) (v : List Nat) (a : Addr) : List Ent := if (D.any fun e => decide (e.1 = nm)) = true then D.map (fun e => if e.1 = nm then (nm, v, a) else e) else D ++ [(nm, v, a)]
def dropE (D : List Ent) (nm : Nm) : List Ent := D.filter fun e => decide (e.1 ≠ nm)
theorem dec_nmK (a b : Nm) : decide (nmK a = nmK b) = decide (a = b) := by
  by_cases h : a = b
  · rw [h, decide_eq_true rfl, decide_eq_true rfl]
  · rw [decide_eq_false h, decide_eq_false fun z => h (nmK_inj z)]
theorem putE_V (D : List Ent) (nm : Nm) (v : List Nat) (a : Addr) : (putE D nm v a).map entV = putK (D.map entV) (nmK nm) (.ref a) := by
  unfold putE putK
  have e1 : ((D.map entV).any fun kv => decide (kv.1 = nmK nm)) = D.any fun e => decide (e.1 = nm) := by
    rw [List.any_map]
    congr 1
    funext e
    exact dec_nmK e.1 nm
  rw [e1]
  by_cases h : (D.any fun e => decide (e.1 = nm)) = true
  · rw [if_pos h, if_pos h, List.map_map, List.map_map]
    refine List.map_congr_left fun e _ => ?_
    show entV (if e.1 = nm then (nm, v, a) else e) = if nmK e.1 = nmK nm then (nmK e.1, V.ref a) else entV e
    by_cases h2 : e.1 = nm
    · rw [if_pos h2, if_pos (by rw [h2]), h2]; rfl
    · rw [if_neg h2, if_neg fun z => h2 (nmK_inj z)]
  · rw [if_neg h, if_neg h, List.map_append]; rfl
theorem dropE_V (D : List Ent) (nm : Nm) : (dropE D nm).map entV = dropK (D.map entV) (nmK nm) := by
  unfold dropE dropK
  rw [List.filter_map]
  congr 1
  refine List.filter_congr fun e _ => ?_
  show decide (e.1 ≠ nm) = decide (nmK e.1 ≠ nmK nm)
  rw [decide_not, decide_not, dec_nmK]
theorem valE_find : ∀ {D : List Ent} {e : Ent}, e ∈ D → (D.map (·.1)).Nodup → valV (D.map entV) (nmK e.1) = some (.ref e.2.2)
  | [], _, h, _ => nomatch h
  | d :: D, e, h, nd => by
    obtain ⟨n1, n2⟩ := List.nodup_cons.mp (show (d.1 :: D.map (·.1)).Nodup from nd)
    rw [List.map_cons]
    rcases List.mem_cons.mp h with z | z
    · rw [z]; exact valV_pos rfl
    · rw [valV_neg (p := entV d) (fun q => n1 (by rw [nmK_inj (show nmK d.1 = nmK e.1 from q)]; exact List.mem_map.mpr ⟨e, z, rfl⟩))]
      exact valE_find z n2
theorem valE_none {D : List Ent} {nm : Nm} (h : ∀ e ∈ D, e.1 ≠ nm) : valV (D.map entV) (nmK nm) = none := by
  induction D with
  | nil => rfl
  | cons d D ih =>
    rw [List.map_cons, valV_neg (p := entV d) (fun q => h d List.mem_cons_self (nmK_inj (show nmK d.1 = nmK nm from q)))]
    exact ih fun e he => h e (List.mem_cons_of_mem _ he)
theorem mem_putE {D : List Ent} {nm : Nm} {v : List Nat} {a : Addr} {e : Ent} (h : e ∈ putE D nm v a) : e = (nm, v, a) ∨ (e ∈ D ∧ e.1 ≠ nm) := by
  unfold putE at h
  split at h
  · obtain ⟨d, hd, rfl⟩ := List.mem_map.mp h
    by_cases h2 : d.1 = nm
    · rw [if_pos h2]; exact .inl rfl
    · rw [if_neg h2]; exact .inr ⟨hd, h2⟩
  · rename_i hn
    rcases List.mem_append.mp h with z | z
    · refine .inr ⟨z, fun q => hn (List.any_eq_true.mpr ⟨e, z, decide_eq_true q⟩)⟩
    · exact .inl (List.mem_singleton.mp z)
theorem putE_mem {D : List Ent} {nm : Nm} {v : List Nat} {a : Addr} : (nm, v, a) ∈ putE D nm v a := by
  unfold putE
  split
  · rename_i h
    obtain ⟨d, hd, e⟩ := List.any_eq_true.mp h
    exact List.mem_map.mpr ⟨d, hd, if_pos (of_decide_eq_true e)⟩
  · exact List.mem_append_right _ (List.mem_singleton.mpr rfl)
theorem putE_keep {D : List Ent} {nm : Nm} {v : List Nat} {a : Addr} {e : Ent} (h : e ∈ D) (hn : e.1 ≠ nm) : e ∈ putE D nm v a := by
  unfold putE
  split
  · exact List.mem_map.mpr ⟨e, h, if_neg hn⟩
  · exact List.mem_append_left _ h
theorem putE_keys (D : List Ent) (nm : Nm) (v : List Nat) (a : Addr) : (putE D nm v a).map (·.1) = if nm ∈ D.map (·.1) then D.map (·.1) else D.map (·.1) ++ [nm] := by
  unfold putE
  have e1 : (D.any fun e => decide (e.1 = nm)) = true ↔ nm ∈ D.map (·.1) := by
    rw [List.any_eq_true]
    exact ⟨fun ⟨e, h1, h2⟩ => List.mem_map.mpr ⟨e, h1, of_decide_eq_true h2⟩, fun h => by obtain ⟨e, h1, h2⟩ := List.mem_map.mp h; exact ⟨e, h1, decide_eq_true h2⟩⟩
  by_cases h : nm ∈ D.map (·.1)
  · rw [if_pos (e1.mpr h), if_pos h, List.map_map]
    refine List.map_congr_left fun e _ => ?_
    show (if e.1 = nm then (nm, v, a) else e).1 = e.1
    by_cases h2 : e.1 = nm
    · rw [if_pos h2, h2]
    · rw [if_neg h2]
  · rw [if_neg fun z => h (e1.mp z), if_neg h, List.map_append]; rfl
theorem putE_nodup {D : List Ent} {nm : Nm} {v : List Nat} {a : Addr} (h : (D.map (·.1)).Nodup) : ((putE D nm v a).map (·.1)).Nodup := by
  rw [putE_keys]
  split
  · exact h
  · rename_i hn
    exact List.nodup_append.mpr ⟨h, by simp, fun x hx y hy z => hn (by rw [← List.mem_singleton.mp hy, ← z]; exact hx)⟩
theorem putE_len {D : List Ent} {nm : Nm} {v : List Nat} {a : Addr} : (putE D nm v a).length ≤ D.length + 1 := by
  unfold putE
  split
  · rw [List.length_map]; omega
  · rw [List.length_append]; simp
theorem mem_dropE {D : List Ent} {nm : Nm} {e : Ent} : e ∈ dropE D nm ↔ e ∈ D ∧ e.1 ≠ nm := by
  unfold dropE
  rw [List.mem_filter, decide_eq_true_eq]
theorem dropE_nodup {D : List Ent} {nm : Nm} (h : (D.map (·.1)).Nodup) : ((dropE D nm).map (·.1)).Nodup := h.sublist (List.filter_sublist.map _)
theorem dropE_len {D : List Ent} {nm : Nm} : (dropE D nm).length ≤ D.length := List.length_filter_le _ _
/-- the table tells just the rows of the pages -/
structure Kn (sh : List Page) (R : List Row1) (D : List Ent) : Prop where
  rows : Rows sh R
  up : ∀ r ∈ R, ((places r).map (·.1)).Nodup
  nd : (D.map (·.1)).Nodup
  to : ∀ r ∈ R, ∃ a, ((r.1, turnAt sh r.1), valsOf sh (places r), a) ∈ D
  of : ∀ e ∈ D, ∃ r ∈ R, e.1 = (r.1, turnAt sh r.1) ∧ e.2.1 = valsOf sh (places r)
theorem kn_fresh {n : Nat} (h : n ≤ 12) : Kn (List.replicate n freshP) [] [] := ⟨rows_fresh h, (fun _ h => nomatch h), List.nodup_nil, (fun _ h => nomatch h), fun _ h => nomatch h⟩
section
variable {sh : List Page} {R : List Row1} {D : List Ent}
theorem Kn.put (k : Kn sh R D) {n : Nat} {pgs vals : List Nat} {a : Addr} (hup : usableP sh none = n :: pgs) (hok' : ∀ pg ∈ settled sh (n, spotAt sh n) (putPs sh n pgs vals.length) vals, pg.Ok) :
    Kn (settled sh (n, spotAt sh n) (putPs sh n pgs vals.length) vals) (((n, spotAt sh n), spots sh (putPs sh n pgs vals.length)) :: R) (putE D ((n, spotAt sh n), turnAt sh (n, spotAt sh n)) vals a) ∧
      (∀ e ∈ D, e.1.1 ≠ (n, spotAt sh n)) := by
  obtain ⟨ps, r1, rfl, r2, r3, r4⟩ := put_rows k.rows hup hok'
  obtain ⟨al, fr, nu⟩ := put_alike (vals := vals) k.rows hup
  have away : ∀ r ∈ R, r.1 ≠ (n, spotAt sh n) ∧ turnAt (settled sh (n, spotAt sh n) (putPs sh n pgs vals.length) vals) r.1 = turnAt sh r.1 := fun r hr => by
    obtain ⟨t, b, s, m, e⟩ := k.rows.own r hr
    have hx : ¬ r.1 ∈ (n, spotAt sh n) :: spots sh (putPs sh n pgs vals.length) := fun z => by
      obtain ⟨t', e', _⟩ := fr _ z
      rw [e] at e'; cases e'
    exact ⟨fun z => hx (by rw [z]; exact List.mem_cons_self), turn_alike al hx e⟩
  refine ⟨⟨r1, fun r hr => ?_, putE_nodup k.nd, fun r hr => ?_, fun e he => ?_⟩, fun e he z => ?_⟩
  · rcases List.mem_cons.mp hr with z | z
    · rw [z]; exact nu
    · exact k.up r z
  · rcases List.mem_cons.mp hr with z | z
    · rw [z]
      refine ⟨a, ?_⟩
      have e1 : valsOf (settled sh (n, spotAt sh n) (putPs sh n pgs vals.length) vals) (places ((n, spotAt sh n), spots sh (putPs sh n pgs vals.length))) = vals := r2
      rw [e1]
      show ((_, turnAt _ (n, spotAt sh n)), _, _) ∈ _
      rw [r4]
      exact putE_mem
    · obtain ⟨a', ha⟩ := k.to r z
      refine ⟨a', ?_⟩
      rw [r3 r z, (away r z).2]
      exact putE_keep ha fun q => (away r z).1 (congrArg Prod.fst q)
  · rcases mem_putE he with z | ⟨z1, z2⟩
    · refine ⟨_, List.mem_cons_self, ?_, ?_⟩
      · rw [z]; show _ = (_, turnAt _ (n, spotAt sh n)); rw [r4]
      · rw [z]; exact r2.symm
    · obtain ⟨r, hr, e1, e2⟩ := k.of e z1
      exact ⟨r, List.mem_cons_of_mem _ hr, by rw [(away r hr).2]; exact e1, by rw [r3 r hr]; exact e2⟩
  · obtain ⟨r, hr, e1, _⟩ := k.of e he
    rw [e1] at z
    exact (away r hr).1 z
theorem Kn.change (k : Kn sh R D) {pl : Pl} {old : List Pl} {vals : List Nat} {a : Addr} (hr : (pl, old) ∈ R) (hokS : ∀ pg ∈ settled sh pl (partsOf sh pl (usableP sh (some pl.1)) vals.length) vals, pg.Ok) (hok' : ∀ pg ∈ freeAll (settled sh pl (partsOf sh pl (usableP sh (some pl.1)) vals.length) vals) old, pg.Ok) :
    Kn (freeAll (settled sh pl (partsOf sh pl (usableP sh (some pl.1)) vals.length) vals) old) ((pl, spots sh (partsOf sh pl (usableP sh (some pl.1)) vals.length)) :: butAt R pl) (putE D (pl, turnAt sh pl) vals a) := by
  obtain ⟨r1, r2, r3, r4⟩ := change_rows k.rows hr hokS hok'
  obtain ⟨al, fr, nu, _⟩ := change_alike (vals := vals) k.rows hr
  have away : ∀ r ∈ butAt R pl, turnAt (freeAll (settled sh pl (partsOf sh pl (usableP sh (some pl.1)) vals.length) vals) old) r.1 = turnAt sh r.1 := fun r hr' => by
    obtain ⟨k1, k2⟩ := mem_but.mp hr'
    obtain ⟨t, b, s, m, e⟩ := k.rows.own r k1
    refine turn_alike al (fun z => ?_) e
    rcases z with z | z
    · rcases List.mem_cons.mp z with y | y
      · exact k2 y
      · obtain ⟨t', e', _⟩ := fr _ y
        rw [e] at e'; cases e'
    · exact k.rows.apart k1 hr k2 r.1 List.mem_cons_self (List.mem_cons_of_mem _ z)
  refine ⟨r1, fun r hr' => ?_, putE_nodup k.nd, fun r hr' => ?_, fun e he => ?_⟩
  · rcases List.mem_cons.mp hr' with z | z
    · rw [z]; exact nu
    · exact k.up r (mem_but.mp z).1
  · rcases List.mem_cons.mp hr' with z | z
    · rw [z]
      refine ⟨a, ?_⟩
      have e1 : valsOf (freeAll (settled sh pl (partsOf sh pl (usableP sh (some pl.1)) vals.length) vals) old) (places (pl, spots sh (partsOf sh pl (usableP sh (some pl.1)) vals.length))) = vals := r2
      rw [e1]
      show ((_, turnAt _ pl), _, _) ∈ _
      rw [r4]
      exact putE_mem
    · obtain ⟨a', ha⟩ := k.to r (mem_but.mp z).1
      refine ⟨a', ?_⟩
      rw [r3 r z, away r z]
      exact putE_keep ha fun q => (mem_but.mp z).2 (congrArg Prod.fst q)
  · rcases mem_putE he with z | ⟨z1, z2⟩
    · refine ⟨_, List.mem_cons_self, ?_, ?_⟩
      · rw [z]; show _ = (_, turnAt _ pl); rw [r4]
      · rw [z]; exact r2.symm
    · obtain ⟨r, hr', e1, e2⟩ := k.of e z1
      have hb : r ∈ butAt R pl := mem_but.mpr ⟨hr', fun q => z2 (by rw [e1, q])⟩
      exact ⟨r, List.mem_cons_of_mem _ hb, by rw [away r hb]; exact e1, by rw [r3 r hb]; exact e2⟩
theorem Kn.drop (k : Kn sh R D) {pl : Pl} {ps : List Pl} {n : Nat} (hr : (pl, ps) ∈ R) (hok' : ∀ pg ∈ freeAll (setAt sh pl (.free n)) ps, pg.Ok) :
    Kn (freeAll (setAt sh pl (.free n)) ps) (butAt R pl) (dropE D (pl, turnAt sh pl)) := by
  obtain ⟨r1, r2, r3⟩ := k.rows.drop hr hok'
  obtain ⟨al, _⟩ := drop_alike (n := n) k.rows hr
  have away : ∀ r ∈ butAt R pl, turnAt (freeAll (setAt sh pl (.free n)) ps) r.1 = turnAt sh r.1 := fun r hr' => by
    obtain ⟨k1, k2⟩ := mem_but.mp hr'
    obtain ⟨t, b, s, m, e⟩ := k.rows.own r k1
    exact turn_alike al (fun z => k.rows.apart k1 hr k2 r.1 List.mem_cons_self z) e
  refine ⟨r1, fun r hr' => k.up r (mem_but.mp hr').1, dropE_nodup k.nd, fun r hr' => ?_, fun e he => ?_⟩
  · obtain ⟨a', ha⟩ := k.to r (mem_but.mp hr').1
    refine ⟨a', ?_⟩
    rw [r2 r hr', away r hr']
    exact mem_dropE.mpr ⟨ha, fun q => (mem_but.mp hr').2 (congrArg Prod.fst q)⟩
  · obtain ⟨z1, z2⟩ := mem_dropE.mp he
    obtain ⟨r, hr', e1, e2⟩ := k.of e z1
    have hb : r ∈ butAt R pl := mem_but.mpr ⟨hr', fun q => z2 (by rw [e1, q])⟩
    exact ⟨r, hb, by rw [away r hb]; exact e1, by rw [r2 r hb]; exact e2⟩
end
end GX
/-! put, change, drop on pages of which the rows are known -/
namespace GX
open PySem PySem.Spec PyProof.Rows L2 LamX
section
variable {sh : List Page} {vals : List Nat}
theorem lay_oks (hok : ∀ pg ∈ sh, pg.Ok) (hu : ∀ pg ∈ sh, pg.used ≤ 24) (h12 : sh.length ≤ 12) (hv : ∀ c ∈ vals, c ≤ 99) : ∀ ps : List (Nat × Nat), (∀ z ∈ ps, z.1 < sh.length ∧ (pageAt sh z.1).usable ≠ [] ∧ 1 ≤ z.2 ∧ z.2 ≤ freeOf sh z.1) → (ps.map (·.2)).sum ≤ vals.length →
    (∀ pg ∈ (lay sh vals ps).2.1, pg.Ok) ∧ NxOk (lay sh vals ps).1
  | [], _, _ => ⟨hok, fun p hp => nomatch hp⟩
  | (g, sz) :: r, h, hs => by
    have hs' : sz + (r.map (·.2)).sum ≤ vals.length := hs
    obtain ⟨i1, i2⟩ := lay_oks hok hu h12 hv r (fun z hz => h z (List.mem_cons_of_mem _ hz)) (by omega)
    have hend := lay_end sh vals r (by omega)
    obtain ⟨h1, h2, h3, h4⟩ := h _ List.mem_cons_self
    dsimp only at h1 h2 h3 h4
    obtain ⟨t, ru, e1, e2, e3⟩ := usable_spot h2
    have okp := hok _ (pageAt_some h1).2
    have hus := hu _ (pageAt_some h1).2
    rw [freeOf_page h1] at h4
    have hl : ((vals.drop ((lay sh vals r).2.2 - sz)).take sz).length = sz := by
      rw [List.length_take, List.length_drop]
      omega
    have h8 : (pageAt sh g).usable.headD 0 < 8 := by
      have := (List.getElem?_eq_some_iff.mp e2).1
      rw [okp.ns] at this
      exact this
    refine ⟨fun pg hm => ?_, fun p hp => ?_⟩
    · rcases mem_set (show pg ∈ (lay sh vals r).2.1.set g _ from hm) with z | z
      · rw [z]
        refine okp.withValues (i := spotAt sh g) e2 (by show t ≤ 99; omega) (fun c hc => hv c (List.mem_of_mem_drop (List.mem_of_mem_take hc))) (fun _ => by rw [hl]; exact h3) i2 ?_
        rw [hl]
        show _ ≤ 24 + 0
        omega
      · exact i1 pg z
    · have hp : some (g, spotAt sh g) = some p := hp
      cases hp
      exact ⟨by omega, by show spotAt sh g ≤ 7; unfold spotAt; omega⟩
theorem settled_oks {pl : Pl} {pgs : List Nat} (hok : ∀ pg ∈ sh, pg.Ok) (h12 : sh.length ≤ 12) (ml : MayLay sh pl pgs) (hv : ∀ c ∈ vals, c ≤ 99) (h0 : (sharesGo false vals.length (roomsOf sh pl pgs)).2 = 0) :
    ∀ pg ∈ settled sh pl (pgs.zip ((sharesGo false vals.length (roomsOf sh pl pgs)).1.drop 1)) vals, pg.Ok := by
  generalize hsh : sharesGo false vals.length (roomsOf sh pl pgs) = sg at h0
  have sums : sg.1.sum = vals.length := by
    have := shares_sum false vals.length (roomsOf sh pl pgs)
    rw [hsh, h0] at this
    omega
  have edrop : sg.1.drop 1 = (sharesGo true (vals.length - min vals.length (roomOf sh pl)) (pgs.map (freeOf sh))).1 := by
    rw [← hsh]
    unfold roomsOf
    rw [shares_cons]; rfl
  have hlp : (sg.1.drop 1).length ≤ pgs.length := by
    rw [edrop]
    have := shares_len true (vals.length - min vals.length (roomOf sh pl)) (pgs.map (freeOf sh))
    rw [List.length_map] at this
    exact this
  have psumE : min vals.length (roomOf sh pl) + ((pgs.zip (sg.1.drop 1)).map (·.2)).sum = vals.length := by
    have e1 : (pgs.zip (sg.1.drop 1)).map (·.2) = sg.1.drop 1 := List.map_snd_zip hlp
    rw [e1]
    have esg : sg.1 = min vals.length (roomOf sh pl) :: sg.1.drop 1 := by
      rw [edrop, ← hsh]
      unfold roomsOf
      rw [shares_cons]
    have := congrArg List.sum esg
    rw [sums, List.sum_cons] at this
    exact this.symm
  have pok : ∀ z ∈ pgs.zip (sg.1.drop 1), z.1 < sh.length ∧ (pageAt sh z.1).usable ≠ [] ∧ 1 ≤ z.2 ∧ z.2 ≤ freeOf sh z.1 := by
    intro z hz
    obtain ⟨j, hj⟩ := List.mem_iff_getElem?.mp hz
    obtain ⟨h1, h2⟩ := List.getElem?_zip_eq_some.mp hj
    rw [edrop] at h2
    have hr : (sharesGo true (vals.length - min vals.length (roomOf sh pl)) (pgs.map (freeOf sh))).2 = 0 := by
      rw [← hsh] at h0
      unfold roomsOf at h0
      rw [shares_cons] at h0
      exact h0
    have hm := List.mem_of_getElem? h1
    exact ⟨ml.lt _ hm, ml.us _ hm, shares_pos _ _ ml.desc hr _ (List.mem_of_getElem? h2), shares_le _ _ _ j _ _ h2 (by rw [List.getElem?_map, h1]; rfl)⟩
  obtain ⟨i1, i2⟩ := lay_oks hok ml.used h12 hv _ pok (by omega)
  have hend := lay_end sh vals (pgs.zip (sg.1.drop 1)) (by omega)
  obtain ⟨s0, es0⟩ := slotAt_in (sh := sh) (pl := pl) (fun pg hm => (hok pg hm).ns) ml.p1 ml.p2
  obtain ⟨pg0, q1, q2, q3, _⟩ := slot_get es0
  obtain rfl : pg0 = pageAt sh pl.1 := by
    have := (pageAt_some ml.p1).1
    rw [q1] at this
    exact Option.some.inj this
  have ok0 := hok _ (pageAt_some ml.p1).2
  have hus := ml.used _ (pageAt_some ml.p1).2
  have hroom : roomOf sh pl = 24 - (pageAt sh pl.1).used + s0.size := by
    unfold roomOf
    rw [q2]; rfl
  intro pg hm
  rcases mem_set (show pg ∈ (lay sh vals _).2.1.set pl.1 _ from hm) with z | z
  · rw [z]
    refine ok0.withValues (i := pl.2) q2 (by have := ml.turn; rw [q3] at this; exact this) (fun c hc => hv c (List.mem_of_mem_take hc)) (fun h => nomatch h) i2 ?_
    rw [List.length_take]
    omega
  · exact i1 pg z
theorem freeAll_oks : ∀ (l : List Pl) {sh : List Page}, (∀ pg ∈ sh, pg.Ok) → ∀ pg ∈ freeAll sh l, pg.Ok
  | [], _, h => h
  | p :: l, sh, h => by
    refine freeAll_oks l (sh := setAt sh p (.free (turnAt sh p))) fun pg hm => ?_
    cases e : sh[p.1]? with
    | none =>
      have e1 : setAt sh p (.free (turnAt sh p)) = sh := by unfold setAt; rw [e]
      rw [e1] at hm; exact h pg hm
    | some g =>
      have e1 : setAt sh p (.free (turnAt sh p)) = sh.set p.1 (g.setSlot p.2 (.free (turnAt sh p))) := by unfold setAt; rw [e]
      rw [e1] at hm
      rcases mem_set hm with z | z
      · rw [z]
        refine (h g (List.mem_of_getElem? e)).setSlot ?_
        show turnAt sh p ≤ 100
        unfold turnAt
        cases es : slotAt sh p with
        | none => exact Nat.zero_le _
        | some s =>
          obtain ⟨g2, q1, q2⟩ := slotAt_some es
          have := (h g2 (List.mem_of_getElem? q1)).sl s (List.mem_of_getElem? q2)
          cases s with
          | free t => exact this
          | held o t b z n => exact Nat.le_succ_of_le this.1
      · exact h pg z
end
/-! ### the chain that the program walks is the row -/
theorem chain_fn {sh : List Page} : ∀ {l : List Pl} {z : Option Pl}, Chain sh z l → ∀ n, l.length ≤ n → chainX sh n z = l
  | _, _, .nil, 0, _ => rfl
  | _, _, .nil, _ + 1, _ => rfl
  | _, _, .cons _ _, 0, h => by simp at h
  | _, _, .cons (p := p) (l := l) (n := m) e c, n + 1, h => by
    show p :: chainX sh n (((slotAt sh p).map Slot.next).getD none) = p :: l
    rw [e]
    show p :: chainX sh n m = p :: l
    rw [chain_fn c n (by rw [List.length_cons] at h; omega)]
theorem chain_b {sh : List Page} : ∀ {l : List Pl} {z : Option Pl}, Chain sh z l → chainB sh z l = true
  | _, _, .nil => rfl
  | _, _, .cons (p := p) (l := l) e c => by
    show (decide (p = p) && (match slotAt sh p with
      | some (.held _ _ _ _ n) => chainB sh n l
      | _ => false)) = true
    rw [e, decide_eq_true rfl, Bool.true_and]
    exact chain_b c
section
variable {sh sh' : List Page} {R : List Row1} {D : List Ent} {vals : List Nat}
theorem Rows.chn (h : Rows sh R) {r : Row1} (hr : r ∈ R) : chn sh r.1 = places r := chain_fn (h.chain r hr) 97 (by have := h.len hr; omega)
theorem Rows.live (h : Rows sh R) {r : Row1} (hr : r ∈ R) : liveB sh (r.1, turnAt sh r.1) = true := by
  unfold liveB
  rw [decide_eq_true (h.name hr), Bool.true_and]
  unfold chainOk
  show (chainB sh (some r.1) (GX.chn sh r.1) && (decide ((GX.chn sh r.1).length ≤ 199) && (GX.chn sh r.1).all fun z => decide (z.1 < sh.length) && decide (z.2 < 8))) = true
  rw [h.chn hr, chain_b (h.chain r hr), decide_eq_true (by have := h.len hr; omega), Bool.true_and, Bool.true_and, List.all_eq_true]
  intro z hz
  have hs : ∃ s, slotAt sh z = some s := by
    rcases List.mem_cons.mp hz with e | e
    · obtain ⟨t, b, s, n, q⟩ := h.own r hr
      rw [e]; exact ⟨_, q⟩
    · obtain ⟨t, b, s, n, q⟩ := h.part r hr z e
      exact ⟨_, q⟩
  obtain ⟨h1, h2⟩ := (slotAt_iff h.ok).mp hs
  rw [decide_eq_true h1, decide_eq_true h2]; rfl
theorem Rows.usedB (h : Rows sh R) : usedB sh = true := List.all_eq_true.mpr fun pg hp => decide_eq_true (h.used pg hp)
theorem Kn.live (k : Kn sh R D) {e : Ent} (he : e ∈ D) : liveB sh e.1 = true := by
  obtain ⟨r, hr, e1, _⟩ := k.of e he
  rw [e1]; exact k.rows.live hr
theorem Kn.valsE (k : Kn sh R D) {e : Ent} (he : e ∈ D) : valsOf sh (chn sh e.1.1) = e.2.1 := by
  obtain ⟨r, hr, e1, e2⟩ := k.of e he
  rw [e1, e2, k.rows.chn hr]
theorem Kn.small (k : Kn sh R D) {e : Ent} (he : e ∈ D) : e.1.1.1 < 12 ∧ e.1.1.2 < 8 ∧ e.1.2 ≤ 99 := by
  obtain ⟨r, hr, e1, _⟩ := k.of e he
  obtain ⟨t, b, s, n, q⟩ := k.rows.own r hr
  obtain ⟨h1, h2⟩ := (slotAt_iff k.rows.ok).mp ⟨_, q⟩
  obtain ⟨pg, q1, q2, q3, _⟩ := slot_get q
  have h99 : t ≤ 99 := ((k.rows.ok pg (List.mem_of_getElem? q1)).sl _ (List.mem_of_getElem? q2)).1
  have hl := k.rows.le
  rw [e1]
  refine ⟨by show r.1.1 < 12; omega, h2, ?_⟩
  show turnAt sh r.1 ≤ 99
  rw [q3]; exact h99
theorem Kn.putX (k : Kn sh R D) {nm : Nm} {a : Addr} (hv : ∀ c ∈ vals, c ≤ 99) (e : putX sh vals = some (sh', nm)) : ∃ n pgs, usableP sh none = n :: pgs ∧ (sharesGo false vals.length (roomsOf sh (n, spotAt sh n) pgs)).2 = 0 ∧ nm = ((n, spotAt sh n), turnAt sh (n, spotAt sh n)) ∧ sh' = settled sh (n, spotAt sh n) (putPs sh n pgs vals.length) vals ∧
    Kn sh' (((n, spotAt sh n), spots sh (putPs sh n pgs vals.length)) :: R) (putE D nm vals a) ∧ (∀ e ∈ D, e.1.1 ≠ nm.1) := by
  unfold GX.putX at e
  split at e
  · cases e
  · rename_i n pgs hup
    split at e
    · rename_i h0
      injection e with e
      injection e with e1 e2
      have ml := mayLay_put k.rows.used (fun pg hp => (k.rows.ok pg hp).ns) k.rows.le hup
      have hok' := settled_oks k.rows.ok k.rows.le ml hv h0
      obtain ⟨k1, k2⟩ := k.put (a := a) hup hok'
      refine ⟨n, pgs, hup, h0, e2.symm, e1.symm, ?_, ?_⟩
      · rw [← e1, ← e2]; exact k1
      · rw [← e2]; exact k2
    · cases e
theorem Kn.changeX (k : Kn sh R D) {en : Ent} {a : Addr} (he : en ∈ D) (hv : ∀ c ∈ vals, c ≤ 99) (e : changeX sh en.1.1 vals = some sh') : ∃ old, (en.1.1, old) ∈ R ∧ en.1.2 = turnAt sh en.1.1 ∧ (sharesGo false vals.length (roomsOf sh en.1.1 (usableP sh (some en.1.1.1)))).2 = 0 ∧ sh' = freeAll (settled sh en.1.1 (partsOf sh en.1.1 (usableP sh (some en.1.1.1)) vals.length) vals) old ∧
    Kn sh' ((en.1.1, spots sh (partsOf sh en.1.1 (usableP sh (some en.1.1.1)) vals.length)) :: butAt R en.1.1) (putE D en.1 vals a) := by
  obtain ⟨r, hr, e1, e2⟩ := k.of en he
  obtain ⟨pl, old⟩ := r
  have ep : en.1.1 = pl := by rw [e1]
  have et : en.1.2 = turnAt sh pl := by rw [e1]
  have en1 : en.1 = (pl, turnAt sh pl) := e1
  unfold GX.changeX at e
  rw [ep] at e ⊢
  split at e
  · rename_i h0
    injection e with e
    have hc : (chn sh pl).tail = old := by rw [k.rows.chn hr]; rfl
    rw [hc] at e
    obtain ⟨t0, b0, s0, n0, q⟩ := k.rows.own _ hr
    have q : slotAt sh pl = some (.held true t0 b0 s0 n0) := q
    obtain ⟨pg, q1, q2, q3, _⟩ := slot_get q
    have h99 : t0 ≤ 99 := ((k.rows.ok pg (List.mem_of_getElem? q1)).sl _ (List.mem_of_getElem? q2)).1
    have ml := mayLay_change k.rows.used (fun pg hp => (k.rows.ok pg hp).ns) k.rows.le q h99
    have hokS := settled_oks k.rows.ok k.rows.le ml hv h0
    refine ⟨old, hr, et, h0, e.symm, ?_⟩
    rw [← e, en1]
    exact k.change hr hokS (freeAll_oks old hokS)
  · cases e
theorem Kn.dropX (k : Kn sh R D) {en : Ent} (he : en ∈ D) : ∃ old, (en.1.1, old) ∈ R ∧ en.1.2 = turnAt sh en.1.1 ∧ GX.dropX sh en.1 = freeAll (setAt sh en.1.1 (.free (en.1.2 + 1))) old ∧ Kn (GX.dropX sh en.1) (butAt R en.1.1) (dropE D en.1) := by
  obtain ⟨r, hr, e1, e2⟩ := k.of en he
  obtain ⟨pl, old⟩ := r
  have ep : en.1.1 = pl := by rw [e1]
  have et : en.1.2 = turnAt sh pl := by rw [e1]
  have en1 : en.1 = (pl, turnAt sh pl) := e1
  have hc : (chn sh pl).tail = old := by rw [k.rows.chn hr]; rfl
  have ed : GX.dropX sh en.1 = freeAll (setAt sh pl (.free (en.1.2 + 1))) old := by unfold GX.dropX; rw [ep, hc]
  obtain ⟨t0, b0, s0, n0, q⟩ := k.rows.own _ hr
  have q : slotAt sh pl = some (.held true t0 b0 s0 n0) := q
  obtain ⟨pg, q1, q2, q3, q4⟩ := slot_get q
  have okp := k.rows.ok pg (List.mem_of_getElem? q1)
  have h99 : t0 ≤ 99 := (okp.sl _ (List.mem_of_getElem? q2)).1
  have q3 : turnAt sh pl = t0 := q3
  have ok1 : ∀ g ∈ setAt sh pl (.free (en.1.2 + 1)), g.Ok := fun g hm => by
    rw [q4] at hm
    rcases mem_set hm with z | z
    · rw [z]
      refine okp.setSlot ?_
      show en.1.2 + 1 ≤ 100
      rw [et, q3]; omega
    · exact k.rows.ok g z
  refine ⟨old, by rw [ep]; exact hr, by rw [ep]; exact et, by rw [ep]; exact ed, ?_⟩
  rw [ed, ep]
  have := k.drop (n := en.1.2 + 1) hr (freeAll_oks old ok1)
  rw [← en1] at this
  exact this
end
end GX
set_option maxHeartbeats 2000000
namespace GX
open PySem PySem.Spec PyProof.Rows L2 LamX
section
variable {P : Program} {w : World} {K : PySem.W.Frag} {mg : Str → Option Value} {base : Heap} {T : List (Addr × Str)}
theorem sc_begun : FnScope ["_law_script", "_law_stirred", "_law_cell"] ["_law_script"] (defScope s_begun) := ⟨rfl, rfl, rfl, by decide +kernel, rfl, by decide +kernel, by decide +kernel⟩
theorem ok_begun {f : Addr} {fd : FuncData} (F : Fun K "_law_begun" "_law_begun" s_begun f fd) (B : Blt mg) : FnOk P w K mg base CX0 1 f fd ["_law_script"] (spBegun K T) := by
  refine F.ok sc_begun (fun vs H Q E h => by obtain ⟨a, ns, rfl, _⟩ := h; rfl) (fun cdv A outer s H vs Q E hr h => ?_)
  obtain ⟨a, ns, rfl, hS, hlen, k⟩ := h
  have nd := sc_begun.nd
  refine ⟨_, pss_cons (ps_set (i := 1) nd rfl (Or.inl rfl) pe_int)
    (pss_cons (ps_for PassesOwn.never rfl (pi_list (pv 0)) (pg_name (i := 2) nd rfl (Or.inl rfl))
      (pss_one (ps_set (i := 1) nd rfl (Or.inl rfl) (pe_op op_mod (pe_op op_add (pe_op op_add (pe_op op_mul (pv 1) pe_int) (pe_op op_mul (pv 2) pe_int)) pe_int) pe_int))))
    (pss_one (ps_ret (pe_lst (pa_cons (pe_callTy call_list_of (by rfl) B.list boot_list (pa_cons (pv 0) pa_nil))
      (pa_cons (pe_op op_mul (pv 1) (pe_callTy call_int1 (by rfl) B.int boot_int (pa_cons (pe_cmpR op_gt (pe_callB call_len_seq (by rfl) B.len PySem.boot_len (pa_cons (pv 0) pa_nil)) pe_int (nomark _)) pa_nil))) pa_nil)))))), ?_⟩
  refine ⟨_, rfl, a, rfl, ⟨_, hS⟩, for_list (K := K) (a := a) (xs := ns.map V.int) (fun i σ H' => H' = H ∧ ∃ (z : Int) (v : Option V), σ = [some (.ref a), some (.int z), v] ∧ 0 ≤ z ∧ z < 2147483647)
    ⟨rfl, 0, none, rfl, by decide, by decide⟩ (fun i σ H' _ q => by rw [q.1]; exact hS) ?_ ?_⟩
  · rintro i y σ H' hi ⟨rfl, z, v, rfl, h1, h2⟩
    obtain ⟨n, hn, rfl⟩ : ∃ n, ns[i]? = some n ∧ y = V.int n := by
      rw [List.getElem?_map] at hi
      cases e : ns[i]? with
      | none => rw [e] at hi; cases hi
      | some n => rw [e] at hi; exact ⟨n, rfl, (Option.some.inj hi).symm⟩
    refine ⟨_, rfl, _, _, rfl, rfl, .inr ⟨by decide, by decide⟩, _, rfl, _, _, rfl, rfl, .inr ⟨by decide, by decide⟩, _, _, rfl, rfl, _, _, rfl, rfl, _, _, rfl, rfl, (by show (0 : Int) < 2147483647; decide), ?_⟩
    exact ⟨rfl, _, _, rfl, Int.emod_nonneg _ (by decide), Int.emod_lt_of_pos _ (by decide)⟩
  · rintro σ H' ⟨rfl, z, v, rfl, h1, h2⟩
    refine ⟨_, rfl, a, _, rfl, .inl hS, fun l hl => ?_⟩
    have x1 : XX T H' (upd H' l (.lst (ns.map V.int))) := XX.new hl
    refine ⟨_, rfl, _, rfl, a, _, rfl, .inl (x1.sqL hS), _, _, rfl, rfl, .inr ⟨_, rfl, ?_⟩⟩
    refine ⟨_, _, rfl, rfl, .inr ?_, (by show 2 ≤ sizeLine; decide), fun b hb => ?_⟩
    · split <;> exact ⟨by decide, by decide⟩
    · have nbl : b ≠ l := fun e => by rw [e, upd_same] at hb; cases hb
      have hb0 : H' b = none := by rw [upd_ne nbl] at hb; exact hb
      refine k _ b l _ (x1.then_new hb) ⟨upd_same, ?_, nbl, ?_, ?_, hlen⟩ hb0 hl
      · rw [upd_ne (Ne.symm nbl), upd_same]
      · split <;> omega
      · split <;> omega
theorem sc_take : FnScope ["_law_box", "_law_many", "_law_number"] ["_law_box", "_law_many"] (defScope s_take) := ⟨rfl, rfl, rfl, by decide +kernel, rfl, by decide +kernel, by decide +kernel⟩
theorem ok_take {f : Addr} {fd : FuncData} (F : Fun K "_law_take" "_law_take" s_take f fd) : FnOk P w K mg base CX0 1 f fd ["_law_box", "_law_many"] (spTake T) := by
  refine F.ok sc_take (fun vs H Q E h => by obtain ⟨b, l, ns, z, m, rfl, _⟩ := h; rfl) (fun cdv A outer s H vs Q E hr h => ?_)
  obtain ⟨b, l, ns, z, m, rfl, bx, m0, m1, k⟩ := h
  have nd := sc_take.nd
  have hB : ∀ {H'}, H' b = some (.lst [.ref l, .int z]) → SqL K H' b [.ref l, .int z] := fun h => SqL.of h
  refine ⟨_, pss_cons (ps_if (pt_cmpR (op_eqD hr.units) (pe_ix ix_list (pv 0) pe_int (fun _ _ => rfl)) (pe_lst pa_nil) (nomark _))
      (pss_cons (ps_asg (pe_op op_mod (pe_op op_mul (pe_ix ix_list (pv 0) pe_int (fun _ _ => rfl)) pe_int) pe_int) (pg_sub (pv 0) pe_int set_list))
        (pss_one (ps_ret (pe_op op_mod (pe_op op_fdiv (pe_ix ix_list (pv 0) pe_int (fun _ _ => rfl)) pe_int) (pv 1))))) pss_nil)
    (pss_cons (ps_set (i := 2) nd rfl (Or.inl rfl) (pe_ix ix_list (pe_ix ix_list (pv 0) pe_int (fun _ _ => rfl)) pe_int (fun _ _ => rfl)))
    (pss_cons (ps_asg (pe_op op_fdivW (pv 2) (pv 1)) (pg_sub (pe_ix ix_list (pv 0) pe_int (fun _ _ => rfl)) pe_int set_list))
    (pss_cons (ps_if (PW.pt (pw_or (pt_cmpR op_eq (pe_ix ix_list (pe_ix ix_list (pv 0) pe_int (fun _ _ => rfl)) pe_int (fun _ _ => rfl)) pe_int (nomark _)) (pw_or1 (pt_cmpR op_eq (pe_ix ix_list (pe_ix ix_list (pv 0) pe_int (fun _ _ => rfl)) pe_int (fun _ _ => rfl)) (pe_un un_neg pe_int) (nomark _)))))
      (pss_one (ps_expr (pe_bm PySem.F.plainAttrs_list PySem.F.slot_list_pop PySem.F.type_list_pop mt_popAt (pe_ix ix_list (pv 0) pe_int (fun _ _ => rfl)) (pa_cons pe_int pa_nil)))) pss_nil)
    (pss_one (ps_ret (pe_op op_mod (pv 2) (pv 1))))))), ?_⟩
  refine ⟨_, rfl, b, _, 0, .ref l, rfl, rfl, hB bx.hb, rfl, Nat.zero_le _, fun q hq => ?_⟩
  have x1 : XX T H (upd H q (.lst [])) := XX.new hq
  have bx1 := bx.xx x1
  refine ⟨.list (ns.map .int), .list [], .lst (SqL.of bx1.hl) (dp_ints _ ns), .lst (SqL.of upd_same) .nil, shaped_ints ns, shaped_nil, _, rfl, ?_⟩
  rw [eqv_nil]
  cases ns with
  | nil =>
    refine iteT ⟨_, rfl, b, _, 1, .int z, rfl, rfl, hB bx1.hb, rfl, _, _, rfl, rfl, .inr ⟨by decide, by decide⟩, _, _, rfl, rfl, (by show (0 : Int) < 2147483647; decide), ?_⟩
    refine ⟨_, rfl, b, _, 1, 1, rfl, rfl, bx1.hb, rfl, ?_⟩
    have x2 : XM T (fun c => c = b ∨ c = l) H _ := x1.xm.then_upd (o' := .lst [.ref l, .int (z * 48271 % 2147483647)]) bx1.hb (.inl rfl) True.intro
    refine ⟨_, rfl, b, _, 1, .int (z * 48271 % 2147483647), rfl, rfl, SqL.of upd_same, rfl, _, _, rfl, rfl, ⟨by decide, by decide⟩, _, rfl, _, _, rfl, rfl, m0, ?_⟩
    refine k _ [] _ _ x2 ⟨upd_same, ?_, bx.ne, Int.emod_nonneg _ (by decide), Int.emod_lt_of_pos _ (by decide), Nat.zero_le _⟩ (Int.emod_nonneg _ (by omega)) (Int.emod_lt_of_pos _ m0)
    rw [upd_ne (Ne.symm bx.ne)]; exact bx1.hl
  | cons n r =>
    have len : r.length + 1 ≤ 63 := bx.len
    refine iteF ⟨_, rfl, b, _, 0, .ref l, rfl, rfl, hB bx1.hb, rfl, l, _, 0, .int n, rfl, rfl, SqL.of bx1.hl, atI0, ?_⟩
    refine ⟨_, rfl, _, rfl, _, _, rfl, rfl, box_div m0 m1, _, rfl, b, _, 0, .ref l, rfl, rfl, hB bx1.hb, rfl, l, _, 0, 0, rfl, rfl, bx1.hl, ?_, ?_⟩
    · unfold ixN
      simp
      try omega
    · have x2 : XM T (fun c => c = b ∨ c = l) H _ := x1.xm.then_upd (o' := .lst (V.int (n / m) :: r.map V.int)) bx1.hl (.inr rfl) True.intro
      have hb2 : upd (upd H q (.lst [])) l (.lst (V.int (n / m) :: r.map V.int)) b = some (.lst [.ref l, .int z]) := by rw [upd_ne bx.ne]; exact bx1.hb
      have bx2 : BoxAt (upd (upd H q (.lst [])) l (.lst (V.int (n / m) :: r.map V.int))) b l (n / m :: r) z := ⟨hb2, upd_same, bx.ne, bx.lo, bx.hi, bx.len⟩
      have retN : Q (.int (n % m)) (upd (upd H q (.lst [])) l (.lst (V.int (n / m) :: r.map V.int))) := k _ (n / m :: r) z _ x2 bx2 (Int.emod_nonneg _ (by omega)) (Int.emod_lt_of_pos _ m0)
      have x3 : XM T (fun c => c = b ∨ c = l) H _ := x2.then_upd (o' := .lst (r.map V.int)) upd_same (.inr rfl) True.intro
      have retP : Q (.int (n % m)) (upd (upd (upd H q (.lst [])) l (.lst (V.int (n / m) :: r.map V.int))) l (.lst (r.map V.int))) := by
        refine k _ r z _ x3 ⟨?_, upd_same, bx.ne, bx.lo, bx.hi, by omega⟩ (Int.emod_nonneg _ (by omega)) (Int.emod_lt_of_pos _ m0)
        rw [upd_ne bx.ne]; exact hb2
      have sq0 : seqIndex? 0 (V.int (n / m) :: r.map V.int).length = some 0 := by
        have e := (ixN_seq (n := (V.int (n / m) :: r.map V.int).length) (i := 0) (j := 0) (by unfold ixN; simp; try omega)).1
        exact e
      refine ⟨_, rfl, b, _, 0, .ref l, rfl, rfl, hB hb2, rfl, l, _, 0, .int (n / m), rfl, rfl, SqL.of upd_same, atI0, rfl, _, rfl, ?_⟩
      by_cases h0 : n / m = 0
      · rw [decide_eq_true (show V.int (n / m) = V.int 0 by rw [h0])]
        exact iteT (iteT ⟨_, rfl, b, _, 0, .ref l, rfl, rfl, hB hb2, rfl, .inl ⟨rfl, _, SqL.of upd_same⟩, l, _, 0, 0, _, rfl, rfl, upd_same, by decide, by decide, sq0, rfl, _, rfl, _, rfl, _, _, rfl, rfl, m0, retP⟩)
      · rw [decide_eq_false (fun e => h0 (V.int.inj e))]
        refine iteF ⟨_, rfl, b, _, 0, .ref l, rfl, rfl, hB hb2, rfl, l, _, 0, .int (n / m), rfl, rfl, SqL.of upd_same, atI0, 1, rfl, rfl, _, rfl, ?_⟩
        by_cases h1 : n / m = -1
        · rw [decide_eq_true (show V.int (n / m) = V.int (-1) by rw [h1])]
          exact iteT ⟨_, rfl, b, _, 0, .ref l, rfl, rfl, hB hb2, rfl, .inl ⟨rfl, _, SqL.of upd_same⟩, l, _, 0, 0, _, rfl, rfl, upd_same, by decide, by decide, sq0, rfl, _, rfl, _, rfl, _, _, rfl, rfl, m0, retP⟩
        · rw [decide_eq_false (fun e => h1 (V.int.inj e))]
          exact iteF ⟨_, rfl, _, rfl, _, _, rfl, rfl, m0, retN⟩
end
end GX
set_option maxHeartbeats 8000000
/-! a shelf of the law's own, and where it stands -/
namespace GX
open PySem PySem.Spec PyProof.Rows L2 LamX
def fsh (n : Nat) : List Page := List.replicate n freshP
theorem size_small {p : Page} (h : p.Ok) : ∀ s ∈ p.slots, s.size ≤ 1000 := fun s hs => by
  have := h.sl s hs
  cases s with
  | free t => exact Nat.zero_le _
  | held o t b n z =>
    have h2 : b + n ≤ 24 := this.2.1
    show n ≤ 1000
    omega
theorem dp_nmV {K : PySem.W.Frag} {H : Hp} {v : V} {nm : Nm} (h : Dp K H v (nmD nm)) : ∃ a, v = .ref a ∧ SqT K H a (nmV nm) := by
  obtain ⟨a, xs, e, hs, hx⟩ := dp_tup h
  cases hx with
  | cons h1 hx =>
    cases h1
    cases hx with
    | cons h2 hx =>
      cases h2
      cases hx with
      | cons h3 hx =>
        cases h3
        cases hx
        exact ⟨a, e, hs⟩
theorem nmV_dp {K : PySem.W.Frag} {H : Hp} {t : Addr} {nm : Nm} (h : SqT K H t (nmV nm)) : Dp K H (.ref t) (nmD nm) := .tup h (.cons (.int _) (.cons (.int _) (.cons (.int _) .nil)))
abbrev SB2 (b l : Addr) : Addr → Prop := fun c => c = b ∨ c = l
section
variable {K : PySem.W.Frag} {T : List (Addr × Str)} {C CS : Addr} {b l q p sl : Addr} {sh sh' : List Page} {H0 H H' : Hp} {P1 P2 PF PV PR : Addr}
/-- the box and a shelf, apart -/
structure Sit (K : PySem.W.Frag) (T : List (Addr × Str)) (C CS b l q p sl : Addr) (sh : List Page) (H0 H : Hp) : Prop where
  bx : ∃ ns z, BoxAt H b l ns z
  st : ∃ qx dx d, ShAt K C CS H q qx p dx sl sh d
  y : XM T (fun _ => True) H0 H
theorem BoxAt.neq {ns : List Int} {z : Int} {o : HO} {a : Addr} (bx : BoxAt H b l ns z) (h : H a = some o) (hn : ∀ xs, o ≠ .lst xs) : b ≠ a ∧ l ≠ a := by
  constructor
  · intro e
    rw [← e, bx.hb] at h
    exact hn _ (Option.some.inj h).symm
  · intro e
    rw [← e, bx.hl] at h
    exact hn _ (Option.some.inj h).symm
theorem Sit.xx (s : Sit K T C CS b l q p sl sh H0 H) (x : XX T H H') : Sit K T C CS b l q p sl sh H0 H' := by
  obtain ⟨ns, z, bx⟩ := s.bx
  obtain ⟨qx, dx, d, st⟩ := s.st
  exact ⟨⟨ns, z, bx.xx x⟩, ⟨qx, dx, d, st.xx x⟩, s.y.trans x.xm⟩
theorem Sit.ap (s : Sit K T C CS b l q p sl sh H0 H) (nsl : b ≠ sl ∧ l ≠ sl) : b ≠ q ∧ l ≠ q ∧ b ≠ p ∧ l ≠ p := by
  obtain ⟨ns, z, bx⟩ := s.bx
  obtain ⟨qx, dx, d, st⟩ := s.st
  have h1 := bx.neq st.ins fun xs e => by cases e
  have h2 := bx.neq st.dk.ins fun xs e => by cases e
  exact ⟨h1.1, h1.2, h2.1, h2.2⟩
theorem Sit.take (s : Sit K T C CS b l q p sl sh H0 H) (nsl : b ≠ sl ∧ l ≠ sl) {ns : List Int} {z : Int} (x : XM T (fun c => c = b ∨ c = l) H H') (bx : BoxAt H' b l ns z) : Sit K T C CS b l q p sl sh H0 H' := by
  obtain ⟨n1, n2, n3, n4⟩ := s.ap nsl
  obtain ⟨qx, dx, d, st⟩ := s.st
  exact ⟨⟨ns, z, bx⟩, ⟨qx, dx, d, st.xm x (fun h => h.elim (fun e => n1 e.symm) fun e => n2 e.symm) (fun h => h.elim (fun e => n3 e.symm) fun e => n4 e.symm) (fun h => h.elim (fun e => nsl.1 e.symm) fun e => nsl.2 e.symm)⟩, s.y.trans (x.mono fun _ _ => True.intro)⟩
theorem Sit.deed (s : Sit K T C CS b l q p sl sh H0 H) (nsl : b ≠ sl ∧ l ≠ sl) {qx dx : Addr} {d : Int} (x : XM T (fun c => c = p ∨ c = sl) H H') (st : ShAt K C CS H' q qx p dx sl sh' d) : Sit K T C CS b l q p sl sh' H0 H' := by
  obtain ⟨n1, n2, n3, n4⟩ := s.ap nsl
  obtain ⟨ns, z, bx⟩ := s.bx
  exact ⟨⟨ns, z, bx.xm x (fun h => h.elim n3 nsl.1) (fun h => h.elim n4 nsl.2)⟩, ⟨qx, dx, d, st⟩, s.y.trans (x.mono fun _ _ => True.intro)⟩
/-- what is not there is none of these -/
theorem Sit.fresh (s : Sit K T C CS b l q p sl sh H0 H) {a : Addr} (h : H a = none) : a ≠ p ∧ a ≠ sl ∧ a ≠ b ∧ a ≠ l := by
  obtain ⟨ns, z, bx⟩ := s.bx
  obtain ⟨qx, dx, d, st⟩ := s.st
  refine ⟨fun e => ?_, fun e => ?_, fun e => ?_, fun e => ?_⟩
  · rw [e, st.dk.ins] at h; cases h
  · obtain ⟨_, h', _⟩ := st.dk.lst
    rw [e, h'] at h; cases h
  · rw [e, bx.hb] at h; cases h
  · rw [e, bx.hl] at h; cases h
theorem Sit.freshq (s : Sit K T C CS b l q p sl sh H0 H) {a : Addr} (h : H a = none) : a ≠ q := fun e => by
  obtain ⟨qx, dx, d, st⟩ := s.st
  rw [e, st.ins] at h; cases h
theorem Sit.upd (s : Sit K T C CS b l q p sl sh H0 H) {D : Addr} (x : XM T (fun c => c = D) H H') (f : D ≠ p ∧ D ≠ sl ∧ D ≠ b ∧ D ≠ l) (fq : D ≠ q) : Sit K T C CS b l q p sl sh H0 H' := by
  obtain ⟨ns, z, bx⟩ := s.bx
  obtain ⟨qx, dx, d, st⟩ := s.st
  exact ⟨⟨ns, z, bx.xm x (Ne.symm f.2.2.1) (Ne.symm f.2.2.2)⟩, ⟨qx, dx, d, st.xm x (Ne.symm fq) (Ne.symm f.1) (Ne.symm f.2.1)⟩, s.y.trans (x.mono fun _ _ => True.intro)⟩
theorem natsD_at {u : Addr} {vals : List Nat} (h : H u = some (.lst (vals.map fun (n : Nat) => V.int (n : Int)))) : Dp K H (.ref u) (natsD vals) := .lst (SqL.of h) (intsV_dp H vals)
end
/-! ### Shelf(Disk(N)) -/
theorem fsh_d (n : Nat) : shD (fsh n) = List.replicate n freshD := by
  unfold shD fsh
  rw [List.map_replicate, freshP_d]
theorem fsh_ok (n : Nat) : ∀ pg ∈ fsh n, pg.Ok := fun pg h => by unfold fsh at h; rw [(List.mem_replicate.mp h).2]; exact freshP_ok
theorem fsh_len (n : Nat) : (fsh n).length = n := List.length_replicate ..
theorem fsh_rows : ((List.range 13).all fun n => decide (rowPlaces (fsh n) = []) && decide (lostOf (fsh n) (fun _ => []) = [])) = true := by decide +kernel
theorem fsh_no {n : Nat} (h : n ≤ 12) : rowPlaces (fsh n) = [] ∧ lostOf (fsh n) (fun _ => []) = [] := by
  have q := List.all_eq_true.mp fsh_rows n (List.mem_range.mpr (by omega))
  obtain ⟨a, b⟩ := Bool.and_eq_true_iff.mp q
  exact ⟨of_decide_eq_true a, of_decide_eq_true b⟩
section
variable {K : PySem.W.Frag} {T : List (Addr × Str)} {C CS cD b l P1 P2 : Addr} {H0 H : Hp}
theorem shelf_new {te : TE} {σ : L2.St} {Q : VK} {N : Nat} {ns : List Int} {z : Int} (h2 : 2 ≤ N) (h12 : N ≤ 12) (bx : BoxAt H b l ns z) (y : XM T (fun _ => True) H0 H) (g1 : GxR.TabG H P1) (g2 : GxR.TabG H P2) (ht : ∀ Q' : VK, Q' (.int (N : Int)) H → te σ H Q')
    (k : ∀ q p sl H', (b ≠ sl ∧ l ≠ sl) → Sit K T C CS b l q p sl (fsh N) H0 H' → XM T (fun _ => True) H H' → Q (.ref q) H') :
    tMake CS (spSInit K T C CS P1 P2) [] E0 (tCons (tMake C (spDInit K T C cD) [] E0 (tCons te tNil)) tNil) σ H Q := by
  refine ht _ fun p dx np ndx ne => ?_
  have xa := (XX.new (T := T) (o := .own p) ndx).then_new (o := .ins C dx []) (by rw [upd_ne (Ne.symm ne)]; exact np)
  refine ⟨p, dx, .int (N : Int), .int (N : Int), rfl, upd_same, .int _, (fun hf => by rw [num_of (by omega) (by omega)] at hf; cases hf), fun n' en hn1 hn2 H5 sl x5 nsl dk5 => ⟨rfl, ?_⟩⟩
  cases en
  rw [Int.toNat_natCast, ← fsh_d] at dk5
  have npb : b ≠ p := fun e => by rw [← e, bx.hb] at np; cases np
  have npl : l ≠ p := fun e => by rw [← e, bx.hl] at np; cases np
  have bx5 := (bx.xx xa).xm x5 npb npl
  have nslb : b ≠ sl := fun e => by rw [← e, (bx.xx xa).hb] at nsl; cases nsl
  have nsll : l ≠ sl := fun e => by rw [← e, (bx.xx xa).hl] at nsl; cases nsl
  have y5 : XM T (fun _ => True) H H5 := xa.xm.trans (x5.mono fun _ _ => True.intro)
  refine fun q qx nq nqx ne2 => ?_
  have xb := (XX.new (T := T) (o := .own q) nqx).then_new (o := .ins CS qx []) (by rw [upd_ne (Ne.symm ne2)]; exact nq)
  have nqb : b ≠ q := fun e => by rw [← e, bx5.hb] at nq; cases nq
  have nql : l ≠ q := fun e => by rw [← e, bx5.hl] at nq; cases nq
  have y5b := y5.trans xb.xm
  obtain ⟨r1, r2⟩ := fsh_no h12
  refine ⟨q, qx, p, dx, sl, fsh N, 0, fun _ => [], rfl, upd_same, dk5.xx xb, fsh_ok N, (by rw [fsh_len]; exact h12), (fun z hz => by rw [r1] at hz; cases hz), y5b.tabG _ g1, y5b.tabG _ g2, fun H6 x6 st6 => ⟨rfl, ?_⟩⟩
  rw [r2] at st6
  have bx6 := (bx5.xx xb).xm x6 (fun h => h.elim nqb fun h => h.elim npb nslb) (fun h => h.elim nql fun h => h.elim npl nsll)
  have y6 : XM T (fun _ => True) H H6 := y5b.trans (x6.mono fun _ _ => True.intro)
  exact k q p sl H6 ⟨nslb, nsll⟩ ⟨⟨_, _, bx6⟩, ⟨_, _, _, st6⟩, y.trans y6⟩ y6
end
end GX
set_option maxHeartbeats 4000000
/-! the law's table as a dict, and its keys sorted: the names -/
namespace GX
open PySem PySem.Spec PyProof.Rows L2 LamX
def nmC (nm : Nm) : Nat := nm.1.1 * 1000000 + (nm.1.2 * 1000 + nm.2)
def nmI (nm : Nm) : List Int := [(nm.1.1 : Int), (nm.1.2 : Int), (nm.2 : Int)]
theorem nm_code (nm : Nm) : TS.code 1000 (nmI nm) = (nmC nm : Int) := by
  show (nm.1.1 : Int) * 1000 ^ 2 + ((nm.1.2 : Int) * 1000 ^ 1 + ((nm.2 : Int) * 1000 ^ 0 + 0)) = ((nm.1.1 * 1000000 + (nm.1.2 * 1000 + nm.2) : Nat) : Int)
  have e1 : (1000 : Int) ^ 2 = 1000000 := by decide
  have e2 : (1000 : Int) ^ 1 = 1000 := by decide
  have e3 : (1000 : Int) ^ 0 = 1 := by decide
  rw [e1, e2, e3]
  omega
theorem nmK_I (nm : Nm) : nmK nm = (nmI nm).map Sum.inl := rfl
theorem nmV_I (nm : Nm) : (nmI nm).map V.int = nmV nm := rfl
theorem perm_sorted {α : Type} {f : α → Nat} : ∀ {m l : List α}, l.Perm m → l.Pairwise (fun a b => f a ≤ f b) → m.Pairwise (fun a b => f a < f b) → l = m
  | [], l, p, _, _ => p.eq_nil
  | a :: m, l, p, hl, hm => by
    cases l with
    | nil => exact absurd p.symm.eq_nil (by simp)
    | cons b l =>
      obtain ⟨l1, l2⟩ := List.pairwise_cons.mp hl
      obtain ⟨m1, m2⟩ := List.pairwise_cons.mp hm
      have hb : b = a := by
        rcases List.mem_cons.mp (p.mem_iff.mp (List.mem_cons_self (a := b) (l := l))) with e | e
        · exact e
        · rcases List.mem_cons.mp (p.mem_iff.mpr (List.mem_cons_self (a := a) (l := m))) with e' | e'
          · exact e'.symm
          · have h1 := m1 b e
            have h2 := l1 a e'
            omega
      subst hb
      rw [perm_sorted (List.Perm.cons_inv p) l2 m2]
theorem places_rise (g : Pl → Slot → Bool) (sh : List Page) : (placesOf g sh).Pairwise fun a b => a.1 < b.1 ∨ (a.1 = b.1 ∧ a.2 < b.2) := by
  unfold placesOf
  rw [List.pairwise_flatMap]
  refine ⟨fun i _ => ?_, List.pairwise_lt_range.imp fun {i j} hij x hx y hy => ?_⟩
  · rw [List.pairwise_map]
    exact (List.pairwise_lt_range.filter _).imp fun h => .inr ⟨rfl, h⟩
  · obtain ⟨_, _, rfl⟩ := List.mem_map.mp hx
    obtain ⟨_, _, rfl⟩ := List.mem_map.mp hy
    exact .inl hij
theorem Rows.turn99 {sh : List Page} {R : List Row1} (h : Rows sh R) {p : Pl} (hp : p ∈ rowPlaces sh) : p.1 < 12 ∧ p.2 < 8 ∧ turnAt sh p ≤ 99 := by
  obtain ⟨t, b, s, n, q⟩ := mem_rowPlaces.mp hp
  obtain ⟨h1, h2⟩ := (slotAt_iff h.ok).mp ⟨_, q⟩
  obtain ⟨pg, q1, q2, q3, _⟩ := slot_get q
  have h99 : t ≤ 99 := ((h.ok pg (List.mem_of_getElem? q1)).sl _ (List.mem_of_getElem? q2)).1
  have hl := h.le
  exact ⟨by omega, h2, by rw [q3]; exact h99⟩
theorem names_rise {sh : List Page} {R : List Row1} (h : Rows sh R) : (namesOf sh).Pairwise fun a b => nmC a < nmC b := by
  unfold namesOf
  rw [List.pairwise_map]
  refine List.Pairwise.imp_of_mem (fun {a b} ha hb hab => ?_) (places_rise _ sh)
  obtain ⟨a1, a2, a3⟩ := h.turn99 ha
  obtain ⟨b1, b2, b3⟩ := h.turn99 hb
  show a.1 * 1000000 + (a.2 * 1000 + turnAt sh a) < b.1 * 1000000 + (b.2 * 1000 + turnAt sh b)
  omega
theorem names_nodup {sh : List Page} {R : List Row1} (h : Rows sh R) : (namesOf sh).Nodup := (names_rise h).imp fun h e => by rw [e] at h; omega
theorem Kn.mem_names {sh : List Page} {R : List Row1} {D : List Ent} (k : Kn sh R D) {nm : Nm} : nm ∈ namesOf sh ↔ nm ∈ D.map (·.1) := by
  unfold namesOf
  rw [List.mem_map]
  constructor
  · rintro ⟨p, hp, rfl⟩
    obtain ⟨r, hr, rfl⟩ := k.rows.mem.mp hp
    obtain ⟨a, ha⟩ := k.to r hr
    exact List.mem_map.mpr ⟨_, ha, rfl⟩
  · intro h
    obtain ⟨e, he, rfl⟩ := List.mem_map.mp h
    obtain ⟨r, hr, e1, _⟩ := k.of e he
    exact ⟨r.1, k.rows.mem.mpr ⟨r, hr, rfl⟩, e1.symm⟩
theorem Kn.perm {sh : List Page} {R : List Row1} {D : List Ent} (k : Kn sh R D) : (D.map (·.1)).Perm (namesOf sh) := (List.perm_ext_iff_of_nodup k.nd (names_nodup k.rows)).mpr fun nm => k.mem_names.symm
theorem Kn.at_ {sh : List Page} {R : List Row1} {D : List Ent} (k : Kn sh R D) {nm : Nm} (h : nm ∈ namesOf sh) : ∃ e ∈ D, e.1 = nm := by
  obtain ⟨e, he, q⟩ := List.mem_map.mp (k.mem_names.mp h)
  exact ⟨e, he, q⟩
/-! ### as a dict -/
structure RowsAt (H : Hp) (b l p sl r : Addr) (D : List Ent) : Prop where
  hd : H r = some (.dT (D.map entV))
  hv : ∀ e ∈ D, H e.2.2 = some (.lst (e.2.1.map fun (n : Nat) => V.int (n : Int))) ∧ (e.2.2 ≠ p ∧ e.2.2 ≠ sl ∧ e.2.2 ≠ b ∧ e.2.2 ≠ l)
section
variable {K : PySem.W.Frag} {T : List (Addr × Str)} {C CS : Addr} {b l q p sl r : Addr} {sh sh' : List Page} {D : List Ent} {H H' : Hp}
/-- box, shelf, table: apart -/
structure Sta (K : PySem.W.Frag) (C CS b l q p sl r : Addr) (sh : List Page) (D : List Ent) (H : Hp) : Prop where
  bx : ∃ ns z, BoxAt H b l ns z
  st : ∃ qx dx d, ShAt K C CS H q qx p dx sl sh d
  nsl : b ≠ sl ∧ l ≠ sl
  w : RowsAt H b l p sl r D
theorem RowsAt.xm {S : Addr → Prop} (w : RowsAt H b l p sl r D) (x : XM T S H H') (hr : ¬ S r) (hs : ∀ c, S c → c = p ∨ c = sl ∨ c = b ∨ c = l ∨ H c = none ∨ ∀ xs, H c ≠ some (.lst xs)) : RowsAt H' b l p sl r D := by
  refine ⟨x.keep _ _ w.hd hr (fun ps z => by cases z), fun e he => ?_⟩
  obtain ⟨h1, h2, h3, h4, h5⟩ := w.hv e he
  refine ⟨x.lst h1 fun z => ?_, h2, h3, h4, h5⟩
  rcases hs _ z with z | z | z | z | z | z
  · exact h2 z
  · exact h3 z
  · exact h4 z
  · exact h5 z
  · rw [h1] at z; cases z
  · exact z _ h1
theorem Sta.ap (s : Sta K C CS b l q p sl r sh D H) : b ≠ q ∧ l ≠ q ∧ b ≠ p ∧ l ≠ p ∧ r ≠ q ∧ r ≠ p ∧ r ≠ sl ∧ r ≠ b ∧ r ≠ l ∧ q ≠ p ∧ q ≠ sl := by
  obtain ⟨ns, z, bx⟩ := s.bx
  obtain ⟨qx, dx, d, st⟩ := s.st
  obtain ⟨xs, hsl, _⟩ := st.dk.lst
  have h1 := bx.neq st.ins fun xs e => by cases e
  have h2 := bx.neq st.dk.ins fun xs e => by cases e
  have hr := s.w.hd
  refine ⟨h1.1, h1.2, h2.1, h2.2, fun e => ?_, fun e => ?_, fun e => ?_, fun e => ?_, fun e => ?_, fun e => ?_, fun e => ?_⟩
  · rw [e, st.ins] at hr; cases hr
  · rw [e, st.dk.ins] at hr; cases hr
  · rw [e, hsl] at hr; cases hr
  · rw [e, bx.hb] at hr; cases hr
  · rw [e, bx.hl] at hr; cases hr
  · have h3 := st.ins
    rw [e, st.dk.ins] at h3
    have h4 := Option.some.inj h3
    injection h4 with _ _ h4
    have h5 := congrArg List.length h4
    cases h5
  · have h3 := st.ins
    rw [e, hsl] at h3; cases h3
theorem Sta.xm {S : Addr → Prop} (s : Sta K C CS b l q p sl r sh D H) (x : XM T S H H') (hS : ∀ c, S c → H c = none ∨ (c ≠ p ∧ c ≠ sl ∧ c ≠ b ∧ c ≠ l ∧ c ≠ r ∧ c ≠ q ∧ ∀ xs, H c ≠ some (.lst xs))) : Sta K C CS b l q p sl r sh D H' := by
  obtain ⟨ns, z, bx⟩ := s.bx
  obtain ⟨qx, dx, d, st⟩ := s.st
  obtain ⟨xs, hsl, _⟩ := st.dk.lst
  have no : ∀ {c o}, H c = some o → (c = p ∨ c = sl ∨ c = b ∨ c = l ∨ c = r ∨ c = q) → ¬ S c := fun {c o} hc hm hs => by
    rcases hS c hs with z | ⟨z1, z2, z3, z4, z5, z6, _⟩
    · rw [hc] at z; cases z
    · rcases hm with z | z | z | z | z | z
      · exact z1 z
      · exact z2 z
      · exact z3 z
      · exact z4 z
      · exact z5 z
      · exact z6 z
  refine ⟨⟨ns, z, bx.xm x (no bx.hb (by simp)) (no bx.hl (by simp))⟩, ⟨qx, dx, d, st.xm x (no st.ins (by simp)) (no st.dk.ins (by simp)) (no hsl (by simp))⟩, s.nsl, s.w.xm x (no s.w.hd (by simp)) fun c hc => ?_⟩
  rcases hS c hc with z | z
  · exact .inr (.inr (.inr (.inr (.inl z))))
  · exact .inr (.inr (.inr (.inr (.inr z.2.2.2.2.2.2))))
theorem Sta.xx (s : Sta K C CS b l q p sl r sh D H) (x : XX T H H') : Sta K C CS b l q p sl r sh D H' := s.xm (S := fun _ => False) x.xm fun _ h => h.elim
theorem Sta.take (s : Sta K C CS b l q p sl r sh D H) {ns : List Int} {z : Int} (x : XM T (fun c => c = b ∨ c = l) H H') (bx : BoxAt H' b l ns z) : Sta K C CS b l q p sl r sh D H' := by
  obtain ⟨n1, n2, n3, n4, n5, n6, n7, n8, n9, _⟩ := s.ap
  obtain ⟨qx, dx, d, st⟩ := s.st
  exact ⟨⟨ns, z, bx⟩, ⟨qx, dx, d, st.xm x (fun h => h.elim (fun e => n1 e.symm) fun e => n2 e.symm) (fun h => h.elim (fun e => n3 e.symm) fun e => n4 e.symm) (fun h => h.elim (fun e => s.nsl.1 e.symm) fun e => s.nsl.2 e.symm)⟩, s.nsl,
    s.w.xm x (fun h => h.elim n8 n9) fun c hc => hc.elim (fun e => .inr (.inr (.inl e))) fun e => .inr (.inr (.inr (.inl e)))⟩
theorem Sta.deed (s : Sta K C CS b l q p sl r sh D H) {qx dx : Addr} {d : Int} (x : XM T (fun c => c = p ∨ c = sl) H H') (st : ShAt K C CS H' q qx p dx sl sh' d) : Sta K C CS b l q p sl r sh' D H' := by
  obtain ⟨n1, n2, n3, n4, n5, n6, n7, n8, n9, _⟩ := s.ap
  obtain ⟨ns, z, bx⟩ := s.bx
  exact ⟨⟨ns, z, bx.xm x (fun h => h.elim n3 s.nsl.1) (fun h => h.elim n4 s.nsl.2)⟩, ⟨qx, dx, d, st⟩, s.nsl, s.w.xm x (fun h => h.elim n6 n7) fun c hc => hc.elim .inl fun e => .inr (.inl e)⟩
/-- what is not there is none of these -/
theorem Sta.fresh (s : Sta K C CS b l q p sl r sh D H) {a : Addr} (h : H a = none) : a ≠ p ∧ a ≠ sl ∧ a ≠ b ∧ a ≠ l ∧ a ≠ r ∧ a ≠ q := by
  obtain ⟨ns, z, bx⟩ := s.bx
  obtain ⟨qx, dx, d, st⟩ := s.st
  refine ⟨fun e => ?_, fun e => ?_, fun e => ?_, fun e => ?_, fun e => ?_, fun e => ?_⟩
  · rw [e, st.dk.ins] at h; cases h
  · obtain ⟨_, h', _⟩ := st.dk.lst
    rw [e, h'] at h; cases h
  · rw [e, bx.hb] at h; cases h
  · rw [e, bx.hl] at h; cases h
  · rw [e, s.w.hd] at h; cases h
  · rw [e, st.ins] at h; cases h
/-- the table is written -/
theorem Sta.rset (s : Sta K C CS b l q p sl r sh D H) {D' : List Ent} (hv : ∀ e ∈ D', H e.2.2 = some (.lst (e.2.1.map fun (n : Nat) => V.int (n : Int))) ∧ (e.2.2 ≠ p ∧ e.2.2 ≠ sl ∧ e.2.2 ≠ b ∧ e.2.2 ≠ l)) :
    Sta K C CS b l q p sl r sh D' (upd H r (.dT (D'.map entV))) ∧ XM T (fun c => c = r) H (upd H r (.dT (D'.map entV))) := by
  obtain ⟨n1, n2, n3, n4, n5, n6, n7, n8, n9, _⟩ := s.ap
  have x : XM T (fun c => c = r) H (upd H r (.dT (D'.map entV))) := XM.upd s.w.hd rfl True.intro
  obtain ⟨ns, z, bx⟩ := s.bx
  obtain ⟨qx, dx, d, st⟩ := s.st
  refine ⟨⟨⟨ns, z, bx.xm x (Ne.symm n8) (Ne.symm n9)⟩, ⟨qx, dx, d, st.xm x (Ne.symm n5) (Ne.symm n6) (Ne.symm n7)⟩, s.nsl, upd_same, fun e he => ?_⟩, x⟩
  obtain ⟨h1, h2⟩ := hv e he
  refine ⟨?_, h2⟩
  rw [upd_ne (ne_of h1 s.w.hd fun z => nomatch z)]
  exact h1
theorem Sta.put (s : Sta K C CS b l q p sl r sh D H) {nm : Nm} {vals : List Nat} {a : Addr} (ha : H a = some (.lst (vals.map fun (n : Nat) => V.int (n : Int)))) (hn : a ≠ p ∧ a ≠ sl ∧ a ≠ b ∧ a ≠ l) :
    Sta K C CS b l q p sl r sh (putE D nm vals a) (upd H r (.dT (putK (D.map entV) (nmK nm) (.ref a)))) ∧ XM T (fun c => c = r) H (upd H r (.dT (putK (D.map entV) (nmK nm) (.ref a)))) := by
  rw [← putE_V D nm vals a]
  refine s.rset fun e he => ?_
  rcases mem_putE he with z | ⟨z, _⟩
  · rw [z]; exact ⟨ha, hn⟩
  · exact s.w.hv e z
theorem Sta.pop (s : Sta K C CS b l q p sl r sh D H) {nm : Nm} :
    Sta K C CS b l q p sl r sh (dropE D nm) (upd H r (.dT (dropK (D.map entV) (nmK nm)))) ∧ XM T (fun c => c = r) H (upd H r (.dT (dropK (D.map entV) (nmK nm)))) := by
  rw [← dropE_V D nm]
  exact s.rset fun e he => s.w.hv e (mem_dropE.mp he).1
/-- sorted(rows): the names -/
theorem sort_rows {R : List Row1} {Q : VK} (w : RowsAt H b l p sl r D) (k : Kn sh R D) (h64 : D.length ≤ 300)
    (kk : ∀ (zs : List (Nm × Addr)) (a : Addr), zs.map (·.1) = namesOf sh → (∀ z ∈ zs, H z.2 = some (.tup (nmV z.1))) → H a = none → Q (.ref a) (upd H a (.lst (zs.map fun z => V.ref z.2)))) :
    rSortDO 3 1000 [.ref r] H Q := by
  refine ⟨r, D.map entV, rfl, w.hd, by rw [List.length_map]; exact h64, fun e he => ?_, fun bs a hp hs ht ha => ?_⟩
  · obtain ⟨d, hd, rfl⟩ := List.mem_map.mp he
    obtain ⟨c1, c2, c3⟩ := k.small hd
    refine ⟨nmI d.1, nmK_I d.1, rfl, fun m hm => ?_⟩
    have hm : m = (d.1.1.1 : Int) ∨ m = (d.1.1.2 : Int) ∨ m = (d.1.2 : Int) := by simpa [nmI] using hm
    omega
  · have e1 : (D.map entV).map (·.1) = (D.map (·.1)).map nmK := by rw [List.map_map, List.map_map]; rfl
    rw [e1] at hp
    obtain ⟨nms, hp', hm'⟩ := mem_perm_map hp
    have hlen : nms.length = bs.length := by
      have := congrArg List.length hm'
      rw [List.length_map, List.length_map] at this
      exact this
    have hi : ∀ i (h1 : i < nms.length) (h2 : i < bs.length), bs[i].1 = nmI nms[i] := fun i h1 h2 => by
      have q1 : (nms.map nmK)[i]'(by rw [List.length_map]; exact h1) = (bs.map fun z => (z.1.map Sum.inl : List L2.Key))[i]'(by rw [List.length_map]; exact h2) := by simp only [hm']
      rw [List.getElem_map, List.getElem_map, nmK_I] at q1
      exact (inl_inj q1).symm
    have en : nms = namesOf sh := by
      refine perm_sorted (f := nmC) (hp'.trans k.perm) ?_ (names_rise k.rows)
      refine List.pairwise_iff_getElem.mpr fun i j h1 h2 hij => ?_
      have q := List.pairwise_iff_getElem.mp hs i j (by omega) (by omega) hij
      rw [hi i h1 (by omega), hi j h2 (by omega), nm_code, nm_code] at q
      omega
    have ez : (nms.zip (bs.map (·.2))).map (·.1) = nms := by
      have := List.map_fst_zip (l₁ := nms) (l₂ := bs.map (·.2)) (by rw [List.length_map]; omega)
      exact this
    have ez2 : ((nms.zip (bs.map (·.2))).map fun z => V.ref z.2) = bs.map fun z => V.ref z.2 := by
      have q1 : (nms.zip (bs.map (·.2))).map (·.2) = bs.map (·.2) := List.map_snd_zip (by rw [List.length_map]; omega)
      have q2 := congrArg (List.map V.ref) q1
      rw [List.map_map, List.map_map] at q2
      exact q2
    rw [← ez2]
    refine kk (nms.zip (bs.map (·.2))) a (by rw [ez]; exact en) (fun z hz => ?_) ha
    obtain ⟨i, hiz⟩ := List.mem_iff_getElem?.mp hz
    obtain ⟨g1, g2⟩ := List.getElem?_zip_eq_some.mp hiz
    rw [List.getElem?_map] at g2
    obtain ⟨bz, gb, e2⟩ := Option.map_eq_some_iff.mp g2
    obtain ⟨l1, h1⟩ := List.getElem?_eq_some_iff.mp g1
    obtain ⟨l2, h2⟩ := List.getElem?_eq_some_iff.mp gb
    have := ht bz (List.mem_of_getElem? gb)
    rw [← h2, hi i l1 l2, h1, nmV_I] at this
    rw [← e2, ← h2]
    exact this
end
end GX
set_option maxHeartbeats 8000000
/-! slotpages.walk: Walk -/
namespace GX
open PySem PySem.Spec PyProof.Rows L2 LamX
structure WTx (K : PySem.W.Frag) (CW : Addr) : Prop where
  cl : Cls K CW
  n1 : NoAttr K CW "_shelf"
  n2 : NoAttr K CW "_place"
  n3 : NoAttr K CW "_over"
def wF (q pt : Addr) (ov : Bool) : List (Str × V) := [("_shelf", .ref q), ("_place", .ref pt), ("_over", .bl ov)]
def nxt (l : List Nm) (i j : Int) : Option Nm := l.find? fun nm => gtI nm.1.1 nm.1.2 i j
def spWInit (K : PySem.W.Frag) (T : List (Addr × Str)) (CW : Addr) : Sp := fun vs H Q _ => ∃ y yx q, vs = [.ref y, .ref q] ∧ H y = some (.ins CW yx []) ∧ ∀ H' pt, XM T (fun c => c = y) H H' → H pt = none → SqT K H' pt [.int (-1), .int (-1)] → H' y = some (.ins CW yx (wF q pt false)) → Q .non H'
def spWStep (K : PySem.W.Frag) (T : List (Addr × Str)) (C CS CW : Addr) : Sp := fun vs H Q _ => ∃ y yx q qx p dx sl sh done R D pt ov i j, vs = [.ref y] ∧ H y = some (.ins CW yx (wF q pt ov)) ∧ SqT K H pt [.int i, .int j] ∧ ShAt K C CS H q qx p dx sl sh done ∧ Kn sh R D ∧
  (ov = true → Q .non H) ∧ (ov = false → nxt (namesOf sh) i j = none → ∀ H', XM T (fun c => c = y) H H' → H' y = some (.ins CW yx (wF q pt true)) → Q .non H') ∧
  (ov = false → ∀ nm, nxt (namesOf sh) i j = some nm → ∀ H' t u vl pt', XM T (fun c => c = y) H H' → H t = none → H' t = some (.tup [u, .ref vl]) → Dp K H' u (nmD nm) → H vl = none → H' vl = some (.lst ((valsOf sh (chn sh nm.1)).map fun (n : Nat) => V.int (n : Int))) → SqT K H' pt' [.int (nm.1.1 : Int), .int (nm.1.2 : Int)] → H' y = some (.ins CW yx (wF q pt' false)) → Q (.ref t) H')
theorem find_at {α : Type} {g : α → Bool} : ∀ {l : List α} {n : Nat} {a : α}, l[n]? = some a → (∀ b ∈ l.take n, g b = false) → g a = true → l.find? g = some a
  | b :: l, 0, a, e, _, h => by cases e; exact List.find?_cons_of_pos h
  | b :: l, n + 1, a, e, f, h => by
    rw [List.find?_cons_of_neg (by rw [f b (by simp)]; decide)]
    exact find_at (l := l) (n := n) e (fun c hc => f c (by rw [List.take_succ_cons]; exact List.mem_cons_of_mem _ hc)) h
theorem find_no {α : Type} {g : α → Bool} {l : List α} (f : ∀ b ∈ l, g b = false) : l.find? g = none := List.find?_eq_none.mpr fun b hb => by rw [f b hb]; decide
theorem dp_nm {K : PySem.W.Frag} {H : Hp} {u : V} {nm : Nm} (d : Dp K H u (nmD nm)) : ∃ a, u = .ref a ∧ SqT K H a (nmV nm) := by
  obtain ⟨a, xs, rfl, hs, ha⟩ := dp_tup d
  refine ⟨a, rfl, ?_⟩
  cases ha with
  | cons h1 ha =>
  cases ha with
  | cons h2 ha =>
  cases ha with
  | cons h3 ha =>
  cases h1; cases h2; cases h3; cases ha
  exact hs
section
variable {P : Program} {w : World} {K : PySem.W.Frag} {mg : Str → Option Value} {base : Heap} {T : List (Addr × Str)} {C CS CW cNR : Addr}
theorem sc_WInit : FnScope ["self", "shelf"] ["self", "shelf"] (defScope s_WInit) := ⟨rfl, rfl, rfl, by decide +kernel, rfl, by decide +kernel, by decide +kernel⟩
theorem ok_WInit {f : Addr} {fd : FuncData} (F : L2.Fun K "__init__" "Walk.__init__" s_WInit f fd) (S : WTx K CW) : FnOk P w K mg base (L2.CX P w) 1 f fd ["self", "shelf"] (spWInit K T CW) := by
  refine F.okX sc_WInit (fun vs H Q E h => by obtain ⟨y, yx, q, rfl, _⟩ := h; rfl) (fun cdv A outer s H vs Q E hr h => ?_)
  obtain ⟨y, yx, q, rfl, hy, k⟩ := h
  have nd := sc_WInit.nd
  refine ⟨_, pss_cons (ps_fld (pv 0) (pv 1) rfl) (pss_cons (ps_fld (pv 0) (pe_tup (pa_cons (pe_un un_neg pe_int) (pa_cons (pe_un un_neg pe_int) pa_nil))) rfl) (pss_one (ps_fld (pv 0) pe_bl rfl))), ?_⟩
  refine ⟨_, rfl, _, rfl, y, CW, yx, _, rfl, hy, S.cl, S.n1, (by decide), ?_⟩
  have x1 : XM T (fun c => c = y) H (upd H y (.ins CW yx (putF "_shelf" (.ref q) []))) := XM.upd hy rfl True.intro
  have e1 : upd H y (.ins CW yx (putF "_shelf" (.ref q) [])) y = some (.ins CW yx [("_shelf", .ref q)]) := upd_same
  refine ⟨_, rfl, _, rfl, (by show 2 ≤ sizeLine; decide), fun pt hpt => ?_⟩
  have x2 := XX.new (T := T) (o := .tup [.int (-1), .int (-1)]) hpt
  refine ⟨_, rfl, y, CW, yx, _, rfl, x2.ins e1, S.cl, S.n2, (by show 1 < 1000; decide), ?_⟩
  have x3 : XM T (fun c => c = y) _ (upd (upd (upd H y (.ins CW yx (putF "_shelf" (.ref q) []))) pt (.tup [.int (-1), .int (-1)])) y (.ins CW yx (putF "_place" (.ref pt) [("_shelf", .ref q)]))) := XM.upd (x2.ins e1) rfl True.intro
  have e3 : upd (upd (upd H y (.ins CW yx (putF "_shelf" (.ref q) []))) pt (.tup [.int (-1), .int (-1)])) y (.ins CW yx (putF "_place" (.ref pt) [("_shelf", .ref q)])) y = some (.ins CW yx [("_shelf", .ref q), ("_place", .ref pt)]) := upd_same
  refine ⟨_, rfl, y, CW, yx, _, rfl, e3, S.cl, S.n3, (by show 2 < 1000; decide), ?_⟩
  have x4 := XM.upd (T := T) (S := fun c => c = y) (o' := .ins CW yx (putF "_over" (.bl false) [("_shelf", .ref q), ("_place", .ref pt)])) e3 rfl True.intro
  exact k _ pt (((x1.trans x2.xm).trans x3).trans x4) (x1.free hpt) (x4.sqT (x3.sqT (SqT.of upd_same))) upd_same
abbrev wsN : List Str := ["self", "name", "values"]
theorem sc_WStep : FnScope wsN ["self"] (defScope s_WStep) := ⟨rfl, rfl, rfl, by decide +kernel, rfl, by decide +kernel, by decide +kernel⟩
theorem ok_WStep {f : Addr} {fd : FuncData} (F : L2.Fun K "step" "Walk.step" s_WStep f fd) (S : WTx K CW) (St : STx K CS) (mNames : Met P w K mg base CX0 CS "names" ["self"] 6 (spSNames K T C CS)) (mGet : Met P w K mg base (L2.CX P w) CS "get" ["self", "name"] 6 (spSGet K T C CS cNR)) :
    FnOk P w K mg base CX0 7 f fd ["self"] (spWStep K T C CS CW) := by
  refine F.ok sc_WStep (fun vs H Q E h => by obtain ⟨y, yx, q, qx, p, dx, sl, sh, done, R, D, pt, ov, i, j, rfl, _⟩ := h; rfl) (fun cdv A outer s H vs Q E hr h => ?_)
  obtain ⟨y, yx, q, qx, p, dx, sl, sh, done, R, D, pt, ov, i, j, rfl, hy, hpt, st, kn, k1, k2, k3⟩ := h
  have nd := sc_WStep.nd
  refine ⟨_, pss_cons (ps_if (pt_val (pe_fld (pv 0) rfl)) (pss_one (ps_ret pe_non)) pss_nil)
    (pss_cons (ps_for PassesOwn.never rfl (pi_list (pe_met0 mNames St.cl hr pass0 (pe_fld (pv 0) rfl))) (pg_name (i := 1) nd rfl (.inl rfl))
      (pss_one (ps_if (pt_cmpR (op_gtP hr.units0) (pe_slice sl_tup (pv 1) po_none (po_some pe_int)) (pe_fld (pv 0) rfl) (nomark _))
        (pss_cons (ps_set (i := 2) nd rfl (.inl rfl) (pe_met mGet St.cl hr passL (pe_fld (pv 0) rfl) (pa_cons (pv 1) pa_nil)))
        (pss_cons (ps_fld (pv 0) (pe_slice sl_tup (pv 1) po_none (po_some pe_int)) rfl)
        (pss_one (ps_ret (pe_tup (pa_cons (pv 1) (pa_cons (pv 2) pa_nil))))))) pss_nil)))
    (pss_cons (ps_fld (pv 0) pe_bl rfl) (pss_one (ps_ret pe_non)))), ?_⟩
  refine ⟨_, rfl, y, CW, yx, _, _, rfl, hy, S.cl, S.n3, rfl, ?_⟩
  cases ov with
  | true => exact ⟨_, rfl, iteT (k1 rfl)⟩
  | false =>
  refine ⟨_, rfl, iteF ?_⟩
  refine ⟨_, rfl, y, CW, yx, _, _, rfl, hy, S.cl, S.n1, rfl, _, _, _, rfl, st.ins, rfl, ?_⟩
  dsimp only [tNil]
  refine sp_names st fun H1 rn xsn x1 nrn ern drn => ?_
  have lx : xsn.length = (namesOf sh).length := by rw [dpAll_len drn, List.length_map]
  have hy1 := x1.ins hy
  have st1 := st.xx x1
  refine ⟨rn, rfl, ⟨xsn, SqL.of ern⟩, for_list (K := K) (D := { nx := _, rt := Q }) (a := rn) (xs := xsn) (fun n σ' H' => ∃ u1 u2, σ' = [some (.ref y), u1, u2] ∧ XX T H1 H' ∧ ∀ b ∈ (namesOf sh).take n, gtI b.1.1 b.1.2 i j = false) ⟨_, _, rfl, XX.refl _, fun b hb => nomatch hb⟩ (fun n σ' H' _ pv => by obtain ⟨u1, u2, _, x, _⟩ := pv; exact x.sqL (SqL.of ern)) (fun n x σ' H' ex pv => ?_) (fun σ' H' pv => ?_)⟩
  · obtain ⟨u1, u2, rfl, xn, none_⟩ := pv
    obtain ⟨d, ed, dd⟩ := dpAll_get drn ex
    rw [List.getElem?_map] at ed
    obtain ⟨nm, en, rfl⟩ := Option.map_eq_some_iff.mp ed
    have dn := Dp.xx xn _ _ dd
    obtain ⟨a, rfl, ha⟩ := dp_nm dn
    have cut : ¬ (HT.sIx (nmV nm).length 0 none = 0 ∧ HT.sIx (nmV nm).length (nmV nm).length (some 2) = (nmV nm).length) := (by decide : ¬ (HT.sIx 3 0 none = 0 ∧ HT.sIx 3 3 (some 2) = 3))
    refine ⟨_, rfl, _, rfl, a, _, rfl, ha, cut, fun c hc => ?_⟩
    have ec : cutV (nmV nm) none (some 2) = [.int (nm.1.1 : Int), .int (nm.1.2 : Int)] := rfl
    have xc := XX.new (T := T) (o := .tup (cutV (nmV nm) none (some 2))) hc
    have sc : SqT K (upd H' c (.tup (cutV (nmV nm) none (some 2)))) c [.int (nm.1.1 : Int), .int (nm.1.2 : Int)] := by rw [ec]; exact SqT.of upd_same
    have x02 := (x1.trans xn).trans xc
    refine ⟨_, rfl, y, CW, yx, _, _, rfl, x02.ins hy, S.cl, S.n2, rfl, ?_⟩
    refine ⟨c, pt, _, _, i, j, rfl, rfl, sc, x02.sqT hpt, _, rfl, ?_⟩
    cases hg : gtI nm.1.1 nm.1.2 i j with
    | false =>
      refine iteF ⟨_, _, rfl, xn.trans xc, fun b hb => ?_⟩
      rw [List.take_succ, en] at hb
      rcases List.mem_append.mp hb with h | h
      · exact none_ b h
      · rw [List.mem_singleton.mp h]; exact hg
    | true =>
      obtain ⟨e, he, q0⟩ := kn.at_ (List.mem_of_getElem? en)
      have st2 := st.xx x02
      refine iteT ⟨_, rfl, y, CW, yx, _, _, rfl, x02.ins hy, S.cl, S.n1, rfl, _, _, _, rfl, st2.ins, rfl, _, rfl, ?_⟩
      dsimp only [tNil]
      refine sp_get st2 (Dp.xx xc _ _ dn) (by rw [← q0]; exact kn.live he) fun H3 vl x3 nvl evl => ?_
      dsimp only [gName]
      have x03 := x02.trans x3
      refine ⟨_, rfl, _, rfl, a, _, rfl, x3.sqT (xc.sqT ha), cut, fun c2 hc2 => ?_⟩
      have x4 := XX.new (T := T) (o := .tup (cutV (nmV nm) none (some 2))) hc2
      have x04 := x03.trans x4
      refine ⟨_, rfl, y, CW, yx, _, rfl, x04.ins hy, S.cl, S.n2, (by show 3 < 1000; decide), ?_⟩
      have x5 := XM.upd (T := T) (S := fun c => c = y) (o' := .ins CW yx (putF "_place" (.ref c2) (wF q pt false))) (x04.ins hy) rfl True.intro
      have e5 : upd (upd H3 c2 (.tup (cutV (nmV nm) none (some 2)))) y (.ins CW yx (putF "_place" (.ref c2) (wF q pt false))) y = some (.ins CW yx (wF q c2 false)) := upd_same
      refine ⟨_, rfl, _, rfl, (by show 2 ≤ sizeLine; decide), fun t ht => ?_⟩
      have x6 := XX.new (T := T) (o := .tup [.ref a, .ref vl]) ht
      have nvl0 : H vl = none := x02.free nvl
      have sc2 : SqT K (upd H3 c2 (.tup (cutV (nmV nm) none (some 2)))) c2 [.int (nm.1.1 : Int), .int (nm.1.2 : Int)] := by rw [ec]; exact SqT.of upd_same
      have nvy : vl ≠ y := fun z => by rw [z, hy] at nvl0; cases nvl0
      refine k3 rfl nm (find_at en none_ hg) _ t _ vl c2 ((x04.xm.trans x5).trans x6.xm) ((x04.xm.trans x5).free ht) upd_same (.tup (x6.sqT (x5.sqT (x4.sqT (x3.sqT (xc.sqT ha))))) (.cons (.int _) (.cons (.int _) (.cons (.int _) .nil)))) nvl0 (x6.lst (x5.lst (x4.lst evl) nvy)) (x6.sqT (x5.sqT sc2)) (x6.ins e5)
  · obtain ⟨u1, u2, rfl, xn, none_⟩ := pv
    rw [lx, List.take_length] at none_
    have x01 := x1.trans xn
    refine ⟨_, rfl, y, CW, yx, _, rfl, x01.ins hy, S.cl, S.n3, (by show 3 < 1000; decide), ?_⟩
    have x5 := XM.upd (T := T) (S := fun c => c = y) (o' := .ins CW yx (putF "_over" (.bl true) (wF q pt false))) (x01.ins hy) rfl True.intro
    exact k2 rfl (find_no none_) _ (x01.xm.trans x5) upd_same
end
end GX
/-! the laws' own values: _law_values -/
namespace GX
open PySem PySem.Spec PyProof.Rows L2 LamX
theorem set_te {te : TE} {i : Nat} {rest : TS} {D : Ends} {σ : L2.St} {H : Hp} (h : te σ H fun v H' => rest D (σ.set i (some v)) H') : tSeq (tAsg te (gName i)) rest D σ H := h
theorem BoxAt.away {H : Hp} {b l a : Addr} {ns : List Int} {z : Int} (bx : BoxAt H b l ns z) (h : H a = none) : a ≠ b ∧ a ≠ l := by
  refine ⟨fun e => ?_, fun e => ?_⟩
  · rw [e, bx.hb] at h; cases h
  · rw [e, bx.hl] at h; cases h
def spValues (K : PySem.W.Frag) (T : List (Addr × Str)) : Sp := fun vs H Q _ => ∃ b l ns z, vs = [.ref b] ∧ BoxAt H b l ns z ∧ ∀ H' ns' z' a (vals : List Nat), XM T (fun c => c = b ∨ c = l) H H' → BoxAt H' b l ns' z' → H a = none → H' a = some (.lst (vals.map fun (n : Nat) => V.int (n : Int))) → vals.length ≤ 288 → (∀ c ∈ vals, c ≤ 99) → Q (.ref a) H'
section
variable {P : Program} {w : World} {K : PySem.W.Frag} {mg : Str → Option Value} {base : Heap} {T : List (Addr × Str)}
abbrev lvN : List Str := ["_law_box", "_law_many", "_law_k"]
theorem sc_lvalues : FnScope lvN ["_law_box"] (defScope s_lvalues) := ⟨rfl, rfl, rfl, by decide +kernel, rfl, by decide +kernel, by decide +kernel⟩
theorem ok_lvalues {f : Addr} {fd : FuncData} (F : L2.Fun K "_law_values" "_law_values" s_lvalues f fd) (B : Blt mg) (cT : Cal P w K mg base CX0 "_law_take" ["_law_box", "_law_many"] 1 (spTake T)) : FnOk P w K mg base CX0 2 f fd ["_law_box"] (spValues K T) := by
  refine F.ok sc_lvalues (fun vs H Q E h => by obtain ⟨b, l, ns, z, rfl, _⟩ := h; rfl) (fun cdv A outer s H vs Q E hr h => ?_)
  obtain ⟨b, l, ns, z, rfl, bx, k⟩ := h
  have nd := sc_lvalues.nd
  refine ⟨_, pss_cons (ps_set (i := 1) nd rfl (.inl rfl) (pe_cal cT hr (pa_cons (pv 0) (pa_cons (pe_ix ix_list (pe_lst (pa_cons pe_int (pa_cons pe_int (pa_cons pe_int (pa_cons pe_int (pa_cons pe_int pa_nil)))))) (pe_cal cT hr (pa_cons (pv 0) (pa_cons pe_int pa_nil))) (fun _ _ => rfl)) pa_nil))))
    (pss_one (ps_ret (pe_lc (own := [("_law_k", 2)]) (g := gName 2) (tt := tYes) (te := tOp (rIxL K) (tLst (tCons (tCall (spTake T) [] E0 (tCons (tVar 0) (tCons (tC (.int 100)) tNil))) (tCons (tC (.int 99)) (tCons (tC (.int 0)) tNil)))) (tCall (spTake T) [] E0 (tCons (tVar 0) (tCons (tC (.int 3)) tNil)))) (by rfl) nd (pi_range1 (by rfl) B.range (pa_cons (pv 1) pa_nil)) (blkOk_by (own := [("_law_k", 2)]) (N := lvN) (sc := defScope s_lvalues) (by decide +kernel))
      (fun _ _ _ _ _ => pg_name (i := 2) nd rfl (Or.inl rfl)) (fun _ _ _ _ _ => pts_nil) (fun _ _ _ _ _ => pe_ix ix_list (pe_lst (pa_cons (pe_cal cT hr (pa_cons (pv 0) (pa_cons pe_int pa_nil))) (pa_cons pe_int (pa_cons pe_int pa_nil)))) (pe_cal cT hr (pa_cons (pv 0) (pa_cons pe_int pa_nil))) (fun _ _ => rfl))))), ?_⟩
  refine set_te ⟨_, rfl, ?_⟩
  refine ⟨(by show 5 ≤ sizeLine; decide), fun a0 n0 => ?_⟩
  have x0 := XX.new (T := T) (o := .lst [V.int 4, V.int 12, V.int 40, V.int 121, V.int 289]) n0
  have na0 := bx.away n0
  refine ⟨_, rfl, b, l, ns, z, 5, rfl, bx.xx x0, by decide, by decide, fun H1 ns1 z1 i a1 bx1 i0 i1 => ?_⟩
  have e1 : H1 a0 = some (.lst [V.int 4, V.int 12, V.int 40, V.int 121, V.int 289]) := a1.lst upd_same (fun h => h.elim na0.1 na0.2)
  obtain ⟨m, hm, hm1, hm2⟩ : ∃ m : Int, atI [V.int 4, V.int 12, V.int 40, V.int 121, V.int 289] i = some (.int m) ∧ 0 < m ∧ m ≤ 289 := by
    have : i = 0 ∨ i = 1 ∨ i = 2 ∨ i = 3 ∨ i = 4 := by omega
    rcases this with e | e | e | e | e <;> subst e
    · exact ⟨4, atI_nat (j := 0) rfl, by decide, by decide⟩
    · exact ⟨12, atI_nat (j := 1) rfl, by decide, by decide⟩
    · exact ⟨40, atI_nat (j := 2) rfl, by decide, by decide⟩
    · exact ⟨121, atI_nat (j := 3) rfl, by decide, by decide⟩
    · exact ⟨289, atI_nat (j := 4) rfl, by decide, by decide⟩
  refine ⟨a0, _, i, .int m, rfl, rfl, SqL.of e1, hm, ?_⟩
  refine ⟨b, l, ns1, z1, m, rfl, bx1, hm1, by omega, fun H2 ns2 z2 r a2 bx2 r0 r1 => ?_⟩
  have x02 : XM T (fun c => c = b ∨ c = l) H H2 := (x0.xm.trans a1).trans a2
  -- the values
  refine ⟨_, rfl, r, rfl, by omega, by omega, fun D hD => ?_⟩
  have nD := bx2.away hD
  have hD0 : H D = none := x02.free hD
  refine lc_range (lo := 0) (n := r.toNat) (fun j H' => (∃ ns z, BoxAt H' b l ns z) ∧ XM T (fun c => c = b ∨ c = l) H H' ∧ ∃ vals, H' D = some (.lst (vals.map fun (n : Nat) => V.int (n : Int))) ∧ vals.length = j ∧ ∀ c ∈ vals, c ≤ 99) ⟨⟨_, _, bx2.xx (XX.new (T := T) hD)⟩, x02.then_new hD, [], upd_same, rfl, (fun c hc => nomatch hc)⟩ (fun j H' hj pv => ⟨rfl, ?_⟩) (fun H' pv => ?_)
  · obtain ⟨⟨ns3, z3, bx3⟩, x3, vals, e3, l3, c3⟩ := pv
    refine ⟨_, rfl, b, l, ns3, z3, 100, rfl, bx3, by decide, by decide, fun H4 ns4 z4 v a4 bx4 v0 v1 => ?_⟩
    refine ⟨(by show 3 ≤ sizeLine; decide), fun a5 n5 => ?_⟩
    have x5 := XX.new (T := T) (o := .lst [V.int v, V.int 99, V.int 0]) n5
    have na5 := bx4.away n5
    refine ⟨_, rfl, b, l, ns4, z4, 3, rfl, bx4.xx x5, by decide, by decide, fun H6 ns6 z6 i6 a6 bx6 i60 i61 => ?_⟩
    have e6 : H6 a5 = some (.lst [V.int v, V.int 99, V.int 0]) := a6.lst upd_same (fun h => h.elim na5.1 na5.2)
    obtain ⟨c, hc, hc99⟩ : ∃ c : Nat, atI [V.int v, V.int 99, V.int 0] i6 = some (.int (c : Int)) ∧ c ≤ 99 := by
      have : i6 = 0 ∨ i6 = 1 ∨ i6 = 2 := by omega
      rcases this with e | e | e <;> subst e
      · refine ⟨v.toNat, ?_, by omega⟩
        rw [Int.toNat_of_nonneg v0]
        exact atI_nat (j := 0) rfl
      · exact ⟨99, atI_nat (j := 1) rfl, by decide⟩
      · exact ⟨0, atI_nat (j := 2) rfl, by decide⟩
    refine ⟨a5, _, i6, .int (c : Int), rfl, rfl, SqL.of e6, hc, ?_⟩
    have x36 : XM T (fun c => c = b ∨ c = l) H' H6 := (a4.trans x5.xm).trans a6
    have e7 : H6 D = some (.lst (vals.map fun (n : Nat) => V.int (n : Int))) := x36.lst e3 (fun h => h.elim nD.1 nD.2)
    have x7 : XM T (fun c => c = D) H6 (upd H6 D (.lst (vals.map (fun (n : Nat) => V.int (n : Int)) ++ [V.int (c : Int)]))) := XM.upd e7 rfl True.intro
    refine ⟨_, e7, ?_, ⟨_, _, bx6.xm x7 (Ne.symm nD.1) (Ne.symm nD.2)⟩, ?_, vals ++ [c], ?_, by rw [List.length_append, l3]; rfl, fun d hd => ?_⟩
    · rw [List.length_map, l3]
      exact Nat.lt_of_lt_of_le (show j < 1000 by omega) (by decide)
    · have y := ((x3.trans x36).mono (S' := fun c => (c = b ∨ c = l) ∨ c = D) fun _ h => .inl h).trans (x7.mono fun _ h => .inr h)
      exact y.drop fun c h n => h.elim (fun h => absurd h n) fun h => by rw [h]; exact hD0
    · rw [upd_same, List.map_append]; rfl
    · rcases List.mem_append.mp hd with e | e
      · exact c3 d e
      · rw [List.mem_singleton.mp e]; exact hc99
  · obtain ⟨⟨ns3, z3, bx3⟩, x3, vals, e3, l3, c3⟩ := pv
    exact k H' ns3 z3 D vals x3 bx3 hD0 e3 (by rw [l3]; omega) c3
end
end GX
/-! names as data, how many pages stay -/
namespace GX
open PySem PySem.Spec PyProof.Rows L2 LamX
abbrev SD (b l p sl r : Addr) : Addr → Prop := fun c => c = p ∨ c = sl ∨ c = b ∨ c = l ∨ c = r
section
variable {P : Program} {w : World} {K : PySem.W.Frag} {mg : Str → Option Value} {base : Heap} {T : List (Addr × Str)} {C CS cFu cBR cNR P1 P2 PF : Addr}
theorem names_sh (nms : List Nm) : SeqAt.shaped (.list (nms.map nmD)) = true := by
  have h1 : PyData.canLay0 (.list (nms.map nmD)) = true := canLayAll_of fun d hd => by
    obtain ⟨n, _, e⟩ := List.mem_map.mp hd
    rw [← e]; rfl
  have h2 : PyData.depthAll (nms.map nmD) ≤ 1 := depthAll_of fun d hd => by
    obtain ⟨n, _, e⟩ := List.mem_map.mp hd
    rw [← e]; exact Nat.le_refl 1
  have h3 : PyData.depth (.list (nms.map nmD)) ≤ 64 := by show PyData.depthAll (nms.map nmD) + 1 ≤ 64; omega
  unfold SeqAt.shaped
  rw [h1, decide_eq_true h3] <;> rfl
theorem zs_dp {H : Hp} : ∀ {zs : List (Nm × Addr)}, (∀ z ∈ zs, H z.2 = some (.tup (nmV z.1))) → DpAll K H (zs.map fun z => V.ref z.2) ((zs.map (·.1)).map nmD)
  | [], _ => .nil
  | z :: zs, h => .cons (nmV_dp (SqT.of (h z List.mem_cons_self))) (zs_dp fun y hy => h y (List.mem_cons_of_mem _ hy))
theorem dropX_len (sh : List Page) (nm : Nm) : (dropX sh nm).length = sh.length := by
  unfold dropX
  rw [freeAll_len, setAt_len]
theorem changeX_len {sh sh' : List Page} {pl : Pl} {vals : List Nat} (e : changeX sh pl vals = some sh') : sh'.length = sh.length := by
  unfold changeX at e
  split at e
  · cases e
    rw [freeAll_len, settled_len]
  · cases e
theorem putX_len {sh sh' : List Page} {nm : Nm} {vals : List Nat} (e : putX sh vals = some (sh', nm)) : sh'.length = sh.length := by
  unfold putX at e
  split at e
  · cases e
  · split at e
    · cases e
      rw [settled_len]
    · cases e
end
end GX
/-! the laws' own deed: _law_deed -/
namespace GX
open PySem PySem.Spec PyProof.Rows L2 LamX
def spDeed (K : PySem.W.Frag) (T : List (Addr × Str)) (C CS P1 P2 PF : Addr) : Sp := fun vs H Q _ => ∃ b l q p sl r sh R D, vs = [.ref b, .ref q, .ref r] ∧ Sta K C CS b l q p sl r sh D H ∧ Kn sh R D ∧ D.length ≤ 95 ∧ TG T P1 P2 PF P1 H ∧
  ∀ H' sh' R' D', XM T (SD b l p sl r) H H' → Sta K C CS b l q p sl r sh' D' H' → Kn sh' R' D' → D'.length ≤ D.length + 1 → sh'.length = sh.length → Q .non H'
section
variable {P : Program} {w : World} {K : PySem.W.Frag} {mg : Str → Option Value} {base : Heap} {T : List (Addr × Str)} {C CS cFu cBR cNR P1 P2 PF : Addr}
abbrev ldN : List Str := ["_law_box", "_law_shelf", "_law_rows", "_law_way", "_law_values_here", "_law_names", "_law_name"]
theorem sc_ldeed : FnScope ldN ["_law_box", "_law_shelf", "_law_rows"] (defScope s_ldeed) := ⟨rfl, rfl, rfl, by decide +kernel, rfl, by decide +kernel, by decide +kernel⟩
def rLenQ (K : PySem.W.Frag) : List V → Hp → VK → Prop := fun xs H Q => ∃ p ys, xs = [.ref p] ∧ (SqL K H p ys ∨ SqT K H p ys) ∧ Q (.int ys.length) H
def rLstQ (K : PySem.W.Frag) : List V → Hp → VK → Prop := fun xs H Q => ∃ p ys, xs = [.ref p] ∧ (SqL K H p ys ∨ SqT K H p ys) ∧ ∀ l, H l = none → Q (.ref l) (upd H l (.lst ys))
def tPickN (K : PySem.W.Frag) (T : List (Addr × Str)) : TS := tAsg (tOp (rIxL K) (tVar 5) (tCall (spTake T) [] E0 (tCons (tVar 0) (tCons (tCB (rLenQ K) (tCons (tVar 5) tNil)) tNil)))) (gName 6)
/-- the body of the try -/
def tDeed (K : PySem.W.Frag) (T : List (Addr × Str)) (C CS P1 P2 PF cFu cBR cNR : Addr) (W : WX) : TS :=
  tIfS (tOr (tTest (tOp (rI0 fun i j => .bl (decide (i < j))) (tVar 3) (tC (.int 3)))) (tTest (tOp (rEqD K) (tVar 5) (tLst tNil))))
    (sDPut (tVar 2) (tMethS CS "put" (spSPut K T C CS P1 P2 PF P1 cFu cBR) (WE W) (tVar 1) (tCons (tCB (rLstQ K) (tCons (tVar 4) tNil)) tNil)) (tVar 4))
    (tIfS (tTest (tOp (rI0 fun i j => .bl (decide (i < j))) (tVar 3) (tC (.int 6))))
      (tSeq (tPickN K T) (tSeq (tDrop (tMethS CS "change" (spSChange K T C CS P1 P2 PF P1 cFu cBR cNR) (WE W) (tVar 1) (tCons (tVar 6) (tCons (tCB (rLstQ K) (tCons (tVar 4) tNil)) tNil)))) (sDPut (tVar 2) (tVar 6) (tVar 4))))
      (tSeq (tPickN K T) (tSeq (tDrop (tMethS CS "drop" (spSDrop K T C CS P1 P2 cNR) (WE W) (tVar 1) (tCons (tVar 6) tNil))) (tDrop (tBM K "dict" rPop1T (tVar 2) (tCons (tVar 6) tNil))))))
/-- a name out of the sorted names -/
theorem pick_name {b l q p sl r : Addr} {sh : List Page} {D : List Ent} {H : Hp} {σ : L2.St} {E' : Ends} {rest : TS} {zs : List (Nm × Addr)} {a : Addr} (s : Sta K C CS b l q p sl r sh D H) (h0 : σ[0]? = some (some (.ref b))) (h5 : σ[5]? = some (some (.ref a))) (ha : H a = some (.lst (zs.map fun z => V.ref z.2))) (hz : zs ≠ []) (h64 : zs.length ≤ 95) (hn : a ≠ b ∧ a ≠ l)
    (k : ∀ H' z, z ∈ zs → XM T (fun c => c = b ∨ c = l) H H' → Sta K C CS b l q p sl r sh D H' → rest E' (σ.set 6 (some (.ref z.2))) H') : tSeq (tPickN K T) rest E' σ H := by
  obtain ⟨ns, z, bx⟩ := s.bx
  have hpos : 0 < zs.length := List.length_pos_iff.mpr hz
  refine ⟨_, h5, _, h0, _, h5, a, _, rfl, .inl (SqL.of ha), b, l, ns, z, _, rfl, bx, ?_, ?_, fun H1 ns1 z1 i a1 bx1 i0 i1 => ?_⟩
  · rw [List.length_map]; omega
  · rw [List.length_map]; omega
  · rw [List.length_map] at i1
    obtain ⟨j, rfl⟩ := Int.eq_ofNat_of_zero_le i0
    have hj : j < zs.length := by omega
    refine ⟨a, _, _, .ref zs[j].2, rfl, rfl, SqL.of (a1.lst ha (fun h => h.elim hn.1 hn.2)), atI_nat (by rw [List.getElem?_map, List.getElem?_eq_getElem hj]; rfl), ?_⟩
    exact k H1 zs[j] (List.getElem_mem hj) a1 (s.take a1 bx1)
theorem ok_ldeed {f : Addr} {fd : FuncData} (F : L2.Fun K "_law_deed" "_law_deed" s_ldeed f fd) (S : STx K CS) (B : Blt mg) (B2 : Blt2 mg) (gFu : mg "Full" = some (.ref cFu)) (hFF : PySem.W.exmOne K (.ref cFu) (.ref cFu) = some true) (cT : Cal P w K mg base CX0 "_law_take" ["_law_box", "_law_many"] 1 (spTake T)) (cV : Cal P w K mg base CX0 "_law_values" ["_law_box"] 2 (spValues K T))
    (mPut : Met P w K mg base (L2.CX P w) CS "put" ["self", "values"] 9 (spSPut K T C CS P1 P2 PF P1 cFu cBR)) (mChange : Met P w K mg base (L2.CX P w) CS "change" ["self", "name", "values"] 9 (spSChange K T C CS P1 P2 PF P1 cFu cBR cNR)) (mDrop : Met P w K mg base (L2.CX P w) CS "drop" ["self", "name"] 9 (spSDrop K T C CS P1 P2 cNR)) :
    FnOk P w K mg base CX0 10 f fd ["_law_box", "_law_shelf", "_law_rows"] (spDeed K T C CS P1 P2 PF) := by
  refine F.ok sc_ldeed (fun vs H Q E h => by obtain ⟨b, l, q, p, sl, r, sh, R, D, rfl, _⟩ := h; rfl) (fun cdv A outer s H vs Q E hr h => ?_)
  obtain ⟨b, l, q, p, sl, r, sh, R, D, rfl, st0, kn, h63, tg, k⟩ := h
  have nd := sc_ldeed.nd
  have hu := hr.units
  have hu1 := hu_of hr
  refine ⟨_, pss_cons (ps_set (i := 3) nd rfl (.inl rfl) (pe_cal cT (hr.mono (by decide)) (pa_cons (pv 0) (pa_cons pe_int pa_nil))))
    (pss_cons (ps_set (i := 4) nd rfl (.inl rfl) (pe_cal cV (hr.mono (by decide)) (pa_cons (pv 0) pa_nil)))
    (pss_cons (ps_set (i := 5) nd rfl (.inl rfl) (pe_callB (cr_sortedDO (d := 3) (B := 1000) (by decide) rfl) (by rfl) B2.sorted boot_sorted (pa_cons (pv 2) pa_nil)))
    (pss_one (ps_try_only (X := (cxOf CX0 P w K mg base ldN "_law_deed" (defScope s_ldeed) f cdv A outer s H E).nox) (tb := tDeed K T C CS P1 P2 PF cFu cBR cNR) (ts := fun _ _ _ => tRetN) rfl rfl (x := "Full") (c := .ref cFu) ⟨rfl, by decide, .inl gFu⟩ L2.takes0
      (fun W pn xe tk _ => pss_one (ps_if (PW.pt (pw_or (pt_cmpR op_lt (pv 3) pe_int (nomark _)) (pw_or1 (pt_cmpR (op_eqD hu) (pv 5) (pe_lst pa_nil) (nomark _)))))
        (pss_one (ps_dput hu1 (pv 2) (pe_metS mPut S.cl hr (passAt tk) (pv 1) (pa_cons (pe_callTy call_list_of (by rfl) B.list boot_list (pa_cons (pv 4) pa_nil)) pa_nil)) (pv 4) rfl))
        (pss_one (ps_if (pt_cmpR op_lt (pv 3) pe_int (nomark _))
          (pss_cons (ps_set (i := 6) nd rfl (.inl rfl) (pe_ix ix_list (pv 5) (pe_cal cT (hr.mono (by decide)) (pa_cons (pv 0) (pa_cons (pe_callB call_len_seq (by rfl) B.len PySem.boot_len (pa_cons (pv 5) pa_nil)) pa_nil))) (fun _ _ => rfl)))
          (pss_cons (ps_expr (pe_metS mChange S.cl hr (passAt tk) (pv 1) (pa_cons (pv 6) (pa_cons (pe_callTy call_list_of (by rfl) B.list boot_list (pa_cons (pv 4) pa_nil)) pa_nil))))
          (pss_one (ps_dput hu1 (pv 2) (pv 6) (pv 4) rfl))))
          (pss_cons (ps_set (i := 6) nd rfl (.inl rfl) (pe_ix ix_list (pv 5) (pe_cal cT (hr.mono (by decide)) (pa_cons (pv 0) (pa_cons (pe_callB call_len_seq (by rfl) B.len PySem.boot_len (pa_cons (pv 5) pa_nil)) pa_nil))) (fun _ _ => rfl)))
          (pss_cons (ps_expr (pe_metS mDrop S.cl hr (passAt tk) (pv 1) (pa_cons (pv 6) pa_nil)))
          (pss_one (ps_expr (pe_bm PySem.F.plainAttrs_dict PySem.F.slot_dict_pop PySem.F.type_dict_pop (mt_pop1T hu1) (pv 2) (pa_cons (pv 6) pa_nil))))))))))
      (fun a oe cls d pn hz hf => pss_one ps_retN))))), ?_⟩
  -- the way, the values
  obtain ⟨ns, z, bx⟩ := st0.bx
  refine ⟨_, rfl, b, l, ns, z, 7, rfl, bx, by decide, by decide, fun H1 ns1 z1 way a1 bx1 w0 w1 => ?_⟩
  have st1 := st0.take a1 bx1
  refine ⟨_, rfl, b, l, ns1, z1, rfl, bx1, fun H2 ns2 z2 av vals a2 bx2 nav ev lv cv => ?_⟩
  have st2 := st1.take a2 bx2
  have x02 := a1.trans a2
  have fav := st1.fresh nav
  -- the names, sorted
  refine ⟨_, rfl, ?_⟩
  dsimp only [tNil]
  refine sort_rows st2.w kn (by omega) fun zs an hzs htz nan => ?_
  have x3 := XX.new (T := T) (o := .lst (zs.map fun z => V.ref z.2)) nan
  have st3 := st2.xx x3
  have fan := st2.fresh nan
  have ean : upd H2 an (.lst (zs.map fun z => V.ref z.2)) an = some (.lst (zs.map fun z => V.ref z.2)) := upd_same
  have ev3 := x3.lst ev
  have htz3 : ∀ z ∈ zs, upd H2 an (.lst (zs.map fun z => V.ref z.2)) z.2 = some (.tup (nmV z.1)) := fun z hz => x3.tup (htz z hz)
  have x03 : XM T (fun c => c = b ∨ c = l) H (upd H2 an (.lst (zs.map fun z => V.ref z.2))) := x02.trans x3.xm
  have tg3 := tg.xm x03
  revert st3 ean ev3 htz3 x03 tg3
  generalize upd H2 an (.lst (zs.map fun z => V.ref z.2)) = H3
  intro st3 ean ev3 htz3 x03 tg3
  dsimp only [gName]
  have hzl : zs.length = D.length := by
    have h1 := congrArg List.length hzs
    have h2 := kn.perm.length_eq
    rw [List.length_map] at h1 h2
    omega
  have toSD : ∀ {S : Addr → Prop} {Ha Hb : Hp}, XM T S Ha Hb → (∀ c, S c → SD b l p sl r c) → XM T (SD b l p sl r) Ha Hb := fun x h => x.mono h
  have xSD := toSD x03 (fun c h => h.elim (fun e => .inr (.inr (.inl e))) fun e => .inr (.inr (.inr (.inl e))))
  -- Full: nothing is changed
  have full : ∀ {σ : L2.St} {H' : Hp}, XM T (SD b l p sl r) H H' → Sta K C CS b l q p sl r sh D H' → wOnly K (.ref cFu) (fun _ _ _ => tRetN) (fun _ _ _ _ => False) { nx := fun _ H' => Q .non H', rt := Q } (.ref cFu) none σ H' := fun x s => ⟨true, hFF, fun _ a _ => k _ _ _ _ x s kn (by omega) rfl, fun z => nomatch z⟩
  have fin := k
  -- the way that puts
  have put : ∀ (σ : L2.St) (H4 : Hp), σ = [some (.ref b), some (.ref q), some (.ref r), some (.int way), some (.ref av), some (.ref an), none] → XX T H3 H4 →
      sDPut (tVar 2) (tMethS CS "put" (spSPut K T C CS P1 P2 PF P1 cFu cBR) (WE (wOnly K (.ref cFu) (fun _ _ _ => tRetN) (fun _ _ _ _ => False) { nx := fun _ H' => Q .non H', rt := Q })) (tVar 1) (tCons (tCB (rLstQ K) (tCons (tVar 4) tNil)) tNil)) (tVar 4) { nx := fun _ H' => Q .non H', rt := Q } σ H4 := by
    rintro σ H4 rfl x4
    have st4 := st3.xx x4
    obtain ⟨qx4, dx4, d4, s4⟩ := st4.st
    refine ⟨_, rfl, _, rfl, _, rfl, q, _, _, rfl, s4.ins, rfl, _, rfl, av, _, rfl, .inl (SqL.of (x4.lst ev3)), fun u5 n5 => ?_⟩
    dsimp only [tNil]
    have x5 := XX.new (T := T) (o := .lst (vals.map fun (n : Nat) => V.int (n : Int))) n5
    have st5 := st4.xx x5
    have f5 := st4.fresh n5
    refine sp_put (s4.xx x5) (natsD_at upd_same) (fun e => f5.1 (by injection e)) (fun e => f5.2.1 (by injection e)) (by omega) cv kn.rows.usedB ((tg3.xm (S := fun _ => False) x4.xm).xm (S := fun _ => False) x5.xm) (fun e H6 x6 => full (xSD.trans ((x4.trans x5).trans x6).xm) (st5.xx x6)) (fun sh' nm e H6 t6 d6 x6 n6 s6 et6 => ?_)
    obtain ⟨n, pgs, _, _, _, _, kn6, hne⟩ := kn.putX (a := av) cv e
    have st6 := st5.deed x6 s6
    have fav6 : H6 av = some (.lst (vals.map fun (n : Nat) => V.int (n : Int))) := x6.lst (x5.lst (x4.lst ev3)) (fun h => h.elim fav.1 fav.2.1)
    obtain ⟨st7, x7⟩ := st6.put (nm := nm) fav6 ⟨fav.1, fav.2.1, fav.2.2.1, fav.2.2.2.1⟩
    refine ⟨r, _, rfl, .inr ⟨_, nmK nm, t6, st6.w.hd, rfl, by rw [nmK_kV]; exact et6, ?_, rfl⟩, ?_⟩
    · rw [List.length_map]
      exact Nat.lt_of_lt_of_le (show D.length < 100 by omega) (by decide)
    · refine fin _ _ _ _ (xSD.trans (((x4.trans x5).xm.trans (toSD x6 (fun c h => h.elim .inl fun e => .inr (.inl e)))).trans (toSD x7 fun c h => .inr (.inr (.inr (.inr h)))))) st7 kn6 putE_len (putX_len e)
  unfold tDeed
  refine ⟨_, rfl, _, _, rfl, rfl, _, rfl, ?_⟩
  by_cases hw : way < 3
  · rw [decide_eq_true hw]
    exact put _ _ rfl (XX.refl _)
  rw [decide_eq_false hw]
  refine iteF ⟨_, rfl, Nat.zero_le _, fun a4 n4 => ?_⟩
  have x4 := XX.new (T := T) (o := .lst []) n4
  refine ⟨.list ((namesOf sh).map nmD), .list [], .lst (x4.sqL (SqL.of ean)) (by rw [← hzs]; exact Dp.xxAll x4 _ _ (zs_dp htz3)), .lst (SqL.of upd_same) .nil, names_sh _, shaped_nil, _, rfl, ?_⟩
  by_cases hz : zs = []
  · have e0 : namesOf sh = [] := by rw [← hzs, hz]; rfl
    rw [e0]
    exact put _ _ rfl x4
  have hne : PyData.eqv (.list ((namesOf sh).map nmD)) (.list []) = false := by
    rw [← hzs]
    cases zs with
    | nil => exact absurd rfl hz
    | cons z zs => rfl
  rw [hne]
  refine iteF ⟨_, rfl, _, _, rfl, rfl, _, rfl, ?_⟩
  have st4 := st3.xx x4
  have tg4 := tg3.xm (S := fun _ => False) x4.xm
  have xSD4 := xSD.trans x4.xm (S := SD b l p sl r)
  have mem : ∀ z ∈ zs, ∃ e ∈ D, e.1 = z.1 := fun z hz => kn.at_ (by rw [← hzs]; exact List.mem_map.mpr ⟨z, hz, rfl⟩)
  by_cases hw6 : way < 6
  · rw [decide_eq_true hw6]
    refine pick_name (T := T) st4 rfl rfl (x4.lst ean) hz (by omega) ⟨fan.2.2.1, fan.2.2.2.1⟩ fun H5 zz hzz x5 st5 => ?_
    obtain ⟨en, hen, een⟩ := mem zz hzz
    obtain ⟨qx5, dx5, d5, s5⟩ := st5.st
    have ez5 : H5 zz.2 = some (.tup (nmV zz.1)) := x5.tup _ _ (x4.tup (htz3 zz hzz))
    have fav5 : H5 av = some (.lst (vals.map fun (n : Nat) => V.int (n : Int))) := x5.lst (x4.lst ev3) (fun h => h.elim fav.2.2.1 fav.2.2.2.1)
    refine ⟨_, rfl, q, _, _, rfl, s5.ins, rfl, _, rfl, _, rfl, av, _, rfl, .inl (SqL.of fav5), fun u6 n6 => ?_⟩
    dsimp only [tNil]
    have x6 := XX.new (T := T) (o := .lst (vals.map fun (n : Nat) => V.int (n : Int))) n6
    have st6 := st5.xx x6
    have f6 := st5.fresh n6
    have x5S := toSD x5 (fun c h => h.elim (fun e => .inr (.inr (.inl e))) fun e => .inr (.inr (.inr (.inl e))))
    refine sp_change (nm := en.1) (s5.xx x6) (by rw [een]; exact nmV_dp (SqT.of (x6.tup ez5))) (natsD_at upd_same) (fun e => f6.1 (by injection e)) (fun e => f6.2.1 (by injection e)) (by omega) cv kn.rows.usedB (kn.live hen) ((tg4.xm x5).xm (S := fun _ => False) x6.xm) (fun e H7 x7 => full ((xSD4.trans x5S).trans (x6.trans x7).xm) (st6.xx x7)) (fun sh' e H7 d7 x7 s7 => ?_)
    obtain ⟨old, _, _, _, _, kn7⟩ := kn.changeX (a := av) hen cv e
    have st7 := st6.deed x7 s7
    have fav7 : H7 av = some (.lst (vals.map fun (n : Nat) => V.int (n : Int))) := x7.lst (x6.lst fav5) (fun h => h.elim fav.1 fav.2.1)
    obtain ⟨st8, x8⟩ := st7.put (nm := en.1) fav7 ⟨fav.1, fav.2.1, fav.2.2.1, fav.2.2.2.1⟩
    refine ⟨_, rfl, _, rfl, _, rfl, r, _, rfl, .inr ⟨_, nmK en.1, zz.2, st7.w.hd, rfl, by rw [nmK_kV, een]; exact x7.tup _ _ (x6.tup ez5), ?_, rfl⟩, ?_⟩
    · rw [List.length_map]
      exact Nat.lt_of_lt_of_le (show D.length < 100 by omega) (by decide)
    · exact k _ _ _ _ ((xSD4.trans x5S).trans ((x6.xm.trans (toSD x7 (fun c h => h.elim .inl fun e => .inr (.inl e)))).trans (toSD x8 fun c h => .inr (.inr (.inr (.inr h)))))) st8 kn7 putE_len (changeX_len e)
  · rw [decide_eq_false hw6]
    refine iteF (pick_name (T := T) st4 rfl rfl (x4.lst ean) hz (by omega) ⟨fan.2.2.1, fan.2.2.2.1⟩ fun H5 zz hzz x5 st5 => ?_)
    obtain ⟨en, hen, een⟩ := mem zz hzz
    obtain ⟨qx5, dx5, d5, s5⟩ := st5.st
    have ez5 : H5 zz.2 = some (.tup (nmV zz.1)) := x5.tup _ _ (x4.tup (htz3 zz hzz))
    refine ⟨_, rfl, q, _, _, rfl, s5.ins, rfl, _, rfl, ?_⟩
    dsimp only [tNil]
    have x5S := toSD x5 (fun c h => h.elim (fun e => .inr (.inr (.inl e))) fun e => .inr (.inr (.inr (.inl e))))
    refine sp_drop (nm := en.1) s5 (by rw [een]; exact nmV_dp (SqT.of ez5)) (kn.live hen) (tg4.xm x5) fun H6 d6 x6 s6 => ?_
    obtain ⟨old, _, _, _, kn6⟩ := kn.dropX hen
    have st6 := st5.deed x6 s6
    obtain ⟨st7, x7⟩ := st6.pop (nm := en.1)
    refine ⟨_, rfl, .inr (.inr (.inl ⟨rfl, .inr ⟨_, st6.w.hd⟩⟩)), _, rfl, r, _, nmK en.1, zz.2, .ref en.2.2, rfl, rfl, st6.w.hd, by rw [nmK_kV, een]; exact x6.tup _ _ ez5, valE_find hen kn.nd, ?_⟩
    exact k _ _ _ _ ((xSD4.trans x5S).trans ((toSD x6 (fun c h => h.elim .inl fun e => .inr (.inl e))).trans (toSD x7 fun c h => .inr (.inr (.inr (.inr h)))))) st7 kn6 (Nat.le_succ_of_le dropE_len) (dropX_len ..)
end
end GX
/-! Disk(N), Shelf(p) -/
namespace GX
open PySem PySem.Spec PyProof.Rows L2 LamX
section
variable {K : PySem.W.Frag} {T : List (Addr × Str)} {C CS cD b l P1 P2 : Addr} {H : Hp}
/-- Disk(N), the number being at hand -/
theorem mk_disk {Q : Addr → Hp → Prop} {N : Nat} (h2 : 2 ≤ N) (h12 : N ≤ 12) (k : ∀ p dx sl H', XM T (fun _ => False) H H' → H p = none → H sl = none → DiskAt K C H' p dx sl (shD (fsh N)) 0 none false → Q p H') :
    ∀ p dx, H p = none → H dx = none → dx ≠ p → spDInit K T C cD [.ref p, .int (N : Int)] (upd (upd H dx (.own p)) p (.ins C dx [])) (fun v H' => v = .non ∧ Q p H') E0 := by
  intro p dx np ndx ne
  have xa := (XX.new (T := T) (o := .own p) ndx).then_new (o := .ins C dx []) (by rw [upd_ne (Ne.symm ne)]; exact np)
  refine ⟨p, dx, .int (N : Int), .int (N : Int), rfl, upd_same, .int _, (fun hf => by rw [num_of (by omega) (by omega)] at hf; cases hf), fun n' en hn1 hn2 H5 sl x5 nsl dk5 => ⟨rfl, ?_⟩⟩
  cases en
  rw [Int.toNat_natCast, ← fsh_d] at dk5
  exact k p dx sl H5 ((xa.xm.trans x5).drop fun c h _ => by rw [h]; exact np) np (xa.free nsl) dk5
/-- Shelf(p), the disk's pages holding just known rows -/
theorem mk_shelf {Q : Addr → Hp → Prop} {sh : List Page} {R : List Row1} {p dx sl : Addr} {d : Int} (dk : DiskAt K C H p dx sl (shD sh) d none false) (hR : Rows sh R) (g1 : GxR.TabG H P1) (g2 : GxR.TabG H P2) (k : ∀ q qx H', XM T (fun c => c = p ∨ c = sl) H H' → H q = none → ShAt K C CS H' q qx p dx sl sh d → Q q H') :
    ∀ q qx, H q = none → H qx = none → qx ≠ q → spSInit K T C CS P1 P2 [.ref q, .ref p] (upd (upd H qx (.own q)) q (.ins CS qx [])) (fun v H' => v = .non ∧ Q q H') E0 := by
  intro q qx nq nqx ne
  have xb := (XX.new (T := T) (o := .own q) nqx).then_new (o := .ins CS qx []) (by rw [upd_ne (Ne.symm ne)]; exact nq)
  have y : XM T (fun c => c = p ∨ c = sl) H (upd (upd H qx (.own q)) q (.ins CS qx [])) := xb.xm
  refine ⟨q, qx, p, dx, sl, sh, d, fun z => z :: partsAt R z, rfl, upd_same, dk.xx xb, hR.ok, hR.le, fun z hz => ?_, xb.tabG _ g1, xb.tabG _ g2, fun H6 x6 st6 => ⟨rfl, ?_⟩⟩
  · obtain ⟨r, hr, rfl⟩ := hR.mem.mp hz
    show Chain sh (some r.1) (r.1 :: partsAt R r.1) ∧ (r.1 :: partsAt R r.1).length ≤ 200
    rw [partsAt_of hR hr]
    exact ⟨hR.chain r hr, by have := hR.len hr; unfold places at this; omega⟩
  · rw [hR.lost] at st6
    have st6 : ShAt K C CS H6 q qx p dx sl sh d := by
      have e : d + cuts sh [] + ((([] : List Pl).length : Nat) : Int) = d := by
        show d + ((0 : Nat) : Int) + ((0 : Nat) : Int) = d
        omega
      rw [e] at st6
      exact st6
    refine k q qx H6 ?_ nq st6
    refine ((y.mono (S' := fun c => c = q ∨ c = p ∨ c = sl) fun _ h => .inr h).trans x6).drop fun c h n => ?_
    rcases h with h | h
    · rw [h]; exact nq
    · exact absurd h n
end
end GX
/-! the laws' own begin: _law_begin -/
namespace GX
open PySem PySem.Spec PyProof.Rows L2 LamX
def spBegin (K : PySem.W.Frag) (T : List (Addr × Str)) (C CS P1 P2 PF : Addr) : Sp := fun vs H Q _ => ∃ b l ns z, vs = [.ref b] ∧ BoxAt H b l ns z ∧ TG T P1 P2 PF P1 H ∧
  ∀ H' q p sl r sh R D t, XM T (fun c => c = b ∨ c = l) H H' → H q = none → H p = none → H sl = none → H r = none → Sta K C CS b l q p sl r sh D H' → Kn sh R D → D.length ≤ 29 → 2 ≤ sh.length → H' t = some (.tup [.ref p, .ref q, .ref r]) → Q (.ref t) H'
section
variable {P : Program} {w : World} {K : PySem.W.Frag} {mg : Str → Option Value} {base : Heap} {T : List (Addr × Str)} {C CS cD P1 P2 PF : Addr}
abbrev lbN : List Str := ["_law_box", "_law_disk", "_law_shelf", "_law_rows", "_law_turn"]
theorem sc_lbegin : FnScope lbN ["_law_box"] (defScope s_lbegin) := ⟨rfl, rfl, rfl, by decide +kernel, rfl, by decide +kernel, by decide +kernel⟩
theorem ok_lbegin {f : Addr} {fd : FuncData} (F : L2.Fun K "_law_begin" "_law_begin" s_lbegin f fd) (B : Blt mg) (cT : Cal P w K mg base CX0 "_law_take" ["_law_box", "_law_many"] 1 (spTake T)) (cD' : Ctor P w K mg base "Disk" C ["self", "many"] 2 (spDInit K T C cD)) (cSh : Ctor P w K mg base "Shelf" CS ["self", "disk"] 10 (spSInit K T C CS P1 P2))
    (cDe : Cal P w K mg base CX0 "_law_deed" ["_law_box", "_law_shelf", "_law_rows"] 10 (spDeed K T C CS P1 P2 PF)) : FnOk P w K mg base CX0 12 f fd ["_law_box"] (spBegin K T C CS P1 P2 PF) := by
  refine F.ok sc_lbegin (fun vs H Q E h => by obtain ⟨b, l, ns, z, rfl, _⟩ := h; rfl) (fun cdv A outer s H vs Q E hr h => ?_)
  obtain ⟨b, l, ns, z, rfl, bx, tg, k⟩ := h
  have nd := sc_lbegin.nd
  refine ⟨_, pss_cons (ps_set (i := 1) nd rfl (.inl rfl) (pe_ctor cD' (hr.mono (by decide)) passL (pa_cons (pe_ix ix_list (pe_lst (pa_cons pe_int (pa_cons pe_int (pa_cons (pe_op op_add pe_int (pe_cal cT (hr.mono (by decide)) (pa_cons (pv 0) (pa_cons pe_int pa_nil)))) (pa_cons pe_int pa_nil))))) (pe_cal cT (hr.mono (by decide)) (pa_cons (pv 0) (pa_cons pe_int pa_nil))) (fun _ _ => rfl)) pa_nil)))
    (pss_cons (ps_par (i := 2) (j := 3) (by rfl) nd rfl rfl (by decide) rfl rfl (pa_cons (pe_ctor cSh (hr.mono (by decide)) passL (pa_cons (pv 1) pa_nil)) (pa_cons pe_dnewT pa_nil)) (by rfl))
    (pss_cons (ps_for PassesOwn.never rfl (pi_range1 (by rfl) B.range (pa_cons (pe_cal cT (hr.mono (by decide)) (pa_cons (pv 0) (pa_cons (pe_ix ix_list (pe_lst (pa_cons pe_int (pa_cons pe_int pa_nil))) (pe_cal cT (hr.mono (by decide)) (pa_cons (pv 0) (pa_cons pe_int pa_nil))) (fun _ _ => rfl)) pa_nil))) pa_nil)) (pg_name (i := 4) nd rfl (Or.inl rfl))
      (pss_one (ps_expr (pe_cal cDe (hr.mono (by decide)) (pa_cons (pv 0) (pa_cons (pv 2) (pa_cons (pv 3) pa_nil)))))))
    (pss_one (ps_ret (pe_tup (pa_cons (pv 1) (pa_cons (pv 2) (pa_cons (pv 3) pa_nil)))))))), ?_⟩
  -- how many pages
  refine set_te ⟨_, rfl, b, l, ns, z, 11, rfl, bx, by decide, by decide, fun H1 ns1 z1 n1 a1 bx1 n10 n11 => ⟨_, _, rfl, rfl, ?_⟩⟩
  refine ⟨(by show 4 ≤ sizeLine; decide), fun a2 na2 => ?_⟩
  have x2 := XX.new (T := T) (o := .lst [V.int 2, V.int 3, V.int (2 + n1), V.int 12]) na2
  have f2 := bx1.away na2
  refine ⟨_, rfl, b, l, ns1, z1, 4, rfl, bx1.xx x2, by decide, by decide, fun H3 ns3 z3 i a3 bx3 i0 i1 => ?_⟩
  have e3 : H3 a2 = some (.lst [V.int 2, V.int 3, V.int (2 + n1), V.int 12]) := a3.lst upd_same (fun h => h.elim f2.1 f2.2)
  obtain ⟨N, hN, hN2, hN12⟩ : ∃ N : Nat, atI [V.int 2, V.int 3, V.int (2 + n1), V.int 12] i = some (.int (N : Int)) ∧ 2 ≤ N ∧ N ≤ 12 := by
    have : i = 0 ∨ i = 1 ∨ i = 2 ∨ i = 3 := by omega
    rcases this with e | e | e | e <;> subst e
    · exact ⟨2, atI_nat (j := 0) rfl, by decide, by decide⟩
    · exact ⟨3, atI_nat (j := 1) rfl, by decide, by decide⟩
    · refine ⟨(2 + n1).toNat, ?_, by omega, by omega⟩
      rw [Int.toNat_of_nonneg (by omega)]
      exact atI_nat (j := 2) rfl
    · exact ⟨12, atI_nat (j := 3) rfl, by decide, by decide⟩
  refine ⟨a2, _, i, .int (N : Int), rfl, rfl, SqL.of e3, hN, ?_⟩
  have x03 : XM T (fun c => c = b ∨ c = l) H H3 := (a1.trans x2.xm).trans a3
  dsimp only [tNil, List.cons_append, List.nil_append]
  refine mk_disk (K := K) (T := T) hN2 hN12 fun p dx sl H4 x4 np nsl dk4 => ?_
  have x04 : XM T (fun c => c = b ∨ c = l) H H4 := x03.trans (x4.mono fun _ h => h.elim)
  have bx4 := bx3.xm x4 id id
  have fsl := bx3.away nsl
  -- the shelf
  refine ⟨_, rfl, ?_⟩
  dsimp only [tNil, List.cons_append, List.nil_append]
  have rw0 : Rows (fsh N) [] := rows_fresh hN12
  refine mk_shelf (K := K) (T := T) dk4 rw0 (x04.tabG _ tg.g1) (x04.tabG _ tg.g2) fun q qx H5 x5 nq st5 => ?_
  have bx5 := bx4.xm x5 (fun h => h.elim (fun e => by have := dk4.ins; rw [← e, bx4.hb] at this; cases this) (fun e => fsl.1 e.symm)) (fun h => h.elim (fun e => by have := dk4.ins; rw [← e, bx4.hl] at this; cases this) (fun e => fsl.2 e.symm))
  refine fun r nr => ?_
  have x6 := XX.new (T := T) (o := .dT []) nr
  have nq0 : H q = none := x04.free nq
  have np0 : H p = none := x03.free np
  have nsl0 : H sl = none := x03.free nsl
  have x06 : XM T (fun c => c = b ∨ c = l) H (upd H5 r (.dT [])) := by
    refine ((x04.mono (S' := fun c => (c = b ∨ c = l) ∨ c = p ∨ c = sl) fun _ h => .inl h).trans ((x5.mono fun _ h => .inr h).trans x6.xm)).drop fun c h n => ?_
    rcases h with h | h | h
    · exact absurd h n
    · rw [h]; exact np0
    · rw [h]; exact nsl0
  have nr0 : H r = none := x04.free (x5.free nr)
  have e6 : (upd H5 r (.dT [])) r = some (.dT []) := upd_same
  have bx6 := bx5.xx x6
  have st6 := st5.xx x6
  have sta6 : Sta K C CS b l q p sl r (fsh N) [] (upd H5 r (.dT [])) := ⟨⟨_, _, bx6⟩, ⟨_, _, _, st6⟩, ⟨fsl.1.symm, fsl.2.symm⟩, e6, fun e he => nomatch he⟩
  revert x06 e6 bx6 st6 sta6
  generalize upd H5 r (.dT []) = H6
  intro x06 e6 bx6 st6 sta6
  refine ⟨_, _, rfl, ?_⟩
  -- the deeds
  refine ⟨_, rfl, ?_⟩
  refine ⟨(by show 2 ≤ sizeLine; decide), fun a7 na7 => ?_⟩
  have x7 := XX.new (T := T) (o := .lst [V.int 8, V.int 30]) na7
  have f7 := bx6.away na7
  refine ⟨_, rfl, b, l, ns3, z3, 2, rfl, bx6.xx x7, by decide, by decide, fun H8 ns8 z8 i8 a8 bx8 i80 i81 => ?_⟩
  have e8 : H8 a7 = some (.lst [V.int 8, V.int 30]) := a8.lst upd_same (fun h => h.elim f7.1 f7.2)
  have sta8 := (sta6.xx x7).take a8 bx8
  obtain ⟨m, hm, hm0, hm30⟩ : ∃ m : Int, atI [V.int 8, V.int 30] i8 = some (.int m) ∧ 0 < m ∧ m ≤ 30 := by
    have : i8 = 0 ∨ i8 = 1 := by omega
    rcases this with e | e <;> subst e
    · exact ⟨8, atI_nat (j := 0) rfl, by decide, by decide⟩
    · exact ⟨30, atI_nat (j := 1) rfl, by decide, by decide⟩
  refine ⟨a7, _, i8, .int m, rfl, rfl, SqL.of e8, hm, ?_⟩
  refine ⟨b, l, ns8, z8, m, rfl, bx8, hm0, by omega, fun H9 ns9 z9 n a9 bx9 n0 n1 => ?_⟩
  have sta9 := sta8.take a9 bx9
  have x09 : XM T (fun c => c = b ∨ c = l) H H9 := ((x06.trans x7.xm).trans a8).trans a9
  refine ⟨n, rfl, by omega, by omega, for_range (lo := 0) (n := n.toNat) (fun i σ' H' => ∃ sh R D u, σ' = [some (.ref b), some (.ref p), some (.ref q), some (.ref r), u] ∧ XM T (fun c => c = b ∨ c = l) H H' ∧ Sta K C CS b l q p sl r sh D H' ∧ Kn sh R D ∧ D.length ≤ i ∧ sh.length = N)
    ⟨fsh N, [], [], none, rfl, x09, sta9, kn_fresh hN12, Nat.le_refl _, fsh_len N⟩ ?_ ?_⟩
  · rintro i σ' H' hi ⟨sh, R, D, u, rfl, xi, sti, kni, li, ni⟩
    refine ⟨_, rfl, _, rfl, _, rfl, b, l, q, p, sl, r, sh, R, D, rfl, sti, kni, by omega, tg.xm xi, fun H2 sh2 R2 D2 y2 st2 kn2 l2 n2 => ?_⟩
    refine ⟨sh2, R2, D2, _, rfl, ?_, st2, kn2, by omega, by omega⟩
    refine ((xi.mono (S' := fun c => (c = b ∨ c = l) ∨ SD b l p sl r c) fun _ h => .inl h).trans (y2.mono fun _ h => .inr h)).drop fun c h nn => ?_
    rcases h with h | h | h | h | h | h
    · exact absurd h nn
    · rw [h]; exact np0
    · rw [h]; exact nsl0
    · exact absurd (.inl h) nn
    · exact absurd (.inr h) nn
    · rw [h]; exact nr0
  · rintro σ' H' ⟨sh, R, D, u, rfl, xi, sti, kni, li, ni⟩
    refine ⟨_, rfl, _, rfl, _, rfl, (by show 3 ≤ sizeLine; decide), fun t nt => ?_⟩
    have xt := XX.new (T := T) (o := .tup [V.ref p, V.ref q, V.ref r]) nt
    exact k _ q p sl r sh R D t (xi.trans xt.xm) nq0 np0 nsl0 nr0 (sti.xx xt) kni (by omega) (by omega) upd_same
end
end GX
set_option maxHeartbeats 2000000
namespace GX
open PySem PySem.Spec PyProof.Rows L2 LamX
theorem okAll_mem : ∀ {ds : List PyData} {d : PyData}, okAll ds = true → d ∈ ds → okD d = true
  | e :: ds, d, h, hm => by
    have h' := Bool.and_eq_true_iff.mp h
    rcases List.mem_cons.mp hm with z | z
    · rw [z]; exact h'.1
    · exact okAll_mem h'.2 z
theorem dec_self {x : V} {H : Hp} {Q : VK} (k : Q (.bl true) H) : Q (.bl (decide (x = x))) H := by rw [decide_eq_true rfl]; exact k
theorem rix_of {K : PySem.W.Frag} {H : Hp} {p : Addr} {xs : List V} {i : Nat} {v : V} {Q : VK} (h : SqL K H p xs ∨ SqT K H p xs) (e : xs[i]? = some v) (q : Q v H) : L2.rIx K (.ref p) (.int (0 + (i : Int))) H Q := by
  have e0 : (0 : Int) + (i : Int) = (i : Int) := Int.zero_add _
  rw [e0]
  rcases h with h | h
  · exact .inl ⟨p, xs, _, v, rfl, rfl, h, atI_nat e, q⟩
  · exact .inr (.inl ⟨p, xs, _, v, rfl, rfl, h, atI_nat e, q⟩)
section
variable {P : Program} {w : World} {K : PySem.W.Frag} {mg : Str → Option Value} {base : Heap} {T : List (Addr × Str)}
theorem sc_alike : FnScope ["_law_found", "_law_due", "_law_k"] ["_law_found", "_law_due"] (defScope s_alike) := ⟨rfl, rfl, rfl, by decide +kernel, rfl, by decide +kernel, by decide +kernel⟩
theorem ok_alike1 {f : Addr} {fd : FuncData} {n : Nat} (F : Fun K "_law_alike" "_law_alike" s_alike f fd) (B : Blt mg) (bs : mg "str" = none) (c : Cal P w K mg base CX0 "_law_alike" ["_law_found", "_law_due"] n (spAl K n)) : FnOk P w K mg base CX0 (n + 1) f fd ["_law_found", "_law_due"] (spAl K (n + 1)) := by
  refine F.ok sc_alike (fun vs H Q E h => by obtain ⟨a, b, d, rfl, _⟩ := h; rfl) (fun cdv A outer s H vs Q E hr h => ?_)
  obtain ⟨a, b, d, rfl, ha, hb, hok, hdep, k⟩ := h
  have nd := sc_alike.nd
  refine ⟨_, pss_cons (ps_if (pt_cmpR op_isN (pv 1) pe_non (nomark _)) (pss_one (ps_ret (pe_cmpR op_isN (pv 0) pe_non (nomark _)))) pss_nil)
    (pss_cons (ps_if (pt_val (pe_callB call_isi (by rfl) B.isi k_isi (pa_cons (pv 1) (pa_cons (pe_bltn (v := .ty "bool") (by rfl) B.bool boot_bool rfl) pa_nil))))
      (pss_one (ps_ret (pe_and (pe_callB call_isi (by rfl) B.isi k_isi (pa_cons (pv 0) (pa_cons (pe_bltn (v := .ty "bool") (by rfl) B.bool boot_bool rfl) pa_nil))) (pe_one (pe_cmpR op_eq (pv 0) (pv 1) (nomark _)))))) pss_nil)
    (pss_cons (ps_if (pt_val (pe_callB call_isi (by rfl) B.isi k_isi (pa_cons (pv 1) (pa_cons (pe_bltn (v := .ty "int") (by rfl) B.int boot_int rfl) pa_nil))))
      (pss_one (ps_ret (pe_and (pe_callB call_isi (by rfl) B.isi k_isi (pa_cons (pv 0) (pa_cons (pe_bltn (v := .ty "int") (by rfl) B.int boot_int rfl) pa_nil)))
        (pe_and (pe_not (pe_callB call_isi (by rfl) B.isi k_isi (pa_cons (pv 0) (pa_cons (pe_bltn (v := .ty "bool") (by rfl) B.bool boot_bool rfl) pa_nil)))) (pe_one (pe_cmpR op_eq (pv 0) (pv 1) (nomark _))))))) pss_nil)
    (pss_cons (ps_if (pt_val (pe_callB call_isi (by rfl) B.isi k_isi (pa_cons (pv 1) (pa_cons (pe_bltn (v := .ty "str") (by rfl) bs boot_str rfl) pa_nil))))
      (pss_one (ps_ret (pe_and (pe_callB call_isi (by rfl) B.isi k_isi (pa_cons (pv 0) (pa_cons (pe_bltn (v := .ty "str") (by rfl) bs boot_str rfl) pa_nil))) (pe_one (pe_cmpR op_eq (pv 0) (pv 1) (nomark _)))))) pss_nil)
    (pss_cons (ps_if (PW.pt (pw_or (pt_cmpR op_ne (pe_callB call_isi (by rfl) B.isi k_isi (pa_cons (pv 1) (pa_cons (pe_bltn (v := .ty "tuple") (by rfl) B.tuple boot_tuple rfl) pa_nil))) (pe_callB call_isi (by rfl) B.isi k_isi (pa_cons (pv 0) (pa_cons (pe_bltn (v := .ty "tuple") (by rfl) B.tuple boot_tuple rfl) pa_nil))) (nomark _))
        (pw_or1 (pt_cmpR op_ne (pe_callB call_isi (by rfl) B.isi k_isi (pa_cons (pv 1) (pa_cons (pe_bltn (v := .ty "list") (by rfl) B.list boot_list rfl) pa_nil))) (pe_callB call_isi (by rfl) B.isi k_isi (pa_cons (pv 0) (pa_cons (pe_bltn (v := .ty "list") (by rfl) B.list boot_list rfl) pa_nil))) (nomark _)))))
      (pss_one (ps_ret pe_bl)) pss_nil)
    (pss_cons (ps_if (pt_cmpR op_ne (pe_callB call_len_seq (by rfl) B.len PySem.boot_len (pa_cons (pv 0) pa_nil)) (pe_callB call_len_seq (by rfl) B.len PySem.boot_len (pa_cons (pv 1) pa_nil)) (nomark _)) (pss_one (ps_ret pe_bl)) pss_nil)
    (pss_cons (ps_for PassesOwn.never rfl (pi_range1 (by rfl) B.range (pa_cons (pe_callB call_len_seq (by rfl) B.len PySem.boot_len (pa_cons (pv 1) pa_nil)) pa_nil)) (pg_name (i := 2) nd rfl (Or.inl rfl))
      (pss_one (ps_if (pt_not (pt_val (pe_cal c hr (pa_cons (pe_ix ix_seq (pv 0) (pv 2) (fun _ _ => rfl)) (pa_cons (pe_ix ix_seq (pv 1) (pv 2) (fun _ _ => rfl)) pa_nil))))) (pss_one (ps_ret pe_bl)) pss_nil)))
    (pss_one (ps_ret pe_bl)))))))), ?_⟩
  have loop : ∀ {a b : V} {pa pb : Addr} {va vb : List V} {ds : List PyData} {Q' : VK}, a = .ref pa → b = .ref pb → (SqL K H pa va ∨ SqT K H pa va) → (SqL K H pb vb ∨ SqT K H pb vb) → DpAll K H va ds → DpAll K H vb ds → ds.length ≤ 1000 → okAll ds = true → PyData.depthAll ds + 1 ≤ n → Q' (.bl true) H →
      tSeq (tFor (iRng1 (tCons (tCB (fun xs H Q => ∃ p ys, xs = [.ref p] ∧ (SqL K H p ys ∨ SqT K H p ys) ∧ Q (.int ys.length) H) (tCons (tVar 1) tNil)) tNil)) (gName 2) (tIfS (tNot (tB (tCall (spAl K n) [] E0 (tCons (tOp (L2.rIx K) (tVar 0) (tVar 2)) (tCons (tOp (L2.rIx K) (tVar 1) (tVar 2)) tNil))))) (tRet (tC (.bl false))) tNext)) (tRet (tC (.bl true)))
        { nx := fun _ H' => Q' .non H', rt := Q' } [some a, some b, none] H := by
    intro a b pa pb va vb ds Q' ea eb hsa hsb haa hbb hlen hok hdep k
    subst ea
    subst eb
    have hl := dpAll_len hbb
    refine ⟨_, rfl, pb, vb, rfl, hsb, (vb.length : Int), rfl, by omega, by rw [hl]; omega, for_range (lo := 0) (n := (vb.length : Int).toNat) (fun i σ H' => H' = H ∧ ∃ v, σ = [some (.ref pa), some (.ref pb), v]) ⟨rfl, none, rfl⟩ ?_ ?_⟩
    · rintro i σ H' hi ⟨rfl, v, rfl⟩
      have hi2 : i < ds.length := by omega
      obtain ⟨u1, e1, d1⟩ := dpAll_at haa (List.getElem?_eq_getElem hi2)
      obtain ⟨u2, e2, d2⟩ := dpAll_at hbb (List.getElem?_eq_getElem hi2)
      refine ⟨_, rfl, _, rfl, rix_of hsa e1 ⟨_, rfl, _, rfl, rix_of hsb e2 ?_⟩⟩
      have hdi := PyData.depth_le_depthAll ds ds[i] (List.getElem_mem hi2)
      cases n with
      | zero => omega
      | succ m => exact ⟨u1, u2, ds[i], rfl, d1, d2, okAll_mem hok (List.getElem_mem hi2), by omega, true, rfl, iteF ⟨rfl, _, rfl⟩⟩
    · rintro σ H' ⟨rfl, v, rfl⟩
      exact k
  cases ha with
  | non => cases hb; exact ⟨_, rfl, rfl, _, rfl, iteT ⟨_, rfl, rfl, k⟩⟩
  | bl b0 =>
    cases hb
    exact ⟨_, rfl, rfl, _, rfl, iteF (t_isi rfl (.bl b0) kit_bool ⟨_, rfl, iteT (t_isi rfl (.bl b0) kit_bool ⟨_, rfl, iteT ⟨_, rfl, _, rfl, rfl, dec_self (Q := Q) k⟩⟩)⟩)⟩
  | int i0 =>
    cases hb
    exact ⟨_, rfl, rfl, _, rfl, iteF (t_isi rfl (.int i0) kit_bool ⟨_, rfl, iteF (t_isi rfl (.int i0) kit_int ⟨_, rfl, iteT (t_isi rfl (.int i0) kit_int ⟨_, rfl, iteT (t_isi rfl (.int i0) kit_bool ⟨_, rfl, _, rfl, iteT ⟨_, rfl, _, rfl, rfl, dec_self (Q := Q) k⟩⟩)⟩)⟩)⟩)⟩
  | str x0 =>
    cases hb
    exact ⟨_, rfl, rfl, _, rfl, iteF (t_isi rfl (.str x0) kit_bool ⟨_, rfl, iteF (t_isi rfl (.str x0) kit_int ⟨_, rfl, iteF (t_isi rfl (.str x0) kit_str ⟨_, rfl, iteT (t_isi rfl (.str x0) kit_str ⟨_, rfl, iteT ⟨_, rfl, _, rfl, rfl, dec_self (Q := Q) k⟩⟩)⟩)⟩)⟩)⟩
  | @tup pa va ds hs haa =>
    obtain ⟨pb, vb, rfl, hs2, hbb⟩ := dp_tup hb
    have hb' : Dp K H (.ref pb) (.tuple ds) := hb
    have ha' : Dp K H (.ref pa) (.tuple ds) := .tup hs haa
    have h0 := Bool.and_eq_true_iff.mp hok
    have eL : (!decide (V.int (va.length : Int) = V.int (vb.length : Int))) = false := by simp [dpAll_len haa, dpAll_len hbb]
    refine ⟨_, rfl, rfl, _, rfl, iteF (t_isi rfl hb' kit_bool ⟨_, rfl, iteF (t_isi rfl hb' kit_int ⟨_, rfl, iteF (t_isi rfl hb' kit_str ⟨_, rfl, iteF ?_⟩)⟩)⟩)⟩
    refine t_isi rfl hb' kit_tuple (t_isi rfl ha' kit_tuple ⟨rfl, _, rfl, iteF (t_isi rfl hb' kit_list (t_isi rfl ha' kit_list ⟨rfl, _, rfl, iteF ?_⟩))⟩)
    refine ⟨_, rfl, pa, va, rfl, .inr hs, _, rfl, pb, vb, rfl, .inr hs2, rfl, _, rfl, ?_⟩
    rw [eL]
    exact iteF (loop rfl rfl (.inr hs) (.inr hs2) haa hbb (of_decide_eq_true h0.1) h0.2 hdep k)
  | @lst pa va ds hs haa =>
    obtain ⟨pb, vb, rfl, hs2, hbb⟩ := dp_lst hb
    have hb' : Dp K H (.ref pb) (.list ds) := hb
    have ha' : Dp K H (.ref pa) (.list ds) := .lst hs haa
    have h0 := Bool.and_eq_true_iff.mp hok
    have eL : (!decide (V.int (va.length : Int) = V.int (vb.length : Int))) = false := by simp [dpAll_len haa, dpAll_len hbb]
    refine ⟨_, rfl, rfl, _, rfl, iteF (t_isi rfl hb' kit_bool ⟨_, rfl, iteF (t_isi rfl hb' kit_int ⟨_, rfl, iteF (t_isi rfl hb' kit_str ⟨_, rfl, iteF ?_⟩)⟩)⟩)⟩
    refine t_isi rfl hb' kit_tuple (t_isi rfl ha' kit_tuple ⟨rfl, _, rfl, iteF (t_isi rfl hb' kit_list (t_isi rfl ha' kit_list ⟨rfl, _, rfl, iteF ?_⟩))⟩)
    refine ⟨_, rfl, pa, va, rfl, .inl hs, _, rfl, pb, vb, rfl, .inl hs2, rfl, _, rfl, ?_⟩
    rw [eL]
    exact iteF (loop rfl rfl (.inl hs) (.inl hs2) haa hbb (of_decide_eq_true h0.1) h0.2 hdep k)
/-- .. for every depth -/
theorem ok_alike {f : Addr} {fd : FuncData} (F : Fun K "_law_alike" "_law_alike" s_alike f fd) (B : Blt mg) (bs : mg "str" = none) (m : mg "_law_alike" = some (.ref f)) (hb : Binds K fd ["_law_found", "_law_due"] []) : ∀ n, FnOk P w K mg base CX0 n f fd ["_law_found", "_law_due"] (spAl K n)
  | 0 => ⟨fun _ _ _ _ h => h.elim, fun _ _ _ _ _ _ _ _ _ _ _ _ _ h => h.elim⟩
  | n + 1 => ok_alike1 F B bs ⟨f, fd, ok_alike F B bs m hb n, m, F.kp, hb⟩
end
end GX
set_option maxHeartbeats 4000000
/-! a list comprehension whose items are data without lists; words that are numbers -/
namespace GX
open PySem PySem.Spec PyProof.Rows L2 LamX
section
variable {T : List (Addr × Str)} {H H1 H' : Hp} {K : PySem.W.Frag}
/-- a new list that is filled, beside it all stands -/
theorem XX.fillD (x : XX T H H') {D : Addr} {o : HO} {xs : List V} (hD : H D = none) (e : H' D = some (.lst xs)) : XX T H (upd H' D o) := by
  have x2 := (x.xm (S := fun c => c = D)).trans (XM.upd (o' := o) e rfl True.intro)
  refine (x2.drop (S0 := fun _ => False) fun b h _ => by rw [h]; exact hD).xx fun b ps h => ?_
  obtain ⟨ps', q⟩ := x.tbl b ps h
  have nb : b ≠ D := fun z => by rw [z, hD] at h; cases h
  exact ⟨ps', by rw [upd_ne nb]; exact q⟩
theorem dpAll_snoc : ∀ {vs : List V} {ds : List PyData} {v : V} {d : PyData}, DpAll K H vs ds → Dp K H v d → DpAll K H (vs ++ [v]) (ds ++ [d])
  | _, [], _, _, h, h2 => by cases h; exact .cons h2 .nil
  | _, d0 :: ds, _, _, h, h2 => by
    cases h with
    | cons h1 hr => exact .cons h1 (dpAll_snoc hr h2)
theorem wipe1 {σ : L2.St} {i : Nat} {v : Option V} : wipe ((wipe σ [i]).set i v) [i] = wipe σ [i] := by
  show ((σ.set i none).set i v).set i none = σ.set i none
  rw [List.set_set, List.set_set]
/-- [te for i in a list] of data without lists -/
theorem lc_dp {a D : Addr} {xs : List V} {i : Nat} {te : TE} {σ : L2.St} {Qd : Hp → Prop} (gd : Nat → PyData) (hD : H1 D = none) (hs : SqL K H1 a xs) (hz : xs.length < sizeLine) (fl : ∀ j, j < xs.length → flatD (gd j) = true)
    (step : ∀ j x H' (Qe : VK), xs[j]? = some x → XX T H1 H' → (∀ H'' v, XX T H' H'' → Dp K H'' v (gd j) → Qe v H'') → te ((wipe σ [i]).set i (some x)) H' Qe)
    (fin : ∀ H' acc, XX T H1 H' → H' D = some (.lst acc) → DpAll K H' acc ((List.range xs.length).map gd) → Qd H') :
    ∃ W : Nat → Nat → Hp → Prop, (∃ m, W 0 m (upd H1 D (.lst []))) ∧ ∀ j m H, W j m H →
      ((Itl K a).stop j H ∧ Qd H) ∨ ((Itl K a).go j H ∧ ∃ Nx : Hp → Prop, (∀ H', Nx H' → ∃ m', m' < m ∧ W (j + 1) m' H') ∧ ∀ x H', (Itl K a).yld j H x H' → gName i x (wipe σ [i]) H' fun σ2 H2 => wipe σ2 [i] = wipe σ [i] ∧ tYes σ2 H2 fun b H3 =>
        if b = true then te σ2 H3 fun y H4 => ∃ acc, H4 D = some (.lst acc) ∧ acc.length < sizeLine ∧ Nx (upd H4 D (.lst (acc ++ [y]))) else Nx H3) := by
  refine lc_list (xs := xs) (fun j H' => XX T H1 H' ∧ ∃ acc, H' D = some (.lst acc) ∧ acc.length = j ∧ DpAll K H' acc ((List.range j).map gd)) ⟨XX.new hD, [], upd_same, rfl, .nil⟩ (fun j H' _ pv => pv.1.sqL hs) (fun j x H' ex pv => ⟨wipe1, ?_⟩) (fun H' pv => ?_)
  · obtain ⟨x1, acc, e1, el, da⟩ := pv
    have hj := (List.getElem?_eq_some_iff.mp ex).1
    refine step j x H' _ ex x1 fun H'' v x2 dv => ⟨acc, x2.lst e1, by omega, (x1.trans x2).fillD hD (x2.lst e1), acc ++ [v], upd_same, by simp [el], ?_⟩
    have x3 : XM T (fun c => c = D) H'' (upd H'' D (.lst (acc ++ [v]))) := XM.upd (x2.lst e1) rfl True.intro
    have fa : ∀ d ∈ (List.range j).map gd, flatD d = true := fun d hd => by
      obtain ⟨m, hm, e⟩ := List.mem_map.mp hd
      rw [← e]
      exact fl m (Nat.lt_trans (List.mem_range.mp hm) hj)
    rw [List.range_succ, List.map_append]
    exact dpAll_snoc (dpAll_xm x3 fa (Dp.xxAll x2 _ _ da)) (Dp.xm x3 _ _ (fl j hj) dv)
  · obtain ⟨x1, acc, e1, _, da⟩ := pv
    exact fin H' acc x1 e1 da
end
/-! ### words that are numbers -/
def digW (w : Str) : Bool := (TL.tl w).all fun c => decide (48 ≤ c) && decide (c ≤ 57)
def okW (w : Str) : Bool := digW w && (decide (1 ≤ w.length) && decide (w.length ≤ 3))
def valW (w : Str) : Nat := NumText.digitsVal (TL.tl w)
/-- the number that a word tells -/
def numO (w : Str) : Option Nat := if okW w = true ∧ Str.ofString (toString ((valW w : Nat) : Int)) = w then some (valW w) else none
def numV : Option Nat → V
  | some n => .int (n : Int)
  | none => .non
def numD : Option Nat → PyData
  | some n => .int (n : Int)
  | none => .none
theorem num_dp {K : PySem.W.Frag} {H : Hp} (o : Option Nat) : Dp K H (numV o) (numD o) := by
  cases o with
  | none => exact .non
  | some n => exact .int _
theorem num_fl (o : Option Nat) : flatD (numD o) = true := by cases o <;> rfl
theorem digit128 : ∀ c, c < 128 → Unicode.isDigit c = (decide (48 ≤ c) && decide (c ≤ 57)) := by decide +kernel
theorem digW_all {w : Str} : (Txt.isascii w && Txt.isdigit w) = (digW w && decide (1 ≤ w.length)) := by
  unfold Txt.isascii Txt.isdigit digW
  have key : ∀ l : List Nat, (l.all (fun c => decide (c < 128)) && l.all Unicode.isDigit) = l.all fun c => decide (48 ≤ c) && decide (c ≤ 57) := by
    intro l
    rw [Bool.eq_iff_iff, Bool.and_eq_true, List.all_eq_true, List.all_eq_true, List.all_eq_true]
    constructor
    · rintro ⟨h1, h2⟩ c hc
      have q1 := of_decide_eq_true (h1 c hc)
      have q2 := h2 c hc
      rw [digit128 c q1] at q2
      exact q2
    · intro h
      refine ⟨fun c hc => ?_, fun c hc => ?_⟩
      · have q := h c hc
        rw [Bool.and_eq_true, decide_eq_true_eq, decide_eq_true_eq] at q
        exact decide_eq_true (by omega)
      · have q := h c hc
        have q' := q
        rw [Bool.and_eq_true, decide_eq_true_eq, decide_eq_true_eq] at q'
        rw [digit128 c (by omega)]
        exact q
  have e1 : w.cps.all (fun x => decide (x < 128)) = (TL.tl w).all fun c => decide (c < 128) := by rw [← Array.all_toList]
  have e2 : w.cps.all Unicode.isDigit = (TL.tl w).all Unicode.isDigit := by rw [← Array.all_toList]
  rw [e1, e2]
  rw [← key]
  cases (TL.tl w).all (fun c => decide (c < 128)) <;> cases (TL.tl w).all Unicode.isDigit <;> simp
  omega
theorem okW_int {w : Str} (h : okW w = true) : intText? w = some ((valW w : Nat) : Int) := by
  unfold okW at h
  obtain ⟨h1, h⟩ := Bool.and_eq_true_iff.mp h
  obtain ⟨h2, h3⟩ := Bool.and_eq_true_iff.mp h
  have h2 := of_decide_eq_true h2
  have h3 := of_decide_eq_true h3
  refine intText_digits (x := w) (fun c hc => ?_) (fun e => ?_) (by omega)
  · have z := List.all_eq_true.mp h1 c hc
    rw [Bool.and_eq_true, decide_eq_true_eq, decide_eq_true_eq] at z
    exact z
  · rw [TL.len_tl, TL.tl, e] at h2
    simp at h2
theorem digits_lt : ∀ l : List Nat, (∀ c ∈ l, c ≤ 57) → NumText.digitsVal l < 10 ^ l.length := by
  intro l h
  unfold NumText.digitsVal
  have key : ∀ (l : List Nat) (a k : Nat), (∀ c ∈ l, c ≤ 57) → a < 10 ^ k → l.foldl (fun acc c => acc * 10 + (c - 48)) a < 10 ^ (k + l.length) := by
    intro l
    induction l with
    | nil => intro a k _ ha; simpa using ha
    | cons c l ih =>
      intro a k hl ha
      rw [List.foldl_cons, List.length_cons, show k + (l.length + 1) = (k + 1) + l.length by omega]
      refine ih _ _ (fun d hd => hl d (List.mem_cons_of_mem _ hd)) ?_
      have := hl c List.mem_cons_self
      rw [Nat.pow_succ]
      omega
  have := key l 0 0 h (by decide)
  simpa using this
theorem valW_lt {w : Str} (h : okW w = true) : valW w < 1000 := by
  unfold okW at h
  obtain ⟨h1, h⟩ := Bool.and_eq_true_iff.mp h
  obtain ⟨h2, h3⟩ := Bool.and_eq_true_iff.mp h
  have h3 := of_decide_eq_true h3
  rw [TL.len_tl] at h3
  have q := digits_lt (TL.tl w) fun c hc => by
    have z := List.all_eq_true.mp h1 c hc
    rw [Bool.and_eq_true, decide_eq_true_eq, decide_eq_true_eq] at z
    exact z.2
  exact Nat.lt_of_lt_of_le q (Nat.pow_le_pow_right (by decide) h3)
end GX
/-! expressions that make data, read at once -/
namespace GX
open PySem PySem.Spec PyProof.Rows L2 LamX
section
variable {K : PySem.W.Frag} {T : List (Addr × Str)} {σ : L2.St} {H : Hp} {Q : VK}
def DT (K : PySem.W.Frag) (T : List (Addr × Str)) (te : TE) (d : PyData) (σ : L2.St) (H : Hp) : Prop := ∀ H1, XX T H H1 → ∀ Q : VK, (∀ H' v, XX T H1 H' → Dp K H' v d → Q v H') → te σ H1 Q
def DTL (K : PySem.W.Frag) (T : List (Addr × Str)) (te : TE) (ds : List PyData) (σ : L2.St) (H : Hp) : Prop := ∀ H1, XX T H H1 → ∀ Q : VK, (∀ H' a xs, XX T H1 H' → H' a = some (.lst xs) → DpAll K H' xs ds → Q (.ref a) H') → te σ H1 Q
def DTN (K : PySem.W.Frag) (T : List (Addr × Str)) (te : TE) (ds : List PyData) (σ : L2.St) (H : Hp) : Prop := ∀ H1, XX T H H1 → ∀ Q : VK, (∀ H' a xs, XX T H1 H' → H1 a = none → H' a = some (.lst xs) → DpAll K H' xs ds → Q (.ref a) H') → te σ H1 Q
def DTA (K : PySem.W.Frag) (T : List (Addr × Str)) (ta : TA) (ds : List PyData) (σ : L2.St) (H : Hp) : Prop := ∀ H1, XX T H H1 → ∀ Q : List V → Hp → Prop, (∀ H' vs, XX T H1 H' → DpAll K H' vs ds → Q vs H') → ta σ H1 Q
theorem DTN.l {te : TE} {ds : List PyData} (h : DTN K T te ds σ H) : DTL K T te ds σ H := fun H1 x Q k => h H1 x Q fun H' a xs x' _ e d => k H' a xs x' e d
theorem DTL.d {te : TE} {ds : List PyData} (h : DTL K T te ds σ H) : DT K T te (.list ds) σ H := fun H1 x Q k => h H1 x Q fun H' a xs x' e d => k H' _ x' (.lst (SqL.of e) d)
theorem DT.run {te : TE} {d : PyData} (h : DT K T te d σ H) (k : ∀ H' v, XX T H H' → Dp K H' v d → Q v H') : te σ H Q := h H (XX.refl H) Q k
theorem DTN.run {te : TE} {ds : List PyData} (h : DTN K T te ds σ H) (k : ∀ H' a xs, XX T H H' → H a = none → H' a = some (.lst xs) → DpAll K H' xs ds → Q (.ref a) H') : te σ H Q := h H (XX.refl H) Q k
theorem dt_int (i : Int) : DT K T (tC (.int i)) (.int i) σ H := fun H1 _ Q k => k H1 _ (XX.refl _) (.int i)
theorem dt_str (x : Str) : DT K T (tC (.str x)) (.str x) σ H := fun H1 _ Q k => k H1 _ (XX.refl _) (.str x)
theorem dt_bl (b : Bool) : DT K T (tC (.bl b)) (.bool b) σ H := fun H1 _ Q k => k H1 _ (XX.refl _) (.bl b)
theorem dt_non : DT K T (tC .non) .none σ H := fun H1 _ Q k => k H1 _ (XX.refl _) .non
theorem dt_neg (i : Int) : DT K T (tUn (rU fun i => .int (-i)) (tC (.int i))) (.int (-i)) σ H := fun H1 _ Q k => ⟨i, rfl, k H1 _ (XX.refl _) (.int _)⟩
theorem dt_var {i : Nat} {v : V} {d : PyData} (e : σ[i]? = some (some v)) (h : Dp K H v d) : DT K T (tVar i) d σ H := fun H1 x Q k => ⟨v, e, k H1 _ (XX.refl _) (Dp.xx x _ _ h)⟩
theorem dtl_var {i : Nat} {a : Addr} {xs : List V} {ds : List PyData} (e : σ[i]? = some (some (.ref a))) (h : H a = some (.lst xs)) (hd : DpAll K H xs ds) : DTL K T (tVar i) ds σ H := fun H1 x Q k => ⟨_, e, k H1 _ _ (XX.refl _) (x.lst h) (Dp.xxAll x _ _ hd)⟩
theorem dt_add {a b : TE} {i j : Int} (h1 : DT K T a (.int i) σ H) (h2 : DT K T b (.int j) σ H) : DT K T (tOp (rI0 fun i j => .int (i + j)) a b) (.int (i + j)) σ H := fun H1 x Q k =>
  h1 H1 x _ fun H2 v x2 dv => h2 H2 (x.trans x2) _ fun H3 u x3 du => ⟨i, j, dp_int dv, dp_int du, k H3 _ (x2.trans x3) (.int _)⟩
theorem dt_sub {a b : TE} {i j : Int} (h1 : DT K T a (.int i) σ H) (h2 : DT K T b (.int j) σ H) : DT K T (tOp (rI0 fun i j => .int (i - j)) a b) (.int (i - j)) σ H := fun H1 x Q k =>
  h1 H1 x _ fun H2 v x2 dv => h2 H2 (x.trans x2) _ fun H3 u x3 du => ⟨i, j, dp_int dv, dp_int du, k H3 _ (x2.trans x3) (.int _)⟩
theorem dt_mod {a b : TE} {i j : Int} (h1 : DT K T a (.int i) σ H) (h2 : DT K T b (.int j) σ H) (h : 0 < j) : DT K T (tOp (rI (fun _ j => 0 < j) fun i j => .int (i % j)) a b) (.int (i % j)) σ H := fun H1 x Q k =>
  h1 H1 x _ fun H2 v x2 dv => h2 H2 (x.trans x2) _ fun H3 u x3 du => ⟨i, j, dp_int dv, dp_int du, h, k H3 _ (x2.trans x3) (.int _)⟩
theorem dt_pow (i j : Int) (h : CPow i j) : DT K T (tOp (rI CPow fun i j => .int (i ^ j.toNat)) (tC (.int i)) (tC (.int j))) (.int (i ^ j.toNat)) σ H := fun H1 _ Q k => ⟨i, j, rfl, rfl, h, k H1 _ (XX.refl _) (.int _)⟩
theorem dta_nil : DTA K T tNil [] σ H := fun H1 _ Q k => k H1 _ (XX.refl _) .nil
theorem dta_cons {a : TE} {b : TA} {d : PyData} {ds : List PyData} (h1 : DT K T a d σ H) (h2 : DTA K T b ds σ H) : DTA K T (tCons a b) (d :: ds) σ H := fun H1 x Q k =>
  h1 H1 x _ fun H2 v x2 dv => h2 H2 (x.trans x2) _ fun H3 us x3 du => k H3 _ (x2.trans x3) (.cons (Dp.xx x3 _ _ dv) du)
theorem dt_tup {t : TA} {ds : List PyData} (h : DTA K T t ds σ H) (hl : ds.length ≤ 1000) : DT K T (tTup t) (.tuple ds) σ H := fun H1 x Q k =>
  h H1 x _ fun H2 vs x2 dv => ⟨by rw [dpAll_len dv]; exact Nat.le_trans hl (by decide), fun p hp => k _ _ (x2.then_new hp) (.tup (SqT.of upd_same) (Dp.xxAll (XX.new (T := T) hp) _ _ dv))⟩
theorem dtn_lst {t : TA} {ds : List PyData} (h : DTA K T t ds σ H) (hl : ds.length ≤ 1000) : DTN K T (tLst t) ds σ H := fun H1 x Q k =>
  h H1 x _ fun H2 vs x2 dv => ⟨by rw [dpAll_len dv]; exact Nat.le_trans hl (by decide), fun p hp => k _ _ _ (x2.then_new hp) (x2.free hp) upd_same (Dp.xxAll (XX.new (T := T) hp) _ _ dv)⟩
theorem dtn_cat {a b : TE} {ds es : List PyData} (h1 : DTL K T a ds σ H) (h2 : DTL K T b es σ H) (hl : ds.length + es.length ≤ 1000) : DTN K T (tOp rCat a b) (ds ++ es) σ H := fun H1 x Q k =>
  h1 H1 x _ fun H2 p xs x2 e2 d2 => h2 H2 (x.trans x2) _ fun H3 q ys x3 e3 d3 => ⟨p, q, xs, ys, rfl, rfl, x3.lst e2, e3, by rw [dpAll_len d2, dpAll_len d3]; exact Nat.le_trans hl (by decide),
    fun r hr => k _ _ _ ((x2.trans x3).then_new hr) ((x2.trans x3).free hr) upd_same (dpAll_app (Dp.xxAll (XX.new (T := T) hr) _ _ (Dp.xxAll x3 _ _ d2)) (Dp.xxAll (XX.new (T := T) hr) _ _ d3))⟩
theorem dpAll_repL {vs : List V} {ds : List PyData} (h : DpAll K H vs ds) : ∀ n : Nat, DpAll K H (List.replicate n vs).flatten (List.replicate n ds).flatten
  | 0 => .nil
  | n + 1 => by
    rw [List.replicate_succ, List.replicate_succ, List.flatten_cons, List.flatten_cons]
    exact dpAll_app h (dpAll_repL h n)
theorem dtn_rep {a b : TE} {ds : List PyData} {k : Int} (h1 : DTL K T a ds σ H) (h2 : DT K T b (.int k) σ H) (h0 : 0 ≤ k) (hl : k ≤ 1000) (h3 : ds.length ≤ 1) : DTN K T (tOp rRep a b) (List.replicate k.toNat ds).flatten σ H := fun H1 x Q kk =>
  h1 H1 x _ fun H2 p xs x2 e2 d2 => h2 H2 (x.trans x2) _ fun H3 u x3 du => ⟨p, k, xs, rfl, dp_int du, x3.lst e2, by omega, by omega, by
      rw [dpAll_len d2]
      have : ds.length * k.toNat ≤ 1 * 1000 := Nat.mul_le_mul h3 (by omega)
      exact Nat.le_trans this (by decide),
    fun r hr => kk _ _ _ ((x2.trans x3).then_new hr) ((x2.trans x3).free hr) upd_same (dpAll_repL (Dp.xxAll (XX.new (T := T) hr) _ _ (Dp.xxAll x3 _ _ d2)) _)⟩
theorem dt_repT {a : TE} {ds : List PyData} {k : Int} (h1 : DT K T a (.tuple ds) σ H) (h0 : 2 ≤ k) (hk : k ≤ 1000) (h2 : ds ≠ []) (h3 : ds.length ≤ 1000) : DT K T (tOp (rRepT K) a (tC (.int k))) (.tuple (List.replicate k.toNat ds).flatten) σ H := fun H1 x Q kk =>
  h1 H1 x _ fun H2 v x2 dv => by
    obtain ⟨p, xs, rfl, hs, hd⟩ := dp_tup dv
    refine ⟨p, k, xs, rfl, rfl, hs, fun z => ?_, h0, hk, by rw [dpAll_len hd]; exact h3, fun r hr => kk _ _ (x2.then_new hr) (.tup (SqT.of upd_same) (dpAll_repL (Dp.xxAll (XX.new (T := T) hr) _ _ hd) _))⟩
    rw [z] at hd
    cases hd
    exact h2 rfl
theorem dt_catT {a b : TE} {ds es : List PyData} (h1 : DT K T a (.tuple ds) σ H) (h2 : DT K T b (.tuple es) σ H) (hl : ds.length + es.length ≤ 1000) : DT K T (tOp (rCatA K) a b) (.tuple (ds ++ es)) σ H := fun H1 x Q k =>
  h1 H1 x _ fun H2 v x2 dv => h2 H2 (x.trans x2) _ fun H3 u x3 du => by
    obtain ⟨p, xs, rfl, hs, hd⟩ := dp_tup dv
    obtain ⟨q, ys, rfl, hs2, hd2⟩ := dp_tup du
    exact cat_any (T := T) (x3.sqT hs) hs2 (by rw [dpAll_len hd, dpAll_len hd2]; exact hl) fun H4 r x4 q4 => k H4 _ ((x2.trans x3).trans x4) (.tup q4 (dpAll_app (Dp.xxAll x4 _ _ (Dp.xxAll x3 _ _ hd)) (Dp.xxAll x4 _ _ hd2)))
theorem dpAll_take : ∀ {vs : List V} {ds : List PyData} (n : Nat), DpAll K H vs ds → DpAll K H (vs.take n) (ds.take n)
  | _, [], n, h => by cases h; simp; exact .nil
  | _, d :: ds, 0, h => by simp; exact .nil
  | _, d :: ds, n + 1, h => by
    cases h with
    | cons h1 h2 => exact .cons h1 (dpAll_take n h2)
theorem dpAll_drop : ∀ {vs : List V} {ds : List PyData} (n : Nat), DpAll K H vs ds → DpAll K H (vs.drop n) (ds.drop n)
  | _, _, 0, h => h
  | _, [], n + 1, h => by cases h; exact .nil
  | _, d :: ds, n + 1, h => by
    cases h with
    | cons h1 h2 => exact dpAll_drop n h2
theorem dt_slHi {a b : TE} {ds : List PyData} {i : Int} (n : Nat) (h1 : DT K T a (.tuple ds) σ H) (h2 : DT K T b (.int i) σ H) (e : i = (n : Int)) (hi : n ≤ ds.length) : DT K T (tSl (rSlA K) a tNoPart (tPart b)) (.tuple (ds.take n)) σ H := fun H1 x Q k =>
  h1 H1 x _ fun H2 v x2 dv => h2 H2 (x.trans x2) _ fun H3 u x3 du => by
    obtain ⟨p, xs, rfl, hs, hd⟩ := dp_tup dv
    refine ⟨i, dp_int du, ?_⟩
    subst e
    refine sl_any (T := T) (x3.sqT hs) fun H4 r x4 q4 => k H4 _ ((x2.trans x3).trans x4) (.tup q4 ?_)
    rw [cut_lo xs n (by rw [dpAll_len hd]; exact hi)]
    exact dpAll_take n (Dp.xxAll x4 _ _ (Dp.xxAll x3 _ _ hd))
theorem dt_slLo {a b : TE} {ds : List PyData} {i : Int} (n : Nat) (h1 : DT K T a (.tuple ds) σ H) (h2 : DT K T b (.int i) σ H) (e : i = (n : Int)) (hi : n ≤ ds.length) : DT K T (tSl (rSlA K) a (tPart b) tNoPart) (.tuple (ds.drop n)) σ H := fun H1 x Q k =>
  h1 H1 x _ fun H2 v x2 dv => h2 H2 (x.trans x2) _ fun H3 u x3 du => by
    obtain ⟨p, xs, rfl, hs, hd⟩ := dp_tup dv
    refine ⟨i, dp_int du, ?_⟩
    subst e
    refine sl_any (T := T) (x3.sqT hs) fun H4 r x4 q4 => k H4 _ ((x2.trans x3).trans x4) (.tup q4 ?_)
    rw [cut_hi xs n (by rw [dpAll_len hd]; exact hi)]
    exact dpAll_drop n (Dp.xxAll x4 _ _ (Dp.xxAll x3 _ _ hd))
theorem dt_ixL {a b : TE} {ds : List PyData} {i : Int} {d : PyData} (n : Nat) (h1 : DT K T a (.list ds) σ H) (h2 : DT K T b (.int i) σ H) (e : i = (n : Int)) (hi : ds[n]? = some d) : DT K T (tOp (rIxL K) a b) d σ H := fun H1 x Q k =>
  h1 H1 x _ fun H2 v x2 dv => h2 H2 (x.trans x2) _ fun H3 u x3 du => by
    obtain ⟨p, xs, rfl, hs, hd⟩ := dp_lst dv
    obtain ⟨w, ew, dw⟩ := dpAll_at hd hi
    subst e
    exact ⟨p, xs, _, w, rfl, dp_int du, x3.sqL hs, atI_nat ew, k H3 _ (x2.trans x3) (Dp.xx x3 _ _ dw)⟩
theorem dt_ixT {a b : TE} {ds : List PyData} {i : Int} {d : PyData} (n : Nat) (h1 : DT K T a (.tuple ds) σ H) (h2 : DT K T b (.int i) σ H) (e : i = (n : Int)) (hi : ds[n]? = some d) : DT K T (tOp (rIxT K) a b) d σ H := fun H1 x Q k =>
  h1 H1 x _ fun H2 v x2 dv => h2 H2 (x.trans x2) _ fun H3 u x3 du => by
    obtain ⟨p, xs, rfl, hs, hd⟩ := dp_tup dv
    obtain ⟨w, ew, dw⟩ := dpAll_at hd hi
    subst e
    exact ⟨p, xs, _, w, rfl, dp_int du, x3.sqT hs, atI_nat ew, k H3 _ (x2.trans x3) (Dp.xx x3 _ _ dw)⟩
theorem DTA.run {ta : TA} {ds : List PyData} {Q : List V → Hp → Prop} (h : DTA K T ta ds σ H) (k : ∀ H' vs, XX T H H' → DpAll K H' vs ds → Q vs H') : ta σ H Q := h H (XX.refl H) Q k
theorem set_dt {te : TE} {i : Nat} {rest : TS} {D : Ends} {d : PyData} (h : DT K T te d σ H) (k : ∀ H' v, XX T H H' → Dp K H' v d → rest D (σ.set i (some v)) H') : tSeq (tAsg te (gName i)) rest D σ H := h H (XX.refl H) _ k
theorem set_dtn {te : TE} {i : Nat} {rest : TS} {D : Ends} {ds : List PyData} (h : DTN K T te ds σ H) (k : ∀ H' a xs, XX T H H' → H a = none → H' a = some (.lst xs) → DpAll K H' xs ds → rest D (σ.set i (some (.ref a))) H') : tSeq (tAsg te (gName i)) rest D σ H := h H (XX.refl H) _ k
theorem ret_dt {te : TE} {D : Ends} {d : PyData} (h : DT K T te d σ H) (k : ∀ H' v, XX T H H' → Dp K H' v d → D.rt v H') : tRet te D σ H := h H (XX.refl H) _ k
theorem dpAll_app1 (T : List (Addr × Str)) {D : Addr} {xs : List V} {ds : List PyData} {v : V} {d : PyData} (h : H D = some (.lst xs)) (h1 : DpAll K H xs ds) (h2 : Dp K H v d) (f1 : ∀ e ∈ ds, flatD e = true) (f2 : flatD d = true) : DpAll K (upd H D (.lst (xs ++ [v]))) (xs ++ [v]) (ds ++ [d]) := by
  have m : XM T (fun c => c = D) H (upd H D (.lst (xs ++ [v]))) := XM.upd h rfl True.intro
  exact dpAll_app (dpAll_xm m f1 h1) (.cons (Dp.xm m _ _ f2 h2) .nil)
end
end GX
/-! d[y], y a tuple wherever it stands -/
namespace GX
open PySem PySem.Spec PyProof.Rows L2 LamX
def tDGetT (K : PySem.W.Frag) (td ty : TE) : TE := fun σ H Q => td σ H fun x H1 => ty σ H1 fun y H2 => ∃ (a b : Addr) (kvs : List (List L2.Key × V)) (k : List L2.Key) (v : V), x = .ref a ∧ y = .ref b ∧ Rd H2 a (.dT kvs) ∧ SqT K H2 b (k.map kV) ∧ valV kvs k = some v ∧ Q v H2
section
variable {X : Cx} {o i : Expr} {pos : Pos} {td ty : TE}
theorem pe_dgetT (hu : X.A.units + 1 < cLine) (ho : PE X o td) (hi : PE X i ty) (hs : NoSl i) : PE X (.Subscript o i pos) (tDGetT X.K td ty) := by
  refine ⟨fun pins s σ H Q I h => ?_⟩
  refine subD_of PySem.F.slot_dict_getitem.lookup hs (thn (ho.run pins s σ H _ I h) fun u s1 ⟨x, H1, I1, rx, q1⟩ => thn (hi.run pins s1 σ H1 _ I1 q1) fun iv s2 ⟨y, H2, I2, ry, a, b, kvs, k, v, ex, ey, g, hb, hv, q2⟩ => ?_)
  subst ex
  subst ey
  obtain rfl : u = Value.ref a := rx
  obtain rfl : iv = Value.ref b := ry
  obtain ⟨z, hd, xs, rel, dd⟩ := dt_rd I2.hok g
  obtain ⟨w', hw, rw'⟩ := RelO.some_of (v := v) (o := (atKey xs k).map (·.2)) (by rw [← hv]; exact rel.val k)
  obtain ⟨p, hp, hp2⟩ := Option.map_eq_some_iff.mp hw
  obtain ⟨its, r, ⟨ob, h1, h2, n, h3⟩, _⟩ := I2.tuple hb
  refine ⟨dd.typeIs, wpAny_getItem_heap (tupleKind_room_in1 (by exact hu)) ⟨ob, its.toArray, n, h1, h2, h3, by simpa using items_are r⟩ dd hp ?_⟩
  rw [hp2]
  exact ⟨v, H2, I2.tok _, rw', q2⟩
end
end GX
set_option maxHeartbeats 8000000
/-! names and values as the laws compare them; a dict that was locked -/
namespace GX
open PySem PySem.Spec PyProof.Rows L2 LamX
theorem okAll_off : ∀ {ds : List PyData}, (∀ d ∈ ds, okD d = true) → okAll ds = true
  | [], _ => rfl
  | d :: ds, h => by
    show (okD d && okAll ds) = true
    rw [h d List.mem_cons_self, okAll_off fun x hx => h x (List.mem_cons_of_mem _ hx)]; rfl
theorem okD_names {nms : List Nm} (h : nms.length ≤ 1000) : okD (.list (nms.map nmD)) = true ∧ PyData.depth (.list (nms.map nmD)) ≤ 4 := by
  constructor
  · show (decide ((nms.map nmD).length ≤ 1000) && okAll (nms.map nmD)) = true
    rw [List.length_map, decide_eq_true h, Bool.true_and]
    exact okAll_off fun d hd => by
      obtain ⟨n, _, e⟩ := List.mem_map.mp hd
      rw [← e]; rfl
  · have h2 : PyData.depthAll (nms.map nmD) ≤ 1 := depthAll_of fun d hd => by
      obtain ⟨n, _, e⟩ := List.mem_map.mp hd
      rw [← e]; exact Nat.le_refl 1
    show PyData.depthAll (nms.map nmD) + 1 ≤ 4
    omega
theorem okD_nats {l : List Nat} (h : l.length ≤ 1000) : okD (natsD l) = true ∧ PyData.depth (natsD l) ≤ 4 := by
  constructor
  · show (decide ((intsD l).length ≤ 1000) && okAll (intsD l)) = true
    have hl : (intsD l).length = l.length := List.length_map ..
    rw [hl, decide_eq_true h, Bool.true_and]
    exact okAll_off fun d hd => by
      obtain ⟨n, _, e⟩ := List.mem_map.mp hd
      rw [← e]; rfl
  · have h2 : PyData.depthAll (intsD l) ≤ 0 := depthAll_of fun d hd => by
      obtain ⟨n, _, e⟩ := List.mem_map.mp hd
      rw [← e]; exact Nat.le_refl 0
    show PyData.depthAll (intsD l) + 1 ≤ 4
    omega
section
variable {sh : List Page} {R : List Row1} {D : List Ent}
theorem cellsAt_len (hok : ∀ pg ∈ sh, pg.Ok) (p : Pl) : (cellsAt sh p).length ≤ 24 := by
  unfold cellsAt
  cases e : sh[p.1]? with
  | none => exact Nat.zero_le _
  | some pg =>
    show (((pg.slots[p.2]?).map pg.cellsOf).getD []).length ≤ 24
    cases e2 : pg.slots[p.2]? with
    | none => exact Nat.zero_le _
    | some s =>
      cases s with
      | free t => exact Nat.zero_le _
      | held o t b n nx =>
        show ((pg.cells.drop b).take n).length ≤ 24
        have := (hok pg (List.mem_of_getElem? e)).nc
        rw [List.length_take, List.length_drop]
        omega
theorem Kn.vlen (k : Kn sh R D) {e : Ent} (he : e ∈ D) : e.2.1.length ≤ 288 := by
  obtain ⟨r, hr, _, e2⟩ := k.of e he
  have h1 : (places r).length ≤ 12 := by
    have n1 : ((places r).map fun p => ((p.1, 0) : Pl)).Nodup := by
      have := k.up r hr
      rw [List.nodup_iff_pairwise_ne, List.pairwise_map] at this ⊢
      exact this.imp fun h z => h (by have := congrArg (fun y : Pl => y.1) z; exact this)
    have n2 := nodup_len (m := (List.range sh.length).map fun i => ((i, 0) : Pl)) n1 fun x hx => by
      obtain ⟨p, hp, e⟩ := List.mem_map.mp hx
      have hs : ∃ s, slotAt sh p = some s := by
        rcases List.mem_cons.mp hp with z | z
        · obtain ⟨_, _, _, _, q⟩ := k.rows.own r hr; rw [z]; exact ⟨_, q⟩
        · obtain ⟨_, _, _, _, q⟩ := k.rows.part r hr p z; exact ⟨_, q⟩
      rw [← e]
      exact List.mem_map.mpr ⟨p.1, List.mem_range.mpr ((slotAt_iff k.rows.ok).mp hs).1, rfl⟩
    rw [List.length_map, List.length_map, List.length_range] at n2
    have := k.rows.le
    omega
  have h2 := length_flatMap_le (cellsAt sh) 24 (places r) fun p _ => cellsAt_len k.rows.ok p
  rw [e2]
  unfold valsOf
  omega
end
section
variable {T : List (Addr × Str)} {H H' : Hp} {K : PySem.W.Frag}
/-- a dict that was locked is there again as it was -/
theorem unlockD {r : Addr} {kvs : List (List L2.Key × V)} {od : Obj} (h : H r = some (.dT kvs)) (x : XM T (fun _ => False) (upd H r (.frz od (.dT kvs))) H') : XM T (fun _ => False) H (upd H' r (.dT kvs)) := by
  have nr : ∀ {b o}, H b = some o → (∀ z, o ≠ .dT z) → b ≠ r := fun {b o} e n z => by rw [z, h] at e; cases e; exact n _ rfl
  have into : XM T (fun c => c = r) H (upd H r (.frz od (.dT kvs))) := XM.upd h rfl True.intro
  have back : H' r = some (.frz od (.dT kvs)) := x.frz _ _ _ upd_same
  refine ⟨fun b o e n t => ?_, fun b o e => ?_, fun b xs e => ?_, fun b o u e => ?_, fun p q => ?_, fun q p hp => ?_⟩
  · by_cases hb : b = r
    · rw [hb] at e ⊢
      rw [h] at e
      rw [upd_same]; exact e
    · rw [upd_ne hb]
      exact x.keep b o (by rw [upd_ne hb]; exact e) id t
  · by_cases hb : b = r
    · exact ⟨_, by rw [hb]; exact upd_same⟩
    · obtain ⟨o', e'⟩ := x.there b o (by rw [upd_ne hb]; exact e)
      exact ⟨o', by rw [upd_ne hb]; exact e'⟩
  · have hb := nr e fun z y => by cases y
    rw [upd_ne hb]
    exact x.tup b xs (by rw [upd_ne hb]; exact e)
  · have hb := nr e fun z y => by cases y
    rw [upd_ne hb]
    exact x.frz b o u (by rw [upd_ne hb]; exact e)
  · obtain ⟨ps, h1, h2⟩ := x.tabG p (into.tabG p q)
    exact ⟨ps, by rw [upd_ne (fun z => by rw [z, back] at h1; cases h1)]; exact h1, h2⟩
  · obtain ⟨ps, h1, h2, h3⟩ := x.tabs (into.tabs q) p hp
    refine ⟨ps, by rw [upd_ne (fun z => by rw [z, back] at h1; cases h1)]; exact h1, h2, fun pos cv hc => ?_⟩
    obtain ⟨c, e1, e2⟩ := h3 pos cv hc
    exact ⟨c, e1, by rw [upd_ne (fun z => by rw [z, back] at e2; unfold CodeO at e2; cases e2)]; exact e2⟩
end
end GX
/-! law_k10: _law_step -/
namespace GX
open PySem PySem.Spec PyProof.Rows L2 LamX
/-- what a walk has told -/
structure WkS where
  last : Option Pl
  over : Bool
  told : List Nm
def lastI : Option Pl → Int × Int
  | none => (-1, -1)
  | some p => ((p.1 : Int), (p.2 : Int))
def gtL (last : Option Pl) (nm : Nm) : Bool := gtI nm.1.1 nm.1.2 (lastI last).1 (lastI last).2
def nxtL (sh : List Page) (last : Option Pl) : Option Nm := (namesOf sh).find? (gtL last)
def stp (sh : List Page) (s : WkS) : WkS := if s.over = true then s else match nxtL sh s.last with
  | none => ⟨s.last, true, s.told⟩
  | some nm => ⟨some nm.1, false, s.told ++ [nm]⟩
theorem gtL_none (nm : Nm) : gtL none nm = true := by
  unfold gtL gtI lastI
  dsimp only
  rw [if_neg (by omega), decide_eq_true (by omega)]
theorem due_head {sh : List Page} {last : Option Pl} : ((namesOf sh).filter (gtL last)).head? = nxtL sh last := List.head?_filter ..
def LastAt (K : PySem.W.Frag) (H : Hp) (lv : V) : Option Pl → Prop
  | none => lv = .non
  | some p => ∃ lt, lv = .ref lt ∧ SqT K H lt [.int (p.1 : Int), .int (p.2 : Int)]
theorem LastAt.xm {K : PySem.W.Frag} {T : List (Addr × Str)} {S : Addr → Prop} {H H' : Hp} {lv : V} {o : Option Pl} (a : LastAt K H lv o) (x : XM T S H H') : LastAt K H' lv o := by
  cases o with
  | none => exact a
  | some p => obtain ⟨lt, e, h⟩ := a; exact ⟨lt, e, x.sqT h⟩
def wD (lv : V) (ov : Bool) (td : Addr) : List (Key × V) := [(.inr "last", lv), (.inr "over", .bl ov), (.inr "told", .ref td)]
structure WkAt (K : PySem.W.Frag) (CW : Addr) (H : Hp) (y yx q wd td : Addr) (s : WkS) : Prop where
  ex : ∃ pt lv tds, H y = some (.ins CW yx (wF q pt s.over)) ∧ SqT K H pt [.int (lastI s.last).1, .int (lastI s.last).2] ∧ H wd = some (.dK (wD lv s.over td)) ∧ LastAt K H lv s.last ∧ H td = some (.lst tds) ∧ DpAll K H tds (s.told.map nmD)
theorem WkAt.xm {K : PySem.W.Frag} {T : List (Addr × Str)} {CW : Addr} {S : Addr → Prop} {H H' : Hp} {y yx q wd td : Addr} {s : WkS} (a : WkAt K CW H y yx q wd td s) (x : XM T S H H') (n1 : ¬ S y) (n2 : ¬ S wd) (n3 : ¬ S td) : WkAt K CW H' y yx q wd td s := by
  obtain ⟨pt, lv, tds, h1, h2, h3, h4, h5, h6⟩ := a.ex
  exact ⟨pt, lv, tds, x.ins h1 n1, x.sqT h2, x.dk h3 n2, h4.xm x, x.lst h5 n3, dpAll_xm x (fun d hd => by obtain ⟨n, _, rfl⟩ := List.mem_map.mp hd; rfl) h6⟩
def rIsN10 : R2 := fun x y H Q => y = .non ∧ Q (.bl (decide (x = .non))) H
theorem op_isN10 {X : Cx} : OpR X (compareOp .Is) rIsN10 := op_isN
def spLStep10 (K : PySem.W.Frag) (T : List (Addr × Str)) (C CS CW : Addr) : Sp := fun vs H Q _ => ∃ b l q p sl r sh R D y yx wd td s, vs = [.ref y, .ref wd, .ref r] ∧ Sta K C CS b l q p sl r sh D H ∧ Kn sh R D ∧ D.length ≤ 95 ∧ WkAt K CW H y yx q wd td s ∧ s.told.length < 1000 ∧ td ≠ b ∧ td ≠ l ∧ td ≠ sl ∧ (∀ e ∈ D, e.2.2 ≠ td) ∧
  ∀ H', XM T (fun c => c = y ∨ c = wd ∨ c = td) H H' → WkAt K CW H' y yx q wd td (stp sh s) → Q (.bl true) H'
theorem names_len10 {sh : List Page} {R : List Row1} {D : List Ent} (kn : Kn sh R D) : (namesOf sh).length = D.length := by
  rw [← kn.perm.length_eq, List.length_map]
theorem nmV_dp10 {K : PySem.W.Frag} {H : Hp} {a : Addr} {nm : Nm} (h : SqT K H a (nmV nm)) : Dp K H (.ref a) (nmD nm) := .tup h (.cons (.int _) (.cons (.int _) (.cons (.int _) .nil)))
section
variable {P : Program} {w : World} {K : PySem.W.Frag} {mg : Str → Option Value} {base : Heap} {T : List (Addr × Str)} {C CS CW : Addr}
abbrev lstN : List Str := ["_law_walk", "_law_w", "_law_rows", "_law_due", "_law_name", "_law_found"]
theorem sc_lstep10 : FnScope lstN ["_law_walk", "_law_w", "_law_rows"] (defScope s_lstep) := ⟨rfl, rfl, rfl, by decide +kernel, rfl, by decide +kernel, by decide +kernel⟩
theorem ok_lstep10 {f : Addr} {fd : FuncData} (F : L2.Fun K "_law_step" "_law_step" s_lstep f fd) (S : WTx K CW) (B : Blt mg) (B2 : Blt2 mg) (cAl : Cal P w K mg base CX0 "_law_alike" ["_law_found", "_law_due"] 3 (spAl K 3)) (mStep : Met P w K mg base CX0 CW "step" ["self"] 7 (spWStep K T C CS CW)) :
    FnOk P w K mg base CX0 8 f fd ["_law_walk", "_law_w", "_law_rows"] (spLStep10 K T C CS CW) := by
  refine F.ok sc_lstep10 (fun vs H Q E h => by obtain ⟨b, l, q, p, sl, r, sh, R, D, y, yx, wd, td, s, rfl, _⟩ := h; rfl) (fun cdv A outer s0 H vs Q E hr h => ?_)
  obtain ⟨b, l, q, p, sl, r, sh, R, D, y, yx, wd, td, s, rfl, sta, kn, hD, wk, h1000, ntb, ntl, nts, nte, k⟩ := h
  have nd := sc_lstep10.nd
  have hu := hr.units
  have hu1 := hu_of hr
  refine ⟨_, pss_cons (ps_setLc (i := 3) (own := [("_law_name", 4)]) (g := gName 4) (tt := tOr (tTest (tOp rIsN10 (tDGet (tVar 1) (tC (.str "last"))) (tC .non))) (tTest (tOp (rGtP K) (tSl (rSlT K) (tVar 4) tNoPart (tPart (tC (.int 2)))) (tDGet (tVar 1) (tC (.str "last")))))) (te := tVar 4) (by rfl) nd rfl rfl (sw_true rfl rfl rfl (by decide +kernel)) (pi_list (pe_callB (cr_sortedDO (d := 3) (B := 1000) (by decide) rfl) (by rfl) B2.sorted boot_sorted (pa_cons (pv 2) pa_nil))) (blkOk_by (own := [("_law_name", 4)]) (N := lstN) (sc := defScope s_lstep) (by decide +kernel))
        (fun _ _ _ _ _ => pg_name (i := 4) nd rfl (Or.inl rfl)) (fun _ _ _ _ _ => pts_one (PW.pt (pw_or (pt_cmpR op_isN10 (pe_dget hu1 (pv 1) pe_str (fun _ _ => rfl)) pe_non (nomark _)) (pw_or1 (pt_cmpR (op_gtP hr.units0) (pe_slice sl_tup (pv 4) po_none (po_some pe_int)) (pe_dget hu1 (pv 1) pe_str (fun _ _ => rfl)) (nomark _)))))) (fun _ _ _ _ _ => pv 4))
    (pss_cons (ps_set (i := 5) nd rfl (.inl rfl) (pe_met0 mStep S.cl hr pass0 (pv 0)))
    (pss_cons (ps_if (PW.pt (pw_or (pt_val (pe_dget hu1 (pv 1) pe_str (fun _ _ => rfl))) (pw_or1 (pt_cmpR (op_eqD hu) (pv 3) (pe_lst pa_nil) (nomark _))))) (pss_cons (ps_asg pe_bl (pg_sub (pv 1) pe_str (set_dict hu1))) (pss_one (ps_ret (pe_cmpR op_isN (pv 5) pe_non (nomark _))))) pss_nil)
    (pss_cons (ps_if (pt_not (pt_val (pe_cal cAl (hr.mono (by decide)) (pa_cons (pv 5) (pa_cons (pe_tup (pa_cons (pe_ix ix_list (pv 3) pe_int (fun _ _ => rfl)) (pa_cons (pe_dgetT hu1 (pv 2) (pe_ix ix_list (pv 3) pe_int (fun _ _ => rfl)) (fun _ _ => rfl)) pa_nil))) pa_nil))))) (pss_one (ps_ret pe_bl)) pss_nil)
    (pss_cons (ps_expr (pe_bm PySem.F.plainAttrs_list PySem.F.slot_list_append PySem.F.type_list_append mt_append (pe_ix ix_tup (pv 5) pe_int (fun _ _ => rfl)) (pa_cons pe_int pa_nil)))
    (pss_cons (ps_asg (pe_slice sl_tup (pe_ix ix_list (pv 3) pe_int (fun _ _ => rfl)) po_none (po_some pe_int)) (pg_sub (pv 1) pe_str (set_dict hu1)))
    (pss_cons (ps_expr (pe_bm PySem.F.plainAttrs_list PySem.F.slot_list_append PySem.F.type_list_append mt_append (pe_dget hu1 (pv 1) pe_str (fun _ _ => rfl)) (pa_cons (pe_ix ix_list (pv 3) pe_int (fun _ _ => rfl)) pa_nil)))
    (pss_one (ps_ret pe_bl)))))))), ?_⟩
  obtain ⟨pt, lv, tds, h1, h2, h3, h4, h5, h6⟩ := wk.ex
  have DG : ∀ {H'}, XX T H H' → DGet H' wd (.str "last") (some lv) := fun x => DGet.k (k := (.inr "last" : Key)) (x.dk h3)
  have cut : ∀ nm, ¬ (HT.sIx (nmV nm).length 0 none = 0 ∧ HT.sIx (nmV nm).length (nmV nm).length (some 2) = (nmV nm).length) := fun nm => (by decide : ¬ (HT.sIx 3 0 none = 0 ∧ HT.sIx 3 3 (some 2) = 3))
  have ec : ∀ nm : Nm, cutV (nmV nm) none (some 2) = [.int (nm.1.1 : Int), .int (nm.1.2 : Int)] := fun nm => rfl
  have cond : ∀ {H' : Hp} {nm : Nm} {a0 : Addr} {σ' : L2.St} (QQ : Bool → Hp → Prop), XX T H H' → σ'[1]? = some (some (.ref wd)) → σ'[4]? = some (some (.ref a0)) → SqT K H' a0 (nmV nm) → (∀ H2, XX T H' H2 → QQ (gtL s.last nm) H2) → (tOr (tTest (tOp rIsN10 (tDGet (tVar 1) (tC (.str "last"))) (tC .non))) (tTest (tOp (rGtP K) (tSl (rSlT K) (tVar 4) tNoPart (tPart (tC (.int 2)))) (tDGet (tVar 1) (tC (.str "last")))))) σ' H' QQ := by
    intro H' nm a0 σ' QQ x e1 e4 ha kk
    have dg := DG x
    have hl := h4
    refine ⟨_, e1, wd, _, rfl, dg, rfl, _, rfl, ?_⟩
    cases hs : s.last with
    | none =>
      rw [hs] at hl
      obtain rfl : lv = .non := hl
      rw [decide_eq_true rfl]
      have := kk H' (XX.refl H')
      rw [hs, gtL_none] at this
      exact iteT this
    | some p0 =>
      rw [hs] at hl
      obtain ⟨lt, rfl, hlt⟩ := hl
      rw [decide_eq_false (fun z => by cases z)]
      refine iteF ⟨_, e4, _, rfl, a0, _, rfl, ha, cut nm, fun c hc => ?_⟩
      have xc := XX.new (T := T) (o := .tup (cutV (nmV nm) none (some 2))) hc
      refine ⟨_, e1, wd, _, rfl, DG (x.trans xc), ?_⟩
      refine ⟨c, lt, _, _, _, _, rfl, rfl, (by rw [ec]; exact SqT.of upd_same : SqT K _ c [.int (nm.1.1 : Int), .int (nm.1.2 : Int)]), (x.trans xc).sqT hlt, _, rfl, ?_⟩
      have := kk _ xc
      rw [hs] at this
      exact this
  -- what is due
  refine ⟨_, rfl, ?_⟩
  dsimp only [tNil]
  refine sort_rows sta.w kn (by omega) fun zs an hzs htz nan => ?_
  have x1 := XX.new (T := T) (o := .lst (zs.map fun z => V.ref z.2)) nan
  refine ⟨an, rfl, ⟨_, SqL.of upd_same⟩, fun D0 hD0 => ?_⟩
  refine lc_list (xs := zs.map fun z => V.ref z.2) (fun j H' => XX T (upd H an (.lst (zs.map fun z => V.ref z.2))) H' ∧ ∃ acc, H' D0 = some (.lst acc) ∧ acc.length ≤ j ∧ DpAll K H' acc ((((namesOf sh).take j).filter (gtL s.last)).map nmD)) ⟨XX.new hD0, [], upd_same, Nat.le_refl _, .nil⟩ (fun j H' _ pv => pv.1.sqL (SqL.of upd_same)) (fun j x H' ex pv => ⟨rfl, ?_⟩) (fun H2 pv => ?_)
  · obtain ⟨xj, acc, e1, l1, d1⟩ := pv
    rw [List.getElem?_map] at ex
    obtain ⟨z, hz, rfl⟩ := Option.map_eq_some_iff.mp ex
    have hnm : (namesOf sh)[j]? = some z.1 := by rw [← hzs, List.getElem?_map, hz]; rfl
    have htk : (namesOf sh).take (j + 1) = (namesOf sh).take j ++ [z.1] := by rw [List.take_succ, hnm]; rfl
    have tz : SqT K H' z.2 (nmV z.1) := (x1.trans xj).sqT (SqT.of (htz z (List.mem_of_getElem? hz)))
    refine cond (nm := z.1) (a0 := z.2) _ (x1.trans xj) rfl rfl tz fun H3 x3 => ?_
    rw [htk, List.filter_append]
    have e3 := x3.lst e1
    have d3 := Dp.xxAll x3 _ _ d1
    cases hg : gtL s.last z.1 with
    | true =>
      refine iteT ⟨_, rfl, acc, e3, by rw [sizeLine_eq]; have := (List.getElem?_eq_some_iff.mp hnm).1; have := names_len10 kn; omega, (xj.trans x3).fillD hD0 e3, acc ++ [.ref z.2], upd_same, by rw [List.length_append]; show acc.length + 1 ≤ j + 1; omega, ?_⟩
      have xm : XM T (fun c => c = D0) H3 (upd H3 D0 (.lst (acc ++ [.ref z.2]))) := XM.upd e3 rfl True.intro
      have fl : ∀ d ∈ (((namesOf sh).take j).filter (gtL s.last)).map nmD, flatD d = true := fun d hd => by obtain ⟨n, _, rfl⟩ := List.mem_map.mp hd; rfl
      rw [List.filter_cons_of_pos hg, List.map_append]
      exact dpAll_app (dpAll_xm xm fl d3) (.cons (Dp.xm xm _ _ rfl (nmV_dp10 (x3.sqT tz))) .nil)
    | false =>
      refine iteF ⟨xj.trans x3, acc, e3, by omega, ?_⟩
      rw [List.filter_cons_of_neg (by rw [hg]; decide), List.filter_nil, List.append_nil]
      exact d3
  obtain ⟨xj, acc, e1, l1, d1⟩ := pv
  rw [List.length_map, show zs.length = (namesOf sh).length by rw [← hzs, List.length_map], List.take_length] at d1
  have x2 := x1.trans xj
  dsimp only [gName, tNext]
  obtain ⟨qx, dx, done, st⟩ := sta.st
  have st2 := st.xx x2
  have nD0 : H D0 = none := x1.free hD0
  have OV : ∀ {H' lv' ov'}, H' wd = some (.dK (wD lv' ov' td)) → DGet H' wd (.str "over") (some (.bl ov')) := fun h => DGet.k (k := (.inr "over" : Key)) h
  have TD : ∀ {H' lv' ov'}, H' wd = some (.dK (wD lv' ov' td)) → DGet H' wd (.str "told") (some (.ref td)) := fun h => DGet.k (k := (.inr "told" : Key)) h
  have PO : ∀ {H' lv' ov'}, H' wd = some (.dK (wD lv' ov' td)) → DPut H' wd (.str "over") (.bl true) (upd H' wd (.dK (wD lv' true td))) := fun h => DPut.k (k := (.inr "over" : Key)) h (show 3 < sizeLine by decide)
  have PL : ∀ {H' lv' ov' v'}, H' wd = some (.dK (wD lv' ov' td)) → DPut H' wd (.str "last") v' (upd H' wd (.dK (wD v' ov' td))) := fun h => DPut.k (k := (.inr "last" : Key)) h (show 3 < sizeLine by decide)
  have nyw : y ≠ wd := fun e => by rw [e, h3] at h1; cases h1
  have nyt : y ≠ td := fun e => by rw [e, h5] at h1; cases h1
  have nwt : wd ≠ td := fun e => by rw [e, h5] at h3; cases h3
  have fln : ∀ d ∈ s.told.map nmD, flatD d = true := fun d hd => by obtain ⟨n, _, rfl⟩ := List.mem_map.mp hd; rfl
  refine ⟨_, rfl, y, _, _, rfl, x2.ins h1, rfl, ?_⟩
  dsimp only [tNil]
  refine ⟨y, yx, q, qx, p, dx, sl, sh, done, R, D, pt, s.over, _, _, rfl, x2.ins h1, x2.sqT h2, st2, kn, fun ho => ?_, fun ho hn H3 x3 hy3 => ?_, fun ho nm hn H3 t u vl pt' x3 nt et du nvl evl hpt' hy3 => ?_⟩
  · -- it is over
    dsimp only [gName, tNext]
    have e3 := x2.dk h3
    refine ⟨_, rfl, wd, _, rfl, OV e3, s.over, rfl, ?_⟩
    rw [ho] at e3 h1 ⊢
    refine iteT (iteT ?_)
    refine ⟨_, rfl, wd, _, rfl, PO e3, ?_⟩
    have y4 : XM T (fun c => c = wd) H2 (upd H2 wd (.dK (wD lv true td))) := XM.upd e3 rfl True.intro
    refine ⟨_, rfl, rfl, ?_⟩
    rw [decide_eq_true rfl]
    refine k _ ((x2.xm (S := fun c => c = y ∨ c = wd ∨ c = td)).trans (y4.mono fun c h => .inr (.inl h))) ?_
    have es : stp sh s = s := if_pos ho
    rw [es]
    exact ⟨pt, lv, tds, by rw [ho]; exact y4.ins (x2.ins h1) nyw, y4.sqT (x2.sqT h2), by rw [ho]; exact upd_same, (h4.xm (x2.xm (S := fun _ => False))).xm y4, y4.lst (x2.lst h5) nwt.symm, dpAll_xm y4 fln (Dp.xxAll x2 _ _ h6)⟩
  · -- none is behind the last
    dsimp only [gName, tNext]
    have nyD : D0 ≠ y := fun e => by rw [e, h1] at nD0; cases nD0
    have hn' : nxtL sh s.last = none := hn
    have ef : (namesOf sh).filter (gtL s.last) = [] := List.head?_eq_none_iff.mp (due_head.trans hn')
    rw [ef, List.map_nil] at d1
    obtain rfl := dpAll0 d1
    have ew3 := x3.dk (x2.dk h3) nyw.symm
    have eD3 := x3.lst e1 nyD
    refine ⟨_, rfl, wd, _, rfl, OV ew3, s.over, rfl, ?_⟩
    rw [ho] at ew3 ⊢
    refine iteF ⟨_, rfl, (by show 0 ≤ sizeLine; decide), fun p0 hp0 => ?_⟩
    have x4 := XX.new (T := T) (o := .lst []) hp0
    refine ⟨.list [], .list [], .lst (SqL.of (x4.lst eD3)) .nil, .lst (SqL.of upd_same) .nil, shaped_nil, shaped_nil, true, rfl, iteT ?_⟩
    have ew4 := x4.dk ew3
    refine ⟨_, rfl, wd, _, rfl, PO ew4, ?_⟩
    have y5 := XM.upd (T := T) (S := fun c => c = wd) (o' := .dK (wD lv true td)) ew4 rfl True.intro
    refine ⟨_, rfl, rfl, ?_⟩
    rw [decide_eq_true rfl]
    have x24 : XM T (fun c => c = y) H2 _ := x3.trans x4.xm
    refine k _ (((x2.xm (S := fun c => c = y ∨ c = wd ∨ c = td)).trans (x24.mono fun c h => .inl h)).trans (y5.mono fun c h => .inr (.inl h))) ?_
    have es : stp sh s = ⟨s.last, true, s.told⟩ := by unfold stp; rw [if_neg (by rw [ho]; decide), hn']
    rw [es]
    exact ⟨pt, lv, tds, y5.ins (x4.ins hy3) nyw, y5.sqT (x24.sqT (x2.sqT h2)), upd_same, ((h4.xm (x2.xm (S := fun _ => False))).xm x24).xm y5, y5.lst (x24.lst (x2.lst h5) nyt.symm) nwt.symm, dpAll_xm y5 fln (dpAll_xm x24 fln (Dp.xxAll x2 _ _ h6))⟩
  · -- a row is told
    dsimp only [gName, tNext]
    have nyD : D0 ≠ y := fun e => by rw [e, h1] at nD0; cases nD0
    have hn' : nxtL sh s.last = some nm := hn
    obtain ⟨rest, ef⟩ : ∃ rest, (namesOf sh).filter (gtL s.last) = nm :: rest := by
      have := due_head.trans hn'
      cases e : (namesOf sh).filter (gtL s.last) with
      | nil => rw [e] at this; cases this
      | cons a l => rw [e] at this; cases this; exact ⟨l, rfl⟩
    rw [ef, List.map_cons] at d1
    obtain ⟨v0, accr, rfl, dv0, dvr⟩ := dpAllC d1
    obtain ⟨a0, rfl, ha0⟩ := dp_nm dv0
    have hmem : nm ∈ namesOf sh := List.mem_of_find?_eq_some hn'
    obtain ⟨e0, he0, enm⟩ := kn.at_ hmem
    have fld : ∀ d ∈ nmD nm :: rest.map nmD, flatD d = true := fun d hd => by
      rcases List.mem_cons.mp hd with e | hd
      · rw [e]; rfl
      · obtain ⟨n, _, rfl⟩ := List.mem_map.mp hd; rfl
    have ew3 := x3.dk (x2.dk h3) nyw.symm
    have eD3 := x3.lst e1 nyD
    have dD3 : DpAll K H3 (.ref a0 :: accr) (nmD nm :: rest.map nmD) := dpAll_xm x3 fld (.cons dv0 dvr)
    refine ⟨_, rfl, wd, _, rfl, OV ew3, s.over, rfl, ?_⟩
    rw [ho] at ew3 ⊢
    refine iteF ⟨_, rfl, (by show 0 ≤ sizeLine; decide), fun p0 hp0 => ?_⟩
    have x4 := XX.new (T := T) (o := .lst []) hp0
    have shN : SeqAt.shaped (.list (nmD nm :: rest.map nmD)) = true := names_sh (nm :: rest)
    refine ⟨.list (nmD nm :: rest.map nmD), .list [], .lst (SqL.of (x4.lst eD3)) (Dp.xxAll x4 _ _ dD3), .lst (SqL.of upd_same) .nil, shN, shaped_nil, false, rfl, iteF ?_⟩
    have x24 : XM T (fun c => c = y) H2 (upd H3 p0 (.lst [])) := x3.trans x4.xm
    have eD4 := x4.lst eD3
    have ew4 := x4.dk ew3
    have et4 := x4.tup et
    have du4 := Dp.xx x4 _ _ du
    have evl4 := x4.lst evl
    have hpt4 := x4.sqT hpt'
    have hy4 := x4.ins hy3
    revert x24 eD4 ew4 et4 du4 evl4 hpt4 hy4
    generalize upd H3 p0 (.lst []) = H4
    intro x24 eD4 ew4 et4 du4 evl4 hpt4 hy4
    have x04 : XM T (fun c => c = y) H H4 := (x2.xm (S := fun c => c = y)).trans x24
    have ha4 : SqT K H4 a0 (nmV nm) := x24.sqT ha0
    -- it is the one due
    have hva := sta.w.hv e0 he0
    have nva : e0.2.2 ≠ y := fun e => by have := hva.1; rw [e, h1] at this; cases this
    refine ⟨_, rfl, _, rfl, D0, _, 0, .ref a0, rfl, rfl, SqL.of eD4, atI0, _, rfl, _, rfl, D0, _, 0, .ref a0, rfl, rfl, SqL.of eD4, atI0, r, a0, D.map entV, nmK nm, .ref e0.2.2, rfl, rfl, ?_, ?_, ?_, ?_⟩
    · exact .inl (x04.keep _ _ sta.w.hd (fun e => by have := sta.w.hd; rw [e, h1] at this; cases this) (fun ps z => by cases z))
    · rw [nmK_kV]; exact ha4
    · rw [← enm]; exact valE_find he0 kn.nd
    refine ⟨(by show 2 ≤ sizeLine; decide), fun t5 ht5 => ?_⟩
    have x5 := XX.new (T := T) (o := .tup [.ref a0, .ref e0.2.2]) ht5
    have ev : e0.2.1 = valsOf sh (chn sh nm.1) := by rw [← enm]; exact (kn.valsE he0).symm
    have eva5 := x5.lst (x04.lst hva.1 nva)
    rw [ev] at eva5
    have vlen : (valsOf sh (chn sh nm.1)).length ≤ 288 := by rw [← ev]; exact kn.vlen he0
    have okn := okD_nats (l := valsOf sh (chn sh nm.1)) (by omega)
    have d1' : Dp K _ (.ref t) (.tuple [nmD nm, natsD (valsOf sh (chn sh nm.1))]) := .tup (x5.sqT (SqT.of et4)) (.cons (Dp.xx x5 _ _ du4) (.cons (natsD_at (x5.lst evl4)) .nil))
    have d2' : Dp K _ (.ref t5) (.tuple [nmD nm, natsD (valsOf sh (chn sh nm.1))]) := .tup (SqT.of upd_same) (.cons (nmV_dp10 (x5.sqT ha4)) (.cons (natsD_at eva5) .nil))
    have ok2 : okD (.tuple [nmD nm, natsD (valsOf sh (chn sh nm.1))]) = true := by
      show (true && (okD (natsD _) && true)) = true
      rw [okn.1]; rfl
    have dep2 : PyData.depth (.tuple [nmD nm, natsD (valsOf sh (chn sh nm.1))]) ≤ 2 := by
      have h0 : PyData.depthAll (intsD (valsOf sh (chn sh nm.1))) ≤ 0 := depthAll_of fun d hd => by
        obtain ⟨n, _, rfl⟩ := List.mem_map.mp hd
        exact Nat.le_refl 0
      show max 1 (max (PyData.depthAll (intsD (valsOf sh (chn sh nm.1))) + 1) 0) + 1 ≤ 2
      omega
    refine ⟨.ref t, .ref t5, _, rfl, d1', d2', ok2, dep2, true, rfl, iteF ?_⟩
    -- the list told is changed
    have evl5 := x5.lst evl4
    refine ⟨_, rfl, t, _, 1, .ref vl, rfl, rfl, x5.sqT (SqT.of et4), atI_nat (j := 1) rfl, .inl ⟨rfl, _, SqL.of evl5⟩, vl, _, .int 0, rfl, rfl, evl5, by rw [List.length_map, sizeLine_eq]; omega, ?_⟩
    have y6 := XM.upd (T := T) (S := fun c => c = vl) (o' := .lst ((valsOf sh (chn sh nm.1)).map (fun (n : Nat) => V.int (n : Int)) ++ [.int 0])) evl5 rfl True.intro
    have nvl2 : H vl = none := x2.free nvl
    have x46 : XM T (fun c => c = vl) H4 _ := x5.xm.trans y6
    have x06 : XM T (fun c => c = y) H _ := ((x04.mono (S' := fun c => c = y ∨ c = vl) fun _ h => .inl h).trans (x46.mono fun _ h => .inr h)).drop fun c h n => by
      rcases h with h | h
      · exact absurd h n
      · rw [h]; exact nvl2
    have nyl : y ≠ vl := fun e => by rw [e, nvl2] at h1; cases h1
    have nwl : wd ≠ vl := fun e => by rw [e, nvl2] at h3; cases h3
    have ntvl : td ≠ vl := fun e => by rw [e, nvl2] at h5; cases h5
    have nDl : D0 ≠ vl := fun e => by rw [e, nvl] at e1; cases e1
    have ew6 := x46.dk ew4 nwl
    have eD6 := x46.lst eD4 nDl
    have ha6 := x46.sqT ha4
    have hy6 := x46.ins hy4 nyl
    have hpt6 := x46.sqT hpt4
    have etd6 := x46.lst (x04.lst h5 nyt.symm) ntvl
    have dtd6 := dpAll_xm x46 fln (dpAll_xm x04 fln h6)
    clear d1' d2' evl5 eva5 y6 x46 x5 x24 x04
    revert ew6 eD6 ha6 hy6 hpt6 etd6 dtd6 x06
    generalize upd _ vl _ = H6
    intro x06 ew6 eD6 ha6 hy6 hpt6 etd6 dtd6
    dsimp only [gName, tNext]
    refine ⟨_, rfl, D0, _, 0, .ref a0, rfl, rfl, SqL.of eD6, atI0, _, rfl, a0, _, rfl, ha6, cut nm, fun c hc => ?_⟩
    have x7 := XX.new (T := T) (o := .tup (cutV (nmV nm) none (some 2))) hc
    have ew7 := x7.dk ew6
    refine ⟨_, rfl, wd, _, rfl, PL ew7, ?_⟩
    have y8 := XM.upd (T := T) (S := fun c => c = wd) (o' := .dK (wD (.ref c) false td)) ew7 rfl True.intro
    have ew8 : upd (upd H6 c (.tup (cutV (nmV nm) none (some 2)))) wd (.dK (wD (.ref c) false td)) wd = some (.dK (wD (.ref c) false td)) := upd_same
    have nwD : D0 ≠ wd := fun e => by rw [e, h3] at nD0; cases nD0
    have eD8 := y8.lst (x7.lst eD6) nwD
    have etd8 := y8.lst (x7.lst etd6) nwt.symm
    have ltd : tds.length = s.told.length := by rw [dpAll_len h6, List.length_map]
    refine ⟨_, rfl, wd, _, rfl, TD ew8, .inl ⟨rfl, _, SqL.of etd8⟩, _, rfl, D0, _, 0, .ref a0, rfl, rfl, SqL.of eD8, atI0, td, tds, .ref a0, rfl, rfl, etd8, by rw [ltd, sizeLine_eq]; omega, ?_⟩
    have y9 := XM.upd (T := T) (S := fun c => c = td) (o' := .lst (tds ++ [.ref a0])) etd8 rfl True.intro
    have sc : SqT K (upd H6 c (.tup (cutV (nmV nm) none (some 2)))) c [.int (nm.1.1 : Int), .int (nm.1.2 : Int)] := by rw [← ec nm]; exact SqT.of upd_same
    refine k _ ((((x06.mono (S' := fun c => c = y ∨ c = wd ∨ c = td) fun _ h => .inl h).trans x7.xm).trans (y8.mono fun _ h => .inr (.inl h))).trans (y9.mono fun _ h => .inr (.inr h))) ?_
    have es : stp sh s = ⟨some nm.1, false, s.told ++ [nm]⟩ := by unfold stp; rw [if_neg (by rw [ho]; decide), hn']
    rw [es]
    refine ⟨pt', .ref c, tds ++ [.ref a0], y9.ins (y8.ins (x7.ins hy6) nyw) nyt, y9.sqT (y8.sqT (x7.sqT hpt6)), y9.dk ew8 nwt, ⟨c, rfl, y9.sqT (y8.sqT sc)⟩, upd_same, ?_⟩
    show DpAll K _ _ ((s.told ++ [nm]).map nmD)
    rw [List.map_append]
    exact dpAll_app (dpAll_xm y9 fln (dpAll_xm y8 fln (Dp.xxAll x7 _ _ dtd6))) (.cons (nmV_dp10 (y9.sqT (y8.sqT (x7.sqT ha6)))) .nil)
end
end GX
set_option maxHeartbeats 4000000
/-! sets of tuples of any count up to 300: tables of 8, 32, 128 and 512 slots -/
namespace GX
open PySem PySem.Spec PyProof.Rows L2
/-- a mask by which a round goes through all slots -/
structure Rnd (m : Nat) : Prop where
  hit : ∀ j, j ≤ m → ∃ b, b ≤ m ∧ lcgN m b = j
  back : lcgN m (m + 1) = 0
  odd : m % 2 = 1
  low : 7 ≤ m
  top : m ≤ 511
  is4 : m = 7 ∨ m = 31 ∨ m = 127 ∨ m = 511
theorem orb511 : ((List.range 512).all fun j => ((List.range 512).map (lcgN 511)).elem j) = true := by decide +kernel
theorem rnd_big : Rnd 511 := by
  refine ⟨fun j hj => ?_, by decide +kernel, rfl, by decide, by decide, .inr (.inr (.inr rfl))⟩
  have e := List.all_eq_true.mp orb511 j (List.mem_range.mpr (by omega))
  obtain ⟨b, hb, rfl⟩ := List.mem_map.mp (List.mem_of_elem_eq_true e)
  exact ⟨b, by have := List.mem_range.mp hb; omega, rfl⟩
theorem rnd_of {m : Nat} (h : MaskOk m) : Rnd m := ⟨fun j hj => lcg_all h hj, lcg_round h, mask_odd h, by rcases h with e | e | e <;> omega, by rcases h with e | e | e <;> omega, by rcases h with e | e | e <;> omega⟩
section
variable {m : Nat}
theorem Rnd.turn (R : Rnd m) : ∀ k, lcgN m (m + 1 + k) = lcgN m k
  | 0 => R.back
  | k + 1 => congrArg (fun x => (x * 5 + 1) % (m + 1)) (R.turn k)
theorem Rnd.from_ (R : Rnd m) {i j : Nat} (hi : i ≤ m) (hj : j ≤ m) : ∃ k, k ≤ m ∧ lcgI m i k = j := by
  obtain ⟨a, ha, rfl⟩ := R.hit i hi
  obtain ⟨b, hb, rfl⟩ := R.hit j hj
  by_cases c : a ≤ b
  · exact ⟨b - a, by omega, (lcgN_add m a (b - a)).trans (by rw [show a + (b - a) = b by omega])⟩
  · exact ⟨m + 1 + b - a, by omega, (lcgN_add m a _).trans (by rw [show a + (m + 1 + b - a) = m + 1 + b by omega, R.turn])⟩
theorem Rnd.run (R : Rnd m) (h : Int) {j : Nat} (hj : j ≤ m) : ∃ n, n ≤ m + 12 ∧ runI m (SetTable.bits h) n = j :=
  let ⟨k, hk, e⟩ := R.from_ (runI_le m (SetTable.bits h) 12) hj
  ⟨12 + k, by omega, (runI_tail (bits_lt h) k).trans e⟩
theorem Rnd.met (R : Rnd m) (h : Int) {j : Nat} (hj : j ≤ m) : ∃ k, k < 10 * SetTable.turns m ∧ way m h k = j := by
  obtain ⟨n, hn, e⟩ := R.run h hj
  obtain ⟨k, hk, e2⟩ := run_nth m (SetTable.bits h) n
  exact ⟨k, by unfold SetTable.turns; omega, (congrArg SetTable.Probe.j e2).trans e⟩
theorem way_in {h : Int} {k : Nat} : way m h k ≤ m := by
  have lo : SetTable.bits h % (m + 1) ≤ m := Nat.le_of_lt_succ (Nat.mod_lt _ (Nat.succ_pos m))
  have b := runEnd_bd lo
  have q := nth_in (m := m) k (runAt m (SetTable.bits h % (m + 1)) (SetTable.bits h)) (by
    show SetTable.bits h % (m + 1) + (SetTable.runEnd m (SetTable.bits h % (m + 1)) - _) ≤ m
    omega)
  exact Nat.le_trans (Nat.le_add_right _ _) q
end
/-- each thing of the table stands on its hash's way, behind taken slots only -/
structure Tab (t : SetTable) (hs : List Int) : Prop where
  up : Ris t.place.toList
  dm : t.dummies = #[]
  sz : t.place.size = hs.length
  rn : Rnd t.mask
  bd : ∀ x ∈ t.place.toList, x ≤ t.mask
  on : ∀ (i : Nat) (h : Int) (j : Nat), hs[i]? = some h → t.place.toList[i]? = some j → ∃ k, way t.mask h k = j ∧ ∀ q, q < k → way t.mask h q ∈ t.place.toList
section
variable {t : SetTable} {hs : List Int}
theorem Tab.len (T : Tab t hs) : t.place.toList.length = hs.length := by rw [Array.length_toList, T.sz]
theorem Tab.gap (T : Tab t hs) (hl : hs.length ≤ t.mask) (h : Int) : ∃ K, K < 10 * SetTable.turns t.mask ∧ ¬ way t.mask h K ∈ t.place.toList ∧ ∀ q, q < K → way t.mask h q ∈ t.place.toList := by
  obtain ⟨j, hj, free⟩ := st_missing t.place.toList (t.mask + 1) (by rw [T.len]; omega)
  obtain ⟨k, hk, rfl⟩ := T.rn.met h (Nat.le_of_lt_succ hj)
  obtain ⟨K, a, b, c⟩ := st_least (p := fun q => ¬ way t.mask h q ∈ t.place.toList) k free
  exact ⟨K, by omega, b, fun q hq => Classical.not_not.mp (c q hq)⟩
theorem Tab.ahead (T : Tab t hs) {h : Int} {K i j : Nat} (free : ¬ way t.mask h K ∈ t.place.toList) (hi : hs[i]? = some h) (hj : t.place.toList[i]? = some j) : ∃ k, k < K ∧ way t.mask h k = j := by
  obtain ⟨k, rfl, b⟩ := T.on i h j hi hj
  refine ⟨k, Nat.lt_of_not_le fun le => ?_, rfl⟩
  rcases Nat.eq_or_lt_of_le le with e | l
  · exact free (by rw [e]; exact List.mem_of_getElem? hj)
  · exact free (b K l)
theorem Tab.lay (T : Tab t hs) {h : Int} {K : Nat} (free : ¬ way t.mask h K ∈ t.place.toList) (full : ∀ q, q < K → way t.mask h q ∈ t.place.toList) :
    (t.put (way t.mask h K)).2 = SetTable.below t.place (way t.mask h K) ∧ SetTable.below t.place (way t.mask h K) ≤ hs.length ∧
    Tab (t.put (way t.mask h K)).1 (hs.take (SetTable.below t.place (way t.mask h K)) ++ h :: hs.drop (SetTable.below t.place (way t.mask h K))) ∧
    (t.put (way t.mask h K)).1.mask = t.mask ∧ (t.put (way t.mask h K)).1.led = t.led ∧ (t.put (way t.mask h K)).1.plain = t.plain ∧ (t.put (way t.mask h K)).1.fill = hs.length + 1 := by
  have top : way t.mask h K ≤ t.mask := way_in
  have pos := (below_cut T.up (way t.mask h K)).1
  have pl := put_place t (way t.mask h K)
  have p1 : SetTable.below t.place (way t.mask h K) ≤ t.place.toList.length := by rw [Array.length_toList]; exact pos
  have p2 : SetTable.below t.place (way t.mask h K) ≤ hs.length := by rw [← T.len]; exact p1
  have new : t.place[SetTable.below t.place (way t.mask h K)]? ≠ some (way t.mask h K) := fun e => free (List.mem_of_getElem? (Array.getElem?_toList ▸ e))
  have more : (t.put (way t.mask h K)).1.place.size = hs.length + 1 := by rw [← Array.length_toList, pl, len_ins _ p1, T.len]
  have stay : ∀ x, x ∈ t.place.toList → x ∈ (t.put (way t.mask h K)).1.place.toList := fun x hx => by rw [pl]; exact mem_ins.mpr (.inr hx)
  refine ⟨rfl, p2, { up := ris_insert T.up new, dm := put_dm T.dm _, sz := by rw [more, len_ins _ p2], rn := T.rn, bd := fun x hx => ?_, on := fun i g j e1 e2 => ?_ }, rfl, rfl, rfl, ?_⟩
  · rw [pl] at hx
    exact (mem_ins.mp hx).elim (fun z => by rw [z]; exact top) (T.bd x)
  · rw [pl, tins_get _ p1] at e2
    rw [tins_get _ p2] at e1
    have old : ∀ n, hs[n]? = some g → t.place.toList[n]? = some j → ∃ k, way t.mask g k = j ∧ ∀ q, q < k → way t.mask g q ∈ (t.put (way t.mask h K)).1.place.toList := fun n f1 f2 => by
      obtain ⟨k, a, b⟩ := T.on n g j f1 f2
      exact ⟨k, a, fun q hq => stay _ (b q hq)⟩
    split at e1
    · rename_i c
      rw [if_pos c] at e2
      exact old i e1 e2
    · rename_i c
      rw [if_neg c] at e2
      split at e1
      · rename_i d
        rw [if_pos d] at e2
        cases e1
        cases e2
        exact ⟨K, rfl, fun q hq => stay _ (full q hq)⟩
      · rename_i d
        rw [if_neg d] at e2
        exact old (i - 1) e1 e2
  · show (t.put (way t.mask h K)).1.place.size + (t.put (way t.mask h K)).1.dummies.size = _
    rw [more, put_dm T.dm]; rfl
end
/-! ### all laid anew -/
section
variable {m : Nat}
theorem Rnd.seat (R : Rnd m) (owner : Array (Option Nat)) (h : Int) {j : Nat} (hj : j ≤ m) (free : oAt owner j = none) :
    ∃ K, SetTable.layClean.free m owner (SetTable.turns m) (SetTable.bits h % (m + 1)) (SetTable.bits h) = some (way m h K) ∧ oAt owner (way m h K) = none ∧ ∀ q, q < K → oAt owner (way m h q) ≠ none := by
  obtain ⟨n, hn, e⟩ := R.run h hj
  have at_ : way m h (off m (SetTable.bits h % (m + 1)) (SetTable.bits h) n) = j := (congrArg SetTable.Probe.j (nth_off m n _ _)).trans (by rw [itL_run]; exact e)
  obtain ⟨K, a, b, c⟩ := st_least (p := fun q => oAt owner (way m h q) = none) _ (show oAt owner (way m h (off m (SetTable.bits h % (m + 1)) (SetTable.bits h) n)) = none by rw [show way m h _ = j from at_]; exact free)
  refine ⟨K, free_spec m owner (SetTable.turns m) n _ _ K (by unfold SetTable.turns; omega) a (fun q hq => Option.isNone_eq_false_iff.mpr (Option.isSome_iff_ne_none.mpr (c q hq))) (Option.isNone_iff_eq_none.mpr b), b, c⟩
theorem Rnd.next (R : Rnd m) {done : List Int} {owner : Array (Option Nat)} (W : Own m done owner) (hl : done.length ≤ m) (h : Int) :
    ∃ j, SetTable.layClean.free m owner (SetTable.turns m) (SetTable.bits h % (m + 1)) (SetTable.bits h) = some j ∧ Own m (done ++ [h]) (owner.setIfInBounds j (some done.length)) := by
  obtain ⟨taken, ht, htin⟩ := W.ps
  obtain ⟨j0, lt0, out0⟩ := st_missing taken (m + 1) (by omega)
  have free0 : oAt owner j0 = none := Classical.byContradiction fun z => out0 (htin j0 (by omega) z)
  obtain ⟨K, found, empty, full⟩ := R.seat owner h (by omega) free0
  have top : way m h K ≤ m := way_in
  have self := oAt_set_self (owner := owner) (j := way m h K) (some done.length) (by have := W.sz; omega)
  have other : ∀ i, i ≠ way m h K → oAt (owner.setIfInBounds (way m h K) (some done.length)) i = oAt owner i := fun i hi => oAt_set_ne _ hi
  have keep : ∀ i, oAt owner i ≠ none → oAt (owner.setIfInBounds (way m h K) (some done.length)) i ≠ none := fun i hi => by
    by_cases c : i = way m h K
    · rw [c, self]; exact fun z => by cases z
    · rw [other i c]; exact hi
  refine ⟨_, found, { sz := by rw [Array.size_setIfInBounds]; exact W.sz, at_ := fun j k hj e => ?_, all := fun k hk => ?_, ps := ⟨way m h K :: taken, by rw [List.length_cons, List.length_append, ht]; rfl, fun j hj e => ?_⟩ }⟩
  · by_cases c : j = way m h K
    · rw [c, self] at e
      cases e
      exact ⟨h, K, by rw [List.getElem?_append_right (Nat.le_refl _), Nat.sub_self]; rfl, c.symm, fun q hq => keep _ (full q hq)⟩
    · rw [other j c] at e
      obtain ⟨g, n, a, b, d⟩ := W.at_ j k hj e
      exact ⟨g, n, by rw [List.getElem?_append_left (List.getElem?_eq_some_iff.mp a).1]; exact a, b, fun q hq => keep _ (d q hq)⟩
  · rcases Nat.lt_or_ge k done.length with c | c
    · obtain ⟨j, hj, e⟩ := W.all k c
      exact ⟨j, hj, by rw [other j (fun z => by rw [z, empty] at e; cases e)]; exact e⟩
    · have : k = done.length := by rw [List.length_append, List.length_singleton] at hk; omega
      exact ⟨_, top, by rw [this]; exact self⟩
  · by_cases c : j = way m h K
    · rw [c]; exact List.mem_cons_self
    · exact List.mem_cons_of_mem _ (htin j hj (by rw [other j c] at e; exact e))
theorem Rnd.fold (R : Rnd m) : ∀ (todo done : List Int) (owner : Array (Option Nat)), Own m done owner → done.length + todo.length ≤ m → ∃ o2, todo.foldl (stepF m) (some (owner, done.length)) = some (o2, (done ++ todo).length) ∧ Own m (done ++ todo) o2
  | [], done, owner, W, _ => ⟨owner, by rw [List.append_nil]; rfl, by rw [List.append_nil]; exact W⟩
  | h :: todo, done, owner, W, hl => by
    have hl' : done.length + (todo.length + 1) ≤ m := hl
    obtain ⟨j, e, W2⟩ := R.next W (by omega) h
    have one : (done ++ [h]).length = done.length + 1 := by rw [List.length_append]; rfl
    obtain ⟨o2, f, W3⟩ := R.fold todo (done ++ [h]) _ W2 (by omega)
    rw [one] at f
    rw [show done ++ [h] ++ todo = done ++ h :: todo by rw [List.append_assoc]; rfl] at f W3
    exact ⟨o2, by rw [List.foldl_cons, stepF_some e]; exact f, W3⟩
theorem Rnd.clean (R : Rnd m) {hs : Array Int} (hn : hs.size ≤ m) : ∃ owner, SetTable.layClean m hs = some owner ∧ Own m hs.toList owner := by
  obtain ⟨owner, f, W⟩ := R.fold hs.toList [] _ (Own.init m) (by rw [Array.length_toList]; show 0 + hs.size ≤ m; omega)
  refine ⟨owner, ?_, W⟩
  rw [layClean_eq, show hs.toList.foldl (stepF m) (some (Array.replicate (m + 1) none, 0)) = _ from f]; rfl
theorem Rnd.relaid (R : Rnd m) (t : SetTable) {hs : Array Int} {wanted : Nat} (hw : SetTable.sizeAbove wanted - 1 = m) (hn : hs.size ≤ m) :
    ∃ t2 order, t.relaid hs wanted = some (t2, order) ∧ order.toList.Perm (List.range hs.size) ∧ Tab t2 (order.toList.map fun i => hs.getD i 0) ∧ t2.mask = m ∧ t2.led = t.led ∧ t2.plain = t.plain ∧ t2.dummies = #[] := by
  obtain ⟨owner, e, W⟩ := R.clean hn
  have ris := ris_live (fun j => owner.getD j none) (List.range (m + 1)) (by
    unfold Ris
    first | exact List.pairwise_lt_range | exact List.pairwise_lt_range _)
  have ris1 : Ris ((liveOf m owner).map (·.1)) := ris.1
  have in1 : ∀ x ∈ (liveOf m owner).map (·.1), x ∈ List.range (m + 1) := ris.2
  have covers : ∀ k, k < hs.size → k ∈ (liveOf m owner).map (·.2) := fun k hk => by
    obtain ⟨j, a, b⟩ := W.all k (by rw [Array.length_toList]; exact hk)
    exact List.mem_map.mpr ⟨(j, k), (mem_live W.sz).mpr ⟨a, b⟩, rfl⟩
  have count : (liveOf m owner).length = hs.size := by
    obtain ⟨taken, ht, htin⟩ := W.ps
    have nd1 : ((liveOf m owner).map (·.1)).Nodup := List.Pairwise.imp (fun h => Nat.ne_of_lt h) ris1
    have hz : hs.toList.length = hs.size := rfl
    have least := nat_nodup_len (List.range hs.size) ((liveOf m owner).map (·.2)) List.nodup_range fun k hk => covers k (List.mem_range.mp hk)
    have most := nat_nodup_len ((liveOf m owner).map (·.1)) taken nd1 fun x hx => by
      obtain ⟨⟨y, k⟩, hq, rfl⟩ := List.mem_map.mp hx
      have l := (mem_live W.sz).mp hq
      exact htin y l.1 (by rw [l.2]; exact fun z => by cases z)
    rw [List.length_map, List.length_range] at least
    rw [List.length_map, ht] at most
    omega
  refine ⟨tabOf t m owner, ((liveOf m owner).map (·.2)).toArray, by rw [relaid_eq, hw, e]; rfl, perm_range hs.size _ ((List.length_map ..).trans count) covers, { up := ris1, dm := rfl, sz := ?_, rn := R, bd := fun x hx => Nat.le_of_lt_succ (List.mem_range.mp (in1 x hx)), on := fun i h j e1 e2 => ?_ }, rfl, rfl, rfl, rfl⟩
  · show (((liveOf m owner).map (·.1)).toArray).size = _
    rw [List.size_toArray, List.length_map, List.length_map, List.length_map]
  · have e2 : ((liveOf m owner).map (·.1))[i]? = some j := e2
    have e1 : (((liveOf m owner).map (·.2)).map fun i => hs.getD i 0)[i]? = some h := e1
    rw [List.getElem?_map] at e2
    obtain ⟨⟨y, k⟩, hq, rfl⟩ := Option.map_eq_some_iff.mp e2
    rw [List.getElem?_map, List.getElem?_map, hq] at e1
    cases e1
    obtain ⟨le, own⟩ := (mem_live W.sz).mp (List.mem_of_getElem? hq)
    obtain ⟨g, K, a, rfl, c⟩ := W.at_ y k le own
    have eg : hs.getD k 0 = g := by rw [Array.getD_eq_getD_getElem?, ← Array.getElem?_toList, a]; rfl
    show ∃ n, way m (hs.getD k 0) n = way m g K ∧ ∀ q, q < n → way m (hs.getD k 0) q ∈ (liveOf m owner).map (·.1)
    rw [eg]
    refine ⟨K, rfl, fun q hq2 => ?_⟩
    obtain ⟨k2, hk2⟩ := Option.ne_none_iff_exists'.mp (c q hq2)
    exact List.mem_map.mpr ⟨(way m g q, k2), (mem_live W.sz).mpr ⟨way_in, hk2⟩, rfl⟩
end
end GX
set_option maxHeartbeats 8000000
/-! sets of tuples of any count up to 300: the search -/
namespace GX
open PySem PySem.Spec PyProof.Rows L2
section
variable {P : Program} {w : World} {A : Around} {E : Value → Shared → Prop} {s : Shared}
/-- a set of tuples, its table of any size -/
structure SetW (P : Program) (w : World) (h : Heap) (a : Addr) (L : List (Addr × List Int)) (es : Array (Int × Value)) (ep : Nat) (t : SetTable) : Prop where
  obj : ∃ u, h.get? a = some u ∧ u.ExactSet ∧ u.data = .set es ep t
  row : es.toList = rowsOf P w L
  tab : Tab t (L.map fun z => thash P w z.2)
  one : (L.map (·.2)).Nodup
  tup : ∀ z ∈ L, IsT P w h z.2 z.1
  pln : t.plain = true
  led : w.params.followText "set-order" = true ∨ t.led = true
  gap : L.length * 5 < t.mask * 3
  few : L.length ≤ 300
variable {a : Addr} {L : List (Addr × List Int)} {es : Array (Int × Value)} {ep : Nat} {t : SetTable}
theorem SetW.count (W : SetW P w s.heap a L es ep t) : es.size = L.length := by
  rw [← Array.length_toList, W.row]; exact List.length_map ..
theorem SetW.fit (W : SetW P w s.heap a L es ep t) : t.fits es.size = true := by
  have z := W.tab.sz
  rw [List.length_map] at z
  have g := W.gap
  have c := W.count
  show (t.place.size == es.size && decide (t.place.size + t.dummies.size ≤ t.mask)) = true
  rw [W.tab.dm, z, c, beq_self_eq_true, decide_eq_true (show L.length + (#[] : Array Nat).size ≤ t.mask by show L.length + 0 ≤ _; omega)]; rfl
theorem SetW.at_ (W : SetW P w s.heap a L es ep t) {i : Nat} {z : Addr × List Int} (h : L[i]? = some z) : es[i]? = some (thash P w z.2, Value.ref z.1) := by
  rw [← Array.getElem?_toList, W.row]
  show (L.map _)[i]? = _
  rw [List.getElem?_map, h]; rfl
theorem SetW.calm (W : SetW P w s.heap a L es ep t) : ¬ t.gaveWay = true := by
  unfold SetTable.gaveWay; rw [W.tab.rn.odd]; decide
theorem no_dummy {m : Nat} : ∀ (n : Nat) (p : SetTable.Probe), p.dummy = none → (nth m p n).dummy = none
  | 0, _, h => h
  | n + 1, p, h => no_dummy n (adv m p) (by unfold adv; split <;> exact h)
/-- the search, from the c-th step of the way on -/
theorem SetW.seek (W : SetW P w s.heap a L es ep t) {x : Addr} {k : List Int} (hx : IsT P w s.heap k x) (hu : A.units < cLine) {K : Nat} (bound : K < 10 * SetTable.turns t.mask) (free : ¬ way t.mask (thash P w k) K ∈ t.place.toList) (full : ∀ q, q < K → way t.mask (thash P w k) q ∈ t.place.toList)
    {Q : SetFound → Shared → Prop} (yes : k ∈ L.map (·.2) → Q (.there none) s) (no : k ∉ L.map (·.2) → Q (.free (way t.mask (thash P w k) K) false) s) :
    ∀ (fuel c : Nat) (stand : Option SetTable.Probe), stand.getD (t.probeStart (thash P w k)) = nth t.mask (runAt t.mask (SetTable.bits (thash P w k) % (t.mask + 1)) (SetTable.bits (thash P w k))) c → c ≤ K → K - c < fuel →
      (∀ (i : Nat) z, L[i]? = some z → z.2 = k → ∃ e, c ≤ e ∧ e < K ∧ t.place.toList[i]? = some (way t.mask (thash P w k) e)) →
      wpAny (model P w) A (setSearchFrom a (.ref x) (thash P w k) true fuel stand) Q E s
  | 0, _, _, _, _, h, _ => absurd h (Nat.not_lt_zero _)
  | fuel + 1, c, stand, hst, hc, hf, lies => by
    obtain ⟨u, hob, exact_, hdt⟩ := W.obj
    -- the way's states, by their numbers
    have shift : ∀ n, nth t.mask (nth t.mask (runAt t.mask (SetTable.bits (thash P w k) % (t.mask + 1)) (SetTable.bits (thash P w k))) c) n = nth t.mask (runAt t.mask (SetTable.bits (thash P w k) % (t.mask + 1)) (SetTable.bits (thash P w k))) (c + n) := fun n => (nth_add t.mask c _ n).symm
    have slot : ∀ n, (nth t.mask (nth t.mask (runAt t.mask (SetTable.bits (thash P w k) % (t.mask + 1)) (SetTable.bits (thash P w k))) c) n).j = way t.mask (thash P w k) (c + n) := fun n => congrArg SetTable.Probe.j (shift n)
    have hash : ∀ (i : Nat) z, L[i]? = some z → ((es[i]?.map (·.1)).getD 0) = thash P w z.2 := fun i z hz => by rw [W.at_ hz]; rfl
    have told := go_spec t W.tab.up W.tab.dm (fun i => (es[i]?.map (·.1)).getD 0) (thash P w k) (10 * SetTable.turns t.mask) (K - c) _ (no_dummy c _ rfl) (by omega) (fun n hn => by rw [slot]; exact full (c + n) (by omega)) (by rw [slot, show c + (K - c) = K by omega]; exact free)
    rw [← hst] at told
    rw [setSearchFrom_succ]; refine wpAny_bind (wpAny_setState_of hob hdt W.fit ?_); dsimp only; refine wp_if_neg W.calm ?_
    try refine wpAny_bind (wpAny_pure ?_)
    rcases told with ⟨n, i, hn, hi, same, first_, met⟩ | ⟨none_, met⟩
    · -- a thing of the same hash
      rw [hst] at hi met first_
      rw [slot] at hi met
      rw [shift] at met
      have met2 : t.probe (fun i => (es[i]?.map (·.1)).getD 0) (thash P w k) (stand.getD (t.probeStart (thash P w k))) = some (.candidate (way t.mask (thash P w k) (c + n)) i (nth t.mask (runAt t.mask (SetTable.bits (thash P w k) % (t.mask + 1)) (SetTable.bits (thash P w k))) (c + (n + 1)))) := by rw [hst]; exact met
      rw [met2]; dsimp only
      have lt : i < L.length := by
        have z1 := (List.getElem?_eq_some_iff.mp hi).1
        rw [W.tab.len, List.length_map] at z1
        exact z1
      obtain ⟨z, hz⟩ : ∃ z, L[i]? = some z := ⟨_, List.getElem?_eq_getElem lt⟩
      have zin := List.mem_of_getElem? hz
      have live := slot_live W.tab.up hi
      have look : wpAny (model P w) A (searchRest a (.ref x) (thash P w k) true fuel es t (way t.mask (thash P w k) (c + n)) i (nth t.mask (runAt t.mask (SetTable.bits (thash P w k) % (t.mask + 1)) (SetTable.bits (thash P w k))) (c + (n + 1)))) Q E s := by
        unfold searchRest; rw [W.at_ hz]; dsimp only
        refine wpAny_bind (wpAny_holding (wpAny_eqBool_tuple hu (W.tup z zin) hx ?_)); refine wpAny_bind (wpAny_setState_of hob hdt W.fit ?_); dsimp only
        by_cases eq : z.2 = k
        · refine wp_if_pos (by simp [eq]) (wpAny_pure (yes (List.mem_map.mpr ⟨z, zin, eq⟩)))
        · refine wp_if_neg (by simp [eq]) ?_
          try refine wpAny_bind (wpAny_pure ?_)
          rw [sameMem]; dsimp only
          simp only [if_true, live, W.at_ hz]; refine wpAny_bind (wpAny_isSame_ref_self (wpAny_bind (wpAny_pure ?_))); simp only [if_true]; refine wp_if_neg (by simp [eq]) ?_
          refine W.seek hx hu bound free full yes no fuel (c + (n + 1)) _ rfl (by omega) (by omega) fun i0 z0 h0 e0 => ?_
          obtain ⟨e, b1, b2, b3⟩ := lies i0 z0 h0 e0
          refine ⟨e, Nat.lt_of_not_le fun le => ?_, b2, b3⟩
          rcases Nat.eq_or_lt_of_le le with q | q
          · have q : e = c + n := q
            rw [q] at b3
            have live0 := slot_live W.tab.up b3
            rw [live] at live0
            injection live0 with live0
            rw [← live0, hz] at h0
            cases h0
            exact eq e0
          · have q : e < c + n := q
            exact first_ (e - c) i0 (by omega) (by rw [slot, show c + (e - c) = e by omega]; exact b3) ((hash i0 z0 h0).trans (congrArg (thash P w) e0))
      by_cases ld : t.led = true
      · refine wp_if_neg (by simp [ld]) ?_
        try refine wpAny_bind (wpAny_pure ?_)
        exact look
      · refine wp_if_pos (by simp [ld]) ?_
        refine wpAny_bind (seen_tup hx (fun y hy => ?_) ?_)
        · obtain ⟨g, hg, rfl⟩ := List.mem_map.mp hy
          have in_ : g ∈ es.toList := by
            have hg2 : g ∈ es ∧ g.1 = thash P w k := by simpa using hg
            simpa using hg2.1
          rw [W.row] at in_
          obtain ⟨z2, hz2, rfl⟩ := List.mem_map.mp in_
          exact ⟨z2.2, z2.1, rfl, W.tup z2 hz2⟩
        · refine wp_if_neg (by decide) ?_
          try refine wpAny_bind (wpAny_pure ?_)
          exact look
    · -- none: the free slot
      rw [hst] at none_ met
      rw [slot, show c + (K - c) = K by omega] at met
      have met2 : t.probe (fun i => (es[i]?.map (·.1)).getD 0) (thash P w k) (stand.getD (t.probeStart (thash P w k))) = some (.empty (way t.mask (thash P w k) K) none) := by rw [hst]; exact met
      rw [met2]; dsimp only
      refine wpAny_pure (no fun hm => ?_)
      obtain ⟨z0, in0, e0⟩ := List.mem_map.mp hm
      obtain ⟨i0, h0⟩ := List.mem_iff_getElem?.mp in0
      obtain ⟨e, b1, b2, b3⟩ := lies i0 z0 h0 e0
      exact none_ (e - c) i0 (by omega) (by rw [slot, show c + (e - c) = e by omega]; exact b3) ((hash i0 z0 h0).trans (congrArg (thash P w) e0))
theorem SetW.search (W : SetW P w s.heap a L es ep t) {x : Addr} {k : List Int} (hx : IsT P w s.heap k x) (hu : A.units < cLine) {Q : SetFound → Shared → Prop} (yes : k ∈ L.map (·.2) → Q (.there none) s)
    (no : ∀ K, k ∉ L.map (·.2) → ¬ way t.mask (thash P w k) K ∈ t.place.toList → (∀ q, q < K → way t.mask (thash P w k) q ∈ t.place.toList) → Q (.free (way t.mask (thash P w k) K) false) s) :
    wpAny (model P w) A (setSearch a (.ref x) (thash P w k) true) Q E s := by
  have g := W.gap
  obtain ⟨K, bound, free, full⟩ := W.tab.gap (by rw [List.length_map]; omega) (thash P w k)
  have top := W.tab.rn.top
  have small : K < 100000 := by
    unfold SetTable.turns at bound
    omega
  unfold setSearch
  refine W.seek hx hu bound free full yes (fun hn => no K hn free full) 100000 0 none rfl (Nat.zero_le _) (by omega) fun i z hz e => ?_
  have lt : i < t.place.toList.length := by
    rw [W.tab.len, List.length_map]
    exact (List.getElem?_eq_some_iff.mp hz).1
  obtain ⟨q, hq, e2⟩ := W.tab.ahead free (show (L.map fun z => thash P w z.2)[i]? = some (thash P w k) by rw [List.getElem?_map, hz, ← e]; rfl) (List.getElem?_eq_getElem lt)
  exact ⟨q, Nat.zero_le _, hq, by rw [e2]; exact List.getElem?_eq_getElem lt⟩
end
end GX
/-! sets of tuples of any count up to 300: a tuple is added -/
namespace GX
open PySem PySem.Spec PyProof.Rows L2
theorem size_308 : SetTable.sizeAbove (SetTable.grown 77) = 512 := by decide +kernel
section
variable {P : Program} {w : World} {A : Around} {E : Value → Shared → Prop} {s : Shared} {a : Addr} {L : List (Addr × List Int)} {es : Array (Int × Value)} {ep : Nat} {t : SetTable}
theorem rows_count (row : es.toList = rowsOf P w L) : es.size = L.length := by rw [← Array.length_toList, row]; exact List.length_map ..
/-- a larger table -/
theorem relayW {u : Obj} (hob : s.heap.get? a = some u) (hex : u.ExactSet) (hdt : u.data = .set es ep t) (row : es.toList = rowsOf P w L) (sz : t.place.size = es.size) (dm : t.dummies = #[]) (le : es.size ≤ t.mask) (one : (L.map (·.2)).Nodup)
    (tup : ∀ z ∈ L, IsT P w s.heap z.2 z.1) (pln : t.plain = true) (led : w.params.followText "set-order" = true ∨ t.led = true) (few : L.length ≤ 300) {wanted m : Nat} (hw : SetTable.sizeAbove wanted - 1 = m) (R : Rnd m) (gap : L.length * 5 < m * 3) {Q : Unit → Shared → Prop}
    (fin : ∀ h2 L2 es2 ep2 t2, Heap.SameBut a s.heap h2 → SetW P w h2 a L2 es2 ep2 t2 → L2.Perm L → Q () { s with heap := h2 }) : wpAny (model P w) A (setRelay a wanted) Q E s := by
  have cnt := rows_count row
  have fit : t.fits es.size = true := by
    show (t.place.size == es.size && decide (t.place.size + t.dummies.size ≤ t.mask)) = true
    rw [dm, sz, beq_self_eq_true, decide_eq_true (show es.size + (#[] : Array Nat).size ≤ t.mask by show es.size + 0 ≤ _; omega)]; rfl
  have low := R.low
  have top := R.top
  obtain ⟨t2, order, e, pm, T, em, el, epl, ed⟩ := R.relaid t (hs := es.map (·.1)) hw (by rw [Array.size_map, cnt]; omega)
  rw [Array.size_map, cnt] at pm
  obtain ⟨L2, row2, pm2, hsh⟩ := order_rows L es order row pm
  rw [← hsh] at T
  have cnt2 := rows_count row2
  have len2 := pm2.length_eq
  rw [setRelay_eq]; refine wpAny_bind (wpAny_setState_of hob hdt fit ?_); dsimp only; refine wp_if_neg (by rw [sizeLine_eq]; omega) ?_
  try refine wpAny_bind (wpAny_pure ?_)
  rw [e]; dsimp only; refine wpAny_bind ?_; refine wp_if_neg (by rw [cnt2, len2, cnt]; simp) ?_
  try refine wpAny_bind (wpAny_pure ?_)
  refine wpAny_pure ?_; dsimp only; refine wpAny_storeSet_of hob hdt ?_ (by rw [cnt2, len2, sizeLine_eq]; omega)
  have same : Heap.SameBut a s.heap (s.heap.update a (Obj.putSet (order.filterMap (es[·]?)) t2)) := Heap.SameBut.update ..
  exact fin _ L2 (order.filterMap (es[·]?)) (ep + 1) t2 same { obj := ⟨_, store_at hob hdt, ⟨hex.1, hex.2.1, hex.2.2⟩, rfl⟩, row := row2, tab := T, one := (pm2.map (·.2)).nodup_iff.mpr one, tup := fun z hz => isT_same (tup z (pm2.mem_iff.mp hz)) hob hdt same, pln := by rw [epl]; exact pln, led := by rw [el]; exact led, gap := by rw [len2, em]; exact gap, few := by rw [len2]; exact few } pm2
/-- one more -/
theorem SetW.add (W : SetW P w s.heap a L es ep t) {x : Addr} {k : List Int} (hx : IsT P w s.heap k x) (hu : A.units < cLine) (room : L.length + 1 ≤ 300) {Q : Bool → Shared → Prop}
    (fin : ∀ b h2 L2 es2 ep2 t2, Heap.SameBut a s.heap h2 → SetW P w h2 a L2 es2 ep2 t2 → (k ∈ L.map (·.2) → L2 = L) → (k ∉ L.map (·.2) → L2.Perm ((x, k) :: L)) → Q b { s with heap := h2 }) :
    wpAny (model P w) A (setAddHashed a (.ref x) (thash P w k)) Q E s := by
  obtain ⟨u, hob, hex, hdt⟩ := W.obj
  have cnt := W.count
  have gap := W.gap
  unfold setAddHashed; refine wpAny_holding ?_; rw [show (100000 : Nat) = 99999 + 1 from rfl, setAddHashedIn_succ]
  refine wpAny_bind (wpAny_setState_of hob hdt W.fit ?_); dsimp only; refine wp_if_neg (by simp [byScan, Value.scannable]) ?_
  try refine wpAny_bind (wpAny_pure ?_)
  refine wpAny_bind (W.search hx hu (fun there => ?_) fun K out free full => ?_)
  · dsimp only; exact wpAny_pure (fin false s.heap L es ep t (Heap.SameBut.refl a s.heap) W (fun _ => rfl) fun z => absurd there z)
  dsimp only; refine wpAny_bind (wpAny_setState_of hob hdt W.fit ?_); dsimp only
  obtain ⟨pos, ple, T1, em, el, epl, efl⟩ := W.tab.lay free full
  have pl1 : (t.put (way t.mask (thash P w k) K)).1.plain = true := by rw [epl]; exact W.pln
  generalize hput : t.put (way t.mask (thash P w k) K) = tp at pos T1 em el epl efl pl1 ⊢
  obtain ⟨t1, p0⟩ := tp
  dsimp only at pos T1 em el epl efl pl1 ⊢
  subst pos
  first
    | (refine wpAny_bind ?_; refine wp_if_pos pl1 ?_; refine hashBy_tup hx ?_)
    | refine wp_if_pos pl1 (wpAny_bind (hashBy_tup hx ?_))
  simp only [if_true]
  generalize SetTable.below t.place (way t.mask (thash P w k) K) = p at ple T1 ⊢
  have row1 : (SetTable.insertAt es p (thash P w k, Value.ref x)).toList = rowsOf P w (L.take p ++ (x, k) :: L.drop p) := by rw [SetTable.toList_insertAt, rows_put, W.row]
  have pm := put_perm L p (x, k)
  rw [show (L.map fun z => thash P w z.2).take p ++ thash P w k :: (L.map fun z => thash P w z.2).drop p = (L.take p ++ (x, k) :: L.drop p).map fun z => thash P w z.2 by rw [List.map_append, List.map_cons, List.map_take, List.map_drop]] at T1
  generalize SetTable.insertAt es p (thash P w k, Value.ref x) = es1 at row1 ⊢
  generalize L.take p ++ (x, k) :: L.drop p = L1 at pm T1 row1
  have len1 : L1.length = L.length + 1 := pm.length_eq
  have one1 : (L1.map (·.2)).Nodup := (pm.map (·.2)).nodup_iff.mpr (List.nodup_cons.mpr ⟨out, W.one⟩)
  have cnt1 : es1.size = L.length + 1 := (rows_count row1).trans len1
  refine wpAny_bind (wpAny_storeSet_of hob hdt ?_ (by rw [cnt1, sizeLine_eq]; omega))
  have same : Heap.SameBut a s.heap (s.heap.update a (Obj.putSet es1 t1)) := Heap.SameBut.update ..
  have hob1 := store_at (es' := es1) (t' := t1) hob hdt
  generalize s.heap.update a (Obj.putSet es1 t1) = h1 at same hob1 ⊢
  have tup1 : ∀ z ∈ L1, IsT P w h1 z.2 z.1 := fun z hz => (List.mem_cons.mp (pm.mem_iff.mp hz)).elim (fun e => by rw [e]; exact isT_same hx hob hdt same) fun hz => isT_same (W.tup z hz) hob hdt same
  have led1 : w.params.followText "set-order" = true ∨ t1.led = true := by rw [el]; exact W.led
  have efl : t1.fill = L.length + 1 := efl.trans (by rw [List.length_map])
  have full_ : t1.tooFull = decide (t1.fill * 5 ≥ t1.mask * 3) := rfl
  by_cases hf : t1.tooFull = true
  · first
      | (refine wpAny_bind ?_; refine wp_if_pos (by simp [hf]) ?_)
      | (refine wp_if_pos (by simp [hf]) ?_; refine wpAny_bind ?_)
    rw [full_, decide_eq_true_eq, efl, em] at hf
    rw [cnt]
    have up : ∀ m, SetTable.sizeAbove (SetTable.grown (L.length + 1)) - 1 = m → Rnd m → (L.length + 1) * 5 < m * 3 → wpAny (model P w) A (setRelay a (SetTable.grown (L.length + 1))) (fun _ s' => wpAny (model P w) A (pure true) Q E s') E { s with heap := h1 } := fun m e R g => by
      refine relayW (s := { s with heap := h1 }) hob1 ⟨hex.1, hex.2.1, hex.2.2⟩ rfl row1 ((T1.sz.trans (List.length_map ..)).trans (by rw [cnt1, len1])) T1.dm (by rw [cnt1, em]; rcases W.tab.rn.is4 with e | e | e | e <;> omega) one1 tup1 pl1 led1 (by omega) e R (by rw [len1]; exact g) fun h2 L2 es2 ep2 t2 same2 W2 pm2 => ?_
      exact wpAny_pure (fin true h2 L2 es2 ep2 t2 (same.trans same2) W2 (fun z => absurd z out) fun _ => pm2.trans pm)
    have four : (t.mask = 7 ∧ L.length = 4) ∨ (t.mask = 31 ∧ L.length = 18) ∨ (t.mask = 127 ∧ L.length = 76) := by
      rcases W.tab.rn.is4 with e | e | e | e <;> rw [e] at hf gap <;> omega
    rcases four with ⟨_, e⟩ | ⟨_, e⟩ | ⟨_, e⟩
    · exact up 31 (by rw [e, size_20]) (rnd_of (.inr (.inl rfl))) (by omega)
    · exact up 127 (by rw [e, size_76]) (rnd_of (.inr (.inr rfl))) (by omega)
    · exact up 511 (by rw [e, size_308]) rnd_big (by omega)
  · first
      | refine wp_if_neg (by simp [hf]) ?_
      | (refine wpAny_bind ?_; refine wp_if_neg (by simp [hf]) ?_; refine wpAny_pure ?_)
    rw [full_, decide_eq_true_eq, efl] at hf
    exact wpAny_pure (fin true h1 L1 es1 (ep + 1) t1 same { obj := ⟨_, hob1, ⟨hex.1, hex.2.1, hex.2.2⟩, rfl⟩, row := row1, tab := T1, one := one1, tup := tup1, pln := pl1, led := led1, gap := by rw [len1]; omega, few := by omega } (fun z => absurd z out) fun _ => pm)
end
end GX
set_option maxHeartbeats 16000000
/-! sets of tuples of any count up to 300: set(xs) -/
namespace GX
open PySem PySem.Spec PyProof.Rows L2
section
variable {P : Program} {w : World} {A : Around} {E : Value → Shared → Prop} {s : Shared}
theorem SetW.stay {h h2 : Heap} {a : Addr} {L : List (Addr × List Int)} {es : Array (Int × Value)} {ep : Nat} {t : SetTable} (W : SetW P w h a L es ep t) (ha : ∀ u, h.get? a = some u → h2.get? a = some u) (ht : ∀ z ∈ L, IsT P w h2 z.2 z.1) : SetW P w h2 a L es ep t :=
  let ⟨u, hu, r⟩ := W.obj
  { W with obj := ⟨u, ha u hu, r⟩, tup := ht }
abbrev newSet (w : World) : Obj := { cls := .type "set", dict := none, data := .set #[] 0 (.fresh 0 0 (!w.params.followText "set-order")) }
theorem setW_new {h : Heap} {a : Addr} (e : h.get? a = some (newSet w)) : SetW P w h a [] #[] 0 (.fresh 0 0 (!w.params.followText "set-order")) where
  obj := ⟨_, e, ⟨rfl, rfl, rfl⟩, rfl⟩
  row := rfl
  tab := { up := List.Pairwise.nil, dm := rfl, sz := rfl, rn := rnd_of (.inl rfl), bd := (fun x hx => by cases hx), on := (fun i h j e => by simp at e) }
  one := List.nodup_nil
  tup := fun z hz => by cases hz
  pln := rfl
  led := (show _ ∨ (!w.params.followText "set-order") = true by cases w.params.followText "set-order" <;> simp)
  gap := (show 0 * 5 < 7 * 3 by decide)
  few := Nat.zero_le _
/-- the items one behind another -/
theorem updateW {I : Addr} {fp wr : List Addr} {G : Array GenState → Array GenState → Prop} {n : Nat} {Pv : Nat → Value → Prop} {St : Nat → Shared → Prop} {R : Result → Shared → Prop} (W : WalksS P w A.in1 I fp wr G n Pv St) (S : Addr) (out : S ∉ fp)
    (ks : List (Addr × List Int)) (hn : n = ks.length) (few : ks.length ≤ 300) (val : ∀ i v, Pv i v → ∃ z, ks[i]? = some z ∧ v = .ref z.1) (h0 : Heap) (hk : ∀ z ∈ ks, IsT P w h0 z.2 z.1) (new : h0.get? S = none) (newW : ∀ b ∈ wr, h0.get? b = none) (hu : A.in1.units < cLine) :
    ∀ (k i : Nat) (s : Shared), n - i = k → i ≤ n → St i s → (∀ b u, h0.get? b = some u → s.heap.get? b = some u) → (∃ L es ep t, SetW P w s.heap S L es ep t ∧ Got ks i L) →
      (∀ s2 L es ep t, Moved (S :: wr) G s s2 → SetW P w s2.heap S L es ep t → Got ks n L → (∀ b u, h0.get? b = some u → s2.heap.get? b = some u) → R (.ok (.ret .none)) s2) →
      codeAny (model P w) A (.builtin "set.update.loop" ⟨[.ref S, .ref I], []⟩) R s := by
  have outW : S ∉ wr := fun h => out (W.sub _ h)
  have up : ∀ b ∈ wr, b ∈ S :: wr := fun b hb => List.mem_cons_of_mem _ hb
  have carry : ∀ {s s2 : Shared}, Moved wr G s s2 → (∀ b u, h0.get? b = some u → s.heap.get? b = some u) → ∀ b u, h0.get? b = some u → s2.heap.get? b = some u := fun mv kp b u e => mv.heap b u (fun hb => by rw [newW b hb] at e; cases e) (kp b u e)
  intro k
  induction k with
  | zero =>
    intro i s ek hi hst kp ⟨L, es, ep, t, WS, g⟩ fin
    obtain rfl : i = n := by omega
    refine codeAny_builtin F.entry_set_update_loop ?_; rw [Around.under_plainId F.plain_set_update_loop _]
    show wpAny _ A.in1 (pyNext (.ref I) >>= _) _ _ s
    refine wpAny_bind (W.done s _ _ hst fun s2 mv => ?_); show wpAny _ A.in1 (ret Value.none) _ _ s2
    have kp2 := carry mv kp
    exact wpAny_pure (fin s2 L es ep t (mv.mono up) (WS.stay (fun u e => mv.heap S u outW e) fun z hz => isT_keep (hk z (List.mem_of_mem_take (g.sub z hz))) kp2) g kp2)
  | succ k ih =>
    intro i s ek hi hst kp ⟨L, es, ep, t, WS, g⟩ fin
    have lt : i < n := by omega
    refine codeAny_builtin F.entry_set_update_loop ?_; rw [Around.under_plainId F.plain_set_update_loop _]
    show wpAny _ A.in1 (pyNext (.ref I) >>= _) _ _ s
    refine wpAny_bind (W.item i s _ _ lt hst fun v s2 hv hst2 mv => ?_)
    obtain ⟨z, hz, rfl⟩ := val i v hv
    have kp2 := carry mv kp
    have WS2 : SetW P w s2.heap S L es ep t := WS.stay (fun u e => mv.heap S u outW e) fun y hy => isT_keep (hk y (List.mem_of_mem_take (g.sub y hy))) kp2
    have hx : IsT P w s2.heap z.2 z.1 := isT_keep (hk z (List.mem_of_getElem? hz)) kp2
    show wpAny _ A.in1 (holding [Value.ref z.1] (setAdd S (.ref z.1)) >>= _) _ _ s2
    refine wpAny_bind (wpAny_holding ?_); unfold setAdd; refine wpAny_holding ?_; refine wpAny_bind (wpAny_pyHash_tuple hu hx ?_)
    refine SetW.add (s := { s2 with toks := s2.toks + (z.2.length + 1) }) WS2 hx hu (by have := g.len; omega) fun b h3 L3 es3 ep3 t3 same W3 c1 c2 => ?_
    have g3 : Got ks (i + 1) L3 := (Classical.em (z.2 ∈ L.map (·.2))).elim (fun c => by rw [c1 c]; exact g.same hz c) fun c => g.more hz (c2 c)
    have away : ∀ b u, h0.get? b = some u → h3.get? b = some u := fun b u e => (same.2 b (fun q => by rw [q, new] at e; cases e)).trans (kp2 b u e)
    refine wpAny_pure ⟨plainId_quiet F.plain_set_update_loop _, ih (i + 1) _ (by omega) lt (W.frame _ s2 _ _ hst2 (Nat.le_add_right _ _) fun b hb u e => ?_) away ⟨L3, es3, ep3, t3, W3, g3⟩ fun s4 L4 es4 ep4 t4 mv4 W4 g4 kp4 => ?_⟩
    · rw [same.2 b (fun q : b = S => out (by rw [← q]; exact hb))]; exact e
    · refine fin s4 L4 es4 ep4 t4 (Moved.trans W.gtrans ((mv.mono up).then_heap (Nat.le_add_right _ _) fun b u hb e => ?_) mv4) W4 g4 kp4
      rw [same.2 b (fun q : b = S => hb (by rw [q]; exact List.mem_cons_self))]; exact e
/-- set(xs), xs a list of tuples of ints -/
theorem call_setW {l : Addr} {items : Array Value} (ks : List (Addr × List Int)) {Q : Value → Shared → Prop} (hh : A.handled = none) (hl : s.heap.IsList l items) (hit : items.toList = ks.map fun z => Value.ref z.1) (hk : ∀ z ∈ ks, IsT P w s.heap z.2 z.1) (few : ks.length ≤ 300) (hu : A.units + 3 < cLine)
    (fin : ∀ (h2 : Heap) (tk : Nat) L es ep t, SetW P w h2 s.heap.objs.size L es ep t → Got ks ks.length L → (∀ b u, s.heap.get? b = some u → h2.get? b = some u) → Q (.ref s.heap.objs.size) { s with heap := h2, toks := tk }) :
    wpAny (model P w) A (call (.type "set") [.ref l]) Q E s := by
  have cnt : items.size = ks.length := by rw [← Array.length_toList, hit]; exact List.length_map ..
  have made := F.called_set.made
  have sub := F.called_set.sub
  have notTy := F.called_set.notType
  have can := F.called_set.canCreate
  have tyc := F.typeCall_set_1 (.ref l)
  obtain ⟨c, tl, mro⟩ := F.called_set.mro
  refine wpAny_call (codeAny_of_tree ?_); show wpAny _ _ (callAny (.type "set") _) _ _ _
  refine wpAny_pure ⟨Code.quiet_builtin _ (by decide +kernel), codeAny_builtin F.entry_type_call ?_⟩; rw [Around.under_plain (weight_type_call_type "set" [.ref l] []) rfl]
  repeat (any_goals (first | assumption | wp_step))
  refine codeAny_mono (code_set_led1 (.ref l) (E := E) (Q₁ := fun ob s₁ => ob = .ref s.heap.objs.size ∧ s₁ = { s with heap := s.heap.push (newSet w) }) ⟨rfl, rfl⟩) fun r s₁ hr => ?_
  cases r with
  | error e => exact hr
  | ok fl =>
    cases fl with
    | ret ob =>
      obtain ⟨rfl, rfl⟩ := hr
      have at1 : (s.heap.push (newSet w)).get? s.heap.objs.size = some (newSet w) := Heap.get?_push_size _ rfl
      have ty1 : Shared.TypeIs { s with heap := s.heap.push (newSet w) } (.ref s.heap.objs.size) "set" := ⟨_, at1, rfl⟩
      have look := F.called_set.init.lookup
      have bind_ := F.called_set.init.bind (.ref s.heap.objs.size)
      repeat (any_goals (first | assumption | wp_step))
      refine codeAny_mono (codeAny_call_builtin (R := wants (fun r s₂ => r = .none ∧ ∃ h2 tk L es ep t, s₂ = { s with heap := h2, toks := tk } ∧ SetW P w h2 s.heap.objs.size L es ep t ∧ Got ks ks.length L ∧ (∀ b u, s.heap.get? b = some u → h2.get? b = some u)) E) F.called_set.init.plain F.entry_set_init (check_set_init_1 ty1 ?_)) fun r₂ s₂ hr₂ => ?_
      · obtain ⟨⟨ocls, odict, odata, oslots⟩, hol, hcl, nl, hdl⟩ := hl
        simp only at hcl hdl
        subst hcl; subst hdl
        have two : (s.heap.push (newSet w)).get? l = some { cls := .type "list", dict := odict, data := .seq items nl, slots := oslots } := Heap.get?_push_of_some _ hol
        have s1 := F.sub_list_set
        have s2 := F.sub_list_frozenset
        have nd : (Value.type "list" == Value.type "dict") = false := by decide
        have isl : (s.heap.push (newSet w)).IsList l items := ⟨_, two, rfl, nl, rfl⟩
        unfold Builtin.«set.__init__» noKeywords Builtin.Frozenset.updateFrom
        generalize hPI : pyIter = PI
        wp_walk
        subst hPI
        refine wpAny_pyIter_list isl ?_; refine wpAny_bind (wpAny_runValue ?_)
        have hlS : l < s.heap.objs.size := Heap.lt_size hol
        have calm : A.in1.in1.in1.handled = none := by simp [hh]
        have neI : l ≠ (s.heap.push (newSet w)).objs.size := by rw [Heap.size_push]; exact Nat.ne_of_lt (Nat.lt_succ_of_lt hlS)
        have outS : s.heap.objs.size ∉ [(s.heap.push (newSet w)).objs.size, l] := by
          rw [Heap.size_push]; simp only [List.mem_cons, List.not_mem_nil, or_false, not_or]; exact ⟨Nat.ne_of_lt (Nat.lt_succ_self _), Nat.ne_of_gt hlS⟩
        have val : ∀ (i : Nat) (v : Value), items[i]? = some v → ∃ z, ks[i]? = some z ∧ v = .ref z.1 := fun i v hv => by
          have q : items.toList[i]? = some v := by rw [Array.getElem?_toList]; exact hv
          rw [hit, List.getElem?_map] at q
          obtain ⟨z, hz, e⟩ := Option.map_eq_some_iff.mp q
          exact ⟨z, hz, e.symm⟩
        have none_ : ∀ b, s.heap.objs.size ≤ b → s.heap.get? b = none := fun b hb => Option.eq_none_iff_forall_ne_some.mpr fun u q => Nat.lt_irrefl _ (Nat.lt_of_lt_of_le (Heap.lt_size q) hb)
        refine updateW ((Walks.list calm _ l neI items).toS) s.heap.objs.size outS ks cnt few val s.heap hk (none_ _ (Nat.le_refl _)) (fun b hb => none_ b (by rw [List.mem_singleton.mp hb, Heap.size_push]; exact Nat.le_succ _)) hu (items.size - 0) 0 _ (by omega) (Nat.zero_le _)
          ⟨⟨_, Heap.get?_push_size _ rfl, rfl, rfl⟩, (isl.push _)⟩ (fun b u e => Heap.get?_push_of_some _ (Heap.get?_push_of_some _ e)) ?start ?fin2
        case start => exact ⟨[], #[], 0, _, setW_new (Heap.get?_push_of_some _ at1), Got.zero ks⟩
        case fin2 =>
          intro s3 L es ep t mv WS g kp
          obtain ⟨h3, g3, d3, tk3, os3⟩ := s3
          obtain rfl : g3 = s.gens := mv.gens
          obtain rfl : d3 = s.drawn := mv.drawn
          obtain rfl : os3 = s.os := mv.os
          show wpAny _ _ _ _ _ _
          refine wpAny_pure ?_; show wpAny _ _ (ret Value.none) _ _ _
          rw [cnt] at g
          exact wpAny_pure ⟨rfl, h3, tk3, L, es, ep, t, rfl, WS, g, kp⟩
      · cases r₂ with
        | error e => exact hr₂
        | ok fl₂ =>
          cases fl₂ with
          | ret r =>
            obtain ⟨rfl, h2, tk, L, es, ep, t, rfl, WS, g, kp⟩ := hr₂
            repeat (any_goals (first | assumption | wp_step))
            exact fin _ _ _ _ _ _ WS g kp
          | _ => exact hr₂.elim
    | _ => exact hr.elim
end
end GX
/-! len(set(xs)), xs a list of up to 300 tuples of ints, no two the same -/
namespace GX
open PySem PySem.Spec PyProof.Rows L2
theorem nodup_le {α : Type} [DecidableEq α] : ∀ (l D : List α), l.Nodup → (∀ x ∈ l, x ∈ D) → l.length ≤ D.length
  | [], _, _, _ => Nat.zero_le _
  | x :: l, D, nd, sub => by
    obtain ⟨nx, nl⟩ := List.nodup_cons.mp nd
    have hx := sub x List.mem_cons_self
    have pos : 0 < D.length := List.length_pos_of_mem hx
    have := nodup_le l (D.erase x) nl fun y hy => (List.mem_erase_of_ne (fun e => nx (by rw [← e]; exact hy))).mpr (sub y (List.mem_cons_of_mem _ hy))
    rw [List.length_erase_of_mem hx] at this
    rw [List.length_cons]
    omega
section
variable {X : Cx}
def tLenSetW (K : PySem.W.Frag) (ta : TE) : TE := fun σ H Q => ta σ H fun x H1 => ∃ (l : Addr) (ks : List (Addr × List Int)), x = V.ref l ∧ SqL K H1 l (ks.map fun z => V.ref z.1) ∧ (∀ z ∈ ks, SqT K H1 z.1 (z.2.map V.int)) ∧ ks.length ≤ 300 ∧ (ks.map (·.2)).Nodup ∧ Q (.int (ks.length : Int)) H1
theorem pe_lenSetW {a : Expr} {ta : TE} {p p2 q pos : Pos} (hc : X.calm = true) (hu : X.A.units + 64 < cLine) (hg : Gl X "len") (hm : X.mg "len" = none) (hg2 : Gl X "set") (hm2 : X.mg "set" = none) (ha : PE X a ta)
    (na : starEach [a] X.env = (false, eval a X.env) :: starEach [] X.env := by rfl) : PE X (.Call (.Name "len" p) [.Call (.Name "set" p2) [a] [] q] [] pos) (tLenSetW X.K ta) := by
  refine ⟨fun pins s σ H Q I h => ?_⟩
  refine Call_ (ld_blt I hg hm PySem.boot_len ?_); refine PyProof.Rows.callWith_builtin1 (PyProof.Rows.args_cons ?_ rfl) rfl rfl
  refine Call_ (ld_blt I hg2 hm2 PyProof.Rows.boot_set ?_)
  refine PyProof.Rows.callWith_type1 (PyProof.Rows.args_cons (thn (ha.run pins s σ H _ I h) fun v s1 ⟨x, H1, I1, r1, q1⟩ => PyProof.Rows.args_nil ?_) na) na rfl
  obtain ⟨l, ks, rfl, hl, hk, few, nd, fin⟩ := q1
  cases r1
  obtain ⟨its, rv, pl, hz⟩ := I1.list hl
  refine call_setW (P := X.prog) (w := X.w) ks (I1.ok.hd hc) pl.isList (by simpa using refs_of_vals rv) (fun z hz => I1.isT (hk z hz)) few (by omega) fun h2 tk L es ep t W g kp => ?_
  refine PyProof.Rows.args_nil ?_
  obtain ⟨u, hu2, hex, hdt⟩ := W.obj
  have cnt : es.size = L.length := SetW.count (s := { s1 with heap := h2 }) W
  have same : L.length = ks.length := Nat.le_antisymm g.len (by
    have := nodup_le (ks.map (·.2)) (L.map (·.2)) nd fun k hk => by
      obtain ⟨z, hz, rfl⟩ := List.mem_map.mp hk
      exact g.all z (by rw [List.take_length]; exact hz)
    rw [List.length_map, List.length_map] at this
    exact this)
  have I2 : Inv X pins σ H1 { s1 with heap := h2, toks := tk } := I1.kept kp
  refine call_len_set hu2 hex hdt (SetW.fit (s := { s1 with heap := h2 }) W) (by rw [cnt, same]; omega) ⟨.int (ks.length : Int), H1, I2.tok _, ⟨_, by rw [cnt, same]⟩, fin⟩
end
end GX
set_option maxHeartbeats 8000000
/-! law_k10: what walks tell, plainly -/
namespace GX
open PySem PySem.Spec PyProof.Rows L2 LamX
def cP (p : Pl) : Nat := p.1 * 1000 + p.2
theorem gtL_some {p : Pl} {nm : Nm} (h1 : p.2 < 1000) (h2 : nm.1.2 < 1000) : gtL (some p) nm = decide (cP p < cP nm.1) := by
  unfold gtL gtI lastI cP
  dsimp only
  by_cases c : (nm.1.1 : Int) = (p.1 : Int)
  · rw [if_pos c]
    by_cases d : (p.2 : Int) < (nm.1.2 : Int)
    · rw [decide_eq_true d, decide_eq_true (by omega)]
    · rw [decide_eq_false d, decide_eq_false (by omega)]
  · rw [if_neg c]
    by_cases d : (p.1 : Int) < (nm.1.1 : Int)
    · rw [decide_eq_true d, decide_eq_true (by omega)]
    · rw [decide_eq_false d, decide_eq_false (by omega)]
section
variable {sh : List Page} {R : List Row1} {D : List Ent}
theorem Kn.nm_small (kn : Kn sh R D) {nm : Nm} (h : nm ∈ namesOf sh) : nm.1.1 < 12 ∧ nm.1.2 < 8 ∧ nm.2 ≤ 99 := by
  obtain ⟨e, he, rfl⟩ := kn.at_ h
  exact kn.small he
theorem name_turn {nm : Nm} (h : nm ∈ namesOf sh) : nm.2 = turnAt sh nm.1 := by
  unfold namesOf at h
  obtain ⟨p, _, rfl⟩ := List.mem_map.mp h
  rfl
/-- the next of a walk: all others that are behind are behind it -/
theorem nxt_least (kn : Kn sh R D) {last : Option Pl} {m : Nm} (h : nxtL sh last = some m) : m ∈ namesOf sh ∧ gtL last m = true ∧ ∀ nm ∈ namesOf sh, gtL last nm = true → nm = m ∨ cP m.1 < cP nm.1 := by
  obtain ⟨hm, as, bs, e, no⟩ := List.find?_eq_some_iff_append.mp h
  have hin : m ∈ namesOf sh := by rw [e]; simp
  refine ⟨hin, hm, fun nm hn hg => ?_⟩
  have r := names_rise kn.rows
  have hn' := hn
  rw [e] at hn r
  rcases List.mem_append.mp hn with h1 | h1
  · have := no nm h1
    rw [hg] at this
    cases this
  · rcases List.mem_cons.mp h1 with h2 | h2
    · exact .inl h2
    · have lt := (List.pairwise_cons.mp (List.pairwise_append.mp r).2.1).1 nm h2
      obtain ⟨a1, a2, a3⟩ := kn.nm_small hin
      obtain ⟨b1, b2, b3⟩ := kn.nm_small hn'
      right
      unfold nmC at lt
      unfold cP
      rcases Nat.lt_or_ge (m.1.1 * 1000 + m.1.2) (nm.1.1 * 1000 + nm.1.2) with q | q
      · exact q
      · exfalso
        have e1 : m.1 = nm.1 := Prod.ext (by omega) (by omega)
        have e2 : m.2 = nm.2 := by rw [name_turn hin, name_turn hn', e1]
        omega
/-- what holds of a walk and of those that stay -/
structure Inv10 (sh : List Page) (s : WkS) (stay : List Nm) : Prop where
  small : ∀ nm ∈ s.told, nm.1.2 < 1000
  rise : s.told.Pairwise fun a b => cP a.1 < cP b.1
  last : match s.last with
    | none => s.told = []
    | some p => p.2 < 1000 ∧ ∀ nm ∈ s.told, cP nm.1 ≤ cP p
  sub : ∀ nm ∈ stay, nm ∈ namesOf sh
  seen : ∀ nm ∈ stay, nm ∈ s.told ∨ (s.over = false ∧ gtL s.last nm = true)
theorem Inv10.start {stay : List Nm} (h : ∀ nm ∈ stay, nm ∈ namesOf sh) : Inv10 sh ⟨none, false, []⟩ stay := ⟨fun _ h => (nomatch h), List.Pairwise.nil, rfl, h, fun nm _ => .inr ⟨rfl, gtL_none nm⟩⟩
theorem Inv10.deed {sh' : List Page} {s : WkS} {stay stay' : List Nm} (i : Inv10 sh s stay) (h1 : ∀ nm ∈ stay', nm ∈ stay) (h2 : ∀ nm ∈ stay', nm ∈ namesOf sh') : Inv10 sh' s stay' := ⟨i.small, i.rise, i.last, h2, fun nm h => i.seen nm (h1 nm h)⟩
theorem Inv10.step (kn : Kn sh R D) {s : WkS} {stay : List Nm} (i : Inv10 sh s stay) : Inv10 sh (stp sh s) stay := by
  unfold stp
  by_cases ho : s.over = true
  · rw [if_pos ho]; exact i
  · rw [if_neg ho]
    have ho : s.over = false := by simpa using ho
    cases hn : nxtL sh s.last with
    | none =>
      refine ⟨i.small, i.rise, i.last, i.sub, fun nm h => ?_⟩
      rcases i.seen nm h with q | ⟨_, q⟩
      · exact .inl q
      · have := List.find?_eq_none.mp hn nm (i.sub nm h)
        exact absurd q this
    | some m =>
      obtain ⟨hin, hg, least⟩ := nxt_least kn hn
      obtain ⟨b1, b2, b3⟩ := kn.nm_small hin
      have below : ∀ a ∈ s.told, cP a.1 < cP m.1 := fun a ha => by
        have hl := i.last
        cases hs : s.last with
        | none => rw [hs] at hl; rw [show s.told = [] from hl] at ha; cases ha
        | some p =>
          rw [hs] at hl hg
          rw [gtL_some hl.1 (by omega)] at hg
          have := hl.2 a ha
          have := of_decide_eq_true hg
          omega
      refine ⟨fun nm h => ?_, ?_, ⟨by omega, fun nm h => ?_⟩, i.sub, fun nm h => ?_⟩
      · rcases List.mem_append.mp h with q | q
        · exact i.small nm q
        · rw [List.mem_singleton.mp q]; omega
      · exact List.pairwise_append.mpr ⟨i.rise, List.pairwise_singleton _ _, fun a ha b hb => by rw [List.mem_singleton.mp hb]; exact below a ha⟩
      · rcases List.mem_append.mp h with q | q
        · exact Nat.le_of_lt (below nm q)
        · rw [List.mem_singleton.mp q]; exact Nat.le_refl _
      · rcases i.seen nm h with q | ⟨_, q⟩
        · exact .inl (List.mem_append_left _ q)
        · rcases least nm (i.sub nm h) q with e | lt
          · rw [e]; exact .inl (List.mem_append_right _ (List.mem_singleton.mpr rfl))
          · obtain ⟨c1, c2, c3⟩ := kn.nm_small (i.sub nm h)
            exact .inr ⟨rfl, by rw [gtL_some (by omega) (by omega)]; exact decide_eq_true lt⟩
theorem Inv10.nodup {s : WkS} {stay : List Nm} (i : Inv10 sh s stay) : s.told.Nodup := i.rise.imp fun h e => by rw [e] at h; omega
theorem Inv10.done {s : WkS} {stay : List Nm} (i : Inv10 sh s stay) (ho : s.over = true) : ∀ nm ∈ stay, nm ∈ s.told := fun nm h => (i.seen nm h).elim id fun q => by rw [ho] at q; cases q.1
/-- how many steps there may be -/
def left10 (sh : List Page) (s : WkS) : Nat := if s.over = true then 0 else ((namesOf sh).filter (gtL s.last)).length + 1
theorem left_step (kn : Kn sh R D) {s : WkS} {stay : List Nm} (i : Inv10 sh s stay) (ho : s.over = false) : left10 sh (stp sh s) + 1 ≤ left10 sh s := by
  have e0 : left10 sh s = ((namesOf sh).filter (gtL s.last)).length + 1 := if_neg (by rw [ho]; decide)
  rw [e0]
  unfold stp
  rw [if_neg (by rw [ho]; decide)]
  cases hn : nxtL sh s.last with
  | none => show 0 + 1 ≤ _; omega
  | some m =>
    obtain ⟨hin, hg, least⟩ := nxt_least kn hn
    obtain ⟨b1, b2, b3⟩ := kn.nm_small hin
    show ((namesOf sh).filter (gtL (some m.1))).length + 1 + 1 ≤ _
    have hmem : m ∈ (namesOf sh).filter (gtL s.last) := List.mem_filter.mpr ⟨hin, hg⟩
    have nd := names_nodup kn.rows
    have := nodup_le ((namesOf sh).filter (gtL (some m.1))) (((namesOf sh).filter (gtL s.last)).erase m) (nd.sublist List.filter_sublist) fun nm h => by
      obtain ⟨h1, h2⟩ := List.mem_filter.mp h
      obtain ⟨c1, c2, c3⟩ := kn.nm_small h1
      rw [gtL_some (by omega) (by omega)] at h2
      have lt := of_decide_eq_true h2
      refine (List.mem_erase_of_ne fun e => by rw [e] at lt; omega).mpr (List.mem_filter.mpr ⟨h1, ?_⟩)
      have hl := i.last
      cases hs : s.last with
      | none => exact gtL_none nm
      | some p =>
        rw [hs] at hl hg
        rw [gtL_some hl.1 (by omega)] at hg ⊢
        have := of_decide_eq_true hg
        exact decide_eq_true (by omega)
    rw [List.length_erase_of_mem hmem] at this
    have pos := List.length_pos_of_mem hmem
    omega
theorem left_top (s : WkS) : left10 sh s ≤ (namesOf sh).length + 1 := by
  unfold left10
  split
  · omega
  · have := List.length_filter_le (gtL s.last) (namesOf sh)
    omega
theorem left_over {s : WkS} (h : left10 sh s = 0) : s.over = true := by
  unfold left10 at h
  split at h
  · assumption
  · cases h
theorem stp_told (s : WkS) : (stp sh s).told.length ≤ s.told.length + 1 := by
  unfold stp
  split
  · omega
  · split
    · exact Nat.le_succ _
    · show (s.told ++ [_]).length ≤ _
      rw [List.length_append]; exact Nat.le_refl _
end
end GX
/-! the laws' own deed: what stands in the table is what stood there, or new -/
namespace GX
open PySem PySem.Spec PyProof.Rows L2 LamX
def spDeedN (K : PySem.W.Frag) (T : List (Addr × Str)) (C CS P1 P2 PF : Addr) : Sp := fun vs H Q _ => ∃ b l q p sl r sh R D, vs = [.ref b, .ref q, .ref r] ∧ Sta K C CS b l q p sl r sh D H ∧ Kn sh R D ∧ D.length ≤ 95 ∧ TG T P1 P2 PF P1 H ∧
  ∀ H' sh' R' D', XM T (SD b l p sl r) H H' → Sta K C CS b l q p sl r sh' D' H' → Kn sh' R' D' → D'.length ≤ D.length + 1 → sh'.length = sh.length → (∀ e ∈ D', e ∈ D ∨ H e.2.2 = none) → Q .non H'
section
variable {P : Program} {w : World} {K : PySem.W.Frag} {mg : Str → Option Value} {base : Heap} {T : List (Addr × Str)} {C CS cFu cBR cNR P1 P2 PF : Addr}
theorem ok_ldeedN {f : Addr} {fd : FuncData} (F : L2.Fun K "_law_deed" "_law_deed" s_ldeed f fd) (S : STx K CS) (B : Blt mg) (B2 : Blt2 mg) (gFu : mg "Full" = some (.ref cFu)) (hFF : PySem.W.exmOne K (.ref cFu) (.ref cFu) = some true) (cT : Cal P w K mg base CX0 "_law_take" ["_law_box", "_law_many"] 1 (spTake T)) (cV : Cal P w K mg base CX0 "_law_values" ["_law_box"] 2 (spValues K T))
    (mPut : Met P w K mg base (L2.CX P w) CS "put" ["self", "values"] 9 (spSPut K T C CS P1 P2 PF P1 cFu cBR)) (mChange : Met P w K mg base (L2.CX P w) CS "change" ["self", "name", "values"] 9 (spSChange K T C CS P1 P2 PF P1 cFu cBR cNR)) (mDrop : Met P w K mg base (L2.CX P w) CS "drop" ["self", "name"] 9 (spSDrop K T C CS P1 P2 cNR)) :
    FnOk P w K mg base CX0 10 f fd ["_law_box", "_law_shelf", "_law_rows"] (spDeedN K T C CS P1 P2 PF) := by
  refine F.ok sc_ldeed (fun vs H Q E h => by obtain ⟨b, l, q, p, sl, r, sh, R, D, rfl, _⟩ := h; rfl) (fun cdv A outer s H vs Q E hr h => ?_)
  obtain ⟨b, l, q, p, sl, r, sh, R, D, rfl, st0, kn, h63, tg, k⟩ := h
  have nd := sc_ldeed.nd
  have hu := hr.units
  have hu1 := hu_of hr
  refine ⟨_, pss_cons (ps_set (i := 3) nd rfl (.inl rfl) (pe_cal cT (hr.mono (by decide)) (pa_cons (pv 0) (pa_cons pe_int pa_nil))))
    (pss_cons (ps_set (i := 4) nd rfl (.inl rfl) (pe_cal cV (hr.mono (by decide)) (pa_cons (pv 0) pa_nil)))
    (pss_cons (ps_set (i := 5) nd rfl (.inl rfl) (pe_callB (cr_sortedDO (d := 3) (B := 1000) (by decide) rfl) (by rfl) B2.sorted boot_sorted (pa_cons (pv 2) pa_nil)))
    (pss_one (ps_try_only (X := (cxOf CX0 P w K mg base ldN "_law_deed" (defScope s_ldeed) f cdv A outer s H E).nox) (tb := tDeed K T C CS P1 P2 PF cFu cBR cNR) (ts := fun _ _ _ => tRetN) rfl rfl (x := "Full") (c := .ref cFu) ⟨rfl, by decide, .inl gFu⟩ L2.takes0
      (fun W pn xe tk _ => pss_one (ps_if (PW.pt (pw_or (pt_cmpR op_lt (pv 3) pe_int (nomark _)) (pw_or1 (pt_cmpR (op_eqD hu) (pv 5) (pe_lst pa_nil) (nomark _)))))
        (pss_one (ps_dput hu1 (pv 2) (pe_metS mPut S.cl hr (passAt tk) (pv 1) (pa_cons (pe_callTy call_list_of (by rfl) B.list boot_list (pa_cons (pv 4) pa_nil)) pa_nil)) (pv 4) rfl))
        (pss_one (ps_if (pt_cmpR op_lt (pv 3) pe_int (nomark _))
          (pss_cons (ps_set (i := 6) nd rfl (.inl rfl) (pe_ix ix_list (pv 5) (pe_cal cT (hr.mono (by decide)) (pa_cons (pv 0) (pa_cons (pe_callB call_len_seq (by rfl) B.len PySem.boot_len (pa_cons (pv 5) pa_nil)) pa_nil))) (fun _ _ => rfl)))
          (pss_cons (ps_expr (pe_metS mChange S.cl hr (passAt tk) (pv 1) (pa_cons (pv 6) (pa_cons (pe_callTy call_list_of (by rfl) B.list boot_list (pa_cons (pv 4) pa_nil)) pa_nil))))
          (pss_one (ps_dput hu1 (pv 2) (pv 6) (pv 4) rfl))))
          (pss_cons (ps_set (i := 6) nd rfl (.inl rfl) (pe_ix ix_list (pv 5) (pe_cal cT (hr.mono (by decide)) (pa_cons (pv 0) (pa_cons (pe_callB call_len_seq (by rfl) B.len PySem.boot_len (pa_cons (pv 5) pa_nil)) pa_nil))) (fun _ _ => rfl)))
          (pss_cons (ps_expr (pe_metS mDrop S.cl hr (passAt tk) (pv 1) (pa_cons (pv 6) pa_nil)))
          (pss_one (ps_expr (pe_bm PySem.F.plainAttrs_dict PySem.F.slot_dict_pop PySem.F.type_dict_pop (mt_pop1T hu1) (pv 2) (pa_cons (pv 6) pa_nil))))))))))
      (fun a oe cls d pn hz hf => pss_one ps_retN))))), ?_⟩
  -- the way, the values
  obtain ⟨ns, z, bx⟩ := st0.bx
  refine ⟨_, rfl, b, l, ns, z, 7, rfl, bx, by decide, by decide, fun H1 ns1 z1 way a1 bx1 w0 w1 => ?_⟩
  have st1 := st0.take a1 bx1
  refine ⟨_, rfl, b, l, ns1, z1, rfl, bx1, fun H2 ns2 z2 av vals a2 bx2 nav ev lv cv => ?_⟩
  have st2 := st1.take a2 bx2
  have x02 := a1.trans a2
  have fav := st1.fresh nav
  -- the names, sorted
  refine ⟨_, rfl, ?_⟩
  dsimp only [tNil]
  refine sort_rows st2.w kn (by omega) fun zs an hzs htz nan => ?_
  have x3 := XX.new (T := T) (o := .lst (zs.map fun z => V.ref z.2)) nan
  have st3 := st2.xx x3
  have fan := st2.fresh nan
  have ean : upd H2 an (.lst (zs.map fun z => V.ref z.2)) an = some (.lst (zs.map fun z => V.ref z.2)) := upd_same
  have ev3 := x3.lst ev
  have htz3 : ∀ z ∈ zs, upd H2 an (.lst (zs.map fun z => V.ref z.2)) z.2 = some (.tup (nmV z.1)) := fun z hz => x3.tup (htz z hz)
  have x03 : XM T (fun c => c = b ∨ c = l) H (upd H2 an (.lst (zs.map fun z => V.ref z.2))) := x02.trans x3.xm
  have tg3 := tg.xm x03
  revert st3 ean ev3 htz3 x03 tg3
  generalize upd H2 an (.lst (zs.map fun z => V.ref z.2)) = H3
  intro st3 ean ev3 htz3 x03 tg3
  dsimp only [gName]
  have hzl : zs.length = D.length := by
    have h1 := congrArg List.length hzs
    have h2 := kn.perm.length_eq
    rw [List.length_map] at h1 h2
    omega
  have toSD : ∀ {S : Addr → Prop} {Ha Hb : Hp}, XM T S Ha Hb → (∀ c, S c → SD b l p sl r c) → XM T (SD b l p sl r) Ha Hb := fun x h => x.mono h
  have xSD := toSD x03 (fun c h => h.elim (fun e => .inr (.inr (.inl e))) fun e => .inr (.inr (.inr (.inl e))))
  -- Full: nothing is changed
  have full : ∀ {σ : L2.St} {H' : Hp}, XM T (SD b l p sl r) H H' → Sta K C CS b l q p sl r sh D H' → wOnly K (.ref cFu) (fun _ _ _ => tRetN) (fun _ _ _ _ => False) { nx := fun _ H' => Q .non H', rt := Q } (.ref cFu) none σ H' := fun x s => ⟨true, hFF, fun _ a _ => k _ _ _ _ x s kn (by omega) rfl (fun e he => .inl he), fun z => nomatch z⟩
  have fin := k
  -- the way that puts
  have put : ∀ (σ : L2.St) (H4 : Hp), σ = [some (.ref b), some (.ref q), some (.ref r), some (.int way), some (.ref av), some (.ref an), none] → XX T H3 H4 →
      sDPut (tVar 2) (tMethS CS "put" (spSPut K T C CS P1 P2 PF P1 cFu cBR) (WE (wOnly K (.ref cFu) (fun _ _ _ => tRetN) (fun _ _ _ _ => False) { nx := fun _ H' => Q .non H', rt := Q })) (tVar 1) (tCons (tCB (rLstQ K) (tCons (tVar 4) tNil)) tNil)) (tVar 4) { nx := fun _ H' => Q .non H', rt := Q } σ H4 := by
    rintro σ H4 rfl x4
    have st4 := st3.xx x4
    obtain ⟨qx4, dx4, d4, s4⟩ := st4.st
    refine ⟨_, rfl, _, rfl, _, rfl, q, _, _, rfl, s4.ins, rfl, _, rfl, av, _, rfl, .inl (SqL.of (x4.lst ev3)), fun u5 n5 => ?_⟩
    dsimp only [tNil]
    have x5 := XX.new (T := T) (o := .lst (vals.map fun (n : Nat) => V.int (n : Int))) n5
    have st5 := st4.xx x5
    have f5 := st4.fresh n5
    refine sp_put (s4.xx x5) (natsD_at upd_same) (fun e => f5.1 (by injection e)) (fun e => f5.2.1 (by injection e)) (by omega) cv kn.rows.usedB ((tg3.xm (S := fun _ => False) x4.xm).xm (S := fun _ => False) x5.xm) (fun e H6 x6 => full (xSD.trans ((x4.trans x5).trans x6).xm) (st5.xx x6)) (fun sh' nm e H6 t6 d6 x6 n6 s6 et6 => ?_)
    obtain ⟨n, pgs, _, _, _, _, kn6, hne⟩ := kn.putX (a := av) cv e
    have st6 := st5.deed x6 s6
    have fav6 : H6 av = some (.lst (vals.map fun (n : Nat) => V.int (n : Int))) := x6.lst (x5.lst (x4.lst ev3)) (fun h => h.elim fav.1 fav.2.1)
    obtain ⟨st7, x7⟩ := st6.put (nm := nm) fav6 ⟨fav.1, fav.2.1, fav.2.2.1, fav.2.2.2.1⟩
    refine ⟨r, _, rfl, .inr ⟨_, nmK nm, t6, st6.w.hd, rfl, by rw [nmK_kV]; exact et6, ?_, rfl⟩, ?_⟩
    · rw [List.length_map]
      exact Nat.lt_of_lt_of_le (show D.length < 100 by omega) (by decide)
    · refine fin _ _ _ _ (xSD.trans (((x4.trans x5).xm.trans (toSD x6 (fun c h => h.elim .inl fun e => .inr (.inl e)))).trans (toSD x7 fun c h => .inr (.inr (.inr (.inr h)))))) st7 kn6 putE_len (putX_len e) fun e he => (mem_putE he).elim (fun z => .inr (by rw [z]; exact a1.free nav)) fun z => .inl z.1
  unfold tDeed
  refine ⟨_, rfl, _, _, rfl, rfl, _, rfl, ?_⟩
  by_cases hw : way < 3
  · rw [decide_eq_true hw]
    exact put _ _ rfl (XX.refl _)
  rw [decide_eq_false hw]
  refine iteF ⟨_, rfl, Nat.zero_le _, fun a4 n4 => ?_⟩
  have x4 := XX.new (T := T) (o := .lst []) n4
  refine ⟨.list ((namesOf sh).map nmD), .list [], .lst (x4.sqL (SqL.of ean)) (by rw [← hzs]; exact Dp.xxAll x4 _ _ (zs_dp htz3)), .lst (SqL.of upd_same) .nil, names_sh _, shaped_nil, _, rfl, ?_⟩
  by_cases hz : zs = []
  · have e0 : namesOf sh = [] := by rw [← hzs, hz]; rfl
    rw [e0]
    exact put _ _ rfl x4
  have hne : PyData.eqv (.list ((namesOf sh).map nmD)) (.list []) = false := by
    rw [← hzs]
    cases zs with
    | nil => exact absurd rfl hz
    | cons z zs => rfl
  rw [hne]
  refine iteF ⟨_, rfl, _, _, rfl, rfl, _, rfl, ?_⟩
  have st4 := st3.xx x4
  have tg4 := tg3.xm (S := fun _ => False) x4.xm
  have xSD4 := xSD.trans x4.xm (S := SD b l p sl r)
  have mem : ∀ z ∈ zs, ∃ e ∈ D, e.1 = z.1 := fun z hz => kn.at_ (by rw [← hzs]; exact List.mem_map.mpr ⟨z, hz, rfl⟩)
  by_cases hw6 : way < 6
  · rw [decide_eq_true hw6]
    refine pick_name (T := T) st4 rfl rfl (x4.lst ean) hz (by omega) ⟨fan.2.2.1, fan.2.2.2.1⟩ fun H5 zz hzz x5 st5 => ?_
    obtain ⟨en, hen, een⟩ := mem zz hzz
    obtain ⟨qx5, dx5, d5, s5⟩ := st5.st
    have ez5 : H5 zz.2 = some (.tup (nmV zz.1)) := x5.tup _ _ (x4.tup (htz3 zz hzz))
    have fav5 : H5 av = some (.lst (vals.map fun (n : Nat) => V.int (n : Int))) := x5.lst (x4.lst ev3) (fun h => h.elim fav.2.2.1 fav.2.2.2.1)
    refine ⟨_, rfl, q, _, _, rfl, s5.ins, rfl, _, rfl, _, rfl, av, _, rfl, .inl (SqL.of fav5), fun u6 n6 => ?_⟩
    dsimp only [tNil]
    have x6 := XX.new (T := T) (o := .lst (vals.map fun (n : Nat) => V.int (n : Int))) n6
    have st6 := st5.xx x6
    have f6 := st5.fresh n6
    have x5S := toSD x5 (fun c h => h.elim (fun e => .inr (.inr (.inl e))) fun e => .inr (.inr (.inr (.inl e))))
    refine sp_change (nm := en.1) (s5.xx x6) (by rw [een]; exact nmV_dp (SqT.of (x6.tup ez5))) (natsD_at upd_same) (fun e => f6.1 (by injection e)) (fun e => f6.2.1 (by injection e)) (by omega) cv kn.rows.usedB (kn.live hen) ((tg4.xm x5).xm (S := fun _ => False) x6.xm) (fun e H7 x7 => full ((xSD4.trans x5S).trans (x6.trans x7).xm) (st6.xx x7)) (fun sh' e H7 d7 x7 s7 => ?_)
    obtain ⟨old, _, _, _, _, kn7⟩ := kn.changeX (a := av) hen cv e
    have st7 := st6.deed x7 s7
    have fav7 : H7 av = some (.lst (vals.map fun (n : Nat) => V.int (n : Int))) := x7.lst (x6.lst fav5) (fun h => h.elim fav.1 fav.2.1)
    obtain ⟨st8, x8⟩ := st7.put (nm := en.1) fav7 ⟨fav.1, fav.2.1, fav.2.2.1, fav.2.2.2.1⟩
    refine ⟨_, rfl, _, rfl, _, rfl, r, _, rfl, .inr ⟨_, nmK en.1, zz.2, st7.w.hd, rfl, by rw [nmK_kV, een]; exact x7.tup _ _ (x6.tup ez5), ?_, rfl⟩, ?_⟩
    · rw [List.length_map]
      exact Nat.lt_of_lt_of_le (show D.length < 100 by omega) (by decide)
    · exact k _ _ _ _ ((xSD4.trans x5S).trans ((x6.xm.trans (toSD x7 (fun c h => h.elim .inl fun e => .inr (.inl e)))).trans (toSD x8 fun c h => .inr (.inr (.inr (.inr h)))))) st8 kn7 putE_len (changeX_len e) fun e he => (mem_putE he).elim (fun z => .inr (by rw [z]; exact a1.free nav)) fun z => .inl z.1
  · rw [decide_eq_false hw6]
    refine iteF (pick_name (T := T) st4 rfl rfl (x4.lst ean) hz (by omega) ⟨fan.2.2.1, fan.2.2.2.1⟩ fun H5 zz hzz x5 st5 => ?_)
    obtain ⟨en, hen, een⟩ := mem zz hzz
    obtain ⟨qx5, dx5, d5, s5⟩ := st5.st
    have ez5 : H5 zz.2 = some (.tup (nmV zz.1)) := x5.tup _ _ (x4.tup (htz3 zz hzz))
    refine ⟨_, rfl, q, _, _, rfl, s5.ins, rfl, _, rfl, ?_⟩
    dsimp only [tNil]
    have x5S := toSD x5 (fun c h => h.elim (fun e => .inr (.inr (.inl e))) fun e => .inr (.inr (.inr (.inl e))))
    refine sp_drop (nm := en.1) s5 (by rw [een]; exact nmV_dp (SqT.of ez5)) (kn.live hen) (tg4.xm x5) fun H6 d6 x6 s6 => ?_
    obtain ⟨old, _, _, _, kn6⟩ := kn.dropX hen
    have st6 := st5.deed x6 s6
    obtain ⟨st7, x7⟩ := st6.pop (nm := en.1)
    refine ⟨_, rfl, .inr (.inr (.inl ⟨rfl, .inr ⟨_, st6.w.hd⟩⟩)), _, rfl, r, _, nmK en.1, zz.2, .ref en.2.2, rfl, rfl, st6.w.hd, by rw [nmK_kV, een]; exact x6.tup _ _ ez5, valE_find hen kn.nd, ?_⟩
    exact k _ _ _ _ ((xSD4.trans x5S).trans ((toSD x6 (fun c h => h.elim .inl fun e => .inr (.inl e))).trans (toSD x7 fun c h => .inr (.inr (.inr (.inr h)))))) st7 kn6 (Nat.le_succ_of_le dropE_len) (dropX_len ..) fun e he => .inl (mem_dropE.mp he).1
end
end GX
/-! the laws' own begin: what stands in its table is new -/
namespace GX
open PySem PySem.Spec PyProof.Rows L2 LamX
def spBeginN (K : PySem.W.Frag) (T : List (Addr × Str)) (C CS P1 P2 PF : Addr) : Sp := fun vs H Q _ => ∃ b l ns z, vs = [.ref b] ∧ BoxAt H b l ns z ∧ TG T P1 P2 PF P1 H ∧
  ∀ H' q p sl r sh R D t, XM T (fun c => c = b ∨ c = l) H H' → H q = none → H p = none → H sl = none → H r = none → Sta K C CS b l q p sl r sh D H' → Kn sh R D → D.length ≤ 29 → 2 ≤ sh.length → (∀ e ∈ D, H e.2.2 = none) → H' t = some (.tup [.ref p, .ref q, .ref r]) → Q (.ref t) H'
section
variable {P : Program} {w : World} {K : PySem.W.Frag} {mg : Str → Option Value} {base : Heap} {T : List (Addr × Str)} {C CS cD P1 P2 PF : Addr}
abbrev lbN2 : List Str := ["_law_box", "_law_disk", "_law_shelf", "_law_rows", "_law_turn"]
theorem sc_lbeginN : FnScope lbN2 ["_law_box"] (defScope s_lbegin) := ⟨rfl, rfl, rfl, by decide +kernel, rfl, by decide +kernel, by decide +kernel⟩
theorem ok_lbeginN {f : Addr} {fd : FuncData} (F : L2.Fun K "_law_begin" "_law_begin" s_lbegin f fd) (B : Blt mg) (cT : Cal P w K mg base CX0 "_law_take" ["_law_box", "_law_many"] 1 (spTake T)) (cD' : Ctor P w K mg base "Disk" C ["self", "many"] 2 (spDInit K T C cD)) (cSh : Ctor P w K mg base "Shelf" CS ["self", "disk"] 10 (spSInit K T C CS P1 P2))
    (cDe : Cal P w K mg base CX0 "_law_deed" ["_law_box", "_law_shelf", "_law_rows"] 10 (spDeedN K T C CS P1 P2 PF)) : FnOk P w K mg base CX0 12 f fd ["_law_box"] (spBeginN K T C CS P1 P2 PF) := by
  refine F.ok sc_lbeginN (fun vs H Q E h => by obtain ⟨b, l, ns, z, rfl, _⟩ := h; rfl) (fun cdv A outer s H vs Q E hr h => ?_)
  obtain ⟨b, l, ns, z, rfl, bx, tg, k⟩ := h
  have nd := sc_lbeginN.nd
  refine ⟨_, pss_cons (ps_set (i := 1) nd rfl (.inl rfl) (pe_ctor cD' (hr.mono (by decide)) passL (pa_cons (pe_ix ix_list (pe_lst (pa_cons pe_int (pa_cons pe_int (pa_cons (pe_op op_add pe_int (pe_cal cT (hr.mono (by decide)) (pa_cons (pv 0) (pa_cons pe_int pa_nil)))) (pa_cons pe_int pa_nil))))) (pe_cal cT (hr.mono (by decide)) (pa_cons (pv 0) (pa_cons pe_int pa_nil))) (fun _ _ => rfl)) pa_nil)))
    (pss_cons (ps_par (i := 2) (j := 3) (by rfl) nd rfl rfl (by decide) rfl rfl (pa_cons (pe_ctor cSh (hr.mono (by decide)) passL (pa_cons (pv 1) pa_nil)) (pa_cons pe_dnewT pa_nil)) (by rfl))
    (pss_cons (ps_for PassesOwn.never rfl (pi_range1 (by rfl) B.range (pa_cons (pe_cal cT (hr.mono (by decide)) (pa_cons (pv 0) (pa_cons (pe_ix ix_list (pe_lst (pa_cons pe_int (pa_cons pe_int pa_nil))) (pe_cal cT (hr.mono (by decide)) (pa_cons (pv 0) (pa_cons pe_int pa_nil))) (fun _ _ => rfl)) pa_nil))) pa_nil)) (pg_name (i := 4) nd rfl (Or.inl rfl))
      (pss_one (ps_expr (pe_cal cDe (hr.mono (by decide)) (pa_cons (pv 0) (pa_cons (pv 2) (pa_cons (pv 3) pa_nil)))))))
    (pss_one (ps_ret (pe_tup (pa_cons (pv 1) (pa_cons (pv 2) (pa_cons (pv 3) pa_nil)))))))), ?_⟩
  -- how many pages
  refine set_te ⟨_, rfl, b, l, ns, z, 11, rfl, bx, by decide, by decide, fun H1 ns1 z1 n1 a1 bx1 n10 n11 => ⟨_, _, rfl, rfl, ?_⟩⟩
  refine ⟨(by show 4 ≤ sizeLine; decide), fun a2 na2 => ?_⟩
  have x2 := XX.new (T := T) (o := .lst [V.int 2, V.int 3, V.int (2 + n1), V.int 12]) na2
  have f2 := bx1.away na2
  refine ⟨_, rfl, b, l, ns1, z1, 4, rfl, bx1.xx x2, by decide, by decide, fun H3 ns3 z3 i a3 bx3 i0 i1 => ?_⟩
  have e3 : H3 a2 = some (.lst [V.int 2, V.int 3, V.int (2 + n1), V.int 12]) := a3.lst upd_same (fun h => h.elim f2.1 f2.2)
  obtain ⟨N, hN, hN2, hN12⟩ : ∃ N : Nat, atI [V.int 2, V.int 3, V.int (2 + n1), V.int 12] i = some (.int (N : Int)) ∧ 2 ≤ N ∧ N ≤ 12 := by
    have : i = 0 ∨ i = 1 ∨ i = 2 ∨ i = 3 := by omega
    rcases this with e | e | e | e <;> subst e
    · exact ⟨2, atI_nat (j := 0) rfl, by decide, by decide⟩
    · exact ⟨3, atI_nat (j := 1) rfl, by decide, by decide⟩
    · refine ⟨(2 + n1).toNat, ?_, by omega, by omega⟩
      rw [Int.toNat_of_nonneg (by omega)]
      exact atI_nat (j := 2) rfl
    · exact ⟨12, atI_nat (j := 3) rfl, by decide, by decide⟩
  refine ⟨a2, _, i, .int (N : Int), rfl, rfl, SqL.of e3, hN, ?_⟩
  have x03 : XM T (fun c => c = b ∨ c = l) H H3 := (a1.trans x2.xm).trans a3
  dsimp only [tNil, List.cons_append, List.nil_append]
  refine mk_disk (K := K) (T := T) hN2 hN12 fun p dx sl H4 x4 np nsl dk4 => ?_
  have x04 : XM T (fun c => c = b ∨ c = l) H H4 := x03.trans (x4.mono fun _ h => h.elim)
  have bx4 := bx3.xm x4 id id
  have fsl := bx3.away nsl
  -- the shelf
  refine ⟨_, rfl, ?_⟩
  dsimp only [tNil, List.cons_append, List.nil_append]
  have rw0 : Rows (fsh N) [] := rows_fresh hN12
  refine mk_shelf (K := K) (T := T) dk4 rw0 (x04.tabG _ tg.g1) (x04.tabG _ tg.g2) fun q qx H5 x5 nq st5 => ?_
  have bx5 := bx4.xm x5 (fun h => h.elim (fun e => by have := dk4.ins; rw [← e, bx4.hb] at this; cases this) (fun e => fsl.1 e.symm)) (fun h => h.elim (fun e => by have := dk4.ins; rw [← e, bx4.hl] at this; cases this) (fun e => fsl.2 e.symm))
  refine fun r nr => ?_
  have x6 := XX.new (T := T) (o := .dT []) nr
  have nq0 : H q = none := x04.free nq
  have np0 : H p = none := x03.free np
  have nsl0 : H sl = none := x03.free nsl
  have x06 : XM T (fun c => c = b ∨ c = l) H (upd H5 r (.dT [])) := by
    refine ((x04.mono (S' := fun c => (c = b ∨ c = l) ∨ c = p ∨ c = sl) fun _ h => .inl h).trans ((x5.mono fun _ h => .inr h).trans x6.xm)).drop fun c h n => ?_
    rcases h with h | h | h
    · exact absurd h n
    · rw [h]; exact np0
    · rw [h]; exact nsl0
  have nr0 : H r = none := x04.free (x5.free nr)
  have e6 : (upd H5 r (.dT [])) r = some (.dT []) := upd_same
  have bx6 := bx5.xx x6
  have st6 := st5.xx x6
  have sta6 : Sta K C CS b l q p sl r (fsh N) [] (upd H5 r (.dT [])) := ⟨⟨_, _, bx6⟩, ⟨_, _, _, st6⟩, ⟨fsl.1.symm, fsl.2.symm⟩, e6, fun e he => nomatch he⟩
  revert x06 e6 bx6 st6 sta6
  generalize upd H5 r (.dT []) = H6
  intro x06 e6 bx6 st6 sta6
  refine ⟨_, _, rfl, ?_⟩
  -- the deeds
  refine ⟨_, rfl, ?_⟩
  refine ⟨(by show 2 ≤ sizeLine; decide), fun a7 na7 => ?_⟩
  have x7 := XX.new (T := T) (o := .lst [V.int 8, V.int 30]) na7
  have f7 := bx6.away na7
  refine ⟨_, rfl, b, l, ns3, z3, 2, rfl, bx6.xx x7, by decide, by decide, fun H8 ns8 z8 i8 a8 bx8 i80 i81 => ?_⟩
  have e8 : H8 a7 = some (.lst [V.int 8, V.int 30]) := a8.lst upd_same (fun h => h.elim f7.1 f7.2)
  have sta8 := (sta6.xx x7).take a8 bx8
  obtain ⟨m, hm, hm0, hm30⟩ : ∃ m : Int, atI [V.int 8, V.int 30] i8 = some (.int m) ∧ 0 < m ∧ m ≤ 30 := by
    have : i8 = 0 ∨ i8 = 1 := by omega
    rcases this with e | e <;> subst e
    · exact ⟨8, atI_nat (j := 0) rfl, by decide, by decide⟩
    · exact ⟨30, atI_nat (j := 1) rfl, by decide, by decide⟩
  refine ⟨a7, _, i8, .int m, rfl, rfl, SqL.of e8, hm, ?_⟩
  refine ⟨b, l, ns8, z8, m, rfl, bx8, hm0, by omega, fun H9 ns9 z9 n a9 bx9 n0 n1 => ?_⟩
  have sta9 := sta8.take a9 bx9
  have x09 : XM T (fun c => c = b ∨ c = l) H H9 := ((x06.trans x7.xm).trans a8).trans a9
  refine ⟨n, rfl, by omega, by omega, for_range (lo := 0) (n := n.toNat) (fun i σ' H' => ∃ sh R D u, σ' = [some (.ref b), some (.ref p), some (.ref q), some (.ref r), u] ∧ XM T (fun c => c = b ∨ c = l) H H' ∧ Sta K C CS b l q p sl r sh D H' ∧ Kn sh R D ∧ D.length ≤ i ∧ sh.length = N ∧ ∀ e ∈ D, H e.2.2 = none)
    ⟨fsh N, [], [], none, rfl, x09, sta9, kn_fresh hN12, Nat.le_refl _, fsh_len N, fun e he => nomatch he⟩ ?_ ?_⟩
  · rintro i σ' H' hi ⟨sh, R, D, u, rfl, xi, sti, kni, li, ni, fi⟩
    refine ⟨_, rfl, _, rfl, _, rfl, b, l, q, p, sl, r, sh, R, D, rfl, sti, kni, by omega, tg.xm xi, fun H2 sh2 R2 D2 y2 st2 kn2 l2 n2 f2 => ?_⟩
    refine ⟨sh2, R2, D2, _, rfl, ?_, st2, kn2, by omega, by omega, fun e he => (f2 e he).elim (fi e) fun z => xi.free z⟩
    refine ((xi.mono (S' := fun c => (c = b ∨ c = l) ∨ SD b l p sl r c) fun _ h => .inl h).trans (y2.mono fun _ h => .inr h)).drop fun c h nn => ?_
    rcases h with h | h | h | h | h | h
    · exact absurd h nn
    · rw [h]; exact np0
    · rw [h]; exact nsl0
    · exact absurd (.inl h) nn
    · exact absurd (.inr h) nn
    · rw [h]; exact nr0
  · rintro σ' H' ⟨sh, R, D, u, rfl, xi, sti, kni, li, ni, fi⟩
    refine ⟨_, rfl, _, rfl, _, rfl, (by show 3 ≤ sizeLine; decide), fun t nt => ?_⟩
    have xt := XX.new (T := T) (o := .tup [V.ref p, V.ref q, V.ref r]) nt
    exact k _ q p sl r sh R D t (xi.trans xt.xm) nq0 np0 nsl0 nr0 (sti.xx xt) kni (by omega) (by omega) fi upd_same
end
end GX
/-! law_k10: what the law keeps -/
namespace GX
open PySem PySem.Spec PyProof.Rows L2 LamX
/-- a walk's addresses -/
structure Wd where
  y : Addr
  yx : Addr
  wd : Addr
  td : Addr
  tp : Addr
def isL (H : Hp) (c : Addr) : Prop := ∃ xs, H c = some (.lst xs)
structure OneW (K : PySem.W.Frag) (CW : Addr) (H : Hp) (b l q p sl wa ya : Addr) (D : List Ent) (a : Wd) (s : WkS) : Prop where
  wk : WkAt K CW H a.y a.yx q a.wd a.td s
  tp : SqT K H a.tp [.ref a.y, .ref a.wd]
  nq : a.y ≠ q ∧ a.y ≠ p
  nt : a.td ≠ b ∧ a.td ≠ l ∧ a.td ≠ sl ∧ a.td ≠ wa ∧ a.td ≠ ya
  ne : ∀ e ∈ D, e.2.2 ≠ a.td
structure OneS (H : Hp) (b l sl wa ya : Addr) (W : List Wd) (y : Addr) (st : List Nm) : Prop where
  at_ : ∃ zs : List (Nm × Addr), H y = some (.lst (zs.map fun z => V.ref z.2)) ∧ (∀ z ∈ zs, H z.2 = some (.tup (nmV z.1))) ∧ zs.map (·.1) = st
  av : y ≠ b ∧ y ≠ l ∧ y ≠ sl ∧ y ≠ wa ∧ y ≠ ya
  nw : ∀ (j : Nat) (a : Wd), W[j]? = some a → y ≠ a.td
structure Big (K : PySem.W.Frag) (T : List (Addr × Str)) (C CS CW P1 P2 PF b l q p sl r wa ya : Addr) (sh : List Page) (R : List Row1) (D : List Ent) (W : List Wd) (ys : List Addr) (ss : Nat → WkS) (st : Nat → List Nm) (H : Hp) : Prop where
  sta : Sta K C CS b l q p sl r sh D H
  kn : Kn sh R D
  tg : TG T P1 P2 PF P1 H
  ws : ∀ (j : Nat) (a : Wd), W[j]? = some a → OneW K CW H b l q p sl wa ya D a (ss j)
  pw : ∀ (i j : Nat) (a c : Wd), W[i]? = some a → W[j]? = some c → i ≠ j → a.y ≠ c.y ∧ a.wd ≠ c.wd ∧ a.td ≠ c.td
  wl : H wa = some (.lst (W.map fun a => V.ref a.tp))
  wn : wa ≠ b ∧ wa ≠ l ∧ wa ≠ sl ∧ wa ≠ ya
  yl : H ya = some (.lst (ys.map fun y => V.ref y))
  yn : ya ≠ b ∧ ya ≠ l ∧ ya ≠ sl
  en : ∀ e ∈ D, e.2.2 ≠ wa ∧ e.2.2 ≠ ya
  yy : ∀ (j : Nat) (y : Addr), ys[j]? = some y → OneS H b l sl wa ya W y (st j)
section
variable {K : PySem.W.Frag} {T : List (Addr × Str)} {C CS CW P1 P2 PF b l q p sl r wa ya : Addr} {sh : List Page} {R : List Row1} {D : List Ent} {W : List Wd} {ys : List Addr} {ss : Nat → WkS} {st : Nat → List Nm} {H H' : Hp}
theorem Sta.far {S : Addr → Prop} (s : Sta K C CS b l q p sl r sh D H) (x : XM T S H H') (nb : ¬ S b) (nl : ¬ S l) (nq : ¬ S q) (np : ¬ S p) (ns : ¬ S sl) (nr : ¬ S r) (ne : ∀ e ∈ D, ¬ S e.2.2) : Sta K C CS b l q p sl r sh D H' := by
  obtain ⟨ns', z, bx⟩ := s.bx
  obtain ⟨qx, dx, d, st⟩ := s.st
  refine ⟨⟨ns', z, bx.xm x nb nl⟩, ⟨qx, dx, d, st.xm x nq np ns⟩, s.nsl, ⟨x.keep _ _ s.w.hd nr (fun ps z => by cases z), fun e he => ?_⟩⟩
  obtain ⟨h1, h2⟩ := s.w.hv e he
  exact ⟨x.lst h1 (ne e he), h2⟩
/-- what these are -/
theorem Sta.kinds (s : Sta K C CS b l q p sl r sh D H) : isL H b ∧ isL H l ∧ isL H sl ∧ (∃ c x fs, H p = some (.ins c x fs)) ∧ (∃ c x fs, H q = some (.ins c x fs)) ∧ ∃ kvs, H r = some (.dT kvs) := by
  obtain ⟨ns', z, bx⟩ := s.bx
  obtain ⟨qx, dx, d, st⟩ := s.st
  obtain ⟨xs, hsl, _⟩ := st.dk.lst
  exact ⟨⟨_, bx.hb⟩, ⟨_, bx.hl⟩, ⟨_, hsl⟩, ⟨_, _, _, st.dk.ins⟩, ⟨_, _, _, st.ins⟩, ⟨_, s.w.hd⟩⟩
theorem isL.no {a c : Addr} {o : HO} (h : isL H c) (e : H a = some o) (n : ∀ xs, o ≠ .lst xs) : a ≠ c := fun z => by
  obtain ⟨xs, h⟩ := h
  rw [z, h] at e
  exact n xs (Option.some.inj e).symm
theorem Sta.insNe (s : Sta K C CS b l q p sl r sh D H) {a c x : Addr} {fs : List (Str × V)} (h : H a = some (.ins c x fs)) : a ≠ b ∧ a ≠ l ∧ a ≠ sl ∧ a ≠ r ∧ ∀ e ∈ D, e.2.2 ≠ a := by
  obtain ⟨h1, h2, h3, _, _, kvs, h4⟩ := s.kinds
  refine ⟨h1.no h (fun _ z => by cases z), h2.no h (fun _ z => by cases z), h3.no h (fun _ z => by cases z), (fun e => by rw [e, h4] at h; cases h), fun e he z => ?_⟩
  have := (s.w.hv e he).1
  rw [z, h] at this
  cases this
theorem Sta.dkNe (s : Sta K C CS b l q p sl r sh D H) {a : Addr} {kvs : List (Key × V)} (h : H a = some (.dK kvs)) : a ≠ b ∧ a ≠ l ∧ a ≠ q ∧ a ≠ p ∧ a ≠ sl ∧ a ≠ r ∧ ∀ e ∈ D, e.2.2 ≠ a := by
  obtain ⟨h1, h2, h3, ⟨_, _, _, h5⟩, ⟨_, _, _, h6⟩, kvs, h4⟩ := s.kinds
  refine ⟨h1.no h (fun _ z => by cases z), h2.no h (fun _ z => by cases z), (fun e => by rw [e, h6] at h; cases h), (fun e => by rw [e, h5] at h; cases h), h3.no h (fun _ z => by cases z), (fun e => by rw [e, h4] at h; cases h), fun e he z => ?_⟩
  have := (s.w.hv e he).1
  rw [z, h] at this
  cases this
theorem Sta.lstNe (s : Sta K C CS b l q p sl r sh D H) {a : Addr} {xs : List V} (h : H a = some (.lst xs)) : a ≠ q ∧ a ≠ p ∧ a ≠ r := by
  obtain ⟨h1, h2, h3, ⟨_, _, _, h5⟩, ⟨_, _, _, h6⟩, kvs, h4⟩ := s.kinds
  exact ⟨(fun e => by rw [e, h6] at h; cases h), (fun e => by rw [e, h5] at h; cases h), (fun e => by rw [e, h4] at h; cases h)⟩
theorem WkAt.parts {y yx wd td : Addr} {s : WkS} (a : WkAt K CW H y yx q wd td s) : (∃ fs, H y = some (.ins CW yx fs)) ∧ (∃ kvs, H wd = some (.dK kvs)) ∧ ∃ tds, H td = some (.lst tds) := by
  obtain ⟨pt, lv, tds, h1, h2, h3, h4, h5, h6⟩ := a.ex
  exact ⟨⟨_, h1⟩, ⟨_, h3⟩, ⟨_, h5⟩⟩
theorem OneS.xm {S : Addr → Prop} {y : Addr} {s : List Nm} (o : OneS H b l sl wa ya W y s) (x : XM T S H H') (n : ¬ S y) : OneS H' b l sl wa ya W y s := by
  obtain ⟨zs, h1, h2, h3⟩ := o.at_
  exact ⟨⟨zs, x.lst h1 n, fun z hz => x.tup _ _ (h2 z hz), h3⟩, o.av, o.nw⟩
/-- the shelf, its rows and the script are moved on -/
theorem Big.move {sh' : List Page} {R' : List Row1} {D' : List Ent} (B : Big K T C CS CW P1 P2 PF b l q p sl r wa ya sh R D W ys ss st H) (x : XM T (SD b l p sl r) H H') (s' : Sta K C CS b l q p sl r sh' D' H') (kn' : Kn sh' R' D') (old : ∀ e ∈ D', e ∈ D ∨ H e.2.2 = none) : Big K T C CS CW P1 P2 PF b l q p sl r wa ya sh' R' D' W ys ss st H' := by
  have no : ∀ {c : Addr} {xs : List V}, H c = some (.lst xs) → c ≠ b → c ≠ l → c ≠ sl → ¬ SD b l p sl r c := fun {c xs} h n1 n2 n3 z => by
    obtain ⟨m1, m2, m3⟩ := B.sta.lstNe h
    rcases z with z | z | z | z | z
    · exact m2 z
    · exact n3 z
    · exact n1 z
    · exact n2 z
    · exact m3 z
  have ne : ∀ {c : Addr} {o : HO}, H c = some o → (∀ e ∈ D, e.2.2 ≠ c) → ∀ e ∈ D', e.2.2 ≠ c := fun {c o} h n e he => (old e he).elim (n e) fun z w => by rw [w, h] at z; cases z
  refine ⟨s', kn', B.tg.xm x, fun j a ha => ?_, B.pw, x.lst B.wl (no B.wl B.wn.1 B.wn.2.1 B.wn.2.2.1), B.wn, x.lst B.yl (no B.yl B.yn.1 B.yn.2.1 B.yn.2.2), B.yn, fun e he => ⟨ne B.wl (fun e he => (B.en e he).1) e he, ne B.yl (fun e he => (B.en e he).2) e he⟩, fun j y hy => ?_⟩
  · have o := B.ws j a ha
    obtain ⟨⟨fs, h1⟩, ⟨kvs, h2⟩, tds, h3⟩ := o.wk.parts
    have i1 := B.sta.insNe h1
    have i2 := B.sta.dkNe h2
    refine ⟨o.wk.xm x (fun z => ?_) (fun z => ?_) (no h3 o.nt.1 o.nt.2.1 o.nt.2.2.1), x.sqT o.tp, o.nq, o.nt, ne h3 o.ne⟩
    · rcases z with z | z | z | z | z
      · exact o.nq.2 z
      · exact i1.2.2.1 z
      · exact i1.1 z
      · exact i1.2.1 z
      · exact i1.2.2.2.1 z
    · rcases z with z | z | z | z | z
      · exact i2.2.2.2.1 z
      · exact i2.2.2.2.2.1 z
      · exact i2.1 z
      · exact i2.2.1 z
      · exact i2.2.2.2.2.2.1 z
  · have o := B.yy j y hy
    obtain ⟨zs, h1, _, _⟩ := o.at_
    exact o.xm x (no h1 o.av.1 o.av.2.1 o.av.2.2.1)
theorem Big.xx (B : Big K T C CS CW P1 P2 PF b l q p sl r wa ya sh R D W ys ss st H) (x : XX T H H') : Big K T C CS CW P1 P2 PF b l q p sl r wa ya sh R D W ys ss st H' := B.move x.xm (B.sta.xx x) B.kn fun e he => .inl he
theorem Big.take (B : Big K T C CS CW P1 P2 PF b l q p sl r wa ya sh R D W ys ss st H) {ns : List Int} {z : Int} (x : XM T (fun c => c = b ∨ c = l) H H') (bx : BoxAt H' b l ns z) : Big K T C CS CW P1 P2 PF b l q p sl r wa ya sh R D W ys ss st H' := B.move (x.mono fun c h => h.elim (fun h => .inr (.inr (.inl h))) fun h => .inr (.inr (.inr (.inl h)))) (B.sta.take x bx) B.kn fun e he => .inl he
/-- a walk's step -/
theorem Big.step (B : Big K T C CS CW P1 P2 PF b l q p sl r wa ya sh R D W ys ss st H) {j : Nat} {a : Wd} {s' : WkS} (ha : W[j]? = some a) (x : XM T (fun c => c = a.y ∨ c = a.wd ∨ c = a.td) H H') (wk : WkAt K CW H' a.y a.yx q a.wd a.td s') : Big K T C CS CW P1 P2 PF b l q p sl r wa ya sh R D W ys (fun i => if i = j then s' else ss i) st H' := by
  have o := B.ws j a ha
  obtain ⟨⟨fs, h1⟩, ⟨kvs, h2⟩, tds, h3⟩ := o.wk.parts
  have i1 := B.sta.insNe h1
  have i2 := B.sta.dkNe h2
  have i3 := B.sta.lstNe h3
  have no : ∀ {c : Addr}, c ≠ a.y → c ≠ a.wd → c ≠ a.td → ¬ (c = a.y ∨ c = a.wd ∨ c = a.td) := fun n1 n2 n3 z => z.elim n1 fun z => z.elim n2 n3
  have nol : ∀ {c : Addr} {xs : List V}, H c = some (.lst xs) → c ≠ a.td → ¬ (c = a.y ∨ c = a.wd ∨ c = a.td) := fun {c xs} h n => no (fun z => by rw [z, h1] at h; cases h) (fun z => by rw [z, h2] at h; cases h) n
  refine ⟨B.sta.far x (no i1.1.symm i2.1.symm o.nt.1.symm) (no i1.2.1.symm i2.2.1.symm o.nt.2.1.symm) (no o.nq.1.symm i2.2.2.1.symm i3.1.symm) (no o.nq.2.symm i2.2.2.2.1.symm i3.2.1.symm) (no i1.2.2.1.symm i2.2.2.2.2.1.symm o.nt.2.2.1.symm) (no i1.2.2.2.1.symm i2.2.2.2.2.2.1.symm i3.2.2.symm) (fun e he => no (i1.2.2.2.2 e he) (i2.2.2.2.2.2.2 e he) (o.ne e he)), B.kn, B.tg.xm x, fun i c hc => ?_, B.pw, x.lst B.wl (nol B.wl o.nt.2.2.2.1.symm), B.wn, x.lst B.yl (nol B.yl o.nt.2.2.2.2.symm), B.yn, B.en, fun i y hy => ?_⟩
  · by_cases e : i = j
    · rw [if_pos e]
      rw [e, ha] at hc
      cases hc
      exact ⟨wk, x.sqT o.tp, o.nq, o.nt, o.ne⟩
    · rw [if_neg e]
      have o2 := B.ws i c hc
      obtain ⟨p1, p2, p3⟩ := B.pw i j c a hc ha e
      obtain ⟨⟨gs, g1⟩, ⟨kws, g2⟩, tes, g3⟩ := o2.wk.parts
      exact ⟨o2.wk.xm x (no p1 (fun z => by rw [z, h2] at g1; cases g1) (fun z => by rw [z, h3] at g1; cases g1)) (no (fun z => by rw [z, h1] at g2; cases g2) p2 (fun z => by rw [z, h3] at g2; cases g2)) (nol g3 p3), x.sqT o2.tp, o2.nq, o2.nt, o2.ne⟩
  · have o2 := B.yy i y hy
    obtain ⟨zs, g1, _, _⟩ := o2.at_
    exact o2.xm x (nol g1 (o2.nw j a ha))
theorem Big.far (B : Big K T C CS CW P1 P2 PF b l q p sl r wa ya sh R D W ys ss st H) (x : XM T (fun c => c = wa ∨ c = ya) H H') : Sta K C CS b l q p sl r sh D H' := by
  obtain ⟨⟨_, k1⟩, ⟨_, k2⟩, ⟨_, k3⟩, ⟨_, _, _, k4⟩, ⟨_, _, _, k5⟩, _, k6⟩ := B.sta.kinds
  have no : ∀ {c : Addr}, c ≠ wa → c ≠ ya → ¬ (c = wa ∨ c = ya) := fun n1 n2 z => z.elim n1 n2
  have nol : ∀ {c : Addr} {o : HO}, H c = some o → (∀ xs, o ≠ .lst xs) → ¬ (c = wa ∨ c = ya) := fun {c o} h n => no (fun z => by rw [z, B.wl] at h; exact n _ (Option.some.inj h).symm) (fun z => by rw [z, B.yl] at h; exact n _ (Option.some.inj h).symm)
  exact B.sta.far x (no B.wn.1.symm B.yn.1.symm) (no B.wn.2.1.symm B.yn.2.1.symm) (nol k5 fun _ z => by cases z) (nol k4 fun _ z => by cases z) (no B.wn.2.2.1.symm B.yn.2.2.symm) (nol k6 fun _ z => by cases z) (fun e he => no (B.en e he).1 (B.en e he).2)
def inD (D : List Ent) (nm : Nm) : Bool := (valV (D.map entV) (nmK nm)).isSome
theorem inD_names (kn : Kn sh R D) {nm : Nm} (h : inD D nm = true) : nm ∈ namesOf sh := by
  by_cases c : ∃ e ∈ D, e.1 = nm
  · obtain ⟨e, he, rfl⟩ := c
    exact kn.perm.mem_iff.mp (List.mem_map_of_mem he)
  · unfold inD at h
    rw [valE_none fun e he z => c ⟨e, he, z⟩] at h
    cases h
theorem dp_names : ∀ {ns : List Nm} {tds : List V}, DpAll K H tds (ns.map nmD) → ∃ zs : List (Nm × Addr), zs.map (·.1) = ns ∧ tds = zs.map (fun z => V.ref z.2) ∧ ∀ z ∈ zs, SqT K H z.2 (nmV z.1)
  | [], tds, h => ⟨[], rfl, dpAll0 h, fun _ h => (nomatch h)⟩
  | n :: ns, tds, h => by
    rw [List.map_cons] at h
    obtain ⟨v0, r, rfl, d0, dr⟩ := dpAllC h
    obtain ⟨a0, rfl, ha0⟩ := dp_nm d0
    obtain ⟨zs, e1, e2, e3⟩ := dp_names dr
    refine ⟨(n, a0) :: zs, by rw [List.map_cons, e1], by rw [List.map_cons, e2], fun z hz => ?_⟩
    rcases List.mem_cons.mp hz with h | h
    · rw [h]; exact ha0
    · exact e3 z h
def nmI10 (nm : Nm) : List Int := [(nm.1.1 : Int), (nm.1.2 : Int), (nm.2 : Int)]
theorem nmI10_inj {a b : Nm} (h : nmI10 a = nmI10 b) : a = b := by
  unfold nmI10 at h
  obtain ⟨h1, h⟩ := List.cons.inj h
  obtain ⟨h2, h⟩ := List.cons.inj h
  obtain ⟨h3, _⟩ := List.cons.inj h
  exact Prod.ext (Prod.ext (Int.ofNat.inj h1) (Int.ofNat.inj h2)) (Int.ofNat.inj h3)
theorem nmI10_nodup {ns : List Nm} (h : ns.Nodup) : (ns.map nmI10).Nodup := List.Pairwise.map _ (fun a b n e => n (nmI10_inj e)) h
theorem told_any {ns : List Nm} {nm : Nm} (h : nm ∈ ns) : ((ns.map nmD).any fun z => z.eqv (nmD nm)) = true :=
  List.any_eq_true.mpr ⟨nmD nm, List.mem_map_of_mem h, SeqAt.eqv_refl _ (SeqAt.canLay_of_shaped (show SeqAt.shaped (nmD nm) = true from rfl))⟩
/-- one more walk, and what stays -/
theorem Big.add (B : Big K T C CS CW P1 P2 PF b l q p sl r wa ya sh R D W ys ss st H) {a : Wd} {an : Addr} {zs : List (Nm × Addr)} (x : XM T (fun c => c = wa ∨ c = ya) H H') (hw : H' wa = some (.lst (W.map (fun a => V.ref a.tp) ++ [.ref a.tp]))) (hy : H' ya = some (.lst (ys.map (fun y => V.ref y) ++ [.ref an])))
    (wk : WkAt K CW H' a.y a.yx q a.wd a.td (ss W.length)) (tp : SqT K H' a.tp [.ref a.y, .ref a.wd]) (n1 : H a.y = none) (n2 : H a.wd = none) (n3 : H a.td = none) (n4 : H an = none) (n5 : an ≠ a.td) (h1 : H' an = some (.lst (zs.map fun z => V.ref z.2))) (h2 : ∀ z ∈ zs, H' z.2 = some (.tup (nmV z.1))) (h3 : zs.map (·.1) = st ys.length) :
    Big K T C CS CW P1 P2 PF b l q p sl r wa ya sh R D (W ++ [a]) (ys ++ [an]) ss st H' := by
  obtain ⟨⟨_, k1⟩, ⟨_, k2⟩, ⟨_, k3⟩, ⟨_, _, _, k4⟩, ⟨_, _, _, k5⟩, _, k6⟩ := B.sta.kinds
  have nn : ∀ {c d : Addr} {o : HO}, H c = none → H d = some o → c ≠ d := fun h1 h2 z => by rw [z, h2] at h1; cases h1
  have no : ∀ {c : Addr}, c ≠ wa → c ≠ ya → ¬ (c = wa ∨ c = ya) := fun n1 n2 z => z.elim n1 n2
  have nol : ∀ {c : Addr} {o : HO}, H c = some o → (∀ xs, o ≠ .lst xs) → ¬ (c = wa ∨ c = ya) := fun {c o} h n => no (fun z => by rw [z, B.wl] at h; exact n _ (Option.some.inj h).symm) (fun z => by rw [z, B.yl] at h; exact n _ (Option.some.inj h).symm)
  have q1 : ¬ (b = wa ∨ b = ya) := no B.wn.1.symm B.yn.1.symm
  have old : ∀ {α : Type} {xs : List α} {z : α} {i : Nat} {c : α}, (xs ++ [z])[i]? = some c → xs[i]? = some c ∨ (i = xs.length ∧ c = z) := fun {α xs z i c} h => by
    rcases Nat.lt_or_ge i xs.length with g | g
    · rw [List.getElem?_append_left g] at h; exact .inl h
    · rw [List.getElem?_append_right g] at h
      right
      obtain ⟨lt, e⟩ := List.getElem?_eq_some_iff.mp h
      have lt : i - xs.length < 1 := lt
      have : i = xs.length := by omega
      subst this
      rw [Nat.sub_self] at h
      exact ⟨rfl, (Option.some.inj h).symm⟩
  refine ⟨B.sta.far x q1 (no B.wn.2.1.symm B.yn.2.1.symm) (nol k5 fun _ z => by cases z) (nol k4 fun _ z => by cases z) (no B.wn.2.2.1.symm B.yn.2.2.symm) (nol k6 fun _ z => by cases z) (fun e he => no (B.en e he).1 (B.en e he).2), B.kn, B.tg.xm x, fun j c hc => ?_, fun i j c d hc hd hij => ?_, by rw [List.map_append]; exact hw, B.wn, by rw [List.map_append]; exact hy, B.yn, B.en, fun j y hj => ?_⟩
  · rcases old hc with g | ⟨rfl, rfl⟩
    · have o := B.ws j c g
      obtain ⟨⟨fs, g1⟩, ⟨kvs, g2⟩, tds, g3⟩ := o.wk.parts
      exact ⟨o.wk.xm x (nol g1 fun _ z => by cases z) (nol g2 fun _ z => by cases z) (no o.nt.2.2.2.1 o.nt.2.2.2.2), x.sqT o.tp, o.nq, o.nt, o.ne⟩
    · exact ⟨wk, tp, ⟨nn n1 k5, nn n1 k4⟩, ⟨nn n3 k1, nn n3 k2, nn n3 k3, nn n3 B.wl, nn n3 B.yl⟩, fun e he => (nn n3 (B.sta.w.hv e he).1).symm⟩
  · rcases old hc with g | ⟨rfl, rfl⟩ <;> rcases old hd with g' | ⟨rfl, rfl⟩
    · exact B.pw i j c d g g' hij
    · obtain ⟨⟨fs, g1⟩, ⟨kvs, g2⟩, tds, g3⟩ := (B.ws i c g).wk.parts
      exact ⟨(nn n1 g1).symm, (nn n2 g2).symm, (nn n3 g3).symm⟩
    · obtain ⟨⟨fs, g1⟩, ⟨kvs, g2⟩, tds, g3⟩ := (B.ws j d g').wk.parts
      exact ⟨nn n1 g1, nn n2 g2, nn n3 g3⟩
    · exact absurd rfl hij
  · rcases old hj with g | ⟨rfl, rfl⟩
    · have o := B.yy j y g
      have o2 := o.xm x (no o.av.2.2.2.1 o.av.2.2.2.2)
      obtain ⟨zs', g1, _, _⟩ := o.at_
      exact ⟨o2.at_, o2.av, fun i c hc => (old hc).elim (o.nw i c) fun z => by rw [z.2]; exact (nn n3 g1).symm⟩
    · refine ⟨⟨zs, h1, h2, h3⟩, ⟨nn n4 k1, nn n4 k2, nn n4 k3, nn n4 B.wl, nn n4 B.yl⟩, fun i c hc => (old hc).elim (fun g => ?_) fun z => by rw [z.2]; exact n5⟩
      obtain ⟨⟨fs, g1⟩, ⟨kvs, g2⟩, tds, g3⟩ := (B.ws i c g).wk.parts
      exact nn n4 g3
/-- what stays, told anew -/
theorem Big.stays (B : Big K T C CS CW P1 P2 PF b l q p sl r wa ya sh R D W ys ss st H) {ya' : Addr} {ys' : List Addr} {st' : Nat → List Nm} (x : XX T H H') (n : H ya' = none) (hy : H' ya' = some (.lst (ys'.map fun y => V.ref y))) (yy : ∀ (j : Nat) (y : Addr), ys'[j]? = some y → H y = none ∧ y ≠ ya' ∧ ∃ zs : List (Nm × Addr), H' y = some (.lst (zs.map fun z => V.ref z.2)) ∧ (∀ z ∈ zs, H' z.2 = some (.tup (nmV z.1))) ∧ zs.map (·.1) = st' j) :
    Big K T C CS CW P1 P2 PF b l q p sl r wa ya' sh R D W ys' ss st' H' := by
  obtain ⟨⟨_, k1⟩, ⟨_, k2⟩, ⟨_, k3⟩, ⟨_, _, _, k4⟩, ⟨_, _, _, k5⟩, _, k6⟩ := B.sta.kinds
  have nn : ∀ {c d : Addr} {o : HO}, H c = none → H d = some o → c ≠ d := fun h1 h2 z => by rw [z, h2] at h1; cases h1
  have B' := B.xx x
  refine ⟨B'.sta, B.kn, B'.tg, fun j a ha => ?_, B.pw, B'.wl, ⟨B.wn.1, B.wn.2.1, B.wn.2.2.1, (nn n B.wl).symm⟩, hy, ⟨nn n k1, nn n k2, nn n k3⟩, fun e he => ⟨(B.en e he).1, (nn n (B.sta.w.hv e he).1).symm⟩, fun j y hj => ?_⟩
  · have o := B'.ws j a ha
    obtain ⟨⟨fs, g1⟩, ⟨kvs, g2⟩, tds, g3⟩ := (B.ws j a ha).wk.parts
    exact ⟨o.wk, o.tp, o.nq, ⟨o.nt.1, o.nt.2.1, o.nt.2.2.1, o.nt.2.2.2.1, (nn n g3).symm⟩, o.ne⟩
  · obtain ⟨m, m2, at_⟩ := yy j y hj
    refine ⟨at_, ⟨nn m k1, nn m k2, nn m k3, nn m B.wl, m2⟩, fun i a ha => ?_⟩
    obtain ⟨⟨fs, g1⟩, ⟨kvs, g2⟩, tds, g3⟩ := (B.ws i a ha).wk.parts
    exact nn m g3
end
end GX
set_option maxHeartbeats 16000000
/-! law_k10: law -/
namespace GX
open PySem PySem.Spec PyProof.Rows L2 LamX
def spLaw10 (K : PySem.W.Frag) (T : List (Addr × Str)) (P1 P2 PF : Addr) : Sp := fun vs H Q _ => ∃ (a : Addr) (ns : List Int), vs = [.ref a] ∧ SqL K H a (ns.map V.int) ∧ ns.length ≤ 63 ∧ TG T P1 P2 PF P1 H ∧ ∀ H', Q (.bl true) H'
theorem u65 {k : Nat} {A : Around} (r : Room k A) : A.units + 65 < cLine := by have := r.un; omega
section
variable {P : Program} {w : World} {K : PySem.W.Frag} {mg : Str → Option Value} {base : Heap} {T : List (Addr × Str)} {C CS CW P1 P2 PF : Addr}
abbrev law10N : List Str := ["_law_script", "_law_box", "_law_disk", "_law_shelf", "_law_rows", "_law_walks", "_law_stays", "_law_k", "_law_turn", "_law_name", "_law_some", "_law_walk", "_law_w"]
theorem sc_law : FnScope law10N ["_law_script"] (defScope s_law) := ⟨rfl, rfl, rfl, by decide +kernel, rfl, by decide +kernel, by decide +kernel⟩
theorem ok_law {f : Addr} {fd : FuncData} (F : L2.Fun K "law" "law" s_law f fd) (S : WTx K CW) (B : Blt mg) (B2 : Blt2 mg) (hset : mg "set" = none)
    (cB : Cal P w K mg base CX0 "_law_begun" ["_law_script"] 1 (spBegun K T)) (cT : Cal P w K mg base CX0 "_law_take" ["_law_box", "_law_many"] 1 (spTake T)) (cBg : Cal P w K mg base CX0 "_law_begin" ["_law_box"] 12 (spBeginN K T C CS P1 P2 PF)) (cDe : Cal P w K mg base CX0 "_law_deed" ["_law_box", "_law_shelf", "_law_rows"] 10 (spDeedN K T C CS P1 P2 PF))
    (cSt : Cal P w K mg base CX0 "_law_step" ["_law_walk", "_law_w", "_law_rows"] 8 (spLStep10 K T C CS CW)) (cWk : Ctor P w K mg base "Walk" CW ["self", "shelf"] 1 (spWInit K T CW)) (mStep : Met P w K mg base CX0 CW "step" ["self"] 7 (spWStep K T C CS CW)) :
    FnOk P w K mg base CX0 14 f fd ["_law_script"] (spLaw10 K T P1 P2 PF) := by
  refine F.ok sc_law (fun vs H Q E h => by obtain ⟨a, ns, rfl, _⟩ := h; rfl) (fun cdv A outer s H vs Q E hr h => ?_)
  obtain ⟨a, ns, rfl, hS, hlen, tg, k⟩ := h
  have nd := sc_law.nd
  have hu := hr.units
  have hu1 := hu_of hr
  have hu65 := u65 hr
  refine ⟨_, pss_cons (ps_set (i := 1) nd rfl (.inl rfl) (pe_cal cB (hr.mono (by decide)) (pa_cons (pv 0) pa_nil)))
    (pss_cons (ps_asg (pe_cal cBg (hr.mono (by decide)) (pa_cons (pv 1) pa_nil)) (pg_tup (by rfl) (pgs_cons (pg_name (i := 2) nd rfl (.inl rfl)) (pgs_cons (pg_name (i := 3) nd rfl (.inl rfl)) (pgs_cons (pg_name (i := 4) nd rfl (.inr rfl)) pgs_nil)))))
    (pss_cons (ps_par (i := 5) (j := 6) (by rfl) nd rfl rfl (by decide) rfl rfl (pa_cons (pe_lst pa_nil) (pa_cons (pe_lst pa_nil) pa_nil)) (by rfl))
    (pss_cons (ps_for PassesOwn.never rfl (pi_range1 (by rfl) B.range (pa_cons (pe_op op_add pe_int (pe_cal cT (hr.mono (by decide)) (pa_cons (pv 1) (pa_cons pe_int pa_nil)))) pa_nil)) (pg_name (i := 7) nd rfl (.inl rfl))
      (pss_cons (ps_expr (pe_bm PySem.F.plainAttrs_list PySem.F.slot_list_append PySem.F.type_list_append mt_append (pv 5) (pa_cons (pe_tup (pa_cons (pe_ctor cWk (hr.mono (by decide)) passL (pa_cons (pv 3) pa_nil)) (pa_cons (pe_disp (pps_cons pe_str pe_non (pps_cons pe_str pe_bl (pps_cons pe_str (pe_lst pa_nil) pps_nil))) rfl rfl (by simp) (by decide)) pa_nil))) pa_nil)))
      (pss_one (ps_expr (pe_bm PySem.F.plainAttrs_list PySem.F.slot_list_append PySem.F.type_list_append mt_append (pv 6) (pa_cons (pe_callB (cr_sortedDO (d := 3) (B := 1000) (by decide) rfl) (by rfl) B2.sorted boot_sorted (pa_cons (pv 4) pa_nil)) pa_nil))))))
    (pss_cons (ps_for PassesOwn.never rfl (pi_range1 (by rfl) B.range (pa_cons (pe_cal cT (hr.mono (by decide)) (pa_cons (pv 1) (pa_cons pe_int pa_nil))) pa_nil)) (pg_name (i := 8) nd rfl (.inl rfl))
      (pss_cons (ps_set (i := 7) nd rfl (.inl rfl) (pe_cal cT (hr.mono (by decide)) (pa_cons (pv 1) (pa_cons (pe_callB call_len_seq (by rfl) B.len PySem.boot_len (pa_cons (pv 5) pa_nil)) pa_nil))))
      (pss_one (ps_if (pt_cmpR op_eq (pe_cal cT (hr.mono (by decide)) (pa_cons (pv 1) (pa_cons pe_int pa_nil))) pe_int (nomark _))
        (pss_cons (ps_expr (pe_cal cDe (hr.mono (by decide)) (pa_cons (pv 1) (pa_cons (pv 3) (pa_cons (pv 4) pa_nil)))))
        (pss_one (ps_setLc (i := 6) (own := [("_law_some", 10)]) (g := gName 10) (tt := tYes) (te := tLc (iList K (tVar 10)) (gName 9) (tTest (tDIn (tVar 9) (tVar 4))) (tVar 9) [9]) (by rfl) nd rfl rfl (sw_true rfl rfl rfl (by decide +kernel)) (pi_list (pv 6)) (blkOk_by (own := [("_law_some", 10)]) (N := law10N) (sc := defScope s_law) (by decide +kernel))
          (fun _ _ _ _ _ => pg_name (i := 10) nd rfl (Or.inl rfl)) (fun _ _ _ _ _ => pts_nil) (fun _ _ _ _ _ => pe_lc (own := [("_law_name", 9)]) (g := gName 9) (tt := tTest (tDIn (tVar 9) (tVar 4))) (te := tVar 9) (by rfl) nd (pi_list (pv 10)) (blkOk_by (own := [("_law_name", 9)]) (N := law10N) (sc := { kind := .function, names := [(".0", .local), ("_law_some", .local), ("_law_rows", .cell)], isGenerator := false, isCoroutine := false }) (by decide +kernel))
            (fun _ _ _ _ _ => pg_name (i := 9) nd rfl (Or.inl rfl)) (fun _ _ _ _ _ => pts_one (pt_cmp (pc_din hu1 (pv 9) (pv 4)))) (fun _ _ _ _ _ => pv 9)))))
        (pss_one (ps_if (pt_not (pt_val (pe_cal cSt (hr.mono (by decide)) (pa_cons (pe_ix ix_tup (pe_ix ix_list (pv 5) (pv 7) (fun _ _ => rfl)) pe_int (fun _ _ => rfl)) (pa_cons (pe_ix ix_tup (pe_ix ix_list (pv 5) (pv 7) (fun _ _ => rfl)) pe_int (fun _ _ => rfl)) (pa_cons (pv 4) pa_nil)))))) (pss_one (ps_ret pe_bl)) pss_nil))))))
    (pss_cons (ps_for PassesOwn.never rfl (pi_range1 (by rfl) B.range (pa_cons (pe_callB call_len_seq (by rfl) B.len PySem.boot_len (pa_cons (pv 5) pa_nil)) pa_nil)) (pg_name (i := 7) nd rfl (.inl rfl))
      (pss_cons (ps_asg (pe_ix ix_list (pv 5) (pv 7) (fun _ _ => rfl)) (pg_tup (by rfl) (pgs_cons (pg_name (i := 11) nd rfl (.inl rfl)) (pgs_cons (pg_name (i := 12) nd rfl (.inr rfl)) pgs_nil))))
      (pss_cons (ps_for PassesOwn.never rfl (pi_range1 (by rfl) B.range (pa_cons pe_int pa_nil)) (pg_name (i := 8) nd rfl (.inl rfl))
        (pss_one (ps_if (PW.pt (pw_and (pt_not (pt_val (pe_dget hu1 (pv 12) pe_str (fun _ _ => rfl)))) (pw_and1 (pt_not (pt_val (pe_cal cSt (hr.mono (by decide)) (pa_cons (pv 11) (pa_cons (pv 12) (pa_cons (pv 4) pa_nil))))))))) (pss_one (ps_ret pe_bl)) pss_nil)))
      (pss_cons (ps_if (PW.pt (pw_or (pt_not (pt_val (pe_dget hu1 (pv 12) pe_str (fun _ _ => rfl)))) (pw_or (pt_cmpR op_notN (pe_met0 mStep S.cl (hr.mono (by decide)) pass0 (pv 11)) pe_non (nomark _)) (pw_or1 (pt_cmpR op_ne (pe_lenSetW (by rfl) hu (by rfl) B.len (by rfl) hset (pe_dget hu1 (pv 12) pe_str (fun _ _ => rfl))) (pe_callB call_len_seq (by rfl) B.len PySem.boot_len (pa_cons (pe_dget hu1 (pv 12) pe_str (fun _ _ => rfl)) pa_nil)) (nomark _)))))) (pss_one (ps_ret pe_bl)) pss_nil)
      (pss_one (ps_if (pt_cmpR (op_neD hu) (pe_lc (own := [("_law_name", 9)]) (g := gName 9) (tt := tTest (tOp (rNotInD K) (tVar 9) (tDGet (tVar 12) (tC (.str "told"))))) (te := tVar 9) (by rfl) nd (pi_list (pe_ix ix_list (pv 6) (pv 7) (fun _ _ => rfl))) (blkOk_by (own := [("_law_name", 9)]) (N := law10N) (sc := defScope s_law) (by decide +kernel))
          (fun _ _ _ _ _ => pg_name (i := 9) nd rfl (Or.inl rfl)) (fun _ _ _ _ _ => pts_one (pt_cmpR (op_notInD hu65) (pv 9) (pe_dget hu1 (pv 12) pe_str (fun _ _ => rfl)) (by rfl))) (fun _ _ _ _ _ => pv 9)) (pe_lst pa_nil) (nomark _)) (pss_one (ps_ret pe_bl)) pss_nil))))))
    (pss_one (ps_ret pe_bl))))))), ?_⟩
  -- begun
  refine set_te ⟨_, rfl, a, ns, rfl, hS, hlen, fun H0 b l z x0 bx nb0 nl0 => ?_⟩
  refine ⟨_, rfl, b, l, ns, z, rfl, bx, tg.xm (S := fun _ => False) x0.xm, fun H1 q p sl r sh R D t x1 nq0 np0 nsl0 nr0 sta1 kn hD h2 nE et => ?_⟩
  refine ⟨t, _, rfl, SqT.of et, rfl, _, _, rfl, _, _, rfl, _, _, rfl, rfl, ?_⟩
  refine ⟨(by show 0 ≤ sizeLine; decide), fun wa nwa => ⟨(by show 0 ≤ sizeLine; decide), fun ya nya => ⟨_, _, rfl, ?_⟩⟩⟩
  have xw := XX.new (T := T) (o := .lst []) nwa
  have xy := XX.new (T := T) (o := .lst []) nya
  have ewa := xy.lst (upd_same : upd H1 wa (.lst []) wa = some (.lst []))
  have eya : upd (upd H1 wa (.lst [])) ya (.lst []) ya = some (.lst []) := upd_same
  have B0 : Big K T C CS CW P1 P2 PF b l q p sl r wa ya sh R D [] [] (fun _ => ⟨none, false, []⟩) (fun _ => namesOf sh) (upd (upd H1 wa (.lst [])) ya (.lst [])) := by
    have xwy := xw.trans xy
    have sta := sta1.xx xwy
    obtain ⟨⟨_, k1⟩, ⟨_, k2⟩, ⟨_, k3⟩, _⟩ := sta1.kinds
    have nn : ∀ {G : Hp} {c d : Addr} {o : HO}, G c = none → G d = some o → c ≠ d := fun h1 h2 z => by rw [z, h2] at h1; cases h1
    exact ⟨sta, kn, ((tg.xm (S := fun _ => False) x0.xm).xm x1).xm (S := fun _ => False) xwy.xm, fun j a h => (nomatch h), fun i j a c h => (nomatch h), ewa, ⟨nn nwa k1, nn nwa k2, nn nwa k3, (nn nya (upd_same : upd H1 wa (.lst []) wa = some (.lst []))).symm⟩, eya, ⟨nn nya (xw.lst k1), nn nya (xw.lst k2), nn nya (xw.lst k3)⟩, fun e he => ⟨(nn nwa (sta1.w.hv e he).1).symm, (nn nya (xw.lst (sta1.w.hv e he).1)).symm⟩, fun j y h => (nomatch h)⟩
  revert B0
  generalize upd (upd H1 wa (.lst [])) ya (.lst []) = H2
  intro B0
  -- the walks
  obtain ⟨ns2, z2, bx2⟩ := B0.sta.bx
  refine ⟨_, rfl, b, l, ns2, z2, 2, rfl, bx2, by decide, by decide, fun H3 ns3 z3 n a3 bx3 n0 n1 => ⟨_, _, rfl, rfl, ?_⟩⟩
  have B3 := B0.take a3 bx3
  refine ⟨1 + n, rfl, by omega, by omega, for_range (lo := 0) (n := (1 + n).toNat) (fun i σ' H' => ∃ (W : List Wd) (ys : List Addr) (u7 : Option V), σ' = [some (.ref a), some (.ref b), some (.ref p), some (.ref q), some (.ref r), some (.ref wa), some (.ref ya), u7, none, none, none, none, none] ∧ Big K T C CS CW P1 P2 PF b l q p sl r wa ya sh R D W ys (fun _ => ⟨none, false, []⟩) (fun _ => namesOf sh) H' ∧ W.length = i ∧ ys.length = i)
    ⟨[], [], none, rfl, B3, rfl, rfl⟩ ?_ ?_⟩
  · rintro i σ' H' hi ⟨W, ys, u7, rfl, Bi, lW, lY⟩
    refine ⟨_, rfl, .inl ⟨rfl, _, SqL.of Bi.wl⟩, _, rfl, fun y yx ny nyx nyy => ?_⟩
    refine ⟨y, yx, q, rfl, upd_same, fun H5 pt x5 npt hpt hy5 => ⟨rfl, ?_⟩⟩
    intro wd nwd
    refine ⟨(by show 0 ≤ sizeLine; decide), fun td ntd => ⟨(by rw [upd_ne (fun z => by rw [← z, upd_same] at ntd; cases ntd)]; exact upd_same), [(.inr "last", .non), (.inr "over", .bl false), (.inr "told", .ref td)], rfl, (by show 3 ≤ 15; decide), ?_⟩⟩
    have em : mergeK [] [(.inr "last", .non), (.inr "over", .bl false), (.inr "told", .ref td)] = wD .non false td := rfl
    rw [em]
    have nt5 : H5 td = none := (XX.new (T := T) (o := .dK []) nwd).free ntd
    have nwt : td ≠ wd := fun z => by rw [z, upd_same] at ntd; cases ntd
    have x8 : XX T H5 (upd (upd (upd H5 wd (.dK [])) td (.lst [])) wd (.dK (wD .non false td))) := XX.of fun b u e => by rw [upd_ne (ne_of_none e nwd), upd_ne (ne_of_none e nt5), upd_ne (ne_of_none e nwd)]; exact e
    have ew8 : upd (upd (upd H5 wd (.dK [])) td (.lst [])) wd (.dK (wD .non false td)) wd = some (.dK (wD .non false td)) := upd_same
    have et8 : upd (upd (upd H5 wd (.dK [])) td (.lst [])) wd (.dK (wD .non false td)) td = some (.lst []) := by rw [upd_ne nwt]; exact upd_same
    revert x8 ew8 et8
    generalize upd (upd (upd H5 wd (.dK [])) td (.lst [])) wd (.dK (wD .non false td)) = H8
    intro x8 ew8 et8
    refine ⟨(by show 2 ≤ sizeLine; decide), fun tp ntp => ?_⟩
    have x9 := XX.new (T := T) (o := .tup [V.ref y, V.ref wd]) ntp
    have etp : upd H8 tp (.tup [V.ref y, V.ref wd]) tp = some (.tup [V.ref y, V.ref wd]) := upd_same
    have xg : XX T H' (upd (upd H' yx (.own y)) y (.ins CW yx [])) := XX.of fun b u e => by rw [upd_ne (ne_of_none e ny), upd_ne (ne_of_none e nyx)]; exact e
    have x9y : XM T (fun c => c = y) H' (upd H8 tp (.tup [V.ref y, V.ref wd])) := ((xg.xm.trans x5).trans x8.xm).trans x9.xm
    have x09 : XM T (fun c => c = wa ∨ c = ya) H' (upd H8 tp (.tup [V.ref y, V.ref wd])) := x9y.drop fun c h _ => by rw [h]; exact ny
    have nwy : wa ≠ y := fun z => by rw [← z, Bi.wl] at ny; cases ny
    have nyy' : ya ≠ y := fun z => by rw [← z, Bi.yl] at ny; cases ny
    have ewa9 := x9y.lst Bi.wl nwy
    have eya9 := x9y.lst Bi.yl nyy'
    have n2 : H' wd = none := (xg.xm.trans x5).free nwd
    have n3 : H' td = none := (xg.xm.trans x5).free nt5
    have hy9 := x9.ins (x8.ins hy5)
    have hpt9 := x9.sqT (x8.sqT hpt)
    have ew9 := x9.dk ew8
    have et9 := x9.lst et8
    revert x9y x09 ewa9 eya9 hy9 hpt9 ew9 et9 etp
    generalize upd H8 tp (.tup [V.ref y, V.ref wd]) = H9
    intro etp x9y x09 ewa9 eya9 hy9 hpt9 ew9 et9
    refine ⟨wa, _, .ref tp, rfl, rfl, ewa9, by rw [List.length_map, lW, sizeLine_eq]; omega, ?_⟩
    have y10 := XM.upd (T := T) (S := fun c => c = wa ∨ c = ya) (o' := .lst (W.map (fun a => V.ref a.tp) ++ [.ref tp])) ewa9 (.inl rfl) True.intro
    have eya10 : upd H9 wa (.lst (W.map (fun a => V.ref a.tp) ++ [.ref tp])) ya = some (.lst (ys.map fun y => V.ref y)) := by rw [upd_ne Bi.wn.2.2.2.symm]; exact eya9
    have ewa10 : upd H9 wa (.lst (W.map (fun a => V.ref a.tp) ++ [.ref tp])) wa = some (.lst (W.map (fun a => V.ref a.tp) ++ [.ref tp])) := upd_same
    have x10 := x09.trans y10
    have sta10 := Bi.far x10
    have nol : ∀ {c : Addr} {o : HO}, H' c = none → ¬ (c = wa ∨ c = ya) := fun {c o} h z => by
      rcases z with z | z
      · rw [z, Bi.wl] at h; cases h
      · rw [z, Bi.yl] at h; cases h
    have hy10 := y10.ins hy9 (nol (o := .lst []) ny)
    have hpt10 := y10.sqT hpt9
    have ew10 := y10.dk ew9 (nol (o := .lst []) n2)
    have et10 := y10.lst et9 (nol (o := .lst []) n3)
    have tp10 := y10.tup _ _ etp
    revert y10 eya10 ewa10 x10 sta10 hy10 hpt10 ew10 et10 tp10
    generalize upd H9 wa (.lst (W.map (fun a => V.ref a.tp) ++ [.ref tp])) = H10
    intro y10 eya10 ewa10 x10 sta10 hy10 hpt10 ew10 et10 tp10
    refine ⟨_, rfl, .inl ⟨rfl, _, SqL.of eya10⟩, _, rfl, ?_⟩
    dsimp only [tNil]
    refine sort_rows sta10.w kn (by omega) fun zs an hzs htz nan => ?_
    have x11 := XX.new (T := T) (o := .lst (zs.map fun z => V.ref z.2)) nan
    have ean : upd H10 an (.lst (zs.map fun z => V.ref z.2)) an = some (.lst (zs.map fun z => V.ref z.2)) := upd_same
    have eya11 := x11.lst eya10
    refine ⟨ya, _, .ref an, rfl, rfl, eya11, by rw [List.length_map, lY, sizeLine_eq]; omega, ?_⟩
    have y12 := XM.upd (T := T) (S := fun c => c = wa ∨ c = ya) (o' := .lst (ys.map (fun y => V.ref y) ++ [.ref an])) eya11 (.inr rfl) True.intro
    have nan' : H' an = none := x10.free nan
    have nat : an ≠ td := fun z => by rw [z, et10] at nan; cases nan
    refine ⟨W ++ [⟨y, yx, wd, td, tp⟩], ys ++ [an], _, rfl, Bi.add (a := ⟨y, yx, wd, td, tp⟩) (an := an) (zs := zs) ((x10.trans x11.xm).trans y12) ?_ upd_same ⟨pt, .non, [], y12.ins (x11.ins hy10) (nol (o := .lst []) ny), y12.sqT (x11.sqT hpt10), y12.dk (x11.dk ew10) (nol (o := .lst []) n2), rfl, y12.lst (x11.lst et10) (nol (o := .lst []) n3), .nil⟩ (SqT.of (y12.tup _ _ (x11.tup tp10))) ny n2 n3 nan' nat (y12.lst ean (nol (o := .lst []) nan')) (fun z hz => y12.tup _ _ (x11.tup (htz z hz))) hzs, by rw [List.length_append, lW]; rfl, by rw [List.length_append, lY]; rfl⟩
    rw [upd_ne Bi.wn.2.2.2]
    exact x11.lst ewa10
  rintro σ1 G1 ⟨W, ys1, u71, rfl, B4, lW, lY1⟩
  dsimp only [gName, tNext]
  have lW1 : 1 ≤ W.length ∧ W.length ≤ 2 := by omega
  -- the turns
  obtain ⟨ns4, z4, bx4⟩ := B4.sta.bx
  refine ⟨_, rfl, b, l, ns4, z4, 61, rfl, bx4, by decide, by decide, fun G5 ns5 z5 m a5 bx5 m0 m1 => ⟨m, rfl, by omega, by omega, for_range (lo := 0) (n := m.toNat) (fun i σ' H' => ∃ (sh : List Page) (R : List Row1) (D : List Ent) (ya : Addr) (ys : List Addr) (ss : Nat → WkS) (st : Nat → List Nm) (u7 u8 : Option V), σ' = [some (.ref a), some (.ref b), some (.ref p), some (.ref q), some (.ref r), some (.ref wa), some (.ref ya), u7, u8, none, none, none, none] ∧ Big K T C CS CW P1 P2 PF b l q p sl r wa ya sh R D W ys ss st H' ∧ ys.length = W.length ∧ (∀ j, j < W.length → Inv10 sh (ss j) (st j) ∧ (ss j).told.length ≤ i ∧ (st j).length ≤ 29) ∧ D.length ≤ 29 + i)
    ⟨sh, R, D, ya, ys1, _, _, u71, none, rfl, B4.take a5 bx5, by omega, fun j hj => ⟨Inv10.start fun _ h => h, Nat.le_refl _, by rw [names_len10 kn]; exact hD⟩, by omega⟩ ?_ ?_⟩⟩
  · clear B4 B3 B0 a5 bx5 a3 bx3 bx4 bx2 sta1 et nE x1 nwa nya xw xy ewa eya
    rintro i σ' H' hi ⟨sh, R, D, ya, ys, ss, st, u7, u8, rfl, Bi, lY, iv, lD⟩
    obtain ⟨ns6, z6, bx6⟩ := Bi.sta.bx
    have hl : (List.map (fun a => V.ref a.tp) W).length = W.length := List.length_map _
    refine ⟨_, rfl, _, rfl, wa, _, rfl, .inl (SqL.of Bi.wl), b, l, ns6, z6, ((List.map (fun a => V.ref a.tp) W).length : Int), rfl, bx6, by omega, by omega, fun H2 ns2 z2 jj a2 bx2 j0 j1 => ?_⟩
    have B2 := Bi.take a2 bx2
    refine ⟨_, rfl, b, l, ns2, z2, 3, rfl, bx2, by decide, by decide, fun H3 ns3 z3 ww a3 bx3 w0 w1 => ⟨rfl, _, rfl, ?_⟩⟩
    have B3 := B2.take a3 bx3
    obtain ⟨jn, rfl⟩ := Int.eq_ofNat_of_zero_le j0
    have hjn : jn < W.length := by omega
    generalize decide (V.int ww = V.int 0) = bb
    cases bb
    · refine iteF ?_
      have ha : W[jn]? = some W[jn] := List.getElem?_eq_getElem hjn
      revert ha
      generalize W[jn] = aw
      intro ha
      have o := B3.ws jn aw ha
      have hat : atI (W.map fun a => V.ref a.tp) (jn : Int) = some (.ref aw.tp) := atI_nat (by rw [List.getElem?_map, ha]; rfl)
      obtain ⟨i1, i2, i3⟩ := iv jn hjn
      refine ⟨_, rfl, _, rfl, wa, _, _, .ref aw.tp, rfl, rfl, SqL.of B3.wl, hat, aw.tp, _, 0, .ref aw.y, rfl, rfl, o.tp, atI0, _, rfl, _, rfl, wa, _, _, .ref aw.tp, rfl, rfl, SqL.of B3.wl, hat, aw.tp, _, 1, .ref aw.wd, rfl, rfl, o.tp, atI_nat (j := 1) rfl, _, rfl, ?_⟩
      refine ⟨b, l, q, p, sl, r, sh, R, D, aw.y, aw.yx, aw.wd, aw.td, ss jn, rfl, B3.sta, B3.kn, by omega, o.wk, by omega, o.nt.1, o.nt.2.1, o.nt.2.2.1, o.ne, fun H4 x4 wk4 => ⟨_, rfl, iteF ?_⟩⟩
      refine ⟨sh, R, D, ya, ys, _, st, _, _, rfl, B3.step ha x4 wk4, lY, fun j hj => ?_, by omega⟩
      obtain ⟨v1, v2, v3⟩ := iv j hj
      by_cases e : j = jn
      · rw [if_pos e, e]
        have := stp_told (sh := sh) (ss jn)
        exact ⟨i1.step B3.kn, by omega, i3⟩
      · rw [if_neg e]
        exact ⟨v1, by omega, v3⟩
    · refine iteT ?_
      refine ⟨_, rfl, _, rfl, _, rfl, b, l, q, p, sl, r, sh, R, D, rfl, B3.sta, B3.kn, by omega, B3.tg, fun H4 sh' R' D' x4 sta4 kn4 l4 n4 f4 => ?_⟩
      have B4 := B3.move x4 sta4 kn4 f4
      refine ⟨_, rfl, ya, rfl, ⟨_, SqL.of B4.yl⟩, fun D0 nD0 => ?_⟩
      refine lc_list (xs := ys.map fun y => V.ref y) (fun j H' => XX T H4 H' ∧ ∃ ys' : List Addr, H' D0 = some (.lst (ys'.map fun y => V.ref y)) ∧ ys'.length = j ∧ ∀ (k : Nat) (y : Addr), ys'[k]? = some y → H4 y = none ∧ y ≠ D0 ∧ ∃ zs : List (Nm × Addr), H' y = some (.lst (zs.map fun z => V.ref z.2)) ∧ (∀ z ∈ zs, H' z.2 = some (.tup (nmV z.1))) ∧ zs.map (·.1) = (st k).filter (inD D')) ⟨XX.new nD0, [], upd_same, rfl, fun k y h => (nomatch h)⟩ (fun j H' _ pv => pv.1.sqL (SqL.of B4.yl)) (fun j x H' ex pv => ⟨rfl, ?_⟩) (fun H5 pv => ?_)
      · unfold tYes
        refine iteT ?_
        obtain ⟨xj, ys', e1, lj, hh⟩ := pv
        rw [List.getElem?_map] at ex
        obtain ⟨y, hy, rfl⟩ := Option.map_eq_some_iff.mp ex
        obtain ⟨zs, g1, g2, g3⟩ := (B4.yy j y hy).at_
        have hjW : j < W.length := by have := (List.getElem?_eq_some_iff.mp hy).1; omega
        obtain ⟨v1, v2, v3⟩ := iv j hjW
        have lz : zs.length ≤ 29 := by rw [← List.length_map (f := (·.1)), g3]; exact v3
        refine ⟨_, rfl, y, rfl, ⟨_, SqL.of (xj.lst g1)⟩, fun D1 nD1 => ?_⟩
        refine lc_list (xs := zs.map fun z => V.ref z.2) (fun m H'' => XX T H' H'' ∧ H'' D1 = some (.lst (((zs.take m).filter fun z => inD D' z.1).map fun z => V.ref z.2))) ⟨XX.new nD1, upd_same⟩ (fun m H'' _ pv => (xj.trans pv.1).sqL (SqL.of g1)) (fun m x H'' ex pv => ⟨rfl, ?_⟩) (fun H6 pv => ?_)
        · obtain ⟨xm, em⟩ := pv
          rw [List.getElem?_map] at ex
          obtain ⟨z, hz, rfl⟩ := Option.map_eq_some_iff.mp ex
          have xx := xj.trans xm
          have hz2 := xx.tup (g2 z (List.mem_of_getElem? hz))
          have hr := B4.sta.w.hd
          have hr2 : H'' r = some (.dT (D'.map entV)) := xx.keep _ _ hr (fun ps z => by cases z)
          have htk : zs.take (m + 1) = zs.take m ++ [z] := by rw [List.take_succ, hz]; rfl
          refine ⟨_, rfl, _, rfl, r, _, rfl, DGet.t (k := nmK z.1) hr2 (by rw [nmK_kV]; exact hz2), _, rfl, ?_⟩
          show if inD D' z.1 = true then _ else _
          cases hv : inD D' z.1 with
          | true =>
            refine iteT ⟨_, rfl, _, em, ?_, xm.fillD nD1 em, ?_⟩
            · rw [List.length_map, sizeLine_eq]
              have := List.length_filter_le (fun z : Nm × Addr => inD D' z.1) (zs.take m)
              have := List.length_take_le' m zs
              omega
            · rw [htk, List.filter_append, List.filter_cons_of_pos (p := fun z : Nm × Addr => inD D' z.1) hv, List.map_append]
              exact upd_same
          | false =>
            refine iteF ⟨xm, ?_⟩
            rw [htk, List.filter_append, List.filter_cons_of_neg (p := fun z : Nm × Addr => inD D' z.1) (by rw [hv]; decide), List.filter_nil, List.append_nil]
            exact em
        · obtain ⟨xm, em⟩ := pv
          rw [List.length_map, List.take_length] at em
          have n01 : D1 ≠ D0 := fun z => by rw [z, e1] at nD1; cases nD1
          have e6 := xm.lst e1
          refine ⟨_, e6, by rw [List.length_map, lj, sizeLine_eq]; omega, (xj.trans xm).fillD nD0 e6, ys' ++ [D1], by rw [List.map_append]; exact upd_same, by rw [List.length_append, lj]; rfl, fun k y' hk => ?_⟩
          rcases Nat.lt_or_ge k ys'.length with g | g
          · rw [List.getElem?_append_left g] at hk
            obtain ⟨h1, h2, zs', h3, h4, h5⟩ := hh k y' hk
            exact ⟨h1, h2, zs', by rw [upd_ne h2]; exact xm.lst h3, fun z hz => by
              have hz4 := xm.tup (h4 z hz)
              rw [upd_ne fun w => by rw [w, e6] at hz4; cases hz4]
              exact hz4, h5⟩
          · rw [List.getElem?_append_right g] at hk
            obtain ⟨lt, e⟩ := List.getElem?_eq_some_iff.mp hk
            have lt : k - ys'.length < 1 := lt
            have ek : k = j := by omega
            have e : D1 = y' := by
              rw [show k - ys'.length = 0 by omega] at hk
              exact Option.some.inj hk
            subst e
            refine ⟨xj.free nD1, n01, zs.filter fun z => inD D' z.1, by rw [upd_ne n01]; exact em, fun z hz => ?_, ?_⟩
            · have hz4 := (xj.trans xm).tup (g2 z (List.mem_filter.mp hz).1)
              rw [upd_ne fun w => by rw [w, e6] at hz4; cases hz4]
              exact hz4
            · rw [ek, ← g3, List.filter_map]
              rfl
      · obtain ⟨x5, ys', e1, l5, hh⟩ := pv
        rw [List.length_map] at l5
        refine ⟨sh', R', D', D0, ys', ss, fun k => (st k).filter (inD D'), _, _, rfl, B4.stays x5 nD0 e1 hh, by omega, fun j hj => ?_, by omega⟩
        obtain ⟨v1, v2, v3⟩ := iv j hj
        have := List.length_filter_le (inD D') (st j)
        exact ⟨v1.deed (fun nm h => (List.mem_filter.mp h).1) (fun nm h => inD_names kn4 (List.mem_filter.mp h).2), by omega, Nat.le_trans this v3⟩
  clear B4 B3 B0 a5 bx5 a3 bx3 bx4 bx2 sta1 et nE x1 nwa nya xw xy ewa eya
  rintro σ2 G2 ⟨sh, R, D, ya, ys, ss, st, u7, u8, rfl, B6, lY, iv, lD⟩
  dsimp only [gName, tNext]
  -- each to its end
  have hl : (List.map (fun a => V.ref a.tp) W).length = W.length := List.length_map _
  refine ⟨_, rfl, wa, _, rfl, .inl (SqL.of B6.wl), ((List.map (fun a => V.ref a.tp) W).length : Int), rfl, by omega, by omega, for_range (D := { nx := _, rt := Q }) (lo := 0) (n := ((List.map (fun a => V.ref a.tp) W).length : Int).toNat) (fun i σ' H' => ∃ (ss : Nat → WkS) (u7 u8 u11 u12 : Option V), σ' = [some (.ref a), some (.ref b), some (.ref p), some (.ref q), some (.ref r), some (.ref wa), some (.ref ya), u7, u8, none, none, u11, u12] ∧ Big K T C CS CW P1 P2 PF b l q p sl r wa ya sh R D W ys ss st H' ∧ ∀ j, j < W.length → Inv10 sh (ss j) (st j) ∧ (ss j).told.length ≤ 61 + 100 * i)
    ⟨ss, u7, u8, none, none, rfl, B6, fun j hj => ⟨(iv j hj).1, by have := (iv j hj).2.1; omega⟩⟩ ?_ ?_⟩
  · rintro i σ' H' hi ⟨ss, u7, u8, u11, u12, rfl, Bi, iw⟩
    have hiW : i < W.length := by omega
    have ha : W[i]? = some W[i] := List.getElem?_eq_getElem hiW
    revert ha
    generalize W[i] = aw
    intro ha
    rw [Int.zero_add]
    have o := Bi.ws i aw ha
    have hat : atI (W.map fun a => V.ref a.tp) (i : Int) = some (.ref aw.tp) := atI_nat (by rw [List.getElem?_map, ha]; rfl)
    refine ⟨_, rfl, _, rfl, wa, _, _, .ref aw.tp, rfl, rfl, SqL.of Bi.wl, hat, aw.tp, _, rfl, o.tp, rfl, _, _, rfl, _, _, rfl, rfl, ?_⟩
    have OV : ∀ {J : Hp} {ss : Nat → WkS}, Big K T C CS CW P1 P2 PF b l q p sl r wa ya sh R D W ys ss st J → DGet J aw.wd (.str "over") (some (.bl (ss i).over)) := fun Bj => by
      obtain ⟨pt, lv, tds, h1, h2, h3, h4, h5, h6⟩ := (Bj.ws i aw ha).wk.ex
      exact DGet.k (k := (.inr "over" : Key)) h3
    have TD : ∀ {J : Hp} {ss : Nat → WkS}, Big K T C CS CW P1 P2 PF b l q p sl r wa ya sh R D W ys ss st J → DGet J aw.wd (.str "told") (some (.ref aw.td)) := fun Bj => by
      obtain ⟨pt, lv, tds, h1, h2, h3, h4, h5, h6⟩ := (Bj.ws i aw ha).wk.ex
      exact DGet.k (k := (.inr "told" : Key)) h3
    have lN : (namesOf sh).length ≤ 90 := by rw [names_len10 Bi.kn]; omega
    refine ⟨100, rfl, by decide, by decide, for_range (D := { nx := _, rt := Q }) (lo := 0) (n := (100 : Int).toNat) (fun n σ' H' => ∃ (ss : Nat → WkS) (u8 : Option V), σ' = [some (.ref a), some (.ref b), some (.ref p), some (.ref q), some (.ref r), some (.ref wa), some (.ref ya), some (.int (i : Int)), u8, none, none, some (.ref aw.y), some (.ref aw.wd)] ∧ Big K T C CS CW P1 P2 PF b l q p sl r wa ya sh R D W ys ss st H' ∧ (∀ j, j < W.length → Inv10 sh (ss j) (st j) ∧ (ss j).told.length ≤ 61 + 100 * i + n) ∧ left10 sh (ss i) ≤ 100 - n)
      ⟨ss, u8, rfl, Bi, iw, by have := left_top (sh := sh) (ss i); omega⟩ ?_ ?_⟩
    · rintro n' σ' H' hn ⟨ss, u8, rfl, Bj, iw, lf⟩
      refine ⟨_, rfl, aw.wd, _, rfl, OV Bj, _, rfl, ?_⟩
      have oj := Bj.ws i aw ha
      obtain ⟨iv1, iv2⟩ := iw i hiW
      cases ho : (ss i).over with
      | true =>
        refine iteF (iteF ⟨ss, _, rfl, Bj, fun j hj => ⟨(iw j hj).1, by have := (iw j hj).2; omega⟩, ?_⟩)
        have : left10 sh (ss i) = 0 := if_pos ho
        omega
      | false =>
        refine iteT ⟨_, rfl, _, rfl, _, rfl, b, l, q, p, sl, r, sh, R, D, aw.y, aw.yx, aw.wd, aw.td, ss i, rfl, Bj.sta, Bj.kn, by omega, oj.wk, by omega, oj.nt.1, oj.nt.2.1, oj.nt.2.2.1, oj.ne, fun H4 x4 wk4 => ⟨_, rfl, iteF ?_⟩⟩
        refine ⟨_, _, rfl, Bj.step ha x4 wk4, fun j hj => ?_, ?_⟩
        · obtain ⟨v1, v2⟩ := iw j hj
          by_cases e : j = i
          · rw [if_pos e, e]
            have := stp_told (sh := sh) (ss i)
            exact ⟨iv1.step Bj.kn, by omega⟩
          · rw [if_neg e]
            exact ⟨v1, by omega⟩
        · rw [if_pos rfl]
          have := left_step Bj.kn iv1 ho
          omega
    · rintro σ' H' ⟨ss, u8, rfl, Bj, iw, lf⟩
      have oj := Bj.ws i aw ha
      obtain ⟨iv1, iv2⟩ := iw i hiW
      have ho : (ss i).over = true := left_over (sh := sh) (by have : (100 : Int).toNat = 100 := rfl; omega)
      obtain ⟨pt, lv, tds, h1, h2, h3, h4, h5, h6⟩ := oj.wk.ex
      obtain ⟨qx, dx, done, stx⟩ := Bj.sta.st
      obtain ⟨zs, e1, e2, e3⟩ := dp_names h6
      have lz : zs.length = (ss i).told.length := by rw [← e1, List.length_map]
      have ov := OV Bj
      rw [ho] at ov
      dsimp only [gName, tNext]
      refine ⟨_, rfl, aw.wd, _, rfl, ov, true, rfl, iteF ?_⟩
      refine ⟨_, rfl, aw.y, aw.yx, _, rfl, h1, rfl, ?_⟩
      dsimp only [tNil]
      refine ⟨aw.y, aw.yx, q, qx, p, dx, sl, sh, done, R, D, pt, (ss i).over, _, _, rfl, h1, h2, stx, Bj.kn, fun _ => ⟨rfl, _, rfl, ?_⟩, fun hf => absurd (ho.symm.trans hf) (by decide), fun hf => absurd (ho.symm.trans hf) (by decide)⟩
      rw [decide_eq_true rfl]
      refine iteF ?_
      have hT : (ss i).told.length ≤ 300 := by
        have : (100 : Int).toNat = 100 := rfl
        omega
      refine ⟨_, rfl, aw.wd, _, rfl, TD Bj, aw.td, zs.map (fun z => (z.2, nmI z.1)), rfl, ?_, ?_, ?_, ?_, ?_⟩
      · rw [List.map_map]
        exact SqL.of (by rw [h5, e2]; rfl)
      · intro z hz
        obtain ⟨z0, hz0, rfl⟩ := List.mem_map.mp hz
        exact e3 z0 hz0
      · rw [List.length_map, lz]; exact hT
      · rw [List.map_map, show ((fun x : Addr × List Int => x.2) ∘ fun z : Nm × Addr => (z.2, nmI z.1)) = nmI10 ∘ (·.1) from rfl, ← List.map_map, e1]
        exact nmI10_nodup iv1.nodup
      refine ⟨_, rfl, aw.wd, _, rfl, TD Bj, aw.td, tds, rfl, .inl (SqL.of h5), rfl, _, rfl, ?_⟩
      rw [decide_eq_true (by rw [List.length_map, e2, List.length_map])]
      refine iteF ?_
      -- all that stayed are told
      have hyi : i < ys.length := by omega
      have hy : ys[i]? = some ys[i] := List.getElem?_eq_getElem hyi
      revert hy
      generalize ys[i] = yi
      intro hy
      obtain ⟨zs', g1, g2, g3⟩ := (Bj.yy i yi hy).at_
      have hat2 : atI (ys.map fun y => V.ref y) (i : Int) = some (.ref yi) := atI_nat (by rw [List.getElem?_map, hy]; rfl)
      dsimp only [gName, tNext]
      refine ⟨_, rfl, _, rfl, ya, _, _, .ref yi, rfl, rfl, SqL.of Bj.yl, hat2, yi, rfl, ⟨_, SqL.of g1⟩, fun D0 nD0 => ?_⟩
      refine lc_list (xs := zs'.map fun z => V.ref z.2) (fun n J => XX T H' J ∧ J D0 = some (.lst [])) ⟨XX.new nD0, upd_same⟩ (fun n J _ pv => pv.1.sqL (SqL.of g1)) (fun n x J ex pv => ⟨rfl, ?_⟩) (fun J pv => ?_)
      · obtain ⟨xj, ej⟩ := pv
        rw [List.getElem?_map] at ex
        obtain ⟨z, hz, rfl⟩ := Option.map_eq_some_iff.mp ex
        have hzm : z ∈ zs' := List.mem_of_getElem? hz
        have hin : z.1 ∈ (ss i).told := iv1.done ho _ (by rw [← g3]; exact List.mem_map_of_mem hzm)
        refine ⟨_, rfl, _, rfl, aw.wd, _, rfl, TD (Bj.xx xj), nmD z.1, (ss i).told.map nmD, nmV_dp10 (xj.sqT (SqT.of (g2 z hzm))), .lst (SqL.of (xj.lst h5)) (Dp.xxAll xj _ _ h6), rfl, names_sh _, _, rfl, ?_⟩
        rw [told_any hin]
        exact iteF ⟨xj, ej⟩
      · obtain ⟨xj, ej⟩ := pv
        refine ⟨(by show 0 ≤ sizeLine; decide), fun p0 hp0 => ?_⟩
        have x4 := XX.new (T := T) (o := .lst []) hp0
        refine ⟨.list [], .list [], .lst (SqL.of (x4.lst ej)) .nil, .lst (SqL.of upd_same) .nil, shaped_nil, shaped_nil, _, rfl, ?_⟩
        refine iteF ⟨ss, _, _, _, _, rfl, Bj.xx (xj.trans x4), fun j hj => ⟨(iw j hj).1, ?_⟩⟩
        have := (iw j hj).2
        have : (100 : Int).toNat = 100 := rfl
        omega
  · rintro σ' H' ⟨ss, u7, u8, u11, u12, rfl, Bi, iw⟩
    exact k _
end
end GX
set_option maxHeartbeats 2000000
namespace GX
open PySem PySem.Spec PyProof.Rows L2 LamX
section
variable {P : Program} {w : World} {K : PySem.W.Frag} {mg : Str → Option Value} {base : Heap} {T : List (Addr × Str)}
theorem sc_is_number : FnScope ["thing", "low", "high"] ["thing", "low", "high"] (defScope s_is_number) := ⟨rfl, rfl, rfl, by decide +kernel, rfl, by decide +kernel, by decide +kernel⟩
theorem ok_is_number {f : Addr} {fd : FuncData} (F : Fun K "is_number" "is_number" s_is_number f fd) (B : Blt mg) : FnOk P w K mg base CX0 1 f fd ["thing", "low", "high"] (spNum K) := by
  refine F.ok sc_is_number (fun vs H Q E h => ?_) (fun cdv A outer s H vs Q E hr h => ?_)
  · obtain ⟨v, d, lo, hi, rfl, _⟩ := h
    rfl
  · obtain ⟨v, d, lo, hi, rfl, hd, k⟩ := h
    refine ⟨_, pss_one (ps_ret (pe_and (pe_callB call_isi (by rfl) B.isi k_isi (pa_cons (pv 0) (pa_cons (pe_bltn (v := .ty "int") (by rfl) B.int boot_int rfl) pa_nil)))
      (pe_and (pe_not (pe_callB call_isi (by rfl) B.isi k_isi (pa_cons (pv 0) (pa_cons (pe_bltn (v := .ty "bool") (by rfl) B.bool boot_bool rfl) pa_nil))))
        (pe_one (pe_chain op_le op_le (pv 1) (pv 0) (pv 2)))))), ?_⟩
    refine t_isi rfl hd kit_int ⟨_, rfl, ?_⟩
    cases hd with
    | int i =>
      refine iteT (t_isi rfl (.int i) kit_bool ⟨_, rfl, _, rfl, iteT ?_⟩)
      refine ⟨_, rfl, _, rfl, _, _, rfl, rfl, _, rfl, ?_⟩
      by_cases h1 : lo ≤ i
      · rw [decide_eq_true h1]
        refine iteT ⟨_, rfl, _, _, rfl, rfl, ?_⟩
        have e : isNum (.int i) lo hi = decide (i ≤ hi) := by simp [isNum, h1]
        rw [e] at k; exact k
      · rw [decide_eq_false h1]
        refine iteF ?_
        have e : isNum (.int i) lo hi = false := by simp [isNum, h1]
        rw [e] at k; exact k
    | bl b => exact iteT (t_isi rfl (.bl b) kit_bool ⟨_, rfl, _, rfl, iteF k⟩)
    | non => exact iteF k
    | str x => exact iteF k
    | lst _ _ => exact iteF k
    | tup _ _ => exact iteF k
theorem sc_is_tuple : FnScope ["thing", "many"] ["thing", "many"] (defScope s_is_tuple) := ⟨rfl, rfl, rfl, by decide +kernel, rfl, by decide +kernel, by decide +kernel⟩
theorem ok_is_tuple {f : Addr} {fd : FuncData} (F : Fun K "is_tuple" "is_tuple" s_is_tuple f fd) (B : Blt mg) : FnOk P w K mg base CX0 1 f fd ["thing", "many"] (spTup K) := by
  refine F.ok sc_is_tuple (fun vs H Q E h => ?_) (fun cdv A outer s H vs Q E hr h => ?_)
  · obtain ⟨v, d, n, rfl, _⟩ := h
    rfl
  · obtain ⟨v, d, n, rfl, hd, k⟩ := h
    refine ⟨_, pss_one (ps_ret (pe_and (pe_callB call_isi (by rfl) B.isi k_isi (pa_cons (pv 0) (pa_cons (pe_bltn (v := .ty "tuple") (by rfl) B.tuple boot_tuple rfl) pa_nil)))
      (pe_one (pe_cmpR op_eq (pe_callB call_len_seq (by rfl) B.len PySem.boot_len (pa_cons (pv 0) pa_nil)) (pv 1) (nomark _))))), ?_⟩
    refine t_isi rfl hd kit_tuple ⟨_, rfl, ?_⟩
    cases hd with
    | tup hs ha =>
      refine iteT ⟨_, rfl, _, _, rfl, .inr hs, _, rfl, rfl, ?_⟩
      rw [isTup_dec (dpAll_len ha)] at k
      exact k
    | lst _ _ => exact iteF k
    | int i => exact iteF k
    | bl b => exact iteF k
    | non => exact iteF k
    | str x => exact iteF k
end
end GX
namespace GX
open PySem PySem.Spec PyProof.Rows L2 LamX
section
variable {P : Program} {w : World} {K : PySem.W.Frag} {mg : Str → Option Value} {base : Heap} {T : List (Addr × Str)}
theorem sc_is_next : FnScope ["thing"] ["thing"] (defScope s_is_next) := ⟨rfl, rfl, rfl, by decide +kernel, rfl, by decide +kernel, by decide +kernel⟩
theorem ok_is_next {f : Addr} {fd : FuncData} (F : Fun K "is_next" "is_next" s_is_next f fd) (C : CoF mg) (cN : Cal P w K mg base CX0 "is_number" ["thing", "low", "high"] 1 (spNum K)) (cT : Cal P w K mg base CX0 "is_tuple" ["thing", "many"] 1 (spTup K)) : FnOk P w K mg base CX0 2 f fd ["thing"] (spNext K) := by
  refine F.ok sc_is_next (fun vs H Q E h => ?_) (fun cdv A outer s H vs Q E hr h => ?_)
  · obtain ⟨v, d, rfl, _⟩ := h
    rfl
  · obtain ⟨v, d, rfl, hd, k⟩ := h
    refine ⟨_, pss_cons (ps_if (pt_cmpR op_isN (pv 0) pe_non (nomark _)) (pss_one (ps_ret pe_bl)) pss_nil)
      (pss_one (ps_ret (pe_and (pe_cal cT hr (pa_cons (pv 0) (pa_cons pe_int pa_nil)))
        (pe_and (pe_cal cN hr (pa_cons (pe_ix ix_tup (pv 0) pe_int (fun _ _ => rfl)) (pa_cons pe_int (pa_cons (pe_op op_sub (pe_const C.most) pe_int) pa_nil))))
          (pe_one (pe_cal cN hr (pa_cons (pe_ix ix_tup (pv 0) pe_int (fun _ _ => rfl)) (pa_cons pe_int (pa_cons (pe_op op_sub (pe_const C.slots) pe_int) pa_nil))))))))), ?_⟩
    refine ⟨v, rfl, rfl, _, rfl, ?_⟩
    by_cases hv : v = .non
    · subst hv
      obtain rfl := dp_non hd
      exact iteT k
    · rw [decide_eq_false hv]
      refine iteF ⟨v, rfl, v, d, 2, rfl, hd, _, rfl, ?_⟩
      by_cases h2 : isTup d 2 = true
      · rw [h2]
        obtain ⟨x, y, rfl⟩ := isTup2 h2
        obtain ⟨a, xs, rfl, hs, ha⟩ := dp_tup hd
        obtain ⟨vx, vy, rfl, hx, hy⟩ := dpAll2 ha
        refine iteT ⟨_, rfl, a, _, 0, vx, rfl, rfl, hs, rfl, _, _, rfl, rfl, vx, x, 0, 11, rfl, hx, _, rfl, ?_⟩
        by_cases h1 : isNum x 0 11 = true
        · rw [h1]
          refine iteT ⟨_, rfl, a, _, 1, vy, rfl, rfl, hs, rfl, _, _, rfl, rfl, vy, y, 0, 7, rfl, hy, ?_⟩
          have e : isNext (.tuple [x, y]) = isNum y 0 7 := by simp [isNext, h1]
          rw [e] at k; exact k
        · have h1' : isNum x 0 11 = false := by simpa using h1
          rw [h1']
          have e : isNext (.tuple [x, y]) = false := by simp [isNext, h1']
          rw [e] at k; exact iteF k
      · have h2' : isTup d 2 = false := by simpa using h2
        rw [h2']
        rw [isNext_no (dp_notN hd hv) h2'] at k
        exact iteF k
end
end GX
namespace GX
open PySem PySem.Spec PyProof.Rows L2 LamX
section
variable {P : Program} {w : World} {K : PySem.W.Frag} {mg : Str → Option Value} {base : Heap} {T : List (Addr × Str)}
theorem sc_holds : FnScope ["thing", "least", "_", "turn", "begin", "size", "after"] ["thing", "least"] (defScope s_holds) := ⟨rfl, rfl, rfl, by decide +kernel, rfl, by decide +kernel, by decide +kernel⟩
theorem ok_holds {f : Addr} {fd : FuncData} (F : Fun K "_holds" "_holds" s_holds f fd) (B : Blt mg) (C : CoF mg) (cN : Cal P w K mg base CX0 "is_number" ["thing", "low", "high"] 1 (spNum K)) (cX : Cal P w K mg base CX0 "is_next" ["thing"] 2 (spNext K)) : FnOk P w K mg base CX0 3 f fd ["thing", "least"] (spHolds K) := by
  refine F.ok sc_holds (fun vs H Q E h => ?_) (fun cdv A outer s H vs Q E hr h => ?_)
  · obtain ⟨v, ds, l, rfl, _⟩ := h
    rfl
  · obtain ⟨v, ds, least, rfl, hd, k⟩ := h
    have nd := sc_holds.nd
    refine ⟨_, pss_cons (ps_if (pt_cmpR op_ne (pe_callB call_len_seq (by rfl) B.len PySem.boot_len (pa_cons (pv 0) pa_nil)) pe_int (nomark _)) (pss_one (ps_ret pe_bl)) pss_nil)
      (pss_cons (ps_asg (pv 0) (pg_tup (by rfl) (pgs_cons (pg_name (i := 2) nd rfl (.inl rfl)) (pgs_cons (pg_name (i := 3) nd rfl (.inl rfl)) (pgs_cons (pg_name (i := 4) nd rfl (.inl rfl)) (pgs_cons (pg_name (i := 5) nd rfl (.inl rfl)) (pgs_cons (pg_name (i := 6) nd rfl (.inl rfl)) pgs_nil)))))))
      (pss_cons (ps_if (PW.pt (pw_or (pt_not (pt_val (pe_cal cN (hr.mono (by decide)) (pa_cons (pv 3) (pa_cons pe_int (pa_cons (pe_const C.turn) pa_nil))))))
          (pw_or1 (pt_not (pt_val (pe_cal cN (hr.mono (by decide)) (pa_cons (pv 4) (pa_cons pe_int (pa_cons (pe_const C.cells) pa_nil)))))))) ) (pss_one (ps_ret pe_bl)) pss_nil)
      (pss_one (ps_ret (pe_and (pe_cal cN (hr.mono (by decide)) (pa_cons (pv 5) (pa_cons (pv 1) (pa_cons (pe_op op_sub (pe_const C.cells) (pv 4)) pa_nil)))) (pe_one (pe_cal cX hr (pa_cons (pv 6) pa_nil)))))))), ?_⟩
    obtain ⟨a, xs, rfl, hs, ha⟩ := dp_tup hd
    refine ⟨_, rfl, a, xs, rfl, .inr hs, rfl, _, rfl, ?_⟩
    have hl := dpAll_len ha
    by_cases h5 : ds.length = 5
    · have e5 : (!decide (V.int (xs.length : Int) = V.int 5)) = false := by simp [hl, h5]
      rw [e5]
      obtain ⟨d0, d1, d2, d3, d4, rfl⟩ := len5 h5
      obtain ⟨v0, v1, v2, v3, v4, rfl, h0, h1, h2, h3, h4⟩ := dpAll5 ha
      refine iteF ⟨_, rfl, a, _, rfl, hs, rfl, _, _, rfl, _, _, rfl, _, _, rfl, _, _, rfl, _, _, rfl, rfl, ?_⟩
      refine ⟨v1, rfl, v1, d1, 0, 99, rfl, h1, _, rfl, ?_⟩
      by_cases q1 : isNum d1 0 99 = true
      · rw [q1]
        refine iteF ⟨v2, rfl, v2, d2, 0, 24, rfl, h2, _, rfl, ?_⟩
        by_cases q2 : isNum d2 0 24 = true
        · rw [q2]
          obtain ⟨bi, rfl, _, _⟩ := isNum_int q2
          obtain rfl := dp_int h2
          refine iteF ⟨v3, rfl, _, rfl, _, rfl, _, _, rfl, rfl, v3, d3, least, 24 - bi, rfl, h3, _, rfl, ?_⟩
          by_cases q3 : isNum d3 least (24 - bi) = true
          · rw [q3]
            refine iteT ⟨v4, rfl, v4, d4, rfl, h4, ?_⟩
            have e : holds [d0, d1, .int bi, d3, d4] least = isNext d4 := by simp [holds, q1, q2, q3]
            rw [e] at k; exact k
          · have q3' : isNum d3 least (24 - bi) = false := by simpa using q3
            rw [q3']
            have e : holds [d0, d1, .int bi, d3, d4] least = false := by simp [holds, q3']
            rw [e] at k; exact iteF k
        · have q2' : isNum d2 0 24 = false := by simpa using q2
          rw [q2']
          have e : holds [d0, d1, d2, d3, d4] least = false := by simp [holds, q2']
          rw [e] at k; exact iteT k
      · have q1' : isNum d1 0 99 = false := by simpa using q1
        rw [q1']
        have e : holds [d0, d1, d2, d3, d4] least = false := by simp [holds, q1']
        rw [e] at k; exact iteT k
    · have e5 : (!decide (V.int (xs.length : Int) = V.int 5)) = true := by
        simp [hl]; omega
      rw [e5]
      rw [holds_no h5] at k
      exact iteT k
end
end GX
namespace GX
open PySem PySem.Spec PyProof.Rows L2 LamX
section
variable {P : Program} {w : World} {K : PySem.W.Frag} {mg : Str → Option Value} {base : Heap} {T : List (Addr × Str)}
theorem sc_is_slot : FnScope ["thing"] ["thing"] (defScope s_is_slot) := ⟨rfl, rfl, rfl, by decide +kernel, rfl, by decide +kernel, by decide +kernel⟩
theorem ok_is_slot {f : Addr} {fd : FuncData} (F : Fun K "is_slot" "is_slot" s_is_slot f fd) (B : Blt mg) (C : CoF mg) (cN : Cal P w K mg base CX0 "is_number" ["thing", "low", "high"] 1 (spNum K)) (cH : Cal P w K mg base CX0 "_holds" ["thing", "least"] 3 (spHolds K)) : FnOk P w K mg base CX0 4 f fd ["thing"] (spSlot K) := by
  refine F.ok sc_is_slot (fun vs H Q E h => ?_) (fun cdv A outer s H vs Q E hr h => ?_)
  · obtain ⟨v, d, rfl, _⟩ := h
    rfl
  · obtain ⟨v, d, rfl, hd, hs, k⟩ := h
    refine ⟨_, pss_cons (ps_if (PW.pt (pw_or (pt_not (pt_val (pe_callB call_isi (by rfl) B.isi k_isi (pa_cons (pv 0) (pa_cons (pe_bltn (v := .ty "tuple") (by rfl) B.tuple boot_tuple rfl) pa_nil))))) (pw_or1 (pt_not (pt_truth (pv 0) (by intro _; rfl)))))) (pss_one (ps_ret pe_bl)) pss_nil)
      (pss_cons (ps_if (pt_cmpR (op_eqD hr.units) (pe_ix ix_tup (pv 0) pe_int (fun _ _ => rfl)) pe_str (nomark _))
        (pss_one (ps_ret (pe_and (pe_cmpR op_eq (pe_callB call_len_seq (by rfl) B.len PySem.boot_len (pa_cons (pv 0) pa_nil)) pe_int (nomark _)) (pe_one (pe_cal cN (hr.mono (by decide)) (pa_cons (pe_ix ix_tup (pv 0) pe_int (fun _ _ => rfl)) (pa_cons pe_int (pa_cons (pe_const C.spent) pa_nil)))))))) pss_nil)
      (pss_cons (ps_if (pt_cmpR (op_eqD hr.units) (pe_ix ix_tup (pv 0) pe_int (fun _ _ => rfl)) pe_str (nomark _)) (pss_one (ps_ret (pe_cal cH hr (pa_cons (pv 0) (pa_cons pe_int pa_nil))))) pss_nil)
      (pss_one (ps_ret (pe_and (pe_cmpR (op_eqD hr.units) (pe_ix ix_tup (pv 0) pe_int (fun _ _ => rfl)) pe_str (nomark _)) (pe_one (pe_cal cH hr (pa_cons (pv 0) (pa_cons pe_int pa_nil))))))))), ?_⟩
    refine t_isi rfl hd kit_tuple ⟨_, rfl, ?_⟩
    by_cases ht : isT "tuple" d = true
    · rw [ht]
      obtain ⟨ds, rfl⟩ := isT_tuple ht
      obtain ⟨a, xs, rfl, hS, ha⟩ := dp_tup hd
      refine iteF ⟨_, rfl, _, .inr (.inl ⟨xs, hS, rfl⟩), ?_⟩
      cases ds with
      | nil =>
        obtain rfl := dpAll0 ha
        exact iteT k
      | cons d0 r =>
        obtain ⟨v0, xr, rfl, h0, har⟩ := dpAllC ha
        have s0 : SeqAt.shaped d0 = true := shaped_mem hs List.mem_cons_self
        refine iteF ⟨_, rfl, a, _, 0, v0, rfl, rfl, hS, atI0, d0, .str "free", h0, .str _, s0, sh_free, _, rfl, ?_⟩
        by_cases e1 : PyData.eqv d0 (.str "free") = true
        · rw [e1]
          refine iteT ⟨_, rfl, a, _, rfl, .inr hS, rfl, _, rfl, ?_⟩
          by_cases hl : (v0 :: xr).length = 2
          · obtain ⟨v1, rfl⟩ := len2 hl
            obtain ⟨d1, rfl, h1⟩ := dpAll1 har
            refine iteT ⟨_, rfl, a, _, 1, v1, rfl, rfl, hS, rfl, v1, d1, 0, 100, rfl, h1, ?_⟩
            have e : isSlot (.tuple [d0, d1]) = isNum d1 0 100 := by simp [isSlot, e1]
            rw [e] at k; exact k
          · have eL : decide (V.int ((v0 :: xr).length : Int) = V.int 2) = false := by
              simp only [decide_eq_false_iff_not, V.int.injEq]
              omega
            rw [eL]
            have e : isSlot (.tuple (d0 :: r)) = false := by
              rw [isSlot_free e1]
              intro d1 e
              rw [e] at har
              have := dpAll_len har
              simp at this
              simp [this] at hl
            rw [e] at k; exact iteF k
        · have e1' : PyData.eqv d0 (.str "free") = false := by simpa using e1
          rw [e1']
          refine iteF ⟨_, rfl, a, _, 0, v0, rfl, rfl, hS, atI0, d0, .str "row", h0, .str _, s0, sh_row, _, rfl, ?_⟩
          by_cases e2 : PyData.eqv d0 (.str "row") = true
          · rw [e2]
            refine iteT ⟨_, rfl, _, d0 :: r, 0, rfl, hd, ?_⟩
            have e : isSlot (.tuple (d0 :: r)) = holds (d0 :: r) 0 := by simp [isSlot, e1', e2]
            rw [e] at k; exact k
          · have e2' : PyData.eqv d0 (.str "row") = false := by simpa using e2
            rw [e2']
            refine iteF ⟨_, rfl, a, _, 0, v0, rfl, rfl, hS, atI0, d0, .str "part", h0, .str _, s0, sh_part, _, rfl, ?_⟩
            have e : isSlot (.tuple (d0 :: r)) = (PyData.eqv d0 (.str "part") && holds (d0 :: r) 1) := by simp [isSlot, e1', e2']
            rw [e] at k
            by_cases e3 : PyData.eqv d0 (.str "part") = true
            · rw [e3] at k ⊢
              exact iteT ⟨_, rfl, _, d0 :: r, 1, rfl, hd, k⟩
            · have e3' : PyData.eqv d0 (.str "part") = false := by simpa using e3
              rw [e3'] at k ⊢
              exact iteF k
    · have ht' : isT "tuple" d = false := by simpa using ht
      rw [ht']
      rw [isSlot_no ht'] at k
      exact iteT k
end
end GX
namespace GX
open PySem PySem.Spec PyProof.Rows L2 LamX
section
variable {P : Program} {w : World} {K : PySem.W.Frag} {mg : Str → Option Value} {base : Heap} {T : List (Addr × Str)}
theorem pi_lt {X : Cx} {tg l : Expr} {tl : TE} (hl : PE X l tl) : PI X tg l (fun σ H R => tl σ H fun x H1 => ∃ a, x = .ref a ∧ ((∃ xs, SqL X.K H1 a xs ∧ R (Itl X.K a) H1) ∨ (∃ xs, SqT X.K H1 a xs ∧ R (Itt X.K a) H1))) := by
  refine ⟨fun pins s σ H R I h => ?_⟩
  refine thn (hl.run pins s σ H _ I h) fun v s1 ⟨x, H1, I1, r1, q1⟩ => ?_
  obtain ⟨a, e, q1⟩ := q1
  subst e
  cases r1
  rcases q1 with ⟨xs, hq, q⟩ | ⟨xs, hq, q⟩
  · obtain ⟨its, rv, p, hz⟩ := I1.list hq
    refine wpAny_pyIter_list p.isList ?_
    refine ⟨s1.heap.objs.size, [s1.heap.objs.size], _, _, H1, rfl, I1.kept (t' := s1.toks) fun b o e => Heap.get?_push_of_some _ e, turn_list a _, ⟨_, Heap.get?_push_size _ rfl, rfl, rfl⟩, fun b hb => ?_, q⟩
    have e : b = s1.heap.objs.size := by simpa using hb
    subst e
    exact I1.fpOk (Nat.le_refl _) (I1.hok.fresh (Nat.le_refl _))
  · obtain ⟨its, rv, p, hz⟩ := I1.tuple hq
    refine wpAny_pyIter_tuple (show s1.heap.IsTuple a its.toArray from p) ?_
    refine ⟨s1.heap.objs.size, [s1.heap.objs.size], _, _, H1, rfl, I1.kept (t' := s1.toks) fun b o e => Heap.get?_push_of_some _ e, turn_tuple a _, ⟨_, Heap.get?_push_size _ rfl, rfl, rfl⟩, fun b hb => ?_, q⟩
    have e : b = s1.heap.objs.size := by simpa using hb
    subst e
    exact I1.fpOk (Nat.le_refl _) (I1.hok.fresh (Nat.le_refl _))
theorem sc_are_values : FnScope ["things"] ["things"] (defScope s_are_values) := ⟨rfl, rfl, rfl, by decide +kernel, rfl, by decide +kernel, by decide +kernel⟩
theorem ok_are_values {f c Pt : Addr} {fd : FuncData} (F : FunC K "are_values" "are_values" s_are_values f fd c) (TB : LamX.TabB base mg c Pt) (hT : ∀ p ∈ T, p.1 ≠ Pt) (B : Blt mg) (C : CoF mg) (cN : Cal P w K mg base CX0 "is_number" ["thing", "low", "high"] 1 (spNum K)) : FnOk P w K mg base CX0 3 f fd ["things"] (spVals K T Pt) := by
  refine F.ok sc_are_values (fun vs H Q E h => ?_) (fun A outer s H vs Q E hr h => ?_)
  · obtain ⟨v, d, ds, rfl, _⟩ := h
    rfl
  · obtain ⟨v, d, ds, rfl, hd, hds, hG, k⟩ := h
    refine ⟨_, pss_one (ps_ret (pe_allG (Ng := ["thing"]) (cap := []) hr (by rfl) B.all TB (by rfl) (gs_by (N := ["things"]) (sc := defScope s_are_values) (by decide +kernel)) (pi_lt (pv 0)) (fun code s H fp pn => pe_cal cN (room_gen (hr.mono (by decide))) (pa_cons (pv 0) (pa_cons pe_int (pa_cons (pe_const C.cell) pa_nil)))))), ?_⟩
    refine ⟨v, rfl, ?_⟩
    rcases hds with rfl | rfl
    · obtain ⟨a, xs, rfl, hs, ha⟩ := dp_lst hd
      refine ⟨a, rfl, .inl ⟨xs, hs, hG, fun H2 tb => ?_⟩⟩
      have xx := XX.tabbed hT hG tb
      exact all_dpL (T := T) (g := fun z => isNum z 0 99) (xx.sqL hs) (Dp.xxAll xx _ _ ha) (fun d v H' W hm hv x1 hW => ⟨v, rfl, v, d, 0, 99, rfl, hv, hW H' (XX.refl H')⟩) fun H' x1 => k H' (xx.trans x1)
    · obtain ⟨a, xs, rfl, hs, ha⟩ := dp_tup hd
      refine ⟨a, rfl, .inr ⟨xs, hs, hG, fun H2 tb => ?_⟩⟩
      have xx := XX.tabbed hT hG tb
      exact all_dpT (T := T) (g := fun z => isNum z 0 99) (xx.sqT hs) (Dp.xxAll xx _ _ ha) (fun d v H' W hm hv x1 hW => ⟨v, rfl, v, d, 0, 99, rfl, hv, hW H' (XX.refl H')⟩) fun H' x1 => k H' (xx.trans x1)
theorem sc_are_cells : FnScope ["thing"] ["thing"] (defScope s_are_cells) := ⟨rfl, rfl, rfl, by decide +kernel, rfl, by decide +kernel, by decide +kernel⟩
theorem ok_are_cells {f Pt : Addr} {fd : FuncData} (F : L2.Fun K "are_cells" "are_cells" s_are_cells f fd) (C : CoF mg) (cV : Cal P w K mg base CX0 "are_values" ["things"] 3 (spVals K T Pt)) (cT : Cal P w K mg base CX0 "is_tuple" ["thing", "many"] 1 (spTup K)) : FnOk P w K mg base CX0 4 f fd ["thing"] (spCells K T Pt) := by
  refine F.ok sc_are_cells (fun vs H Q E h => ?_) (fun cdv A outer s H vs Q E hr h => ?_)
  · obtain ⟨v, d, rfl, _⟩ := h
    rfl
  · obtain ⟨v, d, rfl, hd, hG, k⟩ := h
    refine ⟨_, pss_one (ps_ret (pe_and (pe_cal cT (hr.mono (by decide)) (pa_cons (pv 0) (pa_cons (pe_const C.cells) pa_nil))) (pe_one (pe_cal cV hr (pa_cons (pv 0) pa_nil))))), ?_⟩
    refine ⟨v, rfl, v, d, 24, rfl, hd, _, rfl, ?_⟩
    cases q : isTup d 24 with
    | true =>
      obtain ⟨ds, rfl, hl⟩ := isTupN (n := 24) q
      refine iteT ⟨v, rfl, v, _, ds, rfl, hd, .inr rfl, hG, fun H' x => ?_⟩
      have := k H' x
      have e : isCells (.tuple ds) = valsB ds := by simp [isCells, hl]
      rw [e] at this; exact this
    | false =>
      have e : isCells d = false := by
        unfold isCells
        split
        · rename_i ds
          have h' : ¬ ((ds.length : Nat) : Int) = 24 := by simpa [isTup] using q
          have : ¬ ds.length = 24 := by omega
          simp [this]
        · rfl
      have := k H (XX.refl H)
      rw [e] at this
      exact iteF this
theorem sc_is_frame : FnScope ["thing", "slots", "cells"] ["thing"] (defScope s_is_frame) := ⟨rfl, rfl, rfl, by decide +kernel, rfl, by decide +kernel, by decide +kernel⟩
theorem ok_is_frame {f Pt : Addr} {fd : FuncData} (F : L2.Fun K "is_frame" "is_frame" s_is_frame f fd) (C : CoF mg) (cC : Cal P w K mg base CX0 "are_cells" ["thing"] 4 (spCells K T Pt)) (cT : Cal P w K mg base CX0 "is_tuple" ["thing", "many"] 1 (spTup K)) : FnOk P w K mg base CX0 5 f fd ["thing"] (spFrame K T Pt) := by
  refine F.ok sc_is_frame (fun vs H Q E h => ?_) (fun cdv A outer s H vs Q E hr h => ?_)
  · obtain ⟨v, d, rfl, _⟩ := h
    rfl
  · obtain ⟨v, d, rfl, hd, hG, k⟩ := h
    have nd := sc_is_frame.nd
    refine ⟨_, pss_cons (ps_if (pt_not (pt_val (pe_cal cT (hr.mono (by decide)) (pa_cons (pv 0) (pa_cons pe_int pa_nil))))) (pss_one (ps_ret pe_bl)) pss_nil)
      (pss_cons (ps_asg (pv 0) (pg_tup (by rfl) (pgs_cons (pg_name (i := 1) nd rfl (.inl rfl)) (pgs_cons (pg_name (i := 2) nd rfl (.inl rfl)) pgs_nil))))
      (pss_one (ps_ret (pe_and (pe_cal cT (hr.mono (by decide)) (pa_cons (pv 1) (pa_cons (pe_const C.slots) pa_nil))) (pe_one (pe_cal cC hr (pa_cons (pv 2) pa_nil))))))), ?_⟩
    refine ⟨v, rfl, v, d, 2, rfl, hd, _, rfl, ?_⟩
    by_cases h2 : isTup d 2 = true
    · rw [h2]
      obtain ⟨x, y, rfl⟩ := isTup2 h2
      obtain ⟨a, xs, rfl, hs, ha⟩ := dp_tup hd
      obtain ⟨vx, vy, rfl, hx, hy⟩ := dpAll2 ha
      refine iteF ⟨_, rfl, a, _, rfl, hs, rfl, _, _, rfl, _, _, rfl, rfl, ?_⟩
      refine ⟨vx, rfl, vx, x, 8, rfl, hx, _, rfl, ?_⟩
      by_cases q1 : isTup x 8 = true
      · rw [q1]
        refine iteT ⟨vy, rfl, vy, y, rfl, hy, hG, fun H' x1 => ?_⟩
        have := k H' x1
        obtain ⟨sx, rfl, l8⟩ := isTupN (n := 8) q1
        have e : isFrame (.tuple [.tuple sx, y]) = isCells y := by
          cases y with
          | tuple c => simp [isFrame, isCells, valsB, l8]
          | _ => rfl
        rw [e] at this; exact this
      · have q1' : isTup x 8 = false := by simpa using q1
        rw [q1']
        have := k H (XX.refl H)
        rw [isFrame_no1 q1'] at this
        exact iteF this
    · have h2' : isTup d 2 = false := by simpa using h2
      rw [h2']
      have := k H (XX.refl H)
      rw [isFrame_no h2'] at this
      exact iteT this
theorem sc_is_page : FnScope ["thing"] ["thing"] (defScope s_is_page) := ⟨rfl, rfl, rfl, by decide +kernel, rfl, by decide +kernel, by decide +kernel⟩
theorem ok_is_page {f c P1 P2 : Addr} {fd : FuncData} (F : FunC K "is_page" "is_page" s_is_page f fd c) (TB : LamX.TabB base mg c P2) (hT : ∀ p ∈ T, p.1 ≠ P2) (B : Blt mg) (cF : Cal P w K mg base CX0 "is_frame" ["thing"] 5 (spFrame K T P1)) (cS : Cal P w K mg base CX0 "is_slot" ["thing"] 4 (spSlot K)) : FnOk P w K mg base CX0 6 f fd ["thing"] (spPage K T P1 P2) := by
  refine F.ok sc_is_page (fun vs H Q E h => ?_) (fun A outer s H vs Q E hr h => ?_)
  · obtain ⟨v, d, rfl, _⟩ := h
    rfl
  · obtain ⟨v, d, rfl, hd, hsh, hG1, hG2, k⟩ := h
    refine ⟨_, pss_one (ps_ret (pe_and (pe_cal cF (hr.mono (by decide)) (pa_cons (pv 0) pa_nil))
      (pe_one (pe_allG (Ng := ["slot"]) (cap := []) hr (by rfl) B.all TB (by rfl) (gs_by (N := ["thing"]) (sc := defScope s_is_page) (by decide +kernel)) (pi_tup (pe_ix ix_tup (pv 0) pe_int (fun _ _ => rfl))) (fun code s H fp pn => pe_cal cS (room_gen hr) (pa_cons (pv 0) pa_nil)))))), ?_⟩
    refine ⟨v, rfl, v, d, rfl, hd, hG1, fun H1 x1 => ⟨_, rfl, ?_⟩⟩
    by_cases h1 : isFrame d = true
    · rw [h1]
      obtain ⟨sx, sy, rfl⟩ := isFrame_shape h1
      obtain ⟨a, xs, rfl, hs, ha⟩ := dp_tup hd
      obtain ⟨vx, vy, rfl, hx, hy⟩ := dpAll2 ha
      obtain ⟨b, ys, rfl, hsx, hax⟩ := dp_tup hx
      refine iteT ⟨_, rfl, a, _, 0, _, rfl, rfl, x1.sqT hs, rfl, b, rfl, ⟨ys, x1.sqT hsx⟩, x1.tabG _ hG2, fun H2 tb => ?_⟩
      have xx := x1.trans (XX.tabbed hT (x1.tabG _ hG2) tb)
      have shx : SeqAt.shaped (.tuple sx) = true := shaped_mem hsh List.mem_cons_self
      refine all_dpT (T := T) (g := isSlot) (xx.sqT hsx) (Dp.xxAll xx _ _ hax) (fun d v H' W hm hv x1 hW => ⟨v, rfl, v, d, rfl, hv, shaped_mem shx hm, hW H' (XX.refl H')⟩) fun H' x2 => ?_
      have e : isPage (.tuple [.tuple sx, .tuple sy]) = sx.all isSlot := by simp [isPage, h1]
      have := k H' (xx.trans x2)
      rw [e] at this; exact this
    · have h1' : isFrame d = false := by simpa using h1
      rw [h1']
      have := k H1 x1
      rw [isPage_no h1'] at this
      exact iteF this
end
end GX
namespace GX
open PySem PySem.Spec PyProof.Rows L2 LamX
section
variable {P : Program} {w : World} {K : PySem.W.Frag} {mg : Str → Option Value} {base : Heap} {T : List (Addr × Str)} {C cD cN cP cC cS : Addr}
theorem sc_fresh_page : FnScope [] [] (defScope s_fresh_page) := ⟨rfl, rfl, rfl, by decide +kernel, rfl, by decide +kernel, by decide +kernel⟩
theorem ok_fresh_page {f : Addr} {fd : FuncData} (F : Fun K "fresh_page" "fresh_page" s_fresh_page f fd) (Cc : CoF mg) : FnOk P w K mg base CX0 1 f fd [] (spFresh K T) := by
  refine F.ok sc_fresh_page (fun vs H Q E h => by obtain ⟨rfl, _⟩ := h; rfl) (fun cdv A outer s H vs Q E hr h => ?_)
  obtain ⟨rfl, k⟩ := h
  refine ⟨_, pss_one (ps_ret (pe_tup (pa_cons (pe_op op_repT (pe_tup (pa_cons (pe_tup (pa_cons pe_str (pa_cons pe_int pa_nil))) pa_nil)) (pe_const Cc.slots)) (pa_cons (pe_op op_repT (pe_tup (pa_cons pe_int pa_nil)) (pe_const Cc.cells)) pa_nil)))), ?_⟩
  refine ⟨(by show 2 ≤ sizeLine; decide), fun p1 h1 => ⟨(by show 1 ≤ sizeLine; decide), fun p2 h2 => ?_⟩⟩
  have n12 : p1 ≠ p2 := fun z => by rw [← z, upd_same] at h2; cases h2
  refine ⟨p2, 8, _, rfl, rfl, SqT.of upd_same, (by simp), (by decide), (by decide), (by show 1 ≤ 1000; decide), fun p3 h3 => ?_⟩
  refine ⟨(by show 1 ≤ sizeLine; decide), fun p4 h4 => ⟨p4, 24, _, rfl, rfl, SqT.of upd_same, (by simp), (by decide), (by decide), (by show 1 ≤ 1000; decide), fun p5 h5 => ?_⟩⟩
  refine ⟨(by show 2 ≤ sizeLine; decide), fun p6 h6 => ?_⟩
  have x : XX T H _ := ((((((XX.new (T := T) h1).then_new h2).then_new h3).then_new h4).then_new h5).then_new (o := .tup [.ref p3, .ref p5]) h6)
  refine k _ _ x ?_
  have g6 : ∀ {b o}, (upd (upd (upd (upd (upd H p1 (.tup [.str "free", .int 0])) p2 (.tup [.ref p1])) p3 (.tup (List.replicate (8 : Int).toNat [V.ref p1]).flatten)) p4 (.tup [.int 0])) p5 (.tup (List.replicate (24 : Int).toNat [V.int 0]).flatten)) b = some o → (upd (upd (upd (upd (upd (upd H p1 (.tup [.str "free", .int 0])) p2 (.tup [.ref p1])) p3 (.tup (List.replicate (8 : Int).toNat [V.ref p1]).flatten)) p4 (.tup [.int 0])) p5 (.tup (List.replicate (24 : Int).toNat [V.int 0]).flatten)) p6 (.tup [.ref p3, .ref p5])) b = some o := fun {b o} e => by
    rw [upd_ne (ne_of_none e h6)]; exact e
  have e5 := g6 (b := p5) upd_same
  have e3 : (upd (upd (upd (upd (upd H p1 (.tup [.str "free", .int 0])) p2 (.tup [.ref p1])) p3 (.tup (List.replicate (8 : Int).toNat [V.ref p1]).flatten)) p4 (.tup [.int 0])) p5 (.tup (List.replicate (24 : Int).toNat [V.int 0]).flatten)) p3 = some (.tup (List.replicate (8 : Int).toNat [V.ref p1]).flatten) := by
    have q4 := (upd_ne (H := upd (upd (upd H p1 (.tup [.str "free", .int 0])) p2 (.tup [.ref p1])) p3 (.tup (List.replicate (8 : Int).toNat [V.ref p1]).flatten)) (a := p4) (o := .tup [.int 0]) (ne_of_none upd_same h4)).trans upd_same
    exact (upd_ne (ne_of_none q4 h5)).trans q4
  have e1 : (upd (upd (upd (upd (upd H p1 (.tup [.str "free", .int 0])) p2 (.tup [.ref p1])) p3 (.tup (List.replicate (8 : Int).toNat [V.ref p1]).flatten)) p4 (.tup [.int 0])) p5 (.tup (List.replicate (24 : Int).toNat [V.int 0]).flatten)) p1 = some (.tup [.str "free", .int 0]) := by
    have y : XX T (upd H p1 (.tup [.str "free", .int 0])) _ := ((((XX.new (T := T) (o := .tup [.ref p1]) h2).then_new h3).then_new (o := .tup [.int 0]) h4).then_new (o := .tup (List.replicate (24 : Int).toNat [V.int 0]).flatten) h5)
    exact y.tup upd_same
  refine .tup (SqT.of upd_same) (.cons (.tup (SqT.of (g6 e3)) ?_) (.cons (.tup (SqT.of e5) ?_) .nil))
  · have d1 : Dp K _ (.ref p1) (freeD 0) := .tup (SqT.of (g6 e1)) (.cons (.str _) (.cons (.int _) .nil))
    exact .cons d1 (.cons d1 (.cons d1 (.cons d1 (.cons d1 (.cons d1 (.cons d1 (.cons d1 .nil)))))))
  · have d0 : ∀ {H}, Dp K H (.int 0) (.int 0) := fun {H} => .int 0
    exact .cons d0 (.cons d0 (.cons d0 (.cons d0 (.cons d0 (.cons d0 (.cons d0 (.cons d0 (.cons d0 (.cons d0 (.cons d0 (.cons d0 (.cons d0 (.cons d0 (.cons d0 (.cons d0 (.cons d0 (.cons d0 (.cons d0 (.cons d0 (.cons d0 (.cons d0 (.cons d0 (.cons d0 .nil)))))))))))))))))))))))
theorem sc_DCheck : FnScope ["self", "number"] ["self", "number"] (defScope s_DCheck) := ⟨rfl, rfl, rfl, by decide +kernel, rfl, by decide +kernel, by decide +kernel⟩
theorem ok_DCheck {f : Addr} {fd : FuncData} (F : Fun K "_check" "Disk._check" s_DCheck f fd) (D : DTx K mg C cD cN cP cC cS) (B : Blt mg) (cI : Cal P w K mg base CX0 "is_number" ["thing", "low", "high"] 1 (spNum K)) : FnOk P w K mg base (L2.CX P w) 2 f fd ["self", "number"] (spDCheck K C cN cS) := by
  refine F.okX sc_DCheck (fun vs H Q E h => by obtain ⟨p, dx, l, pages, done, left, stands, v, d, rfl, _⟩ := h; rfl) (fun cdv A outer s H vs Q E hr h => ?_)
  obtain ⟨p, dx, l, pages, done, left, stands, v, d, rfl, dk, hd, k1, k2, k3⟩ := h
  refine ⟨_, pss_cons (ps_if (pt_val (pe_fld (pv 0) rfl)) (pss_one (ps_raise rfl (takes_of rfl rfl rfl rfl) (pmk_err D.eS))) pss_nil)
    (pss_one (ps_if (pt_not (pt_val (pe_cal cI hr (pa_cons (pv 1) (pa_cons pe_int (pa_cons (pe_op op_sub (pe_callB call_len_seq (by rfl) B.len PySem.boot_len (pa_cons (pe_fld (pv 0) rfl) pa_nil)) pe_int) pa_nil)))))) (pss_one (ps_raise rfl (takes_of rfl rfl rfl rfl) (pmk_err D.eN))) pss_nil)), ?_⟩
  refine ⟨_, rfl, p, C, dx, _, _, rfl, dk.ins, D.cl, D.n4, rfl, stands, rfl, ?_⟩
  cases stands with
  | true => exact iteT (k1 rfl)
  | false =>
    obtain ⟨xs, hl, hx⟩ := dk.lst
    refine iteF ⟨v, rfl, _, rfl, p, C, dx, _, _, rfl, dk.ins, D.cl, D.n1, rfl, l, xs, rfl, .inl (SqL.of hl), _, _, rfl, rfl, v, d, 0, (xs.length : Int) - 1, rfl, hd, _, rfl, ?_⟩
    rw [dpAll_len hx]
    by_cases q : isNum d 0 ((pages.length : Int) - 1) = true
    · rw [q]; exact iteF (k3 rfl q)
    · have q' : isNum d 0 ((pages.length : Int) - 1) = false := by simpa using q
      rw [q']; exact iteT (k2 rfl q')
theorem sc_DCount : FnScope ["self"] ["self"] (defScope s_DCount) := ⟨rfl, rfl, rfl, by decide +kernel, rfl, by decide +kernel, by decide +kernel⟩
theorem ok_DCount {f : Addr} {fd : FuncData} (F : Fun K "_count_down" "Disk._count_down" s_DCount f fd) (D : DTx K mg C cD cN cP cC cS) : FnOk P w K mg base (L2.CX P w) 1 f fd ["self"] (spDCount K T C cS) := by
  refine F.okX sc_DCount (fun vs H Q E h => by obtain ⟨p, dx, l, pages, done, left, stands, rfl, _⟩ := h; rfl) (fun cdv A outer s H vs Q E hr h => ?_)
  obtain ⟨p, dx, l, pages, done, left, stands, rfl, dk, k1, k2, k3⟩ := h
  refine ⟨_, pss_cons (ps_if (pt_cmpR op_isN (pe_fld (pv 0) rfl) pe_non (nomark _)) (pss_one ps_retN) pss_nil)
    (pss_cons (ps_if (pt_cmpR op_eq (pe_fld (pv 0) rfl) pe_int (nomark _)) (pss_cons (ps_fld (pv 0) pe_bl rfl) (pss_one (ps_raise rfl (takes_of rfl rfl rfl rfl) (pmk_err D.eS)))) pss_nil)
    (pss_one (ps_fldaug (pv 0) pe_int in_sub))), ?_⟩
  refine ⟨_, rfl, p, C, dx, _, _, rfl, dk.ins, D.cl, D.n3, rfl, rfl, _, rfl, ?_⟩
  cases left with
  | none => exact iteT (k1 rfl)
  | some n =>
    refine iteF ⟨_, rfl, p, C, dx, _, _, rfl, dk.ins, D.cl, D.n3, rfl, rfl, _, rfl, ?_⟩
    by_cases h0 : n = 0
    · subst h0
      exact iteT ⟨_, rfl, p, C, dx, _, rfl, dk.ins, D.cl, D.n4, (by show 4 < 1000; decide), k2 rfl _ (XM.upd dk.ins rfl True.intro) (dk.fld done (some 0) true)⟩
    · show (if decide (V.int n = V.int 0) = true then _ else _)
      rw [decide_eq_false (fun z => h0 (V.int.inj z))]
      exact iteF ⟨_, rfl, p, C, dx, _, _, rfl, dk.ins, D.cl, D.n3, rfl, _, _, rfl, rfl, dx, _, dk.ins, (by show 4 < 1000; decide), k3 n rfl h0 _ (XM.upd dk.ins rfl True.intro) (dk.fld done (some (n - 1)) stands)⟩
theorem sc_DPages : FnScope ["self"] ["self"] (defScope s_DPages) := ⟨rfl, rfl, rfl, by decide +kernel, rfl, by decide +kernel, by decide +kernel⟩
theorem ok_DPages {f : Addr} {fd : FuncData} (F : Fun K "pages" "Disk.pages" s_DPages f fd) (D : DTx K mg C cD cN cP cC cS) (B : Blt mg) : FnOk P w K mg base CX0 1 f fd ["self"] (spDPages K C) := by
  refine F.ok sc_DPages (fun vs H Q E h => by obtain ⟨p, dx, l, pages, done, left, stands, rfl, _⟩ := h; rfl) (fun cdv A outer s H vs Q E hr h => ?_)
  obtain ⟨p, dx, l, pages, done, left, stands, rfl, dk, k⟩ := h
  refine ⟨_, pss_one (ps_ret (pe_callB call_len_seq (by rfl) B.len PySem.boot_len (pa_cons (pe_fld (pv 0) rfl) pa_nil))), ?_⟩
  obtain ⟨xs, hl, hx⟩ := dk.lst
  rw [← dpAll_len hx] at k
  exact ⟨_, rfl, p, C, dx, _, _, rfl, dk.ins, D.cl, D.n1, rfl, l, xs, rfl, .inl (SqL.of hl), k⟩
end
end GX
namespace GX
open PySem PySem.Spec PyProof.Rows L2 LamX
section
variable {P : Program} {w : World} {K : PySem.W.Frag} {mg : Str → Option Value} {base : Heap} {T : List (Addr × Str)} {C cD cN cP cC cS : Addr}
theorem sc_DInit : FnScope ["self", "many", "_"] ["self", "many"] (defScope s_DInit) := ⟨rfl, rfl, rfl, by decide +kernel, rfl, by decide +kernel, by decide +kernel⟩
theorem ok_DInit {f : Addr} {fd : FuncData} (F : Fun K "__init__" "Disk.__init__" s_DInit f fd) (D : DTx K mg C cD cN cP cC cS) (B : Blt mg) (cI : Cal P w K mg base CX0 "is_number" ["thing", "low", "high"] 1 (spNum K)) (cF : Cal P w K mg base CX0 "fresh_page" [] 1 (spFresh K T)) : FnOk P w K mg base (L2.CX P w) 2 f fd ["self", "many"] (spDInit K T C cD) := by
  refine F.okX sc_DInit (fun vs H Q E h => by obtain ⟨p, dx, v, d, rfl, _⟩ := h; rfl) (fun cdv A outer s H vs Q E hr h => ?_)
  obtain ⟨p, dx, v, d, rfl, hp, hd, k1, k2⟩ := h
  have nd := sc_DInit.nd
  refine ⟨_, pss_cons (ps_if (pt_not (pt_val (pe_cal cI hr (pa_cons (pv 1) (pa_cons (pe_const D.least) (pa_cons (pe_const D.most) pa_nil)))))) (pss_one (ps_raise rfl (takes_of rfl rfl rfl rfl) (pmk_err D.eD))) pss_nil)
    (pss_cons (ps_fld (pv 0) (pe_lc (own := [("_", 2)]) (g := gName 2) (tt := tYes) (by rfl) nd (pi_range1 (by rfl) B.range (pa_cons (pv 1) pa_nil)) (blkOk_by (own := [("_", 2)]) (N := ["self", "many", "_"]) (sc := defScope s_DInit) (by decide +kernel))
        (fun _ _ _ _ _ => pg_name (i := 2) nd rfl (Or.inl rfl)) (fun _ _ _ _ _ => pts_nil) (fun _ _ _ _ _ => pe_cal0 cF hr)) rfl)
    (pss_cons (ps_fld (pv 0) pe_int rfl) (pss_cons (ps_fld (pv 0) pe_non rfl) (pss_one (ps_fld (pv 0) pe_bl rfl))))), ?_⟩
  refine ⟨v, rfl, v, d, 2, 12, rfl, hd, _, rfl, ?_⟩
  by_cases q : isNum d 2 12 = true
  · rw [q]
    obtain ⟨n, rfl, h1, h2⟩ := isNum_int q
    obtain rfl := dp_int hd
    refine iteF ⟨_, rfl, n, rfl, by omega, by omega, fun l hl => ?_⟩
    have npl : p ≠ l := ne_of_none hp hl
    refine lc_range (lo := 0) (n := n.toNat) (fun i H' => XM T (fun b => b = l) H H' ∧ ∃ acc, H' l = some (.lst acc) ∧ DpAll K H' acc (List.replicate i freshD)) ⟨(XX.new hl).xm, [], upd_same, .nil⟩ (fun i H' hi pv => ⟨rfl, ?_⟩) (fun H' pv => ?_)
    · obtain ⟨x1, acc, e1, da⟩ := pv
      refine ⟨rfl, fun H2 u x2 du => ⟨acc, x2.lst e1, ?_, ?_, acc ++ [u], upd_same, ?_⟩⟩
      · have := dpAll_len da
        rw [this, List.length_replicate]
        exact Nat.lt_of_lt_of_le (show i < 100 by omega) (by decide)
      · exact (x1.trans x2.xm).then_upd (x2.lst e1) rfl True.intro
      · have x3 : XM T (fun b => b = l) H2 (upd H2 l (.lst (acc ++ [u]))) := XM.upd (x2.lst e1) rfl True.intro
        rw [List.replicate_succ']
        have fl : ∀ e ∈ List.replicate i freshD, flatD e = true := fun e he => by rw [(List.mem_replicate.mp he).2]; exact flat_fresh
        exact dpAll_app (dpAll_xm x3 fl (Dp.xxAll x2 _ _ da)) (.cons (Dp.xm x3 _ _ flat_fresh du) .nil)
    · obtain ⟨x1, acc, e1, da⟩ := pv
      have p1 : H' p = some (.ins C dx []) := x1.ins hp npl
      refine ⟨_, rfl, p, C, dx, _, rfl, p1, D.cl, D.n1, (by show 0 < 1000; decide), ?_⟩
      refine ⟨_, rfl, p, C, dx, _, rfl, upd_same, D.cl, D.n2, (by show 1 < 1000; decide), ?_⟩
      refine ⟨_, rfl, p, C, dx, _, rfl, upd_same, D.cl, D.n3, (by show 2 < 1000; decide), ?_⟩
      refine ⟨_, rfl, p, C, dx, _, rfl, upd_same, D.cl, D.n4, (by show 3 < 1000; decide), ?_⟩
      rw [upd_upd, upd_upd, upd_upd]
      have x2 : XM T (fun b => b = p) H' (upd H' p (.ins C dx (dF l 0 none false))) := XM.upd p1 rfl True.intro
      have fl : ∀ e ∈ List.replicate n.toNat freshD, flatD e = true := fun e he => by rw [(List.mem_replicate.mp he).2]; exact flat_fresh
      refine k2 n rfl h1 h2 _ l (((x1.drop (S0 := fun b => b = p) fun b hb _ => by rw [hb]; exact hl)).trans x2) hl ⟨upd_same, ⟨acc, ?_, dpAll_xm x2 fl da⟩, fl⟩
      rw [upd_ne (Ne.symm npl)]; exact e1
  · have q' : isNum d 2 12 = false := by simpa using q
    rw [q']; exact iteT (k1 q')
end
end GX
set_option maxHeartbeats 16000000
/-! from what the top leaves to the law's promise -/
namespace GX
open PySem PySem.Spec PyProof.Rows L2 LamX
section
variable {P : Program} {w : World} {K : PySem.W.Frag} {mg : Str → Option Value} {base : Heap}
theorem fun_of {x q : Str} {st : Stmt} {f : Addr} {fd : FuncData} (F : FunD K x q (defArgs st) (defBody st) (defScope st) [] [] f fd) : L2.Fun K x q st f fd := by
  obtain ⟨oc, od, dV, kV, doc, pm, an, cdv, ct, osl, e, lk, hcd, hD, _⟩ := F.ex
  have hd : dV = .none := by
    rcases hD with ⟨_, z⟩ | ⟨z, _⟩
    · exact z
    · exact absurd rfl z
  subst hd
  exact ⟨⟨oc, od, kV, doc, pm, an, cdv, ct, osl, e, lk, hcd⟩, F.kp⟩
theorem func_of {x q : Str} {st : Stmt} {p : He.Defn} {fd : FuncData} (F : FunD K x q (defArgs st) (defBody st) (defScope st) [] [] (He.fAd K p) fd) : FunC K x q st (He.fAd K p) fd (He.codeOf K p) := by
  obtain ⟨oc, od, dV, kV, doc, pm, an, cdv, ct, osl, e, lk, hcd, hD, _⟩ := F.ex
  have hd : dV = .none := by
    rcases hD with ⟨_, z⟩ | ⟨z, _⟩
    · exact z
    · exact absurd rfl z
  subst hd
  obtain ⟨c, ec⟩ := He.codeIn_ref hcd
  subst ec
  subst e
  have e2 := He.codeOf_eq (p := p) (c := c) lk rfl
  rw [e2]
  exact ⟨⟨oc, od, kV, doc, pm, an, ct, osl, rfl, lk, hcd⟩, F.kp⟩
theorem funcd_of {x q : Str} {st : Stmt} {dvs : List V} {p : He.Defn} {fd : FuncData} (F : FunD K x q (defArgs st) (defBody st) (defScope st) dvs [] (He.fAd K p) fd) : FunCD K x q st dvs (He.fAd K p) fd (He.codeOf K p) := by
  obtain ⟨oc, od, dV, kV, doc, pm, an, cdv, ct, osl, e, lk, hcd, _, _⟩ := F.ex
  obtain ⟨c, ec⟩ := He.codeIn_ref hcd
  subst ec
  subst e
  have e2 := He.codeOf_eq (p := p) (c := c) lk rfl
  rw [e2]
  exact ⟨⟨oc, od, dV, kV, doc, pm, an, ct, osl, rfl, lk, hcd⟩, F.kp⟩
theorem err_of {h : Heap} {x : Str} (X : K.In h) (G : h.Ns mainGlobals mg) (g : (He.Fa.glo x).ok K = true) (e : (He.Fa.exc x).ok K = true) : ErrC K mg x (He.ga K x) := by
  obtain ⟨e1, e2, e3, e4⟩ := He.exc_ok e
  exact ⟨He.glo_ok X G g, e1, e2, e3, e4⟩
abbrev csH (K : PySem.W.Frag) : Fin 9 → Addr := fun j => He.ga K (wordsH.getD j.1 "")
theorem eis_of {i : Fin 9} {x : Str} (hx : wordsH.getD i.1 "" = x) (hm : (He.Fa.exm x "PageError" true).ok K = true) (h : (excB K (He.ga K (wordsH.getD i.1 "")) && (kitB9 K i.1 && decide (PySem.W.kitOne K (.ref (He.ga K (wordsH.getD i.1 ""))) (.type "ValueError") = some true))) = true) :
    EIs K (He.ga K "PageError") (csH K) i (He.ga K x) := by
  obtain ⟨h1, h⟩ := He.ba h
  obtain ⟨h2, h3⟩ := He.ba h
  rw [hx] at h1 h3
  refine ⟨excB_ok h1, He.exm_ok hm, fun j => ?_, of_decide_eq_true h3⟩
  have q := of_decide_eq_true (List.all_eq_true.mp h2 j.1 (List.mem_range.mpr j.2))
  rw [hx] at q
  refine q.trans (congrArg some ?_)
  by_cases e : j = i
  · subst e; simp
  · have e' : ¬ j.1 = i.1 := fun z => e (Fin.ext z)
    rw [decide_eq_false e, decide_eq_false e']
end


theorem law_at {w : World} {K : PySem.W.Frag} {mg : Str → Option Value} {h : Heap} {fa : Addr} (X : K.In h) (G : h.Ns mainGlobals mg) (hfa : mg "law" = some (.ref fa)) (c : He.SaysX faH fnH [] tfH exH w h K) :
    LawAtS PySem.Challenge.rw_slotpages_k10_whole_walks w K CX0 14 63 "_law_script" mg fa h := by
  have cd := c.t.d
  obtain ⟨d0, D0⟩ := cd.def_ 0 (d := (dG "is_number" s_is_number)) rfl
  obtain ⟨d1, D1⟩ := cd.def_ 1 (d := (dG "is_tuple" s_is_tuple)) rfl
  obtain ⟨d2, D2⟩ := cd.def_ 2 (d := (dG "is_next" s_is_next)) rfl
  obtain ⟨d3, D3⟩ := cd.def_ 3 (d := (dG "_holds" s_holds)) rfl
  obtain ⟨d4, D4⟩ := cd.def_ 4 (d := (dG "is_slot" s_is_slot)) rfl
  obtain ⟨d5, D5⟩ := cd.def_ 5 (d := (dG "are_values" s_are_values)) rfl
  obtain ⟨d6, D6⟩ := cd.def_ 6 (d := (dG "are_cells" s_are_cells)) rfl
  obtain ⟨d7, D7⟩ := cd.def_ 7 (d := (dG "is_frame" s_is_frame)) rfl
  obtain ⟨d8, D8⟩ := cd.def_ 8 (d := (dG "is_page" s_is_page)) rfl
  obtain ⟨d9, D9⟩ := cd.def_ 9 (d := (dG "fresh_page" s_fresh_page)) rfl
  obtain ⟨d10, D10⟩ := cd.def_ 10 (d := (dG "all_pages" s_all_pages)) rfl
  obtain ⟨d11, D11⟩ := cd.def_ 11 (d := (dG "slot_at" s_slot_at)) rfl
  obtain ⟨d12, D12⟩ := cd.def_ 12 (d := (dG "places_from" s_places_from)) rfl
  obtain ⟨d13, D13⟩ := cd.def_ 13 (d := (dG "row_places" s_row_places)) rfl
  obtain ⟨d14, D14⟩ := cd.def_ 14 (d := (dG "row_names" s_row_names)) rfl
  obtain ⟨d15, D15⟩ := cd.def_ 15 (d := (dG "values_from" s_values_from)) rfl
  obtain ⟨d16, D16⟩ := cd.def_ 16 (d := (dG "lost" s_lost)) rfl
  obtain ⟨d17, D17⟩ := cd.def_ 17 (d := (dG "size_of" s_size_of)) rfl
  obtain ⟨d18, D18⟩ := cd.def_ 18 (d := (dG "free_cells" s_free_cells)) rfl
  obtain ⟨d19, D19⟩ := cd.def_ 19 (d := (dG "room_at" s_room_at)) rfl
  obtain ⟨d20, D20⟩ := cd.def_ 20 (d := (dG "usable_slots" s_usable_slots)) rfl
  obtain ⟨d21, D21⟩ := cd.def_ 21 (d := (dG "with_slot" s_with_slot)) rfl
  obtain ⟨d22, D22⟩ := cd.def_ 22 (d := (dG "with_part_free" s_with_part_free)) rfl
  obtain ⟨d23, D23⟩ := cd.def_ 23 (d := (dG "with_values" s_with_values)) rfl
  obtain ⟨d24, D24⟩ := cd.def_ 24 (d := (dG "_cells_of" s_cells_of)) rfl
  obtain ⟨d25, D25⟩ := cd.def_ 25 (d := (dG "_packed" s_packed)) rfl
  obtain ⟨d26, D26⟩ := cd.def_ 26 (d := (⟨("usable_pages", none), "usable_pages", "usable_pages", defArgs s_usable_pages, defBody s_usable_pages, defScope s_usable_pages, [.non], []⟩ : He.DefD)) rfl
  obtain ⟨d27, D27⟩ := cd.def_ 27 (d := (dG "pages_for_put" s_pages_for_put)) rfl
  obtain ⟨d28, D28⟩ := cd.def_ 28 (d := (dG "shares" s_shares)) rfl
  obtain ⟨d29, D29⟩ := cd.def_ 29 (d := (dG "_check_values" s_check_values)) rfl
  obtain ⟨d30, D30⟩ := cd.def_ 30 (d := (dG "_place" s_place)) rfl
  obtain ⟨d31, D31⟩ := cd.def_ 31 (d := (dG "_is_name" s_is_name)) rfl
  obtain ⟨d32, D32⟩ := cd.def_ 32 (d := (dM "Disk" "__init__" "Disk.__init__" s_DInit)) rfl
  obtain ⟨d33, D33⟩ := cd.def_ 33 (d := (dM "Disk" "writes" "Disk.writes" s_DWrites)) rfl
  obtain ⟨d34, D34⟩ := cd.def_ 34 (d := (dM "Disk" "pages" "Disk.pages" s_DPages)) rfl
  obtain ⟨d35, D35⟩ := cd.def_ 35 (d := (dM "Disk" "page" "Disk.page" s_DPage)) rfl
  obtain ⟨d36, D36⟩ := cd.def_ 36 (d := (dM "Disk" "write" "Disk.write" s_DWrite)) rfl
  obtain ⟨d37, D37⟩ := cd.def_ 37 (d := (dM "Disk" "_check" "Disk._check" s_DCheck)) rfl
  obtain ⟨d38, D38⟩ := cd.def_ 38 (d := (dM "Disk" "_count_down" "Disk._count_down" s_DCount)) rfl
  obtain ⟨d39, D39⟩ := cd.def_ 39 (d := (dM "Shelf" "__init__" "Shelf.__init__" s_SInit)) rfl
  obtain ⟨d40, D40⟩ := cd.def_ 40 (d := (dM "Shelf" "put" "Shelf.put" s_SPut)) rfl
  obtain ⟨d41, D41⟩ := cd.def_ 41 (d := (dM "Shelf" "get" "Shelf.get" s_SGet)) rfl
  obtain ⟨d42, D42⟩ := cd.def_ 42 (d := (dM "Shelf" "names" "Shelf.names" s_SNames)) rfl
  obtain ⟨d43, D43⟩ := cd.def_ 43 (d := (dM "Shelf" "parts" "Shelf.parts" s_SParts)) rfl
  obtain ⟨d44, D44⟩ := cd.def_ 44 (d := (dM "Shelf" "change" "Shelf.change" s_SChange)) rfl
  obtain ⟨d45, D45⟩ := cd.def_ 45 (d := (dM "Shelf" "drop" "Shelf.drop" s_SDrop)) rfl
  obtain ⟨d46, D46⟩ := cd.def_ 46 (d := (dM "Shelf" "_pages" "Shelf._pages" s_SPages)) rfl
  obtain ⟨d47, D47⟩ := cd.def_ 47 (d := (dM "Shelf" "_settle" "Shelf._settle" s_SSettle)) rfl
  obtain ⟨d48, D48⟩ := cd.def_ 48 (d := (dM "Shelf" "_free" "Shelf._free" s_SFree)) rfl
  obtain ⟨d49, D49⟩ := cd.def_ 49 (d := (dM "Shelf" "_free_lost" "Shelf._free_lost" s_SFreeLost)) rfl
  obtain ⟨d50, D50⟩ := cd.def_ 50 (d := (dM "Walk" "__init__" "Walk.__init__" s_WInit)) rfl
  obtain ⟨d51, D51⟩ := cd.def_ 51 (d := (dM "Walk" "step" "Walk.step" s_WStep)) rfl
  obtain ⟨d52, D52⟩ := cd.def_ 52 (d := (dG "_law_begun" s_begun)) rfl
  obtain ⟨d53, D53⟩ := cd.def_ 53 (d := (dG "_law_take" s_take)) rfl
  obtain ⟨d54, D54⟩ := cd.def_ 54 (d := (dG "_law_alike" s_alike)) rfl
  obtain ⟨d55, D55⟩ := cd.def_ 55 (d := (dG "_law_values" s_lvalues)) rfl
  obtain ⟨d56, D56⟩ := cd.def_ 56 (d := (dG "_law_begin" s_lbegin)) rfl
  obtain ⟨d57, D57⟩ := cd.def_ 57 (d := (dG "_law_deed" s_ldeed)) rfl
  obtain ⟨d58, D58⟩ := cd.def_ 58 (d := (dG "_law_step" s_lstep)) rfl
  obtain ⟨d59, D59⟩ := cd.def_ 59 (d := (dG "law" s_law)) rfl
  have g : ∀ {x : Str}, He.Fa.glo x ∈ faH → mg x = some (.ref (He.ga K x)) := fun hx => He.glo_ok X G (cd.facts hx)
  have fr : ∀ {x : Str}, He.Fa.free x ∈ faH → mg x = none := fun hx => He.free_ok X G (cd.facts hx)
  have it : ∀ {x : Str} {i : Int}, He.Fa.int x i ∈ faH → ∃ t, mg x = some (.int i t) := fun hx => He.int_ok X G (cd.facts hx)
  have er : ∀ {x : Str}, He.Fa.glo x ∈ faH → He.Fa.exc x ∈ faH → ErrC K mg x (He.ga K x) := fun h1 h2 => err_of X G (cd.facts h1) (cd.facts h2)
  have e := hfa.symm.trans (g (x := "law") (List.mem_of_getElem? (i := 41) rfl))
  cases e
  obtain ⟨x1, x2⟩ := He.ba c.more
  have nodup := of_decide_eq_true x2
  have n03 : (He.cT K ("are_values", none)).2 ≠ (He.cT K ("usable_pages", none)).2 := fun z => by simp [tfH, z] at nodup
  have n13 : (He.cT K ("is_page", none)).2 ≠ (He.cT K ("usable_pages", none)).2 := fun z => by simp [tfH, z] at nodup
  have n23 : (He.cT K ("free_cells", none)).2 ≠ (He.cT K ("usable_pages", none)).2 := fun z => by simp [tfH, z] at nodup
  let T : List (Addr × Str) := [((He.cT K ("usable_pages", none)).2, usaQ)]
  have hT0 : ∀ p ∈ T, p.1 ≠ (He.cT K ("are_values", none)).2 := fun p hp => by
    · rw [List.mem_singleton.mp hp]; exact Ne.symm n03
  have hT1 : ∀ p ∈ T, p.1 ≠ (He.cT K ("is_page", none)).2 := fun p hp => by
    · rw [List.mem_singleton.mp hp]; exact Ne.symm n13
  have hT2 : ∀ p ∈ T, p.1 ≠ (He.cT K ("free_cells", none)).2 := fun p hp => by
    · rw [List.mem_singleton.mp hp]; exact Ne.symm n23
  have huU : ∀ p ∈ T, p.1 = (He.cT K ("usable_pages", none)).2 → p.2 = usaQ := fun p hp e => by
    · rw [List.mem_singleton.mp hp]
  have B : Blt mg := ⟨fr (List.mem_of_getElem? (i := 50) rfl), fr (List.mem_of_getElem? (i := 51) rfl), fr (List.mem_of_getElem? (i := 52) rfl), fr (List.mem_of_getElem? (i := 53) rfl), fr (List.mem_of_getElem? (i := 54) rfl), fr (List.mem_of_getElem? (i := 55) rfl), fr (List.mem_of_getElem? (i := 56) rfl), fr (List.mem_of_getElem? (i := 57) rfl)⟩
  have B2 : Blt2 mg := ⟨fr (List.mem_of_getElem? (i := 62) rfl), fr (List.mem_of_getElem? (i := 63) rfl), fr (List.mem_of_getElem? (i := 64) rfl), fr (List.mem_of_getElem? (i := 59) rfl), fr (List.mem_of_getElem? (i := 60) rfl), fr (List.mem_of_getElem? (i := 65) rfl), fr (List.mem_of_getElem? (i := 66) rfl)⟩
  have Co : CoF mg := ⟨it (List.mem_of_getElem? (i := 67) rfl), it (List.mem_of_getElem? (i := 68) rfl), it (List.mem_of_getElem? (i := 69) rfl), it (List.mem_of_getElem? (i := 71) rfl), it (List.mem_of_getElem? (i := 72) rfl), it (List.mem_of_getElem? (i := 73) rfl)⟩
  have Dt : DTx K mg (He.ga K "Disk") (He.ga K "BadDisk") (He.ga K "NoPage") (He.ga K "BadPage") (He.ga K "BadCount") (He.ga K "Stopped") :=
    ⟨He.cls_ok (cd.facts (List.mem_of_getElem? (i := 75) rfl)), He.noat_ok (cd.facts (List.mem_of_getElem? (i := 76) rfl)), He.noat_ok (cd.facts (List.mem_of_getElem? (i := 77) rfl)), He.noat_ok (cd.facts (List.mem_of_getElem? (i := 78) rfl)), He.noat_ok (cd.facts (List.mem_of_getElem? (i := 79) rfl)), er (List.mem_of_getElem? (i := 43) rfl) (List.mem_of_getElem? (i := 100) rfl), er (List.mem_of_getElem? (i := 47) rfl) (List.mem_of_getElem? (i := 104) rfl), er (List.mem_of_getElem? (i := 44) rfl) (List.mem_of_getElem? (i := 101) rfl), er (List.mem_of_getElem? (i := 49) rfl) (List.mem_of_getElem? (i := 106) rfl), it (List.mem_of_getElem? (i := 74) rfl), it (List.mem_of_getElem? (i := 69) rfl)⟩
  have St : STx K (He.ga K "Shelf") := ⟨He.cls_ok (cd.facts (List.mem_of_getElem? (i := 87) rfl)), He.noat_ok (cd.facts (List.mem_of_getElem? (i := 88) rfl))⟩
  refine ⟨d59, tfH.map (He.cT K), spLaw10 K T (He.cT K ("are_values", none)).2 (He.cT K ("is_page", none)).2 (He.cT K ("free_cells", none)).2, ?_, ?_, ?_, ?_, ?_, ?_⟩
  · intro p hp
    obtain ⟨q, hq, e⟩ := List.mem_map.mp hp
    rw [← e]; exact c.empty q hq
  · intro p hp
    obtain ⟨q, hq, e⟩ := List.mem_map.mp hp
    rw [← e]; exact c.out q hq
  · intro p hp
    obtain ⟨q, hq, e⟩ := List.mem_map.mp hp
    rw [← e]; exact PySem.W.codeHd_of_K X (c.hd q hq)
  · exact fun s v => FunD.bindsA (ps := ["_law_script"]) D59 (fun _ _ _ _ _ _ us hl => match us, hl with | [_], _ => rfl) s [v] rfl
  · intro H a ns hl _ hH hS
    have tb : ∀ q ∈ tfH, H (He.cT K q).2 = some (.tbl #[]) := fun q hq => hH _ (List.mem_map.mpr ⟨q, hq, rfl⟩)
    refine ⟨a, ns, rfl, hS, hl, ⟨⟨#[], tb _ (by simp [tfH]), True.intro⟩, ⟨#[], tb _ (by simp [tfH]), True.intro⟩, ⟨#[], tb _ (by simp [tfH]), True.intro⟩, ⟨#[], tb _ (by simp [tfH]), True.intro⟩, fun p hp => ?_⟩, fun _ => rfl⟩
    · rw [List.mem_singleton.mp hp]; exact ⟨#[], tb _ (by simp [tfH]), True.intro, fun pos cv hc => by cases hc⟩
  · intro base KB GB hTB
    have TB : ∀ {q}, q ∈ tfH → LamX.TabB base mg (He.codeOf K q) (He.cT K q).2 := fun {q} hq => hTB _ (List.mem_map.mpr ⟨q, hq, rfl⟩)
    have cNum : Cal (PySem.Challenge.rw_slotpages_k10_whole_walks).prog w K mg base CX0 "is_number" ["thing", "low", "high"] 1 (spNum K) := ⟨_, d0, ok_is_number (fun_of D0) B, g (List.mem_of_getElem? (i := 0) rfl), D0.kp, D0.bindsN fun _ _ _ _ _ _ us hl => match us, hl with | [_, _, _], _ => rfl⟩
    have cTup : Cal (PySem.Challenge.rw_slotpages_k10_whole_walks).prog w K mg base CX0 "is_tuple" ["thing", "many"] 1 (spTup K) := ⟨_, d1, ok_is_tuple (fun_of D1) B, g (List.mem_of_getElem? (i := 1) rfl), D1.kp, D1.bindsN fun _ _ _ _ _ _ us hl => match us, hl with | [_, _], _ => rfl⟩
    have cNext : Cal (PySem.Challenge.rw_slotpages_k10_whole_walks).prog w K mg base CX0 "is_next" ["thing"] 2 (spNext K) := ⟨_, d2, ok_is_next (fun_of D2) Co cNum cTup, g (List.mem_of_getElem? (i := 2) rfl), D2.kp, D2.bindsN fun _ _ _ _ _ _ us hl => match us, hl with | [_], _ => rfl⟩
    have cHolds : Cal (PySem.Challenge.rw_slotpages_k10_whole_walks).prog w K mg base CX0 "_holds" ["thing", "least"] 3 (spHolds K) := ⟨_, d3, ok_holds (fun_of D3) B Co cNum cNext, g (List.mem_of_getElem? (i := 3) rfl), D3.kp, D3.bindsN fun _ _ _ _ _ _ us hl => match us, hl with | [_, _], _ => rfl⟩
    have cSlot : Cal (PySem.Challenge.rw_slotpages_k10_whole_walks).prog w K mg base CX0 "is_slot" ["thing"] 4 (spSlot K) := ⟨_, d4, ok_is_slot (fun_of D4) B Co cNum cHolds, g (List.mem_of_getElem? (i := 4) rfl), D4.kp, D4.bindsN fun _ _ _ _ _ _ us hl => match us, hl with | [_], _ => rfl⟩
    have cVals : Cal (PySem.Challenge.rw_slotpages_k10_whole_walks).prog w K mg base CX0 "are_values" ["things"] 3 (spVals K T (He.cT K ("are_values", none)).2) := ⟨_, d5, ok_are_values (func_of (p := ("are_values", none)) D5) (TB (q := ("are_values", none)) (by simp [tfH])) hT0 B Co cNum, g (List.mem_of_getElem? (i := 5) rfl), D5.kp, D5.bindsN fun _ _ _ _ _ _ us hl => match us, hl with | [_], _ => rfl⟩
    have cCells : Cal (PySem.Challenge.rw_slotpages_k10_whole_walks).prog w K mg base CX0 "are_cells" ["thing"] 4 (spCells K T (He.cT K ("are_values", none)).2) := ⟨_, d6, ok_are_cells (fun_of D6) Co cVals cTup, g (List.mem_of_getElem? (i := 6) rfl), D6.kp, D6.bindsN fun _ _ _ _ _ _ us hl => match us, hl with | [_], _ => rfl⟩
    have cFrame : Cal (PySem.Challenge.rw_slotpages_k10_whole_walks).prog w K mg base CX0 "is_frame" ["thing"] 5 (spFrame K T (He.cT K ("are_values", none)).2) := ⟨_, d7, ok_is_frame (fun_of D7) Co cCells cTup, g (List.mem_of_getElem? (i := 7) rfl), D7.kp, D7.bindsN fun _ _ _ _ _ _ us hl => match us, hl with | [_], _ => rfl⟩
    have cPage : Cal (PySem.Challenge.rw_slotpages_k10_whole_walks).prog w K mg base CX0 "is_page" ["thing"] 6 (spPage K T (He.cT K ("are_values", none)).2 (He.cT K ("is_page", none)).2) := ⟨_, d8, ok_is_page (func_of (p := ("is_page", none)) D8) (TB (q := ("is_page", none)) (by simp [tfH])) hT1 B cFrame cSlot, g (List.mem_of_getElem? (i := 8) rfl), D8.kp, D8.bindsN fun _ _ _ _ _ _ us hl => match us, hl with | [_], _ => rfl⟩
    have cFresh : Cal (PySem.Challenge.rw_slotpages_k10_whole_walks).prog w K mg base CX0 "fresh_page" [] 1 (spFresh K T) := ⟨_, d9, ok_fresh_page (fun_of D9) Co, g (List.mem_of_getElem? (i := 9) rfl), D9.kp, D9.bindsN fun _ _ _ _ _ _ us hl => match us, hl with | [], _ => rfl⟩
    have cI : Ctor (PySem.Challenge.rw_slotpages_k10_whole_walks).prog w K mg base "Disk" (He.ga K "Disk") ["self", "many"] 2 (spDInit K T (He.ga K "Disk") (He.ga K "BadDisk")) := ⟨g (List.mem_of_getElem? (i := 32) rfl), _, d32, ⟨He.mkr_ok (cd.facts (List.mem_of_getElem? (i := 86) rfl)), ok_DInit (fun_of D32) Dt B cNum cFresh, D32.bindsN fun _ _ _ _ _ _ us hl => match us, hl with | [_, _], _ => rfl⟩⟩
    have mPages : Met (PySem.Challenge.rw_slotpages_k10_whole_walks).prog w K mg base CX0 (He.ga K "Disk") "pages" ["self"] 1 (spDPages K (He.ga K "Disk")) := ⟨_, d34, ok_DPages (fun_of D34) Dt B, He.meth_ok (cd.facts (List.mem_of_getElem? (i := 81) rfl)), D34.bindsN fun _ _ _ _ _ _ us hl => match us, hl with | [_], _ => rfl⟩
    have mCheck : Met (PySem.Challenge.rw_slotpages_k10_whole_walks).prog w K mg base (L2.CX _ w) (He.ga K "Disk") "_check" ["self", "number"] 2 (spDCheck K (He.ga K "Disk") (He.ga K "NoPage") (He.ga K "Stopped")) := ⟨_, d37, ok_DCheck (fun_of D37) Dt B cNum, He.meth_ok (cd.facts (List.mem_of_getElem? (i := 84) rfl)), D37.bindsN fun _ _ _ _ _ _ us hl => match us, hl with | [_, _], _ => rfl⟩
    have mCount : Met (PySem.Challenge.rw_slotpages_k10_whole_walks).prog w K mg base (L2.CX _ w) (He.ga K "Disk") "_count_down" ["self"] 1 (spDCount K T (He.ga K "Disk") (He.ga K "Stopped")) := ⟨_, d38, ok_DCount (fun_of D38) Dt, He.meth_ok (cd.facts (List.mem_of_getElem? (i := 85) rfl)), D38.bindsN fun _ _ _ _ _ _ us hl => match us, hl with | [_], _ => rfl⟩
    have mPage : Met (PySem.Challenge.rw_slotpages_k10_whole_walks).prog w K mg base (L2.CX _ w) (He.ga K "Disk") "page" ["self", "number"] 3 (spDPage K (He.ga K "Disk") (He.ga K "NoPage") (He.ga K "Stopped")) := ⟨_, d35, ok_DPage (fun_of D35) Dt mCheck, He.meth_ok (cd.facts (List.mem_of_getElem? (i := 82) rfl)), D35.bindsN fun _ _ _ _ _ _ us hl => match us, hl with | [_, _], _ => rfl⟩
    have mWrite : Met (PySem.Challenge.rw_slotpages_k10_whole_walks).prog w K mg base (L2.CX _ w) (He.ga K "Disk") "write" ["self", "number", "page"] 7 (spDWrite K T (He.cT K ("are_values", none)).2 (He.cT K ("is_page", none)).2 (He.ga K "Disk") (He.ga K "NoPage") (He.ga K "BadPage") (He.ga K "Stopped")) := ⟨_, d36, ok_DWrite (fun_of D36) Dt mCheck mCount cPage, He.meth_ok (cd.facts (List.mem_of_getElem? (i := 83) rfl)), D36.bindsN fun _ _ _ _ _ _ us hl => match us, hl with | [_, _, _], _ => rfl⟩
    have cAllP : Cal (PySem.Challenge.rw_slotpages_k10_whole_walks).prog w K mg base CX0 "all_pages" ["disk"] 4 (spAllP K T (He.ga K "Disk")) := ⟨_, d10, ok_all_pages (fun_of D10) Dt.cl B mPages mPage, g (List.mem_of_getElem? (i := 10) rfl), D10.kp, D10.bindsN fun _ _ _ _ _ _ us hl => match us, hl with | [_], _ => rfl⟩
    have cSlotAt : Cal (PySem.Challenge.rw_slotpages_k10_whole_walks).prog w K mg base CX0 "slot_at" ["sheets", "place"] 1 (spSlotAt K) := ⟨_, d11, ok_slot_at (fun_of D11), g (List.mem_of_getElem? (i := 11) rfl), D11.kp, D11.bindsN fun _ _ _ _ _ _ us hl => match us, hl with | [_, _], _ => rfl⟩
    have cPlaces : Cal (PySem.Challenge.rw_slotpages_k10_whole_walks).prog w K mg base CX0 "places_from" ["sheets", "place"] 2 (spPlaces K T) := ⟨_, d12, ok_places_from (fun_of D12) cSlotAt, g (List.mem_of_getElem? (i := 12) rfl), D12.kp, D12.bindsN fun _ _ _ _ _ _ us hl => match us, hl with | [_, _], _ => rfl⟩
    have cRowPl : Cal (PySem.Challenge.rw_slotpages_k10_whole_walks).prog w K mg base CX0 "row_places" ["sheets"] 1 (spRowPl K T) := ⟨_, d13, ok_row_places (fun_of D13) B2, g (List.mem_of_getElem? (i := 13) rfl), D13.kp, D13.bindsN fun _ _ _ _ _ _ us hl => match us, hl with | [_], _ => rfl⟩
    have cRowNm : Cal (PySem.Challenge.rw_slotpages_k10_whole_walks).prog w K mg base CX0 "row_names" ["sheets"] 2 (spRowNames K T) := ⟨_, d14, ok_row_names (fun_of D14) cRowPl cSlotAt, g (List.mem_of_getElem? (i := 14) rfl), D14.kp, D14.bindsN fun _ _ _ _ _ _ us hl => match us, hl with | [_], _ => rfl⟩
    have cValsF : Cal (PySem.Challenge.rw_slotpages_k10_whole_walks).prog w K mg base CX0 "values_from" ["sheets", "place"] 3 (spValuesF K T) := ⟨_, d15, ok_values_from (fun_of D15) cPlaces, g (List.mem_of_getElem? (i := 15) rfl), D15.kp, D15.bindsN fun _ _ _ _ _ _ us hl => match us, hl with | [_, _], _ => rfl⟩
    have cLost : Cal (PySem.Challenge.rw_slotpages_k10_whole_walks).prog w K mg base CX0 "lost" ["sheets"] 3 (spLost K T) := ⟨_, d16, ok_lost (fun_of D16) B2 cRowPl cPlaces, g (List.mem_of_getElem? (i := 16) rfl), D16.kp, D16.bindsN fun _ _ _ _ _ _ us hl => match us, hl with | [_], _ => rfl⟩
    have cSize : Cal (PySem.Challenge.rw_slotpages_k10_whole_walks).prog w K mg base CX0 "size_of" ["slot"] 1 (spSize K) := ⟨_, d17, ok_size_of (fun_of D17), g (List.mem_of_getElem? (i := 17) rfl), D17.kp, D17.bindsN fun _ _ _ _ _ _ us hl => match us, hl with | [_], _ => rfl⟩
    have cFreeC : Cal (PySem.Challenge.rw_slotpages_k10_whole_walks).prog w K mg base CX0 "free_cells" ["page"] 3 (spFreeC K T (He.cT K ("free_cells", none)).2) := ⟨_, d18, ok_free_cells (func_of (p := ("free_cells", none)) D18) (TB (q := ("free_cells", none)) (by simp [tfH])) hT2 B2 Co cSize, g (List.mem_of_getElem? (i := 18) rfl), D18.kp, D18.bindsN fun _ _ _ _ _ _ us hl => match us, hl with | [_], _ => rfl⟩
    have cRoomAt : Cal (PySem.Challenge.rw_slotpages_k10_whole_walks).prog w K mg base CX0 "room_at" ["page", "at"] 4 (spRoomAt K T (He.cT K ("free_cells", none)).2) := ⟨_, d19, ok_room_at (fun_of D19) cSize cFreeC, g (List.mem_of_getElem? (i := 19) rfl), D19.kp, D19.bindsN fun _ _ _ _ _ _ us hl => match us, hl with | [_, _], _ => rfl⟩
    have cUsS : Cal (PySem.Challenge.rw_slotpages_k10_whole_walks).prog w K mg base CX0 "usable_slots" ["page"] 1 (spUsable K T) := ⟨_, d20, ok_usable_slots (fun_of D20) B2 Co, g (List.mem_of_getElem? (i := 20) rfl), D20.kp, D20.bindsN fun _ _ _ _ _ _ us hl => match us, hl with | [_], _ => rfl⟩
    have cWS : Cal (PySem.Challenge.rw_slotpages_k10_whole_walks).prog w K mg base CX0 "with_slot" ["page", "at", "slot"] 1 (spWithSlot K T) := ⟨_, d21, ok_with_slot (fun_of D21), g (List.mem_of_getElem? (i := 21) rfl), D21.kp, D21.bindsN fun _ _ _ _ _ _ us hl => match us, hl with | [_, _, _], _ => rfl⟩
    have cWPF : Cal (PySem.Challenge.rw_slotpages_k10_whole_walks).prog w K mg base CX0 "with_part_free" ["page", "at"] 2 (spWithPF K T) := ⟨_, d22, ok_with_part_free (fun_of D22) cWS, g (List.mem_of_getElem? (i := 22) rfl), D22.kp, D22.bindsN fun _ _ _ _ _ _ us hl => match us, hl with | [_, _], _ => rfl⟩
    have cCellsOf : Cal (PySem.Challenge.rw_slotpages_k10_whole_walks).prog w K mg base CX0 "_cells_of" ["page", "slot"] 1 (spCellsOf K T) := ⟨_, d24, ok_cells_of (fun_of D24), g (List.mem_of_getElem? (i := 24) rfl), D24.kp, D24.bindsN fun _ _ _ _ _ _ us hl => match us, hl with | [_, _], _ => rfl⟩
    have cPacked : Cal (PySem.Challenge.rw_slotpages_k10_whole_walks).prog w K mg base CX0 "_packed" ["held"] 1 (spPacked K T) := ⟨_, d25, ok_packed (fun_of D25) B Co, g (List.mem_of_getElem? (i := 25) rfl), D25.kp, D25.bindsN fun _ _ _ _ _ _ us hl => match us, hl with | [_], _ => rfl⟩
    have cWV : Cal (PySem.Challenge.rw_slotpages_k10_whole_walks).prog w K mg base CX0 "with_values" ["page", "at", "word", "values", "after"] 2 (spWithValues K T) := ⟨_, d23, ok_with_values (fun_of D23) cCellsOf cPacked, g (List.mem_of_getElem? (i := 23) rfl), D23.kp, D23.bindsN fun _ _ _ _ _ _ us hl => match us, hl with | [_, _, _, _, _], _ => rfl⟩
    have okU := ok_usable_pages (P := (PySem.Challenge.rw_slotpages_k10_whole_walks).prog) (w := w) (PF := (He.cT K ("free_cells", none)).2) (funcd_of (p := ("usable_pages", none)) D26) (TB (q := ("usable_pages", none)) (by simp [tfH])) (List.mem_cons_self) huU B2 cUsS cFreeC
    have cUPD : CalD (PySem.Challenge.rw_slotpages_k10_whole_walks).prog w K mg base "usable_pages" ["sheets", "but"] [.non] 7 (spUsableP K T (He.cT K ("free_cells", none)).2) := by
      obtain ⟨ds, rv, bd⟩ := FunD.binds1 (ps := ["sheets", "but"]) D26 1 0 (by simp [He.DefD.dvs]) rfl fun _ _ _ _ _ _ _ us its hl hi => match us, its, hl, hi with | [_], [_], _, _ => ⟨_, rfl, rfl⟩
      exact ⟨_, d26, ds, okU, g (List.mem_of_getElem? (i := 26) rfl), D26.kp, rv, bd⟩
    have cUP : Cal (PySem.Challenge.rw_slotpages_k10_whole_walks).prog w K mg base CX0 "usable_pages" ["sheets", "but"] 7 (spUsableP K T (He.cT K ("free_cells", none)).2) := by
      obtain ⟨ds, rv, bd⟩ := FunD.binds1 (ps := ["sheets", "but"]) D26 2 1 (by simp [He.DefD.dvs]) rfl fun _ _ _ _ _ _ _ us its hl hi => match us, its, hl, hi with | [_, _], [_], _, _ => ⟨_, rfl, rfl⟩
      cases rv
      exact ⟨_, d26, okU, g (List.mem_of_getElem? (i := 26) rfl), D26.kp, bd⟩
    have cPFP : Cal (PySem.Challenge.rw_slotpages_k10_whole_walks).prog w K mg base (L2.CX _ w) "pages_for_put" ["sheets"] 8 (spPagesPut K T (He.cT K ("free_cells", none)).2 (He.ga K "Full")) := ⟨_, d27, ok_pages_for_put (fun_of D27) (er (List.mem_of_getElem? (i := 46) rfl) (List.mem_of_getElem? (i := 103) rfl)) cUPD, g (List.mem_of_getElem? (i := 27) rfl), D27.kp, D27.bindsN fun _ _ _ _ _ _ us hl => match us, hl with | [_], _ => rfl⟩
    have cShares : Cal (PySem.Challenge.rw_slotpages_k10_whole_walks).prog w K mg base (L2.CX _ w) "shares" ["many", "rooms"] 1 (spShares K T (He.ga K "Full")) := ⟨_, d28, ok_shares (fun_of D28) B2 (er (List.mem_of_getElem? (i := 46) rfl) (List.mem_of_getElem? (i := 103) rfl)), g (List.mem_of_getElem? (i := 28) rfl), D28.kp, D28.bindsN fun _ _ _ _ _ _ us hl => match us, hl with | [_, _], _ => rfl⟩
    have cIsName : Cal (PySem.Challenge.rw_slotpages_k10_whole_walks).prog w K mg base CX0 "_is_name" ["name", "many"] 2 (spIsName K) := ⟨_, d31, ok_is_name (fun_of D31) Co cNum cTup, g (List.mem_of_getElem? (i := 31) rfl), D31.kp, D31.bindsN fun _ _ _ _ _ _ us hl => match us, hl with | [_, _], _ => rfl⟩
    have cPlace : Cal (PySem.Challenge.rw_slotpages_k10_whole_walks).prog w K mg base (L2.CX _ w) "_place" ["sheets", "name"] 3 (spPlaceD K T (He.ga K "NoRow")) := ⟨_, d30, ok_place (fun_of D30) B (er (List.mem_of_getElem? (i := 48) rfl) (List.mem_of_getElem? (i := 105) rfl)) cIsName, g (List.mem_of_getElem? (i := 30) rfl), D30.kp, D30.bindsN fun _ _ _ _ _ _ us hl => match us, hl with | [_, _], _ => rfl⟩
    have cCheckV : Cal (PySem.Challenge.rw_slotpages_k10_whole_walks).prog w K mg base (L2.CX _ w) "_check_values" ["values"] 4 (spCheckV K T (He.cT K ("are_values", none)).2 (He.ga K "BadRow")) := ⟨_, d29, ok_check_values (fun_of D29) B (it (List.mem_of_getElem? (i := 70) rfl)) (er (List.mem_of_getElem? (i := 45) rfl) (List.mem_of_getElem? (i := 102) rfl)) cVals, g (List.mem_of_getElem? (i := 29) rfl), D29.kp, D29.bindsN fun _ _ _ _ _ _ us hl => match us, hl with | [_], _ => rfl⟩
    have mSPages : Met (PySem.Challenge.rw_slotpages_k10_whole_walks).prog w K mg base CX0 (He.ga K "Shelf") "_pages" ["self"] 5 (spSPages K T (He.ga K "Disk") (He.ga K "Shelf")) := ⟨_, d46, ok_SPages (fun_of D46) St cAllP, He.meth_ok (cd.facts (List.mem_of_getElem? (i := 95) rfl)), D46.bindsN fun _ _ _ _ _ _ us hl => match us, hl with | [_], _ => rfl⟩
    have mSettle : Met (PySem.Challenge.rw_slotpages_k10_whole_walks).prog w K mg base (L2.CX _ w) (He.ga K "Shelf") "_settle" ["self", "sheets", "place", "pages", "values"] 8 (spSettle K T (He.ga K "Disk") (He.ga K "Shelf") (He.cT K ("are_values", none)).2 (He.cT K ("is_page", none)).2 (He.cT K ("free_cells", none)).2 (He.ga K "Full")) := ⟨_, d47, ok_SSettle (fun_of D47) St Dt.cl B B2 mWrite cRoomAt cFreeC cShares cUsS cWV, He.meth_ok (cd.facts (List.mem_of_getElem? (i := 96) rfl)), D47.bindsN fun _ _ _ _ _ _ us hl => match us, hl with | [_, _, _, _, _], _ => rfl⟩
    have mSFree : Met (PySem.Challenge.rw_slotpages_k10_whole_walks).prog w K mg base CX0 (He.ga K "Shelf") "_free" ["self", "places"] 8 (spSFree K T (He.ga K "Disk") (He.ga K "Shelf") (He.cT K ("are_values", none)).2 (He.cT K ("is_page", none)).2) := ⟨_, d48, ok_SFree (fun_of D48) St Dt.cl mPage mWrite cWPF, He.meth_ok (cd.facts (List.mem_of_getElem? (i := 97) rfl)), D48.bindsN fun _ _ _ _ _ _ us hl => match us, hl with | [_, _], _ => rfl⟩
    have mFreeLost : Met (PySem.Challenge.rw_slotpages_k10_whole_walks).prog w K mg base CX0 (He.ga K "Shelf") "_free_lost" ["self"] 9 (spSFreeLost K T (He.ga K "Disk") (He.ga K "Shelf") (He.cT K ("are_values", none)).2 (He.cT K ("is_page", none)).2) := ⟨_, d49, ok_SFreeLost (fun_of D49) St Dt.cl mSPages mSFree mPage mWrite cLost cSlotAt cWS, He.meth_ok (cd.facts (List.mem_of_getElem? (i := 98) rfl)), D49.bindsN fun _ _ _ _ _ _ us hl => match us, hl with | [_], _ => rfl⟩
    have cSh : Ctor (PySem.Challenge.rw_slotpages_k10_whole_walks).prog w K mg base "Shelf" (He.ga K "Shelf") ["self", "disk"] 10 (spSInit K T (He.ga K "Disk") (He.ga K "Shelf") (He.cT K ("are_values", none)).2 (He.cT K ("is_page", none)).2) := ⟨g (List.mem_of_getElem? (i := 33) rfl), _, d39, ⟨He.mkr_ok (cd.facts (List.mem_of_getElem? (i := 99) rfl)), ok_SInit (fun_of D39) St mFreeLost, D39.bindsN fun _ _ _ _ _ _ us hl => match us, hl with | [_, _], _ => rfl⟩⟩
    have mPut : Met (PySem.Challenge.rw_slotpages_k10_whole_walks).prog w K mg base (L2.CX _ w) (He.ga K "Shelf") "put" ["self", "values"] 9 (spSPut K T (He.ga K "Disk") (He.ga K "Shelf") (He.cT K ("are_values", none)).2 (He.cT K ("is_page", none)).2 (He.cT K ("free_cells", none)).2 (He.cT K ("are_values", none)).2 (He.ga K "Full") (He.ga K "BadRow")) := ⟨_, d40, ok_SPut (fun_of D40) St mSPages mSettle cCheckV cPFP cUsS, He.meth_ok (cd.facts (List.mem_of_getElem? (i := 89) rfl)), D40.bindsN fun _ _ _ _ _ _ us hl => match us, hl with | [_, _], _ => rfl⟩
    have mGet : Met (PySem.Challenge.rw_slotpages_k10_whole_walks).prog w K mg base (L2.CX _ w) (He.ga K "Shelf") "get" ["self", "name"] 6 (spSGet K T (He.ga K "Disk") (He.ga K "Shelf") (He.ga K "NoRow")) := ⟨_, d41, ok_SGet (fun_of D41) St mSPages cValsF cPlace, He.meth_ok (cd.facts (List.mem_of_getElem? (i := 90) rfl)), D41.bindsN fun _ _ _ _ _ _ us hl => match us, hl with | [_, _], _ => rfl⟩
    have mNames : Met (PySem.Challenge.rw_slotpages_k10_whole_walks).prog w K mg base CX0 (He.ga K "Shelf") "names" ["self"] 6 (spSNames K T (He.ga K "Disk") (He.ga K "Shelf")) := ⟨_, d42, ok_SNames (fun_of D42) St mSPages cRowNm, He.meth_ok (cd.facts (List.mem_of_getElem? (i := 91) rfl)), D42.bindsN fun _ _ _ _ _ _ us hl => match us, hl with | [_], _ => rfl⟩
    have mParts : Met (PySem.Challenge.rw_slotpages_k10_whole_walks).prog w K mg base (L2.CX _ w) (He.ga K "Shelf") "parts" ["self", "name"] 6 (spSParts K T (He.ga K "Disk") (He.ga K "Shelf") (He.ga K "NoRow")) := ⟨_, d43, ok_SParts (fun_of D43) St B mSPages cPlaces cPlace, He.meth_ok (cd.facts (List.mem_of_getElem? (i := 92) rfl)), D43.bindsN fun _ _ _ _ _ _ us hl => match us, hl with | [_, _], _ => rfl⟩
    have mChange : Met (PySem.Challenge.rw_slotpages_k10_whole_walks).prog w K mg base (L2.CX _ w) (He.ga K "Shelf") "change" ["self", "name", "values"] 9 (spSChange K T (He.ga K "Disk") (He.ga K "Shelf") (He.cT K ("are_values", none)).2 (He.cT K ("is_page", none)).2 (He.cT K ("free_cells", none)).2 (He.cT K ("are_values", none)).2 (He.ga K "Full") (He.ga K "BadRow") (He.ga K "NoRow")) := ⟨_, d44, ok_SChange (fun_of D44) St mSPages mSettle mSFree cPlace cPlaces cCheckV cUP, He.meth_ok (cd.facts (List.mem_of_getElem? (i := 93) rfl)), D44.bindsN fun _ _ _ _ _ _ us hl => match us, hl with | [_, _, _], _ => rfl⟩
    have mDrop : Met (PySem.Challenge.rw_slotpages_k10_whole_walks).prog w K mg base (L2.CX _ w) (He.ga K "Shelf") "drop" ["self", "name"] 9 (spSDrop K T (He.ga K "Disk") (He.ga K "Shelf") (He.cT K ("are_values", none)).2 (He.cT K ("is_page", none)).2 (He.ga K "NoRow")) := ⟨_, d45, ok_SDrop (fun_of D45) St Dt.cl mSPages mSFree mWrite cWS cPlaces cPlace, He.meth_ok (cd.facts (List.mem_of_getElem? (i := 94) rfl)), D45.bindsN fun _ _ _ _ _ _ us hl => match us, hl with | [_, _], _ => rfl⟩
    have cBegun : Cal (PySem.Challenge.rw_slotpages_k10_whole_walks).prog w K mg base CX0 "_law_begun" ["_law_script"] 1 (spBegun K T) := ⟨_, d52, ok_begun (fun_of D52) B, g (List.mem_of_getElem? (i := 34) rfl), D52.kp, D52.bindsN fun _ _ _ _ _ _ us hl => match us, hl with | [_], _ => rfl⟩
    have cTake : Cal (PySem.Challenge.rw_slotpages_k10_whole_walks).prog w K mg base CX0 "_law_take" ["_law_box", "_law_many"] 1 (spTake T) := ⟨_, d53, ok_take (fun_of D53), g (List.mem_of_getElem? (i := 35) rfl), D53.kp, D53.bindsN fun _ _ _ _ _ _ us hl => match us, hl with | [_, _], _ => rfl⟩
    have bAl : Binds K d54 ["_law_found", "_law_due"] [] := D54.bindsN fun _ _ _ _ _ _ us hl => match us, hl with | [_, _], _ => rfl
    have cAl : ∀ n, Cal (PySem.Challenge.rw_slotpages_k10_whole_walks).prog w K mg base CX0 "_law_alike" ["_law_found", "_law_due"] n (spAl K n) := fun n => ⟨_, d54, ok_alike (fun_of D54) B (fr (List.mem_of_getElem? (i := 58) rfl)) (g (List.mem_of_getElem? (i := 36) rfl)) bAl n, g (List.mem_of_getElem? (i := 36) rfl), D54.kp, bAl⟩
    have hFF : PySem.W.exmOne K (.ref (He.ga K "Full")) (.ref (He.ga K "Full")) = some true := He.exm_ok (cd.facts (List.mem_of_getElem? (i := 108) rfl))
    have Wt : WTx K (He.ga K "Walk") := ⟨He.cls_ok (cd.facts (List.mem_of_getElem? (i := 111) rfl)), He.noat_ok (cd.facts (List.mem_of_getElem? (i := 112) rfl)), He.noat_ok (cd.facts (List.mem_of_getElem? (i := 113) rfl)), He.noat_ok (cd.facts (List.mem_of_getElem? (i := 114) rfl))⟩
    have cValues : Cal (PySem.Challenge.rw_slotpages_k10_whole_walks).prog w K mg base CX0 "_law_values" ["_law_box"] 2 (spValues K T) := ⟨_, d55, ok_lvalues (fun_of D55) B cTake, g (List.mem_of_getElem? (i := 37) rfl), D55.kp, D55.bindsN fun _ _ _ _ _ _ us hl => match us, hl with | [_], _ => rfl⟩
    have cDeed : Cal (PySem.Challenge.rw_slotpages_k10_whole_walks).prog w K mg base CX0 "_law_deed" ["_law_box", "_law_shelf", "_law_rows"] 10 (spDeedN K T (He.ga K "Disk") (He.ga K "Shelf") (He.cT K ("are_values", none)).2 (He.cT K ("is_page", none)).2 (He.cT K ("free_cells", none)).2) := ⟨_, d57, ok_ldeedN (fun_of D57) St B B2 (g (List.mem_of_getElem? (i := 46) rfl)) hFF cTake cValues mPut mChange mDrop, g (List.mem_of_getElem? (i := 39) rfl), D57.kp, D57.bindsN fun _ _ _ _ _ _ us hl => match us, hl with | [_, _, _], _ => rfl⟩
    have cBegin : Cal (PySem.Challenge.rw_slotpages_k10_whole_walks).prog w K mg base CX0 "_law_begin" ["_law_box"] 12 (spBeginN K T (He.ga K "Disk") (He.ga K "Shelf") (He.cT K ("are_values", none)).2 (He.cT K ("is_page", none)).2 (He.cT K ("free_cells", none)).2) := ⟨_, d56, ok_lbeginN (fun_of D56) B cTake cI cSh cDeed, g (List.mem_of_getElem? (i := 38) rfl), D56.kp, D56.bindsN fun _ _ _ _ _ _ us hl => match us, hl with | [_], _ => rfl⟩
    have cWk : Ctor (PySem.Challenge.rw_slotpages_k10_whole_walks).prog w K mg base "Walk" (He.ga K "Walk") ["self", "shelf"] 1 (spWInit K T (He.ga K "Walk")) := ⟨g (List.mem_of_getElem? (i := 110) rfl), _, d50, ⟨He.mkr_ok (cd.facts (List.mem_of_getElem? (i := 116) rfl)), ok_WInit (fun_of D50) Wt, D50.bindsN fun _ _ _ _ _ _ us hl => match us, hl with | [_, _], _ => rfl⟩⟩
    have mStep : Met (PySem.Challenge.rw_slotpages_k10_whole_walks).prog w K mg base CX0 (He.ga K "Walk") "step" ["self"] 7 (spWStep K T (He.ga K "Disk") (He.ga K "Shelf") (He.ga K "Walk")) := ⟨_, d51, ok_WStep (fun_of D51) Wt St mNames mGet, He.meth_ok (cd.facts (List.mem_of_getElem? (i := 115) rfl)), D51.bindsN fun _ _ _ _ _ _ us hl => match us, hl with | [_], _ => rfl⟩
    have cSt : Cal (PySem.Challenge.rw_slotpages_k10_whole_walks).prog w K mg base CX0 "_law_step" ["_law_walk", "_law_w", "_law_rows"] 8 (spLStep10 K T (He.ga K "Disk") (He.ga K "Shelf") (He.ga K "Walk")) := ⟨_, d58, ok_lstep10 (fun_of D58) Wt B B2 (cAl 3) mStep, g (List.mem_of_getElem? (i := 40) rfl), D58.kp, D58.bindsN fun _ _ _ _ _ _ us hl => match us, hl with | [_, _, _], _ => rfl⟩
    exact ok_law (fun_of D59) Wt B B2 (fr (List.mem_of_getElem? (i := 109) rfl)) cBegun cTake cBegin cDeed cSt cWk mStep
end GX
open PySem PySem.W PySem.Calls PyProof.Rows
set_option maxRecDepth 100000
set_option maxHeartbeats 0 in
theorem PySem.Challenge.cw_slotpages_k10_whole_walks_holds : PySem.Challenge.rw_slotpages_k10_whole_walks.Holds := by
  w_on; o_law
  refine HandSHeadRun.head_any (r := OpenLaw.row PySem.Challenge.rw_slotpages_k10_whole_walks) (q := view (OpenLaw.row PySem.Challenge.rw_slotpages_k10_whole_walks).prog [69]) (H := GX.hkH) (ob := GX.obH) (M := 60000) (loose := GX.looseH) (d := HandSHeadRun.topDef (OpenLaw.row PySem.Challenge.rw_slotpages_k10_whole_walks).prog 69) (kwd := []) GX.obH_eq
    (by kernel_rfl) (fun s => by kernel_rfl) GX.runH (by kernel_rfl) (by kernel_rfl) (by kernel_rfl) (by rfl) (by first | assumption | decide +kernel) (by decide +kernel) ⟨rfl, rfl, rfl, rfl, rfl, by decide +kernel⟩ ?hw ?hc
  case hw => w_witness2
  case hc =>
    refine LamX.walk_ofTsE (l := PySem.Challenge.rw_slotpages_k10_whole_walks) (n := 63) (k := 14) (x := "_law_script") (CX := fun _ => L2.CX0) rfl (by decide) (by kernel_rfl) ⟨rfl, by decide, by decide⟩ ?F (fun _ _ _ _ _ z => z)
    intro w mg fa h Y G hmg0
    obtain ⟨K, KX, c⟩ := Y
    have hmg : mg ("law" : PySem.Str) = some (.ref fa) := by
      have e : (HandSHeadRun.topDef (OpenLaw.row PySem.Challenge.rw_slotpages_k10_whole_walks).prog 69).name = ("law" : PySem.Str) := by kernel_rfl
      rw [← e]
      exact hmg0
    exact ⟨K, KX, GX.law_at KX G hmg c⟩

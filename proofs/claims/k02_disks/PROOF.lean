import PyProof.Rows.All
import Wide.All
import OpenK.AllK
import Wide.FinOn
import KE.KStateDown
import HandS.ForExc
import HandS.ExcIs
import HandS.Defaults
import HandS.Head0
import HandS.Head1
import HandS.Head2
import HandS.HeadHook1
import HandS.HeadHook2
import HandS.HeadHook3
import HandS.HeadHook4
import HandS.ForMost
import HandS.GenList
import HandS.AnyAll
import HandS.Lambda
import KE.KDflt
import HandS.IsInst
import HandS.TupMul
import HandS.Comp
import HandS.Exc
import HandS.ExcOwn
import HandS.WordsExc
import HandS.List
import HandS.Deep
import HandS.Small
import HandS.EndTab
import HandS.HeadWalk
import PySem.Challenge.RW_slotpages_k02_disks
set_option Elab.async false
set_option linter.all false
set_option maxRecDepth 100000
set_option maxHeartbeats 2000000
/-! the program's statements, by their places -/
namespace GX
open PySem PySem.Spec PyProof.Rows L2
def top (i : Nat) : Stmt := PySem.Challenge.pw_slotpages_k02_disks.main.body.getD i (.Pass ⟨0, 0, 0, 0⟩)
abbrev s_is_number : Stmt := top 18
abbrev s_is_tuple : Stmt := top 19
abbrev s_is_next : Stmt := top 20
abbrev s_holds : Stmt := top 21
abbrev s_is_slot : Stmt := top 22
abbrev s_are_values : Stmt := top 23
abbrev s_are_cells : Stmt := top 24
abbrev s_is_frame : Stmt := top 25
abbrev s_is_page : Stmt := top 26
abbrev s_fresh_page : Stmt := top 27
abbrev s_DInit : Stmt := inClass (top 31) 0
abbrev s_DPages : Stmt := inClass (top 31) 1
abbrev s_DWrites : Stmt := inClass (top 31) 2
abbrev s_DPage : Stmt := inClass (top 31) 3
abbrev s_DWrite : Stmt := inClass (top 31) 4
abbrev s_DArm : Stmt := inClass (top 31) 5
abbrev s_DAgain : Stmt := inClass (top 31) 6
abbrev s_DCheck : Stmt := inClass (top 31) 7
abbrev s_DCount : Stmt := inClass (top 31) 8
abbrev s_begun : Stmt := top 33
abbrev s_take : Stmt := top 34
abbrev s_alike : Stmt := top 35
abbrev s_told : Stmt := top 36
abbrev s_all : Stmt := top 37
abbrev s_lpage : Stmt := top 38
abbrev s_turn : Stmt := top 39
abbrev s_law : Stmt := top 40
end GX
set_option maxHeartbeats 0
/-! what the program's top leaves: facts by names, one run -/
namespace GX
open PySem PySem.Spec PyProof.Rows L2

def wordsH : List Str := ["BadCount", "BadDisk", "BadPage", "BadRow", "BadText", "Full", "NoPage", "NoRow", "Stopped"]
def dG (x : Str) (st : Stmt) : He.DefD := ⟨(x, none), x, x, defArgs st, defBody st, defScope st, [], []⟩
def dM (C x q : Str) (st : Stmt) : He.DefD := ⟨(C, some x), x, q, defArgs st, defBody st, defScope st, [], []⟩
def fnH : List He.DefD := [dG "is_number" s_is_number, dG "is_tuple" s_is_tuple, dG "is_next" s_is_next, dG "_holds" s_holds, dG "is_slot" s_is_slot, dG "are_values" s_are_values, dG "are_cells" s_are_cells, dG "is_frame" s_is_frame, dG "is_page" s_is_page, dG "fresh_page" s_fresh_page,
  dM "Disk" "__init__" "Disk.__init__" s_DInit, dM "Disk" "pages" "Disk.pages" s_DPages, dM "Disk" "writes" "Disk.writes" s_DWrites, dM "Disk" "page" "Disk.page" s_DPage, dM "Disk" "write" "Disk.write" s_DWrite,
  dM "Disk" "arm" "Disk.arm" s_DArm, dM "Disk" "again" "Disk.again" s_DAgain, dM "Disk" "_check" "Disk._check" s_DCheck, dM "Disk" "_count_down" "Disk._count_down" s_DCount,
  dG "_law_begun" s_begun, dG "_law_take" s_take, dG "_law_alike" s_alike, dG "_law_told" s_told, dG "_law_all" s_all, dG "_law_page" s_lpage, dG "_law_turn" s_turn, dG "law" s_law]
def faH : List He.Fa := [.glo "is_number", .glo "is_tuple", .glo "is_next", .glo "_holds", .glo "is_slot", .glo "are_values", .glo "are_cells", .glo "is_frame", .glo "is_page", .glo "fresh_page", .glo "Disk",
  .glo "_law_begun", .glo "_law_take", .glo "_law_alike", .glo "_law_told", .glo "_law_all", .glo "_law_page", .glo "_law_turn", .glo "law",
  .glo "PageError", .glo "BadCount", .glo "BadDisk", .glo "BadPage", .glo "BadRow", .glo "BadText", .glo "Full", .glo "NoPage", .glo "NoRow", .glo "Stopped",
  .free "isinstance", .free "len", .free "all", .free "int", .free "bool", .free "tuple", .free "list", .free "range", .free "str", .free "min", .free "max", .free "ValueError",
  .int "SLOTS" 8, .int "CELLS" 24, .int "MOST_PAGES" 12, .int "GREATEST_CELL" 99, .int "GREATEST_TURN" 99, .int "SPENT_TURN" 100, .int "LEAST_PAGES" 2, .int "GREATEST_COUNT" 1000000,
  .cls "Disk", .noat "Disk" "_sheets", .noat "Disk" "_done", .noat "Disk" "_left", .noat "Disk" "_stands",
  .meth "Disk" "pages", .meth "Disk" "writes", .meth "Disk" "page", .meth "Disk" "write", .meth "Disk" "arm", .meth "Disk" "again", .meth "Disk" "_check", .meth "Disk" "_count_down", .mkr "Disk",
  .exc "BadDisk", .exc "NoPage", .exc "BadPage", .exc "BadCount", .exc "Stopped", .exm "NoPage" "PageError" true, .exm "Stopped" "PageError" true]
def tfH : List He.Defn := [("are_values", none), ("is_page", none), ("_law_turn", none), ("law", none)]
def excB (K : PySem.W.Frag) (D : Addr) : Bool :=
  decide (PySem.W.findIn K (.ref D) "__getattribute__" = some (some (.builtin "BaseException.__getattribute__"))) && (decide (PySem.W.findIn K (.ref D) "__getattr__" = some none) && (decide (PySem.W.subIn K (.ref D) (.type "BaseException") = some true) &&
  (PySem.W.hasDictIn K D && (decide (PySem.W.findIn K (.ref D) "__class__" = some (some (.builtin "object.__class__"))) && (decide (PySem.W.specialIn K (.builtin "object.__class__") "__get__" = some (some (.builtin "getset_descriptor.__get__"))) &&
  (decide (PySem.W.takesIn K (.builtin "object.__class__") = some true) && decide (PySem.W.mroIn K D (.type "object") = some true)))))))
theorem excB_ok {K : PySem.W.Frag} {D : Addr} (h : excB K D = true) : ExcC K D := by
  obtain ⟨h1, h⟩ := He.ba h
  obtain ⟨h2, h⟩ := He.ba h
  obtain ⟨h3, h⟩ := He.ba h
  obtain ⟨h4, h⟩ := He.ba h
  obtain ⟨h5, h⟩ := He.ba h
  obtain ⟨h6, h⟩ := He.ba h
  obtain ⟨h7, h8⟩ := He.ba h
  exact ⟨of_decide_eq_true h1, of_decide_eq_true h2, of_decide_eq_true h3, h4, of_decide_eq_true h5, of_decide_eq_true h6, of_decide_eq_true h7, of_decide_eq_true h8⟩
/-- an error's class among the nine -/
def kitB9 (K : PySem.W.Frag) (i : Nat) : Bool := (List.range 9).all fun j => decide (PySem.W.kitOne K (.ref (He.ga K (wordsH.getD i ""))) (.ref (He.ga K (wordsH.getD j ""))) = some (decide (j = i)))
def exH (K : PySem.W.Frag) : Bool := [6, 8].all (fun i => excB K (He.ga K (wordsH.getD i "")) && (kitB9 K i && decide (PySem.W.kitOne K (.ref (He.ga K (wordsH.getD i ""))) (.type "ValueError") = some true))) &&
  decide ((tfH.map fun p => (He.cT K p).2).Nodup)
abbrev RH : PySem.W.OpenRow := PySem.W.OpenLaw.row PySem.Challenge.rw_slotpages_k02_disks
abbrev hkH : PySem.W.Hook := He.hookX 5 faH fnH [] tfH exH
def obH (s : PySem.W.SharedT) : He.AlX := He.obsX 5 faH fnH [] tfH exH (HandSHeadRun.getT s)
theorem obH_eq (s : PySem.W.SharedT) : obH s = hkH.obs s.abs := He.obsX_eq (HandSHeadRun.getT_eq s)
def looseH : List Str := (["PageError", "BadDisk", "NoPage", "BadPage", "BadCount", "Stopped", "BadRow", "NoRow", "Full", "BadText", "SLOTS", "CELLS", "MOST_PAGES", "GREATEST_CELL", "GREATEST_TURN", "SPENT_TURN", "is_number", "is_tuple", "is_next", "_holds"] : List Str) ++
  (["is_slot", "MOST_VALUES", "are_values", "are_cells", "is_frame", "is_page", "fresh_page", "LEAST_PAGES", "GREATEST_COUNT", "Disk", "_law_begun", "_law_take", "_law_alike", "_law_told", "_law_all", "_law_page", "_law_turn"] : List Str)
theorem runH (w : World) : HandSHeadRun.RunEq RH (PySem.W.view RH.prog [40]) hkH obH 20000 looseH w := by
  intro os
  kernel_rfl
end GX
set_option maxHeartbeats 2000000
namespace GX
open PySem PySem.Spec PyProof.Rows L2 GenW
/-- the code of a generator expression's loop has the frame of its names over what runs -/
theorem over_comp {A : Around} {elt : Expr} {gs : List Comprehension} {sc : Scope} {p : Pos} {it acc : Value} {env : Env} : A.over (.compLoop (.GeneratorExp elt gs sc p) 0 it acc env) [] = A.deeper env := by rfl
theorem over_compS {A : Around} {elt : Expr} {gs : List Comprehension} {sc : Scope} {p : Pos} {it acc : Value} {env : Env} : A.over (.compStart (.GeneratorExp elt gs sc p) 0 it acc env) [] = A.deeper env := by rfl
/-- the names of a generator expression: x its own, then captured ones, whose places in the maker's names are at cap -/
structure GS (N Ng : List Str) (sc scope : Scope) (x : Str) (cap : List Nat) : Prop where
  kind : scope.kind = .function
  co : scope.isCoroutine = false
  cell : ∀ y ∈ scope.names, y.2 ≠ .cell
  dot : scope.names.lookup (".0" : Str) = some NameKind.local
  loc : scope.names.lookup x = some .local
  free : ∀ y ∈ scope.names, y.2 = .free → sc.names.lookup y.1 = some .cell ∨ sc.names.lookup y.1 = some .free
  nd : Ng.Nodup
  hd : Ng[0]? = some x
  tl : ∀ (j : Nat) (y : Str), Ng[j + 1]? = some y → scope.names.lookup y = some .free ∧ ∃ i, cap[j]? = some i ∧ N[i]? = some y
  len : Ng.length = cap.length + 1
/-- the generator's slots at the start -/
def gSt (σ : L2.St) (cap : List Nat) : L2.St := none :: cap.map fun i => (σ[i]?).join
abbrev gEnv (X : Cx) (scope : Scope) (C : Addr) (code : Value) : Env := genEnv scope (cloFrom X.env.cells scope.names []) C code builtinsNs X.env
/-- the context in which the generator's element is reckoned: s, H when its frame is made -/
def gCx (X : Cx) (Ng : List Str) (scope : Scope) (code : Value) (s : Shared) (H : Hp) (fp : List Addr) (pn : List (Addr × Obj)) : Cx where
  prog := X.prog
  w := X.w
  K := X.K
  mg := X.mg
  base := X.base
  A := X.A.in1.in1.deeper (gEnv X scope s.heap.objs.size code)
  N := Ng
  s_0 := s
  H_0 := H
  env := gEnv X scope s.heap.objs.size code
  outer := X.stack
  stack := gEnv X scope s.heap.objs.size code :: X.stack
  ex := fp
  fn := fun _ => false
  calm := true
  pn := pn
  xe := fun _ _ => False
section
variable {X : Cx} {pins : List (Addr × Obj)} {σ : L2.St} {H : Hp} {s : Shared} {N Ng : List Str} {scope : Scope} {x : Str} {cap : List Nat}
theorem GS.has (S : GS X.N Ng X.env.scope scope x cap) (ok : X.Ok) : ∀ y ∈ scope.names, y.2 = .free → ∃ c, X.env.cells.lookup y.1 = some c := fun y hy e => by
  rcases S.free y hy e with k | k
  · exact ok.has _ (.inl k)
  · exact ok.has _ (.inr k)
theorem gStart {fp : List Addr} {code : Value} {it : Value} {a : Addr} {go : Obj} {h1 : Heap} {g' : Array GenState} {tk : Nat} (I : Inv X pins σ H s) (hd : X.A.handled = none) (S : GS X.N Ng X.env.scope scope x cap)
    (hfp : ∀ b ∈ fp, FpOk X pins H b ∧ b < s.heap.objs.size) (hns : h1.Ns s.heap.objs.size (fun y => if y = ".0" then some it else none)) (hk : ∀ b o, s.heap.get? b = some o → h1.get? b = some o)
    (ha : h1.get? a = some go) (ha2 : s.heap.objs.size < a) (hgo : ∀ v, go.data ≠ .cell v) (hg : AllBare g') :
    Inv (gCx X Ng scope code s H fp [(a, go)]) [] (gSt σ cap) H { s with heap := h1, gens := g', toks := tk } := by
  have hfree := S.has I.ok
  have cm : ∀ {y c}, (cloFrom X.env.cells scope.names []).lookup y = some c → X.env.cells.lookup y = some c := fun {y c} e => by
    rcases cloFrom_mem (PySem.mem_of_lookup e) with hm | ⟨q1, q2⟩
    · cases hm
    · obtain ⟨c1, hc⟩ := hfree _ q1 rfl
      have hc : X.env.cells.lookup y = some c1 := hc
      rw [hc] at q2
      have e2 : c = c1 := q2
      rw [e2]; exact hc
  have look : ∀ {y}, scope.names.lookup y = some .free → ∃ c, (cloFrom X.env.cells scope.names []).lookup y = some c := fun {y} hl =>
    mem_lookup (cloFrom_has (cells := X.env.cells) (acc := []) (PySem.mem_of_lookup hl))
  have neC : ∀ b o, s.heap.get? b = some o → b ≠ s.heap.objs.size := fun b o e => Nat.ne_of_lt (Heap.lt_size e)
  have ltc : ∀ {y c}, X.env.cells.lookup y = some c → c < s.heap.objs.size := fun {y c} e => by
    obtain ⟨v, z⟩ := I.cell y c e
    exact z.lt
  have stkLt : ∀ b ∈ frs X.stack, b < s.heap.objs.size := fun b hb => by
    obtain ⟨_, o, ho, _⟩ := I.stack.mem hb
    exact Heap.lt_size ho
  have cellK : ∀ {c : Addr} {v : Option Value}, s.heap.IsCell c v → h1.IsCell c v := fun {c v} ⟨o, ho, hd⟩ => ⟨o, hk _ _ ho, hd⟩
  refine ⟨⟨I.ok.mod, S.kind, I.ok.glob, rfl, Nat.le_refl _, fun y z c e1 e2 => I.ok.inj y z c (cm e1) (cm e2), fun y hy => ?_, fun y c z _ => absurd (show false = true from z) Bool.false_ne_true, fun _ => hd, Around.frames_deeper (A := X.A.in1.in1) I.ok.frames, .inr ⟨rfl, rfl⟩,
      fun b hb => ⟨Nat.ne_of_lt (hfp b hb).2, fun y c e => (hfp b hb).1.2.2.2.2.1 y c (cm e)⟩, I.bs, Nat.le_trans I.ok.bsz I.sz, fun b o e hb => ?_, fun b hb hm => ?_, I.stack, I.stkFree⟩,
    rfl, hg, Un.kept hk, ⟨_, hns, fun i y v e1 e2 e3 => ?_⟩, fun y c e => ?_, I.hok.fresh (Nat.le_refl _), fun y c e => I.freeC y c (cm e), fun p hp => ?_, I.hok.kept hk, ?_⟩
  · have hy : scope.names.lookup y = some .cell ∨ scope.names.lookup y = some .free := hy
    rcases hy with hy | hy
    · exact absurd rfl (S.cell _ (PySem.mem_of_lookup hy))
    · exact look hy
  · rcases (hfp b hb).1.2.2.2.1 with z | z
    · exact I.ok.noex b o e z
    · exact absurd (Nat.lt_of_lt_of_le (Heap.lt_size (I.ok.bs b o e).1) z) (Nat.lt_irrefl _)
  · rcases List.mem_cons.mp (I.stkSub b hm) with z | z
    · exact (hfp b hb).1.2.1 z
    · exact (hfp b hb).1.2.2.1 z
  · have e1 : Ng[i]? = some y := e1
    have e2 : (gSt σ cap)[i]? = some (some v) := e2
    cases i with
    | zero => exact absurd e2 (by simp [gSt])
    | succ j =>
      obtain ⟨hf, i', hc, hn⟩ := S.tl j y e1
      have e2' : (cap.map fun i => (σ[i]?).join)[j]? = some (some v) := by simpa [gSt] using e2
      rw [List.getElem?_map, hc] at e2'
      have e2'' : (σ[i']?).join = some v := by simpa using e2'
      have e4 : σ[i']? = some (some v) := by
        cases q : σ[i']? with
        | none => rw [q] at e2''; cases e2''
        | some w => rw [q] at e2''; rw [← e2'']; rfl
      have hv : X.env.kindOf y = some .cell ∨ X.env.kindOf y = some .free := S.free (y, .free) (PySem.mem_of_lookup hf) rfl
      obtain ⟨m, hn', hl⟩ := I.loc
      obtain ⟨u, r, q⟩ := hl i' y v hn e4 (.inr hv)
      refine ⟨u, r, .inr ⟨.inr hf, ?_⟩⟩
      rcases q with ⟨k, _⟩ | ⟨_, c, ec, z⟩
      · rcases hv with w | w <;> (rw [k] at w; cases w)
      · obtain ⟨c', ec'⟩ := look hf
        have q := cm ec'
        rw [ec] at q
        cases q
        exact ⟨c, ec', cellK z⟩
  · obtain ⟨v, z⟩ := I.cell y c (cm e)
    exact ⟨v, cellK z⟩
  · have hp' : p ∈ [(a, go)] := by simpa [gCx] using hp
    rw [List.mem_singleton.mp hp']
    exact ⟨ha, I.hok.fresh (Nat.le_of_lt ha2), Nat.ne_of_gt ha2, fun hm => absurd (Nat.lt_trans ha2 (stkLt a hm)) (Nat.lt_irrefl _), hgo⟩
  · show (gSt σ cap).length = Ng.length
    rw [S.len]; simp [gSt]
end
end GX
namespace GX
open PySem PySem.Spec PyProof.Rows L2 GenW
/-- a value is handed out: Y tells what is wanted of it; the run goes on where Pv holds -/
def GY (Z : Cx) (τ : L2.St) (fp : List Addr) (tn : Nat → Heap → Prop) (N : Nat) (PG : Nat → List (Addr × Obj) → Prop) (Pv : Nat → Hp → Prop) (Y : Nat → V → Hp → Prop) : Protocol := fun n _ v s kap =>
  ∃ (i : Nat) (y : V) (H : Hp) (pg : List (Addr × Obj)), i + 1 + n = N ∧ RelV y v ∧ PG i pg ∧ Inv Z pg τ H s ∧ tn (i + 1) s.heap ∧ (∀ b ∈ fp, FpOk Z pg H b) ∧ Y i y H ∧
    ∀ (s' : Shared) (pg' : List (Addr × Obj)), PG (i + 1) pg' → Inv Z pg' τ H s' → tn (i + 1) s'.heap → (∀ b ∈ fp, FpOk Z pg' H b) → Pv (i + 1) H → kap (.send .none) s'
/-- the run's end -/
def GF (Z : Cx) (τ : L2.St) (PG : Nat → List (Addr × Obj) → Prop) (Qe : Nat → Hp → Prop) (i : Nat) (s : Shared) : Prop := ∃ (H : Hp) (pg : List (Addr × Obj)), PG i pg ∧ Inv Z pg τ H s ∧ Qe i H
def GR (Z : Cx) (τ : L2.St) (N : Nat) (PG : Nat → List (Addr × Obj) → Prop) (Qe : Nat → Hp → Prop) : GenEnd := fun n _ r s => ((r = .ok (.ret .none) ∨ r = .ok .next) ∧ ∃ i, i + n = N ∧ GF Z τ PG Qe i s) ∨ ∃ e, r = .error e ∧ False
/-- what a turn asks -/
def Turns (J : It) (N : Nat) (τ : L2.St) (te : TE) (Pv : Nat → Hp → Prop) (Y : Nat → V → Hp → Prop) (Qe : Nat → Hp → Prop) : Prop :=
  ∀ i H, Pv i H → (J.stop i H ∧ Qe i H) ∨ (J.go i H ∧ i < N ∧ ∀ v H', J.yld i H v H' → te (τ.set 0 (some v)) H' fun y H2 => Y i y H2)
theorem gLoop {Z : Cx} {B : Around} {it : Addr} {fp : List Addr} {tn : Nat → Heap → Prop} {J : It} {elt iter : Expr} {x : Str} {px gpos : Pos} {scope : Scope} {τ : L2.St} {te : TE} {N : Nat} {Pv : Nat → Hp → Prop} {Y : Nat → V → Hp → Prop} {Qe : Nat → Hp → Prop} {PG : Nat → List (Addr × Obj) → Prop}
    (hA : B.deeper Z.env = Z.A) (hcalm : Z.calm = true) (T : Turn Z.prog Z.w Z.K (.Name x px) J fp it tn) (hel : PE Z elt te) (hxe : ∀ e s, ¬ Z.xe e s)
    (hnd : Z.N.Nodup) (h0 : Z.N[0]? = some x) (hl : Z.env.scope.names.lookup x = some .local) (hco : Z.env.scope.isCoroutine = false) (hτ : τ[0]? = some none) (turn : Turns J N τ te Pv Y Qe) :
    ∀ (n i : Nat) (s₀ s : Shared) (H : Hp) (pg : List (Addr × Obj)), i + n = N → PG i pg → Inv Z pg τ H s → tn i s.heap → (∀ b ∈ fp, FpOk Z pg H b) → Pv i H →
      Seg (model Z.prog Z.w) B (GR Z τ N PG Qe) (GY Z τ fp tn N PG Pv Y) n s₀ (.compLoop (.GeneratorExp elt [⟨.Name x px, iter, [], 0⟩] scope gpos) 0 (.ref it) .none Z.env)
        ((model Z.prog Z.w).den (.compLoop (.GeneratorExp elt [⟨.Name x px, iter, [], 0⟩] scope gpos) 0 (.ref it) .none Z.env)) [] s := by
  intro n
  induction n with
  | zero =>
    intro i s₀ s H pg hin hpg I ht hf hp
    show Seg _ B _ _ _ s₀ _ ((compTurn (.GeneratorExp elt [⟨.Name x px, iter, [], 0⟩] scope gpos) 0 (.ref it) .none Z.env).onRaise (leaving Z.env)) [] s
    rw [compTurn_gen, Sem.onRaise_eq_wrap]
    refine seg_bind_wrap (wpAny_standAt ?_)
    rcases turn i H hp with ⟨stop, qe⟩ | ⟨_, hi, _⟩
    · refine seg_bind_wrap ?_
      rw [over_comp, hA]
      refine thn (T.done Z rfl rfl rfl hcalm i pg s τ H _ I hf ht stop) fun r s4 hr => ?_
      obtain ⟨er, I4⟩ := hr
      subst er
      exact seg_end (.ok .next) (.inl ⟨.inr rfl, i, hin, H, pg, hpg, I4, qe⟩)
    · omega
  | succ n ih =>
    intro i s₀ s H pg hin hpg I ht hf hp
    show Seg _ B _ _ _ s₀ _ ((compTurn (.GeneratorExp elt [⟨.Name x px, iter, [], 0⟩] scope gpos) 0 (.ref it) .none Z.env).onRaise (leaving Z.env)) [] s
    rw [compTurn_gen, Sem.onRaise_eq_wrap]
    refine seg_bind_wrap (wpAny_standAt ?_)
    rcases turn i H hp with ⟨stop, qe⟩ | ⟨go, hi, step⟩
    · refine seg_bind_wrap ?_
      rw [over_comp, hA]
      refine thn (T.done Z rfl rfl rfl hcalm i pg s τ H _ I hf ht stop) fun r s4 hr => ?_
      obtain ⟨er, I4⟩ := hr
      subst er
      exact seg_end (.ok .next) (.inl ⟨.inr rfl, i, hin, H, pg, hpg, I4, qe⟩)
    · refine seg_bind_wrap ?_
      rw [over_comp, hA]
      refine thn (T.item Z rfl rfl rfl hcalm i pg s τ H _ I hf ht go) fun r s4 hr => ?_
      obtain ⟨u, er, h4⟩ := hr
      subst er
      refine seg_bind_wrap ?_
      rw [over_comp, hA]
      refine thn h4 fun _ s5 h5 => ?_
      obtain ⟨y, H5, I5, r5, y5, st5, fr5⟩ := h5
      have stat : ∀ b ∈ fp, FpOk Z pg H5 b := fun b hb => ⟨fr5 b hb, (hf b hb).2⟩
      have I5' := I5.pinned stat (T.obj _ _ st5)
      refine seg_bind_wrap ?_
      rw [over_comp, hA]
      refine wpAny_assign_Name (store_ok I5' hnd h0 (.inl hl) r5 (fun s6 I6 => ?_) (.inr hl))
      refine seg_bind_wrap ?_
      rw [List.forIn_nil]
      refine wpAny_pure ?_
      simp only [if_true]
      have hy : ∀ v, yieldOut Z.env v = yieldValue v := fun v => by simp only [yieldOut, hco, Bool.false_eq_true, if_false]
      simp only [hy]
      rw [Sem.bind_eq_wrap', Sem.bind_eq_wrap', Sem.wrap_wrap, Sem.wrap_wrap]
      refine seg_wrap ?_
      rw [over_comp, hA]
      refine wpAny_mono (hel.run _ s6 _ H5 _ I6 (step y H5 y5)) (fun z s7 h7 => ?_) fun e s7 z => absurd z (hxe e s7)
      obtain ⟨v7, H7, I7, r7, q7⟩ := h7
      have pin7 : ∀ b ∈ fp, ∀ o, s5.heap.get? b = some o → s7.heap.get? b = some o ∧ H7 b = none := fun b hb o e => by
        have q := I7.pin (b, o) (List.mem_append_right _ (List.mem_append_right _ (mem_pinsAt hb e)))
        exact ⟨q.1, q.2.1⟩
      have t7 : tn (i + 1) s7.heap := T.keep _ _ _ st5 fun b hb o e => (pin7 b hb o e).1
      have f7 : ∀ b ∈ fp, FpOk Z pg H7 b := fun b hb => by
        obtain ⟨o, e, _⟩ := T.obj _ _ st5 b hb
        exact ⟨(pin7 b hb o e).2, (hf b hb).2⟩
      have J7 : Inv Z pg τ H7 s7 := (I7.unpinned).weak (by rw [List.length_set]) fun j v e => by
        by_cases hj : j = 0
        · subst hj
          rw [hτ] at e
          cases e
        · rw [List.getElem?_set_ne (Ne.symm hj)]
          exact e
      refine seg_at (seg_yield rfl rfl rfl ?_)
      refine ⟨i, v7, H7, pg, by omega, r7, hpg, J7, t7, f7, q7, fun s8 pg8 g8 I8 t8 f8 p8 => ?_⟩
      exact seg_again rfl (ih (i + 1) s8 s8 H7 pg8 (by omega) g8 I8 t8 f8 p8)
/-- .. from the start -/
theorem gBegin {Z : Cx} {B : Around} {it : Addr} {fp : List Addr} {tn : Nat → Heap → Prop} {J : It} {elt iter : Expr} {x : Str} {px gpos : Pos} {scope : Scope} {τ : L2.St} {te : TE} {N : Nat} {Pv : Nat → Hp → Prop} {Y : Nat → V → Hp → Prop} {Qe : Nat → Hp → Prop} {PG : Nat → List (Addr × Obj) → Prop}
    (hA : B.deeper Z.env = Z.A) (hcalm : Z.calm = true) (T : Turn Z.prog Z.w Z.K (.Name x px) J fp it tn) (hel : PE Z elt te) (hxe : ∀ e s, ¬ Z.xe e s)
    (hnd : Z.N.Nodup) (h0 : Z.N[0]? = some x) (hl : Z.env.scope.names.lookup x = some .local) (hco : Z.env.scope.isCoroutine = false) (hτ : τ[0]? = some none) (turn : Turns J N τ te Pv Y Qe)
    (s₀ s : Shared) (H : Hp) (pg : List (Addr × Obj)) (hpg : PG 0 pg) (I : Inv Z pg τ H s) (ht : tn 0 s.heap) (hf : ∀ b ∈ fp, FpOk Z pg H b) (hp : Pv 0 H) :
    Seg (model Z.prog Z.w) B (GR Z τ N PG Qe) (GY Z τ fp tn N PG Pv Y) N s₀ (.compStart (.GeneratorExp elt [⟨.Name x px, iter, [], 0⟩] scope gpos) 0 (.ref it) .none Z.env)
        ((model Z.prog Z.w).den (.compStart (.GeneratorExp elt [⟨.Name x px, iter, [], 0⟩] scope gpos) 0 (.ref it) .none Z.env)) [] s := by
  have loop := gLoop (iter := iter) (scope := scope) (gpos := gpos) hA hcalm T hel hxe hnd h0 hl hco hτ turn N 0 s₀ s H pg (Nat.zero_add _) hpg I ht hf hp
  show Seg _ B _ _ _ s₀ _ ((compStart (.GeneratorExp elt [⟨.Name x px, iter, [], 0⟩] scope gpos) 0 (.ref it) .none Z.env).onRaise (leaving Z.env)) [] s
  unfold compStart
  rw [Sem.onRaise_eq_wrap]
  show Seg _ B _ _ _ s₀ _ ((ask >>= _).wrap _ _ _ _) [] s
  refine seg_bind_wrap (wpAny_askSetting ?_)
  split
  · exact seg_again rfl loop
  · first
      | exact seg_bind_wrap (wpAny_rule (seg_bind_wrap (wpAny_standAt (seg_bind_wrap (T.self _ 0 s _ _ ht (seg_again rfl loop))))))
      | (refine seg_bind_wrap (wpAny_rule ?_); show Seg _ B _ _ _ s₀ _ ((standAt iter.pos >>= _).wrap _ _ _ _) [] s; exact seg_bind_wrap (wpAny_standAt (seg_bind_wrap (T.self _ 0 s _ _ ht (seg_again rfl loop)))))
end GX
namespace GX
open PySem PySem.Spec PyProof.Rows L2 GenW
theorem inv_gens {X : Cx} {pins : List (Addr × Obj)} {σ : L2.St} {H : Hp} {s : Shared} {g' : Array GenState} (I : Inv X pins σ H s) (hg : AllBare g') : Inv X pins σ H { s with gens := g' } :=
  ⟨I.ok, I.os, hg, I.base, I.loc, I.cell, I.free, I.freeC, I.pin, I.hok, I.len⟩
theorem inv_set {X : Cx} {pins : List (Addr × Obj)} {σ : L2.St} {H : Hp} {s : Shared} {g : Nat} {y : GenState} (I : Inv X pins σ H s) (hy : y.bare = true) : Inv X pins σ H (s.setGen g y) :=
  inv_gens I (allBare_setGen I.bare hy)
section
variable {Z : Cx} {A : Around} {a : Addr} {g : Nat} {τ : L2.St} {fp : List Addr} {tn : Nat → Heap → Prop} {N : Nat} {PG : Nat → List (Addr × Obj) → Prop} {Pv : Nat → Hp → Prop} {Y : Nat → V → Hp → Prop} {Qe : Nat → Hp → Prop} {Qf : Hp → Prop} {R : Result → Shared → Prop}
/-- the generator sleeps, n values at most are to come -/
def Sleeps (Z : Cx) (A : Around) (g : Nat) (τ : L2.St) (fp : List Addr) (tn : Nat → Heap → Prop) (N : Nat) (PG : Nat → List (Addr × Obj) → Prop) (Pv : Nat → Hp → Prop) (Y : Nat → V → Hp → Prop) (Qe : Nat → Hp → Prop) (n : Nat) (s : Shared) : Prop :=
  ∃ gs, s.gens[g]? = some gs ∧ gs.Goes (model Z.prog Z.w) A.in1.in1 (GR Z τ N PG Qe) (GY Z τ fp tn N PG Pv Y) n (.send .none) (s.setGen g .running)
/-- one step of whoever draws -/
theorem gNext {n : Nat} {s : Shared} {E : Value → Shared → Prop} {Q : Option Value → Shared → Prop} (hh : A.handled = none) (hd : A.depth < recursionLimit) (hgen : ∀ (s : Shared) H pg, Inv Z pg τ H s → s.heap.IsGen a g)
    (hT : ∀ i h h', tn i h → (∀ b ∈ fp, ∀ o, h.get? b = some o → h'.get? b = some o) → tn i h')
    (I : ∃ H pg, Inv Z pg τ H s) (hs : Sleeps Z A g τ fp tn N PG Pv Y Qe n s)
    (hY : ∀ (i : Nat) (y : V) (v : Value) (H : Hp) (pg : List (Addr × Obj)) (s1 : Shared), i + 1 + (n - 1) = N → RelV y v → PG i pg → Inv Z pg τ H s1 → Y i y H → (∀ b ∈ fp, FpOk Z pg H b) →
      (∀ s2 pg2, s2.gens = s1.gens → PG (i + 1) pg2 → Inv Z pg2 τ H s2 → (∀ b ∈ fp, ∀ o, s1.heap.get? b = some o → s2.heap.get? b = some o) → (∀ b ∈ fp, FpOk Z pg2 H b) → Pv (i + 1) H → ∃ m, m + 1 = n ∧ Sleeps Z A g τ fp tn N PG Pv Y Qe m s2) → Q (some v) s1)
    (hE : ∀ i s1, i + n = N → GF Z τ PG Qe i s1 → Q none s1) :
    wpAny (model Z.prog Z.w) A.in1 (pyNext (.ref a)) Q E s := by
  obtain ⟨H, pg, I⟩ := I
  obtain ⟨gs, hgs, hgo⟩ := hs
  have hgl : g < s.gens.size := (Array.getElem?_eq_some_iff.mp hgs).1
  refine wpAny_gsz (n := g + 1) hgl ?_
  refine next_genG (F := fun n _ s1 => ∃ i, i + n = N ∧ GF Z τ PG Qe i s1) (Er := fun _ _ => False) hh I.nolimit hd (hgen _ _ _ I) hgs hgo (fun v s1 gs' hb hv hsz => ?_) (fun s1 hp h' hk hsz => ?_) fun e s1 he => he.elim
  · obtain ⟨i, y, H1, pg1, hn, r, g1, I1, t1, f1, q1, wake⟩ := hv
    have hsz1 : g < s1.gens.size := by
      have q : (s1.setGen g gs').gens.size = s1.gens.size := setGen_size _ _ _
      have hz : g + 1 ≤ (s1.setGen g gs').gens.size := hsz
      omega
    refine hY i y v H1 pg1 _ hn r g1 (inv_set I1 hb) q1 f1 (fun s2 pg2 eg g2 I2 hk2 f2 p2 => ?_)
    cases n with
    | zero => exact (wake s2 pg2 g2 I2 (hT _ _ _ t1 hk2) f2 p2).elim
    | succ m =>
      refine ⟨m, rfl, gs', ?_, ?_⟩
      · rw [eg]
        exact setGen_at hsz1
      · exact wake (s2.setGen g .running) pg2 g2 (inv_set I2 rfl) (hT _ _ _ t1 hk2) f2 p2
  · obtain ⟨i, hi, H1, pg1, g1, I1, q1⟩ := hp
    refine hE i _ hi ⟨H1, pg1, g1, ?_, q1⟩
    exact (inv_set I1 rfl).kept (t' := (s1.setGen g .finished).toks) hk
theorem allLoop (hh : A.handled = none) (hd : A.depth < recursionLimit) (hgen : ∀ (s : Shared) H pg, Inv Z pg τ H s → s.heap.IsGen a g)
    (hT : ∀ i h h', tn i h → (∀ b ∈ fp, ∀ o, h.get? b = some o → h'.get? b = some o) → tn i h')
    (hY : ∀ i y H, Y i y H → ∃ b, y = .bl b ∧ (b = true → Pv (i + 1) H) ∧ (b = false → Qf H))
    (hend : ∀ i s' H pg, Inv Z pg τ H s' → Qe i H → R (.ok (.ret (.bool true))) s') (hbrk : ∀ s' H pg, Inv Z pg τ H s' → Qf H → R (.ok (.ret (.bool false))) s') :
    ∀ (n : Nat) (s : Shared), (∃ H pg, Inv Z pg τ H s) → Sleeps Z A g τ fp tn N (fun _ pg => pg = []) Pv Y Qe n s → codeAny (model Z.prog Z.w) A (.builtin "all.loop" ⟨[.ref a], []⟩) R s := by
  intro n
  induction n using Nat.strongRecOn with
  | ind n ih =>
    intro s I hs
    refine codeAny_builtin F.entry_all_loop ?_
    rw [Around.under_plainId F.plain_all_loop _]
    show wpAny _ A.in1 (pyNext (.ref a) >>= _) _ _ s
    refine wpAny_bind (gNext hh hd hgen hT I hs (fun i y v H pg s1 _ r g1 I1 q1 f1 wake => ?_) fun i s1 _ h1 => ?_)
    · obtain ⟨b, ey, h1, h2⟩ := hY i y H q1
      subst ey
      obtain rfl : v = Value.bool b := r
      refine wpAny_bind (wpAny_holding (wpAny_truthy_bool ?_))
      refine wpAny_bind (wpAny_letGo ?_)
      cases b with
      | true =>
        simp only [if_true]
        obtain ⟨m, hm, sl⟩ := wake s1 pg rfl g1 I1 (fun _ _ _ e => e) f1 (h1 rfl)
        exact wpAny_pure ⟨plainId_quiet F.plain_all_loop _, ih m (by omega) s1 ⟨H, pg, I1⟩ sl⟩
      | false =>
        simp only [Bool.false_eq_true, if_false]
        exact wpAny_bind (wpAny_rule (wpAny_pure (hbrk _ H pg I1 (h2 rfl))))
    · obtain ⟨H1, pg1, _, I1, q1⟩ := h1
      exact wpAny_bind (wpAny_rule (wpAny_pure (hend i _ H1 pg1 I1 q1)))
theorem anyLoop (hh : A.handled = none) (hd : A.depth < recursionLimit) (hgen : ∀ (s : Shared) H pg, Inv Z pg τ H s → s.heap.IsGen a g)
    (hT : ∀ i h h', tn i h → (∀ b ∈ fp, ∀ o, h.get? b = some o → h'.get? b = some o) → tn i h')
    (hY : ∀ i y H, Y i y H → ∃ b, y = .bl b ∧ (b = false → Pv (i + 1) H) ∧ (b = true → Qf H))
    (hend : ∀ i s' H pg, Inv Z pg τ H s' → Qe i H → R (.ok (.ret (.bool false))) s') (hbrk : ∀ s' H pg, Inv Z pg τ H s' → Qf H → R (.ok (.ret (.bool true))) s') :
    ∀ (n : Nat) (s : Shared), (∃ H pg, Inv Z pg τ H s) → Sleeps Z A g τ fp tn N (fun _ pg => pg = []) Pv Y Qe n s → codeAny (model Z.prog Z.w) A (.builtin "any.loop" ⟨[.ref a], []⟩) R s := by
  intro n
  induction n using Nat.strongRecOn with
  | ind n ih =>
    intro s I hs
    refine codeAny_builtin F.entry_any_loop ?_
    rw [Around.under_plainId F.plain_any_loop _]
    show wpAny _ A.in1 (pyNext (.ref a) >>= _) _ _ s
    refine wpAny_bind (gNext hh hd hgen hT I hs (fun i y v H pg s1 _ r g1 I1 q1 f1 wake => ?_) fun i s1 _ h1 => ?_)
    · obtain ⟨b, ey, h1, h2⟩ := hY i y H q1
      subst ey
      obtain rfl : v = Value.bool b := r
      refine wpAny_bind (wpAny_holding (wpAny_truthy_bool ?_))
      refine wpAny_bind (wpAny_letGo ?_)
      cases b with
      | true =>
        simp only [if_true]
        exact wpAny_bind (wpAny_rule (wpAny_pure (hbrk _ H pg I1 (h2 rfl))))
      | false =>
        simp only [Bool.false_eq_true, if_false]
        obtain ⟨m, hm, sl⟩ := wake s1 pg rfl g1 I1 (fun _ _ _ e => e) f1 (h1 rfl)
        exact wpAny_pure ⟨plainId_quiet F.plain_any_loop _, ih m (by omega) s1 ⟨H, pg, I1⟩ sl⟩
    · obtain ⟨H1, pg1, _, I1, q1⟩ := h1
      exact wpAny_bind (wpAny_rule (wpAny_pure (hend i _ H1 pg1 I1 q1)))
/-- an untracked thing of the consumer's turns -/
theorem pinTurn {S : Addr} {o o' : Obj} {H : Hp} {s : Shared} {h' : Heap} {t' : Nat} (I : Inv Z [(S, o)] τ H s) (hS : Z.s_0.heap.objs.size ≤ S) (hc : ∀ y c, Z.env.cells.lookup y = some c → c ≠ S) (hp : ∀ p ∈ Z.pn, p.1 ≠ S)
    (k : ∀ b u, b ≠ S → s.heap.get? b = some u → h'.get? b = some u) (e : h'.get? S = some o') (ho : ∀ v, o'.data ≠ .cell v) : Inv Z [(S, o')] τ H { s with heap := h', toks := t' } := by
  obtain ⟨_, n0, nL, nF, _⟩ := I.pin (S, o) (List.mem_append_right _ List.mem_cons_self)
  have n0 : H S = none := n0
  have I0 : Inv Z [] τ H s := I.pins_of fun p hp => absurd hp (by simp)
  have nc : ∀ b, b ∉ [S] → b ≠ S := fun b hb z => hb (by rw [z]; exact List.mem_singleton.mpr rfl)
  have nt : ∀ b u, H b = some u → b ≠ S := fun b u q hb => by rw [hb, n0] at q; cases q
  have J : Inv Z [] τ H { s with heap := h', gens := s.gens, drawn := s.drawn, toks := t' } := by
    refine I0.step (g' := s.gens) (d' := s.drawn) (t' := t') (ch := [S]) (fun b hb => ?_) (fun b ob _ _ hc q _ => k b ob (nc b hc) q) (fun b ob _ _ hc q _ => ⟨ob.slots, k b ob (nc b hc) q⟩) (fun _ _ _ _ n => n) (fun b ob hc q => ⟨ob, k b ob (nc b hc) q⟩)
      (fun _ _ q => q) (fun _ _ _ q => q) (fun b ps q => ⟨#[], by rw [q]; simp⟩) (fun m hm => ?_) (fun b u q => ?_) I.bare
    · rw [List.mem_singleton.mp hb]
      exact ⟨.inr hS, nL, hc, fun p hq => hp p (by simpa using hq)⟩
    · obtain ⟨ob, es, ep, ho, r⟩ := hm
      exact ⟨ob, es, ep, k _ ob (Ne.symm nL) ho, r⟩
    · refine (I0.hok b u q).stay (fun c v hc y => k c v ?_ y) (fun _ y => y) fun _ _ y => y
      rcases hc with y | y
      · rw [y]; exact nt b u q
      · exact nt c _ y
  refine J.pins_of fun p hq => ?_
  rw [List.mem_singleton.mp hq]
  exact ⟨e, n0, nL, nF, ho⟩
abbrev accObj (c : Int) (t : Tok) (n : Nat) : Obj := { cls := .type "list", dict := none, data := .seq #[.int c t] n, slots := #[] }
theorem sumLoop {S : Addr} {val : Nat → Int} (hh : A.handled = none) (hd : A.depth < recursionLimit) (hgen : ∀ (s : Shared) H pg, Inv Z pg τ H s → s.heap.IsGen a g)
    (hT : ∀ i h h', tn i h → (∀ b ∈ fp, ∀ o, h.get? b = some o → h'.get? b = some o) → tn i h')
    (hS : Z.s_0.heap.objs.size ≤ S) (hc : ∀ y c, Z.env.cells.lookup y = some c → c ≠ S) (hp : ∀ p ∈ Z.pn, p.1 ≠ S)
    (hfit : ∀ j, j < N → InLong (val j) ∧ InLong (preSum val (j + 1))) (hY : ∀ i y H, Y i y H → y = .int (val i) ∧ Pv (i + 1) H)
    (hend : ∀ i s' H pg t', Inv Z pg τ H s' → Qe i H → R (.ok (.ret (.int (preSum val i) t'))) s') :
    ∀ (n : Nat) (s : Shared) (i : Nat) (t : Tok) (c : Nat), i + n = N → (∃ H, Inv Z [(S, accObj (preSum val i) t c)] τ H s) →
      Sleeps Z A g τ fp tn N (fun i pg => ∃ t c, pg = [(S, accObj (preSum val i) t c)]) Pv Y Qe n s → codeAny (model Z.prog Z.w) A (.builtin "sum.loop" ⟨[.ref a, .ref S, rawInt 0, rawInt 0], []⟩) R s := by
  intro n
  induction n with
  | zero =>
    intro s i t c hin I hs
    obtain ⟨H, I⟩ := I
    have eS : s.heap.get? S = some (accObj (preSum val i) t c) := (I.pin (S, _) (List.mem_append_right _ List.mem_cons_self)).1
    refine codeAny_builtin F.entry_sum_loop ?_
    rw [Around.under_plainId F.plain_sum_loop _]
    show wpAny _ A.in1 (seqItems? (.ref S) >>= _) _ _ s
    refine wpAny_bind (wpAny_seqItems eS rfl ?_)
    show wpAny _ A.in1 (tryCatch (pyNext (.ref a)) _ >>= _) _ _ s
    refine wpAny_bind (wpAny_tryCatch (gNext hh hd hgen hT ⟨H, _, I⟩ hs (fun j y v H1 pg s1 hn r g1 I1 q1 f1 wake => ?_) fun j s1 hj h1 => ?_))
    · obtain ⟨ey, p1⟩ := hY j y H1 q1
      obtain ⟨t1, c1, e1⟩ := g1
      subst e1
      -- nothing may come any more
      have e2 : s1.heap.get? S = some (accObj (preSum val j) t1 c1) := (I1.pin (S, _) (List.mem_append_right _ List.mem_cons_self)).1
      have nS : ∀ b ∈ fp, b ≠ S := fun b hb z => (f1 b hb).2.2.2.2.2 (S, _) (List.mem_append_right _ List.mem_cons_self) z.symm
      have J := pinTurn (o' := accObj (preSum val (j + 1)) t1 c1) (h' := s1.heap.update S (fun _ => accObj (preSum val (j + 1)) t1 c1)) (t' := s1.toks) I1 hS hc hp (fun b u hb q => (Heap.get?_update_other _ _ (Ne.symm hb)).trans q)
        (Heap.get?_update_self _ e2 rfl) (fun v z => by cases z)
      obtain ⟨m, hm, _⟩ := wake { s1 with heap := s1.heap.update S (fun _ => accObj (preSum val (j + 1)) t1 c1) } [(S, accObj (preSum val (j + 1)) t1 c1)] rfl ⟨t1, c1, rfl⟩ J
        (fun b hb o q => (Heap.get?_update_other _ _ (Ne.symm (nS b hb))).trans q) (fun b hb => ⟨(f1 b hb).1, (f1 b hb).2.1, (f1 b hb).2.2.1, (f1 b hb).2.2.2.1, (f1 b hb).2.2.2.2.1, fun p hq => by
          rcases List.mem_append.mp hq with z | z
          · exact (f1 b hb).2.2.2.2.2 p (List.mem_append_left _ z)
          · rw [List.mem_singleton.mp z]; exact Ne.symm (nS b hb)⟩) p1
      exact absurd hm (Nat.succ_ne_zero m)
    · obtain ⟨H1, pg1, _, I1, q1⟩ := h1
      have ej : j = i := by omega
      subst ej
      exact wpAny_pure (hend j s1 H1 pg1 t I1 q1)
  | succ n ih =>
    intro s i t c hin I hs
    obtain ⟨H, I⟩ := I
    have eS : s.heap.get? S = some (accObj (preSum val i) t c) := (I.pin (S, _) (List.mem_append_right _ List.mem_cons_self)).1
    refine codeAny_builtin F.entry_sum_loop ?_
    rw [Around.under_plainId F.plain_sum_loop _]
    show wpAny _ A.in1 (seqItems? (.ref S) >>= _) _ _ s
    refine wpAny_bind (wpAny_seqItems eS rfl ?_)
    show wpAny _ A.in1 (tryCatch (pyNext (.ref a)) _ >>= _) _ _ s
    refine wpAny_bind (wpAny_tryCatch (gNext hh hd hgen hT ⟨H, _, I⟩ hs (fun j y v H1 pg s1 hn r g1 I1 q1 f1 wake => ?_) fun j s1 hj h1 => ?_))
    · obtain ⟨ey, p1⟩ := hY j y H1 q1
      subst ey
      obtain ⟨tv, ev⟩ := r
      subst ev
      obtain ⟨t1, c1, e1⟩ := g1
      subst e1
      have ej : j = i := by omega
      subst ej
      have e2 : s1.heap.get? S = some (accObj (preSum val j) t1 c1) := (I1.pin (S, _) (List.mem_append_right _ List.mem_cons_self)).1
      have nS : ∀ b ∈ fp, b ≠ S := fun b hb z => (f1 b hb).2.2.2.2.2 (S, _) (List.mem_append_right _ List.mem_cons_self) z.symm
      obtain ⟨⟨b1, b2⟩, b3, b4⟩ := hfit j (by omega)
      have hok : ((decide (-(2 ^ 63) ≤ val j) && decide (val j < 2 ^ 63)) && (decide (-(2 ^ 63) ≤ preSum val j + val j) && decide (preSum val j + val j < 2 ^ 63))) = true := by
        simp only [preSum] at b3 b4
        simp only [Bool.and_eq_true, decide_eq_true_eq]
        exact ⟨⟨b1, b2⟩, b3, b4⟩
      show wpAny _ A.in1 (if (_ : Bool) = true then (mkInt (preSum val j + val j) >>= _) else _) _ _ _
      split
      · refine wpAny_bind (wpAny_mkInt ?_)
        show wpAny _ A.in1 (updateSeq S (fun _ => #[.int (preSum val j + val j) s1.toks]) >>= _) _ _ _
        refine wpAny_bind (wpAny_updateSeq e2 rfl ?_)
        have e3 := Heap.get?_update_self (Obj.mapSeq (fun _ => #[Value.int (preSum val j + val j) s1.toks])) e2 rfl
        obtain ⟨c2, e4⟩ : ∃ c2, Obj.mapSeq (fun _ => #[Value.int (preSum val j + val j) s1.toks]) (accObj (preSum val j) t1 c1) = accObj (preSum val (j + 1)) s1.toks c2 := ⟨_, rfl⟩
        rw [e4] at e3
        have J := pinTurn (o' := accObj (preSum val (j + 1)) s1.toks c2) (t' := s1.toks + 1) I1 hS hc hp (fun b u hb q => (Heap.get?_update_other _ _ (Ne.symm hb)).trans q) e3 (fun v z => by cases z)
        obtain ⟨m, hm, sl⟩ := wake { s1 with heap := s1.heap.update S (Obj.mapSeq (fun _ => #[Value.int (preSum val j + val j) s1.toks])), toks := s1.toks + 1 } [(S, accObj (preSum val (j + 1)) s1.toks c2)] rfl ⟨_, _, rfl⟩ J
          (fun b hb o q => (Heap.get?_update_other _ _ (Ne.symm (nS b hb))).trans q) (fun b hb => ⟨(f1 b hb).1, (f1 b hb).2.1, (f1 b hb).2.2.1, (f1 b hb).2.2.2.1, (f1 b hb).2.2.2.2.1, fun p hq => by
            rcases List.mem_append.mp hq with z | z
            · exact (f1 b hb).2.2.2.2.2 p (List.mem_append_left _ z)
            · rw [List.mem_singleton.mp z]; exact Ne.symm (nS b hb)⟩) p1
        have em : m = n := by omega
        subst em
        exact wpAny_pure ⟨plainId_quiet F.plain_sum_loop _, ih _ (j + 1) s1.toks c2 (by omega) ⟨H1, J⟩ sl⟩
      · rename_i hneg
        exact absurd hok hneg
    · obtain ⟨H1, pg1, hpg, I1, q1⟩ := h1
      obtain ⟨t1, c1, e1⟩ := hpg
      have ej : j = i := by omega
      subst ej
      exact wpAny_pure (hend j s1 H1 pg1 t I1 q1)
end
end GX
namespace GX
open PySem PySem.Spec PyProof.Rows L2 GenW
theorem room_gen {k : Nat} {X : Cx} {Ng : List Str} {scope : Scope} {code : Value} {s : Shared} {H : Hp} {fp : List Addr} {pn : List (Addr × Obj)} (r : Room (k + 1) X.A) : Room k (gCx X Ng scope code s H fp pn).A :=
  ⟨r.hd, by have := r.dp; show X.A.depth + 1 + 3 * k + 5 < _; omega, by have := r.un; show X.A.units + 1 + 1 + 3 + 16 * k + 200 < _; omega⟩
section
variable {X : Cx} {pins : List (Addr × Obj)} {σ : L2.St} {H : Hp} {s : Shared} {Ng : List Str} {scope : Scope} {x : Str} {cap : List Nat}
theorem gFp {fp : List Addr} {code : Value} {a : Addr} {go : Obj} (S : GS X.N Ng X.env.scope scope x cap) (ok : X.Ok) (I : Inv X pins σ H s) (hfp : ∀ b ∈ fp, FpOk X pins H b ∧ b < s.heap.objs.size) (ha : s.heap.objs.size < a) :
    ∀ b ∈ fp, FpOk (gCx X Ng scope code s H fp [(a, go)]) [] H b := fun b hb => by
  obtain ⟨⟨f1, f2, f3, f4, f5, f6⟩, lt⟩ := hfp b hb
  refine ⟨f1, Nat.ne_of_lt lt, fun hm => ?_, .inl hb, fun y c e => ?_, fun p hp => ?_⟩
  · rcases List.mem_cons.mp (I.stkSub b hm) with z | z
    · exact f2 z
    · exact f3 z
  · have e : (cloFrom X.env.cells scope.names []).lookup y = some c := e
    rcases cloFrom_mem (PySem.mem_of_lookup e) with hm | ⟨q1, q2⟩
    · cases hm
    · obtain ⟨c1, hc⟩ := S.has ok _ q1 rfl
      have hc : X.env.cells.lookup y = some c1 := hc
      rw [hc] at q2
      have e2 : c = c1 := q2
      rw [e2]
      exact f5 y c1 hc
  · have hp' : p ∈ [(a, go)] := by simpa [gCx] using hp
    rw [List.mem_singleton.mp hp']
    exact Nat.ne_of_gt (Nat.lt_trans lt ha)
/-- the run is over: the maker goes on -/
theorem gDone {fp : List Addr} {code : Value} {pn pg : List (Addr × Obj)} {τ : L2.St} {H' : Hp} {s' : Shared} (I : Inv X pins σ H s) (hfp : ∀ b ∈ fp, FpOk X pins H b ∧ b < s.heap.objs.size)
    (J : Inv (gCx X Ng scope code s H fp pn) pg τ H' s') : Inv X pins σ H' s' :=
  I.call' (ch := fp) J.os J.base J.hok J.bare fun b hb => ⟨(hfp b hb).1.2.2.2.1, (hfp b hb).1.2.1, (hfp b hb).1.2.2.2.2.1, (hfp b hb).1.2.2.2.2.2⟩
abbrev genObj (g : Nat) (t1 t2 : Tok) (q : Str) : Obj := { cls := .type "generator", data := .fields #[.int g 0, .str "<genexpr>" t1, .str q t2] }
/-- a generator has been made at a, that has not begun -/
structure Made (X : Cx) (pins : List (Addr × Obj)) (σ : L2.St) (Ng : List Str) (scope : Scope) (cap : List Nat) (elt iter : Expr) (x : Str) (px gpos : Pos) (P : Addr) (J : It) (H1 : Hp) (a : Addr) (s5 : Shared) : Prop where
  ex : ∃ (s3 : Shared) (H3 : Hp) (code : Value) (it : Addr) (fp : List Addr) (tn : Nat → Heap → Prop) (go : Obj) (g : Nat), GxR.Tabbed P H1 H3 ∧ Inv X pins σ H3 s3 ∧ (∀ b ∈ fp, FpOk X pins H3 b ∧ b < s3.heap.objs.size) ∧
    Turn X.prog X.w X.K (.Name x px) J fp it tn ∧ tn 0 s5.heap ∧ s3.heap.objs.size < a ∧ a < s5.heap.objs.size ∧ (∀ h : Heap, h.get? a = some go → h.IsGen a g) ∧
    Inv (gCx X Ng scope code s3 H3 fp [(a, go)]) [] (gSt σ cap) H3 s5 ∧ (∀ b ∈ fp, FpOk (gCx X Ng scope code s3 H3 fp [(a, go)]) [] H3 b) ∧
    s5.gens[g]? = some (.fresh (.compStart (.GeneratorExp elt [⟨.Name x px, iter, [], 0⟩] scope gpos) 0 (.ref it) .none (gEnv X scope s3.heap.objs.size code)))
theorem gMake {c P : Addr} {elt iter : Expr} {px gpos : Pos} {wi : TI} {Q' : Value → Shared → Prop} (hroom : X.A.depth < recursionLimit) (hd : X.A.handled = none) (TB : LamX.TabB X.base X.mg c P) (hcode : X.env.code = .ref c) (S : GS X.N Ng X.env.scope scope x cap)
    (hi : PI X (.Name x px) iter wi) (hs : ∀ v, genFold iter X.env v = pure v) {R : It → Hp → Prop} (I : Inv X pins σ H s) (h : wi σ H fun J H1 => GxR.TabG H1 P ∧ R J H1)
    (hQ : ∀ J H1 a s5, R J H1 → Made X pins σ Ng scope cap elt iter x px gpos P J H1 a s5 → Q' (.ref a) s5) :
    wpAny (model X.prog X.w) X.A (eval (.GeneratorExp elt [⟨.Name x px, iter, [], 0⟩] scope gpos) X.env) Q' X.xe s := by
  refine wpAny_GeneratorExp_make S.co (closure_ok (S.has I.ok)) S.cell S.dot S.kind hroom ?_ hs
  refine thn (hi.run pins s σ H _ I h) fun v s1 h1 => thn h1 fun itv s2 h2 => ?_
  obtain ⟨it, fp, tn, J, H2, e, I2, T, st2, f2, ⟨ps, hP, ht⟩, q2⟩ := h2
  subst e
  refine ⟨I2.nolimit, ?_⟩
  have hPs : s2.heap.get? P = some { cls := .none, data := .fields ps } := I2.hok P _ hP
  have fpLt : ∀ b ∈ fp, b < s2.heap.objs.size := fun b hb => by
    obtain ⟨o, e, _⟩ := T.obj _ _ st2 b hb
    exact Heap.lt_size e
  have fpP : ∀ b ∈ fp, b ≠ P := fun b hb z => by
    have q := (f2 b hb).1
    rw [z, hP] at q
    cases q
  have cd : PySem.W.CodeHd s2.heap c P := TB.code.keeps I2.bk
  have cont : ∀ (code : Value) (h3 : Heap) (tk : Nat) (more : Array Value), Heap.ExtBut P s2.heap h3 → s2.heap.objs.size ≤ h3.objs.size → h3.get? P = some { cls := .none, data := .fields (ps ++ more) } → TriplesOk (ps ++ more).toList →
      wpAny (model X.prog X.w) X.A (builtinsFor X.env.globals X.env.builtins) (fun bi s₄ => ∀ h', h'.Ns s₄.heap.objs.size (fun y => if y = ".0" then some (.ref it) else none) → Heap.SameBut s₄.heap.objs.size (s₄.heap.push { cls := .type "frame", data := .dict #[] }) h' →
        Q' (.ref h'.objs.size) { s₄ with
            gens := s₄.gens.push (.fresh (.compStart (.GeneratorExp elt [⟨.Name x px, iter, [], 0⟩] scope gpos) 0 (.ref it) .none (genEnv scope (cloFrom X.env.cells scope.names []) s₄.heap.objs.size code bi X.env))),
            toks := s₄.toks + 1 + 1 + 1,
            heap := h'.push { cls := .type "generator", data := .fields #[.int s₄.gens.size 0, .str "<genexpr>" (s₄.toks + 1), .str (X.env.qual ++ "<genexpr>") (s₄.toks + 1 + 1)] } }) X.xe { s2 with heap := h3, toks := tk } := by
    intro code h3 tk more hx hsz hP3 ht3
    obtain ⟨bm, ob, e1, e2, e3, e4, e5, e6, e7, e8⟩ := TB.bm
    have keep3 : ∀ b u, b ≠ P → s2.heap.get? b = some u → h3.get? b = some u := fun b u hb e => hx b u hb e
    refine wpAny_builtinsFor (m := X.mg) (by rw [I2.ok.glob]; exact (I2.mod.glob.keeps I2.bk).extBut hx TB.gP) e1 e2 (keep3 _ _ e4 (I2.bk _ _ e5)) e6 e7 e8 ?_
    intro h' hn' hs'
    have I3 : Inv X pins σ (upd H2 P (.tbl (ps ++ more))) { s2 with heap := h3, toks := tk } :=
      GxR.inv_tab (g' := s2.gens) (d' := s2.drawn) I2 hP (fun b u hb e => keep3 b u hb e) hP3 I2.bare
    have tab : GxR.Tabbed P H2 (upd H2 P (.tbl (ps ++ more))) := ⟨⟨ps ++ more, upd_same, ht3⟩, fun b hb => upd_ne hb⟩
    have f3 : ∀ b ∈ fp, FpOk X pins (upd H2 P (.tbl (ps ++ more))) b ∧ b < h3.objs.size := fun b hb => ⟨⟨by rw [upd_ne (fpP b hb)]; exact (f2 b hb).1, (f2 b hb).2⟩, Nat.lt_of_lt_of_le (fpLt b hb) hsz⟩
    have hsz' : h'.objs.size = h3.objs.size + 1 := by
      have q := hs'.1
      rw [q, Heap.size_push]
    have keep' : ∀ b o, h3.get? b = some o → h'.get? b = some o := fun b o e => hs'.extBut b o (Nat.ne_of_lt (Heap.lt_size e)) (Heap.get?_push_of_some _ e)
    have keep5 : ∀ b o, h3.get? b = some o → (h'.push (genObj s2.gens.size (tk + 1) (tk + 1 + 1) (X.env.qual ++ "<genexpr>"))).get? b = some o := fun b o e => Heap.get?_push_of_some _ (keep' b o e)
    have lt : h3.objs.size < h'.objs.size := by omega
    refine hQ J H2 h'.objs.size _ q2 ⟨{ s2 with heap := h3, toks := tk }, upd H2 P (.tbl (ps ++ more)), code, it, fp, tn, genObj s2.gens.size (tk + 1) (tk + 1 + 1) (X.env.qual ++ "<genexpr>"), s2.gens.size, tab, I3, f3, T, ?_, lt, ?_, ?_, ?_, ?_, ?_⟩
    · exact T.keep _ _ _ st2 fun b hb o e => keep5 b o (keep3 b o (fpP b hb) e)
    · show h'.objs.size < (h'.push _).objs.size
      rw [Heap.size_push]
      exact Nat.lt_succ_self _
    · intro h e
      exact ⟨_, _, _, e, rfl, rfl, rfl⟩
    · exact gStart (it := .ref it) I3 hd S f3 (hn'.push _) keep5 (Heap.get?_push_size _ rfl) lt (fun v z => by cases z) (I2.bare.push rfl)
    · exact gFp S I2.ok I3 f3 lt
    · exact Array.getElem?_push_size ..
  cases hf : codeAmong gpos ps.toList with
  | none =>
    refine wpAny_genexprCodeX hcode (cd.code hPs ht) (cd.tab hPs) hf fun c' h' tk hx hge hlt hco' _ htab' _ => ?_
    obtain ⟨o1, vs, f1, tf, fl, tg, inF, tx, tt, op, _, _, _, _, _, _, _, _, _, htr, _⟩ := hco'
    exact cont _ h' tk _ hx (Nat.le_trans hge (Nat.le_of_lt hlt)) htab'.2 htr
  | some cv =>
    refine wpAny_genexprCode_hit hcode (cd.code hPs ht) hf ?_
    exact cont cv s2.heap s2.toks #[] (Heap.ExtBut.refl _ _) (Nat.le_refl _) (by simpa using hPs) (by simpa using ht)
end
/-! ### the rules -/
/-- all(e for x in ..), any(..), sum(..): J the walk, N a bound of the turns -/
def tAllG (P : Addr) (cap : List Nat) (wi : TI) (te : TE) : TE := fun σ H Q => wi σ H fun J H1 => GxR.TabG H1 P ∧ ∀ H2, GxR.Tabbed P H1 H2 → ∃ (N : Nat) (Pv : Nat → Hp → Prop), Pv 0 H2 ∧
  Turns J N (gSt σ cap) te Pv (fun i y H => ∃ b, y = .bl b ∧ (b = true → Pv (i + 1) H) ∧ (b = false → Q (.bl false) H)) (fun _ H => Q (.bl true) H)
def tAnyG (P : Addr) (cap : List Nat) (wi : TI) (te : TE) : TE := fun σ H Q => wi σ H fun J H1 => GxR.TabG H1 P ∧ ∀ H2, GxR.Tabbed P H1 H2 → ∃ (N : Nat) (Pv : Nat → Hp → Prop), Pv 0 H2 ∧
  Turns J N (gSt σ cap) te Pv (fun i y H => ∃ b, y = .bl b ∧ (b = false → Pv (i + 1) H) ∧ (b = true → Q (.bl true) H)) (fun _ H => Q (.bl false) H)
def tSumG (P : Addr) (cap : List Nat) (wi : TI) (te : TE) : TE := fun σ H Q => wi σ H fun J H1 => GxR.TabG H1 P ∧ ∀ H2, GxR.Tabbed P H1 H2 → ∃ (N : Nat) (val : Nat → Int) (Pv : Nat → Hp → Prop), Pv 0 H2 ∧
  (∀ j, j < N → InLong (val j) ∧ InLong (preSum val (j + 1))) ∧ Turns J N (gSt σ cap) te Pv (fun i y H => y = .int (val i) ∧ Pv (i + 1) H) (fun i H => Q (.int (preSum val i)) H)
section
variable {X : Cx} {c P : Addr} {elt iter : Expr} {x : Str} {px p pos gpos : Pos} {scope : Scope} {Ng : List Str} {cap : List Nat} {wi : TI} {te : TE} {k : Nat}
theorem pe_allG (hr : Room k X.A) (hg : Gl X "all") (hm : X.mg "all" = none) (TB : LamX.TabB X.base X.mg c P) (hcode : X.env.code = .ref c) (S : GS X.N Ng X.env.scope scope x cap) (hi : PI X (.Name x px) iter wi)
    (hel : ∀ (code : Value) (s : Shared) (H : Hp) (fp : List Addr) (pn : List (Addr × Obj)), PE (gCx X Ng scope code s H fp pn) elt te) (hs : ∀ v, genFold iter X.env v = pure v := by intro _; rfl) (hb : bootBuiltins "all" = some (.builtin "all") := by decide +kernel)
    (he : starEach [.GeneratorExp elt [⟨.Name x px, iter, [], 0⟩] scope gpos] X.env = (false, eval (.GeneratorExp elt [⟨.Name x px, iter, [], 0⟩] scope gpos) X.env) :: starEach [] X.env := by rfl) :
    PE X (.Call (.Name "all" p) [.GeneratorExp elt [⟨.Name x px, iter, [], 0⟩] scope gpos] [] pos) (tAllG P cap wi te) := by
  refine ⟨fun pins s σ H Q I h => ?_⟩
  refine wpAny_Call_Name_kw (ld_blt I hg hm hb ?_)
  refine PyProof.Rows.callWith_builtin1 ?_ he (by rfl)
  rw [he]
  show wpAny _ _ (spliced ((false, eval (.GeneratorExp elt [⟨.Name x px, iter, [], 0⟩] scope gpos) X.env) :: backTo pos (starEach [] X.env))) _ _ s
  refine Calls.spliced_cons (gMake hr.depth hr.hd TB hcode S hi hs I h fun J H1 a s5 hR hM => ?_)
  refine Calls.spliced_nil ?_
  obtain ⟨s3, H3, code, it, fp, tn, go, g, tab, I3, f3, T, t5, la, la2, hgen, I5, f5, hg5⟩ := hM.ex
  obtain ⟨N, Pv, p0, turn⟩ := hR H3 tab
  have gen : ∀ (s : Shared) (H : Hp) (pg : List (Addr × Obj)), Inv (gCx X Ng scope code s3 H3 fp [(a, go)]) pg (gSt σ cap) H s → s.heap.IsGen a g := fun s H pg J => hgen _ (J.pin (a, go) (List.mem_append_left _ List.mem_cons_self)).1
  refine call_function_tree F.kind_all F.plain_all F.entry_all (F.args_all1 _) ?_
  unfold Builtin.«all»
  refine wpAny_bind (m := oneArg "all" _) (wpAny_pure ?_)
  refine wpAny_bind (wpAny_pyIter_gen (gen _ _ _ I5) ?_)
  refine wpAny_pure ⟨plainId_quiet F.plain_all_loop _, ?_⟩
  refine allLoop (Z := gCx X Ng scope code s3 H3 fp [(a, go)]) (Qf := fun H => Q (.bl false) H) (Qe := fun _ H => Q (.bl true) H) (Pv := Pv) (N := N) (tn := tn) (fp := fp) (τ := gSt σ cap) hr.hd hr.depth gen T.keep (fun i y H q => q)
    (fun i s' H pg J q => ⟨.bl true, H, gDone I3 f3 J, rfl, q⟩) (fun s' H pg J q => ⟨.bl false, H, gDone I3 f3 J, rfl, q⟩) N s5 ⟨H3, [], I5⟩ ⟨_, hg5, rfl, ?_⟩
  exact gBegin (Z := gCx X Ng scope code s3 H3 fp [(a, go)]) rfl rfl T (hel _ _ _ _ _) (fun _ _ z => z) S.nd S.hd S.loc S.co rfl turn _ _ H3 [] rfl (inv_set I5 rfl) t5 f5 p0
theorem pe_anyG (hr : Room k X.A) (hg : Gl X "any") (hm : X.mg "any" = none) (TB : LamX.TabB X.base X.mg c P) (hcode : X.env.code = .ref c) (S : GS X.N Ng X.env.scope scope x cap) (hi : PI X (.Name x px) iter wi)
    (hel : ∀ (code : Value) (s : Shared) (H : Hp) (fp : List Addr) (pn : List (Addr × Obj)), PE (gCx X Ng scope code s H fp pn) elt te) (hs : ∀ v, genFold iter X.env v = pure v := by intro _; rfl) (hb : bootBuiltins "any" = some (.builtin "any") := by decide +kernel)
    (he : starEach [.GeneratorExp elt [⟨.Name x px, iter, [], 0⟩] scope gpos] X.env = (false, eval (.GeneratorExp elt [⟨.Name x px, iter, [], 0⟩] scope gpos) X.env) :: starEach [] X.env := by rfl) :
    PE X (.Call (.Name "any" p) [.GeneratorExp elt [⟨.Name x px, iter, [], 0⟩] scope gpos] [] pos) (tAnyG P cap wi te) := by
  refine ⟨fun pins s σ H Q I h => ?_⟩
  refine wpAny_Call_Name_kw (ld_blt I hg hm hb ?_)
  refine PyProof.Rows.callWith_builtin1 ?_ he (by rfl)
  rw [he]
  show wpAny _ _ (spliced ((false, eval (.GeneratorExp elt [⟨.Name x px, iter, [], 0⟩] scope gpos) X.env) :: backTo pos (starEach [] X.env))) _ _ s
  refine Calls.spliced_cons (gMake hr.depth hr.hd TB hcode S hi hs I h fun J H1 a s5 hR hM => ?_)
  refine Calls.spliced_nil ?_
  obtain ⟨s3, H3, code, it, fp, tn, go, g, tab, I3, f3, T, t5, la, la2, hgen, I5, f5, hg5⟩ := hM.ex
  obtain ⟨N, Pv, p0, turn⟩ := hR H3 tab
  have gen : ∀ (s : Shared) (H : Hp) (pg : List (Addr × Obj)), Inv (gCx X Ng scope code s3 H3 fp [(a, go)]) pg (gSt σ cap) H s → s.heap.IsGen a g := fun s H pg J => hgen _ (J.pin (a, go) (List.mem_append_left _ List.mem_cons_self)).1
  refine call_function_tree F.kind_any F.plain_any F.entry_any (F.args_any1 _) ?_
  unfold Builtin.«any»
  refine wpAny_bind (m := oneArg "any" _) (wpAny_pure ?_)
  refine wpAny_bind (wpAny_pyIter_gen (gen _ _ _ I5) ?_)
  refine wpAny_pure ⟨plainId_quiet F.plain_any_loop _, ?_⟩
  refine anyLoop (Z := gCx X Ng scope code s3 H3 fp [(a, go)]) (Qf := fun H => Q (.bl true) H) (Qe := fun _ H => Q (.bl false) H) (Pv := Pv) (N := N) (tn := tn) (fp := fp) (τ := gSt σ cap) hr.hd hr.depth gen T.keep (fun i y H q => q)
    (fun i s' H pg J q => ⟨.bl false, H, gDone I3 f3 J, rfl, q⟩) (fun s' H pg J q => ⟨.bl true, H, gDone I3 f3 J, rfl, q⟩) N s5 ⟨H3, [], I5⟩ ⟨_, hg5, rfl, ?_⟩
  exact gBegin (Z := gCx X Ng scope code s3 H3 fp [(a, go)]) rfl rfl T (hel _ _ _ _ _) (fun _ _ z => z) S.nd S.hd S.loc S.co rfl turn _ _ H3 [] rfl (inv_set I5 rfl) t5 f5 p0
theorem pe_sumG (hr : Room k X.A) (hg : Gl X "sum") (hm : X.mg "sum" = none) (TB : LamX.TabB X.base X.mg c P) (hcode : X.env.code = .ref c) (S : GS X.N Ng X.env.scope scope x cap) (hi : PI X (.Name x px) iter wi)
    (hel : ∀ (code : Value) (s : Shared) (H : Hp) (fp : List Addr) (pn : List (Addr × Obj)), PE (gCx X Ng scope code s H fp pn) elt te) (hs : ∀ v, genFold iter X.env v = pure v := by intro _; rfl) (hb : bootBuiltins "sum" = some (.builtin "sum") := by decide +kernel)
    (he : starEach [.GeneratorExp elt [⟨.Name x px, iter, [], 0⟩] scope gpos] X.env = (false, eval (.GeneratorExp elt [⟨.Name x px, iter, [], 0⟩] scope gpos) X.env) :: starEach [] X.env := by rfl) :
    PE X (.Call (.Name "sum" p) [.GeneratorExp elt [⟨.Name x px, iter, [], 0⟩] scope gpos] [] pos) (tSumG P cap wi te) := by
  refine ⟨fun pins s σ H Q I h => ?_⟩
  refine wpAny_Call_Name_kw (ld_blt I hg hm hb ?_)
  refine PyProof.Rows.callWith_builtin1 ?_ he (by rfl)
  rw [he]
  show wpAny _ _ (spliced ((false, eval (.GeneratorExp elt [⟨.Name x px, iter, [], 0⟩] scope gpos) X.env) :: backTo pos (starEach [] X.env))) _ _ s
  refine Calls.spliced_cons (gMake hr.depth hr.hd TB hcode S hi hs I h fun J H1 a s5 hR hM => ?_)
  refine Calls.spliced_nil ?_
  obtain ⟨s3, H3, code, it, fp, tn, go, g, tab, I3, f3, T, t5, la, la2, hgen, I5, f5, hg5⟩ := hM.ex
  obtain ⟨N, val, Pv, p0, fit, turn⟩ := hR H3 tab
  have gen : ∀ (s : Shared) (H : Hp) (pg : List (Addr × Obj)), Inv (gCx X Ng scope code s3 H3 fp [(a, go)]) pg (gSt σ cap) H s → s.heap.IsGen a g := fun s H pg J => hgen _ (J.pin (a, go) (List.mem_append_left _ List.mem_cons_self)).1
  refine call_function_tree F.kind_sum F.plain_sum F.entry_sum (F.args_sum1 _) ?_
  unfold Builtin.«sum»
  simp only [List.length_cons, List.length_nil]
  rw [if_neg (by decide)]
  refine wpAny_bind (wpAny_of_eq (show Builtin.Builtins.bindParams "sum" ["start"] 0 { } = pure [none] from rfl) ?_)
  refine wpAny_bind (wpAny_pyIter_gen (gen _ _ _ I5) ?_)
  refine wpAny_bind (wpAny_mkInt ?_)
  refine wpAny_bind (wpAny_pure ?_)
  simp only [List.forIn_cons, List.forIn_nil]
  refine wpAny_bind (wpAny_bind (wpAny_bind (wpAny_isInstance (T := "int") (b := false) (typeIs_int _ _ _) PySem.sub_int_str ?_)))
  simp only [Bool.false_eq_true, if_false]
  refine wpAny_pure (wpAny_bind (wpAny_bind (wpAny_isInstance (T := "int") (b := false) (typeIs_int _ _ _) PySem.sub_int_bytes ?_)))
  simp only [Bool.false_eq_true, if_false]
  refine wpAny_pure (wpAny_bind (wpAny_bind (wpAny_isInstance (T := "int") (b := false) (typeIs_int _ _ _) PySem.sub_int_bytearray ?_)))
  simp only [Bool.false_eq_true, if_false]
  refine wpAny_pure (wpAny_pure ?_)
  refine wpAny_bind (wpAny_newObj_type ?_)
  -- the consumer's own list
  have I6 : Inv (gCx X Ng scope code s3 H3 fp [(a, go)]) [] (gSt σ cap) H3 { s5 with toks := s5.toks + 1, heap := s5.heap.push (accObj 0 s5.toks 0) } := (I5.tok _).kept fun b u e => Heap.get?_push_of_some _ e
  have lt0 : s3.heap.objs.size ≤ s5.heap.objs.size := Nat.le_of_lt (Nat.lt_trans la la2)
  have clt : ∀ y c, (gCx X Ng scope code s3 H3 fp [(a, go)]).env.cells.lookup y = some c → c ≠ s5.heap.objs.size := fun y c e z => by
    obtain ⟨v, q⟩ := I5.cell y c e
    have q1 := q.lt
    rw [z] at q1
    exact Nat.lt_irrefl _ q1
  have I7 : Inv (gCx X Ng scope code s3 H3 fp [(a, go)]) [(s5.heap.objs.size, accObj 0 s5.toks 0)] (gSt σ cap) H3 { s5 with toks := s5.toks + 1, heap := s5.heap.push (accObj 0 s5.toks 0) } := I6.pins_of fun q hq => by
    rw [List.mem_singleton.mp hq]
    exact ⟨Heap.get?_push_size _ rfl, I5.hok.fresh (Nat.le_refl _), Nat.ne_of_gt I5.lt, I5.nofs (Nat.le_refl _), fun v z => by cases z⟩
  have pnS : ∀ q ∈ (gCx X Ng scope code s3 H3 fp [(a, go)]).pn, q.1 ≠ s5.heap.objs.size := fun q hq => by
    have hq' : q ∈ [(a, go)] := hq
    rw [List.mem_singleton.mp hq']
    exact Nat.ne_of_lt la2
  refine wpAny_pure ⟨plainId_quiet F.plain_sum_loop _, ?_⟩
  refine sumLoop (Z := gCx X Ng scope code s3 H3 fp [(a, go)]) (Qe := fun i H => Q (.int (preSum val i)) H) (Pv := Pv) (N := N) (tn := tn) (fp := fp) (τ := gSt σ cap) (S := s5.heap.objs.size) (val := val) hr.hd hr.depth gen T.keep lt0 clt pnS fit (fun i y H q => q)
    (fun i s' H pg t' J q => ⟨.int (preSum val i), H, gDone I3 f3 J, ⟨t', rfl⟩, q⟩) N _ 0 s5.toks 0 (Nat.zero_add _) ⟨H3, I7⟩ ⟨_, hg5, rfl, ?_⟩
  have f6 : ∀ b ∈ fp, FpOk (gCx X Ng scope code s3 H3 fp [(a, go)]) [(s5.heap.objs.size, accObj 0 s5.toks 0)] H3 b := fun b hb => ⟨(f5 b hb).1, (f5 b hb).2.1, (f5 b hb).2.2.1, (f5 b hb).2.2.2.1, (f5 b hb).2.2.2.2.1, fun q hq => by
    rcases List.mem_append.mp hq with z | z
    · exact (f5 b hb).2.2.2.2.2 q (List.mem_append_left _ z)
    · rw [List.mem_singleton.mp z]
      obtain ⟨o, e, _⟩ := T.obj _ _ t5 b hb
      exact Nat.ne_of_gt (Heap.lt_size e)⟩
  exact gBegin (Z := gCx X Ng scope code s3 H3 fp [(a, go)]) (PG := fun i pg => ∃ t c, pg = [(s5.heap.objs.size, accObj (preSum val i) t c)]) rfl rfl T (hel _ _ _ _ _) (fun _ _ z => z) S.nd S.hd S.loc S.co rfl turn _ _ H3 _ ⟨s5.toks, 0, rfl⟩ (inv_set I7 rfl) (T.keep _ _ _ t5 fun b hb o e => Heap.get?_push_of_some _ e) f6 p0
end
end GX
namespace GX
open PySem PySem.Spec PyProof.Rows L2 LamX
/-- a thing that is known as it is -/
abbrev frzO (o : Obj) : HO := .frz o (.ext fun _ => True)
theorem frz_ok {P : Program} {w : World} {H : Hp} {h : Heap} {a : Addr} {o : Obj} (e : h.get? a = some o) : ObjOk P w H h a (frzO o) := ⟨e, True.intro, ⟨o, e⟩, fun _ _ _ _ => True.intro⟩
section
variable {X : Cx} {pins : List (Addr × Obj)} {σ : L2.St} {H : Hp} {s : Shared}
/-- an object that is there, and not tracked, is tracked from now on -/
theorem track {f : Addr} {u : HO} (I : Inv X pins σ H s) (hf : H f = none) (h0 : X.s_0.heap.objs.size ≤ f) (hL : f ≠ X.env.locals) (hc : ∀ y c, X.env.cells.lookup y = some c → c ≠ f) (hp : ∀ p ∈ X.pn ++ pins, p.1 ≠ f) (ok : ObjOk X.prog X.w (upd H f u) s.heap f u) :
    Inv X pins σ (upd H f u) s := by
  refine ⟨I.ok, I.os, I.bare, ⟨fun b ob e n hb hx => I.base.keep b ob e n hb hx, fun b ob e n hb hx => I.base.slot b ob e n hb hx, fun b ob e n hx => ?_, fun b ob e hx => I.base.there b ob e hx, fun b xs e => ?_, fun b ob xs e => ?_, fun b ps e => ?_⟩, I.loc, I.cell, ?_, fun y c e => ?_, fun p hq => ?_, fun b ob e => ?_, I.len⟩
  · rw [upd_ne (Nat.ne_of_lt (Nat.lt_of_lt_of_le (Heap.lt_size e) h0))]
    exact I.base.free b ob e n hx
  · have q := I.base.tups b xs e
    rw [upd_ne (ne_of_none q hf)]; exact q
  · have q := I.base.frzs b ob xs e
    rw [upd_ne (ne_of_none q hf)]; exact q
  · obtain ⟨more, q⟩ := I.base.tbls b ps e
    exact ⟨more, by rw [upd_ne (ne_of_none q hf)]; exact q⟩
  · rw [upd_ne (Ne.symm hL)]; exact I.free
  · rw [upd_ne (hc y c e)]; exact I.freeC y c e
  · obtain ⟨a1, a2, a3⟩ := I.pin p hq
    exact ⟨a1, by rw [upd_ne (hp p hq)]; exact a2, a3⟩
  · by_cases hb : b = f
    · subst hb
      rw [upd_same] at e
      cases e
      exact ok
    · rw [upd_ne hb] at e
      exact (I.hok b ob e).stay (fun _ _ _ q => q) (fun c q => by rw [upd_ne (ne_of_none q hf)]; exact q) fun c xs q => by rw [upd_ne (ne_of_none q hf)]; exact q
theorem fresh_facts (I : Inv X pins σ H s) {f : Addr} (hf : s.heap.objs.size ≤ f) : H f = none ∧ X.s_0.heap.objs.size ≤ f ∧ f ≠ X.env.locals ∧ (∀ y c, X.env.cells.lookup y = some c → c ≠ f) ∧ ∀ p ∈ X.pn ++ pins, p.1 ≠ f := by
  refine ⟨I.hok.fresh hf, Nat.le_trans I.sz hf, Nat.ne_of_gt (Nat.lt_of_lt_of_le I.lt hf), fun y c e z => ?_, fun p hp z => ?_⟩
  · obtain ⟨v, q⟩ := I.cell y c e
    exact absurd (Nat.lt_of_lt_of_le q.lt (by rw [z]; exact hf)) (Nat.lt_irrefl _)
  · exact absurd (Nat.lt_of_lt_of_le (Heap.lt_size (I.pin p hp).1) (by rw [z]; exact hf)) (Nat.lt_irrefl _)
abbrev lamObj (q : Str) (params : Arguments) (body : Expr) (scope : Scope) (clos : List (Str × Addr)) (dV doc pm : Value) (c' : Addr) (ctv : Value) : Obj := PySem.W.kdv_obj "<lambda>" q params (.expr body) scope clos dV doc pm c' ctv
/-- tables stay tables -/
def TabK (H H1 : Hp) : Prop := (∀ b ps, H b = some (.tbl ps) → ∃ ps', H1 b = some (.tbl ps')) ∧ ∀ p, GxR.TabG H p → GxR.TabG H1 p
theorem TabK.refl (H : Hp) : TabK H H := ⟨fun _ ps h => ⟨ps, h⟩, fun _ h => h⟩
theorem TabK.ext {H H1 H2 : Hp} (e : ∀ b o, H b = some o → H1 b = some o) (a : TabK H1 H2) : TabK H H2 := ⟨fun b ps h => a.1 b ps (e _ _ h), fun p h => by
  obtain ⟨ps, h1, h2⟩ := h
  exact a.2 p ⟨ps, e _ _ h1, h2⟩⟩
theorem TabK.one {H : Hp} {P c : Addr} {ps ps' : Array Value} {o : HO} (hP : H P = some (.tbl ps)) (t : TriplesOk ps'.toList) (nC : H c = none) : TabK H (upd (upd H P (.tbl ps')) c o) := by
  refine ⟨fun b qs h => ?_, fun p h => ?_⟩
  · by_cases hb : b = P
    · exact ⟨ps', by rw [hb, upd_ne (ne_of_none hP nC), upd_same]⟩
    · exact ⟨qs, by rw [upd_ne (ne_of_none h nC), upd_ne hb]; exact h⟩
  · obtain ⟨qs, h1, h2⟩ := h
    by_cases hb : p = P
    · exact ⟨ps', by rw [hb, upd_ne (ne_of_none hP nC), upd_same], t⟩
    · exact ⟨qs, by rw [upd_ne (ne_of_none h1 nC), upd_ne hb]; exact h1, h2⟩
/-- the making of a lambda, its defaults' tuple made -/
theorem lam_tail {T : List (Addr × Str)} {c P : Addr} {params : Arguments} {body : Expr} {scope : Scope} {pos : Pos} {line : Nat} {dV : Value} {E : Value → Shared → Prop} {Q : Value → Shared → Prop} (I : Inv X pins σ H s) (TB : LamX.TabB X.base X.mg c P) (hcode : X.env.code = .ref c)
    (hm : (P, X.env.qual ++ "<lambda>") ∈ T) (hu : ∀ p ∈ T, p.1 = P → p.2 = X.env.qual ++ "<lambda>") (hT : Tabs T H) (hfree : ∀ y ∈ scope.names, y.2 = .free → ∃ c, X.env.cells.lookup y.1 = some c)
    (h : ∀ (f c' : Addr) (doc pm ctv : Value) (H1 : Hp) (s' : Shared), ExtN H H1 → TabK H H1 → Tabs T H1 → H1 f = none → H1 c' = some (CodeO c' (X.env.qual ++ "<lambda>")) →
      Inv X pins σ (upd H1 f (frzO (lamObj (X.env.qual ++ "<lambda>") params body scope (cloFrom X.env.cells scope.names []) dV doc pm c' ctv))) s' → Q (.ref f) s') :
    wpAny (model X.prog X.w) X.A (makeTail "<lambda>" (X.env.qual ++ "<lambda>") params (.expr body) scope X.env dV .none none pos line) Q E s := by
  obtain ⟨ps, hP, ht, ha⟩ := hT _ hm
  have bP : s.heap.BuiltinsAt X.mg P := TB.bm.keeps I.bk
  have hP' : s.heap.get? P = some { cls := .none, data := .fields ps } := I.hok P _ hP
  cases hc : codeAmong pos ps.toList with
  | none =>
    refine PySem.W.kdv_makeTail (mg := X.mg) (c := c) (P := P) (ps := ps) (closure_ok hfree) I.ok.glob (I.mod.glob.keeps I.bk) hcode (TB.code.keeps I.bk) hP' ht hc TB.gP bP fun c' ctv doc h' tk hx hge hlt hrec htb => ?_
    obtain ⟨c2, oc, vs, t, e2, hoc, hd, hv⟩ := hrec
    cases e2
    have hsz : s.heap.objs.size ≤ h'.objs.size := Nat.le_trans hge (Nat.le_of_lt hlt)
    have nC : H c' = none := I.hok.fresh hge
    have I1 := inv_table (t' := tk) (more := #[rawInt pos.line, rawInt pos.col, .ref c']) (h' := h') I hP hx htb hge ⟨oc, vs, t, hoc, hd, hv⟩
    have hE : ExtN H (upd (upd H P (.tbl (ps ++ #[rawInt pos.line, rawInt pos.col, .ref c']))) c' (CodeO c' (X.env.qual ++ "<lambda>"))) := fun b o e n => by
      rw [upd_ne (ne_of_none e nC), upd_ne (fun z => n ps (Option.some.inj (e.symm.trans (by rw [z]; exact hP))))]
      exact e
    have eL : (ps ++ #[rawInt pos.line, rawInt pos.col, .ref c']).toList = ps.toList ++ [rawInt pos.line, rawInt pos.col, .ref c'] := by simp
    obtain ⟨q1, q2, q3, q4, q5⟩ := fresh_facts I1 (f := h'.objs.size) (Nat.le_refl _)
    have I2 := I1.kept (t' := tk) (h' := h'.push (lamObj (X.env.qual ++ "<lambda>") params body scope (cloFrom X.env.cells scope.names []) dV doc ((X.mg "__name__").getD .none) c' ctv)) fun b o e => Heap.get?_push_of_some _ e
    refine h h'.objs.size c' doc ((X.mg "__name__").getD .none) ctv _ _ hE (TabK.one hP (by rw [eL]; exact PySem.TriplesOk_snoc _ _ _ _ ht) nC) (fun p hp => ?_) q1 upd_same (track I2 q1 q2 q3 q4 q5 (frz_ok (Heap.get?_push_size _ rfl)))
    by_cases hb : p.1 = P
    · rw [hu p hp hb, hb]
      refine ⟨_, by rw [upd_ne (ne_of_none hP nC), upd_same], by rw [eL]; exact PySem.TriplesOk_snoc _ _ _ _ ht, fun p' cv hcv => ?_⟩
      rw [eL] at hcv
      rcases among_app _ ht hcv with z | z
      · obtain ⟨c0, e1, e2⟩ := ha p' cv z
        exact ⟨c0, e1, hE _ _ e2 codeO_ne⟩
      · exact ⟨c', z, upd_same⟩
    · obtain ⟨ps', a1, a2, a3⟩ := hT p hp
      refine ⟨ps', by rw [upd_ne (ne_of_none a1 nC), upd_ne hb]; exact a1, a2, fun p' cv hcv => ?_⟩
      obtain ⟨c0, e1, e2⟩ := a3 p' cv hcv
      exact ⟨c0, e1, hE _ _ e2 codeO_ne⟩
  | some cv =>
    obtain ⟨c', e, hco⟩ := ha pos cv hc
    subst e
    refine PySem.W.kdv_makeTailHit (mg := X.mg) (c := c) (P := P) (ps := ps) (closure_ok hfree) I.ok.glob (I.mod.glob.keeps I.bk) hcode (TB.code.keeps I.bk) hP' ht hc bP fun ctv doc h' tk hx hsz => ?_
    have I1 := I.kept (t' := tk) (h' := h') hx
    obtain ⟨q1, q2, q3, q4, q5⟩ := fresh_facts I1 (f := h'.objs.size) (Nat.le_refl _)
    have I2 := I1.kept (t' := tk) (h' := h'.push (lamObj (X.env.qual ++ "<lambda>") params body scope (cloFrom X.env.cells scope.names []) dV doc ((X.mg "__name__").getD .none) c' ctv)) fun b o e => Heap.get?_push_of_some _ e
    exact h h'.objs.size c' doc ((X.mg "__name__").getD .none) ctv H _ (ExtN.refl H) (TabK.refl H) hT q1 hco (track I2 q1 q2 q3 q4 q5 (frz_ok (Heap.get?_push_size _ rfl)))
/-- unlike names have unlike cells -/
def InjC (clos : List (Str × Addr)) : Prop := ∀ x y c, clos.lookup x = some c → clos.lookup y = some c → x = y
theorem clo_cm {X : Cx} {scope : Scope} (hf : ∀ y ∈ scope.names, y.2 = .free → ∃ c, X.env.cells.lookup y.1 = some c) {y : Str} {c : Addr} (e : (cloFrom X.env.cells scope.names []).lookup y = some c) : X.env.cells.lookup y = some c := by
  rcases cloFrom_mem (PySem.mem_of_lookup e) with hm | ⟨q1, q2⟩
  · cases hm
  · obtain ⟨c1, hc⟩ := hf _ q1 rfl
    have hc : X.env.cells.lookup y = some c1 := hc
    rw [hc] at q2
    have e2 : c = c1 := q2
    rw [e2]
    exact hc
theorem clo_inj {X : Cx} {scope : Scope} (ok : X.Ok) (hf : ∀ y ∈ scope.names, y.2 = .free → ∃ c, X.env.cells.lookup y.1 = some c) : InjC (cloFrom X.env.cells scope.names []) := fun x y c e1 e2 => ok.inj x y c (clo_cm hf e1) (clo_cm hf e2)
/-- lambda: body; its object is known as it is -/
def tLamV (T : List (Addr × Str)) (q : Str) (params : Arguments) (body : Expr) (scope : Scope) (clos : List (Str × Addr)) (D : Value → Hp → Prop) : TE := fun σ H Q => Tabs T H ∧
  ∀ (H1 : Hp) (f c' : Addr) (dV doc pm ctv : Value), InjC clos → ExtN H H1 → TabK H H1 → Tabs T H1 → D dV H1 → H1 f = none → H1 c' = some (CodeO c' q) → Q (.ref f) (upd H1 f (frzO (lamObj q params body scope clos dV doc pm c' ctv)))
theorem pe_lam0 {T : List (Addr × Str)} {c P : Addr} {params : Arguments} {body : Expr} {scope : Scope} {pos : Pos} (TB : LamX.TabB X.base X.mg c P) (hcode : X.env.code = .ref c)
    (hm : (P, X.env.qual ++ "<lambda>") ∈ T) (hu : ∀ p ∈ T, p.1 = P → p.2 = X.env.qual ++ "<lambda>") (L : LamS X.env.scope scope) (hdef : defaultsOf params X.env = ([], []) := by rfl) :
    PE X (.Lambda params body scope pos) (tLamV T (X.env.qual ++ "<lambda>") params body scope (cloFrom X.env.cells scope.names []) (fun dV _ => dV = .none)) := by
  refine ⟨fun pins s σ H Q I h => ?_⟩
  obtain ⟨hT, h⟩ := h
  refine PySem.W.kla_eval hdef ?_
  rw [makeFunction_eq]
  simp only [List.zip_nil_right, List.filterMap_nil, List.isEmpty_nil, if_true, pure_bind]
  exact lam_tail I TB hcode hm hu hT (L.has I.ok) fun f c' doc pm ctv H1 s' e1 tk t1 n1 k1 I1 => ⟨.ref f, _, I1, rfl, h H1 f c' .none doc pm ctv (clo_inj I.ok (L.has I.ok)) e1 tk t1 rfl n1 k1⟩
/-- a tuple of one default that is known as it is -/
def Dflt1 (i : Int) (dV : Value) (H : Hp) : Prop := ∃ (t : Addr) (u : Tok), dV = .ref t ∧ H t = some (frzO (PySem.W.kdv_tup [.int i u]))
/-- lambda a=i: body -/
theorem pe_lam1 {T : List (Addr × Str)} {c P : Addr} {params : Arguments} {body : Expr} {scope : Scope} {pos dp : Pos} {i : Int} {j : Nat} (TB : LamX.TabB X.base X.mg c P) (hcode : X.env.code = .ref c)
    (hm : (P, X.env.qual ++ "<lambda>") ∈ T) (hu : ∀ p ∈ T, p.1 = P → p.2 = X.env.qual ++ "<lambda>") (hfree : ∀ (ok : X.Ok), ∀ y ∈ scope.names, y.2 = .free → ∃ c, X.env.cells.lookup y.1 = some c) (hd : params.defaults = [.Constant (.int i) j dp] := by rfl) (hk : params.kw_defaults = [] := by rfl) :
    PE X (.Lambda params body scope pos) (tLamV T (X.env.qual ++ "<lambda>") params body scope (cloFrom X.env.cells scope.names []) (Dflt1 i)) := by
  refine ⟨fun pins s σ H Q I h => ?_⟩
  obtain ⟨hT, h⟩ := h
  refine PySem.W.kdv_lam (by rw [hd]; rfl) hk ?_
  rw [hd]
  refine PySem.W.kdv_all1 (thn ((pe_int (X := X) (i := i) (j := j) (pos := dp)).run pins s σ H (fun v H' => v = .int i ∧ H' = H) I ⟨rfl, rfl⟩) fun u s1 hh => PySem.W.kdv_all0 ?_)
  obtain ⟨v, H', I1, r, ev, eH⟩ := hh
  subst ev
  subst eH
  obtain ⟨tk, eu⟩ := r
  subst eu
  rw [makeFunction_eq]
  simp only [List.zip_nil_right, List.filterMap_nil, List.isEmpty_nil, List.isEmpty_cons, Bool.false_eq_true, if_false, if_true, pure_bind]
  refine wpAny_bind (wpAny_newTextTuple ?_)
  obtain ⟨q1, q2, q3, q4, q5⟩ := fresh_facts I1 (f := s1.heap.objs.size) (Nat.le_refl _)
  have I2 := I1.kept (t' := s1.toks) (h' := s1.heap.push (PySem.W.kdv_tup [.int i tk])) fun b o e => Heap.get?_push_of_some _ e
  have I3 := track I2 q1 q2 q3 q4 q5 (frz_ok (Heap.get?_push_size _ rfl))
  have eH : ∀ b o, H' b = some o → upd H' s1.heap.objs.size (frzO (PySem.W.kdv_tup [.int i tk])) b = some o := fun b o e => by
    rw [upd_ne (ne_of_none e q1)]
    exact e
  refine lam_tail I3 TB hcode hm hu (hT.ext eH) (hfree I3.ok) fun f c' doc pm ctv H1 s' e1 tkb t1 n1 k1 I4 => ⟨.ref f, _, I4, rfl, h H1 f c' _ doc pm ctv (clo_inj I.ok (hfree I.ok)) (fun b o e n => e1 b o (eH b o e) n) (tkb.ext eH) t1 ⟨_, tk, rfl, e1 _ _ upd_same fun ps z => by cases z⟩ n1 k1⟩
end
end GX
namespace GX
open PySem PySem.Spec PyProof.Rows L2 LamX
/-- what stands at f may be called without arguments: where ph holds of the heap it keeps the promise sp -/
def CallOk (P : Program) (w : World) (K : PySem.W.Frag) (mg : Str → Option Value) (base : Heap) (k : Nat) (f : Addr) (ph : Hp → Prop) (sp : Hp → VK → XK → Prop) : Prop :=
  ∀ (A : Around) (outer : List Env) (s : Shared) (H : Hp) (Q : VK) (E : XK), Room k A → Env0 P w K mg base A outer s H → ph H → sp H Q E →
    codeAny (model P w) A (.call (.ref f) ⟨[], []⟩) (CR (L2.CX P w) outer P w H s Q E) s
theorem CallOk.mono {P : Program} {w : World} {K : PySem.W.Frag} {mg : Str → Option Value} {base : Heap} {j k : Nat} {f : Addr} {ph : Hp → Prop} {sp : Hp → VK → XK → Prop} (c : CallOk P w K mg base j f ph sp) (h : j ≤ k) : CallOk P w K mg base k f ph sp :=
  fun A outer s H Q E hr => c A outer s H Q E (hr.mono h)
/-- a function object that is known as it is -/
def FnObj (H : Hp) (f : Addr) : Prop := ∃ (o : Obj) (fd : FuncData) (u : HO), H f = some (.frz o u) ∧ o.data = .func fd
theorem FnObj.at {X : Cx} {pins : List (Addr × Obj)} {σ : L2.St} {H : Hp} {s : Shared} {f : Addr} (h : FnObj H f) (I : Inv X pins σ H s) : PySem.W.FnAt f s.heap := by
  obtain ⟨o, fd, u, e, d⟩ := h
  obtain ⟨q, _⟩ := I.hok f _ e
  obtain ⟨oc, od, dt, sl⟩ := o
  cases d
  exact ⟨oc, od, fd, sl, q⟩
def tAct (P : Program) (w : World) (K : PySem.W.Frag) (mg : Str → Option Value) (base : Heap) (k i : Nat) (E : XK) : TE := fun σ H Q =>
  ∃ (f : Addr) (ph : Hp → Prop) (sp : Hp → VK → XK → Prop), σ[i]? = some (some (.ref f)) ∧ FnObj H f ∧ CallOk P w K mg base k f ph sp ∧ ph H ∧ sp H Q E
section
variable {X : Cx}
/-- a(), a the def's own name that holds such a thing -/
theorem pe_act0 {k i : Nat} {a : Str} {E : XK} {p1 p2 : Pos} (hr : Room k X.A) (hx : Passes (L2.CX X.prog X.w) X E) (hN : X.N[i]? = some a) (hv : Vis X.env.scope a) (hd : (a == ("__debug__" : Str)) = false := by decide) (hcd : (a == ("__classdict__" : Str)) = false := by decide) :
    PE X (.Call (.Name a p1) [] [] p2) (tAct X.prog X.w X.K X.mg X.base k i E) := by
  refine ⟨fun pins s σ H Q I h => ?_⟩
  obtain ⟨f, ph, sp, hs, ho, hc, hp, ht⟩ := h
  refine wpAny_Call_Name_kw (thn ((pe_var (pos := p1) (i := i) hN hv hd hcd).run pins s σ H (fun v H1 => v = .ref f ∧ H1 = H) I ⟨.ref f, hs, rfl, rfl⟩) fun u s1 hh => ?_)
  obtain ⟨v, H1, I1, r1, ev, eH⟩ := hh
  subst ev
  subst eH
  obtain rfl : u = Value.ref f := r1
  refine PySem.W.callWith_F0 (ho.at I1) ?_
  refine wpAny_call (codeAny_mono (hc X.A X.stack s1 H1 Q E hr I1.env0 hp ht) fun r s' hq => ?_)
  cases r with
  | error e => exact hx pins σ H1 s1 e s' I1 hq
  | ok fl =>
    cases fl with
    | ret u => exact I1.after hq
    | next => exact False.elim hq
    | brk => exact False.elim hq
    | cont => exact False.elim hq
end
/-! ### the maker's cells, known as they are while a def of it is called -/
def CellOf (X : Cx) (c : Addr) : Prop := ∃ y, X.env.cells.lookup y = some c
open Classical in
noncomputable def unf (S : Addr → Prop) (H : Hp) : Hp := fun b => if S b then none else H b
open Classical in
noncomputable def ref2 (S : Addr → Prop) (H H' : Hp) : Hp := fun b => if S b then H b else H' b
theorem unf_in {S : Addr → Prop} {H : Hp} {b : Addr} (h : S b) : unf S H b = none := by unfold unf; rw [if_pos h]
theorem unf_out {S : Addr → Prop} {H : Hp} {b : Addr} (h : ¬ S b) : unf S H b = H b := by unfold unf; rw [if_neg h]
theorem ref2_in {S : Addr → Prop} {H H' : Hp} {b : Addr} (h : S b) : ref2 S H H' b = H b := by unfold ref2; rw [if_pos h]
theorem ref2_out {S : Addr → Prop} {H H' : Hp} {b : Addr} (h : ¬ S b) : ref2 S H H' b = H' b := by unfold ref2; rw [if_neg h]
/-- H2 is H, the cells of X beside, as they stand -/
structure Frozen (X : Cx) (σ : L2.St) (H H2 : Hp) : Prop where
  out : ∀ b, ¬ CellOf X b → H2 b = H b
  free : ∀ b, CellOf X b → H b = none
  any : ∀ b, CellOf X b → ∃ o v, H2 b = some (frzO o) ∧ o.data = .cell v
  cell : ∀ (y : Str) (c : Addr) (i : Nat) (v : V), X.env.cells.lookup y = some c → X.N[i]? = some y → Vis X.env.scope y → X.env.scope.names.lookup y ≠ some .local → σ[i]? = some (some v) → ∃ o u, H2 c = some (frzO o) ∧ o.data = .cell (some u) ∧ RelV v u
section
variable {X : Cx} {pins : List (Addr × Obj)} {σ : L2.St} {H H2 H' : Hp} {s s' : Shared}
theorem Frozen.ext (z : Frozen X σ H H2) {b : Addr} {o : HO} (e : H b = some o) : H2 b = some o := by
  by_cases hb : CellOf X b
  · rw [z.free b hb] at e; cases e
  · rw [z.out b hb]; exact e
theorem freeze (I : Inv X pins σ H s) (hfn : ∀ y, X.fn y = true) : ∃ H2, Frozen X σ H H2 ∧ Env0 X.prog X.w X.K X.mg X.base X.A X.stack s H2 ∧ ∀ b, CellOf X b → ∃ o, s.heap.get? b = some o ∧ H2 b = some (frzO o) := by
  classical
  let H2 : Hp := fun b => if CellOf X b then (s.heap.get? b).map frzO else H b
  have hin : ∀ {b}, CellOf X b → H2 b = (s.heap.get? b).map frzO := fun {b} h => if_pos h
  have hout : ∀ {b}, ¬ CellOf X b → H2 b = H b := fun {b} h => if_neg h
  have free : ∀ b, CellOf X b → H b = none := fun b h => by obtain ⟨y, e⟩ := h; exact I.freeC y b e
  have young : ∀ b, CellOf X b → X.s_0.heap.objs.size ≤ b := fun b h => by obtain ⟨y, e⟩ := h; exact I.ok.cab y b (hfn y) e
  have obj : ∀ b, CellOf X b → ∃ o v, s.heap.get? b = some o ∧ o.data = .cell v := fun b h => by
    obtain ⟨y, e⟩ := h
    obtain ⟨v, o, ho, hd⟩ := I.cell y b e
    exact ⟨o, v, ho, hd⟩
  have at_ : ∀ b o, H b = some o → H2 b = some o := fun b o e => by
    by_cases hb : CellOf X b
    · rw [free b hb] at e; cases e
    · rw [hout hb]; exact e
  refine ⟨H2, ⟨fun b h => hout h, free, fun b h => ?_, fun y c i v e1 e2 e3 e4 e5 => ?_⟩, ⟨I.ok.frames, I.ok.mod, fun b o e => ⟨I.bk b o e, ?_⟩, Nat.le_trans I.ok.bsz I.sz, I.stack, fun b hb => ?_, fun b u e => ?_, I.bare⟩, fun b h => ?_⟩
  · obtain ⟨o, v, ho, hd⟩ := obj b h
    exact ⟨o, v, by rw [hin h, ho]; rfl, hd⟩
  · obtain ⟨m, hn, hl⟩ := I.loc
    obtain ⟨u, r, q⟩ := hl i y v e2 e5 e3
    rcases q with ⟨k, _⟩ | ⟨_, c2, ec, o, ho, hd⟩
    · exact absurd k e4
    · rw [e1] at ec
      cases ec
      exact ⟨o, u, by rw [hin ⟨y, e1⟩, ho]; rfl, hd, r⟩
  · have hb : ¬ CellOf X b := fun h => by
      have h1 := young b h
      have h2 := Heap.lt_size (I.ok.bs b o e).1
      exact absurd (Nat.lt_of_lt_of_le h2 h1) (Nat.lt_irrefl _)
    rw [hout hb]
    exact (I.bs b o e).2
  · have nb : ¬ CellOf X b := fun h => by
      rcases List.mem_cons.mp (I.stkSub b hb) with z | z
      · obtain ⟨y, e⟩ := h
        exact I.cne y b e z
      · obtain ⟨_, o, ho, _⟩ := I.ok.funs.mem z
        exact absurd (Nat.lt_of_lt_of_le (Heap.lt_size ho) (young b h)) (Nat.lt_irrefl _)
    rw [hout nb]
    exact I.stkFree b hb
  · by_cases hb : CellOf X b
    · obtain ⟨o, v, ho, hd⟩ := obj b hb
      rw [hin hb, ho] at e
      cases e
      exact frz_ok ho
    · rw [hout hb] at e
      exact (I.hok b u e).stay (fun _ _ _ q => q) (fun c q => at_ c _ q) fun c xs q => at_ c _ q
  · obtain ⟨o, v, ho, hd⟩ := obj b h
    exact ⟨o, ho, by rw [hin h, ho]; rfl⟩
theorem unfreeze (I : Inv X pins σ H s) (z : Frozen X σ H H2) (hz : ∀ b, CellOf X b → ∃ o, s.heap.get? b = some o ∧ H2 b = some (frzO o)) (os : s'.os = s.os) (ag : AllBare s'.gens) (un : Un (frs X.stack) [] H2 H' s.heap s'.heap) (hok : HOk X.prog X.w H' s'.heap) :
    Inv X pins σ (unf (CellOf X) H') s' := by
  have cellH : ∀ b, CellOf X b → ∃ o, s.heap.get? b = some o ∧ s'.heap.get? b = some o ∧ H' b = some (frzO o) := fun b h => by
    obtain ⟨o, ho, e⟩ := hz b h
    have e2 := un.frzs b o _ e
    exact ⟨o, ho, (hok b _ e2).1, e2⟩
  have out : ∀ {b o}, H b = some o → ¬ CellOf X b := fun {b o} e h => by rw [z.free b h] at e; cases e
  have nf : ∀ {b u}, H' b = some u → (∀ o, u ≠ frzO o) → ¬ CellOf X b := fun {b u} e n h => by
    obtain ⟨o, _, _, q⟩ := cellH b h
    rw [e] at q
    exact n o (Option.some.inj q)
  refine I.call' (ch := []) os ⟨fun b o e n hb hx => ?_, fun b o e n hb hx => ?_, fun b o e n hx => ?_, fun b o e hx => un.there b o e hx, fun b xs e => ?_, fun b o xs e => ?_, fun b ps e => ?_⟩ (fun b u e => ?_) ag fun b hb => absurd hb (by simp)
  · by_cases hc : CellOf X b
    · obtain ⟨o', h1, h2, _⟩ := cellH b hc
      rw [e] at h1
      cases h1
      exact h2
    · exact un.keep b o e (by rw [z.out b hc]; exact n) hb hx
  · by_cases hc : CellOf X b
    · obtain ⟨o', h1, h2, _⟩ := cellH b hc
      rw [e] at h1
      cases h1
      exact ⟨o.slots, h2⟩
    · exact un.slot b o e (by rw [z.out b hc]; exact n) hb hx
  · by_cases hc : CellOf X b
    · exact unf_in hc
    · rw [unf_out hc]
      exact un.free b o e (by rw [z.out b hc]; exact n) hx
  · rw [unf_out (out e)]
    exact un.tups b xs (z.ext e)
  · rw [unf_out (out e)]
    exact un.frzs b o xs (z.ext e)
  · obtain ⟨more, q⟩ := un.tbls b ps (z.ext e)
    exact ⟨more, by rw [unf_out (out e)]; exact q⟩
  · by_cases hc : CellOf X b
    · rw [unf_in hc] at e; cases e
    · rw [unf_out hc] at e
      exact (hok b u e).stay (fun _ _ _ q => q) (fun c q => by rw [unf_out (nf q fun o z => by cases z)]; exact q) fun c xs q => by rw [unf_out (nf q fun o z => by cases z)]; exact q
/-- f(e, ..): the callee may know the caller's cells -/
def tCallF (X : Cx) (sp : Sp) (t : TA) : TE := fun σ H Q => t σ H fun vs H1 => ∀ H2, Frozen X σ H1 H2 → sp vs H2 (fun v H' => Q v (unf (CellOf X) H')) fun _ _ _ => False
theorem pe_callF {k : Nat} {f : Addr} {fd : FuncData} {ps : List Str} {sp : Sp} {x : Str} {p pos : Pos} {e : Expr} {es : List Expr} {t : TA} (F : FnOk X.prog X.w X.K X.mg X.base CX0 k f fd ps sp) (hr : Room k X.A) (hfn : ∀ y, X.fn y = true) (hg : Gl X x) (hm : X.mg x = some (.ref f)) (hk : PySem.W.keepIn X.K (.ref f) = true) (hb : Binds X.K fd ps [])
    (ha : PA X (e :: es) t) (hdb : (x == ("__debug__" : Str)) = false := by decide) (he : starEach (e :: es) X.env = (false, eval e X.env) :: starEach es X.env := by rfl) (hpl : (backTo pos (starEach es X.env)).any (·.1) = false := by rfl) :
    PE X (.Call (.Name x p) (e :: es) [] pos) (tCallF X sp t) := by
  refine ⟨fun pins s σ H Q I h => ?_⟩
  refine wpAny_Call_Name_kw (ld_glob I hg hm ?_ hdb)
  refine PySem.W.callWith_K (h₀ := X.base) I.ok.mod.kin hk (thn (ha.run pos pins s σ H _ I h) fun us s1 hh => ?_) he hpl
  obtain ⟨vs, H1, I1, r, q⟩ := hh
  refine ⟨I1.kIn, ?_⟩
  obtain ⟨H2, z, e0, hz⟩ := freeze I1 hfn
  have sp2 := q H2 z
  have hl : us.length = ps.length := by rw [← r.length]; exact F.len _ _ _ _ sp2
  have hb2 := hb s1 us I1.kIn (by rw [List.append_nil]; exact hl)
  rw [List.append_nil] at hb2
  refine wpAny_call (codeAny_mono (F.run X.A X.stack s1 H2 ⟨us, []⟩ us vs _ _ hr e0 hb2 r sp2) fun r s' hq => ?_)
  cases r with
  | error e => exact (show False from hq).elim
  | ok fl =>
    cases fl with
    | ret u =>
      obtain ⟨v, H', os, bare, un, hok, rv, qv⟩ := hq
      exact ⟨v, unf (CellOf X) H', unfreeze I1 z hz os bare un hok, rv, qv⟩
    | next => exact False.elim hq
    | brk => exact False.elim hq
    | cont => exact False.elim hq
end
end GX
namespace GX
open PySem PySem.Spec PyProof.Rows L2 LamX
def CS (clos : List (Str × Addr)) (c : Addr) : Prop := ∃ y, clos.lookup y = some c
/-- the context of a lambda's body -/
def lCx (P : Program) (w : World) (K : PySem.W.Frag) (mg : Str → Option Value) (base : Heap) (Nl : List Str) (q : Str) (scope : Scope) (f c' : Addr) (clos : List (Str × Addr)) (A : Around) (outer : List Env) (s : Shared) (H : Hp) (E : XK) : Cx where
  prog := P
  w := w
  K := K
  mg := mg
  base := base
  A := A.deeper (PySem.W.envX q scope s.heap.objs.size f (.ref c') clos)
  N := Nl
  s_0 := s
  H_0 := H
  env := PySem.W.envX q scope s.heap.objs.size f (.ref c') clos
  outer := outer
  stack := PySem.W.envX q scope s.heap.objs.size f (.ref c') clos :: outer
  ex := []
  fn := fun _ => false
  calm := true
  pn := []
  xe := fun e s' => wpAny (model P w) (A.deeper (PySem.W.envX q scope s.heap.objs.size f (.ref c') clos)) (leaving (PySem.W.envX q scope s.heap.objs.size f (.ref c') clos) e)
    (fun _ s'' => L2.CX P w outer H s E e s'') (fun e' s'' => L2.CX P w outer H s E e' s'') s'
theorem passes_l {P : Program} {w : World} {K : PySem.W.Frag} {mg : Str → Option Value} {base : Heap} {Nl : List Str} {q : Str} {scope : Scope} {f c' : Addr} {clos : List (Str × Addr)} {A : Around} {outer : List Env} {s : Shared} {H : Hp} {E : XK} :
    Passes (L2.CX P w) (lCx P w K mg base Nl q scope f c' clos A outer s H E) E :=
  passes_call (X := lCx P w K mg base Nl q scope f c' clos A outer s H E) (W := fun cls d _ H => E cls d H) (takes_of rfl rfl rfl rfl) fun _ _ _ _ h => h
/-- what is known of the heap where the lambda is called -/
def LamAt (q : Str) (params : Arguments) (body : Expr) (scope : Scope) (clos : List (Str × Addr)) (dV doc pm : Value) (c' : Addr) (ctv : Value) (D : Value → Hp → Prop) (Nl : List Str) (τ : L2.St) (f : Addr) (H : Hp) : Prop :=
  H f = some (frzO (lamObj q params body scope clos dV doc pm c' ctv)) ∧ H c' = some (CodeO c' q) ∧ D dV H ∧
    ∀ y c, clos.lookup y = some c → ∃ o u, H c = some (frzO o) ∧ o.data = .cell u ∧ ∀ (i : Nat) (v : V), Nl[i]? = some y → τ[i]? = some (some v) → ∃ u', u = some u' ∧ RelV v u'
/-- a lambda's names -/
structure LScope (Nl : List Str) (sc : Scope) : Prop where
  kind : sc.kind = .function
  co : sc.isCoroutine = false
  gen : sc.isGenerator = false
  cell : ∀ y ∈ sc.names, y.2 ≠ .cell
section
variable {P : Program} {w : World} {K : PySem.W.Frag} {mg : Str → Option Value} {base : Heap} {Nl : List Str} {q : Str} {scope : Scope} {f c' : Addr} {clos : List (Str × Addr)} {params : Arguments} {body : Expr} {dV doc pm ctv : Value} {k : Nat} {D : Value → Hp → Prop} {τ : L2.St} {tb : XK → TE}
theorem callOk_core {ar : Args} {binds : List (Str × Value)} (S : LScope Nl scope) (hinj : InjC clos) (hclos : ∀ y, (scope.names.lookup y = some .cell ∨ scope.names.lookup y = some .free) → ∃ c, clos.lookup y = some c) (hlen : τ.length = Nl.length)
    {A : Around} {outer : List Env} {s : Shared} {H : Hp} {Q : VK} {E : XK} (hr : Room (k + 1) A) (e0 : Env0 P w K mg base A outer s H) (hp : LamAt q params body scope clos dV doc pm c' ctv D Nl τ f H)
    (hb : BindsTo s (PySem.W.kdv_fn "<lambda>" q params (.expr body) scope clos dV doc pm (.ref c') ctv) ar binds) (hl : ∀ y ∈ binds, scope.names.lookup y.1 = some .local)
    (hloc : ∀ (i : Nat) (y : Str) (v : V), Nl[i]? = some y → τ[i]? = some (some v) → scope.names.lookup y = some .local → ∃ u, RelV v u ∧ binds.reverse.lookup y = some u)
    (hbody : ∀ (A : Around) (outer : List Env) (s : Shared) (H : Hp) (E : XK), Room k (A.deeper (PySem.W.envX q scope s.heap.objs.size f (.ref c') clos)) → PE (lCx P w K mg base Nl q scope f c' clos A outer s H E) body (tb E))
    (h : tb (fun cls d H' => (∀ b, CS clos b → H' b = none) → E cls d (ref2 (CS clos) H H')) τ (unf (CS clos) H) (fun v H' => (∀ b, CS clos b → H' b = none) → Q v (ref2 (CS clos) H H'))) : codeAny (model P w) A (.call (.ref f) ar) (CR (L2.CX P w) outer P w H s Q E) s := by
  obtain ⟨hf, hc, hD, hcell⟩ := hp
  have cellH : ∀ b, CS clos b → ∃ o u, s.heap.get? b = some o ∧ H b = some (frzO o) ∧ o.data = .cell u := fun b hb => by
    obtain ⟨y, e⟩ := hb
    obtain ⟨o, u, e1, e2, _⟩ := hcell y b e
    exact ⟨o, u, (e0.hok b _ e1).1, e1, e2⟩
  have nf : ∀ {b u}, H b = some u → (∀ o, u ≠ frzO o) → ¬ CS clos b := fun {b u} e n hb => by
    obtain ⟨o, _, _, q, _⟩ := cellH b hb
    rw [e] at q
    exact n o (Option.some.inj q)
  have nn : ∀ {b}, H b = none → ¬ CS clos b := fun {b} e hb => by
    obtain ⟨o, _, _, q, _⟩ := cellH b hb
    rw [e] at q
    cases q
  have hidN : ∀ {b : Addr} {H' : Hp}, CS clos b → (∀ {u}, H' b = some u → ¬ CS clos b) → H' b = none := fun {b H'} hb n => by
    cases q : H' b with
    | none => rfl
    | some u => exact absurd hb (n q)
  have un0 : ∀ {b}, H b = none → unf (CS clos) H b = none := fun {b} e => by rw [unf_out (nn e)]; exact e
  have hok1 : HOk P w (unf (CS clos) H) s.heap := fun b u e => by
    by_cases hb : CS clos b
    · rw [unf_in hb] at e; cases e
    · rw [unf_out hb] at e
      exact (e0.hok b u e).stay (fun _ _ _ q => q) (fun c q => by rw [unf_out (nf q fun o z => by cases z)]; exact q) fun c xs q => by rw [unf_out (nf q fun o z => by cases z)]; exact q
  have e1 : Env0 P w K mg base A outer s (unf (CS clos) H) := ⟨e0.frames, e0.mod, fun b o e => ⟨(e0.bs b o e).1, un0 (e0.bs b o e).2⟩, e0.bsz, e0.funs, fun b hb => un0 (e0.frf b hb), hok1, e0.bare⟩
  obtain ⟨⟨oc, vs, t, hoc, hdc, hvc⟩, _, _⟩ := e0.hok c' _ hc
  have lim : s.heap.NoLimit := e0.mod.nolimit.keeps fun b o e => (e0.bs b o e).1
  refine PySem.W.kla_callFunE hr.depth (e0.hok f _ hf).1 rfl S.co S.gen rfl ⟨c', oc, vs, t, rfl, hoc, hdc, hvc⟩ ?_
  refine hb _ _ _ _ ?_
  refine wpAny_newFunctionEnv S.cell hl (fun h₁ hns hsb => ⟨lim.fresh _ hsb, ?_⟩) S.kind
  show codeAny _ _ (.expr body (PySem.W.envX q scope s.heap.objs.size f (.ref c') clos)) _ _
  have kp : ∀ b o, s.heap.get? b = some o → h₁.get? b = some o := fun b o e => hsb.extBut b o (Nat.ne_of_lt (Heap.lt_size e)) (Heap.get?_push_of_some _ e)
  have cellK : ∀ {y c}, clos.lookup y = some c → ∃ o u, h₁.get? c = some o ∧ o.data = .cell u ∧ ∀ (i : Nat) (v : V), Nl[i]? = some y → τ[i]? = some (some v) → ∃ u', u = some u' ∧ RelV v u' := fun {y c} e => by
    obtain ⟨o, u, q1, q2, q3⟩ := hcell y c e
    exact ⟨o, u, kp _ _ (e0.hok c _ q1).1, q2, q3⟩
  have J : Inv (lCx P w K mg base Nl q scope f c' clos A outer s (unf (CS clos) H) fun cls d H' => (∀ b, CS clos b → H' b = none) → E cls d (ref2 (CS clos) H H')) [] τ (unf (CS clos) H) { s with heap := h₁, toks := s.toks + binds.length } := by
    have noA : ∀ b : Addr, b ∉ (lCx P w K mg base Nl q scope f c' clos A outer s (unf (CS clos) H) fun cls d H' => (∀ b, CS clos b → H' b = none) → E cls d (ref2 (CS clos) H H')).ex := fun b z => absurd (show b ∈ ([] : List Addr) from z) (by simp)
    refine ⟨⟨e1.mod, S.kind, rfl, rfl, Nat.le_refl _, fun y z c q1 q2 => hinj y z c q1 q2, fun y hy => hclos y hy, fun y c z _ => absurd (show false = true from z) Bool.false_ne_true, fun _ => hr.hd, Around.frames_deeper e1.frames, .inr ⟨rfl, rfl⟩, fun b z => absurd z (noA b), e1.bs, e1.bsz, fun b _ _ => noA b,
        fun b z => absurd z (noA b), e1.funs, e1.frf⟩,
      rfl, e1.bare, Un.kept kp, ⟨_, hns, fun i y v q1 q2 q3 => ?_⟩, fun y c e => ?_, e1.hok.fresh (Nat.le_refl _), fun y c e => ?_, fun p hp => absurd (show p ∈ ([] : List (Addr × Obj)) from hp) (by simp), e1.hok.kept kp, hlen⟩
    · have q3 : scope.names.lookup y = some .local ∨ scope.names.lookup y = some .cell ∨ scope.names.lookup y = some .free := q3
      rcases q3 with k1 | k1 | k1
      · obtain ⟨u, r, e⟩ := hloc i y v q1 q2 k1
        exact ⟨u, r, .inl ⟨k1, e⟩⟩
      · exact absurd rfl (S.cell _ (PySem.mem_of_lookup k1))
      · obtain ⟨c, ec⟩ := hclos y (.inr k1)
        obtain ⟨o, u, o1, o2, o3⟩ := cellK ec
        obtain ⟨u', eu, r⟩ := o3 i v q1 q2
        exact ⟨u', r, .inr ⟨.inr k1, c, ec, o, o1, by rw [o2, eu]⟩⟩
    · obtain ⟨o, u, o1, o2, _⟩ := cellK e
      exact ⟨u, o, o1, o2⟩
    · exact unf_in ⟨y, e⟩
  refine PySem.W.kla_codeExpr (wpAny_mono ((hbody A outer s _ _ (hr.deeper _)).run [] _ τ _ _ J h) (fun v s' hq => ?_) fun e s' hq => wpAny_mono hq (fun _ s'' hx => ?_) fun e' s'' hx => ?_)
  · obtain ⟨v', H', J', rv, q1⟩ := hq
    have un : Un (frs outer) [] (unf (CS clos) H) H' s.heap s'.heap := J'.base
    have cellB : ∀ b, CS clos b → ∃ o, H b = some (frzO o) ∧ s'.heap.get? b = some o := fun b hb => by
      obtain ⟨o, u, o1, o2, o3⟩ := cellH b hb
      have nfr : b ∉ frs outer := fun hm => by
        have z := e0.frf b hm
        rw [o2] at z
        cases z
      exact ⟨o, o2, un.keep b o o1 (unf_in hb) nfr (by simp)⟩
    have nC : ∀ {b u}, H' b = some u → ¬ CS clos b := fun {b u} e hb => by
      obtain ⟨o, _, o1, _, _⟩ := cellH b hb
      have z := un.free b o o1 (unf_in hb) (by simp)
      rw [e] at z
      cases z
    refine ⟨v', ref2 (CS clos) H H', J'.os, J'.bare, ⟨fun b o e n hb hx => un.keep b o e (un0 n) hb hx, fun b o e n hb hx => un.slot b o e (un0 n) hb hx, fun b o e n hx => ?_, fun b o e hx => un.there b o e hx, fun b xs e => ?_, fun b o xs e => ?_, fun b ps e => ?_⟩, fun b u e => ?_, rv, q1 fun b hb => hidN hb fun {u} e => nC e⟩
    · rw [ref2_out (nn n)]
      exact un.free b o e (un0 n) hx
    · have nb := nf e fun o z => by cases z
      rw [ref2_out nb]
      exact un.tups b xs (by rw [unf_out nb]; exact e)
    · by_cases hb : CS clos b
      · rw [ref2_in hb]; exact e
      · rw [ref2_out hb]
        exact un.frzs b o xs (by rw [unf_out hb]; exact e)
    · have nb := nf e fun o z => by cases z
      obtain ⟨more, z⟩ := un.tbls b ps (by rw [unf_out nb]; exact e)
      exact ⟨more, by rw [ref2_out nb]; exact z⟩
    · by_cases hb : CS clos b
      · obtain ⟨o, o1, o2⟩ := cellB b hb
        rw [ref2_in hb, o1] at e
        cases e
        exact frz_ok o2
      · rw [ref2_out hb] at e
        exact (J'.hok b u e).stay (fun _ _ _ q => q) (fun c q => by rw [ref2_out (nC q)]; exact q) fun c xs q => by rw [ref2_out (nC q)]; exact q
  all_goals
    obtain ⟨a, B, H', cls, d, ea, fl, hokB, ub, na, os, ag, hW⟩ := hx
    have cellB : ∀ b, CS clos b → ∃ o, H b = some (frzO o) ∧ B.get? b = some o := fun b hb => by
      obtain ⟨o, u, o1, o2, o3⟩ := cellH b hb
      have nfr : b ∉ frs outer := fun hm => by
        have z := e0.frf b hm
        rw [o2] at z
        cases z
      exact ⟨o, o2, ub.keep b o o1 (unf_in hb) nfr⟩
    have nC : ∀ {b u}, H' b = some u → ¬ CS clos b := fun {b u} e hb => by
      obtain ⟨o, _, o1, _, _⟩ := cellH b hb
      have z := ub.free b o o1 (unf_in hb)
      rw [e] at z
      cases z
    refine ⟨a, B, ref2 (CS clos) H H', cls, d, ea, fl, fun b u e => ?_, ⟨fun b o e n hb => ub.keep b o e (un0 n) hb, fun b o e hb => ub.slot b o e hb, fun b o e n => ?_, fun b o e hb => ub.there b o e hb, fun b xs e => ?_, fun b o xs e => ?_, fun b ps e => ?_⟩, ?_, os, ag, hW fun b hb => hidN hb fun {u} e => nC e⟩
    · by_cases hb : CS clos b
      · obtain ⟨o, o1, o2⟩ := cellB b hb
        rw [ref2_in hb, o1] at e
        cases e
        exact frz_ok o2
      · rw [ref2_out hb] at e
        exact (hokB b u e).stay (fun _ _ _ q => q) (fun c q => by rw [ref2_out (nC q)]; exact q) fun c xs q => by rw [ref2_out (nC q)]; exact q
    · rw [ref2_out (nn n)]
      exact ub.free b o e (un0 n)
    · have nb := nf e fun o z => by cases z
      rw [ref2_out nb]
      exact ub.tups b xs (by rw [unf_out nb]; exact e)
    · by_cases hb : CS clos b
      · rw [ref2_in hb]; exact e
      · rw [ref2_out hb]
        exact ub.frzs b o xs (by rw [unf_out hb]; exact e)
    · have nb := nf e fun o z => by cases z
      obtain ⟨more, z⟩ := ub.tbls b ps (by rw [unf_out nb]; exact e)
      exact ⟨more, by rw [ref2_out nb]; exact z⟩
    · have nb : ¬ CS clos a := fun hb => by
        obtain ⟨o, _, o2⟩ := cellB a hb
        have z := fl.2.1
        rw [o2] at z
        cases z
      rw [ref2_out nb]
      exact na
/-- a lambda without parameters -/
theorem callOk_lam0 (S : LScope Nl scope) (hinj : InjC clos) (hclos : ∀ y, (scope.names.lookup y = some .cell ∨ scope.names.lookup y = some .free) → ∃ c, clos.lookup y = some c) (hlen : τ.length = Nl.length) (hnl : ∀ (i : Nat) (y : Str), Nl[i]? = some y → scope.names.lookup y ≠ some .local)
    (hbind : ∀ (doc pm cv ctv : Value), bindArgs (PySem.W.kdv_fn "<lambda>" q params (.expr body) scope clos .none doc pm cv ctv) ⟨[], []⟩ = pure [])
    (hbody : ∀ (A : Around) (outer : List Env) (s : Shared) (H : Hp) (E : XK), Room k (A.deeper (PySem.W.envX q scope s.heap.objs.size f (.ref c') clos)) → PE (lCx P w K mg base Nl q scope f c' clos A outer s H E) body (tb E)) :
    CallOk P w K mg base (k + 1) f (LamAt q params body scope clos dV doc pm c' ctv (fun dV _ => dV = .none) Nl τ f) (fun H Q E => tb (fun cls d H' => (∀ b, CS clos b → H' b = none) → E cls d (ref2 (CS clos) H H')) τ (unf (CS clos) H) fun v H' => (∀ b, CS clos b → H' b = none) → Q v (ref2 (CS clos) H H')) := by
  intro A outer s H Q E hr e0 hp h
  obtain ⟨_, _, eD, _⟩ := id hp
  subst eD
  exact callOk_core (binds := []) S hinj hclos hlen hr e0 hp (.of_eq (hbind _ _ _ _)) (fun y hy => absurd hy (by simp)) (fun i y v e1 _ e3 => absurd e3 (hnl i y e1)) hbody h
/-- a lambda with one parameter that has a default -/
theorem callOk_lam1 {i : Int} {a : Str} (S : LScope Nl scope) (hinj : InjC clos) (hclos : ∀ y, (scope.names.lookup y = some .cell ∨ scope.names.lookup y = some .free) → ∃ c, clos.lookup y = some c) (hlen : τ.length = Nl.length) (hnl : ∀ (j : Nat) (y : Str), Nl[j + 1]? = some y → scope.names.lookup y ≠ some .local)
    (h0 : Nl[0]? = some a) (ha : scope.names.lookup a = some .local) (hτ : τ[0]? = some (some (.int i)))
    (hbind : ∀ (s : Shared) (t : Addr) (u : Tok) (doc pm cv ctv : Value), s.heap.get? t = some (PySem.W.kdv_tup [.int i u]) → BindsTo s (PySem.W.kdv_fn "<lambda>" q params (.expr body) scope clos (.ref t) doc pm cv ctv) ⟨[], []⟩ [(a, .int i u)])
    (hbody : ∀ (A : Around) (outer : List Env) (s : Shared) (H : Hp) (E : XK), Room k (A.deeper (PySem.W.envX q scope s.heap.objs.size f (.ref c') clos)) → PE (lCx P w K mg base Nl q scope f c' clos A outer s H E) body (tb E)) :
    CallOk P w K mg base (k + 1) f (LamAt q params body scope clos dV doc pm c' ctv (Dflt1 i) Nl τ f) (fun H Q E => tb (fun cls d H' => (∀ b, CS clos b → H' b = none) → E cls d (ref2 (CS clos) H H')) τ (unf (CS clos) H) fun v H' => (∀ b, CS clos b → H' b = none) → Q v (ref2 (CS clos) H H')) := by
  intro A outer s H Q E hr e0 hp h
  obtain ⟨_, _, ⟨t, u, eD, et⟩, _⟩ := id hp
  subst eD
  refine callOk_core (binds := [(a, .int i u)]) S hinj hclos hlen hr e0 hp (hbind s t u _ _ _ _ (e0.hok t _ et).1) (fun y hy => ?_) (fun j y v e1 e2 e3 => ?_) hbody h
  · rw [List.mem_singleton.mp hy]
    exact ha
  · cases j with
    | zero =>
      rw [h0] at e1
      cases e1
      rw [hτ] at e2
      cases e2
      exact ⟨.int i u, ⟨u, rfl⟩, by simp⟩
    | succ j => exact absurd e3 (hnl j y e1)
/-- .. called with values -/
def CallOkV (P : Program) (w : World) (K : PySem.W.Frag) (mg : Str → Option Value) (base : Heap) (k : Nat) (f : Addr) (us : List Value) (ph : Hp → Prop) (sp : Hp → VK → XK → Prop) : Prop :=
  ∀ (A : Around) (outer : List Env) (s : Shared) (H : Hp) (Q : VK) (E : XK), Room k A → Env0 P w K mg base A outer s H → ph H → sp H Q E →
    codeAny (model P w) A (.call (.ref f) ⟨us, []⟩) (CR (L2.CX P w) outer P w H s Q E) s
/-- a lambda with one parameter -/
theorem callOk_lamP {v0 : V} {u0 : Value} {a : Str} (S : LScope Nl scope) (hinj : InjC clos) (hclos : ∀ y, (scope.names.lookup y = some .cell ∨ scope.names.lookup y = some .free) → ∃ c, clos.lookup y = some c) (hlen : τ.length = Nl.length) (hnl : ∀ (j : Nat) (y : Str), Nl[j + 1]? = some y → scope.names.lookup y ≠ some .local)
    (h0 : Nl[0]? = some a) (ha : scope.names.lookup a = some .local) (hτ : τ[0]? = some (some v0)) (hr0 : RelV v0 u0)
    (hbind : ∀ (doc pm cv ctv : Value), bindArgs (PySem.W.kdv_fn "<lambda>" q params (.expr body) scope clos .none doc pm cv ctv) ⟨[u0], []⟩ = pure [(a, u0)])
    (hbody : ∀ (A : Around) (outer : List Env) (s : Shared) (H : Hp) (E : XK), Room k (A.deeper (PySem.W.envX q scope s.heap.objs.size f (.ref c') clos)) → PE (lCx P w K mg base Nl q scope f c' clos A outer s H E) body (tb E)) :
    CallOkV P w K mg base (k + 1) f [u0] (LamAt q params body scope clos dV doc pm c' ctv (fun dV _ => dV = .none) Nl τ f) (fun H Q E => tb (fun cls d H' => (∀ b, CS clos b → H' b = none) → E cls d (ref2 (CS clos) H H')) τ (unf (CS clos) H) fun v H' => (∀ b, CS clos b → H' b = none) → Q v (ref2 (CS clos) H H')) := by
  intro A outer s H Q E hr e0 hp h
  obtain ⟨_, _, eD, _⟩ := id hp
  subst eD
  refine callOk_core (binds := [(a, u0)]) S hinj hclos hlen hr e0 hp (.of_eq (hbind _ _ _ _)) (fun y hy => ?_) (fun j y v e1 e2 e3 => ?_) hbody h
  · rw [List.mem_singleton.mp hy]
    exact ha
  · cases j with
    | zero =>
      rw [h0] at e1
      cases e1
      rw [hτ] at e2
      cases e2
      exact ⟨u0, hr0, by simp⟩
    | succ j => exact absurd e3 (hnl j y e1)
end
end GX
namespace GX
open PySem PySem.Spec PyProof.Rows L2 LamX
/-! ### what a call leaves: all that was known stands, but tables may have grown -/
structure XX (T : List (Addr × Str)) (H H' : Hp) : Prop where
  keep : ∀ b o, H b = some o → (∀ ps, o ≠ .tbl ps) → H' b = some o
  tbl : ∀ b ps, H b = some (.tbl ps) → ∃ ps', H' b = some (.tbl ps')
  tabG : ∀ p, GxR.TabG H p → GxR.TabG H' p
  tabs : Tabs T H → Tabs T H'
section
variable {T : List (Addr × Str)} {H H1 H2 : Hp} {K : PySem.W.Frag}
theorem XX.refl (H : Hp) : XX T H H := ⟨fun _ _ h _ => h, fun _ ps h => ⟨ps, h⟩, fun _ h => h, fun h => h⟩
theorem XX.trans (a : XX T H H1) (b : XX T H1 H2) : XX T H H2 :=
  ⟨fun c o h n => b.keep c o (a.keep c o h n) n, fun c ps h => by obtain ⟨ps', h'⟩ := a.tbl c ps h; exact b.tbl c ps' h', fun p h => b.tabG p (a.tabG p h), fun h => b.tabs (a.tabs h)⟩
theorem XX.of (e : ∀ b o, H b = some o → H1 b = some o) : XX T H H1 :=
  ⟨fun b o h _ => e b o h, fun b ps h => ⟨ps, e _ _ h⟩, fun p ⟨ps, h, t⟩ => ⟨ps, e _ _ h, t⟩, fun h => h.ext e⟩
theorem XX.new {p : Addr} {o : HO} (h : H p = none) : XX T H (upd H p o) := XX.of fun b u e => by rw [upd_ne (ne_of_none e h)]; exact e
theorem XX.then_new {p : Addr} {o : HO} (a : XX T H H1) (h : H1 p = none) : XX T H (upd H1 p o) := a.trans (XX.new h)
theorem XX.tabbed {P : Addr} (hT : ∀ p ∈ T, p.1 ≠ P) (hP : GxR.TabG H P) (t : GxR.Tabbed P H H1) : XX T H H1 := by
  obtain ⟨ps0, hp0, _⟩ := hP
  refine ⟨fun b o e n => ?_, fun b ps e => ?_, fun p h => ?_, fun h p hp => ?_⟩
  · have nb : b ≠ P := fun z => by rw [z, hp0] at e; exact n ps0 (Option.some.inj e).symm
    rw [t.2 b nb]; exact e
  · by_cases hb : b = P
    · rw [hb]; obtain ⟨ps', h', _⟩ := t.1; exact ⟨ps', h'⟩
    · exact ⟨ps, by rw [t.2 b hb]; exact e⟩
  · by_cases hb : p = P
    · rw [hb]; exact t.1
    · obtain ⟨ps, h1, h2⟩ := h
      exact ⟨ps, by rw [t.2 p hb]; exact h1, h2⟩
  · obtain ⟨ps, h1, h2, h3⟩ := h p hp
    refine ⟨ps, by rw [t.2 _ (hT p hp)]; exact h1, h2, fun pos cv hc => ?_⟩
    obtain ⟨c, e1, e2⟩ := h3 pos cv hc
    have nb : c ≠ P := fun z => by rw [z, hp0] at e2; exact codeO_ne ps0 (Option.some.inj e2).symm
    exact ⟨c, e1, by rw [t.2 c nb]; exact e2⟩
theorem XX.lam (e : ExtN H H1) (t : Tabs T H → Tabs T H1) (hg : ∀ b ps, H b = some (.tbl ps) → ∃ ps', H1 b = some (.tbl ps')) (hG : ∀ p, GxR.TabG H p → GxR.TabG H1 p) : XX T H H1 := ⟨fun b o h n => e b o h n, hg, hG, t⟩
theorem XX.there (a : XX T H H1) {p : Addr} {o : HO} (h : H p = some o) : ∃ o', H1 p = some o' := by
  by_cases ht : ∃ ps, o = .tbl ps
  · obtain ⟨ps, e⟩ := ht
    subst e
    obtain ⟨ps', h'⟩ := a.tbl p ps h
    exact ⟨_, h'⟩
  · exact ⟨o, a.keep p o h fun ps e => ht ⟨ps, e⟩⟩
theorem XX.free (a : XX T H H1) {p : Addr} (h : H1 p = none) : H p = none := by
  cases q : H p with
  | none => rfl
  | some o =>
    obtain ⟨o', q'⟩ := a.there q
    rw [h] at q'; cases q'
theorem XX.rd (a : XX T H H1) {p : Addr} {o : HO} (n : ∀ ps, o ≠ .tbl ps) (h : Rd H p o) : Rd H1 p o := by
  rcases h with h | ⟨ob, h⟩
  · exact .inl (a.keep _ _ h n)
  · exact .inr ⟨ob, a.keep _ _ h fun ps z => by cases z⟩
theorem XX.sqL (a : XX T H H1) {p : Addr} {xs : List V} (h : SqL K H p xs) : SqL K H1 p xs := by
  rcases h with h | h
  · exact .inl (a.rd (fun ps z => by cases z) h)
  · exact .inr h
theorem XX.sqT (a : XX T H H1) {p : Addr} {xs : List V} (h : SqT K H p xs) : SqT K H1 p xs := by
  rcases h with h | h
  · exact .inl (a.rd (fun ps z => by cases z) h)
  · exact .inr h
theorem XX.lst (a : XX T H H1) {p : Addr} {xs : List V} (h : H p = some (.lst xs)) : H1 p = some (.lst xs) := a.keep _ _ h fun ps z => by cases z
theorem XX.tup (a : XX T H H1) {p : Addr} {xs : List V} (h : H p = some (.tup xs)) : H1 p = some (.tup xs) := a.keep _ _ h fun ps z => by cases z
theorem XX.ins (a : XX T H H1) {p C dx : Addr} {fs : List (Str × V)} (h : H p = some (.ins C dx fs)) : H1 p = some (.ins C dx fs) := a.keep _ _ h fun ps z => by cases z
theorem XX.dk (a : XX T H H1) {p : Addr} {kvs : List (Key × V)} (h : H p = some (.dK kvs)) : H1 p = some (.dK kvs) := a.keep _ _ h fun ps z => by cases z
mutual
theorem Dp.xx (a : XX T H H1) : ∀ (d : PyData) (v : V), Dp K H v d → Dp K H1 v d
  | .none, _, h => by cases h; exact .non
  | .bool _, _, h => by cases h; exact .bl _
  | .int _, _, h => by cases h; exact .int _
  | .str _, _, h => by cases h; exact .str _
  | .list ds, _, h => by
    cases h with
    | lst hs ha => exact .lst (a.sqL hs) (Dp.xxAll a ds _ ha)
  | .tuple ds, _, h => by
    cases h with
    | tup hs ha => exact .tup (a.sqT hs) (Dp.xxAll a ds _ ha)
  | .dict _, _, h => by cases h
theorem Dp.xxAll (a : XX T H H1) : ∀ (ds : List PyData) (vs : List V), DpAll K H vs ds → DpAll K H1 vs ds
  | [], _, h => by cases h; exact .nil
  | d :: ds, _, h => by
    cases h with
    | cons h1 h2 => exact .cons (Dp.xx a d _ h1) (Dp.xxAll a ds _ h2)
end
/-! ### data -/
theorem dpAll_len : ∀ {vs : List V} {ds : List PyData}, DpAll K H vs ds → vs.length = ds.length
  | _, [], h => by cases h; rfl
  | _, d :: ds, h => by
    cases h with
    | cons h1 h2 => simp [dpAll_len h2]
theorem dpAll_get : ∀ {vs : List V} {ds : List PyData} {i : Nat} {v : V}, DpAll K H vs ds → vs[i]? = some v → ∃ d, ds[i]? = some d ∧ Dp K H v d
  | _, [], _, _, h, e => by cases h; simp at e
  | _, d :: ds, i, v, h, e => by
    cases h with
    | cons h1 h2 =>
      cases i with
      | zero => simp at e; subst e; exact ⟨d, rfl, h1⟩
      | succ i => simpa using dpAll_get h2 (by simpa using e)
theorem dpAll_at : ∀ {vs : List V} {ds : List PyData} {i : Nat} {d : PyData}, DpAll K H vs ds → ds[i]? = some d → ∃ v, vs[i]? = some v ∧ Dp K H v d
  | _, [], _, _, h, e => by simp at e
  | _, d0 :: ds, i, d, h, e => by
    cases h with
    | cons h1 h2 =>
      cases i with
      | zero => simp at e; subst e; exact ⟨_, rfl, h1⟩
      | succ i => simpa using dpAll_at h2 (by simpa using e)
theorem dp_tup {v : V} {ds : List PyData} (h : Dp K H v (.tuple ds)) : ∃ a xs, v = .ref a ∧ SqT K H a xs ∧ DpAll K H xs ds := by
  cases h with
  | tup hs ha => exact ⟨_, _, rfl, hs, ha⟩
theorem dp_lst {v : V} {ds : List PyData} (h : Dp K H v (.list ds)) : ∃ a xs, v = .ref a ∧ SqL K H a xs ∧ DpAll K H xs ds := by
  cases h with
  | lst hs ha => exact ⟨_, _, rfl, hs, ha⟩
theorem atI0 {v : V} {r : List V} : atI (v :: r) 0 = some v := atI_nat (j := 0) rfl
theorem dpAll0 {vs : List V} (h : DpAll K H vs []) : vs = [] := by cases h; rfl
theorem dpAllC {vs : List V} {d : PyData} {ds : List PyData} (h : DpAll K H vs (d :: ds)) : ∃ v r, vs = v :: r ∧ Dp K H v d ∧ DpAll K H r ds := by
  cases h with
  | cons h1 h2 => exact ⟨_, _, rfl, h1, h2⟩
theorem dpAll1 {v : V} {ds : List PyData} (h : DpAll K H [v] ds) : ∃ d, ds = [d] ∧ Dp K H v d := by
  cases ds with
  | nil => cases h
  | cons d r =>
    cases h with
    | cons h1 h2 =>
      cases r with
      | nil => exact ⟨d, rfl, h1⟩
      | cons _ _ => cases h2
theorem len2 {v0 : V} {xr : List V} (h : (v0 :: xr).length = 2) : ∃ v1, xr = [v1] := by
  match xr, h with
  | [v1], _ => exact ⟨v1, rfl⟩
theorem dpAll2 {vs : List V} {x y : PyData} (h : DpAll K H vs [x, y]) : ∃ a b, vs = [a, b] ∧ Dp K H a x ∧ Dp K H b y := by
  obtain ⟨a, r, rfl, h1, h2⟩ := dpAllC h
  obtain ⟨b, r2, rfl, h3, h4⟩ := dpAllC h2
  obtain rfl := dpAll0 h4
  exact ⟨a, b, rfl, h1, h3⟩
theorem dpAll5 {vs : List V} {d0 d1 d2 d3 d4 : PyData} (h : DpAll K H vs [d0, d1, d2, d3, d4]) : ∃ v0 v1 v2 v3 v4, vs = [v0, v1, v2, v3, v4] ∧ Dp K H v0 d0 ∧ Dp K H v1 d1 ∧ Dp K H v2 d2 ∧ Dp K H v3 d3 ∧ Dp K H v4 d4 := by
  obtain ⟨v0, r0, rfl, h0, k0⟩ := dpAllC h
  obtain ⟨v1, r1, rfl, h1, k1⟩ := dpAllC k0
  obtain ⟨v2, r2, rfl, h2, k2⟩ := dpAllC k1
  obtain ⟨v3, r3, rfl, h3, k3⟩ := dpAllC k2
  obtain ⟨v4, r4, rfl, h4, k4⟩ := dpAllC k3
  obtain rfl := dpAll0 k4
  exact ⟨v0, v1, v2, v3, v4, rfl, h0, h1, h2, h3, h4⟩
theorem dp_int {v : V} {i : Int} (h : Dp K H v (.int i)) : v = .int i := by cases h; rfl
theorem dp_str {v : V} {i : Str} (h : Dp K H v (.str i)) : v = .str i := by cases h; rfl
theorem dp_non {d : PyData} (h : Dp K H .non d) : d = .none := by cases h; rfl
theorem dp_notN {v : V} {d : PyData} (h : Dp K H v d) (hv : v ≠ .non) : d ≠ .none := by
  intro e
  subst e
  cases h
  exact hv rfl
/-- no dicts in it -/
def tyN : PyData → String
  | .none => "NoneType"
  | .bool _ => "bool"
  | .int _ => "int"
  | .str _ => "str"
  | .list _ => "list"
  | .tuple _ => "tuple"
  | .dict _ => "dict"
theorem ty_of {v : V} {d : PyData} (h : Dp K H v d) : TyX K H v (.type (tyN d)) := by
  cases h with
  | non => exact .base .non
  | bl b => exact .base (.bl b)
  | int i => exact .base (.int i)
  | str x => exact .base (.str x)
  | lst hs _ =>
    rcases hs with (h | ⟨o, h⟩) | ⟨o, its, n, h1, h2, _⟩
    · exact .base (.lst h)
    · exact .base (.frz h)
    · exact .kList h1 h2
  | tup hs _ =>
    rcases hs with (h | ⟨o, h⟩) | ⟨o, its, n, h1, h2, _⟩
    · exact .base (.tup h)
    · exact .fTuple h
    · exact .kTuple h1 h2
/-- isinstance, of data -/
def isT (n : String) (d : PyData) : Bool := match d with
  | .none => decide (n = "NoneType")
  | .bool _ => decide (n = "bool") || decide (n = "int")
  | .int _ => decide (n = "int")
  | .str _ => decide (n = "str")
  | .list _ => decide (n = "list")
  | .tuple _ => decide (n = "tuple")
  | .dict _ => decide (n = "dict")
theorem rIsi_of {v : V} {d : PyData} {Q : VK} (n : String) (h : Dp K H v d) (hn : ∀ m ∈ ["NoneType", "bool", "int", "str", "list", "tuple", "dict"], kitB m n = some (decide (m = n) || (decide (m = "bool") && decide (n = "int")))) (q : Q (.bl (isT n d)) H) : rIsi K [v, .ty n] H Q := by
  refine ⟨v, .ty n, .type (tyN d), .type n, isT n d, rfl, .ty n, ty_of h, kit_ty ?_, q⟩
  rw [hn (tyN d) (by cases d <;> simp [tyN])]
  cases d <;> simp [tyN, isT, eq_comm]
theorem t_isi {σ : L2.St} {i : Nat} {v : V} {d : PyData} {n : String} {Q : VK} (hσ : σ[i]? = some (some v)) (h : Dp K H v d) (hn : ∀ m ∈ ["NoneType", "bool", "int", "str", "list", "tuple", "dict"], kitB m n = some (decide (m = n) || (decide (m = "bool") && decide (n = "int")))) (q : Q (.bl (isT n d)) H) :
    tCB (rIsi K) (tCons (tVar i) (tCons (tC (.ty n)) tNil)) σ H Q := ⟨v, hσ, rIsi_of n h hn q⟩
theorem kit_int : ∀ m ∈ ["NoneType", "bool", "int", "str", "list", "tuple", "dict"], kitB m "int" = some (decide (m = "int") || (decide (m = "bool") && decide (("int" : String) = "int"))) := by decide +kernel
theorem kit_bool : ∀ m ∈ ["NoneType", "bool", "int", "str", "list", "tuple", "dict"], kitB m "bool" = some (decide (m = "bool") || (decide (m = "bool") && decide (("bool" : String) = "int"))) := by decide +kernel
theorem kit_tuple : ∀ m ∈ ["NoneType", "bool", "int", "str", "list", "tuple", "dict"], kitB m "tuple" = some (decide (m = "tuple") || (decide (m = "bool") && decide (("tuple" : String) = "int"))) := by decide +kernel
theorem kit_list : ∀ m ∈ ["NoneType", "bool", "int", "str", "list", "tuple", "dict"], kitB m "list" = some (decide (m = "list") || (decide (m = "bool") && decide (("list" : String) = "int"))) := by decide +kernel
theorem kit_str : ∀ m ∈ ["NoneType", "bool", "int", "str", "list", "tuple", "dict"], kitB m "str" = some (decide (m = "str") || (decide (m = "bool") && decide (("str" : String) = "int"))) := by decide +kernel
end
/-! ### a def that is called by its name -/
structure Cal1 (P : Program) (w : World) (K : PySem.W.Frag) (mg : Str → Option Value) (base : Heap) (CX : CXT) (x : Str) (ps : List Str) (k : Nat) (sp : Sp) (f : Addr) (fd : FuncData) : Prop where
  F : FnOk P w K mg base CX k f fd ps sp
  m : mg x = some (.ref f)
  kp : PySem.W.keepIn K (.ref f) = true
  b : Binds K fd ps []
def Cal (P : Program) (w : World) (K : PySem.W.Frag) (mg : Str → Option Value) (base : Heap) (CX : CXT) (x : Str) (ps : List Str) (k : Nat) (sp : Sp) : Prop := ∃ f fd, Cal1 P w K mg base CX x ps k sp f fd
section
variable {X : Cx}
theorem pe_cal {ps : List Str} {k : Nat} {sp : Sp} {x : Str} {p pos : Pos} {e : Expr} {es : List Expr} {t : TA} (c : Cal X.prog X.w X.K X.mg X.base CX0 x ps k sp) (hr : Room k X.A) (ha : PA X (e :: es) t) (hg : Gl X x := by rfl) (hdb : (x == ("__debug__" : Str)) = false := by decide)
    (he : starEach (e :: es) X.env = (false, eval e X.env) :: starEach es X.env := by rfl) (hpl : (backTo pos (starEach es X.env)).any (·.1) = false := by rfl) : PE X (.Call (.Name x p) (e :: es) [] pos) (tCall sp [] E0 t) := by
  obtain ⟨f, fd, c⟩ := c
  exact pe_call c.F hr hg c.m c.kp c.b .nil pass0 ha hdb he hpl
theorem pe_cal0 {ps : List Str} {k : Nat} {sp : Sp} {x : Str} {p pos : Pos} (c : Cal X.prog X.w X.K X.mg X.base CX0 x ps k sp) (hr : Room k X.A) (hg : Gl X x := by rfl) (hdb : (x == ("__debug__" : Str)) = false := by decide) : PE X (.Call (.Name x p) [] [] pos) (tCall sp [] E0 tNil) := by
  obtain ⟨f, fd, c⟩ := c
  exact pe_call0 c.F hr hg c.m c.kp c.b .nil pass0 hdb
/-- .. that may raise -/
theorem pe_calX {ps : List Str} {k : Nat} {sp : Sp} {x : Str} {p pos : Pos} {e : Expr} {es : List Expr} {t : TA} {E : XK} (c : Cal X.prog X.w X.K X.mg X.base (L2.CX X.prog X.w) x ps k sp) (hr : Room k X.A) (hx : Passes (L2.CX X.prog X.w) X E) (ha : PA X (e :: es) t) (hg : Gl X x := by rfl) (hdb : (x == ("__debug__" : Str)) = false := by decide)
    (he : starEach (e :: es) X.env = (false, eval e X.env) :: starEach es X.env := by rfl) (hpl : (backTo pos (starEach es X.env)).any (·.1) = false := by rfl) : PE X (.Call (.Name x p) (e :: es) [] pos) (tCall sp [] E t) := by
  obtain ⟨f, fd, c⟩ := c
  exact pe_call c.F hr hg c.m c.kp c.b .nil hx ha hdb he hpl
theorem pe_no {e : Expr} : PE X e (fun _ _ _ => False) := ⟨fun _ _ _ _ _ _ h => h.elim⟩
end
/-- a def whose code object is known -/
structure FunC (K : PySem.W.Frag) (x qual : Str) (st : Stmt) (f : Addr) (fd : FuncData) (c : Addr) : Prop where
  ex : ∃ (oc : Value) (od : Option Addr) (kV doc pm : Value) (an : Option Addr) (ct : Value) (osl : Array (Option Value)),
    fd = PySem.W.fnOf x qual (defArgs st) (defBody st) (defScope st) .none kV doc pm an (.ref c) ct ∧ K.lookup f = some ⟨oc, od, .func fd, osl⟩ ∧ PySem.W.codeIn K (.ref c) qual = true
  kp : PySem.W.keepIn K (.ref f) = true
theorem FunC.toFun {K : PySem.W.Frag} {x qual : Str} {st : Stmt} {f : Addr} {fd : FuncData} {c : Addr} (F : FunC K x qual st f fd c) : Fun K x qual st f fd := by
  obtain ⟨oc, od, kV, doc, pm, an, ct, osl, e, l, q⟩ := F.ex
  exact ⟨⟨oc, od, kV, doc, pm, an, .ref c, ct, osl, e, l, q⟩, F.kp⟩
theorem FunC.ok {P : Program} {w : World} {K : PySem.W.Frag} {mg : Str → Option Value} {base : Heap} {x qual : Str} {st : Stmt} {f : Addr} {fd : FuncData} {c : Addr} {N ps : List Str} {k : Nat} {sp : Sp} (F : FunC K x qual st f fd c) (S : FnScope N ps (defScope st)) (len : ∀ vs H Q E, sp vs H Q E → vs.length = ps.length)
    (hbody : ∀ (A : Around) (outer : List Env) (s : Shared) (H : Hp) (vs : List V) (Q : VK) (E : XK), Room k (A.deeper (envOfC qual (defScope st) s.heap.objs.size f (.ref c))) → sp vs H Q E →
      ∃ t, PSs (cxOf CX0 P w K mg base N qual (defScope st) f (.ref c) A outer s H E).nox (defBody st) t ∧ t { nx := fun _ H' => Q .non H', rt := Q } (start N vs) H) : FnOk P w K mg base CX0 (k + 1) f fd ps sp := by
  obtain ⟨oc, od, kV, doc, pm, an, ct, osl, rfl, lk, hcd⟩ := F.ex
  refine fn_of lk hcd S len fun A outer s H vs Q E hr hsp => ?_
  obtain ⟨t, h, q⟩ := hbody A outer s H vs Q E hr hsp
  exact ⟨t, h.nox, q⟩
end GX
/-! the program's forms as plain functions over data -/
namespace GX
open PySem PySem.Spec PyProof.Rows L2 LamX
def isNum : PyData → Int → Int → Bool
  | .int i, lo, hi => decide (lo ≤ i) && decide (i ≤ hi)
  | _, _, _ => false
def isTup : PyData → Int → Bool
  | .tuple ds, n => decide ((ds.length : Int) = n)
  | _, _ => false
def isNext : PyData → Bool
  | .none => true
  | .tuple [a, b] => isNum a 0 11 && isNum b 0 7
  | _ => false
def holds : List PyData → Int → Bool
  | [_, t, b, s, n], least => isNum t 0 99 && isNum b 0 24 && (match b with | .int bi => isNum s least (24 - bi) | _ => false) && isNext n
  | _, _ => false
def isSlot : PyData → Bool
  | .tuple (w :: r) => if PyData.eqv w (.str "free") = true then (match r with | [t] => isNum t 0 100 | _ => false) else if PyData.eqv w (.str "row") = true then holds (w :: r) 0 else PyData.eqv w (.str "part") && holds (w :: r) 1
  | _ => false
def isFrame : PyData → Bool
  | .tuple [.tuple s, .tuple c] => decide (s.length = 8) && decide (c.length = 24) && c.all fun x => isNum x 0 99
  | _ => false
def isPage : PyData → Bool
  | .tuple [.tuple s, .tuple c] => isFrame (.tuple [.tuple s, .tuple c]) && s.all isSlot
  | _ => false
def freeD (t : Int) : PyData := .tuple [.str "free", .int t]
def freshD : PyData := .tuple [.tuple (List.replicate 8 (freeD 0)), .tuple (List.replicate 24 (.int 0))]
theorem isTup_dec {xs : List V} {ds : List PyData} {n : Int} (h : xs.length = ds.length) : isTup (.tuple ds) n = decide (V.int (xs.length : Int) = V.int n) := by
  rw [dec_int, h]
  show decide _ = _
  by_cases e : ((ds.length : Nat) : Int) = n
  · simp [e]
  · simp [e]
theorem isTup2 {d : PyData} (h : isTup d 2 = true) : ∃ x y, d = .tuple [x, y] := by
  match d, h with
  | .tuple [x, y], _ => exact ⟨x, y, rfl⟩
  | .tuple [], h => simp [isTup] at h
  | .tuple [_], h => simp [isTup] at h
  | .tuple (_ :: _ :: _ :: r), h => simp [isTup] at h; omega
theorem isNext_no {d : PyData} (hn : d ≠ .none) (h : isTup d 2 = false) : isNext d = false := by
  match d, hn, h with
  | .none, hn, _ => exact absurd rfl hn
  | .tuple [x, y], _, h => simp [isTup] at h
  | .tuple [], _, _ => rfl
  | .tuple [_], _, _ => rfl
  | .tuple (_ :: _ :: _ :: r), _, _ => rfl
  | .int _, _, _ => rfl
  | .bool _, _, _ => rfl
  | .str _, _, _ => rfl
  | .list _, _, _ => rfl
  | .dict _, _, _ => rfl
theorem len5 {ds : List PyData} (h : ds.length = 5) : ∃ a b c d e, ds = [a, b, c, d, e] := by
  match ds, h with
  | [a, b, c, d, e], _ => exact ⟨a, b, c, d, e, rfl⟩
theorem holds_no {ds : List PyData} {least : Int} (h : ¬ ds.length = 5) : holds ds least = false := by
  unfold holds
  split
  · exact absurd rfl h
  · rfl
theorem isT_tuple {d : PyData} (h : isT "tuple" d = true) : ∃ ds, d = .tuple ds := by
  cases d with
  | tuple ds => exact ⟨ds, rfl⟩
  | _ => exact absurd h (by simp [isT])
theorem isSlot_no {d : PyData} (h : isT "tuple" d = false) : isSlot d = false := by
  cases d with
  | tuple ds => exact absurd h (by simp [isT])
  | _ => rfl
theorem isSlot_free {d0 : PyData} {r : List PyData} (e : PyData.eqv d0 (.str "free") = true) (h : ∀ d1, r ≠ [d1]) : isSlot (.tuple (d0 :: r)) = false := by
  match r, h with
  | [], _ => simp [isSlot, e]
  | [d1], h => exact absurd rfl (h d1)
  | _ :: _ :: _, _ => simp [isSlot, e]
theorem isTupN {d : PyData} {n : Nat} (h : isTup d n = true) : ∃ ds, d = .tuple ds ∧ ds.length = n := by
  match d, h with
  | .tuple ds, h => exact ⟨ds, rfl, by have := of_decide_eq_true h; omega⟩
theorem isFrame_no {d : PyData} (h : isTup d 2 = false) : isFrame d = false := by
  unfold isFrame
  split
  · simp [isTup] at h
  · rfl
theorem isFrame_no1 {x y : PyData} (h : isTup x 8 = false) : isFrame (.tuple [x, y]) = false := by
  unfold isFrame
  split
  · rename_i s c e
    injection e with e
    injection e with e1 e2
    subst e1
    have h' : ¬ ((s.length : Nat) : Int) = 8 := by simpa [isTup] using h
    have : ¬ s.length = 8 := by omega
    simp [this]
  · rfl
theorem isFrame_no2 {x y : PyData} (h : isTup y 24 = false) : isFrame (.tuple [x, y]) = false := by
  unfold isFrame
  split
  · rename_i s c e
    injection e with e
    injection e with e1 e2
    injection e2 with e2 e3
    subst e2
    have h' : ¬ ((c.length : Nat) : Int) = 24 := by simpa [isTup] using h
    have : ¬ c.length = 24 := by omega
    simp [this]
  · rfl
theorem isFrame_shape {d : PyData} (h : isFrame d = true) : ∃ s c, d = .tuple [.tuple s, .tuple c] := by
  unfold isFrame at h
  split at h
  · exact ⟨_, _, rfl⟩
  · cases h
theorem isPage_no {d : PyData} (h : isFrame d = false) : isPage d = false := by
  unfold isPage
  split
  · rw [h]; rfl
  · rfl
theorem isNum_int {d : PyData} {lo hi : Int} (h : isNum d lo hi = true) : ∃ i, d = .int i ∧ lo ≤ i ∧ i ≤ hi := by
  match d, h with
  | .int i, h => exact ⟨i, rfl, by simpa [isNum] using h⟩
theorem shaped_mem {xs : List PyData} {x : PyData} (h : SeqAt.shaped (.tuple xs) = true) (hx : x ∈ xs) : SeqAt.shaped x = true := by
  have h1 := SeqAt.canLay_of_shaped h
  have h2 := SeqAt.depth_of_shaped h
  have h3 : PyData.canLayAll0 xs = true := by simpa only [PyData.canLay0] using h1
  have h4 : PyData.depthAll xs + 1 ≤ 64 := by simpa only [PyData.depth] using h2
  have h5 := PyData.depth_le_depthAll xs x hx
  unfold SeqAt.shaped
  rw [PyData.canLay0_of_mem xs x h3 hx]
  exact decide_eq_true (by omega)
theorem shaped_str (x : Str) (h : PyData.canLay0 (.str x) = true) : SeqAt.shaped (.str x) = true := by
  unfold SeqAt.shaped
  rw [h]
  exact decide_eq_true (by show 0 ≤ 64; omega)
theorem sh_free : SeqAt.shaped (.str "free") = true := by decide +kernel
theorem sh_row : SeqAt.shaped (.str "row") = true := by decide +kernel
theorem sh_part : SeqAt.shaped (.str "part") = true := by decide +kernel
/-! ### promises -/
def spNum (K : PySem.W.Frag) : Sp := fun vs H Q _ => ∃ v d lo hi, vs = [v, .int lo, .int hi] ∧ Dp K H v d ∧ Q (.bl (isNum d lo hi)) H
def spTup (K : PySem.W.Frag) : Sp := fun vs H Q _ => ∃ v d n, vs = [v, .int n] ∧ Dp K H v d ∧ Q (.bl (isTup d n)) H
def spNext (K : PySem.W.Frag) : Sp := fun vs H Q _ => ∃ v d, vs = [v] ∧ Dp K H v d ∧ Q (.bl (isNext d)) H
def spHolds (K : PySem.W.Frag) : Sp := fun vs H Q _ => ∃ v ds least, vs = [v, .int least] ∧ Dp K H v (.tuple ds) ∧ Q (.bl (holds ds least)) H
def spSlot (K : PySem.W.Frag) : Sp := fun vs H Q _ => ∃ v d, vs = [v] ∧ Dp K H v d ∧ SeqAt.shaped d = true ∧ Q (.bl (isSlot d)) H
def valsB (ds : List PyData) : Bool := ds.all fun z => isNum z 0 99
def isCells : PyData → Bool
  | .tuple ds => decide (ds.length = 24) && valsB ds
  | _ => false
def spVals (K : PySem.W.Frag) (T : List (Addr × Str)) (P : Addr) : Sp := fun vs H Q _ => ∃ v d ds, vs = [v] ∧ Dp K H v d ∧ (d = .list ds ∨ d = .tuple ds) ∧ GxR.TabG H P ∧ ∀ H', XX T H H' → Q (.bl (valsB ds)) H'
def spCells (K : PySem.W.Frag) (T : List (Addr × Str)) (P : Addr) : Sp := fun vs H Q _ => ∃ v d, vs = [v] ∧ Dp K H v d ∧ GxR.TabG H P ∧ ∀ H', XX T H H' → Q (.bl (isCells d)) H'
def spFrame (K : PySem.W.Frag) (T : List (Addr × Str)) (P : Addr) : Sp := fun vs H Q _ => ∃ v d, vs = [v] ∧ Dp K H v d ∧ GxR.TabG H P ∧ ∀ H', XX T H H' → Q (.bl (isFrame d)) H'
def spPage (K : PySem.W.Frag) (T : List (Addr × Str)) (P1 P2 : Addr) : Sp := fun vs H Q _ => ∃ v d, vs = [v] ∧ Dp K H v d ∧ SeqAt.shaped d = true ∧ GxR.TabG H P1 ∧ GxR.TabG H P2 ∧ ∀ H', XX T H H' → Q (.bl (isPage d)) H'
def spFresh (K : PySem.W.Frag) (T : List (Addr × Str)) : Sp := fun vs H Q _ => vs = [] ∧ ∀ H' v, XX T H H' → Dp K H' v freshD → Q v H'
/-- the numbers of the module forms -/
structure CoF (mg : Str → Option Value) : Prop where
  slots : ∃ t, mg "SLOTS" = some (.int 8 t)
  cells : ∃ t, mg "CELLS" = some (.int 24 t)
  most : ∃ t, mg "MOST_PAGES" = some (.int 12 t)
  cell : ∃ t, mg "GREATEST_CELL" = some (.int 99 t)
  turn : ∃ t, mg "GREATEST_TURN" = some (.int 99 t)
  spent : ∃ t, mg "SPENT_TURN" = some (.int 100 t)
/-- built-in names that the program does not bind -/
structure Blt (mg : Str → Option Value) : Prop where
  isi : mg "isinstance" = none
  len : mg "len" = none
  all : mg "all" = none
  int : mg "int" = none
  bool : mg "bool" = none
  tuple : mg "tuple" = none
  list : mg "list" = none
  range : mg "range" = none
section
variable {X : Cx}
theorem pe_const {x : Str} {n : Int} {pos : Pos} (h : ∃ t, X.mg x = some (.int n t)) (hg : Gl X x := by rfl) (hd : (x == ("__debug__" : Str)) = false := by decide) : PE X (.Name x pos) (tC (.int n)) := by
  obtain ⟨t, h⟩ := h
  exact pe_glob hg h ⟨t, rfl⟩ hd
end
theorem k_isi : bootBuiltins "isinstance" = some (.builtin "isinstance") := by decide +kernel
end GX
namespace GX
open PySem PySem.Spec PyProof.Rows L2 LamX
def gsB (N Ng : List Str) (sc scope : Scope) (x : Str) (cap : List Nat) : Bool :=
  decide (scope.kind = .function) && !scope.isCoroutine && (scope.names.all fun y => !decide (y.2 = .cell)) && decide (scope.names.lookup (".0" : Str) = some .local) && decide (scope.names.lookup x = some .local) &&
    (scope.names.all fun y => !decide (y.2 = .free) || decide (sc.names.lookup y.1 = some .cell) || decide (sc.names.lookup y.1 = some .free)) && decide Ng.Nodup && decide (Ng[0]? = some x) && decide (Ng.length = cap.length + 1) &&
    (List.range cap.length).all fun j => match Ng[j + 1]?, cap[j]? with
      | some y, some i => decide (scope.names.lookup y = some .free) && decide (N[i]? = some y)
      | _, _ => false
theorem gs_by {N Ng : List Str} {sc scope : Scope} {x : Str} {cap : List Nat} (h : gsB N Ng sc scope x cap = true) : GS N Ng sc scope x cap := by
  unfold gsB at h
  simp only [Bool.and_eq_true, Bool.or_eq_true, Bool.not_eq_true', decide_eq_true_eq, decide_eq_false_iff_not, List.all_eq_true] at h
  obtain ⟨⟨⟨⟨⟨⟨⟨⟨⟨h1, h2⟩, h3⟩, h4⟩, h5⟩, h6⟩, h7⟩, h8⟩, h9⟩, h10⟩ := h
  refine ⟨h1, h2, fun y hy => h3 y hy, h4, h5, fun y hy e => ?_, h7, h8, fun j y e => ?_, h9⟩
  · rcases h6 y hy with (z | z) | z
    · exact absurd e z
    · exact .inl z
    · exact .inr z
  · have hj : j < cap.length := by
      have := (List.getElem?_eq_some_iff.mp e).1
      omega
    have q := h10 j (List.mem_range.mpr hj)
    rw [e, List.getElem?_eq_getElem hj] at q
    simp only [Bool.and_eq_true, decide_eq_true_eq] at q
    exact ⟨q.1, cap[j], List.getElem?_eq_getElem hj, q.2⟩
section
variable {K : PySem.W.Frag} {T : List (Addr × Str)} {H : Hp} {σ : L2.St} {cap : List Nat} {te : TE} {Q : VK} {P : Addr}
theorem all_take {α : Type} (g : α → Bool) : ∀ (l : List α) (i : Nat) (x : α), l[i]? = some x → (l.take (i + 1)).all g = ((l.take i).all g && g x)
  | [], i, x, h => by simp at h
  | a :: l, 0, x, h => by simp at h; subst h; simp
  | a :: l, i + 1, x, h => by
    have ih := all_take g l i x (by simpa using h)
    rw [List.take_succ_cons, List.all_cons, ih, List.take_succ_cons, List.all_cons, Bool.and_assoc]
theorem all_no {α : Type} (g : α → Bool) {l : List α} {x : α} (hx : x ∈ l) (h : g x = false) : l.all g = false := by
  rw [Bool.eq_false_iff]
  intro z
  have := List.all_eq_true.mp z x hx
  rw [h] at this
  cases this
/-- what is asked of a walk over data, in a tuple -/
theorem all_dpT {a : Addr} {xs : List V} {ds : List PyData} {g : PyData → Bool} (hS : SqT K H a xs) (hd : DpAll K H xs ds)
    (hel : ∀ (d : PyData) (v : V) (H' : Hp) (W : VK), d ∈ ds → Dp K H' v d → XX T H H' → (∀ H2, XX T H' H2 → W (.bl (g d)) H2) → te ((gSt σ cap).set 0 (some v)) H' W) (k : ∀ H', XX T H H' → Q (.bl (ds.all g)) H') :
    ∃ (N : Nat) (Pv : Nat → Hp → Prop), Pv 0 H ∧ Turns (Itt K a) N (gSt σ cap) te Pv (fun i y H => ∃ b, y = .bl b ∧ (b = true → Pv (i + 1) H) ∧ (b = false → Q (.bl false) H)) (fun _ H => Q (.bl true) H) := by
  refine ⟨ds.length, fun i H' => XX T H H' ∧ (ds.take i).all g = true ∧ i ≤ ds.length, ⟨XX.refl H, by simp, Nat.zero_le _⟩, fun i H' p => ?_⟩
  obtain ⟨x1, x2, x3⟩ := p
  have hl := dpAll_len hd
  by_cases hi : i < ds.length
  · obtain ⟨v, ev, dv⟩ := dpAll_at hd (List.getElem?_eq_getElem hi)
    refine .inr ⟨⟨xs, v, x1.sqT hS, ev⟩, hi, fun v' H'' y => ?_⟩
    obtain ⟨e1, e2⟩ := y
    rw [e1]
    have e3 := e2 xs (x1.sqT hS)
    have e5 : v = v' := Option.some.inj (ev.symm.trans e3)
    rw [e5] at dv
    refine hel ds[i] v' H' _ (List.getElem_mem hi) (Dp.xx x1 _ _ dv) x1 fun H2 x4 => ⟨g ds[i], rfl, fun hb => ⟨x1.trans x4, ?_, hi⟩, fun hb => ?_⟩
    · rw [all_take g ds i _ (List.getElem?_eq_getElem hi), x2, hb]; rfl
    · have := k H2 (x1.trans x4)
      rw [all_no g (List.getElem_mem hi) hb] at this
      exact this
  · refine .inl ⟨⟨xs, x1.sqT hS, by omega⟩, ?_⟩
    have e : ds.take i = ds := List.take_of_length_le (by omega)
    rw [e] at x2
    have := k H' x1
    rw [x2] at this
    exact this
theorem all_dpL {a : Addr} {xs : List V} {ds : List PyData} {g : PyData → Bool} (hS : SqL K H a xs) (hd : DpAll K H xs ds)
    (hel : ∀ (d : PyData) (v : V) (H' : Hp) (W : VK), d ∈ ds → Dp K H' v d → XX T H H' → (∀ H2, XX T H' H2 → W (.bl (g d)) H2) → te ((gSt σ cap).set 0 (some v)) H' W) (k : ∀ H', XX T H H' → Q (.bl (ds.all g)) H') :
    ∃ (N : Nat) (Pv : Nat → Hp → Prop), Pv 0 H ∧ Turns (Itl K a) N (gSt σ cap) te Pv (fun i y H => ∃ b, y = .bl b ∧ (b = true → Pv (i + 1) H) ∧ (b = false → Q (.bl false) H)) (fun _ H => Q (.bl true) H) := by
  refine ⟨ds.length, fun i H' => XX T H H' ∧ (ds.take i).all g = true ∧ i ≤ ds.length, ⟨XX.refl H, by simp, Nat.zero_le _⟩, fun i H' p => ?_⟩
  obtain ⟨x1, x2, x3⟩ := p
  have hl := dpAll_len hd
  by_cases hi : i < ds.length
  · obtain ⟨v, ev, dv⟩ := dpAll_at hd (List.getElem?_eq_getElem hi)
    refine .inr ⟨⟨xs, v, x1.sqL hS, ev⟩, hi, fun v' H'' y => ?_⟩
    obtain ⟨e1, e2⟩ := y
    rw [e1]
    have e3 := e2 xs (x1.sqL hS)
    have e5 : v = v' := Option.some.inj (ev.symm.trans e3)
    rw [e5] at dv
    refine hel ds[i] v' H' _ (List.getElem_mem hi) (Dp.xx x1 _ _ dv) x1 fun H2 x4 => ⟨g ds[i], rfl, fun hb => ⟨x1.trans x4, ?_, hi⟩, fun hb => ?_⟩
    · rw [all_take g ds i _ (List.getElem?_eq_getElem hi), x2, hb]; rfl
    · have := k H2 (x1.trans x4)
      rw [all_no g (List.getElem_mem hi) hb] at this
      exact this
  · refine .inl ⟨⟨xs, x1.sqL hS, by omega⟩, ?_⟩
    have e : ds.take i = ds := List.take_of_length_le (by omega)
    rw [e] at x2
    have := k H' x1
    rw [x2] at this
    exact this
end
end GX
namespace GX
open PySem PySem.Spec PyProof.Rows L2 LamX
/-- all that was known stands but what is at S (lists, dicts, instances); tables may have grown -/
structure XM (T : List (Addr × Str)) (S : Addr → Prop) (H H' : Hp) : Prop where
  keep : ∀ b o, H b = some o → ¬ S b → (∀ ps, o ≠ .tbl ps) → H' b = some o
  there : ∀ b o, H b = some o → ∃ o', H' b = some o'
  tup : ∀ b xs, H b = some (.tup xs) → H' b = some (.tup xs)
  frz : ∀ b o u, H b = some (.frz o u) → H' b = some (.frz o u)
  tabG : ∀ p, GxR.TabG H p → GxR.TabG H' p
  tabs : Tabs T H → Tabs T H'
/-- what may be changed -/
def MutO : HO → Prop
  | .lst _ => True
  | .dK _ => True
  | .dT _ => True
  | .ins _ _ _ => True
  | _ => False
section
variable {T : List (Addr × Str)} {S S' : Addr → Prop} {H H1 H2 : Hp} {K : PySem.W.Frag}
theorem XX.xm (a : XX T H H1) : XM T S H H1 := ⟨fun b o e _ n => a.keep b o e n, fun _ _ e => a.there e, fun _ _ e => a.tup e, fun _ _ _ e => a.keep _ _ e (fun ps z => by cases z), a.tabG, a.tabs⟩
theorem XM.refl (H : Hp) : XM T S H H := (XX.refl H).xm
theorem XM.trans (a : XM T S H H1) (b : XM T S H1 H2) : XM T S H H2 :=
  ⟨fun c o e n t => b.keep c o (a.keep c o e n t) n t, fun c o e => by obtain ⟨o', e'⟩ := a.there c o e; exact b.there c o' e', fun c xs e => b.tup c xs (a.tup c xs e), fun c o u e => b.frz c o u (a.frz c o u e), fun p h => b.tabG p (a.tabG p h), fun h => b.tabs (a.tabs h)⟩
theorem XM.mono (a : XM T S H H1) (h : ∀ b, S b → S' b) : XM T S' H H1 := ⟨fun b o e n t => a.keep b o e (fun z => n (h b z)) t, a.there, a.tup, a.frz, a.tabG, a.tabs⟩
theorem XM.upd {p : Addr} {o o' : HO} (hp : H p = some o) (hS : S p) (m : MutO o) : XM T S H (upd H p o') := by
  have ne : ∀ {b u}, H b = some u → ¬ MutO u → b ≠ p := fun {b u} e n z => by rw [z, hp] at e; cases e; exact n m
  refine ⟨fun b u e n _ => ?_, fun b u e => ?_, fun b xs e => ?_, fun b ob u e => ?_, fun q h => ?_, fun h q hq => ?_⟩
  · rw [upd_ne (fun z => n (by rw [z]; exact hS))]; exact e
  · by_cases hb : b = p
    · exact ⟨o', by rw [hb, upd_same]⟩
    · exact ⟨u, by rw [upd_ne hb]; exact e⟩
  · rw [upd_ne (ne e fun z => z)]; exact e
  · rw [upd_ne (ne e fun z => z)]; exact e
  · obtain ⟨ps, h1, h2⟩ := h
    exact ⟨ps, by rw [upd_ne (ne h1 fun z => z)]; exact h1, h2⟩
  · obtain ⟨ps, h1, h2, h3⟩ := h q hq
    refine ⟨ps, by rw [upd_ne (ne h1 fun z => z)]; exact h1, h2, fun pos cv hc => ?_⟩
    obtain ⟨c, e1, e2⟩ := h3 pos cv hc
    exact ⟨c, e1, by rw [upd_ne (ne e2 fun z => z)]; exact e2⟩
theorem XM.then_upd {p : Addr} {o o' : HO} (a : XM T S H H1) (hp : H1 p = some o) (hS : S p) (m : MutO o) : XM T S H (L2.upd H1 p o') := a.trans (XM.upd hp hS m)
theorem XM.then_new {p : Addr} {o : HO} (a : XM T S H H1) (h : H1 p = none) : XM T S H (L2.upd H1 p o) := a.trans (XX.new h).xm
/-- a new thing may be changed: it was not known -/
theorem XM.drop {S0 : Addr → Prop} (a : XM T S H H1) (h : ∀ b, S b → ¬ S0 b → H b = none) : XM T S0 H H1 :=
  ⟨fun b o e n t => a.keep b o e (fun z => by have := h b z n; rw [e] at this; cases this) t, a.there, a.tup, a.frz, a.tabG, a.tabs⟩
theorem XM.xx (a : XM T (fun _ => False) H H1) (ht : ∀ b ps, H b = some (.tbl ps) → ∃ ps', H1 b = some (.tbl ps')) : XX T H H1 := ⟨fun b o e t => a.keep b o e id t, ht, a.tabG, a.tabs⟩
theorem XM.free (a : XM T S H H1) {p : Addr} (h : H1 p = none) : H p = none := by
  cases q : H p with
  | none => rfl
  | some o =>
    obtain ⟨o', q'⟩ := a.there p o q
    rw [h] at q'; cases q'
theorem XM.sqT (a : XM T S H H1) {p : Addr} {xs : List V} (h : SqT K H p xs) : SqT K H1 p xs := by
  rcases h with (h | ⟨o, h⟩) | h
  · exact .inl (.inl (a.tup _ _ h))
  · exact .inl (.inr ⟨o, a.frz _ _ _ h⟩)
  · exact .inr h
theorem XM.lst (a : XM T S H H1) {p : Addr} {xs : List V} (h : H p = some (.lst xs)) (n : ¬ S p) : H1 p = some (.lst xs) := a.keep _ _ h n fun ps z => by cases z
theorem XM.ins (a : XM T S H H1) {p C dx : Addr} {fs : List (Str × V)} (h : H p = some (.ins C dx fs)) (n : ¬ S p) : H1 p = some (.ins C dx fs) := a.keep _ _ h n fun ps z => by cases z
theorem XM.dk (a : XM T S H H1) {p : Addr} {kvs : List (Key × V)} (h : H p = some (.dK kvs)) (n : ¬ S p) : H1 p = some (.dK kvs) := a.keep _ _ h n fun ps z => by cases z
/-! data without lists -/
mutual
def flatD : PyData → Bool
  | .none => true
  | .bool _ => true
  | .int _ => true
  | .str _ => true
  | .tuple ds => flatAll ds
  | .list _ => false
  | .dict _ => false
def flatAll : List PyData → Bool
  | [] => true
  | d :: ds => flatD d && flatAll ds
end
mutual
theorem Dp.xm (a : XM T S H H1) : ∀ (d : PyData) (v : V), flatD d = true → Dp K H v d → Dp K H1 v d
  | .none, _, _, h => by cases h; exact .non
  | .bool _, _, _, h => by cases h; exact .bl _
  | .int _, _, _, h => by cases h; exact .int _
  | .str _, _, _, h => by cases h; exact .str _
  | .list ds, _, f, h => by cases f
  | .tuple ds, _, f, h => by
    cases h with
    | tup hs ha =>
      exact .tup (a.sqT hs) (Dp.xmAll a ds _ f ha)
  | .dict _, _, _, h => by cases h
theorem Dp.xmAll (a : XM T S H H1) : ∀ (ds : List PyData) (vs : List V), flatAll ds = true → DpAll K H vs ds → DpAll K H1 vs ds
  | [], _, _, h => by cases h; exact .nil
  | d :: ds, _, f, h => by
    cases h with
    | cons h1 h2 =>
      have f' := Bool.and_eq_true_iff.mp f
      exact .cons (Dp.xm a d _ f'.1 h1) (Dp.xmAll a ds _ f'.2 h2)
end
end
/-! ### the error classes -/
abbrev veMro : List Value := [.type "ValueError", .type "Exception", .type "BaseException", .type "object"]
structure ErrC (K : PySem.W.Frag) (mg : Str → Option Value) (x : Str) (C : Addr) : Prop where
  g : mg x = some (.ref C)
  x : PySem.W.excIn K C veMro "ValueError.__new__" = true
  k : PySem.W.keepIn K (.ref C) = true
  s : PySem.W.subIn K (.ref C) (.type "BaseException") = some true
  t : PySem.W.typeIn K (.ref C) = some (.type "type")
section
variable {X : Cx}
theorem pmk_err {x m : Str} {j : Nat} {p p2 pos : Pos} {C : Addr} (e : ErrC X.K X.mg x C) (hg : Gl X x := by rfl) (hdb : (x == ("__debug__" : Str)) = false := by decide) : PMk X (.Call (.Name x p) [.Constant (.str m) j p2] [] pos) (fun _ H Q => Q (.ref C) none H) :=
  pmk_own PySem.F.excBase_ValueError e.x e.g e.k (raises_own e.s e.t) hg hdb
end
/-! ### a method that is called -/
structure Met1 (P : Program) (w : World) (K : PySem.W.Frag) (mg : Str → Option Value) (base : Heap) (CX : CXT) (C : Addr) (m : Str) (ps : List Str) (k : Nat) (sp : Sp) (f : Addr) (fd : FuncData) : Prop where
  F : FnOk P w K mg base CX k f fd ps sp
  m : Meth K C m f
  b : Binds K fd ps []
def Met (P : Program) (w : World) (K : PySem.W.Frag) (mg : Str → Option Value) (base : Heap) (CX : CXT) (C : Addr) (m : Str) (ps : List Str) (k : Nat) (sp : Sp) : Prop := ∃ f fd, Met1 P w K mg base CX C m ps k sp f fd
section
variable {X : Cx} {C : Addr} {m : Str} {ps : List Str} {k : Nat} {sp : Sp} {o e : Expr} {es : List Expr} {ta : TE} {t : TA} {apos pos : Pos} {E : XK} {CX : CXT}
theorem pe_met {pl : Sem Bool} (M : Met X.prog X.w X.K X.mg X.base CX C m ps k sp) (c : Cls X.K C) (hr : Room k X.A) (hx : Passes CX X E) (he : PE X o ta) (ha : PA X (e :: es) t)
    (hst : starEach (e :: es) X.env = (false, eval e X.env) :: starEach es X.env := by rfl) (hpl : (backTo pos (starEach es X.env)).any (·.1) = false := by rfl)
    (ht : eval (.Call (.Attribute o m apos) (e :: es) [] pos) X.env = (do
      let ov ← eval o X.env
      standAt apos.atName
      let (f, first) ← holding [ov] (getMethod ov m pl)
      callWith pos f first (backTo pos (starEach (e :: es) X.env)) (backToKw pos (keywordEach [] X.env))) := by rfl) : PE X (.Call (.Attribute o m apos) (e :: es) [] pos) (tMeth C m sp [] E ta t) := by
  obtain ⟨f, fd, M⟩ := M
  exact pe_meth he c M.m M.F hr M.b .nil hx ha hst hpl ht
end
section
variable {X : Cx} {C : Addr} {m : Str} {ps : List Str} {k : Nat} {sp : Sp} {o : Expr} {ta : TE} {apos pos : Pos} {E : XK} {CX : CXT}
theorem pe_met0 {pl : Sem Bool} (M : Met X.prog X.w X.K X.mg X.base CX C m ps k sp) (c : Cls X.K C) (hr : Room k X.A) (hx : Passes CX X E) (he : PE X o ta)
    (ht : eval (.Call (.Attribute o m apos) [] [] pos) X.env = (do
      let ov ← eval o X.env
      standAt apos.atName
      let (f, first) ← holding [ov] (getMethod ov m pl)
      callWith pos f first (backTo pos (starEach [] X.env)) (backToKw pos (keywordEach [] X.env))) := by rfl) : PE X (.Call (.Attribute o m apos) [] [] pos) (tMeth C m sp [] E ta tNil) := by
  obtain ⟨f, fd, M⟩ := M
  exact pe_meth0 he c M.m M.F hr M.b .nil hx ht
end
theorem passX {X : Cx} {P : Program} {w : World} {E : XK} (hP : P = X.prog := by rfl) (hw : w = X.w := by rfl) (tk : Takes X (fun cls d _ H => E cls d H)) : Passes (L2.CX P w) X E := by
  subst hP
  subst hw
  exact passes_call tk fun _ _ _ _ h => h
end GX
namespace GX
open PySem PySem.Spec PyProof.Rows L2 LamX
def lv : Option Int → V
  | none => .non
  | some k => .int k
def dF (l : Addr) (n : Int) (lf : Option Int) (st : Bool) : List (Str × V) := [("_sheets", .ref l), ("_done", .int n), ("_left", lv lf), ("_stands", .bl st)]
structure DiskAt (K : PySem.W.Frag) (C : Addr) (H : Hp) (p dx l : Addr) (pages : List PyData) (done : Int) (left : Option Int) (stands : Bool) : Prop where
  ins : H p = some (.ins C dx (dF l done left stands))
  lst : ∃ xs, H l = some (.lst xs) ∧ DpAll K H xs pages
  flat : ∀ d ∈ pages, flatD d = true
/-- the classes that the disk's module speaks of -/
structure DTx (K : PySem.W.Frag) (mg : Str → Option Value) (C cD cN cP cC cS : Addr) : Prop where
  cl : Cls K C
  n1 : NoAttr K C "_sheets"
  n2 : NoAttr K C "_done"
  n3 : NoAttr K C "_left"
  n4 : NoAttr K C "_stands"
  eD : ErrC K mg "BadDisk" cD
  eN : ErrC K mg "NoPage" cN
  eP : ErrC K mg "BadPage" cP
  eC : ErrC K mg "BadCount" cC
  eS : ErrC K mg "Stopped" cS
  least : ∃ t, mg "LEAST_PAGES" = some (.int 2 t)
  most : ∃ t, mg "MOST_PAGES" = some (.int 12 t)
  count : ∃ t, mg "GREATEST_COUNT" = some (.int 1000000 t)
section
variable {K : PySem.W.Frag} {T : List (Addr × Str)} {C : Addr} {H H' : Hp} {p dx l : Addr} {pages : List PyData} {done : Int} {left : Option Int} {stands : Bool}
theorem DiskAt.ne (d : DiskAt K C H p dx l pages done left stands) : p ≠ l := by
  obtain ⟨xs, h, _⟩ := d.lst
  exact ne_of d.ins h fun z => by cases z
theorem dpAll_xm {S : Addr → Prop} {H1 : Hp} (a : XM T S H H1) : ∀ {ds : List PyData} {vs : List V}, (∀ d ∈ ds, flatD d = true) → DpAll K H vs ds → DpAll K H1 vs ds
  | [], _, _, h => by obtain rfl := dpAll0 h; exact .nil
  | d :: ds, _, f, h => by
    obtain ⟨v, r, rfl, h1, h2⟩ := dpAllC h
    exact .cons (Dp.xm a d v (f d List.mem_cons_self) h1) (dpAll_xm a (fun e he => f e (List.mem_cons_of_mem _ he)) h2)
theorem DiskAt.xm {S : Addr → Prop} (d : DiskAt K C H p dx l pages done left stands) (a : XM T S H H') (h1 : ¬ S p) (h2 : ¬ S l) : DiskAt K C H' p dx l pages done left stands := by
  obtain ⟨xs, h, hd⟩ := d.lst
  exact ⟨a.ins d.ins h1, ⟨xs, a.lst h h2, dpAll_xm a d.flat hd⟩, d.flat⟩
theorem DiskAt.xx (d : DiskAt K C H p dx l pages done left stands) (a : XX T H H') : DiskAt K C H' p dx l pages done left stands := d.xm (S := fun _ => False) a.xm id id
/-- its fields are stored -/
theorem DiskAt.fld (d : DiskAt K C H p dx l pages done left stands) (done' : Int) (left' : Option Int) (stands' : Bool) : DiskAt K C (upd H p (.ins C dx (dF l done' left' stands'))) p dx l pages done' left' stands' := by
  obtain ⟨xs, h, hd⟩ := d.lst
  exact ⟨upd_same, ⟨xs, by rw [upd_ne (Ne.symm d.ne)]; exact h, dpAll_xm (T := []) (XM.upd (S := fun b => b = p) d.ins rfl True.intro) d.flat hd⟩, d.flat⟩
theorem dpAll_set {v : V} {d : PyData} (hv : Dp K H v d) : ∀ (i : Nat) {xs : List V} {ds : List PyData}, DpAll K H xs ds → DpAll K H (xs.set i v) (ds.set i d)
  | _, _, [], h => by obtain rfl := dpAll0 h; exact .nil
  | 0, _, d0 :: ds, h => by
    obtain ⟨v0, r, rfl, h1, h2⟩ := dpAllC h
    exact .cons hv h2
  | i + 1, _, d0 :: ds, h => by
    obtain ⟨v0, r, rfl, h1, h2⟩ := dpAllC h
    exact .cons h1 (dpAll_set hv i h2)
theorem mem_set {α : Type} {l : List α} {i : Nat} {a b : α} (h : b ∈ l.set i a) : b = a ∨ b ∈ l := by
  rcases List.mem_or_eq_of_mem_set h with z | z
  · exact .inr z
  · exact .inl z
theorem dpAll_app {xs ys : List V} {ds es : List PyData} : DpAll K H xs ds → DpAll K H ys es → DpAll K H (xs ++ ys) (ds ++ es) := by
  intro h1 h2
  induction ds generalizing xs with
  | nil => obtain rfl := dpAll0 h1; exact h2
  | cons d ds ih =>
    obtain ⟨v, r, rfl, q1, q2⟩ := dpAllC h1
    exact .cons q1 (ih q2)
end
theorem flat_fresh : flatD freshD = true := by decide +kernel
theorem shaped_fresh : SeqAt.shaped freshD = true := by decide +kernel
theorem page_fresh : isPage freshD = true := by decide +kernel
/-! ### promises -/
def spDInit (K : PySem.W.Frag) (T : List (Addr × Str)) (C cD : Addr) : Sp := fun vs H Q E => ∃ p dx v d, vs = [.ref p, v] ∧ H p = some (.ins C dx []) ∧ Dp K H v d ∧ (isNum d 2 12 = false → E (.ref cD) none H) ∧
  ∀ n : Int, d = .int n → 2 ≤ n → n ≤ 12 → ∀ H' l, XM T (fun b => b = p) H H' → H l = none → DiskAt K C H' p dx l (List.replicate n.toNat freshD) 0 none false → Q .non H'
def spDPages (K : PySem.W.Frag) (C : Addr) : Sp := fun vs H Q _ => ∃ p dx l pages done left stands, vs = [.ref p] ∧ DiskAt K C H p dx l pages done left stands ∧ Q (.int pages.length) H
def spDWrites (K : PySem.W.Frag) (C : Addr) : Sp := fun vs H Q _ => ∃ p dx l pages done left stands, vs = [.ref p] ∧ DiskAt K C H p dx l pages done left stands ∧ Q (.int done) H
def spDCheck (K : PySem.W.Frag) (C cN cS : Addr) : Sp := fun vs H Q E => ∃ p dx l pages done left stands v d, vs = [.ref p, v] ∧ DiskAt K C H p dx l pages done left stands ∧ Dp K H v d ∧
  (stands = true → E (.ref cS) none H) ∧ (stands = false → isNum d 0 ((pages.length : Int) - 1) = false → E (.ref cN) none H) ∧ (stands = false → isNum d 0 ((pages.length : Int) - 1) = true → Q .non H)
def spDCount (K : PySem.W.Frag) (T : List (Addr × Str)) (C cS : Addr) : Sp := fun vs H Q E => ∃ p dx l pages done left stands, vs = [.ref p] ∧ DiskAt K C H p dx l pages done left stands ∧
  (left = none → Q .non H) ∧ (left = some 0 → ∀ H', XM T (fun b => b = p) H H' → DiskAt K C H' p dx l pages done left true → E (.ref cS) none H') ∧
  (∀ k, left = some k → k ≠ 0 → ∀ H', XM T (fun b => b = p) H H' → DiskAt K C H' p dx l pages done (some (k - 1)) stands → Q .non H')
def spDPage (K : PySem.W.Frag) (C cN cS : Addr) : Sp := fun vs H Q E => ∃ p dx l pages done left stands v d, vs = [.ref p, v] ∧ DiskAt K C H p dx l pages done left stands ∧ Dp K H v d ∧
  (stands = true → E (.ref cS) none H) ∧ (stands = false → isNum d 0 ((pages.length : Int) - 1) = false → E (.ref cN) none H) ∧
  (∀ (i : Nat) (e : PyData) (u : V), stands = false → d = .int i → pages[i]? = some e → Dp K H u e → Q u H)
def spDWrite (K : PySem.W.Frag) (T : List (Addr × Str)) (P1 P2 C cN cP cS : Addr) : Sp := fun vs H Q E => ∃ p dx l pages done left stands v d u e, vs = [.ref p, v, u] ∧ DiskAt K C H p dx l pages done left stands ∧ Dp K H v d ∧ Dp K H u e ∧ flatD e = true ∧ SeqAt.shaped e = true ∧
  GxR.TabG H P1 ∧ GxR.TabG H P2 ∧ (stands = true → E (.ref cS) none H) ∧ (stands = false → isNum d 0 ((pages.length : Int) - 1) = false → E (.ref cN) none H) ∧
  (stands = false → isNum d 0 ((pages.length : Int) - 1) = true → isPage e = false → ∀ H', XX T H H' → E (.ref cP) none H') ∧
  (stands = false → isNum d 0 ((pages.length : Int) - 1) = true → isPage e = true → left = some 0 → ∀ H', XM T (fun b => b = p) H H' → DiskAt K C H' p dx l pages done left true → E (.ref cS) none H') ∧
  (∀ (i : Nat), stands = false → d = .int i → i < pages.length → isPage e = true → left ≠ some 0 → ∀ H', XM T (fun b => b = p ∨ b = l) H H' → DiskAt K C H' p dx l (pages.set i e) (done + 1) (left.map (· - 1)) false → Q .non H')
def spDArm (K : PySem.W.Frag) (T : List (Addr × Str)) (C cC : Addr) : Sp := fun vs H Q E => ∃ p dx l pages done left stands v d, vs = [.ref p, v] ∧ DiskAt K C H p dx l pages done left stands ∧ Dp K H v d ∧ (isNum d 0 1000000 = false → E (.ref cC) none H) ∧
  (∀ n, d = .int n → isNum d 0 1000000 = true → ∀ H', XM T (fun b => b = p) H H' → DiskAt K C H' p dx l pages done (some n) stands → Q .non H')
def spDAgain (K : PySem.W.Frag) (T : List (Addr × Str)) (C : Addr) : Sp := fun vs H Q _ => ∃ p dx l pages done left stands, vs = [.ref p] ∧ DiskAt K C H p dx l pages done left stands ∧
  ∀ H', XM T (fun b => b = p) H H' → DiskAt K C H' p dx l pages done none false → Q .non H'
end GX
namespace GX
open PySem PySem.Spec PyProof.Rows L2 LamX
/-- the box of the script's numbers -/
structure BoxAt (H : Hp) (b l : Addr) (ns : List Int) (z : Int) : Prop where
  hb : H b = some (.lst [.ref l, .int z])
  hl : H l = some (.lst (ns.map V.int))
  ne : b ≠ l
  lo : 0 ≤ z
  hi : z < 2147483647
  len : ns.length ≤ 63
def spBegun (K : PySem.W.Frag) (T : List (Addr × Str)) : Sp := fun vs H Q _ => ∃ a ns, vs = [.ref a] ∧ SqL K H a (ns.map V.int) ∧ ns.length ≤ 63 ∧ ∀ H' b l z, XX T H H' → BoxAt H' b l ns z → H b = none → H l = none → Q (.ref b) H'
def spTake (T : List (Addr × Str)) : Sp := fun vs H Q _ => ∃ b l ns z m, vs = [.ref b, .int m] ∧ BoxAt H b l ns z ∧ 0 < m ∧ m < 1000000 ∧
  ∀ H' ns' z' r, XM T (fun c => c = b ∨ c = l) H H' → BoxAt H' b l ns' z' → 0 ≤ r → r < m → Q (.int r) H'
section
variable {K : PySem.W.Frag} {T : List (Addr × Str)} {H H' : Hp} {b l : Addr} {ns : List Int} {z : Int}
theorem BoxAt.xx (h : BoxAt H b l ns z) (a : XX T H H') : BoxAt H' b l ns z := ⟨a.lst h.hb, a.lst h.hl, h.ne, h.lo, h.hi, h.len⟩
theorem BoxAt.xm {S : Addr → Prop} (h : BoxAt H b l ns z) (a : XM T S H H') (h1 : ¬ S b) (h2 : ¬ S l) : BoxAt H' b l ns z := ⟨a.lst h.hb h1, a.lst h.hl h2, h.ne, h.lo, h.hi, h.len⟩
theorem dp_ints (H : Hp) : ∀ ns : List Int, DpAll K H (ns.map V.int) (ns.map PyData.int)
  | [] => .nil
  | n :: ns => .cons (.int n) (dp_ints H ns)
theorem canLay_ints : ∀ ns : List Int, PyData.canLayAll0 (ns.map PyData.int) = true
  | [] => rfl
  | n :: ns => by
    show (PyData.canLay0 (.int n) && PyData.canLayAll0 (ns.map PyData.int)) = true
    rw [canLay_ints ns]; rfl
theorem depth_ints : ∀ ns : List Int, PyData.depthAll (ns.map PyData.int) = 0
  | [] => rfl
  | n :: ns => by
    show max (PyData.depth (.int n)) (PyData.depthAll (ns.map PyData.int)) = 0
    rw [depth_ints ns]; rfl
theorem shaped_ints (ns : List Int) : SeqAt.shaped (.list (ns.map PyData.int)) = true := by
  unfold SeqAt.shaped
  have h1 : PyData.canLay0 (.list (ns.map PyData.int)) = true := by
    show PyData.canLayAll0 (ns.map PyData.int) = true
    exact canLay_ints ns
  have h2 : PyData.depth (.list (ns.map PyData.int)) = 1 := by
    show PyData.depthAll (ns.map PyData.int) + 1 = 1
    rw [depth_ints]
  rw [h1, h2]
  rfl
theorem eqv_nil (ns : List Int) : PyData.eqv (.list (ns.map PyData.int)) (.list []) = ns.isEmpty := by
  cases ns with
  | nil => rfl
  | cons n r => rfl
theorem shaped_nil : SeqAt.shaped (.list []) = true := by decide +kernel
end
end GX
namespace GX
open PySem PySem.Spec PyProof.Rows L2 LamX
/-! ### a call of a slot's thing inside a try -/
section
variable {X : Cx}
def tActS (P : Program) (w : World) (K : PySem.W.Frag) (mg : Str → Option Value) (base : Heap) (k i : Nat) (E : L2.St → XK) : TE := fun σ H Q => tAct P w K mg base k i (E σ) σ H Q
theorem pe_act0S {k i : Nat} {a : Str} {E : L2.St → XK} {p1 p2 : Pos} (hr : Room k X.A) (hx : ∀ σ, PassesAt (L2.CX X.prog X.w) X σ (E σ)) (hN : X.N[i]? = some a) (hv : Vis X.env.scope a) (hd : (a == ("__debug__" : Str)) = false := by decide) (hcd : (a == ("__classdict__" : Str)) = false := by decide) :
    PE X (.Call (.Name a p1) [] [] p2) (tActS X.prog X.w X.K X.mg X.base k i E) := by
  refine ⟨fun pins s σ H Q I h => ?_⟩
  obtain ⟨f, ph, sp, hs, ho, hc, hp, ht⟩ := h
  refine wpAny_Call_Name_kw (thn ((pe_var (pos := p1) (i := i) hN hv hd hcd).run pins s σ H (fun v H1 => v = .ref f ∧ H1 = H) I ⟨.ref f, hs, rfl, rfl⟩) fun u s1 hh => ?_)
  obtain ⟨v, H1, I1, r1, ev, eH⟩ := hh
  subst ev
  subst eH
  obtain rfl : u = Value.ref f := r1
  refine PySem.W.callWith_F0 (ho.at I1) ?_
  refine wpAny_call (codeAny_mono (hc X.A X.stack s1 H1 Q (E σ) hr I1.env0 hp ht) fun r s' hq => ?_)
  cases r with
  | error e => exact hx σ pins H1 s1 e s' I1 hq
  | ok fl =>
    cases fl with
    | ret u => exact I1.after hq
    | next => exact False.elim hq
    | brk => exact False.elim hq
    | cont => exact False.elim hq
/-! ### list.count of flat values -/
def rCntF (K : PySem.W.Frag) : V → List V → Hp → VK → Prop := fun x xs H Q => ∃ (p : Addr) (ys : List V) (y : V), x = .ref p ∧ xs = [y] ∧ SqL K H p ys ∧ flatV y = true ∧ ys.all flatV = true ∧ Q (.int ((ys.countP fun z => eqV z y : Nat) : Int)) H
theorem eqU_count {y : V} : ∀ {ys : List V} {us : List Value}, Vals ys us → ys.all flatV = true → us.countP (eqU y) = ys.countP fun z => eqV z y
  | _, _, .nil, _ => rfl
  | _, _, .cons r t, f => by
    rw [List.all_cons, Bool.and_eq_true] at f
    rw [List.countP_cons, List.countP_cons, eqU_count t f.2, eqU_of r f.1]
theorem mt_fcount : MtR X "list.count" (rCntF X.K) := by
  intro pins s σ H x xs v us Q I rx rxs h
  obtain ⟨p, ys, y, rfl, rfl, hs, fy, fys, q⟩ := h
  cases rx
  cases rxs with
  | cons ry rt =>
    rename_i uy ut
    cases rt
    obtain ⟨its, rv, ⟨⟨cls, dd, data, sl⟩, n, ho, hc, hdn, hd⟩, hlen⟩ := I.list hs
    simp only at hc hd
    subst hc hd
    refine call_meets PySem.F.slot_list_count ⟨_, ho, rfl⟩ PySem.F.entry_list_count (PySem.F.args_list_count_2 _ _)
      (SeqAt.list_countAt p its.toArray n dd sl uy (eqU y)) ⟨ho, fun u' hu' => mem_eqAt ry fy rv fys u' (by simpa using hu'), ?_⟩
    have ec : its.toArray.toList.countP (eqU y) = ys.countP fun z => eqV z y := eqU_count rv fys
    refine ⟨.int ((ys.countP fun z => eqV z y : Nat) : Int), H, I.tok _, ⟨s.toks, ?_⟩, q⟩
    show Value.int ((its.toArray.toList.countP (eqU y) : Nat) : Int) s.toks = _
    rw [ec]
end
theorem pss_ex {X : Cx} {α : Type} {b : List Stmt} {Pr : α → Prop} {t : α → TS} (h : ∀ y, Pr y → PSs X b (t y)) : PSs X b (fun D σ H => ∃ y, Pr y ∧ t y D σ H) := ⟨fun pins s σ H D I ht => by
  obtain ⟨y, hy, ht⟩ := ht
  exact (h y hy).run pins s σ H D I ht⟩
/-! ### the words of refusals -/
def wordsE : List Str := ["BadCount", "BadDisk", "BadPage", "BadRow", "BadText", "Full", "NoPage", "NoRow", "Stopped"]
/-- the nine classes' places -/
structure ETab (mg : Str → Option Value) (cE : Addr) (cs : Fin 9 → Addr) : Prop where
  gE : mg "PageError" = some (.ref cE)
  g0 : mg "BadCount" = some (.ref (cs 0))
  g1 : mg "BadDisk" = some (.ref (cs 1))
  g2 : mg "BadPage" = some (.ref (cs 2))
  g3 : mg "BadRow" = some (.ref (cs 3))
  g4 : mg "BadText" = some (.ref (cs 4))
  g5 : mg "Full" = some (.ref (cs 5))
  g6 : mg "NoPage" = some (.ref (cs 6))
  g7 : mg "NoRow" = some (.ref (cs 7))
  g8 : mg "Stopped" = some (.ref (cs 8))
/-- an error of the i-th class -/
structure EIs (K : PySem.W.Frag) (cE : Addr) (cs : Fin 9 → Addr) (i : Fin 9) (D : Addr) : Prop where
  ex : ExcC K D
  top : PySem.W.exmOne K (.ref D) (.ref cE) = some true
  is_ : ∀ j : Fin 9, PySem.W.kitOne K (.ref D) (.ref (cs j)) = some (decide (j = i))
  ve : PySem.W.kitOne K (.ref D) (.type "ValueError") = some true
def toldD (i : Fin 9) : PyData := .tuple [.str (wordsE.getD i.1 ""), .int 0]
/-- _law_told: what the callee tells, or its refusal's word -/
def spTold (P : Program) (w : World) (K : PySem.W.Frag) (mg : Str → Option Value) (base : Heap) (T : List (Addr × Str)) (cE : Addr) (cs : Fin 9 → Addr) (k : Nat) : Sp := fun vs H Q _ => ∃ f ph sp, vs = [.ref f] ∧ FnObj H f ∧ CallOk P w K mg base k f ph sp ∧ ph H ∧
  ∀ E : XK, (∀ H1 i D, i.1 ≠ 4 → EIs K cE cs i D → (∀ H' v, XX T H1 H' → Dp K H' v (toldD i) → Q v H') → E (.ref D) none H1) → sp H Q E
end GX
namespace GX
open PySem PySem.Spec PyProof.Rows L2 LamX
mutual
def okD : PyData → Bool
  | .none => true
  | .bool _ => true
  | .int _ => true
  | .str _ => true
  | .tuple ds => decide (ds.length ≤ 1000) && okAll ds
  | .list ds => decide (ds.length ≤ 1000) && okAll ds
  | .dict _ => false
def okAll : List PyData → Bool
  | [] => true
  | d :: ds => okD d && okAll ds
end
/-- two values that are the same data, of depth below n -/
def spAl (K : PySem.W.Frag) : Nat → Sp
  | 0 => fun _ _ _ _ => False
  | n + 1 => fun vs H Q _ => ∃ a b d, vs = [a, b] ∧ Dp K H a d ∧ Dp K H b d ∧ okD d = true ∧ PyData.depth d ≤ n ∧ Q (.bl true) H
/-- each of the works is refused, by the i-th word -/
def spAll (P : Program) (w : World) (K : PySem.W.Frag) (mg : Str → Option Value) (base : Heap) (T : List (Addr × Str)) (cE : Addr) (cs : Fin 9 → Addr) (k : Nat) : Sp := fun vs H Q _ => ∃ (a : Addr) (fs : List Addr) (v : V) (i : Fin 9), vs = [.ref a, v] ∧ SqL K H a (fs.map V.ref) ∧ Dp K H v (toldD i) ∧ i.1 ≠ 4 ∧
  (∀ f ∈ fs, ∀ H1, XX T H H1 → ∃ ph sp, FnObj H1 f ∧ CallOk P w K mg base k f ph sp ∧ ph H1 ∧ ∀ (Q : VK) (E : XK), (∀ H2 D, XX T H1 H2 → EIs K cE cs i D → E (.ref D) none H2) → sp H1 Q E) ∧ ∀ H', XX T H H' → Q (.bl true) H'
theorem depth_told (i : Fin 9) : PyData.depth (toldD i) ≤ 1 := by decide +revert +kernel
theorem ok_toldD (i : Fin 9) : okD (toldD i) = true := by decide +revert +kernel
end GX
/-! what is a page by isPage is a small thing without lists -/
namespace GX
open PySem PySem.Spec PyProof.Rows L2 LamX
structure Nice (d : PyData) (n : Nat) : Prop where
  fl : flatD d = true
  cl : PyData.canLay0 d = true
  ok : okD d = true
  dp : PyData.depth d ≤ n
theorem flatAll_of : ∀ {ds : List PyData}, (∀ d ∈ ds, flatD d = true) → flatAll ds = true
  | [], _ => rfl
  | d :: ds, h => by
    show (flatD d && flatAll ds) = true
    rw [h d List.mem_cons_self, flatAll_of fun e he => h e (List.mem_cons_of_mem _ he)] <;> rfl
theorem canLayAll_of : ∀ {ds : List PyData}, (∀ d ∈ ds, PyData.canLay0 d = true) → PyData.canLayAll0 ds = true
  | [], _ => rfl
  | d :: ds, h => by
    show (PyData.canLay0 d && PyData.canLayAll0 ds) = true
    rw [h d List.mem_cons_self, canLayAll_of fun e he => h e (List.mem_cons_of_mem _ he)] <;> rfl
theorem okAll_of : ∀ {ds : List PyData}, (∀ d ∈ ds, okD d = true) → okAll ds = true
  | [], _ => rfl
  | d :: ds, h => by
    show (okD d && okAll ds) = true
    rw [h d List.mem_cons_self, okAll_of fun e he => h e (List.mem_cons_of_mem _ he)] <;> rfl
theorem depthAll_of {n : Nat} : ∀ {ds : List PyData}, (∀ d ∈ ds, PyData.depth d ≤ n) → PyData.depthAll ds ≤ n
  | [], _ => Nat.zero_le _
  | d :: ds, h => by
    show max (PyData.depth d) (PyData.depthAll ds) ≤ n
    exact Nat.max_le.mpr ⟨h d List.mem_cons_self, depthAll_of fun e he => h e (List.mem_cons_of_mem _ he)⟩
theorem Nice.mono {d : PyData} {m n : Nat} (h : Nice d m) (hm : m ≤ n) : Nice d n := ⟨h.fl, h.cl, h.ok, Nat.le_trans h.dp hm⟩
theorem nice_tuple {ds : List PyData} {n : Nat} (hl : ds.length ≤ 1000) (h : ∀ d ∈ ds, Nice d n) : Nice (.tuple ds) (n + 1) := by
  refine ⟨flatAll_of fun d hd => (h d hd).fl, canLayAll_of fun d hd => (h d hd).cl, ?_, ?_⟩
  · show (decide (ds.length ≤ 1000) && okAll ds) = true
    rw [decide_eq_true hl, okAll_of fun d hd => (h d hd).ok] <;> rfl
  · show PyData.depthAll ds + 1 ≤ n + 1
    exact Nat.succ_le_succ (depthAll_of fun d hd => (h d hd).dp)
theorem nice_int (i : Int) : Nice (.int i) 0 := ⟨rfl, rfl, rfl, Nat.le_refl _⟩
theorem nice_none : Nice .none 0 := ⟨rfl, rfl, rfl, Nat.le_refl _⟩
theorem nice_num {d : PyData} {lo hi : Int} (h : isNum d lo hi = true) : Nice d 0 := by
  obtain ⟨i, rfl, _, _⟩ := isNum_int h
  exact nice_int i
theorem nice_next {d : PyData} (h : isNext d = true) : Nice d 1 := by
  match d, h with
  | .none, _ => exact nice_none.mono (by decide)
  | .tuple [a, b], h =>
    have h' := Bool.and_eq_true_iff.mp (show (isNum a 0 11 && isNum b 0 7) = true from h)
    refine nice_tuple (n := 0) (by simp) fun d hd => ?_
    rcases List.mem_cons.mp hd with e | hd
    · rw [e]; exact nice_num h'.1
    · rw [List.mem_singleton.mp hd]; exact nice_num h'.2
theorem eqv_strL {w : PyData} {x : Str} (h : PyData.eqv w (.str x) = true) : w = .str x := by
  cases w with
  | str y =>
    have h : (y == x) = true := h
    rw [eq_of_beq h]
  | _ => exact absurd h (by simp [PyData.eqv])
def sizeR (b s : PyData) (least : Int) : Bool := match b with
  | .int bi => isNum s least (24 - bi)
  | _ => false
theorem holds_4 (w t b s n : PyData) (least : Int) : holds [w, t, b, s, n] least = (isNum t 0 99 && isNum b 0 24 && sizeR b s least && isNext n) := by cases b <;> rfl
def freeR : List PyData → Bool
  | [t] => isNum t 0 100
  | _ => false
theorem isSlot_cons (w : PyData) (r : List PyData) : isSlot (.tuple (w :: r)) = if PyData.eqv w (.str "free") = true then freeR r else if PyData.eqv w (.str "row") = true then holds (w :: r) 0 else PyData.eqv w (.str "part") && holds (w :: r) 1 := by
  rcases r with _ | ⟨t, _ | ⟨u, r⟩⟩ <;> rfl
theorem nice_holds {w : PyData} {r : List PyData} {least : Int} (hw : Nice w 0) (h : holds (w :: r) least = true) : Nice (.tuple (w :: r)) 2 := by
  match r, h with
  | [t, b, s, n], h =>
    have h' := h
    rw [holds_4, Bool.and_eq_true, Bool.and_eq_true, Bool.and_eq_true] at h'
    obtain ⟨⟨⟨h1, h2⟩, h3⟩, h4⟩ := h'
    obtain ⟨bi, rfl, _, _⟩ := isNum_int h2
    have h3 : isNum s least (24 - bi) = true := h3
    refine nice_tuple (by simp) fun d hd => ?_
    rcases List.mem_cons.mp hd with e | hd
    · rw [e]; exact hw.mono (by decide)
    · rcases List.mem_cons.mp hd with e | hd
      · rw [e]; exact (nice_num h1).mono (by decide)
      · rcases List.mem_cons.mp hd with e | hd
        · rw [e]; exact (nice_num h2).mono (by decide)
        · rcases List.mem_cons.mp hd with e | hd
          · rw [e]; exact (nice_num h3).mono (by decide)
          · rw [List.mem_singleton.mp hd]; exact nice_next h4
theorem nice_lit {x : Str} (h : PyData.canLay0 (.str x) = true) : Nice (.str x) 0 := ⟨rfl, h, rfl, Nat.le_refl _⟩
theorem nice_slot {d : PyData} (h : isSlot d = true) : Nice d 2 := by
  match d, h with
  | .tuple (w :: r), h =>
    rw [isSlot_cons] at h
    by_cases e1 : PyData.eqv w (.str "free") = true
    · rw [if_pos e1] at h
      have h' : freeR r = true := h
      clear h
      obtain rfl := eqv_strL e1
      match r, h' with
      | [t], h' =>
        refine (nice_tuple (n := 0) (by simp) fun d hd => ?_).mono (by decide)
        rcases List.mem_cons.mp hd with e | hd
        · rw [e]; exact nice_lit (by decide +kernel)
        · rw [List.mem_singleton.mp hd]; exact nice_num h'
    · by_cases e2 : PyData.eqv w (.str "row") = true
      · rw [if_neg e1, if_pos e2] at h
        have h' := h
        obtain rfl := eqv_strL e2
        exact nice_holds (nice_lit (by decide +kernel)) h'
      · rw [if_neg e1, if_neg e2] at h
        have h' := h
        rw [Bool.and_eq_true] at h'
        obtain rfl := eqv_strL h'.1
        exact nice_holds (nice_lit (by decide +kernel)) h'.2
theorem isPage_parts {d : PyData} (h : isPage d = true) : ∃ s c, d = .tuple [.tuple s, .tuple c] ∧ s.length = 8 ∧ c.length = 24 ∧ (∀ x ∈ c, isNum x 0 99 = true) ∧ ∀ x ∈ s, isSlot x = true := by
  match d, h with
  | .tuple [.tuple s, .tuple c], h =>
    have h' : (isFrame (.tuple [.tuple s, .tuple c]) && s.all isSlot) = true := h
    rw [Bool.and_eq_true] at h'
    have h1 : (decide (s.length = 8) && decide (c.length = 24) && c.all fun x => isNum x 0 99) = true := h'.1
    rw [Bool.and_eq_true, Bool.and_eq_true] at h1
    exact ⟨s, c, rfl, of_decide_eq_true h1.1.1, of_decide_eq_true h1.1.2, List.all_eq_true.mp h1.2, List.all_eq_true.mp h'.2⟩
theorem isPage_of {s c : List PyData} (h1 : s.length = 8) (h2 : c.length = 24) (h3 : ∀ x ∈ c, isNum x 0 99 = true) (h4 : ∀ x ∈ s, isSlot x = true) : isPage (.tuple [.tuple s, .tuple c]) = true := by
  show (isFrame (.tuple [.tuple s, .tuple c]) && s.all isSlot) = true
  rw [Bool.and_eq_true]
  refine ⟨?_, List.all_eq_true.mpr h4⟩
  show (decide (s.length = 8) && decide (c.length = 24) && c.all fun x => isNum x 0 99) = true
  rw [Bool.and_eq_true, Bool.and_eq_true]
  exact ⟨⟨decide_eq_true h1, decide_eq_true h2⟩, List.all_eq_true.mpr h3⟩
theorem nice_page {d : PyData} (h : isPage d = true) : Nice d 4 := by
  obtain ⟨s, c, rfl, h1, h2, h3, h4⟩ := isPage_parts h
  refine nice_tuple (by simp) fun d hd => ?_
  rcases List.mem_cons.mp hd with e | hd
  · rw [e]; exact nice_tuple (by omega) fun x hx => nice_slot (h4 x hx)
  · rw [List.mem_singleton.mp hd]
    exact (nice_tuple (n := 0) (by omega) fun x hx => nice_num (h3 x hx)).mono (by decide)
theorem Nice.sh {d : PyData} {n : Nat} (h : Nice d n) (hn : n ≤ 64) : SeqAt.shaped d = true := by
  unfold SeqAt.shaped
  rw [h.cl, decide_eq_true (Nat.le_trans h.dp hn)] <;> rfl
/-! slots that are drawn -/
theorem num_of {i lo hi : Int} (h1 : lo ≤ i) (h2 : i ≤ hi) : isNum (.int i) lo hi = true := by
  show (decide (lo ≤ i) && decide (i ≤ hi)) = true
  rw [decide_eq_true h1, decide_eq_true h2] <;> rfl
theorem slot_free {t : Int} (h1 : 0 ≤ t) (h2 : t < 101) : isSlot (.tuple [.str "free", .int t]) = true := by
  have e : PyData.eqv (.str "free") (.str "free") = true := by decide +kernel
  rw [isSlot_cons]
  rw [if_pos e]
  exact num_of h1 (by omega)
theorem slot_row {t b s : Int} {n : PyData} (h1 : 0 ≤ t) (h2 : t < 100) (h3 : 0 ≤ b) (h4 : b < 25) (h5 : 0 ≤ s) (h6 : s < 25 - b) (h7 : isNext n = true) : isSlot (.tuple [.str "row", .int t, .int b, .int s, n]) = true := by
  have e1 : ¬ PyData.eqv (.str "row") (.str "free") = true := by decide +kernel
  have e2 : PyData.eqv (.str "row") (.str "row") = true := by decide +kernel
  rw [isSlot_cons]
  rw [if_neg e1, if_pos e2]
  rw [holds_4]
  show (isNum (.int t) 0 99 && isNum (.int b) 0 24 && isNum (.int s) 0 (24 - b) && isNext n) = true
  rw [num_of h1 (by omega), num_of h3 (by omega), num_of h5 (by omega), h7] <;> rfl
theorem slot_part {t b s : Int} {n : PyData} (h1 : 0 ≤ t) (h2 : t < 100) (h3 : 0 ≤ b) (h4 : b < 24) (h5 : 1 ≤ s) (h6 : s < 25 - b) (h7 : isNext n = true) : isSlot (.tuple [.str "part", .int t, .int b, .int s, n]) = true := by
  have e1 : ¬ PyData.eqv (.str "part") (.str "free") = true := by decide +kernel
  have e2 : ¬ PyData.eqv (.str "part") (.str "row") = true := by decide +kernel
  have e3 : PyData.eqv (.str "part") (.str "part") = true := by decide +kernel
  rw [isSlot_cons]
  rw [if_neg e1, if_neg e2, e3]
  rw [holds_4]
  show (true && (isNum (.int t) 0 99 && isNum (.int b) 0 24 && isNum (.int s) 1 (24 - b) && isNext n)) = true
  rw [num_of h1 (by omega), num_of h3 (by omega), num_of h5 (by omega), h7] <;> rfl
end GX
namespace GX
open PySem PySem.Spec PyProof.Rows L2 LamX
/-- _law_page: some page, drawn -/
def spLPage (K : PySem.W.Frag) (T : List (Addr × Str)) : Sp := fun vs H Q _ => ∃ b l ns z, vs = [.ref b] ∧ BoxAt H b l ns z ∧
  ∀ H' ns' z' d v, XM T (fun c => c = b ∨ c = l) H H' → BoxAt H' b l ns' z' → Dp K H' v d → isPage d = true → Q v H'
end GX
/-! cells that are frozen while a def of the program is called, and hidden while a lambda's body runs: what is known there is known here -/
namespace GX
open PySem PySem.Spec PyProof.Rows L2 LamX
def Fz (S : Addr → Prop) (H : Hp) : Prop := ∀ b, S b → ∃ (o : Obj) (v : Option Value), H b = some (frzO o) ∧ o.data = .cell v
def WkE (H H' : Hp) : Prop := ∀ b o, H b = some o → (∀ ob, o ≠ frzO ob) → (∀ ps, o ≠ .tbl ps) → H' b = some o
section
variable {T : List (Addr × Str)} {S S' : Addr → Prop} {H H1 H2 H' : Hp} {K : PySem.W.Frag}
theorem WkE.rd (a : WkE H H') {p : Addr} {o : HO} (n : ∀ ob, o ≠ frzO ob) (t : ∀ ps, o ≠ .tbl ps) (m : ∀ ob ob', HO.frz ob o ≠ frzO ob') (h : Rd H p o) : Rd H' p o := by
  rcases h with h | ⟨ob, h⟩
  · exact .inl (a _ _ h n t)
  · exact .inr ⟨ob, a _ _ h (m ob) fun ps z => by cases z⟩
theorem WkE.sqL (a : WkE H H') {p : Addr} {xs : List V} (h : SqL K H p xs) : SqL K H' p xs := by
  rcases h with h | h
  · exact .inl (a.rd (fun ob z => by cases z) (fun ps z => by cases z) (fun ob ob' z => by cases z) h)
  · exact .inr h
theorem WkE.sqT (a : WkE H H') {p : Addr} {xs : List V} (h : SqT K H p xs) : SqT K H' p xs := by
  rcases h with h | h
  · exact .inl (a.rd (fun ob z => by cases z) (fun ps z => by cases z) (fun ob ob' z => by cases z) h)
  · exact .inr h
mutual
theorem Dp.wk (a : WkE H H') : ∀ (d : PyData) (v : V), Dp K H v d → Dp K H' v d
  | .none, _, h => by cases h; exact .non
  | .bool _, _, h => by cases h; exact .bl _
  | .int _, _, h => by cases h; exact .int _
  | .str _, _, h => by cases h; exact .str _
  | .list ds, _, h => by
    cases h with
    | lst hs ha => exact .lst (a.sqL hs) (Dp.wkAll a ds _ ha)
  | .tuple ds, _, h => by
    cases h with
    | tup hs ha => exact .tup (a.sqT hs) (Dp.wkAll a ds _ ha)
  | .dict _, _, h => by cases h
theorem Dp.wkAll (a : WkE H H') : ∀ (ds : List PyData) (vs : List V), DpAll K H vs ds → DpAll K H' vs ds
  | [], _, h => by cases h; exact .nil
  | d :: ds, _, h => by
    cases h with
    | cons h1 h2 => exact .cons (Dp.wk a d _ h1) (Dp.wkAll a ds _ h2)
end
theorem Fz.no (f : Fz S H) {b : Addr} {o : HO} (e : H b = some o) (n : ∀ ob, o ≠ frzO ob) : ¬ S b := fun h => by
  obtain ⟨ob, v, q, _⟩ := f b h
  rw [e] at q
  exact n ob (Option.some.inj q)
theorem Fz.un (f : Fz S H) {b : Addr} {o : HO} (e : H b = some o) (n : ∀ ob, o ≠ frzO ob) : unf S H b = some o := by rw [unf_out (f.no e n)]; exact e
theorem Fz.wk (f : Fz S H) : WkE H (unf S H) := fun b o e n _ => f.un e n
theorem Fz.xm (f : Fz S H) (a : XM T S' H H') : Fz S H' := fun b h => by
  obtain ⟨ob, v, q, d⟩ := f b h
  exact ⟨ob, v, a.frz _ _ _ q, d⟩
theorem Fz.xx (f : Fz S H) (a : XX T H H') : Fz S H' := f.xm (S' := fun _ => False) a.xm
theorem Fz.sub (f : Fz S H) (h : ∀ b, S' b → S b) : Fz S' H := fun b hb => f b (h b hb)
theorem codeO_nf {c : Addr} {q : Str} (ob : Obj) : CodeO c q ≠ frzO ob := fun z => by
  unfold CodeO at z
  cases z
theorem tab_nf (ps : Array Value) (ob : Obj) : HO.tbl ps ≠ frzO ob := fun z => by cases z
/-- known outside the frozen things -/
theorem Fz.tabs (f : Fz S H) (t : Tabs T H) : Tabs T (unf S H) := fun p hp => by
  obtain ⟨ps, h1, h2, h3⟩ := t p hp
  refine ⟨ps, f.un h1 (tab_nf ps), h2, fun pos cv hc => ?_⟩
  obtain ⟨c, e1, e2⟩ := h3 pos cv hc
  exact ⟨c, e1, f.un e2 codeO_nf⟩
theorem Fz.tabG (f : Fz S H) {p : Addr} (t : GxR.TabG H p) : GxR.TabG (unf S H) p := by
  obtain ⟨ps, h1, h2⟩ := t
  exact ⟨ps, f.un h1 (tab_nf ps), h2⟩
/-- H outside of S is H1, and at S there stood nothing -/
structure Fr (S : Addr → Prop) (H1 H2 : Hp) : Prop where
  out : ∀ b, ¬ S b → H2 b = H1 b
  free : ∀ b, S b → H1 b = none
  any : Fz S H2
theorem Fr.ext (z : Fr S H1 H2) {b : Addr} {o : HO} (e : H1 b = some o) : H2 b = some o := by
  by_cases hb : S b
  · rw [z.free b hb] at e; cases e
  · rw [z.out b hb]; exact e
theorem Fr.no (z : Fr S H1 H2) {b : Addr} {o : HO} (e : H1 b = some o) : ¬ S b := fun h => by rw [z.free b h] at e; cases e
/-- behind the call -/
theorem Fr.back (z : Fr S H1 H2) (a : XM T S' H2 H') : XM T S' H1 (unf S H') := by
  have f := z.any.xm a
  refine ⟨fun b o e n t => ?_, fun b o e => ?_, fun b xs e => ?_, fun b o u e => ?_, fun p h => ?_, fun h => ?_⟩
  · rw [unf_out (z.no e)]; exact a.keep b o (z.ext e) n t
  · obtain ⟨o', e'⟩ := a.there b o (z.ext e)
    exact ⟨o', by rw [unf_out (z.no e)]; exact e'⟩
  · rw [unf_out (z.no e)]; exact a.tup b xs (z.ext e)
  · rw [unf_out (z.no e)]; exact a.frz b o u (z.ext e)
  · obtain ⟨ps, h1, h2⟩ := h
    exact f.tabG (a.tabG p ⟨ps, z.ext h1, h2⟩)
  · exact f.tabs (a.tabs (h.ext fun b o e => z.ext e))
/-- behind a lambda's body -/
theorem Fz.ref (f : Fz S H2) (a : XM T S' (unf S H2) H') (hn : ∀ b, S b → H' b = none) : XM T S' H2 (ref2 S H2 H') := by
  have nS : ∀ {b o}, H' b = some o → ¬ S b := fun {b o} e h => by rw [hn b h] at e; cases e
  refine ⟨fun b o e n t => ?_, fun b o e => ?_, fun b xs e => ?_, fun b o u e => ?_, fun p h => ?_, fun h => ?_⟩
  · by_cases hb : S b
    · rw [ref2_in hb]; exact e
    · rw [ref2_out hb]; exact a.keep b o (by rw [unf_out hb]; exact e) n t
  · by_cases hb : S b
    · exact ⟨o, by rw [ref2_in hb]; exact e⟩
    · obtain ⟨o', e'⟩ := a.there b o (by rw [unf_out hb]; exact e)
      exact ⟨o', by rw [ref2_out hb]; exact e'⟩
  · by_cases hb : S b
    · rw [ref2_in hb]; exact e
    · rw [ref2_out hb]; exact a.tup b xs (by rw [unf_out hb]; exact e)
  · by_cases hb : S b
    · rw [ref2_in hb]; exact e
    · rw [ref2_out hb]; exact a.frz b o u (by rw [unf_out hb]; exact e)
  · obtain ⟨ps, h1, h2⟩ := a.tabG p (f.tabG h)
    exact ⟨ps, by rw [ref2_out (nS h1)]; exact h1, h2⟩
  · intro p hp
    obtain ⟨ps, h1, h2, h3⟩ := a.tabs (f.tabs h) p hp
    refine ⟨ps, by rw [ref2_out (nS h1)]; exact h1, h2, fun pos cv hc => ?_⟩
    obtain ⟨c, e1, e2⟩ := h3 pos cv hc
    exact ⟨c, e1, by rw [ref2_out (nS e2)]; exact e2⟩
theorem ref_at (hn : ∀ b, S b → H' b = none) {b : Addr} {o : HO} (e : H' b = some o) : ref2 S H2 H' b = some o := by
  have nS : ¬ S b := fun h => by rw [hn b h] at e; cases e
  rw [ref2_out nS]; exact e
theorem ref_ext (hn : ∀ b, S b → H' b = none) : XX T H' (ref2 S H2 H') := XX.of fun b o e => by
  have nS : ¬ S b := fun h => by rw [hn b h] at e; cases e
  rw [ref2_out nS]; exact e
/-- into the lambda's body -/
theorem Fr.into (z : Fr S H1 H2) (h : ∀ b, S' b → S b) : XX T H1 (unf S' H2) := XX.of fun b o e => by
  rw [unf_out fun q => z.no e (h b q)]; exact z.ext e
theorem Fr.xx (z : Fr S H1 H2) : XX T H1 H2 := XX.of fun b o e => z.ext e
theorem fr_of {X : Cx} {σ : L2.St} (z : Frozen X σ H1 H2) : Fr (CellOf X) H1 H2 := ⟨z.out, z.free, z.any⟩
theorem BoxAt.wk {b l : Addr} {ns : List Int} {z : Int} (h : BoxAt H b l ns z) (a : WkE H H') : BoxAt H' b l ns z := ⟨a _ _ h.hb (fun ob z => by cases z) (fun ps z => by cases z), a _ _ h.hl (fun ob z => by cases z) (fun ps z => by cases z), h.ne, h.lo, h.hi, h.len⟩
theorem DiskAt.wk {C p dx l : Addr} {pages : List PyData} {done : Int} {left : Option Int} {stands : Bool} (d : DiskAt K C H p dx l pages done left stands) (a : WkE H H') : DiskAt K C H' p dx l pages done left stands := by
  obtain ⟨xs, h, hd⟩ := d.lst
  exact ⟨a _ _ d.ins (fun ob z => by cases z) (fun ps z => by cases z), ⟨xs, a _ _ h (fun ob z => by cases z) (fun ps z => by cases z), Dp.wkAll a _ _ hd⟩, d.flat⟩
end
end GX
/-! a lambda over the maker's cells, handed to _law_told -/
namespace GX
open PySem PySem.Spec PyProof.Rows L2 LamX
def capB (sc scope : Scope) (N Nl : List Str) (js : List Nat) : Bool :=
  lamSB sc scope && decide (Nl.length = js.length) &&
    ((List.range js.length).all fun i => match Nl[i]?, js[i]? with
      | some y, some j => decide (N[j]? = some y) && decide (sc.names.lookup y = some .cell) && decide (scope.names.lookup y = some .free)
      | _, _ => false) && scope.names.all fun y => !decide (y.2 = .free) || decide (sc.names.lookup y.1 = some .cell)
structure CapS (sc scope : Scope) (N Nl : List Str) (js : List Nat) : Prop where
  L : LamS sc scope
  len : Nl.length = js.length
  at_ : ∀ (i : Nat) (y : Str), Nl[i]? = some y → ∃ j, js[i]? = some j ∧ N[j]? = some y ∧ sc.names.lookup y = some .cell ∧ scope.names.lookup y = some .free
  cell : ∀ y ∈ scope.names, y.2 = .free → sc.names.lookup y.1 = some .cell
theorem cap_by {sc scope : Scope} {N Nl : List Str} {js : List Nat} (h : capB sc scope N Nl js = true) : CapS sc scope N Nl js := by
  unfold capB at h
  simp only [Bool.and_eq_true, Bool.or_eq_true, Bool.not_eq_true', decide_eq_true_eq, decide_eq_false_iff_not, List.all_eq_true] at h
  obtain ⟨⟨⟨h1, h2⟩, h3⟩, h4⟩ := h
  refine ⟨lamS_by h1, h2, fun i y e => ?_, fun y hy e => ?_⟩
  · have hi : i < js.length := by
      have := (List.getElem?_eq_some_iff.mp e).1
      omega
    have q := h3 i (List.mem_range.mpr hi)
    rw [e, List.getElem?_eq_getElem hi] at q
    simp only [Bool.and_eq_true, decide_eq_true_eq] at q
    exact ⟨js[i], List.getElem?_eq_getElem hi, q.1.1, q.1.2, q.2⟩
  · rcases h4 y hy with z | z
    · exact absurd e z
    · exact z
def capS (σ : L2.St) (js : List Nat) : L2.St := js.map fun j => (σ[j]?).getD none
theorem capS_at {σ : L2.St} {js : List Nat} {i : Nat} {v : V} (h : (capS σ js)[i]? = some (some v)) : ∃ j, js[i]? = some j ∧ σ[j]? = some (some v) := by
  unfold capS at h
  rw [List.getElem?_map] at h
  cases e : js[i]? with
  | none => rw [e] at h; cases h
  | some j =>
    rw [e] at h
    have h : (σ[j]?).getD none = some v := Option.some.inj h
    refine ⟨j, rfl, ?_⟩
    cases e2 : σ[j]? with
    | none => rw [e2] at h; cases h
    | some o =>
      rw [e2] at h
      have h : o = some v := h
      rw [h]
section
variable {X : Cx} {σ : L2.St} {Hx H2 : Hp} {sc scope : Scope} {params : Arguments} {body : Expr} {q : Str} {f c' : Addr} {dV doc pm ctv : Value} {k n : Nat} {tb : XK → TE} {Nl : List Str} {js : List Nat} {T : List (Addr × Str)} {cE : Addr} {cs : Fin 9 → Addr} {Q : VK}
theorem cap_free (cap : CapS sc scope X.N Nl js) (hce : X.env.cells = cellsFrom n sc.names []) : ∀ y ∈ scope.names, y.2 = .free → ∃ c, X.env.cells.lookup y.1 = some c := fun y hy e => by
  obtain ⟨c, hm⟩ := cells_has (n := n) (acc := []) (PySem.mem_of_lookup (cap.cell y hy e))
  rw [hce]
  exact mem_lookup hm
theorem cap_clos (cap : CapS sc scope X.N Nl js) : ∀ y, (scope.names.lookup y = some .cell ∨ scope.names.lookup y = some .free) → ∃ c, (cloFrom X.env.cells scope.names []).lookup y = some c := fun y h => by
  rcases h with h | h
  · exact absurd rfl (cap.L.own _ (PySem.mem_of_lookup h)).2
  · exact mem_lookup (cloFrom_has (PySem.mem_of_lookup h))
theorem lamAt_frz {D : Value → Hp → Prop} (z : Frozen X σ Hx H2) (cap : CapS sc scope X.N Nl js) (hce : X.env.cells = cellsFrom n sc.names []) (hsc : X.env.scope = sc) (hf : H2 f = some (frzO (lamObj q params body scope (cloFrom X.env.cells scope.names []) dV doc pm c' ctv))) (hc : H2 c' = some (CodeO c' q)) (hD : D dV H2) :
    LamAt q params body scope (cloFrom X.env.cells scope.names []) dV doc pm c' ctv D Nl (capS σ js) f H2 := by
  refine ⟨hf, hc, hD, fun y c e => ?_⟩
  have ec := clo_cm (cap_free cap hce) e
  obtain ⟨o, v, e1, e2⟩ := z.any c ⟨y, ec⟩
  refine ⟨o, v, e1, e2, fun i x h1 h2 => ?_⟩
  obtain ⟨j, h3, h4⟩ := capS_at h2
  obtain ⟨j', h5, h6, h7, h8⟩ := cap.at_ i y h1
  rw [h3] at h5
  cases h5
  obtain ⟨o', u, q1, q2, r⟩ := z.cell y c j x ec h6 (by rw [hsc]; exact .inr (.inl h7)) (by rw [hsc, h7]; exact fun z => by cases z) h4
  rw [e1] at q1
  cases q1
  rw [e2] at q2
  cases q2
  exact ⟨u, rfl, r⟩
/-- the reading of the lambda's body in its own words -/
def LamBody (X : Cx) (T : List (Addr × Str)) (cE : Addr) (cs : Fin 9 → Addr) (tb : XK → TE) (τ : L2.St) (Hx : Hp) (Q : VK) : Prop := ∀ Hl, XX T Hx Hl → ∀ (E : XK) (Q2 : VK),
  (∀ (S' : Addr → Prop) v H', XM T S' Hl H' → (∀ HT, XM T S' Hx (unf (CellOf X) HT) → WkE H' (unf (CellOf X) HT) → Q v HT) → Q2 v H') →
  (∀ (S' : Addr → Prop) i D H', i.1 ≠ 4 → EIs X.K cE cs i D → XM T S' Hl H' → (∀ HT v, XM T S' Hx (unf (CellOf X) HT) → WkE H' (unf (CellOf X) HT) → Dp X.K (unf (CellOf X) HT) v (toldD i) → Q v HT) → E (.ref D) none H') → tb E τ Hl Q2
theorem told_lam (z : Frozen X σ Hx H2) (cap : CapS sc scope X.N Nl js) (hce : X.env.cells = cellsFrom n sc.names []) (hsc : X.env.scope = sc) (inj : InjC (cloFrom X.env.cells scope.names []))
    (hf : Hx f = some (frzO (lamObj q params body scope (cloFrom X.env.cells scope.names []) dV doc pm c' ctv))) (hd : dV = .none) (hc : Hx c' = some (CodeO c' q))
    (hbind : ∀ (doc pm cv ctv : Value), bindArgs (PySem.W.kdv_fn "<lambda>" q params (.expr body) scope (cloFrom X.env.cells scope.names []) .none doc pm cv ctv) ⟨[], []⟩ = pure [])
    (hbody : ∀ (A : Around) (outer : List Env) (s : Shared) (H : Hp) (E : XK), Room k (A.deeper (PySem.W.envX q scope s.heap.objs.size f (.ref c') (cloFrom X.env.cells scope.names []))) → PE (lCx X.prog X.w X.K X.mg X.base Nl q scope f c' (cloFrom X.env.cells scope.names []) A outer s H E) body (tb E))
    (h : LamBody X T cE cs tb (capS σ js) Hx Q) : spTold X.prog X.w X.K X.mg X.base T cE cs (k + 1) [.ref f] H2 Q E0 := by
  have Z := fr_of z
  have sub : ∀ b, CS (cloFrom X.env.cells scope.names []) b → CellOf X b := fun b hb => by
    obtain ⟨y, e⟩ := hb
    exact ⟨y, clo_cm (cap_free cap hce) e⟩
  have fz1 : Fz (CS (cloFrom X.env.cells scope.names [])) H2 := Z.any.sub sub
  have f2 := Z.ext hf
  have c2 := Z.ext hc
  refine ⟨f, _, _, rfl, ⟨_, _, _, f2, rfl⟩, callOk_lam0 (τ := capS σ js) (Nl := Nl) (dV := dV) (doc := doc) (pm := pm) (ctv := ctv) ⟨cap.L.kind, cap.L.co, cap.L.gen, fun y hy => (cap.L.own y hy).2⟩ inj (cap_clos cap) (by unfold capS; rw [List.length_map]; exact cap.len.symm) (fun i y e => ?_) hbind hbody, lamAt_frz z cap hce hsc f2 c2 hd, fun E hE => ?_⟩
  · obtain ⟨j, _, _, _, e2⟩ := cap.at_ i y e
    rw [e2]
    exact fun z => by cases z
  · refine h _ (Z.into sub) _ _ (fun S' v H' a q hn => ?_) (fun S' i D H' h4 hE' a q hn => ?_)
    · have a2 := fz1.ref a hn
      exact q _ (Z.back a2) fun b o e n t => (Z.any.xm a2).un (ref_at hn e) n
    · have a2 := fz1.ref a hn
      refine hE _ i D h4 hE' fun H'' v x dp => ?_
      have a3 := a2.trans x.xm
      exact q _ v (Z.back a3) (fun b o e n t => (Z.any.xm a3).un (x.keep b o (ref_at hn e) t) n) (Dp.wk (Z.any.xm a3).wk _ _ dp)
end
end GX
namespace GX
open PySem PySem.Spec PyProof.Rows L2 LamX
theorem pe_calF {X : Cx} {ps : List Str} {k : Nat} {sp : Sp} {x : Str} {p pos : Pos} {e : Expr} {es : List Expr} {t : TA} (c : Cal X.prog X.w X.K X.mg X.base CX0 x ps k sp) (hr : Room k X.A) (hfn : ∀ y, X.fn y = true) (ha : PA X (e :: es) t) (hg : Gl X x := by rfl) (hdb : (x == ("__debug__" : Str)) = false := by decide)
    (he : starEach (e :: es) X.env = (false, eval e X.env) :: starEach es X.env := by rfl) (hpl : (backTo pos (starEach es X.env)).any (·.1) = false := by rfl) : PE X (.Call (.Name x p) (e :: es) [] pos) (tCallF X sp t) := by
  obtain ⟨f, fd, c⟩ := c
  exact pe_callF c.F hr hfn hg c.m c.kp c.b ha hdb he hpl
end GX
namespace GX
open PySem PySem.Spec PyProof.Rows L2 LamX
abbrev kPg : Key := .inr "pages"
abbrev kLf : Key := .inr "left"
abbrev kSt : Key := .inr "stands"
abbrev kMn : Key := .inr "many"
abbrev ownK (lp : Addr) (left : Option Int) (stands : Bool) (many : Int) : List (Key × V) := [(kPg, .ref lp), (kLf, lv left), (kSt, .bl stands), (kMn, .int many)]
structure OwnAt (K : PySem.W.Frag) (H : Hp) (o lp : Addr) (pages : List PyData) (left : Option Int) (stands : Bool) (many : Int) : Prop where
  hd : H o = some (.dK (ownK lp left stands many))
  hl : ∃ xs, H lp = some (.lst xs) ∧ DpAll K H xs pages
  pg : ∀ d ∈ pages, isPage d = true
theorem own_pages (lp : Addr) (left : Option Int) (stands : Bool) (many : Int) : valV (ownK lp left stands many) kPg = some (.ref lp) := valV_pos rfl
section
variable (lp : Addr) (left left' : Option Int) (stands stands' : Bool) (many many' : Int)
theorem k_pl : ¬ kPg = kLf := by decide +kernel
theorem k_ps : ¬ kPg = kSt := by decide +kernel
theorem k_pm : ¬ kPg = kMn := by decide +kernel
theorem k_ls : ¬ kLf = kSt := by decide +kernel
theorem k_lm : ¬ kLf = kMn := by decide +kernel
theorem k_sm : ¬ kSt = kMn := by decide +kernel
theorem own_left : valV (ownK lp left stands many) kLf = some (lv left) := (valV_neg (p := (kPg, .ref lp)) k_pl).trans (valV_pos rfl)
theorem own_stands : valV (ownK lp left stands many) kSt = some (.bl stands) := (valV_neg (p := (kPg, .ref lp)) k_ps).trans ((valV_neg (p := (kLf, lv left)) k_ls).trans (valV_pos rfl))
theorem own_many : valV (ownK lp left stands many) kMn = some (.int many) :=
  (valV_neg (p := (kPg, .ref lp)) k_pm).trans ((valV_neg (p := (kLf, lv left)) k_lm).trans ((valV_neg (p := (kSt, .bl stands)) k_sm).trans (valV_pos rfl)))
theorem put_left : putK (ownK lp left stands many) kLf (lv left') = ownK lp left' stands many := by
  have e1 : ¬ Str.ofString "pages" = Str.ofString "left" := fun e => k_pl (congrArg Sum.inr e)
  have e2 : ¬ Str.ofString "stands" = Str.ofString "left" := fun e => k_ls (congrArg Sum.inr e.symm)
  have e3 : ¬ Str.ofString "many" = Str.ofString "left" := fun e => k_lm (congrArg Sum.inr e.symm)
  simp [putK, ownK, e1, e2, e3]
theorem put_stands : putK (ownK lp left stands many) kSt (.bl stands') = ownK lp left stands' many := by
  have e1 : ¬ Str.ofString "pages" = Str.ofString "stands" := fun e => k_ps (congrArg Sum.inr e)
  have e2 : ¬ Str.ofString "left" = Str.ofString "stands" := fun e => k_ls (congrArg Sum.inr e)
  have e3 : ¬ Str.ofString "many" = Str.ofString "stands" := fun e => k_sm (congrArg Sum.inr e.symm)
  simp [putK, ownK, e1, e2, e3]
theorem put_many : putK (ownK lp left stands many) kMn (.int many') = ownK lp left stands many' := by
  have e1 : ¬ Str.ofString "pages" = Str.ofString "many" := fun e => k_pm (congrArg Sum.inr e)
  have e2 : ¬ Str.ofString "left" = Str.ofString "many" := fun e => k_lm (congrArg Sum.inr e)
  have e3 : ¬ Str.ofString "stands" = Str.ofString "many" := fun e => k_sm (congrArg Sum.inr e)
  simp [putK, ownK, e1, e2, e3]
end
section
variable {K : PySem.W.Frag} {T : List (Addr × Str)} {H H' : Hp} {o lp : Addr} {pages : List PyData} {left : Option Int} {stands : Bool} {many : Int}
theorem OwnAt.xm {S : Addr → Prop} (d : OwnAt K H o lp pages left stands many) (a : XM T S H H') (h1 : ¬ S o) (h2 : ¬ S lp) : OwnAt K H' o lp pages left stands many := by
  obtain ⟨xs, h, hd⟩ := d.hl
  exact ⟨a.dk d.hd h1, ⟨xs, a.lst h h2, dpAll_xm a (fun e he => (nice_page (d.pg e he)).fl) hd⟩, d.pg⟩
theorem OwnAt.wk (d : OwnAt K H o lp pages left stands many) (a : WkE H H') : OwnAt K H' o lp pages left stands many := by
  obtain ⟨xs, h, hd⟩ := d.hl
  exact ⟨a _ _ d.hd (fun ob z => by cases z) (fun ps z => by cases z), ⟨xs, a _ _ h (fun ob z => by cases z) (fun ps z => by cases z), Dp.wkAll a _ _ hd⟩, d.pg⟩
theorem OwnAt.ne (d : OwnAt K H o lp pages left stands many) : o ≠ lp := by
  obtain ⟨xs, h, _⟩ := d.hl
  exact ne_of d.hd h fun z => by cases z
/-- stored in the dict -/
theorem OwnAt.put (d : OwnAt K H o lp pages left stands many) (left' : Option Int) (stands' : Bool) (many' : Int) : OwnAt K (upd H o (.dK (ownK lp left' stands' many'))) o lp pages left' stands' many' := by
  obtain ⟨xs, h, hd⟩ := d.hl
  exact ⟨upd_same, ⟨xs, by rw [upd_ne (Ne.symm d.ne)]; exact h, dpAll_xm (T := []) (XM.upd (S := fun b => b = o) d.hd rfl True.intro) (fun e he => (nice_page (d.pg e he)).fl) hd⟩, d.pg⟩
end
/-- the things of the law -/
structure KInv (K : PySem.W.Frag) (C : Addr) (H : Hp) (b l p dx sl o lp : Addr) (ns : List Int) (z : Int) (pages : List PyData) (left : Option Int) (stands : Bool) (many : Int) : Prop where
  bx : BoxAt H b l ns z
  dk : DiskAt K C H p dx sl pages many left stands
  ow : OwnAt K H o lp pages left stands many
  n1 : sl ≠ b
  n2 : sl ≠ l
  n3 : lp ≠ b
  n4 : lp ≠ l
  n5 : lp ≠ sl
  lo : 2 ≤ pages.length
  hi : pages.length ≤ 12
  lf : ∀ k, left = some k → 0 ≤ k ∧ k ≤ 30
def S7 (b l p sl o lp : Addr) : Addr → Prop := fun c => c = b ∨ c = l ∨ c = p ∨ c = sl ∨ c = o ∨ c = lp
def spTurn (K : PySem.W.Frag) (T : List (Addr × Str)) (C P1 P2 : Addr) : Sp := fun vs H Q _ => ∃ b l p dx sl o lp ns z pages left stands many, vs = [.ref b, .ref p, .ref o] ∧ KInv K C H b l p dx sl o lp ns z pages left stands many ∧ Tabs T H ∧ GxR.TabG H P1 ∧ GxR.TabG H P2 ∧
  ∀ H' ns' z' pages' left' stands' many', XM T (S7 b l p sl o lp) H H' → KInv K C H' b l p dx sl o lp ns' z' pages' left' stands' many' → pages'.length = pages.length → Q (.bl true) H'
section
variable {K : PySem.W.Frag} {T : List (Addr × Str)} {C : Addr} {H H' : Hp} {b l p dx sl o lp : Addr} {ns ns' : List Int} {z z' : Int} {pages : List PyData} {left : Option Int} {stands : Bool} {many : Int}
theorem OwnAt.gPages (d : OwnAt K H o lp pages left stands many) : DGet H o (.str "pages") (some (.ref lp)) := by
  have q := DGet.k (k := kPg) d.hd
  rw [own_pages] at q
  exact q
theorem OwnAt.gLeft (d : OwnAt K H o lp pages left stands many) : DGet H o (.str "left") (some (lv left)) := by
  have q := DGet.k (k := kLf) d.hd
  rw [own_left] at q
  exact q
theorem OwnAt.gStands (d : OwnAt K H o lp pages left stands many) : DGet H o (.str "stands") (some (.bl stands)) := by
  have q := DGet.k (k := kSt) d.hd
  rw [own_stands] at q
  exact q
theorem OwnAt.gMany (d : OwnAt K H o lp pages left stands many) : DGet H o (.str "many") (some (.int many)) := by
  have q := DGet.k (k := kMn) d.hd
  rw [own_many] at q
  exact q
theorem four_line : (4 : Nat) < sizeLine := by decide
theorem OwnAt.pLeft (d : OwnAt K H o lp pages left stands many) (left' : Option Int) : DPut H o (.str "left") (lv left') (upd H o (.dK (ownK lp left' stands many))) := by
  have q := DPut.k (k := kLf) (v := lv left') d.hd four_line
  rw [put_left] at q
  exact q
theorem OwnAt.pStands (d : OwnAt K H o lp pages left stands many) (stands' : Bool) : DPut H o (.str "stands") (.bl stands') (upd H o (.dK (ownK lp left stands' many))) := by
  have q := DPut.k (k := kSt) (v := .bl stands') d.hd four_line
  rw [put_stands] at q
  exact q
theorem OwnAt.pMany (d : OwnAt K H o lp pages left stands many) (many' : Int) : DPut H o (.str "many") (.int many') (upd H o (.dK (ownK lp left stands many'))) := by
  have q := DPut.k (k := kMn) (v := .int many') d.hd four_line
  rw [put_many] at q
  exact q
/-- where things of unlike kinds lie -/
structure Apart (b l p sl o lp : Addr) : Prop where
  pb : p ≠ b
  pl : p ≠ l
  ps : p ≠ sl
  po : p ≠ o
  pp : p ≠ lp
  ob : o ≠ b
  ol : o ≠ l
  os : o ≠ sl
  op : o ≠ lp
theorem KInv.apart (k : KInv K C H b l p dx sl o lp ns z pages left stands many) : Apart b l p sl o lp := by
  obtain ⟨xs, h1, _⟩ := k.dk.lst
  obtain ⟨ys, h2, _⟩ := k.ow.hl
  exact ⟨ne_of k.dk.ins k.bx.hb (fun z => by cases z), ne_of k.dk.ins k.bx.hl (fun z => by cases z), ne_of k.dk.ins h1 (fun z => by cases z), ne_of k.dk.ins k.ow.hd (fun z => by cases z), ne_of k.dk.ins h2 (fun z => by cases z),
    ne_of k.ow.hd k.bx.hb (fun z => by cases z), ne_of k.ow.hd k.bx.hl (fun z => by cases z), ne_of k.ow.hd h1 (fun z => by cases z), ne_of k.ow.hd h2 fun z => by cases z⟩
theorem KInv.take (k : KInv K C H b l p dx sl o lp ns z pages left stands many) (a : XM T (fun c => c = b ∨ c = l) H H') (bx : BoxAt H' b l ns' z') : KInv K C H' b l p dx sl o lp ns' z' pages left stands many := by
  have A := k.apart
  exact ⟨bx, k.dk.xm a (fun e => e.elim A.pb A.pl) (fun e => e.elim k.n1 k.n2), k.ow.xm a (fun e => e.elim A.ob A.ol) (fun e => e.elim k.n3 k.n4), k.n1, k.n2, k.n3, k.n4, k.n5, k.lo, k.hi, k.lf⟩
theorem KInv.xx (k : KInv K C H b l p dx sl o lp ns z pages left stands many) (a : XX T H H') : KInv K C H' b l p dx sl o lp ns z pages left stands many :=
  k.take (T := T) (a.xm.mono (S := fun _ => False) fun b h => h.elim) (k.bx.xx a)
theorem s7_take : ∀ c, (c = b ∨ c = l) → S7 b l p sl o lp c := fun c h => h.elim .inl fun h => .inr (.inl h)
end
section
variable {K : PySem.W.Frag} {T : List (Addr × Str)} {C : Addr} {H H' : Hp} {b l p dx sl o lp : Addr} {ns ns' : List Int} {z z' : Int} {pages pages' : List PyData} {left left' : Option Int} {stands stands' : Bool} {many many' : Int}
theorem KInv.next (k : KInv K C H b l p dx sl o lp ns z pages left stands many) (bx : BoxAt H' b l ns' z') (dk : DiskAt K C H' p dx sl pages' many' left' stands') (ow : OwnAt K H' o lp pages' left' stands' many') (e : pages'.length = pages.length) (lf : ∀ k, left' = some k → 0 ≤ k ∧ k ≤ 30) :
    KInv K C H' b l p dx sl o lp ns' z' pages' left' stands' many' := ⟨bx, dk, ow, k.n1, k.n2, k.n3, k.n4, k.n5, by rw [e]; exact k.lo, by rw [e]; exact k.hi, lf⟩
theorem s7_p : ∀ c, c = p → S7 b l p sl o lp c := fun c h => .inr (.inr (.inl h))
theorem s7_o : ∀ c, c = o → S7 b l p sl o lp c := fun c h => .inr (.inr (.inr (.inr (.inl h))))
theorem s7_ps : ∀ c, (c = p ∨ c = sl) → S7 b l p sl o lp c := fun c h => h.elim (fun h => .inr (.inr (.inl h))) fun h => .inr (.inr (.inr (.inl h)))
theorem s7_lp : ∀ c, c = lp → S7 b l p sl o lp c := fun c h => .inr (.inr (.inr (.inr (.inr h))))
end
theorem if_key {c : Bool} {ta tb : TE} {σ : L2.St} {H : Hp} {Q : VK} (R : V → Hp → Prop) (key : ∀ v H', R v H' → Q v H') (h1 : c = true → ∀ Q' : VK, (∀ v H', R v H' → Q' v H') → ta σ H Q') (h2 : c = false → ∀ Q' : VK, (∀ v H', R v H' → Q' v H') → tb σ H Q') :
    if c = true then ta σ H Q else tb σ H Q := by
  cases c with
  | true => rw [if_pos rfl]; exact h1 rfl Q key
  | false => rw [if_neg (by decide)]; exact h2 rfl Q key
theorem ifs_key {c : Bool} {sA sB : TS} {D : Ends} {σ : L2.St} {H : Hp} (R : L2.St → Hp → Prop) (key : ∀ σ' H', R σ' H' → D.nx σ' H') (h1 : c = true → ∀ D' : Ends, (∀ σ' H', R σ' H' → D'.nx σ' H') → sA D' σ H) (h2 : c = false → ∀ D' : Ends, (∀ σ' H', R σ' H' → D'.nx σ' H') → sB D' σ H) :
    if c = true then sA D σ H else sB D σ H := by
  cases c with
  | true => rw [if_pos rfl]; exact h1 rfl D key
  | false => rw [if_neg (by decide)]; exact h2 rfl D key
theorem tOr_of {t1 t2 : TT} {σ : L2.St} {H : Hp} {Kt : Bool → Hp → Prop} (c1 c2 : Bool) (h1 : ∀ K' : Bool → Hp → Prop, K' c1 H → t1 σ H K') (h2 : c1 = false → ∀ K' : Bool → Hp → Prop, K' c2 H → t2 σ H K') (k : Kt (c1 || c2) H) : tOr t1 t2 σ H Kt := by
  refine h1 _ ?_
  cases c1 with
  | true => exact k
  | false => exact h2 rfl _ k
theorem lv_zero (left : Option Int) : decide (lv left = .int 0) = decide (left = some 0) := by
  cases left with
  | none => rfl
  | some k =>
    rw [Bool.eq_iff_iff, decide_eq_true_iff, decide_eq_true_iff]
    exact ⟨fun e => by cases e; rfl, fun e => by cases e; rfl⟩
section
variable {K : PySem.W.Frag} {H : Hp} {o lp : Addr} {pages : List PyData} {left : Option Int} {stands : Bool} {many : Int}
theorem OwnAt.setPage (w : OwnAt K H o lp pages left stands many) {xs : List V} {j : Nat} {v : V} {d : PyData} (h : H lp = some (.lst xs)) (hd : Dp K H v d) (pg : isPage d = true) : OwnAt K (upd H lp (.lst (xs.set j v))) o lp (pages.set j d) left stands many := by
  obtain ⟨ys, h2, hds⟩ := w.hl
  rw [h] at h2
  cases h2
  have x : XM [] (fun c => c = lp) H (upd H lp (.lst (xs.set j v))) := XM.upd h rfl True.intro
  have pgs : ∀ e ∈ pages.set j d, isPage e = true := fun e he => by
    rcases mem_set he with z | z
    · rw [z]; exact pg
    · exact w.pg e z
  exact ⟨by rw [upd_ne w.ne]; exact w.hd, ⟨_, upd_same, dpAll_xm x (fun e he => (nice_page (pgs e he)).fl) (dpAll_set hd j hds)⟩, pgs⟩
theorem ixN_nat {n j : Nat} (h : j < n) : ixN n (j : Int) = some j := by
  unfold ixN
  have q1 : (0 : Int) ≤ (j : Int) := by omega
  have q2 : (j : Int) < (n : Int) := by omega
  simp [q1, q2]
  try omega
end
end GX
/-! lambdas that are handed to _law_all in a list -/
namespace GX
open PySem PySem.Spec PyProof.Rows L2 LamX
section
variable {T : List (Addr × Str)} {S S' : Addr → Prop} {H H1 H2 H' : Hp} {K : PySem.W.Frag}
theorem Fz.refX (f : Fz S H2) (a : XX T (unf S H2) H') (hn : ∀ b, S b → H' b = none) : XX T H2 (ref2 S H2 H') := by
  have m := f.ref (S' := fun _ => False) a.xm hn
  refine m.xx fun b ps e => ?_
  have e2 := f.un e (tab_nf ps)
  obtain ⟨ps', e3⟩ := a.tbl b ps e2
  exact ⟨ps', ref_at hn e3⟩
theorem LamAt.xx {q : Str} {params : Arguments} {body : Expr} {scope : Scope} {clos : List (Str × Addr)} {dV doc pm : Value} {c' : Addr} {ctv : Value} {D : Value → Hp → Prop} {Nl : List Str} {τ : L2.St} {f : Addr} (h : LamAt q params body scope clos dV doc pm c' ctv D Nl τ f H) (a : XX T H H1) (hD : D dV H → D dV H1) :
    LamAt q params body scope clos dV doc pm c' ctv D Nl τ f H1 := by
  obtain ⟨h1, h2, h3, h4⟩ := h
  refine ⟨a.keep _ _ h1 (fun ps z => by cases z), a.keep _ _ h2 (fun ps => codeO_ne ps), hD h3, fun y c e => ?_⟩
  obtain ⟨o, u, e1, e2, e3⟩ := h4 y c e
  exact ⟨o, u, a.keep _ _ e1 (fun ps z => by cases z), e2, e3⟩
theorem Dflt1.xx {i : Int} {dV : Value} (h : Dflt1 i dV H) (a : XX T H H1) : Dflt1 i dV H1 := by
  obtain ⟨t, u, e, h⟩ := h
  exact ⟨t, u, e, a.keep _ _ h fun ps z => by cases z⟩
end
/-! a lambda with one parameter that has a default -/
def capB1 (sc scope : Scope) (N Nl : List Str) (js : List Nat) : Bool :=
  decide (scope.kind = .function) && !scope.isCoroutine && !scope.isGenerator && (scope.names.all fun y => !decide (y.2 = .cell)) && decide (Nl.length = js.length + 1) && (match Nl[0]? with | some a => decide (scope.names.lookup a = some .local) && decide (scope.names.lookup a ≠ some .free) && scope.names.all (fun y => !decide (y.1 = a) || !decide (y.2 = .free)) | none => false) &&
    ((List.range js.length).all fun i => match Nl[i + 1]?, js[i]? with
      | some y, some j => decide (N[j]? = some y) && decide (sc.names.lookup y = some .cell) && decide (scope.names.lookup y = some .free)
      | _, _ => false) && scope.names.all fun y => !decide (y.2 = .free) || decide (sc.names.lookup y.1 = some .cell)
structure CapS1 (sc scope : Scope) (N Nl : List Str) (js : List Nat) (a : Str) : Prop where
  kind : scope.kind = .function
  co : scope.isCoroutine = false
  gen : scope.isGenerator = false
  ncell : ∀ y ∈ scope.names, y.2 ≠ .cell
  len : Nl.length = js.length + 1
  at0 : Nl[0]? = some a
  loc : scope.names.lookup a = some .local
  nof : ∀ y ∈ scope.names, y.1 = a → y.2 ≠ .free
  at_ : ∀ (i : Nat) (y : Str), Nl[i + 1]? = some y → ∃ j, js[i]? = some j ∧ N[j]? = some y ∧ sc.names.lookup y = some .cell ∧ scope.names.lookup y = some .free
  cell : ∀ y ∈ scope.names, y.2 = .free → sc.names.lookup y.1 = some .cell
theorem cap1_by {sc scope : Scope} {N Nl : List Str} {js : List Nat} {a : Str} (e0 : Nl[0]? = some a) (h : capB1 sc scope N Nl js = true) : CapS1 sc scope N Nl js a := by
  unfold capB1 at h
  rw [e0] at h
  simp only [Bool.and_eq_true, Bool.or_eq_true, Bool.not_eq_true', decide_eq_true_eq, decide_eq_false_iff_not, List.all_eq_true] at h
  obtain ⟨⟨⟨⟨⟨⟨⟨h1, h2⟩, h3⟩, h4⟩, h5⟩, ⟨h6, h7⟩, h8⟩, h9⟩, h10⟩ := h
  refine ⟨h1, h2, h3, h4, h5, e0, h6, fun y hy e => ?_, fun i y e => ?_, fun y hy e => ?_⟩
  · rcases h8 y hy with z | z
    · exact absurd e z
    · exact z
  · have hi : i < js.length := by
      have := (List.getElem?_eq_some_iff.mp e).1
      omega
    have q := h9 i (List.mem_range.mpr hi)
    rw [e, List.getElem?_eq_getElem hi] at q
    simp only [Bool.and_eq_true, decide_eq_true_eq] at q
    exact ⟨js[i], List.getElem?_eq_getElem hi, q.1.1, q.1.2, q.2⟩
  · rcases h10 y hy with z | z
    · exact absurd e z
    · exact z
section
variable {X : Cx} {σ : L2.St} {Hx H2 : Hp} {sc scope : Scope} {params : Arguments} {body : Expr} {q : Str} {f c' : Addr} {dV doc pm ctv : Value} {k n : Nat} {tb : XK → TE} {Nl : List Str} {js : List Nat} {T : List (Addr × Str)} {cE : Addr} {cs : Fin 9 → Addr} {Q : VK} {a : Str}
theorem cap1_free (cap : CapS1 sc scope X.N Nl js a) (hce : X.env.cells = cellsFrom n sc.names []) : ∀ y ∈ scope.names, y.2 = .free → ∃ c, X.env.cells.lookup y.1 = some c := fun y hy e => by
  obtain ⟨c, hm⟩ := cells_has (n := n) (acc := []) (PySem.mem_of_lookup (cap.cell y hy e))
  rw [hce]
  exact mem_lookup hm
theorem cap1_clos (cap : CapS1 sc scope X.N Nl js a) : ∀ y, (scope.names.lookup y = some .cell ∨ scope.names.lookup y = some .free) → ∃ c, (cloFrom X.env.cells scope.names []).lookup y = some c := fun y h => by
  rcases h with h | h
  · exact absurd rfl (cap.ncell _ (PySem.mem_of_lookup h))
  · exact mem_lookup (cloFrom_has (PySem.mem_of_lookup h))
theorem lamAt_frz1 {D : Value → Hp → Prop} {v0 : V} (z : Frozen X σ Hx H2) (cap : CapS1 sc scope X.N Nl js a) (hce : X.env.cells = cellsFrom n sc.names []) (hsc : X.env.scope = sc) (hf : H2 f = some (frzO (lamObj q params body scope (cloFrom X.env.cells scope.names []) dV doc pm c' ctv))) (hc : H2 c' = some (CodeO c' q)) (hD : D dV H2) :
    LamAt q params body scope (cloFrom X.env.cells scope.names []) dV doc pm c' ctv D Nl (some v0 :: capS σ js) f H2 := by
  refine ⟨hf, hc, hD, fun y c e => ?_⟩
  have ec := clo_cm (cap1_free cap hce) e
  obtain ⟨o, v, e1, e2⟩ := z.any c ⟨y, ec⟩
  refine ⟨o, v, e1, e2, fun i x h1 h2 => ?_⟩
  cases i with
  | zero =>
    rw [cap.at0] at h1
    cases h1
    -- the parameter is no cell
    rcases cloFrom_mem (PySem.mem_of_lookup e) with hm | ⟨hm, _⟩
    · cases hm
    · exact absurd rfl (cap.nof _ hm rfl)
  | succ i =>
    obtain ⟨j, h3, h4⟩ := capS_at (show (capS σ js)[i]? = some (some x) from h2)
    obtain ⟨j', h5, h6, h7, h8⟩ := cap.at_ i y h1
    rw [h3] at h5
    cases h5
    obtain ⟨o', u, q1, q2, r⟩ := z.cell y c j x ec h6 (by rw [hsc]; exact .inr (.inl h7)) (by rw [hsc, h7]; exact fun z => by cases z) h4
    rw [e1] at q1
    cases q1
    rw [e2] at q2
    cases q2
    exact ⟨u, rfl, r⟩
/-- what _law_all asks of a work -/
def Work (X : Cx) (T : List (Addr × Str)) (cE : Addr) (cs : Fin 9 → Addr) (k : Nat) (i : Fin 9) (f : Addr) (H2 : Hp) : Prop := ∀ H1, XX T H2 H1 → ∃ ph sp, FnObj H1 f ∧ CallOk X.prog X.w X.K X.mg X.base k f ph sp ∧ ph H1 ∧ ∀ (Q : VK) (E : XK), (∀ H2 D, XX T H1 H2 → EIs X.K cE cs i D → E (.ref D) none H2) → sp H1 Q E
theorem work_lam0 {i : Fin 9} {C : Addr} (z : Frozen X σ Hx H2) (cap : CapS sc scope X.N Nl js) (hce : X.env.cells = cellsFrom n sc.names []) (hsc : X.env.scope = sc) (inj : InjC (cloFrom X.env.cells scope.names []))
    (hf : Hx f = some (frzO (lamObj q params body scope (cloFrom X.env.cells scope.names []) dV doc pm c' ctv))) (hd : dV = .none) (hc : Hx c' = some (CodeO c' q)) (hC : EIs X.K cE cs i C)
    (hbind : ∀ (doc pm cv ctv : Value), bindArgs (PySem.W.kdv_fn "<lambda>" q params (.expr body) scope (cloFrom X.env.cells scope.names []) .none doc pm cv ctv) ⟨[], []⟩ = pure [])
    (hbody : ∀ (A : Around) (outer : List Env) (s : Shared) (H : Hp) (E : XK), Room k (A.deeper (PySem.W.envX q scope s.heap.objs.size f (.ref c') (cloFrom X.env.cells scope.names []))) → PE (lCx X.prog X.w X.K X.mg X.base Nl q scope f c' (cloFrom X.env.cells scope.names []) A outer s H E) body (tb E))
    (h : ∀ Hl, XX T Hx Hl → ∀ (E : XK) (Q2 : VK), (∀ Hl', XX T Hl Hl' → E (.ref C) none Hl') → tb E (capS σ js) Hl Q2) : Work X T cE cs (k + 1) i f H2 := by
  intro H1 x1
  have Z := fr_of z
  have sub : ∀ b, CS (cloFrom X.env.cells scope.names []) b → CellOf X b := fun b hb => by
    obtain ⟨y, e⟩ := hb
    exact ⟨y, clo_cm (cap_free cap hce) e⟩
  have fz1 : Fz (CS (cloFrom X.env.cells scope.names [])) H1 := (Z.any.sub sub).xx x1
  have L2' := (lamAt_frz (D := fun dV _ => dV = .none) z cap hce hsc (Z.ext hf) (Z.ext hc) hd).xx x1 id
  have into : XX T Hx (unf (CS (cloFrom X.env.cells scope.names [])) H1) := by
    have f2 : Fz (CS (cloFrom X.env.cells scope.names [])) H2 := Z.any.sub sub
    have a1 : XX T Hx H1 := Z.xx.trans x1
    -- nothing of Hx is hidden
    have ns : ∀ {b o}, Hx b = some o → ¬ CS (cloFrom X.env.cells scope.names []) b := fun {b o} e h => Z.no e (sub b h)
    refine ⟨fun b o e t => by rw [unf_out (ns e)]; exact a1.keep b o e t, fun b ps e => ?_, fun p hG => fz1.tabG (a1.tabG p hG), fun hT => fz1.tabs (a1.tabs hT)⟩
    obtain ⟨ps', e'⟩ := a1.tbl b ps e
    exact ⟨ps', by rw [unf_out (ns e)]; exact e'⟩
  refine ⟨_, _, ⟨_, _, _, L2'.1, rfl⟩, callOk_lam0 (τ := capS σ js) (Nl := Nl) (dV := dV) (doc := doc) (pm := pm) (ctv := ctv) ⟨cap.L.kind, cap.L.co, cap.L.gen, fun y hy => (cap.L.own y hy).2⟩ inj (cap_clos cap) (by unfold capS; rw [List.length_map]; exact cap.len.symm) (fun i y e => ?_) hbind hbody, L2', fun Q' E hE => ?_⟩
  · obtain ⟨j, _, _, _, e2⟩ := cap.at_ i y e
    rw [e2]
    exact fun z => by cases z
  · exact h _ into _ _ fun Hl' xl hn => hE _ C (fz1.refX xl hn) hC
theorem work_lam1 {i : Fin 9} {C : Addr} {i0 : Int} (z : Frozen X σ Hx H2) (cap : CapS1 sc scope X.N Nl js a) (hce : X.env.cells = cellsFrom n sc.names []) (hsc : X.env.scope = sc) (inj : InjC (cloFrom X.env.cells scope.names []))
    (hf : Hx f = some (frzO (lamObj q params body scope (cloFrom X.env.cells scope.names []) dV doc pm c' ctv))) (hd : Dflt1 i0 dV Hx) (hc : Hx c' = some (CodeO c' q)) (hC : EIs X.K cE cs i C)
    (hbind : ∀ (s : Shared) (t : Addr) (u : Tok) (doc pm cv ctv : Value), s.heap.get? t = some (PySem.W.kdv_tup [.int i0 u]) → BindsTo s (PySem.W.kdv_fn "<lambda>" q params (.expr body) scope (cloFrom X.env.cells scope.names []) (.ref t) doc pm cv ctv) ⟨[], []⟩ [(a, .int i0 u)])
    (hbody : ∀ (A : Around) (outer : List Env) (s : Shared) (H : Hp) (E : XK), Room k (A.deeper (PySem.W.envX q scope s.heap.objs.size f (.ref c') (cloFrom X.env.cells scope.names []))) → PE (lCx X.prog X.w X.K X.mg X.base Nl q scope f c' (cloFrom X.env.cells scope.names []) A outer s H E) body (tb E))
    (h : ∀ Hl, XX T Hx Hl → ∀ (E : XK) (Q2 : VK), (∀ Hl', XX T Hl Hl' → E (.ref C) none Hl') → tb E (some (.int i0) :: capS σ js) Hl Q2) : Work X T cE cs (k + 1) i f H2 := by
  intro H1 x1
  have Z := fr_of z
  have sub : ∀ b, CS (cloFrom X.env.cells scope.names []) b → CellOf X b := fun b hb => by
    obtain ⟨y, e⟩ := hb
    exact ⟨y, clo_cm (cap1_free cap hce) e⟩
  have fz1 : Fz (CS (cloFrom X.env.cells scope.names [])) H1 := (Z.any.sub sub).xx x1
  have L2' := (lamAt_frz1 (D := Dflt1 i0) (v0 := .int i0) z cap hce hsc (Z.ext hf) (Z.ext hc) (hd.xx (T := T) Z.xx)).xx x1 fun q => q.xx x1
  have into : XX T Hx (unf (CS (cloFrom X.env.cells scope.names [])) H1) := by
    have a1 : XX T Hx H1 := Z.xx.trans x1
    have ns : ∀ {b o}, Hx b = some o → ¬ CS (cloFrom X.env.cells scope.names []) b := fun {b o} e h => Z.no e (sub b h)
    refine ⟨fun b o e t => by rw [unf_out (ns e)]; exact a1.keep b o e t, fun b ps e => ?_, fun p hG => fz1.tabG (a1.tabG p hG), fun hT => fz1.tabs (a1.tabs hT)⟩
    obtain ⟨ps', e'⟩ := a1.tbl b ps e
    exact ⟨ps', by rw [unf_out (ns e)]; exact e'⟩
  refine ⟨_, _, ⟨_, _, _, L2'.1, rfl⟩, callOk_lam1 (τ := some (.int i0) :: capS σ js) (Nl := Nl) (dV := dV) (doc := doc) (pm := pm) (ctv := ctv) ⟨cap.kind, cap.co, cap.gen, cap.ncell⟩ inj (cap1_clos cap) (by unfold capS; rw [List.length_cons, List.length_map]; exact cap.len.symm) (fun i y e => ?_) cap.at0 cap.loc rfl hbind hbody, L2', fun Q' E hE => ?_⟩
  · obtain ⟨j, _, _, _, e2⟩ := cap.at_ i y e
    rw [e2]
    exact fun z => by cases z
  · exact h _ into _ _ fun Hl' xl hn => hE _ C (fz1.refX xl hn) hC
end
end GX
namespace GX
open PySem PySem.Spec PyProof.Rows L2 LamX
def spLaw (K : PySem.W.Frag) (T : List (Addr × Str)) (P1 P2 : Addr) : Sp := fun vs H Q _ => ∃ (a : Addr) (ns : List Int), vs = [.ref a] ∧ SqL K H a (ns.map V.int) ∧ ns.length ≤ 63 ∧ Tabs T H ∧ GxR.TabG H P1 ∧ GxR.TabG H P2 ∧ ∀ H', Q (.bl true) H'
/-- a class that is called by its name -/
structure Ctor1 (P : Program) (w : World) (K : PySem.W.Frag) (mg : Str → Option Value) (base : Heap) (x : Str) (C : Addr) (ps : List Str) (k : Nat) (sp : Sp) (f : Addr) (fd : FuncData) : Prop where
  M : Mk K C f
  F : FnOk P w K mg base (L2.CX P w) k f fd ps sp
  b : Binds K fd ps []
def Ctor (P : Program) (w : World) (K : PySem.W.Frag) (mg : Str → Option Value) (base : Heap) (x : Str) (C : Addr) (ps : List Str) (k : Nat) (sp : Sp) : Prop := mg x = some (.ref C) ∧ ∃ f fd, Ctor1 P w K mg base x C ps k sp f fd
theorem pe_ctor {X : Cx} {ps : List Str} {k : Nat} {sp : Sp} {x : Str} {C : Addr} {p pos : Pos} {e : Expr} {es : List Expr} {t : TA} {E : XK} (c : Ctor X.prog X.w X.K X.mg X.base x C ps k sp) (hr : Room (k + 1) X.A) (hx : Passes (L2.CX X.prog X.w) X E) (ha : PA X (e :: es) t) (hg : Gl X x := by rfl) (hdb : (x == ("__debug__" : Str)) = false := by decide)
    (he : starEach (e :: es) X.env = (false, eval e X.env) :: starEach es X.env := by rfl) (hpl : (backTo pos (starEach es X.env)).any (·.1) = false := by rfl) : PE X (.Call (.Name x p) (e :: es) [] pos) (tMake C sp [] E t) := by
  obtain ⟨m, f, fd, c⟩ := c
  exact pe_make c.M c.F hr hg m c.b .nil hx ha hdb he hpl
end GX
namespace GX
open PySem PySem.Spec PyProof.Rows L2 LamX
section
variable {K : PySem.W.Frag} {T : List (Addr × Str)} {H : Hp}
/-- the fresh page as the law writes it -/
theorem fresh_data {p1 p2 p3 p4 p5 p6 : Addr} (h1 : H p1 = none) (h2 : (upd H p1 (.tup [.str "free", .int 0])) p2 = none) (h3 : (upd (upd H p1 (.tup [.str "free", .int 0])) p2 (.tup [.ref p1])) p3 = none) (h4 : (upd (upd (upd H p1 (.tup [.str "free", .int 0])) p2 (.tup [.ref p1])) p3 (.tup (List.replicate (8 : Int).toNat [V.ref p1]).flatten)) p4 = none) (h5 : (upd (upd (upd (upd H p1 (.tup [.str "free", .int 0])) p2 (.tup [.ref p1])) p3 (.tup (List.replicate (8 : Int).toNat [V.ref p1]).flatten)) p4 (.tup [.int 0])) p5 = none) (h6 : (upd (upd (upd (upd (upd H p1 (.tup [.str "free", .int 0])) p2 (.tup [.ref p1])) p3 (.tup (List.replicate (8 : Int).toNat [V.ref p1]).flatten)) p4 (.tup [.int 0])) p5 (.tup (List.replicate (24 : Int).toNat [V.int 0]).flatten)) p6 = none) : XX T H (upd (upd (upd (upd (upd (upd H p1 (.tup [.str "free", .int 0])) p2 (.tup [.ref p1])) p3 (.tup (List.replicate (8 : Int).toNat [V.ref p1]).flatten)) p4 (.tup [.int 0])) p5 (.tup (List.replicate (24 : Int).toNat [V.int 0]).flatten)) p6 (.tup [.ref p3, .ref p5])) ∧ Dp K (upd (upd (upd (upd (upd (upd H p1 (.tup [.str "free", .int 0])) p2 (.tup [.ref p1])) p3 (.tup (List.replicate (8 : Int).toNat [V.ref p1]).flatten)) p4 (.tup [.int 0])) p5 (.tup (List.replicate (24 : Int).toNat [V.int 0]).flatten)) p6 (.tup [.ref p3, .ref p5])) (.ref p6) freshD := by
  have n12 : p1 ≠ p2 := fun z => by rw [← z, upd_same] at h2; cases h2
  have x : XX T H _ := ((((((XX.new (T := T) h1).then_new h2).then_new h3).then_new h4).then_new h5).then_new (o := .tup [.ref p3, .ref p5]) h6)
  have g6 : ∀ {b o}, (upd (upd (upd (upd (upd H p1 (.tup [.str "free", .int 0])) p2 (.tup [.ref p1])) p3 (.tup (List.replicate (8 : Int).toNat [V.ref p1]).flatten)) p4 (.tup [.int 0])) p5 (.tup (List.replicate (24 : Int).toNat [V.int 0]).flatten)) b = some o → (upd (upd (upd (upd (upd (upd H p1 (.tup [.str "free", .int 0])) p2 (.tup [.ref p1])) p3 (.tup (List.replicate (8 : Int).toNat [V.ref p1]).flatten)) p4 (.tup [.int 0])) p5 (.tup (List.replicate (24 : Int).toNat [V.int 0]).flatten)) p6 (.tup [.ref p3, .ref p5])) b = some o := fun {b o} e => by
    rw [upd_ne (ne_of_none e h6)]; exact e
  have e5 := g6 (b := p5) upd_same
  have e3 : (upd (upd (upd (upd (upd H p1 (.tup [.str "free", .int 0])) p2 (.tup [.ref p1])) p3 (.tup (List.replicate (8 : Int).toNat [V.ref p1]).flatten)) p4 (.tup [.int 0])) p5 (.tup (List.replicate (24 : Int).toNat [V.int 0]).flatten)) p3 = some (.tup (List.replicate (8 : Int).toNat [V.ref p1]).flatten) := by
    have q4 := (upd_ne (H := upd (upd (upd H p1 (.tup [.str "free", .int 0])) p2 (.tup [.ref p1])) p3 (.tup (List.replicate (8 : Int).toNat [V.ref p1]).flatten)) (a := p4) (o := .tup [.int 0]) (ne_of_none upd_same h4)).trans upd_same
    exact (upd_ne (ne_of_none q4 h5)).trans q4
  have e1 : (upd (upd (upd (upd (upd H p1 (.tup [.str "free", .int 0])) p2 (.tup [.ref p1])) p3 (.tup (List.replicate (8 : Int).toNat [V.ref p1]).flatten)) p4 (.tup [.int 0])) p5 (.tup (List.replicate (24 : Int).toNat [V.int 0]).flatten)) p1 = some (.tup [.str "free", .int 0]) := by
    have y : XX T (upd H p1 (.tup [.str "free", .int 0])) _ := ((((XX.new (T := T) (o := .tup [.ref p1]) h2).then_new h3).then_new (o := .tup [.int 0]) h4).then_new (o := .tup (List.replicate (24 : Int).toNat [V.int 0]).flatten) h5)
    exact y.tup upd_same
  refine ⟨x, ?_⟩
  refine .tup (SqT.of upd_same) (.cons (.tup (SqT.of (g6 e3)) ?_) (.cons (.tup (SqT.of e5) ?_) .nil))
  · have d1 : Dp K _ (.ref p1) (freeD 0) := .tup (SqT.of (g6 e1)) (.cons (.str _) (.cons (.int _) .nil))
    exact .cons d1 (.cons d1 (.cons d1 (.cons d1 (.cons d1 (.cons d1 (.cons d1 (.cons d1 .nil)))))))
  · have d0 : ∀ {H}, Dp K H (.int 0) (.int 0) := fun {H} => .int 0
    exact .cons d0 (.cons d0 (.cons d0 (.cons d0 (.cons d0 (.cons d0 (.cons d0 (.cons d0 (.cons d0 (.cons d0 (.cons d0 (.cons d0 (.cons d0 (.cons d0 (.cons d0 (.cons d0 (.cons d0 (.cons d0 (.cons d0 (.cons d0 (.cons d0 (.cons d0 (.cons d0 (.cons d0 .nil)))))))))))))))))))))))
end
theorem merge_own (lp : Addr) : mergeK [] (ownK lp none false 0) = ownK lp none false 0 := by
  have e1 : ¬ Str.ofString "pages" = Str.ofString "left" := fun e => k_pl (congrArg Sum.inr e)
  have e2 : ¬ Str.ofString "pages" = Str.ofString "stands" := fun e => k_ps (congrArg Sum.inr e)
  have e3 : ¬ Str.ofString "pages" = Str.ofString "many" := fun e => k_pm (congrArg Sum.inr e)
  have e4 : ¬ Str.ofString "left" = Str.ofString "stands" := fun e => k_ls (congrArg Sum.inr e)
  have e5 : ¬ Str.ofString "left" = Str.ofString "many" := fun e => k_lm (congrArg Sum.inr e)
  have e6 : ¬ Str.ofString "stands" = Str.ofString "many" := fun e => k_sm (congrArg Sum.inr e)
  simp [mergeK, putK, ownK, e1, e2, e3, e4, e5, e6]
theorem dpAll_rep {K : PySem.W.Frag} {H : Hp} {v : V} {d : PyData} (h : Dp K H v d) : ∀ n : Nat, DpAll K H (List.replicate n [v]).flatten (List.replicate n d)
  | 0 => .nil
  | n + 1 => by
    rw [List.replicate_succ, List.replicate_succ, List.flatten_cons]
    exact .cons h (dpAll_rep h n)
end GX
set_option maxHeartbeats 4000000
namespace GX
open PySem PySem.Spec PyProof.Rows L2 LamX
section
variable {P : Program} {w : World} {K : PySem.W.Frag} {mg : Str → Option Value} {base : Heap} {T : List (Addr × Str)} {C cE cD cN cP cC cS : Addr} {cs : Fin 9 → Addr} {P1 P2 : Addr}
abbrev lawN : List Str := ["_law_script", "_law_box", "_law_many", "_law_disk", "_law_fresh", "_law_own", "_law_turn_here", "_law_works", "_law_number"]
abbrev lawQ : Str := ("law" : Str) ++ (".<locals>." : Str) ++ ("<lambda>" : Str)
theorem sc_law : FnScope lawN ["_law_script"] (defScope s_law) := ⟨rfl, rfl, rfl, by decide +kernel, rfl, by decide +kernel, by decide +kernel⟩
theorem lam_free {X : Cx} {sc scope : Scope} (ok : X.Ok) (hsc : X.env.scope = sc) (h : (scope.names.all fun y => !decide (y.2 = .free) || decide (sc.names.lookup y.1 = some .cell)) = true) : ∀ y ∈ scope.names, y.2 = .free → ∃ c, X.env.cells.lookup y.1 = some c := fun y hy e => by
  rcases Bool.or_eq_true_iff.mp (List.all_eq_true.mp h y hy) with z | z
  · rw [e] at z; simp at z
  · exact ok.has _ (.inl (by show X.env.scope.names.lookup y.1 = some .cell; rw [hsc]; exact of_decide_eq_true z))
theorem ok_law {f c Pt : Addr} {fd : FuncData} (F : FunC K "law" "law" s_law f fd c) (TB : LamX.TabB base mg c Pt) (hm : (Pt, lawQ) ∈ T) (hu0 : ∀ p ∈ T, p.1 = Pt → p.2 = lawQ) (D : DTx K mg C cD cN cP cC cS) (B : Blt mg)
    (eN : EIs K cE cs 6 cN) (eS : EIs K cE cs 8 cS)
    (cB : Cal P w K mg base CX0 "_law_begun" ["_law_script"] 1 (spBegun K T)) (cT : Cal P w K mg base CX0 "_law_take" ["_law_box", "_law_many"] 1 (spTake T)) (cD' : Ctor P w K mg base "Disk" C ["self", "many"] 2 (spDInit K T C cD))
    (cTu : Cal P w K mg base CX0 "_law_turn" ["_law_box", "_law_disk", "_law_own"] 10 (spTurn K T C P1 P2))
    (cAl2 : Cal P w K mg base CX0 "_law_alike" ["_law_found", "_law_due"] 2 (spAl K 2)) (cAl6 : Cal P w K mg base CX0 "_law_alike" ["_law_found", "_law_due"] 6 (spAl K 6)) (cAll : Cal P w K mg base CX0 "_law_all" ["_law_works", "_law_due"] 10 (spAll P w K mg base T cE cs 8))
    (mPages : Met P w K mg base CX0 C "pages" ["self"] 1 (spDPages K C)) (mWrites : Met P w K mg base CX0 C "writes" ["self"] 1 (spDWrites K C)) (mAgain : Met P w K mg base CX0 C "again" ["self"] 1 (spDAgain K T C)) (mPage : Met P w K mg base (L2.CX P w) C "page" ["self", "number"] 3 (spDPage K C cN cS)) (mWrite : Met P w K mg base (L2.CX P w) C "write" ["self", "number", "page"] 7 (spDWrite K T P1 P2 C cN cP cS)) :
    FnOk P w K mg base CX0 11 f fd ["_law_script"] (spLaw K T P1 P2) := by
  refine F.ok sc_law (fun vs H Q E h => by obtain ⟨a, ns, rfl, _⟩ := h; rfl) (fun A outer s H vs Q E hr h => ?_)
  obtain ⟨a, ns, rfl, hS, hlen, hT, g1, g2, k⟩ := h
  have nd := sc_law.nd
  have hu := hu_of hr
  refine ⟨_, (pss_cons (ps_set (i := 1) nd rfl (Or.inl rfl) (pe_cal cB (hr.mono (by decide)) (pa_cons (pv 0) pa_nil)))
    (pss_cons (ps_set (i := 2) nd rfl (Or.inl rfl) (pe_op op_add pe_int (pe_cal cT (hr.mono (by decide)) (pa_cons (pv 1) (pa_cons pe_int pa_nil)))))
    (pss_cons (ps_set (i := 3) nd rfl (Or.inr rfl) (pe_ctor cD' (hr.mono (by decide)) passL (pa_cons (pv 2) pa_nil)))
    (pss_cons (ps_set (i := 4) nd rfl (Or.inl rfl) (pe_tup (pa_cons (pe_op op_repT (pe_tup (pa_cons (pe_tup (pa_cons pe_str (pa_cons pe_int pa_nil))) pa_nil)) pe_int) (pa_cons (pe_op op_repT (pe_tup (pa_cons pe_int pa_nil)) pe_int) pa_nil))))
    (pss_cons (ps_set (i := 5) nd rfl (Or.inl rfl) (pe_disp (pps_cons pe_str (pe_op op_rep (pe_lst (pa_cons (pv 4) pa_nil)) (pv 2)) (pps_cons pe_str pe_non (pps_cons pe_str pe_bl (pps_cons pe_str pe_int pps_nil)))) (by rfl) (by rfl) (by simp) (by decide)))
    (pss_cons (ps_for PassesOwn.never rfl (pi_range1 (by rfl) B.range (pa_cons (pe_cal cT (hr.mono (by decide)) (pa_cons (pv 1) (pa_cons (pe_ix ix_list (pe_lst (pa_cons pe_int (pa_cons pe_int pa_nil))) (pe_cal cT (hr.mono (by decide)) (pa_cons (pv 1) (pa_cons pe_int pa_nil))) (fun _ _ => rfl)) pa_nil))) pa_nil)) (pg_name (i := 6) nd rfl (Or.inl rfl))
    (pss_cons (ps_if (pt_not (pt_val (pe_cal cTu (hr.mono (by decide)) (pa_cons (pv 1) (pa_cons (pv 3) (pa_cons (pv 5) pa_nil)))))) (pss_one (ps_ret pe_bl)) pss_nil)
    (pss_cons (ps_if (pt_not (pt_val (pe_cal cAl2 (hr.mono (by decide)) (pa_cons (pe_lst (pa_cons (pe_met0 mPages D.cl (hr.mono (by decide)) pass0 (pv 3)) (pa_cons (pe_met0 mWrites D.cl (hr.mono (by decide)) pass0 (pv 3)) pa_nil))) (pa_cons (pe_lst (pa_cons (pv 2) (pa_cons (pe_dget hu (pv 5) pe_str (fun _ _ => rfl)) pa_nil))) pa_nil))))) (pss_one (ps_ret pe_bl)) pss_nil)
    (pss_cons (ps_set (i := 7) nd rfl (Or.inl rfl) (pe_lst (pa_cons (pe_lam0 (T := T) TB (by rfl) hm hu0 (lamS_by (sc := defScope s_law) (by decide +kernel))) (pa_cons (pe_lam1 (T := T) (i := 0) TB (by rfl) hm hu0 (fun ok => lam_free (sc := defScope s_law) ok rfl (by decide +kernel))) pa_nil))))
    (pss_one (ps_if (pt_not (pt_val (pe_calF cAll (hr.mono (by decide)) (fun _ => rfl) (pa_cons (pv 7) (pa_cons (pe_tup (pa_cons (pe_ifExp (pt_val (pe_dget hu (pv 5) pe_str (fun _ _ => rfl))) pe_str pe_str) (pa_cons pe_int pa_nil))) pa_nil))))) (pss_one (ps_ret pe_bl)) pss_nil))))))
    (pss_cons (ps_expr (pe_met0 mAgain D.cl (hr.mono (by decide)) pass0 (pv 3)))
    (pss_one (ps_ret (pe_cal cAl6 (hr.mono (by decide)) (pa_cons (pe_lc (own := [("_law_number", 8)]) (g := gName 8) (tt := tYes) (by rfl) nd (pi_range1 (by rfl) B.range (pa_cons (pv 2) pa_nil)) (blkOk_by (own := [("_law_number", 8)]) (N := lawN) (sc := defScope s_law) (by decide +kernel))
        (fun _ _ _ _ _ => pg_name (i := 8) nd rfl (Or.inl rfl)) (fun _ _ _ _ _ => pts_nil) (fun _ _ _ _ _ => pe_met mPage D.cl (hr.mono (by decide)) passL (pv 3) (pa_cons (pv 8) pa_nil))) (pa_cons (pe_dget hu (pv 5) pe_str (fun _ _ => rfl)) pa_nil)))))))))))), ?_⟩
  refine ⟨_, rfl, a, ns, rfl, hS, hlen, fun H1 b l z x1 bx1 fb fl => ?_⟩
  refine ⟨_, rfl, b, l, _, _, _, rfl, bx1, by decide, by decide, fun H2 ns2 z2 r2 a2 bx2 p2 q2 => ⟨_, _, rfl, rfl, ?_⟩⟩
  -- the disk
  refine ⟨_, rfl, fun p dx np ndx ne => ?_⟩
  have xa := (XX.new (T := T) (o := .own p) ndx).then_new (o := .ins C dx []) (by rw [upd_ne (Ne.symm ne)]; exact np)
  have bxa := bx2.xx xa
  refine ⟨p, dx, .int (2 + r2), .int (2 + r2), rfl, upd_same, .int _, (fun hf => by rw [num_of (by omega) (by omega)] at hf; cases hf), fun n en hn1 hn2 H4 sl x4 nsl dk4 => ⟨rfl, ?_⟩⟩
  cases en
  have npb : b ≠ p := fun e => by rw [← e, bx2.hb] at np; cases np
  have npl : l ≠ p := fun e => by rw [← e, bx2.hl] at np; cases np
  have bx4 := bxa.xm x4 npb npl
  have nslb : sl ≠ b := fun e => by rw [e, bxa.hb] at nsl; cases nsl
  have nsll : sl ≠ l := fun e => by rw [e, bxa.hl] at nsl; cases nsl
  have y4 := ((x1.xm (S := fun _ => True)).trans (a2.mono fun _ _ => True.intro)).trans (xa.xm.trans (x4.mono fun _ _ => True.intro))
  -- a fresh page
  refine ⟨(by show 2 ≤ sizeLine; decide), fun f1 h1 => ⟨(by show 1 ≤ sizeLine; decide), fun f2 h2 => ⟨f2, 8, _, rfl, rfl, SqT.of upd_same, (by simp), (by decide), (by decide), (by show 1 ≤ 1000; decide), fun f3 h3 => ?_⟩⟩⟩
  refine ⟨(by show 1 ≤ sizeLine; decide), fun f4 h4 => ⟨f4, 24, _, rfl, rfl, SqT.of upd_same, (by simp), (by decide), (by decide), (by show 1 ≤ 1000; decide), fun f5 h5 => ⟨(by show 2 ≤ sizeLine; decide), fun f6 h6 => ?_⟩⟩⟩
  obtain ⟨x5, dfr⟩ := fresh_data (T := T) (K := K) h1 h2 h3 h4 h5 h6
  revert x5 dfr
  generalize V.ref f6 = fr
  generalize upd (upd (upd (upd (upd (upd H4 f1 (.tup [.str "free", .int 0])) f2 (.tup [.ref f1])) f3 (.tup (List.replicate (8 : Int).toNat [V.ref f1]).flatten)) f4 (.tup [.int 0])) f5 (.tup (List.replicate (24 : Int).toNat [V.int 0]).flatten)) f6 (.tup [.ref f3, .ref f5]) = H5
  intro x5 dfr
  have dk5 := dk4.xx x5
  have bx5 := bx4.xx x5
  -- the law's own
  refine fun o no => ⟨_, rfl, (by show 1 ≤ sizeLine; decide), fun lq hlq => ?_⟩
  have xo := XX.new (T := T) (o := .dK []) no
  have xq := XX.new (T := T) (o := .lst [fr]) hlq
  refine ⟨_, rfl, lq, 2 + r2, [fr], rfl, rfl, upd_same, by omega, by omega, ?_, fun lp hlp => ?_⟩
  · have : (2 + r2).toNat ≤ 12 := by omega
    exact Nat.le_trans (show 1 * (2 + r2).toNat ≤ 100 by omega) (by decide)
  have xp := XX.new (T := T) (o := .lst (List.replicate (2 + r2).toNat [fr]).flatten) hlp
  have xqp := xq.trans xp
  have eo : upd (upd (upd H5 o (.dK [])) lq (.lst [fr])) lp (.lst (List.replicate (2 + r2).toNat [fr]).flatten) o = some (.dK []) := xqp.dk upd_same
  refine ⟨eo, ownK lp none false 0, rfl, (by show 4 ≤ 15; decide), ?_⟩
  rw [merge_own]
  have xs5 : XM T (fun c => c = o) H5 (upd (upd (upd (upd H5 o (.dK [])) lq (.lst [fr])) lp (.lst (List.replicate (2 + r2).toNat [fr]).flatten)) o (.dK (ownK lp none false 0))) := ((xo.trans xqp).xm).then_upd eo rfl True.intro
  have npo : p ≠ o := fun e => by have := dk5.ins; rw [e, no] at this; cases this
  have nslo : sl ≠ o := fun e => by obtain ⟨_, h, _⟩ := dk5.lst; rw [e, no] at h; cases h
  have nbo : b ≠ o := fun e => by have := bx5.hb; rw [e, no] at this; cases this
  have nlo : l ≠ o := fun e => by have := bx5.hl; rw [e, no] at this; cases this
  have nlpo : lp ≠ o := fun e => by
    rw [e, xq.dk upd_same] at hlp
    cases hlp
  have xoq := xo.trans xq
  have bxq := bx5.xx xoq
  have dkq := dk5.xx xoq
  have nlpb : lp ≠ b := fun e => by have := bxq.hb; rw [e] at hlp; rw [hlp] at this; cases this
  have nlpl : lp ≠ l := fun e => by have := bxq.hl; rw [e] at hlp; rw [hlp] at this; cases this
  have nlps : lp ≠ sl := fun e => by obtain ⟨_, h, _⟩ := dkq.lst; rw [e] at hlp; rw [hlp] at h; cases h
  have dfs := Dp.xm xs5 _ _ flat_fresh dfr
  have kis : KInv K C (upd (upd (upd (upd H5 o (.dK [])) lq (.lst [fr])) lp (.lst (List.replicate (2 + r2).toNat [fr]).flatten)) o (.dK (ownK lp none false 0))) b l p dx sl o lp ns2 z2 (List.replicate (2 + r2).toNat freshD) none false 0 :=
    ⟨bx5.xm xs5 nbo nlo, dk5.xm xs5 npo nslo, ⟨upd_same, ⟨_, by rw [upd_ne nlpo, upd_same], dpAll_rep dfs _⟩, fun d hd => by rw [(List.mem_replicate.mp hd).2]; exact page_fresh⟩, nslb, nsll, nlpb, nlpl, nlps, by rw [List.length_replicate]; omega, by rw [List.length_replicate]; omega, fun k0 hk => by cases hk⟩
  have ys := (y4.trans (x5.xm.trans (xs5.mono fun _ _ => True.intro)))
  have hTs := ys.tabs hT
  have g1s := ys.tabG _ g1
  have g2s := ys.tabG _ g2
  generalize upd (upd (upd (upd H5 o (.dK [])) lq (.lst [fr])) lp (.lst (List.replicate (2 + r2).toNat [fr]).flatten)) o (.dK (ownK lp none false 0)) = Hs at kis hTs g1s g2s ⊢
  have hls : (List.replicate (2 + r2).toNat freshD).length = (2 + r2).toNat := List.length_replicate ..
  generalize (List.replicate (2 + r2).toNat freshD) = pg0 at kis hls
  -- how many turns
  refine ⟨_, rfl, (by show 2 ≤ sizeLine; decide), fun q hq => ⟨_, rfl, b, l, _, _, _, rfl, kis.bx.xx (XX.new (T := T) hq), by decide, by decide, fun Ha nsa za ra aa bxa' pa qa => ?_⟩⟩
  have nq : ¬ (q = b ∨ q = l) := fun e => by
    rcases e with e | e
    · rw [e, kis.bx.hb] at hq; cases hq
    · rw [e, kis.bx.hl] at hq; cases hq
  have ea : Ha q = some (.lst [.int 41, .int 121]) := aa.lst upd_same nq
  have kia := (kis.xx (XX.new (T := T) (o := .lst [.int 41, .int 121]) hq)).take aa bxa'
  obtain ⟨m, em, m0, m1⟩ : ∃ m : Int, atI [V.int 41, V.int 121] ra = some (V.int m) ∧ 0 < m ∧ m ≤ 121 := by
    rcases (show ra = 0 ∨ ra = 1 by omega) with e | e
    · rw [e]; exact ⟨41, rfl, by decide, by decide⟩
    · rw [e]; exact ⟨121, rfl, by decide, by decide⟩
  refine ⟨q, _, ra, .int m, rfl, rfl, SqL.of ea, em, b, l, _, _, _, rfl, bxa', m0, by omega, fun Hb nsb zb rb ab bxb pb qb => ?_⟩
  have kib := kia.take ab bxb
  have yb : XM T (fun c => c = b ∨ c = l) Hs Hb := (XX.new hq).xm.trans (aa.trans ab)
  refine ⟨rb, rfl, by omega, by omega, for_range (lo := 0) (n := rb.toNat) (fun i σ' H' => ∃ ns z pages left stands many u6 u7, σ' = [some (.ref a), some (.ref b), some (.int (2 + r2)), some (.ref p), some fr, some (.ref o), u6, u7, none] ∧ KInv K C H' b l p dx sl o lp ns z pages left stands many ∧ pages.length = (2 + r2).toNat ∧ Tabs T H' ∧ GxR.TabG H' P1 ∧ GxR.TabG H' P2)
    ⟨_, _, _, _, _, _, none, none, rfl, kib, hls, yb.tabs hTs, yb.tabG _ g1s, yb.tabG _ g2s⟩ ?_ ?_⟩
  · rintro i σ' Hc hi ⟨nsc, zc, pages, left, stands, many, u6, u7, rfl, kic, hpl, hTc, g1c, g2c⟩
    refine ⟨_, rfl, _, rfl, _, rfl, b, l, p, dx, sl, o, lp, nsc, zc, pages, left, stands, many, rfl, kic, hTc, g1c, g2c, fun Hd nsd zd pagesd leftd standsd manyd yd kid hld => ⟨true, rfl, iteF ?_⟩⟩
    refine ⟨_, rfl, p, dx, _, rfl, kid.dk.ins, rfl, p, dx, sl, pagesd, manyd, leftd, standsd, rfl, kid.dk, _, rfl, p, dx, _, rfl, kid.dk.ins, rfl, p, dx, sl, pagesd, manyd, leftd, standsd, rfl, kid.dk, (by show 2 ≤ sizeLine; decide), fun t1 ht1 => ?_⟩
    have xe1 := XX.new (T := T) (o := .lst [.int pagesd.length, .int manyd]) ht1
    have kie1 := kid.xx xe1
    refine ⟨_, rfl, _, rfl, o, _, rfl, kie1.ow.gMany, (by show 2 ≤ sizeLine; decide), fun t2 ht2 => ?_⟩
    have xe2 := XX.new (T := T) (o := .lst [.int (2 + r2), .int manyd]) ht2
    have eln : (pagesd.length : Int) = 2 + r2 := by omega
    refine ⟨.ref t1, .ref t2, .list [.int (2 + r2), .int manyd], rfl, .lst (SqL.of (xe2.lst upd_same)) (.cons (by rw [eln]; exact .int _) (.cons (.int _) .nil)), .lst (SqL.of upd_same) (.cons (.int _) (.cons (.int _) .nil)), (by simp [okD, okAll]), (Nat.le_refl 1), true, rfl, iteF ?_⟩
    have xe := xe1.trans xe2
    have kie := kid.xx xe
    have hTe := xe.tabs (yd.tabs hTc)
    refine ⟨hTe, fun H6 f0 c0 dV0 doc0 pm0 ctv0 inj0 e6 tk6 t6 hD0 nf0 hc0 => ⟨(XX.new (T := T) nf0).tabs t6, fun H7 f1 c1 dV1 doc1 pm1 ctv1 inj1 e7 tk7 t7 hD1 nf1 hc1 => ⟨(by show 2 ≤ sizeLine; decide), fun q7 hq7 => ?_⟩⟩⟩
    have x6 := XX.lam e6 (fun _ => t6) tk6.1 tk6.2
    have x7 := XX.lam e7 (fun _ => t7) tk7.1 tk7.2
    have x8 := XX.new (T := T) (o := .lst [.ref f0, .ref f1]) hq7
    have xx1 : ∀ ob, XX T _ (upd H7 f1 ob) := fun ob => ((x6.then_new nf0).trans x7).then_new nf1
    have kif := kie.xx ((xx1 _).trans x8)
    refine ⟨_, rfl, _, rfl, o, _, rfl, kif.ow.gStands, standsd, rfl, ?_⟩
    refine if_key (R := fun v H' => v = .str (if standsd = true then "Stopped" else "NoPage") ∧ H' = _) (fun v H' hR => ?_) (fun hs Q' key => key _ _ ⟨by rw [hs] <;> rfl, rfl⟩) (fun hs Q' key => key _ _ ⟨by rw [hs] <;> rfl, rfl⟩)
    obtain ⟨rfl, rfl⟩ := hR
    refine ⟨(by show 2 ≤ sizeLine; decide), fun t9 ht9 => fun H10 z10 => ?_⟩
    have x9 := XX.new (T := T) (o := .tup [.str (if standsd = true then "Stopped" else "NoPage"), .int 0]) ht9
    obtain ⟨i9, Cx, hi4, hEI, ew, eS1, eN1⟩ : ∃ (i : Fin 9) (Cx : Addr), i.1 ≠ 4 ∧ EIs K cE cs i Cx ∧ toldD i = .tuple [.str (if standsd = true then "Stopped" else "NoPage"), .int 0] ∧ (standsd = true → Cx = cS) ∧ (standsd = false → Cx = cN) := by
      cases standsd with
      | true => exact ⟨8, cS, by decide, eS, rfl, fun _ => rfl, fun h => by cases h⟩
      | false => exact ⟨6, cN, by decide, eN, rfl, fun h => (by cases h), fun _ => rfl⟩
    have ki9 := kif.xx x9
    have hT9 := x9.tabs (((xx1 _).trans x8).tabs hTe)
    have g19 := x9.tabG _ (((xx1 _).trans x8).tabG _ (xe.tabG _ (yd.tabG _ g1c)))
    have g29 := x9.tabG _ (((xx1 _).trans x8).tabG _ (xe.tabG _ (yd.tabG _ g2c)))
    have n99 : isNum (.int 99) 0 ((pagesd.length : Int) - 1) = false := by
      have := kid.hi
      show (decide ((0 : Int) ≤ 99) && decide ((99 : Int) ≤ (pagesd.length : Int) - 1)) = false
      rw [decide_eq_false (p := (99 : Int) ≤ (pagesd.length : Int) - 1) (by omega), Bool.and_false]
    have Z := fr_of z10
    have x10 : XX T _ H10 := Z.xx
    refine ⟨q7, [f0, f1], .ref t9, i9, rfl, x10.sqL (SqL.of (x9.lst upd_same)), ?_, hi4, fun g hg => ?_, fun H11 x11 => ⟨true, rfl, iteF ?_⟩⟩
    · rw [ew]
      exact Dp.xx x10 _ _ (.tup (SqT.of upd_same) (.cons (.str _) (.cons (.int _) .nil)))
    · rcases List.mem_cons.mp hg with e | hg
      · subst e
        refine work_lam0 (T := T) (Nl := ["_law_disk"]) (js := [3]) (sc := defScope s_law) (k := 7) (tb := fun E => tMeth C "page" (spDPage K C cN cS) [] E (tVar 0) (tCons (tC (.int 99)) tNil)) z10 (cap_by (N := lawN) (by decide +kernel)) rfl rfl inj0 (((x7.trans (XX.new nf1)).trans (x8.trans x9)).keep _ _ upd_same fun ps z => by cases z) hD0 ?_ hEI (fun _ _ _ _ => rfl)
          (fun A outer s H E hr => pe_met mPage D.cl (hr.mono (by decide)) passes_l (pv 0) (pa_cons pe_int pa_nil)) fun Hl xl E2 Q2 hE => ?_
        · exact ((x7.trans (XX.new nf1)).trans (x8.trans x9)).keep _ _ (by rw [upd_ne (ne_of_none hc0 nf0)]; exact hc0) (fun ps => codeO_ne ps)
        · have kil := ki9.xx xl
          refine ⟨_, rfl, p, dx, _, rfl, kil.dk.ins, rfl, p, dx, sl, pagesd, manyd, leftd, standsd, .int 99, .int 99, rfl, kil.dk, .int _, fun hs => ?_, fun hs _ => ?_, fun i e u hs hi he du => ?_⟩
          · have := hE _ (XX.refl _)
            rw [eS1 hs] at this
            exact this
          · have := hE _ (XX.refl _)
            rw [eN1 hs] at this
            exact this
          · have h1 : (99 : Int) = (i : Int) := by injection hi
            have h2 := (List.getElem?_eq_some_iff.mp he).1
            have h3 := kid.hi
            omega
      · rw [List.mem_singleton.mp hg]
        refine work_lam1 (T := T) (a := "_law_a") (i0 := 0) (Nl := ["_law_a", "_law_disk"]) (js := [3]) (sc := defScope s_law) (k := 7) (tb := fun E => tMeth C "write" (spDWrite K T P1 P2 C cN cP cS) [] E (tVar 1) (tCons (tC (.int 99)) (tCons (tTup tNil) tNil))) z10 (cap1_by (N := lawN) rfl (by decide +kernel)) rfl rfl inj1 ((x8.trans x9).keep _ _ upd_same fun ps z => by cases z)
          (hD1.xx ((XX.new nf1).trans (x8.trans x9))) ?_ hEI (fun s t u _ _ _ _ e => BindsTo.of_defaults rfl e rfl rfl rfl) (fun A outer s H E hr => pe_met mWrite D.cl (hr.mono (by decide)) passes_l (pv 1) (pa_cons pe_int (pa_cons (pe_tup pa_nil) pa_nil))) fun Hl xl E2 Q2 hE => ?_
        · exact ((XX.new nf1).trans (x8.trans x9)).keep _ _ hc1 (fun ps => codeO_ne ps)
        · have kil := ki9.xx xl
          refine ⟨_, rfl, p, dx, _, rfl, kil.dk.ins, rfl, (by show 0 ≤ sizeLine; decide), fun te hte => ?_⟩
          have xt := XX.new (T := T) (o := .tup []) hte
          refine ⟨p, dx, sl, pagesd, manyd, leftd, standsd, .int 99, .int 99, .ref te, .tuple [], rfl, kil.dk.xx xt, .int _, .tup (SqT.of upd_same) .nil, rfl, rfl, (xl.trans xt).tabG _ g19, (xl.trans xt).tabG _ g29, fun hs => ?_, fun hs _ => ?_, fun hs hq => ?_, fun hs hq => ?_, fun i hs hi hlt => ?_⟩
          · have := hE _ xt
            rw [eS1 hs] at this
            exact this
          · have := hE _ xt
            rw [eN1 hs] at this
            exact this
          · rw [n99] at hq; cases hq
          · rw [n99] at hq; cases hq
          · have h1 : (99 : Int) = (i : Int) := by injection hi
            have h3 := kid.hi
            omega
    · have yF : XM T (fun _ => False) _ (unf (CellOf _) H11) := Z.back (x11.xm (S := fun _ => False))
      exact ⟨_, _, _, _, _, _, _, _, rfl, ki9.take (yF.mono fun _ h => h.elim) (ki9.bx.xm yF id id), by omega, yF.tabs hT9, yF.tabG _ g19, yF.tabG _ g29⟩
  · rintro σ' Hc ⟨nsc, zc, pages, left, stands, many, u6, u7, rfl, kic, hpl, hTc, g1c, g2c⟩
    have ap := kic.apart
    refine ⟨_, rfl, p, dx, _, rfl, kic.dk.ins, rfl, p, dx, sl, pages, many, left, stands, rfl, kic.dk, fun Hd xd dkd => ?_⟩
    have owd := kic.ow.xm xd (Ne.symm ap.po) (Ne.symm ap.pp)
    refine ⟨_, rfl, 2 + r2, rfl, by omega, by omega, fun Dl hDl => ?_⟩
    have npD : p ≠ Dl := fun e => by have := dkd.ins; rw [e, hDl] at this; cases this
    have nsD : sl ≠ Dl := fun e => by obtain ⟨_, h, _⟩ := dkd.lst; rw [e, hDl] at h; cases h
    have noD : o ≠ Dl := fun e => by have := owd.hd; rw [e, hDl] at this; cases this
    have nlD : lp ≠ Dl := fun e => by obtain ⟨_, h, _⟩ := owd.hl; rw [e, hDl] at h; cases h
    have xD := XX.new (T := T) (o := .lst []) hDl
    have fl : ∀ d ∈ pages, flatD d = true := fun d hd => (nice_page (kic.ow.pg d hd)).fl
    refine lc_range (lo := 0) (n := (2 + r2).toNat) (fun j H' => XM T (fun c => c = Dl) (upd Hd Dl (.lst [])) H' ∧ ∃ acc, H' Dl = some (.lst acc) ∧ DpAll K H' acc (pages.take j)) ⟨XM.refl _, [], upd_same, .nil⟩ (fun j H' hj pv => ⟨rfl, ?_⟩) (fun H' pv => ?_)
    · obtain ⟨xj, acc, e1, da⟩ := pv
      have dkj := (dkd.xx xD).xm xj npD nsD
      have hj2 : j < pages.length := by omega
      refine ⟨_, rfl, p, dx, _, rfl, dkj.ins, rfl, _, rfl, p, dx, sl, pages, many, none, false, .int (0 + j), .int (0 + j), rfl, dkj, .int _, fun hs => by (cases hs), fun hs hq => ?_, fun i e u hs hi he du => ⟨acc, e1, ?_, ?_, acc ++ [u], upd_same, ?_⟩⟩
      · rw [num_of (by omega) (by omega)] at hq; cases hq
      · rw [dpAll_len da, List.length_take]
        exact Nat.lt_of_le_of_lt (Nat.min_le_left _ _) (Nat.lt_of_lt_of_le (show j < 100 by omega) (by decide))
      · exact xj.trans (XM.upd e1 rfl True.intro)
      · have hi' : (0 : Int) + (j : Int) = (i : Int) := by injection hi
        have hij : i = j := by omega
        subst hij
        have x3 : XM T (fun c => c = Dl) H' (upd H' Dl (.lst (acc ++ [u]))) := XM.upd e1 rfl True.intro
        have et : pages.take (i + 1) = pages.take i ++ [e] := by
          rw [List.take_succ, he] <;> rfl
        rw [et]
        exact dpAll_app (dpAll_xm x3 (fun d hd => fl d (List.mem_of_mem_take hd)) da) (.cons (Dp.xm x3 _ _ (fl e (List.mem_of_getElem? he)) du) .nil)
    · obtain ⟨xj, acc, e1, da⟩ := pv
      rw [List.take_of_length_le (by omega)] at da
      have owj := (owd.xm xD.xm (S := fun _ => False) id id).xm xj noD nlD
      obtain ⟨xs, hx, hd⟩ := owj.hl
      have np := nice_tuple (n := 4) (ds := pages) (by have := kic.hi; omega) fun d hd => nice_page (kic.ow.pg d hd)
      exact ⟨_, rfl, o, _, rfl, owj.gPages, .ref Dl, .ref lp, .list pages, rfl, .lst (SqL.of e1) da, .lst (SqL.of hx) hd, np.ok, np.dp, k _⟩
end
end GX
namespace GX
open PySem PySem.Spec PyProof.Rows L2 LamX
section
variable {P : Program} {w : World} {K : PySem.W.Frag} {mg : Str → Option Value} {base : Heap} {T : List (Addr × Str)} {C cE cD cN cP cC cS : Addr} {cs : Fin 9 → Addr} {P1 P2 : Addr}
abbrev turnN : List Str := ["_law_box", "_law_disk", "_law_own", "_law_way", "_law_number", "_law_due", "_law_page_here"]
abbrev turnQ : Str := ("_law_turn" : Str) ++ (".<locals>." : Str) ++ ("<lambda>" : Str)
theorem sc_turn : FnScope turnN ["_law_box", "_law_disk", "_law_own"] (defScope s_turn) := ⟨rfl, rfl, rfl, by decide +kernel, rfl, by decide +kernel, by decide +kernel⟩
theorem ok_turn {f c Pt : Addr} {fd : FuncData} (F : FunC K "_law_turn" "_law_turn" s_turn f fd c) (TB : LamX.TabB base mg c Pt) (hm : (Pt, turnQ) ∈ T) (hu0 : ∀ p ∈ T, p.1 = Pt → p.2 = turnQ) (D : DTx K mg C cD cN cP cC cS) (B : Blt mg)
    (eN : EIs K cE cs 6 cN) (eS : EIs K cE cs 8 cS)
    (cT : Cal P w K mg base CX0 "_law_take" ["_law_box", "_law_many"] 1 (spTake T)) (cPg : Cal P w K mg base CX0 "_law_page" ["_law_box"] 2 (spLPage K T)) (cAl : Cal P w K mg base CX0 "_law_alike" ["_law_found", "_law_due"] 5 (spAl K 5)) (cTo : Cal P w K mg base CX0 "_law_told" ["_law_work"] 9 (spTold P w K mg base T cE cs 8))
    (mArm : Met P w K mg base (L2.CX P w) C "arm" ["self", "count"] 2 (spDArm K T C cC)) (mAgain : Met P w K mg base CX0 C "again" ["self"] 1 (spDAgain K T C)) (mPage : Met P w K mg base (L2.CX P w) C "page" ["self", "number"] 3 (spDPage K C cN cS)) (mWrite : Met P w K mg base (L2.CX P w) C "write" ["self", "number", "page"] 7 (spDWrite K T P1 P2 C cN cP cS)) :
    FnOk P w K mg base CX0 10 f fd ["_law_box", "_law_disk", "_law_own"] (spTurn K T C P1 P2) := by
  refine F.ok sc_turn (fun vs H Q E h => by obtain ⟨b, l, p, dx, sl, o, lp, ns, z, pages, left, stands, many, rfl, _⟩ := h; rfl) (fun A outer s H vs Q E hr h => ?_)
  obtain ⟨b, l, p, dx, sl, o, lp, ns, z, pages, left, stands, many, rfl, ki, hT, g1, g2, k⟩ := h
  have nd := sc_turn.nd
  have hu := hu_of hr
  refine ⟨_, (pss_cons (ps_set (i := 3) nd rfl (Or.inl rfl) (pe_cal cT (hr.mono (by decide)) (pa_cons (pv 0) (pa_cons pe_int pa_nil))))
    (pss_cons (ps_set (i := 4) nd rfl (Or.inr rfl) (pe_cal cT (hr.mono (by decide)) (pa_cons (pv 0) (pa_cons (pe_callB call_len_seq (by rfl) B.len PySem.boot_len (pa_cons (pe_dget hu (pv 2) pe_str (fun _ _ => rfl)) pa_nil)) pa_nil))))
    (pss_cons (ps_if (pt_cmpR op_eq (pv 3) pe_int (nomark _)) (pss_cons (ps_dput hu (pv 2) pe_str (pe_cal cT (hr.mono (by decide)) (pa_cons (pv 0) (pa_cons (pe_ix ix_list (pe_lst (pa_cons pe_int (pa_cons pe_int (pa_cons pe_int pa_nil)))) (pe_cal cT (hr.mono (by decide)) (pa_cons (pv 0) (pa_cons pe_int pa_nil))) (fun _ _ => rfl)) pa_nil))) rfl)
    (pss_one (ps_ret (pe_cal cAl (hr.mono (by decide)) (pa_cons (pe_calF cTo (hr.mono (by decide)) (fun _ => rfl) (pa_cons (pe_lam0 (T := T) TB (by rfl) hm hu0 (lamS_by (sc := defScope s_turn) (by decide +kernel))) pa_nil)) (pa_cons pe_non pa_nil)))))) pss_nil)
    (pss_cons (ps_if (pt_cmpR op_eq (pv 3) pe_int (nomark _)) (pss_cons (ps_asg (pe_tup (pa_cons pe_non (pa_cons pe_bl pa_nil))) (pg_tup (by rfl) (pgs_cons (pg_sub (pv 2) pe_str (set_dict hu)) (pgs_cons (pg_sub (pv 2) pe_str (set_dict hu)) pgs_nil))))
    (pss_one (ps_ret (pe_cal cAl (hr.mono (by decide)) (pa_cons (pe_calF cTo (hr.mono (by decide)) (fun _ => rfl) (pa_cons (pe_lam0 (T := T) TB (by rfl) hm hu0 (lamS_by (sc := defScope s_turn) (by decide +kernel))) pa_nil)) (pa_cons pe_non pa_nil)))))) pss_nil)
    (pss_cons (ps_if (pt_cmpR op_lt (pv 3) pe_int (nomark _)) (pss_cons (ps_set (i := 5) nd rfl (Or.inl rfl) (pe_ifExp (pt_val (pe_dget hu (pv 2) pe_str (fun _ _ => rfl))) (pe_tup (pa_cons pe_str (pa_cons pe_int pa_nil))) (pe_ix ix_list (pe_dget hu (pv 2) pe_str (fun _ _ => rfl)) (pv 4) (fun _ _ => rfl))))
    (pss_one (ps_ret (pe_cal cAl (hr.mono (by decide)) (pa_cons (pe_calF cTo (hr.mono (by decide)) (fun _ => rfl) (pa_cons (pe_lam0 (T := T) TB (by rfl) hm hu0 (lamS_by (sc := defScope s_turn) (by decide +kernel))) pa_nil)) (pa_cons (pv 5) pa_nil)))))) pss_nil)
    (pss_cons (ps_set (i := 6) nd rfl (Or.inr rfl) (pe_cal cPg (hr.mono (by decide)) (pa_cons (pv 0) pa_nil)))
    (pss_cons (ps_set (i := 5) nd rfl (Or.inl rfl) pe_non)
    (pss_cons (ps_if (PW.pt (pw_or (pt_val (pe_dget hu (pv 2) pe_str (fun _ _ => rfl))) (pw_or1 (pt_cmpR op_eq (pe_dget hu (pv 2) pe_str (fun _ _ => rfl)) pe_int (nomark _))))) (pss_one (ps_asg (pe_tup (pa_cons (pe_tup (pa_cons pe_str (pa_cons pe_int pa_nil))) (pa_cons pe_bl pa_nil))) (pg_tup (by rfl) (pgs_cons (pg_name (i := 5) nd rfl (Or.inl rfl)) (pgs_cons (pg_sub (pv 2) pe_str (set_dict hu)) pgs_nil))))) (pss_cons (ps_dput hu (pv 2) pe_str (pe_ifExp (pt_cmpR op_notN (pe_dget hu (pv 2) pe_str (fun _ _ => rfl)) pe_non (nomark _)) (pe_op op_sub (pe_dget hu (pv 2) pe_str (fun _ _ => rfl)) pe_int) pe_non) rfl)
    (pss_cons (ps_asg (pv 6) (pg_sub (pe_dget hu (pv 2) pe_str (fun _ _ => rfl)) (pv 4) set_list))
    (pss_one (ps_dput hu (pv 2) pe_str (pe_op op_add (pe_dget hu (pv 2) pe_str (fun _ _ => rfl)) pe_int) rfl)))))
    (pss_one (ps_ret (pe_cal cAl (hr.mono (by decide)) (pa_cons (pe_calF cTo (hr.mono (by decide)) (fun _ => rfl) (pa_cons (pe_lam0 (T := T) TB (by rfl) hm hu0 (lamS_by (sc := defScope s_turn) (by decide +kernel))) pa_nil)) (pa_cons (pv 5) pa_nil))))))))))))), ?_⟩
  refine ⟨_, rfl, b, l, _, _, _, rfl, ki.bx, by decide, by decide, fun H1 ns1 z1 r1 a1 bx1 p1 q1 => ?_⟩
  have ki1 := ki.take a1 bx1
  obtain ⟨xs1, hx1, hd1⟩ := ki1.ow.hl
  have hlx := dpAll_len hd1
  refine ⟨_, rfl, _, rfl, o, _, rfl, ki1.ow.gPages, lp, xs1, rfl, .inl (SqL.of hx1), b, l, _, _, _, rfl, bx1, (by rw [hlx]; have := ki.lo; omega), (by rw [hlx]; have := ki.hi; omega), fun H2 ns2 z2 r2 a2 bx2 p2 q2 => ?_⟩
  rw [hlx] at q2
  have ki2 := ki1.take a2 bx2
  have x2 : XM T (fun c => c = b ∨ c = l) H H2 := a1.trans a2
  have y2 := x2.mono (S' := S7 b l p sl o lp) fun c h => s7_take c h
  obtain ⟨j, rfl⟩ : ∃ j : Nat, r2 = (j : Int) := ⟨r2.toNat, by omega⟩
  have hj : j < pages.length := by omega
  have hT2 := x2.tabs hT
  have g12 := x2.tabG _ g1
  have g22 := x2.tabG _ g2
  have ap := ki2.apart
  refine ⟨_, rfl, rfl, _, rfl, ?_⟩
  by_cases w0 : r1 = 0
  · rw [decide_eq_true (show V.int r1 = V.int 0 by rw [w0])]
    refine iteT ?_
    refine ⟨_, rfl, (by show 3 ≤ sizeLine; decide), fun q hq => ⟨_, rfl, b, l, _, _, _, rfl, bx2.xx (XX.new (T := T) hq), by decide, by decide, fun H4 ns4 z4 r4 a4 bx4 p4 q4 => ?_⟩⟩
    have nq : ¬ (q = b ∨ q = l) := fun e => by
      rcases e with e | e
      · rw [e, bx2.hb] at hq; cases hq
      · rw [e, bx2.hl] at hq; cases hq
    have e4 : H4 q = some (.lst [.int 2, .int 5, .int 30]) := a4.lst upd_same nq
    have ki4 := (ki2.xx (XX.new (T := T) (o := .lst [.int 2, .int 5, .int 30]) hq)).take a4 bx4
    obtain ⟨m, em, m0, m1⟩ : ∃ m : Int, atI [V.int 2, V.int 5, V.int 30] r4 = some (V.int m) ∧ 0 < m ∧ m ≤ 30 := by
      rcases (show r4 = 0 ∨ r4 = 1 ∨ r4 = 2 by omega) with e | e | e
      · rw [e]; exact ⟨2, rfl, by decide, by decide⟩
      · rw [e]; exact ⟨5, rfl, by decide, by decide⟩
      · rw [e]; exact ⟨30, rfl, by decide, by decide⟩
    refine ⟨q, _, r4, .int m, rfl, rfl, SqL.of e4, em, b, l, _, _, _, rfl, bx4, m0, by omega, fun H5 ns5 z5 r5 a5 bx5 p5 q5 => ?_⟩
    have ki5 := ki4.take a5 bx5
    refine ⟨_, rfl, o, _, rfl, ki5.ow.pLeft (some r5), ?_⟩
    have y5 : XM T (S7 b l p sl o lp) H H5 := y2.trans (((XX.new hq).xm.trans (a4.trans a5)).mono fun c h => s7_take c h)
    have y6 : XM T (S7 b l p sl o lp) H (upd H5 o (.dK (ownK lp (some r5) stands many))) := y5.then_upd ki5.ow.hd (.inr (.inr (.inr (.inr (.inl rfl))))) True.intro
    refine ⟨y6.tabs hT, fun H6 g c' dV doc pm ctv inj e6 tk6 t6 hD nf hc' => fun H7 z7 => ?_⟩
    have x6 : XX T (upd H5 o (.dK (ownK lp (some r5) stands many))) H6 := XX.lam e6 (fun _ => t6) tk6.1 tk6.2
    have xx : ∀ o, XX T _ (upd H6 g o) := fun o => x6.then_new (o := o) nf
    have xo : XM T (fun c => c = o) H5 (upd H5 o (.dK (ownK lp (some r5) stands many))) := XM.upd ki5.ow.hd rfl True.intro
    have owx := ki5.ow.put (some r5) stands many
    have dkx := ki5.dk.xm xo ap.po (Ne.symm ap.os)
    have bxx := bx5.xm xo (Ne.symm ap.ob) (Ne.symm ap.ol)
    refine told_lam (Nl := ["_law_disk", "_law_own"]) (js := [1, 2]) (sc := defScope s_turn) (k := 7) (tb := fun E => tMeth C "arm" (spDArm K T C cC) [] E (tVar 0) (tCons (tDGet (tVar 1) (tC (.str "left"))) tNil)) z7 (cap_by (N := turnN) (by decide +kernel)) rfl rfl inj upd_same hD (by rw [upd_ne (ne_of_none hc' nf)]; exact hc') (fun _ _ _ _ => rfl)
      (fun A outer s H E hr => pe_met mArm D.cl (hr.mono (by decide)) passes_l (pv 0) (pa_cons (pe_dget (hu_of hr) (pv 1) pe_str (fun _ _ => rfl)) pa_nil)) fun Hl xl E2 Q2 hok herr => ?_
    have dkl := (dkx.xx (xx _)).xx xl
    have owl := (owx.xm (xx _).xm (S := fun _ => False) id id).xm xl.xm (S := fun _ => False) id id
    refine ⟨_, rfl, p, dx, _, rfl, dkl.ins, rfl, _, rfl, o, _, rfl, owl.gLeft, p, dx, sl, pages, many, left, stands, .int r5, .int r5, rfl, dkl, .int _, fun hf => ?_, fun n en hq H8 a8 dk8 => hok _ _ H8 a8 fun HF aF wF => ?_⟩
    · rw [num_of p5 (by omega)] at hf; cases hf
    · cases en
      refine ⟨.non, .non, .none, rfl, .non, .non, rfl, (by decide), ?_⟩
      have aS := aF.mono (S' := S7 b l p sl o lp) s7_p
      refine k _ ns5 z5 pages (some r5) stands many ((y6.trans (xx _).xm).trans aS) ⟨(bxx.xx (xx _)).xm aF (Ne.symm ap.pb) (Ne.symm ap.pl), dk8.wk wF, (owx.xm (xx _).xm (S := fun _ => False) id id).xm aF (Ne.symm ap.po) (Ne.symm ap.pp), ki5.n1, ki5.n2, ki5.n3, ki5.n4, ki5.n5, ki5.lo, ki5.hi, fun k0 hk => by cases hk; omega⟩ rfl
  rw [decide_eq_false (fun e => w0 (V.int.inj e))]
  refine iteF ⟨_, rfl, rfl, _, rfl, ?_⟩
  by_cases w1 : r1 = 1
  · rw [decide_eq_true (show V.int r1 = V.int 1 by rw [w1])]
    refine iteT ?_
    refine ⟨(by show 2 ≤ sizeLine; decide), fun t ht => ?_⟩
    have xt := XX.new (T := T) (o := .tup [.non, .bl false]) ht
    have ki3 := ki2.xx xt
    have ow4 := ki3.ow.put none stands many
    have ow5 := ow4.put none false many
    refine ⟨t, _, rfl, SqT.of upd_same, rfl, _, _, rfl, _, rfl, o, _, rfl, ki3.ow.pLeft none, _, _, rfl, _, rfl, o, _, rfl, ow4.pStands false, rfl, ?_⟩
    rw [upd_upd] at ow5
    rw [upd_upd]
    have xo : XM T (fun c => c = o) _ (upd (upd H2 t (.tup [.non, .bl false])) o (.dK (ownK lp none false many))) := XM.upd ki3.ow.hd rfl True.intro
    have y6 : XM T (S7 b l p sl o lp) H _ := (y2.trans xt.xm).trans (xo.mono s7_o)
    refine ⟨y6.tabs hT, fun H6 g c' dV doc pm ctv inj e6 tk6 t6 hD nf hc' => fun H7 z7 => ?_⟩
    have x6 : XX T (upd (upd H2 t (.tup [.non, .bl false])) o (.dK (ownK lp none false many))) H6 := XX.lam e6 (fun _ => t6) tk6.1 tk6.2
    have xx : ∀ o, XX T _ (upd H6 g o) := fun o => x6.then_new (o := o) nf
    have dkx := ki3.dk.xm xo ap.po (Ne.symm ap.os)
    have bxx := ki3.bx.xm xo (Ne.symm ap.ob) (Ne.symm ap.ol)
    refine told_lam (Nl := ["_law_disk"]) (js := [1]) (sc := defScope s_turn) (k := 7) (tb := fun E => tMeth C "again" (spDAgain K T C) [] E0 (tVar 0) tNil) z7 (cap_by (N := turnN) (by decide +kernel)) rfl rfl inj upd_same hD (by rw [upd_ne (ne_of_none hc' nf)]; exact hc') (fun _ _ _ _ => rfl)
      (fun A outer s H E hr => pe_met0 mAgain D.cl (hr.mono (by decide)) pass0 (pv 0)) fun Hl xl E2 Q2 hok herr => ?_
    have dkl := (dkx.xx (xx _)).xx xl
    refine ⟨_, rfl, p, dx, _, rfl, dkl.ins, rfl, p, dx, sl, pages, many, left, stands, rfl, dkl, fun H8 a8 dk8 => hok _ _ H8 a8 fun HF aF wF => ?_⟩
    refine ⟨.non, .non, .none, rfl, .non, .non, rfl, (by decide), ?_⟩
    exact k _ ns2 z2 pages none false many ((y6.trans (xx _).xm).trans (aF.mono s7_p)) (ki2.next ((bxx.xx (xx _)).xm aF (Ne.symm ap.pb) (Ne.symm ap.pl)) (dk8.wk wF) ((ow5.xm (xx _).xm (S := fun _ => False) id id).xm aF (Ne.symm ap.po) (Ne.symm ap.pp)) rfl fun k0 hk => by cases hk) rfl
  rw [decide_eq_false (fun e => w1 (V.int.inj e))]
  refine iteF ⟨_, rfl, _, _, rfl, rfl, _, rfl, ?_⟩
  by_cases w2 : r1 < 4
  · rw [decide_eq_true w2]
    refine iteT ⟨_, rfl, o, _, rfl, ki2.ow.gStands, stands, rfl, ?_⟩
    refine if_key (R := fun u H3 => XX T H2 H3 ∧ ∃ e, Dp K H3 u e ∧ flatD e = true ∧ (stands = true → e = toldD 8) ∧ (stands = false → pages[j]? = some e)) (fun u H3 hR => ?_) (fun hs Q' key => ?_) (fun hs Q' key => ?_)
    · obtain ⟨x3, e, du, fe, he1, he2⟩ := hR
      have y3 : XM T (S7 b l p sl o lp) H H3 := y2.trans x3.xm
      have ki3 := ki2.xx x3
      refine ⟨y3.tabs hT, fun H6 g c' dV doc pm ctv inj e6 tk6 t6 hD nf hc' => fun H7 z7 => ?_⟩
      have x6 : XX T H3 H6 := XX.lam e6 (fun _ => t6) tk6.1 tk6.2
      have xx : ∀ o, XX T _ (upd H6 g o) := fun o => x6.then_new (o := o) nf
      refine told_lam (T := T) (cE := cE) (cs := cs) (Nl := ["_law_disk", "_law_number"]) (js := [1, 4]) (sc := defScope s_turn) (k := 7) (tb := fun E => tMeth C "page" (spDPage K C cN cS) [] E (tVar 0) (tCons (tVar 1) tNil)) z7 (cap_by (N := turnN) (by decide +kernel)) rfl rfl inj upd_same hD (by rw [upd_ne (ne_of_none hc' nf)]; exact hc') (fun _ _ _ _ => rfl)
        (fun A outer s H E hr => pe_met mPage D.cl (hr.mono (by decide)) passes_l (pv 0) (pa_cons (pv 1) pa_nil)) fun Hl xl E2 Q2 hok herr => ?_
      have kil := (ki3.xx (xx _)).xx xl
      have fin : ∀ ob HF, XM T (fun _ => False) (upd H6 g ob) HF → Q (.bl true) HF := fun ob HF aF =>
        k _ ns2 z2 pages left stands many ((y3.trans (xx ob).xm).trans (aF.mono fun _ h => h.elim)) ((ki3.xx (xx ob)).take (aF.mono fun _ h => h.elim) (((ki3.xx (xx ob)).bx).xm aF id id)) rfl
      have duF : ∀ ob HF, XM T (fun _ => False) (upd H6 g ob) HF → Dp K HF u e := fun ob HF aF => Dp.xm aF _ _ fe (Dp.xx (xx ob) _ _ du)
      refine ⟨_, rfl, p, dx, _, rfl, kil.dk.ins, rfl, _, rfl, p, dx, sl, pages, many, left, stands, .int j, .int j, rfl, kil.dk, .int _, fun hs => ?_, fun hs hq => ?_, fun i e' u' hs hi he' du' => ?_⟩
      · refine herr (fun _ => False) 8 cS _ (by decide) eS (XM.refl _) fun HT v aF wF dv => ⟨_, rfl, v, u, toldD 8, rfl, dv, ?_, ok_toldD 8, Nat.le_trans (depth_told 8) (by decide), fin _ _ aF⟩
        have := duF _ _ aF
        rw [he1 hs] at this
        exact this
      · rw [num_of (by omega) (by omega)] at hq; cases hq
      · cases hi
        have ee : e = e' := Option.some.inj ((he2 hs).symm.trans he')
        have pg := ki2.ow.pg e' (List.mem_of_getElem? he')
        refine hok (fun _ => False) u' _ (XM.refl _) fun HT aF wF => ⟨_, rfl, u', u, e', rfl, Dp.wk wF _ _ du', ?_, (nice_page pg).ok, (nice_page pg).dp, fin _ _ aF⟩
        have := duF _ _ aF
        rw [ee] at this
        exact this
    · refine ⟨(by show 2 ≤ sizeLine; decide), fun t ht => key _ _ ⟨XX.new ht, toldD 8, .tup (SqT.of upd_same) (.cons (.str _) (.cons (.int _) .nil)), rfl, fun _ => rfl, fun h => by rw [hs] at h; cases h⟩⟩
    · obtain ⟨xs2, hx2, hd2⟩ := ki2.ow.hl
      obtain ⟨u, eu, du⟩ := dpAll_at hd2 (List.getElem?_eq_getElem hj)
      exact ⟨_, rfl, o, _, rfl, ki2.ow.gPages, _, rfl, lp, xs2, _, u, rfl, rfl, SqL.of hx2, atI_nat eu, key _ _ ⟨XX.refl _, _, du, (nice_page (ki2.ow.pg _ (List.getElem_mem hj))).fl, (fun h => by rw [hs] at h; cases h), fun _ => List.getElem?_eq_getElem hj⟩⟩
  rw [decide_eq_false w2]
  refine iteF ⟨_, rfl, b, l, _, _, rfl, bx2, fun H3 ns3 z3 d3 v3 a3 bx3 dv3 pg3 => ?_⟩
  have ki3 := ki2.take a3 bx3
  have y3 := y2.trans (a3.mono (S' := S7 b l p sl o lp) s7_take)
  change tOr (tB (tDGet (tVar 2) (tC (.str "stands")))) (tTest (tOp rEq (tDGet (tVar 2) (tC (.str "left"))) (tC (.int 0)))) [some (.ref b), some (.ref p), some (.ref o), some (.int r1), some (.int j), some .non, some v3] H3 _
  refine tOr_of stands (decide (left = some 0)) (fun K' hk => ⟨_, rfl, o, _, rfl, ki3.ow.gStands, stands, rfl, hk⟩) (fun _ K' hk => ⟨_, rfl, o, _, rfl, ki3.ow.gLeft, ?_, _, rfl, ?_⟩) ?_
  · cases left <;> rfl
  · rw [lv_zero]; exact hk
  refine ifs_key (R := fun σ' H4 => ∃ u e pages4 left4 stands4 many4, σ' = [some (.ref b), some (.ref p), some (.ref o), some (.int r1), some (.int j), some u, some v3] ∧ XM T (fun c => c = o ∨ c = lp) H3 H4 ∧ Dp K H4 u e ∧ flatD e = true ∧ OwnAt K H4 o lp pages4 left4 stands4 many4 ∧
    ((stands = true ∨ left = some 0) → e = toldD 8 ∧ pages4 = pages ∧ left4 = left ∧ stands4 = true ∧ many4 = many) ∧ (¬ (stands = true ∨ left = some 0) → e = .none ∧ pages4 = pages.set j d3 ∧ left4 = left.map (· - 1) ∧ stands4 = false ∧ many4 = many + 1)) (fun σ' H4 hR => ?_) (fun hc D' key => ?_) (fun hc D' key => ?_)
  · obtain ⟨u, e, pages4, left4, stands4, many4, rfl, x4, du, fe, ow4, hA, hB⟩ := hR
    have y4 : XM T (S7 b l p sl o lp) H H4 := y3.trans (x4.mono fun c h => h.elim (s7_o c) (s7_lp c))
    have dk4 := ki3.dk.xm x4 (fun h => h.elim ap.po ap.pp) (fun h => h.elim (Ne.symm ap.os) (Ne.symm ki2.n5))
    have bx4 := ki3.bx.xm x4 (fun h => h.elim (Ne.symm ap.ob) (Ne.symm ki2.n3)) (fun h => h.elim (Ne.symm ap.ol) (Ne.symm ki2.n4))
    have dv4 := Dp.xm x4 _ _ (nice_page pg3).fl dv3
    refine ⟨y4.tabs hT, fun H6 g c' dV doc pm ctv inj e6 tk6 t6 hD nf hc' => fun H7 z7 => ?_⟩
    have x6 : XX T H4 H6 := XX.lam e6 (fun _ => t6) tk6.1 tk6.2
    have xx : ∀ o, XX T _ (upd H6 g o) := fun o => x6.then_new (o := o) nf
    refine told_lam (T := T) (cE := cE) (cs := cs) (Nl := ["_law_disk", "_law_number", "_law_page_here"]) (js := [1, 4, 6]) (sc := defScope s_turn) (k := 7) (tb := fun E => tMeth C "write" (spDWrite K T P1 P2 C cN cP cS) [] E (tVar 0) (tCons (tVar 1) (tCons (tVar 2) tNil))) z7 (cap_by (N := turnN) (by decide +kernel)) rfl rfl inj upd_same hD (by rw [upd_ne (ne_of_none hc' nf)]; exact hc') (fun _ _ _ _ => rfl)
      (fun A outer s H E hr => pe_met mWrite D.cl (hr.mono (by decide)) passes_l (pv 0) (pa_cons (pv 1) (pa_cons (pv 2) pa_nil))) fun Hl xl E2 Q2 hok herr => ?_
    have xl' : ∀ ob, XX T H4 (upd H6 g ob) := xx
    have xH := (xx _).trans xl
    have dkl := dk4.xx xH
    have yl : XM T (S7 b l p sl o lp) H _ := y4.trans xH.xm
    -- the end, wherever the disk was changed
    have fin : ∀ (S' : Addr → Prop) ob HF left' stands' many' pages', (∀ c, S' c → c = p ∨ c = sl) → XM T S' (upd H6 g ob) HF → DiskAt K C HF p dx sl pages' many' left' stands' → OwnAt K H4 o lp pages' left' stands' many' → pages'.length = pages.length → (∀ k, left' = some k → 0 ≤ k ∧ k ≤ 30) → Q (.bl true) HF := fun S' ob HF left' stands' many' pages' hS aF dkF ow he hlf => by
      have n1 : ¬ S' b := fun h => (hS _ h).elim (fun h => ap.pb h.symm) fun h => ki2.n1 h.symm
      have n2 : ¬ S' l := fun h => (hS _ h).elim (fun h => ap.pl h.symm) fun h => ki2.n2 h.symm
      have n3 : ¬ S' o := fun h => (hS _ h).elim (fun h => ap.po h.symm) fun h => ap.os h
      have n4 : ¬ S' lp := fun h => (hS _ h).elim (fun h => ap.pp h.symm) fun h => ki2.n5 h
      exact k HF ns3 z3 pages' left' stands' many' ((y4.trans (xx ob).xm).trans (aF.mono fun c h => s7_ps c (hS c h))) (ki2.next ((bx4.xx (xx ob)).xm aF n1 n2) dkF ((ow.xm (xx ob).xm (S := fun _ => False) id id).xm aF n3 n4) he hlf) he
    have duF : ∀ (S' : Addr → Prop) ob HF, XM T S' (upd H6 g ob) HF → Dp K HF u e := fun S' ob HF aF => Dp.xm aF _ _ fe (Dp.xx (xx ob) _ _ du)
    refine ⟨_, rfl, p, dx, _, rfl, dkl.ins, rfl, _, rfl, _, rfl, p, dx, sl, pages, many, left, stands, .int j, .int j, v3, d3, rfl, dkl, .int _, Dp.xx xH _ _ dv4, (nice_page pg3).fl, (nice_page pg3).sh (by decide), yl.tabG _ g1, yl.tabG _ g2, fun hs => ?_, fun hs hq => ?_, fun hs hq hp => ?_, fun hs hq hp hl H8 a8 dk8 => ?_, fun i hs hi hlt hp hne H8 a8 dk8 => ?_⟩
    · obtain ⟨rfl, rfl, rfl, rfl, rfl⟩ := hA (.inl hs)
      refine herr (fun _ => False) 8 cS _ (by decide) eS (XM.refl _) fun HT v aF wF dv => ⟨_, rfl, v, u, toldD 8, rfl, dv, duF _ _ _ aF, ok_toldD 8, Nat.le_trans (depth_told 8) (by decide), ?_⟩
      subst hs
      exact fin _ _ _ _ _ _ _ (fun c h => h.elim) aF (dkl.wk wF) ow4 rfl ki2.lf
    · rw [num_of (by omega) (by omega)] at hq; cases hq
    · rw [pg3] at hp; cases hp
    · obtain ⟨rfl, rfl, rfl, rfl, rfl⟩ := hA (.inr hl)
      exact herr (fun c => c = p) 8 cS _ (by decide) eS a8 fun HT v aF wF dv => ⟨_, rfl, v, u, toldD 8, rfl, dv, duF _ _ _ aF, ok_toldD 8, Nat.le_trans (depth_told 8) (by decide), fin _ _ _ _ _ _ _ (fun c h => .inl h) aF (dk8.wk wF) ow4 rfl ki2.lf⟩
    · cases hi
      obtain ⟨rfl, rfl, rfl, rfl, rfl⟩ := hB (fun h => h.elim (fun h => by rw [hs] at h; cases h) hne)
      refine hok (fun c => c = p ∨ c = sl) _ _ a8 fun HT aF wF => ⟨_, rfl, .non, u, .none, rfl, .non, duF _ _ _ aF, rfl, (by decide), fin _ _ _ _ _ _ _ (fun c h => h) aF (dk8.wk wF) ow4 (List.length_set ..) fun k0 hk => ?_⟩
      cases hl : left with
      | none => rw [hl] at hk; cases hk
      | some k1 =>
        rw [hl] at hk hne
        have hk : k1 - 1 = k0 := Option.some.inj hk
        have := ki2.lf k1 hl
        have : k1 ≠ 0 := fun h => hne (by rw [h])
        omega
  · have hA : stands = true ∨ left = some 0 := by
      rcases Bool.or_eq_true_iff.mp hc with h | h
      · exact .inl h
      · exact .inr (of_decide_eq_true h)
    refine ⟨(by show 2 ≤ sizeLine; decide), fun t1 h1 => ⟨(by show 2 ≤ sizeLine; decide), fun t2 h2 => ?_⟩⟩
    have xt := (XX.new (T := T) (o := .tup [.str "Stopped", .int 0]) h1).then_new (o := .tup [.ref t1, .bl true]) h2
    have ki4 := ki3.xx xt
    refine ⟨t2, _, rfl, SqT.of upd_same, rfl, _, _, rfl, _, _, rfl, _, rfl, o, _, rfl, ki4.ow.pStands true, rfl, key _ _ ?_⟩
    have xo : XM T (fun c => c = o) _ (upd _ o (.dK (ownK lp left true many))) := XM.upd ki4.ow.hd rfl True.intro
    have d1 : Dp K _ (.ref t1) (toldD 8) := .tup (SqT.of ((XX.new (T := T) (o := .tup [.ref t1, .bl true]) h2).tup upd_same)) (.cons (.str _) (.cons (.int _) .nil))
    exact ⟨_, toldD 8, pages, left, true, many, rfl, (xt.xm.trans xo).mono fun c h => .inl h, Dp.xm xo _ _ rfl d1, rfl, ki4.ow.put left true many, fun _ => ⟨rfl, rfl, rfl, rfl, rfl⟩, fun h => absurd hA h⟩
  · have hst : stands = false := by
      cases stands with
      | true => cases hc
      | false => rfl
    have hlf : ¬ left = some 0 := fun h => by rw [h, decide_eq_true rfl, Bool.or_true] at hc; cases hc
    have hnA : ¬ (stands = true ∨ left = some 0) := fun h => h.elim (fun h => by rw [hst] at h; cases h) hlf
    refine ⟨_, rfl, o, _, rfl, ki3.ow.gLeft, rfl, _, rfl, ?_⟩
    refine if_key (R := fun v H' => v = lv (left.map (· - 1)) ∧ H' = H3) (fun v H' hR => ?_) (fun hs Q' key' => ?_) (fun hs Q' key' => ?_)
    · obtain ⟨rfl, rfl⟩ := hR
      have ow4 := ki3.ow.put (left.map (· - 1)) stands many
      have xo : XM T (fun c => c = o ∨ c = lp) H' (upd H' o (.dK (ownK lp (left.map (· - 1)) stands many))) := XM.upd ki3.ow.hd (.inl rfl) True.intro
      have dv4 := Dp.xm xo _ _ (nice_page pg3).fl dv3
      obtain ⟨xs4, hx4, hd4⟩ := ow4.hl
      have hl4 := dpAll_len hd4
      have ow5 := ow4.setPage (j := j) hx4 dv4 pg3
      have x5 := xo.then_upd (o' := .lst (xs4.set j v3)) hx4 (.inr rfl) True.intro
      have ow6 := ow5.put (left.map (· - 1)) stands (many + 1)
      have x6 := x5.then_upd (o' := .dK (ownK lp (left.map (· - 1)) stands (many + 1))) ow5.hd (.inl rfl) True.intro
      refine ⟨_, rfl, o, _, rfl, ki3.ow.pLeft (left.map (· - 1)), ?_⟩
      refine ⟨_, rfl, _, rfl, o, _, rfl, ow4.gPages, _, rfl, lp, xs4, (j : Int), j, rfl, rfl, hx4, ixN_nat (by omega), ?_⟩
      refine ⟨_, rfl, o, _, rfl, ow5.gMany, _, _, rfl, rfl, _, rfl, o, _, rfl, ow5.pMany (many + 1), key _ _ ?_⟩
      exact ⟨.non, .none, _, _, _, _, rfl, x6, .non, rfl, ow6, fun h => absurd h hnA, fun _ => ⟨rfl, rfl, rfl, hst, rfl⟩⟩
    · cases hl : left with
      | none => rw [hl] at hs; cases hs
      | some k0 =>
        exact ⟨_, rfl, o, _, rfl, ki3.ow.gLeft, k0, 1, (by rw [hl] <;> rfl), rfl, key' _ _ ⟨by rw [hl] <;> rfl, rfl⟩⟩
    · cases hl : left with
      | none => exact key' _ _ ⟨by rw [hl] <;> rfl, rfl⟩
      | some k0 => rw [hl] at hs; cases hs
end
end GX
set_option maxHeartbeats 2000000
namespace GX
open PySem PySem.Spec PyProof.Rows L2 LamX
section
variable {P : Program} {w : World} {K : PySem.W.Frag} {mg : Str → Option Value} {base : Heap} {T : List (Addr × Str)} {cE : Addr} {cs : Fin 9 → Addr}
theorem sc_lpage : FnScope ["_law_box", "_law_slots", "_law_k", "_law_begin", "_law_size", "_law_behind", "_law_some"] ["_law_box"] (defScope s_lpage) := ⟨rfl, rfl, rfl, by decide +kernel, rfl, by decide +kernel, by decide +kernel⟩
theorem ok_lpage {f : Addr} {fd : FuncData} (F : Fun K "_law_page" "_law_page" s_lpage f fd) (B : Blt mg) (bmin : mg "min" = none) (bmax : mg "max" = none) (cT : Cal P w K mg base CX0 "_law_take" ["_law_box", "_law_many"] 1 (spTake T)) :
    FnOk P w K mg base CX0 2 f fd ["_law_box"] (spLPage K T) := by
  refine F.ok sc_lpage (fun vs H Q E h => by obtain ⟨b, l, ns, z, rfl, _⟩ := h; rfl) (fun cdv A outer s H vs Q E hr h => ?_)
  obtain ⟨b, l, ns, z, rfl, bx, k⟩ := h
  have nd := sc_lpage.nd
  refine ⟨_, (pss_cons (ps_set (i := 1) nd rfl (Or.inl rfl) (pe_lst pa_nil))
    (pss_cons (ps_for PassesOwn.never rfl (pi_range1 (by rfl) B.range (pa_cons pe_int pa_nil)) (pg_name (i := 2) nd rfl (Or.inl rfl))
    (pss_cons (ps_set (i := 3) nd rfl (Or.inl rfl) (pe_cal cT hr (pa_cons (pv 0) (pa_cons pe_int pa_nil))))
    (pss_cons (ps_set (i := 4) nd rfl (Or.inl rfl) (pe_cal cT hr (pa_cons (pv 0) (pa_cons (pe_op op_sub pe_int (pv 3)) pa_nil))))
    (pss_cons (ps_set (i := 5) nd rfl (Or.inl rfl) (pe_ix ix_list (pe_lst (pa_cons pe_non (pa_cons (pe_tup (pa_cons (pe_cal cT hr (pa_cons (pv 0) (pa_cons pe_int pa_nil))) (pa_cons (pe_cal cT hr (pa_cons (pv 0) (pa_cons pe_int pa_nil))) pa_nil))) pa_nil))) (pe_cal cT hr (pa_cons (pv 0) (pa_cons pe_int pa_nil))) (fun _ _ => rfl)))
    (pss_cons (ps_set (i := 6) nd rfl (Or.inl rfl) (pe_lst (pa_cons (pe_tup (pa_cons pe_str (pa_cons (pe_cal cT hr (pa_cons (pv 0) (pa_cons pe_int pa_nil))) pa_nil))) (pa_cons (pe_tup (pa_cons pe_str (pa_cons (pe_cal cT hr (pa_cons (pv 0) (pa_cons pe_int pa_nil))) (pa_cons (pv 3) (pa_cons (pv 4) (pa_cons (pv 5) pa_nil)))))) pa_nil))))
    (pss_cons (ps_expr (pe_bm PySem.F.plainAttrs_list PySem.F.slot_list_append PySem.F.type_list_append mt_append (pv 6) (pa_cons (pe_tup (pa_cons pe_str (pa_cons (pe_cal cT hr (pa_cons (pv 0) (pa_cons pe_int pa_nil))) (pa_cons (pe_callB (call_min2 (by rfl)) (by rfl) bmin (by decide +kernel) (pa_cons (pv 3) (pa_cons pe_int pa_nil))) (pa_cons (pe_callB (call_max2 (by rfl)) (by rfl) bmax (by decide +kernel) (pa_cons pe_int (pa_cons (pv 4) pa_nil))) (pa_cons pe_non pa_nil)))))) pa_nil)))
    (pss_one (ps_expr (pe_bm PySem.F.plainAttrs_list PySem.F.slot_list_append PySem.F.type_list_append mt_append (pv 1) (pa_cons (pe_ix ix_list (pv 6) (pe_cal cT hr (pa_cons (pv 0) (pa_cons pe_int pa_nil))) (fun _ _ => rfl)) pa_nil))))))))))
    (pss_one (ps_ret (pe_tup (pa_cons (pe_callTy call_tuple_of (by rfl) B.tuple boot_tuple (pa_cons (pv 1) pa_nil)) (pa_cons (pe_callTy call_tuple_of (by rfl) B.tuple boot_tuple (pa_cons (pe_lc (own := [("_law_k", 2)]) (g := gName 2) (tt := tYes) (by rfl) nd (pi_range1 (by rfl) B.range (pa_cons pe_int pa_nil)) (blkOk_by (own := [("_law_k", 2)]) (N := ["_law_box", "_law_slots", "_law_k", "_law_begin", "_law_size", "_law_behind", "_law_some"]) (sc := defScope s_lpage) (by decide +kernel))
        (fun _ _ _ _ _ => pg_name (i := 2) nd rfl (Or.inl rfl)) (fun _ _ _ _ _ => pts_nil) (fun _ _ _ _ _ => (pe_cal cT hr (pa_cons (pv 0) (pa_cons pe_int pa_nil))))) pa_nil)) pa_nil))))))), ?_⟩
  have bxn : ∀ {h : Hp} {c : Addr} {o : HO} {ns : List Int} {z : Int}, h c = none → BoxAt h b l ns z → BoxAt (upd h c o) b l ns z := fun {h c o ns z} hc hb => hb.xx (XX.new (T := T) hc)
  have nb : ∀ {h : Hp} {c : Addr} {ns : List Int} {z : Int}, h c = none → BoxAt h b l ns z → ¬ (c = b ∨ c = l) := fun {h c ns z} hc hb e => by
    rcases e with e | e
    · rw [e, hb.hb] at hc; cases hc
    · rw [e, hb.hl] at hc; cases hc
  refine ⟨by decide, fun p hp => ?_⟩
  have hnb : ¬ (p = b ∨ p = l) := nb hp bx
  refine ⟨8, rfl, by decide, by decide, for_range (lo := 0) (n := 8) (fun i σ H' => XM T (fun c => c = b ∨ c = l ∨ c = p) (upd H p (.lst [])) H' ∧ (∃ ns z, BoxAt H' b l ns z) ∧ (∃ acc ds, H' p = some (.lst acc) ∧ DpAll K H' acc ds ∧ ds.length = i ∧ ∀ d ∈ ds, isSlot d = true) ∧
      ∃ v2 v3 v4 v5 v6, σ = [some (.ref b), some (.ref p), v2, v3, v4, v5, v6]) ⟨XM.refl _, ⟨ns, z, bxn hp bx⟩, ⟨[], [], upd_same, .nil, rfl, fun d hd => absurd hd (by simp)⟩, none, none, none, none, none, rfl⟩ ?_ ?_⟩
  · rintro i σ h0 hi ⟨x0, ⟨ns0, z0, hb0⟩, ⟨acc, ds, hp0, hd0, hl0, hs0⟩, v2, v3, v4, v5, v6, rfl⟩
    -- begin, size
    refine ⟨_, rfl, b, l, _, _, _, rfl, hb0, (by decide), (by decide), fun h1 _ _ r3 a1 hb1 p3 q3 => ?_⟩
    refine ⟨_, rfl, _, rfl, _, _, rfl, rfl, b, l, _, _, _, rfl, hb1, (by omega), (by omega), fun h2 _ _ r4 a2 hb2 p4 q4 => ?_⟩
    -- next
    refine ⟨_, rfl, b, l, _, _, _, rfl, hb2, (by decide), (by decide), fun h3 _ _ rx a3 hb3 px qx => ⟨_, rfl, b, l, _, _, _, rfl, hb3, (by decide), (by decide), fun h4 _ _ ry a4 hb4 py qy => ?_⟩⟩
    refine ⟨(by show 2 ≤ sizeLine; decide), fun t ht => ⟨(by show 2 ≤ sizeLine; decide), fun q hq => ?_⟩⟩
    have hb5 := bxn (o := .tup [.int rx, .int ry]) ht hb4
    have hb6 := bxn (o := .lst [.non, .ref t]) hq hb5
    refine ⟨_, rfl, b, l, _, _, _, rfl, hb6, (by decide), (by decide), fun h7 _ _ r5 a7 hb7 p5 q5 => ?_⟩
    have e7 : h7 q = some (.lst [.non, .ref t]) := a7.lst upd_same (nb hq hb5)
    have a57 : XM T (fun c => c = b ∨ c = l) _ h7 := (XX.new (o := .lst [.non, .ref t]) hq).xm.trans a7
    obtain ⟨v5, d5, ev5, hv5, hn5⟩ : ∃ v5 d5, atI [.non, .ref t] r5 = some v5 ∧ Dp K h7 v5 d5 ∧ isNext d5 = true := by
      rcases (show r5 = 0 ∨ r5 = 1 by omega) with e | e
      · rw [e]; exact ⟨.non, .none, rfl, .non, rfl⟩
      · rw [e]
        refine ⟨.ref t, .tuple [.int rx, .int ry], rfl, .tup (a57.sqT (SqT.of upd_same)) (.cons (.int _) (.cons (.int _) .nil)), ?_⟩
        show (isNum (.int rx) 0 11 && isNum (.int ry) 0 7) = true
        rw [num_of px (by omega), num_of py (by omega)] <;> rfl
    have f5 := (nice_next hn5).fl
    refine ⟨q, _, r5, v5, rfl, rfl, SqL.of e7, ev5, ?_⟩
    have a07 : XM T (fun c => c = b ∨ c = l) h0 h7 := (a1.trans (a2.trans (a3.trans (a4.trans (XX.new ht).xm)))).trans a57
    -- the two first
    refine ⟨_, rfl, b, l, _, _, _, rfl, hb7, (by decide), (by decide), fun h8 _ _ rf a8 hb8 pf qf => ⟨(by show 2 ≤ sizeLine; decide), fun t1 ht1 => ?_⟩⟩
    have hb9 := bxn (o := .tup [.str "free", .int rf]) ht1 hb8
    refine ⟨_, rfl, b, l, _, _, _, rfl, hb9, (by decide), (by decide), fun h10 _ _ rr a10 hb10 pr qr => ⟨_, rfl, _, rfl, _, rfl, (by show 5 ≤ sizeLine; decide), fun t2 ht2 => ⟨(by show 2 ≤ sizeLine; decide), fun q2 hq2 => ?_⟩⟩⟩
    have hb11 := bxn (o := .tup [.str "row", .int rr, .int r3, .int r4, v5]) ht2 hb10
    have hb12 := bxn (o := .lst [.ref t1, .ref t2]) hq2 hb11
    have nq2 := nb hq2 hb11
    refine ⟨_, rfl, .inl ⟨rfl, _, SqL.of upd_same⟩, _, rfl, b, l, _, _, _, rfl, hb12, (by decide), (by decide), fun h13 _ _ rp a13 hb13 pp qp => ?_⟩
    refine ⟨_, rfl, r3, 23, rfl, _, rfl, 1, r4, rfl, (by show 5 ≤ sizeLine; decide), fun t3 ht3 => ?_⟩
    have e13 : h13 q2 = some (.lst [.ref t1, .ref t2]) := a13.lst upd_same nq2
    have e14 : ∀ {o : HO}, upd h13 t3 o q2 = some (.lst [.ref t1, .ref t2]) := fun {o} => by rw [upd_ne (ne_of_none e13 ht3)]; exact e13
    have hb14 := bxn (o := .tup [.str "part", .int rp, .int (if (23 : Int) < r3 then 23 else r3), .int (if r4 > 1 then r4 else 1), .non]) ht3 hb13
    refine ⟨q2, _, _, rfl, rfl, e14, (by show 2 < sizeLine; decide), ?_⟩
    have a013 : XM T (fun c => c = b ∨ c = l) h0 h13 := ((((a07.trans a8).then_new ht1).trans a10).then_new ht2).trans ((XX.new hq2).xm.trans a13)
    have fq2 : h0 q2 = none := ((((a07.trans a8).then_new (o := .tup [.str "free", .int rf]) ht1).trans a10).then_new (o := .tup [.str "row", .int rr, .int r3, .int r4, v5]) ht2).free hq2
    have x15 : XM T (fun c => c = b ∨ c = l ∨ c = q2) h0 _ := ((a013.then_new (o := .tup [.str "part", .int rp, .int (if (23 : Int) < r3 then 23 else r3), .int (if r4 > 1 then r4 else 1), .non]) ht3).mono (S' := fun c => c = b ∨ c = l ∨ c = q2) fun c z => z.elim .inl fun z => .inr (.inl z)).then_upd (o' := .lst [.ref t1, .ref t2, .ref t3]) e14 (.inr (.inr rfl)) True.intro
    have y15 : XM T (fun c => c = b ∨ c = l) h0 _ := x15.drop fun c z nz => by
      rcases z with z | z | z
      · exact absurd (.inl z) nz
      · exact absurd (.inr z) nz
      · rw [z]; exact fq2
    have hp15 := y15.lst hp0 hnb
    have hb15 := hb14.xm (S := fun c => c = q2) (XM.upd (T := T) (o' := .lst [.ref t1, .ref t2, .ref t3]) e14 rfl True.intro) (fun z => nq2 (.inl z.symm)) (fun z => nq2 (.inr z.symm))
    refine ⟨_, rfl, .inl ⟨rfl, _, SqL.of hp15⟩, _, rfl, _, rfl, b, l, _, _, _, rfl, hb15, (by decide), (by decide), fun h16 _ _ rs a16 hb16 ps qs => ?_⟩
    have e16 : h16 q2 = some (.lst [.ref t1, .ref t2, .ref t3]) := a16.lst upd_same nq2
    have y16 := y15.trans a16
    have hp16 := y16.lst hp0 hnb
    have up : ∀ {c : Addr}, (c = b ∨ c = l) → (c = b ∨ c = l ∨ c = q2) := fun {c} z => z.elim .inl fun z => .inr (.inl z)
    have p14 : XM T (fun c => c = b ∨ c = l ∨ c = q2) (upd h13 t3 (.tup [.str "part", .int rp, .int (if (23 : Int) < r3 then 23 else r3), .int (if r4 > 1 then r4 else 1), .non])) h16 := (XM.upd (o' := .lst [.ref t1, .ref t2, .ref t3]) e14 (.inr (.inr rfl)) True.intro).trans (a16.mono fun _ => up)
    have p11 : XM T (fun c => c = b ∨ c = l ∨ c = q2) (upd h10 t2 (.tup [.str "row", .int rr, .int r3, .int r4, v5])) h16 := ((XX.new hq2).xm.trans (a13.mono fun _ => up)).trans ((XX.new ht3).xm.trans p14)
    have p9 : XM T (fun c => c = b ∨ c = l ∨ c = q2) (upd h8 t1 (.tup [.str "free", .int rf])) h16 := (a10.mono fun _ => up).trans ((XX.new ht2).xm.trans p11)
    have p7 : XM T (fun c => c = b ∨ c = l ∨ c = q2) h7 h16 := (a8.mono fun _ => up).trans ((XX.new ht1).xm.trans p9)
    obtain ⟨vs, dd, evs, hvs, hss⟩ : ∃ v d, atI [.ref t1, .ref t2, .ref t3] rs = some v ∧ Dp K h16 v d ∧ isSlot d = true := by
      rcases (show rs = 0 ∨ rs = 1 ∨ rs = 2 by omega) with e | e | e
      · rw [e]
        exact ⟨_, .tuple [.str "free", .int rf], rfl, .tup (SqT.of (p9.tup _ _ upd_same)) (.cons (.str _) (.cons (.int _) .nil)), slot_free pf qf⟩
      · rw [e]
        exact ⟨_, .tuple [.str "row", .int rr, .int r3, .int r4, d5], rfl, .tup (SqT.of (p11.tup _ _ upd_same)) (.cons (.str _) (.cons (.int _) (.cons (.int _) (.cons (.int _) (.cons (Dp.xm p7 _ _ f5 hv5) .nil))))), slot_row pr qr p3 q3 p4 q4 hn5⟩
      · rw [e]
        refine ⟨_, .tuple [.str "part", .int rp, .int (if (23 : Int) < r3 then 23 else r3), .int (if r4 > 1 then r4 else 1), .none], rfl, .tup (SqT.of (p14.tup _ _ upd_same)) (.cons (.str _) (.cons (.int _) (.cons (.int _) (.cons (.int _) (.cons .non .nil))))), slot_part pp qp ?_ ?_ ?_ ?_ rfl⟩
        · split <;> omega
        · split <;> omega
        · split <;> omega
        · split <;> split <;> omega
    refine ⟨q2, _, rs, vs, rfl, rfl, SqL.of e16, evs, p, acc, vs, rfl, rfl, hp16, ?_, ?_⟩
    · rw [dpAll_len hd0, hl0]
      exact Nat.lt_of_lt_of_le (show i < 100 by omega) (by decide)
    · have x17 : XM T (fun c => c = p) h16 (upd h16 p (.lst (acc ++ [vs]))) := XM.upd hp16 rfl True.intro
      have fl : ∀ d ∈ ds, flatD d = true := fun d hd => (nice_slot (hs0 d hd)).fl
      have z17 := (y16.mono (S' := fun c => c = b ∨ c = l ∨ c = p) fun c z => z.elim .inl fun z => .inr (.inl z)).trans (x17.mono (S' := fun c => c = b ∨ c = l ∨ c = p) fun c z => .inr (.inr z))
      refine ⟨x0.trans z17, ⟨_, _, hb16.xm x17 (fun z => hnb (.inl z.symm)) fun z => hnb (.inr z.symm)⟩, ⟨acc ++ [vs], ds ++ [dd], upd_same, dpAll_app (dpAll_xm z17 fl hd0) (.cons (Dp.xm x17 _ _ (nice_slot hss).fl hvs) .nil), by simp [hl0], fun d hd => ?_⟩, _, _, _, _, _, rfl⟩
      rcases List.mem_append.mp hd with e | e
      · exact hs0 d e
      · rw [List.mem_singleton.mp e]; exact hss
  · rintro σ h0 ⟨x0, ⟨ns0, z0, hb0⟩, ⟨acc, ds, hp0, hd0, hl0, hs0⟩, v2, v3, v4, v5, v6, rfl⟩
    refine ⟨_, rfl, p, acc, rfl, .inl ⟨SqL.of hp0, fun t ht => ⟨24, rfl, by decide, by decide, fun D hD => ?_⟩⟩⟩
    have hb1 := bxn (o := .tup acc) ht hb0
    have hnD : ¬ (D = b ∨ D = l) := nb hD hb1
    refine lc_range (lo := 0) (n := 24) (fun j H' => XM T (fun c => c = b ∨ c = l ∨ c = D) (upd (upd h0 t (.tup acc)) D (.lst [])) H' ∧ (∃ ns z, BoxAt H' b l ns z) ∧ ∃ cs : List Int, H' D = some (.lst (cs.map V.int)) ∧ cs.length = j ∧ ∀ n ∈ cs, 0 ≤ n ∧ n < 100)
      ⟨XM.refl _, ⟨_, _, bxn hD hb1⟩, [], upd_same, rfl, fun n hn => absurd hn (by simp)⟩ (fun j H' hj q => ⟨rfl, ?_⟩) (fun H' q => ?_)
    · obtain ⟨x1, ⟨_, _, hb⟩, cs, e1, l1, c1⟩ := q
      refine ⟨_, rfl, b, l, _, _, _, rfl, hb, (by decide), (by decide), fun H2 _ _ r a2 hb2 pr qr => ?_⟩
      have e2 := a2.lst e1 hnD
      have x2 : XM T (fun c => c = D) H2 (upd H2 D (.lst (cs.map V.int ++ [.int r]))) := XM.upd e2 rfl True.intro
      refine ⟨_, e2, ?_, (x1.trans (a2.mono fun c z => z.elim .inl fun z => .inr (.inl z))).trans (x2.mono fun c z => .inr (.inr z)), ⟨_, _, hb2.xm x2 (fun z => hnD (.inl z.symm)) fun z => hnD (.inr z.symm)⟩, cs ++ [r], ?_, ?_, ?_⟩
      · rw [List.length_map, l1]
        exact Nat.lt_of_lt_of_le (show j < 100 by omega) (by decide)
      · rw [upd_same, List.map_append] <;> rfl
      · simp [l1]
      · intro n hn
        rcases List.mem_append.mp hn with e | e
        · exact c1 n e
        · rw [List.mem_singleton.mp e]; exact ⟨pr, qr⟩
    · obtain ⟨x1, ⟨_, _, hb⟩, cs, e1, l1, c1⟩ := q
      refine ⟨D, _, rfl, .inl ⟨SqL.of e1, fun t2 ht2 => ⟨(by show 2 ≤ sizeLine; decide), fun t3 ht3 => ?_⟩⟩⟩
      have y1 : XM T (fun c => c = b ∨ c = l ∨ c = p) H (upd h0 t (.tup acc)) := ((XX.new hp).xm.trans x0).then_new ht
      have fD : H D = none := y1.free hD
      have yt : XM T (fun c => c = b ∨ c = l ∨ c = D) (upd h0 t (.tup acc)) H' := (XX.new hD).xm.trans x1
      have y2 : XM T (fun c => c = b ∨ c = l ∨ c = p ∨ c = D) H _ := (((y1.mono (S' := fun c => c = b ∨ c = l ∨ c = p ∨ c = D) fun c z => z.elim .inl fun z => z.elim (fun z => .inr (.inl z)) fun z => .inr (.inr (.inl z))).trans
        (yt.mono (S' := fun c => c = b ∨ c = l ∨ c = p ∨ c = D) fun c z => z.elim .inl fun z => z.elim (fun z => .inr (.inl z)) fun z => .inr (.inr (.inr z)))).then_new (o := .tup (cs.map V.int)) ht2).then_new (o := .tup [.ref t, .ref t2]) ht3
      have y3 : XM T (fun c => c = b ∨ c = l) H _ := y2.drop fun c z nz => by
        rcases z with z | z | z | z
        · exact absurd (.inl z) nz
        · exact absurd (.inr z) nz
        · rw [z]; exact hp
        · rw [z]; exact fD
      have w2 : XX T (upd H' t2 (.tup (cs.map V.int))) _ := XX.new (o := .tup [.ref t, .ref t2]) ht3
      have w1 : XX T H' _ := (XX.new (o := .tup (cs.map V.int)) ht2).trans w2
      have fl : ∀ d ∈ ds, flatD d = true := fun d hd => (nice_slot (hs0 d hd)).fl
      have wt := yt.trans w1.xm
      refine k _ _ _ (.tuple [.tuple ds, .tuple (cs.map PyData.int)]) _ y3 (hb.xx w1) (.tup (SqT.of upd_same) (.cons (.tup (SqT.of (wt.tup _ _ upd_same)) (dpAll_xm wt fl (Dp.xxAll (XX.new (T := T) ht) _ _ hd0))) (.cons (.tup (SqT.of (w2.tup upd_same)) (dp_ints _ cs)) .nil))) (isPage_of hl0 (by rw [List.length_map, l1]) (fun x hx => ?_) hs0)
      obtain ⟨n, hn, rfl⟩ := List.mem_map.mp hx
      obtain ⟨c2, c3⟩ := c1 n hn
      exact num_of c2 (by omega)
end
end GX
namespace GX
open PySem PySem.Spec PyProof.Rows L2 LamX
section
variable {P : Program} {w : World} {K : PySem.W.Frag} {mg : Str → Option Value} {base : Heap} {T : List (Addr × Str)}
theorem sc_begun : FnScope ["_law_script", "_law_stirred", "_law_cell"] ["_law_script"] (defScope s_begun) := ⟨rfl, rfl, rfl, by decide +kernel, rfl, by decide +kernel, by decide +kernel⟩
theorem ok_begun {f : Addr} {fd : FuncData} (F : Fun K "_law_begun" "_law_begun" s_begun f fd) (B : Blt mg) : FnOk P w K mg base CX0 1 f fd ["_law_script"] (spBegun K T) := by
  refine F.ok sc_begun (fun vs H Q E h => by obtain ⟨a, ns, rfl, _⟩ := h; rfl) (fun cdv A outer s H vs Q E hr h => ?_)
  obtain ⟨a, ns, rfl, hS, hlen, k⟩ := h
  have nd := sc_begun.nd
  refine ⟨_, pss_cons (ps_set (i := 1) nd rfl (Or.inl rfl) pe_int)
    (pss_cons (ps_for PassesOwn.never rfl (pi_list (pv 0)) (pg_name (i := 2) nd rfl (Or.inl rfl))
      (pss_one (ps_set (i := 1) nd rfl (Or.inl rfl) (pe_op op_mod (pe_op op_add (pe_op op_add (pe_op op_mul (pv 1) pe_int) (pe_op op_mul (pv 2) pe_int)) pe_int) pe_int))))
    (pss_one (ps_ret (pe_lst (pa_cons (pe_callTy call_list_of (by rfl) B.list boot_list (pa_cons (pv 0) pa_nil))
      (pa_cons (pe_op op_mul (pv 1) (pe_callTy call_int1 (by rfl) B.int boot_int (pa_cons (pe_cmpR op_gt (pe_callB call_len_seq (by rfl) B.len PySem.boot_len (pa_cons (pv 0) pa_nil)) pe_int (nomark _)) pa_nil))) pa_nil)))))), ?_⟩
  refine ⟨_, rfl, a, rfl, ⟨_, hS⟩, for_list (K := K) (a := a) (xs := ns.map V.int) (fun i σ H' => H' = H ∧ ∃ (z : Int) (v : Option V), σ = [some (.ref a), some (.int z), v] ∧ 0 ≤ z ∧ z < 2147483647)
    ⟨rfl, 0, none, rfl, by decide, by decide⟩ (fun i σ H' _ q => by rw [q.1]; exact hS) ?_ ?_⟩
  · rintro i y σ H' hi ⟨rfl, z, v, rfl, h1, h2⟩
    obtain ⟨n, hn, rfl⟩ : ∃ n, ns[i]? = some n ∧ y = V.int n := by
      rw [List.getElem?_map] at hi
      cases e : ns[i]? with
      | none => rw [e] at hi; cases hi
      | some n => rw [e] at hi; exact ⟨n, rfl, (Option.some.inj hi).symm⟩
    refine ⟨_, rfl, _, _, rfl, rfl, .inr ⟨by decide, by decide⟩, _, rfl, _, _, rfl, rfl, .inr ⟨by decide, by decide⟩, _, _, rfl, rfl, _, _, rfl, rfl, _, _, rfl, rfl, (by show (0 : Int) < 2147483647; decide), ?_⟩
    exact ⟨rfl, _, _, rfl, Int.emod_nonneg _ (by decide), Int.emod_lt_of_pos _ (by decide)⟩
  · rintro σ H' ⟨rfl, z, v, rfl, h1, h2⟩
    refine ⟨_, rfl, a, _, rfl, .inl hS, fun l hl => ?_⟩
    have x1 : XX T H' (upd H' l (.lst (ns.map V.int))) := XX.new hl
    refine ⟨_, rfl, _, rfl, a, _, rfl, .inl (x1.sqL hS), _, _, rfl, rfl, .inr ⟨_, rfl, ?_⟩⟩
    refine ⟨_, _, rfl, rfl, .inr ?_, (by show 2 ≤ sizeLine; decide), fun b hb => ?_⟩
    · split <;> exact ⟨by decide, by decide⟩
    · have nbl : b ≠ l := fun e => by rw [e, upd_same] at hb; cases hb
      have hb0 : H' b = none := by rw [upd_ne nbl] at hb; exact hb
      refine k _ b l _ (x1.then_new hb) ⟨upd_same, ?_, nbl, ?_, ?_, hlen⟩ hb0 hl
      · rw [upd_ne (Ne.symm nbl), upd_same]
      · split <;> omega
      · split <;> omega
theorem sc_take : FnScope ["_law_box", "_law_many", "_law_number"] ["_law_box", "_law_many"] (defScope s_take) := ⟨rfl, rfl, rfl, by decide +kernel, rfl, by decide +kernel, by decide +kernel⟩
theorem ok_take {f : Addr} {fd : FuncData} (F : Fun K "_law_take" "_law_take" s_take f fd) : FnOk P w K mg base CX0 1 f fd ["_law_box", "_law_many"] (spTake T) := by
  refine F.ok sc_take (fun vs H Q E h => by obtain ⟨b, l, ns, z, m, rfl, _⟩ := h; rfl) (fun cdv A outer s H vs Q E hr h => ?_)
  obtain ⟨b, l, ns, z, m, rfl, bx, m0, m1, k⟩ := h
  have nd := sc_take.nd
  have hB : ∀ {H'}, H' b = some (.lst [.ref l, .int z]) → SqL K H' b [.ref l, .int z] := fun h => SqL.of h
  refine ⟨_, pss_cons (ps_if (pt_cmpR (op_eqD hr.units) (pe_ix ix_list (pv 0) pe_int (fun _ _ => rfl)) (pe_lst pa_nil) (nomark _))
      (pss_cons (ps_asg (pe_op op_mod (pe_op op_mul (pe_ix ix_list (pv 0) pe_int (fun _ _ => rfl)) pe_int) pe_int) (pg_sub (pv 0) pe_int set_list))
        (pss_one (ps_ret (pe_op op_mod (pe_op op_fdiv (pe_ix ix_list (pv 0) pe_int (fun _ _ => rfl)) pe_int) (pv 1))))) pss_nil)
    (pss_cons (ps_set (i := 2) nd rfl (Or.inl rfl) (pe_ix ix_list (pe_ix ix_list (pv 0) pe_int (fun _ _ => rfl)) pe_int (fun _ _ => rfl)))
    (pss_cons (ps_asg (pe_op op_fdiv (pv 2) (pv 1)) (pg_sub (pe_ix ix_list (pv 0) pe_int (fun _ _ => rfl)) pe_int set_list))
    (pss_cons (ps_if (PW.pt (pw_or (pt_cmpR op_eq (pe_ix ix_list (pe_ix ix_list (pv 0) pe_int (fun _ _ => rfl)) pe_int (fun _ _ => rfl)) pe_int (nomark _)) (pw_or1 (pt_cmpR op_eq (pe_ix ix_list (pe_ix ix_list (pv 0) pe_int (fun _ _ => rfl)) pe_int (fun _ _ => rfl)) (pe_un un_neg pe_int) (nomark _)))))
      (pss_one (ps_expr (pe_bm PySem.F.plainAttrs_list PySem.F.slot_list_pop PySem.F.type_list_pop mt_popAt (pe_ix ix_list (pv 0) pe_int (fun _ _ => rfl)) (pa_cons pe_int pa_nil)))) pss_nil)
    (pss_one (ps_ret (pe_op op_mod (pv 2) (pv 1))))))), ?_⟩
  refine ⟨_, rfl, b, _, 0, .ref l, rfl, rfl, hB bx.hb, rfl, Nat.zero_le _, fun q hq => ?_⟩
  have x1 : XX T H (upd H q (.lst [])) := XX.new hq
  have bx1 := bx.xx x1
  refine ⟨.list (ns.map .int), .list [], .lst (SqL.of bx1.hl) (dp_ints _ ns), .lst (SqL.of upd_same) .nil, shaped_ints ns, shaped_nil, _, rfl, ?_⟩
  rw [eqv_nil]
  cases ns with
  | nil =>
    refine iteT ⟨_, rfl, b, _, 1, .int z, rfl, rfl, hB bx1.hb, rfl, _, _, rfl, rfl, .inr ⟨by decide, by decide⟩, _, _, rfl, rfl, (by show (0 : Int) < 2147483647; decide), ?_⟩
    refine ⟨_, rfl, b, _, 1, 1, rfl, rfl, bx1.hb, rfl, ?_⟩
    have x2 : XM T (fun c => c = b ∨ c = l) H _ := x1.xm.then_upd (o' := .lst [.ref l, .int (z * 48271 % 2147483647)]) bx1.hb (.inl rfl) True.intro
    refine ⟨_, rfl, b, _, 1, .int (z * 48271 % 2147483647), rfl, rfl, SqL.of upd_same, rfl, _, _, rfl, rfl, ⟨by decide, by decide⟩, _, rfl, _, _, rfl, rfl, m0, ?_⟩
    refine k _ [] _ _ x2 ⟨upd_same, ?_, bx.ne, Int.emod_nonneg _ (by decide), Int.emod_lt_of_pos _ (by decide), Nat.zero_le _⟩ (Int.emod_nonneg _ (by omega)) (Int.emod_lt_of_pos _ m0)
    rw [upd_ne (Ne.symm bx.ne)]; exact bx1.hl
  | cons n r =>
    have len : r.length + 1 ≤ 63 := bx.len
    refine iteF ⟨_, rfl, b, _, 0, .ref l, rfl, rfl, hB bx1.hb, rfl, l, _, 0, .int n, rfl, rfl, SqL.of bx1.hl, atI0, ?_⟩
    refine ⟨_, rfl, _, rfl, _, _, rfl, rfl, ⟨m0, by omega⟩, _, rfl, b, _, 0, .ref l, rfl, rfl, hB bx1.hb, rfl, l, _, 0, 0, rfl, rfl, bx1.hl, ?_, ?_⟩
    · unfold ixN
      simp
      try omega
    · have x2 : XM T (fun c => c = b ∨ c = l) H _ := x1.xm.then_upd (o' := .lst (V.int (n / m) :: r.map V.int)) bx1.hl (.inr rfl) True.intro
      have hb2 : upd (upd H q (.lst [])) l (.lst (V.int (n / m) :: r.map V.int)) b = some (.lst [.ref l, .int z]) := by rw [upd_ne bx.ne]; exact bx1.hb
      have bx2 : BoxAt (upd (upd H q (.lst [])) l (.lst (V.int (n / m) :: r.map V.int))) b l (n / m :: r) z := ⟨hb2, upd_same, bx.ne, bx.lo, bx.hi, bx.len⟩
      have retN : Q (.int (n % m)) (upd (upd H q (.lst [])) l (.lst (V.int (n / m) :: r.map V.int))) := k _ (n / m :: r) z _ x2 bx2 (Int.emod_nonneg _ (by omega)) (Int.emod_lt_of_pos _ m0)
      have x3 : XM T (fun c => c = b ∨ c = l) H _ := x2.then_upd (o' := .lst (r.map V.int)) upd_same (.inr rfl) True.intro
      have retP : Q (.int (n % m)) (upd (upd (upd H q (.lst [])) l (.lst (V.int (n / m) :: r.map V.int))) l (.lst (r.map V.int))) := by
        refine k _ r z _ x3 ⟨?_, upd_same, bx.ne, bx.lo, bx.hi, by omega⟩ (Int.emod_nonneg _ (by omega)) (Int.emod_lt_of_pos _ m0)
        rw [upd_ne bx.ne]; exact hb2
      have sq0 : seqIndex? 0 (V.int (n / m) :: r.map V.int).length = some 0 := by
        have e := (ixN_seq (n := (V.int (n / m) :: r.map V.int).length) (i := 0) (j := 0) (by unfold ixN; simp; try omega)).1
        exact e
      refine ⟨_, rfl, b, _, 0, .ref l, rfl, rfl, hB hb2, rfl, l, _, 0, .int (n / m), rfl, rfl, SqL.of upd_same, atI0, rfl, _, rfl, ?_⟩
      by_cases h0 : n / m = 0
      · rw [decide_eq_true (show V.int (n / m) = V.int 0 by rw [h0])]
        exact iteT (iteT ⟨_, rfl, b, _, 0, .ref l, rfl, rfl, hB hb2, rfl, .inl ⟨rfl, _, SqL.of upd_same⟩, l, _, 0, 0, _, rfl, rfl, upd_same, by decide, by decide, sq0, rfl, _, rfl, _, rfl, _, _, rfl, rfl, m0, retP⟩)
      · rw [decide_eq_false (fun e => h0 (V.int.inj e))]
        refine iteF ⟨_, rfl, b, _, 0, .ref l, rfl, rfl, hB hb2, rfl, l, _, 0, .int (n / m), rfl, rfl, SqL.of upd_same, atI0, 1, rfl, rfl, _, rfl, ?_⟩
        by_cases h1 : n / m = -1
        · rw [decide_eq_true (show V.int (n / m) = V.int (-1) by rw [h1])]
          exact iteT ⟨_, rfl, b, _, 0, .ref l, rfl, rfl, hB hb2, rfl, .inl ⟨rfl, _, SqL.of upd_same⟩, l, _, 0, 0, _, rfl, rfl, upd_same, by decide, by decide, sq0, rfl, _, rfl, _, rfl, _, _, rfl, rfl, m0, retP⟩
        · rw [decide_eq_false (fun e => h1 (V.int.inj e))]
          exact iteF ⟨_, rfl, _, rfl, _, _, rfl, rfl, m0, retN⟩
end
end GX
namespace GX
open PySem PySem.Spec PyProof.Rows L2 LamX
theorem okAll_mem : ∀ {ds : List PyData} {d : PyData}, okAll ds = true → d ∈ ds → okD d = true
  | e :: ds, d, h, hm => by
    have h' := Bool.and_eq_true_iff.mp h
    rcases List.mem_cons.mp hm with z | z
    · rw [z]; exact h'.1
    · exact okAll_mem h'.2 z
theorem dec_self {x : V} {H : Hp} {Q : VK} (k : Q (.bl true) H) : Q (.bl (decide (x = x))) H := by rw [decide_eq_true rfl]; exact k
theorem rix_of {K : PySem.W.Frag} {H : Hp} {p : Addr} {xs : List V} {i : Nat} {v : V} {Q : VK} (h : SqL K H p xs ∨ SqT K H p xs) (e : xs[i]? = some v) (q : Q v H) : rIx K (.ref p) (.int (0 + (i : Int))) H Q := by
  have e0 : (0 : Int) + (i : Int) = (i : Int) := Int.zero_add _
  rw [e0]
  rcases h with h | h
  · exact .inl ⟨p, xs, _, v, rfl, rfl, h, atI_nat e, q⟩
  · exact .inr (.inl ⟨p, xs, _, v, rfl, rfl, h, atI_nat e, q⟩)
section
variable {P : Program} {w : World} {K : PySem.W.Frag} {mg : Str → Option Value} {base : Heap} {T : List (Addr × Str)}
theorem sc_alike : FnScope ["_law_found", "_law_due", "_law_k"] ["_law_found", "_law_due"] (defScope s_alike) := ⟨rfl, rfl, rfl, by decide +kernel, rfl, by decide +kernel, by decide +kernel⟩
theorem ok_alike1 {f : Addr} {fd : FuncData} {n : Nat} (F : Fun K "_law_alike" "_law_alike" s_alike f fd) (B : Blt mg) (bs : mg "str" = none) (c : Cal P w K mg base CX0 "_law_alike" ["_law_found", "_law_due"] n (spAl K n)) : FnOk P w K mg base CX0 (n + 1) f fd ["_law_found", "_law_due"] (spAl K (n + 1)) := by
  refine F.ok sc_alike (fun vs H Q E h => by obtain ⟨a, b, d, rfl, _⟩ := h; rfl) (fun cdv A outer s H vs Q E hr h => ?_)
  obtain ⟨a, b, d, rfl, ha, hb, hok, hdep, k⟩ := h
  have nd := sc_alike.nd
  refine ⟨_, pss_cons (ps_if (pt_cmpR op_isN (pv 1) pe_non (nomark _)) (pss_one (ps_ret (pe_cmpR op_isN (pv 0) pe_non (nomark _)))) pss_nil)
    (pss_cons (ps_if (pt_val (pe_callB call_isi (by rfl) B.isi k_isi (pa_cons (pv 1) (pa_cons (pe_bltn (v := .ty "bool") (by rfl) B.bool boot_bool rfl) pa_nil))))
      (pss_one (ps_ret (pe_and (pe_callB call_isi (by rfl) B.isi k_isi (pa_cons (pv 0) (pa_cons (pe_bltn (v := .ty "bool") (by rfl) B.bool boot_bool rfl) pa_nil))) (pe_one (pe_cmpR op_eq (pv 0) (pv 1) (nomark _)))))) pss_nil)
    (pss_cons (ps_if (pt_val (pe_callB call_isi (by rfl) B.isi k_isi (pa_cons (pv 1) (pa_cons (pe_bltn (v := .ty "int") (by rfl) B.int boot_int rfl) pa_nil))))
      (pss_one (ps_ret (pe_and (pe_callB call_isi (by rfl) B.isi k_isi (pa_cons (pv 0) (pa_cons (pe_bltn (v := .ty "int") (by rfl) B.int boot_int rfl) pa_nil)))
        (pe_and (pe_not (pe_callB call_isi (by rfl) B.isi k_isi (pa_cons (pv 0) (pa_cons (pe_bltn (v := .ty "bool") (by rfl) B.bool boot_bool rfl) pa_nil)))) (pe_one (pe_cmpR op_eq (pv 0) (pv 1) (nomark _))))))) pss_nil)
    (pss_cons (ps_if (pt_val (pe_callB call_isi (by rfl) B.isi k_isi (pa_cons (pv 1) (pa_cons (pe_bltn (v := .ty "str") (by rfl) bs boot_str rfl) pa_nil))))
      (pss_one (ps_ret (pe_and (pe_callB call_isi (by rfl) B.isi k_isi (pa_cons (pv 0) (pa_cons (pe_bltn (v := .ty "str") (by rfl) bs boot_str rfl) pa_nil))) (pe_one (pe_cmpR op_eq (pv 0) (pv 1) (nomark _)))))) pss_nil)
    (pss_cons (ps_if (PW.pt (pw_or (pt_cmpR op_ne (pe_callB call_isi (by rfl) B.isi k_isi (pa_cons (pv 1) (pa_cons (pe_bltn (v := .ty "tuple") (by rfl) B.tuple boot_tuple rfl) pa_nil))) (pe_callB call_isi (by rfl) B.isi k_isi (pa_cons (pv 0) (pa_cons (pe_bltn (v := .ty "tuple") (by rfl) B.tuple boot_tuple rfl) pa_nil))) (nomark _))
        (pw_or1 (pt_cmpR op_ne (pe_callB call_isi (by rfl) B.isi k_isi (pa_cons (pv 1) (pa_cons (pe_bltn (v := .ty "list") (by rfl) B.list boot_list rfl) pa_nil))) (pe_callB call_isi (by rfl) B.isi k_isi (pa_cons (pv 0) (pa_cons (pe_bltn (v := .ty "list") (by rfl) B.list boot_list rfl) pa_nil))) (nomark _)))))
      (pss_one (ps_ret pe_bl)) pss_nil)
    (pss_cons (ps_if (pt_cmpR op_ne (pe_callB call_len_seq (by rfl) B.len PySem.boot_len (pa_cons (pv 0) pa_nil)) (pe_callB call_len_seq (by rfl) B.len PySem.boot_len (pa_cons (pv 1) pa_nil)) (nomark _)) (pss_one (ps_ret pe_bl)) pss_nil)
    (pss_cons (ps_for PassesOwn.never rfl (pi_range1 (by rfl) B.range (pa_cons (pe_callB call_len_seq (by rfl) B.len PySem.boot_len (pa_cons (pv 1) pa_nil)) pa_nil)) (pg_name (i := 2) nd rfl (Or.inl rfl))
      (pss_one (ps_if (pt_not (pt_val (pe_cal c hr (pa_cons (pe_ix ix_seq (pv 0) (pv 2) (fun _ _ => rfl)) (pa_cons (pe_ix ix_seq (pv 1) (pv 2) (fun _ _ => rfl)) pa_nil))))) (pss_one (ps_ret pe_bl)) pss_nil)))
    (pss_one (ps_ret pe_bl)))))))), ?_⟩
  have loop : ∀ {a b : V} {pa pb : Addr} {va vb : List V} {ds : List PyData} {Q' : VK}, a = .ref pa → b = .ref pb → (SqL K H pa va ∨ SqT K H pa va) → (SqL K H pb vb ∨ SqT K H pb vb) → DpAll K H va ds → DpAll K H vb ds → ds.length ≤ 1000 → okAll ds = true → PyData.depthAll ds + 1 ≤ n → Q' (.bl true) H →
      tSeq (tFor (iRng1 (tCons (tCB (fun xs H Q => ∃ p ys, xs = [.ref p] ∧ (SqL K H p ys ∨ SqT K H p ys) ∧ Q (.int ys.length) H) (tCons (tVar 1) tNil)) tNil)) (gName 2) (tIfS (tNot (tB (tCall (spAl K n) [] E0 (tCons (tOp (rIx K) (tVar 0) (tVar 2)) (tCons (tOp (rIx K) (tVar 1) (tVar 2)) tNil))))) (tRet (tC (.bl false))) tNext)) (tRet (tC (.bl true)))
        { nx := fun _ H' => Q' .non H', rt := Q' } [some a, some b, none] H := by
    intro a b pa pb va vb ds Q' ea eb hsa hsb haa hbb hlen hok hdep k
    subst ea
    subst eb
    have hl := dpAll_len hbb
    refine ⟨_, rfl, pb, vb, rfl, hsb, (vb.length : Int), rfl, by omega, by rw [hl]; omega, for_range (lo := 0) (n := (vb.length : Int).toNat) (fun i σ H' => H' = H ∧ ∃ v, σ = [some (.ref pa), some (.ref pb), v]) ⟨rfl, none, rfl⟩ ?_ ?_⟩
    · rintro i σ H' hi ⟨rfl, v, rfl⟩
      have hi2 : i < ds.length := by omega
      obtain ⟨u1, e1, d1⟩ := dpAll_at haa (List.getElem?_eq_getElem hi2)
      obtain ⟨u2, e2, d2⟩ := dpAll_at hbb (List.getElem?_eq_getElem hi2)
      refine ⟨_, rfl, _, rfl, rix_of hsa e1 ⟨_, rfl, _, rfl, rix_of hsb e2 ?_⟩⟩
      have hdi := PyData.depth_le_depthAll ds ds[i] (List.getElem_mem hi2)
      cases n with
      | zero => omega
      | succ m => exact ⟨u1, u2, ds[i], rfl, d1, d2, okAll_mem hok (List.getElem_mem hi2), by omega, true, rfl, iteF ⟨rfl, _, rfl⟩⟩
    · rintro σ H' ⟨rfl, v, rfl⟩
      exact k
  cases ha with
  | non => cases hb; exact ⟨_, rfl, rfl, _, rfl, iteT ⟨_, rfl, rfl, k⟩⟩
  | bl b0 =>
    cases hb
    exact ⟨_, rfl, rfl, _, rfl, iteF (t_isi rfl (.bl b0) kit_bool ⟨_, rfl, iteT (t_isi rfl (.bl b0) kit_bool ⟨_, rfl, iteT ⟨_, rfl, _, rfl, rfl, dec_self (Q := Q) k⟩⟩)⟩)⟩
  | int i0 =>
    cases hb
    exact ⟨_, rfl, rfl, _, rfl, iteF (t_isi rfl (.int i0) kit_bool ⟨_, rfl, iteF (t_isi rfl (.int i0) kit_int ⟨_, rfl, iteT (t_isi rfl (.int i0) kit_int ⟨_, rfl, iteT (t_isi rfl (.int i0) kit_bool ⟨_, rfl, _, rfl, iteT ⟨_, rfl, _, rfl, rfl, dec_self (Q := Q) k⟩⟩)⟩)⟩)⟩)⟩
  | str x0 =>
    cases hb
    exact ⟨_, rfl, rfl, _, rfl, iteF (t_isi rfl (.str x0) kit_bool ⟨_, rfl, iteF (t_isi rfl (.str x0) kit_int ⟨_, rfl, iteF (t_isi rfl (.str x0) kit_str ⟨_, rfl, iteT (t_isi rfl (.str x0) kit_str ⟨_, rfl, iteT ⟨_, rfl, _, rfl, rfl, dec_self (Q := Q) k⟩⟩)⟩)⟩)⟩)⟩
  | @tup pa va ds hs haa =>
    obtain ⟨pb, vb, rfl, hs2, hbb⟩ := dp_tup hb
    have hb' : Dp K H (.ref pb) (.tuple ds) := hb
    have ha' : Dp K H (.ref pa) (.tuple ds) := .tup hs haa
    have h0 := Bool.and_eq_true_iff.mp hok
    have eL : (!decide (V.int (va.length : Int) = V.int (vb.length : Int))) = false := by simp [dpAll_len haa, dpAll_len hbb]
    refine ⟨_, rfl, rfl, _, rfl, iteF (t_isi rfl hb' kit_bool ⟨_, rfl, iteF (t_isi rfl hb' kit_int ⟨_, rfl, iteF (t_isi rfl hb' kit_str ⟨_, rfl, iteF ?_⟩)⟩)⟩)⟩
    refine t_isi rfl hb' kit_tuple (t_isi rfl ha' kit_tuple ⟨rfl, _, rfl, iteF (t_isi rfl hb' kit_list (t_isi rfl ha' kit_list ⟨rfl, _, rfl, iteF ?_⟩))⟩)
    refine ⟨_, rfl, pa, va, rfl, .inr hs, _, rfl, pb, vb, rfl, .inr hs2, rfl, _, rfl, ?_⟩
    rw [eL]
    exact iteF (loop rfl rfl (.inr hs) (.inr hs2) haa hbb (of_decide_eq_true h0.1) h0.2 hdep k)
  | @lst pa va ds hs haa =>
    obtain ⟨pb, vb, rfl, hs2, hbb⟩ := dp_lst hb
    have hb' : Dp K H (.ref pb) (.list ds) := hb
    have ha' : Dp K H (.ref pa) (.list ds) := .lst hs haa
    have h0 := Bool.and_eq_true_iff.mp hok
    have eL : (!decide (V.int (va.length : Int) = V.int (vb.length : Int))) = false := by simp [dpAll_len haa, dpAll_len hbb]
    refine ⟨_, rfl, rfl, _, rfl, iteF (t_isi rfl hb' kit_bool ⟨_, rfl, iteF (t_isi rfl hb' kit_int ⟨_, rfl, iteF (t_isi rfl hb' kit_str ⟨_, rfl, iteF ?_⟩)⟩)⟩)⟩
    refine t_isi rfl hb' kit_tuple (t_isi rfl ha' kit_tuple ⟨rfl, _, rfl, iteF (t_isi rfl hb' kit_list (t_isi rfl ha' kit_list ⟨rfl, _, rfl, iteF ?_⟩))⟩)
    refine ⟨_, rfl, pa, va, rfl, .inl hs, _, rfl, pb, vb, rfl, .inl hs2, rfl, _, rfl, ?_⟩
    rw [eL]
    exact iteF (loop rfl rfl (.inl hs) (.inl hs2) haa hbb (of_decide_eq_true h0.1) h0.2 hdep k)
/-- .. for every depth -/
theorem ok_alike {f : Addr} {fd : FuncData} (F : Fun K "_law_alike" "_law_alike" s_alike f fd) (B : Blt mg) (bs : mg "str" = none) (m : mg "_law_alike" = some (.ref f)) (hb : Binds K fd ["_law_found", "_law_due"] []) : ∀ n, FnOk P w K mg base CX0 n f fd ["_law_found", "_law_due"] (spAl K n)
  | 0 => ⟨fun _ _ _ _ h => h.elim, fun _ _ _ _ _ _ _ _ _ _ _ _ _ h => h.elim⟩
  | n + 1 => ok_alike1 F B bs ⟨f, fd, ok_alike F B bs m hb n, m, F.kp, hb⟩
end
end GX
namespace GX
open PySem PySem.Spec PyProof.Rows L2 LamX
section
variable {P : Program} {w : World} {K : PySem.W.Frag} {mg : Str → Option Value} {base : Heap} {T : List (Addr × Str)} {cE : Addr} {cs : Fin 9 → Addr}
theorem sc_told : FnScope ["_law_work", "e", "_law_kinds", "_law_words", "_law_word"] ["_law_work"] (defScope s_told) := ⟨rfl, rfl, rfl, by decide +kernel, rfl, by decide +kernel, by decide +kernel⟩
def suiteOf (st : Stmt) : List Stmt := match defBody st with
  | [.Try _ [.ExceptHandler _ _ su _] _ _ _] => su
  | _ => []
abbrev toldN : List Str := ["_law_work", "e", "_law_kinds", "_law_words", "_law_word"]
theorem t_isE {C a : Addr} {σ : L2.St} {H : Hp} {Q : VK} {i : Fin 9} (j : Fin 9) (hσ : σ[1]? = some (some (.ref a))) (hC : EIs K cE cs i C) (q : Q (.bl (decide (j = i))) H) : tCB (rIsE K C a) (tCons (tVar 1) (tCons (tC (.ref (cs j))) tNil)) σ H Q :=
  ⟨_, hσ, .ref (cs j), .ref (cs j), _, rfl, fun u r => r, hC.is_ j, q⟩
def kinds (i : Fin 9) : List V := [.bl (decide ((0 : Fin 9) = i)), .bl (decide ((1 : Fin 9) = i)), .bl (decide ((2 : Fin 9) = i)), .bl (decide ((3 : Fin 9) = i)), .bl (decide ((4 : Fin 9) = i)), .bl (decide ((5 : Fin 9) = i)), .bl (decide ((6 : Fin 9) = i)), .bl (decide ((7 : Fin 9) = i)), .bl (decide ((8 : Fin 9) = i))]
def wordsV : List V := [.str "BadCount", .str "BadDisk", .str "BadPage", .str "BadRow", .str "BadText", .str "Full", .str "NoPage", .str "NoRow", .str "Stopped"]
theorem kinds_flat : ∀ i : Fin 9, (kinds i).all flatV = true := by decide +kernel
theorem kinds_count : ∀ i : Fin 9, ((kinds i).countP fun z => eqV z (.bl true)) = 1 := by decide +kernel
theorem kinds_at : ∀ i : Fin 9, (kinds i)[i.1]? = some (.bl true) := by decide +kernel
theorem kinds_no0 : ∀ i m : Fin 9, m.1 < i.1 → (((kinds i)[m.1]?).all fun z => !eqV z (.bl true)) = true := by decide +kernel
theorem kinds_no (i : Fin 9) (m : Nat) (z : V) (h : m < i.1) (e : (kinds i)[m]? = some z) : eqV z (.bl true) = false := by
  have q := kinds_no0 i ⟨m, by omega⟩ h
  rw [show (kinds i)[(⟨m, by omega⟩ : Fin 9).1]? = some z from e] at q
  simpa using q
theorem words_at : ∀ i : Fin 9, wordsV[i.1]? = some (.str (wordsE.getD i.1 "")) := by decide +kernel
theorem words_no : ∀ i : Fin 9, i.1 ≠ 4 → decide (V.str (wordsE.getD i.1 "") = V.str "BadText") = false := by decide +kernel
/-- the suite of _law_told's except clause, by what it comes to -/
def tToldS (K : PySem.W.Frag) (T : List (Addr × Str)) (cE : Addr) (cs : Fin 9 → Addr) (a : Addr) (cls : Value) (d : Option Addr) : TS := fun D σ H => ∃ (i : Fin 9) (C : Addr) (g : Option V) (b2 b3 b4 : Option V), cls = .ref C ∧ d = none ∧ i.1 ≠ 4 ∧ EIs K cE cs i C ∧ σ = [g, some (.ref a), b2, b3, b4] ∧ H a = none ∧ ∀ H' v, XX T H H' → Dp K H' v (toldD i) → D.rt v H'
theorem told_suite {f : Addr} {cdv : Value} {A : Around} {outer : List Env} {s : Shared} {H : Hp} {E : XK} {a : Addr} {oe : Obj} {pn : List (Addr × Obj)} {cls : Value} {d : Option Addr} (B : Blt mg) (bv : mg "ValueError" = none) (G : ETab mg cE cs) (hz : Zc cls d oe) (hf : ∃ vs, oe.data = .fields vs) :
    PSs ((cxOf CX0 P w K mg base toldN "_law_told" (defScope s_told) f cdv A outer s H E).nox.suite a ((a, oe) :: pn)) (suiteOf s_told) (tToldS K T cE cs a cls d) := by
  have nd := sc_told.nd
  refine ⟨fun pins s σ H D I h => ?_⟩
  obtain ⟨i, C, g, b2, b3, b4, rfl, rfl, hn4, hC, rfl, ha, k⟩ := h
  refine PSs.run (
      pss_cons (ps_set (i := 2) nd rfl (Or.inl rfl) (pe_lst (pa_cons (pe_callB (call_isE hC.ex hz hf) (by rfl) B.isi k_isi (pa_cons (pv 1) (pa_cons (pe_glob (by rfl) G.g0 (v := .ref (cs 0)) rfl) pa_nil)))
        (pa_cons (pe_callB (call_isE hC.ex hz hf) (by rfl) B.isi k_isi (pa_cons (pv 1) (pa_cons (pe_glob (by rfl) G.g1 (v := .ref (cs 1)) rfl) pa_nil)))
        (pa_cons (pe_callB (call_isE hC.ex hz hf) (by rfl) B.isi k_isi (pa_cons (pv 1) (pa_cons (pe_glob (by rfl) G.g2 (v := .ref (cs 2)) rfl) pa_nil)))
        (pa_cons (pe_callB (call_isE hC.ex hz hf) (by rfl) B.isi k_isi (pa_cons (pv 1) (pa_cons (pe_glob (by rfl) G.g3 (v := .ref (cs 3)) rfl) pa_nil))) pa_nil))))))
      (pss_cons (ps_set (i := 2) nd rfl (Or.inl rfl) (pe_op op_cat (pv 2) (pe_lst (pa_cons (pe_callB (call_isE hC.ex hz hf) (by rfl) B.isi k_isi (pa_cons (pv 1) (pa_cons (pe_glob (by rfl) G.g4 (v := .ref (cs 4)) rfl) pa_nil)))
        (pa_cons (pe_callB (call_isE hC.ex hz hf) (by rfl) B.isi k_isi (pa_cons (pv 1) (pa_cons (pe_glob (by rfl) G.g5 (v := .ref (cs 5)) rfl) pa_nil)))
        (pa_cons (pe_callB (call_isE hC.ex hz hf) (by rfl) B.isi k_isi (pa_cons (pv 1) (pa_cons (pe_glob (by rfl) G.g6 (v := .ref (cs 6)) rfl) pa_nil)))
        (pa_cons (pe_callB (call_isE hC.ex hz hf) (by rfl) B.isi k_isi (pa_cons (pv 1) (pa_cons (pe_glob (by rfl) G.g7 (v := .ref (cs 7)) rfl) pa_nil))) pa_nil)))))))
      (pss_cons (ps_expr (pe_bm PySem.F.plainAttrs_list PySem.F.slot_list_append PySem.F.type_list_append mt_append (pv 2) (pa_cons (pe_callB (call_isE hC.ex hz hf) (by rfl) B.isi k_isi (pa_cons (pv 1) (pa_cons (pe_glob (by rfl) G.g8 (v := .ref (cs 8)) rfl) pa_nil))) pa_nil)))
      (pss_cons (ps_if (PW.pt (pw_or (pt_cmpR op_ne (pe_bm PySem.F.plainAttrs_list PySem.F.slot_list_count PySem.F.type_list_count mt_fcount (pv 2) (pa_cons pe_bl pa_nil)) pe_int (nomark _)) (pw_or1 (pt_not (pt_val (pe_callB (call_isE hC.ex hz hf) (by rfl) B.isi k_isi (pa_cons (pv 1) (pa_cons (pe_bltn (v := .ty "ValueError") (by rfl) bv (by decide +kernel) rfl) pa_nil))))))))
        (pss_one (ps_ret (pe_tup (pa_cons pe_str (pa_cons pe_int pa_nil))))) pss_nil)
      (pss_cons (ps_set (i := 3) nd rfl (Or.inl rfl) (pe_lst (pa_cons pe_str (pa_cons pe_str (pa_cons pe_str (pa_cons pe_str (pa_cons pe_str (pa_cons pe_str (pa_cons pe_str (pa_cons pe_str (pa_cons pe_str pa_nil)))))))))))
      (pss_cons (ps_set (i := 4) nd rfl (Or.inl rfl) (pe_ix ix_list (pv 3) (pe_bm PySem.F.plainAttrs_list PySem.F.slot_list_index PySem.F.type_list_index mt_index (pv 2) (pa_cons pe_bl pa_nil)) (fun _ _ => rfl)))
      (pss_one (ps_ret (pe_tup (pa_cons (pv 4) (pa_cons (pe_ifExp (pt_cmpR op_eq (pv 4) pe_str (nomark _)) pe_no pe_int) pa_nil))))))))))) pins s _ H D I ?_
  refine t_isE 0 rfl hC (t_isE 1 rfl hC (t_isE 2 rfl hC (t_isE 3 rfl hC ⟨(by show 4 ≤ sizeLine; decide), fun p1 h1 => ?_⟩)))
  refine ⟨_, rfl, t_isE 4 rfl hC (t_isE 5 rfl hC (t_isE 6 rfl hC (t_isE 7 rfl hC ⟨(by show 4 ≤ sizeLine; decide), fun p2 h2 => ?_⟩)))⟩
  have n12 : p1 ≠ p2 := fun z => by rw [← z, upd_same] at h2; cases h2
  refine ⟨p1, p2, _, _, rfl, rfl, (by rw [upd_ne n12]; exact upd_same), upd_same, (by show 8 ≤ sizeLine; decide), fun p3 h3 => ?_⟩
  refine ⟨_, rfl, .inl ⟨rfl, _, SqL.of upd_same⟩, t_isE 8 rfl hC ⟨p3, _, _, rfl, rfl, upd_same, (by show 8 < sizeLine; decide), ?_⟩⟩
  rw [upd_upd]
  have x1 := (((XX.new (T := T) h1).then_new h2).then_new (o := .lst (kinds i)) h3)
  refine ⟨_, rfl, .inl ⟨rfl, _, SqL.of upd_same⟩, p3, kinds i, .bl true, rfl, rfl, SqL.of upd_same, rfl, kinds_flat i, rfl, _, rfl, ?_⟩
  rw [kinds_count i, show (!decide (V.int ((1 : Nat) : Int) = V.int 1)) = false by decide]
  refine iteF ⟨_, rfl, .ty "ValueError", .type "ValueError", true, rfl, fun u r => r, hC.ve, _, rfl, iteF ?_⟩
  refine ⟨(by show 9 ≤ sizeLine; decide), fun p4 h4 => ?_⟩
  have x2 := x1.then_new (o := .lst wordsV) h4
  have n34 : p3 ≠ p4 := fun z => by rw [← z, upd_same] at h4; cases h4
  have g3 : ∀ {o : HO}, upd (upd (upd (upd H p1 (.lst [.bl (decide ((0 : Fin 9) = i)), .bl (decide ((1 : Fin 9) = i)), .bl (decide ((2 : Fin 9) = i)), .bl (decide ((3 : Fin 9) = i))])) p2 (.lst [.bl (decide ((4 : Fin 9) = i)), .bl (decide ((5 : Fin 9) = i)), .bl (decide ((6 : Fin 9) = i)), .bl (decide ((7 : Fin 9) = i))])) p3 (.lst (kinds i))) p4 o p3 = some (.lst (kinds i)) := fun {o} => by rw [upd_ne n34, upd_same]
  refine ⟨_, rfl, _, rfl, .inl ⟨rfl, _, SqL.of g3⟩, p3, kinds i, .bl true, i.1, .bl true, rfl, rfl, SqL.of g3, rfl, kinds_flat i, kinds_at i, rfl, kinds_no i, ?_⟩
  refine ⟨p4, wordsV, _, .str (wordsE.getD i.1 ""), rfl, rfl, SqL.of upd_same, atI_nat (words_at i), ?_⟩
  refine ⟨_, rfl, _, rfl, rfl, _, rfl, ?_⟩
  rw [words_no i hn4]
  refine iteF ⟨(by show 2 ≤ sizeLine; decide), fun p5 h5 => ?_⟩
  exact k _ _ (x2.then_new h5) (.tup (SqT.of upd_same) (.cons (.str _) (.cons (.int _) .nil)))
theorem ok_told {f : Addr} {fd : FuncData} {k : Nat} (F : Fun K "_law_told" "_law_told" s_told f fd) (B : Blt mg) (bv : mg "ValueError" = none) (G : ETab mg cE cs) : FnOk P w K mg base CX0 (k + 1) f fd ["_law_work"] (spTold P w K mg base T cE cs k) := by
  refine F.ok sc_told (fun vs H Q E h => by obtain ⟨g, ph, sp, rfl, _⟩ := h; rfl) (fun cdv A outer s H vs Q E hr h => ?_)
  obtain ⟨g, ph, sp, rfl, hf, hc, hph, h⟩ := h
  have nd := sc_told.nd
  refine ⟨_, pss_one (ps_try_as (X := (cxOf CX0 P w K mg base toldN "_law_told" (defScope s_told) f cdv A outer s H E).nox) (i := 1) (tb := fun W => tRet (tActS P w K mg base k 0 (WE W))) rfl rfl nd rfl rfl (x := "PageError") (c := .ref cE) ⟨rfl, by decide, .inl G.gE⟩ L2.takes0 (fun W pn xe tk _ => pss_one (ps_ret (pe_act0S (i := 0) hr (passAt tk) rfl (.inl rfl))))
    (fun a oe cls d pn hz hfl => told_suite (T := T) B bv G hz hfl)), ?_⟩
  refine ⟨g, ph, sp, rfl, hf, hc, hph, h _ fun H1 i C h4 hC k => ⟨true, hC.top, fun _ a ha => ?_, fun z => Bool.noConfusion z⟩⟩
  exact ⟨i, C, _, _, _, _, rfl, rfl, h4, hC, rfl, ha, k⟩
end
end GX
namespace GX
open PySem PySem.Spec PyProof.Rows L2 LamX
section
variable {P : Program} {w : World} {K : PySem.W.Frag} {mg : Str → Option Value} {base : Heap} {T : List (Addr × Str)} {cE : Addr} {cs : Fin 9 → Addr}
theorem sc_all : FnScope ["_law_works", "_law_due", "_law_work"] ["_law_works", "_law_due"] (defScope s_all) := ⟨rfl, rfl, rfl, by decide +kernel, rfl, by decide +kernel, by decide +kernel⟩
theorem ok_all {f : Addr} {fd : FuncData} {k k2 : Nat} (F : Fun K "_law_all" "_law_all" s_all f fd) (cA : Cal P w K mg base CX0 "_law_alike" ["_law_found", "_law_due"] 2 (spAl K 2)) (cT : Cal P w K mg base CX0 "_law_told" ["_law_work"] (k + 1) (spTold P w K mg base T cE cs k)) (h1 : k + 1 ≤ k2) (h2 : 2 ≤ k2) :
    FnOk P w K mg base CX0 (k2 + 1) f fd ["_law_works", "_law_due"] (spAll P w K mg base T cE cs k) := by
  refine F.ok sc_all (fun vs H Q E h => by obtain ⟨a, fs, v, i, rfl, _⟩ := h; rfl) (fun cdv A outer s H vs Q E hr h => ?_)
  obtain ⟨a, fs, v, i, rfl, hS, hv, h4, hw, k⟩ := h
  have nd := sc_all.nd
  refine ⟨_, pss_one (ps_ret (pe_cmpR (op_eqD hr.units) (pe_lc (own := [("_law_work", 2)]) (g := gName 2) (tt := _) (by rfl) nd (pi_list (pv 0)) (blkOk_by (own := [("_law_work", 2)]) (N := ["_law_works", "_law_due", "_law_work"]) (sc := defScope s_all) (by decide +kernel))
    (fun _ _ _ _ _ => pg_name (i := 2) nd rfl (Or.inl rfl))
    (fun _ _ _ _ _ => pts_one (pt_not (pt_val (pe_cal cA (hr.mono h2) (pa_cons (pe_cal cT (hr.mono h1) (pa_cons (pv 2) pa_nil)) (pa_cons (pv 1) pa_nil)))))) (fun _ _ _ _ _ => pv 2)) (pe_lst pa_nil) (nomark _))), ?_⟩
  refine ⟨_, rfl, a, rfl, ⟨_, hS⟩, fun D hD => ?_⟩
  refine lc_list (xs := fs.map V.ref) (fun j H' => XX T H H' ∧ H' D = some (.lst [])) ⟨XX.new hD, upd_same⟩ (fun j H' _ q => q.1.sqL hS) (fun j x H' hx q => ⟨rfl, ?_⟩) (fun H' q => ?_)
  · obtain ⟨x1, e1⟩ := q
    rw [List.getElem?_map] at hx
    obtain ⟨g, hg, rfl⟩ : ∃ g, fs[j]? = some g ∧ x = V.ref g := by
      cases e : fs[j]? with
      | none => rw [e] at hx; cases hx
      | some g => rw [e] at hx; exact ⟨g, rfl, (Option.some.inj hx).symm⟩
    obtain ⟨ph, sp, hfo, hc, hp, hsp⟩ := hw g (List.mem_of_getElem? hg) H' x1
    refine ⟨_, rfl, g, ph, sp, rfl, hfo, hc, hp, fun E hE => hsp _ E fun H2 D' x2 hEI => hE H2 i D' h4 hEI fun H3 u x3 du => ?_⟩
    have x13 := x1.trans (x2.trans x3)
    exact ⟨_, rfl, u, v, toldD i, rfl, du, Dp.xx x13 _ _ hv, ok_toldD i, depth_told i, true, rfl, iteF ⟨x13, (x2.trans x3).lst e1⟩⟩
  · obtain ⟨x1, e1⟩ := q
    refine ⟨by decide, fun p hp => ?_⟩
    have e2 : upd H' p (.lst []) D = some (.lst []) := by rw [upd_ne (ne_of_none e1 hp)]; exact e1
    refine ⟨.list [], .list [], .lst (SqL.of e2) .nil, .lst (SqL.of upd_same) .nil, shaped_nil, shaped_nil, ?_⟩
    exact k _ (x1.then_new hp)
end
end GX
namespace GX
open PySem PySem.Spec PyProof.Rows L2 LamX
section
variable {P : Program} {w : World} {K : PySem.W.Frag} {mg : Str → Option Value} {base : Heap} {T : List (Addr × Str)} {C cD cN cP cC cS : Addr}
theorem sc_fresh_page : FnScope [] [] (defScope s_fresh_page) := ⟨rfl, rfl, rfl, by decide +kernel, rfl, by decide +kernel, by decide +kernel⟩
theorem ok_fresh_page {f : Addr} {fd : FuncData} (F : Fun K "fresh_page" "fresh_page" s_fresh_page f fd) (Cc : CoF mg) : FnOk P w K mg base CX0 1 f fd [] (spFresh K T) := by
  refine F.ok sc_fresh_page (fun vs H Q E h => by obtain ⟨rfl, _⟩ := h; rfl) (fun cdv A outer s H vs Q E hr h => ?_)
  obtain ⟨rfl, k⟩ := h
  refine ⟨_, pss_one (ps_ret (pe_tup (pa_cons (pe_op op_repT (pe_tup (pa_cons (pe_tup (pa_cons pe_str (pa_cons pe_int pa_nil))) pa_nil)) (pe_const Cc.slots)) (pa_cons (pe_op op_repT (pe_tup (pa_cons pe_int pa_nil)) (pe_const Cc.cells)) pa_nil)))), ?_⟩
  refine ⟨(by show 2 ≤ sizeLine; decide), fun p1 h1 => ⟨(by show 1 ≤ sizeLine; decide), fun p2 h2 => ?_⟩⟩
  have n12 : p1 ≠ p2 := fun z => by rw [← z, upd_same] at h2; cases h2
  refine ⟨p2, 8, _, rfl, rfl, SqT.of upd_same, (by simp), (by decide), (by decide), (by show 1 ≤ 1000; decide), fun p3 h3 => ?_⟩
  refine ⟨(by show 1 ≤ sizeLine; decide), fun p4 h4 => ⟨p4, 24, _, rfl, rfl, SqT.of upd_same, (by simp), (by decide), (by decide), (by show 1 ≤ 1000; decide), fun p5 h5 => ?_⟩⟩
  refine ⟨(by show 2 ≤ sizeLine; decide), fun p6 h6 => ?_⟩
  have x : XX T H _ := ((((((XX.new (T := T) h1).then_new h2).then_new h3).then_new h4).then_new h5).then_new (o := .tup [.ref p3, .ref p5]) h6)
  refine k _ _ x ?_
  have g6 : ∀ {b o}, (upd (upd (upd (upd (upd H p1 (.tup [.str "free", .int 0])) p2 (.tup [.ref p1])) p3 (.tup (List.replicate (8 : Int).toNat [V.ref p1]).flatten)) p4 (.tup [.int 0])) p5 (.tup (List.replicate (24 : Int).toNat [V.int 0]).flatten)) b = some o → (upd (upd (upd (upd (upd (upd H p1 (.tup [.str "free", .int 0])) p2 (.tup [.ref p1])) p3 (.tup (List.replicate (8 : Int).toNat [V.ref p1]).flatten)) p4 (.tup [.int 0])) p5 (.tup (List.replicate (24 : Int).toNat [V.int 0]).flatten)) p6 (.tup [.ref p3, .ref p5])) b = some o := fun {b o} e => by
    rw [upd_ne (ne_of_none e h6)]; exact e
  have e5 := g6 (b := p5) upd_same
  have e3 : (upd (upd (upd (upd (upd H p1 (.tup [.str "free", .int 0])) p2 (.tup [.ref p1])) p3 (.tup (List.replicate (8 : Int).toNat [V.ref p1]).flatten)) p4 (.tup [.int 0])) p5 (.tup (List.replicate (24 : Int).toNat [V.int 0]).flatten)) p3 = some (.tup (List.replicate (8 : Int).toNat [V.ref p1]).flatten) := by
    have q4 := (upd_ne (H := upd (upd (upd H p1 (.tup [.str "free", .int 0])) p2 (.tup [.ref p1])) p3 (.tup (List.replicate (8 : Int).toNat [V.ref p1]).flatten)) (a := p4) (o := .tup [.int 0]) (ne_of_none upd_same h4)).trans upd_same
    exact (upd_ne (ne_of_none q4 h5)).trans q4
  have e1 : (upd (upd (upd (upd (upd H p1 (.tup [.str "free", .int 0])) p2 (.tup [.ref p1])) p3 (.tup (List.replicate (8 : Int).toNat [V.ref p1]).flatten)) p4 (.tup [.int 0])) p5 (.tup (List.replicate (24 : Int).toNat [V.int 0]).flatten)) p1 = some (.tup [.str "free", .int 0]) := by
    have y : XX T (upd H p1 (.tup [.str "free", .int 0])) _ := ((((XX.new (T := T) (o := .tup [.ref p1]) h2).then_new h3).then_new (o := .tup [.int 0]) h4).then_new (o := .tup (List.replicate (24 : Int).toNat [V.int 0]).flatten) h5)
    exact y.tup upd_same
  refine .tup (SqT.of upd_same) (.cons (.tup (SqT.of (g6 e3)) ?_) (.cons (.tup (SqT.of e5) ?_) .nil))
  · have d1 : Dp K _ (.ref p1) (freeD 0) := .tup (SqT.of (g6 e1)) (.cons (.str _) (.cons (.int _) .nil))
    exact .cons d1 (.cons d1 (.cons d1 (.cons d1 (.cons d1 (.cons d1 (.cons d1 (.cons d1 .nil)))))))
  · have d0 : ∀ {H}, Dp K H (.int 0) (.int 0) := fun {H} => .int 0
    exact .cons d0 (.cons d0 (.cons d0 (.cons d0 (.cons d0 (.cons d0 (.cons d0 (.cons d0 (.cons d0 (.cons d0 (.cons d0 (.cons d0 (.cons d0 (.cons d0 (.cons d0 (.cons d0 (.cons d0 (.cons d0 (.cons d0 (.cons d0 (.cons d0 (.cons d0 (.cons d0 (.cons d0 .nil)))))))))))))))))))))))
theorem sc_DCheck : FnScope ["self", "number"] ["self", "number"] (defScope s_DCheck) := ⟨rfl, rfl, rfl, by decide +kernel, rfl, by decide +kernel, by decide +kernel⟩
theorem ok_DCheck {f : Addr} {fd : FuncData} (F : Fun K "_check" "Disk._check" s_DCheck f fd) (D : DTx K mg C cD cN cP cC cS) (B : Blt mg) (cI : Cal P w K mg base CX0 "is_number" ["thing", "low", "high"] 1 (spNum K)) : FnOk P w K mg base (L2.CX P w) 2 f fd ["self", "number"] (spDCheck K C cN cS) := by
  refine F.okX sc_DCheck (fun vs H Q E h => by obtain ⟨p, dx, l, pages, done, left, stands, v, d, rfl, _⟩ := h; rfl) (fun cdv A outer s H vs Q E hr h => ?_)
  obtain ⟨p, dx, l, pages, done, left, stands, v, d, rfl, dk, hd, k1, k2, k3⟩ := h
  refine ⟨_, pss_cons (ps_if (pt_val (pe_fld (pv 0) rfl)) (pss_one (ps_raise rfl (takes_of rfl rfl rfl rfl) (pmk_err D.eS))) pss_nil)
    (pss_one (ps_if (pt_not (pt_val (pe_cal cI hr (pa_cons (pv 1) (pa_cons pe_int (pa_cons (pe_op op_sub (pe_callB call_len_seq (by rfl) B.len PySem.boot_len (pa_cons (pe_fld (pv 0) rfl) pa_nil)) pe_int) pa_nil)))))) (pss_one (ps_raise rfl (takes_of rfl rfl rfl rfl) (pmk_err D.eN))) pss_nil)), ?_⟩
  refine ⟨_, rfl, p, C, dx, _, _, rfl, dk.ins, D.cl, D.n4, rfl, stands, rfl, ?_⟩
  cases stands with
  | true => exact iteT (k1 rfl)
  | false =>
    obtain ⟨xs, hl, hx⟩ := dk.lst
    refine iteF ⟨v, rfl, _, rfl, p, C, dx, _, _, rfl, dk.ins, D.cl, D.n1, rfl, l, xs, rfl, .inl (SqL.of hl), _, _, rfl, rfl, v, d, 0, (xs.length : Int) - 1, rfl, hd, _, rfl, ?_⟩
    rw [dpAll_len hx]
    by_cases q : isNum d 0 ((pages.length : Int) - 1) = true
    · rw [q]; exact iteF (k3 rfl q)
    · have q' : isNum d 0 ((pages.length : Int) - 1) = false := by simpa using q
      rw [q']; exact iteT (k2 rfl q')
theorem sc_DCount : FnScope ["self"] ["self"] (defScope s_DCount) := ⟨rfl, rfl, rfl, by decide +kernel, rfl, by decide +kernel, by decide +kernel⟩
theorem ok_DCount {f : Addr} {fd : FuncData} (F : Fun K "_count_down" "Disk._count_down" s_DCount f fd) (D : DTx K mg C cD cN cP cC cS) : FnOk P w K mg base (L2.CX P w) 1 f fd ["self"] (spDCount K T C cS) := by
  refine F.okX sc_DCount (fun vs H Q E h => by obtain ⟨p, dx, l, pages, done, left, stands, rfl, _⟩ := h; rfl) (fun cdv A outer s H vs Q E hr h => ?_)
  obtain ⟨p, dx, l, pages, done, left, stands, rfl, dk, k1, k2, k3⟩ := h
  refine ⟨_, pss_cons (ps_if (pt_cmpR op_isN (pe_fld (pv 0) rfl) pe_non (nomark _)) (pss_one ps_retN) pss_nil)
    (pss_cons (ps_if (pt_cmpR op_eq (pe_fld (pv 0) rfl) pe_int (nomark _)) (pss_cons (ps_fld (pv 0) pe_bl rfl) (pss_one (ps_raise rfl (takes_of rfl rfl rfl rfl) (pmk_err D.eS)))) pss_nil)
    (pss_one (ps_fldaug (pv 0) pe_int in_sub))), ?_⟩
  refine ⟨_, rfl, p, C, dx, _, _, rfl, dk.ins, D.cl, D.n3, rfl, rfl, _, rfl, ?_⟩
  cases left with
  | none => exact iteT (k1 rfl)
  | some n =>
    refine iteF ⟨_, rfl, p, C, dx, _, _, rfl, dk.ins, D.cl, D.n3, rfl, rfl, _, rfl, ?_⟩
    by_cases h0 : n = 0
    · subst h0
      exact iteT ⟨_, rfl, p, C, dx, _, rfl, dk.ins, D.cl, D.n4, (by show 4 < 1000; decide), k2 rfl _ (XM.upd dk.ins rfl True.intro) (dk.fld done (some 0) true)⟩
    · show (if decide (V.int n = V.int 0) = true then _ else _)
      rw [decide_eq_false (fun z => h0 (V.int.inj z))]
      exact iteF ⟨_, rfl, p, C, dx, _, _, rfl, dk.ins, D.cl, D.n3, rfl, _, _, rfl, rfl, dx, _, dk.ins, (by show 4 < 1000; decide), k3 n rfl h0 _ (XM.upd dk.ins rfl True.intro) (dk.fld done (some (n - 1)) stands)⟩
theorem sc_DPages : FnScope ["self"] ["self"] (defScope s_DPages) := ⟨rfl, rfl, rfl, by decide +kernel, rfl, by decide +kernel, by decide +kernel⟩
theorem ok_DPages {f : Addr} {fd : FuncData} (F : Fun K "pages" "Disk.pages" s_DPages f fd) (D : DTx K mg C cD cN cP cC cS) (B : Blt mg) : FnOk P w K mg base CX0 1 f fd ["self"] (spDPages K C) := by
  refine F.ok sc_DPages (fun vs H Q E h => by obtain ⟨p, dx, l, pages, done, left, stands, rfl, _⟩ := h; rfl) (fun cdv A outer s H vs Q E hr h => ?_)
  obtain ⟨p, dx, l, pages, done, left, stands, rfl, dk, k⟩ := h
  refine ⟨_, pss_one (ps_ret (pe_callB call_len_seq (by rfl) B.len PySem.boot_len (pa_cons (pe_fld (pv 0) rfl) pa_nil))), ?_⟩
  obtain ⟨xs, hl, hx⟩ := dk.lst
  rw [← dpAll_len hx] at k
  exact ⟨_, rfl, p, C, dx, _, _, rfl, dk.ins, D.cl, D.n1, rfl, l, xs, rfl, .inl (SqL.of hl), k⟩
theorem sc_DWrites : FnScope ["self"] ["self"] (defScope s_DWrites) := ⟨rfl, rfl, rfl, by decide +kernel, rfl, by decide +kernel, by decide +kernel⟩
theorem ok_DWrites {f : Addr} {fd : FuncData} (F : Fun K "writes" "Disk.writes" s_DWrites f fd) (D : DTx K mg C cD cN cP cC cS) : FnOk P w K mg base CX0 1 f fd ["self"] (spDWrites K C) := by
  refine F.ok sc_DWrites (fun vs H Q E h => by obtain ⟨p, dx, l, pages, done, left, stands, rfl, _⟩ := h; rfl) (fun cdv A outer s H vs Q E hr h => ?_)
  obtain ⟨p, dx, l, pages, done, left, stands, rfl, dk, k⟩ := h
  refine ⟨_, pss_one (ps_ret (pe_fld (pv 0) rfl)), ?_⟩
  exact ⟨_, rfl, p, C, dx, _, _, rfl, dk.ins, D.cl, D.n2, rfl, k⟩
theorem sc_DArm : FnScope ["self", "count"] ["self", "count"] (defScope s_DArm) := ⟨rfl, rfl, rfl, by decide +kernel, rfl, by decide +kernel, by decide +kernel⟩
theorem ok_DArm {f : Addr} {fd : FuncData} (F : Fun K "arm" "Disk.arm" s_DArm f fd) (D : DTx K mg C cD cN cP cC cS) (cI : Cal P w K mg base CX0 "is_number" ["thing", "low", "high"] 1 (spNum K)) : FnOk P w K mg base (L2.CX P w) 2 f fd ["self", "count"] (spDArm K T C cC) := by
  refine F.okX sc_DArm (fun vs H Q E h => by obtain ⟨p, dx, l, pages, done, left, stands, v, d, rfl, _⟩ := h; rfl) (fun cdv A outer s H vs Q E hr h => ?_)
  obtain ⟨p, dx, l, pages, done, left, stands, v, d, rfl, dk, hd, k1, k2⟩ := h
  refine ⟨_, pss_cons (ps_if (pt_not (pt_val (pe_cal cI hr (pa_cons (pv 1) (pa_cons pe_int (pa_cons (pe_const D.count) pa_nil)))))) (pss_one (ps_raise rfl (takes_of rfl rfl rfl rfl) (pmk_err D.eC))) pss_nil) (pss_one (ps_fld (pv 0) (pv 1) rfl)), ?_⟩
  refine ⟨v, rfl, v, d, 0, 1000000, rfl, hd, _, rfl, ?_⟩
  by_cases q : isNum d 0 1000000 = true
  · rw [q]
    obtain ⟨n, rfl, _, _⟩ := isNum_int q
    obtain rfl := dp_int hd
    exact iteF ⟨_, rfl, _, rfl, p, C, dx, _, rfl, dk.ins, D.cl, D.n3, (by show 4 < 1000; decide), k2 n rfl q _ (XM.upd dk.ins rfl True.intro) (dk.fld done (some n) stands)⟩
  · have q' : isNum d 0 1000000 = false := by simpa using q
    rw [q']; exact iteT (k1 q')
theorem sc_DAgain : FnScope ["self"] ["self"] (defScope s_DAgain) := ⟨rfl, rfl, rfl, by decide +kernel, rfl, by decide +kernel, by decide +kernel⟩
theorem ok_DAgain {f : Addr} {fd : FuncData} (F : Fun K "again" "Disk.again" s_DAgain f fd) (D : DTx K mg C cD cN cP cC cS) : FnOk P w K mg base CX0 1 f fd ["self"] (spDAgain K T C) := by
  refine F.ok sc_DAgain (fun vs H Q E h => by obtain ⟨p, dx, l, pages, done, left, stands, rfl, _⟩ := h; rfl) (fun cdv A outer s H vs Q E hr h => ?_)
  obtain ⟨p, dx, l, pages, done, left, stands, rfl, dk, k⟩ := h
  refine ⟨_, pss_cons (ps_fld (pv 0) pe_non rfl) (pss_one (ps_fld (pv 0) pe_bl rfl)), ?_⟩
  have d1 := dk.fld done none stands
  exact ⟨_, rfl, p, C, dx, _, rfl, dk.ins, D.cl, D.n3, (by show 4 < 1000; decide), _, rfl, p, C, dx, _, rfl, upd_same, D.cl, D.n4, (by show 4 < 1000; decide), k _ ((XM.upd (S := fun b => b = p) dk.ins rfl True.intro).then_upd d1.ins rfl True.intro) (d1.fld done none false)⟩
end
end GX
namespace GX
open PySem PySem.Spec PyProof.Rows L2 LamX
section
variable {P : Program} {w : World} {K : PySem.W.Frag} {mg : Str → Option Value} {base : Heap} {T : List (Addr × Str)} {C cD cN cP cC cS : Addr}
theorem write_end {p dx l : Addr} {pages : List PyData} {done : Int} {left : Option Int} {stands : Bool} {v u : V} {d e : PyData} {H : Hp} {E2 : Ends} (D : DTx K mg C cD cN cP cC cS) (dk : DiskAt K C H p dx l pages done left stands) (hs : stands = false) (hq : isNum d 0 ((pages.length : Int) - 1) = true) {H0 : Hp} (hd : Dp K H0 v d) (he : Dp K H u e) (fe : flatD e = true)
    (k : ∀ (i : Nat) (H' : Hp), d = .int i → i < pages.length → XM T (fun b => b = p ∨ b = l) H H' → DiskAt K C H' p dx l (pages.set i e) (done + 1) left false → E2.nx [some (.ref p), some v, some u] H') :
    tSeq (tAsg (tVar 2) (gSub (tFld K (tVar 0) "_sheets") (tVar 1) rSetL)) (sFldAug K (tVar 0) (tC (.int 1)) rAdd "_done") E2 [some (.ref p), some v, some u] H := by
  obtain ⟨i, rfl, h1, h2⟩ := isNum_int hq
  obtain rfl := dp_int hd
  obtain ⟨xs, hl, hx⟩ := dk.lst
  obtain ⟨j, rfl⟩ : ∃ j : Nat, i = (j : Int) := ⟨i.toNat, by omega⟩
  have hj : j < pages.length := by omega
  have hxl := dpAll_len hx
  have hix : ixN xs.length (j : Int) = some j := by
    unfold ixN
    have q1 : (0 : Int) ≤ (j : Int) := by omega
    have q2 : (j : Int) < (xs.length : Int) := by omega
    simp [q1, q2]
    try omega
  have npl := dk.ne
  have x1 : XM T (fun b => b = p ∨ b = l) H (upd H l (.lst (xs.set j u))) := XM.upd hl (.inr rfl) True.intro
  have ins1 : upd H l (.lst (xs.set j u)) p = some (.ins C dx (dF l done left stands)) := by rw [upd_ne npl]; exact dk.ins
  have x2 := x1.then_upd (o' := .ins C dx (dF l (done + 1) left stands)) ins1 (.inl rfl) True.intro
  refine ⟨_, rfl, _, rfl, p, C, dx, _, _, rfl, dk.ins, D.cl, D.n1, rfl, _, rfl, l, xs, _, j, rfl, rfl, hl, hix, ?_⟩
  refine ⟨_, rfl, p, C, dx, _, _, rfl, ins1, D.cl, D.n2, rfl, _, _, rfl, rfl, dx, _, ins1, (by show 4 < 1000; decide), ?_⟩
  subst hs
  refine k j _ rfl hj x2 ⟨upd_same, ⟨xs.set j u, ?_, ?_⟩, fun d hm => ?_⟩
  · rw [upd_ne (Ne.symm npl), upd_same]
  · refine dpAll_xm x2 (fun d hm => ?_) (dpAll_set he j hx)
    rcases mem_set hm with z | z
    · rw [z]; exact fe
    · exact dk.flat d z
  · rcases mem_set hm with z | z
    · rw [z]; exact fe
    · exact dk.flat d z
theorem sc_DPage : FnScope ["self", "number"] ["self", "number"] (defScope s_DPage) := ⟨rfl, rfl, rfl, by decide +kernel, rfl, by decide +kernel, by decide +kernel⟩
theorem ok_DPage {f : Addr} {fd : FuncData} (F : Fun K "page" "Disk.page" s_DPage f fd) (D : DTx K mg C cD cN cP cC cS) (mC : Met P w K mg base (L2.CX P w) C "_check" ["self", "number"] 2 (spDCheck K C cN cS)) : FnOk P w K mg base (L2.CX P w) 3 f fd ["self", "number"] (spDPage K C cN cS) := by
  refine F.okX sc_DPage (fun vs H Q E h => by obtain ⟨p, dx, l, pages, done, left, stands, v, d, rfl, _⟩ := h; rfl) (fun cdv A outer s H vs Q E hr h => ?_)
  obtain ⟨p, dx, l, pages, done, left, stands, v, d, rfl, dk, hd, k1, k2, k3⟩ := h
  refine ⟨_, pss_cons (ps_expr (pe_met mC D.cl hr (passX (tk := takes_of rfl rfl rfl rfl)) (pv 0) (pa_cons (pv 1) pa_nil))) (pss_one (ps_ret (pe_ix ix_list (pe_fld (pv 0) rfl) (pv 1) (fun _ _ => rfl)))), ?_⟩
  refine ⟨_, rfl, p, dx, _, rfl, dk.ins, rfl, v, rfl, p, dx, l, pages, done, left, stands, v, d, rfl, dk, hd, k1, k2, fun hs hq => ?_⟩
  obtain ⟨i, rfl, h1, h2⟩ := isNum_int hq
  obtain rfl := dp_int hd
  obtain ⟨xs, hl, hx⟩ := dk.lst
  obtain ⟨j, rfl⟩ : ∃ j : Nat, i = (j : Int) := ⟨i.toNat, by omega⟩
  have hj : j < pages.length := by omega
  obtain ⟨u, eu, du⟩ := dpAll_at hx (List.getElem?_eq_getElem hj)
  exact ⟨_, rfl, p, C, dx, _, _, rfl, dk.ins, D.cl, D.n1, rfl, _, rfl, l, xs, _, u, rfl, rfl, SqL.of hl, atI_nat eu, k3 j _ u hs rfl (List.getElem?_eq_getElem hj) du⟩
theorem sc_DWrite : FnScope ["self", "number", "page"] ["self", "number", "page"] (defScope s_DWrite) := ⟨rfl, rfl, rfl, by decide +kernel, rfl, by decide +kernel, by decide +kernel⟩
theorem ok_DWrite {f P1 P2 : Addr} {fd : FuncData} (F : Fun K "write" "Disk.write" s_DWrite f fd) (D : DTx K mg C cD cN cP cC cS) (mC : Met P w K mg base (L2.CX P w) C "_check" ["self", "number"] 2 (spDCheck K C cN cS)) (mD : Met P w K mg base (L2.CX P w) C "_count_down" ["self"] 1 (spDCount K T C cS))
    (cP' : Cal P w K mg base CX0 "is_page" ["thing"] 6 (spPage K T P1 P2)) : FnOk P w K mg base (L2.CX P w) 7 f fd ["self", "number", "page"] (spDWrite K T P1 P2 C cN cP cS) := by
  refine F.okX sc_DWrite (fun vs H Q E h => by obtain ⟨p, dx, l, pages, done, left, stands, v, d, u, e, rfl, _⟩ := h; rfl) (fun cdv A outer s H vs Q E hr h => ?_)
  obtain ⟨p, dx, l, pages, done, left, stands, v, d, u, e, rfl, dk, hd, he, fe, she, g1, g2, k1, k2, k3, k4, k5⟩ := h
  refine ⟨_, pss_cons (ps_expr (pe_met mC D.cl (hr.mono (by decide)) (passX (tk := takes_of rfl rfl rfl rfl)) (pv 0) (pa_cons (pv 1) pa_nil)))
    (pss_cons (ps_if (pt_not (pt_val (pe_cal cP' hr (pa_cons (pv 2) pa_nil)))) (pss_one (ps_raise rfl (takes_of rfl rfl rfl rfl) (pmk_err D.eP))) pss_nil)
    (pss_cons (ps_expr (pe_met0 mD D.cl (hr.mono (by decide)) (passX (tk := takes_of rfl rfl rfl rfl)) (pv 0)))
    (pss_cons (ps_asg (pv 2) (pg_sub (pe_fld (pv 0) rfl) (pv 1) set_list))
    (pss_one (ps_fldaug (pv 0) pe_int in_add))))), ?_⟩
  refine ⟨_, rfl, p, dx, _, rfl, dk.ins, rfl, v, rfl, p, dx, l, pages, done, left, stands, v, d, rfl, dk, hd, k1, k2, fun hs hq => ?_⟩
  refine ⟨u, rfl, u, e, rfl, he, she, g1, g2, fun H1 x1 => ⟨_, rfl, ?_⟩⟩
  by_cases hp : isPage e = true
  · rw [hp]
    have dk1 := dk.xx x1
    refine iteF ⟨_, rfl, p, dx, _, rfl, dk1.ins, rfl, p, dx, l, pages, done, left, stands, rfl, dk1, fun hl => ?_, fun hl H2 x2 dk2 => k4 hs hq hp hl H2 (x1.xm.trans x2) dk2, fun n hl hn H2 x2 dk2 => ?_⟩
    · exact write_end D dk1 hs hq hd (he := Dp.xx x1 _ _ he) fe fun i H' ei hi x2 dk2 => k5 i hs ei hi hp (by rw [hl]; simp) H' (x1.xm.trans x2) (by rw [hl] at dk2 ⊢; exact dk2)
    · refine write_end D dk2 hs hq hd (he := Dp.xm x2 _ _ fe (Dp.xx x1 _ _ he)) fe fun i H' ei hi x3 dk3 => k5 i hs ei hi hp (by rw [hl]; simpa using hn) H' ((x1.xm.trans (x2.mono fun b z => .inl z)).trans x3) (by rw [hl]; exact dk3)
  · have hp' : isPage e = false := by simpa using hp
    rw [hp']
    exact iteT (k3 hs hq hp' H1 x1)
end
end GX
namespace GX
open PySem PySem.Spec PyProof.Rows L2 LamX
section
variable {P : Program} {w : World} {K : PySem.W.Frag} {mg : Str → Option Value} {base : Heap} {T : List (Addr × Str)} {C cD cN cP cC cS : Addr}
theorem sc_DInit : FnScope ["self", "many", "_"] ["self", "many"] (defScope s_DInit) := ⟨rfl, rfl, rfl, by decide +kernel, rfl, by decide +kernel, by decide +kernel⟩
theorem ok_DInit {f : Addr} {fd : FuncData} (F : Fun K "__init__" "Disk.__init__" s_DInit f fd) (D : DTx K mg C cD cN cP cC cS) (B : Blt mg) (cI : Cal P w K mg base CX0 "is_number" ["thing", "low", "high"] 1 (spNum K)) (cF : Cal P w K mg base CX0 "fresh_page" [] 1 (spFresh K T)) : FnOk P w K mg base (L2.CX P w) 2 f fd ["self", "many"] (spDInit K T C cD) := by
  refine F.okX sc_DInit (fun vs H Q E h => by obtain ⟨p, dx, v, d, rfl, _⟩ := h; rfl) (fun cdv A outer s H vs Q E hr h => ?_)
  obtain ⟨p, dx, v, d, rfl, hp, hd, k1, k2⟩ := h
  have nd := sc_DInit.nd
  refine ⟨_, pss_cons (ps_if (pt_not (pt_val (pe_cal cI hr (pa_cons (pv 1) (pa_cons (pe_const D.least) (pa_cons (pe_const D.most) pa_nil)))))) (pss_one (ps_raise rfl (takes_of rfl rfl rfl rfl) (pmk_err D.eD))) pss_nil)
    (pss_cons (ps_fld (pv 0) (pe_lc (own := [("_", 2)]) (g := gName 2) (tt := tYes) (by rfl) nd (pi_range1 (by rfl) B.range (pa_cons (pv 1) pa_nil)) (blkOk_by (own := [("_", 2)]) (N := ["self", "many", "_"]) (sc := defScope s_DInit) (by decide +kernel))
        (fun _ _ _ _ _ => pg_name (i := 2) nd rfl (Or.inl rfl)) (fun _ _ _ _ _ => pts_nil) (fun _ _ _ _ _ => pe_cal0 cF hr)) rfl)
    (pss_cons (ps_fld (pv 0) pe_int rfl) (pss_cons (ps_fld (pv 0) pe_non rfl) (pss_one (ps_fld (pv 0) pe_bl rfl))))), ?_⟩
  refine ⟨v, rfl, v, d, 2, 12, rfl, hd, _, rfl, ?_⟩
  by_cases q : isNum d 2 12 = true
  · rw [q]
    obtain ⟨n, rfl, h1, h2⟩ := isNum_int q
    obtain rfl := dp_int hd
    refine iteF ⟨_, rfl, n, rfl, by omega, by omega, fun l hl => ?_⟩
    have npl : p ≠ l := ne_of_none hp hl
    refine lc_range (lo := 0) (n := n.toNat) (fun i H' => XM T (fun b => b = l) H H' ∧ ∃ acc, H' l = some (.lst acc) ∧ DpAll K H' acc (List.replicate i freshD)) ⟨(XX.new hl).xm, [], upd_same, .nil⟩ (fun i H' hi pv => ⟨rfl, ?_⟩) (fun H' pv => ?_)
    · obtain ⟨x1, acc, e1, da⟩ := pv
      refine ⟨rfl, fun H2 u x2 du => ⟨acc, x2.lst e1, ?_, ?_, acc ++ [u], upd_same, ?_⟩⟩
      · have := dpAll_len da
        rw [this, List.length_replicate]
        exact Nat.lt_of_lt_of_le (show i < 100 by omega) (by decide)
      · exact (x1.trans x2.xm).then_upd (x2.lst e1) rfl True.intro
      · have x3 : XM T (fun b => b = l) H2 (upd H2 l (.lst (acc ++ [u]))) := XM.upd (x2.lst e1) rfl True.intro
        rw [List.replicate_succ']
        have fl : ∀ e ∈ List.replicate i freshD, flatD e = true := fun e he => by rw [(List.mem_replicate.mp he).2]; exact flat_fresh
        exact dpAll_app (dpAll_xm x3 fl (Dp.xxAll x2 _ _ da)) (.cons (Dp.xm x3 _ _ flat_fresh du) .nil)
    · obtain ⟨x1, acc, e1, da⟩ := pv
      have p1 : H' p = some (.ins C dx []) := x1.ins hp npl
      refine ⟨_, rfl, p, C, dx, _, rfl, p1, D.cl, D.n1, (by show 0 < 1000; decide), ?_⟩
      refine ⟨_, rfl, p, C, dx, _, rfl, upd_same, D.cl, D.n2, (by show 1 < 1000; decide), ?_⟩
      refine ⟨_, rfl, p, C, dx, _, rfl, upd_same, D.cl, D.n3, (by show 2 < 1000; decide), ?_⟩
      refine ⟨_, rfl, p, C, dx, _, rfl, upd_same, D.cl, D.n4, (by show 3 < 1000; decide), ?_⟩
      rw [upd_upd, upd_upd, upd_upd]
      have x2 : XM T (fun b => b = p) H' (upd H' p (.ins C dx (dF l 0 none false))) := XM.upd p1 rfl True.intro
      have fl : ∀ e ∈ List.replicate n.toNat freshD, flatD e = true := fun e he => by rw [(List.mem_replicate.mp he).2]; exact flat_fresh
      refine k2 n rfl h1 h2 _ l (((x1.drop (S0 := fun b => b = p) fun b hb _ => by rw [hb]; exact hl)).trans x2) hl ⟨upd_same, ⟨acc, ?_, dpAll_xm x2 fl da⟩, fl⟩
      rw [upd_ne (Ne.symm npl)]; exact e1
  · have q' : isNum d 2 12 = false := by simpa using q
    rw [q']; exact iteT (k1 q')
end
end GX
namespace GX
open PySem PySem.Spec PyProof.Rows L2 LamX
section
variable {P : Program} {w : World} {K : PySem.W.Frag} {mg : Str → Option Value} {base : Heap} {T : List (Addr × Str)}
theorem sc_is_number : FnScope ["thing", "low", "high"] ["thing", "low", "high"] (defScope s_is_number) := ⟨rfl, rfl, rfl, by decide +kernel, rfl, by decide +kernel, by decide +kernel⟩
theorem ok_is_number {f : Addr} {fd : FuncData} (F : Fun K "is_number" "is_number" s_is_number f fd) (B : Blt mg) : FnOk P w K mg base CX0 1 f fd ["thing", "low", "high"] (spNum K) := by
  refine F.ok sc_is_number (fun vs H Q E h => ?_) (fun cdv A outer s H vs Q E hr h => ?_)
  · obtain ⟨v, d, lo, hi, rfl, _⟩ := h
    rfl
  · obtain ⟨v, d, lo, hi, rfl, hd, k⟩ := h
    refine ⟨_, pss_one (ps_ret (pe_and (pe_callB call_isi (by rfl) B.isi k_isi (pa_cons (pv 0) (pa_cons (pe_bltn (v := .ty "int") (by rfl) B.int boot_int rfl) pa_nil)))
      (pe_and (pe_not (pe_callB call_isi (by rfl) B.isi k_isi (pa_cons (pv 0) (pa_cons (pe_bltn (v := .ty "bool") (by rfl) B.bool boot_bool rfl) pa_nil))))
        (pe_one (pe_chain op_le op_le (pv 1) (pv 0) (pv 2)))))), ?_⟩
    refine t_isi rfl hd kit_int ⟨_, rfl, ?_⟩
    cases hd with
    | int i =>
      refine iteT (t_isi rfl (.int i) kit_bool ⟨_, rfl, _, rfl, iteT ?_⟩)
      refine ⟨_, rfl, _, rfl, _, _, rfl, rfl, _, rfl, ?_⟩
      by_cases h1 : lo ≤ i
      · rw [decide_eq_true h1]
        refine iteT ⟨_, rfl, _, _, rfl, rfl, ?_⟩
        have e : isNum (.int i) lo hi = decide (i ≤ hi) := by simp [isNum, h1]
        rw [e] at k; exact k
      · rw [decide_eq_false h1]
        refine iteF ?_
        have e : isNum (.int i) lo hi = false := by simp [isNum, h1]
        rw [e] at k; exact k
    | bl b => exact iteT (t_isi rfl (.bl b) kit_bool ⟨_, rfl, _, rfl, iteF k⟩)
    | non => exact iteF k
    | str x => exact iteF k
    | lst _ _ => exact iteF k
    | tup _ _ => exact iteF k
theorem sc_is_tuple : FnScope ["thing", "many"] ["thing", "many"] (defScope s_is_tuple) := ⟨rfl, rfl, rfl, by decide +kernel, rfl, by decide +kernel, by decide +kernel⟩
theorem ok_is_tuple {f : Addr} {fd : FuncData} (F : Fun K "is_tuple" "is_tuple" s_is_tuple f fd) (B : Blt mg) : FnOk P w K mg base CX0 1 f fd ["thing", "many"] (spTup K) := by
  refine F.ok sc_is_tuple (fun vs H Q E h => ?_) (fun cdv A outer s H vs Q E hr h => ?_)
  · obtain ⟨v, d, n, rfl, _⟩ := h
    rfl
  · obtain ⟨v, d, n, rfl, hd, k⟩ := h
    refine ⟨_, pss_one (ps_ret (pe_and (pe_callB call_isi (by rfl) B.isi k_isi (pa_cons (pv 0) (pa_cons (pe_bltn (v := .ty "tuple") (by rfl) B.tuple boot_tuple rfl) pa_nil)))
      (pe_one (pe_cmpR op_eq (pe_callB call_len_seq (by rfl) B.len PySem.boot_len (pa_cons (pv 0) pa_nil)) (pv 1) (nomark _))))), ?_⟩
    refine t_isi rfl hd kit_tuple ⟨_, rfl, ?_⟩
    cases hd with
    | tup hs ha =>
      refine iteT ⟨_, rfl, _, _, rfl, .inr hs, _, rfl, rfl, ?_⟩
      rw [isTup_dec (dpAll_len ha)] at k
      exact k
    | lst _ _ => exact iteF k
    | int i => exact iteF k
    | bl b => exact iteF k
    | non => exact iteF k
    | str x => exact iteF k
end
end GX
namespace GX
open PySem PySem.Spec PyProof.Rows L2 LamX
section
variable {P : Program} {w : World} {K : PySem.W.Frag} {mg : Str → Option Value} {base : Heap} {T : List (Addr × Str)}
theorem sc_is_next : FnScope ["thing"] ["thing"] (defScope s_is_next) := ⟨rfl, rfl, rfl, by decide +kernel, rfl, by decide +kernel, by decide +kernel⟩
theorem ok_is_next {f : Addr} {fd : FuncData} (F : Fun K "is_next" "is_next" s_is_next f fd) (C : CoF mg) (cN : Cal P w K mg base CX0 "is_number" ["thing", "low", "high"] 1 (spNum K)) (cT : Cal P w K mg base CX0 "is_tuple" ["thing", "many"] 1 (spTup K)) : FnOk P w K mg base CX0 2 f fd ["thing"] (spNext K) := by
  refine F.ok sc_is_next (fun vs H Q E h => ?_) (fun cdv A outer s H vs Q E hr h => ?_)
  · obtain ⟨v, d, rfl, _⟩ := h
    rfl
  · obtain ⟨v, d, rfl, hd, k⟩ := h
    refine ⟨_, pss_cons (ps_if (pt_cmpR op_isN (pv 0) pe_non (nomark _)) (pss_one (ps_ret pe_bl)) pss_nil)
      (pss_one (ps_ret (pe_and (pe_cal cT hr (pa_cons (pv 0) (pa_cons pe_int pa_nil)))
        (pe_and (pe_cal cN hr (pa_cons (pe_ix ix_tup (pv 0) pe_int (fun _ _ => rfl)) (pa_cons pe_int (pa_cons (pe_op op_sub (pe_const C.most) pe_int) pa_nil))))
          (pe_one (pe_cal cN hr (pa_cons (pe_ix ix_tup (pv 0) pe_int (fun _ _ => rfl)) (pa_cons pe_int (pa_cons (pe_op op_sub (pe_const C.slots) pe_int) pa_nil))))))))), ?_⟩
    refine ⟨v, rfl, rfl, _, rfl, ?_⟩
    by_cases hv : v = .non
    · subst hv
      obtain rfl := dp_non hd
      exact iteT k
    · rw [decide_eq_false hv]
      refine iteF ⟨v, rfl, v, d, 2, rfl, hd, _, rfl, ?_⟩
      by_cases h2 : isTup d 2 = true
      · rw [h2]
        obtain ⟨x, y, rfl⟩ := isTup2 h2
        obtain ⟨a, xs, rfl, hs, ha⟩ := dp_tup hd
        obtain ⟨vx, vy, rfl, hx, hy⟩ := dpAll2 ha
        refine iteT ⟨_, rfl, a, _, 0, vx, rfl, rfl, hs, rfl, _, _, rfl, rfl, vx, x, 0, 11, rfl, hx, _, rfl, ?_⟩
        by_cases h1 : isNum x 0 11 = true
        · rw [h1]
          refine iteT ⟨_, rfl, a, _, 1, vy, rfl, rfl, hs, rfl, _, _, rfl, rfl, vy, y, 0, 7, rfl, hy, ?_⟩
          have e : isNext (.tuple [x, y]) = isNum y 0 7 := by simp [isNext, h1]
          rw [e] at k; exact k
        · have h1' : isNum x 0 11 = false := by simpa using h1
          rw [h1']
          have e : isNext (.tuple [x, y]) = false := by simp [isNext, h1']
          rw [e] at k; exact iteF k
      · have h2' : isTup d 2 = false := by simpa using h2
        rw [h2']
        rw [isNext_no (dp_notN hd hv) h2'] at k
        exact iteF k
end
end GX
namespace GX
open PySem PySem.Spec PyProof.Rows L2 LamX
section
variable {P : Program} {w : World} {K : PySem.W.Frag} {mg : Str → Option Value} {base : Heap} {T : List (Addr × Str)}
theorem sc_holds : FnScope ["thing", "least", "_", "turn", "begin", "size", "after"] ["thing", "least"] (defScope s_holds) := ⟨rfl, rfl, rfl, by decide +kernel, rfl, by decide +kernel, by decide +kernel⟩
theorem ok_holds {f : Addr} {fd : FuncData} (F : Fun K "_holds" "_holds" s_holds f fd) (B : Blt mg) (C : CoF mg) (cN : Cal P w K mg base CX0 "is_number" ["thing", "low", "high"] 1 (spNum K)) (cX : Cal P w K mg base CX0 "is_next" ["thing"] 2 (spNext K)) : FnOk P w K mg base CX0 3 f fd ["thing", "least"] (spHolds K) := by
  refine F.ok sc_holds (fun vs H Q E h => ?_) (fun cdv A outer s H vs Q E hr h => ?_)
  · obtain ⟨v, ds, l, rfl, _⟩ := h
    rfl
  · obtain ⟨v, ds, least, rfl, hd, k⟩ := h
    have nd := sc_holds.nd
    refine ⟨_, pss_cons (ps_if (pt_cmpR op_ne (pe_callB call_len_seq (by rfl) B.len PySem.boot_len (pa_cons (pv 0) pa_nil)) pe_int (nomark _)) (pss_one (ps_ret pe_bl)) pss_nil)
      (pss_cons (ps_asg (pv 0) (pg_tup (by rfl) (pgs_cons (pg_name (i := 2) nd rfl (.inl rfl)) (pgs_cons (pg_name (i := 3) nd rfl (.inl rfl)) (pgs_cons (pg_name (i := 4) nd rfl (.inl rfl)) (pgs_cons (pg_name (i := 5) nd rfl (.inl rfl)) (pgs_cons (pg_name (i := 6) nd rfl (.inl rfl)) pgs_nil)))))))
      (pss_cons (ps_if (PW.pt (pw_or (pt_not (pt_val (pe_cal cN (hr.mono (by decide)) (pa_cons (pv 3) (pa_cons pe_int (pa_cons (pe_const C.turn) pa_nil))))))
          (pw_or1 (pt_not (pt_val (pe_cal cN (hr.mono (by decide)) (pa_cons (pv 4) (pa_cons pe_int (pa_cons (pe_const C.cells) pa_nil)))))))) ) (pss_one (ps_ret pe_bl)) pss_nil)
      (pss_one (ps_ret (pe_and (pe_cal cN (hr.mono (by decide)) (pa_cons (pv 5) (pa_cons (pv 1) (pa_cons (pe_op op_sub (pe_const C.cells) (pv 4)) pa_nil)))) (pe_one (pe_cal cX hr (pa_cons (pv 6) pa_nil)))))))), ?_⟩
    obtain ⟨a, xs, rfl, hs, ha⟩ := dp_tup hd
    refine ⟨_, rfl, a, xs, rfl, .inr hs, rfl, _, rfl, ?_⟩
    have hl := dpAll_len ha
    by_cases h5 : ds.length = 5
    · have e5 : (!decide (V.int (xs.length : Int) = V.int 5)) = false := by simp [hl, h5]
      rw [e5]
      obtain ⟨d0, d1, d2, d3, d4, rfl⟩ := len5 h5
      obtain ⟨v0, v1, v2, v3, v4, rfl, h0, h1, h2, h3, h4⟩ := dpAll5 ha
      refine iteF ⟨_, rfl, a, _, rfl, hs, rfl, _, _, rfl, _, _, rfl, _, _, rfl, _, _, rfl, _, _, rfl, rfl, ?_⟩
      refine ⟨v1, rfl, v1, d1, 0, 99, rfl, h1, _, rfl, ?_⟩
      by_cases q1 : isNum d1 0 99 = true
      · rw [q1]
        refine iteF ⟨v2, rfl, v2, d2, 0, 24, rfl, h2, _, rfl, ?_⟩
        by_cases q2 : isNum d2 0 24 = true
        · rw [q2]
          obtain ⟨bi, rfl, _, _⟩ := isNum_int q2
          obtain rfl := dp_int h2
          refine iteF ⟨v3, rfl, _, rfl, _, rfl, _, _, rfl, rfl, v3, d3, least, 24 - bi, rfl, h3, _, rfl, ?_⟩
          by_cases q3 : isNum d3 least (24 - bi) = true
          · rw [q3]
            refine iteT ⟨v4, rfl, v4, d4, rfl, h4, ?_⟩
            have e : holds [d0, d1, .int bi, d3, d4] least = isNext d4 := by simp [holds, q1, q2, q3]
            rw [e] at k; exact k
          · have q3' : isNum d3 least (24 - bi) = false := by simpa using q3
            rw [q3']
            have e : holds [d0, d1, .int bi, d3, d4] least = false := by simp [holds, q3']
            rw [e] at k; exact iteF k
        · have q2' : isNum d2 0 24 = false := by simpa using q2
          rw [q2']
          have e : holds [d0, d1, d2, d3, d4] least = false := by simp [holds, q2']
          rw [e] at k; exact iteT k
      · have q1' : isNum d1 0 99 = false := by simpa using q1
        rw [q1']
        have e : holds [d0, d1, d2, d3, d4] least = false := by simp [holds, q1']
        rw [e] at k; exact iteT k
    · have e5 : (!decide (V.int (xs.length : Int) = V.int 5)) = true := by
        simp [hl]; omega
      rw [e5]
      rw [holds_no h5] at k
      exact iteT k
end
end GX
namespace GX
open PySem PySem.Spec PyProof.Rows L2 LamX
section
variable {P : Program} {w : World} {K : PySem.W.Frag} {mg : Str → Option Value} {base : Heap} {T : List (Addr × Str)}
theorem sc_is_slot : FnScope ["thing"] ["thing"] (defScope s_is_slot) := ⟨rfl, rfl, rfl, by decide +kernel, rfl, by decide +kernel, by decide +kernel⟩
theorem ok_is_slot {f : Addr} {fd : FuncData} (F : Fun K "is_slot" "is_slot" s_is_slot f fd) (B : Blt mg) (C : CoF mg) (cN : Cal P w K mg base CX0 "is_number" ["thing", "low", "high"] 1 (spNum K)) (cH : Cal P w K mg base CX0 "_holds" ["thing", "least"] 3 (spHolds K)) : FnOk P w K mg base CX0 4 f fd ["thing"] (spSlot K) := by
  refine F.ok sc_is_slot (fun vs H Q E h => ?_) (fun cdv A outer s H vs Q E hr h => ?_)
  · obtain ⟨v, d, rfl, _⟩ := h
    rfl
  · obtain ⟨v, d, rfl, hd, hs, k⟩ := h
    refine ⟨_, pss_cons (ps_if (PW.pt (pw_or (pt_not (pt_val (pe_callB call_isi (by rfl) B.isi k_isi (pa_cons (pv 0) (pa_cons (pe_bltn (v := .ty "tuple") (by rfl) B.tuple boot_tuple rfl) pa_nil))))) (pw_or1 (pt_not (pt_truth (pv 0) (by intro _; rfl)))))) (pss_one (ps_ret pe_bl)) pss_nil)
      (pss_cons (ps_if (pt_cmpR (op_eqD hr.units) (pe_ix ix_tup (pv 0) pe_int (fun _ _ => rfl)) pe_str (nomark _))
        (pss_one (ps_ret (pe_and (pe_cmpR op_eq (pe_callB call_len_seq (by rfl) B.len PySem.boot_len (pa_cons (pv 0) pa_nil)) pe_int (nomark _)) (pe_one (pe_cal cN (hr.mono (by decide)) (pa_cons (pe_ix ix_tup (pv 0) pe_int (fun _ _ => rfl)) (pa_cons pe_int (pa_cons (pe_const C.spent) pa_nil)))))))) pss_nil)
      (pss_cons (ps_if (pt_cmpR (op_eqD hr.units) (pe_ix ix_tup (pv 0) pe_int (fun _ _ => rfl)) pe_str (nomark _)) (pss_one (ps_ret (pe_cal cH hr (pa_cons (pv 0) (pa_cons pe_int pa_nil))))) pss_nil)
      (pss_one (ps_ret (pe_and (pe_cmpR (op_eqD hr.units) (pe_ix ix_tup (pv 0) pe_int (fun _ _ => rfl)) pe_str (nomark _)) (pe_one (pe_cal cH hr (pa_cons (pv 0) (pa_cons pe_int pa_nil))))))))), ?_⟩
    refine t_isi rfl hd kit_tuple ⟨_, rfl, ?_⟩
    by_cases ht : isT "tuple" d = true
    · rw [ht]
      obtain ⟨ds, rfl⟩ := isT_tuple ht
      obtain ⟨a, xs, rfl, hS, ha⟩ := dp_tup hd
      refine iteF ⟨_, rfl, _, .inr (.inl ⟨xs, hS, rfl⟩), ?_⟩
      cases ds with
      | nil =>
        obtain rfl := dpAll0 ha
        exact iteT k
      | cons d0 r =>
        obtain ⟨v0, xr, rfl, h0, har⟩ := dpAllC ha
        have s0 : SeqAt.shaped d0 = true := shaped_mem hs List.mem_cons_self
        refine iteF ⟨_, rfl, a, _, 0, v0, rfl, rfl, hS, atI0, d0, .str "free", h0, .str _, s0, sh_free, _, rfl, ?_⟩
        by_cases e1 : PyData.eqv d0 (.str "free") = true
        · rw [e1]
          refine iteT ⟨_, rfl, a, _, rfl, .inr hS, rfl, _, rfl, ?_⟩
          by_cases hl : (v0 :: xr).length = 2
          · obtain ⟨v1, rfl⟩ := len2 hl
            obtain ⟨d1, rfl, h1⟩ := dpAll1 har
            refine iteT ⟨_, rfl, a, _, 1, v1, rfl, rfl, hS, rfl, v1, d1, 0, 100, rfl, h1, ?_⟩
            have e : isSlot (.tuple [d0, d1]) = isNum d1 0 100 := by simp [isSlot, e1]
            rw [e] at k; exact k
          · have eL : decide (V.int ((v0 :: xr).length : Int) = V.int 2) = false := by
              simp only [decide_eq_false_iff_not, V.int.injEq]
              omega
            rw [eL]
            have e : isSlot (.tuple (d0 :: r)) = false := by
              rw [isSlot_free e1]
              intro d1 e
              rw [e] at har
              have := dpAll_len har
              simp at this
              simp [this] at hl
            rw [e] at k; exact iteF k
        · have e1' : PyData.eqv d0 (.str "free") = false := by simpa using e1
          rw [e1']
          refine iteF ⟨_, rfl, a, _, 0, v0, rfl, rfl, hS, atI0, d0, .str "row", h0, .str _, s0, sh_row, _, rfl, ?_⟩
          by_cases e2 : PyData.eqv d0 (.str "row") = true
          · rw [e2]
            refine iteT ⟨_, rfl, _, d0 :: r, 0, rfl, hd, ?_⟩
            have e : isSlot (.tuple (d0 :: r)) = holds (d0 :: r) 0 := by simp [isSlot, e1', e2]
            rw [e] at k; exact k
          · have e2' : PyData.eqv d0 (.str "row") = false := by simpa using e2
            rw [e2']
            refine iteF ⟨_, rfl, a, _, 0, v0, rfl, rfl, hS, atI0, d0, .str "part", h0, .str _, s0, sh_part, _, rfl, ?_⟩
            have e : isSlot (.tuple (d0 :: r)) = (PyData.eqv d0 (.str "part") && holds (d0 :: r) 1) := by simp [isSlot, e1', e2']
            rw [e] at k
            by_cases e3 : PyData.eqv d0 (.str "part") = true
            · rw [e3] at k ⊢
              exact iteT ⟨_, rfl, _, d0 :: r, 1, rfl, hd, k⟩
            · have e3' : PyData.eqv d0 (.str "part") = false := by simpa using e3
              rw [e3'] at k ⊢
              exact iteF k
    · have ht' : isT "tuple" d = false := by simpa using ht
      rw [ht']
      rw [isSlot_no ht'] at k
      exact iteT k
end
end GX
namespace GX
open PySem PySem.Spec PyProof.Rows L2 LamX
section
variable {P : Program} {w : World} {K : PySem.W.Frag} {mg : Str → Option Value} {base : Heap} {T : List (Addr × Str)}
theorem pi_lt {X : Cx} {tg l : Expr} {tl : TE} (hl : PE X l tl) : PI X tg l (fun σ H R => tl σ H fun x H1 => ∃ a, x = .ref a ∧ ((∃ xs, SqL X.K H1 a xs ∧ R (Itl X.K a) H1) ∨ (∃ xs, SqT X.K H1 a xs ∧ R (Itt X.K a) H1))) := by
  refine ⟨fun pins s σ H R I h => ?_⟩
  refine thn (hl.run pins s σ H _ I h) fun v s1 ⟨x, H1, I1, r1, q1⟩ => ?_
  obtain ⟨a, e, q1⟩ := q1
  subst e
  cases r1
  rcases q1 with ⟨xs, hq, q⟩ | ⟨xs, hq, q⟩
  · obtain ⟨its, rv, p, hz⟩ := I1.list hq
    refine wpAny_pyIter_list p.isList ?_
    refine ⟨s1.heap.objs.size, [s1.heap.objs.size], _, _, H1, rfl, I1.kept (t' := s1.toks) fun b o e => Heap.get?_push_of_some _ e, turn_list a _, ⟨_, Heap.get?_push_size _ rfl, rfl, rfl⟩, fun b hb => ?_, q⟩
    have e : b = s1.heap.objs.size := by simpa using hb
    subst e
    exact I1.fpOk (Nat.le_refl _) (I1.hok.fresh (Nat.le_refl _))
  · obtain ⟨its, rv, p, hz⟩ := I1.tuple hq
    refine wpAny_pyIter_tuple (show s1.heap.IsTuple a its.toArray from p) ?_
    refine ⟨s1.heap.objs.size, [s1.heap.objs.size], _, _, H1, rfl, I1.kept (t' := s1.toks) fun b o e => Heap.get?_push_of_some _ e, turn_tuple a _, ⟨_, Heap.get?_push_size _ rfl, rfl, rfl⟩, fun b hb => ?_, q⟩
    have e : b = s1.heap.objs.size := by simpa using hb
    subst e
    exact I1.fpOk (Nat.le_refl _) (I1.hok.fresh (Nat.le_refl _))
theorem sc_are_values : FnScope ["things"] ["things"] (defScope s_are_values) := ⟨rfl, rfl, rfl, by decide +kernel, rfl, by decide +kernel, by decide +kernel⟩
theorem ok_are_values {f c Pt : Addr} {fd : FuncData} (F : FunC K "are_values" "are_values" s_are_values f fd c) (TB : LamX.TabB base mg c Pt) (hT : ∀ p ∈ T, p.1 ≠ Pt) (B : Blt mg) (C : CoF mg) (cN : Cal P w K mg base CX0 "is_number" ["thing", "low", "high"] 1 (spNum K)) : FnOk P w K mg base CX0 3 f fd ["things"] (spVals K T Pt) := by
  refine F.ok sc_are_values (fun vs H Q E h => ?_) (fun A outer s H vs Q E hr h => ?_)
  · obtain ⟨v, d, ds, rfl, _⟩ := h
    rfl
  · obtain ⟨v, d, ds, rfl, hd, hds, hG, k⟩ := h
    refine ⟨_, pss_one (ps_ret (pe_allG (Ng := ["thing"]) (cap := []) hr (by rfl) B.all TB (by rfl) (gs_by (N := ["things"]) (sc := defScope s_are_values) (by decide +kernel)) (pi_lt (pv 0)) (fun code s H fp pn => pe_cal cN (room_gen (hr.mono (by decide))) (pa_cons (pv 0) (pa_cons pe_int (pa_cons (pe_const C.cell) pa_nil)))))), ?_⟩
    refine ⟨v, rfl, ?_⟩
    rcases hds with rfl | rfl
    · obtain ⟨a, xs, rfl, hs, ha⟩ := dp_lst hd
      refine ⟨a, rfl, .inl ⟨xs, hs, hG, fun H2 tb => ?_⟩⟩
      have xx := XX.tabbed hT hG tb
      exact all_dpL (T := T) (g := fun z => isNum z 0 99) (xx.sqL hs) (Dp.xxAll xx _ _ ha) (fun d v H' W hm hv x1 hW => ⟨v, rfl, v, d, 0, 99, rfl, hv, hW H' (XX.refl H')⟩) fun H' x1 => k H' (xx.trans x1)
    · obtain ⟨a, xs, rfl, hs, ha⟩ := dp_tup hd
      refine ⟨a, rfl, .inr ⟨xs, hs, hG, fun H2 tb => ?_⟩⟩
      have xx := XX.tabbed hT hG tb
      exact all_dpT (T := T) (g := fun z => isNum z 0 99) (xx.sqT hs) (Dp.xxAll xx _ _ ha) (fun d v H' W hm hv x1 hW => ⟨v, rfl, v, d, 0, 99, rfl, hv, hW H' (XX.refl H')⟩) fun H' x1 => k H' (xx.trans x1)
theorem sc_are_cells : FnScope ["thing"] ["thing"] (defScope s_are_cells) := ⟨rfl, rfl, rfl, by decide +kernel, rfl, by decide +kernel, by decide +kernel⟩
theorem ok_are_cells {f Pt : Addr} {fd : FuncData} (F : L2.Fun K "are_cells" "are_cells" s_are_cells f fd) (C : CoF mg) (cV : Cal P w K mg base CX0 "are_values" ["things"] 3 (spVals K T Pt)) (cT : Cal P w K mg base CX0 "is_tuple" ["thing", "many"] 1 (spTup K)) : FnOk P w K mg base CX0 4 f fd ["thing"] (spCells K T Pt) := by
  refine F.ok sc_are_cells (fun vs H Q E h => ?_) (fun cdv A outer s H vs Q E hr h => ?_)
  · obtain ⟨v, d, rfl, _⟩ := h
    rfl
  · obtain ⟨v, d, rfl, hd, hG, k⟩ := h
    refine ⟨_, pss_one (ps_ret (pe_and (pe_cal cT (hr.mono (by decide)) (pa_cons (pv 0) (pa_cons (pe_const C.cells) pa_nil))) (pe_one (pe_cal cV hr (pa_cons (pv 0) pa_nil))))), ?_⟩
    refine ⟨v, rfl, v, d, 24, rfl, hd, _, rfl, ?_⟩
    cases q : isTup d 24 with
    | true =>
      obtain ⟨ds, rfl, hl⟩ := isTupN (n := 24) q
      refine iteT ⟨v, rfl, v, _, ds, rfl, hd, .inr rfl, hG, fun H' x => ?_⟩
      have := k H' x
      have e : isCells (.tuple ds) = valsB ds := by simp [isCells, hl]
      rw [e] at this; exact this
    | false =>
      have e : isCells d = false := by
        unfold isCells
        split
        · rename_i ds
          have h' : ¬ ((ds.length : Nat) : Int) = 24 := by simpa [isTup] using q
          have : ¬ ds.length = 24 := by omega
          simp [this]
        · rfl
      have := k H (XX.refl H)
      rw [e] at this
      exact iteF this
theorem sc_is_frame : FnScope ["thing", "slots", "cells"] ["thing"] (defScope s_is_frame) := ⟨rfl, rfl, rfl, by decide +kernel, rfl, by decide +kernel, by decide +kernel⟩
theorem ok_is_frame {f Pt : Addr} {fd : FuncData} (F : L2.Fun K "is_frame" "is_frame" s_is_frame f fd) (C : CoF mg) (cC : Cal P w K mg base CX0 "are_cells" ["thing"] 4 (spCells K T Pt)) (cT : Cal P w K mg base CX0 "is_tuple" ["thing", "many"] 1 (spTup K)) : FnOk P w K mg base CX0 5 f fd ["thing"] (spFrame K T Pt) := by
  refine F.ok sc_is_frame (fun vs H Q E h => ?_) (fun cdv A outer s H vs Q E hr h => ?_)
  · obtain ⟨v, d, rfl, _⟩ := h
    rfl
  · obtain ⟨v, d, rfl, hd, hG, k⟩ := h
    have nd := sc_is_frame.nd
    refine ⟨_, pss_cons (ps_if (pt_not (pt_val (pe_cal cT (hr.mono (by decide)) (pa_cons (pv 0) (pa_cons pe_int pa_nil))))) (pss_one (ps_ret pe_bl)) pss_nil)
      (pss_cons (ps_asg (pv 0) (pg_tup (by rfl) (pgs_cons (pg_name (i := 1) nd rfl (.inl rfl)) (pgs_cons (pg_name (i := 2) nd rfl (.inl rfl)) pgs_nil))))
      (pss_one (ps_ret (pe_and (pe_cal cT (hr.mono (by decide)) (pa_cons (pv 1) (pa_cons (pe_const C.slots) pa_nil))) (pe_one (pe_cal cC hr (pa_cons (pv 2) pa_nil))))))), ?_⟩
    refine ⟨v, rfl, v, d, 2, rfl, hd, _, rfl, ?_⟩
    by_cases h2 : isTup d 2 = true
    · rw [h2]
      obtain ⟨x, y, rfl⟩ := isTup2 h2
      obtain ⟨a, xs, rfl, hs, ha⟩ := dp_tup hd
      obtain ⟨vx, vy, rfl, hx, hy⟩ := dpAll2 ha
      refine iteF ⟨_, rfl, a, _, rfl, hs, rfl, _, _, rfl, _, _, rfl, rfl, ?_⟩
      refine ⟨vx, rfl, vx, x, 8, rfl, hx, _, rfl, ?_⟩
      by_cases q1 : isTup x 8 = true
      · rw [q1]
        refine iteT ⟨vy, rfl, vy, y, rfl, hy, hG, fun H' x1 => ?_⟩
        have := k H' x1
        obtain ⟨sx, rfl, l8⟩ := isTupN (n := 8) q1
        have e : isFrame (.tuple [.tuple sx, y]) = isCells y := by
          cases y with
          | tuple c => simp [isFrame, isCells, valsB, l8]
          | _ => rfl
        rw [e] at this; exact this
      · have q1' : isTup x 8 = false := by simpa using q1
        rw [q1']
        have := k H (XX.refl H)
        rw [isFrame_no1 q1'] at this
        exact iteF this
    · have h2' : isTup d 2 = false := by simpa using h2
      rw [h2']
      have := k H (XX.refl H)
      rw [isFrame_no h2'] at this
      exact iteT this
theorem sc_is_page : FnScope ["thing"] ["thing"] (defScope s_is_page) := ⟨rfl, rfl, rfl, by decide +kernel, rfl, by decide +kernel, by decide +kernel⟩
theorem ok_is_page {f c P1 P2 : Addr} {fd : FuncData} (F : FunC K "is_page" "is_page" s_is_page f fd c) (TB : LamX.TabB base mg c P2) (hT : ∀ p ∈ T, p.1 ≠ P2) (B : Blt mg) (cF : Cal P w K mg base CX0 "is_frame" ["thing"] 5 (spFrame K T P1)) (cS : Cal P w K mg base CX0 "is_slot" ["thing"] 4 (spSlot K)) : FnOk P w K mg base CX0 6 f fd ["thing"] (spPage K T P1 P2) := by
  refine F.ok sc_is_page (fun vs H Q E h => ?_) (fun A outer s H vs Q E hr h => ?_)
  · obtain ⟨v, d, rfl, _⟩ := h
    rfl
  · obtain ⟨v, d, rfl, hd, hsh, hG1, hG2, k⟩ := h
    refine ⟨_, pss_one (ps_ret (pe_and (pe_cal cF (hr.mono (by decide)) (pa_cons (pv 0) pa_nil))
      (pe_one (pe_allG (Ng := ["slot"]) (cap := []) hr (by rfl) B.all TB (by rfl) (gs_by (N := ["thing"]) (sc := defScope s_is_page) (by decide +kernel)) (pi_tup (pe_ix ix_tup (pv 0) pe_int (fun _ _ => rfl))) (fun code s H fp pn => pe_cal cS (room_gen hr) (pa_cons (pv 0) pa_nil)))))), ?_⟩
    refine ⟨v, rfl, v, d, rfl, hd, hG1, fun H1 x1 => ⟨_, rfl, ?_⟩⟩
    by_cases h1 : isFrame d = true
    · rw [h1]
      obtain ⟨sx, sy, rfl⟩ := isFrame_shape h1
      obtain ⟨a, xs, rfl, hs, ha⟩ := dp_tup hd
      obtain ⟨vx, vy, rfl, hx, hy⟩ := dpAll2 ha
      obtain ⟨b, ys, rfl, hsx, hax⟩ := dp_tup hx
      refine iteT ⟨_, rfl, a, _, 0, _, rfl, rfl, x1.sqT hs, rfl, b, rfl, ⟨ys, x1.sqT hsx⟩, x1.tabG _ hG2, fun H2 tb => ?_⟩
      have xx := x1.trans (XX.tabbed hT (x1.tabG _ hG2) tb)
      have shx : SeqAt.shaped (.tuple sx) = true := shaped_mem hsh List.mem_cons_self
      refine all_dpT (T := T) (g := isSlot) (xx.sqT hsx) (Dp.xxAll xx _ _ hax) (fun d v H' W hm hv x1 hW => ⟨v, rfl, v, d, rfl, hv, shaped_mem shx hm, hW H' (XX.refl H')⟩) fun H' x2 => ?_
      have e : isPage (.tuple [.tuple sx, .tuple sy]) = sx.all isSlot := by simp [isPage, h1]
      have := k H' (xx.trans x2)
      rw [e] at this; exact this
    · have h1' : isFrame d = false := by simpa using h1
      rw [h1']
      have := k H1 x1
      rw [isPage_no h1'] at this
      exact iteF this
end
end GX
set_option maxHeartbeats 4000000
/-! from what the top leaves to the law's promise -/
namespace GX
open PySem PySem.Spec PyProof.Rows L2 LamX
section
variable {P : Program} {w : World} {K : PySem.W.Frag} {mg : Str → Option Value} {base : Heap}
theorem fun_of {x q : Str} {st : Stmt} {f : Addr} {fd : FuncData} (F : FunD K x q (defArgs st) (defBody st) (defScope st) [] [] f fd) : L2.Fun K x q st f fd := by
  obtain ⟨oc, od, dV, kV, doc, pm, an, cdv, ct, osl, e, lk, hcd, hD, _⟩ := F.ex
  have hd : dV = .none := by
    rcases hD with ⟨_, z⟩ | ⟨z, _⟩
    · exact z
    · exact absurd rfl z
  subst hd
  exact ⟨⟨oc, od, kV, doc, pm, an, cdv, ct, osl, e, lk, hcd⟩, F.kp⟩
theorem func_of {x q : Str} {st : Stmt} {p : He.Defn} {fd : FuncData} (F : FunD K x q (defArgs st) (defBody st) (defScope st) [] [] (He.fAd K p) fd) : FunC K x q st (He.fAd K p) fd (He.codeOf K p) := by
  obtain ⟨oc, od, dV, kV, doc, pm, an, cdv, ct, osl, e, lk, hcd, hD, _⟩ := F.ex
  have hd : dV = .none := by
    rcases hD with ⟨_, z⟩ | ⟨z, _⟩
    · exact z
    · exact absurd rfl z
  subst hd
  obtain ⟨c, ec⟩ := He.codeIn_ref hcd
  subst ec
  subst e
  have e2 := He.codeOf_eq (p := p) (c := c) lk rfl
  rw [e2]
  exact ⟨⟨oc, od, kV, doc, pm, an, ct, osl, rfl, lk, hcd⟩, F.kp⟩
theorem err_of {h : Heap} {x : Str} (X : K.In h) (G : h.Ns mainGlobals mg) (g : (He.Fa.glo x).ok K = true) (e : (He.Fa.exc x).ok K = true) : ErrC K mg x (He.ga K x) := by
  obtain ⟨e1, e2, e3, e4⟩ := He.exc_ok e
  exact ⟨He.glo_ok X G g, e1, e2, e3, e4⟩
abbrev csH (K : PySem.W.Frag) : Fin 9 → Addr := fun j => He.ga K (wordsH.getD j.1 "")
theorem eis_of {i : Fin 9} {x : Str} (hx : wordsH.getD i.1 "" = x) (hm : (He.Fa.exm x "PageError" true).ok K = true) (h : (excB K (He.ga K (wordsH.getD i.1 "")) && (kitB9 K i.1 && decide (PySem.W.kitOne K (.ref (He.ga K (wordsH.getD i.1 ""))) (.type "ValueError") = some true))) = true) :
    EIs K (He.ga K "PageError") (csH K) i (He.ga K x) := by
  obtain ⟨h1, h⟩ := He.ba h
  obtain ⟨h2, h3⟩ := He.ba h
  rw [hx] at h1 h3
  refine ⟨excB_ok h1, He.exm_ok hm, fun j => ?_, of_decide_eq_true h3⟩
  have q := of_decide_eq_true (List.all_eq_true.mp h2 j.1 (List.mem_range.mpr j.2))
  rw [hx] at q
  refine q.trans (congrArg some ?_)
  by_cases e : j = i
  · subst e; simp
  · have e' : ¬ j.1 = i.1 := fun z => e (Fin.ext z)
    rw [decide_eq_false e, decide_eq_false e']
end
theorem law_at {w : World} {K : PySem.W.Frag} {mg : Str → Option Value} {h : Heap} {fa : Addr} (X : K.In h) (G : h.Ns mainGlobals mg) (hfa : mg "law" = some (.ref fa)) (c : He.SaysX faH fnH [] tfH exH w h K) :
    LawAtS PySem.Challenge.rw_slotpages_k02_disks w K CX0 11 63 "_law_script" mg fa h := by
  have cd := c.t.d
  obtain ⟨d0, D0⟩ := cd.def_ 0 (d := dG "is_number" s_is_number) rfl
  obtain ⟨d1, D1⟩ := cd.def_ 1 (d := dG "is_tuple" s_is_tuple) rfl
  obtain ⟨d2, D2⟩ := cd.def_ 2 (d := dG "is_next" s_is_next) rfl
  obtain ⟨d3, D3⟩ := cd.def_ 3 (d := dG "_holds" s_holds) rfl
  obtain ⟨d4, D4⟩ := cd.def_ 4 (d := dG "is_slot" s_is_slot) rfl
  obtain ⟨d5, D5⟩ := cd.def_ 5 (d := dG "are_values" s_are_values) rfl
  obtain ⟨d6, D6⟩ := cd.def_ 6 (d := dG "are_cells" s_are_cells) rfl
  obtain ⟨d7, D7⟩ := cd.def_ 7 (d := dG "is_frame" s_is_frame) rfl
  obtain ⟨d8, D8⟩ := cd.def_ 8 (d := dG "is_page" s_is_page) rfl
  obtain ⟨d9, D9⟩ := cd.def_ 9 (d := dG "fresh_page" s_fresh_page) rfl
  obtain ⟨d10, D10⟩ := cd.def_ 10 (d := dM "Disk" "__init__" "Disk.__init__" s_DInit) rfl
  obtain ⟨d11, D11⟩ := cd.def_ 11 (d := dM "Disk" "pages" "Disk.pages" s_DPages) rfl
  obtain ⟨d12, D12⟩ := cd.def_ 12 (d := dM "Disk" "writes" "Disk.writes" s_DWrites) rfl
  obtain ⟨d13, D13⟩ := cd.def_ 13 (d := dM "Disk" "page" "Disk.page" s_DPage) rfl
  obtain ⟨d14, D14⟩ := cd.def_ 14 (d := dM "Disk" "write" "Disk.write" s_DWrite) rfl
  obtain ⟨d15, D15⟩ := cd.def_ 15 (d := dM "Disk" "arm" "Disk.arm" s_DArm) rfl
  obtain ⟨d16, D16⟩ := cd.def_ 16 (d := dM "Disk" "again" "Disk.again" s_DAgain) rfl
  obtain ⟨d17, D17⟩ := cd.def_ 17 (d := dM "Disk" "_check" "Disk._check" s_DCheck) rfl
  obtain ⟨d18, D18⟩ := cd.def_ 18 (d := dM "Disk" "_count_down" "Disk._count_down" s_DCount) rfl
  obtain ⟨d19, D19⟩ := cd.def_ 19 (d := dG "_law_begun" s_begun) rfl
  obtain ⟨d20, D20⟩ := cd.def_ 20 (d := dG "_law_take" s_take) rfl
  obtain ⟨d21, D21⟩ := cd.def_ 21 (d := dG "_law_alike" s_alike) rfl
  obtain ⟨d22, D22⟩ := cd.def_ 22 (d := dG "_law_told" s_told) rfl
  obtain ⟨d23, D23⟩ := cd.def_ 23 (d := dG "_law_all" s_all) rfl
  obtain ⟨d24, D24⟩ := cd.def_ 24 (d := dG "_law_page" s_lpage) rfl
  obtain ⟨d25, D25⟩ := cd.def_ 25 (d := dG "_law_turn" s_turn) rfl
  obtain ⟨d26, D26⟩ := cd.def_ 26 (d := dG "law" s_law) rfl
  have g : ∀ {x : Str}, He.Fa.glo x ∈ faH → mg x = some (.ref (He.ga K x)) := fun hx => He.glo_ok X G (cd.facts hx)
  have fr : ∀ {x : Str}, He.Fa.free x ∈ faH → mg x = none := fun hx => He.free_ok X G (cd.facts hx)
  have it : ∀ {x : Str} {i : Int}, He.Fa.int x i ∈ faH → ∃ t, mg x = some (.int i t) := fun hx => He.int_ok X G (cd.facts hx)
  have er : ∀ {x : Str}, He.Fa.glo x ∈ faH → He.Fa.exc x ∈ faH → ErrC K mg x (He.ga K x) := fun h1 h2 => err_of X G (cd.facts h1) (cd.facts h2)
  have me : ∀ {m : Str}, He.Fa.meth "Disk" m ∈ faH → Meth K (He.ga K "Disk") m (He.ma K (He.ga K "Disk") m) := fun hx => He.meth_ok (cd.facts hx)
  have na : ∀ {m : Str}, He.Fa.noat "Disk" m ∈ faH → NoAttr K (He.ga K "Disk") m := fun hx => He.noat_ok (cd.facts hx)
  have e := hfa.symm.trans (g (x := "law") (by simp [faH]))
  cases e
  obtain ⟨x1, x2⟩ := He.ba c.more
  have eN : EIs K (He.ga K "PageError") (csH K) 6 (He.ga K "NoPage") := eis_of (i := 6) rfl (cd.facts (by simp [faH])) (List.all_eq_true.mp x1 6 (by simp))
  have eS : EIs K (He.ga K "PageError") (csH K) 8 (He.ga K "Stopped") := eis_of (i := 8) rfl (cd.facts (by simp [faH])) (List.all_eq_true.mp x1 8 (by simp))
  have nodup := of_decide_eq_true x2
  have n12 : (He.cT K ("are_values", none)).2 ≠ (He.cT K ("is_page", none)).2 := fun z => by simp [tfH, z] at nodup
  have n13 : (He.cT K ("are_values", none)).2 ≠ (He.cT K ("_law_turn", none)).2 := fun z => by simp [tfH, z] at nodup
  have n14 : (He.cT K ("are_values", none)).2 ≠ (He.cT K ("law", none)).2 := fun z => by simp [tfH, z] at nodup
  have n23 : (He.cT K ("is_page", none)).2 ≠ (He.cT K ("_law_turn", none)).2 := fun z => by simp [tfH, z] at nodup
  have n24 : (He.cT K ("is_page", none)).2 ≠ (He.cT K ("law", none)).2 := fun z => by simp [tfH, z] at nodup
  have n34 : (He.cT K ("_law_turn", none)).2 ≠ (He.cT K ("law", none)).2 := fun z => by simp [tfH, z] at nodup
  let T : List (Addr × Str) := [((He.cT K ("_law_turn", none)).2, turnQ), ((He.cT K ("law", none)).2, lawQ)]
  have hT1 : ∀ p ∈ T, p.1 ≠ (He.cT K ("are_values", none)).2 := fun p hp => by
    rcases List.mem_cons.mp hp with z | z
    · rw [z]; exact Ne.symm n13
    · rw [List.mem_singleton.mp z]; exact Ne.symm n14
  have hT2 : ∀ p ∈ T, p.1 ≠ (He.cT K ("is_page", none)).2 := fun p hp => by
    rcases List.mem_cons.mp hp with z | z
    · rw [z]; exact Ne.symm n23
    · rw [List.mem_singleton.mp z]; exact Ne.symm n24
  have huT : ∀ p ∈ T, p.1 = (He.cT K ("_law_turn", none)).2 → p.2 = turnQ := fun p hp e => by
    rcases List.mem_cons.mp hp with z | z
    · rw [z]
    · rw [List.mem_singleton.mp z] at e; exact absurd e (Ne.symm n34)
  have huL : ∀ p ∈ T, p.1 = (He.cT K ("law", none)).2 → p.2 = lawQ := fun p hp e => by
    rcases List.mem_cons.mp hp with z | z
    · rw [z] at e; exact absurd e n34
    · rw [List.mem_singleton.mp z]
  have B : Blt mg := ⟨fr (by simp [faH]), fr (by simp [faH]), fr (by simp [faH]), fr (by simp [faH]), fr (by simp [faH]), fr (by simp [faH]), fr (by simp [faH]), fr (by simp [faH])⟩
  have Co : CoF mg := ⟨it (by simp [faH]), it (by simp [faH]), it (by simp [faH]), it (by simp [faH]), it (by simp [faH]), it (by simp [faH])⟩
  have Dt : DTx K mg (He.ga K "Disk") (He.ga K "BadDisk") (He.ga K "NoPage") (He.ga K "BadPage") (He.ga K "BadCount") (He.ga K "Stopped") :=
    ⟨He.cls_ok (cd.facts (by simp [faH])), na (by simp [faH]), na (by simp [faH]), na (by simp [faH]), na (by simp [faH]), er (by simp [faH]) (by simp [faH]), er (by simp [faH]) (by simp [faH]), er (by simp [faH]) (by simp [faH]), er (by simp [faH]) (by simp [faH]), er (by simp [faH]) (by simp [faH]), it (by simp [faH]), it (by simp [faH]), it (by simp [faH])⟩
  have Et : ETab mg (He.ga K "PageError") (csH K) := ⟨g (by simp [faH]), g (by simp [faH]), g (by simp [faH]), g (by simp [faH]), g (by simp [faH]), g (by simp [faH]), g (by simp [faH]), g (by simp [faH]), g (by simp [faH]), g (by simp [faH])⟩
  refine ⟨d26, tfH.map (He.cT K), spLaw K T (He.cT K ("are_values", none)).2 (He.cT K ("is_page", none)).2, ?_, ?_, ?_, ?_, ?_, ?_⟩
  · intro p hp
    obtain ⟨q, hq, e⟩ := List.mem_map.mp hp
    rw [← e]; exact c.empty q hq
  · intro p hp
    obtain ⟨q, hq, e⟩ := List.mem_map.mp hp
    rw [← e]; exact c.out q hq
  · intro p hp
    obtain ⟨q, hq, e⟩ := List.mem_map.mp hp
    rw [← e]; exact PySem.W.codeHd_of_K X (c.hd q hq)
  · exact fun s v => FunD.bindsA (ps := ["_law_script"]) D26 (fun _ _ _ _ _ _ us hl => match us, hl with | [_], _ => rfl) s [v] rfl
  · intro H a ns hl _ hH hS
    have tb : ∀ q ∈ tfH, H (He.cT K q).2 = some (.tbl #[]) := fun q hq => hH _ (List.mem_map.mpr ⟨q, hq, rfl⟩)
    refine ⟨a, ns, rfl, hS, hl, fun p hp => ?_, ⟨#[], tb _ (by simp [tfH]), True.intro⟩, ⟨#[], tb _ (by simp [tfH]), True.intro⟩, fun _ => rfl⟩
    rcases List.mem_cons.mp hp with z | z
    · rw [z]; exact ⟨#[], tb _ (by simp [tfH]), True.intro, fun pos cv hc => by cases hc⟩
    · rw [List.mem_singleton.mp z]; exact ⟨#[], tb _ (by simp [tfH]), True.intro, fun pos cv hc => by cases hc⟩
  · intro base KB GB hTB
    have TB : ∀ {q}, q ∈ tfH → LamX.TabB base mg (He.codeOf K q) (He.cT K q).2 := fun {q} hq => hTB _ (List.mem_map.mpr ⟨q, hq, rfl⟩)
    have cNum : Cal (PySem.Challenge.rw_slotpages_k02_disks).prog w K mg base CX0 "is_number" ["thing", "low", "high"] 1 (spNum K) := ⟨_, d0, ok_is_number (fun_of D0) B, g (by simp [faH]), D0.kp, D0.bindsN fun _ _ _ _ _ _ us hl => match us, hl with | [_, _, _], _ => rfl⟩
    have cTup : Cal (PySem.Challenge.rw_slotpages_k02_disks).prog w K mg base CX0 "is_tuple" ["thing", "many"] 1 (spTup K) := ⟨_, d1, ok_is_tuple (fun_of D1) B, g (by simp [faH]), D1.kp, D1.bindsN fun _ _ _ _ _ _ us hl => match us, hl with | [_, _], _ => rfl⟩
    have cNext : Cal (PySem.Challenge.rw_slotpages_k02_disks).prog w K mg base CX0 "is_next" ["thing"] 2 (spNext K) := ⟨_, d2, ok_is_next (fun_of D2) Co cNum cTup, g (by simp [faH]), D2.kp, D2.bindsN fun _ _ _ _ _ _ us hl => match us, hl with | [_], _ => rfl⟩
    have cHolds : Cal (PySem.Challenge.rw_slotpages_k02_disks).prog w K mg base CX0 "_holds" ["thing", "least"] 3 (spHolds K) := ⟨_, d3, ok_holds (fun_of D3) B Co cNum cNext, g (by simp [faH]), D3.kp, D3.bindsN fun _ _ _ _ _ _ us hl => match us, hl with | [_, _], _ => rfl⟩
    have cSlot : Cal (PySem.Challenge.rw_slotpages_k02_disks).prog w K mg base CX0 "is_slot" ["thing"] 4 (spSlot K) := ⟨_, d4, ok_is_slot (fun_of D4) B Co cNum cHolds, g (by simp [faH]), D4.kp, D4.bindsN fun _ _ _ _ _ _ us hl => match us, hl with | [_], _ => rfl⟩
    have cVals : Cal (PySem.Challenge.rw_slotpages_k02_disks).prog w K mg base CX0 "are_values" ["things"] 3 (spVals K T (He.cT K ("are_values", none)).2) := ⟨_, d5, ok_are_values (func_of (p := ("are_values", none)) D5) (TB (q := ("are_values", none)) (by simp [tfH])) hT1 B Co cNum, g (by simp [faH]), D5.kp, D5.bindsN fun _ _ _ _ _ _ us hl => match us, hl with | [_], _ => rfl⟩
    have cCells : Cal (PySem.Challenge.rw_slotpages_k02_disks).prog w K mg base CX0 "are_cells" ["thing"] 4 (spCells K T (He.cT K ("are_values", none)).2) := ⟨_, d6, ok_are_cells (fun_of D6) Co cVals cTup, g (by simp [faH]), D6.kp, D6.bindsN fun _ _ _ _ _ _ us hl => match us, hl with | [_], _ => rfl⟩
    have cFrame : Cal (PySem.Challenge.rw_slotpages_k02_disks).prog w K mg base CX0 "is_frame" ["thing"] 5 (spFrame K T (He.cT K ("are_values", none)).2) := ⟨_, d7, ok_is_frame (fun_of D7) Co cCells cTup, g (by simp [faH]), D7.kp, D7.bindsN fun _ _ _ _ _ _ us hl => match us, hl with | [_], _ => rfl⟩
    have cPage : Cal (PySem.Challenge.rw_slotpages_k02_disks).prog w K mg base CX0 "is_page" ["thing"] 6 (spPage K T (He.cT K ("are_values", none)).2 (He.cT K ("is_page", none)).2) := ⟨_, d8, ok_is_page (func_of (p := ("is_page", none)) D8) (TB (q := ("is_page", none)) (by simp [tfH])) hT2 B cFrame cSlot, g (by simp [faH]), D8.kp, D8.bindsN fun _ _ _ _ _ _ us hl => match us, hl with | [_], _ => rfl⟩
    have cFresh : Cal (PySem.Challenge.rw_slotpages_k02_disks).prog w K mg base CX0 "fresh_page" [] 1 (spFresh K T) := ⟨_, d9, ok_fresh_page (fun_of D9) Co, g (by simp [faH]), D9.kp, D9.bindsN fun _ _ _ _ _ _ us hl => match us, hl with | [], _ => rfl⟩
    have cI : Ctor (PySem.Challenge.rw_slotpages_k02_disks).prog w K mg base "Disk" (He.ga K "Disk") ["self", "many"] 2 (spDInit K T (He.ga K "Disk") (He.ga K "BadDisk")) := ⟨g (by simp [faH]), _, d10, ⟨He.mkr_ok (cd.facts (by simp [faH])), ok_DInit (fun_of D10) Dt B cNum cFresh, D10.bindsN fun _ _ _ _ _ _ us hl => match us, hl with | [_, _], _ => rfl⟩⟩
    have mPages : Met (PySem.Challenge.rw_slotpages_k02_disks).prog w K mg base CX0 (He.ga K "Disk") "pages" ["self"] 1 (spDPages K (He.ga K "Disk")) := ⟨_, d11, ok_DPages (fun_of D11) Dt B, me (by simp [faH]), D11.bindsN fun _ _ _ _ _ _ us hl => match us, hl with | [_], _ => rfl⟩
    have mWrites : Met (PySem.Challenge.rw_slotpages_k02_disks).prog w K mg base CX0 (He.ga K "Disk") "writes" ["self"] 1 (spDWrites K (He.ga K "Disk")) := ⟨_, d12, ok_DWrites (fun_of D12) Dt, me (by simp [faH]), D12.bindsN fun _ _ _ _ _ _ us hl => match us, hl with | [_], _ => rfl⟩
    have mCheck : Met (PySem.Challenge.rw_slotpages_k02_disks).prog w K mg base (L2.CX _ w) (He.ga K "Disk") "_check" ["self", "number"] 2 (spDCheck K (He.ga K "Disk") (He.ga K "NoPage") (He.ga K "Stopped")) := ⟨_, d17, ok_DCheck (fun_of D17) Dt B cNum, me (by simp [faH]), D17.bindsN fun _ _ _ _ _ _ us hl => match us, hl with | [_, _], _ => rfl⟩
    have mCount : Met (PySem.Challenge.rw_slotpages_k02_disks).prog w K mg base (L2.CX _ w) (He.ga K "Disk") "_count_down" ["self"] 1 (spDCount K T (He.ga K "Disk") (He.ga K "Stopped")) := ⟨_, d18, ok_DCount (fun_of D18) Dt, me (by simp [faH]), D18.bindsN fun _ _ _ _ _ _ us hl => match us, hl with | [_], _ => rfl⟩
    have mPage : Met (PySem.Challenge.rw_slotpages_k02_disks).prog w K mg base (L2.CX _ w) (He.ga K "Disk") "page" ["self", "number"] 3 (spDPage K (He.ga K "Disk") (He.ga K "NoPage") (He.ga K "Stopped")) := ⟨_, d13, ok_DPage (fun_of D13) Dt mCheck, me (by simp [faH]), D13.bindsN fun _ _ _ _ _ _ us hl => match us, hl with | [_, _], _ => rfl⟩
    have mWrite : Met (PySem.Challenge.rw_slotpages_k02_disks).prog w K mg base (L2.CX _ w) (He.ga K "Disk") "write" ["self", "number", "page"] 7 (spDWrite K T (He.cT K ("are_values", none)).2 (He.cT K ("is_page", none)).2 (He.ga K "Disk") (He.ga K "NoPage") (He.ga K "BadPage") (He.ga K "Stopped")) := ⟨_, d14, ok_DWrite (fun_of D14) Dt mCheck mCount cPage, me (by simp [faH]), D14.bindsN fun _ _ _ _ _ _ us hl => match us, hl with | [_, _, _], _ => rfl⟩
    have mArm : Met (PySem.Challenge.rw_slotpages_k02_disks).prog w K mg base (L2.CX _ w) (He.ga K "Disk") "arm" ["self", "count"] 2 (spDArm K T (He.ga K "Disk") (He.ga K "BadCount")) := ⟨_, d15, ok_DArm (fun_of D15) Dt cNum, me (by simp [faH]), D15.bindsN fun _ _ _ _ _ _ us hl => match us, hl with | [_, _], _ => rfl⟩
    have mAgain : Met (PySem.Challenge.rw_slotpages_k02_disks).prog w K mg base CX0 (He.ga K "Disk") "again" ["self"] 1 (spDAgain K T (He.ga K "Disk")) := ⟨_, d16, ok_DAgain (fun_of D16) Dt, me (by simp [faH]), D16.bindsN fun _ _ _ _ _ _ us hl => match us, hl with | [_], _ => rfl⟩
    have cBegun : Cal (PySem.Challenge.rw_slotpages_k02_disks).prog w K mg base CX0 "_law_begun" ["_law_script"] 1 (spBegun K T) := ⟨_, d19, ok_begun (fun_of D19) B, g (by simp [faH]), D19.kp, D19.bindsN fun _ _ _ _ _ _ us hl => match us, hl with | [_], _ => rfl⟩
    have cTake : Cal (PySem.Challenge.rw_slotpages_k02_disks).prog w K mg base CX0 "_law_take" ["_law_box", "_law_many"] 1 (spTake T) := ⟨_, d20, ok_take (fun_of D20), g (by simp [faH]), D20.kp, D20.bindsN fun _ _ _ _ _ _ us hl => match us, hl with | [_, _], _ => rfl⟩
    have bAl : Binds K d21 ["_law_found", "_law_due"] [] := D21.bindsN fun _ _ _ _ _ _ us hl => match us, hl with | [_, _], _ => rfl
    have cAl : ∀ n, Cal (PySem.Challenge.rw_slotpages_k02_disks).prog w K mg base CX0 "_law_alike" ["_law_found", "_law_due"] n (spAl K n) := fun n => ⟨_, d21, ok_alike (fun_of D21) B (fr (by simp [faH])) (g (by simp [faH])) bAl n, g (by simp [faH]), D21.kp, bAl⟩
    have cTold : Cal (PySem.Challenge.rw_slotpages_k02_disks).prog w K mg base CX0 "_law_told" ["_law_work"] 9 (spTold _ w K mg base T (He.ga K "PageError") (csH K) 8) := ⟨_, d22, ok_told (fun_of D22) B (fr (by simp [faH])) Et, g (by simp [faH]), D22.kp, D22.bindsN fun _ _ _ _ _ _ us hl => match us, hl with | [_], _ => rfl⟩
    have cAll : Cal (PySem.Challenge.rw_slotpages_k02_disks).prog w K mg base CX0 "_law_all" ["_law_works", "_law_due"] 10 (spAll _ w K mg base T (He.ga K "PageError") (csH K) 8) := ⟨_, d23, ok_all (k2 := 9) (fun_of D23) (cAl 2) cTold (by decide) (by decide), g (by simp [faH]), D23.kp, D23.bindsN fun _ _ _ _ _ _ us hl => match us, hl with | [_, _], _ => rfl⟩
    have cLPage : Cal (PySem.Challenge.rw_slotpages_k02_disks).prog w K mg base CX0 "_law_page" ["_law_box"] 2 (spLPage K T) := ⟨_, d24, ok_lpage (fun_of D24) B (fr (by simp [faH])) (fr (by simp [faH])) cTake, g (by simp [faH]), D24.kp, D24.bindsN fun _ _ _ _ _ _ us hl => match us, hl with | [_], _ => rfl⟩
    have cTurn : Cal (PySem.Challenge.rw_slotpages_k02_disks).prog w K mg base CX0 "_law_turn" ["_law_box", "_law_disk", "_law_own"] 10 (spTurn K T (He.ga K "Disk") (He.cT K ("are_values", none)).2 (He.cT K ("is_page", none)).2) := ⟨_, d25, ok_turn (func_of (p := ("_law_turn", none)) D25) (TB (q := ("_law_turn", none)) (by simp [tfH])) (by simp [T]) huT Dt B eN eS cTake cLPage (cAl 5) cTold mArm mAgain mPage mWrite, g (by simp [faH]), D25.kp, D25.bindsN fun _ _ _ _ _ _ us hl => match us, hl with | [_, _, _], _ => rfl⟩
    exact ok_law (func_of (p := ("law", none)) D26) (TB (q := ("law", none)) (by simp [tfH])) (by simp [T]) huL Dt B eN eS cBegun cTake cI cTurn (cAl 2) (cAl 6) cAll mPages mWrites mAgain mPage mWrite
end GX
open PySem PySem.W PySem.Calls PyProof.Rows
set_option maxRecDepth 100000
set_option maxHeartbeats 0 in
theorem PySem.Challenge.cw_slotpages_k02_disks_holds : PySem.Challenge.rw_slotpages_k02_disks.Holds := by
  w_on; o_law
  refine HandSHeadRun.head_any (r := OpenLaw.row PySem.Challenge.rw_slotpages_k02_disks) (q := view (OpenLaw.row PySem.Challenge.rw_slotpages_k02_disks).prog [40]) (H := GX.hkH) (ob := GX.obH) (M := 20000) (loose := GX.looseH) (d := HandSHeadRun.topDef (OpenLaw.row PySem.Challenge.rw_slotpages_k02_disks).prog 40) (kwd := []) GX.obH_eq
    (by kernel_rfl) (fun s => by kernel_rfl) GX.runH (by kernel_rfl) (by kernel_rfl) (by kernel_rfl) (by rfl) (by first | assumption | decide +kernel) (by decide +kernel) ⟨rfl, rfl, rfl, rfl, rfl, by decide +kernel⟩ ?hw ?hc
  case hw => w_witness2
  case hc =>
    refine LamX.walk_ofTsE (l := PySem.Challenge.rw_slotpages_k02_disks) (n := 63) (k := 11) (x := "_law_script") (CX := fun _ => L2.CX0) rfl (by decide) (by kernel_rfl) ⟨rfl, by decide, by decide⟩ ?F (fun _ _ _ _ _ z => z)
    intro w mg fa h Y G hmg0
    obtain ⟨K, KX, c⟩ := Y
    have hmg : mg ("law" : PySem.Str) = some (.ref fa) := by
      have e : (HandSHeadRun.topDef (OpenLaw.row PySem.Challenge.rw_slotpages_k02_disks).prog 40).name = ("law" : PySem.Str) := by kernel_rfl
      rw [← e]
      exact hmg0
    exact ⟨K, KX, GX.law_at KX G hmg c⟩

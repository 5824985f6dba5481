import PyProof.Rows.All
import Wide.All
import OpenK.AllK
import Wide.FinOn
import KE.KStateDown
import KE.KSuper
import HandS.ForExc
import HandS.ExcIs
import HandS.ExcInit
import HandS.ExcField
import HandS.Defaults
import HandS.Head0
import HandS.Head1
import HandS.Head2
import HandS.HeadHook1
import HandS.HeadHook2
import HandS.HeadHook3
import HandS.HeadHook4
import HandS.ForMost
import HandS.GenList
import HandS.AnyAll
import HandS.Lambda
import KE.KDflt
import HandS.IsInst
import HandS.TupMul
import HandS.Comp
import HandS.Wide
import HandS.Exc
import HandS.ExcOwn
import HandS.WordsExc
import HandS.List
import HandS.Deep
import HandS.Text
import HandS.StrMore
import HandS.Codes
import KE.KUnpackStar
import HandS.Walk
import HandS.Iter
import KE.GoesMore
import KE.GoesZip
import HandS.FStr
import KE.KExcSuper
import HandS.More
import HandS.Star
import HandS.Dict
import HandS.TupAny
import HandS.Small
import HandS.EndTab
import HandS.HeadWalk
import PySem.Challenge.RW_slotpages_k19_steps_written_and_refused
set_option Elab.async false
set_option linter.all false
set_option maxRecDepth 100000
set_option maxHeartbeats 2000000
namespace GX
open PySem PySem.Spec PyProof.Rows L2 GenW
/-- the code of a generator expression's loop has the frame of its names over what runs -/
theorem over_comp {A : Around} {elt : Expr} {gs : List Comprehension} {sc : Scope} {p : Pos} {it acc : Value} {env : Env} : A.over (.compLoop (.GeneratorExp elt gs sc p) 0 it acc env) [] = A.deeper env := by rfl
theorem over_compS {A : Around} {elt : Expr} {gs : List Comprehension} {sc : Scope} {p : Pos} {it acc : Value} {env : Env} : A.over (.compStart (.GeneratorExp elt gs sc p) 0 it acc env) [] = A.deeper env := by rfl
/-- the names of a generator expression: x its own, then captured ones, whose places in the maker's names are at cap -/
structure GS (N Ng : List Str) (sc scope : Scope) (x : Str) (cap : List Nat) : Prop where
  kind : scope.kind = .function
  co : scope.isCoroutine = false
  cell : ∀ y ∈ scope.names, y.2 ≠ .cell
  dot : scope.names.lookup (".0" : Str) = some NameKind.local
  loc : scope.names.lookup x = some .local
  free : ∀ y ∈ scope.names, y.2 = .free → sc.names.lookup y.1 = some .cell ∨ sc.names.lookup y.1 = some .free
  nd : Ng.Nodup
  hd : Ng[0]? = some x
  tl : ∀ (j : Nat) (y : Str), Ng[j + 1]? = some y → scope.names.lookup y = some .free ∧ ∃ i, cap[j]? = some i ∧ N[i]? = some y
  len : Ng.length = cap.length + 1
/-- the generator's slots at the start -/
def gSt (σ : L2.St) (cap : List Nat) : L2.St := none :: cap.map fun i => (σ[i]?).join
abbrev gEnv (X : Cx) (scope : Scope) (C : Addr) (code : Value) : Env := genEnv scope (cloFrom X.env.cells scope.names []) C code builtinsNs X.env
/-- the context in which the generator's element is reckoned: s, H when its frame is made -/
def gCx (X : Cx) (Ng : List Str) (scope : Scope) (code : Value) (s : Shared) (H : Hp) (fp : List Addr) (pn : List (Addr × Obj)) : Cx where
  prog := X.prog
  w := X.w
  K := X.K
  mg := X.mg
  base := X.base
  A := X.A.in1.in1.deeper (gEnv X scope s.heap.objs.size code)
  N := Ng
  s_0 := s
  H_0 := H
  env := gEnv X scope s.heap.objs.size code
  outer := X.stack
  stack := gEnv X scope s.heap.objs.size code :: X.stack
  ex := fp
  fn := fun _ => false
  calm := true
  pn := pn
  xe := fun _ _ => False
section
variable {X : Cx} {pins : List (Addr × Obj)} {σ : L2.St} {H : Hp} {s : Shared} {N Ng : List Str} {scope : Scope} {x : Str} {cap : List Nat}
theorem GS.has (S : GS X.N Ng X.env.scope scope x cap) (ok : X.Ok) : ∀ y ∈ scope.names, y.2 = .free → ∃ c, X.env.cells.lookup y.1 = some c := fun y hy e => by
  rcases S.free y hy e with k | k
  · exact ok.has _ (.inl k)
  · exact ok.has _ (.inr k)
theorem gStart {fp : List Addr} {code : Value} {it : Value} {a : Addr} {go : Obj} {h1 : Heap} {g' : Array GenState} {tk : Nat} (I : Inv X pins σ H s) (hd : X.A.handled = none) (S : GS X.N Ng X.env.scope scope x cap)
    (hfp : ∀ b ∈ fp, FpOk X pins H b ∧ b < s.heap.objs.size) (hns : h1.Ns s.heap.objs.size (fun y => if y = ".0" then some it else none)) (hk : ∀ b o, s.heap.get? b = some o → h1.get? b = some o)
    (ha : h1.get? a = some go) (ha2 : s.heap.objs.size < a) (hgo : ∀ v, go.data ≠ .cell v) (hg : AllBare g') :
    Inv (gCx X Ng scope code s H fp [(a, go)]) [] (gSt σ cap) H { s with heap := h1, gens := g', toks := tk } := by
  have hfree := S.has I.ok
  have cm : ∀ {y c}, (cloFrom X.env.cells scope.names []).lookup y = some c → X.env.cells.lookup y = some c := fun {y c} e => by
    rcases cloFrom_mem (PySem.mem_of_lookup e) with hm | ⟨q1, q2⟩
    · cases hm
    · obtain ⟨c1, hc⟩ := hfree _ q1 rfl
      have hc : X.env.cells.lookup y = some c1 := hc
      rw [hc] at q2
      have e2 : c = c1 := q2
      rw [e2]; exact hc
  have look : ∀ {y}, scope.names.lookup y = some .free → ∃ c, (cloFrom X.env.cells scope.names []).lookup y = some c := fun {y} hl =>
    mem_lookup (cloFrom_has (cells := X.env.cells) (acc := []) (PySem.mem_of_lookup hl))
  have neC : ∀ b o, s.heap.get? b = some o → b ≠ s.heap.objs.size := fun b o e => Nat.ne_of_lt (Heap.lt_size e)
  have ltc : ∀ {y c}, X.env.cells.lookup y = some c → c < s.heap.objs.size := fun {y c} e => by
    obtain ⟨v, z⟩ := I.cell y c e
    exact z.lt
  have stkLt : ∀ b ∈ frs X.stack, b < s.heap.objs.size := fun b hb => by
    obtain ⟨_, o, ho, _⟩ := I.stack.mem hb
    exact Heap.lt_size ho
  have cellK : ∀ {c : Addr} {v : Option Value}, s.heap.IsCell c v → h1.IsCell c v := fun {c v} ⟨o, ho, hd⟩ => ⟨o, hk _ _ ho, hd⟩
  refine ⟨⟨I.ok.mod, S.kind, I.ok.glob, rfl, Nat.le_refl _, fun y z c e1 e2 => I.ok.inj y z c (cm e1) (cm e2), fun y hy => ?_, fun y c z _ => absurd (show false = true from z) Bool.false_ne_true, fun _ => hd, Around.frames_deeper (A := X.A.in1.in1) I.ok.frames, .inr ⟨rfl, rfl⟩,
      fun b hb => ⟨Nat.ne_of_lt (hfp b hb).2, fun y c e => (hfp b hb).1.2.2.2.2.1 y c (cm e)⟩, I.bs, Nat.le_trans I.ok.bsz I.sz, fun b o e hb => ?_, fun b hb hm => ?_, I.stack, I.stkFree⟩,
    rfl, hg, Un.kept hk, ⟨_, hns, fun i y v e1 e2 e3 => ?_⟩, fun y c e => ?_, I.hok.fresh (Nat.le_refl _), fun y c e => I.freeC y c (cm e), fun p hp => ?_, I.hok.kept hk, ?_⟩
  · have hy : scope.names.lookup y = some .cell ∨ scope.names.lookup y = some .free := hy
    rcases hy with hy | hy
    · exact absurd rfl (S.cell _ (PySem.mem_of_lookup hy))
    · exact look hy
  · rcases (hfp b hb).1.2.2.2.1 with z | z
    · exact I.ok.noex b o e z
    · exact absurd (Nat.lt_of_lt_of_le (Heap.lt_size (I.ok.bs b o e).1) z) (Nat.lt_irrefl _)
  · rcases List.mem_cons.mp (I.stkSub b hm) with z | z
    · exact (hfp b hb).1.2.1 z
    · exact (hfp b hb).1.2.2.1 z
  · have e1 : Ng[i]? = some y := e1
    have e2 : (gSt σ cap)[i]? = some (some v) := e2
    cases i with
    | zero => exact absurd e2 (by simp [gSt])
    | succ j =>
      obtain ⟨hf, i', hc, hn⟩ := S.tl j y e1
      have e2' : (cap.map fun i => (σ[i]?).join)[j]? = some (some v) := by simpa [gSt] using e2
      rw [List.getElem?_map, hc] at e2'
      have e2'' : (σ[i']?).join = some v := by simpa using e2'
      have e4 : σ[i']? = some (some v) := by
        cases q : σ[i']? with
        | none => rw [q] at e2''; cases e2''
        | some w => rw [q] at e2''; rw [← e2'']; rfl
      have hv : X.env.kindOf y = some .cell ∨ X.env.kindOf y = some .free := S.free (y, .free) (PySem.mem_of_lookup hf) rfl
      obtain ⟨m, hn', hl⟩ := I.loc
      obtain ⟨u, r, q⟩ := hl i' y v hn e4 (.inr hv)
      refine ⟨u, r, .inr ⟨.inr hf, ?_⟩⟩
      rcases q with ⟨k, _⟩ | ⟨_, c, ec, z⟩
      · rcases hv with w | w <;> (rw [k] at w; cases w)
      · obtain ⟨c', ec'⟩ := look hf
        have q := cm ec'
        rw [ec] at q
        cases q
        exact ⟨c, ec', cellK z⟩
  · obtain ⟨v, z⟩ := I.cell y c (cm e)
    exact ⟨v, cellK z⟩
  · have hp' : p ∈ [(a, go)] := by simpa [gCx] using hp
    rw [List.mem_singleton.mp hp']
    exact ⟨ha, I.hok.fresh (Nat.le_of_lt ha2), Nat.ne_of_gt ha2, fun hm => absurd (Nat.lt_trans ha2 (stkLt a hm)) (Nat.lt_irrefl _), hgo⟩
  · show (gSt σ cap).length = Ng.length
    rw [S.len]; simp [gSt]
end
end GX
namespace GX
open PySem PySem.Spec PyProof.Rows L2 GenW
/-- a value is handed out: Y tells what is wanted of it; the run goes on where Pv holds -/
def GY (Z : Cx) (τ : L2.St) (fp : List Addr) (tn : Nat → Heap → Prop) (N : Nat) (PG : Nat → List (Addr × Obj) → Prop) (Pv : Nat → Hp → Prop) (Y : Nat → V → Hp → Prop) : Protocol := fun n _ v s kap =>
  ∃ (i : Nat) (y : V) (H : Hp) (pg : List (Addr × Obj)), i + 1 + n = N ∧ RelV y v ∧ PG i pg ∧ Inv Z pg τ H s ∧ tn (i + 1) s.heap ∧ (∀ b ∈ fp, FpOk Z pg H b) ∧ Y i y H ∧
    ∀ (s' : Shared) (pg' : List (Addr × Obj)), PG (i + 1) pg' → Inv Z pg' τ H s' → tn (i + 1) s'.heap → (∀ b ∈ fp, FpOk Z pg' H b) → Pv (i + 1) H → kap (.send .none) s'
/-- the run's end -/
def GF (Z : Cx) (τ : L2.St) (PG : Nat → List (Addr × Obj) → Prop) (Qe : Nat → Hp → Prop) (i : Nat) (s : Shared) : Prop := ∃ (H : Hp) (pg : List (Addr × Obj)), PG i pg ∧ Inv Z pg τ H s ∧ Qe i H
def GR (Z : Cx) (τ : L2.St) (N : Nat) (PG : Nat → List (Addr × Obj) → Prop) (Qe : Nat → Hp → Prop) : GenEnd := fun n _ r s => ((r = .ok (.ret .none) ∨ r = .ok .next) ∧ ∃ i, i + n = N ∧ GF Z τ PG Qe i s) ∨ ∃ e, r = .error e ∧ False
/-- what a turn asks -/
def Turns (J : It) (N : Nat) (τ : L2.St) (te : TE) (Pv : Nat → Hp → Prop) (Y : Nat → V → Hp → Prop) (Qe : Nat → Hp → Prop) : Prop :=
  ∀ i H, Pv i H → (J.stop i H ∧ Qe i H) ∨ (J.go i H ∧ i < N ∧ ∀ v H', J.yld i H v H' → te (τ.set 0 (some v)) H' fun y H2 => Y i y H2)
theorem gLoop {Z : Cx} {B : Around} {it : Addr} {fp : List Addr} {tn : Nat → Heap → Prop} {J : It} {elt iter : Expr} {x : Str} {px gpos : Pos} {scope : Scope} {τ : L2.St} {te : TE} {N : Nat} {Pv : Nat → Hp → Prop} {Y : Nat → V → Hp → Prop} {Qe : Nat → Hp → Prop} {PG : Nat → List (Addr × Obj) → Prop}
    (hA : B.deeper Z.env = Z.A) (hcalm : Z.calm = true) (T : Turn Z.prog Z.w Z.K (.Name x px) J fp it tn) (hel : PE Z elt te) (hxe : ∀ e s, ¬ Z.xe e s)
    (hnd : Z.N.Nodup) (h0 : Z.N[0]? = some x) (hl : Z.env.scope.names.lookup x = some .local) (hco : Z.env.scope.isCoroutine = false) (hτ : τ[0]? = some none) (turn : Turns J N τ te Pv Y Qe) :
    ∀ (n i : Nat) (s₀ s : Shared) (H : Hp) (pg : List (Addr × Obj)), i + n = N → PG i pg → Inv Z pg τ H s → tn i s.heap → (∀ b ∈ fp, FpOk Z pg H b) → Pv i H →
      Seg (model Z.prog Z.w) B (GR Z τ N PG Qe) (GY Z τ fp tn N PG Pv Y) n s₀ (.compLoop (.GeneratorExp elt [⟨.Name x px, iter, [], 0⟩] scope gpos) 0 (.ref it) .none Z.env)
        ((model Z.prog Z.w).den (.compLoop (.GeneratorExp elt [⟨.Name x px, iter, [], 0⟩] scope gpos) 0 (.ref it) .none Z.env)) [] s := by
  intro n
  induction n with
  | zero =>
    intro i s₀ s H pg hin hpg I ht hf hp
    show Seg _ B _ _ _ s₀ _ ((compTurn (.GeneratorExp elt [⟨.Name x px, iter, [], 0⟩] scope gpos) 0 (.ref it) .none Z.env).onRaise (leaving Z.env)) [] s
    rw [compTurn_gen, Sem.onRaise_eq_wrap]
    refine seg_bind_wrap (wpAny_standAt ?_)
    rcases turn i H hp with ⟨stop, qe⟩ | ⟨_, hi, _⟩
    · refine seg_bind_wrap ?_
      rw [over_comp, hA]
      refine thn (T.done Z rfl rfl rfl hcalm i pg s τ H _ I hf ht stop) fun r s4 hr => ?_
      obtain ⟨er, I4⟩ := hr
      subst er
      exact seg_end (.ok .next) (.inl ⟨.inr rfl, i, hin, H, pg, hpg, I4, qe⟩)
    · omega
  | succ n ih =>
    intro i s₀ s H pg hin hpg I ht hf hp
    show Seg _ B _ _ _ s₀ _ ((compTurn (.GeneratorExp elt [⟨.Name x px, iter, [], 0⟩] scope gpos) 0 (.ref it) .none Z.env).onRaise (leaving Z.env)) [] s
    rw [compTurn_gen, Sem.onRaise_eq_wrap]
    refine seg_bind_wrap (wpAny_standAt ?_)
    rcases turn i H hp with ⟨stop, qe⟩ | ⟨go, hi, step⟩
    · refine seg_bind_wrap ?_
      rw [over_comp, hA]
      refine thn (T.done Z rfl rfl rfl hcalm i pg s τ H _ I hf ht stop) fun r s4 hr => ?_
      obtain ⟨er, I4⟩ := hr
      subst er
      exact seg_end (.ok .next) (.inl ⟨.inr rfl, i, hin, H, pg, hpg, I4, qe⟩)
    · refine seg_bind_wrap ?_
      rw [over_comp, hA]
      refine thn (T.item Z rfl rfl rfl hcalm i pg s τ H _ I hf ht go) fun r s4 hr => ?_
      obtain ⟨u, er, h4⟩ := hr
      subst er
      refine seg_bind_wrap ?_
      rw [over_comp, hA]
      refine thn h4 fun _ s5 h5 => ?_
      obtain ⟨y, H5, I5, r5, y5, st5, fr5⟩ := h5
      have stat : ∀ b ∈ fp, FpOk Z pg H5 b := fun b hb => ⟨fr5 b hb, (hf b hb).2⟩
      have I5' := I5.pinned stat (T.obj _ _ st5)
      refine seg_bind_wrap ?_
      rw [over_comp, hA]
      refine wpAny_assign_Name (store_ok I5' hnd h0 (.inl hl) r5 (fun s6 I6 => ?_) (.inr hl))
      refine seg_bind_wrap ?_
      rw [List.forIn_nil]
      refine wpAny_pure ?_
      simp only [if_true]
      have hy : ∀ v, yieldOut Z.env v = yieldValue v := fun v => by simp only [yieldOut, hco, Bool.false_eq_true, if_false]
      simp only [hy]
      rw [Sem.bind_eq_wrap', Sem.bind_eq_wrap', Sem.wrap_wrap, Sem.wrap_wrap]
      refine seg_wrap ?_
      rw [over_comp, hA]
      refine wpAny_mono (hel.run _ s6 _ H5 _ I6 (step y H5 y5)) (fun z s7 h7 => ?_) fun e s7 z => absurd z (hxe e s7)
      obtain ⟨v7, H7, I7, r7, q7⟩ := h7
      have pin7 : ∀ b ∈ fp, ∀ o, s5.heap.get? b = some o → s7.heap.get? b = some o ∧ H7 b = none := fun b hb o e => by
        have q := I7.pin (b, o) (List.mem_append_right _ (List.mem_append_right _ (mem_pinsAt hb e)))
        exact ⟨q.1, q.2.1⟩
      have t7 : tn (i + 1) s7.heap := T.keep _ _ _ st5 fun b hb o e => (pin7 b hb o e).1
      have f7 : ∀ b ∈ fp, FpOk Z pg H7 b := fun b hb => by
        obtain ⟨o, e, _⟩ := T.obj _ _ st5 b hb
        exact ⟨(pin7 b hb o e).2, (hf b hb).2⟩
      have J7 : Inv Z pg τ H7 s7 := (I7.unpinned).weak (by rw [List.length_set]) fun j v e => by
        by_cases hj : j = 0
        · subst hj
          rw [hτ] at e
          cases e
        · rw [List.getElem?_set_ne (Ne.symm hj)]
          exact e
      refine seg_at (seg_yield rfl rfl rfl ?_)
      refine ⟨i, v7, H7, pg, by omega, r7, hpg, J7, t7, f7, q7, fun s8 pg8 g8 I8 t8 f8 p8 => ?_⟩
      exact seg_again rfl (ih (i + 1) s8 s8 H7 pg8 (by omega) g8 I8 t8 f8 p8)
/-- .. from the start -/
theorem gBegin {Z : Cx} {B : Around} {it : Addr} {fp : List Addr} {tn : Nat → Heap → Prop} {J : It} {elt iter : Expr} {x : Str} {px gpos : Pos} {scope : Scope} {τ : L2.St} {te : TE} {N : Nat} {Pv : Nat → Hp → Prop} {Y : Nat → V → Hp → Prop} {Qe : Nat → Hp → Prop} {PG : Nat → List (Addr × Obj) → Prop}
    (hA : B.deeper Z.env = Z.A) (hcalm : Z.calm = true) (T : Turn Z.prog Z.w Z.K (.Name x px) J fp it tn) (hel : PE Z elt te) (hxe : ∀ e s, ¬ Z.xe e s)
    (hnd : Z.N.Nodup) (h0 : Z.N[0]? = some x) (hl : Z.env.scope.names.lookup x = some .local) (hco : Z.env.scope.isCoroutine = false) (hτ : τ[0]? = some none) (turn : Turns J N τ te Pv Y Qe)
    (s₀ s : Shared) (H : Hp) (pg : List (Addr × Obj)) (hpg : PG 0 pg) (I : Inv Z pg τ H s) (ht : tn 0 s.heap) (hf : ∀ b ∈ fp, FpOk Z pg H b) (hp : Pv 0 H) :
    Seg (model Z.prog Z.w) B (GR Z τ N PG Qe) (GY Z τ fp tn N PG Pv Y) N s₀ (.compStart (.GeneratorExp elt [⟨.Name x px, iter, [], 0⟩] scope gpos) 0 (.ref it) .none Z.env)
        ((model Z.prog Z.w).den (.compStart (.GeneratorExp elt [⟨.Name x px, iter, [], 0⟩] scope gpos) 0 (.ref it) .none Z.env)) [] s := by
  have loop := gLoop (iter := iter) (scope := scope) (gpos := gpos) hA hcalm T hel hxe hnd h0 hl hco hτ turn N 0 s₀ s H pg (Nat.zero_add _) hpg I ht hf hp
  show Seg _ B _ _ _ s₀ _ ((compStart (.GeneratorExp elt [⟨.Name x px, iter, [], 0⟩] scope gpos) 0 (.ref it) .none Z.env).onRaise (leaving Z.env)) [] s
  unfold compStart
  rw [Sem.onRaise_eq_wrap]
  show Seg _ B _ _ _ s₀ _ ((ask >>= _).wrap _ _ _ _) [] s
  refine seg_bind_wrap (wpAny_askSetting ?_)
  split
  · exact seg_again rfl loop
  · first
      | exact seg_bind_wrap (wpAny_rule (seg_bind_wrap (wpAny_standAt (seg_bind_wrap (T.self _ 0 s _ _ ht (seg_again rfl loop))))))
      | (refine seg_bind_wrap (wpAny_rule ?_); show Seg _ B _ _ _ s₀ _ ((standAt iter.pos >>= _).wrap _ _ _ _) [] s; exact seg_bind_wrap (wpAny_standAt (seg_bind_wrap (T.self _ 0 s _ _ ht (seg_again rfl loop)))))
end GX
namespace GX
open PySem PySem.Spec PyProof.Rows L2 GenW
theorem inv_gens {X : Cx} {pins : List (Addr × Obj)} {σ : L2.St} {H : Hp} {s : Shared} {g' : Array GenState} (I : Inv X pins σ H s) (hg : AllBare g') : Inv X pins σ H { s with gens := g' } :=
  ⟨I.ok, I.os, hg, I.base, I.loc, I.cell, I.free, I.freeC, I.pin, I.hok, I.len⟩
theorem inv_set {X : Cx} {pins : List (Addr × Obj)} {σ : L2.St} {H : Hp} {s : Shared} {g : Nat} {y : GenState} (I : Inv X pins σ H s) (hy : y.bare = true) : Inv X pins σ H (s.setGen g y) :=
  inv_gens I (allBare_setGen I.bare hy)
section
variable {Z : Cx} {A : Around} {a : Addr} {g : Nat} {τ : L2.St} {fp : List Addr} {tn : Nat → Heap → Prop} {N : Nat} {PG : Nat → List (Addr × Obj) → Prop} {Pv : Nat → Hp → Prop} {Y : Nat → V → Hp → Prop} {Qe : Nat → Hp → Prop} {Qf : Hp → Prop} {R : Result → Shared → Prop}
/-- the generator sleeps, n values at most are to come -/
def Sleeps (Z : Cx) (A : Around) (g : Nat) (τ : L2.St) (fp : List Addr) (tn : Nat → Heap → Prop) (N : Nat) (PG : Nat → List (Addr × Obj) → Prop) (Pv : Nat → Hp → Prop) (Y : Nat → V → Hp → Prop) (Qe : Nat → Hp → Prop) (n : Nat) (s : Shared) : Prop :=
  ∃ gs, s.gens[g]? = some gs ∧ gs.Goes (model Z.prog Z.w) A.in1.in1 (GR Z τ N PG Qe) (GY Z τ fp tn N PG Pv Y) n (.send .none) (s.setGen g .running)
/-- one step of whoever draws -/
theorem gNext {n : Nat} {s : Shared} {E : Value → Shared → Prop} {Q : Option Value → Shared → Prop} (hh : A.handled = none) (hd : A.depth < recursionLimit) (hgen : ∀ (s : Shared) H pg, Inv Z pg τ H s → s.heap.IsGen a g)
    (hT : ∀ i h h', tn i h → (∀ b ∈ fp, ∀ o, h.get? b = some o → h'.get? b = some o) → tn i h')
    (I : ∃ H pg, Inv Z pg τ H s) (hs : Sleeps Z A g τ fp tn N PG Pv Y Qe n s)
    (hY : ∀ (i : Nat) (y : V) (v : Value) (H : Hp) (pg : List (Addr × Obj)) (s1 : Shared), i + 1 + (n - 1) = N → RelV y v → PG i pg → Inv Z pg τ H s1 → Y i y H → (∀ b ∈ fp, FpOk Z pg H b) →
      (∀ s2 pg2, s2.gens = s1.gens → PG (i + 1) pg2 → Inv Z pg2 τ H s2 → (∀ b ∈ fp, ∀ o, s1.heap.get? b = some o → s2.heap.get? b = some o) → (∀ b ∈ fp, FpOk Z pg2 H b) → Pv (i + 1) H → ∃ m, m + 1 = n ∧ Sleeps Z A g τ fp tn N PG Pv Y Qe m s2) → Q (some v) s1)
    (hE : ∀ i s1, i + n = N → GF Z τ PG Qe i s1 → Q none s1) :
    wpAny (model Z.prog Z.w) A.in1 (pyNext (.ref a)) Q E s := by
  obtain ⟨H, pg, I⟩ := I
  obtain ⟨gs, hgs, hgo⟩ := hs
  have hgl : g < s.gens.size := (Array.getElem?_eq_some_iff.mp hgs).1
  refine wpAny_gsz (n := g + 1) hgl ?_
  refine next_genG (F := fun n _ s1 => ∃ i, i + n = N ∧ GF Z τ PG Qe i s1) (Er := fun _ _ => False) hh I.nolimit hd (hgen _ _ _ I) hgs hgo (fun v s1 gs' hb hv hsz => ?_) (fun s1 hp h' hk hsz => ?_) fun e s1 he => he.elim
  · obtain ⟨i, y, H1, pg1, hn, r, g1, I1, t1, f1, q1, wake⟩ := hv
    have hsz1 : g < s1.gens.size := by
      have q : (s1.setGen g gs').gens.size = s1.gens.size := setGen_size _ _ _
      have hz : g + 1 ≤ (s1.setGen g gs').gens.size := hsz
      omega
    refine hY i y v H1 pg1 _ hn r g1 (inv_set I1 hb) q1 f1 (fun s2 pg2 eg g2 I2 hk2 f2 p2 => ?_)
    cases n with
    | zero => exact (wake s2 pg2 g2 I2 (hT _ _ _ t1 hk2) f2 p2).elim
    | succ m =>
      refine ⟨m, rfl, gs', ?_, ?_⟩
      · rw [eg]
        exact setGen_at hsz1
      · exact wake (s2.setGen g .running) pg2 g2 (inv_set I2 rfl) (hT _ _ _ t1 hk2) f2 p2
  · obtain ⟨i, hi, H1, pg1, g1, I1, q1⟩ := hp
    refine hE i _ hi ⟨H1, pg1, g1, ?_, q1⟩
    exact (inv_set I1 rfl).kept (t' := (s1.setGen g .finished).toks) hk
theorem allLoop (hh : A.handled = none) (hd : A.depth < recursionLimit) (hgen : ∀ (s : Shared) H pg, Inv Z pg τ H s → s.heap.IsGen a g)
    (hT : ∀ i h h', tn i h → (∀ b ∈ fp, ∀ o, h.get? b = some o → h'.get? b = some o) → tn i h')
    (hY : ∀ i y H, Y i y H → ∃ b, y = .bl b ∧ (b = true → Pv (i + 1) H) ∧ (b = false → Qf H))
    (hend : ∀ i s' H pg, Inv Z pg τ H s' → Qe i H → R (.ok (.ret (.bool true))) s') (hbrk : ∀ s' H pg, Inv Z pg τ H s' → Qf H → R (.ok (.ret (.bool false))) s') :
    ∀ (n : Nat) (s : Shared), (∃ H pg, Inv Z pg τ H s) → Sleeps Z A g τ fp tn N (fun _ pg => pg = []) Pv Y Qe n s → codeAny (model Z.prog Z.w) A (.builtin "all.loop" ⟨[.ref a], []⟩) R s := by
  intro n
  induction n using Nat.strongRecOn with
  | ind n ih =>
    intro s I hs
    refine codeAny_builtin F.entry_all_loop ?_
    rw [Around.under_plainId F.plain_all_loop _]
    show wpAny _ A.in1 (pyNext (.ref a) >>= _) _ _ s
    refine wpAny_bind (gNext hh hd hgen hT I hs (fun i y v H pg s1 _ r g1 I1 q1 f1 wake => ?_) fun i s1 _ h1 => ?_)
    · obtain ⟨b, ey, h1, h2⟩ := hY i y H q1
      subst ey
      obtain rfl : v = Value.bool b := r
      refine wpAny_bind (wpAny_holding (wpAny_truthy_bool ?_))
      refine wpAny_bind (wpAny_letGo ?_)
      cases b with
      | true =>
        simp only [if_true]
        obtain ⟨m, hm, sl⟩ := wake s1 pg rfl g1 I1 (fun _ _ _ e => e) f1 (h1 rfl)
        exact wpAny_pure ⟨plainId_quiet F.plain_all_loop _, ih m (by omega) s1 ⟨H, pg, I1⟩ sl⟩
      | false =>
        simp only [Bool.false_eq_true, if_false]
        exact wpAny_bind (wpAny_rule (wpAny_pure (hbrk _ H pg I1 (h2 rfl))))
    · obtain ⟨H1, pg1, _, I1, q1⟩ := h1
      exact wpAny_bind (wpAny_rule (wpAny_pure (hend i _ H1 pg1 I1 q1)))
theorem anyLoop (hh : A.handled = none) (hd : A.depth < recursionLimit) (hgen : ∀ (s : Shared) H pg, Inv Z pg τ H s → s.heap.IsGen a g)
    (hT : ∀ i h h', tn i h → (∀ b ∈ fp, ∀ o, h.get? b = some o → h'.get? b = some o) → tn i h')
    (hY : ∀ i y H, Y i y H → ∃ b, y = .bl b ∧ (b = false → Pv (i + 1) H) ∧ (b = true → Qf H))
    (hend : ∀ i s' H pg, Inv Z pg τ H s' → Qe i H → R (.ok (.ret (.bool false))) s') (hbrk : ∀ s' H pg, Inv Z pg τ H s' → Qf H → R (.ok (.ret (.bool true))) s') :
    ∀ (n : Nat) (s : Shared), (∃ H pg, Inv Z pg τ H s) → Sleeps Z A g τ fp tn N (fun _ pg => pg = []) Pv Y Qe n s → codeAny (model Z.prog Z.w) A (.builtin "any.loop" ⟨[.ref a], []⟩) R s := by
  intro n
  induction n using Nat.strongRecOn with
  | ind n ih =>
    intro s I hs
    refine codeAny_builtin F.entry_any_loop ?_
    rw [Around.under_plainId F.plain_any_loop _]
    show wpAny _ A.in1 (pyNext (.ref a) >>= _) _ _ s
    refine wpAny_bind (gNext hh hd hgen hT I hs (fun i y v H pg s1 _ r g1 I1 q1 f1 wake => ?_) fun i s1 _ h1 => ?_)
    · obtain ⟨b, ey, h1, h2⟩ := hY i y H q1
      subst ey
      obtain rfl : v = Value.bool b := r
      refine wpAny_bind (wpAny_holding (wpAny_truthy_bool ?_))
      refine wpAny_bind (wpAny_letGo ?_)
      cases b with
      | true =>
        simp only [if_true]
        exact wpAny_bind (wpAny_rule (wpAny_pure (hbrk _ H pg I1 (h2 rfl))))
      | false =>
        simp only [Bool.false_eq_true, if_false]
        obtain ⟨m, hm, sl⟩ := wake s1 pg rfl g1 I1 (fun _ _ _ e => e) f1 (h1 rfl)
        exact wpAny_pure ⟨plainId_quiet F.plain_any_loop _, ih m (by omega) s1 ⟨H, pg, I1⟩ sl⟩
    · obtain ⟨H1, pg1, _, I1, q1⟩ := h1
      exact wpAny_bind (wpAny_rule (wpAny_pure (hend i _ H1 pg1 I1 q1)))
/-- an untracked thing of the consumer's turns -/
theorem pinTurn {S : Addr} {o o' : Obj} {H : Hp} {s : Shared} {h' : Heap} {t' : Nat} (I : Inv Z [(S, o)] τ H s) (hS : Z.s_0.heap.objs.size ≤ S) (hc : ∀ y c, Z.env.cells.lookup y = some c → c ≠ S) (hp : ∀ p ∈ Z.pn, p.1 ≠ S)
    (k : ∀ b u, b ≠ S → s.heap.get? b = some u → h'.get? b = some u) (e : h'.get? S = some o') (ho : ∀ v, o'.data ≠ .cell v) : Inv Z [(S, o')] τ H { s with heap := h', toks := t' } := by
  obtain ⟨_, n0, nL, nF, _⟩ := I.pin (S, o) (List.mem_append_right _ List.mem_cons_self)
  have n0 : H S = none := n0
  have I0 : Inv Z [] τ H s := I.pins_of fun p hp => absurd hp (by simp)
  have nc : ∀ b, b ∉ [S] → b ≠ S := fun b hb z => hb (by rw [z]; exact List.mem_singleton.mpr rfl)
  have nt : ∀ b u, H b = some u → b ≠ S := fun b u q hb => by rw [hb, n0] at q; cases q
  have J : Inv Z [] τ H { s with heap := h', gens := s.gens, drawn := s.drawn, toks := t' } := by
    refine I0.step (g' := s.gens) (d' := s.drawn) (t' := t') (ch := [S]) (fun b hb => ?_) (fun b ob _ _ hc q _ => k b ob (nc b hc) q) (fun b ob _ _ hc q _ => ⟨ob.slots, k b ob (nc b hc) q⟩) (fun _ _ _ _ n => n) (fun b ob hc q => ⟨ob, k b ob (nc b hc) q⟩)
      (fun _ _ q => q) (fun _ _ _ q => q) (fun b ps q => ⟨#[], by rw [q]; simp⟩) (fun m hm => ?_) (fun b u q => ?_) I.bare
    · rw [List.mem_singleton.mp hb]
      exact ⟨.inr hS, nL, hc, fun p hq => hp p (by simpa using hq)⟩
    · obtain ⟨ob, es, ep, ho, r⟩ := hm
      exact ⟨ob, es, ep, k _ ob (Ne.symm nL) ho, r⟩
    · refine (I0.hok b u q).stay (fun c v hc y => k c v ?_ y) (fun _ y => y) fun _ _ y => y
      rcases hc with y | y
      · rw [y]; exact nt b u q
      · exact nt c _ y
  refine J.pins_of fun p hq => ?_
  rw [List.mem_singleton.mp hq]
  exact ⟨e, n0, nL, nF, ho⟩
abbrev accObj (c : Int) (t : Tok) (n : Nat) : Obj := { cls := .type "list", dict := none, data := .seq #[.int c t] n, slots := #[] }
theorem sumLoop {S : Addr} {val : Nat → Int} (hh : A.handled = none) (hd : A.depth < recursionLimit) (hgen : ∀ (s : Shared) H pg, Inv Z pg τ H s → s.heap.IsGen a g)
    (hT : ∀ i h h', tn i h → (∀ b ∈ fp, ∀ o, h.get? b = some o → h'.get? b = some o) → tn i h')
    (hS : Z.s_0.heap.objs.size ≤ S) (hc : ∀ y c, Z.env.cells.lookup y = some c → c ≠ S) (hp : ∀ p ∈ Z.pn, p.1 ≠ S)
    (hfit : ∀ j, j < N → InLong (val j) ∧ InLong (preSum val (j + 1))) (hY : ∀ i y H, Y i y H → y = .int (val i) ∧ Pv (i + 1) H)
    (hend : ∀ i s' H pg t', Inv Z pg τ H s' → Qe i H → R (.ok (.ret (.int (preSum val i) t'))) s') :
    ∀ (n : Nat) (s : Shared) (i : Nat) (t : Tok) (c : Nat), i + n = N → (∃ H, Inv Z [(S, accObj (preSum val i) t c)] τ H s) →
      Sleeps Z A g τ fp tn N (fun i pg => ∃ t c, pg = [(S, accObj (preSum val i) t c)]) Pv Y Qe n s → codeAny (model Z.prog Z.w) A (.builtin "sum.loop" ⟨[.ref a, .ref S, rawInt 0, rawInt 0], []⟩) R s := by
  intro n
  induction n with
  | zero =>
    intro s i t c hin I hs
    obtain ⟨H, I⟩ := I
    have eS : s.heap.get? S = some (accObj (preSum val i) t c) := (I.pin (S, _) (List.mem_append_right _ List.mem_cons_self)).1
    refine codeAny_builtin F.entry_sum_loop ?_
    rw [Around.under_plainId F.plain_sum_loop _]
    show wpAny _ A.in1 (seqItems? (.ref S) >>= _) _ _ s
    refine wpAny_bind (wpAny_seqItems eS rfl ?_)
    show wpAny _ A.in1 (tryCatch (pyNext (.ref a)) _ >>= _) _ _ s
    refine wpAny_bind (wpAny_tryCatch (gNext hh hd hgen hT ⟨H, _, I⟩ hs (fun j y v H1 pg s1 hn r g1 I1 q1 f1 wake => ?_) fun j s1 hj h1 => ?_))
    · obtain ⟨ey, p1⟩ := hY j y H1 q1
      obtain ⟨t1, c1, e1⟩ := g1
      subst e1
      -- nothing may come any more
      have e2 : s1.heap.get? S = some (accObj (preSum val j) t1 c1) := (I1.pin (S, _) (List.mem_append_right _ List.mem_cons_self)).1
      have nS : ∀ b ∈ fp, b ≠ S := fun b hb z => (f1 b hb).2.2.2.2.2 (S, _) (List.mem_append_right _ List.mem_cons_self) z.symm
      have J := pinTurn (o' := accObj (preSum val (j + 1)) t1 c1) (h' := s1.heap.update S (fun _ => accObj (preSum val (j + 1)) t1 c1)) (t' := s1.toks) I1 hS hc hp (fun b u hb q => (Heap.get?_update_other _ _ (Ne.symm hb)).trans q)
        (Heap.get?_update_self _ e2 rfl) (fun v z => by cases z)
      obtain ⟨m, hm, _⟩ := wake { s1 with heap := s1.heap.update S (fun _ => accObj (preSum val (j + 1)) t1 c1) } [(S, accObj (preSum val (j + 1)) t1 c1)] rfl ⟨t1, c1, rfl⟩ J
        (fun b hb o q => (Heap.get?_update_other _ _ (Ne.symm (nS b hb))).trans q) (fun b hb => ⟨(f1 b hb).1, (f1 b hb).2.1, (f1 b hb).2.2.1, (f1 b hb).2.2.2.1, (f1 b hb).2.2.2.2.1, fun p hq => by
          rcases List.mem_append.mp hq with z | z
          · exact (f1 b hb).2.2.2.2.2 p (List.mem_append_left _ z)
          · rw [List.mem_singleton.mp z]; exact Ne.symm (nS b hb)⟩) p1
      exact absurd hm (Nat.succ_ne_zero m)
    · obtain ⟨H1, pg1, _, I1, q1⟩ := h1
      have ej : j = i := by omega
      subst ej
      exact wpAny_pure (hend j s1 H1 pg1 t I1 q1)
  | succ n ih =>
    intro s i t c hin I hs
    obtain ⟨H, I⟩ := I
    have eS : s.heap.get? S = some (accObj (preSum val i) t c) := (I.pin (S, _) (List.mem_append_right _ List.mem_cons_self)).1
    refine codeAny_builtin F.entry_sum_loop ?_
    rw [Around.under_plainId F.plain_sum_loop _]
    show wpAny _ A.in1 (seqItems? (.ref S) >>= _) _ _ s
    refine wpAny_bind (wpAny_seqItems eS rfl ?_)
    show wpAny _ A.in1 (tryCatch (pyNext (.ref a)) _ >>= _) _ _ s
    refine wpAny_bind (wpAny_tryCatch (gNext hh hd hgen hT ⟨H, _, I⟩ hs (fun j y v H1 pg s1 hn r g1 I1 q1 f1 wake => ?_) fun j s1 hj h1 => ?_))
    · obtain ⟨ey, p1⟩ := hY j y H1 q1
      subst ey
      obtain ⟨tv, ev⟩ := r
      subst ev
      obtain ⟨t1, c1, e1⟩ := g1
      subst e1
      have ej : j = i := by omega
      subst ej
      have e2 : s1.heap.get? S = some (accObj (preSum val j) t1 c1) := (I1.pin (S, _) (List.mem_append_right _ List.mem_cons_self)).1
      have nS : ∀ b ∈ fp, b ≠ S := fun b hb z => (f1 b hb).2.2.2.2.2 (S, _) (List.mem_append_right _ List.mem_cons_self) z.symm
      obtain ⟨⟨b1, b2⟩, b3, b4⟩ := hfit j (by omega)
      have hok : ((decide (-(2 ^ 63) ≤ val j) && decide (val j < 2 ^ 63)) && (decide (-(2 ^ 63) ≤ preSum val j + val j) && decide (preSum val j + val j < 2 ^ 63))) = true := by
        simp only [preSum] at b3 b4
        simp only [Bool.and_eq_true, decide_eq_true_eq]
        exact ⟨⟨b1, b2⟩, b3, b4⟩
      show wpAny _ A.in1 (if (_ : Bool) = true then (mkInt (preSum val j + val j) >>= _) else _) _ _ _
      split
      · refine wpAny_bind (wpAny_mkInt ?_)
        show wpAny _ A.in1 (updateSeq S (fun _ => #[.int (preSum val j + val j) s1.toks]) >>= _) _ _ _
        refine wpAny_bind (wpAny_updateSeq e2 rfl ?_)
        have e3 := Heap.get?_update_self (Obj.mapSeq (fun _ => #[Value.int (preSum val j + val j) s1.toks])) e2 rfl
        obtain ⟨c2, e4⟩ : ∃ c2, Obj.mapSeq (fun _ => #[Value.int (preSum val j + val j) s1.toks]) (accObj (preSum val j) t1 c1) = accObj (preSum val (j + 1)) s1.toks c2 := ⟨_, rfl⟩
        rw [e4] at e3
        have J := pinTurn (o' := accObj (preSum val (j + 1)) s1.toks c2) (t' := s1.toks + 1) I1 hS hc hp (fun b u hb q => (Heap.get?_update_other _ _ (Ne.symm hb)).trans q) e3 (fun v z => by cases z)
        obtain ⟨m, hm, sl⟩ := wake { s1 with heap := s1.heap.update S (Obj.mapSeq (fun _ => #[Value.int (preSum val j + val j) s1.toks])), toks := s1.toks + 1 } [(S, accObj (preSum val (j + 1)) s1.toks c2)] rfl ⟨_, _, rfl⟩ J
          (fun b hb o q => (Heap.get?_update_other _ _ (Ne.symm (nS b hb))).trans q) (fun b hb => ⟨(f1 b hb).1, (f1 b hb).2.1, (f1 b hb).2.2.1, (f1 b hb).2.2.2.1, (f1 b hb).2.2.2.2.1, fun p hq => by
            rcases List.mem_append.mp hq with z | z
            · exact (f1 b hb).2.2.2.2.2 p (List.mem_append_left _ z)
            · rw [List.mem_singleton.mp z]; exact Ne.symm (nS b hb)⟩) p1
        have em : m = n := by omega
        subst em
        exact wpAny_pure ⟨plainId_quiet F.plain_sum_loop _, ih _ (j + 1) s1.toks c2 (by omega) ⟨H1, J⟩ sl⟩
      · rename_i hneg
        exact absurd hok hneg
    · obtain ⟨H1, pg1, hpg, I1, q1⟩ := h1
      obtain ⟨t1, c1, e1⟩ := hpg
      have ej : j = i := by omega
      subst ej
      exact wpAny_pure (hend j s1 H1 pg1 t I1 q1)
end
end GX
namespace GX
open PySem PySem.Spec PyProof.Rows L2 GenW
theorem room_gen {k : Nat} {X : Cx} {Ng : List Str} {scope : Scope} {code : Value} {s : Shared} {H : Hp} {fp : List Addr} {pn : List (Addr × Obj)} (r : Room (k + 1) X.A) : Room k (gCx X Ng scope code s H fp pn).A :=
  ⟨r.hd, by have := r.dp; show X.A.depth + 1 + 3 * k + 5 < _; omega, by have := r.un; show X.A.units + 1 + 1 + 3 + 16 * k + 200 < _; omega⟩
section
variable {X : Cx} {pins : List (Addr × Obj)} {σ : L2.St} {H : Hp} {s : Shared} {Ng : List Str} {scope : Scope} {x : Str} {cap : List Nat}
theorem gFp {fp : List Addr} {code : Value} {a : Addr} {go : Obj} (S : GS X.N Ng X.env.scope scope x cap) (ok : X.Ok) (I : Inv X pins σ H s) (hfp : ∀ b ∈ fp, FpOk X pins H b ∧ b < s.heap.objs.size) (ha : s.heap.objs.size < a) :
    ∀ b ∈ fp, FpOk (gCx X Ng scope code s H fp [(a, go)]) [] H b := fun b hb => by
  obtain ⟨⟨f1, f2, f3, f4, f5, f6⟩, lt⟩ := hfp b hb
  refine ⟨f1, Nat.ne_of_lt lt, fun hm => ?_, .inl hb, fun y c e => ?_, fun p hp => ?_⟩
  · rcases List.mem_cons.mp (I.stkSub b hm) with z | z
    · exact f2 z
    · exact f3 z
  · have e : (cloFrom X.env.cells scope.names []).lookup y = some c := e
    rcases cloFrom_mem (PySem.mem_of_lookup e) with hm | ⟨q1, q2⟩
    · cases hm
    · obtain ⟨c1, hc⟩ := S.has ok _ q1 rfl
      have hc : X.env.cells.lookup y = some c1 := hc
      rw [hc] at q2
      have e2 : c = c1 := q2
      rw [e2]
      exact f5 y c1 hc
  · have hp' : p ∈ [(a, go)] := by simpa [gCx] using hp
    rw [List.mem_singleton.mp hp']
    exact Nat.ne_of_gt (Nat.lt_trans lt ha)
/-- the run is over: the maker goes on -/
theorem gDone {fp : List Addr} {code : Value} {pn pg : List (Addr × Obj)} {τ : L2.St} {H' : Hp} {s' : Shared} (I : Inv X pins σ H s) (hfp : ∀ b ∈ fp, FpOk X pins H b ∧ b < s.heap.objs.size)
    (J : Inv (gCx X Ng scope code s H fp pn) pg τ H' s') : Inv X pins σ H' s' :=
  I.call' (ch := fp) J.os J.base J.hok J.bare fun b hb => ⟨(hfp b hb).1.2.2.2.1, (hfp b hb).1.2.1, (hfp b hb).1.2.2.2.2.1, (hfp b hb).1.2.2.2.2.2⟩
abbrev genObj (g : Nat) (t1 t2 : Tok) (q : Str) : Obj := { cls := .type "generator", data := .fields #[.int g 0, .str "<genexpr>" t1, .str q t2] }
/-- a generator has been made at a, that has not begun -/
structure Made (X : Cx) (pins : List (Addr × Obj)) (σ : L2.St) (Ng : List Str) (scope : Scope) (cap : List Nat) (elt iter : Expr) (x : Str) (px gpos : Pos) (P : Addr) (J : It) (H1 : Hp) (a : Addr) (s5 : Shared) : Prop where
  ex : ∃ (s3 : Shared) (H3 : Hp) (code : Value) (it : Addr) (fp : List Addr) (tn : Nat → Heap → Prop) (go : Obj) (g : Nat), GxR.Tabbed P H1 H3 ∧ Inv X pins σ H3 s3 ∧ (∀ b ∈ fp, FpOk X pins H3 b ∧ b < s3.heap.objs.size) ∧
    Turn X.prog X.w X.K (.Name x px) J fp it tn ∧ tn 0 s5.heap ∧ s3.heap.objs.size < a ∧ a < s5.heap.objs.size ∧ (∀ h : Heap, h.get? a = some go → h.IsGen a g) ∧
    Inv (gCx X Ng scope code s3 H3 fp [(a, go)]) [] (gSt σ cap) H3 s5 ∧ (∀ b ∈ fp, FpOk (gCx X Ng scope code s3 H3 fp [(a, go)]) [] H3 b) ∧
    s5.gens[g]? = some (.fresh (.compStart (.GeneratorExp elt [⟨.Name x px, iter, [], 0⟩] scope gpos) 0 (.ref it) .none (gEnv X scope s3.heap.objs.size code)))
theorem gMake {c P : Addr} {elt iter : Expr} {px gpos : Pos} {wi : TI} {Q' : Value → Shared → Prop} (hroom : X.A.depth < recursionLimit) (hd : X.A.handled = none) (TB : LamX.TabB X.base X.mg c P) (hcode : X.env.code = .ref c) (S : GS X.N Ng X.env.scope scope x cap)
    (hi : PI X (.Name x px) iter wi) (hs : ∀ v, genFold iter X.env v = pure v) {R : It → Hp → Prop} (I : Inv X pins σ H s) (h : wi σ H fun J H1 => GxR.TabG H1 P ∧ R J H1)
    (hQ : ∀ J H1 a s5, R J H1 → Made X pins σ Ng scope cap elt iter x px gpos P J H1 a s5 → Q' (.ref a) s5) :
    wpAny (model X.prog X.w) X.A (eval (.GeneratorExp elt [⟨.Name x px, iter, [], 0⟩] scope gpos) X.env) Q' X.xe s := by
  refine wpAny_GeneratorExp_make S.co (closure_ok (S.has I.ok)) S.cell S.dot S.kind hroom ?_ hs
  refine thn (hi.run pins s σ H _ I h) fun v s1 h1 => thn h1 fun itv s2 h2 => ?_
  obtain ⟨it, fp, tn, J, H2, e, I2, T, st2, f2, ⟨ps, hP, ht⟩, q2⟩ := h2
  subst e
  refine ⟨I2.nolimit, ?_⟩
  have hPs : s2.heap.get? P = some { cls := .none, data := .fields ps } := I2.hok P _ hP
  have fpLt : ∀ b ∈ fp, b < s2.heap.objs.size := fun b hb => by
    obtain ⟨o, e, _⟩ := T.obj _ _ st2 b hb
    exact Heap.lt_size e
  have fpP : ∀ b ∈ fp, b ≠ P := fun b hb z => by
    have q := (f2 b hb).1
    rw [z, hP] at q
    cases q
  have cd : PySem.W.CodeHd s2.heap c P := TB.code.keeps I2.bk
  have cont : ∀ (code : Value) (h3 : Heap) (tk : Nat) (more : Array Value), Heap.ExtBut P s2.heap h3 → s2.heap.objs.size ≤ h3.objs.size → h3.get? P = some { cls := .none, data := .fields (ps ++ more) } → TriplesOk (ps ++ more).toList →
      wpAny (model X.prog X.w) X.A (builtinsFor X.env.globals X.env.builtins) (fun bi s₄ => ∀ h', h'.Ns s₄.heap.objs.size (fun y => if y = ".0" then some (.ref it) else none) → Heap.SameBut s₄.heap.objs.size (s₄.heap.push { cls := .type "frame", data := .dict #[] }) h' →
        Q' (.ref h'.objs.size) { s₄ with
            gens := s₄.gens.push (.fresh (.compStart (.GeneratorExp elt [⟨.Name x px, iter, [], 0⟩] scope gpos) 0 (.ref it) .none (genEnv scope (cloFrom X.env.cells scope.names []) s₄.heap.objs.size code bi X.env))),
            toks := s₄.toks + 1 + 1 + 1,
            heap := h'.push { cls := .type "generator", data := .fields #[.int s₄.gens.size 0, .str "<genexpr>" (s₄.toks + 1), .str (X.env.qual ++ "<genexpr>") (s₄.toks + 1 + 1)] } }) X.xe { s2 with heap := h3, toks := tk } := by
    intro code h3 tk more hx hsz hP3 ht3
    obtain ⟨bm, ob, e1, e2, e3, e4, e5, e6, e7, e8⟩ := TB.bm
    have keep3 : ∀ b u, b ≠ P → s2.heap.get? b = some u → h3.get? b = some u := fun b u hb e => hx b u hb e
    refine wpAny_builtinsFor (m := X.mg) (by rw [I2.ok.glob]; exact (I2.mod.glob.keeps I2.bk).extBut hx TB.gP) e1 e2 (keep3 _ _ e4 (I2.bk _ _ e5)) e6 e7 e8 ?_
    intro h' hn' hs'
    have I3 : Inv X pins σ (upd H2 P (.tbl (ps ++ more))) { s2 with heap := h3, toks := tk } :=
      GxR.inv_tab (g' := s2.gens) (d' := s2.drawn) I2 hP (fun b u hb e => keep3 b u hb e) hP3 I2.bare
    have tab : GxR.Tabbed P H2 (upd H2 P (.tbl (ps ++ more))) := ⟨⟨ps ++ more, upd_same, ht3⟩, fun b hb => upd_ne hb⟩
    have f3 : ∀ b ∈ fp, FpOk X pins (upd H2 P (.tbl (ps ++ more))) b ∧ b < h3.objs.size := fun b hb => ⟨⟨by rw [upd_ne (fpP b hb)]; exact (f2 b hb).1, (f2 b hb).2⟩, Nat.lt_of_lt_of_le (fpLt b hb) hsz⟩
    have hsz' : h'.objs.size = h3.objs.size + 1 := by
      have q := hs'.1
      rw [q, Heap.size_push]
    have keep' : ∀ b o, h3.get? b = some o → h'.get? b = some o := fun b o e => hs'.extBut b o (Nat.ne_of_lt (Heap.lt_size e)) (Heap.get?_push_of_some _ e)
    have keep5 : ∀ b o, h3.get? b = some o → (h'.push (genObj s2.gens.size (tk + 1) (tk + 1 + 1) (X.env.qual ++ "<genexpr>"))).get? b = some o := fun b o e => Heap.get?_push_of_some _ (keep' b o e)
    have lt : h3.objs.size < h'.objs.size := by omega
    refine hQ J H2 h'.objs.size _ q2 ⟨{ s2 with heap := h3, toks := tk }, upd H2 P (.tbl (ps ++ more)), code, it, fp, tn, genObj s2.gens.size (tk + 1) (tk + 1 + 1) (X.env.qual ++ "<genexpr>"), s2.gens.size, tab, I3, f3, T, ?_, lt, ?_, ?_, ?_, ?_, ?_⟩
    · exact T.keep _ _ _ st2 fun b hb o e => keep5 b o (keep3 b o (fpP b hb) e)
    · show h'.objs.size < (h'.push _).objs.size
      rw [Heap.size_push]
      exact Nat.lt_succ_self _
    · intro h e
      exact ⟨_, _, _, e, rfl, rfl, rfl⟩
    · exact gStart (it := .ref it) I3 hd S f3 (hn'.push _) keep5 (Heap.get?_push_size _ rfl) lt (fun v z => by cases z) (I2.bare.push rfl)
    · exact gFp S I2.ok I3 f3 lt
    · exact Array.getElem?_push_size ..
  cases hf : codeAmong gpos ps.toList with
  | none =>
    refine wpAny_genexprCodeX hcode (cd.code hPs ht) (cd.tab hPs) hf fun c' h' tk hx hge hlt hco' _ htab' _ => ?_
    obtain ⟨o1, vs, f1, tf, fl, tg, inF, tx, tt, op, _, _, _, _, _, _, _, _, _, htr, _⟩ := hco'
    exact cont _ h' tk _ hx (Nat.le_trans hge (Nat.le_of_lt hlt)) htab'.2 htr
  | some cv =>
    refine wpAny_genexprCode_hit hcode (cd.code hPs ht) hf ?_
    exact cont cv s2.heap s2.toks #[] (Heap.ExtBut.refl _ _) (Nat.le_refl _) (by simpa using hPs) (by simpa using ht)
end
/-! ### the rules -/
/-- all(e for x in ..), any(..), sum(..): J the walk, N a bound of the turns -/
def tAllG (P : Addr) (cap : List Nat) (wi : TI) (te : TE) : TE := fun σ H Q => wi σ H fun J H1 => GxR.TabG H1 P ∧ ∀ H2, GxR.Tabbed P H1 H2 → ∃ (N : Nat) (Pv : Nat → Hp → Prop), Pv 0 H2 ∧
  Turns J N (gSt σ cap) te Pv (fun i y H => ∃ b, y = .bl b ∧ (b = true → Pv (i + 1) H) ∧ (b = false → Q (.bl false) H)) (fun _ H => Q (.bl true) H)
def tAnyG (P : Addr) (cap : List Nat) (wi : TI) (te : TE) : TE := fun σ H Q => wi σ H fun J H1 => GxR.TabG H1 P ∧ ∀ H2, GxR.Tabbed P H1 H2 → ∃ (N : Nat) (Pv : Nat → Hp → Prop), Pv 0 H2 ∧
  Turns J N (gSt σ cap) te Pv (fun i y H => ∃ b, y = .bl b ∧ (b = false → Pv (i + 1) H) ∧ (b = true → Q (.bl true) H)) (fun _ H => Q (.bl false) H)
def tSumG (P : Addr) (cap : List Nat) (wi : TI) (te : TE) : TE := fun σ H Q => wi σ H fun J H1 => GxR.TabG H1 P ∧ ∀ H2, GxR.Tabbed P H1 H2 → ∃ (N : Nat) (val : Nat → Int) (Pv : Nat → Hp → Prop), Pv 0 H2 ∧
  (∀ j, j < N → InLong (val j) ∧ InLong (preSum val (j + 1))) ∧ Turns J N (gSt σ cap) te Pv (fun i y H => y = .int (val i) ∧ Pv (i + 1) H) (fun i H => Q (.int (preSum val i)) H)
section
variable {X : Cx} {c P : Addr} {elt iter : Expr} {x : Str} {px p pos gpos : Pos} {scope : Scope} {Ng : List Str} {cap : List Nat} {wi : TI} {te : TE} {k : Nat}
theorem pe_allG (hr : Room k X.A) (hg : Gl X "all") (hm : X.mg "all" = none) (TB : LamX.TabB X.base X.mg c P) (hcode : X.env.code = .ref c) (S : GS X.N Ng X.env.scope scope x cap) (hi : PI X (.Name x px) iter wi)
    (hel : ∀ (code : Value) (s : Shared) (H : Hp) (fp : List Addr) (pn : List (Addr × Obj)), PE (gCx X Ng scope code s H fp pn) elt te) (hs : ∀ v, genFold iter X.env v = pure v := by intro _; rfl) (hb : bootBuiltins "all" = some (.builtin "all") := by decide +kernel)
    (he : starEach [.GeneratorExp elt [⟨.Name x px, iter, [], 0⟩] scope gpos] X.env = (false, eval (.GeneratorExp elt [⟨.Name x px, iter, [], 0⟩] scope gpos) X.env) :: starEach [] X.env := by rfl) :
    PE X (.Call (.Name "all" p) [.GeneratorExp elt [⟨.Name x px, iter, [], 0⟩] scope gpos] [] pos) (tAllG P cap wi te) := by
  refine ⟨fun pins s σ H Q I h => ?_⟩
  refine wpAny_Call_Name_kw (ld_blt I hg hm hb ?_)
  refine PyProof.Rows.callWith_builtin1 ?_ he (by rfl)
  rw [he]
  show wpAny _ _ (spliced ((false, eval (.GeneratorExp elt [⟨.Name x px, iter, [], 0⟩] scope gpos) X.env) :: backTo pos (starEach [] X.env))) _ _ s
  refine Calls.spliced_cons (gMake hr.depth hr.hd TB hcode S hi hs I h fun J H1 a s5 hR hM => ?_)
  refine Calls.spliced_nil ?_
  obtain ⟨s3, H3, code, it, fp, tn, go, g, tab, I3, f3, T, t5, la, la2, hgen, I5, f5, hg5⟩ := hM.ex
  obtain ⟨N, Pv, p0, turn⟩ := hR H3 tab
  have gen : ∀ (s : Shared) (H : Hp) (pg : List (Addr × Obj)), Inv (gCx X Ng scope code s3 H3 fp [(a, go)]) pg (gSt σ cap) H s → s.heap.IsGen a g := fun s H pg J => hgen _ (J.pin (a, go) (List.mem_append_left _ List.mem_cons_self)).1
  refine call_function_tree F.kind_all F.plain_all F.entry_all (F.args_all1 _) ?_
  unfold Builtin.«all»
  refine wpAny_bind (m := oneArg "all" _) (wpAny_pure ?_)
  refine wpAny_bind (wpAny_pyIter_gen (gen _ _ _ I5) ?_)
  refine wpAny_pure ⟨plainId_quiet F.plain_all_loop _, ?_⟩
  refine allLoop (Z := gCx X Ng scope code s3 H3 fp [(a, go)]) (Qf := fun H => Q (.bl false) H) (Qe := fun _ H => Q (.bl true) H) (Pv := Pv) (N := N) (tn := tn) (fp := fp) (τ := gSt σ cap) hr.hd hr.depth gen T.keep (fun i y H q => q)
    (fun i s' H pg J q => ⟨.bl true, H, gDone I3 f3 J, rfl, q⟩) (fun s' H pg J q => ⟨.bl false, H, gDone I3 f3 J, rfl, q⟩) N s5 ⟨H3, [], I5⟩ ⟨_, hg5, rfl, ?_⟩
  exact gBegin (Z := gCx X Ng scope code s3 H3 fp [(a, go)]) rfl rfl T (hel _ _ _ _ _) (fun _ _ z => z) S.nd S.hd S.loc S.co rfl turn _ _ H3 [] rfl (inv_set I5 rfl) t5 f5 p0
theorem pe_anyG (hr : Room k X.A) (hg : Gl X "any") (hm : X.mg "any" = none) (TB : LamX.TabB X.base X.mg c P) (hcode : X.env.code = .ref c) (S : GS X.N Ng X.env.scope scope x cap) (hi : PI X (.Name x px) iter wi)
    (hel : ∀ (code : Value) (s : Shared) (H : Hp) (fp : List Addr) (pn : List (Addr × Obj)), PE (gCx X Ng scope code s H fp pn) elt te) (hs : ∀ v, genFold iter X.env v = pure v := by intro _; rfl) (hb : bootBuiltins "any" = some (.builtin "any") := by decide +kernel)
    (he : starEach [.GeneratorExp elt [⟨.Name x px, iter, [], 0⟩] scope gpos] X.env = (false, eval (.GeneratorExp elt [⟨.Name x px, iter, [], 0⟩] scope gpos) X.env) :: starEach [] X.env := by rfl) :
    PE X (.Call (.Name "any" p) [.GeneratorExp elt [⟨.Name x px, iter, [], 0⟩] scope gpos] [] pos) (tAnyG P cap wi te) := by
  refine ⟨fun pins s σ H Q I h => ?_⟩
  refine wpAny_Call_Name_kw (ld_blt I hg hm hb ?_)
  refine PyProof.Rows.callWith_builtin1 ?_ he (by rfl)
  rw [he]
  show wpAny _ _ (spliced ((false, eval (.GeneratorExp elt [⟨.Name x px, iter, [], 0⟩] scope gpos) X.env) :: backTo pos (starEach [] X.env))) _ _ s
  refine Calls.spliced_cons (gMake hr.depth hr.hd TB hcode S hi hs I h fun J H1 a s5 hR hM => ?_)
  refine Calls.spliced_nil ?_
  obtain ⟨s3, H3, code, it, fp, tn, go, g, tab, I3, f3, T, t5, la, la2, hgen, I5, f5, hg5⟩ := hM.ex
  obtain ⟨N, Pv, p0, turn⟩ := hR H3 tab
  have gen : ∀ (s : Shared) (H : Hp) (pg : List (Addr × Obj)), Inv (gCx X Ng scope code s3 H3 fp [(a, go)]) pg (gSt σ cap) H s → s.heap.IsGen a g := fun s H pg J => hgen _ (J.pin (a, go) (List.mem_append_left _ List.mem_cons_self)).1
  refine call_function_tree F.kind_any F.plain_any F.entry_any (F.args_any1 _) ?_
  unfold Builtin.«any»
  refine wpAny_bind (m := oneArg "any" _) (wpAny_pure ?_)
  refine wpAny_bind (wpAny_pyIter_gen (gen _ _ _ I5) ?_)
  refine wpAny_pure ⟨plainId_quiet F.plain_any_loop _, ?_⟩
  refine anyLoop (Z := gCx X Ng scope code s3 H3 fp [(a, go)]) (Qf := fun H => Q (.bl true) H) (Qe := fun _ H => Q (.bl false) H) (Pv := Pv) (N := N) (tn := tn) (fp := fp) (τ := gSt σ cap) hr.hd hr.depth gen T.keep (fun i y H q => q)
    (fun i s' H pg J q => ⟨.bl false, H, gDone I3 f3 J, rfl, q⟩) (fun s' H pg J q => ⟨.bl true, H, gDone I3 f3 J, rfl, q⟩) N s5 ⟨H3, [], I5⟩ ⟨_, hg5, rfl, ?_⟩
  exact gBegin (Z := gCx X Ng scope code s3 H3 fp [(a, go)]) rfl rfl T (hel _ _ _ _ _) (fun _ _ z => z) S.nd S.hd S.loc S.co rfl turn _ _ H3 [] rfl (inv_set I5 rfl) t5 f5 p0
theorem pe_sumG (hr : Room k X.A) (hg : Gl X "sum") (hm : X.mg "sum" = none) (TB : LamX.TabB X.base X.mg c P) (hcode : X.env.code = .ref c) (S : GS X.N Ng X.env.scope scope x cap) (hi : PI X (.Name x px) iter wi)
    (hel : ∀ (code : Value) (s : Shared) (H : Hp) (fp : List Addr) (pn : List (Addr × Obj)), PE (gCx X Ng scope code s H fp pn) elt te) (hs : ∀ v, genFold iter X.env v = pure v := by intro _; rfl) (hb : bootBuiltins "sum" = some (.builtin "sum") := by decide +kernel)
    (he : starEach [.GeneratorExp elt [⟨.Name x px, iter, [], 0⟩] scope gpos] X.env = (false, eval (.GeneratorExp elt [⟨.Name x px, iter, [], 0⟩] scope gpos) X.env) :: starEach [] X.env := by rfl) :
    PE X (.Call (.Name "sum" p) [.GeneratorExp elt [⟨.Name x px, iter, [], 0⟩] scope gpos] [] pos) (tSumG P cap wi te) := by
  refine ⟨fun pins s σ H Q I h => ?_⟩
  refine wpAny_Call_Name_kw (ld_blt I hg hm hb ?_)
  refine PyProof.Rows.callWith_builtin1 ?_ he (by rfl)
  rw [he]
  show wpAny _ _ (spliced ((false, eval (.GeneratorExp elt [⟨.Name x px, iter, [], 0⟩] scope gpos) X.env) :: backTo pos (starEach [] X.env))) _ _ s
  refine Calls.spliced_cons (gMake hr.depth hr.hd TB hcode S hi hs I h fun J H1 a s5 hR hM => ?_)
  refine Calls.spliced_nil ?_
  obtain ⟨s3, H3, code, it, fp, tn, go, g, tab, I3, f3, T, t5, la, la2, hgen, I5, f5, hg5⟩ := hM.ex
  obtain ⟨N, val, Pv, p0, fit, turn⟩ := hR H3 tab
  have gen : ∀ (s : Shared) (H : Hp) (pg : List (Addr × Obj)), Inv (gCx X Ng scope code s3 H3 fp [(a, go)]) pg (gSt σ cap) H s → s.heap.IsGen a g := fun s H pg J => hgen _ (J.pin (a, go) (List.mem_append_left _ List.mem_cons_self)).1
  refine call_function_tree F.kind_sum F.plain_sum F.entry_sum (F.args_sum1 _) ?_
  unfold Builtin.«sum»
  simp only [List.length_cons, List.length_nil]
  rw [if_neg (by decide)]
  refine wpAny_bind (wpAny_of_eq (show Builtin.Builtins.bindParams "sum" ["start"] 0 { } = pure [none] from rfl) ?_)
  refine wpAny_bind (wpAny_pyIter_gen (gen _ _ _ I5) ?_)
  refine wpAny_bind (wpAny_mkInt ?_)
  refine wpAny_bind (wpAny_pure ?_)
  simp only [List.forIn_cons, List.forIn_nil]
  refine wpAny_bind (wpAny_bind (wpAny_bind (wpAny_isInstance (T := "int") (b := false) (typeIs_int _ _ _) PySem.sub_int_str ?_)))
  simp only [Bool.false_eq_true, if_false]
  refine wpAny_pure (wpAny_bind (wpAny_bind (wpAny_isInstance (T := "int") (b := false) (typeIs_int _ _ _) PySem.sub_int_bytes ?_)))
  simp only [Bool.false_eq_true, if_false]
  refine wpAny_pure (wpAny_bind (wpAny_bind (wpAny_isInstance (T := "int") (b := false) (typeIs_int _ _ _) PySem.sub_int_bytearray ?_)))
  simp only [Bool.false_eq_true, if_false]
  refine wpAny_pure (wpAny_pure ?_)
  refine wpAny_bind (wpAny_newObj_type ?_)
  -- the consumer's own list
  have I6 : Inv (gCx X Ng scope code s3 H3 fp [(a, go)]) [] (gSt σ cap) H3 { s5 with toks := s5.toks + 1, heap := s5.heap.push (accObj 0 s5.toks 0) } := (I5.tok _).kept fun b u e => Heap.get?_push_of_some _ e
  have lt0 : s3.heap.objs.size ≤ s5.heap.objs.size := Nat.le_of_lt (Nat.lt_trans la la2)
  have clt : ∀ y c, (gCx X Ng scope code s3 H3 fp [(a, go)]).env.cells.lookup y = some c → c ≠ s5.heap.objs.size := fun y c e z => by
    obtain ⟨v, q⟩ := I5.cell y c e
    have q1 := q.lt
    rw [z] at q1
    exact Nat.lt_irrefl _ q1
  have I7 : Inv (gCx X Ng scope code s3 H3 fp [(a, go)]) [(s5.heap.objs.size, accObj 0 s5.toks 0)] (gSt σ cap) H3 { s5 with toks := s5.toks + 1, heap := s5.heap.push (accObj 0 s5.toks 0) } := I6.pins_of fun q hq => by
    rw [List.mem_singleton.mp hq]
    exact ⟨Heap.get?_push_size _ rfl, I5.hok.fresh (Nat.le_refl _), Nat.ne_of_gt I5.lt, I5.nofs (Nat.le_refl _), fun v z => by cases z⟩
  have pnS : ∀ q ∈ (gCx X Ng scope code s3 H3 fp [(a, go)]).pn, q.1 ≠ s5.heap.objs.size := fun q hq => by
    have hq' : q ∈ [(a, go)] := hq
    rw [List.mem_singleton.mp hq']
    exact Nat.ne_of_lt la2
  refine wpAny_pure ⟨plainId_quiet F.plain_sum_loop _, ?_⟩
  refine sumLoop (Z := gCx X Ng scope code s3 H3 fp [(a, go)]) (Qe := fun i H => Q (.int (preSum val i)) H) (Pv := Pv) (N := N) (tn := tn) (fp := fp) (τ := gSt σ cap) (S := s5.heap.objs.size) (val := val) hr.hd hr.depth gen T.keep lt0 clt pnS fit (fun i y H q => q)
    (fun i s' H pg t' J q => ⟨.int (preSum val i), H, gDone I3 f3 J, ⟨t', rfl⟩, q⟩) N _ 0 s5.toks 0 (Nat.zero_add _) ⟨H3, I7⟩ ⟨_, hg5, rfl, ?_⟩
  have f6 : ∀ b ∈ fp, FpOk (gCx X Ng scope code s3 H3 fp [(a, go)]) [(s5.heap.objs.size, accObj 0 s5.toks 0)] H3 b := fun b hb => ⟨(f5 b hb).1, (f5 b hb).2.1, (f5 b hb).2.2.1, (f5 b hb).2.2.2.1, (f5 b hb).2.2.2.2.1, fun q hq => by
    rcases List.mem_append.mp hq with z | z
    · exact (f5 b hb).2.2.2.2.2 q (List.mem_append_left _ z)
    · rw [List.mem_singleton.mp z]
      obtain ⟨o, e, _⟩ := T.obj _ _ t5 b hb
      exact Nat.ne_of_gt (Heap.lt_size e)⟩
  exact gBegin (Z := gCx X Ng scope code s3 H3 fp [(a, go)]) (PG := fun i pg => ∃ t c, pg = [(s5.heap.objs.size, accObj (preSum val i) t c)]) rfl rfl T (hel _ _ _ _ _) (fun _ _ z => z) S.nd S.hd S.loc S.co rfl turn _ _ H3 _ ⟨s5.toks, 0, rfl⟩ (inv_set I7 rfl) (T.keep _ _ _ t5 fun b hb o e => Heap.get?_push_of_some _ e) f6 p0
end
end GX
namespace GX
open PySem PySem.Spec PyProof.Rows L2 LamX
/-- a thing that is known as it is -/
abbrev frzO (o : Obj) : HO := .frz o (.ext fun _ => True)
theorem frz_ok {P : Program} {w : World} {H : Hp} {h : Heap} {a : Addr} {o : Obj} (e : h.get? a = some o) : ObjOk P w H h a (frzO o) := ⟨e, True.intro, ⟨o, e⟩, fun _ _ _ _ => True.intro⟩
section
variable {X : Cx} {pins : List (Addr × Obj)} {σ : L2.St} {H : Hp} {s : Shared}
/-- an object that is there, and not tracked, is tracked from now on -/
theorem track {f : Addr} {u : HO} (I : Inv X pins σ H s) (hf : H f = none) (h0 : X.s_0.heap.objs.size ≤ f) (hL : f ≠ X.env.locals) (hc : ∀ y c, X.env.cells.lookup y = some c → c ≠ f) (hp : ∀ p ∈ X.pn ++ pins, p.1 ≠ f) (ok : ObjOk X.prog X.w (upd H f u) s.heap f u) :
    Inv X pins σ (upd H f u) s := by
  refine ⟨I.ok, I.os, I.bare, ⟨fun b ob e n hb hx => I.base.keep b ob e n hb hx, fun b ob e n hb hx => I.base.slot b ob e n hb hx, fun b ob e n hx => ?_, fun b ob e hx => I.base.there b ob e hx, fun b xs e => ?_, fun b ob xs e => ?_, fun b ps e => ?_⟩, I.loc, I.cell, ?_, fun y c e => ?_, fun p hq => ?_, fun b ob e => ?_, I.len⟩
  · rw [upd_ne (Nat.ne_of_lt (Nat.lt_of_lt_of_le (Heap.lt_size e) h0))]
    exact I.base.free b ob e n hx
  · have q := I.base.tups b xs e
    rw [upd_ne (ne_of_none q hf)]; exact q
  · have q := I.base.frzs b ob xs e
    rw [upd_ne (ne_of_none q hf)]; exact q
  · obtain ⟨more, q⟩ := I.base.tbls b ps e
    exact ⟨more, by rw [upd_ne (ne_of_none q hf)]; exact q⟩
  · rw [upd_ne (Ne.symm hL)]; exact I.free
  · rw [upd_ne (hc y c e)]; exact I.freeC y c e
  · obtain ⟨a1, a2, a3⟩ := I.pin p hq
    exact ⟨a1, by rw [upd_ne (hp p hq)]; exact a2, a3⟩
  · by_cases hb : b = f
    · subst hb
      rw [upd_same] at e
      cases e
      exact ok
    · rw [upd_ne hb] at e
      exact (I.hok b ob e).stay (fun _ _ _ q => q) (fun c q => by rw [upd_ne (ne_of_none q hf)]; exact q) fun c xs q => by rw [upd_ne (ne_of_none q hf)]; exact q
theorem fresh_facts (I : Inv X pins σ H s) {f : Addr} (hf : s.heap.objs.size ≤ f) : H f = none ∧ X.s_0.heap.objs.size ≤ f ∧ f ≠ X.env.locals ∧ (∀ y c, X.env.cells.lookup y = some c → c ≠ f) ∧ ∀ p ∈ X.pn ++ pins, p.1 ≠ f := by
  refine ⟨I.hok.fresh hf, Nat.le_trans I.sz hf, Nat.ne_of_gt (Nat.lt_of_lt_of_le I.lt hf), fun y c e z => ?_, fun p hp z => ?_⟩
  · obtain ⟨v, q⟩ := I.cell y c e
    exact absurd (Nat.lt_of_lt_of_le q.lt (by rw [z]; exact hf)) (Nat.lt_irrefl _)
  · exact absurd (Nat.lt_of_lt_of_le (Heap.lt_size (I.pin p hp).1) (by rw [z]; exact hf)) (Nat.lt_irrefl _)
abbrev lamObj (q : Str) (params : Arguments) (body : Expr) (scope : Scope) (clos : List (Str × Addr)) (dV doc pm : Value) (c' : Addr) (ctv : Value) : Obj := PySem.W.kdv_obj "<lambda>" q params (.expr body) scope clos dV doc pm c' ctv
/-- tables stay tables -/
def TabK (H H1 : Hp) : Prop := (∀ b ps, H b = some (.tbl ps) → ∃ ps', H1 b = some (.tbl ps')) ∧ ∀ p, GxR.TabG H p → GxR.TabG H1 p
theorem TabK.refl (H : Hp) : TabK H H := ⟨fun _ ps h => ⟨ps, h⟩, fun _ h => h⟩
theorem TabK.ext {H H1 H2 : Hp} (e : ∀ b o, H b = some o → H1 b = some o) (a : TabK H1 H2) : TabK H H2 := ⟨fun b ps h => a.1 b ps (e _ _ h), fun p h => by
  obtain ⟨ps, h1, h2⟩ := h
  exact a.2 p ⟨ps, e _ _ h1, h2⟩⟩
theorem TabK.one {H : Hp} {P c : Addr} {ps ps' : Array Value} {o : HO} (hP : H P = some (.tbl ps)) (t : TriplesOk ps'.toList) (nC : H c = none) : TabK H (upd (upd H P (.tbl ps')) c o) := by
  refine ⟨fun b qs h => ?_, fun p h => ?_⟩
  · by_cases hb : b = P
    · exact ⟨ps', by rw [hb, upd_ne (ne_of_none hP nC), upd_same]⟩
    · exact ⟨qs, by rw [upd_ne (ne_of_none h nC), upd_ne hb]; exact h⟩
  · obtain ⟨qs, h1, h2⟩ := h
    by_cases hb : p = P
    · exact ⟨ps', by rw [hb, upd_ne (ne_of_none hP nC), upd_same], t⟩
    · exact ⟨qs, by rw [upd_ne (ne_of_none h1 nC), upd_ne hb]; exact h1, h2⟩
/-- the making of a lambda, its defaults' tuple made -/
theorem lam_tail {T : List (Addr × Str)} {c P : Addr} {params : Arguments} {body : Expr} {scope : Scope} {pos : Pos} {line : Nat} {dV : Value} {E : Value → Shared → Prop} {Q : Value → Shared → Prop} (I : Inv X pins σ H s) (TB : LamX.TabB X.base X.mg c P) (hcode : X.env.code = .ref c)
    (hm : (P, X.env.qual ++ "<lambda>") ∈ T) (hu : ∀ p ∈ T, p.1 = P → p.2 = X.env.qual ++ "<lambda>") (hT : Tabs T H) (hfree : ∀ y ∈ scope.names, y.2 = .free → ∃ c, X.env.cells.lookup y.1 = some c)
    (h : ∀ (f c' : Addr) (doc pm ctv : Value) (H1 : Hp) (s' : Shared), ExtN H H1 → TabK H H1 → Tabs T H1 → H1 f = none → H1 c' = some (CodeO c' (X.env.qual ++ "<lambda>")) →
      Inv X pins σ (upd H1 f (frzO (lamObj (X.env.qual ++ "<lambda>") params body scope (cloFrom X.env.cells scope.names []) dV doc pm c' ctv))) s' → Q (.ref f) s') :
    wpAny (model X.prog X.w) X.A (makeTail "<lambda>" (X.env.qual ++ "<lambda>") params (.expr body) scope X.env dV .none none pos line) Q E s := by
  obtain ⟨ps, hP, ht, ha⟩ := hT _ hm
  have bP : s.heap.BuiltinsAt X.mg P := TB.bm.keeps I.bk
  have hP' : s.heap.get? P = some { cls := .none, data := .fields ps } := I.hok P _ hP
  cases hc : codeAmong pos ps.toList with
  | none =>
    refine PySem.W.kdv_makeTail (mg := X.mg) (c := c) (P := P) (ps := ps) (closure_ok hfree) I.ok.glob (I.mod.glob.keeps I.bk) hcode (TB.code.keeps I.bk) hP' ht hc TB.gP bP fun c' ctv doc h' tk hx hge hlt hrec htb => ?_
    obtain ⟨c2, oc, vs, t, e2, hoc, hd, hv⟩ := hrec
    cases e2
    have hsz : s.heap.objs.size ≤ h'.objs.size := Nat.le_trans hge (Nat.le_of_lt hlt)
    have nC : H c' = none := I.hok.fresh hge
    have I1 := inv_table (t' := tk) (more := #[rawInt pos.line, rawInt pos.col, .ref c']) (h' := h') I hP hx htb hge ⟨oc, vs, t, hoc, hd, hv⟩
    have hE : ExtN H (upd (upd H P (.tbl (ps ++ #[rawInt pos.line, rawInt pos.col, .ref c']))) c' (CodeO c' (X.env.qual ++ "<lambda>"))) := fun b o e n => by
      rw [upd_ne (ne_of_none e nC), upd_ne (fun z => n ps (Option.some.inj (e.symm.trans (by rw [z]; exact hP))))]
      exact e
    have eL : (ps ++ #[rawInt pos.line, rawInt pos.col, .ref c']).toList = ps.toList ++ [rawInt pos.line, rawInt pos.col, .ref c'] := by simp
    obtain ⟨q1, q2, q3, q4, q5⟩ := fresh_facts I1 (f := h'.objs.size) (Nat.le_refl _)
    have I2 := I1.kept (t' := tk) (h' := h'.push (lamObj (X.env.qual ++ "<lambda>") params body scope (cloFrom X.env.cells scope.names []) dV doc ((X.mg "__name__").getD .none) c' ctv)) fun b o e => Heap.get?_push_of_some _ e
    refine h h'.objs.size c' doc ((X.mg "__name__").getD .none) ctv _ _ hE (TabK.one hP (by rw [eL]; exact PySem.TriplesOk_snoc _ _ _ _ ht) nC) (fun p hp => ?_) q1 upd_same (track I2 q1 q2 q3 q4 q5 (frz_ok (Heap.get?_push_size _ rfl)))
    by_cases hb : p.1 = P
    · rw [hu p hp hb, hb]
      refine ⟨_, by rw [upd_ne (ne_of_none hP nC), upd_same], by rw [eL]; exact PySem.TriplesOk_snoc _ _ _ _ ht, fun p' cv hcv => ?_⟩
      rw [eL] at hcv
      rcases among_app _ ht hcv with z | z
      · obtain ⟨c0, e1, e2⟩ := ha p' cv z
        exact ⟨c0, e1, hE _ _ e2 codeO_ne⟩
      · exact ⟨c', z, upd_same⟩
    · obtain ⟨ps', a1, a2, a3⟩ := hT p hp
      refine ⟨ps', by rw [upd_ne (ne_of_none a1 nC), upd_ne hb]; exact a1, a2, fun p' cv hcv => ?_⟩
      obtain ⟨c0, e1, e2⟩ := a3 p' cv hcv
      exact ⟨c0, e1, hE _ _ e2 codeO_ne⟩
  | some cv =>
    obtain ⟨c', e, hco⟩ := ha pos cv hc
    subst e
    refine PySem.W.kdv_makeTailHit (mg := X.mg) (c := c) (P := P) (ps := ps) (closure_ok hfree) I.ok.glob (I.mod.glob.keeps I.bk) hcode (TB.code.keeps I.bk) hP' ht hc bP fun ctv doc h' tk hx hsz => ?_
    have I1 := I.kept (t' := tk) (h' := h') hx
    obtain ⟨q1, q2, q3, q4, q5⟩ := fresh_facts I1 (f := h'.objs.size) (Nat.le_refl _)
    have I2 := I1.kept (t' := tk) (h' := h'.push (lamObj (X.env.qual ++ "<lambda>") params body scope (cloFrom X.env.cells scope.names []) dV doc ((X.mg "__name__").getD .none) c' ctv)) fun b o e => Heap.get?_push_of_some _ e
    exact h h'.objs.size c' doc ((X.mg "__name__").getD .none) ctv H _ (ExtN.refl H) (TabK.refl H) hT q1 hco (track I2 q1 q2 q3 q4 q5 (frz_ok (Heap.get?_push_size _ rfl)))
/-- unlike names have unlike cells -/
def InjC (clos : List (Str × Addr)) : Prop := ∀ x y c, clos.lookup x = some c → clos.lookup y = some c → x = y
theorem clo_cm {X : Cx} {scope : Scope} (hf : ∀ y ∈ scope.names, y.2 = .free → ∃ c, X.env.cells.lookup y.1 = some c) {y : Str} {c : Addr} (e : (cloFrom X.env.cells scope.names []).lookup y = some c) : X.env.cells.lookup y = some c := by
  rcases cloFrom_mem (PySem.mem_of_lookup e) with hm | ⟨q1, q2⟩
  · cases hm
  · obtain ⟨c1, hc⟩ := hf _ q1 rfl
    have hc : X.env.cells.lookup y = some c1 := hc
    rw [hc] at q2
    have e2 : c = c1 := q2
    rw [e2]
    exact hc
theorem clo_inj {X : Cx} {scope : Scope} (ok : X.Ok) (hf : ∀ y ∈ scope.names, y.2 = .free → ∃ c, X.env.cells.lookup y.1 = some c) : InjC (cloFrom X.env.cells scope.names []) := fun x y c e1 e2 => ok.inj x y c (clo_cm hf e1) (clo_cm hf e2)
/-- lambda: body; its object is known as it is -/
def tLamV (T : List (Addr × Str)) (q : Str) (params : Arguments) (body : Expr) (scope : Scope) (clos : List (Str × Addr)) (D : Value → Hp → Prop) : TE := fun σ H Q => Tabs T H ∧
  ∀ (H1 : Hp) (f c' : Addr) (dV doc pm ctv : Value), InjC clos → ExtN H H1 → TabK H H1 → Tabs T H1 → D dV H1 → H1 f = none → H1 c' = some (CodeO c' q) → Q (.ref f) (upd H1 f (frzO (lamObj q params body scope clos dV doc pm c' ctv)))
theorem pe_lam0 {T : List (Addr × Str)} {c P : Addr} {params : Arguments} {body : Expr} {scope : Scope} {pos : Pos} (TB : LamX.TabB X.base X.mg c P) (hcode : X.env.code = .ref c)
    (hm : (P, X.env.qual ++ "<lambda>") ∈ T) (hu : ∀ p ∈ T, p.1 = P → p.2 = X.env.qual ++ "<lambda>") (L : LamS X.env.scope scope) (hdef : defaultsOf params X.env = ([], []) := by rfl) :
    PE X (.Lambda params body scope pos) (tLamV T (X.env.qual ++ "<lambda>") params body scope (cloFrom X.env.cells scope.names []) (fun dV _ => dV = .none)) := by
  refine ⟨fun pins s σ H Q I h => ?_⟩
  obtain ⟨hT, h⟩ := h
  refine PySem.W.kla_eval hdef ?_
  rw [makeFunction_eq]
  simp only [List.zip_nil_right, List.filterMap_nil, List.isEmpty_nil, if_true, pure_bind]
  exact lam_tail I TB hcode hm hu hT (L.has I.ok) fun f c' doc pm ctv H1 s' e1 tk t1 n1 k1 I1 => ⟨.ref f, _, I1, rfl, h H1 f c' .none doc pm ctv (clo_inj I.ok (L.has I.ok)) e1 tk t1 rfl n1 k1⟩
/-- a tuple of one default that is known as it is -/
def Dflt1 (i : Int) (dV : Value) (H : Hp) : Prop := ∃ (t : Addr) (u : Tok), dV = .ref t ∧ H t = some (frzO (PySem.W.kdv_tup [.int i u]))
/-- lambda a=i: body -/
theorem pe_lam1 {T : List (Addr × Str)} {c P : Addr} {params : Arguments} {body : Expr} {scope : Scope} {pos dp : Pos} {i : Int} {j : Nat} (TB : LamX.TabB X.base X.mg c P) (hcode : X.env.code = .ref c)
    (hm : (P, X.env.qual ++ "<lambda>") ∈ T) (hu : ∀ p ∈ T, p.1 = P → p.2 = X.env.qual ++ "<lambda>") (hfree : ∀ (ok : X.Ok), ∀ y ∈ scope.names, y.2 = .free → ∃ c, X.env.cells.lookup y.1 = some c) (hd : params.defaults = [.Constant (.int i) j dp] := by rfl) (hk : params.kw_defaults = [] := by rfl) :
    PE X (.Lambda params body scope pos) (tLamV T (X.env.qual ++ "<lambda>") params body scope (cloFrom X.env.cells scope.names []) (Dflt1 i)) := by
  refine ⟨fun pins s σ H Q I h => ?_⟩
  obtain ⟨hT, h⟩ := h
  refine PySem.W.kdv_lam (by rw [hd]; rfl) hk ?_
  rw [hd]
  refine PySem.W.kdv_all1 (thn ((pe_int (X := X) (i := i) (j := j) (pos := dp)).run pins s σ H (fun v H' => v = .int i ∧ H' = H) I ⟨rfl, rfl⟩) fun u s1 hh => PySem.W.kdv_all0 ?_)
  obtain ⟨v, H', I1, r, ev, eH⟩ := hh
  subst ev
  subst eH
  obtain ⟨tk, eu⟩ := r
  subst eu
  rw [makeFunction_eq]
  simp only [List.zip_nil_right, List.filterMap_nil, List.isEmpty_nil, List.isEmpty_cons, Bool.false_eq_true, if_false, if_true, pure_bind]
  refine wpAny_bind (wpAny_newTextTuple ?_)
  obtain ⟨q1, q2, q3, q4, q5⟩ := fresh_facts I1 (f := s1.heap.objs.size) (Nat.le_refl _)
  have I2 := I1.kept (t' := s1.toks) (h' := s1.heap.push (PySem.W.kdv_tup [.int i tk])) fun b o e => Heap.get?_push_of_some _ e
  have I3 := track I2 q1 q2 q3 q4 q5 (frz_ok (Heap.get?_push_size _ rfl))
  have eH : ∀ b o, H' b = some o → upd H' s1.heap.objs.size (frzO (PySem.W.kdv_tup [.int i tk])) b = some o := fun b o e => by
    rw [upd_ne (ne_of_none e q1)]
    exact e
  refine lam_tail I3 TB hcode hm hu (hT.ext eH) (hfree I3.ok) fun f c' doc pm ctv H1 s' e1 tkb t1 n1 k1 I4 => ⟨.ref f, _, I4, rfl, h H1 f c' _ doc pm ctv (clo_inj I.ok (hfree I.ok)) (fun b o e n => e1 b o (eH b o e) n) (tkb.ext eH) t1 ⟨_, tk, rfl, e1 _ _ upd_same fun ps z => by cases z⟩ n1 k1⟩
end
end GX
namespace GX
open PySem PySem.Spec PyProof.Rows L2 LamX
/-- what stands at f may be called without arguments: where ph holds of the heap it keeps the promise sp -/
def CallOk (P : Program) (w : World) (K : PySem.W.Frag) (mg : Str → Option Value) (base : Heap) (k : Nat) (f : Addr) (ph : Hp → Prop) (sp : Hp → VK → XK → Prop) : Prop :=
  ∀ (A : Around) (outer : List Env) (s : Shared) (H : Hp) (Q : VK) (E : XK), Room k A → Env0 P w K mg base A outer s H → ph H → sp H Q E →
    codeAny (model P w) A (.call (.ref f) ⟨[], []⟩) (CR (L2.CX P w) outer P w H s Q E) s
theorem CallOk.mono {P : Program} {w : World} {K : PySem.W.Frag} {mg : Str → Option Value} {base : Heap} {j k : Nat} {f : Addr} {ph : Hp → Prop} {sp : Hp → VK → XK → Prop} (c : CallOk P w K mg base j f ph sp) (h : j ≤ k) : CallOk P w K mg base k f ph sp :=
  fun A outer s H Q E hr => c A outer s H Q E (hr.mono h)
/-- a function object that is known as it is -/
def FnObj (H : Hp) (f : Addr) : Prop := ∃ (o : Obj) (fd : FuncData) (u : HO), H f = some (.frz o u) ∧ o.data = .func fd
theorem FnObj.at {X : Cx} {pins : List (Addr × Obj)} {σ : L2.St} {H : Hp} {s : Shared} {f : Addr} (h : FnObj H f) (I : Inv X pins σ H s) : PySem.W.FnAt f s.heap := by
  obtain ⟨o, fd, u, e, d⟩ := h
  obtain ⟨q, _⟩ := I.hok f _ e
  obtain ⟨oc, od, dt, sl⟩ := o
  cases d
  exact ⟨oc, od, fd, sl, q⟩
def tAct (P : Program) (w : World) (K : PySem.W.Frag) (mg : Str → Option Value) (base : Heap) (k i : Nat) (E : XK) : TE := fun σ H Q =>
  ∃ (f : Addr) (ph : Hp → Prop) (sp : Hp → VK → XK → Prop), σ[i]? = some (some (.ref f)) ∧ FnObj H f ∧ CallOk P w K mg base k f ph sp ∧ ph H ∧ sp H Q E
section
variable {X : Cx}
/-- a(), a the def's own name that holds such a thing -/
theorem pe_act0 {k i : Nat} {a : Str} {E : XK} {p1 p2 : Pos} (hr : Room k X.A) (hx : Passes (L2.CX X.prog X.w) X E) (hN : X.N[i]? = some a) (hv : Vis X.env.scope a) (hd : (a == ("__debug__" : Str)) = false := by decide) (hcd : (a == ("__classdict__" : Str)) = false := by decide) :
    PE X (.Call (.Name a p1) [] [] p2) (tAct X.prog X.w X.K X.mg X.base k i E) := by
  refine ⟨fun pins s σ H Q I h => ?_⟩
  obtain ⟨f, ph, sp, hs, ho, hc, hp, ht⟩ := h
  refine wpAny_Call_Name_kw (thn ((pe_var (pos := p1) (i := i) hN hv hd hcd).run pins s σ H (fun v H1 => v = .ref f ∧ H1 = H) I ⟨.ref f, hs, rfl, rfl⟩) fun u s1 hh => ?_)
  obtain ⟨v, H1, I1, r1, ev, eH⟩ := hh
  subst ev
  subst eH
  obtain rfl : u = Value.ref f := r1
  refine PySem.W.callWith_F0 (ho.at I1) ?_
  refine wpAny_call (codeAny_mono (hc X.A X.stack s1 H1 Q E hr I1.env0 hp ht) fun r s' hq => ?_)
  cases r with
  | error e => exact hx pins σ H1 s1 e s' I1 hq
  | ok fl =>
    cases fl with
    | ret u => exact I1.after hq
    | next => exact False.elim hq
    | brk => exact False.elim hq
    | cont => exact False.elim hq
end
/-! ### the maker's cells, known as they are while a def of it is called -/
def CellOf (X : Cx) (c : Addr) : Prop := ∃ y, X.env.cells.lookup y = some c
open Classical in
noncomputable def unf (S : Addr → Prop) (H : Hp) : Hp := fun b => if S b then none else H b
open Classical in
noncomputable def ref2 (S : Addr → Prop) (H H' : Hp) : Hp := fun b => if S b then H b else H' b
theorem unf_in {S : Addr → Prop} {H : Hp} {b : Addr} (h : S b) : unf S H b = none := by unfold unf; rw [if_pos h]
theorem unf_out {S : Addr → Prop} {H : Hp} {b : Addr} (h : ¬ S b) : unf S H b = H b := by unfold unf; rw [if_neg h]
theorem ref2_in {S : Addr → Prop} {H H' : Hp} {b : Addr} (h : S b) : ref2 S H H' b = H b := by unfold ref2; rw [if_pos h]
theorem ref2_out {S : Addr → Prop} {H H' : Hp} {b : Addr} (h : ¬ S b) : ref2 S H H' b = H' b := by unfold ref2; rw [if_neg h]
/-- H2 is H, the cells of X beside, as they stand -/
structure Frozen (X : Cx) (σ : L2.St) (H H2 : Hp) : Prop where
  out : ∀ b, ¬ CellOf X b → H2 b = H b
  free : ∀ b, CellOf X b → H b = none
  any : ∀ b, CellOf X b → ∃ o v, H2 b = some (frzO o) ∧ o.data = .cell v
  cell : ∀ (y : Str) (c : Addr) (i : Nat) (v : V), X.env.cells.lookup y = some c → X.N[i]? = some y → Vis X.env.scope y → X.env.scope.names.lookup y ≠ some .local → σ[i]? = some (some v) → ∃ o u, H2 c = some (frzO o) ∧ o.data = .cell (some u) ∧ RelV v u
section
variable {X : Cx} {pins : List (Addr × Obj)} {σ : L2.St} {H H2 H' : Hp} {s s' : Shared}
theorem Frozen.ext (z : Frozen X σ H H2) {b : Addr} {o : HO} (e : H b = some o) : H2 b = some o := by
  by_cases hb : CellOf X b
  · rw [z.free b hb] at e; cases e
  · rw [z.out b hb]; exact e
theorem freeze (I : Inv X pins σ H s) (hfn : ∀ y, X.fn y = true) : ∃ H2, Frozen X σ H H2 ∧ Env0 X.prog X.w X.K X.mg X.base X.A X.stack s H2 ∧ ∀ b, CellOf X b → ∃ o, s.heap.get? b = some o ∧ H2 b = some (frzO o) := by
  classical
  let H2 : Hp := fun b => if CellOf X b then (s.heap.get? b).map frzO else H b
  have hin : ∀ {b}, CellOf X b → H2 b = (s.heap.get? b).map frzO := fun {b} h => if_pos h
  have hout : ∀ {b}, ¬ CellOf X b → H2 b = H b := fun {b} h => if_neg h
  have free : ∀ b, CellOf X b → H b = none := fun b h => by obtain ⟨y, e⟩ := h; exact I.freeC y b e
  have young : ∀ b, CellOf X b → X.s_0.heap.objs.size ≤ b := fun b h => by obtain ⟨y, e⟩ := h; exact I.ok.cab y b (hfn y) e
  have obj : ∀ b, CellOf X b → ∃ o v, s.heap.get? b = some o ∧ o.data = .cell v := fun b h => by
    obtain ⟨y, e⟩ := h
    obtain ⟨v, o, ho, hd⟩ := I.cell y b e
    exact ⟨o, v, ho, hd⟩
  have at_ : ∀ b o, H b = some o → H2 b = some o := fun b o e => by
    by_cases hb : CellOf X b
    · rw [free b hb] at e; cases e
    · rw [hout hb]; exact e
  refine ⟨H2, ⟨fun b h => hout h, free, fun b h => ?_, fun y c i v e1 e2 e3 e4 e5 => ?_⟩, ⟨I.ok.frames, I.ok.mod, fun b o e => ⟨I.bk b o e, ?_⟩, Nat.le_trans I.ok.bsz I.sz, I.stack, fun b hb => ?_, fun b u e => ?_, I.bare⟩, fun b h => ?_⟩
  · obtain ⟨o, v, ho, hd⟩ := obj b h
    exact ⟨o, v, by rw [hin h, ho]; rfl, hd⟩
  · obtain ⟨m, hn, hl⟩ := I.loc
    obtain ⟨u, r, q⟩ := hl i y v e2 e5 e3
    rcases q with ⟨k, _⟩ | ⟨_, c2, ec, o, ho, hd⟩
    · exact absurd k e4
    · rw [e1] at ec
      cases ec
      exact ⟨o, u, by rw [hin ⟨y, e1⟩, ho]; rfl, hd, r⟩
  · have hb : ¬ CellOf X b := fun h => by
      have h1 := young b h
      have h2 := Heap.lt_size (I.ok.bs b o e).1
      exact absurd (Nat.lt_of_lt_of_le h2 h1) (Nat.lt_irrefl _)
    rw [hout hb]
    exact (I.bs b o e).2
  · have nb : ¬ CellOf X b := fun h => by
      rcases List.mem_cons.mp (I.stkSub b hb) with z | z
      · obtain ⟨y, e⟩ := h
        exact I.cne y b e z
      · obtain ⟨_, o, ho, _⟩ := I.ok.funs.mem z
        exact absurd (Nat.lt_of_lt_of_le (Heap.lt_size ho) (young b h)) (Nat.lt_irrefl _)
    rw [hout nb]
    exact I.stkFree b hb
  · by_cases hb : CellOf X b
    · obtain ⟨o, v, ho, hd⟩ := obj b hb
      rw [hin hb, ho] at e
      cases e
      exact frz_ok ho
    · rw [hout hb] at e
      exact (I.hok b u e).stay (fun _ _ _ q => q) (fun c q => at_ c _ q) fun c xs q => at_ c _ q
  · obtain ⟨o, v, ho, hd⟩ := obj b h
    exact ⟨o, ho, by rw [hin h, ho]; rfl⟩
theorem unfreeze (I : Inv X pins σ H s) (z : Frozen X σ H H2) (hz : ∀ b, CellOf X b → ∃ o, s.heap.get? b = some o ∧ H2 b = some (frzO o)) (os : s'.os = s.os) (ag : AllBare s'.gens) (un : Un (frs X.stack) [] H2 H' s.heap s'.heap) (hok : HOk X.prog X.w H' s'.heap) :
    Inv X pins σ (unf (CellOf X) H') s' := by
  have cellH : ∀ b, CellOf X b → ∃ o, s.heap.get? b = some o ∧ s'.heap.get? b = some o ∧ H' b = some (frzO o) := fun b h => by
    obtain ⟨o, ho, e⟩ := hz b h
    have e2 := un.frzs b o _ e
    exact ⟨o, ho, (hok b _ e2).1, e2⟩
  have out : ∀ {b o}, H b = some o → ¬ CellOf X b := fun {b o} e h => by rw [z.free b h] at e; cases e
  have nf : ∀ {b u}, H' b = some u → (∀ o, u ≠ frzO o) → ¬ CellOf X b := fun {b u} e n h => by
    obtain ⟨o, _, _, q⟩ := cellH b h
    rw [e] at q
    exact n o (Option.some.inj q)
  refine I.call' (ch := []) os ⟨fun b o e n hb hx => ?_, fun b o e n hb hx => ?_, fun b o e n hx => ?_, fun b o e hx => un.there b o e hx, fun b xs e => ?_, fun b o xs e => ?_, fun b ps e => ?_⟩ (fun b u e => ?_) ag fun b hb => absurd hb (by simp)
  · by_cases hc : CellOf X b
    · obtain ⟨o', h1, h2, _⟩ := cellH b hc
      rw [e] at h1
      cases h1
      exact h2
    · exact un.keep b o e (by rw [z.out b hc]; exact n) hb hx
  · by_cases hc : CellOf X b
    · obtain ⟨o', h1, h2, _⟩ := cellH b hc
      rw [e] at h1
      cases h1
      exact ⟨o.slots, h2⟩
    · exact un.slot b o e (by rw [z.out b hc]; exact n) hb hx
  · by_cases hc : CellOf X b
    · exact unf_in hc
    · rw [unf_out hc]
      exact un.free b o e (by rw [z.out b hc]; exact n) hx
  · rw [unf_out (out e)]
    exact un.tups b xs (z.ext e)
  · rw [unf_out (out e)]
    exact un.frzs b o xs (z.ext e)
  · obtain ⟨more, q⟩ := un.tbls b ps (z.ext e)
    exact ⟨more, by rw [unf_out (out e)]; exact q⟩
  · by_cases hc : CellOf X b
    · rw [unf_in hc] at e; cases e
    · rw [unf_out hc] at e
      exact (hok b u e).stay (fun _ _ _ q => q) (fun c q => by rw [unf_out (nf q fun o z => by cases z)]; exact q) fun c xs q => by rw [unf_out (nf q fun o z => by cases z)]; exact q
/-- f(e, ..): the callee may know the caller's cells -/
def tCallF (X : Cx) (sp : Sp) (t : TA) : TE := fun σ H Q => t σ H fun vs H1 => ∀ H2, Frozen X σ H1 H2 → sp vs H2 (fun v H' => Q v (unf (CellOf X) H')) fun _ _ _ => False
theorem pe_callF {k : Nat} {f : Addr} {fd : FuncData} {ps : List Str} {sp : Sp} {x : Str} {p pos : Pos} {e : Expr} {es : List Expr} {t : TA} (F : FnOk X.prog X.w X.K X.mg X.base CX0 k f fd ps sp) (hr : Room k X.A) (hfn : ∀ y, X.fn y = true) (hg : Gl X x) (hm : X.mg x = some (.ref f)) (hk : PySem.W.keepIn X.K (.ref f) = true) (hb : Binds X.K fd ps [])
    (ha : PA X (e :: es) t) (hdb : (x == ("__debug__" : Str)) = false := by decide) (he : starEach (e :: es) X.env = (false, eval e X.env) :: starEach es X.env := by rfl) (hpl : (backTo pos (starEach es X.env)).any (·.1) = false := by rfl) :
    PE X (.Call (.Name x p) (e :: es) [] pos) (tCallF X sp t) := by
  refine ⟨fun pins s σ H Q I h => ?_⟩
  refine wpAny_Call_Name_kw (ld_glob I hg hm ?_ hdb)
  refine PySem.W.callWith_K (h₀ := X.base) I.ok.mod.kin hk (thn (ha.run pos pins s σ H _ I h) fun us s1 hh => ?_) he hpl
  obtain ⟨vs, H1, I1, r, q⟩ := hh
  refine ⟨I1.kIn, ?_⟩
  obtain ⟨H2, z, e0, hz⟩ := freeze I1 hfn
  have sp2 := q H2 z
  have hl : us.length = ps.length := by rw [← r.length]; exact F.len _ _ _ _ sp2
  have hb2 := hb s1 us I1.kIn (by rw [List.append_nil]; exact hl)
  rw [List.append_nil] at hb2
  refine wpAny_call (codeAny_mono (F.run X.A X.stack s1 H2 ⟨us, []⟩ us vs _ _ hr e0 hb2 r sp2) fun r s' hq => ?_)
  cases r with
  | error e => exact (show False from hq).elim
  | ok fl =>
    cases fl with
    | ret u =>
      obtain ⟨v, H', os, bare, un, hok, rv, qv⟩ := hq
      exact ⟨v, unf (CellOf X) H', unfreeze I1 z hz os bare un hok, rv, qv⟩
    | next => exact False.elim hq
    | brk => exact False.elim hq
    | cont => exact False.elim hq
end
end GX
namespace GX
open PySem PySem.Spec PyProof.Rows L2 LamX
def CS (clos : List (Str × Addr)) (c : Addr) : Prop := ∃ y, clos.lookup y = some c
/-- the context of a lambda's body -/
def lCx (P : Program) (w : World) (K : PySem.W.Frag) (mg : Str → Option Value) (base : Heap) (Nl : List Str) (q : Str) (scope : Scope) (f c' : Addr) (clos : List (Str × Addr)) (A : Around) (outer : List Env) (s : Shared) (H : Hp) (E : XK) : Cx where
  prog := P
  w := w
  K := K
  mg := mg
  base := base
  A := A.deeper (PySem.W.envX q scope s.heap.objs.size f (.ref c') clos)
  N := Nl
  s_0 := s
  H_0 := H
  env := PySem.W.envX q scope s.heap.objs.size f (.ref c') clos
  outer := outer
  stack := PySem.W.envX q scope s.heap.objs.size f (.ref c') clos :: outer
  ex := []
  fn := fun _ => false
  calm := true
  pn := []
  xe := fun e s' => wpAny (model P w) (A.deeper (PySem.W.envX q scope s.heap.objs.size f (.ref c') clos)) (leaving (PySem.W.envX q scope s.heap.objs.size f (.ref c') clos) e)
    (fun _ s'' => L2.CX P w outer H s E e s'') (fun e' s'' => L2.CX P w outer H s E e' s'') s'
theorem passes_l {P : Program} {w : World} {K : PySem.W.Frag} {mg : Str → Option Value} {base : Heap} {Nl : List Str} {q : Str} {scope : Scope} {f c' : Addr} {clos : List (Str × Addr)} {A : Around} {outer : List Env} {s : Shared} {H : Hp} {E : XK} :
    Passes (L2.CX P w) (lCx P w K mg base Nl q scope f c' clos A outer s H E) E :=
  passes_call (X := lCx P w K mg base Nl q scope f c' clos A outer s H E) (W := fun cls d _ H => E cls d H) (takes_of rfl rfl rfl rfl) fun _ _ _ _ h => h
/-- what is known of the heap where the lambda is called -/
def LamAt (q : Str) (params : Arguments) (body : Expr) (scope : Scope) (clos : List (Str × Addr)) (dV doc pm : Value) (c' : Addr) (ctv : Value) (D : Value → Hp → Prop) (Nl : List Str) (τ : L2.St) (f : Addr) (H : Hp) : Prop :=
  H f = some (frzO (lamObj q params body scope clos dV doc pm c' ctv)) ∧ H c' = some (CodeO c' q) ∧ D dV H ∧
    ∀ y c, clos.lookup y = some c → ∃ o u, H c = some (frzO o) ∧ o.data = .cell u ∧ ∀ (i : Nat) (v : V), Nl[i]? = some y → τ[i]? = some (some v) → ∃ u', u = some u' ∧ RelV v u'
/-- a lambda's names -/
structure LScope (Nl : List Str) (sc : Scope) : Prop where
  kind : sc.kind = .function
  co : sc.isCoroutine = false
  gen : sc.isGenerator = false
  cell : ∀ y ∈ sc.names, y.2 ≠ .cell
section
variable {P : Program} {w : World} {K : PySem.W.Frag} {mg : Str → Option Value} {base : Heap} {Nl : List Str} {q : Str} {scope : Scope} {f c' : Addr} {clos : List (Str × Addr)} {params : Arguments} {body : Expr} {dV doc pm ctv : Value} {k : Nat} {D : Value → Hp → Prop} {τ : L2.St} {tb : XK → TE}
theorem callOk_core {ar : Args} {binds : List (Str × Value)} (S : LScope Nl scope) (hinj : InjC clos) (hclos : ∀ y, (scope.names.lookup y = some .cell ∨ scope.names.lookup y = some .free) → ∃ c, clos.lookup y = some c) (hlen : τ.length = Nl.length)
    {A : Around} {outer : List Env} {s : Shared} {H : Hp} {Q : VK} {E : XK} (hr : Room (k + 1) A) (e0 : Env0 P w K mg base A outer s H) (hp : LamAt q params body scope clos dV doc pm c' ctv D Nl τ f H)
    (hb : BindsTo s (PySem.W.kdv_fn "<lambda>" q params (.expr body) scope clos dV doc pm (.ref c') ctv) ar binds) (hl : ∀ y ∈ binds, scope.names.lookup y.1 = some .local)
    (hloc : ∀ (i : Nat) (y : Str) (v : V), Nl[i]? = some y → τ[i]? = some (some v) → scope.names.lookup y = some .local → ∃ u, RelV v u ∧ binds.reverse.lookup y = some u)
    (hbody : ∀ (A : Around) (outer : List Env) (s : Shared) (H : Hp) (E : XK), Room k (A.deeper (PySem.W.envX q scope s.heap.objs.size f (.ref c') clos)) → PE (lCx P w K mg base Nl q scope f c' clos A outer s H E) body (tb E))
    (h : tb (fun cls d H' => (∀ b, CS clos b → H' b = none) → E cls d (ref2 (CS clos) H H')) τ (unf (CS clos) H) (fun v H' => (∀ b, CS clos b → H' b = none) → Q v (ref2 (CS clos) H H'))) : codeAny (model P w) A (.call (.ref f) ar) (CR (L2.CX P w) outer P w H s Q E) s := by
  obtain ⟨hf, hc, hD, hcell⟩ := hp
  have cellH : ∀ b, CS clos b → ∃ o u, s.heap.get? b = some o ∧ H b = some (frzO o) ∧ o.data = .cell u := fun b hb => by
    obtain ⟨y, e⟩ := hb
    obtain ⟨o, u, e1, e2, _⟩ := hcell y b e
    exact ⟨o, u, (e0.hok b _ e1).1, e1, e2⟩
  have nf : ∀ {b u}, H b = some u → (∀ o, u ≠ frzO o) → ¬ CS clos b := fun {b u} e n hb => by
    obtain ⟨o, _, _, q, _⟩ := cellH b hb
    rw [e] at q
    exact n o (Option.some.inj q)
  have nn : ∀ {b}, H b = none → ¬ CS clos b := fun {b} e hb => by
    obtain ⟨o, _, _, q, _⟩ := cellH b hb
    rw [e] at q
    cases q
  have hidN : ∀ {b : Addr} {H' : Hp}, CS clos b → (∀ {u}, H' b = some u → ¬ CS clos b) → H' b = none := fun {b H'} hb n => by
    cases q : H' b with
    | none => rfl
    | some u => exact absurd hb (n q)
  have un0 : ∀ {b}, H b = none → unf (CS clos) H b = none := fun {b} e => by rw [unf_out (nn e)]; exact e
  have hok1 : HOk P w (unf (CS clos) H) s.heap := fun b u e => by
    by_cases hb : CS clos b
    · rw [unf_in hb] at e; cases e
    · rw [unf_out hb] at e
      exact (e0.hok b u e).stay (fun _ _ _ q => q) (fun c q => by rw [unf_out (nf q fun o z => by cases z)]; exact q) fun c xs q => by rw [unf_out (nf q fun o z => by cases z)]; exact q
  have e1 : Env0 P w K mg base A outer s (unf (CS clos) H) := ⟨e0.frames, e0.mod, fun b o e => ⟨(e0.bs b o e).1, un0 (e0.bs b o e).2⟩, e0.bsz, e0.funs, fun b hb => un0 (e0.frf b hb), hok1, e0.bare⟩
  obtain ⟨⟨oc, vs, t, hoc, hdc, hvc⟩, _, _⟩ := e0.hok c' _ hc
  have lim : s.heap.NoLimit := e0.mod.nolimit.keeps fun b o e => (e0.bs b o e).1
  refine PySem.W.kla_callFunE hr.depth (e0.hok f _ hf).1 rfl S.co S.gen rfl ⟨c', oc, vs, t, rfl, hoc, hdc, hvc⟩ ?_
  refine hb _ _ _ _ ?_
  refine wpAny_newFunctionEnv S.cell hl (fun h₁ hns hsb => ⟨lim.fresh _ hsb, ?_⟩) S.kind
  show codeAny _ _ (.expr body (PySem.W.envX q scope s.heap.objs.size f (.ref c') clos)) _ _
  have kp : ∀ b o, s.heap.get? b = some o → h₁.get? b = some o := fun b o e => hsb.extBut b o (Nat.ne_of_lt (Heap.lt_size e)) (Heap.get?_push_of_some _ e)
  have cellK : ∀ {y c}, clos.lookup y = some c → ∃ o u, h₁.get? c = some o ∧ o.data = .cell u ∧ ∀ (i : Nat) (v : V), Nl[i]? = some y → τ[i]? = some (some v) → ∃ u', u = some u' ∧ RelV v u' := fun {y c} e => by
    obtain ⟨o, u, q1, q2, q3⟩ := hcell y c e
    exact ⟨o, u, kp _ _ (e0.hok c _ q1).1, q2, q3⟩
  have J : Inv (lCx P w K mg base Nl q scope f c' clos A outer s (unf (CS clos) H) fun cls d H' => (∀ b, CS clos b → H' b = none) → E cls d (ref2 (CS clos) H H')) [] τ (unf (CS clos) H) { s with heap := h₁, toks := s.toks + binds.length } := by
    have noA : ∀ b : Addr, b ∉ (lCx P w K mg base Nl q scope f c' clos A outer s (unf (CS clos) H) fun cls d H' => (∀ b, CS clos b → H' b = none) → E cls d (ref2 (CS clos) H H')).ex := fun b z => absurd (show b ∈ ([] : List Addr) from z) (by simp)
    refine ⟨⟨e1.mod, S.kind, rfl, rfl, Nat.le_refl _, fun y z c q1 q2 => hinj y z c q1 q2, fun y hy => hclos y hy, fun y c z _ => absurd (show false = true from z) Bool.false_ne_true, fun _ => hr.hd, Around.frames_deeper e1.frames, .inr ⟨rfl, rfl⟩, fun b z => absurd z (noA b), e1.bs, e1.bsz, fun b _ _ => noA b,
        fun b z => absurd z (noA b), e1.funs, e1.frf⟩,
      rfl, e1.bare, Un.kept kp, ⟨_, hns, fun i y v q1 q2 q3 => ?_⟩, fun y c e => ?_, e1.hok.fresh (Nat.le_refl _), fun y c e => ?_, fun p hp => absurd (show p ∈ ([] : List (Addr × Obj)) from hp) (by simp), e1.hok.kept kp, hlen⟩
    · have q3 : scope.names.lookup y = some .local ∨ scope.names.lookup y = some .cell ∨ scope.names.lookup y = some .free := q3
      rcases q3 with k1 | k1 | k1
      · obtain ⟨u, r, e⟩ := hloc i y v q1 q2 k1
        exact ⟨u, r, .inl ⟨k1, e⟩⟩
      · exact absurd rfl (S.cell _ (PySem.mem_of_lookup k1))
      · obtain ⟨c, ec⟩ := hclos y (.inr k1)
        obtain ⟨o, u, o1, o2, o3⟩ := cellK ec
        obtain ⟨u', eu, r⟩ := o3 i v q1 q2
        exact ⟨u', r, .inr ⟨.inr k1, c, ec, o, o1, by rw [o2, eu]⟩⟩
    · obtain ⟨o, u, o1, o2, _⟩ := cellK e
      exact ⟨u, o, o1, o2⟩
    · exact unf_in ⟨y, e⟩
  refine PySem.W.kla_codeExpr (wpAny_mono ((hbody A outer s _ _ (hr.deeper _)).run [] _ τ _ _ J h) (fun v s' hq => ?_) fun e s' hq => wpAny_mono hq (fun _ s'' hx => ?_) fun e' s'' hx => ?_)
  · obtain ⟨v', H', J', rv, q1⟩ := hq
    have un : Un (frs outer) [] (unf (CS clos) H) H' s.heap s'.heap := J'.base
    have cellB : ∀ b, CS clos b → ∃ o, H b = some (frzO o) ∧ s'.heap.get? b = some o := fun b hb => by
      obtain ⟨o, u, o1, o2, o3⟩ := cellH b hb
      have nfr : b ∉ frs outer := fun hm => by
        have z := e0.frf b hm
        rw [o2] at z
        cases z
      exact ⟨o, o2, un.keep b o o1 (unf_in hb) nfr (by simp)⟩
    have nC : ∀ {b u}, H' b = some u → ¬ CS clos b := fun {b u} e hb => by
      obtain ⟨o, _, o1, _, _⟩ := cellH b hb
      have z := un.free b o o1 (unf_in hb) (by simp)
      rw [e] at z
      cases z
    refine ⟨v', ref2 (CS clos) H H', J'.os, J'.bare, ⟨fun b o e n hb hx => un.keep b o e (un0 n) hb hx, fun b o e n hb hx => un.slot b o e (un0 n) hb hx, fun b o e n hx => ?_, fun b o e hx => un.there b o e hx, fun b xs e => ?_, fun b o xs e => ?_, fun b ps e => ?_⟩, fun b u e => ?_, rv, q1 fun b hb => hidN hb fun {u} e => nC e⟩
    · rw [ref2_out (nn n)]
      exact un.free b o e (un0 n) hx
    · have nb := nf e fun o z => by cases z
      rw [ref2_out nb]
      exact un.tups b xs (by rw [unf_out nb]; exact e)
    · by_cases hb : CS clos b
      · rw [ref2_in hb]; exact e
      · rw [ref2_out hb]
        exact un.frzs b o xs (by rw [unf_out hb]; exact e)
    · have nb := nf e fun o z => by cases z
      obtain ⟨more, z⟩ := un.tbls b ps (by rw [unf_out nb]; exact e)
      exact ⟨more, by rw [ref2_out nb]; exact z⟩
    · by_cases hb : CS clos b
      · obtain ⟨o, o1, o2⟩ := cellB b hb
        rw [ref2_in hb, o1] at e
        cases e
        exact frz_ok o2
      · rw [ref2_out hb] at e
        exact (J'.hok b u e).stay (fun _ _ _ q => q) (fun c q => by rw [ref2_out (nC q)]; exact q) fun c xs q => by rw [ref2_out (nC q)]; exact q
  all_goals
    obtain ⟨a, B, H', cls, d, ea, fl, hokB, ub, na, os, ag, hW⟩ := hx
    have cellB : ∀ b, CS clos b → ∃ o, H b = some (frzO o) ∧ B.get? b = some o := fun b hb => by
      obtain ⟨o, u, o1, o2, o3⟩ := cellH b hb
      have nfr : b ∉ frs outer := fun hm => by
        have z := e0.frf b hm
        rw [o2] at z
        cases z
      exact ⟨o, o2, ub.keep b o o1 (unf_in hb) nfr⟩
    have nC : ∀ {b u}, H' b = some u → ¬ CS clos b := fun {b u} e hb => by
      obtain ⟨o, _, o1, _, _⟩ := cellH b hb
      have z := ub.free b o o1 (unf_in hb)
      rw [e] at z
      cases z
    refine ⟨a, B, ref2 (CS clos) H H', cls, d, ea, fl, fun b u e => ?_, ⟨fun b o e n hb => ub.keep b o e (un0 n) hb, fun b o e hb => ub.slot b o e hb, fun b o e n => ?_, fun b o e hb => ub.there b o e hb, fun b xs e => ?_, fun b o xs e => ?_, fun b ps e => ?_⟩, ?_, os, ag, hW fun b hb => hidN hb fun {u} e => nC e⟩
    · by_cases hb : CS clos b
      · obtain ⟨o, o1, o2⟩ := cellB b hb
        rw [ref2_in hb, o1] at e
        cases e
        exact frz_ok o2
      · rw [ref2_out hb] at e
        exact (hokB b u e).stay (fun _ _ _ q => q) (fun c q => by rw [ref2_out (nC q)]; exact q) fun c xs q => by rw [ref2_out (nC q)]; exact q
    · rw [ref2_out (nn n)]
      exact ub.free b o e (un0 n)
    · have nb := nf e fun o z => by cases z
      rw [ref2_out nb]
      exact ub.tups b xs (by rw [unf_out nb]; exact e)
    · by_cases hb : CS clos b
      · rw [ref2_in hb]; exact e
      · rw [ref2_out hb]
        exact ub.frzs b o xs (by rw [unf_out hb]; exact e)
    · have nb := nf e fun o z => by cases z
      obtain ⟨more, z⟩ := ub.tbls b ps (by rw [unf_out nb]; exact e)
      exact ⟨more, by rw [ref2_out nb]; exact z⟩
    · have nb : ¬ CS clos a := fun hb => by
        obtain ⟨o, _, o2⟩ := cellB a hb
        have z := fl.2.1
        rw [o2] at z
        cases z
      rw [ref2_out nb]
      exact na
/-- a lambda without parameters -/
theorem callOk_lam0 (S : LScope Nl scope) (hinj : InjC clos) (hclos : ∀ y, (scope.names.lookup y = some .cell ∨ scope.names.lookup y = some .free) → ∃ c, clos.lookup y = some c) (hlen : τ.length = Nl.length) (hnl : ∀ (i : Nat) (y : Str), Nl[i]? = some y → scope.names.lookup y ≠ some .local)
    (hbind : ∀ (doc pm cv ctv : Value), bindArgs (PySem.W.kdv_fn "<lambda>" q params (.expr body) scope clos .none doc pm cv ctv) ⟨[], []⟩ = pure [])
    (hbody : ∀ (A : Around) (outer : List Env) (s : Shared) (H : Hp) (E : XK), Room k (A.deeper (PySem.W.envX q scope s.heap.objs.size f (.ref c') clos)) → PE (lCx P w K mg base Nl q scope f c' clos A outer s H E) body (tb E)) :
    CallOk P w K mg base (k + 1) f (LamAt q params body scope clos dV doc pm c' ctv (fun dV _ => dV = .none) Nl τ f) (fun H Q E => tb (fun cls d H' => (∀ b, CS clos b → H' b = none) → E cls d (ref2 (CS clos) H H')) τ (unf (CS clos) H) fun v H' => (∀ b, CS clos b → H' b = none) → Q v (ref2 (CS clos) H H')) := by
  intro A outer s H Q E hr e0 hp h
  obtain ⟨_, _, eD, _⟩ := id hp
  subst eD
  exact callOk_core (binds := []) S hinj hclos hlen hr e0 hp (.of_eq (hbind _ _ _ _)) (fun y hy => absurd hy (by simp)) (fun i y v e1 _ e3 => absurd e3 (hnl i y e1)) hbody h
/-- a lambda with one parameter that has a default -/
theorem callOk_lam1 {i : Int} {a : Str} (S : LScope Nl scope) (hinj : InjC clos) (hclos : ∀ y, (scope.names.lookup y = some .cell ∨ scope.names.lookup y = some .free) → ∃ c, clos.lookup y = some c) (hlen : τ.length = Nl.length) (hnl : ∀ (j : Nat) (y : Str), Nl[j + 1]? = some y → scope.names.lookup y ≠ some .local)
    (h0 : Nl[0]? = some a) (ha : scope.names.lookup a = some .local) (hτ : τ[0]? = some (some (.int i)))
    (hbind : ∀ (s : Shared) (t : Addr) (u : Tok) (doc pm cv ctv : Value), s.heap.get? t = some (PySem.W.kdv_tup [.int i u]) → BindsTo s (PySem.W.kdv_fn "<lambda>" q params (.expr body) scope clos (.ref t) doc pm cv ctv) ⟨[], []⟩ [(a, .int i u)])
    (hbody : ∀ (A : Around) (outer : List Env) (s : Shared) (H : Hp) (E : XK), Room k (A.deeper (PySem.W.envX q scope s.heap.objs.size f (.ref c') clos)) → PE (lCx P w K mg base Nl q scope f c' clos A outer s H E) body (tb E)) :
    CallOk P w K mg base (k + 1) f (LamAt q params body scope clos dV doc pm c' ctv (Dflt1 i) Nl τ f) (fun H Q E => tb (fun cls d H' => (∀ b, CS clos b → H' b = none) → E cls d (ref2 (CS clos) H H')) τ (unf (CS clos) H) fun v H' => (∀ b, CS clos b → H' b = none) → Q v (ref2 (CS clos) H H')) := by
  intro A outer s H Q E hr e0 hp h
  obtain ⟨_, _, ⟨t, u, eD, et⟩, _⟩ := id hp
  subst eD
  refine callOk_core (binds := [(a, .int i u)]) S hinj hclos hlen hr e0 hp (hbind s t u _ _ _ _ (e0.hok t _ et).1) (fun y hy => ?_) (fun j y v e1 e2 e3 => ?_) hbody h
  · rw [List.mem_singleton.mp hy]
    exact ha
  · cases j with
    | zero =>
      rw [h0] at e1
      cases e1
      rw [hτ] at e2
      cases e2
      exact ⟨.int i u, ⟨u, rfl⟩, by simp⟩
    | succ j => exact absurd e3 (hnl j y e1)
/-- .. called with values -/
def CallOkV (P : Program) (w : World) (K : PySem.W.Frag) (mg : Str → Option Value) (base : Heap) (k : Nat) (f : Addr) (us : List Value) (ph : Hp → Prop) (sp : Hp → VK → XK → Prop) : Prop :=
  ∀ (A : Around) (outer : List Env) (s : Shared) (H : Hp) (Q : VK) (E : XK), Room k A → Env0 P w K mg base A outer s H → ph H → sp H Q E →
    codeAny (model P w) A (.call (.ref f) ⟨us, []⟩) (CR (L2.CX P w) outer P w H s Q E) s
/-- a lambda with one parameter -/
theorem callOk_lamP {v0 : V} {u0 : Value} {a : Str} (S : LScope Nl scope) (hinj : InjC clos) (hclos : ∀ y, (scope.names.lookup y = some .cell ∨ scope.names.lookup y = some .free) → ∃ c, clos.lookup y = some c) (hlen : τ.length = Nl.length) (hnl : ∀ (j : Nat) (y : Str), Nl[j + 1]? = some y → scope.names.lookup y ≠ some .local)
    (h0 : Nl[0]? = some a) (ha : scope.names.lookup a = some .local) (hτ : τ[0]? = some (some v0)) (hr0 : RelV v0 u0)
    (hbind : ∀ (doc pm cv ctv : Value), bindArgs (PySem.W.kdv_fn "<lambda>" q params (.expr body) scope clos .none doc pm cv ctv) ⟨[u0], []⟩ = pure [(a, u0)])
    (hbody : ∀ (A : Around) (outer : List Env) (s : Shared) (H : Hp) (E : XK), Room k (A.deeper (PySem.W.envX q scope s.heap.objs.size f (.ref c') clos)) → PE (lCx P w K mg base Nl q scope f c' clos A outer s H E) body (tb E)) :
    CallOkV P w K mg base (k + 1) f [u0] (LamAt q params body scope clos dV doc pm c' ctv (fun dV _ => dV = .none) Nl τ f) (fun H Q E => tb (fun cls d H' => (∀ b, CS clos b → H' b = none) → E cls d (ref2 (CS clos) H H')) τ (unf (CS clos) H) fun v H' => (∀ b, CS clos b → H' b = none) → Q v (ref2 (CS clos) H H')) := by
  intro A outer s H Q E hr e0 hp h
  obtain ⟨_, _, eD, _⟩ := id hp
  subst eD
  refine callOk_core (binds := [(a, u0)]) S hinj hclos hlen hr e0 hp (.of_eq (hbind _ _ _ _)) (fun y hy => ?_) (fun j y v e1 e2 e3 => ?_) hbody h
  · rw [List.mem_singleton.mp hy]
    exact ha
  · cases j with
    | zero =>
      rw [h0] at e1
      cases e1
      rw [hτ] at e2
      cases e2
      exact ⟨u0, hr0, by simp⟩
    | succ j => exact absurd e3 (hnl j y e1)
end
end GX
namespace GX
open PySem PySem.Spec PyProof.Rows L2 LamX
/-! ### what a call leaves: all that was known stands, but tables may have grown -/
structure XX (T : List (Addr × Str)) (H H' : Hp) : Prop where
  keep : ∀ b o, H b = some o → (∀ ps, o ≠ .tbl ps) → H' b = some o
  tbl : ∀ b ps, H b = some (.tbl ps) → ∃ ps', H' b = some (.tbl ps')
  tabG : ∀ p, GxR.TabG H p → GxR.TabG H' p
  tabs : Tabs T H → Tabs T H'
section
variable {T : List (Addr × Str)} {H H1 H2 : Hp} {K : PySem.W.Frag}
theorem XX.refl (H : Hp) : XX T H H := ⟨fun _ _ h _ => h, fun _ ps h => ⟨ps, h⟩, fun _ h => h, fun h => h⟩
theorem XX.trans (a : XX T H H1) (b : XX T H1 H2) : XX T H H2 :=
  ⟨fun c o h n => b.keep c o (a.keep c o h n) n, fun c ps h => by obtain ⟨ps', h'⟩ := a.tbl c ps h; exact b.tbl c ps' h', fun p h => b.tabG p (a.tabG p h), fun h => b.tabs (a.tabs h)⟩
theorem XX.of (e : ∀ b o, H b = some o → H1 b = some o) : XX T H H1 :=
  ⟨fun b o h _ => e b o h, fun b ps h => ⟨ps, e _ _ h⟩, fun p ⟨ps, h, t⟩ => ⟨ps, e _ _ h, t⟩, fun h => h.ext e⟩
theorem XX.new {p : Addr} {o : HO} (h : H p = none) : XX T H (upd H p o) := XX.of fun b u e => by rw [upd_ne (ne_of_none e h)]; exact e
theorem XX.then_new {p : Addr} {o : HO} (a : XX T H H1) (h : H1 p = none) : XX T H (upd H1 p o) := a.trans (XX.new h)
theorem XX.tabbed {P : Addr} (hT : ∀ p ∈ T, p.1 ≠ P) (hP : GxR.TabG H P) (t : GxR.Tabbed P H H1) : XX T H H1 := by
  obtain ⟨ps0, hp0, _⟩ := hP
  refine ⟨fun b o e n => ?_, fun b ps e => ?_, fun p h => ?_, fun h p hp => ?_⟩
  · have nb : b ≠ P := fun z => by rw [z, hp0] at e; exact n ps0 (Option.some.inj e).symm
    rw [t.2 b nb]; exact e
  · by_cases hb : b = P
    · rw [hb]; obtain ⟨ps', h', _⟩ := t.1; exact ⟨ps', h'⟩
    · exact ⟨ps, by rw [t.2 b hb]; exact e⟩
  · by_cases hb : p = P
    · rw [hb]; exact t.1
    · obtain ⟨ps, h1, h2⟩ := h
      exact ⟨ps, by rw [t.2 p hb]; exact h1, h2⟩
  · obtain ⟨ps, h1, h2, h3⟩ := h p hp
    refine ⟨ps, by rw [t.2 _ (hT p hp)]; exact h1, h2, fun pos cv hc => ?_⟩
    obtain ⟨c, e1, e2⟩ := h3 pos cv hc
    have nb : c ≠ P := fun z => by rw [z, hp0] at e2; exact codeO_ne ps0 (Option.some.inj e2).symm
    exact ⟨c, e1, by rw [t.2 c nb]; exact e2⟩
theorem XX.lam (e : ExtN H H1) (t : Tabs T H → Tabs T H1) (hg : ∀ b ps, H b = some (.tbl ps) → ∃ ps', H1 b = some (.tbl ps')) (hG : ∀ p, GxR.TabG H p → GxR.TabG H1 p) : XX T H H1 := ⟨fun b o h n => e b o h n, hg, hG, t⟩
theorem XX.there (a : XX T H H1) {p : Addr} {o : HO} (h : H p = some o) : ∃ o', H1 p = some o' := by
  by_cases ht : ∃ ps, o = .tbl ps
  · obtain ⟨ps, e⟩ := ht
    subst e
    obtain ⟨ps', h'⟩ := a.tbl p ps h
    exact ⟨_, h'⟩
  · exact ⟨o, a.keep p o h fun ps e => ht ⟨ps, e⟩⟩
theorem XX.free (a : XX T H H1) {p : Addr} (h : H1 p = none) : H p = none := by
  cases q : H p with
  | none => rfl
  | some o =>
    obtain ⟨o', q'⟩ := a.there q
    rw [h] at q'; cases q'
theorem XX.rd (a : XX T H H1) {p : Addr} {o : HO} (n : ∀ ps, o ≠ .tbl ps) (h : Rd H p o) : Rd H1 p o := by
  rcases h with h | ⟨ob, h⟩
  · exact .inl (a.keep _ _ h n)
  · exact .inr ⟨ob, a.keep _ _ h fun ps z => by cases z⟩
theorem XX.sqL (a : XX T H H1) {p : Addr} {xs : List V} (h : SqL K H p xs) : SqL K H1 p xs := by
  rcases h with h | h
  · exact .inl (a.rd (fun ps z => by cases z) h)
  · exact .inr h
theorem XX.sqT (a : XX T H H1) {p : Addr} {xs : List V} (h : SqT K H p xs) : SqT K H1 p xs := by
  rcases h with h | h
  · exact .inl (a.rd (fun ps z => by cases z) h)
  · exact .inr h
theorem XX.lst (a : XX T H H1) {p : Addr} {xs : List V} (h : H p = some (.lst xs)) : H1 p = some (.lst xs) := a.keep _ _ h fun ps z => by cases z
theorem XX.tup (a : XX T H H1) {p : Addr} {xs : List V} (h : H p = some (.tup xs)) : H1 p = some (.tup xs) := a.keep _ _ h fun ps z => by cases z
theorem XX.ins (a : XX T H H1) {p C dx : Addr} {fs : List (Str × V)} (h : H p = some (.ins C dx fs)) : H1 p = some (.ins C dx fs) := a.keep _ _ h fun ps z => by cases z
theorem XX.dk (a : XX T H H1) {p : Addr} {kvs : List (Key × V)} (h : H p = some (.dK kvs)) : H1 p = some (.dK kvs) := a.keep _ _ h fun ps z => by cases z
mutual
theorem Dp.xx (a : XX T H H1) : ∀ (d : PyData) (v : V), Dp K H v d → Dp K H1 v d
  | .none, _, h => by cases h; exact .non
  | .bool _, _, h => by cases h; exact .bl _
  | .int _, _, h => by cases h; exact .int _
  | .str _, _, h => by cases h; exact .str _
  | .list ds, _, h => by
    cases h with
    | lst hs ha => exact .lst (a.sqL hs) (Dp.xxAll a ds _ ha)
  | .tuple ds, _, h => by
    cases h with
    | tup hs ha => exact .tup (a.sqT hs) (Dp.xxAll a ds _ ha)
  | .dict _, _, h => by cases h
theorem Dp.xxAll (a : XX T H H1) : ∀ (ds : List PyData) (vs : List V), DpAll K H vs ds → DpAll K H1 vs ds
  | [], _, h => by cases h; exact .nil
  | d :: ds, _, h => by
    cases h with
    | cons h1 h2 => exact .cons (Dp.xx a d _ h1) (Dp.xxAll a ds _ h2)
end
/-! ### data -/
theorem dpAll_len : ∀ {vs : List V} {ds : List PyData}, DpAll K H vs ds → vs.length = ds.length
  | _, [], h => by cases h; rfl
  | _, d :: ds, h => by
    cases h with
    | cons h1 h2 => simp [dpAll_len h2]
theorem dpAll_get : ∀ {vs : List V} {ds : List PyData} {i : Nat} {v : V}, DpAll K H vs ds → vs[i]? = some v → ∃ d, ds[i]? = some d ∧ Dp K H v d
  | _, [], _, _, h, e => by cases h; simp at e
  | _, d :: ds, i, v, h, e => by
    cases h with
    | cons h1 h2 =>
      cases i with
      | zero => simp at e; subst e; exact ⟨d, rfl, h1⟩
      | succ i => simpa using dpAll_get h2 (by simpa using e)
theorem dpAll_at : ∀ {vs : List V} {ds : List PyData} {i : Nat} {d : PyData}, DpAll K H vs ds → ds[i]? = some d → ∃ v, vs[i]? = some v ∧ Dp K H v d
  | _, [], _, _, h, e => by simp at e
  | _, d0 :: ds, i, d, h, e => by
    cases h with
    | cons h1 h2 =>
      cases i with
      | zero => simp at e; subst e; exact ⟨_, rfl, h1⟩
      | succ i => simpa using dpAll_at h2 (by simpa using e)
theorem dp_tup {v : V} {ds : List PyData} (h : Dp K H v (.tuple ds)) : ∃ a xs, v = .ref a ∧ SqT K H a xs ∧ DpAll K H xs ds := by
  cases h with
  | tup hs ha => exact ⟨_, _, rfl, hs, ha⟩
theorem dp_lst {v : V} {ds : List PyData} (h : Dp K H v (.list ds)) : ∃ a xs, v = .ref a ∧ SqL K H a xs ∧ DpAll K H xs ds := by
  cases h with
  | lst hs ha => exact ⟨_, _, rfl, hs, ha⟩
theorem atI0 {v : V} {r : List V} : atI (v :: r) 0 = some v := atI_nat (j := 0) rfl
theorem dpAll0 {vs : List V} (h : DpAll K H vs []) : vs = [] := by cases h; rfl
theorem dpAllC {vs : List V} {d : PyData} {ds : List PyData} (h : DpAll K H vs (d :: ds)) : ∃ v r, vs = v :: r ∧ Dp K H v d ∧ DpAll K H r ds := by
  cases h with
  | cons h1 h2 => exact ⟨_, _, rfl, h1, h2⟩
theorem dpAll1 {v : V} {ds : List PyData} (h : DpAll K H [v] ds) : ∃ d, ds = [d] ∧ Dp K H v d := by
  cases ds with
  | nil => cases h
  | cons d r =>
    cases h with
    | cons h1 h2 =>
      cases r with
      | nil => exact ⟨d, rfl, h1⟩
      | cons _ _ => cases h2
theorem len2 {v0 : V} {xr : List V} (h : (v0 :: xr).length = 2) : ∃ v1, xr = [v1] := by
  match xr, h with
  | [v1], _ => exact ⟨v1, rfl⟩
theorem dpAll2 {vs : List V} {x y : PyData} (h : DpAll K H vs [x, y]) : ∃ a b, vs = [a, b] ∧ Dp K H a x ∧ Dp K H b y := by
  obtain ⟨a, r, rfl, h1, h2⟩ := dpAllC h
  obtain ⟨b, r2, rfl, h3, h4⟩ := dpAllC h2
  obtain rfl := dpAll0 h4
  exact ⟨a, b, rfl, h1, h3⟩
theorem dpAll5 {vs : List V} {d0 d1 d2 d3 d4 : PyData} (h : DpAll K H vs [d0, d1, d2, d3, d4]) : ∃ v0 v1 v2 v3 v4, vs = [v0, v1, v2, v3, v4] ∧ Dp K H v0 d0 ∧ Dp K H v1 d1 ∧ Dp K H v2 d2 ∧ Dp K H v3 d3 ∧ Dp K H v4 d4 := by
  obtain ⟨v0, r0, rfl, h0, k0⟩ := dpAllC h
  obtain ⟨v1, r1, rfl, h1, k1⟩ := dpAllC k0
  obtain ⟨v2, r2, rfl, h2, k2⟩ := dpAllC k1
  obtain ⟨v3, r3, rfl, h3, k3⟩ := dpAllC k2
  obtain ⟨v4, r4, rfl, h4, k4⟩ := dpAllC k3
  obtain rfl := dpAll0 k4
  exact ⟨v0, v1, v2, v3, v4, rfl, h0, h1, h2, h3, h4⟩
theorem dp_int {v : V} {i : Int} (h : Dp K H v (.int i)) : v = .int i := by cases h; rfl
theorem dp_str {v : V} {i : Str} (h : Dp K H v (.str i)) : v = .str i := by cases h; rfl
theorem dp_non {d : PyData} (h : Dp K H .non d) : d = .none := by cases h; rfl
theorem dp_notN {v : V} {d : PyData} (h : Dp K H v d) (hv : v ≠ .non) : d ≠ .none := by
  intro e
  subst e
  cases h
  exact hv rfl
/-- no dicts in it -/
def tyN : PyData → String
  | .none => "NoneType"
  | .bool _ => "bool"
  | .int _ => "int"
  | .str _ => "str"
  | .list _ => "list"
  | .tuple _ => "tuple"
  | .dict _ => "dict"
theorem ty_of {v : V} {d : PyData} (h : Dp K H v d) : TyX K H v (.type (tyN d)) := by
  cases h with
  | non => exact .base .non
  | bl b => exact .base (.bl b)
  | int i => exact .base (.int i)
  | str x => exact .base (.str x)
  | lst hs _ =>
    rcases hs with (h | ⟨o, h⟩) | ⟨o, its, n, h1, h2, _⟩
    · exact .base (.lst h)
    · exact .base (.frz h)
    · exact .kList h1 h2
  | tup hs _ =>
    rcases hs with (h | ⟨o, h⟩) | ⟨o, its, n, h1, h2, _⟩
    · exact .base (.tup h)
    · exact .fTuple h
    · exact .kTuple h1 h2
/-- isinstance, of data -/
def isT (n : String) (d : PyData) : Bool := match d with
  | .none => decide (n = "NoneType")
  | .bool _ => decide (n = "bool") || decide (n = "int")
  | .int _ => decide (n = "int")
  | .str _ => decide (n = "str")
  | .list _ => decide (n = "list")
  | .tuple _ => decide (n = "tuple")
  | .dict _ => decide (n = "dict")
theorem rIsi_of {v : V} {d : PyData} {Q : VK} (n : String) (h : Dp K H v d) (hn : ∀ m ∈ ["NoneType", "bool", "int", "str", "list", "tuple", "dict"], kitB m n = some (decide (m = n) || (decide (m = "bool") && decide (n = "int")))) (q : Q (.bl (isT n d)) H) : rIsi K [v, .ty n] H Q := by
  refine ⟨v, .ty n, .type (tyN d), .type n, isT n d, rfl, .ty n, ty_of h, kit_ty ?_, q⟩
  rw [hn (tyN d) (by cases d <;> simp [tyN])]
  cases d <;> simp [tyN, isT, eq_comm]
theorem t_isi {σ : L2.St} {i : Nat} {v : V} {d : PyData} {n : String} {Q : VK} (hσ : σ[i]? = some (some v)) (h : Dp K H v d) (hn : ∀ m ∈ ["NoneType", "bool", "int", "str", "list", "tuple", "dict"], kitB m n = some (decide (m = n) || (decide (m = "bool") && decide (n = "int")))) (q : Q (.bl (isT n d)) H) :
    tCB (rIsi K) (tCons (tVar i) (tCons (tC (.ty n)) tNil)) σ H Q := ⟨v, hσ, rIsi_of n h hn q⟩
theorem kit_int : ∀ m ∈ ["NoneType", "bool", "int", "str", "list", "tuple", "dict"], kitB m "int" = some (decide (m = "int") || (decide (m = "bool") && decide (("int" : String) = "int"))) := by decide +kernel
theorem kit_bool : ∀ m ∈ ["NoneType", "bool", "int", "str", "list", "tuple", "dict"], kitB m "bool" = some (decide (m = "bool") || (decide (m = "bool") && decide (("bool" : String) = "int"))) := by decide +kernel
theorem kit_tuple : ∀ m ∈ ["NoneType", "bool", "int", "str", "list", "tuple", "dict"], kitB m "tuple" = some (decide (m = "tuple") || (decide (m = "bool") && decide (("tuple" : String) = "int"))) := by decide +kernel
theorem kit_list : ∀ m ∈ ["NoneType", "bool", "int", "str", "list", "tuple", "dict"], kitB m "list" = some (decide (m = "list") || (decide (m = "bool") && decide (("list" : String) = "int"))) := by decide +kernel
theorem kit_str : ∀ m ∈ ["NoneType", "bool", "int", "str", "list", "tuple", "dict"], kitB m "str" = some (decide (m = "str") || (decide (m = "bool") && decide (("str" : String) = "int"))) := by decide +kernel
end
/-! ### a def that is called by its name -/
structure Cal1 (P : Program) (w : World) (K : PySem.W.Frag) (mg : Str → Option Value) (base : Heap) (CX : CXT) (x : Str) (ps : List Str) (k : Nat) (sp : Sp) (f : Addr) (fd : FuncData) : Prop where
  F : FnOk P w K mg base CX k f fd ps sp
  m : mg x = some (.ref f)
  kp : PySem.W.keepIn K (.ref f) = true
  b : Binds K fd ps []
def Cal (P : Program) (w : World) (K : PySem.W.Frag) (mg : Str → Option Value) (base : Heap) (CX : CXT) (x : Str) (ps : List Str) (k : Nat) (sp : Sp) : Prop := ∃ f fd, Cal1 P w K mg base CX x ps k sp f fd
section
variable {X : Cx}
theorem pe_cal {ps : List Str} {k : Nat} {sp : Sp} {x : Str} {p pos : Pos} {e : Expr} {es : List Expr} {t : TA} (c : Cal X.prog X.w X.K X.mg X.base CX0 x ps k sp) (hr : Room k X.A) (ha : PA X (e :: es) t) (hg : Gl X x := by rfl) (hdb : (x == ("__debug__" : Str)) = false := by decide)
    (he : starEach (e :: es) X.env = (false, eval e X.env) :: starEach es X.env := by rfl) (hpl : (backTo pos (starEach es X.env)).any (·.1) = false := by rfl) : PE X (.Call (.Name x p) (e :: es) [] pos) (tCall sp [] E0 t) := by
  obtain ⟨f, fd, c⟩ := c
  exact pe_call c.F hr hg c.m c.kp c.b .nil pass0 ha hdb he hpl
theorem pe_cal0 {ps : List Str} {k : Nat} {sp : Sp} {x : Str} {p pos : Pos} (c : Cal X.prog X.w X.K X.mg X.base CX0 x ps k sp) (hr : Room k X.A) (hg : Gl X x := by rfl) (hdb : (x == ("__debug__" : Str)) = false := by decide) : PE X (.Call (.Name x p) [] [] pos) (tCall sp [] E0 tNil) := by
  obtain ⟨f, fd, c⟩ := c
  exact pe_call0 c.F hr hg c.m c.kp c.b .nil pass0 hdb
/-- .. that may raise -/
theorem pe_calX {ps : List Str} {k : Nat} {sp : Sp} {x : Str} {p pos : Pos} {e : Expr} {es : List Expr} {t : TA} {E : XK} (c : Cal X.prog X.w X.K X.mg X.base (L2.CX X.prog X.w) x ps k sp) (hr : Room k X.A) (hx : Passes (L2.CX X.prog X.w) X E) (ha : PA X (e :: es) t) (hg : Gl X x := by rfl) (hdb : (x == ("__debug__" : Str)) = false := by decide)
    (he : starEach (e :: es) X.env = (false, eval e X.env) :: starEach es X.env := by rfl) (hpl : (backTo pos (starEach es X.env)).any (·.1) = false := by rfl) : PE X (.Call (.Name x p) (e :: es) [] pos) (tCall sp [] E t) := by
  obtain ⟨f, fd, c⟩ := c
  exact pe_call c.F hr hg c.m c.kp c.b .nil hx ha hdb he hpl
theorem pe_no {e : Expr} : PE X e (fun _ _ _ => False) := ⟨fun _ _ _ _ _ _ h => h.elim⟩
end
/-- a def whose code object is known -/
structure FunC (K : PySem.W.Frag) (x qual : Str) (st : Stmt) (f : Addr) (fd : FuncData) (c : Addr) : Prop where
  ex : ∃ (oc : Value) (od : Option Addr) (kV doc pm : Value) (an : Option Addr) (ct : Value) (osl : Array (Option Value)),
    fd = PySem.W.fnOf x qual (defArgs st) (defBody st) (defScope st) .none kV doc pm an (.ref c) ct ∧ K.lookup f = some ⟨oc, od, .func fd, osl⟩ ∧ PySem.W.codeIn K (.ref c) qual = true
  kp : PySem.W.keepIn K (.ref f) = true
theorem FunC.toFun {K : PySem.W.Frag} {x qual : Str} {st : Stmt} {f : Addr} {fd : FuncData} {c : Addr} (F : FunC K x qual st f fd c) : Fun K x qual st f fd := by
  obtain ⟨oc, od, kV, doc, pm, an, ct, osl, e, l, q⟩ := F.ex
  exact ⟨⟨oc, od, kV, doc, pm, an, .ref c, ct, osl, e, l, q⟩, F.kp⟩
theorem FunC.ok {P : Program} {w : World} {K : PySem.W.Frag} {mg : Str → Option Value} {base : Heap} {x qual : Str} {st : Stmt} {f : Addr} {fd : FuncData} {c : Addr} {N ps : List Str} {k : Nat} {sp : Sp} (F : FunC K x qual st f fd c) (S : FnScope N ps (defScope st)) (len : ∀ vs H Q E, sp vs H Q E → vs.length = ps.length)
    (hbody : ∀ (A : Around) (outer : List Env) (s : Shared) (H : Hp) (vs : List V) (Q : VK) (E : XK), Room k (A.deeper (envOfC qual (defScope st) s.heap.objs.size f (.ref c))) → sp vs H Q E →
      ∃ t, PSs (cxOf CX0 P w K mg base N qual (defScope st) f (.ref c) A outer s H E).nox (defBody st) t ∧ t { nx := fun _ H' => Q .non H', rt := Q } (start N vs) H) : FnOk P w K mg base CX0 (k + 1) f fd ps sp := by
  obtain ⟨oc, od, kV, doc, pm, an, ct, osl, rfl, lk, hcd⟩ := F.ex
  refine fn_of lk hcd S len fun A outer s H vs Q E hr hsp => ?_
  obtain ⟨t, h, q⟩ := hbody A outer s H vs Q E hr hsp
  exact ⟨t, h.nox, q⟩
end GX
/-! the program's forms as plain functions over data -/
namespace GX
open PySem PySem.Spec PyProof.Rows L2 LamX
def isNum : PyData → Int → Int → Bool
  | .int i, lo, hi => decide (lo ≤ i) && decide (i ≤ hi)
  | _, _, _ => false
def isTup : PyData → Int → Bool
  | .tuple ds, n => decide ((ds.length : Int) = n)
  | _, _ => false
def isNext : PyData → Bool
  | .none => true
  | .tuple [a, b] => isNum a 0 11 && isNum b 0 7
  | _ => false
def holds : List PyData → Int → Bool
  | [_, t, b, s, n], least => isNum t 0 99 && isNum b 0 24 && (match b with | .int bi => isNum s least (24 - bi) | _ => false) && isNext n
  | _, _ => false
def isSlot : PyData → Bool
  | .tuple (w :: r) => if PyData.eqv w (.str "free") = true then (match r with | [t] => isNum t 0 100 | _ => false) else if PyData.eqv w (.str "row") = true then holds (w :: r) 0 else PyData.eqv w (.str "part") && holds (w :: r) 1
  | _ => false
def isFrame : PyData → Bool
  | .tuple [.tuple s, .tuple c] => decide (s.length = 8) && decide (c.length = 24) && c.all fun x => isNum x 0 99
  | _ => false
def isPage : PyData → Bool
  | .tuple [.tuple s, .tuple c] => isFrame (.tuple [.tuple s, .tuple c]) && s.all isSlot
  | _ => false
def freeD (t : Int) : PyData := .tuple [.str "free", .int t]
def freshD : PyData := .tuple [.tuple (List.replicate 8 (freeD 0)), .tuple (List.replicate 24 (.int 0))]
theorem isTup_dec {xs : List V} {ds : List PyData} {n : Int} (h : xs.length = ds.length) : isTup (.tuple ds) n = decide (V.int (xs.length : Int) = V.int n) := by
  rw [dec_int, h]
  show decide _ = _
  by_cases e : ((ds.length : Nat) : Int) = n
  · simp [e]
  · simp [e]
theorem isTup2 {d : PyData} (h : isTup d 2 = true) : ∃ x y, d = .tuple [x, y] := by
  match d, h with
  | .tuple [x, y], _ => exact ⟨x, y, rfl⟩
  | .tuple [], h => simp [isTup] at h
  | .tuple [_], h => simp [isTup] at h
  | .tuple (_ :: _ :: _ :: r), h => simp [isTup] at h; omega
theorem isNext_no {d : PyData} (hn : d ≠ .none) (h : isTup d 2 = false) : isNext d = false := by
  match d, hn, h with
  | .none, hn, _ => exact absurd rfl hn
  | .tuple [x, y], _, h => simp [isTup] at h
  | .tuple [], _, _ => rfl
  | .tuple [_], _, _ => rfl
  | .tuple (_ :: _ :: _ :: r), _, _ => rfl
  | .int _, _, _ => rfl
  | .bool _, _, _ => rfl
  | .str _, _, _ => rfl
  | .list _, _, _ => rfl
  | .dict _, _, _ => rfl
theorem len5 {ds : List PyData} (h : ds.length = 5) : ∃ a b c d e, ds = [a, b, c, d, e] := by
  match ds, h with
  | [a, b, c, d, e], _ => exact ⟨a, b, c, d, e, rfl⟩
theorem holds_no {ds : List PyData} {least : Int} (h : ¬ ds.length = 5) : holds ds least = false := by
  unfold holds
  split
  · exact absurd rfl h
  · rfl
theorem isT_tuple {d : PyData} (h : isT "tuple" d = true) : ∃ ds, d = .tuple ds := by
  cases d with
  | tuple ds => exact ⟨ds, rfl⟩
  | _ => exact absurd h (by simp [isT])
theorem isSlot_no {d : PyData} (h : isT "tuple" d = false) : isSlot d = false := by
  cases d with
  | tuple ds => exact absurd h (by simp [isT])
  | _ => rfl
theorem isSlot_free {d0 : PyData} {r : List PyData} (e : PyData.eqv d0 (.str "free") = true) (h : ∀ d1, r ≠ [d1]) : isSlot (.tuple (d0 :: r)) = false := by
  match r, h with
  | [], _ => simp [isSlot, e]
  | [d1], h => exact absurd rfl (h d1)
  | _ :: _ :: _, _ => simp [isSlot, e]
theorem isTupN {d : PyData} {n : Nat} (h : isTup d n = true) : ∃ ds, d = .tuple ds ∧ ds.length = n := by
  match d, h with
  | .tuple ds, h => exact ⟨ds, rfl, by have := of_decide_eq_true h; omega⟩
theorem isFrame_no {d : PyData} (h : isTup d 2 = false) : isFrame d = false := by
  unfold isFrame
  split
  · simp [isTup] at h
  · rfl
theorem isFrame_no1 {x y : PyData} (h : isTup x 8 = false) : isFrame (.tuple [x, y]) = false := by
  unfold isFrame
  split
  · rename_i s c e
    injection e with e
    injection e with e1 e2
    subst e1
    have h' : ¬ ((s.length : Nat) : Int) = 8 := by simpa [isTup] using h
    have : ¬ s.length = 8 := by omega
    simp [this]
  · rfl
theorem isFrame_no2 {x y : PyData} (h : isTup y 24 = false) : isFrame (.tuple [x, y]) = false := by
  unfold isFrame
  split
  · rename_i s c e
    injection e with e
    injection e with e1 e2
    injection e2 with e2 e3
    subst e2
    have h' : ¬ ((c.length : Nat) : Int) = 24 := by simpa [isTup] using h
    have : ¬ c.length = 24 := by omega
    simp [this]
  · rfl
theorem isFrame_shape {d : PyData} (h : isFrame d = true) : ∃ s c, d = .tuple [.tuple s, .tuple c] := by
  unfold isFrame at h
  split at h
  · exact ⟨_, _, rfl⟩
  · cases h
theorem isPage_no {d : PyData} (h : isFrame d = false) : isPage d = false := by
  unfold isPage
  split
  · rw [h]; rfl
  · rfl
theorem isNum_int {d : PyData} {lo hi : Int} (h : isNum d lo hi = true) : ∃ i, d = .int i ∧ lo ≤ i ∧ i ≤ hi := by
  match d, h with
  | .int i, h => exact ⟨i, rfl, by simpa [isNum] using h⟩
theorem shaped_mem {xs : List PyData} {x : PyData} (h : SeqAt.shaped (.tuple xs) = true) (hx : x ∈ xs) : SeqAt.shaped x = true := by
  have h1 := SeqAt.canLay_of_shaped h
  have h2 := SeqAt.depth_of_shaped h
  have h3 : PyData.canLayAll0 xs = true := by simpa only [PyData.canLay0] using h1
  have h4 : PyData.depthAll xs + 1 ≤ 64 := by simpa only [PyData.depth] using h2
  have h5 := PyData.depth_le_depthAll xs x hx
  unfold SeqAt.shaped
  rw [PyData.canLay0_of_mem xs x h3 hx]
  exact decide_eq_true (by omega)
theorem shaped_str (x : Str) (h : PyData.canLay0 (.str x) = true) : SeqAt.shaped (.str x) = true := by
  unfold SeqAt.shaped
  rw [h]
  exact decide_eq_true (by show 0 ≤ 64; omega)
theorem sh_free : SeqAt.shaped (.str "free") = true := by decide +kernel
theorem sh_row : SeqAt.shaped (.str "row") = true := by decide +kernel
theorem sh_part : SeqAt.shaped (.str "part") = true := by decide +kernel
/-! ### promises -/
def spNum (K : PySem.W.Frag) : Sp := fun vs H Q _ => ∃ v d lo hi, vs = [v, .int lo, .int hi] ∧ Dp K H v d ∧ Q (.bl (isNum d lo hi)) H
def spTup (K : PySem.W.Frag) : Sp := fun vs H Q _ => ∃ v d n, vs = [v, .int n] ∧ Dp K H v d ∧ Q (.bl (isTup d n)) H
def spNext (K : PySem.W.Frag) : Sp := fun vs H Q _ => ∃ v d, vs = [v] ∧ Dp K H v d ∧ Q (.bl (isNext d)) H
def spHolds (K : PySem.W.Frag) : Sp := fun vs H Q _ => ∃ v ds least, vs = [v, .int least] ∧ Dp K H v (.tuple ds) ∧ Q (.bl (holds ds least)) H
def spSlot (K : PySem.W.Frag) : Sp := fun vs H Q _ => ∃ v d, vs = [v] ∧ Dp K H v d ∧ SeqAt.shaped d = true ∧ Q (.bl (isSlot d)) H
def valsB (ds : List PyData) : Bool := ds.all fun z => isNum z 0 99
def isCells : PyData → Bool
  | .tuple ds => decide (ds.length = 24) && valsB ds
  | _ => false
def spVals (K : PySem.W.Frag) (T : List (Addr × Str)) (P : Addr) : Sp := fun vs H Q _ => ∃ v d ds, vs = [v] ∧ Dp K H v d ∧ (d = .list ds ∨ d = .tuple ds) ∧ GxR.TabG H P ∧ ∀ H', XX T H H' → Q (.bl (valsB ds)) H'
def spCells (K : PySem.W.Frag) (T : List (Addr × Str)) (P : Addr) : Sp := fun vs H Q _ => ∃ v d, vs = [v] ∧ Dp K H v d ∧ GxR.TabG H P ∧ ∀ H', XX T H H' → Q (.bl (isCells d)) H'
def spFrame (K : PySem.W.Frag) (T : List (Addr × Str)) (P : Addr) : Sp := fun vs H Q _ => ∃ v d, vs = [v] ∧ Dp K H v d ∧ GxR.TabG H P ∧ ∀ H', XX T H H' → Q (.bl (isFrame d)) H'
def spPage (K : PySem.W.Frag) (T : List (Addr × Str)) (P1 P2 : Addr) : Sp := fun vs H Q _ => ∃ v d, vs = [v] ∧ Dp K H v d ∧ SeqAt.shaped d = true ∧ GxR.TabG H P1 ∧ GxR.TabG H P2 ∧ ∀ H', XX T H H' → Q (.bl (isPage d)) H'
def spFresh (K : PySem.W.Frag) (T : List (Addr × Str)) : Sp := fun vs H Q _ => vs = [] ∧ ∀ H' v, XX T H H' → Dp K H' v freshD → Q v H'
/-- the numbers of the module forms -/
structure CoF (mg : Str → Option Value) : Prop where
  slots : ∃ t, mg "SLOTS" = some (.int 8 t)
  cells : ∃ t, mg "CELLS" = some (.int 24 t)
  most : ∃ t, mg "MOST_PAGES" = some (.int 12 t)
  cell : ∃ t, mg "GREATEST_CELL" = some (.int 99 t)
  turn : ∃ t, mg "GREATEST_TURN" = some (.int 99 t)
  spent : ∃ t, mg "SPENT_TURN" = some (.int 100 t)
/-- built-in names that the program does not bind -/
structure Blt (mg : Str → Option Value) : Prop where
  isi : mg "isinstance" = none
  len : mg "len" = none
  all : mg "all" = none
  int : mg "int" = none
  bool : mg "bool" = none
  tuple : mg "tuple" = none
  list : mg "list" = none
  range : mg "range" = none
section
variable {X : Cx}
theorem pe_const {x : Str} {n : Int} {pos : Pos} (h : ∃ t, X.mg x = some (.int n t)) (hg : Gl X x := by rfl) (hd : (x == ("__debug__" : Str)) = false := by decide) : PE X (.Name x pos) (tC (.int n)) := by
  obtain ⟨t, h⟩ := h
  exact pe_glob hg h ⟨t, rfl⟩ hd
end
theorem k_isi : bootBuiltins "isinstance" = some (.builtin "isinstance") := by decide +kernel
end GX
namespace GX
open PySem PySem.Spec PyProof.Rows L2 LamX
def gsB (N Ng : List Str) (sc scope : Scope) (x : Str) (cap : List Nat) : Bool :=
  decide (scope.kind = .function) && !scope.isCoroutine && (scope.names.all fun y => !decide (y.2 = .cell)) && decide (scope.names.lookup (".0" : Str) = some .local) && decide (scope.names.lookup x = some .local) &&
    (scope.names.all fun y => !decide (y.2 = .free) || decide (sc.names.lookup y.1 = some .cell) || decide (sc.names.lookup y.1 = some .free)) && decide Ng.Nodup && decide (Ng[0]? = some x) && decide (Ng.length = cap.length + 1) &&
    (List.range cap.length).all fun j => match Ng[j + 1]?, cap[j]? with
      | some y, some i => decide (scope.names.lookup y = some .free) && decide (N[i]? = some y)
      | _, _ => false
theorem gs_by {N Ng : List Str} {sc scope : Scope} {x : Str} {cap : List Nat} (h : gsB N Ng sc scope x cap = true) : GS N Ng sc scope x cap := by
  unfold gsB at h
  simp only [Bool.and_eq_true, Bool.or_eq_true, Bool.not_eq_true', decide_eq_true_eq, decide_eq_false_iff_not, List.all_eq_true] at h
  obtain ⟨⟨⟨⟨⟨⟨⟨⟨⟨h1, h2⟩, h3⟩, h4⟩, h5⟩, h6⟩, h7⟩, h8⟩, h9⟩, h10⟩ := h
  refine ⟨h1, h2, fun y hy => h3 y hy, h4, h5, fun y hy e => ?_, h7, h8, fun j y e => ?_, h9⟩
  · rcases h6 y hy with (z | z) | z
    · exact absurd e z
    · exact .inl z
    · exact .inr z
  · have hj : j < cap.length := by
      have := (List.getElem?_eq_some_iff.mp e).1
      omega
    have q := h10 j (List.mem_range.mpr hj)
    rw [e, List.getElem?_eq_getElem hj] at q
    simp only [Bool.and_eq_true, decide_eq_true_eq] at q
    exact ⟨q.1, cap[j], List.getElem?_eq_getElem hj, q.2⟩
section
variable {K : PySem.W.Frag} {T : List (Addr × Str)} {H : Hp} {σ : L2.St} {cap : List Nat} {te : TE} {Q : VK} {P : Addr}
theorem all_take {α : Type} (g : α → Bool) : ∀ (l : List α) (i : Nat) (x : α), l[i]? = some x → (l.take (i + 1)).all g = ((l.take i).all g && g x)
  | [], i, x, h => by simp at h
  | a :: l, 0, x, h => by simp at h; subst h; simp
  | a :: l, i + 1, x, h => by
    have ih := all_take g l i x (by simpa using h)
    rw [List.take_succ_cons, List.all_cons, ih, List.take_succ_cons, List.all_cons, Bool.and_assoc]
theorem all_no {α : Type} (g : α → Bool) {l : List α} {x : α} (hx : x ∈ l) (h : g x = false) : l.all g = false := by
  rw [Bool.eq_false_iff]
  intro z
  have := List.all_eq_true.mp z x hx
  rw [h] at this
  cases this
/-- what is asked of a walk over data, in a tuple -/
theorem all_dpT {a : Addr} {xs : List V} {ds : List PyData} {g : PyData → Bool} (hS : SqT K H a xs) (hd : DpAll K H xs ds)
    (hel : ∀ (d : PyData) (v : V) (H' : Hp) (W : VK), d ∈ ds → Dp K H' v d → XX T H H' → (∀ H2, XX T H' H2 → W (.bl (g d)) H2) → te ((gSt σ cap).set 0 (some v)) H' W) (k : ∀ H', XX T H H' → Q (.bl (ds.all g)) H') :
    ∃ (N : Nat) (Pv : Nat → Hp → Prop), Pv 0 H ∧ Turns (Itt K a) N (gSt σ cap) te Pv (fun i y H => ∃ b, y = .bl b ∧ (b = true → Pv (i + 1) H) ∧ (b = false → Q (.bl false) H)) (fun _ H => Q (.bl true) H) := by
  refine ⟨ds.length, fun i H' => XX T H H' ∧ (ds.take i).all g = true ∧ i ≤ ds.length, ⟨XX.refl H, by simp, Nat.zero_le _⟩, fun i H' p => ?_⟩
  obtain ⟨x1, x2, x3⟩ := p
  have hl := dpAll_len hd
  by_cases hi : i < ds.length
  · obtain ⟨v, ev, dv⟩ := dpAll_at hd (List.getElem?_eq_getElem hi)
    refine .inr ⟨⟨xs, v, x1.sqT hS, ev⟩, hi, fun v' H'' y => ?_⟩
    obtain ⟨e1, e2⟩ := y
    rw [e1]
    have e3 := e2 xs (x1.sqT hS)
    have e5 : v = v' := Option.some.inj (ev.symm.trans e3)
    rw [e5] at dv
    refine hel ds[i] v' H' _ (List.getElem_mem hi) (Dp.xx x1 _ _ dv) x1 fun H2 x4 => ⟨g ds[i], rfl, fun hb => ⟨x1.trans x4, ?_, hi⟩, fun hb => ?_⟩
    · rw [all_take g ds i _ (List.getElem?_eq_getElem hi), x2, hb]; rfl
    · have := k H2 (x1.trans x4)
      rw [all_no g (List.getElem_mem hi) hb] at this
      exact this
  · refine .inl ⟨⟨xs, x1.sqT hS, by omega⟩, ?_⟩
    have e : ds.take i = ds := List.take_of_length_le (by omega)
    rw [e] at x2
    have := k H' x1
    rw [x2] at this
    exact this
theorem all_dpL {a : Addr} {xs : List V} {ds : List PyData} {g : PyData → Bool} (hS : SqL K H a xs) (hd : DpAll K H xs ds)
    (hel : ∀ (d : PyData) (v : V) (H' : Hp) (W : VK), d ∈ ds → Dp K H' v d → XX T H H' → (∀ H2, XX T H' H2 → W (.bl (g d)) H2) → te ((gSt σ cap).set 0 (some v)) H' W) (k : ∀ H', XX T H H' → Q (.bl (ds.all g)) H') :
    ∃ (N : Nat) (Pv : Nat → Hp → Prop), Pv 0 H ∧ Turns (Itl K a) N (gSt σ cap) te Pv (fun i y H => ∃ b, y = .bl b ∧ (b = true → Pv (i + 1) H) ∧ (b = false → Q (.bl false) H)) (fun _ H => Q (.bl true) H) := by
  refine ⟨ds.length, fun i H' => XX T H H' ∧ (ds.take i).all g = true ∧ i ≤ ds.length, ⟨XX.refl H, by simp, Nat.zero_le _⟩, fun i H' p => ?_⟩
  obtain ⟨x1, x2, x3⟩ := p
  have hl := dpAll_len hd
  by_cases hi : i < ds.length
  · obtain ⟨v, ev, dv⟩ := dpAll_at hd (List.getElem?_eq_getElem hi)
    refine .inr ⟨⟨xs, v, x1.sqL hS, ev⟩, hi, fun v' H'' y => ?_⟩
    obtain ⟨e1, e2⟩ := y
    rw [e1]
    have e3 := e2 xs (x1.sqL hS)
    have e5 : v = v' := Option.some.inj (ev.symm.trans e3)
    rw [e5] at dv
    refine hel ds[i] v' H' _ (List.getElem_mem hi) (Dp.xx x1 _ _ dv) x1 fun H2 x4 => ⟨g ds[i], rfl, fun hb => ⟨x1.trans x4, ?_, hi⟩, fun hb => ?_⟩
    · rw [all_take g ds i _ (List.getElem?_eq_getElem hi), x2, hb]; rfl
    · have := k H2 (x1.trans x4)
      rw [all_no g (List.getElem_mem hi) hb] at this
      exact this
  · refine .inl ⟨⟨xs, x1.sqL hS, by omega⟩, ?_⟩
    have e : ds.take i = ds := List.take_of_length_le (by omega)
    rw [e] at x2
    have := k H' x1
    rw [x2] at this
    exact this
end
end GX
namespace GX
open PySem PySem.Spec PyProof.Rows L2 LamX
/-- all that was known stands but what is at S (lists, dicts, instances); tables may have grown -/
structure XM (T : List (Addr × Str)) (S : Addr → Prop) (H H' : Hp) : Prop where
  keep : ∀ b o, H b = some o → ¬ S b → (∀ ps, o ≠ .tbl ps) → H' b = some o
  there : ∀ b o, H b = some o → ∃ o', H' b = some o'
  tup : ∀ b xs, H b = some (.tup xs) → H' b = some (.tup xs)
  frz : ∀ b o u, H b = some (.frz o u) → H' b = some (.frz o u)
  tabG : ∀ p, GxR.TabG H p → GxR.TabG H' p
  tabs : Tabs T H → Tabs T H'
/-- what may be changed -/
def MutO : HO → Prop
  | .lst _ => True
  | .dK _ => True
  | .dT _ => True
  | .ins _ _ _ => True
  | _ => False
section
variable {T : List (Addr × Str)} {S S' : Addr → Prop} {H H1 H2 : Hp} {K : PySem.W.Frag}
theorem XX.xm (a : XX T H H1) : XM T S H H1 := ⟨fun b o e _ n => a.keep b o e n, fun _ _ e => a.there e, fun _ _ e => a.tup e, fun _ _ _ e => a.keep _ _ e (fun ps z => by cases z), a.tabG, a.tabs⟩
theorem XM.refl (H : Hp) : XM T S H H := (XX.refl H).xm
theorem XM.trans (a : XM T S H H1) (b : XM T S H1 H2) : XM T S H H2 :=
  ⟨fun c o e n t => b.keep c o (a.keep c o e n t) n t, fun c o e => by obtain ⟨o', e'⟩ := a.there c o e; exact b.there c o' e', fun c xs e => b.tup c xs (a.tup c xs e), fun c o u e => b.frz c o u (a.frz c o u e), fun p h => b.tabG p (a.tabG p h), fun h => b.tabs (a.tabs h)⟩
theorem XM.mono (a : XM T S H H1) (h : ∀ b, S b → S' b) : XM T S' H H1 := ⟨fun b o e n t => a.keep b o e (fun z => n (h b z)) t, a.there, a.tup, a.frz, a.tabG, a.tabs⟩
theorem XM.upd {p : Addr} {o o' : HO} (hp : H p = some o) (hS : S p) (m : MutO o) : XM T S H (upd H p o') := by
  have ne : ∀ {b u}, H b = some u → ¬ MutO u → b ≠ p := fun {b u} e n z => by rw [z, hp] at e; cases e; exact n m
  refine ⟨fun b u e n _ => ?_, fun b u e => ?_, fun b xs e => ?_, fun b ob u e => ?_, fun q h => ?_, fun h q hq => ?_⟩
  · rw [upd_ne (fun z => n (by rw [z]; exact hS))]; exact e
  · by_cases hb : b = p
    · exact ⟨o', by rw [hb, upd_same]⟩
    · exact ⟨u, by rw [upd_ne hb]; exact e⟩
  · rw [upd_ne (ne e fun z => z)]; exact e
  · rw [upd_ne (ne e fun z => z)]; exact e
  · obtain ⟨ps, h1, h2⟩ := h
    exact ⟨ps, by rw [upd_ne (ne h1 fun z => z)]; exact h1, h2⟩
  · obtain ⟨ps, h1, h2, h3⟩ := h q hq
    refine ⟨ps, by rw [upd_ne (ne h1 fun z => z)]; exact h1, h2, fun pos cv hc => ?_⟩
    obtain ⟨c, e1, e2⟩ := h3 pos cv hc
    exact ⟨c, e1, by rw [upd_ne (ne e2 fun z => z)]; exact e2⟩
theorem XM.then_upd {p : Addr} {o o' : HO} (a : XM T S H H1) (hp : H1 p = some o) (hS : S p) (m : MutO o) : XM T S H (L2.upd H1 p o') := a.trans (XM.upd hp hS m)
theorem XM.then_new {p : Addr} {o : HO} (a : XM T S H H1) (h : H1 p = none) : XM T S H (L2.upd H1 p o) := a.trans (XX.new h).xm
/-- a new thing may be changed: it was not known -/
theorem XM.drop {S0 : Addr → Prop} (a : XM T S H H1) (h : ∀ b, S b → ¬ S0 b → H b = none) : XM T S0 H H1 :=
  ⟨fun b o e n t => a.keep b o e (fun z => by have := h b z n; rw [e] at this; cases this) t, a.there, a.tup, a.frz, a.tabG, a.tabs⟩
theorem XM.xx (a : XM T (fun _ => False) H H1) (ht : ∀ b ps, H b = some (.tbl ps) → ∃ ps', H1 b = some (.tbl ps')) : XX T H H1 := ⟨fun b o e t => a.keep b o e id t, ht, a.tabG, a.tabs⟩
theorem XM.free (a : XM T S H H1) {p : Addr} (h : H1 p = none) : H p = none := by
  cases q : H p with
  | none => rfl
  | some o =>
    obtain ⟨o', q'⟩ := a.there p o q
    rw [h] at q'; cases q'
theorem XM.sqT (a : XM T S H H1) {p : Addr} {xs : List V} (h : SqT K H p xs) : SqT K H1 p xs := by
  rcases h with (h | ⟨o, h⟩) | h
  · exact .inl (.inl (a.tup _ _ h))
  · exact .inl (.inr ⟨o, a.frz _ _ _ h⟩)
  · exact .inr h
theorem XM.lst (a : XM T S H H1) {p : Addr} {xs : List V} (h : H p = some (.lst xs)) (n : ¬ S p) : H1 p = some (.lst xs) := a.keep _ _ h n fun ps z => by cases z
theorem XM.ins (a : XM T S H H1) {p C dx : Addr} {fs : List (Str × V)} (h : H p = some (.ins C dx fs)) (n : ¬ S p) : H1 p = some (.ins C dx fs) := a.keep _ _ h n fun ps z => by cases z
theorem XM.dk (a : XM T S H H1) {p : Addr} {kvs : List (Key × V)} (h : H p = some (.dK kvs)) (n : ¬ S p) : H1 p = some (.dK kvs) := a.keep _ _ h n fun ps z => by cases z
/-! data without lists -/
mutual
def flatD : PyData → Bool
  | .none => true
  | .bool _ => true
  | .int _ => true
  | .str _ => true
  | .tuple ds => flatAll ds
  | .list _ => false
  | .dict _ => false
def flatAll : List PyData → Bool
  | [] => true
  | d :: ds => flatD d && flatAll ds
end
mutual
theorem Dp.xm (a : XM T S H H1) : ∀ (d : PyData) (v : V), flatD d = true → Dp K H v d → Dp K H1 v d
  | .none, _, _, h => by cases h; exact .non
  | .bool _, _, _, h => by cases h; exact .bl _
  | .int _, _, _, h => by cases h; exact .int _
  | .str _, _, _, h => by cases h; exact .str _
  | .list ds, _, f, h => by cases f
  | .tuple ds, _, f, h => by
    cases h with
    | tup hs ha =>
      exact .tup (a.sqT hs) (Dp.xmAll a ds _ f ha)
  | .dict _, _, _, h => by cases h
theorem Dp.xmAll (a : XM T S H H1) : ∀ (ds : List PyData) (vs : List V), flatAll ds = true → DpAll K H vs ds → DpAll K H1 vs ds
  | [], _, _, h => by cases h; exact .nil
  | d :: ds, _, f, h => by
    cases h with
    | cons h1 h2 =>
      have f' := Bool.and_eq_true_iff.mp f
      exact .cons (Dp.xm a d _ f'.1 h1) (Dp.xmAll a ds _ f'.2 h2)
end
end
/-! ### the error classes -/
abbrev veMro : List Value := [.type "ValueError", .type "Exception", .type "BaseException", .type "object"]
structure ErrC (K : PySem.W.Frag) (mg : Str → Option Value) (x : Str) (C : Addr) : Prop where
  g : mg x = some (.ref C)
  x : PySem.W.excIn K C veMro "ValueError.__new__" = true
  k : PySem.W.keepIn K (.ref C) = true
  s : PySem.W.subIn K (.ref C) (.type "BaseException") = some true
  t : PySem.W.typeIn K (.ref C) = some (.type "type")
section
variable {X : Cx}
theorem pmk_err {x m : Str} {j : Nat} {p p2 pos : Pos} {C : Addr} (e : ErrC X.K X.mg x C) (hg : Gl X x := by rfl) (hdb : (x == ("__debug__" : Str)) = false := by decide) : PMk X (.Call (.Name x p) [.Constant (.str m) j p2] [] pos) (fun _ H Q => Q (.ref C) none H) :=
  pmk_own PySem.F.excBase_ValueError e.x e.g e.k (raises_own e.s e.t) hg hdb
end
/-! ### a method that is called -/
structure Met1 (P : Program) (w : World) (K : PySem.W.Frag) (mg : Str → Option Value) (base : Heap) (CX : CXT) (C : Addr) (m : Str) (ps : List Str) (k : Nat) (sp : Sp) (f : Addr) (fd : FuncData) : Prop where
  F : FnOk P w K mg base CX k f fd ps sp
  m : Meth K C m f
  b : Binds K fd ps []
def Met (P : Program) (w : World) (K : PySem.W.Frag) (mg : Str → Option Value) (base : Heap) (CX : CXT) (C : Addr) (m : Str) (ps : List Str) (k : Nat) (sp : Sp) : Prop := ∃ f fd, Met1 P w K mg base CX C m ps k sp f fd
section
variable {X : Cx} {C : Addr} {m : Str} {ps : List Str} {k : Nat} {sp : Sp} {o e : Expr} {es : List Expr} {ta : TE} {t : TA} {apos pos : Pos} {E : XK} {CX : CXT}
theorem pe_met {pl : Sem Bool} (M : Met X.prog X.w X.K X.mg X.base CX C m ps k sp) (c : Cls X.K C) (hr : Room k X.A) (hx : Passes CX X E) (he : PE X o ta) (ha : PA X (e :: es) t)
    (hst : starEach (e :: es) X.env = (false, eval e X.env) :: starEach es X.env := by rfl) (hpl : (backTo pos (starEach es X.env)).any (·.1) = false := by rfl)
    (ht : eval (.Call (.Attribute o m apos) (e :: es) [] pos) X.env = (do
      let ov ← eval o X.env
      standAt apos.atName
      let (f, first) ← holding [ov] (getMethod ov m pl)
      callWith pos f first (backTo pos (starEach (e :: es) X.env)) (backToKw pos (keywordEach [] X.env))) := by rfl) : PE X (.Call (.Attribute o m apos) (e :: es) [] pos) (tMeth C m sp [] E ta t) := by
  obtain ⟨f, fd, M⟩ := M
  exact pe_meth he c M.m M.F hr M.b .nil hx ha hst hpl ht
end
section
variable {X : Cx} {C : Addr} {m : Str} {ps : List Str} {k : Nat} {sp : Sp} {o : Expr} {ta : TE} {apos pos : Pos} {E : XK} {CX : CXT}
theorem pe_met0 {pl : Sem Bool} (M : Met X.prog X.w X.K X.mg X.base CX C m ps k sp) (c : Cls X.K C) (hr : Room k X.A) (hx : Passes CX X E) (he : PE X o ta)
    (ht : eval (.Call (.Attribute o m apos) [] [] pos) X.env = (do
      let ov ← eval o X.env
      standAt apos.atName
      let (f, first) ← holding [ov] (getMethod ov m pl)
      callWith pos f first (backTo pos (starEach [] X.env)) (backToKw pos (keywordEach [] X.env))) := by rfl) : PE X (.Call (.Attribute o m apos) [] [] pos) (tMeth C m sp [] E ta tNil) := by
  obtain ⟨f, fd, M⟩ := M
  exact pe_meth0 he c M.m M.F hr M.b .nil hx ht
end
theorem passX {X : Cx} {P : Program} {w : World} {E : XK} (hP : P = X.prog := by rfl) (hw : w = X.w := by rfl) (tk : Takes X (fun cls d _ H => E cls d H)) : Passes (L2.CX P w) X E := by
  subst hP
  subst hw
  exact passes_call tk fun _ _ _ _ h => h
end GX
namespace GX
open PySem PySem.Spec PyProof.Rows L2 LamX
def lv : Option Int → V
  | none => .non
  | some k => .int k
def dF (l : Addr) (n : Int) (lf : Option Int) (st : Bool) : List (Str × V) := [("_sheets", .ref l), ("_done", .int n), ("_left", lv lf), ("_stands", .bl st)]
structure DiskAt (K : PySem.W.Frag) (C : Addr) (H : Hp) (p dx l : Addr) (pages : List PyData) (done : Int) (left : Option Int) (stands : Bool) : Prop where
  ins : H p = some (.ins C dx (dF l done left stands))
  lst : ∃ xs, H l = some (.lst xs) ∧ DpAll K H xs pages
  flat : ∀ d ∈ pages, flatD d = true
/-- the classes that the disk's module speaks of -/
structure DTx (K : PySem.W.Frag) (mg : Str → Option Value) (C cD cN cP cC cS : Addr) : Prop where
  cl : Cls K C
  n1 : NoAttr K C "_sheets"
  n2 : NoAttr K C "_done"
  n3 : NoAttr K C "_left"
  n4 : NoAttr K C "_stands"
  eD : ErrC K mg "BadDisk" cD
  eN : ErrC K mg "NoPage" cN
  eP : ErrC K mg "BadPage" cP
  eC : ErrC K mg "BadCount" cC
  eS : ErrC K mg "Stopped" cS
  least : ∃ t, mg "LEAST_PAGES" = some (.int 2 t)
  most : ∃ t, mg "MOST_PAGES" = some (.int 12 t)
  count : ∃ t, mg "GREATEST_COUNT" = some (.int 1000000 t)
section
variable {K : PySem.W.Frag} {T : List (Addr × Str)} {C : Addr} {H H' : Hp} {p dx l : Addr} {pages : List PyData} {done : Int} {left : Option Int} {stands : Bool}
theorem DiskAt.ne (d : DiskAt K C H p dx l pages done left stands) : p ≠ l := by
  obtain ⟨xs, h, _⟩ := d.lst
  exact ne_of d.ins h fun z => by cases z
theorem dpAll_xm {S : Addr → Prop} {H1 : Hp} (a : XM T S H H1) : ∀ {ds : List PyData} {vs : List V}, (∀ d ∈ ds, flatD d = true) → DpAll K H vs ds → DpAll K H1 vs ds
  | [], _, _, h => by obtain rfl := dpAll0 h; exact .nil
  | d :: ds, _, f, h => by
    obtain ⟨v, r, rfl, h1, h2⟩ := dpAllC h
    exact .cons (Dp.xm a d v (f d List.mem_cons_self) h1) (dpAll_xm a (fun e he => f e (List.mem_cons_of_mem _ he)) h2)
theorem DiskAt.xm {S : Addr → Prop} (d : DiskAt K C H p dx l pages done left stands) (a : XM T S H H') (h1 : ¬ S p) (h2 : ¬ S l) : DiskAt K C H' p dx l pages done left stands := by
  obtain ⟨xs, h, hd⟩ := d.lst
  exact ⟨a.ins d.ins h1, ⟨xs, a.lst h h2, dpAll_xm a d.flat hd⟩, d.flat⟩
theorem DiskAt.xx (d : DiskAt K C H p dx l pages done left stands) (a : XX T H H') : DiskAt K C H' p dx l pages done left stands := d.xm (S := fun _ => False) a.xm id id
/-- its fields are stored -/
theorem DiskAt.fld (d : DiskAt K C H p dx l pages done left stands) (done' : Int) (left' : Option Int) (stands' : Bool) : DiskAt K C (upd H p (.ins C dx (dF l done' left' stands'))) p dx l pages done' left' stands' := by
  obtain ⟨xs, h, hd⟩ := d.lst
  exact ⟨upd_same, ⟨xs, by rw [upd_ne (Ne.symm d.ne)]; exact h, dpAll_xm (T := []) (XM.upd (S := fun b => b = p) d.ins rfl True.intro) d.flat hd⟩, d.flat⟩
theorem dpAll_set {v : V} {d : PyData} (hv : Dp K H v d) : ∀ (i : Nat) {xs : List V} {ds : List PyData}, DpAll K H xs ds → DpAll K H (xs.set i v) (ds.set i d)
  | _, _, [], h => by obtain rfl := dpAll0 h; exact .nil
  | 0, _, d0 :: ds, h => by
    obtain ⟨v0, r, rfl, h1, h2⟩ := dpAllC h
    exact .cons hv h2
  | i + 1, _, d0 :: ds, h => by
    obtain ⟨v0, r, rfl, h1, h2⟩ := dpAllC h
    exact .cons h1 (dpAll_set hv i h2)
theorem mem_set {α : Type} {l : List α} {i : Nat} {a b : α} (h : b ∈ l.set i a) : b = a ∨ b ∈ l := by
  rcases List.mem_or_eq_of_mem_set h with z | z
  · exact .inr z
  · exact .inl z
theorem dpAll_app {xs ys : List V} {ds es : List PyData} : DpAll K H xs ds → DpAll K H ys es → DpAll K H (xs ++ ys) (ds ++ es) := by
  intro h1 h2
  induction ds generalizing xs with
  | nil => obtain rfl := dpAll0 h1; exact h2
  | cons d ds ih =>
    obtain ⟨v, r, rfl, q1, q2⟩ := dpAllC h1
    exact .cons q1 (ih q2)
end
theorem flat_fresh : flatD freshD = true := by decide +kernel
theorem shaped_fresh : SeqAt.shaped freshD = true := by decide +kernel
theorem page_fresh : isPage freshD = true := by decide +kernel
/-! ### promises -/
def spDInit (K : PySem.W.Frag) (T : List (Addr × Str)) (C cD : Addr) : Sp := fun vs H Q E => ∃ p dx v d, vs = [.ref p, v] ∧ H p = some (.ins C dx []) ∧ Dp K H v d ∧ (isNum d 2 12 = false → E (.ref cD) none H) ∧
  ∀ n : Int, d = .int n → 2 ≤ n → n ≤ 12 → ∀ H' l, XM T (fun b => b = p) H H' → H l = none → DiskAt K C H' p dx l (List.replicate n.toNat freshD) 0 none false → Q .non H'
def spDPages (K : PySem.W.Frag) (C : Addr) : Sp := fun vs H Q _ => ∃ p dx l pages done left stands, vs = [.ref p] ∧ DiskAt K C H p dx l pages done left stands ∧ Q (.int pages.length) H
def spDWrites (K : PySem.W.Frag) (C : Addr) : Sp := fun vs H Q _ => ∃ p dx l pages done left stands, vs = [.ref p] ∧ DiskAt K C H p dx l pages done left stands ∧ Q (.int done) H
def spDCheck (K : PySem.W.Frag) (C cN cS : Addr) : Sp := fun vs H Q E => ∃ p dx l pages done left stands v d, vs = [.ref p, v] ∧ DiskAt K C H p dx l pages done left stands ∧ Dp K H v d ∧
  (stands = true → E (.ref cS) none H) ∧ (stands = false → isNum d 0 ((pages.length : Int) - 1) = false → E (.ref cN) none H) ∧ (stands = false → isNum d 0 ((pages.length : Int) - 1) = true → Q .non H)
def spDCount (K : PySem.W.Frag) (T : List (Addr × Str)) (C cS : Addr) : Sp := fun vs H Q E => ∃ p dx l pages done left stands, vs = [.ref p] ∧ DiskAt K C H p dx l pages done left stands ∧
  (left = none → Q .non H) ∧ (left = some 0 → ∀ H', XM T (fun b => b = p) H H' → DiskAt K C H' p dx l pages done left true → E (.ref cS) none H') ∧
  (∀ k, left = some k → k ≠ 0 → ∀ H', XM T (fun b => b = p) H H' → DiskAt K C H' p dx l pages done (some (k - 1)) stands → Q .non H')
def spDPage (K : PySem.W.Frag) (C cN cS : Addr) : Sp := fun vs H Q E => ∃ p dx l pages done left stands v d, vs = [.ref p, v] ∧ DiskAt K C H p dx l pages done left stands ∧ Dp K H v d ∧
  (stands = true → E (.ref cS) none H) ∧ (stands = false → isNum d 0 ((pages.length : Int) - 1) = false → E (.ref cN) none H) ∧
  (∀ (i : Nat) (e : PyData) (u : V), stands = false → d = .int i → pages[i]? = some e → Dp K H u e → Q u H)
def spDWrite (K : PySem.W.Frag) (T : List (Addr × Str)) (P1 P2 C cN cP cS : Addr) : Sp := fun vs H Q E => ∃ p dx l pages done left stands v d u e, vs = [.ref p, v, u] ∧ DiskAt K C H p dx l pages done left stands ∧ Dp K H v d ∧ Dp K H u e ∧ flatD e = true ∧ SeqAt.shaped e = true ∧
  GxR.TabG H P1 ∧ GxR.TabG H P2 ∧ (stands = true → E (.ref cS) none H) ∧ (stands = false → isNum d 0 ((pages.length : Int) - 1) = false → E (.ref cN) none H) ∧
  (stands = false → isNum d 0 ((pages.length : Int) - 1) = true → isPage e = false → ∀ H', XX T H H' → E (.ref cP) none H') ∧
  (stands = false → isNum d 0 ((pages.length : Int) - 1) = true → isPage e = true → left = some 0 → ∀ H', XM T (fun b => b = p) H H' → DiskAt K C H' p dx l pages done left true → E (.ref cS) none H') ∧
  (∀ (i : Nat), stands = false → d = .int i → i < pages.length → isPage e = true → left ≠ some 0 → ∀ H', XM T (fun b => b = p ∨ b = l) H H' → DiskAt K C H' p dx l (pages.set i e) (done + 1) (left.map (· - 1)) false → Q .non H')
def spDArm (K : PySem.W.Frag) (T : List (Addr × Str)) (C cC : Addr) : Sp := fun vs H Q E => ∃ p dx l pages done left stands v d, vs = [.ref p, v] ∧ DiskAt K C H p dx l pages done left stands ∧ Dp K H v d ∧ (isNum d 0 1000000 = false → E (.ref cC) none H) ∧
  (∀ n, d = .int n → isNum d 0 1000000 = true → ∀ H', XM T (fun b => b = p) H H' → DiskAt K C H' p dx l pages done (some n) stands → Q .non H')
def spDAgain (K : PySem.W.Frag) (T : List (Addr × Str)) (C : Addr) : Sp := fun vs H Q _ => ∃ p dx l pages done left stands, vs = [.ref p] ∧ DiskAt K C H p dx l pages done left stands ∧
  ∀ H', XM T (fun b => b = p) H H' → DiskAt K C H' p dx l pages done none false → Q .non H'
end GX
namespace GX
open PySem PySem.Spec PyProof.Rows L2 LamX
theorem box_div {i j : Int} (h0 : 0 < j) (h1 : j ≤ 1000000000000000000) : CDivW i j := by
  have e60 : (2 : Nat) ^ 60 = 1152921504606846976 := by decide
  exact wide_div (b := 60) h0 (by rw [e60]; omega) (by decide) (by decide)
/-- the box of the script's numbers -/
structure BoxAt (H : Hp) (b l : Addr) (ns : List Int) (z : Int) : Prop where
  hb : H b = some (.lst [.ref l, .int z])
  hl : H l = some (.lst (ns.map V.int))
  ne : b ≠ l
  lo : 0 ≤ z
  hi : z < 2147483647
  len : ns.length ≤ 63
def spBegun (K : PySem.W.Frag) (T : List (Addr × Str)) : Sp := fun vs H Q _ => ∃ a ns, vs = [.ref a] ∧ SqL K H a (ns.map V.int) ∧ ns.length ≤ 63 ∧ ∀ H' b l z, XX T H H' → BoxAt H' b l ns z → H b = none → H l = none → Q (.ref b) H'
def spTake (T : List (Addr × Str)) : Sp := fun vs H Q _ => ∃ b l ns z m, vs = [.ref b, .int m] ∧ BoxAt H b l ns z ∧ 0 < m ∧ m ≤ 1000000000000000000 ∧
  ∀ H' ns' z' r, XM T (fun c => c = b ∨ c = l) H H' → BoxAt H' b l ns' z' → 0 ≤ r → r < m → Q (.int r) H'
section
variable {K : PySem.W.Frag} {T : List (Addr × Str)} {H H' : Hp} {b l : Addr} {ns : List Int} {z : Int}
theorem BoxAt.xx (h : BoxAt H b l ns z) (a : XX T H H') : BoxAt H' b l ns z := ⟨a.lst h.hb, a.lst h.hl, h.ne, h.lo, h.hi, h.len⟩
theorem BoxAt.xm {S : Addr → Prop} (h : BoxAt H b l ns z) (a : XM T S H H') (h1 : ¬ S b) (h2 : ¬ S l) : BoxAt H' b l ns z := ⟨a.lst h.hb h1, a.lst h.hl h2, h.ne, h.lo, h.hi, h.len⟩
theorem dp_ints (H : Hp) : ∀ ns : List Int, DpAll K H (ns.map V.int) (ns.map PyData.int)
  | [] => .nil
  | n :: ns => .cons (.int n) (dp_ints H ns)
theorem canLay_ints : ∀ ns : List Int, PyData.canLayAll0 (ns.map PyData.int) = true
  | [] => rfl
  | n :: ns => by
    show (PyData.canLay0 (.int n) && PyData.canLayAll0 (ns.map PyData.int)) = true
    rw [canLay_ints ns]; rfl
theorem depth_ints : ∀ ns : List Int, PyData.depthAll (ns.map PyData.int) = 0
  | [] => rfl
  | n :: ns => by
    show max (PyData.depth (.int n)) (PyData.depthAll (ns.map PyData.int)) = 0
    rw [depth_ints ns]; rfl
theorem shaped_ints (ns : List Int) : SeqAt.shaped (.list (ns.map PyData.int)) = true := by
  unfold SeqAt.shaped
  have h1 : PyData.canLay0 (.list (ns.map PyData.int)) = true := by
    show PyData.canLayAll0 (ns.map PyData.int) = true
    exact canLay_ints ns
  have h2 : PyData.depth (.list (ns.map PyData.int)) = 1 := by
    show PyData.depthAll (ns.map PyData.int) + 1 = 1
    rw [depth_ints]
  rw [h1, h2]
  rfl
theorem eqv_nil (ns : List Int) : PyData.eqv (.list (ns.map PyData.int)) (.list []) = ns.isEmpty := by
  cases ns with
  | nil => rfl
  | cons n r => rfl
theorem shaped_nil : SeqAt.shaped (.list []) = true := by decide +kernel
end
end GX
namespace GX
open PySem PySem.Spec PyProof.Rows L2 LamX
/-! ### a call of a slot's thing inside a try -/
section
variable {X : Cx}
def tActS (P : Program) (w : World) (K : PySem.W.Frag) (mg : Str → Option Value) (base : Heap) (k i : Nat) (E : L2.St → XK) : TE := fun σ H Q => tAct P w K mg base k i (E σ) σ H Q
theorem pe_act0S {k i : Nat} {a : Str} {E : L2.St → XK} {p1 p2 : Pos} (hr : Room k X.A) (hx : ∀ σ, PassesAt (L2.CX X.prog X.w) X σ (E σ)) (hN : X.N[i]? = some a) (hv : Vis X.env.scope a) (hd : (a == ("__debug__" : Str)) = false := by decide) (hcd : (a == ("__classdict__" : Str)) = false := by decide) :
    PE X (.Call (.Name a p1) [] [] p2) (tActS X.prog X.w X.K X.mg X.base k i E) := by
  refine ⟨fun pins s σ H Q I h => ?_⟩
  obtain ⟨f, ph, sp, hs, ho, hc, hp, ht⟩ := h
  refine wpAny_Call_Name_kw (thn ((pe_var (pos := p1) (i := i) hN hv hd hcd).run pins s σ H (fun v H1 => v = .ref f ∧ H1 = H) I ⟨.ref f, hs, rfl, rfl⟩) fun u s1 hh => ?_)
  obtain ⟨v, H1, I1, r1, ev, eH⟩ := hh
  subst ev
  subst eH
  obtain rfl : u = Value.ref f := r1
  refine PySem.W.callWith_F0 (ho.at I1) ?_
  refine wpAny_call (codeAny_mono (hc X.A X.stack s1 H1 Q (E σ) hr I1.env0 hp ht) fun r s' hq => ?_)
  cases r with
  | error e => exact hx σ pins H1 s1 e s' I1 hq
  | ok fl =>
    cases fl with
    | ret u => exact I1.after hq
    | next => exact False.elim hq
    | brk => exact False.elim hq
    | cont => exact False.elim hq
/-! ### list.count of flat values -/
def rCntF (K : PySem.W.Frag) : V → List V → Hp → VK → Prop := fun x xs H Q => ∃ (p : Addr) (ys : List V) (y : V), x = .ref p ∧ xs = [y] ∧ SqL K H p ys ∧ flatV y = true ∧ ys.all flatV = true ∧ Q (.int ((ys.countP fun z => eqV z y : Nat) : Int)) H
theorem eqU_count {y : V} : ∀ {ys : List V} {us : List Value}, Vals ys us → ys.all flatV = true → us.countP (eqU y) = ys.countP fun z => eqV z y
  | _, _, .nil, _ => rfl
  | _, _, .cons r t, f => by
    rw [List.all_cons, Bool.and_eq_true] at f
    rw [List.countP_cons, List.countP_cons, eqU_count t f.2, eqU_of r f.1]
theorem mt_fcount : MtR X "list.count" (rCntF X.K) := by
  intro pins s σ H x xs v us Q I rx rxs h
  obtain ⟨p, ys, y, rfl, rfl, hs, fy, fys, q⟩ := h
  cases rx
  cases rxs with
  | cons ry rt =>
    rename_i uy ut
    cases rt
    obtain ⟨its, rv, ⟨⟨cls, dd, data, sl⟩, n, ho, hc, hdn, hd⟩, hlen⟩ := I.list hs
    simp only at hc hd
    subst hc hd
    refine call_meets PySem.F.slot_list_count ⟨_, ho, rfl⟩ PySem.F.entry_list_count (PySem.F.args_list_count_2 _ _)
      (SeqAt.list_countAt p its.toArray n dd sl uy (eqU y)) ⟨ho, fun u' hu' => mem_eqAt ry fy rv fys u' (by simpa using hu'), ?_⟩
    have ec : its.toArray.toList.countP (eqU y) = ys.countP fun z => eqV z y := eqU_count rv fys
    refine ⟨.int ((ys.countP fun z => eqV z y : Nat) : Int), H, I.tok _, ⟨s.toks, ?_⟩, q⟩
    show Value.int ((its.toArray.toList.countP (eqU y) : Nat) : Int) s.toks = _
    rw [ec]
end
theorem pss_ex {X : Cx} {α : Type} {b : List Stmt} {Pr : α → Prop} {t : α → TS} (h : ∀ y, Pr y → PSs X b (t y)) : PSs X b (fun D σ H => ∃ y, Pr y ∧ t y D σ H) := ⟨fun pins s σ H D I ht => by
  obtain ⟨y, hy, ht⟩ := ht
  exact (h y hy).run pins s σ H D I ht⟩
/-! ### the words of refusals -/
def wordsE : List Str := ["BadCount", "BadDisk", "BadPage", "BadRow", "BadText", "Full", "NoPage", "NoRow", "Stopped"]
/-- the nine classes' places -/
structure ETab (mg : Str → Option Value) (cE : Addr) (cs : Fin 9 → Addr) : Prop where
  gE : mg "PageError" = some (.ref cE)
  g0 : mg "BadCount" = some (.ref (cs 0))
  g1 : mg "BadDisk" = some (.ref (cs 1))
  g2 : mg "BadPage" = some (.ref (cs 2))
  g3 : mg "BadRow" = some (.ref (cs 3))
  g4 : mg "BadText" = some (.ref (cs 4))
  g5 : mg "Full" = some (.ref (cs 5))
  g6 : mg "NoPage" = some (.ref (cs 6))
  g7 : mg "NoRow" = some (.ref (cs 7))
  g8 : mg "Stopped" = some (.ref (cs 8))
/-- an error of the i-th class -/
structure EIs (K : PySem.W.Frag) (cE : Addr) (cs : Fin 9 → Addr) (i : Fin 9) (D : Addr) : Prop where
  ex : ExcC K D
  top : PySem.W.exmOne K (.ref D) (.ref cE) = some true
  is_ : ∀ j : Fin 9, PySem.W.kitOne K (.ref D) (.ref (cs j)) = some (decide (j = i))
  ve : PySem.W.kitOne K (.ref D) (.type "ValueError") = some true
def toldD (i : Fin 9) : PyData := .tuple [.str (wordsE.getD i.1 ""), .int 0]
/-- _law_told: what the callee tells, or its refusal's word -/
def spTold (P : Program) (w : World) (K : PySem.W.Frag) (mg : Str → Option Value) (base : Heap) (T : List (Addr × Str)) (cE : Addr) (cs : Fin 9 → Addr) (k : Nat) : Sp := fun vs H Q _ => ∃ f ph sp, vs = [.ref f] ∧ FnObj H f ∧ CallOk P w K mg base k f ph sp ∧ ph H ∧
  ∀ E : XK, (∀ H1 i D, i.1 ≠ 4 → EIs K cE cs i D → (∀ H' v, XX T H1 H' → Dp K H' v (toldD i) → Q v H') → E (.ref D) none H1) → sp H Q E
end GX
namespace GX
open PySem PySem.Spec PyProof.Rows L2 LamX
mutual
def okD : PyData → Bool
  | .none => true
  | .bool _ => true
  | .int _ => true
  | .str _ => true
  | .tuple ds => decide (ds.length ≤ 20000) && okAll ds
  | .list ds => decide (ds.length ≤ 20000) && okAll ds
  | .dict _ => false
def okAll : List PyData → Bool
  | [] => true
  | d :: ds => okD d && okAll ds
end
/-- two values that are the same data, of depth below n -/
def spAl (K : PySem.W.Frag) : Nat → Sp
  | 0 => fun _ _ _ _ => False
  | n + 1 => fun vs H Q _ => ∃ a b d, vs = [a, b] ∧ Dp K H a d ∧ Dp K H b d ∧ okD d = true ∧ PyData.depth d ≤ n ∧ Q (.bl true) H
/-- each of the works is refused, by the i-th word -/
def spAll (P : Program) (w : World) (K : PySem.W.Frag) (mg : Str → Option Value) (base : Heap) (T : List (Addr × Str)) (cE : Addr) (cs : Fin 9 → Addr) (k : Nat) : Sp := fun vs H Q _ => ∃ (a : Addr) (fs : List Addr) (v : V) (i : Fin 9), vs = [.ref a, v] ∧ SqL K H a (fs.map V.ref) ∧ Dp K H v (toldD i) ∧ i.1 ≠ 4 ∧
  (∀ f ∈ fs, ∀ H1, XX T H H1 → ∃ ph sp, FnObj H1 f ∧ CallOk P w K mg base k f ph sp ∧ ph H1 ∧ ∀ (Q : VK) (E : XK), (∀ H2 D, XX T H1 H2 → EIs K cE cs i D → E (.ref D) none H2) → sp H1 Q E) ∧ ∀ H', XX T H H' → Q (.bl true) H'
theorem depth_told (i : Fin 9) : PyData.depth (toldD i) ≤ 1 := by decide +revert +kernel
theorem ok_toldD (i : Fin 9) : okD (toldD i) = true := by decide +revert +kernel
end GX
set_option maxHeartbeats 4000000
/-! a list comprehension whose items are data without lists; words that are numbers -/
namespace GX
open PySem PySem.Spec PyProof.Rows L2 LamX
section
variable {T : List (Addr × Str)} {H H1 H' : Hp} {K : PySem.W.Frag}
/-- a new list that is filled, beside it all stands -/
theorem XX.fillD (x : XX T H H') {D : Addr} {o : HO} {xs : List V} (hD : H D = none) (e : H' D = some (.lst xs)) : XX T H (upd H' D o) := by
  have x2 := (x.xm (S := fun c => c = D)).trans (XM.upd (o' := o) e rfl True.intro)
  refine (x2.drop (S0 := fun _ => False) fun b h _ => by rw [h]; exact hD).xx fun b ps h => ?_
  obtain ⟨ps', q⟩ := x.tbl b ps h
  have nb : b ≠ D := fun z => by rw [z, hD] at h; cases h
  exact ⟨ps', by rw [upd_ne nb]; exact q⟩
theorem dpAll_snoc : ∀ {vs : List V} {ds : List PyData} {v : V} {d : PyData}, DpAll K H vs ds → Dp K H v d → DpAll K H (vs ++ [v]) (ds ++ [d])
  | _, [], _, _, h, h2 => by cases h; exact .cons h2 .nil
  | _, d0 :: ds, _, _, h, h2 => by
    cases h with
    | cons h1 hr => exact .cons h1 (dpAll_snoc hr h2)
theorem wipe1 {σ : L2.St} {i : Nat} {v : Option V} : wipe ((wipe σ [i]).set i v) [i] = wipe σ [i] := by
  show ((σ.set i none).set i v).set i none = σ.set i none
  rw [List.set_set, List.set_set]
/-- [te for i in a list] of data without lists -/
theorem lc_dp {a D : Addr} {xs : List V} {i : Nat} {te : TE} {σ : L2.St} {Qd : Hp → Prop} (gd : Nat → PyData) (hD : H1 D = none) (hs : SqL K H1 a xs) (hz : xs.length < sizeLine) (fl : ∀ j, j < xs.length → flatD (gd j) = true)
    (step : ∀ j x H' (Qe : VK), xs[j]? = some x → XX T H1 H' → (∀ H'' v, XX T H' H'' → Dp K H'' v (gd j) → Qe v H'') → te ((wipe σ [i]).set i (some x)) H' Qe)
    (fin : ∀ H' acc, XX T H1 H' → H' D = some (.lst acc) → DpAll K H' acc ((List.range xs.length).map gd) → Qd H') :
    ∃ W : Nat → Nat → Hp → Prop, (∃ m, W 0 m (upd H1 D (.lst []))) ∧ ∀ j m H, W j m H →
      ((Itl K a).stop j H ∧ Qd H) ∨ ((Itl K a).go j H ∧ ∃ Nx : Hp → Prop, (∀ H', Nx H' → ∃ m', m' < m ∧ W (j + 1) m' H') ∧ ∀ x H', (Itl K a).yld j H x H' → gName i x (wipe σ [i]) H' fun σ2 H2 => wipe σ2 [i] = wipe σ [i] ∧ tYes σ2 H2 fun b H3 =>
        if b = true then te σ2 H3 fun y H4 => ∃ acc, H4 D = some (.lst acc) ∧ acc.length < sizeLine ∧ Nx (upd H4 D (.lst (acc ++ [y]))) else Nx H3) := by
  refine lc_list (xs := xs) (fun j H' => XX T H1 H' ∧ ∃ acc, H' D = some (.lst acc) ∧ acc.length = j ∧ DpAll K H' acc ((List.range j).map gd)) ⟨XX.new hD, [], upd_same, rfl, .nil⟩ (fun j H' _ pv => pv.1.sqL hs) (fun j x H' ex pv => ⟨wipe1, ?_⟩) (fun H' pv => ?_)
  · obtain ⟨x1, acc, e1, el, da⟩ := pv
    have hj := (List.getElem?_eq_some_iff.mp ex).1
    refine step j x H' _ ex x1 fun H'' v x2 dv => ⟨acc, x2.lst e1, by omega, (x1.trans x2).fillD hD (x2.lst e1), acc ++ [v], upd_same, by simp [el], ?_⟩
    have x3 : XM T (fun c => c = D) H'' (upd H'' D (.lst (acc ++ [v]))) := XM.upd (x2.lst e1) rfl True.intro
    have fa : ∀ d ∈ (List.range j).map gd, flatD d = true := fun d hd => by
      obtain ⟨m, hm, e⟩ := List.mem_map.mp hd
      rw [← e]
      exact fl m (Nat.lt_trans (List.mem_range.mp hm) hj)
    rw [List.range_succ, List.map_append]
    exact dpAll_snoc (dpAll_xm x3 fa (Dp.xxAll x2 _ _ da)) (Dp.xm x3 _ _ (fl j hj) dv)
  · obtain ⟨x1, acc, e1, _, da⟩ := pv
    exact fin H' acc x1 e1 da
end
/-! ### words that are numbers -/
def digW (w : Str) : Bool := (TL.tl w).all fun c => decide (48 ≤ c) && decide (c ≤ 57)
def okW (w : Str) : Bool := digW w && (decide (1 ≤ w.length) && decide (w.length ≤ 3))
def valW (w : Str) : Nat := NumText.digitsVal (TL.tl w)
/-- the number that a word tells -/
def numO (w : Str) : Option Nat := if okW w = true ∧ Str.ofString (toString ((valW w : Nat) : Int)) = w then some (valW w) else none
def numV : Option Nat → V
  | some n => .int (n : Int)
  | none => .non
def numD : Option Nat → PyData
  | some n => .int (n : Int)
  | none => .none
theorem num_dp {K : PySem.W.Frag} {H : Hp} (o : Option Nat) : Dp K H (numV o) (numD o) := by
  cases o with
  | none => exact .non
  | some n => exact .int _
theorem num_fl (o : Option Nat) : flatD (numD o) = true := by cases o <;> rfl
theorem digit128 : ∀ c, c < 128 → Unicode.isDigit c = (decide (48 ≤ c) && decide (c ≤ 57)) := by decide +kernel
theorem digW_all {w : Str} : (Txt.isascii w && Txt.isdigit w) = (digW w && decide (1 ≤ w.length)) := by
  unfold Txt.isascii Txt.isdigit digW
  have key : ∀ l : List Nat, (l.all (fun c => decide (c < 128)) && l.all Unicode.isDigit) = l.all fun c => decide (48 ≤ c) && decide (c ≤ 57) := by
    intro l
    rw [Bool.eq_iff_iff, Bool.and_eq_true, List.all_eq_true, List.all_eq_true, List.all_eq_true]
    constructor
    · rintro ⟨h1, h2⟩ c hc
      have q1 := of_decide_eq_true (h1 c hc)
      have q2 := h2 c hc
      rw [digit128 c q1] at q2
      exact q2
    · intro h
      refine ⟨fun c hc => ?_, fun c hc => ?_⟩
      · have q := h c hc
        rw [Bool.and_eq_true, decide_eq_true_eq, decide_eq_true_eq] at q
        exact decide_eq_true (by omega)
      · have q := h c hc
        have q' := q
        rw [Bool.and_eq_true, decide_eq_true_eq, decide_eq_true_eq] at q'
        rw [digit128 c (by omega)]
        exact q
  have e1 : w.cps.all (fun x => decide (x < 128)) = (TL.tl w).all fun c => decide (c < 128) := by rw [← Array.all_toList]
  have e2 : w.cps.all Unicode.isDigit = (TL.tl w).all Unicode.isDigit := by rw [← Array.all_toList]
  rw [e1, e2]
  rw [← key]
  cases (TL.tl w).all (fun c => decide (c < 128)) <;> cases (TL.tl w).all Unicode.isDigit <;> simp
  omega
theorem okW_int {w : Str} (h : okW w = true) : intText? w = some ((valW w : Nat) : Int) := by
  unfold okW at h
  obtain ⟨h1, h⟩ := Bool.and_eq_true_iff.mp h
  obtain ⟨h2, h3⟩ := Bool.and_eq_true_iff.mp h
  have h2 := of_decide_eq_true h2
  have h3 := of_decide_eq_true h3
  refine intText_digits (x := w) (fun c hc => ?_) (fun e => ?_) (by omega)
  · have z := List.all_eq_true.mp h1 c hc
    rw [Bool.and_eq_true, decide_eq_true_eq, decide_eq_true_eq] at z
    exact z
  · rw [TL.len_tl, TL.tl, e] at h2
    simp at h2
theorem digits_lt : ∀ l : List Nat, (∀ c ∈ l, c ≤ 57) → NumText.digitsVal l < 10 ^ l.length := by
  intro l h
  unfold NumText.digitsVal
  have key : ∀ (l : List Nat) (a k : Nat), (∀ c ∈ l, c ≤ 57) → a < 10 ^ k → l.foldl (fun acc c => acc * 10 + (c - 48)) a < 10 ^ (k + l.length) := by
    intro l
    induction l with
    | nil => intro a k _ ha; simpa using ha
    | cons c l ih =>
      intro a k hl ha
      rw [List.foldl_cons, List.length_cons, show k + (l.length + 1) = (k + 1) + l.length by omega]
      refine ih _ _ (fun d hd => hl d (List.mem_cons_of_mem _ hd)) ?_
      have := hl c List.mem_cons_self
      rw [Nat.pow_succ]
      omega
  have := key l 0 0 h (by decide)
  simpa using this
theorem valW_lt {w : Str} (h : okW w = true) : valW w < 1000 := by
  unfold okW at h
  obtain ⟨h1, h⟩ := Bool.and_eq_true_iff.mp h
  obtain ⟨h2, h3⟩ := Bool.and_eq_true_iff.mp h
  have h3 := of_decide_eq_true h3
  rw [TL.len_tl] at h3
  have q := digits_lt (TL.tl w) fun c hc => by
    have z := List.all_eq_true.mp h1 c hc
    rw [Bool.and_eq_true, decide_eq_true_eq, decide_eq_true_eq] at z
    exact z.2
  exact Nat.lt_of_lt_of_le q (Nat.pow_le_pow_right (by decide) h3)
end GX
set_option maxHeartbeats 2000000
/-! the program's statements, by their places -/
namespace GX
open PySem PySem.Spec PyProof.Rows L2
def top (i : Nat) : Stmt := PySem.Challenge.pw_slotpages_k19_steps_written_and_refused.main.body.getD i (.Pass ⟨0, 0, 0, 0⟩)
abbrev s_BtInit : Stmt := inClass (top 10) 0
abbrev s_is_number : Stmt := top 14
abbrev s_are_values : Stmt := top 15
abbrev s_text_of : Stmt := top 19
abbrev s_rows_of : Stmt := top 20
abbrev s_number_of : Stmt := top 21
abbrev s_numbers_of : Stmt := top 22
abbrev s_written_steps : Stmt := top 25
abbrev s_read_steps : Stmt := top 26
abbrev s_step_words : Stmt := top 27
abbrev s_word_of : Stmt := top 28
abbrev s_step_of : Stmt := top 29
abbrev s_values_of : Stmt := top 30
abbrev s_begun : Stmt := top 32
abbrev s_take : Stmt := top 33
abbrev s_alike : Stmt := top 34
abbrev s_told : Stmt := top 35
abbrev s_all : Stmt := top 36
abbrev s_lstep : Stmt := top 37
abbrev s_ltext : Stmt := top 38
abbrev s_lnumber : Stmt := top 39
abbrev s_lrow : Stmt := top 40
abbrev s_lspoilt : Stmt := top 41
abbrev s_law : Stmt := top 42
end GX
set_option maxHeartbeats 4000000
/-! slotpages.texts: number_of, numbers_of, rows_of -/
namespace GX
open PySem PySem.Spec PyProof.Rows L2 LamX
def spNumOf : Sp := fun vs H Q _ => ∃ w : Str, vs = [.str w] ∧ w.length ≤ sizeLine ∧ Q (numV (numO w)) H
def wordsV2 (ws : List Str) : List V := ws.map V.str
/-- numbers_of(words) -/
def spNumsOf (K : PySem.W.Frag) (T : List (Addr × Str)) : Sp := fun vs H Q _ => ∃ (a : Addr) (ws : List Str), vs = [.ref a] ∧ SqL K H a (ws.map V.str) ∧ ws.length < sizeLine ∧ (∀ w ∈ ws, w.length ≤ sizeLine) ∧ ∀ H' v, XX T H H' → Dp K H' v (.tuple (ws.map fun w => numD (numO w))) → Q v H'
def rowsW (t : Str) : List Str := if t.length = 0 then [] else Txt.split t "\n"
def spRows (K : PySem.W.Frag) (T : List (Addr × Str)) : Sp := fun vs H Q _ => ∃ t : Str, vs = [.str t] ∧ t.length + 2 ≤ sizeLine ∧ ∀ H' p, XX T H H' → H p = none → H' p = some (.lst ((rowsW t).map V.str)) → Q (.ref p) H'
section
variable {P : Program} {w : World} {K : PySem.W.Frag} {mg : Str → Option Value} {base : Heap} {T : List (Addr × Str)}
theorem sc_number_of : FnScope ["word", "number"] ["word"] (defScope s_number_of) := ⟨rfl, rfl, rfl, by decide +kernel, rfl, by decide +kernel, by decide +kernel⟩
theorem ok_number_of {f : Addr} {fd : FuncData} (F : L2.Fun K "number_of" "number_of" s_number_of f fd) (B : Blt mg) (bs : mg "str" = none) (mf : ∃ t, mg "MOST_FIGURES" = some (.int 3 t)) : FnOk P w K mg base CX0 1 f fd ["word"] spNumOf := by
  refine F.ok sc_number_of (fun vs H Q E h => by obtain ⟨x, rfl, _⟩ := h; rfl) (fun cdv A outer s H vs Q E hr h => ?_)
  obtain ⟨x, rfl, hx, k⟩ := h
  have nd := sc_number_of.nd
  refine ⟨_, pss_cons (ps_if (PW.pt (pw_or (pt_not (pt_val (pe_m0 PySem.F.slot_str_isascii PySem.F.type_str_isascii mt_isascii (pv 0)))) (pw_or (pt_not (pt_val (pe_m0 PySem.F.slot_str_isdigit PySem.F.type_str_isdigit mt_isdigit (pv 0)))) (pw_or1 (pt_cmpR op_gt (pe_callB call_len_str (by rfl) B.len PySem.boot_len (pa_cons (pv 0) pa_nil)) (pe_const mf) (nomark _)))))) (pss_one (ps_ret pe_non)) pss_nil)
    (pss_cons (ps_set (i := 1) nd rfl (Or.inl rfl) (pe_callTy call_int_str (by rfl) B.int (by decide +kernel) (pa_cons (pv 0) pa_nil)))
    (pss_one (ps_ret (pe_ifExp (pt_cmpR op_eq (pe_callTy call_str_int (by rfl) bs (by decide +kernel) (pa_cons (pv 1) pa_nil)) (pv 0) (nomark _)) (pv 1) pe_non)))), ?_⟩
  have hw := digW_all (w := x)
  refine ⟨_, rfl, ⟨x, rfl⟩, x, rfl, rfl, trivial, _, rfl, ?_⟩
  by_cases h1 : Txt.isascii x = true
  · rw [h1]
    refine iteF ⟨_, rfl, ⟨x, rfl⟩, x, rfl, rfl, trivial, _, rfl, ?_⟩
    by_cases h2 : Txt.isdigit x = true
    · rw [h2]
      rw [h1, h2] at hw
      obtain ⟨w1, w2⟩ := Bool.and_eq_true_iff.mp hw.symm
      refine iteF ⟨_, rfl, x, rfl, hx, _, _, rfl, rfl, _, rfl, ?_⟩
      by_cases h3 : x.length ≤ 3
      · rw [decide_eq_false (by omega)]
        have ok : okW x = true := by unfold okW; rw [w1, w2, decide_eq_true h3] <;> rfl
        have lt := valW_lt ok
        refine iteF ⟨_, rfl, x, _, rfl, okW_int ok, by omega, _, rfl, _, rfl, ?_, _, rfl, rfl, _, rfl, ?_⟩
        · have : ((valW x : Nat) : Int).natAbs = valW x := by omega
          rw [this]
          exact Nat.lt_of_le_of_lt (Nat.log2_le_self _) (by omega)
        · by_cases h4 : Str.ofString (toString ((valW x : Nat) : Int)) = x
          · have e : numO x = some (valW x) := by unfold numO; rw [if_pos ⟨ok, h4⟩]
            rw [e] at k
            rw [decide_eq_true (by rw [h4])]
            exact iteT ⟨_, rfl, k⟩
          · have e : numO x = none := by unfold numO; rw [if_neg fun z => h4 z.2]
            rw [e] at k
            rw [decide_eq_false (fun z => h4 (V.str.inj z))]
            exact iteF k
      · rw [decide_eq_true (by omega)]
        have e : numO x = none := by
          unfold numO okW
          rw [decide_eq_false h3] <;> simp
        rw [e] at k
        exact iteT k
    · have h2' : Txt.isdigit x = false := by simpa using h2
      rw [h2']
      rw [h1, h2'] at hw
      have e : numO x = none := by
        unfold numO okW
        rw [← Bool.and_assoc, ← hw] <;> simp
      rw [e] at k
      exact iteT k
  · have h1' : Txt.isascii x = false := by simpa using h1
    rw [h1']
    rw [h1'] at hw
    have e : numO x = none := by
      unfold numO okW
      rw [← Bool.and_assoc, ← hw] <;> simp
    rw [e] at k
    exact iteT k
theorem sc_numbers_of : FnScope ["words", "word"] ["words"] (defScope s_numbers_of) := ⟨rfl, rfl, rfl, by decide +kernel, rfl, by decide +kernel, by decide +kernel⟩
theorem map_range {α β : Type} (g : α → β) (d : α) : ∀ l : List α, ((List.range l.length).map fun j => g (l.getD j d)) = l.map g := by
  intro l
  refine List.ext_getElem (by simp) fun i h1 h2 => ?_
  simp at h1
  simp [h1]
theorem ok_numbers_of {f : Addr} {fd : FuncData} (F : L2.Fun K "numbers_of" "numbers_of" s_numbers_of f fd) (B : Blt mg) (cN : Cal P w K mg base CX0 "number_of" ["word"] 1 spNumOf) : FnOk P w K mg base CX0 2 f fd ["words"] (spNumsOf K T) := by
  refine F.ok sc_numbers_of (fun vs H Q E h => by obtain ⟨a, ws, rfl, _⟩ := h; rfl) (fun cdv A outer s H vs Q E hr h => ?_)
  obtain ⟨a, ws, rfl, hs, hz, hw, k⟩ := h
  have nd := sc_numbers_of.nd
  refine ⟨_, pss_one (ps_ret (pe_callTy call_tuple_of (by rfl) B.tuple boot_tuple (pa_cons (pe_lc (own := [("word", 1)]) (g := gName 1) (tt := tYes) (te := tCall spNumOf [] E0 (tCons (tVar 1) tNil)) (by rfl) nd (pi_list (pv 0)) (blkOk_by (own := [("word", 1)]) (N := ["words", "word"]) (sc := defScope s_numbers_of) (by decide +kernel))
    (fun _ _ _ _ _ => pg_name (i := 1) nd rfl (Or.inl rfl)) (fun _ _ _ _ _ => pts_nil) (fun _ _ _ _ _ => pe_cal cN hr (pa_cons (pv 1) pa_nil))) pa_nil))), ?_⟩
  refine ⟨_, rfl, a, rfl, ⟨_, hs⟩, fun D hD => ?_⟩
  have lw : (ws.map V.str).length = ws.length := List.length_map ..
  refine lc_dp (T := T) (fun j => numD (numO (ws.getD j ""))) hD hs (by rw [lw]; exact hz) (fun j _ => num_fl _) (fun j x H' Qe ex x1 q => ?_) (fun H' acc x1 e1 da => ?_)
  · have hj := (List.getElem?_eq_some_iff.mp ex).1
    rw [lw] at hj
    rw [List.getElem?_map, List.getElem?_eq_getElem hj] at ex
    obtain rfl : V.str ws[j] = x := Option.some.inj ex
    have eg : ws.getD j "" = ws[j] := by simp [hj]
    have qq := q H' (numV (numO ws[j])) (XX.refl H') (by rw [eg]; exact num_dp _)
    exact ⟨_, rfl, ws[j], rfl, hw _ (List.getElem_mem hj), qq⟩
  · rw [lw, map_range (fun w => numD (numO w))] at da
    refine ⟨D, acc, rfl, .inl ⟨SqL.of e1, fun l hl => ?_⟩⟩
    exact k _ _ (x1.then_new hl) (.tup (SqT.of upd_same) (Dp.xxAll (XX.new (T := T) hl) _ _ da))
theorem sc_rows_of : FnScope ["text"] ["text"] (defScope s_rows_of) := ⟨rfl, rfl, rfl, by decide +kernel, rfl, by decide +kernel, by decide +kernel⟩
theorem ok_rows_of {f : Addr} {fd : FuncData} (F : L2.Fun K "rows_of" "rows_of" s_rows_of f fd) : FnOk P w K mg base CX0 1 f fd ["text"] (spRows K T) := by
  refine F.ok sc_rows_of (fun vs H Q E h => by obtain ⟨a, rfl, _⟩ := h; rfl) (fun cdv A outer s H vs Q E hr h => ?_)
  obtain ⟨t, rfl, hz, k⟩ := h
  refine ⟨_, pss_one (ps_ret (pe_ifExp (pt_truth (pv 0) (by intro _; rfl)) (pe_split (pv 0) pe_str) (pe_lst pa_nil))), ?_⟩
  refine ⟨_, rfl, _, ⟨by omega, rfl⟩, ?_⟩
  by_cases h0 : t.length = 0
  · rw [show ((t.length : Int) != 0) = false by rw [h0]; rfl]
    refine iteF ⟨Nat.zero_le _, fun p hp => ?_⟩
    refine k _ _ (XX.new hp) hp ?_
    unfold rowsW
    rw [if_pos h0, upd_same]
    rfl
  · rw [show ((t.length : Int) != 0) = true by simpa using h0]
    refine iteT ⟨_, rfl, ⟨t, rfl⟩, t, "\n", rfl, rfl, rfl, hz, fun p hp => ?_⟩
    refine k _ _ (XX.new hp) hp ?_
    unfold rowsW
    rw [if_neg h0, upd_same]
end
end GX
set_option maxHeartbeats 2000000
/-! a, *r = a list -/
namespace GX
open PySem PySem.Spec PySem.Calls PyProof.Rows L2 LamX
section
variable {prog : Program} {w : World} {A : Around} {E : Value → Shared → Prop} {s : Shared}
theorem star_list {l : Addr} {x : Value} {xs : List Value} {Q : List Value → Shared → Prop} (hh : A.handled = none) (hL : s.heap.IsList l (x :: xs).toArray) (hz : xs.length ≤ 16000)
    (q : ∀ (h2 : Heap) (tk : Nat), (∀ b o, s.heap.get? b = some o → h2.get? b = some o) → Q [x, .ref h2.objs.size] { s with heap := h2.push { cls := .type "list", data := .seq xs.toArray }, toks := tk }) :
    wpAny (model prog w) A (unpackItems (.ref l) 2 (some 1)) Q E s := by
  have nl : l ≠ s.heap.objs.size := by
    obtain ⟨o, ho, _⟩ := hL
    exact Nat.ne_of_lt (Heap.lt_size ho)
  have sz : (x :: xs).toArray.size = xs.length + 1 := by simp
  unfold unpackItems notIterableAtAll
  refine wpAny_bind ?_
  refine wpAny_bind (wpAny_specialOf hL.typeIs slot_list_iter.lookup (wpAny_pure ?_))
  simp only [Bool.false_eq_true, if_false]
  refine wpAny_bind (wpAny_holding (wpAny_pyIter_list hL ?_))
  refine wpAny_bind (wpAny_holding ?_)
  refine PySem.W.kun_draw nl 1 0 _ _ ⟨_, Heap.get?_push_size _ rfl, rfl, rfl⟩ (hL.push _) (by omega) fun h1 it1 sb => ?_
  have L1 : h1.IsList l (x :: xs).toArray := (hL.push _).extBut sb.extBut nl
  obtain ⟨oi, hoi, _⟩ := id it1
  obtain ⟨ol, hol, _⟩ := id L1
  show wpAny (model prog w) A (if [x].length < 1 then _ else _) _ _ _
  rw [if_neg (by simp)]
  refine wpAny_bind (wpAny_holding ?_)
  have wk := Walks.list (prog := prog) (w := w) (A := A.in1) hh s.heap.objs.size l nl (x :: xs).toArray
  refine PySem.W.kun_collect (s := { s with heap := h1 }) (T := "list_iterator") (.inr (.inr (.inl rfl))) wk (fun j u st => st.1.typeIs) (k := 1) (by omega) ⟨it1, L1⟩ (Heap.lt_size hoi) (Heap.lt_size hol) (fun h2 tk hk => ?_) (by rw [sz, sizeLine_eq]; omega)
  show wpAny (model prog w) A (if xs.length < 2 - 1 - 1 then _ else _) _ _ _
  rw [if_neg (by omega)]
  show wpAny (model prog w) A (newList (xs.take (xs.length - (2 - 1 - 1))) >>= fun d => pure ([x] ++ [d] ++ xs.drop (xs.length - (2 - 1 - 1)))) _ _ _
  rw [show xs.length - (2 - 1 - 1) = xs.length by omega, List.take_length, List.drop_length]
  have kp : ∀ b o, s.heap.get? b = some o → h2.get? b = some o := fun b o e => by
    have nb : b ≠ s.heap.objs.size := Nat.ne_of_lt (Heap.lt_size e)
    exact hk b o nb (sb.extBut b o nb (Heap.get?_push_of_some _ e))
  exact wpAny_bind (wpAny_newList (wpAny_pure (q h2 tk kp)) (by rw [sizeLine_eq]; omega))
end
section
variable {X : Cx} {pos sp : Pos}
/-- a, *r = a list of one item at least -/
def gStar (K : PySem.W.Frag) (t : TGs) : TG := fun v σ H Q => ∃ a x xs, v = .ref a ∧ SqL K H a (x :: xs) ∧ xs.length ≤ 16000 ∧ ∀ p, H p = none → t [x, .ref p] σ (upd H p (.lst xs)) Q
theorem pgs_starred {e : Expr} {t : TG} (h : PG X e t) (hs : (assignEach [.Starred e sp] X.env).map (·.2) = [assign e X.env] := by rfl) : PGs X [.Starred e sp] (gCons t gNil) := by
  refine ⟨fun pins s σ H vs us Q I r hq => ?_⟩
  obtain ⟨v, vr, e1, hq⟩ := hq
  subst e1
  cases r with
  | cons r rr =>
    rw [hs]
    refine assignInOrder_cons (thn (h.run pins s σ H _ _ _ I r hq) fun _ s1 ⟨σ1, H1, I1, e2, q1⟩ => ?_)
    subst e2
    cases rr
    exact assignInOrder_nil ⟨σ1, H1, I1, q1⟩
theorem pg_star {es : List Expr} {k : Nat} {t : TGs} (hc : X.calm = true) (h : PGs X es t) (hn : (assignEach es X.env).length = 2 := by rfl) (hst : (assignEach es X.env).findIdx? (·.1) = some 1 := by rfl) : PG X (.Tuple es k pos) (gStar X.K t) := by
  refine ⟨fun pins s σ H v u Q I r hw => ?_⟩
  obtain ⟨a, x, xs, e1, hq, hl, hw⟩ := hw
  subst e1
  cases r
  obtain ⟨its, rv, pl, hz⟩ := I.list hq
  have hl' : s.heap.IsList a its.toArray := by
    obtain ⟨o, m, e, c, d, q⟩ := pl
    exact ⟨o, e, c, m, q⟩
  cases rv with
  | cons rx rr =>
  rename_i ux uxs
  rw [PyProof.Rows.assign_Tuple]
  refine wpAny_bind (wpAny_standAt ?_)
  unfold unpack
  rw [hn, hst]
  have hl2 : uxs.length ≤ 16000 := by rw [← rr.length]; exact hl
  refine wpAny_bind (wpAny_holding (star_list (I.ok.hd hc) hl' hl2 fun h2 tk kp => ?_))
  have I1 := I.kept (t' := tk) (h' := h2) kp
  have hf : H h2.objs.size = none := I1.hok.fresh (Nat.le_refl _)
  have I2 := I1.laid (t' := tk) (a := h2.objs.size) (o := .lst xs) (h' := h2.push { cls := .type "list", data := .seq uxs.toArray }) (fun b o e => Heap.get?_push_of_some _ e) (Nat.le_refl _) ⟨by rw [sizeLine_eq]; omega, uxs, 0, rr, Heap.get?_push_size _ rfl⟩
  exact h.run pins _ σ _ [x, .ref h2.objs.size] _ Q I2 (.cons rx (.cons rfl .nil)) (hw _ hf)
end
end GX
set_option maxHeartbeats 4000000
/-! slotpages.notes: _next_of, _cells_of, _slot_of -/
namespace GX
open PySem PySem.Spec PyProof.Rows L2 LamX
/-! ### what a split tells -/
theorem spl_bounds (S : List Nat) : ∀ (l : List Nat) (k : Nat) (acc : List Nat), TL.spl S k acc l ≠ [] ∧ (TL.spl S k acc l).length ≤ l.length + 1 ∧ ∀ p ∈ TL.spl S k acc l, p.length ≤ acc.length + l.length
  | [], k, acc => by
    rw [TL.spl_nil]
    exact ⟨by simp, by simp, fun p hp => by rw [List.mem_singleton.mp hp]; simp⟩
  | c :: r, k + 1, acc => by
    obtain ⟨h1, h2, h3⟩ := spl_bounds S r k acc
    refine ⟨h1, ?_, fun p hp => ?_⟩
    · show (TL.spl S k acc r).length ≤ _
      rw [List.length_cons]; omega
    · have := h3 p hp
      rw [List.length_cons]; omega
  | c :: r, 0, acc => by
    by_cases hp : TL.pre S (c :: r) = true
    · rw [TL.spl_hit hp]
      obtain ⟨h1, h2, h3⟩ := spl_bounds S r (S.length - 1) []
      refine ⟨by simp, ?_, fun p hp => ?_⟩
      · rw [List.length_cons, List.length_cons]; omega
      · rw [List.length_cons]
        rcases List.mem_cons.mp hp with e | hp
        · rw [e]; omega
        · have := h3 p hp
          rw [List.length_nil] at this
          omega
    · rw [TL.spl_miss (by simpa using hp)]
      obtain ⟨h1, h2, h3⟩ := spl_bounds S r 0 (acc ++ [c])
      refine ⟨h1, ?_, fun p hp => ?_⟩
      · rw [List.length_cons]; omega
      · have := h3 p hp
        rw [List.length_append, List.length_singleton] at this
        rw [List.length_cons]; omega
theorem split_bounds {x y : Str} {s : Nat} (ey : TL.tl y = [s]) (hk : y.cps.all (· < 256) = true) : Txt.split x y ≠ [] ∧ (Txt.split x y).length ≤ x.length + 1 ∧ ∀ p ∈ Txt.split x y, p.length ≤ x.length := by
  have e := TL.split_spl x y (by rw [ey]; simp) (TL.kind_ok hk)
  obtain ⟨h1, h2, h3⟩ := spl_bounds (TL.tl y) (TL.tl x) 0 []
  rw [← e] at h1 h2 h3
  refine ⟨fun z => h1 (by rw [z]; rfl), ?_, fun p hp => ?_⟩
  · rw [List.length_map, ← TL.len_tl] at h2
    exact h2
  · have := h3 _ (List.mem_map_of_mem hp)
    rw [← TL.len_tl, ← TL.len_tl, List.length_nil] at this
    omega
theorem dot_bounds (x : Str) : Txt.split x "." ≠ [] ∧ (Txt.split x ".").length ≤ x.length + 1 ∧ ∀ p ∈ Txt.split x ".", p.length ≤ x.length := split_bounds (s := 46) (by decide +kernel) (by decide +kernel)
theorem blank_bounds (x : Str) : Txt.split x " " ≠ [] ∧ (Txt.split x " ").length ≤ x.length + 1 ∧ ∀ p ∈ Txt.split x " ", p.length ≤ x.length := split_bounds (s := 32) (by decide +kernel) (by decide +kernel)
theorem line_bounds (x : Str) : Txt.split x "\n" ≠ [] ∧ (Txt.split x "\n").length ≤ x.length + 1 ∧ ∀ p ∈ Txt.split x "\n", p.length ≤ x.length := split_bounds (s := 10) (by decide +kernel) (by decide +kernel)
theorem cutV_drop (xs : List V) (i : Nat) : cutV xs (some (i : Int)) none = xs.drop i := by
  unfold cutV
  rw [HT.sIx_none, HT.sIx_nat]
  by_cases h : i ≤ xs.length
  · rw [Nat.min_eq_left h, List.take_of_length_le (by rw [List.length_drop]; omega)]
  · rw [Nat.min_eq_right (by omega), List.drop_length, List.take_nil, List.drop_eq_nil_of_le (by omega)]
theorem cutV_take (xs : List V) (i : Nat) : cutV xs none (some (i : Int)) = xs.take i := by
  unfold cutV
  rw [HT.sIx_none, HT.sIx_nat, List.drop_zero, Nat.sub_zero]
  by_cases h : i ≤ xs.length
  · rw [Nat.min_eq_left h]
  · rw [Nat.min_eq_right (by omega), List.take_of_length_le (Nat.le_refl _), List.take_of_length_le (by omega)]
end GX
set_option maxHeartbeats 2000000
/-! what is a page by isPage is a small thing without lists -/
namespace GX
open PySem PySem.Spec PyProof.Rows L2 LamX
structure Nice (d : PyData) (n : Nat) : Prop where
  fl : flatD d = true
  cl : PyData.canLay0 d = true
  ok : okD d = true
  dp : PyData.depth d ≤ n
theorem flatAll_of : ∀ {ds : List PyData}, (∀ d ∈ ds, flatD d = true) → flatAll ds = true
  | [], _ => rfl
  | d :: ds, h => by
    show (flatD d && flatAll ds) = true
    rw [h d List.mem_cons_self, flatAll_of fun e he => h e (List.mem_cons_of_mem _ he)] <;> rfl
theorem canLayAll_of : ∀ {ds : List PyData}, (∀ d ∈ ds, PyData.canLay0 d = true) → PyData.canLayAll0 ds = true
  | [], _ => rfl
  | d :: ds, h => by
    show (PyData.canLay0 d && PyData.canLayAll0 ds) = true
    rw [h d List.mem_cons_self, canLayAll_of fun e he => h e (List.mem_cons_of_mem _ he)] <;> rfl
theorem okAll_of : ∀ {ds : List PyData}, (∀ d ∈ ds, okD d = true) → okAll ds = true
  | [], _ => rfl
  | d :: ds, h => by
    show (okD d && okAll ds) = true
    rw [h d List.mem_cons_self, okAll_of fun e he => h e (List.mem_cons_of_mem _ he)] <;> rfl
theorem depthAll_of {n : Nat} : ∀ {ds : List PyData}, (∀ d ∈ ds, PyData.depth d ≤ n) → PyData.depthAll ds ≤ n
  | [], _ => Nat.zero_le _
  | d :: ds, h => by
    show max (PyData.depth d) (PyData.depthAll ds) ≤ n
    exact Nat.max_le.mpr ⟨h d List.mem_cons_self, depthAll_of fun e he => h e (List.mem_cons_of_mem _ he)⟩
theorem Nice.mono {d : PyData} {m n : Nat} (h : Nice d m) (hm : m ≤ n) : Nice d n := ⟨h.fl, h.cl, h.ok, Nat.le_trans h.dp hm⟩
theorem nice_tuple {ds : List PyData} {n : Nat} (hl : ds.length ≤ 20000) (h : ∀ d ∈ ds, Nice d n) : Nice (.tuple ds) (n + 1) := by
  refine ⟨flatAll_of fun d hd => (h d hd).fl, canLayAll_of fun d hd => (h d hd).cl, ?_, ?_⟩
  · show (decide (ds.length ≤ 20000) && okAll ds) = true
    rw [decide_eq_true hl, okAll_of fun d hd => (h d hd).ok] <;> rfl
  · show PyData.depthAll ds + 1 ≤ n + 1
    exact Nat.succ_le_succ (depthAll_of fun d hd => (h d hd).dp)
theorem nice_int (i : Int) : Nice (.int i) 0 := ⟨rfl, rfl, rfl, Nat.le_refl _⟩
theorem nice_none : Nice .none 0 := ⟨rfl, rfl, rfl, Nat.le_refl _⟩
theorem nice_num {d : PyData} {lo hi : Int} (h : isNum d lo hi = true) : Nice d 0 := by
  obtain ⟨i, rfl, _, _⟩ := isNum_int h
  exact nice_int i
theorem nice_next {d : PyData} (h : isNext d = true) : Nice d 1 := by
  match d, h with
  | .none, _ => exact nice_none.mono (by decide)
  | .tuple [a, b], h =>
    have h' := Bool.and_eq_true_iff.mp (show (isNum a 0 11 && isNum b 0 7) = true from h)
    refine nice_tuple (n := 0) (by simp) fun d hd => ?_
    rcases List.mem_cons.mp hd with e | hd
    · rw [e]; exact nice_num h'.1
    · rw [List.mem_singleton.mp hd]; exact nice_num h'.2
theorem eqv_strL {w : PyData} {x : Str} (h : PyData.eqv w (.str x) = true) : w = .str x := by
  cases w with
  | str y =>
    have h : (y == x) = true := h
    rw [eq_of_beq h]
  | _ => exact absurd h (by simp [PyData.eqv])
def sizeR (b s : PyData) (least : Int) : Bool := match b with
  | .int bi => isNum s least (24 - bi)
  | _ => false
theorem holds_4 (w t b s n : PyData) (least : Int) : holds [w, t, b, s, n] least = (isNum t 0 99 && isNum b 0 24 && sizeR b s least && isNext n) := by cases b <;> rfl
def freeR : List PyData → Bool
  | [t] => isNum t 0 100
  | _ => false
theorem isSlot_cons (w : PyData) (r : List PyData) : isSlot (.tuple (w :: r)) = if PyData.eqv w (.str "free") = true then freeR r else if PyData.eqv w (.str "row") = true then holds (w :: r) 0 else PyData.eqv w (.str "part") && holds (w :: r) 1 := by
  rcases r with _ | ⟨t, _ | ⟨u, r⟩⟩ <;> rfl
theorem nice_holds {w : PyData} {r : List PyData} {least : Int} (hw : Nice w 0) (h : holds (w :: r) least = true) : Nice (.tuple (w :: r)) 2 := by
  match r, h with
  | [t, b, s, n], h =>
    have h' := h
    rw [holds_4, Bool.and_eq_true, Bool.and_eq_true, Bool.and_eq_true] at h'
    obtain ⟨⟨⟨h1, h2⟩, h3⟩, h4⟩ := h'
    obtain ⟨bi, rfl, _, _⟩ := isNum_int h2
    have h3 : isNum s least (24 - bi) = true := h3
    refine nice_tuple (by simp) fun d hd => ?_
    rcases List.mem_cons.mp hd with e | hd
    · rw [e]; exact hw.mono (by decide)
    · rcases List.mem_cons.mp hd with e | hd
      · rw [e]; exact (nice_num h1).mono (by decide)
      · rcases List.mem_cons.mp hd with e | hd
        · rw [e]; exact (nice_num h2).mono (by decide)
        · rcases List.mem_cons.mp hd with e | hd
          · rw [e]; exact (nice_num h3).mono (by decide)
          · rw [List.mem_singleton.mp hd]; exact nice_next h4
theorem nice_lit {x : Str} (h : PyData.canLay0 (.str x) = true) : Nice (.str x) 0 := ⟨rfl, h, rfl, Nat.le_refl _⟩
theorem nice_slot {d : PyData} (h : isSlot d = true) : Nice d 2 := by
  match d, h with
  | .tuple (w :: r), h =>
    rw [isSlot_cons] at h
    by_cases e1 : PyData.eqv w (.str "free") = true
    · rw [if_pos e1] at h
      have h' : freeR r = true := h
      clear h
      obtain rfl := eqv_strL e1
      match r, h' with
      | [t], h' =>
        refine (nice_tuple (n := 0) (by simp) fun d hd => ?_).mono (by decide)
        rcases List.mem_cons.mp hd with e | hd
        · rw [e]; exact nice_lit (by decide +kernel)
        · rw [List.mem_singleton.mp hd]; exact nice_num h'
    · by_cases e2 : PyData.eqv w (.str "row") = true
      · rw [if_neg e1, if_pos e2] at h
        have h' := h
        obtain rfl := eqv_strL e2
        exact nice_holds (nice_lit (by decide +kernel)) h'
      · rw [if_neg e1, if_neg e2] at h
        have h' := h
        rw [Bool.and_eq_true] at h'
        obtain rfl := eqv_strL h'.1
        exact nice_holds (nice_lit (by decide +kernel)) h'.2
theorem isPage_parts {d : PyData} (h : isPage d = true) : ∃ s c, d = .tuple [.tuple s, .tuple c] ∧ s.length = 8 ∧ c.length = 24 ∧ (∀ x ∈ c, isNum x 0 99 = true) ∧ ∀ x ∈ s, isSlot x = true := by
  match d, h with
  | .tuple [.tuple s, .tuple c], h =>
    have h' : (isFrame (.tuple [.tuple s, .tuple c]) && s.all isSlot) = true := h
    rw [Bool.and_eq_true] at h'
    have h1 : (decide (s.length = 8) && decide (c.length = 24) && c.all fun x => isNum x 0 99) = true := h'.1
    rw [Bool.and_eq_true, Bool.and_eq_true] at h1
    exact ⟨s, c, rfl, of_decide_eq_true h1.1.1, of_decide_eq_true h1.1.2, List.all_eq_true.mp h1.2, List.all_eq_true.mp h'.2⟩
theorem isPage_of {s c : List PyData} (h1 : s.length = 8) (h2 : c.length = 24) (h3 : ∀ x ∈ c, isNum x 0 99 = true) (h4 : ∀ x ∈ s, isSlot x = true) : isPage (.tuple [.tuple s, .tuple c]) = true := by
  show (isFrame (.tuple [.tuple s, .tuple c]) && s.all isSlot) = true
  rw [Bool.and_eq_true]
  refine ⟨?_, List.all_eq_true.mpr h4⟩
  show (decide (s.length = 8) && decide (c.length = 24) && c.all fun x => isNum x 0 99) = true
  rw [Bool.and_eq_true, Bool.and_eq_true]
  exact ⟨⟨decide_eq_true h1, decide_eq_true h2⟩, List.all_eq_true.mpr h3⟩
theorem nice_page {d : PyData} (h : isPage d = true) : Nice d 4 := by
  obtain ⟨s, c, rfl, h1, h2, h3, h4⟩ := isPage_parts h
  refine nice_tuple (by simp) fun d hd => ?_
  rcases List.mem_cons.mp hd with e | hd
  · rw [e]; exact nice_tuple (by omega) fun x hx => nice_slot (h4 x hx)
  · rw [List.mem_singleton.mp hd]
    exact (nice_tuple (n := 0) (by omega) fun x hx => nice_num (h3 x hx)).mono (by decide)
theorem Nice.sh {d : PyData} {n : Nat} (h : Nice d n) (hn : n ≤ 64) : SeqAt.shaped d = true := by
  unfold SeqAt.shaped
  rw [h.cl, decide_eq_true (Nat.le_trans h.dp hn)] <;> rfl
/-! slots that are drawn -/
theorem num_of {i lo hi : Int} (h1 : lo ≤ i) (h2 : i ≤ hi) : isNum (.int i) lo hi = true := by
  show (decide (lo ≤ i) && decide (i ≤ hi)) = true
  rw [decide_eq_true h1, decide_eq_true h2] <;> rfl
theorem slot_free {t : Int} (h1 : 0 ≤ t) (h2 : t < 101) : isSlot (.tuple [.str "free", .int t]) = true := by
  have e : PyData.eqv (.str "free") (.str "free") = true := by decide +kernel
  rw [isSlot_cons]
  rw [if_pos e]
  exact num_of h1 (by omega)
theorem slot_row {t b s : Int} {n : PyData} (h1 : 0 ≤ t) (h2 : t < 100) (h3 : 0 ≤ b) (h4 : b < 25) (h5 : 0 ≤ s) (h6 : s < 25 - b) (h7 : isNext n = true) : isSlot (.tuple [.str "row", .int t, .int b, .int s, n]) = true := by
  have e1 : ¬ PyData.eqv (.str "row") (.str "free") = true := by decide +kernel
  have e2 : PyData.eqv (.str "row") (.str "row") = true := by decide +kernel
  rw [isSlot_cons]
  rw [if_neg e1, if_pos e2]
  rw [holds_4]
  show (isNum (.int t) 0 99 && isNum (.int b) 0 24 && isNum (.int s) 0 (24 - b) && isNext n) = true
  rw [num_of h1 (by omega), num_of h3 (by omega), num_of h5 (by omega), h7] <;> rfl
theorem slot_part {t b s : Int} {n : PyData} (h1 : 0 ≤ t) (h2 : t < 100) (h3 : 0 ≤ b) (h4 : b < 24) (h5 : 1 ≤ s) (h6 : s < 25 - b) (h7 : isNext n = true) : isSlot (.tuple [.str "part", .int t, .int b, .int s, n]) = true := by
  have e1 : ¬ PyData.eqv (.str "part") (.str "free") = true := by decide +kernel
  have e2 : ¬ PyData.eqv (.str "part") (.str "row") = true := by decide +kernel
  have e3 : PyData.eqv (.str "part") (.str "part") = true := by decide +kernel
  rw [isSlot_cons]
  rw [if_neg e1, if_neg e2, e3]
  rw [holds_4]
  show (true && (isNum (.int t) 0 99 && isNum (.int b) 0 24 && isNum (.int s) 1 (24 - b) && isNext n)) = true
  rw [num_of h1 (by omega), num_of h3 (by omega), num_of h5 (by omega), h7] <;> rfl
end GX
set_option maxHeartbeats 4000000
/-! slotpages.notes.read as a plain function -/
namespace GX
open PySem PySem.Spec PyProof.Rows L2 LamX
def Asc (t : Str) : Prop := ∀ c ∈ TL.tl t, c < 128
theorem spl_mem (S : List Nat) : ∀ (l : List Nat) (k : Nat) (acc : List Nat), ∀ p ∈ TL.spl S k acc l, ∀ c ∈ p, c ∈ acc ∨ c ∈ l
  | [], k, acc => by
    rw [TL.spl_nil]
    intro p hp c hc
    rw [List.mem_singleton.mp hp] at hc
    exact .inl hc
  | d :: r, k + 1, acc => fun p hp c hc => (spl_mem S r k acc p hp c hc).elim .inl fun h => .inr (List.mem_cons_of_mem _ h)
  | d :: r, 0, acc => by
    intro p hp c hc
    by_cases q : TL.pre S (d :: r) = true
    · rw [TL.spl_hit q] at hp
      rcases List.mem_cons.mp hp with e | hp
      · rw [e] at hc; exact .inl hc
      · exact (spl_mem S r _ [] p hp c hc).elim (fun h => absurd h (by simp)) fun h => .inr (List.mem_cons_of_mem _ h)
    · rw [TL.spl_miss (by simpa using q)] at hp
      rcases spl_mem S r 0 _ p hp c hc with h | h
      · rcases List.mem_append.mp h with h | h
        · exact .inl h
        · rw [List.mem_singleton.mp h]; exact .inr List.mem_cons_self
      · exact .inr (List.mem_cons_of_mem _ h)
theorem split_asc {x y : Str} (hy : TL.tl y ≠ []) (hk : y.cps.all (· < 256) = true) (h : Asc x) : ∀ p ∈ Txt.split x y, Asc p := fun p hp c hc => by
  have e := TL.split_spl x y hy (TL.kind_ok hk)
  have := spl_mem (TL.tl y) (TL.tl x) 0 [] (TL.tl p) (by rw [← e]; exact List.mem_map_of_mem hp) c hc
  exact this.elim (fun h => absurd h (by simp)) fun q => h c q
theorem blank_asc {x : Str} (h : Asc x) : ∀ p ∈ Txt.split x " ", Asc p := split_asc (by decide +kernel) (by decide +kernel) h
theorem line_asc {x : Str} (h : Asc x) : ∀ p ∈ Txt.split x "\n", Asc p := split_asc (by decide +kernel) (by decide +kernel) h
theorem strOk_asc {x : Str} (h : Asc x) : PyData.canLay0 (.str x) = true := by
  show x.cps.all (· < 0x110000) = true
  rw [Array.all_eq_true']
  intro c hc
  have := h c (by simpa [TL.tl] using hc)
  simp
  omega
end GX
/-! the law's own reader as plain functions -/
namespace GX
open PySem PySem.Spec PyProof.Rows L2 LamX
def lnO (w : Str) (m : Nat) : Option Nat := match numO w with
  | some n => if n ≤ m then some n else none
  | none => none
theorem isNum_lnO (w : Str) (m : Nat) : isNum (numD (numO w)) 0 (m : Int) = (lnO w m).isSome := by
  unfold lnO
  cases e : numO w with
  | none => rfl
  | some n =>
    show (decide ((0 : Int) ≤ (n : Int)) && decide ((n : Int) ≤ (m : Int))) = (if n ≤ m then some n else none).isSome
    by_cases h : n ≤ m
    · rw [if_pos h, decide_eq_true (by omega), decide_eq_true (by omega)] <;> rfl
    · rw [if_neg h, decide_eq_false (p := (n : Int) ≤ (m : Int)) (by omega), Bool.and_false] <;> rfl
theorem lnO_num {w : Str} {m n : Nat} (h : lnO w m = some n) : numO w = some n ∧ n ≤ m := by
  unfold lnO at h
  cases e : numO w with
  | none => rw [e] at h; cases h
  | some k =>
    rw [e] at h
    by_cases hk : k ≤ m
    · have h : some k = some n := by rw [← h]; exact (if_pos hk).symm
      cases h
      exact ⟨rfl, hk⟩
    · have h : (none : Option Nat) = some n := by rw [← h]; exact (if_neg hk).symm
      cases h
end GX
set_option maxHeartbeats 8000000
/-! comprehensions over what is walked; conditions by their Bools -/
namespace GX
open PySem PySem.Spec PyProof.Rows L2 LamX
section
variable {T : List (Addr × Str)} {H H1 H' : Hp} {K : PySem.W.Frag}
/-- [te for i in things that are walked] of data without lists -/
theorem lc_dpW {J : It} {n : Nat} {G : Hp → Prop} {D : Addr} {xs : List V} {i : Nat} {te : TE} {σ : L2.St} {Qd : Hp → Prop} (wk : Walk J n G (YAt xs)) (hn : n = xs.length) (hG : ∀ H', XX T H1 H' → G H') (gd : Nat → PyData) (hD : H1 D = none) (hz : xs.length < sizeLine) (fl : ∀ j, j < xs.length → flatD (gd j) = true)
    (step : ∀ j x H' (Qe : VK), xs[j]? = some x → XX T H1 H' → (∀ H'' v, XX T H' H'' → Dp K H'' v (gd j) → Qe v H'') → te ((wipe σ [i]).set i (some x)) H' Qe)
    (fin : ∀ H' acc, XX T H1 H' → H' D = some (.lst acc) → DpAll K H' acc ((List.range xs.length).map gd) → Qd H') :
    ∃ W : Nat → Nat → Hp → Prop, (∃ m, W 0 m (upd H1 D (.lst []))) ∧ ∀ j m H, W j m H →
      (J.stop j H ∧ Qd H) ∨ (J.go j H ∧ ∃ Nx : Hp → Prop, (∀ H', Nx H' → ∃ m', m' < m ∧ W (j + 1) m' H') ∧ ∀ x H', J.yld j H x H' → gName i x (wipe σ [i]) H' fun σ2 H2 => wipe σ2 [i] = wipe σ [i] ∧ tYes σ2 H2 fun b H3 =>
        if b = true then te σ2 H3 fun y H4 => ∃ acc, H4 D = some (.lst acc) ∧ acc.length < sizeLine ∧ Nx (upd H4 D (.lst (acc ++ [y]))) else Nx H3) := by
  subst hn
  refine lc_it wk (fun j H' => XX T H1 H' ∧ ∃ acc, H' D = some (.lst acc) ∧ acc.length = j ∧ DpAll K H' acc ((List.range j).map gd)) ⟨XX.new hD, [], upd_same, rfl, .nil⟩ (fun j H' _ pv => hG H' pv.1) (fun j x H' H'' hj pv yy => ⟨wipe1, ?_⟩) (fun H' pv => ?_)
  · obtain ⟨rfl, ex⟩ := yy
    obtain ⟨x1, acc, e1, el, da⟩ := pv
    refine step j x _ _ ex x1 fun H2 v x2 dv => ⟨acc, x2.lst e1, by omega, (x1.trans x2).fillD hD (x2.lst e1), acc ++ [v], upd_same, by simp [el], ?_⟩
    have x3 : XM T (fun c => c = D) H2 (upd H2 D (.lst (acc ++ [v]))) := XM.upd (x2.lst e1) rfl True.intro
    have fa : ∀ d ∈ (List.range j).map gd, flatD d = true := fun d hd => by
      obtain ⟨m, hm, e⟩ := List.mem_map.mp hd
      rw [← e]
      exact fl m (Nat.lt_trans (List.mem_range.mp hm) hj)
    rw [List.range_succ, List.map_append]
    exact dpAll_snoc (dpAll_xm x3 fa (Dp.xxAll x2 _ _ da)) (Dp.xm x3 _ _ (fl j hj) dv)
  · obtain ⟨x1, acc, e1, _, da⟩ := pv
    exact fin H' acc x1 e1 da
theorem dp_num {v : V} {o : Option Nat} (h : Dp K H v (numD o)) : v = numV o := by
  cases o with
  | none => cases h; rfl
  | some n => cases h; rfl
theorem dpAll_num : ∀ {os : List (Option Nat)} {vs : List V}, DpAll K H vs (os.map numD) → vs = os.map numV
  | [], _, h => dpAll0 h
  | o :: os, _, h => by
    obtain ⟨v, r, rfl, h1, h2⟩ := dpAllC h
    rw [dp_num h1, dpAll_num h2] <;> rfl
theorem num_flatV (os : List (Option Nat)) : (os.map numV).all flatV = true := by
  rw [List.all_eq_true]
  intro v hv
  obtain ⟨o, _, rfl⟩ := List.mem_map.mp hv
  cases o <;> rfl
theorem in_num (os : List (Option Nat)) : inV .non (os.map numV) = os.any Option.isNone := by
  unfold inV
  rw [List.any_map]
  congr 1
  funext o
  cases o <;> rfl
end
section
variable {T : List (Addr × Str)} {H : Hp}
theorem tAndX_of {t1 t2 : TT} {σ : L2.St} {Kt : Bool → Hp → Prop} (c1 c2 : Bool) (h1 : ∀ K' : Bool → Hp → Prop, (∀ H1, XX T H H1 → K' c1 H1) → t1 σ H K') (h2 : c1 = true → ∀ H1, XX T H H1 → ∀ K' : Bool → Hp → Prop, (∀ H2, XX T H1 H2 → K' c2 H2) → t2 σ H1 K') (k : ∀ H2, XX T H H2 → Kt (c1 && c2) H2) : tAnd t1 t2 σ H Kt := by
  refine h1 _ fun H1 x1 => ?_
  cases c1 with
  | false => exact k H1 x1
  | true => exact h2 rfl H1 x1 _ fun H2 x2 => k H2 (x1.trans x2)
theorem tOrX_of {t1 t2 : TT} {σ : L2.St} {Kt : Bool → Hp → Prop} (c1 c2 : Bool) (h1 : ∀ K' : Bool → Hp → Prop, (∀ H1, XX T H H1 → K' c1 H1) → t1 σ H K') (h2 : c1 = false → ∀ H1, XX T H H1 → ∀ K' : Bool → Hp → Prop, (∀ H2, XX T H1 H2 → K' c2 H2) → t2 σ H1 K') (k : ∀ H2, XX T H H2 → Kt (c1 || c2) H2) : tOr t1 t2 σ H Kt := by
  refine h1 _ fun H1 x1 => ?_
  cases c1 with
  | true => exact k H1 x1
  | false => exact h2 rfl H1 x1 _ fun H2 x2 => k H2 (x1.trans x2)
theorem ifs_keyR {c : Bool} {sA sB : TS} {D : Ends} {σ : L2.St} (R : L2.St → Hp → Prop) (key : ∀ σ' H', R σ' H' → D.nx σ' H') (h1 : c = true → ∀ D' : Ends, (∀ σ' H', R σ' H' → D'.nx σ' H') → (∀ v H', D.rt v H' → D'.rt v H') → sA D' σ H) (h2 : c = false → ∀ D' : Ends, (∀ σ' H', R σ' H' → D'.nx σ' H') → (∀ v H', D.rt v H' → D'.rt v H') → sB D' σ H) :
    if c = true then sA D σ H else sB D σ H := by
  cases c with
  | true => rw [if_pos rfl]; exact h1 rfl D key fun _ _ q => q
  | false => rw [if_neg (by decide)]; exact h2 rfl D key fun _ _ q => q
end
theorem dec_str (x y : Str) : decide (V.str x = V.str y) = decide (x = y) := by
  by_cases h : x = y
  · rw [decide_eq_true h, decide_eq_true (by rw [h])]
  · rw [decide_eq_false h, decide_eq_false fun z => h (V.str.inj z)]
end GX
set_option maxHeartbeats 4000000
/-! expressions that tell texts, with draws between -/
namespace GX
open PySem PySem.Spec PyProof.Rows L2 LamX
theorem small_log {n : Nat} (h : n ≤ 20000) : ((n : Int)).natAbs.log2 < 1920 := by
  have : ((n : Nat) : Int).natAbs = n := by omega
  rw [this]
  by_cases h0 : n = 0
  · subst h0; decide
  · have : n < 2 ^ 20 := by omega
    have := (Nat.log2_lt h0).mpr this
    omega
/-! ### texts and their lengths -/
theorem len_app (x y : Str) : (x ++ y).length = x.length + y.length := by rw [TL.len_tl, TL.tl_append, List.length_append, ← TL.len_tl, ← TL.len_tl]
theorem Asc.app {x y : Str} (h1 : Asc x) (h2 : Asc y) : Asc (x ++ y) := fun c hc => by
  rw [TL.tl_append] at hc
  exact (List.mem_append.mp hc).elim (h1 c) (h2 c)
def szL (ws : List Str) : Nat := (ws.map fun w => w.length + 1).sum
theorem szL_cons (w : Str) (ws : List Str) : szL (w :: ws) = (w.length + 1) + szL ws := by unfold szL; rw [List.map_cons, List.sum_cons]
theorem szL_app (a b : List Str) : szL (a ++ b) = szL a + szL b := by unfold szL; rw [List.map_append, List.sum_append]
theorem szL_mem {w : Str} : ∀ {ws : List Str}, w ∈ ws → w.length + 1 ≤ szL ws
  | x :: ws, h => by
    rw [szL_cons]
    rcases List.mem_cons.mp h with e | h
    · rw [e]; omega
    · have := szL_mem h
      omega
theorem szL_take (ws : List Str) (k : Nat) : szL (ws.take k) + szL (ws.drop k) = szL ws := by rw [← szL_app, List.take_append_drop]
theorem szL_le {n : Nat} : ∀ {ws : List Str}, (∀ w ∈ ws, w.length ≤ n) → szL ws ≤ ws.length * (n + 1)
  | [], _ => Nat.zero_le _
  | w :: ws, h => by
    rw [szL_cons, List.length_cons, Nat.succ_mul]
    have := szL_le fun x hx => h x (List.mem_cons_of_mem w hx)
    have := h w List.mem_cons_self
    omega
theorem szL_sum (ws : List Str) : (ws.map (·.length)).sum + ws.length = szL ws := by
  induction ws with
  | nil => rfl
  | cons w ws ih =>
    rw [szL_cons, List.map_cons, List.sum_cons, List.length_cons]
    omega
theorem szL_len (ws : List Str) : ws.length ≤ szL ws := by rw [← szL_sum]; omega
theorem join_len {s : Str} (hs : s.length = 1) (ws : List Str) : (Txt.join s ws).length ≤ szL ws := by
  rw [TL.join_eq]
  have := StrLaws.join_length_le s ws
  rw [hs, Nat.mul_one, szL_sum] at this
  exact this
theorem joinL_mem {S : List Nat} {c : Nat} : ∀ {l : List (List Nat)}, c ∈ TL.joinL S l → c ∈ S ∨ ∃ p ∈ l, c ∈ p
  | [], h => absurd h (by simp [TL.joinL])
  | [p], h => .inr ⟨p, by simp, h⟩
  | p :: q :: r, h => by
    have h : c ∈ p ++ (S ++ TL.joinL S (q :: r)) := h
    rcases List.mem_append.mp h with h | h
    · exact .inr ⟨p, by simp, h⟩
    · rcases List.mem_append.mp h with h | h
      · exact .inl h
      · rcases joinL_mem h with h | ⟨x, hx, h⟩
        · exact .inl h
        · exact .inr ⟨x, List.mem_cons_of_mem _ hx, h⟩
theorem join_asc {s : Str} {ws : List Str} (h1 : Asc s) (h2 : ∀ w ∈ ws, Asc w) : Asc (Txt.join s ws) := fun c hc => by
  rw [TL.join_eq, TL.tl_join] at hc
  rcases joinL_mem hc with h | ⟨p, hp, h⟩
  · exact h1 c h
  · obtain ⟨w, hw, rfl⟩ := List.mem_map.mp hp
    exact h2 w hw c h
theorem num_len {n : Nat} (h : n < 1000) : (Str.ofString (toString ((n : Nat) : Int))).length ≤ 3 := by
  rw [TL.len_tl, TL.tl_num]
  by_cases h1 : n < 10
  · rw [TL.numL_lt h1]; show 1 ≤ 3; decide
  · rw [TL.numL_step (by omega), List.length_append, List.length_singleton]
    by_cases h2 : n / 10 < 10
    · rw [TL.numL_lt h2]; show 1 + 1 ≤ 3; decide
    · rw [TL.numL_step (by omega), List.length_append, List.length_singleton, TL.numL_lt (by omega)]
      show 1 + 1 + 1 ≤ 3; decide
theorem num_asc (n : Nat) : Asc (Str.ofString (toString ((n : Nat) : Int))) := fun c hc => by
  rw [TL.tl_num] at hc
  have := TL.numL_digits n c hc
  omega
def ascB (w : Str) : Bool := (TL.tl w).all fun c => decide (c < 128)
theorem asc_by {w : Str} (h : ascB w = true) : Asc w := fun c hc => of_decide_eq_true (List.all_eq_true.mp h c hc)
/-- a text of at most n signs -/
def Txo (n : Nat) (w : Str) : Prop := w.length ≤ n ∧ Asc w
theorem Txo.mono {n m : Nat} {w : Str} (h : Txo n w) (hm : n ≤ m) : Txo m w := ⟨Nat.le_trans h.1 hm, h.2⟩
theorem txo_by {n : Nat} {w : Str} (h : (decide (w.length ≤ n) && ascB w) = true) : Txo n w := by
  have q := Bool.and_eq_true_iff.mp h
  exact ⟨of_decide_eq_true q.1, asc_by q.2⟩
theorem txo_num {n : Nat} (h : n < 1000) : Txo 3 (Str.ofString (toString ((n : Nat) : Int))) := ⟨num_len h, num_asc n⟩
theorem txo_int {i : Int} (h0 : 0 ≤ i) (h1 : i < 1000) : Txo 3 (Str.ofString (toString i)) := by
  obtain ⟨n, rfl⟩ := Int.eq_ofNat_of_zero_le h0
  exact txo_num (by omega)
/-! ### readings -/
abbrev SB2 (b l : Addr) : Addr → Prop := fun c => c = b ∨ c = l
/-- te tells a text -/
def TxE (T : List (Addr × Str)) (b l : Addr) (te : TE) (n : Nat) (σ : L2.St) : Prop := ∀ H ns z (Q : VK), BoxAt H b l ns z → (∀ H' ns' z' w, XM T (SB2 b l) H H' → BoxAt H' b l ns' z' → Txo n w → Q (.str w) H') → te σ H Q
/-- ta tells k texts -/
def TxA (T : List (Addr × Str)) (b l : Addr) (ta : TA) (k n : Nat) (σ : L2.St) : Prop := ∀ H ns z (Q : List V → Hp → Prop), BoxAt H b l ns z → (∀ H' ns' z' (ws : List Str), XM T (SB2 b l) H H' → BoxAt H' b l ns' z' → ws.length = k → (∀ w ∈ ws, Txo n w) → Q (ws.map V.str) H') → ta σ H Q
def rStrI : List V → Hp → VK → Prop := fun xs H Q => ∃ i : Int, xs = [.int i] ∧ i.natAbs.log2 < 1920 ∧ Q (.str (toString i)) H
def rAddT : R2 := fun x y H Q => ∃ i j : Str, x = .str i ∧ y = .str j ∧ i.length + j.length ≤ sizeLine ∧ Q (.str (i ++ j)) H
def rJoinT (K : PySem.W.Frag) : V → List V → Hp → VK → Prop := fun x xs H Q => ∃ a p, ∃ ys : List Str, x = .str a ∧ xs = [.ref p] ∧ (SqL K H p (ys.map V.str) ∨ SqT K H p (ys.map V.str)) ∧ (ys.map (·.length)).sum + ys.length * a.length ≤ 16777216 ∧ Q (.str (Txt.join a ys)) H
section
variable {X : Cx}
theorem call_strI : CallR X (.type "str") rStrI := call_str_int
theorem op_addT : OpR X (binaryOp .Add) rAddT := op_add_str
theorem pe_joinT {o e : Expr} {to te : TE} {apos pos : Pos} (ho : PE X o to) (he : PE X e te) (hs : starEach [e] X.env = [(false, eval e X.env)] := by rfl) (hbase : attributeBase o "join" X.env (eval o X.env) = eval o X.env := by rfl) (hline : (apos.endLine == pos.line) = true := by rfl) :
    PE X (.Call (.Attribute o "join" apos) [e] [] pos) (tM1 (rJoinT X.K) to te) := pe_join ho he hs hbase hline
end
section
variable {T : List (Addr × Str)} {b l : Addr} {K : PySem.W.Frag} {σ : L2.St} {n m k : Nat} {ta tb : TE} {tA : TA}
theorem XM.box {H H' : Hp} (x : XX T H H') : XM T (SB2 b l) H H' := x.xm
theorem TxE.mono (h : TxE T b l ta n σ) (hm : n ≤ m) : TxE T b l ta m σ := fun H ns z Q bx q => h H ns z Q bx fun H' ns' z' w a bx' t => q H' ns' z' w a bx' (t.mono hm)
theorem txe_str {w : Str} (h : Txo n w) : TxE T b l (tC (.str w)) n σ := fun H ns z Q bx q => q H ns z w (XM.refl H) bx h
theorem txe_var {i : Nat} {w : Str} (e : σ[i]? = some (some (.str w))) (h : Txo n w) : TxE T b l (tVar i) n σ := fun H ns z Q bx q => ⟨_, e, q H ns z w (XM.refl H) bx h⟩
theorem small_int {i : Int} (h0 : 0 ≤ i) (h1 : i < 1000) : i.natAbs.log2 < 1920 := by
  obtain ⟨n, rfl⟩ := Int.eq_ofNat_of_zero_le h0
  exact small_log (by omega)
/-- str(take(box, m)) -/
theorem txe_draw {m : Int} (hσ : σ[0]? = some (some (.ref b))) (h0 : 0 < m) (h1 : m ≤ 1000) : TxE T b l (tCB rStrI (tCons (tCall (spTake T) [] E0 (tCons (tVar 0) (tCons (tC (.int m)) tNil))) tNil)) 3 σ := fun H ns z Q bx q =>
  ⟨_, hσ, b, l, ns, z, m, rfl, bx, h0, by omega, fun H' ns' z' r a bx' r0 r1 => ⟨r, rfl, small_int r0 (by omega), q H' ns' z' _ a bx' (txo_int r0 (by omega))⟩⟩
/-- str(x) -/
theorem txe_num {i : Nat} {r : Int} (e : σ[i]? = some (some (.int r))) (h0 : 0 ≤ r) (h1 : r < 1000) : TxE T b l (tCB rStrI (tCons (tVar i) tNil)) 3 σ := fun H ns z Q bx q =>
  ⟨_, e, r, rfl, small_int h0 h1, q H ns z _ (XM.refl H) bx (txo_int h0 h1)⟩
theorem txe_add (h1 : TxE T b l ta n σ) (h2 : TxE T b l tb m σ) (hb : n + m ≤ 1000) : TxE T b l (tOp rAddT ta tb) (n + m) σ := fun H ns z Q bx q =>
  h1 H ns z _ bx fun H1 ns1 z1 w1 a1 bx1 t1 => h2 H1 ns1 z1 _ bx1 fun H2 ns2 z2 w2 a2 bx2 t2 => ⟨w1, w2, rfl, rfl, by rw [sizeLine_eq]; have := t1.1; have := t2.1; omega, q H2 ns2 z2 _ (a1.trans a2) bx2 ⟨by rw [len_app]; have := t1.1; have := t2.1; omega, t1.2.app t2.2⟩⟩
theorem txa_nil : TxA T b l tNil 0 n σ := fun H ns z Q bx q => q H ns z [] (XM.refl H) bx rfl fun w hw => absurd hw (by simp)
theorem txa_cons (h1 : TxE T b l ta n σ) (h2 : TxA T b l tA k n σ) : TxA T b l (tCons ta tA) (k + 1) n σ := fun H ns z Q bx q =>
  h1 H ns z _ bx fun H1 ns1 z1 w1 a1 bx1 t1 => h2 H1 ns1 z1 _ bx1 fun H2 ns2 z2 ws a2 bx2 hl hw => q H2 ns2 z2 (w1 :: ws) (a1.trans a2) bx2 (by rw [List.length_cons, hl]) fun w hm => by
    rcases List.mem_cons.mp hm with e | hm
    · rw [e]; exact t1
    · exact hw w hm
/-- [..][take(box, m)] -/
theorem txe_pick {m : Int} (h : TxA T b l tA k n σ) (hσ : σ[0]? = some (some (.ref b))) (hm : (k : Int) = m) (h0 : 0 < k) (h1 : k ≤ 1000) : TxE T b l (tOp (rIxL K) (tLst tA) (tCall (spTake T) [] E0 (tCons (tVar 0) (tCons (tC (.int m)) tNil)))) n σ := fun H ns z Q bx q =>
  h H ns z _ bx fun H1 ns1 z1 ws a1 bx1 hl hw => ⟨by rw [List.length_map, hl, sizeLine_eq]; omega, fun p hp => ⟨_, hσ, b, l, ns1, z1, m, rfl, bx1.xx (XX.new (T := T) hp), by omega, by omega, fun H2 ns2 z2 r a2 bx2 r0 r1 => by
    obtain ⟨j, rfl⟩ := Int.eq_ofNat_of_zero_le r0
    have hj : j < ws.length := by omega
    have nb : ¬ (p = b ∨ p = l) := fun q => by
      rcases q with q | q
      · rw [q, bx1.hb] at hp; cases hp
      · rw [q, bx1.hl] at hp; cases hp
    exact ⟨p, ws.map V.str, _, .str ws[j], rfl, rfl, SqL.of (a2.lst upd_same nb), atI_nat (by rw [List.getElem?_map, List.getElem?_eq_getElem hj]; rfl), q H2 ns2 z2 _ ((a1.then_new hp).trans a2) bx2 (hw _ (List.getElem_mem hj))⟩⟩⟩
/-- " ".join([..]) -/
theorem txe_join {s : Str} (hs : s.length = 1) (ha : Asc s) (h : TxA T b l tA k n σ) (hb : k * (n + 1) ≤ 10000) (hk : k ≤ 1000) : TxE T b l (tM1 (rJoinT K) (tC (.str s)) (tLst tA)) (k * (n + 1)) σ := fun H ns z Q bx q =>
  ⟨⟨s, rfl⟩, h H ns z _ bx fun H1 ns1 z1 ws a1 bx1 hl hw => ⟨by rw [List.length_map, hl, sizeLine_eq]; omega, fun p hp => by
    have h2 : szL ws ≤ k * (n + 1) := by rw [← hl]; exact szL_le fun w hm => (hw w hm).1
    refine ⟨s, p, ws, rfl, rfl, .inl (SqL.of upd_same), by rw [hs, Nat.mul_one, szL_sum]; omega, q _ ns1 z1 _ (a1.then_new hp) (bx1.xx (XX.new (T := T) hp)) ⟨Nat.le_trans (join_len hs ws) h2, join_asc ha fun w hm => (hw w hm).2⟩⟩⟩⟩
end
end GX
set_option maxHeartbeats 8000000
/-! lists of texts: what a split, a slice, a join of them tells -/
namespace GX
open PySem PySem.Spec PyProof.Rows L2 LamX
theorem XM.fillM {T : List (Addr × Str)} {S : Addr → Prop} {H H' : Hp} {D : Addr} {o : HO} {xs : List V} (x : XM T S H H') (hD : H D = none) (e : H' D = some (.lst xs)) : XM T S H (L2.upd H' D o) := by
  have x2 := (x.mono (S' := fun c => S c ∨ c = D) fun b h => .inl h).trans (XM.upd (o' := o) e (.inr rfl) True.intro)
  exact x2.drop (S0 := S) fun b h n => by
    rcases h with h | h
    · exact absurd h n
    · rw [h]; exact hD
theorem box_ne {H : Hp} {b l D : Addr} {ns : List Int} {z : Int} (bx : BoxAt H b l ns z) (hD : H D = none) : ¬ SB2 b l D := fun q => by
  rcases q with q | q
  · rw [q, bx.hb] at hD; cases hD
  · rw [q, bx.hl] at hD; cases hD
theorem spl_sz (s : Nat) : ∀ (l acc : List Nat), ((TL.spl [s] 0 acc l).map fun p => p.length + 1).sum = acc.length + l.length + 1
  | [], acc => by rw [TL.spl_nil]; simp
  | c :: r, acc => by
    by_cases h : TL.pre [s] (c :: r) = true
    · rw [TL.spl_hit h]
      have := spl_sz s r []
      rw [List.map_cons, List.sum_cons]
      show acc.length + 1 + ((TL.spl [s] 0 [] r).map fun p => p.length + 1).sum = _
      rw [this]
      simp only [List.length_nil, List.length_cons]
      omega
    · rw [TL.spl_miss (by simpa using h), spl_sz s r (acc ++ [c])]
      simp only [List.length_append, List.length_nil, List.length_cons]
      omega
theorem split_sz {x y : Str} {s : Nat} (ey : TL.tl y = [s]) (hk : y.cps.all (· < 256) = true) : szL (Txt.split x y) = x.length + 1 := by
  have e := TL.split_spl x y (by rw [ey]; simp) (TL.kind_ok hk)
  have q := spl_sz s (TL.tl x) []
  rw [← ey, ← e, List.map_map, List.length_nil, Nat.zero_add, ← TL.len_tl] at q
  rw [← q]
  unfold szL
  congr 1
  first
    | done
    | exact List.map_congr_left fun w _ => by show w.length + 1 = (TL.tl w).length + 1; rw [TL.len_tl]
theorem blank_sz (x : Str) : szL (Txt.split x " ") = x.length + 1 := split_sz (s := 32) (by decide +kernel) (by decide +kernel)
theorem line_sz (x : Str) : szL (Txt.split x "\n") = x.length + 1 := split_sz (s := 10) (by decide +kernel) (by decide +kernel)
theorem szL_at {ws : List Str} {j : Nat} (h : j < ws.length) : szL (ws.take j) + szL (ws.drop (j + 1)) + (ws[j].length + 1) = szL ws := by
  have q := szL_take ws j
  rw [List.drop_eq_getElem_cons h, szL_cons] at q
  omega
theorem szL_drop (ws : List Str) (j : Nat) : szL (ws.drop j) ≤ szL ws := by have := szL_take ws j; omega
theorem szL_tk (ws : List Str) (j : Nat) : szL (ws.take j) ≤ szL ws := by have := szL_take ws j; omega
theorem slice_asc {x : Str} (lo hi : Option Int) (h : Asc x) : Asc (Txt.slice x lo hi) := by
  unfold Txt.slice
  split
  · exact h
  · intro c hc
    have hc : c ∈ (Builtin.Str.strSliceIndices lo hi 1 x.length).filterMap (x.cps[·]?) := by simpa [TL.tl] using hc
    obtain ⟨i, _, e⟩ := List.mem_filterMap.mp hc
    exact h c (by rw [TL.tl]; exact Array.mem_toList_iff.mpr (Array.mem_of_getElem? e))
section
variable {K : PySem.W.Frag} {T : List (Addr × Str)} {H : Hp} {σ : L2.St} {ta tb : TE} {as bs ws : List Str}
def LsE (T : List (Addr × Str)) (te : TE) (ws : List Str) (σ : L2.St) (H : Hp) : Prop := ∀ H1, XX T H H1 → ∀ Q : VK, (∀ H2 p, XX T H1 H2 → H1 p = none → H2 p = some (.lst (ws.map V.str)) → Q (.ref p) H2) → te σ H1 Q
def TOI (t : TO) (k : Nat) (σ : L2.St) : Prop := ∀ (H : Hp) (Q : Option Int → Hp → Prop), Q (some (k : Int)) H → t σ H Q
theorem toi_var {j n : Nat} (e : σ[j]? = some (some (.int (n : Int)))) : TOI (tPart (tVar j)) n σ := fun H Q q => ⟨_, e, _, rfl, q⟩
theorem toi_add {j n : Nat} (e : σ[j]? = some (some (.int (n : Int)))) : TOI (tPart (tOp (rI0 fun i j => .int (i + j)) (tVar j) (tC (.int 1)))) (n + 1) σ := fun H Q q => ⟨_, e, _, _, rfl, rfl, _, rfl, q⟩
theorem ls_to {i k : Nat} {p : Addr} {t : TO} (e : σ[i]? = some (some (.ref p))) (hp : H p = some (.lst (ws.map V.str))) (h : TOI t k σ) : LsE T (tSl (rSlL K) (tVar i) tNoPart t) (ws.take k) σ H := fun H1 x1 Q q =>
  ⟨_, e, h H1 _ ⟨p, _, rfl, SqL.of (x1.lst hp), fun r hr => q _ r (XX.new hr) hr (by rw [upd_same, cutV_take, List.map_take])⟩⟩
theorem ls_from {i k : Nat} {p : Addr} {t : TO} (e : σ[i]? = some (some (.ref p))) (hp : H p = some (.lst (ws.map V.str))) (h : TOI t k σ) : LsE T (tSl (rSlL K) (tVar i) t tNoPart) (ws.drop k) σ H := fun H1 x1 Q q =>
  ⟨_, e, h H1 _ ⟨p, _, rfl, SqL.of (x1.lst hp), fun r hr => q _ r (XX.new hr) hr (by rw [upd_same, cutV_drop, List.map_drop])⟩⟩
theorem ls_cat (h1 : LsE T ta as σ H) (h2 : LsE T tb bs σ H) (hl : as.length + bs.length ≤ 100000) : LsE T (tOp rCat ta tb) (as ++ bs) σ H := fun H1 x1 Q q =>
  h1 H1 x1 _ fun H2 p x2 np ep => h2 H2 (x1.trans x2) _ fun H3 r x3 nr er => ⟨p, r, _, _, rfl, rfl, x3.lst ep, er, by rw [List.length_map, List.length_map, sizeLine_eq]; omega, fun t ht => q _ t ((x2.trans x3).then_new ht) ((x2.trans x3).free ht) (by rw [upd_same, List.map_append])⟩
theorem ls_join {p : Addr} {s : Str} {Q : VK} (hs : s.length = 1) (hp : H p = some (.lst (ws.map V.str))) (hz : szL ws ≤ 100000) (q : Q (.str (Txt.join s ws)) H) : rJoinT K (.str s) [.ref p] H Q :=
  ⟨s, p, ws, rfl, rfl, .inl (SqL.of hp), by rw [hs, Nat.mul_one, szL_sum]; omega, q⟩
end
end GX
set_option maxHeartbeats 2000000
/-! a, *r = a tuple -/
namespace GX
open PySem PySem.Spec PySem.Calls PyProof.Rows L2 LamX
section
variable {prog : Program} {w : World} {A : Around} {E : Value → Shared → Prop} {s : Shared}
theorem star_tuple {l : Addr} {x : Value} {xs : List Value} {Q : List Value → Shared → Prop} (hh : A.handled = none) (hL : IsTup s.heap l (x :: xs).toArray) (hz : xs.length ≤ 16000)
    (q : ∀ (h2 : Heap) (tk : Nat), (∀ b o, s.heap.get? b = some o → h2.get? b = some o) → Q [x, .ref h2.objs.size] { s with heap := h2.push { cls := .type "list", data := .seq xs.toArray }, toks := tk }) :
    wpAny (model prog w) A (unpackItems (.ref l) 2 (some 1)) Q E s := by
  have nl : l ≠ s.heap.objs.size := by
    obtain ⟨o, ho, _⟩ := hL
    exact Nat.ne_of_lt (Heap.lt_size ho)
  have sz : (x :: xs).toArray.size = xs.length + 1 := by simp
  unfold unpackItems notIterableAtAll
  refine wpAny_bind ?_
  refine wpAny_bind (wpAny_specialOf hL.typeIs slot_tuple_iter.lookup (wpAny_pure ?_))
  simp only [Bool.false_eq_true, if_false]
  refine wpAny_bind (wpAny_holding (iter_tuple hL ?_))
  refine wpAny_bind (wpAny_holding ?_)
  refine draw_tuple nl 1 0 _ _ ⟨_, Heap.get?_push_size _ rfl, rfl, rfl⟩ (hL.push _) (by omega) fun h1 it1 sb => ?_
  have L1 : IsTup h1 l (x :: xs).toArray := (hL.push _).extBut sb.extBut nl
  obtain ⟨oi, hoi, _⟩ := id it1
  obtain ⟨ol, hol, _⟩ := id L1
  show wpAny (model prog w) A (if [x].length < 1 then _ else _) _ _ _
  rw [if_neg (by simp)]
  refine wpAny_bind (wpAny_holding ?_)
  have wk := Walks.tuple (prog := prog) (w := w) (A := A.in1) hh s.heap.objs.size l nl (x :: xs).toArray
  refine PySem.W.kun_collect (s := { s with heap := h1 }) (T := "tuple_iterator") (.inr (.inr (.inr rfl))) wk (fun j u st => st.1.typeIs) (k := 1) (by omega) ⟨it1, L1⟩ (Heap.lt_size hoi) (Heap.lt_size hol) (fun h2 tk hk => ?_) (by rw [sz, sizeLine_eq]; omega)
  show wpAny (model prog w) A (if xs.length < 2 - 1 - 1 then _ else _) _ _ _
  rw [if_neg (by omega)]
  show wpAny (model prog w) A (newList (xs.take (xs.length - (2 - 1 - 1))) >>= fun d => pure ([x] ++ [d] ++ xs.drop (xs.length - (2 - 1 - 1)))) _ _ _
  rw [show xs.length - (2 - 1 - 1) = xs.length by omega, List.take_length, List.drop_length]
  have kp : ∀ b o, s.heap.get? b = some o → h2.get? b = some o := fun b o e => by
    have nb : b ≠ s.heap.objs.size := Nat.ne_of_lt (Heap.lt_size e)
    exact hk b o nb (sb.extBut b o nb (Heap.get?_push_of_some _ e))
  exact wpAny_bind (wpAny_newList (wpAny_pure (q h2 tk kp)) (by rw [sizeLine_eq]; omega))
end
section
variable {X : Cx} {pos sp : Pos}
/-- a, *r = a tuple of one item at least -/
def gStarT (K : PySem.W.Frag) (t : TGs) : TG := fun v σ H Q => ∃ a x xs, v = .ref a ∧ SqT K H a (x :: xs) ∧ xs.length ≤ 16000 ∧ ∀ p, H p = none → t [x, .ref p] σ (upd H p (.lst xs)) Q
theorem pg_starT {es : List Expr} {k : Nat} {t : TGs} (hc : X.calm = true) (h : PGs X es t) (hn : (assignEach es X.env).length = 2 := by rfl) (hst : (assignEach es X.env).findIdx? (·.1) = some 1 := by rfl) : PG X (.Tuple es k pos) (gStarT X.K t) := by
  refine ⟨fun pins s σ H v u Q I r hw => ?_⟩
  obtain ⟨a, x, xs, e1, hq, hl, hw⟩ := hw
  subst e1
  cases r
  obtain ⟨its, rv, pl, hz⟩ := I.tuple hq
  cases rv with
  | cons rx rr =>
  rename_i ux uxs
  have hl' : IsTup s.heap a (ux :: uxs).toArray := pl
  rw [PyProof.Rows.assign_Tuple]
  refine wpAny_bind (wpAny_standAt ?_)
  unfold unpack
  rw [hn, hst]
  have hl2 : uxs.length ≤ 16000 := by rw [← rr.length]; exact hl
  refine wpAny_bind (wpAny_holding (star_tuple (I.ok.hd hc) hl' hl2 fun h2 tk kp => ?_))
  have I1 := I.kept (t' := tk) (h' := h2) kp
  have hf : H h2.objs.size = none := I1.hok.fresh (Nat.le_refl _)
  have I2 := I1.laid (t' := tk) (a := h2.objs.size) (o := .lst xs) (h' := h2.push { cls := .type "list", data := .seq uxs.toArray }) (fun b o e => Heap.get?_push_of_some _ e) (Nat.le_refl _) ⟨by rw [sizeLine_eq]; omega, uxs, 0, rr, Heap.get?_push_size _ rfl⟩
  exact h.run pins _ σ _ [x, .ref h2.objs.size] _ Q I2 (.cons rx (.cons rfl .nil)) (hw _ hf)
end
end GX
set_option maxHeartbeats 4000000
/-! steps of a play, as data, as words -/
namespace GX
open PySem PySem.Spec PyProof.Rows L2 LamX
def numS (n : Nat) : Str := Str.ofString (toString ((n : Nat) : Int))
/-- what stands in a step behind its word -/
inductive Arg where
  | n (k : Nat)
  | v (vs : List Nat)
def natD (k : Nat) : PyData := .int (k : Int)
def Arg.d : Arg → PyData
  | .n k => .int (k : Int)
  | .v vs => .tuple (vs.map natD)
def Arg.w : Arg → Str
  | .n k => numS k
  | .v vs => if vs = [] then "-" else Txt.join "," (vs.map numS)
def Arg.ok : Arg → Prop
  | .n k => k < 1000
  | .v vs => vs.length ≤ 11 ∧ ∀ k ∈ vs, k < 100
structure Stp where
  w : Str
  as : List Arg
def Stp.d (s : Stp) : PyData := .tuple (.str s.w :: s.as.map Arg.d)
def Stp.ws (s : Stp) : List Str := s.w :: s.as.map Arg.w
def Stp.row (s : Stp) : Str := Txt.join " " s.ws
def Stp.ok (s : Stp) : Prop := Txo 6 s.w ∧ s.as.length ≤ 2 ∧ ∀ a ∈ s.as, a.ok
theorem numS_txo {n : Nat} (h : n < 1000) : Txo 3 (numS n) := txo_num h
theorem Arg.txo {a : Arg} (h : a.ok) : Txo 44 a.w := by
  cases a with
  | n k => exact (numS_txo h).mono (by decide)
  | v vs =>
    obtain ⟨h1, h2⟩ := h
    unfold Arg.w
    by_cases q : vs = []
    · simp only [if_pos q]; exact txo_by (by decide +kernel)
    · simp only [if_neg q]
      have hw : ∀ w ∈ vs.map numS, Txo 3 w := fun w hm => by
        obtain ⟨k, hk, e⟩ := List.mem_map.mp hm
        rw [← e]; exact numS_txo (by have := h2 k hk; omega)
      refine ⟨?_, join_asc (asc_by (by decide +kernel)) fun w hm => (hw w hm).2⟩
      have l := join_len (s := ",") rfl (vs.map numS)
      have z := szL_le fun w hm => (hw w hm).1
      rw [List.length_map] at z
      omega
theorem dpAll_strs {K : PySem.W.Frag} {H : Hp} : ∀ {ws : List Str} {vs : List V}, DpAll K H vs (ws.map PyData.str) → vs = ws.map V.str
  | [], _, h => by cases h; rfl
  | w :: ws, _, h => by
    cases h with
    | cons h1 hr =>
      cases h1
      rw [dpAll_strs hr]; rfl
theorem dpAll_of_strs {K : PySem.W.Frag} {H : Hp} : ∀ ws : List Str, DpAll K H (ws.map V.str) (ws.map PyData.str)
  | [] => .nil
  | w :: ws => .cons (.str w) (dpAll_of_strs ws)
theorem getD_map {α : Type} {f : α → Str} {l : List α} {j : Nat} (hj : j < l.length) : (l.map f).getD j "" = f l[j] := by
  rw [List.getD_eq_getElem?_getD, List.getElem?_map, List.getElem?_eq_getElem hj]; rfl
def spWordOf (K : PySem.W.Frag) (T : List (Addr × Str)) : Sp := fun vs H Q _ => ∃ v a, vs = [v] ∧ Dp K H v (Arg.d a) ∧ a.ok ∧ ∀ H', XX T H H' → Q (.str a.w) H'
section
variable {P : Program} {w : World} {K : PySem.W.Frag} {mg : Str → Option Value} {base : Heap} {T : List (Addr × Str)}
theorem sc_word_of : FnScope ["thing", "value"] ["thing"] (defScope s_word_of) := ⟨rfl, rfl, rfl, by decide +kernel, rfl, by decide +kernel, by decide +kernel⟩
theorem ok_word_of {f : Addr} {fd : FuncData} (F : L2.Fun K "_word_of" "_word_of" s_word_of f fd) (B : Blt mg) (bs : mg "str" = none) (hN : ∃ t, mg "NOTHING" = some (.str "-" t)) : FnOk P w K mg base CX0 1 f fd ["thing"] (spWordOf K T) := by
  refine F.ok sc_word_of (fun vs H Q E h => by obtain ⟨x, a, rfl, _⟩ := h; rfl) (fun cdv A outer s H vs Q E hr h => ?_)
  obtain ⟨v, a, rfl, hd, hok, k⟩ := h
  have nd := sc_word_of.nd
  obtain ⟨tn, hN⟩ := hN
  refine ⟨_, pss_cons (ps_if (pt_not (pt_val (pe_callB call_isi (by rfl) B.isi k_isi (pa_cons (pv 0) (pa_cons (pe_bltn (v := .ty "tuple") (by rfl) B.tuple boot_tuple rfl) pa_nil))))) (pss_one (ps_ret (pe_callTy call_strI (by rfl) bs (by decide +kernel) (pa_cons (pv 0) pa_nil)))) pss_nil)
    (pss_one (ps_ret (pe_ifExp (pt_truth (pv 0) (by intro _; rfl)) (pe_joinT pe_str (pe_lc (own := [("value", 1)]) (g := gName 1) (tt := tYes) (te := tCB rStrI (tCons (tVar 1) tNil)) (by rfl) nd (pi_tup (pv 0)) (blkOk_by (own := [("value", 1)]) (N := ["thing", "value"]) (sc := defScope s_word_of) (by decide +kernel))
      (fun _ _ _ _ _ => pg_name (i := 1) nd rfl (Or.inl rfl)) (fun _ _ _ _ _ => pts_nil) (fun _ _ _ _ _ => pe_callTy call_strI (by rfl) bs (by decide +kernel) (pa_cons (pv 1) pa_nil)))) (pe_glob (v := .str "-") (by rfl) hN ⟨_, rfl⟩)))), ?_⟩
  refine t_isi rfl hd kit_tuple ⟨_, rfl, ?_⟩
  cases a with
  | n i =>
    obtain rfl : v = .int (i : Int) := dp_int hd
    have hi : i < 1000 := hok
    exact iteT ⟨_, rfl, _, rfl, small_log (by omega), k H (XX.refl H)⟩
  | v is =>
    obtain ⟨hl, hb⟩ := hok
    obtain ⟨p, xs, rfl, hS, hx⟩ := dp_tup hd
    have lx : xs.length = is.length := by rw [dpAll_len hx, List.length_map]
    refine iteF ⟨_, rfl, _, .inr (.inl ⟨xs, hS, rfl⟩), ?_⟩
    have lw : (is.map numS).length = is.length := List.length_map ..
    cases is with
    | nil =>
      obtain rfl : xs = [] := List.length_eq_zero_iff.mp lx
      exact iteF (k H (XX.refl H))
    | cons i0 ir =>
      cases xs with
      | nil => cases lx
      | cons x0 xr =>
      refine iteT ⟨⟨_, rfl⟩, _, rfl, p, rfl, ⟨_, hS⟩, fun D hD => ?_⟩
      refine lc_dpW (T := T) (K := K) walk_tup rfl (fun H' x' => x'.sqT hS) (fun j => PyData.str (((i0 :: ir).map numS).getD j "")) hD (by rw [lx, sizeLine_eq]; omega) (fun j _ => rfl) (fun j x H' Qe ex x' q => ?_) (fun H' acc x' e1 da => ?_)
      · have hj := (List.getElem?_eq_some_iff.mp ex).1
        have hj2 : j < (i0 :: ir).length := by rw [← lx]; exact hj
        obtain ⟨u, eu, du⟩ := dpAll_at hx (show ((i0 :: ir).map natD)[j]? = some (natD (i0 :: ir)[j]) by rw [List.getElem?_map, List.getElem?_eq_getElem hj2]; rfl)
        rw [ex] at eu
        cases eu
        obtain rfl : x = .int (((i0 :: ir)[j] : Nat) : Int) := dp_int du
        have hb2 := hb _ (List.getElem_mem hj2)
        have eg : ((i0 :: ir).map numS).getD j "" = numS (i0 :: ir)[j] := getD_map hj2
        refine ⟨_, rfl, _, rfl, small_log (by omega), q H' _ (XX.refl H') ?_⟩
        rw [eg]
        exact .str _
      · rw [lx, ← lw, map_range (fun w => PyData.str w) ""] at da
        obtain rfl := dpAll_strs da
        have hw : ∀ w ∈ (i0 :: ir).map numS, Txo 3 w := fun w hm => by
          obtain ⟨k, hk, e⟩ := List.mem_map.mp hm
          rw [← e]; exact numS_txo (by have := hb k hk; omega)
        have z := szL_le fun w hm => (hw w hm).1
        exact ls_join rfl e1 (by omega) (k _ x')
end
end GX
/-! slotpages.plays: _step_words, text_of, written_steps -/
namespace GX
open PySem PySem.Spec PyProof.Rows L2 LamX
/-- lists of texts -/
def LLs (H : Hp) : List Addr → List (List Str) → Prop
  | [], [] => True
  | p :: ps, ws :: wss => H p = some (.lst (ws.map V.str)) ∧ LLs H ps wss
  | _, _ => False
theorem LLs.len {H : Hp} : ∀ {ps : List Addr} {wss : List (List Str)}, LLs H ps wss → ps.length = wss.length
  | [], [], _ => rfl
  | _ :: _, _ :: _, h => by rw [List.length_cons, List.length_cons, LLs.len h.2]
  | [], _ :: _, h => h.elim
  | _ :: _, [], h => h.elim
theorem LLs.at_ {H : Hp} : ∀ {ps : List Addr} {wss : List (List Str)} {j : Nat} (h1 : j < ps.length) (h2 : j < wss.length), LLs H ps wss → H ps[j] = some (.lst (wss[j].map V.str))
  | _ :: _, _ :: _, 0, _, _, h => h.1
  | _ :: ps, _ :: wss, j + 1, h1, h2, h => LLs.at_ (ps := ps) (wss := wss) (Nat.lt_of_succ_lt_succ h1) (Nat.lt_of_succ_lt_succ h2) h.2
  | [], _, _, h1, _, _ => absurd h1 (Nat.not_lt_zero _)
theorem LLs.xx {T : List (Addr × Str)} {H H' : Hp} (x : XX T H H') : ∀ {ps : List Addr} {wss : List (List Str)}, LLs H ps wss → LLs H' ps wss
  | [], [], _ => True.intro
  | _ :: _, _ :: _, h => ⟨x.lst h.1, LLs.xx x h.2⟩
  | [], _ :: _, h => h.elim
  | _ :: _, [], h => h.elim
theorem LLs.up {H : Hp} {D : Addr} {o : HO} : ∀ {ps : List Addr} {wss : List (List Str)}, LLs H ps wss → (∀ p ∈ ps, p ≠ D) → LLs (upd H D o) ps wss
  | [], [], _, _ => True.intro
  | p :: _, _ :: _, h, n => ⟨by rw [upd_ne (n p List.mem_cons_self)]; exact h.1, LLs.up h.2 fun q hq => n q (List.mem_cons_of_mem _ hq)⟩
  | [], _ :: _, h, _ => h.elim
  | _ :: _, [], h, _ => h.elim
theorem LLs.snoc {H : Hp} {p : Addr} {ws : List Str} (e : H p = some (.lst (ws.map V.str))) : ∀ {ps : List Addr} {wss : List (List Str)}, LLs H ps wss → LLs H (ps ++ [p]) (wss ++ [ws])
  | [], [], _ => ⟨e, True.intro⟩
  | _ :: _, _ :: _, h => ⟨h.1, LLs.snoc e h.2⟩
  | [], _ :: _, h => h.elim
  | _ :: _, [], h => h.elim
def spTextOf (K : PySem.W.Frag) (T : List (Addr × Str)) : Sp := fun vs H Q _ => ∃ a ps wss, vs = [.ref a] ∧ SqL K H a (ps.map V.ref) ∧ LLs H ps wss ∧ wss.length ≤ 1000 ∧ (∀ ws ∈ wss, szL ws ≤ 1000) ∧ szL (wss.map (Txt.join " ")) ≤ 10000 ∧ ∀ H', XX T H H' → Q (.str (Txt.join "\n" (wss.map (Txt.join " ")))) H'
def spStepWords (K : PySem.W.Frag) (T : List (Addr × Str)) : Sp := fun vs H Q _ => ∃ v s, vs = [v] ∧ Dp K H v (Stp.d s) ∧ s.ok ∧ ∀ H' p, XX T H H' → H p = none → H' p = some (.lst (s.ws.map V.str)) → Q (.ref p) H'
section
variable {P : Program} {w : World} {K : PySem.W.Frag} {mg : Str → Option Value} {base : Heap} {T : List (Addr × Str)}
theorem sc_text_of : FnScope ["rows", "words"] ["rows"] (defScope s_text_of) := ⟨rfl, rfl, rfl, by decide +kernel, rfl, by decide +kernel, by decide +kernel⟩
theorem ok_text_of {f : Addr} {fd : FuncData} (F : L2.Fun K "text_of" "text_of" s_text_of f fd) : FnOk P w K mg base CX0 1 f fd ["rows"] (spTextOf K T) := by
  refine F.ok sc_text_of (fun vs H Q E h => by obtain ⟨x, a, b, rfl, _⟩ := h; rfl) (fun cdv A outer s H vs Q E hr h => ?_)
  obtain ⟨a, ps, wss, rfl, hS, hl, hn, hz, hzz, k⟩ := h
  have nd := sc_text_of.nd
  refine ⟨_, pss_one (ps_ret (pe_joinT pe_str (pe_lc (own := [("words", 1)]) (g := gName 1) (tt := tYes) (te := tM1 (rJoinT K) (tC (.str " ")) (tVar 1)) (by rfl) nd (pi_list (pv 0)) (blkOk_by (own := [("words", 1)]) (N := ["rows", "words"]) (sc := defScope s_text_of) (by decide +kernel))
      (fun _ _ _ _ _ => pg_name (i := 1) nd rfl (Or.inl rfl)) (fun _ _ _ _ _ => pts_nil) (fun _ _ _ _ _ => pe_joinT pe_str (pv 1))))), ?_⟩
  have l1 := hl.len
  have l2 : (ps.map V.ref).length = wss.length := by rw [List.length_map, l1]
  have l3 : (wss.map (Txt.join " ")).length = wss.length := List.length_map ..
  refine ⟨⟨_, rfl⟩, _, rfl, a, rfl, ⟨_, hS⟩, fun D hD => ?_⟩
  refine lc_dp (T := T) (K := K) (fun j => PyData.str ((wss.map (Txt.join " ")).getD j "")) hD hS (by rw [l2, sizeLine_eq]; omega) (fun j _ => rfl) (fun j x H' Qe ex x' q => ?_) (fun H' acc x' e1 da => ?_)
  · have hj := (List.getElem?_eq_some_iff.mp ex).1
    have hj1 : j < ps.length := by rw [List.length_map] at hj; exact hj
    have hj2 : j < wss.length := by rw [← l1]; exact hj1
    rw [List.getElem?_map, List.getElem?_eq_getElem hj1] at ex
    obtain rfl : V.ref ps[j] = x := Option.some.inj ex
    have e := x'.lst (hl.at_ hj1 hj2)
    refine ⟨⟨_, rfl⟩, _, rfl, ls_join rfl e (by have := hz _ (List.getElem_mem hj2); omega) (q H' _ (XX.refl H') ?_)⟩
    rw [getD_map hj2]
    exact .str _
  · rw [l2, ← l3, map_range (fun w => PyData.str w) ""] at da
    obtain rfl := dpAll_strs da
    exact ls_join rfl e1 (by omega) (k _ x')
abbrev swN : List Str := ["step", "word", "things", "thing"]
theorem sc_step_words : FnScope swN ["step"] (defScope s_step_words) := ⟨rfl, rfl, rfl, by decide +kernel, rfl, by decide +kernel, by decide +kernel⟩
theorem ok_step_words {f : Addr} {fd : FuncData} (F : L2.Fun K "_step_words" "_step_words" s_step_words f fd) (cW : Cal P w K mg base CX0 "_word_of" ["thing"] 1 (spWordOf K T)) : FnOk P w K mg base CX0 2 f fd ["step"] (spStepWords K T) := by
  refine F.ok sc_step_words (fun vs H Q E h => by obtain ⟨x, a, rfl, _⟩ := h; rfl) (fun cdv A outer s H vs Q E hr h => ?_)
  obtain ⟨v, st, rfl, hd, hok, k⟩ := h
  have nd := sc_step_words.nd
  refine ⟨_, pss_cons (ps_asg (pv 0) (pg_starT (by rfl) (pgs_cons (pg_name (i := 1) nd rfl (.inl rfl)) (pgs_starred (pg_name (i := 2) nd rfl (.inl rfl))))))
    (pss_one (ps_ret (pe_op op_cat (pe_lst (pa_cons (pv 1) pa_nil)) (pe_lc (own := [("thing", 3)]) (g := gName 3) (tt := tYes) (te := tCall (spWordOf K T) [] E0 (tCons (tVar 3) tNil)) (by rfl) nd (pi_list (pv 2)) (blkOk_by (own := [("thing", 3)]) (N := swN) (sc := defScope s_step_words) (by decide +kernel))
      (fun _ _ _ _ _ => pg_name (i := 3) nd rfl (Or.inl rfl)) (fun _ _ _ _ _ => pts_nil) (fun _ _ _ _ _ => pe_cal cW hr (pa_cons (pv 3) pa_nil)))))), ?_⟩
  obtain ⟨o1, o2, o3⟩ := hok
  obtain ⟨p, xs, rfl, hS, hx⟩ := dp_tup hd
  cases hx with
  | cons hw hr2 =>
  cases hw
  rename_i as
  have la : as.length = st.as.length := by rw [dpAll_len hr2, List.length_map]
  refine ⟨_, rfl, p, _, as, rfl, hS, by omega, fun q hq => ?_⟩
  refine ⟨_, _, rfl, _, _, rfl, rfl, ?_⟩
  dsimp only [gName]
  have x1 := XX.new (T := T) (o := .lst as) hq
  refine ⟨_, rfl, (by show 1 ≤ sizeLine; decide), fun r hr3 => ⟨_, rfl, q, rfl, ⟨_, (XX.new (T := T) hr3).sqL (SqL.of upd_same)⟩, fun D hD => ?_⟩⟩
  have x2 := x1.then_new (o := .lst [V.str st.w]) hr3
  have da0 := Dp.xxAll x2 _ _ hr2
  refine lc_dp (T := T) (K := K) (fun j => PyData.str ((st.as.map Arg.w).getD j "")) hD ((XX.new (T := T) hr3).sqL (SqL.of upd_same)) (by rw [la, sizeLine_eq]; omega) (fun j _ => rfl) (fun j x H' Qe ex x' q' => ?_) (fun H' acc x' e1 da => ?_)
  · have hj := (List.getElem?_eq_some_iff.mp ex).1
    have hj2 : j < st.as.length := by rw [← la]; exact hj
    obtain ⟨u, eu, du⟩ := dpAll_at (Dp.xxAll x' _ _ da0) (show (st.as.map Arg.d)[j]? = some (Arg.d st.as[j]) by rw [List.getElem?_map, List.getElem?_eq_getElem hj2]; rfl)
    rw [ex] at eu
    cases eu
    refine ⟨_, rfl, x, st.as[j], rfl, du, o3 _ (List.getElem_mem hj2), fun H2 x2 => q' H2 _ x2 ?_⟩
    rw [getD_map hj2]
    exact .str _
  · have lm : (st.as.map Arg.w).length = st.as.length := List.length_map ..
    rw [la, ← lm, map_range (fun w => PyData.str w) ""] at da
    obtain rfl := dpAll_strs da
    have er := x'.lst (p := r) (xs := [V.str st.w]) upd_same
    refine ⟨r, D, _, _, rfl, rfl, er, e1, by rw [List.length_map, lm, sizeLine_eq]; show 1 + _ ≤ _; omega, fun t ht => ?_⟩
    exact k _ t ((x2.trans x').then_new ht) ((x2.trans x').free ht) (by rw [upd_same]; rfl)
def Stps.text (ss : List Stp) : Str := Txt.join "\n" (ss.map Stp.row)
def spWritten (K : PySem.W.Frag) (T : List (Addr × Str)) : Sp := fun vs H Q _ => ∃ a xs ss, vs = [.ref a] ∧ SqL K H a xs ∧ DpAll K H xs (ss.map Stp.d) ∧ ss.length ≤ 8 ∧ (∀ s ∈ ss, s.ok) ∧ ∀ H', XX T H H' → Q (.str (Stps.text ss)) H'
theorem Stp.sz {s : Stp} (h : s.ok) : szL s.ws ≤ 100 ∧ Txo 100 s.row := by
  obtain ⟨o1, o2, o3⟩ := h
  have hw : ∀ w ∈ s.as.map Arg.w, Txo 44 w := fun w hm => by
    obtain ⟨a, ha, e⟩ := List.mem_map.mp hm
    rw [← e]; exact Arg.txo (o3 a ha)
  have z := szL_le fun w hm => (hw w hm).1
  rw [List.length_map] at z
  have z2 : szL s.ws ≤ 100 := by
    show szL (s.w :: s.as.map Arg.w) ≤ 100
    rw [szL_cons]
    have := o1.1
    have : s.as.length * 45 ≤ 2 * 45 := Nat.mul_le_mul_right _ o2
    omega
  refine ⟨z2, Nat.le_trans (join_len (s := " ") rfl s.ws) z2, join_asc (asc_by (by decide +kernel)) fun w hm => ?_⟩
  rcases List.mem_cons.mp (show w ∈ s.w :: s.as.map Arg.w from hm) with e | hm
  · rw [e]; exact o1.2
  · exact (hw w hm).2
theorem sc_written_steps : FnScope ["steps", "step"] ["steps"] (defScope s_written_steps) := ⟨rfl, rfl, rfl, by decide +kernel, rfl, by decide +kernel, by decide +kernel⟩
theorem ok_written_steps {f : Addr} {fd : FuncData} (F : L2.Fun K "written_steps" "written_steps" s_written_steps f fd) (cS : Cal P w K mg base CX0 "_step_words" ["step"] 2 (spStepWords K T)) (cT : Cal P w K mg base CX0 "text_of" ["rows"] 1 (spTextOf K T)) : FnOk P w K mg base CX0 3 f fd ["steps"] (spWritten K T) := by
  refine F.ok sc_written_steps (fun vs H Q E h => by obtain ⟨x, a, b, rfl, _⟩ := h; rfl) (fun cdv A outer s H vs Q E hr h => ?_)
  obtain ⟨a, xs, ss, rfl, hS, hd, hn, hok, k⟩ := h
  have nd := sc_written_steps.nd
  refine ⟨_, pss_one (ps_ret (pe_cal cT (hr.mono (by decide)) (pa_cons (pe_lc (own := [("step", 1)]) (g := gName 1) (tt := tYes) (te := tCall (spStepWords K T) [] E0 (tCons (tVar 1) tNil)) (by rfl) nd (pi_list (pv 0)) (blkOk_by (own := [("step", 1)]) (N := ["steps", "step"]) (sc := defScope s_written_steps) (by decide +kernel))
      (fun _ _ _ _ _ => pg_name (i := 1) nd rfl (Or.inl rfl)) (fun _ _ _ _ _ => pts_nil) (fun _ _ _ _ _ => pe_cal cS hr (pa_cons (pv 1) pa_nil))) pa_nil))), ?_⟩
  have lx : xs.length = ss.length := by rw [dpAll_len hd, List.length_map]
  refine ⟨_, rfl, a, rfl, ⟨_, hS⟩, fun D hD => ?_⟩
  refine lc_list (xs := xs) (fun j H' => XX T H H' ∧ ∃ ps, H' D = some (.lst (ps.map V.ref)) ∧ ps.length = j ∧ LLs H' ps ((ss.take j).map Stp.ws) ∧ ∀ p ∈ ps, p ≠ D) ⟨XX.new hD, [], upd_same, rfl, True.intro, fun p hp => absurd hp (by simp)⟩ (fun j H' _ pv => pv.1.sqL hS) (fun j x H' ex pv => ⟨wipe1, ?_⟩) (fun H' pv => ?_)
  · obtain ⟨x1, ps, e1, el, hl, hne⟩ := pv
    have hj := (List.getElem?_eq_some_iff.mp ex).1
    have hj2 : j < ss.length := by rw [← lx]; exact hj
    obtain ⟨u, eu, du⟩ := dpAll_at (Dp.xxAll x1 _ _ hd) (show (ss.map Stp.d)[j]? = some (Stp.d ss[j]) by rw [List.getElem?_map, List.getElem?_eq_getElem hj2]; rfl)
    rw [ex] at eu
    cases eu
    refine ⟨_, rfl, x, ss[j], rfl, du, hok _ (List.getElem_mem hj2), fun H2 p x2 np ep => ?_⟩
    have e2 := x2.lst e1
    have npD : p ≠ D := fun z => by rw [z, e1] at np; cases np
    have e3 := XX.lst x2 e1
    refine ⟨_, e2, by rw [List.length_map, el, sizeLine_eq]; omega, (x1.trans x2).fillD hD e2, ps ++ [p], ?_, by rw [List.length_append, el]; rfl, ?_, fun r hr2 => ?_⟩
    · rw [upd_same, List.map_append]; rfl
    · have et : ss.take (j + 1) = ss.take j ++ [ss[j]] := by rw [List.take_succ, List.getElem?_eq_getElem hj2]; rfl
      rw [et, List.map_append]
      exact LLs.snoc (by rw [upd_ne npD]; exact ep) ((LLs.xx x2 hl).up hne)
    · rcases List.mem_append.mp hr2 with h | h
      · exact hne r h
      · rw [List.mem_singleton.mp h]; exact npD
  · obtain ⟨x1, ps, e1, el, hl, hne⟩ := pv
    rw [lx, List.take_length] at hl
    refine ⟨D, ps, ss.map Stp.ws, rfl, SqL.of e1, hl, by rw [List.length_map]; omega, fun ws hm => ?_, ?_, fun H2 x2 => ?_⟩
    · obtain ⟨s0, h0, e⟩ := List.mem_map.mp hm
      rw [← e]
      exact Nat.le_trans (Stp.sz (hok s0 h0)).1 (by decide)
    · rw [List.map_map]
      have z := szL_le (n := 100) (ws := ss.map Stp.row) fun w hm => by
        obtain ⟨s0, h0, e⟩ := List.mem_map.mp hm
        rw [← e]
        exact (Stp.sz (hok s0 h0)).2.1
      rw [List.length_map] at z
      show szL (ss.map Stp.row) ≤ 10000
      have : ss.length * 101 ≤ 8 * 101 := Nat.mul_le_mul_right _ hn
      omega
    · have q := k H2 (x1.trans x2)
      rw [List.map_map]
      exact q
end
end GX
/-! zip of two things, each a list, a tuple or a text -/
namespace GX
open PySem PySem.Spec PySem.Calls PyProof.Rows L2 LamX
inductive Zs where
  | l (a : Addr)
  | t (a : Addr)
  | s (x : Str)
def Zs.v : Zs → V
  | .l a => .ref a
  | .t a => .ref a
  | .s x => .str x
def Zs.q (K : PySem.W.Frag) : Zs → Hp → List V → Prop
  | .l a, H, xs => SqL K H a xs
  | .t a, H, xs => SqT K H a xs
  | .s x, _, xs => xs = x.cps.toList.map fun c => V.str ⟨#[c]⟩
def Zs.cell (it : Addr) : Zs → Nat → Heap → Prop
  | .l a, i, h => h.IsListIter it a i
  | .t a, i, h => h.IsTupleIter it a i
  | .s x, i, h => ∃ t, h.IsStrIter it (strIterType x) x t i
def Zs.src : Zs → Addr → Prop
  | .l a, b => b = a
  | .t a, b => b = a
  | .s _, _ => False
abbrev PV (xs : List V) (j : Nat) (u : Value) : Prop := ∃ x, xs[j]? = some x ∧ RelV x u
section
variable {P : Program} {w : World} {K : PySem.W.Frag} {k : Zs} {it : Addr}
theorem Zs.cobj {i : Nat} {h : Heap} (c : k.cell it i h) : ∃ o, h.get? it = some o ∧ ∀ v, o.data ≠ .cell v := by
  cases k with
  | l a =>
    obtain ⟨o, e, _, d⟩ := (show h.IsListIter it a i from c)
    exact ⟨o, e, fun v q => by rw [d] at q; cases q⟩
  | t a =>
    obtain ⟨o, e, _, d⟩ := (show h.IsTupleIter it a i from c)
    exact ⟨o, e, fun v q => by rw [d] at q; cases q⟩
  | s x =>
    obtain ⟨t, o, e, _, d⟩ := (show ∃ t, h.IsStrIter it (strIterType x) x t i from c)
    exact ⟨o, e, fun v q => by rw [d] at q; cases q⟩
theorem Zs.ckeep {i : Nat} {h h' : Heap} (c : k.cell it i h) (g : ∀ o, h.get? it = some o → h'.get? it = some o) : k.cell it i h' := by
  cases k with
  | l a => exact Heap.IsListIter.at (show h.IsListIter it a i from c) g
  | t a => exact Heap.IsTupleIter.at (show h.IsTupleIter it a i from c) g
  | s x =>
    obtain ⟨t, o, e, r⟩ := (show ∃ t, h.IsStrIter it (strIterType x) x t i from c)
    exact ⟨t, o, g o e, r⟩
theorem Zs.inj {X : Cx} {pins : List (Addr × Obj)} {σ : L2.St} {H : Hp} {s : Shared} (I : Inv X pins σ H s) {xs ys : List V} (h1 : k.q X.K H xs) (h2 : k.q X.K H ys) : xs = ys := by
  cases k with
  | l a => exact I.list_inj h1 h2
  | t a => exact I.tuple_inj h1 h2
  | s x => exact (show xs = _ from h1).trans (show ys = _ from h2).symm
theorem draws_mono {prog : Program} {w : World} {A : Around} {it : Addr} {fp : List Addr} {n m : Nat} {Pa Pb : Nat → Value → Prop} {St : Nat → Heap → Prop} (D : Draws prog w A it fp n Pa St) (e : n = m) (hp : ∀ i u, Pa i u → Pb i u) : Draws prog w A it fp m Pb St := by
  subst e
  exact ⟨D.live, D.frame, fun i s Q E hi st hQ => D.item i s Q E hi st fun x h' tk p => hQ x h' tk (hp i x p), D.done⟩
theorem vals_pv {xs : List V} {us : List Value} (r : Vals xs us) : us.toArray.size = xs.length ∧ ∀ (i : Nat) (u : Value), us.toArray[i]? = some u → PV xs i u := by
  refine ⟨by simp [r.length], fun i u e => ?_⟩
  have e : us[i]? = some u := by simpa using e
  have hi := (List.getElem?_eq_some_iff.mp e).1
  have hl : i < xs.length := by rw [r.length]; exact hi
  have hx : xs[i]? = some xs[i] := List.getElem?_eq_getElem hl
  obtain ⟨u', e', r'⟩ := r.get hx
  rw [e] at e'
  cases e'
  exact ⟨_, hx, r'⟩
theorem Zs.draw {X : Cx} {pins : List (Addr × Obj)} {σ : L2.St} {H : Hp} {s : Shared} (I : Inv X pins σ H s) (hh : X.A.handled = none) (hs : ¬ k.src it) {xs : List V} {i : Nat} (hq : k.q X.K H xs) (c : k.cell it i s.heap) :
    ∃ (fp : List Addr) (St : Nat → Heap → Prop), Draws X.prog X.w X.A.in1 it fp xs.length (PV xs) St ∧ St i s.heap ∧ (∀ j h, St j h → k.cell it j h) ∧ it ∈ fp ∧ ∀ b ∈ fp, b = it ∨ k.src b := by
  cases k with
  | l a =>
    obtain ⟨its, rv, p, _⟩ := I.list (show SqL X.K H a xs from hq)
    obtain ⟨e, pv⟩ := vals_pv rv
    refine ⟨_, _, draws_mono (Draws.list (A := X.A.in1) hh it a (fun z => hs z.symm) its.toArray) e pv, ⟨c, p.isList⟩, fun j h st => st.1, by simp, fun b hb => ?_⟩
    rcases List.mem_cons.mp hb with z | hb
    · exact .inl z
    · exact .inr (List.mem_singleton.mp hb)
  | t a =>
    obtain ⟨its, rv, p, _⟩ := I.tuple (show SqT X.K H a xs from hq)
    obtain ⟨e, pv⟩ := vals_pv rv
    refine ⟨_, _, draws_mono (Draws.tuple (A := X.A.in1) hh it a (fun z => hs z.symm) its.toArray) e pv, ⟨c, p⟩, fun j h st => st.1, by simp, fun b hb => ?_⟩
    rcases List.mem_cons.mp hb with z | hb
    · exact .inl z
    · exact .inr (List.mem_singleton.mp hb)
  | s x =>
    obtain ⟨t, c⟩ := (show ∃ t, s.heap.IsStrIter it (strIterType x) x t i from c)
    have hq : xs = x.cps.toList.map fun c => V.str ⟨#[c]⟩ := hq
    refine ⟨_, _, draws_mono (Draws.text (A := X.A.in1) hh it x t) (by rw [hq]; simp) fun j u h => ?_, c, fun j h st => ⟨t, st⟩, by simp, fun b hb => .inl (List.mem_singleton.mp hb)⟩
    obtain ⟨d, tu, e, rfl⟩ := h
    refine ⟨.str ⟨#[d]⟩, ?_, ⟨tu, rfl⟩⟩
    rw [hq, List.getElem?_map]
    simp [e]
end
/-- two things as they stand at each turn, their items in new pairs -/
def ItG (q1 q2 : Hp → List V → Prop) : It :=
  ⟨fun i H => ∃ (xs ys : List V), q1 H xs ∧ q2 H ys ∧ i < xs.length ∧ i < ys.length,
    fun i H v H' => ∃ T x y, v = .ref T ∧ H T = none ∧ H' = upd H T (.tup [x, y]) ∧ (∀ xs, q1 H xs → xs[i]? = some x) ∧ ∀ ys, q2 H ys → ys[i]? = some y,
    fun i H => ∃ xs ys : List V, q1 H xs ∧ q2 H ys ∧ i ≤ xs.length ∧ i ≤ ys.length ∧ (i = xs.length ∨ i = ys.length)⟩
theorem walk_zipG {q1 q2 : Hp → List V → Prop} {xs ys : List V} {n : Nat} (hn : n = min xs.length ys.length) : Walk (ItG q1 q2) n (fun H => q1 H xs ∧ q2 H ys) (YPair (fun i => xs[i]?) (fun i => ys[i]?)) := by
  subst hn
  refine ⟨fun i H hi q => ⟨xs, ys, q.1, q.2, by omega, by omega⟩, fun H q => ⟨xs, ys, q.1, q.2, by omega, by omega, by omega⟩, fun i H v H' _ q y => ?_⟩
  obtain ⟨p, x, z, h1, h2, h3, h4, h5⟩ := y
  exact ⟨p, x, z, h1, h2, h3, h4 xs q.1, h5 ys q.2⟩
structure ZApart (k1 k2 : Zs) (z TI TO i1 i2 : Addr) : Prop where
  a1 : TI ≠ z
  a2 : TO ≠ z
  a3 : TI ≠ TO
  a4 : TI ≠ i1
  a5 : TI ≠ i2
  b1 : i1 ≠ z
  b2 : i1 ≠ TO
  b3 : i1 ≠ i2
  b4 : i2 ≠ z
  b5 : i2 ≠ TO
  c1 : ∀ b, k1.src b → b ≠ z ∧ b ≠ TO ∧ b ≠ i1 ∧ b ≠ i2
  c2 : ∀ b, k2.src b → b ≠ z ∧ b ≠ TO ∧ b ≠ i1 ∧ b ≠ i2
theorem ZApart.sep {k1 k2 : Zs} {z TI TO i1 i2 : Addr} (D : ZApart k1 k2 z TI TO i1 i2) {f1 f2 : List Addr} (m1 : i1 ∈ f1) (m2 : i2 ∈ f2) (h1 : ∀ b ∈ f1, b = i1 ∨ k1.src b) (h2 : ∀ b ∈ f2, b = i2 ∨ k2.src b) : PySem.ZipSep2 z TI TO i1 i2 f1 f2 :=
  ⟨D.a1, D.a2, D.a3, D.a4, m1, fun q => (h1 _ q).elim (fun e => D.b1 e.symm) fun e => (D.c1 _ e).1 rfl, fun q => (h1 _ q).elim (fun e => D.b2 e.symm) fun e => (D.c1 _ e).2.1 rfl, D.a5, m2, fun q => (h2 _ q).elim (fun e => D.b4 e.symm) fun e => (D.c2 _ e).1 rfl, fun q => (h2 _ q).elim (fun e => D.b5 e.symm) fun e => (D.c2 _ e).2.1 rfl,
    fun q => (h2 _ q).elim D.b3 fun e => (D.c2 _ e).2.2.1 rfl, fun q => (h1 _ q).elim (fun e => D.b3 e.symm) fun e => (D.c1 _ e).2.2.2 rfl⟩
theorem turn_zipG {P : Program} {w : World} {K : PySem.W.Frag} {elts : List Expr} {kk : Nat} {tpos : Pos} {k1 k2 : Zs} {z TI TO i1 i2 : Addr} (D : ZApart k1 k2 z TI TO i1 i2) :
    Turn P w K (.Tuple elts kk tpos) (ItG (k1.q K) (k2.q K)) [z, TI, TO, i1, i2] z (fun i h => IsZip h z TI TO .none ∧ IsPair h TI (.ref i1) (.ref i2) ∧ (∃ x y, IsPair h TO x y) ∧ k1.cell i1 i h ∧ k2.cell i2 i h) where
  mem := by simp
  obj := fun i h st c hc => by
    obtain ⟨hz, hTI, ⟨x, y, hTO⟩, e1, e2⟩ := st
    have hc : c = z ∨ c = TI ∨ c = TO ∨ c = i1 ∨ c = i2 := by simpa using hc
    rcases hc with q | q | q | q | q
    · subst q; exact ⟨_, hz, fun v => nofun⟩
    · subst q; exact ⟨_, hTI, fun v => nofun⟩
    · subst q; exact ⟨_, hTO, fun v => nofun⟩
    · subst q; exact Zs.cobj e1
    · subst q; exact Zs.cobj e2
  keep := fun i h h' st g => by
    obtain ⟨hz, hTI, ⟨x, y, hTO⟩, e1, e2⟩ := st
    exact ⟨g z (by simp) _ hz, g TI (by simp) _ hTI, ⟨x, y, g TO (by simp) _ hTO⟩, Zs.ckeep e1 fun o => g i1 (by simp) o, Zs.ckeep e2 fun o => g i2 (by simp) o⟩
  item := by
    intro X hP hw hK hc i pins s σ H E I hf st hg
    subst hP hw hK
    obtain ⟨hz, hTI, ⟨x0, y0, hTO⟩, e1, e2⟩ := st
    obtain ⟨xs, ys, q1, q2, l1, l2⟩ := hg
    obtain ⟨f1, S1, D1, s1, c1, m1, o1⟩ := Zs.draw I (I.ok.hd hc) (fun e => (D.c1 _ e).2.2.1 rfl) q1 e1
    obtain ⟨f2, S2, D2, s2, c2, m2, o2⟩ := Zs.draw I (I.ok.hd hc) (fun e => (D.c2 _ e).2.2.2 rfl) q2 e2
    have zlt : z < s.heap.objs.size := Heap.lt_size hz
    refine PySem.wpAny_pyNext_zipD2_item (D.sep m1 m2 o1 o2) D1 D2 hz hTI hTO s1 s2 l1 l2 fun x1 x2 h' tk p1 p2 hz' hTO' t1 t2 hT hsz hk => ?_
    obtain ⟨v1, g1, r1⟩ := p1
    obtain ⟨v2, g2, r2⟩ := p2
    refine ⟨_, rfl, wpAny_letOwnedTupleGo_zip (s := { s with heap := h', toks := tk }) hz' fun h'' z'' sb => ?_⟩
    have hT2 : h''.get? s.heap.objs.size = some { cls := .type "tuple", data := .seq #[x1, x2] } := (sb.2 _ (Nat.ne_of_gt zlt)).trans hT
    have fresh : ObjOk X.prog X.w (upd H s.heap.objs.size (.tup [v1, v2])) h'' s.heap.objs.size (.tup [v1, v2]) := ⟨by show 2 ≤ sizeLine; decide, [x1, x2], .cons r1 (.cons r2 .nil), ⟨_, hT2, rfl, _, rfl⟩⟩
    have J : Inv X pins σ (upd H s.heap.objs.size (.tup [v1, v2])) { s with heap := h'', toks := tk } :=
      I.turnedNew (t' := tk) (ch := [z, TI, TO, i1, i2]) (fun c o nc e => by
        simp only [List.mem_cons, List.not_mem_nil, or_false, not_or] at nc
        exact (sb.2 c nc.1).trans (hk c o nc.1 nc.2.2.1 nc.2.2.2.1 nc.2.2.2.2 e)) hf (Nat.le_refl _) fresh
    refine ⟨.ref s.heap.objs.size, _, J, rfl, ⟨_, v1, v2, rfl, I.hok.fresh (Nat.le_refl _), rfl, fun l hl => by rw [Zs.inj I hl q1]; exact g1, fun l hl => by rw [Zs.inj I hl q2]; exact g2⟩, ⟨z'', ?_, ⟨x1, x2, ?_⟩, ?_, ?_⟩, fun c hm => ?_⟩
    · exact (sb.2 _ D.a1).trans (hk _ _ D.a1 D.a3 D.a4 D.a5 hTI)
    · exact (sb.2 _ D.a2).trans hTO'
    · exact Zs.ckeep (c1 _ _ t1) fun o e => (sb.2 _ D.b1).trans e
    · exact Zs.ckeep (c2 _ _ t2) fun o e => (sb.2 _ D.b4).trans e
    · have lt : c < s.heap.objs.size := by
        have hm : c = z ∨ c = TI ∨ c = TO ∨ c = i1 ∨ c = i2 := by simpa using hm
        obtain ⟨u1, k1', _⟩ := Zs.cobj e1
        obtain ⟨u2, k2', _⟩ := Zs.cobj e2
        rcases hm with q | q | q | q | q
        · subst q; exact zlt
        · subst q; exact Heap.lt_size hTI
        · subst q; exact Heap.lt_size hTO
        · subst q; exact Heap.lt_size k1'
        · subst q; exact Heap.lt_size k2'
      rw [upd_ne (Nat.ne_of_lt lt)]
      exact (hf c hm).1
  done := by
    intro X hP hw hK hc i pins s σ H E I hf st hg
    subst hP hw hK
    obtain ⟨hz, hTI, ⟨x0, y0, hTO⟩, e1, e2⟩ := st
    obtain ⟨xs, ys, q1, q2, l1, l2, hend⟩ := hg
    obtain ⟨f1, S1, D1, s1, c1, m1, o1⟩ := Zs.draw I (I.ok.hd hc) (fun e => (D.c1 _ e).2.2.1 rfl) q1 e1
    obtain ⟨f2, S2, D2, s2, c2, m2, o2⟩ := Zs.draw I (I.ok.hd hc) (fun e => (D.c2 _ e).2.2.2 rfl) q2 e2
    exact PySem.wpAny_pyNext_zipD2_end (D.sep m1 m2 o1 o2) D1 D2 hz hTI hTO s1 s2 l1 l2 hend fun h' tk hk => ⟨rfl, I.turnedL (t' := tk) (ch := [z, TI, TO, i1, i2]) (fun c o nc e => by
      simp only [List.mem_cons, List.not_mem_nil, or_false, not_or] at nc
      exact hk c o nc.1 nc.2.2.1 nc.2.2.2.1 nc.2.2.2.2 e) hf⟩
  self := fun A i s Q E st h => wpAny_pyIter_zip st.1 h
def iZipG (K : PySem.W.Frag) (ta : TA) : TI := fun σ H R => ta σ H fun vs H1 => ∃ k1 k2 : Zs, ∃ xs ys, vs = [k1.v, k2.v] ∧ k1.q K H1 xs ∧ k2.q K H1 ys ∧ R (ItG (k1.q K) (k2.q K)) H1
theorem Zs.begin {k : Zs} {X : Cx} {pins : List (Addr × Obj)} {σ : L2.St} {H : Hp} {s : Shared} (I : Inv X pins σ H s) {xs : List V} {u : Value} (hq : k.q X.K H xs) (r : RelV k.v u) :
    ∃ (o : Obj) (B : Heap → Prop), Begins u o B ∧ B s.heap ∧ (∀ it h, h.get? it = some o → k.cell it 0 h) ∧ ∀ b, k.src b → b < s.heap.objs.size := by
  cases k with
  | l a =>
    obtain rfl : u = .ref a := r
    obtain ⟨its, rv, p, _⟩ := I.list (show SqL X.K H a xs from hq)
    exact ⟨_, _, begins_list a its.toArray, p.isList, fun it h e => ⟨_, e, rfl, rfl⟩, fun b hb => by rw [show b = a from hb]; exact p.lt⟩
  | t a =>
    obtain rfl : u = .ref a := r
    obtain ⟨its, rv, p, _⟩ := I.tuple (show SqT X.K H a xs from hq)
    obtain ⟨ob, hob, _⟩ := id p
    exact ⟨_, _, begins_tuple a its.toArray, p, fun it h e => ⟨_, e, rfl, rfl⟩, fun b hb => by rw [show b = a from hb]; exact Heap.lt_size hob⟩
  | s x =>
    obtain ⟨t, rfl⟩ := (show ∃ t, u = .str x t from r)
    exact ⟨_, _, begins_text x t, trivial, fun it h e => ⟨t, _, e, rfl, rfl⟩, fun b hb => hb.elim⟩
theorem pi_zipG {X : Cx} {e e2 : Expr} {ta : TA} {p pos tpos : Pos} {elts : List Expr} {kk : Nat} (hg : Gl X "zip") (hm : X.mg "zip" = none) (ha : PA X [e, e2] ta)
    (hs : starEach [e, e2] X.env = (false, eval e X.env) :: starEach [e2] X.env := by rfl) (hpl : (backTo pos (starEach [e2] X.env)).any (·.1) = false := by rfl) :
    PI X (.Tuple elts kk tpos) (.Call (.Name "zip" p) [e, e2] [] pos) (iZipG X.K ta) := by
  refine ⟨fun pins s σ H R I h => Call_ (ld_blt I hg hm PyProof.Rows.boot_zip (PyProof.Rows.callWith_type1 (thn (ha.run pos pins s σ H _ I h) fun us s1 hh => ?_) hs hpl))⟩
  obtain ⟨vs, H1, I1, r1, k1, k2, xs, ys, rfl, q1, q2, hR⟩ := hh
  cases r1 with
  | cons r rr =>
  cases rr with
  | cons r' rr =>
  cases rr
  obtain ⟨o1, B1, b1, t1, c1, s1'⟩ := Zs.begin I1 q1 r
  obtain ⟨o2, B2, b2, t2, c2, s2'⟩ := Zs.begin I1 q2 r'
  refine zip_begins2 b1 b2 t1 t2 fun h' hz hTI hTO g1 g2 hsz hk => wpAny_pyIter_zip hz ?_
  have I2 : Inv X pins σ H1 { s1 with heap := h' } := I1.kept (t' := s1.toks) hk
  generalize hn : s1.heap.objs.size = n at *
  refine ⟨n + 4, [n + 4, n + 2, n + 3, n, n + 1], _, _, H1, rfl, I2, turn_zipG (z := n + 4) (TI := n + 2) (TO := n + 3) (i1 := n) (i2 := n + 1) ⟨(by show (n + 2 : Nat) ≠ n + 4; omega), (by show (n + 3 : Nat) ≠ n + 4; omega), (by show (n + 2 : Nat) ≠ n + 3; omega), (by show (n + 2 : Nat) ≠ n; omega), (by show (n + 2 : Nat) ≠ n + 1; omega), (by show (n : Nat) ≠ n + 4; omega), (by show (n : Nat) ≠ n + 3; omega), (by show (n : Nat) ≠ n + 1; omega), (by show (n + 1 : Nat) ≠ n + 4; omega), (by show (n + 1 : Nat) ≠ n + 3; omega),
    fun b hb => ?_, fun b hb => ?_⟩, ⟨hz, hTI, ⟨_, _, hTO⟩, c1 _ _ g1, c2 _ _ g2⟩, fun c hcm => ?_, hR⟩
  · have lt : (b : Nat) < n := s1' b hb
    exact ⟨Nat.ne_of_lt (Nat.lt_of_lt_of_le lt (Nat.le_add_right n 4)), Nat.ne_of_lt (Nat.lt_of_lt_of_le lt (Nat.le_add_right n 3)), Nat.ne_of_lt lt, Nat.ne_of_lt (Nat.lt_succ_of_lt lt)⟩
  · have lt : (b : Nat) < n := s2' b hb
    exact ⟨Nat.ne_of_lt (Nat.lt_of_lt_of_le lt (Nat.le_add_right n 4)), Nat.ne_of_lt (Nat.lt_of_lt_of_le lt (Nat.le_add_right n 3)), Nat.ne_of_lt lt, Nat.ne_of_lt (Nat.lt_succ_of_lt lt)⟩
  · have hle : n ≤ c := by
      have q : c = n + 4 ∨ c = n + 2 ∨ c = n + 3 ∨ c = n ∨ c = n + 1 := by simpa using hcm
      rcases q with q | q | q | q | q
      · rw [q]; exact Nat.le_add_right n 4
      · rw [q]; exact Nat.le_add_right n 2
      · rw [q]; exact Nat.le_add_right n 3
      · rw [q]; exact Nat.le_refl n
      · rw [q]; exact Nat.le_add_right n 1
    exact I1.fpOk (by rw [hn]; exact hle) (I1.hok.fresh (by rw [hn]; exact hle))
end GX
set_option maxHeartbeats 2000000
/-! errors that carry fields: isinstance of them; super().__init__(..) in their making -/
namespace GX
open PySem PySem.Spec PySem.Calls PyProof.Rows L2 LamX
open PySem.W (Looks InstAt findObj findIn specialIn takesIn clsIn looks_findIn looks_find looks_subIn class_get KitX)
section
variable {prog : Program} {w : World} {A : Around} {E : Value → Shared → Prop} {s : Shared} {K : PySem.W.Frag} {x D : Addr} {ox : Obj} {od : Option Obj}
theorem excC_cls (c : ExcC K D) : ∃ cd, clsIn K D = some cd := by
  obtain ⟨cd, e, _⟩ := PySem.W.any_some c.hd
  exact ⟨cd, e⟩
theorem clsIn_at {cd : ClassData} (e : clsIn K D = some cd) : ∃ c' d' sl, K.lookup D = some ⟨c', d', .cls cd, sl⟩ := by
  unfold PySem.W.clsIn at e
  split at e
  · rename_i c' d' cd' sl' ho
    cases e
    exact ⟨_, _, _, ho⟩
  · cases e
theorem exc_clsObj (c : ExcC K D) : findObj K D od "__class__" = some (.bind (.builtin "getset_descriptor.__get__") (.builtin "object.__class__")) := by
  obtain ⟨cd, e⟩ := excC_cls c
  unfold PySem.W.findObj
  rw [e, Option.bind_some, c.ha, Option.bind_some]
  simp [c.hn, c.ht]
/-- e.__class__ of an error, whatever fields it carries -/
theorem exc_cls {Q : Option Value → Shared → Prop} (c : ExcC K D) (X : K.In s.heap) (J : InstAt s.heap x ox D od) (q : Q (some (.ref D)) { s with toks := s.toks + 1 }) : wpAny (model prog w) A (getAttr? (.ref x) "__class__") Q E s := by
  obtain ⟨hp, g, d, t, os⟩ := s
  have l0 := J.type (M := model prog w)
  have l1 := looks_findIn (M := model prog w) X c.hg
  have l2 := looks_findIn (M := model prog w) X c.hk
  have l3 := looks_find (M := model prog w) X J (exc_clsObj c)
  have lsub : Looks (model prog w) hp (isInstance (.ref x) (.type "BaseException")) true := l0.andThen (looks_subIn X c.hs)
  have nob : (Value.builtin "BaseException.__getattribute__" == Value.builtin "object.__getattribute__") = false := by decide +kernel
  unfold getAttr? getAttrBy? getAttrBy
  refine wpAny_bind (wpAny_mkText (wpAny_bind ?_))
  refine wpAny_attempt (wpAny_holding (wpAny_bind ?_))
  refine l0.at (wpAny_bind (l1.at ?_))
  show wpAny _ _ (if (onTheHeap (.ref D) && Value.builtin "BaseException.__getattribute__" == Value.builtin "object.__getattribute__") = true then _ else _) _ _ _
  rw [show (onTheHeap (.ref D) && Value.builtin "BaseException.__getattribute__" == Value.builtin "object.__getattribute__") = false by rw [nob]; rfl]
  rw [if_neg Bool.false_ne_true]
  unfold getAttrByItsOwn hookBefore
  refine wpAny_bind ?_
  rw [if_pos (show onTheHeap (.ref D) = true by rfl)]
  refine l2.at (wpAny_bind ?_)
  refine wpAny_attempt (wpAny_holding ?_)
  unfold callGetattribute
  rw [show (false && onTheHeap (Value.builtin "BaseException.__getattribute__")) = false by rfl]
  rw [if_neg Bool.false_ne_true]
  unfold boundAndCalled
  rw [PySem.F.excAttr_ValueError.ga.bind (.ref x)]
  refine wpAny_bind (wpAny_pure ?_)
  show wpAny (model prog w) A (call (.builtin "BaseException.__getattribute__") [.ref x, .str "__class__" t]) _ _ ⟨hp, g, d, t + 1, os⟩
  refine wpAny_call ?_
  refine codeAny_call_builtin PySem.F.excAttr_ValueError.ga.plain PySem.F.entry_bexc_ga ?_
  have args := PySem.F.args_bexc_ga (.ref x) (.str "__class__" t)
  refine @PySem.W.check_slot (model prog w) _ _ ⟨hp, g, d, t + 1, os⟩ "BaseException.__getattribute__"
    "BaseException" "__getattribute__" (.ref x) [.str "__class__" t] [] _ ?_ ?_ lsub args ?_
  · decide +kernel
  · decide +kernel
  unfold Builtin.«object.__getattribute__»
  refine wpAny_bind ?_
  refine wpAny_of_eq (a := ((Value.ref x : Value), [Value.str "__class__" t])) ?_ ?_
  · first | rfl | (simp only [slotArgs]; rfl)
  refine wpAny_bind (wpAny_pure (wpAny_bind ?_))
  refine l0.at (wpAny_bind (l3.at ?_))
  show wpAny (model prog w) _ (holding [Value.builtin "object.__class__"] (call (.builtin "getset_descriptor.__get__") [.builtin "object.__class__", .ref x, .ref D]) >>= ret) _ _ _
  refine wpAny_bind (wpAny_holding ?_)
  refine wpAny_call (class_get (s := ⟨hp, g, d, t + 1, os⟩) (ox := ox) (od := od) X J c.hm ?_)
  refine wpAny_pure ?_
  show wpAny _ _ (handedOut (.ref D)) _ _ _
  rw [PySem.W.handedOut_of (v := .ref D) rfl]
  first | exact wpAny_pure (wpAny_pure q) | exact wpAny_pure q | exact wpAny_pure (wpAny_bind (wpAny_pure (wpAny_pure q)))
theorem exc_kit (c : ExcC K D) : KitX K (.ref x) (.ref D) (fun h => InstAt h x ox D od) where
  ty := fun _ _ _ J => J.type
  it := fun _ _ X _ => by
    obtain ⟨cd, e⟩ := excC_cls c
    obtain ⟨c', d', sl, ho⟩ := clsIn_at e
    intro A' Q' E' s' k q
    unfold isType loadHead
    exact wpAny_bind (wpAny_loadPart (k _ _ (X _ _ ho)) (wpAny_pure q))
  ne := fun h tp dd its n sl X ht => by
    obtain ⟨cd, e⟩ := excC_cls c
    obtain ⟨c', d', sl', ho⟩ := clsIn_at e
    refine Bool.eq_false_iff.mpr fun q => ?_
    have e2 : D = tp := Value.ref.inj (beq_iff_eq.mp q)
    subst e2
    have z := (X _ _ ho).symm.trans ht
    cases z
  ca := fun X J k => exc_cls c X J k
end
/-- isinstance(e, c), e the error that the suite holds, its fields at dd -/
def rIsD (K : PySem.W.Frag) (D a dd : Addr) : List V → Hp → VK → Prop := fun xs H Q => ∃ (c : V) (cv : Value) (b : Bool) (fs : List (Str × V)), xs = [.ref a, c] ∧ (∀ u, RelV c u → u = cv) ∧ PySem.W.kitOne K (.ref D) cv = some b ∧ H dd = some (.xd fs) ∧ Q (.bl b) H
theorem call_isD {X : Cx} {a D dd : Addr} {oe : Obj} {pn : List (Addr × Obj)} (C : ExcC X.K D) (hz : Zc (.ref D) (some dd) oe) (hf : ∃ vs, oe.data = .fields vs) : CallR (X.suite a ((a, oe) :: pn)) (.builtin "isinstance") (rIsD X.K D a dd) := by
  intro pins s σ H xs us Q I r h
  obtain ⟨c, cv, b, fs, rfl, hcv, e, ed, q⟩ := h
  cases r with
  | cons rx rr =>
    cases rr with
    | cons rt rr =>
      cases rr
      cases rx
      have ec := hcv _ rt
      subst ec
      obtain ⟨ga, _⟩ := I.pin (a, oe) (List.mem_append.mpr (.inl List.mem_cons_self))
      obtain ⟨vs, hv⟩ := hf
      have hx : ObjOk X.prog X.w H s.heap dd (.xd fs) := I.hok dd _ ed
      obtain ⟨mA, hns, _⟩ := hx
      obtain ⟨od, ho, _⟩ := lookIn_ns hns
      have J : InstAt s.heap a oe D (some od) := by
        refine ⟨ga, hz.1, ?_, ?_⟩
        · unfold PySem.W.notCls; rw [hv] <;> rfl
        · rw [hz.2]; exact ho
      exact PySem.W.kia_one (exc_kit C) I.kIn J e (fun z => nomatch z) fun tk => ⟨.bl b, H, I.kept (t' := tk) fun _ _ z => z, rfl, q⟩
end GX
/-! BadText.__init__: super().__init__(a text), then a field -/
namespace GX
open PySem PySem.Spec PySem.Calls PyProof.Rows L2 LamX
open PySem.W (Looks InstAt findObj findIn specialIn takesIn clsIn looks_findIn looks_find looks_subIn class_get KitX fnX envX kxs_mw)
section
variable {prog : Program} {w : World} {A : Around} {E : Value → Shared → Prop} {h : Heap} {g : Array GenState} {d : Drawn} {t : Nat} {os : OsState}
variable {nm q : Str} {C N : Addr} {bs bm : List Value} {sn : List Str} {sub : List Value} {ab : Bool} {col : Option Bool} {dd : Option Addr} {k0 k1 k2 k3 k5 : Option Value}
/-- the built-in __init__ that super() bound, called -/
theorem call_mw {u x t0 : Addr} {rest : List Value} {Q : Value → Shared → Prop} (hC : h.get? C = some (excClassObj nm q C N bs bm true sn sub ab col dd k0 k1 k2 k3 k5 "ValueError.__new__"))
    (he : h.get? x = some (PySem.HandSPX.excO C t0)) (hu : h.get? u = some (kxs_mw "ValueError.__init__" x)) (hr : rest.length ≤ sizeLine)
    (hq : ∀ h' t1, (∀ b o, b ≠ x → h.get? b = some o → h'.get? b = some o) → h'.get? x = some (PySem.HandSPX.excO C t1) → Q .none ⟨h', g, d, t, os⟩) :
    wpAny (model prog w) A (call (.ref u) rest) Q E ⟨h, g, d, t, os⟩ := by
  have FB := PySem.F.excBase_ValueError
  refine wpAny_call (codeAny_of_tree ?_)
  show wpAny (model prog w) A.in1 (callAny (.ref u) ⟨rest, []⟩) _ _ ⟨h, g, d, t, os⟩
  unfold callAny
  refine wpAny_bind (wpAny_load hu ?_)
  simp only [kxs_mw]
  rw [show (Value.type "method-wrapper" == Value.type "method" || Value.type "method-wrapper" == Value.type "builtin_function_or_method" || Value.type "method-wrapper" == Value.type "method-wrapper") = true from by decide]
  simp only [if_true]
  refine PySem.W.KFB.if_so (by decide) ?_
  refine wpAny_bind (PySem.W.check_bound_init FB.toExcCallFacts hC he rfl ?_)
  refine wpAny_bind (wpAny_pure (wpAny_pure ⟨plainId_quiet FB.init.plain _, codeAny_builtin FB.initEntry ?_⟩))
  rw [Around.under_plainId FB.init.plain _]
  wp_walk
  refine hq _ h.objs.size (fun b o hb ho => ?_) ?_
  · rw [Heap.get?_update_other _ _ (Ne.symm hb)]
    exact Heap.get?_push_of_some _ ho
  · rw [Heap.get?_update_self _ (Heap.get?_push_of_some _ he) rfl]
    rfl
end

/-- what the written part says of an error's __init__ that calls super's -/
structure BtC (P : Program) (K : PySem.W.Frag) (mg : Str → Option Value) (D f : Addr) (fd : FuncData) (cc cda : Addr) : Prop where
  fn : ∃ (oc : Value) (od : Option Addr) (dV kV doc pm : Value) (an : Option Addr) (ct : Value) (osl : Array (Option Value)),
    fd = fnX "__init__" "BadText.__init__" (defArgs s_BtInit) (defBody s_BtInit) (defScope s_BtInit) [("__class__", cc)] dV kV doc pm an (.ref cda) ct ∧ K.lookup f = some ⟨oc, od, .func fd, osl⟩
  code : PySem.W.codeIn K (.ref cda) "BadText.__init__" = true
  file : ∃ (ccl : Value) (cdd : Option Addr) (vs : Array Value) (ccs : Array (Option Value)) (file : Str) (tf : Tok), K.lookup cda = some ⟨ccl, cdd, .fields vs, ccs⟩ ∧ vs[2]? = some (.str file tf) ∧ ((P.main.file : Str) == file) = true
  cell : ∃ (cl : Value) (cld : Option Addr) (csl : Array (Option Value)), K.lookup cc = some ⟨cl, cld, .cell (some (.ref D)), csl⟩
  cls : ∃ cd, clsIn K D = some cd
  sub : PySem.W.mroIn K D (.ref D) = some true
  sup : mg "super" = none
  top : (P.main.scope.names.lookup ("super" : Str)).isSome = false
  sin : PySem.W.ks_superIn K D D "__init__" = some (some (.builtin "ValueError.__init__"))
  isv : PySem.W.subIn K (.ref D) (.type "ValueError") = some true
  opq : PySem.W.nsIn K cStatics "thirdparty.any" = some none
  oex : OexC K D
  noat : findIn K (.ref D) "line" = some none
abbrev btN : List Str := ["self", "line"]
/-- BadText(line): the error has a dict of its own that holds line -/
def spBT (D : Addr) : Sp := fun vs H Q _ => ∃ (a : Addr) (n : Int), vs = [.ref a, .int n] ∧ n.natAbs.log2 < 1920 ∧ H a = some (exo a D none) ∧ ∀ dx, H dx = none → dx ≠ a → Q .non (upd (upd H dx (exd dx [("line", .int n)])) a (exo a D (some dx)))
def bCx (CX : CXT) (P : Program) (w : World) (K : PySem.W.Frag) (mg : Str → Option Value) (base : Heap) (f cda cc : Addr) (A : Around) (outer : List Env) (s : Shared) (H : Hp) (E : XK) : Cx where
  prog := P
  w := w
  K := K
  mg := mg
  base := base
  A := A.deeper (envX "BadText.__init__" (defScope s_BtInit) s.heap.objs.size f (.ref cda) [("__class__", cc)])
  N := btN
  s_0 := s
  H_0 := H
  env := envX "BadText.__init__" (defScope s_BtInit) s.heap.objs.size f (.ref cda) [("__class__", cc)]
  outer := outer
  stack := envX "BadText.__init__" (defScope s_BtInit) s.heap.objs.size f (.ref cda) [("__class__", cc)] :: outer
  ex := []
  fn := fun _ => false
  calm := true
  pn := []
  xe := fun e s' => wpAny (model P w) (A.deeper (envX "BadText.__init__" (defScope s_BtInit) s.heap.objs.size f (.ref cda) [("__class__", cc)])) (leaving (envX "BadText.__init__" (defScope s_BtInit) s.heap.objs.size f (.ref cda) [("__class__", cc)]) e)
    (fun _ s'' => CX outer H s E e s'') (fun e' s'' => CX outer H s E e' s'') s'
theorem bt_self : (defScope s_BtInit).names.lookup ("self" : Str) = some .local := by decide +kernel
theorem bt_line : (defScope s_BtInit).names.lookup ("line" : Str) = some .local := by decide +kernel
theorem bt_scope : ((defScope s_BtInit).names.all fun y => !decide (y.2 = .cell) && (!decide (y.2 = .free) || decide (y.1 = "__class__"))) = true := by decide +kernel
section
variable {P : Program} {w : World} {K : PySem.W.Frag} {mg : Str → Option Value} {base : Heap} {D f cc cda : Addr} {fd : FuncData} {CX : CXT}
theorem bt_inv (B : BtC P K mg D f fd cc cda) {A : Around} {outer : List Env} {s : Shared} {H : Hp} {E : XK} {a : Addr} {n : Int} {tn : Tok} {h₁ : Heap} {t : Nat} (hd : A.handled = none) (e0 : Env0 P w K mg base A outer s H)
    (hns : h₁.Ns s.heap.objs.size (fun x => ([("self", .ref a), ("line", .int n tn)] : List (Str × Value)).reverse.lookup x)) (kp : ∀ b o, s.heap.get? b = some o → h₁.get? b = some o) :
    Inv (bCx CX P w K mg base f cda cc A outer s H E) [] [some (.ref a), some (.int n)] H { s with heap := h₁, toks := t } := by
  obtain ⟨cl, cld, csl, hc⟩ := B.cell
  have hb : base.get? cc = some ⟨cl, cld, .cell (some (.ref D)), csl⟩ := e0.mod.kin _ _ hc
  have noA : ∀ b : Addr, b ∉ (bCx CX P w K mg base f cda cc A outer s H E).ex := fun b z => absurd (show b ∈ ([] : List Addr) from z) (by simp)
  have lk1 : ∀ {y c}, (([("__class__", cc)] : List (Str × Addr)).lookup y = some c) → y = "__class__" ∧ c = cc := fun {y c} e => by
    rw [List.lookup_cons] at e
    split at e
    · rename_i q
      exact ⟨eq_of_beq q, (Option.some.inj e).symm⟩
    · cases e
  refine ⟨⟨e0.mod, rfl, rfl, rfl, Nat.le_refl _, fun y z c q1 q2 => ?_, fun y hy => ?_, fun y c z _ => absurd (show false = true from z) Bool.false_ne_true, fun _ => hd, Around.frames_deeper e0.frames, .inr ⟨rfl, rfl⟩, fun b z => absurd z (noA b), e0.bs, e0.bsz, fun b _ _ => noA b,
      fun b z => absurd z (noA b), e0.funs, e0.frf⟩,
    rfl, e0.bare, Un.kept kp, ⟨_, hns, fun i y v q1 q2 q3 => ?_⟩, fun y c e => ?_, e0.hok.fresh (Nat.le_refl _), fun y c e => ?_, fun p hp => absurd (show p ∈ ([] : List (Addr × Obj)) from hp) (by simp), e0.hok.kept kp, rfl⟩
  · exact (lk1 q1).1.trans (lk1 q2).1.symm
  · have hy : (defScope s_BtInit).names.lookup y = some .cell ∨ (defScope s_BtInit).names.lookup y = some .free := hy
    have q := List.all_eq_true.mp bt_scope
    rcases hy with hy | hy
    · have z := q _ (PySem.mem_of_lookup hy)
      simp at z
    · have z := q _ (PySem.mem_of_lookup hy)
      simp at z
      rw [z]
      exact ⟨cc, rfl⟩
  · match i, q1, q2 with
    | 0, q1, q2 =>
      cases q1
      cases q2
      exact ⟨_, rfl, .inl ⟨bt_self, rfl⟩⟩
    | 1, q1, q2 =>
      cases q1
      cases q2
      exact ⟨_, ⟨tn, rfl⟩, .inl ⟨bt_line, rfl⟩⟩
  · obtain ⟨rfl, rfl⟩ := lk1 e
    exact ⟨_, _, kp _ _ (e0.bs _ _ hb).1, rfl⟩
  · obtain ⟨rfl, rfl⟩ := lk1 e
    exact (e0.bs _ _ hb).2
end
end GX
set_option maxHeartbeats 4000000
/-! BadText.__init__ keeps its promise -/
namespace GX
open PySem PySem.Spec PySem.Calls PyProof.Rows L2 LamX
open PySem.W (Looks InstAt findObj findIn specialIn takesIn clsIn looks_findIn looks_find looks_subIn class_get KitX fnX envX kxs_mw)
section
variable {P : Program} {w : World} {K : PySem.W.Frag} {mg : Str → Option Value} {base : Heap} {D f cc cda : Addr} {fd : FuncData} {CX : CXT} {k : Nat}
theorem bt_fits {n : Int} (hn : n.natAbs.log2 < 1920) : (("row " : Str) ++ (toString n : String)).length ≤ sizeLine ∧ (("row " : Str) ++ (toString n : String) ++ (" can't be read" : Str)).length ≤ sizeLine := by
  have e := int_text_length_le (k := 1920) (by decide) hn
  have e2 := PySem.ofString_length (toString n)
  have l1 : ("row " : Str).length = 4 := by decide +kernel
  have l2 : (" can't be read" : Str).length = 14 := by decide +kernel
  have ap : ∀ x y : Str, (x ++ y).length = x.length + y.length := fun x y => by rw [TL.len_tl, TL.tl_append, List.length_append, ← TL.len_tl, ← TL.len_tl]
  rw [ap, ap, ap, l1, l2, sizeLine_eq]
  omega
theorem bt_super : (defScope s_BtInit).names.lookup ("super" : Str) = some .globalImplicit := by decide +kernel
theorem bt_class : (defScope s_BtInit).names.lookup ("__class__" : Str) = some .free := by decide +kernel
theorem ok_btinit (B : BtC P K mg D f fd cc cda) : FnOk P w K mg base CX (k + 1) f fd btN (spBT D) := by
  refine ⟨fun vs H Q E h => by obtain ⟨a, n, rfl, _⟩ := h; rfl, fun A outer s H args us vs Q E hr e0 hb r hsp => ?_⟩
  obtain ⟨a, n, rfl, hn, ha, kk⟩ := hsp
  cases r with
  | cons r0 r =>
  rename_i u0 us
  cases r with
  | cons r1 r =>
  rename_i u1 us
  cases r
  obtain rfl : u0 = .ref a := r0
  obtain ⟨tn, rfl⟩ := r1
  obtain ⟨oc, od, dV, kV, doc, pm, an, ct, osl, rfl, lk⟩ := B.fn
  have KX : K.In s.heap := e0.mod.kin.keeps fun b o e => (e0.bs b o e).1
  have lim : s.heap.NoLimit := e0.mod.nolimit.keeps fun b o e => (e0.bs b o e).1
  obtain ⟨ccl, cdd, vs, ccs, file, tf, lc, hvs, hfile⟩ := B.file
  obtain ⟨cl, cld, csl, lcell⟩ := B.cell
  obtain ⟨cd, hcd⟩ := B.cls
  obtain ⟨c', d', sl, lD⟩ := clsIn_at hcd
  obtain ⟨nm, qq, N, bs, bm, sn, sub, ab, col, dd, k0, k1, k2, k3, k5, hC, hbm⟩ := B.oex.cls
  refine ks_codeAny_call_defAt (binds := [("self", .ref a), ("line", .int n tn)]) (body := defBody s_BtInit) hr.depth (KX _ _ lk) rfl lim (PySem.W.codeRec_of KX B.code) rfl hb (fun y hy => ?_) (fun y hy => ?_) (fun h₁ hns kp => ?_)
  · have q := List.all_eq_true.mp bt_scope y hy
    intro z
    rw [z] at q
    simp at q
  · rcases List.mem_cons.mp hy with e | hy
    · rw [e]; exact bt_self
    · rw [List.mem_singleton.mp hy]; exact bt_line
  have J : Inv (bCx CX P w K mg base f cda cc A outer s H E) [] [some (.ref a), some (.int n)] H { s with heap := h₁, toks := s.toks + 2 } := bt_inv B hr.hd e0 hns kp
  obtain ⟨hp, g, d, t, os⟩ := s
  have KX1 : K.In h₁ := KX.keeps kp
  show _root_.PySem.wpAt (model P w) (A.deeper (envX "BadText.__init__" (defScope s_BtInit) hp.objs.size f (.ref cda) [("__class__", cc)])) (.func (defBody s_BtInit) (envX "BadText.__init__" (defScope s_BtInit) hp.objs.size f (.ref cda) [("__class__", cc)])) (execs (defBody s_BtInit) (envX "BadText.__init__" (defScope s_BtInit) hp.objs.size f (.ref cda) [("__class__", cc)])) _ (bCx CX P w K mg base f cda cc A outer ⟨hp, g, d, t, os⟩ H E).xe ⟨h₁, g, d, t + 2, os⟩
  refine ks_wpAt_execs_cons (ks_wpAt_Expr_any (ks_wpAt_MethodCall ?_))
  refine ks_wpAt_super_base bt_super bt_class (by decide) rfl (KX1 _ _ lk) rfl rfl rfl (KX1 _ _ lc) rfl hvs hfile B.top ?_
  refine PySem.W.ks_loadName_global rfl bt_super ?_
  obtain ⟨mb, hb1, hb2⟩ := J.mod.blt
  refine loadGlobal_builtin (J.mod.glob.keeps J.bk) B.sup (hb1.keeps J.bk) ((hb2 _ (by decide)).trans (by decide +kernel : bootBuiltins "super" = some (.type "super"))) ⟨rfl, ?_⟩
  refine wpAny_loadName_free rfl bt_class rfl ⟨_, KX1 _ _ lcell, rfl⟩ ?_
  refine wpAny_loadName_local rfl bt_self hns rfl ?_
  refine ks_wpAny_isType_cls (KX1 _ _ lD) rfl ⟨rfl, ?_⟩
  obtain ⟨t0, ho⟩ := exo_at J.hok ha
  refine ks_wpAny_call_super (KX1 _ _ lD) rfl ho rfl (fun c z => by cases z) (PySem.W.looks_mroIn KX1 B.sub) (fun h2 e2 kp2 => ?_)
  have J2 := J.kept (t' := t + 2) (h' := h2) kp2
  have KX2 : K.In h2 := KX1.keeps kp2
  have hin : Looks (model P w) h2 (isInstance (.ref a) (.type "ValueError")) true := (InstAt.type (ox := PySem.HandSPX.excO D t0) (od := none) ⟨kp2 _ _ ho, rfl, rfl, trivial⟩).andThen (looks_subIn KX2 B.isv)
  have hmro : Looks (model P w) h2 (mroOf (.ref D)) cd.mro := (PySem.W.looks_clsIn KX2 hcd).andThen .now
  have hsin : PySem.W.alongIn K "__init__" ((cd.mro.dropWhile (· != .ref D)).drop 1) = some (some (.builtin "ValueError.__init__")) := by
    have z := B.sin
    unfold PySem.W.ks_superIn at z
    rw [hcd] at z
    exact z
  have naD : a ≠ D := fun z => by
    have q := kp2 _ _ ho
    rw [z, KX2 _ _ lD] at q
    cases q
  refine PySem.W.kxs_getMethod PySem.W.kxs_ValueError e2 (PySem.W.looks_opaque KX2 B.opq) hmro rfl KX2 hsin hin naD (by decide) ?_
  have kp3 : ∀ b o, h2.get? b = some o → (h2.push (kxs_mw "ValueError.__init__" a)).get? b = some o := fun b o e => Heap.get?_push_of_some _ e
  have J3 := J2.kept (t' := t + 3) (h' := h2.push (kxs_mw "ValueError.__init__" a)) kp3
  obtain ⟨q1, q2, q3, q4, q5⟩ := fresh_facts J2 (f := h2.objs.size) (Nat.le_refl _)
  have J4 : Inv (bCx CX P w K mg base f cda cc A outer ⟨hp, g, d, t, os⟩ H E) [(h2.objs.size, kxs_mw "ValueError.__init__" a)] [some (.ref a), some (.int n)] H ⟨h2.push (kxs_mw "ValueError.__init__" a), g, d, t + 3, os⟩ := J3.pins_of fun p hp => by
    rw [List.mem_singleton.mp hp]
    exact ⟨Heap.get?_push_size _ rfl, q1, q3, J2.nofs (Nat.le_refl _), fun v z => by cases z⟩
  refine PySem.W.kxs_callWith (i := "ValueError.__init__") (x := a) rfl ?_
  refine evalArgs_plain ?_
  refine thn (PA.run (X := bCx CX P w K mg base f cda cc A outer ⟨hp, g, d, t, os⟩ H E) (pa_cons (pe_joined (.cons pe_str (.cons (pe_fmt (pv 1 rfl (.inl bt_line))) (.cons pe_str .nil)))) pa_nil) _ [(h2.objs.size, kxs_mw "ValueError.__init__" a)] _ [some (.ref a), some (.int n)] H (fun vs H1 => (∃ m, vs = [.str m]) ∧ H1 = H) J4 ?_) fun us s1 hh => ?_
  · exact ⟨_, rfl, by decide +kernel, .int n, rfl, .inr ⟨n, rfl, hn, _, rfl, (bt_fits hn).1, _, rfl, (bt_fits hn).2, ⟨_, rfl⟩, rfl⟩⟩
  obtain ⟨vs1, H1, J5, r5, ⟨m, rfl⟩, rfl⟩ := hh
  have pin := J5.pin (h2.objs.size, kxs_mw "ValueError.__init__" a) (by simp)
  refine ⟨pin.1, ?_⟩
  obtain ⟨t1, ho1⟩ := exo_at J5.hok ha
  obtain ⟨h5, g5, d5, tk5, os5⟩ := s1
  refine call_mw (J5.kIn _ _ hC) ho1 pin.1 (by show us.length ≤ sizeLine; rw [← r5.length, sizeLine_eq]; exact (by decide : 1 ≤ 16777216)) (fun h6 t6 kp6 ho6 => ?_)
  have J6 := J5.write (t' := tk5) (h' := h6) (x := a) (e := a) (o := exo a D none) (by rw [ha]; exact True.intro) (.inl rfl) kp6 ⟨_, ho6⟩ (exo_ok ho6)
  have eu : upd H1 a (exo a D none) = H1 := by
    funext b
    by_cases hb : b = a
    · rw [hb, upd_same, ha]
    · rw [upd_ne hb]
  rw [eu] at J6
  refine wpAt_of_wpAny ?_
  refine wpAny_mono (PSs.run (X := bCx CX P w K mg base f cda cc A outer ⟨hp, g, d, t, os⟩ H1 E) (pss_one (ps_ost (pv 0 rfl (.inl bt_self)) (pv 1 rfl (.inl bt_line)))) [] _ [some (.ref a), some (.int n)] H1 { nx := fun _ H' => Q .non H', rt := Q } (J6.pins_of fun p hp => absurd hp (by simp)) ?_) (fun fl s' hs => ?_) fun e s' hs => hs
  · exact ⟨.int n, rfl, .ref a, rfl, a, D, rfl, B.oex, B.noat, .inl ⟨ha, fun dx q1 q2 => kk dx q1 q2⟩⟩
  · cases fl with
    | ret u =>
      obtain ⟨v, σ', H', J', rv, q⟩ := hs
      exact ⟨v, H', J'.os, J'.bare, J'.base, J'.hok, rv, q⟩
    | next =>
      obtain ⟨σ', H', J', q⟩ := hs
      exact ⟨.non, H', J'.os, J'.bare, J'.base, J'.hok, rfl, q⟩
    | brk =>
      obtain ⟨_, _, _, q⟩ := hs
      exact False.elim q
    | cont =>
      obtain ⟨_, _, _, q⟩ := hs
      exact False.elim q
end
end GX
set_option maxHeartbeats 2000000
namespace GX
open PySem PySem.Spec PyProof.Rows L2 LamX
section
variable {P : Program} {w : World} {K : PySem.W.Frag} {mg : Str → Option Value} {base : Heap} {T : List (Addr × Str)} {cE : Addr} {cs : Fin 9 → Addr}
theorem sc_told : FnScope ["_law_work", "e", "_law_kinds", "_law_words", "_law_word"] ["_law_work"] (defScope s_told) := ⟨rfl, rfl, rfl, by decide +kernel, rfl, by decide +kernel, by decide +kernel⟩
def suiteOf (st : Stmt) : List Stmt := match defBody st with
  | [.Try _ [.ExceptHandler _ _ su _] _ _ _] => su
  | _ => []
abbrev toldN : List Str := ["_law_work", "e", "_law_kinds", "_law_words", "_law_word"]
theorem t_isE {C a : Addr} {σ : L2.St} {H : Hp} {Q : VK} {i : Fin 9} (j : Fin 9) (hσ : σ[1]? = some (some (.ref a))) (hC : EIs K cE cs i C) (q : Q (.bl (decide (j = i))) H) : tCB (rIsE K C a) (tCons (tVar 1) (tCons (tC (.ref (cs j))) tNil)) σ H Q :=
  ⟨_, hσ, .ref (cs j), .ref (cs j), _, rfl, fun u r => r, hC.is_ j, q⟩
def kinds (i : Fin 9) : List V := [.bl (decide ((0 : Fin 9) = i)), .bl (decide ((1 : Fin 9) = i)), .bl (decide ((2 : Fin 9) = i)), .bl (decide ((3 : Fin 9) = i)), .bl (decide ((4 : Fin 9) = i)), .bl (decide ((5 : Fin 9) = i)), .bl (decide ((6 : Fin 9) = i)), .bl (decide ((7 : Fin 9) = i)), .bl (decide ((8 : Fin 9) = i))]
def wordsV : List V := [.str "BadCount", .str "BadDisk", .str "BadPage", .str "BadRow", .str "BadText", .str "Full", .str "NoPage", .str "NoRow", .str "Stopped"]
theorem kinds_flat : ∀ i : Fin 9, (kinds i).all flatV = true := by decide +kernel
theorem kinds_count : ∀ i : Fin 9, ((kinds i).countP fun z => eqV z (.bl true)) = 1 := by decide +kernel
theorem kinds_at : ∀ i : Fin 9, (kinds i)[i.1]? = some (.bl true) := by decide +kernel
theorem kinds_no0 : ∀ i m : Fin 9, m.1 < i.1 → (((kinds i)[m.1]?).all fun z => !eqV z (.bl true)) = true := by decide +kernel
theorem kinds_no (i : Fin 9) (m : Nat) (z : V) (h : m < i.1) (e : (kinds i)[m]? = some z) : eqV z (.bl true) = false := by
  have q := kinds_no0 i ⟨m, by omega⟩ h
  rw [show (kinds i)[(⟨m, by omega⟩ : Fin 9).1]? = some z from e] at q
  simpa using q
theorem words_at : ∀ i : Fin 9, wordsV[i.1]? = some (.str (wordsE.getD i.1 "")) := by decide +kernel
theorem words_no : ∀ i : Fin 9, i.1 ≠ 4 → decide (V.str (wordsE.getD i.1 "") = V.str "BadText") = false := by decide +kernel
/-- the suite of _law_told's except clause, by what it comes to -/
def tToldS (K : PySem.W.Frag) (T : List (Addr × Str)) (cE : Addr) (cs : Fin 9 → Addr) (a : Addr) (cls : Value) (d : Option Addr) : TS := fun D σ H => ∃ (i : Fin 9) (C : Addr) (g : Option V) (b2 b3 b4 : Option V), cls = .ref C ∧ d = none ∧ i.1 ≠ 4 ∧ EIs K cE cs i C ∧ σ = [g, some (.ref a), b2, b3, b4] ∧ H a = none ∧ ∀ H' v, XX T H H' → Dp K H' v (toldD i) → D.rt v H'
theorem told_suite {f : Addr} {cdv : Value} {A : Around} {outer : List Env} {s : Shared} {H : Hp} {E : XK} {a : Addr} {oe : Obj} {pn : List (Addr × Obj)} {cls : Value} {d : Option Addr} (B : Blt mg) (bv : mg "ValueError" = none) (G : ETab mg cE cs) (hz : Zc cls d oe) (hf : ∃ vs, oe.data = .fields vs) :
    PSs ((cxOf CX0 P w K mg base toldN "_law_told" (defScope s_told) f cdv A outer s H E).nox.suite a ((a, oe) :: pn)) (suiteOf s_told) (tToldS K T cE cs a cls d) := by
  have nd := sc_told.nd
  refine ⟨fun pins s σ H D I h => ?_⟩
  obtain ⟨i, C, g, b2, b3, b4, rfl, rfl, hn4, hC, rfl, ha, k⟩ := h
  refine PSs.run (
      pss_cons (ps_set (i := 2) nd rfl (Or.inl rfl) (pe_lst (pa_cons (pe_callB (call_isE hC.ex hz hf) (by rfl) B.isi k_isi (pa_cons (pv 1) (pa_cons (pe_glob (by rfl) G.g0 (v := .ref (cs 0)) rfl) pa_nil)))
        (pa_cons (pe_callB (call_isE hC.ex hz hf) (by rfl) B.isi k_isi (pa_cons (pv 1) (pa_cons (pe_glob (by rfl) G.g1 (v := .ref (cs 1)) rfl) pa_nil)))
        (pa_cons (pe_callB (call_isE hC.ex hz hf) (by rfl) B.isi k_isi (pa_cons (pv 1) (pa_cons (pe_glob (by rfl) G.g2 (v := .ref (cs 2)) rfl) pa_nil)))
        (pa_cons (pe_callB (call_isE hC.ex hz hf) (by rfl) B.isi k_isi (pa_cons (pv 1) (pa_cons (pe_glob (by rfl) G.g3 (v := .ref (cs 3)) rfl) pa_nil))) pa_nil))))))
      (pss_cons (ps_set (i := 2) nd rfl (Or.inl rfl) (pe_op op_cat (pv 2) (pe_lst (pa_cons (pe_callB (call_isE hC.ex hz hf) (by rfl) B.isi k_isi (pa_cons (pv 1) (pa_cons (pe_glob (by rfl) G.g4 (v := .ref (cs 4)) rfl) pa_nil)))
        (pa_cons (pe_callB (call_isE hC.ex hz hf) (by rfl) B.isi k_isi (pa_cons (pv 1) (pa_cons (pe_glob (by rfl) G.g5 (v := .ref (cs 5)) rfl) pa_nil)))
        (pa_cons (pe_callB (call_isE hC.ex hz hf) (by rfl) B.isi k_isi (pa_cons (pv 1) (pa_cons (pe_glob (by rfl) G.g6 (v := .ref (cs 6)) rfl) pa_nil)))
        (pa_cons (pe_callB (call_isE hC.ex hz hf) (by rfl) B.isi k_isi (pa_cons (pv 1) (pa_cons (pe_glob (by rfl) G.g7 (v := .ref (cs 7)) rfl) pa_nil))) pa_nil)))))))
      (pss_cons (ps_expr (pe_bm PySem.F.plainAttrs_list PySem.F.slot_list_append PySem.F.type_list_append mt_append (pv 2) (pa_cons (pe_callB (call_isE hC.ex hz hf) (by rfl) B.isi k_isi (pa_cons (pv 1) (pa_cons (pe_glob (by rfl) G.g8 (v := .ref (cs 8)) rfl) pa_nil))) pa_nil)))
      (pss_cons (ps_if (PW.pt (pw_or (pt_cmpR op_ne (pe_bm PySem.F.plainAttrs_list PySem.F.slot_list_count PySem.F.type_list_count mt_fcount (pv 2) (pa_cons pe_bl pa_nil)) pe_int (nomark _)) (pw_or1 (pt_not (pt_val (pe_callB (call_isE hC.ex hz hf) (by rfl) B.isi k_isi (pa_cons (pv 1) (pa_cons (pe_bltn (v := .ty "ValueError") (by rfl) bv (by decide +kernel) rfl) pa_nil))))))))
        (pss_one (ps_ret (pe_tup (pa_cons pe_str (pa_cons pe_int pa_nil))))) pss_nil)
      (pss_cons (ps_set (i := 3) nd rfl (Or.inl rfl) (pe_lst (pa_cons pe_str (pa_cons pe_str (pa_cons pe_str (pa_cons pe_str (pa_cons pe_str (pa_cons pe_str (pa_cons pe_str (pa_cons pe_str (pa_cons pe_str pa_nil)))))))))))
      (pss_cons (ps_set (i := 4) nd rfl (Or.inl rfl) (pe_ix ix_list (pv 3) (pe_bm PySem.F.plainAttrs_list PySem.F.slot_list_index PySem.F.type_list_index mt_index (pv 2) (pa_cons pe_bl pa_nil)) (fun _ _ => rfl)))
      (pss_one (ps_ret (pe_tup (pa_cons (pv 4) (pa_cons (pe_ifExp (pt_cmpR op_eq (pv 4) pe_str (nomark _)) pe_no pe_int) pa_nil))))))))))) pins s _ H D I ?_
  refine t_isE 0 rfl hC (t_isE 1 rfl hC (t_isE 2 rfl hC (t_isE 3 rfl hC ⟨(by show 4 ≤ sizeLine; decide), fun p1 h1 => ?_⟩)))
  refine ⟨_, rfl, t_isE 4 rfl hC (t_isE 5 rfl hC (t_isE 6 rfl hC (t_isE 7 rfl hC ⟨(by show 4 ≤ sizeLine; decide), fun p2 h2 => ?_⟩)))⟩
  have n12 : p1 ≠ p2 := fun z => by rw [← z, upd_same] at h2; cases h2
  refine ⟨p1, p2, _, _, rfl, rfl, (by rw [upd_ne n12]; exact upd_same), upd_same, (by show 8 ≤ sizeLine; decide), fun p3 h3 => ?_⟩
  refine ⟨_, rfl, .inl ⟨rfl, _, SqL.of upd_same⟩, t_isE 8 rfl hC ⟨p3, _, _, rfl, rfl, upd_same, (by show 8 < sizeLine; decide), ?_⟩⟩
  rw [upd_upd]
  have x1 := (((XX.new (T := T) h1).then_new h2).then_new (o := .lst (kinds i)) h3)
  refine ⟨_, rfl, .inl ⟨rfl, _, SqL.of upd_same⟩, p3, kinds i, .bl true, rfl, rfl, SqL.of upd_same, rfl, kinds_flat i, rfl, _, rfl, ?_⟩
  rw [kinds_count i, show (!decide (V.int ((1 : Nat) : Int) = V.int 1)) = false by decide]
  refine iteF ⟨_, rfl, .ty "ValueError", .type "ValueError", true, rfl, fun u r => r, hC.ve, _, rfl, iteF ?_⟩
  refine ⟨(by show 9 ≤ sizeLine; decide), fun p4 h4 => ?_⟩
  have x2 := x1.then_new (o := .lst wordsV) h4
  have n34 : p3 ≠ p4 := fun z => by rw [← z, upd_same] at h4; cases h4
  have g3 : ∀ {o : HO}, upd (upd (upd (upd H p1 (.lst [.bl (decide ((0 : Fin 9) = i)), .bl (decide ((1 : Fin 9) = i)), .bl (decide ((2 : Fin 9) = i)), .bl (decide ((3 : Fin 9) = i))])) p2 (.lst [.bl (decide ((4 : Fin 9) = i)), .bl (decide ((5 : Fin 9) = i)), .bl (decide ((6 : Fin 9) = i)), .bl (decide ((7 : Fin 9) = i))])) p3 (.lst (kinds i))) p4 o p3 = some (.lst (kinds i)) := fun {o} => by rw [upd_ne n34, upd_same]
  refine ⟨_, rfl, _, rfl, .inl ⟨rfl, _, SqL.of g3⟩, p3, kinds i, .bl true, i.1, .bl true, rfl, rfl, SqL.of g3, rfl, kinds_flat i, kinds_at i, rfl, kinds_no i, ?_⟩
  refine ⟨p4, wordsV, _, .str (wordsE.getD i.1 ""), rfl, rfl, SqL.of upd_same, atI_nat (words_at i), ?_⟩
  refine ⟨_, rfl, _, rfl, rfl, _, rfl, ?_⟩
  rw [words_no i hn4]
  refine iteF ⟨(by show 2 ≤ sizeLine; decide), fun p5 h5 => ?_⟩
  exact k _ _ (x2.then_new h5) (.tup (SqT.of upd_same) (.cons (.str _) (.cons (.int _) .nil)))
theorem ok_told {f : Addr} {fd : FuncData} {k : Nat} (F : Fun K "_law_told" "_law_told" s_told f fd) (B : Blt mg) (bv : mg "ValueError" = none) (G : ETab mg cE cs) : FnOk P w K mg base CX0 (k + 1) f fd ["_law_work"] (spTold P w K mg base T cE cs k) := by
  refine F.ok sc_told (fun vs H Q E h => by obtain ⟨g, ph, sp, rfl, _⟩ := h; rfl) (fun cdv A outer s H vs Q E hr h => ?_)
  obtain ⟨g, ph, sp, rfl, hf, hc, hph, h⟩ := h
  have nd := sc_told.nd
  refine ⟨_, pss_one (ps_try_as (X := (cxOf CX0 P w K mg base toldN "_law_told" (defScope s_told) f cdv A outer s H E).nox) (i := 1) (tb := fun W => tRet (tActS P w K mg base k 0 (WE W))) rfl rfl nd rfl rfl (x := "PageError") (c := .ref cE) ⟨rfl, by decide, .inl G.gE⟩ L2.takes0 (fun W pn xe tk _ => pss_one (ps_ret (pe_act0S (i := 0) hr (passAt tk) rfl (.inl rfl))))
    (fun a oe cls d pn hz hfl => told_suite (T := T) B bv G hz hfl)), ?_⟩
  refine ⟨g, ph, sp, rfl, hf, hc, hph, h _ fun H1 i C h4 hC k => ⟨true, hC.top, fun _ a ha => ?_, fun z => Bool.noConfusion z⟩⟩
  exact ⟨i, C, _, _, _, _, rfl, rfl, h4, hC, rfl, ha, k⟩
end
end GX
set_option maxHeartbeats 4000000
/-! BadText raised, and told -/
namespace GX
open PySem PySem.Spec PyProof.Rows L2 LamX
abbrev lnF (n : Int) : List (Str × V) := [("line", .int n)]
/-- BadText(n), made -/
theorem bt_made {D : Addr} {n : Int} {H1 : Hp} {Q : XK} (hn : n.natAbs.log2 < 1920) (h : ∀ d, H1 d = none → Q (.ref D) (some d) (upd H1 d (.xd (lnF n)))) :
    [V.int n].length ≤ 1000 ∧ ∀ a, H1 a = none → spBT D (.ref a :: ([V.int n] ++ [])) (upd H1 a (exo a D none))
      (fun v H2 => v = .non ∧ ∃ (d : Addr) (fs : List (Str × V)), H2 a = some (exo a D (some d)) ∧ H2 d = some (exd d fs) ∧ H1 d = none ∧ Q (.ref D) (some d) (upd (del H2 a) d (.xd fs))) (fun _ _ _ => False) := by
  refine ⟨(by show 1 ≤ 1000; decide), fun a na => ⟨a, n, rfl, hn, upd_same, fun dx ndx ne => ⟨rfl, dx, lnF n, upd_same, ?_, ?_, ?_⟩⟩⟩
  · rw [upd_ne ne, upd_same]
  · rw [upd_ne ne] at ndx; exact ndx
  · have n1 : H1 dx = none := by rw [upd_ne ne] at ndx; exact ndx
    have e : upd (del (upd (upd (upd H1 a (exo a D none)) dx (exd dx (lnF n))) a (exo a D (some dx))) a) dx (.xd (lnF n)) = upd H1 dx (.xd (lnF n)) := by
      funext b
      by_cases h1 : b = dx
      · rw [h1, upd_same, upd_same]
      · rw [upd_ne h1, upd_ne h1]
        by_cases h2 : b = a
        · rw [h2, del_same, na]
        · rw [del_ne h2, upd_ne h2, upd_ne h1, upd_ne h2]
    rw [e]
    exact h dx n1
/-- the class BadText -/
structure EBt (K : PySem.W.Frag) (cE : Addr) (cs : Fin 9 → Addr) (D : Addr) : Prop where
  i : EIs K cE cs 4 D
  xf : XfC K D
  no : PySem.W.findIn K (.ref D) "line" = some none
def toldB (n : Int) : PyData := .tuple [.str "BadText", .int n]
/-- _law_told: what the callee tells, or the line of its BadText -/
def spToldB (P : Program) (w : World) (K : PySem.W.Frag) (mg : Str → Option Value) (base : Heap) (T : List (Addr × Str)) (cE : Addr) (cs : Fin 9 → Addr) (k : Nat) : Sp := fun vs H Q _ => ∃ f ph sp, vs = [.ref f] ∧ FnObj H f ∧ CallOk P w K mg base k f ph sp ∧ ph H ∧
  ∀ E : XK, (∀ H1 D n d, EBt K cE cs D → H1 d = some (.xd (lnF n)) → (∀ H' v, XX T H1 H' → Dp K H' v (toldB n) → Q v H') → E (.ref D) (some d) H1) → sp H Q E
section
variable {P : Program} {w : World} {K : PySem.W.Frag} {mg : Str → Option Value} {base : Heap} {T : List (Addr × Str)} {cE : Addr} {cs : Fin 9 → Addr}
theorem t_isD {C a dd : Addr} {σ : L2.St} {H : Hp} {Q : VK} {n : Int} (j : Fin 9) (hσ : σ[1]? = some (some (.ref a))) (hC : EIs K cE cs 4 C) (hd : H dd = some (.xd (lnF n))) (q : Q (.bl (decide (j = 4))) H) : tCB (rIsD K C a dd) (tCons (tVar 1) (tCons (tC (.ref (cs j))) tNil)) σ H Q :=
  ⟨_, hσ, .ref (cs j), .ref (cs j), _, _, rfl, fun u r => r, hC.is_ j, hd, q⟩
/-- the suite of _law_told's except clause, of BadText -/
def tToldB (K : PySem.W.Frag) (T : List (Addr × Str)) (cE : Addr) (cs : Fin 9 → Addr) (a : Addr) (cls : Value) (d : Option Addr) : TS := fun D σ H => ∃ (C dd : Addr) (n : Int) (g : Option V) (b2 b3 b4 : Option V), cls = .ref C ∧ d = some dd ∧ EBt K cE cs C ∧ σ = [g, some (.ref a), b2, b3, b4] ∧ H a = none ∧ H dd = some (.xd (lnF n)) ∧ ∀ H' v, XX T H H' → Dp K H' v (toldB n) → D.rt v H'
theorem told_suiteB {f : Addr} {cdv : Value} {A : Around} {outer : List Env} {s : Shared} {H : Hp} {E : XK} {a : Addr} {oe : Obj} {pn : List (Addr × Obj)} {cls : Value} {d : Option Addr} (B : Blt mg) (bv : mg "ValueError" = none) (G : ETab mg cE cs) (hz : Zc cls d oe) (hf : ∃ vs, oe.data = .fields vs) :
    PSs ((cxOf CX0 P w K mg base toldN "_law_told" (defScope s_told) f cdv A outer s H E).nox.suite a ((a, oe) :: pn)) (suiteOf s_told) (tToldB K T cE cs a cls d) := by
  have nd := sc_told.nd
  refine ⟨fun pins s σ H D I h => ?_⟩
  obtain ⟨C, dd, n, g, b2, b3, b4, rfl, rfl, hC, rfl, ha, hdd, k⟩ := h
  refine PSs.run (
      pss_cons (ps_set (i := 2) nd rfl (Or.inl rfl) (pe_lst (pa_cons (pe_callB (call_isD hC.i.ex hz hf) (by rfl) B.isi k_isi (pa_cons (pv 1) (pa_cons (pe_glob (by rfl) G.g0 (v := .ref (cs 0)) rfl) pa_nil)))
        (pa_cons (pe_callB (call_isD hC.i.ex hz hf) (by rfl) B.isi k_isi (pa_cons (pv 1) (pa_cons (pe_glob (by rfl) G.g1 (v := .ref (cs 1)) rfl) pa_nil)))
        (pa_cons (pe_callB (call_isD hC.i.ex hz hf) (by rfl) B.isi k_isi (pa_cons (pv 1) (pa_cons (pe_glob (by rfl) G.g2 (v := .ref (cs 2)) rfl) pa_nil)))
        (pa_cons (pe_callB (call_isD hC.i.ex hz hf) (by rfl) B.isi k_isi (pa_cons (pv 1) (pa_cons (pe_glob (by rfl) G.g3 (v := .ref (cs 3)) rfl) pa_nil))) pa_nil))))))
      (pss_cons (ps_set (i := 2) nd rfl (Or.inl rfl) (pe_op op_cat (pv 2) (pe_lst (pa_cons (pe_callB (call_isD hC.i.ex hz hf) (by rfl) B.isi k_isi (pa_cons (pv 1) (pa_cons (pe_glob (by rfl) G.g4 (v := .ref (cs 4)) rfl) pa_nil)))
        (pa_cons (pe_callB (call_isD hC.i.ex hz hf) (by rfl) B.isi k_isi (pa_cons (pv 1) (pa_cons (pe_glob (by rfl) G.g5 (v := .ref (cs 5)) rfl) pa_nil)))
        (pa_cons (pe_callB (call_isD hC.i.ex hz hf) (by rfl) B.isi k_isi (pa_cons (pv 1) (pa_cons (pe_glob (by rfl) G.g6 (v := .ref (cs 6)) rfl) pa_nil)))
        (pa_cons (pe_callB (call_isD hC.i.ex hz hf) (by rfl) B.isi k_isi (pa_cons (pv 1) (pa_cons (pe_glob (by rfl) G.g7 (v := .ref (cs 7)) rfl) pa_nil))) pa_nil)))))))
      (pss_cons (ps_expr (pe_bm PySem.F.plainAttrs_list PySem.F.slot_list_append PySem.F.type_list_append mt_append (pv 2) (pa_cons (pe_callB (call_isD hC.i.ex hz hf) (by rfl) B.isi k_isi (pa_cons (pv 1) (pa_cons (pe_glob (by rfl) G.g8 (v := .ref (cs 8)) rfl) pa_nil))) pa_nil)))
      (pss_cons (ps_if (PW.pt (pw_or (pt_cmpR op_ne (pe_bm PySem.F.plainAttrs_list PySem.F.slot_list_count PySem.F.type_list_count mt_fcount (pv 2) (pa_cons pe_bl pa_nil)) pe_int (nomark _)) (pw_or1 (pt_not (pt_val (pe_callB (call_isD hC.i.ex hz hf) (by rfl) B.isi k_isi (pa_cons (pv 1) (pa_cons (pe_bltn (v := .ty "ValueError") (by rfl) bv (by decide +kernel) rfl) pa_nil))))))))
        (pss_one (ps_ret (pe_tup (pa_cons pe_str (pa_cons pe_int pa_nil))))) pss_nil)
      (pss_cons (ps_set (i := 3) nd rfl (Or.inl rfl) (pe_lst (pa_cons pe_str (pa_cons pe_str (pa_cons pe_str (pa_cons pe_str (pa_cons pe_str (pa_cons pe_str (pa_cons pe_str (pa_cons pe_str (pa_cons pe_str pa_nil)))))))))))
      (pss_cons (ps_set (i := 4) nd rfl (Or.inl rfl) (pe_ix ix_list (pv 3) (pe_bm PySem.F.plainAttrs_list PySem.F.slot_list_index PySem.F.type_list_index mt_index (pv 2) (pa_cons pe_bl pa_nil)) (fun _ _ => rfl)))
      (pss_one (ps_ret (pe_tup (pa_cons (pv 4) (pa_cons (pe_ifExp (pt_cmpR op_eq (pv 4) pe_str (nomark _)) (pe_xf hC.xf hC.no hz hf (pv 1)) pe_int) pa_nil))))))))))) pins s _ H D I ?_
  refine t_isD 0 rfl hC.i hdd (t_isD 1 rfl hC.i hdd (t_isD 2 rfl hC.i hdd (t_isD 3 rfl hC.i hdd ⟨(by show 4 ≤ sizeLine; decide), fun p1 h1 => ?_⟩)))
  have d1 : ∀ {o : HO}, upd H p1 o dd = some (.xd (lnF n)) := fun {o} => by rw [upd_ne (ne_of_none hdd h1)]; exact hdd
  refine ⟨_, rfl, t_isD 4 rfl hC.i d1 (t_isD 5 rfl hC.i d1 (t_isD 6 rfl hC.i d1 (t_isD 7 rfl hC.i d1 ⟨(by show 4 ≤ sizeLine; decide), fun p2 h2 => ?_⟩)))⟩
  have n12 : p1 ≠ p2 := fun z => by rw [← z, upd_same] at h2; cases h2
  refine ⟨p1, p2, _, _, rfl, rfl, (by rw [upd_ne n12]; exact upd_same), upd_same, (by show 8 ≤ sizeLine; decide), fun p3 h3 => ?_⟩
  have x3 := (((XX.new (T := T) h1).then_new h2).then_new (o := .lst ((kinds 4).take 8)) h3)
  have d3 : ∀ {o : HO}, upd (upd (upd H p1 (.lst [.bl (decide ((0 : Fin 9) = 4)), .bl (decide ((1 : Fin 9) = 4)), .bl (decide ((2 : Fin 9) = 4)), .bl (decide ((3 : Fin 9) = 4))])) p2 (.lst [.bl (decide ((4 : Fin 9) = 4)), .bl (decide ((5 : Fin 9) = 4)), .bl (decide ((6 : Fin 9) = 4)), .bl (decide ((7 : Fin 9) = 4))])) p3 o dd = some (.xd (lnF n)) := fun {o} => by
    rw [upd_ne (fun z => by rw [← z] at h3; rw [upd_ne (fun z2 => by rw [← z2] at h2; rw [d1] at h2; cases h2)] at h3; rw [d1] at h3; cases h3), upd_ne (fun z2 => by rw [← z2] at h2; rw [d1] at h2; cases h2)]; exact d1
  refine ⟨_, rfl, .inl ⟨rfl, _, SqL.of upd_same⟩, t_isD 8 rfl hC.i d3 ⟨p3, _, _, rfl, rfl, upd_same, (by show 8 < sizeLine; decide), ?_⟩⟩
  rw [upd_upd]
  have x1 := (((XX.new (T := T) h1).then_new h2).then_new (o := .lst (kinds 4)) h3)
  refine ⟨_, rfl, .inl ⟨rfl, _, SqL.of upd_same⟩, p3, kinds 4, .bl true, rfl, rfl, SqL.of upd_same, rfl, kinds_flat 4, rfl, _, rfl, ?_⟩
  rw [kinds_count 4, show (!decide (V.int ((1 : Nat) : Int) = V.int 1)) = false by decide]
  refine iteF ⟨_, rfl, .ty "ValueError", .type "ValueError", true, _, rfl, fun u r => r, hC.i.ve, d3, _, rfl, iteF ?_⟩
  refine ⟨(by show 9 ≤ sizeLine; decide), fun p4 h4 => ?_⟩
  have x2 := x1.then_new (o := .lst wordsV) h4
  have n34 : p3 ≠ p4 := fun z => by rw [← z, upd_same] at h4; cases h4
  have g3 : ∀ {o : HO}, upd (upd (upd (upd H p1 (.lst [.bl (decide ((0 : Fin 9) = 4)), .bl (decide ((1 : Fin 9) = 4)), .bl (decide ((2 : Fin 9) = 4)), .bl (decide ((3 : Fin 9) = 4))])) p2 (.lst [.bl (decide ((4 : Fin 9) = 4)), .bl (decide ((5 : Fin 9) = 4)), .bl (decide ((6 : Fin 9) = 4)), .bl (decide ((7 : Fin 9) = 4))])) p3 (.lst (kinds 4))) p4 o p3 = some (.lst (kinds 4)) := fun {o} => by rw [upd_ne n34, upd_same]
  refine ⟨_, rfl, _, rfl, .inl ⟨rfl, _, SqL.of g3⟩, p3, kinds 4, .bl true, 4, .bl true, rfl, rfl, SqL.of g3, rfl, kinds_flat 4, kinds_at 4, rfl, kinds_no 4, ?_⟩
  refine ⟨p4, wordsV, _, .str "BadText", rfl, rfl, SqL.of upd_same, atI_nat (words_at 4), ?_⟩
  refine ⟨_, rfl, _, rfl, rfl, _, rfl, ?_⟩
  rw [show decide (V.str "BadText" = V.str "BadText") = true by decide +kernel]
  have d4 : ∀ {o : HO}, upd (upd (upd (upd H p1 (.lst [.bl (decide ((0 : Fin 9) = 4)), .bl (decide ((1 : Fin 9) = 4)), .bl (decide ((2 : Fin 9) = 4)), .bl (decide ((3 : Fin 9) = 4))])) p2 (.lst [.bl (decide ((4 : Fin 9) = 4)), .bl (decide ((5 : Fin 9) = 4)), .bl (decide ((6 : Fin 9) = 4)), .bl (decide ((7 : Fin 9) = 4))])) p3 (.lst (kinds 4))) p4 o dd = some (.xd (lnF n)) := fun {o} => by
    rw [upd_ne (fun z => by rw [← z] at h4; rw [d3] at h4; cases h4)]; exact d3
  refine iteT ⟨_, rfl, rfl, rfl, dd, lnF n, .int n, rfl, d4, rfl, ⟨(by show 2 ≤ sizeLine; decide), fun p5 h5 => ?_⟩⟩
  exact k _ _ (x2.then_new h5) (.tup (SqT.of upd_same) (.cons (.str _) (.cons (.int _) .nil)))
theorem ok_toldB {f : Addr} {fd : FuncData} {k : Nat} (F : Fun K "_law_told" "_law_told" s_told f fd) (B : Blt mg) (bv : mg "ValueError" = none) (G : ETab mg cE cs) : FnOk P w K mg base CX0 (k + 1) f fd ["_law_work"] (spToldB P w K mg base T cE cs k) := by
  refine F.ok sc_told (fun vs H Q E h => by obtain ⟨g, ph, sp, rfl, _⟩ := h; rfl) (fun cdv A outer s H vs Q E hr h => ?_)
  obtain ⟨g, ph, sp, rfl, hf, hc, hph, h⟩ := h
  have nd := sc_told.nd
  refine ⟨_, pss_one (ps_try_as (X := (cxOf CX0 P w K mg base toldN "_law_told" (defScope s_told) f cdv A outer s H E).nox) (i := 1) (tb := fun W => tRet (tActS P w K mg base k 0 (WE W))) rfl rfl nd rfl rfl (x := "PageError") (c := .ref cE) ⟨rfl, by decide, .inl G.gE⟩ L2.takes0 (fun W pn xe tk _ => pss_one (ps_ret (pe_act0S (i := 0) hr (passAt tk) rfl (.inl rfl))))
    (fun a oe cls d pn hz hfl => told_suiteB (T := T) B bv G hz hfl)), ?_⟩
  refine ⟨g, ph, sp, rfl, hf, hc, hph, h _ fun H1 C n d hC hd k => ⟨true, hC.i.top, fun _ a ha => ?_, fun z => Bool.noConfusion z⟩⟩
  exact ⟨C, d, n, _, _, _, _, rfl, rfl, hC, rfl, ha, hd, k⟩
end
end GX
/-! what the program has of BadText; rows of a text -/
namespace GX
open PySem PySem.Spec PyProof.Rows L2 LamX
/-- what the program has of BadText -/
structure BtF (P : Program) (w : World) (K : PySem.W.Frag) (mg : Str → Option Value) (base : Heap) (D fI : Addr) (fd : FuncData) : Prop where
  m : mg "BadText" = some (.ref D)
  oex : OexC K D
  iC : PySem.W.findIn K (.ref D) "__init__" = some (some (.ref fI))
  tI : PySem.W.typeIn K (.ref fI) = some (.type "function")
  F : FnOk P w K mg base CX0 1 fI fd btN (spBT D)
  b : Binds K fd btN []
theorem rows_len {t : Str} (h : t.length ≤ 15000) : (rowsW t).length ≤ 15001 := by
  unfold rowsW
  by_cases h0 : t.length = 0
  · rw [if_pos h0]; exact Nat.zero_le _
  · rw [if_neg h0]
    have := (line_bounds t).2.1
    omega
theorem rows_each {t : Str} (h : t.length ≤ 15000) (ha : Asc t) : ∀ r ∈ rowsW t, r.length ≤ 15000 ∧ Asc r := by
  unfold rowsW
  by_cases h0 : t.length = 0
  · rw [if_pos h0]; exact fun r hr => absurd hr (by simp)
  · rw [if_neg h0]
    exact fun r hr => ⟨Nat.le_trans ((line_bounds t).2.2 r hr) h, line_asc ha r hr⟩
end GX
set_option maxHeartbeats 2000000
namespace GX
open PySem PySem.Spec PyProof.Rows L2 LamX
section
variable {P : Program} {w : World} {K : PySem.W.Frag} {mg : Str → Option Value} {base : Heap} {T : List (Addr × Str)}
theorem pi_lt {X : Cx} {tg l : Expr} {tl : TE} (hl : PE X l tl) : PI X tg l (fun σ H R => tl σ H fun x H1 => ∃ a, x = .ref a ∧ ((∃ xs, SqL X.K H1 a xs ∧ R (Itl X.K a) H1) ∨ (∃ xs, SqT X.K H1 a xs ∧ R (Itt X.K a) H1))) := by
  refine ⟨fun pins s σ H R I h => ?_⟩
  refine thn (hl.run pins s σ H _ I h) fun v s1 ⟨x, H1, I1, r1, q1⟩ => ?_
  obtain ⟨a, e, q1⟩ := q1
  subst e
  cases r1
  rcases q1 with ⟨xs, hq, q⟩ | ⟨xs, hq, q⟩
  · obtain ⟨its, rv, p, hz⟩ := I1.list hq
    refine wpAny_pyIter_list p.isList ?_
    refine ⟨s1.heap.objs.size, [s1.heap.objs.size], _, _, H1, rfl, I1.kept (t' := s1.toks) fun b o e => Heap.get?_push_of_some _ e, turn_list a _, ⟨_, Heap.get?_push_size _ rfl, rfl, rfl⟩, fun b hb => ?_, q⟩
    have e : b = s1.heap.objs.size := by simpa using hb
    subst e
    exact I1.fpOk (Nat.le_refl _) (I1.hok.fresh (Nat.le_refl _))
  · obtain ⟨its, rv, p, hz⟩ := I1.tuple hq
    refine wpAny_pyIter_tuple (show s1.heap.IsTuple a its.toArray from p) ?_
    refine ⟨s1.heap.objs.size, [s1.heap.objs.size], _, _, H1, rfl, I1.kept (t' := s1.toks) fun b o e => Heap.get?_push_of_some _ e, turn_tuple a _, ⟨_, Heap.get?_push_size _ rfl, rfl, rfl⟩, fun b hb => ?_, q⟩
    have e : b = s1.heap.objs.size := by simpa using hb
    subst e
    exact I1.fpOk (Nat.le_refl _) (I1.hok.fresh (Nat.le_refl _))
theorem sc_are_values : FnScope ["things"] ["things"] (defScope s_are_values) := ⟨rfl, rfl, rfl, by decide +kernel, rfl, by decide +kernel, by decide +kernel⟩
theorem ok_are_values {f c Pt : Addr} {fd : FuncData} (F : FunC K "are_values" "are_values" s_are_values f fd c) (TB : LamX.TabB base mg c Pt) (hT : ∀ p ∈ T, p.1 ≠ Pt) (B : Blt mg) (hc : ∃ t, mg "GREATEST_CELL" = some (.int 99 t)) (cN : Cal P w K mg base CX0 "is_number" ["thing", "low", "high"] 1 (spNum K)) : FnOk P w K mg base CX0 3 f fd ["things"] (spVals K T Pt) := by
  refine F.ok sc_are_values (fun vs H Q E h => ?_) (fun A outer s H vs Q E hr h => ?_)
  · obtain ⟨v, d, ds, rfl, _⟩ := h
    rfl
  · obtain ⟨v, d, ds, rfl, hd, hds, hG, k⟩ := h
    refine ⟨_, pss_one (ps_ret (pe_allG (Ng := ["thing"]) (cap := []) hr (by rfl) B.all TB (by rfl) (gs_by (N := ["things"]) (sc := defScope s_are_values) (by decide +kernel)) (pi_lt (pv 0)) (fun code s H fp pn => pe_cal cN (room_gen (hr.mono (by decide))) (pa_cons (pv 0) (pa_cons pe_int (pa_cons (pe_const hc) pa_nil)))))), ?_⟩
    refine ⟨v, rfl, ?_⟩
    rcases hds with rfl | rfl
    · obtain ⟨a, xs, rfl, hs, ha⟩ := dp_lst hd
      refine ⟨a, rfl, .inl ⟨xs, hs, hG, fun H2 tb => ?_⟩⟩
      have xx := XX.tabbed hT hG tb
      exact all_dpL (T := T) (g := fun z => isNum z 0 99) (xx.sqL hs) (Dp.xxAll xx _ _ ha) (fun d v H' W hm hv x1 hW => ⟨v, rfl, v, d, 0, 99, rfl, hv, hW H' (XX.refl H')⟩) fun H' x1 => k H' (xx.trans x1)
    · obtain ⟨a, xs, rfl, hs, ha⟩ := dp_tup hd
      refine ⟨a, rfl, .inr ⟨xs, hs, hG, fun H2 tb => ?_⟩⟩
      have xx := XX.tabbed hT hG tb
      exact all_dpT (T := T) (g := fun z => isNum z 0 99) (xx.sqT hs) (Dp.xxAll xx _ _ ha) (fun d v H' W hm hv x1 hW => ⟨v, rfl, v, d, 0, 99, rfl, hv, hW H' (XX.refl H')⟩) fun H' x1 => k H' (xx.trans x1)
end
end GX
set_option maxHeartbeats 4000000
/-! slotpages.plays: _values_of, _step_of -/
namespace GX
open PySem PySem.Spec PyProof.Rows L2 LamX
theorem flatAll_map {α : Type} {g : α → PyData} (h : ∀ x, flatD (g x) = true) : ∀ l : List α, flatAll (l.map g) = true
  | [] => rfl
  | x :: l => by
    show (flatD (g x) && flatAll (l.map g)) = true
    rw [h x, flatAll_map h l] <;> rfl
theorem comma_bounds (x : Str) : Txt.split x "," ≠ [] ∧ (Txt.split x ",").length ≤ x.length + 1 ∧ ∀ p ∈ Txt.split x ",", p.length ≤ x.length := split_bounds (s := 44) (by decide +kernel) (by decide +kernel)
def numsW (w : Str) : List PyData := (Txt.split w ",").map fun x => numD (numO x)
def valsW (w : Str) : PyData := if w = "-" then .tuple [] else if (numsW w).length ≤ 300 ∧ valsB (numsW w) = true then .tuple (numsW w) else .none
theorem vals_fl (w : Str) : flatD (valsW w) = true := by
  unfold valsW
  by_cases h : w = "-"
  · rw [if_pos h]; rfl
  · rw [if_neg h]
    by_cases h2 : (numsW w).length ≤ 300 ∧ valsB (numsW w) = true
    · rw [if_pos h2]; exact flatAll_map (fun x => num_fl _) _
    · rw [if_neg h2]; rfl
def spValsOf (K : PySem.W.Frag) (T : List (Addr × Str)) (Pc : Addr) : Sp := fun vs H Q _ => ∃ w : Str, vs = [.str w] ∧ w.length ≤ 15000 ∧ GxR.TabG H Pc ∧ ∀ H' v, XX T H H' → Dp K H' v (valsW w) → Q v H'
section
variable {P : Program} {w : World} {K : PySem.W.Frag} {mg : Str → Option Value} {base : Heap} {T : List (Addr × Str)} {Pc : Addr}
theorem sc_values_of : FnScope ["word", "values"] ["word"] (defScope s_values_of) := ⟨rfl, rfl, rfl, by decide +kernel, rfl, by decide +kernel, by decide +kernel⟩
theorem ok_values_of {f : Addr} {fd : FuncData} (F : L2.Fun K "_values_of" "_values_of" s_values_of f fd) (B : Blt mg) (hN : ∃ t, mg "NOTHING" = some (.str "-" t)) (hM : ∃ t, mg "MOST_VALUES" = some (.int 300 t)) (cN : Cal P w K mg base CX0 "numbers_of" ["words"] 2 (spNumsOf K T)) (cV : Cal P w K mg base CX0 "are_values" ["things"] 3 (spVals K T Pc)) :
    FnOk P w K mg base CX0 4 f fd ["word"] (spValsOf K T Pc) := by
  refine F.ok sc_values_of (fun vs H Q E h => by obtain ⟨x, rfl, _⟩ := h; rfl) (fun cdv A outer s H vs Q E hr h => ?_)
  obtain ⟨x, rfl, hx, hG, k⟩ := h
  obtain ⟨tn, hN⟩ := hN
  have nd := sc_values_of.nd
  refine ⟨_, pss_cons (ps_if (pt_cmpR op_eq (pv 0) (pe_glob (v := .str "-") (by rfl) hN ⟨_, rfl⟩) (nomark _)) (pss_one (ps_ret (pe_tup pa_nil))) pss_nil)
    (pss_cons (ps_set (i := 1) nd rfl (.inl rfl) (pe_cal cN (hr.mono (by decide)) (pa_cons (pe_split (pv 0) pe_str) pa_nil)))
    (pss_one (ps_ret (pe_ifExp (PW.pt (pw_and (pt_cmpR op_le (pe_callB call_len_seq (by rfl) B.len PySem.boot_len (pa_cons (pv 1) pa_nil)) (pe_const hM) (nomark _)) (pw_and1 (pt_val (pe_cal cV hr (pa_cons (pv 1) pa_nil)))))) (pv 1) pe_non)))), ?_⟩
  refine ⟨_, rfl, rfl, _, rfl, ?_⟩
  rw [dec_str]
  have e1 : x = "-" → valsW x = .tuple [] := fun h => by unfold valsW; rw [if_pos h]
  by_cases h : x = "-"
  · rw [decide_eq_true h]
    refine iteT ⟨Nat.zero_le _, fun p hp => k _ _ (XX.new hp) ?_⟩
    rw [e1 h]
    exact .tup (SqT.of upd_same) .nil
  · rw [decide_eq_false h]
    obtain ⟨b1, b2, b3⟩ := comma_bounds x
    refine iteF ⟨_, rfl, ⟨x, rfl⟩, x, ",", rfl, rfl, rfl, by rw [sizeLine_eq]; omega, fun p hp => ⟨p, Txt.split x ",", rfl, SqL.of upd_same, by rw [sizeLine_eq]; omega, fun y hy => by have := b3 y hy; rw [sizeLine_eq]; omega, fun H1 v x1 d1 => ?_⟩⟩
    have x2 := (XX.new (T := T) (o := .lst ((Txt.split x ",").map V.str)) hp).trans x1
    have ex : valsW x = if (numsW x).length ≤ 300 ∧ valsB (numsW x) = true then .tuple (numsW x) else .none := by unfold valsW; rw [if_neg h]
    have d1 : Dp K H1 v (.tuple (numsW x)) := d1
    generalize numsW x = ds at d1 ex
    dsimp only [gName, tNext]
    have d1' := d1
    obtain ⟨a, xs, rfl, hS, ha⟩ := dp_tup d1'
    have hl := dpAll_len ha
    refine ⟨_, rfl, a, xs, rfl, .inr hS, _, _, rfl, rfl, _, rfl, ?_⟩
    by_cases h3 : ds.length ≤ 300
    · rw [decide_eq_true (by omega)]
      refine iteT ⟨_, rfl, _, _, ds, rfl, d1, .inr rfl, x2.tabG _ hG, fun H2 x3 => ⟨_, rfl, ?_⟩⟩
      by_cases h4 : valsB ds = true
      · rw [h4]
        refine iteT ⟨_, rfl, k _ _ (x2.trans x3) ?_⟩
        rw [ex, if_pos ⟨h3, h4⟩]
        exact Dp.xx x3 _ _ d1
      · rw [show valsB ds = false by simpa using h4]
        refine iteF (k _ _ (x2.trans x3) ?_)
        rw [ex, if_neg fun z => h4 z.2]
        exact .non
    · rw [decide_eq_false (by omega)]
      refine iteF (iteF (k _ _ x2 ?_))
      rw [ex, if_neg fun z => h3 z.1]
      exact .non
end
end GX
/-! slotpages.plays: _step_of -/
namespace GX
open PySem PySem.Spec PyProof.Rows L2 LamX
/-- what stands behind a step's word; true: a number -/
def shapeW (z : Str) : Option (List Bool) := if z = "put" then some [false] else if z = "change" then some [true, false] else if z = "drop" then some [true] else if z = "get" then some [true] else if z = "parts" then some [true] else if z = "tidy" then some [] else if z = "arm" then some [true] else if z = "again" then some [] else none
def kindV (b : Bool) : V := .str (if b = true then "number" else "values")
structure ShF (K : PySem.W.Frag) (w : World) (mg : Str → Option Value) (dS : Addr) : Prop where
  m : mg "SHAPES" = some (.ref dS)
  D : ∃ es n, KDict K w dS es n
  out : ∀ z, shapeW z = none → PySem.W.nsIn K dS z = some none
  inn : ∀ z ks, shapeW z = some ks → ∃ t, PySem.W.nsIn K dS z = some (some (.ref t)) ∧ ∀ H, SqT K H t (ks.map kindV)
def kindW (b : Bool) (w : Str) : PyData := if b = true then numD (numO w) else valsW w
def noneB (ds : List PyData) : Bool := ds.any fun d => PyData.eqv d .none
def stepW : List Str → PyData
  | [] => .none
  | w :: r => match shapeW w with
    | none => .none
    | some ks => if r.length = ks.length then (if noneB (List.zipWith kindW ks r) = true then .none else .tuple (.str w :: List.zipWith kindW ks r)) else .none
theorem stepW_no {w : Str} {r : List Str} (h : shapeW w = none) : stepW (w :: r) = .none := by
  unfold stepW; dsimp only; rw [h]
theorem stepW_so {w : Str} {r : List Str} {ks : List Bool} (h : shapeW w = some ks) : stepW (w :: r) = if r.length = ks.length then (if noneB (List.zipWith kindW ks r) = true then .none else .tuple (.str w :: List.zipWith kindW ks r)) else .none := by
  unfold stepW; dsimp only; rw [h]
theorem nice_numD (o : Option Nat) : Nice (numD o) 0 := by
  cases o with
  | none => exact nice_none
  | some n => exact nice_int _
theorem nice_kind (b : Bool) (w : Str) : Nice (kindW b w) 1 := by
  unfold kindW
  cases b with
  | true => rw [if_pos rfl]; exact (nice_numD _).mono (by decide)
  | false =>
    rw [if_neg (by decide)]
    unfold valsW
    by_cases h : w = "-"
    · rw [if_pos h]; exact nice_tuple (n := 0) (by simp) fun d hd => absurd hd (by simp)
    · rw [if_neg h]
      by_cases h2 : (numsW w).length ≤ 300 ∧ valsB (numsW w) = true
      · rw [if_pos h2]
        refine nice_tuple (n := 0) (by have := h2.1; omega) fun d hd => ?_
        obtain ⟨x, _, e⟩ := List.mem_map.mp hd
        rw [← e]; exact nice_numD _
      · rw [if_neg h2]; exact nice_none.mono (by decide)
theorem zip_mem {ks : List Bool} {r : List Str} {d : PyData} (h : d ∈ List.zipWith kindW ks r) : ∃ b w, d = kindW b w := by
  obtain ⟨j, hj, e⟩ := List.mem_iff_getElem.mp h
  rw [List.getElem_zipWith] at e
  exact ⟨_, _, e.symm⟩
theorem shape_len {z : Str} {ks : List Bool} (h : shapeW z = some ks) : ks.length ≤ 2 := by
  unfold shapeW at h
  repeat' split at h
  all_goals first | (cases h; decide) | cases h
theorem nice_step {ws : List Str} (ha : ∀ w ∈ ws, Asc w) : Nice (stepW ws) 2 := by
  unfold stepW
  cases ws with
  | nil => exact nice_none.mono (by decide)
  | cons w r =>
    dsimp only
    cases e : shapeW w with
    | none => exact nice_none.mono (by decide)
    | some ks =>
      dsimp only
      by_cases h : r.length = ks.length
      · rw [if_pos h]
        by_cases h2 : noneB (List.zipWith kindW ks r) = true
        · rw [if_pos h2]; exact nice_none.mono (by decide)
        · rw [if_neg h2]
          have := shape_len e
          refine nice_tuple (n := 1) (by rw [List.length_cons, List.length_zipWith]; omega) fun d hd => ?_
          rcases List.mem_cons.mp hd with q | hd
          · rw [q]; exact (nice_lit (strOk_asc (ha w List.mem_cons_self))).mono (by decide)
          · obtain ⟨b, x, q⟩ := zip_mem hd
            rw [q]; exact nice_kind b x
      · rw [if_neg h]; exact nice_none.mono (by decide)
def spStepOf (K : PySem.W.Frag) (T : List (Addr × Str)) (Pc : Addr) : Sp := fun vs H Q _ => ∃ r : Str, vs = [.str r] ∧ r.length ≤ 15000 ∧ Asc r ∧ GxR.TabG H Pc ∧ ∀ H' v, XX T H H' → Dp K H' v (stepW (Txt.split r " ")) → Q v H'
section
variable {T : List (Addr × Str)} {H H1 H' : Hp} {K : PySem.W.Frag}
/-- [te for i, j in zip(..)] of data without lists -/
theorem lc_dpZ {k1 k2 : Zs} {D : Addr} {xs ys : List V} {i1 i2 : Nat} {te : TE} {σ : L2.St} {Qd : Hp → Prop} (hl : xs.length = ys.length) (q1 : ∀ H', XX T H1 H' → k1.q K H' xs) (q2 : ∀ H', XX T H1 H' → k2.q K H' ys) (gd : Nat → PyData) (hD : H1 D = none) (hz : xs.length < sizeLine) (fl : ∀ j, j < xs.length → flatD (gd j) = true)
    (hw : ∀ x y, wipe (((wipe σ [i1, i2]).set i1 (some x)).set i2 (some y)) [i1, i2] = wipe σ [i1, i2])
    (step : ∀ j x y H' (Qe : VK), xs[j]? = some x → ys[j]? = some y → XX T H1 H' → (∀ H'' v, XX T H' H'' → Dp K H'' v (gd j) → Qe v H'') → te (((wipe σ [i1, i2]).set i1 (some x)).set i2 (some y)) H' Qe)
    (fin : ∀ H' acc, XX T H1 H' → H' D = some (.lst acc) → DpAll K H' acc ((List.range xs.length).map gd) → Qd H') :
    ∃ W : Nat → Nat → Hp → Prop, (∃ m, W 0 m (upd H1 D (.lst []))) ∧ ∀ j m H, W j m H →
      ((ItG (k1.q K) (k2.q K)).stop j H ∧ Qd H) ∨ ((ItG (k1.q K) (k2.q K)).go j H ∧ ∃ Nx : Hp → Prop, (∀ H', Nx H' → ∃ m', m' < m ∧ W (j + 1) m' H') ∧ ∀ x H', (ItG (k1.q K) (k2.q K)).yld j H x H' → gTup K 2 (gCons (gName i1) (gCons (gName i2) gNil)) x (wipe σ [i1, i2]) H' fun σ2 H2 => wipe σ2 [i1, i2] = wipe σ [i1, i2] ∧ tYes σ2 H2 fun b H3 =>
        if b = true then te σ2 H3 fun y H4 => ∃ acc, H4 D = some (.lst acc) ∧ acc.length < sizeLine ∧ Nx (upd H4 D (.lst (acc ++ [y]))) else Nx H3) := by
  refine lc_it (walk_zipG (n := xs.length) (by omega)) (fun j H' => XX T H1 H' ∧ ∃ acc, H' D = some (.lst acc) ∧ acc.length = j ∧ DpAll K H' acc ((List.range j).map gd)) ⟨XX.new hD, [], upd_same, rfl, .nil⟩ (fun j H' _ pv => ⟨q1 _ pv.1, q2 _ pv.1⟩) (fun j v H' H'' hj pv yy => ?_) (fun H' pv => ?_)
  · obtain ⟨t, x, y, rfl, nt, rfl, ex, ey⟩ := yy
    obtain ⟨x1, acc, e1, el, da⟩ := pv
    have xt := XX.new (T := T) (o := .tup [x, y]) nt
    refine ⟨t, [x, y], rfl, SqT.of upd_same, rfl, x, [y], rfl, y, [], rfl, rfl, hw x y, ?_⟩
    refine step j x y _ _ ex ey (x1.trans xt) fun H2 v x2 dv => ⟨acc, (xt.trans x2).lst e1, by omega, ((x1.trans xt).trans x2).fillD hD ((xt.trans x2).lst e1), acc ++ [v], upd_same, by simp [el], ?_⟩
    have x3 : XM T (fun c => c = D) H2 (upd H2 D (.lst (acc ++ [v]))) := XM.upd ((xt.trans x2).lst e1) rfl True.intro
    have fa : ∀ d ∈ (List.range j).map gd, flatD d = true := fun d hd => by
      obtain ⟨m, hm, e⟩ := List.mem_map.mp hd
      rw [← e]
      exact fl m (Nat.lt_trans (List.mem_range.mp hm) hj)
    rw [List.range_succ, List.map_append]
    exact dpAll_snoc (dpAll_xm x3 fa (Dp.xxAll (xt.trans x2) _ _ da)) (Dp.xm x3 _ _ (fl j hj) dv)
  · obtain ⟨x1, acc, e1, _, da⟩ := pv
    exact fin H' acc x1 e1 da
end
end GX
/-! the law's _law_number -/
namespace GX
open PySem PySem.Spec PyProof.Rows L2 LamX
def spLNum (T : List (Addr × Str)) : Sp := fun vs H Q _ => ∃ (w : Str) (m : Nat), vs = [.str w, .int (m : Int)] ∧ w.length ≤ 15000 ∧ Asc w ∧ ∀ H', XX T H H' → Q (numV (lnO w m)) H'
/-- the signs that are no figures -/
def oddL (l : List Nat) : List Nat := l.filter fun c => !(decide (48 ≤ c) && decide (c ≤ 57))
theorem figs (c : Nat) : decide (c ∈ ("0123456789" : Str).cps.toList) = (decide (48 ≤ c) && decide (c ≤ 57)) := by
  have e : ("0123456789" : Str).cps.toList = [48, 49, 50, 51, 52, 53, 54, 55, 56, 57] := by decide +kernel
  rw [e, Bool.eq_iff_iff]
  simp
  omega
def signD (c : Nat) : PyData := .str ⟨#[c]⟩
theorem sign_sh {l : List Nat} (h : ∀ c ∈ l, c < 128) : SeqAt.shaped (.list (l.map signD)) = true := by
  have h1 : PyData.canLayAll0 (l.map signD) = true ∧ PyData.depthAll (l.map signD) = 0 := by
    induction l with
    | nil => exact ⟨rfl, rfl⟩
    | cons c l ih =>
      obtain ⟨q1, q2⟩ := ih fun d hd => h d (List.mem_cons_of_mem _ hd)
      refine ⟨?_, ?_⟩
      · show (PyData.canLay0 (signD c) && PyData.canLayAll0 (l.map signD)) = true
        rw [q1, Bool.and_true]
        refine strOk_asc (x := ⟨#[c]⟩) fun d hd => ?_
        have : d = c := by simpa [TL.tl] using hd
        rw [this]
        exact h c List.mem_cons_self
      · show max 0 (PyData.depthAll (l.map signD)) = 0
        rw [q2] <;> rfl
  unfold SeqAt.shaped
  have hc : PyData.canLay0 (.list (l.map signD)) = true := h1.1
  have hd : PyData.depth (.list (l.map signD)) ≤ 64 := by
    show PyData.depthAll (l.map signD) + 1 ≤ 64
    rw [h1.2]; decide
  rw [hc, decide_eq_true hd] <;> rfl
section
variable {P : Program} {w : World} {K : PySem.W.Frag} {mg : Str → Option Value} {base : Heap} {T : List (Addr × Str)}
abbrev lnN : List Str := ["_law_word", "_law_most", "_law_sign"]
theorem sc_lnumber : FnScope lnN ["_law_word", "_law_most"] (defScope s_lnumber) := ⟨rfl, rfl, rfl, by decide +kernel, rfl, by decide +kernel, by decide +kernel⟩
theorem ok_lnumber {f : Addr} {fd : FuncData} (F : L2.Fun K "_law_number" "_law_number" s_lnumber f fd) (B : Blt mg) (bs : mg "str" = none) : FnOk P w K mg base CX0 1 f fd ["_law_word", "_law_most"] (spLNum T) := by
  refine F.ok sc_lnumber (fun vs H Q E h => by obtain ⟨x, m, rfl, _⟩ := h; rfl) (fun cdv A outer s H vs Q E hr h => ?_)
  obtain ⟨x, m, rfl, hx, hasc, k⟩ := h
  have nd := sc_lnumber.nd
  refine ⟨_, pss_cons (ps_if (PW.pt (pw_or (pt_not (pt_chain op_le op_le pe_int (pe_callB call_len_str (by rfl) B.len PySem.boot_len (pa_cons (pv 0) pa_nil)) pe_int))
      (pw_or1 (pt_cmpR (op_neD hr.units) (pe_lc (own := [("_law_sign", 2)]) (g := gName 2) (tt := _) (by rfl) nd (pi_str (pv 0)) (blkOk_by (own := [("_law_sign", 2)]) (N := lnN) (sc := defScope s_lnumber) (by decide +kernel))
        (fun _ _ _ _ _ => pg_name (i := 2) nd rfl (Or.inl rfl)) (fun _ _ _ _ _ => pts_one (pt_cmpR op_notIn_sign (pv 2) pe_str (by rfl))) (fun _ _ _ _ _ => pv 2)) (pe_lst pa_nil) (nomark _))))) (pss_one (ps_ret pe_non)) pss_nil)
    (pss_one (ps_ret (pe_ifExp (PW.pt (pw_and (pt_cmpR op_eq (pe_callTy call_str_int (by rfl) bs (by decide +kernel) (pa_cons (pe_callTy call_int_str (by rfl) B.int (by decide +kernel) (pa_cons (pv 0) pa_nil)) pa_nil)) (pv 0) (nomark _)) (pw_and1 (pt_cmpR op_le (pe_callTy call_int_str (by rfl) B.int (by decide +kernel) (pa_cons (pv 0) pa_nil)) (pv 1) (nomark _))))) (pe_callTy call_int_str (by rfl) B.int (by decide +kernel) (pa_cons (pv 0) pa_nil)) pe_non))), ?_⟩
  have tail : ∀ (L : L2.St) (H2 : Hp), L[0]? = some (some (.str x)) → L[1]? = some (some (.int (m : Int))) → L.length = 3 → XX T H H2 → okW x = true →
      tRet (tIf (tAnd (tTest (tOp rEq (tCB (fun xs H Q => ∃ i, xs = [.int i] ∧ i.natAbs.log2 < 1920 ∧ Q (.str (toString i)) H) (tCons (tCB (fun xs H Q => ∃ a n, xs = [.str a] ∧ PySem.intText? a = some n ∧ a.length ≤ 640 ∧ Q (.int n) H) (tCons (tVar 0) tNil)) tNil)) (tVar 0))) (tTest (tOp (rI0 fun i j => .bl (decide (i ≤ j))) (tCB (fun xs H Q => ∃ a n, xs = [.str a] ∧ PySem.intText? a = some n ∧ a.length ≤ 640 ∧ Q (.int n) H) (tCons (tVar 0) tNil)) (tVar 1)))) (tCB (fun xs H Q => ∃ a n, xs = [.str a] ∧ PySem.intText? a = some n ∧ a.length ≤ 640 ∧ Q (.int n) H) (tCons (tVar 0) tNil)) (tC .non))
        { nx := fun _ H' => Q .non H', rt := Q } L H2 := by
    intro L H2 l0 l1 ll x2 ok
    have lt := valW_lt ok
    have hle : x.length ≤ 3 := by
      unfold okW at ok
      have q := Bool.and_eq_true_iff.mp ok
      exact of_decide_eq_true (Bool.and_eq_true_iff.mp q.2).2
    refine ⟨_, l0, x, _, rfl, okW_int ok, by omega, _, rfl, ?_, _, l0, rfl, _, rfl, ?_⟩
    · have : ((valW x : Nat) : Int).natAbs = valW x := by omega
      rw [this]
      exact Nat.lt_of_le_of_lt (Nat.log2_le_self _) (by omega)
    · by_cases h4 : Str.ofString (toString ((valW x : Nat) : Int)) = x
      · have e : numO x = some (valW x) := by unfold numO; rw [if_pos ⟨ok, h4⟩]
        rw [decide_eq_true (by rw [h4])]
        refine iteT ⟨_, l0, x, _, rfl, okW_int ok, by omega, _, l1, _, _, rfl, rfl, _, rfl, ?_⟩
        by_cases hm : valW x ≤ m
        · have e2 : lnO x m = some (valW x) := by unfold lnO; rw [e]; exact if_pos hm
          have kk := k H2 x2
          rw [e2] at kk
          rw [decide_eq_true (by omega)]
          exact iteT ⟨_, l0, x, _, rfl, okW_int ok, by omega, kk⟩
        · have e2 : lnO x m = none := by unfold lnO; rw [e]; exact if_neg hm
          have kk := k H2 x2
          rw [e2] at kk
          rw [decide_eq_false (by omega)]
          exact iteF kk
      · have e : lnO x m = none := by unfold lnO numO; rw [if_neg fun z => h4 z.2]
        have kk := k H2 x2
        rw [e] at kk
        rw [decide_eq_false (fun z => h4 (V.str.inj z))]
        exact iteF (iteF kk)
  have none_of : okW x = false → ∀ H2, XX T H H2 → Q .non H2 := fun h H2 x2 => by
    have kk := k H2 x2
    have e : lnO x m = none := by unfold lnO numO; rw [if_neg fun z => by rw [h] at z; cases z.1]
    rw [e] at kk
    exact kk
  refine ⟨_, rfl, x, rfl, by rw [sizeLine_eq]; omega, _, _, rfl, rfl, _, rfl, ?_⟩
  by_cases h1 : 1 ≤ x.length
  · rw [decide_eq_true (by omega)]
    refine iteT ⟨_, _, rfl, rfl, _, rfl, ?_⟩
    by_cases h3 : x.length ≤ 3
    · rw [decide_eq_true (by omega)]
      refine iteF ⟨_, rfl, x, rfl, fun D hD => ?_⟩
      have hsz : x.cps.size = (TL.tl x).length := by simp [TL.tl]
      have tk : ∀ n, n ≤ (TL.tl x).length → (oddL ((TL.tl x).take n)).length ≤ 3 := fun n _ => by
        have q1 : (oddL ((TL.tl x).take n)).length ≤ ((TL.tl x).take n).length := List.length_filter_le _ _
        rw [List.length_take] at q1
        rw [TL.len_tl] at h3
        omega
      refine lc_it walk_str (fun j H' => XX T H H' ∧ ∃ acc, H' D = some (.lst acc) ∧ acc = (oddL ((TL.tl x).take j)).map fun c => V.str ⟨#[c]⟩) ⟨XX.new hD, [], upd_same, rfl⟩ (fun j H' _ _ => True.intro) (fun j u H' H'' hj pv yy => ⟨rfl, ?_⟩) (fun H' pv => ?_)
      · obtain ⟨rfl, c, hc, rfl⟩ := yy
        obtain ⟨x1, acc, e1, ea⟩ := pv
        have hj2 : j < (TL.tl x).length := by rw [← hsz]; exact hj
        have ec : (TL.tl x)[j] = c := by
          have : (TL.tl x)[j]? = some c := by simpa [TL.tl] using hc
          rw [List.getElem?_eq_getElem hj2] at this
          exact Option.some.inj this
        have et : (TL.tl x).take (j + 1) = (TL.tl x).take j ++ [c] := by
          rw [List.take_succ, List.getElem?_eq_getElem hj2, ec] <;> rfl
        refine ⟨_, rfl, c, _, rfl, rfl, _, rfl, ?_⟩
        rw [figs]
        have eo : oddL ((TL.tl x).take (j + 1)) = oddL ((TL.tl x).take j) ++ (if (!(decide (48 ≤ c) && decide (c ≤ 57))) = true then [c] else []) := by
          rw [et]
          unfold oddL
          rw [List.filter_append]
          congr 1
          by_cases q : (!(decide (48 ≤ c) && decide (c ≤ 57))) = true
          · rw [if_pos q, List.filter_cons, if_pos q]; rfl
          · rw [if_neg q, List.filter_cons, if_neg q]; rfl
        have t3 := tk j (by omega)
        by_cases q : (!(decide (48 ≤ c) && decide (c ≤ 57))) = true
        · rw [q]
          rw [if_pos q] at eo
          refine iteT ⟨_, rfl, acc, e1, by rw [ea, List.length_map, sizeLine_eq]; omega, x1.fillD hD e1, _, upd_same, ?_⟩
          rw [eo, List.map_append, ea] <;> rfl
        · rw [show (!(decide (48 ≤ c) && decide (c ≤ 57))) = false by simpa using q]
          rw [if_neg q, List.append_nil] at eo
          exact iteF ⟨x1, acc, e1, by rw [eo]; exact ea⟩
      · obtain ⟨x1, acc, e1, ea⟩ := pv
        rw [hsz, List.take_length] at ea
        refine ⟨Nat.zero_le _, fun p hp => ?_⟩
        have e2 : upd H' p (.lst []) D = some (.lst acc) := by rw [upd_ne (ne_of_none e1 hp)]; exact e1
        have hm : ∀ c ∈ oddL (TL.tl x), c < 128 := fun c hc => hasc c (List.mem_filter.mp hc).1
        have da : ∀ l : List Nat, DpAll K (upd H' p (.lst [])) (l.map fun c => V.str ⟨#[c]⟩) (l.map signD) := by
          intro l
          induction l with
          | nil => exact .nil
          | cons c l ih => exact .cons (.str _) ih
        have x2 := x1.then_new (o := .lst []) hp
        refine ⟨.list ((oddL (TL.tl x)).map signD), .list [], .lst (SqL.of (by rw [e2, ea])) (da _), .lst (SqL.of upd_same) .nil, sign_sh hm, shaped_nil, _, rfl, ?_⟩
        have ok : okW x = (oddL (TL.tl x)).isEmpty := by
          unfold okW digW oddL
          rw [decide_eq_true h1, decide_eq_true h3, Bool.and_true, Bool.and_true, Bool.eq_iff_iff, List.isEmpty_iff, List.filter_eq_nil_iff, List.all_eq_true]
          constructor
          · intro h c hc; simp only [h c hc]; simp
          · intro h c hc; have := h c hc; simpa using this
        cases q : oddL (TL.tl x) with
        | nil =>
          rw [q] at ok
          rw [show (!PyData.eqv (.list (([] : List Nat).map signD)) (.list [])) = false from rfl]
          exact iteF (tail _ _ rfl rfl rfl x2 ok)
        | cons c l =>
          rw [q] at ok
          rw [show (!PyData.eqv (.list ((c :: l).map signD)) (.list [])) = true from rfl]
          exact iteT (none_of ok _ x2)
    · rw [decide_eq_false (by omega)]
      have ok : okW x = false := by unfold okW; rw [decide_eq_false h3] <;> simp
      exact iteT (none_of ok _ (XX.refl H))
  · rw [decide_eq_false (by omega)]
    have ok : okW x = false := by unfold okW; rw [decide_eq_false h1] <;> simp
    exact iteF ⟨_, rfl, iteT (none_of ok _ (XX.refl H))⟩
end
end GX
/-! the law's own row, plainly -/
namespace GX
open PySem PySem.Spec PyProof.Rows L2 LamX
def sortC (b : Bool) : Nat := if b then 110 else 118
def sortS (ks : List Bool) : Str := ⟨(ks.map sortC).toArray⟩
def sortsL : List (Key × V) := [(.inr "put", .str "v"), (.inr "change", .str "nv"), (.inr "drop", .str "n"), (.inr "get", .str "n"), (.inr "parts", .str "n"), (.inr "tidy", .str ""), (.inr "arm", .str "n"), (.inr "again", .str "")]
theorem sorts_at (y : Str) : valV (mergeK [] sortsL) (.inr y : Key) = (shapeW y).map fun ks => V.str (sortS ks) := by
  have em : mergeK [] sortsL = sortsL := by decide +kernel
  rw [em]
  unfold shapeW
  by_cases h1 : y = "put"
  · subst h1; decide +kernel
  by_cases h2 : y = "change"
  · subst h2; decide +kernel
  by_cases h3 : y = "drop"
  · subst h3; decide +kernel
  by_cases h4 : y = "get"
  · subst h4; decide +kernel
  by_cases h5 : y = "parts"
  · subst h5; decide +kernel
  by_cases h6 : y = "tidy"
  · subst h6; decide +kernel
  by_cases h7 : y = "arm"
  · subst h7; decide +kernel
  by_cases h8 : y = "again"
  · subst h8; decide +kernel
  rw [if_neg h1, if_neg h2, if_neg h3, if_neg h4, if_neg h5, if_neg h6, if_neg h7, if_neg h8]
  unfold sortsL
  rw [valV_neg fun z => h1 (Sum.inr.inj z).symm, valV_neg fun z => h2 (Sum.inr.inj z).symm, valV_neg fun z => h3 (Sum.inr.inj z).symm, valV_neg fun z => h4 (Sum.inr.inj z).symm, valV_neg fun z => h5 (Sum.inr.inj z).symm, valV_neg fun z => h6 (Sum.inr.inj z).symm, valV_neg fun z => h7 (Sum.inr.inj z).symm, valV_neg fun z => h8 (Sum.inr.inj z).symm]
  rfl
/-! ### numbers and lists of them -/
def lawNums (w : Str) : List (Option Nat) := if w = "-" then [] else (Txt.split w ",").map fun x => lnO x 99
def lawKind (b : Bool) (w : Str) : PyData := if b = true then numD (lnO w 999) else if (lawNums w).any Option.isNone = true then .none else .tuple ((lawNums w).map numD)
theorem numO_lt {w : Str} {n : Nat} (h : numO w = some n) : n < 1000 := by
  unfold numO at h
  by_cases q : okW w = true ∧ Str.ofString (toString ((valW w : Nat) : Int)) = w
  · rw [if_pos q] at h
    cases h
    exact valW_lt q.1
  · rw [if_neg q] at h; cases h
theorem lnO_999 (w : Str) : lnO w 999 = numO w := by
  unfold lnO
  cases e : numO w with
  | none => rfl
  | some n =>
    have := numO_lt e
    show (if n ≤ 999 then some n else none) = some n
    rw [if_pos (by omega)]
theorem lnO_len {w : Str} {m n : Nat} (h : lnO w m = some n) : 1 ≤ w.length := by
  have h := (lnO_num h).1
  unfold numO at h
  by_cases q : okW w = true ∧ Str.ofString (toString ((valW w : Nat) : Int)) = w
  · have q1 := q.1
    unfold okW at q1
    have q2 := Bool.and_eq_true_iff.mp q1
    exact of_decide_eq_true (Bool.and_eq_true_iff.mp q2.2).1
  · rw [if_neg q] at h; cases h
theorem all_nums : ∀ ws : List Str, valsB (ws.map fun x => numD (numO x)) = !(ws.map fun x => lnO x 99).any Option.isNone
  | [] => rfl
  | w :: ws => by
    have ih := all_nums ws
    unfold valsB at ih ⊢
    rw [List.map_cons, List.map_cons, List.all_cons, List.any_cons, ih]
    have := isNum_lnO w 99
    rw [show ((99 : Nat) : Int) = 99 from rfl] at this
    rw [this]
    cases lnO w 99 <;> rfl
theorem eq_nums : ∀ ws : List Str, (ws.map fun x => lnO x 99).any Option.isNone = false → (ws.map fun x => lnO x 99).map numD = ws.map fun x => numD (numO x)
  | [], _ => rfl
  | w :: ws, h => by
    rw [List.map_cons, List.any_cons, Bool.or_eq_false_iff] at h
    rw [List.map_cons, List.map_cons, List.map_cons, eq_nums ws h.2]
    cases e : lnO w 99 with
    | none => rw [e] at h; exact absurd h.1 (by decide)
    | some n => rw [(lnO_num e).1]
theorem len_two : ∀ ws : List Str, (ws.map fun x => lnO x 99).any Option.isNone = false → 2 * ws.length ≤ szL ws
  | [], _ => Nat.zero_le _
  | w :: ws, h => by
    rw [List.map_cons, List.any_cons, Bool.or_eq_false_iff] at h
    have := len_two ws h.2
    rw [szL_cons, List.length_cons]
    cases e : lnO w 99 with
    | none => rw [e] at h; exact absurd h.1 (by decide)
    | some n => have := lnO_len e; omega
theorem comma_sz (x : Str) : szL (Txt.split x ",") = x.length + 1 := split_sz (s := 44) (by decide +kernel) (by decide +kernel)
theorem lawKind_eq {b : Bool} {w : Str} (h : w.length ≤ 590) : lawKind b w = kindW b w := by
  unfold lawKind kindW
  cases b with
  | true => rw [if_pos rfl, if_pos rfl, lnO_999]
  | false =>
    rw [if_neg Bool.false_ne_true, if_neg Bool.false_ne_true]
    unfold lawNums valsW
    by_cases e : w = "-"
    · rw [if_pos e, if_pos e]; rfl
    · rw [if_neg e, if_neg e]
      have q := all_nums (Txt.split w ",")
      have ew : numsW w = (Txt.split w ",").map fun x => numD (numO x) := rfl
      rw [ew, q]
      cases e2 : ((Txt.split w ",").map fun x => lnO x 99).any Option.isNone with
      | true => rw [if_pos rfl, if_neg fun z => by cases z.2]
      | false =>
        have l := len_two _ e2
        rw [comma_sz] at l
        rw [if_neg Bool.false_ne_true, if_pos ⟨by rw [List.length_map]; omega, rfl⟩, eq_nums _ e2]
theorem lawKinds_eq : ∀ (ks : List Bool) (ws : List Str), (∀ w ∈ ws, w.length ≤ 590) → List.zipWith lawKind ks ws = List.zipWith kindW ks ws
  | [], _, _ => by rw [List.zipWith_nil_left, List.zipWith_nil_left]
  | _ :: _, [], _ => rfl
  | b :: ks, w :: ws, h => by
    rw [List.zipWith_cons_cons, List.zipWith_cons_cons, lawKind_eq (h w List.mem_cons_self), lawKinds_eq ks ws fun x hx => h x (List.mem_cons_of_mem _ hx)]
/-! ### x in a tuple of data -/
section
variable {X : Cx}
def rInTD (K : PySem.W.Frag) : R2 := fun x y H Q => ∃ d ds, Dp K H x d ∧ Dp K H y (.tuple ds) ∧ SeqAt.shaped d = true ∧ SeqAt.shaped (.tuple ds) = true ∧ Q (.bl (ds.any fun z => PyData.eqv z d)) H
theorem op_inTD (hu : X.A.units + 65 < cLine) : OpR X (compareOp .In) (rInTD X.K) := by
  intro pins s σ H x y v u Q I rx ry h
  obtain ⟨d, ds, hd, he, sd, se, q⟩ := h
  obtain ⟨as, r1⟩ := Dp.reads I d x v hd rx
  obtain ⟨bs, r2⟩ := Dp.reads I (.tuple ds) y u he ry
  exact SeqAt.in_tuple_reads r2 r1 (SeqAt.canLay_of_shaped se) (SeqAt.canLay_of_shaped sd) (room_in_shaped sd hu) ⟨.bl _, H, I, rfl, q⟩
end
end GX
set_option maxHeartbeats 8000000
/-! slotpages.plays: _step_of -/
namespace GX
open PySem PySem.Spec PyProof.Rows L2 LamX
section
variable {P : Program} {w : World} {K : PySem.W.Frag} {mg : Str → Option Value} {base : Heap} {T : List (Addr × Str)} {Pc dS : Addr}
theorem u65 {k : Nat} {A : Around} (r : Room k A) : A.units + 65 < cLine := by have := r.un; omega
abbrev soN : List Str := ["row", "word", "words", "things", "kind", "told"]
theorem sc_step_of : FnScope soN ["row"] (defScope s_step_of) := ⟨rfl, rfl, rfl, by decide +kernel, rfl, by decide +kernel, by decide +kernel⟩
theorem ok_step_of {f : Addr} {fd : FuncData} (F : L2.Fun K "_step_of" "_step_of" s_step_of f fd) (B : Blt mg) (hz : mg "zip" = none) (S : ShF K w mg dS) (cN : Cal P w K mg base CX0 "number_of" ["word"] 1 spNumOf) (cV : Cal P w K mg base CX0 "_values_of" ["word"] 4 (spValsOf K T Pc)) :
    FnOk P w K mg base CX0 5 f fd ["row"] (spStepOf K T Pc) := by
  refine F.ok sc_step_of (fun vs H Q E h => by obtain ⟨x, rfl, _⟩ := h; rfl) (fun cdv A outer s H vs Q E hr h => ?_)
  obtain ⟨x, rfl, hx, hasc, hG, k⟩ := h
  have nd := sc_step_of.nd
  obtain ⟨es, n, KD⟩ := S.D
  refine ⟨_, pss_cons (ps_asg (pe_split (pv 0) pe_str) (pg_star (by rfl) (pgs_cons (pg_name (i := 1) nd rfl (.inl rfl)) (pgs_starred (pg_name (i := 2) nd rfl (.inl rfl))))))
    (pss_cons (ps_if (PW.pt (pw_or (pt_cmpR (op_notIn_kd KD) (pv 1) (pe_glob (v := .ref dS) (by rfl) S.m rfl) (by rfl)) (pw_or1 (pt_cmpR op_ne (pe_callB call_len_seq (by rfl) B.len PySem.boot_len (pa_cons (pv 2) pa_nil)) (pe_callB call_len_seq (by rfl) B.len PySem.boot_len (pa_cons (pe_ix ix_kdict (pe_glob (v := .ref dS) (by rfl) S.m rfl) (pv 1) (fun _ _ => rfl)) pa_nil)) (nomark _))))) (pss_one (ps_ret pe_non)) pss_nil)
    (pss_cons (ps_setLc (i := 3) (own := [("kind", 4), ("told", 5)]) (g := gTup K 2 (gCons (gName 4) (gCons (gName 5) gNil))) (tt := tYes) (te := _) (by rfl) nd rfl rfl (sw_true rfl rfl rfl (by decide)) (pi_zipG (by rfl) hz (pa_cons (pe_ix ix_kdict (pe_glob (v := .ref dS) (by rfl) S.m rfl) (pv 1) (fun _ _ => rfl)) (pa_cons (pv 2) pa_nil))) (blkOk_by (own := [("kind", 4), ("told", 5)]) (N := soN) (sc := defScope s_step_of) (by decide +kernel))
      (fun _ _ _ _ _ => pg_tup (by rfl) (pgs_cons (pg_name (i := 4) nd rfl (Or.inl rfl)) (pgs_cons (pg_name (i := 5) nd rfl (Or.inl rfl)) pgs_nil))) (fun _ _ _ _ _ => pts_nil) (fun _ _ _ _ _ => pe_ifExp (pt_cmpR op_eq (pv 4) pe_str (nomark _)) (pe_cal cN (hr.mono (by decide)) (pa_cons (pv 5) pa_nil)) (pe_cal cV hr (pa_cons (pv 5) pa_nil))))
    (pss_one (ps_ret (pe_ifExp (pt_cmpR (op_inD (u65 hr)) pe_non (pv 3) (by rfl)) pe_non (pe_tup (pa_cons (pv 1) (StX.pa_star (pv 3) pa_nil)))))))), ?_⟩
  obtain ⟨b1, b2, b3⟩ := blank_bounds x
  have basc := blank_asc hasc
  refine ⟨_, rfl, ⟨x, rfl⟩, x, " ", rfl, rfl, rfl, (by rw [sizeLine_eq]; omega), fun p hp => ?_⟩
  cases e : Txt.split x " " with
  | nil => exact absurd e b1
  | cons y ys =>
    rw [e] at b2 b3 basc k
    rw [List.length_cons] at b2
    refine ⟨p, .str y, ys.map V.str, rfl, SqL.of upd_same, by rw [List.length_map]; omega, fun q hq => ⟨_, _, rfl, _, _, rfl, rfl, ?_⟩⟩
    have x2 := (XX.new (T := T) (o := .lst ((y :: ys).map V.str)) hp).then_new (o := .lst (ys.map V.str)) hq
    have eq2 : upd (upd H p (.lst ((y :: ys).map V.str))) q (.lst (ys.map V.str)) q = some (.lst (ys.map V.str)) := upd_same
    generalize upd (upd H p (.lst ((y :: ys).map V.str))) q (.lst (ys.map V.str)) = H2 at x2 eq2 ⊢
    dsimp only [gName, tNext]
    have lys : (ys.map V.str).length = ys.length := List.length_map ..
    cases es1 : shapeW y with
    | none =>
      refine ⟨_, rfl, y, none, rfl, rfl, S.out y es1, _, rfl, iteT (iteT ?_)⟩
      rw [stepW_no es1] at k
      exact k _ _ x2 .non
    | some ks =>
      obtain ⟨t, nt, ht⟩ := S.inn y ks es1
      have kd : KDct K w dS y (.ref t) := ⟨es, n, .ref t, KD.at_, KD.lit, nt, rfl⟩
      have lk := shape_len es1
      have lkv : (ks.map kindV).length = ks.length := List.length_map ..
      refine ⟨_, rfl, y, some (.ref t), rfl, rfl, nt, _, rfl, iteF ?_⟩
      refine ⟨_, rfl, q, _, rfl, .inl (SqL.of eq2), _, rfl, dS, y, .ref t, rfl, rfl, kd, t, _, rfl, .inr (ht _), rfl, _, rfl, ?_⟩
      rw [stepW_so es1] at k
      by_cases hlen : ys.length = ks.length
      · rw [show (!decide (V.int ((ys.map V.str).length : Int) = V.int ((ks.map kindV).length : Int))) = false by rw [lys, lkv, hlen]; simp]
        rw [if_pos hlen] at k
        refine iteF ⟨_, rfl, dS, y, .ref t, rfl, rfl, kd, _, rfl, .t t, .l q, _, _, rfl, ht _, SqL.of eq2, fun D hD => ?_⟩
        refine lc_dpZ (T := T) (K := K) (k1 := .t t) (k2 := .l q) (by rw [lys, lkv, hlen]) (fun H' x' => ht _) (fun H' x' => x'.sqL (SqL.of eq2)) (fun j => kindW (ks.getD j true) (ys.getD j "")) hD (by rw [lkv, sizeLine_eq]; omega) (fun j _ => (nice_kind _ _).fl) (fun _ _ => rfl) (fun j xv yv H' Qe ex ey x' q' => ?_) (fun H' acc x' e1 da => ?_)
        · have hj1 := (List.getElem?_eq_some_iff.mp ex).1
          rw [lkv] at hj1
          have hj2 : j < ys.length := by omega
          rw [List.getElem?_map, List.getElem?_eq_getElem hj1] at ex
          rw [List.getElem?_map, List.getElem?_eq_getElem hj2] at ey
          obtain rfl : kindV ks[j] = xv := Option.some.inj ex
          obtain rfl : V.str ys[j] = yv := Option.some.inj ey
          have g1 : ks.getD j true = ks[j] := by rw [List.getD_eq_getElem?_getD, List.getElem?_eq_getElem hj1]; rfl
          have g2 : ys.getD j "" = ys[j] := by rw [List.getD_eq_getElem?_getD, List.getElem?_eq_getElem hj2]; rfl
          rw [g1, g2] at q'
          have ly := b3 _ (List.mem_cons_of_mem y (List.getElem_mem hj2))
          refine ⟨_, rfl, rfl, _, rfl, ?_⟩
          cases ekb : ks[j] with
          | true =>
            rw [ekb] at q'
            refine iteT ⟨_, rfl, ys[j], rfl, by rw [sizeLine_eq]; omega, q' H' _ (XX.refl H') (num_dp _)⟩
          | false =>
            rw [ekb] at q'
            refine iteF ⟨_, rfl, ys[j], rfl, by omega, (x2.trans x').tabG _ hG, fun H3 v x3 d3 => q' H3 v x3 d3⟩
        · have ez : (List.range (ks.map kindV).length).map (fun j => kindW (ks.getD j true) (ys.getD j "")) = List.zipWith kindW ks ys := by
            refine List.ext_getElem (by rw [List.length_map, List.length_range, List.length_zipWith, lkv, hlen]; simp) fun j h1 h2 => ?_
            rw [List.getElem_map, List.getElem_range, List.getElem_zipWith, List.getD_eq_getElem?_getD, List.getD_eq_getElem?_getD, List.getElem?_eq_getElem (by rw [List.length_zipWith] at h2; omega), List.getElem?_eq_getElem (by rw [List.length_zipWith] at h2; omega)]
            rfl
          rw [ez] at da
          have nz : ∀ d ∈ List.zipWith kindW ks ys, Nice d 1 := fun d hd => by
            obtain ⟨b, u, e⟩ := zip_mem hd
            rw [e]; exact nice_kind b u
          have lz : (List.zipWith kindW ks ys).length ≤ 2 := by rw [List.length_zipWith]; omega
          generalize List.zipWith kindW ks ys = ds at da nz lz k
          have la := dpAll_len da
          have sh : SeqAt.shaped (.list ds) = true := by
            have h1 : PyData.canLay0 (.list ds) = true := canLayAll_of fun d hd => (nz d hd).cl
            have h2 : PyData.depthAll ds ≤ 1 := depthAll_of fun d hd => (nz d hd).dp
            have h3 : PyData.depth (.list ds) ≤ 64 := by show PyData.depthAll ds + 1 ≤ 64; omega
            unfold SeqAt.shaped
            rw [h1, decide_eq_true h3] <;> rfl
          refine ⟨_, rfl, .none, ds, .non, .lst (SqL.of e1) da, by decide +kernel, sh, _, rfl, ?_⟩
          have x5 := x2.trans x'
          cases hn : noneB ds with
          | true =>
            rw [if_pos hn] at k
            have hn : (ds.any fun z => PyData.eqv z .none) = true := hn
            rw [hn]
            exact iteT (k _ _ x5 .non)
          | false =>
            rw [if_neg (by rw [hn]; decide)] at k
            have hn : (ds.any fun z => PyData.eqv z .none) = false := hn
            rw [hn]
            refine iteF ⟨_, rfl, _, rfl, D, acc, rfl, .inr (SqL.of e1), by rw [List.append_nil, List.length_cons, la, sizeLine_eq]; omega, fun r hr3 => k _ _ (x5.then_new hr3) ?_⟩
            rw [List.append_nil]
            exact .tup (SqT.of upd_same) (.cons (.str y) (Dp.xxAll (XX.new (T := T) hr3) _ _ da))
      · rw [show (!decide (V.int ((ys.map V.str).length : Int) = V.int ((ks.map kindV).length : Int))) = true by rw [lys, lkv]; simpa using fun z => hlen (by omega)]
        rw [if_neg hlen] at k
        exact iteT (k _ _ x2 .non)
end
end GX
set_option maxHeartbeats 2000000
namespace GX
open PySem PySem.Spec PyProof.Rows L2 LamX
/-- _law_page: some page, drawn -/
def spLPage (K : PySem.W.Frag) (T : List (Addr × Str)) : Sp := fun vs H Q _ => ∃ b l ns z, vs = [.ref b] ∧ BoxAt H b l ns z ∧
  ∀ H' ns' z' d v, XM T (fun c => c = b ∨ c = l) H H' → BoxAt H' b l ns' z' → Dp K H' v d → isPage d = true → Q v H'
end GX
/-! cells that are frozen while a def of the program is called, and hidden while a lambda's body runs: what is known there is known here -/
namespace GX
open PySem PySem.Spec PyProof.Rows L2 LamX
def Fz (S : Addr → Prop) (H : Hp) : Prop := ∀ b, S b → ∃ (o : Obj) (v : Option Value), H b = some (frzO o) ∧ o.data = .cell v
def WkE (H H' : Hp) : Prop := ∀ b o, H b = some o → (∀ ob, o ≠ frzO ob) → (∀ ps, o ≠ .tbl ps) → H' b = some o
section
variable {T : List (Addr × Str)} {S S' : Addr → Prop} {H H1 H2 H' : Hp} {K : PySem.W.Frag}
theorem WkE.rd (a : WkE H H') {p : Addr} {o : HO} (n : ∀ ob, o ≠ frzO ob) (t : ∀ ps, o ≠ .tbl ps) (m : ∀ ob ob', HO.frz ob o ≠ frzO ob') (h : Rd H p o) : Rd H' p o := by
  rcases h with h | ⟨ob, h⟩
  · exact .inl (a _ _ h n t)
  · exact .inr ⟨ob, a _ _ h (m ob) fun ps z => by cases z⟩
theorem WkE.sqL (a : WkE H H') {p : Addr} {xs : List V} (h : SqL K H p xs) : SqL K H' p xs := by
  rcases h with h | h
  · exact .inl (a.rd (fun ob z => by cases z) (fun ps z => by cases z) (fun ob ob' z => by cases z) h)
  · exact .inr h
theorem WkE.sqT (a : WkE H H') {p : Addr} {xs : List V} (h : SqT K H p xs) : SqT K H' p xs := by
  rcases h with h | h
  · exact .inl (a.rd (fun ob z => by cases z) (fun ps z => by cases z) (fun ob ob' z => by cases z) h)
  · exact .inr h
mutual
theorem Dp.wk (a : WkE H H') : ∀ (d : PyData) (v : V), Dp K H v d → Dp K H' v d
  | .none, _, h => by cases h; exact .non
  | .bool _, _, h => by cases h; exact .bl _
  | .int _, _, h => by cases h; exact .int _
  | .str _, _, h => by cases h; exact .str _
  | .list ds, _, h => by
    cases h with
    | lst hs ha => exact .lst (a.sqL hs) (Dp.wkAll a ds _ ha)
  | .tuple ds, _, h => by
    cases h with
    | tup hs ha => exact .tup (a.sqT hs) (Dp.wkAll a ds _ ha)
  | .dict _, _, h => by cases h
theorem Dp.wkAll (a : WkE H H') : ∀ (ds : List PyData) (vs : List V), DpAll K H vs ds → DpAll K H' vs ds
  | [], _, h => by cases h; exact .nil
  | d :: ds, _, h => by
    cases h with
    | cons h1 h2 => exact .cons (Dp.wk a d _ h1) (Dp.wkAll a ds _ h2)
end
theorem Fz.no (f : Fz S H) {b : Addr} {o : HO} (e : H b = some o) (n : ∀ ob, o ≠ frzO ob) : ¬ S b := fun h => by
  obtain ⟨ob, v, q, _⟩ := f b h
  rw [e] at q
  exact n ob (Option.some.inj q)
theorem Fz.un (f : Fz S H) {b : Addr} {o : HO} (e : H b = some o) (n : ∀ ob, o ≠ frzO ob) : unf S H b = some o := by rw [unf_out (f.no e n)]; exact e
theorem Fz.wk (f : Fz S H) : WkE H (unf S H) := fun b o e n _ => f.un e n
theorem Fz.xm (f : Fz S H) (a : XM T S' H H') : Fz S H' := fun b h => by
  obtain ⟨ob, v, q, d⟩ := f b h
  exact ⟨ob, v, a.frz _ _ _ q, d⟩
theorem Fz.xx (f : Fz S H) (a : XX T H H') : Fz S H' := f.xm (S' := fun _ => False) a.xm
theorem Fz.sub (f : Fz S H) (h : ∀ b, S' b → S b) : Fz S' H := fun b hb => f b (h b hb)
theorem codeO_nf {c : Addr} {q : Str} (ob : Obj) : CodeO c q ≠ frzO ob := fun z => by
  unfold CodeO at z
  cases z
theorem tab_nf (ps : Array Value) (ob : Obj) : HO.tbl ps ≠ frzO ob := fun z => by cases z
/-- known outside the frozen things -/
theorem Fz.tabs (f : Fz S H) (t : Tabs T H) : Tabs T (unf S H) := fun p hp => by
  obtain ⟨ps, h1, h2, h3⟩ := t p hp
  refine ⟨ps, f.un h1 (tab_nf ps), h2, fun pos cv hc => ?_⟩
  obtain ⟨c, e1, e2⟩ := h3 pos cv hc
  exact ⟨c, e1, f.un e2 codeO_nf⟩
theorem Fz.tabG (f : Fz S H) {p : Addr} (t : GxR.TabG H p) : GxR.TabG (unf S H) p := by
  obtain ⟨ps, h1, h2⟩ := t
  exact ⟨ps, f.un h1 (tab_nf ps), h2⟩
/-- H outside of S is H1, and at S there stood nothing -/
structure Fr (S : Addr → Prop) (H1 H2 : Hp) : Prop where
  out : ∀ b, ¬ S b → H2 b = H1 b
  free : ∀ b, S b → H1 b = none
  any : Fz S H2
theorem Fr.ext (z : Fr S H1 H2) {b : Addr} {o : HO} (e : H1 b = some o) : H2 b = some o := by
  by_cases hb : S b
  · rw [z.free b hb] at e; cases e
  · rw [z.out b hb]; exact e
theorem Fr.no (z : Fr S H1 H2) {b : Addr} {o : HO} (e : H1 b = some o) : ¬ S b := fun h => by rw [z.free b h] at e; cases e
/-- behind the call -/
theorem Fr.back (z : Fr S H1 H2) (a : XM T S' H2 H') : XM T S' H1 (unf S H') := by
  have f := z.any.xm a
  refine ⟨fun b o e n t => ?_, fun b o e => ?_, fun b xs e => ?_, fun b o u e => ?_, fun p h => ?_, fun h => ?_⟩
  · rw [unf_out (z.no e)]; exact a.keep b o (z.ext e) n t
  · obtain ⟨o', e'⟩ := a.there b o (z.ext e)
    exact ⟨o', by rw [unf_out (z.no e)]; exact e'⟩
  · rw [unf_out (z.no e)]; exact a.tup b xs (z.ext e)
  · rw [unf_out (z.no e)]; exact a.frz b o u (z.ext e)
  · obtain ⟨ps, h1, h2⟩ := h
    exact f.tabG (a.tabG p ⟨ps, z.ext h1, h2⟩)
  · exact f.tabs (a.tabs (h.ext fun b o e => z.ext e))
/-- behind a lambda's body -/
theorem Fz.ref (f : Fz S H2) (a : XM T S' (unf S H2) H') (hn : ∀ b, S b → H' b = none) : XM T S' H2 (ref2 S H2 H') := by
  have nS : ∀ {b o}, H' b = some o → ¬ S b := fun {b o} e h => by rw [hn b h] at e; cases e
  refine ⟨fun b o e n t => ?_, fun b o e => ?_, fun b xs e => ?_, fun b o u e => ?_, fun p h => ?_, fun h => ?_⟩
  · by_cases hb : S b
    · rw [ref2_in hb]; exact e
    · rw [ref2_out hb]; exact a.keep b o (by rw [unf_out hb]; exact e) n t
  · by_cases hb : S b
    · exact ⟨o, by rw [ref2_in hb]; exact e⟩
    · obtain ⟨o', e'⟩ := a.there b o (by rw [unf_out hb]; exact e)
      exact ⟨o', by rw [ref2_out hb]; exact e'⟩
  · by_cases hb : S b
    · rw [ref2_in hb]; exact e
    · rw [ref2_out hb]; exact a.tup b xs (by rw [unf_out hb]; exact e)
  · by_cases hb : S b
    · rw [ref2_in hb]; exact e
    · rw [ref2_out hb]; exact a.frz b o u (by rw [unf_out hb]; exact e)
  · obtain ⟨ps, h1, h2⟩ := a.tabG p (f.tabG h)
    exact ⟨ps, by rw [ref2_out (nS h1)]; exact h1, h2⟩
  · intro p hp
    obtain ⟨ps, h1, h2, h3⟩ := a.tabs (f.tabs h) p hp
    refine ⟨ps, by rw [ref2_out (nS h1)]; exact h1, h2, fun pos cv hc => ?_⟩
    obtain ⟨c, e1, e2⟩ := h3 pos cv hc
    exact ⟨c, e1, by rw [ref2_out (nS e2)]; exact e2⟩
theorem ref_at (hn : ∀ b, S b → H' b = none) {b : Addr} {o : HO} (e : H' b = some o) : ref2 S H2 H' b = some o := by
  have nS : ¬ S b := fun h => by rw [hn b h] at e; cases e
  rw [ref2_out nS]; exact e
theorem ref_ext (hn : ∀ b, S b → H' b = none) : XX T H' (ref2 S H2 H') := XX.of fun b o e => by
  have nS : ¬ S b := fun h => by rw [hn b h] at e; cases e
  rw [ref2_out nS]; exact e
/-- into the lambda's body -/
theorem Fr.into (z : Fr S H1 H2) (h : ∀ b, S' b → S b) : XX T H1 (unf S' H2) := XX.of fun b o e => by
  rw [unf_out fun q => z.no e (h b q)]; exact z.ext e
theorem Fr.xx (z : Fr S H1 H2) : XX T H1 H2 := XX.of fun b o e => z.ext e
theorem fr_of {X : Cx} {σ : L2.St} (z : Frozen X σ H1 H2) : Fr (CellOf X) H1 H2 := ⟨z.out, z.free, z.any⟩
theorem BoxAt.wk {b l : Addr} {ns : List Int} {z : Int} (h : BoxAt H b l ns z) (a : WkE H H') : BoxAt H' b l ns z := ⟨a _ _ h.hb (fun ob z => by cases z) (fun ps z => by cases z), a _ _ h.hl (fun ob z => by cases z) (fun ps z => by cases z), h.ne, h.lo, h.hi, h.len⟩
theorem DiskAt.wk {C p dx l : Addr} {pages : List PyData} {done : Int} {left : Option Int} {stands : Bool} (d : DiskAt K C H p dx l pages done left stands) (a : WkE H H') : DiskAt K C H' p dx l pages done left stands := by
  obtain ⟨xs, h, hd⟩ := d.lst
  exact ⟨a _ _ d.ins (fun ob z => by cases z) (fun ps z => by cases z), ⟨xs, a _ _ h (fun ob z => by cases z) (fun ps z => by cases z), Dp.wkAll a _ _ hd⟩, d.flat⟩
end
end GX
/-! a lambda over the maker's cells, handed to _law_told -/
namespace GX
open PySem PySem.Spec PyProof.Rows L2 LamX
def capB (sc scope : Scope) (N Nl : List Str) (js : List Nat) : Bool :=
  lamSB sc scope && decide (Nl.length = js.length) &&
    ((List.range js.length).all fun i => match Nl[i]?, js[i]? with
      | some y, some j => decide (N[j]? = some y) && decide (sc.names.lookup y = some .cell) && decide (scope.names.lookup y = some .free)
      | _, _ => false) && scope.names.all fun y => !decide (y.2 = .free) || decide (sc.names.lookup y.1 = some .cell)
structure CapS (sc scope : Scope) (N Nl : List Str) (js : List Nat) : Prop where
  L : LamS sc scope
  len : Nl.length = js.length
  at_ : ∀ (i : Nat) (y : Str), Nl[i]? = some y → ∃ j, js[i]? = some j ∧ N[j]? = some y ∧ sc.names.lookup y = some .cell ∧ scope.names.lookup y = some .free
  cell : ∀ y ∈ scope.names, y.2 = .free → sc.names.lookup y.1 = some .cell
theorem cap_by {sc scope : Scope} {N Nl : List Str} {js : List Nat} (h : capB sc scope N Nl js = true) : CapS sc scope N Nl js := by
  unfold capB at h
  simp only [Bool.and_eq_true, Bool.or_eq_true, Bool.not_eq_true', decide_eq_true_eq, decide_eq_false_iff_not, List.all_eq_true] at h
  obtain ⟨⟨⟨h1, h2⟩, h3⟩, h4⟩ := h
  refine ⟨lamS_by h1, h2, fun i y e => ?_, fun y hy e => ?_⟩
  · have hi : i < js.length := by
      have := (List.getElem?_eq_some_iff.mp e).1
      omega
    have q := h3 i (List.mem_range.mpr hi)
    rw [e, List.getElem?_eq_getElem hi] at q
    simp only [Bool.and_eq_true, decide_eq_true_eq] at q
    exact ⟨js[i], List.getElem?_eq_getElem hi, q.1.1, q.1.2, q.2⟩
  · rcases h4 y hy with z | z
    · exact absurd e z
    · exact z
def capS (σ : L2.St) (js : List Nat) : L2.St := js.map fun j => (σ[j]?).getD none
theorem capS_at {σ : L2.St} {js : List Nat} {i : Nat} {v : V} (h : (capS σ js)[i]? = some (some v)) : ∃ j, js[i]? = some j ∧ σ[j]? = some (some v) := by
  unfold capS at h
  rw [List.getElem?_map] at h
  cases e : js[i]? with
  | none => rw [e] at h; cases h
  | some j =>
    rw [e] at h
    have h : (σ[j]?).getD none = some v := Option.some.inj h
    refine ⟨j, rfl, ?_⟩
    cases e2 : σ[j]? with
    | none => rw [e2] at h; cases h
    | some o =>
      rw [e2] at h
      have h : o = some v := h
      rw [h]
section
variable {X : Cx} {σ : L2.St} {Hx H2 : Hp} {sc scope : Scope} {params : Arguments} {body : Expr} {q : Str} {f c' : Addr} {dV doc pm ctv : Value} {k n : Nat} {tb : XK → TE} {Nl : List Str} {js : List Nat} {T : List (Addr × Str)} {cE : Addr} {cs : Fin 9 → Addr} {Q : VK}
theorem cap_free (cap : CapS sc scope X.N Nl js) (hce : X.env.cells = cellsFrom n sc.names []) : ∀ y ∈ scope.names, y.2 = .free → ∃ c, X.env.cells.lookup y.1 = some c := fun y hy e => by
  obtain ⟨c, hm⟩ := cells_has (n := n) (acc := []) (PySem.mem_of_lookup (cap.cell y hy e))
  rw [hce]
  exact mem_lookup hm
theorem cap_clos (cap : CapS sc scope X.N Nl js) : ∀ y, (scope.names.lookup y = some .cell ∨ scope.names.lookup y = some .free) → ∃ c, (cloFrom X.env.cells scope.names []).lookup y = some c := fun y h => by
  rcases h with h | h
  · exact absurd rfl (cap.L.own _ (PySem.mem_of_lookup h)).2
  · exact mem_lookup (cloFrom_has (PySem.mem_of_lookup h))
theorem lamAt_frz {D : Value → Hp → Prop} (z : Frozen X σ Hx H2) (cap : CapS sc scope X.N Nl js) (hce : X.env.cells = cellsFrom n sc.names []) (hsc : X.env.scope = sc) (hf : H2 f = some (frzO (lamObj q params body scope (cloFrom X.env.cells scope.names []) dV doc pm c' ctv))) (hc : H2 c' = some (CodeO c' q)) (hD : D dV H2) :
    LamAt q params body scope (cloFrom X.env.cells scope.names []) dV doc pm c' ctv D Nl (capS σ js) f H2 := by
  refine ⟨hf, hc, hD, fun y c e => ?_⟩
  have ec := clo_cm (cap_free cap hce) e
  obtain ⟨o, v, e1, e2⟩ := z.any c ⟨y, ec⟩
  refine ⟨o, v, e1, e2, fun i x h1 h2 => ?_⟩
  obtain ⟨j, h3, h4⟩ := capS_at h2
  obtain ⟨j', h5, h6, h7, h8⟩ := cap.at_ i y h1
  rw [h3] at h5
  cases h5
  obtain ⟨o', u, q1, q2, r⟩ := z.cell y c j x ec h6 (by rw [hsc]; exact .inr (.inl h7)) (by rw [hsc, h7]; exact fun z => by cases z) h4
  rw [e1] at q1
  cases q1
  rw [e2] at q2
  cases q2
  exact ⟨u, rfl, r⟩
/-- the reading of the lambda's body in its own words -/
def LamBody (X : Cx) (T : List (Addr × Str)) (cE : Addr) (cs : Fin 9 → Addr) (tb : XK → TE) (τ : L2.St) (Hx : Hp) (Q : VK) : Prop := ∀ Hl, XX T Hx Hl → ∀ (E : XK) (Q2 : VK),
  (∀ (S' : Addr → Prop) v H', XM T S' Hl H' → (∀ HT, XM T S' Hx (unf (CellOf X) HT) → WkE H' (unf (CellOf X) HT) → Q v HT) → Q2 v H') →
  (∀ (S' : Addr → Prop) i D H', i.1 ≠ 4 → EIs X.K cE cs i D → XM T S' Hl H' → (∀ HT v, XM T S' Hx (unf (CellOf X) HT) → WkE H' (unf (CellOf X) HT) → Dp X.K (unf (CellOf X) HT) v (toldD i) → Q v HT) → E (.ref D) none H') → tb E τ Hl Q2
theorem told_lam (z : Frozen X σ Hx H2) (cap : CapS sc scope X.N Nl js) (hce : X.env.cells = cellsFrom n sc.names []) (hsc : X.env.scope = sc) (inj : InjC (cloFrom X.env.cells scope.names []))
    (hf : Hx f = some (frzO (lamObj q params body scope (cloFrom X.env.cells scope.names []) dV doc pm c' ctv))) (hd : dV = .none) (hc : Hx c' = some (CodeO c' q))
    (hbind : ∀ (doc pm cv ctv : Value), bindArgs (PySem.W.kdv_fn "<lambda>" q params (.expr body) scope (cloFrom X.env.cells scope.names []) .none doc pm cv ctv) ⟨[], []⟩ = pure [])
    (hbody : ∀ (A : Around) (outer : List Env) (s : Shared) (H : Hp) (E : XK), Room k (A.deeper (PySem.W.envX q scope s.heap.objs.size f (.ref c') (cloFrom X.env.cells scope.names []))) → PE (lCx X.prog X.w X.K X.mg X.base Nl q scope f c' (cloFrom X.env.cells scope.names []) A outer s H E) body (tb E))
    (h : LamBody X T cE cs tb (capS σ js) Hx Q) : spTold X.prog X.w X.K X.mg X.base T cE cs (k + 1) [.ref f] H2 Q E0 := by
  have Z := fr_of z
  have sub : ∀ b, CS (cloFrom X.env.cells scope.names []) b → CellOf X b := fun b hb => by
    obtain ⟨y, e⟩ := hb
    exact ⟨y, clo_cm (cap_free cap hce) e⟩
  have fz1 : Fz (CS (cloFrom X.env.cells scope.names [])) H2 := Z.any.sub sub
  have f2 := Z.ext hf
  have c2 := Z.ext hc
  refine ⟨f, _, _, rfl, ⟨_, _, _, f2, rfl⟩, callOk_lam0 (τ := capS σ js) (Nl := Nl) (dV := dV) (doc := doc) (pm := pm) (ctv := ctv) ⟨cap.L.kind, cap.L.co, cap.L.gen, fun y hy => (cap.L.own y hy).2⟩ inj (cap_clos cap) (by unfold capS; rw [List.length_map]; exact cap.len.symm) (fun i y e => ?_) hbind hbody, lamAt_frz z cap hce hsc f2 c2 hd, fun E hE => ?_⟩
  · obtain ⟨j, _, _, _, e2⟩ := cap.at_ i y e
    rw [e2]
    exact fun z => by cases z
  · refine h _ (Z.into sub) _ _ (fun S' v H' a q hn => ?_) (fun S' i D H' h4 hE' a q hn => ?_)
    · have a2 := fz1.ref a hn
      exact q _ (Z.back a2) fun b o e n t => (Z.any.xm a2).un (ref_at hn e) n
    · have a2 := fz1.ref a hn
      refine hE _ i D h4 hE' fun H'' v x dp => ?_
      have a3 := a2.trans x.xm
      exact q _ v (Z.back a3) (fun b o e n t => (Z.any.xm a3).un (x.keep b o (ref_at hn e) t) n) (Dp.wk (Z.any.xm a3).wk _ _ dp)
end
end GX
namespace GX
open PySem PySem.Spec PyProof.Rows L2 LamX
theorem pe_calF {X : Cx} {ps : List Str} {k : Nat} {sp : Sp} {x : Str} {p pos : Pos} {e : Expr} {es : List Expr} {t : TA} (c : Cal X.prog X.w X.K X.mg X.base CX0 x ps k sp) (hr : Room k X.A) (hfn : ∀ y, X.fn y = true) (ha : PA X (e :: es) t) (hg : Gl X x := by rfl) (hdb : (x == ("__debug__" : Str)) = false := by decide)
    (he : starEach (e :: es) X.env = (false, eval e X.env) :: starEach es X.env := by rfl) (hpl : (backTo pos (starEach es X.env)).any (·.1) = false := by rfl) : PE X (.Call (.Name x p) (e :: es) [] pos) (tCallF X sp t) := by
  obtain ⟨f, fd, c⟩ := c
  exact pe_callF c.F hr hfn hg c.m c.kp c.b ha hdb he hpl
end GX
/-! a lambda over the maker's cells, handed to _law_told; it may raise BadText -/
namespace GX
open PySem PySem.Spec PyProof.Rows L2 LamX
section
variable {X : Cx} {σ : L2.St} {Hx H2 : Hp} {sc scope : Scope} {params : Arguments} {body : Expr} {q : Str} {f c' : Addr} {dV doc pm ctv : Value} {k n : Nat} {tb : XK → TE} {Nl : List Str} {js : List Nat} {T : List (Addr × Str)} {cE : Addr} {cs : Fin 9 → Addr} {Q : VK}
/-- the reading of the lambda's body in its own words -/
def LamBodyB (X : Cx) (T : List (Addr × Str)) (cE : Addr) (cs : Fin 9 → Addr) (tb : XK → TE) (τ : L2.St) (Hx : Hp) (Q : VK) : Prop := ∀ Hl, XX T Hx Hl → ∀ (E : XK) (Q2 : VK),
  (∀ (S' : Addr → Prop) v H', XM T S' Hl H' → (∀ HT, XM T S' Hx (unf (CellOf X) HT) → WkE H' (unf (CellOf X) HT) → Q v HT) → Q2 v H') →
  (∀ (S' : Addr → Prop) D m d H', EBt X.K cE cs D → H' d = some (.xd (lnF m)) → XM T S' Hl H' → (∀ HT v, XM T S' Hx (unf (CellOf X) HT) → WkE H' (unf (CellOf X) HT) → Dp X.K (unf (CellOf X) HT) v (toldB m) → Q v HT) → E (.ref D) (some d) H') → tb E τ Hl Q2
theorem told_lamB (z : Frozen X σ Hx H2) (cap : CapS sc scope X.N Nl js) (hce : X.env.cells = cellsFrom n sc.names []) (hsc : X.env.scope = sc) (inj : InjC (cloFrom X.env.cells scope.names []))
    (hf : Hx f = some (frzO (lamObj q params body scope (cloFrom X.env.cells scope.names []) dV doc pm c' ctv))) (hd : dV = .none) (hc : Hx c' = some (CodeO c' q))
    (hbind : ∀ (doc pm cv ctv : Value), bindArgs (PySem.W.kdv_fn "<lambda>" q params (.expr body) scope (cloFrom X.env.cells scope.names []) .none doc pm cv ctv) ⟨[], []⟩ = pure [])
    (hbody : ∀ (A : Around) (outer : List Env) (s : Shared) (H : Hp) (E : XK), Room k (A.deeper (PySem.W.envX q scope s.heap.objs.size f (.ref c') (cloFrom X.env.cells scope.names []))) → PE (lCx X.prog X.w X.K X.mg X.base Nl q scope f c' (cloFrom X.env.cells scope.names []) A outer s H E) body (tb E))
    (h : LamBodyB X T cE cs tb (capS σ js) Hx Q) : spToldB X.prog X.w X.K X.mg X.base T cE cs (k + 1) [.ref f] H2 Q E0 := by
  have Z := fr_of z
  have sub : ∀ b, CS (cloFrom X.env.cells scope.names []) b → CellOf X b := fun b hb => by
    obtain ⟨y, e⟩ := hb
    exact ⟨y, clo_cm (cap_free cap hce) e⟩
  have fz1 : Fz (CS (cloFrom X.env.cells scope.names [])) H2 := Z.any.sub sub
  have f2 := Z.ext hf
  have c2 := Z.ext hc
  refine ⟨f, _, _, rfl, ⟨_, _, _, f2, rfl⟩, callOk_lam0 (τ := capS σ js) (Nl := Nl) (dV := dV) (doc := doc) (pm := pm) (ctv := ctv) ⟨cap.L.kind, cap.L.co, cap.L.gen, fun y hy => (cap.L.own y hy).2⟩ inj (cap_clos cap) (by unfold capS; rw [List.length_map]; exact cap.len.symm) (fun i y e => ?_) hbind hbody, lamAt_frz z cap hce hsc f2 c2 hd, fun E hE => ?_⟩
  · obtain ⟨j, _, _, _, e2⟩ := cap.at_ i y e
    rw [e2]
    exact fun z => by cases z
  · refine h _ (Z.into sub) _ _ (fun S' v H' a q hn => ?_) (fun S' D m d H' hE' hd' a q hn => ?_)
    · have a2 := fz1.ref a hn
      exact q _ (Z.back a2) fun b o e n t => (Z.any.xm a2).un (ref_at hn e) n
    · have a2 := fz1.ref a hn
      refine hE _ D m d hE' (ref_at hn hd') fun H'' v x dp => ?_
      have a3 := a2.trans x.xm
      exact q _ v (Z.back a3) (fun b o e n t => (Z.any.xm a3).un (x.keep b o (ref_at hn e) t) n) (Dp.wk (Z.any.xm a3).wk _ _ dp)
end
end GX
set_option maxHeartbeats 8000000
/-! slotpages.plays: read_steps -/
namespace GX
open PySem PySem.Spec PyProof.Rows L2 LamX
def isN : PyData → Bool
  | .none => true
  | _ => false
def rdSteps : List Str → Nat → List PyData → Except Nat (List PyData)
  | [], _, acc => .ok acc
  | r :: rs, i, acc => if isN (stepW (Txt.split r " ")) = true then .error i else rdSteps rs (i + 1) (acc ++ [stepW (Txt.split r " ")])
def readS (t : Str) : Except Nat (List PyData) := rdSteps (rowsW t) 0 []
theorem isN_v {K : PySem.W.Frag} {H : Hp} {v : V} {d : PyData} (h : Dp K H v d) : isN d = decide (v = .non) := by
  cases h <;> first | rfl | (rw [decide_eq_false (fun z => by cases z)]; rfl)
def spReadS (K : PySem.W.Frag) (T : List (Addr × Str)) (Pc D : Addr) : Sp := fun vs H Q E => ∃ t : Str, vs = [.str t] ∧ t.length ≤ 15000 ∧ Asc t ∧ GxR.TabG H Pc ∧
  (∀ ds, readS t = .ok ds → ∀ H' v, XX T H H' → Dp K H' v (.list ds) → Q v H') ∧ (∀ n : Nat, readS t = .error n → ∀ H' d, XX T H H' → H' d = some (.xd (lnF n)) → E (.ref D) (some d) H')
section
variable {P : Program} {w : World} {K : PySem.W.Frag} {mg : Str → Option Value} {base : Heap} {T : List (Addr × Str)} {D fI Pc : Addr} {fdI : FuncData}
abbrev rsN : List Str := ["text", "steps", "line", "row", "step"]
theorem sc_read_steps : FnScope rsN ["text"] (defScope s_read_steps) := ⟨rfl, rfl, rfl, by decide +kernel, rfl, by decide +kernel, by decide +kernel⟩
theorem ok_read_steps {f : Addr} {fd : FuncData} (F : L2.Fun K "read_steps" "read_steps" s_read_steps f fd) (he : mg "enumerate" = none) (U : BtF P w K mg base D fI fdI)
    (cR : Cal P w K mg base CX0 "rows_of" ["text"] 1 (spRows K T)) (cS : Cal P w K mg base CX0 "_step_of" ["row"] 5 (spStepOf K T Pc)) : FnOk P w K mg base (L2.CX P w) 6 f fd ["text"] (spReadS K T Pc D) := by
  refine F.okX sc_read_steps (fun vs H Q E h => by obtain ⟨x, rfl, _⟩ := h; rfl) (fun cdv A outer s H vs Q E hr h => ?_)
  obtain ⟨t, rfl, ht, hasc, hG, kq, ke⟩ := h
  have nd := sc_read_steps.nd
  refine ⟨_, pss_cons (ps_set (i := 1) nd rfl (.inl rfl) (pe_lst pa_nil))
    (pss_cons (ps_for (passes_of rfl) rfl (pi_enum (by rfl) he (pa_cons (pe_cal cR (hr.mono (by decide)) (pa_cons (pv 0) pa_nil)) pa_nil)) (pg_tup (by rfl) (pgs_cons (pg_name (i := 2) nd rfl (.inl rfl)) (pgs_cons (pg_name (i := 3) nd rfl (.inl rfl)) pgs_nil)))
      (pss_cons (ps_set (i := 4) nd rfl (.inl rfl) (pe_cal cS hr (pa_cons (pv 3) pa_nil)))
      (pss_cons (ps_if (pt_cmpR op_isN (pv 4) pe_non (nomark _)) (pss_one (ps_raise rfl (takes_of rfl rfl rfl rfl) (pmk_oex (ds := []) (dvs := []) U.oex U.iC U.tI U.F (hr.mono (by decide)) U.b .nil pass0 (by rfl) U.m (pa_cons (pv 2) pa_nil)))) pss_nil)
      (pss_one (ps_expr (pe_bm PySem.F.plainAttrs_list PySem.F.slot_list_append PySem.F.type_list_append mt_append (pv 1) (pa_cons (pv 4) pa_nil)))))))
    (pss_one (ps_ret (pv 1)))), ?_⟩
  have hlen := rows_len ht
  have hrows := rows_each ht hasc
  have hlm : ((rowsW t).map V.str).length = (rowsW t).length := List.length_map ..
  refine ⟨Nat.zero_le _, fun sh hsh => ?_⟩
  have x1 := (XX.new (T := T) (o := .lst []) hsh)
  dsimp only [gName]
  refine ⟨_, rfl, t, rfl, by rw [sizeLine_eq]; omega, fun H3 rw x3 nrw hrw => ⟨rw, _, rfl, SqL.of hrw, ?_⟩⟩
  have nr1 : rw ≠ sh := fun z => by rw [z, upd_same] at nrw; cases nrw
  refine for_it (walk_enum (K := K) (a := rw) (xs := (rowsW t).map V.str)) (fun i σ' H' => ∃ acc xs u2 u3 u4, σ' = [some (.str t), some (.ref sh), u2, u3, u4] ∧ XX T H H' ∧ H' sh = some (.lst xs) ∧ DpAll K H' xs acc ∧ (∀ d ∈ acc, flatD d = true) ∧ acc.length = i ∧ rdSteps ((rowsW t).drop i) i acc = readS t ∧ H' rw = some (.lst ((rowsW t).map V.str)))
    ⟨[], [], _, _, _, rfl, x1.trans x3, x3.lst upd_same, .nil, fun d hd => absurd hd (by simp), rfl, rfl, hrw⟩
    (fun i σ' H' _ pv => by obtain ⟨_, _, _, _, _, _, _, _, _, _, _, _, r⟩ := pv; exact SqL.of r) (fun i v σ' H' H'' hi pv yy => ?_) (fun σ' H' pv => ?_)
  · obtain ⟨acc, xs, u2, u3, u4, rfl, x4, e4, d4, f4, l4, g4, r4⟩ := pv
    obtain ⟨Tt, a, b, rfl, nT, rfl, ea, eb⟩ := yy
    cases ea
    rw [hlm] at hi
    have eb : ((rowsW t).map V.str)[i]? = some b := eb
    rw [List.getElem?_map, List.getElem?_eq_getElem hi] at eb
    cases eb
    have xt := XX.new (T := T) (o := .tup [V.int (i : Nat), V.str (rowsW t)[i]]) nT
    have hrow := hrows _ (List.getElem_mem hi)
    rw [List.drop_eq_getElem_cons hi] at g4
    unfold rdSteps at g4
    refine ⟨Tt, _, rfl, SqT.of upd_same, rfl, _, _, rfl, _, _, rfl, rfl, ?_⟩
    have x5 := x4.trans xt
    refine ⟨_, rfl, (rowsW t)[i], rfl, hrow.1, hrow.2, x5.tabG _ hG, fun H6 v6 x6 d6 => ?_⟩
    have fl6 := (nice_step (blank_asc hrow.2)).fl
    have n6 := isN_v d6
    dsimp only [gName, tNext]
    have e6 := (xt.trans x6).lst e4
    have D6 := Dp.xxAll (xt.trans x6) _ _ d4
    have r6 := (xt.trans x6).lst r4
    have X6 := x5.trans x6
    have el : xs.length = i := by rw [dpAll_len d4, l4]
    refine ⟨_, rfl, rfl, _, rfl, ?_⟩
    by_cases hv : v6 = .non
    · rw [decide_eq_true hv] at n6 ⊢
      rw [if_pos n6] at g4
      exact iteT ⟨_, rfl, bt_made (small_log (by omega)) fun d hd => ke i g4.symm _ d (X6.then_new hd) upd_same⟩
    · rw [decide_eq_false hv] at n6 ⊢
      rw [if_neg (by rw [n6]; decide)] at g4
      have xm : XM T (fun c => c = sh) H6 (upd H6 sh (.lst (xs ++ [v6]))) := XM.upd e6 rfl True.intro
      refine iteF ⟨_, rfl, .inl ⟨rfl, _, SqL.of e6⟩, _, rfl, sh, xs, v6, rfl, rfl, e6, by rw [sizeLine_eq]; omega, ?_⟩
      refine ⟨acc ++ [stepW (Txt.split (rowsW t)[i] " ")], xs ++ [v6], _, _, _, rfl, X6.fillD hsh e6, upd_same, dpAll_snoc (dpAll_xm xm f4 D6) (Dp.xm xm _ _ fl6 d6), fun d hd => ?_, by rw [List.length_append, l4]; rfl, g4, by rw [upd_ne nr1]; exact r6⟩
      rcases List.mem_append.mp hd with hd | hd
      · exact f4 d hd
      · rw [List.mem_singleton.mp hd]; exact fl6
  · obtain ⟨acc, xs, u2, u3, u4, rfl, x4, e4, d4, f4, l4, g4, r4⟩ := pv
    rw [hlm, List.drop_length] at g4
    unfold rdSteps at g4
    exact ⟨_, rfl, kq acc g4.symm _ _ x4 (.lst (SqL.of e4) d4)⟩
end
end GX
set_option maxHeartbeats 4000000
/-! steps that were written are read back -/
namespace GX
open PySem PySem.Spec PyProof.Rows L2 LamX
def Arg.isN : Arg → Bool
  | .n _ => true
  | .v _ => false
structure Stp.good (s : Stp) : Prop where
  sh : shapeW s.w = some (s.as.map Arg.isN)
  ar : ∀ a ∈ s.as, a.ok
theorem num_free {n c : Nat} (h : c < 48 ∨ 57 < c) : c ∉ TL.tl (numS n) := by
  unfold numS
  rw [TL.tl_num]
  exact TL.numL_free h
theorem numO_num {n : Nat} (h : n < 1000) : numO (numS n) = some n := by
  have hv : valW (numS n) = n := by
    unfold valW numS
    rw [TL.tl_num, TL.numL_val]
  have ho : okW (numS n) = true := by
    have l1 : (numS n).length ≤ 3 := (numS_txo h).1
    have l2 : 1 ≤ (numS n).length := by
      rw [TL.len_tl]
      unfold numS
      rw [TL.tl_num]
      have := TL.numL_ne n
      cases e : TL.numL n with
      | nil => exact absurd e this
      | cons a l => rw [List.length_cons]; omega
    have hd : digW (numS n) = true := by
      unfold digW numS
      rw [TL.tl_num, List.all_eq_true]
      intro c hc
      have := TL.numL_digits n c hc
      rw [decide_eq_true this.1, decide_eq_true this.2] <;> rfl
    unfold okW
    rw [hd, decide_eq_true l1, decide_eq_true l2] <;> rfl
  unfold numO
  rw [if_pos ⟨ho, by rw [hv]; rfl⟩, hv]
theorem joinL_free {c : Nat} {S : List Nat} (h : c ∉ S) : ∀ {l : List (List Nat)}, (∀ p ∈ l, c ∉ p) → c ∉ TL.joinL S l := fun {l} hl hm => by
  rcases joinL_mem hm with q | ⟨p, hp, q⟩
  · exact h q
  · exact hl p hp q
theorem join_free {c : Nat} {y : Str} {ws : List Str} (h : c ∉ TL.tl y) (hw : ∀ w ∈ ws, c ∉ TL.tl w) : c ∉ TL.tl (Txt.join y ws) := by
  rw [TL.join_eq, TL.tl_join]
  exact joinL_free h fun p hp => by
    obtain ⟨w, hm, e⟩ := List.mem_map.mp hp
    rw [← e]; exact hw w hm
theorem arg_free {a : Arg} {c : Nat} (h : c = 10 ∨ c = 32) : c ∉ TL.tl a.w := by
  cases a with
  | n k => exact num_free (by omega)
  | v vs =>
    show c ∉ TL.tl (if vs = [] then "-" else Txt.join "," (vs.map numS))
    by_cases q : vs = []
    · rw [if_pos q]
      rcases h with h | h <;> subst h <;> decide +kernel
    · rw [if_neg q]
      refine join_free (by rcases h with h | h <;> subst h <;> decide +kernel) fun w hw => ?_
      obtain ⟨k, _, e⟩ := List.mem_map.mp hw
      rw [← e]; exact num_free (by omega)
theorem word_of {z : Str} {ks : List Bool} (h : shapeW z = some ks) : z ∈ (["put", "change", "drop", "get", "parts", "tidy", "arm", "again"] : List Str) := by
  unfold shapeW at h
  repeat' split at h
  all_goals first | (exfalso; cases h; done) | (rename_i e; subst e; simp; done) | (simp [*]; done)
theorem word_free {z : Str} {ks : List Bool} (h : shapeW z = some ks) : 32 ∉ TL.tl z ∧ 10 ∉ TL.tl z := by
  have key : ∀ x ∈ (["put", "change", "drop", "get", "parts", "tidy", "arm", "again"] : List Str), 32 ∉ TL.tl x ∧ 10 ∉ TL.tl x := by decide +kernel
  exact key z (word_of h)
theorem word_txo {z : Str} {ks : List Bool} (h : shapeW z = some ks) : Txo 6 z := by
  have key : ∀ x ∈ (["put", "change", "drop", "get", "parts", "tidy", "arm", "again"] : List Str), (decide (x.length ≤ 6) && ascB x) = true := by decide +kernel
  exact txo_by (key z (word_of h))
theorem Stp.good.ok {s : Stp} (h : s.good) : s.ok := by
  refine ⟨word_txo h.sh, ?_, h.ar⟩
  have := shape_len h.sh
  rw [List.length_map] at this
  exact this
theorem vals_back {is : List Nat} (h1 : is.length ≤ 11) (h2 : ∀ k ∈ is, k < 100) : valsW (Arg.v is).w = .tuple (is.map natD) := by
  show valsW (if is = [] then "-" else Txt.join "," (is.map numS)) = _
  by_cases q : is = []
  · subst q; rfl
  · rw [if_neg q]
    have ne : is.map numS ≠ [] := fun z => q (List.map_eq_nil_iff.mp z)
    have fr : ∀ p ∈ is.map numS, 44 ∉ TL.tl p := fun p hp => by
      obtain ⟨k, _, e⟩ := List.mem_map.mp hp
      rw [← e]; exact num_free (by decide)
    have es : Txt.split (Txt.join "," (is.map numS)) "," = is.map numS := TL.split_join (s := 44) (S := []) (by decide +kernel) (by decide +kernel) ne fr
    have en : Txt.join "," (is.map numS) ≠ "-" := fun z => by
      rw [z] at es
      have e2 : Txt.split "-" "," = (["-"] : List Str) := by decide +kernel
      rw [e2] at es
      have hm : ("-" : Str) ∈ is.map numS := by rw [← es]; exact List.mem_singleton.mpr rfl
      obtain ⟨k, _, e⟩ := List.mem_map.mp hm
      have : (45 : Nat) ∈ TL.tl (numS k) := by rw [e]; decide +kernel
      exact num_free (by decide) this
    have eN : numsW (Txt.join "," (is.map numS)) = is.map natD := by
      unfold numsW
      rw [es, List.map_map]
      refine List.map_congr_left fun k hk => ?_
      show numD (numO (numS k)) = natD k
      rw [numO_num (by have := h2 k hk; omega)] <;> rfl
    have hv : valsB (is.map natD) = true := by
      unfold valsB
      rw [List.all_eq_true]
      intro d hd
      obtain ⟨k, hk, e⟩ := List.mem_map.mp hd
      rw [← e]
      have := h2 k hk
      show (decide ((0 : Int) ≤ (k : Int)) && decide ((k : Int) ≤ 99)) = true
      rw [decide_eq_true (by omega), decide_eq_true (by omega)] <;> rfl
    unfold valsW
    rw [if_neg en, eN, if_pos ⟨by rw [List.length_map]; omega, hv⟩]
theorem arg_back {a : Arg} (h : a.ok) : kindW a.isN a.w = a.d := by
  cases a with
  | n k =>
    show (if true = true then numD (numO (numS k)) else valsW (numS k)) = _
    rw [if_pos rfl, numO_num h] <;> rfl
  | v vs =>
    show (if false = true then numD (numO _) else valsW (Arg.v vs).w) = _
    rw [if_neg (by decide), vals_back h.1 h.2] <;> rfl
theorem args_back : ∀ {as : List Arg}, (∀ a ∈ as, a.ok) → List.zipWith kindW (as.map Arg.isN) (as.map Arg.w) = as.map Arg.d
  | [], _ => rfl
  | a :: as, h => by
    rw [List.map_cons, List.map_cons, List.map_cons, List.zipWith_cons_cons, arg_back (h a List.mem_cons_self), args_back fun b hb => h b (List.mem_cons_of_mem _ hb)]
theorem args_some : ∀ as : List Arg, noneB (as.map Arg.d) = false
  | [] => rfl
  | a :: as => by
    have := args_some as
    unfold noneB at this ⊢
    rw [List.map_cons, List.any_cons, this]
    cases a <;> rfl
theorem step_back {s : Stp} (h : s.good) : stepW s.ws = s.d := by
  unfold Stp.ws
  rw [stepW_so h.sh, if_pos (by rw [List.length_map, List.length_map]), args_back h.ar, if_neg (by rw [args_some]; decide)] <;> rfl
theorem ws_free {s : Stp} (h : s.good) {c : Nat} (hc : c = 10 ∨ c = 32) : ∀ w ∈ s.ws, c ∉ TL.tl w := fun w hw => by
  rcases List.mem_cons.mp (show w ∈ s.w :: s.as.map Arg.w from hw) with e | hw
  · rw [e]
    have := word_free h.sh
    rcases hc with q | q <;> subst q
    · exact this.2
    · exact this.1
  · obtain ⟨a, _, e⟩ := List.mem_map.mp hw
    rw [← e]; exact arg_free hc
theorem row_back {s : Stp} (h : s.good) : Txt.split s.row " " = s.ws := TL.split_join (s := 32) (S := []) (by decide +kernel) (by decide +kernel) (by unfold Stp.ws; simp) (ws_free h (.inr rfl))
theorem row_free {s : Stp} (h : s.good) : 10 ∉ TL.tl s.row := join_free (by decide +kernel) (ws_free h (.inl rfl))
theorem joinL_ne {S p : List Nat} {l : List (List Nat)} (h : p ≠ []) : TL.joinL S (p :: l) ≠ [] := by
  cases l with
  | nil => exact h
  | cons q r => exact fun z => h (List.append_eq_nil_iff.mp z).1
theorem row_ne {s : Stp} (h : s.good) : TL.tl s.row ≠ [] := by
  unfold Stp.row Stp.ws
  rw [TL.join_eq, TL.tl_join, List.map_cons]
  refine joinL_ne fun z => ?_
  have key : ∀ x ∈ (["put", "change", "drop", "get", "parts", "tidy", "arm", "again"] : List Str), TL.tl x ≠ [] := by decide +kernel
  exact key _ (word_of h.sh) z
theorem rows_back {ss : List Stp} (h : ∀ s ∈ ss, s.good) : rowsW (Stps.text ss) = ss.map Stp.row := by
  unfold rowsW Stps.text
  cases ss with
  | nil => rfl
  | cons s r =>
    have hne : ¬ (Txt.join "\n" ((s :: r).map Stp.row)).length = 0 := fun z => by
      rw [TL.len0_tl, TL.join_eq, TL.tl_join, List.map_cons, List.map_cons] at z
      exact joinL_ne (row_ne (h s List.mem_cons_self)) z
    rw [if_neg hne]
    exact TL.split_join (s := 10) (S := []) (by decide +kernel) (by decide +kernel) (by simp) fun p hp => by
      obtain ⟨x, hx, e⟩ := List.mem_map.mp hp
      rw [← e]; exact row_free (h x hx)
theorem rd_back : ∀ (ss : List Stp) (i : Nat) (acc : List PyData), (∀ s ∈ ss, s.good) → rdSteps (ss.map Stp.row) i acc = .ok (acc ++ ss.map Stp.d)
  | [], _, acc, _ => by rw [List.map_nil, List.map_nil, List.append_nil]; rfl
  | s :: ss, i, acc, h => by
    rw [List.map_cons, List.map_cons]
    unfold rdSteps
    rw [row_back (h s List.mem_cons_self), step_back (h s List.mem_cons_self), if_neg (by exact Bool.false_ne_true), rd_back ss (i + 1) _ fun x hx => h x (List.mem_cons_of_mem _ hx), List.append_assoc] <;> rfl
theorem read_back {ss : List Stp} (h : ∀ s ∈ ss, s.good) : readS (Stps.text ss) = .ok (ss.map Stp.d) := by
  unfold readS
  rw [rows_back h, rd_back ss 0 [] h, List.nil_append]
end GX
/-! how long the rows of a text are -/
namespace GX
open PySem PySem.Spec PyProof.Rows L2 LamX
/-- the signs before the first line's end -/
def hdR : List Nat → Nat
  | [] => 0
  | c :: l => if c = 10 then 0 else hdR l + 1
/-- the longest run of signs without a line's end -/
def bsR : List Nat → Nat
  | [] => 0
  | c :: l => max (hdR (c :: l)) (bsR l)
theorem hd_bs : ∀ l : List Nat, hdR l ≤ bsR l
  | [] => Nat.le_refl _
  | _ :: _ => Nat.le_max_left _ _
theorem bs_cons (c : Nat) (l : List Nat) : bsR (c :: l) = max (hdR (c :: l)) (bsR l) := rfl
theorem hd_cons (c : Nat) (l : List Nat) : hdR (c :: l) = if c = 10 then 0 else hdR l + 1 := rfl
theorem hd_app : ∀ a b : List Nat, hdR (a ++ b) ≤ hdR a + hdR b
  | [], b => by show hdR b ≤ 0 + hdR b; omega
  | c :: a, b => by
    have := hd_app a b
    rw [List.cons_append, hd_cons, hd_cons]
    by_cases h : c = 10
    · rw [if_pos h, if_pos h]; omega
    · rw [if_neg h, if_neg h]; omega
theorem bs_app : ∀ a b : List Nat, bsR (a ++ b) ≤ bsR a + bsR b
  | [], b => by show bsR b ≤ 0 + bsR b; omega
  | c :: a, b => by
    have h1 := bs_app a b
    have h2 := hd_app (c :: a) b
    have h3 := hd_bs b
    have h4 := hd_bs (c :: a)
    rw [List.cons_append] at h2 ⊢
    rw [bs_cons, bs_cons]
    rw [bs_cons] at h4
    omega
theorem bs_drop : ∀ (k : Nat) (l : List Nat), bsR (l.drop k) ≤ bsR l
  | 0, l => Nat.le_refl _
  | _ + 1, [] => Nat.le_refl _
  | k + 1, c :: l => by
    have := bs_drop k l
    rw [List.drop_succ_cons, bs_cons]
    omega
theorem hd_take : ∀ (k : Nat) (l : List Nat), hdR (l.take k) ≤ hdR l
  | 0, l => by rw [List.take_zero]; exact Nat.zero_le _
  | _ + 1, [] => Nat.le_refl _
  | k + 1, c :: l => by
    have := hd_take k l
    rw [List.take_succ_cons, hd_cons, hd_cons]
    by_cases h : c = 10
    · rw [if_pos h, if_pos h]; exact Nat.le_refl _
    · rw [if_neg h, if_neg h]; omega
theorem bs_take : ∀ (k : Nat) (l : List Nat), bsR (l.take k) ≤ bsR l
  | 0, l => by rw [List.take_zero]; exact Nat.zero_le _
  | _ + 1, [] => Nat.le_refl _
  | k + 1, c :: l => by
    have h1 := bs_take k l
    have h2 := hd_take (k + 1) (c :: l)
    rw [List.take_succ_cons] at h2 ⊢
    rw [bs_cons, bs_cons]
    omega
theorem hd_len : ∀ l : List Nat, hdR l ≤ l.length
  | [] => Nat.le_refl _
  | c :: l => by
    have := hd_len l
    rw [hd_cons, List.length_cons]
    by_cases h : c = 10
    · rw [if_pos h]; omega
    · rw [if_neg h]; omega
theorem bs_len : ∀ l : List Nat, bsR l ≤ l.length
  | [] => Nat.le_refl _
  | c :: l => by
    have h1 := bs_len l
    have h2 := hd_len (c :: l)
    rw [bs_cons]
    rw [List.length_cons] at h2 ⊢
    omega
theorem hd_cut : ∀ p q : List Nat, hdR (p ++ 10 :: q) ≤ hdR p
  | [], q => by show (if (10 : Nat) = 10 then 0 else hdR q + 1) ≤ _; rw [if_pos rfl]; exact Nat.zero_le _
  | c :: p, q => by
    have := hd_cut p q
    rw [List.cons_append, hd_cons, hd_cons]
    by_cases h : c = 10
    · rw [if_pos h, if_pos h]; exact Nat.le_refl _
    · rw [if_neg h, if_neg h]; omega
theorem bs_cut : ∀ p q : List Nat, bsR (p ++ 10 :: q) ≤ max (bsR p) (bsR q)
  | [], q => by
    have : hdR (10 :: q) = 0 := by rw [hd_cons, if_pos rfl]
    show bsR (10 :: q) ≤ _
    rw [bs_cons, this]
    omega
  | c :: p, q => by
    have h1 := bs_cut p q
    have h2 := hd_cut (c :: p) q
    rw [List.cons_append] at h2 ⊢
    rw [bs_cons, bs_cons]
    omega
theorem bs_join {M : Nat} : ∀ {ps : List (List Nat)}, (∀ p ∈ ps, p.length ≤ M) → bsR (TL.joinL [10] ps) ≤ M
  | [], _ => Nat.zero_le _
  | [p], h => Nat.le_trans (bs_len p) (h p List.mem_cons_self)
  | p :: q :: r, h => by
    have h1 := bs_join (ps := q :: r) fun x hx => h x (List.mem_cons_of_mem _ hx)
    have h2 := bs_cut p (TL.joinL [10] (q :: r))
    have h3 := Nat.le_trans (bs_len p) (h p List.mem_cons_self)
    show bsR (p ++ ([10] ++ TL.joinL [10] (q :: r))) ≤ M
    rw [show ([10] : List Nat) ++ TL.joinL [10] (q :: r) = 10 :: TL.joinL [10] (q :: r) from rfl]
    omega
theorem pre_one {c : Nat} {r : List Nat} : TL.pre [10] (c :: r) = true ↔ c = 10 := by
  constructor
  · intro h
    by_cases e : c = 10
    · exact e
    · rw [TL.pre_of_head [] r e] at h; cases h
  · intro e; subst e; exact TL.pre_self [10] r
theorem spl_bs : ∀ (l acc : List Nat), ∀ p ∈ TL.spl [10] 0 acc l, p.length ≤ max (acc.length + hdR l) (bsR l)
  | [], acc, p, hp => by
    rw [TL.spl_nil] at hp
    rw [List.mem_singleton.mp hp]
    show acc.length ≤ max (acc.length + 0) 0
    omega
  | c :: r, acc, p, hp => by
    rw [bs_cons, hd_cons]
    by_cases h : c = 10
    · rw [TL.spl_hit (pre_one.mpr h)] at hp
      rw [if_pos h]
      rcases List.mem_cons.mp hp with e | hp
      · rw [e]; omega
      · have := spl_bs r [] p hp
        have h2 := hd_bs r
        rw [List.length_nil] at this
        omega
    · rw [TL.spl_miss (by cases q : TL.pre [10] (c :: r) with | false => rfl | true => exact absurd (pre_one.mp q) h)] at hp
      rw [if_neg h]
      have := spl_bs r (acc ++ [c]) p hp
      rw [List.length_append, show [c].length = 1 from rfl] at this
      omega
/-- how long the longest row is -/
def rowB (t : Str) : Nat := bsR (TL.tl t)
theorem rowB_len (t : Str) : rowB t ≤ t.length := by rw [TL.len_tl]; exact bs_len _
theorem rows_le {t r : Str} (h : r ∈ Txt.split t "\n") : r.length ≤ rowB t := by
  have e := TL.split_spl t "\n" (by decide +kernel) (TL.kind_ok (by decide +kernel))
  rw [show TL.tl "\n" = [10] by decide +kernel] at e
  have hm : TL.tl r ∈ TL.spl [10] 0 [] (TL.tl t) := by rw [← e]; exact List.mem_map.mpr ⟨r, h, rfl⟩
  have := spl_bs _ _ _ hm
  have h2 := hd_bs (TL.tl t)
  rw [TL.len_tl]
  rw [List.length_nil] at this
  unfold rowB
  omega
theorem join_rows {rs : List Str} {M : Nat} (h : ∀ r ∈ rs, r.length ≤ M) : rowB (Txt.join "\n" rs) ≤ M := by
  unfold rowB
  rw [TL.join_eq, TL.tl_join, show TL.tl "\n" = [10] by decide +kernel]
  exact bs_join fun p hp => by
    obtain ⟨r, hr, e⟩ := List.mem_map.mp hp
    rw [← e, ← TL.len_tl]; exact h r hr
theorem rowB_app (x y : Str) : rowB (x ++ y) ≤ rowB x + rowB y := by
  unfold rowB
  rw [TL.tl_append]
  exact bs_app _ _
theorem tl_cut (z : Str) (lo hi : Option Int) : ∃ a n, TL.tl (L2.cutS z lo hi) = ((TL.tl z).drop a).take n := ⟨_, _, rfl⟩
theorem rowB_cut (z : Str) (lo hi : Option Int) : rowB (L2.cutS z lo hi) ≤ rowB z := by
  obtain ⟨a, n, e⟩ := tl_cut z lo hi
  unfold rowB
  rw [e]
  exact Nat.le_trans (bs_take _ _) (bs_drop _ _)
theorem cut_asc {z : Str} (lo hi : Option Int) (h : Asc z) : Asc (L2.cutS z lo hi) := fun c hc => by
  obtain ⟨a, n, e⟩ := tl_cut z lo hi
  rw [e] at hc
  exact h c (List.mem_of_mem_drop (List.mem_of_mem_take hc))
/-! ### written steps -/
theorem shape_cases {z : Str} {ks : List Bool} (h : shapeW z = some ks) : ks = [] ∨ ks = [true] ∨ ks = [false] ∨ ks = [true, false] := by
  unfold shapeW at h
  repeat' split at h
  all_goals first | (cases h; simp) | cases h
theorem arg_len {a : Arg} (h : a.ok) : a.w.length ≤ if a.isN = true then 3 else 44 := by
  cases a with
  | n k => exact (numS_txo h).1
  | v vs => exact (Arg.txo h).1
theorem args_sz : ∀ {as : List Arg}, (∀ a ∈ as, a.ok) → szL (as.map Arg.w) ≤ ((as.map Arg.isN).map fun b => (if b = true then 3 else 44) + 1).sum
  | [], _ => Nat.le_refl _
  | a :: as, h => by
    have h1 := args_sz fun b hb => h b (List.mem_cons_of_mem a hb)
    have h2 := arg_len (h a List.mem_cons_self)
    rw [List.map_cons, szL_cons, List.map_cons, List.map_cons, List.sum_cons]
    omega
theorem good_len {s : Stp} (h : s.good) : s.row.length ≤ 56 := by
  have h1 := join_len (s := " ") rfl s.ws
  have h2 := args_sz h.ar
  have h3 := (word_txo h.sh).1
  have h4 : ((s.as.map Arg.isN).map fun b => (if b = true then 3 else 44) + 1).sum ≤ 49 := by
    rcases shape_cases h.sh with e | e | e | e <;> rw [e] <;> decide
  have h5 : szL s.ws = (s.w.length + 1) + szL (s.as.map Arg.w) := szL_cons _ _
  show (Txt.join " " s.ws).length ≤ 56
  omega
theorem text_rows {ss : List Stp} (h : ∀ s ∈ ss, s.good) : rowB (Stps.text ss) ≤ 56 := join_rows fun r hr => by
  obtain ⟨s, hs, e⟩ := List.mem_map.mp hr
  rw [← e]; exact good_len (h s hs)
theorem text_txo {ss : List Stp} (h : ∀ s ∈ ss, s.good) (hl : ss.length ≤ 8) : Txo 1000 (Stps.text ss) := by
  have h1 := join_len (s := "\n") rfl (ss.map Stp.row)
  have h2 : szL (ss.map Stp.row) ≤ (ss.map Stp.row).length * (56 + 1) := szL_le fun r hr => by
    obtain ⟨s, hs, e⟩ := List.mem_map.mp hr
    rw [← e]; exact good_len (h s hs)
  rw [List.length_map] at h2
  refine ⟨?_, join_asc (asc_by (by decide +kernel)) fun r hr => ?_⟩
  · show (Txt.join "\n" (ss.map Stp.row)).length ≤ 1000
    omega
  · obtain ⟨s, hs, e⟩ := List.mem_map.mp hr
    rw [← e]; exact (Stp.sz (h s hs).ok).2.2
end GX
set_option maxHeartbeats 8000000
/-! law_k19: _law_spoilt -/
namespace GX
open PySem PySem.Spec PyProof.Rows L2 LamX
def evS : Str := "0123456789 ,-\nabcdefghijklmnopqrstuvwxyz!#$&'()*+./:;<=>?@ABCDEFGHIJKLMNOPQRSTUVWXYZ[]^_{|}~"
theorem ev_len : evS.length = 92 := by decide +kernel
theorem ev_asc : Asc evS := asc_by (by decide +kernel)
theorem ev_at {i : Int} (h0 : 0 ≤ i) (h1 : i < 92) : ∃ c, evS.cps[i.toNat]? = some c ∧ c < 128 := by
  have hl : i.toNat < evS.cps.size := by
    have : evS.cps.size = 92 := ev_len
    omega
  exact ⟨evS.cps[i.toNat], Array.getElem?_eq_getElem hl, ev_asc _ (Array.mem_toList_iff.mpr (Array.getElem_mem hl))⟩
theorem sign_txo {c : Nat} (h : c < 128) : Txo 1 (⟨#[c]⟩ : Str) := ⟨Nat.le_refl 1, fun d hd => by
  have : d = c := by simpa [TL.tl] using hd
  rw [this]; exact h⟩
def odL : List Str := ["", "0", "00", "99", "100", "999", "1000", "-", "-1", ",", "1,", "1,2", "1,100", "put", "again", "tidy", "get"]
def odB : Bool := odL.all fun w => decide (w.length ≤ 5) && ascB w
theorem od_txo {w : Str} (h : w ∈ odL) : Txo 5 w := txo_by (List.all_eq_true.mp (show odB = true by decide +kernel) w h)
theorem cutV_one (xs : List V) {i : Nat} (h : i < xs.length) : cutV xs (some (i : Int)) (some ((i + 1 : Nat) : Int)) = [xs[i]] := by
  unfold cutV
  rw [HT.sIx_nat, HT.sIx_nat, Nat.min_eq_left (by omega), Nat.min_eq_left (by omega), List.drop_eq_getElem_cons h, show i + 1 - i = 1 by omega]
  rfl
def spSpoilt (T : List (Addr × Str)) : Sp := fun vs H Q _ => ∃ b l ns z t, vs = [.ref b, .str t] ∧ BoxAt H b l ns z ∧ t.length ≤ 7000 ∧ Asc t ∧ ∀ H' ns' z' w, XM T (SB2 b l) H H' → BoxAt H' b l ns' z' → w.length ≤ 2 * t.length + 10 → Asc w → rowB w ≤ 2 * rowB t + 8 → Q (.str w) H'
section
variable {P : Program} {w : World} {K : PySem.W.Frag} {mg : Str → Option Value} {base : Heap} {T : List (Addr × Str)}
abbrev slN : List Str := ["_law_box", "_law_text_here", "_law_deed", "_law_place", "_law_every", "_law_sign", "_law_rows", "_law_k", "_law_words", "_law_j", "_law_odd"]
theorem sc_lspoilt : FnScope slN ["_law_box", "_law_text_here"] (defScope s_lspoilt) := ⟨rfl, rfl, rfl, by decide +kernel, rfl, by decide +kernel, by decide +kernel⟩
theorem ok_lspoilt {f : Addr} {fd : FuncData} (F : L2.Fun K "_law_spoilt" "_law_spoilt" s_lspoilt f fd) (B : Blt mg) (cT : Cal P w K mg base CX0 "_law_take" ["_law_box", "_law_many"] 1 (spTake T)) :
    FnOk P w K mg base CX0 2 f fd ["_law_box", "_law_text_here"] (spSpoilt T) := by
  refine F.ok sc_lspoilt (fun vs H Q E h => by obtain ⟨b, l, ns, z, t, rfl, _⟩ := h; rfl) (fun cdv A outer s H vs Q E hr h => ?_)
  obtain ⟨b, l, ns, z, t, rfl, bx, hl, hasc, k⟩ := h
  have nd := sc_lspoilt.nd
  refine ⟨_, pss_cons (ps_set (i := 2) nd rfl (.inl rfl) (pe_cal cT hr (pa_cons (pv 0) (pa_cons pe_int pa_nil))))
    (pss_cons (ps_set (i := 3) nd rfl (.inl rfl) (pe_cal cT hr (pa_cons (pv 0) (pa_cons (pe_op op_add (pe_callB call_len_str (by rfl) B.len PySem.boot_len (pa_cons (pv 1) pa_nil)) pe_int) pa_nil))))
    (pss_cons (ps_set (i := 4) nd rfl (.inl rfl) pe_str)
    (pss_cons (ps_set (i := 5) nd rfl (.inl rfl) (pe_item_str (pv 4) (pe_cal cT hr (pa_cons (pv 0) (pa_cons (pe_ix ix_list (pe_lst (pa_cons pe_int (pa_cons pe_int pa_nil))) (pe_cal cT hr (pa_cons (pv 0) (pa_cons pe_int pa_nil))) (fun _ _ => rfl)) pa_nil))) (fun _ _ => rfl)))
    (pss_cons (ps_if (pt_cmpR op_eq (pv 2) pe_int (nomark _)) (pss_one (ps_set (i := 5) nd rfl (.inl rfl) pe_str)) pss_nil)
    (pss_cons (ps_if (pt_cmpR op_lt (pv 2) pe_int (nomark _)) (pss_one (ps_ret (pe_op op_addT (pe_op op_addT (pe_slice sl_str (pv 1) po_none (po_some (pv 3))) (pv 5)) (pe_slice sl_str (pv 1) (po_some (pe_op op_add (pv 3) (pe_callTy call_int1 (by rfl) B.int (by decide +kernel) (pa_cons (pe_cmpR op_gt (pv 2) pe_int (nomark _)) pa_nil)))) po_none)))) pss_nil)
    (pss_cons (ps_set (i := 6) nd rfl (.inl rfl) (pe_split (pv 1) pe_str))
    (pss_cons (ps_set (i := 7) nd rfl (.inl rfl) (pe_cal cT hr (pa_cons (pv 0) (pa_cons (pe_callB call_len_seq (by rfl) B.len PySem.boot_len (pa_cons (pv 6) pa_nil)) pa_nil))))
    (pss_cons (ps_if (pt_cmpR op_lt (pv 2) pe_int (nomark _))
      (pss_one (ps_ret (pe_joinT pe_str (pe_op op_cat (pe_op op_cat (pe_slice sl_list (pv 6) po_none (po_some (pv 7))) (pe_op op_rep (pe_slice sl_list (pv 6) (po_some (pv 7)) (po_some (pe_op op_add (pv 7) pe_int))) (pe_ix ix_list (pe_lst (pa_cons pe_int (pa_cons pe_int pa_nil))) (pe_op op_sub (pv 2) pe_int) (fun _ _ => rfl)))) (pe_slice sl_list (pv 6) (po_some (pe_op op_add (pv 7) pe_int)) po_none))))) pss_nil)
    (pss_cons (ps_set (i := 8) nd rfl (.inl rfl) (pe_split (pe_ix ix_list (pv 6) (pv 7) (fun _ _ => rfl)) pe_str))
    (pss_cons (ps_set (i := 9) nd rfl (.inl rfl) (pe_cal cT hr (pa_cons (pv 0) (pa_cons (pe_callB call_len_seq (by rfl) B.len PySem.boot_len (pa_cons (pv 8) pa_nil)) pa_nil))))
    (pss_cons (ps_set (i := 10) nd rfl (.inl rfl) (pe_lst (pa_cons pe_str (pa_cons pe_str (pa_cons pe_str (pa_cons pe_str (pa_cons pe_str (pa_cons pe_str (pa_cons pe_str (pa_cons pe_str (pa_cons pe_str (pa_cons pe_str (pa_cons pe_str (pa_cons pe_str (pa_cons pe_str (pa_cons pe_str (pa_cons pe_str pa_nil)))))))))))))))))
    (pss_cons (ps_set (i := 10) nd rfl (.inl rfl) (pe_op op_cat (pv 10) (pe_lst (pa_cons pe_str (pa_cons pe_str pa_nil)))))
    (pss_cons (ps_set (i := 8) nd rfl (.inl rfl) (pe_op op_cat (pe_op op_cat (pe_slice sl_list (pv 8) po_none (po_some (pv 9))) (pe_ix ix_list (pe_lst (pa_cons (pe_lst pa_nil) (pa_cons (pe_op op_rep (pe_lst (pa_cons (pe_ix ix_list (pv 8) (pv 9) (fun _ _ => rfl)) pa_nil)) pe_int) (pa_cons (pe_lst (pa_cons (pe_ix ix_list (pv 10) (pe_cal cT hr (pa_cons (pv 0) (pa_cons pe_int pa_nil))) (fun _ _ => rfl)) pa_nil)) pa_nil)))) (pe_op op_sub (pv 2) pe_int) (fun _ _ => rfl))) (pe_slice sl_list (pv 8) (po_some (pe_op op_add (pv 9) pe_int)) po_none)))
    (pss_one (ps_ret (pe_joinT pe_str (pe_op op_cat (pe_op op_cat (pe_slice sl_list (pv 6) po_none (po_some (pv 7))) (pe_lst (pa_cons (pe_joinT pe_str (pv 8)) pa_nil))) (pe_slice sl_list (pv 6) (po_some (pe_op op_add (pv 7) pe_int)) po_none)))))))))))))))))), ?_⟩
  refine ⟨_, rfl, b, l, ns, z, 8, rfl, bx, by decide, by decide, fun H1 ns1 z1 deed a1 bx1 d0 d1 => ?_⟩
  obtain ⟨dd, rfl⟩ := Int.eq_ofNat_of_zero_le d0
  dsimp only [gName]
  refine ⟨_, rfl, _, rfl, t, rfl, by rw [sizeLine_eq]; omega, _, _, rfl, rfl, b, l, ns1, z1, (t.length : Int) + 1, rfl, bx1, by omega, by omega, fun H2 ns2 z2 pl a2 bx2 p0 p1 => ?_⟩
  obtain ⟨pp, rfl⟩ := Int.eq_ofNat_of_zero_le p0
  refine ⟨_, rfl, _, rfl, (by show 2 ≤ sizeLine; decide), fun p3 h3 => ⟨_, rfl, b, l, ns2, z2, 2, rfl, bx2.xx (XX.new (T := T) h3), by decide, by decide, fun H3 ns3 z3 r3 a3 bx3 r30 r31 => ?_⟩⟩
  have nb3 := box_ne bx2 h3
  obtain ⟨mm, em, m0, m1⟩ : ∃ mm : Int, atI [V.int 14, .int 92] r3 = some (.int mm) ∧ 0 < mm ∧ mm ≤ 92 := by
    rcases (show r3 = 0 ∨ r3 = 1 by omega) with e | e
    · rw [e]; exact ⟨14, rfl, by decide, by decide⟩
    · rw [e]; exact ⟨92, rfl, by decide, by decide⟩
  refine ⟨p3, _, r3, .int mm, rfl, rfl, SqL.of (a3.lst upd_same nb3), em, b, l, ns3, z3, mm, rfl, bx3, m0, by omega, fun H4 ns4 z4 sg a4 bx4 s0 s1 => ?_⟩
  obtain ⟨c, ec, hc⟩ := ev_at (i := sg) s0 (by omega)
  refine ⟨evS, sg, c, rfl, rfl, s0, by omega, by rw [ev_len]; omega, ec, ?_⟩
  dsimp only [gName]
  have a04 : XM T (SB2 b l) H H4 := ((a1.trans a2).trans ((XX.new h3).xm.trans a3)).trans a4
  refine ⟨_, rfl, rfl, _, rfl, ?_⟩
  refine ifs_keyR (fun σ' H' => ∃ sw, σ' = [some (.ref b), some (.str t), some (.int (dd : Int)), some (.int (pp : Int)), some (.str evS), some (.str sw), none, none, none, none, none] ∧ H' = H4 ∧ Txo 1 sw) ?key (fun _ D' kn _ => kn _ _ ⟨"", rfl, rfl, txo_by (by decide +kernel)⟩) (fun _ D' kn _ => kn _ _ ⟨_, rfl, rfl, sign_txo hc⟩)
  rintro σ' H' ⟨sw, rfl, rfl, tsw⟩
  dsimp only [gName, tNext]
  refine ⟨_, rfl, _, _, rfl, rfl, _, rfl, ?_⟩
  by_cases hd3 : dd < 3
  · rw [decide_eq_true (by omega)]
    have l1 := cutS_length t none (some (pp : Int))
    refine iteT ⟨_, rfl, _, rfl, _, rfl, t, rfl, by rw [sizeLine_eq]; omega, _, rfl, _, _, rfl, rfl, by have := tsw.1; rw [sizeLine_eq]; omega, _, rfl, _, rfl, _, rfl, _, _, rfl, rfl, .inr ⟨_, rfl, _, _, rfl, rfl, _, rfl, t, rfl, by rw [sizeLine_eq]; omega, _, _, rfl, rfl, ?_, ?_⟩⟩
    · have l2 := cutS_length t (some ((pp : Int) + if decide ((0 : Int) < (dd : Int)) = true then 1 else 0)) none
      have := tsw.1
      rw [len_app, sizeLine_eq]
      omega
    · have l2 := cutS_length t (some ((pp : Int) + if decide ((0 : Int) < (dd : Int)) = true then 1 else 0)) none
      have := tsw.1
      refine k _ ns4 z4 _ a04 bx4 (by rw [len_app, len_app]; omega) (((cut_asc _ _ hasc).app tsw.2).app (cut_asc _ _ hasc)) ?_
      have r1 := rowB_app (cutS t none (some (pp : Int)) ++ sw) (cutS t (some ((pp : Int) + if decide ((0 : Int) < (dd : Int)) = true then 1 else 0)) none)
      have r2 := rowB_app (cutS t none (some (pp : Int))) sw
      have r3 := rowB_cut t none (some (pp : Int))
      have r4 := rowB_cut t (some ((pp : Int) + if decide ((0 : Int) < (dd : Int)) = true then 1 else 0)) none
      have r5 := rowB_len sw
      omega
  · rw [decide_eq_false (by omega)]
    refine iteF ?_
    dsimp only [gName, tNext]
    obtain ⟨q1, q2, q3⟩ := line_bounds t
    have qs := line_sz t
    have qa := line_asc hasc
    have qb : ∀ r ∈ Txt.split t "\n", r.length ≤ rowB t := fun r hr => rows_le hr
    refine ⟨_, rfl, ⟨t, rfl⟩, t, "\n", rfl, rfl, rfl, by rw [sizeLine_eq]; omega, fun p6 h6 => ?_⟩
    generalize Txt.split t "\n" = rows at q1 q2 q3 qs qa qb ⊢
    have nb6 := box_ne bx4 h6
    have x6 := XX.new (T := T) (o := .lst (rows.map V.str)) h6
    have lr : (rows.map V.str).length = rows.length := List.length_map ..
    have hr0 : 0 < rows.length := List.length_pos_iff.mpr q1
    refine ⟨_, rfl, _, rfl, p6, _, rfl, .inl (SqL.of upd_same), b, l, ns4, z4, ((rows.map V.str).length : Int), rfl, bx4.xx x6, by omega, by omega, fun H6 ns6 z6 k6 a6 bx6 k0 k1 => ?_⟩
    obtain ⟨kk, rfl⟩ := Int.eq_ofNat_of_zero_le k0
    have hk : kk < rows.length := by omega
    have e6 : H6 p6 = some (.lst (rows.map V.str)) := a6.lst upd_same nb6
    have a06 := a04.trans (x6.xm.trans a6)
    refine ⟨_, rfl, _, _, rfl, rfl, _, rfl, ?_⟩
    by_cases hd6 : dd < 5
    · rw [decide_eq_true (by omega)]
      refine iteT ?_
      have s1 := szL_at hk
      have s2 := szL_take rows kk
      obtain ⟨R, R3, R4, lR, zR, mR⟩ : ∃ R : List Str, (dd = 3 → R = []) ∧ (dd = 4 → R = [rows[kk], rows[kk]]) ∧ R.length ≤ 2 ∧ szL R ≤ 2 * (rows[kk].length + 1) ∧ ∀ w ∈ R, w ∈ rows := by
        by_cases h : dd = 3
        · exact ⟨[], fun _ => rfl, fun z => by omega, by decide, Nat.zero_le _, fun w hw => absurd hw (by simp)⟩
        · refine ⟨[rows[kk], rows[kk]], fun z => absurd z h, fun _ => rfl, by show 2 ≤ 2; decide, by rw [szL_cons, szL_cons]; show _ + (_ + 0) ≤ _; omega, fun w hw => ?_⟩
          rcases List.mem_cons.mp hw with e | hw
          · rw [e]; exact List.getElem_mem hk
          · rw [List.mem_singleton.mp hw]; exact List.getElem_mem hk
      refine ⟨⟨"\n", rfl⟩, ?_⟩
      refine ls_cat (T := T) (ls_cat (T := T) (bs := R) (ls_to rfl e6 (toi_var rfl)) ?rep ?l1) (ls_from rfl e6 (toi_add rfl)) ?l2 H6 (XX.refl _) _ fun H24 r24 x24 n24 e24 => ls_join rfl e24 ?l3 (k _ ns6 z6 _ (a06.trans x24.xm) (bx6.xx x24) ?l4 (join_asc (asc_by (by decide +kernel)) fun w hm => ?l5) (Nat.le_trans (join_rows (M := rowB t) fun r hm => ?l6) (by omega)))
      case rep =>
        intro H1 x1 Q' q'
        refine ⟨_, rfl, _, rfl, _, rfl, _, rfl, _, _, rfl, rfl, _, rfl, p6, _, rfl, SqL.of (x1.lst e6), fun r7 hr7 => ⟨(by show 2 ≤ sizeLine; decide), fun p8 hp8 => ?_⟩⟩
        have c1 : cutV (rows.map V.str) (some (kk : Int)) (some ((kk : Int) + 1)) = [V.str rows[kk]] := by
          have := cutV_one (rows.map V.str) (i := kk) (by rw [lr]; exact hk)
          rw [List.getElem_map] at this
          exact this
        have x8 := (XX.new (T := T) (o := .lst (cutV (rows.map V.str) (some (kk : Int)) (some ((kk : Int) + 1)))) hr7).then_new (o := .lst [V.int 0, V.int 2]) hp8
        have e8 : upd (upd H1 r7 (.lst (cutV (rows.map V.str) (some (kk : Int)) (some ((kk : Int) + 1))))) p8 (.lst [V.int 0, V.int 2]) r7 = some (.lst [V.str rows[kk]]) := by
          rw [upd_ne (ne_of_none upd_same hp8), upd_same, c1]
        have g8 : upd (upd H1 r7 (.lst (cutV (rows.map V.str) (some (kk : Int)) (some ((kk : Int) + 1))))) p8 (.lst [V.int 0, V.int 2]) p8 = some (.lst [V.int 0, V.int 2]) := upd_same
        generalize upd (upd H1 r7 (.lst (cutV (rows.map V.str) (some (kk : Int)) (some ((kk : Int) + 1))))) p8 (.lst [V.int 0, V.int 2]) = H8 at x8 e8 g8 ⊢
        rcases (show dd = 3 ∨ dd = 4 by omega) with e | e
        · rw [R3 e] at q'
          subst e
          exact ⟨_, rfl, _, _, rfl, rfl, p8, _, _, .int 0, rfl, rfl, SqL.of g8, rfl, r7, 0, _, rfl, rfl, e8, by decide, by decide, Nat.zero_le _, fun p9 hp9 => q' _ p9 (x8.then_new hp9) (x8.free hp9) upd_same⟩
        · rw [R4 e] at q'
          subst e
          exact ⟨_, rfl, _, _, rfl, rfl, p8, _, _, .int 2, rfl, rfl, SqL.of g8, rfl, r7, 2, _, rfl, rfl, e8, by decide, by decide, by show 1 * 2 ≤ sizeLine; decide, fun p9 hp9 => q' _ p9 (x8.then_new hp9) (x8.free hp9) upd_same⟩
      case l1 => rw [List.length_take]; omega
      case l2 => rw [List.length_append, List.length_take, List.length_drop]; omega
      case l3 => rw [szL_app, szL_app]; omega
      case l4 =>
        have q9 := join_len (s := "\n") rfl ((rows.take kk ++ R) ++ rows.drop (kk + 1))
        rw [szL_app, szL_app] at q9
        omega
      case l5 =>
        rcases List.mem_append.mp hm with hm | hm
        · rcases List.mem_append.mp hm with hm | hm
          · exact qa w (List.mem_of_mem_take hm)
          · exact qa w (mR w hm)
        · exact qa w (List.mem_of_mem_drop hm)
      case l6 =>
        rcases List.mem_append.mp hm with hm | hm
        · rcases List.mem_append.mp hm with hm | hm
          · exact qb r (List.mem_of_mem_take hm)
          · exact qb r (mR r hm)
        · exact qb r (List.mem_of_mem_drop hm)
    · rw [decide_eq_false (by omega)]
      refine iteF ?_
      dsimp only [gName, tNext]
      have hrow : Asc rows[kk] := qa _ (List.getElem_mem hk)
      have lrow : rows[kk].length ≤ t.length := q3 _ (List.getElem_mem hk)
      have brow : rows[kk].length ≤ rowB t := qb _ (List.getElem_mem hk)
      have srow := szL_at hk
      refine ⟨_, rfl, _, rfl, p6, _, _, .str rows[kk], rfl, rfl, SqL.of e6, atI_nat (by rw [List.getElem?_map, List.getElem?_eq_getElem hk]; rfl), ⟨_, rfl⟩, rows[kk], " ", rfl, rfl, rfl, by rw [sizeLine_eq]; omega, fun p9 h9 => ?_⟩
      obtain ⟨w1, w2, w3⟩ := blank_bounds rows[kk]
      have ws := blank_sz rows[kk]
      have wa := blank_asc hrow
      generalize rows[kk] = row at hrow lrow brow srow w1 w2 w3 ws wa ⊢
      generalize Txt.split row " " = W at w1 w2 w3 ws wa ⊢
      have nb9 := box_ne bx6 h9
      have x9 := XX.new (T := T) (o := .lst (W.map V.str)) h9
      have lw : (W.map V.str).length = W.length := List.length_map ..
      have hw0 : 0 < W.length := List.length_pos_iff.mpr w1
      have bx9 := bx6.xx x9
      refine ⟨_, rfl, _, rfl, p9, _, rfl, .inl (SqL.of upd_same), b, l, ns6, z6, ((W.map V.str).length : Int), rfl, bx9, by omega, by omega, fun H10 ns10 z10 j10 a10 bx10 j0 j1 => ?_⟩
      obtain ⟨jj, rfl⟩ := Int.eq_ofNat_of_zero_le j0
      have hj : jj < W.length := by omega
      have e9 : H10 p9 = some (.lst (W.map V.str)) := a10.lst upd_same nb9
      have nb6' : ¬ SB2 b l p6 := nb6
      have e6' : H10 p6 = some (.lst (rows.map V.str)) := a10.lst (x9.lst e6) nb6
      have a010 := a06.trans (x9.xm.trans a10)
      dsimp only [gName]
      refine ⟨(by show 15 ≤ sizeLine; decide), fun p11 h11 => ⟨_, rfl, (by show 2 ≤ sizeLine; decide), fun p12 h12 => ?_⟩⟩
      dsimp only [gName]
      refine ⟨p11, p12, _, _, rfl, rfl, (XX.new (T := T) h12).lst upd_same, upd_same, (by show 15 + 2 ≤ sizeLine; decide), fun p13 h13 => ?_⟩
      dsimp only [gName]
      have x13 := ((XX.new (T := T) h11).then_new h12).then_new (o := .lst (odL.map V.str)) h13
      have nb13 := box_ne (bx10.xx ((XX.new (T := T) h11).then_new h12)) h13
      refine ls_to (T := T) (ws := W) rfl (x13.lst e9) (toi_var rfl) _ (XX.refl _) _ fun H14 r1 x14 n14 e14 => ?_
      have np14 : ∀ {q : Addr}, L2.upd H14 q = L2.upd H14 q := rfl
      have x1014 := x13.trans x14
      refine ⟨(by show 0 ≤ sizeLine; decide), fun p15 h15 => ?_⟩
      have x15 := x1014.then_new (o := .lst []) h15
      refine ⟨_, rfl, _, rfl, p9, _, _, .str W[jj], rfl, rfl, SqL.of (x15.lst e9), atI_nat (by rw [List.getElem?_map, List.getElem?_eq_getElem hj]; rfl), (by show 1 ≤ sizeLine; decide), fun p16 h16 => ⟨p16, 2, _, rfl, rfl, upd_same, by decide, by decide, (by show 1 * 2 ≤ sizeLine; decide), fun p17 h17 => ?_⟩⟩
      have x17 := (x15.then_new (o := .lst [V.str W[jj]]) h16).then_new (o := .lst ([W[jj], W[jj]].map V.str)) h17
      have e13 := ((((x14.then_new (o := .lst []) h15).then_new (o := .lst [V.str W[jj]]) h16).then_new (o := .lst ([W[jj], W[jj]].map V.str)) h17)).lst (p := p13) (xs := odL.map V.str) upd_same
      refine ⟨_, rfl, _, rfl, b, l, ns10, z10, 17, rfl, bx10.xx x17, by decide, by decide, fun H18 ns18 z18 o18 a18 bx18 o0 o1 => ?_⟩
      obtain ⟨oo, rfl⟩ := Int.eq_ofNat_of_zero_le o0
      have hoo : oo < odL.length := by show oo < 17; omega
      have tod := od_txo (List.getElem_mem hoo)
      refine ⟨p13, _, _, .str odL[oo], rfl, rfl, SqL.of (a18.lst e13 nb13), atI_nat (by rw [List.getElem?_map, List.getElem?_eq_getElem hoo]; rfl), (by show 1 ≤ sizeLine; decide), fun p19 h19 => ⟨(by show 3 ≤ sizeLine; decide), fun p20 h20 => ?_⟩⟩
      have x1820 := (XX.new (T := T) (o := .lst ([odL[oo]].map V.str)) h19).then_new (o := .lst [V.ref p15, V.ref p17, V.ref p19]) h20
      have nb15 := box_ne (bx10.xx x1014) h15
      have nb17 := box_ne (bx10.xx (x15.then_new (o := .lst [V.str W[jj]]) h16)) h17
      have nb14 := box_ne (bx10.xx x13) n14
      have e15 := x1820.lst (a18.lst (((XX.new (T := T) (o := .lst [V.str W[jj]]) h16).then_new (o := .lst ([W[jj], W[jj]].map V.str)) h17).lst (p := p15) (xs := ([] : List Str).map V.str) upd_same) nb15)
      have e17 := x1820.lst (a18.lst (p := p17) (xs := [W[jj], W[jj]].map V.str) upd_same nb17)
      have e19 := (XX.new (T := T) (o := .lst [V.ref p15, V.ref p17, V.ref p19]) h20).lst (p := p19) (xs := [odL[oo]].map V.str) upd_same
      have e14' := x1820.lst (a18.lst ((((XX.new (T := T) (o := .lst []) h15).then_new (o := .lst [V.str W[jj]]) h16).then_new (o := .lst ([W[jj], W[jj]].map V.str)) h17).lst e14) nb14)
      have e9' := x1820.lst (a18.lst (x17.lst e9) nb9)
      have e6'' := x1820.lst (a18.lst (x17.lst e6') nb6)
      have a020 := a010.trans ((x17.xm.trans a18).trans x1820.xm)
      have bx20 := bx18.xx x1820
      have hwj : Asc W[jj] := wa _ (List.getElem_mem hj)
      have swj := szL_at hj
      obtain ⟨q, X, eq, eX, zX, lX, aX⟩ : ∃ q X, atI [V.ref p15, V.ref p17, V.ref p19] ((dd : Int) - 5) = some (.ref q) ∧ upd (upd H18 p19 (.lst ([odL[oo]].map V.str))) p20 (.lst [V.ref p15, V.ref p17, V.ref p19]) q = some (.lst (X.map V.str)) ∧ szL X ≤ 2 * (W[jj].length + 1) + 6 ∧ X.length ≤ 2 ∧ ∀ w ∈ X, Asc w := by
        rcases (show dd = 5 ∨ dd = 6 ∨ dd = 7 by omega) with e | e | e
        · rw [e]; exact ⟨p15, [], rfl, e15, by show 0 ≤ _; omega, by decide, fun w hm => absurd hm (by simp)⟩
        · rw [e]; refine ⟨p17, [W[jj], W[jj]], rfl, e17, by rw [szL_cons, szL_cons]; show _ + (_ + 0) ≤ _; omega, by show 2 ≤ 2; decide, fun w hm => ?_⟩
          rcases List.mem_cons.mp hm with e | hm
          · rw [e]; exact hwj
          · rw [List.mem_singleton.mp hm]; exact hwj
        · rw [e]; exact ⟨p19, [odL[oo]], rfl, e19, by have := tod.1; rw [szL_cons]; show _ + 0 ≤ _; omega, by show 1 ≤ 2; decide, fun w hm => by rw [List.mem_singleton.mp hm]; exact tod.2⟩
      have e20 : upd (upd H18 p19 (.lst ([odL[oo]].map V.str))) p20 (.lst [V.ref p15, V.ref p17, V.ref p19]) p20 = some (.lst [V.ref p15, V.ref p17, V.ref p19]) := upd_same
      refine ⟨_, rfl, _, _, rfl, rfl, p20, _, _, .ref q, rfl, rfl, SqL.of e20, eq, r1, q, _, _, rfl, rfl, e14', eX, by rw [List.length_map, List.length_map, List.length_take, sizeLine_eq]; omega, fun p21 h21 => ?_⟩
      have x21 := XX.new (T := T) (o := .lst ((W.take jj).map V.str ++ X.map V.str)) h21
      refine ls_from (T := T) (ws := W) rfl (x21.lst e9') (toi_add rfl) _ (XX.refl _) _ fun H22 r2 x22 n22 e22 => ⟨p21, r2, _, _, rfl, rfl, x22.lst upd_same, e22, by rw [List.length_append, List.length_map, List.length_map, List.length_map, List.length_take, List.length_drop, sizeLine_eq]; omega, fun p23 h23 => ?_⟩
      have x23 := (x21.trans x22).then_new (o := .lst (((W.take jj).map V.str ++ X.map V.str) ++ (W.drop (jj + 1)).map V.str)) h23
      have e23 : upd H22 p23 (.lst (((W.take jj).map V.str ++ X.map V.str) ++ (W.drop (jj + 1)).map V.str)) p23 = some (.lst (((W.take jj ++ X) ++ W.drop (jj + 1)).map V.str)) := by rw [List.map_append, List.map_append]; exact upd_same
      have zW : szL ((W.take jj ++ X) ++ W.drop (jj + 1)) ≤ 2 * row.length + 8 := by rw [szL_app, szL_app]; omega
      have aW : ∀ w ∈ (W.take jj ++ X) ++ W.drop (jj + 1), Asc w := fun w hm => by
        rcases List.mem_append.mp hm with hm | hm
        · rcases List.mem_append.mp hm with hm | hm
          · exact wa w (List.mem_of_mem_take hm)
          · exact aX w hm
        · exact wa w (List.mem_of_mem_drop hm)
      dsimp only [gName]
      generalize (W.take jj ++ X) ++ W.drop (jj + 1) = W' at e23 zW aW
      have e6c := x23.lst e6''
      have a023 := a020.trans x23.xm
      have bx23 := bx20.xx x23
      generalize upd H22 p23 (.lst (((W.take jj).map V.str ++ X.map V.str) ++ (W.drop (jj + 1)).map V.str)) = H23 at e23 e6c a023 bx23 ⊢
      have lrw := join_len (s := " ") rfl W'
      refine ⟨⟨"\n", rfl⟩, ?_⟩
      refine ls_cat (T := T) (ls_cat (T := T) (bs := [Txt.join " " W']) (ls_to rfl e6c (toi_var rfl)) (fun H1 x1 Q' q' => ⟨⟨" ", rfl⟩, _, rfl, ls_join rfl (x1.lst e23) (by omega) ⟨(by show 1 ≤ sizeLine; decide), fun r hr => q' _ r (XX.new hr) hr upd_same⟩⟩) ?_) (ls_from rfl e6c (toi_add rfl)) ?_ H23 (XX.refl _) _ fun H24 r24 x24 n24 e24 => ls_join rfl e24 ?_ (k _ ns18 z18 _ (a023.trans x24.xm) (bx23.xx x24) ?_ (join_asc (asc_by (by decide +kernel)) fun w hm => ?_) (join_rows fun r hm => ?_))
      · rw [List.length_take]; show _ + 1 ≤ _; omega
      · rw [List.length_append, List.length_take, List.length_drop]; show _ + 1 + _ ≤ _; omega
      · rw [szL_app, szL_app, szL_cons]; show _ + (_ + 0) + _ ≤ _; omega
      · have q9 := join_len (s := "\n") rfl ((rows.take kk ++ [Txt.join " " W']) ++ rows.drop (kk + 1))
        rw [szL_app, szL_app, szL_cons] at q9
        have q9 : _ ≤ szL (rows.take kk) + (((Txt.join " " W').length + 1) + 0) + szL (rows.drop (kk + 1)) := q9
        omega
      · rcases List.mem_append.mp hm with hm | hm
        · rcases List.mem_append.mp hm with hm | hm
          · exact qa w (List.mem_of_mem_take hm)
          · rw [List.mem_singleton.mp hm]; exact join_asc (asc_by (by decide +kernel)) aW
        · exact qa w (List.mem_of_mem_drop hm)
      · rcases List.mem_append.mp hm with hm | hm
        · rcases List.mem_append.mp hm with hm | hm
          · exact Nat.le_trans (qb r (List.mem_of_mem_take hm)) (by omega)
          · rw [List.mem_singleton.mp hm]; omega
        · exact Nat.le_trans (qb r (List.mem_of_mem_drop hm)) (by omega)
end
end GX
set_option maxHeartbeats 4000000
/-! expressions that make data (a part of DT) -/
namespace GX
open PySem PySem.Spec PyProof.Rows L2 LamX
section
variable {K : PySem.W.Frag} {T : List (Addr × Str)} {σ : L2.St} {H : Hp} {Q : VK}
def DT (K : PySem.W.Frag) (T : List (Addr × Str)) (te : TE) (d : PyData) (σ : L2.St) (H : Hp) : Prop := ∀ H1, XX T H H1 → ∀ Q : VK, (∀ H' v, XX T H1 H' → Dp K H' v d → Q v H') → te σ H1 Q
def DTL (K : PySem.W.Frag) (T : List (Addr × Str)) (te : TE) (ds : List PyData) (σ : L2.St) (H : Hp) : Prop := ∀ H1, XX T H H1 → ∀ Q : VK, (∀ H' a xs, XX T H1 H' → H' a = some (.lst xs) → DpAll K H' xs ds → Q (.ref a) H') → te σ H1 Q
def DTN (K : PySem.W.Frag) (T : List (Addr × Str)) (te : TE) (ds : List PyData) (σ : L2.St) (H : Hp) : Prop := ∀ H1, XX T H H1 → ∀ Q : VK, (∀ H' a xs, XX T H1 H' → H1 a = none → H' a = some (.lst xs) → DpAll K H' xs ds → Q (.ref a) H') → te σ H1 Q
def DTA (K : PySem.W.Frag) (T : List (Addr × Str)) (ta : TA) (ds : List PyData) (σ : L2.St) (H : Hp) : Prop := ∀ H1, XX T H H1 → ∀ Q : List V → Hp → Prop, (∀ H' vs, XX T H1 H' → DpAll K H' vs ds → Q vs H') → ta σ H1 Q
theorem DTN.l {te : TE} {ds : List PyData} (h : DTN K T te ds σ H) : DTL K T te ds σ H := fun H1 x Q k => h H1 x Q fun H' a xs x' _ e d => k H' a xs x' e d
theorem DTL.d {te : TE} {ds : List PyData} (h : DTL K T te ds σ H) : DT K T te (.list ds) σ H := fun H1 x Q k => h H1 x Q fun H' a xs x' e d => k H' _ x' (.lst (SqL.of e) d)
theorem DT.run {te : TE} {d : PyData} (h : DT K T te d σ H) (k : ∀ H' v, XX T H H' → Dp K H' v d → Q v H') : te σ H Q := h H (XX.refl H) Q k
theorem DTN.run {te : TE} {ds : List PyData} (h : DTN K T te ds σ H) (k : ∀ H' a xs, XX T H H' → H a = none → H' a = some (.lst xs) → DpAll K H' xs ds → Q (.ref a) H') : te σ H Q := h H (XX.refl H) Q k
theorem dt_int (i : Int) : DT K T (tC (.int i)) (.int i) σ H := fun H1 _ Q k => k H1 _ (XX.refl _) (.int i)
theorem dt_str (x : Str) : DT K T (tC (.str x)) (.str x) σ H := fun H1 _ Q k => k H1 _ (XX.refl _) (.str x)
theorem dt_non : DT K T (tC .non) .none σ H := fun H1 _ Q k => k H1 _ (XX.refl _) .non
theorem dt_var {i : Nat} {v : V} {d : PyData} (e : σ[i]? = some (some v)) (h : Dp K H v d) : DT K T (tVar i) d σ H := fun H1 x Q k => ⟨v, e, k H1 _ (XX.refl _) (Dp.xx x _ _ h)⟩
theorem dta_nil : DTA K T tNil [] σ H := fun H1 _ Q k => k H1 _ (XX.refl _) .nil
theorem dta_cons {a : TE} {b : TA} {d : PyData} {ds : List PyData} (h1 : DT K T a d σ H) (h2 : DTA K T b ds σ H) : DTA K T (tCons a b) (d :: ds) σ H := fun H1 x Q k =>
  h1 H1 x _ fun H2 v x2 dv => h2 H2 (x.trans x2) _ fun H3 us x3 du => k H3 _ (x2.trans x3) (.cons (Dp.xx x3 _ _ dv) du)
theorem dt_tup {t : TA} {ds : List PyData} (h : DTA K T t ds σ H) (hl : ds.length ≤ 1000) : DT K T (tTup t) (.tuple ds) σ H := fun H1 x Q k =>
  h H1 x _ fun H2 vs x2 dv => ⟨by rw [dpAll_len dv]; exact Nat.le_trans hl (by decide), fun p hp => k _ _ (x2.then_new hp) (.tup (SqT.of upd_same) (Dp.xxAll (XX.new (T := T) hp) _ _ dv))⟩
theorem dtn_lst {t : TA} {ds : List PyData} (h : DTA K T t ds σ H) (hl : ds.length ≤ 1000) : DTN K T (tLst t) ds σ H := fun H1 x Q k =>
  h H1 x _ fun H2 vs x2 dv => ⟨by rw [dpAll_len dv]; exact Nat.le_trans hl (by decide), fun p hp => k _ _ _ (x2.then_new hp) (x2.free hp) upd_same (Dp.xxAll (XX.new (T := T) hp) _ _ dv)⟩
theorem dtn_cat {a b : TE} {ds es : List PyData} (h1 : DTL K T a ds σ H) (h2 : DTL K T b es σ H) (hl : ds.length + es.length ≤ 1000) : DTN K T (tOp rCat a b) (ds ++ es) σ H := fun H1 x Q k =>
  h1 H1 x _ fun H2 p xs x2 e2 d2 => h2 H2 (x.trans x2) _ fun H3 q ys x3 e3 d3 => ⟨p, q, xs, ys, rfl, rfl, x3.lst e2, e3, by rw [dpAll_len d2, dpAll_len d3]; exact Nat.le_trans hl (by decide),
    fun r hr => k _ _ _ ((x2.trans x3).then_new hr) ((x2.trans x3).free hr) upd_same (dpAll_app (Dp.xxAll (XX.new (T := T) hr) _ _ (Dp.xxAll x3 _ _ d2)) (Dp.xxAll (XX.new (T := T) hr) _ _ d3))⟩
theorem set_dt {te : TE} {i : Nat} {rest : TS} {D : Ends} {d : PyData} (h : DT K T te d σ H) (k : ∀ H' v, XX T H H' → Dp K H' v d → rest D (σ.set i (some v)) H') : tSeq (tAsg te (gName i)) rest D σ H := h H (XX.refl H) _ k
theorem set_dtn {te : TE} {i : Nat} {rest : TS} {D : Ends} {ds : List PyData} (h : DTN K T te ds σ H) (k : ∀ H' a xs, XX T H H' → H a = none → H' a = some (.lst xs) → DpAll K H' xs ds → rest D (σ.set i (some (.ref a))) H') : tSeq (tAsg te (gName i)) rest D σ H := h H (XX.refl H) _ k
theorem ret_dt {te : TE} {D : Ends} {d : PyData} (h : DT K T te d σ H) (k : ∀ H' v, XX T H H' → Dp K H' v d → D.rt v H') : tRet te D σ H := h H (XX.refl H) _ k
theorem ret_opn {te tb : TE} {r : R2} {D : Ends} {ds : List PyData} (h : DTN K T te ds σ H) (k : ∀ H' a xs, XX T H H' → H a = none → H' a = some (.lst xs) → DpAll K H' xs ds → tb σ H' fun y H2 => r (.ref a) y H2 D.rt) : tRet (tOp r te tb) D σ H := h H (XX.refl H) _ k
end
end GX
set_option maxHeartbeats 8000000
/-! the law's _law_step -/
namespace GX
open PySem PySem.Spec PyProof.Rows L2 LamX
def spStep (K : PySem.W.Frag) (T : List (Addr × Str)) : Sp := fun vs H Q _ => ∃ b l ns z, vs = [.ref b] ∧ BoxAt H b l ns z ∧ ∀ H' ns' z' v s, XM T (SB2 b l) H H' → BoxAt H' b l ns' z' → Dp K H' v (Stp.d s) → s.good → Q v H'
theorem arg_fl (a : Arg) : flatD a.d = true := by
  cases a with
  | n k => rfl
  | v vs => exact flatAll_map (g := natD) (fun _ => rfl) vs
theorem step_fl (s : Stp) : flatD s.d = true := by
  show flatAll (.str s.w :: s.as.map Arg.d) = true
  exact flatAll_map (g := Arg.d) arg_fl s.as
theorem dp_nats {K : PySem.W.Frag} {H : Hp} : ∀ cs : List Nat, DpAll K H (cs.map fun (c : Nat) => V.int (c : Int)) (cs.map natD)
  | [] => .nil
  | c :: cs => .cons (.int _) (dp_nats cs)
/-- the eight steps that one draw picks from -/
def eight (n : Nat) (is : List Nat) : List Stp := [⟨"put", [.v is]⟩, ⟨"change", [.n n, .v is]⟩, ⟨"drop", [.n n]⟩, ⟨"get", [.n n]⟩, ⟨"parts", [.n n]⟩, ⟨"tidy", []⟩, ⟨"arm", [.n n]⟩, ⟨"again", []⟩]
theorem eight_good {n : Nat} {is : List Nat} (hn : n < 1000) (h1 : is.length ≤ 11) (h2 : ∀ k ∈ is, k < 100) : ∀ s ∈ eight n is, s.good := by
  have v1 : (Arg.v is).ok := ⟨h1, h2⟩
  have n1 : (Arg.n n).ok := hn
  intro s hs
  unfold eight at hs
  simp only [List.mem_cons, List.not_mem_nil, or_false] at hs
  rcases hs with e | e | e | e | e | e | e | e <;> subst e <;> refine ⟨by first | rfl | decide +kernel, fun a ha => ?_⟩
  all_goals simp only [List.mem_cons, List.not_mem_nil, or_false] at ha
  · rw [ha]; exact v1
  · rcases ha with e | e <;> rw [e]
    · exact n1
    · exact v1
  · rw [ha]; exact n1
  · rw [ha]; exact n1
  · rw [ha]; exact n1
  · rw [ha]; exact n1
theorem dtl_var8 {K : PySem.W.Frag} {T : List (Addr × Str)} {σ : L2.St} {H : Hp} {i : Nat} {a : Addr} {xs : List V} {ds : List PyData} (e : σ[i]? = some (some (.ref a))) (h : H a = some (.lst xs)) (hd : DpAll K H xs ds) : DTL K T (tVar i) ds σ H :=
  fun H1 x Q k => ⟨_, e, k H1 _ _ (XX.refl _) (x.lst h) (Dp.xxAll x _ _ hd)⟩
section
variable {P : Program} {w : World} {K : PySem.W.Frag} {mg : Str → Option Value} {base : Heap} {T : List (Addr × Str)}
abbrev ltN : List Str := ["_law_box", "_law_values", "_law_number_here", "_law_some", "_law_k"]
theorem sc_lstep : FnScope ltN ["_law_box"] (defScope s_lstep) := ⟨rfl, rfl, rfl, by decide +kernel, rfl, by decide +kernel, by decide +kernel⟩
theorem ok_lstep {f : Addr} {fd : FuncData} (F : L2.Fun K "_law_step" "_law_step" s_lstep f fd) (B : Blt mg) (cT : Cal P w K mg base CX0 "_law_take" ["_law_box", "_law_many"] 1 (spTake T)) :
    FnOk P w K mg base CX0 2 f fd ["_law_box"] (spStep K T) := by
  refine F.ok sc_lstep (fun vs H Q E h => by obtain ⟨b, l, ns, z, rfl, _⟩ := h; rfl) (fun cdv A outer s H vs Q E hr h => ?_)
  obtain ⟨b, l, ns, z, rfl, bx, k⟩ := h
  have nd := sc_lstep.nd
  refine ⟨_, pss_cons (ps_set (i := 1) nd rfl (.inl rfl) (pe_callTy call_tuple_of (by rfl) B.tuple boot_tuple (pa_cons (pe_lc (own := [("_law_k", 4)]) (g := gName 4) (tt := tYes) (te := tCall (spTake T) [] E0 (tCons (tVar 0) (tCons (tC (.int 100)) tNil))) (by rfl) nd (pi_range1 (by rfl) B.range (pa_cons (pe_cal cT hr (pa_cons (pv 0) (pa_cons (pe_ix ix_list (pe_lst (pa_cons pe_int (pa_cons pe_int pa_nil))) (pe_cal cT hr (pa_cons (pv 0) (pa_cons pe_int pa_nil))) (fun _ _ => rfl)) pa_nil))) pa_nil)) (blkOk_by (own := [("_law_k", 4)]) (N := ltN) (sc := defScope s_lstep) (by decide +kernel))
      (fun _ _ _ _ _ => pg_name (i := 4) nd rfl (Or.inl rfl)) (fun _ _ _ _ _ => pts_nil) (fun _ _ _ _ _ => pe_cal cT hr (pa_cons (pv 0) (pa_cons pe_int pa_nil)))) pa_nil)))
    (pss_cons (ps_set (i := 2) nd rfl (.inl rfl) (pe_ix ix_list (pe_lst (pa_cons (pe_cal cT hr (pa_cons (pv 0) (pa_cons pe_int pa_nil))) (pa_cons (pe_cal cT hr (pa_cons (pv 0) (pa_cons pe_int pa_nil))) pa_nil))) (pe_cal cT hr (pa_cons (pv 0) (pa_cons pe_int pa_nil))) (fun _ _ => rfl)))
    (pss_cons (ps_set (i := 3) nd rfl (.inl rfl) (pe_lst (pa_cons (pe_tup (pa_cons pe_str (pa_cons (pv 1) pa_nil))) (pa_cons (pe_tup (pa_cons pe_str (pa_cons (pv 2) (pa_cons (pv 1) pa_nil)))) (pa_cons (pe_tup (pa_cons pe_str (pa_cons (pv 2) pa_nil))) (pa_cons (pe_tup (pa_cons pe_str (pa_cons (pv 2) pa_nil))) (pa_cons (pe_tup (pa_cons pe_str (pa_cons (pv 2) pa_nil))) pa_nil)))))))
    (pss_one (ps_ret (pe_ix ix_list (pe_op op_cat (pv 3) (pe_lst (pa_cons (pe_tup (pa_cons pe_str pa_nil)) (pa_cons (pe_tup (pa_cons pe_str (pa_cons (pv 2) pa_nil))) (pa_cons (pe_tup (pa_cons pe_str pa_nil)) pa_nil))))) (pe_cal cT hr (pa_cons (pv 0) (pa_cons pe_int pa_nil))) (fun _ _ => rfl)))))), ?_⟩
  refine ⟨_, rfl, (by show 2 ≤ sizeLine; decide), fun p3 h3 => ⟨_, rfl, b, l, ns, z, 2, rfl, bx.xx (XX.new (T := T) h3), by decide, by decide, fun H1 ns1 z1 r1 a1 bx1 r10 r11 => ?_⟩⟩
  have nb3 := box_ne bx h3
  obtain ⟨mm, em, m0, m1⟩ : ∃ mm : Int, atI [V.int 3, .int 12] r1 = some (.int mm) ∧ 0 < mm ∧ mm ≤ 12 := by
    rcases (show r1 = 0 ∨ r1 = 1 by omega) with e | e
    · rw [e]; exact ⟨3, rfl, by decide, by decide⟩
    · rw [e]; exact ⟨12, rfl, by decide, by decide⟩
  refine ⟨p3, _, r1, .int mm, rfl, rfl, SqL.of (a1.lst upd_same nb3), em, b, l, ns1, z1, mm, rfl, bx1, m0, by omega, fun H2 ns2 z2 r2 a2 bx2 r20 r21 => ?_⟩
  obtain ⟨m, rfl⟩ := Int.eq_ofNat_of_zero_le r20
  have a02 := ((XX.new (T := T) (o := .lst [V.int 3, .int 12]) h3).xm (S := SB2 b l)).trans (a1.trans a2)
  refine ⟨m, rfl, by omega, by omega, fun D hD => ?_⟩
  have nbD := box_ne bx2 hD
  refine lc_range (lo := 0) (fun j H' => ∃ ns' z', ∃ cs : List Nat, XM T (SB2 b l) H2 H' ∧ BoxAt H' b l ns' z' ∧ H' D = some (.lst (cs.map fun (c : Nat) => V.int (c : Int))) ∧ cs.length = j ∧ ∀ c ∈ cs, c < 100)
    ⟨ns2, z2, [], (XX.new hD).xm, bx2.xx (XX.new (T := T) hD), upd_same, rfl, fun w hw => absurd hw (by simp)⟩ (fun j H' hj pv => ⟨rfl, ?_⟩) (fun H' pv => ?_)
  · obtain ⟨ns3, z3, cs, a3, bx3, e3, l3, hc⟩ := pv
    have hj : j < m := by omega
    refine ⟨_, rfl, b, l, ns3, z3, 100, rfl, bx3, by decide, by decide, fun H4 ns4 z4 r4 a4 bx4 r40 r41 => ?_⟩
    obtain ⟨c, rfl⟩ := Int.eq_ofNat_of_zero_le r40
    have e4 := a4.lst e3 nbD
    refine ⟨_, e4, by rw [List.length_map, l3, sizeLine_eq]; omega, ns4, z4, cs ++ [c], (a3.trans a4).fillM hD e4, bx4.xm (S := fun c => c = D) (XM.upd (T := T) e4 rfl True.intro) (fun q => nbD (.inl q.symm)) (fun q => nbD (.inr q.symm)), by rw [List.map_append]; exact upd_same, by rw [List.length_append, l3, List.length_singleton], fun w hm => ?_⟩
    rcases List.mem_append.mp hm with hm | hm
    · exact hc w hm
    · rw [List.mem_singleton.mp hm]; omega
  obtain ⟨ns3, z3, is, a3, bx3, e3, l3, hc⟩ := pv
  have l3 : is.length ≤ 11 := by omega
  refine ⟨D, _, rfl, .inl ⟨SqL.of e3, fun tv htv => ?_⟩⟩
  have xv := XX.new (T := T) (o := .tup (is.map fun (c : Nat) => V.int (c : Int))) htv
  have bx4 := bx3.xx xv
  have dv : Dp K (upd H' tv (.tup (is.map fun (c : Nat) => V.int (c : Int)))) (.ref tv) (Arg.d (.v is)) := .tup (SqT.of upd_same) (dp_nats is)
  have a04 := (a02.trans a3).trans xv.xm
  generalize upd H' tv (.tup (is.map fun (c : Nat) => V.int (c : Int))) = H4 at xv bx4 dv a04 ⊢
  dsimp only [gName, tNext]
  refine ⟨_, rfl, b, l, ns3, z3, 20, rfl, bx4, by decide, by decide, fun H5 ns5 z5 r5 a5 bx5 r50 r51 => ?_⟩
  refine ⟨_, rfl, b, l, ns5, z5, 1000, rfl, bx5, by decide, by decide, fun H6 ns6 z6 r6 a6 bx6 r60 r61 => ?_⟩
  refine ⟨(by show 2 ≤ sizeLine; decide), fun p7 h7 => ⟨_, rfl, b, l, ns6, z6, 2, rfl, bx6.xx (XX.new (T := T) h7), by decide, by decide, fun H7 ns7 z7 r7 a7 bx7 r70 r71 => ?_⟩⟩
  have nb7 := box_ne bx6 h7
  obtain ⟨n, en, hn⟩ : ∃ n : Nat, atI [V.int r5, .int r6] r7 = some (.int (n : Int)) ∧ n < 1000 := by
    obtain ⟨n5, rfl⟩ := Int.eq_ofNat_of_zero_le r50
    obtain ⟨n6, rfl⟩ := Int.eq_ofNat_of_zero_le r60
    rcases (show r7 = 0 ∨ r7 = 1 by omega) with e | e
    · rw [e]; exact ⟨n5, rfl, by omega⟩
    · rw [e]; exact ⟨n6, rfl, by omega⟩
  refine ⟨p7, _, r7, .int (n : Int), rfl, rfl, SqL.of (a7.lst upd_same nb7), en, ?_⟩
  have a47 := (a5.trans a6).trans (((XX.new (T := T) (o := .lst [V.int r5, .int r6]) h7).xm (S := SB2 b l)).trans a7)
  have a07 := a04.trans a47
  have dv7 := Dp.xm a47 _ _ (arg_fl _) dv
  have dn7 : Dp K H7 (.int (n : Int)) (Arg.d (.n n)) := .int _
  dsimp only [gName, tNext]
  have hg := eight_good hn l3 hc
  -- the list of five
  refine set_dtn (K := K) (T := T) (ds := [Stp.d ⟨"put", [.v is]⟩, Stp.d ⟨"change", [.n n, .v is]⟩, Stp.d ⟨"drop", [.n n]⟩, Stp.d ⟨"get", [.n n]⟩, Stp.d ⟨"parts", [.n n]⟩]) ?a1 ?a2
  case a1 =>
    exact dtn_lst (dta_cons (dt_tup (dta_cons (dt_str "put") (dta_cons (dt_var rfl dv7) dta_nil)) (by simp)) (dta_cons (dt_tup (dta_cons (dt_str "change") (dta_cons (dt_var rfl dn7) (dta_cons (dt_var rfl dv7) dta_nil))) (by simp)) (dta_cons (dt_tup (dta_cons (dt_str "drop") (dta_cons (dt_var rfl dn7) dta_nil)) (by simp)) (dta_cons (dt_tup (dta_cons (dt_str "get") (dta_cons (dt_var rfl dn7) dta_nil)) (by simp)) (dta_cons (dt_tup (dta_cons (dt_str "parts") (dta_cons (dt_var rfl dn7) dta_nil)) (by simp)) dta_nil))))) (by simp)
  intro H8 p8 x8s x8 n8 e8 d8
  have dn8 : Dp K H8 (.int (n : Int)) (Arg.d (.n n)) := .int _
  refine ret_opn (K := K) (T := T) (ds := [Stp.d ⟨"put", [.v is]⟩, Stp.d ⟨"change", [.n n, .v is]⟩, Stp.d ⟨"drop", [.n n]⟩, Stp.d ⟨"get", [.n n]⟩, Stp.d ⟨"parts", [.n n]⟩] ++ [Stp.d ⟨"tidy", []⟩, Stp.d ⟨"arm", [.n n]⟩, Stp.d ⟨"again", []⟩]) ?b1 ?b2
  case b1 =>
    exact dtn_cat (dtl_var8 rfl e8 d8) (dtn_lst (dta_cons (dt_tup (dta_cons (dt_str "tidy") dta_nil) (by simp)) (dta_cons (dt_tup (dta_cons (dt_str "arm") (dta_cons (dt_var rfl dn8) dta_nil)) (by simp)) (dta_cons (dt_tup (dta_cons (dt_str "again") dta_nil) (by simp)) dta_nil))) (by simp)).l (by simp)
  intro H9 p9 x9s x9 n9 e9 d9
  have bx9 := (bx7.xx x8).xx x9
  have nb9 := box_ne (bx7.xx x8) n9
  refine ⟨_, rfl, b, l, ns7, z7, 8, rfl, bx9, by decide, by decide, fun H10 ns10 z10 r10' a10 bx10 r100 r101 => ?_⟩
  obtain ⟨j, rfl⟩ := Int.eq_ofNat_of_zero_le r100
  have e8' : ([Stp.d ⟨"put", [.v is]⟩, Stp.d ⟨"change", [.n n, .v is]⟩, Stp.d ⟨"drop", [.n n]⟩, Stp.d ⟨"get", [.n n]⟩, Stp.d ⟨"parts", [.n n]⟩] ++ [Stp.d ⟨"tidy", []⟩, Stp.d ⟨"arm", [.n n]⟩, Stp.d ⟨"again", []⟩]) = (eight n is).map Stp.d := rfl
  have d9 : DpAll K H9 x9s ((eight n is).map Stp.d) := d9
  have hj : j < (eight n is).length := by show j < 8; omega
  obtain ⟨u, eu, du⟩ := dpAll_at d9 (show ((eight n is).map Stp.d)[j]? = some (Stp.d (eight n is)[j]) by rw [List.getElem?_map, List.getElem?_eq_getElem hj]; rfl)
  refine ⟨p9, x9s, (j : Int), u, rfl, rfl, SqL.of (a10.lst e9 nb9), atI_nat eu, ?_⟩
  exact k _ _ _ _ _ (a07.trans (((x8.trans x9).xm).trans a10)) bx10 (Dp.xm a10 _ _ (step_fl _) du) (hg _ (List.getElem_mem hj))
end
end GX
/-! the law's _law_row -/
namespace GX
open PySem PySem.Spec PyProof.Rows L2 LamX
def spLRow (K : PySem.W.Frag) (T : List (Addr × Str)) : Sp := fun vs H Q _ => ∃ r : Str, vs = [.str r] ∧ r.length ≤ 590 ∧ Asc r ∧ ∀ H' v, XX T H H' → Dp K H' v (stepW (Txt.split r " ")) → Q v H'
theorem u1 {k : Nat} {A : Around} (r : Room k A) : A.units + 1 < cLine := by have := r.un; omega
theorem sortS_len (ks : List Bool) : (sortS ks).length = ks.length := by
  show ((ks.map sortC).toArray).size = ks.length
  rw [List.size_toArray, List.length_map]
theorem sortS_items (ks : List Bool) : (sortS ks).cps.toList.map (fun c => V.str ⟨#[c]⟩) = ks.map fun b => V.str ⟨#[sortC b]⟩ := by
  show (((ks.map sortC).toArray).toList).map _ = _
  rw [List.map_map]
  rfl
theorem nice_lawKind {b : Bool} {w : Str} (h : w.length ≤ 590) : Nice (lawKind b w) 1 := by rw [lawKind_eq h]; exact nice_kind b w
/-- what stands behind j turns -/
def lawFound (y : Str) (ks : List Bool) (ys : List Str) (j : Nat) : List PyData := .str y :: List.zipWith lawKind (ks.take j) (ys.take j)
theorem lawFound_snoc {y : Str} {ks : List Bool} {ys : List Str} {j : Nat} (h1 : j < ks.length) (h2 : j < ys.length) : lawFound y ks ys (j + 1) = lawFound y ks ys j ++ [lawKind ks[j] ys[j]] := by
  unfold lawFound
  have e1 : ks.take (j + 1) = ks.take j ++ [ks[j]] := by rw [List.take_succ, List.getElem?_eq_getElem h1] <;> rfl
  have e2 : ys.take (j + 1) = ys.take j ++ [ys[j]] := by rw [List.take_succ, List.getElem?_eq_getElem h2] <;> rfl
  rw [e1, e2, List.zipWith_append (by rw [List.length_take, List.length_take]; omega)] <;> rfl
theorem lawFound_fl {y : Str} {ks : List Bool} {ys : List Str} {j : Nat} (h : ∀ w ∈ ys, w.length ≤ 590) : ∀ d ∈ lawFound y ks ys j, flatD d = true := fun d hd => by
  rcases List.mem_cons.mp hd with e | hd
  · rw [e]; rfl
  · obtain ⟨i, hi, e⟩ := List.mem_iff_getElem.mp hd
    rw [List.getElem_zipWith] at e
    rw [← e]
    exact (nice_lawKind (h _ (List.mem_of_mem_take (List.getElem_mem _)))).fl
theorem nums_dp {K : PySem.W.Frag} {H : Hp} : ∀ os : List (Option Nat), DpAll K H (os.map numV) (os.map numD)
  | [] => .nil
  | o :: os => .cons (num_dp o) (nums_dp os)
theorem ifE_key {c : Bool} {tA tB : TE} {σ : L2.St} {H : Hp} {Q : VK} (R : V → Hp → Prop) (key : ∀ v H', R v H' → Q v H') (h1 : c = true → ∀ Q' : VK, (∀ v H', R v H' → Q' v H') → tA σ H Q') (h2 : c = false → ∀ Q' : VK, (∀ v H', R v H' → Q' v H') → tB σ H Q') :
    if c = true then tA σ H Q else tB σ H Q := by
  cases c with
  | true => rw [if_pos rfl]; exact h1 rfl Q key
  | false => rw [if_neg Bool.false_ne_true]; exact h2 rfl Q key
section
variable {P : Program} {w : World} {K : PySem.W.Frag} {mg : Str → Option Value} {base : Heap} {T : List (Addr × Str)}
abbrev lrN : List Str := ["_law_row_here", "_law_sorts", "_law_words", "_law_found", "_law_sort", "_law_word", "_law_values", "_law_one"]
theorem sc_lrow : FnScope lrN ["_law_row_here"] (defScope s_lrow) := ⟨rfl, rfl, rfl, by decide +kernel, rfl, by decide +kernel, by decide +kernel⟩
theorem ok_lrow {f : Addr} {fd : FuncData} (F : L2.Fun K "_law_row" "_law_row" s_lrow f fd) (B : Blt mg) (hz : mg "zip" = none) (cN : Cal P w K mg base CX0 "_law_number" ["_law_word", "_law_most"] 1 (spLNum T)) :
    FnOk P w K mg base CX0 2 f fd ["_law_row_here"] (spLRow K T) := by
  refine F.ok sc_lrow (fun vs H Q E h => by obtain ⟨x, rfl, _⟩ := h; rfl) (fun cdv A outer s H vs Q E hr h => ?_)
  obtain ⟨x, rfl, hx, hasc, k⟩ := h
  have nd := sc_lrow.nd
  refine ⟨_, pss_cons (ps_set (i := 1) nd rfl (.inl rfl) (pe_disp (pps_cons pe_str pe_str (pps_cons pe_str pe_str (pps_cons pe_str pe_str (pps_cons pe_str pe_str (pps_cons pe_str pe_str (pps_cons pe_str pe_str (pps_cons pe_str pe_str (pps_cons pe_str pe_str pps_nil)))))))) rfl rfl (by simp) (by decide)))
    (pss_cons (ps_set (i := 2) nd rfl (.inl rfl) (pe_split (pv 0) pe_str))
    (pss_cons (ps_if (PW.pt (pw_or (pt_cmp (pc_dnotin (u1 hr) (pe_ix ix_list (pv 2) pe_int (fun _ _ => rfl)) (pv 1))) (pw_or1 (pt_cmpR op_ne (pe_callB call_len_seq (by rfl) B.len PySem.boot_len (pa_cons (pv 2) pa_nil)) (pe_op op_add pe_int (pe_callB call_len_str (by rfl) B.len PySem.boot_len (pa_cons (pe_dget (u1 hr) (pv 1) (pe_ix ix_list (pv 2) pe_int (fun _ _ => rfl)) (fun _ _ => rfl)) pa_nil))) (nomark _))))) (pss_one (ps_ret pe_non)) pss_nil)
    (pss_cons (ps_set (i := 3) nd rfl (.inl rfl) (pe_tup (pa_cons (pe_ix ix_list (pv 2) pe_int (fun _ _ => rfl)) pa_nil)))
    (pss_cons (ps_for PassesOwn.never rfl (pi_zipG (by rfl) hz (pa_cons (pe_dget (u1 hr) (pv 1) (pe_ix ix_list (pv 2) pe_int (fun _ _ => rfl)) (fun _ _ => rfl)) (pa_cons (pe_slice sl_list (pv 2) (po_some pe_int) po_none) pa_nil))) (pg_tup (by rfl) (pgs_cons (pg_name (i := 4) nd rfl (Or.inl rfl)) (pgs_cons (pg_name (i := 5) nd rfl (Or.inl rfl)) pgs_nil)))
      (pss_cons (ps_set (i := 6) nd rfl (.inl rfl) (pe_ifExp (pt_cmpR op_ne (pv 5) pe_str (nomark _)) (pe_lc (own := [("_law_one", 7)]) (g := gName 7) (tt := tYes) (te := tCall (spLNum T) [] E0 (tCons (tVar 7) (tCons (tC (.int 99)) tNil))) (by rfl) nd (pi_list (pe_split (pv 5) pe_str)) (blkOk_by (own := [("_law_one", 7)]) (N := lrN) (sc := defScope s_lrow) (by decide +kernel))
        (fun _ _ _ _ _ => pg_name (i := 7) nd rfl (Or.inl rfl)) (fun _ _ _ _ _ => pts_nil) (fun _ _ _ _ _ => pe_cal cN hr (pa_cons (pv 7) (pa_cons pe_int pa_nil)))) (pe_lst pa_nil)))
      (pss_one (ps_if (pt_cmpR op_eq (pv 4) pe_str (nomark _)) (pss_one (ps_set (i := 3) nd rfl (.inl rfl) (pe_op op_catA (pv 3) (pe_tup (pa_cons (pe_cal cN hr (pa_cons (pv 5) (pa_cons pe_int pa_nil))) pa_nil)))))
        (pss_one (ps_set (i := 3) nd rfl (.inl rfl) (pe_op op_catA (pv 3) (pe_tup (pa_cons (pe_ifExp (pt_cmpR op_in_seq pe_non (pv 6) (by rfl)) pe_non (pe_callTy call_tuple_of (by rfl) B.tuple boot_tuple (pa_cons (pv 6) pa_nil))) pa_nil)))))))))
    (pss_one (ps_ret (pe_ifExp (pt_cmpR (op_inTD (u65 hr)) pe_non (pv 3) (by rfl)) pe_non (pv 3)))))))), ?_⟩
  obtain ⟨b1, b2, b3⟩ := blank_bounds x
  have basc := blank_asc hasc
  refine fun p hp => ⟨upd_same, sortsL, rfl, by decide, ?_⟩
  have x1 : XX T H (upd (upd H p (.dK [])) p (.dK (mergeK [] sortsL))) := XX.of fun b u e => by rw [upd_ne (ne_of_none e hp), upd_ne (ne_of_none e hp)]; exact e
  have e1 : upd (upd H p (.dK [])) p (.dK (mergeK [] sortsL)) p = some (.dK (mergeK [] sortsL)) := upd_same
  generalize upd (upd H p (.dK [])) p (.dK (mergeK [] sortsL)) = H1 at x1 e1 ⊢
  refine ⟨_, rfl, ⟨x, rfl⟩, x, " ", rfl, rfl, rfl, (by rw [sizeLine_eq]; omega), fun q hq => ?_⟩
  have x2 := x1.then_new (o := .lst ((Txt.split x " ").map V.str)) hq
  have e2 : upd H1 q (.lst ((Txt.split x " ").map V.str)) p = some (.dK (mergeK [] sortsL)) := by rw [upd_ne (ne_of_none e1 hq)]; exact e1
  have w2 : upd H1 q (.lst ((Txt.split x " ").map V.str)) q = some (.lst ((Txt.split x " ").map V.str)) := upd_same
  generalize upd H1 q (.lst ((Txt.split x " ").map V.str)) = H2 at x2 e2 w2 ⊢
  cases e : Txt.split x " " with
  | nil => exact absurd e b1
  | cons y ys =>
    rw [e] at b2 b3 basc k w2
    rw [List.length_cons] at b2
    have lys : ((y :: ys).map V.str).length = ys.length + 1 := by rw [List.length_map, List.length_cons]
    have at0 : ∀ Q' : VK, ∀ H', XX T H2 H' → Q' (.str y) H' → tOp (rIxL K) (tVar 2) (tC (.int 0)) [some (.str x), some (.ref p), some (.ref q), none, none, none, none, none] H' Q' := fun Q' H' x' q' => ⟨_, rfl, q, _, 0, .str y, rfl, rfl, x'.sqL (SqL.of w2), atI0, q'⟩
    have dg : DGet H2 p (.str y) ((shapeW y).map fun ks => V.str (sortS ks)) := by
      have := DGet.k (k := (.inr y : Key)) e2
      rw [sorts_at] at this
      exact this
    dsimp only [gName, tNext]
    refine ⟨_, rfl, q, _, 0, .str y, rfl, rfl, SqL.of w2, atI0, _, rfl, p, _, rfl, dg, ?_⟩
    cases es1 : shapeW y with
    | none =>
      refine ⟨_, rfl, iteT (iteT ?_)⟩
      rw [stepW_no es1] at k
      exact k _ _ x2 .non
    | some ks =>
      have lk := shape_len es1
      have dg : DGet H2 p (.str y) (some (V.str (sortS ks))) := by rw [es1] at dg; exact dg
      refine ⟨_, rfl, iteF ?_⟩
      refine ⟨_, rfl, q, _, rfl, .inl (SqL.of w2), _, rfl, _, rfl, q, _, 0, .str y, rfl, rfl, SqL.of w2, atI0, p, _, rfl, dg, sortS ks, rfl, by rw [sortS_len, sizeLine_eq]; omega, _, _, rfl, rfl, rfl, _, rfl, ?_⟩
      rw [stepW_so es1] at k
      by_cases hlen : ys.length = ks.length
      case neg =>
        rw [show (!decide (V.int ((((y :: ys).map V.str).length : Nat) : Int) = V.int (1 + ((sortS ks).length : Int)))) = true by rw [lys, sortS_len]; simpa using fun z => hlen (by omega)]
        rw [if_neg hlen] at k
        exact iteT (k _ _ x2 .non)
      rw [show (!decide (V.int ((((y :: ys).map V.str).length : Nat) : Int) = V.int (1 + ((sortS ks).length : Int)))) = false by rw [lys, sortS_len, hlen]; simp; omega]
      rw [if_pos hlen] at k
      refine iteF ⟨_, rfl, q, _, 0, .str y, rfl, rfl, SqL.of w2, atI0, (by show 1 ≤ sizeLine; decide), fun r hr3 => ?_⟩
      have x3 := x2.then_new (o := .tup [V.str y]) hr3
      have xr := XX.new (T := T) (o := .tup [V.str y]) hr3
      have t3 : SqT K (upd H2 r (.tup [V.str y])) r [V.str y] := SqT.of upd_same
      have w3 := xr.lst w2
      have dg3 : DGet (upd H2 r (.tup [V.str y])) p (.str y) (some (V.str (sortS ks))) := by
        have := DGet.k (k := (.inr y : Key)) (xr.keep _ _ e2 fun _ z => by cases z)
        rw [sorts_at, es1] at this
        exact this
      generalize upd H2 r (.tup [V.str y]) = H3 at x3 t3 w3 dg3 ⊢
      dsimp only [gName, tNext]
      refine ⟨_, rfl, _, rfl, q, _, 0, .str y, rfl, rfl, SqL.of w3, atI0, p, _, rfl, dg3, _, rfl, ?_⟩
      refine ⟨_, rfl, q, _, rfl, SqL.of w3, fun t ht => ?_⟩
      have xt := XX.new (T := T) (o := .lst (cutV ((y :: ys).map V.str) (some (1 : Int)) none)) ht
      have x4 := x3.trans xt
      have ct : cutV ((y :: ys).map V.str) (some (1 : Int)) none = ys.map V.str := by
        have := cutV_drop ((y :: ys).map V.str) 1
        exact this
      rw [ct] at xt x4 ⊢
      have t4 : SqT K (upd H3 t (.lst (ys.map V.str))) r [V.str y] := xt.sqT t3
      have z4 : upd H3 t (.lst (ys.map V.str)) t = some (.lst (ys.map V.str)) := upd_same
      generalize upd H3 t (.lst (ys.map V.str)) = H4 at xt x4 t4 z4 ⊢
      refine ⟨.s (sortS ks), .l t, ks.map fun b => V.str ⟨#[sortC b]⟩, ys.map V.str, rfl, (sortS_items ks).symm, SqL.of z4, ?_⟩
      have bnd : ∀ w ∈ ys, w.length ≤ 590 := fun w hw => Nat.le_trans (b3 w (List.mem_cons_of_mem y hw)) hx
      have lk2 : (ks.map fun b => V.str ⟨#[sortC b]⟩).length = ks.length := List.length_map ..
      have ly2 : (ys.map V.str).length = ys.length := List.length_map ..
      refine for_it (walk_zipG (xs := ks.map fun b => V.str ⟨#[sortC b]⟩) (ys := ys.map V.str) (n := ks.length) (by rw [lk2, ly2, hlen]; exact (Nat.min_self _).symm))
        (fun j σ' H' => ∃ (f : Addr) (u4 u5 u6 u7 : Option V), σ' = [some (.str x), some (.ref p), some (.ref q), some (.ref f), u4, u5, u6, u7] ∧ XX T H4 H' ∧ Dp K H' (.ref f) (.tuple (lawFound y ks ys j)))
        ⟨r, _, _, _, _, rfl, XX.refl H4, .tup t4 (.cons (.str y) .nil)⟩ (fun j σ' H' _ pv => ?_) (fun j v σ' H' H'' hj pv yy => ?_) (fun σ' H' pv => ?_)
      · obtain ⟨_, _, _, _, _, _, x', _⟩ := pv
        exact ⟨(sortS_items ks).symm, x'.sqL (SqL.of z4)⟩
      · obtain ⟨f, u4, u5, u6, u7, rfl, x5, d5⟩ := pv
        obtain ⟨Tt, a, b, rfl, nT, rfl, ea, eb⟩ := yy
        have hj2 : j < ys.length := by omega
        have ea : (ks.map fun b => V.str ⟨#[sortC b]⟩)[j]? = some a := ea
        have eb : (ys.map V.str)[j]? = some b := eb
        rw [List.getElem?_map, List.getElem?_eq_getElem hj] at ea
        rw [List.getElem?_map, List.getElem?_eq_getElem hj2] at eb
        cases ea
        cases eb
        have xT := XX.new (T := T) (o := .tup [V.str ⟨#[sortC ks[j]]⟩, V.str ys[j]]) nT
        have x6 := x5.trans xT
        have d6 := Dp.xx xT _ _ d5
        refine ⟨Tt, _, rfl, SqT.of upd_same, rfl, _, _, rfl, _, _, rfl, rfl, ?_⟩
        generalize upd H' Tt (.tup [V.str ⟨#[sortC ks[j]]⟩, V.str ys[j]]) = H6 at x6 d6 ⊢
        dsimp only [gName, tNext]
        have bj := bnd _ (List.getElem_mem hj2)
        have aj := basc _ (List.mem_cons_of_mem y (List.getElem_mem hj2))
        have cat : ∀ v H7, XX T H6 H7 → Dp K H7 v (lawKind ks[j] ys[j]) → ∀ t5, H7 t5 = none → ∀ QQ : VK, (∀ f2 H8, XX T H6 H8 → Dp K H8 (.ref f2) (.tuple (lawFound y ks ys (j + 1))) → QQ (.ref f2) H8) →
            rCatA K (.ref f) (.ref t5) (upd H7 t5 (.tup [v])) QQ := by
          intro v H7 x7 dv t5 ht5 QQ q
          have xn := XX.new (T := T) (o := .tup [v]) ht5
          obtain ⟨f', xs, ef, hS, ha⟩ := dp_tup (Dp.xx (x7.trans xn) _ _ d6)
          cases ef
          have la := dpAll_len ha
          have ll : (lawFound y ks ys j).length ≤ 3 := by
            show (List.zipWith lawKind (ks.take j) (ys.take j)).length + 1 ≤ 3
            rw [List.length_zipWith, List.length_take]
            omega
          have ne : xs ≠ [] := fun z => by rw [z] at la; unfold lawFound at la; cases la
          refine ⟨f, t5, xs, [v], rfl, rfl, hS, SqT.of upd_same, (by rw [la, sizeLine_eq]; show _ + 1 ≤ _; omega), fun z => absurd z ne, (fun _ z => by cases z), fun _ _ p2 hp2 => ?_⟩
          have xo := XX.new (T := T) (o := .tup (xs ++ [v])) hp2
          refine q p2 _ ((x7.trans xn).trans xo) (.tup (SqT.of upd_same) ?_)
          rw [lawFound_snoc hj hj2]
          exact dpAll_snoc (Dp.xxAll xo _ _ ha) (Dp.xx (xn.trans xo) _ _ dv)
        refine ⟨_, rfl, rfl, _, rfl, ?_⟩
        refine ifE_key (fun v H' => ∃ vl, v = .ref vl ∧ XX T H6 H' ∧ H' vl = some (.lst ((lawNums ys[j]).map numV))) (fun v H' z => ?_) (fun hc Q' kq => ?_) (fun hc Q' kq => ?_)
        · obtain ⟨vl, rfl, x7, e7⟩ := z
          refine ⟨_, rfl, rfl, _, rfl, ?_⟩
          have dn : decide ((V.str ⟨#[sortC ks[j]]⟩ : V) = V.str "n") = ks[j] := by cases ks[j] <;> decide +kernel
          rw [dn]
          cases ekb : ks[j] with
          | true =>
            rw [ekb] at cat
            refine iteT ⟨_, rfl, _, rfl, ys[j], 999, rfl, by omega, aj, fun H8 x8 => ⟨(by show 1 ≤ sizeLine; decide), fun t5 ht5 => ?_⟩⟩
            refine cat _ H8 (x7.trans x8) (num_dp _) t5 ht5 _ fun f2 H9 x9 d9 => ?_
            exact ⟨f2, _, _, _, _, rfl, x6.trans x9, d9⟩
          | false =>
            rw [ekb] at cat
            have ev : lawKind false ys[j] = if (lawNums ys[j]).any Option.isNone = true then .none else .tuple ((lawNums ys[j]).map numD) := if_neg Bool.false_ne_true
            refine iteF ⟨_, rfl, _, rfl, vl, _, rfl, .inl (SqL.of e7), rfl, num_flatV _, _, rfl, ?_⟩
            rw [if_neg Bool.false_ne_true, in_num]
            cases en : (lawNums ys[j]).any Option.isNone with
            | true =>
              refine iteT ⟨(by show 1 ≤ sizeLine; decide), fun t5 ht5 => ?_⟩
              rw [en, if_pos rfl] at ev
              rw [ev] at cat
              refine cat _ _ x7 .non t5 ht5 _ fun f2 H9 x9 d9 => ?_
              exact ⟨f2, _, _, _, _, rfl, x6.trans x9, d9⟩
            | false =>
              rw [en, if_neg Bool.false_ne_true] at ev
              rw [ev] at cat
              refine iteF ⟨_, rfl, vl, _, rfl, .inl ⟨SqL.of e7, fun l hl => ⟨(by show 1 ≤ sizeLine; decide), fun t5 ht5 => ?_⟩⟩⟩
              refine cat _ _ (x7.then_new hl) (.tup (SqT.of upd_same) (nums_dp _)) t5 ht5 _ fun f2 H9 x9 d9 => ?_
              exact ⟨f2, _, _, _, _, rfl, x6.trans x9, d9⟩
        · have hne : ys[j] ≠ "-" := fun z => by rw [z] at hc; revert hc; decide +kernel
          have en : lawNums ys[j] = (Txt.split ys[j] ",").map fun x => lnO x 99 := if_neg hne
          obtain ⟨c1, c2, c3⟩ := comma_bounds ys[j]
          have casc := split_asc (y := ",") (by decide +kernel) (by decide +kernel) aj
          refine ⟨_, rfl, ⟨ys[j], rfl⟩, ys[j], ",", rfl, rfl, rfl, (by rw [sizeLine_eq]; omega), ?_⟩
          generalize Txt.split ys[j] "," = ws at en c1 c2 c3 casc ⊢
          refine fun p7 hp7 => ⟨p7, rfl, ⟨_, SqL.of upd_same⟩, fun D hD => ?_⟩
          have x7 := XX.new (T := T) (o := .lst (ws.map V.str)) hp7
          have lw : (ws.map V.str).length = ws.length := List.length_map ..
          refine lc_dp (T := T) (K := K) (fun j => numD (lnO (ws.getD j "") 99)) hD (SqL.of upd_same) (by rw [lw, sizeLine_eq]; omega) (fun j _ => num_fl _) (fun j xv H8 Qe ex x8 q8 => ?_) (fun H8 acc x8 e8 da => ?_)
          · have hj3 := (List.getElem?_eq_some_iff.mp ex).1
            rw [lw] at hj3
            rw [List.getElem?_map, List.getElem?_eq_getElem hj3] at ex
            obtain rfl : V.str ws[j] = xv := Option.some.inj ex
            have eg : ws.getD j "" = ws[j] := by rw [List.getD_eq_getElem?_getD, List.getElem?_eq_getElem hj3]; rfl
            have c4 := c3 _ (List.getElem_mem hj3)
            rw [eg] at q8
            exact ⟨_, rfl, ws[j], 99, rfl, by omega, casc _ (List.getElem_mem hj3), fun H9 x9 => q8 H9 _ x9 (num_dp _)⟩
          · have em : (List.range (ws.map V.str).length).map (fun j => numD (lnO (ws.getD j "") 99)) = (lawNums ys[j]).map numD := by
              rw [lw, map_range (fun w => numD (lnO w 99)), en, List.map_map] <;> rfl
            rw [em] at da
            obtain rfl := dpAll_num da
            exact kq _ _ ⟨D, rfl, x7.trans x8, e8⟩
        · have he : ys[j] = "-" := by
            by_cases z : ys[j] = "-"
            · exact z
            · rw [dec_str, decide_eq_false z] at hc; cases hc
          have en : lawNums ys[j] = [] := if_pos he
          rw [en] at kq
          exact ⟨Nat.zero_le _, fun p7 hp7 => kq _ _ ⟨p7, rfl, XX.new hp7, upd_same⟩⟩
      · obtain ⟨f, u4, u5, u6, u7, rfl, x5, d5⟩ := pv
        have ef : lawFound y ks ys ks.length = .str y :: List.zipWith kindW ks ys := by
          unfold lawFound
          rw [List.take_length, ← hlen, List.take_length, lawKinds_eq ks ys bnd]
        rw [ef] at d5
        have nz : ∀ d ∈ List.zipWith kindW ks ys, Nice d 1 := fun d hd => by
          obtain ⟨b, u, e⟩ := zip_mem hd
          rw [e]; exact nice_kind b u
        have by0 := basc y List.mem_cons_self
        generalize List.zipWith kindW ks ys = ds at d5 nz k
        have nz2 : ∀ d ∈ PyData.str y :: ds, Nice d 1 := fun d hd => by
          rcases List.mem_cons.mp hd with q | hd
          · rw [q]; exact (nice_lit (strOk_asc by0)).mono (by decide)
          · exact nz d hd
        have sh : SeqAt.shaped (.tuple (.str y :: ds)) = true := by
          have h1 : PyData.canLay0 (.tuple (.str y :: ds)) = true := canLayAll_of fun d hd => (nz2 d hd).cl
          have h2 : PyData.depthAll (.str y :: ds) ≤ 1 := depthAll_of fun d hd => (nz2 d hd).dp
          have h3 : PyData.depth (.tuple (.str y :: ds)) ≤ 64 := by show PyData.depthAll (.str y :: ds) + 1 ≤ 64; omega
          unfold SeqAt.shaped
          rw [h1, decide_eq_true h3] <;> rfl
        have ea : ((PyData.str y :: ds).any fun z => PyData.eqv z .none) = noneB ds := by
          rw [List.any_cons] <;> rfl
        refine ⟨_, rfl, .none, .str y :: ds, .non, d5, by decide +kernel, sh, _, rfl, ?_⟩
        rw [ea]
        have x7 := x4.trans x5
        cases hn : noneB ds with
        | true =>
          rw [hn, if_pos rfl] at k
          exact iteT (k _ _ x7 .non)
        | false =>
          rw [hn, if_neg Bool.false_ne_true] at k
          exact iteF ⟨_, rfl, k _ _ x7 d5⟩
end
end GX
/-! the law's _law_text -/
namespace GX
open PySem PySem.Spec PyProof.Rows L2 LamX
theorem joinL_snoc (S p : List Nat) : ∀ (q : List Nat) (l : List (List Nat)), TL.joinL S ((q :: l) ++ [p]) = TL.joinL S (q :: l) ++ (S ++ p)
  | q, [] => rfl
  | q, r :: l => by
    show q ++ (S ++ TL.joinL S ((r :: l) ++ [p])) = (q ++ (S ++ TL.joinL S (r :: l))) ++ (S ++ p)
    rw [joinL_snoc S p r l, List.append_assoc, List.append_assoc]
theorem join_snoc (y w q : Str) (l : List Str) : Txt.join y ((q :: l) ++ [w]) = Txt.join y (q :: l) ++ y ++ w := by
  refine TL.ext_tl ?_
  rw [TL.tl_append, TL.tl_append, TL.join_eq, TL.join_eq, TL.tl_join, TL.tl_join, List.map_append, List.map_cons, List.append_assoc]
  exact joinL_snoc (TL.tl y) (TL.tl w) (TL.tl q) (l.map TL.tl)
def rowJ (s : Stp) (j : Nat) : Str := Txt.join " " (s.w :: (s.as.take j).map Arg.w)
theorem rowJ_zero (s : Stp) : rowJ s 0 = s.w := by
  unfold rowJ
  rw [List.take_zero, List.map_nil, TL.join_eq] <;> rfl
theorem rowJ_all (s : Stp) : rowJ s s.as.length = s.row := by
  unfold rowJ
  rw [List.take_length] <;> rfl
theorem rowJ_succ {s : Stp} {j : Nat} (h : j < s.as.length) : rowJ s (j + 1) = rowJ s j ++ " " ++ s.as[j].w := by
  unfold rowJ
  rw [List.take_succ, List.getElem?_eq_getElem h, List.map_append]
  exact join_snoc " " s.as[j].w s.w _
theorem rowJ_len {s : Stp} (h : s.ok) {j : Nat} (hj : j ≤ s.as.length) : (rowJ s j).length ≤ 100 := by
  have h1 := join_len (s := " ") rfl (s.w :: (s.as.take j).map Arg.w)
  have h2 := (Stp.sz h).1
  have e : szL s.ws = szL (s.w :: s.as.map Arg.w) := rfl
  rw [e, szL_cons] at h2
  rw [szL_cons] at h1
  have h3 := szL_tk (s.as.map Arg.w) j
  rw [← List.map_take] at h3
  show (Txt.join " " (s.w :: (s.as.take j).map Arg.w)).length ≤ 100
  omega
theorem nice_arg (a : Arg) (h : a.ok) : Nice a.d 1 := by
  cases a with
  | n k => exact (nice_int _).mono (by decide)
  | v vs =>
    refine nice_tuple (n := 0) (by rw [List.length_map]; have := h.1; omega) fun d hd => ?_
    obtain ⟨k, _, e⟩ := List.mem_map.mp hd
    rw [← e]; exact nice_int _
theorem u64 {k : Nat} {A : Around} (r : Room k A) : A.units + 64 < cLine := by have := r.un; omega
def spLText (K : PySem.W.Frag) (T : List (Addr × Str)) : Sp := fun vs H Q _ => ∃ a xs ss, vs = [.ref a] ∧ SqL K H a xs ∧ DpAll K H xs (ss.map Stp.d) ∧ ss.length ≤ 8 ∧ (∀ s ∈ ss, s.ok) ∧ ∀ H', XX T H H' → Q (.str (Stps.text ss)) H'
section
variable {P : Program} {w : World} {K : PySem.W.Frag} {mg : Str → Option Value} {base : Heap} {T : List (Addr × Str)}
abbrev lxN : List Str := ["_law_steps", "_law_rows", "_law_step_here", "_law_row_here", "_law_part", "_law_one"]
theorem sc_ltext : FnScope lxN ["_law_steps"] (defScope s_ltext) := ⟨rfl, rfl, rfl, by decide +kernel, rfl, by decide +kernel, by decide +kernel⟩
theorem ok_ltext {f : Addr} {fd : FuncData} (F : L2.Fun K "_law_text" "_law_text" s_ltext f fd) (B : Blt mg) (bs : mg "str" = none) : FnOk P w K mg base CX0 1 f fd ["_law_steps"] (spLText K T) := by
  refine F.ok sc_ltext (fun vs H Q E h => by obtain ⟨b, l, ns, rfl, _⟩ := h; rfl) (fun cdv A outer s H vs Q E hr h => ?_)
  obtain ⟨a, xs, ss, rfl, hS, hd, hn, hok, k⟩ := h
  have nd := sc_ltext.nd
  refine ⟨_, pss_cons (ps_set (i := 1) nd rfl (.inl rfl) (pe_lst pa_nil))
    (pss_cons (ps_for PassesOwn.never rfl (pi_list (pv 0)) (pg_name (i := 2) nd rfl (Or.inl rfl))
      (pss_cons (ps_set (i := 3) nd rfl (.inl rfl) (pe_ix ix_tup (pv 2) pe_int (fun _ _ => rfl)))
      (pss_cons (ps_for PassesOwn.never rfl (pi_tup (pe_slice sl_tupA (pv 2) (po_some pe_int) po_none)) (pg_name (i := 4) nd rfl (Or.inl rfl))
        (pss_one (ps_if (pt_val (pe_callB call_isi (by rfl) B.isi k_isi (pa_cons (pv 4) (pa_cons (pe_bltn (v := .ty "tuple") (by rfl) B.tuple boot_tuple rfl) pa_nil))))
          (pss_one (ps_set (i := 3) nd rfl (.inl rfl) (pe_op op_addT (pe_op op_addT (pv 3) pe_str) (pe_ifExp (pt_cmpR (op_neD (u64 hr)) (pv 4) (pe_tup pa_nil) (nomark _)) (pe_joinT pe_str (pe_lc (own := [("_law_one", 5)]) (g := gName 5) (tt := tYes) (te := tCB rStrI (tCons (tVar 5) tNil)) (by rfl) nd (pi_tup (pv 4)) (blkOk_by (own := [("_law_one", 5)]) (N := lxN) (sc := defScope s_ltext) (by decide +kernel))
            (fun _ _ _ _ _ => pg_name (i := 5) nd rfl (Or.inl rfl)) (fun _ _ _ _ _ => pts_nil) (fun _ _ _ _ _ => pe_callTy call_strI (by rfl) bs (by decide +kernel) (pa_cons (pv 5) pa_nil)))) pe_str))))
          (pss_one (ps_set (i := 3) nd rfl (.inl rfl) (pe_op op_addT (pe_op op_addT (pv 3) pe_str) (pe_callTy call_strI (by rfl) bs (by decide +kernel) (pa_cons (pv 4) pa_nil))))))))
      (pss_one (ps_expr (pe_bm PySem.F.plainAttrs_list PySem.F.slot_list_append PySem.F.type_list_append mt_append (pv 1) (pa_cons (pv 3) pa_nil)))))))
    (pss_one (ps_ret (pe_joinT pe_str (pv 1))))), ?_⟩
  refine ⟨Nat.zero_le _, fun D hD => ?_⟩
  have lx : xs.length = ss.length := by rw [dpAll_len hd, List.length_map]
  refine ⟨_, rfl, a, rfl, ⟨_, (XX.new (T := T) hD).sqL hS⟩, ?_⟩
  refine for_it (walk_list (K := K) (a := a) (xs := xs)) (fun i σ' H' => ∃ u2 u3 u4 u5, σ' = [some (.ref a), some (.ref D), u2, u3, u4, u5] ∧ XX T H H' ∧ H' D = some (.lst (((ss.take i).map Stp.row).map V.str)))
    ⟨_, _, _, _, rfl, XX.new hD, upd_same⟩ (fun i σ' H' _ pv => by obtain ⟨_, _, _, _, _, x', _⟩ := pv; exact x'.sqL hS) (fun i v σ' H' H'' hi pv yy => ?_) (fun σ' H' pv => ?_)
  · obtain ⟨u2, u3, u4, u5, rfl, x1, e1⟩ := pv
    obtain ⟨rfl, ex⟩ := yy
    have hi2 : i < ss.length := by omega
    obtain ⟨u, eu, du⟩ := dpAll_at (Dp.xxAll x1 _ _ hd) (show (ss.map Stp.d)[i]? = some (Stp.d ss[i]) by rw [List.getElem?_map, List.getElem?_eq_getElem hi2]; rfl)
    rw [ex] at eu
    cases eu
    have ok1 := hok _ (List.getElem_mem hi2)
    obtain ⟨p, ys, rfl, hp, hy⟩ := dp_tup du
    have hy0 := hy
    cases hy with
    | cons hw hr2 =>
    cases hw
    rename_i as
    have la : as.length = ss[i].as.length := by rw [dpAll_len hr2, List.length_map]
    dsimp only [gName, tNext]
    refine ⟨_, rfl, p, _, 0, .str ss[i].w, rfl, rfl, hp, atI0, ?_⟩
    dsimp only [gName, tNext]
    refine ⟨_, rfl, _, rfl, p, _, rfl, hp, (fun z => ?_), fun _ p2 hp2 => ?_⟩
    · have z1 := z.1
      rw [show (1 : Int) = ((1 : Nat) : Int) from rfl, HT.sIx_nat, List.length_cons] at z1
      omega
    have ct : cutV (V.str ss[i].w :: as) (some (1 : Int)) none = as := cutV_drop (V.str ss[i].w :: as) 1
    rw [ct]
    have x2 := XX.new (T := T) (o := .tup as) hp2
    have t2 : SqT K (upd H'' p2 (.tup as)) p2 as := SqT.of upd_same
    have hr3 := Dp.xxAll x2 _ _ hr2
    have e2 := x2.lst e1
    have x02 := x1.trans x2
    generalize upd H'' p2 (.tup as) = H3 at x2 t2 hr3 e2 x02 ⊢
    refine ⟨p2, rfl, ⟨_, t2⟩, ?_⟩
    refine for_it (walk_tup (K := K) (a := p2) (xs := as)) (fun j σ' H' => ∃ u4 u5, σ' = [some (.ref a), some (.ref D), some (.ref p), some (.str (rowJ ss[i] j)), u4, u5] ∧ XX T H3 H')
      ⟨_, _, by rw [rowJ_zero] <;> rfl, XX.refl H3⟩ (fun j σ' H' _ pv => by obtain ⟨_, _, _, x'⟩ := pv; exact x'.sqT t2) (fun j v σ' H4 H4' hj pv yy => ?_) (fun σ' H' pv => ?_)
    · obtain ⟨u4, u5, rfl, x4⟩ := pv
      obtain ⟨rfl, ex⟩ := yy
      have hj2 : j < ss[i].as.length := by omega
      obtain ⟨u, eu, du⟩ := dpAll_at (Dp.xxAll x4 _ _ hr3) (show (ss[i].as.map Arg.d)[j]? = some (Arg.d ss[i].as[j]) by rw [List.getElem?_map, List.getElem?_eq_getElem hj2]; rfl)
      rw [ex] at eu
      cases eu
      have ok2 := ok1.2.2 _ (List.getElem_mem hj2)
      have rl := rowJ_len ok1 (Nat.le_of_lt hj2)
      have rs := rowJ_succ hj2
      dsimp only [gName, tNext]
      refine t_isi rfl du kit_tuple ⟨_, rfl, ?_⟩
      have sp1 : (" " : Str).length = 1 := by decide +kernel
      cases ea : ss[i].as[j] with
      | n n =>
        rw [ea] at du ok2 rs
        obtain rfl : v = .int (n : Int) := dp_int du
        have hn2 : n < 1000 := ok2
        have nl : (numS n).length ≤ 3 := (numS_txo hn2).1
        refine iteF ⟨_, rfl, _, _, rfl, rfl, by rw [sp1, sizeLine_eq]; omega, _, rfl, _, rfl, small_log (by omega), _, _, rfl, rfl, ?_, ?_⟩
        · show (rowJ ss[i] j ++ " ").length + (numS n).length ≤ sizeLine
          rw [len_app, sp1, sizeLine_eq]; omega
        · exact ⟨_, _, by rw [rs] <;> rfl, x4⟩
      | v is =>
        rw [ea] at du ok2 rs
        have na := nice_arg _ ok2
        have tx : Txo 44 (Arg.v is).w := Arg.txo ok2
        obtain ⟨hl, hb⟩ := ok2
        obtain ⟨p5, ys, rfl, hS5, hx5⟩ := dp_tup du
        refine iteT ⟨_, rfl, _, _, rfl, rfl, by rw [sp1, sizeLine_eq]; omega, _, rfl, Nat.zero_le _, fun q hq => ⟨.tuple (is.map natD), .tuple [], ?_, .tup (SqT.of upd_same) .nil, na.sh (by decide), by decide +kernel, _, rfl, ?_⟩⟩
        · exact Dp.xx (XX.new (T := T) hq) _ _ du
        have xq := XX.new (T := T) (o := .tup []) hq
        have sS := xq.sqT hS5
        have sx := Dp.xxAll xq _ _ hx5
        generalize upd H4' q (.tup []) = H5 at xq sS sx ⊢
        refine ifE_key (fun v H' => v = .str (Arg.v is).w ∧ XX T H5 H') (fun v H' z => ?_) (fun hc Q' kq => ?_) (fun hc Q' kq => ?_)
        · obtain ⟨rfl, x6⟩ := z
          refine ⟨_, _, rfl, rfl, ?_, _, _, by rw [rs] <;> rfl, (x4.trans xq).trans x6⟩
          have := tx.1
          rw [len_app, sp1, sizeLine_eq]; omega
        · have hne : is ≠ [] := fun z => by
            subst z
            rw [show PyData.eqv (.tuple (([] : List Nat).map natD)) (.tuple []) = true from rfl] at hc
            cases hc
          have ew : (Arg.v is).w = Txt.join "," (is.map numS) := if_neg hne
          rw [ew] at kq
          have ly : ys.length = is.length := by rw [dpAll_len sx, List.length_map]
          have lw : (is.map numS).length = is.length := List.length_map ..
          refine ⟨⟨_, rfl⟩, _, rfl, p5, rfl, ⟨_, sS⟩, fun D2 hD2 => ?_⟩
          refine lc_dpW (T := T) (K := K) walk_tup rfl (fun H' x' => x'.sqT sS) (fun j => PyData.str ((is.map numS).getD j "")) hD2 (by rw [ly, sizeLine_eq]; omega) (fun j _ => rfl) (fun j x H' Qe ex x' q => ?_) (fun H' acc x' e1 da => ?_)
          · have hj := (List.getElem?_eq_some_iff.mp ex).1
            have hj2 : j < is.length := by rw [← ly]; exact hj
            obtain ⟨u, eu, du⟩ := dpAll_at sx (show (is.map natD)[j]? = some (natD is[j]) by rw [List.getElem?_map, List.getElem?_eq_getElem hj2]; rfl)
            rw [ex] at eu
            cases eu
            obtain rfl : x = .int ((is[j] : Nat) : Int) := dp_int du
            have hb2 := hb _ (List.getElem_mem hj2)
            have eg : (is.map numS).getD j "" = numS is[j] := getD_map hj2
            refine ⟨_, rfl, _, rfl, small_log (by omega), q H' _ (XX.refl H') ?_⟩
            rw [eg]
            exact .str _
          · rw [ly, ← lw, map_range (fun w => PyData.str w) ""] at da
            obtain rfl := dpAll_strs da
            have hw : ∀ w ∈ is.map numS, Txo 3 w := fun w hm => by
              obtain ⟨k, hk, e⟩ := List.mem_map.mp hm
              rw [← e]; exact numS_txo (by have := hb k hk; omega)
            have z := szL_le fun w hm => (hw w hm).1
            exact ls_join rfl e1 (by omega) (kq _ _ ⟨rfl, x'⟩)
        · have he : is = [] := by
            cases is with
            | nil => rfl
            | cons c cs =>
              rw [show PyData.eqv (.tuple ((c :: cs).map natD)) (.tuple []) = false from rfl] at hc
              cases hc
          refine kq _ _ ⟨?_, XX.refl H5⟩
          show V.str "-" = V.str (if is = [] then "-" else _)
          rw [if_pos he]
    · obtain ⟨u4, u5, rfl, x4⟩ := pv
      rw [la, rowJ_all]
      have e4 := x4.lst e2
      have x04 := x02.trans x4
      refine ⟨_, rfl, .inl ⟨rfl, _, SqL.of e4⟩, _, rfl, D, _, _, rfl, rfl, e4, by rw [List.length_map, List.length_map, List.length_take, sizeLine_eq]; omega, ?_⟩
      refine ⟨_, _, _, _, rfl, x04.fillD hD e4, ?_⟩
      have et : ss.take (i + 1) = ss.take i ++ [ss[i]] := by rw [List.take_succ, List.getElem?_eq_getElem hi2]; rfl
      rw [upd_same, et, List.map_append, List.map_append]
      rfl
  · obtain ⟨u2, u3, u4, u5, rfl, x1, e1⟩ := pv
    rw [lx, List.take_length] at e1
    have z := szL_le (n := 100) (ws := ss.map Stp.row) fun w hm => by
      obtain ⟨s0, h0, e⟩ := List.mem_map.mp hm
      rw [← e]
      exact (Stp.sz (hok s0 h0)).2.1
    rw [List.length_map] at z
    exact ⟨⟨_, rfl⟩, _, rfl, ls_join rfl e1 (by omega) (k _ x1)⟩
end
end GX
set_option maxHeartbeats 2000000
namespace GX
open PySem PySem.Spec PyProof.Rows L2 LamX
section
variable {P : Program} {w : World} {K : PySem.W.Frag} {mg : Str → Option Value} {base : Heap} {T : List (Addr × Str)}
theorem sc_begun : FnScope ["_law_script", "_law_stirred", "_law_cell"] ["_law_script"] (defScope s_begun) := ⟨rfl, rfl, rfl, by decide +kernel, rfl, by decide +kernel, by decide +kernel⟩
theorem ok_begun {f : Addr} {fd : FuncData} (F : Fun K "_law_begun" "_law_begun" s_begun f fd) (B : Blt mg) : FnOk P w K mg base CX0 1 f fd ["_law_script"] (spBegun K T) := by
  refine F.ok sc_begun (fun vs H Q E h => by obtain ⟨a, ns, rfl, _⟩ := h; rfl) (fun cdv A outer s H vs Q E hr h => ?_)
  obtain ⟨a, ns, rfl, hS, hlen, k⟩ := h
  have nd := sc_begun.nd
  refine ⟨_, pss_cons (ps_set (i := 1) nd rfl (Or.inl rfl) pe_int)
    (pss_cons (ps_for PassesOwn.never rfl (pi_list (pv 0)) (pg_name (i := 2) nd rfl (Or.inl rfl))
      (pss_one (ps_set (i := 1) nd rfl (Or.inl rfl) (pe_op op_mod (pe_op op_add (pe_op op_add (pe_op op_mul (pv 1) pe_int) (pe_op op_mul (pv 2) pe_int)) pe_int) pe_int))))
    (pss_one (ps_ret (pe_lst (pa_cons (pe_callTy call_list_of (by rfl) B.list boot_list (pa_cons (pv 0) pa_nil))
      (pa_cons (pe_op op_mul (pv 1) (pe_callTy call_int1 (by rfl) B.int boot_int (pa_cons (pe_cmpR op_gt (pe_callB call_len_seq (by rfl) B.len PySem.boot_len (pa_cons (pv 0) pa_nil)) pe_int (nomark _)) pa_nil))) pa_nil)))))), ?_⟩
  refine ⟨_, rfl, a, rfl, ⟨_, hS⟩, for_list (K := K) (a := a) (xs := ns.map V.int) (fun i σ H' => H' = H ∧ ∃ (z : Int) (v : Option V), σ = [some (.ref a), some (.int z), v] ∧ 0 ≤ z ∧ z < 2147483647)
    ⟨rfl, 0, none, rfl, by decide, by decide⟩ (fun i σ H' _ q => by rw [q.1]; exact hS) ?_ ?_⟩
  · rintro i y σ H' hi ⟨rfl, z, v, rfl, h1, h2⟩
    obtain ⟨n, hn, rfl⟩ : ∃ n, ns[i]? = some n ∧ y = V.int n := by
      rw [List.getElem?_map] at hi
      cases e : ns[i]? with
      | none => rw [e] at hi; cases hi
      | some n => rw [e] at hi; exact ⟨n, rfl, (Option.some.inj hi).symm⟩
    refine ⟨_, rfl, _, _, rfl, rfl, .inr ⟨by decide, by decide⟩, _, rfl, _, _, rfl, rfl, .inr ⟨by decide, by decide⟩, _, _, rfl, rfl, _, _, rfl, rfl, _, _, rfl, rfl, (by show (0 : Int) < 2147483647; decide), ?_⟩
    exact ⟨rfl, _, _, rfl, Int.emod_nonneg _ (by decide), Int.emod_lt_of_pos _ (by decide)⟩
  · rintro σ H' ⟨rfl, z, v, rfl, h1, h2⟩
    refine ⟨_, rfl, a, _, rfl, .inl hS, fun l hl => ?_⟩
    have x1 : XX T H' (upd H' l (.lst (ns.map V.int))) := XX.new hl
    refine ⟨_, rfl, _, rfl, a, _, rfl, .inl (x1.sqL hS), _, _, rfl, rfl, .inr ⟨_, rfl, ?_⟩⟩
    refine ⟨_, _, rfl, rfl, .inr ?_, (by show 2 ≤ sizeLine; decide), fun b hb => ?_⟩
    · split <;> exact ⟨by decide, by decide⟩
    · have nbl : b ≠ l := fun e => by rw [e, upd_same] at hb; cases hb
      have hb0 : H' b = none := by rw [upd_ne nbl] at hb; exact hb
      refine k _ b l _ (x1.then_new hb) ⟨upd_same, ?_, nbl, ?_, ?_, hlen⟩ hb0 hl
      · rw [upd_ne (Ne.symm nbl), upd_same]
      · split <;> omega
      · split <;> omega
theorem sc_take : FnScope ["_law_box", "_law_many", "_law_number_here"] ["_law_box", "_law_many"] (defScope s_take) := ⟨rfl, rfl, rfl, by decide +kernel, rfl, by decide +kernel, by decide +kernel⟩
theorem ok_take {f : Addr} {fd : FuncData} (F : Fun K "_law_take" "_law_take" s_take f fd) : FnOk P w K mg base CX0 1 f fd ["_law_box", "_law_many"] (spTake T) := by
  refine F.ok sc_take (fun vs H Q E h => by obtain ⟨b, l, ns, z, m, rfl, _⟩ := h; rfl) (fun cdv A outer s H vs Q E hr h => ?_)
  obtain ⟨b, l, ns, z, m, rfl, bx, m0, m1, k⟩ := h
  have nd := sc_take.nd
  have hB : ∀ {H'}, H' b = some (.lst [.ref l, .int z]) → SqL K H' b [.ref l, .int z] := fun h => SqL.of h
  refine ⟨_, pss_cons (ps_if (pt_cmpR (op_eqD hr.units) (pe_ix ix_list (pv 0) pe_int (fun _ _ => rfl)) (pe_lst pa_nil) (nomark _))
      (pss_cons (ps_asg (pe_op op_mod (pe_op op_mul (pe_ix ix_list (pv 0) pe_int (fun _ _ => rfl)) pe_int) pe_int) (pg_sub (pv 0) pe_int set_list))
        (pss_one (ps_ret (pe_op op_mod (pe_op op_fdiv (pe_ix ix_list (pv 0) pe_int (fun _ _ => rfl)) pe_int) (pv 1))))) pss_nil)
    (pss_cons (ps_set (i := 2) nd rfl (Or.inl rfl) (pe_ix ix_list (pe_ix ix_list (pv 0) pe_int (fun _ _ => rfl)) pe_int (fun _ _ => rfl)))
    (pss_cons (ps_asg (pe_op op_fdivW (pv 2) (pv 1)) (pg_sub (pe_ix ix_list (pv 0) pe_int (fun _ _ => rfl)) pe_int set_list))
    (pss_cons (ps_if (PW.pt (pw_or (pt_cmpR op_eq (pe_ix ix_list (pe_ix ix_list (pv 0) pe_int (fun _ _ => rfl)) pe_int (fun _ _ => rfl)) pe_int (nomark _)) (pw_or1 (pt_cmpR op_eq (pe_ix ix_list (pe_ix ix_list (pv 0) pe_int (fun _ _ => rfl)) pe_int (fun _ _ => rfl)) (pe_un un_neg pe_int) (nomark _)))))
      (pss_one (ps_expr (pe_bm PySem.F.plainAttrs_list PySem.F.slot_list_pop PySem.F.type_list_pop mt_popAt (pe_ix ix_list (pv 0) pe_int (fun _ _ => rfl)) (pa_cons pe_int pa_nil)))) pss_nil)
    (pss_one (ps_ret (pe_op op_mod (pv 2) (pv 1))))))), ?_⟩
  refine ⟨_, rfl, b, _, 0, .ref l, rfl, rfl, hB bx.hb, rfl, Nat.zero_le _, fun q hq => ?_⟩
  have x1 : XX T H (upd H q (.lst [])) := XX.new hq
  have bx1 := bx.xx x1
  refine ⟨.list (ns.map .int), .list [], .lst (SqL.of bx1.hl) (dp_ints _ ns), .lst (SqL.of upd_same) .nil, shaped_ints ns, shaped_nil, _, rfl, ?_⟩
  rw [eqv_nil]
  cases ns with
  | nil =>
    refine iteT ⟨_, rfl, b, _, 1, .int z, rfl, rfl, hB bx1.hb, rfl, _, _, rfl, rfl, .inr ⟨by decide, by decide⟩, _, _, rfl, rfl, (by show (0 : Int) < 2147483647; decide), ?_⟩
    refine ⟨_, rfl, b, _, 1, 1, rfl, rfl, bx1.hb, rfl, ?_⟩
    have x2 : XM T (fun c => c = b ∨ c = l) H _ := x1.xm.then_upd (o' := .lst [.ref l, .int (z * 48271 % 2147483647)]) bx1.hb (.inl rfl) True.intro
    refine ⟨_, rfl, b, _, 1, .int (z * 48271 % 2147483647), rfl, rfl, SqL.of upd_same, rfl, _, _, rfl, rfl, ⟨by decide, by decide⟩, _, rfl, _, _, rfl, rfl, m0, ?_⟩
    refine k _ [] _ _ x2 ⟨upd_same, ?_, bx.ne, Int.emod_nonneg _ (by decide), Int.emod_lt_of_pos _ (by decide), Nat.zero_le _⟩ (Int.emod_nonneg _ (by omega)) (Int.emod_lt_of_pos _ m0)
    rw [upd_ne (Ne.symm bx.ne)]; exact bx1.hl
  | cons n r =>
    have len : r.length + 1 ≤ 63 := bx.len
    refine iteF ⟨_, rfl, b, _, 0, .ref l, rfl, rfl, hB bx1.hb, rfl, l, _, 0, .int n, rfl, rfl, SqL.of bx1.hl, atI0, ?_⟩
    refine ⟨_, rfl, _, rfl, _, _, rfl, rfl, box_div m0 m1, _, rfl, b, _, 0, .ref l, rfl, rfl, hB bx1.hb, rfl, l, _, 0, 0, rfl, rfl, bx1.hl, ?_, ?_⟩
    · unfold ixN
      simp
      try omega
    · have x2 : XM T (fun c => c = b ∨ c = l) H _ := x1.xm.then_upd (o' := .lst (V.int (n / m) :: r.map V.int)) bx1.hl (.inr rfl) True.intro
      have hb2 : upd (upd H q (.lst [])) l (.lst (V.int (n / m) :: r.map V.int)) b = some (.lst [.ref l, .int z]) := by rw [upd_ne bx.ne]; exact bx1.hb
      have bx2 : BoxAt (upd (upd H q (.lst [])) l (.lst (V.int (n / m) :: r.map V.int))) b l (n / m :: r) z := ⟨hb2, upd_same, bx.ne, bx.lo, bx.hi, bx.len⟩
      have retN : Q (.int (n % m)) (upd (upd H q (.lst [])) l (.lst (V.int (n / m) :: r.map V.int))) := k _ (n / m :: r) z _ x2 bx2 (Int.emod_nonneg _ (by omega)) (Int.emod_lt_of_pos _ m0)
      have x3 : XM T (fun c => c = b ∨ c = l) H _ := x2.then_upd (o' := .lst (r.map V.int)) upd_same (.inr rfl) True.intro
      have retP : Q (.int (n % m)) (upd (upd (upd H q (.lst [])) l (.lst (V.int (n / m) :: r.map V.int))) l (.lst (r.map V.int))) := by
        refine k _ r z _ x3 ⟨?_, upd_same, bx.ne, bx.lo, bx.hi, by omega⟩ (Int.emod_nonneg _ (by omega)) (Int.emod_lt_of_pos _ m0)
        rw [upd_ne bx.ne]; exact hb2
      have sq0 : seqIndex? 0 (V.int (n / m) :: r.map V.int).length = some 0 := by
        have e := (ixN_seq (n := (V.int (n / m) :: r.map V.int).length) (i := 0) (j := 0) (by unfold ixN; simp; try omega)).1
        exact e
      refine ⟨_, rfl, b, _, 0, .ref l, rfl, rfl, hB hb2, rfl, l, _, 0, .int (n / m), rfl, rfl, SqL.of upd_same, atI0, rfl, _, rfl, ?_⟩
      by_cases h0 : n / m = 0
      · rw [decide_eq_true (show V.int (n / m) = V.int 0 by rw [h0])]
        exact iteT (iteT ⟨_, rfl, b, _, 0, .ref l, rfl, rfl, hB hb2, rfl, .inl ⟨rfl, _, SqL.of upd_same⟩, l, _, 0, 0, _, rfl, rfl, upd_same, by decide, by decide, sq0, rfl, _, rfl, _, rfl, _, _, rfl, rfl, m0, retP⟩)
      · rw [decide_eq_false (fun e => h0 (V.int.inj e))]
        refine iteF ⟨_, rfl, b, _, 0, .ref l, rfl, rfl, hB hb2, rfl, l, _, 0, .int (n / m), rfl, rfl, SqL.of upd_same, atI0, 1, rfl, rfl, _, rfl, ?_⟩
        by_cases h1 : n / m = -1
        · rw [decide_eq_true (show V.int (n / m) = V.int (-1) by rw [h1])]
          exact iteT ⟨_, rfl, b, _, 0, .ref l, rfl, rfl, hB hb2, rfl, .inl ⟨rfl, _, SqL.of upd_same⟩, l, _, 0, 0, _, rfl, rfl, upd_same, by decide, by decide, sq0, rfl, _, rfl, _, rfl, _, _, rfl, rfl, m0, retP⟩
        · rw [decide_eq_false (fun e => h1 (V.int.inj e))]
          exact iteF ⟨_, rfl, _, rfl, _, _, rfl, rfl, m0, retN⟩
end
end GX
namespace GX
open PySem PySem.Spec PyProof.Rows L2 LamX
theorem okAll_mem : ∀ {ds : List PyData} {d : PyData}, okAll ds = true → d ∈ ds → okD d = true
  | e :: ds, d, h, hm => by
    have h' := Bool.and_eq_true_iff.mp h
    rcases List.mem_cons.mp hm with z | z
    · rw [z]; exact h'.1
    · exact okAll_mem h'.2 z
theorem dec_self {x : V} {H : Hp} {Q : VK} (k : Q (.bl true) H) : Q (.bl (decide (x = x))) H := by rw [decide_eq_true rfl]; exact k
theorem rix_of {K : PySem.W.Frag} {H : Hp} {p : Addr} {xs : List V} {i : Nat} {v : V} {Q : VK} (h : SqL K H p xs ∨ SqT K H p xs) (e : xs[i]? = some v) (q : Q v H) : L2.rIx K (.ref p) (.int (0 + (i : Int))) H Q := by
  have e0 : (0 : Int) + (i : Int) = (i : Int) := Int.zero_add _
  rw [e0]
  rcases h with h | h
  · exact .inl ⟨p, xs, _, v, rfl, rfl, h, atI_nat e, q⟩
  · exact .inr (.inl ⟨p, xs, _, v, rfl, rfl, h, atI_nat e, q⟩)
section
variable {P : Program} {w : World} {K : PySem.W.Frag} {mg : Str → Option Value} {base : Heap} {T : List (Addr × Str)}
theorem sc_alike : FnScope ["_law_found", "_law_due", "_law_k"] ["_law_found", "_law_due"] (defScope s_alike) := ⟨rfl, rfl, rfl, by decide +kernel, rfl, by decide +kernel, by decide +kernel⟩
theorem ok_alike1 {f : Addr} {fd : FuncData} {n : Nat} (F : Fun K "_law_alike" "_law_alike" s_alike f fd) (B : Blt mg) (bs : mg "str" = none) (c : Cal P w K mg base CX0 "_law_alike" ["_law_found", "_law_due"] n (spAl K n)) : FnOk P w K mg base CX0 (n + 1) f fd ["_law_found", "_law_due"] (spAl K (n + 1)) := by
  refine F.ok sc_alike (fun vs H Q E h => by obtain ⟨a, b, d, rfl, _⟩ := h; rfl) (fun cdv A outer s H vs Q E hr h => ?_)
  obtain ⟨a, b, d, rfl, ha, hb, hok, hdep, k⟩ := h
  have nd := sc_alike.nd
  refine ⟨_, pss_cons (ps_if (pt_cmpR op_isN (pv 1) pe_non (nomark _)) (pss_one (ps_ret (pe_cmpR op_isN (pv 0) pe_non (nomark _)))) pss_nil)
    (pss_cons (ps_if (pt_val (pe_callB call_isi (by rfl) B.isi k_isi (pa_cons (pv 1) (pa_cons (pe_bltn (v := .ty "bool") (by rfl) B.bool boot_bool rfl) pa_nil))))
      (pss_one (ps_ret (pe_and (pe_callB call_isi (by rfl) B.isi k_isi (pa_cons (pv 0) (pa_cons (pe_bltn (v := .ty "bool") (by rfl) B.bool boot_bool rfl) pa_nil))) (pe_one (pe_cmpR op_eq (pv 0) (pv 1) (nomark _)))))) pss_nil)
    (pss_cons (ps_if (pt_val (pe_callB call_isi (by rfl) B.isi k_isi (pa_cons (pv 1) (pa_cons (pe_bltn (v := .ty "int") (by rfl) B.int boot_int rfl) pa_nil))))
      (pss_one (ps_ret (pe_and (pe_callB call_isi (by rfl) B.isi k_isi (pa_cons (pv 0) (pa_cons (pe_bltn (v := .ty "int") (by rfl) B.int boot_int rfl) pa_nil)))
        (pe_and (pe_not (pe_callB call_isi (by rfl) B.isi k_isi (pa_cons (pv 0) (pa_cons (pe_bltn (v := .ty "bool") (by rfl) B.bool boot_bool rfl) pa_nil)))) (pe_one (pe_cmpR op_eq (pv 0) (pv 1) (nomark _))))))) pss_nil)
    (pss_cons (ps_if (pt_val (pe_callB call_isi (by rfl) B.isi k_isi (pa_cons (pv 1) (pa_cons (pe_bltn (v := .ty "str") (by rfl) bs boot_str rfl) pa_nil))))
      (pss_one (ps_ret (pe_and (pe_callB call_isi (by rfl) B.isi k_isi (pa_cons (pv 0) (pa_cons (pe_bltn (v := .ty "str") (by rfl) bs boot_str rfl) pa_nil))) (pe_one (pe_cmpR op_eq (pv 0) (pv 1) (nomark _)))))) pss_nil)
    (pss_cons (ps_if (PW.pt (pw_or (pt_cmpR op_ne (pe_callB call_isi (by rfl) B.isi k_isi (pa_cons (pv 1) (pa_cons (pe_bltn (v := .ty "tuple") (by rfl) B.tuple boot_tuple rfl) pa_nil))) (pe_callB call_isi (by rfl) B.isi k_isi (pa_cons (pv 0) (pa_cons (pe_bltn (v := .ty "tuple") (by rfl) B.tuple boot_tuple rfl) pa_nil))) (nomark _))
        (pw_or1 (pt_cmpR op_ne (pe_callB call_isi (by rfl) B.isi k_isi (pa_cons (pv 1) (pa_cons (pe_bltn (v := .ty "list") (by rfl) B.list boot_list rfl) pa_nil))) (pe_callB call_isi (by rfl) B.isi k_isi (pa_cons (pv 0) (pa_cons (pe_bltn (v := .ty "list") (by rfl) B.list boot_list rfl) pa_nil))) (nomark _)))))
      (pss_one (ps_ret pe_bl)) pss_nil)
    (pss_cons (ps_if (pt_cmpR op_ne (pe_callB call_len_seq (by rfl) B.len PySem.boot_len (pa_cons (pv 0) pa_nil)) (pe_callB call_len_seq (by rfl) B.len PySem.boot_len (pa_cons (pv 1) pa_nil)) (nomark _)) (pss_one (ps_ret pe_bl)) pss_nil)
    (pss_cons (ps_for PassesOwn.never rfl (pi_range1 (by rfl) B.range (pa_cons (pe_callB call_len_seq (by rfl) B.len PySem.boot_len (pa_cons (pv 1) pa_nil)) pa_nil)) (pg_name (i := 2) nd rfl (Or.inl rfl))
      (pss_one (ps_if (pt_not (pt_val (pe_cal c hr (pa_cons (pe_ix ix_seq (pv 0) (pv 2) (fun _ _ => rfl)) (pa_cons (pe_ix ix_seq (pv 1) (pv 2) (fun _ _ => rfl)) pa_nil))))) (pss_one (ps_ret pe_bl)) pss_nil)))
    (pss_one (ps_ret pe_bl)))))))), ?_⟩
  have loop : ∀ {a b : V} {pa pb : Addr} {va vb : List V} {ds : List PyData} {Q' : VK}, a = .ref pa → b = .ref pb → (SqL K H pa va ∨ SqT K H pa va) → (SqL K H pb vb ∨ SqT K H pb vb) → DpAll K H va ds → DpAll K H vb ds → ds.length ≤ 20000 → okAll ds = true → PyData.depthAll ds + 1 ≤ n → Q' (.bl true) H →
      tSeq (tFor (iRng1 (tCons (tCB (fun xs H Q => ∃ p ys, xs = [.ref p] ∧ (SqL K H p ys ∨ SqT K H p ys) ∧ Q (.int ys.length) H) (tCons (tVar 1) tNil)) tNil)) (gName 2) (tIfS (tNot (tB (tCall (spAl K n) [] E0 (tCons (tOp (L2.rIx K) (tVar 0) (tVar 2)) (tCons (tOp (L2.rIx K) (tVar 1) (tVar 2)) tNil))))) (tRet (tC (.bl false))) tNext)) (tRet (tC (.bl true)))
        { nx := fun _ H' => Q' .non H', rt := Q' } [some a, some b, none] H := by
    intro a b pa pb va vb ds Q' ea eb hsa hsb haa hbb hlen hok hdep k
    subst ea
    subst eb
    have hl := dpAll_len hbb
    refine ⟨_, rfl, pb, vb, rfl, hsb, (vb.length : Int), rfl, by omega, by rw [hl]; omega, for_range (lo := 0) (n := (vb.length : Int).toNat) (fun i σ H' => H' = H ∧ ∃ v, σ = [some (.ref pa), some (.ref pb), v]) ⟨rfl, none, rfl⟩ ?_ ?_⟩
    · rintro i σ H' hi ⟨rfl, v, rfl⟩
      have hi2 : i < ds.length := by omega
      obtain ⟨u1, e1, d1⟩ := dpAll_at haa (List.getElem?_eq_getElem hi2)
      obtain ⟨u2, e2, d2⟩ := dpAll_at hbb (List.getElem?_eq_getElem hi2)
      refine ⟨_, rfl, _, rfl, rix_of hsa e1 ⟨_, rfl, _, rfl, rix_of hsb e2 ?_⟩⟩
      have hdi := PyData.depth_le_depthAll ds ds[i] (List.getElem_mem hi2)
      cases n with
      | zero => omega
      | succ m => exact ⟨u1, u2, ds[i], rfl, d1, d2, okAll_mem hok (List.getElem_mem hi2), by omega, true, rfl, iteF ⟨rfl, _, rfl⟩⟩
    · rintro σ H' ⟨rfl, v, rfl⟩
      exact k
  cases ha with
  | non => cases hb; exact ⟨_, rfl, rfl, _, rfl, iteT ⟨_, rfl, rfl, k⟩⟩
  | bl b0 =>
    cases hb
    exact ⟨_, rfl, rfl, _, rfl, iteF (t_isi rfl (.bl b0) kit_bool ⟨_, rfl, iteT (t_isi rfl (.bl b0) kit_bool ⟨_, rfl, iteT ⟨_, rfl, _, rfl, rfl, dec_self (Q := Q) k⟩⟩)⟩)⟩
  | int i0 =>
    cases hb
    exact ⟨_, rfl, rfl, _, rfl, iteF (t_isi rfl (.int i0) kit_bool ⟨_, rfl, iteF (t_isi rfl (.int i0) kit_int ⟨_, rfl, iteT (t_isi rfl (.int i0) kit_int ⟨_, rfl, iteT (t_isi rfl (.int i0) kit_bool ⟨_, rfl, _, rfl, iteT ⟨_, rfl, _, rfl, rfl, dec_self (Q := Q) k⟩⟩)⟩)⟩)⟩)⟩
  | str x0 =>
    cases hb
    exact ⟨_, rfl, rfl, _, rfl, iteF (t_isi rfl (.str x0) kit_bool ⟨_, rfl, iteF (t_isi rfl (.str x0) kit_int ⟨_, rfl, iteF (t_isi rfl (.str x0) kit_str ⟨_, rfl, iteT (t_isi rfl (.str x0) kit_str ⟨_, rfl, iteT ⟨_, rfl, _, rfl, rfl, dec_self (Q := Q) k⟩⟩)⟩)⟩)⟩)⟩
  | @tup pa va ds hs haa =>
    obtain ⟨pb, vb, rfl, hs2, hbb⟩ := dp_tup hb
    have hb' : Dp K H (.ref pb) (.tuple ds) := hb
    have ha' : Dp K H (.ref pa) (.tuple ds) := .tup hs haa
    have h0 := Bool.and_eq_true_iff.mp hok
    have eL : (!decide (V.int (va.length : Int) = V.int (vb.length : Int))) = false := by simp [dpAll_len haa, dpAll_len hbb]
    refine ⟨_, rfl, rfl, _, rfl, iteF (t_isi rfl hb' kit_bool ⟨_, rfl, iteF (t_isi rfl hb' kit_int ⟨_, rfl, iteF (t_isi rfl hb' kit_str ⟨_, rfl, iteF ?_⟩)⟩)⟩)⟩
    refine t_isi rfl hb' kit_tuple (t_isi rfl ha' kit_tuple ⟨rfl, _, rfl, iteF (t_isi rfl hb' kit_list (t_isi rfl ha' kit_list ⟨rfl, _, rfl, iteF ?_⟩))⟩)
    refine ⟨_, rfl, pa, va, rfl, .inr hs, _, rfl, pb, vb, rfl, .inr hs2, rfl, _, rfl, ?_⟩
    rw [eL]
    exact iteF (loop rfl rfl (.inr hs) (.inr hs2) haa hbb (of_decide_eq_true h0.1) h0.2 hdep k)
  | @lst pa va ds hs haa =>
    obtain ⟨pb, vb, rfl, hs2, hbb⟩ := dp_lst hb
    have hb' : Dp K H (.ref pb) (.list ds) := hb
    have ha' : Dp K H (.ref pa) (.list ds) := .lst hs haa
    have h0 := Bool.and_eq_true_iff.mp hok
    have eL : (!decide (V.int (va.length : Int) = V.int (vb.length : Int))) = false := by simp [dpAll_len haa, dpAll_len hbb]
    refine ⟨_, rfl, rfl, _, rfl, iteF (t_isi rfl hb' kit_bool ⟨_, rfl, iteF (t_isi rfl hb' kit_int ⟨_, rfl, iteF (t_isi rfl hb' kit_str ⟨_, rfl, iteF ?_⟩)⟩)⟩)⟩
    refine t_isi rfl hb' kit_tuple (t_isi rfl ha' kit_tuple ⟨rfl, _, rfl, iteF (t_isi rfl hb' kit_list (t_isi rfl ha' kit_list ⟨rfl, _, rfl, iteF ?_⟩))⟩)
    refine ⟨_, rfl, pa, va, rfl, .inl hs, _, rfl, pb, vb, rfl, .inl hs2, rfl, _, rfl, ?_⟩
    rw [eL]
    exact iteF (loop rfl rfl (.inl hs) (.inl hs2) haa hbb (of_decide_eq_true h0.1) h0.2 hdep k)
/-- .. for every depth -/
theorem ok_alike {f : Addr} {fd : FuncData} (F : Fun K "_law_alike" "_law_alike" s_alike f fd) (B : Blt mg) (bs : mg "str" = none) (m : mg "_law_alike" = some (.ref f)) (hb : Binds K fd ["_law_found", "_law_due"] []) : ∀ n, FnOk P w K mg base CX0 n f fd ["_law_found", "_law_due"] (spAl K n)
  | 0 => ⟨fun _ _ _ _ h => h.elim, fun _ _ _ _ _ _ _ _ _ _ _ _ _ h => h.elim⟩
  | n + 1 => ok_alike1 F B bs ⟨f, fd, ok_alike F B bs m hb n, m, F.kp, hb⟩
end
end GX
namespace GX
open PySem PySem.Spec PyProof.Rows L2 LamX
abbrev kPg : Key := .inr "pages"
abbrev kLf : Key := .inr "left"
abbrev kSt : Key := .inr "stands"
abbrev kMn : Key := .inr "many"
abbrev ownK (lp : Addr) (left : Option Int) (stands : Bool) (many : Int) : List (Key × V) := [(kPg, .ref lp), (kLf, lv left), (kSt, .bl stands), (kMn, .int many)]
structure OwnAt (K : PySem.W.Frag) (H : Hp) (o lp : Addr) (pages : List PyData) (left : Option Int) (stands : Bool) (many : Int) : Prop where
  hd : H o = some (.dK (ownK lp left stands many))
  hl : ∃ xs, H lp = some (.lst xs) ∧ DpAll K H xs pages
  pg : ∀ d ∈ pages, isPage d = true
theorem own_pages (lp : Addr) (left : Option Int) (stands : Bool) (many : Int) : valV (ownK lp left stands many) kPg = some (.ref lp) := valV_pos rfl
section
variable (lp : Addr) (left left' : Option Int) (stands stands' : Bool) (many many' : Int)
theorem k_pl : ¬ kPg = kLf := by decide +kernel
theorem k_ps : ¬ kPg = kSt := by decide +kernel
theorem k_pm : ¬ kPg = kMn := by decide +kernel
theorem k_ls : ¬ kLf = kSt := by decide +kernel
theorem k_lm : ¬ kLf = kMn := by decide +kernel
theorem k_sm : ¬ kSt = kMn := by decide +kernel
theorem own_left : valV (ownK lp left stands many) kLf = some (lv left) := (valV_neg (p := (kPg, .ref lp)) k_pl).trans (valV_pos rfl)
theorem own_stands : valV (ownK lp left stands many) kSt = some (.bl stands) := (valV_neg (p := (kPg, .ref lp)) k_ps).trans ((valV_neg (p := (kLf, lv left)) k_ls).trans (valV_pos rfl))
theorem own_many : valV (ownK lp left stands many) kMn = some (.int many) :=
  (valV_neg (p := (kPg, .ref lp)) k_pm).trans ((valV_neg (p := (kLf, lv left)) k_lm).trans ((valV_neg (p := (kSt, .bl stands)) k_sm).trans (valV_pos rfl)))
theorem put_left : putK (ownK lp left stands many) kLf (lv left') = ownK lp left' stands many := by
  have e1 : ¬ Str.ofString "pages" = Str.ofString "left" := fun e => k_pl (congrArg Sum.inr e)
  have e2 : ¬ Str.ofString "stands" = Str.ofString "left" := fun e => k_ls (congrArg Sum.inr e.symm)
  have e3 : ¬ Str.ofString "many" = Str.ofString "left" := fun e => k_lm (congrArg Sum.inr e.symm)
  simp [putK, ownK, e1, e2, e3]
theorem put_stands : putK (ownK lp left stands many) kSt (.bl stands') = ownK lp left stands' many := by
  have e1 : ¬ Str.ofString "pages" = Str.ofString "stands" := fun e => k_ps (congrArg Sum.inr e)
  have e2 : ¬ Str.ofString "left" = Str.ofString "stands" := fun e => k_ls (congrArg Sum.inr e)
  have e3 : ¬ Str.ofString "many" = Str.ofString "stands" := fun e => k_sm (congrArg Sum.inr e.symm)
  simp [putK, ownK, e1, e2, e3]
theorem put_many : putK (ownK lp left stands many) kMn (.int many') = ownK lp left stands many' := by
  have e1 : ¬ Str.ofString "pages" = Str.ofString "many" := fun e => k_pm (congrArg Sum.inr e)
  have e2 : ¬ Str.ofString "left" = Str.ofString "many" := fun e => k_lm (congrArg Sum.inr e)
  have e3 : ¬ Str.ofString "stands" = Str.ofString "many" := fun e => k_sm (congrArg Sum.inr e)
  simp [putK, ownK, e1, e2, e3]
end
section
variable {K : PySem.W.Frag} {T : List (Addr × Str)} {H H' : Hp} {o lp : Addr} {pages : List PyData} {left : Option Int} {stands : Bool} {many : Int}
theorem OwnAt.xm {S : Addr → Prop} (d : OwnAt K H o lp pages left stands many) (a : XM T S H H') (h1 : ¬ S o) (h2 : ¬ S lp) : OwnAt K H' o lp pages left stands many := by
  obtain ⟨xs, h, hd⟩ := d.hl
  exact ⟨a.dk d.hd h1, ⟨xs, a.lst h h2, dpAll_xm a (fun e he => (nice_page (d.pg e he)).fl) hd⟩, d.pg⟩
theorem OwnAt.wk (d : OwnAt K H o lp pages left stands many) (a : WkE H H') : OwnAt K H' o lp pages left stands many := by
  obtain ⟨xs, h, hd⟩ := d.hl
  exact ⟨a _ _ d.hd (fun ob z => by cases z) (fun ps z => by cases z), ⟨xs, a _ _ h (fun ob z => by cases z) (fun ps z => by cases z), Dp.wkAll a _ _ hd⟩, d.pg⟩
theorem OwnAt.ne (d : OwnAt K H o lp pages left stands many) : o ≠ lp := by
  obtain ⟨xs, h, _⟩ := d.hl
  exact ne_of d.hd h fun z => by cases z
/-- stored in the dict -/
theorem OwnAt.put (d : OwnAt K H o lp pages left stands many) (left' : Option Int) (stands' : Bool) (many' : Int) : OwnAt K (upd H o (.dK (ownK lp left' stands' many'))) o lp pages left' stands' many' := by
  obtain ⟨xs, h, hd⟩ := d.hl
  exact ⟨upd_same, ⟨xs, by rw [upd_ne (Ne.symm d.ne)]; exact h, dpAll_xm (T := []) (XM.upd (S := fun b => b = o) d.hd rfl True.intro) (fun e he => (nice_page (d.pg e he)).fl) hd⟩, d.pg⟩
end
/-- the things of the law -/
structure KInv (K : PySem.W.Frag) (C : Addr) (H : Hp) (b l p dx sl o lp : Addr) (ns : List Int) (z : Int) (pages : List PyData) (left : Option Int) (stands : Bool) (many : Int) : Prop where
  bx : BoxAt H b l ns z
  dk : DiskAt K C H p dx sl pages many left stands
  ow : OwnAt K H o lp pages left stands many
  n1 : sl ≠ b
  n2 : sl ≠ l
  n3 : lp ≠ b
  n4 : lp ≠ l
  n5 : lp ≠ sl
  lo : 2 ≤ pages.length
  hi : pages.length ≤ 12
  lf : ∀ k, left = some k → 0 ≤ k ∧ k ≤ 30
def S7 (b l p sl o lp : Addr) : Addr → Prop := fun c => c = b ∨ c = l ∨ c = p ∨ c = sl ∨ c = o ∨ c = lp
def spTurn (K : PySem.W.Frag) (T : List (Addr × Str)) (C P1 P2 : Addr) : Sp := fun vs H Q _ => ∃ b l p dx sl o lp ns z pages left stands many, vs = [.ref b, .ref p, .ref o] ∧ KInv K C H b l p dx sl o lp ns z pages left stands many ∧ Tabs T H ∧ GxR.TabG H P1 ∧ GxR.TabG H P2 ∧
  ∀ H' ns' z' pages' left' stands' many', XM T (S7 b l p sl o lp) H H' → KInv K C H' b l p dx sl o lp ns' z' pages' left' stands' many' → pages'.length = pages.length → Q (.bl true) H'
section
variable {K : PySem.W.Frag} {T : List (Addr × Str)} {C : Addr} {H H' : Hp} {b l p dx sl o lp : Addr} {ns ns' : List Int} {z z' : Int} {pages : List PyData} {left : Option Int} {stands : Bool} {many : Int}
theorem OwnAt.gPages (d : OwnAt K H o lp pages left stands many) : DGet H o (.str "pages") (some (.ref lp)) := by
  have q := DGet.k (k := kPg) d.hd
  rw [own_pages] at q
  exact q
theorem OwnAt.gLeft (d : OwnAt K H o lp pages left stands many) : DGet H o (.str "left") (some (lv left)) := by
  have q := DGet.k (k := kLf) d.hd
  rw [own_left] at q
  exact q
theorem OwnAt.gStands (d : OwnAt K H o lp pages left stands many) : DGet H o (.str "stands") (some (.bl stands)) := by
  have q := DGet.k (k := kSt) d.hd
  rw [own_stands] at q
  exact q
theorem OwnAt.gMany (d : OwnAt K H o lp pages left stands many) : DGet H o (.str "many") (some (.int many)) := by
  have q := DGet.k (k := kMn) d.hd
  rw [own_many] at q
  exact q
theorem four_line : (4 : Nat) < sizeLine := by decide
theorem OwnAt.pLeft (d : OwnAt K H o lp pages left stands many) (left' : Option Int) : DPut H o (.str "left") (lv left') (upd H o (.dK (ownK lp left' stands many))) := by
  have q := DPut.k (k := kLf) (v := lv left') d.hd four_line
  rw [put_left] at q
  exact q
theorem OwnAt.pStands (d : OwnAt K H o lp pages left stands many) (stands' : Bool) : DPut H o (.str "stands") (.bl stands') (upd H o (.dK (ownK lp left stands' many))) := by
  have q := DPut.k (k := kSt) (v := .bl stands') d.hd four_line
  rw [put_stands] at q
  exact q
theorem OwnAt.pMany (d : OwnAt K H o lp pages left stands many) (many' : Int) : DPut H o (.str "many") (.int many') (upd H o (.dK (ownK lp left stands many'))) := by
  have q := DPut.k (k := kMn) (v := .int many') d.hd four_line
  rw [put_many] at q
  exact q
/-- where things of unlike kinds lie -/
structure Apart (b l p sl o lp : Addr) : Prop where
  pb : p ≠ b
  pl : p ≠ l
  ps : p ≠ sl
  po : p ≠ o
  pp : p ≠ lp
  ob : o ≠ b
  ol : o ≠ l
  os : o ≠ sl
  op : o ≠ lp
theorem KInv.apart (k : KInv K C H b l p dx sl o lp ns z pages left stands many) : Apart b l p sl o lp := by
  obtain ⟨xs, h1, _⟩ := k.dk.lst
  obtain ⟨ys, h2, _⟩ := k.ow.hl
  exact ⟨ne_of k.dk.ins k.bx.hb (fun z => by cases z), ne_of k.dk.ins k.bx.hl (fun z => by cases z), ne_of k.dk.ins h1 (fun z => by cases z), ne_of k.dk.ins k.ow.hd (fun z => by cases z), ne_of k.dk.ins h2 (fun z => by cases z),
    ne_of k.ow.hd k.bx.hb (fun z => by cases z), ne_of k.ow.hd k.bx.hl (fun z => by cases z), ne_of k.ow.hd h1 (fun z => by cases z), ne_of k.ow.hd h2 fun z => by cases z⟩
theorem KInv.take (k : KInv K C H b l p dx sl o lp ns z pages left stands many) (a : XM T (fun c => c = b ∨ c = l) H H') (bx : BoxAt H' b l ns' z') : KInv K C H' b l p dx sl o lp ns' z' pages left stands many := by
  have A := k.apart
  exact ⟨bx, k.dk.xm a (fun e => e.elim A.pb A.pl) (fun e => e.elim k.n1 k.n2), k.ow.xm a (fun e => e.elim A.ob A.ol) (fun e => e.elim k.n3 k.n4), k.n1, k.n2, k.n3, k.n4, k.n5, k.lo, k.hi, k.lf⟩
theorem KInv.xx (k : KInv K C H b l p dx sl o lp ns z pages left stands many) (a : XX T H H') : KInv K C H' b l p dx sl o lp ns z pages left stands many :=
  k.take (T := T) (a.xm.mono (S := fun _ => False) fun b h => h.elim) (k.bx.xx a)
theorem s7_take : ∀ c, (c = b ∨ c = l) → S7 b l p sl o lp c := fun c h => h.elim .inl fun h => .inr (.inl h)
end
section
variable {K : PySem.W.Frag} {T : List (Addr × Str)} {C : Addr} {H H' : Hp} {b l p dx sl o lp : Addr} {ns ns' : List Int} {z z' : Int} {pages pages' : List PyData} {left left' : Option Int} {stands stands' : Bool} {many many' : Int}
theorem KInv.next (k : KInv K C H b l p dx sl o lp ns z pages left stands many) (bx : BoxAt H' b l ns' z') (dk : DiskAt K C H' p dx sl pages' many' left' stands') (ow : OwnAt K H' o lp pages' left' stands' many') (e : pages'.length = pages.length) (lf : ∀ k, left' = some k → 0 ≤ k ∧ k ≤ 30) :
    KInv K C H' b l p dx sl o lp ns' z' pages' left' stands' many' := ⟨bx, dk, ow, k.n1, k.n2, k.n3, k.n4, k.n5, by rw [e]; exact k.lo, by rw [e]; exact k.hi, lf⟩
theorem s7_p : ∀ c, c = p → S7 b l p sl o lp c := fun c h => .inr (.inr (.inl h))
theorem s7_o : ∀ c, c = o → S7 b l p sl o lp c := fun c h => .inr (.inr (.inr (.inr (.inl h))))
theorem s7_ps : ∀ c, (c = p ∨ c = sl) → S7 b l p sl o lp c := fun c h => h.elim (fun h => .inr (.inr (.inl h))) fun h => .inr (.inr (.inr (.inl h)))
theorem s7_lp : ∀ c, c = lp → S7 b l p sl o lp c := fun c h => .inr (.inr (.inr (.inr (.inr h))))
end
theorem if_key {c : Bool} {ta tb : TE} {σ : L2.St} {H : Hp} {Q : VK} (R : V → Hp → Prop) (key : ∀ v H', R v H' → Q v H') (h1 : c = true → ∀ Q' : VK, (∀ v H', R v H' → Q' v H') → ta σ H Q') (h2 : c = false → ∀ Q' : VK, (∀ v H', R v H' → Q' v H') → tb σ H Q') :
    if c = true then ta σ H Q else tb σ H Q := by
  cases c with
  | true => rw [if_pos rfl]; exact h1 rfl Q key
  | false => rw [if_neg (by decide)]; exact h2 rfl Q key
theorem ifs_key {c : Bool} {sA sB : TS} {D : Ends} {σ : L2.St} {H : Hp} (R : L2.St → Hp → Prop) (key : ∀ σ' H', R σ' H' → D.nx σ' H') (h1 : c = true → ∀ D' : Ends, (∀ σ' H', R σ' H' → D'.nx σ' H') → sA D' σ H) (h2 : c = false → ∀ D' : Ends, (∀ σ' H', R σ' H' → D'.nx σ' H') → sB D' σ H) :
    if c = true then sA D σ H else sB D σ H := by
  cases c with
  | true => rw [if_pos rfl]; exact h1 rfl D key
  | false => rw [if_neg (by decide)]; exact h2 rfl D key
theorem tOr_of {t1 t2 : TT} {σ : L2.St} {H : Hp} {Kt : Bool → Hp → Prop} (c1 c2 : Bool) (h1 : ∀ K' : Bool → Hp → Prop, K' c1 H → t1 σ H K') (h2 : c1 = false → ∀ K' : Bool → Hp → Prop, K' c2 H → t2 σ H K') (k : Kt (c1 || c2) H) : tOr t1 t2 σ H Kt := by
  refine h1 _ ?_
  cases c1 with
  | true => exact k
  | false => exact h2 rfl _ k
theorem lv_zero (left : Option Int) : decide (lv left = .int 0) = decide (left = some 0) := by
  cases left with
  | none => rfl
  | some k =>
    rw [Bool.eq_iff_iff, decide_eq_true_iff, decide_eq_true_iff]
    exact ⟨fun e => by cases e; rfl, fun e => by cases e; rfl⟩
section
variable {K : PySem.W.Frag} {H : Hp} {o lp : Addr} {pages : List PyData} {left : Option Int} {stands : Bool} {many : Int}
theorem OwnAt.setPage (w : OwnAt K H o lp pages left stands many) {xs : List V} {j : Nat} {v : V} {d : PyData} (h : H lp = some (.lst xs)) (hd : Dp K H v d) (pg : isPage d = true) : OwnAt K (upd H lp (.lst (xs.set j v))) o lp (pages.set j d) left stands many := by
  obtain ⟨ys, h2, hds⟩ := w.hl
  rw [h] at h2
  cases h2
  have x : XM [] (fun c => c = lp) H (upd H lp (.lst (xs.set j v))) := XM.upd h rfl True.intro
  have pgs : ∀ e ∈ pages.set j d, isPage e = true := fun e he => by
    rcases mem_set he with z | z
    · rw [z]; exact pg
    · exact w.pg e z
  exact ⟨by rw [upd_ne w.ne]; exact w.hd, ⟨_, upd_same, dpAll_xm x (fun e he => (nice_page (pgs e he)).fl) (dpAll_set hd j hds)⟩, pgs⟩
theorem ixN_nat {n j : Nat} (h : j < n) : ixN n (j : Int) = some j := by
  unfold ixN
  have q1 : (0 : Int) ≤ (j : Int) := by omega
  have q2 : (j : Int) < (n : Int) := by omega
  simp [q1, q2]
  try omega
end
end GX
set_option maxHeartbeats 8000000
/-! law_k19: what the law expects -/
namespace GX
open PySem PySem.Spec PyProof.Rows L2 LamX
def stepR (r : Str) : PyData := stepW (Txt.split r " ")
theorem rd_spec : ∀ (rs : List Str) (i : Nat) (acc : List PyData), (∃ j z, (rs.map stepR)[j]? = some z ∧ isN z = true ∧ (∀ m z', m < j → (rs.map stepR)[m]? = some z' → isN z' = false) ∧ rdSteps rs i acc = .error (i + j)) ∨ ((∀ z ∈ rs.map stepR, isN z = false) ∧ rdSteps rs i acc = .ok (acc ++ rs.map stepR))
  | [], i, acc => .inr ⟨fun z hz => absurd hz (by simp), by rw [List.map_nil, List.append_nil]; rfl⟩
  | r :: rs, i, acc => by
    unfold rdSteps
    by_cases h : isN (stepW (Txt.split r " ")) = true
    · rw [if_pos h]
      exact .inl ⟨0, stepR r, rfl, h, fun m z' hm => absurd hm (Nat.not_lt_zero _), rfl⟩
    · rw [if_neg h]
      have hf : isN (stepR r) = false := by
        show isN (stepW (Txt.split r " ")) = false
        simpa using h
      rcases rd_spec rs (i + 1) (acc ++ [stepW (Txt.split r " ")]) with ⟨j, z, hz, hn, hb, e⟩ | ⟨ha, e⟩
      · refine .inl ⟨j + 1, z, by rw [List.map_cons, List.getElem?_cons_succ]; exact hz, hn, fun m z' hm hz' => ?_, by rw [e, Nat.add_assoc, Nat.add_comm 1 j]⟩
        cases m with
        | zero =>
          rw [List.map_cons, List.getElem?_cons_zero] at hz'
          cases hz'
          exact hf
        | succ m =>
          rw [List.map_cons, List.getElem?_cons_succ] at hz'
          exact hb m z' (by omega) hz'
      · refine .inr ⟨fun z hz => ?_, by rw [e, List.append_assoc] <;> rfl⟩
        rcases List.mem_cons.mp hz with q | hz
        · rw [q]; exact hf
        · exact ha z hz
theorem eqv_none (d : PyData) : PyData.eqv d .none = isN d := by cases d <;> rfl
/-- what the law expects of a text -/
def dueD (t : Str) : PyData := match readS t with
  | .ok ds => .list ds
  | .error n => toldB n
def lawRows (t : Str) : List PyData := (rowsW t).map stepR
theorem due_spec (t : Str) : (∃ (j : Nat) (z : PyData), (lawRows t)[j]? = some z ∧ isN z = true ∧ (∀ m z', m < j → (lawRows t)[m]? = some z' → isN z' = false) ∧ dueD t = toldB (j : Int)) ∨ ((∀ z ∈ lawRows t, isN z = false) ∧ dueD t = .list (lawRows t)) := by
  unfold dueD readS lawRows
  rcases rd_spec (rowsW t) 0 [] with ⟨j, z, hz, hn, hb, e⟩ | ⟨ha, e⟩
  · refine .inl ⟨j, z, hz, hn, hb, ?_⟩
    rw [e, Nat.zero_add]
  · refine .inr ⟨ha, ?_⟩
    rw [e, List.nil_append]
theorem rows_nice {t : Str} (ht : t.length ≤ 15000) (ha : Asc t) : (lawRows t).length ≤ 15001 ∧ ∀ d ∈ lawRows t, Nice d 2 := by
  refine ⟨by unfold lawRows; rw [List.length_map]; exact rows_len ht, fun d hd => ?_⟩
  obtain ⟨r, hr, e⟩ := List.mem_map.mp hd
  rw [← e]
  exact nice_step (blank_asc (rows_each ht ha r hr).2)
theorem rows_sh {t : Str} (ht : t.length ≤ 15000) (ha : Asc t) : SeqAt.shaped (.list (lawRows t)) = true := by
  obtain ⟨_, h⟩ := rows_nice ht ha
  have h1 : PyData.canLay0 (.list (lawRows t)) = true := canLayAll_of fun d hd => (h d hd).cl
  have h2 : PyData.depthAll (lawRows t) ≤ 2 := depthAll_of fun d hd => (h d hd).dp
  have h3 : PyData.depth (.list (lawRows t)) ≤ 64 := by show PyData.depthAll (lawRows t) + 1 ≤ 64; omega
  unfold SeqAt.shaped
  rw [h1, decide_eq_true h3] <;> rfl
theorem due_ok {t : Str} (ht : t.length ≤ 15000) (ha : Asc t) : okD (dueD t) = true ∧ PyData.depth (dueD t) ≤ 5 := by
  obtain ⟨hl, h⟩ := rows_nice ht ha
  rcases due_spec t with ⟨j, z, _, _, _, e⟩ | ⟨_, e⟩
  · rw [e]; exact ⟨rfl, by show 0 + 1 ≤ 5; decide⟩
  · rw [e]
    refine ⟨?_, ?_⟩
    · show (decide ((lawRows t).length ≤ 20000) && okAll (lawRows t)) = true
      rw [decide_eq_true (by omega), okAll_of fun d hd => (h d hd).ok] <;> rfl
    · show PyData.depthAll (lawRows t) + 1 ≤ 5
      have := depthAll_of fun d hd => (h d hd).dp
      omega
/-- the lambda that reads steps -/
theorem read_bodyS {X : Cx} {T : List (Addr × Str)} {cE D Pc : Addr} {cs : Fin 9 → Addr} {Hx : Hp} {Q : VK} {t : Str} (ht : t.length ≤ 15000) (ha : Asc t) (hG : GxR.TabG Hx Pc) (hE : EBt X.K cE cs D)
    (k : ∀ v HT, XM T (fun _ => False) Hx (unf (CellOf X) HT) → Dp X.K (unf (CellOf X) HT) v (dueD t) → Q v HT) : LamBodyB X T cE cs (fun E => tCall (spReadS X.K T Pc D) [] E (tCons (tVar 0) tNil)) [some (.str t)] Hx Q := fun Hl xl E Q2 hok herr =>
  ⟨_, rfl, t, rfl, ht, ha, xl.tabG _ hG, fun ds e H' v x' d' => hok (fun _ => False) v H' x'.xm fun HT aF wF => k v HT aF (by
      unfold dueD
      rw [e]
      exact Dp.wk wF _ _ d'),
    fun n e H' d x' hd => herr (fun _ => False) D n d H' hE hd x'.xm fun HT v aF wF dv => k v HT aF (by
      unfold dueD
      rw [e]
      exact dv)⟩
def chB : Nat → Nat
  | 0 => 1000
  | 1 => 2010
  | 2 => 4030
  | _ => 8070
theorem chB_le : ∀ i, chB i ≤ 8070
  | 0 => by decide
  | 1 => by decide
  | 2 => by decide
  | _ + 3 => by show 8070 ≤ 8070; decide
theorem chB_step : ∀ i, i < 3 → chB i ≤ 7000 ∧ 2 * chB i + 10 ≤ chB (i + 1)
  | 0, _ => by decide
  | 1, _ => by decide
  | 2, _ => by decide
/-- how long rows may be behind i changes -/
def rwB : Nat → Nat
  | 0 => 56
  | 1 => 120
  | 2 => 248
  | _ => 504
theorem rwB_le : ∀ i, rwB i ≤ 504
  | 0 => by decide
  | 1 => by decide
  | 2 => by decide
  | _ + 3 => by show 504 ≤ 504; decide
theorem rwB_step : ∀ i, i < 3 → 2 * rwB i + 8 ≤ rwB (i + 1)
  | 0, _ => by decide
  | 1, _ => by decide
  | 2, _ => by decide
def oddT : List Str := ["", " ", "\n", "put", "put ", "put -", "tidy ", "again\n", "drop 07", "change 1", "arm -", "get 1 2"]
def oddTB : Bool := oddT.all fun w => decide (w.length ≤ 20) && ascB w
theorem oddT_txo {w : Str} (h : w ∈ oddT) : Txo 20 w := txo_by (List.all_eq_true.mp (show oddTB = true by decide +kernel) w h)
/-- what is due, and stays so -/
def DueP (K : PySem.W.Frag) (H : Hp) (b l : Addr) (v : V) (t : Str) : Prop :=
  (∃ fa acc, v = .ref fa ∧ H fa = some (.lst acc) ∧ ¬ SB2 b l fa ∧ DpAll K H acc (lawRows t) ∧ dueD t = .list (lawRows t)) ∨ (∃ n : Int, dueD t = toldB n ∧ Dp K H v (toldB n))
theorem DueP.dp {K : PySem.W.Frag} {H : Hp} {b l : Addr} {v : V} {t : Str} (h : DueP K H b l v t) : Dp K H v (dueD t) := by
  rcases h with ⟨fa, acc, rfl, e, _, d, ed⟩ | ⟨n, ed, d⟩
  · rw [ed]; exact .lst (SqL.of e) d
  · rw [ed]; exact d
theorem DueP.xm {T : List (Addr × Str)} {K : PySem.W.Frag} {H H' : Hp} {b l : Addr} {v : V} {t : Str} (ht : t.length ≤ 15000) (ha : Asc t) (a : XM T (SB2 b l) H H') (h : DueP K H b l v t) : DueP K H' b l v t := by
  rcases h with ⟨fa, acc, rfl, e, n, d, ed⟩ | ⟨n, ed, d⟩
  · exact .inl ⟨fa, acc, rfl, a.lst e n, n, dpAll_xm a (fun d hd => ((rows_nice ht ha).2 d hd).fl) d, ed⟩
  · exact .inr ⟨n, ed, Dp.xm a _ _ rfl d⟩
end GX
/-! law_k19: law -/
namespace GX
open PySem PySem.Spec PyProof.Rows L2 LamX
def spLaw (K : PySem.W.Frag) (T : List (Addr × Str)) (Pc : Addr) : Sp := fun vs H Q _ => ∃ (a : Addr) (ns : List Int), vs = [.ref a] ∧ SqL K H a (ns.map V.int) ∧ ns.length ≤ 63 ∧ Tabs T H ∧ GxR.TabG H Pc ∧ ∀ H', Q (.bl true) H'
theorem nice_stp {s : Stp} (h : s.good) : Nice s.d 2 := by
  rw [← step_back h]
  refine nice_step fun w hw => ?_
  rcases List.mem_cons.mp (show w ∈ s.w :: s.as.map Arg.w from hw) with e | hw
  · rw [e]; exact (word_txo h.sh).2
  · obtain ⟨a, ha, e⟩ := List.mem_map.mp hw
    rw [← e]; exact (Arg.txo (h.ar a ha)).2
theorem nice_list {ds : List PyData} (hl : ds.length ≤ 20000) (h : ∀ d ∈ ds, Nice d 2) : okD (.list ds) = true ∧ PyData.depth (.list ds) ≤ 5 ∧ SeqAt.shaped (.list ds) = true ∧ PyData.eqv (.list ds) (.list ds) = true := by
  have h1 : PyData.canLay0 (.list ds) = true := canLayAll_of fun d hd => (h d hd).cl
  have h2 : PyData.depthAll ds ≤ 2 := depthAll_of fun d hd => (h d hd).dp
  refine ⟨?_, by show PyData.depthAll ds + 1 ≤ 5; omega, ?_, SeqAt.eqv_refl _ h1⟩
  · show (decide (ds.length ≤ 20000) && okAll ds) = true
    rw [decide_eq_true hl, okAll_of fun d hd => (h d hd).ok] <;> rfl
  · have h3 : PyData.depth (.list ds) ≤ 64 := by show PyData.depthAll ds + 1 ≤ 64; omega
    unfold SeqAt.shaped
    rw [h1, decide_eq_true h3] <;> rfl
section
variable {P : Program} {w : World} {K : PySem.W.Frag} {mg : Str → Option Value} {base : Heap} {T : List (Addr × Str)} {D cE Pc : Addr} {cs : Fin 9 → Addr}
abbrev laN : List Str := ["_law_script", "_law_box", "_law_odd", "_law_turn", "_law_steps", "_law_text_here", "_law_handed", "_law_change", "_law_found", "_law_due", "_law_again", "_law_k", "_law_row_here"]
abbrev laQ : Str := ("law" : Str) ++ (".<locals>." : Str) ++ ("<lambda>" : Str)
theorem sc_law : FnScope laN ["_law_script"] (defScope s_law) := ⟨rfl, rfl, rfl, by decide +kernel, rfl, by decide +kernel, by decide +kernel⟩
theorem ok_law {f c Pt : Addr} {fd : FuncData} (F : FunC K "law" "law" s_law f fd c) (TB : LamX.TabB base mg c Pt) (hm : (Pt, laQ) ∈ T) (hu0 : ∀ p ∈ T, p.1 = Pt → p.2 = laQ) (B : Blt mg) (eB : EBt K cE cs D)
    (cB : Cal P w K mg base CX0 "_law_begun" ["_law_script"] 1 (spBegun K T)) (cT : Cal P w K mg base CX0 "_law_take" ["_law_box", "_law_many"] 1 (spTake T)) (cSt : Cal P w K mg base CX0 "_law_step" ["_law_box"] 2 (spStep K T)) (cTx : Cal P w K mg base CX0 "_law_text" ["_law_steps"] 1 (spLText K T))
    (cWr : Cal P w K mg base CX0 "written_steps" ["steps"] 3 (spWritten K T)) (cSp : Cal P w K mg base CX0 "_law_spoilt" ["_law_box", "_law_text_here"] 2 (spSpoilt T))
    (cRow : Cal P w K mg base CX0 "_law_row" ["_law_row_here"] 2 (spLRow K T)) (cAl : Cal P w K mg base CX0 "_law_alike" ["_law_found", "_law_due"] 6 (spAl K 6)) (cTo : Cal P w K mg base CX0 "_law_told" ["_law_work"] 8 (spToldB P w K mg base T cE cs 7)) (cRd : Cal P w K mg base (L2.CX P w) "read_steps" ["text"] 6 (spReadS K T Pc D)) :
    FnOk P w K mg base CX0 9 f fd ["_law_script"] (spLaw K T Pc) := by
  refine F.ok sc_law (fun vs H Q E h => by obtain ⟨a, ns, rfl, _⟩ := h; rfl) (fun A outer s H vs Q E hr h => ?_)
  obtain ⟨a, ns, rfl, hS, hlen, hT, g1, k⟩ := h
  have nd := sc_law.nd
  refine ⟨_, (pss_cons (ps_set (i := 1) nd rfl (.inr rfl) (pe_cal cB (hr.mono (by decide)) (pa_cons (pv 0) pa_nil)))
    (pss_cons (ps_set (i := 2) nd rfl (.inl rfl) (pe_lst (pa_cons pe_str (pa_cons pe_str (pa_cons pe_str (pa_cons pe_str (pa_cons pe_str (pa_cons pe_str (pa_cons pe_str (pa_cons pe_str (pa_cons pe_str (pa_cons pe_str (pa_cons pe_str (pa_cons pe_str pa_nil))))))))))))))
    (pss_cons (ps_for PassesOwn.never rfl (pi_range1 (by rfl) B.range (pa_cons pe_int pa_nil)) (pg_name (i := 3) nd rfl (.inl rfl))
      (pss_cons (ps_setLc (i := 4) (own := [("_law_k", 11)]) (g := gName 11) (tt := tYes) (te := tCall (spStep K T) [] E0 (tCons (tVar 1) tNil)) (by rfl) nd rfl rfl (sw_true rfl rfl rfl (by decide +kernel)) (pi_range1 (by rfl) B.range (pa_cons (pe_cal cT (hr.mono (by decide)) (pa_cons (pv 1) (pa_cons pe_int pa_nil))) pa_nil)) (blkOk_by (own := [("_law_k", 11)]) (N := laN) (sc := defScope s_law) (by decide +kernel))
        (fun _ _ _ _ _ => pg_name (i := 11) nd rfl (Or.inl rfl)) (fun _ _ _ _ _ => pts_nil) (fun _ _ _ _ _ => pe_cal cSt (hr.mono (by decide)) (pa_cons (pv 1) pa_nil)))
      (pss_cons (ps_set (i := 5) nd rfl (.inr rfl) (pe_cal cTx (hr.mono (by decide)) (pa_cons (pv 4) pa_nil)))
      (pss_cons (ps_set (i := 6) nd rfl (.inl rfl) (pe_callTy call_list_of (by rfl) B.list boot_list (pa_cons (pv 4) pa_nil)))
      (pss_cons (ps_if (PW.pt (pw_or (pt_not (pt_val (pe_cal cAl (hr.mono (by decide)) (pa_cons (pe_cal cWr (hr.mono (by decide)) (pa_cons (pv 6) pa_nil)) (pa_cons (pv 5) pa_nil))))) (pw_or (pt_not (pt_val (pe_cal cAl (hr.mono (by decide)) (pa_cons (pe_calX cRd (hr.mono (by decide)) L2.passL (pa_cons (pv 5) pa_nil)) (pa_cons (pv 4) pa_nil))))) (pw_or1 (pt_cmpR (op_neD (u64 hr)) (pv 6) (pv 4) (by rfl)))))) (pss_one (ps_ret pe_bl)) pss_nil)
      (pss_cons (ps_if (pt_cmpR op_eq (pe_cal cT (hr.mono (by decide)) (pa_cons (pv 1) (pa_cons pe_int pa_nil))) pe_int (nomark _)) (pss_one (ps_set (i := 5) nd rfl (.inr rfl) (pe_ix ix_list (pv 2) (pe_cal cT (hr.mono (by decide)) (pa_cons (pv 1) (pa_cons pe_int pa_nil))) (fun _ _ => rfl)))) pss_nil)
      (pss_cons (ps_for PassesOwn.never rfl (pi_range1 (by rfl) B.range (pa_cons (pe_cal cT (hr.mono (by decide)) (pa_cons (pv 1) (pa_cons pe_int pa_nil))) pa_nil)) (pg_name (i := 7) nd rfl (.inl rfl))
        (pss_one (ps_set (i := 5) nd rfl (.inr rfl) (pe_cal cSp (hr.mono (by decide)) (pa_cons (pv 1) (pa_cons (pv 5) pa_nil))))))
      (pss_cons (ps_set (i := 8) nd rfl (.inl rfl) (pe_ifExp (pt_cmpR op_ne (pv 5) pe_str (nomark _)) (pe_lc (own := [("_law_row_here", 12)]) (g := gName 12) (tt := tYes) (te := tCall (spLRow K T) [] E0 (tCons (tVar 12) tNil)) (by rfl) nd (pi_list (pe_split (pv 5) pe_str)) (blkOk_by (own := [("_law_row_here", 12)]) (N := laN) (sc := defScope s_law) (by decide +kernel))
        (fun _ _ _ _ _ => pg_name (i := 12) nd rfl (Or.inl rfl)) (fun _ _ _ _ _ => pts_nil) (fun _ _ _ _ _ => pe_cal cRow (hr.mono (by decide)) (pa_cons (pv 12) pa_nil))) (pe_lst pa_nil)))
      (pss_cons (ps_set (i := 9) nd rfl (.inl rfl) (pe_ifExp (pt_cmpR (op_inD (u65 hr)) pe_non (pv 8) (by rfl)) (pe_tup (pa_cons pe_str (pa_cons (pe_bm PySem.F.plainAttrs_list PySem.F.slot_list_index PySem.F.type_list_index (mt_indexD (u65 hr)) (pv 8) (pa_cons pe_non pa_nil)) pa_nil))) (pv 8)))
      (pss_one (ps_for PassesOwn.never rfl (pi_range1 (by rfl) B.range (pa_cons pe_int pa_nil)) (pg_name (i := 10) nd rfl (.inl rfl))
        (pss_one (ps_if (pt_not (pt_val (pe_cal cAl (hr.mono (by decide)) (pa_cons (pe_calF cTo (hr.mono (by decide)) (fun _ => rfl) (pa_cons (pe_lam0 (T := T) TB (by rfl) hm hu0 (lamS_by (sc := defScope s_law) (by decide +kernel))) pa_nil)) (pa_cons (pv 9) pa_nil))))) (pss_one (ps_ret pe_bl)) pss_nil)))))))))))))
    (pss_one (ps_ret pe_bl))))), ?_⟩
  refine ⟨_, rfl, a, ns, rfl, hS, hlen, fun H1 b l z x1 bx hb hl => ⟨(by show 12 ≤ sizeLine; decide), fun od hod => ?_⟩⟩
  dsimp only [gName]
  have nbo := box_ne bx hod
  have xo := XX.new (T := T) (o := .lst (oddT.map V.str)) hod
  refine ⟨6, rfl, by decide, by decide, ?_⟩
  refine for_it (walk_range (lo := 0)) (fun i σ' H' => ∃ u3 u4 u5 u6 u7 u8 u9 u10 u11 u12 ns' z', σ' = [some (.ref a), some (.ref b), some (.ref od), u3, u4, u5, u6, u7, u8, u9, u10, u11, u12] ∧ XM T (SB2 b l) H1 H' ∧ BoxAt H' b l ns' z' ∧ H' od = some (.lst (oddT.map V.str)))
    ⟨_, _, _, _, _, _, _, _, _, _, ns, z, rfl, xo.xm, bx.xx xo, upd_same⟩ (fun i σ' H' _ _ => True.intro) (fun i v σ' H' H'' hi pv yy => ?_) (fun σ' H' pv => ?_)
  · obtain ⟨u3, u4, u5, u6, u7, u8, u9, u10, u11, u12, ns0, z0, rfl, a0, bx0, eo⟩ := pv
    obtain ⟨rfl, rfl⟩ := yy
    dsimp only [gName]
    -- the steps
    refine ⟨_, rfl, b, l, ns0, z0, 9, rfl, bx0, by decide, by decide, fun H2 ns2 z2 m2 a2 bx2 m20 m21 => ?_⟩
    obtain ⟨m, rfl⟩ := Int.eq_ofNat_of_zero_le m20
    refine ⟨m, rfl, by omega, by omega, fun D1 hD1 => ?_⟩
    have nbD := box_ne bx2 hD1
    refine lc_range (lo := 0) (fun j H' => ∃ ns' z' ss, XM T (SB2 b l) H2 H' ∧ BoxAt H' b l ns' z' ∧ (∃ xs, H' D1 = some (.lst xs) ∧ DpAll K H' xs (ss.map Stp.d)) ∧ ss.length = j ∧ ∀ s ∈ ss, s.good)
      ⟨ns2, z2, [], (XX.new hD1).xm, bx2.xx (XX.new (T := T) hD1), ⟨[], upd_same, .nil⟩, rfl, fun w hw => absurd hw (by simp)⟩ (fun j H' hj pv => ⟨rfl, ?_⟩) (fun H' pv => ?_)
    · obtain ⟨ns3, z3, ss, a3, bx3, ⟨xs, e3, d3⟩, l3, hg⟩ := pv
      refine ⟨_, rfl, b, l, ns3, z3, rfl, bx3, fun H4 ns4 z4 v4 s4 a4 bx4 d4 g4 => ?_⟩
      have e4 := a4.lst e3 nbD
      have lx : xs.length = j := by rw [dpAll_len d3, List.length_map, l3]
      have x5 : XM T (fun c => c = D1) H4 (upd H4 D1 (.lst (xs ++ [v4]))) := XM.upd e4 rfl True.intro
      have fl : ∀ d ∈ ss.map Stp.d, flatD d = true := fun d hd => by
        obtain ⟨s0, _, e⟩ := List.mem_map.mp hd
        rw [← e]; exact step_fl s0
      refine ⟨xs, e4, by rw [lx, sizeLine_eq]; omega, ns4, z4, ss ++ [s4], (a3.trans a4).fillM hD1 e4, bx4.xm (S := fun c => c = D1) x5 (fun q => nbD (.inl q.symm)) (fun q => nbD (.inr q.symm)), ⟨xs ++ [v4], upd_same, ?_⟩, by rw [List.length_append, l3, List.length_singleton], fun s hs => ?_⟩
      · rw [List.map_append]
        exact dpAll_snoc (dpAll_xm x5 fl (dpAll_xm a4 fl d3)) (Dp.xm x5 _ _ (step_fl s4) d4)
      · rcases List.mem_append.mp hs with hs | hs
        · exact hg s hs
        · rw [List.mem_singleton.mp hs]; exact g4
    obtain ⟨ns3, z3, ss, a3, bx3, ⟨xs, e3, d3⟩, l3, hg⟩ := pv
    have l3 : ss.length ≤ 8 := by omega
    have a03 := a0.trans (a2.trans a3)
    have eo3 := a3.lst (a2.lst eo nbo) nbo
    dsimp only [gName, tNext]
    have hok : ∀ s ∈ ss, s.ok := fun s hs => (hg s hs).ok
    have tt := text_txo hg l3
    have tr := text_rows hg
    have rb := read_back hg
    obtain ⟨okL, dpL, shL, eqL⟩ := nice_list (ds := ss.map Stp.d) (by rw [List.length_map]; omega) fun d hd => by
      obtain ⟨s0, h0, e⟩ := List.mem_map.mp hd
      rw [← e]; exact nice_stp (hg s0 h0)
    refine ⟨_, rfl, D1, xs, ss, rfl, SqL.of e3, d3, l3, hok, fun H4 x4 => ?_⟩
    dsimp only [gName]
    obtain ⟨text, htx⟩ : ∃ text, Stps.text ss = text := ⟨_, rfl⟩
    rw [htx] at tt tr rb ⊢
    have l4 : text.length ≤ 15000 := Nat.le_trans tt.1 (by decide)
    refine ⟨_, rfl, D1, xs, rfl, .inl (x4.sqL (SqL.of e3)), fun hd hhd => ?_⟩
    dsimp only [gName]
    have xh := XX.new (T := T) (o := .lst xs) hhd
    have x5 := x4.trans xh
    have eh5 : upd H4 hd (.lst xs) hd = some (.lst xs) := upd_same
    have e5 := x5.lst e3
    have d5 := Dp.xxAll x5 _ _ d3
    have bx5 := bx3.xx x5
    have a05 := a03.trans x5.xm
    have eo5 := x5.lst eo3
    generalize upd H4 hd (.lst xs) = H5 at xh x5 eh5 e5 d5 bx5 a05 eo5 ⊢
    refine ⟨_, rfl, hd, xs, ss, rfl, SqL.of eh5, d5, l3, hok, fun H6 x6 => ?_⟩
    rw [htx]
    refine ⟨_, rfl, .str text, .str text, .str text, rfl, .str _, .str _, rfl, Nat.zero_le _, _, rfl, iteF ?_⟩
    have gG : GxR.TabG H6 Pc := x6.tabG _ (a05.tabG _ (x1.tabG _ g1))
    refine ⟨_, rfl, text, rfl, l4, tt.2, gG, fun ds e H7 v7 x7 d7 => ?_, fun n e => by rw [rb] at e; cases e⟩
    rw [rb] at e
    cases e
    have x57 := x6.trans x7
    have e7 := x57.lst e5
    have eh7 := x57.lst eh5
    have d57 := Dp.xxAll x57 _ _ d5
    refine ⟨_, rfl, v7, .ref D1, .list (ss.map Stp.d), rfl, d7, .lst (SqL.of e7) d57, okL, dpL, _, rfl, iteF ?_⟩
    refine ⟨_, rfl, _, rfl, .list (ss.map Stp.d), .list (ss.map Stp.d), .lst (SqL.of eh7) d57, .lst (SqL.of e7) d57, shL, shL, _, rfl, ?_⟩
    rw [eqL]
    refine iteF ?_
    dsimp only [gName, tNext]
    have bx7 := bx5.xx x57
    have a07 := a05.trans x57.xm
    have eo7 := x57.lst eo5
    refine ⟨_, rfl, b, l, ns3, z3, 5, rfl, bx7, by decide, by decide, fun H8 ns8 z8 r8 a8 bx8 r80 r81 => ⟨rfl, _, rfl, ?_⟩⟩
    have a08 := a07.trans a8
    have eo8 := a8.lst eo7 nbo
    dsimp only [gName, tNext]
    refine ifs_keyR (fun σ' H' => ∃ ns9 z9 tx u11' u12', σ' = [some (.ref a), some (.ref b), some (.ref od), some (.int (0 + (i : Int))), some (.ref D1), some (.str tx), some (.ref hd), u7, u8, u9, u10, u11', u12'] ∧ XM T (SB2 b l) H1 H' ∧ BoxAt H' b l ns9 z9 ∧ H' od = some (.lst (oddT.map V.str)) ∧ Txo 1000 tx ∧ rowB tx ≤ 56) ?key (fun _ D' kn _ => ?h1) (fun _ D' kn _ => kn _ _ ⟨ns8, z8, text, _, _, rfl, a08, bx8, eo8, tt, tr⟩)
    case h1 =>
      refine ⟨_, rfl, _, rfl, b, l, ns8, z8, 12, rfl, bx8, by decide, by decide, fun H9 ns9 z9 r9 a9 bx9 r90 r91 => ?_⟩
      obtain ⟨oo, rfl⟩ := Int.eq_ofNat_of_zero_le r90
      have hoo : oo < oddT.length := by show oo < 12; omega
      have eo9 := a9.lst eo8 nbo
      have to := oddT_txo (List.getElem_mem hoo)
      exact ⟨od, _, _, .str oddT[oo], rfl, rfl, SqL.of eo9, atI_nat (by rw [List.getElem?_map, List.getElem?_eq_getElem hoo]; rfl), kn _ _ ⟨ns9, z9, oddT[oo], _, _, rfl, a08.trans a9, bx9, eo9, to.mono (by decide), Nat.le_trans (rowB_len _) (Nat.le_trans to.1 (by decide))⟩⟩
    rintro _ H9 ⟨ns9, z9, tx, u11', u12', rfl, a09, bx9, eo9, tt9, tr9⟩
    dsimp only [gName]
    refine ⟨_, rfl, b, l, ns9, z9, 4, rfl, bx9, by decide, by decide, fun H10 ns10 z10 r10 a10 bx10 r100 r101 => ⟨r10, rfl, by omega, by omega, ?_⟩⟩
    have a010 := a09.trans a10
    have eo10 := a10.lst eo9 nbo
    have hr10 : r10.toNat ≤ 3 := by omega
    refine for_it (walk_range (lo := 0)) (fun i' σ' H' => ∃ u7' ns7 z7 tx, σ' = [some (.ref a), some (.ref b), some (.ref od), some (.int (0 + (i : Int))), some (.ref D1), some (.str tx), some (.ref hd), u7', u8, u9, u10, u11', u12'] ∧ XM T (SB2 b l) H1 H' ∧ BoxAt H' b l ns7 z7 ∧ H' od = some (.lst (oddT.map V.str)) ∧ Txo (chB i') tx ∧ rowB tx ≤ rwB i')
      ⟨_, ns10, z10, tx, rfl, a010, bx10, eo10, tt9, tr9⟩ (fun i σ' H' _ _ => True.intro) (fun j v σ' H' H'' hj pv yy => ?_) (fun σ' HF pv => ?_)
    · obtain ⟨u7', ns7, z7, tx7, rfl, a7, bx7', eo7', tt7, tr7⟩ := pv
      obtain ⟨rfl, rfl⟩ := yy
      obtain ⟨c1, c2⟩ := chB_step j (by omega)
      have c3 := rwB_step j (by omega)
      have t7 := tt7.1
      dsimp only [gName]
      refine ⟨_, rfl, _, rfl, b, l, ns7, z7, tx7, rfl, bx7', by omega, tt7.2, fun H8 ns8 z8 w8 a8 bx8 l8 s8 q8 => ?_⟩
      dsimp only [gName]
      exact ⟨_, ns8, z8, w8, rfl, a7.trans a8, bx8, a8.lst eo7' nbo, ⟨by omega, s8⟩, by omega⟩
    obtain ⟨u7', ns7, z7, tx7, rfl, a7, bx7', eo7', tt7, tr7⟩ := pv
    have t7 : tx7.length ≤ 15000 := by
      have := chB_le r10.toNat
      have := tt7.1
      omega
    have s7 := tt7.2
    have w7 : rowB tx7 ≤ 504 := Nat.le_trans tr7 (rwB_le _)
    obtain ⟨ok7, dep7⟩ := due_ok t7 s7
    dsimp only [gName, tNext]
    refine ⟨_, rfl, rfl, _, rfl, ?_⟩
    rw [dec_str]
    have e0 : tx7 = "" ↔ tx7.length = 0 := ⟨fun h => by rw [h]; rfl, fun h => TL.ext_tl (by rw [TL.len0_tl] at h; rw [h]; rfl)⟩
    refine ifE_key (fun v H' => ∃ fa acc, v = .ref fa ∧ XX T HF H' ∧ HF fa = none ∧ H' fa = some (.lst acc) ∧ DpAll K H' acc (lawRows tx7)) (fun v H' z => ?_) (fun hc Q' kq => ?_) (fun hc Q' kq => ?_)
    · obtain ⟨fa, acc, rfl, x10, nfa, efa, dfa⟩ := z
      have nbf := box_ne bx7' nfa
      have a11 := a7.trans x10.xm
      have bx11 := bx7'.xx x10
      have eo11 := x10.lst eo7'
      dsimp only [gName, tNext]
      refine ⟨_, rfl, .none, lawRows tx7, .non, .lst (SqL.of efa) dfa, by decide +kernel, rows_sh t7 s7, _, rfl, ?_⟩
      have ea : ((lawRows tx7).any fun z => PyData.eqv z .none) = (lawRows tx7).any isN := by
        congr 1
        exact funext eqv_none
      rw [ea]
      refine ifE_key (fun v H12 => XX T H' H12 ∧ DueP K H12 b l v tx7) (fun v H12 z => ?_) (fun hc Q' kq => ?_) (fun hc Q' kq => ?_)
      · obtain ⟨x12, dv⟩ := z
        have a12 := a11.trans x12.xm
        have bx12 := bx11.xx x12
        have eo12 := x12.lst eo11
        dsimp only [gName, tNext]
        refine ⟨2, rfl, by decide, by decide, ?_⟩
        refine for_it (walk_range (lo := 0)) (fun i' σ' H' => ∃ u10', σ' = [some (.ref a), some (.ref b), some (.ref od), some (.int (0 + (i : Int))), some (.ref D1), some (.str tx7), some (.ref hd), u7', some (.ref fa), some v, u10', u11', _] ∧ XM T (SB2 b l) H1 H' ∧ BoxAt H' b l ns7 z7 ∧ H' od = some (.lst (oddT.map V.str)) ∧ DueP K H' b l v tx7)
          ⟨_, rfl, a12, bx12, eo12, dv⟩ (fun i σ' H' _ _ => True.intro) (fun j v' σ' H' H'' hj pv yy => ?_) (fun σ' H' pv => ?_)
        · obtain ⟨u10', rfl, a13, bx13, eo13, dv13⟩ := pv
          obtain ⟨rfl, rfl⟩ := yy
          dsimp only [gName]
          have y9 : XM T (SB2 b l) H H'' := x1.xm.trans a13
          refine ⟨y9.tabs hT, fun H14 g c' dV doc pm ctv inj e14 tk14 t14 hD nf hc' => fun H15 z15 => ?_⟩
          have x14 : XX T H'' H14 := XX.lam e14 (fun _ => t14) tk14.1 tk14.2
          have xx : ∀ o, XX T H'' (upd H14 g o) := fun o => x14.then_new (o := o) nf
          refine told_lamB (T := T) (cE := cE) (cs := cs) (Nl := ["_law_text_here"]) (js := [5]) (sc := defScope s_law) (k := 6) (tb := fun E => tCall (spReadS K T Pc D) [] E (tCons (tVar 0) tNil)) z15 (cap_by (N := laN) (by decide +kernel)) rfl rfl inj upd_same hD (by rw [upd_ne (ne_of_none hc' nf)]; exact hc') (fun _ _ _ _ => rfl)
            (fun A outer s H E hr => pe_calX cRd hr passes_l (pa_cons (pv 0) pa_nil)) (read_bodyS (D := D) (Pc := Pc) (t := tx7) t7 s7 ((xx _).tabG _ (y9.tabG _ g1)) eB fun v2 HT aF dv2 => ?_)
          have aF' := aF.mono (S' := SB2 b l) fun _ h => h.elim
          have dv15 := (dv13.xm t7 s7 (xx _).xm).xm t7 s7 aF'
          refine ⟨_, rfl, v2, v, dueD tx7, rfl, dv2, dv15.dp, ok7, dep7, _, rfl, ?_⟩
          exact iteF ⟨_, rfl, (a13.trans (xx _).xm).trans aF', (bx13.xx (xx _)).xm aF id id, aF.lst ((xx _).lst eo13) id, dv15⟩
        · obtain ⟨u10', rfl, a13, bx13, eo13, dv13⟩ := pv
          exact ⟨_, _, _, _, _, _, _, _, _, _, ns7, z7, rfl, a13, bx13, eo13⟩
      · rcases due_spec tx7 with ⟨j, z, ez, hz, hb, ed⟩ | ⟨hb, ed⟩
        · refine ⟨_, rfl, .inl ⟨rfl, _, SqL.of efa⟩, fa, .non, .none, lawRows tx7, j, z, rfl, rfl, .lst (SqL.of efa) dfa, .non, rows_sh t7 s7, by decide +kernel, ez, by rw [eqv_none]; exact hz, fun m z' hm hz' => by rw [eqv_none]; exact hb m z' hm hz', (by show 2 ≤ sizeLine; decide), fun p hp => kq _ _ ⟨XX.new hp, .inr ⟨(j : Int), ed, .tup (SqT.of upd_same) (.cons (.str _) (.cons (.int _) .nil))⟩⟩⟩
        · exfalso
          rw [List.any_eq_true] at hc
          obtain ⟨z, hz, hn⟩ := hc
          rw [hb z hz] at hn
          cases hn
      · rcases due_spec tx7 with ⟨j, z, ez, hz, hb, ed⟩ | ⟨hb, ed⟩
        · exfalso
          have : (lawRows tx7).any isN = true := List.any_eq_true.mpr ⟨z, List.mem_of_getElem? ez, hz⟩
          rw [this] at hc
          cases hc
        · exact ⟨_, rfl, kq _ _ ⟨XX.refl _, .inl ⟨fa, acc, rfl, efa, nbf, dfa, ed⟩⟩⟩
    · have hne : ¬ tx7.length = 0 := fun z => by rw [decide_eq_true (e0.mpr z)] at hc; cases hc
      have er : rowsW tx7 = Txt.split tx7 "\n" := if_neg hne
      obtain ⟨q1, q2, q3⟩ := line_bounds tx7
      have qa := line_asc s7
      have qb : ∀ r ∈ Txt.split tx7 "\n", r.length ≤ rowB tx7 := fun r hr => rows_le hr
      have lr : lawRows tx7 = (Txt.split tx7 "\n").map stepR := by unfold lawRows; rw [er]
      refine ⟨_, rfl, ⟨tx7, rfl⟩, tx7, "\n", rfl, rfl, rfl, (by rw [sizeLine_eq]; omega), ?_⟩
      generalize Txt.split tx7 "\n" = rows at q1 q2 q3 qa qb lr ⊢
      refine fun p10 hp10 => ⟨p10, rfl, ⟨_, SqL.of upd_same⟩, fun D2 hD2 => ?_⟩
      have x10 := XX.new (T := T) (o := .lst (rows.map V.str)) hp10
      have lw : (rows.map V.str).length = rows.length := List.length_map ..
      refine lc_dp (T := T) (K := K) (fun j => stepR (rows.getD j "")) hD2 (SqL.of upd_same) (by rw [lw, sizeLine_eq]; omega) (fun j hj => ?_) (fun j xv H11 Qe ex x11 q11 => ?_) (fun H11 acc x11 e11 da => ?_)
      · rw [lw] at hj
        have eg : rows.getD j "" = rows[j] := by rw [List.getD_eq_getElem?_getD, List.getElem?_eq_getElem hj]; rfl
        rw [eg]
        exact (nice_step (blank_asc (qa _ (List.getElem_mem hj)))).fl
      · have hj3 := (List.getElem?_eq_some_iff.mp ex).1
        rw [lw] at hj3
        rw [List.getElem?_map, List.getElem?_eq_getElem hj3] at ex
        obtain rfl : V.str rows[j] = xv := Option.some.inj ex
        have eg : rows.getD j "" = rows[j] := by rw [List.getD_eq_getElem?_getD, List.getElem?_eq_getElem hj3]; rfl
        have c4 := qb _ (List.getElem_mem hj3)
        rw [eg] at q11
        exact ⟨_, rfl, rows[j], rfl, by omega, qa _ (List.getElem_mem hj3), fun H12 v12 x12 d12 => q11 H12 v12 x12 d12⟩
      · rw [lw, map_range stepR, ← lr] at da
        exact kq _ _ ⟨D2, acc, rfl, x10.trans x11, x10.free hD2, e11, da⟩
    · have he : tx7.length = 0 := by
        by_cases z : tx7 = ""
        · exact e0.mp z
        · rw [decide_eq_false z] at hc; cases hc
      have lr : lawRows tx7 = [] := by
        unfold lawRows rowsW
        rw [if_pos he] <;> rfl
      rw [lr] at kq
      exact ⟨Nat.zero_le _, fun p10 hp10 => kq _ _ ⟨p10, [], rfl, XX.new hp10, hp10, upd_same, .nil⟩⟩
  · exact k H'
end
end GX
set_option maxHeartbeats 0
/-! what the program's top leaves: facts by names, BadText's __init__ with its cell, one run -/
namespace GX
open PySem PySem.Spec PyProof.Rows L2 LamX
/-! ### BadText -/
abbrev LP : Program := (PySem.Challenge.rw_slotpages_k19_steps_written_and_refused).prog
def oexB (K : PySem.W.Frag) (C : Addr) : Bool := (match K.lookup C with
  | some ⟨.type t, _, .cls cd, sl⟩ => (match cd.mro, sl.toList with
    | .ref C' :: bm, [_, _, _, _, some (.builtin n), _] => decide (t = "type") && (decide (C' = C) && (decide (n = "ValueError.__new__") && (cd.hasDict && (!cd.hasDel && PySem.HandSPX.refsVE bm))))
    | _, _ => false)
  | _ => false) && (decide (PySem.W.findIn K (.ref C) "__setattr__" = some (some (.builtin "object.__setattr__"))) && (decide (PySem.W.subIn K (.ref C) (.type "BaseException") = some true) && (decide (PySem.W.typeIn K (.ref C) = some (.type "type")) && PySem.W.keepIn K (.ref C))))
theorem oexB_ok {K : PySem.W.Frag} {C : Addr} (h : oexB K C = true) : OexC K C := by
  obtain ⟨h0, h⟩ := He.ba h
  obtain ⟨h1, h⟩ := He.ba h
  obtain ⟨h2, h⟩ := He.ba h
  obtain ⟨h3, h4⟩ := He.ba h
  refine ⟨?_, of_decide_eq_true h1, of_decide_eq_true h2, of_decide_eq_true h3, h4⟩
  split at h0
  · rename_i t dd cd sl ho
    split at h0
    · rename_i C' bm k0 k1 k2 k3 n k5 hm hs
      obtain ⟨g0, h0⟩ := He.ba h0
      obtain ⟨g1, h0⟩ := He.ba h0
      obtain ⟨g2, h0⟩ := He.ba h0
      obtain ⟨g3, h0⟩ := He.ba h0
      obtain ⟨g4, g5⟩ := He.ba h0
      have g0 := of_decide_eq_true g0
      have g1 := of_decide_eq_true g1
      have g2 := of_decide_eq_true g2
      have q4 : cd.hasDel = false := by simpa using g4
      subst g0 g1 g2
      obtain ⟨nm, bs, mro, ns, qn, hd, sn, sub, ab, col, del⟩ := cd
      dsimp only at hm g3 q4
      subst hm g3 q4
      have hsl : sl = #[k0, k1, k2, k3, some (.builtin "ValueError.__new__"), k5] := by
        obtain ⟨l⟩ := sl
        simp only at hs
        rw [hs]
      subst hsl
      exact ⟨nm, qn, ns, bs, bm, sn, sub, ab, col, dd, k0, k1, k2, k3, k5, ho, g5⟩
    · cases h0
  · cases h0
abbrev BtW : Type := Option (Str × Str × Arguments × FuncBody × Scope × Addr × List Str × Addr)
abbrev btP : He.Defn := ("BadText", some "__init__")
def btW (K : PySem.W.Frag) : BtW := match K.lookup (He.fAd K btP) with
  | some ⟨_, _, .func fd, _⟩ => some (fd.name, fd.qualname, fd.params, fd.body, fd.scope, fd.globals, fd.closure.map (·.1), fd.builtins)
  | _ => none
def btV : BtW := some ("__init__", "BadText.__init__", defArgs s_BtInit, .stmts (defBody s_BtInit), defScope s_BtInit, mainGlobals, ["__class__"], builtinsNs)
def celB (K : PySem.W.Frag) (cc D : Addr) : Bool := match K.lookup cc with
  | some ⟨_, _, .cell (some (.ref d)), _⟩ => decide (d = D)
  | _ => false
def filB (K : PySem.W.Frag) (v : Value) : Bool := match v with
  | .ref c => (match K.lookup c with
    | some ⟨_, _, .fields vs, _⟩ => (match (vs[2]? : Option Value) with
      | some (.str f _) => ((LP.main.file : Str) == f)
      | _ => false)
    | _ => false)
  | _ => false
def bfB (K : PySem.W.Frag) (D : Addr) : Bool := match K.lookup (He.fAd K btP) with
  | some ⟨_, _, .func fd, _⟩ => (match fd.closure, fd.defaults with
    | [(_, cc)], .none => celB K cc D && (filB K fd.code && PySem.W.codeIn K fd.code "BadText.__init__")
    | _, _ => false)
  | _ => false
def btB (K : PySem.W.Frag) (D : Addr) : Bool := oexB K D && (xfB K D && (bfB K D && (decide (PySem.W.mroIn K D (.ref D) = some true) && (decide (PySem.W.ks_superIn K D D "__init__" = some (some (.builtin "ValueError.__init__"))) && (decide (PySem.W.subIn K (.ref D) (.type "ValueError") = some true) &&
  (decide (PySem.W.nsIn K cStatics "thirdparty.any" = some none) && (decide (PySem.W.findIn K (.ref D) "line" = some none) && (decide (PySem.W.findIn K (.ref D) "__init__" = some (some (.ref (He.fAd K btP)))) && decide (PySem.W.typeIn K (.ref (He.fAd K btP)) = some (.type "function"))))))))))
theorem btB_ok {K : PySem.W.Frag} {mg : Str → Option Value} {D : Addr} (hs : mg "super" = none) (e : btW K = btV) (h : btB K D = true) : XfC K D ∧ OexC K D ∧ PySem.W.findIn K (.ref D) "line" = some none ∧ PySem.W.findIn K (.ref D) "__init__" = some (some (.ref (He.fAd K btP))) ∧ PySem.W.typeIn K (.ref (He.fAd K btP)) = some (.type "function") ∧
    ∃ fd cc cda, BtC LP K mg D (He.fAd K btP) fd cc cda ∧ Binds K fd btN [] := by
  obtain ⟨h1, h⟩ := He.ba h
  obtain ⟨h2, h⟩ := He.ba h
  obtain ⟨h3, h⟩ := He.ba h
  obtain ⟨h4, h⟩ := He.ba h
  obtain ⟨h5, h⟩ := He.ba h
  obtain ⟨h6, h⟩ := He.ba h
  obtain ⟨h7, h⟩ := He.ba h
  obtain ⟨h8, h⟩ := He.ba h
  obtain ⟨h9, h10⟩ := He.ba h
  have ox := oexB_ok h1
  have no := of_decide_eq_true h8
  refine ⟨xfB_ok h2, ox, no, of_decide_eq_true h9, of_decide_eq_true h10, ?_⟩
  unfold bfB at h3
  unfold btW at e
  cases q : K.lookup (He.fAd K btP) with
  | none => rw [q] at h3; cases h3
  | some o =>
    obtain ⟨oc, od, dt, osl⟩ := o
    rw [q] at h3 e
    cases dt with
    | func fd =>
      obtain ⟨n1, n2, n3, n4, n5, n6, n7, n8, n9, n10, n11, n12, n13, n14, n15⟩ := fd
      have e2 : (some (n1, n2, n3, n4, n5, n6, n7.map (·.1), n15) : BtW) = btV := e
      unfold btV at e2
      simp only [Option.some.injEq, Prod.mk.injEq] at e2
      obtain ⟨g1, g2, g3, g4, g5, g6, g7, g8⟩ := e2
      subst g1 g2 g3 g4 g5 g6 g8
      dsimp only at h3
      split at h3
      · rename_i y cc
        obtain ⟨c1, h3⟩ := He.ba h3
        obtain ⟨c2, c3⟩ := He.ba h3
        have g7' : y = ("__class__" : Str) := by simpa using g7
        subst g7'
        obtain ⟨cda, ec⟩ := He.codeIn_ref c3
        subst ec
        refine ⟨_, cc, cda, ⟨⟨oc, od, .none, n9, n10, n11, n12, n14, osl, rfl, q⟩, c3, ?_, ?_, ?_, of_decide_eq_true h4, hs, by decide +kernel, of_decide_eq_true h5, of_decide_eq_true h6, of_decide_eq_true h7, ox, no⟩, .all fun us hl => match us, hl with | [_, _], _ => rfl⟩
        · unfold filB at c2
          dsimp only at c2
          split at c2
          · rename_i ccl cdd vs ccs lc
            split at c2
            · rename_i f t hv
              exact ⟨ccl, cdd, vs, ccs, f, t, lc, hv, c2⟩
            · cases c2
          · cases c2
        · unfold celB at c1
          split at c1
          · rename_i cl cld d csl lc
            rw [of_decide_eq_true c1] at lc
            exact ⟨cl, cld, csl, lc⟩
          · cases c1
        · have z := of_decide_eq_true h5
          unfold PySem.W.ks_superIn at z
          cases q2 : PySem.W.clsIn K D with
          | none => rw [q2] at z; cases z
          | some cd => exact ⟨cd, rfl⟩
      · cases h3
    | _ => cases h3
def wordsH : List Str := ["BadCount", "BadDisk", "BadPage", "BadRow", "BadText", "Full", "NoPage", "NoRow", "Stopped"]
def dG (x : Str) (st : Stmt) : He.DefD := ⟨(x, none), x, x, defArgs st, defBody st, defScope st, [], []⟩
def fnH : List He.DefD := ([dG "is_number" s_is_number, dG "are_values" s_are_values, dG "text_of" s_text_of, dG "rows_of" s_rows_of, dG "number_of" s_number_of, dG "numbers_of" s_numbers_of, dG "written_steps" s_written_steps, dG "read_steps" s_read_steps, dG "_step_words" s_step_words, dG "_word_of" s_word_of] : List He.DefD) ++
  ([dG "_step_of" s_step_of, dG "_values_of" s_values_of, dG "_law_begun" s_begun, dG "_law_take" s_take, dG "_law_alike" s_alike, dG "_law_told" s_told, dG "_law_step" s_lstep, dG "_law_text" s_ltext, dG "_law_number" s_lnumber, dG "_law_row" s_lrow] : List He.DefD) ++
  ([dG "_law_spoilt" s_lspoilt, dG "law" s_law] : List He.DefD)
def faH : List He.Fa := ([.glo "is_number", .glo "are_values", .glo "text_of", .glo "rows_of", .glo "number_of", .glo "numbers_of", .glo "written_steps", .glo "read_steps", .glo "_step_words", .glo "_word_of", .glo "_step_of", .glo "_values_of", .glo "_law_begun", .glo "_law_take"] : List He.Fa) ++
  ([.glo "_law_alike", .glo "_law_told", .glo "_law_step", .glo "_law_text", .glo "_law_number", .glo "_law_row", .glo "_law_spoilt", .glo "law", .glo "PageError", .glo "BadCount", .glo "BadDisk", .glo "BadPage", .glo "BadRow", .glo "BadText"] : List He.Fa) ++
  ([.glo "Full", .glo "NoPage", .glo "NoRow", .glo "Stopped", .glo "SHAPES", .free "isinstance", .free "len", .free "all", .free "int", .free "bool", .free "tuple", .free "list", .free "range", .free "str"] : List He.Fa) ++
  ([.free "enumerate", .free "ValueError", .free "super", .free "zip", .int "MOST_VALUES" 300, .int "GREATEST_CELL" 99, .int "MOST_FIGURES" 3, .str "NOTHING" "-", .exm "BadText" "PageError" true] : List He.Fa)
def tfH : List He.Defn := [("are_values", none), ("law", none)]
/-! ### the table of the steps' shapes -/
def wordsS : List Str := ["put", "change", "drop", "get", "parts", "tidy", "arm", "again"]
def tsH : List He.Tab := [(fun K => He.ga K "SHAPES", wordsS)]
def kvB (K : PySem.W.Frag) (t : Addr) (ks : List Bool) : Bool := match K.lookup t with
  | some ⟨.type c, _, .seq its _, _⟩ => decide (c = "tuple") && (decide (its.size ≤ sizeLine) && He.relAll (ks.map kindV) its.toList)
  | _ => false
theorem kvB_ok {K : PySem.W.Frag} {t : Addr} {ks : List Bool} (h : kvB K t ks = true) (H : Hp) : SqT K H t (ks.map kindV) := by
  unfold kvB at h
  cases q : K.lookup t with
  | none => rw [q] at h; cases h
  | some o =>
    obtain ⟨oc, od, dt, osl⟩ := o
    rw [q] at h
    cases oc with
    | type c =>
      cases dt with
      | seq its n =>
        obtain ⟨h1, h2⟩ := He.ba (show (decide (c = "tuple") && (decide (its.size ≤ sizeLine) && He.relAll (ks.map kindV) its.toList)) = true from h)
        obtain ⟨h3, h4⟩ := He.ba h2
        exact .inr ⟨_, its, n, q, congrArg Value.type (of_decide_eq_true h1), rfl, of_decide_eq_true h3, He.relAll_ok h4⟩
      | _ => cases h
    | _ => cases dt <;> cases h
def shB (K : PySem.W.Frag) : Bool := wordsS.all fun z => match PySem.W.nsIn K (He.ga K "SHAPES") z with
  | some (some (.ref t)) => kvB K t ((shapeW z).getD [])
  | _ => false
theorem keys_of {P : Params} : ∀ {l : List DictEntry} {ks : List Str}, l.map He.keyOf = He.keysIn P ks → ∀ e ∈ l, ∃ k t, k ∈ ks ∧ e.key = .str k t
  | [], _, _, e, he => absurd he (by simp)
  | _ :: _, [], h, _, _ => by cases h
  | d :: l, k :: ks, h, e, he => by
    have h1 : He.keyOf d :: l.map He.keyOf = some (k, PyData.keyHash P k) :: He.keysIn P ks := h
    injection h1 with h2 h3
    rcases List.mem_cons.mp he with q | he
    · subst q
      unfold He.keyOf at h2
      split at h2
      · rename_i x t q
        have h4 := Option.some.inj h2
        obtain ⟨h5, _⟩ := Prod.mk.inj h4
        exact ⟨k, t, List.mem_cons_self, by rw [q, h5]⟩
      · cases h2
    · obtain ⟨k', t, hk, q⟩ := keys_of h3 e he
      exact ⟨k', t, List.mem_cons_of_mem _ hk, q⟩
theorem ns_none {K : PySem.W.Frag} {w : World} {a : Addr} {ks : List Str} (e : He.dicW K a = some (He.keysIn w.params ks)) {z : Str} (hz : z ∉ ks) : PySem.W.nsIn K a z = some none := by
  obtain ⟨es, n, KD⟩ := He.dicW_ok e
  unfold He.dicW at e
  rw [KD.at_] at e
  have e2 : (match decide (("dict" : String) = "dict") && ((#[] : Array (Option Value)).isEmpty && !(a == sysModules)) with
    | true => some (es.toList.map He.keyOf)
    | false => none) = some (He.keysIn w.params ks) := e
  rw [KD.low] at e2
  have e3 : es.toList.map He.keyOf = He.keysIn w.params ks := Option.some.inj e2
  have key := keys_of e3
  have f1 : es.toList.find? (·.key.isStr z) = none := List.find?_eq_none.mpr fun x hx q => by
    obtain ⟨k, t, hk, ek⟩ := key x hx
    rw [ek] at q
    have q : (k == z) = true := q
    rw [eq_of_beq q] at hk
    exact hz hk
  have f2 : es.toList.any (·.refKey) = false := List.any_eq_false.mpr fun x hx q => by
    obtain ⟨k, t, hk, ek⟩ := key x hx
    unfold DictEntry.refKey at q
    rw [ek] at q
    cases q
  unfold PySem.W.nsIn
  rw [KD.at_]
  dsimp only
  rw [f1, f2] <;> rfl
theorem shF_of {K : PySem.W.Frag} {w : World} {mg : Str → Option Value} (m : mg "SHAPES" = some (.ref (He.ga K "SHAPES"))) (e : He.dicW K (He.ga K "SHAPES") = some (He.keysIn w.params wordsS)) (h : shB K = true) : ShF K w mg (He.ga K "SHAPES") := by
  refine ⟨m, He.dicW_ok e, fun z hz => ns_none e fun hm => ?_, fun z ks hz => ?_⟩
  · have key : ∀ x ∈ wordsS, (shapeW x).isSome = true := by decide +kernel
    have q := key z hm
    rw [hz] at q
    cases q
  · have h2 := List.all_eq_true.mp h z (word_of hz)
    split at h2
    · rename_i t q
      rw [hz] at h2
      exact ⟨t, q, kvB_ok h2⟩
    · cases h2
def excB (K : PySem.W.Frag) (D : Addr) : Bool :=
  decide (PySem.W.findIn K (.ref D) "__getattribute__" = some (some (.builtin "BaseException.__getattribute__"))) && (decide (PySem.W.findIn K (.ref D) "__getattr__" = some none) && (decide (PySem.W.subIn K (.ref D) (.type "BaseException") = some true) &&
  (PySem.W.hasDictIn K D && (decide (PySem.W.findIn K (.ref D) "__class__" = some (some (.builtin "object.__class__"))) && (decide (PySem.W.specialIn K (.builtin "object.__class__") "__get__" = some (some (.builtin "getset_descriptor.__get__"))) &&
  (decide (PySem.W.takesIn K (.builtin "object.__class__") = some true) && decide (PySem.W.mroIn K D (.type "object") = some true)))))))
theorem excB_ok {K : PySem.W.Frag} {D : Addr} (h : excB K D = true) : ExcC K D := by
  obtain ⟨h1, h⟩ := He.ba h
  obtain ⟨h2, h⟩ := He.ba h
  obtain ⟨h3, h⟩ := He.ba h
  obtain ⟨h4, h⟩ := He.ba h
  obtain ⟨h5, h⟩ := He.ba h
  obtain ⟨h6, h⟩ := He.ba h
  obtain ⟨h7, h8⟩ := He.ba h
  exact ⟨of_decide_eq_true h1, of_decide_eq_true h2, of_decide_eq_true h3, h4, of_decide_eq_true h5, of_decide_eq_true h6, of_decide_eq_true h7, of_decide_eq_true h8⟩
/-- an error's class among the nine -/
def kitB9 (K : PySem.W.Frag) (i : Nat) : Bool := (List.range 9).all fun j => decide (PySem.W.kitOne K (.ref (He.ga K (wordsH.getD i ""))) (.ref (He.ga K (wordsH.getD j ""))) = some (decide (j = i)))
def exH (K : PySem.W.Frag) : Bool := (excB K (He.ga K "BadText") && (kitB9 K 4 && decide (PySem.W.kitOne K (.ref (He.ga K "BadText")) (.type "ValueError") = some true))) && (btB K (He.ga K "BadText") && (shB K && decide ((tfH.map fun p => (He.cT K p).2).Nodup)))
/-! ### the Hook: what the names reach, and the interpreter's statics -/
def asW (g : Addr → Option Obj) : List Addr := He.asD g 5 ++ [cStatics]
def frW (g : Addr → Option Obj) : PySem.W.Frag := He.frT g (asW g)
def obsH (g : Addr → Option Obj) : He.AlX × BtW := ((He.obsT faH fnH tsH (frW g), exH (frW g) && He.tabsB g tfH (frW g)), btW (frW g))
def valH (w : World) : He.AlX × BtW := (He.valX fnH tsH w, btV)
theorem saysW_of {w : World} {h : Heap} (e : obsH h.get? = valH w) : He.SaysX faH fnH tsH tfH exH w h (frW h.get?) ∧ btW (frW h.get?) = btV := by
  have e1 : He.obsT faH fnH tsH (frW h.get?) = He.valT fnH tsH w := congrArg (fun z : He.AlX × BtW => z.1.1) e
  have e2 : (exH (frW h.get?) && He.tabsB h.get? tfH (frW h.get?)) = true := congrArg (fun z : He.AlX × BtW => z.1.2) e
  have e3 : btW (frW h.get?) = btV := congrArg (fun z : He.AlX × BtW => z.2) e
  obtain ⟨h1, h2⟩ := He.ba e2
  have row : ∀ p ∈ tfH, PySem.W.codeHdIn (frW h.get?) (He.cT (frW h.get?) p).1 (He.cT (frW h.get?) p).2 = true ∧ ∃ o, h.get? (He.cT (frW h.get?) p).2 = some o ∧ He.emptyTab o = true := fun p hp => by
    obtain ⟨q1, q2⟩ := He.ba (List.all_eq_true.mp h2 p hp)
    cases q : h.get? (He.cT (frW h.get?) p).2 with
    | none => rw [q] at q2; cases q2
    | some o => rw [q] at q2; exact ⟨q1, o, rfl, q2⟩
  refine ⟨⟨e1, h1, fun p hp => (row p hp).1, fun p hp => ?_, fun p hp => ?_⟩, e3⟩
  · obtain ⟨_, o, q, z⟩ := row p hp
    exact He.frT_none q z
  · obtain ⟨_, o, q, z⟩ := row p hp
    rw [q, He.emptyTab_eq z]
abbrev RH : PySem.W.OpenRow := PySem.W.OpenLaw.row PySem.Challenge.rw_slotpages_k19_steps_written_and_refused
def hkH : PySem.W.Hook where
  α := He.AlX × BtW
  obs := fun s => obsH s.heap.get?
  val := valH
  says := fun w h => ∃ K : PySem.W.Frag, K.In h ∧ He.SaysX faH fnH tsH tfH exH w h K ∧ btW K = btV
  of := fun _ _ e => ⟨_, He.frT_in, saysW_of e⟩
  keeps := fun _ _ _ ⟨K, hK, c, b⟩ k => ⟨K, PySem.W.Frag.In.keeps hK k, ⟨c.t, c.more, c.hd, c.out, fun p hp => k _ _ (c.empty p hp)⟩, b⟩
def obH (s : PySem.W.SharedT) : He.AlX × BtW := obsH (HandSHeadRun.getT s)
theorem obH_eq (s : PySem.W.SharedT) : obH s = hkH.obs s.abs := by
  have e : HandSHeadRun.getT s = s.abs.heap.get? := funext (HandSHeadRun.getT_eq s)
  show obsH (HandSHeadRun.getT s) = obsH s.abs.heap.get?
  rw [e]
def looseH : List Str := (["PageError", "BadCount", "BadDisk", "BadPage", "BadRow", "BadText", "Full", "NoPage", "NoRow", "Stopped", "MOST_VALUES", "GREATEST_CELL", "MOST_FIGURES", "NOTHING", "SHAPES", "is_number"] : List Str) ++
  (["are_values", "text_of", "rows_of", "number_of", "numbers_of", "written_steps", "read_steps", "_step_words", "_word_of", "_step_of", "_values_of", "_law_begun", "_law_take", "_law_alike", "_law_told", "_law_step"] : List Str) ++
  (["_law_text", "_law_number", "_law_row", "_law_spoilt", "_law_all"] : List Str)
theorem runF (w : World) : HandSHeadRun.RunEq RH (PySem.W.view RH.prog [42]) hkH obH 60000 looseH (w.withFollow "special-get-raises" false) := by
  intro os
  kernel_rfl
theorem runT (w : World) : HandSHeadRun.RunEq RH (PySem.W.view RH.prog [42]) hkH obH 60000 looseH (w.withFollow "special-get-raises" true) := by
  intro os
  kernel_rfl
theorem runH (w : World) : HandSHeadRun.RunEq RH (PySem.W.view RH.prog [42]) hkH obH 60000 looseH w := PySem.W.byRow2 "special-get-raises" (P := fun w => HandSHeadRun.RunEq RH (PySem.W.view RH.prog [42]) hkH obH 60000 looseH w) runF runT w
end GX
set_option maxHeartbeats 2000000
namespace GX
open PySem PySem.Spec PyProof.Rows L2 LamX
section
variable {P : Program} {w : World} {K : PySem.W.Frag} {mg : Str → Option Value} {base : Heap} {T : List (Addr × Str)}
theorem sc_is_number : FnScope ["thing", "low", "high"] ["thing", "low", "high"] (defScope s_is_number) := ⟨rfl, rfl, rfl, by decide +kernel, rfl, by decide +kernel, by decide +kernel⟩
theorem ok_is_number {f : Addr} {fd : FuncData} (F : Fun K "is_number" "is_number" s_is_number f fd) (B : Blt mg) : FnOk P w K mg base CX0 1 f fd ["thing", "low", "high"] (spNum K) := by
  refine F.ok sc_is_number (fun vs H Q E h => ?_) (fun cdv A outer s H vs Q E hr h => ?_)
  · obtain ⟨v, d, lo, hi, rfl, _⟩ := h
    rfl
  · obtain ⟨v, d, lo, hi, rfl, hd, k⟩ := h
    refine ⟨_, pss_one (ps_ret (pe_and (pe_callB call_isi (by rfl) B.isi k_isi (pa_cons (pv 0) (pa_cons (pe_bltn (v := .ty "int") (by rfl) B.int boot_int rfl) pa_nil)))
      (pe_and (pe_not (pe_callB call_isi (by rfl) B.isi k_isi (pa_cons (pv 0) (pa_cons (pe_bltn (v := .ty "bool") (by rfl) B.bool boot_bool rfl) pa_nil))))
        (pe_one (pe_chain op_le op_le (pv 1) (pv 0) (pv 2)))))), ?_⟩
    refine t_isi rfl hd kit_int ⟨_, rfl, ?_⟩
    cases hd with
    | int i =>
      refine iteT (t_isi rfl (.int i) kit_bool ⟨_, rfl, _, rfl, iteT ?_⟩)
      refine ⟨_, rfl, _, rfl, _, _, rfl, rfl, _, rfl, ?_⟩
      by_cases h1 : lo ≤ i
      · rw [decide_eq_true h1]
        refine iteT ⟨_, rfl, _, _, rfl, rfl, ?_⟩
        have e : isNum (.int i) lo hi = decide (i ≤ hi) := by simp [isNum, h1]
        rw [e] at k; exact k
      · rw [decide_eq_false h1]
        refine iteF ?_
        have e : isNum (.int i) lo hi = false := by simp [isNum, h1]
        rw [e] at k; exact k
    | bl b => exact iteT (t_isi rfl (.bl b) kit_bool ⟨_, rfl, _, rfl, iteF k⟩)
    | non => exact iteF k
    | str x => exact iteF k
    | lst _ _ => exact iteF k
    | tup _ _ => exact iteF k
end
end GX
set_option maxHeartbeats 16000000
/-! from what the top leaves to the law's promise -/
namespace GX
open PySem PySem.Spec PyProof.Rows L2 LamX
section
variable {P : Program} {w : World} {K : PySem.W.Frag} {mg : Str → Option Value} {base : Heap}
theorem fun_of {x q : Str} {st : Stmt} {f : Addr} {fd : FuncData} (F : FunD K x q (defArgs st) (defBody st) (defScope st) [] [] f fd) : L2.Fun K x q st f fd := by
  obtain ⟨oc, od, dV, kV, doc, pm, an, cdv, ct, osl, e, lk, hcd, hD, _⟩ := F.ex
  have hd : dV = .none := by
    rcases hD with ⟨_, z⟩ | ⟨z, _⟩
    · exact z
    · exact absurd rfl z
  subst hd
  exact ⟨⟨oc, od, kV, doc, pm, an, cdv, ct, osl, e, lk, hcd⟩, F.kp⟩
theorem func_of {x q : Str} {st : Stmt} {p : He.Defn} {fd : FuncData} (F : FunD K x q (defArgs st) (defBody st) (defScope st) [] [] (He.fAd K p) fd) : FunC K x q st (He.fAd K p) fd (He.codeOf K p) := by
  obtain ⟨oc, od, dV, kV, doc, pm, an, cdv, ct, osl, e, lk, hcd, hD, _⟩ := F.ex
  have hd : dV = .none := by
    rcases hD with ⟨_, z⟩ | ⟨z, _⟩
    · exact z
    · exact absurd rfl z
  subst hd
  obtain ⟨c, ec⟩ := He.codeIn_ref hcd
  subst ec
  subst e
  have e2 := He.codeOf_eq (p := p) (c := c) lk rfl
  rw [e2]
  exact ⟨⟨oc, od, kV, doc, pm, an, ct, osl, rfl, lk, hcd⟩, F.kp⟩
abbrev csH (K : PySem.W.Frag) : Fin 9 → Addr := fun j => He.ga K (wordsH.getD j.1 "")
theorem eis_of {i : Fin 9} {x : Str} (hx : wordsH.getD i.1 "" = x) (hm : (He.Fa.exm x "PageError" true).ok K = true) (h : (excB K (He.ga K (wordsH.getD i.1 "")) && (kitB9 K i.1 && decide (PySem.W.kitOne K (.ref (He.ga K (wordsH.getD i.1 ""))) (.type "ValueError") = some true))) = true) :
    EIs K (He.ga K "PageError") (csH K) i (He.ga K x) := by
  obtain ⟨h1, h⟩ := He.ba h
  obtain ⟨h2, h3⟩ := He.ba h
  rw [hx] at h1 h3
  refine ⟨excB_ok h1, He.exm_ok hm, fun j => ?_, of_decide_eq_true h3⟩
  have q := of_decide_eq_true (List.all_eq_true.mp h2 j.1 (List.mem_range.mpr j.2))
  rw [hx] at q
  refine q.trans (congrArg some ?_)
  by_cases e : j = i
  · subst e; simp
  · have e' : ¬ j.1 = i.1 := fun z => e (Fin.ext z)
    rw [decide_eq_false e, decide_eq_false e']
end



theorem law_at {w : World} {K : PySem.W.Frag} {mg : Str → Option Value} {h : Heap} {fa : Addr} (X : K.In h) (G : h.Ns mainGlobals mg) (hfa : mg "law" = some (.ref fa)) (c : He.SaysX faH fnH tsH tfH exH w h K) (hb : btW K = btV) :
    LawAtS PySem.Challenge.rw_slotpages_k19_steps_written_and_refused w K CX0 9 63 "_law_script" mg fa h := by
  have cd := c.t.d
  obtain ⟨d0, D0⟩ := cd.def_ 0 (d := (dG "is_number" s_is_number)) rfl
  obtain ⟨d1, D1⟩ := cd.def_ 1 (d := (dG "are_values" s_are_values)) rfl
  obtain ⟨d2, D2⟩ := cd.def_ 2 (d := (dG "text_of" s_text_of)) rfl
  obtain ⟨d3, D3⟩ := cd.def_ 3 (d := (dG "rows_of" s_rows_of)) rfl
  obtain ⟨d4, D4⟩ := cd.def_ 4 (d := (dG "number_of" s_number_of)) rfl
  obtain ⟨d5, D5⟩ := cd.def_ 5 (d := (dG "numbers_of" s_numbers_of)) rfl
  obtain ⟨d6, D6⟩ := cd.def_ 6 (d := (dG "written_steps" s_written_steps)) rfl
  obtain ⟨d7, D7⟩ := cd.def_ 7 (d := (dG "read_steps" s_read_steps)) rfl
  obtain ⟨d8, D8⟩ := cd.def_ 8 (d := (dG "_step_words" s_step_words)) rfl
  obtain ⟨d9, D9⟩ := cd.def_ 9 (d := (dG "_word_of" s_word_of)) rfl
  obtain ⟨d10, D10⟩ := cd.def_ 10 (d := (dG "_step_of" s_step_of)) rfl
  obtain ⟨d11, D11⟩ := cd.def_ 11 (d := (dG "_values_of" s_values_of)) rfl
  obtain ⟨d12, D12⟩ := cd.def_ 12 (d := (dG "_law_begun" s_begun)) rfl
  obtain ⟨d13, D13⟩ := cd.def_ 13 (d := (dG "_law_take" s_take)) rfl
  obtain ⟨d14, D14⟩ := cd.def_ 14 (d := (dG "_law_alike" s_alike)) rfl
  obtain ⟨d15, D15⟩ := cd.def_ 15 (d := (dG "_law_told" s_told)) rfl
  obtain ⟨d16, D16⟩ := cd.def_ 16 (d := (dG "_law_step" s_lstep)) rfl
  obtain ⟨d17, D17⟩ := cd.def_ 17 (d := (dG "_law_text" s_ltext)) rfl
  obtain ⟨d18, D18⟩ := cd.def_ 18 (d := (dG "_law_number" s_lnumber)) rfl
  obtain ⟨d19, D19⟩ := cd.def_ 19 (d := (dG "_law_row" s_lrow)) rfl
  obtain ⟨d20, D20⟩ := cd.def_ 20 (d := (dG "_law_spoilt" s_lspoilt)) rfl
  obtain ⟨d21, D21⟩ := cd.def_ 21 (d := (dG "law" s_law)) rfl
  have g : ∀ {x : Str}, He.Fa.glo x ∈ faH → mg x = some (.ref (He.ga K x)) := fun hx => He.glo_ok X G (cd.facts hx)
  have fr : ∀ {x : Str}, He.Fa.free x ∈ faH → mg x = none := fun hx => He.free_ok X G (cd.facts hx)
  have it : ∀ {x : Str} {i : Int}, He.Fa.int x i ∈ faH → ∃ t, mg x = some (.int i t) := fun hx => He.int_ok X G (cd.facts hx)
  have st : ∀ {x z : Str}, He.Fa.str x z ∈ faH → ∃ t, mg x = some (.str z t) := fun hx => He.str_ok X G (cd.facts hx)
  have e := hfa.symm.trans (g (x := "law") (List.mem_of_getElem? (i := 21) rfl))
  cases e
  obtain ⟨x1, x2⟩ := He.ba c.more
  obtain ⟨x2, x3⟩ := He.ba x2
  obtain ⟨x4, x3⟩ := He.ba x3
  have eiB : EIs K (He.ga K "PageError") (csH K) 4 (He.ga K "BadText") := eis_of (i := 4) rfl (cd.facts (List.mem_of_getElem? (i := 50) rfl)) x1
  obtain ⟨bxf, box, bno, biC, btI, bfd, bcc, bcda, bC, bB⟩ := btB_ok (fr (List.mem_of_getElem? (i := 44) rfl)) hb x2
  have eB : EBt K (He.ga K "PageError") (csH K) (He.ga K "BadText") := ⟨eiB, bxf, bno⟩
  have eT : tsH.map (fun t => He.dicW K (t.1 K)) = tsH.map fun t => some (He.keysIn w.params t.2) := congrArg (fun z : He.AlT => z.2) c.t
  have eD : He.dicW K (He.ga K "SHAPES") = some (He.keysIn w.params wordsS) := (List.cons.inj eT).1
  have sF : ShF K w mg (He.ga K "SHAPES") := shF_of (g (List.mem_of_getElem? (i := 32) rfl)) eD x4
  have nodup := of_decide_eq_true x3
  have n01 : (He.cT K ("are_values", none)).2 ≠ (He.cT K ("law", none)).2 := fun z => by simp [tfH, z] at nodup
  let T : List (Addr × Str) := [((He.cT K ("law", none)).2, laQ)]
  have hT0 : ∀ p ∈ T, p.1 ≠ (He.cT K ("are_values", none)).2 := fun p hp => by
    rw [List.mem_singleton.mp hp]; exact Ne.symm n01
  have huL : ∀ p ∈ T, p.1 = (He.cT K ("law", none)).2 → p.2 = laQ := fun p hp e => by
    rw [List.mem_singleton.mp hp]
  have B : Blt mg := ⟨fr (List.mem_of_getElem? (i := 33) rfl), fr (List.mem_of_getElem? (i := 34) rfl), fr (List.mem_of_getElem? (i := 35) rfl), fr (List.mem_of_getElem? (i := 36) rfl), fr (List.mem_of_getElem? (i := 37) rfl), fr (List.mem_of_getElem? (i := 38) rfl), fr (List.mem_of_getElem? (i := 39) rfl), fr (List.mem_of_getElem? (i := 40) rfl)⟩
  have Et : ETab mg (He.ga K "PageError") (csH K) := ⟨g (List.mem_of_getElem? (i := 22) rfl), g (List.mem_of_getElem? (i := 23) rfl), g (List.mem_of_getElem? (i := 24) rfl), g (List.mem_of_getElem? (i := 25) rfl), g (List.mem_of_getElem? (i := 26) rfl), g (List.mem_of_getElem? (i := 27) rfl), g (List.mem_of_getElem? (i := 28) rfl), g (List.mem_of_getElem? (i := 29) rfl), g (List.mem_of_getElem? (i := 30) rfl), g (List.mem_of_getElem? (i := 31) rfl)⟩
  refine ⟨d21, tfH.map (He.cT K), spLaw K T (He.cT K ("are_values", none)).2, ?_, ?_, ?_, ?_, ?_, ?_⟩
  · intro p hp
    obtain ⟨q, hq, e⟩ := List.mem_map.mp hp
    rw [← e]; exact c.empty q hq
  · intro p hp
    obtain ⟨q, hq, e⟩ := List.mem_map.mp hp
    rw [← e]; exact c.out q hq
  · intro p hp
    obtain ⟨q, hq, e⟩ := List.mem_map.mp hp
    rw [← e]; exact PySem.W.codeHd_of_K X (c.hd q hq)
  · exact fun s v => FunD.bindsA (ps := ["_law_script"]) D21 (fun _ _ _ _ _ _ us hl => match us, hl with | [_], _ => rfl) s [v] rfl
  · intro H a ns hl _ hH hS
    have tb : ∀ q ∈ tfH, H (He.cT K q).2 = some (.tbl #[]) := fun q hq => hH _ (List.mem_map.mpr ⟨q, hq, rfl⟩)
    refine ⟨a, ns, rfl, hS, hl, fun p hp => ?_, ⟨#[], tb _ (by simp [tfH]), True.intro⟩, fun _ => rfl⟩
    rw [List.mem_singleton.mp hp]; exact ⟨#[], tb _ (by simp [tfH]), True.intro, fun pos cv hc => by cases hc⟩
  · intro base KB GB hTB
    have TB : ∀ {q}, q ∈ tfH → LamX.TabB base mg (He.codeOf K q) (He.cT K q).2 := fun {q} hq => hTB _ (List.mem_map.mpr ⟨q, hq, rfl⟩)
    have cNum : Cal LP w K mg base CX0 "is_number" ["thing", "low", "high"] 1 (spNum K) := ⟨_, d0, ok_is_number (fun_of D0) B, g (List.mem_of_getElem? (i := 0) rfl), D0.kp, D0.bindsN fun _ _ _ _ _ _ us hl => match us, hl with | [_, _, _], _ => rfl⟩
    have cVals : Cal LP w K mg base CX0 "are_values" ["things"] 3 (spVals K T (He.cT K ("are_values", none)).2) := ⟨_, d1, ok_are_values (func_of (p := ("are_values", none)) D1) (TB (q := ("are_values", none)) (by simp [tfH])) hT0 B (it (List.mem_of_getElem? (i := 47) rfl)) cNum, g (List.mem_of_getElem? (i := 1) rfl), D1.kp, D1.bindsN fun _ _ _ _ _ _ us hl => match us, hl with | [_], _ => rfl⟩
    have cTx : Cal LP w K mg base CX0 "text_of" ["rows"] 1 (spTextOf K T) := ⟨_, d2, ok_text_of (fun_of D2), g (List.mem_of_getElem? (i := 2) rfl), D2.kp, D2.bindsN fun _ _ _ _ _ _ us hl => match us, hl with | [_], _ => rfl⟩
    have cRows : Cal LP w K mg base CX0 "rows_of" ["text"] 1 (spRows K T) := ⟨_, d3, ok_rows_of (fun_of D3), g (List.mem_of_getElem? (i := 3) rfl), D3.kp, D3.bindsN fun _ _ _ _ _ _ us hl => match us, hl with | [_], _ => rfl⟩
    have cNumOf : Cal LP w K mg base CX0 "number_of" ["word"] 1 (spNumOf) := ⟨_, d4, ok_number_of (fun_of D4) B (fr (List.mem_of_getElem? (i := 41) rfl)) (it (List.mem_of_getElem? (i := 48) rfl)), g (List.mem_of_getElem? (i := 4) rfl), D4.kp, D4.bindsN fun _ _ _ _ _ _ us hl => match us, hl with | [_], _ => rfl⟩
    have cNums : Cal LP w K mg base CX0 "numbers_of" ["words"] 2 (spNumsOf K T) := ⟨_, d5, ok_numbers_of (fun_of D5) B cNumOf, g (List.mem_of_getElem? (i := 5) rfl), D5.kp, D5.bindsN fun _ _ _ _ _ _ us hl => match us, hl with | [_], _ => rfl⟩
    have cWord : Cal LP w K mg base CX0 "_word_of" ["thing"] 1 (spWordOf K T) := ⟨_, d9, ok_word_of (fun_of D9) B (fr (List.mem_of_getElem? (i := 41) rfl)) (st (List.mem_of_getElem? (i := 49) rfl)), g (List.mem_of_getElem? (i := 9) rfl), D9.kp, D9.bindsN fun _ _ _ _ _ _ us hl => match us, hl with | [_], _ => rfl⟩
    have cSW : Cal LP w K mg base CX0 "_step_words" ["step"] 2 (spStepWords K T) := ⟨_, d8, ok_step_words (fun_of D8) cWord, g (List.mem_of_getElem? (i := 8) rfl), D8.kp, D8.bindsN fun _ _ _ _ _ _ us hl => match us, hl with | [_], _ => rfl⟩
    have cWr : Cal LP w K mg base CX0 "written_steps" ["steps"] 3 (spWritten K T) := ⟨_, d6, ok_written_steps (fun_of D6) cSW cTx, g (List.mem_of_getElem? (i := 6) rfl), D6.kp, D6.bindsN fun _ _ _ _ _ _ us hl => match us, hl with | [_], _ => rfl⟩
    have cVO : Cal LP w K mg base CX0 "_values_of" ["word"] 4 (spValsOf K T (He.cT K ("are_values", none)).2) := ⟨_, d11, ok_values_of (fun_of D11) B (st (List.mem_of_getElem? (i := 49) rfl)) (it (List.mem_of_getElem? (i := 46) rfl)) cNums cVals, g (List.mem_of_getElem? (i := 11) rfl), D11.kp, D11.bindsN fun _ _ _ _ _ _ us hl => match us, hl with | [_], _ => rfl⟩
    have cSO : Cal LP w K mg base CX0 "_step_of" ["row"] 5 (spStepOf K T (He.cT K ("are_values", none)).2) := ⟨_, d10, ok_step_of (fun_of D10) B (fr (List.mem_of_getElem? (i := 45) rfl)) sF cNumOf cVO, g (List.mem_of_getElem? (i := 10) rfl), D10.kp, D10.bindsN fun _ _ _ _ _ _ us hl => match us, hl with | [_], _ => rfl⟩
    have U : BtF LP w K mg base (He.ga K "BadText") (He.fAd K btP) bfd := ⟨g (List.mem_of_getElem? (i := 27) rfl), box, biC, btI, ok_btinit bC, bB⟩
    have cRead : Cal LP w K mg base (L2.CX _ w) "read_steps" ["text"] 6 (spReadS K T (He.cT K ("are_values", none)).2 (He.ga K "BadText")) := ⟨_, d7, ok_read_steps (fun_of D7) (fr (List.mem_of_getElem? (i := 42) rfl)) U cRows cSO, g (List.mem_of_getElem? (i := 7) rfl), D7.kp, D7.bindsN fun _ _ _ _ _ _ us hl => match us, hl with | [_], _ => rfl⟩
    have cBegun : Cal LP w K mg base CX0 "_law_begun" ["_law_script"] 1 (spBegun K T) := ⟨_, d12, ok_begun (fun_of D12) B, g (List.mem_of_getElem? (i := 12) rfl), D12.kp, D12.bindsN fun _ _ _ _ _ _ us hl => match us, hl with | [_], _ => rfl⟩
    have cTake : Cal LP w K mg base CX0 "_law_take" ["_law_box", "_law_many"] 1 (spTake T) := ⟨_, d13, ok_take (fun_of D13), g (List.mem_of_getElem? (i := 13) rfl), D13.kp, D13.bindsN fun _ _ _ _ _ _ us hl => match us, hl with | [_, _], _ => rfl⟩
    have bAl : Binds K d14 ["_law_found", "_law_due"] [] := D14.bindsN fun _ _ _ _ _ _ us hl => match us, hl with | [_, _], _ => rfl
    have cAl : ∀ n, Cal LP w K mg base CX0 "_law_alike" ["_law_found", "_law_due"] n (spAl K n) := fun n => ⟨_, d14, ok_alike (fun_of D14) B (fr (List.mem_of_getElem? (i := 41) rfl)) (g (List.mem_of_getElem? (i := 14) rfl)) bAl n, g (List.mem_of_getElem? (i := 14) rfl), D14.kp, bAl⟩
    have cTold : Cal LP w K mg base CX0 "_law_told" ["_law_work"] 8 (spToldB _ w K mg base T (He.ga K "PageError") (csH K) 7) := ⟨_, d15, ok_toldB (fun_of D15) B (fr (List.mem_of_getElem? (i := 43) rfl)) Et, g (List.mem_of_getElem? (i := 15) rfl), D15.kp, D15.bindsN fun _ _ _ _ _ _ us hl => match us, hl with | [_], _ => rfl⟩
    have cLStep : Cal LP w K mg base CX0 "_law_step" ["_law_box"] 2 (spStep K T) := ⟨_, d16, ok_lstep (fun_of D16) B cTake, g (List.mem_of_getElem? (i := 16) rfl), D16.kp, D16.bindsN fun _ _ _ _ _ _ us hl => match us, hl with | [_], _ => rfl⟩
    have cLText : Cal LP w K mg base CX0 "_law_text" ["_law_steps"] 1 (spLText K T) := ⟨_, d17, ok_ltext (fun_of D17) B (fr (List.mem_of_getElem? (i := 41) rfl)), g (List.mem_of_getElem? (i := 17) rfl), D17.kp, D17.bindsN fun _ _ _ _ _ _ us hl => match us, hl with | [_], _ => rfl⟩
    have cLN : Cal LP w K mg base CX0 "_law_number" ["_law_word", "_law_most"] 1 (spLNum T) := ⟨_, d18, ok_lnumber (fun_of D18) B (fr (List.mem_of_getElem? (i := 41) rfl)), g (List.mem_of_getElem? (i := 18) rfl), D18.kp, D18.bindsN fun _ _ _ _ _ _ us hl => match us, hl with | [_, _], _ => rfl⟩
    have cLR : Cal LP w K mg base CX0 "_law_row" ["_law_row_here"] 2 (spLRow K T) := ⟨_, d19, ok_lrow (fun_of D19) B (fr (List.mem_of_getElem? (i := 45) rfl)) cLN, g (List.mem_of_getElem? (i := 19) rfl), D19.kp, D19.bindsN fun _ _ _ _ _ _ us hl => match us, hl with | [_], _ => rfl⟩
    have cSp : Cal LP w K mg base CX0 "_law_spoilt" ["_law_box", "_law_text_here"] 2 (spSpoilt T) := ⟨_, d20, ok_lspoilt (fun_of D20) B cTake, g (List.mem_of_getElem? (i := 20) rfl), D20.kp, D20.bindsN fun _ _ _ _ _ _ us hl => match us, hl with | [_, _], _ => rfl⟩
    exact ok_law (func_of (p := ("law", none)) D21) (TB (q := ("law", none)) (by simp [tfH])) (by simp [T]) huL B eB cBegun cTake cLStep cLText cWr cSp cLR (cAl 6) cTold cRead
end GX
open PySem PySem.W PySem.Calls PyProof.Rows
set_option maxRecDepth 100000
set_option maxHeartbeats 0 in
theorem PySem.Challenge.cw_slotpages_k19_steps_written_and_refused_holds : PySem.Challenge.rw_slotpages_k19_steps_written_and_refused.Holds := by
  w_on; o_law
  refine HandSHeadRun.head_any (r := OpenLaw.row PySem.Challenge.rw_slotpages_k19_steps_written_and_refused) (q := view (OpenLaw.row PySem.Challenge.rw_slotpages_k19_steps_written_and_refused).prog [42]) (H := GX.hkH) (ob := GX.obH) (M := 60000) (loose := GX.looseH) (d := HandSHeadRun.topDef (OpenLaw.row PySem.Challenge.rw_slotpages_k19_steps_written_and_refused).prog 42) (kwd := []) GX.obH_eq
    (by kernel_rfl) (fun s => by kernel_rfl) GX.runH (by kernel_rfl) (by kernel_rfl) (by kernel_rfl) (by rfl) (by first | assumption | decide +kernel) (by decide +kernel) ⟨rfl, rfl, rfl, rfl, rfl, by decide +kernel⟩ ?hw ?hc
  case hw => w_witness2
  case hc =>
    refine LamX.walk_ofTsE (l := PySem.Challenge.rw_slotpages_k19_steps_written_and_refused) (n := 63) (k := 9) (x := "_law_script") (CX := fun _ => L2.CX0) rfl (by decide) (by kernel_rfl) ⟨rfl, by decide, by decide⟩ ?F (fun _ _ _ _ _ z => z)
    intro w mg fa h Y G hmg0
    obtain ⟨K, KX, c, hb⟩ := Y
    have hmg : mg ("law" : PySem.Str) = some (.ref fa) := by
      have e : (HandSHeadRun.topDef (OpenLaw.row PySem.Challenge.rw_slotpages_k19_steps_written_and_refused).prog 42).name = ("law" : PySem.Str) := by kernel_rfl
      rw [← e]
      exact hmg0
    exact ⟨K, KX, GX.law_at KX G hmg c hb⟩

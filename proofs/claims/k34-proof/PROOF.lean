import PyProof.Rows.All
import Wide.All
import OpenK.AllK
import Wide.FinOn
import HandS.ForMost
import HandS.Wide
import HandS.Gcd
import HandS.IsInst
import HandS.Conv
import HandS.TupAny
import HandS.TupMul
import HandS.Zip
import HandS.Walk
import HandS.Evl
import HandS.DictComp
import HandS.DictTup
import HandS.SortInts
import HandS.EndTab
import HandS.AnyAll
import KE.SortData
import KE.GoesEnum
import HandS.NamedTupSort
import PyProof.GenCompD
import HandS.WideBits
import HandS.RaiseMore
import KE.DataMinMax
import KE.GoesNew
import HandS.Style
import PyProof.ReprRoads
import PyProof.Rows.StrOr
import HandS.TupSets
import HandS.MapObj
import PyProof.TupleOfGen
import KE.KDictItemsList
import HandS.Rev
import HandS.TupLen
import HandS.Iter
import KE.DataMinKey
import HandS.SortKw
import HandS.ExcOwn
import HandS.TryOnly
import HandS.ExcIs
import HandS.WordsExc
import KE.KExcSuper
import HandS.HeadWalk
import KE.KExcIs
import KE.KIsAll
import PySem.Challenge.RW_stagecuts_k34_whole_merged_stage_by_stag
import HandS.Flt
import KE.RegKIsAll
set_option Elab.async false
set_option linter.all false
set_option maxRecDepth 100000
set_option maxHeartbeats 4000000
namespace SC
open PySem PySem.Spec PyProof.Rows L2

/-! ## heaps -/
/-- the heap without the addresses of D -/
def hid (D : List Addr) (H : Hp) : Hp := fun a => if a ∈ D then none else H a
theorem hid_in {D : List Addr} {H : Hp} {a : Addr} (h : a ∈ D) : hid D H a = none := if_pos h
theorem hid_out {D : List Addr} {H : Hp} {a : Addr} (h : a ∉ D) : hid D H a = H a := if_neg h
theorem hid_same {D : List Addr} {H : Hp} : Same (hid D H) H := fun a o e => by
  by_cases h : a ∈ D
  · rw [hid_in h] at e; cases e
  · rw [hid_out h] at e; exact e
theorem hid_nil {H : Hp} : hid [] H = H := by
  funext a
  exact hid_out (by simp)
theorem same_hid {D : List Addr} {H H' : Hp} (s : Same H H') : Same (hid D H) (hid D H') := fun a o e => by
  by_cases h : a ∈ D
  · rw [hid_in h] at e; cases e
  · rw [hid_out h] at e ⊢; exact s a o e
theorem hid_upd {D : List Addr} {H : Hp} {a : Addr} {o : HO} (h : a ∈ D) : hid D (upd H a o) = hid D H := by
  funext b
  by_cases hb : b ∈ D
  · rw [hid_in hb, hid_in hb]
  · rw [hid_out hb, hid_out hb, upd_ne (fun e => hb (by rw [e]; exact h))]
theorem same_new {H : Hp} {p : Addr} {o : HO} (h : H p = none) : Same H (upd H p o) := fun b x e => by
  rw [upd_ne (ne_of_none e h)]
  exact e
theorem hid_mono {D D' : List Addr} {H : Hp} (h : ∀ a ∈ D, a ∈ D') : Same (hid D' H) (hid D H) := fun a o e => by
  by_cases ha : a ∈ D'
  · rw [hid_in ha] at e; cases e
  · rw [hid_out ha] at e
    rw [hid_out (fun z => ha (h a z))]
    exact e
/-- what is written stands outside of what was known -/
theorem same_mut {H H' : Hp} {p : Addr} {o : HO} (s : Same H H') (h : H p = none) : Same H (upd H' p o) := fun b x e => by
  rw [upd_ne (ne_of_none e h)]
  exact s b x e
theorem none_back {H H' : Hp} {p : Addr} (s : Same H H') (h : H' p = none) : H p = none := s.free h
theorem same_t {K : PySem.W.Frag} {H H' : Hp} {a : Addr} {xs : List V} (s : Same H H') (h : SqT K H a xs) : SqT K H' a xs := by
  rcases h with (h | ⟨o, h⟩) | h
  · exact .inl (.inl (s _ _ h))
  · exact .inl (.inr ⟨o, s _ _ h⟩)
  · exact .inr h
section
variable {K : PySem.W.Frag} {H H' : Hp}
mutual
theorem dp_same (s : Same H H') : ∀ {v : V} {d : PyData}, Dp K H v d → Dp K H' v d
  | _, _, .non => .non
  | _, _, .bl b => .bl b
  | _, _, .int i => .int i
  | _, _, .str x => .str x
  | _, _, .lst h1 h2 => .lst (s.seq h1) (dps_same s h2)
  | _, _, .tup h1 h2 => .tup (same_t s h1) (dps_same s h2)
theorem dps_same (s : Same H H') : ∀ {vs : List V} {ds : List PyData}, DpAll K H vs ds → DpAll K H' vs ds
  | _, _, .nil => .nil
  | _, _, .cons h1 h2 => .cons (dp_same s h1) (dps_same s h2)
end
theorem dps_len : ∀ {vs : List V} {ds : List PyData}, DpAll K H vs ds → vs.length = ds.length
  | _, _, .nil => rfl
  | _, _, .cons _ h => congrArg (· + 1) (dps_len h)
theorem dps_get : ∀ {vs : List V} {ds : List PyData} {i : Nat} {v : V}, DpAll K H vs ds → vs[i]? = some v → ∃ d, ds[i]? = some d ∧ Dp K H v d
  | _, _, i, _, .nil, e => by simp at e
  | _, _, 0, v, .cons h _, e => by
    simp at e; subst e
    exact ⟨_, rfl, h⟩
  | _, _, i + 1, v, .cons _ h, e => by
    obtain ⟨d, h1, h2⟩ := dps_get (i := i) h (by simpa using e)
    exact ⟨d, by simpa using h1, h2⟩
theorem dps_app : ∀ {vs ws : List V} {ds es : List PyData}, DpAll K H vs ds → DpAll K H ws es → DpAll K H (vs ++ ws) (ds ++ es)
  | _, _, _, _, .nil, h => h
  | _, _, _, _, .cons h1 h2, h => .cons h1 (dps_app h2 h)
theorem dps_map {α : Type} {f : α → V} {g : α → PyData} : ∀ {l : List α}, (∀ x ∈ l, Dp K H (f x) (g x)) → DpAll K H (l.map f) (l.map g)
  | [], _ => .nil
  | x :: l, h => .cons (h x (List.mem_cons_self ..)) (dps_map fun y hy => h y (List.mem_cons_of_mem _ hy))
end

/-! ## defs that run where no display is under way -/
structure FnG (P : Program) (w : World) (K : PySem.W.Frag) (mg : Str → Option Value) (base : Heap) (k : Nat) (f : Addr) (fd : FuncData) (ps : List Str) (sp : Sp) : Prop where
  len : ∀ vs H Q E, sp vs H Q E → vs.length = ps.length
  run : ∀ (A : Around) (outer : List Env) (s : Shared) (H : Hp) (args : Args) (us : List Value) (vs : List V) (Q : VK),
    A.guards = some [] → Room k A → Env0 P w K mg base A outer s H → BindsTo s fd args (ps.zip us) → Vals vs us → sp vs H Q E0 →
    codeAny (model P w) A (.call (.ref f) args)
      (CR CX0 outer P w H s Q E0) s
theorem FnG.of_ok {P : Program} {w : World} {K : PySem.W.Frag} {mg : Str → Option Value} {base : Heap} {k : Nat} {f : Addr} {fd : FuncData} {ps : List Str} {sp : Sp}
    (F : FnOk P w K mg base CX0 k f fd ps sp) : FnG P w K mg base k f fd ps sp :=
  ⟨F.len, fun A outer s H args us vs Q _ hr he hb hv hs => F.run A outer s H args us vs Q E0 hr he hb hv hs⟩

/-- the rule for such a def -/
theorem FnG.mk' {P : Program} {w : World} {K : PySem.W.Frag} {mg : Str → Option Value} {base : Heap} {x qual : Str} {st : Stmt} {f : Addr} {fd : FuncData} {N ps : List Str} {k : Nat} {sp : Sp}
    (F : Fun K x qual st f fd) (S : FnScope N ps (defScope st)) (len : ∀ vs H Q E, sp vs H Q E → vs.length = ps.length)
    (hbody : ∀ (cdv : Value) (A : Around) (outer : List Env) (s : Shared) (H : Hp) (vs : List V) (Q : VK), A.guards = some [] →
      Room k (A.deeper (envOfC qual (defScope st) s.heap.objs.size f cdv)) → sp vs H Q E0 →
      ∃ t, PSs (cxOf CX0 P w K mg base N qual (defScope st) f cdv A outer s H E0).nox (defBody st) t ∧
        t { nx := fun _ H' => Q .non H', rt := Q } (start N vs) H) :
    FnG P w K mg base (k + 1) f fd ps sp := by
  obtain ⟨oc, od, kV, doc, pm, an, cdv, ct, osl, rfl, lk, hcd⟩ := F.ex
  refine ⟨len, fun A outer s H args us vs Q hg hr e0 hb r hsp => ?_⟩
  have hl := len _ _ _ _ hsp
  have KX : K.In s.heap := e0.mod.kin.keeps fun b o e => (e0.bs b o e).1
  have lim : s.heap.NoLimit := e0.mod.nolimit.keeps fun b o e => (e0.bs b o e).1
  refine codeAny_call_function hr.depth (KX _ _ lk) rfl S.co S.gen rfl (PySem.W.codeRec_of KX hcd) (hb _ _ _ _ ?_)
  refine wpAny_newFunctionEnv_cells S.kind (fun y hy => ?_) fun env he s1 z => ?_
  · rcases S.par y.1 (List.of_mem_zip hy).1 with q | q
    · exact .inl q
    · exact .inr ⟨q, PySem.W.cellsFrom_some _ _ _ (.inl q)⟩
  subst he
  refine ⟨lim.keeps z.toInCall.keep, codeAny_func ?_⟩
  obtain ⟨t, ht, hq⟩ := hbody cdv A outer s H vs Q hg (hr.deeper _) hsp
  have I := inv_start (CX := CX0) (E := E0) S hr.hd e0 hl r z
  refine wpAny_mono (ht.nox.run [] s1 (start N vs) H _ I hq) (fun fl s' hs => ?_) fun e s' hs => hs
  cases fl with
  | ret u =>
    obtain ⟨v, σ', H', J, rv, q⟩ := hs
    exact ⟨v, H', J.os, J.bare, J.base, J.hok, rv, q⟩
  | next =>
    obtain ⟨σ', H', J, q⟩ := hs
    exact ⟨V.non, H', J.os, J.bare, J.base, J.hok, rfl, q⟩
  | brk => exact hs.elim fun _ h => h.elim fun _ h => False.elim h.2
  | cont => exact hs.elim fun _ h => h.elim fun _ h => False.elim h.2

section
variable {X : Cx} {k : Nat} {f : Addr} {fd : FuncData} {ps ks : List Str} {sp : Sp} {dvs : List V} {ds : List Value} {x : Str} {p pos : Pos} {e : Expr} {es : List Expr} {t tk : TA} {kws : List Keyword}
  {g : List Value → List Value → List Value} {gV : List V → List V → List V}
/-- it comes back with a value -/
def RetP (Q : Value → Shared → Prop) (r : Result) (s' : Shared) : Prop := match r with
  | .ok (.ret u) => Q u s'
  | _ => False
theorem after_run {pins : List (Addr × Obj)} {σ : L2.St} {H : Hp} {s s' : Shared} {Q : VK} {r : Result} (I : Inv X pins σ H s) (h : CR CX0 X.stack X.prog X.w H s Q E0 r s') : RetP (EP X pins σ Q) r s' := by
  cases r with
  | error e => exact h
  | ok fl => cases fl with
    | ret u => exact I.after h
    | next => exact h
    | brk => exact h
    | cont => exact h
theorem run_g {pins : List (Addr × Obj)} {σ : L2.St} {H : Hp} {s : Shared} {Q : VK} {us : List Value} {vs : List V} {args : Args} (F : FnG X.prog X.w X.K X.mg X.base k f fd ps sp) (hg : X.A.guards = some []) (hr : Room k X.A)
    (I : Inv X pins σ H s) (hb : BindsTo s fd args (ps.zip us)) (r : Vals vs us) (h : sp vs H Q E0) :
    codeAny (model X.prog X.w) X.A (.call (.ref f) args) (RetP (EP X pins σ Q)) s :=
  codeAny_mono (F.run X.A X.stack s H args us vs Q hg hr I.env0 hb r h) fun _ _ hq => after_run I hq
theorem pe_callG (F : FnG X.prog X.w X.K X.mg X.base k f fd ps sp) (hgd : X.A.guards = some []) (hr : Room k X.A) (hg : Gl X x) (hm : X.mg x = some (.ref f)) (hk : PySem.W.keepIn X.K (.ref f) = true)
    (hb : Binds X.K fd ps ds) (hd : Vals dvs ds) (ha : PA X (e :: es) t) (hdb : (x == ("__debug__" : Str)) = false := by decide)
    (he : starEach (e :: es) X.env = (false, eval e X.env) :: starEach es X.env := by rfl)
    (hpl : (backTo pos (starEach es X.env)).any (·.1) = false := by rfl) :
    PE X (.Call (.Name x p) (e :: es) [] pos) (tCall sp dvs E0 t) := by
  refine ⟨fun pins s σ H Q I h => wpAny_Call_Name_kw (ld_glob I hg hm ?_ hdb)⟩
  refine PySem.W.callWith_K (h₀ := X.base) I.ok.mod.kin hk (thn (ha.run pos pins s σ H _ I h) fun us s1 ⟨vs, H1, I1, r, q⟩ => ⟨I1.kIn, ?_⟩) he hpl
  have r2 : Vals (vs ++ dvs) (us ++ ds) := r.append hd
  have hl : (us ++ ds).length = ps.length := by
    rw [← r2.length]
    exact F.len _ _ _ _ q
  refine wpAny_call (codeAny_mono (run_g F hgd hr I1 (hb s1 us I1.kIn hl) r2 q) fun R s' hq => ?_)
  cases R with
  | error e => exact False.elim hq
  | ok fl => cases fl with
    | ret u => exact hq
    | next => exact False.elim hq
    | brk => exact False.elim hq
    | cont => exact False.elim hq
/-- f(k = v, ..): keywords alone -/
theorem pe_kw (F : FnOk X.prog X.w X.K X.mg X.base CX0 k f fd ps sp) (hr : Room k X.A) (hg : Gl X x) (hm : X.mg x = some (.ref f)) (hk : PySem.W.keepIn X.K (.ref f) = true)
    (hb : KBinds X.K fd ps ks g gV) (hkw : PK X kws tk)
    (hall : (backToKw pos (keywordEach kws X.env)).all (·.1.isSome) = true := by rfl)
    (hks : (backToKw pos (keywordEach kws X.env)).filterMap (·.1) = ks := by rfl)
    (hdb : (x == ("__debug__" : Str)) = false := by decide)
    (hpl : (backToKw pos (keywordEach kws X.env)).any (·.1.isNone) = false := by rfl) :
    PE X (.Call (.Name x p) [] kws pos) (tCallK sp gV E0 tNil tk) := by
  refine ⟨fun pins s σ H Q I h => wpAny_Call_Name_kw (ld_glob I hg hm ?_ hdb)⟩
  refine PySem.W.callWith_KW0 (h₀ := X.base) I.ok.mod.kin hk hall ?_ hpl
  refine thn (hkw.run pos pins s σ H _ I h) fun ws s2 ⟨zs, H2, I2, rz, q2⟩ => ⟨I2.kIn, ?_⟩
  rw [hks]
  exact run_fnk F hr hb pass0 I2 .nil rz q2
end
end SC
namespace SC
open PySem PySem.Spec PyProof.Rows L2 StrLaws

/-! ## how long a text is, how deep a datum -/
mutual
def nd : PyData → Nat
  | .none => 1
  | .bool _ => 1
  | .int _ => 1
  | .str x => 1 + x.cps.size
  | .list xs => 1 + ndAll xs
  | .tuple xs => 1 + ndAll xs
  | .dict _ => 1
def ndAll : List PyData → Nat
  | [] => 0
  | x :: xs => nd x + ndAll xs
end
mutual
/-- no dict, ints below 10 ^ 62, signs of texts below 16 ^ 8 -/
def okD : PyData → Bool
  | .none => true
  | .bool _ => true
  | .int i => decide (i.natAbs < 10 ^ 62)
  | .str x => x.cps.toList.all fun c => decide (c < 16 ^ 8)
  | .list xs => okAll xs
  | .tuple xs => okAll xs
  | .dict _ => false
def okAll : List PyData → Bool
  | [] => true
  | x :: xs => okD x && okAll xs
end
theorem log_small {m : Nat} (h : m < 10 ^ 62) : m.log2 < 1920 := log2_small (Nat.lt_trans h (by decide +kernel))
mutual
theorem ok_facts : ∀ d : PyData, okD d = true → d.shown.length + 5 ≤ 72 * nd d ∧ d.showable = true ∧ d.hasDict = false
  | .none, _ => by
    refine ⟨?_, by simp only [PyData.showable], by simp only [PyData.hasDict]⟩
    have e : (PyData.shown .none).length = 4 := rfl
    simp only [nd]; omega
  | .bool b, _ => by
    refine ⟨?_, by simp only [PyData.showable], by simp only [PyData.hasDict]⟩
    have e : (PyData.shown (.bool b)).length ≤ 5 := by cases b <;> decide
    simp only [nd]; omega
  | .int i, h => by
    have h1 : i.natAbs < 10 ^ 62 := by simpa only [okD, decide_eq_true_eq] using h
    refine ⟨?_, by simp only [PyData.showable, decide_eq_true_eq]; exact log_small h1, by simp only [PyData.hasDict]⟩
    have e := int_text_length_le10 (k := 62) (by decide) h1
    have e2 : (PyData.shown (.int i)).length ≤ 63 := by
      show (Str.ofString (toString i)).length ≤ 63
      rw [PySem.ofString_length]
      exact e
    simp only [nd]; omega
  | .str x, h => by
    have hx : ∀ c ∈ x.cps.toList, c < 16 ^ 8 := by simpa only [okD, List.all_eq_true, decide_eq_true_eq] using h
    have e := reprText_len x hx
    have e2 : x.length = x.cps.size := rfl
    refine ⟨?_, by simp only [PyData.showable], by simp only [PyData.hasDict]⟩
    simp only [PyData.shown, nd]
    omega
  | .list xs, h => by
    have h1 := ok_factsA xs (by simpa only [okD] using h)
    have h2 := listText_len_le (PyData.shownAll xs)
    have h3 := PyData.shownAll_length xs
    refine ⟨?_, by simp only [PyData.showable]; exact h1.2.1, by simp only [PyData.hasDict]; exact h1.2.2⟩
    simp only [PyData.shown, nd]
    omega
  | .tuple xs, h => by
    have h1 := ok_factsA xs (by simpa only [okD] using h)
    have h2 := tupleText_len_le (PyData.shownAll xs)
    have h3 := PyData.shownAll_length xs
    refine ⟨?_, by simp only [PyData.showable]; exact h1.2.1, by simp only [PyData.hasDict]; exact h1.2.2⟩
    simp only [PyData.shown, nd]
    omega
  | .dict kvs, h => by simp only [okD] at h; cases h
theorem ok_factsA : ∀ xs : List PyData, okAll xs = true → ((PyData.shownAll xs).map (·.length)).sum + 5 * xs.length ≤ 72 * ndAll xs ∧ PyData.showableAll xs = true ∧ PyData.hasDictAll xs = false
  | [], _ => ⟨by simp only [PyData.shownAll, ndAll, List.map_nil, List.sum_nil, List.length_nil]; omega, by simp only [PyData.showableAll], by simp only [PyData.hasDictAll]⟩
  | x :: xs, h => by
    have h' : okD x = true ∧ okAll xs = true := by simpa only [okAll, Bool.and_eq_true] using h
    have h1 := ok_facts x h'.1
    have h2 := ok_factsA xs h'.2
    refine ⟨?_, by simp only [PyData.showableAll, h1.2.1, h2.2.1, Bool.and_self], by simp only [PyData.hasDictAll, h1.2.2, h2.2.2, Bool.or_self]⟩
    simp only [PyData.shownAll, ndAll, List.map_cons, List.sum_cons, List.length_cons]
    omega
end
/-- a datum that repr shows -/
structure Shows (d : PyData) : Prop where
  ok : okD d = true
  many : nd d ≤ 200000
  deep : d.depth ≤ 60

section
variable {X : Cx}
/-- repr of a list, a tuple -/
def rRepr (K : PySem.W.Frag) : List V → Hp → VK → Prop := fun xs H Q => ∃ (a : Addr) (d : PyData), xs = [.ref a] ∧ Dp K H (.ref a) d ∧ Shows d ∧ Q (.str d.shown) H
theorem call_repr (hgd : X.A.guards = some []) (hu : X.A.units + 70 < cLine) : CallR X (.builtin "repr") (rRepr X.K) := by
  intro pins s σ H xs us Q I r h
  obtain ⟨a, d, rfl, hd, hs, q⟩ := h
  obtain ⟨u, rfl, rx⟩ := vals1 r
  cases rx
  obtain ⟨as, rd⟩ := Dp.reads I d _ _ hd rfl
  obtain ⟨f1, f2, f3⟩ := ok_facts d hs.ok
  have hm := hs.many
  have hp := hs.deep
  refine repr_of_reads' rd f2 (PyData.noDict_hsm f3) hgd (by omega) (fun _ _ e => e) (fun h' u tk hk => ?_) (by rw [sizeLine_eq]; omega)
  exact ⟨.str _, H, I.kept (t' := tk) hk, ⟨_, rfl⟩, q⟩
end

/-! ## enumerate(t), t a tuple -/
set_option maxHeartbeats 1000000 in
theorem meets_enum1 {v : Value} {o : Obj} {G : Heap → Prop} (B : Begins v o G) :
    Meets (Builtin.«enumerate.__new__» ⟨[.type "enumerate", v], []⟩) (fun _ R s => G s.heap ∧
      R (.ok (.ret (.ref (s.heap.push o).objs.size)))
        { s with heap := (s.heap.push o).push { cls := .type "enumerate", data := .fields #[.none, .bool false, .ref s.heap.objs.size, rawInt 0, .none, .none] } }) :=
  .of_wp fun prog w A R s h => by
    obtain ⟨hp, g, d, tk, os⟩ := s; obtain ⟨h1, h2⟩ := h
    have hsub := sub_enumerate
    have q1 : ∀ {A' : Around} {E Q : Value → Shared → Prop}, Q (.ref hp.objs.size) ⟨hp.push o, g, d, tk, os⟩ → wpAny (model prog w) A' (pyIter v) Q E ⟨hp, g, d, tk, os⟩ :=
      fun z => B.iter prog w _ _ ⟨hp, g, d, tk, os⟩ _ h1 z
    wp_walk using q1
    refine wpAny_stack_any fun st => wpAny_pure ?_
    split
    · rename_i c _ _ _ _ _
      cases (c == Value.type "enumerate") <;> (wp_walk using q1; exact ⟨_, rfl, h2⟩)
    · wp_walk using q1
      exact ⟨_, rfl, h2⟩
theorem enum_one {prog : Program} {w : World} {A : Around} {E : Value → Shared → Prop} {s : Shared} {v : Value} {o : Obj} {G : Heap → Prop} {Q : Value → Shared → Prop} (B : Begins v o G) (h1 : G s.heap)
    (h : ∀ h', IsEnum h' (s.heap.objs.size + 1) s.heap.objs.size 0 .none → h'.get? s.heap.objs.size = some o → h'.objs.size = s.heap.objs.size + 2 →
      (∀ b u, s.heap.get? b = some u → h'.get? b = some u) → Q (.ref (s.heap.objs.size + 1)) { s with heap := h' }) :
    wpAny (model prog w) A (call (.type "enumerate") [v]) Q E s := by
  refine callType_new F.called_enumerate (by decide) (F.typeCall_enumerate_1 _) (F.newCall_enumerate_1 _) (fun obj => F.args_object_init_2 obj _) F.entry_enumerate_new (meets_enum1 B) ⟨h1, ?_⟩
  have hz : (s.heap.push o).objs.size = s.heap.objs.size + 1 := Heap.size_push ..
  show _ ∧ _
  rw [hz]
  have he : IsEnum ((s.heap.push o).push { cls := .type "enumerate", data := .fields #[.none, .bool false, .ref s.heap.objs.size, rawInt 0, .none, .none] }) (s.heap.objs.size + 1) s.heap.objs.size 0 .none := by
    have z := Heap.get?_push_size (s.heap.push o) (o := { cls := .type "enumerate", data := .fields #[.none, .bool false, .ref s.heap.objs.size, rawInt 0, .none, .none] }) rfl
    rw [hz] at z
    exact z
  refine ⟨⟨_, he, rfl⟩, h _ he ?_ (by rw [Heap.size_push, hz]) fun b u x => Heap.get?_push_of_some _ (Heap.get?_push_of_some _ x)⟩
  exact Heap.get?_push_of_some _ (Heap.get?_push_size _ B.free)

/-- the tuple at a, each item with its place in a new pair -/
def Itet (K : PySem.W.Frag) (a : Addr) : It :=
  ⟨fun i H => ∃ (xs : List V) (x : V), SqT K H a xs ∧ xs[i]? = some x,
    fun i H v H' => ∃ T x, v = .ref T ∧ H T = none ∧ H' = upd H T (.tup [.int (i : Nat), x]) ∧ ∀ xs, SqT K H a xs → xs[i]? = some x,
    fun i H => ∃ xs : List V, SqT K H a xs ∧ xs.length = i⟩
theorem turn_enumT {P : Program} {w : World} {K : PySem.W.Frag} {elts : List Expr} {kk : Nat} {tpos : Pos} (a e it : Addr) :
    Turn P w K (.Tuple elts kk tpos) (Itet K a) [e, it] e (fun i h => (∃ old, IsEnum h e it ((i : Nat) : Int) old) ∧ h.IsTupleIter it a i ∧ e ≠ it ∧ e ≠ a ∧ it ≠ a) where
  mem := by simp
  obj := fun i h st b hb => by
    obtain ⟨⟨old, he⟩, ⟨o, ho, hc, hd⟩, _⟩ := st
    rcases (by simpa using hb : b = e ∨ b = it) with z | z
    · rw [z]; exact ⟨_, he, fun v q => nomatch q⟩
    · rw [z]; exact ⟨o, ho, fun v q => by rw [hd] at q; cases q⟩
  keep := fun i h h' st k => let ⟨⟨old, he⟩, hi, hne⟩ := st; ⟨⟨old, k e (by simp) _ he⟩, hi.at fun o q => k it (by simp) o q, hne⟩
  item := by
    intro X hP hw hK hc i pins s σ H E I hf st hg
    subst hP hw hK
    obtain ⟨⟨old, he⟩, hit, hne, hea, hia⟩ := st
    obtain ⟨xs, x, hq, hx⟩ := hg
    obtain ⟨its, rv, ht, hz⟩ := I.tuple hq
    obtain ⟨u, hu, ru⟩ := rv.get hx
    have hel : e < s.heap.objs.size := Heap.lt_size he
    have hil : it < s.heap.objs.size := by obtain ⟨_, q, _⟩ := hit; exact Heap.lt_size q
    have hlt : i < its.toArray.size := by
      have := (List.getElem?_eq_some_iff.mp hu).1
      simpa using this
    refine wpAny_pyNext_enum_itemC (Draws.tuple (A := X.A.in1) (show X.A.in1.handled = none from I.ok.hd hc) it a (Ne.symm hia) its.toArray) he ⟨hit, ht⟩ hlt hne (by simp [hne, hea]) fun y h' tk hy ho hst hT hsz hk => ?_
    have ey : y = u := by
      have z : its[i]? = some y := by simpa using hy
      rw [hu] at z
      exact (Option.some.inj z).symm
    subst ey
    refine ⟨_, rfl, wpAny_letOwnedTupleGo_enum (s := { s with heap := h', toks := tk + 1 }) ho fun h2 he2 sb => ?_⟩
    have hT2 : h2.get? s.heap.objs.size = some { cls := .type "tuple", data := .seq #[.int i tk, y] } := (sb.2 _ (Nat.ne_of_gt hel)).trans hT
    have new : ObjOk X.prog X.w (upd H s.heap.objs.size (.tup [.int (i : Nat), x])) h2 s.heap.objs.size (.tup [.int (i : Nat), x]) :=
      ⟨by show 2 ≤ sizeLine; decide, [.int i tk, y], .cons ⟨_, rfl⟩ (.cons ru .nil), ⟨_, hT2, rfl, _, rfl⟩⟩
    have I1 : Inv X pins σ (upd H s.heap.objs.size (.tup [.int (i : Nat), x])) { s with heap := h2, toks := tk + 1 } :=
      I.turnedNew (ch := [e, it]) (fun b ob hb q => (sb.2 b (fun z => hb (by simp [z]))).trans (hk b ob (fun z => hb (by simp [z])) (fun z => hb (by simp [z])) q)) hf (Nat.le_refl _) new
    refine ⟨.ref s.heap.objs.size, _, I1, rfl, ⟨_, x, rfl, I.hok.fresh (Nat.le_refl _), rfl, fun ys hy => by rw [I.tuple_inj hy hq]; exact hx⟩, ⟨⟨y, ?_⟩, hst.1.at fun o q => (sb.2 it (Ne.symm hne)).trans q, hne, hea, hia⟩, fun b hb => ?_⟩
    · have e1 : ((i + 1 : Nat) : Int) = (i : Int) + 1 := by omega
      rw [e1]; exact he2
    · have hb' : b < s.heap.objs.size := by
        rcases (by simpa using hb : b = e ∨ b = it) with z | z
        · rw [z]; exact hel
        · rw [z]; exact hil
      rw [upd_ne (Nat.ne_of_lt hb')]
      exact (hf b hb).1
  done := by
    intro X hP hw hK hc i pins s σ H E I hf st hg
    subst hP hw hK
    obtain ⟨⟨old, he⟩, hit, hne, hea, hia⟩ := st
    obtain ⟨xs, hq, hx⟩ := hg
    obtain ⟨its, rv, ht, hz⟩ := I.tuple hq
    obtain ⟨f0, f1, f2, f3, f4, f5⟩ := hf it (by simp)
    have hl := rv.length
    have hl2 : its.toArray.size = i := by rw [List.size_toArray]; omega
    refine wpAny_pyNext_enum_endD (Draws.tuple (A := X.A.in1) (show X.A.in1.handled = none from I.ok.hd hc) it a (Ne.symm hia) its.toArray) he ⟨by rw [hl2]; exact hit, ht⟩ fun h' eb => ⟨rfl, I.turned (t' := s.toks) (fun b o hb q => eb b o hb q) f0 f1 f3 f4 f5⟩
  self := fun A i s Q E st h => let ⟨⟨_, he⟩, _⟩ := st; wpAny_pyIter_enum he h
end SC
namespace SC
open PySem PySem.Spec PyProof.Rows L2 StrLaws

/-! ## steps of a reading -/
section
variable {σ : L2.St} {H : Hp} {Q : VK} {QB : Bool → Hp → Prop} {QA : List V → Hp → Prop} {D : Ends} {i j : Nat} {v x y : V} {ta tb te : TE} {t u : TS} {c : TT} {tl tr : TA} {r : R2} {b : Bool} {K : PySem.W.Frag}
theorem g_seq (q : t { D with nx := u D } σ H) : tSeq t u D σ H := q
theorem g_asg (q : te σ H fun x H1 => D.nx (σ.set i (some x)) H1) : tAsg te (gName i) D σ H := q
theorem g_asg2 {g : TG} (q : te σ H fun x H1 => g x σ H1 D.nx) : tAsg te g D σ H := q
theorem g_ret (q : te σ H D.rt) : tRet te D σ H := q
theorem g_drop (q : te σ H fun _ H1 => D.nx σ H1) : tDrop te D σ H := q
theorem g_next (q : D.nx σ H) : tNext D σ H := q
theorem g_ifs (q : c σ H fun b H1 => if b = true then t D σ H1 else u D σ H1) : tIfS c t u D σ H := q
theorem g_par (q : tl σ H fun vs H1 => ∃ v w, vs = [v, w] ∧ D.nx ((σ.set i (some v)).set j (some w)) H1) : tPar i j tl D σ H := q
theorem g_var (h : σ[i]? = some (some v)) (q : Q v H) : tVar i σ H Q := ⟨v, h, q⟩
theorem g_c (q : Q v H) : tC v σ H Q := q
theorem g_op (q : ta σ H fun x H1 => tb σ H1 fun y H2 => r x y H2 Q) : tOp r ta tb σ H Q := q
theorem g_un {r : V → Hp → VK → Prop} (q : ta σ H fun x H1 => r x H1 Q) : tUn r ta σ H Q := q
theorem g_cons (q : ta σ H fun x H1 => tr σ H1 fun xs H2 => QA (x :: xs) H2) : tCons ta tr σ H QA := q
theorem g_nil (q : QA [] H) : tNil σ H QA := q
theorem g_cb {r : List V → Hp → VK → Prop} (q : tl σ H fun vs H1 => r vs H1 Q) : tCB r tl σ H Q := q
theorem g_call {sp : Sp} {dvs : List V} {E : XK} (q : tl σ H fun vs H1 => sp (vs ++ dvs) H1 Q E) : tCall sp dvs E tl σ H Q := q
theorem g_test (q : te σ H fun x H1 => ∃ k, x = .bl k ∧ QB k H1) : tTest te σ H QB := q
theorem g_b (q : te σ H fun x H1 => ∃ k, x = .bl k ∧ QB k H1) : tB te σ H QB := q
theorem g_not {c : TT} (q : c σ H fun b H1 => QB (!b) H1) : tNot c σ H QB := q
theorem g_and {c d : TT} (q : c σ H fun b H1 => if b = true then d σ H1 QB else QB false H1) : tAnd c d σ H QB := q
theorem g_or {c d : TT} (q : c σ H fun b H1 => if b = true then QB true H1 else d σ H1 QB) : tOr c d σ H QB := q
theorem g_ifx (q : c σ H fun b H1 => if b = true then ta σ H1 Q else tb σ H1 Q) : tIf c ta tb σ H Q := q
theorem g_isN (q : ta σ H fun x H1 => Q (.bl (decide (x = .non))) H1) : tIsN ta σ H Q := q
theorem g_notN (q : ta σ H fun x H1 => Q (.bl (!decide (x = .non))) H1) : tNotN ta σ H Q := q
theorem g_andV (q : ta σ H fun x H1 => ∃ c, x = .bl c ∧ if c = true then tb σ H1 Q else Q (.bl false) H1) : tAndV ta tb σ H Q := q
theorem g_bm {T : String} {r : V → List V → Hp → VK → Prop} (q : ta σ H fun x H1 => tyV K T x H1 ∧ tl σ H1 fun xs H2 => r x xs H2 Q) : tBM K T r ta tl σ H Q := q
theorem g_bm0 {T : String} {r : V → List V → Hp → VK → Prop} (q : ta σ H fun x H1 => tyV K T x H1 ∧ r x [] H1 Q) : tBM0 K T r ta σ H Q := q
theorem g_sl {r : V → Option Int → Option Int → Hp → VK → Prop} {l h : TO} (q : te σ H fun x H1 => l σ H1 fun lo H2 => h σ H2 fun hi H3 => r x lo hi H3 Q) : tSl r te l h σ H Q := q
theorem g_part {QO : Option Int → Hp → Prop} (q : te σ H fun x H1 => ∃ i, x = .int i ∧ QO (some i) H1) : tPart te σ H QO := q
theorem g_nopart {QO : Option Int → Hp → Prop} (q : QO none H) : tNoPart σ H QO := q
theorem g_dget (q : ta σ H fun x H1 => tb σ H1 fun y H2 => ∃ a v, x = .ref a ∧ DGet H2 a y (some v) ∧ Q v H2) : tDGet ta tb σ H Q := q
theorem g_dput (q : te σ H fun v H1 => ta σ H1 fun x H2 => tb σ H2 fun y H3 => ∃ a H4, x = .ref a ∧ DPut H3 a y v H4 ∧ D.nx σ H4) : sDPut ta tb te D σ H := q
theorem g_tup (q : tl σ H fun xs H1 => xs.length ≤ sizeLine ∧ ∀ p, H1 p = none → Q (.ref p) (upd H1 p (.tup xs))) : tTup tl σ H Q := q
theorem g_lst (q : tl σ H fun xs H1 => xs.length ≤ sizeLine ∧ ∀ p, H1 p = none → Q (.ref p) (upd H1 p (.lst xs))) : tLst tl σ H Q := q
theorem g_yes (q : QB true H) : tYes σ H QB := q
theorem g_name {QS : L2.St → Hp → Prop} (q : QS (σ.set i (some v)) H) : gName i v σ H QS := q
theorem g_iList {R : It → Hp → Prop} (q : te σ H fun x H1 => ∃ a, x = .ref a ∧ (∃ xs, SqL K H1 a xs) ∧ R (Itl K a) H1) : iList K te σ H R := q
theorem g_iTup {R : It → Hp → Prop} (q : te σ H fun x H1 => ∃ a, x = .ref a ∧ (∃ xs, SqT K H1 a xs) ∧ R (Itt K a) H1) : iTup K te σ H R := q

/-! leaves -/
theorem l_bl {P : Bool → Prop} (q : P b) : ∃ k, V.bl b = V.bl k ∧ P k := ⟨b, rfl, q⟩
theorem l_int {n : Int} {P : Int → Prop} (q : P n) : ∃ k, V.int n = V.int k ∧ P k := ⟨n, rfl, q⟩
theorem l_two {P : V → V → Prop} (q : P x y) : ∃ v w, [x, y] = [v, w] ∧ P v w := ⟨x, y, rfl, q⟩
theorem l_I0 {g : Int → Int → V} {m n : Int} (q : Q (g m n) H) : rI0 g (.int m) (.int n) H Q := ⟨m, n, rfl, rfl, q⟩
theorem l_I {g : Int → Int → V} {C : Int → Int → Prop} {m n : Int} (h : C m n) (q : Q (g m n) H) : rI C g (.int m) (.int n) H Q := ⟨m, n, rfl, rfl, h, q⟩
theorem l_U {g : Int → V} {m : Int} (q : Q (g m) H) : rU g (.int m) H Q := ⟨m, rfl, q⟩
theorem l_eq (h : scal x y = true) (q : Q (.bl (decide (x = y))) H) : rEq x y H Q := ⟨h, q⟩
theorem l_ne (h : scal x y = true) (q : Q (.bl (!decide (x = y))) H) : rNe x y H Q := ⟨h, q⟩
theorem l_ixL {a : Addr} {xs : List V} {n : Int} (h : SqL K H a xs) (ha : atI xs n = some v) (q : Q v H) : rIxL K (.ref a) (.int n) H Q := ⟨a, xs, n, v, rfl, rfl, h, ha, q⟩
theorem l_ixT {a : Addr} {xs : List V} {n : Int} (h : SqT K H a xs) (ha : atI xs n = some v) (q : Q v H) : rIxT K (.ref a) (.int n) H Q := ⟨a, xs, n, v, rfl, rfl, h, ha, q⟩
theorem l_tyL {a : Addr} {xs : List V} {P : Prop} (h : SqL K H a xs) (q : P) : tyV K "list" (.ref a) H ∧ P := ⟨.inl ⟨rfl, _, h⟩, q⟩
theorem l_app {a : Addr} {xs : List V} (h : H a = some (.lst xs)) (hl : xs.length < sizeLine) (q : Q .non (upd H a (.lst (xs ++ [x])))) : rAppend (.ref a) [x] H Q := ⟨a, xs, x, rfl, rfl, h, hl, q⟩
theorem l_pop {a : Addr} {xs : List V} (h : H a = some (.lst (xs ++ [x]))) (q : Q x (upd H a (.lst xs))) : rPop (.ref a) [] H Q := by
  refine ⟨a, xs ++ [x], x, rfl, rfl, h, by simp, ?_⟩
  rw [List.dropLast_concat]
  exact q
theorem l_ext {a b : Addr} {xs ys : List V} (h : H a = some (.lst xs)) (h2 : H b = some (.lst ys)) (hl : xs.length + ys.length ≤ sizeLine) (q : Q .non (upd H a (.lst (xs ++ ys)))) : rExtend (.ref a) [.ref b] H Q := ⟨a, b, xs, ys, rfl, rfl, h, h2, hl, q⟩
theorem sq_l {a : Addr} {xs : List V} (h : H a = some (.lst xs)) : SqL K H a xs := .inl (.inl h)
theorem sq_t {a : Addr} {xs : List V} (h : H a = some (.tup xs)) : SqT K H a xs := .inl (.inl h)
theorem iteB {p : Prop} [Decidable p] {A B : Prop} (h1 : p → A) (h2 : ¬ p → B) : if decide p = true then A else B := by
  by_cases h : p
  · rw [if_pos (decide_eq_true h)]; exact h1 h
  · rw [if_neg (by rw [decide_eq_false h]; exact Bool.false_ne_true)]; exact h2 h
theorem iteNB {p : Prop} [Decidable p] {A B : Prop} (h1 : ¬ p → A) (h2 : p → B) : if (!decide p) = true then A else B := by
  by_cases h : p
  · rw [decide_eq_true h]; exact iteF (h2 h)
  · rw [decide_eq_false h]; exact iteT (h1 h)
theorem iteBo {A B : Prop} (h1 : b = true → A) (h2 : b = false → B) : if b = true then A else B := by
  cases b with
  | true => exact iteT (h1 rfl)
  | false => exact iteF (h2 rfl)
end
theorem sz {n : Nat} (h : n ≤ 1000000) : n ≤ sizeLine := by rw [sizeLine_eq]; omega
theorem sz1 {n : Nat} (h : n < 1000000) : n < sizeLine := by rw [sizeLine_eq]; omega

/-! ## data of numbers alone -/
mutual
def numD : PyData → Bool
  | .none => true
  | .bool _ => true
  | .int _ => true
  | .str x => (PyData.str x).canLay0
  | .list xs => numAll xs
  | .tuple xs => numAll xs
  | .dict _ => false
def numAll : List PyData → Bool
  | [] => true
  | x :: xs => numD x && numAll xs
end
mutual
theorem num_lay : ∀ d : PyData, numD d = true → d.canLay0 = true
  | .none, _ => by simp only [PyData.canLay0]
  | .bool _, _ => by simp only [PyData.canLay0]
  | .int _, _ => by simp only [PyData.canLay0]
  | .str _, h => by simpa only [numD] using h
  | .list xs, h => by simp only [PyData.canLay0]; exact num_layA xs (by simpa only [numD] using h)
  | .tuple xs, h => by simp only [PyData.canLay0]; exact num_layA xs (by simpa only [numD] using h)
  | .dict _, h => by simp only [numD] at h; cases h
theorem num_layA : ∀ ds : List PyData, numAll ds = true → PyData.canLayAll0 ds = true
  | [], _ => by simp only [PyData.canLayAll0]
  | x :: xs, h => by
    have h' : numD x = true ∧ numAll xs = true := by simpa only [numAll, Bool.and_eq_true] using h
    simp only [PyData.canLayAll0, num_lay x h'.1, num_layA xs h'.2, Bool.and_self]
end
theorem num_shaped {d : PyData} (h : numD d = true) (hd : d.depth ≤ 64) : SeqAt.shaped d = true := by
  unfold SeqAt.shaped
  rw [num_lay d h, decide_eq_true hd] <;> rfl
theorem numAll_mem {ds : List PyData} : numAll ds = true ↔ ∀ d ∈ ds, numD d = true := by
  induction ds with
  | nil => simp [numAll]
  | cons x xs ih => simp only [numAll, Bool.and_eq_true, ih, List.mem_cons, forall_eq_or_imp]
theorem depthAll_le {ds : List PyData} {n : Nat} : PyData.depthAll ds ≤ n ↔ ∀ d ∈ ds, d.depth ≤ n := by
  induction ds with
  | nil => simp [PyData.depthAll]
  | cons x xs ih =>
    simp only [PyData.depthAll, List.mem_cons, forall_eq_or_imp, ← ih]
    omega
theorem depth_list (ds : List PyData) : (PyData.list ds).depth = PyData.depthAll ds + 1 := by simp only [PyData.depth]
theorem depth_tuple (ds : List PyData) : (PyData.tuple ds).depth = PyData.depthAll ds + 1 := by simp only [PyData.depth]
theorem eqv_nil (ds : List PyData) : PyData.eqv (.list ds) (.list []) = ds.isEmpty := by
  cases ds with
  | nil => simp only [PyData.eqv, PyData.eqvAll]; rfl
  | cons x xs => simp only [PyData.eqv, PyData.eqvAll]; rfl
section
variable {K : PySem.W.Frag} {H : Hp} {Q : VK}
/-- xs != [] -/
theorem l_neNil {a b : Addr} {xs : List V} {ds : List PyData} (h : SqL K H a xs) (hd : DpAll K H xs ds) (hn : numAll ds = true) (hz : PyData.depthAll ds ≤ 60) (h2 : H b = some (.lst [])) (q : Q (.bl (!xs.isEmpty)) H) :
    rNeD K (.ref a) (.ref b) H Q := by
  refine ⟨.list ds, .list [], .lst h hd, .lst (sq_l h2) .nil, num_shaped (by simp only [numD]; exact hn) (by rw [depth_list]; omega), by decide +kernel, ?_⟩
  rw [eqv_nil]
  have e : ds.isEmpty = xs.isEmpty := by
    have := dps_len hd
    cases xs <;> cases ds <;> simp_all
  rw [e]
  exact q
theorem dps_ints : ∀ ns : List Int, DpAll K H (ns.map V.int) (ns.map PyData.int)
  | [] => .nil
  | n :: r => .cons (.int n) (dps_ints r)
theorem num_ints (ns : List Int) : numAll (ns.map PyData.int) = true := numAll_mem.mpr fun d hd => by
  obtain ⟨n, _, rfl⟩ := List.mem_map.mp hd
  simp only [numD]
theorem depth_ints (ns : List Int) : PyData.depthAll (ns.map PyData.int) = 0 := Nat.le_zero.mp (depthAll_le.mpr fun d hd => by
  obtain ⟨n, _, rfl⟩ := List.mem_map.mp hd
  simp only [PyData.depth]; omega)
theorem l_dget {a : Addr} {kvs : List (L2.Key × V)} {z : Str} {v : V} {P : V → Prop} (h : H a = some (.dK kvs)) (hk : valV kvs (.inr z) = some v) (q : P v) : ∃ a' v', V.ref a = V.ref a' ∧ DGet H a' (.str z) (some v') ∧ P v' := by
  refine ⟨a, v, rfl, ?_, q⟩
  have g := DGet.k (k := Sum.inr z) h
  rw [hk] at g
  exact g
theorem l_dput {a : Addr} {kvs : List (L2.Key × V)} {z : Str} {v : V} {P : Hp → Prop} (h : H a = some (.dK kvs)) (hl : kvs.length < sizeLine) (q : P (upd H a (.dK (putK kvs (.inr z) v)))) : ∃ a' H4, V.ref a = V.ref a' ∧ DPut H a' (.str z) v H4 ∧ P H4 :=
  ⟨a, _, rfl, DPut.k (k := Sum.inr z) h hl, q⟩
end
/-! ## the deck -/
abbrev dkv (gr : Addr) (mx tn : Int) : List (L2.Key × V) := [(.inr ("great" : Str), .ref gr), (.inr ("mixed" : Str), .int mx), (.inr ("turns" : Str), .int tn)]
theorem dk_great {gr : Addr} {mx tn : Int} : valV (dkv gr mx tn) (.inr ("great" : Str)) = some (.ref gr) := by rfl
theorem dk_mixed {gr : Addr} {mx tn : Int} : valV (dkv gr mx tn) (.inr ("mixed" : Str)) = some (.int mx) := by rfl
theorem dk_turns {gr : Addr} {mx tn : Int} : valV (dkv gr mx tn) (.inr ("turns" : Str)) = some (.int tn) := by rfl
theorem dk_pmixed {gr : Addr} {mx tn z : Int} : putK (dkv gr mx tn) (.inr ("mixed" : Str)) (.int z) = dkv gr z tn := by rfl
theorem dk_pturns {gr : Addr} {mx tn z : Int} : putK (dkv gr mx tn) (.inr ("turns" : Str)) (.int z) = dkv gr mx z := by rfl
structure DeckAt (H : Hp) (dk gr : Addr) (gs : List Int) (mx tn : Int) : Prop where
  d : H dk = some (.dK (dkv gr mx tn))
  g : H gr = some (.lst (gs.map V.int))
  few : gs.length ≤ 63
  mx0 : 0 ≤ mx
  mx1 : mx < 4294967291
def Deck (H : Hp) (dk gr : Addr) : Prop := ∃ gs mx tn, DeckAt H dk gr gs mx tn
end SC
namespace SC
open PySem PySem.Spec PyProof.Rows L2 StrLaws

theorem hid_none {D : List Addr} {H : Hp} {a : Addr} (h : H a = none) : hid D H a = none := by
  by_cases ha : a ∈ D
  · exact hid_in ha
  · rw [hid_out ha]; exact h
/-- a new object of ours is written -/
theorem hid_mut {D : List Addr} {H H' : Hp} {p : Addr} {o : HO} (s : Same (hid D H) (hid D H')) (h : hid D H p = none) : Same (hid D H) (hid D (upd H' p o)) := fun b x e => by
  have z := s b x e
  by_cases hb : b ∈ D
  · rw [hid_in hb] at e; cases e
  · rw [hid_out hb] at z ⊢
    rw [upd_ne (ne_of_none e h)]
    exact z
theorem hid_get {D : List Addr} {H : Hp} {a : Addr} {o : HO} (h : hid D H a = some o) : a ∉ D ∧ H a = some o := by
  by_cases ha : a ∈ D
  · rw [hid_in ha] at h; cases h
  · rw [hid_out ha] at h; exact ⟨ha, h⟩
theorem hid_put {D : List Addr} {H : Hp} {a : Addr} {o : HO} (ha : a ∉ D) (h : H a = some o) : hid D H a = some o := by rw [hid_out ha]; exact h
/-- a datum of numbers, not too deep -/
def Nm (K : PySem.W.Frag) (H : Hp) (x : V) : Prop := ∃ d, Dp K H x d ∧ numD d = true ∧ d.depth ≤ 40
theorem Nm.same {K : PySem.W.Frag} {H H' : Hp} {x : V} (s : Same H H') (h : Nm K H x) : Nm K H' x := by
  obtain ⟨d, h1, h2⟩ := h
  exact ⟨d, dp_same s h1, h2⟩
theorem nms {K : PySem.W.Frag} {H : Hp} : ∀ {xs : List V}, (∀ x ∈ xs, Nm K H x) → ∃ ds, DpAll K H xs ds ∧ numAll ds = true ∧ PyData.depthAll ds ≤ 40
  | [], _ => ⟨[], .nil, rfl, by simp [PyData.depthAll]⟩
  | x :: xs, h => by
    obtain ⟨d, h1, h2, h3⟩ := h x (List.mem_cons_self ..)
    obtain ⟨ds, k1, k2, k3⟩ := nms fun y hy => h y (List.mem_cons_of_mem _ hy)
    refine ⟨d :: ds, .cons h1 k1, by simp only [numAll, h2, k2, Bool.and_self], ?_⟩
    simp only [PyData.depthAll]
    omega
theorem nm_int {K : PySem.W.Frag} {H : Hp} (i : Int) : Nm K H (.int i) := ⟨.int i, .int i, by simp only [numD], by simp only [PyData.depth]; omega⟩
theorem nm_non {K : PySem.W.Frag} {H : Hp} : Nm K H .non := ⟨.none, .non, by simp only [numD], by simp only [PyData.depth]; omega⟩
section
variable {K : PySem.W.Frag} {H : Hp} {Q : VK}
/-- xs != [], xs a list of numbers' data -/
theorem l_neN {a b : Addr} {xs : List V} (h : SqL K H a xs) (hd : ∀ x ∈ xs, Nm K H x) (h2 : H b = some (.lst [])) (q : Q (.bl (!xs.isEmpty)) H) : rNeD K (.ref a) (.ref b) H Q := by
  obtain ⟨ds, k1, k2, k3⟩ := nms hd
  exact l_neNil h k1 k2 (by omega) h2 q
theorem l_popAt {a : Addr} {xs : List V} {i : Int} {k : Nat} {y : V} (h : H a = some (.lst xs)) (e : i = (k : Int)) (hk : xs[k]? = some y) (hz : xs.length ≤ 1000000) (q : Q y (upd H a (.lst (xs.eraseIdx k)))) : rPopAt (.ref a) [.int i] H Q := by
  have hl : k < xs.length := (List.getElem?_eq_some_iff.mp hk).1
  refine ⟨a, xs, i, k, y, rfl, rfl, h, by omega, by omega, ?_, hk, q⟩
  have g : ixN xs.length i = some k := by
    rw [e]
    unfold ixN
    rw [if_pos (by omega), if_pos (by omega)]
    simp
  exact (ixN_seq g).1
theorem len_seq {K : PySem.W.Frag} {a : Addr} {xs : List V} {P : Int → Prop} (h : SqL K H a xs) (q : P (xs.length : Nat)) : ∃ p ys, [V.ref a] = [.ref p] ∧ (SqL K H p ys ∨ SqT K H p ys) ∧ P (ys.length : Nat) := ⟨a, xs, rfl, .inl h, q⟩
end
theorem same_seq {K : PySem.W.Frag} {H H' : Hp} {a : Addr} {xs : List V} (s : Same H H') (h : SqL K H a xs) : SqL K H' a xs := s.seq h
theorem g_for {wi : TI} {g : TG} {tb : TS} {D : Ends} {σ : L2.St} {H : Hp} (q : wi σ H fun J H1 => ∃ W : Nat → Nat → L2.St → Hp → Prop, (∃ m, W 0 m σ H1) ∧ ∀ i m σ H, W i m σ H →
    (J.stop i H ∧ D.nx σ H) ∨ (J.go i H ∧ ∃ N : L2.St → Hp → Prop, (∀ σ' H', N σ' H' → ∃ m', m' < m ∧ W (i + 1) m' σ' H') ∧
      ∀ x H', J.yld i H x H' → g x σ H' fun σ2 H2 => tb { D with nx := N, ct := N, bk := D.nx } σ2 H2)) : tFor wi g tb D σ H := q
theorem g_lc {wi : TI} {g : TG} {tt : TT} {te : TE} {vs : List Nat} {σ : L2.St} {H : Hp} {Q : VK} (q : wi σ H fun J H1 => ∀ D, H1 D = none → ∃ W : Nat → Nat → Hp → Prop, (∃ m, W 0 m (upd H1 D (.lst []))) ∧ ∀ i m H, W i m H →
    (J.stop i H ∧ Q (.ref D) H) ∨ (J.go i H ∧ ∃ Nx : Hp → Prop, (∀ H', Nx H' → ∃ m', m' < m ∧ W (i + 1) m' H') ∧
      ∀ x H', J.yld i H x H' → g x (wipe σ vs) H' fun σ2 H2 => wipe σ2 vs = wipe σ vs ∧ tt σ2 H2 fun b H3 =>
        if b = true then te σ2 H3 fun y H4 => ∃ acc, H4 D = some (.lst acc) ∧ acc.length < sizeLine ∧ Nx (upd H4 D (.lst (acc ++ [y]))) else Nx H3)) : tLc wi g tt te vs σ H Q := q
theorem g_rng1 {tl : TA} {σ : L2.St} {H : Hp} {R : It → Hp → Prop} (q : tl σ H fun vs H1 => ∃ j : Int, vs = [.int j] ∧ -(2 ^ 62) ≤ j ∧ j < 2 ^ 62 ∧ R (Itr 0 j.toNat) H1) : iRng1 tl σ H R := q
/-! loops, what follows told apart -/
section
variable {K : PySem.W.Frag} {a b : Addr} {xs ys : List V} {g : TG} {tb : TS} {nx : L2.St → Hp → Prop} {rt : VK} {σ : L2.St} {H : Hp}
abbrev ForGoal (J : It) (g : TG) (tb : TS) (nx : L2.St → Hp → Prop) (rt : VK) (σ : L2.St) (H : Hp) : Prop :=
  ∃ W : Nat → Nat → L2.St → Hp → Prop, (∃ m, W 0 m σ H) ∧ ∀ i m σ H, W i m σ H →
    (J.stop i H ∧ nx σ H) ∨ (J.go i H ∧ ∃ N : L2.St → Hp → Prop, (∀ σ' H', N σ' H' → ∃ m', m' < m ∧ W (i + 1) m' σ' H') ∧
      ∀ x H', J.yld i H x H' → g x σ H' fun σ2 H2 => tb { nx := N, rt := rt, bk := nx, ct := N } σ2 H2)
theorem for_L (Pv : Nat → L2.St → Hp → Prop) (h0 : Pv 0 σ H) (hl : ∀ i σ H, i ≤ xs.length → Pv i σ H → SqL K H a xs)
    (hs : ∀ i x σ H, xs[i]? = some x → Pv i σ H → g x σ H fun σ2 H2 => tb { nx := Pv (i + 1), rt := rt, bk := nx, ct := Pv (i + 1) } σ2 H2)
    (hd : ∀ σ H, Pv xs.length σ H → nx σ H) : ForGoal (Itl K a) g tb nx rt σ H := for_list (D := ⟨nx, rt, nx, nx⟩) Pv h0 hl hs hd
theorem for_T (Pv : Nat → L2.St → Hp → Prop) (h0 : Pv 0 σ H) (hl : ∀ i σ H, i ≤ xs.length → Pv i σ H → SqT K H a xs)
    (hs : ∀ i x σ H, xs[i]? = some x → Pv i σ H → g x σ H fun σ2 H2 => tb { nx := Pv (i + 1), rt := rt, bk := nx, ct := Pv (i + 1) } σ2 H2)
    (hd : ∀ σ H, Pv xs.length σ H → nx σ H) : ForGoal (Itt K a) g tb nx rt σ H := for_tup (D := ⟨nx, rt, nx, nx⟩) Pv h0 hl hs hd
theorem for_R {lo : Int} {n : Nat} (Pv : Nat → L2.St → Hp → Prop) (h0 : Pv 0 σ H)
    (hs : ∀ i σ H, i < n → Pv i σ H → g (.int (lo + i)) σ H fun σ2 H2 => tb { nx := Pv (i + 1), rt := rt, bk := nx, ct := Pv (i + 1) } σ2 H2)
    (hd : ∀ σ H, Pv n σ H → nx σ H) : ForGoal (Itr lo n) g tb nx rt σ H := for_range (D := ⟨nx, rt, nx, nx⟩) Pv h0 hs hd
theorem for_W {J : It} {n : Nat} {G : Hp → Prop} {Y : Nat → Hp → V → Hp → Prop} (w : Walk J n G Y) (Pv : Nat → L2.St → Hp → Prop) (h0 : Pv 0 σ H) (hG : ∀ i σ H, i ≤ n → Pv i σ H → G H)
    (hs : ∀ i x σ H H', i < n → Pv i σ H → Y i H x H' → g x σ H' fun σ2 H2 => tb { nx := Pv (i + 1), rt := rt, bk := nx, ct := Pv (i + 1) } σ2 H2)
    (hd : ∀ σ H, Pv n σ H → nx σ H) : ForGoal J g tb nx rt σ H := for_it w (D := ⟨nx, rt, nx, nx⟩) Pv h0 hG hs hd
theorem walk_enumT : Walk (Itet K a) xs.length (fun H => SqT K H a xs) (YPair (fun i => some (.int (i : Nat))) (fun i => xs[i]?)) :=
  ⟨fun i _ hi q => ⟨xs, xs[i], q, by simp [hi]⟩, fun _ q => ⟨xs, q, rfl⟩, fun i H v H' _ q y => by
    obtain ⟨T, x, h1, h2, h3, h4⟩ := y
    exact ⟨T, .int (i : Nat), x, h1, h2, h3, rfl, h4 xs q⟩⟩
end
theorem g_cut {t u : TS} {D : Ends} {σ : L2.St} {H : Hp} (Mid : L2.St → Hp → Prop) (h1 : t { D with nx := Mid } σ H) (h2 : ∀ σ' H', Mid σ' H' → u D σ' H') : Evl.tCut t u D σ H := ⟨Mid, h1, h2⟩
theorem g_while {c : TT} {tb : TS} {D : Ends} {σ : L2.St} {H : Hp} (W : Nat → L2.St → Hp → Prop) (m0 : Nat) (h0 : W m0 σ H)
    (hs : ∀ m σ H, W m σ H → c σ H fun b H1 => if b = true then ∃ N : L2.St → Hp → Prop, (∀ σ' H', N σ' H' → ∃ m', m' < m ∧ W m' σ' H') ∧ tb { D with nx := N, ct := N, bk := D.nx } σ H1 else D.nx σ H1) :
    tWhile c tb D σ H := ⟨W, ⟨m0, h0⟩, hs⟩
theorem g_pc {σ : L2.St} {H : Hp} {ta tb : TE} {r : List (TE × TE)} {Q : List (V × V) → Hp → Prop} (q : ta σ H fun k H1 => tb σ H1 fun v H2 => tPairs r σ H2 fun ps H3 => Q ((k, v) :: ps) H3) : tPairs ((ta, tb) :: r) σ H Q := q
theorem g_pn {σ : L2.St} {H : Hp} {Q : List (V × V) → Hp → Prop} (q : Q [] H) : tPairs [] σ H Q := q
theorem abs_ite (i : Int) : (if i < 0 then -i else i) = (i.natAbs : Int) := by split <;> omega
theorem perm_erase {α : Type} : ∀ {xs : List α} {k : Nat} {y : α}, xs[k]? = some y → (y :: xs.eraseIdx k).Perm xs
  | [], _, _, h => by simp at h
  | x :: xs, 0, y, h => by simp at h; subst h; exact List.Perm.refl _
  | x :: xs, k + 1, y, h => by
    have g := perm_erase (xs := xs) (k := k) (by simpa using h)
    exact (List.Perm.swap x y _).trans (g.cons x)
theorem erase_len {α : Type} {xs : List α} {k : Nat} (h : k < xs.length) : (xs.eraseIdx k).length + 1 = xs.length := by
  rw [List.length_eraseIdx, if_pos h]; omega
end SC
namespace SC
open PySem PySem.Spec PyProof.Rows L2 StrLaws

/-! ## things: inputs, stages -/
inductive Th where
  | inp (i : Int)
  | st (n c : Int) (ps : List (Int × Th))
mutual
theorem Th.ind {P : Th → Prop} (h1 : ∀ i, P (.inp i)) (h2 : ∀ n c ps, (∀ p ∈ ps, P p.2) → P (.st n c ps)) : ∀ t, P t
  | .inp i => h1 i
  | .st n c ps => h2 n c ps (Th.indL h1 h2 ps)
theorem Th.indL {P : Th → Prop} (h1 : ∀ i, P (.inp i)) (h2 : ∀ n c ps, (∀ p ∈ ps, P p.2) → P (.st n c ps)) : ∀ ps : List (Int × Th), ∀ p ∈ ps, P p.2
  | [], _, h => by cases h
  | (w, t) :: r, p, h => by
    rcases List.mem_cons.mp h with e | e
    · rw [e]; exact Th.ind h1 h2 t
    · exact Th.indL h1 h2 r p e
end
mutual
/-- how many inputs -/
def Th.nIn : Th → Nat
  | .inp _ => 1
  | .st _ _ ps => nInL ps
def nInL : List (Int × Th) → Nat
  | [] => 0
  | (_, t) :: r => t.nIn + nInL r
end
mutual
/-- how many stages -/
def Th.nSt : Th → Nat
  | .inp _ => 0
  | .st _ _ ps => nStL ps + 1
def nStL : List (Int × Th) → Nat
  | [] => 0
  | (_, t) :: r => t.nSt + nStL r
end
mutual
/-- how deep -/
def Th.dep : Th → Nat
  | .inp _ => 0
  | .st _ _ ps => depL ps + 1
def depL : List (Int × Th) → Nat
  | [] => 0
  | (_, t) :: r => max t.dep (depL r)
end
mutual
/-- no stage without parts -/
def Th.full : Th → Bool
  | .inp _ => true
  | .st _ _ ps => !ps.isEmpty && fullL ps
def fullL : List (Int × Th) → Bool
  | [] => true
  | (_, t) :: r => t.full && fullL r
end
mutual
/-- the shape as a datum -/
def Th.shD : Th → PyData
  | .inp _ => .none
  | .st _ _ ps => .list (shDL ps)
def shDL : List (Int × Th) → List PyData
  | [] => []
  | (_, t) :: r => t.shD :: shDL r
end
mutual
/-- the thing as a datum -/
def Th.toD : Th → PyData
  | .inp i => .int i
  | .st n c ps => .tuple [.int n, .int c, .tuple (toDL ps)]
def toDL : List (Int × Th) → List PyData
  | [] => []
  | (w, t) :: r => .tuple [.int w, t.toD] :: toDL r
end
theorem nInL_eq : ∀ ps : List (Int × Th), nInL ps = (ps.map fun p => p.2.nIn).sum
  | [] => by simp only [nInL, List.map_nil, List.sum_nil]
  | (w, t) :: r => by simp only [nInL, List.map_cons, List.sum_cons, nInL_eq r]
theorem nStL_eq : ∀ ps : List (Int × Th), nStL ps = (ps.map fun p => p.2.nSt).sum
  | [] => by simp only [nStL, List.map_nil, List.sum_nil]
  | (w, t) :: r => by simp only [nStL, List.map_cons, List.sum_cons, nStL_eq r]
theorem shDL_eq : ∀ ps : List (Int × Th), shDL ps = ps.map fun p => p.2.shD
  | [] => by simp only [shDL, List.map_nil]
  | (w, t) :: r => by simp only [shDL, List.map_cons, shDL_eq r]
theorem toDL_eq : ∀ ps : List (Int × Th), toDL ps = ps.map fun p => .tuple [.int p.1, p.2.toD]
  | [] => by simp only [toDL, List.map_nil]
  | (w, t) :: r => by simp only [toDL, List.map_cons, toDL_eq r]
theorem depL_le {n : Nat} : ∀ {ps : List (Int × Th)}, depL ps ≤ n ↔ ∀ p ∈ ps, p.2.dep ≤ n
  | [] => by simp [depL]
  | (w, t) :: r => by
    simp only [depL, List.mem_cons, forall_eq_or_imp, ← depL_le (ps := r)]
    omega
theorem fullL_iff : ∀ {ps : List (Int × Th)}, fullL ps = true ↔ ∀ p ∈ ps, p.2.full = true
  | [] => by simp [fullL]
  | (w, t) :: r => by simp only [fullL, Bool.and_eq_true, List.mem_cons, forall_eq_or_imp, fullL_iff (ps := r)]
theorem sh_num : ∀ t : Th, numD t.shD = true := Th.ind (fun i => by simp only [Th.shD, numD]) fun n c ps ih => by
  simp only [Th.shD, numD, shDL_eq]
  exact numAll_mem.mpr fun d hd => by
    obtain ⟨p, hp, rfl⟩ := List.mem_map.mp hd
    exact ih p hp
theorem sh_depth : ∀ t : Th, t.shD.depth ≤ t.dep := Th.ind (fun i => by simp only [Th.shD, PyData.depth]; omega) fun n c ps ih => by
  simp only [Th.shD, Th.dep, depth_list, shDL_eq]
  have h : PyData.depthAll (ps.map fun p => p.2.shD) ≤ depL ps := depthAll_le.mpr fun d hd => by
    obtain ⟨p, hp, rfl⟩ := List.mem_map.mp hd
    exact Nat.le_trans (ih p hp) (depL_le.mp (Nat.le_refl _) p hp)
  omega
theorem nIn_pos : ∀ t : Th, t.full = true → 1 ≤ t.nIn := Th.ind (fun i _ => by simp only [Th.nIn]; omega) fun n c ps ih h => by
  simp only [Th.full, Bool.and_eq_true, Bool.not_eq_true'] at h
  simp only [Th.nIn]
  cases ps with
  | nil => simp at h
  | cons p r =>
    have := ih p (List.mem_cons_self ..) (fullL_iff.mp h.2 p (List.mem_cons_self ..))
    simp only [nInL]
    omega
theorem len_le_nIn : ∀ {ps : List (Int × Th)}, fullL ps = true → ps.length ≤ nInL ps
  | [], _ => Nat.zero_le _
  | (w, t) :: r, h => by
    simp only [fullL, Bool.and_eq_true] at h
    have h1 := nIn_pos t h.1
    have h2 := len_le_nIn (ps := r) h.2
    simp only [nInL, List.length_cons]
    omega

/-! a stage of things at values -/
abbrev stOf (L : List (V × Th)) : Th := .st 0 0 (L.map fun p => ((0 : Int), p.2))
def stS (L : List (V × Th)) : Nat := (L.map fun p => p.2.nSt).sum
def inS (L : List (V × Th)) : Nat := (L.map fun p => p.2.nIn).sum
theorem stS_app (L M : List (V × Th)) : stS (L ++ M) = stS L + stS M := by unfold stS; rw [List.map_append, List.sum_append]
theorem inS_app (L M : List (V × Th)) : inS (L ++ M) = inS L + inS M := by unfold inS; rw [List.map_append, List.sum_append]
theorem stS_one (p : V × Th) : stS [p] = p.2.nSt := by unfold stS; simp
theorem inS_one (p : V × Th) : inS [p] = p.2.nIn := by unfold inS; simp
theorem stS_perm {L M : List (V × Th)} (h : L.Perm M) : stS L = stS M := (h.map _).sum_nat
theorem inS_perm {L M : List (V × Th)} (h : L.Perm M) : inS L = inS M := (h.map _).sum_nat
theorem stOf_st (L : List (V × Th)) : (stOf L).nSt = stS L + 1 := by simp only [stOf, Th.nSt, nStL_eq, List.map_map, stS]; rfl
theorem stOf_in (L : List (V × Th)) : (stOf L).nIn = inS L := by simp only [stOf, Th.nIn, nInL_eq, List.map_map, inS]; rfl
theorem stOf_dep {L : List (V × Th)} {n : Nat} (h : ∀ p ∈ L, p.2.dep ≤ n) : (stOf L).dep ≤ n + 1 := by
  simp only [stOf, Th.dep]
  refine Nat.succ_le_succ (depL_le.mpr fun p hp => ?_)
  obtain ⟨q, hq, rfl⟩ := List.mem_map.mp hp
  exact h q hq
theorem stOf_full {L : List (V × Th)} (h0 : L ≠ []) (h : ∀ p ∈ L, p.2.full = true) : (stOf L).full = true := by
  simp only [stOf, Th.full, Bool.and_eq_true, Bool.not_eq_true']
  refine ⟨?_, fullL_iff.mpr fun p hp => ?_⟩
  · cases L with
    | nil => exact absurd rfl h0
    | cons a b => rfl
  · obtain ⟨q, hq, rfl⟩ := List.mem_map.mp hp
    exact h q hq
theorem stOf_sh (L : List (V × Th)) : (stOf L).shD = .list (L.map fun p => p.2.shD) := by
  simp only [stOf, Th.shD, shDL_eq, List.map_map]
  rfl
theorem flat_rep {α : Type} (x : α) : ∀ k : Nat, (List.replicate k [x]).flatten = List.replicate k x
  | 0 => rfl
  | k + 1 => by rw [List.replicate_succ, List.flatten_cons, flat_rep x k, List.replicate_succ]; rfl
theorem stS_rep (k : Nat) : stS (List.replicate k (V.non, Th.inp 0)) = 0 := by
  unfold stS
  induction k with
  | zero => rfl
  | succ k ih => rw [List.replicate_succ, List.map_cons, List.sum_cons, ih]; simp only [Th.nSt]
theorem inS_rep (k : Nat) : inS (List.replicate k (V.non, Th.inp 0)) = k := by
  unfold inS
  induction k with
  | zero => rfl
  | succ k ih => rw [List.replicate_succ, List.map_cons, List.sum_cons, ih]; simp only [Th.nIn]; omega

/-! ## what was made behind a heap -/
def hidP (S : Addr → Bool) (H : Hp) : Hp := fun a => if S a = true then none else H a
/-- the heap's new objects alone -/
abbrev fresh (H H' : Hp) : Hp := hidP (fun a => (H a).isSome) H'
theorem hidP_in {S : Addr → Bool} {H : Hp} {a : Addr} (h : S a = true) : hidP S H a = none := if_pos h
theorem hidP_out {S : Addr → Bool} {H : Hp} {a : Addr} (h : S a = false) : hidP S H a = H a := if_neg (by rw [h]; exact Bool.false_ne_true)
theorem hidP_get {S : Addr → Bool} {H : Hp} {a : Addr} {o : HO} (h : hidP S H a = some o) : S a = false ∧ H a = some o := by
  cases e : S a with
  | true => rw [hidP_in e] at h; cases h
  | false => rw [hidP_out e] at h; exact ⟨rfl, h⟩
theorem hidP_same {S : Addr → Bool} {H : Hp} : Same (hidP S H) H := fun a o e => (hidP_get e).2
/-- what a call with the mutables D leaves, of what is told apart from D -/
theorem hidP_of {D : List Addr} {S : Addr → Bool} {H H' : Hp} (hD : ∀ d ∈ D, S d = true) (s : Same (hid D H) (hid D H')) : Same (hidP S H) (hidP S H') := fun a o e => by
  obtain ⟨h1, h2⟩ := hidP_get e
  have ha : a ∉ D := fun z => by rw [hD a z] at h1; cases h1
  rw [hidP_out h1]
  exact (hid_get (s a o (hid_put ha h2))).2
theorem hidP_more {S S' : Addr → Bool} {H H' : Hp} (s : Same H H') (h : ∀ a, S a = false → S' a = false) : Same (hidP S H) (hidP S' H') := fun a o e => by
  obtain ⟨h1, h2⟩ := hidP_get e
  rw [hidP_out (h a h1)]
  exact s a o h2
theorem hidP_mut {S : Addr → Bool} {H H' : Hp} {p : Addr} {o : HO} (s : Same (hidP S H) (hidP S H')) (h : hidP S H p = none) : Same (hidP S H) (hidP S (upd H' p o)) := fun b x e => by
  have z := s b x e
  obtain ⟨h1, h2⟩ := hidP_get z
  rw [hidP_out h1, upd_ne (ne_of_none e h)]
  exact h2
theorem hidP_hid {D : List Addr} {S : Addr → Bool} {H : Hp} (hD : ∀ d ∈ D, S d = true) : Same (hidP S H) (hid D H) := fun a o e => by
  obtain ⟨h1, h2⟩ := hidP_get e
  exact hid_put (fun z => by rw [hD a z] at h1; cases h1) h2
/-- what was tracked is tracked -/
theorem stay {D : List Addr} {H H' : Hp} (s : Same (hid D H) (hid D H')) (hD : ∀ d ∈ D, (H' d).isSome = true) {a : Addr} (h : (H a).isSome = true) : (H' a).isSome = true := by
  by_cases ha : a ∈ D
  · exact hD a ha
  · obtain ⟨o, e⟩ := Option.isSome_iff_exists.mp h
    rw [(hid_get (s a o (hid_put ha e))).2]
    rfl
theorem deck_some {H : Hp} {dk gr : Addr} (d : Deck H dk gr) : ∀ a ∈ [dk, gr], (H a).isSome = true := by
  obtain ⟨gs, mx, tn, d⟩ := d
  intro a ha
  rcases List.mem_cons.mp ha with e | e
  · rw [e, d.d]; rfl
  · rw [List.mem_singleton.mp e, d.g]; rfl
theorem some_of {H : Hp} {a : Addr} {o : HO} (h : H a = some o) : (H a).isSome = true := by rw [h]; rfl
theorem perm_map {α β : Type} {f : α → β} : ∀ {L : List α} {ys : List β}, ys.Perm (L.map f) → ∃ L' : List α, L'.Perm L ∧ ys = L'.map f
  | [], ys, h => ⟨[], List.Perm.refl _, by simpa using h⟩
  | a :: L, ys, h => by
    have hm : f a ∈ ys := h.mem_iff.mpr (by simp)
    obtain ⟨y1, y2, rfl⟩ := List.append_of_mem hm
    have h2 : (y1 ++ y2).Perm (L.map f) := by
      have := List.perm_middle.symm.trans (h.trans (List.Perm.of_eq (List.map_cons)))
      exact this.cons_inv
    obtain ⟨L2, p2, e2⟩ := perm_map h2
    have e3 : y1 = (L2.take y1.length).map f := by
      have := congrArg (List.take y1.length) e2
      simpa using this
    have e4 : y2 = (L2.drop y1.length).map f := by
      have := congrArg (List.drop y1.length) e2
      simpa using this
    refine ⟨L2.take y1.length ++ a :: L2.drop y1.length, ?_, ?_⟩
    · refine List.perm_middle.trans ((List.Perm.of_eq ?_).trans (p2.cons a))
      rw [List.take_append_drop]
    · rw [List.map_append, List.map_cons, ← e3, ← e4]
end SC
namespace SC
open PySem PySem.Spec PyProof.Rows L2 StrLaws

theorem g_gtup {K : PySem.W.Frag} {n : Nat} {t : TGs} {a : Addr} {xs : List V} {σ : L2.St} {H : Hp} {Q : L2.St → Hp → Prop} (h : SqT K H a xs) (hn : xs.length = n) (q : t xs σ H Q) : gTup K n t (.ref a) σ H Q := ⟨a, xs, rfl, h, hn, q⟩
theorem g_gcons {t : TG} {u : TGs} {v : V} {r : List V} {σ : L2.St} {H : Hp} {Q : L2.St → Hp → Prop} (q : t v σ H fun σ' H' => u r σ' H' Q) : gCons t u (v :: r) σ H Q := ⟨v, r, rfl, q⟩
theorem g_gnil {σ : L2.St} {H : Hp} {Q : L2.St → Hp → Prop} (q : Q σ H) : gNil [] σ H Q := ⟨rfl, q⟩
theorem g_iZip {K : PySem.W.Frag} {ta : TA} {σ : L2.St} {H : Hp} {R : It → Hp → Prop} (q : ta σ H fun vs H1 => ∃ a b xs ys, vs = [.ref a, .ref b] ∧ SqL K H1 a xs ∧ SqL K H1 b ys ∧ R (Itz K a b) H1) : iZip K ta σ H R := q
theorem for_Z {K : PySem.W.Frag} {a b : Addr} {xs ys : List V} {g : TG} {tb : TS} {nx : L2.St → Hp → Prop} {rt : VK} {σ : L2.St} {H : Hp} (hl : xs.length = ys.length) (Pv : Nat → L2.St → Hp → Prop) (h0 : Pv 0 σ H)
    (hq : ∀ i σ H, Pv i σ H → SqL K H a xs ∧ SqL K H b ys)
    (hs : ∀ i x y T σ H, xs[i]? = some x → ys[i]? = some y → Pv i σ H → H T = none → g (.ref T) σ (upd H T (.tup [x, y])) fun σ2 H2 => tb { nx := Pv (i + 1), rt := rt, bk := nx, ct := Pv (i + 1) } σ2 H2)
    (hd : ∀ σ H, Pv xs.length σ H → nx σ H) : ForGoal (Itz K a b) g tb nx rt σ H :=
  for_W (walk_zip (n := xs.length) (xs := xs) (ys := ys) (by omega)) Pv h0 (fun i σ H _ p => hq i σ H p) (fun i x σ H H' hi p y => by
    obtain ⟨T, u, v, rfl, h1, rfl, h3, h4⟩ := y
    exact hs i u v T σ H h3 h4 p h1) hd

/-! ## the greatest common divisor of integers, one behind another -/
def gcdL (ws : List Int) : Nat := ws.foldl (fun g w => Nat.gcd g w.natAbs) 0
theorem gcd_fold (d : Nat) : ∀ (ws : List Int) (g : Nat), d ∣ ws.foldl (fun g w => Nat.gcd g w.natAbs) g ↔ d ∣ g ∧ ∀ w ∈ ws, d ∣ w.natAbs
  | [], g => by simp
  | w :: r, g => by
    rw [List.foldl_cons, gcd_fold d r, Nat.dvd_gcd_iff]
    simp only [List.mem_cons, forall_eq_or_imp]
    exact and_assoc
theorem dvd_gcdL {d : Nat} {ws : List Int} : d ∣ gcdL ws ↔ ∀ w ∈ ws, d ∣ w.natAbs := by
  unfold gcdL
  rw [gcd_fold]
  simp
theorem gcdL_snoc (ws : List Int) (w : Int) : gcdL (ws ++ [w]) = Nat.gcd (gcdL ws) w.natAbs := by
  unfold gcdL
  rw [List.foldl_append]
  rfl
theorem gcdL_take {ws : List Int} {i : Nat} {w : Int} (h : ws[i]? = some w) : gcdL (ws.take (i + 1)) = Nat.gcd (gcdL (ws.take i)) w.natAbs := by
  rw [List.take_succ, h]
  exact gcdL_snoc _ _
theorem gcdL_pos {ws : List Int} (hne : ws ≠ []) (h : ∀ w ∈ ws, w ≠ 0) : 0 < gcdL ws := by
  cases ws with
  | nil => exact absurd rfl hne
  | cons w r =>
    refine Nat.pos_of_ne_zero fun e => ?_
    have := (dvd_gcdL (d := gcdL (w :: r)) (ws := w :: r)).mp (Nat.dvd_refl _) w (List.mem_cons_self ..)
    rw [e] at this
    have := Nat.eq_zero_of_zero_dvd this
    exact h w (List.mem_cons_self ..) (Int.natAbs_eq_zero.mp this)
theorem gcdL_le {ws : List Int} {w : Int} (hm : w ∈ ws) (h : w ≠ 0) : gcdL ws ≤ w.natAbs :=
  Nat.le_of_dvd (by omega) ((dvd_gcdL (ws := ws)).mp (Nat.dvd_refl _) w hm)
/-- the integers by their greatest common divisor -/
theorem gcdL_div {ws : List Int} (hne : ws ≠ []) (h : ∀ w ∈ ws, w ≠ 0) : gcdL (ws.map fun w => w / (gcdL ws : Int)) = 1 ∧ ∀ w ∈ ws, w / (gcdL ws : Int) ≠ 0 ∧ (w / (gcdL ws : Int)).natAbs ≤ w.natAbs := by
  have hp := gcdL_pos hne h
  generalize eg : gcdL ws = g at hp
  have hd : ∀ w ∈ ws, (g : Int) ∣ w := fun w hw => by
    have := (dvd_gcdL (d := g) (ws := ws)).mp (by rw [eg]; exact Nat.dvd_refl _) w hw
    exact Int.ofNat_dvd_left.mpr this
  have he : ∀ w ∈ ws, (w / (g : Int)).natAbs * g = w.natAbs := fun w hw => by
    have := Int.ediv_mul_cancel (hd w hw)
    have h2 := congrArg Int.natAbs this
    rw [Int.natAbs_mul, Int.natAbs_natCast] at h2
    exact h2
  refine ⟨?_, fun w hw => ⟨fun z => ?_, ?_⟩⟩
  · generalize ee : gcdL (ws.map fun w => w / (g : Int)) = e
    have h1 : ∀ w ∈ ws, e * g ∣ w.natAbs := fun w hw => by
      rw [← he w hw]
      refine Nat.mul_dvd_mul_right ?_ g
      exact (dvd_gcdL (d := e)).mp (by rw [ee]; exact Nat.dvd_refl _) _ (List.mem_map.mpr ⟨w, hw, rfl⟩)
    have h2 : e * g ∣ g := by
      have := (dvd_gcdL (d := e * g) (ws := ws)).mpr h1
      rwa [eg] at this
    have h3 := Nat.le_of_dvd hp h2
    have h4 : e ≤ 1 := by
      refine Nat.le_of_not_lt fun z => ?_
      have := Nat.mul_le_mul_right g z
      omega
    have h5 : e ≠ 0 := fun z => by
      rw [z, Nat.zero_mul] at h2
      have := Nat.eq_zero_of_zero_dvd h2
      omega
    omega
  · have := he w hw
    rw [z] at this
    simp at this
    exact h w hw (Int.natAbs_eq_zero.mp this.symm)
  · have := he w hw
    rw [← this]
    exact Nat.le_mul_of_pos_right _ hp
/-- weights of a stage -/
structure WsOk (ws : List Int) : Prop where
  nz : ∀ w ∈ ws, w ≠ 0 ∧ w.natAbs ≤ 10 ^ 30
  one : gcdL ws = 1
theorem big30 : (10 : Int) ^ 30 = 1000000000000000000000000000000 := by decide
end SC
namespace SC
open PySem PySem.Spec PyProof.Rows L2 StrLaws
section
variable {K : PySem.W.Frag}
theorem dp_lst {H : Hp} {a : Addr} {ds : List PyData} (h : Dp K H (.ref a) (.list ds)) : ∃ xs, SqL K H a xs ∧ DpAll K H xs ds := by
  cases h with
  | lst h1 h2 => exact ⟨_, h1, h2⟩
theorem dp_tup {H : Hp} {a : Addr} {ds : List PyData} (h : Dp K H (.ref a) (.tuple ds)) : ∃ xs, SqT K H a xs ∧ DpAll K H xs ds := by
  cases h with
  | tup h1 h2 => exact ⟨_, h1, h2⟩
theorem dp_non {H : Hp} {v : V} (h : Dp K H v .none) : v = .non := by
  cases h with
  | non => rfl
theorem dp_int {H : Hp} {v : V} {i : Int} (h : Dp K H v (.int i)) : v = .int i := by
  cases h with
  | int => rfl
theorem dp_list {H : Hp} {v : V} {ds : List PyData} (h : Dp K H v (.list ds)) : ∃ a, v = .ref a := by
  cases h with
  | lst h1 h2 => exact ⟨_, rfl⟩
theorem dp_tuple {H : Hp} {v : V} {ds : List PyData} (h : Dp K H v (.tuple ds)) : ∃ a, v = .ref a := by
  cases h with
  | tup h1 h2 => exact ⟨_, rfl⟩
theorem mem_le_sum : ∀ {l : List Nat} {x : Nat}, x ∈ l → x ≤ l.sum
  | [], _, h => by cases h
  | y :: r, x, h => by
    rw [List.sum_cons]
    rcases List.mem_cons.mp h with e | e
    · omega
    · have := mem_le_sum e; omega
theorem nIn_le {ps : List (Int × Th)} {p : Int × Th} (h : p ∈ ps) : p.2.nIn ≤ nInL ps := by
  rw [nInL_eq]
  exact mem_le_sum (List.mem_map.mpr ⟨p, h, rfl⟩)
theorem nSt_le {ps : List (Int × Th)} {p : Int × Th} (h : p ∈ ps) : p.2.nSt ≤ nStL ps := by
  rw [nStL_eq]
  exact mem_le_sum (List.mem_map.mpr ⟨p, h, rfl⟩)
theorem sh_at {H : Hp} {ps : List (Int × Th)} {xs : List V} {i : Nat} {x : V} (h : DpAll K H xs (shDL ps)) (hx : xs[i]? = some x) : ∃ p, ps[i]? = some p ∧ Dp K H x p.2.shD := by
  obtain ⟨d, h1, h2⟩ := dps_get h hx
  rw [shDL_eq, List.getElem?_map] at h1
  cases e : ps[i]? with
  | none => rw [e] at h1; cases h1
  | some p =>
    rw [e] at h1
    have e2 : p.2.shD = d := Option.some.inj h1
    exact ⟨p, rfl, e2 ▸ h2⟩
theorem take_map {α β : Type} {f : α → β} {l : List α} {i : Nat} {x : α} (h : l[i]? = some x) : (l.take i).map f ++ [f x] = (l.take (i + 1)).map f := by
  rw [List.take_succ, h, List.map_append]
  rfl
end

/-! ## what stands in tuples stays, whatever lists and dicts become -/
def isT : HO → Bool
  | .tup _ => true
  | .frz _ _ => true
  | _ => false
def TSame (H H' : Hp) : Prop := ∀ a o, H a = some o → isT o = true → H' a = some o
theorem TSame.refl (H : Hp) : TSame H H := fun _ _ e _ => e
theorem TSame.trans {H1 H2 H3 : Hp} (h : TSame H1 H2) (g : TSame H2 H3) : TSame H1 H3 := fun a o e z => g a o (h a o e z) z
theorem ts_same {H H' : Hp} (s : Same H H') : TSame H H' := fun a o e _ => s a o e
theorem ts_hid {D : List Addr} {H H' : Hp} (hD : ∀ d ∈ D, ∀ o, H d = some o → isT o = false) (s : Same (hid D H) (hid D H')) : TSame H H' := fun a o e z => by
  by_cases ha : a ∈ D
  · rw [hD a ha o e] at z; cases z
  · exact (hid_get (s a o (hid_put ha e))).2
theorem ts_mut {H : Hp} {a : Addr} {o : HO} (h : ∀ o, H a = some o → isT o = false) : TSame H (upd H a o) := fun b x e z => by
  rw [upd_ne fun q => ?_]
  · exact e
  · subst q
    rw [h x e] at z; cases z
theorem ts_lst {H : Hp} {a : Addr} {xs : List V} {o : HO} (h : H a = some (.lst xs)) : TSame H (upd H a o) := ts_mut fun o e => by
  rw [h] at e; cases e; rfl
theorem deck_nt {H : Hp} {dk gr : Addr} (d : Deck H dk gr) : ∀ a ∈ [dk, gr], ∀ o, H a = some o → isT o = false := by
  obtain ⟨gs, mx, tn, d⟩ := d
  intro a ha o e
  rcases List.mem_cons.mp ha with z | z
  · rw [z, d.d] at e; cases e; rfl
  · rw [List.mem_singleton.mp z, d.g] at e; cases e; rfl
theorem ts_deck {H H' : Hp} {dk gr : Addr} (d : Deck H dk gr) (s : Same (hid [dk, gr] H) (hid [dk, gr] H')) : TSame H H' := ts_hid (deck_nt d) s
mutual
/-- no list, no dict -/
def tupD : PyData → Bool
  | .none => true
  | .bool _ => true
  | .int _ => true
  | .str _ => true
  | .list _ => false
  | .tuple xs => tupAll xs
  | .dict _ => false
def tupAll : List PyData → Bool
  | [] => true
  | x :: xs => tupD x && tupAll xs
end
theorem ts_t {K : PySem.W.Frag} {H H' : Hp} {a : Addr} {xs : List V} (s : TSame H H') (h : SqT K H a xs) : SqT K H' a xs := by
  rcases h with (h | ⟨o, h⟩) | h
  · exact .inl (.inl (s _ _ h rfl))
  · exact .inl (.inr ⟨o, s _ _ h rfl⟩)
  · exact .inr h
section
variable {K : PySem.W.Frag} {H H' : Hp}
mutual
theorem dp_t (s : TSame H H') : ∀ {v : V} {d : PyData}, tupD d = true → Dp K H v d → Dp K H' v d
  | _, _, _, .non => .non
  | _, _, _, .bl b => .bl b
  | _, _, _, .int i => .int i
  | _, _, _, .str x => .str x
  | _, _, h, .lst _ _ => by simp only [tupD] at h; cases h
  | _, _, h, .tup h1 h2 => .tup (ts_t s h1) (dps_t s (by simpa only [tupD] using h) h2)
theorem dps_t (s : TSame H H') : ∀ {vs : List V} {ds : List PyData}, tupAll ds = true → DpAll K H vs ds → DpAll K H' vs ds
  | _, _, _, .nil => .nil
  | _, _, h, .cons h1 h2 => by
    simp only [tupAll, Bool.and_eq_true] at h
    exact .cons (dp_t s h.1 h1) (dps_t s h.2 h2)
end
end
theorem tupAll_mem {ds : List PyData} : tupAll ds = true ↔ ∀ d ∈ ds, tupD d = true := by
  induction ds with
  | nil => simp [tupAll]
  | cons x xs ih => simp only [tupAll, Bool.and_eq_true, ih, List.mem_cons, forall_eq_or_imp]
theorem toD_t : ∀ t : Th, tupD t.toD = true := Th.ind (fun i => by simp only [Th.toD, tupD]) fun n c ps ih => by
  simp only [Th.toD, tupD, tupAll, toDL_eq, Bool.and_true, Bool.true_and]
  exact tupAll_mem.mpr fun d hd => by
    obtain ⟨p, hp, rfl⟩ := List.mem_map.mp hd
    simp only [tupD, tupAll, Bool.and_true, Bool.true_and]
    exact ih p hp

/-! ## good plans -/
structure StOk (n c : Int) (ws : List Int) : Prop where
  n1 : 1 ≤ n
  n2 : n ≤ 10 ^ 30
  c0 : 0 ≤ c
  c1 : c < n
  ws : WsOk ws
mutual
def Th.good : Th → Prop
  | .inp _ => True
  | .st n c ps => StOk n c (ps.map (·.1)) ∧ goodL ps
def goodL : List (Int × Th) → Prop
  | [] => True
  | (_, t) :: r => t.good ∧ goodL r
end
mutual
/-- the inputs, in order -/
def Th.ins : Th → List Int
  | .inp i => [i]
  | .st _ _ ps => insL ps
def insL : List (Int × Th) → List Int
  | [] => []
  | (_, t) :: r => t.ins ++ insL r
end
theorem goodL_iff : ∀ {ps : List (Int × Th)}, goodL ps ↔ ∀ p ∈ ps, p.2.good
  | [] => by simp [goodL]
  | (w, t) :: r => by simp only [goodL, List.mem_cons, forall_eq_or_imp, goodL_iff (ps := r)]
theorem insL_eq : ∀ ps : List (Int × Th), insL ps = (ps.map fun p => p.2.ins).flatten
  | [] => by simp only [insL, List.map_nil, List.flatten_nil]
  | (w, t) :: r => by simp only [insL, List.map_cons, List.flatten_cons, insL_eq r]
theorem ins_len : ∀ t : Th, t.ins.length = t.nIn := Th.ind (fun i => by simp only [Th.ins, Th.nIn, List.length_singleton]) fun n c ps ih => by
  simp only [Th.ins, Th.nIn, insL_eq, nInL_eq, List.length_flatten, List.map_map]
  exact congrArg List.sum (List.map_congr_left fun p hp => ih p hp)
theorem insL_len (ps : List (Int × Th)) : (insL ps).length = nInL ps := by
  have := ins_len (.st 0 0 ps)
  simpa only [Th.ins, Th.nIn] using this
theorem nStL_app (a b : List (Int × Th)) : nStL (a ++ b) = nStL a + nStL b := by rw [nStL_eq, nStL_eq, nStL_eq, List.map_append, List.sum_append]
theorem nInL_app (a b : List (Int × Th)) : nInL (a ++ b) = nInL a + nInL b := by rw [nInL_eq, nInL_eq, nInL_eq, List.map_append, List.sum_append]
theorem insL_app (a b : List (Int × Th)) : insL (a ++ b) = insL a ++ insL b := by rw [insL_eq, insL_eq, insL_eq, List.map_append, List.flatten_append]
theorem depL_app : ∀ (a b : List (Int × Th)), depL (a ++ b) = max (depL a) (depL b)
  | [], b => by simp [depL]
  | (w, t) :: r, b => by
    rw [List.cons_append]
    simp only [depL, depL_app r b]
    omega
theorem nStL_one (p : Int × Th) : nStL [p] = p.2.nSt := by obtain ⟨w, t⟩ := p; simp only [nStL, Nat.add_zero]
theorem nInL_one (p : Int × Th) : nInL [p] = p.2.nIn := by obtain ⟨w, t⟩ := p; simp only [nInL, Nat.add_zero]
theorem insL_one (p : Int × Th) : insL [p] = p.2.ins := by obtain ⟨w, t⟩ := p; simp only [insL, List.append_nil]
theorem depL_one (p : Int × Th) : depL [p] = p.2.dep := by obtain ⟨w, t⟩ := p; simp only [depL]; omega
theorem take_one {α : Type} {l : List α} {i : Nat} {x : α} (h : l[i]? = some x) : l.take (i + 1) = l.take i ++ [x] := by
  rw [List.take_succ, h]
  rfl
theorem nInL_take {ps : List (Int × Th)} {i : Nat} {p : Int × Th} (h : ps[i]? = some p) : nInL (ps.take i) + p.2.nIn ≤ nInL ps := by
  have e : ps = ps.take (i + 1) ++ ps.drop (i + 1) := (List.take_append_drop ..).symm
  rw [e, nInL_app, take_one h, nInL_app, nInL_one]
  rw [← take_one h, ← e]
  omega
/-- a plan made by a shape -/
structure Made (t u : Th) : Prop where
  st : u.nSt = t.nSt
  inp : u.nIn = t.nIn
  dep : u.dep = t.dep
  full : u.full = true
  good : u.good
/-- 0, 1, .. -/
def rngI (n : Nat) : List Int := (List.range n).map Int.ofNat
/-- a plan -/
structure IsPlan (u : Th) : Prop where
  st : ∃ c d ps, u = .st c d ps
  good : u.good
  full : u.full = true
  many : u.nSt ≤ 12
  deep : u.dep ≤ 8
  inp : u.nIn ≤ 24
  perm : u.ins.Perm (rngI u.nIn)
theorem g_lstRg {te : L2.St → Hp → (Int → Int → Hp → Prop) → Prop} {σ : L2.St} {H : Hp} {Q : VK} (q : te σ H fun a b H1 => RgOk a b ∧ ∀ q, H1 q = none → Q (.ref q) (upd H1 q (.lst (rgV a b)))) : tLstRg te σ H Q := q
theorem g_rg1 {ta : TE} {σ : L2.St} {H : Hp} {Q : Int → Int → Hp → Prop} (q : ta σ H fun x H1 => ∃ n, x = V.int n ∧ Q 0 n H1) : tRg1 ta σ H Q := q
theorem rgV_eq (n : Nat) : rgV 0 (n : Int) = (rngI n).map V.int := by
  unfold rgV rngI
  simp
theorem hid_third {Ha Hl Hb : Hp} {dk gr lf : Addr} (s1 : Same (hid [dk, gr] Ha) (hid [dk, gr] Hl)) (s2 : Same (hid [dk, gr] Hl) (hid [dk, gr] Hb)) (n : Hl lf = none) : Same (hid [dk, gr] Ha) (hid [dk, gr, lf] Hb) := fun a o e => by
  have e1 := s1 a o e
  obtain ⟨k1, k2⟩ := hid_get (s2 a o e1)
  refine hid_put (fun z => ?_) k2
  simp only [List.mem_cons, List.not_mem_nil, or_false, not_or] at k1 z
  rcases z with z | z | z
  · exact k1.1 z
  · exact k1.2 z
  · rw [z, hid_none n] at e1; cases e1
theorem three_two {H : Hp} {dk gr lf : Addr} : Same (hid [dk, gr, lf] H) (hid [dk, gr] H) := hid_mono fun z hz => by
  simp only [List.mem_cons, List.not_mem_nil, or_false] at hz ⊢
  rcases hz with e | e
  · exact .inl e
  · exact .inr (.inl e)
end SC
namespace SC
open PySem PySem.Spec PyProof.Rows L2 StrLaws

/-! ## for i, x in enumerate(t), t a tuple -/
def iEnumT (K : PySem.W.Frag) (ta : TA) : TI := fun σ H R => ta σ H fun vs H1 => ∃ a xs, vs = [.ref a] ∧ SqT K H1 a xs ∧ R (Itet K a) H1
theorem pi_enumT {X : Cx} {e : Expr} {ta : TA} {p pos tpos : Pos} {elts : List Expr} {kk : Nat} (hg : Gl X "enumerate") (hm : X.mg "enumerate" = none) (ha : PA X [e] ta)
    (hs : starEach [e] X.env = [(false, eval e X.env)] := by rfl) :
    PI X (.Tuple elts kk tpos) (.Call (.Name "enumerate" p) [e] [] pos) (iEnumT X.K ta) := .mk fun pins s σ H R I h => by
  refine Call_ (ld_blt I hg hm boot_enumerate (PyProof.Rows.callWith_type1 (thn (ha.run pos pins s σ H _ I h) ?_) hs rfl))
  rintro us t ⟨vs, H1, J, rel, a, xs, rfl, hq, q⟩
  obtain ⟨u, rfl, ru⟩ := vals1 rel
  cases ru
  obtain ⟨its, rv, ht, hz⟩ := J.tuple hq
  refine enum_one (begins_tuple a its.toArray) (show t.heap.IsTuple a its.toArray from ht) fun h' he hi hsz hk => wpAny_pyIter_enum he ?_
  have la : a < t.heap.objs.size := by
    obtain ⟨o, ho, _⟩ := id ht
    exact Heap.lt_size ho
  have J2 : Inv X pins σ H1 { t with heap := h' } := J.kept (t' := t.toks) hk
  refine ⟨t.heap.objs.size + 1, [t.heap.objs.size + 1, t.heap.objs.size], _, _, H1, rfl, J2, turn_enumT a (t.heap.objs.size + 1) t.heap.objs.size, ⟨⟨_, he⟩, ⟨_, hi, rfl, rfl⟩, Nat.succ_ne_self _, Nat.ne_of_gt (Nat.lt_succ_of_lt la), Nat.ne_of_gt la⟩, fun b hb => ?_, q⟩
  have le : t.heap.objs.size ≤ b := by
    rcases List.mem_cons.mp hb with z | z
    · rw [z]; exact Nat.le_succ _
    · rw [List.mem_singleton.mp z]; exact Nat.le_refl _
  exact J.fpOk le (J.hok.fresh le)
theorem g_iEnumT {K : PySem.W.Frag} {ta : TA} {σ : L2.St} {H : Hp} {R : It → Hp → Prop} (q : ta σ H fun vs H1 => ∃ a xs, vs = [.ref a] ∧ SqT K H1 a xs ∧ R (Itet K a) H1) : iEnumT K ta σ H R := q
/-- the loop over it -/
theorem for_E {K : PySem.W.Frag} {a : Addr} {xs : List V} {g : TG} {tb : TS} {nx : L2.St → Hp → Prop} {rt : VK} {σ : L2.St} {H : Hp} (Pv : Nat → L2.St → Hp → Prop) (h0 : Pv 0 σ H)
    (hq : ∀ i σ H, Pv i σ H → SqT K H a xs)
    (hs : ∀ i x T σ H, xs[i]? = some x → Pv i σ H → H T = none → g (.ref T) σ (upd H T (.tup [.int (i : Nat), x])) fun σ2 H2 => tb { nx := Pv (i + 1), rt := rt, bk := nx, ct := Pv (i + 1) } σ2 H2)
    (hd : ∀ σ H, Pv xs.length σ H → nx σ H) : ForGoal (Itet K a) g tb nx rt σ H :=
  for_W (walk_enumT (xs := xs)) Pv h0 (fun i σ H _ p => hq i σ H p) (fun i x σ H H' hi p y => by
    obtain ⟨T, u, v, rfl, h1, rfl, h3, h4⟩ := y
    obtain rfl := Option.some.inj h3
    exact hs i v T σ H h4 p h1) hd
end SC
namespace SC
open PySem PySem.Spec PyProof.Rows L2 StrLaws
section
variable {K : PySem.W.Frag} {H : Hp} {Q : VK}
theorem tyx_t {a : Addr} {xs : List V} (h : SqT K H a xs) : TyX K H (.ref a) (.type "tuple") := by
  rcases h with (h | ⟨o, h⟩) | ⟨o, its, n, h1, h2, _⟩
  · exact .base (.tup h)
  · exact .fTuple h
  · exact .kTuple h1 h2
theorem tyx_l {a : Addr} {xs : List V} (h : H a = some (.lst xs)) : TyX K H (.ref a) (.type "list") := .base (.lst h)
theorem isi_tt {a : Addr} {xs : List V} (h : SqT K H a xs) (q : Q (.bl true) H) : rIsi K [.ref a, .ty "tuple"] H Q := ⟨_, _, _, _, true, rfl, .ty _, tyx_t h, kit_ty (by decide +kernel), q⟩
theorem isi_it {i : Int} (q : Q (.bl false) H) : rIsi K [.int i, .ty "tuple"] H Q := ⟨_, _, _, _, false, rfl, .ty _, .base (.int _), kit_ty (by decide +kernel), q⟩
theorem isi_ii {i : Int} (q : Q (.bl true) H) : rIsi K [.int i, .ty "int"] H Q := ⟨_, _, _, _, true, rfl, .ty _, .base (.int _), kit_ty (by decide +kernel), q⟩
theorem isi_ib {i : Int} (q : Q (.bl false) H) : rIsi K [.int i, .ty "bool"] H Q := ⟨_, _, _, _, false, rfl, .ty _, .base (.int _), kit_ty (by decide +kernel), q⟩
theorem isi_ti {a : Addr} {xs : List V} (h : SqT K H a xs) (q : Q (.bl false) H) : rIsi K [.ref a, .ty "int"] H Q := ⟨_, _, _, _, false, rfl, .ty _, tyx_t h, kit_ty (by decide +kernel), q⟩
/-- t + u, both with items -/
theorem l_catT {a b : Addr} {xs ys : List V} (h1 : SqT K H a xs) (h2 : SqT K H b ys) (hn : ys ≠ []) (hl : xs.length + ys.length ≤ sizeLine)
    (q : ∀ p H', TSame H H' → Same H H' → SqT K H' p (xs ++ ys) → Q (.ref p) H') : rCatA K (.ref a) (.ref b) H Q := by
  refine ⟨a, b, xs, ys, rfl, rfl, h1, h2, hl, fun e => ?_, fun _ e => absurd e hn, fun _ _ p np => ?_⟩
  · subst e
    exact q b H (TSame.refl H) (Same.refl H) h2
  · exact q p _ (ts_same (same_new np)) (same_new np) (sq_t upd_same)
theorem l_extL {l b : Addr} {xs ys : List V} (h : H l = some (.lst xs)) (h2 : H b = some (.lst ys)) (hl : xs.length + ys.length ≤ 1000000) (q : Q .non (upd H l (.lst (xs ++ ys)))) : rExtend (.ref l) [.ref b] H Q := ⟨l, b, xs, ys, rfl, rfl, h, h2, sz hl, q⟩
end
/-! ## all things within a thing, with their ways -/
mutual
def Th.things : Th → List Int → List (List Int × Th)
  | .inp i, w => [(w, .inp i)]
  | .st n c ps, w => (w, .st n c ps) :: thingsAt ps w 0
def thingsAt : List (Int × Th) → List Int → Nat → List (List Int × Th)
  | [], _, _ => []
  | (_, t) :: r, w, k => t.things (w ++ [(k : Int)]) ++ thingsAt r w (k + 1)
end
theorem thingsAt_app : ∀ (a b : List (Int × Th)) (w : List Int) (k : Nat), thingsAt (a ++ b) w k = thingsAt a w k ++ thingsAt b w (k + a.length)
  | [], b, w, k => by simp only [List.nil_append, thingsAt, List.length_nil, Nat.add_zero]
  | (x, t) :: a, b, w, k => by
    rw [List.cons_append]
    simp only [thingsAt, thingsAt_app a b w (k + 1), List.append_assoc, List.length_cons]
    rw [Nat.add_assoc k 1, Nat.add_comm 1]
theorem thingsAt_take {ps : List (Int × Th)} {i : Nat} {x : Int} {t : Th} (w : List Int) (h : ps[i]? = some (x, t)) : thingsAt (ps.take (i + 1)) w 0 = thingsAt (ps.take i) w 0 ++ t.things (w ++ [(i : Int)]) := by
  have hl : (ps.take i).length = i := by
    rw [List.length_take]
    have := (List.getElem?_eq_some_iff.mp h).1
    omega
  rw [take_one h, thingsAt_app, hl]
  simp only [thingsAt, List.append_nil, Nat.zero_add]
mutual
theorem things_len : ∀ (t : Th) (w : List Int), (t.things w).length = t.nIn + t.nSt
  | .inp _, _ => by simp only [Th.things, Th.nIn, Th.nSt, List.length_singleton]
  | .st _ _ ps, w => by simp only [Th.things, Th.nIn, Th.nSt, List.length_cons, thingsAt_len ps w 0]; omega
theorem thingsAt_len : ∀ (ps : List (Int × Th)) (w : List Int) (k : Nat), (thingsAt ps w k).length = nInL ps + nStL ps
  | [], _, _ => by simp only [thingsAt, nInL, nStL, List.length_nil]
  | (_, t) :: r, w, k => by simp only [thingsAt, nInL, nStL, List.length_append, things_len t, thingsAt_len r]; omega
end
def wayD (w : List Int) : PyData := .tuple (w.map PyData.int)
def thD (p : List Int × Th) : PyData := .tuple [wayD p.1, p.2.toD]
theorem wayD_t (w : List Int) : tupD (wayD w) = true := by
  simp only [wayD, tupD]
  exact tupAll_mem.mpr fun d hd => by
    obtain ⟨i, _, rfl⟩ := List.mem_map.mp hd
    simp only [tupD]
theorem thD_t (l : List (List Int × Th)) : tupAll (l.map thD) = true := tupAll_mem.mpr fun d hd => by
  obtain ⟨p, _, rfl⟩ := List.mem_map.mp hd
  simp only [thD, tupD, tupAll, wayD_t, toD_t, Bool.and_self]
theorem nSt_take {ps : List (Int × Th)} {i : Nat} {p : Int × Th} (h : ps[i]? = some p) : nStL (ps.take i) + p.2.nSt ≤ nStL ps := by
  have e : ps = ps.take (i + 1) ++ ps.drop (i + 1) := (List.take_append_drop ..).symm
  rw [e, nStL_app, take_one h, nStL_app, nStL_one]
  rw [← take_one h, ← e]
  omega
/-- a plan's data, taken apart -/
theorem pl_at {K : PySem.W.Frag} {H : Hp} {n c : Int} {ps : List (Int × Th)} {a : Addr} (h : Dp K H (.ref a) (Th.st n c ps).toD) :
    ∃ b xs, SqT K H a [.int n, .int c, .ref b] ∧ SqT K H b xs ∧ DpAll K H xs (toDL ps) := by
  simp only [Th.toD] at h
  obtain ⟨vs, h1, h2⟩ := dp_tup h
  cases h2 with
  | cons k1 k2 =>
    cases k2 with
    | cons k3 k4 =>
      cases k4 with
      | cons k5 k6 =>
        cases k6
        obtain rfl := dp_int k1
        obtain rfl := dp_int k3
        obtain ⟨b, rfl⟩ := dp_tuple k5
        obtain ⟨xs, g1, g2⟩ := dp_tup k5
        exact ⟨b, xs, h1, g1, g2⟩
/-- one of its parts -/
theorem part_at {K : PySem.W.Frag} {H : Hp} {ps : List (Int × Th)} {xs : List V} {i : Nat} {x : V} (h : DpAll K H xs (toDL ps)) (hx : xs[i]? = some x) :
    ∃ w t q v, ps[i]? = some (w, t) ∧ x = .ref q ∧ SqT K H q [.int w, v] ∧ Dp K H v t.toD := by
  obtain ⟨d, h1, h2⟩ := dps_get h hx
  rw [toDL_eq, List.getElem?_map] at h1
  cases e : ps[i]? with
  | none => rw [e] at h1; cases h1
  | some p =>
    rw [e] at h1
    have e2 : PyData.tuple [.int p.1, p.2.toD] = d := Option.some.inj h1
    subst e2
    obtain ⟨q, rfl⟩ := dp_tuple h2
    obtain ⟨vs, k1, k2⟩ := dp_tup h2
    cases k2 with
    | cons k3 k4 =>
      cases k4 with
      | cons k5 k6 =>
        cases k6
        obtain rfl := dp_int k3
        exact ⟨p.1, p.2, q, _, rfl, rfl, k1, k5⟩
theorem toDL_len (ps : List (Int × Th)) : (toDL ps).length = ps.length := by rw [toDL_eq, List.length_map]
/-- a def that is never called so deep -/
theorem fn_none {P : Program} {w : World} {K : PySem.W.Frag} {mg : Str → Option Value} {base : Heap} {k : Nat} {f : Addr} {fd : FuncData} {ps : List Str} : FnOk P w K mg base CX0 k f fd ps (fun _ _ _ _ => False) where
  len := fun _ _ _ _ h => h.elim
  run := by
    intros
    contradiction
end SC
namespace SC
open PySem PySem.Spec PyProof.Rows L2 StrLaws
/-! ## a plan without its offsets, and with others -/
mutual
def Th.bare : Th → Th
  | .inp i => .inp i
  | .st n _ ps => .st n 0 (bareL ps)
def bareL : List (Int × Th) → List (Int × Th)
  | [] => []
  | (w, t) :: r => (w, t.bare) :: bareL r
end
mutual
/-- the offsets, in order -/
def Th.offs : Th → List Int
  | .inp _ => []
  | .st _ c ps => c :: offsL ps
def offsL : List (Int × Th) → List Int
  | [] => []
  | (_, t) :: r => t.offs ++ offsL r
end
theorem bareL_eq : ∀ ps : List (Int × Th), bareL ps = ps.map fun p => (p.1, p.2.bare)
  | [] => by simp only [bareL, List.map_nil]
  | (w, t) :: r => by simp only [bareL, List.map_cons, bareL_eq r]
theorem bareL_app (a b : List (Int × Th)) : bareL (a ++ b) = bareL a ++ bareL b := by rw [bareL_eq, bareL_eq, bareL_eq, List.map_append]
theorem bareL_fst (ps : List (Int × Th)) : (bareL ps).map (·.1) = ps.map (·.1) := by rw [bareL_eq, List.map_map]; rfl
theorem bareL_len (ps : List (Int × Th)) : (bareL ps).length = ps.length := by rw [bareL_eq, List.length_map]
mutual
theorem bare_nIn : ∀ t : Th, t.bare.nIn = t.nIn
  | .inp _ => by simp only [Th.bare, Th.nIn]
  | .st _ _ ps => by simp only [Th.bare, Th.nIn, bareL_nIn ps]
theorem bareL_nIn : ∀ ps : List (Int × Th), nInL (bareL ps) = nInL ps
  | [] => by simp only [bareL]
  | (_, t) :: r => by simp only [bareL, nInL, bare_nIn t, bareL_nIn r]
end
mutual
theorem bare_nSt : ∀ t : Th, t.bare.nSt = t.nSt
  | .inp _ => by simp only [Th.bare, Th.nSt]
  | .st _ _ ps => by simp only [Th.bare, Th.nSt, bareL_nSt ps]
theorem bareL_nSt : ∀ ps : List (Int × Th), nStL (bareL ps) = nStL ps
  | [] => by simp only [bareL]
  | (_, t) :: r => by simp only [bareL, nStL, bare_nSt t, bareL_nSt r]
end
mutual
theorem bare_dep : ∀ t : Th, t.bare.dep = t.dep
  | .inp _ => by simp only [Th.bare, Th.dep]
  | .st _ _ ps => by simp only [Th.bare, Th.dep, bareL_dep ps]
theorem bareL_dep : ∀ ps : List (Int × Th), depL (bareL ps) = depL ps
  | [] => by simp only [bareL]
  | (_, t) :: r => by simp only [bareL, depL, bare_dep t, bareL_dep r]
end
mutual
theorem bare_full : ∀ t : Th, t.bare.full = t.full
  | .inp _ => by simp only [Th.bare, Th.full]
  | .st _ _ ps => by
    simp only [Th.bare, Th.full, bareL_full ps]
    cases ps with
    | nil => simp only [bareL]
    | cons a b => obtain ⟨w, t⟩ := a; simp only [bareL]; rfl
theorem bareL_full : ∀ ps : List (Int × Th), fullL (bareL ps) = fullL ps
  | [] => by simp only [bareL]
  | (_, t) :: r => by simp only [bareL, fullL, bare_full t, bareL_full r]
end
mutual
theorem bare_ins : ∀ t : Th, t.bare.ins = t.ins
  | .inp _ => by simp only [Th.bare, Th.ins]
  | .st _ _ ps => by simp only [Th.bare, Th.ins, bareL_ins ps]
theorem bareL_ins : ∀ ps : List (Int × Th), insL (bareL ps) = insL ps
  | [] => by simp only [bareL]
  | (_, t) :: r => by simp only [bareL, insL, bare_ins t, bareL_ins r]
end
mutual
theorem offs_len : ∀ t : Th, t.offs.length = t.nSt
  | .inp _ => by simp only [Th.offs, Th.nSt, List.length_nil]
  | .st _ _ ps => by simp only [Th.offs, Th.nSt, List.length_cons, offsL_len ps]
theorem offsL_len : ∀ ps : List (Int × Th), (offsL ps).length = nStL ps
  | [] => by simp only [offsL, nStL, List.length_nil]
  | (_, t) :: r => by simp only [offsL, nStL, List.length_append, offs_len t, offsL_len r]
end
/-- a plan but for its offsets is a plan -/
theorem IsPlan.of_bare {t u : Th} (h : IsPlan t) (e : t.bare = u.bare) (g : u.good) : IsPlan u := by
  refine ⟨?_, g, by rw [← bare_full, ← e, bare_full]; exact h.full, by rw [← bare_nSt, ← e, bare_nSt]; exact h.many, by rw [← bare_dep, ← e, bare_dep]; exact h.deep, by rw [← bare_nIn, ← e, bare_nIn]; exact h.inp, ?_⟩
  · obtain ⟨c, d, ps, rfl⟩ := h.st
    cases u with
    | inp i => simp only [Th.bare] at e; cases e
    | st a b qs => exact ⟨a, b, qs, rfl⟩
  · rw [← bare_ins, ← bare_nIn, ← e, bare_ins, bare_nIn]
    exact h.perm
/-- the offset of a stage among ways and things -/
def offOf : List Int × Th → Option Int
  | (_, .inp _) => none
  | (_, .st _ c _) => some c
/-- the way of a stage among ways and things -/
def wayOf : List Int × Th → Option (List Int)
  | (_, .inp _) => none
  | (w, .st _ _ _) => some w
mutual
theorem things_offs : ∀ (t : Th) (w : List Int), (t.things w).filterMap offOf = t.offs
  | .inp _, _ => by simp only [Th.things, Th.offs, List.filterMap_cons, offOf, List.filterMap_nil]
  | .st _ _ ps, w => by simp only [Th.things, Th.offs, List.filterMap_cons, offOf, thingsAt_offs ps w 0]
theorem thingsAt_offs : ∀ (ps : List (Int × Th)) (w : List Int) (k : Nat), (thingsAt ps w k).filterMap offOf = offsL ps
  | [], _, _ => by simp only [thingsAt, offsL, List.filterMap_nil]
  | (_, t) :: r, w, k => by simp only [thingsAt, offsL, List.filterMap_append, things_offs t, thingsAt_offs r]
end
theorem fm_take {α β : Type} {f : α → Option β} {l : List α} {i : Nat} {x : α} (h : l[i]? = some x) : (l.take (i + 1)).filterMap f = (l.take i).filterMap f ++ (f x).toList := by
  rw [take_one h, List.filterMap_append, List.filterMap_cons, List.filterMap_nil]
  cases f x <;> rfl
theorem fm_len {α β : Type} {f : α → Option β} (l : List α) (i : Nat) : ((l.take i).filterMap f).length ≤ l.length := Nat.le_trans (List.length_filterMap_le ..) (by rw [List.length_take]; omega)
/-- one of the ways and things -/
theorem thing_at {K : PySem.W.Frag} {H : Hp} {l : List (List Int × Th)} {zs : List V} {i : Nat} {x : V} (h : DpAll K H zs (l.map thD)) (hx : zs[i]? = some x) :
    ∃ w t q wa v, l[i]? = some (w, t) ∧ x = .ref q ∧ SqT K H q [.ref wa, v] ∧ Dp K H (.ref wa) (wayD w) ∧ Dp K H v t.toD := by
  obtain ⟨d, h1, h2⟩ := dps_get h hx
  rw [List.getElem?_map] at h1
  cases e : l[i]? with
  | none => rw [e] at h1; cases h1
  | some p =>
    rw [e] at h1
    have e2 : thD p = d := Option.some.inj h1
    subst e2
    obtain ⟨q, rfl⟩ := dp_tuple h2
    obtain ⟨vs, k1, k2⟩ := dp_tup h2
    cases k2 with
    | cons k3 k4 =>
      cases k4 with
      | cons k5 k6 =>
        cases k6
        obtain ⟨wa, rfl⟩ := dp_tuple k3
        exact ⟨p.1, p.2, q, wa, _, rfl, rfl, k1, k3, k5⟩
def Th.isSt : Th → Bool
  | .inp _ => false
  | .st _ _ _ => true
/-- the ways and stages within a thing -/
def Th.sts (t : Th) (w : List Int) : List (List Int × Th) := (t.things w).filter fun p => p.2.isSt
def stsAt (ps : List (Int × Th)) (w : List Int) (k : Nat) : List (List Int × Th) := (thingsAt ps w k).filter fun p => p.2.isSt
theorem sts_inp (i : Int) (w : List Int) : (Th.inp i).sts w = [] := by simp [Th.sts, Th.things, Th.isSt]
theorem sts_st (n c : Int) (ps : List (Int × Th)) (w : List Int) : (Th.st n c ps).sts w = (w, .st n c ps) :: stsAt ps w 0 := by
  unfold Th.sts stsAt
  simp only [Th.things]
  rw [List.filter_cons_of_pos (by rfl)]
theorem stsAt_take {ps : List (Int × Th)} {i : Nat} {x : Int} {t : Th} (w : List Int) (h : ps[i]? = some (x, t)) : stsAt (ps.take (i + 1)) w 0 = stsAt (ps.take i) w 0 ++ t.sts (w ++ [(i : Int)]) := by
  unfold stsAt Th.sts
  rw [thingsAt_take w h, List.filter_append]
mutual
theorem sts_len : ∀ (t : Th) (w : List Int), (t.sts w).length = t.nSt
  | .inp i, w => by rw [sts_inp]; simp only [Th.nSt, List.length_nil]
  | .st n c ps, w => by rw [sts_st]; simp only [Th.nSt, List.length_cons, stsAt_len ps w 0]
theorem stsAt_len : ∀ (ps : List (Int × Th)) (w : List Int) (k : Nat), (stsAt ps w k).length = nStL ps
  | [], _, _ => by simp only [stsAt, thingsAt, nStL, List.filter_nil, List.length_nil]
  | (_, t) :: r, w, k => by
    have h1 := sts_len t (w ++ [(k : Int)])
    have h2 := stsAt_len r w (k + 1)
    unfold Th.sts at h1
    unfold stsAt at h2 ⊢
    simp only [thingsAt, nStL, List.filter_append, List.length_append, h1, h2]
end
theorem sts_offs (t : Th) (w : List Int) : (t.sts w).filterMap offOf = t.offs := by
  unfold Th.sts
  rw [List.filterMap_filter, ← things_offs t w]
  congr 1
  funext p
  obtain ⟨v, s⟩ := p
  cases s <;> rfl
theorem sts_ways (t : Th) (w : List Int) : (t.sts w).map (·.1) = (t.things w).filterMap wayOf := by
  unfold Th.sts
  rw [← List.filterMap_eq_map, List.filterMap_filter]
  congr 1
  funext p
  obtain ⟨v, s⟩ := p
  cases s <;> rfl
theorem sts_all {t : Th} {w : List Int} {p : List Int × Th} (h : p ∈ t.sts w) : p.2.isSt = true := (List.mem_filter.mp h).2
theorem ways_ints {K : PySem.W.Frag} : ∀ {xs : List V} {way : List Int} {H : Hp}, DpAll K H xs (way.map PyData.int) → xs = way.map V.int
  | [], [], _, _ => rfl
  | [], _ :: _, _, h => by cases h
  | _ :: _, [], _, h => by cases h
  | x :: xs, i :: way, H, .cons h1 h2 => by rw [dp_int h1, ways_ints h2]; rfl
/-! ## the inputs, stage by stage -/
def inpOf : Int × Th → Option Int
  | (_, .inp i) => some i
  | (_, .st _ _ _) => none
def dirOf : Th → List Int
  | .inp _ => []
  | .st _ _ ps => ps.filterMap inpOf
def numsOf (l : List (List Int × Th)) : List Int := l.flatMap fun p => dirOf p.2
theorem numsOf_app (a b : List (List Int × Th)) : numsOf (a ++ b) = numsOf a ++ numsOf b := by unfold numsOf; rw [List.flatMap_append]
mutual
theorem nums_perm : ∀ (n c : Int) (ps : List (Int × Th)) (w : List Int), (numsOf ((Th.st n c ps).sts w)).Perm (Th.st n c ps).ins
  | n, c, ps, w => by
    rw [sts_st]
    have e : numsOf ((w, Th.st n c ps) :: stsAt ps w 0) = ps.filterMap inpOf ++ numsOf (stsAt ps w 0) := by unfold numsOf; rw [List.flatMap_cons]; rfl
    rw [e]
    simp only [Th.ins]
    exact numsL_perm ps w 0
theorem numsL_perm : ∀ (ps : List (Int × Th)) (w : List Int) (k : Nat), (ps.filterMap inpOf ++ numsOf (stsAt ps w k)).Perm (insL ps)
  | [], _, _ => by simp [stsAt, thingsAt, numsOf, insL]
  | (x, .inp i) :: r, w, k => by
    have h := numsL_perm r w (k + 1)
    have e : stsAt ((x, Th.inp i) :: r) w k = stsAt r w (k + 1) := by
      unfold stsAt
      simp only [thingsAt, Th.things, List.singleton_append]
      rw [List.filter_cons_of_neg (by simp [Th.isSt])]
    rw [e]
    simp only [List.filterMap_cons, inpOf, insL, Th.ins, List.singleton_append, List.cons_append]
    exact h.cons i
  | (x, .st n c qs) :: r, w, k => by
    have h := numsL_perm r w (k + 1)
    have g := nums_perm n c qs (w ++ [(k : Int)])
    have e : stsAt ((x, Th.st n c qs) :: r) w k = (Th.st n c qs).sts (w ++ [(k : Int)]) ++ stsAt r w (k + 1) := by
      unfold stsAt Th.sts
      simp only [thingsAt]
      rw [List.filter_append]
    rw [e, numsOf_app]
    simp only [List.filterMap_cons, inpOf, insL]
    rw [← List.append_assoc]
    refine (List.perm_append_comm.append_right _).trans ?_
    rw [List.append_assoc]
    exact g.append h
end
mutual
theorem things_sub : ∀ (t : Th) (w : List Int), t.full = true → ∀ p ∈ t.things w, p.2.full = true ∧ p.2.nIn ≤ t.nIn
  | .inp i, w, hf, p, hp => by
    simp only [Th.things, List.mem_singleton] at hp
    rw [hp]; exact ⟨hf, Nat.le_refl _⟩
  | .st n c ps, w, hf, p, hp => by
    simp only [Th.things, List.mem_cons] at hp
    rcases hp with rfl | hp
    · exact ⟨hf, Nat.le_refl _⟩
    · simp only [Th.full, Bool.and_eq_true] at hf
      have h := thingsAt_sub ps w 0 hf.2 p hp
      simp only [Th.nIn]
      exact h
theorem thingsAt_sub : ∀ (ps : List (Int × Th)) (w : List Int) (k : Nat), fullL ps = true → ∀ p ∈ thingsAt ps w k, p.2.full = true ∧ p.2.nIn ≤ nInL ps
  | [], _, _, _, p, hp => by simp [thingsAt] at hp
  | (_, t) :: r, w, k, hf, p, hp => by
    simp only [fullL, Bool.and_eq_true] at hf
    simp only [thingsAt, List.mem_append] at hp
    simp only [nInL]
    rcases hp with hp | hp
    · have h := things_sub t _ hf.1 p hp
      exact ⟨h.1, by omega⟩
    · have h := thingsAt_sub r w (k + 1) hf.2 p hp
      exact ⟨h.1, by omega⟩
end
end SC
namespace SC
open PySem PySem.Spec PyProof.Rows L2 StrLaws

/-! ## {t: v for ..}, t tuples of integers -/
section
variable {X : Cx} {pins : List (Addr × Obj)} {σ : L2.St} {H : Hp} {s : Shared}
theorem set_dt {E : Value → Shared → Prop} {d b : Addr} {kvs : List (List L2.Key × V)} {k : List L2.Key} {v : V} {r : Value} {Q : Unit → Shared → Prop} (hu : X.A.units + 1 < cLine) (I : Inv X pins σ H s)
    (e : H d = some (.dT kvs)) (eb : H b = some (.tup (k.map kV))) (hl : kvs.length < sizeLine) (rv : RelV v r) (h : ∀ t, Inv X pins σ (upd H d (.dT (putK kvs k v))) t → Q () t) :
    wpAny (model X.prog X.w) X.A (dictSet d (.ref b) r) Q E s := by
  obtain ⟨z, hd, xs, rel, dd⟩ := dt_of I.hok e
  have zl : xs.length ≤ sizeLine := Paired.length rel ▸ z
  have zp : (putK kvs k v).length ≤ sizeLine := Nat.le_trans (length_putK kvs k v) hl
  refine wpAny_dictSet_heap (hsz := zl) (show (tupleKind (mixKind X.prog X.w)).room X.A from Nat.lt_of_succ_lt hu) (key_of I.hok eb) dd fun g dg sb => h _ ?_
  obtain ⟨o, es, ep, g1, g2, g3, g4, _, g5⟩ := dg
  refine d_write I (by rw [e]; exact True.intro) sb ⟨o, g1⟩ ⟨zp, hd, _, (rel.put k eb rv).keeps fun c ys ec => ?_, o, es, ep, g1, g2, g3, g4, g5⟩
  rw [upd_ne (ne_of ec e (fun q => nomatch q))]
  exact ec
end
section
variable {X : Cx}
/-- the comprehension: D the new dict -/
def tDcT (wi : TI) (g : TG) (tk tv : TE) (vs : List Nat) : TE := fun σ H Q => wi σ H fun J H1 => ∀ D, H1 D = none → ∃ W : Nat → Nat → Hp → Prop, (∃ m, W 0 m (upd H1 D (.dT []))) ∧ ∀ i m H, W i m H →
  (J.stop i H ∧ Q (.ref D) H) ∨ (J.go i H ∧ ∃ Nx : Hp → Prop, (∀ H', Nx H' → ∃ m', m' < m ∧ W (i + 1) m' H') ∧ ∀ x H', J.yld i H x H' → g x (wipe σ vs) H' fun σ2 H2 => wipe σ2 vs = wipe σ vs ∧
    tk σ2 H2 fun y H3 => tv σ2 H3 fun z H4 => ∃ kvs k b, y = .ref b ∧ H4 b = some (.tup (k.map kV)) ∧ H4 D = some (.dT kvs) ∧ kvs.length < sizeLine ∧ Nx (upd H4 D (.dT (putK kvs k z))))
theorem dcT_core {pins : List (Addr × Obj)} {s : Shared} {σ : L2.St} {H : Hp} {Q : VK} {pos' : Pos} {use : Option (Value → Sem Unit)} {Qf : Value → Shared → Prop} {kx vx tg iter : Expr} {scope : Scope} {own : List (Str × Nat)} {pos : Pos} {wi : TI} {g : TG} {tk tv : TE} (hu : X.A.units + 1 < cLine) (hc : X.calm = true) (hN : X.N.Nodup) (hi : PI X tg iter wi) (ok : BlkOk X.N X.env.scope scope own)
    (hg : ∀ (s : Shared) (H : Hp) (C : Addr) (cl : List (Str × Addr)) (fp : List Addr), PG (X.blk s H scope (compEnvC scope cl C X.env) fp) tg g)
    (hk : ∀ (s : Shared) (H : Hp) (C : Addr) (cl : List (Str × Addr)) (fp : List Addr), PE (X.blk s H scope (compEnvC scope cl C X.env) fp) kx tk)
    (hv : ∀ (s : Shared) (H : Hp) (C : Addr) (cl : List (Str × Addr)) (fp : List Addr), PE (X.blk s H scope (compEnvC scope cl C X.env) fp) vx tv)
    (hs : ∀ x, foldedSetIterable iter X.env x = pure x)
    (I : Inv X pins σ H s) (h : tDcT wi g tk tv (own.map (·.2)) σ H Q)
    (back : ∀ D C t m H', Inv X pins σ H' t → Q (.ref D) H' → t.heap.Ns C m → FpOk X pins H' C → compPost (model X.prog X.w) X.A X.xe use Qf (.ref D) C (.ok .next) t) :
    wpAny (model X.prog X.w) X.A (comprehension (.DictComp kx vx [⟨tg, iter, [], 0⟩] scope pos) scope X.env pos' newDict false (eval iter X.env) use) Qf X.xe s := by
  have hfree : ∀ y ∈ scope.names, y.2 = .free → ∃ c, X.env.cells.lookup y.1 = some c := fun y hy e => (ok.free y hy e).elim (fun k => I.ok.has _ (.inl k)) fun k => I.ok.has _ (.inr k)
  refine wpAny_comprehension_free (use := use) rfl hs (closure_ok hfree) ok.kind (fun y hy e => by rw [ok.uniq y hy, e]) (thn (hi.run pins s σ H _ I h) fun xv s1 hx => thn hx fun itv s2 h2 => ?_)
  obtain ⟨it, fp, tn, J, H2, rfl, I2, T, st2, f2, q⟩ := h2
  refine wpAny_newObj_type (newEnv_comp ?_)
  obtain ⟨D, eD⟩ : ∃ D, s2.heap.objs.size = D := ⟨_, rfl⟩
  obtain ⟨W, ⟨m0, w0⟩, turn⟩ := q D (I2.hok.fresh (Nat.le_of_eq eD))
  obtain ⟨s3, e3⟩ : ∃ s3 : Shared, { s2 with heap := s2.heap.push { cls := .type "dict", data := .dict #[] } } = s3 := ⟨_, rfl⟩
  have h3 : s3.heap = s2.heap.push { cls := .type "dict", data := .dict #[] } := by rw [← e3]
  have I3 : Inv X pins σ (upd H2 D (.dT [])) s3 := by
    rw [← e3]
    refine I2.laid (t' := s2.toks) (fun b o e => Heap.get?_push_of_some _ e) (Nat.le_of_eq eD) ?_
    rw [← eD]
    exact dt_empty s2.heap I2.big
  have f3 : ∀ b ∈ fp, FpOk X pins (upd H2 D (.dT [])) b ∧ b < s3.heap.objs.size := fun b hb => by
    obtain ⟨o, e, _⟩ := T.obj _ _ st2 b hb
    have lt := Heap.lt_size e
    refine ⟨⟨?_, (f2 b hb).2⟩, by rw [h3, Heap.size_push]; exact Nat.lt_succ_of_lt lt⟩
    rw [upd_ne (eD ▸ Nat.ne_of_lt lt)]
    exact (f2 b hb).1
  have st3 : tn 0 s3.heap := T.keep _ _ _ st2 fun b _ o e => by rw [h3]; exact Heap.get?_push_of_some _ e
  have I4 := block_start I3 ok hN f3
  have pg := hg s3 (upd H2 D (.dT [])) s3.heap.objs.size (cellsFrom (s3.heap.objs.size + 1) scope.names (cloFrom X.env.cells scope.names [])) fp
  have pk := hk s3 (upd H2 D (.dT [])) s3.heap.objs.size (cellsFrom (s3.heap.objs.size + 1) scope.names (cloFrom X.env.cells scope.names [])) fp
  have pv := hv s3 (upd H2 D (.dT [])) s3.heap.objs.size (cellsFrom (s3.heap.objs.size + 1) scope.names (cloFrom X.env.cells scope.names [])) fp
  show codeAny _ _ (.compStart (.DictComp kx vx [⟨tg, iter, [], 0⟩] scope pos) 0 (.ref it) (.ref s2.heap.objs.size) (compEnvC scope (cellsFrom ((s2.heap.push { cls := .type "dict", data := .dict #[] }).objs.size + 1) scope.names (cloFrom X.env.cells scope.names [])) (s2.heap.push { cls := .type "dict", data := .dict #[] }).objs.size X.env))
    (compPost (model X.prog X.w) X.A X.xe use Qf (.ref s2.heap.objs.size) (s2.heap.push { cls := .type "dict", data := .dict #[] }).objs.size) { s2 with heap := pushCells ((s2.heap.push { cls := .type "dict", data := .dict #[] }).push { cls := .type "dict", data := .dict #[] }) scope.names }
  rw [eD, ← h3]
  have nfp : ∀ b ∈ fp, (upd H2 D (.dT [])) b = none := fun b hb => (f3 b hb).1.1
  generalize ece : compEnvC scope (cellsFrom (s3.heap.objs.size + 1) scope.names (cloFrom X.env.cells scope.names [])) s3.heap.objs.size X.env = ce at I4 pg pk pv ⊢
  have lce : ce.locals = s3.heap.objs.size := by subst ece; rfl
  generalize eH3 : upd H2 D (.dT []) = H3 at I3 I4 pg pk pv w0 nfp f3
  generalize es4 : ({ s3 with heap := pushCells (s3.heap.push { cls := .type "dict", data := .dict #[] }) scope.names } : Shared) = s4 at I4
  have es4' : ({ s2 with heap := pushCells (s3.heap.push { cls := .type "dict", data := .dict #[] }) scope.names } : Shared) = s4 := by rw [← es4, ← e3]
  rw [es4']
  have st4 : tn 0 s4.heap := T.keep _ _ _ st3 fun b _ o e => by rw [← es4]; exact pushCells_keeps _ _ _ _ (Heap.get?_push_of_some _ e)
  have stat : ∀ {σ' : L2.St} {H' : Hp} {s' : Shared}, Inv (X.blk s3 H3 scope ce fp) [] σ' H' s' → (∀ b ∈ fp, H' b = none) → ∀ b ∈ fp, FpOk (X.blk s3 H3 scope ce fp) [] H' b := fun {σ' H' s'} J' n b hb =>
    ⟨n b hb, (J'.ok.exf b hb).1, J'.ok.exfs b hb, .inl hb, fun x c e => (J'.ok.exf b hb).2 x c e, fun p hp => nomatch (show p ∈ ([] : List (Addr × Obj)) from by simpa using hp)⟩
  suffices loop : codeAny (model X.prog X.w) X.A (.compLoop (.DictComp kx vx [⟨tg, iter, [], 0⟩] scope pos) 0 (.ref it) (.ref D) ce) (compPost (model X.prog X.w) X.A X.xe use Qf (.ref D) s3.heap.objs.size) s4 from
    codeAny_compStart_dict loop (T.self X.A 0 _ _ _ st4 loop)
  refine compLoop_anyD (fun n s' => ∃ i H', Inv (X.blk s3 H3 scope ce fp) [] (wipe σ (own.map (·.2))) H' s' ∧ tn i s'.heap ∧ (∀ b ∈ fp, H' b = none) ∧ W i n H') ?_ m0 ⟨0, H3, I4, st4, nfp, w0⟩
  rintro n s5 ⟨i, H5, I5, st5, n5, w5⟩
  rcases turn i n H5 w5 with ⟨stop, qq⟩ | ⟨go, Nx, hNx, step⟩
  · refine thnF (T.done (X.blk s3 H3 scope ce fp) rfl rfl rfl hc i [] s5 _ H5 (fun _ _ => False) I5 (stat I5 n5) st5 stop) fun r s6 ⟨hr, I6⟩ => ?_
    subst hr
    have I7 : Inv X pins σ H5 s6 := I3.call' (ch := fp) I6.os I6.base I6.hok I6.bare fun b hb => ⟨(f3 b hb).1.2.2.2.1, (f3 b hb).1.2.1, (f3 b hb).1.2.2.2.2.1, (f3 b hb).1.2.2.2.2.2⟩
    have nC : H5 s3.heap.objs.size = none := lce ▸ I6.free
    obtain ⟨m, hn, _⟩ := I6.loc
    exact back D s3.heap.objs.size s6 m H5 I7 qq (lce ▸ hn) (I3.fpOk (Nat.le_refl _) nC)
  · refine thnF (T.item (X.blk s3 H3 scope ce fp) rfl rfl rfl hc i [] s5 _ H5 (fun _ _ => False) I5 (stat I5 n5) st5 go) fun r s6 ⟨u, hr, h6⟩ => ?_
    subst hr
    refine thnF h6 fun _ s7 ⟨x, H7, I7, r7, y7, st7, n7⟩ => ?_
    have I7' := I7.pinned (stat I7 n7) (T.obj _ _ st7)
    refine thnF (pg.run _ s7 _ H7 x u _ I7' r7 (step x H7 y7)) fun _ s8 ⟨σ8, H8, I8, hw8, q8⟩ => ?_
    rw [List.forIn_nil]
    refine wpAny_pure ?_
    rw [if_pos rfl]
    refine thnF (pk.run _ s8 σ8 H8 _ I8 q8) fun z s10 ⟨yk, H10, I10, r10, q10⟩ => ?_
    refine thnF (pv.run _ s10 σ8 H10 _ I10 q10) fun z2 s11 ⟨yv, H11, I11, r11, kvs, k, b, ek, eb, hD11, hz11, nx⟩ => ?_
    subst ek
    cases (show z = Value.ref b from r10)
    refine set_dt (X := X.blk s3 H3 scope ce fp) hu I11 hD11 eb hz11 r11 fun s12 I12 => ?_
    obtain ⟨m', hm, w'⟩ := hNx _ nx
    have pin' : ∀ b ∈ fp, ∀ o, s7.heap.get? b = some o → s12.heap.get? b = some o ∧ _ = none := fun b hb o e =>
      let z := I12.pin (b, o) (List.mem_append_right _ (List.mem_append_right _ (mem_pinsAt hb e)))
      ⟨z.1, z.2.1⟩
    have hl : (wipe σ (own.map (·.2))).length = σ8.length := by rw [← hw8, wipe_length]
    refine ⟨m', hm, i + 1, _, (I12.unpinned (pins := [])).weak hl (fun j v e => ?_), T.keep _ _ _ st7 fun b hb o e => (pin' b hb o e).1, fun b hb => ?_, w'⟩
    · rw [← hw8] at e
      exact (wipe_some e).1
    · obtain ⟨o, e, _⟩ := T.obj _ _ st7 b hb
      exact (pin' b hb o e).2
theorem pe_dcT {kx vx tg iter : Expr} {scope : Scope} {own : List (Str × Nat)} {pos : Pos} {wi : TI} {g : TG} {tk tv : TE} (hu : X.A.units + 1 < cLine) (hc : X.calm = true) (hN : X.N.Nodup) (hi : PI X tg iter wi) (ok : BlkOk X.N X.env.scope scope own)
    (hg : ∀ (s : Shared) (H : Hp) (C : Addr) (cl : List (Str × Addr)) (fp : List Addr), PG (X.blk s H scope (compEnvC scope cl C X.env) fp) tg g)
    (hk : ∀ (s : Shared) (H : Hp) (C : Addr) (cl : List (Str × Addr)) (fp : List Addr), PE (X.blk s H scope (compEnvC scope cl C X.env) fp) kx tk)
    (hv : ∀ (s : Shared) (H : Hp) (C : Addr) (cl : List (Str × Addr)) (fp : List Addr), PE (X.blk s H scope (compEnvC scope cl C X.env) fp) vx tv)
    (hs : ∀ x, foldedSetIterable iter X.env x = pure x := by intro _; rfl) :
    PE X (.DictComp kx vx [⟨tg, iter, [], 0⟩] scope pos) (tDcT wi g tk tv (own.map (·.2))) := .mk fun pins s σ H Q I h => by
  rw [arm_eval_DictComp]
  refine dcT_core hu hc hN hi ok hg hk hv hs I h fun D C t m H' J q n f => ⟨m, n, fun h'' sb => ?_⟩
  obtain ⟨f0, f1, f2, f3, f4, f5⟩ := f
  exact ⟨V.ref D, H', J.turned (t' := t.toks) (fun b o hb e => (sb.2 b hb).trans e) f0 f1 f3 f4 f5, rfl, q⟩
theorem dcs_true {kx vx : Expr} {gs : List Comprehension} {scope : Scope} {pos py : Pos} {y : Str} {l : Nat} {env : Env} (hk : env.scope.kind = .function) (hy : env.scope.names.lookup y = some .local) (hl : (py.line == pos.line) = true)
    (ha : (scope.names.any fun (n, k) => n == y && (k == .local || k == .cell)) = false) : swapsWith (.DictComp kx vx gs scope pos) (some (.Name y py)) l env = pure true := by
  have ky : env.kindOf y = some .local := hy
  have hb : env.blockKind = .function := by unfold Env.blockKind; rw [hk]; rfl
  unfold swapsWith
  simp only [hb, ky, ha, Expr.pos, hl]
  rfl
/-- name = {t: v for ..} on one line -/
theorem ps_setDcT {i : Nat} {y : Str} {py spos : Pos} {kx vx tg iter : Expr} {scope : Scope} {own : List (Str × Nat)} {pos : Pos} {wi : TI} {g : TG} {tk tv : TE} (hu : X.A.units + 1 < cLine) (hy : X.N[i]? = some y) (hyl : X.env.scope.names.lookup y = some .local) (hsw : swapsWith (.DictComp kx vx [⟨tg, iter, [], 0⟩] scope pos) (some (.Name y py)) spos.line X.env = pure true) (hc : X.calm = true) (hN : X.N.Nodup) (hi : PI X tg iter wi) (ok : BlkOk X.N X.env.scope scope own)
    (hg : ∀ (s : Shared) (H : Hp) (C : Addr) (cl : List (Str × Addr)) (fp : List Addr), PG (X.blk s H scope (compEnvC scope cl C X.env) fp) tg g)
    (hk : ∀ (s : Shared) (H : Hp) (C : Addr) (cl : List (Str × Addr)) (fp : List Addr), PE (X.blk s H scope (compEnvC scope cl C X.env) fp) kx tk)
    (hv : ∀ (s : Shared) (H : Hp) (C : Addr) (cl : List (Str × Addr)) (fp : List Addr), PE (X.blk s H scope (compEnvC scope cl C X.env) fp) vx tv)
    (hs : ∀ x, foldedSetIterable iter X.env x = pure x := by intro _; rfl) :
    PS X (.Assign [.Name y py] (.DictComp kx vx [⟨tg, iter, [], 0⟩] scope pos) spos) (tAsg (tDcT wi g tk tv (own.map (·.2))) (gName i)) := .mk fun pins s σ H D I h => by
  rw [exec_Assign_Name_used _ _ _ _ hsw]
  refine wpAny_bind (wpAny_standAt (wpAny_bind ?_))
  show wpAny _ X.A (do let _ ← comprehension (.DictComp kx vx [⟨tg, iter, [], 0⟩] scope pos) scope X.env (firstIterPos [⟨tg, iter, [], 0⟩] pos) newDict false (eval iter X.env) (some (assign (.Name y py) X.env))) _ _ s
  have h : tDcT wi g tk tv (own.map (·.2)) σ H (fun x H1 => gName i x σ H1 D.nx) := h
  refine wpAny_bind (thn (dcT_core (Qf := fun _ t => SP X pins D .next t) hu hc hN hi ok hg hk hv hs I h fun L C t m H' J q n f => ?_) fun _ t hq => wpAny_pure (wpAny_pure hq))
  show wpAny _ _ (assign (.Name y py) X.env (.ref L)) _ _ _
  refine wpAny_assign_Name (store_ok2 (v := V.ref L) J hN hy (.inl hyl) rfl (fun s2 I2 ⟨a, sb, ha⟩ => ?_) (.inr hyl))
  obtain ⟨f0, f1, f2, f3, f4, f5⟩ := f
  have ne : C ≠ a := ha.elim (fun z => z ▸ f1) fun z e => f4 y a z e.symm
  exact ⟨m, n.sameBut sb ne, fun h3 sb3 => ⟨_, H', I2.turned (t' := s2.toks) (fun b o hb e => (sb3.2 b hb).trans e) f0 f1 f3 f4 f5, q⟩⟩
end
end SC
namespace SC
open PySem PySem.Spec PyProof.Rows L2 StrLaws

theorem walk_zipT {K : PySem.W.Frag} {a b : Addr} {xs ys : List V} {n : Nat} (hx : n = xs.length) (hy : n = ys.length) : Walk (RZ.ItzT K a b) n (fun H => SqT K H a xs ∧ SqT K H b ys) (YPair (fun i => xs[i]?) fun i => ys[i]?) where
  goes := fun i H hi q => ⟨xs, ys, xs[i]'(by omega), ys[i]'(by omega), q.1, q.2, by simp, by simp⟩
  stops := fun H q => ⟨xs, ys, q.1, q.2, .inl (by omega)⟩
  yields := fun i H x H' hi q y => by
    obtain ⟨T, u, v, h1, h2, h3, h4, h5⟩ := y
    exact ⟨T, u, v, h1, h2, h3, h4 xs q.1, h5 ys q.2⟩
theorem dcT_it {J : It} {n : Nat} {G : Hp → Prop} {Y : Nat → Hp → V → Hp → Prop} (w : Walk J n G Y) {g : TG} {tk tv : TE} {vs : List Nat} {σ : L2.St} {H1 : Hp} {D : Addr} {Qd : Hp → Prop} (Pv : Nat → Hp → Prop) (h0 : Pv 0 (upd H1 D (.dT []))) (hG : ∀ i H, Pv i H → G H)
    (hs : ∀ i x H H', i < n → Pv i H → Y i H x H' → g x (wipe σ vs) H' fun σ2 H2 => wipe σ2 vs = wipe σ vs ∧ tk σ2 H2 fun y H3 => tv σ2 H3 fun z H4 => ∃ kvs k b, y = .ref b ∧ H4 b = some (.tup (k.map kV)) ∧ H4 D = some (.dT kvs) ∧ kvs.length < sizeLine ∧ Pv (i + 1) (upd H4 D (.dT (putK kvs k z))))
    (hd : ∀ H, Pv n H → Qd H) :
    ∃ W : Nat → Nat → Hp → Prop, (∃ m, W 0 m (upd H1 D (.dT []))) ∧ ∀ i m H, W i m H →
      (J.stop i H ∧ Qd H) ∨ (J.go i H ∧ ∃ Nx : Hp → Prop, (∀ H', Nx H' → ∃ m', m' < m ∧ W (i + 1) m' H') ∧ ∀ x H', J.yld i H x H' → g x (wipe σ vs) H' fun σ2 H2 => wipe σ2 vs = wipe σ vs ∧
        tk σ2 H2 fun y H3 => tv σ2 H3 fun z H4 => ∃ kvs k b, y = .ref b ∧ H4 b = some (.tup (k.map kV)) ∧ H4 D = some (.dT kvs) ∧ kvs.length < sizeLine ∧ Nx (upd H4 D (.dT (putK kvs k z)))) := by
  refine ⟨fun i m H => i + m = n ∧ Pv i H, ⟨n, Nat.zero_add n, h0⟩, fun i m H ⟨e, p⟩ => ?_⟩
  cases m with
  | zero =>
    obtain rfl : i = n := by omega
    exact .inl ⟨w.stops H (hG _ _ p), hd H p⟩
  | succ m => exact .inr ⟨w.goes i H (by omega) (hG _ _ p), Pv (i + 1), fun H' p' => ⟨m, by omega, by omega, p'⟩, fun x H' y => hs i x H H' (by omega) p (w.yields i H x H' (by omega) (hG _ _ p) y)⟩
theorem g_dcT {wi : TI} {g : TG} {tk tv : TE} {vs : List Nat} {σ : L2.St} {H : Hp} {Q : VK} (q : wi σ H fun J H1 => ∀ D, H1 D = none → ∃ W : Nat → Nat → Hp → Prop, (∃ m, W 0 m (upd H1 D (.dT []))) ∧ ∀ i m H, W i m H →
  (J.stop i H ∧ Q (.ref D) H) ∨ (J.go i H ∧ ∃ Nx : Hp → Prop, (∀ H', Nx H' → ∃ m', m' < m ∧ W (i + 1) m' H') ∧ ∀ x H', J.yld i H x H' → g x (wipe σ vs) H' fun σ2 H2 => wipe σ2 vs = wipe σ vs ∧
    tk σ2 H2 fun y H3 => tv σ2 H3 fun z H4 => ∃ kvs k b, y = .ref b ∧ H4 b = some (.tup (k.map kV)) ∧ H4 D = some (.dT kvs) ∧ kvs.length < sizeLine ∧ Nx (upd H4 D (.dT (putK kvs k z))))) : tDcT wi g tk tv vs σ H Q := q
theorem g_iZipA {K : PySem.W.Frag} {ta : TA} {σ : L2.St} {H : Hp} {R : It → Hp → Prop} (q : ta σ H fun vs H1 => ∃ a b xs ys, vs = [.ref a, .ref b] ∧ ((SqL K H1 a xs ∧ SqL K H1 b ys ∧ R (Itz K a b) H1) ∨ (SqT K H1 a xs ∧ SqT K H1 b ys ∧ R (RZ.ItzT K a b) H1))) : RZ.iZipA K ta σ H R := q
/-! ## ways, one behind another -/
/-- a way as a key -/
def wKey (w : List Int) : List L2.Key := w.map Sum.inl
theorem wKey_kV (w : List Int) : (wKey w).map kV = w.map V.int := by unfold wKey; rw [List.map_map]; rfl
theorem wKey_inj {a b : List Int} (h : wKey a = wKey b) : a = b := by
  unfold wKey at h
  exact List.map_inj_right (fun _ _ e => Sum.inl.inj e) |>.mp h
theorem lex_pre : ∀ (w : List Int) (x : Int) (a b : List Int), HT.lexLt (w ++ a) (w ++ b) = HT.lexLt a b
  | [], _, _, _ => rfl
  | y :: w, x, a, b => by
    rw [List.cons_append, List.cons_append, HT.lexLt_cons, if_pos rfl]
    exact lex_pre w x a b
/-- each thing's way begins with the way told -/
theorem things_pre : ∀ (t : Th) (w : List Int), ∀ p ∈ t.things w, ∃ r, p.1 = w ++ r := by
  intro t
  induction t using Th.ind with
  | h1 i =>
    intro w p hp
    simp only [Th.things, List.mem_singleton] at hp
    exact ⟨[], by rw [hp]; simp⟩
  | h2 n c ps ih =>
    intro w p hp
    simp only [Th.things, List.mem_cons] at hp
    rcases hp with rfl | hp
    · exact ⟨[], by simp⟩
    · have key : ∀ (qs : List (Int × Th)) (k : Nat), (∀ q ∈ qs, q ∈ ps) → ∀ p ∈ thingsAt qs w k, ∃ r, p.1 = w ++ r := by
        intro qs
        induction qs with
        | nil => intro k _ p hp; simp [thingsAt] at hp
        | cons a r ih2 =>
          intro k hq p hp
          obtain ⟨x, t⟩ := a
          simp only [thingsAt, List.mem_append] at hp
          rcases hp with hp | hp
          · obtain ⟨r', e⟩ := ih (x, t) (hq _ (List.mem_cons_self ..)) _ p hp
            exact ⟨(k : Int) :: r', by rw [e, List.append_assoc]; rfl⟩
          · exact ih2 (k + 1) (fun q hq' => hq q (List.mem_cons_of_mem _ hq')) p hp
      exact key ps 0 (fun q h => h) p hp
theorem thingsAt_pre : ∀ (qs : List (Int × Th)) (w : List Int) (k : Nat), ∀ p ∈ thingsAt qs w k, ∃ (j : Nat) (r : List Int), k ≤ j ∧ p.1 = w ++ (j : Int) :: r
  | [], _, _, p, hp => by simp [thingsAt] at hp
  | (x, t) :: r, w, k, p, hp => by
    simp only [thingsAt, List.mem_append] at hp
    rcases hp with hp | hp
    · obtain ⟨r', e⟩ := things_pre t _ p hp
      exact ⟨k, r', Nat.le_refl _, by rw [e, List.append_assoc]; rfl⟩
    · obtain ⟨j, r', h1, h2⟩ := thingsAt_pre r w (k + 1) p hp
      exact ⟨j, r', by omega, h2⟩
mutual
/-- the ways ascend -/
theorem things_asc : ∀ (t : Th) (w : List Int), (t.things w).Pairwise fun p q => HT.lexLt p.1 q.1 = true
  | .inp i, w => by simp [Th.things]
  | .st n c ps, w => by
    simp only [Th.things]
    refine List.pairwise_cons.mpr ⟨fun p hp => ?_, thingsAt_asc ps w 0⟩
    obtain ⟨j, r, _, e⟩ := thingsAt_pre ps w 0 p hp
    rw [e]
    have := lex_pre w 0 [] ((j : Int) :: r)
    rw [List.append_nil] at this
    rw [this]
    rfl
theorem thingsAt_asc : ∀ (ps : List (Int × Th)) (w : List Int) (k : Nat), (thingsAt ps w k).Pairwise fun p q => HT.lexLt p.1 q.1 = true
  | [], _, _ => by simp [thingsAt]
  | (x, t) :: r, w, k => by
    simp only [thingsAt]
    refine List.pairwise_append.mpr ⟨things_asc t _, thingsAt_asc r w (k + 1), fun p hp q hq => ?_⟩
    obtain ⟨r1, e1⟩ := things_pre t _ p hp
    obtain ⟨j, r2, hj, e2⟩ := thingsAt_pre r w (k + 1) q hq
    rw [e1, e2, List.append_assoc, lex_pre w 0]
    show HT.lexLt ((k : Int) :: r1) ((j : Int) :: r2) = true
    rw [HT.lexLt_cons, if_neg (by omega), decide_eq_true_eq]
    omega
end
theorem sts_asc (t : Th) (w : List Int) : (t.sts w).Pairwise fun p q => HT.lexLt p.1 q.1 = true := (things_asc t w).filter _
theorem lex_irr : ∀ a : List Int, HT.lexLt a a = false
  | [] => rfl
  | x :: a => by rw [HT.lexLt_cons, if_pos rfl]; exact lex_irr a
/-- ways and things, the ways tracked -/
def Strict (K : PySem.W.Frag) (H : Hp) (zs : List V) (l : List (List Int × Th)) : Prop := ∀ (j : Nat) (x : V), zs[j]? = some x → ∃ (w : List Int) (t : Th) (q wa : Addr) (v : V), l[j]? = some (w, t) ∧ x = V.ref q ∧ SqT K H q [.ref wa, v] ∧ H wa = some (.tup (w.map V.int)) ∧ Dp K H v t.toD
theorem Strict.ts {K : PySem.W.Frag} {H H' : Hp} {zs : List V} {l : List (List Int × Th)} (h : Strict K H zs l) (s : TSame H H') : Strict K H' zs l := fun j x e => by
  obtain ⟨w, t, q, wa, v, h1, h2, h3, h4, h5⟩ := h j x e
  exact ⟨w, t, q, wa, v, h1, h2, ts_t s h3, s _ _ h4 rfl, dp_t s (toD_t _) h5⟩
theorem Strict.app {K : PySem.W.Frag} {H : Hp} {zs ys : List V} {l m : List (List Int × Th)} (h : Strict K H zs l) (g : Strict K H ys m) (e : zs.length = l.length) : Strict K H (zs ++ ys) (l ++ m) := fun j x ej => by
  by_cases hj : j < zs.length
  · rw [List.getElem?_append_left hj] at ej
    obtain ⟨w, t, q, wa, v, h1, r⟩ := h j x ej
    exact ⟨w, t, q, wa, v, by rw [List.getElem?_append_left (by omega)]; exact h1, r⟩
  · rw [List.getElem?_append_right (by omega)] at ej
    obtain ⟨w, t, q, wa, v, h1, r⟩ := g _ x ej
    exact ⟨w, t, q, wa, v, by rw [List.getElem?_append_right (by omega), ← e]; exact h1, r⟩
theorem Strict.one {K : PySem.W.Frag} {H : Hp} {q wa : Addr} {v : V} {w : List Int} {t : Th} (h1 : SqT K H q [.ref wa, v]) (h2 : H wa = some (.tup (w.map V.int))) (h3 : Dp K H v t.toD) : Strict K H [.ref q] [(w, t)] := fun j x e => by
  cases j with
  | zero => cases e; exact ⟨w, t, q, wa, v, rfl, rfl, h1, h2, h3⟩
  | succ j => simp at e
/-- t + u, tracked tuples -/
theorem l_catS {K : PySem.W.Frag} {H : Hp} {Q : VK} {a b : Addr} {xs ys : List V} (h1 : H a = some (.tup xs)) (h2 : H b = some (.tup ys)) (hn : ys ≠ []) (hl : xs.length + ys.length ≤ sizeLine)
    (q : ∀ p H', Same H H' → H' p = some (.tup (xs ++ ys)) → Q (.ref p) H') : rCatA K (.ref a) (.ref b) H Q := by
  refine ⟨a, b, xs, ys, rfl, rfl, sq_t h1, sq_t h2, hl, fun e => ?_, fun _ e => absurd e hn, fun _ _ p np => ?_⟩
  · subst e
    exact q b H (Same.refl H) h2
  · exact q p _ (same_new np) upd_same
theorem way_dp {K : PySem.W.Frag} {H : Hp} {wa : Addr} {w : List Int} (h : H wa = some (.tup (w.map V.int))) : Dp K H (.ref wa) (wayD w) := .tup (sq_t h) (dps_ints w)
/-! ## other offsets, told by ways -/
mutual
def Th.setO (f : List Int → Int) : Th → List Int → Th
  | .inp i, _ => .inp i
  | .st n _ ps, w => .st n (f w) (setOAt f ps w 0)
def setOAt (f : List Int → Int) : List (Int × Th) → List Int → Nat → List (Int × Th)
  | [], _, _ => []
  | (x, t) :: r, w, k => (x, t.setO f (w ++ [(k : Int)])) :: setOAt f r w (k + 1)
end
theorem setOAt_app (f : List Int → Int) : ∀ (a b : List (Int × Th)) (w : List Int) (k : Nat), setOAt f (a ++ b) w k = setOAt f a w k ++ setOAt f b w (k + a.length)
  | [], b, w, k => by simp only [List.nil_append, setOAt, List.length_nil, Nat.add_zero]
  | (x, t) :: a, b, w, k => by
    rw [List.cons_append]
    simp only [setOAt, setOAt_app f a b w (k + 1), List.cons_append, List.length_cons]
    rw [Nat.add_assoc k 1, Nat.add_comm 1]
theorem setOAt_take {f : List Int → Int} {ps : List (Int × Th)} {i : Nat} {x : Int} {t : Th} (w : List Int) (h : ps[i]? = some (x, t)) : setOAt f (ps.take (i + 1)) w 0 = setOAt f (ps.take i) w 0 ++ [(x, t.setO f (w ++ [(i : Int)]))] := by
  have hl : (ps.take i).length = i := by
    rw [List.length_take]
    have := (List.getElem?_eq_some_iff.mp h).1
    omega
  rw [take_one h, setOAt_app, hl]
  simp only [setOAt, Nat.zero_add]
theorem setOAt_len (f : List Int → Int) : ∀ (a : List (Int × Th)) (w : List Int) (k : Nat), (setOAt f a w k).length = a.length
  | [], w, k => by simp only [setOAt, List.length_nil]
  | (x, t) :: a, w, k => by simp only [setOAt, List.length_cons, setOAt_len f a]
mutual
theorem setO_eq (f : List Int → Int) : ∀ (t u : Th) (w : List Int), t.bare = u.bare → (∀ p ∈ u.sts w, ∀ c, offOf p = some c → f p.1 = c) → t.setO f w = u
  | .inp i, u, w, e, _ => by
    cases u with
    | inp j => simp only [Th.bare] at e; simp only [Th.setO]; exact e
    | st a b c => simp only [Th.bare] at e; cases e
  | .st n c ps, u, w, e, h => by
    cases u with
    | inp j => simp only [Th.bare] at e; cases e
    | st a b qs =>
      simp only [Th.bare, Th.st.injEq] at e
      rw [sts_st] at h
      simp only [Th.setO, e.1]
      rw [h _ (List.mem_cons_self ..) b rfl, setOL_eq f ps qs w 0 e.2.2 fun p hp => h p (List.mem_cons_of_mem _ hp)]
theorem setOL_eq (f : List Int → Int) : ∀ (ps qs : List (Int × Th)) (w : List Int) (k : Nat), bareL ps = bareL qs → (∀ p ∈ stsAt qs w k, ∀ c, offOf p = some c → f p.1 = c) → setOAt f ps w k = qs
  | [], qs, w, k, e, _ => by
    cases qs with
    | nil => simp only [setOAt]
    | cons a b => obtain ⟨x, t⟩ := a; simp only [bareL] at e; cases e
  | (x, t) :: r, qs, w, k, e, h => by
    cases qs with
    | nil => simp only [bareL] at e; cases e
    | cons a b =>
      obtain ⟨y, u⟩ := a
      simp only [bareL, List.cons.injEq, Prod.mk.injEq] at e
      have hs : ∀ p, p ∈ stsAt ((y, u) :: b) w k ↔ p ∈ u.sts (w ++ [(k : Int)]) ∨ p ∈ stsAt b w (k + 1) := fun p => by
        unfold stsAt Th.sts
        simp only [thingsAt]
        rw [List.filter_append, List.mem_append]
      simp only [setOAt]
      rw [setO_eq f t u _ e.1.2 fun p hp => h p ((hs p).mpr (.inl hp)), setOL_eq f r b w (k + 1) e.2 fun p hp => h p ((hs p).mpr (.inr hp)), e.1.1]
end
mutual
theorem sts_bare : ∀ (t : Th) (w : List Int), (t.sts w).map (·.1) = (t.bare.sts w).map (·.1)
  | .inp i, w => by simp only [Th.bare]
  | .st n c ps, w => by
    simp only [Th.bare]
    rw [sts_st, sts_st, List.map_cons, List.map_cons, stsL_bare ps w 0]
theorem stsL_bare : ∀ (ps : List (Int × Th)) (w : List Int) (k : Nat), (stsAt ps w k).map (·.1) = (stsAt (bareL ps) w k).map (·.1)
  | [], w, k => by simp only [bareL]
  | (x, t) :: r, w, k => by
    have h1 := sts_bare t (w ++ [(k : Int)])
    have h2 := stsL_bare r w (k + 1)
    unfold Th.sts at h1
    unfold stsAt at h2 ⊢
    simp only [bareL, thingsAt]
    rw [List.filter_append, List.filter_append, List.map_append, List.map_append, h1, h2]
end
def offV (p : List Int × Th) : Int := (offOf p).getD 0
theorem sts_offV (t : Th) (w : List Int) : (t.sts w).map offV = t.offs := by
  rw [← sts_offs t w]
  have h : ∀ p ∈ t.sts w, p.2.isSt = true := fun p hp => sts_all hp
  generalize t.sts w = l at h
  induction l with
  | nil => rfl
  | cons a r ih =>
    obtain ⟨v, s⟩ := a
    have h1 := h _ (List.mem_cons_self ..)
    cases s with
    | inp i => cases h1
    | st n c ps =>
      rw [List.map_cons, List.filterMap_cons, ih fun p hp => h p (List.mem_cons_of_mem _ hp)]
      rfl
theorem offV_of {p : List Int × Th} {c : Int} (h : offOf p = some c) : offV p = c := by unfold offV; rw [h]; rfl
theorem g_notV {ta : TE} {σ : L2.St} {H : Hp} {Q : VK} (q : ta σ H fun x H1 => ∃ c, x = V.bl c ∧ Q (.bl (!c)) H1) : tNotV ta σ H Q := q
theorem g_chain {r r' : R2} {ta tb tc : TE} {σ : L2.St} {H : Hp} {Q : VK} (q : ta σ H fun x H1 => tb σ H1 fun y H2 => r x y H2 fun z H3 => ∃ k, z = V.bl k ∧ if k = true then tc σ H3 fun u H4 => r' y u H4 Q else Q (V.bl false) H3) : tChain r r' ta tb tc σ H Q := q
theorem eqv_nilT (ds : List PyData) : PyData.eqv (.tuple ds) (.tuple []) = ds.isEmpty := by
  cases ds with
  | nil => simp only [PyData.eqv, PyData.eqvAll]; rfl
  | cons x xs => simp only [PyData.eqv, PyData.eqvAll]; rfl
theorem wayD_num (w : List Int) : numD (wayD w) = true := by
  simp only [wayD, numD]
  exact num_ints w
theorem wayD_depth (w : List Int) : (wayD w).depth = 1 := by
  rw [wayD, depth_tuple, depth_ints]
/-- way != () -/
theorem l_neTN {K : PySem.W.Frag} {H : Hp} {Q : VK} {wa b : Addr} {w : List Int} (h : Dp K H (.ref wa) (wayD w)) (h2 : H b = some (.tup [])) (q : Q (.bl (!w.isEmpty)) H) : rNeD K (.ref wa) (.ref b) H Q := by
  refine ⟨wayD w, .tuple [], h, .tup (sq_t h2) .nil, num_shaped (wayD_num w) (by rw [wayD_depth]; omega), by decide +kernel, ?_⟩
  rw [wayD, eqv_nilT]
  have e : (w.map PyData.int).isEmpty = w.isEmpty := by cases w <;> rfl
  rw [e]
  exact q
/-- two lists of integers that are alike -/
theorem l_neSame {K : PySem.W.Frag} {H : Hp} {Q : VK} {a b : Addr} {ns : List Int} (h1 : SqL K H a (ns.map V.int)) (h2 : SqL K H b (ns.map V.int)) (q : Q (.bl false) H) : rNeD K (.ref a) (.ref b) H Q := by
  have sh : SeqAt.shaped (.list (ns.map PyData.int)) = true := num_shaped (by simp only [numD]; exact num_ints ns) (by rw [depth_list, depth_ints]; omega)
  refine ⟨_, _, .lst h1 (dps_ints ns), .lst h2 (dps_ints ns), sh, sh, ?_⟩
  rw [SeqAt.eqv_refl _ (num_lay _ (by simp only [numD]; exact num_ints ns))]
  exact q
theorem ts_tab {H H' : Hp} {Pt : Addr} (g : GxR.TabG H Pt) (s : Same (hid [Pt] H) (hid [Pt] H')) : TSame H H' := ts_hid (fun d hd o e => by
  obtain ⟨ps, e2, _⟩ := g
  rw [List.mem_singleton.mp hd, e2] at e
  cases e; rfl) s
theorem same_tab {H H' : Hp} {Pt : Addr} (h : GxR.Tabbed Pt H H') : Same (hid [Pt] H) (hid [Pt] H') := fun a o e => by
  obtain ⟨k1, k2⟩ := hid_get e
  refine hid_put k1 ?_
  rw [h.2 a fun z => k1 (by simp [z])]
  exact k2
theorem tab_same {H H' : Hp} {Pt : Addr} (g : GxR.TabG H Pt) (s : Same H H') : GxR.TabG H' Pt := by
  obtain ⟨ps, e, t⟩ := g
  exact ⟨ps, s _ _ e, t⟩
end SC
namespace SC
open PySem PySem.Spec PyProof.Rows L2 StrLaws

/-! ## the end: the law's def is called, with the tables of code objects, where no display is under way -/
section
variable {P : Program} {w : World} {K : PySem.W.Frag} {mg mb : Str → Option Value} {k : Nat} {fa a : Addr} {cs : List (Addr × Addr)} {fd : FuncData} {x : Str} {sp : Sp} {s : Shared} {vs : List Value} {ns : List Int}
/-- the heap that is tracked at first: the tables, and the script where it is no written object -/
def firstH (cs : List (Addr × Addr)) (own : Bool) (a : Addr) (vs : List Value) (ns : List Int) : Hp := fun b =>
  if b = a ∧ own = true then some (.frz { cls := .type "list", data := .seq vs.toArray } (.lst (ns.map V.int))) else if b ∈ cs.map (·.2) then some (.tbl #[]) else none
theorem firstH_cases {own : Bool} {b : Addr} {u : HO} (h : firstH cs own a vs ns b = some u) : (b = a ∧ own = true ∧ u = .frz { cls := .type "list", data := .seq vs.toArray } (.lst (ns.map V.int))) ∨ (b ∈ cs.map (·.2) ∧ u = .tbl #[]) := by
  unfold firstH at h
  by_cases h1 : b = a ∧ own = true
  · rw [if_pos h1] at h
    exact .inl ⟨h1.1, h1.2, (Option.some.inj h).symm⟩
  · rw [if_neg h1] at h
    by_cases h2 : b ∈ cs.map (·.2)
    · rw [if_pos h2] at h
      exact .inr ⟨h2, (Option.some.inj h).symm⟩
    · rw [if_neg h2] at h; cases h
theorem law_callG (KX : K.In s.heap) (hns : s.heap.Ns mainGlobals mg) (hb : s.heap.Ns builtinsNs mb) (hbb : ∀ x : Str, x ≠ "__name__" → mb x = bootBuiltins x) (hlim : s.heap.NoLimit) (hdg : s.heap.NoDigits) (hg : s.gens = #[])
    (hT : ∀ p ∈ cs, s.heap.get? p.2 = some { cls := .none, data := .fields #[] }) (nT : ∀ p ∈ cs, K.lookup p.2 = none) (C : ∀ p ∈ cs, PySem.W.CodeHd s.heap p.1 p.2)
    (hbm : ∃ (bm : Addr) (ob : Obj), mg "__builtins__" = some (.ref bm) ∧ bm ≠ builtinsNs ∧ s.heap.get? bm = some ob ∧ ob.cls = .type "module" ∧ ob.dict = some builtinsNs ∧ ob.data = .plain)
    (ha : s.heap.get? a = some { cls := .type "list", data := .seq vs.toArray }) (hi : IntsAre vs ns) (hl : ns.length ≤ sizeLine) (hr : Room k callerA)
    (F : ∀ base : Heap, K.In base → base.Ns mainGlobals mg → (∀ p ∈ cs, GxR.TabB base mg p.1 p.2) → base.NoDigits → FnG P w K mg base k fa fd [x] sp) (hbind : ∀ (s : Shared) (u : Value), BindsTo s fd ⟨[u], []⟩ [(x, u)])
    (hsp : ∀ H : Hp, (∀ p ∈ cs, H p.2 = some (.tbl #[])) → SqL K H a (ns.map V.int) → sp [.ref a] H (fun v _ => v = .bl true) E0) :
    codeAny (model P w) callerA (.call (.ref fa) ⟨[.ref a], []⟩) (fun r t => r = .ok (.ret (.bool true)) ∧ OldK s.heap t.heap ∧ t.os = s.os ∧ AllBare t.gens) s := by
  have rv := vals_ints hi
  have ln := hi.length
  have isT : ∀ b, b ∈ cs.map (·.2) → s.heap.get? b = some { cls := .none, data := .fields #[] } := fun b hb => by
    obtain ⟨p, hp, rfl⟩ := List.mem_map.mp hb
    exact hT p hp
  have aT : a ∉ cs.map (·.2) := fun z => by
    have e := (isT a z).symm.trans ha
    exact nomatch congrArg Obj.data (Option.some.inj e)
  obtain ⟨own, hown⟩ : ∃ own, (K.lookup a).isNone = own := ⟨_, rfl⟩
  obtain ⟨H, eH⟩ : ∃ H, firstH cs own a vs ns = H := ⟨_, rfl⟩
  have inH : ∀ {b u}, H b = some u → (b = a ∧ own = true ∧ u = .frz { cls := .type "list", data := .seq vs.toArray } (.lst (ns.map V.int))) ∨ (b ∈ cs.map (·.2) ∧ u = .tbl #[]) := fun {b u} e => firstH_cases (by rw [eH]; exact e)
  have hH : ∀ p ∈ cs, H p.2 = some (.tbl #[]) := fun p hp => by
    have hm : p.2 ∈ cs.map (·.2) := List.mem_map.mpr ⟨p, hp, rfl⟩
    rw [← eH]
    unfold firstH
    rw [if_neg (fun z : p.2 = a ∧ own = true => aT (z.1 ▸ hm)), if_pos hm]
  have hS : SqL K H a (ns.map V.int) := by
    cases hk : K.lookup a with
    | none =>
      rw [hk] at hown
      refine .inl (.inr ⟨{ cls := .type "list", data := .seq vs.toArray }, ?_⟩)
      rw [← eH]
      unfold firstH
      rw [if_pos ⟨rfl, hown.symm⟩]
    | some o =>
      have e := (KX a o hk).symm.trans ha
      cases e
      exact .inr ⟨_, vs.toArray, _, hk, rfl, rfl, rfl, by rw [List.size_toArray, ln]; exact hl, by simpa using rv⟩
  have hok : HOk P w H s.heap := fun b u e => by
    rcases inH e with ⟨rfl, _, rfl⟩ | ⟨hb, rfl⟩
    · exact ⟨ha, by rw [List.length_map]; exact hl, vs, _, rv, ha⟩
    · exact isT b hb
  -- what is no list and no table stands as it did
  have free : ∀ {b o}, s.heap.get? b = some o → (∀ us n, o.data ≠ .seq us n) → o.data ≠ .fields #[] → H b = none := fun {b o} e h1 h2 => by
    cases q : H b with
    | none => rfl
    | some u =>
      rcases inH q with ⟨rfl, _, _⟩ | ⟨hb, _⟩
      · rw [ha] at e; cases e
        exact absurd rfl (h1 _ _)
      · rw [isT b hb] at e; cases e
        exact absurd rfl h2
  have keep : ∀ {b o}, s.heap.get? b = some o → (∀ us n, o.data ≠ .seq us n) → o.data ≠ .fields #[] → (hidT s.heap H).get? b = some o := fun e h1 h2 => hidT_get e (free e h1 h2)
  have nsK : ∀ {b m}, s.heap.Ns b m → (hidT s.heap H).Ns b m := fun {b m} ⟨o, es, ep, e, d, r⟩ => ⟨o, es, ep, keep e (fun us n z => by rw [d] at z; cases z) (fun z => by rw [d] at z; cases z), d, r⟩
  have hKb : K.In (hidT s.heap H) := fun b o e => hidT_get (KX b o e) (by
    cases q : H b with
    | none => rfl
    | some u =>
      rcases inH q with ⟨rfl, h1, _⟩ | ⟨hb, _⟩
      · rw [e, h1] at hown; cases hown
      · obtain ⟨p, hp, rfl⟩ := List.mem_map.mp hb
        rw [nT p hp] at e; cases e)
  have hM : L2.Mod K mg (hidT s.heap H) := ⟨hKb, nsK hns, ⟨mb, nsK hb, hbb⟩, let ⟨mc, h1, h2⟩ := hlim; ⟨mc, nsK h1, h2⟩⟩
  have TB : ∀ p ∈ cs, GxR.TabB (hidT s.heap H) mg p.1 p.2 := fun p hp => by
    have tp := hT p hp
    obtain ⟨og, es, ep, eg, dg, _⟩ := hns
    refine ⟨?_, ?_, fun z => ?_⟩
    · obtain ⟨o, us, file, tf, flags, tg, inF, text, tt, e1, r1, r2, r3, r⟩ := C p hp
      refine ⟨o, us, file, tf, flags, tg, inF, text, tt, keep e1 (fun _ _ z => by rw [r2] at z; cases z) (fun z => ?_), r1, r2, r3, r⟩
      rw [r2] at z
      cases z
      simp at r3
    · obtain ⟨bm, ob, b1, b2, b3, b4, b5, b6⟩ := hbm
      refine ⟨bm, ob, b1, b2, fun z => ?_, fun z => ?_, keep b3 (fun _ _ z => by rw [b6] at z; cases z) (fun z => by rw [b6] at z; cases z), b4, b5, b6⟩
      · rw [z, eg] at b3; cases b3
        rw [dg] at b6; cases b6
      · rw [z, tp] at b3; cases b3
        cases b6
    · rw [z, tp] at eg; cases eg
      cases dg
  have e0 : Env0 P w K mg (hidT s.heap H) callerA [] s H := ⟨rfl, hM, fun b o e => of_hidT e, Nat.le_of_eq (hidT_size _ _), trivial, fun b hb => (nomatch (show b ∈ ([] : List Addr) from hb)), hok, .of_eq hg⟩
  refine codeAny_mono ((F _ hKb (nsK hns) TB (let ⟨mc, h1, h2⟩ := hdg; ⟨mc, nsK h1, h2⟩)).run callerA [] s H ⟨[.ref a], []⟩ [.ref a] [.ref a] _ rfl hr e0 (hbind s (.ref a)) (.cons rfl .nil) (hsp H hH hS)) fun r t h => ?_
  cases r with
  | error e => exact False.elim h
  | ok fl =>
    cases fl with
    | next => exact False.elim h
    | brk => exact False.elim h
    | cont => exact False.elim h
    | ret u =>
      obtain ⟨v, H', os, bare, un, ok', r', rfl⟩ := h
      obtain rfl : u = Value.bool true := r'
      have same : ∀ b o, b ∉ cs.map (·.2) → s.heap.get? b = some o → t.heap.get? b = some o := fun b o nb e => by
        cases q : H b with
        | none => exact un.keep b o e q (fun z => (nomatch (show b ∈ ([] : List Addr) from z))) (by simp)
        | some u =>
          rcases inH q with ⟨rfl, _, rfl⟩ | ⟨hb, _⟩
          · obtain ⟨e2, _⟩ := ok' _ _ (un.frzs _ _ _ q)
            rw [ha] at e; cases e
            exact e2
          · exact absurd hb nb
      have grown : ∀ p ∈ cs, ∃ more : Array Value, t.heap.get? p.2 = some { cls := .none, data := .fields more } := fun p hp => by
        obtain ⟨more, z⟩ := un.tbls p.2 #[] (hH p hp)
        exact ⟨_, ok' _ _ z⟩
      refine ⟨rfl, ⟨fun b o e => ?_, fun b o e => ?_⟩, os, bare⟩
      · by_cases hb : b ∈ cs.map (·.2)
        · obtain ⟨p, hp, rfl⟩ := List.mem_map.mp hb
          obtain ⟨more, hm⟩ := grown p hp
          rw [hT p hp] at e; cases e
          exact .inr (.inl ⟨((C p hp).tab (hT p hp)).isCodeTable, rfl, #[], more, rfl, by rw [Array.empty_append]; exact hm⟩)
        · exact .inl (same b o hb e)
      · by_cases hb : b ∈ cs.map (·.2)
        · obtain ⟨p, hp, rfl⟩ := List.mem_map.mp hb
          exact ⟨_, (grown p hp).choose_spec⟩
        · exact ⟨o, same b o hb e⟩
/-- what is known of the law's promise at the head's heap h -/
def LawAtG (l : PySem.W.OpenLaw) (w : World) (K : PySem.W.Frag) (k n : Nat) (x : Str) (mg : Str → Option Value) (fa : Addr) (h : Heap) : Prop :=
  ∃ (fd : FuncData) (cs : List (Addr × Addr)) (sp : Sp), (∀ p ∈ cs, h.get? p.2 = some { cls := .none, data := .fields #[] }) ∧ (∀ p ∈ cs, K.lookup p.2 = none) ∧ (∀ p ∈ cs, PySem.W.CodeHd h p.1 p.2) ∧ (∀ (s : Shared) (u : Value), BindsTo s fd ⟨[u], []⟩ [(x, u)]) ∧
    (∀ (H : Hp) (a : Addr) (ns : List Int), ns.length ≤ n → (∀ z ∈ ns, Builtin.Int.intBits z ≤ 1048576) → (∀ p ∈ cs, H p.2 = some (.tbl #[])) → SqL K H a (ns.map V.int) → sp [.ref a] H (fun v _ => v = .bl true) E0) ∧
    ∀ base : Heap, K.In base → base.Ns mainGlobals mg → (∀ p ∈ cs, GxR.TabB base mg p.1 p.2) → base.NoDigits → FnG l.prog w K mg base k fa fd [x] sp
theorem walk_ofG {l : PySem.W.OpenLaw} {n k : Nat} {q : Program} {loose : List Str} {XP : (Str → Option Value) → Heap → Prop} {YP : World → Heap → Prop} {d : DefRec} {K : Params → PySem.W.Frag} {x : Str}
    (hn : l.most = some n) (hn2 : n ≤ sizeLine) (hdf : d.params.defaults = []) (hr : Room k callerA) (hY : ∀ (w : World) (h : Heap), YP w h → (K w.params).In h)
    (F : ∀ (w : World) (s₀ : Shared) (mg mb : Str → Option Value) (fa : Addr) (h : Heap), PySem.W.Ground q loose [] XP w s₀ mg mb h → YP w h → (K w.params).In h → mg d.name = some (.ref fa) → LawAtG l w (K w.params) k n x mg fa h) :
    PySem.W.WalkO q loose XP YP l.row.toRowW d [] (fun f vs => PySem.call f vs) :=
  Att.attach_callB hn hdf fun w s₀ s₁ mg mb fa o pm cd doc a vs ns G Y ho hd hcd hmg hobj hints hlen hbits hg => by
    have KX := hY w _ Y
    obtain ⟨fd, cs, sp, hT, nT, C, hb, hsp, hF⟩ := F w s₀ mg mb fa _ G Y KX hmg
    exact law_callG KX G.T.g G.T.b G.T.builtins G.T.nolimit G.T.nodigits hg hT nT C G.T.bmain hobj hints (Nat.le_trans hlen hn2) hr hF hb fun H hH hS => hsp H a ns hlen hbits hH hS
end
/-! ## calls by keywords alone -/
/-- perm tells which keyword's value each parameter gets -/
def gK {α : Type} (n : Nat) (perm : List Nat) : List α → List α → List α
  | [], ws => if ws.length = n then perm.filterMap fun i => ws[i]? else []
  | _ :: _, _ => []
theorem gK_rel {n : Nat} {perm : List Nat} {vs zs : List V} {us ws : List Value} (h1 : Vals vs us) (h2 : Vals zs ws) : Vals (gK n perm vs zs) (gK n perm us ws) := by
  cases h1 with
  | cons _ _ => exact .nil
  | nil =>
    have hl := h2.length
    show Vals (if zs.length = n then perm.filterMap fun i => zs[i]? else []) (if ws.length = n then perm.filterMap fun i => ws[i]? else [])
    by_cases h : ws.length = n
    · rw [if_pos h, if_pos (by omega)]
      clear h
      induction perm with
      | nil => exact .nil
      | cons i r ih =>
        rw [List.filterMap_cons, List.filterMap_cons]
        cases e : zs[i]? with
        | none =>
          have e2 : ws[i]? = none := by
            rw [List.getElem?_eq_none_iff] at e ⊢
            omega
          rw [e2]
          exact ih
        | some v =>
          obtain ⟨u, hu, ru⟩ := h2.get e
          rw [hu]
          exact .cons ru ih
    · rw [if_neg h, if_neg (by omega)]
      exact .nil
theorem g_callK {sp : Sp} {gV : List V → List V → List V} {E : XK} {t tk : TA} {σ : L2.St} {H : Hp} {Q : VK} (q : t σ H fun vs H1 => tk σ H1 fun zs H2 => sp (gV vs zs) H2 Q E) : tCallK sp gV E t tk σ H Q := q
end SC
namespace SC
open PySem PySem.Spec PyProof.Rows L2 StrLaws
theorem _root_.L2.Room.repr {k : Nat} {A : Around} (h : Room k A) : A.units + 70 < cLine := by
  have := h.un
  omega
/-! ## how much there is to show of a plan -/
theorem ndAll_eq : ∀ ds : List PyData, ndAll ds = (ds.map nd).sum
  | [] => by simp only [ndAll, List.map_nil, List.sum_nil]
  | d :: r => by simp only [ndAll, List.map_cons, List.sum_cons, ndAll_eq r]
theorem okAll_mem {ds : List PyData} : okAll ds = true ↔ ∀ d ∈ ds, okD d = true := by
  induction ds with
  | nil => simp [okAll]
  | cons x xs ih => simp only [okAll, Bool.and_eq_true, ih, List.mem_cons, forall_eq_or_imp]
mutual
theorem nd_toD : ∀ t : Th, nd t.toD + 2 ≤ 6 * t.nSt + 3 * t.nIn
  | .inp i => by simp only [Th.toD, nd, Th.nSt, Th.nIn]; omega
  | .st n c ps => by
    have h := nd_toDL ps
    simp only [Th.toD, nd, ndAll, Th.nSt, Th.nIn]
    omega
theorem nd_toDL : ∀ ps : List (Int × Th), ndAll (toDL ps) ≤ 6 * nStL ps + 3 * nInL ps
  | [] => by simp only [toDL, ndAll]; omega
  | (w, t) :: r => by
    have h1 := nd_toD t
    have h2 := nd_toDL r
    simp only [toDL, nd, ndAll, nStL, nInL]
    omega
end
theorem toD_depth : ∀ t : Th, t.toD.depth ≤ 3 * t.dep := Th.ind (fun i => by simp only [Th.toD, PyData.depth, Th.dep]; omega) fun n c ps ih => by
  simp only [Th.toD, Th.dep, depth_tuple, PyData.depthAll, PyData.depth, toDL_eq]
  have h : PyData.depthAll (ps.map fun p => PyData.tuple [.int p.1, p.2.toD]) ≤ 3 * depL ps + 1 := depthAll_le.mpr fun d hd => by
    obtain ⟨p, hp, rfl⟩ := List.mem_map.mp hd
    have h1 := ih p hp
    have h2 := depL_le.mp (Nat.le_refl (depL ps)) p hp
    simp only [depth_tuple, PyData.depthAll, PyData.depth]
    omega
  omega
theorem small30 {i : Int} (h : i.natAbs ≤ 10 ^ 30) : okD (.int i) = true := by
  simp only [okD, decide_eq_true_eq]
  exact Nat.lt_of_le_of_lt h (by decide +kernel)
theorem small24 {i : Int} (h0 : 0 ≤ i) (h1 : i < 1000) : okD (.int i) = true := small30 (by
  have : (1000 : Nat) ≤ 10 ^ 30 := by decide +kernel
  omega)
theorem nat30 {i : Int} (h0 : 0 ≤ i) (h : i ≤ 10 ^ 30) : i.natAbs ≤ 10 ^ 30 := by
  have h2 : (10 : Int) ^ 30 = ((10 ^ 30 : Nat) : Int) := by decide +kernel
  rw [h2] at h
  omega
mutual
theorem ok_toD : ∀ t : Th, t.good → (∀ i ∈ t.ins, 0 ≤ i ∧ i < 1000) → okD t.toD = true
  | .inp i, _, h => by
    simp only [Th.toD]
    exact small24 (h i (by simp [Th.ins])).1 (h i (by simp [Th.ins])).2
  | .st n c ps, g, h => by
    simp only [Th.good] at g
    simp only [Th.ins] at h
    have h1 := ok_toDL ps g.2 (fun p hp => g.1.ws.nz p.1 (List.mem_map.mpr ⟨p, hp, rfl⟩) |>.2) h
    have n2 := small30 (nat30 (by have := g.1.n1; omega) g.1.n2)
    have c2 := small30 (nat30 g.1.c0 (by have := g.1.c1; have := g.1.n2; omega))
    simp only [Th.toD, okD, okAll, Bool.and_true, Bool.and_eq_true] at n2 c2 ⊢
    exact ⟨n2, c2, h1⟩
theorem ok_toDL : ∀ ps : List (Int × Th), goodL ps → (∀ p ∈ ps, p.1.natAbs ≤ 10 ^ 30) → (∀ i ∈ insL ps, 0 ≤ i ∧ i < 1000) → okAll (toDL ps) = true
  | [], _, _, _ => by simp only [toDL, okAll]
  | (w, t) :: r, g, hw, h => by
    simp only [goodL] at g
    simp only [insL, List.mem_append] at h
    have h1 := ok_toD t g.1 fun i hi => h i (.inl hi)
    have h2 := ok_toDL r g.2 (fun p hp => hw p (List.mem_cons_of_mem _ hp)) fun i hi => h i (.inr hi)
    have h3 := small30 (hw _ (List.mem_cons_self ..))
    simp only [toDL, okAll, okD, Bool.and_true, Bool.and_eq_true] at h3 ⊢
    exact ⟨⟨h3, h1⟩, h2⟩
end
theorem IsPlan.ins24 {t : Th} (h : IsPlan t) : ∀ i ∈ t.ins, 0 ≤ i ∧ i < 24 := fun i hi => by
  have := h.perm.mem_iff.mp hi
  unfold rngI at this
  obtain ⟨j, hj, rfl⟩ := List.mem_map.mp this
  have := List.mem_range.mp hj
  have := h.inp
  exact ⟨Int.natCast_nonneg j, by show (j : Int) < 24; omega⟩
theorem IsPlan.okD {t : Th} (h : IsPlan t) : okD t.toD = true := ok_toD t h.good fun i hi => ⟨(h.ins24 i hi).1, by have := (h.ins24 i hi).2; omega⟩
theorem IsPlan.nd {t : Th} (h : IsPlan t) : nd t.toD ≤ 200 := by
  have := nd_toD t
  have := h.many
  have := h.inp
  omega
theorem IsPlan.depth {t : Th} (h : IsPlan t) : t.toD.depth ≤ 24 := by
  have := toD_depth t
  have := h.deep
  omega
theorem IsPlan.shows {t : Th} (h : IsPlan t) : Shows t.toD := ⟨h.okD, by have := h.nd; omega, by have := h.depth; omega⟩
/-- [t, u] -/
theorem shows_two {t u : Th} (h : IsPlan t) (g : IsPlan u) : Shows (.list [t.toD, u.toD]) := by
  have h1 := h.nd
  have h2 := g.nd
  have h3 := h.depth
  have h4 := g.depth
  refine ⟨?_, ?_, ?_⟩
  · simp only [SC.okD, okAll, h.okD, g.okD, Bool.and_true]
  · simp only [SC.nd, ndAll]; omega
  · simp only [depth_list, PyData.depthAll]; omega
/-! ways are short, of small numbers -/
mutual
theorem things_small : ∀ (t : Th) (w : List Int), t.full = true → t.nIn ≤ 900 → ∀ p ∈ t.things w, ∀ i ∈ p.1, i ∈ w ∨ (0 ≤ i ∧ i < 1000)
  | .inp i, w, _, _, p, hp => by
    simp only [Th.things, List.mem_singleton] at hp
    rw [hp]
    exact fun i hi => .inl hi
  | .st n c ps, w, hf, hn, p, hp => by
    simp only [Th.full, Bool.and_eq_true] at hf
    simp only [Th.nIn] at hn
    simp only [Th.things, List.mem_cons] at hp
    rcases hp with rfl | hp
    · exact fun i hi => .inl hi
    · exact thingsAt_small ps w 0 hf.2 hn (by have := len_le_nIn hf.2; omega) p hp
theorem thingsAt_small : ∀ (ps : List (Int × Th)) (w : List Int) (k : Nat), fullL ps = true → nInL ps ≤ 900 → k + ps.length ≤ 1000 → ∀ p ∈ thingsAt ps w k, ∀ i ∈ p.1, i ∈ w ∨ (0 ≤ i ∧ i < 1000)
  | [], _, _, _, _, _, p, hp => by simp [thingsAt] at hp
  | (x, t) :: r, w, k, hf, hn, hk, p, hp => by
    simp only [fullL, Bool.and_eq_true] at hf
    simp only [nInL] at hn
    rw [List.length_cons] at hk
    simp only [thingsAt, List.mem_append] at hp
    intro i hi
    rcases hp with hp | hp
    · rcases things_small t _ hf.1 (by omega) p hp i hi with h | h
      · rcases List.mem_append.mp h with h | h
        · exact .inl h
        · rw [List.mem_singleton.mp h]
          exact .inr ⟨Int.natCast_nonneg k, by omega⟩
      · exact .inr h
    · exact thingsAt_small r w (k + 1) hf.2 (by omega) (by omega) p hp i hi
end
mutual
theorem things_short : ∀ (t : Th) (w : List Int), ∀ p ∈ t.things w, p.1.length ≤ w.length + t.dep
  | .inp i, w, p, hp => by
    simp only [Th.things, List.mem_singleton] at hp
    rw [hp]; exact Nat.le_add_right _ _
  | .st n c ps, w, p, hp => by
    simp only [Th.things, List.mem_cons] at hp
    rcases hp with rfl | hp
    · exact Nat.le_add_right _ _
    · have := thingsAt_short ps w 0 p hp
      simp only [Th.dep]
      omega
theorem thingsAt_short : ∀ (ps : List (Int × Th)) (w : List Int) (k : Nat), ∀ p ∈ thingsAt ps w k, p.1.length ≤ w.length + depL ps + 1
  | [], _, _, p, hp => by simp [thingsAt] at hp
  | (x, t) :: r, w, k, p, hp => by
    simp only [thingsAt, List.mem_append] at hp
    simp only [depL]
    rcases hp with hp | hp
    · have := things_short t _ p hp
      rw [List.length_append, List.length_singleton] at this
      omega
    · have := thingsAt_short r w (k + 1) p hp
      omega
end
theorem nd_ints : ∀ ns : List Int, ndAll (ns.map PyData.int) = ns.length
  | [] => by simp only [List.map_nil, ndAll, List.length_nil]
  | n :: r => by simp only [List.map_cons, ndAll, SC.nd, nd_ints r, List.length_cons]; omega
theorem sum_le {α : Type} {l : List α} {f : α → Nat} {m : Nat} (h : ∀ x ∈ l, f x ≤ m) : (l.map f).sum ≤ m * l.length := by
  induction l with
  | nil => simp
  | cons a r ih =>
    have h1 := h a (List.mem_cons_self ..)
    have h2 := ih fun x hx => h x (List.mem_cons_of_mem _ hx)
    rw [List.map_cons, List.sum_cons, List.length_cons, Nat.mul_succ]
    omega
end SC
namespace SC
open PySem PySem.Spec PyProof.Rows L2 StrLaws
/-! ## t * n, n at least 1 -/
theorem mul_one_t (l : Addr) (items : Array Value) (n : Nat) (dd : Option Addr) (sl : Array (Option Value)) (u : Tok) :
    Meets (Builtin.«tuple.__mul__» ⟨[.ref l, .int 1 u], []⟩) (fun _ R s => s.heap.get? l = some { cls := .type "tuple", dict := dd, data := .seq items n, slots := sl } ∧ R (.ok (.ret (Value.ref l))) s) :=
  .of_wp fun prog w A R s h => by
    obtain ⟨hp, g, d, tk, os⟩ := s
    obtain ⟨hl, h⟩ := h
    have f1 := AutoSeq1.idx_int
    wp_walk using wpAny_loadPart' hl
    exact ⟨_, rfl, h⟩
/-- (v,) * n -/
def rRepT1 (K : PySem.W.Frag) : R2 := fun x y H Q => ∃ (a : Addr) (v : V) (n : Nat), x = .ref a ∧ y = .int (n : Nat) ∧ SqT K H a [v] ∧ 1 ≤ n ∧ n ≤ 1000 ∧ ∀ p H', Same H H' → SqT K H' p (List.replicate n v) → Q (.ref p) H'
theorem op_repT1 {X : Cx} : OpR X (binaryOp .Mult) (rRepT1 X.K) := fun pins s σ H x y v u Q I rx ry h => by
  obtain ⟨a, z, n, rfl, rfl, ha, h1, h2, q⟩ := h
  by_cases e : n = 1
  · subst e
    cases rx
    obtain ⟨t, rfl⟩ := ry
    obtain ⟨its, r, ⟨⟨cls, dd, data, sl⟩, ho, hc, m, hd⟩, hs⟩ := I.tuple ha
    obtain rfl : cls = _ := hc
    obtain rfl : data = _ := hd
    refine wpAny_binaryOp_repeat_ref (T := "tuple") (U := "int") (by decide) ⟨_, ho, rfl⟩ (fun s' => typeIs_int s' _ t) noFill_tuple_mul F.fills_int_mul F.slot_int_rmul repeat_tuple F.slot_int_index.lookup
      (call_meets F.slot_int_rmul (typeIs_int s _ t) F.entry_int_rmul (F.args_int_rmul_2 _ _) (int_rmul_tuple _ t a its.toArray m dd sl)
        ⟨ho, rfl, ⟨_, ho, rfl⟩, call_meets F.slot_tuple_mul ⟨_, ho, rfl⟩ F.entry_tuple_mul (F.args_tuple_mul_2 _ _) (mul_one_t a its.toArray m dd sl t) ⟨ho, ?_⟩⟩)
    exact ⟨.ref a, H, I, rfl, q a H (Same.refl H) ha⟩
  · refine op_repT pins s σ H (.ref a) (.int (n : Nat)) v u Q I rx ry ⟨a, n, [z], rfl, rfl, ha, by simp, by omega, by omega, by simp, fun p np => ?_⟩
    rw [Int.toNat_natCast, flat_rep]
    exact q p _ (same_new np) (sq_t upd_same)
/-! ## what is told of plans is shown -/
mutual
theorem offs_small : ∀ t : Th, t.good → ∀ c ∈ t.offs, 0 ≤ c ∧ c ≤ 10 ^ 30
  | .inp i, _, c, hc => by simp [Th.offs] at hc
  | .st n d ps, g, c, hc => by
    simp only [Th.good] at g
    simp only [Th.offs, List.mem_cons] at hc
    rcases hc with rfl | hc
    · exact ⟨g.1.c0, by have := g.1.c1; have := g.1.n2; omega⟩
    · exact offsL_small ps g.2 c hc
theorem offsL_small : ∀ ps : List (Int × Th), goodL ps → ∀ c ∈ offsL ps, 0 ≤ c ∧ c ≤ 10 ^ 30
  | [], _, c, hc => by simp [offsL] at hc
  | (w, t) :: r, g, c, hc => by
    simp only [goodL] at g
    simp only [offsL, List.mem_append] at hc
    rcases hc with hc | hc
    · exact offs_small t g.1 c hc
    · exact offsL_small r g.2 c hc
end
def waysD (t : Th) : PyData := .tuple ((t.sts []).map fun p => wayD p.1)
def offsD (t : Th) : PyData := .tuple (t.offs.map PyData.int)
/-- what is told of t, and t with the offsets of u -/
def seenD (t u : Th) : PyData := .list [waysD t, .int (t.nIn : Nat), offsD t, u.toD]
theorem offsD_ok {t : Th} (h : IsPlan t) : okD (offsD t) = true ∧ nd (offsD t) ≤ 13 ∧ (offsD t).depth = 1 := by
  refine ⟨?_, ?_, ?_⟩
  · simp only [offsD, okD]
    refine okAll_mem.mpr fun d hd => ?_
    obtain ⟨c, hc, rfl⟩ := List.mem_map.mp hd
    have := offs_small t h.good c hc
    exact small30 (nat30 this.1 this.2)
  · simp only [offsD, nd, nd_ints, offs_len]
    have := h.many
    omega
  · rw [offsD, depth_tuple, depth_ints]
theorem way_ok {t : Th} (h : IsPlan t) {p : List Int × Th} (hp : p ∈ t.sts []) : okD (wayD p.1) = true ∧ nd (wayD p.1) ≤ 9 := by
  have hm := (List.mem_filter.mp hp).1
  refine ⟨?_, ?_⟩
  · simp only [wayD, okD]
    refine okAll_mem.mpr fun d hd => ?_
    obtain ⟨i, hi, rfl⟩ := List.mem_map.mp hd
    rcases things_small t [] h.full (by have := h.inp; omega) p hm i hi with z | z
    · cases z
    · exact small24 z.1 z.2
  · simp only [wayD, nd, nd_ints]
    have h1 := things_short t [] p hm
    have h2 := h.deep
    simp only [List.length_nil] at h1
    omega
theorem waysD_ok {t : Th} (h : IsPlan t) : okD (waysD t) = true ∧ nd (waysD t) ≤ 109 ∧ (waysD t).depth ≤ 2 := by
  refine ⟨?_, ?_, ?_⟩
  · simp only [waysD, okD]
    refine okAll_mem.mpr fun d hd => ?_
    obtain ⟨p, hp, rfl⟩ := List.mem_map.mp hd
    exact (way_ok h hp).1
  · simp only [waysD, nd, ndAll_eq, List.map_map]
    have := sum_le (l := t.sts []) (f := nd ∘ fun p => wayD p.1) (m := 9) fun p hp => (way_ok h hp).2
    rw [sts_len] at this
    have := h.many
    omega
  · rw [waysD, depth_tuple]
    have : PyData.depthAll ((t.sts []).map fun p => wayD p.1) ≤ 1 := depthAll_le.mpr fun d hd => by
      obtain ⟨p, _, rfl⟩ := List.mem_map.mp hd
      rw [wayD_depth]; omega
    omega
theorem seenD_shows {t u : Th} (h : IsPlan t) (g : IsPlan u) : Shows (seenD t u) := by
  obtain ⟨a1, a2, a3⟩ := waysD_ok h
  obtain ⟨b1, b2, b3⟩ := offsD_ok h
  have c1 := g.okD
  have c2 := g.nd
  have c3 := g.depth
  have d1 : okD (.int (t.nIn : Nat)) = true := small24 (Int.natCast_nonneg _) (by have := h.inp; omega)
  refine ⟨?_, ?_, ?_⟩
  · simp only [seenD, okD, okAll, a1, b1, c1, Bool.and_true, Bool.true_and] at d1 ⊢
    exact d1
  · simp only [seenD, nd, ndAll]; omega
  · simp only [seenD, depth_list, PyData.depthAll, PyData.depth]; omega
theorem offsD_shows {t : Th} (h : IsPlan t) : Shows (offsD t) := by
  obtain ⟨b1, b2, b3⟩ := offsD_ok h
  exact ⟨b1, by omega, by omega⟩
end SC
/-! ## sorted of a tuple -/
namespace WtL
open PySem PySem.W PyProof.Rows Srt SrtO
section
variable {prog : Program} {w : World} {A : Around} {E : Value → Shared → Prop} {s : Shared}
theorem collect_tuple {l : Addr} {vs : List Value} {Q : List Value → Shared → Prop} (hl : s.heap.IsTuple l vs.toArray)
    (h : Q vs { s with heap := (s.heap.push (seqObj "list" #[] 0)).update s.heap.objs.size (Obj.mapSeq (· ++ vs.toArray)) }) (hsz : vs.length ≤ sizeLine) :
    wpAny (model prog w) A (collect (.ref l)) Q E s := by
  obtain ⟨o, ho, hc, n, hd⟩ := id hl
  unfold collect
  refine wpAny_bind (wpAny_runValue (codeAny_builtin entry_proto_collect' ?_))
  show wpAny _ _ (do again (.builtin "list.__iadd__" ⟨[← newList [], .ref l], []⟩)) _ _ s
  refine wpAny_bind (wpAny_newList (wpAny_pure ⟨Code.quiet_builtin _ (by decide +kernel), codeAny_builtin entry_list_iadd' ?_⟩))
  show wpAny _ _ (Builtin.List.listExtendWith (.ref s.heap.objs.size) (.ref l) (.ref s.heap.objs.size)) _ _ { s with heap := s.heap.push (seqObj "list" #[] 0) }
  unfold Builtin.List.listExtendWith
  have ho' : (s.heap.push (seqObj "list" #[] 0)).get? l = some o := Heap.get?_push_of_some _ ho
  refine wpAny_bind (wpAny_typeOf (T := "tuple") ⟨o, ho', hc⟩ ?_)
  rw [if_pos (by rw [show (Value.type "tuple" == Value.type "tuple") = true from rfl]; simp)]
  refine wpAny_bind (listItems_at ho' hd ?_)
  refine wpAny_bind (listItems_at (xs := #[]) (n := 0) (Heap.get?_push_size _ rfl) rfl ?_)
  rw [if_neg (by simp)]
  refine wpAny_bind (listUpdate_at (xs := #[]) (n := 0) (Heap.get?_push_size _ rfl) rfl ?_ (Nat.zero_le _) (by show (#[] ++ vs.toArray).size ≤ sizeLine + 1; simp only [Array.size_append, List.size_toArray, List.length_nil]; omega))
  refine wpAny_pure ?_
  show wpAny (model prog w) A (do
      let o ← load s.heap.objs.size
      match o.data with
      | .seq xs _ => pure xs.toList
      | _ => unsupported "internal:collect") Q E { s with heap := (s.heap.push (seqObj "list" #[] 0)).update s.heap.objs.size (Obj.mapSeq (· ++ vs.toArray)) }
  refine wpAny_bind (wpAny_load (get?_update_seq (Heap.get?_push_size _ rfl) _) ?_)
  show wpAny _ _ (pure ((#[] : Array Value) ++ vs.toArray).toList) Q E _
  rw [show ((#[] : Array Value) ++ vs.toArray).toList = vs by simp]
  exact wpAny_pure h
/-- sorted(t), t a tuple -/
theorem sorted_ordT {l : Addr} {vs : List Value} {ltv : Value → Value → Bool} {Q : Value → Shared → Prop} (O : Swo ltv) (hl : s.heap.IsTuple l vs.toArray) (hz : vs.length ≤ sizeLine)
    (hS : 2 ≤ vs.length → ∀ (h₁ : Heap) (a : Addr), h₁.get? a = some (seqObj "list" vs.toArray 0) → (∀ b o, s.heap.get? b = some o → b ≠ a ∧ h₁.get? b = some o) → SortableO prog w A.in1.in1 { s with heap := h₁ } a vs ltv)
    (h : ∀ out : List Value, Srtd ltv out → Stb ltv out vs → Q (.ref (s.heap.objs.size + 1)) { s with heap := sortedAll s.heap vs out.toArray }) :
    wpAny (model prog w) A (call (.builtin "sorted") [.ref l]) Q E s := by
  refine Calls.call_function_entry kind_sorted plain_sorted entry_sorted (args_sorted1 _) ?_
  unfold Builtin.«sorted»
  refine wpAny_bind (m := checkCount "sorted" 1 1 _) (wpAny_pure ?_)
  refine wpAny_bind (collect_tuple hl ?_ hz)
  refine wpAny_bind (wpAny_newList ?_ hz)
  have hsz : ((s.heap.push (seqObj "list" #[] 0)).update s.heap.objs.size (Obj.mapSeq (· ++ vs.toArray))).objs.size = s.heap.objs.size + 1 := by
    rw [Heap.size_update, size_push']
  have hoL : (((s.heap.push (seqObj "list" #[] 0)).update s.heap.objs.size (Obj.mapSeq (· ++ vs.toArray))).push (seqObj "list" vs.toArray 0)).get? (s.heap.objs.size + 1) = some (seqObj "list" vs.toArray 0) := by
    rw [← hsz]; exact Heap.get?_push_size _ rfl
  have keep : ∀ b o, s.heap.get? b = some o → b ≠ s.heap.objs.size + 1 ∧ (((s.heap.push (seqObj "list" #[] 0)).update s.heap.objs.size (Obj.mapSeq (· ++ vs.toArray))).push (seqObj "list" vs.toArray 0)).get? b = some o := fun b o q => by
    have hlt : b < s.heap.objs.size := Heap.lt_size q
    refine ⟨Nat.ne_of_lt (Nat.lt_succ_of_lt hlt), Heap.get?_push_of_some _ ?_⟩
    rw [Heap.get?_update_ne _ _ _ _ (Nat.ne_of_lt hlt)]
    exact Heap.get?_push_of_some _ q
  show wpAny _ _ _ _ _ { s with heap := ((s.heap.push (seqObj "list" #[] 0)).update s.heap.objs.size (Obj.mapSeq (· ++ vs.toArray))).push (seqObj "list" vs.toArray 0) }
  rw [hsz]
  refine wpAny_bind (wpAny_holding (wpAny_call_entry slot_list_sort ⟨_, hoL, rfl⟩ entry_list_sort (list_sort_ord O hoL hz (fun h2 => hS h2 _ _ hoL keep) fun out hs hb => ⟨_, rfl, ?_⟩) (args_list_sort _)))
  exact wpAny_pure ⟨_, rfl, h out hs hb⟩
end
/-! ### tuples of integers -/
def IsWt (h : Heap) (v : Value) (ns : List Int) : Prop := ∃ (a : Addr) (its : List Value), v = .ref a ∧ h.IsTuple a its.toArray ∧ IntsAre its ns
theorem IsWt.keeps {h h' : Heap} {v : Value} {ns : List Int} (x : IsWt h v ns) (k : ∀ b o, h.get? b = some o → h'.get? b = some o) : IsWt h' v ns := by
  obtain ⟨a, its, e, ⟨o, g, r⟩, i⟩ := x
  exact ⟨a, its, e, ⟨o, k _ _ g, r⟩, i⟩
theorem ints_one : ∀ {vs : List Value} {ns ms : List Int}, IntsAre vs ns → IntsAre vs ms → ns = ms
  | _, _, _, .nil, .nil => rfl
  | _, _, _, .cons n t r, .cons _ _ r' => congrArg (n :: ·) (ints_one r r')
theorem IsWt.one {h : Heap} {v : Value} {ns ms : List Int} (x : IsWt h v ns) (y : IsWt h v ms) : ns = ms := by
  obtain ⟨a, its, rfl, ⟨o, g, _, n, d⟩, i⟩ := x
  obtain ⟨b, its', e, ⟨o', g', _, n', d'⟩, i'⟩ := y
  cases e
  rw [g] at g'
  cases g'
  rw [d] at d'
  have e : its.toArray = its'.toArray := by injection d'
  have e2 : its = its' := by simpa using congrArg Array.toList e
  subst e2
  exact ints_one i i'
open Classical in
noncomputable def kf (h : Heap) (v : Value) : List Int := if e : ∃ ns, IsWt h v ns then e.choose else []
theorem kf_eq {h : Heap} {v : Value} {ns : List Int} (x : IsWt h v ns) : kf h v = ns := by
  unfold kf
  rw [dif_pos ⟨ns, x⟩]
  exact (Exists.choose_spec (p := fun ms => IsWt h v ms) ⟨ns, x⟩).one x
section
variable {M : Model} {prog : Program} {w : World} {A : Around} {E : Value → Shared → Prop} {s : Shared}
theorem wt_type {v : Value} {ns : List Int} (x : IsWt s.heap v ns) : Looks M s.heap (typeOf v) (.type "tuple") := by
  obtain ⟨a, its, rfl, ⟨o, g, c, r⟩, i⟩ := x
  have z : Looks M s.heap (typeOf (.ref a)) o.cls := (Looks.ld g).andThen .now
  rw [c] at z
  exact z
theorem wt_first {v : Value} {ns : List Int} {Q : Option Value → Shared → Prop} (x : IsWt s.heap v ns) (h : ∀ r, (ns = [] → r = none) → Q r s) : wpAny M A (firstOfTuple' v) Q E s := by
  have ty := wt_type (M := M) x
  obtain ⟨a, its, rfl, ⟨o, g, c, n, d⟩, i⟩ := x
  rw [kas_first_eq]
  refine wpAny_bind (ty.here ?_)
  rw [if_neg (by first | decide | simp)]
  refine wpAny_bind (listItems_at g d (wpAny_pure (h _ fun e => ?_)))
  subst e
  cases i
  rfl
theorem wt_firsts : ∀ (vs : List Value) {Q : List (Option Value) → Shared → Prop}, (∀ v ∈ vs, ∃ ns, IsWt s.heap v ns) → (∀ bs, Q bs s) → wpAny M A (vs.mapM firstOfTuple') Q E s
  | [], _, _, h => by rw [List.mapM_nil]; exact wpAny_pure (h _)
  | v :: vs, Q, hv, h => by
    rw [List.mapM_cons]
    obtain ⟨ns, x⟩ := hv v List.mem_cons_self
    refine wpAny_bind (wt_first x fun r _ => ?_)
    exact wpAny_bind (wt_firsts vs (Q := fun bs s' => wpAny M A (pure (r :: bs)) Q E s') (fun u hu => hv u (List.mem_cons_of_mem _ hu)) fun bs => wpAny_pure (h _))
theorem wt_kind {v0 : Value} {rest : List Value} {Q : SortKind → Shared → Prop} (h0 : IsWt s.heap v0 []) (hv : ∀ v ∈ v0 :: rest, ∃ ns, IsWt s.heap v ns) (hq : Q oneType' s) : wpAny M A (keyKind' (v0 :: rest).toArray) Q E s := by
  rw [keyKind'_eq, List.mapM_toArray, map_eq_pure_bind, List.mapM_cons]
  refine wpAny_bind (wpAny_bind (wpAny_bind (wt_first h0 fun r hr => ?_)))
  rw [hr rfl]
  refine wpAny_bind (wt_firsts rest (fun u hu => hv u (List.mem_cons_of_mem _ hu)) fun bs => wpAny_pure (wpAny_pure ?_))
  rw [if_neg (by simp), if_neg (by simp)]
  rw [oneTypeOnly'_eq, List.mapM_toArray, map_eq_pure_bind]
  refine wpAny_bind (wpAny_bind (wpAny_bind (kas_mapM (r := Value.type "tuple") _ (fun v hm Q' hq' => ?_) (wpAny_pure ?_))))
  · obtain ⟨ns, x⟩ := hv v hm
    exact (wt_type x).here hq'
  · have hall : ((List.map (fun _ => Value.type "tuple") (v0 :: rest)).toArray.all fun x => x == Value.type "tuple") = true := by
      simp only [List.all_toArray, List.all_map, List.all_eq_true]
      intro _ _
      rfl
    have e0 : (List.map (fun _ => Value.type "tuple") (v0 :: rest)).toArray[0]? = some (Value.type "tuple") := by simp
    rw [e0]
    simp only [hall, if_true]
    exact wpAny_pure (wpAny_pure hq)
theorem wt_lt {v u : Value} {ns ms : List Int} {Q : Bool → Shared → Prop} (hu : A.units < cLine) (hv : IsWt s.heap v ns) (hw : IsWt s.heap u ms) (h : Q (HT.lexLt ns ms) s) : wpAny (model prog w) A (keyLt' oneType' v u) Q E s := by
  obtain ⟨a, its, rfl, ⟨⟨cls, dd, data, sl⟩, ho, hc, n, hd⟩, hi⟩ := hv
  obtain ⟨b, its2, rfl, ⟨⟨cls2, dd2, data2, sl2⟩, ho2, hc2, n2, hd2⟩, hj⟩ := hw
  simp only at hc hd hc2 hd2
  subst hc hd hc2 hd2
  rw [keyLt'_oneType, oneLt'_eq]
  simp only [if_true]
  refine wpAny_bind (wpAny_cRoomFor hu ?_)
  refine wpAny_bind (wpAny_callSpecialIfBound?_slot (T := "tuple") ⟨_, ho, rfl⟩ PySem.F.slot_tuple_lt (call_meets PySem.F.slot_tuple_lt ⟨_, ho, rfl⟩ PySem.F.entry_tuple_lt (PySem.F.args_tuple_lt_2 _ _)
    (HT.tuple_lt_ints a b its.toArray its2.toArray n n2 dd dd2 sl sl2 ns ms (by simpa using hi) (by simpa using hj)) ⟨ho, ho2, ?_⟩))
  exact wpAny_truthy_bool h
theorem wt_sortable {a : Addr} {v0 : Value} {rest : List Value} {h₀ : Heap} (hu : A.units < cLine) (kk : ∀ b o, h₀.get? b = some o → b ≠ a ∧ s.heap.get? b = some o) (h0 : IsWt h₀ v0 []) (hv : ∀ v ∈ v0 :: rest, IsWt h₀ v (kf h₀ v)) :
    SortableO prog w A s a (v0 :: rest) fun v u => HT.lexLt (kf h₀ v) (kf h₀ u) := by
  intro h' keep
  have k2 : ∀ b o, h₀.get? b = some o → h'.get? b = some o := fun b o e => keep b o (kk b o e).1 (kk b o e).2
  refine ⟨oneType', fun Q E hq => wt_kind (s := { s with heap := h' }) (h0.keeps k2) (fun v hm => ⟨_, (hv v hm).keeps k2⟩) hq, fun p q hp hq => ?_⟩
  exact wt_lt (s := { s with heap := h' }) (Q := fun r s' => s' = { s with heap := h' } ∧ r = HT.lexLt (kf h₀ p.1) (kf h₀ q.1)) (E := fun _ _ => False) hu ((hv _ hp).keeps k2) ((hv _ hq).keeps k2) ⟨rfl, rfl⟩
end
end WtL
namespace SC
open PySem PySem.Spec PyProof.Rows L2 StrLaws
/-- the values of such tuples -/
theorem wts_of {X : Cx} {pins : List (Addr × Obj)} {σ : List (Option V)} {H : Hp} {s : Shared} (I : Inv X pins σ H s) : ∀ {zs : List V} {l : List (List Int)} {its : List Value}, DpAll X.K H zs (l.map wayD) → Vals zs its → (∀ v ∈ its, ∃ ns, WtL.IsWt s.heap v ns) ∧ its.map (WtL.kf s.heap) = l
  | _, [], _, d, r => by
    cases d
    cases r
    exact ⟨fun v h => absurd h (by simp), rfl⟩
  | _, n :: l, _, d, r => by
    rw [List.map_cons] at d
    cases d with
    | cons d1 d2 =>
      cases r with
      | cons r1 r2 =>
        obtain ⟨t, rfl⟩ := dp_tuple d1
        cases r1
        obtain ⟨xs, hs, hx⟩ := dp_tup d1
        obtain ⟨its, rv, ht, _⟩ := I.tuple hs
        rw [ways_ints hx] at rv
        have w1 : WtL.IsWt s.heap (.ref t) n := ⟨t, its, rfl, ht, rv.ints⟩
        obtain ⟨k1, k2⟩ := wts_of I d2 r2
        refine ⟨fun v hm => ?_, ?_⟩
        · rcases List.mem_cons.mp hm with e | hm
          · rw [e]; exact ⟨_, w1⟩
          · exact k1 v hm
        · rw [List.map_cons, k2, WtL.kf_eq w1]
def rSortedW (K : PySem.W.Frag) : List V → Hp → VK → Prop := fun vs H Q => ∃ (a : Addr) (zs : List V) (l : List (List Int)), vs = [.ref a] ∧ SqT K H a zs ∧ DpAll K H zs (l.map wayD) ∧ (l.Pairwise fun p q => HT.lexLt p q = true) ∧ (∃ l', l = [] :: l') ∧ l.length ≤ 1000 ∧
  ∀ p, H p = none → Q (.ref p) (upd H p (.lst zs))
theorem cr_sortedW {X : Cx} (hu : X.A.units + 100 < cLine) : CallR X (.builtin "sorted") (rSortedW X.K) := by
  intro pins s σ H vs us Q I r h
  obtain ⟨a, zs, l, rfl, hs, hd, hp, ⟨l', el⟩, hn, q⟩ := h
  obtain ⟨its, rv, hl, hz⟩ := I.tuple hs
  rw [Vals.ref1 r]
  obtain ⟨w1, w2⟩ := wts_of I hd rv
  have hk : ∀ v ∈ its, WtL.IsWt s.heap v (WtL.kf s.heap v) := fun v hm => by
    obtain ⟨ns, x⟩ := w1 v hm
    rw [WtL.kf_eq x]; exact x
  have O : SrtO.Swo (fun v u : Value => HT.lexLt (WtL.kf s.heap v) (WtL.kf s.heap u)) := NtL.swo_lexL _
  have asc : its.Pairwise fun v u => HT.lexLt (WtL.kf s.heap v) (WtL.kf s.heap u) = true := by
    rw [← w2] at hp
    exact List.pairwise_map.mp hp
  have hu' : X.A.in1.in1.units < cLine := by
    show X.A.units + _ + _ < cLine
    omega
  refine WtL.sorted_ordT O hl (by rw [← rv.length]; exact hz) (fun h2 h₁ a' _ kk => ?_) fun out h1 h2 => ?_
  · match its, w2, hk, h2 with
    | v0 :: rest, w2, hk, _ =>
      refine WtL.wt_sortable hu' kk ?_ hk
      have e : WtL.kf s.heap v0 = [] := by
        rw [el, List.map_cons] at w2
        exact (List.cons.inj w2).1
      have x := hk v0 List.mem_cons_self
      rw [e] at x
      exact x
    | [], _, _, h => exact absurd h (by decide)
  · have eo : out = its := by
      refine List.Perm.eq_of_pairwise (le := fun v u => HT.lexLt (WtL.kf s.heap u) (WtL.kf s.heap v) = false) (fun x y hx hy e1 e2 => ?_) h1 (asc.imp fun {x y} z => O.asym _ _ z) h2.perm
      have hx' : x ∈ its := h2.perm.mem_iff.mp hx
      refine Classical.byContradiction fun ne => ?_
      have z := List.Pairwise.forall_of_forall_of_flip (R := fun v u => v = u ∨ HT.lexLt (WtL.kf s.heap v) (WtL.kf s.heap u) = true ∨ HT.lexLt (WtL.kf s.heap u) (WtL.kf s.heap v) = true)
        (fun _ _ => .inl rfl) (asc.imp fun {x y} z => .inr (.inl z)) (asc.imp fun {x y} z => .inr (.inr z)) hx' hy
      rcases z with z | z | z
      · exact ne z
      · rw [e2] at z; cases z
      · rw [e1] at z; cases z
    subst eo
    obtain ⟨ep, he'⟩ := PyProof.Rows.sortedAll_at s.heap out out.toArray
    exact ⟨.ref _, upd H (s.heap.objs.size + 1) (.lst zs), I.laid (t' := s.toks) (fun _ _ => PyProof.Rows.sortedAll_old) (Nat.le_succ _) ⟨hz, out, ep, rv, he'⟩, rfl, q _ (I.hok.fresh (Nat.le_succ _))⟩
theorem _root_.L2.Room.srt {k : Nat} {A : Around} (h : Room k A) : A.units + 100 < cLine := by
  have := h.un
  omega
theorem deck_hid {H H' : Hp} {Ds : List Addr} {dk gr : Addr} (D : Deck H dk gr) (s : Same (hid Ds H) (hid Ds H')) (h1 : dk ∉ Ds) (h2 : gr ∉ Ds) : Deck H' dk gr := by
  obtain ⟨gs, mx, tn, d⟩ := D
  exact ⟨gs, mx, tn, (hid_get (s _ _ (hid_put h1 d.d))).2, (hid_get (s _ _ (hid_put h2 d.g))).2, d.few, d.mx0, d.mx1⟩
theorem tab_hid {H H' : Hp} {Ds : List Addr} {Pt : Addr} (G : GxR.TabG H Pt) (s : Same (hid Ds H) (hid Ds H')) (h : Pt ∉ Ds) : GxR.TabG H' Pt := by
  obtain ⟨ps, e, z⟩ := G
  exact ⟨ps, (hid_get (s _ _ (hid_put h e))).2, z⟩
theorem tab_deck {H : Hp} {Pt dk gr : Addr} (G : GxR.TabG H Pt) (D : Deck H dk gr) : dk ≠ Pt ∧ gr ≠ Pt := by
  obtain ⟨ps, e, _⟩ := G
  obtain ⟨gs, mx, tn, d⟩ := D
  exact ⟨ne_of d.d e (by intro z; cases z), ne_of d.g e (by intro z; cases z)⟩
/-- two data that are alike -/
theorem l_neSameD {K : PySem.W.Frag} {H : Hp} {Q : VK} {x y : V} {d : PyData} (h1 : Dp K H x d) (h2 : Dp K H y d) (hn : numD d = true) (hd : d.depth ≤ 60) (q : Q (.bl false) H) : rNeD K x y H Q := by
  have sh : SeqAt.shaped d = true := num_shaped hn (by omega)
  refine ⟨_, _, h1, h2, sh, sh, ?_⟩
  rw [SeqAt.eqv_refl _ (num_lay _ hn)]
  exact q
theorem waysD_num (t : Th) : numD (waysD t) = true := by
  simp only [waysD, numD]
  refine numAll_mem.mpr fun d hd => ?_
  obtain ⟨p, _, rfl⟩ := List.mem_map.mp hd
  exact wayD_num _
mutual
theorem bare_bare : ∀ t : Th, t.bare.bare = t.bare
  | .inp _ => by simp only [Th.bare]
  | .st _ _ ps => by simp only [Th.bare, bareL_bare ps]
theorem bareL_bare : ∀ ps : List (Int × Th), bareL (bareL ps) = bareL ps
  | [] => by simp only [bareL]
  | (_, t) :: r => by simp only [bareL, bare_bare t, bareL_bare r]
end
mutual
theorem bare_offs : ∀ t : Th, t.bare.offs = List.replicate t.nSt 0
  | .inp _ => by simp only [Th.bare, Th.offs, Th.nSt, List.replicate]
  | .st _ _ ps => by simp only [Th.bare, Th.offs, Th.nSt, bareL_offs ps, List.replicate_succ]
theorem bareL_offs : ∀ ps : List (Int × Th), offsL (bareL ps) = List.replicate (nStL ps) 0
  | [] => by simp only [bareL, offsL, nStL, List.replicate]
  | (_, t) :: r => by simp only [bareL, offsL, nStL, bare_offs t, bareL_offs r, List.replicate_append_replicate]
end
mutual
theorem bare_good : ∀ t : Th, t.good → t.bare.good
  | .inp _, h => by simp only [Th.bare, Th.good]
  | .st n c ps, h => by
    simp only [Th.good] at h
    simp only [Th.bare, Th.good, bareL_fst]
    exact ⟨⟨h.1.n1, h.1.n2, Int.le_refl _, by have := h.1.n1; omega, h.1.ws⟩, bareL_good ps h.2⟩
theorem bareL_good : ∀ ps : List (Int × Th), goodL ps → goodL (bareL ps)
  | [], _ => by simp only [bareL, goodL]
  | (_, t) :: r, h => by
    simp only [goodL] at h
    simp only [bareL, goodL]
    exact ⟨bare_good t h.1, bareL_good r h.2⟩
end
theorem IsPlan.bare {t : Th} (h : IsPlan t) : IsPlan t.bare := h.of_bare (bare_bare t).symm (bare_good t h.good)
end SC
namespace SC
open PySem PySem.Spec PyProof.Rows L2 StrLaws GxR
/-! ## all(test for x in t), t a tuple of tuples, the test may call -/
/-- a tuple of n items -/
def TupN (n : Nat) (h : Heap) (v : Value) : Prop := ∃ q its, v = .ref q ∧ h.IsTuple q its ∧ its.size = n
section
variable {X : Cx} {pins : List (Addr × Obj)} {σ : L2.St} {H : Hp} {s : Shared}
/-- the test comes out true at tuples of n items; what stood at first stands -/
def TestT (X : Cx) (scope : Scope) (x : Str) (elt : Expr) (n : Nat) : Prop :=
  ∀ (cenv : Env) (A : Around) (E : Value → Shared → Prop) (v : Value) (t : Shared) (m : Str → Option Value), cenv.scope = scope → cenv.globals = mainGlobals → cenv.builtins = builtinsNs → A.handled = none → A.depth ≤ X.A.depth + 1 → L2.Mod X.K X.mg X.base →
    t.heap.Ns cenv.locals m → m x = some v → (∀ b o, X.base.get? b = some o → t.heap.get? b = some o) → TupN n t.heap v → wpAny (model X.prog X.w) A (eval elt cenv) (fun y t' => y = .bool true ∧ Keeps t t') E t
theorem gen_tup {c Pt : Addr} {elt iter : Expr} {x : Str} {px gpos : Pos} {scope : Scope} {te : TE} {k n : Nat} {Q' : Value → Shared → Prop} {R : Hp → Prop}
    (hr : Room k X.A) (TB : TabB X.base X.mg c Pt) (hcode : X.env.code = .ref c) (hglob : X.env.globals = mainGlobals) (S : GenS X.env scope x) (hi : PE X iter te) (hel : TestT X scope x elt n)
    (hs : ∀ v, genFold iter X.env v = pure v) (I : Inv X pins σ H s)
    (h : te σ H fun v H1 => ∃ a xs, v = .ref a ∧ SqT X.K H1 a xs ∧ TabG H1 Pt ∧ (∀ x ∈ xs, ∃ q ys, x = V.ref q ∧ SqT X.K H1 q ys ∧ ys.length = n) ∧ R H1)
    (hQ : ∀ H1 g s5, R H1 → (∃ (n : Nat) (fp wr : List Addr) (G : Array GenState → Array GenState → Prop) (F : Nat → Value → Prop) (St : Nat → Shared → Prop), WalksS X.prog X.w X.A.in1 g fp wr G n F St ∧ St 0 s5 ∧ TruthOf X.prog X.w X.A.in1 F (fun _ => true) ∧
      ∀ s', Moved wr G s5 s' → ∃ H2, Tabbed Pt H1 H2 ∧ Inv X pins σ H2 s') → Q' (.ref g) s5) :
    wpAny (model X.prog X.w) X.A (eval (.GeneratorExp elt [⟨.Name x px, iter, [], 0⟩] scope gpos) X.env) Q' X.xe s := by
  refine wpAny_GeneratorExp_walksQD hr.hd S.co (closure_ok S.free) S.cell S.dot S.loc S.kind (by have := hr.dp; omega) ?_ hs
  refine thn (hi.run pins s σ H _ I h) fun xv s1 ⟨v, H1, I1, r1, q1⟩ => ?_
  obtain ⟨a, xs, rfl, ha, ⟨ps, hP, ht⟩, hPv, q1⟩ := q1
  obtain rfl : xv = Value.ref a := r1
  obtain ⟨its, rv, hT, hz⟩ := I1.tuple ha
  have hPs : s1.heap.get? Pt = some { cls := .none, data := .fields ps } := I1.hok Pt _ hP
  have hPlt : Pt < s1.heap.objs.size := Heap.lt_size hPs
  have la : a < s1.heap.objs.size := by
    obtain ⟨o, ho, _⟩ := id hT
    exact Heap.lt_size ho
  -- the items are tuples, none of them the table
  have items : ∀ (i : Nat) (u : Value), its.toArray[i]? = some u → ∃ q js, u = .ref q ∧ s1.heap.IsTuple q js ∧ js.size = n ∧ q ≠ Pt := fun i u hu => by
    have hu : its[i]? = some u := by simpa using hu
    obtain ⟨z, hz, rz⟩ : ∃ z, xs[i]? = some z ∧ RelV z u := by
      have hlt : i < xs.length := by
        rw [rv.length]
        exact (List.getElem?_eq_some_iff.mp hu).1
      obtain ⟨u', h1, h2⟩ := rv.get (List.getElem?_eq_getElem hlt)
      rw [hu] at h1
      cases h1
      exact ⟨_, List.getElem?_eq_getElem hlt, h2⟩
    obtain ⟨q, ys, rfl, hq, hn⟩ := hPv z (List.mem_of_getElem? hz)
    obtain rfl : u = Value.ref q := rz
    obtain ⟨js, rj, hj, _⟩ := I1.tuple hq
    refine ⟨q, js.toArray, rfl, hj, by rw [List.size_toArray, ← rj.length]; exact hn, fun e => ?_⟩
    obtain ⟨o, ho, hc, _⟩ := hj
    rw [e, hPs] at ho
    cases ho
    cases hc
  refine wpAny_pyIter_tuple hT ?_
  generalize eo : ({ cls := .type "tuple_iterator", data := .fields #[.ref a, .int 0 0] } : Obj) = o
  have hP2 : (s1.heap.push o).get? Pt = some { cls := .none, data := .fields ps } := Heap.get?_push_of_some _ hPs
  have cd : PySem.W.CodeHd (s1.heap.push o) c Pt := TB.code.keeps fun b u e => Heap.get?_push_of_some _ (I1.bk b u e)
  have lim2 : (s1.heap.push o).NoLimit := I1.nolimit.push o
  have hcP : cStatics ≠ Pt := fun e => by
    obtain ⟨_, hns, _⟩ := I1.nolimit
    obtain ⟨o', es, ep, ho, hd, _⟩ := hns
    rw [e, hPs] at ho
    cases ho
    cases hd
  have cont : ∀ (code : Value) (h3 : Heap) (tk : Nat) (ps' : Array Value), Heap.ExtBut Pt (s1.heap.push o) h3 → (s1.heap.push o).objs.size ≤ h3.objs.size → h3.get? Pt = some { cls := .none, data := .fields ps' } → (∃ more, ps' = ps ++ more) → TriplesOk ps'.toList →
      wpAny (model X.prog X.w) X.A (builtinsFor X.env.globals X.env.builtins) (fun bi s₄ =>
        ∃ Ia fp wr n₀ Pf St₀ pz F, Value.ref s1.heap.objs.size = .ref Ia ∧ (∀ A' : Around, A'.handled = none → Walks X.prog X.w A' Ia fp wr n₀ Pf St₀) ∧ St₀ 0 s₄.heap ∧ (∀ b ∈ fp, b < s₄.heap.objs.size) ∧ s₄.heap.NoLimit ∧ cStatics ∉ wr ∧
          (∀ href : Heap, (∀ b o, s₄.heap.get? b = some o → href.get? b = some o) →
            QuietGenD X.prog X.w (genEnv scope (cloFrom X.env.cells scope.names []) s₄.heap.objs.size code bi X.env) x [] elt (List.range s₄.heap.objs.size) wr Pf pz F href (X.A.depth + 1) (X.A.units + 8)) ∧
          (∀ a h₅ tk gs, gs.bare = true → s₄.heap.objs.size < a → h₅.objs.size = a + 1 → (∀ b o, s₄.heap.get? b = some o → h₅.get? b = some o) →
            WalksS X.prog X.w X.A.in4 a (a :: s₄.heap.objs.size :: List.range s₄.heap.objs.size) (s₄.heap.objs.size :: wr) (GenOnlyQ s₄.gens.size) (passing pz n₀ 0).length
              (fun j y => ∃ i, (passing pz n₀ 0)[j]? = some i ∧ F i y) (GenAt X.prog X.w X.A.in4 a s₄.gens.size s₄.heap.objs.size (List.range s₄.heap.objs.size) wr pz n₀ F) →
            GenAt X.prog X.w X.A.in4 a s₄.gens.size s₄.heap.objs.size (List.range s₄.heap.objs.size) wr pz n₀ F 0 { s₄ with gens := s₄.gens.push gs, toks := tk, heap := h₅ } →
            Q' (.ref a) { s₄ with gens := s₄.gens.push gs, toks := tk, heap := h₅ })) X.xe { s1 with heap := h3, toks := tk } := by
    intro code h3 tk ps' hx hsz hP3 hmore ht3
    obtain ⟨bm, ob, e1, e2, e3, e4, e5, e6, e7, e8⟩ := TB.bm
    have hcl : cStatics < s1.heap.objs.size := let ⟨_, hns, _⟩ := I1.nolimit; hns.lt
    have sz2 : (s1.heap.push o).objs.size = s1.heap.objs.size + 1 := Heap.size_push ..
    have keep3 : ∀ b u, b ≠ Pt → s1.heap.get? b = some u → h3.get? b = some u := fun b u hb e => hx b u hb (Heap.get?_push_of_some _ e)
    have aP : a ≠ Pt := fun e => by
      obtain ⟨ob', ho', hc', _⟩ := hT
      rw [e, hPs] at ho'
      cases ho'
      cases hc'
    have aI : a ≠ s1.heap.objs.size := Nat.ne_of_lt la
    have IP : s1.heap.objs.size ≠ Pt := Nat.ne_of_gt hPlt
    have hIo : h3.get? s1.heap.objs.size = some o := hx _ _ IP (Heap.get?_push_size _ (by rw [← eo]; rfl))
    refine wpAny_builtinsFor (m := X.mg) (by rw [I1.ok.glob]; exact ((I1.mod.glob.keeps I1.bk).push o).extBut hx TB.gP) e1 e2 (keep3 _ _ e4 (I1.bk _ _ e5)) e6 e7 e8 ?_
    refine ⟨s1.heap.objs.size, [s1.heap.objs.size, a], [s1.heap.objs.size], its.toArray.size, fun i v => its.toArray[i]? = some v, fun i h => h.IsTupleIter s1.heap.objs.size a i ∧ h.IsTuple a its.toArray, (fun _ => true), (fun _ y => y = .bool true), rfl, fun A' hA => Walks.tuple hA _ a aI its.toArray, ?_, ?_, lim2.extBut hx hcP, ?_, ?_, ?_⟩
    · refine ⟨⟨o, hIo, by rw [← eo], by rw [← eo]; rfl⟩, ?_⟩
      obtain ⟨ob', ho', r⟩ := hT
      exact ⟨ob', keep3 _ _ aP ho', r⟩
    · intro b hb
      have : s1.heap.objs.size < h3.objs.size := by omega
      rcases List.mem_cons.mp hb with z | z
      · rw [z]; exact this
      · rw [List.mem_singleton.mp z]; exact Nat.lt_trans la this
    · intro z
      rw [List.mem_singleton.mp z] at hcl
      exact Nat.lt_irrefl _ hcl
    · intro href hhref
      refine ⟨fun A' E' i v s₂ m₂ hA _ _ hPv hn hm hk => ?_, fun A' E' i v s₂ m₂ hA hD _ hPv hp hn hm hk => ?_⟩
      · simp only [List.forIn_nil]
        exact wpAny_pure ⟨rfl, keeps_refl _⟩
      · have stand : ∀ b u, b ≠ Pt → s1.heap.get? b = some u → s₂.heap.get? b = some u := fun b u hb e => by
          have e3 := keep3 b u hb e
          refine hk b (List.mem_range.mpr (Heap.lt_size e3)) (fun z => ?_) u (hhref b u e3)
          have hl := Heap.lt_size e
          rw [List.mem_singleton.mp z] at hl
          exact Nat.lt_irrefl _ hl
        obtain ⟨q, js, rfl, ⟨oq, hoq, rq⟩, hjs, hqP⟩ := items i v hPv
        exact hel _ A' E' (.ref q) s₂ m₂ rfl hglob rfl hA hD I1.mod hn hm (fun b u e => stand b u (fun z => by have q := (I1.env0.bs b u e).2; rw [z, hP] at q; cases q) (I1.bk b u e)) ⟨q, js, rfl, ⟨oq, stand q oq hqP hoq, rq⟩, hjs⟩
    · intro g h5 tk5 gs hgb hag hsz5 hk5 W5 hat
      simp only [GxR.passing_true, List.length_range] at W5
      refine hQ H1 g _ q1 ⟨_, _, _, _, _, _, W5.in4_1, hat, ?_, fun s' hm => ?_⟩
      · intro j y sj Qj Ej hy hQj
        obtain ⟨i, _, rfl⟩ := hy
        exact wpAny_truthy_bool hQj
      · obtain ⟨more, em⟩ := hmore
        have nwr : ∀ b u, s1.heap.get? b = some u → b ∉ h3.objs.size :: [s1.heap.objs.size] := fun b u e hb => by
          have hl := Heap.lt_size e
          rcases List.mem_cons.mp hb with z | z
          · rw [z] at hl
            have h9 : (h3.objs.size : Nat) < s1.heap.objs.size := hl
            omega
          · rw [List.mem_singleton.mp z] at hl
            exact Nat.lt_irrefl _ hl
        have J := inv_tab (more := more) (h' := s'.heap) (g' := s'.gens) (d' := s'.drawn) (t' := s'.toks) I1 hP (fun b u hb e => hm.heap b u (nwr b u e) (hk5 b u (keep3 b u hb e)))
          (by rw [← em]; exact hm.heap Pt _ (nwr Pt _ hPs) (hk5 Pt _ hP3)) (AllBare.movedS (I1.bare.push hgb) hm)
        rw [sh_eta s1 s' hm.os] at J
        exact ⟨upd H1 Pt (.tbl (ps ++ more)), ⟨⟨ps ++ more, upd_same, by rw [← em]; exact ht3⟩, fun b hb => upd_ne hb⟩, J⟩
  refine ⟨lim2, ?_⟩
  cases hf : codeAmong gpos ps.toList with
  | none =>
    refine wpAny_genexprCodeX hcode (cd.code hP2 ht) (cd.tab hP2) hf fun c' h' tk hx hge hlt hco' _ htab' _ => ?_
    obtain ⟨o1, vs, f1, tf, fl, tg, inF, tx, tt, op, _, _, _, _, _, _, _, _, _, htr, _⟩ := hco'
    exact cont _ h' tk _ hx (Nat.le_trans hge (Nat.le_of_lt hlt)) htab'.2 ⟨_, rfl⟩ htr
  | some cv =>
    refine wpAny_genexprCode_hit hcode (cd.code hP2 ht) hf ?_
    exact cont cv (s1.heap.push o) s1.toks ps (Heap.ExtBut.refl _ _) (Nat.le_refl _) hP2 ⟨#[], by simp⟩ ht
/-- all(..), each test true; behind it the def's table may have grown -/
def tAllT (K : PySem.W.Frag) (Pt : Addr) (n : Nat) (te : TE) : TE := fun σ H Q => te σ H fun v H1 => ∃ a xs, v = .ref a ∧ SqT K H1 a xs ∧ TabG H1 Pt ∧ (∀ x ∈ xs, ∃ q ys, x = V.ref q ∧ SqT K H1 q ys ∧ ys.length = n) ∧ ∀ H2, Tabbed Pt H1 H2 → Q (.bl true) H2
theorem pe_allT {c Pt : Addr} {elt iter : Expr} {x : Str} {px p pos gpos : Pos} {scope : Scope} {te : TE} {k n : Nat}
    (hr : Room k X.A) (hg : Gl X "all") (hm : X.mg "all" = none) (TB : TabB X.base X.mg c Pt) (hcode : X.env.code = .ref c) (hglob : X.env.globals = mainGlobals) (S : GenS X.env scope x) (hi : PE X iter te) (hel : TestT X scope x elt n)
    (hs : ∀ v, genFold iter X.env v = pure v)
    (he : starEach [.GeneratorExp elt [⟨.Name x px, iter, [], 0⟩] scope gpos] X.env = (false, eval (.GeneratorExp elt [⟨.Name x px, iter, [], 0⟩] scope gpos) X.env) :: starEach [] X.env := by rfl) :
    PE X (.Call (.Name "all" p) [.GeneratorExp elt [⟨.Name x px, iter, [], 0⟩] scope gpos] [] pos) (tAllT X.K Pt n te) := .mk fun pins s σ H Q I h => by
  refine wpAny_Call_Name_kw (ld_blt I hg hm (show bootBuiltins "all" = some (.builtin "all") by decide +kernel) ?_)
  refine PyProof.Rows.callWith_builtin1 ?_ he (by rfl)
  rw [he]
  show wpAny _ _ (spliced ((false, eval (.GeneratorExp elt [⟨.Name x px, iter, [], 0⟩] scope gpos) X.env) :: backTo pos (starEach [] X.env))) _ _ s
  refine Calls.spliced_cons (gen_tup (R := fun H1 => ∀ H2, Tabbed Pt H1 H2 → Q (.bl true) H2) hr TB hcode hglob S hi hel hs I h fun H1 g s5 hR hG => ?_)
  obtain ⟨m, fp, wr, G, F, St, W, hst, htr, hI⟩ := hG
  refine Calls.spliced_nil ?_
  refine call_all_walkS (W.self 0 _ _ _ hst ⟨g, fp, wr, G, _, F, St, _, rfl, W, hst, htr, fun s' hmv => ?_⟩)
  obtain ⟨H2, hT, J⟩ := hI s' hmv
  have e : (List.range m).all (fun _ => true) = true := by simp
  rw [e]
  exact ⟨.bl true, H2, J, rfl, hR H2 hT⟩
theorem g_allT {K : PySem.W.Frag} {Pt : Addr} {n : Nat} {te : TE} {σ : L2.St} {H : Hp} {Q : VK} (q : te σ H fun v H1 => ∃ a xs, v = V.ref a ∧ SqT K H1 a xs ∧ TabG H1 Pt ∧ (∀ x ∈ xs, ∃ q ys, x = V.ref q ∧ SqT K H1 q ys ∧ ys.length = n) ∧ ∀ H2, Tabbed Pt H1 H2 → Q (.bl true) H2) : tAllT K Pt n te σ H Q := q
end
end SC
namespace SC
open PySem PySem.Spec PyProof.Rows L2 StrLaws

/-! ## what a thing tells at a row -/
def rowAt (r : List Int) (i : Int) : Int := r.getD i.toNat 0
mutual
def Th.tell (r : List Int) : Th → Int
  | .inp i => rowAt r i
  | .st n c ps => (c + tellL r ps) / n
def tellL (r : List Int) : List (Int × Th) → Int
  | [] => 0
  | (w, t) :: q => w * t.tell r + tellL r q
end
mutual
def Th.rests (r : List Int) : Th → List Int
  | .inp _ => []
  | .st n c ps => (c + tellL r ps) % n :: restsL r ps
def restsL (r : List Int) : List (Int × Th) → List Int
  | [] => []
  | (_, t) :: q => t.rests r ++ restsL r q
end
mutual
/-- the weights alone -/
def Th.wsum (r : List Int) : Th → Int
  | .inp i => rowAt r i
  | .st _ _ ps => wsumL r ps
def wsumL (r : List Int) : List (Int × Th) → Int
  | [] => 0
  | (w, t) :: q => w * t.wsum r + wsumL r q
end
mutual
/-- the plan with divisors 1 -/
def Th.ones : Th → Th
  | .inp i => .inp i
  | .st _ _ ps => .st 1 0 (onesL ps)
def onesL : List (Int × Th) → List (Int × Th)
  | [] => []
  | (w, t) :: q => (w, t.ones) :: onesL q
end
theorem tellL_app (r : List Int) : ∀ a b : List (Int × Th), tellL r (a ++ b) = tellL r a + tellL r b
  | [], b => by simp [tellL]
  | (w, t) :: a, b => by simp only [List.cons_append, tellL, tellL_app r a b]; omega
theorem restsL_app (r : List Int) : ∀ a b : List (Int × Th), restsL r (a ++ b) = restsL r a ++ restsL r b
  | [], b => by simp [restsL]
  | (w, t) :: a, b => by simp only [List.cons_append, restsL, restsL_app r a b, List.append_assoc]
theorem tellL_take {r : List Int} {ps : List (Int × Th)} {i : Nat} {w : Int} {t : Th} (h : ps[i]? = some (w, t)) : tellL r (ps.take (i + 1)) = tellL r (ps.take i) + w * t.tell r := by
  rw [take_one h, tellL_app]
  simp only [tellL]; omega
theorem restsL_take {r : List Int} {ps : List (Int × Th)} {i : Nat} {w : Int} {t : Th} (h : ps[i]? = some (w, t)) : restsL r (ps.take (i + 1)) = restsL r (ps.take i) ++ t.rests r := by
  rw [take_one h, restsL_app]
  simp only [restsL, List.append_nil]
mutual
theorem rests_len (r : List Int) : ∀ t : Th, (t.rests r).length = t.nSt
  | .inp _ => by simp only [Th.rests, Th.nSt, List.length_nil]
  | .st n c ps => by simp only [Th.rests, Th.nSt, List.length_cons, restsL_len r ps]
theorem restsL_len (r : List Int) : ∀ ps : List (Int × Th), (restsL r ps).length = nStL ps
  | [] => by simp only [restsL, nStL, List.length_nil]
  | (w, t) :: q => by simp only [restsL, nStL, List.length_append, rests_len r t, restsL_len r q]
end
mutual
theorem rests_range (r : List Int) : ∀ t : Th, t.good → ∀ x ∈ t.rests r, 0 ≤ x ∧ x < 10 ^ 30
  | .inp _, _, x, h => by simp [Th.rests] at h
  | .st n c ps, g, x, h => by
    simp only [Th.good] at g
    simp only [Th.rests, List.mem_cons] at h
    have n1 := g.1.n1
    have n2 := g.1.n2
    rcases h with rfl | h
    · exact ⟨Int.emod_nonneg _ (by omega), Int.lt_of_lt_of_le (Int.emod_lt_of_pos _ (by omega)) n2⟩
    · exact restsL_range r ps g.2 x h
theorem restsL_range (r : List Int) : ∀ ps : List (Int × Th), goodL ps → ∀ x ∈ restsL r ps, 0 ≤ x ∧ x < 10 ^ 30
  | [], _, x, h => by simp [restsL] at h
  | (w, t) :: q, g, x, h => by
    simp only [goodL] at g
    simp only [restsL, List.mem_append] at h
    rcases h with h | h
    · exact rests_range r t g.1 x h
    · exact restsL_range r q g.2 x h
end

/-! the plan with divisors 1 -/
mutual
theorem ones_tell (r : List Int) : ∀ t : Th, t.ones.tell r = t.wsum r
  | .inp i => by simp only [Th.ones, Th.tell, Th.wsum]
  | .st n c ps => by simp only [Th.ones, Th.tell, Th.wsum, onesL_tell r ps, Int.zero_add, Int.ediv_one]
theorem onesL_tell (r : List Int) : ∀ ps : List (Int × Th), tellL r (onesL ps) = wsumL r ps
  | [] => by simp only [onesL, tellL, wsumL]
  | (w, t) :: q => by simp only [onesL, tellL, wsumL, ones_tell r t, onesL_tell r q]
end
mutual
theorem ones_rests (r : List Int) : ∀ t : Th, t.ones.rests r = List.replicate t.nSt 0
  | .inp i => by simp only [Th.ones, Th.rests, Th.nSt, List.replicate_zero]
  | .st n c ps => by simp only [Th.ones, Th.rests, Th.nSt, onesL_rests r ps, Int.emod_one, List.replicate_succ]
theorem onesL_rests (r : List Int) : ∀ ps : List (Int × Th), restsL r (onesL ps) = List.replicate (nStL ps) 0
  | [] => by simp only [onesL, restsL, nStL, List.replicate_zero]
  | (w, t) :: q => by simp only [onesL, restsL, nStL, ones_rests r t, onesL_rests r q, List.replicate_append_replicate]
end
theorem onesL_eq : ∀ ps : List (Int × Th), onesL ps = ps.map fun p => (p.1, p.2.ones)
  | [] => by simp only [onesL, List.map_nil]
  | (w, t) :: q => by simp only [onesL, List.map_cons, onesL_eq q]
theorem onesL_w (ps : List (Int × Th)) : (onesL ps).map (·.1) = ps.map (·.1) := by rw [onesL_eq, List.map_map]; rfl
mutual
theorem ones_same : ∀ t : Th, t.ones.nIn = t.nIn ∧ t.ones.nSt = t.nSt ∧ t.ones.dep = t.dep ∧ t.ones.full = t.full ∧ t.ones.ins = t.ins
  | .inp i => by simp only [Th.ones, and_self]
  | .st n c ps => by
    obtain ⟨h1, h2, h3, h4, h5⟩ := onesL_same ps
    have h6 : (onesL ps).isEmpty = ps.isEmpty := by cases ps <;> simp [onesL]
    simp only [Th.ones, Th.nIn, Th.nSt, Th.dep, Th.full, Th.ins, h1, h2, h3, h4, h5, h6, and_self]
theorem onesL_same : ∀ ps : List (Int × Th), nInL (onesL ps) = nInL ps ∧ nStL (onesL ps) = nStL ps ∧ depL (onesL ps) = depL ps ∧ fullL (onesL ps) = fullL ps ∧ insL (onesL ps) = insL ps
  | [] => by simp only [onesL, and_self]
  | (w, t) :: q => by
    obtain ⟨h1, h2, h3, h4, h5⟩ := onesL_same q
    obtain ⟨k1, k2, k3, k4, k5⟩ := ones_same t
    simp only [onesL, nInL, nStL, depL, fullL, insL, h1, h2, h3, h4, h5, k1, k2, k3, k4, k5, and_self]
end
mutual
theorem ones_good : ∀ t : Th, t.good → t.ones.good
  | .inp i, _ => by simp only [Th.ones, Th.good]
  | .st n c ps, g => by
    simp only [Th.good] at g
    simp only [Th.ones, Th.good]
    exact ⟨⟨by omega, by decide, by omega, by omega, by rw [onesL_w]; exact g.1.ws⟩, onesL_good ps g.2⟩
theorem onesL_good : ∀ ps : List (Int × Th), goodL ps → goodL (onesL ps)
  | [], _ => by simp only [onesL, goodL]
  | (w, t) :: q, g => by
    simp only [goodL] at g
    simp only [onesL, goodL]
    exact ⟨ones_good t g.1, onesL_good q g.2⟩
end
theorem IsPlan.ones {t : Th} (h : IsPlan t) : IsPlan t.ones := by
  obtain ⟨h1, h2, h3, h4, h5⟩ := ones_same t
  obtain ⟨c, d, ps, e⟩ := h.st
  refine ⟨?_, ones_good t h.good, by rw [h4]; exact h.full, by rw [h2]; exact h.many, by rw [h3]; exact h.deep, by rw [h1]; exact h.inp, by rw [h5, h1]; exact h.perm⟩
  subst e
  exact ⟨1, 0, _, by simp only [Th.ones]; rfl⟩

/-! ## how great what is told gets -/
theorem natAbs_ediv_le {a n : Int} (h : 1 ≤ n) : (a / n).natAbs ≤ a.natAbs := by
  by_cases ha : a < 0
  · have h1 : a / n < 0 := Int.ediv_neg_of_neg_of_pos ha (by omega)
    have h2 : a ≤ a / n := by
      have := Int.mul_ediv_self_le (x := a) (k := n) (by omega)
      have h3 : a < n * (a / n) + n := Int.lt_mul_ediv_self_add (by omega)
      have h4 : 0 ≤ (n - 1) * (-(a / n) - 1) := Int.mul_nonneg (by omega) (by omega)
      have h5 : (n - 1) * (-(a / n) - 1) = -(n * (a / n)) + a / n - n + 1 := by
        simp only [Int.sub_mul, Int.mul_sub, Int.mul_neg, Int.mul_one, Int.one_mul]; omega
      omega
    omega
  · have h1 : 0 ≤ a / n := Int.ediv_nonneg (by omega) (by omega)
    have h2 : a / n ≤ a := Int.ediv_le_self n (by omega)
    omega
theorem natAbs_add_le' (a b : Int) : (a + b).natAbs ≤ a.natAbs + b.natAbs := by omega
theorem part_le {w x : Int} {M : Nat} (hw : w.natAbs ≤ 10 ^ 30) (hx : x.natAbs ≤ M) : (w * x).natAbs ≤ 10 ^ 30 * M := by
  rw [Int.natAbs_mul]
  exact Nat.mul_le_mul hw hx
theorem wstep {M k : Nat} (hM : 1 ≤ M) (hk : k ≤ 24) : 10 ^ 30 + k * (10 ^ 30 * M) ≤ 2 ^ 110 * M := by
  have h1 : k * (10 ^ 30 * M) ≤ 24 * (10 ^ 30 * M) := Nat.mul_le_mul_right _ hk
  have h2 : (10 : Nat) ^ 30 * M + 24 * (10 ^ 30 * M) ≤ 2 ^ 110 * M := by
    have : (10 : Nat) ^ 30 * M + 24 * (10 ^ 30 * M) = (25 * 10 ^ 30) * M := by
      rw [← Nat.mul_assoc, ← Nat.add_mul]
    rw [this]
    exact Nat.mul_le_mul_right _ (by decide +kernel)
  have h3 : (10 : Nat) ^ 30 ≤ 10 ^ 30 * M := Nat.le_mul_of_pos_right _ hM
  omega
/-- what is told, at most, by how deep one stands -/
def topM (B d : Nat) : Nat := 2 ^ (B + 110 * d)
theorem topM_pos (B d : Nat) : 1 ≤ topM B d := Nat.one_le_two_pow
theorem topM_mono {B d e : Nat} (h : d ≤ e) : topM B d ≤ topM B e := Nat.pow_le_pow_right (by decide) (by omega)
theorem topM_succ (B d : Nat) : 2 ^ 110 * topM B d = topM B (d + 1) := by
  unfold topM
  rw [← Nat.pow_add]
  exact congrArg (2 ^ ·) (by omega)
mutual
theorem tell_le {r : List Int} {B : Nat} (hr : ∀ i : Int, (rowAt r i).natAbs ≤ 2 ^ B) : ∀ t : Th, t.good → t.full = true → t.nIn ≤ 24 → (t.tell r).natAbs ≤ topM B t.dep
  | .inp i, _, _, _ => by
    simp only [Th.tell, Th.dep, topM, Nat.mul_zero, Nat.add_zero]
    exact hr i
  | .st n c ps, g, f, hn => by
    simp only [Th.good] at g
    simp only [Th.full, Bool.and_eq_true] at f
    simp only [Th.nIn] at hn
    have h1 := tellL_le hr ps g.2 (fun p hp => (g.1.ws.nz p.1 (List.mem_map.mpr ⟨p, hp, rfl⟩)).2) f.2 hn (depL ps) (Nat.le_refl _)
    have h2 := len_le_nIn f.2
    have h3 : c.natAbs ≤ 10 ^ 30 := nat30 g.1.c0 (by have := g.1.c1; have := g.1.n2; omega)
    simp only [Th.tell, Th.dep, ← topM_succ]
    have h4 := natAbs_ediv_le (a := c + tellL r ps) g.1.n1
    have h5 := natAbs_add_le' c (tellL r ps)
    have h6 := wstep (topM_pos B (depL ps)) (show ps.length ≤ 24 by omega)
    generalize ps.length * (10 ^ 30 * topM B (depL ps)) = Z at h1 h6
    omega
theorem tellL_le {r : List Int} {B : Nat} (hr : ∀ i : Int, (rowAt r i).natAbs ≤ 2 ^ B) : ∀ ps : List (Int × Th), goodL ps → (∀ p ∈ ps, p.1.natAbs ≤ 10 ^ 30) → fullL ps = true → nInL ps ≤ 24 → ∀ d, depL ps ≤ d → (tellL r ps).natAbs ≤ ps.length * (10 ^ 30 * topM B d)
  | [], _, _, _, _, _, _ => by simp only [tellL]; exact Nat.zero_le _
  | (w, t) :: q, g, hw, f, hn, d, hd => by
    simp only [goodL] at g
    simp only [fullL, Bool.and_eq_true] at f
    simp only [nInL] at hn
    simp only [depL] at hd
    have h1 := tell_le hr t g.1 f.1 (by omega)
    have h2 := tellL_le hr q g.2 (fun p hp => hw p (List.mem_cons_of_mem _ hp)) f.2 (by omega) d (by omega)
    have h3 : (w * t.tell r).natAbs ≤ 10 ^ 30 * topM B d := part_le (hw _ (List.mem_cons_self ..)) (Nat.le_trans h1 (topM_mono (B := B) (show t.dep ≤ d by omega)))
    simp only [tellL]
    rw [List.length_cons, Nat.succ_mul]
    have h5 := natAbs_add_le' (w * t.tell r) (tellL r q)
    generalize 10 ^ 30 * topM B d = Z at h2 h3 ⊢
    omega
end
/-- a thing that is run at a row -/
structure Runs (t : Th) (r : List Int) (B : Nat) : Prop where
  good : t.good
  full : t.full = true
  inp : t.nIn ≤ 24
  st : t.nSt ≤ 12
  dep : t.dep ≤ 8
  ins : ∀ i ∈ t.ins, 0 ≤ i ∧ i < (r.length : Nat)
  row : ∀ x ∈ r, x.natAbs ≤ 2 ^ B
  few : B ≤ 100000
theorem rowAt_le {r : List Int} {B : Nat} (h : ∀ x ∈ r, x.natAbs ≤ 2 ^ B) (i : Int) : (rowAt r i).natAbs ≤ 2 ^ B := by
  unfold rowAt
  rw [List.getD_eq_getElem?_getD]
  cases e : r[i.toNat]? with
  | none => exact Nat.zero_le _
  | some x => exact h x (List.mem_of_getElem? e)
theorem Runs.part {n c : Int} {ps : List (Int × Th)} {r : List Int} {B : Nat} (h : Runs (.st n c ps) r B) {p : Int × Th} (hp : p ∈ ps) : Runs p.2 r B := by
  have g := h.good
  have f := h.full
  have i := h.inp
  have s := h.st
  have d := h.dep
  have x := h.ins
  simp only [Th.good] at g
  simp only [Th.full, Bool.and_eq_true] at f
  simp only [Th.nIn] at i
  simp only [Th.nSt] at s
  simp only [Th.dep] at d
  simp only [Th.ins, insL_eq, List.mem_flatten, List.mem_map] at x
  have h1 := nIn_le hp
  have h2 := nSt_le hp
  have h3 := depL_le.mp (Nat.le_refl (depL ps)) p hp
  exact ⟨goodL_iff.mp g.2 p hp, fullL_iff.mp f.2 p hp, by omega, by omega, by omega, fun i hi => x i ⟨_, ⟨p, hp, rfl⟩, hi⟩, h.row, h.few⟩
theorem Runs.le {t : Th} {r : List Int} {B : Nat} (h : Runs t r B) : (t.tell r).natAbs ≤ 2 ^ (B + 880) :=
  Nat.le_trans (tell_le (rowAt_le h.row) t h.good h.full h.inp) (Nat.pow_le_pow_right (by decide) (by have := h.dep; omega))
theorem w_mul {w x : Int} {B : Nat} (hw : w.natAbs ≤ 10 ^ 30) (hx : x.natAbs ≤ 2 ^ B) (hB : B ≤ 500000) : CMulW w x :=
  wide_mul (a := 110) (b := B + 1) (Nat.lt_of_le_of_lt hw (by decide +kernel)) (Nat.lt_of_le_of_lt hx (Nat.pow_lt_pow_right (by decide) (by omega))) (by decide) (by omega) (by omega)
theorem Runs.mul {n c : Int} {ps : List (Int × Th)} {r : List Int} {B : Nat} (h : Runs (.st n c ps) r B) {w : Int} {t : Th} (hp : (w, t) ∈ ps) : CMulW w (t.tell r) := by
  have g := h.good
  simp only [Th.good] at g
  exact w_mul (g.1.ws.nz w (List.mem_map.mpr ⟨_, hp, rfl⟩)).2 (h.part hp).le (by have := h.few; omega)
theorem Runs.n0 {n c : Int} {ps : List (Int × Th)} {r : List Int} {B : Nat} (h : Runs (.st n c ps) r B) : 1 ≤ n ∧ n ≤ 10 ^ 30 := by
  have g := h.good
  simp only [Th.good] at g
  exact ⟨g.1.n1, g.1.n2⟩
theorem IsPlan.runs {t : Th} (h : IsPlan t) {r : List Int} {B : Nat} (hl : r.length = t.nIn) (hr : ∀ x ∈ r, x.natAbs ≤ 2 ^ B) (hB : B ≤ 100000) : Runs t r B := by
  refine ⟨h.good, h.full, h.inp, h.many, h.deep, fun i hi => ?_, hr, hB⟩
  have := h.perm.mem_iff.mp hi
  unfold rngI at this
  obtain ⟨j, hj, rfl⟩ := List.mem_map.mp this
  have := List.mem_range.mp hj
  exact ⟨Int.natCast_nonneg j, by show (j : Int) < _; omega⟩
theorem divp_small {i j : Int} (h1 : 1 ≤ j) (h2 : j ≤ 10 ^ 30) : CDivP i j := by
  refine ⟨show 0 < j by omega, ?_⟩
  have hl : j.natAbs.log2 < 110 := (Nat.log2_lt (by omega)).mpr (by
    have : j.natAbs ≤ 10 ^ 30 := nat30 (by omega) h2
    exact Nat.lt_of_le_of_lt this (by decide +kernel))
  show (decide ((if j == 0 then 0 else j.natAbs.log2 / 30 + 1) > 300) && decide ((if i == 0 then 0 else i.natAbs.log2 / 30 + 1) > (if j == 0 then 0 else j.natAbs.log2 / 30 + 1) + 150)) = false
  rw [if_neg (show ¬ (j == 0) = true by simpa using (show j ≠ 0 by omega)), decide_eq_false (show ¬ (j.natAbs.log2 / 30 + 1 > 300) by omega), Bool.false_and]
theorem atI_row {r : List Int} {i : Int} (h0 : 0 ≤ i) (h1 : i < (r.length : Nat)) : atI (r.map V.int) i = some (.int (rowAt r i)) := by
  have hl : i.toNat < r.length := by omega
  refine at_of (j := i.toNat) (by omega) ?_
  rw [List.getElem?_map]
  unfold rowAt
  rw [List.getD_eq_getElem?_getD, List.getElem?_eq_getElem hl]
  rfl
end SC
namespace SC
open PySem PySem.Spec PyProof.Rows L2 StrLaws

/-! ## x += e -/
theorem g_aug {i : Nat} {te : TE} {ti : TIp} {D : Ends} {σ : L2.St} {H : Hp} {x : V} (h : σ[i]? = some (some x)) (q : te σ H fun y H1 => ti x y H1 fun z H2 => D.nx (σ.set i (some z)) H2) : tAug i te ti D σ H := ⟨x, h, q⟩
theorem l_ip {f : Int → Int → Int} {m n : Int} {H : Hp} {Q : VK} (q : Q (.int (f m n)) H) : ipI f (.int m) (.int n) H Q := ⟨m, n, rfl, rfl, q⟩

/-! ## repr of data with great integers -/
mutual
def okB : PyData → Bool
  | .none => true
  | .bool _ => true
  | .int i => decide (i.natAbs < 10 ^ 570)
  | .str _ => false
  | .list xs => okBAll xs
  | .tuple xs => okBAll xs
  | .dict _ => false
def okBAll : List PyData → Bool
  | [] => true
  | x :: xs => okB x && okBAll xs
end
theorem log_great {m : Nat} (h : m < 10 ^ 570) : m.log2 < 1920 := log2_small (Nat.lt_trans h (by decide +kernel))
mutual
theorem okB_facts : ∀ d : PyData, okB d = true → d.shown.length + 5 ≤ 590 * nd d ∧ d.showable = true ∧ d.hasDict = false
  | .none, _ => by
    refine ⟨?_, by simp only [PyData.showable], by simp only [PyData.hasDict]⟩
    have e : (PyData.shown .none).length = 4 := rfl
    simp only [nd]; omega
  | .bool b, _ => by
    refine ⟨?_, by simp only [PyData.showable], by simp only [PyData.hasDict]⟩
    have e : (PyData.shown (.bool b)).length ≤ 5 := by cases b <;> decide
    simp only [nd]; omega
  | .int i, h => by
    have h1 : i.natAbs < 10 ^ 570 := by simpa only [okB, decide_eq_true_eq] using h
    refine ⟨?_, by simp only [PyData.showable, decide_eq_true_eq]; exact log_great h1, by simp only [PyData.hasDict]⟩
    have e := int_text_length_le10 (k := 570) (by decide) h1
    have e2 : (PyData.shown (.int i)).length ≤ 571 := by
      show (Str.ofString (toString i)).length ≤ 571
      rw [PySem.ofString_length]
      exact e
    simp only [nd]; omega
  | .str x, h => by simp only [okB] at h; cases h
  | .list xs, h => by
    have h1 := okB_factsA xs (by simpa only [okB] using h)
    have h2 := listText_len_le (PyData.shownAll xs)
    have h3 := PyData.shownAll_length xs
    refine ⟨?_, by simp only [PyData.showable]; exact h1.2.1, by simp only [PyData.hasDict]; exact h1.2.2⟩
    simp only [PyData.shown, nd]
    omega
  | .tuple xs, h => by
    have h1 := okB_factsA xs (by simpa only [okB] using h)
    have h2 := tupleText_len_le (PyData.shownAll xs)
    have h3 := PyData.shownAll_length xs
    refine ⟨?_, by simp only [PyData.showable]; exact h1.2.1, by simp only [PyData.hasDict]; exact h1.2.2⟩
    simp only [PyData.shown, nd]
    omega
  | .dict kvs, h => by simp only [okB] at h; cases h
theorem okB_factsA : ∀ xs : List PyData, okBAll xs = true → ((PyData.shownAll xs).map (·.length)).sum + 5 * xs.length ≤ 590 * ndAll xs ∧ PyData.showableAll xs = true ∧ PyData.hasDictAll xs = false
  | [], _ => ⟨by simp only [PyData.shownAll, ndAll, List.map_nil, List.sum_nil, List.length_nil]; omega, by simp only [PyData.showableAll], by simp only [PyData.hasDictAll]⟩
  | x :: xs, h => by
    have h' : okB x = true ∧ okBAll xs = true := by simpa only [okBAll, Bool.and_eq_true] using h
    have h1 := okB_facts x h'.1
    have h2 := okB_factsA xs h'.2
    refine ⟨?_, by simp only [PyData.showableAll, h1.2.1, h2.2.1, Bool.and_self], by simp only [PyData.hasDictAll, h1.2.2, h2.2.2, Bool.or_self]⟩
    simp only [PyData.shownAll, ndAll, List.map_cons, List.sum_cons, List.length_cons]
    omega
end
theorem okBAll_mem {ds : List PyData} : okBAll ds = true ↔ ∀ d ∈ ds, okB d = true := by
  induction ds with
  | nil => simp [okBAll]
  | cons x xs ih => simp only [okBAll, Bool.and_eq_true, ih, List.mem_cons, forall_eq_or_imp]
theorem okB_int {i : Int} (h : i.natAbs ≤ 2 ^ 1890) : okB (.int i) = true := by
  simp only [okB, decide_eq_true_eq]
  exact Nat.lt_of_le_of_lt h (by decide +kernel)
theorem okB_ints {ns : List Int} (h : ∀ i ∈ ns, i.natAbs ≤ 2 ^ 1890) : okBAll (ns.map PyData.int) = true := okBAll_mem.mpr fun d hd => by
  obtain ⟨i, hi, rfl⟩ := List.mem_map.mp hd
  exact okB_int (h i hi)
mutual
theorem okB_of : ∀ t : Th, okD t.toD = true → okB t.toD = true
  | .inp i, h => by
    simp only [Th.toD, okD, okB, decide_eq_true_eq] at h ⊢
    exact Nat.lt_trans h (by decide +kernel)
  | .st n c ps, h => by
    simp only [Th.toD, okD, okAll, okB, okBAll, Bool.and_true, Bool.and_eq_true, decide_eq_true_eq] at h ⊢
    exact ⟨Nat.lt_trans h.1 (by decide +kernel), Nat.lt_trans h.2.1 (by decide +kernel), okBL_of ps h.2.2⟩
theorem okBL_of : ∀ ps : List (Int × Th), okAll (toDL ps) = true → okBAll (toDL ps) = true
  | [], _ => by simp only [toDL, okBAll]
  | (w, t) :: r, h => by
    simp only [toDL, okD, okAll, okB, okBAll, Bool.and_true, Bool.and_eq_true, decide_eq_true_eq] at h ⊢
    exact ⟨⟨Nat.lt_trans h.1.1 (by decide +kernel), okB_of t h.1.2⟩, okBL_of r h.2⟩
end
structure ShowsB (d : PyData) : Prop where
  ok : okB d = true
  many : nd d ≤ 20000
  deep : d.depth ≤ 60
theorem shown_int (i : Int) : PyData.shown (.int i) = Str.ofString (toString i) := rfl
section
variable {X : Cx}
/-- repr of a list, a tuple, an integer -/
def rReprB (K : PySem.W.Frag) : List V → Hp → VK → Prop := fun xs H Q => ∃ (x : V) (d : PyData), xs = [x] ∧ Dp K H x d ∧ ((∃ a, x = .ref a) ∨ ∃ i, x = .int i) ∧ ShowsB d ∧ Q (.str d.shown) H
theorem call_reprB (hgd : X.A.guards = some []) (hu : X.A.units + 70 < cLine) : CallR X (.builtin "repr") (rReprB X.K) := by
  intro pins s σ H xs us Q I r h
  obtain ⟨x, d, rfl, hd, hk, hs, q⟩ := h
  obtain ⟨f1, f2, f3⟩ := okB_facts d hs.ok
  rcases hk with ⟨a, rfl⟩ | ⟨i, rfl⟩
  · obtain ⟨u, rfl, rx⟩ := vals1 r
    cases rx
    obtain ⟨as, rd⟩ := Dp.reads I d _ _ hd rfl
    have hm := hs.many
    have hp := hs.deep
    refine repr_of_reads' rd f2 (PyData.noDict_hsm f3) hgd (by omega) (fun _ _ e => e) (fun h' u tk hk => ?_) (by rw [sizeLine_eq]; omega)
    exact ⟨.str _, H, I.kept (t' := tk) hk, ⟨_, rfl⟩, q⟩
  · cases hd
    have hl : i.natAbs.log2 < 1920 := by simpa only [PyData.showable, decide_eq_true_eq] using f2
    exact SkE.call_repr_int pins s σ H _ us Q I r ⟨i, rfl, hl, q⟩
/-- max of a tuple of noughts -/
def rMaxT0 (K : PySem.W.Frag) : List V → Hp → VK → Prop := fun vs H Q => ∃ (a : Addr) (n : Nat), vs = [.ref a] ∧ SqT K H a (List.replicate (n + 1) (.int 0)) ∧ Q (.int 0) H
theorem dps_zero {K : PySem.W.Frag} {H : Hp} : ∀ n : Nat, DpAll K H (List.replicate n (.int 0)) (List.replicate n (.int 0))
  | 0 => .nil
  | n + 1 => .cons (.int 0) (dps_zero n)
theorem cr_maxT0 (hc : X.calm = true) (hu : X.A.units + 70 < cLine) : CallR X (.builtin "max") (rMaxT0 X.K) := by
  intro pins s σ H vs us Q I r h
  obtain ⟨a, n, rfl, hs, q⟩ := h
  obtain ⟨its, rv, hl, _⟩ := I.tuple hs
  rw [Vals.ref1 r]
  obtain ⟨as, ra⟩ := Dp.readsAll I _ _ its (dps_zero (n + 1)) rv
  rw [List.replicate_succ] at ra
  have hz : ∀ x ∈ PyData.int 0 :: List.replicate n (PyData.int 0), x = .int 0 := fun x hx => by
    rcases List.mem_cons.mp hx with e | e
    · exact e
    · exact List.eq_of_mem_replicate e
  refine PySem.W.max_tuple_data (I.ok.hd hc) hl (by simpa using ra) ⟨fun x hx y hy => by rw [hz x hx, hz y hy]; simp only [PySem.W.alike], fun x hx => by rw [hz x hx]; intro e; cases e⟩ ?_ fun i v h' tk bs hi rd hk => ?_
  · have : PyData.depthAll (PyData.int 0 :: List.replicate n (PyData.int 0)) ≤ 0 := depthAll_le.mpr fun d hd => by rw [hz d hd]; simp only [PyData.depth]; omega
    omega
  · have hi2 : its[i]? = some v := by simpa using hi
    have hlt : i < (List.replicate (n + 1) (V.int 0)).length := by
      rw [rv.length]
      exact (List.getElem?_eq_some_iff.mp hi2).1
    obtain ⟨u, hu2, ru⟩ := rv.get (List.getElem?_eq_getElem hlt)
    rw [hi2] at hu2
    obtain rfl := Option.some.inj hu2
    rw [List.getElem_replicate] at ru
    exact ⟨.int 0, H, I.kept hk, ru, q⟩
end
end SC
namespace SC
open PySem PySem.Spec PyProof.Rows L2 StrLaws

/-! ## fractions in least terms -/
def gcdN (a b : Int) : Nat := Nat.gcd a.natAbs b.natAbs
def lst (a b : Int) : Int × Int := (a / (gcdN a b : Int), b / (gcdN a b : Int))
theorem gcdN_pos {a b : Int} (h : 0 < b) : 0 < gcdN a b := Nat.gcd_pos_of_pos_right _ (by omega)
theorem gcdN_le {a b : Int} (h : 0 < b) : (gcdN a b : Int) ≤ b := by
  have := Nat.gcd_le_right a.natAbs (show 0 < b.natAbs by omega)
  unfold gcdN
  omega
theorem gcdN_d1 (a b : Int) : ((gcdN a b : Nat) : Int) ∣ a := Int.ofNat_dvd_left.mpr (Nat.gcd_dvd_left _ _)
theorem gcdN_d2 (a b : Int) : ((gcdN a b : Nat) : Int) ∣ b := Int.ofNat_dvd_left.mpr (Nat.gcd_dvd_right _ _)
theorem lst_1 (a b : Int) : (lst a b).1 * (gcdN a b : Int) = a := Int.ediv_mul_cancel (gcdN_d1 a b)
theorem lst_2 (a b : Int) : (lst a b).2 * (gcdN a b : Int) = b := Int.ediv_mul_cancel (gcdN_d2 a b)
theorem lst_pos {a b : Int} (h : 0 < b) : 0 < (lst a b).2 := by
  have h1 := lst_2 a b
  have h2 : (0 : Int) < (gcdN a b : Int) := by have := gcdN_pos (a := a) h; omega
  refine Int.lt_of_not_ge fun h3 => ?_
  have := Int.mul_le_mul_of_nonneg_right h3 (Int.le_of_lt h2)
  rw [h1, Int.zero_mul] at this
  omega
theorem lst_cross (a b : Int) : (lst a b).1 * b = a * (lst a b).2 := by
  have h1 := lst_1 a b
  have h2 := lst_2 a b
  generalize (lst a b).1 = x at *
  generalize (lst a b).2 = y at *
  generalize (gcdN a b : Int) = g at *
  rw [← h1, ← h2, Int.mul_assoc, Int.mul_comm y g]
theorem lst_le1 (a b : Int) : (lst a b).1.natAbs ≤ a.natAbs := by
  have h1 := lst_1 a b
  by_cases h : gcdN a b = 0
  · have : a / ((0 : Nat) : Int) = 0 := Int.ediv_zero a
    unfold lst; rw [h]; simp
  · have h2 := congrArg Int.natAbs h1
    rw [Int.natAbs_mul, Int.natAbs_natCast] at h2
    rw [← h2]
    exact Nat.le_mul_of_pos_right _ (Nat.pos_of_ne_zero h)
theorem lst_le2 (a b : Int) : (lst a b).2.natAbs ≤ b.natAbs := by
  have h1 := lst_2 a b
  by_cases h : gcdN a b = 0
  · unfold lst; rw [h]; simp
  · have h2 := congrArg Int.natAbs h1
    rw [Int.natAbs_mul, Int.natAbs_natCast] at h2
    rw [← h2]
    exact Nat.le_mul_of_pos_right _ (Nat.pos_of_ne_zero h)
theorem lst_scale {a b k : Int} (hb : 0 < b) (hk : 0 < k) : lst (a * k) (b * k) = lst a b := by
  have hg : gcdN (a * k) (b * k) = gcdN a b * k.natAbs := by
    unfold gcdN
    rw [Int.natAbs_mul, Int.natAbs_mul, Nat.gcd_mul_right]
  have hk2 : ((gcdN a b * k.natAbs : Nat) : Int) = (gcdN a b : Int) * k := by
    rw [Int.natCast_mul]
    congr 1
    omega
  unfold lst
  rw [hg, hk2, Int.mul_ediv_mul_of_pos_left _ _ hk, Int.mul_ediv_mul_of_pos_left _ _ hk]
theorem lst_eq {a b c d : Int} (hb : 0 < b) (hd : 0 < d) (h : a * d = c * b) : lst a b = lst c d := by
  rw [← lst_scale hb hd, h, Int.mul_comm b d, lst_scale hd hb]
theorem lst_scaled {a b f d : Int} (hb : 0 < b) (hd : 0 < d) : lst ((lst a b).1 * f) ((lst a b).2 * d) = lst (a * f) (b * d) := by
  refine lst_eq (Int.mul_pos (lst_pos hb) hd) (Int.mul_pos hb hd) ?_
  have := lst_cross a b
  generalize (lst a b).1 = x at *
  generalize (lst a b).2 = y at *
  have e : x * f * (b * d) = (x * b) * (f * d) := by simp only [Int.mul_assoc, Int.mul_left_comm, Int.mul_comm]
  have e2 : a * f * (y * d) = (a * y) * (f * d) := by simp only [Int.mul_assoc, Int.mul_left_comm, Int.mul_comm]
  rw [e, e2, this]
theorem lst_one {a b : Int} (hb : 0 < b) : lst ((lst a b).1) ((lst a b).2) = lst a b := by
  refine lst_eq (lst_pos hb) hb ?_
  exact lst_cross a b
theorem lst_sum {a b c d : Int} (hb : 0 < b) (hd : 0 < d) : lst ((lst a b).1 * (lst c d).2 + (lst c d).1 * (lst a b).2) ((lst a b).2 * (lst c d).2) = lst (a * d + c * b) (b * d) := by
  refine lst_eq (Int.mul_pos (lst_pos hb) (lst_pos hd)) (Int.mul_pos hb hd) ?_
  have h1 := lst_cross a b
  have h2 := lst_cross c d
  generalize (lst a b).1 = x at *
  generalize (lst a b).2 = y at *
  generalize (lst c d).1 = u at *
  generalize (lst c d).2 = v at *
  rw [Int.add_mul, Int.add_mul]
  have e1 : x * v * (b * d) = (x * b) * (v * d) := by simp only [Int.mul_assoc, Int.mul_left_comm, Int.mul_comm]
  have e2 : u * y * (b * d) = (u * d) * (y * b) := by simp only [Int.mul_assoc, Int.mul_left_comm, Int.mul_comm]
  have e3 : a * d * (y * v) = (a * y) * (v * d) := by simp only [Int.mul_assoc, Int.mul_left_comm, Int.mul_comm]
  have e4 : c * b * (y * v) = (c * v) * (y * b) := by simp only [Int.mul_assoc, Int.mul_left_comm, Int.mul_comm]
  rw [e1, e2, e3, e4, h1, h2]
/-- the sum of fractions, one behind another -/
def addF (t f : Int × Int) : Int × Int := lst (t.1 * f.2 + f.1 * t.2) (t.2 * f.2)
def sumF (fs : List (Int × Int)) : Int × Int := fs.foldl addF (0, 1)
theorem sumF_snoc (fs : List (Int × Int)) (f : Int × Int) : sumF (fs ++ [f]) = addF (sumF fs) f := by
  unfold sumF
  rw [List.foldl_append]
  rfl
theorem sumF_take {fs : List (Int × Int)} {i : Nat} {f : Int × Int} (h : fs[i]? = some f) : sumF (fs.take (i + 1)) = addF (sumF (fs.take i)) f := by
  rw [take_one h, sumF_snoc]
theorem lst_01 : lst 0 1 = (0, 1) := by decide

/-! ## exact values, not in least terms -/
mutual
def Th.ex (r : List Int) : Th → Int × Int
  | .inp i => (rowAt r i, 1)
  | .st n _ ps => ((exL r ps).1, (exL r ps).2 * n)
def exL (r : List Int) : List (Int × Th) → Int × Int
  | [] => (0, 1)
  | (w, t) :: q => (w * (t.ex r).1 * (exL r q).2 + (exL r q).1 * (t.ex r).2, (t.ex r).2 * (exL r q).2)
end
mutual
theorem ex_pos (r : List Int) : ∀ t : Th, t.good → 0 < (t.ex r).2
  | .inp _, _ => by simp only [Th.ex]; omega
  | .st n c ps, g => by
    simp only [Th.good] at g
    simp only [Th.ex]
    exact Int.mul_pos (exL_pos r ps g.2) (by have := g.1.n1; omega)
theorem exL_pos (r : List Int) : ∀ ps : List (Int × Th), goodL ps → 0 < (exL r ps).2
  | [], _ => by simp only [exL]; omega
  | (w, t) :: q, g => by
    simp only [goodL] at g
    simp only [exL]
    exact Int.mul_pos (ex_pos r t g.1) (exL_pos r q g.2)
end
theorem exL_snoc (r : List Int) (w : Int) (t : Th) : ∀ ps : List (Int × Th), exL r (ps ++ [(w, t)]) = ((exL r ps).1 * (t.ex r).2 + w * (t.ex r).1 * (exL r ps).2, (exL r ps).2 * (t.ex r).2)
  | [] => by simp [exL]
  | (w0, t0) :: q => by
    rw [List.cons_append]
    simp only [exL]
    rw [exL_snoc r w t q]
    simp only
    refine Prod.ext ?_ ?_
    · simp only [Int.add_mul]
      have e1 : w0 * (t0.ex r).1 * ((exL r q).2 * (t.ex r).2) = w0 * (t0.ex r).1 * (exL r q).2 * (t.ex r).2 := by simp only [Int.mul_assoc]
      have e2 : (exL r q).1 * (t.ex r).2 * (t0.ex r).2 = (exL r q).1 * (t0.ex r).2 * (t.ex r).2 := Int.mul_right_comm _ _ _
      have e3 : w * (t.ex r).1 * (exL r q).2 * (t0.ex r).2 = w * (t.ex r).1 * ((t0.ex r).2 * (exL r q).2) := by simp only [Int.mul_assoc, Int.mul_comm, Int.mul_left_comm]
      rw [e1, e2, e3]
      omega
    · exact (Int.mul_assoc _ _ _).symm
theorem exL_take {r : List Int} {ps : List (Int × Th)} {i : Nat} {w : Int} {t : Th} (h : ps[i]? = some (w, t)) : exL r (ps.take (i + 1)) = ((exL r (ps.take i)).1 * (t.ex r).2 + w * (t.ex r).1 * (exL r (ps.take i)).2, (exL r (ps.take i)).2 * (t.ex r).2) := by
  rw [take_one h, exL_snoc]
/-- the law's sum over the parts -/
def lawS (r : List Int) (W : Int) : List (Int × Th) → Int
  | [] => 0
  | (w, t) :: q => w * (t.ex r).1 * (W / (t.ex r).2) + lawS r W q
theorem lawS_app (r : List Int) (W : Int) : ∀ a b : List (Int × Th), lawS r W (a ++ b) = lawS r W a + lawS r W b
  | [], b => by simp [lawS]
  | (w, t) :: a, b => by simp only [List.cons_append, lawS, lawS_app r W a b]; omega
theorem lawS_take {r : List Int} {W : Int} {ps : List (Int × Th)} {i : Nat} {w : Int} {t : Th} (h : ps[i]? = some (w, t)) : lawS r W (ps.take (i + 1)) = lawS r W (ps.take i) + w * (t.ex r).1 * (W / (t.ex r).2) := by
  rw [take_one h, lawS_app]
  simp only [lawS]; omega
theorem lawS_eq (r : List Int) : ∀ (ps : List (Int × Th)) (M : Int), goodL ps → lawS r (M * (exL r ps).2) ps = M * (exL r ps).1
  | [], M, _ => by simp [lawS, exL]
  | (w, t) :: q, M, g => by
    simp only [goodL] at g
    have hp := ex_pos r t g.1
    have ih := lawS_eq r q (M * (t.ex r).2) g.2
    simp only [lawS, exL]
    have e1 : M * ((t.ex r).2 * (exL r q).2) = M * (t.ex r).2 * (exL r q).2 := (Int.mul_assoc _ _ _).symm
    have e2 : M * (t.ex r).2 * (exL r q).2 = M * (exL r q).2 * (t.ex r).2 := Int.mul_right_comm _ _ _
    have e3 : M * ((t.ex r).2 * (exL r q).2) / (t.ex r).2 = M * (exL r q).2 := by
      rw [e1, e2, Int.mul_ediv_cancel _ (by omega)]
    rw [e3, e1, ih, Int.mul_add]
    have e4 : w * (t.ex r).1 * (M * (exL r q).2) = M * (w * (t.ex r).1 * (exL r q).2) := by simp only [Int.mul_assoc, Int.mul_left_comm, Int.mul_comm]
    have e5 : M * (t.ex r).2 * (exL r q).1 = M * ((exL r q).1 * (t.ex r).2) := by simp only [Int.mul_assoc, Int.mul_left_comm, Int.mul_comm]
    rw [e4, e5]
theorem lawS_one {r : List Int} {ps : List (Int × Th)} (g : goodL ps) : lawS r (exL r ps).2 ps = (exL r ps).1 := by
  have := lawS_eq r ps 1 g
  simpa only [Int.one_mul] using this
/-- the program's fractions of the parts -/
def partsF (r : List Int) (ps : List (Int × Th)) : List (Int × Int) := ps.map fun p => lst (p.1 * (p.2.ex r).1) ((p.2.ex r).2)
theorem sumF_parts {r : List Int} {ps : List (Int × Th)} (g : goodL ps) : ∀ i, sumF ((partsF r ps).take i) = lst (exL r (ps.take i)).1 (exL r (ps.take i)).2
  | 0 => by simp only [List.take_zero, exL, sumF, List.foldl_nil, lst_01]
  | i + 1 => by
    have ih := sumF_parts (r := r) g i
    cases e : ps[i]? with
    | none =>
      have hl : ps.length ≤ i := List.getElem?_eq_none_iff.mp e
      have e1 : (partsF r ps).take (i + 1) = (partsF r ps).take i := by
        rw [List.take_of_length_le (by unfold partsF; rw [List.length_map]; omega), List.take_of_length_le (by unfold partsF; rw [List.length_map]; omega)]
      have e2 : ps.take (i + 1) = ps.take i := by rw [List.take_of_length_le (by omega), List.take_of_length_le hl]
      rw [e1, e2, ih]
    | some p =>
      obtain ⟨w, t⟩ := p
      have h1 : (partsF r ps)[i]? = some (lst (w * (t.ex r).1) (t.ex r).2) := by unfold partsF; rw [List.getElem?_map, e]; rfl
      have gt : goodL (ps.take i) := goodL_iff.mpr fun p hp => goodL_iff.mp g p (List.mem_of_mem_take hp)
      have gp := goodL_iff.mp g _ (List.mem_of_getElem? e)
      rw [sumF_take h1, ih, exL_take e]
      unfold addF
      rw [lst_sum (exL_pos r _ gt) (ex_pos r t gp)]
theorem sumF_all {r : List Int} {ps : List (Int × Th)} (g : goodL ps) : sumF (partsF r ps) = lst (exL r ps).1 (exL r ps).2 := by
  have := sumF_parts (r := r) g ps.length
  rwa [List.take_length, show (partsF r ps).take ps.length = partsF r ps from List.take_of_length_le (by unfold partsF; rw [List.length_map]; omega)] at this
end SC
namespace SC
open PySem PySem.Spec PyProof.Rows L2 StrLaws

/-! ## how great exact values get -/
abbrev ZN : Nat := 10 ^ 30
theorem znpos (k : Nat) : 1 ≤ ZN ^ k := Nat.one_le_pow _ _ (by decide)
theorem mul_le3 {a b c d : Nat} (h : a ≤ b) (k : c ≤ d) : a * c ≤ b * d := Nat.mul_le_mul h k
mutual
theorem ex_le {r : List Int} {R : Nat} (hr : ∀ i : Int, (rowAt r i).natAbs ≤ R) : ∀ t : Th, t.good → (t.ex r).1.natAbs ≤ t.nIn * R * ZN ^ t.nSt ∧ (t.ex r).2.natAbs ≤ ZN ^ t.nSt
  | .inp i, _ => by
    simp only [Th.ex, Th.nIn, Th.nSt, Nat.pow_zero, Nat.mul_one, Nat.one_mul]
    exact ⟨hr i, by decide⟩
  | .st n c ps, g => by
    simp only [Th.good] at g
    have hw : ∀ p ∈ ps, p.1.natAbs ≤ ZN := fun p hp => (g.1.ws.nz p.1 (List.mem_map.mpr ⟨p, hp, rfl⟩)).2
    obtain ⟨h1, h2⟩ := exL_le hr ps g.2 hw
    simp only [Th.ex, Th.nIn, Th.nSt]
    refine ⟨h1, ?_⟩
    rw [Int.natAbs_mul, Nat.pow_succ]
    exact Nat.mul_le_mul h2 (nat30 (by have := g.1.n1; omega) g.1.n2)
theorem exL_le {r : List Int} {R : Nat} (hr : ∀ i : Int, (rowAt r i).natAbs ≤ R) : ∀ ps : List (Int × Th), goodL ps → (∀ p ∈ ps, p.1.natAbs ≤ ZN) → (exL r ps).1.natAbs ≤ nInL ps * R * ZN ^ (nStL ps + 1) ∧ (exL r ps).2.natAbs ≤ ZN ^ nStL ps
  | [], _, _ => by simp only [exL, nInL, nStL]; exact ⟨Nat.zero_le _, by decide⟩
  | (w, t) :: q, g, hw => by
    simp only [goodL] at g
    obtain ⟨h1, h2⟩ := ex_le hr t g.1
    obtain ⟨h3, h4⟩ := exL_le hr q g.2 fun p hp => hw p (List.mem_cons_of_mem _ hp)
    have h5 : w.natAbs ≤ ZN := hw (w, t) (List.mem_cons_self ..)
    simp only [exL, nInL, nStL]
    refine ⟨?_, ?_⟩
    · have k1 : (w * (t.ex r).1 * (exL r q).2).natAbs ≤ t.nIn * R * ZN ^ (t.nSt + nStL q + 1) := by
        rw [Int.natAbs_mul, Int.natAbs_mul]
        refine Nat.le_trans (Nat.mul_le_mul (Nat.mul_le_mul h5 h1) h4) (Nat.le_of_eq ?_)
        rw [Nat.pow_succ, Nat.pow_add]
        simp only [Nat.mul_assoc, Nat.mul_left_comm, Nat.mul_comm]
      have k2 : ((exL r q).1 * (t.ex r).2).natAbs ≤ nInL q * R * ZN ^ (t.nSt + nStL q + 1) := by
        rw [Int.natAbs_mul]
        refine Nat.le_trans (Nat.mul_le_mul h3 h2) (Nat.le_of_eq ?_)
        rw [Nat.pow_succ, Nat.pow_succ, Nat.pow_add]
        simp only [Nat.mul_assoc, Nat.mul_left_comm, Nat.mul_comm]
      rw [Nat.add_mul, Nat.add_mul]
      exact Nat.le_trans (natAbs_add_le' _ _) (Nat.add_le_add k1 k2)
    · rw [Int.natAbs_mul, Nat.pow_add]
      exact Nat.mul_le_mul h2 h4
end
/-! ## what is told less the exact value, not in least terms -/
def Th.er (r : List Int) (t : Th) : Int := t.tell r * (t.ex r).2 - (t.ex r).1
def erL (r : List Int) (ps : List (Int × Th)) : Int := tellL r ps * (exL r ps).2 - (exL r ps).1
theorem erL_cons (r : List Int) (w : Int) (t : Th) (q : List (Int × Th)) : erL r ((w, t) :: q) = w * (exL r q).2 * t.er r + (t.ex r).2 * erL r q := by
  unfold erL Th.er
  simp only [tellL, exL, Int.add_mul, Int.mul_sub]
  have e1 : w * t.tell r * ((t.ex r).2 * (exL r q).2) = w * (exL r q).2 * (t.tell r * (t.ex r).2) := by simp only [Int.mul_assoc, Int.mul_left_comm, Int.mul_comm]
  have e2 : tellL r q * ((t.ex r).2 * (exL r q).2) = (t.ex r).2 * (tellL r q * (exL r q).2) := by simp only [Int.mul_assoc, Int.mul_left_comm, Int.mul_comm]
  have e3 : w * (exL r q).2 * (t.ex r).1 = w * (t.ex r).1 * (exL r q).2 := Int.mul_right_comm _ _ _
  have e4 : (t.ex r).2 * (exL r q).1 = (exL r q).1 * (t.ex r).2 := Int.mul_comm _ _
  rw [e1, e2, e3, e4]
  omega
/-- the rest of a stage -/
def restOf (r : List Int) (n c : Int) (ps : List (Int × Th)) : Int := (c + tellL r ps) % n
theorem er_st (r : List Int) (n c : Int) (ps : List (Int × Th)) : (Th.st n c ps).er r = (exL r ps).2 * (c - restOf r n c ps) + erL r ps := by
  have h : (c + tellL r ps) / n * n = c + tellL r ps - restOf r n c ps := by
    have := Int.emod_add_mul_ediv (c + tellL r ps) n
    unfold restOf
    rw [Int.mul_comm n] at this
    omega
  unfold Th.er erL
  simp only [Th.tell, Th.ex]
  have e1 : (c + tellL r ps) / n * ((exL r ps).2 * n) = (exL r ps).2 * ((c + tellL r ps) / n * n) := by simp only [Int.mul_assoc, Int.mul_left_comm, Int.mul_comm]
  rw [e1, h, Int.mul_sub, Int.mul_sub, Int.mul_add, Int.mul_comm (exL r ps).2 (tellL r ps)]
  omega
mutual
theorem er_le (r : List Int) : ∀ t : Th, t.good → (t.er r).natAbs ≤ t.nSt * ZN ^ t.nSt
  | .inp i, _ => by
    unfold Th.er
    simp only [Th.tell, Th.ex, Th.nSt, Nat.zero_mul]
    omega
  | .st n c ps, g => by
    have g0 := g
    simp only [Th.good] at g
    have hw : ∀ p ∈ ps, p.1.natAbs ≤ ZN := fun p hp => (g.1.ws.nz p.1 (List.mem_map.mpr ⟨p, hp, rfl⟩)).2
    have h1 := erL_le r ps g.2 hw
    have h2 : (exL r ps).2.natAbs ≤ ZN ^ nStL ps := (exL_le (r := []) (R := 0) (fun i => by simp [rowAt]) ps g.2 hw).2 |> fun h => by rwa [exL_2 r [] ps]
    have n1 := g.1.n1
    have n2 : n.natAbs ≤ ZN := nat30 (by omega) g.1.n2
    have c0 := g.1.c0
    have c1 := g.1.c1
    have q0 : 0 ≤ restOf r n c ps := Int.emod_nonneg _ (by omega)
    have q1 : restOf r n c ps < n := Int.emod_lt_of_pos _ (by omega)
    rw [er_st]
    simp only [Th.nSt]
    have k1 : ((exL r ps).2 * (c - restOf r n c ps)).natAbs ≤ ZN ^ (nStL ps + 1) := by
      rw [Int.natAbs_mul, Nat.pow_succ]
      exact Nat.mul_le_mul h2 (Nat.le_trans (by omega) n2)
    rw [Nat.add_mul, Nat.one_mul, Nat.add_comm (nStL ps * _)]
    exact Nat.le_trans (natAbs_add_le' _ _) (Nat.add_le_add k1 h1)
theorem erL_le (r : List Int) : ∀ ps : List (Int × Th), goodL ps → (∀ p ∈ ps, p.1.natAbs ≤ ZN) → (erL r ps).natAbs ≤ nStL ps * ZN ^ (nStL ps + 1)
  | [], _, _ => by unfold erL; simp [tellL, exL]
  | (w, t) :: q, g, hw => by
    simp only [goodL] at g
    have h1 := er_le r t g.1
    have hw' : ∀ p ∈ q, p.1.natAbs ≤ ZN := fun p hp => hw p (List.mem_cons_of_mem _ hp)
    have h2 := erL_le r q g.2 hw'
    have h3 : (exL r q).2.natAbs ≤ ZN ^ nStL q := (exL_le (r := []) (R := 0) (fun i => by simp [rowAt]) q g.2 hw').2 |> fun h => by rwa [exL_2 r [] q]
    have h4 : (t.ex r).2.natAbs ≤ ZN ^ t.nSt := (ex_le (r := []) (R := 0) (fun i => by simp [rowAt]) t g.1).2 |> fun h => by rwa [ex_2 r [] t]
    have h5 : w.natAbs ≤ ZN := hw (w, t) (List.mem_cons_self ..)
    rw [erL_cons]
    simp only [nStL]
    have k1 : (w * (exL r q).2 * t.er r).natAbs ≤ t.nSt * ZN ^ (t.nSt + nStL q + 1) := by
      rw [Int.natAbs_mul, Int.natAbs_mul]
      refine Nat.le_trans (Nat.mul_le_mul (Nat.mul_le_mul h5 h3) h1) (Nat.le_of_eq ?_)
      rw [Nat.pow_succ, Nat.pow_add]
      simp only [Nat.mul_assoc, Nat.mul_left_comm, Nat.mul_comm]
    have k2 : ((t.ex r).2 * erL r q).natAbs ≤ nStL q * ZN ^ (t.nSt + nStL q + 1) := by
      rw [Int.natAbs_mul]
      refine Nat.le_trans (Nat.mul_le_mul h4 h2) (Nat.le_of_eq ?_)
      rw [Nat.pow_succ, Nat.pow_succ, Nat.pow_add]
      simp only [Nat.mul_assoc, Nat.mul_left_comm, Nat.mul_comm]
    rw [Nat.add_mul]
    exact Nat.le_trans (natAbs_add_le' _ _) (Nat.add_le_add k1 k2)
theorem ex_2 (r r' : List Int) : ∀ t : Th, (t.ex r).2 = (t.ex r').2
  | .inp i => by simp only [Th.ex]
  | .st n c ps => by simp only [Th.ex, exL_2 r r' ps]
theorem exL_2 (r r' : List Int) : ∀ ps : List (Int × Th), (exL r ps).2 = (exL r' ps).2
  | [] => by simp only [exL]
  | (w, t) :: q => by simp only [exL, ex_2 r r' t, exL_2 r r' q]
end
theorem zn12 : ZN ^ 12 ≤ 2 ^ 1196 := by decide +kernel
theorem zn_le {k : Nat} (h : k ≤ 12) : ZN ^ k ≤ 2 ^ 1196 := Nat.le_trans (Nat.pow_le_pow_right (by decide) h) zn12
theorem mul24 {m B k : Nat} (h : m ≤ 24) (hk : k ≤ 12) : m * 2 ^ B * ZN ^ k ≤ 2 ^ (B + 1201) := by
  have h1 : m * 2 ^ B ≤ 2 ^ (B + 5) := by
    rw [Nat.pow_add, Nat.mul_comm]
    exact Nat.mul_le_mul_left _ (by omega)
  refine Nat.le_trans (Nat.mul_le_mul h1 (zn_le hk)) (Nat.le_of_eq ?_)
  rw [← Nat.pow_add]
theorem Runs.ex1 {t : Th} {r : List Int} {B : Nat} (h : Runs t r B) : (t.ex r).1.natAbs ≤ 2 ^ (B + 1201) :=
  Nat.le_trans (ex_le (rowAt_le h.row) t h.good).1 (mul24 h.inp h.st)
theorem Runs.ex2 {t : Th} {r : List Int} {B : Nat} (h : Runs t r B) : (t.ex r).2.natAbs ≤ 2 ^ 1196 :=
  Nat.le_trans (ex_le (rowAt_le h.row) t h.good).2 (zn_le h.st)
theorem Runs.er {t : Th} {r : List Int} {B : Nat} (h : Runs t r B) : (t.er r).natAbs ≤ 2 ^ 1200 := by
  refine Nat.le_trans (er_le r t h.good) (Nat.le_trans (Nat.mul_le_mul (show t.nSt ≤ 2 ^ 4 by have := h.st; omega) (zn_le h.st)) (Nat.le_of_eq ?_))
  rw [← Nat.pow_add]
theorem Runs.pos {t : Th} {r : List Int} {B : Nat} (h : Runs t r B) : 0 < (t.ex r).2 := ex_pos r t h.good
theorem Runs.goodL {n c : Int} {ps : List (Int × Th)} {r : List Int} {B : Nat} (h : Runs (.st n c ps) r B) : goodL ps := by
  have g := h.good
  simp only [Th.good] at g
  exact g.2
theorem Runs.ws {n c : Int} {ps : List (Int × Th)} {r : List Int} {B : Nat} (h : Runs (.st n c ps) r B) : ∀ p ∈ ps, p.1.natAbs ≤ ZN := fun p hp => by
  have g := h.good
  simp only [Th.good] at g
  exact (g.1.ws.nz p.1 (List.mem_map.mpr ⟨p, hp, rfl⟩)).2
theorem take_goodL {ps : List (Int × Th)} (g : goodL ps) (i : Nat) : SC.goodL (ps.take i) := goodL_iff.mpr fun p hp => goodL_iff.mp g p (List.mem_of_mem_take hp)
theorem nIn_takeL (ps : List (Int × Th)) (i : Nat) : nInL (ps.take i) ≤ nInL ps := by
  have e : ps = ps.take i ++ ps.drop i := (List.take_append_drop ..).symm
  have := nInL_app (ps.take i) (ps.drop i)
  rw [← e] at this
  omega
theorem nSt_takeL (ps : List (Int × Th)) (i : Nat) : nStL (ps.take i) ≤ nStL ps := by
  have e : ps = ps.take i ++ ps.drop i := (List.take_append_drop ..).symm
  have := nStL_app (ps.take i) (ps.drop i)
  rw [← e] at this
  omega
theorem Runs.exT {n c : Int} {ps : List (Int × Th)} {r : List Int} {B : Nat} (h : Runs (.st n c ps) r B) (i : Nat) : (exL r (ps.take i)).1.natAbs ≤ 2 ^ (B + 1201) ∧ (exL r (ps.take i)).2.natAbs ≤ 2 ^ 1196 ∧ 0 < (exL r (ps.take i)).2 := by
  have h1 := h.inp
  have h2 := h.st
  simp only [Th.nIn] at h1
  simp only [Th.nSt] at h2
  have h3 := nIn_takeL ps i
  have h4 := nSt_takeL ps i
  obtain ⟨k1, k2⟩ := exL_le (rowAt_le h.row) (ps.take i) (take_goodL h.goodL i) fun p hp => h.ws p (List.mem_of_mem_take hp)
  exact ⟨Nat.le_trans k1 (mul24 (by omega) (by omega)), Nat.le_trans k2 (zn_le (by omega)), exL_pos r _ (take_goodL h.goodL i)⟩
theorem big_mul {a b : Int} {x y : Nat} (ha : a.natAbs ≤ 2 ^ x) (hb : b.natAbs ≤ 2 ^ y) (h : x + y ≤ 900000) : CMulW a b :=
  wide_mul (a := x + 1) (b := y + 1) (Nat.lt_of_le_of_lt ha (Nat.pow_lt_pow_right (by decide) (by omega))) (Nat.lt_of_le_of_lt hb (Nat.pow_lt_pow_right (by decide) (by omega))) (by omega) (by omega) (by omega)
theorem big_prod {a b : Int} {x y : Nat} (ha : a.natAbs ≤ 2 ^ x) (hb : b.natAbs ≤ 2 ^ y) : (a * b).natAbs ≤ 2 ^ (x + y) := by
  rw [Int.natAbs_mul, Nat.pow_add]
  exact Nat.mul_le_mul ha hb
theorem gcd_div {a b : Int} {y : Nat} (h : 0 < b) (hb : b.natAbs ≤ 2 ^ y) (hy : y ≤ 8000) (i : Int) : CDivW i ((gcdN a b : Nat) : Int) := by
  have h1 := gcdN_pos (a := a) h
  have h2 := gcdN_le (a := a) h
  refine wide_div (b := y + 1) (by omega) ?_ (by omega) (by omega)
  rw [Int.natAbs_natCast]
  have : gcdN a b ≤ 2 ^ y := by omega
  exact Nat.lt_of_le_of_lt this (Nat.pow_lt_pow_right (by decide) (by omega))
end SC
namespace SC
open PySem PySem.Spec PyProof.Rows L2 StrLaws

/-! ## for x, y, z in zip(xs, ys, zs), three lists -/
def Itz3 (K : PySem.W.Frag) (a b c : Addr) : It :=
  ⟨fun i H => ∃ (xs ys zs : List V) (x y z : V), SqL K H a xs ∧ SqL K H b ys ∧ SqL K H c zs ∧ xs[i]? = some x ∧ ys[i]? = some y ∧ zs[i]? = some z,
    fun i H v H' => ∃ T x y z, v = .ref T ∧ H T = none ∧ H' = upd H T (.tup [x, y, z]) ∧ (∀ xs, SqL K H a xs → xs[i]? = some x) ∧ (∀ ys, SqL K H b ys → ys[i]? = some y) ∧ ∀ zs, SqL K H c zs → zs[i]? = some z,
    fun i H => ∃ xs ys zs : List V, SqL K H a xs ∧ SqL K H b ys ∧ SqL K H c zs ∧ i = min (min xs.length ys.length) zs.length⟩
theorem turn_zip3 {P : Program} {w : World} {K : PySem.W.Frag} {elts : List Expr} {kk : Nat} {tpos : Pos} {a b c z TI TO i1 i2 i3 : Addr} (S : ZipSep3 z TI TO i1 i2 i3 [i1, a] [i2, b] [i3, c]) (na : a ≠ i1) (nb : b ≠ i2) (nc : c ≠ i3) :
    Turn P w K (.Tuple elts kk tpos) (Itz3 K a b c) [z, TI, TO, i1, i2, i3] z (fun i h => IsZip h z TI TO .none ∧ IsTupOf3 h TI (.ref i1) (.ref i2) (.ref i3) ∧ (∃ x y u, IsTupOf3 h TO x y u) ∧ h.IsListIter i1 a i ∧ h.IsListIter i2 b i ∧ h.IsListIter i3 c i) where
  mem := by simp
  obj := fun i h st d hd => by
    obtain ⟨hz, hTI, ⟨x, y, u, hTO⟩, ⟨o1, e1, _, d1⟩, ⟨o2, e2, _, d2⟩, ⟨o3, e3, _, d3⟩⟩ := st
    have e' : d = z ∨ d = TI ∨ d = TO ∨ d = i1 ∨ d = i2 ∨ d = i3 := by simpa using hd
    rcases e' with q | q | q | q | q | q
    · rw [q]; exact ⟨_, hz, fun v q => nomatch q⟩
    · rw [q]; exact ⟨_, hTI, fun v q => nomatch q⟩
    · rw [q]; exact ⟨_, hTO, fun v q => nomatch q⟩
    · rw [q]; exact ⟨o1, e1, fun v q => by rw [d1] at q; cases q⟩
    · rw [q]; exact ⟨o2, e2, fun v q => by rw [d2] at q; cases q⟩
    · rw [q]; exact ⟨o3, e3, fun v q => by rw [d3] at q; cases q⟩
  keep := fun i h h' st k => by
    obtain ⟨hz, hTI, ⟨x, y, u, hTO⟩, h1, h2, h3⟩ := st
    exact ⟨k z (by simp) _ hz, k TI (by simp) _ hTI, ⟨x, y, u, k TO (by simp) _ hTO⟩, h1.at fun o q => k i1 (by simp) o q, h2.at fun o q => k i2 (by simp) o q, h3.at fun o q => k i3 (by simp) o q⟩
  item := by
    intro X hP hw hK hc i pins s σ H E I hf st hg
    subst hP hw hK
    obtain ⟨hz, hTI, hTO, h1, h2, h3⟩ := st
    obtain ⟨xs, ys, zs, x, y, u, hqx, hqy, hqz, hx, hy, hu⟩ := hg
    obtain ⟨its, rv, p, _⟩ := I.list hqx
    obtain ⟨its2, rv2, p2, _⟩ := I.list hqy
    obtain ⟨its3, rv3, p3, _⟩ := I.list hqz
    have hh : X.A.in1.handled = none := I.ok.hd hc
    have W := GoesN.zip3 (prog := X.prog) (w := X.w) (A := X.A) (elts := elts) (x1 := kk) (pos := tpos) S (Draws.list hh i1 a na its.toArray) (Draws.list hh i2 b nb its2.toArray) (Draws.list hh i3 c nc its3.toArray)
    obtain ⟨v1, hv1, r1⟩ := rv.get hx
    obtain ⟨v2, hv2, r2⟩ := rv2.get hy
    obtain ⟨v3, hv3, r3⟩ := rv3.get hu
    have l1 := (List.getElem?_eq_some_iff.mp hv1).1
    have l2 := (List.getElem?_eq_some_iff.mp hv2).1
    have l3 := (List.getElem?_eq_some_iff.mp hv3).1
    have hlt : i < min (min its.toArray.size its2.toArray.size) its3.toArray.size := by simp only [List.size_toArray]; omega
    have fpl : ∀ d ∈ [z, TI, TO, i1, i2, i3], d < s.heap.objs.size := fun d hd => by
      obtain ⟨o1, e1, _⟩ := h1
      obtain ⟨o2, e2, _⟩ := h2
      obtain ⟨o3, e3, _⟩ := h3
      obtain ⟨_, _, _, hTO⟩ := hTO
      have e' : d = z ∨ d = TI ∨ d = TO ∨ d = i1 ∨ d = i2 ∨ d = i3 := by simpa using hd
      rcases e' with q | q | q | q | q | q
      · rw [q]; exact Heap.lt_size hz
      · rw [q]; exact Heap.lt_size hTI
      · rw [q]; exact Heap.lt_size hTO
      · rw [q]; exact Heap.lt_size e1
      · rw [q]; exact Heap.lt_size e2
      · rw [q]; exact Heap.lt_size e3
    refine W.goes i s (fun v s2 => ∃ x H', Inv X pins σ H' s2 ∧ RelV x v ∧ (Itz3 X.K a b c).yld i H x H' ∧ _ ∧ ∀ d ∈ [z, TI, TO, i1, i2, i3], H' d = none) E hlt ⟨hz, hTI, hTO, ⟨h1, p.isList⟩, ⟨h2, p2.isList⟩, ⟨h3, p3.isList⟩⟩ fun v h' tk hY st' hk htk => ?_
    obtain ⟨T', y1, y2, y3, rfl, hT, q1, q2, q3, hTup⟩ := hY
    have e1 : y1 = v1 := by
      have : its[i]? = some y1 := by simpa using q1
      rw [hv1] at this; exact (Option.some.inj this).symm
    have e2 : y2 = v2 := by
      have : its2[i]? = some y2 := by simpa using q2
      rw [hv2] at this; exact (Option.some.inj this).symm
    have e3 : y3 = v3 := by
      have : its3[i]? = some y3 := by simpa using q3
      rw [hv3] at this; exact (Option.some.inj this).symm
    subst e1 e2 e3
    obtain ⟨sz', sTI, sTO, ⟨s1, _⟩, ⟨s2, _⟩, ⟨s3, _⟩⟩ := st'
    have new : ObjOk X.prog X.w (upd H T' (.tup [x, y, u])) h' T' (.tup [x, y, u]) :=
      ⟨by show 3 ≤ sizeLine; decide, [y1, y2, y3], .cons r1 (.cons r2 (.cons r3 .nil)), hTup⟩
    have I1 : Inv X pins σ (upd H T' (.tup [x, y, u])) { s with heap := h', toks := tk } :=
      I.turnedNew (ch := [z, TO, i1, i2, i3]) hk (fun d hd => hf d (by
        simp only [List.mem_cons, List.not_mem_nil, or_false] at hd ⊢
        rcases hd with q | q | q | q | q <;> simp [q])) hT new
    refine ⟨.ref T', _, I1, rfl, ⟨T', x, y, u, rfl, I.hok.fresh hT, rfl, fun l hl => by rw [I.list_inj hl hqx]; exact hx, fun l hl => by rw [I.list_inj hl hqy]; exact hy, fun l hl => by rw [I.list_inj hl hqz]; exact hu⟩, ⟨sz', sTI, sTO, s1, s2, s3⟩, fun d hd => ?_⟩
    rw [upd_ne (Nat.ne_of_lt (Nat.lt_of_lt_of_le (fpl d hd) hT))]
    exact (hf d hd).1
  done := by
    intro X hP hw hK hc i pins s σ H E I hf st hg
    subst hP hw hK
    obtain ⟨hz, hTI, hTO, h1, h2, h3⟩ := st
    obtain ⟨xs, ys, zs, hqx, hqy, hqz, he⟩ := hg
    obtain ⟨its, rv, p, _⟩ := I.list hqx
    obtain ⟨its2, rv2, p2, _⟩ := I.list hqy
    obtain ⟨its3, rv3, p3, _⟩ := I.list hqz
    have hh : X.A.in1.handled = none := I.ok.hd hc
    have W := GoesN.zip3 (prog := X.prog) (w := X.w) (A := X.A) (elts := elts) (x1 := kk) (pos := tpos) S (Draws.list hh i1 a na its.toArray) (Draws.list hh i2 b nb its2.toArray) (Draws.list hh i3 c nc its3.toArray)
    have l1 := rv.length
    have l2 := rv2.length
    have l3 := rv3.length
    have e : i = min (min its.toArray.size its2.toArray.size) its3.toArray.size := by simp only [List.size_toArray]; rw [he, l1, l2, l3]
    have h1' := h1
    have h2' := h2
    have h3' := h3
    rw [e] at h1' h2' h3'
    refine W.stops s (fun s1 => Inv X pins σ H s1) E ⟨hz, hTI, hTO, ⟨h1', p.isList⟩, ⟨h2', p2.isList⟩, ⟨h3', p3.isList⟩⟩ fun h' tk hk htk => ?_
    exact I.turnedL (t' := tk) (ch := [z, TO, i1, i2, i3]) hk fun d hd => hf d (by
      simp only [List.mem_cons, List.not_mem_nil, or_false] at hd ⊢
      rcases hd with q | q | q | q | q <;> simp [q])
  self := fun A i s Q E st h => wpAny_pyIter_zip st.1 h
def iZip3 (K : PySem.W.Frag) (ta : TA) : TI := fun σ H R => ta σ H fun vs H1 => ∃ a b c xs ys zs, vs = [.ref a, .ref b, .ref c] ∧ SqL K H1 a xs ∧ SqL K H1 b ys ∧ SqL K H1 c zs ∧ R (Itz3 K a b c) H1
theorem pi_zip3 {X : Cx} {e e2 e3 : Expr} {ta : TA} {p pos tpos : Pos} {elts : List Expr} {kk : Nat} (hg : Gl X "zip") (hm : X.mg "zip" = none) (ha : PA X [e, e2, e3] ta)
    (hs : starEach [e, e2, e3] X.env = (false, eval e X.env) :: starEach [e2, e3] X.env := by rfl) (hpl : (backTo pos (starEach [e2, e3] X.env)).any (·.1) = false := by rfl) :
    PI X (.Tuple elts kk tpos) (.Call (.Name "zip" p) [e, e2, e3] [] pos) (iZip3 X.K ta) := by
  refine ⟨fun pins s σ H R I h => ?_⟩
  refine Call_ (ld_blt I hg hm PyProof.Rows.boot_zip (PyProof.Rows.callWith_type1 (thn (ha.run pos pins s σ H _ I h) fun us s1 ⟨vs, H1, I1, r1, q1⟩ => ?_) hs hpl))
  obtain ⟨a, b, c, xs, ys, zs, rfl, hqx, hqy, hqz, q⟩ := q1
  cases r1 with
  | cons r rr =>
    cases rr with
    | cons r' rr =>
      cases rr with
      | cons r'' rr =>
        cases rr
        cases r
        cases r'
        cases r''
        obtain ⟨its, rv, p1, _⟩ := I1.list hqx
        obtain ⟨its2, rv2, p2, _⟩ := I1.list hqy
        obtain ⟨its3, rv3, p3, _⟩ := I1.list hqz
        refine zip_begins3 (begins_list a its.toArray) (begins_list b its2.toArray) (begins_list c its3.toArray) p1.isList p2.isList p3.isList fun h' hz hTI hTO g1 g2 g3 hsz hk => wpAny_pyIter_zip hz ?_
        have I2 : Inv X pins σ H1 { s1 with heap := h' } := I1.kept (t' := s1.toks) hk
        have la := p1.lt
        have lb := p2.lt
        have lc := p3.lt
        have sep : ZipSep3 (s1.heap.objs.size + 5) (s1.heap.objs.size + 3) (s1.heap.objs.size + 4) s1.heap.objs.size (s1.heap.objs.size + 1) (s1.heap.objs.size + 2) [s1.heap.objs.size, a] [s1.heap.objs.size + 1, b] [s1.heap.objs.size + 2, c] :=
          zip_sep3 (fun d hd => by rw [List.mem_singleton.mp hd]; exact la) (fun d hd => by rw [List.mem_singleton.mp hd]; exact lb) (fun d hd => by rw [List.mem_singleton.mp hd]; exact lc)
        refine ⟨s1.heap.objs.size + 5, [s1.heap.objs.size + 5, s1.heap.objs.size + 3, s1.heap.objs.size + 4, s1.heap.objs.size, s1.heap.objs.size + 1, s1.heap.objs.size + 2], _, _, H1, rfl, I2, turn_zip3 sep (Nat.ne_of_lt la) (Nat.ne_of_lt (Nat.lt_succ_of_lt lb)) (Nat.ne_of_lt (Nat.lt_succ_of_lt (Nat.lt_succ_of_lt lc))), ⟨hz, hTI, ⟨_, _, _, hTO⟩, ⟨_, g1, rfl, rfl⟩, ⟨_, g2, rfl, rfl⟩, ⟨_, g3, rfl, rfl⟩⟩, fun d hd => ?_, q⟩
        have hle : s1.heap.objs.size ≤ d := by
          simp only [List.mem_cons, List.not_mem_nil, or_false] at hd
          rcases hd with z | z | z | z | z | z <;> rw [z] <;> first | exact Nat.le_refl _ | exact Nat.le_add_right _ _
        exact I1.fpOk hle (I1.hok.fresh hle)
theorem g_iZip3 {K : PySem.W.Frag} {ta : TA} {σ : L2.St} {H : Hp} {R : It → Hp → Prop} (q : ta σ H fun vs H1 => ∃ a b c xs ys zs, vs = [.ref a, .ref b, .ref c] ∧ SqL K H1 a xs ∧ SqL K H1 b ys ∧ SqL K H1 c zs ∧ R (Itz3 K a b c) H1) : iZip3 K ta σ H R := q
theorem walk_zip3 {K : PySem.W.Frag} {a b c : Addr} {xs ys zs : List V} {n : Nat} (hx : n = xs.length) (hy : n = ys.length) (hz : n = zs.length) :
    Walk (Itz3 K a b c) n (fun H => SqL K H a xs ∧ SqL K H b ys ∧ SqL K H c zs) (fun i H v H' => ∃ T x y z, v = .ref T ∧ H T = none ∧ H' = upd H T (.tup [x, y, z]) ∧ xs[i]? = some x ∧ ys[i]? = some y ∧ zs[i]? = some z) where
  goes := fun i H hi q => ⟨xs, ys, zs, xs[i]'(by omega), ys[i]'(by omega), zs[i]'(by omega), q.1, q.2.1, q.2.2, by simp, by simp, by simp⟩
  stops := fun H q => ⟨xs, ys, zs, q.1, q.2.1, q.2.2, by omega⟩
  yields := fun i H x H' hi q y => by
    obtain ⟨T, u, v, w, h1, h2, h3, h4, h5, h6⟩ := y
    exact ⟨T, u, v, w, h1, h2, h3, h4 xs q.1, h5 ys q.2.1, h6 zs q.2.2⟩
theorem g_par3 {i j k : Nat} {tl : TA} {D : Ends} {σ : L2.St} {H : Hp} (q : tl σ H fun vs H1 => ∃ u v w, vs = [u, v, w] ∧ D.nx (((σ.set i (some u)).set j (some v)).set k (some w)) H1) : tPar3 i j k tl D σ H := q
theorem l_three {x y z : V} {P : V → V → V → Prop} (q : P x y z) : ∃ u v w, [x, y, z] = [u, v, w] ∧ P u v w := ⟨x, y, z, rfl, q⟩
end SC
namespace SC
open PySem PySem.Spec PyProof.Rows L2 StrLaws

/-! ## shares, not in least terms; the error by stages -/
mutual
def Th.sh (a b : Int) : Th → List (Int × Int)
  | .inp _ => []
  | .st n _ ps => (a, b) :: shL a (b * n) ps
def shL (a b : Int) : List (Int × Th) → List (Int × Int)
  | [] => []
  | (w, t) :: q => t.sh (a * w) b ++ shL a b q
end
mutual
/-- the stages, in order -/
def Th.stL : Th → List Th
  | .inp _ => []
  | .st n c ps => .st n c ps :: stLL ps
def stLL : List (Int × Th) → List Th
  | [] => []
  | (_, t) :: q => t.stL ++ stLL q
end
mutual
theorem sh_len : ∀ (t : Th) (a b : Int), (t.sh a b).length = t.nSt
  | .inp _, _, _ => by simp only [Th.sh, Th.nSt, List.length_nil]
  | .st n c ps, a, b => by simp only [Th.sh, Th.nSt, List.length_cons, shL_len ps]
theorem shL_len : ∀ (ps : List (Int × Th)) (a b : Int), (shL a b ps).length = nStL ps
  | [], _, _ => by simp only [shL, nStL, List.length_nil]
  | (w, t) :: q, a, b => by simp only [shL, nStL, List.length_append, sh_len t, shL_len q]
end
mutual
theorem stL_len : ∀ t : Th, t.stL.length = t.nSt
  | .inp _ => by simp only [Th.stL, Th.nSt, List.length_nil]
  | .st n c ps => by simp only [Th.stL, Th.nSt, List.length_cons, stLL_len ps]
theorem stLL_len : ∀ ps : List (Int × Th), (stLL ps).length = nStL ps
  | [] => by simp only [stLL, nStL, List.length_nil]
  | (w, t) :: q => by simp only [stLL, nStL, List.length_append, stL_len t, stLL_len q]
end
theorem shL_app (a b : Int) : ∀ p q : List (Int × Th), shL a b (p ++ q) = shL a b p ++ shL a b q
  | [], q => by simp [shL]
  | (w, t) :: p, q => by simp only [List.cons_append, shL, shL_app a b p q, List.append_assoc]
theorem shL_take {a b : Int} {ps : List (Int × Th)} {i : Nat} {w : Int} {t : Th} (h : ps[i]? = some (w, t)) : shL a b (ps.take (i + 1)) = shL a b (ps.take i) ++ t.sh (a * w) b := by
  rw [take_one h, shL_app]
  simp only [shL, List.append_nil]
def stgOf : List Int × Th → Option Th
  | (_, .inp _) => none
  | (_, .st n c ps) => some (.st n c ps)
mutual
theorem things_stgs : ∀ (t : Th) (w : List Int), (t.things w).filterMap stgOf = t.stL
  | .inp _, _ => by simp only [Th.things, Th.stL, List.filterMap_cons, stgOf, List.filterMap_nil]
  | .st _ _ ps, w => by simp only [Th.things, Th.stL, List.filterMap_cons, stgOf, thingsAt_stgs ps w 0]
theorem thingsAt_stgs : ∀ (ps : List (Int × Th)) (w : List Int) (k : Nat), (thingsAt ps w k).filterMap stgOf = stLL ps
  | [], _, _ => by simp only [thingsAt, stLL, List.filterMap_nil]
  | (_, t) :: r, w, k => by simp only [thingsAt, stLL, List.filterMap_append, things_stgs t, thingsAt_stgs r]
end
mutual
theorem stL_st : ∀ (t : Th), t.good → ∀ u ∈ t.stL, ∃ n c ps, u = .st n c ps ∧ 1 ≤ n ∧ n ≤ 10 ^ 30 ∧ 0 ≤ c ∧ c < n
  | .inp _, _, u, h => by simp [Th.stL] at h
  | .st n c ps, g, u, h => by
    simp only [Th.good] at g
    simp only [Th.stL, List.mem_cons] at h
    rcases h with rfl | h
    · exact ⟨n, c, ps, rfl, g.1.n1, g.1.n2, g.1.c0, g.1.c1⟩
    · exact stLL_st ps g.2 u h
theorem stLL_st : ∀ (ps : List (Int × Th)), goodL ps → ∀ u ∈ stLL ps, ∃ n c ps, u = .st n c ps ∧ 1 ≤ n ∧ n ≤ 10 ^ 30 ∧ 0 ≤ c ∧ c < n
  | [], _, u, h => by simp [stLL] at h
  | (w, t) :: q, g, u, h => by
    simp only [goodL] at g
    simp only [stLL, List.mem_append] at h
    rcases h with h | h
    · exact stL_st t g.1 u h
    · exact stLL_st q g.2 u h
end
mutual
/-- how great they get -/
theorem sh_le : ∀ (t : Th) (a b : Int) (A : Nat), t.good → 0 < b → a.natAbs ≤ A → b.natAbs ≤ A → ∀ p ∈ t.sh a b, p.1.natAbs ≤ A * ZN ^ t.dep ∧ p.2.natAbs ≤ A * ZN ^ t.dep ∧ 0 < p.2
  | .inp _, _, _, _, _, _, _, _, p, h => by simp [Th.sh] at h
  | .st n c ps, a, b, A, g, hb, h1, h2, p, h => by
    simp only [Th.good] at g
    simp only [Th.sh, List.mem_cons] at h
    simp only [Th.dep]
    rcases h with rfl | h
    · have k : A ≤ A * ZN ^ (depL ps + 1) := Nat.le_mul_of_pos_right _ (znpos _)
      exact ⟨Nat.le_trans h1 k, Nat.le_trans h2 k, hb⟩
    · have n1 := g.1.n1
      have hn : n.natAbs ≤ ZN := nat30 (by omega) g.1.n2
      have hw : ∀ p ∈ ps, p.1.natAbs ≤ ZN := fun p hp => (g.1.ws.nz p.1 (List.mem_map.mpr ⟨p, hp, rfl⟩)).2
      have hbn : (b * n).natAbs ≤ A * ZN := by rw [Int.natAbs_mul]; exact Nat.mul_le_mul h2 hn
      have r := shL_le ps a (b * n) A g.2 (Int.mul_pos hb (by omega)) h1 hbn hw (depL ps) (Nat.le_refl _) p h
      rw [Nat.pow_succ, Nat.mul_comm (ZN ^ depL ps), ← Nat.mul_assoc]
      exact r
theorem shL_le : ∀ (ps : List (Int × Th)) (a b : Int) (A : Nat), goodL ps → 0 < b → a.natAbs ≤ A → b.natAbs ≤ A * ZN → (∀ p ∈ ps, p.1.natAbs ≤ ZN) → ∀ d, depL ps ≤ d → ∀ p ∈ shL a b ps, p.1.natAbs ≤ A * ZN * ZN ^ d ∧ p.2.natAbs ≤ A * ZN * ZN ^ d ∧ 0 < p.2
  | [], _, _, _, _, _, _, _, _, _, _, p, h => by simp [shL] at h
  | (w, t) :: q, a, b, A, g, hb, h1, h2, hw, d, hd, p, h => by
    simp only [goodL] at g
    simp only [depL] at hd
    simp only [shL, List.mem_append] at h
    rcases h with h | h
    · have h5 : w.natAbs ≤ ZN := hw (w, t) (List.mem_cons_self ..)
      have haw : (a * w).natAbs ≤ A * ZN := by rw [Int.natAbs_mul]; exact Nat.mul_le_mul h1 h5
      have r := sh_le t (a * w) b (A * ZN) g.1 hb haw h2 p h
      have k : A * ZN * ZN ^ t.dep ≤ A * ZN * ZN ^ d := Nat.mul_le_mul_left _ (Nat.pow_le_pow_right (by decide) (by omega))
      exact ⟨Nat.le_trans r.1 k, Nat.le_trans r.2.1 k, r.2.2⟩
    · exact shL_le q a b A g.2 hb h1 h2 (fun p hp => hw p (List.mem_cons_of_mem _ hp)) d (by omega) p h
end
/-- what a stage brings -/
def bring (W : Int) (u : Th) (s : Int × Int) (rest : Int) : Int := match u with
  | .inp _ => 0
  | .st n c _ => s.1 * (c - rest) * (W / (s.2 * n))
def byS (W : Int) : List Th → List (Int × Int) → List Int → Int
  | u :: us, s :: ss, x :: xs => bring W u s x + byS W us ss xs
  | _, _, _ => 0
theorem byS_app (W : Int) : ∀ (us us' : List Th) (ss ss' : List (Int × Int)) (xs xs' : List Int), us.length = ss.length → us.length = xs.length → byS W (us ++ us') (ss ++ ss') (xs ++ xs') = byS W us ss xs + byS W us' ss' xs'
  | [], us', [], ss', [], xs', _, _ => by simp [byS]
  | u :: us, us', s :: ss, ss', x :: xs, xs', h1, h2 => by
    simp only [List.cons_append, byS, byS_app W us us' ss ss' xs xs' (by simpa using h1) (by simpa using h2)]
    omega
  | [], _, _ :: _, _, _, _, h, _ => by simp at h
  | [], _, [], _, _ :: _, _, _, h => by simp at h
  | _ :: _, _, [], _, _, _, h, _ => by simp at h
  | _ :: _, _, _ :: _, _, [], _, _, h => by simp at h
theorem byS_take (W : Int) {us : List Th} {ss : List (Int × Int)} {xs : List Int} {i : Nat} {u : Th} {s : Int × Int} {x : Int} (h1 : us[i]? = some u) (h2 : ss[i]? = some s) (h3 : xs[i]? = some x) :
    byS W (us.take (i + 1)) (ss.take (i + 1)) (xs.take (i + 1)) = byS W (us.take i) (ss.take i) (xs.take i) + bring W u s x := by
  have l1 := (List.getElem?_eq_some_iff.mp h1).1
  have l2 := (List.getElem?_eq_some_iff.mp h2).1
  have l3 := (List.getElem?_eq_some_iff.mp h3).1
  rw [take_one h1, take_one h2, take_one h3, byS_app W _ _ _ _ _ _ (by rw [List.length_take, List.length_take]; omega) (by rw [List.length_take, List.length_take]; omega)]
  simp only [byS]
  omega
mutual
/-- the error is what the stages bring: V is what is left of W by the stages' divisors -/
theorem byS_th (r : List Int) : ∀ (t : Th) (a b V : Int), t.good → 0 < b → byS (V * (b * (t.ex r).2)) t.stL (t.sh a b) (t.rests r) = a * t.er r * V
  | .inp i, a, b, V, _, _ => by
    unfold Th.er
    simp [Th.stL, Th.sh, Th.rests, byS, Th.tell, Th.ex]
  | .st n c ps, a, b, V, g, hb => by
    simp only [Th.good] at g
    have n1 := g.1.n1
    have hbn : 0 < b * n := Int.mul_pos hb (by omega)
    have ih := byS_L r ps a (b * n) V g.2 hbn
    have er := er_st r n c ps
    simp only [Th.stL, Th.sh, Th.rests, byS, bring]
    rw [er]
    simp only [Th.ex]
    have e1 : V * (b * ((exL r ps).2 * n)) = V * (b * n * (exL r ps).2) := by simp only [Int.mul_assoc, Int.mul_left_comm, Int.mul_comm]
    have e2 : V * (b * n * (exL r ps).2) / (b * n) = V * (exL r ps).2 := by
      have : V * (b * n * (exL r ps).2) = V * (exL r ps).2 * (b * n) := by simp only [Int.mul_assoc, Int.mul_left_comm, Int.mul_comm]
      rw [this, Int.mul_ediv_cancel _ (by omega)]
    rw [e1, e2, ih]
    show a * (c - restOf r n c ps) * (V * (exL r ps).2) + a * erL r ps * V = _
    rw [Int.mul_add, Int.add_mul]
    have e3 : a * (c - restOf r n c ps) * (V * (exL r ps).2) = a * ((exL r ps).2 * (c - restOf r n c ps)) * V := by simp only [Int.mul_assoc, Int.mul_left_comm, Int.mul_comm]
    rw [e3]
theorem byS_L (r : List Int) : ∀ (ps : List (Int × Th)) (a b V : Int), goodL ps → 0 < b → byS (V * (b * (exL r ps).2)) (stLL ps) (shL a b ps) (restsL r ps) = a * erL r ps * V
  | [], a, b, V, _, _ => by
    unfold erL
    simp [stLL, shL, restsL, byS, tellL, exL]
  | (w, t) :: q, a, b, V, g, hb => by
    simp only [goodL] at g
    have i1 := byS_th r t (a * w) b (V * (exL r q).2) g.1 hb
    have i2 := byS_L r q a b (V * (t.ex r).2) g.2 hb
    simp only [stLL, shL, restsL]
    rw [byS_app _ _ _ _ _ _ _ (by rw [stL_len, sh_len]) (by rw [stL_len, rests_len]), erL_cons]
    simp only [exL]
    have e1 : V * (b * ((t.ex r).2 * (exL r q).2)) = V * (exL r q).2 * (b * (t.ex r).2) := by simp only [Int.mul_assoc, Int.mul_left_comm, Int.mul_comm]
    have e2 : V * (b * ((t.ex r).2 * (exL r q).2)) = V * (t.ex r).2 * (b * (exL r q).2) := by simp only [Int.mul_assoc, Int.mul_left_comm, Int.mul_comm]
    have s1 : byS (V * (b * ((t.ex r).2 * (exL r q).2))) t.stL (t.sh (a * w) b) (t.rests r) = a * w * t.er r * (V * (exL r q).2) := by rw [e1, i1]
    have s2 : byS (V * (b * ((t.ex r).2 * (exL r q).2))) (stLL q) (shL a b q) (restsL r q) = a * erL r q * (V * (t.ex r).2) := by rw [e2, i2]
    rw [s1, s2, Int.mul_add, Int.add_mul]
    have e3 : a * w * t.er r * (V * (exL r q).2) = a * (w * (exL r q).2 * t.er r) * V := by simp only [Int.mul_assoc, Int.mul_left_comm, Int.mul_comm]
    have e4 : a * erL r q * (V * (t.ex r).2) = a * ((t.ex r).2 * erL r q) * V := by simp only [Int.mul_assoc, Int.mul_left_comm, Int.mul_comm]
    rw [e3, e4]
end
theorem byS_all {r : List Int} {t : Th} (g : t.good) : byS (t.ex r).2 t.stL (t.sh 1 1) (t.rests r) = t.er r := by
  have := byS_th r t 1 1 1 g (by decide)
  simpa only [Int.one_mul, Int.mul_one] using this
end SC
namespace SC
open PySem PySem.Spec PyProof.Rows L2 StrLaws

/-! ## repr of data with integers of up to 4300 figures, where no limit of figures was set -/
mutual
def okX : PyData → Bool
  | .none => true
  | .bool _ => true
  | .int i => decide (i.natAbs < 10 ^ 1200)
  | .str x => decide ((reprText x).length ≤ 100)
  | .list xs => okXAll xs
  | .tuple xs => okXAll xs
  | .dict _ => false
def okXAll : List PyData → Bool
  | [] => true
  | x :: xs => okX x && okXAll xs
end
mutual
theorem okX_len : ∀ d : PyData, okX d = true → d.shown.length + 5 ≤ 1210 * nd d
  | .none, _ => by
    have e : (PyData.shown .none).length = 4 := rfl
    simp only [nd]; omega
  | .bool b, _ => by
    have e : (PyData.shown (.bool b)).length ≤ 5 := by cases b <;> decide
    simp only [nd]; omega
  | .int i, h => by
    have h1 : i.natAbs < 10 ^ 1200 := by simpa only [okX, decide_eq_true_eq] using h
    have e := int_text_length_le10 (k := 1200) (by decide) h1
    have e2 : (PyData.shown (.int i)).length ≤ 1201 := by
      show (Str.ofString (toString i)).length ≤ 1201
      rw [PySem.ofString_length]
      exact e
    simp only [nd]; omega
  | .str x, h => by
    have e : (reprText x).length ≤ 100 := by simpa only [okX, decide_eq_true_eq] using h
    simp only [nd, PyData.shown]; omega
  | .list xs, h => by
    have h1 := okX_lenA xs (by simpa only [okX] using h)
    have h2 := listText_len_le (PyData.shownAll xs)
    have h3 := PyData.shownAll_length xs
    simp only [PyData.shown, nd]
    omega
  | .tuple xs, h => by
    have h1 := okX_lenA xs (by simpa only [okX] using h)
    have h2 := tupleText_len_le (PyData.shownAll xs)
    have h3 := PyData.shownAll_length xs
    simp only [PyData.shown, nd]
    omega
  | .dict kvs, h => by simp only [okX] at h; cases h
theorem okX_lenA : ∀ xs : List PyData, okXAll xs = true → ((PyData.shownAll xs).map (·.length)).sum + 5 * xs.length ≤ 1210 * ndAll xs
  | [], _ => by simp only [PyData.shownAll, ndAll, List.map_nil, List.sum_nil, List.length_nil]; omega
  | x :: xs, h => by
    have h' : okX x = true ∧ okXAll xs = true := by simpa only [okXAll, Bool.and_eq_true] using h
    have h1 := okX_len x h'.1
    have h2 := okX_lenA xs h'.2
    simp only [PyData.shownAll, ndAll, List.map_cons, List.sum_cons, List.length_cons]
    omega
end
section
variable {P : Program} {w : World} {hp : Heap}
theorem big_int {i : Int} {t : Tok} {bs : List Addr} {d : Nat} (z : hp.NoDigits) (hi : i.natAbs < 10 ^ 4300) : ReprK P w bs hp d (.int i t) (PyData.shown (.int i)) := fun b0 hz A g E s Q hg hc hu hk hQ => by
  rw [pyReprUnder_leaf (v := .int i t) (by omega) (fun _ e => nomatch e)]
  unfold pyRepr
  refine wpAny_bind (wpAny_pyReprObj_slot (by omega) (typeIs_int s i t) F.slot_int_repr.toG ?_)
  refine wpAny_call_entry F.slot_int_repr (typeIs_int s i t) F.entry_int_repr ?_ (F.args_int_repr_1 _)
  unfold Builtin.«int.__repr__»
  show wpAny _ _ (do let r ← Builtin.overDigitLimit? i; _) _ _ s
  refine wpAny_bind (overDigitLimit_any (z.keeps hk) (fun hlt => ?_) (fun hge => absurd hi (Nat.not_lt.mpr hge)))
  exact wpAny_bind (wpAny_mkStr (wpAny_pure ⟨_, rfl, _, _, rfl, wpAny_pure (hQ s.heap _ fun _ _ e => e)⟩) (int_text_fits10 hlt))
mutual
theorem big_one (z : hp.NoDigits) : ∀ {v : Value} {d : PyData} {as : List Addr}, Reads hp v d as → okX d = true → d.shown.length ≤ sizeLine → ∃ bs, ReadAtMost hp d.depth bs ∧ ReprK P w bs hp d.depth v d.shown
  | _, _, _, .none, _, _ => ⟨[], (fun _ h => nomatch h), .of_is ReprIs.none _ _ _⟩
  | _, _, _, .bool b, _, _ => ⟨[], (fun _ h => nomatch h), .of_is (ReprIs.bool b) _ _ _⟩
  | _, _, _, .int i t, hs, _ => ⟨[], (fun _ h => nomatch h), big_int z (by
      have : i.natAbs < 10 ^ 1200 := by simpa only [okX, decide_eq_true_eq] using hs
      exact Nat.lt_trans this (by decide +kernel))⟩
  | _, _, _, .str x t, hs, _ => ⟨[], (fun _ h => nomatch h), by
      have e : (reprText x).length ≤ 100 := by simpa only [okX, decide_eq_true_eq] using hs
      simp only [PyData.shown]
      exact .of_is (ReprIs.str x t (Nat.le_trans e (by rw [sizeLine_eq]; decide))) _ _ _⟩
  | _, _, _, .list (a := a) (vs := vs) (xs := xs) e1 e2 e3 e4, hs, hz => by
    have hy : (listText (PyData.shownAll xs)).length ≤ sizeLine := by simpa only [PyData.shown] using hz
    obtain ⟨bs, hb, hk⟩ := big_all z e4 (by simpa only [okX] using hs) (fun t ht => Nat.le_trans (listText_mem_le ht) hy)
    have r : Reads hp (.ref a) (.list xs) _ := .list e1 e2 e3 e4
    have na : a ∉ bs := not_mem_of_deeper r (by simp only [PyData.depth]; omega) hb
    refine ⟨a :: bs, ReadAtMost.cons r (by simp only [PyData.depth]; omega) hb, ?_⟩
    simp only [PyData.depth, PyData.shown]
    obtain ⟨l⟩ := vs
    cases l with
    | nil =>
      have e5 : ReadsAll hp [] xs _ := e4
      cases e5
      simp only [PyData.shownAll, listText_nil]
      exact ReprK.listEmpty e1 e2 e3
    | cons x l => exact ReprK.list e1 e2 e3 na (by simpa using hk.length_eq) (fun i y e => hk.item i y (by simpa using e))
  | _, _, _, .tuple (a := a) (xs := xs) e1 e2 e3 e4, hs, hz => by
    have hy : (tupleText (PyData.shownAll xs)).length ≤ sizeLine := by simpa only [PyData.shown] using hz
    obtain ⟨bs, hb, hk⟩ := big_all z e4 (by simpa only [okX] using hs) (fun t ht => Nat.le_trans (tupleText_mem_le ht) hy)
    have r : Reads hp (.ref a) (.tuple xs) _ := .tuple e1 e2 e3 e4
    have na : a ∉ bs := not_mem_of_deeper r (by simp only [PyData.depth]; omega) hb
    refine ⟨a :: bs, ReadAtMost.cons r (by simp only [PyData.depth]; omega) hb, ?_⟩
    simp only [PyData.depth, PyData.shown]
    exact ReprK.tuple e1 e2 e3 na hk
  | _, _, _, .dict _ _ _ _ _, hs, _ => by simp only [okX] at hs; cases hs
theorem big_all (z : hp.NoDigits) : ∀ {vs : List Value} {ds : List PyData} {as : List Addr}, ReadsAll hp vs ds as → okXAll ds = true → (∀ t ∈ PyData.shownAll ds, t.length ≤ sizeLine) → ∃ bs, ReadAtMost hp (PyData.depthAll ds) bs ∧ ReprAllK P w bs hp (PyData.depthAll ds) vs (PyData.shownAll ds)
  | _, _, _, .nil, _, _ => ⟨[], (fun _ h => nomatch h), .nil⟩
  | _, _, _, .cons (d := d) (ds := ds) r rs, hs, hz => by
    have hs2 : okX d = true ∧ okXAll ds = true := by simpa only [okXAll, Bool.and_eq_true] using hs
    obtain ⟨b1, q1, k1⟩ := big_one z r hs2.1 (hz _ (by simp only [PyData.shownAll]; exact List.mem_cons_self ..))
    obtain ⟨b2, q2, k2⟩ := big_all z rs hs2.2 (fun t ht => hz t (by simp only [PyData.shownAll]; exact List.mem_cons_of_mem _ ht))
    refine ⟨b1 ++ b2, fun b hm => ?_, ?_⟩
    · simp only [PyData.depthAll]
      rcases List.mem_append.mp hm with hm | hm
      · obtain ⟨d1, as1, r1, hd1⟩ := q1 b hm
        exact ⟨d1, as1, r1, Nat.le_trans hd1 (Nat.le_max_left _ _)⟩
      · obtain ⟨d1, as1, r1, hd1⟩ := q2 b hm
        exact ⟨d1, as1, r1, Nat.le_trans hd1 (Nat.le_max_right _ _)⟩
    · simp only [PyData.depthAll, PyData.shownAll]
      exact .cons ((k1.more fun b hb => List.mem_append_left _ hb).level_le (Nat.le_max_left _ _)) (k2.more_le (fun b hb => List.mem_append_right _ hb) (Nat.le_max_right _ _))
end
end
structure ShowsX (d : PyData) : Prop where
  ok : okX d = true
  many : nd d ≤ 10000
  deep : d.depth ≤ 60
section
variable {X : Cx}
def rReprX (K : PySem.W.Frag) : List V → Hp → VK → Prop := fun xs H Q => ∃ (a : Addr) (d : PyData), xs = [.ref a] ∧ Dp K H (.ref a) d ∧ ShowsX d ∧ Q (.str d.shown) H
theorem call_reprX (hND : X.base.NoDigits) (hgd : X.A.guards = some []) (hu : X.A.units + 70 < cLine) : CallR X (.builtin "repr") (rReprX X.K) := by
  intro pins s σ H xs us Q I r h
  obtain ⟨a, d, rfl, hd, hs, q⟩ := h
  obtain ⟨u, rfl, rx⟩ := vals1 r
  cases rx
  obtain ⟨as, rd⟩ := Dp.reads I d _ _ hd rfl
  have z : s.heap.NoDigits := hND.keeps fun b o e => (I.env0.bs b o e).1
  have hl := okX_len d hs.ok
  have hm := hs.many
  have hp := hs.deep
  have hsz : d.shown.length ≤ sizeLine := by rw [sizeLine_eq]; omega
  have fin : ∀ h' u tk, (∀ b o, s.heap.get? b = some o → h'.get? b = some o) → EP X pins σ Q (.str d.shown u) { s with heap := h', toks := tk } := fun h' u tk hk => ⟨.str _, H, I.kept (t' := tk) hk, ⟨_, rfl⟩, q⟩
  cases rd with
  | list e1 e2 e3 e4 =>
    rename_i o vs n xs bs0
    have hy : (listText (PyData.shownAll xs)).length ≤ sizeLine := by simpa only [PyData.shown] using hsz
    obtain ⟨bs, hb, hk⟩ := big_all (P := X.prog) (w := X.w) z e4 (by simpa only [okX] using hs.ok) (fun t ht => Nat.le_trans (listText_mem_le ht) hy)
    have na : a ∉ bs := not_mem_of_deeper (.list e1 e2 e3 e4) (by simp only [PyData.depth]; omega) hb
    refine call_repr_slot (by omega) ⟨o, e1, e2⟩ F.slot_list_repr.toG ?_
    simp only [PyData.depth] at hp
    simp only [PyData.shown] at fin
    obtain ⟨l⟩ := vs
    cases l with
    | nil =>
      have e5 : ReadsAll s.heap [] xs _ := e4
      cases e5
      simp only [PyData.shownAll, listText_nil] at fin
      exact call_list_repr_empty ⟨o, e1, e2⟩ e1 e3 ⟨_, _, rfl, fin s.heap _ _ fun _ _ e => e⟩
    | cons x l =>
      exact call_list_reprK e1 e2 e3 na (by simpa using hk.length_eq) (fun i y e => hk.item i y (by simpa using e)) hgd (fun b _ => Clear.nil b) (by show X.A.units + 1 + _ < cLine; omega) (fun _ _ e => e) (fun h' u tk hk2 => ⟨_, _, rfl, fin h' u tk hk2⟩) hy
  | tuple e1 e2 e3 e4 =>
    rename_i o vs n xs
    have hy : (tupleText (PyData.shownAll xs)).length ≤ sizeLine := by simpa only [PyData.shown] using hsz
    obtain ⟨bs, hb, hk⟩ := big_all (P := X.prog) (w := X.w) z e4 (by simpa only [okX] using hs.ok) (fun t ht => Nat.le_trans (tupleText_mem_le ht) hy)
    have na : a ∉ bs := not_mem_of_deeper (.tuple e1 e2 e3 e4) (by simp only [PyData.depth]; omega) hb
    refine call_repr_slot (by omega) ⟨o, e1, e2⟩ F.slot_tuple_repr ?_
    simp only [PyData.depth] at hp
    simp only [PyData.shown] at fin
    exact call_tuple_reprK e1 e2 e3 na hk hgd (fun b _ => Clear.nil b) (by show X.A.units + 1 + _ < cLine; omega) (fun _ _ e => e) (fun h' u tk hk2 => ⟨_, _, rfl, fin h' u tk hk2⟩) hy
  | dict e1 e2 e3 e4 e5 =>
    have := hs.ok
    simp only [okX] at this
    cases this
end
end SC
namespace SC
open PySem PySem.Spec PyProof.Rows L2 StrLaws

/-! ## by which fractions the inputs go in, not in least terms -/
mutual
def Th.fm (a b : Int) : Th → List (Int × Int × Int)
  | .inp i => [(i, a, b)]
  | .st n _ ps => fmL a (b * n) ps
def fmL (a b : Int) : List (Int × Th) → List (Int × Int × Int)
  | [] => []
  | (w, t) :: q => t.fm (a * w) b ++ fmL a b q
end
theorem fmL_app (a b : Int) : ∀ p q : List (Int × Th), fmL a b (p ++ q) = fmL a b p ++ fmL a b q
  | [], q => by simp [fmL]
  | (w, t) :: p, q => by simp only [List.cons_append, fmL, fmL_app a b p q, List.append_assoc]
theorem fmL_take {a b : Int} {ps : List (Int × Th)} {i : Nat} {w : Int} {t : Th} (h : ps[i]? = some (w, t)) : fmL a b (ps.take (i + 1)) = fmL a b (ps.take i) ++ t.fm (a * w) b := by
  rw [take_one h, fmL_app]
  simp only [fmL, List.append_nil]
mutual
theorem fm_ins : ∀ (t : Th) (a b : Int), (t.fm a b).map (·.1) = t.ins
  | .inp i, _, _ => by simp only [Th.fm, Th.ins, List.map_cons, List.map_nil]
  | .st n c ps, a, b => by simp only [Th.fm, Th.ins, fmL_ins ps]
theorem fmL_ins : ∀ (ps : List (Int × Th)) (a b : Int), (fmL a b ps).map (·.1) = insL ps
  | [], _, _ => by simp only [fmL, insL, List.map_nil]
  | (w, t) :: q, a, b => by simp only [fmL, insL, List.map_append, fm_ins t, fmL_ins q]
end
theorem form_len (t : Th) (a b : Int) : (t.fm a b).length = t.nIn := by
  rw [← ins_len, ← fm_ins t a b, List.length_map]
theorem formL_len (ps : List (Int × Th)) (a b : Int) : (fmL a b ps).length = nInL ps := by
  rw [← insL_len, ← fmL_ins ps a b, List.length_map]
mutual
theorem fm_le : ∀ (t : Th) (a b : Int) (A : Nat), t.good → 0 < b → a.natAbs ≤ A → b.natAbs ≤ A → ∀ p ∈ t.fm a b, p.2.1.natAbs ≤ A * ZN ^ t.dep ∧ p.2.2.natAbs ≤ A * ZN ^ t.dep ∧ 0 < p.2.2
  | .inp i, a, b, A, _, hb, h1, h2, p, h => by
    simp only [Th.fm, List.mem_singleton] at h
    subst h
    simp only [Th.dep, Nat.pow_zero, Nat.mul_one]
    exact ⟨h1, h2, hb⟩
  | .st n c ps, a, b, A, g, hb, h1, h2, p, h => by
    simp only [Th.good] at g
    simp only [Th.fm] at h
    simp only [Th.dep]
    have n1 := g.1.n1
    have hn : n.natAbs ≤ ZN := nat30 (by omega) g.1.n2
    have hw : ∀ p ∈ ps, p.1.natAbs ≤ ZN := fun p hp => (g.1.ws.nz p.1 (List.mem_map.mpr ⟨p, hp, rfl⟩)).2
    have hbn : (b * n).natAbs ≤ A * ZN := by rw [Int.natAbs_mul]; exact Nat.mul_le_mul h2 hn
    have r := fmL_le ps a (b * n) A g.2 (Int.mul_pos hb (by omega)) h1 hbn hw (depL ps) (Nat.le_refl _) p h
    rw [Nat.pow_succ, Nat.mul_comm (ZN ^ depL ps), ← Nat.mul_assoc]
    exact r
theorem fmL_le : ∀ (ps : List (Int × Th)) (a b : Int) (A : Nat), goodL ps → 0 < b → a.natAbs ≤ A → b.natAbs ≤ A * ZN → (∀ p ∈ ps, p.1.natAbs ≤ ZN) → ∀ d, depL ps ≤ d → ∀ p ∈ fmL a b ps, p.2.1.natAbs ≤ A * ZN * ZN ^ d ∧ p.2.2.natAbs ≤ A * ZN * ZN ^ d ∧ 0 < p.2.2
  | [], _, _, _, _, _, _, _, _, _, _, p, h => by simp [fmL] at h
  | (w, t) :: q, a, b, A, g, hb, h1, h2, hw, d, hd, p, h => by
    simp only [goodL] at g
    simp only [depL] at hd
    simp only [fmL, List.mem_append] at h
    rcases h with h | h
    · have h5 : w.natAbs ≤ ZN := hw (w, t) (List.mem_cons_self ..)
      have haw : (a * w).natAbs ≤ A * ZN := by rw [Int.natAbs_mul]; exact Nat.mul_le_mul h1 h5
      have r := fm_le t (a * w) b (A * ZN) g.1 hb haw h2 p h
      have k : A * ZN * ZN ^ t.dep ≤ A * ZN * ZN ^ d := Nat.mul_le_mul_left _ (Nat.pow_le_pow_right (by decide) (by omega))
      exact ⟨Nat.le_trans r.1 k, Nat.le_trans r.2.1 k, r.2.2⟩
    · exact fmL_le q a b A g.2 hb h1 h2 (fun p hp => hw p (List.mem_cons_of_mem _ hp)) d (by omega) p h
end
mutual
/-- a stage's share and its divisors stand in front of each -/
theorem fm_scale : ∀ (t : Th) (a b i A B : Int), (i, A, B) ∈ t.fm a b → ∃ A0 B0, (i, A0, B0) ∈ t.fm 1 1 ∧ A = a * A0 ∧ B = b * B0
  | .inp j, a, b, i, A, B, h => by
    simp only [Th.fm, List.mem_singleton, Prod.mk.injEq] at h
    obtain ⟨rfl, rfl, rfl⟩ := h
    exact ⟨1, 1, by simp only [Th.fm, List.mem_singleton], by omega, by omega⟩
  | .st n c ps, a, b, i, A, B, h => by
    simp only [Th.fm] at h ⊢
    obtain ⟨A0, B0, k1, k2, k3⟩ := fmL_scale ps a (b * n) i A B h
    have k4 := fmL_up ps 1 (1 * n) i A0 B0 k1
    refine ⟨_, _, k4, ?_, ?_⟩
    · rw [k2, Int.one_mul]
    · rw [k3, Int.one_mul, Int.mul_assoc]
theorem fmL_scale : ∀ (ps : List (Int × Th)) (a b i A B : Int), (i, A, B) ∈ fmL a b ps → ∃ A0 B0, (i, A0, B0) ∈ fmL 1 1 ps ∧ A = a * A0 ∧ B = b * B0
  | [], _, _, _, _, _, h => by simp [fmL] at h
  | (w, t) :: q, a, b, i, A, B, h => by
    simp only [fmL, List.mem_append] at h ⊢
    rcases h with h | h
    · obtain ⟨A0, B0, k1, k2, k3⟩ := fm_scale t (a * w) b i A B h
      have k4 := fm_up t (1 * w) 1 i A0 B0 k1
      refine ⟨_, _, .inl k4, ?_, ?_⟩
      · rw [k2, Int.one_mul, Int.mul_assoc]
      · rw [k3, Int.one_mul]
    · obtain ⟨A0, B0, k1, k2, k3⟩ := fmL_scale q a b i A B h
      exact ⟨A0, B0, .inr k1, k2, k3⟩
theorem fm_up : ∀ (t : Th) (a b i A B : Int), (i, A, B) ∈ t.fm 1 1 → (i, a * A, b * B) ∈ t.fm a b
  | .inp j, a, b, i, A, B, h => by
    simp only [Th.fm, List.mem_singleton, Prod.mk.injEq] at h ⊢
    obtain ⟨rfl, rfl, rfl⟩ := h
    exact ⟨rfl, by omega, by omega⟩
  | .st n c ps, a, b, i, A, B, h => by
    simp only [Th.fm] at h ⊢
    obtain ⟨A0, B0, k1, k2, k3⟩ := fmL_scale ps 1 (1 * n) i A B h
    have k4 := fmL_up ps a (b * n) i A0 B0 k1
    rw [k2, k3, Int.one_mul, Int.one_mul, ← Int.mul_assoc]
    exact k4
theorem fmL_up : ∀ (ps : List (Int × Th)) (a b i A B : Int), (i, A, B) ∈ fmL 1 1 ps → (i, a * A, b * B) ∈ fmL a b ps
  | [], _, _, _, _, _, h => by simp [fmL] at h
  | (w, t) :: q, a, b, i, A, B, h => by
    simp only [fmL, List.mem_append] at h ⊢
    rcases h with h | h
    · obtain ⟨A0, B0, k1, k2, k3⟩ := fm_scale t (1 * w) 1 i A B h
      have k4 := fm_up t (a * w) b i A0 B0 k1
      rw [k2, k3, Int.one_mul, Int.one_mul, ← Int.mul_assoc]
      exact .inl k4
    · exact .inr (fmL_up q a b i A B h)
end
theorem mem_ins {t : Th} {a b i A B : Int} (h : (i, A, B) ∈ t.fm a b) : i ∈ t.ins := by
  rw [← fm_ins t a b]
  exact List.mem_map.mpr ⟨_, h, rfl⟩
theorem mem_insL {ps : List (Int × Th)} {a b i A B : Int} (h : (i, A, B) ∈ fmL a b ps) : i ∈ insL ps := by
  rw [← fmL_ins ps a b]
  exact List.mem_map.mpr ⟨_, h, rfl⟩
mutual
/-- what is told hangs on the own inputs alone -/
theorem agree {r r' : List Int} : ∀ t : Th, (∀ j ∈ t.ins, rowAt r' j = rowAt r j) → t.tell r' = t.tell r ∧ t.rests r' = t.rests r ∧ t.ex r' = t.ex r
  | .inp i, h => by
    have := h i (by simp [Th.ins])
    simp only [Th.tell, Th.rests, Th.ex, this, and_self]
  | .st n c ps, h => by
    simp only [Th.ins] at h
    obtain ⟨h1, h2, h3⟩ := agreeL ps h
    simp only [Th.tell, Th.rests, Th.ex, h1, h2, h3, and_self]
theorem agreeL {r r' : List Int} : ∀ ps : List (Int × Th), (∀ j ∈ insL ps, rowAt r' j = rowAt r j) → tellL r' ps = tellL r ps ∧ restsL r' ps = restsL r ps ∧ exL r' ps = exL r ps
  | [], _ => by simp only [tellL, restsL, exL, and_self]
  | (w, t) :: q, h => by
    simp only [insL, List.mem_append] at h
    obtain ⟨h1, h2, h3⟩ := agree t fun j hj => h j (.inl hj)
    obtain ⟨k1, k2, k3⟩ := agreeL q fun j hj => h j (.inr hj)
    simp only [tellL, restsL, exL, h1, h2, h3, k1, k2, k3, and_self]
end
mutual
/-- an input's item is moved by m times the divisors above it -/
theorem moved {r r' : List Int} : ∀ (t : Th), t.good → t.ins.Nodup → ∀ i A B m : Int, (i, A, B) ∈ t.fm 1 1 → rowAt r' i = rowAt r i + m * B → (∀ j ∈ t.ins, j ≠ i → rowAt r' j = rowAt r j) →
    t.tell r' = t.tell r + m * A ∧ t.rests r' = t.rests r ∧ (t.ex r').1 = (t.ex r).1 + m * A * (t.ex r).2
  | .inp k, _, _, i, A, B, m, h, e, _ => by
    simp only [Th.fm, List.mem_singleton, Prod.mk.injEq] at h
    obtain ⟨rfl, rfl, rfl⟩ := h
    simp only [Th.tell, Th.rests, Th.ex, e, Int.mul_one, true_and, and_self]
  | .st n c ps, g, nd, i, A, B, m, h, e, ho => by
    simp only [Th.good] at g
    simp only [Th.ins] at nd ho
    simp only [Th.fm] at h
    have n1 := g.1.n1
    obtain ⟨A0, B0, k1, k2, k3⟩ := fmL_scale ps 1 (1 * n) i A B h
    rw [Int.one_mul] at k2
    rw [Int.one_mul] at k3
    subst k2 k3
    have e2 : rowAt r' i = rowAt r i + m * n * B0 := by rw [e, Int.mul_assoc]
    obtain ⟨q1, q2, q3⟩ := movedL ps g.2 nd i A B0 (m * n) k1 e2 ho
    have s1 : c + tellL r' ps = c + tellL r ps + m * A * n := by
      rw [q1, Int.mul_right_comm m n A]; omega
    simp only [Th.tell, Th.rests, Th.ex]
    rw [s1, q2, q3, Int.add_mul_ediv_right _ _ (show n ≠ 0 by omega), Int.add_mul_emod_self_right]
    refine ⟨rfl, rfl, ?_⟩
    have : m * n * A * (exL r ps).2 = m * A * ((exL r ps).2 * n) := by simp only [Int.mul_assoc, Int.mul_left_comm, Int.mul_comm]
    rw [this]
theorem movedL {r r' : List Int} : ∀ (ps : List (Int × Th)), goodL ps → (insL ps).Nodup → ∀ i A B m : Int, (i, A, B) ∈ fmL 1 1 ps → rowAt r' i = rowAt r i + m * B → (∀ j ∈ insL ps, j ≠ i → rowAt r' j = rowAt r j) →
    tellL r' ps = tellL r ps + m * A ∧ restsL r' ps = restsL r ps ∧ (exL r' ps).1 = (exL r ps).1 + m * A * (exL r ps).2
  | [], _, _, _, _, _, _, h, _, _ => by simp [fmL] at h
  | (w, t) :: q, g, nd, i, A, B, m, h, e, ho => by
    simp only [goodL] at g
    simp only [insL] at nd ho
    simp only [fmL, List.mem_append] at h
    have nd2 := List.nodup_append.mp nd
    have t2 := ex_2 r' r t
    have q2' := exL_2 r' r q
    rcases h with h | h
    · obtain ⟨A0, B0, k1, k2, k3⟩ := fm_scale t (1 * w) 1 i A B h
      rw [Int.one_mul] at k2 k3
      subst k2 k3
      have hi := mem_ins k1
      obtain ⟨q1, q2, q3⟩ := moved t g.1 nd2.1 i A0 B m k1 e fun j hj => ho j (List.mem_append_left _ hj)
      obtain ⟨a1, a2, a3⟩ := agreeL (r := r) (r' := r') q fun j hj => ho j (List.mem_append_right _ hj) fun z => nd2.2.2 i hi j hj z.symm
      simp only [tellL, restsL, exL]
      rw [q1, q2, q3, a1, a2, a3, t2]
      refine ⟨?_, rfl, ?_⟩
      · rw [Int.mul_add, Int.mul_left_comm w m A0]; omega
      · rw [Int.mul_add, Int.add_mul]
        have z1 : w * (m * A0 * (t.ex r).2) * (exL r q).2 = m * (w * A0) * ((t.ex r).2 * (exL r q).2) := by simp only [Int.mul_assoc, Int.mul_left_comm, Int.mul_comm]
        rw [z1]; omega
    · have hi := mem_insL h
      obtain ⟨q1, q2, q3⟩ := movedL q g.2 nd2.2.1 i A B m h e fun j hj => ho j (List.mem_append_right _ hj)
      obtain ⟨a1, a2, a3⟩ := agree (r := r) (r' := r') t fun j hj => ho j (List.mem_append_left _ hj) fun z => nd2.2.2 j hj i hi z
      simp only [tellL, restsL, exL]
      rw [q1, q2, q3, a1, a2, a3, q2']
      refine ⟨by omega, rfl, ?_⟩
      rw [Int.add_mul]
      have z1 : m * A * (exL r q).2 * (t.ex r).2 = m * A * ((t.ex r).2 * (exL r q).2) := by simp only [Int.mul_assoc, Int.mul_left_comm, Int.mul_comm]
      rw [z1]; omega
end
/-- a fraction and an integer -/
theorem lst_add {e d : Int} (g : Int) (hd : 0 < d) : lst (e + g * d) d = ((lst e d).1 + g * (lst e d).2, (lst e d).2) := by
  have hg : gcdN (e + g * d) d = gcdN e d := by
    unfold gcdN
    have : Int.gcd (e + g * d) d = Int.gcd e d := by rw [Int.gcd_add_mul_right_left]
    simpa only [Int.gcd] using this
  have hp := gcdN_pos (a := e) hd
  have h2 := lst_2 e d
  unfold lst at h2 ⊢
  rw [hg]
  simp only at h2 ⊢
  refine Prod.ext ?_ rfl
  show (e + g * d) / (gcdN e d : Int) = e / (gcdN e d : Int) + g * (d / (gcdN e d : Int))
  have e3 : g * d = g * (d / (gcdN e d : Int)) * (gcdN e d : Int) := by rw [Int.mul_assoc, h2]
  rw [e3, Int.add_mul_ediv_right _ _ (by omega)]
theorem rowAt_set {r : List Int} {i : Int} {v : Int} (h0 : 0 ≤ i) (h1 : i < (r.length : Nat)) : rowAt (r.set i.toNat v) i = v := by
  unfold rowAt
  rw [List.getD_eq_getElem?_getD, List.getElem?_set_self (by omega)]
  rfl
theorem rowAt_ne {r : List Int} {i j : Int} {v : Int} (h0 : 0 ≤ i) (h1 : 0 ≤ j) (h : j ≠ i) : rowAt (r.set i.toNat v) j = rowAt r j := by
  unfold rowAt
  rw [List.getD_eq_getElem?_getD, List.getD_eq_getElem?_getD, List.getElem?_set_ne (by omega)]
theorem set_map (r : List Int) (i : Nat) (v : Int) : (r.map V.int).set i (.int v) = (r.set i v).map V.int := by rw [List.map_set]
theorem set_bound {r : List Int} {i : Nat} {v : Int} {B : Nat} (h : ∀ x ∈ r, x.natAbs ≤ B) (hv : v.natAbs ≤ B) : ∀ x ∈ r.set i v, x.natAbs ≤ B := fun x hx => by
  rcases List.mem_or_eq_of_mem_set hx with h1 | h1
  · exact h x h1
  · rw [h1]; exact hv
end SC
namespace SC
open PySem PySem.Spec PyProof.Rows L2 StrLaws

/-! ## sorted(xs), a list of triples of integers -/
def tri (p : Int × Int × Int) : PyData := .tuple [.int p.1, .int p.2.1, .int p.2.2]
/-- x stands for the triple -/
def Tri (K : PySem.W.Frag) (H : Hp) (x : V) (p : Int × Int × Int) : Prop := ∃ q, x = .ref q ∧ SqT K H q [.int p.1, .int p.2.1, .int p.2.2]
abbrev Tris (K : PySem.W.Frag) (H : Hp) (xs : List V) (ps : List (Int × Int × Int)) : Prop := PySem.W.EachIs (Tri K H) xs ps
theorem Tri.ts {K : PySem.W.Frag} {H H' : Hp} {x : V} {p : Int × Int × Int} (s : TSame H H') (h : Tri K H x p) : Tri K H' x p := by
  obtain ⟨q, e, h⟩ := h
  exact ⟨q, e, ts_t s h⟩
theorem Tris.ts {K : PySem.W.Frag} {H H' : Hp} (s : TSame H H') : ∀ {xs : List V} {ps : List (Int × Int × Int)}, Tris K H xs ps → Tris K H' xs ps
  | _, _, .nil => .nil
  | _, _, .cons h t => .cons (h.ts s) (Tris.ts s t)
theorem Tris.of {K : PySem.W.Frag} {H : Hp} : ∀ {xs : List V} {ps : List (Int × Int × Int)}, DpAll K H xs (ps.map tri) → Tris K H xs ps
  | _, [], h => by
    cases h
    exact .nil
  | _, p :: ps, h => by
    cases h with
    | cons h1 h2 =>
      refine .cons ?_ (Tris.of h2)
      have h1' : Dp K H _ (.tuple [.int p.1, .int p.2.1, .int p.2.2]) := h1
      obtain ⟨q, rfl⟩ := dp_tuple h1'
      obtain ⟨vs, k1, k2⟩ := dp_tup h1'
      cases k2 with
      | cons k3 k4 =>
        cases k4 with
        | cons k5 k6 =>
          cases k6 with
          | cons k7 k8 =>
            cases k8
            obtain rfl := dp_int k3
            obtain rfl := dp_int k5
            obtain rfl := dp_int k7
            exact ⟨q, rfl, k1⟩
theorem Tris.len {K : PySem.W.Frag} {H : Hp} : ∀ {xs : List V} {ps : List (Int × Int × Int)}, Tris K H xs ps → xs.length = ps.length
  | _, _, .nil => rfl
  | _, _, .cons _ t => congrArg (· + 1) (Tris.len t)
theorem Tris.get {K : PySem.W.Frag} {H : Hp} : ∀ {xs : List V} {ps : List (Int × Int × Int)} {i : Nat} {x : V}, Tris K H xs ps → xs[i]? = some x → ∃ p, ps[i]? = some p ∧ Tri K H x p
  | _, _, _, _, .nil, e => by simp at e
  | _, _, 0, x, .cons h _, e => by
    simp at e; subst e
    exact ⟨_, rfl, h⟩
  | _, _, i + 1, x, .cons _ t, e => by
    obtain ⟨p, h1, h2⟩ := Tris.get (i := i) t (by simpa using e)
    exact ⟨p, by simpa using h1, h2⟩
theorem Tris.mem {K : PySem.W.Frag} {H : Hp} {xs : List V} {ps : List (Int × Int × Int)} (h : Tris K H xs ps) {x : V} (hx : x ∈ xs) : ∃ p ∈ ps, Tri K H x p := by
  obtain ⟨i, hi⟩ := List.mem_iff_getElem?.mp hx
  obtain ⟨p, h1, h2⟩ := Tris.get h hi
  exact ⟨p, List.mem_of_getElem? h1, h2⟩
theorem Tri.nm {K : PySem.W.Frag} {H : Hp} {x : V} {p : Int × Int × Int} (h : Tri K H x p) : Nm K H x := by
  obtain ⟨q, rfl, h⟩ := h
  refine ⟨tri p, .tup h (.cons (.int _) (.cons (.int _) (.cons (.int _) .nil))), ?_, ?_⟩
  · simp only [tri, numD, numAll, Bool.and_self]
  · simp only [tri, depth_tuple, PyData.depthAll, PyData.depth]; omega
/-- the order of triples -/
def triLe : (Int × Int × Int) → (Int × Int × Int) → Bool := PySem.W.dataLe false tri
def rSortTri (K : PySem.W.Frag) : List V → Hp → VK → Prop := fun vs H Q => ∃ (a : Addr) (xs : List V) (ps : List (Int × Int × Int)), vs = [.ref a] ∧ SqL K H a xs ∧ Tris K H xs ps ∧ ps.length ≤ 1000 ∧
  ∀ (ys : List V) (p : Addr), Tris K H ys (ps.mergeSort triLe) → H p = none → Q (.ref p) (upd H p (.lst ys))
section
variable {X : Cx}
theorem tri_vals {K : PySem.W.Frag} {H : Hp} : ∀ {us : List Value} {ps : List (Int × Int × Int)}, PySem.W.EachIs (fun u p => ∃ q, u = Value.ref q ∧ Tri K H (.ref q) p) us ps → ∃ ys, Vals ys us ∧ Tris K H ys ps
  | _, _, .nil => ⟨[], .nil, .nil⟩
  | _, _, .cons h t => by
    obtain ⟨ys, h1, h2⟩ := tri_vals t
    obtain ⟨q, rfl, h⟩ := h
    exact ⟨.ref q :: ys, .cons rfl h1, .cons h h2⟩
theorem vals_tri {K : PySem.W.Frag} {H : Hp} : ∀ {us : List Value} {xs : List V} {ps : List (Int × Int × Int)}, Vals xs us → Tris K H xs ps → PySem.W.EachIs (fun u p => ∃ q, u = Value.ref q ∧ Tri K H (.ref q) p) us ps
  | _, _, _, .nil, h => by cases h; exact .nil
  | _, _, _, .cons r rr, h => by
    cases h with
    | cons h1 h2 =>
      obtain ⟨q, rfl, h1⟩ := h1
      cases r
      exact .cons ⟨q, rfl, q, rfl, h1⟩ (vals_tri rr h2)
theorem tri_reads {H : Hp} {s : Shared} {pins : List (Addr × Obj)} {σ : L2.St} (I : Inv X pins σ H s) : ∀ {us : List Value} {ps : List (Int × Int × Int)}, PySem.W.EachIs (fun u p => ∃ q, u = Value.ref q ∧ Tri X.K H (.ref q) p) us ps → PySem.W.EachIs (fun v b => ∃ as, Reads s.heap v (tri b) as) us ps
  | _, _, .nil => .nil
  | _, _, .cons h t => by
    obtain ⟨q, rfl, q2, e, h⟩ := h
    cases e
    exact .cons (Dp.reads I _ _ _ (.tup h (.cons (.int _) (.cons (.int _) (.cons (.int _) .nil)))) rfl) (tri_reads I t)
theorem cr_sortTri (hu : X.A.units + 70 < cLine) : CallR X (.builtin "sorted") (rSortTri X.K) := by
  intro pins s σ H vs us Q I r h
  obtain ⟨a, xs, ps, rfl, hs, ht, h64, q⟩ := h
  obtain ⟨its, rv, hl, hz⟩ := I.list hs
  rw [Vals.ref1 r]
  have e := vals_tri rv ht
  refine PySem.W.sorted_data (R := fun u p => ∃ q, u = Value.ref q ∧ Tri X.K H (.ref q) p) (enc := tri) (bs := ps) hl.isList e (tri_reads I e) ?_ ?_ (by rw [sizeLine_eq]; omega) (fun b _ => ?_) fun out ho eo => ?_
  · refine PySem.W.AllAlike.of fun b b' => ?_
    simp only [tri, PySem.W.alike, PySem.W.alikeAll, Bool.and_self]
  · exact PySem.W.Sortable.tuples fun b => ⟨_, _, rfl⟩
  · simp only [tri, depth_tuple, PyData.depthAll, PyData.depth]; omega
  · obtain ⟨ys, vy, ty⟩ := tri_vals eo
    obtain ⟨ep, he'⟩ := PyProof.Rows.sortedAll_at s.heap its out.toArray
    have hlen : ys.length ≤ sizeLine := by
      rw [Tris.len ty, List.length_mergeSort, sizeLine_eq]; omega
    exact ⟨.ref _, upd H (s.heap.objs.size + 1) (.lst ys), I.laid (t' := s.toks) (fun _ _ => PyProof.Rows.sortedAll_old) (Nat.le_succ _) ⟨hlen, out, ep, vy, he'⟩, rfl, q ys _ ty (I.hok.fresh (Nat.le_succ _))⟩
end
theorem g_gsub {to ti : TE} {t : TSet} {v : V} {σ : L2.St} {H : Hp} {Q : L2.St → Hp → Prop} (q : to σ H fun o H1 => ti σ H1 fun i H2 => t o i v H2 fun H3 => Q σ H3) : gSub to ti t v σ H Q := q
end SC
namespace SC
open PySem PySem.Spec PyProof.Rows L2 StrLaws

/-! ## name = {k: v for .. if ..} is served by pe_dc; its reading -/
theorem g_dc {wi : TI} {g : TG} {tt : TT} {tk tv : TE} {vs : List Nat} {σ : L2.St} {H : Hp} {Q : VK} (q : wi σ H fun J H1 => ∀ D, H1 D = none → ∃ W : Nat → Nat → Hp → Prop, (∃ m, W 0 m (upd H1 D (.dK []))) ∧ ∀ i m H, W i m H →
  (J.stop i H ∧ Q (.ref D) H) ∨ (J.go i H ∧ ∃ Nx : Hp → Prop, (∀ H', Nx H' → ∃ m', m' < m ∧ W (i + 1) m' H') ∧ ∀ x H', J.yld i H x H' → g x (wipe σ vs) H' fun σ2 H2 => wipe σ2 vs = wipe σ vs ∧ tt σ2 H2 fun b H3 =>
    if b = true then tk σ2 H3 fun y H4 => tv σ2 H4 fun z H5 => ∃ kvs k, y = kV k ∧ H5 D = some (.dK kvs) ∧ kvs.length < sizeLine ∧ Nx (upd H5 D (.dK (putK kvs k z))) else Nx H3)) : tDc wi g tt tk tv vs σ H Q := q
theorem dc_L {K : PySem.W.Frag} {a : Addr} {xs : List V} {g : TG} {tt : TT} {tk tv : TE} {vs : List Nat} {σ : L2.St} {H1 : Hp} {D : Addr} {Qd : Hp → Prop} (Pv : Nat → Hp → Prop) (h0 : Pv 0 (upd H1 D (.dK []))) (hl : ∀ i H, Pv i H → SqL K H a xs)
    (hs : ∀ i x H, xs[i]? = some x → Pv i H → g x (wipe σ vs) H fun σ2 H2 => wipe σ2 vs = wipe σ vs ∧ tt σ2 H2 fun b H3 =>
      if b = true then tk σ2 H3 fun y H4 => tv σ2 H4 fun z H5 => ∃ kvs k, y = kV k ∧ H5 D = some (.dK kvs) ∧ kvs.length < sizeLine ∧ Pv (i + 1) (upd H5 D (.dK (putK kvs k z))) else Pv (i + 1) H3) (hd : ∀ H, Pv xs.length H → Qd H) :
    ∃ W : Nat → Nat → Hp → Prop, (∃ m, W 0 m (upd H1 D (.dK []))) ∧ ∀ i m H, W i m H →
      ((Itl K a).stop i H ∧ Qd H) ∨ ((Itl K a).go i H ∧ ∃ Nx : Hp → Prop, (∀ H', Nx H' → ∃ m', m' < m ∧ W (i + 1) m' H') ∧ ∀ x H', (Itl K a).yld i H x H' → g x (wipe σ vs) H' fun σ2 H2 => wipe σ2 vs = wipe σ vs ∧ tt σ2 H2 fun b H3 =>
        if b = true then tk σ2 H3 fun y H4 => tv σ2 H4 fun z H5 => ∃ kvs k, y = kV k ∧ H5 D = some (.dK kvs) ∧ kvs.length < sizeLine ∧ Nx (upd H5 D (.dK (putK kvs k z))) else Nx H3) := by
  refine ⟨fun i m H => i + m = xs.length ∧ Pv i H, ⟨xs.length, Nat.zero_add _, h0⟩, fun i m H ⟨e, p⟩ => ?_⟩
  have q := hl i H p
  cases m with
  | zero =>
    obtain rfl : i = xs.length := by omega
    exact .inl ⟨⟨xs, q, Nat.le_refl _⟩, hd H p⟩
  | succ m =>
    have hlt : i < xs.length := by omega
    refine .inr ⟨⟨xs, xs[i], q, List.getElem?_eq_getElem hlt⟩, Pv (i + 1), fun H' p' => ⟨m, by omega, by omega, p'⟩, fun x H' y => ?_⟩
    obtain ⟨rfl, y⟩ := y
    exact hs i x _ (y xs q) p

/-! ## all things with their shares -/
mutual
def Th.tws (a b : Int) : Th → List (Th × Int × Int)
  | .inp i => [(.inp i, a, b)]
  | .st n c ps => (.st n c ps, a, b) :: twsL a (b * n) ps
def twsL (a b : Int) : List (Int × Th) → List (Th × Int × Int)
  | [] => []
  | (w, t) :: q => t.tws (a * w) b ++ twsL a b q
end
def twSt : Th × Int × Int → Option (Int × Int)
  | (.inp _, _) => none
  | (.st _ _ _, s) => some s
def twIn : Th × Int × Int → Option (Int × Int × Int)
  | (.inp i, s) => some (i, s)
  | (.st _ _ _, _) => none
theorem twsL_app (a b : Int) : ∀ p q : List (Int × Th), twsL a b (p ++ q) = twsL a b p ++ twsL a b q
  | [], q => by simp [twsL]
  | (w, t) :: p, q => by simp only [List.cons_append, twsL, twsL_app a b p q, List.append_assoc]
theorem twsL_take {a b : Int} {ps : List (Int × Th)} {i : Nat} {w : Int} {t : Th} (h : ps[i]? = some (w, t)) : twsL a b (ps.take (i + 1)) = twsL a b (ps.take i) ++ t.tws (a * w) b := by
  rw [take_one h, twsL_app]
  simp only [twsL, List.append_nil]
mutual
theorem tws_len : ∀ (t : Th) (a b : Int), (t.tws a b).length = t.nIn + t.nSt
  | .inp _, _, _ => by simp only [Th.tws, Th.nIn, Th.nSt, List.length_singleton]
  | .st n c ps, a, b => by simp only [Th.tws, Th.nIn, Th.nSt, List.length_cons, twsL_len ps]; omega
theorem twsL_len : ∀ (ps : List (Int × Th)) (a b : Int), (twsL a b ps).length = nInL ps + nStL ps
  | [], _, _ => by simp only [twsL, nInL, nStL, List.length_nil]
  | (w, t) :: q, a, b => by simp only [twsL, nInL, nStL, List.length_append, tws_len t, twsL_len q]; omega
end
mutual
theorem tws_sh : ∀ (t : Th) (a b : Int), (t.tws a b).filterMap twSt = t.sh a b
  | .inp _, _, _ => by simp only [Th.tws, Th.sh, List.filterMap_cons, twSt, List.filterMap_nil]
  | .st n c ps, a, b => by simp only [Th.tws, Th.sh, List.filterMap_cons, twSt, twsL_sh ps]
theorem twsL_sh : ∀ (ps : List (Int × Th)) (a b : Int), (twsL a b ps).filterMap twSt = shL a b ps
  | [], _, _ => by simp only [twsL, shL, List.filterMap_nil]
  | (w, t) :: q, a, b => by simp only [twsL, shL, List.filterMap_append, tws_sh t, twsL_sh q]
end
mutual
theorem tws_fm : ∀ (t : Th) (a b : Int), (t.tws a b).filterMap twIn = t.fm a b
  | .inp _, _, _ => by simp only [Th.tws, Th.fm, List.filterMap_cons, twIn, List.filterMap_nil]
  | .st n c ps, a, b => by simp only [Th.tws, Th.fm, List.filterMap_cons, twIn, twsL_fm ps]
theorem twsL_fm : ∀ (ps : List (Int × Th)) (a b : Int), (twsL a b ps).filterMap twIn = fmL a b ps
  | [], _, _ => by simp only [twsL, fmL, List.filterMap_nil]
  | (w, t) :: q, a, b => by simp only [twsL, fmL, List.filterMap_append, tws_fm t, twsL_fm q]
end

/-! ## the form in the order of the inputs -/
def trl (p : Int × Int × Int) : List Int := [p.1, p.2.1, p.2.2]
theorem triLe_eq (p q : Int × Int × Int) : triLe p q = decide (trl p ≤ trl q) := by
  have e : ∀ p : Int × Int × Int, tri p = .tuple ((trl p).map PyData.int) := fun p => rfl
  show (!PySem.W.dataLt (tri q) (tri p)) = _
  rw [e, e, PySem.W.dataLt_tuple]
  show (!PySem.W.rowLt ((trl q).map PyData.int) ((trl p).map PyData.int)) = _
  rw [PySem.W.dataLt_ints]
  by_cases h : trl q < trl p
  · have h2 : ¬ trl p ≤ trl q := fun z => z h
    simp [h, h2]
  · have h2 : trl p ≤ trl q := h
    simp [h, h2]
theorem triLe_fst {p q : Int × Int × Int} (h : triLe p q = true) : p.1 ≤ q.1 := by
  rw [triLe_eq, decide_eq_true_eq] at h
  refine Int.le_of_not_gt fun z => h ?_
  exact List.Lex.rel z
theorem srt_pair (ps : List (Int × Int × Int)) : (ps.mergeSort triLe).Pairwise (fun p q => triLe p q = true) := by
  refine List.pairwise_mergeSort (fun a b c h1 h2 => ?_) (fun a b => ?_) ps
  · rw [triLe_eq, decide_eq_true_eq] at h1 h2 ⊢
    exact List.le_trans h1 h2
  · rw [triLe_eq, triLe_eq, Bool.or_eq_true, decide_eq_true_eq, decide_eq_true_eq]
    exact List.le_total (trl a) (trl b)
theorem rngI_srt (n : Nat) : (rngI n).Pairwise (· ≤ ·) := by
  unfold rngI
  exact List.pairwise_map.mpr (List.pairwise_lt_range.imp fun h => Int.ofNat_le.mpr (Nat.le_of_lt h))
/-- the first items are 0, 1, .. -/
theorem srt_fst {t : Th} (pl : IsPlan t) : ((t.fm 1 1).mergeSort triLe).map (·.1) = rngI t.nIn := by
  have h1 := (List.mergeSort_perm (t.fm 1 1) triLe).map (·.1)
  rw [fm_ins] at h1
  refine List.Perm.eq_of_pairwise (le := (· ≤ ·)) (fun a b _ _ h1 h2 => Int.le_antisymm h1 h2) ?_ (rngI_srt _) (h1.trans pl.perm)
  exact List.pairwise_map.mpr ((srt_pair _).imp fun h => triLe_fst h)
theorem srt_len (t : Th) : ((t.fm 1 1).mergeSort triLe).length = t.nIn := by rw [List.length_mergeSort, form_len]
theorem srt_at {t : Th} (pl : IsPlan t) {i : Nat} (h : i < t.nIn) : ∃ A B, ((t.fm 1 1).mergeSort triLe)[i]? = some ((i : Int), A, B) ∧ ((i : Int), A, B) ∈ t.fm 1 1 := by
  have hl : i < ((t.fm 1 1).mergeSort triLe).length := by rw [srt_len]; exact h
  have e := congrArg (fun l => l[i]?) (srt_fst pl)
  simp only [List.getElem?_map, List.getElem?_eq_getElem hl, Option.map_some] at e
  have e2 : (rngI t.nIn)[i]? = some (i : Int) := by
    unfold rngI
    rw [List.getElem?_map, List.getElem?_range h]
    rfl
  rw [e2] at e
  have e3 := Option.some.inj e
  have hm := (List.mergeSort_perm (t.fm 1 1) triLe).mem_iff.mp (List.getElem_mem hl)
  obtain ⟨a, A, B⟩ : Int × Int × Int := ((t.fm 1 1).mergeSort triLe)[i]
  generalize hx : ((t.fm 1 1).mergeSort triLe)[i] = x at e3 hm
  obtain ⟨o, A, B⟩ := x
  simp only at e3
  subst e3
  exact ⟨A, B, by rw [List.getElem?_eq_getElem hl, hx], hm⟩
theorem fm_one {t : Th} (pl : IsPlan t) {o A B A' B' : Int} (h : (o, A, B) ∈ t.fm 1 1) (h' : (o, A', B') ∈ t.fm 1 1) : (A, B) = (A', B') := by
  have nd : ((t.fm 1 1).map (·.1)).Nodup := by
    rw [fm_ins]
    exact pl.perm.nodup_iff.mpr (by
      unfold rngI
      exact List.pairwise_map.mpr (List.nodup_range.imp fun h e => h (Int.ofNat.inj e)))
  generalize t.fm 1 1 = l at h h' nd
  induction l with
  | nil => cases h
  | cons p l ih =>
    rw [List.map_cons, List.nodup_cons] at nd
    rcases List.mem_cons.mp h with e | h
    · rcases List.mem_cons.mp h' with e' | h'
      · rw [← e] at e'
        exact (Prod.mk.inj e').2.symm
      · exact absurd (List.mem_map.mpr ⟨_, h', by rw [← e]⟩) nd.1
    · rcases List.mem_cons.mp h' with e' | h'
      · exact absurd (List.mem_map.mpr ⟨_, h, by rw [← e']⟩) nd.1
      · exact ih h h' nd.2

/-! ## the exact value by the form -/
def fsum (r : List Int) (W : Int) (l : List (Int × Int × Int)) : Int := (l.map fun p => rowAt r p.1 * p.2.1 * (W / p.2.2)).sum
theorem fsum_app (r : List Int) (W : Int) (a b : List (Int × Int × Int)) : fsum r W (a ++ b) = fsum r W a + fsum r W b := by
  unfold fsum
  rw [List.map_append, List.sum_append]
theorem fsum_perm {r : List Int} {W : Int} {a b : List (Int × Int × Int)} (h : a.Perm b) : fsum r W a = fsum r W b := by
  induction h with
  | nil => rfl
  | cons x _ ih =>
    unfold fsum at ih ⊢
    rw [List.map_cons, List.map_cons, List.sum_cons, List.sum_cons, ih]
  | swap x y l =>
    unfold fsum
    simp only [List.map_cons, List.sum_cons]
    omega
  | trans _ _ h1 h2 => exact h1.trans h2
mutual
theorem fsum_th (r : List Int) : ∀ (t : Th) (a b V : Int), t.good → 0 < b → fsum r (V * (b * (t.ex r).2)) (t.fm a b) = a * (t.ex r).1 * V
  | .inp i, a, b, V, _, hb => by
    unfold fsum
    simp only [Th.fm, Th.ex, List.map_cons, List.map_nil, List.sum_cons, List.sum_nil, Int.mul_one]
    rw [Int.mul_ediv_cancel _ (by omega), Int.mul_comm a]
    omega
  | .st n c ps, a, b, V, g, hb => by
    simp only [Th.good] at g
    have n1 := g.1.n1
    have ih := fsum_L r ps a (b * n) V g.2 (Int.mul_pos hb (by omega))
    simp only [Th.fm, Th.ex]
    have e1 : V * (b * ((exL r ps).2 * n)) = V * (b * n * (exL r ps).2) := by simp only [Int.mul_assoc, Int.mul_left_comm, Int.mul_comm]
    rw [e1, ih]
theorem fsum_L (r : List Int) : ∀ (ps : List (Int × Th)) (a b V : Int), goodL ps → 0 < b → fsum r (V * (b * (exL r ps).2)) (fmL a b ps) = a * (exL r ps).1 * V
  | [], a, b, V, _, _ => by simp [fsum, fmL, exL]
  | (w, t) :: q, a, b, V, g, hb => by
    simp only [goodL] at g
    have i1 := fsum_th r t (a * w) b (V * (exL r q).2) g.1 hb
    have i2 := fsum_L r q a b (V * (t.ex r).2) g.2 hb
    simp only [fmL, exL]
    rw [fsum_app]
    have e1 : V * (b * ((t.ex r).2 * (exL r q).2)) = V * (exL r q).2 * (b * (t.ex r).2) := by simp only [Int.mul_assoc, Int.mul_left_comm, Int.mul_comm]
    have e2 : V * (b * ((t.ex r).2 * (exL r q).2)) = V * (t.ex r).2 * (b * (exL r q).2) := by simp only [Int.mul_assoc, Int.mul_left_comm, Int.mul_comm]
    have s1 : fsum r (V * (b * ((t.ex r).2 * (exL r q).2))) (t.fm (a * w) b) = a * w * (t.ex r).1 * (V * (exL r q).2) := by rw [e1, i1]
    have s2 : fsum r (V * (b * ((t.ex r).2 * (exL r q).2))) (fmL a b q) = a * (exL r q).1 * (V * (t.ex r).2) := by rw [e2, i2]
    rw [s1, s2, Int.mul_add, Int.add_mul]
    have e3 : a * w * (t.ex r).1 * (V * (exL r q).2) = a * (w * (t.ex r).1 * (exL r q).2) * V := by simp only [Int.mul_assoc, Int.mul_left_comm, Int.mul_comm]
    have e4 : a * (exL r q).1 * (V * (t.ex r).2) = a * ((exL r q).1 * (t.ex r).2) * V := by simp only [Int.mul_assoc, Int.mul_left_comm, Int.mul_comm]
    rw [e3, e4]
end
theorem fsum_all {r : List Int} {t : Th} (g : t.good) : fsum r (t.ex r).2 ((t.fm 1 1).mergeSort triLe) = (t.ex r).1 := by
  rw [fsum_perm (List.mergeSort_perm (t.fm 1 1) triLe)]
  have := fsum_th r t 1 1 1 g (by decide)
  simpa only [Int.one_mul, Int.mul_one] using this
/-! ## the product of all divisors -/
def dvOf : List Int × Th → Int
  | (_, .inp _) => 1
  | (_, .st n _ _) => n
def prodI (l : List Int) : Int := l.foldl (· * ·) 1
theorem prodI_snoc (l : List Int) (x : Int) : prodI (l ++ [x]) = prodI l * x := by
  unfold prodI
  rw [List.foldl_append]
  rfl
theorem prod_fold : ∀ (l : List Int) (a : Int), l.foldl (· * ·) a = a * prodI l
  | [], a => by simp [prodI]
  | x :: l, a => by
    unfold prodI
    rw [List.foldl_cons, List.foldl_cons, prod_fold l (a * x), prod_fold l (1 * x), Int.one_mul, Int.mul_assoc]
theorem prodI_cons (x : Int) (l : List Int) : prodI (x :: l) = x * prodI l := by
  unfold prodI
  rw [List.foldl_cons, prod_fold l (1 * x), Int.one_mul]
  rfl
theorem prodI_app (a b : List Int) : prodI (a ++ b) = prodI a * prodI b := by
  unfold prodI
  rw [List.foldl_append, prod_fold b]
  rfl
mutual
theorem things_prod (r : List Int) : ∀ (t : Th) (w : List Int), prodI ((t.things w).map dvOf) = (t.ex r).2
  | .inp _, _ => by simp only [Th.things, Th.ex, List.map_cons, List.map_nil, dvOf, prodI_cons]; rfl
  | .st n c ps, w => by
    simp only [Th.things, Th.ex, List.map_cons, dvOf, prodI_cons, thingsAt_prod r ps w 0]
    exact Int.mul_comm _ _
theorem thingsAt_prod (r : List Int) : ∀ (ps : List (Int × Th)) (w : List Int) (k : Nat), prodI ((thingsAt ps w k).map dvOf) = (exL r ps).2
  | [], _, _ => by simp only [thingsAt, exL, List.map_nil]; rfl
  | (_, t) :: q, w, k => by simp only [thingsAt, exL, List.map_append, prodI_app, things_prod r t, thingsAt_prod r q]
end
theorem prodI_le {l : List Int} (h : ∀ x ∈ l, x.natAbs ≤ 2 ^ 100) : (prodI l).natAbs ≤ 2 ^ (100 * l.length) := by
  induction l with
  | nil => simp [prodI]
  | cons x l ih =>
    rw [prodI_cons, List.length_cons, Nat.mul_succ, Nat.add_comm]
    exact big_prod (h x (List.mem_cons_self ..)) (ih fun y hy => h y (List.mem_cons_of_mem _ hy))
/-! offsets don't matter -/
mutual
theorem bare_ex (r : List Int) : ∀ t : Th, t.bare.ex r = t.ex r
  | .inp _ => by simp only [Th.bare]
  | .st n c ps => by simp only [Th.bare, Th.ex, bareL_ex r ps]
theorem bareL_ex (r : List Int) : ∀ ps : List (Int × Th), exL r (bareL ps) = exL r ps
  | [] => by simp only [bareL]
  | (w, t) :: q => by simp only [bareL, exL, bare_ex r t, bareL_ex r q]
end
mutual
theorem bare_sh : ∀ (t : Th) (a b : Int), t.bare.sh a b = t.sh a b
  | .inp _, _, _ => by simp only [Th.bare]
  | .st n c ps, a, b => by simp only [Th.bare, Th.sh, bareL_sh ps]
theorem bareL_sh : ∀ (ps : List (Int × Th)) (a b : Int), shL a b (bareL ps) = shL a b ps
  | [], _, _ => by simp only [bareL]
  | (w, t) :: q, a, b => by simp only [bareL, shL, bare_sh t, bareL_sh q]
end
mutual
theorem bare_fm : ∀ (t : Th) (a b : Int), t.bare.fm a b = t.fm a b
  | .inp _, _, _ => by simp only [Th.bare]
  | .st n c ps, a, b => by simp only [Th.bare, Th.fm, bareL_fm ps]
theorem bareL_fm : ∀ (ps : List (Int × Th)) (a b : Int), fmL a b (bareL ps) = fmL a b ps
  | [], _, _ => by simp only [bareL]
  | (w, t) :: q, a, b => by simp only [bareL, fmL, bare_fm t, bareL_fm q]
end
theorem alike_bare {t u : Th} (h : t.bare = u.bare) : (∀ r, t.ex r = u.ex r) ∧ t.sh 1 1 = u.sh 1 1 ∧ t.fm 1 1 = u.fm 1 1 :=
  ⟨fun r => by rw [← bare_ex r t, h, bare_ex r u], by rw [← bare_sh t, h, bare_sh u], by rw [← bare_fm t, h, bare_fm u]⟩
end SC
namespace SC
open PySem PySem.Spec PyProof.Rows L2 StrLaws

/-! ## the bag of draws -/
abbrev bkv (gr : Addr) (mx tn : Int) : List (L2.Key × V) := [(.inr ("great" : Str), .ref gr), (.inr ("mixed" : Str), .int mx), (.inr ("turn" : Str), .int tn)]
theorem bk_great {gr : Addr} {mx tn : Int} : valV (bkv gr mx tn) (.inr ("great" : Str)) = some (.ref gr) := by rfl
theorem bk_mixed {gr : Addr} {mx tn : Int} : valV (bkv gr mx tn) (.inr ("mixed" : Str)) = some (.int mx) := by rfl
theorem bk_turn {gr : Addr} {mx tn : Int} : valV (bkv gr mx tn) (.inr ("turn" : Str)) = some (.int tn) := by rfl
theorem bk_pturn {gr : Addr} {mx tn z : Int} : putK (bkv gr mx tn) (.inr ("turn" : Str)) (.int z) = bkv gr mx z := by rfl
structure BagAt (H : Hp) (dk gr : Addr) (gs : List Int) (mx tn : Int) : Prop where
  d : H dk = some (.dK (bkv gr mx tn))
  g : H gr = some (.lst (gs.map V.int))
  few : gs.length ≤ 63
  mx0 : 0 ≤ mx
  mx1 : mx < 2147483647
def Bag (H : Hp) (dk gr : Addr) : Prop := ∃ gs mx tn, BagAt H dk gr gs mx tn
theorem bag_nt {H : Hp} {dk gr : Addr} (d : Bag H dk gr) : ∀ a ∈ [dk, gr], ∀ o, H a = some o → isT o = false := by
  obtain ⟨gs, mx, tn, d⟩ := d
  intro a ha o e
  rcases List.mem_cons.mp ha with z | z
  · rw [z, d.d] at e; cases e; rfl
  · rw [List.mem_singleton.mp z, d.g] at e; cases e; rfl
theorem ts_bag {H H' : Hp} {dk gr : Addr} (d : Bag H dk gr) (s : Same (hid [dk, gr] H) (hid [dk, gr] H')) : TSame H H' := ts_hid (bag_nt d) s
theorem bag_some {H : Hp} {dk gr : Addr} (d : Bag H dk gr) : ∀ a ∈ [dk, gr], (H a).isSome = true := by
  obtain ⟨gs, mx, tn, d⟩ := d
  intro a ha
  rcases List.mem_cons.mp ha with e | e
  · rw [e, d.d]; rfl
  · rw [List.mem_singleton.mp e, d.g]; rfl
end SC
namespace SC
open PySem PySem.Spec PyProof.Rows L2 StrLaws

/-! ## stages with their shares; the errors by rests -/
mutual
/-- bounds alone -/
def Th.fit : Th → Prop
  | .inp _ => True
  | .st n c ps => 1 ≤ n ∧ n ≤ 10 ^ 30 ∧ 0 ≤ c ∧ c < n ∧ fitL ps
def fitL : List (Int × Th) → Prop
  | [] => True
  | (w, t) :: q => w.natAbs ≤ ZN ∧ t.fit ∧ fitL q
end
theorem fitL_iff : ∀ {ps : List (Int × Th)}, fitL ps ↔ ∀ p ∈ ps, p.1.natAbs ≤ ZN ∧ p.2.fit
  | [] => by simp [fitL]
  | (w, t) :: q => by simp only [fitL, List.forall_mem_cons, fitL_iff (ps := q), and_assoc]
mutual
theorem fit_good : ∀ t : Th, t.good → t.fit
  | .inp _, _ => by simp only [Th.fit]
  | .st n c ps, g => by
    simp only [Th.good] at g
    simp only [Th.fit]
    exact ⟨g.1.n1, g.1.n2, g.1.c0, g.1.c1, fitL_iff.mpr fun p hp => ⟨(g.1.ws.nz p.1 (List.mem_map.mpr ⟨p, hp, rfl⟩)).2, fitL_good ps g.2 p hp⟩⟩
theorem fitL_good : ∀ ps : List (Int × Th), goodL ps → ∀ p ∈ ps, p.2.fit
  | [], _, p, h => by cases h
  | (w, t) :: q, g, p, h => by
    simp only [goodL] at g
    rcases List.mem_cons.mp h with e | h
    · rw [e]; exact fit_good t g.1
    · exact fitL_good q g.2 p h
end
mutual
/-- the product of all divisors -/
def Th.pr : Th → Int
  | .inp _ => 1
  | .st n _ ps => n * prL ps
def prL : List (Int × Th) → Int
  | [] => 1
  | (_, t) :: q => t.pr * prL q
end
mutual
theorem pr_pos : ∀ t : Th, t.fit → 0 < t.pr
  | .inp _, _ => by simp only [Th.pr]; omega
  | .st n c ps, g => by
    simp only [Th.fit] at g
    simp only [Th.pr]
    exact Int.mul_pos (by omega) (prL_pos ps g.2.2.2.2)
theorem prL_pos : ∀ ps : List (Int × Th), fitL ps → 0 < prL ps
  | [], _ => by simp only [prL]; omega
  | (w, t) :: q, g => by
    simp only [fitL] at g
    simp only [prL]
    exact Int.mul_pos (pr_pos t g.2.1) (prL_pos q g.2.2)
end
theorem zn_int {n : Int} (h1 : 1 ≤ n) (h2 : n ≤ 10 ^ 30) : n.natAbs ≤ ZN := nat30 (by omega) h2
mutual
theorem pr_le : ∀ t : Th, t.fit → t.pr.natAbs ≤ ZN ^ t.nSt
  | .inp _, _ => by simp only [Th.pr, Th.nSt]; decide
  | .st n c ps, g => by
    simp only [Th.fit] at g
    simp only [Th.pr, Th.nSt]
    rw [Int.natAbs_mul, Nat.pow_succ, Nat.mul_comm]
    exact Nat.mul_le_mul (prL_le ps g.2.2.2.2) (zn_int g.1 g.2.1)
theorem prL_le : ∀ ps : List (Int × Th), fitL ps → (prL ps).natAbs ≤ ZN ^ nStL ps
  | [], _ => by simp only [prL, nStL]; decide
  | (w, t) :: q, g => by
    simp only [fitL] at g
    simp only [prL, nStL]
    rw [Int.natAbs_mul, Nat.pow_add]
    exact Nat.mul_le_mul (pr_le t g.2.1) (prL_le q g.2.2)
end
/-- high, low, divisor, offset -/
abbrev Q4 := Int × Int × Int × Int
mutual
def Th.sq (a b : Int) : Th → List Q4
  | .inp _ => []
  | .st n c ps => (a, b, n, c) :: sqL a (b * n) ps
def sqL (a b : Int) : List (Int × Th) → List Q4
  | [] => []
  | (w, t) :: q => t.sq (a * w) b ++ sqL a b q
end
mutual
theorem sq_len : ∀ (t : Th) (a b : Int), (t.sq a b).length = t.nSt
  | .inp _, _, _ => by simp only [Th.sq, Th.nSt, List.length_nil]
  | .st n c ps, a, b => by simp only [Th.sq, Th.nSt, List.length_cons, sqL_len ps]
theorem sqL_len : ∀ (ps : List (Int × Th)) (a b : Int), (sqL a b ps).length = nStL ps
  | [], _, _ => by simp only [sqL, nStL, List.length_nil]
  | (w, t) :: q, a, b => by simp only [sqL, nStL, List.length_append, sq_len t, sqL_len q]
end
def twQ : Th × Int × Int → Option Q4
  | (.inp _, _) => none
  | (.st n c _, a, b) => some (a, b, n, c)
mutual
theorem tws_sq : ∀ (t : Th) (a b : Int), (t.tws a b).filterMap twQ = t.sq a b
  | .inp _, _, _ => by simp only [Th.tws, Th.sq, List.filterMap_cons, twQ, List.filterMap_nil]
  | .st n c ps, a, b => by simp only [Th.tws, Th.sq, List.filterMap_cons, twQ, twsL_sq ps]
theorem twsL_sq : ∀ (ps : List (Int × Th)) (a b : Int), (twsL a b ps).filterMap twQ = sqL a b ps
  | [], _, _ => by simp only [twsL, sqL, List.filterMap_nil]
  | (w, t) :: q, a, b => by simp only [twsL, sqL, List.filterMap_append, tws_sq t, twsL_sq q]
end
structure Q4Ok (p : Q4) (W : Int) : Prop where
  low : 0 < p.2.1
  n1 : 1 ≤ p.2.2.1
  n2 : p.2.2.1 ≤ 10 ^ 30
  c0 : 0 ≤ p.2.2.2
  c1 : p.2.2.2 < p.2.2.1
  dv : p.2.1 * p.2.2.1 ∣ W
mutual
theorem sq_ok : ∀ (t : Th) (a b : Int), t.fit → 0 < b → ∀ p ∈ t.sq a b, Q4Ok p (b * t.pr)
  | .inp _, _, _, _, _, p, h => by simp [Th.sq] at h
  | .st n c ps, a, b, g, hb, p, h => by
    simp only [Th.fit] at g
    simp only [Th.sq, List.mem_cons] at h
    simp only [Th.pr]
    rcases h with rfl | h
    · exact ⟨hb, g.1, g.2.1, g.2.2.1, g.2.2.2.1, ⟨prL ps, by simp only [Int.mul_assoc]⟩⟩
    · have := sqL_ok ps a (b * n) g.2.2.2.2 (Int.mul_pos hb (by omega)) p h
      rw [Int.mul_assoc] at this
      exact this
theorem sqL_ok : ∀ (ps : List (Int × Th)) (a b : Int), fitL ps → 0 < b → ∀ p ∈ sqL a b ps, Q4Ok p (b * prL ps)
  | [], _, _, _, _, p, h => by simp [sqL] at h
  | (w, t) :: q, a, b, g, hb, p, h => by
    simp only [fitL] at g
    simp only [sqL, List.mem_append] at h
    simp only [prL]
    rcases h with h | h
    · have z := sq_ok t (a * w) b g.2.1 hb p h
      exact ⟨z.low, z.n1, z.n2, z.c0, z.c1, Int.dvd_trans z.dv ⟨prL q, by rw [Int.mul_assoc]⟩⟩
    · have z := sqL_ok q a b g.2.2 hb p h
      exact ⟨z.low, z.n1, z.n2, z.c0, z.c1, Int.dvd_trans z.dv ⟨t.pr, by rw [Int.mul_assoc, Int.mul_comm t.pr]⟩⟩
end
mutual
theorem sq_le : ∀ (t : Th) (a b : Int) (A : Nat), t.fit → a.natAbs ≤ A → b.natAbs ≤ A → ∀ p ∈ t.sq a b, p.1.natAbs ≤ A * ZN ^ t.dep ∧ p.2.1.natAbs ≤ A * ZN ^ t.dep
  | .inp _, _, _, _, _, _, _, p, h => by simp [Th.sq] at h
  | .st n c ps, a, b, A, g, h1, h2, p, h => by
    simp only [Th.fit] at g
    simp only [Th.sq, List.mem_cons] at h
    simp only [Th.dep]
    rcases h with rfl | h
    · have k : A ≤ A * ZN ^ (depL ps + 1) := Nat.le_mul_of_pos_right _ (znpos _)
      exact ⟨Nat.le_trans h1 k, Nat.le_trans h2 k⟩
    · have hbn : (b * n).natAbs ≤ A * ZN := by rw [Int.natAbs_mul]; exact Nat.mul_le_mul h2 (zn_int g.1 g.2.1)
      have := sqL_le ps a (b * n) A g.2.2.2.2 h1 hbn p h
      rw [Nat.pow_succ, Nat.mul_comm (ZN ^ depL ps), ← Nat.mul_assoc]
      exact this
theorem sqL_le : ∀ (ps : List (Int × Th)) (a b : Int) (A : Nat), fitL ps → a.natAbs ≤ A → b.natAbs ≤ A * ZN → ∀ p ∈ sqL a b ps, p.1.natAbs ≤ A * ZN * ZN ^ depL ps ∧ p.2.1.natAbs ≤ A * ZN * ZN ^ depL ps
  | [], _, _, _, _, _, _, p, h => by simp [sqL] at h
  | (w, t) :: q, a, b, A, g, h1, h2, p, h => by
    simp only [fitL] at g
    simp only [sqL, List.mem_append] at h
    simp only [depL]
    rcases h with h | h
    · have haw : (a * w).natAbs ≤ A * ZN := by rw [Int.natAbs_mul]; exact Nat.mul_le_mul h1 g.1
      have z := sq_le t (a * w) b (A * ZN) g.2.1 haw h2 p h
      have e : A * ZN * ZN ^ t.dep ≤ A * ZN * ZN ^ max t.dep (depL q) := Nat.mul_le_mul_left _ (Nat.pow_le_pow_right (by decide) (Nat.le_max_left _ _))
      exact ⟨Nat.le_trans z.1 e, Nat.le_trans z.2 e⟩
    · have z := sqL_le q a b A g.2.2 h1 h2 p h
      have e : A * ZN * ZN ^ depL q ≤ A * ZN * ZN ^ max t.dep (depL q) := Nat.mul_le_mul_left _ (Nat.pow_le_pow_right (by decide) (Nat.le_max_right _ _))
      exact ⟨Nat.le_trans z.1 e, Nat.le_trans z.2 e⟩
end

/-! ## sums over one denominator -/
theorem add_lst {S W x y : Int} (hW : 0 < W) (hy : 0 < y) (hd : y ∣ W) : addF (lst S W) (lst x y) = lst (S + x * (W / y)) W := by
  obtain ⟨k, rfl⟩ := hd
  unfold addF
  rw [lst_sum hW hy, Int.mul_ediv_cancel_left _ (by omega)]
  have e1 : S * y + x * (y * k) = (S + x * k) * y := by rw [Int.add_mul, Int.mul_comm y k, Int.mul_assoc]
  rw [e1, lst_scale hW hy]
/-- the error over W -/
def slipS (W : Int) : List Q4 → List Int → Int
  | p :: ps, r :: rs => p.1 * (p.2.2.2 - r) * (W / (p.2.1 * p.2.2.1)) + slipS W ps rs
  | _, _ => 0
theorem slipS_snoc (W : Int) (p : Q4) (r : Int) : ∀ (ps : List Q4) (rs : List Int), ps.length = rs.length → slipS W (ps ++ [p]) (rs ++ [r]) = slipS W ps rs + p.1 * (p.2.2.2 - r) * (W / (p.2.1 * p.2.2.1))
  | [], [], _ => by simp [slipS]
  | q :: ps, s :: rs, h => by
    simp only [List.cons_append, slipS]
    rw [slipS_snoc W p r ps rs (by simpa using h)]
    omega
  | [], _ :: _, h => by simp at h
  | _ :: _, [], h => by simp at h
theorem slipS_take {W : Int} {ps : List Q4} {rs : List Int} {i : Nat} {p : Q4} {r : Int} (h1 : ps[i]? = some p) (h2 : rs[i]? = some r) :
    slipS W (ps.take (i + 1)) (rs.take (i + 1)) = slipS W (ps.take i) (rs.take i) + p.1 * (p.2.2.2 - r) * (W / (p.2.1 * p.2.2.1)) := by
  have l1 : i < ps.length := (List.getElem?_eq_some_iff.mp h1).1
  have l2 : i < rs.length := (List.getElem?_eq_some_iff.mp h2).1
  rw [take_one h1, take_one h2, slipS_snoc]
  rw [List.length_take, List.length_take]; omega
/-- the program's fractions -/
def slipFs (ps : List Q4) (rs : List Int) : List (Int × Int) := (ps.zip rs).map fun z => lst (z.1.1 * (z.1.2.2.2 - z.2)) (z.1.2.1 * z.1.2.2.1)
theorem slipFs_at {ps : List Q4} {rs : List Int} {i : Nat} {p : Q4} {r : Int} (h1 : ps[i]? = some p) (h2 : rs[i]? = some r) : (slipFs ps rs)[i]? = some (lst (p.1 * (p.2.2.2 - r)) (p.2.1 * p.2.2.1)) := by
  unfold slipFs
  rw [List.getElem?_map, (List.getElem?_zip_eq_some (z := (p, r))).mpr ⟨h1, h2⟩]
  rfl
theorem slip_sum {W : Int} (hW : 0 < W) {ps : List Q4} (hp : ∀ p ∈ ps, Q4Ok p W) {rs : List Int} (hl : ps.length = rs.length) : ∀ i, i ≤ ps.length → sumF ((slipFs ps rs).take i) = lst (slipS W (ps.take i) (rs.take i)) W
  | 0, _ => by
    simp only [List.take_zero, slipS]
    have e : (lst 0 W) = (0, 1) := by
      have := lst_scale (a := 0) (b := 1) (k := W) (by decide) hW
      rw [Int.zero_mul, Int.one_mul] at this
      rw [this]
      decide
    rw [e]
    rfl
  | i + 1, hi => by
    have h1 : ps[i]? = some ps[i] := List.getElem?_eq_getElem (by omega)
    have h2 : rs[i]? = some rs[i] := List.getElem?_eq_getElem (by omega)
    have ok := hp _ (List.getElem_mem (show i < ps.length by omega))
    have n1 := ok.n1
    rw [sumF_take (slipFs_at h1 h2), slip_sum hW hp hl i (by omega), add_lst hW (Int.mul_pos ok.low (by omega)) ok.dv, slipS_take h1 h2]
theorem slip_sum_all {W : Int} (hW : 0 < W) {ps : List Q4} (hp : ∀ p ∈ ps, Q4Ok p W) {rs : List Int} (hl : ps.length = rs.length) : sumF (slipFs ps rs) = lst (slipS W ps rs) W := by
  have := slip_sum hW hp hl ps.length (Nat.le_refl _)
  rw [List.take_length, show rs.take ps.length = rs by rw [hl, List.take_length]] at this
  rwa [List.take_of_length_le (by unfold slipFs; rw [List.length_map, List.length_zip]; omega)] at this
/-- the law's sum: all lower terms multiplied -/
def lawF (a : Int × Int) (z : Q4 × Int) : Int × Int := (a.1 * z.1.2.1 * z.1.2.2.1 + z.1.1 * (z.1.2.2.2 - z.2) * a.2, a.2 * z.1.2.1 * z.1.2.2.1)
def lawSum (ps : List Q4) (rs : List Int) : Int × Int := (ps.zip rs).foldl lawF (0, 1)
theorem lawSum_take {ps : List Q4} {rs : List Int} {i : Nat} {p : Q4} {r : Int} (h1 : ps[i]? = some p) (h2 : rs[i]? = some r) : lawSum (ps.take (i + 1)) (rs.take (i + 1)) = lawF (lawSum (ps.take i) (rs.take i)) (p, r) := by
  have l1 : i < ps.length := (List.getElem?_eq_some_iff.mp h1).1
  have l2 : i < rs.length := (List.getElem?_eq_some_iff.mp h2).1
  unfold lawSum
  rw [take_one h1, take_one h2, List.zip_append (by rw [List.length_take, List.length_take]; omega), List.foldl_append]
  rfl
theorem law_sum {W : Int} (hW : 0 < W) {ps : List Q4} (hp : ∀ p ∈ ps, Q4Ok p W) {rs : List Int} (hl : ps.length = rs.length) : ∀ i, i ≤ ps.length → 0 < (lawSum (ps.take i) (rs.take i)).2 ∧ lst (lawSum (ps.take i) (rs.take i)).1 (lawSum (ps.take i) (rs.take i)).2 = lst (slipS W (ps.take i) (rs.take i)) W
  | 0, _ => by
    refine ⟨by simp [lawSum], ?_⟩
    have := slip_sum hW hp hl 0 (Nat.zero_le _)
    rw [← this]
    simp only [List.take_zero, lawSum, List.zip_nil_left, List.foldl_nil, sumF]
    decide
  | i + 1, hi => by
    have h1 : ps[i]? = some ps[i] := List.getElem?_eq_getElem (by omega)
    have h2 : rs[i]? = some rs[i] := List.getElem?_eq_getElem (by omega)
    have ok := hp _ (List.getElem_mem (show i < ps.length by omega))
    have n1 := ok.n1
    have hy : 0 < ps[i].2.1 * ps[i].2.2.1 := Int.mul_pos ok.low (by omega)
    obtain ⟨i1, i2⟩ := law_sum hW hp hl i (by omega)
    rw [lawSum_take h1 h2, slipS_take h1 h2]
    generalize lawSum (ps.take i) (rs.take i) = a at i1 i2
    refine ⟨?_, ?_⟩
    · simp only [lawF]
      rw [Int.mul_assoc]
      exact Int.mul_pos i1 hy
    · rw [← add_lst hW hy ok.dv, ← i2]
      unfold addF
      rw [lst_sum i1 hy]
      simp only [lawF, Int.mul_assoc]
theorem law_sum_all {W : Int} (hW : 0 < W) {ps : List Q4} (hp : ∀ p ∈ ps, Q4Ok p W) {rs : List Int} (hl : ps.length = rs.length) : 0 < (lawSum ps rs).2 ∧ lst (lawSum ps rs).1 (lawSum ps rs).2 = lst (slipS W ps rs) W := by
  have := law_sum hW hp hl ps.length (Nat.le_refl _)
  rwa [List.take_length, show rs.take ps.length = rs by rw [hl, List.take_length]] at this

/-! ## the ends -/
def endR (g : Bool) (p : Q4) : Int := if decide (p.1 > 0) = g then 0 else p.2.2.1 - 1
def RestsOk (ps : List Q4) (rs : List Int) : Prop := ps.length = rs.length ∧ ∀ z ∈ ps.zip rs, 0 ≤ z.2 ∧ z.2 < z.1.2.2.1
theorem endR_ok {W : Int} {p : Q4} (h : Q4Ok p W) (g : Bool) : 0 ≤ endR g p ∧ endR g p < p.2.2.1 := by
  have := h.n1
  unfold endR
  split <;> omega
theorem end_le {W : Int} (hW : 0 < W) {p : Q4} (h : Q4Ok p W) {r : Int} (h0 : 0 ≤ r) (h1 : r < p.2.2.1) :
    p.1 * (p.2.2.2 - endR false p) * (W / (p.2.1 * p.2.2.1)) ≤ p.1 * (p.2.2.2 - r) * (W / (p.2.1 * p.2.2.1)) ∧ p.1 * (p.2.2.2 - r) * (W / (p.2.1 * p.2.2.1)) ≤ p.1 * (p.2.2.2 - endR true p) * (W / (p.2.1 * p.2.2.1)) := by
  have n1 := h.n1
  have k : 0 ≤ W / (p.2.1 * p.2.2.1) := Int.ediv_nonneg (by omega) (Int.le_of_lt (Int.mul_pos h.low (by omega)))
  generalize W / (p.2.1 * p.2.2.1) = d at k
  unfold endR
  by_cases hp : p.1 > 0
  · rw [decide_eq_true hp, if_neg (by decide), if_pos rfl]
    exact ⟨Int.mul_le_mul_of_nonneg_right (Int.mul_le_mul_of_nonneg_left (by omega) (by omega)) k, Int.mul_le_mul_of_nonneg_right (Int.mul_le_mul_of_nonneg_left (by omega) (by omega)) k⟩
  · rw [decide_eq_false hp, if_pos rfl, if_neg (by decide)]
    exact ⟨Int.mul_le_mul_of_nonneg_right (Int.mul_le_mul_of_nonpos_left (by omega) (by omega)) k, Int.mul_le_mul_of_nonneg_right (Int.mul_le_mul_of_nonpos_left (by omega) (by omega)) k⟩
theorem ends_le {W : Int} (hW : 0 < W) : ∀ {ps : List Q4}, (∀ p ∈ ps, Q4Ok p W) → ∀ {rs : List Int}, RestsOk ps rs → slipS W ps (ps.map (endR false)) ≤ slipS W ps rs ∧ slipS W ps rs ≤ slipS W ps (ps.map (endR true))
  | [], _, [], _ => by simp [slipS]
  | p :: ps, hp, r :: rs, h => by
    simp only [List.map_cons, slipS]
    obtain ⟨h1, h2⟩ := h
    have hr := h2 (p, r) (by simp [List.zip])
    obtain ⟨a1, a2⟩ := end_le hW (hp p (List.mem_cons_self ..)) hr.1 hr.2
    simp only at a1 a2
    obtain ⟨b1, b2⟩ := ends_le hW (ps := ps) (fun q hq => hp q (List.mem_cons_of_mem _ hq)) (rs := rs) ⟨by simpa using h1, fun z hz => h2 z (by simp only [List.zip_cons_cons, List.mem_cons]; exact .inr hz)⟩
    exact ⟨by omega, by omega⟩
  | [], _, _ :: _, h => by have := h.1; simp at this
  | _ :: _, _, [], h => by have := h.1; simp at this
theorem ends_ok {W : Int} : ∀ {ps : List Q4}, (∀ p ∈ ps, Q4Ok p W) → ∀ g, RestsOk ps (ps.map (endR g))
  | [], _, g => ⟨rfl, fun z hz => by simp at hz⟩
  | p :: ps, hp, g => by
    have ih := ends_ok (ps := ps) (fun q hq => hp q (List.mem_cons_of_mem _ hq)) g
    refine ⟨by simp, fun z hz => ?_⟩
    simp only [List.map_cons, List.zip_cons_cons, List.mem_cons] at hz
    rcases hz with rfl | hz
    · exact endR_ok (hp p (List.mem_cons_self ..)) g
    · exact ih.2 z hz
/-- fractions over one denominator compare as what is above -/
theorem lst_lt {a b W : Int} (hW : 0 < W) : (lst a W).1 * (lst b W).2 < (lst b W).1 * (lst a W).2 ↔ a < b := by
  have h1 := lst_cross a W
  have h2 := lst_cross b W
  have p1 := lst_pos (a := a) hW
  have p2 := lst_pos (a := b) hW
  generalize (lst a W).1 = x at *
  generalize (lst a W).2 = d at *
  generalize (lst b W).1 = y at *
  generalize (lst b W).2 = e at *
  have e1 : x * e * W = a * (d * e) := by rw [Int.mul_right_comm, h1, Int.mul_assoc]
  have e2 : y * d * W = b * (d * e) := by rw [Int.mul_right_comm, h2, Int.mul_assoc, Int.mul_comm e d]
  have de : 0 < d * e := Int.mul_pos p1 p2
  constructor
  · intro h
    have h3 : x * e * W < y * d * W := Int.mul_lt_mul_of_pos_right h hW
    rw [e1, e2] at h3
    exact Int.lt_of_mul_lt_mul_right h3 (Int.le_of_lt de)
  · intro h
    have h3 : a * (d * e) < b * (d * e) := Int.mul_lt_mul_of_pos_right h de
    rw [← e1, ← e2] at h3
    exact Int.lt_of_mul_lt_mul_right h3 (Int.le_of_lt hW)
end SC
/-! ## list(zip(xs, ys)), two lists -/
namespace ZL
open PySem
abbrev IsZipB (h : Heap) (z TI TO c : Addr) (b : Bool) : Prop :=
  h.get? z = some { cls := .type "zip", dict := none, data := .fields #[rawInt c, .bool b, .bool false, .ref TI, .ref TO], slots := #[] }
section
variable {prog : Program} {w : World} {A : Around} {E : Value → Shared → Prop} {s : Shared}
theorem wpAny_loadIfAlive {a : Addr} {Q : Option Obj → Shared → Prop} (h : Q (s.heap.get? a) s) : wpAny (model prog w) A (loadIfAlive a) Q E s := fun Γ p _ => by
  unfold loadIfAlive
  rw [Sem.wp_loadIfAlive]
  simpa using h
theorem not_free {z TI TO c : Addr} {b : Bool} {oc : Obj} {Q : Bool → Shared → Prop} (hz : IsZipB s.heap z TI TO c b) (hc : s.heap.get? c = some oc)
    (h : ∀ h', IsZipB h' z TI TO c true → h'.objs.size = s.heap.objs.size → (∀ a o, a ≠ z → s.heap.get? a = some o → h'.get? a = some o) → Q false { s with heap := h' }) : wpAny (model prog w) A (Builtin.SmallTypes.ownedTupleIsFree (.ref z)) Q E s := by
  unfold Builtin.SmallTypes.ownedTupleIsFree
  refine wpAny_bind (wpAny_field hz rfl (x := rawInt c) rfl ?_)
  show wpAny _ _ (loadIfAlive ((c : Int)).toNat >>= _) _ _ _
  refine wpAny_bind (wpAny_loadIfAlive ?_)
  rw [Int.toNat_natCast, hc]
  simp only [Option.isNone_some, Bool.false_eq_true, if_false]
  refine wpAny_bind (wpAny_field hz rfl (x := .bool b) rfl ?_)
  cases b with
  | true =>
    simp only [bne_self_eq_false, Bool.false_eq_true, if_false]
    exact wpAny_pure (h s.heap hz rfl fun a o _ e => e)
  | false =>
    rw [if_pos (by decide)]
    refine wpAny_bind (wpAny_setField_rec hz (by simp) fun h₁ hz₁ hs₁ => ?_)
    exact wpAny_pure (h h₁ hz₁ hs₁.1 fun a o ha e => hs₁.extBut _ _ ha e)
theorem zip_next_fresh {z TI TO i1 i2 l1 l2 c : Addr} {b : Bool} {oc : Obj} {k : Nat} {xs ys : Array Value} {x y : Value} {Q : Value → Shared → Prop} (D : ZipApart z TI TO i1 i2 l1 l2)
    (hz : IsZipB s.heap z TI TO c b) (hc : s.heap.get? c = some oc) (hTI : IsPair s.heap TI (.ref i1) (.ref i2))
    (h1 : s.heap.IsListIter i1 l1 k) (h2 : s.heap.IsListIter i2 l2 k) (hl1 : s.heap.IsList l1 xs) (hl2 : s.heap.IsList l2 ys) (hx : xs[k]? = some x) (hy : ys[k]? = some y)
    (hQ : ∀ h', IsZipB h' z TI TO c true → h'.IsListIter i1 l1 (k + 1) → h'.IsListIter i2 l2 (k + 1) → IsPair h' s.heap.objs.size x y → h'.objs.size = s.heap.objs.size + 1 →
      (∀ a o, a ≠ z → a ≠ i1 → a ≠ i2 → s.heap.get? a = some o → h'.get? a = some o) → Q (.ref s.heap.objs.size) { s with heap := h' }) :
    wpAny (model prog w) A (Builtin.«zip.__next__» ⟨[.ref z], []⟩) (fun fin s' => ∃ v, fin = .done (.ret v) ∧ Q v s') E s := by
  show wpAny _ _ (field (.ref z) 2 >>= _) _ _ _
  refine wpAny_bind (wpAny_field hz rfl (x := .bool false) rfl ?_)
  show wpAny _ _ (field (.ref z) 3 >>= _) _ _ _
  refine wpAny_bind (wpAny_field hz rfl (x := .ref TI) rfl ?_)
  refine wpAny_bind (wpAny_seqItems hTI rfl ?_)
  show wpAny _ _ (Builtin.SmallTypes.ownedTupleIsFree (.ref z) >>= _) _ _ _
  refine wpAny_bind (not_free hz hc fun h₁ hz₁ hsz₁ hk₁ => ?_)
  simp only [Bool.false_eq_true, if_false]
  refine wpAny_bind ?_
  first
  | rw [List.forIn_toArray]
  | (rw [← Array.forIn_toList]; simp only [List.toList_toArray])
  | rw [← Array.forIn_toList]
  simp only [List.forIn_cons, List.forIn_nil]
  refine wpAny_bind (wpAny_bind (wpAny_holding ?_))
  show wpAny _ _ (Builtin.SmallTypes.nextOf (.ref i1) >>= _) _ _ _
  refine wpAny_bind (wpAny_nextOf_list_item (h1.at fun o q => hk₁ i1 o D.i1z q) (hl1.at fun o q => hk₁ l1 o D.l1z q) hx fun h₂ h1₂ hs₂ => wpAny_pure ?_)
  refine wpAny_pure ?_
  refine wpAny_bind (wpAny_bind (wpAny_holding ?_))
  show wpAny _ _ (Builtin.SmallTypes.nextOf (.ref i2) >>= _) _ _ _
  refine wpAny_bind (wpAny_nextOf_list_item (h2.at fun o q => hs₂.extBut _ _ D.i12.symm (hk₁ i2 o D.i2z q)) (hl2.at fun o q => hs₂.extBut _ _ D.l2i1 (hk₁ l2 o D.l2z q)) hy fun h₃ h2₃ hs₃ => wpAny_pure ?_)
  refine wpAny_pure (wpAny_pure ?_)
  show wpAny _ _ (newTuple [x, y] >>= fun v => ret v) _ _ _
  refine wpAny_bind (wpAny_newTuple ?_)
  have hsz : h₃.objs.size = s.heap.objs.size := by rw [hs₃.1, hs₂.1, hsz₁]
  have up : ∀ a o, a ≠ z → a ≠ i1 → a ≠ i2 → s.heap.get? a = some o → (h₃.push { cls := .type "tuple", data := .seq #[x, y] }).get? a = some o := fun a o a1 a2 a3 e =>
    Heap.get?_push_of_some _ (hs₃.extBut _ _ a3 (hs₂.extBut _ _ a2 (hk₁ _ _ a1 e)))
  have hz₄ : IsZipB (h₃.push { cls := .type "tuple", data := .seq #[x, y] }) z TI TO c true := Heap.get?_push_of_some _ (hs₃.extBut _ _ D.i2z.symm (hs₂.extBut _ _ D.i1z.symm hz₁))
  have g1 : (h₃.push { cls := .type "tuple", data := .seq #[x, y] }).IsListIter i1 l1 (k + 1) := h1₂.at fun o q => Heap.get?_push_of_some _ (hs₃.extBut _ _ D.i12 q)
  have g2 : (h₃.push { cls := .type "tuple", data := .seq #[x, y] }).IsListIter i2 l2 (k + 1) := h2₃.at fun o q => Heap.get?_push_of_some _ q
  have hT : IsPair (h₃.push { cls := .type "tuple", data := .seq #[x, y] }) h₃.objs.size x y := Heap.get?_push_size _ rfl
  have h4 : (h₃.push { cls := .type "tuple", data := .seq #[x, y] }).objs.size = h₃.objs.size + 1 := Heap.size_push ..
  refine wpAny_pure ⟨_, rfl, ?_⟩
  show Q (.ref h₃.objs.size) _
  rw [hsz] at hT h4 ⊢
  exact hQ _ hz₄ g1 g2 hT h4 up
theorem zip_end_fresh {z TI TO i1 i2 l1 l2 c : Addr} {b : Bool} {oc : Obj} {k : Nat} {xs : Array Value} {Q : Fin → Shared → Prop} (hh : A.handled = none) (D : ZipApart z TI TO i1 i2 l1 l2)
    (hz : IsZipB s.heap z TI TO c b) (hc : s.heap.get? c = some oc) (hTI : IsPair s.heap TI (.ref i1) (.ref i2))
    (h1 : s.heap.IsListIter i1 l1 k) (hl1 : s.heap.IsList l1 xs) (hx : xs[k]? = none)
    (hE : ∀ h' e, (∀ a o, a ≠ z → a ≠ i1 → s.heap.get? a = some o → h'.get? a = some o) → (∃ o, h'.get? e = some o ∧ o.cls = .type "StopIteration") → E (.ref e) { s with heap := h' }) :
    wpAny (model prog w) A (Builtin.«zip.__next__» ⟨[.ref z], []⟩) Q E s := by
  show wpAny _ _ (field (.ref z) 2 >>= _) _ _ _
  refine wpAny_bind (wpAny_field hz rfl (x := .bool false) rfl ?_)
  show wpAny _ _ (field (.ref z) 3 >>= _) _ _ _
  refine wpAny_bind (wpAny_field hz rfl (x := .ref TI) rfl ?_)
  refine wpAny_bind (wpAny_seqItems hTI rfl ?_)
  show wpAny _ _ (Builtin.SmallTypes.ownedTupleIsFree (.ref z) >>= _) _ _ _
  refine wpAny_bind (not_free hz hc fun h₁ hz₁ hsz₁ hk₁ => ?_)
  simp only [Bool.false_eq_true, if_false]
  refine wpAny_bind ?_
  first
  | rw [List.forIn_toArray]
  | (rw [← Array.forIn_toList]; simp only [List.toList_toArray])
  | rw [← Array.forIn_toList]
  simp only [List.forIn_cons, List.forIn_nil]
  refine wpAny_bind (wpAny_bind (wpAny_holding ?_))
  show wpAny _ _ (Builtin.SmallTypes.nextOf (.ref i1) >>= _) _ _ _
  refine wpAny_bind (wpAny_nextOf_list_end hh (h1.at fun o q => hk₁ i1 o D.i1z q) (hl1.at fun o q => hk₁ l1 o D.l1z q) hx fun h₂ e hs₂ he => ?_)
  exact hE h₂ e (fun a o a1 a2 q => hs₂ _ _ a2 (hk₁ _ _ a1 q)) he
/-- where drawing stands; S is changed beside it -/
structure ZipSt (h : Heap) (S z TI TO i1 i2 l1 l2 : Addr) (xs ys : Array Value) (k : Nat) : Prop where
  z : IsZip h z TI TO .none ∨ ∃ c b oc, IsZipB h z TI TO c b ∧ h.get? c = some oc ∧ c ≠ z ∧ c ≠ TO ∧ c ≠ i1 ∧ c ≠ i2 ∧ c ≠ S
  ti : IsPair h TI (.ref i1) (.ref i2)
  to : ∃ a b, IsPair h TO a b
  h1 : h.IsListIter i1 l1 k
  h2 : h.IsListIter i2 l2 k
  l1 : h.IsList l1 xs
  l2 : h.IsList l2 ys
theorem ZipSt.ty {s : Shared} {S z TI TO i1 i2 l1 l2 : Addr} {xs ys : Array Value} {k : Nat} (Z : ZipSt s.heap S z TI TO i1 i2 l1 l2 xs ys k) : s.TypeIs (.ref z) "zip" := by
  rcases Z.z with h | ⟨c, b, oc, h, _⟩
  · exact ⟨_, h, rfl⟩
  · exact ⟨_, h, rfl⟩
theorem ZipSt.keep {h h' : Heap} {S z TI TO i1 i2 l1 l2 : Addr} {xs ys : Array Value} {k : Nat} (Z : ZipSt h S z TI TO i1 i2 l1 l2 xs ys k) (n : S ∉ [z, TI, TO, i1, i2, l1, l2])
    (hk : ∀ a o, a ≠ S → h.get? a = some o → h'.get? a = some o) : ZipSt h' S z TI TO i1 i2 l1 l2 xs ys k := by
  simp only [List.mem_cons, List.not_mem_nil, or_false, not_or] at n
  obtain ⟨n1, n2, n3, n4, n5, n6, n7⟩ := n
  refine ⟨?_, hk _ _ (Ne.symm n2) Z.ti, ?_, Z.h1.at fun o q => hk _ _ (Ne.symm n4) q, Z.h2.at fun o q => hk _ _ (Ne.symm n5) q, Z.l1.at fun o q => hk _ _ (Ne.symm n6) q, Z.l2.at fun o q => hk _ _ (Ne.symm n7) q⟩
  · rcases Z.z with h | ⟨c, b, oc, h, hc, q⟩
    · exact .inl (hk _ _ (Ne.symm n1) h)
    · exact .inr ⟨c, b, oc, hk _ _ (Ne.symm n1) h, hk _ _ q.2.2.2.2 hc, q⟩
  · obtain ⟨a, b, h⟩ := Z.to
    exact ⟨a, b, hk _ _ (Ne.symm n3) h⟩
theorem st_item {S z TI TO i1 i2 l1 l2 : Addr} {xs ys : Array Value} {k : Nat} {x y : Value} {Q : Option Value → Shared → Prop} (D : ZipApart z TI TO i1 i2 l1 l2) (Z : ZipSt s.heap S z TI TO i1 i2 l1 l2 xs ys k) (lS : S < s.heap.objs.size) (hx : xs[k]? = some x) (hy : ys[k]? = some y)
    (hQ : ∀ h' T, ZipSt h' S z TI TO i1 i2 l1 l2 xs ys (k + 1) → IsPair h' T x y → s.heap.objs.size ≤ T → s.heap.objs.size ≤ h'.objs.size → (∀ a o, a ≠ z → a ≠ TO → a ≠ i1 → a ≠ i2 → s.heap.get? a = some o → h'.get? a = some o) → Q (some (.ref T)) { s with heap := h' }) :
    wpAny (model prog w) A (pyNext (.ref z)) Q E s := by
  obtain ⟨a0, b0, hTO⟩ := Z.to
  have lz : z < s.heap.objs.size := by
    rcases Z.z with h | ⟨c, b, oc, h, _⟩
    · exact Heap.lt_size h
    · exact Heap.lt_size h
  have lTO : TO < s.heap.objs.size := Heap.lt_size hTO
  have li1 : i1 < s.heap.objs.size := by obtain ⟨_, e, _⟩ := Z.h1; exact Heap.lt_size e
  have li2 : i2 < s.heap.objs.size := by obtain ⟨_, e, _⟩ := Z.h2; exact Heap.lt_size e
  rcases Z.z with hz | ⟨c, b, oc, hz, hc, c1, c2, c3, c4, c5⟩
  · refine wpAny_pyNext_zip_item D hz Z.ti hTO Z.h1 Z.h2 Z.l1 Z.l2 hx hy fun h' g1 g2 g3 g4 g5 g6 g7 => ?_
    exact hQ h' _ ⟨.inr ⟨s.heap.objs.size, false, _, g1, g5, Nat.ne_of_gt lz, Nat.ne_of_gt lTO, Nat.ne_of_gt li1, Nat.ne_of_gt li2, Nat.ne_of_gt lS⟩, g7 _ _ D.TIz D.TITO D.TIi1 D.TIi2 Z.ti, ⟨_, _, g2⟩, g3, g4, Z.l1.at fun o q => g7 _ _ D.l1z D.l1TO D.l1i1 D.l1i2 q, Z.l2.at fun o q => g7 _ _ D.l2z D.l2TO D.l2i1 D.l2i2 q⟩ g5 (Nat.le_refl _) (by rw [g6]; exact Nat.le_succ _) g7
  · have hT : s.TypeIs (.ref z) "zip" := ⟨_, hz, rfl⟩
    unfold pyNext
    refine wpAny_bind (wpAny_attempt (wpAny_callSpecial?_slot (name := Str.ofString "__next__") hT F.slot_zip_next
      (wpAny_call_entry F.slot_zip_next hT F.entry_zip_next
        (zip_next_fresh D hz hc Z.ti Z.h1 Z.h2 Z.l1 Z.l2 hx hy fun h' g1 g3 g4 g5 g6 g7 => wpAny_pure ?_) (F.args_zip_next_1 _))))
    exact hQ h' _ ⟨.inr ⟨c, true, oc, g1, g7 _ _ c1 c3 c4 hc, c1, c2, c3, c4, c5⟩, g7 _ _ D.TIz D.TIi1 D.TIi2 Z.ti, ⟨_, _, g7 _ _ D.TOz D.TOi1 D.TOi2 hTO⟩, g3, g4, Z.l1.at fun o q => g7 _ _ D.l1z D.l1i1 D.l1i2 q, Z.l2.at fun o q => g7 _ _ D.l2z D.l2i1 D.l2i2 q⟩ g5 (Nat.le_refl _) (by rw [g6]; exact Nat.le_succ _) (fun a o a1 _ a3 a4 q => g7 a o a1 a3 a4 q)
theorem st_end {S z TI TO i1 i2 l1 l2 : Addr} {xs ys : Array Value} {k : Nat} {Q : Option Value → Shared → Prop} (hh : A.handled = none) (D : ZipApart z TI TO i1 i2 l1 l2) (Z : ZipSt s.heap S z TI TO i1 i2 l1 l2 xs ys k) (hx : xs[k]? = none)
    (hQ : ∀ h', (∀ a o, a ≠ z → a ≠ TO → a ≠ i1 → a ≠ i2 → s.heap.get? a = some o → h'.get? a = some o) → Q none { s with heap := h' }) :
    wpAny (model prog w) A (pyNext (.ref z)) Q E s := by
  obtain ⟨a0, b0, hTO⟩ := Z.to
  rcases Z.z with hz | ⟨c, b, oc, hz, hc, c1, c2, c3, c4, c5⟩
  · exact wpAny_pyNext_zip_end hh D hz Z.ti hTO Z.h1 Z.h2 Z.l1 Z.l2 (.inl hx) hQ
  · have hT : s.TypeIs (.ref z) "zip" := ⟨_, hz, rfl⟩
    unfold pyNext
    refine wpAny_bind (wpAny_attempt (wpAny_callSpecial?_slot (name := Str.ofString "__next__") hT F.slot_zip_next
      (wpAny_call_entry F.slot_zip_next hT F.entry_zip_next (zip_end_fresh hh D hz hc Z.ti Z.h1 Z.l1 hx fun h' e hk he => ?_) (F.args_zip_next_1 _))))
    obtain ⟨o, ho, hc⟩ := he
    refine wpAny_bind (wpAny_isInstance (T := "StopIteration") (b := true) ⟨o, ho, hc⟩ isSubtype_stop ?_)
    exact wpAny_pure (hQ _ fun a o a1 _ a3 _ q => hk a o a1 a3 q)
/-- what has been put: pairs, none of them changed further -/
def PairsTo (h : Heap) (B : Addr) (xs ys acc : Array Value) (k : Nat) : Prop := acc.size = k ∧ (∀ j, j < k → ∃ T x y, acc[j]? = some (Value.ref T) ∧ xs[j]? = some x ∧ ys[j]? = some y ∧ IsPair h T x y ∧ B ≤ T) ∧ ∀ (i j : Nat) (T T' : Addr), i < j → acc[i]? = some (Value.ref T) → acc[j]? = some (Value.ref T') → T < T'
theorem PairsTo.keep {h h' : Heap} {B : Addr} {xs ys acc : Array Value} {k : Nat} (p : PairsTo h B xs ys acc k) (hk : ∀ a o, B ≤ a → h.get? a = some o → h'.get? a = some o) : PairsTo h' B xs ys acc k :=
  ⟨p.1, fun j hj => by
    obtain ⟨T, x, y, e1, e2, e3, e4, e5⟩ := p.2.1 j hj
    exact ⟨T, x, y, e1, e2, e3, hk _ _ e5 e4, e5⟩, p.2.2⟩
theorem PairsTo.push {h : Heap} {B T : Addr} {xs ys acc : Array Value} {k : Nat} {x y : Value} (p : PairsTo h B xs ys acc k) (hx : xs[k]? = some x) (hy : ys[k]? = some y) (hT : IsPair h T x y) (hB : B ≤ T) (hl : ∀ (j : Nat) (T' : Addr), acc[j]? = some (Value.ref T') → T' < T) : PairsTo h B xs ys (acc.push (Value.ref T)) (k + 1) := by
  refine ⟨by rw [Array.size_push, p.1], fun j hj => ?_, fun i j T1 T2 hij e1 e2 => ?_⟩
  · by_cases e : j = k
    · subst e
      exact ⟨T, x, y, by rw [Array.getElem?_push, if_pos p.1.symm], hx, hy, hT, hB⟩
    · obtain ⟨T', x', y', e1, e2, e3, e4, e5⟩ := p.2.1 j (by omega)
      exact ⟨T', x', y', by rw [Array.getElem?_push, if_neg (by rw [p.1]; exact e)]; exact e1, e2, e3, e4, e5⟩
  · rw [Array.getElem?_push] at e1 e2
    have hi : i ≠ acc.size := fun e => by
      subst e
      rw [if_neg (by omega)] at e2
      have := (Array.getElem?_eq_some_iff.mp e2).1
      omega
    rw [if_neg hi] at e1
    by_cases hj : j = acc.size
    · rw [if_pos hj] at e2
      cases e2
      exact hl i T1 e1
    · rw [if_neg hj] at e2
      exact p.2.2 i j T1 T2 hij e1 e2
theorem PairsTo.lt {h : Heap} {B : Addr} {xs ys acc : Array Value} {k : Nat} (p : PairsTo h B xs ys acc k) {j : Nat} {T : Addr} (e : acc[j]? = some (Value.ref T)) : T < h.objs.size := by
  have hj : j < k := by rw [← p.1]; exact (Array.getElem?_eq_some_iff.mp e).1
  obtain ⟨T', x', y', e1, e2, e3, e4, e5⟩ := p.2.1 j hj
  rw [e] at e1
  cases e1
  exact Heap.lt_size e4
end
section
variable {prog : Program} {w : World} {A : Around} {R : Result → Shared → Prop}
theorem loop_zip (hh : A.in1.handled = none) {S z TI TO i1 i2 l1 l2 : Addr} {xs ys : Array Value} (D : ZipApart z TI TO i1 i2 l1 l2) (hn : xs.size ≤ sizeLine) (hxy : xs.size = ys.size) (nS : S ∉ [z, TI, TO, i1, i2, l1, l2]) (B : Addr) (nB : S < B ∧ z < B ∧ TO < B ∧ i1 < B ∧ i2 < B) (res : Value) :
    ∀ (m k : Nat) (s : Shared) (acc : Array Value) (c : Nat), xs.size - k = m → k ≤ xs.size → B ≤ s.heap.objs.size → ZipSt s.heap S z TI TO i1 i2 l1 l2 xs ys k → s.heap.get? S = some { cls := .type "list", dict := none, data := .seq acc c, slots := #[] } → PairsTo s.heap B xs ys acc k →
    (∀ h' acc' c', (∀ a o, a ≠ S → a ≠ z → a ≠ TO → a ≠ i1 → a ≠ i2 → s.heap.get? a = some o → h'.get? a = some o) → h'.get? S = some { cls := .type "list", dict := none, data := .seq acc' c', slots := #[] } → PairsTo h' B xs ys acc' xs.size → R (.ok (.ret res)) { s with heap := h' }) →
    codeAny (model prog w) A (.builtin "list.extend.loop" ⟨[.ref S, .ref z, res], []⟩) R s := by
  have nS' := nS
  simp only [List.mem_cons, List.not_mem_nil, or_false, not_or] at nS'
  obtain ⟨n1, n2, n3, n4, n5, n6, n7⟩ := nS'
  obtain ⟨b1, b2, b3, b4, b5⟩ := nB
  intro m
  induction m with
  | zero =>
    intro k s acc c hk hi hB Z hS hacc hR
    have e : k = xs.size := by omega
    subst e
    refine codeAny_builtin F.entry_extend_loop ?_
    rw [Around.under_plainId F.plain_extend_loop _]
    show wpAny _ A.in1 (pyNext (.ref z) >>= _) _ _ s
    refine wpAny_bind (st_end hh D Z (by simp) fun h' hk' => ?_)
    exact wpAny_pure (hR h' acc c (fun a o _ a1 a2 a3 a4 q => hk' a o a1 a2 a3 a4 q) (hk' _ _ n1 n3 n4 n5 hS) (hacc.keep fun a o ha q => hk' a o (Nat.ne_of_gt (Nat.lt_of_lt_of_le b2 ha)) (Nat.ne_of_gt (Nat.lt_of_lt_of_le b3 ha)) (Nat.ne_of_gt (Nat.lt_of_lt_of_le b4 ha)) (Nat.ne_of_gt (Nat.lt_of_lt_of_le b5 ha)) q))
  | succ m ih =>
    intro k s acc c hk hi hB Z hS hacc hR
    have hlt : k < xs.size := by omega
    have hx : xs[k]? = some xs[k] := Array.getElem?_eq_getElem hlt
    have hy : ys[k]? = some ys[k] := Array.getElem?_eq_getElem (by omega)
    refine codeAny_builtin F.entry_extend_loop ?_
    rw [Around.under_plainId F.plain_extend_loop _]
    show wpAny _ A.in1 (pyNext (.ref z) >>= _) _ _ s
    refine wpAny_bind (st_item D Z (Heap.lt_size hS) hx hy fun h' T Z' hT hTB hsz hk' => ?_)
    have hS' := hk' _ _ n1 n3 n4 n5 hS
    have hacc' : PairsTo h' B xs ys acc k := hacc.keep fun a o ha q => hk' a o (Nat.ne_of_gt (Nat.lt_of_lt_of_le b2 ha)) (Nat.ne_of_gt (Nat.lt_of_lt_of_le b3 ha)) (Nat.ne_of_gt (Nat.lt_of_lt_of_le b4 ha)) (Nat.ne_of_gt (Nat.lt_of_lt_of_le b5 ha)) q
    have hBT : B ≤ T := Nat.le_trans hB hTB
    show wpAny _ A.in1 (updateSeq S (·.push (.ref T)) >>= _) _ _ _
    refine wpAny_bind ?_
    refine wpAny_updateSeq hS' rfl (wpAny_pure ⟨plainId_quiet F.plain_extend_loop _, ih (k + 1) _ (acc.push (.ref T)) _ (by omega) hlt ?_ (Z'.keep nS fun a o ha q => (Heap.get?_update_other _ _ (Ne.symm ha)).trans q) (Heap.get?_update_self _ hS' rfl)
      ((hacc'.push hx hy hT hBT fun j T' e => Nat.lt_of_lt_of_le (hacc.lt e) hTB).keep fun a o ha q => (Heap.get?_update_other _ _ (fun e : S = a => Nat.ne_of_lt (Nat.lt_of_lt_of_le b1 ha) e)).trans q) fun h'' acc' c' hk'' hS'' hacc'' => ?_⟩)
      (by rw [hacc.1]; omega) (by show (acc.push (Value.ref T)).size ≤ sizeLine + 1; rw [Array.size_push, hacc.1]; omega)
    · show B ≤ (h'.update S _).objs.size
      rw [Heap.size_update]
      exact Nat.le_trans hB hsz
    · exact hR h'' acc' c' (fun a o a0 a1 a2 a3 a4 q => hk'' a o a0 a1 a2 a3 a4 ((Heap.get?_update_other _ _ (Ne.symm a0)).trans (hk' a o a1 a2 a3 a4 q))) hS'' hacc''
end
end ZL
namespace ZL
open PySem
theorem nolen_zip : typeLookup (.type "zip") "__len__" = pure none := by rw [typeLookup_type, builtinLookup_eq_fast]; kernel_rfl
theorem nohint_zip : typeLookup (.type "zip") "__length_hint__" = pure none := by rw [typeLookup_type, builtinLookup_eq_fast]; kernel_rfl
section
variable {prog : Program} {w : World} {A : Around} {s : Shared} {R : Result → Shared → Prop}
theorem st_self {E : Value → Shared → Prop} {S z TI TO i1 i2 l1 l2 : Addr} {xs ys : Array Value} {k : Nat} {Q : Value → Shared → Prop} (Z : ZipSt s.heap S z TI TO i1 i2 l1 l2 xs ys k) (hz : IsZip s.heap z TI TO .none) (h : Q (.ref z) s) : wpAny (model prog w) A (pyIter (.ref z)) Q E s :=
  wpAny_pyIter_zip hz h
theorem extend_zip (hh : A.handled = none) {S z TI TO i1 i2 l1 l2 : Addr} {xs ys : Array Value} (D : ZipApart z TI TO i1 i2 l1 l2) (hn : xs.size ≤ sizeLine) (hxy : xs.size = ys.size) (nS : S ∉ [z, TI, TO, i1, i2, l1, l2]) (B : Addr) (nB : S < B ∧ z < B ∧ TO < B ∧ i1 < B ∧ i2 < B) (res : Value) (c₀ : Nat)
    (hB : B ≤ s.heap.objs.size) (Z : ZipSt s.heap S z TI TO i1 i2 l1 l2 xs ys 0) (hz : IsZip s.heap z TI TO .none) (hS : s.heap.get? S = some { cls := .type "list", data := .seq #[] c₀ })
    (hR : ∀ h' acc' c', (∀ a o, a ≠ S → a ≠ z → a ≠ TO → a ≠ i1 → a ≠ i2 → s.heap.get? a = some o → h'.get? a = some o) → h'.get? S = some { cls := .type "list", dict := none, data := .seq acc' c', slots := #[] } → PairsTo h' B xs ys acc' xs.size → R (.ok (.ret res)) { s with heap := h' }) :
    wpAny (model prog w) A.in1 (Builtin.List.listExtendWith (.ref S) (.ref z) res)
      (fun fin s' => match fin with | .done f => R (.ok f) s' | .again c' => c'.quiet = true ∧ codeAny (model prog w) A c' R s') (fun e s' => R (.error e) s') s := by
  have hSz : S ≠ z := fun e => nS (by rw [e]; simp)
  have hT := Z.ty
  unfold Builtin.List.listExtendWith
  refine wpAny_bind (wpAny_typeOf hT ?_)
  have h1 : Builtin.List.listSameRef (.ref S) (.ref z) = false := by simp [Builtin.List.listSameRef, hSz]
  have h2 : (Value.type "zip" == Value.type "list") = false := by decide
  have h3 : (Value.type "zip" == Value.type "tuple") = false := by decide
  simp only [h1, h2, h3, Bool.or_false, Bool.false_eq_true, if_false]
  refine wpAny_bind (wpAny_pyIter_zip hz ?_)
  refine wpAny_bind (wpAny_holding ?_)
  unfold Builtin.List.listLengthHint
  refine wpAny_bind (wpAny_specialOf hT nolen_zip ?_)
  show wpAny _ A.in1 (specialOf (Value.ref z) (Str.ofString "__length_hint__") >>= _) _ _ _
  refine wpAny_bind (wpAny_specialOf hT nohint_zip ?_)
  refine wpAny_pure ?_
  show wpAny _ A.in1 (rule "list.extend.makes-room" >>= fun _ => Builtin.List.listTouch (.ref S) >>= fun _ =>
    again (.builtin "list.extend.loop" ⟨[.ref S, .ref z, res], []⟩)) _ _ _
  refine wpAny_bind (wpAny_rule ?_)
  refine wpAny_bind ?_
  show wpAny _ A.in1 (updateSeq S (·.push .none) >>= fun _ => updateSeq S (·.pop)) _ _ _
  refine wpAny_bind (wpAny_updateSeq hS rfl ?_)
  have hS₂ := Heap.get?_update_self (Obj.mapSeq (·.push Value.none)) hS rfl
  refine wpAny_updateSeq (hz := by seq_fits) hS₂ rfl ?_
  have hS₃ := Heap.get?_update_self (Obj.mapSeq (·.pop)) hS₂ rfl
  have oth : ∀ b o, b ≠ S → s.heap.get? b = some o → ((s.heap.update S (Obj.mapSeq (·.push Value.none))).update S (Obj.mapSeq (·.pop))).get? b = some o :=
    fun b o hb e => (Heap.get?_update_other _ _ (Ne.symm hb)).trans ((Heap.get?_update_other _ _ (Ne.symm hb)).trans e)
  refine wpAny_pure ⟨plainId_quiet F.plain_extend_loop _, loop_zip hh D hn hxy nS B nB res xs.size 0 _ _ _ rfl (Nat.zero_le _) ?_ (Z.keep nS oth) hS₃ ⟨rfl, fun j hj => absurd hj (Nat.not_lt_zero _), fun i j T T' _ e _ => by simp at e⟩ fun h' acc' c' hk hS' hacc => ?_⟩
  · show B ≤ ((s.heap.update S _).update S _).objs.size
    rw [Heap.size_update, Heap.size_update]
    exact hB
  · exact hR h' acc' c' (fun a o a0 a1 a2 a3 a4 q => hk a o a0 a1 a2 a3 a4 (oth a o a0 q)) hS' hacc
theorem init_zip (hh : A.handled = none) {S z TI TO i1 i2 l1 l2 : Addr} {xs ys : Array Value} (D : ZipApart z TI TO i1 i2 l1 l2) (hn : xs.size ≤ sizeLine) (hxy : xs.size = ys.size) (nS : S ∉ [z, TI, TO, i1, i2, l1, l2]) (B : Addr) (nB : S < B ∧ z < B ∧ TO < B ∧ i1 < B ∧ i2 < B)
    (hB : B ≤ s.heap.objs.size) (Z : ZipSt s.heap S z TI TO i1 i2 l1 l2 xs ys 0) (hz : IsZip s.heap z TI TO .none) (hS : s.heap.get? S = some { cls := .type "list", data := .seq #[] })
    (hR : ∀ h' acc' c', (∀ a o, a ≠ S → a ≠ z → a ≠ TO → a ≠ i1 → a ≠ i2 → s.heap.get? a = some o → h'.get? a = some o) → h'.get? S = some { cls := .type "list", dict := none, data := .seq acc' c', slots := #[] } → PairsTo h' B xs ys acc' xs.size → R (.ok (.ret .none)) { s with heap := h' }) :
    wpAny (model prog w) A.in1 (Builtin.«list.__init__» ⟨[.ref S, .ref z], []⟩)
      (fun fin s' => match fin with | .done f => R (.ok f) s' | .again c' => c'.quiet = true ∧ codeAny (model prog w) A c' R s') (fun e s' => R (.error e) s') s := by
  have hSz : z ≠ S := fun e => nS (by rw [e]; simp)
  show wpAny _ A.in1 (do let old ← Builtin.List.listItems (.ref S); Builtin.List.listUpdate (.ref S) (fun _ => #[]); letGo old.toList.reverse; Builtin.List.listExtendWith (.ref S) (.ref z) .none) _ _ s
  refine wpAny_bind ?_
  unfold Builtin.List.listItems
  refine wpAny_bind (wpAny_seqItems hS rfl (wpAny_pure ?_))
  show wpAny _ A.in1 (updateSeq S (fun _ => #[]) >>= fun _ => letGo (#[] : Array Value).toList.reverse >>= fun _ => Builtin.List.listExtendWith (.ref S) (.ref z) .none) _ _ s
  refine wpAny_bind (wpAny_updateSeq hS rfl ?_)
  have hS₂ := Heap.get?_update_self (Obj.mapSeq (fun _ => (#[] : Array Value))) hS rfl
  have oth : ∀ b o, b ≠ S → s.heap.get? b = some o → (s.heap.update S (Obj.mapSeq (fun _ => (#[] : Array Value)))).get? b = some o :=
    fun b o hb e => (Heap.get?_update_other _ _ (Ne.symm hb)).trans e
  refine wpAny_bind (wpAny_letGo ?_)
  refine extend_zip hh D hn hxy nS B nB .none _ ?_ (Z.keep nS oth) (oth _ _ hSz hz) hS₂ fun h' acc' c' hk hS' hacc => ?_
  · show B ≤ (s.heap.update S _).objs.size
    rw [Heap.size_update]
    exact hB
  · exact hR h' acc' c' (fun a o a0 a1 a2 a3 a4 q => hk a o a0 a1 a2 a3 a4 (oth a o a0 q)) hS' hacc
end
section
variable {prog : Program} {w : World} {A : Around} {E : Value → Shared → Prop} {s : Shared}
theorem call_list_zip {Q : Value → Shared → Prop} (hh : A.handled = none) {z TI TO i1 i2 l1 l2 : Addr} {xs ys : Array Value} (D : ZipApart z TI TO i1 i2 l1 l2) (hn : xs.size ≤ sizeLine) (hxy : xs.size = ys.size)
    (hz : IsZip s.heap z TI TO .none) (hTI : IsPair s.heap TI (.ref i1) (.ref i2)) (hTO : ∃ a b, IsPair s.heap TO a b) (h1 : s.heap.IsListIter i1 l1 0) (h2 : s.heap.IsListIter i2 l2 0) (hl1 : s.heap.IsList l1 xs) (hl2 : s.heap.IsList l2 ys)
    (hQ : ∀ h' acc c', (∀ a o, a ≠ z → a ≠ TO → a ≠ i1 → a ≠ i2 → s.heap.get? a = some o → h'.get? a = some o) → h'.get? s.heap.objs.size = some { cls := .type "list", dict := none, data := .seq acc c', slots := #[] } →
      PairsTo h' (s.heap.objs.size + 1) xs ys acc xs.size → Q (.ref s.heap.objs.size) { s with heap := h' }) :
    wpAny (model prog w) A (call (.type "list") [.ref z]) Q E s := by
  have lz : z < s.heap.objs.size := Heap.lt_size hz
  have lTI : TI < s.heap.objs.size := Heap.lt_size hTI
  have lTO : TO < s.heap.objs.size := by obtain ⟨_, _, e⟩ := hTO; exact Heap.lt_size e
  have li1 : i1 < s.heap.objs.size := by obtain ⟨_, e, _⟩ := h1; exact Heap.lt_size e
  have li2 : i2 < s.heap.objs.size := by obtain ⟨_, e, _⟩ := h2; exact Heap.lt_size e
  have ll1 : l1 < s.heap.objs.size := by obtain ⟨_, e, _⟩ := hl1; exact Heap.lt_size e
  have ll2 : l2 < s.heap.objs.size := by obtain ⟨_, e, _⟩ := hl2; exact Heap.lt_size e
  have nS : s.heap.objs.size ∉ [z, TI, TO, i1, i2, l1, l2] := by
    simp only [List.mem_cons, List.not_mem_nil, or_false, not_or]
    exact ⟨Nat.ne_of_gt lz, Nat.ne_of_gt lTI, Nat.ne_of_gt lTO, Nat.ne_of_gt li1, Nat.ne_of_gt li2, Nat.ne_of_gt ll1, Nat.ne_of_gt ll2⟩
  refine callType_codes (Q₁ := fun obj s₁ => obj = .ref s.heap.objs.size ∧ s₁ = { s with heap := s.heap.push { cls := .type "list", data := .seq #[] } }) F.called_list (F.typeCall_list_1 _) F.entry_list_init
    (code_list_new _ ⟨rfl, rfl⟩) fun obj s₁ h₁ => ?_
  obtain ⟨rfl, rfl⟩ := h₁
  have hS : (s.heap.push { cls := .type "list", data := .seq #[] }).get? s.heap.objs.size = some { cls := .type "list", data := .seq #[] } := Heap.get?_push_size _ rfl
  have up : ∀ a o, s.heap.get? a = some o → (s.heap.push { cls := .type "list", data := .seq #[] }).get? a = some o := fun a o q => Heap.get?_push_of_some _ q
  have hh1 : A.in1.handled = none := hh
  have Z : ZipSt (s.heap.push { cls := .type "list", data := .seq #[] }) s.heap.objs.size z TI TO i1 i2 l1 l2 xs ys 0 :=
    ⟨.inl (up _ _ hz), up _ _ hTI, by obtain ⟨a, b, q⟩ := hTO; exact ⟨a, b, up _ _ q⟩, h1.at fun o q => up _ _ q, h2.at fun o q => up _ _ q, hl1.at fun o q => up _ _ q, hl2.at fun o q => up _ _ q⟩
  refine ⟨⟨_, hS, rfl⟩, F.args_list_init_2 _ _, init_zip hh1 D hn hxy nS (s.heap.objs.size + 1) ⟨Nat.lt_succ_self _, Nat.lt_succ_of_lt lz, Nat.lt_succ_of_lt lTO, Nat.lt_succ_of_lt li1, Nat.lt_succ_of_lt li2⟩ ?_ Z (up _ _ hz) hS fun h' acc' c' hk hS' hacc => ?_⟩
  · show s.heap.objs.size + 1 ≤ (s.heap.push _).objs.size
    rw [Heap.size_push]
    exact Nat.le_refl _
  · exact ⟨rfl, hQ h' acc' c' (fun a o a1 a2 a3 a4 q => hk a o (Nat.ne_of_lt (Heap.lt_size q)) a1 a2 a3 a4 (up _ _ q)) hS' hacc⟩
end
end ZL
namespace L2
open PySem PySem.Spec PyProof.Rows
/-- many new objects laid at once -/
theorem Inv.laids {X : Cx} {pins : List (Addr × Obj)} {σ : St} {H H2 : Hp} {s : Shared} {h' : Heap} {t' : Nat} (I : Inv X pins σ H s) (k : ∀ b u, s.heap.get? b = some u → h'.get? b = some u) (hlow : ∀ b, b < s.heap.objs.size → H2 b = H b)
    (new : ∀ b u, s.heap.objs.size ≤ b → H2 b = some u → ObjOk X.prog X.w H2 h' b u) : Inv X pins σ H2 { s with heap := h', toks := t' } := by
  have ext : ∀ b u, H b = some u → H2 b = some u := fun b u q => by rw [hlow b (I.hok.lt q)]; exact q
  refine I.un ⟨fun b u q _ _ _ => k b u q, fun b u q _ _ _ => ⟨u.slots, k b u q⟩, fun b u q n _ => by rw [hlow b (Heap.lt_size q)]; exact n, fun b u q _ => ⟨u, k b u q⟩, fun b xs q => ext _ _ q, fun b o u q => ext _ _ q, fun b ps q => ⟨#[], by rw [ext _ _ q]; simp⟩⟩ fun b u e => ?_
  by_cases hb : b < s.heap.objs.size
  · rw [hlow b hb] at e
    exact (I.hok b u e).stay (fun c v _ q => k c v q) (fun c q => ext _ _ q) fun c xs q => ext _ _ q
  · exact new b u (Nat.le_of_not_lt hb) e

theorem zl_refs : ∀ (l : List Value), (∀ v ∈ l, ∃ T, v = .ref T) → ∃ Ts : List Addr, l = Ts.map Value.ref
  | [], _ => ⟨[], rfl⟩
  | v :: l, h => by
    obtain ⟨T, rfl⟩ := h v (List.mem_cons_self ..)
    obtain ⟨Ts, rfl⟩ := zl_refs l fun u hu => h u (List.mem_cons_of_mem _ hu)
    exact ⟨T :: Ts, rfl⟩
theorem zl_vals : ∀ Ts : List Addr, Vals (Ts.map V.ref) (Ts.map Value.ref)
  | [] => .nil
  | T :: Ts => .cons rfl (zl_vals Ts)
/-- the pairs by their places -/
def tupAt (ps : List (Addr × V × V)) (b : Addr) : Option HO := (ps.find? fun p => decide (p.1 = b)).map fun p => .tup [p.2.1, p.2.2]
theorem tupAt_some {ps : List (Addr × V × V)} {b : Addr} {u : HO} (h : tupAt ps b = some u) : ∃ p ∈ ps, p.1 = b ∧ u = .tup [p.2.1, p.2.2] := by
  unfold tupAt at h
  cases e : ps.find? fun p => decide (p.1 = b) with
  | none => rw [e] at h; cases h
  | some p =>
    rw [e] at h
    have := List.find?_some e
    exact ⟨p, List.mem_of_find?_eq_some e, by simpa using this, (Option.some.inj h).symm⟩
theorem tupAt_mem : ∀ {ps : List (Addr × V × V)}, ps.Pairwise (fun p q => p.1 < q.1) → ∀ p ∈ ps, tupAt ps p.1 = some (.tup [p.2.1, p.2.2])
  | [], _, p, h => by cases h
  | q :: ps, hp, p, h => by
    rw [List.pairwise_cons] at hp
    unfold tupAt
    rw [List.find?_cons]
    rcases List.mem_cons.mp h with e | h
    · subst e; simp
    · have : ¬ q.1 = p.1 := fun e => Nat.lt_irrefl _ (e ▸ hp.1 p h)
      rw [decide_eq_false this]
      exact tupAt_mem hp.2 p h
def tLz (K : PySem.W.Frag) (ta : TA) : TE := fun σ H Q => ta σ H fun vs H1 => ∃ a b xs ys, vs = [.ref a, .ref b] ∧ SqL K H1 a xs ∧ SqL K H1 b ys ∧ xs.length = ys.length ∧ xs.length ≤ 1000000 ∧
  ∀ (D : Addr) (Ts : List Addr) (H2 : Hp), H1 D = none → (∀ a o, H1 a = some o → H2 a = some o) → Ts.length = xs.length → H2 D = some (.lst (Ts.map V.ref)) → (∀ (j : Nat) x y, xs[j]? = some x → ys[j]? = some y → ∃ T, Ts[j]? = some T ∧ H1 T = none ∧ H2 T = some (.tup [x, y])) → Q (.ref D) H2
theorem pe_listZip {X : Cx} {e e2 : Expr} {ta : TA} {pl p pos pos2 : Pos} (hc : X.calm = true) (hgl : Gl X "list") (hml : X.mg "list" = none) (hg : Gl X "zip") (hm : X.mg "zip" = none) (ha : PA X [e, e2] ta)
    (hs : starEach [e, e2] X.env = (false, eval e X.env) :: starEach [e2] X.env := by rfl) (hpl : (backTo pos (starEach [e2] X.env)).any (·.1) = false := by rfl)
    (na : starEach [Expr.Call (.Name "zip" p) [e, e2] [] pos] X.env = (false, eval (Expr.Call (.Name "zip" p) [e, e2] [] pos) X.env) :: starEach [] X.env := by rfl) :
    PE X (.Call (.Name "list" pl) [.Call (.Name "zip" p) [e, e2] [] pos] [] pos2) (tLz X.K ta) := by
  refine ⟨fun pins s σ H Q I h => ?_⟩
  have zr : wpAny (model X.prog X.w) X.A (eval (Expr.Call (.Name "zip" p) [e, e2] [] pos) X.env) (fun x s' => ∃ (s1 : Shared) (H1 : Hp) (a b : Addr) (xs ys : List V) (its its2 : List Value) (h' : Heap), x = .ref (s1.heap.objs.size + 4) ∧ s' = { s1 with heap := h' } ∧ Inv X pins σ H1 s1 ∧
      IsZip h' (s1.heap.objs.size + 4) (s1.heap.objs.size + 2) (s1.heap.objs.size + 3) .none ∧ IsPair h' (s1.heap.objs.size + 2) (.ref s1.heap.objs.size) (.ref (s1.heap.objs.size + 1)) ∧ IsPair h' (s1.heap.objs.size + 3) .none .none ∧
      h'.IsListIter s1.heap.objs.size a 0 ∧ h'.IsListIter (s1.heap.objs.size + 1) b 0 ∧ (∀ c o, s1.heap.get? c = some o → h'.get? c = some o) ∧ s1.heap.IsList a its.toArray ∧ s1.heap.IsList b its2.toArray ∧ a < s1.heap.objs.size ∧ b < s1.heap.objs.size ∧ Vals xs its ∧ Vals ys its2 ∧ h'.objs.size = s1.heap.objs.size + 5 ∧
      xs.length = ys.length ∧ xs.length ≤ 1000000 ∧
      ∀ (D : Addr) (Ts : List Addr) (H2 : Hp), H1 D = none → (∀ a o, H1 a = some o → H2 a = some o) → Ts.length = xs.length → H2 D = some (.lst (Ts.map V.ref)) → (∀ (j : Nat) x y, xs[j]? = some x → ys[j]? = some y → ∃ T, Ts[j]? = some T ∧ H1 T = none ∧ H2 T = some (.tup [x, y])) → Q (.ref D) H2) X.xe s := by
    refine Call_ (ld_blt I hg hm PyProof.Rows.boot_zip (PyProof.Rows.callWith_type1 (thn (ha.run pos pins s σ H _ I h) fun us s1 ⟨vs, H1, I1, r1, q1⟩ => ?_) hs hpl))
    obtain ⟨a, b, xs, ys, ex, hqx, hqy, hl, hz, q⟩ := q1
    subst ex
    cases r1 with
    | cons r rr =>
      cases rr with
      | cons r' rr =>
        cases rr
        cases r
        cases r'
        obtain ⟨its, rv, p1, _⟩ := I1.list hqx
        obtain ⟨its2, rv2, p2, _⟩ := I1.list hqy
        refine call_zip_2 p1.isList p2.isList fun h' hz' hTI hTO h1 h2 hsz hk => ?_
        exact ⟨s1, H1, a, b, xs, ys, its, its2, h', rfl, rfl, I1, hz', hTI, hTO, h1, h2, hk, p1.isList, p2.isList, p1.lt, p2.lt, rv, rv2, hsz, hl, hz, q⟩
  refine Call_ (ld_blt I hgl hml boot_list (PyProof.Rows.callWith_type1 (args_cons (thn zr fun x s' ⟨s1, H1, a, b, xs, ys, its, its2, h', ex, es, I1, hz', hTI, hTO, h1, h2, hk, g1, g2, la, lb, rv, rv2, hsz, hl, hz, q⟩ => args_nil ?_) na) na))
  subst ex
  subst es
  have l1 := rv.length
  have l2 := rv2.length
  refine ZL.call_list_zip (I1.ok.hd hc) (PySem.W.ktu_apart s1.heap.objs.size a b la lb) (xs := its.toArray) (ys := its2.toArray) (by rw [List.size_toArray, sizeLine_eq]; omega) (by rw [List.size_toArray, List.size_toArray]; omega) hz' hTI ⟨_, _, hTO⟩ h1 h2 (g1.at fun o e => hk _ o e) (g2.at fun o e => hk _ o e) fun h2' acc c' hk2 hS hP => ?_
  obtain ⟨P1, P2, P3⟩ := hP
  have P1' : acc.size = its.length := by simpa using P1
  have P2' : ∀ j, j < its.length → j < its.toArray.size := fun j hj => by simpa using hj
  obtain ⟨Ts, hTs⟩ := zl_refs acc.toList fun v hv => by
    obtain ⟨j, hj⟩ := List.mem_iff_getElem?.mp hv
    have hj' : acc[j]? = some v := by rw [← Array.getElem?_toList]; exact hj
    have hlt : j < its.length := by rw [← P1']; exact (Array.getElem?_eq_some_iff.mp hj').1
    obtain ⟨T, _, _, e1, _⟩ := P2 j (P2' j hlt)
    rw [hj'] at e1
    exact ⟨T, Option.some.inj e1⟩
  have lT : Ts.length = its.length := by
    have := congrArg List.length hTs
    rw [List.length_map, Array.length_toList] at this
    omega
  have atT : ∀ (j : Nat) (T : Addr), Ts[j]? = some T ↔ acc[j]? = some (Value.ref T) := fun j T => by
    rw [← Array.getElem?_toList, hTs, List.getElem?_map]
    cases Ts[j]? with
    | none => simp
    | some U => simp
  have hsz2 : h'.objs.size = s1.heap.objs.size + 5 := hsz
  have kk : ∀ c u, s1.heap.get? c = some u → h2'.get? c = some u := fun c u e => by
    have lc := Heap.lt_size e
    exact hk2 c u (Nat.ne_of_lt (Nat.lt_of_lt_of_le lc (Nat.le_add_right _ _))) (Nat.ne_of_lt (Nat.lt_of_lt_of_le lc (Nat.le_add_right _ _))) (Nat.ne_of_lt lc) (Nat.ne_of_lt (Nat.lt_of_lt_of_le lc (Nat.le_add_right _ _))) (hk c u e)
  have hgt : ∀ p ∈ Ts.zip (xs.zip ys), h'.objs.size + 1 ≤ p.1 ∧ ∃ u v, RelV p.2.1 u ∧ RelV p.2.2 v ∧ IsPair h2' p.1 u v := fun p hp => by
    obtain ⟨j, hj⟩ := List.mem_iff_getElem?.mp hp
    obtain ⟨T, x, y⟩ := p
    obtain ⟨e1, e2⟩ := List.getElem?_zip_eq_some.mp hj
    obtain ⟨e3, e4⟩ := List.getElem?_zip_eq_some.mp e2
    obtain ⟨u, hu, ru⟩ := rv.get e3
    obtain ⟨v, hv, rv'⟩ := rv2.get e4
    have hlt : j < its.length := (List.getElem?_eq_some_iff.mp hu).1
    obtain ⟨T', u', v', f1, f2, f3, f4, f5⟩ := P2 j (P2' j hlt)
    have f6 := (atT j T).mp e1
    rw [f1] at f6
    cases f6
    have f2' : its[j]? = some u' := by simpa using f2
    have f3' : its2[j]? = some v' := by simpa using f3
    rw [hu] at f2'
    rw [hv] at f3'
    cases f2'
    cases f3'
    exact ⟨f5, u, v, ru, rv', f4⟩
  have srt : (Ts.zip (xs.zip ys)).Pairwise (fun p q => p.1 < q.1) := by
    rw [List.pairwise_iff_getElem]
    intro i j hi hj hij
    have hi' : i < Ts.length := by rw [List.length_zip] at hi; omega
    have hj' : j < Ts.length := by rw [List.length_zip] at hj; omega
    simp only [List.getElem_zip]
    exact P3 i j _ _ hij ((atT i _).mp (List.getElem?_eq_getElem hi')) ((atT j _).mp (List.getElem?_eq_getElem hj'))
  have low : ∀ c, H1 c ≠ none → c < s1.heap.objs.size := fun c hc' => by
    cases e : H1 c with
    | none => exact absurd e hc'
    | some u => exact I1.hok.lt e
  have fin : ∀ H2 : Hp, H2 = (fun c => if c < s1.heap.objs.size then H1 c else if c = h'.objs.size then some (.lst (Ts.map V.ref)) else tupAt (Ts.zip (xs.zip ys)) c) → Inv X pins σ H2 { s1 with heap := h2' } ∧ Q (.ref h'.objs.size) H2 := by
    intro H2 e2
    have hlow : ∀ c, c < s1.heap.objs.size → H2 c = H1 c := fun c hc' => by rw [e2]; exact if_pos hc'
    have hD : H2 h'.objs.size = some (.lst (Ts.map V.ref)) := by
      have n : ¬ h'.objs.size < s1.heap.objs.size := by omega
      rw [e2]; simp [n]
    have hT : ∀ c, h'.objs.size < c → H2 c = tupAt (Ts.zip (xs.zip ys)) c := fun c hc' => by
      have n : ¬ c < s1.heap.objs.size := by
        intro z
        have := Nat.lt_trans hc' z
        omega
      have n2 : c ≠ h'.objs.size := Nat.ne_of_gt hc'
      rw [e2]; simp [n, n2]
    refine ⟨I1.laids (t' := s1.toks) kk hlow fun c u hc' e => ?_, q _ Ts H2 (I1.hok.fresh (by omega)) (fun c o e => by rw [hlow c (I1.hok.lt e)]; exact e) (by omega) hD fun j x y e1 e3 => ?_⟩
    · by_cases hb : c = h'.objs.size
      · subst hb
        rw [hD] at e
        cases e
        refine ⟨by rw [List.length_map, sizeLine_eq]; omega, acc.toList, c', ?_, by rw [Array.toArray_toList]; exact hS⟩
        rw [hTs]
        exact zl_vals Ts
      · rw [e2] at e
        simp only [] at e
        rw [if_neg (by omega), if_neg hb] at e
        obtain ⟨p, hp, e3, rfl⟩ := tupAt_some e
        obtain ⟨_, u, v, ru, rv', hpair⟩ := hgt p hp
        rw [e3] at hpair
        exact ⟨by show 2 ≤ sizeLine; decide, [u, v], .cons ru (.cons rv' .nil), ⟨_, hpair, rfl, _, rfl⟩⟩
    · have hlt : j < Ts.length := by
        have := (List.getElem?_eq_some_iff.mp e1).1
        omega
      have hm : (Ts[j], x, y) ∈ Ts.zip (xs.zip ys) := List.mem_of_getElem? (i := j) (List.getElem?_zip_eq_some.mpr ⟨List.getElem?_eq_getElem hlt, List.getElem?_zip_eq_some.mpr ⟨e1, e3⟩⟩)
      have := (hgt _ hm).1
      have hB : s1.heap.objs.size ≤ Ts[j] := Nat.le_trans (by omega) this
      refine ⟨Ts[j], List.getElem?_eq_getElem hlt, I1.hok.fresh hB, ?_⟩
      rw [hT _ (by simp only at this; omega)]
      exact tupAt_mem srt _ hm
  obtain ⟨J1, J2⟩ := fin _ rfl
  exact ⟨.ref h'.objs.size, _, J1, rfl, J2⟩
end L2
namespace SC
open PySem PySem.Spec PyProof.Rows L2
theorem g_lz {K : PySem.W.Frag} {ta : TA} {σ : L2.St} {H : Hp} {Q : VK} (q : ta σ H fun vs H1 => ∃ a b xs ys, vs = [.ref a, .ref b] ∧ SqL K H1 a xs ∧ SqL K H1 b ys ∧ xs.length = ys.length ∧ xs.length ≤ 1000000 ∧
  ∀ (D : Addr) (Ts : List Addr) (H2 : Hp), H1 D = none → (∀ a o, H1 a = some o → H2 a = some o) → Ts.length = xs.length → H2 D = some (.lst (Ts.map V.ref)) → (∀ (j : Nat) x y, xs[j]? = some x → ys[j]? = some y → ∃ T, Ts[j]? = some T ∧ H1 T = none ∧ H2 T = some (.tup [x, y])) → Q (.ref D) H2) : tLz K ta σ H Q := q
end SC
namespace SC
open PySem PySem.Spec PyProof.Rows L2 StrLaws

/-! ## // by a divisor of either sign; a statement that is never come to; d.update(e), all keys new -/
/-- a divisor above or below 0, of any size below 2 ^ 9000 -/
def CDivX (_ j : Int) : Prop := j ≠ 0 ∧ j.natAbs.log2 < 9000
section
variable {X : Cx}
theorem op_fdivX : OpR X (binaryOp .FloorDiv) (rI CDivX fun i j => .int (i.fdiv j)) := opI fun i j _ _ _ _ _ hc q =>
  floordiv_int hc.1 q (.inl (PyProof.noPylong_of_log2 hc.2))
def tNever : TS := fun _ _ _ => False
theorem ps_never {st : Stmt} : PS X st tNever := ⟨fun _ _ _ _ _ _ h => h.elim⟩
def rUpdK : V → List V → Hp → VK → Prop := fun x xs H Q => ∃ (d e : Addr) (kvs more : List (L2.Key × V)), x = .ref d ∧ xs = [.ref e] ∧ H d = some (.dK kvs) ∧ H e = some (.dK more) ∧ d ≠ e ∧ ((kvs ++ more).map (·.1)).Nodup ∧ kvs.length + more.length ≤ sizeLine ∧
  Q .non (upd H d (.dK (kvs ++ more)))
theorem kv_app {kvs more : List (L2.Key × V)} {vs vs2 : List (L2.Key × Value)} (r : KV kvs vs) (r2 : KV more vs2) : KV (kvs ++ more) (vs ++ vs2) := by
  unfold KV at r r2 ⊢
  induction r with
  | nil => exact r2
  | cons h t ih => exact .cons h ih
theorem mt_updK : MtR X "dict.update" rUpdK := by
  intro pins s σ H x xs v us Q I rx rxs h
  obtain ⟨d, e, kvs, more, rfl, rfl, hd, he, hne, hnd, hz, q⟩ := h
  cases rx
  obtain ⟨u, rfl, r1⟩ := vals1 rxs
  cases r1
  obtain ⟨z, hsd, vs, rel, dd⟩ := dk_of I.hok hd
  obtain ⟨z2, hse, vs2, rel2, de⟩ := dk_of I.hok he
  refine call_meetsIn PySem.F.slot_dict_update dd.typeIs PySem.F.entry_dict_update (PySem.F.args_dict_update_2 _ _) (meets_dict_update (mixKind X.prog X.w) d e hne hse)
    ⟨vs, vs2, dd, de, by rw [← rel.length, ← rel2.length]; exact hz, fun h' dd' de' hs => ?_⟩
  have hm : merged vs vs2 = vs ++ vs2 := merged_append_of_fresh vs vs2 (by rw [List.map_append, ← rel.keys, ← rel2.keys, ← List.map_append]; exact hnd)
  rw [hm] at dd'
  have he' : ∃ q, h'.get? d = some q := let ⟨q, _, _, hq, _⟩ := dd'; ⟨q, hq⟩
  exact ⟨.non, _, d_write (t' := s.toks) I (by rw [hd]; exact True.intro) hs he' (dk_new (by rw [List.length_append]; exact hz) hsd (kv_app rel rel2) dd'), rfl, q⟩
end
theorem g_iEnum {K : PySem.W.Frag} {ta : TA} {σ : L2.St} {H : Hp} {R : It → Hp → Prop} (q : ta σ H fun vs H1 => ∃ a xs, vs = [.ref a] ∧ SqL K H1 a xs ∧ R (Ite K a) H1) : iEnum K ta σ H R := q
/-- for i, x in enumerate(l), l a list -/
theorem for_EL {K : PySem.W.Frag} {a : Addr} {xs : List V} {g : TG} {tb : TS} {nx : L2.St → Hp → Prop} {rt : VK} {σ : L2.St} {H : Hp} (Pv : Nat → L2.St → Hp → Prop) (h0 : Pv 0 σ H)
    (hq : ∀ i σ H, Pv i σ H → SqL K H a xs)
    (hs : ∀ i x T σ H, xs[i]? = some x → Pv i σ H → H T = none → g (.ref T) σ (upd H T (.tup [.int (i : Nat), x])) fun σ2 H2 => tb { nx := Pv (i + 1), rt := rt, bk := nx, ct := Pv (i + 1) } σ2 H2)
    (hd : ∀ σ H, Pv xs.length σ H → nx σ H) : ForGoal (Ite K a) g tb nx rt σ H :=
  for_W (walk_enum (xs := xs)) Pv h0 (fun i σ H _ p => hq i σ H p) (fun i x σ H H' hi p y => by
    obtain ⟨T, u, v, rfl, h1, rfl, h3, h4⟩ := y
    obtain rfl := Option.some.inj h3
    exact hs i v T σ H h4 p h1) hd
theorem l_tyK {K : PySem.W.Frag} {H : Hp} {a : Addr} {kvs : List (L2.Key × V)} {P : Prop} (h : H a = some (.dK kvs)) (q : P) : tyV K "dict" (.ref a) H ∧ P := ⟨.inr (.inr (.inl ⟨rfl, .inl ⟨kvs, h⟩⟩)), q⟩
end SC
/-! ## tuple(zip(xs, ys)), two lists -/
namespace ZL
open PySem PySem.W PyProof.Rows Srt SrtO
section
variable {prog : Program} {w : World} {A : Around} {E : Value → Shared → Prop} {s : Shared}
theorem collect_zip {Q : List Value → Shared → Prop} (hh : A.handled = none) {z TI TO i1 i2 l1 l2 : Addr} {xs ys : Array Value} (D : ZipApart z TI TO i1 i2 l1 l2) (hn : xs.size ≤ sizeLine) (hxy : xs.size = ys.size)
    (hz : IsZip s.heap z TI TO .none) (hTI : IsPair s.heap TI (.ref i1) (.ref i2)) (hTO : ∃ a b, IsPair s.heap TO a b) (h1 : s.heap.IsListIter i1 l1 0) (h2 : s.heap.IsListIter i2 l2 0) (hl1 : s.heap.IsList l1 xs) (hl2 : s.heap.IsList l2 ys)
    (hQ : ∀ h' acc, (∀ a o, a ≠ z → a ≠ TO → a ≠ i1 → a ≠ i2 → s.heap.get? a = some o → h'.get? a = some o) → s.heap.objs.size < h'.objs.size →
      PairsTo h' (s.heap.objs.size + 1) xs ys acc xs.size → Q acc.toList { s with heap := h' }) :
    wpAny (model prog w) A (collect (.ref z)) Q E s := by
  have lz : z < s.heap.objs.size := Heap.lt_size hz
  have lTI : TI < s.heap.objs.size := Heap.lt_size hTI
  have lTO : TO < s.heap.objs.size := by obtain ⟨_, _, e⟩ := hTO; exact Heap.lt_size e
  have li1 : i1 < s.heap.objs.size := by obtain ⟨_, e, _⟩ := h1; exact Heap.lt_size e
  have li2 : i2 < s.heap.objs.size := by obtain ⟨_, e, _⟩ := h2; exact Heap.lt_size e
  have ll1 : l1 < s.heap.objs.size := by obtain ⟨_, e, _⟩ := hl1; exact Heap.lt_size e
  have ll2 : l2 < s.heap.objs.size := by obtain ⟨_, e, _⟩ := hl2; exact Heap.lt_size e
  have nS : s.heap.objs.size ∉ [z, TI, TO, i1, i2, l1, l2] := by
    simp only [List.mem_cons, List.not_mem_nil, or_false, not_or]
    exact ⟨Nat.ne_of_gt lz, Nat.ne_of_gt lTI, Nat.ne_of_gt lTO, Nat.ne_of_gt li1, Nat.ne_of_gt li2, Nat.ne_of_gt ll1, Nat.ne_of_gt ll2⟩
  have hh1 : A.in1.handled = none := hh
  unfold collect
  refine wpAny_bind (wpAny_runValue (codeAny_builtin entry_proto_collect' ?_))
  rw [Around.under_plainId PySem.F.plain_proto_collect _]
  show wpAny _ A.in1 (newList [] >>= fun l => again (.builtin "list.__iadd__" ⟨[l, .ref z], []⟩)) _ _ s
  refine wpAny_bind (wpAny_newObj_type ?_)
  refine wpAny_pure ⟨plainId_quiet PySem.F.plain_list_iadd _, codeAny_builtin entry_list_iadd' ?_⟩
  rw [Around.under_plainId PySem.F.plain_list_iadd _]
  have hS₁ : (s.heap.push { cls := .type "list", data := .seq ([] : List Value).toArray }).get? s.heap.objs.size = some { cls := .type "list", data := .seq #[] } := Heap.get?_push_size _ rfl
  have up : ∀ a o, s.heap.get? a = some o → (s.heap.push { cls := .type "list", data := .seq ([] : List Value).toArray }).get? a = some o := fun a o q => Heap.get?_push_of_some _ q
  show wpAny _ A.in1 (Builtin.List.listExtendWith (.ref s.heap.objs.size) (.ref z) (.ref s.heap.objs.size)) _ _ _
  have Z : ZipSt (s.heap.push { cls := .type "list", data := .seq ([] : List Value).toArray }) s.heap.objs.size z TI TO i1 i2 l1 l2 xs ys 0 :=
    ⟨.inl (up _ _ hz), up _ _ hTI, by obtain ⟨a, b, q⟩ := hTO; exact ⟨a, b, up _ _ q⟩, h1.at fun o q => up _ _ q, h2.at fun o q => up _ _ q, hl1.at fun o q => up _ _ q, hl2.at fun o q => up _ _ q⟩
  have key := extend_zip (prog := prog) (w := w) (A := A) (s := { s with heap := s.heap.push { cls := .type "list", data := .seq ([] : List Value).toArray } })
    (R := fun (q : Result) (s' : Shared) => ∃ (h' : Heap) (acc' : Array Value) (c' : Nat), q = .ok (.ret (.ref s.heap.objs.size)) ∧ s' = { s with heap := h' } ∧
      (∀ a o, a ≠ z → a ≠ TO → a ≠ i1 → a ≠ i2 → s.heap.get? a = some o → h'.get? a = some o) ∧ h'.get? s.heap.objs.size = some { cls := .type "list", dict := none, data := .seq acc' c', slots := #[] } ∧ PairsTo h' (s.heap.objs.size + 1) xs ys acc' xs.size)
    hh D hn hxy nS (s.heap.objs.size + 1) ⟨Nat.lt_succ_self _, Nat.lt_succ_of_lt lz, Nat.lt_succ_of_lt lTO, Nat.lt_succ_of_lt li1, Nat.lt_succ_of_lt li2⟩ (.ref s.heap.objs.size) 0
    (by show s.heap.objs.size + 1 ≤ (s.heap.push _).objs.size; rw [Heap.size_push]; exact Nat.le_refl _) Z (up _ _ hz) hS₁
    (fun h' acc' c' hk hS' hacc => ⟨h', acc', c', rfl, rfl, fun a o a1 a2 a3 a4 q => hk a o (Nat.ne_of_lt (Heap.lt_size q)) a1 a2 a3 a4 (up _ _ q), hS', hacc⟩)
  refine wpAny_mono key (fun fin s' x => ?_) fun e s' x => ?_
  · cases fin with
    | done f =>
      obtain ⟨h', acc', c', e, rfl, hk, hS', hacc⟩ := x
      cases e
      show wpAny _ A (load s.heap.objs.size >>= _) _ _ _
      refine wpAny_bind (wpAny_load hS' ?_)
      exact wpAny_pure (hQ h' acc' hk (Heap.lt_size hS') hacc)
    | again c₁ =>
      refine ⟨x.1, codeAny_mono x.2 fun q s₂ y => ?_⟩
      obtain ⟨h', acc', c', rfl, rfl, hk, hS', hacc⟩ := y
      show wpAny _ A (load s.heap.objs.size >>= _) _ _ _
      refine wpAny_bind (wpAny_load hS' ?_)
      exact wpAny_pure (hQ h' acc' hk (Heap.lt_size hS') hacc)
  · obtain ⟨_, _, _, e', _⟩ := x
    cases e'
theorem code_tuple_new_zip {Q₁ : Value → Shared → Prop} (hh : A.handled = none) {z TI TO i1 i2 l1 l2 : Addr} {xs ys : Array Value} (D : ZipApart z TI TO i1 i2 l1 l2) (hn : xs.size ≤ sizeLine) (hxy : xs.size = ys.size)
    (hz : IsZip s.heap z TI TO .none) (hTI : IsPair s.heap TI (.ref i1) (.ref i2)) (hTO : ∃ a b, IsPair s.heap TO a b) (h1 : s.heap.IsListIter i1 l1 0) (h2 : s.heap.IsListIter i2 l2 0) (hl1 : s.heap.IsList l1 xs) (hl2 : s.heap.IsList l2 ys)
    (h : ∀ h' acc, (∀ a o, a ≠ z → a ≠ TO → a ≠ i1 → a ≠ i2 → s.heap.get? a = some o → h'.get? a = some o) → s.heap.objs.size < h'.objs.size →
      PairsTo h' (s.heap.objs.size + 1) xs ys acc xs.size → Q₁ (.ref h'.objs.size) { s with heap := h'.push { cls := .type "tuple", data := .seq acc } }) :
    codeAny (model prog w) A (.call (.builtin "tuple.__new__") ⟨[.type "tuple", .ref z], []⟩) (wants Q₁ E) s := by
  refine codeAny_of_tree ?_
  show wpAny _ A.in1 (do checkBuiltinCall "tuple.__new__" ⟨[.type "tuple", .ref z], []⟩; again (.builtin "tuple.__new__" ⟨[.type "tuple", .ref z], []⟩)) _ _ s
  refine wpAny_bind (wpAny_of_eq (F.newCall_tuple_1 _) (wpAny_pure ⟨plainId_quiet F.plain_tuple_new _, codeAny_builtin F.entry_tuple_new ?_⟩))
  rw [Around.under_plainId F.plain_tuple_new _]
  have hsub := sub_tuple_self
  have hinit := init_tuple_lookup
  have hmh := madeHere_tuple
  have hTI' : s.TypeIs (.ref z) "zip" := ⟨_, hz, rfl⟩
  have hh1 : A.in1.handled = none := hh
  have hh2 : A.in1.in1.handled = none := hh
  wp_walk using wpAny_typeOf hTI', collect_zip hh1 D hn hxy hz hTI hTO h1 h2 hl1 hl2
  intro h' acc hk hlt hacc
  show wpAny _ _ (Builtin.Tuple.tupleExact acc.toList.toArray >>= fun v => ret v) _ _ _
  unfold Builtin.Tuple.tupleExact
  refine wpAny_bind (wpAny_newObj_type ?_ (by show acc.toList.toArray.size ≤ sizeLine; simp only [Array.toArray_toList]; rw [hacc.1]; exact hn))
  refine wpAny_pure ?_
  have e : acc.toList.toArray = acc := by simp
  rw [e]
  exact h h' acc hk hlt hacc
theorem call_tuple_zip {Q : Value → Shared → Prop} (hh : A.handled = none) {z TI TO i1 i2 l1 l2 : Addr} {xs ys : Array Value} (D : ZipApart z TI TO i1 i2 l1 l2) (hn : xs.size ≤ sizeLine) (hxy : xs.size = ys.size)
    (hz : IsZip s.heap z TI TO .none) (hTI : IsPair s.heap TI (.ref i1) (.ref i2)) (hTO : ∃ a b, IsPair s.heap TO a b) (h1 : s.heap.IsListIter i1 l1 0) (h2 : s.heap.IsListIter i2 l2 0) (hl1 : s.heap.IsList l1 xs) (hl2 : s.heap.IsList l2 ys)
    (hQ : ∀ h' acc, (∀ a o, a ≠ z → a ≠ TO → a ≠ i1 → a ≠ i2 → s.heap.get? a = some o → h'.get? a = some o) → s.heap.objs.size < h'.objs.size →
      PairsTo h' (s.heap.objs.size + 1) xs ys acc xs.size → Q (.ref h'.objs.size) { s with heap := h'.push { cls := .type "tuple", data := .seq acc } }) :
    wpAny (model prog w) A (call (.type "tuple") [.ref z]) Q E s := by
  have hh1 : A.in1.handled = none := hh
  refine callType_codes (Q₁ := fun obj s₁ => s₁.TypeIs obj "tuple" ∧ Q obj s₁) F.called_tuple (F.typeCall_tuple_1 _) F.entry_object_init
    (code_tuple_new_zip hh1 D hn hxy hz hTI hTO h1 h2 hl1 hl2 fun h' acc hk hlt hacc => ⟨⟨_, Heap.get?_push_size _ rfl, rfl⟩, hQ h' acc hk hlt hacc⟩) fun obj s₁ h₁ => ?_
  exact ⟨h₁.1, F.args_object_init_2 obj _, object_init_meets F.called_tuple.init.lookup F.called_tuple.made (by decide) prog w A.in1 _ s₁ ⟨h₁.1, rfl, h₁.2⟩⟩
end
end ZL
namespace L2
open PySem PySem.Spec PyProof.Rows
def tTz (K : PySem.W.Frag) (ta : TA) : TE := fun σ H Q => ta σ H fun vs H1 => ∃ a b xs ys, vs = [.ref a, .ref b] ∧ SqL K H1 a xs ∧ SqL K H1 b ys ∧ xs.length = ys.length ∧ xs.length ≤ 1000000 ∧
  ∀ (D : Addr) (Ts : List Addr) (H2 : Hp), H1 D = none → (∀ a o, H1 a = some o → H2 a = some o) → Ts.length = xs.length → H2 D = some (.tup (Ts.map V.ref)) → (∀ (j : Nat) x y, xs[j]? = some x → ys[j]? = some y → ∃ T, Ts[j]? = some T ∧ H1 T = none ∧ H2 T = some (.tup [x, y])) → Q (.ref D) H2
theorem pe_tupleZip {X : Cx} {e e2 : Expr} {ta : TA} {pl p pos pos2 : Pos} (hc : X.calm = true) (hgl : Gl X "tuple") (hml : X.mg "tuple" = none) (hg : Gl X "zip") (hm : X.mg "zip" = none) (ha : PA X [e, e2] ta)
    (hs : starEach [e, e2] X.env = (false, eval e X.env) :: starEach [e2] X.env := by rfl) (hpl : (backTo pos (starEach [e2] X.env)).any (·.1) = false := by rfl)
    (na : starEach [Expr.Call (.Name "zip" p) [e, e2] [] pos] X.env = (false, eval (Expr.Call (.Name "zip" p) [e, e2] [] pos) X.env) :: starEach [] X.env := by rfl) :
    PE X (.Call (.Name "tuple" pl) [.Call (.Name "zip" p) [e, e2] [] pos] [] pos2) (tTz X.K ta) := by
  refine ⟨fun pins s σ H Q I h => ?_⟩
  have zr : wpAny (model X.prog X.w) X.A (eval (Expr.Call (.Name "zip" p) [e, e2] [] pos) X.env) (fun x s' => ∃ (s1 : Shared) (H1 : Hp) (a b : Addr) (xs ys : List V) (its its2 : List Value) (h' : Heap), x = .ref (s1.heap.objs.size + 4) ∧ s' = { s1 with heap := h' } ∧ Inv X pins σ H1 s1 ∧
      IsZip h' (s1.heap.objs.size + 4) (s1.heap.objs.size + 2) (s1.heap.objs.size + 3) .none ∧ IsPair h' (s1.heap.objs.size + 2) (.ref s1.heap.objs.size) (.ref (s1.heap.objs.size + 1)) ∧ IsPair h' (s1.heap.objs.size + 3) .none .none ∧
      h'.IsListIter s1.heap.objs.size a 0 ∧ h'.IsListIter (s1.heap.objs.size + 1) b 0 ∧ (∀ c o, s1.heap.get? c = some o → h'.get? c = some o) ∧ s1.heap.IsList a its.toArray ∧ s1.heap.IsList b its2.toArray ∧ a < s1.heap.objs.size ∧ b < s1.heap.objs.size ∧ Vals xs its ∧ Vals ys its2 ∧ h'.objs.size = s1.heap.objs.size + 5 ∧
      xs.length = ys.length ∧ xs.length ≤ 1000000 ∧
      ∀ (D : Addr) (Ts : List Addr) (H2 : Hp), H1 D = none → (∀ a o, H1 a = some o → H2 a = some o) → Ts.length = xs.length → H2 D = some (.tup (Ts.map V.ref)) → (∀ (j : Nat) x y, xs[j]? = some x → ys[j]? = some y → ∃ T, Ts[j]? = some T ∧ H1 T = none ∧ H2 T = some (.tup [x, y])) → Q (.ref D) H2) X.xe s := by
    refine Call_ (ld_blt I hg hm PyProof.Rows.boot_zip (PyProof.Rows.callWith_type1 (thn (ha.run pos pins s σ H _ I h) fun us s1 ⟨vs, H1, I1, r1, q1⟩ => ?_) hs hpl))
    obtain ⟨a, b, xs, ys, ex, hqx, hqy, hl, hz, q⟩ := q1
    subst ex
    cases r1 with
    | cons r rr =>
      cases rr with
      | cons r' rr =>
        cases rr
        cases r
        cases r'
        obtain ⟨its, rv, p1, _⟩ := I1.list hqx
        obtain ⟨its2, rv2, p2, _⟩ := I1.list hqy
        refine call_zip_2 p1.isList p2.isList fun h' hz' hTI hTO h1 h2 hsz hk => ?_
        exact ⟨s1, H1, a, b, xs, ys, its, its2, h', rfl, rfl, I1, hz', hTI, hTO, h1, h2, hk, p1.isList, p2.isList, p1.lt, p2.lt, rv, rv2, hsz, hl, hz, q⟩
  refine Call_ (ld_blt I hgl hml boot_tuple (PyProof.Rows.callWith_type1 (args_cons (thn zr fun x s' ⟨s1, H1, a, b, xs, ys, its, its2, h', ex, es, I1, hz', hTI, hTO, h1, h2, hk, g1, g2, la, lb, rv, rv2, hsz, hl, hz, q⟩ => args_nil ?_) na) na))
  subst ex
  subst es
  have l1 := rv.length
  have l2 := rv2.length
  refine ZL.call_tuple_zip (I1.ok.hd hc) (PySem.W.ktu_apart s1.heap.objs.size a b la lb) (xs := its.toArray) (ys := its2.toArray) (by rw [List.size_toArray, sizeLine_eq]; omega) (by rw [List.size_toArray, List.size_toArray]; omega) hz' hTI ⟨_, _, hTO⟩ h1 h2 (g1.at fun o e => hk _ o e) (g2.at fun o e => hk _ o e) fun h2' acc hk2 hsz3 hP => ?_
  obtain ⟨P1, P2, P3⟩ := hP
  have P1' : acc.size = its.length := by simpa using P1
  have P2' : ∀ j, j < its.length → j < its.toArray.size := fun j hj => by simpa using hj
  obtain ⟨Ts, hTs⟩ := zl_refs acc.toList fun v hv => by
    obtain ⟨j, hj⟩ := List.mem_iff_getElem?.mp hv
    have hj' : acc[j]? = some v := by rw [← Array.getElem?_toList]; exact hj
    have hlt : j < its.length := by rw [← P1']; exact (Array.getElem?_eq_some_iff.mp hj').1
    obtain ⟨T, _, _, e1, _⟩ := P2 j (P2' j hlt)
    rw [hj'] at e1
    exact ⟨T, Option.some.inj e1⟩
  have lT : Ts.length = its.length := by
    have := congrArg List.length hTs
    rw [List.length_map, Array.length_toList] at this
    omega
  have atT : ∀ (j : Nat) (T : Addr), Ts[j]? = some T ↔ acc[j]? = some (Value.ref T) := fun j T => by
    rw [← Array.getElem?_toList, hTs, List.getElem?_map]
    cases Ts[j]? with
    | none => simp
    | some U => simp
  have hsz2 : h'.objs.size = s1.heap.objs.size + 5 := hsz
  have kk : ∀ c u, s1.heap.get? c = some u → h2'.get? c = some u := fun c u e => by
    have lc := Heap.lt_size e
    exact hk2 c u (Nat.ne_of_lt (Nat.lt_of_lt_of_le lc (Nat.le_add_right _ _))) (Nat.ne_of_lt (Nat.lt_of_lt_of_le lc (Nat.le_add_right _ _))) (Nat.ne_of_lt lc) (Nat.ne_of_lt (Nat.lt_of_lt_of_le lc (Nat.le_add_right _ _))) (hk c u e)
  have hgt : ∀ p ∈ Ts.zip (xs.zip ys), h'.objs.size + 1 ≤ p.1 ∧ ∃ u v, RelV p.2.1 u ∧ RelV p.2.2 v ∧ IsPair h2' p.1 u v := fun p hp => by
    obtain ⟨j, hj⟩ := List.mem_iff_getElem?.mp hp
    obtain ⟨T, x, y⟩ := p
    obtain ⟨e1, e2⟩ := List.getElem?_zip_eq_some.mp hj
    obtain ⟨e3, e4⟩ := List.getElem?_zip_eq_some.mp e2
    obtain ⟨u, hu, ru⟩ := rv.get e3
    obtain ⟨v, hv, rv'⟩ := rv2.get e4
    have hlt : j < its.length := (List.getElem?_eq_some_iff.mp hu).1
    obtain ⟨T', u', v', f1, f2, f3, f4, f5⟩ := P2 j (P2' j hlt)
    have f6 := (atT j T).mp e1
    rw [f1] at f6
    cases f6
    have f2' : its[j]? = some u' := by simpa using f2
    have f3' : its2[j]? = some v' := by simpa using f3
    rw [hu] at f2'
    rw [hv] at f3'
    cases f2'
    cases f3'
    exact ⟨f5, u, v, ru, rv', f4⟩
  have srt : (Ts.zip (xs.zip ys)).Pairwise (fun p q => p.1 < q.1) := by
    rw [List.pairwise_iff_getElem]
    intro i j hi hj hij
    have hi' : i < Ts.length := by rw [List.length_zip] at hi; omega
    have hj' : j < Ts.length := by rw [List.length_zip] at hj; omega
    simp only [List.getElem_zip]
    exact P3 i j _ _ hij ((atT i _).mp (List.getElem?_eq_getElem hi')) ((atT j _).mp (List.getElem?_eq_getElem hj'))
  have low : ∀ c, H1 c ≠ none → c < s1.heap.objs.size := fun c hc' => by
    cases e : H1 c with
    | none => exact absurd e hc'
    | some u => exact I1.hok.lt e
  have hkp : ∀ c u, h2'.get? c = some u → (h2'.push { cls := .type "tuple", data := .seq acc }).get? c = some u := fun c u e => Heap.get?_push_of_some _ e
  have hTlt : ∀ p ∈ Ts.zip (xs.zip ys), p.1 < h2'.objs.size := fun p hp => by
    obtain ⟨_, u, v, _, _, hpair⟩ := hgt p hp
    exact Heap.lt_size hpair
  have fin : ∀ H2 : Hp, H2 = (fun c => if c < s1.heap.objs.size then H1 c else if c = h2'.objs.size then some (.tup (Ts.map V.ref)) else tupAt (Ts.zip (xs.zip ys)) c) → Inv X pins σ H2 { s1 with heap := h2'.push { cls := .type "tuple", data := .seq acc } } ∧ Q (.ref h2'.objs.size) H2 := by
    intro H2 e2
    have hsz4 : h'.objs.size < h2'.objs.size := hsz3
    have big : s1.heap.objs.size ≤ h2'.objs.size := by omega
    have hlow : ∀ c, c < s1.heap.objs.size → H2 c = H1 c := fun c hc' => by rw [e2]; exact if_pos hc'
    have hD : H2 h2'.objs.size = some (.tup (Ts.map V.ref)) := by
      have n : ¬ h2'.objs.size < s1.heap.objs.size := by omega
      rw [e2]; simp [n]
    have hT : ∀ c, s1.heap.objs.size ≤ c → c ≠ h2'.objs.size → H2 c = tupAt (Ts.zip (xs.zip ys)) c := fun c hc' n2 => by
      have n : ¬ c < s1.heap.objs.size := by
        intro z
        exact Nat.lt_irrefl _ (Nat.lt_of_lt_of_le z hc')
      rw [e2]; simp [n, n2]
    refine ⟨I1.laids (t' := s1.toks) (fun c u e => hkp c u (kk c u e)) hlow fun c u hc' e => ?_, q _ Ts H2 (I1.hok.fresh big) (fun c o e => by rw [hlow c (I1.hok.lt e)]; exact e) (by omega) hD fun j x y e1 e3 => ?_⟩
    · by_cases hb : c = h2'.objs.size
      · subst hb
        rw [hD] at e
        cases e
        refine ⟨by rw [List.length_map, sizeLine_eq]; omega, acc.toList, ?_, ?_⟩
        · rw [hTs]
          exact zl_vals Ts
        · rw [Array.toArray_toList]
          exact IsTup.new _ _
      · rw [e2] at e
        simp only [] at e
        rw [if_neg (by omega), if_neg hb] at e
        obtain ⟨p, hp, e3, rfl⟩ := tupAt_some e
        obtain ⟨_, u, v, ru, rv', hpair⟩ := hgt p hp
        rw [e3] at hpair
        exact ⟨by show 2 ≤ sizeLine; decide, [u, v], .cons ru (.cons rv' .nil), ⟨_, hkp _ _ hpair, rfl, _, rfl⟩⟩
    · have hlt : j < Ts.length := by
        have := (List.getElem?_eq_some_iff.mp e1).1
        omega
      have hm : (Ts[j], x, y) ∈ Ts.zip (xs.zip ys) := List.mem_of_getElem? (i := j) (List.getElem?_zip_eq_some.mpr ⟨List.getElem?_eq_getElem hlt, List.getElem?_zip_eq_some.mpr ⟨e1, e3⟩⟩)
      have := (hgt _ hm).1
      have hB : s1.heap.objs.size ≤ Ts[j] := Nat.le_trans (by omega) this
      refine ⟨Ts[j], List.getElem?_eq_getElem hlt, I1.hok.fresh hB, ?_⟩
      have hl3 : Ts[j] < h2'.objs.size := hTlt _ hm
      rw [hT _ hB (Nat.ne_of_lt hl3)]
      exact tupAt_mem srt _ hm
  obtain ⟨J1, J2⟩ := fin _ rfl
  exact ⟨.ref h2'.objs.size, _, J1, rfl, J2⟩
end L2
namespace SC
open PySem PySem.Spec PyProof.Rows L2
theorem g_tz {K : PySem.W.Frag} {ta : TA} {σ : L2.St} {H : Hp} {Q : VK} (q : ta σ H fun vs H1 => ∃ a b xs ys, vs = [.ref a, .ref b] ∧ SqL K H1 a xs ∧ SqL K H1 b ys ∧ xs.length = ys.length ∧ xs.length ≤ 1000000 ∧
  ∀ (D : Addr) (Ts : List Addr) (H2 : Hp), H1 D = none → (∀ a o, H1 a = some o → H2 a = some o) → Ts.length = xs.length → H2 D = some (.tup (Ts.map V.ref)) → (∀ (j : Nat) x y, xs[j]? = some x → ys[j]? = some y → ∃ T, Ts[j]? = some T ∧ H1 T = none ∧ H2 T = some (.tup [x, y])) → Q (.ref D) H2) : tTz K ta σ H Q := q
end SC
namespace SC.R
open PySem PySem.Spec PyProof.Rows L2 StrLaws

/-! ## the deck with cells, a stamp and a count -/
structure Dk where
  d : Addr
  g : Addr
  c : Addr
abbrev Dk.l (δ : Dk) : List Addr := [δ.d, δ.g, δ.c]
abbrev rkv (gr cl : Addr) (st ct : Int) : List (L2.Key × V) := [(.inr ("deep" : Str), .ref gr), (.inr ("cells" : Str), .ref cl), (.inr ("stamp" : Str), .int st), (.inr ("count" : Str), .int ct)]
section
variable {gr cl : Addr} {st ct z : Int}
theorem rk_deep : valV (rkv gr cl st ct) (.inr ("deep" : Str)) = some (.ref gr) := by rfl
theorem rk_cells : valV (rkv gr cl st ct) (.inr ("cells" : Str)) = some (.ref cl) := by rfl
theorem rk_stamp : valV (rkv gr cl st ct) (.inr ("stamp" : Str)) = some (.int st) := by rfl
theorem rk_count : valV (rkv gr cl st ct) (.inr ("count" : Str)) = some (.int ct) := by rfl
theorem rk_pcount : putK (rkv gr cl st ct) (.inr ("count" : Str)) (.int z) = rkv gr cl st z := by rfl
end
structure BagAt (H : Hp) (δ : Dk) (gs cs : List Int) (st ct : Int) : Prop where
  d : H δ.d = some (.dK (rkv δ.g δ.c st ct))
  g : H δ.g = some (.lst (gs.map V.int))
  c : H δ.c = some (.lst (cs.map V.int))
  gc : δ.c ≠ δ.g
  few : gs.length ≤ 63
  cne : cs ≠ []
  cfew : cs.length ≤ 64
  st0 : 0 ≤ st
  st1 : st < 4294967291
def Bag (H : Hp) (δ : Dk) : Prop := ∃ gs cs st ct, BagAt H δ gs cs st ct
section
variable {H H' : Hp} {δ : Dk} {p : Addr} {o : HO}
theorem bag_nt (d : Bag H δ) : ∀ a ∈ δ.l, ∀ o, H a = some o → isT o = false := by
  obtain ⟨gs, cs, st, ct, d⟩ := d
  intro a ha o e
  simp only [Dk.l, List.mem_cons, List.not_mem_nil, or_false] at ha
  rcases ha with z | z | z
  · rw [z, d.d] at e; cases e; rfl
  · rw [z, d.g] at e; cases e; rfl
  · rw [z, d.c] at e; cases e; rfl
theorem ts_bag (d : Bag H δ) (s : Same (hid δ.l H) (hid δ.l H')) : TSame H H' := ts_hid (bag_nt d) s
theorem bag_some (d : Bag H δ) : ∀ a ∈ δ.l, (H a).isSome = true := by
  obtain ⟨gs, cs, st, ct, d⟩ := d
  intro a ha
  simp only [Dk.l, List.mem_cons, List.not_mem_nil, or_false] at ha
  rcases ha with z | z | z
  · rw [z, d.d]; rfl
  · rw [z, d.g]; rfl
  · rw [z, d.c]; rfl
theorem bag_new (d : Bag H δ) (s : Same H H') : Bag H' δ := by
  obtain ⟨gs, cs, st, ct, h⟩ := d
  exact ⟨gs, cs, st, ct, s _ _ h.d, s _ _ h.g, s _ _ h.c, h.gc, h.few, h.cne, h.cfew, h.st0, h.st1⟩
theorem bag_out (d : Bag H δ) (h : H p = none) : p ∉ δ.l := fun z => by
  have := bag_some d p z
  rw [h] at this; cases this
theorem bag_mut (d : Bag H δ) (h : p ∉ δ.l) : Bag (upd H p o) δ := by
  obtain ⟨gs, cs, st, ct, k⟩ := d
  simp only [Dk.l, List.mem_cons, List.not_mem_nil, or_false, not_or] at h
  exact ⟨gs, cs, st, ct, by rw [upd_ne (Ne.symm h.1)]; exact k.d, by rw [upd_ne (Ne.symm h.2.1)]; exact k.g, by rw [upd_ne (Ne.symm h.2.2)]; exact k.c, k.gc, k.few, k.cne, k.cfew, k.st0, k.st1⟩
theorem bag_free (D : Bag H' δ) (s : Same (hid δ.l H) (hid δ.l H')) (n : H' p = none) : H p = none := by
  cases e : H p with
  | none => rfl
  | some o =>
    have z := stay s (bag_some D) (some_of e)
    rw [n] at z; cases z
theorem bag_ts (D : Bag H δ) : TSame H (hid δ.l H) := fun a o e z =>
  hid_put (fun ha => by rw [bag_nt D a ha o e] at z; cases z) e
theorem tup_hid {xs : List V} (D : Bag H δ) (s : Same (hid δ.l H) (hid δ.l H')) (h : H p = some (.tup xs)) : H' p = some (.tup xs) := ts_bag D s _ _ h rfl
theorem lst_hid {xs : List V} (n : p ∉ δ.l) (s : Same (hid δ.l H) (hid δ.l H')) (h : H p = some (.lst xs)) : H' p = some (.lst xs) := (hid_get (s _ _ (hid_put n h))).2
end
theorem fm0 {a b : Int} (h : 0 < b) : 0 ≤ a.fmod b := Int.fmod_nonneg_of_pos a h
theorem fm1 {a b : Int} (h : 0 < b) : a.fmod b < b := Int.fmod_lt_of_pos a h
theorem wide_of {i j : Int} (h0 : 0 < j) (h : j ≤ 10 ^ 31) : CDivW i j := ⟨h0, by
  have h1 : j.natAbs ≠ 0 := by omega
  have h2 : j.natAbs < 2 ^ 110 := by omega
  have h3 : j.natAbs.log2 < 110 := (Nat.log2_lt h1).mpr h2
  omega⟩
end SC.R
namespace SC
open PySem PySem.Spec PyProof.Rows L2 StrLaws
theorem g_rng2 {tl : TA} {σ : L2.St} {H : Hp} {R : It → Hp → Prop} (q : tl σ H fun vs H1 => ∃ i j : Int, vs = [.int i, .int j] ∧ (-(2 ^ 62) ≤ i ∧ i < 2 ^ 62 ∧ -(2 ^ 62) ≤ j ∧ j < 2 ^ 62) ∧ R (Itr i (j - i).toNat) H1) : iRng2 tl σ H R := q
theorem g_rng3 {tl : TA} {σ : L2.St} {H : Hp} {R : It → Hp → Prop} (q : tl σ H fun vs H1 => ∃ (i j c : Int) (n : Nat), vs = [.int i, .int j, .int c] ∧ RgC i j c n ∧ R (Itc i c n) H1) : iRng3 tl σ H R := q
theorem for_C {lo c : Int} {n : Nat} {g : TG} {tb : TS} {nx : L2.St → Hp → Prop} {rt : VK} {σ : L2.St} {H : Hp} (Pv : Nat → L2.St → Hp → Prop) (h0 : Pv 0 σ H)
    (hs : ∀ i σ H, i < n → Pv i σ H → g (.int (lo + (i : Nat) * c)) σ H fun σ2 H2 => tb { nx := Pv (i + 1), rt := rt, bk := nx, ct := Pv (i + 1) } σ2 H2)
    (hd : ∀ σ H, Pv n σ H → nx σ H) : ForGoal (Itc lo c n) g tb nx rt σ H :=
  for_W walk_rangeC Pv h0 (fun _ _ _ _ _ => trivial) (fun i x σ H H' hi p y => by
    obtain ⟨rfl, rfl⟩ := y
    exact hs i σ _ hi p) hd
end SC
/-! ## the spread: the sum over all stages of the size of the share, less its part by the divisor -/
namespace SC
open PySem PySem.Spec PyProof.Rows L2 StrLaws
/-- what a stage adds, not yet in least terms -/
abbrev spq (p : Q4) : Int × Int := ((p.1.natAbs : Int) * (p.2.2.1 - 1), p.2.1 * p.2.2.1)
def sprF (l : List Q4) : List (Int × Int) := l.map fun p => lst (spq p).1 (spq p).2
def sprS (W : Int) : List Q4 → Int
  | [] => 0
  | p :: l => (spq p).1 * (W / (spq p).2) + sprS W l
theorem sprS_app (W : Int) : ∀ a b : List Q4, sprS W (a ++ b) = sprS W a + sprS W b
  | [], b => by simp [sprS]
  | p :: a, b => by simp only [List.cons_append, sprS, sprS_app W a b, Int.add_assoc]
theorem spq_pos {W : Int} {p : Q4} (h : Q4Ok p W) : 0 < (spq p).2 := Int.mul_pos h.low (by have := h.n1; omega)
theorem lst_0 {W : Int} (hW : 0 < W) : lst 0 W = (0, 1) := by
  rw [lst_eq (c := 0) (d := 1) hW (by decide) (by omega)]
  exact lst_01
theorem spr_fold {W : Int} (hW : 0 < W) : ∀ (l : List Q4) (S : Int), (∀ p ∈ l, Q4Ok p W) → (sprF l).foldl addF (lst S W) = lst (S + sprS W l) W
  | [], S, _ => by simp only [sprF, List.map_nil, List.foldl_nil, sprS, Int.add_zero]
  | p :: l, S, h => by
    have hp := h p (List.mem_cons_self ..)
    have ih := spr_fold hW l (S + (spq p).1 * (W / (spq p).2)) fun q hq => h q (List.mem_cons_of_mem _ hq)
    unfold sprF at ih ⊢
    rw [List.map_cons, List.foldl_cons, add_lst hW (spq_pos hp) hp.dv, ih]
    simp only [sprS, Int.add_assoc]
theorem spr_sum {W : Int} (hW : 0 < W) {l : List Q4} (h : ∀ p ∈ l, Q4Ok p W) : sumF (sprF l) = lst (sprS W l) W := by
  have := spr_fold hW l 0 h
  rw [lst_0 hW, Int.zero_add] at this
  exact this
theorem sprF_take (l : List Q4) (i : Nat) : (sprF l).take i = sprF (l.take i) := by
  unfold sprF
  rw [List.map_take]
theorem add_raw {f : Int × Int} {x y : Int} (hf : 0 < f.2) (hy : 0 < y) : addF f (lst x y) = addF f (x, y) := by
  unfold addF
  have h1 := lst_pos (a := x) hy
  refine lst_eq (Int.mul_pos hf h1) (Int.mul_pos hf hy) ?_
  have hc := lst_cross x y
  have e : (f.1 * (lst x y).2 + (lst x y).1 * f.2) * (f.2 * y) = f.1 * (lst x y).2 * (f.2 * y) + ((lst x y).1 * y) * (f.2 * f.2) := by
    rw [Int.add_mul]
    congr 1
    rw [Int.mul_assoc, Int.mul_assoc, ← Int.mul_assoc f.2 f.2 y, Int.mul_comm (f.2 * f.2) y]
  rw [e, hc]
  have e2 : (f.1 * y + x * f.2) * (f.2 * (lst x y).2) = f.1 * y * (f.2 * (lst x y).2) + x * (lst x y).2 * (f.2 * f.2) := by
    rw [Int.add_mul]
    congr 1
    rw [Int.mul_assoc, Int.mul_assoc, ← Int.mul_assoc f.2 f.2, Int.mul_comm (f.2 * f.2)]
  show _ = (f.1 * y + x * f.2) * (f.2 * (lst x y).2)
  rw [e2]
  congr 1
  ac_rfl
/-! bounds -/
theorem sprS_le {W : Int} {A B : Nat} (hW0 : 0 < W) : ∀ {l : List Q4}, (∀ p ∈ l, (spq p).1.natAbs ≤ A) → W.natAbs ≤ B → (∀ p ∈ l, Q4Ok p W) → (sprS W l).natAbs ≤ l.length * (A * B)
  | [], _, _, _ => by simp [sprS]
  | p :: l, h, hW, hp => by
    have ih := sprS_le hW0 (l := l) (fun q hq => h q (List.mem_cons_of_mem _ hq)) hW fun q hq => hp q (List.mem_cons_of_mem _ hq)
    have h1 := h p (List.mem_cons_self ..)
    have hq := hp p (List.mem_cons_self ..)
    have h2 : (W / (spq p).2).natAbs ≤ B := by
      have g0 := spq_pos hq
      obtain ⟨k, hk⟩ := hq.dv
      have e : W / (spq p).2 = k := by
        rw [hk]
        exact Int.mul_ediv_cancel_left _ (by show (spq p).2 ≠ 0; omega)
      rw [e]
      refine Nat.le_trans ?_ hW
      rw [hk, Int.natAbs_mul]
      exact Nat.le_mul_of_pos_left _ (by show 0 < (spq p).2.natAbs; omega)
    have h3 : ((spq p).1 * (W / (spq p).2)).natAbs ≤ A * B := by
      rw [Int.natAbs_mul]
      exact Nat.mul_le_mul h1 h2
    have h4 : (sprS W (p :: l)).natAbs ≤ ((spq p).1 * (W / (spq p).2)).natAbs + (sprS W l).natAbs := Int.natAbs_add_le _ _
    rw [List.length_cons, Nat.succ_mul]
    generalize (spq p).1 * (W / (spq p).2) = u at h3 h4
    omega
/-! the spread of a thing with other offsets, signs, orders -/
abbrev K3 := Nat × Int × Int
def kq (p : Q4) : K3 := (p.1.natAbs, p.2.1, p.2.2.1)
theorem sprS_key (W : Int) : ∀ l : List Q4, sprS W l = ((l.map kq).map fun k => ((k.1 : Int) * (k.2.2 - 1)) * (W / (k.2.1 * k.2.2))).sum
  | [] => rfl
  | p :: l => by
    simp only [sprS, List.map_cons, List.sum_cons, sprS_key W l]
    rfl
theorem sum_perm {l m : List Int} (h : l.Perm m) : l.sum = m.sum := by
  induction h with
  | nil => rfl
  | cons x _ ih => rw [List.sum_cons, List.sum_cons, ih]
  | swap x y l => simp only [List.sum_cons]; omega
  | trans _ _ ih1 ih2 => rw [ih1, ih2]
theorem sprS_perm {W : Int} {l m : List Q4} (h : (l.map kq).Perm (m.map kq)) : sprS W l = sprS W m := by
  rw [sprS_key, sprS_key]
  exact sum_perm (h.map _)
theorem sqL_flat (a b : Int) : ∀ ps : List (Int × Th), sqL a b ps = (ps.map fun p => p.2.sq (a * p.1) b).flatten
  | [] => rfl
  | (w, t) :: q => by simp only [sqL, List.map_cons, List.flatten_cons, sqL_flat a b q]
theorem sqL_perm (a b : Int) {ps qs : List (Int × Th)} (h : ps.Perm qs) : (sqL a b ps).Perm (sqL a b qs) := by
  rw [sqL_flat, sqL_flat]
  exact (h.map _).flatten
theorem prL_perm {ps qs : List (Int × Th)} (h : ps.Perm qs) : prL ps = prL qs := by
  induction h with
  | nil => rfl
  | cons x _ ih => simp only [prL, ih]
  | swap x y l => simp only [prL]; ac_rfl
  | trans _ _ ih1 ih2 => rw [ih1, ih2]
/-- a thing beside another one -/
structure Oth (t u : Th) : Prop where
  key : ∀ a a' b : Int, a'.natAbs = a.natAbs → ((u.sq a' b).map kq).Perm ((t.sq a b).map kq)
  pr : u.pr = t.pr
  fit : u.fit
  st : u.nSt = t.nSt
  inp : u.nIn = t.nIn
  dep : u.dep = t.dep
  isst : (∃ i, u = .inp i) ∨ ∃ n c ps, u = .st n c ps
theorem oth_inp (i : Int) : Oth (.inp i) (.inp i) := ⟨fun a a' b _ => by simp only [Th.sq]; exact List.Perm.refl _, rfl, by simp only [Th.fit], rfl, rfl, rfl, .inl ⟨i, rfl⟩⟩
/-- parts beside others -/
structure OthL (ps us : List (Int × Th)) : Prop where
  len : us.length = ps.length
  key : ∀ a a' b : Int, a'.natAbs = a.natAbs → ((sqL a' b us).map kq).Perm ((sqL a b ps).map kq)
  pr : prL us = prL ps
  fit : fitL us
  st : nStL us = nStL ps
  inp : nInL us = nInL ps
  dep : depL us = depL ps
theorem othL_nil : OthL [] [] := ⟨rfl, fun _ _ _ _ => List.Perm.refl _, rfl, by simp only [fitL], rfl, rfl, rfl⟩
theorem sqL_snoc (a b : Int) (ps : List (Int × Th)) (w : Int) (t : Th) : sqL a b (ps ++ [(w, t)]) = sqL a b ps ++ t.sq (a * w) b := by
  rw [sqL_flat, sqL_flat, List.map_append, List.flatten_append]
  simp
theorem prL_snoc : ∀ (ps : List (Int × Th)) (w : Int) (t : Th), prL (ps ++ [(w, t)]) = prL ps * t.pr
  | [], w, t => by simp [prL]
  | (x, y) :: q, w, t => by simp only [List.cons_append, prL, prL_snoc q, Int.mul_assoc]
theorem OthL.snoc {ps us : List (Int × Th)} (h : OthL ps us) {w w' : Int} {t u : Th} (ho : Oth t u) (hw : w'.natAbs = w.natAbs) (hz : w.natAbs ≤ ZN) : OthL (ps ++ [(w, t)]) (us ++ [(w', u)]) := by
  refine ⟨by rw [List.length_append, List.length_append, h.len]; rfl, fun a a' b e => ?_, by rw [prL_snoc, prL_snoc, h.pr, ho.pr], ?_, ?_, ?_, ?_⟩
  · rw [sqL_snoc, sqL_snoc, List.map_append, List.map_append]
    exact (h.key a a' b e).append (ho.key _ _ _ (by rw [Int.natAbs_mul, Int.natAbs_mul, e, hw]))
  · refine fitL_iff.mpr fun p hp => ?_
    rcases List.mem_append.mp hp with z | z
    · exact fitL_iff.mp h.fit p z
    · rw [List.mem_singleton.mp z]
      exact ⟨by show w'.natAbs ≤ ZN; omega, ho.fit⟩
  · rw [nStL_app, nStL_app, nStL_one, nStL_one, h.st]; show _ + u.nSt = _ + t.nSt; rw [ho.st]
  · rw [nInL_app, nInL_app, nInL_one, nInL_one, h.inp]; show _ + u.nIn = _ + t.nIn; rw [ho.inp]
  · rw [depL_app, depL_app, depL_one, depL_one, h.dep]; show max _ u.dep = max _ t.dep; rw [ho.dep]
theorem OthL.perm {ps us vs : List (Int × Th)} (h : OthL ps us) (hp : vs.Perm us) : OthL ps vs := by
  refine ⟨by rw [hp.length_eq, h.len], fun a a' b e => ((sqL_perm a' b hp).map kq).trans (h.key a a' b e), by rw [prL_perm hp, h.pr], fitL_iff.mpr fun p hm => fitL_iff.mp h.fit p (hp.mem_iff.mp hm), ?_, ?_, ?_⟩
  · rw [nStL_eq, (hp.map _).sum_nat, ← nStL_eq, h.st]
  · rw [nInL_eq, (hp.map _).sum_nat, ← nInL_eq, h.inp]
  · rw [← h.dep]
    refine Nat.le_antisymm (depL_le.mpr fun p hm => depL_le.mp (Nat.le_refl _) p (hp.mem_iff.mp hm)) (depL_le.mpr fun p hm => depL_le.mp (Nat.le_refl _) p (hp.mem_iff.mpr hm))
theorem OthL.stage {ps us : List (Int × Th)} (h : OthL ps us) {n c c' : Int} (n1 : 1 ≤ n) (n2 : n ≤ 10 ^ 30) (c0 : 0 ≤ c') (c1 : c' < n) : Oth (.st n c ps) (.st n c' us) := by
  refine ⟨fun a a' b e => ?_, ?_, ?_, ?_, ?_, ?_, .inr ⟨_, _, _, rfl⟩⟩
  · simp only [Th.sq, List.map_cons]
    have : kq (a', b, n, c') = kq (a, b, n, c) := by unfold kq; rw [e]
    rw [this]
    exact (h.key a a' (b * n) e).cons _
  · simp only [Th.pr, h.pr]
  · simp only [Th.fit]; exact ⟨n1, n2, c0, c1, h.fit⟩
  · simp only [Th.nSt, h.st]
  · simp only [Th.nIn, h.inp]
  · simp only [Th.dep, h.dep]
/-- the spread of a plan -/
def Th.spread (t : Th) : Int × Int := sumF (sprF (t.sq 1 1))
theorem spread_eq {t : Th} (h : t.fit) : t.spread = lst (sprS t.pr (t.sq 1 1)) t.pr :=
  spr_sum (pr_pos t h) fun p hp => by
    have := sq_ok t 1 1 h (by decide) p hp
    rwa [Int.one_mul] at this
theorem Oth.spread {t u : Th} (h : Oth t u) (ht : t.fit) : u.spread = t.spread := by
  rw [spread_eq h.fit, spread_eq ht, h.pr, sprS_perm (h.key 1 1 1 rfl)]
mutual
theorem sq_scale (k d : Int) : ∀ (t : Th) (a b : Int), t.sq (a * k) (b * d) = (t.sq a b).map fun p => (p.1 * k, p.2.1 * d, p.2.2)
  | .inp _, _, _ => by simp only [Th.sq, List.map_nil]
  | .st n c ps, a, b => by
    simp only [Th.sq, List.map_cons]
    rw [show b * d * n = b * n * d by ac_rfl, sqL_scale k d ps a (b * n)]
theorem sqL_scale (k d : Int) : ∀ (ps : List (Int × Th)) (a b : Int), sqL (a * k) (b * d) ps = (sqL a b ps).map fun p => (p.1 * k, p.2.1 * d, p.2.2)
  | [], _, _ => by simp only [sqL, List.map_nil]
  | (w, t) :: q, a, b => by
    simp only [sqL, List.map_append]
    rw [show a * k * w = a * w * k by ac_rfl, sq_scale k d t (a * w) b, sqL_scale k d q a b]
end
theorem sprS_scale {W k d : Int} (hd : 0 < d) : ∀ (l : List Q4), (∀ p ∈ l, Q4Ok p W) → sprS (d * W) (l.map fun p => (p.1 * k, p.2.1 * d, p.2.2)) = (k.natAbs : Int) * sprS W l
  | [], _ => by simp [sprS]
  | p :: l, h => by
    simp only [List.map_cons, sprS]
    rw [sprS_scale hd l fun q hq => h q (List.mem_cons_of_mem _ hq), Int.mul_add]
    congr 1
    have h0 := spq_pos (h p (List.mem_cons_self ..))
    have e : d * W / (p.2.1 * d * p.2.2.1) = W / (p.2.1 * p.2.2.1) := by
      rw [show p.2.1 * d * p.2.2.1 = d * (p.2.1 * p.2.2.1) by ac_rfl]
      exact Int.mul_ediv_mul_of_pos _ _ hd
    show ((p.1 * k).natAbs : Int) * (p.2.2.1 - 1) * (d * W / (p.2.1 * d * p.2.2.1)) = _
    rw [e, Int.natAbs_mul, Int.natCast_mul]
    ac_rfl
/-- one stage more around a plan -/
theorem spread_around {t : Th} (ht : t.fit) {n c k : Int} {i : Int} (n1 : 1 ≤ n) (n2 : n ≤ 10 ^ 30) (c0 : 0 ≤ c) (c1 : c < n) (hk : k.natAbs ≤ ZN) :
    (Th.st n c [(k, t), (1, .inp i)]).spread = addF (n - 1, n) (t.spread.1 * (k.natAbs : Int), t.spread.2 * n) := by
  have hW := pr_pos t ht
  have fw : (Th.st n c [(k, t), (1, .inp i)]).fit := by
    simp only [Th.fit, fitL]
    exact ⟨n1, n2, c0, c1, hk, ht, by decide +kernel, trivial, trivial⟩
  have hp : (Th.st n c [(k, t), (1, .inp i)]).pr = n * t.pr := by simp only [Th.pr, prL, Int.mul_one]
  have hs : (Th.st n c [(k, t), (1, .inp i)]).sq 1 1 = (1, 1, n, c) :: (t.sq 1 1).map fun p => (p.1 * k, p.2.1 * n, p.2.2) := by
    simp only [Th.sq, sqL, List.append_nil]
    rw [← sq_scale k n t 1 1]
  rw [spread_eq fw, spread_eq ht, hp, hs]
  simp only [sprS]
  rw [sprS_scale (by omega) _ fun p hp => by
    have := sq_ok t 1 1 ht (by decide) p hp
    rwa [Int.one_mul] at this]
  have e0 : (1 : Int) * n = n := Int.one_mul n
  have e1 : n * t.pr / (1 * n) = t.pr := by rw [e0]; exact Int.mul_ediv_cancel_left _ (by omega)
  rw [e1]
  generalize sprS t.pr (t.sq 1 1) = S
  generalize t.pr = W at hW
  have h1 : 0 < (lst S W).2 := lst_pos hW
  have hc := lst_cross S W
  unfold addF
  have hn : 0 < n := by omega
  have q1 : 0 < (lst S W).2 * n := Int.mul_pos h1 hn
  refine lst_eq (Int.mul_pos hn hW) (Int.mul_pos hn q1) ?_
  show ((1 : Int).natAbs * (n - 1) * W + k.natAbs * S) * (n * ((lst S W).2 * n)) = ((n - 1) * ((lst S W).2 * n) + (lst S W).1 * k.natAbs * n) * (n * W)
  have e2 : ((1 : Int).natAbs : Int) = 1 := rfl
  rw [e2, Int.one_mul, Int.add_mul, Int.add_mul]
  congr 1
  · ac_rfl
  · rw [show (lst S W).1 * (k.natAbs : Int) * n * (n * W) = ((lst S W).1 * W) * ((k.natAbs : Int) * n * n) by ac_rfl, hc]
    ac_rfl
end SC
/-! ## zip(t, l): a tuple beside a list -/
namespace SC
open PySem PySem.Spec PyProof.Rows L2 StrLaws
def ItzM (K : PySem.W.Frag) (a b : Addr) : It :=
  ⟨fun i H => ∃ (xs ys : List V) (x y : V), SqT K H a xs ∧ SqL K H b ys ∧ xs[i]? = some x ∧ ys[i]? = some y,
    fun i H v H' => ∃ T x y, v = .ref T ∧ H T = none ∧ H' = upd H T (.tup [x, y]) ∧ (∀ xs, SqT K H a xs → xs[i]? = some x) ∧ (∀ ys, SqL K H b ys → ys[i]? = some y),
    fun i H => ∃ xs ys : List V, SqT K H a xs ∧ SqL K H b ys ∧ i = min xs.length ys.length⟩
theorem turn_zipM {P : Program} {w : World} {K : PySem.W.Frag} {elts : List Expr} {kk : Nat} {tpos : Pos} {a b z TI TO i1 i2 : Addr} (S : ZipSep2 z TI TO i1 i2 [i1, a] [i2, b]) (na : a ≠ i1) (nb : b ≠ i2) :
    Turn P w K (.Tuple elts kk tpos) (ItzM K a b) [z, TI, TO, i1, i2] z (fun i h => IsZip h z TI TO .none ∧ IsTupOf2 h TI (.ref i1) (.ref i2) ∧ (∃ x y, IsTupOf2 h TO x y) ∧ h.IsTupleIter i1 a i ∧ h.IsListIter i2 b i) where
  mem := by simp
  obj := fun i h st d hd => by
    obtain ⟨hz, hTI, ⟨x, y, hTO⟩, ⟨o1, e1, _, d1⟩, ⟨o2, e2, _, d2⟩⟩ := st
    have e' : d = z ∨ d = TI ∨ d = TO ∨ d = i1 ∨ d = i2 := by simpa using hd
    rcases e' with q | q | q | q | q
    · rw [q]; exact ⟨_, hz, fun v q => nomatch q⟩
    · rw [q]; exact ⟨_, hTI, fun v q => nomatch q⟩
    · rw [q]; exact ⟨_, hTO, fun v q => nomatch q⟩
    · rw [q]; exact ⟨o1, e1, fun v q => by rw [d1] at q; cases q⟩
    · rw [q]; exact ⟨o2, e2, fun v q => by rw [d2] at q; cases q⟩
  keep := fun i h h' st k => by
    obtain ⟨hz, hTI, ⟨x, y, hTO⟩, h1, h2⟩ := st
    exact ⟨k z (by simp) _ hz, k TI (by simp) _ hTI, ⟨x, y, k TO (by simp) _ hTO⟩, h1.at fun o q => k i1 (by simp) o q, h2.at fun o q => k i2 (by simp) o q⟩
  item := by
    intro X hP hw hK hc i pins s σ H E I hf st hg
    subst hP hw hK
    obtain ⟨hz, hTI, hTO, h1, h2⟩ := st
    obtain ⟨xs, ys, x, y, hqx, hqy, hx, hy⟩ := hg
    obtain ⟨its, rv, p, _⟩ := I.tuple hqx
    obtain ⟨its2, rv2, p2, _⟩ := I.list hqy
    have hh : X.A.in1.handled = none := I.ok.hd hc
    have W := GoesN.zip2 (prog := X.prog) (w := X.w) (A := X.A) (elts := elts) (x1 := kk) (pos := tpos) S (Draws.tuple hh i1 a na its.toArray) (Draws.list hh i2 b nb its2.toArray)
    obtain ⟨v1, hv1, r1⟩ := rv.get hx
    obtain ⟨v2, hv2, r2⟩ := rv2.get hy
    have l1 := (List.getElem?_eq_some_iff.mp hv1).1
    have l2 := (List.getElem?_eq_some_iff.mp hv2).1
    have hlt : i < min its.toArray.size its2.toArray.size := by simp only [List.size_toArray]; omega
    have fpl : ∀ d ∈ [z, TI, TO, i1, i2], d < s.heap.objs.size := fun d hd => by
      obtain ⟨o1, e1, _⟩ := h1
      obtain ⟨o2, e2, _⟩ := h2
      obtain ⟨_, _, hTO⟩ := hTO
      have e' : d = z ∨ d = TI ∨ d = TO ∨ d = i1 ∨ d = i2 := by simpa using hd
      rcases e' with q | q | q | q | q
      · rw [q]; exact Heap.lt_size hz
      · rw [q]; exact Heap.lt_size hTI
      · rw [q]; exact Heap.lt_size hTO
      · rw [q]; exact Heap.lt_size e1
      · rw [q]; exact Heap.lt_size e2
    refine W.goes i s (fun v s2 => ∃ x H', Inv X pins σ H' s2 ∧ RelV x v ∧ (ItzM X.K a b).yld i H x H' ∧ _ ∧ ∀ d ∈ [z, TI, TO, i1, i2], H' d = none) E hlt ⟨hz, hTI, hTO, ⟨h1, show s.heap.IsTuple a its.toArray from p⟩, ⟨h2, p2.isList⟩⟩ fun v h' tk hY st' hk htk => ?_
    obtain ⟨T', y1, y2, rfl, hT, q1, q2, hTup⟩ := hY
    have e1 : y1 = v1 := by
      have : its[i]? = some y1 := by simpa using q1
      rw [hv1] at this; exact (Option.some.inj this).symm
    have e2 : y2 = v2 := by
      have : its2[i]? = some y2 := by simpa using q2
      rw [hv2] at this; exact (Option.some.inj this).symm
    subst e1 e2
    obtain ⟨sz', sTI, sTO, ⟨s1, _⟩, ⟨s2, _⟩⟩ := st'
    have new : ObjOk X.prog X.w (upd H T' (.tup [x, y])) h' T' (.tup [x, y]) :=
      ⟨by show 2 ≤ sizeLine; decide, [y1, y2], .cons r1 (.cons r2 .nil), hTup⟩
    have I1 : Inv X pins σ (upd H T' (.tup [x, y])) { s with heap := h', toks := tk } :=
      I.turnedNew (ch := [z, TO, i1, i2]) hk (fun d hd => hf d (by
        simp only [List.mem_cons, List.not_mem_nil, or_false] at hd ⊢
        rcases hd with q | q | q | q <;> simp [q])) hT new
    refine ⟨.ref T', _, I1, rfl, ⟨T', x, y, rfl, I.hok.fresh hT, rfl, fun l hl => by rw [I.tuple_inj hl hqx]; exact hx, fun l hl => by rw [I.list_inj hl hqy]; exact hy⟩, ⟨sz', sTI, sTO, s1, s2⟩, fun d hd => ?_⟩
    rw [upd_ne (Nat.ne_of_lt (Nat.lt_of_lt_of_le (fpl d hd) hT))]
    exact (hf d hd).1
  done := by
    intro X hP hw hK hc i pins s σ H E I hf st hg
    subst hP hw hK
    obtain ⟨hz, hTI, hTO, h1, h2⟩ := st
    obtain ⟨xs, ys, hqx, hqy, he⟩ := hg
    obtain ⟨its, rv, p, _⟩ := I.tuple hqx
    obtain ⟨its2, rv2, p2, _⟩ := I.list hqy
    have hh : X.A.in1.handled = none := I.ok.hd hc
    have W := GoesN.zip2 (prog := X.prog) (w := X.w) (A := X.A) (elts := elts) (x1 := kk) (pos := tpos) S (Draws.tuple hh i1 a na its.toArray) (Draws.list hh i2 b nb its2.toArray)
    have l1 := rv.length
    have l2 := rv2.length
    have e : i = min its.toArray.size its2.toArray.size := by simp only [List.size_toArray]; rw [he, l1, l2]
    have h1' := h1
    have h2' := h2
    rw [e] at h1' h2'
    refine W.stops s (fun s1 => Inv X pins σ H s1) E ⟨hz, hTI, hTO, ⟨h1', show s.heap.IsTuple a its.toArray from p⟩, ⟨h2', p2.isList⟩⟩ fun h' tk hk htk => ?_
    exact I.turnedL (t' := tk) (ch := [z, TO, i1, i2]) hk fun d hd => hf d (by
      simp only [List.mem_cons, List.not_mem_nil, or_false] at hd ⊢
      rcases hd with q | q | q | q <;> simp [q])
  self := fun A i s Q E st h => wpAny_pyIter_zip st.1 h
def iZipM (K : PySem.W.Frag) (ta : TA) : TI := fun σ H R => ta σ H fun vs H1 => ∃ a b xs ys, vs = [.ref a, .ref b] ∧ SqT K H1 a xs ∧ SqL K H1 b ys ∧ R (ItzM K a b) H1
theorem pi_zipM {X : Cx} {e e2 : Expr} {ta : TA} {p pos tpos : Pos} {elts : List Expr} {kk : Nat} (hg : Gl X "zip") (hm : X.mg "zip" = none) (ha : PA X [e, e2] ta)
    (hs : starEach [e, e2] X.env = (false, eval e X.env) :: starEach [e2] X.env := by rfl) (hpl : (backTo pos (starEach [e2] X.env)).any (·.1) = false := by rfl) :
    PI X (.Tuple elts kk tpos) (.Call (.Name "zip" p) [e, e2] [] pos) (iZipM X.K ta) := by
  refine ⟨fun pins s σ H R I h => ?_⟩
  refine Call_ (ld_blt I hg hm PyProof.Rows.boot_zip (PyProof.Rows.callWith_type1 (thn (ha.run pos pins s σ H _ I h) fun us s1 ⟨vs, H1, I1, r1, q1⟩ => ?_) hs hpl))
  obtain ⟨a, b, xs, ys, rfl, hqx, hqy, q⟩ := q1
  cases r1 with
  | cons r rr =>
    cases rr with
    | cons r' rr =>
      cases rr
      cases r
      cases r'
      obtain ⟨its, rv, p1, _⟩ := I1.tuple hqx
      obtain ⟨its2, rv2, p2, _⟩ := I1.list hqy
      obtain ⟨o1, ho1, _⟩ := id p1
      refine zip_begins2 (begins_tuple a its.toArray) (begins_list b its2.toArray) (show s1.heap.IsTuple a its.toArray from p1) p2.isList fun h' hz hTI hTO g1 g2 hsz hk => wpAny_pyIter_zip hz ?_
      have I2 : Inv X pins σ H1 { s1 with heap := h' } := I1.kept (t' := s1.toks) hk
      have la := Heap.lt_size ho1
      have lb := p2.lt
      have sep : ZipSep2 (s1.heap.objs.size + 4) (s1.heap.objs.size + 2) (s1.heap.objs.size + 3) s1.heap.objs.size (s1.heap.objs.size + 1) [s1.heap.objs.size, a] [s1.heap.objs.size + 1, b] :=
        zip_sep2 (fun d hd => by rw [List.mem_singleton.mp hd]; exact la) (fun d hd => by rw [List.mem_singleton.mp hd]; exact lb)
      refine ⟨s1.heap.objs.size + 4, [s1.heap.objs.size + 4, s1.heap.objs.size + 2, s1.heap.objs.size + 3, s1.heap.objs.size, s1.heap.objs.size + 1], _, _, H1, rfl, I2, turn_zipM sep (Nat.ne_of_lt la) (Nat.ne_of_lt (Nat.lt_succ_of_lt lb)), ⟨hz, hTI, ⟨_, _, hTO⟩, ⟨_, g1, rfl, rfl⟩, ⟨_, g2, rfl, rfl⟩⟩, fun d hd => ?_, q⟩
      have hle : s1.heap.objs.size ≤ d := by
        simp only [List.mem_cons, List.not_mem_nil, or_false] at hd
        rcases hd with z | z | z | z | z <;> rw [z] <;> first | exact Nat.le_refl _ | exact Nat.le_add_right _ _
      exact I1.fpOk hle (I1.hok.fresh hle)
theorem g_iZipM {K : PySem.W.Frag} {ta : TA} {σ : L2.St} {H : Hp} {R : It → Hp → Prop} (q : ta σ H fun vs H1 => ∃ a b xs ys, vs = [.ref a, .ref b] ∧ SqT K H1 a xs ∧ SqL K H1 b ys ∧ R (ItzM K a b) H1) : iZipM K ta σ H R := q
theorem walk_zipM {K : PySem.W.Frag} {a b : Addr} {xs ys : List V} {n : Nat} (hx : n = xs.length) (hy : n = ys.length) :
    Walk (ItzM K a b) n (fun H => SqT K H a xs ∧ SqL K H b ys) (fun i H v H' => ∃ T x y, v = .ref T ∧ H T = none ∧ H' = upd H T (.tup [x, y]) ∧ xs[i]? = some x ∧ ys[i]? = some y) where
  goes := fun i H hi q => ⟨xs, ys, xs[i]'(by omega), ys[i]'(by omega), q.1, q.2, by simp, by simp⟩
  stops := fun H q => ⟨xs, ys, q.1, q.2, by omega⟩
  yields := fun i H x H' hi q y => by
    obtain ⟨T, u, v, h1, h2, h3, h4, h5⟩ := y
    exact ⟨T, u, v, h1, h2, h3, h4 xs q.1, h5 ys q.2⟩
end SC
namespace SC.S
open PySem PySem.Spec PyProof.Rows L2 StrLaws

/-! ## the deck with a state and a count -/
structure Dk where
  d : Addr
  g : Addr
abbrev Dk.l (δ : Dk) : List Addr := [δ.d, δ.g]
abbrev skv (gr : Addr) (st ct : Int) : List (L2.Key × V) := [(.inr ("deep" : Str), .ref gr), (.inr ("state" : Str), .int st), (.inr ("count" : Str), .int ct)]
section
variable {gr gr' : Addr} {st ct z : Int}
theorem sk_deep : valV (skv gr st ct) (.inr ("deep" : Str)) = some (.ref gr) := by rfl
theorem sk_state : valV (skv gr st ct) (.inr ("state" : Str)) = some (.int st) := by rfl
theorem sk_count : valV (skv gr st ct) (.inr ("count" : Str)) = some (.int ct) := by rfl
theorem sk_pcount : putK (skv gr st ct) (.inr ("count" : Str)) (.int z) = skv gr st z := by rfl
theorem sk_pstate : putK (skv gr st ct) (.inr ("state" : Str)) (.int z) = skv gr z ct := by rfl
theorem sk_pdeep : putK (skv gr st ct) (.inr ("deep" : Str)) (.ref gr') = skv gr' st ct := by rfl
end
structure BagAt (H : Hp) (δ : Dk) (gs : List Int) (st ct : Int) : Prop where
  d : H δ.d = some (.dK (skv δ.g st ct))
  g : H δ.g = some (.lst (gs.map V.int))
  few : gs.length ≤ 63
  st0 : 0 ≤ st
  st1 : st < 2305843009213693951
def Bag (H : Hp) (δ : Dk) : Prop := ∃ gs st ct, BagAt H δ gs st ct
section
variable {H H' : Hp} {δ : Dk} {p : Addr} {o : HO}
theorem bag_nt (d : Bag H δ) : ∀ a ∈ δ.l, ∀ o, H a = some o → isT o = false := by
  obtain ⟨gs, st, ct, d⟩ := d
  intro a ha o e
  simp only [Dk.l, List.mem_cons, List.not_mem_nil, or_false] at ha
  rcases ha with z | z
  · rw [z, d.d] at e; cases e; rfl
  · rw [z, d.g] at e; cases e; rfl
theorem ts_bag (d : Bag H δ) (s : Same (hid δ.l H) (hid δ.l H')) : TSame H H' := ts_hid (bag_nt d) s
theorem bag_some (d : Bag H δ) : ∀ a ∈ δ.l, (H a).isSome = true := by
  obtain ⟨gs, st, ct, d⟩ := d
  intro a ha
  simp only [Dk.l, List.mem_cons, List.not_mem_nil, or_false] at ha
  rcases ha with z | z
  · rw [z, d.d]; rfl
  · rw [z, d.g]; rfl
theorem bag_new (d : Bag H δ) (s : Same H H') : Bag H' δ := by
  obtain ⟨gs, st, ct, h⟩ := d
  exact ⟨gs, st, ct, s _ _ h.d, s _ _ h.g, h.few, h.st0, h.st1⟩
theorem bag_out (d : Bag H δ) (h : H p = none) : p ∉ δ.l := fun z => by
  have := bag_some d p z
  rw [h] at this; cases this
theorem bag_mut (d : Bag H δ) (h : p ∉ δ.l) : Bag (upd H p o) δ := by
  obtain ⟨gs, st, ct, k⟩ := d
  simp only [Dk.l, List.mem_cons, List.not_mem_nil, or_false, not_or] at h
  exact ⟨gs, st, ct, by rw [upd_ne (Ne.symm h.1)]; exact k.d, by rw [upd_ne (Ne.symm h.2)]; exact k.g, k.few, k.st0, k.st1⟩
theorem bag_free (D : Bag H' δ) (s : Same (hid δ.l H) (hid δ.l H')) (n : H' p = none) : H p = none := by
  cases e : H p with
  | none => rfl
  | some o =>
    have z := stay s (bag_some D) (some_of e)
    rw [n] at z; cases z
theorem bag_ts (D : Bag H δ) : TSame H (hid δ.l H) := fun a o e z =>
  hid_put (fun ha => by rw [bag_nt D a ha o e] at z; cases z) e
theorem tup_hid {xs : List V} (D : Bag H δ) (s : Same (hid δ.l H) (hid δ.l H')) (h : H p = some (.tup xs)) : H' p = some (.tup xs) := ts_bag D s _ _ h rfl
theorem lst_hid {xs : List V} (n : p ∉ δ.l) (s : Same (hid δ.l H) (hid δ.l H')) (h : H p = some (.lst xs)) : H' p = some (.lst xs) := (hid_get (s _ _ (hid_put n h))).2
end
theorem fm0 {a b : Int} (h : 0 < b) : 0 ≤ a.fmod b := Int.fmod_nonneg_of_pos a h
theorem fm1 {a b : Int} (h : 0 < b) : a.fmod b < b := Int.fmod_lt_of_pos a h
def Lim (m : Int) : Prop := m.natAbs < 2 ^ 4000
theorem lim_of {m : Int} (h0 : 0 ≤ m) (h : m ≤ 10 ^ 31) : Lim m := by
  have h1 : m.natAbs < 2 ^ 110 := by omega
  exact Nat.lt_trans h1 (Nat.pow_lt_pow_right (by decide) (by decide))
theorem wide_of {i j : Int} (h0 : 0 < j) (h : Lim j) : CDivW i j := ⟨h0, by
  have h1 : j.natAbs ≠ 0 := by omega
  have h3 : j.natAbs.log2 < 4000 := (Nat.log2_lt h1).mpr h
  omega⟩
end SC.S
namespace SC
open PySem PySem.Spec PyProof.Rows L2 StrLaws
/-! ## what holds at each stage -/
mutual
def Th.each (P : Int → Int → List (Int × Th) → Prop) : Th → Prop
  | .inp _ => True
  | .st n c ps => P n c ps ∧ eachL P ps
def eachL (P : Int → Int → List (Int × Th) → Prop) : List (Int × Th) → Prop
  | [] => True
  | (_, t) :: r => t.each P ∧ eachL P r
end
theorem eachL_iff {P : Int → Int → List (Int × Th) → Prop} : ∀ {ps : List (Int × Th)}, eachL P ps ↔ ∀ p ∈ ps, p.2.each P
  | [] => by simp [eachL]
  | (w, t) :: r => by simp only [eachL, eachL_iff (ps := r), List.mem_cons, forall_eq_or_imp]
theorem each_mono {P Q : Int → Int → List (Int × Th) → Prop} (h : ∀ n c ps, P n c ps → Q n c ps) : ∀ t : Th, t.each P → t.each Q :=
  Th.ind (fun i _ => by simp only [Th.each]) fun n c ps ih g => by
    simp only [Th.each] at g ⊢
    exact ⟨h n c ps g.1, eachL_iff.mpr fun p hp => ih p hp (eachL_iff.mp g.2 p hp)⟩
def isSt : Th → Bool
  | .inp _ => false
  | .st _ _ _ => true
theorem num_toD : ∀ t : Th, numD t.toD = true := Th.ind (fun i => by simp only [Th.toD, numD]) fun n c ps ih => by
  simp only [Th.toD, numD, numAll, toDL_eq, Bool.and_true, Bool.true_and]
  exact numAll_mem.mpr fun d hd => by
    obtain ⟨p, hp, rfl⟩ := List.mem_map.mp hd
    simp only [numD, numAll, ih p hp, Bool.and_true]
end SC
namespace SC
open PySem PySem.Spec PyProof.Rows L2 StrLaws
/-! ## stages merged -/
def wtd (f : Int) (ps : List (Int × Th)) : List (Int × Th) := ps.map fun p => (p.1 * f, p.2)
theorem wtd_len (f : Int) (ps : List (Int × Th)) : (wtd f ps).length = ps.length := List.length_map ..
theorem mem_wtd {f : Int} {ps : List (Int × Th)} {p : Int × Th} (h : p ∈ wtd f ps) : ∃ q ∈ ps, p = (q.1 * f, q.2) := by
  obtain ⟨q, hq, e⟩ := List.mem_map.mp h
  exact ⟨q, hq, e.symm⟩
theorem wtd_snd (f : Int) (ps : List (Int × Th)) : (wtd f ps).map (·.2) = ps.map (·.2) := by
  unfold wtd
  rw [List.map_map]; rfl
def mFig (w m d c : Int) : Int := (if w > 0 then d else m - 1 - d) + m * c
/-- a stage that stands amid the parts taken in -/
def mAt (n c : Int) (pre : List (Int × Th)) (w : Int) (t : Th) (r : List (Int × Th)) : Th :=
  match t with
  | .inp i => .st n c (pre ++ (w, .inp i) :: r)
  | .st m d qs => .st (n * m) (mFig w m d c) (wtd m pre ++ wtd w qs ++ wtd m r)
def canM (w : Int) (t : Th) : Bool :=
  match t with
  | .inp _ => false
  | .st m _ _ => decide (m = 1) || decide (w.natAbs = 1)
mutual
def Th.m1 : Th → Option Th
  | .inp _ => none
  | .st n c ps => m1L n c [] ps
def m1L (n c : Int) (pre : List (Int × Th)) : List (Int × Th) → Option Th
  | [] => none
  | (w, t) :: r =>
    if canM w t = true then some (mAt n c pre w t r)
    else match t.m1 with
      | some u => some (.st n c (pre ++ (w, u) :: r))
      | none => m1L n c (pre ++ [(w, t)]) r
end
inductive Step : Th → Th → Prop
  | here {n c : Int} {pre : List (Int × Th)} {w m d : Int} {qs r : List (Int × Th)} (h : m = 1 ∨ w.natAbs = 1) : Step (.st n c (pre ++ (w, .st m d qs) :: r)) (.st (n * m) (mFig w m d c) (wtd m pre ++ wtd w qs ++ wtd m r))
  | down {n c : Int} {pre : List (Int × Th)} {w : Int} {t u : Th} {r : List (Int × Th)} (h : Step t u) : Step (.st n c (pre ++ (w, t) :: r)) (.st n c (pre ++ (w, u) :: r))
mutual
theorem m1_step : ∀ (t : Th) {u : Th}, t.m1 = some u → Step t u
  | .inp _, u, h => by simp only [Th.m1] at h; cases h
  | .st n c ps, u, h => by
    simp only [Th.m1] at h
    have := m1L_step n c [] ps h
    simpa using this
theorem m1L_step (n c : Int) : ∀ (pre ps : List (Int × Th)) {u : Th}, m1L n c pre ps = some u → Step (.st n c (pre ++ ps)) u
  | pre, [], u, h => by simp only [m1L] at h; cases h
  | pre, (w, t) :: r, u, h => by
    simp only [m1L] at h
    by_cases hc : canM w t = true
    · rw [if_pos hc] at h
      obtain rfl := Option.some.inj h
      cases t with
      | inp i => simp [canM] at hc
      | st m d qs => exact .here (by simpa [canM] using hc)
    · rw [if_neg hc] at h
      cases e : t.m1 with
      | some v =>
        rw [e] at h
        obtain rfl := Option.some.inj h
        exact .down (m1_step t e)
      | none =>
        rw [e] at h
        have := m1L_step n c (pre ++ [(w, t)]) r h
        rwa [List.append_assoc] at this
end
mutual
theorem m1_none : ∀ (t : Th), t.m1 = none → t.each fun _ _ ps => ∀ p ∈ ps, canM p.1 p.2 = false
  | .inp _, _ => by simp only [Th.each]
  | .st n c ps, h => by
    simp only [Th.m1] at h
    simp only [Th.each]
    exact m1L_none n c [] ps h
theorem m1L_none (n c : Int) : ∀ (pre ps : List (Int × Th)), m1L n c pre ps = none → (∀ p ∈ ps, canM p.1 p.2 = false) ∧ eachL (fun _ _ ps => ∀ p ∈ ps, canM p.1 p.2 = false) ps
  | pre, [], _ => ⟨fun p hp => (by cases hp), by simp only [eachL]⟩
  | pre, (w, t) :: r, h => by
    simp only [m1L] at h
    by_cases hc : canM w t = true
    · rw [if_pos hc] at h; cases h
    · rw [if_neg hc] at h
      cases e : t.m1 with
      | some v => rw [e] at h; cases h
      | none =>
        rw [e] at h
        obtain ⟨h1, h2⟩ := m1L_none n c (pre ++ [(w, t)]) r h
        refine ⟨fun p hp => ?_, ?_⟩
        · rcases List.mem_cons.mp hp with z | z
          · rw [z]; simpa using hc
          · exact h1 p z
        · simp only [eachL]
          exact ⟨m1_none t e, h2⟩
end
/-- again and again -/
def mmN : Nat → Th → Th
  | 0, t => t
  | k + 1, t => match t.m1 with
    | none => t
    | some u => mmN k u
theorem m1_nSt : ∀ {t u : Th}, t.m1 = some u → u.nSt + 1 = t.nSt := fun h => by
  have : ∀ {t u : Th}, Step t u → u.nSt + 1 = t.nSt := fun {t u} h => by
    induction h with
    | @here n c pre w m d qs r h =>
      have e : ∀ (f : Int) (l : List (Int × Th)), nStL (wtd f l) = nStL l := fun f l => by
        rw [nStL_eq, nStL_eq]
        unfold wtd
        rw [List.map_map]; rfl
      simp only [Th.nSt, nStL_app, nStL, e]
      omega
    | down h ih => simp only [Th.nSt, nStL_app, nStL]; omega
  exact this (m1_step _ h)
def Th.mg (t : Th) : Th := mmN t.nSt t
theorem mmN_none {t : Th} (h : t.m1 = none) : ∀ k, mmN k t = t
  | 0 => rfl
  | k + 1 => by simp only [mmN, h]
theorem mg_none {t : Th} (h : t.m1 = none) : t.mg = t := mmN_none h _
theorem mg_step {t u : Th} (h : t.m1 = some u) : u.mg = t.mg := by
  unfold Th.mg
  rw [← m1_nSt h]
  simp only [mmN, h]
theorem nSt0_m1 {t : Th} (h : t.nSt = 0) : t.m1 = none := by
  cases t with
  | inp i => simp only [Th.m1]
  | st n c ps => simp only [Th.nSt] at h; omega
theorem mmN_end : ∀ (k : Nat) (t : Th), t.nSt ≤ k → (mmN k t).m1 = none ∧ mmN k t = t.mg
  | 0, t, h => by
    have := nSt0_m1 (t := t) (by omega)
    exact ⟨this, (mg_none this).symm⟩
  | k + 1, t, h => by
    cases e : t.m1 with
    | none => rw [mmN_none e]; exact ⟨e, (mg_none e).symm⟩
    | some u =>
      have h1 := m1_nSt e
      obtain ⟨a, b⟩ := mmN_end k u (by omega)
      simp only [mmN, e]
      exact ⟨a, b.trans (mg_step e)⟩
theorem mg_end (t : Th) : t.mg.m1 = none := by
  have := mmN_end t.nSt t (Nat.le_refl _)
  rw [this.2] at this
  exact this.1
theorem mg_ind {P : Th → Prop} (hs : ∀ t u, Step t u → P t → P u) : ∀ (k : Nat) (t : Th), P t → P (mmN k t)
  | 0, t, h => h
  | k + 1, t, h => by
    cases e : t.m1 with
    | none => rw [mmN_none e]; exact h
    | some u =>
      simp only [mmN, e]
      exact mg_ind hs k u (hs t u (m1_step t e) h)
/-! ### what stays -/
theorem prL_app : ∀ a b : List (Int × Th), prL (a ++ b) = prL a * prL b
  | [], b => by simp [prL]
  | (w, t) :: a, b => by simp only [List.cons_append, prL, prL_app a b, Int.mul_assoc]
theorem prL_wtd (f : Int) : ∀ ps : List (Int × Th), prL (wtd f ps) = prL ps
  | [] => rfl
  | (w, t) :: r => by
    have := prL_wtd f r
    unfold wtd at this ⊢
    simp only [List.map_cons, prL, this]
theorem step_pr {t u : Th} (h : Step t u) : u.pr = t.pr := by
  induction h with
  | here h => simp only [Th.pr, prL_app, prL_wtd, prL]; grind
  | down h ih => simp only [Th.pr, prL_app, prL, ih]
theorem wtd_map {α : Type} (g : Th → α) (f : Int) (ps : List (Int × Th)) : (wtd f ps).map (fun p => g p.2) = ps.map fun p => g p.2 := by
  unfold wtd
  rw [List.map_map]; rfl
theorem step_nSt {t u : Th} (h : Step t u) : u.nSt + 1 = t.nSt := by
  induction h with
  | here h =>
    simp only [Th.nSt, nStL_app, nStL]
    simp only [nStL_eq, wtd_map]
    omega
  | down h ih => simp only [Th.nSt, nStL_app, nStL]; omega
theorem step_ins {t u : Th} (h : Step t u) : u.ins = t.ins := by
  induction h with
  | here h =>
    simp only [Th.ins, insL_app, insL]
    simp only [insL_eq, wtd_map, List.append_assoc]
  | down h ih => simp only [Th.ins, insL_app, insL, ih]
theorem step_nIn {t u : Th} (h : Step t u) : u.nIn = t.nIn := by rw [← ins_len, ← ins_len, step_ins h]
theorem step_dep {t u : Th} (h : Step t u) : u.dep ≤ t.dep := by
  induction h with
  | @here n c pre w m d qs r h =>
    simp only [Th.dep]
    have e : depL (wtd m pre ++ wtd w qs ++ wtd m r) ≤ depL (pre ++ (w, .st m d qs) :: r) := depL_le.mpr fun p hp => by
      have hm : ∀ q ∈ pre ++ (w, Th.st m d qs) :: r, q.2.dep ≤ depL (pre ++ (w, .st m d qs) :: r) := depL_le.mp (Nat.le_refl _)
      rcases List.mem_append.mp hp with hp | hp
      · rcases List.mem_append.mp hp with hp | hp
        · obtain ⟨q, hq, rfl⟩ := mem_wtd hp
          exact hm q (List.mem_append_left _ hq)
        · obtain ⟨q, hq, rfl⟩ := mem_wtd hp
          have h1 := hm (w, .st m d qs) (List.mem_append_right _ (List.mem_cons_self ..))
          have h2 := (depL_le.mp (Nat.le_refl (depL qs))) q hq
          simp only [Th.dep] at h1
          show q.2.dep ≤ _
          omega
      · obtain ⟨q, hq, rfl⟩ := mem_wtd hp
        exact hm q (List.mem_append_right _ (List.mem_cons_of_mem _ hq))
    omega
  | @down n c pre w t u r h ih =>
    simp only [Th.dep, depL_app, depL]
    omega
theorem step_st {t u : Th} (h : Step t u) : ∃ n c ps, u = .st n c ps := by
  cases h with
  | here h => exact ⟨_, _, _, rfl⟩
  | down h => exact ⟨_, _, _, rfl⟩
theorem step_st0 {t u : Th} (h : Step t u) : ∃ n c ps, t = .st n c ps := by
  cases h with
  | here h => exact ⟨_, _, _, rfl⟩
  | down h => exact ⟨_, _, _, rfl⟩
theorem step_full {t u : Th} (h : Step t u) : t.full = true → u.full = true := by
  induction h with
  | @here n c pre w m d qs r h =>
    intro g
    simp only [Th.full, Bool.and_eq_true] at g ⊢
    have g2 := fullL_iff.mp g.2
    have gq := g2 (w, .st m d qs) (List.mem_append_right _ (List.mem_cons_self ..))
    simp only [Th.full, Bool.and_eq_true] at gq
    refine ⟨?_, fullL_iff.mpr fun p hp => ?_⟩
    · cases qs with
      | nil => simp at gq
      | cons a b =>
        simp only [wtd, List.map_cons]
        cases pre <;> simp
    · rcases List.mem_append.mp hp with hp | hp
      · rcases List.mem_append.mp hp with hp | hp
        · obtain ⟨q, hq, rfl⟩ := mem_wtd hp
          exact g2 q (List.mem_append_left _ hq)
        · obtain ⟨q, hq, rfl⟩ := mem_wtd hp
          exact fullL_iff.mp gq.2 q hq
      · obtain ⟨q, hq, rfl⟩ := mem_wtd hp
        exact g2 q (List.mem_append_right _ (List.mem_cons_of_mem _ hq))
  | @down n c pre w t u r h ih =>
    intro g
    simp only [Th.full, Bool.and_eq_true] at g ⊢
    have g2 := fullL_iff.mp g.2
    refine ⟨by cases pre <;> simp, fullL_iff.mpr fun p hp => ?_⟩
    rcases List.mem_append.mp hp with hp | hp
    · exact g2 p (List.mem_append_left _ hp)
    · rcases List.mem_cons.mp hp with z | z
      · rw [z]; exact ih (g2 (w, t) (List.mem_append_right _ (List.mem_cons_self ..)))
      · exact g2 p (List.mem_append_right _ (List.mem_cons_of_mem _ z))
/-- divisors above 0, offsets below them, weights other than 0 -/
structure LowS (n c : Int) (ps : List (Int × Th)) : Prop where
  n1 : 1 ≤ n
  c0 : 0 ≤ c
  c1 : c < n
  w0 : ∀ p ∈ ps, p.1 ≠ 0
abbrev Th.low (t : Th) : Prop := t.each LowS
/-- a step keeps what holds at each stage -/
theorem step_each {P : Int → Int → List (Int × Th) → Prop} {t u : Th} (h : Step t u)
    (h1 : ∀ {n c : Int} {pre : List (Int × Th)} {w m d : Int} {qs r : List (Int × Th)}, (m = 1 ∨ w.natAbs = 1) → P n c (pre ++ (w, .st m d qs) :: r) → P m d qs → P (n * m) (mFig w m d c) (wtd m pre ++ wtd w qs ++ wtd m r))
    (h2 : ∀ {n c : Int} {pre : List (Int × Th)} {w : Int} {a b : Int} {qs : List (Int × Th)} {a' b' : Int} {qs' r : List (Int × Th)}, P n c (pre ++ (w, .st a b qs) :: r) → P n c (pre ++ (w, .st a' b' qs') :: r)) : t.each P → u.each P := by
  induction h with
  | @here n c pre w m d qs r h =>
    intro g
    simp only [Th.each] at g ⊢
    have g2 := eachL_iff.mp g.2
    have gq := g2 (w, .st m d qs) (List.mem_append_right _ (List.mem_cons_self ..))
    simp only [Th.each] at gq
    refine ⟨h1 h g.1 gq.1, eachL_iff.mpr fun p hp => ?_⟩
    rcases List.mem_append.mp hp with hp | hp
    · rcases List.mem_append.mp hp with hp | hp
      · obtain ⟨q, hq, rfl⟩ := mem_wtd hp
        exact g2 q (List.mem_append_left _ hq)
      · obtain ⟨q, hq, rfl⟩ := mem_wtd hp
        exact eachL_iff.mp gq.2 q hq
    · obtain ⟨q, hq, rfl⟩ := mem_wtd hp
      exact g2 q (List.mem_append_right _ (List.mem_cons_of_mem _ hq))
  | @down n c pre w t u r h ih =>
    intro g
    obtain ⟨a, b, qs, rfl⟩ := step_st0 h
    obtain ⟨a', b', qs', rfl⟩ := step_st h
    have g' := g
    simp only [Th.each] at g
    have g2 := eachL_iff.mp g.2
    have gu := ih (g2 (w, .st a b qs) (List.mem_append_right _ (List.mem_cons_self ..)))
    show P n c _ ∧ eachL P _
    refine ⟨h2 g.1, eachL_iff.mpr fun p hp => ?_⟩
    rcases List.mem_append.mp hp with hp | hp
    · exact g2 p (List.mem_append_left _ hp)
    · rcases List.mem_cons.mp hp with z | z
      · rw [z]; exact gu
      · exact g2 p (List.mem_append_right _ (List.mem_cons_of_mem _ z))
theorem fig_ok {n c w m d : Int} (n1 : 1 ≤ n) (c0 : 0 ≤ c) (c1 : c < n) (m1 : 1 ≤ m) (d0 : 0 ≤ d) (d1 : d < m) : 1 ≤ n * m ∧ 0 ≤ mFig w m d c ∧ mFig w m d c < n * m := by
  have h1 : 1 * 1 ≤ n * m := Int.mul_le_mul n1 m1 (by omega) (by omega)
  have h2 : 0 ≤ m * c := Int.mul_nonneg (by omega) c0
  have h3 : m * c ≤ m * (n - 1) := Int.mul_le_mul_of_nonneg_left (by omega) (by omega)
  have h4 : m * (n - 1) = n * m - m := by grind
  unfold mFig
  refine ⟨by omega, ?_, ?_⟩ <;> split <;> omega
theorem step_low {t u : Th} (h : Step t u) : t.low → u.low := step_each h (fun {n c pre w m d qs r} h a b => by
  obtain ⟨k1, k2, k3⟩ := fig_ok (w := w) a.n1 a.c0 a.c1 b.n1 b.c0 b.c1
  refine ⟨k1, k2, k3, fun p hp => ?_⟩
  have hw := a.w0 (w, .st m d qs) (List.mem_append_right _ (List.mem_cons_self ..))
  have hm := b.n1
  rcases List.mem_append.mp hp with hp | hp
  · rcases List.mem_append.mp hp with hp | hp
    · obtain ⟨q, hq, rfl⟩ := mem_wtd hp
      exact Int.mul_ne_zero (a.w0 q (List.mem_append_left _ hq)) (by omega)
    · obtain ⟨q, hq, rfl⟩ := mem_wtd hp
      exact Int.mul_ne_zero (b.w0 q hq) hw
  · obtain ⟨q, hq, rfl⟩ := mem_wtd hp
    exact Int.mul_ne_zero (a.w0 q (List.mem_append_right _ (List.mem_cons_of_mem _ hq))) (by omega)) (fun {n c pre w a b qs a' b' qs' r} h => ⟨h.n1, h.c0, h.c1, fun p hp => by
    rcases List.mem_append.mp hp with hp | hp
    · exact h.w0 p (List.mem_append_left _ hp)
    · rcases List.mem_cons.mp hp with z | z
      · rw [z]; exact h.w0 (w, .st a b qs) (List.mem_append_right _ (List.mem_cons_self ..))
      · exact h.w0 p (List.mem_append_right _ (List.mem_cons_of_mem _ z))⟩)
/-! ### the spread, as a whole number over the product of all divisors -/
mutual
def Th.sn : Th → Int
  | .inp _ => 0
  | .st n _ ps => (n - 1) * prL ps + snL ps
def snL : List (Int × Th) → Int
  | [] => 0
  | (w, t) :: r => (w.natAbs : Int) * t.sn * prL r + t.pr * snL r
end
theorem snL_app : ∀ a b : List (Int × Th), snL (a ++ b) = snL a * prL b + prL a * snL b
  | [], b => by simp [snL, prL]
  | (w, t) :: a, b => by
    simp only [List.cons_append, snL, prL, prL_app, snL_app a b]
    grind
theorem snL_wtd (f : Int) : ∀ ps : List (Int × Th), snL (wtd f ps) = (f.natAbs : Int) * snL ps
  | [] => by simp [wtd, snL]
  | (w, t) :: r => by
    have h1 := snL_wtd f r
    have h2 := prL_wtd f r
    unfold wtd at h1 h2 ⊢
    simp only [List.map_cons, snL, h1, h2, Int.natAbs_mul, Int.natCast_mul]
    grind
theorem step_sn {t u : Th} (h : Step t u) : t.low → u.sn = t.sn := by
  induction h with
  | @here n c pre w m d qs r h =>
    intro g
    have e : (m.natAbs : Int) = m ∧ ((m : Int) = 1 ∨ (w.natAbs : Int) = 1) := by
      simp only [Th.each] at g
      have gq := eachL_iff.mp g.2 (w, .st m d qs) (List.mem_append_right _ (List.mem_cons_self ..))
      simp only [Th.each] at gq
      have := gq.1.n1
      exact ⟨by omega, by omega⟩
    obtain ⟨e1, e2⟩ := e
    simp only [Th.sn, snL_app, prL_app, prL_wtd, snL_wtd, snL, prL, Th.pr, e1]
    generalize (w.natAbs : Int) = W at e2
    rcases e2 with e2 | e2
    · subst e2; grind
    · subst e2; grind
  | @down n c pre w t u r h ih =>
    intro g
    simp only [Th.each] at g
    have gq := eachL_iff.mp g.2 (w, t) (List.mem_append_right _ (List.mem_cons_self ..))
    simp only [Th.sn, snL_app, prL_app, snL, prL, ih gq, step_pr h]
mutual
theorem spr_sn (W : Int) : ∀ (t : Th) (a b : Int), t.fit → 0 < b → b * t.pr ∣ W → sprS W (t.sq a b) = (a.natAbs : Int) * t.sn * (W / (b * t.pr))
  | .inp _, a, b, _, _, _ => by simp only [Th.sq, Th.sn, sprS]; grind
  | .st n c ps, a, b, g, hb, hd => by
    simp only [Th.fit] at g
    have n0 : 0 < n := by omega
    simp only [Th.pr] at hd ⊢
    have hp := prL_pos ps g.2.2.2.2
    have h1 := spr_snL W ps a (b * n) g.2.2.2.2 (Int.mul_pos hb n0) (by rw [Int.mul_assoc]; exact hd)
    simp only [Th.sq, sprS, h1, Th.sn]
    obtain ⟨k, hk⟩ := hd
    have e1 : W / (b * n) = prL ps * k := by
      rw [hk, show b * (n * prL ps) * k = b * n * (prL ps * k) by grind]
      exact Int.mul_ediv_cancel_left _ (by have := Int.mul_pos hb n0; omega)
    have e2 : W / (b * n * prL ps) = k := by
      rw [hk, show b * (n * prL ps) * k = b * n * prL ps * k by grind]
      exact Int.mul_ediv_cancel_left _ (by have := Int.mul_pos (Int.mul_pos hb n0) hp; omega)
    have e3 : W / (b * (n * prL ps)) = k := by rw [← Int.mul_assoc]; exact e2
    rw [e1, e2, e3]
    grind
theorem spr_snL (W : Int) : ∀ (ps : List (Int × Th)) (a b : Int), fitL ps → 0 < b → b * prL ps ∣ W → sprS W (sqL a b ps) = (a.natAbs : Int) * snL ps * (W / (b * prL ps))
  | [], a, b, _, _, _ => by simp only [sqL, snL, sprS]; grind
  | (w, t) :: r, a, b, g, hb, hd => by
    simp only [fitL] at g
    simp only [prL] at hd ⊢
    have ht := pr_pos t g.2.1
    have hr := prL_pos r g.2.2
    obtain ⟨k, hk⟩ := hd
    have h1 := spr_sn W t (a * w) b g.2.1 hb ⟨prL r * k, by rw [hk]; grind⟩
    have h2 := spr_snL W r a b g.2.2 hb ⟨t.pr * k, by rw [hk]; grind⟩
    simp only [sqL, sprS_app, h1, h2, snL, Int.natAbs_mul, Int.natCast_mul]
    have e1 : W / (b * t.pr) = prL r * k := by
      rw [hk, show b * (t.pr * prL r) * k = b * t.pr * (prL r * k) by grind]
      exact Int.mul_ediv_cancel_left _ (by have := Int.mul_pos hb ht; omega)
    have e2 : W / (b * prL r) = t.pr * k := by
      rw [hk, show b * (t.pr * prL r) * k = b * prL r * (t.pr * k) by grind]
      exact Int.mul_ediv_cancel_left _ (by have := Int.mul_pos hb hr; omega)
    have e3 : W / (b * (t.pr * prL r)) = k := by
      rw [hk]
      exact Int.mul_ediv_cancel_left _ (by have := Int.mul_pos hb (Int.mul_pos ht hr); omega)
    rw [e1, e2, e3]
    grind
end
theorem spread_sn {t : Th} (h : t.fit) : t.spread = lst t.sn t.pr := by
  rw [spread_eq h, spr_sn t.pr t 1 1 h (by decide) ⟨1, by omega⟩]
  have hp := pr_pos t h
  rw [Int.one_mul, Int.ediv_self (by omega)]
  congr 1
  show ((1 : Nat) : Int) * t.sn * 1 = t.sn
  omega
/-! ### one stage, or more -/
theorem low_pr : ∀ t : Th, t.low → 0 < t.pr ∧ 0 ≤ t.sn := by
  refine Th.ind (fun i _ => by simp only [Th.pr, Th.sn]; omega) fun n c ps ih g => ?_
  simp only [Th.each] at g
  have g2 := eachL_iff.mp g.2
  have h : ∀ qs : List (Int × Th), (∀ p ∈ qs, 0 < p.2.pr ∧ 0 ≤ p.2.sn) → 0 < prL qs ∧ 0 ≤ snL qs := fun qs => by
    induction qs with
    | nil => intro _; simp only [prL, snL]; omega
    | cons p r ih2 =>
      intro hq
      obtain ⟨w, t⟩ := p
      obtain ⟨h1, h2⟩ := hq (w, t) (List.mem_cons_self ..)
      obtain ⟨h3, h4⟩ := ih2 fun q hq' => hq q (List.mem_cons_of_mem _ hq')
      simp only [prL, snL]
      simp only at h1 h2
      have k1 := Int.mul_pos h1 h3
      have k2 := Int.mul_nonneg (Int.mul_nonneg (show (0 : Int) ≤ (w.natAbs : Int) by omega) h2) (Int.le_of_lt h3)
      have k3 := Int.mul_nonneg (Int.le_of_lt h1) h4
      omega
  obtain ⟨h1, h2⟩ := h ps fun p hp => ih p hp (g2 p hp)
  have n1 := g.1.n1
  simp only [Th.pr, Th.sn]
  have k1 := Int.mul_pos (show (0 : Int) < n by omega) h1
  have k2 := Int.mul_nonneg (show (0 : Int) ≤ n - 1 by omega) (Int.le_of_lt h1)
  omega
theorem low_prL {ps : List (Int × Th)} (h : eachL LowS ps) : 0 < prL ps ∧ 0 ≤ snL ps := by
  have := low_pr (.st 1 0 (ps.map fun p => (1, p.2))) (by
    simp only [Th.each]
    refine ⟨⟨by omega, by omega, by omega, fun p hp => ?_⟩, eachL_iff.mpr fun p hp => ?_⟩
    · obtain ⟨q, _, rfl⟩ := List.mem_map.mp hp
      show (1 : Int) ≠ 0
      decide
    · obtain ⟨q, hq, rfl⟩ := List.mem_map.mp hp
      exact eachL_iff.mp h q hq)
  refine ⟨?_, ?_⟩
  · induction ps with
    | nil => simp only [prL]; omega
    | cons p r ih =>
      obtain ⟨w, t⟩ := p
      simp only [eachL] at h
      have := low_pr t h.1
      simp only [prL]
      refine Int.mul_pos this.1 (ih h.2 ?_)
      exact low_pr _ (by
        simp only [Th.each]
        refine ⟨⟨by omega, by omega, by omega, fun p hp => ?_⟩, eachL_iff.mpr fun p hp => ?_⟩
        · obtain ⟨q, _, rfl⟩ := List.mem_map.mp hp
          show (1 : Int) ≠ 0
          decide
        · obtain ⟨q, hq, rfl⟩ := List.mem_map.mp hp
          exact eachL_iff.mp h.2 q hq)
  · clear this
    induction ps with
    | nil => simp only [snL]; omega
    | cons p r ih =>
      obtain ⟨w, t⟩ := p
      simp only [eachL] at h
      have h1 := low_pr t h.1
      have h2 : 0 < prL r := by
        clear ih
        have h3 := h.2
        clear h
        induction r with
        | nil => simp only [prL]; omega
        | cons q s ih =>
          obtain ⟨w2, t2⟩ := q
          simp only [eachL] at h3
          simp only [prL]
          exact Int.mul_pos (low_pr t2 h3.1).1 (ih h3.2)
      have h4 := ih h.2
      simp only [snL]
      have k2 := Int.mul_nonneg (Int.mul_nonneg (show (0 : Int) ≤ (w.natAbs : Int) by omega) h1.2) (Int.le_of_lt h2)
      have k3 := Int.mul_nonneg (Int.le_of_lt h1.1) h4
      omega
theorem nSt0_inp {ps : List (Int × Th)} (h : nStL ps = 0) : prL ps = 1 ∧ snL ps = 0 := by
  induction ps with
  | nil => exact ⟨rfl, rfl⟩
  | cons p r ih =>
    obtain ⟨w, t⟩ := p
    simp only [nStL] at h
    cases t with
    | inp i =>
      obtain ⟨h1, h2⟩ := ih (by omega)
      simp only [prL, snL, Th.pr, Th.sn, h1, h2]
      omega
    | st n c qs => simp only [Th.nSt] at h; omega
theorem nSt_mem {ps : List (Int × Th)} (h : nStL ps ≠ 0) : ∃ pre w m d qs r, ps = pre ++ (w, Th.st m d qs) :: r := by
  induction ps with
  | nil => exact absurd rfl h
  | cons p r ih =>
    obtain ⟨w, t⟩ := p
    cases t with
    | inp i =>
      obtain ⟨pre, w', m, d, qs, r', e⟩ := ih (by simp only [nStL, Th.nSt] at h; omega)
      exact ⟨(w, .inp i) :: pre, w', m, d, qs, r', by rw [e]; rfl⟩
    | st m d qs => exact ⟨[], w, m, d, qs, r, rfl⟩
/-- merged: one stage exactly if the spread is below 1 -/
theorem one_iff {n c : Int} {ps : List (Int × Th)} (g : (Th.st n c ps).low) (hm : (Th.st n c ps).m1 = none) : (Th.st n c ps).nSt = 1 ↔ (Th.st n c ps).sn < (Th.st n c ps).pr := by
  have hN := m1_none _ hm
  simp only [Th.each] at g hN
  have n1 := g.1.n1
  simp only [Th.nSt, Th.sn, Th.pr]
  by_cases h : nStL ps = 0
  · obtain ⟨h1, h2⟩ := nSt0_inp h
    rw [h, h1, h2]
    omega
  · refine ⟨fun z => absurd (by omega) h, fun z => ?_⟩
    exfalso
    obtain ⟨pre, w, m, d, qs, r, e⟩ := nSt_mem h
    have hmem : (w, Th.st m d qs) ∈ ps := by rw [e]; exact List.mem_append_right _ (List.mem_cons_self ..)
    have hc := hN.1 _ hmem
    simp only [canM, Bool.or_eq_false_iff, decide_eq_false_iff_not] at hc
    have hw := g.1.w0 _ hmem
    have gq := eachL_iff.mp g.2 _ hmem
    have gq' := gq
    simp only [Th.each] at gq
    have m1 := gq.1.n1
    have gp : eachL LowS pre := eachL_iff.mpr fun p hp => eachL_iff.mp g.2 p (by rw [e]; exact List.mem_append_left _ hp)
    have gr : eachL LowS r := eachL_iff.mpr fun p hp => eachL_iff.mp g.2 p (by rw [e]; exact List.mem_append_right _ (List.mem_cons_of_mem _ hp))
    obtain ⟨p1, p2⟩ := low_prL gp
    obtain ⟨r1, r2⟩ := low_prL gr
    obtain ⟨q1, q2⟩ := low_prL gq.2
    rw [e] at z
    simp only [prL_app, snL_app, prL, snL, Th.pr, Th.sn] at z
    generalize prL pre = P at *
    generalize prL r = R at *
    generalize prL qs = Q at *
    generalize snL pre = a at *
    generalize snL r = b at *
    generalize snL qs = q at *
    have hw2 : (2 : Int) ≤ (w.natAbs : Int) := by
      have hc2 := hc.2
      simp only at hw
      omega
    generalize (w.natAbs : Int) = W at *
    have hm2 : 2 ≤ m := by have := hc.1; omega
    -- W * ((m - 1) * Q + q) ≥ m * Q
    have k1 : m * Q ≤ W * ((m - 1) * Q + q) := by
      have a1 : 2 * ((m - 1) * Q + q) ≤ W * ((m - 1) * Q + q) := Int.mul_le_mul_of_nonneg_right hw2 (by
        have := Int.mul_nonneg (show (0 : Int) ≤ m - 1 by omega) (Int.le_of_lt q1); omega)
      have a2 : m * Q ≤ 2 * (m - 1) * Q := Int.mul_le_mul_of_nonneg_right (by omega) (by omega)
      have a3 : 2 * ((m - 1) * Q + q) = 2 * (m - 1) * Q + 2 * q := by grind
      omega
    have k2 : P * (m * Q) * R ≤ P * (W * ((m - 1) * Q + q)) * R := Int.mul_le_mul_of_nonneg_right (Int.mul_le_mul_of_nonneg_left k1 (by omega)) (by omega)
    have k3 : 0 ≤ a * (m * Q * R) := Int.mul_nonneg p2 (Int.mul_nonneg (Int.mul_nonneg (by omega) (by omega)) (by omega))
    have k4 : 0 ≤ P * (m * Q * b) := Int.mul_nonneg (by omega) (Int.mul_nonneg (Int.mul_nonneg (by omega) (by omega)) r2)
    have k5 : (n - 1) * (P * (m * Q * R)) + (a * (m * Q * R) + P * (W * ((m - 1) * Q + q) * R + m * Q * b)) = n * (P * (m * Q * R)) + (P * (W * ((m - 1) * Q + q)) * R - P * (m * Q) * R) + a * (m * Q * R) + P * (m * Q * b) := by grind
    omega
/-! ### bounds -/
mutual
def Th.pot : Th → Nat
  | .inp _ => 1
  | .st _ _ ps => potL ps
def potL : List (Int × Th) → Nat
  | [] => 0
  | (w, t) :: r => max (w.natAbs * t.pot * (prL r).natAbs) (t.pr.natAbs * potL r)
end
theorem potL_app : ∀ a b : List (Int × Th), potL (a ++ b) = max (potL a * (prL b).natAbs) ((prL a).natAbs * potL b)
  | [], b => by simp [potL, prL]
  | (w, t) :: a, b => by
    simp only [List.cons_append, potL, prL, prL_app, potL_app a b, Int.natAbs_mul]
    generalize (prL a).natAbs = A
    generalize (prL b).natAbs = B
    generalize t.pr.natAbs = C
    rw [← Nat.mul_max_mul_right, ← Nat.mul_max_mul_left, ← Nat.max_assoc]
    congr 1
    · congr 1
      · ac_rfl
      · ac_rfl
    · ac_rfl
theorem potL_wtd (f : Int) : ∀ ps : List (Int × Th), potL (wtd f ps) = f.natAbs * potL ps
  | [] => by simp [wtd, potL]
  | (w, t) :: r => by
    have h1 := potL_wtd f r
    have h2 := prL_wtd f r
    unfold wtd at h1 h2 ⊢
    simp only [List.map_cons, potL, h1, h2, Int.natAbs_mul]
    rw [← Nat.mul_max_mul_left]
    congr 1 <;> ac_rfl
theorem step_pot {t u : Th} (h : Step t u) : u.pot = t.pot := by
  induction h with
  | @here n c pre w m d qs r h =>
    simp only [Th.pot, potL_app, prL_app, prL_wtd, potL_wtd, potL, prL, Th.pr, Int.natAbs_mul]
    generalize (prL pre).natAbs = P
    generalize (prL qs).natAbs = Q
    generalize (prL r).natAbs = R
    generalize m.natAbs = M
    generalize w.natAbs = W
    rw [← Nat.mul_max_mul_left, ← Nat.mul_max_mul_right, Nat.max_assoc]
    congr 1
    · ac_rfl
    · congr 1 <;> ac_rfl
  | @down n c pre w t u r h ih => simp only [Th.pot, potL_app, prL_app, potL, prL, ih, step_pr h]
/-- what holds of all things that come by steps of one -/
structure Bd (A : Nat) (t : Th) : Prop where
  low : t.low
  full : t.full = true
  pr : t.pr.natAbs ≤ A
  pot : t.pot ≤ A
theorem Bd.step {A : Nat} {t u : Th} (h : Bd A t) (s : Step t u) : Bd A u := ⟨step_low s h.low, step_full s h.full, by rw [step_pr s]; exact h.pr, by rw [step_pot s]; exact h.pot⟩
theorem pot_pos : ∀ t : Th, t.low → t.full = true → 1 ≤ t.pot := by
  refine Th.ind (fun i _ _ => by simp only [Th.pot]; omega) fun n c ps ih g f => ?_
  simp only [Th.each] at g
  simp only [Th.full, Bool.and_eq_true] at f
  cases ps with
  | nil => simp at f
  | cons p r =>
    obtain ⟨w, t⟩ := p
    have h1 := ih (w, t) (List.mem_cons_self ..) (eachL_iff.mp g.2 _ (List.mem_cons_self ..)) (fullL_iff.mp f.2 _ (List.mem_cons_self ..))
    have h2 := g.1.w0 (w, t) (List.mem_cons_self ..)
    have h3 : eachL LowS r := eachL_iff.mpr fun p hp => eachL_iff.mp g.2 p (List.mem_cons_of_mem _ hp)
    have h4 := (low_prL h3).1
    simp only at h1 h2
    simp only [Th.pot, potL]
    have : 1 * 1 * 1 ≤ w.natAbs * t.pot * (prL r).natAbs := Nat.mul_le_mul (Nat.mul_le_mul (by omega) h1) (by omega)
    omega
theorem Bd.part {A : Nat} {n c : Int} {ps : List (Int × Th)} (h : Bd A (.st n c ps)) {p : Int × Th} (hp : p ∈ ps) : Bd A p.2 ∧ p.1.natAbs ≤ A ∧ p.1 ≠ 0 := by
  have g := h.low
  have f := h.full
  simp only [Th.each] at g
  simp only [Th.full, Bool.and_eq_true] at f
  obtain ⟨pre, r, rfl⟩ := List.append_of_mem hp
  obtain ⟨w, t⟩ := p
  have gp : eachL LowS pre := eachL_iff.mpr fun p hp => eachL_iff.mp g.2 p (List.mem_append_left _ hp)
  have gr : eachL LowS r := eachL_iff.mpr fun p hp => eachL_iff.mp g.2 p (List.mem_append_right _ (List.mem_cons_of_mem _ hp))
  have gt : t.low := eachL_iff.mp g.2 _ hp
  have ft : t.full = true := fullL_iff.mp f.2 _ hp
  have h1 := (low_prL gp).1
  have h2 := (low_prL gr).1
  have h3 := (low_pr t gt).1
  have h4 := pot_pos t gt ft
  have h5 := h.pot
  have h6 := h.pr
  have n1 := g.1.n1
  have w0 := g.1.w0 _ hp
  simp only at w0
  simp only [Th.pot, potL_app, potL] at h5
  simp only [Th.pr, prL_app, prL, Int.natAbs_mul] at h6
  have k : w.natAbs * t.pot ≤ A := by
    have k1 : w.natAbs * t.pot * 1 ≤ w.natAbs * t.pot * (prL r).natAbs := Nat.mul_le_mul_left _ (by omega)
    have k2 : 1 * (w.natAbs * t.pot * (prL r).natAbs) ≤ (prL pre).natAbs * max (w.natAbs * t.pot * (prL r).natAbs) (t.pr.natAbs * potL r) := Nat.mul_le_mul (by omega) (Nat.le_max_left ..)
    omega
  have k3 : w.natAbs * 1 ≤ w.natAbs * t.pot := Nat.mul_le_mul_left _ h4
  have k4 : 1 * t.pot ≤ w.natAbs * t.pot := Nat.mul_le_mul_right _ (by omega)
  have k5 : t.pr.natAbs ≤ A := by
    have k6 : 1 * (1 * (t.pr.natAbs * 1)) ≤ n.natAbs * ((prL pre).natAbs * (t.pr.natAbs * (prL r).natAbs)) := Nat.mul_le_mul (by omega) (Nat.mul_le_mul (by omega) (Nat.mul_le_mul_left _ (by omega)))
    omega
  exact ⟨⟨gt, ft, k5, by show t.pot ≤ A; omega⟩, by show w.natAbs ≤ A; omega, w0⟩
/-- what holds at a thing itself -/
def evS (P : Int → Int → List (Int × Th) → Prop) : Th → Prop
  | .inp _ => True
  | .st n c ps => P n c ps
mutual
theorem things_each {P : Int → Int → List (Int × Th) → Prop} : ∀ (t : Th) (w : List Int), t.each P ↔ ∀ p ∈ t.things w, evS P p.2
  | .inp i, w => by simp [Th.each, Th.things, evS]
  | .st n c ps, w => by
    simp only [Th.each, Th.things, List.mem_cons, forall_eq_or_imp, evS, thingsAt_each ps w 0]
theorem thingsAt_each {P : Int → Int → List (Int × Th) → Prop} : ∀ (ps : List (Int × Th)) (w : List Int) (k : Nat), eachL P ps ↔ ∀ p ∈ thingsAt ps w k, evS P p.2
  | [], w, k => by simp [eachL, thingsAt]
  | (x, t) :: r, w, k => by
    simp only [eachL, thingsAt, List.mem_append, or_imp, forall_and]
    rw [things_each t, thingsAt_each r w (k + 1)]
end
theorem sts_each {P : Int → Int → List (Int × Th) → Prop} (t : Th) (w : List Int) : t.each P ↔ ∀ p ∈ t.sts w, evS P p.2 := by
  rw [things_each t w]
  unfold Th.sts
  constructor
  · intro h p hp
    exact h p (List.mem_filter.mp hp).1
  · intro h p hp
    cases e : p.2 with
    | inp i => simp [evS]
    | st n c ps => rw [← e]; exact h p (List.mem_filter.mpr ⟨hp, by rw [e]; rfl⟩)
/-- no divisor, no weight beyond -/
def wiB : Th → Bool
  | .inp _ => true
  | .st n _ ps => decide (n ≤ 10 ^ 30) && ps.all fun p => decide (p.1.natAbs ≤ 10 ^ 30)
def withinT (t : Th) : Bool := (t.sts []).all fun p => wiB p.2
theorem within_iff (t : Th) : withinT t = true ↔ t.each fun n _ ps => n ≤ 10 ^ 30 ∧ ∀ p ∈ ps, p.1.natAbs ≤ 10 ^ 30 := by
  unfold withinT
  rw [sts_each t [], List.all_eq_true]
  refine forall_congr' fun p => forall_congr' fun hp => ?_
  cases e : p.2 with
  | inp i => simp [wiB, evS]
  | st n c ps => simp [wiB, evS]
theorem bd_each {A : Nat} : ∀ t : Th, Bd A t → t.each fun n _ ps => n.natAbs ≤ A ∧ ∀ p ∈ ps, p.1.natAbs ≤ A := by
  refine Th.ind (fun i _ => by simp only [Th.each]) fun n c ps ih B => ?_
  simp only [Th.each]
  refine ⟨⟨?_, fun p hp => (B.part hp).2.1⟩, eachL_iff.mpr fun p hp => ih p hp (B.part hp).1⟩
  have h1 := B.low
  simp only [Th.each] at h1
  have h2 := (low_prL h1.2).1
  have h6 := B.pr
  simp only [Th.pr, Int.natAbs_mul] at h6
  have k : n.natAbs * 1 ≤ n.natAbs * (prL ps).natAbs := Nat.mul_le_mul_left _ (by omega)
  omega
theorem Bd.n {A : Nat} {n c : Int} {ps : List (Int × Th)} (h : Bd A (.st n c ps)) : 1 ≤ n ∧ n.natAbs ≤ A ∧ 0 ≤ c ∧ c < n := by
  have g := h.low
  simp only [Th.each] at g
  have h1 := (low_prL g.2).1
  have h6 := h.pr
  simp only [Th.pr, Int.natAbs_mul] at h6
  have k : n.natAbs * 1 ≤ n.natAbs * (prL ps).natAbs := Nat.mul_le_mul_left _ (by omega)
  exact ⟨g.1.n1, by omega, g.1.c0, g.1.c1⟩
end SC
namespace SC
open PySem PySem.Spec PyProof.Rows L2 StrLaws
/-! ## slices and sums of tuples, new or not -/
section
variable {K : PySem.W.Frag} {H : Hp} {Q : VK}
theorem l_slT {a : Addr} {xs : List V} {lo hi : Option Int} (h : SqT K H a xs) (q : ∀ (p : Addr) (H' : Hp), Same H H' → SqT K H' p (cutV xs lo hi) → Q (.ref p) H') : rSlA K (.ref a) lo hi H Q := by
  refine ⟨a, xs, rfl, h, fun z => ?_, fun _ p np => q p _ (same_new np) (sq_t upd_same)⟩
  refine q a H (Same.refl _) ?_
  have e : cutV xs lo hi = xs := by
    unfold cutV
    rw [z.1, z.2, List.drop_zero, Nat.sub_zero, List.take_length]
  rw [e]; exact h
theorem l_catU {a b : Addr} {xs ys : List V} (h1 : SqT K H a xs) (h2 : SqT K H b ys) (hl : xs.length + ys.length ≤ sizeLine) (q : ∀ (p : Addr) (H' : Hp), Same H H' → SqT K H' p (xs ++ ys) → Q (.ref p) H') : rCatA K (.ref a) (.ref b) H Q := by
  refine ⟨a, b, xs, ys, rfl, rfl, h1, h2, hl, fun z => ?_, fun _ z => ?_, fun _ _ p np => q p _ (same_new np) (sq_t upd_same)⟩
  · refine q b H (Same.refl _) ?_
    rw [z, List.nil_append]; exact h2
  · refine q a H (Same.refl _) ?_
    rw [z, List.append_nil]; exact h1
theorem cut_take {xs : List V} {k : Nat} : cutV xs none (some (k : Int)) = xs.take k := by
  unfold cutV
  rw [HT.sIx_none, show HT.sIx xs.length xs.length (some (k : Int)) = min k xs.length from HT.sIx_nat xs.length xs.length k, List.drop_zero, Nat.sub_zero]
  rcases Nat.le_total k xs.length with z | z
  · rw [Nat.min_eq_left z]
  · rw [Nat.min_eq_right z, List.take_length, List.take_of_length_le z]
theorem cut_drop {xs : List V} {k : Nat} (hk : k ≤ xs.length) : cutV xs (some (k : Int)) none = xs.drop k := by
  unfold cutV
  rw [HT.sIx_none, show HT.sIx xs.length 0 (some (k : Int)) = min k xs.length from HT.sIx_nat xs.length 0 k, Nat.min_eq_left hk]
  exact List.take_of_length_le (by rw [List.length_drop]; exact Nat.le_refl _)
theorem dps_take : ∀ {xs : List V} {ds : List PyData} (k : Nat), DpAll K H xs ds → DpAll K H (xs.take k) (ds.take k)
  | _, _, 0, _ => by simp only [List.take_zero]; exact .nil
  | _, _, k + 1, .nil => by simp only [List.take_nil]; exact .nil
  | _, _, k + 1, .cons h1 h2 => by simp only [List.take_succ_cons]; exact .cons h1 (dps_take k h2)
theorem dps_drop : ∀ {xs : List V} {ds : List PyData} (k : Nat), DpAll K H xs ds → DpAll K H (xs.drop k) (ds.drop k)
  | _, _, 0, h => by simp only [List.drop_zero]; exact h
  | _, _, k + 1, .nil => by simp only [List.drop_nil]; exact .nil
  | _, _, k + 1, .cons h1 h2 => by simp only [List.drop_succ_cons]; exact dps_drop k h2
end
theorem g_orV {ta tb : TE} {σ : L2.St} {H : Hp} {Q : VK} (q : ta σ H fun x H1 => ∃ c, x = .bl c ∧ if c = true then Q (.bl true) H1 else tb σ H1 Q) : tOrV ta tb σ H Q := q
theorem toDL_app (a b : List (Int × Th)) : toDL (a ++ b) = toDL a ++ toDL b := by rw [toDL_eq, toDL_eq, toDL_eq, List.map_append]
theorem toDL_take (a : List (Int × Th)) (k : Nat) : toDL (a.take k) = (toDL a).take k := by rw [toDL_eq, toDL_eq, List.map_take]
theorem toDL_drop (a : List (Int × Th)) (k : Nat) : toDL (a.drop k) = (toDL a).drop k := by rw [toDL_eq, toDL_eq, List.map_drop]
theorem toDL_t (ps : List (Int × Th)) : tupAll (toDL ps) = true := by
  have := toD_t (.st 0 0 ps)
  simp only [Th.toD, tupD, tupAll, Bool.and_true, Bool.true_and] at this
  exact this
/-- parts as a tuple -/
def parD (ps : List (Int × Th)) : PyData := .tuple (toDL ps)
theorem par_get {K : PySem.W.Frag} {H : Hp} {v : V} {ps : List (Int × Th)} (h : Dp K H v (parD ps)) : ∃ a xs, v = .ref a ∧ SqT K H a xs ∧ DpAll K H xs (toDL ps) := by
  unfold parD at h
  obtain ⟨a, rfl⟩ := dp_tuple h
  obtain ⟨xs, h1, h2⟩ := dp_tup h
  exact ⟨a, xs, rfl, h1, h2⟩
theorem st_mk {K : PySem.W.Frag} {H : Hp} {p b : Addr} {n c : Int} {ps : List (Int × Th)} (h : SqT K H p [.int n, .int c, .ref b]) (hb : Dp K H (.ref b) (parD ps)) : Dp K H (.ref p) (Th.st n c ps).toD := by
  simp only [Th.toD]
  exact .tup h (.cons (.int _) (.cons (.int _) (.cons hb .nil)))
theorem st_get {K : PySem.W.Frag} {H : Hp} {v : V} {n c : Int} {ps : List (Int × Th)} (h : Dp K H v (Th.st n c ps).toD) : ∃ p b, v = .ref p ∧ SqT K H p [.int n, .int c, .ref b] ∧ Dp K H (.ref b) (parD ps) := by
  have h0 := h
  simp only [Th.toD] at h0
  obtain ⟨p, rfl⟩ := dp_tuple h0
  obtain ⟨b, xs, h1, h2, h3⟩ := pl_at h
  exact ⟨p, b, rfl, h1, .tup h2 h3⟩
/-- a plan, or what comes of it by merging -/
structure Pln (A : Nat) (t : Th) : Prop where
  st : ∃ n c ps, t = .st n c ps
  bd : Bd A t
  big : A ≤ 2 ^ 4000
  dep : t.dep ≤ 8
  many : t.nSt ≤ 12
  inp : t.nIn ≤ 30
theorem Pln.step {A : Nat} {t u : Th} (s : Step t u) (h : Pln A t) : Pln A u :=
  ⟨step_st s, h.bd.step s, h.big, Nat.le_trans (step_dep s) h.dep, by have := step_nSt s; have := h.many; omega, by rw [step_nIn s]; exact h.inp⟩
theorem Pln.mg {A : Nat} {t : Th} (h : Pln A t) : Pln A t.mg := mg_ind (P := Pln A) (fun t u s h => h.step s) _ t h
mutual
/-- stages in order, with ways and shares -/
def Th.stw (w : List Int) (a b : Int) : Th → List (List Int × Th × Int × Int)
  | .inp _ => []
  | .st n c ps => (w, .st n c ps, a, b) :: stwL w 0 a (b * n) ps
def stwL (w : List Int) (k : Nat) (a b : Int) : List (Int × Th) → List (List Int × Th × Int × Int)
  | [] => []
  | (x, t) :: r => t.stw (w ++ [(k : Int)]) (a * x) b ++ stwL w (k + 1) a b r
end
theorem stwL_snoc (w : List Int) (a b : Int) : ∀ (ps : List (Int × Th)) (k : Nat) (x : Int) (t : Th), stwL w k a b (ps ++ [(x, t)]) = stwL w k a b ps ++ t.stw (w ++ [((k + ps.length : Nat) : Int)]) (a * x) b
  | [], k, x, t => by simp [stwL]
  | (y, u) :: ps, k, x, t => by
    simp only [List.cons_append, stwL, stwL_snoc w a b ps (k + 1) x t, List.append_assoc, List.length_cons]
    rw [show k + 1 + ps.length = k + (ps.length + 1) by omega]
def stQ : List Int × Th × Int × Int → Q4
  | (_, .inp _, a, b) => (a, b, 0, 0)
  | (_, .st n c _, a, b) => (a, b, n, c)
mutual
theorem stw_sq : ∀ (t : Th) (w : List Int) (a b : Int), (t.stw w a b).map stQ = t.sq a b
  | .inp _, w, a, b => by simp only [Th.stw, Th.sq, List.map_nil]
  | .st n c ps, w, a, b => by simp only [Th.stw, Th.sq, List.map_cons, stQ, stwL_sq ps w 0 a (b * n)]
theorem stwL_sq : ∀ (ps : List (Int × Th)) (w : List Int) (k : Nat) (a b : Int), (stwL w k a b ps).map stQ = sqL a b ps
  | [], w, k, a, b => by simp only [stwL, sqL, List.map_nil]
  | (x, t) :: r, w, k, a, b => by simp only [stwL, sqL, List.map_append, stw_sq t, stwL_sq r]
end
theorem stw_len (t : Th) (w : List Int) (a b : Int) : (t.stw w a b).length = t.nSt := by
  have := congrArg List.length (stw_sq t w a b)
  rwa [List.length_map, sq_len] at this
end SC
namespace SC
open PySem PySem.Spec PyProof.Rows L2 StrLaws
/-! ## plans merged: bounds, the spread, rows -/
theorem good_low : ∀ t : Th, t.good → t.low := Th.ind (fun i _ => by simp only [Th.each]) fun n c ps ih g => by
  simp only [Th.good] at g
  simp only [Th.each]
  refine ⟨⟨g.1.n1, g.1.c0, g.1.c1, fun p hp => ?_⟩, eachL_iff.mpr fun p hp => ih p hp (goodL_iff.mp g.2 p hp)⟩
  exact (g.1.ws.1 p.1 (List.mem_map.mpr ⟨p, hp, rfl⟩)).1
theorem fit_low : ∀ t : Th, t.low → (t.each fun n _ ps => n ≤ 10 ^ 30 ∧ ∀ p ∈ ps, p.1.natAbs ≤ 10 ^ 30) → t.fit := Th.ind (fun i _ _ => by simp only [Th.fit]) fun n c ps ih g h => by
  simp only [Th.each] at g h
  simp only [Th.fit]
  exact ⟨g.1.n1, h.1.1, g.1.c0, g.1.c1, fitL_iff.mpr fun p hp => ⟨h.1.2 p hp, ih p hp (eachL_iff.mp g.2 p hp) (eachL_iff.mp h.2 p hp)⟩⟩
theorem pr_upto {M : Nat} (h1 : 1 ≤ M) : ∀ t : Th, (t.each fun n _ _ => n.natAbs ≤ M) → t.pr.natAbs ≤ M ^ t.nSt := Th.ind (fun i _ => by simp only [Th.pr, Th.nSt, Nat.pow_zero]; decide) fun n c ps ih h => by
  simp only [Th.each] at h
  simp only [Th.pr, Th.nSt, Int.natAbs_mul]
  have : ∀ qs : List (Int × Th), (∀ p ∈ qs, p.2.pr.natAbs ≤ M ^ p.2.nSt) → (prL qs).natAbs ≤ M ^ nStL qs := fun qs => by
    induction qs with
    | nil => intro _; simp only [prL, nStL, Nat.pow_zero]; decide
    | cons p r ih2 =>
      intro hq
      obtain ⟨w, t⟩ := p
      simp only [prL, nStL, Int.natAbs_mul, Nat.pow_add]
      exact Nat.mul_le_mul (hq (w, t) (List.mem_cons_self ..)) (ih2 fun q hq' => hq q (List.mem_cons_of_mem _ hq'))
  rw [Nat.pow_succ, Nat.mul_comm]
  exact Nat.mul_le_mul (this ps fun p hp => ih p hp (eachL_iff.mp h.2 p hp)) h.1
theorem pot_upto {W : Nat} (h1 : 1 ≤ W) : ∀ t : Th, t.low → (t.each fun _ _ ps => ∀ p ∈ ps, p.1.natAbs ≤ W) → t.pot ≤ W ^ t.dep * t.pr.natAbs := Th.ind (fun i _ _ => by simp only [Th.pot, Th.dep, Th.pr, Nat.pow_zero]; decide) fun n c ps ih g h => by
  simp only [Th.each] at g h
  have : ∀ (D : Nat) (qs : List (Int × Th)), (∀ p ∈ qs, p.2.pot ≤ W ^ p.2.dep * p.2.pr.natAbs ∧ p.1.natAbs ≤ W ∧ p.2.dep ≤ D) → potL qs ≤ W ^ (D + 1) * (prL qs).natAbs := fun D qs => by
    induction qs with
    | nil => intro _; simp only [potL]; omega
    | cons p r ih2 =>
      intro hq
      obtain ⟨w, t⟩ := p
      obtain ⟨a1, a2, a3⟩ := hq (w, t) (List.mem_cons_self ..)
      simp only at a1 a2 a3
      have a4 := ih2 fun q hq' => hq q (List.mem_cons_of_mem _ hq')
      simp only [potL, prL, Int.natAbs_mul]
      refine Nat.max_le.mpr ⟨?_, ?_⟩
      · have b1 : w.natAbs * t.pot ≤ W * (W ^ D * t.pr.natAbs) := Nat.mul_le_mul a2 (Nat.le_trans a1 (Nat.mul_le_mul_right _ (Nat.pow_le_pow_right h1 a3)))
        have b2 := Nat.mul_le_mul_right (prL r).natAbs b1
        rw [Nat.pow_succ]
        calc _ ≤ _ := b2
          _ = _ := by ac_rfl
      · have b2 := Nat.mul_le_mul_left t.pr.natAbs a4
        calc _ ≤ _ := b2
          _ = _ := by ac_rfl
  have k := this (depL ps) ps fun p hp => ⟨ih p hp (eachL_iff.mp g.2 p hp) (eachL_iff.mp h.2 p hp), h.1 p hp, depL_le.mp (Nat.le_refl _) p hp⟩
  simp only [Th.pot, Th.dep, Th.pr, Int.natAbs_mul]
  have n1 := g.1.n1
  refine Nat.le_trans k (Nat.mul_le_mul_left _ ?_)
  have : 1 * (prL ps).natAbs ≤ n.natAbs * (prL ps).natAbs := Nat.mul_le_mul_right _ (by omega)
  omega
theorem mg_keep {t : Th} (g : t.low) : t.mg.low ∧ t.mg.sn = t.sn ∧ t.mg.pr = t.pr := by
  have := mg_ind (P := fun u => u.low ∧ u.sn = t.sn ∧ u.pr = t.pr) (fun a b s h => ⟨step_low s h.1, by rw [step_sn s h.1]; exact h.2.1, by rw [step_pr s]; exact h.2.2⟩) t.nSt t ⟨g, rfl, rfl⟩
  exact this
theorem lst_lt1 {a b : Int} (hb : 0 < b) : (lst a b).1 < (lst a b).2 ↔ a < b := by
  have h1 := lst_1 a b
  have h2 := lst_2 a b
  have h3 : (0 : Int) < (gcdN a b : Int) := by have := gcdN_pos (a := a) hb; omega
  generalize (lst a b).1 = x at *
  generalize (lst a b).2 = y at *
  generalize (gcdN a b : Int) = g at *
  rw [← h1, ← h2]
  exact (Int.mul_lt_mul_right h3).symm
/-- stages in a row, by 1 and -1 -/
structure RowS (n c : Int) (ps : List (Int × Th)) : Prop where
  pw : ∀ p ∈ ps, isSt p.2 = true → p.1 = 1 ∨ p.1 = -1
  one : (ps.map (·.2)).countP isSt ≤ 1
theorem step_row {t u : Th} (h : Step t u) : t.each RowS → u.each RowS := step_each h (fun {n c pre w m d qs r} h a b => by
  have ao := a.one
  rw [List.map_append, List.countP_append, List.map_cons, List.countP_cons] at ao
  have e1 : isSt (Th.st m d qs) = true := rfl
  rw [if_pos e1] at ao
  have hw := a.pw (w, .st m d qs) (List.mem_append_right _ (List.mem_cons_self ..)) rfl
  simp only at hw
  have none : ∀ {l : List (Int × Th)}, (l.map (·.2)).countP isSt = 0 → ∀ p ∈ l, isSt p.2 = false := fun {l} hl p hp => by
    have := List.countP_eq_zero.mp hl p.2 (List.mem_map.mpr ⟨p, hp, rfl⟩)
    simpa using this
  refine ⟨fun p hp hs => ?_, ?_⟩
  · rcases List.mem_append.mp hp with hp | hp
    · rcases List.mem_append.mp hp with hp | hp
      · obtain ⟨q, hq, rfl⟩ := mem_wtd hp
        have := none (l := pre) (by omega) q hq
        rw [this] at hs; cases hs
      · obtain ⟨q, hq, rfl⟩ := mem_wtd hp
        have := b.pw q hq hs
        show q.1 * w = 1 ∨ q.1 * w = -1
        rcases this with z | z <;> rcases hw with y | y <;> rw [z, y] <;> decide
    · obtain ⟨q, hq, rfl⟩ := mem_wtd hp
      have := none (l := r) (by omega) q hq
      rw [this] at hs; cases hs
  · rw [List.map_append, List.map_append, List.countP_append, List.countP_append, wtd_snd, wtd_snd, wtd_snd]
    have := b.one
    omega) (fun {n c pre w a b qs a' b' qs' r} h => by
  refine ⟨fun p hp hs => ?_, ?_⟩
  · rcases List.mem_append.mp hp with hp | hp
    · exact h.pw p (List.mem_append_left _ hp) hs
    · rcases List.mem_cons.mp hp with z | z
      · rw [z]; exact h.pw (w, .st a b qs) (List.mem_append_right _ (List.mem_cons_self ..)) rfl
      · exact h.pw p (List.mem_append_right _ (List.mem_cons_of_mem _ z)) hs
  · have := h.one
    rw [List.map_append, List.countP_append, List.map_cons, List.countP_cons] at this ⊢
    exact this)
theorem row_end {n c : Int} {ps : List (Int × Th)} (h : (Th.st n c ps).each RowS) (hm : (Th.st n c ps).m1 = none) : nStL ps = 0 := by
  have hN := m1_none _ hm
  simp only [Th.each] at h hN
  by_cases z : nStL ps = 0
  · exact z
  · exfalso
    obtain ⟨pre, w, m, d, qs, r, e⟩ := nSt_mem z
    have hmem : (w, Th.st m d qs) ∈ ps := by rw [e]; exact List.mem_append_right _ (List.mem_cons_self ..)
    have h1 := hN.1 _ hmem
    have h2 := h.1.pw _ hmem rfl
    simp only [canM, Bool.or_eq_false_iff, decide_eq_false_iff_not] at h1
    simp only at h2
    omega
end SC
namespace SC
open PySem PySem.Spec PyProof.Rows L2 StrLaws RT
/-! ## zip(l, t): a list beside a tuple -/
def ItzN (K : PySem.W.Frag) (a b : Addr) : It :=
  ⟨fun i H => ∃ (xs ys : List V) (x y : V), SqL K H a xs ∧ SqT K H b ys ∧ xs[i]? = some x ∧ ys[i]? = some y,
    fun i H v H' => ∃ T x y, v = .ref T ∧ H T = none ∧ H' = upd H T (.tup [x, y]) ∧ (∀ xs, SqL K H a xs → xs[i]? = some x) ∧ (∀ ys, SqT K H b ys → ys[i]? = some y),
    fun i H => ∃ xs ys : List V, SqL K H a xs ∧ SqT K H b ys ∧ i = min xs.length ys.length⟩
theorem turn_zipN {P : Program} {w : World} {K : PySem.W.Frag} {elts : List Expr} {kk : Nat} {tpos : Pos} {a b z TI TO i1 i2 : Addr} (S : ZipSep2 z TI TO i1 i2 [i1, a] [i2, b]) (na : a ≠ i1) (nb : b ≠ i2) :
    Turn P w K (.Tuple elts kk tpos) (ItzN K a b) [z, TI, TO, i1, i2] z (fun i h => IsZip h z TI TO .none ∧ IsTupOf2 h TI (.ref i1) (.ref i2) ∧ (∃ x y, IsTupOf2 h TO x y) ∧ h.IsListIter i1 a i ∧ h.IsTupleIter i2 b i) where
  mem := by simp
  obj := fun i h st d hd => by
    obtain ⟨hz, hTI, ⟨x, y, hTO⟩, ⟨o1, e1, _, d1⟩, ⟨o2, e2, _, d2⟩⟩ := st
    have e' : d = z ∨ d = TI ∨ d = TO ∨ d = i1 ∨ d = i2 := by simpa using hd
    rcases e' with q | q | q | q | q
    · rw [q]; exact ⟨_, hz, fun v q => nomatch q⟩
    · rw [q]; exact ⟨_, hTI, fun v q => nomatch q⟩
    · rw [q]; exact ⟨_, hTO, fun v q => nomatch q⟩
    · rw [q]; exact ⟨o1, e1, fun v q => by rw [d1] at q; cases q⟩
    · rw [q]; exact ⟨o2, e2, fun v q => by rw [d2] at q; cases q⟩
  keep := fun i h h' st k => by
    obtain ⟨hz, hTI, ⟨x, y, hTO⟩, h1, h2⟩ := st
    exact ⟨k z (by simp) _ hz, k TI (by simp) _ hTI, ⟨x, y, k TO (by simp) _ hTO⟩, h1.at fun o q => k i1 (by simp) o q, h2.at fun o q => k i2 (by simp) o q⟩
  item := by
    intro X hP hw hK hc i pins s σ H E I hf st hg
    subst hP hw hK
    obtain ⟨hz, hTI, hTO, h1, h2⟩ := st
    obtain ⟨xs, ys, x, y, hqx, hqy, hx, hy⟩ := hg
    obtain ⟨its, rv, p, _⟩ := I.list hqx
    obtain ⟨its2, rv2, p2, _⟩ := I.tuple hqy
    have hh : X.A.in1.handled = none := I.ok.hd hc
    have W := GoesN.zip2 (prog := X.prog) (w := X.w) (A := X.A) (elts := elts) (x1 := kk) (pos := tpos) S (Draws.list hh i1 a na its.toArray) (Draws.tuple hh i2 b nb its2.toArray)
    obtain ⟨v1, hv1, r1⟩ := rv.get hx
    obtain ⟨v2, hv2, r2⟩ := rv2.get hy
    have l1 := (List.getElem?_eq_some_iff.mp hv1).1
    have l2 := (List.getElem?_eq_some_iff.mp hv2).1
    have hlt : i < min its.toArray.size its2.toArray.size := by simp only [List.size_toArray]; omega
    have fpl : ∀ d ∈ [z, TI, TO, i1, i2], d < s.heap.objs.size := fun d hd => by
      obtain ⟨o1, e1, _⟩ := h1
      obtain ⟨o2, e2, _⟩ := h2
      obtain ⟨_, _, hTO⟩ := hTO
      have e' : d = z ∨ d = TI ∨ d = TO ∨ d = i1 ∨ d = i2 := by simpa using hd
      rcases e' with q | q | q | q | q
      · rw [q]; exact Heap.lt_size hz
      · rw [q]; exact Heap.lt_size hTI
      · rw [q]; exact Heap.lt_size hTO
      · rw [q]; exact Heap.lt_size e1
      · rw [q]; exact Heap.lt_size e2
    refine W.goes i s (fun v s2 => ∃ x H', Inv X pins σ H' s2 ∧ RelV x v ∧ (ItzN X.K a b).yld i H x H' ∧ _ ∧ ∀ d ∈ [z, TI, TO, i1, i2], H' d = none) E hlt ⟨hz, hTI, hTO, ⟨h1, p.isList⟩, ⟨h2, show s.heap.IsTuple b its2.toArray from p2⟩⟩ fun v h' tk hY st' hk htk => ?_
    obtain ⟨T', y1, y2, rfl, hT, q1, q2, hTup⟩ := hY
    have e1 : y1 = v1 := by
      have : its[i]? = some y1 := by simpa using q1
      rw [hv1] at this; exact (Option.some.inj this).symm
    have e2 : y2 = v2 := by
      have : its2[i]? = some y2 := by simpa using q2
      rw [hv2] at this; exact (Option.some.inj this).symm
    subst e1 e2
    obtain ⟨sz', sTI, sTO, ⟨s1, _⟩, ⟨s2, _⟩⟩ := st'
    have new : ObjOk X.prog X.w (upd H T' (.tup [x, y])) h' T' (.tup [x, y]) :=
      ⟨by show 2 ≤ sizeLine; decide, [y1, y2], .cons r1 (.cons r2 .nil), hTup⟩
    have I1 : Inv X pins σ (upd H T' (.tup [x, y])) { s with heap := h', toks := tk } :=
      I.turnedNew (ch := [z, TO, i1, i2]) hk (fun d hd => hf d (by
        simp only [List.mem_cons, List.not_mem_nil, or_false] at hd ⊢
        rcases hd with q | q | q | q <;> simp [q])) hT new
    refine ⟨.ref T', _, I1, rfl, ⟨T', x, y, rfl, I.hok.fresh hT, rfl, fun l hl => by rw [I.list_inj hl hqx]; exact hx, fun l hl => by rw [I.tuple_inj hl hqy]; exact hy⟩, ⟨sz', sTI, sTO, s1, s2⟩, fun d hd => ?_⟩
    rw [upd_ne (Nat.ne_of_lt (Nat.lt_of_lt_of_le (fpl d hd) hT))]
    exact (hf d hd).1
  done := by
    intro X hP hw hK hc i pins s σ H E I hf st hg
    subst hP hw hK
    obtain ⟨hz, hTI, hTO, h1, h2⟩ := st
    obtain ⟨xs, ys, hqx, hqy, he⟩ := hg
    obtain ⟨its, rv, p, _⟩ := I.list hqx
    obtain ⟨its2, rv2, p2, _⟩ := I.tuple hqy
    have hh : X.A.in1.handled = none := I.ok.hd hc
    have W := GoesN.zip2 (prog := X.prog) (w := X.w) (A := X.A) (elts := elts) (x1 := kk) (pos := tpos) S (Draws.list hh i1 a na its.toArray) (Draws.tuple hh i2 b nb its2.toArray)
    have l1 := rv.length
    have l2 := rv2.length
    have e : i = min its.toArray.size its2.toArray.size := by simp only [List.size_toArray]; rw [he, l1, l2]
    have h1' := h1
    have h2' := h2
    rw [e] at h1' h2'
    refine W.stops s (fun s1 => Inv X pins σ H s1) E ⟨hz, hTI, hTO, ⟨h1', p.isList⟩, ⟨h2', show s.heap.IsTuple b its2.toArray from p2⟩⟩ fun h' tk hk htk => ?_
    exact I.turnedL (t' := tk) (ch := [z, TO, i1, i2]) hk fun d hd => hf d (by
      simp only [List.mem_cons, List.not_mem_nil, or_false] at hd ⊢
      rcases hd with q | q | q | q <;> simp [q])
  self := fun A i s Q E st h => wpAny_pyIter_zip st.1 h
def iZipN (K : PySem.W.Frag) (ta : TA) : TI := fun σ H R => ta σ H fun vs H1 => ∃ a b xs ys, vs = [.ref a, .ref b] ∧ SqL K H1 a xs ∧ SqT K H1 b ys ∧ R (ItzN K a b) H1
theorem pi_zipN {X : Cx} {e e2 : Expr} {ta : TA} {p pos tpos : Pos} {elts : List Expr} {kk : Nat} (hg : Gl X "zip") (hm : X.mg "zip" = none) (ha : PA X [e, e2] ta)
    (hs : starEach [e, e2] X.env = (false, eval e X.env) :: starEach [e2] X.env := by rfl) (hpl : (backTo pos (starEach [e2] X.env)).any (·.1) = false := by rfl) :
    PI X (.Tuple elts kk tpos) (.Call (.Name "zip" p) [e, e2] [] pos) (iZipN X.K ta) := by
  refine ⟨fun pins s σ H R I h => ?_⟩
  refine Call_ (ld_blt I hg hm PyProof.Rows.boot_zip (PyProof.Rows.callWith_type1 (thn (ha.run pos pins s σ H _ I h) fun us s1 ⟨vs, H1, I1, r1, q1⟩ => ?_) hs hpl))
  obtain ⟨a, b, xs, ys, rfl, hqx, hqy, q⟩ := q1
  cases r1 with
  | cons r rr =>
    cases rr with
    | cons r' rr =>
      cases rr
      cases r
      cases r'
      obtain ⟨its, rv, p1, _⟩ := I1.list hqx
      obtain ⟨its2, rv2, p2, _⟩ := I1.tuple hqy
      obtain ⟨o2, ho2, _⟩ := id p2
      refine zip_begins2 (begins_list a its.toArray) (begins_tuple b its2.toArray) p1.isList (show s1.heap.IsTuple b its2.toArray from p2) fun h' hz hTI hTO g1 g2 hsz hk => wpAny_pyIter_zip hz ?_
      have I2 : Inv X pins σ H1 { s1 with heap := h' } := I1.kept (t' := s1.toks) hk
      have la := p1.lt
      have lb := Heap.lt_size ho2
      have sep : ZipSep2 (s1.heap.objs.size + 4) (s1.heap.objs.size + 2) (s1.heap.objs.size + 3) s1.heap.objs.size (s1.heap.objs.size + 1) [s1.heap.objs.size, a] [s1.heap.objs.size + 1, b] :=
        zip_sep2 (fun d hd => by rw [List.mem_singleton.mp hd]; exact la) (fun d hd => by rw [List.mem_singleton.mp hd]; exact lb)
      refine ⟨s1.heap.objs.size + 4, [s1.heap.objs.size + 4, s1.heap.objs.size + 2, s1.heap.objs.size + 3, s1.heap.objs.size, s1.heap.objs.size + 1], _, _, H1, rfl, I2, turn_zipN sep (Nat.ne_of_lt la) (Nat.ne_of_lt (Nat.lt_succ_of_lt lb)), ⟨hz, hTI, ⟨_, _, hTO⟩, ⟨_, g1, rfl, rfl⟩, ⟨_, g2, rfl, rfl⟩⟩, fun d hd => ?_, q⟩
      have hle : s1.heap.objs.size ≤ d := by
        simp only [List.mem_cons, List.not_mem_nil, or_false] at hd
        rcases hd with z | z | z | z | z <;> rw [z] <;> first | exact Nat.le_refl _ | exact Nat.le_add_right _ _
      exact I1.fpOk hle (I1.hok.fresh hle)
theorem g_iZipN {K : PySem.W.Frag} {ta : TA} {σ : L2.St} {H : Hp} {R : It → Hp → Prop} (q : ta σ H fun vs H1 => ∃ a b xs ys, vs = [.ref a, .ref b] ∧ SqL K H1 a xs ∧ SqT K H1 b ys ∧ R (ItzN K a b) H1) : iZipN K ta σ H R := q
theorem walk_zipN {K : PySem.W.Frag} {a b : Addr} {xs ys : List V} {n : Nat} (hx : n = xs.length) (hy : n = ys.length) :
    Walk (ItzN K a b) n (fun H => SqL K H a xs ∧ SqT K H b ys) (fun i H v H' => ∃ T x y, v = .ref T ∧ H T = none ∧ H' = upd H T (.tup [x, y]) ∧ xs[i]? = some x ∧ ys[i]? = some y) where
  goes := fun i H hi q => ⟨xs, ys, xs[i]'(by omega), ys[i]'(by omega), q.1, q.2, by simp, by simp⟩
  stops := fun H q => ⟨xs, ys, q.1, q.2, by omega⟩
  yields := fun i H x H' hi q y => by
    obtain ⟨T, u, v, h1, h2, h3, h4, h5⟩ := y
    exact ⟨T, u, v, h1, h2, h3, h4 xs q.1, h5 ys q.2⟩
/-! ## reversed -/
theorem g_iRev {K : PySem.W.Frag} {te : TE} {σ : L2.St} {H : Hp} {R : It → Hp → Prop} (q : te σ H fun v H1 => ∃ (a : Addr) (xs : List V), v = .ref a ∧ ((SqL K H1 a xs ∧ R (Itv K a xs.length) H1) ∨ (SqT K H1 a xs ∧ R (ItvT K a xs.length) H1))) : iRevA K te σ H R := q
theorem for_V {K : PySem.W.Frag} {a : Addr} {xs : List V} {g : TG} {tb : TS} {nx : L2.St → Hp → Prop} {rt : VK} {σ : L2.St} {H : Hp} (Pv : Nat → L2.St → Hp → Prop) (h0 : Pv 0 σ H) (hl : ∀ i σ H, i ≤ xs.length → Pv i σ H → SqL K H a xs)
    (hs : ∀ i x σ H, i < xs.length → xs[xs.length - 1 - i]? = some x → Pv i σ H → g x σ H fun σ2 H2 => tb { nx := Pv (i + 1), rt := rt, bk := nx, ct := Pv (i + 1) } σ2 H2)
    (hd : ∀ σ H, Pv xs.length σ H → nx σ H) : ForGoal (Itv K a xs.length) g tb nx rt σ H :=
  for_W (walk_rev (xs := xs)) Pv h0 hl (fun i x σ H H' hi p y => by
    obtain ⟨rfl, y⟩ := y
    exact hs i x σ _ hi y p) hd
/-! ## x *= y -/
def ipMW : TIp := fun x y H Q => ∃ i j, x = .int i ∧ y = .int j ∧ CMulW i j ∧ Q (.int (i * j)) H
theorem ip_mulW {X : Cx} : PIp X .Mult ipMW := by
  intro pins s σ H x y v u Q I r1 r2 h
  obtain ⟨i, j, e1, e2, hc, q⟩ := h
  subst e1; subst e2
  obtain ⟨t, rfl⟩ := r1
  obtain ⟨t', rfl⟩ := r2
  exact imul_int ⟨.int _, H, I.tok _, ⟨_, rfl⟩, q⟩ hc.ok
theorem l_ipM {m n : Int} {H : Hp} {Q : VK} (h : CMulW m n) (q : Q (.int (m * n)) H) : ipMW (.int m) (.int n) H Q := ⟨m, n, rfl, rfl, h, q⟩
/-! ## offsets as digits -/
def dvP : List Q4 → Int
  | [] => 1
  | p :: l => p.2.2.1 * dvP l
theorem dvP_app : ∀ (a b : List Q4), dvP (a ++ b) = dvP a * dvP b
  | [], b => by simp [dvP]
  | p :: a, b => by simp only [List.cons_append, dvP, dvP_app a b, Int.mul_assoc]
theorem dvP_snoc (l : List Q4) (p : Q4) : dvP (l ++ [p]) = dvP l * p.2.2.1 := by rw [dvP_app]; simp [dvP]
mutual
theorem dvP_pr : ∀ (t : Th) (a b : Int), dvP (t.sq a b) = t.pr
  | .inp _, a, b => by simp only [Th.sq, Th.pr]; rfl
  | .st n c ps, a, b => by
    simp only [Th.sq, Th.pr]
    simp only [dvP, dvP_prL ps]
theorem dvP_prL : ∀ (ps : List (Int × Th)) (a b : Int), dvP (sqL a b ps) = prL ps
  | [], a, b => by simp only [sqL, prL]; rfl
  | (x, t) :: r, a, b => by simp only [sqL, prL, dvP_app, dvP_pr t, dvP_prL r]
end
theorem dvP_le : ∀ {l : List Q4}, (∀ p ∈ l, p.2.2.1.natAbs ≤ ZN) → (dvP l).natAbs ≤ ZN ^ l.length
  | [], _ => by decide
  | p :: l, h => by
    simp only [dvP]
    rw [Int.natAbs_mul, List.length_cons, Nat.pow_succ, Nat.mul_comm]
    exact Nat.mul_le_mul (dvP_le fun q hq => h q (List.mem_cons_of_mem _ hq)) (h p (List.mem_cons_self ..))
theorem dvP_pos : ∀ {l : List Q4}, (∀ p ∈ l, 1 ≤ p.2.2.1) → 0 < dvP l
  | [], _ => by decide
  | p :: l, h => by
    simp only [dvP]
    have := h p (List.mem_cons_self ..)
    exact Int.mul_pos (by omega) (dvP_pos fun q hq => h q (List.mem_cons_of_mem _ hq))
/-- the figure a stage gets: turned about beneath an odd number of weights below 0 -/
def fig1 (p : Q4) (d : Int) : Int := if p.1 > 0 then d else p.2.2.1 - 1 - d
def digs : List Q4 → Int → List Int
  | [], _ => []
  | p :: r, k => fig1 p (k / dvP r % p.2.2.1) :: digs r k
theorem digs_len (k : Int) : ∀ l, (digs l k).length = l.length
  | [] => rfl
  | p :: r => by simp only [digs, List.length_cons, digs_len k r]
/-- shares are 1, or -1, by the product of what divides ahead, but where nothing is divided -/
def UR : Int → List Q4 → Prop
  | _, [] => True
  | P, p :: r => (1 < p.2.2.1 → (p.1.natAbs : Int) * P = p.2.1) ∧ UR (P * p.2.2.1) r
structure Ok4 (W : Int) (p : Q4) : Prop where
  n1 : 1 ≤ p.2.2.1
  b0 : 0 < p.2.1
  dv : p.2.1 * p.2.2.1 ∣ W
def stp (W : Int) (p : Q4) : Int := p.1 * (W / (p.2.1 * p.2.2.1))
def hiS (W : Int) : List Q4 → List Int → Int
  | p :: r, o :: os => max (stp W p * o) (stp W p * (o - p.2.2.1 + 1)) + hiS W r os
  | _, _ => 0
def loS (W : Int) : List Q4 → List Int → Int
  | p :: r, o :: os => min (stp W p * o) (stp W p * (o - p.2.2.1 + 1)) + loS W r os
  | _, _ => 0
def spS (W : Int) : List Q4 → Int
  | [] => 0
  | p :: r => ((stp W p).natAbs : Int) * (p.2.2.1 - 1) + spS W r
theorem max_min {s o n : Int} (hn : 1 ≤ n) : max (s * o) (s * (o - n + 1)) = min (s * o) (s * (o - n + 1)) + (s.natAbs : Int) * (n - 1) := by
  have e : s * (o - n + 1) = s * o - s * (n - 1) := by grind
  rw [e]
  rcases Int.lt_or_le s 0 with h | h
  · have h1 : s * (n - 1) ≤ 0 := Int.mul_nonpos_of_nonpos_of_nonneg (by omega) (by omega)
    have h2 : (s.natAbs : Int) * (n - 1) = -(s * (n - 1)) := by rw [show (s.natAbs : Int) = -s by omega]; grind
    omega
  · have h1 : 0 ≤ s * (n - 1) := Int.mul_nonneg h (by omega)
    have h2 : (s.natAbs : Int) * (n - 1) = s * (n - 1) := by rw [show (s.natAbs : Int) = s by omega]
    omega
theorem hi_lo (W : Int) : ∀ (l : List Q4) (os : List Int), (∀ p ∈ l, 1 ≤ p.2.2.1) → os.length = l.length → hiS W l os = loS W l os + spS W l
  | [], [], _, _ => by simp [hiS, loS, spS]
  | p :: r, o :: os, h, hl => by
    simp only [hiS, loS, spS]
    rw [max_min (h p (List.mem_cons_self ..)), hi_lo W r os (fun q hq => h q (List.mem_cons_of_mem _ hq)) (by simpa using hl)]
    omega
  | [], _ :: _, _, h => by simp at h
  | _ :: _, [], _, h => by simp at h
theorem emod_split {k n N : Int} (hn : 1 ≤ n) (hN : 0 < N) : k % (n * N) = k / N % n * N + k % N := by
  have h1 := Int.emod_add_mul_ediv k N
  have h2 := Int.emod_add_mul_ediv (k / N) n
  have a1 := Int.emod_nonneg k (show N ≠ 0 by omega)
  have a2 := Int.emod_lt_of_pos k hN
  have a3 := Int.emod_nonneg (k / N) (show n ≠ 0 by omega)
  have a4 := Int.emod_lt_of_pos (k / N) (show 0 < n by omega)
  generalize k % N = r at *
  generalize k / N % n = d at *
  generalize k / N / n = q at *
  have e : k = (d * N + r) + n * N * q := by
    have : N * (k / N) = N * (d + n * q) := by rw [h2]
    grind
  rw [e, Int.add_mul_emod_self_left]
  refine Int.emod_eq_of_lt ?_ ?_
  · have := Int.mul_nonneg a3 (Int.le_of_lt hN); omega
  · have : d * N ≤ (n - 1) * N := Int.mul_le_mul_of_nonneg_right (by omega) (by omega)
    have e2 : (n - 1) * N = n * N - N := by grind
    omega
theorem stp_mul {W : Int} {p : Q4} (ok : Ok4 W p) : stp W p * (p.2.1 * p.2.2.1) = p.1 * W := by
  obtain ⟨j, hj⟩ := ok.dv
  have hb := ok.b0
  have hn := ok.n1
  have h0 : 0 < p.2.1 * p.2.2.1 := Int.mul_pos hb (by omega)
  unfold stp
  rw [hj, Int.mul_ediv_cancel_left _ (by omega)]
  grind
/-- the digits' greatest error -/
theorem hi_digs {W : Int} (hW : 0 < W) : ∀ (l : List Q4) (P k : Int), 0 < P → (∀ p ∈ l, Ok4 W p) → UR P l → 0 ≤ k → hiS W l (digs l k) * (P * dvP l) = k % dvP l * W
  | [], P, k, _, _, _, _ => by simp [hiS, digs, dvP]
  | p :: r, P, k, hP, hok, hu, hk => by
    obtain ⟨a, b, n, c⟩ := p
    simp only [UR] at hu
    have ok := hok _ (List.mem_cons_self ..)
    have n1 : 1 ≤ n := ok.n1
    have b0 : 0 < b := ok.b0
    have hN := dvP_pos (l := r) fun q hq => (hok q (List.mem_cons_of_mem _ hq)).n1
    have ih := hi_digs hW r (P * n) k (Int.mul_pos hP (by omega)) (fun q hq => hok q (List.mem_cons_of_mem _ hq)) hu.2 hk
    have sm : stp W (a, b, n, c) * (b * n) = a * W := stp_mul ok
    have w0 : 0 ≤ W / (b * n) := Int.ediv_nonneg (by omega) (Int.le_of_lt (Int.mul_pos b0 (by omega)))
    simp only [digs, hiS, dvP]
    have d0 := Int.emod_nonneg (k / dvP r) (show n ≠ 0 by omega)
    have d1 := Int.emod_lt_of_pos (k / dvP r) (show 0 < n by omega)
    have es : k % (n * dvP r) = k / dvP r % n * dvP r + k % dvP r := emod_split (k := k) n1 hN
    generalize dvP r = N at *
    generalize k / N % n = d at *
    have term : max (stp W (a, b, n, c) * fig1 (a, b, n, c) d) (stp W (a, b, n, c) * (fig1 (a, b, n, c) d - n + 1)) = ((stp W (a, b, n, c)).natAbs : Int) * d := by
      unfold fig1
      have hs : stp W (a, b, n, c) = a * (W / (b * n)) := rfl
      by_cases ha : a > 0
      · rw [if_pos ha]
        have h1 : 0 ≤ stp W (a, b, n, c) := by rw [hs]; exact Int.mul_nonneg (by omega) w0
        generalize stp W (a, b, n, c) = s at *
        rw [show (s.natAbs : Int) = s by omega]
        have := Int.mul_le_mul_of_nonneg_left (show d - n + 1 ≤ d by omega) h1
        omega
      · rw [if_neg ha]
        show max (stp W (a, b, n, c) * (n - 1 - d)) (stp W (a, b, n, c) * (n - 1 - d - n + 1)) = _
        have h1 : stp W (a, b, n, c) ≤ 0 := by rw [hs]; exact Int.mul_nonpos_of_nonpos_of_nonneg (by omega) w0
        generalize stp W (a, b, n, c) = s at *
        rw [show (s.natAbs : Int) = -s by omega]
        have e1 : s * (n - 1 - d - n + 1) = -s * d := by grind
        rw [e1]
        have e2 : s * (n - 1 - d) ≤ -s * d := by
          have := Int.mul_nonpos_of_nonpos_of_nonneg h1 (show 0 ≤ n - 1 by omega)
          have e3 : s * (n - 1 - d) = s * (n - 1) + -s * d := by grind
          omega
        omega
    have sa : ((stp W (a, b, n, c)).natAbs : Int) * (b * n) = (a.natAbs : Int) * W := by
      have := congrArg Int.natAbs sm
      rw [Int.natAbs_mul (stp W (a, b, n, c)), Int.natAbs_mul a] at this
      have h1 : ((b * n).natAbs : Int) = b * n := by have := Int.mul_pos b0 (show 0 < n by omega); omega
      have h2 : (W.natAbs : Int) = W := by omega
      have h3 := congrArg (fun x : Nat => (x : Int)) this
      simp only [Int.natCast_mul] at h3
      rwa [h1, h2] at h3
    rw [term, es]
    generalize ((stp W (a, b, n, c)).natAbs : Int) = S at *
    have e4 : (S * d + hiS W r (digs r k)) * (P * (n * N)) = S * d * (P * (n * N)) + hiS W r (digs r k) * (P * n * N) := by grind
    rw [e4, ih]
    have e5 : S * d * (P * (n * N)) = d * N * W := by
      by_cases hn : 1 < n
      · have hb : (a.natAbs : Int) * P = b := hu.1 hn
        have h0 : 0 < b := b0
        refine Int.eq_of_mul_eq_mul_right (show b ≠ 0 by omega) ?_
        calc S * d * (P * (n * N)) * b = S * (b * n) * (d * P * N) := by grind
          _ = (a.natAbs : Int) * W * (d * P * N) := by rw [sa]
          _ = (a.natAbs : Int) * P * (W * d * N) := by grind
          _ = d * N * W * b := by rw [hb]; grind
      · have : d = 0 := by omega
        subst this
        grind
    rw [e5]
    grind
theorem sp_digs {W : Int} (hW : 0 < W) : ∀ (l : List Q4) (P : Int), 0 < P → (∀ p ∈ l, Ok4 W p) → UR P l → spS W l * (P * dvP l) = (dvP l - 1) * W
  | [], P, _, _, _ => by simp [spS, dvP]
  | p :: r, P, hP, hok, hu => by
    obtain ⟨a, b, n, c⟩ := p
    simp only [UR] at hu
    have ok := hok _ (List.mem_cons_self ..)
    have n1 : 1 ≤ n := ok.n1
    have b0 : 0 < b := ok.b0
    have ih := sp_digs hW r (P * n) (Int.mul_pos hP (by omega)) (fun q hq => hok q (List.mem_cons_of_mem _ hq)) hu.2
    have sm : stp W (a, b, n, c) * (b * n) = a * W := stp_mul ok
    simp only [spS, dvP]
    generalize dvP r = N at *
    have sa : ((stp W (a, b, n, c)).natAbs : Int) * (b * n) = (a.natAbs : Int) * W := by
      have := congrArg Int.natAbs sm
      rw [Int.natAbs_mul (stp W (a, b, n, c)), Int.natAbs_mul a] at this
      have h1 : ((b * n).natAbs : Int) = b * n := by have := Int.mul_pos b0 (show 0 < n by omega); omega
      have h2 : (W.natAbs : Int) = W := by omega
      have h3 := congrArg (fun x : Nat => (x : Int)) this
      simp only [Int.natCast_mul] at h3
      rwa [h1, h2] at h3
    generalize ((stp W (a, b, n, c)).natAbs : Int) = S at *
    have e4 : (S * (n - 1) + spS W r) * (P * (n * N)) = S * (n - 1) * (P * (n * N)) + spS W r * (P * n * N) := by grind
    rw [e4, ih]
    have e5 : S * (n - 1) * (P * (n * N)) = (n - 1) * N * W := by
      by_cases hn : 1 < n
      · have hb : (a.natAbs : Int) * P = b := hu.1 hn
        refine Int.eq_of_mul_eq_mul_right (show b ≠ 0 by omega) ?_
        calc S * (n - 1) * (P * (n * N)) * b = S * (b * n) * ((n - 1) * P * N) := by grind
          _ = (a.natAbs : Int) * W * ((n - 1) * P * N) := by rw [sa]
          _ = (a.natAbs : Int) * P * (W * (n - 1) * N) := by grind
          _ = (n - 1) * N * W * b := by rw [hb]; grind
      · have : n = 1 := by omega
        subst this
        grind
    rw [e5]
    grind
/-- the digits tell the number -/
theorem digs_inj : ∀ (l : List Q4), (∀ p ∈ l, 1 ≤ p.2.2.1) → ∀ k k' : Int, digs l k = digs l k' → k % dvP l = k' % dvP l
  | [], _, k, k', _ => by simp [dvP, Int.emod_one]
  | p :: r, h, k, k', e => by
    obtain ⟨a, b, n, c⟩ := p
    have n1 : 1 ≤ n := h _ (List.mem_cons_self ..)
    have hN := dvP_pos (l := r) fun q hq => h q (List.mem_cons_of_mem _ hq)
    simp only [digs] at e
    injection e with e1 e2
    have ih := digs_inj r (fun q hq => h q (List.mem_cons_of_mem _ hq)) k k' e2
    simp only [dvP]
    rw [emod_split n1 hN, emod_split n1 hN, ih]
    have e3 : k / dvP r % n = k' / dvP r % n := by
      unfold fig1 at e1
      simp only at e1
      by_cases ha : a > 0
      · rw [if_pos ha, if_pos ha] at e1; exact e1
      · rw [if_neg ha, if_neg ha] at e1; omega
    rw [e3]
theorem digs_ok (k : Int) : ∀ (l : List Q4), (∀ p ∈ l, 1 ≤ p.2.2.1) → ∀ (j : Nat) (o : Int) (p : Q4), (digs l k)[j]? = some o → l[j]? = some p → 0 ≤ o ∧ o < p.2.2.1
  | [], _, j, o, p, _, h => by simp at h
  | q :: r, h, 0, o, p, h1, h2 => by
    simp only [digs, List.getElem?_cons_zero] at h1 h2
    obtain rfl := Option.some.inj h2
    obtain rfl := Option.some.inj h1
    have n1 := h q (List.mem_cons_self ..)
    have d0 := Int.emod_nonneg (k / dvP r) (show q.2.2.1 ≠ 0 by omega)
    have d1 := Int.emod_lt_of_pos (k / dvP r) (show 0 < q.2.2.1 by omega)
    unfold fig1
    split <;> omega
  | q :: r, h, j + 1, o, p, h1, h2 => by
    simp only [digs, List.getElem?_cons_succ] at h1 h2
    exact digs_ok k r (fun x hx => h x (List.mem_cons_of_mem _ hx)) j o p h1 h2
/-- in least terms -/
def red (p : Q4) : Q4 := ((lst p.1 p.2.1).1, (lst p.1 p.2.1).2, p.2.2.1, p.2.2.2)
theorem dvP_red : ∀ l : List Q4, dvP (l.map red) = dvP l
  | [] => rfl
  | p :: r => by simp only [List.map_cons, dvP, dvP_red r]; rfl
theorem UR_red : ∀ (l : List Q4) (P : Int), 0 < P → (∀ p ∈ l, 1 ≤ p.2.2.1 ∧ 0 < p.2.1) → UR P l → UR P (l.map red)
  | [], _, _, _, _ => by simp only [List.map_nil, UR]
  | p :: r, P, hP, h, hu => by
    simp only [UR, List.map_cons] at hu ⊢
    obtain ⟨n1, b0⟩ := h p (List.mem_cons_self ..)
    refine ⟨fun hn => ?_, UR_red r (P * p.2.2.1) (Int.mul_pos hP (by omega)) (fun q hq => h q (List.mem_cons_of_mem _ hq)) hu.2⟩
    have hb := hu.1 hn
    have h1 := lst_1 p.1 p.2.1
    have h2 := lst_2 p.1 p.2.1
    have h3 : (0 : Int) < (gcdN p.1 p.2.1 : Int) := by have := gcdN_pos (a := p.1) b0; omega
    show (((lst p.1 p.2.1).1.natAbs : Nat) : Int) * P = (lst p.1 p.2.1).2
    generalize (lst p.1 p.2.1).1 = x at *
    generalize (lst p.1 p.2.1).2 = y at *
    generalize (gcdN p.1 p.2.1 : Int) = g at *
    have h4 : (p.1.natAbs : Int) = (x.natAbs : Int) * g := by
      rw [← h1, Int.natAbs_mul, Int.natCast_mul]
      rw [show (g.natAbs : Int) = g by omega]
    rw [h4, ← h2] at hb
    refine Int.eq_of_mul_eq_mul_right (show g ≠ 0 by omega) ?_
    rw [← hb]
    grind
theorem lst_pos1 {a b : Int} (hb : 0 < b) : (lst a b).1 > 0 ↔ a > 0 := by
  have h1 := lst_1 a b
  have h3 : (0 : Int) < (gcdN a b : Int) := by have := gcdN_pos (a := a) hb; omega
  generalize (lst a b).1 = x at *
  generalize (gcdN a b : Int) = g at *
  constructor
  · intro h; rw [← h1]; exact Int.mul_pos h h3
  · intro h
    rcases Int.lt_or_le 0 x with z | z
    · exact z
    · have := Int.mul_nonpos_of_nonpos_of_nonneg z (Int.le_of_lt h3)
      rw [h1] at this; omega
theorem digs_red (k : Int) : ∀ (l : List Q4), (∀ p ∈ l, 0 < p.2.1) → digs (l.map red) k = digs l k
  | [], _ => rfl
  | p :: r, h => by
    simp only [List.map_cons, digs, dvP_red, digs_red k r fun q hq => h q (List.mem_cons_of_mem _ hq)]
    congr 1
    unfold fig1
    have := lst_pos1 (a := p.1) (h p (List.mem_cons_self ..))
    show (if (lst p.1 p.2.1).1 > 0 then _ else _) = _
    by_cases z : p.1 > 0
    · rw [if_pos z, if_pos (this.mpr z)]; rfl
    · rw [if_neg z, if_neg fun y => z (this.mp y)]; rfl
theorem UR_app : ∀ (l m : List Q4) (P : Int), UR P l → UR (P * dvP l) m → UR P (l ++ m)
  | [], m, P, _, h => by simpa [dvP] using h
  | p :: r, m, P, h1, h2 => by
    simp only [UR, List.cons_append] at h1 ⊢
    refine ⟨h1.1, UR_app r m _ h1.2 ?_⟩
    simp only [dvP] at h2
    rwa [Int.mul_assoc]
theorem UR_one : ∀ (m : List Q4) (P : Int), (∀ p ∈ m, p.2.2.1 = 1) → UR P m
  | [], _, _ => by simp only [UR]
  | p :: r, P, h => by
    simp only [UR]
    have := h p (List.mem_cons_self ..)
    exact ⟨fun z => by omega, UR_one r _ fun q hq => h q (List.mem_cons_of_mem _ hq)⟩
/-- a row's shares -/
theorem UR_row : ∀ (t : Th), t.each RowS → ∀ (a b P : Int), (a.natAbs : Int) * P = b → UR P (t.sq a b) := by
  refine Th.ind (fun i _ a b P _ => by simp only [Th.sq, UR]) fun n c ps ih g a b P h => ?_
  simp only [Th.each] at g
  simp only [Th.sq, UR]
  refine ⟨fun _ => h, ?_⟩
  have g1 := g.1
  have g2 := g.2
  have key : ∀ (qs : List (Int × Th)), (∀ p ∈ qs, (∀ (a b P : Int), (a.natAbs : Int) * P = b → UR P (p.2.sq a b)) ∧ (isSt p.2 = true → p.1 = 1 ∨ p.1 = -1)) → (qs.map (·.2)).countP isSt ≤ 1 → UR (P * n) (sqL a (b * n) qs) := fun qs => by
    induction qs with
    | nil => intro _ _; simp only [sqL, UR]
    | cons p r ih2 =>
      obtain ⟨x, t⟩ := p
      intro hq hc
      simp only [sqL]
      rw [List.map_cons, List.countP_cons] at hc
      cases t with
      | inp i =>
        simp only [Th.sq, List.nil_append]
        exact ih2 (fun p hp => hq p (List.mem_cons_of_mem _ hp)) (by omega)
      | st m d us =>
        rw [if_pos (show isSt (Th.st m d us) = true from rfl)] at hc
        have hz : sqL a (b * n) r = [] := by
          have : ∀ l : List (Int × Th), (l.map (·.2)).countP isSt = 0 → sqL a (b * n) l = [] := fun l => by
            induction l with
            | nil => intro _; simp only [sqL]
            | cons y s ih3 =>
              obtain ⟨z, u⟩ := y
              intro h0
              rw [List.map_cons, List.countP_cons] at h0
              cases u with
              | inp j => simp only [sqL, Th.sq, List.nil_append]; exact ih3 (by omega)
              | st m' d' us' => rw [if_pos (show isSt (Th.st m' d' us') = true from rfl)] at h0; omega
          exact this r (by omega)
        rw [hz, List.append_nil]
        obtain ⟨k1, k2⟩ := hq (x, .st m d us) (List.mem_cons_self ..)
        have hx := k2 rfl
        simp only at hx
        refine k1 (a * x) (b * n) (P * n) ?_
        rw [Int.natAbs_mul, show x.natAbs = 1 by omega, Nat.mul_one, ← h]
        grind
  exact key ps (fun p hp => ⟨fun a b P h => ih p hp (eachL_iff.mp g2 p hp) a b P h, g1.pw p hp⟩) g1.one
end SC
namespace SC
open PySem PySem.Spec PyProof.Rows L2 StrLaws RT
theorem g_din {ta tb : TE} {σ : L2.St} {H : Hp} {Q : VK} (q : tb σ H fun y H1 => ta σ H1 fun x H2 => ∃ a o, x = .ref a ∧ DGet H2 a y o ∧ Q (.bl o.isSome) H2) : tDIn tb ta σ H Q := q
theorem g_dnotin {ta tb : TE} {σ : L2.St} {H : Hp} {Q : VK} (q : tb σ H fun y H1 => ta σ H1 fun x H2 => ∃ a o, x = .ref a ∧ DGet H2 a y o ∧ Q (.bl (!o.isSome)) H2) : tDNotIn tb ta σ H Q := q
theorem lst_nn {a b : Int} (hb : 0 < b) (h : 0 ≤ a) : 0 ≤ (lst a b).1 := by
  have h1 := lst_1 a b
  have h3 : (0 : Int) < (gcdN a b : Int) := by have := gcdN_pos (a := a) hb; omega
  generalize (lst a b).1 = x at *
  generalize (gcdN a b : Int) = g at *
  rcases Int.lt_or_le x 0 with z | z
  · have := Int.mul_neg_of_neg_of_pos z h3
    omega
  · exact z
theorem lst_ediv {a b N : Int} (hb : 0 < b) : N * (lst a b).1 / (lst a b).2 = N * a / b := by
  have h1 := lst_1 a b
  have h2 := lst_2 a b
  have h3 : (0 : Int) < (gcdN a b : Int) := by have := gcdN_pos (a := a) hb; omega
  generalize (lst a b).1 = x at *
  generalize (lst a b).2 = y at *
  generalize (gcdN a b : Int) = g at *
  rw [← h1, ← h2, show N * (x * g) = g * (N * x) by grind, show y * g = g * y by grind, Int.mul_ediv_mul_of_pos _ _ h3]
/-! ## inputs called otherwise -/
mutual
def Th.mv (k : Int) : Th → Th
  | .inp i => .inp (i + k)
  | .st n c ps => .st n c (mvL k ps)
def mvL (k : Int) : List (Int × Th) → List (Int × Th)
  | [] => []
  | (w, t) :: r => (w, t.mv k) :: mvL k r
end
theorem mvL_app (k : Int) : ∀ a b : List (Int × Th), mvL k (a ++ b) = mvL k a ++ mvL k b
  | [], _ => by simp only [mvL, List.nil_append]
  | (w, t) :: a, b => by simp only [List.cons_append, mvL, mvL_app k a b]
theorem mvL_len (k : Int) : ∀ a : List (Int × Th), (mvL k a).length = a.length
  | [] => by simp only [mvL]
  | (w, t) :: a => by simp only [mvL, List.length_cons, mvL_len k a]
mutual
theorem mv_nSt (k : Int) : ∀ t : Th, (t.mv k).nSt = t.nSt
  | .inp _ => by simp only [Th.mv, Th.nSt]
  | .st n c ps => by simp only [Th.mv, Th.nSt, mvL_nSt k ps]
theorem mvL_nSt (k : Int) : ∀ ps : List (Int × Th), nStL (mvL k ps) = nStL ps
  | [] => by simp only [mvL]
  | (w, t) :: r => by simp only [mvL, nStL, mv_nSt k t, mvL_nSt k r]
end
mutual
theorem mv_nIn (k : Int) : ∀ t : Th, (t.mv k).nIn = t.nIn
  | .inp _ => by simp only [Th.mv, Th.nIn]
  | .st n c ps => by simp only [Th.mv, Th.nIn, mvL_nIn k ps]
theorem mvL_nIn (k : Int) : ∀ ps : List (Int × Th), nInL (mvL k ps) = nInL ps
  | [] => by simp only [mvL]
  | (w, t) :: r => by simp only [mvL, nInL, mv_nIn k t, mvL_nIn k r]
end
mutual
theorem mv_dep (k : Int) : ∀ t : Th, (t.mv k).dep = t.dep
  | .inp _ => by simp only [Th.mv, Th.dep]
  | .st n c ps => by simp only [Th.mv, Th.dep, mvL_dep k ps]
theorem mvL_dep (k : Int) : ∀ ps : List (Int × Th), depL (mvL k ps) = depL ps
  | [] => by simp only [mvL]
  | (w, t) :: r => by simp only [mvL, depL, mv_dep k t, mvL_dep k r]
end
mutual
theorem mv_sq (k : Int) : ∀ (t : Th) (a b : Int), (t.mv k).sq a b = t.sq a b
  | .inp _, a, b => by simp only [Th.mv, Th.sq]
  | .st n c ps, a, b => by simp only [Th.mv, Th.sq, mvL_sq k ps]
theorem mvL_sq (k : Int) : ∀ (ps : List (Int × Th)) (a b : Int), sqL a b (mvL k ps) = sqL a b ps
  | [], a, b => by simp only [mvL]
  | (w, t) :: r, a, b => by simp only [mvL, sqL, mv_sq k t, mvL_sq k r]
end
mutual
theorem mv_pr (k : Int) : ∀ t : Th, (t.mv k).pr = t.pr
  | .inp _ => by simp only [Th.mv, Th.pr]
  | .st n c ps => by simp only [Th.mv, Th.pr, mvL_pr k ps]
theorem mvL_pr (k : Int) : ∀ ps : List (Int × Th), prL (mvL k ps) = prL ps
  | [] => by simp only [mvL]
  | (w, t) :: r => by simp only [mvL, prL, mv_pr k t, mvL_pr k r]
end
mutual
theorem mv_fit (k : Int) : ∀ t : Th, t.fit → (t.mv k).fit
  | .inp _, _ => by simp only [Th.mv, Th.fit]
  | .st n c ps, h => by
    simp only [Th.mv, Th.fit] at h ⊢
    exact ⟨h.1, h.2.1, h.2.2.1, h.2.2.2.1, mvL_fit k ps h.2.2.2.2⟩
theorem mvL_fit (k : Int) : ∀ ps : List (Int × Th), fitL ps → fitL (mvL k ps)
  | [], _ => by simp only [mvL, fitL]
  | (w, t) :: r, h => by
    simp only [mvL, fitL] at h ⊢
    exact ⟨h.1, mv_fit k t h.2.1, mvL_fit k r h.2.2⟩
end
mutual
theorem mv_full (k : Int) : ∀ t : Th, (t.mv k).full = t.full
  | .inp _ => by simp only [Th.mv, Th.full]
  | .st n c ps => by
    simp only [Th.mv, Th.full, mvL_full k ps]
    cases ps with
    | nil => simp only [mvL]
    | cons p r => obtain ⟨w, t⟩ := p; simp only [mvL, List.isEmpty_cons]
theorem mvL_full (k : Int) : ∀ ps : List (Int × Th), fullL (mvL k ps) = fullL ps
  | [] => by simp only [mvL]
  | (w, t) :: r => by simp only [mvL, fullL, mv_full k t, mvL_full k r]
end
theorem sq_each {Q : Q4 → Prop} : ∀ (t : Th) (a b : Int), (t.each fun n c _ => ∀ a b, Q (a, b, n, c)) → ∀ p ∈ t.sq a b, Q p := by
  refine Th.ind (fun i a b _ p hp => by simp only [Th.sq] at hp; cases hp) fun n c ps ih a b h p hp => ?_
  simp only [Th.each] at h
  simp only [Th.sq] at hp
  rcases List.mem_cons.mp hp with z | z
  · rw [z]; exact h.1 a b
  · have : ∀ qs : List (Int × Th), (∀ q ∈ qs, q ∈ ps) → p ∈ sqL a (b * n) qs → Q p := fun qs => by
      induction qs with
      | nil => intro _ h; simp only [sqL] at h; cases h
      | cons q r ih2 =>
        obtain ⟨w, t⟩ := q
        intro hq h'
        simp only [sqL] at h'
        rcases List.mem_append.mp h' with y | y
        · exact ih (w, t) (hq _ (List.mem_cons_self ..)) _ _ (eachL_iff.mp h.2 _ (hq _ (List.mem_cons_self ..))) p y
        · exact ih2 (fun q hq' => hq q (List.mem_cons_of_mem _ hq')) y
    exact this ps (fun q hq => hq) z
theorem nStL_cat : ∀ a b : List (Int × Th), nStL (a ++ b) = nStL a + nStL b
  | [], b => by simp [nStL]
  | (w, t) :: a, b => by simp only [List.cons_append, nStL, nStL_cat a b]; omega
theorem nInL_cat : ∀ a b : List (Int × Th), nInL (a ++ b) = nInL a + nInL b
  | [], b => by simp [nInL]
  | (w, t) :: a, b => by simp only [List.cons_append, nInL, nInL_cat a b]; omega
theorem sqL_cat (x y : Int) : ∀ a b : List (Int × Th), sqL x y (a ++ b) = sqL x y a ++ sqL x y b
  | [], b => by simp [sqL]
  | (w, t) :: a, b => by simp only [List.cons_append, sqL, sqL_cat x y a b, List.append_assoc]
theorem nSt_leL {p : Int × Th} : ∀ {ps : List (Int × Th)}, p ∈ ps → p.2.nSt ≤ nStL ps
  | (w, t) :: r, h => by
    simp only [nStL]
    rcases List.mem_cons.mp h with z | z
    · rw [z]; exact Nat.le_add_right _ _
    · have := nSt_leL z; omega
theorem dep_le_nSt : ∀ t : Th, t.dep ≤ t.nSt := Th.ind (fun i => by simp only [Th.dep]; omega) fun n c ps ih => by
  simp only [Th.dep, Th.nSt]
  have : depL ps ≤ nStL ps := depL_le.mpr fun p hp => Nat.le_trans (ih p hp) (nSt_leL hp)
  omega
/-! ## the least whole number for all steps -/
def lcW (W b : Int) : Int := W / ((gcdN W b : Nat) : Int) * b
theorem lcW_spec {W b : Int} (hW : 0 < W) (hb : 0 < b) : 0 < lcW W b ∧ W ∣ lcW W b ∧ b ∣ lcW W b ∧ (lcW W b).natAbs ≤ W.natAbs * b.natAbs := by
  have hg : (0 : Int) < ((gcdN W b : Nat) : Int) := by have := gcdN_pos (a := W) hb; omega
  obtain ⟨x, hx⟩ := gcdN_d1 W b
  obtain ⟨y, hy⟩ := gcdN_d2 W b
  have e : W / ((gcdN W b : Nat) : Int) = x := by
    conv => lhs; lhs; rw [hx]
    exact Int.mul_ediv_cancel_left _ (by omega)
  unfold lcW
  rw [e]
  have x0 : 0 < x := by
    rcases Int.lt_or_le 0 x with z | z
    · exact z
    · have := Int.mul_nonpos_of_nonneg_of_nonpos (Int.le_of_lt hg) z
      omega
  refine ⟨Int.mul_pos x0 hb, ⟨y, ?_⟩, ⟨x, Int.mul_comm _ _⟩, ?_⟩
  · generalize ((gcdN W b : Nat) : Int) = g at *
    conv => lhs; rw [hy]
    conv => rhs; lhs; rw [hx]
    grind
  · rw [Int.natAbs_mul]
    refine Nat.mul_le_mul_right _ ?_
    have : x.natAbs ≤ W.natAbs := by
      have h1 : 1 * x ≤ ((gcdN W b : Nat) : Int) * x := Int.mul_le_mul_of_nonneg_right (by omega) (by omega)
      rw [← hx] at h1
      omega
    exact this
def bel (p : Q4) : Int := (lst p.1 p.2.1).2 * p.2.2.1
def lcA (W : Int) (l : List Q4) : Int := l.foldl (fun W p => lcW W (bel p)) W
theorem lcA_snoc (W : Int) (l : List Q4) (p : Q4) : lcA W (l ++ [p]) = lcW (lcA W l) (bel p) := by
  unfold lcA
  rw [List.foldl_append]; rfl
theorem lcA_spec {B : Nat} : ∀ (l : List Q4) {W : Int}, 0 < W → (∀ p ∈ l, 0 < bel p ∧ (bel p).natAbs ≤ B) → 0 < lcA W l ∧ W ∣ lcA W l ∧ (∀ p ∈ l, bel p ∣ lcA W l) ∧ (lcA W l).natAbs ≤ W.natAbs * B ^ l.length
  | [], W, hW, _ => ⟨hW, Int.dvd_refl _, fun p hp => (by cases hp), by rw [List.length_nil, Nat.pow_zero, Nat.mul_one]; exact Nat.le_refl _⟩
  | p :: l, W, hW, h => by
    obtain ⟨b0, b1⟩ := h p (List.mem_cons_self ..)
    obtain ⟨k1, k2, k3, k4⟩ := lcW_spec hW b0
    obtain ⟨m1, m2, m3, m4⟩ := lcA_spec l k1 fun q hq => h q (List.mem_cons_of_mem _ hq)
    have e : lcA W (p :: l) = lcA (lcW W (bel p)) l := rfl
    rw [e]
    refine ⟨m1, Int.dvd_trans k2 m2, fun q hq => ?_, ?_⟩
    · rcases List.mem_cons.mp hq with z | z
      · rw [z]; exact Int.dvd_trans k3 m2
      · exact m3 q z
    · refine Nat.le_trans m4 ?_
      rw [List.length_cons, Nat.pow_succ]
      have : (lcW W (bel p)).natAbs ≤ W.natAbs * B := Nat.le_trans k4 (Nat.mul_le_mul_left _ b1)
      calc _ ≤ W.natAbs * B * B ^ l.length := Nat.mul_le_mul_right _ this
        _ = _ := by rw [Nat.mul_assoc, Nat.mul_comm B]
def Th.lc (t : Th) : Int := lcA 1 (t.sq 1 1)
/-- a reading's offset k: what the digits tell -/
theorem digs_right {W k N : Int} {l : List Q4} (hW : 0 < W) (hN : dvP l = N) (hok : ∀ p ∈ l, Ok4 W p) (hu : UR 1 l) (h0 : 0 ≤ k) (hk : k < N) : hiS W l (digs l k) * N = k * W ∧ (loS W l (digs l k) + W) * N = (k + 1) * W := by
  have n1 : ∀ p ∈ l, 1 ≤ p.2.2.1 := fun p hp => (hok p hp).n1
  have e1 := hi_digs hW l 1 k (by decide) hok hu h0
  have e2 := sp_digs hW l 1 (by decide) hok hu
  rw [Int.one_mul, hN] at e1 e2
  rw [Int.emod_eq_of_lt h0 hk] at e1
  have e3 := hi_lo W l (digs l k) n1 (digs_len k l)
  refine ⟨e1, ?_⟩
  have e4 : loS W l (digs l k) * N = hiS W l (digs l k) * N - spS W l * N := by rw [e3]; grind
  rw [Int.add_mul, e4, e1, e2]
  grind
theorem right_of {H L W N k x y : Int} (hW : 0 < W) (hN : 0 < N) (hy : 0 < y) (h1 : H * N = k * W) (h2 : (L + W) * N = (k + 1) * W) (h3 : k * y ≤ N * x) (h4 : N * x < (k + 1) * y) : H * y ≤ x * W ∧ x * W < (L + W) * y := by
  constructor
  · refine Int.le_of_mul_le_mul_right ?_ hN
    have e1 : H * y * N = k * y * W := by rw [show H * y * N = H * N * y by grind, h1]; grind
    have e2 : x * W * N = N * x * W := by grind
    rw [e1, e2]
    exact Int.mul_le_mul_of_nonneg_right h3 (Int.le_of_lt hW)
  · refine Int.lt_of_mul_lt_mul_right (a := N) ?_ (Int.le_of_lt hN)
    have e1 : (L + W) * y * N = (k + 1) * y * W := by rw [show (L + W) * y * N = (L + W) * N * y by grind, h2]; grind
    have e2 : x * W * N = N * x * W := by grind
    rw [e1, e2]
    exact Int.mul_lt_mul_of_pos_right h4 hW
theorem ediv_bounds {a b : Int} (hb : 0 < b) : a / b * b ≤ a ∧ a < (a / b + 1) * b := by
  have h1 := Int.emod_add_mul_ediv a b
  have h2 := Int.emod_nonneg a (show b ≠ 0 by omega)
  have h3 := Int.emod_lt_of_pos a hb
  have e1 : a / b * b = b * (a / b) := Int.mul_comm _ _
  have e2 : (a / b + 1) * b = b * (a / b) + b := by grind
  omega
theorem ediv_is {a b k : Int} (hb : 0 < b) (h1 : k * b ≤ a) (h2 : a < (k + 1) * b) : a / b = k := by
  have := Int.le_ediv_iff_mul_le (a := k) (b := a) hb |>.mpr h1
  have := Int.ediv_lt_iff_lt_mul (a := a) (b := k + 1) hb |>.mpr h2
  omega
end SC
namespace SC
open PySem PySem.Spec PyProof.Rows L2 StrLaws
/-! ## {k: v for t0 in i0 for t1 in i1}, keys integers -/
abbrev dcE (kx vx t0 i0 t1 i1 : Expr) (scope : Scope) (pos : Pos) : Expr := .DictComp kx vx [⟨t0, i0, [], 0⟩, ⟨t1, i1, [], 0⟩] scope pos
section
variable {prog : Program} {w : World} {A : Around} {R : Result → Shared → Prop} {env : Env} {s : Shared} {kx vx t0 i0 t1 i1 : Expr} {scope : Scope} {pos : Pos} {it acc : Value} {D : Addr}
theorem dturn_out (it acc : Value) (env : Env) :
    compTurn (dcE kx vx t0 i0 t1 i1 scope pos) 0 it acc env = (do
      standAt i0.pos
      match ← pyNext it with
      | none => pure (.done .next)
      | some v =>
        letOwnedTupleGo t0 it v
        assign t0 env v
        let x ← eval i1 env
        standAt i1.pos
        let x ← foldedSetIterable i1 env x
        let _ ← runOwn (.compStart (dcE kx vx t0 i0 t1 i1 scope pos) 1 (← holding [x] (pyIter x)) acc env) env
        again (.compLoop (dcE kx vx t0 i0 t1 i1 scope pos) 0 it acc env)) := by rfl
theorem dturn_in (it : Value) (D : Addr) (env : Env) :
    compTurn (dcE kx vx t0 i0 t1 i1 scope pos) 1 it (.ref D) env = (do
      standAt i1.pos
      match ← pyNext it with
      | none => pure (.done .next)
      | some v =>
        letOwnedTupleGo t1 it v
        assign t1 env v
        (do
          let kv ← eval kx env
          let vv ← holding [kv] (eval vx env)
          standAt { kx.pos with endLine := vx.pos.endLine, endCol := vx.pos.endCol }
          holding [kv, vv] (dictSet D kv vv))
        again (.compLoop (dcE kx vx t0 i0 t1 i1 scope pos) 1 it (.ref D) env)) := by rfl
/-- the first for's loop -/
theorem dloop_out (hs : ∀ x, foldedSetIterable i1 env x = pure x) (I : Nat → Shared → Prop)
    (turn : ∀ n s, I n s → wpAny (model prog w) A (pyNext it) (fun r s₁ => match r with
      | none => R (.ok .next) s₁
      | some v => wpAny (model prog w) A (letOwnedTupleGo t0 it v) (fun _ s₁' => wpAny (model prog w) A (assign t0 env v) (fun _ s₂ => wpAny (model prog w) A (eval i1 env) (fun x s₄ => wpAny (model prog w) A (pyIter x) (fun it1 s₅ =>
          codeAny (model prog w) A (.compStart (dcE kx vx t0 i0 t1 i1 scope pos) 1 it1 acc env) (fun r s' => match r with
            | .ok _ => ∃ m, m < n ∧ I m s'
            | .error _ => False) s₅) (notedBy (model prog w) A env fun e s' => R (.error e) s') s₄) (notedBy (model prog w) A env fun e s' => R (.error e) s') s₂) (notedBy (model prog w) A env fun e s' => R (.error e) s') s₁') (notedBy (model prog w) A env fun e s' => R (.error e) s') s₁) (notedBy (model prog w) A env fun e s' => R (.error e) s') s)
    (n : Nat) (h : I n s) : codeAny (model prog w) A (.compLoop (dcE kx vx t0 i0 t1 i1 scope pos) 0 it acc env) R s := by
  refine codeAny_loop rfl I (fun n s hI => ?_) n h
  show wpAny _ A ((compTurn (dcE kx vx t0 i0 t1 i1 scope pos) 0 it acc env).onRaise (fun x => do noteFrame x env; theTreesLotGoes x)) _ _ s
  refine wpAny_noted ?_
  rw [dturn_out]
  refine wpAny_bind (wpAny_standAt (wpAny_bind (wpAny_mono (turn n s hI) (fun r s₁ h₁ => ?_) fun _ _ h' => h')))
  cases r with
  | none => exact wpAny_pure h₁
  | some v =>
    refine wpAny_bind (wpAny_mono h₁ (fun _ _ h₂ => ?_) fun _ _ h' => h')
    refine wpAny_bind (wpAny_mono h₂ (fun _ _ h₃ => ?_) fun _ _ h' => h')
    refine wpAny_bind (wpAny_mono h₃ (fun x _ h₄ => ?_) fun _ _ h' => h')
    refine wpAny_bind (wpAny_standAt (wpAny_bind (wpAny_of_eq (hs x) (wpAny_bind (wpAny_holding (wpAny_mono h₄ (fun it1 s₅ h₅ => ?_) fun _ _ h' => h'))))))
    refine wpAny_bind (wpAny_runOwn ?_)
    rw [Around.mark_none]
    refine codeAny_mono h₅ fun r s' hr => ?_
    cases r with
    | ok f =>
      first
        | exact wpAny_pure ⟨rfl, hr⟩
        | exact wpAny_bind (wpAny_pure (wpAny_pure ⟨rfl, hr⟩))
    | error e => exact hr.elim
/-- the second for's loop -/
theorem dloop_in (I : Nat → Shared → Prop)
    (turn : ∀ n s, I n s → wpAny (model prog w) A (pyNext it) (fun r s₁ => match r with
      | none => R (.ok .next) s₁
      | some v => wpAny (model prog w) A (letOwnedTupleGo t1 it v) (fun _ s₁' => wpAny (model prog w) A (assign t1 env v) (fun _ s₂ => wpAny (model prog w) A (eval kx env) (fun kv s₄ => wpAny (model prog w) A (eval vx env) (fun vv s₅ =>
          wpAny (model prog w) A (dictSet D kv vv) (fun _ s₆ => ∃ m, m < n ∧ I m s₆) (notedBy (model prog w) A env fun e s' => R (.error e) s') s₅) (notedBy (model prog w) A env fun e s' => R (.error e) s') s₄) (notedBy (model prog w) A env fun e s' => R (.error e) s') s₂) (notedBy (model prog w) A env fun e s' => R (.error e) s') s₁') (notedBy (model prog w) A env fun e s' => R (.error e) s') s₁) (notedBy (model prog w) A env fun e s' => R (.error e) s') s)
    (n : Nat) (h : I n s) : codeAny (model prog w) A (.compLoop (dcE kx vx t0 i0 t1 i1 scope pos) 1 it (.ref D) env) R s := by
  refine codeAny_loop rfl I (fun n s hI => ?_) n h
  show wpAny _ A ((compTurn (dcE kx vx t0 i0 t1 i1 scope pos) 1 it (.ref D) env).onRaise (fun x => do noteFrame x env; theTreesLotGoes x)) _ _ s
  refine wpAny_noted ?_
  rw [dturn_in]
  refine wpAny_bind (wpAny_standAt (wpAny_bind (wpAny_mono (turn n s hI) (fun r s₁ h₁ => ?_) fun _ _ h' => h')))
  cases r with
  | none => exact wpAny_pure h₁
  | some v =>
    refine wpAny_bind (wpAny_mono h₁ (fun _ _ h₂ => ?_) fun _ _ h' => h')
    refine wpAny_bind (wpAny_mono h₂ (fun _ _ h₃ => ?_) fun _ _ h' => h')
    exact wpAny_bind (wpAny_bind (wpAny_mono h₃ (fun kv s₄ h₄ => wpAny_bind (wpAny_holding (wpAny_mono h₄ (fun vv s₅ h₅ => wpAny_bind (wpAny_standAt (wpAny_holding (wpAny_mono h₅ (fun _ s₆ h₆ => wpAny_pure ⟨rfl, h₆⟩) fun _ _ h' => h')))) fun _ _ h' => h'))) fun _ _ h' => h'))
/-- the second for begins -/
theorem dstart_in (h0 : codeAny (model prog w) A (.compLoop (dcE kx vx t0 i0 t1 i1 scope pos) 1 it acc env) R s)
    (h : wpAny (model prog w) A (pyIter it) (fun it' s' => codeAny (model prog w) A (.compLoop (dcE kx vx t0 i0 t1 i1 scope pos) 1 it' acc env) R s')
      (notedBy (model prog w) A env fun x s' => R (.error x) s') s) :
    codeAny (model prog w) A (.compStart (dcE kx vx t0 i0 t1 i1 scope pos) 1 it acc env) R s := by
  refine codeAny_of_tree ?_
  show wpAny _ _ ((compStart (dcE kx vx t0 i0 t1 i1 scope pos) 1 it acc env).onRaise (fun x => do noteFrame x env; standAt theWindowsPlace)) _ _ s
  refine wpAny_notedAt ?_
  unfold compStart
  show wpAny _ _ (ask >>= _) _ _ s
  refine wpAny_bind (wpAny_askSetting (wpAny_ite ?_))
  split
  · first
      | exact wpAny_bind (wpAny_pure (wpAny_pure (And.intro rfl h0)))
      | exact wpAny_pure (And.intro rfl h0)
  · first
      | exact wpAny_bind (wpAny_rule (wpAny_bind (wpAny_standAt (wpAny_bind (wpAny_mono h (fun it' s' h' => wpAny_pure (And.intro rfl h')) fun _ _ x => x)))))
      | (refine wpAny_bind (wpAny_rule ?_); show wpAny _ _ (standAt i1.pos >>= _) _ _ s; exact wpAny_bind (wpAny_standAt (wpAny_bind (wpAny_mono h (fun it' s' h' => wpAny_pure (And.intro rfl h')) fun _ _ x => x))))
end
section
variable {X : Cx}
/-- D the new dict; vs the block's names, vs1 those of the second target -/
def tDc2 (wi : TI) (g : TG) (wi1 : TI) (g1 : TG) (tk tv : TE) (vs vs1 : List Nat) : TE := fun σ H Q => wi σ H fun J H1 => ∀ D, H1 D = none → ∃ W : Nat → Nat → Hp → Prop, (∃ m, W 0 m (upd H1 D (.dK []))) ∧ ∀ i m H, W i m H →
  (J.stop i H ∧ Q (.ref D) H) ∨ (J.go i H ∧ ∃ Nx : Hp → Prop, (∀ H', Nx H' → ∃ m', m' < m ∧ W (i + 1) m' H') ∧ ∀ x H', J.yld i H x H' → g x (wipe σ vs) H' fun σ2 H2 => wipe σ2 vs = wipe σ vs ∧
    wi1 σ2 H2 fun J1 H4 => ∃ W1 : Nat → Nat → Hp → Prop, (∃ m, W1 0 m H4) ∧ ∀ j k H, W1 j k H →
      (J1.stop j H ∧ Nx H) ∨ (J1.go j H ∧ ∃ Nx1 : Hp → Prop, (∀ H', Nx1 H' → ∃ k', k' < k ∧ W1 (j + 1) k' H') ∧ ∀ x H', J1.yld j H x H' → g1 x (wipe σ2 vs1) H' fun σ3 H5 => wipe σ3 vs1 = wipe σ2 vs1 ∧
        tk σ3 H5 fun y H6 => tv σ3 H6 fun z H7 => ∃ kvs k, y = kV k ∧ H7 D = some (.dK kvs) ∧ kvs.length < sizeLine ∧ Nx1 (upd H7 D (.dK (putK kvs k z)))))
theorem dc2_core {pins : List (Addr × Obj)} {s : Shared} {σ : L2.St} {H : Hp} {Q : VK} {pos' : Pos} {use : Option (Value → Sem Unit)} {Qf : Value → Shared → Prop} {kx vx tg iter tg1 iter1 : Expr} {scope : Scope} {own : List (Str × Nat)} {vs1 : List Nat} {pos : Pos} {wi wi1 : TI} {g g1 : TG} {tk tv : TE}
    (hc : X.calm = true) (hN : X.N.Nodup) (hi : PI X tg iter wi) (ok : BlkOk X.N X.env.scope scope own) (hv : ∀ i ∈ vs1, i ∈ own.map (·.2))
    (hg : ∀ (s : Shared) (H : Hp) (C : Addr) (cl : List (Str × Addr)) (fp : List Addr), PG (X.blk s H scope (compEnvC scope cl C X.env) fp) tg g)
    (hi1 : ∀ (s : Shared) (H : Hp) (C : Addr) (cl : List (Str × Addr)) (fp : List Addr), PI (X.blk s H scope (compEnvC scope cl C X.env) fp) tg1 iter1 wi1)
    (hg1 : ∀ (s : Shared) (H : Hp) (C : Addr) (cl : List (Str × Addr)) (fp : List Addr), PG (X.blk s H scope (compEnvC scope cl C X.env) fp) tg1 g1)
    (hk : ∀ (s : Shared) (H : Hp) (C : Addr) (cl : List (Str × Addr)) (fp : List Addr), PE (X.blk s H scope (compEnvC scope cl C X.env) fp) kx tk)
    (hx : ∀ (s : Shared) (H : Hp) (C : Addr) (cl : List (Str × Addr)) (fp : List Addr), PE (X.blk s H scope (compEnvC scope cl C X.env) fp) vx tv)
    (hs : ∀ x, foldedSetIterable iter X.env x = pure x) (hs1 : ∀ env x, foldedSetIterable iter1 env x = pure x)
    (I : Inv X pins σ H s) (h : tDc2 wi g wi1 g1 tk tv (own.map (·.2)) vs1 σ H Q)
    (back : ∀ D C t m H', Inv X pins σ H' t → Q (.ref D) H' → t.heap.Ns C m → FpOk X pins H' C → compPost (model X.prog X.w) X.A X.xe use Qf (.ref D) C (.ok .next) t) :
    wpAny (model X.prog X.w) X.A (comprehension (dcE kx vx tg iter tg1 iter1 scope pos) scope X.env pos' newDict false (eval iter X.env) use) Qf X.xe s := by
  have hfree : ∀ y ∈ scope.names, y.2 = .free → ∃ c, X.env.cells.lookup y.1 = some c := fun y hy e => (ok.free y hy e).elim (fun k => I.ok.has _ (.inl k)) fun k => I.ok.has _ (.inr k)
  refine wpAny_comprehension_free (use := use) rfl hs (closure_ok hfree) ok.kind (fun y hy e => by rw [ok.uniq y hy, e]) (thn (hi.run pins s σ H _ I h) fun xv s1 hx1 => thn hx1 fun itv s2 h2 => ?_)
  obtain ⟨it, fp, tn, J, H2, rfl, I2, T, st2, f2, q⟩ := h2
  refine wpAny_newObj_type (newEnv_comp ?_)
  obtain ⟨D, eD⟩ : ∃ D, s2.heap.objs.size = D := ⟨_, rfl⟩
  obtain ⟨W, ⟨m0, w0⟩, turn⟩ := q D (I2.hok.fresh (Nat.le_of_eq eD))
  obtain ⟨s3, e3⟩ : ∃ s3 : Shared, { s2 with heap := s2.heap.push { cls := .type "dict", data := .dict #[] } } = s3 := ⟨_, rfl⟩
  have h3 : s3.heap = s2.heap.push { cls := .type "dict", data := .dict #[] } := by rw [← e3]
  have I3 : Inv X pins σ (upd H2 D (.dK [])) s3 := by
    rw [← e3]
    refine I2.laid (t' := s2.toks) (fun b o e => Heap.get?_push_of_some _ e) (Nat.le_of_eq eD) ?_
    rw [← eD]
    exact dk_empty s2.heap I2.big
  have f3 : ∀ b ∈ fp, FpOk X pins (upd H2 D (.dK [])) b ∧ b < s3.heap.objs.size := fun b hb => by
    obtain ⟨o, e, _⟩ := T.obj _ _ st2 b hb
    have lt := Heap.lt_size e
    refine ⟨⟨?_, (f2 b hb).2⟩, by rw [h3, Heap.size_push]; exact Nat.lt_succ_of_lt lt⟩
    rw [upd_ne (eD ▸ Nat.ne_of_lt lt)]
    exact (f2 b hb).1
  have st3 : tn 0 s3.heap := T.keep _ _ _ st2 fun b _ o e => by rw [h3]; exact Heap.get?_push_of_some _ e
  have I4 := block_start I3 ok hN f3
  have pg := hg s3 (upd H2 D (.dK [])) s3.heap.objs.size (cellsFrom (s3.heap.objs.size + 1) scope.names (cloFrom X.env.cells scope.names [])) fp
  have pk := hk s3 (upd H2 D (.dK [])) s3.heap.objs.size (cellsFrom (s3.heap.objs.size + 1) scope.names (cloFrom X.env.cells scope.names [])) fp
  have pv := hx s3 (upd H2 D (.dK [])) s3.heap.objs.size (cellsFrom (s3.heap.objs.size + 1) scope.names (cloFrom X.env.cells scope.names [])) fp
  have pi1 := hi1 s3 (upd H2 D (.dK [])) s3.heap.objs.size (cellsFrom (s3.heap.objs.size + 1) scope.names (cloFrom X.env.cells scope.names [])) fp
  have pg1 := hg1 s3 (upd H2 D (.dK [])) s3.heap.objs.size (cellsFrom (s3.heap.objs.size + 1) scope.names (cloFrom X.env.cells scope.names [])) fp
  show codeAny _ _ (.compStart (dcE kx vx tg iter tg1 iter1 scope pos) 0 (.ref it) (.ref s2.heap.objs.size) (compEnvC scope (cellsFrom ((s2.heap.push { cls := .type "dict", data := .dict #[] }).objs.size + 1) scope.names (cloFrom X.env.cells scope.names [])) (s2.heap.push { cls := .type "dict", data := .dict #[] }).objs.size X.env))
    (compPost (model X.prog X.w) X.A X.xe use Qf (.ref s2.heap.objs.size) (s2.heap.push { cls := .type "dict", data := .dict #[] }).objs.size) { s2 with heap := pushCells ((s2.heap.push { cls := .type "dict", data := .dict #[] }).push { cls := .type "dict", data := .dict #[] }) scope.names }
  rw [eD, ← h3]
  have nfp : ∀ b ∈ fp, (upd H2 D (.dK [])) b = none := fun b hb => (f3 b hb).1.1
  generalize ece : compEnvC scope (cellsFrom (s3.heap.objs.size + 1) scope.names (cloFrom X.env.cells scope.names [])) s3.heap.objs.size X.env = ce at I4 pg pk pv pi1 pg1 ⊢
  have lce : ce.locals = s3.heap.objs.size := by subst ece; rfl
  generalize eH3 : upd H2 D (.dK []) = H3 at I3 I4 pg pk pv pi1 pg1 w0 nfp f3
  generalize es4 : ({ s3 with heap := pushCells (s3.heap.push { cls := .type "dict", data := .dict #[] }) scope.names } : Shared) = s4 at I4
  have es4' : ({ s2 with heap := pushCells (s3.heap.push { cls := .type "dict", data := .dict #[] }) scope.names } : Shared) = s4 := by rw [← es4, ← e3]
  rw [es4']
  have st4 : tn 0 s4.heap := T.keep _ _ _ st3 fun b _ o e => by rw [← es4]; exact pushCells_keeps _ _ _ _ (Heap.get?_push_of_some _ e)
  have stat : ∀ {σ' : L2.St} {H' : Hp} {s' : Shared}, Inv (X.blk s3 H3 scope ce fp) [] σ' H' s' → (∀ b ∈ fp, H' b = none) → ∀ b ∈ fp, FpOk (X.blk s3 H3 scope ce fp) [] H' b := fun {σ' H' s'} J' n b hb =>
    ⟨n b hb, (J'.ok.exf b hb).1, J'.ok.exfs b hb, .inl hb, fun x c e => (J'.ok.exf b hb).2 x c e, fun p hp => nomatch (show p ∈ ([] : List (Addr × Obj)) from by simpa using hp)⟩
  suffices loop : codeAny (model X.prog X.w) X.A (.compLoop (dcE kx vx tg iter tg1 iter1 scope pos) 0 (.ref it) (.ref D) ce) (compPost (model X.prog X.w) X.A X.xe use Qf (.ref D) s3.heap.objs.size) s4 from
    codeAny_compStart_dict loop (T.self X.A 0 _ _ _ st4 loop)
  refine dloop_out (hs1 ce) (fun n s' => ∃ i H', Inv (X.blk s3 H3 scope ce fp) [] (wipe σ (own.map (·.2))) H' s' ∧ tn i s'.heap ∧ (∀ b ∈ fp, H' b = none) ∧ W i n H') ?_ m0 ⟨0, H3, I4, st4, nfp, w0⟩
  rintro n s5 ⟨i, H5, I5, st5, n5, w5⟩
  rcases turn i n H5 w5 with ⟨stop, qq⟩ | ⟨go, Nx, hNx, step⟩
  · refine thnF (T.done (X.blk s3 H3 scope ce fp) rfl rfl rfl hc i [] s5 _ H5 (fun _ _ => False) I5 (stat I5 n5) st5 stop) fun r s6 ⟨hr, I6⟩ => ?_
    subst hr
    have I7 : Inv X pins σ H5 s6 := I3.call' (ch := fp) I6.os I6.base I6.hok I6.bare fun b hb => ⟨(f3 b hb).1.2.2.2.1, (f3 b hb).1.2.1, (f3 b hb).1.2.2.2.2.1, (f3 b hb).1.2.2.2.2.2⟩
    have nC : H5 s3.heap.objs.size = none := lce ▸ I6.free
    obtain ⟨m, hn, _⟩ := I6.loc
    exact back D s3.heap.objs.size s6 m H5 I7 qq (lce ▸ hn) (I3.fpOk (Nat.le_refl _) nC)
  · refine thnF (T.item (X.blk s3 H3 scope ce fp) rfl rfl rfl hc i [] s5 _ H5 (fun _ _ => False) I5 (stat I5 n5) st5 go) fun r s6 ⟨u, hr, h6⟩ => ?_
    subst hr
    refine thnF h6 fun _ s7 ⟨x, H7, I7, r7, y7, st7, n7⟩ => ?_
    have I7' := I7.pinned (stat I7 n7) (T.obj _ _ st7)
    refine thnF (pg.run _ s7 _ H7 x u _ I7' r7 (step x H7 y7)) fun _ s8 ⟨σ8, H8, I8, hw8, q8⟩ => ?_
    have fin : ∀ {σ9 : L2.St} {s' : Shared} {H' : Hp}, Inv (X.blk s3 H3 scope ce fp) ([] ++ pinsAt fp s7.heap) σ9 H' s' → (wipe σ (own.map (·.2))).length = σ9.length → (∀ (j : Nat) v, (wipe σ (own.map (·.2)))[j]? = some (some v) → σ9[j]? = some (some v)) → Nx H' →
        ∃ m, m < n ∧ ∃ i H', Inv (X.blk s3 H3 scope ce fp) [] (wipe σ (own.map (·.2))) H' s' ∧ tn i s'.heap ∧ (∀ b ∈ fp, H' b = none) ∧ W i m H' := fun {σ9 s' H'} I' hl hk nx => by
      obtain ⟨m', hm, w'⟩ := hNx H' nx
      have pin' : ∀ b ∈ fp, ∀ o, s7.heap.get? b = some o → s'.heap.get? b = some o ∧ H' b = none := fun b hb o e =>
        let z := I'.pin (b, o) (List.mem_append_right _ (List.mem_append_right _ (mem_pinsAt hb e)))
        ⟨z.1, z.2.1⟩
      refine ⟨m', hm, i + 1, H', (I'.unpinned (pins := [])).weak hl hk, T.keep _ _ _ st7 fun b hb o e => (pin' b hb o e).1, fun b hb => ?_, w'⟩
      obtain ⟨o, e, _⟩ := T.obj _ _ st7 b hb
      exact (pin' b hb o e).2
    have hl8 : (wipe σ (own.map (·.2))).length = σ8.length := by rw [← hw8, wipe_length]
    have hk9 : ∀ (j : Nat) v, (wipe σ (own.map (·.2)))[j]? = some (some v) → (wipe σ8 vs1)[j]? = some (some v) := fun j v e => by
      rw [← hw8] at e
      obtain ⟨e1, e2⟩ := wipe_some e
      rw [wipe_out fun z => e2 (hv j z)]
      exact e1
    refine thnF (pi1.run _ s8 σ8 H8 _ I8 q8) fun xv s10 hx10 => thnF hx10 fun itv s11 h11 => ?_
    obtain ⟨it1, fp1, tn1, J1, H11, rfl, I11, T1, st11, f11, W1, ⟨m1, w1⟩, turn1⟩ := h11
    have stat1 : ∀ {H' : Hp}, (∀ b ∈ fp1, H' b = none) → ∀ b ∈ fp1, FpOk (X.blk s3 H3 scope ce fp) ([] ++ pinsAt fp s7.heap) H' b := fun hn b hb => ⟨hn b hb, (f11 b hb).2⟩
    suffices loop1 : codeAny (model X.prog X.w) X.A (.compLoop (dcE kx vx tg iter tg1 iter1 scope pos) 1 (.ref it1) (.ref D) ce)
        (fun r s' => match r with
          | .ok _ => ∃ m, m < n ∧ ∃ i H', Inv (X.blk s3 H3 scope ce fp) [] (wipe σ (own.map (·.2))) H' s' ∧ tn i s'.heap ∧ (∀ b ∈ fp, H' b = none) ∧ W i m H'
          | .error _ => False) s11 from dstart_in loop1 (T1.self X.A 0 _ _ _ st11 loop1)
    refine dloop_in (fun k s' => ∃ j H', Inv (X.blk s3 H3 scope ce fp) ([] ++ pinsAt fp s7.heap) (wipe σ8 vs1) H' s' ∧ tn1 j s'.heap ∧ (∀ b ∈ fp1, H' b = none) ∧ W1 j k H') ?_ m1 ⟨0, H11, I11.weak (wipe_length _ _) (fun j v e => (wipe_some e).1), st11, fun b hb => (f11 b hb).1, w1⟩
    rintro k s12 ⟨j, H12, I12, st12, n12, w12⟩
    rcases turn1 j k H12 w12 with ⟨stop1, nx1⟩ | ⟨go1, Nx1, hNx1, step1⟩
    · refine thnF (T1.done (X.blk s3 H3 scope ce fp) rfl rfl rfl hc j _ s12 (wipe σ8 vs1) H12 (fun _ _ => False) I12 (stat1 n12) st12 stop1) fun r s13 ⟨hr, I13⟩ => ?_
      subst hr
      exact fin I13 (hl8.trans (wipe_length σ8 vs1).symm) hk9 nx1
    · refine thnF (T1.item (X.blk s3 H3 scope ce fp) rfl rfl rfl hc j _ s12 (wipe σ8 vs1) H12 (fun _ _ => False) I12 (stat1 n12) st12 go1) fun r s13 ⟨u1, hr, h13⟩ => ?_
      subst hr
      refine thnF h13 fun _ s14 ⟨x1, H14, I14, r14, y14, st14, n14⟩ => ?_
      have I14' := I14.pinned (stat1 n14) (T1.obj _ _ st14)
      refine thnF (pg1.run _ s14 (wipe σ8 vs1) H14 x1 u1 _ I14' r14 (step1 x1 H14 y14)) fun _ s15 ⟨σ15, H15, I15, hw15, q15⟩ => ?_
      refine thnF (pk.run _ s15 σ15 H15 _ I15 q15) fun z s16 ⟨yk, H16, I16, r16, q16⟩ => ?_
      refine thnF (pv.run _ s16 σ15 H16 _ I16 q16) fun z2 s17 ⟨yv, H17, I17, r17, kvs, kk, ek, hD17, hz17, nx⟩ => ?_
      subst ek
      refine d_dictSet (X := X.blk s3 H3 scope ce fp) I17 hD17 hz17 r16 r17 fun s18 I18 => ?_
      obtain ⟨m', hm, w'⟩ := hNx1 _ nx
      have pin' : ∀ b ∈ fp1, ∀ o, s14.heap.get? b = some o → s18.heap.get? b = some o ∧ _ = none := fun b hb o e =>
        let z := I18.pin (b, o) (List.mem_append_right _ (List.mem_append_right _ (mem_pinsAt hb e)))
        ⟨z.1, z.2.1⟩
      refine ⟨m', hm, j + 1, _, I18.unpinned.weak (by rw [← hw15, wipe_length]) (fun j v e => by rw [← hw15] at e; exact (wipe_some e).1), T1.keep _ _ _ st14 fun b hb o e => (pin' b hb o e).1, fun b hb => ?_, w'⟩
      obtain ⟨o, e, _⟩ := T1.obj _ _ st14 b hb
      exact (pin' b hb o e).2
/-- name = {k: v for .. for ..} on one line -/
theorem ps_setDc2 {i : Nat} {y : Str} {py spos : Pos} {kx vx tg iter tg1 iter1 : Expr} {scope : Scope} {own : List (Str × Nat)} {vs1 : List Nat} {pos : Pos} {wi wi1 : TI} {g g1 : TG} {tk tv : TE} (hy : X.N[i]? = some y) (hyl : X.env.scope.names.lookup y = some .local) (hsw : swapsWith (dcE kx vx tg iter tg1 iter1 scope pos) (some (.Name y py)) spos.line X.env = pure true)
    (hc : X.calm = true) (hN : X.N.Nodup) (hi : PI X tg iter wi) (ok : BlkOk X.N X.env.scope scope own) (hv : ∀ i ∈ vs1, i ∈ own.map (·.2))
    (hg : ∀ (s : Shared) (H : Hp) (C : Addr) (cl : List (Str × Addr)) (fp : List Addr), PG (X.blk s H scope (compEnvC scope cl C X.env) fp) tg g)
    (hi1 : ∀ (s : Shared) (H : Hp) (C : Addr) (cl : List (Str × Addr)) (fp : List Addr), PI (X.blk s H scope (compEnvC scope cl C X.env) fp) tg1 iter1 wi1)
    (hg1 : ∀ (s : Shared) (H : Hp) (C : Addr) (cl : List (Str × Addr)) (fp : List Addr), PG (X.blk s H scope (compEnvC scope cl C X.env) fp) tg1 g1)
    (hk : ∀ (s : Shared) (H : Hp) (C : Addr) (cl : List (Str × Addr)) (fp : List Addr), PE (X.blk s H scope (compEnvC scope cl C X.env) fp) kx tk)
    (hx : ∀ (s : Shared) (H : Hp) (C : Addr) (cl : List (Str × Addr)) (fp : List Addr), PE (X.blk s H scope (compEnvC scope cl C X.env) fp) vx tv)
    (hs : ∀ x, foldedSetIterable iter X.env x = pure x := by intro _; rfl) (hs1 : ∀ env x, foldedSetIterable iter1 env x = pure x := by intro _ _; rfl) :
    PS X (.Assign [.Name y py] (dcE kx vx tg iter tg1 iter1 scope pos) spos) (tAsg (tDc2 wi g wi1 g1 tk tv (own.map (·.2)) vs1) (gName i)) := .mk fun pins s σ H D I h => by
  rw [exec_Assign_Name_used _ _ _ _ hsw]
  refine wpAny_bind (wpAny_standAt (wpAny_bind ?_))
  show wpAny _ X.A (do let _ ← comprehension (dcE kx vx tg iter tg1 iter1 scope pos) scope X.env (firstIterPos [⟨tg, iter, [], 0⟩, ⟨tg1, iter1, [], 0⟩] pos) newDict false (eval iter X.env) (some (assign (.Name y py) X.env))) _ _ s
  have h : tDc2 wi g wi1 g1 tk tv (own.map (·.2)) vs1 σ H (fun x H1 => gName i x σ H1 D.nx) := h
  refine wpAny_bind (thn (dc2_core (Qf := fun _ t => SP X pins D .next t) hc hN hi ok hv hg hi1 hg1 hk hx hs hs1 I h fun L C t m H' J q n f => ?_) fun _ t hq => wpAny_pure (wpAny_pure hq))
  show wpAny _ _ (assign (.Name y py) X.env (.ref L)) _ _ _
  refine wpAny_assign_Name (store_ok2 (v := V.ref L) J hN hy (.inl hyl) rfl (fun s2 I2 ⟨a, sb, ha⟩ => ?_) (.inr hyl))
  obtain ⟨f0, f1, f2, f3, f4, f5⟩ := f
  have ne : C ≠ a := ha.elim (fun z => z ▸ f1) fun z e => f4 y a z e.symm
  exact ⟨m, n.sameBut sb ne, fun h3 sb3 => ⟨_, H', I2.turned (t' := s2.toks) (fun b o hb e => (sb3.2 b hb).trans e) f0 f1 f3 f4 f5, q⟩⟩
end
end SC
namespace SC
open PySem PySem.Spec PyProof.Rows L2 StrLaws
/-! ## min(xs, key=abs) -/
section
variable {prog : Program} {w : World} {A : Around} {E : Value → Shared → Prop} {s : Shared} {l : Addr} {its : List Value} {ns : List Int} {Q : Value → Shared → Prop}
theorem min_abs (hh : A.handled = none) (hl : s.heap.IsList l its.toArray) (hi : Vals (ns.map V.int) its) (hne : 0 < ns.length)
    (h : ∀ h' tk M t', (∀ b o, s.heap.get? b = some o → h'.get? b = some o) → M ∈ ns → (∀ a, a ∈ ns → M.natAbs ≤ a.natAbs) → Q (.int M t') { s with heap := h', toks := tk }) :
    wpAny (model prog w) A (call (.builtin "min") [.ref l] [(Str.ofString "key", .builtin "abs")]) Q E s := by
  obtain ⟨o, ho, _⟩ := id hl
  have hlt : l < s.heap.objs.size := Heap.lt_size ho
  have hlen : its.length = ns.length := by have := hi.length; rw [List.length_map] at this; exact this.symm
  have hval : ∀ (i : Nat) (v : Value), its.toArray[i]? = some v → ∃ t, v = .int (ns.getD i 0) t := fun i v hv => by
    have hv' : its[i]? = some v := by simpa using hv
    have il := (List.getElem?_eq_some_iff.mp hv').1
    have hn : ns[i]? = some (ns[i]'(by omega)) := List.getElem?_eq_getElem _
    obtain ⟨u, h1, t, h2⟩ := hi.get (i := i) (x := V.int (ns[i]'(by omega))) (by rw [List.getElem?_map, hn]; rfl)
    rw [hv'] at h1
    obtain rfl := Option.some.inj h1
    exact ⟨t, by rw [h2, List.getD_eq_getElem?_getD, hn]; rfl⟩
  refine call_min_walkKB (wpAny_pyIter_list hl ?_)
  let I := s.heap.objs.size
  have hI : I = s.heap.objs.size := rfl
  have W := Walks.list (prog := prog) (w := w) (A := A.in1) hh I l (Nat.ne_of_lt hlt) its.toArray
  refine ⟨I, [I, l], [I], _, its.toArray.size, _, _, fun s' => (∀ b o, s.heap.get? b = some o → s'.heap.get? b = some o) ∧ s'.gens = s.gens ∧ s'.drawn = s.drawn ∧ s'.os = s.os,
    fun i k _ => ∃ t, k = .int ((ns.getD i 0).natAbs : Nat) t, fun i j => decide (((ns.getD i 0).natAbs : Int) < ((ns.getD j 0).natAbs : Int)), rfl, W.toS,
    ⟨⟨_, Heap.get?_push_size _ rfl, rfl, rfl⟩, hl.push _⟩, fun b hb => ?_, by simp; omega, ⟨fun s1 s2 hJ hm => ?_, fun i k s1 s2 hV hm => hV, fun i v s1 o Q E hi' hP hJ hst hS hQ => ?_, fun i j ki kj s1 Q E hJ hVi hVj hQ => ?_⟩, ⟨fun b o e => Heap.get?_push_of_some _ e, rfl, rfl, rfl⟩, fun v s1 hP hJ => ?_⟩
  · show b < (s.heap.push _).objs.size
    rw [Heap.size_push]
    rcases List.mem_cons.mp hb with rfl | hb
    · exact Nat.lt_succ_self _
    · rw [List.mem_singleton.mp hb]; exact Nat.lt_succ_of_lt hlt
  · obtain ⟨j1, j2, j3, j4⟩ := hJ
    refine ⟨fun b o e => hm.heap b o (fun z => ?_) (j1 b o e), hm.gens.trans j2, hm.drawn.trans j3, hm.os.trans j4⟩
    have hb := Heap.lt_size e
    rcases List.mem_cons.mp z with z | z
    · have z : b = (s.heap.push { cls := .type "list_iterator", data := .fields #[.ref l, .int 0 0] }).objs.size := z
      rw [Heap.size_push] at z
      rw [z] at hb
      exact absurd hb (Nat.not_lt.mpr (Nat.le_succ _))
    · rw [List.mem_singleton.mp z] at hb; exact Nat.lt_irrefl _ hb
  · obtain ⟨t, rfl⟩ := hval i v hP
    refine call_abs_int fun u tk => hQ _ _ hJ ?_ hS ⟨u, ?_⟩ fun j k' hV => hV
    · exact hst
    · rw [abs_ite]
  · obtain ⟨t1, rfl⟩ := hVi
    obtain ⟨t2, rfl⟩ := hVj
    exact wpAny_lt_int hQ
  · obtain ⟨t, rfl⟩ := hval _ v hP
    obtain ⟨j1, j2, j3, j4⟩ := hJ
    obtain ⟨b1, b2⟩ := argBest_lt (fun i => ((ns.getD i 0).natAbs : Int)) (its.toArray.size - 1)
    have hb : argBest (fun i j => decide (((ns.getD i 0).natAbs : Int) < ((ns.getD j 0).natAbs : Int))) (its.toArray.size - 1) < ns.length := by
      simp only [List.size_toArray] at b1 ⊢; omega
    have := h s1.heap s1.toks (ns.getD (argBest (fun i j => decide (((ns.getD i 0).natAbs : Int) < ((ns.getD j 0).natAbs : Int))) (its.toArray.size - 1)) 0) t j1 (by
      rw [List.getD_eq_getElem?_getD, List.getElem?_eq_getElem hb]
      exact List.getElem_mem hb) fun a ha => by
        obtain ⟨i, hi2, e⟩ := List.mem_iff_getElem.mp ha
        have e2 : ns.getD i 0 = a := by rw [List.getD_eq_getElem?_getD, List.getElem?_eq_getElem hi2, ← e]; rfl
        have := b2 i (by simp only [List.size_toArray]; omega)
        rw [e2] at this
        omega
    cases s1
    simp only at j2 j3 j4
    subst j2 j3 j4
    exact this
end
def tMinAbs (K : PySem.W.Frag) (ta : TA) : TE := fun σ H Q => ta σ H fun vs H1 => ∃ (a : Addr) (ns : List Int), vs = [.ref a] ∧ SqL K H1 a (ns.map V.int) ∧ 0 < ns.length ∧ ∀ m, m ∈ ns → (∀ y, y ∈ ns → m.natAbs ≤ y.natAbs) → Q (.int m) H1
theorem g_minAbs {K : PySem.W.Frag} {ta : TA} {σ : L2.St} {H : Hp} {Q : VK} (q : ta σ H fun vs H1 => ∃ (a : Addr) (ns : List Int), vs = [.ref a] ∧ SqL K H1 a (ns.map V.int) ∧ 0 < ns.length ∧ ∀ m, m ∈ ns → (∀ y, y ∈ ns → m.natAbs ≤ y.natAbs) → Q (.int m) H1) : tMinAbs K ta σ H Q := q
section
variable {X : Cx} {e : Expr} {ta : TA} {p p2 pos kpos : Pos}
theorem pe_minAbs (hc : X.calm = true) (hg : Gl X "min") (hm : X.mg "min" = none) (hg2 : Gl X "abs") (hm2 : X.mg "abs" = none) (he : PA X [e] ta)
    (hs : backTo pos (starEach [e] X.env) = (false, eval e X.env) :: backTo pos (starEach [] X.env) := by rfl) (hpl : (backTo pos (starEach [e] X.env)).any (·.1) = false := by rfl)
    (hall : (backToKw pos (keywordEach [⟨some ("key" : Str), .Name "abs" p2, kpos⟩] X.env)).all (·.1.isSome) = true := by rfl) (hnone : (backToKw pos (keywordEach [⟨some ("key" : Str), .Name "abs" p2, kpos⟩] X.env)).any (·.1.isNone) = false := by rfl)
    (hks : (backToKw pos (keywordEach [⟨some ("key" : Str), .Name "abs" p2, kpos⟩] X.env)).filterMap (·.1) = [Str.ofString "key"] := by rfl) :
    PE X (.Call (.Name "min" p) [e] [⟨some ("key" : Str), .Name "abs" p2, kpos⟩] pos) (tMinAbs X.K ta) := by
  refine ⟨fun pins s σ H Q I h => ?_⟩
  refine wpAny_Call_Name_kw (ld_blt I hg hm PyProof.Rows.boot_min ?_)
  refine PyProof.Rows.callWith_kw (thn (he.run pos pins s σ H _ I h) fun us s1 ⟨vs, H1, I1, r1, a, ns, e1, hs1, hne, q⟩ => ?_) hs hpl hall hnone
  rw [hks]
  subst e1
  show wpAny _ _ (evalAll ((do let v ← eval (.Name "abs" p2) X.env; standAt pos; pure v) :: [])) _ _ s1
  refine wpAny_evalAll_cons (wpAny_bind (ld_blt I1 hg2 hm2 PyProof.Rows.boot_abs (wpAny_bind (wpAny_standAt (wpAny_pure (wpAny_evalAll_nil ?_))))))
  rw [Vals.ref1 r1]
  obtain ⟨its, rv, hl, _⟩ := I1.list hs1
  refine min_abs (I1.ok.hd hc) hl.isList rv hne fun h' tk M t' hk h1 h2 => ⟨.int M, H1, I1.kept hk, ⟨_, rfl⟩, q M h1 h2⟩
end
end SC
namespace SC
open PySem PySem.Spec PyProof.Rows L2 StrLaws RT
/-! ## digits told from the top on -/
theorem digs_app (k : Int) : ∀ l m : List Q4, (∀ p ∈ m, 1 ≤ p.2.2.1) → digs (l ++ m) k = digs l (k / dvP m) ++ digs m k
  | [], m, _ => rfl
  | p :: l, m, h => by
    simp only [List.cons_append, digs, digs_app k l m h, dvP_app]
    rw [Int.mul_comm (dvP l), ← Int.ediv_ediv_of_nonneg (Int.le_of_lt (dvP_pos h))]
theorem digs_mod (k : Int) : ∀ l : List Q4, (∀ p ∈ l, 1 ≤ p.2.2.1) → digs l (k % dvP l) = digs l k
  | [], _ => rfl
  | p :: l, h => by
    have n1 : 1 ≤ p.2.2.1 := h p (List.mem_cons_self ..)
    have hN := dvP_pos fun q hq => h q (List.mem_cons_of_mem p hq)
    have es := emod_split (k := k) n1 hN
    simp only [digs, dvP]
    have d0 := Int.emod_nonneg (k / dvP l) (show p.2.2.1 ≠ 0 by omega)
    have d1 := Int.emod_lt_of_pos (k / dvP l) (show 0 < p.2.2.1 by omega)
    have e0 := Int.emod_nonneg k (show dvP l ≠ 0 by omega)
    have e1 := Int.emod_lt_of_pos k hN
    have h1 : k % (p.2.2.1 * dvP l) / dvP l = k / dvP l % p.2.2.1 := by
      refine ediv_is hN ?_ ?_
      · omega
      · rw [es, Int.add_mul, Int.one_mul]; omega
    have h2 : k % (p.2.2.1 * dvP l) % dvP l = k % dvP l := Int.emod_emod_of_dvd _ ⟨p.2.2.1, Int.mul_comm _ _⟩
    rw [h1, Int.emod_eq_of_lt d0 d1, ← digs_mod (k % (p.2.2.1 * dvP l)) l fun q hq => h q (List.mem_cons_of_mem p hq), h2, digs_mod k l fun q hq => h q (List.mem_cons_of_mem p hq)]
def zros (l : List Q4) : List Int := l.map fun _ => 0
theorem digs_ones : ∀ (l : List Q4), (∀ p ∈ l, p.2.2.1 = 1) → ∀ k, digs l k = zros l
  | [], _, _ => rfl
  | p :: l, h, k => by
    have h1 := h p (List.mem_cons_self ..)
    simp only [digs, zros, List.map_cons]
    rw [digs_ones l (fun q hq => h q (List.mem_cons_of_mem _ hq)) k]
    congr 1
    unfold fig1
    rw [h1, Int.emod_one]
    split <;> rfl
theorem dvP_ones : ∀ (l : List Q4), (∀ p ∈ l, p.2.2.1 = 1) → dvP l = 1
  | [], _ => rfl
  | p :: l, h => by
    simp only [dvP]
    rw [h p (List.mem_cons_self ..), dvP_ones l fun q hq => h q (List.mem_cons_of_mem _ hq)]; rfl
def One (t : Th) : Prop := t.each fun n _ _ => n = 1
theorem one_sq {t : Th} (h : One t) (a b : Int) : ∀ p ∈ t.sq a b, p.2.2.1 = 1 := sq_each (Q := fun p => p.2.2.1 = 1) t a b (each_mono (fun n c ps h a b => h) t h)
theorem one_pr {t : Th} (h : One t) : t.pr = 1 := by rw [← dvP_pr t 1 1]; exact dvP_ones _ (one_sq h 1 1)
theorem one_mv {t : Th} (k : Int) (h : One t) : One (t.mv k) := by
  have : ∀ t : Th, One t → One (t.mv k) := Th.ind (fun i _ => by simp only [Th.mv, One, Th.each]) fun n c ps ih g => by
    simp only [One, Th.each, Th.mv] at g ⊢
    refine ⟨g.1, eachL_iff.mpr fun p hp => ?_⟩
    have : ∀ qs : List (Int × Th), (∀ q ∈ qs, q ∈ ps) → p ∈ mvL k qs → ∃ q ∈ qs, p = (q.1, q.2.mv k) := fun qs => by
      induction qs with
      | nil => intro _ h; simp only [mvL] at h; cases h
      | cons q r ih2 =>
        obtain ⟨w, t⟩ := q
        intro hq h
        simp only [mvL] at h
        rcases List.mem_cons.mp h with z | z
        · exact ⟨_, List.mem_cons_self .., z⟩
        · obtain ⟨q, h1, h2⟩ := ih2 (fun q hq' => hq q (List.mem_cons_of_mem _ hq')) z
          exact ⟨q, List.mem_cons_of_mem _ h1, h2⟩
    obtain ⟨q, h1, h2⟩ := this ps (fun q hq => hq) hp
    rw [h2]
    exact ih q h1 (eachL_iff.mp g.2 q h1)
  exact this t h
mutual
def Th.ld (k : Int) : Th → List Int
  | .inp _ => []
  | .st _ _ ps => (k / prL ps) :: ldL k ps
def ldL (k : Int) : List (Int × Th) → List Int
  | [] => []
  | (w, t) :: r => t.ld (if w = 1 ∨ t.pr = 1 then k % t.pr else t.pr - 1 - k % t.pr) ++ ldL k r
end
theorem ldL_snoc (k w : Int) (t : Th) : ∀ ps : List (Int × Th), ldL k (ps ++ [(w, t)]) = ldL k ps ++ t.ld (if w = 1 ∨ t.pr = 1 then k % t.pr else t.pr - 1 - k % t.pr)
  | [] => by simp only [List.nil_append, ldL, List.append_nil]
  | (x, u) :: ps => by simp only [List.cons_append, ldL, ldL_snoc k w t ps, List.append_assoc]
mutual
theorem ld_one : ∀ (t : Th), One t → ∀ a b, t.ld 0 = zros (t.sq a b)
  | .inp _, _, a, b => by simp only [Th.ld, Th.sq]; rfl
  | .st n c ps, h, a, b => by
    simp only [One, Th.each] at h
    simp only [Th.ld, Th.sq, zros, List.map_cons, Int.zero_ediv]
    rw [ldL_one ps (fun p hp => eachL_iff.mp h.2 p hp) 0 a (b * n)]; rfl
theorem ldL_one : ∀ (ps : List (Int × Th)), (∀ p ∈ ps, One p.2) → ∀ k a b, ldL k ps = zros (sqL a b ps)
  | [], _, k, a, b => by simp only [ldL, sqL]; rfl
  | (w, t) :: r, h, k, a, b => by
    have h1 := h _ (List.mem_cons_self ..)
    simp only [ldL, sqL, zros, List.map_append]
    rw [one_pr h1, Int.emod_one, if_pos (.inr rfl), ld_one t h1 (a * w) b, ldL_one r (fun p hp => h p (List.mem_cons_of_mem _ hp)) k a b]; rfl
end
/-- one stage alone, by 1 or -1, divides beneath -/
def Spn : List (Int × Th) → Prop
  | [] => True
  | (w, t) :: r => (One t ∧ Spn r) ∨ ((w = 1 ∨ w = -1) ∧ ∀ p ∈ r, One p.2)
theorem one_inp (i : Int) : One (.inp i) := by simp only [One, Th.each]
theorem spn_ones : ∀ {ps : List (Int × Th)}, (∀ p ∈ ps, One p.2) → Spn ps
  | [], _ => True.intro
  | (w, t) :: r, h => .inl ⟨h _ (List.mem_cons_self ..), spn_ones fun p hp => h p (List.mem_cons_of_mem _ hp)⟩
theorem spn_row {n c : Int} : ∀ {ps : List (Int × Th)}, RowS n c ps → Spn ps
  | [], _ => True.intro
  | (w, t) :: r, h => by
    have ho := h.one
    rw [List.map_cons, List.countP_cons] at ho
    cases t with
    | inp i => exact .inl ⟨one_inp i, spn_row (n := n) (c := c) ⟨fun p hp => h.pw p (List.mem_cons_of_mem _ hp), by omega⟩⟩
    | st m d us =>
      rw [if_pos (show isSt (Th.st m d us) = true from rfl)] at ho
      refine .inr ⟨h.pw (w, .st m d us) (List.mem_cons_self ..) rfl, fun p hp => ?_⟩
      have := List.countP_eq_zero.mp (show (r.map (·.2)).countP isSt = 0 by omega) p.2 (List.mem_map.mpr ⟨p, hp, rfl⟩)
      obtain ⟨x, u⟩ := p
      cases u with
      | inp i => exact one_inp i
      | st _ _ _ => exact absurd rfl this
theorem spn_put {w : Int} {o : Th} (ho : One o) : ∀ (a b : List (Int × Th)), Spn (a ++ b) → Spn (a ++ (w, o) :: b)
  | [], b, h => .inl ⟨ho, h⟩
  | (x, t) :: a, b, h => by
    rcases h with ⟨h1, h2⟩ | ⟨h1, h2⟩
    · exact .inl ⟨h1, spn_put ho a b h2⟩
    · refine .inr ⟨h1, fun p hp => ?_⟩
      rcases List.mem_append.mp hp with z | z
      · exact h2 p (List.mem_append_left _ z)
      · rcases List.mem_cons.mp z with y | y
        · rw [y]; exact ho
        · exact h2 p (List.mem_append_right _ y)
/-- every stage divides, and at most one beneath each divides by more than 1 -/
structure Spl (n c : Int) (ps : List (Int × Th)) : Prop where
  n1 : 1 ≤ n
  sp : Spn ps
theorem spl_n1 {t : Th} (h : t.each Spl) (a b : Int) : ∀ p ∈ t.sq a b, 1 ≤ p.2.2.1 := sq_each (Q := fun p => 1 ≤ p.2.2.1) t a b (each_mono (fun n c ps h a b => h.n1) t h)
theorem splL_n1 (a b : Int) : ∀ {ps : List (Int × Th)}, (∀ p ∈ ps, p.2.each Spl) → ∀ q ∈ sqL a b ps, 1 ≤ q.2.2.1
  | [], _, q, hq => by simp only [sqL] at hq; cases hq
  | (w, t) :: r, h, q, hq => by
    simp only [sqL] at hq
    rcases List.mem_append.mp hq with z | z
    · exact spl_n1 (h _ (List.mem_cons_self ..)) _ _ q z
    · exact splL_n1 a b (fun p hp => h p (List.mem_cons_of_mem _ hp)) q z
theorem sqL_ones (a b : Int) : ∀ {ps : List (Int × Th)}, (∀ p ∈ ps, One p.2) → ∀ q ∈ sqL a b ps, q.2.2.1 = 1
  | [], _, q, hq => by simp only [sqL] at hq; cases hq
  | (w, t) :: r, h, q, hq => by
    simp only [sqL] at hq
    rcases List.mem_append.mp hq with z | z
    · exact one_sq (h _ (List.mem_cons_self ..)) _ _ q z
    · exact sqL_ones a b (fun p hp => h p (List.mem_cons_of_mem _ hp)) q z
theorem pr_spl {t : Th} (h : t.each Spl) : 0 < t.pr := by rw [← dvP_pr t 1 1]; exact dvP_pos (spl_n1 h 1 1)
/-- beneath: k' is k, or what is left of it -/
theorem ldL_digs {a b : Int} (ha : a ≠ 0) : ∀ (ps : List (Int × Th)), Spn ps → (∀ p ∈ ps, p.2.each Spl) →
    (∀ p ∈ ps, ∀ a b k : Int, a ≠ 0 → 0 ≤ k → k < p.2.pr → p.2.ld k = digs (p.2.sq a b) (if a > 0 then k else p.2.pr - 1 - k)) →
    ∀ k k' : Int, (a > 0 → k' % prL ps = k % prL ps) → (¬ a > 0 → k' % prL ps = prL ps - 1 - k % prL ps) → ldL k ps = digs (sqL a b ps) k'
  | [], _, _, _, k, k', _, _ => by simp only [ldL, sqL, digs]
  | (w, t) :: r, hs, hg, ih, k, k', h1, h2 => by
    have gt : t.each Spl := hg (w, t) (List.mem_cons_self ..)
    have gr := fun p hp => hg p (List.mem_cons_of_mem _ hp)
    simp only [ldL, sqL]
    rw [digs_app _ _ _ (splL_n1 a b gr)]
    simp only [prL] at h1 h2
    rcases hs with ⟨ho, hr⟩ | ⟨hw, ho⟩
    · have ho : One t := ho
      have p1 : t.pr = 1 := one_pr ho
      rw [p1, Int.one_mul] at h1 h2
      rw [p1, Int.emod_one, if_pos (.inr rfl), ld_one t ho (a * w) b, digs_ones _ (one_sq ho (a * w) b), ldL_digs ha r hr gr (fun p hp => ih p (List.mem_cons_of_mem _ hp)) k k' h1 h2]
    · have q1 : prL r = 1 := by rw [← dvP_prL r a b]; exact dvP_ones _ (sqL_ones a b ho)
      rw [q1, Int.mul_one] at h1 h2
      rw [dvP_ones _ (sqL_ones a b ho), Int.ediv_one, ldL_one r ho k a b, digs_ones (sqL a b r) (sqL_ones a b ho)]
      congr 1
      have hp : 0 < t.pr := pr_spl gt
      have k0 := Int.emod_nonneg k (show t.pr ≠ 0 by omega)
      have k1 := Int.emod_lt_of_pos k hp
      have ht : ∀ a b k : Int, a ≠ 0 → 0 ≤ k → k < t.pr → t.ld k = digs (t.sq a b) (if a > 0 then k else t.pr - 1 - k) := ih (w, t) (List.mem_cons_self ..)
      rw [← digs_mod k' _ (spl_n1 gt (a * w) b), dvP_pr]
      rcases hw with hw | hw
      · subst hw
        rw [if_pos (.inl rfl), Int.mul_one, ht a b _ ha k0 k1]
        congr 1
        by_cases z : a > 0
        · rw [if_pos z, h1 z]
        · rw [if_neg z, h2 z]
      · subst hw
        have hn : a * -1 ≠ 0 := by omega
        by_cases e1 : t.pr = 1
        · rw [if_pos (.inr e1), ht (a * -1) b _ hn k0 k1]
          have k3 : k % t.pr = 0 := by rw [e1, Int.emod_one]
          have k4 : k' % t.pr = 0 := by rw [e1, Int.emod_one]
          rw [k3, k4, e1]
          congr 1
          split <;> rfl
        · rw [if_neg (by omega), ht (a * -1) b _ hn (by omega) (by omega)]
          congr 1
          by_cases z : a > 0
          · rw [if_neg (by omega), h1 z]; omega
          · rw [if_pos (by omega), h2 z]
theorem ld_digs : ∀ (t : Th), t.each Spl → ∀ a b k : Int, a ≠ 0 → 0 ≤ k → k < t.pr → t.ld k = digs (t.sq a b) (if a > 0 then k else t.pr - 1 - k) := by
  refine Th.ind (fun i _ a b k _ _ _ => by simp only [Th.ld, Th.sq, digs]) fun n c ps ih g a b k ha h0 hk => ?_
  simp only [Th.each] at g
  have gr := fun p hp => eachL_iff.mp g.2 p hp
  have hN : 0 < prL ps := by rw [← dvP_prL ps a b]; exact dvP_pos (splL_n1 a b gr)
  have n1 := g.1.n1
  simp only [Th.pr] at hk ⊢
  simp only [Th.ld, Th.sq, digs]
  rw [dvP_prL]
  have kb := ediv_bounds (a := k) hN
  have km0 := Int.emod_nonneg k (show prL ps ≠ 0 by omega)
  have km1 := Int.emod_lt_of_pos k hN
  have ke := Int.emod_add_mul_ediv k (prL ps)
  have q0 : 0 ≤ k / prL ps := Int.ediv_nonneg h0 (Int.le_of_lt hN)
  have q1 : k / prL ps < n := Int.ediv_lt_of_lt_mul hN hk
  have tail := ldL_digs (b := b * n) ha ps g.1.sp gr (fun p hp => ih p hp (gr p hp))
  by_cases z : a > 0
  · rw [if_pos z]
    unfold fig1
    rw [if_pos z, Int.emod_eq_of_lt q0 q1, tail k k (fun _ => rfl) fun y => absurd z y]
  · rw [if_neg z]
    have cm : k / prL ps * prL ps = prL ps * (k / prL ps) := Int.mul_comm _ _
    have e1 : (n * prL ps - 1 - k) / prL ps = n - 1 - k / prL ps := by
      refine ediv_is hN ?_ ?_
      · have : (n - 1 - k / prL ps) * prL ps = n * prL ps - prL ps - k / prL ps * prL ps := by grind
        omega
      · have : (n - 1 - k / prL ps + 1) * prL ps = n * prL ps - k / prL ps * prL ps := by grind
        omega
    have e2 : (n * prL ps - 1 - k) % prL ps = prL ps - 1 - k % prL ps := by
      have := Int.emod_add_mul_ediv (n * prL ps - 1 - k) (prL ps)
      rw [e1] at this
      have e3 : prL ps * (n - 1 - k / prL ps) = n * prL ps - prL ps - prL ps * (k / prL ps) := by grind
      omega
    rw [tail k (n * prL ps - 1 - k) (fun y => absurd y z) fun _ => e2]
    congr 1
    unfold fig1
    rw [if_neg z, e1, Int.emod_eq_of_lt (by omega) (by omega)]
    show k / prL ps = n - 1 - (n - 1 - k / prL ps)
    omega
end SC
namespace SC
open PySem PySem.Spec PyProof.Rows L2 StrLaws RT
/-! ## alike but for the offsets -/
def key3 (p : Q4) : Int × Int × Int := (p.1, p.2.1, p.2.2.1)
mutual
def SmC : Th → Th → Prop
  | .inp i, u => u = .inp i
  | .st n _ ps, u => ∃ d qs, u = .st n d qs ∧ 0 ≤ d ∧ d < n ∧ SmL ps qs
def SmL : List (Int × Th) → List (Int × Th) → Prop
  | [], qs => qs = []
  | (w, t) :: r, qs => ∃ u s, qs = (w, u) :: s ∧ SmC t u ∧ SmL r s
end
theorem smL_snoc {w : Int} {t u : Th} (h : SmC t u) : ∀ {ps qs : List (Int × Th)}, SmL ps qs → SmL (ps ++ [(w, t)]) (qs ++ [(w, u)])
  | [], qs, h1 => by
    simp only [SmL] at h1
    rw [h1]
    exact ⟨u, [], rfl, h, rfl⟩
  | (x, v) :: r, qs, h1 => by
    obtain ⟨v', s, e, h2, h3⟩ := h1
    rw [e]
    exact ⟨v', s ++ [(w, u)], rfl, h2, smL_snoc h h3⟩
structure SmF (t u : Th) : Prop where
  key : ∀ a b : Int, (u.sq a b).map key3 = (t.sq a b).map key3
  st : u.nSt = t.nSt
  inp : u.nIn = t.nIn
  dep : u.dep = t.dep
  pr : u.pr = t.pr
  fit : t.fit → u.fit
structure SmG (ps qs : List (Int × Th)) : Prop where
  key : ∀ a b : Int, (sqL a b qs).map key3 = (sqL a b ps).map key3
  st : nStL qs = nStL ps
  inp : nInL qs = nInL ps
  dep : depL qs = depL ps
  pr : prL qs = prL ps
  fit : fitL ps → fitL qs
mutual
theorem smC_f : ∀ (t u : Th), SmC t u → SmF t u
  | .inp i, u, h => by
    simp only [SmC] at h
    subst h
    exact ⟨fun _ _ => rfl, rfl, rfl, rfl, rfl, fun h => h⟩
  | .st n c ps, u, h => by
    obtain ⟨d, qs, rfl, d0, d1, h⟩ := h
    have g := smL_f ps qs h
    refine ⟨fun a b => ?_, ?_, ?_, ?_, ?_, fun f => ?_⟩
    · simp only [Th.sq, List.map_cons, g.key]; rfl
    · simp only [Th.nSt, g.st]
    · simp only [Th.nIn, g.inp]
    · simp only [Th.dep, g.dep]
    · simp only [Th.pr, g.pr]
    · simp only [Th.fit] at f ⊢
      exact ⟨f.1, f.2.1, d0, d1, g.fit f.2.2.2.2⟩
theorem smL_f : ∀ (ps qs : List (Int × Th)), SmL ps qs → SmG ps qs
  | [], qs, h => by
    simp only [SmL] at h
    subst h
    exact ⟨fun _ _ => rfl, rfl, rfl, rfl, rfl, fun h => h⟩
  | (w, t) :: r, qs, h => by
    obtain ⟨u, s, rfl, h1, h2⟩ := h
    have g1 := smC_f t u h1
    have g2 := smL_f r s h2
    refine ⟨fun a b => ?_, ?_, ?_, ?_, ?_, fun f => ?_⟩
    · simp only [sqL, List.map_append, g1.key, g2.key]
    · simp only [nStL, g1.st, g2.st]
    · simp only [nInL, g1.inp, g2.inp]
    · simp only [depL, g1.dep, g2.dep]
    · simp only [prL, g1.pr, g2.pr]
    · simp only [fitL] at f ⊢
      exact ⟨f.1, g1.fit f.2.1, g2.fit f.2.2⟩
end
theorem key3_cons {p q : Q4} {l m : List Q4} (h : (p :: l).map key3 = (q :: m).map key3) : p.1 = q.1 ∧ p.2.1 = q.2.1 ∧ p.2.2.1 = q.2.2.1 ∧ l.map key3 = m.map key3 := by
  rw [List.map_cons, List.map_cons] at h
  injection h with h1 h2
  injection h1 with h3 h4
  injection h4 with h5 h6
  exact ⟨h3, h5, h6, h2⟩
theorem dvP_key : ∀ {l m : List Q4}, l.map key3 = m.map key3 → dvP l = dvP m
  | [], [], _ => rfl
  | [], _ :: _, h => by cases h
  | _ :: _, [], h => by cases h
  | p :: l, q :: m, h => by
    obtain ⟨_, _, h3, h4⟩ := key3_cons h
    simp only [dvP, h3, dvP_key h4]
theorem digs_key (k : Int) : ∀ {l m : List Q4}, l.map key3 = m.map key3 → digs l k = digs m k
  | [], [], _ => rfl
  | [], _ :: _, h => by cases h
  | _ :: _, [], h => by cases h
  | p :: l, q :: m, h => by
    obtain ⟨h1, h2, h3, h4⟩ := key3_cons h
    simp only [digs, fig1, h1, h3, dvP_key h4, digs_key k h4]
theorem UR_key : ∀ {l m : List Q4} {P : Int}, l.map key3 = m.map key3 → UR P m → UR P l
  | [], [], _, _, _ => by simp only [UR]
  | [], _ :: _, _, h, _ => by cases h
  | _ :: _, [], _, h, _ => by cases h
  | p :: l, q :: m, P, h, u => by
    obtain ⟨h1, h2, h3, h4⟩ := key3_cons h
    simp only [UR] at u ⊢
    rw [h1, h2, h3]
    exact ⟨u.1, UR_key h4 u.2⟩
theorem sprF_key : ∀ {l m : List Q4}, l.map key3 = m.map key3 → sprF l = sprF m
  | [], [], _ => rfl
  | [], _ :: _, h => by cases h
  | _ :: _, [], h => by cases h
  | p :: l, q :: m, h => by
    obtain ⟨h1, h2, h3, h4⟩ := key3_cons h
    have := sprF_key h4
    simp only [sprF, List.map_cons] at this ⊢
    rw [this]
    simp only [spq, h1, h2, h3]
theorem UR_split : ∀ {l m : List Q4} {P : Int}, UR P (l ++ m) → UR P l ∧ UR (P * dvP l) m
  | [], m, P, h => ⟨by simp only [UR], by simpa [dvP] using h⟩
  | p :: l, m, P, h => by
    simp only [List.cons_append, UR] at h
    obtain ⟨h1, h2⟩ := UR_split h.2
    refine ⟨by simp only [UR]; exact ⟨h.1, h1⟩, ?_⟩
    simp only [dvP]
    rwa [← Int.mul_assoc]
/-! ## the middles of all offsets -/
def insK (acc : List Int) (k : Int) : List Int := if k ∈ acc then acc else acc ++ [k]
def insAll (acc xs : List Int) : List Int := xs.foldl insK acc
theorem insAll_app (acc xs ys : List Int) : insAll acc (xs ++ ys) = insAll (insAll acc xs) ys := by unfold insAll; rw [List.foldl_append]
theorem insAll_snoc (acc xs : List Int) (k : Int) : insAll acc (xs ++ [k]) = insK (insAll acc xs) k := by rw [insAll_app]; rfl
theorem insK_len (acc : List Int) (k : Int) : (insK acc k).length ≤ acc.length + 1 := by unfold insK; split <;> simp
theorem insK_ne (acc : List Int) (k : Int) : insK acc k ≠ [] := by
  unfold insK
  split
  · intro e; rename_i h; rw [e] at h; cases h
  · simp
theorem insAll_len : ∀ (xs acc : List Int), (insAll acc xs).length ≤ acc.length + xs.length
  | [], acc => by simp [insAll]
  | x :: xs, acc => by
    have h1 := insAll_len xs (insK acc x)
    have h2 := insK_len acc x
    have e : insAll acc (x :: xs) = insAll (insK acc x) xs := rfl
    rw [e, List.length_cons]; omega
theorem insAll_ne : ∀ {xs acc : List Int}, (xs ≠ [] ∨ acc ≠ []) → insAll acc xs ≠ []
  | [], acc, h => by
    rcases h with h | h
    · exact absurd rfl h
    · exact h
  | x :: xs, acc, _ => insAll_ne (xs := xs) (acc := insK acc x) (.inr (insK_ne acc x))
def midO (u n m : Int) (o : Nat) : Int := m + u * (2 * (o : Int) - n + 1)
def rowK (u n m : Int) : List Int := (List.range n.toNat).map (midO u n m)
def rowsK (u n : Int) (ms : List Int) : List Int := (ms.map (rowK u n)).flatten
def nextK (u n : Int) (ms : List Int) : List Int := insAll [] (rowsK u n ms)
theorem rowsK_len (u n : Int) : ∀ ms : List Int, (rowsK u n ms).length = ms.length * n.toNat
  | [] => by simp [rowsK]
  | m :: ms => by
    have ih := rowsK_len u n ms
    unfold rowsK at ih ⊢
    rw [List.map_cons, List.flatten_cons, List.length_append, ih, List.length_cons, Nat.succ_mul, Nat.add_comm]
    simp [rowK]
theorem rowsK_take (u n : Int) (ms : List Int) {i : Nat} {m : Int} (h : ms[i]? = some m) : rowsK u n (ms.take (i + 1)) = rowsK u n (ms.take i) ++ rowK u n m := by
  unfold rowsK
  rw [take_one h, List.map_append, List.flatten_append]
  simp
def keysB (W : Int) : List Q4 → List Int
  | l => l.foldl (fun ms p => nextK (stp W (red p)) p.2.2.1 ms) [0]
theorem keysB_snoc (W : Int) (l : List Q4) (p : Q4) : keysB W (l ++ [p]) = nextK (stp W (red p)) p.2.2.1 (keysB W l) := by
  unfold keysB
  rw [List.foldl_append]; rfl
theorem keysB_ne (W : Int) : ∀ (l : List Q4), (∀ p ∈ l, 1 ≤ p.2.2.1) → keysB W l ≠ [] := fun l => by
  have : ∀ (l : List Q4) (ms : List Int), ms ≠ [] → (∀ p ∈ l, 1 ≤ p.2.2.1) → l.foldl (fun ms p => nextK (stp W (red p)) p.2.2.1 ms) ms ≠ [] := fun l => by
    induction l with
    | nil => intro ms h _; exact h
    | cons p r ih =>
      intro ms h hp
      refine ih _ (insAll_ne (.inl fun e => ?_)) fun q hq => hp q (List.mem_cons_of_mem _ hq)
      have e2 := rowsK_len (stp W (red p)) p.2.2.1 ms
      rw [e, List.length_nil] at e2
      have h1 := List.length_pos_iff.mpr h
      have h2 := hp p (List.mem_cons_self ..)
      have h3 : 0 < ms.length * p.2.2.1.toNat := Nat.mul_pos h1 (by omega)
      omega
  exact this l [0] (by decide)
theorem keysB_len (W : Int) : ∀ (l : List Q4), (∀ p ∈ l, 1 ≤ p.2.2.1) → ((keysB W l).length : Int) ≤ dvP l := fun l => by
  have : ∀ (l : List Q4) (ms : List Int), (∀ p ∈ l, 1 ≤ p.2.2.1) → ((l.foldl (fun ms p => nextK (stp W (red p)) p.2.2.1 ms) ms).length : Int) ≤ ms.length * dvP l := fun l => by
    induction l with
    | nil => intro ms _; simp [dvP]
    | cons p r ih =>
      intro ms hp
      have hr := fun q hq => hp q (List.mem_cons_of_mem p hq)
      have h1 := ih (nextK (stp W (red p)) p.2.2.1 ms) hr
      have h2 : ((nextK (stp W (red p)) p.2.2.1 ms).length : Int) ≤ (ms.length : Int) * p.2.2.1 := by
        have h3 := insAll_len (rowsK (stp W (red p)) p.2.2.1 ms) []
        rw [rowsK_len, List.length_nil, Nat.zero_add] at h3
        have h4 := hp p (List.mem_cons_self ..)
        have h5 : ((ms.length * p.2.2.1.toNat : Nat) : Int) = (ms.length : Int) * p.2.2.1 := by
          rw [Int.natCast_mul, show ((p.2.2.1.toNat : Nat) : Int) = p.2.2.1 by omega]
        unfold nextK
        omega
      have h6 := Int.mul_le_mul_of_nonneg_right h2 (Int.le_of_lt (dvP_pos hr))
      simp only [dvP, List.foldl_cons]
      rw [← Int.mul_assoc]
      omega
  intro h
  have := this l [0] h
  unfold keysB
  simpa using this
theorem keysB_key (W : Int) {l m : List Q4} (h : l.map key3 = m.map key3) : keysB W l = keysB W m := by
  have : ∀ (l m : List Q4) (ms : List Int), l.map key3 = m.map key3 → l.foldl (fun ms p => nextK (stp W (red p)) p.2.2.1 ms) ms = m.foldl (fun ms p => nextK (stp W (red p)) p.2.2.1 ms) ms := fun l => by
    induction l with
    | nil => intro m ms h; cases m with
      | nil => rfl
      | cons _ _ => cases h
    | cons p r ih =>
      intro m ms h
      cases m with
      | nil => cases h
      | cons q s =>
        obtain ⟨h1, h2, h3, h4⟩ := key3_cons h
        have e : stp W (red p) = stp W (red q) := by unfold stp red; simp only [h1, h2, h3]
        rw [List.foldl_cons, List.foldl_cons, e, h3, ih s _ h4]
  exact this l m [0] h
/-- the keys of a dict after an entry -/
theorem putK_inl {kvs : List (L2.Key × V)} {ks : List Int} (h : kvs.map (·.1) = ks.map Sum.inl) (k : Int) (v : V) : (putK kvs (.inl k) v).map (·.1) = (insK ks k).map Sum.inl := by
  have hany : ∀ (kvs : List (L2.Key × V)) (ks : List Int), kvs.map (·.1) = ks.map Sum.inl → ((kvs.any fun kv => decide (kv.1 = (Sum.inl k : L2.Key))) = true ↔ k ∈ ks) := fun kvs => by
    induction kvs with
    | nil => intro ks h; cases ks with
      | nil => simp
      | cons _ _ => cases h
    | cons e r ih =>
      intro ks h
      cases ks with
      | nil => cases h
      | cons x s =>
        rw [List.map_cons, List.map_cons] at h
        injection h with h1 h2
        rw [List.any_cons, Bool.or_eq_true, ih s h2, List.mem_cons, decide_eq_true_iff, h1]
        constructor
        · rintro (z | z)
          · injection z with z; exact .inl z.symm
          · exact .inr z
        · rintro (z | z)
          · exact .inl (by rw [z])
          · exact .inr z
  unfold putK insK
  by_cases z : k ∈ ks
  · rw [if_pos z, if_pos ((hany kvs ks h).mpr z), List.map_map]
    rw [← h]
    refine List.map_congr_left fun kv _ => ?_
    simp only [Function.comp]
    split
    · rename_i e; exact e.symm ▸ rfl
    · rfl
  · rw [if_neg z, if_neg fun y => z ((hany kvs ks h).mp y), List.map_append, h, List.map_append]; rfl
theorem putK_all {kvs : List (L2.Key × V)} {P : L2.Key × V → Prop} {k : L2.Key} {v : V} (h : ∀ e ∈ kvs, P e) (h2 : P (k, v)) : ∀ e ∈ putK kvs k v, P e := by
  intro e he
  unfold putK at he
  split at he
  · obtain ⟨x, hx, hy⟩ := List.mem_map.mp he
    split at hy
    · rename_i z
      rw [← hy, z]; exact h2
    · rw [← hy]; exact h x hx
  · rcases List.mem_append.mp he with z | z
    · exact h e z
    · rw [List.mem_singleton.mp z]; exact h2
/-- the middle that offsets tell -/
def midS (W : Int) : List Q4 → List Int → Int
  | p :: r, o :: os => stp W (red p) * (2 * o - p.2.2.1 + 1) + midS W r os
  | _, _ => 0
theorem midS_snoc (W : Int) (p : Q4) (o : Int) : ∀ (l : List Q4) (os : List Int), os.length = l.length → midS W (l ++ [p]) (os ++ [o]) = midS W l os + stp W (red p) * (2 * o - p.2.2.1 + 1)
  | [], [], _ => by simp [midS]
  | q :: l, x :: os, h => by
    simp only [List.cons_append, midS, midS_snoc W p o l os (by simpa using h)]
    omega
  | [], _ :: _, h => by simp at h
  | _ :: _, [], h => by simp at h
/-! ## readings of {k: v for .. in d.items() for .. in range(n)} -/
theorem g_iItems {td : TE} {σ : L2.St} {H : Hp} {R : It → Hp → Prop} (q : td σ H fun x H1 => ∃ d o kvs, x = .ref d ∧ H1 d = some (.frz o (.dK kvs)) ∧ R (Iti d o kvs) H1) : iItems td σ H R := q
theorem dvP_take : ∀ (l : List Q4) (i : Nat), (∀ p ∈ l, 1 ≤ p.2.2.1) → dvP (l.take i) ≤ dvP l
  | l, 0, h => by simp only [List.take_zero, dvP]; have := dvP_pos h; omega
  | [], i + 1, _ => by simp
  | p :: l, i + 1, h => by
    simp only [List.take_succ_cons, dvP]
    have h1 := h p (List.mem_cons_self ..)
    exact Int.mul_le_mul_of_nonneg_left (dvP_take l i fun q hq => h q (List.mem_cons_of_mem _ hq)) (by omega)
theorem g_dc2 {wi : TI} {g : TG} {wi1 : TI} {g1 : TG} {tk tv : TE} {vs vs1 : List Nat} {σ : L2.St} {H : Hp} {Q : VK} (q : wi σ H fun J H1 => ∀ D, H1 D = none → ∃ W : Nat → Nat → Hp → Prop, (∃ m, W 0 m (upd H1 D (.dK []))) ∧ ∀ i m H, W i m H →
  (J.stop i H ∧ Q (.ref D) H) ∨ (J.go i H ∧ ∃ Nx : Hp → Prop, (∀ H', Nx H' → ∃ m', m' < m ∧ W (i + 1) m' H') ∧ ∀ x H', J.yld i H x H' → g x (wipe σ vs) H' fun σ2 H2 => wipe σ2 vs = wipe σ vs ∧
    wi1 σ2 H2 fun J1 H4 => ∃ W1 : Nat → Nat → Hp → Prop, (∃ m, W1 0 m H4) ∧ ∀ j k H, W1 j k H →
      (J1.stop j H ∧ Nx H) ∨ (J1.go j H ∧ ∃ Nx1 : Hp → Prop, (∀ H', Nx1 H' → ∃ k', k' < k ∧ W1 (j + 1) k' H') ∧ ∀ x H', J1.yld j H x H' → g1 x (wipe σ2 vs1) H' fun σ3 H5 => wipe σ3 vs1 = wipe σ2 vs1 ∧
        tk σ3 H5 fun y H6 => tv σ3 H6 fun z H7 => ∃ kvs k, y = kV k ∧ H7 D = some (.dK kvs) ∧ kvs.length < sizeLine ∧ Nx1 (upd H7 D (.dK (putK kvs k z)))))) : tDc2 wi g wi1 g1 tk tv vs vs1 σ H Q := q
theorem dc2_items {d : Addr} {o : Obj} {kvs : List (L2.Key × V)} {g : TG} {wi1 : TI} {g1 : TG} {tk tv : TE} {vs vs1 : List Nat} {σ : L2.St} {H1 : Hp} {D : Addr} {Qd : Hp → Prop} (Pv : Nat → Hp → Prop) (h0 : Pv 0 (upd H1 D (.dK []))) (hl : ∀ i H, Pv i H → H d = some (.frz o (.dK kvs)))
    (hs : ∀ i k v H T, kvs[i]? = some (k, v) → Pv i H → H T = none → g (.ref T) (wipe σ vs) (upd H T (.tup [kV k, v])) fun σ2 H2 => wipe σ2 vs = wipe σ vs ∧ wi1 σ2 H2 fun J1 H4 => ∃ W1 : Nat → Nat → Hp → Prop, (∃ m, W1 0 m H4) ∧ ∀ j k H, W1 j k H →
      (J1.stop j H ∧ Pv (i + 1) H) ∨ (J1.go j H ∧ ∃ Nx1 : Hp → Prop, (∀ H', Nx1 H' → ∃ k', k' < k ∧ W1 (j + 1) k' H') ∧ ∀ x H', J1.yld j H x H' → g1 x (wipe σ2 vs1) H' fun σ3 H5 => wipe σ3 vs1 = wipe σ2 vs1 ∧
        tk σ3 H5 fun y H6 => tv σ3 H6 fun z H7 => ∃ kvs k, y = kV k ∧ H7 D = some (.dK kvs) ∧ kvs.length < sizeLine ∧ Nx1 (upd H7 D (.dK (putK kvs k z)))))
    (hd : ∀ H, Pv kvs.length H → Qd H) :
    ∃ W : Nat → Nat → Hp → Prop, (∃ m, W 0 m (upd H1 D (.dK []))) ∧ ∀ i m H, W i m H →
      ((Iti d o kvs).stop i H ∧ Qd H) ∨ ((Iti d o kvs).go i H ∧ ∃ Nx : Hp → Prop, (∀ H', Nx H' → ∃ m', m' < m ∧ W (i + 1) m' H') ∧ ∀ x H', (Iti d o kvs).yld i H x H' → g x (wipe σ vs) H' fun σ2 H2 => wipe σ2 vs = wipe σ vs ∧
        wi1 σ2 H2 fun J1 H4 => ∃ W1 : Nat → Nat → Hp → Prop, (∃ m, W1 0 m H4) ∧ ∀ j k H, W1 j k H →
          (J1.stop j H ∧ Nx H) ∨ (J1.go j H ∧ ∃ Nx1 : Hp → Prop, (∀ H', Nx1 H' → ∃ k', k' < k ∧ W1 (j + 1) k' H') ∧ ∀ x H', J1.yld j H x H' → g1 x (wipe σ2 vs1) H' fun σ3 H5 => wipe σ3 vs1 = wipe σ2 vs1 ∧
            tk σ3 H5 fun y H6 => tv σ3 H6 fun z H7 => ∃ kvs k, y = kV k ∧ H7 D = some (.dK kvs) ∧ kvs.length < sizeLine ∧ Nx1 (upd H7 D (.dK (putK kvs k z))))) := by
  refine ⟨fun i m H => i + m = kvs.length ∧ Pv i H, ⟨kvs.length, Nat.zero_add _, h0⟩, fun i m H ⟨e, p⟩ => ?_⟩
  have q := hl i H p
  cases m with
  | zero =>
    obtain rfl : i = kvs.length := by omega
    exact .inl ⟨⟨q, Nat.le_refl _⟩, hd H p⟩
  | succ m =>
    have hlt : i < kvs.length := by omega
    refine .inr ⟨⟨q, hlt⟩, Pv (i + 1), fun H' p' => ⟨m, by omega, by omega, p'⟩, fun x H' y => ?_⟩
    obtain ⟨T, k, v, h1, rfl, h2, rfl⟩ := y
    exact hs i k v H T h1 p h2
theorem dc2_in_range {lo : Int} {n : Nat} {g1 : TG} {tk tv : TE} {vs1 : List Nat} {σ2 : L2.St} {H4 : Hp} {D : Addr} {Nx : Hp → Prop} (Rv : Nat → Hp → Prop) (h0 : Rv 0 H4)
    (hs : ∀ j H, j < n → Rv j H → g1 (.int (lo + j)) (wipe σ2 vs1) H fun σ3 H5 => wipe σ3 vs1 = wipe σ2 vs1 ∧ tk σ3 H5 fun y H6 => tv σ3 H6 fun z H7 => ∃ kvs k, y = kV k ∧ H7 D = some (.dK kvs) ∧ kvs.length < sizeLine ∧ Rv (j + 1) (upd H7 D (.dK (putK kvs k z))))
    (hd : ∀ H, Rv n H → Nx H) :
    ∃ W1 : Nat → Nat → Hp → Prop, (∃ m, W1 0 m H4) ∧ ∀ j k H, W1 j k H →
      ((Itr lo n).stop j H ∧ Nx H) ∨ ((Itr lo n).go j H ∧ ∃ Nx1 : Hp → Prop, (∀ H', Nx1 H' → ∃ k', k' < k ∧ W1 (j + 1) k' H') ∧ ∀ x H', (Itr lo n).yld j H x H' → g1 x (wipe σ2 vs1) H' fun σ3 H5 => wipe σ3 vs1 = wipe σ2 vs1 ∧
        tk σ3 H5 fun y H6 => tv σ3 H6 fun z H7 => ∃ kvs k, y = kV k ∧ H7 D = some (.dK kvs) ∧ kvs.length < sizeLine ∧ Nx1 (upd H7 D (.dK (putK kvs k z)))) := by
  refine ⟨fun j m H => j + m = n ∧ Rv j H, ⟨n, Nat.zero_add _, h0⟩, fun j m H ⟨e, p⟩ => ?_⟩
  cases m with
  | zero =>
    obtain rfl : j = n := by omega
    exact .inl ⟨Nat.le_refl _, hd H p⟩
  | succ m =>
    have hlt : j < n := by omega
    refine .inr ⟨hlt, Rv (j + 1), fun H' p' => ⟨m, by omega, by omega, p'⟩, fun x H' y => ?_⟩
    obtain ⟨rfl, rfl⟩ := y
    exact hs j H' hlt p
end SC
namespace SC
open PySem PySem.Spec PyProof.Rows L2 StrLaws RT
/-! ## a spread below 1: one stage alone divides beneath each -/
/-- what is asked of a stage -/
def Lw (n _c : Int) (ps : List (Int × Th)) : Prop := 1 ≤ n ∧ ∀ p ∈ ps, p.1 ≠ 0
structure SnP (t : Th) : Prop where
  p : 0 < t.pr
  s : 0 ≤ t.sn
  one : t.sn = 0 → One t
  half : 0 < t.sn → t.pr ≤ 2 * t.sn
structure SnL (ps : List (Int × Th)) : Prop where
  p : 0 < prL ps
  s : 0 ≤ snL ps
  one : snL ps = 0 → ∀ p ∈ ps, One p.2
  half : 0 < snL ps → prL ps ≤ 2 * snL ps
theorem snP_list : ∀ (ps : List (Int × Th)), (∀ p ∈ ps, p.1 ≠ 0 ∧ SnP p.2) → SnL ps
  | [], _ => ⟨by simp only [prL]; omega, by simp only [snL]; omega, fun _ p hp => (by cases hp), fun h => by simp only [snL] at h; omega⟩
  | (w, t) :: r, h => by
    obtain ⟨w0, ht⟩ := h _ (List.mem_cons_self ..)
    have ht : SnP t := ht
    have ih := snP_list r fun p hp => h p (List.mem_cons_of_mem _ hp)
    have p1 : 0 < t.pr := ht.p
    have s1 : 0 ≤ t.sn := ht.s
    have p2 := ih.p
    have s2 := ih.s
    have w1 : (1 : Int) ≤ (w.natAbs : Int) := by have : w ≠ 0 := w0; omega
    have hP : 0 < t.pr * prL r := Int.mul_pos p1 p2
    have hA : 0 ≤ (w.natAbs : Int) * t.sn * prL r := Int.mul_nonneg (Int.mul_nonneg (by omega) s1) (Int.le_of_lt p2)
    have hB : 0 ≤ t.pr * snL r := Int.mul_nonneg (Int.le_of_lt p1) s2
    refine ⟨by simp only [prL]; exact hP, by simp only [snL]; omega, fun e => ?_, fun e => ?_⟩
    · simp only [snL] at e
      have e1 : t.sn = 0 := by
        rcases Int.lt_or_le 0 t.sn with z | z
        · have : 0 < (w.natAbs : Int) * t.sn * prL r := Int.mul_pos (Int.mul_pos (by omega) z) p2
          omega
        · omega
      have e2 : snL r = 0 := by
        rcases Int.lt_or_le 0 (snL r) with z | z
        · have : 0 < t.pr * snL r := Int.mul_pos p1 z
          omega
        · omega
      intro p hp
      rcases List.mem_cons.mp hp with y | y
      · rw [y]; exact ht.one e1
      · exact ih.one e2 p y
    · simp only [snL] at e ⊢
      simp only [prL]
      rcases Int.lt_or_le 0 t.sn with z | z
      · have h1 := ht.half z
        have h2 : t.sn * 1 ≤ t.sn * (w.natAbs : Int) := Int.mul_le_mul_of_nonneg_left w1 s1
        have h3 : t.pr * prL r ≤ (2 * ((w.natAbs : Int) * t.sn)) * prL r := Int.mul_le_mul_of_nonneg_right (by rw [Int.mul_comm ((w.natAbs : Int))]; omega) (Int.le_of_lt p2)
        have h4 : (2 * ((w.natAbs : Int) * t.sn)) * prL r = 2 * ((w.natAbs : Int) * t.sn * prL r) := by grind
        omega
      · have e1 : t.sn = 0 := by omega
        rw [e1] at e ⊢
        simp only [Int.mul_zero, Int.zero_mul, Int.zero_add] at e ⊢
        have z2 : 0 < snL r := by
          rcases Int.lt_or_le 0 (snL r) with z | z
          · exact z
          · have : t.pr * snL r ≤ 0 := Int.mul_nonpos_of_nonneg_of_nonpos (Int.le_of_lt p1) z
            omega
        have h1 := Int.mul_le_mul_of_nonneg_left (ih.half z2) (Int.le_of_lt p1)
        have h2 : t.pr * (2 * snL r) = 2 * (t.pr * snL r) := by grind
        omega
theorem snP_of : ∀ t : Th, t.each Lw → SnP t := Th.ind (fun i _ => ⟨by simp only [Th.pr]; omega, by simp only [Th.sn]; omega, fun _ => one_inp i, fun h => by simp only [Th.sn] at h; omega⟩) fun n c ps ih g => by
  simp only [Th.each] at g
  have L := snP_list ps fun p hp => ⟨g.1.2 p hp, ih p hp (eachL_iff.mp g.2 p hp)⟩
  have n1 := g.1.1
  have p := L.p
  have s := L.s
  have hA : 0 ≤ (n - 1) * prL ps := Int.mul_nonneg (by omega) (Int.le_of_lt p)
  refine ⟨by simp only [Th.pr]; exact Int.mul_pos (by omega) p, by simp only [Th.sn]; omega, fun e => ?_, fun e => ?_⟩
  · simp only [Th.sn] at e
    have e1 : n = 1 := by
      rcases Int.lt_or_le 1 n with z | z
      · have : 0 < (n - 1) * prL ps := Int.mul_pos (by omega) p
        omega
      · omega
    simp only [One, Th.each]
    exact ⟨e1, eachL_iff.mpr fun p hp => L.one (by omega) p hp⟩
  · simp only [Th.sn] at e ⊢
    simp only [Th.pr]
    rcases Int.lt_or_le 1 n with z | z
    · have h1 : n * prL ps ≤ (2 * (n - 1)) * prL ps := Int.mul_le_mul_of_nonneg_right (by omega) (Int.le_of_lt p)
      have h2 : (2 * (n - 1)) * prL ps = 2 * ((n - 1) * prL ps) := by grind
      omega
    · have e1 : n = 1 := by omega
      subst e1
      simp only [Int.sub_self, Int.zero_mul, Int.zero_add, Int.one_mul] at e ⊢
      exact L.half e
theorem spn_below : ∀ (ps : List (Int × Th)), (∀ p ∈ ps, p.1 ≠ 0 ∧ p.2.each Lw) → snL ps < prL ps → Spn ps ∧ ∀ p ∈ ps, p.2.sn < p.2.pr
  | [], _, _ => ⟨True.intro, fun p hp => (by cases hp)⟩
  | (w, t) :: r, h, hl => by
    obtain ⟨w0, gt⟩ := h _ (List.mem_cons_self ..)
    have w0 : w ≠ 0 := w0
    have gt : t.each Lw := gt
    have ht := snP_of t gt
    have hr := fun p hp => h p (List.mem_cons_of_mem _ hp)
    have L := snP_list r fun p hp => ⟨(hr p hp).1, snP_of _ (hr p hp).2⟩
    have p1 := ht.p
    have s1 := ht.s
    have p2 := L.p
    have s2 := L.s
    have w1 : (1 : Int) ≤ (w.natAbs : Int) := by omega
    simp only [snL, prL] at hl
    have hA : 0 ≤ (w.natAbs : Int) * t.sn * prL r := Int.mul_nonneg (Int.mul_nonneg (by omega) s1) (Int.le_of_lt p2)
    have hB : 0 ≤ t.pr * snL r := Int.mul_nonneg (Int.le_of_lt p1) s2
    have k1 : snL r < prL r := Int.lt_of_mul_lt_mul_left (a := t.pr) (by omega) (Int.le_of_lt p1)
    have k2 : (w.natAbs : Int) * t.sn < t.pr := Int.lt_of_mul_lt_mul_right (a := prL r) (by omega) (Int.le_of_lt p2)
    have k3 : t.sn * 1 ≤ t.sn * (w.natAbs : Int) := Int.mul_le_mul_of_nonneg_left w1 s1
    have k4 : t.sn < t.pr := by rw [Int.mul_comm] at k2; omega
    obtain ⟨i1, i2⟩ := spn_below r hr k1
    refine ⟨?_, fun p hp => ?_⟩
    · rcases Int.lt_or_le 0 t.sn with z | z
      · have hh := ht.half z
        have e1 : (w.natAbs : Int) = 1 := by
          rcases Int.lt_or_le 1 (w.natAbs : Int) with y | y
          · have : t.sn * 2 ≤ t.sn * (w.natAbs : Int) := Int.mul_le_mul_of_nonneg_left (by omega) s1
            rw [Int.mul_comm] at k2
            omega
          · omega
        refine .inr ⟨by omega, ?_⟩
        refine L.one ?_
        rcases Int.lt_or_le 0 (snL r) with y | y
        · exfalso
          have h2 := L.half y
          rw [e1, Int.one_mul] at hl
          have g1 : t.pr * prL r ≤ (2 * t.sn) * prL r := Int.mul_le_mul_of_nonneg_right hh (Int.le_of_lt p2)
          have g2 : t.pr * prL r ≤ t.pr * (2 * snL r) := Int.mul_le_mul_of_nonneg_left h2 (Int.le_of_lt p1)
          have g3 : (2 * t.sn) * prL r = 2 * (t.sn * prL r) := by grind
          have g4 : t.pr * (2 * snL r) = 2 * (t.pr * snL r) := by grind
          omega
        · omega
      · exact .inl ⟨ht.one (by omega), i1⟩
    · rcases List.mem_cons.mp hp with y | y
      · rw [y]; exact k4
      · exact i2 p y
theorem spl_below : ∀ t : Th, t.each Lw → t.sn < t.pr → t.each Spl := Th.ind (fun i _ _ => by simp only [Th.each]) fun n c ps ih g hl => by
  simp only [Th.each] at g ⊢
  simp only [Th.sn, Th.pr] at hl
  have e : (n - 1) * prL ps = n * prL ps - prL ps := by grind
  obtain ⟨h1, h2⟩ := spn_below ps (fun p hp => ⟨g.1.2 p hp, eachL_iff.mp g.2 p hp⟩) (by omega)
  exact ⟨⟨g.1.1, h1⟩, eachL_iff.mpr fun p hp => ih p hp (eachL_iff.mp g.2 p hp) (h2 p hp)⟩
/-- and then shares are 1, or -1, by the product of what divides ahead -/
theorem UR_spl : ∀ t : Th, t.each Spl → ∀ a b P : Int, (a.natAbs : Int) * P = b → UR P (t.sq a b) := by
  refine Th.ind (fun i _ a b P _ => by simp only [Th.sq, UR]) fun n c ps ih g a b P h => ?_
  simp only [Th.each] at g
  simp only [Th.sq, UR]
  refine ⟨fun _ => h, ?_⟩
  have key : ∀ (qs : List (Int × Th)), (∀ p ∈ qs, ∀ (a b P : Int), (a.natAbs : Int) * P = b → UR P (p.2.sq a b)) → Spn qs → UR (P * n) (sqL a (b * n) qs) := fun qs => by
    induction qs with
    | nil => intro _ _; simp only [sqL, UR]
    | cons p r ih2 =>
      obtain ⟨w, t⟩ := p
      intro hq hs
      simp only [sqL]
      have hb : (a.natAbs : Int) * (P * n) = b * n := by rw [← h]; grind
      rcases hs with ⟨h1, h2⟩ | ⟨h1, h2⟩
      · have e1 := one_sq h1 (a * w) (b * n)
        refine UR_app _ _ _ (UR_one _ _ e1) ?_
        rw [dvP_ones _ e1, Int.mul_one]
        exact ih2 (fun p hp => hq p (List.mem_cons_of_mem _ hp)) h2
      · refine UR_app _ _ _ (hq (w, t) (List.mem_cons_self ..) (a * w) (b * n) (P * n) ?_) (UR_one _ _ (sqL_ones a (b * n) h2))
        rw [Int.natAbs_mul, show w.natAbs = 1 by omega, Nat.mul_one]
        exact hb
  exact key ps (fun p hp a b P h => ih p hp (eachL_iff.mp g.2 p hp) a b P h) g.1.sp
/-- one rounding -/
theorem one_rounding {t : Th} (hf : t.fit) (g : t.each Lw) : t.spread.1 < t.spread.2 ↔ t.sn < t.pr := by
  rw [spread_sn hf]
  exact lst_lt1 (pr_pos t hf)
end SC
namespace SC
open PySem PySem.Spec PyProof.Rows L2 StrLaws RT
/-! ## an own error made with nothing: X() -/
section
variable {X : Cx} {C : Addr} {bmB : List Value} {B newId initId : String}
theorem pmk_own0 {x : Str} {p pos : Pos} (F : ExcBaseFacts B newId initId bmB) (q : PySem.W.excIn X.K C bmB newId = true) (gC : X.mg x = some (.ref C)) (kC : PySem.W.keepIn X.K (.ref C) = true) (r : Raises X (.ref C)) (hg : Gl X x)
    (hdb : (x == ("__debug__" : Str)) = false := by decide) : PMk X (.Call (.Name x p) [] [] pos) (fun _ H Q => Q (.ref C) none H) := by
  intro pins s σ H Q I h
  refine wpAny_Call_Name_kw (ld_glob I hg gC ?_ hdb)
  refine PySem.W.callWith_K0 I.kIn kC ?_
  show wpAny _ _ (call (.ref C) []) _ _ _
  obtain ⟨bm, N, nm, qn, bs, hdct, sn, sub, ab, col, dd, k0, k1, k2, k3, k5, mN, hC, hN, hni, T⟩ := exc_obj I.kIn q
  refine wpAny_call_exc_subT F T hC hN hni (fun h' e hm => ?_) (by show 0 ≤ sizeLine; omega)
  exact mk_of I hm r h (I.hok.gone hm.new)
end
end SC
namespace SC
open PySem PySem.Spec PyProof.Rows L2 StrLaws RT
/-! ## Unfit: what the text says of it; raised, caught, asked -/
structure UnT (K : PySem.W.Frag) (mg : Str → Option Value) (C B : Addr) : Prop where
  gC : mg "Unfit" = some (.ref C)
  gB : mg "CutsError" = some (.ref B)
  xC : PySem.W.excIn K C [.type "ValueError", .type "Exception", .type "BaseException", .type "object"] "ValueError.__new__" = true
  kC : PySem.W.keepIn K (.ref C) = true
  tC : PySem.W.typeIn K (.ref C) = some (.type "type")
  sC : PySem.W.subIn K (.ref C) (.ref C) = some true
  ec : ExcC K C
  kit : PySem.W.kitOne K (.ref C) (.ref B) = some true
theorem UnT.eP {K : PySem.W.Frag} {mg : Str → Option Value} {C B : Addr} (T : UnT K mg C B) : PySem.W.exmOne K (.ref C) (.ref C) = some true := PySem.W.exm_ref T.ec.hs T.ec.hd T.tC T.sC
theorem ps_unfit {X : Cx} {W : WX} {C B : Addr} {p p2 pos : Pos} (T : UnT X.K X.mg C B) (hc : X.calm = true) (tk : Takes X W) (hg : Gl X "Unfit" := by rfl) :
    PS X (.Raise (some (.Call (.Name "Unfit" p) [] [] p2)) none pos) (fun _ σ H => W (.ref C) none σ H) :=
  ps_raise hc tk (pmk_own0 PySem.F.excBase_ValueError T.xC T.gC T.kC (raises_own T.ec.hs T.tC) hg)
def rIsU (K : PySem.W.Frag) (C a : Addr) (cls : Value) (d : Option Addr) : List V → Hp → VK → Prop := fun xs H Q => cls = .ref C ∧ d = none ∧ rIsE K C a xs H Q
theorem call_isU {X : Cx} {a C B : Addr} {oe : Obj} {cls : Value} {d : Option Addr} {pn : List (Addr × Obj)} (T : UnT X.K X.mg C B) (hz : Zc cls d oe) (hf : ∃ vs, oe.data = .fields vs) : CallR (X.suite a ((a, oe) :: pn)) (.builtin "isinstance") (rIsU X.K C a cls d) := by
  intro pins s σ H xs us Q I r h
  obtain ⟨rfl, rfl, h⟩ := h
  exact call_isE T.ec hz hf pins s σ H xs us Q I r h
theorem rIsU_it {K : PySem.W.Frag} {mg : Str → Option Value} {C B a : Addr} {H : Hp} {Q : VK} (T : UnT K mg C B) (q : Q (.bl true) H) : rIsU K C a (.ref C) none [.ref a, .ref B] H Q :=
  ⟨rfl, rfl, _, _, _, rfl, fun _ h => h, T.kit, q⟩
section
variable {X : Cx} {k : Nat} {f : Addr} {fd : FuncData} {ps ks : List Str} {sp : Sp} {E : L2.St → XK} {x : Str} {p pos : Pos} {kws : List Keyword} {tk : TA} {g : List Value → List Value → List Value} {gV : List V → List V → List V} {CX : CXT}
def tCallKS (sp : Sp) (gV : List V → List V → List V) (E : L2.St → XK) (tk : TA) : TE := fun σ H Q => tk σ H fun zs H1 => sp (gV [] zs) H1 Q (E σ)
/-- f(k = v, ..) that may raise -/
theorem pe_kwS (F : FnOk X.prog X.w X.K X.mg X.base CX k f fd ps sp) (hr : Room k X.A) (hg : Gl X x) (hm : X.mg x = some (.ref f)) (hk : PySem.W.keepIn X.K (.ref f) = true)
    (hb : KBinds X.K fd ps ks g gV) (hx : ∀ σ, PassesAt CX X σ (E σ)) (hkw : PK X kws tk)
    (hall : (backToKw pos (keywordEach kws X.env)).all (·.1.isSome) = true := by rfl)
    (hks : (backToKw pos (keywordEach kws X.env)).filterMap (·.1) = ks := by rfl)
    (hdb : (x == ("__debug__" : Str)) = false := by decide)
    (hpl : (backToKw pos (keywordEach kws X.env)).any (·.1.isNone) = false := by rfl) :
    PE X (.Call (.Name x p) [] kws pos) (tCallKS sp gV E tk) := by
  refine ⟨fun pins s σ H Q I h => wpAny_Call_Name_kw (ld_glob I hg hm ?_ hdb)⟩
  refine PySem.W.callWith_KW0 (h₀ := X.base) I.ok.mod.kin hk hall ?_ hpl
  refine thn (hkw.run pos pins s σ H _ I h) fun ws s2 ⟨zs, H2, I2, rz, q2⟩ => ⟨I2.kIn, ?_⟩
  rw [hks]
  have hl : (g [] ws).length = ps.length := by rw [← (hb.rel .nil rz).length]; exact F.len _ _ _ _ q2
  refine wpAny_call (codeAny_mono (F.run X.A X.stack s2 H2 ⟨[], ks.zip ws⟩ (g [] ws) (gV [] zs) Q (E σ) hr I2.env0 (hb.to s2 [] ws I2.kIn hl) (hb.rel .nil rz) q2) fun r s' hq => ?_)
  cases r with
  | error e => exact hx σ pins H2 s2 e s' I2 hq
  | ok fl =>
    cases fl with
    | ret u => exact I2.after hq
    | next => exact False.elim hq
    | brk => exact False.elim hq
    | cont => exact False.elim hq
theorem g_callS {sp : Sp} {E : L2.St → XK} {t : TA} {σ : L2.St} {H : Hp} {Q : VK} (q : t σ H fun vs H1 => sp vs H1 Q (E σ)) : tCallS sp E t σ H Q := q
theorem g_callKS {sp : Sp} {gV : List V → List V → List V} {E : L2.St → XK} {tk : TA} {σ : L2.St} {H : Hp} {Q : VK} (q : tk σ H fun zs H1 => sp (gV [] zs) H1 Q (E σ)) : tCallKS sp gV E tk σ H Q := q
end
end SC
namespace SC
open PySem PySem.Spec PyProof.Rows L2 StrLaws RT
/-! ### the error by the rests -/
mutual
theorem pr_ex (r : List Int) : ∀ t : Th, (t.ex r).2 = t.pr
  | .inp _ => by simp only [Th.ex, Th.pr]
  | .st n c ps => by simp only [Th.ex, Th.pr, prL_ex r ps, Int.mul_comm]
theorem prL_ex (r : List Int) : ∀ ps : List (Int × Th), (exL r ps).2 = prL ps
  | [] => by simp only [exL, prL]
  | (w, t) :: q => by simp only [exL, prL, pr_ex r t, prL_ex r q]
end
theorem slipS_app (W : Int) : ∀ (ps qs : List Q4) (xs ys : List Int), ps.length = xs.length → slipS W (ps ++ qs) (xs ++ ys) = slipS W ps xs + slipS W qs ys
  | [], qs, [], ys, _ => by simp [slipS]
  | p :: ps, qs, x :: xs, ys, h => by
    simp only [List.cons_append, slipS, slipS_app W ps qs xs ys (by simpa using h)]
    omega
  | [], _, _ :: _, _, h => by simp at h
  | _ :: _, _, [], _, h => by simp at h
mutual
theorem slip_byS (W : Int) (r : List Int) : ∀ (t : Th) (a b : Int), slipS W (t.sq a b) (t.rests r) = byS W t.stL (t.sh a b) (t.rests r)
  | .inp _, _, _ => by simp only [Th.sq, Th.rests, Th.stL, Th.sh, slipS, byS]
  | .st n c ps, a, b => by
    simp only [Th.sq, Th.rests, Th.stL, Th.sh, slipS, byS, bring, slip_byL W r ps a (b * n)]
theorem slip_byL (W : Int) (r : List Int) : ∀ (ps : List (Int × Th)) (a b : Int), slipS W (sqL a b ps) (restsL r ps) = byS W (stLL ps) (shL a b ps) (restsL r ps)
  | [], _, _ => by simp only [sqL, restsL, stLL, shL, slipS, byS]
  | (w, t) :: q, a, b => by
    simp only [sqL, restsL, stLL, shL]
    rw [slipS_app W _ _ _ _ (by rw [sq_len, rests_len]), byS_app W _ _ _ _ _ _ (by rw [stL_len, sh_len]) (by rw [stL_len, rests_len]), slip_byS W r t (a * w) b, slip_byL W r q a b]
end
theorem ro_app {ps qs : List Q4} {xs ys : List Int} (h1 : RestsOk ps xs) (h2 : RestsOk qs ys) : RestsOk (ps ++ qs) (xs ++ ys) := ⟨by rw [List.length_append, List.length_append, h1.1, h2.1], fun z hz => by
  rw [List.zip_append h1.1] at hz
  rcases List.mem_append.mp hz with h | h
  · exact h1.2 z h
  · exact h2.2 z h⟩
mutual
theorem rests_ro (r : List Int) : ∀ (t : Th) (a b : Int), t.good → RestsOk (t.sq a b) (t.rests r)
  | .inp _, _, _, _ => by simp only [Th.sq, Th.rests]; exact ⟨rfl, fun z hz => by cases hz⟩
  | .st n c ps, a, b, g => by
    simp only [Th.good] at g
    have h := restsL_ro r ps a (b * n) g.2
    have n1 := g.1.n1
    simp only [Th.sq, Th.rests]
    refine ⟨by rw [List.length_cons, List.length_cons, h.1], fun z hz => ?_⟩
    rw [List.zip_cons_cons] at hz
    rcases List.mem_cons.mp hz with e | hz
    · rw [e]
      exact ⟨Int.emod_nonneg _ (by omega), Int.emod_lt_of_pos _ (by omega)⟩
    · exact h.2 z hz
theorem restsL_ro (r : List Int) : ∀ (ps : List (Int × Th)) (a b : Int), goodL ps → RestsOk (sqL a b ps) (restsL r ps)
  | [], _, _, _ => by simp only [sqL, restsL]; exact ⟨rfl, fun z hz => by cases hz⟩
  | (w, t) :: q, a, b, g => by
    simp only [goodL] at g
    simp only [sqL, restsL]
    exact ro_app (rests_ro r t _ _ g.1) (restsL_ro r q a b g.2)
end
theorem cdiv9 {i j : Int} {k : Nat} (h0 : 0 < j) (h : j.natAbs ≤ 2 ^ k) (hk : k ≤ 8000) : CDivW i j := by
  refine ⟨h0, ?_⟩
  have h3 : j.natAbs < 2 ^ 8001 := Nat.lt_of_le_of_lt h (Nat.pow_lt_pow_right (by decide) (by omega))
  have h4 : j.natAbs.log2 < 8001 := (Nat.log2_lt (by omega)).mpr h3
  omega
theorem lt_lst {x y a b : Int} (hb : 0 < b) : x * (lst a b).2 < (lst a b).1 * y ↔ x * b < a * y := by
  have h := lst_cross a b
  have h1 := lst_pos (a := a) hb
  rw [← Int.mul_lt_mul_right hb, show (lst a b).1 * y * b = (lst a b).1 * b * y by ac_rfl, h, show x * (lst a b).2 * b = x * b * (lst a b).2 by ac_rfl, show a * (lst a b).2 * y = a * y * (lst a b).2 by ac_rfl]
  exact Int.mul_lt_mul_right h1
theorem div_lst {a b : Int} (hb : 0 < b) : (lst a b).1 / (lst a b).2 = a / b := by
  have e1 := lst_1 a b
  have e2 := lst_2 a b
  have h := gcdN_pos (a := a) hb
  have h2 : (0 : Int) < (gcdN a b : Int) := by omega
  have h3 := Int.mul_ediv_mul_of_pos_left (lst a b).1 (lst a b).2 h2
  rw [e1, e2] at h3
  exact h3.symm
/-! ## offsets set in -/
mutual
def Th.so : Th → List Int → Th
  | .inp i, _ => .inp i
  | .st n _ ps, os => .st n (os.headD 0) (soL ps (os.drop 1))
def soL : List (Int × Th) → List Int → List (Int × Th)
  | [], _ => []
  | (w, t) :: r, os => (w, t.so os) :: soL r (os.drop t.nSt)
end
theorem soL_snoc {w : Int} {t : Th} : ∀ {ps : List (Int × Th)} {os : List Int}, soL (ps ++ [(w, t)]) os = soL ps os ++ [(w, t.so (os.drop (nStL ps)))]
  | [], os => by simp only [List.nil_append, soL, nStL, List.drop_zero]
  | (x, v) :: r, os => by
    simp only [List.cons_append, soL, soL_snoc (ps := r), nStL, List.drop_drop]
theorem soL_len : ∀ (ps : List (Int × Th)) (os : List Int), (soL ps os).length = ps.length
  | [], _ => rfl
  | (w, t) :: r, os => by simp only [soL, List.length_cons, soL_len r]
theorem soL_ws : ∀ (ps : List (Int × Th)) (os : List Int), (soL ps os).map (·.1) = ps.map (·.1)
  | [], _ => rfl
  | (w, t) :: r, os => by simp only [soL, List.map_cons, soL_ws r]
def puto (l : List Q4) (os : List Int) : List Q4 := List.zipWith (fun p o => (p.1, p.2.1, p.2.2.1, o)) l os
theorem puto_app : ∀ (a b : List Q4) (os : List Int), a.length ≤ os.length → puto (a ++ b) os = puto a os ++ puto b (os.drop a.length)
  | [], b, os, _ => rfl
  | p :: a, b, o :: os, h => by
    have ih := puto_app a b os (by simpa using h)
    unfold puto at ih ⊢
    simp only [List.cons_append, List.zipWith_cons_cons, List.length_cons, List.drop_succ_cons, ih]
  | _ :: _, _, [], h => by simp at h
mutual
theorem so_sq : ∀ (t : Th) (os : List Int) (a b : Int), t.nSt ≤ os.length → (t.so os).sq a b = puto (t.sq a b) os
  | .inp i, os, a, b, _ => rfl
  | .st n c ps, os, a, b, h => by
    simp only [Th.nSt] at h
    cases os with
    | nil => simp at h
    | cons o r =>
      simp only [Th.so, Th.sq, List.headD_cons, List.drop_succ_cons, List.drop_zero, puto, List.zipWith_cons_cons]
      rw [soL_sq ps r a (b * n) (by simp only [List.length_cons] at h; omega)]
      rfl
theorem soL_sq : ∀ (ps : List (Int × Th)) (os : List Int) (a b : Int), nStL ps ≤ os.length → sqL a b (soL ps os) = puto (sqL a b ps) os
  | [], os, a, b, _ => rfl
  | (w, t) :: r, os, a, b, h => by
    simp only [nStL] at h
    simp only [soL, sqL]
    rw [so_sq t os (a * w) b (by omega), soL_sq r (os.drop t.nSt) a b (by rw [List.length_drop]; omega), puto_app _ _ _ (by rw [sq_len]; omega), sq_len]
end
mutual
theorem so_ex (r : List Int) : ∀ (t : Th) (os : List Int), (t.so os).ex r = t.ex r
  | .inp i, _ => rfl
  | .st n c ps, os => by simp only [Th.so, Th.ex, soL_ex r ps]
theorem soL_ex (r : List Int) : ∀ (ps : List (Int × Th)) (os : List Int), exL r (soL ps os) = exL r ps
  | [], _ => rfl
  | (w, t) :: q, os => by simp only [soL, exL, so_ex r t, soL_ex r q]
end
mutual
theorem so_full : ∀ (t : Th) (os : List Int), (t.so os).full = t.full
  | .inp i, _ => rfl
  | .st n c ps, os => by
    simp only [Th.so, Th.full, soL_full ps]
    cases ps with
    | nil => rfl
    | cons p q => obtain ⟨w, t⟩ := p; rfl
theorem soL_full : ∀ (ps : List (Int × Th)) (os : List Int), fullL (soL ps os) = fullL ps
  | [], _ => rfl
  | (w, t) :: q, os => by simp only [soL, fullL, so_full t, soL_full q]
end
mutual
theorem so_ins : ∀ (t : Th) (os : List Int), (t.so os).ins = t.ins
  | .inp i, _ => rfl
  | .st n c ps, os => by simp only [Th.so, Th.ins, soL_ins ps]
theorem soL_ins : ∀ (ps : List (Int × Th)) (os : List Int), insL (soL ps os) = insL ps
  | [], _ => rfl
  | (w, t) :: q, os => by simp only [soL, insL, so_ins t, soL_ins q]
end
structure OfL (l : List Q4) (os : List Int) : Prop where
  len : l.length ≤ os.length
  ok : ∀ (j : Nat) (o : Int) (p : Q4), os[j]? = some o → l[j]? = some p → 0 ≤ o ∧ o < p.2.2.1
theorem OfL.left {a b : List Q4} {os : List Int} (h : OfL (a ++ b) os) : OfL a os :=
  ⟨by have := h.len; rw [List.length_append] at this; omega, fun j o p h1 h2 => h.ok j o p h1 (by rw [List.getElem?_append_left (List.getElem?_eq_some_iff.mp h2).1]; exact h2)⟩
theorem OfL.right {a b : List Q4} {os : List Int} (h : OfL (a ++ b) os) : OfL b (os.drop a.length) :=
  ⟨by have := h.len; rw [List.length_append] at this; rw [List.length_drop]; omega, fun j o p h1 h2 => h.ok (a.length + j) o p (by rw [List.getElem?_drop] at h1; exact h1) (by rw [List.getElem?_append_right (by omega), show a.length + j - a.length = j by omega]; exact h2)⟩
theorem OfL.cons {p : Q4} {b : List Q4} {os : List Int} (h : OfL (p :: b) os) : ∃ o r, os = o :: r ∧ 0 ≤ o ∧ o < p.2.2.1 ∧ OfL b r := by
  cases os with
  | nil => have := h.len; simp at this
  | cons o r =>
    obtain ⟨h1, h2⟩ := h.ok 0 o p rfl rfl
    exact ⟨o, r, rfl, h1, h2, by have := h.len; simpa using this, fun j x q h3 h4 => h.ok (j + 1) x q (by simpa using h3) (by simpa using h4)⟩
mutual
theorem so_good : ∀ (t : Th) (os : List Int) (a b : Int), t.good → OfL (t.sq a b) os → (t.so os).good ∧ SmC t (t.so os)
  | .inp i, _, _, _, _, _ => ⟨by simp only [Th.so, Th.good], by simp only [Th.so, SmC]⟩
  | .st n c ps, os, a, b, g, h => by
    simp only [Th.good] at g
    simp only [Th.sq] at h
    obtain ⟨o, r, rfl, o0, o1, h2⟩ := h.cons
    obtain ⟨k1, k2⟩ := soL_good ps r a (b * n) g.2 h2
    simp only [Th.so, Th.good, List.headD_cons, List.drop_succ_cons, List.drop_zero, soL_ws]
    exact ⟨⟨⟨g.1.n1, g.1.n2, o0, o1, g.1.ws⟩, k1⟩, o, _, rfl, o0, o1, k2⟩
theorem soL_good : ∀ (ps : List (Int × Th)) (os : List Int) (a b : Int), goodL ps → OfL (sqL a b ps) os → goodL (soL ps os) ∧ SmL ps (soL ps os)
  | [], _, _, _, _, _ => ⟨by simp only [soL, goodL], by simp only [soL, SmL]⟩
  | (w, t) :: q, os, a, b, g, h => by
    simp only [goodL] at g
    simp only [sqL] at h
    have h2 := h.right
    rw [sq_len] at h2
    obtain ⟨k1, k2⟩ := so_good t os (a * w) b g.1 h.left
    obtain ⟨k3, k4⟩ := soL_good q (os.drop t.nSt) a b g.2 h2
    simp only [soL, goodL]
    exact ⟨⟨k1, k3⟩, _, _, rfl, k2, k4⟩
end
theorem hi_end {W : Int} (hW : 0 < W) : ∀ (l : List Q4) (os : List Int), (∀ p ∈ l, 1 ≤ p.2.2.1 ∧ 0 < p.2.1) →
    slipS W (puto l os) ((puto l os).map (endR true)) = hiS W l os ∧ slipS W (puto l os) ((puto l os).map (endR false)) = loS W l os
  | [], os, _ => by simp [puto, slipS, hiS, loS]
  | p :: l, [], _ => by simp [puto, slipS, hiS, loS]
  | p :: l, o :: os, h => by
    obtain ⟨ih1, ih2⟩ := hi_end hW l os fun q hq => h q (List.mem_cons_of_mem _ hq)
    obtain ⟨n1, b1⟩ := h p (List.mem_cons_self ..)
    unfold puto at ih1 ih2 ⊢
    simp only [List.zipWith_cons_cons, List.map_cons, slipS, hiS, loS, ih1, ih2]
    have k : 0 ≤ W / (p.2.1 * p.2.2.1) := Int.ediv_nonneg (by omega) (Int.le_of_lt (Int.mul_pos b1 (by omega)))
    unfold stp
    generalize W / (p.2.1 * p.2.2.1) = d at k
    have e1 : ∀ r : Int, p.1 * (o - r) * d = p.1 * d * (o - r) := fun r => by grind
    have e2 : o - p.2.2.1 + 1 = o - (p.2.2.1 - 1) := by omega
    unfold endR
    simp only
    rw [e2]
    by_cases hp : p.1 > 0
    · rw [decide_eq_true hp, if_pos rfl, if_neg (by decide), e1, e1, Int.sub_zero]
      have s0 : 0 ≤ p.1 * d := Int.mul_nonneg (by omega) k
      have := Int.mul_le_mul_of_nonneg_left (show o - (p.2.2.1 - 1) ≤ o by omega) s0
      omega
    · rw [decide_eq_false hp, if_neg (by decide), if_pos rfl, e1, e1, Int.sub_zero]
      have s0 : p.1 * d ≤ 0 := Int.mul_nonpos_of_nonpos_of_nonneg (by omega) k
      have := Int.mul_le_mul_of_nonpos_left s0 (show o - (p.2.2.1 - 1) ≤ o by omega)
      omega
/-- with offsets whose ends lie around a fraction, the stages tell the exact value and the fraction, rounded down -/
theorem told_floor {t : Th} (g : t.good) {os : List Int} (ofs : OfL (t.sq 1 1) os) (r : List Int) {x y : Int} (hy : 0 < y)
    (h1 : hiS t.pr (t.sq 1 1) os * y ≤ x * t.pr) (h2 : x * t.pr < (loS t.pr (t.sq 1 1) os + t.pr) * y) : ((t.ex r).1 * y + x * t.pr) / (t.pr * y) = (t.so os).tell r := by
  obtain ⟨gu, sm⟩ := so_good t os 1 1 g ofs
  have ft := fit_good t g
  have hp := pr_pos t ft
  have fu := fit_good _ gu
  have eu : (t.so os).pr = t.pr := (smC_f _ _ sm).pr
  have qok : ∀ p ∈ (t.so os).sq 1 1, Q4Ok p t.pr := by
    have := sq_ok (t.so os) 1 1 fu (by decide)
    rw [Int.one_mul, eu] at this
    exact this
  have tok : ∀ p ∈ t.sq 1 1, Q4Ok p t.pr := by
    have := sq_ok t 1 1 ft (by decide)
    rw [Int.one_mul] at this
    exact this
  have hs : slipS t.pr ((t.so os).sq 1 1) ((t.so os).rests r) = (t.so os).er r := by
    have := slip_byS (t.so os).pr r (t.so os) 1 1
    rw [← eu, this, ← pr_ex r (t.so os), byS_all gu]
  obtain ⟨b1, b2⟩ := ends_le hp qok (rests_ro r (t.so os) 1 1 gu)
  have hl := ofs.len
  rw [sq_len] at hl
  obtain ⟨c1, c2⟩ := hi_end hp (t.sq 1 1) os fun p hp => ⟨(tok p hp).n1, (tok p hp).low⟩
  rw [hs] at b1 b2
  rw [so_sq t os 1 1 hl] at b1 b2
  rw [c1] at b2
  rw [c2] at b1
  have e3 : (t.so os).er r = (t.so os).tell r * t.pr - (t.ex r).1 := by
    unfold Th.er
    rw [so_ex, pr_ex]
  rw [e3] at b1 b2
  generalize (t.so os).tell r = k at *
  generalize (t.ex r).1 = X at *
  generalize hiS t.pr (t.sq 1 1) os = HI at *
  generalize loS t.pr (t.sq 1 1) os = LO at *
  generalize t.pr = N at *
  have m1 := Int.mul_le_mul_of_nonneg_right b2 (Int.le_of_lt hy)
  have m2 := Int.mul_le_mul_of_nonneg_right b1 (Int.le_of_lt hy)
  refine ediv_is (Int.mul_pos hp hy) ?_ ?_
  · have : (k * N - X) * y = k * (N * y) - X * y := by grind
    omega
  · have e4 : (k * N - X) * y = k * (N * y) - X * y := by grind
    have e5 : (LO + N) * y = LO * y + N * y := by grind
    have e6 : (k + 1) * (N * y) = k * (N * y) + N * y := by grind
    omega
end SC
/-! ## TooMany: an own error under an own one, whose __init__ says super().__init__(text) and keeps a field -/
namespace SC
namespace TmX
open PySem PySem.W PySem.Calls PyProof.Rows PySem.HandSPX
def iA (p1 p2 : Pos) : Arguments := { posonlyargs := [], args := [{ arg := "self", annotation := none, pos := p1 }, { arg := "limit", annotation := none, pos := p2 }], vararg := none, kwonlyargs := [], kw_defaults := [], kwarg := none, defaults := [] }
def iB (m : Str) (j : Nat) (q1 q2 q3 q4 q5 q6 q7 q8 q9 q10 : Pos) : List Stmt :=
  [.Expr (.Call (.Attribute (.Call (.Name "super" q1) [] [] q2) "__init__" q3) [.Constant (.str m) j q4] [] q5) q6, .Assign [.Attribute (.Name "self" q7) "limit" q8] (.Name "limit" q9) q10]
def iS : Scope := { kind := .function, names := [(PySem.Str.ofString "self", .local), (PySem.Str.ofString "limit", .local), (PySem.Str.ofString "__class__", .free), (PySem.Str.ofString "super", .globalImplicit)], isGenerator := false, isCoroutine := false, more := [] }
/-- the text stands in the main file, which has no name super -/
structure PF (P : Program) (fl : Str) : Prop where
  file : ((P.main.file : Str) == fl) = true
  top : (P.main.scope.names.lookup ("super" : Str)).isSome = false
/-- what the written part says of TooMany, at C, and of its __init__, at fI -/
structure TmTxt (K : Frag) (mg : Str → Option Value) (C B fI cc cda : Addr) (fl : Str) : Prop where
  gC : mg "TooMany" = some (.ref C)
  gB : mg "CutsError" = some (.ref B)
  gS : mg "super" = none
  cls : ∃ nm q N bs bm sn sub ab col dd k0 k1 k2 k3 k5, K.lookup C = some (excClassObj nm q C N bs bm true sn sub ab col dd k0 k1 k2 k3 k5 "ValueError.__new__") ∧ refsVE bm = true
  sa : findIn K (.ref C) "__setattr__" = some (some (.builtin "object.__setattr__"))
  noN : findIn K (.ref C) "limit" = some none
  iC : findIn K (.ref C) "__init__" = some (some (.ref fI))
  tC : typeIn K (.ref fI) = some (.type "function")
  kC : keepIn K (.ref C) = true
  tyC : typeIn K (.ref C) = some (.type "type")
  ec : L2.ExcC K C
  sC : subIn K (.ref C) (.ref C) = some true
  mC : mroIn K C (.ref C) = some true
  kit : kitOne K (.ref C) (.ref B) = some true
  vC : subIn K (.ref C) (.type "ValueError") = some true
  opq : nsIn K cStatics "thirdparty.any" = some none
  sup : ks_superIn K C C "__init__" = some (some (.builtin "ValueError.__init__"))
  cell : ∃ cl cld csl, K.lookup cc = some ⟨cl, cld, .cell (some (.ref C)), csl⟩
  code : ∃ ccl cdd vs ccs tf, K.lookup cda = some ⟨ccl, cdd, .fields vs, ccs⟩ ∧ vs[2]? = some (.str fl tf)
  fn : ∃ (oc : Value) (od : Option Addr) (doc pm : Value) (an : Option Addr) (ct : Value) (osl : Array (Option Value)) (m : Str) (j : Nat) (p1 p2 q1 q2 q3 q4 q5 q6 q7 q8 q9 q10 : Pos),
    K.lookup fI = some ⟨oc, od, .func (ksFn "__init__" "TooMany.__init__" (iA p1 p2) (iB m j q1 q2 q3 q4 q5 q6 q7 q8 q9 q10) iS .none .none doc pm an (.ref cda) ct cc), osl⟩ ∧ codeIn K (.ref cda) "TooMany.__init__" = true ∧ (q3.endLine == q5.line) = true
theorem TmTxt.te {K : Frag} {mg : Str → Option Value} {C B fI cc cda : Addr} {fl : Str} (T : TmTxt K mg C B fI cc cda fl) : exmOne K (.ref C) (.ref C) = some true := exm_ref T.ec.hs T.ec.hd T.tyC T.sC
/-- what __init__ leaves of a fresh exception at x -/
structure InitEnd (h h' : Heap) (x C dx t1 : Addr) (v : Value) : Prop where
  keep : ∀ b o, b ≠ x → h.get? b = some o → h'.get? b = some o
  obj : h'.get? x = some { cls := .ref C, dict := some dx, data := .fields #[.ref t1, .none, .none, .none, .bool false, .none] }
  dbig : h.objs.size ≤ dx
  dne : dx ≠ x
  ns : h'.Ns1 dx (fun y => if y = "limit" then some v else none)
structure OwnMade (h h' : Heap) (e C d : Addr) (v : Value) : Prop where
  keep : ∀ b o, h.get? b = some o → h'.get? b = some o
  new : h.objs.size ≤ e
  obj : ∃ oe vs, h'.get? e = some oe ∧ oe.cls = .ref C ∧ oe.dict = some d ∧ oe.data = .fields vs ∧ vs[1]? = some .none
  dbig : h.objs.size ≤ d
  dne : d ≠ e
  ns : h'.Ns1 d (fun y => if y = "limit" then some v else none)
section
variable {prog : Program} {w : World} {A : Around} {E : Value → Shared → Prop} {h : Heap} {g : Array GenState} {d : Drawn} {t : Nat} {os : OsState}
variable {nm q : Str} {C N : Addr} {bs bm : List Value} {hdct : Bool} {sn : List Str} {sub : List Value} {ab : Bool} {col : Option Bool} {dd : Option Addr} {k0 k1 k2 k3 k5 : Option Value}
theorem call_bw {u e t0 : Addr} {rest : List Value} {Q : Value → Shared → Prop}
    (hC : h.get? C = some (excClassObj nm q C N bs bm hdct sn sub ab col dd k0 k1 k2 k3 k5 "ValueError.__new__")) (he : h.get? e = some (HandSPX.excO C t0)) (hu : h.get? u = some (kxs_mw "ValueError.__init__" e)) (hrest : rest.length ≤ sizeLine)
    (hq : ∀ h' t1, (∀ b o, b ≠ e → h.get? b = some o → h'.get? b = some o) → h'.get? e = some (HandSPX.excO C t1) → Q .none ⟨h', g, d, t, os⟩) :
    wpAny (model prog w) A (call (.ref u) rest) Q E ⟨h, g, d, t, os⟩ := by
  refine wpAny_call (codeAny_of_tree (show wpAny _ A.in1 (callAny (.ref u) ⟨rest, []⟩) _ _ _ from ?_))
  have wrapped : (Value.type "method-wrapper" == Value.type "method" || Value.type "method-wrapper" == Value.type "builtin_function_or_method" || Value.type "method-wrapper" == Value.type "method-wrapper") = true := by decide
  simp only [callAny]
  refine wpAny_bind (wpAny_load hu ?_)
  simp only [kxs_mw, wrapped, if_true]
  refine W.KFB.if_so (by decide) (wpAny_bind (check_bound_init F.excBase_ValueError.toExcCallFacts hC he rfl (wpAny_bind (wpAny_pure (wpAny_pure ⟨plainId_quiet F.excBase_ValueError.init.plain _, codeAny_builtin F.excBase_ValueError.initEntry ?_⟩)))))
  rw [Around.under_plainId F.excBase_ValueError.init.plain _]
  exact exc_init_tree (cls := .ref C) (t0 := t0) (dv := none) (c2 := .none) (c3 := .none) (b4 := .bool false) he hrest fun h' keep at_e _ => hq h' _ keep at_e
end
section
variable {prog : Program} {w : World} {A : Around} {E : Value → Shared → Prop} {R : Result → Shared → Prop} {s : Shared} {K : Frag} {mg : Str → Option Value} {C B fI cc cda : Addr} {fl : Str}
theorem ldL1 {M : Model} {env : Env} {m : Str → Option Value} {x : Str} {pos : Pos} {v : Value} {Q : Value → Shared → Prop} {E : Value → Shared → Prop} {A : Around} (hn : s.heap.Ns env.locals m) (hv : m x = some v) (q : Q v s) (hk : env.scope.kind = .function := by rfl) (hl : env.kindOf x = some .local := by rfl) (hd : (x == ("__debug__" : Str)) = false := by decide) :
    wpAny M A (eval (.Name x pos) env) Q E s := wpAny_Name (wpAny_loadName_local hk hl hn hv q) hd
theorem eval_one {o : Expr} {name m : Str} {j : Nat} {q apos pos : Pos} {env : Env} (hl : (apos.endLine == pos.line) = true) : eval (.Call (.Attribute o name apos) [.Constant (.str m) j q] [] pos) env = (do
    let ov ← attributeBase o name env (eval o env)
    standAt apos.atName
    let (f, first) ← holding [ov] (getMethod ov name (L2.plainOf o env))
    callWith pos f first (backTo pos (starEach [.Constant (.str m) j q] env)) []) :=
  have h := fun ov => L2.mcall_line (o := o) (m := name) (apos := apos) (pos := pos) (env := env) (ov := ov) (n := 1) (args := backTo pos (starEach [.Constant (.str m) j q] env)) (kws := []) rfl hl
  congrArg (fun f => attributeBase o name env (eval o env) >>= f) (funext fun ov => congrArg (fun g => standAt apos.atName >>= fun _ => g) (h ov))
theorem one_size (v : Value) : [v].length ≤ sizeLine := by
  rw [sizeLine_eq]
  exact (by decide : 1 ≤ 16777216)
def BltS (h : Heap) : Prop := ∃ mb, h.Ns builtinsNs mb ∧ mb "super" = some (.type "super")
theorem BltS.keeps {h h' : Heap} (b : BltS h) (k : ∀ b o, h.get? b = some o → h'.get? b = some o) : BltS h' := by
  obtain ⟨mb, n, e⟩ := b
  exact ⟨mb, n.keeps k, e⟩
theorem tm_init (T : TmTxt K mg C B fI cc cda fl) (pf : PF prog fl) {x t0 : Addr} {v : Value} (X : K.In s.heap) (hlim : s.heap.NoLimit) (G : s.heap.Ns mainGlobals mg) (Bl : BltS s.heap) (hx : s.heap.get? x = some (excO C t0)) (hnx : K.lookup x = none) (hroom : A.depth < recursionLimit)
    (hq : ∀ h' tk dx t1, InitEnd s.heap h' x C dx t1 v → R (.ok (.ret .none)) { s with heap := h', toks := tk }) :
    codeAny (model prog w) A (.call (.ref fI) ⟨[.ref x, v], []⟩) R s := by
  obtain ⟨oc, od, doc, pm, an, ct, osl, m, j, p1, p2, q1, q2, q3, q4, q5, q6, q7, q8, q9, q10, ho, hcd, hline⟩ := T.fn
  obtain ⟨nm, q, N, bs, bm, sn, sub, ab, col, dd, k0, k1, k2, k3, k5, hC, hbm⟩ := T.cls
  obtain ⟨cl, cld, csl, hcell⟩ := T.cell
  obtain ⟨ccl, cdd, vs, ccs, tf, hcode, hvs⟩ := T.code
  have hcl : clsIn K C = some { name := nm, bases := bs, mro := .ref C :: bm, ns := N, qualname := q, hasDict := true, slotNames := sn, subclasses := sub, abstract := ab, collection := col, hasDel := false } := by unfold clsIn; rw [hC] <;> rfl
  have hsup : alongIn K "__init__" (((Value.ref C :: bm).dropWhile (· != .ref C)).drop 1) = some (some (.builtin "ValueError.__init__")) := by
    have z := T.sup
    unfold ks_superIn at z
    rw [hcl, Option.bind_some] at z
    exact z
  have hxC : x ≠ C := fun z => by rw [z, hC] at hnx; cases hnx
  refine ks_codeAny_call_defAt (fd := ksFn "__init__" "TooMany.__init__" (iA p1 p2) (iB m j q1 q2 q3 q4 q5 q6 q7 q8 q9 q10) iS .none .none doc pm an (.ref cda) ct cc) (body := iB m j q1 q2 q3 q4 q5 q6 q7 q8 q9 q10)
    (binds := [("self", .ref x), ("limit", v)]) hroom (X _ _ ho) rfl hlim (codeRec_of X hcd) rfl (BindsTo.of_eq (by first | rfl | with_unfolding_all rfl)) (by show ∀ y ∈ iS.names, y.2 ≠ .cell; decide) (by intro y hy; simp only [List.mem_cons, List.not_mem_nil, or_false] at hy; rcases hy with rfl | rfl <;> rfl) (fun h₁ hns kk => ?_)
  have X₁ : K.In h₁ := X.keeps kk
  have hx₁ := kk _ _ hx
  have hL : s.heap.objs.size ≠ x := Nat.ne_of_gt (Heap.lt_size hx)
  have hLs : s.heap.objs.size < h₁.objs.size := hns.lt
  obtain ⟨hp, g, dr, tk, os⟩ := s
  refine ks_wpAt_execs_cons (ks_wpAt_Expr_any (ks_wpAt_MethodCall (pl := L2.plainOf (.Call (.Name "super" q1) [] [] q2) (callEnv (ksFn "__init__" "TooMany.__init__" (iA p1 p2) (iB m j q1 q2 q3 q4 q5 q6 q7 q8 q9 q10) iS .none .none doc pm an (.ref cda) ct cc) hp.objs.size fI)) ?_ (eval_one hline)))
  refine ks_wpAt_super_base (f := fI) (cc := cda) (ar := { arg := "self", annotation := none, pos := p1 }) rfl rfl (by decide) rfl (X₁ _ _ ho) rfl rfl rfl (X₁ _ _ hcode) rfl hvs pf.file pf.top ?_
  obtain ⟨mb, hb1, hb2⟩ := Bl.keeps kk
  refine ks_loadName_global rfl rfl (loadGlobal_builtin (mg := mg) (mb := mb) (G.keeps kk) T.gS hb1 hb2 ⟨rfl, ?_⟩)
  refine wpAny_loadName_free (c := cc) (v := .ref C) rfl rfl rfl ⟨_, X₁ _ _ hcell, rfl⟩ ?_
  refine wpAny_loadName_local (v := .ref x) rfl rfl hns (by first | rfl | with_unfolding_all rfl | kernel_rfl) ?_
  have hC₁ := X₁ _ _ hC
  refine ks_wpAny_isType_cls hC₁ rfl ⟨rfl, ?_⟩
  refine ks_wpAny_call_super hC₁ rfl hx₁ rfl (fun c e => by cases e) (looks_mroIn X₁ T.mC) (fun h₂ e₂ kk₂ => ?_)
  have X₂ : K.In h₂ := X₁.keeps kk₂
  have hx₂ := kk₂ _ _ hx₁
  have I₂ : InstAt h₂ x (excO C t0) C none := ⟨hx₂, rfl, rfl, trivial⟩
  refine kxs_getMethod kxs_ValueError e₂ (looks_opaque X₂ T.opq) (l₀ := .ref C :: bm) ((looks_clsIn X₂ hcl).andThen .now) rfl X₂ hsup (I₂.type.andThen (looks_subIn X₂ T.vC)) hxC (by decide) ?_
  have kk₃ : ∀ b o, h₂.get? b = some o → (h₂.push (kxs_mw "ValueError.__init__" x)).get? b = some o := fun b o e => Heap.get?_push_of_some _ e
  have hu : (h₂.push (kxs_mw "ValueError.__init__" x)).get? h₂.objs.size = some (kxs_mw "ValueError.__init__" x) := Heap.get?_push_at rfl rfl
  refine kxs_callWith (i := "ValueError.__init__") (x := x) rfl (evalArgs_plain (spliced_more (wpAny_Constant_str (spliced_none ⟨hu, ?_⟩))))
  refine call_bw (t0 := t0) (kk₃ _ _ (X₂ _ _ hC)) (kk₃ _ _ hx₂) hu (one_size _) (fun h₄ t1 kk₄ hx₄ => ?_)
  have kA : ∀ b o, b ≠ x → h₁.get? b = some o → h₄.get? b = some o := fun b o hb e => kk₄ b o hb (kk₃ _ _ (kk₂ _ _ e))
  have X₄ : K.In h₄ := fun a o e => kA a o (fun z => by rw [z, hnx] at e; cases e) (X₁ a o e)
  have hns₄ : h₄.Ns hp.objs.size (fun y => List.lookup y ([("self", .ref x), ("limit", v)] : List (Str × Value)).reverse) := by
    obtain ⟨oL, es, ep, e, r⟩ := hns
    exact ⟨oL, es, ep, kA _ _ hL e, r⟩
  show _root_.PySem.wpAt _ _ _ (execs _ _) _ _ _
  refine wpAt_of_wpAny (wpAny_execs_cons (plainObj_wpAny_Assign_Attribute ?_))
  refine ldL1 (v := v) hns₄ (by first | rfl | with_unfolding_all rfl | kernel_rfl) (ldL1 (v := .ref x) hns₄ (by first | rfl | with_unfolding_all rfl | kernel_rfl) ?_)
  refine set_plain X₄ (ox := excO C t1) (od := none) ⟨hx₄, rfl, rfl, trivial⟩ T.sa ?_
  refine exc_osa X₄ hx₄ hcl (show refsVE (.ref C :: bm) = true from hbm) rfl T.noN (fun h₅ tk₅ dx k₅ dn dne hx₅ hn₅ => ?_)
  show wpAny _ _ (execs _ _) _ _ _
  exact wpAny_execs_nil (hq h₅ tk₅ dx t1 ⟨fun b o hb e => k₅ b o hb (kA b o hb (kk b o e)), hx₅, Nat.le_of_lt (Nat.lt_of_lt_of_le hns₄.lt dn), dne, hn₅⟩)
theorem tm_made (T : TmTxt K mg C B fI cc cda fl) (pf : PF prog fl) {v : Value} (X : K.In s.heap) (hlim : s.heap.NoLimit) (G : s.heap.Ns mainGlobals mg) (Bl : BltS s.heap) (hroom : A.depth + 1 < recursionLimit)
    (hq : ∀ h' tk e d, OwnMade s.heap h' e C d v → R (.ok (.ret (.ref e))) { s with heap := h', toks := tk }) :
    codeAny (model prog w) A (.call (.ref C) ⟨[v], []⟩) R s := by
  obtain ⟨nm, q, N, bs, bm, sn, sub, ab, col, dd, k0, k1, k2, k3, k5, hC, hbm⟩ := T.cls
  obtain ⟨hp, g, dr, tk, os⟩ := s
  have k : ∀ b o, hp.get? b = some o → ((hp.push (kdv_tup [v])).push (excO C hp.objs.size)).get? b = some o := fun b o e => Heap.get?_push_of_some _ (Heap.get?_push_of_some _ e)
  have hget : ((hp.push (kdv_tup [v])).push (excO C hp.objs.size)).get? (hp.objs.size + 1) = some (excO C hp.objs.size) := by heap_get
  have hnx : K.lookup (hp.objs.size + 1) = none := by
    cases e : K.lookup (hp.objs.size + 1) with
    | none => rfl
    | some o =>
      have z : hp.get? (hp.objs.size + 1) = some o := X _ _ e
      exact absurd (Nat.lt_of_succ_lt (Heap.lt_size z)) (Nat.lt_irrefl _)
  refine call_own F.excBase_ValueError (fun X => refsVE_contains X bm hbm) (X _ _ hC) (looks_findIn X T.iC) (fun self => bind_fn X self T.tC) (one_size v) ?_
  refine tm_init (s := ⟨(hp.push (kdv_tup [v])).push (excO C hp.objs.size), g, dr, tk, os⟩) T pf (X.keeps k) (hlim.keeps k) (G.keeps k) (Bl.keeps k) hget hnx ?_ fun h' tk' dx t1 ⟨k', hx, dn, dne, hns⟩ => ?_
  · show A.depth + 1 < recursionLimit
    exact hroom
  · have old : ∀ b o, hp.get? b = some o → h'.get? b = some o := fun b o e => k' b o (Nat.ne_of_lt (Nat.lt_succ_of_lt (Heap.lt_size e))) (k b o e)
    have z : hp.objs.size + 1 + 1 ≤ dx := by
      first
        | (simpa only [Heap.size_push] using dn)
        | exact dn
        | (have q := dn; rw [Heap.size_push, Heap.size_push] at q; exact q)
    exact ⟨rfl, hq h' tk' (hp.objs.size + 1) dx ⟨old, Nat.le_succ _, ⟨_, _, hx, rfl, rfl, rfl, rfl⟩, Nat.le_trans (Nat.le_trans (Nat.le_succ _) (Nat.le_succ _)) z, dne, hns⟩⟩
end
end TmX
open PySem PySem.Spec PyProof.Rows L2 StrLaws RT
/-- a statement that raises nothing, in a def that may raise -/
theorem PS_nox {X : Cx} {st : Stmt} {t : TS} (h : PS X.nox st t) : PS X st t := ⟨fun pins s σ H D I hw =>
  wpAny_mono (h.run pins s σ H D (I.wish _) hw) (fun _ _ q => q.unwish) fun _ _ z => False.elim z⟩
theorem relO_lim {v : V} {v' : Value} (r : RelV v v') (f : Str) : RelO (List.lookup f [(("limit" : Str), v)]) (if f = "limit" then some v' else none) := by
  by_cases hw : f = "limit"
  · subst hw
    rw [if_pos rfl]
    have q : List.lookup ("limit" : Str) [(("limit" : Str), v)] = some v := by simp [List.lookup]
    rw [q]
    exact r
  · rw [if_neg hw]
    have qw : (f == ("limit" : Str)) = false := by simpa using hw
    have q2 : List.lookup f [(("limit" : Str), v)] = none := by simp [List.lookup, qw]
    rw [q2]
    trivial
section
variable {X : Cx} {C B fI cc cda : Addr} {fl : Str}
/-- TooMany(e) -/
def tMkTm (C : Addr) (ta : TA) : L2.St → Hp → XK → Prop := fun σ H Q => ta σ H fun vs H1 => ∃ v, vs = [v] ∧ ∀ d, H1 d = none → Q (.ref C) (some d) (upd H1 d (.xd [(("limit" : Str), v)]))
theorem pmk_tm {a : Expr} {ta : TA} {p pos : Pos} {k : Nat} (T : TmX.TmTxt X.K X.mg C B fI cc cda fl) (pf : TmX.PF X.prog fl) (hr : Room k X.A) (ha : PA X [a] ta) (hg : Gl X "TooMany" := by rfl)
    (he : starEach (a :: []) X.env = (false, eval a X.env) :: starEach [] X.env := by rfl) (hpl : (backTo pos (starEach [] X.env)).any (·.1) = false := by rfl) :
    PMk X (.Call (.Name "TooMany" p) [a] [] pos) (tMkTm C ta) := by
  intro pins s σ H Q I h
  refine wpAny_Call_Name_kw (ld_glob I hg T.gC ?_)
  refine PySem.W.callWith_K (h₀ := X.base) I.ok.mod.kin T.kC (thn (ha.run pos pins s σ H _ I h) fun us s1 hh => ?_) he hpl
  obtain ⟨vs, H1, I1, r1, v, ev, q1⟩ := hh
  subst ev
  refine ⟨I1.kIn, ?_⟩
  cases r1 with
  | cons rv rn =>
    rename_i v' us'
    cases rn
    show wpAny _ _ (call (.ref C) [v']) _ _ _
    have hlim := I1.nolimit
    have hG := I1.ok.mod.glob.keeps I1.bk
    have hB : TmX.BltS s1.heap := by
      obtain ⟨mb, n, e⟩ := I1.ok.mod.blt
      exact ⟨mb, n.keeps I1.bk, (e _ (by decide)).trans PyProof.Rows.Boot.«super»⟩
    obtain ⟨hp, g, dr, tk, os⟩ := s1
    refine wpAny_call (TmX.tm_made T pf I1.kIn hlim hG hB (by have := hr.dp; omega) fun h' tk' e d M => ?_)
    show MkP X pins σ Q (.ref e) ⟨h', g, dr, tk', os⟩
    obtain ⟨oe, fv, hoe, hc, hd, hdat, h1⟩ := M.obj
    have hns := M.ns
    obtain ⟨G', g1, g2⟩ := restrict h' fun b => decide (b ≠ e)
    have gk : ∀ b, b ≠ e → G'.get? b = h'.get? b := fun b hb => g1 b (decide_eq_true hb)
    have ge : G'.get? e = none := g2 e (by simp)
    have old : ∀ b o, hp.get? b = some o → G'.get? b = some o := fun b o q => (gk b (Nat.ne_of_lt (Nat.lt_of_lt_of_le (Heap.lt_size q) M.new))).trans (M.keep b o q)
    have ob : ObjOk X.prog X.w (upd H1 d (.xd [(("limit" : Str), v)])) G' d (.xd [(("limit" : Str), v)]) :=
      ⟨_, hns.at (fun o q => (gk d M.dne).trans q), fun f => relO_lim rv f⟩
    have J : Inv X pins σ (upd H1 d (.xd [(("limit" : Str), v)])) ⟨G', g, dr, tk', os⟩ := I1.laid (t' := tk') old M.dbig ob
    refine ⟨e, oe, fv, ⟨G', g, dr, tk', os⟩, _, .ref C, some d, rfl, J, fun b o q => ?_, ge, hoe, ⟨hc, hd⟩, hdat, h1, ?_, rfl, I1.bare, raises_own T.ec.hs T.tyC, q1 d (I1.hok.fresh M.dbig)⟩
    · by_cases hb : b = e
      · have q' : G'.get? b = some o := q
        rw [hb, ge] at q'; cases q'
      · exact (gk b hb).symm.trans q
    · rw [upd_ne (Ne.symm M.dne)]
      exact I1.hok.fresh M.new
/-- raise TooMany(e) -/
def tRaiseTm (C : Addr) (W : WX) (ta : TA) : TS := fun _ σ H => tMkTm C ta σ H fun cls d H' => W cls d σ H'
theorem ps_raiseTm {a : Expr} {ta : TA} {W : WX} {p pos pos2 : Pos} {k : Nat} (hc : X.calm = true) (T : TmX.TmTxt X.K X.mg C B fI cc cda fl) (pf : TmX.PF X.prog fl) (hr : Room k X.A) (tk : Takes X W) (ha : PA X [a] ta) (hg : Gl X "TooMany" := by rfl)
    (he : starEach (a :: []) X.env = (false, eval a X.env) :: starEach [] X.env := by rfl) (hpl : (backTo pos (starEach [] X.env)).any (·.1) = false := by rfl) :
    PS X (.Raise (some (.Call (.Name "TooMany" p) [a] [] pos)) none pos2) (tRaiseTm C W ta) := ps_raise hc tk (pmk_tm T pf hr ha hg he hpl)
/-- slip.limit, slip the exception that the suite holds (at a; its class cls, its dict d) -/
def tLim (C : Addr) (a : Addr) (cls : Value) (d : Option Addr) (te : TE) : TE := fun σ H Q => te σ H fun x H1 => x = .ref a ∧ cls = .ref C ∧ ∃ (dd : Addr) (v : V), d = some dd ∧ H1 dd = some (.xd [(("limit" : Str), v)]) ∧ Q v H1
theorem pe_lim {a : Addr} {oe : Obj} {cls : Value} {d : Option Addr} {pn : List (Addr × Obj)} {e : Expr} {te : TE} {pos : Pos} (T : TmX.TmTxt X.K X.mg C B fI cc cda fl) (hz : Zc cls d oe) (hf : ∃ vs, oe.data = .fields vs) (he : PE (X.suite a ((a, oe) :: pn)) e te)
    (hb : attributeBase e "limit" X.env (eval e X.env) = eval e X.env := by rfl) :
    PE (X.suite a ((a, oe) :: pn)) (.Attribute e "limit" pos) (tLim C a cls d te) := by
  refine ⟨fun pins s σ H Q I h => ?_⟩
  refine attr_of hb (thn (he.run pins s σ H _ I h) fun u s1 hh => ?_)
  obtain ⟨x, H1, I1, rx, ex, ec, dd, v, ed, ea, q⟩ := hh
  subst ex
  obtain rfl : u = Value.ref a := rx
  subst ec
  subst ed
  obtain ⟨ha, _⟩ := I1.pin (a, oe) (List.mem_append_left _ List.mem_cons_self)
  obtain ⟨vs, hd⟩ := hf
  have hx : ObjOk X.prog X.w H1 s1.heap dd (.xd [(("limit" : Str), v)]) := I1.hok dd _ ea
  obtain ⟨mA, hns, hr⟩ := hx
  obtain ⟨od, ho, hl⟩ := lookIn_ns hns
  have l : List.lookup ("limit" : Str) [(("limit" : Str), v)] = some v := by simp [List.lookup]
  obtain ⟨u, hu, ru⟩ := RelO.some_of (v := v) (o := mA "limit") (by rw [← l]; exact hr "limit")
  have J : PySem.W.InstAt s1.heap a oe C (some od) := ⟨ha, hz.1, by unfold PySem.W.notCls; rw [hd] <;> rfl, by rw [hz.2]; exact ho⟩
  exact HandSPX.exc_get I1.kIn J T.ec.hg T.ec.hk T.ec.hs (PySem.W.findObj_own T.ec.hd T.noN rfl (by rw [hl, hu])) (handed_of ru) ⟨v, H1, I1.tok _, ru, q⟩
end
end SC
namespace SC
open PySem PySem.Spec PyProof.Rows L2 StrLaws RT
/-! ## isinstance(e, c), e the error that the suite holds, with a dict of its own -/
def rIsD (K : PySem.W.Frag) (D a : Addr) (cls : Value) (d : Option Addr) : List V → Hp → VK → Prop := fun xs H Q =>
  ∃ (c : V) (cv : Value) (b : Bool), xs = [.ref a, c] ∧ cls = .ref D ∧ (∃ dd fs, d = some dd ∧ H dd = some (.xd fs)) ∧ (∀ u, RelV c u → u = cv) ∧ PySem.W.kitOne K (.ref D) cv = some b ∧ Q (.bl b) H
theorem has_cls {K : PySem.W.Frag} {D : Addr} (h : PySem.W.hasDictIn K D = true) : (PySem.W.clsIn K D).isSome = true := by
  obtain ⟨cd, hc, _⟩ := PySem.W.any_some h
  rw [hc]; rfl
theorem call_isD {X : Cx} {a D : Addr} {cls : Value} {d : Option Addr} {oe : Obj} {pn : List (Addr × Obj)} (C : ExcC X.K D) (hz : Zc cls d oe) (hf : ∃ vs, oe.data = .fields vs) : CallR (X.suite a ((a, oe) :: pn)) (.builtin "isinstance") (rIsD X.K D a cls d) := by
  intro pins s σ H xs us Q I rel want
  obtain ⟨c, cv, b, rfl, rfl, ⟨dd, fs, rfl, at_dd⟩, told, e, q⟩ := want
  match us, rel with
  | [_, _], .cons r1 (.cons r2 .nil) =>
    obtain rfl := told _ r2
    have r1 := r1
    cases r1
    have here := (I.pin (a, oe) (List.mem_append.mpr (.inl List.mem_cons_self))).1
    obtain ⟨mA, ns, _⟩ : ObjOk X.prog X.w H s.heap dd (.xd fs) := I.hok dd _ at_dd
    obtain ⟨od, hod, _⟩ := lookIn_ns ns
    have J : PySem.W.InstAt s.heap a oe D (some od) := ⟨here, hz.1, by obtain ⟨vs, ev⟩ := hf; unfold PySem.W.notCls; rw [ev] <;> rfl, by rw [hz.2]; exact hod⟩
    exact PySem.W.kia_one (PySem.W.kitx_exc (ox := oe) (od := some od) (has_cls C.hd) C.hg C.hk C.hs C.ha C.hn C.ht C.hm) I.kIn J e (fun z => nomatch z) fun tk => ⟨.bl b, H, I.kept (t' := tk) fun _ _ z => z, rfl, q⟩
theorem rIsD_it {K : PySem.W.Frag} {C a dd : Addr} {b : Bool} {B : Addr} {fs : List (Str × V)} {H : Hp} {Q : VK} (k : PySem.W.kitOne K (.ref C) (.ref B) = some b) (h : H dd = some (.xd fs)) (q : Q (.bl b) H) : rIsD K C a (.ref C) (some dd) [.ref a, .ref B] H Q :=
  ⟨_, _, _, rfl, rfl, ⟨_, _, rfl, h⟩, fun _ z => z, k, q⟩
end SC
namespace SC.S
open PySem PySem.Spec PyProof.Rows L2
def topS (i : Nat) : Stmt := PySem.Challenge.pw_stagecuts_k34_whole_merged_stage_by_stag.main.body.getD i (.Pass ⟨0, 0, 0, 0⟩)
abbrev s_is_stage : Stmt := topS 5
abbrev s_ways_and_stages : Stmt := topS 6
abbrev s_can_be_merged : Stmt := topS 8
abbrev s_weighted : Stmt := topS 9
abbrev s_with_part : Stmt := topS 10
abbrev s_merged_at : Stmt := topS 11
abbrev s_merged_once : Stmt := topS 12
abbrev s_is_within_bounds : Stmt := topS 13
abbrev s_merged : Stmt := topS 14
abbrev s_l_deck : Stmt := topS 16
abbrev s_l_draw : Stmt := topS 17
abbrev s_l_pick : Stmt := topS 18
abbrev s_l_mixed : Stmt := topS 19
abbrev s_l_common : Stmt := topS 20
abbrev s_l_weights : Stmt := topS 24
abbrev s_l_tree : Stmt := topS 25
abbrev s_l_plan : Stmt := topS 26
abbrev s_l_first : Stmt := topS 27
abbrev s_l_taken : Stmt := topS 28
abbrev s_l_taken_at : Stmt := topS 29
abbrev s_l_all_taken : Stmt := topS 30
abbrev s_l_top : Stmt := topS 31
abbrev s_l_heard : Stmt := topS 32
abbrev s_l_is_told : Stmt := topS 33
abbrev s_l_any : Stmt := topS 34
abbrev s_law : Stmt := topS 35
theorem sc_is_stage : FnScope ["thing"] ["thing"] (defScope s_is_stage) := ⟨rfl, rfl, rfl, by decide +kernel, rfl, by decide +kernel, by decide +kernel⟩
theorem sc_ways_and_stages : FnScope ["stage", "way", "found", "place", "_", "thing"] ["stage", "way"] (defScope s_ways_and_stages) := ⟨rfl, rfl, rfl, by decide +kernel, rfl, by decide +kernel, by decide +kernel⟩
theorem sc_can_be_merged : FnScope ["weight", "thing"] ["weight", "thing"] (defScope s_can_be_merged) := ⟨rfl, rfl, rfl, by decide +kernel, rfl, by decide +kernel, by decide +kernel⟩
theorem sc_weighted : FnScope ["parts", "factor", "weight", "thing"] ["parts", "factor"] (defScope s_weighted) := ⟨rfl, rfl, rfl, by decide +kernel, rfl, by decide +kernel, by decide +kernel⟩
theorem sc_with_part : FnScope ["stage", "place", "parts", "divisor", "offset", "old_parts"] ["stage", "place", "parts"] (defScope s_with_part) := ⟨rfl, rfl, rfl, by decide +kernel, rfl, by decide +kernel, by decide +kernel⟩
theorem sc_merged_at : FnScope ["stage", "place", "divisor", "offset", "parts", "weight", "factor", "offset_beneath", "parts_beneath", "figure", "grown"] ["stage", "place"] (defScope s_merged_at) := ⟨rfl, rfl, rfl, by decide +kernel, rfl, by decide +kernel, by decide +kernel⟩
theorem sc_merged_once : FnScope ["stage", "place", "weight", "thing", "merged_beneath"] ["stage"] (defScope s_merged_once) := ⟨rfl, rfl, rfl, by decide +kernel, rfl, by decide +kernel, by decide +kernel⟩
theorem sc_is_within_bounds : FnScope ["plan", "divisor", "parts", "_", "weight"] ["plan"] (defScope s_is_within_bounds) := ⟨rfl, rfl, rfl, by decide +kernel, rfl, by decide +kernel, by decide +kernel⟩
theorem sc_merged : FnScope ["plan", "last", "following"] ["plan"] (defScope s_merged) := ⟨rfl, rfl, rfl, by decide +kernel, rfl, by decide +kernel, by decide +kernel⟩
theorem sc_l_deck : FnScope ["script", "deck", "cell", "whole"] ["script"] (defScope s_l_deck) := ⟨rfl, rfl, rfl, by decide +kernel, rfl, by decide +kernel, by decide +kernel⟩
theorem sc_l_draw : FnScope ["deck", "many", "whole", "mixed"] ["deck", "many"] (defScope s_l_draw) := ⟨rfl, rfl, rfl, by decide +kernel, rfl, by decide +kernel, by decide +kernel⟩
theorem sc_l_pick : FnScope ["deck", "some"] ["deck", "some"] (defScope s_l_pick) := ⟨rfl, rfl, rfl, by decide +kernel, rfl, by decide +kernel, by decide +kernel⟩
theorem sc_l_mixed : FnScope ["deck", "own", "rest", "found"] ["deck", "own"] (defScope s_l_mixed) := ⟨rfl, rfl, rfl, by decide +kernel, rfl, by decide +kernel, by decide +kernel⟩
theorem sc_l_common : FnScope ["one", "two"] ["one", "two"] (defScope s_l_common) := ⟨rfl, rfl, rfl, by decide +kernel, rfl, by decide +kernel, by decide +kernel⟩
theorem sc_l_weights : FnScope ["deck", "kinds", "is_plain", "found", "kind", "own", "size"] ["deck", "kinds", "is_plain"] (defScope s_l_weights) := ⟨rfl, rfl, rfl, by decide +kernel, rfl, by decide +kernel, by decide +kernel⟩
theorem sc_l_tree : FnScope ["deck", "many", "deep", "is_row", "above", "levels", "node", "fit", "own"] ["deck", "many", "deep", "is_row"] (defScope s_l_tree) := ⟨rfl, rfl, rfl, by decide +kernel, rfl, by decide +kernel, by decide +kernel⟩
theorem sc_l_plan : FnScope ["deck", "many", "deep", "sizes", "way", "above", "stages", "left", "counts", "node", "least", "names", "things", "kinds", "divisor", "offset", "own", "turn", "thing"] ["deck", "many", "deep", "sizes", "way"] (defScope s_l_plan) := ⟨rfl, rfl, rfl, by decide +kernel, rfl, by decide +kernel, by decide +kernel⟩
theorem sc_l_first : FnScope ["stage", "at", "weight", "thing", "inner"] ["stage"] (defScope s_l_first) := ⟨rfl, rfl, rfl, by decide +kernel, rfl, by decide +kernel, by decide +kernel⟩
theorem sc_l_taken : FnScope ["stage", "at", "size", "offset", "parts", "weight", "inner", "less", "things", "fresh", "ahead", "behind", "own", "thing"] ["stage", "at"] (defScope s_l_taken) := ⟨rfl, rfl, rfl, by decide +kernel, rfl, by decide +kernel, by decide +kernel⟩
theorem sc_l_taken_at : FnScope ["stage", "way", "weight", "thing", "fresh"] ["stage", "way"] (defScope s_l_taken_at) := ⟨rfl, rfl, rfl, by decide +kernel, rfl, by decide +kernel, by decide +kernel⟩
theorem sc_l_all_taken : FnScope ["plan", "turn", "way"] ["plan"] (defScope s_l_all_taken) := ⟨rfl, rfl, rfl, by decide +kernel, rfl, by decide +kernel, by decide +kernel⟩
theorem sc_l_top : FnScope ["stage", "found", "weight", "thing"] ["stage"] (defScope s_l_top) := ⟨rfl, rfl, rfl, by decide +kernel, rfl, by decide +kernel, by decide +kernel⟩
theorem sc_l_heard : FnScope ["plan", "is_named", "slip"] ["plan", "is_named"] (defScope s_l_heard) := ⟨rfl, rfl, rfl, by decide +kernel, rfl, by decide +kernel, by decide +kernel⟩
theorem sc_l_is_told : FnScope ["plan", "is_named", "kept", "heard", "due"] ["plan", "is_named"] (defScope s_l_is_told) := ⟨rfl, rfl, rfl, by decide +kernel, rfl, by decide +kernel, by decide +kernel⟩
theorem sc_l_any : FnScope ["deck", "great", "way", "sizes", "many"] ["deck", "great"] (defScope s_l_any) := ⟨rfl, rfl, rfl, by decide +kernel, rfl, by decide +kernel, by decide +kernel⟩
theorem sc_law : FnScope ["script", "deck", "turn", "great"] ["script"] (defScope s_law) := ⟨rfl, rfl, rfl, by decide +kernel, rfl, by decide +kernel, by decide +kernel⟩
structure Tx (K : PySem.W.Frag) (mg : Str → Option Value) where
  f_is_stage : Addr
  fd_is_stage : FuncData
  F_is_stage : Fun K "is_stage" "is_stage" s_is_stage f_is_stage fd_is_stage
  g_is_stage : mg "is_stage" = some (.ref f_is_stage)
  f_ways_and_stages : Addr
  fd_ways_and_stages : FuncData
  F_ways_and_stages : Fun K "ways_and_stages" "ways_and_stages" s_ways_and_stages f_ways_and_stages fd_ways_and_stages
  g_ways_and_stages : mg "ways_and_stages" = some (.ref f_ways_and_stages)
  f_can_be_merged : Addr
  fd_can_be_merged : FuncData
  F_can_be_merged : Fun K "can_be_merged" "can_be_merged" s_can_be_merged f_can_be_merged fd_can_be_merged
  g_can_be_merged : mg "can_be_merged" = some (.ref f_can_be_merged)
  f_weighted : Addr
  fd_weighted : FuncData
  F_weighted : Fun K "weighted" "weighted" s_weighted f_weighted fd_weighted
  g_weighted : mg "weighted" = some (.ref f_weighted)
  f_with_part : Addr
  fd_with_part : FuncData
  F_with_part : Fun K "with_part" "with_part" s_with_part f_with_part fd_with_part
  g_with_part : mg "with_part" = some (.ref f_with_part)
  f_merged_at : Addr
  fd_merged_at : FuncData
  F_merged_at : Fun K "merged_at" "merged_at" s_merged_at f_merged_at fd_merged_at
  g_merged_at : mg "merged_at" = some (.ref f_merged_at)
  f_merged_once : Addr
  fd_merged_once : FuncData
  F_merged_once : Fun K "merged_once" "merged_once" s_merged_once f_merged_once fd_merged_once
  g_merged_once : mg "merged_once" = some (.ref f_merged_once)
  f_is_within_bounds : Addr
  fd_is_within_bounds : FuncData
  F_is_within_bounds : Fun K "is_within_bounds" "is_within_bounds" s_is_within_bounds f_is_within_bounds fd_is_within_bounds
  g_is_within_bounds : mg "is_within_bounds" = some (.ref f_is_within_bounds)
  f_merged : Addr
  fd_merged : FuncData
  F_merged : Fun K "merged" "merged" s_merged f_merged fd_merged
  g_merged : mg "merged" = some (.ref f_merged)
  f_l_deck : Addr
  fd_l_deck : FuncData
  F_l_deck : Fun K "_law_deck" "_law_deck" s_l_deck f_l_deck fd_l_deck
  g_l_deck : mg "_law_deck" = some (.ref f_l_deck)
  f_l_draw : Addr
  fd_l_draw : FuncData
  F_l_draw : Fun K "_law_draw" "_law_draw" s_l_draw f_l_draw fd_l_draw
  g_l_draw : mg "_law_draw" = some (.ref f_l_draw)
  f_l_pick : Addr
  fd_l_pick : FuncData
  F_l_pick : Fun K "_law_pick" "_law_pick" s_l_pick f_l_pick fd_l_pick
  g_l_pick : mg "_law_pick" = some (.ref f_l_pick)
  f_l_mixed : Addr
  fd_l_mixed : FuncData
  F_l_mixed : Fun K "_law_mixed" "_law_mixed" s_l_mixed f_l_mixed fd_l_mixed
  g_l_mixed : mg "_law_mixed" = some (.ref f_l_mixed)
  f_l_common : Addr
  fd_l_common : FuncData
  F_l_common : Fun K "_law_common" "_law_common" s_l_common f_l_common fd_l_common
  g_l_common : mg "_law_common" = some (.ref f_l_common)
  f_l_weights : Addr
  fd_l_weights : FuncData
  F_l_weights : Fun K "_law_weights" "_law_weights" s_l_weights f_l_weights fd_l_weights
  g_l_weights : mg "_law_weights" = some (.ref f_l_weights)
  f_l_tree : Addr
  fd_l_tree : FuncData
  F_l_tree : Fun K "_law_tree" "_law_tree" s_l_tree f_l_tree fd_l_tree
  g_l_tree : mg "_law_tree" = some (.ref f_l_tree)
  f_l_plan : Addr
  fd_l_plan : FuncData
  F_l_plan : Fun K "_law_plan" "_law_plan" s_l_plan f_l_plan fd_l_plan
  g_l_plan : mg "_law_plan" = some (.ref f_l_plan)
  f_l_first : Addr
  fd_l_first : FuncData
  F_l_first : Fun K "_law_first" "_law_first" s_l_first f_l_first fd_l_first
  g_l_first : mg "_law_first" = some (.ref f_l_first)
  f_l_taken : Addr
  fd_l_taken : FuncData
  F_l_taken : Fun K "_law_taken" "_law_taken" s_l_taken f_l_taken fd_l_taken
  g_l_taken : mg "_law_taken" = some (.ref f_l_taken)
  f_l_taken_at : Addr
  fd_l_taken_at : FuncData
  F_l_taken_at : Fun K "_law_taken_at" "_law_taken_at" s_l_taken_at f_l_taken_at fd_l_taken_at
  g_l_taken_at : mg "_law_taken_at" = some (.ref f_l_taken_at)
  f_l_all_taken : Addr
  fd_l_all_taken : FuncData
  F_l_all_taken : Fun K "_law_all_taken" "_law_all_taken" s_l_all_taken f_l_all_taken fd_l_all_taken
  g_l_all_taken : mg "_law_all_taken" = some (.ref f_l_all_taken)
  f_l_top : Addr
  fd_l_top : FuncData
  F_l_top : Fun K "_law_top" "_law_top" s_l_top f_l_top fd_l_top
  g_l_top : mg "_law_top" = some (.ref f_l_top)
  f_l_heard : Addr
  fd_l_heard : FuncData
  F_l_heard : Fun K "_law_heard" "_law_heard" s_l_heard f_l_heard fd_l_heard
  g_l_heard : mg "_law_heard" = some (.ref f_l_heard)
  f_l_is_told : Addr
  fd_l_is_told : FuncData
  F_l_is_told : Fun K "_law_is_told" "_law_is_told" s_l_is_told f_l_is_told fd_l_is_told
  g_l_is_told : mg "_law_is_told" = some (.ref f_l_is_told)
  f_l_any : Addr
  fd_l_any : FuncData
  F_l_any : Fun K "_law_any" "_law_any" s_l_any f_l_any fd_l_any
  g_l_any : mg "_law_any" = some (.ref f_l_any)
  f_law : Addr
  fd_law : FuncData
  F_law : Fun K "law" "law" s_law f_law fd_law
  g_law : mg "law" = some (.ref f_law)
  m_abs : mg "abs" = none
  m_enumerate : mg "enumerate" = none
  m_int : mg "int" = none
  m_isinstance : mg "isinstance" = none
  m_len : mg "len" = none
  m_list : mg "list" = none
  m_max : mg "max" = none
  m_min : mg "min" = none
  m_range : mg "range" = none
  m_repr : mg "repr" = none
  m_sum : mg "sum" = none
  m_tuple : mg "tuple" = none
  m_zip : mg "zip" = none
  t_MAX_SIZE : Tok
  c_MAX_SIZE : mg "MAX_SIZE" = some (.int (10 ^ 30) t_MAX_SIZE)
  C_tm : Addr
  B_tm : Addr
  f_tm : Addr
  cc_tm : Addr
  cd_tm : Addr
  fl : Str
  tm : TmX.TmTxt K mg C_tm B_tm f_tm cc_tm cd_tm fl
section
variable {K : PySem.W.Frag} {mg : Str → Option Value}
theorem Tx.b_is_stage (T : Tx K mg) : Binds K T.fd_is_stage ["thing"] [] := T.F_is_stage.binds (ps := ["thing"]) fun _ _ _ _ _ _ us hl => match us, hl with | [_], _ => rfl
theorem Tx.b_ways_and_stages (T : Tx K mg) : Binds K T.fd_ways_and_stages ["stage", "way"] [] := T.F_ways_and_stages.binds (ps := ["stage", "way"]) fun _ _ _ _ _ _ us hl => match us, hl with | [_, _], _ => rfl
theorem Tx.b_can_be_merged (T : Tx K mg) : Binds K T.fd_can_be_merged ["weight", "thing"] [] := T.F_can_be_merged.binds (ps := ["weight", "thing"]) fun _ _ _ _ _ _ us hl => match us, hl with | [_, _], _ => rfl
theorem Tx.b_weighted (T : Tx K mg) : Binds K T.fd_weighted ["parts", "factor"] [] := T.F_weighted.binds (ps := ["parts", "factor"]) fun _ _ _ _ _ _ us hl => match us, hl with | [_, _], _ => rfl
theorem Tx.b_with_part (T : Tx K mg) : Binds K T.fd_with_part ["stage", "place", "parts"] [] := T.F_with_part.binds (ps := ["stage", "place", "parts"]) fun _ _ _ _ _ _ us hl => match us, hl with | [_, _, _], _ => rfl
theorem Tx.b_merged_at (T : Tx K mg) : Binds K T.fd_merged_at ["stage", "place"] [] := T.F_merged_at.binds (ps := ["stage", "place"]) fun _ _ _ _ _ _ us hl => match us, hl with | [_, _], _ => rfl
theorem Tx.b_merged_once (T : Tx K mg) : Binds K T.fd_merged_once ["stage"] [] := T.F_merged_once.binds (ps := ["stage"]) fun _ _ _ _ _ _ us hl => match us, hl with | [_], _ => rfl
theorem Tx.b_is_within_bounds (T : Tx K mg) : Binds K T.fd_is_within_bounds ["plan"] [] := T.F_is_within_bounds.binds (ps := ["plan"]) fun _ _ _ _ _ _ us hl => match us, hl with | [_], _ => rfl
theorem Tx.b_merged (T : Tx K mg) : Binds K T.fd_merged ["plan"] [] := T.F_merged.binds (ps := ["plan"]) fun _ _ _ _ _ _ us hl => match us, hl with | [_], _ => rfl
theorem Tx.b_l_deck (T : Tx K mg) : Binds K T.fd_l_deck ["script"] [] := T.F_l_deck.binds (ps := ["script"]) fun _ _ _ _ _ _ us hl => match us, hl with | [_], _ => rfl
theorem Tx.b_l_draw (T : Tx K mg) : Binds K T.fd_l_draw ["deck", "many"] [] := T.F_l_draw.binds (ps := ["deck", "many"]) fun _ _ _ _ _ _ us hl => match us, hl with | [_, _], _ => rfl
theorem Tx.b_l_pick (T : Tx K mg) : Binds K T.fd_l_pick ["deck", "some"] [] := T.F_l_pick.binds (ps := ["deck", "some"]) fun _ _ _ _ _ _ us hl => match us, hl with | [_, _], _ => rfl
theorem Tx.b_l_mixed (T : Tx K mg) : Binds K T.fd_l_mixed ["deck", "own"] [] := T.F_l_mixed.binds (ps := ["deck", "own"]) fun _ _ _ _ _ _ us hl => match us, hl with | [_, _], _ => rfl
theorem Tx.b_l_common (T : Tx K mg) : Binds K T.fd_l_common ["one", "two"] [] := T.F_l_common.binds (ps := ["one", "two"]) fun _ _ _ _ _ _ us hl => match us, hl with | [_, _], _ => rfl
theorem Tx.b_l_weights (T : Tx K mg) : Binds K T.fd_l_weights ["deck", "kinds", "is_plain"] [] := T.F_l_weights.binds (ps := ["deck", "kinds", "is_plain"]) fun _ _ _ _ _ _ us hl => match us, hl with | [_, _, _], _ => rfl
theorem Tx.b_l_tree (T : Tx K mg) : Binds K T.fd_l_tree ["deck", "many", "deep", "is_row"] [] := T.F_l_tree.binds (ps := ["deck", "many", "deep", "is_row"]) fun _ _ _ _ _ _ us hl => match us, hl with | [_, _, _, _], _ => rfl
theorem Tx.b_l_plan (T : Tx K mg) : Binds K T.fd_l_plan ["deck", "many", "deep", "sizes", "way"] [] := T.F_l_plan.binds (ps := ["deck", "many", "deep", "sizes", "way"]) fun _ _ _ _ _ _ us hl => match us, hl with | [_, _, _, _, _], _ => rfl
theorem Tx.b_l_first (T : Tx K mg) : Binds K T.fd_l_first ["stage"] [] := T.F_l_first.binds (ps := ["stage"]) fun _ _ _ _ _ _ us hl => match us, hl with | [_], _ => rfl
theorem Tx.b_l_taken (T : Tx K mg) : Binds K T.fd_l_taken ["stage", "at"] [] := T.F_l_taken.binds (ps := ["stage", "at"]) fun _ _ _ _ _ _ us hl => match us, hl with | [_, _], _ => rfl
theorem Tx.b_l_taken_at (T : Tx K mg) : Binds K T.fd_l_taken_at ["stage", "way"] [] := T.F_l_taken_at.binds (ps := ["stage", "way"]) fun _ _ _ _ _ _ us hl => match us, hl with | [_, _], _ => rfl
theorem Tx.b_l_all_taken (T : Tx K mg) : Binds K T.fd_l_all_taken ["plan"] [] := T.F_l_all_taken.binds (ps := ["plan"]) fun _ _ _ _ _ _ us hl => match us, hl with | [_], _ => rfl
theorem Tx.b_l_top (T : Tx K mg) : Binds K T.fd_l_top ["stage"] [] := T.F_l_top.binds (ps := ["stage"]) fun _ _ _ _ _ _ us hl => match us, hl with | [_], _ => rfl
theorem Tx.b_l_heard (T : Tx K mg) : Binds K T.fd_l_heard ["plan", "is_named"] [] := T.F_l_heard.binds (ps := ["plan", "is_named"]) fun _ _ _ _ _ _ us hl => match us, hl with | [_, _], _ => rfl
theorem Tx.b_l_is_told (T : Tx K mg) : Binds K T.fd_l_is_told ["plan", "is_named"] [] := T.F_l_is_told.binds (ps := ["plan", "is_named"]) fun _ _ _ _ _ _ us hl => match us, hl with | [_, _], _ => rfl
theorem Tx.b_l_any (T : Tx K mg) : Binds K T.fd_l_any ["deck", "great"] [] := T.F_l_any.binds (ps := ["deck", "great"]) fun _ _ _ _ _ _ us hl => match us, hl with | [_, _], _ => rfl
theorem Tx.b_law (T : Tx K mg) : Binds K T.fd_law ["script"] [] := T.F_law.binds (ps := ["script"]) fun _ _ _ _ _ _ us hl => match us, hl with | [_], _ => rfl
theorem Tx.k_merged_plan (T : Tx K mg) : KBinds K T.fd_merged ["plan"] ["plan"] (gK 1 [0]) (gK 1 [0]) where
  rel := gK_rel
  to := fun s us ws KX hl => by
    obtain ⟨oc, od, kV, doc, pm, an, cdv, ct, osl, e, lk, hcd⟩ := T.F_merged.ex
    rw [e]
    match us, ws, hl with
    | [], [a0], _ => exact BindsTo.of_eq rfl
end
end SC.S
namespace SC.S
open PySem PySem.Spec PyProof.Rows L2 StrLaws
local macro_rules | `(tactic| walk_at "go") => `(tactic| ((try dsimp only [cxOf, Cx.nox, Cx.wish]); repeat (first
  | (with_reducible refine g_seq ?_)
  | (with_reducible refine g_asg ?_)
  | (with_reducible refine g_asg2 ?_)
  | (with_reducible refine g_ret ?_)
  | (with_reducible refine g_drop ?_)
  | (with_reducible refine g_next ?_)
  | (with_reducible refine g_ifs ?_)
  | (with_reducible refine g_par ?_)
  | (with_reducible refine g_par3 ?_)
  | ((with_reducible refine' g_var ?hv ?_); (case hv => exact rfl))
  | (with_reducible refine g_c ?_)
  | ((with_reducible refine' g_aug ?hv ?_); (case hv => exact rfl))
  | (with_reducible refine l_ip ?_)
  | (with_reducible refine g_op ?_)
  | (with_reducible refine g_un ?_)
  | (with_reducible refine g_cons ?_)
  | (with_reducible refine g_nil ?_)
  | (with_reducible refine g_cb ?_)
  | (with_reducible refine g_call ?_)
  | (with_reducible refine g_callK ?_)
  | (with_reducible refine g_test ?_)
  | (with_reducible refine g_b ?_)
  | (with_reducible refine g_not ?_)
  | (with_reducible refine g_chain ?_)
  | (with_reducible refine g_notV ?_)
  | (with_reducible refine g_and ?_)
  | (with_reducible refine g_or ?_)
  | (with_reducible refine g_ifx ?_)
  | (with_reducible refine g_isN ?_)
  | (with_reducible refine g_notN ?_)
  | (with_reducible refine g_andV ?_)
  | (with_reducible refine g_orV ?_)
  | (with_reducible refine g_bm ?_)
  | (with_reducible refine g_bm0 ?_)
  | (with_reducible refine g_sl ?_)
  | (with_reducible refine g_part ?_)
  | (with_reducible refine g_nopart ?_)
  | (with_reducible refine g_dget ?_)
  | (with_reducible refine g_dput ?_)
  | (with_reducible refine g_tup ?_)
  | (with_reducible refine g_lst ?_)
  | (with_reducible refine g_yes ?_)
  | (with_reducible refine g_name ?_)
  | (with_reducible refine g_gsub ?_)
  | (with_reducible refine g_iList ?_)
  | (with_reducible refine g_iTup ?_)
  | (with_reducible refine g_for ?_)
  | (with_reducible refine g_lc ?_)
  | (with_reducible refine g_rng1 ?_)
  | (with_reducible refine g_rng2 ?_)
  | (with_reducible refine g_rng3 ?_)
  | (with_reducible refine g_iZip ?_)
  | (with_reducible refine g_allT ?_)
  | (with_reducible refine g_iZipA ?_)
  | (with_reducible refine g_iZip3 ?_)
  | (with_reducible refine g_iZipM ?_)
  | (with_reducible refine g_iZipN ?_)
  | (with_reducible refine g_din ?_)
  | (with_reducible refine g_dc2 ?_)
  | (with_reducible refine g_iItems ?_)
  | (with_reducible refine g_minAbs ?_)
  | (with_reducible refine g_dnotin ?_)
  | (with_reducible refine g_iRev ?_)
  | (with_reducible refine g_dcT ?_)
  | (with_reducible refine g_dc ?_)
  | (with_reducible refine g_iEnumT ?_)
  | (with_reducible refine g_iEnum ?_)
  | (with_reducible refine g_lstRg ?_)
  | (with_reducible refine g_lz ?_)
  | (with_reducible refine g_tz ?_)
  | (with_reducible refine g_rg1 ?_)
  | (with_reducible refine g_gcons ?_)
  | (with_reducible refine g_gnil ?_)
  | (with_reducible refine l_bl ?_)
  | (with_reducible refine l_int ?_)
  | (with_reducible refine l_two ?_)
  | (with_reducible refine l_three ?_)
  | (with_reducible refine l_I0 ?_)
  | (with_reducible refine l_U ?_)
  | dsimp only)))
section
variable {P : Program} {w : World} {K : PySem.W.Frag} {mg : Str → Option Value} {base : Heap}
/-! ### _law_draw -/
def spDraw : Sp := fun vs H Q _ => ∃ (δ : Dk) (m : Int), vs = [.ref δ.d, .int m] ∧ Bag H δ ∧ Lim m ∧
  ∀ v H', 0 ≤ v → (1 ≤ m → v < m) → (m ≤ 1 → v = 0) → Bag H' δ → Same (hid δ.l H) (hid δ.l H') → Q (.int v) H'
theorem at_last1 (xs : List V) (x : V) : atI (xs ++ [x]) (-1) = some x := by
  have h : atI (xs ++ [x]) (-1) = (xs ++ [x])[xs.length]? := by
    unfold atI ixN
    simp
    rw [if_pos (by omega), show (-1 + ((xs.length : Int) + 1)).toNat = xs.length by omega]
    simp
  rw [h]
  simp
theorem at_nat {xs : List V} {v : Int} (h0 : 0 ≤ v) (h1 : v < (xs.length : Nat)) : ∃ x, atI xs v = some x ∧ x ∈ xs := by
  have hl : v.toNat < xs.length := by omega
  refine ⟨xs[v.toNat], ?_, List.getElem_mem hl⟩
  exact at_of (j := v.toNat) (by omega) (by simp [hl])
theorem hid_l {δ : Dk} {H : Hp} {a : Addr} {o : HO} (h : a ∈ δ.l) : hid δ.l (upd H a o) = hid δ.l H := hid_upd h
theorem ok_l_draw (T : Tx K mg) : FnOk P w K mg base CX0 1 T.f_l_draw T.fd_l_draw ["deck", "many"] spDraw := by
  refine T.F_l_draw.ok sc_l_draw (fun vs H Q E h => ?_) (fun cdv A outer s H vs Q E hr h => ?_)
  · obtain ⟨_, _, rfl, _⟩ := h
    rfl
  obtain ⟨δ, m, rfl, ⟨gs, st, ct, D⟩, hm, q⟩ := h
  refine ⟨_, (pss_cons (ps_if (pt_cmpR op_lt (pv 1) pe_int (nomark _)) (pss_one (ps_ret pe_int)) pss_nil)
      (Evl.pss_cut (ps_if (pt_cmpR (op_neD hr.units) (pe_dget (hu_of hr) (pv 0) pe_str (fun _ _ => rfl)) (pe_lst pa_nil) (nomark _)) (pss_cons (ps_set (i := 2) sc_l_draw.nd rfl (Or.inl rfl) (pe_bm0 PySem.F.plainAttrs_list PySem.F.slot_list_pop PySem.F.type_list_pop mt_pop (pe_dget (hu_of hr) (pv 0) pe_str (fun _ _ => rfl))))
      (pss_cons (ps_if (pt_cmpR op_ge (pv 2) (pv 1) (nomark _)) (pss_one (ps_expr (pe_bm PySem.F.plainAttrs_list PySem.F.slot_list_append PySem.F.type_list_append mt_append (pe_dget (hu_of hr) (pv 0) pe_str (fun _ _ => rfl)) (pa_cons (pe_op op_fdivW (pv 2) (pv 1)) pa_nil)))) pss_nil)
      (pss_one (ps_ret (pe_op op_modN (pe_callTy call_int1 (by rfl) T.m_int (by decide +kernel) (pa_cons (pv 2) pa_nil)) (pv 1)))))) pss_nil)
      (pss_cons (ps_dput (hu_of hr) (pv 0) pe_str (pe_op op_add (pe_dget (hu_of hr) (pv 0) pe_str (fun _ _ => rfl)) pe_int) rfl)
      (pss_cons (ps_set (i := 3) sc_l_draw.nd rfl (Or.inl rfl) (pe_op op_modN (pe_callTy call_int1 (by rfl) T.m_int (by decide +kernel) (pa_cons (pe_op op_add (pe_op op_mul (pe_dget (hu_of hr) (pv 0) pe_str (fun _ _ => rfl)) pe_int) (pe_op op_mul (pe_dget (hu_of hr) (pv 0) pe_str (fun _ _ => rfl)) pe_int)) pa_nil)) pe_int))
      (pss_cons (ps_dput (hu_of hr) (pv 0) pe_str (pv 3) rfl)
      (pss_cons (ps_set (i := 3) sc_l_draw.nd rfl (Or.inl rfl) (pe_op op_modN (pe_callTy call_int1 (by rfl) T.m_int (by decide +kernel) (pa_cons (pe_op op_add (pe_op op_add (pe_op op_mul (pv 3) (pv 3)) (pe_op op_mul pe_int (pv 3))) (pe_dget (hu_of hr) (pv 0) pe_str (fun _ _ => rfl))) pa_nil)) pe_int))
      (pss_one (ps_ret (pe_op op_modN (pe_callTy call_int1 (by rfl) T.m_int (by decide +kernel) (pa_cons (pe_op op_fdivW (pv 3) pe_int) pa_nil)) (pv 1)))))))))), ?_⟩
  have ne : δ.d ≠ δ.g := ne_of D.d D.g (by intro z; cases z)
  walk_at "go"
  refine iteB (fun h1 => ?_) (fun h1 => ?_)
  · walk_at "go"
    exact q 0 H (Int.le_refl _) (fun z => by omega) (fun _ => rfl) ⟨gs, st, ct, D⟩ (Same.refl _)
  walk_at "go"
  refine g_cut (fun σ' H' => σ' = [some (.ref δ.d), some (.int m), none, none] ∧ BagAt H' δ gs st ct ∧ Same H H') ?_ ?_
  · walk_at "go"
    refine l_dget D.d sk_deep ?_
    walk_at "go"
    refine ⟨by decide, fun p np => ?_⟩
    have s1 : Same H (upd H p (.lst [])) := same_new np
    refine l_neNil (sq_l (s1 _ _ D.g)) (dps_ints gs) (num_ints gs) (by rw [depth_ints]; omega) upd_same ?_
    walk_at "go"
    have D1 : BagAt (upd H p (.lst [])) δ gs st ct := ⟨s1 _ _ D.d, s1 _ _ D.g, D.few, D.st0, D.st1⟩
    generalize upd H p (.lst []) = H1 at s1 D1
    refine iteBo (fun h3 => ?_) (fun h3 => ?_)
    · obtain ⟨gi, g, rfl⟩ : ∃ gi g, gs = gi ++ [g] := by
        cases e : gs with
        | nil => rw [e] at h3; cases h3
        | cons x r => exact ⟨(x :: r).dropLast, (x :: r).getLast (List.cons_ne_nil _ _), (List.dropLast_concat_getLast _).symm⟩
      have hl := D1.few
      rw [List.length_append, List.length_singleton] at hl
      have hg := D1.g
      rw [List.map_append, List.map_singleton] at hg
      have gm : δ.g ∈ δ.l := by simp [Dk.l]
      walk_at "go"
      refine l_dget D1.d sk_deep ?_
      walk_at "go"
      refine l_tyL (sq_l hg) (l_pop hg ?_)
      walk_at "go"
      have e2 : (upd H1 δ.g (.lst (gi.map V.int))) δ.d = some (.dK (skv δ.g st ct)) := by rw [upd_ne ne]; exact D1.d
      refine iteB (fun h5 => ?_) (fun h5 => ?_)
      · walk_at "go"
        refine l_dget e2 sk_deep ?_
        walk_at "go"
        refine l_tyL (sq_l upd_same) ?_
        walk_at "go"
        refine l_I (wide_of (by omega) hm) ?_
        walk_at "go"
        refine l_app (xs := gi.map V.int) upd_same (sz1 (by rw [List.length_map]; omega)) ?_
        walk_at "go"
        refine .inl ⟨_, rfl, ?_⟩
        walk_at "go"
        refine l_I (show m ≠ 0 by omega) ?_
        walk_at "go"
        refine q _ _ (fm0 (by omega)) (fun _ => fm1 (by omega)) (fun z => by omega) ⟨gi ++ [g / m], st, ct, ?_, ?_, ?_, D1.st0, D1.st1⟩ ?_
        · rw [upd_ne ne, upd_ne ne]; exact D1.d
        · rw [upd_same, List.map_append]; rfl
        · rw [List.length_append, List.length_singleton]; omega
        · rw [hid_l gm, hid_l gm]; exact same_hid s1
      · walk_at "go"
        refine .inl ⟨_, rfl, ?_⟩
        walk_at "go"
        refine l_I (show m ≠ 0 by omega) ?_
        walk_at "go"
        refine q _ _ (fm0 (by omega)) (fun _ => fm1 (by omega)) (fun z => by omega) ⟨gi, st, ct, e2, upd_same, by omega, D1.st0, D1.st1⟩ ?_
        rw [hid_l gm]; exact same_hid s1
    · walk_at "go"
      exact ⟨rfl, D1, s1⟩
  rintro σ' H1 ⟨rfl, D1, s1⟩
  have dm : δ.d ∈ δ.l := by simp [Dk.l]
  walk_at "go"
  refine l_dget D1.d sk_count ?_
  walk_at "go"
  refine l_dput D1.d (sz1 (show 3 < 1000000 by decide)) ?_
  walk_at "go"
  rw [sk_pcount]
  generalize eH : upd H1 δ.d (.dK (skv δ.g st (ct + 1))) = H2
  have D2 : BagAt H2 δ gs st (ct + 1) := by
    subst eH
    exact ⟨upd_same, by rw [upd_ne ne.symm]; exact D1.g, D1.few, D1.st0, D1.st1⟩
  have s2 : Same (hid δ.l H) (hid δ.l H2) := by
    subst eH
    rw [hid_l dm]; exact same_hid s1
  have h0 := D2.st0
  have h1 := D2.st1
  refine l_dget D2.d sk_state ?_
  walk_at "go"
  refine l_I (.inr ⟨by decide, by decide⟩) ?_
  walk_at "go"
  refine l_dget D2.d sk_count ?_
  walk_at "go"
  refine l_I (.inr ⟨by decide, by decide⟩) ?_
  walk_at "go"
  refine .inl ⟨_, rfl, ?_⟩
  walk_at "go"
  refine l_I (by decide) ?_
  walk_at "go"
  generalize e3 : (st * 6364136223846793005 + (ct + 1) * 1442695040888963407).fmod 2305843009213693951 = x3
  have b3 : 0 ≤ x3 ∧ x3 < 2305843009213693951 := by rw [← e3]; exact ⟨fm0 (by decide), fm1 (by decide)⟩
  refine l_dput D2.d (sz1 (show 3 < 1000000 by decide)) ?_
  walk_at "go"
  rw [sk_pstate]
  generalize eH3 : upd H2 δ.d (.dK (skv δ.g x3 (ct + 1))) = H3
  have D3 : BagAt H3 δ gs x3 (ct + 1) := by
    subst eH3
    exact ⟨upd_same, by rw [upd_ne ne.symm]; exact D2.g, D2.few, b3.1, b3.2⟩
  have s3 : Same (hid δ.l H) (hid δ.l H3) := by
    subst eH3
    rw [hid_l dm]; exact s2
  walk_at "go"
  refine l_I (.inl ⟨by omega, by omega⟩) ?_
  walk_at "go"
  refine l_I (.inl ⟨by decide, by decide⟩) ?_
  walk_at "go"
  refine l_dget D3.d sk_count ?_
  walk_at "go"
  refine .inl ⟨_, rfl, ?_⟩
  walk_at "go"
  refine l_I (by decide) ?_
  walk_at "go"
  refine l_I ⟨by decide, by decide⟩ ?_
  walk_at "go"
  refine .inl ⟨_, rfl, ?_⟩
  walk_at "go"
  refine l_I (show m ≠ 0 by omega) ?_
  walk_at "go"
  exact q _ _ (fm0 (by omega)) (fun _ => fm1 (by omega)) (fun z => by omega) ⟨gs, x3, ct + 1, D3⟩ s3

end
end SC.S
namespace SC.S
open PySem PySem.Spec PyProof.Rows L2 StrLaws
local macro_rules | `(tactic| walk_at "go") => `(tactic| ((try dsimp only [cxOf, Cx.nox, Cx.wish]); repeat (first
  | (with_reducible refine g_seq ?_)
  | (with_reducible refine g_asg ?_)
  | (with_reducible refine g_asg2 ?_)
  | (with_reducible refine g_ret ?_)
  | (with_reducible refine g_drop ?_)
  | (with_reducible refine g_next ?_)
  | (with_reducible refine g_ifs ?_)
  | (with_reducible refine g_par ?_)
  | (with_reducible refine g_par3 ?_)
  | ((with_reducible refine' g_var ?hv ?_); (case hv => exact rfl))
  | (with_reducible refine g_c ?_)
  | ((with_reducible refine' g_aug ?hv ?_); (case hv => exact rfl))
  | (with_reducible refine l_ip ?_)
  | (with_reducible refine g_op ?_)
  | (with_reducible refine g_un ?_)
  | (with_reducible refine g_cons ?_)
  | (with_reducible refine g_nil ?_)
  | (with_reducible refine g_cb ?_)
  | (with_reducible refine g_call ?_)
  | (with_reducible refine g_callK ?_)
  | (with_reducible refine g_test ?_)
  | (with_reducible refine g_b ?_)
  | (with_reducible refine g_not ?_)
  | (with_reducible refine g_chain ?_)
  | (with_reducible refine g_notV ?_)
  | (with_reducible refine g_and ?_)
  | (with_reducible refine g_or ?_)
  | (with_reducible refine g_ifx ?_)
  | (with_reducible refine g_isN ?_)
  | (with_reducible refine g_notN ?_)
  | (with_reducible refine g_andV ?_)
  | (with_reducible refine g_orV ?_)
  | (with_reducible refine g_bm ?_)
  | (with_reducible refine g_bm0 ?_)
  | (with_reducible refine g_sl ?_)
  | (with_reducible refine g_part ?_)
  | (with_reducible refine g_nopart ?_)
  | (with_reducible refine g_dget ?_)
  | (with_reducible refine g_dput ?_)
  | (with_reducible refine g_tup ?_)
  | (with_reducible refine g_lst ?_)
  | (with_reducible refine g_yes ?_)
  | (with_reducible refine g_name ?_)
  | (with_reducible refine g_gsub ?_)
  | (with_reducible refine g_iList ?_)
  | (with_reducible refine g_iTup ?_)
  | (with_reducible refine g_for ?_)
  | (with_reducible refine g_lc ?_)
  | (with_reducible refine g_rng1 ?_)
  | (with_reducible refine g_rng2 ?_)
  | (with_reducible refine g_rng3 ?_)
  | (with_reducible refine g_iZip ?_)
  | (with_reducible refine g_allT ?_)
  | (with_reducible refine g_iZipA ?_)
  | (with_reducible refine g_iZip3 ?_)
  | (with_reducible refine g_iZipM ?_)
  | (with_reducible refine g_iZipN ?_)
  | (with_reducible refine g_din ?_)
  | (with_reducible refine g_dc2 ?_)
  | (with_reducible refine g_iItems ?_)
  | (with_reducible refine g_minAbs ?_)
  | (with_reducible refine g_dnotin ?_)
  | (with_reducible refine g_iRev ?_)
  | (with_reducible refine g_dcT ?_)
  | (with_reducible refine g_dc ?_)
  | (with_reducible refine g_iEnumT ?_)
  | (with_reducible refine g_iEnum ?_)
  | (with_reducible refine g_lstRg ?_)
  | (with_reducible refine g_lz ?_)
  | (with_reducible refine g_tz ?_)
  | (with_reducible refine g_rg1 ?_)
  | (with_reducible refine g_gcons ?_)
  | (with_reducible refine g_gnil ?_)
  | (with_reducible refine l_bl ?_)
  | (with_reducible refine l_int ?_)
  | (with_reducible refine l_two ?_)
  | (with_reducible refine l_three ?_)
  | (with_reducible refine l_I0 ?_)
  | (with_reducible refine l_U ?_)
  | dsimp only)))
section
variable {P : Program} {w : World} {K : PySem.W.Frag} {mg : Str → Option Value} {base : Heap}
/-! ### _law_pick -/
def spPick (K : PySem.W.Frag) : Sp := fun vs H Q _ => ∃ (δ : Dk) (a : Addr) (xs : List V), vs = [.ref δ.d, .ref a] ∧ Bag H δ ∧ SqL K (hid δ.l H) a xs ∧ xs ≠ [] ∧ xs.length ≤ 1000000 ∧
  ∀ x H', x ∈ xs → Bag H' δ → Same (hid δ.l H) (hid δ.l H') → Q x H'
theorem ok_l_pick (T : Tx K mg) : FnOk P w K mg base CX0 2 T.f_l_pick T.fd_l_pick ["deck", "some"] (spPick K) := by
  refine T.F_l_pick.ok sc_l_pick (fun vs H Q E h => ?_) (fun cdv A outer s H vs Q E hr h => ?_)
  · obtain ⟨_, _, _, rfl, _⟩ := h
    rfl
  obtain ⟨δ, a, xs, rfl, D, hx, hne, hz, q⟩ := h
  refine ⟨_, (pss_one (ps_ret (pe_ix ix_list (pv 1) (pe_call (ok_l_draw T) (hr.mono (by first | decide | omega)) (by rfl) T.g_l_draw T.F_l_draw.kp T.b_l_draw .nil pass0 (pa_cons (pv 0) (pa_cons (pe_callB call_len_seq (by rfl) T.m_len PySem.boot_len (pa_cons (pv 1) pa_nil)) pa_nil))) (fun _ _ => rfl)))), ?_⟩
  have hl : xs.length ≠ 0 := fun e => hne (List.eq_nil_of_length_eq_zero e)
  walk_at "go"
  refine ⟨_, _, rfl, .inl (hid_same.seq hx), ?_⟩
  walk_at "go"
  refine ⟨δ, _, rfl, D, lim_of (by omega) (by omega), fun v H' h0 h1 _ D' s' => ?_⟩
  have h1 := h1 (by omega)
  have hx' : SqL K H' a xs := hid_same.seq (s'.seq hx)
  obtain ⟨x, e, hm⟩ := at_nat (xs := xs) h0 (by omega)
  exact l_ixL hx' e (q x H' hm D' s')
/-- one of some integers, told on the spot -/
theorem pick_ints {δ : Dk} {H : Hp} {p : Addr} {is : List Int} {Q : VK} {E : XK} (D : Bag H δ) (np : H p = none) (hne : is ≠ []) (hl : is.length ≤ 1000000)
    (q : ∀ i H', i ∈ is → Bag H' δ → Same (hid δ.l H) (hid δ.l H') → Q (.int i) H') : spPick K [.ref δ.d, .ref p] (upd H p (.lst (is.map V.int))) Q E := by
  have z := same_new (o := .lst (is.map V.int)) np
  refine ⟨δ, p, _, rfl, bag_new D z, sq_l (hid_put (bag_out D np) upd_same), fun e => hne (List.map_eq_nil_iff.mp e), by rw [List.length_map]; exact hl, fun x H' hx D' s' => ?_⟩
  obtain ⟨i, hi, rfl⟩ := List.mem_map.mp hx
  exact q i H' hi D' ((same_hid z).trans s')

end
end SC.S
namespace SC.S
open PySem PySem.Spec PyProof.Rows L2 StrLaws
local macro_rules | `(tactic| walk_at "go") => `(tactic| ((try dsimp only [cxOf, Cx.nox, Cx.wish]); repeat (first
  | (with_reducible refine g_seq ?_)
  | (with_reducible refine g_asg ?_)
  | (with_reducible refine g_asg2 ?_)
  | (with_reducible refine g_ret ?_)
  | (with_reducible refine g_drop ?_)
  | (with_reducible refine g_next ?_)
  | (with_reducible refine g_ifs ?_)
  | (with_reducible refine g_par ?_)
  | (with_reducible refine g_par3 ?_)
  | ((with_reducible refine' g_var ?hv ?_); (case hv => exact rfl))
  | (with_reducible refine g_c ?_)
  | ((with_reducible refine' g_aug ?hv ?_); (case hv => exact rfl))
  | (with_reducible refine l_ip ?_)
  | (with_reducible refine g_op ?_)
  | (with_reducible refine g_un ?_)
  | (with_reducible refine g_cons ?_)
  | (with_reducible refine g_nil ?_)
  | (with_reducible refine g_cb ?_)
  | (with_reducible refine g_call ?_)
  | (with_reducible refine g_callK ?_)
  | (with_reducible refine g_test ?_)
  | (with_reducible refine g_b ?_)
  | (with_reducible refine g_not ?_)
  | (with_reducible refine g_chain ?_)
  | (with_reducible refine g_notV ?_)
  | (with_reducible refine g_and ?_)
  | (with_reducible refine g_or ?_)
  | (with_reducible refine g_ifx ?_)
  | (with_reducible refine g_isN ?_)
  | (with_reducible refine g_notN ?_)
  | (with_reducible refine g_andV ?_)
  | (with_reducible refine g_orV ?_)
  | (with_reducible refine g_bm ?_)
  | (with_reducible refine g_bm0 ?_)
  | (with_reducible refine g_sl ?_)
  | (with_reducible refine g_part ?_)
  | (with_reducible refine g_nopart ?_)
  | (with_reducible refine g_dget ?_)
  | (with_reducible refine g_dput ?_)
  | (with_reducible refine g_tup ?_)
  | (with_reducible refine g_lst ?_)
  | (with_reducible refine g_yes ?_)
  | (with_reducible refine g_name ?_)
  | (with_reducible refine g_gsub ?_)
  | (with_reducible refine g_iList ?_)
  | (with_reducible refine g_iTup ?_)
  | (with_reducible refine g_for ?_)
  | (with_reducible refine g_lc ?_)
  | (with_reducible refine g_rng1 ?_)
  | (with_reducible refine g_rng2 ?_)
  | (with_reducible refine g_rng3 ?_)
  | (with_reducible refine g_iZip ?_)
  | (with_reducible refine g_allT ?_)
  | (with_reducible refine g_iZipA ?_)
  | (with_reducible refine g_iZip3 ?_)
  | (with_reducible refine g_iZipM ?_)
  | (with_reducible refine g_iZipN ?_)
  | (with_reducible refine g_din ?_)
  | (with_reducible refine g_dc2 ?_)
  | (with_reducible refine g_iItems ?_)
  | (with_reducible refine g_minAbs ?_)
  | (with_reducible refine g_dnotin ?_)
  | (with_reducible refine g_iRev ?_)
  | (with_reducible refine g_dcT ?_)
  | (with_reducible refine g_dc ?_)
  | (with_reducible refine g_iEnumT ?_)
  | (with_reducible refine g_iEnum ?_)
  | (with_reducible refine g_lstRg ?_)
  | (with_reducible refine g_lz ?_)
  | (with_reducible refine g_tz ?_)
  | (with_reducible refine g_rg1 ?_)
  | (with_reducible refine g_gcons ?_)
  | (with_reducible refine g_gnil ?_)
  | (with_reducible refine l_bl ?_)
  | (with_reducible refine l_int ?_)
  | (with_reducible refine l_two ?_)
  | (with_reducible refine l_three ?_)
  | (with_reducible refine l_I0 ?_)
  | (with_reducible refine l_U ?_)
  | dsimp only)))
section
variable {P : Program} {w : World} {K : PySem.W.Frag} {mg : Str → Option Value} {base : Heap}
/-! ### _law_mixed -/
def spMixed (K : PySem.W.Frag) : Sp := fun vs H Q _ => ∃ (δ : Dk) (a : Addr) (xs : List V), vs = [.ref δ.d, .ref a] ∧ Bag H δ ∧ SqL K (hid δ.l H) a xs ∧ (∀ x ∈ xs, Nm K (hid δ.l H) x) ∧ xs.length ≤ 1000 ∧
  ∀ ys p H', ys.Perm xs → H p = none → Bag H' δ → H' p = some (.lst ys) → Same (hid δ.l H) (hid δ.l H') → Q (.ref p) H'
theorem ok_l_mixed (T : Tx K mg) : FnOk P w K mg base CX0 2 T.f_l_mixed T.fd_l_mixed ["deck", "own"] (spMixed K) := by
  refine T.F_l_mixed.ok sc_l_mixed (fun vs H Q E h => ?_) (fun cdv A outer s H vs Q E hr h => ?_)
  · obtain ⟨_, _, _, rfl, _⟩ := h
    rfl
  obtain ⟨δ, a, xs, rfl, D, hx, hn, hz, q⟩ := h
  refine ⟨_, (pss_cons (ps_par (i := 2) (j := 3) (by rfl) sc_l_mixed.nd rfl rfl (by decide) rfl rfl (pa_cons (pe_callTy call_list_of (by rfl) T.m_list (by decide +kernel) (pa_cons (pv 1) pa_nil)) (pa_cons (pe_lst pa_nil) pa_nil)) (by rfl))
      (pss_cons (ps_while PassesOwn.never (pt_cmpR (op_neD hr.units) (pv 2) (pe_lst pa_nil) (nomark _)) (pss_one (ps_expr (pe_bm PySem.F.plainAttrs_list PySem.F.slot_list_append PySem.F.type_list_append mt_append (pv 3) (pa_cons (pe_bm PySem.F.plainAttrs_list PySem.F.slot_list_pop PySem.F.type_list_pop mt_popAt (pv 2) (pa_cons (pe_call (ok_l_draw T) (hr.mono (by first | decide | omega)) (by rfl) T.g_l_draw T.F_l_draw.kp T.b_l_draw .nil pass0 (pa_cons (pv 0) (pa_cons (pe_callB call_len_seq (by rfl) T.m_len PySem.boot_len (pa_cons (pv 2) pa_nil)) pa_nil))) pa_nil)) pa_nil)))))
      (pss_one (ps_ret (pv 3))))), ?_⟩
  walk_at "go"
  refine ⟨a, xs, rfl, .inl (hid_same.seq hx), fun l nl => ?_⟩
  walk_at "go"
  refine ⟨Nat.zero_le _, fun f nf => ?_⟩
  walk_at "go"
  have l3 := bag_out D nl
  have s1 : Same H (upd H l (.lst xs)) := same_new nl
  have nf0 : H f = none := s1.free nf
  have f3 := bag_out D nf0
  have lf : l ≠ f := fun e => by rw [e, upd_same] at nf; cases nf
  refine ⟨fun m σ H' => ∃ ls fs, m = ls.length ∧ σ = [some (.ref δ.d), some (.ref a), some (.ref l), some (.ref f)] ∧ Bag H' δ ∧ H' l = some (.lst ls) ∧ H' f = some (.lst fs) ∧
      (ls ++ fs).Perm xs ∧ Same (hid δ.l H) (hid δ.l H'), ⟨xs.length, xs, [], rfl, rfl, ?_, ?_, upd_same, by simp, ?_⟩, ?_⟩
  · exact bag_new (bag_new D s1) (same_new nf)
  · rw [upd_ne lf, upd_same]
  · exact same_hid (s1.trans (same_new nf))
  rintro m σ H1 ⟨ls, fs, rfl, rfl, D1, e1, e2, hp, s⟩
  have mem : ∀ x ∈ ls, x ∈ xs := fun x hm => hp.mem_iff.mp (List.mem_append_left _ hm)
  have lenl : ls.length + fs.length = xs.length := by rw [← List.length_append]; exact hp.length_eq
  have nl1 : hid δ.l H l = none := hid_none nl
  have nf1 : hid δ.l H f = none := hid_none nf0
  walk_at "go"
  refine ⟨Nat.zero_le _, fun p np => ?_⟩
  have s2 : Same H1 (upd H1 p (.lst [])) := same_new np
  refine l_neN (sq_l (s2 _ _ e1)) (fun x hm => ((hn x (mem x hm)).same s).same (hid_same.trans s2)) upd_same ?_
  walk_at "go"
  have D2 := bag_new D1 s2
  have e12 := s2 _ _ e1
  have e22 := s2 _ _ e2
  have s3 := s.trans (same_hid (D := δ.l) s2)
  generalize upd H1 p (.lst []) = H2 at D2 e12 e22 s3
  refine iteBo (fun h3 => ?_) (fun h3 => ?_)
  · refine ⟨_, fun σ' H' z => z, ?_⟩
    have hne : ls.length ≠ 0 := fun e => by rw [List.eq_nil_of_length_eq_zero e] at h3; cases h3
    walk_at "go"
    refine l_tyL (sq_l e22) ?_
    walk_at "go"
    refine l_tyL (sq_l e12) ?_
    walk_at "go"
    refine ⟨_, _, rfl, .inl (sq_l e12), ?_⟩
    walk_at "go"
    refine ⟨δ, _, rfl, D2, lim_of (by omega) (by omega), fun v H3 h0 h1 _ D4 s4 => ?_⟩
    have h1 := h1 (by omega)
    have g1 := (hid_get (s4 _ _ (hid_put l3 e12))).2
    have g2 := (hid_get (s4 _ _ (hid_put f3 e22))).2
    have hk : v.toNat < ls.length := by omega
    walk_at "go"
    refine l_popAt (k := v.toNat) g1 (by omega) (List.getElem?_eq_getElem hk) (by omega) ?_
    walk_at "go"
    refine l_app (xs := fs) (by rw [upd_ne lf.symm]; exact g2) (sz1 (by omega)) ?_
    walk_at "go"
    refine ⟨(ls.eraseIdx v.toNat).length, by have := erase_len hk; omega, _, _, rfl, rfl, ?_, ?_, upd_same, ?_, ?_⟩
    · exact bag_mut (bag_mut D4 l3) f3
    · rw [upd_ne lf, upd_same]
    · refine List.Perm.trans ?_ hp
      rw [← List.append_assoc]
      refine List.perm_append_comm.trans ?_
      rw [List.singleton_append, ← List.cons_append]
      exact (perm_erase (List.getElem?_eq_getElem hk)).append_right fs
    · exact hid_mut (hid_mut (s3.trans s4) nl1) nf1
  · have he : ls = [] := by
      cases ls with
      | nil => rfl
      | cons x r => cases h3
    subst he
    walk_at "go"
    exact q fs f H2 hp nf0 D2 e22 s3

end
end SC.S
namespace SC.S
open PySem PySem.Spec PyProof.Rows L2 StrLaws
local macro_rules | `(tactic| walk_at "go") => `(tactic| ((try dsimp only [cxOf, Cx.nox, Cx.wish]); repeat (first
  | (with_reducible refine g_seq ?_)
  | (with_reducible refine g_asg ?_)
  | (with_reducible refine g_asg2 ?_)
  | (with_reducible refine g_ret ?_)
  | (with_reducible refine g_drop ?_)
  | (with_reducible refine g_next ?_)
  | (with_reducible refine g_ifs ?_)
  | (with_reducible refine g_par ?_)
  | (with_reducible refine g_par3 ?_)
  | ((with_reducible refine' g_var ?hv ?_); (case hv => exact rfl))
  | (with_reducible refine g_c ?_)
  | ((with_reducible refine' g_aug ?hv ?_); (case hv => exact rfl))
  | (with_reducible refine l_ip ?_)
  | (with_reducible refine g_op ?_)
  | (with_reducible refine g_un ?_)
  | (with_reducible refine g_cons ?_)
  | (with_reducible refine g_nil ?_)
  | (with_reducible refine g_cb ?_)
  | (with_reducible refine g_call ?_)
  | (with_reducible refine g_callK ?_)
  | (with_reducible refine g_test ?_)
  | (with_reducible refine g_b ?_)
  | (with_reducible refine g_not ?_)
  | (with_reducible refine g_chain ?_)
  | (with_reducible refine g_notV ?_)
  | (with_reducible refine g_and ?_)
  | (with_reducible refine g_or ?_)
  | (with_reducible refine g_ifx ?_)
  | (with_reducible refine g_isN ?_)
  | (with_reducible refine g_notN ?_)
  | (with_reducible refine g_andV ?_)
  | (with_reducible refine g_orV ?_)
  | (with_reducible refine g_bm ?_)
  | (with_reducible refine g_bm0 ?_)
  | (with_reducible refine g_sl ?_)
  | (with_reducible refine g_part ?_)
  | (with_reducible refine g_nopart ?_)
  | (with_reducible refine g_dget ?_)
  | (with_reducible refine g_dput ?_)
  | (with_reducible refine g_tup ?_)
  | (with_reducible refine g_lst ?_)
  | (with_reducible refine g_yes ?_)
  | (with_reducible refine g_name ?_)
  | (with_reducible refine g_gsub ?_)
  | (with_reducible refine g_iList ?_)
  | (with_reducible refine g_iTup ?_)
  | (with_reducible refine g_for ?_)
  | (with_reducible refine g_lc ?_)
  | (with_reducible refine g_rng1 ?_)
  | (with_reducible refine g_rng2 ?_)
  | (with_reducible refine g_rng3 ?_)
  | (with_reducible refine g_iZip ?_)
  | (with_reducible refine g_allT ?_)
  | (with_reducible refine g_iZipA ?_)
  | (with_reducible refine g_iZip3 ?_)
  | (with_reducible refine g_iZipM ?_)
  | (with_reducible refine g_iZipN ?_)
  | (with_reducible refine g_din ?_)
  | (with_reducible refine g_dc2 ?_)
  | (with_reducible refine g_iItems ?_)
  | (with_reducible refine g_minAbs ?_)
  | (with_reducible refine g_dnotin ?_)
  | (with_reducible refine g_iRev ?_)
  | (with_reducible refine g_dcT ?_)
  | (with_reducible refine g_dc ?_)
  | (with_reducible refine g_iEnumT ?_)
  | (with_reducible refine g_iEnum ?_)
  | (with_reducible refine g_lstRg ?_)
  | (with_reducible refine g_lz ?_)
  | (with_reducible refine g_tz ?_)
  | (with_reducible refine g_rg1 ?_)
  | (with_reducible refine g_gcons ?_)
  | (with_reducible refine g_gnil ?_)
  | (with_reducible refine l_bl ?_)
  | (with_reducible refine l_int ?_)
  | (with_reducible refine l_two ?_)
  | (with_reducible refine l_three ?_)
  | (with_reducible refine l_I0 ?_)
  | (with_reducible refine l_U ?_)
  | dsimp only)))
section
variable {P : Program} {w : World} {K : PySem.W.Frag} {mg : Str → Option Value} {base : Heap}
/-! ### _law_common -/
def spDiv : Sp := fun vs H Q _ => ∃ a b : Int, vs = [.int a, .int b] ∧ Q (.int (Nat.gcd a.natAbs b.natAbs : Nat)) H
theorem ok_l_common (T : Tx K mg) : FnOk P w K mg base CX0 1 T.f_l_common T.fd_l_common ["one", "two"] spDiv := by
  refine T.F_l_common.ok sc_l_common (fun vs H Q E h => ?_) (fun cdv A outer s H vs Q E hr h => ?_)
  · obtain ⟨_, _, rfl, _⟩ := h
    rfl
  obtain ⟨a, b, rfl, q⟩ := h
  refine ⟨_, (pss_cons (ps_par (i := 0) (j := 1) (by rfl) sc_l_common.nd rfl rfl (by decide) rfl rfl (pa_cons (pe_callB call_abs (by rfl) T.m_abs (by decide +kernel) (pa_cons (pv 0) pa_nil)) (pa_cons (pe_callB call_abs (by rfl) T.m_abs (by decide +kernel) (pa_cons (pv 1) pa_nil)) pa_nil)) (by rfl))
      (pss_cons (ps_while PassesOwn.never (pt_cmpR op_gt (pv 1) pe_int (nomark _)) (pss_one (ps_par (i := 0) (j := 1) (by rfl) sc_l_common.nd rfl rfl (by decide) rfl rfl (pa_cons (pv 1) (pa_cons (pe_op op_modN (pe_callTy call_int1 (by rfl) T.m_int (by decide +kernel) (pa_cons (pv 0) pa_nil)) (pv 1)) pa_nil)) (by rfl))))
      (pss_one (ps_ret (pv 0))))), ?_⟩
  walk_at "go"
  refine ⟨_, rfl, ?_⟩
  walk_at "go"
  refine ⟨_, rfl, ?_⟩
  walk_at "go"
  rw [abs_ite, abs_ite]
  refine ⟨fun m σ H' => ∃ x y : Nat, y = m ∧ σ = [some (.int x), some (.int y)] ∧ Nat.gcd x y = Nat.gcd a.natAbs b.natAbs ∧ H' = H, ⟨b.natAbs, a.natAbs, b.natAbs, rfl, rfl, rfl, rfl⟩, ?_⟩
  rintro m σ H1 ⟨x, y, hy0, rfl, e, rfl⟩
  subst hy0
  walk_at "go"
  refine iteB (fun h3 => ?_) (fun h3 => ?_)
  · refine ⟨_, fun σ' H' z => z, ?_⟩
    walk_at "go"
    refine .inl ⟨_, rfl, ?_⟩
    walk_at "go"
    refine l_I (show (y : Int) ≠ 0 by omega) ?_
    walk_at "go"
    have hm : ((x : Int)).fmod (y : Int) = ((x % y : Nat) : Int) := by
      rw [Int.fmod_eq_emod_of_nonneg _ (by omega)]
      exact (Int.natCast_emod x y).symm
    rw [hm]
    have hy : 0 < y := by omega
    refine ⟨x % y, Nat.mod_lt _ hy, y, x % y, rfl, rfl, ?_, rfl⟩
    rw [← e, Nat.gcd_comm y, ← Nat.gcd_rec, Nat.gcd_comm]
  · have hy : y = 0 := by omega
    subst hy
    walk_at "go"
    rw [Nat.gcd_zero_right] at e
    rw [← e] at q
    exact q

end
end SC.S
namespace SC.S
open PySem PySem.Spec PyProof.Rows L2 StrLaws
local macro_rules | `(tactic| walk_at "go") => `(tactic| ((try dsimp only [cxOf, Cx.nox, Cx.wish]); repeat (first
  | (with_reducible refine g_seq ?_)
  | (with_reducible refine g_asg ?_)
  | (with_reducible refine g_asg2 ?_)
  | (with_reducible refine g_ret ?_)
  | (with_reducible refine g_drop ?_)
  | (with_reducible refine g_next ?_)
  | (with_reducible refine g_ifs ?_)
  | (with_reducible refine g_par ?_)
  | (with_reducible refine g_par3 ?_)
  | ((with_reducible refine' g_var ?hv ?_); (case hv => exact rfl))
  | (with_reducible refine g_c ?_)
  | ((with_reducible refine' g_aug ?hv ?_); (case hv => exact rfl))
  | (with_reducible refine l_ip ?_)
  | (with_reducible refine g_op ?_)
  | (with_reducible refine g_un ?_)
  | (with_reducible refine g_cons ?_)
  | (with_reducible refine g_nil ?_)
  | (with_reducible refine g_cb ?_)
  | (with_reducible refine g_call ?_)
  | (with_reducible refine g_callK ?_)
  | (with_reducible refine g_test ?_)
  | (with_reducible refine g_b ?_)
  | (with_reducible refine g_not ?_)
  | (with_reducible refine g_chain ?_)
  | (with_reducible refine g_notV ?_)
  | (with_reducible refine g_and ?_)
  | (with_reducible refine g_or ?_)
  | (with_reducible refine g_ifx ?_)
  | (with_reducible refine g_isN ?_)
  | (with_reducible refine g_notN ?_)
  | (with_reducible refine g_andV ?_)
  | (with_reducible refine g_orV ?_)
  | (with_reducible refine g_bm ?_)
  | (with_reducible refine g_bm0 ?_)
  | (with_reducible refine g_sl ?_)
  | (with_reducible refine g_part ?_)
  | (with_reducible refine g_nopart ?_)
  | (with_reducible refine g_dget ?_)
  | (with_reducible refine g_dput ?_)
  | (with_reducible refine g_tup ?_)
  | (with_reducible refine g_lst ?_)
  | (with_reducible refine g_yes ?_)
  | (with_reducible refine g_name ?_)
  | (with_reducible refine g_gsub ?_)
  | (with_reducible refine g_iList ?_)
  | (with_reducible refine g_iTup ?_)
  | (with_reducible refine g_for ?_)
  | (with_reducible refine g_lc ?_)
  | (with_reducible refine g_rng1 ?_)
  | (with_reducible refine g_rng2 ?_)
  | (with_reducible refine g_rng3 ?_)
  | (with_reducible refine g_iZip ?_)
  | (with_reducible refine g_allT ?_)
  | (with_reducible refine g_iZipA ?_)
  | (with_reducible refine g_iZip3 ?_)
  | (with_reducible refine g_iZipM ?_)
  | (with_reducible refine g_iZipN ?_)
  | (with_reducible refine g_din ?_)
  | (with_reducible refine g_dc2 ?_)
  | (with_reducible refine g_iItems ?_)
  | (with_reducible refine g_minAbs ?_)
  | (with_reducible refine g_dnotin ?_)
  | (with_reducible refine g_iRev ?_)
  | (with_reducible refine g_dcT ?_)
  | (with_reducible refine g_dc ?_)
  | (with_reducible refine g_iEnumT ?_)
  | (with_reducible refine g_iEnum ?_)
  | (with_reducible refine g_lstRg ?_)
  | (with_reducible refine g_lz ?_)
  | (with_reducible refine g_tz ?_)
  | (with_reducible refine g_rg1 ?_)
  | (with_reducible refine g_gcons ?_)
  | (with_reducible refine g_gnil ?_)
  | (with_reducible refine l_bl ?_)
  | (with_reducible refine l_int ?_)
  | (with_reducible refine l_two ?_)
  | (with_reducible refine l_three ?_)
  | (with_reducible refine l_I0 ?_)
  | (with_reducible refine l_U ?_)
  | dsimp only)))
section
variable {P : Program} {w : World} {K : PySem.W.Frag} {mg : Str → Option Value} {base : Heap}
/-! ### _law_deck -/
def spDeck (K : PySem.W.Frag) : Sp := fun vs H Q _ => ∃ (a : Addr) (ns : List Int), vs = [.ref a] ∧ SqL K H a (ns.map V.int) ∧ ns.length ≤ 63 ∧
  ∀ (δ : Dk) H', H δ.d = none → Bag H' δ → Same H H' → Q (.ref δ.d) H'
theorem cut63 (xs : List V) (h : xs.length ≤ 63) : cutV xs none (some 63) = xs := by
  unfold cutV
  rw [HT.sIx_none, show HT.sIx xs.length xs.length (some 63) = min 63 xs.length from HT.sIx_nat xs.length xs.length 63, List.drop_zero]
  exact List.take_of_length_le (by omega)
theorem ok_l_deck (T : Tx K mg) : FnOk P w K mg base CX0 1 T.f_l_deck T.fd_l_deck ["script"] (spDeck K) := by
  refine T.F_l_deck.ok sc_l_deck (fun vs H Q E h => ?_) (fun cdv A outer s H vs Q E hr h => ?_)
  · obtain ⟨_, _, rfl, _⟩ := h
    rfl
  obtain ⟨a, ns, rfl, hx, hz, q⟩ := h
  refine ⟨_, (pss_cons (ps_set (i := 1) sc_l_deck.nd rfl (Or.inl rfl) (pe_disp (pps_cons pe_str (pe_lst pa_nil) (pps_cons pe_str (pe_op op_add pe_int (pe_callB call_len_seq (by rfl) T.m_len PySem.boot_len (pa_cons (pe_slice sl_list (pv 0) po_none (po_some pe_int)) pa_nil))) (pps_cons pe_str pe_int pps_nil))) (by rfl) (by rfl) (fun z => by cases z) (by decide)))
      (pss_cons (ps_for PassesOwn.never rfl (pi_list (pe_slice sl_list (pv 0) po_none (po_some pe_int))) (pg_name (i := 2) sc_l_deck.nd rfl (Or.inl rfl)) (Evl.pss_cut (ps_if (pt_cmpR op_ge (pe_callB call_abs (by rfl) T.m_abs (by decide +kernel) (pa_cons (pv 2) pa_nil)) (pe_op op_pow pe_int pe_int) (nomark _)) (pss_one (ps_dput (hu_of hr) (pv 1) pe_str (pe_op op_cat (pe_lst (pa_cons (pe_callB call_abs (by rfl) T.m_abs (by decide +kernel) (pa_cons (pv 2) pa_nil)) pa_nil)) (pe_dget (hu_of hr) (pv 1) pe_str (fun _ _ => rfl))) rfl)) pss_nil)
      (pss_cons (ps_set (i := 3) sc_l_deck.nd rfl (Or.inl rfl) (pe_op op_add (pe_op op_mul pe_int (pe_callB call_abs (by rfl) T.m_abs (by decide +kernel) (pa_cons (pv 2) pa_nil))) (pe_callTy call_int1 (by rfl) T.m_int (by decide +kernel) (pa_cons (pe_cmpR op_lt (pv 2) pe_int (nomark _)) pa_nil))))
      (pss_one (ps_dput (hu_of hr) (pv 1) pe_str (pe_op op_modN (pe_callTy call_int1 (by rfl) T.m_int (by decide +kernel) (pa_cons (pe_op op_add (pe_op op_mul (pe_op op_add (pe_op op_add (pe_dget (hu_of hr) (pv 1) pe_str (fun _ _ => rfl)) (pv 3)) pe_int) pe_int) pe_int) pa_nil)) pe_int) rfl)))))
      (pss_one (ps_ret (pv 1))))), ?_⟩
  have hz' : (ns.map V.int).length ≤ 63 := by rw [List.length_map]; exact hz
  walk_at "go"
  intro dk ndk
  refine g_pc ?_
  walk_at "go"
  refine ⟨Nat.zero_le _, fun gr ngr => ?_⟩
  have s1 : Same H (upd H dk (.dK [])) := same_new ndk
  have ngr0 : H gr = none := s1.free ngr
  have ne : dk ≠ gr := fun e => by rw [e, upd_same] at ngr; cases ngr
  refine g_pc ?_
  walk_at "go"
  refine ⟨a, ns.map V.int, rfl, same_seq (s1.trans (same_new ngr)) hx, fun c nc => ?_⟩
  have s2 : Same (upd H dk (.dK [])) (upd (upd H dk (.dK [])) gr (.lst [])) := same_new ngr
  have s3 : Same (upd (upd H dk (.dK [])) gr (.lst [])) (upd (upd (upd H dk (.dK [])) gr (.lst [])) c (.lst (cutV (ns.map V.int) none (some 63)))) := same_new nc
  rw [cut63 _ hz'] at s3 ⊢
  walk_at "go"
  refine ⟨_, _, rfl, .inl (sq_l upd_same), ?_⟩
  walk_at "go"
  refine g_pc ?_
  walk_at "go"
  refine g_pn ?_
  have d1 : (upd (upd (upd H dk (.dK [])) gr (.lst [])) c (.lst (ns.map V.int))) dk = some (.dK []) := s3 _ _ (s2 _ _ upd_same)
  have g1 : (upd (upd (upd H dk (.dK [])) gr (.lst [])) c (.lst (ns.map V.int))) gr = some (.lst []) := s3 _ _ upd_same
  have st := s1.trans (s2.trans s3)
  generalize upd (upd (upd H dk (.dK [])) gr (.lst [])) c (.lst (ns.map V.int)) = H1 at d1 g1 st
  have em : mergeK [] (skv gr (12797 + ((ns.map V.int).length : Nat)) 0) = skv gr (12797 + ((ns.map V.int).length : Nat)) 0 := rfl
  refine ⟨d1, skv gr (12797 + ((ns.map V.int).length : Nat)) 0, rfl, by show 3 ≤ 15; decide, ?_⟩
  rw [em]
  walk_at "go"
  have s4 : Same H (upd H1 dk (.dK (skv gr (12797 + ((ns.map V.int).length : Nat)) 0))) := same_mut st ndk
  refine ⟨a, ns.map V.int, rfl, same_seq s4 hx, fun c2 nc2 => ?_⟩
  rw [cut63 _ hz']
  refine ⟨c2, rfl, ⟨_, sq_l upd_same⟩, ?_⟩
  have cdk : dk ≠ c2 := fun e => by rw [← e, upd_same] at nc2; cases nc2
  have cgr : gr ≠ c2 := fun e => by rw [← e, upd_ne ne.symm, g1] at nc2; cases nc2
  refine for_L (xs := ns.map V.int) (fun i σ H' => ∃ y2 y3 gr' gs mx, σ = [some (.ref a), some (.ref dk), y2, y3] ∧ BagAt H' ⟨dk, gr'⟩ gs mx 0 ∧ gs.length ≤ i ∧ Same H H' ∧ H' c2 = some (.lst (ns.map V.int)))
    ⟨none, none, gr, [], 12797 + ((ns.map V.int).length : Nat), rfl, ⟨?_, ?_, by simp, by omega, by omega⟩, by simp, s4.trans (same_new nc2), upd_same⟩ ?_ ?_ ?_
  · rw [upd_ne cdk, upd_same]
  · show (upd _ c2 _) gr = _
    rw [upd_ne cgr, upd_ne ne.symm]; exact g1
  · rintro i σ H' _ ⟨y2, y3, gr', gs, mx, rfl, D, hg, sm, e⟩
    exact sq_l e
  · rintro i x σ H' hi ⟨y2, y3, gr', gs, mx, rfl, D, hg, sm, e⟩
    have hlt : i < ns.length := by have := (List.getElem?_eq_some_iff.mp hi).1; rwa [List.length_map] at this
    have ex : x = .int ns[i] := by
      rw [List.getElem?_map, List.getElem?_eq_getElem hlt] at hi
      exact (Option.some.inj hi).symm
    subst ex
    walk_at "go"
    refine g_cut (fun σ' H2 => ∃ gr2 gs', σ' = [some (.ref a), some (.ref dk), some (.int ns[i]), y3] ∧ BagAt H2 ⟨dk, gr2⟩ gs' mx 0 ∧ gs'.length ≤ i + 1 ∧ Same H H2 ∧ H2 c2 = some (.lst (ns.map V.int))) ?_ ?_
    · walk_at "go"
      refine ⟨_, rfl, ?_⟩
      walk_at "go"
      refine l_I ⟨by decide, by decide, by decide⟩ ?_
      walk_at "go"
      rw [abs_ite]
      refine iteB (fun h3 => ?_) (fun h3 => ?_)
      · walk_at "go"
        refine ⟨_, rfl, ?_⟩
        walk_at "go"
        rw [abs_ite]
        refine ⟨sz (by simp), fun p np => ?_⟩
        have z1 := same_new (o := .lst [.int ((ns[i].natAbs : Nat) : Int)]) np
        walk_at "go"
        refine l_dget (z1 _ _ D.d) sk_deep ?_
        walk_at "go"
        refine ⟨p, gr', [.int ((ns[i].natAbs : Nat) : Int)], gs.map V.int, rfl, rfl, upd_same, z1 _ _ D.g, sz (by rw [List.length_map]; have := D.few; simp; omega), fun l nl => ?_⟩
        have z2 := same_new (o := .lst ([.int ((ns[i].natAbs : Nat) : Int)] ++ gs.map V.int)) nl
        have z12 := z1.trans z2
        walk_at "go"
        refine l_dput (z12 _ _ D.d) (sz1 (show 3 < 1000000 by decide)) ?_
        walk_at "go"
        rw [sk_pdeep]
        have ld : l ≠ dk := fun e => by rw [e, z1 _ _ D.d] at nl; cases nl
        have c2d : c2 ≠ dk := cdk.symm
        refine ⟨l, (ns[i].natAbs : Int) :: gs, rfl, ⟨upd_same, ?_, ?_, D.st0, D.st1⟩, ?_, same_mut (sm.trans z12) ndk, ?_⟩
        · show (upd _ dk _) l = _
          rw [upd_ne ld, upd_same]; rfl
        · rw [List.length_cons]; omega
        · rw [List.length_cons]; omega
        · rw [upd_ne c2d]; exact z12 _ _ e
      · walk_at "go"
        exact ⟨gr', gs, rfl, D, by omega, sm, e⟩
    rintro σ' H2 ⟨gr2, gs', rfl, D2, hg2, sm2, e2⟩
    walk_at "go"
    refine ⟨_, rfl, ?_⟩
    walk_at "go"
    refine l_I (.inl ⟨by decide, by decide⟩) ?_
    walk_at "go"
    refine .inr ⟨_, rfl, ?_⟩
    walk_at "go"
    rw [abs_ite]
    have hw : 0 ≤ 2 * (ns[i].natAbs : Int) + (if decide (ns[i] < 0) = true then 1 else 0) := by split <;> omega
    generalize 2 * (ns[i].natAbs : Int) + (if decide (ns[i] < 0) = true then 1 else 0) = wh at hw ⊢
    refine l_dget D2.d sk_state ?_
    walk_at "go"
    refine l_I (.inr ⟨by decide, by decide⟩) ?_
    walk_at "go"
    refine .inl ⟨_, rfl, ?_⟩
    walk_at "go"
    refine l_I (by decide) ?_
    walk_at "go"
    refine l_dput D2.d (sz1 (show 3 < 1000000 by decide)) ?_
    walk_at "go"
    rw [sk_pstate]
    have gd : gr2 ≠ dk := fun e => by have z := D2.g; rw [show (⟨dk, gr2⟩ : Dk).g = gr2 from rfl, e, D2.d] at z; cases z
    refine ⟨_, _, gr2, gs', _, rfl, ⟨upd_same, ?_, D2.few, fm0 (by decide), fm1 (by decide)⟩, hg2, same_mut sm2 ndk, ?_⟩
    · show (upd _ dk _) gr2 = _
      rw [upd_ne gd]; exact D2.g
    · rw [upd_ne cdk.symm]; exact e2
  · rintro σ H' ⟨y2, y3, gr', gs, mx, rfl, D, hg, sm, e⟩
    walk_at "go"
    exact q ⟨dk, gr'⟩ H' ndk ⟨gs, mx, 0, D⟩ sm

end
end SC.S
namespace SC.S
open PySem PySem.Spec PyProof.Rows L2 StrLaws
local macro_rules | `(tactic| walk_at "go") => `(tactic| ((try dsimp only [cxOf, Cx.nox, Cx.wish]); repeat (first
  | (with_reducible refine g_seq ?_)
  | (with_reducible refine g_asg ?_)
  | (with_reducible refine g_asg2 ?_)
  | (with_reducible refine g_ret ?_)
  | (with_reducible refine g_drop ?_)
  | (with_reducible refine g_next ?_)
  | (with_reducible refine g_ifs ?_)
  | (with_reducible refine g_par ?_)
  | (with_reducible refine g_par3 ?_)
  | ((with_reducible refine' g_var ?hv ?_); (case hv => exact rfl))
  | (with_reducible refine g_c ?_)
  | ((with_reducible refine' g_aug ?hv ?_); (case hv => exact rfl))
  | (with_reducible refine l_ip ?_)
  | (with_reducible refine g_op ?_)
  | (with_reducible refine g_un ?_)
  | (with_reducible refine g_cons ?_)
  | (with_reducible refine g_nil ?_)
  | (with_reducible refine g_cb ?_)
  | (with_reducible refine g_call ?_)
  | (with_reducible refine g_callK ?_)
  | (with_reducible refine g_test ?_)
  | (with_reducible refine g_b ?_)
  | (with_reducible refine g_not ?_)
  | (with_reducible refine g_chain ?_)
  | (with_reducible refine g_notV ?_)
  | (with_reducible refine g_and ?_)
  | (with_reducible refine g_or ?_)
  | (with_reducible refine g_ifx ?_)
  | (with_reducible refine g_isN ?_)
  | (with_reducible refine g_notN ?_)
  | (with_reducible refine g_andV ?_)
  | (with_reducible refine g_orV ?_)
  | (with_reducible refine g_bm ?_)
  | (with_reducible refine g_bm0 ?_)
  | (with_reducible refine g_sl ?_)
  | (with_reducible refine g_part ?_)
  | (with_reducible refine g_nopart ?_)
  | (with_reducible refine g_dget ?_)
  | (with_reducible refine g_dput ?_)
  | (with_reducible refine g_tup ?_)
  | (with_reducible refine g_lst ?_)
  | (with_reducible refine g_yes ?_)
  | (with_reducible refine g_name ?_)
  | (with_reducible refine g_gsub ?_)
  | (with_reducible refine g_iList ?_)
  | (with_reducible refine g_iTup ?_)
  | (with_reducible refine g_for ?_)
  | (with_reducible refine g_lc ?_)
  | (with_reducible refine g_rng1 ?_)
  | (with_reducible refine g_rng2 ?_)
  | (with_reducible refine g_rng3 ?_)
  | (with_reducible refine g_iZip ?_)
  | (with_reducible refine g_allT ?_)
  | (with_reducible refine g_iZipA ?_)
  | (with_reducible refine g_iZip3 ?_)
  | (with_reducible refine g_iZipM ?_)
  | (with_reducible refine g_iZipN ?_)
  | (with_reducible refine g_din ?_)
  | (with_reducible refine g_dc2 ?_)
  | (with_reducible refine g_iItems ?_)
  | (with_reducible refine g_minAbs ?_)
  | (with_reducible refine g_dnotin ?_)
  | (with_reducible refine g_iRev ?_)
  | (with_reducible refine g_dcT ?_)
  | (with_reducible refine g_dc ?_)
  | (with_reducible refine g_iEnumT ?_)
  | (with_reducible refine g_iEnum ?_)
  | (with_reducible refine g_lstRg ?_)
  | (with_reducible refine g_lz ?_)
  | (with_reducible refine g_tz ?_)
  | (with_reducible refine g_rg1 ?_)
  | (with_reducible refine g_gcons ?_)
  | (with_reducible refine g_gnil ?_)
  | (with_reducible refine l_bl ?_)
  | (with_reducible refine l_int ?_)
  | (with_reducible refine l_two ?_)
  | (with_reducible refine l_three ?_)
  | (with_reducible refine l_I0 ?_)
  | (with_reducible refine l_U ?_)
  | dsimp only)))
section
variable {P : Program} {w : World} {K : PySem.W.Frag} {mg : Str → Option Value} {base : Heap}
/-! ### _law_tree -/
/-- the stages' own places above, and how deep each stands -/
structure Abv (many : Nat) (ab dp : List Int) : Prop where
  la : ab.length = many
  ld : dp.length = many
  a0 : many ≠ 0 → ab[0]? = some 0
  d0 : many ≠ 0 → dp[0]? = some 0
  up : ∀ (j : Nat), 0 < j → j < many → ∃ (k : Nat) (d : Int), ab[j]? = some (k : Int) ∧ k < j ∧ dp[k]? = some d ∧ d < 7 ∧ dp[j]? = some (d + 1)
  dep : ∀ d ∈ dp, 0 ≤ d ∧ d ≤ 7
theorem get_snoc {α : Type} {l : List α} {x y : α} {j : Nat} (h : l[j]? = some y) : (l ++ [x])[j]? = some y := by
  rw [List.getElem?_append_left (List.getElem?_eq_some_iff.mp h).1]; exact h
theorem get_last {α : Type} {l : List α} {x : α} {n : Nat} (h : l.length = n) : (l ++ [x])[n]? = some x := by
  rw [List.getElem?_append_right (by omega)]; simp [h]
theorem Abv.next {n : Nat} {ab dp : List Int} (h : Abv n ab dp) (hn : n ≠ 0) {k : Nat} {d : Int} (hk : k < n) (hd : dp[k]? = some d) (h7 : d < 7) : Abv (n + 1) (ab ++ [(k : Int)]) (dp ++ [d + 1]) := by
  refine ⟨by rw [List.length_append, h.la]; rfl, by rw [List.length_append, h.ld]; rfl, fun _ => get_snoc (h.a0 hn), fun _ => get_snoc (h.d0 hn), fun j j0 j1 => ?_, fun x hx => ?_⟩
  · by_cases hj : j < n
    · obtain ⟨k', d', e1, e2, e3, e4, e5⟩ := h.up j j0 hj
      exact ⟨k', d', get_snoc e1, e2, get_snoc e3, e4, get_snoc e5⟩
    · obtain rfl : j = n := by omega
      exact ⟨k, d, get_last h.la, hk, get_snoc hd, h7, get_last h.ld⟩
  · rcases List.mem_append.mp hx with z | z
    · exact h.dep x z
    · rw [List.mem_singleton.mp z]
      have := h.dep d (List.mem_of_getElem? hd)
      omega
/-- the list that is told: none first -/
def abV (ab : List Int) : List V := V.non :: (ab.drop 1).map V.int
theorem abV_len {ab : List Int} (h : ab ≠ []) : (abV ab).length = ab.length := by
  cases ab with
  | nil => exact absurd rfl h
  | cons a r => simp [abV]
theorem abV_snoc {ab : List Int} {x : Int} (h : ab ≠ []) : abV (ab ++ [x]) = abV ab ++ [.int x] := by
  cases ab with
  | nil => exact absurd rfl h
  | cons a r => simp [abV]
theorem abV_get {ab : List Int} {j : Nat} {x : Int} (h0 : 0 < j) (h : ab[j]? = some x) : (abV ab)[j]? = some (.int x) := by
  cases j with
  | zero => omega
  | succ j =>
    cases ab with
    | nil => simp at h
    | cons a r =>
      simp only [abV, List.drop_succ_cons, List.drop_zero, List.getElem?_cons_succ, List.getElem?_map] at h ⊢
      rw [h]; rfl
/-- a row: each stage in the one ahead -/
def RowUp (n : Nat) (ab dp : List Int) : Prop := ∀ j : Nat, j < n → dp[j]? = some (j : Int) ∧ (0 < j → ab[j]? = some ((j - 1 : Nat) : Int))
def spTree (K : PySem.W.Frag) : Sp := fun vs H Q _ => ∃ (δ : Dk) (many : Nat) (deep : Int) (isr : Bool), vs = [.ref δ.d, .int many, .int deep, .bl isr] ∧ Bag H δ ∧ 1 ≤ many ∧ many ≤ 12 ∧ 1 ≤ deep ∧ deep ≤ 7 ∧
  ∀ (ab dp : List Int) (p : Addr) (H' : Hp), Abv many ab dp → (isr = true → (many : Int) ≤ deep + 1 → RowUp many ab dp) → H p = none → H' p = some (.lst (abV ab)) → Bag H' δ → Same (hid δ.l H) (hid δ.l H') → Q (.ref p) H'
theorem get_lastI {xs : List V} {x : V} (h : xs.getLast? = some x) : atI xs (-1) = some x := by
  obtain ⟨ys, rfl⟩ := List.getLast?_eq_some_iff.mp h
  exact at_last1 ys x
theorem ok_l_tree (T : Tx K mg) : FnOk P w K mg base CX0 3 T.f_l_tree T.fd_l_tree ["deck", "many", "deep", "is_row"] (spTree K) := by
  refine T.F_l_tree.ok sc_l_tree (fun vs H Q E h => ?_) (fun cdv A outer s H vs Q E hr h => ?_)
  · obtain ⟨_, _, _, _, rfl, _⟩ := h
    rfl
  obtain ⟨δ, many, deep, isr, rfl, D, hm1, hm2, hd1, hd2, q⟩ := h
  refine ⟨_, (pss_cons (ps_asg (pe_tup (pa_cons (pe_lst (pa_cons pe_non pa_nil)) (pa_cons (pe_lst (pa_cons pe_int pa_nil)) pa_nil))) (pg_tup (by rfl) (pgs_cons (pg_name (i := 4) sc_l_tree.nd rfl (Or.inl rfl)) (pgs_cons (pg_name (i := 5) sc_l_tree.nd rfl (Or.inr rfl)) pgs_nil))))
      (pss_cons (ps_for PassesOwn.never rfl (pi_range2 rfl T.m_range (pa_cons pe_int (pa_cons (pv 1) pa_nil))) (pg_name (i := 6) sc_l_tree.nd rfl (Or.inl rfl)) (pss_cons (ps_setLc (i := 7) (own := [("own", 8)]) (g := (gName 8)) rfl sc_l_tree.nd rfl rfl (sw_true rfl rfl rfl (by decide +kernel)) (pi_range1 rfl T.m_range (pa_cons (pv 6) pa_nil)) (blkOk_by (own := [("own", 8)]) (N := ["deck", "many", "deep", "is_row", "above", "levels", "node", "fit", "own"]) (sc := defScope s_l_tree) (by decide +kernel)) (fun _ _ _ _ _ => (pg_name (i := 8) sc_l_tree.nd rfl (Or.inl rfl))) (fun _ _ _ _ _ => pts_one (pt_cmpR op_lt (pe_ix (show IxR _ (rIxL K) from ix_list) (pv 5) (pv 8) (fun _ _ => rfl)) (pv 2) (nomark _))) (fun _ _ _ _ _ => (pv 8)))
      (Evl.pss_cut (ps_set (i := 8) sc_l_tree.nd rfl (Or.inl rfl) (pe_ifExp (pt_val (pv 3)) (pe_ix ix_list (pv 7) (pe_un un_neg pe_int) (fun _ _ => rfl)) (pe_call (ok_l_pick T) (hr.mono (by first | decide | omega)) (by rfl) T.g_l_pick T.F_l_pick.kp T.b_l_pick .nil pass0 (pa_cons (pv 0) (pa_cons (pv 7) pa_nil)))))
      (pss_cons (ps_expr (pe_bm PySem.F.plainAttrs_list PySem.F.slot_list_append PySem.F.type_list_append mt_append (pv 4) (pa_cons (pv 8) pa_nil)))
      (pss_one (ps_expr (pe_bm PySem.F.plainAttrs_list PySem.F.slot_list_append PySem.F.type_list_append mt_append (pv 5) (pa_cons (pe_op op_add (pe_ix ix_list (pv 5) (pv 8) (fun _ _ => rfl)) pe_int) pa_nil))))))))
      (pss_one (ps_ret (pv 4))))), ?_⟩
  walk_at "go"
  refine ⟨by decide, fun al nal => ?_⟩
  walk_at "go"
  refine ⟨by decide, fun dl ndl => ?_⟩
  walk_at "go"
  refine ⟨sz (by simp), fun tp ntp => ?_⟩
  refine g_gtup (sq_t upd_same) rfl ?_
  have s1 := same_new (o := .lst [.non]) nal
  have s2 := same_new (o := .lst [.int 0]) ndl
  have s3 := same_new (o := .tup [.ref al, .ref dl]) ntp
  have s13 := s1.trans (s2.trans s3)
  have D4 := bag_new D s13
  have ndl0 : H dl = none := s1.free ndl
  have ald : al ≠ dl := fun e => by rw [e, upd_same] at ndl; cases ndl
  have alD := bag_out D nal
  have dlD := bag_out D ndl0
  have ea4 := s3 _ _ (s2 _ _ (upd_same (H := H) (a := al) (o := .lst [.non])))
  have ed4 := s3 _ _ (upd_same (H := upd H al (.lst [.non])) (a := dl) (o := .lst [.int 0]))
  have s04 := same_hid (D := δ.l) s13
  generalize upd (upd (upd H al (.lst [.non])) dl (.lst [.int 0])) tp (.tup [.ref al, .ref dl]) = H4 at ea4 ed4 D4 s04 ⊢
  clear s13 s3 s2 s1
  walk_at "go"
  refine ⟨1, many, rfl, ⟨by decide, by decide, by omega, by omega⟩, ?_⟩
  have ek : ((many : Int) - 1).toNat = many - 1 := by omega
  rw [ek]
  refine for_R (lo := 1) (n := many - 1) (fun i σ H' => ∃ (ab dp : List Int) (y5 y6 y7 : Option V), σ = [some (.ref δ.d), some (.int many), some (.int deep), some (.bl isr), some (.ref al), some (.ref dl), y5, y6, y7] ∧ Abv (i + 1) ab dp ∧ (isr = true → (many : Int) ≤ deep + 1 → RowUp (i + 1) ab dp) ∧ H' al = some (.lst (abV ab)) ∧ H' dl = some (.lst (dp.map V.int)) ∧ Bag H' δ ∧ Same (hid δ.l H) (hid δ.l H'))
    ⟨[0], [0], none, none, none, rfl, ⟨rfl, rfl, fun _ => rfl, fun _ => rfl, fun j j0 j1 => (by omega), fun d hd => by rw [List.mem_singleton.mp hd]; decide⟩, fun _ _ j hj => ⟨by rw [show j = 0 by omega]; rfl, fun z => by omega⟩, ea4, ed4, D4, s04⟩ (fun i σ H5 hi h => ?_) (fun σ H5 h => ?_)
  · obtain ⟨ab, dp, y5, y6, y7, rfl, hA, hR, ea, ed, D5, s5⟩ := h
    have abne : ab ≠ [] := fun e => by have := hA.la; rw [e] at this; simp at this
    walk_at "go"
    refine ⟨_, rfl, by omega, by omega, fun L nL => ?_⟩
    have ek2 : ((1 : Int) + (i : Int)).toNat = i + 1 := by omega
    rw [ek2]
    have zL := same_new (o := .lst []) nL
    refine lc_range (lo := 0) (n := i + 1) (fun j H' => ∃ ks : List Int, ks.length ≤ j ∧ (∀ k ∈ ks, ∃ (c : Nat) (d : Int), k = (c : Int) ∧ c < i + 1 ∧ dp[c]? = some d ∧ d < deep) ∧ (0 < j → ks ≠ []) ∧ (∀ d, 0 < j → dp[j - 1]? = some d → d < deep → ks.getLast? = some ((j - 1 : Nat) : Int)) ∧ H' L = some (.lst (ks.map V.int)) ∧ Same H5 H') ⟨[], Nat.le_refl _, fun k hk => (by cases hk), fun z => absurd z (Nat.lt_irrefl _), fun d z => absurd z (Nat.lt_irrefl _), upd_same, zL⟩ (fun j H' hj h => ?_) (fun H6 h => ?_)
    · obtain ⟨ks, lk, hks, hne, hla, eL, s⟩ := h
      obtain ⟨d, hd⟩ : ∃ d, dp[j]? = some d := ⟨dp[j]'(by rw [hA.ld]; omega), List.getElem?_eq_getElem (by rw [hA.ld]; omega)⟩
      walk_at "go"
      refine ⟨rfl, ?_⟩
      walk_at "go"
      refine l_ixL (sq_l (s _ _ ed)) (at_of (j := j) (by omega) (by rw [List.getElem?_map, hd]; rfl)) ?_
      walk_at "go"
      refine iteB (fun h3 => ?_) (fun h3 => ?_)
      · walk_at "go"
        refine ⟨_, eL, sz1 (by rw [List.length_map]; omega), ks ++ [0 + (j : Int)], by rw [List.length_append, List.length_singleton]; omega, fun k hk => ?_, fun _ e => ?_, fun d' _ hd' h7 => ?_, by rw [upd_same, List.map_append]; rfl, same_mut s nL⟩
        · rcases List.mem_append.mp hk with z | z
          · exact hks k z
          · rw [List.mem_singleton.mp z]
            exact ⟨j, d, by omega, by omega, hd, by omega⟩
        · have := congrArg List.length e
          rw [List.length_append] at this
          simp at this
        · rw [List.getLast?_concat]
          simp
      · refine ⟨ks, by omega, hks, fun _ => ?_, fun d' _ hd' h7 => ?_, eL, s⟩
        · rcases Nat.eq_zero_or_pos j with z | z
          · subst z
            have := hA.d0 (by omega)
            rw [hd] at this
            obtain rfl := Option.some.inj this
            exact absurd (show (0 : Int) < deep by omega) h3
          · exact hne z
        · rw [show j + 1 - 1 = j by omega, hd] at hd'
          obtain rfl := Option.some.inj hd'
          exact absurd h7 h3
    obtain ⟨ks, lk, hks, hne, hla, eL, s6⟩ := h
    have D6 := bag_new D5 s6
    have LD := bag_out D5 nL
    walk_at "go"
    refine g_cut (fun σ' H' => ∃ (k : Nat) (d : Int), σ' = [some (.ref δ.d), some (.int many), some (.int deep), some (.bl isr), some (.ref al), some (.ref dl), some (.int (1 + (i : Int))), some (.ref L), some (.int (k : Int))] ∧ k < i + 1 ∧ dp[k]? = some d ∧ d < deep ∧ (isr = true → (many : Int) ≤ deep + 1 → k = i) ∧ Bag H' δ ∧ Same (hid δ.l H6) (hid δ.l H')) ?_ ?_
    · walk_at "go"
      cases isr with
      | true =>
        rw [if_pos rfl]
        obtain ⟨kl, hkl⟩ : ∃ k, ks.getLast? = some k := by
          cases e : ks.getLast? with
          | none => exact absurd (List.getLast?_eq_none_iff.mp e) (hne (by omega))
          | some k => exact ⟨k, rfl⟩
        obtain ⟨c, d, rfl, hc, hd, h7⟩ := hks kl (List.mem_of_getLast? hkl)
        walk_at "go"
        refine l_ixL (sq_l eL) (get_lastI (x := .int (c : Int)) (by rw [List.getLast?_map, hkl]; rfl)) ?_
        walk_at "go"
        refine ⟨c, d, rfl, hc, hd, h7, fun _ hm => ?_, D6, Same.refl _⟩
        have r1 := (hR rfl hm i (by omega)).1
        have r2 := hla (i : Int) (by omega) (by simpa using r1) (by omega)
        rw [hkl] at r2
        have := Option.some.inj r2
        omega
      | false =>
        rw [if_neg (by decide)]
        walk_at "go"
        refine ⟨δ, L, _, rfl, D6, sq_l (hid_put LD eL), fun e => hne (by omega) (List.map_eq_nil_iff.mp e), by rw [List.length_map]; omega, fun x H' hx D' s' => ?_⟩
        obtain ⟨k, hk, rfl⟩ := List.mem_map.mp hx
        obtain ⟨c, d, rfl, hc, hd, h7⟩ := hks k hk
        walk_at "go"
        exact ⟨c, d, rfl, hc, hd, h7, fun z => (by cases z), D', s'⟩
    rintro σ' H7 ⟨k, d, rfl, hk, hd, h7, hki, D7, s7⟩
    have ea7 := lst_hid alD s7 (s6 _ _ ea)
    have ed7 := lst_hid dlD s7 (s6 _ _ ed)
    walk_at "go"
    refine l_tyL (sq_l ea7) ?_
    walk_at "go"
    refine l_app ea7 (sz1 (by rw [abV_len abne, hA.la]; omega)) ?_
    walk_at "go"
    refine l_tyL (sq_l (by rw [upd_ne ald.symm]; exact ed7)) ?_
    walk_at "go"
    refine l_ixL (sq_l (by rw [upd_ne ald.symm]; exact ed7)) (at_of (j := k) rfl (by rw [List.getElem?_map, hd]; rfl)) ?_
    walk_at "go"
    refine l_app (by rw [upd_ne ald.symm]; exact ed7) (sz1 (by rw [List.length_map, hA.ld]; omega)) ?_
    walk_at "go"
    refine ⟨ab ++ [(k : Int)], dp ++ [d + 1], _, _, _, rfl, hA.next (by omega) hk hd (by omega), fun hi1 hm j hj => ?_, ?_, ?_, bag_mut (bag_mut D7 alD) dlD, hid_mut (hid_mut ((s5.trans (same_hid s6)).trans s7) (hid_none nal)) (hid_none ndl0)⟩
    · have rr := hR hi1 hm
      have ki := hki hi1 hm
      by_cases e : j < i + 1
      · obtain ⟨r1, r2⟩ := rr j e
        exact ⟨get_snoc r1, fun z => get_snoc (r2 z)⟩
      · obtain rfl : j = i + 1 := by omega
        have r1 := (rr i (by omega)).1
        subst ki
        rw [hd] at r1
        obtain rfl := Option.some.inj r1
        refine ⟨by rw [get_last hA.ld]; congr 1, fun _ => by rw [get_last hA.la]; rfl⟩
    · rw [upd_ne ald, upd_same, abV_snoc abne]
    · rw [upd_same, List.map_append]; rfl
  · obtain ⟨ab, dp, y5, y6, y7, rfl, hA, hR, ea, ed, D5, s5⟩ := h
    rw [show many - 1 + 1 = many by omega] at hA hR
    walk_at "go"
    exact q ab dp al H5 hA hR nal ea D5 s5

end
end SC.S
namespace SC.S
open PySem PySem.Spec PyProof.Rows L2 StrLaws
local macro_rules | `(tactic| walk_at "go") => `(tactic| ((try dsimp only [cxOf, Cx.nox, Cx.wish]); repeat (first
  | (with_reducible refine g_seq ?_)
  | (with_reducible refine g_asg ?_)
  | (with_reducible refine g_asg2 ?_)
  | (with_reducible refine g_ret ?_)
  | (with_reducible refine g_drop ?_)
  | (with_reducible refine g_next ?_)
  | (with_reducible refine g_ifs ?_)
  | (with_reducible refine g_par ?_)
  | (with_reducible refine g_par3 ?_)
  | ((with_reducible refine' g_var ?hv ?_); (case hv => exact rfl))
  | (with_reducible refine g_c ?_)
  | ((with_reducible refine' g_aug ?hv ?_); (case hv => exact rfl))
  | (with_reducible refine l_ip ?_)
  | (with_reducible refine g_op ?_)
  | (with_reducible refine g_un ?_)
  | (with_reducible refine g_cons ?_)
  | (with_reducible refine g_nil ?_)
  | (with_reducible refine g_cb ?_)
  | (with_reducible refine g_call ?_)
  | (with_reducible refine g_callK ?_)
  | (with_reducible refine g_test ?_)
  | (with_reducible refine g_b ?_)
  | (with_reducible refine g_not ?_)
  | (with_reducible refine g_chain ?_)
  | (with_reducible refine g_notV ?_)
  | (with_reducible refine g_and ?_)
  | (with_reducible refine g_or ?_)
  | (with_reducible refine g_ifx ?_)
  | (with_reducible refine g_isN ?_)
  | (with_reducible refine g_notN ?_)
  | (with_reducible refine g_andV ?_)
  | (with_reducible refine g_orV ?_)
  | (with_reducible refine g_bm ?_)
  | (with_reducible refine g_bm0 ?_)
  | (with_reducible refine g_sl ?_)
  | (with_reducible refine g_part ?_)
  | (with_reducible refine g_nopart ?_)
  | (with_reducible refine g_dget ?_)
  | (with_reducible refine g_dput ?_)
  | (with_reducible refine g_tup ?_)
  | (with_reducible refine g_lst ?_)
  | (with_reducible refine g_yes ?_)
  | (with_reducible refine g_name ?_)
  | (with_reducible refine g_gsub ?_)
  | (with_reducible refine g_iList ?_)
  | (with_reducible refine g_iTup ?_)
  | (with_reducible refine g_for ?_)
  | (with_reducible refine g_lc ?_)
  | (with_reducible refine g_rng1 ?_)
  | (with_reducible refine g_rng2 ?_)
  | (with_reducible refine g_rng3 ?_)
  | (with_reducible refine g_iZip ?_)
  | (with_reducible refine g_allT ?_)
  | (with_reducible refine g_iZipA ?_)
  | (with_reducible refine g_iZip3 ?_)
  | (with_reducible refine g_iZipM ?_)
  | (with_reducible refine g_iZipN ?_)
  | (with_reducible refine g_din ?_)
  | (with_reducible refine g_dc2 ?_)
  | (with_reducible refine g_iItems ?_)
  | (with_reducible refine g_minAbs ?_)
  | (with_reducible refine g_dnotin ?_)
  | (with_reducible refine g_iRev ?_)
  | (with_reducible refine g_dcT ?_)
  | (with_reducible refine g_dc ?_)
  | (with_reducible refine g_iEnumT ?_)
  | (with_reducible refine g_iEnum ?_)
  | (with_reducible refine g_lstRg ?_)
  | (with_reducible refine g_lz ?_)
  | (with_reducible refine g_tz ?_)
  | (with_reducible refine g_rg1 ?_)
  | (with_reducible refine g_gcons ?_)
  | (with_reducible refine g_gnil ?_)
  | (with_reducible refine l_bl ?_)
  | (with_reducible refine l_int ?_)
  | (with_reducible refine l_two ?_)
  | (with_reducible refine l_three ?_)
  | (with_reducible refine l_I0 ?_)
  | (with_reducible refine l_U ?_)
  | dsimp only)))
section
variable {P : Program} {w : World} {K : PySem.W.Frag} {mg : Str → Option Value} {base : Heap}
/-! ### _law_weights -/
/-- things in a list, made behind -/
def Ths (K : PySem.W.Frag) (H : Hp) (L : List (V × Th)) : Prop := ∀ z ∈ L, Dp K H z.1 z.2.toD
theorem Ths.ts {H H' : Hp} {L : List (V × Th)} (s : TSame H H') (h : Ths K H L) : Ths K H' L := fun z hz => dp_t s (toD_t _) (h z hz)
def kindS (b : Bool) : Str := if b = true then "stage" else "input"
/-- weights of stages are 1 or -1 -/
def PlainW (bs : List Bool) (ws : List Int) : Prop := ∀ (j : Nat) (w : Int), bs[j]? = some true → ws[j]? = some w → w = 1 ∨ w = -1
def spWeights (K : PySem.W.Frag) : Sp := fun vs H Q _ => ∃ (δ : Dk) (kl : Addr) (bs : List Bool) (iu : Bool), vs = [.ref δ.d, .ref kl, .bl iu] ∧ Bag H δ ∧ H kl = some (.lst (bs.map fun b => V.str (kindS b))) ∧ kl ∉ δ.l ∧ bs ≠ [] ∧ bs.length ≤ 100 ∧
  ∀ (ws : List Int) (p : Addr) (H' : Hp), WsOk ws → (∀ w ∈ ws, w.natAbs ≤ 7) → ws.length = bs.length → (iu = true → PlainW bs ws) → H p = none → H' p = some (.lst (ws.map V.int)) → Bag H' δ → Same (hid δ.l H) (hid δ.l H') → Q (.ref p) H'
theorem wset {ws : List Int} {k : Nat} {x : Int} (h : ∀ w ∈ ws, w ≠ 0 ∧ w.natAbs ≤ 10 ^ 30) (hk : k < ws.length) (hx : x = 1 ∨ x = -1) : WsOk (ws.set k x) := by
  refine ⟨fun w hw => ?_, ?_⟩
  · rcases List.mem_or_eq_of_mem_set hw with z | z
    · exact h w z
    · rw [z]; rcases hx with rfl | rfl <;> decide
  · have h1 := (dvd_gcdL (d := gcdL (ws.set k x)) (ws := ws.set k x)).mp (Nat.dvd_refl _) x (by
      have : (ws.set k x)[k]? = some x := by rw [List.getElem?_set_self hk]
      exact List.mem_of_getElem? this)
    have h2 : x.natAbs = 1 := by rcases hx with rfl | rfl <;> rfl
    rw [h2] at h1
    exact Nat.dvd_one.mp h1
theorem ixN_nat {n : Nat} {v : Int} (h0 : 0 ≤ v) (h1 : v < n) : ixN n v = some v.toNat := by
  unfold ixN
  rw [if_pos h0, if_pos h1]
theorem kind_eq (b : Bool) : decide (V.str (kindS b) = V.str ("stage" : Str)) = b := by
  cases b
  · exact decide_eq_false (by intro h; injection h with h; revert h; decide)
  · exact decide_eq_true rfl
theorem ok_l_weights (T : Tx K mg) : FnOk P w K mg base CX0 3 T.f_l_weights T.fd_l_weights ["deck", "kinds", "is_plain"] (spWeights K) := by
  refine T.F_l_weights.ok sc_l_weights (fun vs H Q E h => ?_) (fun cdv A outer s H vs Q E hr h => ?_)
  · obtain ⟨_, _, _, _, rfl, _⟩ := h
    rfl
  obtain ⟨δ, kl, bs, iu, rfl, D, ekl, klD, hne, hln, q⟩ := h
  refine ⟨_, (pss_cons (ps_set (i := 3) sc_l_weights.nd rfl (Or.inl rfl) (pe_lst pa_nil))
      (pss_cons (ps_for PassesOwn.never rfl (pi_list (pv 1)) (pg_name (i := 4) sc_l_weights.nd rfl (Or.inl rfl)) (pss_cons (ps_set (i := 5) sc_l_weights.nd rfl (Or.inl rfl) (pe_call (ok_l_pick T) (hr.mono (by first | decide | omega)) (by rfl) T.g_l_pick T.F_l_pick.kp T.b_l_pick .nil pass0 (pa_cons (pv 0) (pa_cons (pe_lst (pa_cons pe_int (pa_cons (pe_un un_neg pe_int) (pa_cons pe_int (pa_cons pe_int (pa_cons (pe_un un_neg pe_int) (pa_cons pe_int (pa_cons (pe_un un_neg pe_int) (pa_cons pe_int (pa_cons pe_int (pa_cons (pe_un un_neg pe_int) (pa_cons pe_int (pa_cons pe_int pa_nil))))))))))))) pa_nil))))
      (pss_one (ps_expr (pe_bm PySem.F.plainAttrs_list PySem.F.slot_list_append PySem.F.type_list_append mt_append (pv 3) (pa_cons (pe_ifExp (PW.pt (pw_and (pt_cmpR op_eq (pv 4) pe_str (nomark _)) (pw_and1 (pt_val (pv 2))))) (pe_call (ok_l_pick T) (hr.mono (by first | decide | omega)) (by rfl) T.g_l_pick T.F_l_pick.kp T.b_l_pick .nil pass0 (pa_cons (pv 0) (pa_cons (pe_lst (pa_cons pe_int (pa_cons (pe_un un_neg pe_int) pa_nil))) pa_nil))) (pv 5)) pa_nil))))))
      (pss_cons (ps_set (i := 6) sc_l_weights.nd rfl (Or.inl rfl) pe_int)
      (pss_cons (ps_for PassesOwn.never rfl (pi_list (pv 3)) (pg_name (i := 5) sc_l_weights.nd rfl (Or.inl rfl)) (pss_one (ps_set (i := 6) sc_l_weights.nd rfl (Or.inl rfl) (pe_call (ok_l_common T) (hr.mono (by first | decide | omega)) (by rfl) T.g_l_common T.F_l_common.kp T.b_l_common .nil pass0 (pa_cons (pv 6) (pa_cons (pv 5) pa_nil))))))
      (Evl.pss_cut (ps_if (pt_cmpR op_gt (pv 6) pe_int (nomark _)) (pss_one (ps_asg (pe_call (ok_l_pick T) (hr.mono (by first | decide | omega)) (by rfl) T.g_l_pick T.F_l_pick.kp T.b_l_pick .nil pass0 (pa_cons (pv 0) (pa_cons (pe_lst (pa_cons pe_int (pa_cons (pe_un un_neg pe_int) pa_nil))) pa_nil))) (pg_sub (pv 3) (pe_call (ok_l_draw T) (hr.mono (by first | decide | omega)) (by rfl) T.g_l_draw T.F_l_draw.kp T.b_l_draw .nil pass0 (pa_cons (pv 0) (pa_cons (pe_callB call_len_seq (by rfl) T.m_len PySem.boot_len (pa_cons (pv 3) pa_nil)) pa_nil))) set_list))) pss_nil)
      (pss_one (ps_ret (pv 3)))))))), ?_⟩
  have lpos := List.length_pos_iff.mpr hne
  walk_at "go"
  refine ⟨Nat.zero_le _, fun f nf => ?_⟩
  walk_at "go"
  have s1 := same_new (o := .lst []) nf
  have fD := bag_out D nf
  have fkl : kl ≠ f := ne_of_none ekl nf
  refine ⟨kl, rfl, ⟨_, sq_l (s1 _ _ ekl)⟩, ?_⟩
  refine for_L (xs := bs.map fun b => V.str (kindS b)) (fun i σ H' => ∃ (ws : List Int) (y4 y5 : Option V), σ = [some (.ref δ.d), some (.ref kl), some (.bl iu), some (.ref f), y4, y5, none] ∧ ws.length = i ∧ (∀ w ∈ ws, w ≠ 0 ∧ w.natAbs ≤ 7) ∧ (iu = true → PlainW bs ws) ∧ H' f = some (.lst (ws.map V.int)) ∧ H' kl = some (.lst (bs.map fun b => V.str (kindS b))) ∧ Bag H' δ ∧ Same (hid δ.l H) (hid δ.l H'))
    ⟨[], none, none, rfl, rfl, fun w hw => (by cases hw), fun _ j w _ h => (by simp at h), upd_same, s1 _ _ ekl, bag_new D s1, same_hid s1⟩ (fun i σ H' _ h => ?_) (fun i x σ H1 hx h => ?_) (fun σ H1 h => ?_)
  · obtain ⟨_, _, _, _, _, _, _, _, e, _⟩ := h
    exact sq_l e
  · obtain ⟨ws, y4, y5, rfl, lw, hws, hpw, ef, ekl1, D1, s⟩ := h
    rw [List.getElem?_map] at hx
    cases ez : bs[i]? with
    | none => rw [ez] at hx; cases hx
    | some b =>
    rw [ez] at hx
    obtain rfl := Option.some.inj hx
    have il : i < bs.length := (List.getElem?_eq_some_iff.mp ez).1
    walk_at "go"
    refine ⟨sz (by simp), fun p1 n1 => ?_⟩
    walk_at "go"
    refine pick_ints (is := [1, -1, 1, 2, -2, 3, -3, 4, 5, -6, 6, 7]) D1 n1 (by decide) (by decide) fun w1 H2 hw1 D2 s2 => ?_
    have k1 : w1 ≠ 0 ∧ w1.natAbs ≤ 7 := by
      simp only [List.mem_cons, List.not_mem_nil, or_false] at hw1
      rcases hw1 with h | h | h | h | h | h | h | h | h | h | h | h <;> subst h <;> decide
    have ef2 := lst_hid fD s2 ef
    have ekl2 := lst_hid klD s2 ekl1
    walk_at "go"
    refine l_tyL (sq_l ef2) ?_
    walk_at "go"
    refine l_eq rfl ?_
    rw [kind_eq]
    walk_at "go"
    have fin : ∀ (x : Int) (H3 : Hp), x ≠ 0 ∧ x.natAbs ≤ 7 → (iu = true → b = true → x = 1 ∨ x = -1) → Bag H3 δ → Same (hid δ.l H2) (hid δ.l H3) → H3 f = some (.lst (ws.map V.int)) ∧ ∀ o, o = HO.lst (ws.map V.int ++ [.int x]) → ∃ (ws' : List Int) (y4' y5' : Option V), [some (V.ref δ.d), some (.ref kl), some (.bl iu), some (.ref f), some (.str (kindS b)), some (.int w1), none] = [some (V.ref δ.d), some (.ref kl), some (.bl iu), some (.ref f), y4', y5', none] ∧ ws'.length = i + 1 ∧ (∀ w ∈ ws', w ≠ 0 ∧ w.natAbs ≤ 7) ∧ (iu = true → PlainW bs ws') ∧ (upd H3 f o) f = some (.lst (ws'.map V.int)) ∧ (upd H3 f o) kl = some (.lst (bs.map fun b => V.str (kindS b))) ∧ Bag (upd H3 f o) δ ∧ Same (hid δ.l H) (hid δ.l (upd H3 f o)) := fun x H3 hx hp D3 s3 => by
      have ef3 := lst_hid fD s3 ef2
      refine ⟨ef3, fun o ho => ?_⟩
      subst ho
      refine ⟨ws ++ [x], _, _, rfl, by rw [List.length_append, lw]; rfl, fun y hy => ?_, fun hi j w hb hj => ?_, by rw [upd_same, List.map_append]; rfl, by rw [upd_ne fkl]; exact lst_hid klD s3 ekl2, bag_mut D3 fD, hid_mut (s.trans (s2.trans s3)) (hid_none nf)⟩
      · rcases List.mem_append.mp hy with h | h
        · exact hws y h
        · rw [List.mem_singleton.mp h]; exact hx
      · by_cases e : j < ws.length
        · rw [List.getElem?_append_left e] at hj
          exact hpw hi j w hb hj
        · have l1 := (List.getElem?_eq_some_iff.mp hj).1
          rw [List.length_append, List.length_singleton] at l1
          obtain rfl : j = ws.length := by omega
          rw [lw, ez] at hb
          have hb := Option.some.inj hb
          rw [List.getElem?_append_right (Nat.le_refl _)] at hj
          simp at hj
          subst hj
          exact hp hi hb
    cases b with
    | true =>
      rw [if_pos rfl]
      walk_at "go"
      cases iu with
      | true =>
        rw [if_pos rfl]
        walk_at "go"
        refine ⟨sz (by simp), fun p2 n2 => ?_⟩
        walk_at "go"
        refine pick_ints (is := [1, -1]) D2 n2 (by decide) (by decide) fun w2 H4 hw2 D4 s4 => ?_
        have k2 : w2 = 1 ∨ w2 = -1 := by
          simp only [List.mem_cons, List.not_mem_nil, or_false] at hw2
          exact hw2
        obtain ⟨a1, a2⟩ := fin w2 H4 (by rcases k2 with h | h <;> subst h <;> decide) (fun _ _ => k2) D4 s4
        walk_at "go"
        refine l_app a1 (sz1 (by rw [List.length_map]; omega)) ?_
        exact a2 _ rfl
      | false =>
        rw [if_neg (by decide)]
        obtain ⟨a1, a2⟩ := fin w1 H2 k1 (fun z => by cases z) D2 (Same.refl _)
        walk_at "go"
        refine l_app a1 (sz1 (by rw [List.length_map]; omega)) ?_
        exact a2 _ rfl
    | false =>
      rw [if_neg (by decide)]
      walk_at "go"
      rw [if_neg (by decide)]
      obtain ⟨a1, a2⟩ := fin w1 H2 k1 (fun _ z => by cases z) D2 (Same.refl _)
      walk_at "go"
      refine l_app a1 (sz1 (by rw [List.length_map]; omega)) ?_
      exact a2 _ rfl
  · obtain ⟨ws, y4, y5, rfl, lw, hws, hpw, ef, ekl1, D1, s⟩ := h
    rw [List.length_map] at lw
    have wne : ws ≠ [] := fun e => by rw [e] at lw; simp at lw; omega
    have hnz : ∀ w ∈ ws, w ≠ 0 := fun w hm => (hws w hm).1
    have g1 := gcdL_pos wne hnz
    have hb30 : ∀ w ∈ ws, w ≠ 0 ∧ w.natAbs ≤ 10 ^ 30 := fun w hm => ⟨(hws w hm).1, Nat.le_trans (hws w hm).2 (by decide)⟩
    walk_at "go"
    refine ⟨f, rfl, ⟨_, sq_l ef⟩, ?_⟩
    refine for_L (xs := ws.map V.int) (fun i σ H' => ∃ (y5 : Option V), σ = [some (.ref δ.d), some (.ref kl), some (.bl iu), some (.ref f), y4, y5, some (.int ((gcdL (ws.take i) : Nat) : Int))] ∧ H' = H1) ⟨y5, rfl, rfl⟩ (fun i σ H' _ h => ?_) (fun i x σ H' hx h => ?_) (fun σ H' h => ?_)
    · obtain ⟨_, _, rfl⟩ := h
      exact sq_l ef
    · obtain ⟨y5, rfl, rfl⟩ := h
      rw [List.getElem?_map] at hx
      cases ew : ws[i]? with
      | none => rw [ew] at hx; cases hx
      | some w0 =>
      rw [ew] at hx
      obtain rfl := Option.some.inj hx
      walk_at "go"
      refine ⟨_, _, rfl, ?_⟩
      walk_at "go"
      rw [Int.natAbs_natCast, ← gcdL_take ew]
      exact ⟨_, rfl, rfl⟩
    · obtain ⟨y5, rfl, eH⟩ := h
      obtain rfl : H1 = H' := eH.symm
      rw [List.length_map, List.take_length]
      walk_at "go"
      refine g_cut (fun σ' H' => ∃ (ws' : List Int), σ' = [some (.ref δ.d), some (.ref kl), some (.bl iu), some (.ref f), y4, y5, some (.int ((gcdL ws : Nat) : Int))] ∧ WsOk ws' ∧ (∀ w ∈ ws', w.natAbs ≤ 7) ∧ ws'.length = ws.length ∧ (iu = true → PlainW bs ws') ∧ H' f = some (.lst (ws'.map V.int)) ∧ Bag H' δ ∧ Same (hid δ.l H) (hid δ.l H')) ?_ ?_
      · walk_at "go"
        refine iteB (fun h3 => ?_) (fun h3 => ?_)
        · walk_at "go"
          refine ⟨sz (by simp), fun p1 n1 => ?_⟩
          walk_at "go"
          refine pick_ints (is := [1, -1]) D1 n1 (by decide) (by decide) fun x H2 hx D2 s2 => ?_
          have hx2 : x = 1 ∨ x = -1 := by
            simp only [List.mem_cons, List.not_mem_nil, or_false] at hx
            exact hx
          have ef2 := lst_hid fD s2 ef
          walk_at "go"
          refine ⟨_, _, rfl, .inl (sq_l ef2), ?_⟩
          walk_at "go"
          refine ⟨δ, _, rfl, D2, lim_of (by omega) (by rw [List.length_map]; omega), fun v H3 v0 v1 _ D3 s3 => ?_⟩
          have v1 := v1 (by rw [List.length_map]; omega)
          have ef3 := lst_hid fD s3 ef2
          rw [List.length_map] at v1
          have hk : v.toNat < ws.length := by omega
          have ix : ixN (ws.map V.int).length v = some v.toNat := by
            rw [List.length_map]
            exact ixN_nat v0 (by omega)
          refine ⟨f, _, v, v.toNat, rfl, rfl, ef3, ix, ?_⟩
          refine ⟨ws.set v.toNat x, rfl, wset hb30 hk hx2, fun y hy => ?_, List.length_set, fun hi j w hb hj => ?_, by rw [upd_same, List.map_set], bag_mut D3 fD, hid_mut (s.trans (s2.trans s3)) (hid_none nf)⟩
          · rcases List.mem_or_eq_of_mem_set hy with z | z
            · exact (hws y z).2
            · rw [z]; rcases hx2 with h | h <;> subst h <;> decide
          · rw [List.getElem?_set] at hj
            by_cases e : v.toNat = j
            · rw [if_pos e, if_pos hk] at hj
              obtain rfl := Option.some.inj hj; exact hx2
            · rw [if_neg e] at hj
              exact hpw hi j w hb hj
        · walk_at "go"
          exact ⟨ws, rfl, ⟨hb30, by omega⟩, fun y hy => (hws y hy).2, rfl, hpw, ef, D1, s⟩
      rintro σ' H2 ⟨ws', rfl, wok, w7, lw', hpw', ef2, D2, s2⟩
      walk_at "go"
      exact q ws' f H2 wok w7 (by omega) hpw' nf ef2 D2 s2

end
end SC.S
namespace SC.S
open PySem PySem.Spec PyProof.Rows L2 StrLaws
local macro_rules | `(tactic| walk_at "go") => `(tactic| ((try dsimp only [cxOf, Cx.nox, Cx.wish]); repeat (first
  | (with_reducible refine g_seq ?_)
  | (with_reducible refine g_asg ?_)
  | (with_reducible refine g_asg2 ?_)
  | (with_reducible refine g_ret ?_)
  | (with_reducible refine g_drop ?_)
  | (with_reducible refine g_next ?_)
  | (with_reducible refine g_ifs ?_)
  | (with_reducible refine g_par ?_)
  | (with_reducible refine g_par3 ?_)
  | ((with_reducible refine' g_var ?hv ?_); (case hv => exact rfl))
  | (with_reducible refine g_c ?_)
  | ((with_reducible refine' g_aug ?hv ?_); (case hv => exact rfl))
  | (with_reducible refine l_ip ?_)
  | (with_reducible refine g_op ?_)
  | (with_reducible refine g_un ?_)
  | (with_reducible refine g_cons ?_)
  | (with_reducible refine g_nil ?_)
  | (with_reducible refine g_cb ?_)
  | (with_reducible refine g_call ?_)
  | (with_reducible refine g_callK ?_)
  | (with_reducible refine g_test ?_)
  | (with_reducible refine g_b ?_)
  | (with_reducible refine g_not ?_)
  | (with_reducible refine g_chain ?_)
  | (with_reducible refine g_notV ?_)
  | (with_reducible refine g_and ?_)
  | (with_reducible refine g_or ?_)
  | (with_reducible refine g_ifx ?_)
  | (with_reducible refine g_isN ?_)
  | (with_reducible refine g_notN ?_)
  | (with_reducible refine g_andV ?_)
  | (with_reducible refine g_orV ?_)
  | (with_reducible refine g_bm ?_)
  | (with_reducible refine g_bm0 ?_)
  | (with_reducible refine g_sl ?_)
  | (with_reducible refine g_part ?_)
  | (with_reducible refine g_nopart ?_)
  | (with_reducible refine g_dget ?_)
  | (with_reducible refine g_dput ?_)
  | (with_reducible refine g_tup ?_)
  | (with_reducible refine g_lst ?_)
  | (with_reducible refine g_yes ?_)
  | (with_reducible refine g_name ?_)
  | (with_reducible refine g_gsub ?_)
  | (with_reducible refine g_iList ?_)
  | (with_reducible refine g_iTup ?_)
  | (with_reducible refine g_for ?_)
  | (with_reducible refine g_lc ?_)
  | (with_reducible refine g_rng1 ?_)
  | (with_reducible refine g_rng2 ?_)
  | (with_reducible refine g_rng3 ?_)
  | (with_reducible refine g_iZip ?_)
  | (with_reducible refine g_allT ?_)
  | (with_reducible refine g_iZipA ?_)
  | (with_reducible refine g_iZip3 ?_)
  | (with_reducible refine g_iZipM ?_)
  | (with_reducible refine g_iZipN ?_)
  | (with_reducible refine g_din ?_)
  | (with_reducible refine g_dc2 ?_)
  | (with_reducible refine g_iItems ?_)
  | (with_reducible refine g_minAbs ?_)
  | (with_reducible refine g_dnotin ?_)
  | (with_reducible refine g_iRev ?_)
  | (with_reducible refine g_dcT ?_)
  | (with_reducible refine g_dc ?_)
  | (with_reducible refine g_iEnumT ?_)
  | (with_reducible refine g_iEnum ?_)
  | (with_reducible refine g_lstRg ?_)
  | (with_reducible refine g_lz ?_)
  | (with_reducible refine g_tz ?_)
  | (with_reducible refine g_rg1 ?_)
  | (with_reducible refine g_gcons ?_)
  | (with_reducible refine g_gnil ?_)
  | (with_reducible refine l_bl ?_)
  | (with_reducible refine l_int ?_)
  | (with_reducible refine l_two ?_)
  | (with_reducible refine l_three ?_)
  | (with_reducible refine l_I0 ?_)
  | (with_reducible refine l_U ?_)
  | dsimp only)))
section
variable {P : Program} {w : World} {K : PySem.W.Frag} {mg : Str → Option Value} {base : Heap}
/-- weights put to the things -/
def wz (ws : List Int) (L : List (V × Th)) : List (Int × Th) := ws.zip (L.map (·.2))
theorem wz_snd {ws : List Int} {L : List (V × Th)} (h : ws.length = L.length) : (wz ws L).map (·.2) = L.map (·.2) := by
  unfold wz
  rw [List.map_snd_zip]
  rw [List.length_map]; omega
theorem wz_fst {ws : List Int} {L : List (V × Th)} (h : ws.length = L.length) : (wz ws L).map (·.1) = ws := by
  unfold wz
  rw [List.map_fst_zip]
  rw [List.length_map]; omega
/-- a stage drawn of things -/
structure StgOk (us : List Th) (n c : Int) (ps : List (Int × Th)) : Prop where
  ok : StOk n c (ps.map (·.1))
  perm : (ps.map (·.2)).Perm us
/-! ### the stages from the last on (_law_plan) -/
def sm (f : Nat → Nat) (l : List Nat) : Nat := (l.map f).sum
theorem sm_split {f : Nat → Nat} {p q r : Nat → Bool} : ∀ {l : List Nat}, (∀ j ∈ l, (p j = true ↔ q j = true ∨ r j = true) ∧ ¬(q j = true ∧ r j = true)) → sm f (l.filter p) = sm f (l.filter q) + sm f (l.filter r)
  | [], _ => rfl
  | j :: l, h => by
    have ih := sm_split (f := f) (p := p) (q := q) (r := r) (l := l) fun i hi => h i (List.mem_cons_of_mem _ hi)
    obtain ⟨h1, h2⟩ := h j (List.mem_cons_self ..)
    unfold sm at ih ⊢
    simp only [List.filter_cons]
    cases hq : q j with
    | true =>
      have hr : r j = false := by
        cases e : r j with
        | false => rfl
        | true => exact absurd ⟨hq, e⟩ h2
      have hp : p j = true := h1.mpr (.inl hq)
      rw [hr, hp]
      simp only [if_pos, Bool.false_eq_true, if_false, List.map_cons, List.sum_cons]
      omega
    | false =>
      cases hr : r j with
      | true =>
        have hp : p j = true := h1.mpr (.inr hr)
        rw [hp]
        simp only [if_pos, Bool.false_eq_true, if_false, List.map_cons, List.sum_cons]
        omega
      | false =>
        have hp : p j = false := by
          cases e : p j with
          | false => rfl
          | true =>
            rcases h1.mp e with z | z
            · rw [hq] at z; cases z
            · rw [hr] at z; cases z
        rw [hp]
        simp only [Bool.false_eq_true, if_false]
        exact ih
theorem sm_congr {f g : Nat → Nat} {l : List Nat} (h : ∀ j ∈ l, f j = g j) : sm f l = sm g l := by
  unfold sm
  rw [List.map_congr_left h]
def pr (ab : List Int) (j : Nat) : Int := if j = 0 then -1 else ab[j]?.getD 0
def op' (ab : List Int) (many s : Nat) : List Nat := (List.range' (s + 1) (many - (s + 1))).filter fun j => decide (pr ab j < (s : Int))
def op (ab : List Int) (many lo : Nat) : List Nat := (List.range' lo (many - lo)).filter fun j => decide (pr ab j < (lo : Int))
def chs (ab : List Int) (many s : Nat) : List Nat := (List.range' (s + 1) (many - (s + 1))).filter fun j => decide (ab[j]?.getD 0 = (s : Int))
section
variable {many : Nat} {ab dp : List Int}
theorem Abv.pr (A : Abv many ab dp) {j : Nat} (h0 : 0 < j) (h1 : j < many) : ∃ k : Nat, pr ab j = (k : Int) ∧ k < j ∧ ab[j]? = some (k : Int) := by
  obtain ⟨k, d, e, hk, _⟩ := A.up j h0 h1
  exact ⟨k, by unfold SC.S.pr; rw [if_neg (by omega), e]; rfl, hk, e⟩
theorem op_cons (A : Abv many ab dp) {s : Nat} (hs : s < many) : op ab many s = s :: op' ab many s := by
  unfold op op'
  rw [show many - s = (many - (s + 1)) + 1 by omega, List.range'_succ, List.filter_cons, if_pos]
  refine decide_eq_true ?_
  rcases Nat.eq_zero_or_pos s with z | z
  · subst z; unfold SC.S.pr; rw [if_pos rfl]; decide
  · obtain ⟨k, e, hk, _⟩ := A.pr z hs
    rw [e]; omega
theorem op_split (A : Abv many ab dp) {s : Nat} (hs : s < many) (f : Nat → Nat) : sm f (op ab many (s + 1)) = sm f (chs ab many s) + sm f (op' ab many s) := by
  unfold op chs op'
  refine sm_split fun j hj => ?_
  rw [List.mem_range'_1] at hj
  obtain ⟨k, e, hk, e2⟩ := A.pr (j := j) (by omega) (by omega)
  rw [e, e2]
  simp only [decide_eq_true_eq, Option.getD_some]
  omega
theorem op_many : op ab many many = [] := by unfold op; rw [Nat.sub_self]; rfl
theorem op_zero (A : Abv many ab dp) (h : 0 < many) : op ab many 0 = [0] := by
  rw [op_cons A h]
  have : op' ab many 0 = [] := by
    unfold op'
    rw [List.filter_eq_nil_iff]
    intro j hj
    rw [List.mem_range'_1] at hj
    obtain ⟨k, e, hk, _⟩ := A.pr (j := j) (by omega) (by omega)
    rw [e, decide_eq_true_eq]
    omega
  rw [this]
theorem mem_op' {s j : Nat} (h : j ∈ op' ab many s) : s + 1 ≤ j ∧ j < many := by
  have := (List.mem_filter.mp h).1
  rw [List.mem_range'_1] at this
  omega
theorem mem_chs {s j : Nat} (h : j ∈ chs ab many s) : s + 1 ≤ j ∧ j < many ∧ ab[j]?.getD 0 = (s : Int) := by
  obtain ⟨h1, h2⟩ := List.mem_filter.mp h
  rw [List.mem_range'_1] at h1
  exact ⟨h1.1, by omega, of_decide_eq_true h2⟩
theorem chs_len (s : Nat) : (chs ab many s).length ≤ many := Nat.le_trans (List.length_filter_le ..) (by rw [List.length_range']; omega)
theorem mem_drop1 {s : Int} : s ∈ ab.drop 1 ↔ ∃ j, 0 < j ∧ ab[j]? = some s := by
  constructor
  · intro h
    obtain ⟨i, hi⟩ := List.mem_iff_getElem?.mp h
    rw [List.getElem?_drop] at hi
    exact ⟨1 + i, by omega, hi⟩
  · rintro ⟨j, j0, e⟩
    refine List.mem_iff_getElem?.mpr ⟨j - 1, ?_⟩
    rw [List.getElem?_drop, show 1 + (j - 1) = j by omega]
    exact e
/-- a stage that no one stands within has no place above another's -/
theorem chs_none (A : Abv many ab dp) {s : Nat} (h : chs ab many s = []) : (s : Int) ∉ ab.drop 1 := by
  rw [mem_drop1]
  rintro ⟨j, j0, e⟩
  have jm : j < many := by
    rw [← A.la]; exact (List.getElem?_eq_some_iff.mp e).1
  obtain ⟨k, _, hk, e2⟩ := A.pr j0 jm
  rw [e] at e2
  have : (s : Int) = (k : Int) := Option.some.inj e2
  have hm : j ∈ chs ab many s := by
    refine List.mem_filter.mpr ⟨?_, ?_⟩
    · rw [List.mem_range'_1]; omega
    · rw [e]; exact decide_eq_true rfl
  rw [h] at hm; cases hm
end
/-- what is told of the stages from a place on -/
structure Fp (P : Int → Int → List (Int × Th) → Prop) (many : Nat) (ab dp cs ns : List Int) (lo : Nat) (tr : Nat → Th) (rest : List Int) : Prop where
  ev : ∀ j, lo ≤ j → j < many → (tr j).each P
  good : ∀ j, lo ≤ j → j < many → (tr j).good
  full : ∀ j, lo ≤ j → j < many → (tr j).full = true
  st : ∀ j, lo ≤ j → j < many → ∃ c d ps, tr j = .st c d ps
  dep : ∀ j, lo ≤ j → j < many → ∀ d, dp[j]? = some d → ((tr j).dep : Int) + d ≤ 8
  nst : sm (fun j => (tr j).nSt) (op ab many lo) = many - lo
  cnt : ∀ x, sm (fun j => (tr j).ins.count x) (op ab many lo) + rest.count x = ns.count x
  left : ((rest.length : Nat) : Int) = (cs.take lo).sum
theorem sum_zero {α : Type} {f : α → Nat} : ∀ {l : List α}, (∀ x ∈ l, f x = 0) → (l.map f).sum = 0
  | [], _ => rfl
  | x :: l, h => by rw [List.map_cons, List.sum_cons, h x (List.mem_cons_self ..), sum_zero fun y hy => h y (List.mem_cons_of_mem _ hy)]
theorem count_inp (x : Int) : ∀ l : List Int, (l.map fun i => (Th.inp i).ins.count x).sum = l.count x
  | [] => rfl
  | i :: l => by
    rw [List.map_cons, List.sum_cons, count_inp x l, List.count_cons]
    simp only [Th.ins, List.count_singleton]
    omega
theorem nSt_us {ps : List (Int × Th)} {us : List Th} (h : (ps.map (·.2)).Perm us) : nStL ps = (us.map Th.nSt).sum := by
  rw [nStL_eq, show ps.map (fun p => p.2.nSt) = (ps.map (·.2)).map Th.nSt by rw [List.map_map]; rfl]
  exact (h.map _).sum_nat
theorem ins_us {ps : List (Int × Th)} {us : List Th} (h : (ps.map (·.2)).Perm us) (x : Int) : (insL ps).count x = (us.map fun u => u.ins.count x).sum := by
  rw [insL_eq, List.count_flatten, List.map_map, show ps.map (List.count x ∘ fun p => p.2.ins) = (ps.map (·.2)).map (fun u => u.ins.count x) by rw [List.map_map]; rfl]
  exact (h.map _).sum_nat
section
variable {P : Int → Int → List (Int × Th) → Prop} {many : Nat} {ab dp cs ns : List Int}
theorem Fp.next (A : Abv many ab dp) {s : Nat} (hs : s < many) {tr : Nat → Th} {rest rest' pp : List Int} (h : Fp P many ab dp cs ns (s + 1) tr rest) (hr : rest.Perm (rest' ++ pp)) (hl : ((rest'.length : Nat) : Int) = (cs.take s).sum)
    {n c : Int} {ps : List (Int × Th)} (ok : StgOk ((chs ab many s).map tr ++ pp.map Th.inp) n c ps) (hne : (chs ab many s).map tr ++ pp.map Th.inp ≠ []) (hP : P n c ps) : Fp P many ab dp cs ns s (fun j => if j = s then .st n c ps else tr j) rest' := by
  have mem : ∀ p ∈ ps, (∃ j ∈ chs ab many s, p.2 = tr j) ∨ ∃ i, p.2 = Th.inp i := fun p hp => by
    have := ok.perm.mem_iff.mp (List.mem_map.mpr ⟨p, hp, rfl⟩)
    rcases List.mem_append.mp this with z | z
    · obtain ⟨j, hj, e⟩ := List.mem_map.mp z
      exact .inl ⟨j, hj, e.symm⟩
    · obtain ⟨i, _, e⟩ := List.mem_map.mp z
      exact .inr ⟨i, e.symm⟩
  have ic : ∀ {α : Type} (f : Th → α), (op' ab many s).map (fun j => f (if j = s then Th.st n c ps else tr j)) = (op' ab many s).map fun j => f (tr j) := fun f =>
    List.map_congr_left fun j hj => by
      have := mem_op' hj
      rw [if_neg (by omega)]
  have e1 : ∀ f : Th → Nat, sm (fun j => f (if j = s then Th.st n c ps else tr j)) (op ab many s) = f (.st n c ps) + sm (fun j => f (tr j)) (op' ab many s) := fun f => by
    rw [op_cons A hs]
    unfold sm
    rw [List.map_cons, List.sum_cons, if_pos rfl, ic]
  refine ⟨fun j h1 h2 => ?_, fun j h1 h2 => ?_, fun j h1 h2 => ?_, fun j h1 h2 => ?_, fun j h1 h2 d hd => ?_, ?_, fun x => ?_, hl⟩
  · by_cases z : j = s
    · rw [if_pos z]
      simp only [Th.each]
      refine ⟨hP, eachL_iff.mpr fun p hp => ?_⟩
      rcases mem p hp with ⟨k, hk, e⟩ | ⟨i, e⟩
      · rw [e]; exact h.ev k (mem_chs hk).1 (mem_chs hk).2.1
      · rw [e]; simp only [Th.each]
    · rw [if_neg z]; exact h.ev j (by omega) h2
  · by_cases z : j = s
    · rw [if_pos z]
      simp only [Th.good]
      refine ⟨ok.ok, goodL_iff.mpr fun p hp => ?_⟩
      rcases mem p hp with ⟨k, hk, e⟩ | ⟨i, e⟩
      · rw [e]; exact h.good k (mem_chs hk).1 (mem_chs hk).2.1
      · rw [e]; simp only [Th.good]
    · rw [if_neg z]; exact h.good j (by omega) h2
  · by_cases z : j = s
    · rw [if_pos z]
      simp only [Th.full, Bool.and_eq_true]
      refine ⟨?_, fullL_iff.mpr fun p hp => ?_⟩
      · cases ps with
        | nil =>
          have := ok.perm.length_eq
          rw [List.map_nil, List.length_nil] at this
          exact absurd (List.eq_nil_of_length_eq_zero this.symm) hne
        | cons a b => rfl
      rcases mem p hp with ⟨k, hk, e⟩ | ⟨i, e⟩
      · rw [e]; exact h.full k (mem_chs hk).1 (mem_chs hk).2.1
      · rw [e]; simp only [Th.full]
    · rw [if_neg z]; exact h.full j (by omega) h2
  · by_cases z : j = s
    · rw [if_pos z]; exact ⟨_, _, _, rfl⟩
    · rw [if_neg z]; exact h.st j (by omega) h2
  · by_cases z : j = s
    · rw [if_pos z]
      rw [z] at hd
      have d7 := A.dep d (List.mem_of_getElem? hd)
      have : depL ps ≤ (7 - d).toNat := depL_le.mpr fun p hp => by
        rcases mem p hp with ⟨k, hk, e⟩ | ⟨i, e⟩
        · obtain ⟨k1, k2, k3⟩ := mem_chs hk
          obtain ⟨a, d', e1, e2, e3, e4, e5⟩ := A.up k (by omega) k2
          rw [e1] at k3
          have : (a : Int) = (s : Int) := k3
          rw [show a = s by omega, hd] at e3
          obtain rfl := Option.some.inj e3
          have := h.dep k k1 k2 _ e5
          rw [e]; omega
        · rw [e]; simp only [Th.dep]; omega
      simp only [Th.dep]
      omega
    · rw [if_neg z]; exact h.dep j (by omega) h2 d hd
  · rw [e1 Th.nSt]
    have h1 := h.nst
    rw [op_split A hs] at h1
    have h2 : nStL ps = sm (fun j => (tr j).nSt) (chs ab many s) := by
      have z0 : (pp.map (Th.nSt ∘ Th.inp)).sum = 0 := sum_zero fun i _ => rfl
      rw [nSt_us ok.perm, List.map_append, List.sum_append, List.map_map, List.map_map, z0]
      rfl
    simp only [Th.nSt]
    omega
  · rw [e1 fun t => t.ins.count x]
    have h1 := h.cnt x
    rw [op_split A hs, (hr.count_eq x), List.count_append] at h1
    have h2 : (insL ps).count x = sm (fun j => (tr j).ins.count x) (chs ab many s) + pp.count x := by
      rw [ins_us ok.perm, List.map_append, List.sum_append, List.map_map, List.map_map]
      exact congrArg (_ + ·) (count_inp x pp)
    simp only [Th.ins]
    omega
theorem Fp.start (A : Abv many ab dp) {tr : Nat → Th} (h : ((ns.length : Nat) : Int) = cs.sum) (hc : cs.length = many) : Fp P many ab dp cs ns many tr ns :=
  ⟨fun j h1 h2 => absurd h2 (by omega), fun j h1 h2 => absurd h2 (by omega), fun j h1 h2 => absurd h2 (by omega), fun j h1 h2 => absurd h2 (by omega), fun j h1 h2 => absurd h2 (by omega),
    by rw [op_many, Nat.sub_self]; rfl, fun x => by rw [op_many]; exact Nat.zero_add _, by rw [List.take_of_length_le (by omega)]; exact h⟩
theorem Fp.plan (A : Abv many ab dp) (h0 : 0 < many) (h12 : many ≤ 12) {tr : Nat → Th} {rest : List Int} (h : Fp P many ab dp cs ns 0 tr rest) (hn : ns.Perm (rngI ns.length)) (h24 : ns.length ≤ 24) : IsPlan (tr 0) ∧ (tr 0).nSt = many ∧ (tr 0).each P ∧ (tr 0).nIn = ns.length := by
  have r0 : rest = [] := by
    have := h.left
    rw [List.take_zero, List.sum_nil] at this
    exact List.eq_nil_of_length_eq_zero (by omega)
  have e1 := h.nst
  rw [op_zero A h0] at e1
  have e2 : (tr 0).nSt = many := by
    have : sm (fun j => (tr j).nSt) [0] = (tr 0).nSt := by unfold sm; simp
    rw [this] at e1; omega
  have hp : (tr 0).ins.Perm ns := List.perm_iff_count.mpr fun x => by
    have := h.cnt x
    rw [op_zero A h0, r0] at this
    have e3 : sm (fun j => (tr j).ins.count x) [0] = (tr 0).ins.count x := by unfold sm; simp
    rw [e3] at this
    simpa using this
  have hl : (tr 0).nIn = ns.length := by rw [← ins_len, hp.length_eq]
  have hd := h.dep 0 (Nat.le_refl _) h0 0 (A.d0 (by omega))
  exact ⟨⟨h.st 0 (Nat.le_refl _) h0, h.good 0 (Nat.le_refl _) h0, h.full 0 (Nat.le_refl _) h0, by omega, by omega, by omega, by rw [hl]; exact hp.trans hn⟩, e2, h.ev 0 (Nat.le_refl _) h0, hl⟩
end

end
end SC.S
namespace SC.S
open PySem PySem.Spec PyProof.Rows L2 StrLaws
local macro_rules | `(tactic| walk_at "go") => `(tactic| ((try dsimp only [cxOf, Cx.nox, Cx.wish]); repeat (first
  | (with_reducible refine g_seq ?_)
  | (with_reducible refine g_asg ?_)
  | (with_reducible refine g_asg2 ?_)
  | (with_reducible refine g_ret ?_)
  | (with_reducible refine g_drop ?_)
  | (with_reducible refine g_next ?_)
  | (with_reducible refine g_ifs ?_)
  | (with_reducible refine g_par ?_)
  | (with_reducible refine g_par3 ?_)
  | ((with_reducible refine' g_var ?hv ?_); (case hv => exact rfl))
  | (with_reducible refine g_c ?_)
  | ((with_reducible refine' g_aug ?hv ?_); (case hv => exact rfl))
  | (with_reducible refine l_ip ?_)
  | (with_reducible refine g_op ?_)
  | (with_reducible refine g_un ?_)
  | (with_reducible refine g_cons ?_)
  | (with_reducible refine g_nil ?_)
  | (with_reducible refine g_cb ?_)
  | (with_reducible refine g_call ?_)
  | (with_reducible refine g_callK ?_)
  | (with_reducible refine g_test ?_)
  | (with_reducible refine g_b ?_)
  | (with_reducible refine g_not ?_)
  | (with_reducible refine g_chain ?_)
  | (with_reducible refine g_notV ?_)
  | (with_reducible refine g_and ?_)
  | (with_reducible refine g_or ?_)
  | (with_reducible refine g_ifx ?_)
  | (with_reducible refine g_isN ?_)
  | (with_reducible refine g_notN ?_)
  | (with_reducible refine g_andV ?_)
  | (with_reducible refine g_orV ?_)
  | (with_reducible refine g_bm ?_)
  | (with_reducible refine g_bm0 ?_)
  | (with_reducible refine g_sl ?_)
  | (with_reducible refine g_part ?_)
  | (with_reducible refine g_nopart ?_)
  | (with_reducible refine g_dget ?_)
  | (with_reducible refine g_dput ?_)
  | (with_reducible refine g_tup ?_)
  | (with_reducible refine g_lst ?_)
  | (with_reducible refine g_yes ?_)
  | (with_reducible refine g_name ?_)
  | (with_reducible refine g_gsub ?_)
  | (with_reducible refine g_iList ?_)
  | (with_reducible refine g_iTup ?_)
  | (with_reducible refine g_for ?_)
  | (with_reducible refine g_lc ?_)
  | (with_reducible refine g_rng1 ?_)
  | (with_reducible refine g_rng2 ?_)
  | (with_reducible refine g_rng3 ?_)
  | (with_reducible refine g_iZip ?_)
  | (with_reducible refine g_allT ?_)
  | (with_reducible refine g_iZipA ?_)
  | (with_reducible refine g_iZip3 ?_)
  | (with_reducible refine g_iZipM ?_)
  | (with_reducible refine g_iZipN ?_)
  | (with_reducible refine g_din ?_)
  | (with_reducible refine g_dc2 ?_)
  | (with_reducible refine g_iItems ?_)
  | (with_reducible refine g_minAbs ?_)
  | (with_reducible refine g_dnotin ?_)
  | (with_reducible refine g_iRev ?_)
  | (with_reducible refine g_dcT ?_)
  | (with_reducible refine g_dc ?_)
  | (with_reducible refine g_iEnumT ?_)
  | (with_reducible refine g_iEnum ?_)
  | (with_reducible refine g_lstRg ?_)
  | (with_reducible refine g_lz ?_)
  | (with_reducible refine g_tz ?_)
  | (with_reducible refine g_rg1 ?_)
  | (with_reducible refine g_gcons ?_)
  | (with_reducible refine g_gnil ?_)
  | (with_reducible refine l_bl ?_)
  | (with_reducible refine l_int ?_)
  | (with_reducible refine l_two ?_)
  | (with_reducible refine l_three ?_)
  | (with_reducible refine l_I0 ?_)
  | (with_reducible refine l_U ?_)
  | dsimp only)))
section
variable {P : Program} {w : World} {K : PySem.W.Frag} {mg : Str → Option Value} {base : Heap}
/-! ### _law_plan -/
theorem inV_ints {s : Int} : ∀ l : List Int, inV (.int s) (l.map V.int) = decide (s ∈ l)
  | [] => rfl
  | x :: l => by
    unfold inV
    rw [List.map_cons, List.any_cons]
    show ((x == s) || inV (.int s) (l.map V.int)) = _
    rw [inV_ints l]
    by_cases h : x = s
    · subst h; simp
    · have h2 : (x == s) = false := by simp [h]
      rw [h2, Bool.false_or]
      have : s ≠ x := fun e => h e.symm
      simp [this]
theorem flat_ints (l : List Int) : (l.map V.int).all flatV = true := List.all_eq_true.mpr fun x hx => by
  obtain ⟨i, _, rfl⟩ := List.mem_map.mp hx
  rfl
theorem cut_one (xs : List V) : cutV xs (some 1) none = xs.drop 1 := by
  unfold cutV
  rw [HT.sIx_none, show HT.sIx xs.length 0 (some 1) = min 1 xs.length from HT.sIx_nat xs.length 0 1]
  rw [List.take_of_length_le (by rw [List.length_drop]; omega)]
  rcases Nat.eq_zero_or_pos xs.length with z | z
  · rw [List.eq_nil_of_length_eq_zero z]; rfl
  · rw [show min 1 xs.length = 1 by omega]
theorem sum_nn : ∀ {l : List Int}, (∀ x ∈ l, 0 ≤ x) → 0 ≤ l.sum
  | [], _ => Int.le_refl _
  | x :: l, h => by
    have h1 := h x (List.mem_cons_self ..)
    have h2 := sum_nn (l := l) fun y hy => h y (List.mem_cons_of_mem _ hy)
    rw [List.sum_cons]; omega
theorem sum_le1 : ∀ {l : List Int}, (∀ x ∈ l, x ≤ 1) → l.sum ≤ l.length
  | [], _ => by simp
  | x :: l, h => by
    have h1 := h x (List.mem_cons_self ..)
    have h2 := sum_le1 (l := l) fun y hy => h y (List.mem_cons_of_mem _ hy)
    rw [List.sum_cons, List.length_cons]; omega
theorem sum_take {l : List Int} {k : Nat} {x : Int} (h : l[k]? = some x) : (l.take (k + 1)).sum = (l.take k).sum + x := by
  rw [take_one h, List.sum_append, List.sum_singleton]
theorem sum_take_le : ∀ {l : List Int} (_ : ∀ x ∈ l, 0 ≤ x) {k : Nat} {x : Int} (_ : l[k]? = some x), x ≤ l.sum
  | y :: l, h, 0, x, e => by
    obtain rfl := Option.some.inj e
    have := sum_nn (l := l) fun z hz => h z (List.mem_cons_of_mem _ hz)
    rw [List.sum_cons]; omega
  | y :: l, h, k + 1, x, e => by
    have h1 := h y (List.mem_cons_self ..)
    have := sum_take_le (l := l) (fun z hz => h z (List.mem_cons_of_mem _ hz)) (k := k) (x := x) e
    rw [List.sum_cons]; omega
  | [], _, k, x, e => by simp at e
theorem l_dgetI {H : Hp} {a : Addr} {kvs : List (L2.Key × V)} {i : Int} {v : V} {P : V → Prop} (h : H a = some (.dK kvs)) (hk : valV kvs (.inl i) = some v) (q : P v) : ∃ a' v', V.ref a = V.ref a' ∧ DGet H a' (.int i) (some v') ∧ P v' := by
  refine ⟨a, v, rfl, ?_, q⟩
  have g := DGet.k (k := Sum.inl i) h
  rw [hk] at g
  exact g
theorem l_dputI {H : Hp} {a : Addr} {kvs : List (L2.Key × V)} {i : Int} {v : V} {P : Hp → Prop} (h : H a = some (.dK kvs)) (hl : kvs.length < sizeLine) (q : P (upd H a (.dK (putK kvs (.inl i) v)))) : ∃ a' H4, V.ref a = V.ref a' ∧ DPut H a' (.int i) v H4 ∧ P H4 :=
  ⟨a, _, rfl, DPut.k (k := Sum.inl i) h hl, q⟩
theorem iteC {b : Bool} {i j : Int} {σ : L2.St} {H : Hp} {Q : VK} (h1 : b = true → Q (.int i) H) (h2 : b = false → Q (.int j) H) : if b = true then tC (V.int i) σ H Q else tC (V.int j) σ H Q := by
  cases b with
  | true => rw [if_pos rfl]; exact h1 rfl
  | false => rw [if_neg (by decide)]; exact h2 rfl
theorem inV_abV {ab : List Int} {s : Int} : inV (.int s) (abV ab) = decide (s ∈ ab.drop 1) := by
  unfold abV
  rw [← inV_ints]
  unfold inV
  rw [List.any_cons]
  rfl
theorem flat_abV (ab : List Int) : (abV ab).all flatV = true := by
  unfold abV
  rw [List.all_cons, flat_ints]; rfl
/-- how many inputs of its own each stage has, of the first ones -/
structure Ct (many n : Nat) (ab cs : List Int) (left : Int) : Prop where
  len : cs.length = n
  pos : ∀ x ∈ cs, 0 ≤ x
  leaf : ∀ (j : Nat) (x : Int), cs[j]? = some x → (j : Int) ∉ ab.drop 1 → 1 ≤ x
  sum : cs.sum + left = 24
  lo : (many : Int) - n ≤ left
  up : cs.sum ≤ 3 * n
  up2 : 1 ≤ n → (0 : Int) ∈ ab.drop 1 → cs.sum + 1 ≤ 3 * n
theorem Ct.next {many n : Nat} {ab cs : List Int} {left x : Int} (h : Ct many n ab cs left) (x0 : 0 ≤ x) (hl : (n : Int) ∉ ab.drop 1 → 1 ≤ x) (h2 : x ≤ left - ((many : Int) - n - 1)) (h3 : x ≤ 3) (h4 : n = 0 → (0 : Int) ∈ ab.drop 1 → x ≤ 2) : Ct many (n + 1) ab (cs ++ [x]) (left - x) := by
  refine ⟨by rw [List.length_append, h.len]; rfl, fun y hy => ?_, fun j y hj hm => ?_, by rw [List.sum_append, List.sum_singleton]; have := h.sum; omega, by omega, by rw [List.sum_append, List.sum_singleton]; have := h.up; omega, fun _ hm => by
    rw [List.sum_append, List.sum_singleton]
    by_cases z : n = 0
    · have := h4 z hm
      have := h.up
      omega
    · have := h.up2 (by omega) hm
      omega⟩
  · rcases List.mem_append.mp hy with z | z
    · exact h.pos y z
    · rw [List.mem_singleton.mp z]; exact x0
  · by_cases e : j < cs.length
    · rw [List.getElem?_append_left e] at hj
      exact h.leaf j y hj hm
    · have l1 := (List.getElem?_eq_some_iff.mp hj).1
      rw [List.length_append, List.length_singleton] at l1
      obtain rfl : j = cs.length := by omega
      rw [List.getElem?_append_right (Nat.le_refl _)] at hj
      simp at hj
      subst hj
      rw [h.len] at hm
      exact hl hm
/-- what is drawn at each stage -/
structure SGrow (ss : List Int) (pl rw : Prop) (n c : Int) (ps : List (Int × Th)) : Prop where
  sz : n ∈ ss
  w7 : ∀ p ∈ ps, p.1.natAbs ≤ 7
  pw : pl → ∀ p ∈ ps, isSt p.2 = true → p.1 = 1 ∨ p.1 = -1
  one : rw → (ps.map (·.2)).countP isSt ≤ 1
theorem row_chs {many : Nat} {ab dp : List Int} (R : RowUp many ab dp) (s : Nat) : (chs ab many s).length ≤ 1 := by
  have h : ∀ j ∈ chs ab many s, j = s + 1 := fun j hj => by
    obtain ⟨h1, h2, h3⟩ := mem_chs hj
    rw [(R j h2).2 (by omega)] at h3
    have : (((j - 1 : Nat) : Int)) = (s : Int) := h3
    omega
  have nd : (chs ab many s).Nodup := List.Pairwise.filter _ List.nodup_range'
  generalize chs ab many s = l at h nd
  match l, h, nd with
  | [], _, _ => exact Nat.zero_le _
  | [_], _, _ => exact Nat.le_refl _
  | x :: y :: r, h, nd =>
    have h1 := h x (List.mem_cons_self ..)
    have h2 := h y (List.mem_cons_of_mem _ (List.mem_cons_self ..))
    have := (List.nodup_cons.mp nd).1
    rw [h1, h2] at this
    exact absurd (List.mem_cons_self ..) this
theorem count_us {tr : Nat → Th} {l : List Nat} {pp : List Int} : (l.map tr ++ pp.map Th.inp).countP isSt ≤ l.length := by
  rw [List.countP_append]
  have h1 : (pp.map Th.inp).countP isSt = 0 := List.countP_eq_zero.mpr fun t ht => by
    obtain ⟨i, _, rfl⟩ := List.mem_map.mp ht
    simp [isSt]
  have h2 := List.countP_le_length (p := isSt) (l := l.map tr)
  rw [List.length_map] at h2
  omega
theorem nm_th {H : Hp} {v : V} {t : Th} (h : Dp K H v t.toD) (hd : t.dep ≤ 8) : Nm K H v := ⟨t.toD, h, num_toD t, by have := toD_depth t; omega⟩
def spPlan (K : PySem.W.Frag) : Sp := fun vs H Q _ => ∃ (δ : Dk) (sa : Addr) (many : Nat) (deep way : Int) (ss : List Int), vs = [.ref δ.d, .int many, .int deep, .ref sa, .int way] ∧ Bag H δ ∧ SqL K (hid δ.l H) sa (ss.map V.int) ∧ ss ≠ [] ∧ ss.length ≤ 100 ∧ (∀ s ∈ ss, 1 ≤ s ∧ s ≤ 10 ^ 30) ∧ 1 ≤ many ∧ many ≤ 12 ∧ 1 ≤ deep ∧ deep ≤ 7 ∧
  ∀ (u : Th) (p : Addr) (H' : Hp), IsPlan u → u.nSt = many → u.nIn ≤ 3 * many → (2 ≤ many → u.nIn + 1 ≤ 3 * many) → u.each (SGrow ss (way < 2) (way = 0 ∧ (many : Int) ≤ deep + 1)) → Bag H' δ → Same (hid δ.l H) (hid δ.l H') → Dp K H' (.ref p) u.toD → Q (.ref p) H'
theorem ok_l_plan (T : Tx K mg) : FnOk P w K mg base CX0 5 T.f_l_plan T.fd_l_plan ["deck", "many", "deep", "sizes", "way"] (spPlan K) := by
  refine T.F_l_plan.ok sc_l_plan (fun vs H Q E h => ?_) (fun cdv A outer s H vs Q E hr h => ?_)
  · obtain ⟨_, _, _, _, _, _, rfl, _⟩ := h
    rfl
  obtain ⟨δ, sa, many, deep, way, ss, rfl, D, hsa, hne, hsl, hsB, hm1, hm2, hd1, hd2, q⟩ := h
  refine ⟨_, (pss_cons (ps_asg (pe_tup (pa_cons (pe_call (ok_l_tree T) (hr.mono (by first | decide | omega)) (by rfl) T.g_l_tree T.F_l_tree.kp T.b_l_tree .nil pass0 (pa_cons (pv 0) (pa_cons (pv 1) (pa_cons (pv 2) (pa_cons (pe_cmpR op_eq (pv 4) pe_int (nomark _)) pa_nil))))) (pa_cons pe_dnewK (pa_cons pe_int pa_nil)))) (pg_tup (by rfl) (pgs_cons (pg_name (i := 5) sc_l_plan.nd rfl (Or.inr rfl)) (pgs_cons (pg_name (i := 6) sc_l_plan.nd rfl (Or.inr rfl)) (pgs_cons (pg_name (i := 7) sc_l_plan.nd rfl (Or.inl rfl)) pgs_nil)))))
      (pss_cons (ps_set (i := 8) sc_l_plan.nd rfl (Or.inl rfl) (pe_lst pa_nil))
      (pss_cons (ps_for PassesOwn.never rfl (pi_range1 rfl T.m_range (pa_cons (pv 1) pa_nil)) (pg_name (i := 9) sc_l_plan.nd rfl (Or.inr rfl)) (Evl.pss_cut (ps_set (i := 10) sc_l_plan.nd rfl (Or.inl rfl) (pe_ifExp (pt_cmpR op_in_seq (pv 9) (pv 5) (by with_unfolding_all rfl)) pe_int pe_int))
      (pss_cons (ps_set (i := 16) sc_l_plan.nd rfl (Or.inl rfl) (pe_callB (call_min2 rfl) (by rfl) T.m_min (by decide +kernel) (pa_cons (pe_op op_add (pv 10) (pe_call (ok_l_pick T) (hr.mono (by first | decide | omega)) (by rfl) T.g_l_pick T.F_l_pick.kp T.b_l_pick .nil pass0 (pa_cons (pv 0) (pa_cons (pe_lst (pa_cons pe_int (pa_cons pe_int (pa_cons pe_int (pa_cons pe_int pa_nil))))) pa_nil)))) (pa_cons (pe_op op_sub (pv 7) (pe_op op_sub (pe_op op_sub (pv 1) (pv 9)) pe_int)) pa_nil))))
      (pss_cons (ps_expr (pe_bm PySem.F.plainAttrs_list PySem.F.slot_list_append PySem.F.type_list_append mt_append (pv 8) (pa_cons (pv 16) pa_nil)))
      (pss_one (ps_set (i := 7) sc_l_plan.nd rfl (Or.inl rfl) (pe_op op_sub (pv 7) (pv 16))))))))
      (pss_cons (ps_set (i := 11) sc_l_plan.nd rfl (Or.inr rfl) (pe_call (ok_l_mixed T) (hr.mono (by first | decide | omega)) (by rfl) T.g_l_mixed T.F_l_mixed.kp T.b_l_mixed .nil pass0 (pa_cons (pv 0) (pa_cons (pe_listRg rfl (by rfl) T.m_list (prg_1 (by rfl) T.m_range (pe_callB (cr_sum rfl) (by rfl) T.m_sum (by decide +kernel) (pa_cons (pv 8) pa_nil)))) pa_nil))))
      (pss_cons (ps_for PassesOwn.never rfl (pi_range3 rfl T.m_range (pa_cons (pe_op op_sub (pv 1) pe_int) (pa_cons (pe_un un_neg pe_int) (pa_cons (pe_un un_neg pe_int) pa_nil)))) (pg_name (i := 9) sc_l_plan.nd rfl (Or.inr rfl)) (pss_cons (ps_setLc (i := 12) (own := [("turn", 17)]) (g := (gName 17)) (tt := tYes) rfl sc_l_plan.nd rfl rfl (sw_true rfl rfl rfl (by decide +kernel)) (pi_range1 rfl T.m_range (pa_cons (pe_ix ix_list (pv 8) (pv 9) (fun _ _ => rfl)) pa_nil)) (blkOk_by (own := [("turn", 17)]) (N := ["deck", "many", "deep", "sizes", "way", "above", "stages", "left", "counts", "node", "least", "names", "things", "kinds", "divisor", "offset", "own", "turn", "thing"]) (sc := defScope s_l_plan) (by decide +kernel)) (fun _ _ _ _ _ => (pg_name (i := 17) sc_l_plan.nd rfl (Or.inl rfl))) (fun _ _ _ _ _ => pts_nil) (fun _ _ _ _ _ => (show PE _ _ (tBM0 K _ rPop _) from (pe_bm0 PySem.F.plainAttrs_list PySem.F.slot_list_pop PySem.F.type_list_pop mt_pop (pv 11)))))
      (pss_cons (ps_set (i := 12) sc_l_plan.nd rfl (Or.inl rfl) (pe_call (ok_l_mixed T) (hr.mono (by first | decide | omega)) (by rfl) T.g_l_mixed T.F_l_mixed.kp T.b_l_mixed .nil pass0 (pa_cons (pv 0) (pa_cons (pe_op op_cat (pv 12) (pe_lc (own := [("own", 16)]) (g := (gName 16)) (by rfl) sc_l_plan.nd (pi_range2 rfl T.m_range (pa_cons (pe_op op_add (pv 9) pe_int) (pa_cons (pv 1) pa_nil))) (blkOk_by (own := [("own", 16)]) (N := ["deck", "many", "deep", "sizes", "way", "above", "stages", "left", "counts", "node", "least", "names", "things", "kinds", "divisor", "offset", "own", "turn", "thing"]) (sc := defScope s_l_plan) (by decide +kernel)) (fun _ _ _ _ _ => (pg_name (i := 16) sc_l_plan.nd rfl (Or.inl rfl))) (fun _ _ _ _ _ => pts_one (pt_cmpR op_eq (pe_ix (show IxR _ (rIxL K) from ix_list) (pv 5) (pv 16) (fun _ _ => rfl)) (pv 9) (nomark _))) (fun _ _ _ _ _ => (pe_dget (hu_of hr) (pv 6) (pv 16) (fun _ _ => rfl))))) pa_nil))))
      (pss_cons (ps_setLc (i := 13) (own := [("thing", 18)]) (g := (gName 18)) (tt := tYes) rfl sc_l_plan.nd rfl rfl (sw_true rfl rfl rfl (by decide +kernel)) (pi_list (pv 12)) (blkOk_by (own := [("thing", 18)]) (N := ["deck", "many", "deep", "sizes", "way", "above", "stages", "left", "counts", "node", "least", "names", "things", "kinds", "divisor", "offset", "own", "turn", "thing"]) (sc := defScope s_l_plan) (by decide +kernel)) (fun _ _ _ _ _ => (pg_name (i := 18) sc_l_plan.nd rfl (Or.inl rfl))) (fun _ _ _ _ _ => pts_nil) (fun _ _ _ _ _ => (pe_ifExp (pt_val (pe_callB (show CallR _ _ (rIsi K) from call_isi) (by rfl) T.m_isinstance (by decide +kernel) (pa_cons (pv 18) (pa_cons (pe_bltn (by rfl) T.m_tuple (by decide +kernel) (show RelV (.ty "tuple") _ from rfl)) pa_nil)))) pe_str pe_str)))
      (pss_cons (ps_set (i := 14) sc_l_plan.nd rfl (Or.inl rfl) (pe_call (ok_l_pick T) (hr.mono (by first | decide | omega)) (by rfl) T.g_l_pick T.F_l_pick.kp T.b_l_pick .nil pass0 (pa_cons (pv 0) (pa_cons (pv 3) pa_nil))))
      (pss_cons (ps_set (i := 15) sc_l_plan.nd rfl (Or.inl rfl) (pe_call (ok_l_pick T) (hr.mono (by first | decide | omega)) (by rfl) T.g_l_pick T.F_l_pick.kp T.b_l_pick .nil pass0 (pa_cons (pv 0) (pa_cons (pe_lst (pa_cons pe_int (pa_cons (pe_op op_sub (pv 14) pe_int) (pa_cons (pe_op op_fdivW (pv 14) pe_int) (pa_cons (pe_call (ok_l_draw T) (hr.mono (by first | decide | omega)) (by rfl) T.g_l_draw T.F_l_draw.kp T.b_l_draw .nil pass0 (pa_cons (pv 0) (pa_cons (pv 14) pa_nil))) pa_nil))))) pa_nil))))
      (pss_one (ps_dput (hu_of hr) (pv 6) (pv 9) (pe_tup (pa_cons (pv 14) (pa_cons (pv 15) (pa_cons (pe_tupleZip rfl (by rfl) T.m_tuple (by rfl) T.m_zip (pa_cons (pe_call (ok_l_weights T) (hr.mono (by first | decide | omega)) (by rfl) T.g_l_weights T.F_l_weights.kp T.b_l_weights .nil pass0 (pa_cons (pv 0) (pa_cons (pv 13) (pa_cons (pe_cmpR op_lt (pv 4) pe_int (nomark _)) pa_nil)))) (pa_cons (pv 12) pa_nil))) pa_nil)))) rfl))))))))
      (pss_one (ps_ret (pe_dget (hu_of hr) (pv 6) pe_int (fun _ _ => rfl))))))))), ?_⟩
  walk_at "go"
  refine l_eq rfl ?_
  refine ⟨δ, many, deep, _, rfl, D, hm1, hm2, hd1, hd2, fun ab dp al H1 A hRow nal eal D1 s1 => ?_⟩
  have hRow : way = 0 ∧ (many : Int) ≤ deep + 1 → RowUp many ab dp := fun h => hRow (decide_eq_true (by rw [h.1])) h.2
  have alD := bag_out D nal
  walk_at "go"
  intro dk ndk
  walk_at "go"
  refine ⟨sz (by simp), fun tp ntp => ?_⟩
  refine g_gtup (sq_t upd_same) rfl ?_
  have z1 := same_new (o := .dK []) ndk
  have z2 := same_new (o := .tup [.ref al, .ref dk, .int 24]) ntp
  have z12 := z1.trans z2
  have D2 := bag_new D1 z12
  have ndk0 : H dk = none := bag_free D1 s1 ndk
  have dkD := bag_out D ndk0
  have ed2 := z2 _ _ (upd_same (H := H1) (a := dk) (o := .dK []))
  have ea2 := z12 _ _ eal
  have s02 := s1.trans (same_hid (D := δ.l) z12)
  have aldk : al ≠ dk := ne_of_none eal ndk
  generalize upd (upd H1 dk (.dK [])) tp (.tup [.ref al, .ref dk, .int 24]) = H2 at D2 ed2 ea2 s02 ⊢
  clear z12 z2 z1 eal D1 s1
  walk_at "go"
  refine ⟨Nat.zero_le _, fun L nL => ?_⟩
  walk_at "go"
  have zL := same_new (o := .lst []) nL
  have LD : L ∉ δ.l := bag_out D2 nL
  have nL0 : H L = none := bag_free D2 s02 nL
  have alL : al ≠ L := ne_of_none ea2 nL
  have Ldk : L ≠ dk := fun e => by rw [e, ed2] at nL; cases nL
  refine ⟨many, rfl, by omega, by omega, ?_⟩
  rw [Int.toNat_natCast]
  refine for_R (lo := 0) (n := many) (fun i σ H' => ∃ (cs : List Int) (left : Int) (y9 y10 y16 : Option V), σ = [some (.ref δ.d), some (.int many), some (.int deep), some (.ref sa), some (.int way), some (.ref al), some (.ref dk), some (.int left), some (.ref L), y9, y10, none, none, none, none, none, y16, none, none] ∧
      Ct many i ab cs left ∧ H' L = some (.lst (cs.map V.int)) ∧ H' al = some (.lst (abV ab)) ∧ H' dk = some (.dK []) ∧ Bag H' δ ∧ Same (hid δ.l H) (hid δ.l H'))
    ⟨[], 24, none, none, none, rfl, ⟨rfl, fun x hx => (by cases hx), fun j x h => (by simp at h), rfl, by omega, by simp, fun h _ => absurd h (by omega)⟩, upd_same, zL _ _ ea2, zL _ _ ed2, bag_new D2 zL, s02.trans (same_hid zL)⟩ (fun i σ H3 hi h => ?_) (fun σ H3 h => ?_)
  · obtain ⟨cs, left, y9, y10, y16, rfl, C, eL, ea, ed, D3, s3⟩ := h
    rw [Int.zero_add]
    walk_at "go"
    refine g_cut (fun σ' H' => ∃ le : Int, σ' = [some (.ref δ.d), some (.int many), some (.int deep), some (.ref sa), some (.int way), some (.ref al), some (.ref dk), some (.int left), some (.ref L), some (.int (i : Int)), some (.int le), none, none, none, none, none, y16, none, none] ∧ 0 ≤ le ∧ ((i : Int) ∉ ab.drop 1 → 1 ≤ le) ∧ le ≤ 1 ∧ ((i : Int) ∈ ab.drop 1 → le = 0) ∧ H' = H3) ?_ ?_
    · walk_at "go"
      refine ⟨al, _, rfl, .inl (sq_l ea), rfl, flat_abV _, ?_⟩
      rw [if_neg (by decide), inV_abV]
      refine ⟨_, rfl, ?_⟩
      refine iteC (fun h3 => ?_) (fun h3 => ?_)
      · walk_at "go"
        exact ⟨0, rfl, by decide, fun z => absurd (of_decide_eq_true h3) z, by decide, fun _ => rfl, rfl⟩
      · walk_at "go"
        exact ⟨1, rfl, by decide, fun _ => by decide, by decide, fun z => absurd z (of_decide_eq_false h3), rfl⟩
    rintro σ' H' ⟨le, rfl, l0, l1, l2, l3, eH⟩
    obtain rfl : H3 = H' := eH.symm
    walk_at "go"
    refine ⟨sz (by simp), fun p1 n1 => ?_⟩
    walk_at "go"
    refine pick_ints (is := [0, 0, 1, 2]) D3 n1 (by decide) (by decide) fun r H4 hr4 D4 s4 => ?_
    have r0 : 0 ≤ r ∧ r ≤ 2 := by
      simp only [List.mem_cons, List.not_mem_nil, or_false] at hr4
      omega
    walk_at "go"
    refine ⟨_, _, rfl, ?_⟩
    generalize ex : (if left - ((many : Int) - (i : Int) - 1) < le + r then left - ((many : Int) - (i : Int) - 1) else le + r) = x
    have lo := C.lo
    have x0 : 0 ≤ x := by rw [← ex]; split <;> omega
    have x1 : (i : Int) ∉ ab.drop 1 → 1 ≤ x := fun z => by have := l1 z; rw [← ex]; split <;> omega
    have x2 : x ≤ left - ((many : Int) - i - 1) := by rw [← ex]; split <;> omega
    have x3 : x ≤ 3 := by rw [← ex]; split <;> omega
    have x4 : i = 0 → (0 : Int) ∈ ab.drop 1 → x ≤ 2 := fun z hm => by
      have := l3 (by rw [z]; exact hm)
      rw [← ex]; split <;> omega
    have eL4 := lst_hid LD s4 eL
    walk_at "go"
    refine l_tyL (sq_l eL4) ?_
    walk_at "go"
    refine l_app eL4 (sz1 (by rw [List.length_map, C.len]; omega)) ?_
    walk_at "go"
    refine ⟨cs ++ [x], left - x, _, _, _, rfl, C.next x0 x1 x2 x3 x4, by rw [upd_same, List.map_append]; rfl, by rw [upd_ne alL]; exact lst_hid alD s4 ea, by rw [upd_ne Ldk.symm]; exact (hid_get (s4 _ _ (hid_put dkD ed))).2, bag_mut D4 LD, hid_mut (s3.trans s4) (hid_none nL0)⟩
  obtain ⟨cs, left, y9, y10, y16, rfl, C, eL, ea, ed, D3, s3⟩ := h
  have sm0 : 0 ≤ cs.sum := sum_nn C.pos
  have sm1 : cs.sum ≤ 24 := by have := C.sum; have := C.lo; omega
  obtain ⟨N, hN⟩ : ∃ N : Nat, cs.sum = (N : Int) := ⟨cs.sum.toNat, by omega⟩
  clear D2 ed2 ea2 s02 nL zL
  walk_at "go"
  refine ⟨L, cs, rfl, sq_l eL, ?_⟩
  rw [hN]
  walk_at "go"
  refine ⟨RgOk.of_le (by omega) (by omega) (by omega) (by omega), fun m2 nm2 => ?_⟩
  rw [rgV_eq]
  have z6 := same_new (o := .lst ((rngI N).map V.int)) nm2
  walk_at "go"
  refine ⟨δ, m2, _, rfl, bag_new D3 z6, sq_l (hid_put (bag_out D3 nm2) upd_same), fun x hx => ?_, by rw [List.length_map]; unfold rngI; rw [List.length_map, List.length_range]; omega, fun ys nl H6 hp nnl D6 enl s6 => ?_⟩
  · obtain ⟨i, _, rfl⟩ := List.mem_map.mp hx
    exact nm_int i
  obtain ⟨ns, hns, rfl⟩ := perm_map hp
  have lns : ns.length = N := by rw [hns.length_eq]; unfold rngI; rw [List.length_map, List.length_range]
  have s36 := (same_hid (D := δ.l) z6).trans s6
  have nlD := bag_out (bag_new D3 z6) nnl
  have nnl3 : H3 nl = none := z6.free nnl
  have nnl0 : H nl = none := bag_free D3 s3 nnl3
  have e6 := lst_hid LD s36 eL
  have ea6 := lst_hid alD s36 ea
  have ed6 := (hid_get (s36 _ _ (hid_put dkD ed))).2
  have s06 := s3.trans s36
  have nldk : nl ≠ dk := fun e => by rw [e, ed] at nnl3; cases nnl3
  have Lnl : L ≠ nl := ne_of_none eL nnl3
  have alnl : al ≠ nl := ne_of_none ea nnl3
  clear z6 s6 s36 eL ea ed D3 s3 nnl3
  have hsum : ((ns.length : Nat) : Int) = cs.sum := by rw [hN, lns]
  walk_at "go"
  refine ⟨_, _, _, many, rfl, (by
    have := RgC.neg (i := (many : Int) - 1) (j := -1) (by omega) (by omega) (by omega) (by omega)
    rw [show ((many : Int) - 1 - -1).toNat = many by omega] at this
    exact this), ?_⟩
  refine for_C (n := many) (fun i σ H' => ∃ (tr : Nat → Th) (pv : Nat → V) (kv : List (L2.Key × V)) (rest : List Int) (y9 y12 y13 y14 y15 : Option V), σ = [some (.ref δ.d), some (.int many), some (.int deep), some (.ref sa), some (.int way), some (.ref al), some (.ref dk), some (.int left), some (.ref L), y9, y10, some (.ref nl), y12, y13, y14, y15, y16, none, none] ∧
      Fp (SGrow ss (way < 2) (way = 0 ∧ (many : Int) ≤ deep + 1)) many ab dp cs ns (many - i) tr rest ∧ (∀ j : Nat, many - i ≤ j → j < many → valV kv (.inl (j : Int)) = some (pv j)) ∧ kv.length ≤ i ∧ (∀ j : Nat, many - i ≤ j → j < many → Dp K H' (pv j) (tr j).toD) ∧
      H' nl = some (.lst (rest.map V.int)) ∧ H' dk = some (.dK kv) ∧ H' L = some (.lst (cs.map V.int)) ∧ H' al = some (.lst (abV ab)) ∧ Bag H' δ ∧ Same (hid δ.l H) (hid δ.l H'))
    ⟨fun _ => .inp 0, fun _ => .non, [], ns, y9, none, none, none, none, rfl, Fp.start A hsum C.len, fun j h1 h2 => absurd h2 (by omega), Nat.le_refl _, fun j h1 h2 => absurd h2 (by omega), enl, ed6, e6, ea6, D6, s06⟩ (fun i σ H9 hi h => ?_) (fun σ H9 h => ?_)
  · obtain ⟨tr, pv, kv, rest, y9, y12, y13, y14, y15, rfl, F, hkv, lkv, hdp, en, ed, e9, ea9, D9, s9⟩ := h
    obtain ⟨s, hs⟩ : ∃ s : Nat, s = many - (i + 1) := ⟨_, rfl⟩
    have hs1 : s + 1 = many - i := by omega
    have hs2 : s < many := by omega
    have hi' : (many : Int) - 1 + (i : Int) * -1 = (s : Int) := by omega
    rw [hi']
    rw [← hs1] at F hkv hdp
    rw [← hs]
    clear hi'
    obtain ⟨x, hx⟩ : ∃ x, cs[s]? = some x := ⟨_, List.getElem?_eq_getElem (by rw [C.len]; omega)⟩
    have x0 := C.pos x (List.mem_of_getElem? hx)
    have xN : x ≤ N := by rw [← hN]; exact sum_take_le C.pos hx
    have ts0 : 0 ≤ (cs.take s).sum := sum_nn fun y hy => C.pos y (List.mem_of_mem_take hy)
    have hleft := F.left
    rw [sum_take hx] at hleft
    walk_at "go"
    refine l_ixL (sq_l e9) (at_of (j := s) rfl (by rw [List.getElem?_map, hx]; rfl)) ?_
    refine ⟨x, rfl, by omega, by omega, fun TL nTL => ?_⟩
    have zT := same_new (o := .lst []) nTL
    have nTL0 : H TL = none := bag_free D9 s9 nTL
    have TLD := bag_out D9 nTL
    have nlT : nl ≠ TL := ne_of_none en nTL
    have LT : L ≠ TL := ne_of_none e9 nTL
    have alT : al ≠ TL := ne_of_none ea9 nTL
    have dkT : dk ≠ TL := fun e => by rw [e, nTL] at ed; cases ed
    refine lc_range (lo := 0) (n := x.toNat) (fun i2 H' => ∃ (rest' po : List Int), rest = rest' ++ po.reverse ∧ po.length = i2 ∧
        H' nl = some (.lst (rest'.map V.int)) ∧ H' TL = some (.lst (po.map V.int)) ∧ H' dk = some (.dK kv) ∧ H' L = some (.lst (cs.map V.int)) ∧ H' al = some (.lst (abV ab)) ∧ Bag H' δ ∧ Same (hid δ.l H) (hid δ.l H') ∧ TSame H9 H')
      ⟨rest, [], by simp, rfl, zT _ _ en, upd_same, zT _ _ ed, zT _ _ e9, zT _ _ ea9, bag_new D9 zT, s9.trans (same_hid zT), ts_same zT⟩ (fun i2 H11 hi2 h => ?_) (fun H11 h => ?_)
    · obtain ⟨rest', po, er, lpo, en, eT, ed, e11, ea11, D11, s11, t11⟩ := h
      obtain ⟨ri, y, rfl⟩ : ∃ ri y, rest' = ri ++ [y] := by
        cases e : rest' with
        | nil =>
          rw [e, List.nil_append] at er
          rw [er, List.length_reverse, lpo] at hleft
          omega
        | cons a r => exact ⟨(a :: r).dropLast, (a :: r).getLast (List.cons_ne_nil _ _), (List.dropLast_concat_getLast _).symm⟩
      rw [List.map_append, List.map_singleton] at en
      walk_at "go"
      refine ⟨rfl, ?_⟩
      walk_at "go"
      rw [if_pos rfl]
      walk_at "go"
      refine l_tyL (sq_l en) (l_pop en ?_)
      have eT2 : (upd H11 nl (.lst (ri.map V.int))) TL = some (.lst (po.map V.int)) := by rw [upd_ne nlT.symm]; exact eT
      refine ⟨_, eT2, sz1 (by rw [List.length_map]; omega), ri, po ++ [y], ?_, by rw [List.length_append, lpo]; rfl, by rw [upd_ne nlT, upd_same], by rw [upd_same, List.map_append]; rfl, by rw [upd_ne dkT, upd_ne nldk.symm]; exact ed, by rw [upd_ne LT, upd_ne Lnl]; exact e11, by rw [upd_ne alT, upd_ne alnl]; exact ea11,
        bag_mut (bag_mut D11 nlD) TLD, hid_mut (hid_mut s11 (hid_none nnl0)) (hid_none nTL0), (t11.trans (ts_lst en)).trans (ts_lst eT2)⟩
      rw [er, List.reverse_append, List.append_assoc]; rfl
    obtain ⟨rest', po, er, lpo, en, eT, ed, e11, ea11, D11, s11, t11⟩ := h
    have lr : ((rest'.length : Nat) : Int) = (cs.take s).sum := by
      rw [er, List.length_append, List.length_reverse] at hleft
      omega
    have hdp11 : ∀ j, s + 1 ≤ j → j < many → Dp K H11 (pv j) (tr j).toD := fun j h1 h2 => dp_t t11 (toD_t _) (hdp j h1 h2)
    have clen := chs_len (ab := ab) (many := many) s
    clear D9 s9 zT e9 ea9 hdp t11
    walk_at "go"
    refine ⟨_, _, rfl, by omega, fun CL nCL => ?_⟩
    have zC := same_new (o := .lst []) nCL
    rw [show ((many : Int) - ((s : Int) + 1)).toNat = many - (s + 1) by omega]
    refine lc_range (lo := (s : Int) + 1) (n := many - (s + 1)) (fun j H' => H' CL = some (.lst (((List.range' (s + 1) j).filter fun k => decide (ab[k]?.getD 0 = (s : Int))).map pv)) ∧ Same H11 H') ⟨upd_same, zC⟩ (fun j H' hj h => ?_) (fun H12 h => ?_)
    · obtain ⟨eC, sC⟩ := h
      have ej : (s : Int) + 1 + (j : Int) = ((s + 1 + j : Nat) : Int) := by omega
      rw [ej]
      walk_at "go"
      refine ⟨rfl, ?_⟩
      obtain ⟨ak, hak⟩ : ∃ a, ab[s + 1 + j]? = some a := ⟨_, List.getElem?_eq_getElem (by rw [A.la]; omega)⟩
      have hg : ab[s + 1 + j]?.getD 0 = ak := by rw [hak]; rfl
      have hlen : ((List.range' (s + 1) j).filter fun k => decide (ab[k]?.getD 0 = (s : Int))).length ≤ j := Nat.le_trans (List.length_filter_le ..) (by rw [List.length_range']; exact Nat.le_refl _)
      walk_at "go"
      refine l_ixL (sq_l (sC _ _ ea11)) (at_of (j := s + 1 + j) rfl (abV_get (by omega) hak)) ?_
      walk_at "go"
      refine l_eq rfl ?_
      walk_at "go"
      refine iteB (fun h3 => ?_) (fun h3 => ?_)
      · walk_at "go"
        refine l_dgetI (sC _ _ ed) (hkv (s + 1 + j) (by omega) (by omega)) ?_
        have h4 : ak = (s : Int) := by injection h3
        refine ⟨_, eC, sz1 (by rw [List.length_map]; omega), ?_, same_mut sC nCL⟩
        rw [upd_same, List.range'_1_concat, List.filter_append, List.map_append, List.filter_cons, if_pos (by rw [hg, h4]; exact decide_eq_true rfl)]
        rfl
      · have h4 : ak ≠ (s : Int) := fun e => h3 (by rw [e])
        refine ⟨?_, sC⟩
        rw [List.range'_1_concat, List.filter_append, List.filter_cons, if_neg (by rw [hg]; simpa using h4), List.filter_nil, List.append_nil]
        exact eC
    obtain ⟨eC, s12⟩ := h
    have eC : H12 CL = some (.lst ((chs ab many s).map pv)) := eC
    refine ⟨TL, CL, _, _, rfl, rfl, s12 _ _ eT, eC, sz (by rw [List.length_map, List.length_map]; omega), fun M nM => ?_⟩
    have zM := same_new (o := .lst (po.map V.int ++ (chs ab many s).map pv)) nM
    have s1M := s12.trans zM
    have D13 := bag_new D11 s1M
    have s13 := s11.trans (same_hid (D := δ.l) s1M)
    have eM : (upd H12 M (.lst (po.map V.int ++ (chs ab many s).map pv))) M = some (.lst (po.map V.int ++ (chs ab many s).map pv)) := upd_same
    have hL0 : po.map V.int ++ (chs ab many s).map pv = ((po.map fun i => (V.int i, Th.inp i)) ++ (chs ab many s).map (fun j => (pv j, tr j))).map (·.1) := by
      rw [List.map_append, List.map_map, List.map_map]; rfl
    have hU0 : ((po.map fun i => (V.int i, Th.inp i)) ++ (chs ab many s).map (fun j => (pv j, tr j))).map (·.2) = po.map Th.inp ++ (chs ab many s).map tr := by
      rw [List.map_append, List.map_map, List.map_map]; rfl
    have nMD : M ∉ δ.l := bag_out (bag_new D11 s12) nM
    have en13 := s1M _ _ en
    have ed13 := s1M _ _ ed
    have e13 := s1M _ _ e11
    have ea13 := s1M _ _ ea11
    have hdp13 : ∀ j, s + 1 ≤ j → j < many → Dp K (upd H12 M (.lst (po.map V.int ++ (chs ab many s).map pv))) (pv j) (tr j).toD := fun j h1 h2 => dp_same s1M (hdp11 j h1 h2)
    generalize upd H12 M (.lst (po.map V.int ++ (chs ab many s).map pv)) = H13 at D13 s13 eM en13 ed13 e13 ea13 hdp13 ⊢
    clear zM s1M s12 eC zC en ed e11 ea11 D11 s11 eT hdp11
    have tsd : ∀ j, s + 1 ≤ j → j < many → (tr j).dep ≤ 8 := fun j h1 h2 => by
      obtain ⟨d, hd⟩ : ∃ d, dp[j]? = some d := ⟨_, List.getElem?_eq_getElem (by rw [A.ld]; omega)⟩
      have := F.dep j h1 h2 d hd
      have := (A.dep d (List.mem_of_getElem? hd)).1
      omega
    walk_at "go"
    refine ⟨δ, M, _, rfl, D13, sq_l (hid_put nMD eM), fun y hy => ?_, by rw [List.length_append, List.length_map, List.length_map]; omega, fun ys p H14 hp np D14 e14 s14 => ?_⟩
    · rcases List.mem_append.mp hy with h | h
      · obtain ⟨i, _, rfl⟩ := List.mem_map.mp h
        exact nm_int i
      · obtain ⟨j, hj, rfl⟩ := List.mem_map.mp h
        have hj2 := mem_chs hj
        exact nm_th (dp_t (bag_ts D13) (toD_t _) (hdp13 j hj2.1 hj2.2.1)) (tsd j hj2.1 hj2.2.1)
    rw [hL0] at hp
    obtain ⟨L', hL', rfl⟩ := perm_map hp
    have lenL : L'.length = po.length + (chs ab many s).length := by rw [hL'.length_eq, List.length_append, List.length_map, List.length_map]
    have hne2 : L' ≠ [] := fun e => by
      rw [e, List.length_nil] at lenL
      have h3 := C.leaf s x hx (chs_none A (List.eq_nil_of_length_eq_zero (by omega)))
      omega
    have pD := bag_out D13 np
    have np0 : H p = none := bag_free D13 s13 np
    have hT14 : Ths K H14 L' := fun z hz => by
      have hz2 := hL'.mem_iff.mp hz
      refine dp_t (ts_bag D13 s14) (toD_t _) ?_
      rcases List.mem_append.mp hz2 with h | h
      · obtain ⟨i, _, rfl⟩ := List.mem_map.mp h
        simp only [Th.toD]
        exact .int i
      · obtain ⟨j, hj, rfl⟩ := List.mem_map.mp h
        exact hdp13 j (mem_chs hj).1 (mem_chs hj).2.1
    have en14 := lst_hid nlD s14 en13
    have ed14 := (hid_get (s14 _ _ (hid_put dkD ed13))).2
    have eL14 := lst_hid LD s14 e13
    have ea14 := lst_hid alD s14 ea13
    have hdp14 : ∀ j, s + 1 ≤ j → j < many → Dp K H14 (pv j) (tr j).toD := fun j h1 h2 => dp_t (ts_bag D13 s14) (toD_t _) (hdp13 j h1 h2)
    have s014 := s13.trans s14
    clear en13 ed13 e13 ea13 hdp13 s14
    walk_at "go"
    refine ⟨p, rfl, ⟨_, sq_l e14⟩, fun KL nKL => ?_⟩
    have zK := same_new (o := .lst []) nKL
    refine lc_list (xs := L'.map (·.1)) (fun j H' => H' KL = some (.lst (((L'.take j).map fun z => isSt z.2).map fun b => V.str (kindS b))) ∧ Same H14 H') ⟨upd_same, zK⟩ (fun j H' _ h => sq_l (h.2 _ _ e14)) (fun j y H' hy h => ?_) (fun H15 h => ?_)
    · obtain ⟨eK, sK⟩ := h
      rw [List.getElem?_map] at hy
      cases ez : L'[j]? with
      | none => rw [ez] at hy; cases hy
      | some z =>
      rw [ez] at hy
      obtain rfl := Option.some.inj hy
      have hz := dp_same sK (hT14 z (List.mem_of_getElem? ez))
      obtain ⟨zv, zt⟩ := z
      simp only at hz ⊢
      have il : j < L'.length := (List.getElem?_eq_some_iff.mp ez).1
      have fin : ∀ v : V, v = V.str (kindS (isSt zt)) → ∃ acc, H' KL = some (.lst acc) ∧ acc.length < sizeLine ∧ (upd H' KL (.lst (acc ++ [v]))) KL = some (.lst (((L'.take (j + 1)).map fun z => isSt z.2).map fun b => V.str (kindS b))) ∧ Same H14 (upd H' KL (.lst (acc ++ [v]))) := fun v hv => by
        refine ⟨_, eK, sz1 (by rw [List.length_map, List.length_map, List.length_take]; omega), ?_, same_mut sK nKL⟩
        rw [upd_same, take_one ez, List.map_append, List.map_append, hv]
        rfl
      walk_at "go"
      refine ⟨rfl, ?_⟩
      walk_at "go"
      rw [if_pos rfl]
      walk_at "go"
      cases zt with
      | inp i0 =>
        simp only [Th.toD] at hz
        obtain rfl := dp_int hz
        refine isi_it ?_
        walk_at "go"
        rw [if_neg (by decide)]
        walk_at "go"
        exact fin _ rfl
      | st c' d' ps' =>
        have hz4 := hz
        simp only [Th.toD] at hz4
        obtain ⟨tv2, rfl⟩ := dp_tuple hz4
        obtain ⟨b2, xs2, ht2, _, _⟩ := pl_at hz
        refine isi_tt ht2 ?_
        walk_at "go"
        rw [if_pos rfl]
        walk_at "go"
        exact fin _ rfl
    obtain ⟨eK, s15⟩ := h
    rw [List.length_map, List.take_length] at eK
    have D15 := bag_new D14 s15
    have KLD := bag_out D14 nKL
    walk_at "go"
    refine ⟨δ, sa, _, rfl, D15, (s014.trans (same_hid s15)).seq hsa, fun z => hne (List.map_eq_nil_iff.mp z), by rw [List.length_map]; omega, fun y H16 hy D16 s16 => ?_⟩
    obtain ⟨dv, hdv, rfl⟩ := List.mem_map.mp hy
    obtain ⟨dv1, dv2⟩ := hsB dv hdv
    walk_at "go"
    refine l_I ⟨by decide, by decide⟩ ?_
    walk_at "go"
    refine ⟨δ, dv, rfl, D16, lim_of (by omega) (by omega), fun v H17 v0 v1 _ D17 s17 => ?_⟩
    have v1 := v1 dv1
    walk_at "go"
    refine ⟨sz (by simp), fun m1 nm1 => ?_⟩
    walk_at "go"
    refine pick_ints (is := [0, dv - 1, dv / 2, v]) D17 nm1 (by simp) (by simp) fun c H18 hc D18 s18 => ?_
    obtain ⟨c0, c1⟩ : 0 ≤ c ∧ c < dv := by
      simp only [List.mem_cons, List.not_mem_nil, or_false] at hc
      rcases hc with h | h | h | h <;> subst h <;> omega
    have s58 := s16.trans (s17.trans s18)
    have s48 := (same_hid (D := δ.l) s15).trans s58
    have eK18 := lst_hid KLD s58 eK
    have e18 := lst_hid pD s48 e14
    walk_at "go"
    refine ⟨δ, KL, L'.map fun z => isSt z.2, _, rfl, D18, eK18, KLD, fun e => hne2 (List.map_eq_nil_iff.mp e), by rw [List.length_map]; omega, fun ws pw H19 wok w7 wl hpl npw epw D19 s19 => ?_⟩
    have hpl : way < 2 → PlainW (L'.map fun z => isSt z.2) ws := fun h => hpl (decide_eq_true h)
    rw [List.length_map] at wl
    have s49 := s48.trans s19
    have e19 := lst_hid pD s19 e18
    walk_at "go"
    refine ⟨pw, p, ws.map V.int, L'.map (·.1), rfl, sq_l epw, sq_l e19, by rw [List.length_map, List.length_map]; omega, by rw [List.length_map]; omega, fun Dz Ts H20 nD s20 hT eD hTs => ?_⟩
    refine ⟨sz (by simp), fun pz npz => ?_⟩
    have s20' : Same H19 H20 := fun a o e => s20 a o e
    have z21 := same_new (o := .tup [.int dv, .int c, .ref Dz]) npz
    have s921 := s20'.trans z21
    have s421 := s49.trans (same_hid (D := δ.l) s921)
    have t421 := ts_bag D14 s421
    have hL21 := hT14.ts t421
    have ok : StgOk ((chs ab many s).map tr ++ po.map Th.inp) dv c (wz ws L') := ⟨⟨dv1, dv2, c0, c1, by rw [wz_fst wl]; exact wok⟩, by
      rw [wz_snd wl]
      refine (hL'.map _).trans ?_
      rw [hU0]
      exact List.perm_append_comm⟩
    have dpu : Dp K (upd H20 pz (.tup [.int dv, .int c, .ref Dz])) (.ref pz) (Th.st dv c (wz ws L')).toD := by
      simp only [Th.toD]
      refine .tup (sq_t upd_same) (.cons (.int _) (.cons (.int _) (.cons (.tup (sq_t (z21 _ _ eD)) ?_) .nil)))
      have lw : (wz ws L').length = ws.length := by unfold wz; rw [List.length_zip, List.length_map]; omega
      rw [List.length_map] at hT
      have eA : Ts.map V.ref = (Ts.zip (wz ws L')).map fun z => V.ref z.1 := by
        rw [show (fun z : Addr × (Int × Th) => V.ref z.1) = V.ref ∘ Prod.fst from rfl, ← List.map_map, List.map_fst_zip (by omega)]
      have eB : toDL (wz ws L') = (Ts.zip (wz ws L')).map fun z => PyData.tuple [.int z.2.1, z.2.2.toD] := by
        rw [toDL_eq, show (fun z : Addr × (Int × Th) => PyData.tuple [.int z.2.1, z.2.2.toD]) = (fun p : Int × Th => PyData.tuple [.int p.1, p.2.toD]) ∘ Prod.snd from rfl, ← List.map_map, List.map_snd_zip (by omega)]
      rw [eA, eB]
      refine dps_map fun z hz => ?_
      obtain ⟨j, hj⟩ := List.mem_iff_getElem?.mp hz
      obtain ⟨hj1, hj2⟩ := List.getElem?_zip_eq_some.mp hj
      have hj3 : (ws.zip (L'.map (·.2)))[j]? = some z.2 := hj2
      obtain ⟨hj4, hj5⟩ := List.getElem?_zip_eq_some.mp hj3
      rw [List.getElem?_map] at hj5
      cases ey : L'[j]? with
      | none => rw [ey] at hj5; cases hj5
      | some y =>
        rw [ey] at hj5
        have hy2 : y.2 = z.2.2 := Option.some.inj hj5
        obtain ⟨T', hT1, hT2, hT3⟩ := hTs j (.int z.2.1) y.1 (by rw [List.getElem?_map, hj4]; rfl) (by rw [List.getElem?_map, ey]; rfl)
        rw [hj1] at hT1
        obtain rfl := Option.some.inj hT1
        refine .tup (sq_t (z21 _ _ hT3)) (.cons (.int _) (.cons ?_ .nil))
        rw [← hy2]
        exact hL21 y (List.mem_of_getElem? ey)
    have hG : SGrow ss (way < 2) (way = 0 ∧ (many : Int) ≤ deep + 1) dv c (wz ws L') := by
      refine ⟨hdv, fun y hy => ?_, fun hw y hy hst => ?_, fun hr => ?_⟩
      · have : y.1 ∈ (wz ws L').map (·.1) := List.mem_map.mpr ⟨y, hy, rfl⟩
        rw [wz_fst wl] at this
        exact w7 _ this
      · obtain ⟨j, hj⟩ := List.mem_iff_getElem?.mp hy
        have hj3 : (ws.zip (L'.map (·.2)))[j]? = some y := hj
        obtain ⟨hj4, hj5⟩ := List.getElem?_zip_eq_some.mp hj3
        refine hpl hw j y.1 ?_ hj4
        rw [List.getElem?_map] at hj5 ⊢
        cases ey : L'[j]? with
        | none => rw [ey] at hj5; cases hj5
        | some z =>
          rw [ey] at hj5
          rw [← Option.some.inj hj5] at hst
          exact congrArg some hst
      · rw [(ok.perm.countP_eq isSt)]
        exact Nat.le_trans count_us (row_chs (hRow hr) s)
    have F' := F.next A hs2 (rest' := rest') (pp := po) (by rw [er]; exact List.Perm.append_left _ (List.reverse_perm po)) lr ok (fun e => by
      have := ok.perm.length_eq
      rw [e, wz_snd wl, List.length_map, List.length_nil] at this
      exact hne2 (List.eq_nil_of_length_eq_zero this)) hG
    have ed21 := (hid_get (s421 _ _ (hid_put dkD ed14))).2
    have en21 := lst_hid nlD s421 en14
    have e21 := lst_hid LD s421 eL14
    have ea21 := lst_hid alD s421 ea14
    have D21 := bag_new D19 s921
    generalize upd H20 pz (.tup [.int dv, .int c, .ref Dz]) = H21 at s421 t421 dpu ed21 en21 e21 ea21 D21 ⊢
    have tk := ts_mut (H := H21) (a := dk) (o := .dK (putK kv (.inl (s : Int)) (.ref pz))) fun o e => by rw [ed21] at e; cases e; rfl
    walk_at "go"
    refine l_dputI ed21 (sz1 (by omega)) ?_
    refine ⟨fun j => if j = s then .st dv c (wz ws L') else tr j, fun j => if j = s then .ref pz else pv j, _, rest', _, _, _, _, _, rfl, F', fun j h1 h2 => ?_, Nat.le_trans (length_putK ..) (by omega), fun j h1 h2 => ?_, by rw [upd_ne nldk]; exact en21, upd_same, by rw [upd_ne Ldk]; exact e21, by rw [upd_ne aldk]; exact ea21,
      bag_mut D21 dkD, hid_mut (s014.trans s421) (hid_none ndk0)⟩
    · rw [valV_put]
      dsimp only
      by_cases e : j = s
      · subst e
        rw [if_pos rfl, if_pos rfl]
      · rw [if_neg (fun z => e (by injection z with z; omega)), if_neg e]
        exact hkv j (by omega) h2
    · dsimp only
      by_cases e : j = s
      · subst e
        rw [if_pos rfl, if_pos rfl]
        exact dp_t tk (toD_t _) dpu
      · rw [if_neg e, if_neg e]
        exact dp_t (t421.trans tk) (toD_t _) (hdp14 j (by omega) h2)
  · obtain ⟨tr, pv, kv, rest, y9, y12, y13, y14, y15, rfl, F, hkv, lkv, hdp, en, ed, e9, ea9, D9, s9⟩ := h
    rw [Nat.sub_self] at F hkv hdp
    walk_at "go"
    refine l_dgetI ed (hkv 0 (Nat.le_refl _) (by omega)) ?_
    obtain ⟨hP, hN', hE, hI⟩ := F.plan A (by omega) hm2 (by rw [lns]; exact hns) (by omega)
    have dp0 := hdp 0 (Nat.le_refl _) (by omega)
    obtain ⟨c, d, ps, ep⟩ := hP.st
    have dp1 := dp0
    rw [ep] at dp1
    simp only [Th.toD] at dp1
    obtain ⟨p, ep2⟩ := dp_tuple dp1
    rw [ep2] at dp0 ⊢
    walk_at "go"
    exact q _ p _ hP hN' (by have := C.up; omega) (fun h2 => by
      obtain ⟨k, d', e1, e2, _⟩ := A.up 1 (by omega) (by omega)
      obtain rfl : k = 0 := by omega
      have hm : (0 : Int) ∈ ab.drop 1 := List.mem_of_getElem? (i := 0) (by rw [List.getElem?_drop]; exact e1)
      have := C.up2 hm1 hm
      omega) hE D9 s9 dp0

end
end SC.S
namespace SC.S
open PySem PySem.Spec PyProof.Rows L2 StrLaws
local macro_rules | `(tactic| walk_at "go") => `(tactic| ((try dsimp only [cxOf, Cx.nox, Cx.wish]); repeat (first
  | (with_reducible refine g_seq ?_)
  | (with_reducible refine g_asg ?_)
  | (with_reducible refine g_asg2 ?_)
  | (with_reducible refine g_ret ?_)
  | (with_reducible refine g_drop ?_)
  | (with_reducible refine g_next ?_)
  | (with_reducible refine g_ifs ?_)
  | (with_reducible refine g_par ?_)
  | (with_reducible refine g_par3 ?_)
  | ((with_reducible refine' g_var ?hv ?_); (case hv => exact rfl))
  | (with_reducible refine g_c ?_)
  | ((with_reducible refine' g_aug ?hv ?_); (case hv => exact rfl))
  | (with_reducible refine l_ip ?_)
  | (with_reducible refine g_op ?_)
  | (with_reducible refine g_un ?_)
  | (with_reducible refine g_cons ?_)
  | (with_reducible refine g_nil ?_)
  | (with_reducible refine g_cb ?_)
  | (with_reducible refine g_call ?_)
  | (with_reducible refine g_callK ?_)
  | (with_reducible refine g_test ?_)
  | (with_reducible refine g_b ?_)
  | (with_reducible refine g_not ?_)
  | (with_reducible refine g_chain ?_)
  | (with_reducible refine g_notV ?_)
  | (with_reducible refine g_and ?_)
  | (with_reducible refine g_or ?_)
  | (with_reducible refine g_ifx ?_)
  | (with_reducible refine g_isN ?_)
  | (with_reducible refine g_notN ?_)
  | (with_reducible refine g_andV ?_)
  | (with_reducible refine g_orV ?_)
  | (with_reducible refine g_bm ?_)
  | (with_reducible refine g_bm0 ?_)
  | (with_reducible refine g_sl ?_)
  | (with_reducible refine g_part ?_)
  | (with_reducible refine g_nopart ?_)
  | (with_reducible refine g_dget ?_)
  | (with_reducible refine g_dput ?_)
  | (with_reducible refine g_tup ?_)
  | (with_reducible refine g_lst ?_)
  | (with_reducible refine g_yes ?_)
  | (with_reducible refine g_name ?_)
  | (with_reducible refine g_gsub ?_)
  | (with_reducible refine g_iList ?_)
  | (with_reducible refine g_iTup ?_)
  | (with_reducible refine g_for ?_)
  | (with_reducible refine g_lc ?_)
  | (with_reducible refine g_rng1 ?_)
  | (with_reducible refine g_rng2 ?_)
  | (with_reducible refine g_rng3 ?_)
  | (with_reducible refine g_iZip ?_)
  | (with_reducible refine g_allT ?_)
  | (with_reducible refine g_iZipA ?_)
  | (with_reducible refine g_iZip3 ?_)
  | (with_reducible refine g_iZipM ?_)
  | (with_reducible refine g_iZipN ?_)
  | (with_reducible refine g_din ?_)
  | (with_reducible refine g_dc2 ?_)
  | (with_reducible refine g_iItems ?_)
  | (with_reducible refine g_minAbs ?_)
  | (with_reducible refine g_dnotin ?_)
  | (with_reducible refine g_iRev ?_)
  | (with_reducible refine g_dcT ?_)
  | (with_reducible refine g_dc ?_)
  | (with_reducible refine g_iEnumT ?_)
  | (with_reducible refine g_iEnum ?_)
  | (with_reducible refine g_lstRg ?_)
  | (with_reducible refine g_lz ?_)
  | (with_reducible refine g_tz ?_)
  | (with_reducible refine g_rg1 ?_)
  | (with_reducible refine g_gcons ?_)
  | (with_reducible refine g_gnil ?_)
  | (with_reducible refine l_bl ?_)
  | (with_reducible refine l_int ?_)
  | (with_reducible refine l_two ?_)
  | (with_reducible refine l_three ?_)
  | (with_reducible refine l_I0 ?_)
  | (with_reducible refine l_U ?_)
  | dsimp only)))
section
variable {P : Program} {w : World} {K : PySem.W.Frag} {mg : Str → Option Value} {base : Heap}
/-! ### is_stage -/
def spIsStg (K : PySem.W.Frag) : Sp := fun vs H Q _ => ∃ (v : V) (t : Th), vs = [v] ∧ Dp K H v t.toD ∧ (∀ i, t = .inp i → Q (.bl false) H) ∧ (∀ n c ps, t = .st n c ps → Q (.bl true) H)
theorem ok_is_stage (T : Tx K mg) : FnOk P w K mg base CX0 1 T.f_is_stage T.fd_is_stage ["thing"] (spIsStg K) := by
  refine T.F_is_stage.ok sc_is_stage (fun vs H Q E h => ?_) (fun cdv A outer s H vs Q E hr h => ?_)
  · obtain ⟨_, _, rfl, _⟩ := h
    rfl
  obtain ⟨v, t, rfl, hd, q1, q2⟩ := h
  refine ⟨_, (pss_one (ps_ret (pe_callB call_isi (by rfl) T.m_isinstance (by decide +kernel) (pa_cons (pv 0) (pa_cons (pe_bltn (by rfl) T.m_tuple (by decide +kernel) (show RelV (.ty "tuple") _ from rfl)) pa_nil))))), ?_⟩
  walk_at "go"
  cases t with
  | inp i =>
    simp only [Th.toD] at hd
    obtain rfl := dp_int hd
    exact isi_it (q1 i rfl)
  | st c d ps =>
    have hd0 := hd
    simp only [Th.toD] at hd0
    obtain ⟨tv, rfl⟩ := dp_tuple hd0
    obtain ⟨b, xs, ht, _, _⟩ := pl_at hd
    exact isi_tt ht (q2 _ _ _ rfl)

end
end SC.S
namespace SC.S
open PySem PySem.Spec PyProof.Rows L2 StrLaws
local macro_rules | `(tactic| walk_at "go") => `(tactic| ((try dsimp only [cxOf, Cx.nox, Cx.wish]); repeat (first
  | (with_reducible refine g_seq ?_)
  | (with_reducible refine g_asg ?_)
  | (with_reducible refine g_asg2 ?_)
  | (with_reducible refine g_ret ?_)
  | (with_reducible refine g_drop ?_)
  | (with_reducible refine g_next ?_)
  | (with_reducible refine g_ifs ?_)
  | (with_reducible refine g_par ?_)
  | (with_reducible refine g_par3 ?_)
  | ((with_reducible refine' g_var ?hv ?_); (case hv => exact rfl))
  | (with_reducible refine g_c ?_)
  | ((with_reducible refine' g_aug ?hv ?_); (case hv => exact rfl))
  | (with_reducible refine l_ip ?_)
  | (with_reducible refine g_op ?_)
  | (with_reducible refine g_un ?_)
  | (with_reducible refine g_cons ?_)
  | (with_reducible refine g_nil ?_)
  | (with_reducible refine g_cb ?_)
  | (with_reducible refine g_call ?_)
  | (with_reducible refine g_callK ?_)
  | (with_reducible refine g_test ?_)
  | (with_reducible refine g_b ?_)
  | (with_reducible refine g_not ?_)
  | (with_reducible refine g_chain ?_)
  | (with_reducible refine g_notV ?_)
  | (with_reducible refine g_and ?_)
  | (with_reducible refine g_or ?_)
  | (with_reducible refine g_ifx ?_)
  | (with_reducible refine g_isN ?_)
  | (with_reducible refine g_notN ?_)
  | (with_reducible refine g_andV ?_)
  | (with_reducible refine g_orV ?_)
  | (with_reducible refine g_bm ?_)
  | (with_reducible refine g_bm0 ?_)
  | (with_reducible refine g_sl ?_)
  | (with_reducible refine g_part ?_)
  | (with_reducible refine g_nopart ?_)
  | (with_reducible refine g_dget ?_)
  | (with_reducible refine g_dput ?_)
  | (with_reducible refine g_tup ?_)
  | (with_reducible refine g_lst ?_)
  | (with_reducible refine g_yes ?_)
  | (with_reducible refine g_name ?_)
  | (with_reducible refine g_gsub ?_)
  | (with_reducible refine g_iList ?_)
  | (with_reducible refine g_iTup ?_)
  | (with_reducible refine g_for ?_)
  | (with_reducible refine g_lc ?_)
  | (with_reducible refine g_rng1 ?_)
  | (with_reducible refine g_rng2 ?_)
  | (with_reducible refine g_rng3 ?_)
  | (with_reducible refine g_iZip ?_)
  | (with_reducible refine g_allT ?_)
  | (with_reducible refine g_iZipA ?_)
  | (with_reducible refine g_iZip3 ?_)
  | (with_reducible refine g_iZipM ?_)
  | (with_reducible refine g_iZipN ?_)
  | (with_reducible refine g_din ?_)
  | (with_reducible refine g_dc2 ?_)
  | (with_reducible refine g_iItems ?_)
  | (with_reducible refine g_minAbs ?_)
  | (with_reducible refine g_dnotin ?_)
  | (with_reducible refine g_iRev ?_)
  | (with_reducible refine g_dcT ?_)
  | (with_reducible refine g_dc ?_)
  | (with_reducible refine g_iEnumT ?_)
  | (with_reducible refine g_iEnum ?_)
  | (with_reducible refine g_lstRg ?_)
  | (with_reducible refine g_lz ?_)
  | (with_reducible refine g_tz ?_)
  | (with_reducible refine g_rg1 ?_)
  | (with_reducible refine g_gcons ?_)
  | (with_reducible refine g_gnil ?_)
  | (with_reducible refine l_bl ?_)
  | (with_reducible refine l_int ?_)
  | (with_reducible refine l_two ?_)
  | (with_reducible refine l_three ?_)
  | (with_reducible refine l_I0 ?_)
  | (with_reducible refine l_U ?_)
  | dsimp only)))
section
variable {P : Program} {w : World} {K : PySem.W.Frag} {mg : Str → Option Value} {base : Heap}
/-! ### can_be_merged, weighted, with_part, merged_at -/
def spCan (K : PySem.W.Frag) : Sp := fun vs H Q _ => ∃ (v : V) (w : Int) (t : Th), vs = [.int w, v] ∧ Dp K H v t.toD ∧ Q (.bl (canM w t)) H
theorem ok_can_be_merged (T : Tx K mg) : FnOk P w K mg base CX0 2 T.f_can_be_merged T.fd_can_be_merged ["weight", "thing"] (spCan K) := by
  refine T.F_can_be_merged.ok sc_can_be_merged (fun vs H Q E h => ?_) (fun cdv A outer s H vs Q E hr h => ?_)
  · obtain ⟨_, _, _, rfl, _⟩ := h
    rfl
  obtain ⟨v, w0, t, rfl, hd, q⟩ := h
  refine ⟨_, (pss_one (ps_ret (pe_and (pe_call (ok_is_stage T) (hr.mono (by first | decide | omega)) (by rfl) T.g_is_stage T.F_is_stage.kp T.b_is_stage .nil pass0 (pa_cons (pv 1) pa_nil)) (pe_one (pe_or (pe_cmpR op_eq (pe_ix ix_tup (pv 1) pe_int (fun _ _ => rfl)) pe_int (nomark _)) (pe_one (pe_cmpR op_eq (pe_callB call_abs (by rfl) T.m_abs (by decide +kernel) (pa_cons (pv 0) pa_nil)) pe_int (nomark _)))))))), ?_⟩
  walk_at "go"
  refine ⟨v, t, rfl, hd, fun i e => ?_, fun c d ps e => ?_⟩
  · subst e
    refine ⟨_, rfl, ?_⟩
    rw [if_neg (by decide)]
    exact q
  · subst e
    obtain ⟨p, b, rfl, h1, h2⟩ := st_get hd
    refine ⟨_, rfl, ?_⟩
    rw [if_pos rfl]
    walk_at "go"
    refine l_ixT h1 rfl ?_
    walk_at "go"
    refine l_eq rfl ?_
    refine ⟨_, rfl, ?_⟩
    have e1 : decide (V.int c = V.int 1) = decide (c = 1) := by
      by_cases z : c = 1
      · rw [decide_eq_true z, decide_eq_true (by rw [z])]
      · rw [decide_eq_false z, decide_eq_false (fun h => z (by injection h))]
    rw [e1]
    by_cases z : c = 1
    · rw [decide_eq_true z, if_pos rfl]
      have : canM w0 (.st c d ps) = true := by simp [canM, z]
      rw [this] at q
      exact q
    · rw [decide_eq_false z, if_neg (by decide)]
      walk_at "go"
      refine ⟨_, rfl, ?_⟩
      walk_at "go"
      rw [abs_ite]
      refine l_eq rfl ?_
      have e2 : decide (V.int ((w0.natAbs : Nat) : Int) = V.int 1) = decide (w0.natAbs = 1) := by
        by_cases y : w0.natAbs = 1
        · rw [decide_eq_true y, decide_eq_true (by rw [y]; rfl)]
        · rw [decide_eq_false y, decide_eq_false (fun h => y (by injection h with h; omega))]
      have : canM w0 (.st c d ps) = decide (w0.natAbs = 1) := by simp [canM, z]
      rw [this] at q
      rw [e2]
      exact q
def spWtd (K : PySem.W.Frag) : Sp := fun vs H Q _ => ∃ (v : V) (f : Int) (ps : List (Int × Th)), vs = [v, .int f] ∧ Dp K H v (parD ps) ∧ ps.length ≤ 1000 ∧ f.natAbs ≤ 2 ^ 9000 ∧ (∀ p ∈ ps, p.1.natAbs ≤ 2 ^ 9000) ∧
  ∀ (p : Addr) (H' : Hp), Dp K H' (.ref p) (parD (wtd f ps)) → Same H H' → Q (.ref p) H'
theorem ok_weighted (T : Tx K mg) : FnOk P w K mg base CX0 1 T.f_weighted T.fd_weighted ["parts", "factor"] (spWtd K) := by
  refine T.F_weighted.ok sc_weighted (fun vs H Q E h => ?_) (fun cdv A outer s H vs Q E hr h => ?_)
  · obtain ⟨_, _, _, rfl, _⟩ := h
    rfl
  obtain ⟨v, f, ps, rfl, hd, hl, hf, hw, q⟩ := h
  refine ⟨_, (pss_one (ps_ret (pe_callTy call_tuple_of (by rfl) T.m_tuple (by decide +kernel) (pa_cons (pe_lc (own := [("weight", 2), ("thing", 3)]) (g := (gTup _ 2 (gCons (gName 2) (gCons (gName 3) gNil)))) (tt := tYes) (by rfl) sc_weighted.nd (pi_tup (pv 0)) (blkOk_by (own := [("weight", 2), ("thing", 3)]) (N := ["parts", "factor", "weight", "thing"]) (sc := defScope s_weighted) (by decide +kernel)) (fun _ _ _ _ _ => (pg_tup (by rfl) (pgs_cons (pg_name (i := 2) sc_weighted.nd rfl (Or.inl rfl)) (pgs_cons (pg_name (i := 3) sc_weighted.nd rfl (Or.inl rfl)) pgs_nil)))) (fun _ _ _ _ _ => pts_nil) (fun _ _ _ _ _ => (pe_tup (pa_cons (pe_op op_mulW (pv 2) (pv 1)) (pa_cons (pv 3) pa_nil))))) pa_nil)))), ?_⟩
  obtain ⟨a, xs, rfl, hb, hps⟩ := par_get hd
  have hlen : xs.length = ps.length := by rw [dps_len hps, toDL_len]
  walk_at "go"
  refine ⟨a, rfl, ⟨xs, hb⟩, fun Z nZ => ?_⟩
  refine lc_tup (xs := xs) (fun i H' => ∃ vs, H' Z = some (.lst vs) ∧ DpAll K H' vs (toDL (wtd f (ps.take i))) ∧ Same H H') ⟨[], upd_same, .nil, same_new nZ⟩ (fun i H' _ h => same_t h.choose_spec.2.2 hb) (fun i x H' hx h => ?_) (fun H' h => ?_)
  · obtain ⟨vs, eZ, dv, s⟩ := h
    obtain ⟨w0, t0, q0, v0, hp, rfl, hq, hv⟩ := part_at hps hx
    have pm := List.mem_of_getElem? hp
    have il : i < ps.length := (List.getElem?_eq_some_iff.mp hp).1
    have vl := dps_len dv
    rw [toDL_len, wtd_len, List.length_take] at vl
    refine g_gtup (same_t s hq) rfl ?_
    walk_at "go"
    refine ⟨rfl, ?_⟩
    walk_at "go"
    rw [if_pos rfl]
    walk_at "go"
    refine l_I (big_mul (hw _ pm) hf (by decide)) ?_
    walk_at "go"
    refine ⟨sz (by simp), fun p np => ?_⟩
    have z := same_new (o := .tup [.int (w0 * f), v0]) np
    have eZ2 := z _ _ eZ
    have tl := ts_lst (o := .lst (vs ++ [.ref p])) eZ2
    refine ⟨vs, eZ2, sz1 (by omega), _, upd_same, ?_, same_mut (s.trans z) nZ⟩
    rw [take_one hp]
    unfold wtd
    rw [List.map_append, toDL_app]
    refine dps_app (dps_t tl (toDL_t _) (dps_same z dv)) (dps_t tl (toDL_t _) ?_)
    simp only [List.map_cons, List.map_nil, toDL]
    exact .cons (.tup (sq_t upd_same) (.cons (.int _) (.cons (dp_same (s.trans z) hv) .nil))) .nil
  · obtain ⟨vs, eZ, dv, s⟩ := h
    rw [hlen, List.take_length] at dv
    walk_at "go"
    refine ⟨Z, _, rfl, .inl ⟨sq_l eZ, fun tl ntl => ?_⟩⟩
    have z := same_new (o := .tup vs) ntl
    exact q tl _ (.tup (sq_t upd_same) (dps_same z dv)) (s.trans z)
def spWithPart (K : PySem.W.Frag) : Sp := fun vs H Q _ => ∃ (v v2 : V) (n c : Int) (ps qs : List (Int × Th)) (k : Nat), vs = [v, .int (k : Nat), v2] ∧ Dp K H v (Th.st n c ps).toD ∧ Dp K H v2 (parD qs) ∧ k < ps.length ∧ ps.length ≤ 1000 ∧ qs.length ≤ 1000 ∧
  ∀ (p : Addr) (H' : Hp), Dp K H' (.ref p) (Th.st n c (ps.take k ++ qs ++ ps.drop (k + 1))).toD → Same H H' → Q (.ref p) H'
theorem ok_with_part (T : Tx K mg) : FnOk P w K mg base CX0 1 T.f_with_part T.fd_with_part ["stage", "place", "parts"] (spWithPart K) := by
  refine T.F_with_part.ok sc_with_part (fun vs H Q E h => ?_) (fun cdv A outer s H vs Q E hr h => ?_)
  · obtain ⟨_, _, _, _, _, _, _, rfl, _⟩ := h
    rfl
  obtain ⟨v, v2, n, c, ps, qs, k, rfl, hd, hq, hk, hl1, hl2, q⟩ := h
  refine ⟨_, (pss_cons (ps_asg (pv 0) (pg_tup (by rfl) (pgs_cons (pg_name (i := 3) sc_with_part.nd rfl (Or.inl rfl)) (pgs_cons (pg_name (i := 4) sc_with_part.nd rfl (Or.inl rfl)) (pgs_cons (pg_name (i := 5) sc_with_part.nd rfl (Or.inl rfl)) pgs_nil)))))
      (pss_one (ps_ret (pe_tup (pa_cons (pv 3) (pa_cons (pv 4) (pa_cons (pe_op op_catA (pe_op op_catA (pe_slice sl_tupA (pv 5) po_none (po_some (pv 1))) (pv 2)) (pe_slice sl_tupA (pv 5) (po_some (pe_op op_add (pv 1) pe_int)) po_none)) pa_nil))))))), ?_⟩
  obtain ⟨p, b, rfl, h1, h2⟩ := st_get hd
  obtain ⟨b', xs, e, hb, hps⟩ := par_get h2
  obtain rfl : b = b' := by injection e
  obtain ⟨a2, ys, rfl, ha, hqs⟩ := par_get hq
  have hlen : xs.length = ps.length := by rw [dps_len hps, toDL_len]
  have hlen2 : ys.length = qs.length := by rw [dps_len hqs, toDL_len]
  walk_at "go"
  refine g_gtup h1 rfl ?_
  walk_at "go"
  refine l_slT hb fun p1 H1 s1 e1 => ?_
  rw [cut_take] at e1
  walk_at "go"
  refine l_catU e1 (same_t s1 ha) (sz (by rw [List.length_take]; omega)) fun p2 H2 s2 e2 => ?_
  have s02 := s1.trans s2
  walk_at "go"
  rw [show ((k : Nat) : Int) + 1 = ((k + 1 : Nat) : Int) by omega]
  refine l_slT (same_t s02 hb) fun p3 H3 s3 e3 => ?_
  rw [cut_drop (by omega)] at e3
  refine l_catU (same_t s3 e2) e3 (sz (by rw [List.length_append, List.length_take, List.length_drop]; omega)) fun p4 H4 s4 e4 => ?_
  have s04 := s02.trans (s3.trans s4)
  refine ⟨sz (by simp), fun p5 np5 => ?_⟩
  have z := same_new (o := .tup [.int n, .int c, .ref p4]) np5
  have s05 := s04.trans z
  refine q p5 _ (st_mk (sq_t upd_same) ?_) s05
  refine .tup (same_t z e4) ?_
  rw [toDL_app, toDL_app, toDL_take, toDL_drop]
  exact dps_app (dps_app (dps_take k (dps_same s05 hps)) (dps_same s05 hqs)) (dps_drop _ (dps_same s05 hps))
/-- a stage of numbers not too great -/
structure Fits (n c : Int) (ps : List (Int × Th)) : Prop where
  n9 : n.natAbs ≤ 2 ^ 4000
  c9 : c.natAbs ≤ 2 ^ 4000
  w9 : ∀ p ∈ ps, p.1.natAbs ≤ 2 ^ 4000
  len : ps.length ≤ 300
def spMAt (K : PySem.W.Frag) : Sp := fun vs H Q _ => ∃ (v : V) (n c : Int) (pre : List (Int × Th)) (w m d : Int) (qs r : List (Int × Th)), vs = [v, .int (pre.length : Nat)] ∧ Dp K H v (Th.st n c (pre ++ (w, .st m d qs) :: r)).toD ∧ Fits n c (pre ++ (w, .st m d qs) :: r) ∧ Fits m d qs ∧
  ∀ (p : Addr) (H' : Hp), Dp K H' (.ref p) (mAt n c pre w (.st m d qs) r).toD → Same H H' → Q (.ref p) H'
theorem ok_merged_at (T : Tx K mg) : FnOk P w K mg base CX0 2 T.f_merged_at T.fd_merged_at ["stage", "place"] (spMAt K) := by
  refine T.F_merged_at.ok sc_merged_at (fun vs H Q E h => ?_) (fun cdv A outer s H vs Q E hr h => ?_)
  · obtain ⟨_, _, _, _, _, _, _, _, _, rfl, _⟩ := h
    rfl
  obtain ⟨v, n, c, pre, w0, m, d, qs, r, rfl, hd, F1, F2, q⟩ := h
  refine ⟨_, (pss_cons (ps_asg (pv 0) (pg_tup (by rfl) (pgs_cons (pg_name (i := 2) sc_merged_at.nd rfl (Or.inl rfl)) (pgs_cons (pg_name (i := 3) sc_merged_at.nd rfl (Or.inl rfl)) (pgs_cons (pg_name (i := 4) sc_merged_at.nd rfl (Or.inl rfl)) pgs_nil)))))
      (pss_cons (ps_asg (pe_ix ix_tup (pv 4) (pv 1) (fun _ _ => rfl)) (pg_tup (by rfl) (pgs_cons (pg_name (i := 5) sc_merged_at.nd rfl (Or.inl rfl)) (pgs_cons (pg_tup (by rfl) (pgs_cons (pg_name (i := 6) sc_merged_at.nd rfl (Or.inl rfl)) (pgs_cons (pg_name (i := 7) sc_merged_at.nd rfl (Or.inl rfl)) (pgs_cons (pg_name (i := 8) sc_merged_at.nd rfl (Or.inl rfl)) pgs_nil)))) pgs_nil))))
      (Evl.pss_cut (ps_set (i := 9) sc_merged_at.nd rfl (Or.inl rfl) (pe_ifExp (pt_cmpR op_gt (pv 5) pe_int (nomark _)) (pv 7) (pe_op op_sub (pe_op op_sub (pv 6) pe_int) (pv 7))))
      (pss_cons (ps_set (i := 10) sc_merged_at.nd rfl (Or.inl rfl) (pe_tup (pa_cons (pe_op op_mulW (pv 2) (pv 6)) (pa_cons (pe_op op_add (pv 9) (pe_op op_mulW (pv 6) (pv 3))) (pa_cons (pe_call (ok_weighted T) (hr.mono (by first | decide | omega)) (by rfl) T.g_weighted T.F_weighted.kp T.b_weighted .nil pass0 (pa_cons (pv 4) (pa_cons (pv 6) pa_nil))) pa_nil)))))
      (pss_one (ps_ret (pe_call (ok_with_part T) (hr.mono (by first | decide | omega)) (by rfl) T.g_with_part T.F_with_part.kp T.b_with_part .nil pass0 (pa_cons (pv 10) (pa_cons (pv 1) (pa_cons (pe_call (ok_weighted T) (hr.mono (by first | decide | omega)) (by rfl) T.g_weighted T.F_weighted.kp T.b_weighted .nil pass0 (pa_cons (pv 8) (pa_cons (pv 5) pa_nil))) pa_nil)))))))))), ?_⟩
  obtain ⟨p, b, rfl, h1, h2⟩ := st_get hd
  obtain ⟨b', xs, e, hb, hps⟩ := par_get h2
  obtain rfl : b = b' := by injection e
  have l1 := F1.len
  have l2 := F2.len
  rw [List.length_append, List.length_cons] at l1
  have pl : (pre ++ (w0, Th.st m d qs) :: r)[pre.length]? = some (w0, .st m d qs) := by
    rw [List.getElem?_append_right (Nat.le_refl _), Nat.sub_self]; rfl
  obtain ⟨x, hx⟩ : ∃ x, xs[pre.length]? = some x := ⟨_, List.getElem?_eq_getElem (by rw [dps_len hps, toDL_len, List.length_append, List.length_cons]; omega)⟩
  obtain ⟨w1, t1, q1, v1, hp, rfl, hq, hv⟩ := part_at hps hx
  rw [pl] at hp
  obtain ⟨rfl, rfl⟩ : w0 = w1 ∧ Th.st m d qs = t1 := by
    have := Option.some.inj hp
    exact ⟨congrArg Prod.fst this, congrArg Prod.snd this⟩
  obtain ⟨p2, b2, rfl, k1, k2⟩ := st_get hv
  have w9 := F1.w9 _ (List.mem_of_getElem? pl)
  have up : ∀ {x : Int}, x.natAbs ≤ 2 ^ 4000 → x.natAbs ≤ 2 ^ 9000 := fun h => Nat.le_trans h (Nat.pow_le_pow_right (by decide) (by decide))
  walk_at "go"
  refine g_gtup h1 rfl ?_
  walk_at "go"
  refine l_ixT hb (at_of (j := pre.length) rfl hx) ?_
  walk_at "go"
  refine g_gtup hq rfl ?_
  walk_at "go"
  refine g_gtup k1 rfl ?_
  walk_at "go"
  refine g_cut (fun σ' H' => σ' = [some (.ref p), some (.int ((pre.length : Nat) : Int)), some (.int n), some (.int c), some (.ref b), some (.int w0), some (.int m), some (.int d), some (.ref b2), some (.int (if w0 > 0 then d else m - 1 - d)), none] ∧ H' = H) ?_ ?_
  · walk_at "go"
    refine iteB (fun h3 => ?_) (fun h3 => ?_)
    · walk_at "go"
      exact ⟨by rw [if_pos (by omega)]; rfl, rfl⟩
    · walk_at "go"
      exact ⟨by rw [if_neg (by omega)]; rfl, rfl⟩
  rintro σ' H' ⟨rfl, eH⟩
  obtain rfl : H = H' := eH.symm
  walk_at "go"
  refine l_I (big_mul F1.n9 F2.n9 (by decide)) ?_
  walk_at "go"
  refine l_I (big_mul F2.n9 F1.c9 (by decide)) ?_
  walk_at "go"
  refine ⟨_, m, _, rfl, h2, by rw [List.length_append, List.length_cons]; omega, up F2.n9, fun p hp => up (F1.w9 p hp), fun p3 H1 e3 s1 => ?_⟩
  refine ⟨sz (by simp), fun p4 np4 => ?_⟩
  have z := same_new (o := .tup [.int (n * m), .int ((if w0 > 0 then d else m - 1 - d) + m * c), .ref p3]) np4
  have d4 : Dp K (upd H1 p4 (.tup [.int (n * m), .int ((if w0 > 0 then d else m - 1 - d) + m * c), .ref p3])) (.ref p4) (Th.st (n * m) (mFig w0 m d c) (wtd m (pre ++ (w0, .st m d qs) :: r))).toD := st_mk (sq_t upd_same) (dp_same z e3)
  have s2 := s1.trans z
  generalize upd H1 p4 (.tup [.int (n * m), .int ((if w0 > 0 then d else m - 1 - d) + m * c), .ref p3]) = H2 at d4 s2 ⊢
  walk_at "go"
  refine ⟨_, w0, qs, rfl, dp_same s2 k2, by omega, up w9, fun p hp => up (F2.w9 p hp), fun p5 H3 e5 s3 => ?_⟩
  walk_at "go"
  refine ⟨_, _, n * m, mFig w0 m d c, wtd m (pre ++ (w0, .st m d qs) :: r), wtd w0 qs, pre.length, rfl, dp_same s3 d4, e5, by rw [wtd_len, List.length_append, List.length_cons]; omega, by rw [wtd_len, List.length_append, List.length_cons]; omega, by rw [wtd_len]; omega, fun p6 H4 e6 s4 => ?_⟩
  refine q p6 H4 ?_ (s2.trans (s3.trans s4))
  have e7 : (wtd m (pre ++ (w0, Th.st m d qs) :: r)).take pre.length = wtd m pre := by
    unfold wtd
    rw [List.map_append, List.take_append_of_le_length (by rw [List.length_map]; exact Nat.le_refl _), List.take_of_length_le (by rw [List.length_map]; exact Nat.le_refl _)]
  have e8 : (wtd m (pre ++ (w0, Th.st m d qs) :: r)).drop (pre.length + 1) = wtd m r := by
    have e9 : wtd m (pre ++ (w0, Th.st m d qs) :: r) = (wtd m pre ++ [(w0 * m, Th.st m d qs)]) ++ wtd m r := by simp [wtd]
    rw [e9]
    exact List.drop_left' (by rw [List.length_append, wtd_len]; rfl)
  rw [e7, e8] at e6
  exact e6

end
end SC.S
namespace SC.S
open PySem PySem.Spec PyProof.Rows L2 StrLaws
local macro_rules | `(tactic| walk_at "go") => `(tactic| ((try dsimp only [cxOf, Cx.nox, Cx.wish]); repeat (first
  | (with_reducible refine g_seq ?_)
  | (with_reducible refine g_asg ?_)
  | (with_reducible refine g_asg2 ?_)
  | (with_reducible refine g_ret ?_)
  | (with_reducible refine g_drop ?_)
  | (with_reducible refine g_next ?_)
  | (with_reducible refine g_ifs ?_)
  | (with_reducible refine g_par ?_)
  | (with_reducible refine g_par3 ?_)
  | ((with_reducible refine' g_var ?hv ?_); (case hv => exact rfl))
  | (with_reducible refine g_c ?_)
  | ((with_reducible refine' g_aug ?hv ?_); (case hv => exact rfl))
  | (with_reducible refine l_ip ?_)
  | (with_reducible refine g_op ?_)
  | (with_reducible refine g_un ?_)
  | (with_reducible refine g_cons ?_)
  | (with_reducible refine g_nil ?_)
  | (with_reducible refine g_cb ?_)
  | (with_reducible refine g_call ?_)
  | (with_reducible refine g_callK ?_)
  | (with_reducible refine g_test ?_)
  | (with_reducible refine g_b ?_)
  | (with_reducible refine g_not ?_)
  | (with_reducible refine g_chain ?_)
  | (with_reducible refine g_notV ?_)
  | (with_reducible refine g_and ?_)
  | (with_reducible refine g_or ?_)
  | (with_reducible refine g_ifx ?_)
  | (with_reducible refine g_isN ?_)
  | (with_reducible refine g_notN ?_)
  | (with_reducible refine g_andV ?_)
  | (with_reducible refine g_orV ?_)
  | (with_reducible refine g_bm ?_)
  | (with_reducible refine g_bm0 ?_)
  | (with_reducible refine g_sl ?_)
  | (with_reducible refine g_part ?_)
  | (with_reducible refine g_nopart ?_)
  | (with_reducible refine g_dget ?_)
  | (with_reducible refine g_dput ?_)
  | (with_reducible refine g_tup ?_)
  | (with_reducible refine g_lst ?_)
  | (with_reducible refine g_yes ?_)
  | (with_reducible refine g_name ?_)
  | (with_reducible refine g_gsub ?_)
  | (with_reducible refine g_iList ?_)
  | (with_reducible refine g_iTup ?_)
  | (with_reducible refine g_for ?_)
  | (with_reducible refine g_lc ?_)
  | (with_reducible refine g_rng1 ?_)
  | (with_reducible refine g_rng2 ?_)
  | (with_reducible refine g_rng3 ?_)
  | (with_reducible refine g_iZip ?_)
  | (with_reducible refine g_allT ?_)
  | (with_reducible refine g_iZipA ?_)
  | (with_reducible refine g_iZip3 ?_)
  | (with_reducible refine g_iZipM ?_)
  | (with_reducible refine g_iZipN ?_)
  | (with_reducible refine g_din ?_)
  | (with_reducible refine g_dc2 ?_)
  | (with_reducible refine g_iItems ?_)
  | (with_reducible refine g_minAbs ?_)
  | (with_reducible refine g_dnotin ?_)
  | (with_reducible refine g_iRev ?_)
  | (with_reducible refine g_dcT ?_)
  | (with_reducible refine g_dc ?_)
  | (with_reducible refine g_iEnumT ?_)
  | (with_reducible refine g_iEnum ?_)
  | (with_reducible refine g_lstRg ?_)
  | (with_reducible refine g_lz ?_)
  | (with_reducible refine g_tz ?_)
  | (with_reducible refine g_rg1 ?_)
  | (with_reducible refine g_gcons ?_)
  | (with_reducible refine g_gnil ?_)
  | (with_reducible refine l_bl ?_)
  | (with_reducible refine l_int ?_)
  | (with_reducible refine l_two ?_)
  | (with_reducible refine l_three ?_)
  | (with_reducible refine l_I0 ?_)
  | (with_reducible refine l_U ?_)
  | dsimp only)))
section
variable {P : Program} {w : World} {K : PySem.W.Frag} {mg : Str → Option Value} {base : Heap}
/-! ### merged_once -/
theorem bd_fits {A : Nat} (hA : A ≤ 2 ^ 4000) {n c : Int} {ps : List (Int × Th)} (h : Bd A (.st n c ps)) (hl : ps.length ≤ 300) : Fits n c ps := by
  obtain ⟨h1, h2, h3, h4⟩ := h.n
  exact ⟨Nat.le_trans h2 hA, Nat.le_trans (show c.natAbs ≤ A by omega) hA, fun p hp => Nat.le_trans (h.part hp).2.1 hA, hl⟩
theorem m1L_app (n c : Int) : ∀ (ps : List (Int × Th)) (i : Nat) {w : Int} {t : Th}, ps[i]? = some (w, t) → canM w t = false → t.m1 = none → m1L n c (ps.take i) (ps.drop i) = m1L n c (ps.take (i + 1)) (ps.drop (i + 1)) := fun ps i w t h hc hm => by
  have il : i < ps.length := (List.getElem?_eq_some_iff.mp h).1
  have e : ps.drop i = (w, t) :: ps.drop (i + 1) := by
    rw [List.drop_eq_getElem_cons il]
    congr 1
    exact (List.getElem?_eq_some_iff.mp h).2
  rw [e, take_one h]
  simp only [m1L, hc, hm]
  rw [if_neg (by decide)]
theorem drop_cons {α : Type} {ps : List α} {i : Nat} {x : α} (h : ps[i]? = some x) : ps.drop i = x :: ps.drop (i + 1) := by
  have il : i < ps.length := (List.getElem?_eq_some_iff.mp h).1
  rw [List.drop_eq_getElem_cons il]
  congr 1
  exact (List.getElem?_eq_some_iff.mp h).2
def spM1 (K : PySem.W.Frag) (n : Nat) : Sp := fun vs H Q _ => ∃ (v : V) (t : Th) (A : Nat), vs = [v] ∧ Dp K H v t.toD ∧ (∃ n c ps, t = .st n c ps) ∧ Bd A t ∧ A ≤ 2 ^ 4000 ∧ t.dep ≤ n ∧ t.nIn ≤ 30 ∧
  (t.m1 = none → ∀ H', Same H H' → Q .non H') ∧ (∀ u, t.m1 = some u → ∀ (p : Addr) (H' : Hp), Dp K H' (.ref p) u.toD → Same H H' → Q (.ref p) H')
theorem mone_step (T : Tx K mg) {n : Nat} {spI : Sp} (ih : FnOk P w K mg base CX0 (n + 2) T.f_merged_once T.fd_merged_once ["stage"] spI) (hi : ∀ m, n = m + 1 → ∀ vs H Q E, spM1 K m vs H Q E → spI vs H Q E) :
    FnOk P w K mg base CX0 (n + 3) T.f_merged_once T.fd_merged_once ["stage"] (spM1 K n) := by
  refine T.F_merged_once.ok (k := n + 2) sc_merged_once (fun vs H Q E h => ?_) (fun cdv A outer s H vs Q E hr h => ?_)
  · obtain ⟨_, _, _, rfl, _⟩ := h
    rfl
  obtain ⟨v, t, A, rfl, hd, ⟨c, d, ps, rfl⟩, B, hA, hdep, hin, q1, q2⟩ := h
  refine ⟨_, (pss_cons (ps_for PassesOwn.never rfl (pi_enumT (by rfl) T.m_enumerate (pa_cons (pe_ix ix_tup (pv 0) pe_int (fun _ _ => rfl)) pa_nil)) (pg_tup (by rfl) (pgs_cons (pg_name (i := 1) sc_merged_once.nd rfl (Or.inl rfl)) (pgs_cons (pg_tup (by rfl) (pgs_cons (pg_name (i := 2) sc_merged_once.nd rfl (Or.inl rfl)) (pgs_cons (pg_name (i := 3) sc_merged_once.nd rfl (Or.inl rfl)) pgs_nil))) pgs_nil))) (pss_cons (ps_if (pt_val (pe_call (ok_can_be_merged T) (hr.mono (by first | decide | omega)) (by rfl) T.g_can_be_merged T.F_can_be_merged.kp T.b_can_be_merged .nil pass0 (pa_cons (pv 2) (pa_cons (pv 3) pa_nil)))) (pss_one (ps_ret (pe_call (ok_merged_at T) (hr.mono (by first | decide | omega)) (by rfl) T.g_merged_at T.F_merged_at.kp T.b_merged_at .nil pass0 (pa_cons (pv 0) (pa_cons (pv 1) pa_nil))))) pss_nil)
      (pss_one (ps_if (pt_val (pe_call (ok_is_stage T) (hr.mono (by first | decide | omega)) (by rfl) T.g_is_stage T.F_is_stage.kp T.b_is_stage .nil pass0 (pa_cons (pv 3) pa_nil))) (pss_cons (ps_set (i := 4) sc_merged_once.nd rfl (Or.inl rfl) (pe_call ih (hr.mono (by omega)) (by rfl) T.g_merged_once T.F_merged_once.kp T.b_merged_once .nil pass0 (pa_cons (pv 3) pa_nil)))
      (pss_one (ps_if (pt_cmp (pc_notN (pv 4))) (pss_one (ps_ret (pe_call (ok_with_part T) (hr.mono (by first | decide | omega)) (by rfl) T.g_with_part T.F_with_part.kp T.b_with_part .nil pass0 (pa_cons (pv 0) (pa_cons (pv 1) (pa_cons (pe_tup (pa_cons (pe_tup (pa_cons (pv 2) (pa_cons (pv 4) pa_nil))) pa_nil)) pa_nil)))))) pss_nil))) pss_nil))))
      (pss_one (ps_ret pe_non))), ?_⟩
  obtain ⟨p, b, rfl, h1, h2⟩ := st_get hd
  obtain ⟨b', xs, e, hb, hps⟩ := par_get h2
  obtain rfl : b = b' := by injection e
  have hlen : xs.length = ps.length := by rw [dps_len hps, toDL_len]
  have hf := B.full
  simp only [Th.full, Bool.and_eq_true] at hf
  simp only [Th.nIn] at hin
  have lps := len_le_nIn hf.2
  simp only [Th.dep] at hdep
  have F := bd_fits hA B (by omega)
  walk_at "go"
  refine l_ixT h1 rfl ?_
  refine ⟨b, xs, rfl, hb, ?_⟩
  refine for_E (xs := xs) (fun i σ H' => ∃ y1 y2 y3 y4, σ = [some (.ref p), y1, y2, y3, y4] ∧ m1L c d (ps.take i) (ps.drop i) = (Th.st c d ps).m1 ∧ Same H H')
    ⟨none, none, none, none, rfl, by simp only [List.take_zero, List.drop_zero, Th.m1], Same.refl _⟩ (fun i σ H' h => ?_) (fun i x T' σ H' hx h nT => ?_) (fun σ H' h => ?_)
  · obtain ⟨_, _, _, _, _, _, s⟩ := h
    exact same_t s hb
  · obtain ⟨y1, y2, y3, y4, rfl, hm, s⟩ := h
    obtain ⟨w0, t0, q0, v0, hp, rfl, hq, hv⟩ := part_at hps hx
    have pm := List.mem_of_getElem? hp
    have il : i < ps.length := (List.getElem?_eq_some_iff.mp hp).1
    have pd := depL_le.mp (show depL ps ≤ n - 1 by omega) _ pm
    have k3 := nInL_take hp
    obtain ⟨B0, bw, bn⟩ := B.part pm
    simp only at pd k3 B0 bw bn
    have s3 := same_new (o := .tup [.int (i : Nat), .ref q0]) nT
    refine g_gtup (sq_t upd_same) rfl ?_
    have ss := s.trans s3
    generalize upd H' T' (.tup [.int (i : Nat), .ref q0]) = H2 at ss ⊢
    walk_at "go"
    refine g_gtup (same_t ss hq) rfl ?_
    walk_at "go"
    have hv2 := dp_same ss hv
    refine ⟨v0, w0, t0, rfl, hv2, ?_⟩
    walk_at "go"
    have li : (ps.take i).length = i := by rw [List.length_take]; omega
    have eps : ps = ps.take i ++ (w0, t0) :: ps.drop (i + 1) := by rw [← drop_cons hp, List.take_append_drop]
    cases hc : canM w0 t0 with
    | true =>
      rw [if_pos rfl]
      cases t0 with
      | inp i0 => simp [canM] at hc
      | st m d' qs =>
        walk_at "go"
        have hinq : qs.length ≤ 300 := by
          have f0 := B0.full
          simp only [Th.full, Bool.and_eq_true] at f0
          have := len_le_nIn f0.2
          simp only [Th.nIn] at k3
          omega
        refine ⟨.ref p, c, d, ps.take i, w0, m, d', qs, ps.drop (i + 1), by rw [li]; rfl, by rw [← eps]; exact dp_same ss hd, by rw [← eps]; exact F, bd_fits hA B0 hinq, fun p2 H3 e3 s4 => ?_⟩
        refine q2 _ ?_ p2 H3 e3 (ss.trans s4)
        rw [← hm, drop_cons hp]
        simp only [m1L, hc]
        rw [if_pos trivial]
    | false =>
      rw [if_neg (by decide)]
      walk_at "go"
      refine ⟨v0, t0, rfl, hv2, fun i0 e => ?_, fun m d' qs e => ?_⟩
      · subst e
        walk_at "go"
        rw [if_neg (by decide)]
        walk_at "go"
        refine ⟨_, _, _, _, rfl, ?_, ss⟩
        rw [← m1L_app c d ps i hp hc (by simp only [Th.m1])]
        exact hm
      · walk_at "go"
        rw [if_pos rfl]
        walk_at "go"
        obtain ⟨k, rfl⟩ : ∃ k, n = k + 1 := ⟨n - 1, by have := pd; rw [e] at this; simp only [Th.dep] at this; omega⟩
        refine hi k rfl _ _ _ _ ⟨v0, t0, A, rfl, hv2, ⟨m, d', qs, e⟩, B0, hA, by omega, by omega, fun hn H3 s4 => ?_, fun u hu p2 H3 e3 s4 => ?_⟩
        · walk_at "go"
          refine ⟨_, _, _, _, rfl, ?_, ss.trans s4⟩
          rw [← m1L_app c d ps i hp hc hn]
          exact hm
        · walk_at "go"
          rw [if_pos (by simp)]
          walk_at "go"
          refine ⟨sz (by simp), fun p3 np3 => ?_⟩
          walk_at "go"
          refine ⟨sz (by simp), fun p4 np4 => ?_⟩
          walk_at "go"
          have z3 := same_new (o := .tup [.int w0, .ref p2]) np3
          have z4 := same_new (o := .tup [.ref p3]) np4
          have z34 := z3.trans z4
          have ss4 := ss.trans (s4.trans z34)
          refine ⟨_, _, c, d, ps, [(w0, u)], i, rfl, dp_same ss4 hd, .tup (sq_t upd_same) ?_, il, by omega, by simp, fun p5 H5 e5 s5 => ?_⟩
          · simp only [toDL]
            exact .cons (.tup (sq_t (z4 _ _ upd_same)) (.cons (.int _) (.cons (dp_same z34 e3) .nil))) .nil
          · refine q2 _ ?_ p5 H5 e5 (ss4.trans s5)
            rw [← hm, drop_cons hp]
            simp only [m1L, hc, hu]
            rw [if_neg (by decide), List.append_assoc]
            rfl
  · obtain ⟨_, _, _, _, rfl, hm, s⟩ := h
    rw [hlen, List.take_length, List.drop_length] at hm
    simp only [m1L] at hm
    walk_at "go"
    exact q1 hm.symm H' s
theorem ok_merged_once (T : Tx K mg) : ∀ n : Nat, FnOk P w K mg base CX0 (n + 3) T.f_merged_once T.fd_merged_once ["stage"] (spM1 K n)
  | 0 => mone_step T fn_none fun m e => by cases e
  | n + 1 => mone_step T (ok_merged_once T n) fun m e => by cases e; exact fun _ _ _ _ h => h

end
end SC.S
namespace SC.S
open PySem PySem.Spec PyProof.Rows L2 StrLaws
local macro_rules | `(tactic| walk_at "go") => `(tactic| ((try dsimp only [cxOf, Cx.nox, Cx.wish]); repeat (first
  | (with_reducible refine g_seq ?_)
  | (with_reducible refine g_asg ?_)
  | (with_reducible refine g_asg2 ?_)
  | (with_reducible refine g_ret ?_)
  | (with_reducible refine g_drop ?_)
  | (with_reducible refine g_next ?_)
  | (with_reducible refine g_ifs ?_)
  | (with_reducible refine g_par ?_)
  | (with_reducible refine g_par3 ?_)
  | ((with_reducible refine' g_var ?hv ?_); (case hv => exact rfl))
  | (with_reducible refine g_c ?_)
  | ((with_reducible refine' g_aug ?hv ?_); (case hv => exact rfl))
  | (with_reducible refine l_ip ?_)
  | (with_reducible refine g_op ?_)
  | (with_reducible refine g_un ?_)
  | (with_reducible refine g_cons ?_)
  | (with_reducible refine g_nil ?_)
  | (with_reducible refine g_cb ?_)
  | (with_reducible refine g_call ?_)
  | (with_reducible refine g_callK ?_)
  | (with_reducible refine g_test ?_)
  | (with_reducible refine g_b ?_)
  | (with_reducible refine g_not ?_)
  | (with_reducible refine g_chain ?_)
  | (with_reducible refine g_notV ?_)
  | (with_reducible refine g_and ?_)
  | (with_reducible refine g_or ?_)
  | (with_reducible refine g_ifx ?_)
  | (with_reducible refine g_isN ?_)
  | (with_reducible refine g_notN ?_)
  | (with_reducible refine g_andV ?_)
  | (with_reducible refine g_orV ?_)
  | (with_reducible refine g_bm ?_)
  | (with_reducible refine g_bm0 ?_)
  | (with_reducible refine g_sl ?_)
  | (with_reducible refine g_part ?_)
  | (with_reducible refine g_nopart ?_)
  | (with_reducible refine g_dget ?_)
  | (with_reducible refine g_dput ?_)
  | (with_reducible refine g_tup ?_)
  | (with_reducible refine g_lst ?_)
  | (with_reducible refine g_yes ?_)
  | (with_reducible refine g_name ?_)
  | (with_reducible refine g_gsub ?_)
  | (with_reducible refine g_iList ?_)
  | (with_reducible refine g_iTup ?_)
  | (with_reducible refine g_for ?_)
  | (with_reducible refine g_lc ?_)
  | (with_reducible refine g_rng1 ?_)
  | (with_reducible refine g_rng2 ?_)
  | (with_reducible refine g_rng3 ?_)
  | (with_reducible refine g_iZip ?_)
  | (with_reducible refine g_allT ?_)
  | (with_reducible refine g_iZipA ?_)
  | (with_reducible refine g_iZip3 ?_)
  | (with_reducible refine g_iZipM ?_)
  | (with_reducible refine g_iZipN ?_)
  | (with_reducible refine g_din ?_)
  | (with_reducible refine g_dc2 ?_)
  | (with_reducible refine g_iItems ?_)
  | (with_reducible refine g_minAbs ?_)
  | (with_reducible refine g_dnotin ?_)
  | (with_reducible refine g_iRev ?_)
  | (with_reducible refine g_dcT ?_)
  | (with_reducible refine g_dc ?_)
  | (with_reducible refine g_iEnumT ?_)
  | (with_reducible refine g_iEnum ?_)
  | (with_reducible refine g_lstRg ?_)
  | (with_reducible refine g_lz ?_)
  | (with_reducible refine g_tz ?_)
  | (with_reducible refine g_rg1 ?_)
  | (with_reducible refine g_gcons ?_)
  | (with_reducible refine g_gnil ?_)
  | (with_reducible refine l_bl ?_)
  | (with_reducible refine l_int ?_)
  | (with_reducible refine l_two ?_)
  | (with_reducible refine l_three ?_)
  | (with_reducible refine l_I0 ?_)
  | (with_reducible refine l_U ?_)
  | dsimp only)))
section
variable {P : Program} {w : World} {K : PySem.W.Frag} {mg : Str → Option Value} {base : Heap}
def spIsStage (K : PySem.W.Frag) : Sp := fun vs H Q _ => ∃ (v : V) (t : Th), vs = [v] ∧ Dp K H v t.toD ∧ Q (.bl t.isSt) H
theorem isStg_of {vs : List V} {H : Hp} {Q : VK} {E : XK} (h : spIsStage K vs H Q E) : spIsStg K vs H Q E := by
  obtain ⟨v, t, rfl, hd, q⟩ := h
  exact ⟨v, t, rfl, hd, fun i e => by subst e; exact q, fun n c ps e => by subst e; exact q⟩
/-! ### ways_and_stages -/
def spWays (K : PySem.W.Frag) (n : Nat) : Sp := fun vs H Q _ => ∃ (v : V) (wa : Addr) (way : List Int) (c d : Int) (ps : List (Int × Th)), vs = [v, .ref wa] ∧ Dp K H v (Th.st c d ps).toD ∧ H wa = some (.tup (way.map V.int)) ∧ (Th.st c d ps).dep ≤ n ∧ way.length + (Th.st c d ps).dep ≤ 50 ∧ (Th.st c d ps).nSt ≤ 200 ∧
  ∀ (zs : List V) (p : Addr) (H' : Hp), H p = none → H' p = some (.lst zs) → DpAll K H' zs (((Th.st c d ps).sts way).map thD) → Strict K H' zs ((Th.st c d ps).sts way) → Same H H' → Q (.ref p) H'
theorem ok_ways_and_stages (T : Tx K mg) : ∀ n : Nat, FnOk P w K mg base CX0 (n + 2) T.f_ways_and_stages T.fd_ways_and_stages ["stage", "way"] (spWays K n)
  | 0 => by
    refine T.F_ways_and_stages.ok (k := 1) sc_ways_and_stages (fun vs H Q E h => ?_) (fun cdv A outer s H vs Q E hr h => ?_)
    · obtain ⟨_, _, _, _, _, _, rfl, _⟩ := h
      rfl
    · obtain ⟨_, _, _, _, _, _, rfl, _, _, h1, _⟩ := h
      simp only [Th.dep] at h1
      exact absurd h1 (by omega)
  | n + 1 => by
    have ih := ok_ways_and_stages T n
    refine T.F_ways_and_stages.ok (k := n + 2) sc_ways_and_stages (fun vs H Q E h => ?_) (fun cdv A outer s H vs Q E hr h => ?_)
    · obtain ⟨_, _, _, _, _, _, rfl, _⟩ := h
      rfl
    obtain ⟨v, wa, way, c, d, ps, rfl, hd, hw, hdep, hwl, hcnt, q⟩ := h
    have hd0 := hd
    simp only [Th.toD] at hd0
    obtain ⟨tv, rfl⟩ := dp_tuple hd0
    obtain ⟨b, xs, ht, hb, hps⟩ := pl_at hd
    have hlen : xs.length = ps.length := by rw [dps_len hps, toDL_len]
    simp only [Th.dep] at hdep hwl
    simp only [Th.nSt] at hcnt
    refine ⟨_, (pss_cons (ps_set (i := 2) sc_ways_and_stages.nd rfl (Or.inl rfl) (pe_lst (pa_cons (pe_tup (pa_cons (pv 1) (pa_cons (pv 0) pa_nil))) pa_nil)))
      (pss_cons (ps_for PassesOwn.never rfl (pi_enumT (by rfl) T.m_enumerate (pa_cons (pe_ix ix_tup (pv 0) pe_int (fun _ _ => rfl)) pa_nil)) (pg_tup (by rfl) (pgs_cons (pg_name (i := 3) sc_ways_and_stages.nd rfl (Or.inl rfl)) (pgs_cons (pg_tup (by rfl) (pgs_cons (pg_name (i := 4) sc_ways_and_stages.nd rfl (Or.inl rfl)) (pgs_cons (pg_name (i := 5) sc_ways_and_stages.nd rfl (Or.inl rfl)) pgs_nil))) pgs_nil))) (pss_one (ps_if (pt_val (pe_call (ok_is_stage T) (hr.mono (by first | decide | omega)) (by rfl) T.g_is_stage T.F_is_stage.kp T.b_is_stage .nil pass0 (pa_cons (pv 5) pa_nil))) (pss_one (ps_expr (pe_bm PySem.F.plainAttrs_list PySem.F.slot_list_extend PySem.F.type_list_extend mt_extend (pv 2) (pa_cons (pe_call ih (hr.mono (by omega)) (by rfl) T.g_ways_and_stages T.F_ways_and_stages.kp T.b_ways_and_stages .nil pass0 (pa_cons (pv 5) (pa_cons (pe_op op_catA (pv 1) (pe_tup (pa_cons (pv 3) pa_nil))) pa_nil))) pa_nil)))) pss_nil)))
      (pss_one (ps_ret (pv 2))))), ?_⟩
    walk_at "go"
    refine ⟨sz (by simp), fun a na => ?_⟩
    walk_at "go"
    refine ⟨sz (by simp), fun l nl => ?_⟩
    walk_at "go"
    have s1 := same_new (o := .tup [.ref wa, .ref tv]) na
    have s2 := same_new (o := .lst [.ref a]) nl
    have ea := s2 _ _ (upd_same (H := H) (a := a) (o := .tup [.ref wa, .ref tv]))
    have el : (upd (upd H a (.tup [.ref wa, .ref tv])) l (.lst [.ref a])) l = some (.lst [.ref a]) := upd_same
    have ln : H l = none := s1.free nl
    have sH := s1.trans s2
    generalize upd (upd H a (.tup [.ref wa, .ref tv])) l (.lst [.ref a]) = H1 at ea el sH ⊢
    have d1 : Dp K H1 (.ref a) (thD (way, Th.st c d ps)) := .tup (sq_t ea) (.cons (way_dp (sH _ _ hw)) (.cons (dp_same sH hd) .nil))
    have g1 : Strict K H1 [.ref a] [(way, Th.st c d ps)] := Strict.one (sq_t ea) (sH _ _ hw) (dp_same sH hd)
    refine l_ixT (same_t sH ht) rfl ?_
    refine ⟨b, xs, rfl, same_t sH hb, ?_⟩
    refine for_E (xs := xs) (fun i σ H' => ∃ zs y3 y4 y5, σ = [some (.ref tv), some (.ref wa), some (.ref l), y3, y4, y5] ∧ H' l = some (.lst zs) ∧ DpAll K H' zs (((way, Th.st c d ps) :: stsAt (ps.take i) way 0).map thD) ∧ Strict K H' zs ((way, Th.st c d ps) :: stsAt (ps.take i) way 0) ∧ Same H H')
      ⟨[.ref a], none, none, none, rfl, el, ?_, ?_, sH⟩ (fun i σ H' h => ?_) (fun i x T' σ H' hx h nT => ?_) (fun σ H' h => ?_)
    · simp only [List.take_zero, stsAt, thingsAt, List.filter_nil, List.map_cons, List.map_nil]
      exact .cons d1 .nil
    · simp only [List.take_zero, stsAt, thingsAt, List.filter_nil]
      exact g1
    · obtain ⟨zs, y3, y4, y5, rfl, el2, dz, gz, s⟩ := h
      exact same_t s hb
    · obtain ⟨zs, y3, y4, y5, rfl, el2, dz, gz, s⟩ := h
      obtain ⟨w0, t0, q0, v0, hp, rfl, hq, hv⟩ := part_at hps hx
      have pd := depL_le.mp (show depL ps ≤ n by omega) _ (List.mem_of_getElem? hp)
      have pd2 := depL_le.mp (Nat.le_refl (depL ps)) _ (List.mem_of_getElem? hp)
      have k2 := nSt_take hp
      have lz := dps_len dz
      rw [List.length_map, List.length_cons, stsAt_len] at lz
      simp only at k2 pd pd2
      have s3 := same_new (o := .tup [.int (i : Nat), .ref q0]) nT
      refine g_gtup (sq_t upd_same) rfl ?_
      have el3 := s3 _ _ el2
      have dz3 := dps_same s3 dz
      have gz3 := gz.ts (ts_same s3)
      have ss := s.trans s3
      generalize upd H' T' (.tup [.int (i : Nat), .ref q0]) = H2 at el3 dz3 gz3 ss ⊢
      walk_at "go"
      refine g_gtup (same_t ss hq) rfl ?_
      walk_at "go"
      refine isStg_of ⟨v0, t0, rfl, dp_same ss hv, ?_⟩
      walk_at "go"
      cases t0 with
      | inp i0 =>
        rw [if_neg (by simp [Th.isSt])]
        walk_at "go"
        refine ⟨zs, _, _, _, rfl, el3, ?_, ?_, ss⟩
        · rw [stsAt_take way hp, sts_inp, List.append_nil]
          exact dz3
        · rw [stsAt_take way hp, sts_inp, List.append_nil]
          exact gz3
      | st c1 d1' ps1 =>
        rw [if_pos (by simp [Th.isSt])]
        walk_at "go"
        refine l_tyL (sq_l el3) ?_
        walk_at "go"
        refine ⟨sz (by simp), fun T2 n2 => ?_⟩
        have s4 := same_new (o := .tup [.int (i : Nat)]) n2
        refine l_catS ((ss.trans s4) _ _ hw) upd_same (by simp) (sz (by simp; omega)) (fun p2 H3 s5 hp2 => ?_)
        walk_at "go"
        refine ⟨v0, p2, way ++ [(i : Int)], c1, d1', ps1, rfl, dp_same (ss.trans (s4.trans s5)) hv, ?_, by omega, by rw [List.length_append, List.length_singleton]; omega, by omega, fun zs2 p3 H4 np3 e4 d4 g4 s6 => ?_⟩
        · rw [hp2, List.map_append]
          rfl
        · have sx := s4.trans (s5.trans s6)
          have el4 := sx _ _ el3
          have lz2 := dps_len d4
          rw [List.length_map, sts_len] at lz2
          walk_at "go"
          refine l_extL el4 e4 (by omega) ?_
          walk_at "go"
          have tl := ts_lst (o := .lst (zs ++ zs2)) el4
          refine ⟨zs ++ zs2, _, _, _, rfl, upd_same, ?_, ?_, same_mut (ss.trans sx) ln⟩
          · rw [stsAt_take way hp, ← List.cons_append, List.map_append]
            exact dps_app (dps_t tl (thD_t _) (dps_same sx dz3)) (dps_t tl (thD_t _) d4)
          · rw [stsAt_take way hp, ← List.cons_append]
            refine (gz3.ts ((ts_same sx).trans tl)).app (g4.ts tl) ?_
            rw [List.length_cons, stsAt_len]
            exact lz
    · obtain ⟨zs, y3, y4, y5, rfl, el2, dz, gz, s⟩ := h
      walk_at "go"
      rw [hlen, List.take_length] at dz gz
      refine q zs l H' ln el2 ?_ ?_ s
      · rw [sts_st]
        exact dz
      · rw [sts_st]
        exact gz

end
end SC.S
namespace SC.S
open PySem PySem.Spec PyProof.Rows L2 StrLaws
local macro_rules | `(tactic| walk_at "go") => `(tactic| ((try dsimp only [cxOf, Cx.nox, Cx.wish]); repeat (first
  | (with_reducible refine g_seq ?_)
  | (with_reducible refine g_asg ?_)
  | (with_reducible refine g_asg2 ?_)
  | (with_reducible refine g_ret ?_)
  | (with_reducible refine g_drop ?_)
  | (with_reducible refine g_next ?_)
  | (with_reducible refine g_ifs ?_)
  | (with_reducible refine g_par ?_)
  | (with_reducible refine g_par3 ?_)
  | ((with_reducible refine' g_var ?hv ?_); (case hv => exact rfl))
  | (with_reducible refine g_c ?_)
  | ((with_reducible refine' g_aug ?hv ?_); (case hv => exact rfl))
  | (with_reducible refine l_ip ?_)
  | (with_reducible refine g_op ?_)
  | (with_reducible refine g_un ?_)
  | (with_reducible refine g_cons ?_)
  | (with_reducible refine g_nil ?_)
  | (with_reducible refine g_cb ?_)
  | (with_reducible refine g_call ?_)
  | (with_reducible refine g_callK ?_)
  | (with_reducible refine g_test ?_)
  | (with_reducible refine g_b ?_)
  | (with_reducible refine g_not ?_)
  | (with_reducible refine g_chain ?_)
  | (with_reducible refine g_notV ?_)
  | (with_reducible refine g_and ?_)
  | (with_reducible refine g_or ?_)
  | (with_reducible refine g_ifx ?_)
  | (with_reducible refine g_isN ?_)
  | (with_reducible refine g_notN ?_)
  | (with_reducible refine g_andV ?_)
  | (with_reducible refine g_orV ?_)
  | (with_reducible refine g_bm ?_)
  | (with_reducible refine g_bm0 ?_)
  | (with_reducible refine g_sl ?_)
  | (with_reducible refine g_part ?_)
  | (with_reducible refine g_nopart ?_)
  | (with_reducible refine g_dget ?_)
  | (with_reducible refine g_dput ?_)
  | (with_reducible refine g_tup ?_)
  | (with_reducible refine g_lst ?_)
  | (with_reducible refine g_yes ?_)
  | (with_reducible refine g_name ?_)
  | (with_reducible refine g_gsub ?_)
  | (with_reducible refine g_iList ?_)
  | (with_reducible refine g_iTup ?_)
  | (with_reducible refine g_for ?_)
  | (with_reducible refine g_lc ?_)
  | (with_reducible refine g_rng1 ?_)
  | (with_reducible refine g_rng2 ?_)
  | (with_reducible refine g_rng3 ?_)
  | (with_reducible refine g_iZip ?_)
  | (with_reducible refine g_allT ?_)
  | (with_reducible refine g_iZipA ?_)
  | (with_reducible refine g_iZip3 ?_)
  | (with_reducible refine g_iZipM ?_)
  | (with_reducible refine g_iZipN ?_)
  | (with_reducible refine g_din ?_)
  | (with_reducible refine g_dc2 ?_)
  | (with_reducible refine g_iItems ?_)
  | (with_reducible refine g_minAbs ?_)
  | (with_reducible refine g_dnotin ?_)
  | (with_reducible refine g_iRev ?_)
  | (with_reducible refine g_dcT ?_)
  | (with_reducible refine g_dc ?_)
  | (with_reducible refine g_iEnumT ?_)
  | (with_reducible refine g_iEnum ?_)
  | (with_reducible refine g_lstRg ?_)
  | (with_reducible refine g_lz ?_)
  | (with_reducible refine g_tz ?_)
  | (with_reducible refine g_rg1 ?_)
  | (with_reducible refine g_gcons ?_)
  | (with_reducible refine g_gnil ?_)
  | (with_reducible refine l_bl ?_)
  | (with_reducible refine l_int ?_)
  | (with_reducible refine l_two ?_)
  | (with_reducible refine l_three ?_)
  | (with_reducible refine l_I0 ?_)
  | (with_reducible refine l_U ?_)
  | dsimp only)))
section
variable {P : Program} {w : World} {K : PySem.W.Frag} {mg : Str → Option Value} {base : Heap}
/-! ### is_within_bounds, merged -/
theorem sts_len' (t : Th) : (t.sts []).length = t.nSt := sts_len t []
def spWithin (K : PySem.W.Frag) : Sp := fun vs H Q _ => ∃ (v : V) (t : Th) (A : Nat), vs = [v] ∧ Dp K H v t.toD ∧ Pln A t ∧ ∀ H', Same H H' → Q (.bl (withinT t)) H'
theorem all_take {α : Type} {l : List α} {f : α → Bool} {i : Nat} {x : α} (h : l[i]? = some x) : (l.take (i + 1)).all f = ((l.take i).all f && f x) := by
  rw [take_one h, List.all_append, List.all_cons, List.all_nil, Bool.and_true]
theorem max_wi {n : Int} {c : Int} {ps : List (Int × Th)} {m : Int} (h1 : m ∈ n :: ps.map fun p => ((p.1.natAbs : Nat) : Int)) (h2 : ∀ y, y ∈ (n :: ps.map fun p => ((p.1.natAbs : Nat) : Int)) → y ≤ m) : decide (10 ^ 30 < m) = !wiB (.st n c ps) := by
  show _ = !(decide (n ≤ 10 ^ 30) && ps.all fun p => decide (p.1.natAbs ≤ 10 ^ 30))
  by_cases h : 10 ^ 30 < m
  · rw [decide_eq_true h]
    cases e : (decide (n ≤ 10 ^ 30) && ps.all fun p => decide (p.1.natAbs ≤ 10 ^ 30)) with
    | false => rfl
    | true =>
      exfalso
      simp only [Bool.and_eq_true, decide_eq_true_eq, List.all_eq_true] at e
      rcases List.mem_cons.mp h1 with z | z
      · omega
      · obtain ⟨p, hp, rfl⟩ := List.mem_map.mp z
        have := e.2 p hp
        omega
  · rw [decide_eq_false h]
    cases e : (decide (n ≤ 10 ^ 30) && ps.all fun p => decide (p.1.natAbs ≤ 10 ^ 30)) with
    | true => rfl
    | false =>
      exfalso
      have : (decide (n ≤ 10 ^ 30) && ps.all fun p => decide (p.1.natAbs ≤ 10 ^ 30)) = true := by
        simp only [Bool.and_eq_true, decide_eq_true_eq, List.all_eq_true]
        refine ⟨by have := h2 n (List.mem_cons_self ..); omega, fun p hp => ?_⟩
        have := h2 _ (List.mem_cons_of_mem _ (List.mem_map.mpr ⟨p, hp, rfl⟩))
        omega
      rw [this] at e; cases e
theorem ok_is_within_bounds (T : Tx K mg) : FnOk P w K mg base CX0 43 T.f_is_within_bounds T.fd_is_within_bounds ["plan"] (spWithin K) := by
  refine T.F_is_within_bounds.ok sc_is_within_bounds (fun vs H Q E h => ?_) (fun cdv A outer s H vs Q E hr h => ?_)
  · obtain ⟨_, _, _, rfl, _⟩ := h
    rfl
  obtain ⟨v, t, A0, rfl, hd, pl, q⟩ := h
  refine ⟨_, (pss_cons (ps_for PassesOwn.never rfl (pi_list (pe_call (ok_ways_and_stages T 40) (hr.mono (by first | decide | omega)) (by rfl) T.g_ways_and_stages T.F_ways_and_stages.kp T.b_ways_and_stages .nil pass0 (pa_cons (pv 0) (pa_cons (pe_tup pa_nil) pa_nil)))) (pg_tup (by rfl) (pgs_cons (pg_name (i := 3) sc_is_within_bounds.nd rfl (Or.inl rfl)) (pgs_cons (pg_tup (by rfl) (pgs_cons (pg_name (i := 1) sc_is_within_bounds.nd rfl (Or.inl rfl)) (pgs_cons (pg_name (i := 3) sc_is_within_bounds.nd rfl (Or.inl rfl)) (pgs_cons (pg_name (i := 2) sc_is_within_bounds.nd rfl (Or.inl rfl)) pgs_nil)))) pgs_nil))) (pss_one (ps_if (pt_cmpR op_gt (pe_callB (cr_max rfl) (by rfl) T.m_max (by decide +kernel) (pa_cons (pe_op op_cat (pe_lst (pa_cons (pv 1) pa_nil)) (pe_lc (own := [("weight", 4), ("_", 3)]) (g := (gTup _ 2 (gCons (gName 4) (gCons (gName 3) gNil)))) (tt := tYes) (by rfl) sc_is_within_bounds.nd (pi_tup (pv 2)) (blkOk_by (own := [("weight", 4), ("_", 3)]) (N := ["plan", "divisor", "parts", "_", "weight"]) (sc := defScope s_is_within_bounds) (by decide +kernel)) (fun _ _ _ _ _ => (pg_tup (by rfl) (pgs_cons (pg_name (i := 4) sc_is_within_bounds.nd rfl (Or.inl rfl)) (pgs_cons (pg_name (i := 3) sc_is_within_bounds.nd rfl (Or.inl rfl)) pgs_nil)))) (fun _ _ _ _ _ => pts_nil) (fun _ _ _ _ _ => (pe_callB call_abs (by rfl) T.m_abs (by decide +kernel) (pa_cons (pv 4) pa_nil))))) pa_nil)) (pe_glob (by rfl) T.c_MAX_SIZE (show RelV (.int (10 ^ 30)) _ from ⟨_, rfl⟩)) (nomark _)) (pss_one (ps_ret pe_bl)) pss_nil)))
      (pss_one (ps_ret pe_bl))), ?_⟩
  obtain ⟨c0, d0, ps0, et⟩ := pl.st
  have h1 := pl.dep
  have h2 := pl.many
  have h3 := pl.inp
  walk_at "go"
  refine ⟨sz (by simp), fun e ne => ?_⟩
  have s1 := same_new (o := .tup []) ne
  refine ⟨v, e, [], c0, d0, ps0, rfl, by rw [← et]; exact dp_same s1 hd, upd_same, by rw [← et]; omega, by rw [← et]; simp; omega, by rw [← et]; omega, fun zs l H1 nl el dz _ s2 => ?_⟩
  rw [← et] at dz
  have ss := s1.trans s2
  have lz := dps_len dz
  rw [List.length_map] at lz
  refine ⟨l, rfl, ⟨zs, sq_l el⟩, ?_⟩
  refine for_L (xs := zs) (fun i σ H' => ∃ y1 y2 y3 y4, σ = [some v, y1, y2, y3, y4] ∧ ((t.sts []).take i).all (fun p => wiB p.2) = true ∧ Same H1 H') ⟨none, none, none, none, rfl, rfl, Same.refl _⟩ (fun i σ H' _ h => ?_) (fun i x σ H' hx h => ?_) (fun σ H' h => ?_)
  · obtain ⟨_, _, _, _, _, _, s⟩ := h
    exact sq_l (s _ _ el)
  · obtain ⟨y1, y2, y3, y4, rfl, hall, s⟩ := h
    obtain ⟨w0, t0, q0, wa, v0, hi, rfl, hq, hw, hv⟩ := thing_at dz hx
    have hm := List.mem_of_getElem? hi
    have bt := (sts_each (P := fun n _ ps => ps.length ≤ 30) t []).mp
    obtain ⟨n, c, ps, rfl⟩ : ∃ n c ps, t0 = .st n c ps := by
      have := (List.mem_filter.mp hm).2
      cases t0 with
      | inp i => simp [Th.isSt] at this
      | st n c ps => exact ⟨n, c, ps, rfl⟩
    have lps : ps.length ≤ 30 := by
      have : t.each fun _ _ ps => ps.length ≤ 30 := by
        have g : ∀ u : Th, u.full = true → u.nIn ≤ 30 → u.each fun _ _ ps => ps.length ≤ 30 := by
          refine Th.ind (fun i _ _ => by simp only [Th.each]) fun n c ps ih f g => ?_
          simp only [Th.full, Bool.and_eq_true] at f
          simp only [Th.nIn] at g
          simp only [Th.each]
          have := len_le_nIn f.2
          refine ⟨by omega, eachL_iff.mpr fun p hp => ih p hp (fullL_iff.mp f.2 p hp) ?_⟩
          have h8 : nInL ps = (ps.map fun p => p.2.nIn).sum := nInL_eq ps
          have := mem_le_sum (List.mem_map.mpr ⟨p, hp, rfl⟩ : p.2.nIn ∈ ps.map fun p => p.2.nIn)
          omega
        exact g t pl.bd.full pl.inp
      exact bt this _ hm
    obtain ⟨p2, b, rfl, k1, k2⟩ := st_get hv
    obtain ⟨b', xs, e', hb, hps⟩ := par_get k2
    obtain rfl : b = b' := by injection e'
    have hlen : xs.length = ps.length := by rw [dps_len hps, toDL_len]
    refine g_gtup (same_t s hq) rfl ?_
    walk_at "go"
    refine g_gtup (same_t s k1) rfl ?_
    walk_at "go"
    refine ⟨sz (by simp), fun m1 nm1 => ?_⟩
    walk_at "go"
    have z1 := same_new (o := .lst [.int n]) nm1
    have s3 := s.trans z1
    have em1 : (upd H' m1 (.lst [.int n])) m1 = some (.lst [.int n]) := upd_same
    generalize upd H' m1 (.lst [.int n]) = H2 at s3 em1 ⊢
    refine ⟨b, rfl, ⟨xs, same_t s3 hb⟩, fun Z nZ => ?_⟩
    refine lc_tup (xs := xs) (fun j H' => H' Z = some (.lst (((ps.take j).map fun p => ((p.1.natAbs : Nat) : Int)).map V.int)) ∧ Same H2 H') ⟨upd_same, same_new nZ⟩ (fun j H' _ h => same_t (s3.trans h.2) hb) (fun j x H' hx h => ?_) (fun H3 h => ?_)
    · obtain ⟨eZ, s4⟩ := h
      obtain ⟨w1, t1, q1, v1, hp, rfl, hq1, hv1⟩ := part_at hps hx
      have il : j < ps.length := (List.getElem?_eq_some_iff.mp hp).1
      refine g_gtup (same_t (s3.trans s4) hq1) rfl ?_
      walk_at "go"
      refine ⟨rfl, ?_⟩
      walk_at "go"
      rw [if_pos rfl]
      walk_at "go"
      refine ⟨_, rfl, ?_⟩
      walk_at "go"
      rw [abs_ite]
      refine ⟨_, eZ, sz1 (by rw [List.length_map, List.length_map, List.length_take]; omega), ?_, same_mut s4 nZ⟩
      rw [upd_same, take_one hp, List.map_append, List.map_append]
      rfl
    obtain ⟨eZ, s4⟩ := h
    rw [hlen, List.take_length] at eZ
    refine ⟨m1, Z, [.int n], _, rfl, rfl, s4 _ _ em1, eZ, sz (by rw [List.length_map, List.length_map]; simp; omega), fun m2 nm2 => ?_⟩
    walk_at "go"
    have z2 := same_new (o := .lst ([.int n] ++ (ps.map fun p => ((p.1.natAbs : Nat) : Int)).map V.int)) nm2
    have s5 := s3.trans (s4.trans z2)
    refine ⟨m2, n :: ps.map fun p => ((p.1.natAbs : Nat) : Int), rfl, sq_l upd_same, by simp, fun m hm1 hm2 => ?_⟩
    walk_at "go"
    have mx := max_wi (c := c) hm1 hm2
    refine iteB (fun h5 => ?_) (fun h5 => ?_)
    · walk_at "go"
      rw [decide_eq_true (by simpa using h5)] at mx
      have : withinT t = false := by
        unfold withinT
        rw [List.all_eq_false]
        refine ⟨_, hm, ?_⟩
        show ¬ wiB (.st n c ps) = true
        intro e9
        rw [e9] at mx
        cases mx
      rw [← this]
      exact q _ (ss.trans s5)
    · rw [decide_eq_false (by simpa using h5)] at mx
      refine ⟨_, _, _, _, rfl, ?_, s5⟩
      rw [all_take hi, hall, Bool.true_and]
      cases e9 : wiB (.st n c ps) with
      | true => rfl
      | false => rw [e9] at mx; cases mx
  · obtain ⟨y1, y2, y3, y4, rfl, hall, s⟩ := h
    rw [lz, List.take_length] at hall
    walk_at "go"
    have : withinT t = true := hall
    rw [← this]
    exact q _ (ss.trans s)

end
end SC.S
namespace SC.S
open PySem PySem.Spec PyProof.Rows L2 StrLaws
local macro_rules | `(tactic| walk_at "go") => `(tactic| ((try dsimp only [cxOf, Cx.nox, Cx.wish]); repeat (first
  | (with_reducible refine g_seq ?_)
  | (with_reducible refine g_asg ?_)
  | (with_reducible refine g_asg2 ?_)
  | (with_reducible refine g_ret ?_)
  | (with_reducible refine g_drop ?_)
  | (with_reducible refine g_next ?_)
  | (with_reducible refine g_ifs ?_)
  | (with_reducible refine g_par ?_)
  | (with_reducible refine g_par3 ?_)
  | ((with_reducible refine' g_var ?hv ?_); (case hv => exact rfl))
  | (with_reducible refine g_c ?_)
  | ((with_reducible refine' g_aug ?hv ?_); (case hv => exact rfl))
  | (with_reducible refine l_ip ?_)
  | (with_reducible refine g_op ?_)
  | (with_reducible refine g_un ?_)
  | (with_reducible refine g_cons ?_)
  | (with_reducible refine g_nil ?_)
  | (with_reducible refine g_cb ?_)
  | (with_reducible refine g_call ?_)
  | (with_reducible refine g_callK ?_)
  | (with_reducible refine g_test ?_)
  | (with_reducible refine g_b ?_)
  | (with_reducible refine g_not ?_)
  | (with_reducible refine g_chain ?_)
  | (with_reducible refine g_notV ?_)
  | (with_reducible refine g_and ?_)
  | (with_reducible refine g_or ?_)
  | (with_reducible refine g_ifx ?_)
  | (with_reducible refine g_isN ?_)
  | (with_reducible refine g_notN ?_)
  | (with_reducible refine g_andV ?_)
  | (with_reducible refine g_orV ?_)
  | (with_reducible refine g_bm ?_)
  | (with_reducible refine g_bm0 ?_)
  | (with_reducible refine g_sl ?_)
  | (with_reducible refine g_part ?_)
  | (with_reducible refine g_nopart ?_)
  | (with_reducible refine g_dget ?_)
  | (with_reducible refine g_dput ?_)
  | (with_reducible refine g_tup ?_)
  | (with_reducible refine g_lst ?_)
  | (with_reducible refine g_yes ?_)
  | (with_reducible refine g_name ?_)
  | (with_reducible refine g_gsub ?_)
  | (with_reducible refine g_iList ?_)
  | (with_reducible refine g_iTup ?_)
  | (with_reducible refine g_for ?_)
  | (with_reducible refine g_lc ?_)
  | (with_reducible refine g_rng1 ?_)
  | (with_reducible refine g_rng2 ?_)
  | (with_reducible refine g_rng3 ?_)
  | (with_reducible refine g_iZip ?_)
  | (with_reducible refine g_allT ?_)
  | (with_reducible refine g_iZipA ?_)
  | (with_reducible refine g_iZip3 ?_)
  | (with_reducible refine g_iZipM ?_)
  | (with_reducible refine g_iZipN ?_)
  | (with_reducible refine g_din ?_)
  | (with_reducible refine g_dc2 ?_)
  | (with_reducible refine g_iItems ?_)
  | (with_reducible refine g_minAbs ?_)
  | (with_reducible refine g_dnotin ?_)
  | (with_reducible refine g_iRev ?_)
  | (with_reducible refine g_dcT ?_)
  | (with_reducible refine g_dc ?_)
  | (with_reducible refine g_iEnumT ?_)
  | (with_reducible refine g_iEnum ?_)
  | (with_reducible refine g_lstRg ?_)
  | (with_reducible refine g_lz ?_)
  | (with_reducible refine g_tz ?_)
  | (with_reducible refine g_rg1 ?_)
  | (with_reducible refine g_gcons ?_)
  | (with_reducible refine g_gnil ?_)
  | (with_reducible refine l_bl ?_)
  | (with_reducible refine l_int ?_)
  | (with_reducible refine l_two ?_)
  | (with_reducible refine l_three ?_)
  | (with_reducible refine l_I0 ?_)
  | (with_reducible refine l_U ?_)
  | dsimp only)))
section
variable {P : Program} {w : World} {K : PySem.W.Frag} {mg : Str → Option Value} {base : Heap}
/-! ### merged, told or refused -/
def spMerged (K : PySem.W.Frag) (C : Addr) : Sp := fun vs H Q E => ∃ (v : V) (t : Th) (A : Nat), vs = [v] ∧ Dp K H v t.toD ∧ Pln A t ∧
  (withinT t.mg = true → ∀ (p : Addr) (H' : Hp), Dp K H' (.ref p) t.mg.toD → Same H H' → Q (.ref p) H') ∧
  (withinT t.mg = false → ∀ (d : Addr) (H' : Hp), H' d = some (.xd [(("limit" : Str), .int (10 ^ 30))]) → Same H H' → E (.ref C) (some d) H')
theorem ok_merged (T : Tx K mg) (pf : TmX.PF P T.fl) : FnOk P w K mg base (L2.CX P w) 44 T.f_merged T.fd_merged ["plan"] (spMerged K T.C_tm) := by
  refine T.F_merged.okX sc_merged (fun vs H Q E h => ?_) (fun cdv A outer s H vs Q E hr h => ?_)
  · obtain ⟨_, _, _, rfl, _⟩ := h
    rfl
  obtain ⟨v, t, A0, rfl, hd, pl, q, qe⟩ := h
  refine ⟨_, (pss_cons (PS_nox (ps_par (i := 1) (j := 2) (by rfl) sc_merged.nd rfl rfl (by decide) rfl rfl (pa_cons (pv 0) (pa_cons (pe_call (ok_merged_once T 40) (hr.mono (by first | decide | omega)) (by rfl) T.g_merged_once T.F_merged_once.kp T.b_merged_once .nil pass0 (pa_cons (pv 0) pa_nil)) pa_nil)) (by rfl)))
      (pss_cons (PS_nox (ps_while PassesOwn.never (pt_cmp (pc_notN (pv 2))) (pss_one (ps_par (i := 1) (j := 2) (by rfl) sc_merged.nd rfl rfl (by decide) rfl rfl (pa_cons (pv 2) (pa_cons (pe_call (ok_merged_once T 40) (hr.mono (by first | decide | omega)) (by rfl) T.g_merged_once T.F_merged_once.kp T.b_merged_once .nil pass0 (pa_cons (pv 2) pa_nil)) pa_nil)) (by rfl)))))
      (pss_cons (ps_if (pt_not (pt_val (pe_call (ok_is_within_bounds T) (hr.mono (by first | decide | omega)) (by rfl) T.g_is_within_bounds T.F_is_within_bounds.kp T.b_is_within_bounds .nil pass0 (pa_cons (pv 1) pa_nil)))) (pss_one (ps_raiseTm rfl T.tm pf hr (takes_of rfl rfl rfl rfl) (pa_cons (pe_glob (by rfl) T.c_MAX_SIZE (show RelV (.int (10 ^ 30)) _ from ⟨_, rfl⟩)) pa_nil))) pss_nil)
      (PSs.nox (pss_one (ps_ret (pv 1))))))), ?_⟩
  have next : ∀ (cur : Th) (vc : V) (H1 : Hp), Dp K H1 vc cur.toD → Pln A0 cur → cur.mg = t.mg → Same H H1 → ∀ (Q' : VK) (E' : XK), (∀ (f : V) (H2 : Hp), Dp K H2 vc cur.toD → Same H H2 → ((f = .non ∧ cur.m1 = none) ∨ ∃ (u : Th) (pf : Addr), f = .ref pf ∧ cur.m1 = some u ∧ Dp K H2 f u.toD) → Q' f H2) → spM1 K 40 [vc] H1 Q' E' := fun cur vc H1 hc pc e s Q' E' k => by
    refine ⟨vc, cur, A0, rfl, hc, pc.st, pc.bd, pc.big, by have := pc.dep; omega, pc.inp, fun hn H2 s2 => ?_, fun u hu p H2 d2 s2 => ?_⟩
    · exact k _ H2 (dp_same s2 hc) (s.trans s2) (.inl ⟨rfl, hn⟩)
    · exact k _ H2 (dp_same s2 hc) (s.trans s2) (.inr ⟨u, p, rfl, hu, d2⟩)
  walk_at "go"
  refine next t v H hd pl rfl (Same.refl _) _ _ fun f H1 d1 s1 hf => ?_
  walk_at "go"
  refine ⟨fun m σ H' => ∃ (cur : Th) (vc f : V), m = cur.nSt ∧ σ = [some v, some vc, some f] ∧ Dp K H' vc cur.toD ∧ Pln A0 cur ∧ cur.mg = t.mg ∧ Same H H' ∧ ((f = .non ∧ cur.m1 = none) ∨ ∃ (u : Th) (pf : Addr), f = .ref pf ∧ cur.m1 = some u ∧ Dp K H' f u.toD), ⟨t.nSt, t, v, f, rfl, rfl, d1, pl, rfl, s1, hf⟩, ?_⟩
  rintro m σ H2 ⟨cur, vc, f, rfl, rfl, dc, pc, e, s, hf⟩
  walk_at "go"
  rcases hf with ⟨rfl, hn⟩ | ⟨u, pf, rfl, hu, du⟩
  · rw [if_neg (by simp)]
    walk_at "go"
    have ec : cur = t.mg := by rw [← e, mg_none hn]
    refine ⟨vc, cur, A0, rfl, dc, pc, fun H3 s3 => ?_⟩
    rw [ec]
    cases hwi : withinT t.mg with
    | false =>
      walk_at "go"
      first | rw [if_pos (by decide)] | skip
      walk_at "go"
      refine ⟨_, rfl, fun d nd0 => ?_⟩
      exact qe hwi d _ upd_same ((s.trans s3).trans (same_new nd0))
    | true =>
    have q := q hwi
    walk_at "go"
    first | rw [if_neg (by decide)] | skip
    walk_at "go"
    obtain ⟨n, c, ps, es⟩ := pc.st
    have dc' := dc
    rw [es] at dc'
    obtain ⟨p, b, rfl, _, _⟩ := st_get dc'
    refine q p H3 ?_ (s.trans s3)
    rw [← ec]
    exact dp_same s3 dc
  · rw [if_pos (by simp)]
    refine ⟨_, fun σ' H' z => z, ?_⟩
    walk_at "go"
    have st := m1_step _ hu
    refine next u _ H2 du (pc.step st) (by rw [mg_step hu]; exact e) s _ _ fun f H3 d3 s3 hf => ?_
    walk_at "go"
    refine ⟨u.nSt, by have := m1_nSt hu; omega, u, _, f, rfl, rfl, d3, pc.step st, by rw [mg_step hu]; exact e, s3, hf⟩

end
end SC.S
namespace SC.S
open PySem PySem.Spec PyProof.Rows L2 StrLaws
local macro_rules | `(tactic| walk_at "go") => `(tactic| ((try dsimp only [cxOf, Cx.nox, Cx.wish]); repeat (first
  | (with_reducible refine g_seq ?_)
  | (with_reducible refine g_asg ?_)
  | (with_reducible refine g_asg2 ?_)
  | (with_reducible refine g_ret ?_)
  | (with_reducible refine g_drop ?_)
  | (with_reducible refine g_next ?_)
  | (with_reducible refine g_ifs ?_)
  | (with_reducible refine g_par ?_)
  | (with_reducible refine g_par3 ?_)
  | ((with_reducible refine' g_var ?hv ?_); (case hv => exact rfl))
  | (with_reducible refine g_c ?_)
  | ((with_reducible refine' g_aug ?hv ?_); (case hv => exact rfl))
  | (with_reducible refine l_ip ?_)
  | (with_reducible refine g_op ?_)
  | (with_reducible refine g_un ?_)
  | (with_reducible refine g_cons ?_)
  | (with_reducible refine g_nil ?_)
  | (with_reducible refine g_cb ?_)
  | (with_reducible refine g_call ?_)
  | (with_reducible refine g_callK ?_)
  | (with_reducible refine g_test ?_)
  | (with_reducible refine g_b ?_)
  | (with_reducible refine g_not ?_)
  | (with_reducible refine g_chain ?_)
  | (with_reducible refine g_notV ?_)
  | (with_reducible refine g_and ?_)
  | (with_reducible refine g_or ?_)
  | (with_reducible refine g_ifx ?_)
  | (with_reducible refine g_isN ?_)
  | (with_reducible refine g_notN ?_)
  | (with_reducible refine g_andV ?_)
  | (with_reducible refine g_orV ?_)
  | (with_reducible refine g_bm ?_)
  | (with_reducible refine g_bm0 ?_)
  | (with_reducible refine g_sl ?_)
  | (with_reducible refine g_part ?_)
  | (with_reducible refine g_nopart ?_)
  | (with_reducible refine g_dget ?_)
  | (with_reducible refine g_dput ?_)
  | (with_reducible refine g_tup ?_)
  | (with_reducible refine g_lst ?_)
  | (with_reducible refine g_yes ?_)
  | (with_reducible refine g_name ?_)
  | (with_reducible refine g_gsub ?_)
  | (with_reducible refine g_iList ?_)
  | (with_reducible refine g_iTup ?_)
  | (with_reducible refine g_for ?_)
  | (with_reducible refine g_lc ?_)
  | (with_reducible refine g_rng1 ?_)
  | (with_reducible refine g_rng2 ?_)
  | (with_reducible refine g_rng3 ?_)
  | (with_reducible refine g_iZip ?_)
  | (with_reducible refine g_allT ?_)
  | (with_reducible refine g_iZipA ?_)
  | (with_reducible refine g_iZip3 ?_)
  | (with_reducible refine g_iZipM ?_)
  | (with_reducible refine g_iZipN ?_)
  | (with_reducible refine g_din ?_)
  | (with_reducible refine g_dc2 ?_)
  | (with_reducible refine g_iItems ?_)
  | (with_reducible refine g_minAbs ?_)
  | (with_reducible refine g_dnotin ?_)
  | (with_reducible refine g_iRev ?_)
  | (with_reducible refine g_dcT ?_)
  | (with_reducible refine g_dc ?_)
  | (with_reducible refine g_iEnumT ?_)
  | (with_reducible refine g_iEnum ?_)
  | (with_reducible refine g_lstRg ?_)
  | (with_reducible refine g_lz ?_)
  | (with_reducible refine g_tz ?_)
  | (with_reducible refine g_rg1 ?_)
  | (with_reducible refine g_gcons ?_)
  | (with_reducible refine g_gnil ?_)
  | (with_reducible refine l_bl ?_)
  | (with_reducible refine l_int ?_)
  | (with_reducible refine l_two ?_)
  | (with_reducible refine l_three ?_)
  | (with_reducible refine l_I0 ?_)
  | (with_reducible refine l_U ?_)
  | dsimp only)))
section
variable {P : Program} {w : World} {K : PySem.W.Frag} {mg : Str → Option Value} {base : Heap}
/-! ### _law_first -/
mutual
def fwT : Th → Option (List Nat)
  | .inp _ => none
  | .st _ _ ps => fwL 0 ps
def fwL (k : Nat) : List (Int × Th) → Option (List Nat)
  | [] => none
  | (w, t) :: r =>
    if canM w t = true then some [k]
    else match (fwT t) with
      | some v => some (k :: v)
      | none => fwL (k + 1) r
end
/-- u comes of t by taking in the stage with the way v -/
inductive Tk : Th → List Nat → Th → Prop
  | here {n c : Int} {pre : List (Int × Th)} {w m d : Int} {qs r : List (Int × Th)} (h : m = 1 ∨ w.natAbs = 1) : Tk (.st n c (pre ++ (w, .st m d qs) :: r)) [pre.length] (mAt n c pre w (.st m d qs) r)
  | down {n c : Int} {pre : List (Int × Th)} {w : Int} {t u : Th} {v : List Nat} {r : List (Int × Th)} (hv : v ≠ []) (h : Tk t v u) : Tk (.st n c (pre ++ (w, t) :: r)) (pre.length :: v) (.st n c (pre ++ (w, u) :: r))
theorem Tk.step {t u : Th} {v : List Nat} (h : Tk t v u) : Step t u := by
  induction h with
  | here h => exact .here h
  | down _ _ ih => exact .down ih
theorem Tk.ne {t u : Th} {v : List Nat} (h : Tk t v u) : v ≠ [] := by cases h <;> simp
mutual
theorem fw_m1 : ∀ t : Th, ((fwT t) = none → t.m1 = none) ∧ (∀ v, (fwT t) = some v → ∃ u, t.m1 = some u ∧ Tk t v u)
  | .inp _ => by simp only [fwT, Th.m1]; exact ⟨fun _ => trivial, fun v h => (by cases h)⟩
  | .st n c ps => by
    simp only [fwT, Th.m1]
    exact fwL_m1 n c [] ps
theorem fwL_m1 (n c : Int) : ∀ (pre ps : List (Int × Th)), (fwL pre.length ps = none → m1L n c pre ps = none) ∧ (∀ v, fwL pre.length ps = some v → ∃ u, m1L n c pre ps = some u ∧ Tk (.st n c (pre ++ ps)) v u)
  | pre, [] => by simp only [fwL, m1L]; exact ⟨fun _ => trivial, fun v h => (by cases h)⟩
  | pre, (w, t) :: r => by
    have ih := fw_m1 t
    have ih2 := fwL_m1 n c (pre ++ [(w, t)]) r
    rw [List.length_append, List.length_singleton, List.append_assoc] at ih2
    simp only [fwL, m1L]
    by_cases hc : canM w t = true
    · rw [if_pos hc, if_pos hc]
      refine ⟨fun h => (by cases h), fun v h => ⟨_, rfl, ?_⟩⟩
      obtain rfl := Option.some.inj h
      cases t with
      | inp i => simp [canM] at hc
      | st m d qs => exact .here (by simpa [canM] using hc)
    · rw [if_neg hc, if_neg hc]
      cases e : (fwT t) with
      | none =>
        rw [ih.1 e]
        exact ih2
      | some v0 =>
        obtain ⟨u, h1, h2⟩ := ih.2 v0 e
        rw [h1]
        refine ⟨fun h => (by cases h), fun v h => ⟨_, rfl, ?_⟩⟩
        obtain rfl := Option.some.inj h
        exact .down h2.ne h2
end
theorem in_pm (x : Int) : inV (.int x) [.int 1, .int (-1)] = decide (x.natAbs = 1) := by
  show (eqV (.int 1) (.int x) || (eqV (.int (-1)) (.int x) || false)) = _
  have h : ∀ a b : Int, eqV (.int a) (.int b) = decide (a = b) := fun a b => by
    by_cases z : a = b
    · rw [z]; simp [eqV]
    · simp [eqV, z]
  rw [h, h, Bool.or_false]
  by_cases y : x.natAbs = 1
  · rw [decide_eq_true y]
    rcases Int.natAbs_eq_natAbs_iff.mp (show x.natAbs = (1 : Int).natAbs from y) with z | z <;> simp [z]
  · rw [decide_eq_false y, decide_eq_false (by omega), decide_eq_false (by omega)]; rfl
def wayV (ks : List Nat) : List V := ks.map fun k => V.int (k : Nat)
theorem fwL_step (ps : List (Int × Th)) (i : Nat) {w : Int} {t : Th} (h : ps[i]? = some (w, t)) : fwL i (ps.drop i) = if canM w t = true then some [i] else match (fwT t) with | some v => some (i :: v) | none => fwL (i + 1) (ps.drop (i + 1)) := by
  have il : i < ps.length := (List.getElem?_eq_some_iff.mp h).1
  have e : ps.drop i = (w, t) :: ps.drop (i + 1) := by
    rw [List.drop_eq_getElem_cons il]
    congr 1
    exact (List.getElem?_eq_some_iff.mp h).2
  rw [e]
  simp only [fwL]
def spFst (K : PySem.W.Frag) (n : Nat) : Sp := fun vs H Q _ => ∃ (v : V) (t : Th), vs = [v] ∧ Dp K H v t.toD ∧ (∃ n c ps, t = .st n c ps) ∧ t.dep ≤ n ∧
  ((fwT t) = none → ∀ H', Same H H' → Q .non H') ∧ (∀ ks, (fwT t) = some ks → ks.length ≤ n → ∀ (p : Addr) (H' : Hp), SqT K H' p (wayV ks) → Same H H' → Q (.ref p) H')
theorem first_step (T : Tx K mg) {n : Nat} {spI : Sp} (hn60 : n ≤ 60) (ih : FnOk P w K mg base CX0 (n + 1) T.f_l_first T.fd_l_first ["stage"] spI) (hi : ∀ m, n = m + 1 → ∀ vs H Q E, spFst K m vs H Q E → spI vs H Q E) :
    FnOk P w K mg base CX0 (n + 2) T.f_l_first T.fd_l_first ["stage"] (spFst K n) := by
  refine T.F_l_first.ok (k := n + 1) sc_l_first (fun vs H Q E h => ?_) (fun cdv A outer s H vs Q E hr h => ?_)
  · obtain ⟨_, _, rfl, _⟩ := h
    rfl
  obtain ⟨v, t, rfl, hd, ⟨c, d, ps, rfl⟩, hdep, q1, q2⟩ := h
  refine ⟨_, (pss_cons (ps_for PassesOwn.never rfl (pi_enumT (by rfl) T.m_enumerate (pa_cons (pe_ix ix_tup (pv 0) pe_int (fun _ _ => rfl)) pa_nil)) (pg_tup (by rfl) (pgs_cons (pg_name (i := 1) sc_l_first.nd rfl (Or.inl rfl)) (pgs_cons (pg_tup (by rfl) (pgs_cons (pg_name (i := 2) sc_l_first.nd rfl (Or.inl rfl)) (pgs_cons (pg_name (i := 3) sc_l_first.nd rfl (Or.inl rfl)) pgs_nil))) pgs_nil))) (pss_one (ps_if (pt_val (pe_callB call_isi (by rfl) T.m_isinstance (by decide +kernel) (pa_cons (pv 3) (pa_cons (pe_bltn (by rfl) T.m_tuple (by decide +kernel) (show RelV (.ty "tuple") _ from rfl)) pa_nil)))) (pss_cons (ps_if (PW.pt (pw_or (pt_cmpR op_eq (pe_ix ix_tup (pv 3) pe_int (fun _ _ => rfl)) pe_int (nomark _)) (pw_or1 (pt_cmpR op_in_seq (pv 2) (pe_tup (pa_cons pe_int (pa_cons (pe_un un_neg pe_int) pa_nil))) (by with_unfolding_all rfl))))) (pss_one (ps_ret (pe_tup (pa_cons (pv 1) pa_nil)))) pss_nil)
      (pss_cons (ps_set (i := 4) sc_l_first.nd rfl (Or.inl rfl) (pe_call ih (hr.mono (by omega)) (by rfl) T.g_l_first T.F_l_first.kp T.b_l_first .nil pass0 (pa_cons (pv 3) pa_nil)))
      (pss_one (ps_if (pt_cmp (pc_notN (pv 4))) (pss_one (ps_ret (pe_op op_catA (pe_tup (pa_cons (pv 1) pa_nil)) (pv 4)))) pss_nil)))) pss_nil)))
      (pss_one (ps_ret pe_non))), ?_⟩
  obtain ⟨p, b, rfl, h1, h2⟩ := st_get hd
  obtain ⟨b', xs, e, hb, hps⟩ := par_get h2
  obtain rfl : b = b' := by injection e
  have hlen : xs.length = ps.length := by rw [dps_len hps, toDL_len]
  simp only [Th.dep] at hdep
  walk_at "go"
  refine l_ixT h1 rfl ?_
  refine ⟨b, xs, rfl, hb, ?_⟩
  refine for_E (xs := xs) (fun i σ H' => ∃ y1 y2 y3 y4, σ = [some (.ref p), y1, y2, y3, y4] ∧ fwL i (ps.drop i) = fwT (Th.st c d ps) ∧ Same H H')
    ⟨none, none, none, none, rfl, by simp only [List.drop_zero, fwT], Same.refl _⟩ (fun i σ H' h => ?_) (fun i x T' σ H' hx h nT => ?_) (fun σ H' h => ?_)
  · obtain ⟨_, _, _, _, _, _, s⟩ := h
    exact same_t s hb
  · obtain ⟨y1, y2, y3, y4, rfl, hm, s⟩ := h
    obtain ⟨w0, t0, q0, v0, hp, rfl, hq, hv⟩ := part_at hps hx
    have pm := List.mem_of_getElem? hp
    have pd := depL_le.mp (show depL ps ≤ n - 1 by omega) _ pm
    simp only at pd
    have s3 := same_new (o := .tup [.int (i : Nat), .ref q0]) nT
    refine g_gtup (sq_t upd_same) rfl ?_
    have ss := s.trans s3
    generalize upd H' T' (.tup [.int (i : Nat), .ref q0]) = H2 at ss ⊢
    walk_at "go"
    refine g_gtup (same_t ss hq) rfl ?_
    walk_at "go"
    have hv2 := dp_same ss hv
    have hst := fwL_step ps i hp
    rw [hm] at hst
    cases t0 with
    | inp i0 =>
      simp only [Th.toD] at hv2
      obtain rfl := dp_int hv2
      refine isi_it ?_
      walk_at "go"
      rw [if_neg (by decide)]
      walk_at "go"
      refine ⟨_, _, _, _, rfl, ?_, ss⟩
      rw [hst]
      simp only [canM, fwT]
      rfl
    | st m d' qs =>
      obtain ⟨p2, b2, rfl, k1, k2⟩ := st_get hv2
      refine isi_tt k1 ?_
      walk_at "go"
      rw [if_pos rfl]
      walk_at "go"
      refine l_ixT k1 rfl ?_
      walk_at "go"
      refine l_eq rfl ?_
      refine ⟨_, rfl, ?_⟩
      have e1 : decide (V.int m = V.int 1) = decide (m = 1) := by
        by_cases z : m = 1
        · rw [decide_eq_true z, decide_eq_true (by rw [z])]
        · rw [decide_eq_false z, decide_eq_false (fun h => z (by injection h))]
      rw [e1]
      have here : ∀ (H3 : Hp) (p3 : Addr), canM w0 (.st m d' qs) = true → Same H2 H3 → SqT K H3 p3 [.int ((i : Nat) : Int)] → Q (.ref p3) H3 := fun H3 p3 hc s4 h4 => by
        rw [if_pos hc] at hst
        exact q2 [i] hst (by show 1 ≤ n; omega) p3 H3 h4 (ss.trans s4)
      by_cases z : m = 1
      · rw [decide_eq_true z, if_pos rfl]
        walk_at "go"
        first | rw [if_pos (by decide)] | rw [if_pos rfl] | skip
        walk_at "go"
        refine ⟨sz (by simp), fun p3 np3 => ?_⟩
        walk_at "go"
        exact here _ p3 (by simp [canM, z]) (same_new np3) (sq_t upd_same)
      · rw [decide_eq_false z, if_neg (by decide)]
        walk_at "go"
        refine ⟨sz (by simp), fun tp ntp => ?_⟩
        have z2 := same_new (o := .tup [.int 1, .int (-1)]) ntp
        have sT := ss.trans z2
        refine ⟨tp, [.int 1, .int (-1)], rfl, .inr (sq_t upd_same), rfl, rfl, ?_⟩
        rw [in_pm]
        refine ⟨_, rfl, ?_⟩
        by_cases y : w0.natAbs = 1
        · rw [decide_eq_true y]
          walk_at "go"
          first | rw [if_pos (by decide)] | rw [if_pos rfl] | skip
          walk_at "go"
          first | rw [if_pos (by decide)] | rw [if_pos rfl] | skip
          walk_at "go"
          refine ⟨sz (by simp), fun p3 np3 => ?_⟩
          walk_at "go"
          exact here _ p3 (by simp [canM, y]) (z2.trans (same_new np3)) (sq_t upd_same)
        · rw [decide_eq_false y]
          walk_at "go"
          first | rw [if_neg (by decide)] | skip
          walk_at "go"
          first | rw [if_neg (by decide)] | skip
          walk_at "go"
          have hc : ¬ canM w0 (.st m d' qs) = true := by simp [canM, z, y]
          rw [if_neg hc] at hst
          obtain ⟨k, rfl⟩ : ∃ k, n = k + 1 := ⟨n - 1, by simp only [Th.dep] at pd; omega⟩
          refine hi k rfl _ _ _ _ ⟨.ref p2, .st m d' qs, rfl, dp_same z2 hv2, ⟨m, d', qs, rfl⟩, by omega, fun hn H3 s4 => ?_, fun ks hks hl p3 H3 h3 s4 => ?_⟩
          · walk_at "go"
            first | rw [if_neg (by decide)] | rw [if_neg (by simp)] | skip
            walk_at "go"
            refine ⟨_, _, _, _, rfl, ?_, sT.trans s4⟩
            rw [hst, hn]
          · walk_at "go"
            first | rw [if_pos (by decide)] | rw [if_pos (by simp)] | skip
            walk_at "go"
            refine ⟨sz (by simp), fun p4 np4 => ?_⟩
            have z4 := same_new (o := .tup [.int ((i : Nat) : Int)]) np4
            walk_at "go"
            refine l_catU (sq_t upd_same) (same_t z4 h3) (sz (by unfold wayV; rw [List.length_map]; simp; omega)) fun p5 H5 s5 e5 => ?_
            walk_at "go"
            rw [hks] at hst
            exact q2 (i :: ks) hst (by rw [List.length_cons]; omega) p5 H5 e5 (sT.trans (s4.trans (z4.trans s5)))
  · obtain ⟨_, _, _, _, rfl, hm, s⟩ := h
    rw [hlen, List.drop_length] at hm
    simp only [fwL] at hm
    walk_at "go"
    exact q1 hm.symm H' s
theorem ok_l_first (T : Tx K mg) : ∀ n : Nat, n ≤ 60 → FnOk P w K mg base CX0 (n + 2) T.f_l_first T.fd_l_first ["stage"] (spFst K n)
  | 0, h => first_step T h fn_none fun m e => by cases e
  | n + 1, h => first_step T h (ok_l_first T n (by omega)) fun m e => by cases e; exact fun _ _ _ _ h => h

end
end SC.S
namespace SC.S
open PySem PySem.Spec PyProof.Rows L2 StrLaws
local macro_rules | `(tactic| walk_at "go") => `(tactic| ((try dsimp only [cxOf, Cx.nox, Cx.wish]); repeat (first
  | (with_reducible refine g_seq ?_)
  | (with_reducible refine g_asg ?_)
  | (with_reducible refine g_asg2 ?_)
  | (with_reducible refine g_ret ?_)
  | (with_reducible refine g_drop ?_)
  | (with_reducible refine g_next ?_)
  | (with_reducible refine g_ifs ?_)
  | (with_reducible refine g_par ?_)
  | (with_reducible refine g_par3 ?_)
  | ((with_reducible refine' g_var ?hv ?_); (case hv => exact rfl))
  | (with_reducible refine g_c ?_)
  | ((with_reducible refine' g_aug ?hv ?_); (case hv => exact rfl))
  | (with_reducible refine l_ip ?_)
  | (with_reducible refine g_op ?_)
  | (with_reducible refine g_un ?_)
  | (with_reducible refine g_cons ?_)
  | (with_reducible refine g_nil ?_)
  | (with_reducible refine g_cb ?_)
  | (with_reducible refine g_call ?_)
  | (with_reducible refine g_callK ?_)
  | (with_reducible refine g_test ?_)
  | (with_reducible refine g_b ?_)
  | (with_reducible refine g_not ?_)
  | (with_reducible refine g_chain ?_)
  | (with_reducible refine g_notV ?_)
  | (with_reducible refine g_and ?_)
  | (with_reducible refine g_or ?_)
  | (with_reducible refine g_ifx ?_)
  | (with_reducible refine g_isN ?_)
  | (with_reducible refine g_notN ?_)
  | (with_reducible refine g_andV ?_)
  | (with_reducible refine g_orV ?_)
  | (with_reducible refine g_bm ?_)
  | (with_reducible refine g_bm0 ?_)
  | (with_reducible refine g_sl ?_)
  | (with_reducible refine g_part ?_)
  | (with_reducible refine g_nopart ?_)
  | (with_reducible refine g_dget ?_)
  | (with_reducible refine g_dput ?_)
  | (with_reducible refine g_tup ?_)
  | (with_reducible refine g_lst ?_)
  | (with_reducible refine g_yes ?_)
  | (with_reducible refine g_name ?_)
  | (with_reducible refine g_gsub ?_)
  | (with_reducible refine g_iList ?_)
  | (with_reducible refine g_iTup ?_)
  | (with_reducible refine g_for ?_)
  | (with_reducible refine g_lc ?_)
  | (with_reducible refine g_rng1 ?_)
  | (with_reducible refine g_rng2 ?_)
  | (with_reducible refine g_rng3 ?_)
  | (with_reducible refine g_iZip ?_)
  | (with_reducible refine g_allT ?_)
  | (with_reducible refine g_iZipA ?_)
  | (with_reducible refine g_iZip3 ?_)
  | (with_reducible refine g_iZipM ?_)
  | (with_reducible refine g_iZipN ?_)
  | (with_reducible refine g_din ?_)
  | (with_reducible refine g_dc2 ?_)
  | (with_reducible refine g_iItems ?_)
  | (with_reducible refine g_minAbs ?_)
  | (with_reducible refine g_dnotin ?_)
  | (with_reducible refine g_iRev ?_)
  | (with_reducible refine g_dcT ?_)
  | (with_reducible refine g_dc ?_)
  | (with_reducible refine g_iEnumT ?_)
  | (with_reducible refine g_iEnum ?_)
  | (with_reducible refine g_lstRg ?_)
  | (with_reducible refine g_lz ?_)
  | (with_reducible refine g_tz ?_)
  | (with_reducible refine g_rg1 ?_)
  | (with_reducible refine g_gcons ?_)
  | (with_reducible refine g_gnil ?_)
  | (with_reducible refine l_bl ?_)
  | (with_reducible refine l_int ?_)
  | (with_reducible refine l_two ?_)
  | (with_reducible refine l_three ?_)
  | (with_reducible refine l_I0 ?_)
  | (with_reducible refine l_U ?_)
  | dsimp only)))
section
variable {P : Program} {w : World} {K : PySem.W.Frag} {mg : Str → Option Value} {base : Heap}
/-! ### _law_taken -/
theorem small_len {a b c : Nat} (h : a = min b c) (hb : b < c) (hc : c ≤ 300) : a < 1000000 := by omega
theorem wtd_one (ps : List (Int × Th)) : wtd 1 ps = ps := by
  unfold wtd
  conv => rhs; rw [← List.map_id ps]
  exact List.map_congr_left fun p _ => by simp
def spTaken (K : PySem.W.Frag) : Sp := fun vs H Q _ => ∃ (v : V) (n c : Int) (pre : List (Int × Th)) (w m d : Int) (qs r : List (Int × Th)), vs = [v, .int (pre.length : Nat)] ∧ Dp K H v (Th.st n c (pre ++ (w, .st m d qs) :: r)).toD ∧ Fits n c (pre ++ (w, .st m d qs) :: r) ∧ Fits m d qs ∧ (m = 1 ∨ w.natAbs = 1) ∧ 0 ≤ d ∧ d < m ∧
  ∀ (p : Addr) (H' : Hp), Dp K H' (.ref p) (mAt n c pre w (.st m d qs) r).toD → Same H H' → Q (.ref p) H'
theorem ok_l_taken (T : Tx K mg) : FnOk P w K mg base CX0 1 T.f_l_taken T.fd_l_taken ["stage", "at"] (spTaken K) := by
  refine T.F_l_taken.ok sc_l_taken (fun vs H Q E h => ?_) (fun cdv A outer s H vs Q E hr h => ?_)
  · obtain ⟨_, _, _, _, _, _, _, _, _, rfl, _⟩ := h
    rfl
  obtain ⟨v, n, c, pre, w0, m, d, qs, r, rfl, hd, F1, F2, hcan, d0, d1, q⟩ := h
  refine ⟨_, (pss_cons (ps_asg (pv 0) (pg_tup (by rfl) (pgs_cons (pg_name (i := 2) sc_l_taken.nd rfl (Or.inl rfl)) (pgs_cons (pg_name (i := 3) sc_l_taken.nd rfl (Or.inl rfl)) (pgs_cons (pg_name (i := 4) sc_l_taken.nd rfl (Or.inl rfl)) pgs_nil)))))
      (pss_cons (ps_asg (pe_ix ix_tup (pv 4) (pv 1) (fun _ _ => rfl)) (pg_tup (by rfl) (pgs_cons (pg_name (i := 5) sc_l_taken.nd rfl (Or.inr rfl)) (pgs_cons (pg_tup (by rfl) (pgs_cons (pg_name (i := 6) sc_l_taken.nd rfl (Or.inr rfl)) (pgs_cons (pg_name (i := 7) sc_l_taken.nd rfl (Or.inl rfl)) (pgs_cons (pg_name (i := 8) sc_l_taken.nd rfl (Or.inl rfl)) pgs_nil)))) pgs_nil))))
      (pss_cons (ps_if (pt_cmpR op_eq (pv 6) pe_int (nomark _)) (pss_cons (ps_setLc (i := 9) (own := [("own", 12), ("thing", 13)]) (g := (gTup _ 2 (gCons (gName 12) (gCons (gName 13) gNil)))) (tt := tYes) rfl sc_l_taken.nd rfl rfl (sw_true rfl rfl rfl (by decide +kernel)) (pi_tup (pv 8)) (blkOk_by (own := [("own", 12), ("thing", 13)]) (N := ["stage", "at", "size", "offset", "parts", "weight", "inner", "less", "things", "fresh", "ahead", "behind", "own", "thing"]) (sc := defScope s_l_taken) (by decide +kernel)) (fun _ _ _ _ _ => (pg_tup (by rfl) (pgs_cons (pg_name (i := 12) sc_l_taken.nd rfl (Or.inl rfl)) (pgs_cons (pg_name (i := 13) sc_l_taken.nd rfl (Or.inl rfl)) pgs_nil)))) (fun _ _ _ _ _ => pts_nil) (fun _ _ _ _ _ => (pe_tup (pa_cons (pe_op op_mulW (pv 5) (pv 12)) (pa_cons (pv 13) pa_nil)))))
      (pss_one (ps_ret (pe_tup (pa_cons (pv 2) (pa_cons (pv 3) (pa_cons (pe_op op_catA (pe_op op_catA (pe_slice sl_tupA (pv 4) po_none (po_some (pv 1))) (pe_callTy call_tuple_of (by rfl) T.m_tuple (by decide +kernel) (pa_cons (pv 9) pa_nil))) (pe_slice sl_tupA (pv 4) (po_some (pe_op op_add (pv 1) pe_int)) po_none)) pa_nil))))))) pss_nil)
      (Evl.pss_cut (ps_set (i := 3) sc_l_taken.nd rfl (Or.inl rfl) (pe_op op_add (pe_op op_mulW (pv 6) (pv 3)) (pe_ifExp (pt_cmpR op_eq (pv 5) pe_int (nomark _)) (pv 7) (pe_op op_sub (pe_op op_sub (pv 6) pe_int) (pv 7)))))
      (pss_cons (ps_setLc (i := 9) (own := [("own", 12), ("thing", 13)]) (g := (gTup _ 2 (gCons (gName 12) (gCons (gName 13) gNil)))) (tt := tYes) rfl sc_l_taken.nd rfl rfl (sw_true rfl rfl rfl (by decide +kernel)) (pi_tup (pv 8)) (blkOk_by (own := [("own", 12), ("thing", 13)]) (N := ["stage", "at", "size", "offset", "parts", "weight", "inner", "less", "things", "fresh", "ahead", "behind", "own", "thing"]) (sc := defScope s_l_taken) (by decide +kernel)) (fun _ _ _ _ _ => (pg_tup (by rfl) (pgs_cons (pg_name (i := 12) sc_l_taken.nd rfl (Or.inl rfl)) (pgs_cons (pg_name (i := 13) sc_l_taken.nd rfl (Or.inl rfl)) pgs_nil)))) (fun _ _ _ _ _ => pts_nil) (fun _ _ _ _ _ => (pe_tup (pa_cons (pe_op op_mulW (pv 5) (pv 12)) (pa_cons (pv 13) pa_nil)))))
      (pss_cons (ps_setLc (i := 10) (own := [("own", 12), ("thing", 13)]) (g := (gTup _ 2 (gCons (gName 12) (gCons (gName 13) gNil)))) (tt := tYes) rfl sc_l_taken.nd rfl rfl (sw_true rfl rfl rfl (by decide +kernel)) (pi_tup (pe_slice sl_tupA (pv 4) po_none (po_some (pv 1)))) (blkOk_by (own := [("own", 12), ("thing", 13)]) (N := ["stage", "at", "size", "offset", "parts", "weight", "inner", "less", "things", "fresh", "ahead", "behind", "own", "thing"]) (sc := defScope s_l_taken) (by decide +kernel)) (fun _ _ _ _ _ => (pg_tup (by rfl) (pgs_cons (pg_name (i := 12) sc_l_taken.nd rfl (Or.inl rfl)) (pgs_cons (pg_name (i := 13) sc_l_taken.nd rfl (Or.inl rfl)) pgs_nil)))) (fun _ _ _ _ _ => pts_nil) (fun _ _ _ _ _ => (pe_tup (pa_cons (pe_op op_mulW (pv 6) (pv 12)) (pa_cons (pv 13) pa_nil)))))
      (pss_cons (ps_setLc (i := 11) (own := [("own", 12), ("thing", 13)]) (g := (gTup _ 2 (gCons (gName 12) (gCons (gName 13) gNil)))) (tt := tYes) rfl sc_l_taken.nd rfl rfl (sw_true rfl rfl rfl (by decide +kernel)) (pi_tup (pe_slice sl_tupA (pv 4) (po_some (pe_op op_add (pv 1) pe_int)) po_none)) (blkOk_by (own := [("own", 12), ("thing", 13)]) (N := ["stage", "at", "size", "offset", "parts", "weight", "inner", "less", "things", "fresh", "ahead", "behind", "own", "thing"]) (sc := defScope s_l_taken) (by decide +kernel)) (fun _ _ _ _ _ => (pg_tup (by rfl) (pgs_cons (pg_name (i := 12) sc_l_taken.nd rfl (Or.inl rfl)) (pgs_cons (pg_name (i := 13) sc_l_taken.nd rfl (Or.inl rfl)) pgs_nil)))) (fun _ _ _ _ _ => pts_nil) (fun _ _ _ _ _ => (pe_tup (pa_cons (pe_op op_mulW (pv 6) (pv 12)) (pa_cons (pv 13) pa_nil)))))
      (pss_one (ps_ret (pe_tup (pa_cons (pe_op op_mulW (pv 6) (pv 2)) (pa_cons (pv 3) (pa_cons (pe_callTy call_tuple_of (by rfl) T.m_tuple (by decide +kernel) (pa_cons (pe_op op_cat (pe_op op_cat (pv 10) (pv 9)) (pv 11)) pa_nil)) pa_nil))))))))))))), ?_⟩
  obtain ⟨p, b, rfl, h1, h2⟩ := st_get hd
  obtain ⟨b', xs, e, hb, hps⟩ := par_get h2
  obtain rfl : b = b' := by injection e
  have l1 := F1.len
  have l2 := F2.len
  have hlen : xs.length = (pre ++ (w0, Th.st m d qs) :: r).length := by rw [dps_len hps, toDL_len]
  rw [List.length_append, List.length_cons] at l1
  have hl3 : xs.length = pre.length + (r.length + 1) := by rw [hlen, List.length_append, List.length_cons]
  have lpre : pre.length ≤ 300 := by omega
  have lr : r.length ≤ 300 := by omega
  have pl : (pre ++ (w0, Th.st m d qs) :: r)[pre.length]? = some (w0, .st m d qs) := by
    rw [List.getElem?_append_right (Nat.le_refl _), Nat.sub_self]; rfl
  obtain ⟨x, hx⟩ : ∃ x, xs[pre.length]? = some x := ⟨_, List.getElem?_eq_getElem (by rw [hlen, List.length_append, List.length_cons]; omega)⟩
  obtain ⟨w1, t1, q1, v1, hp, rfl, hq, hv⟩ := part_at hps hx
  rw [pl] at hp
  obtain ⟨rfl, rfl⟩ : w0 = w1 ∧ Th.st m d qs = t1 := by
    have := Option.some.inj hp
    exact ⟨congrArg Prod.fst this, congrArg Prod.snd this⟩
  obtain ⟨p2, b2, rfl, k1, k2⟩ := st_get hv
  obtain ⟨b3, ys, e3, hb2, hqs⟩ := par_get k2
  obtain rfl : b2 = b3 := by injection e3
  have hlen2 : ys.length = qs.length := by rw [dps_len hqs, toDL_len]
  have wpre : ∀ p ∈ pre, p.1.natAbs ≤ 2 ^ 4000 := fun p hp => F1.w9 p (List.mem_append_left _ hp)
  have wr : ∀ p ∈ r, p.1.natAbs ≤ 2 ^ 4000 := fun p hp => F1.w9 p (List.mem_append_right _ (List.mem_cons_of_mem _ hp))
  have etk : (pre ++ (w0, Th.st m d qs) :: r).take pre.length = pre := List.take_left' rfl
  have edr : (pre ++ (w0, Th.st m d qs) :: r).drop (pre.length + 1) = r := by
    rw [show pre ++ (w0, Th.st m d qs) :: r = (pre ++ [(w0, Th.st m d qs)]) ++ r by simp]
    exact List.drop_left' (by rw [List.length_append]; rfl)
  walk_at "go"
  refine g_gtup h1 rfl ?_
  walk_at "go"
  refine l_ixT hb (at_of (j := pre.length) rfl hx) ?_
  walk_at "go"
  refine g_gtup hq rfl ?_
  walk_at "go"
  refine g_gtup k1 rfl ?_
  walk_at "go"
  refine l_eq rfl ?_
  walk_at "go"
  refine iteB (fun h3 => ?_) (fun h3 => ?_)
  · have m1 : m = 1 := by simpa using h3
    have dz : d = 0 := by omega
    walk_at "go"
    refine ⟨b2, rfl, ⟨ys, hb2⟩, fun ZA nZA => ?_⟩
    refine lc_tup (xs := ys) (fun i H' => ∃ vs, H' ZA = some (.lst vs) ∧ DpAll K H' vs (toDL (wtd w0 ((qs).take i))) ∧ Same H H') ⟨[], upd_same, .nil, same_new nZA⟩ (fun i H' _ h => same_t h.choose_spec.2.2 hb2) (fun i x H' hx h => ?_) (fun HA h => ?_)
    · obtain ⟨vs, eZ, dv, s⟩ := h
      obtain ⟨w9, t9, q9, v9, hp9, rfl, hq9, hv9⟩ := part_at hqs hx
      have pm := List.mem_of_getElem? hp9
      have il : i < (qs).length := (List.getElem?_eq_some_iff.mp hp9).1
      have vl := dps_len dv
      rw [toDL_len, wtd_len, List.length_take] at vl
      refine g_gtup (same_t s hq9) rfl ?_
      walk_at "go"
      refine ⟨rfl, ?_⟩
      walk_at "go"
      rw [if_pos rfl]
      walk_at "go"
      refine l_I (big_mul (F1.w9 _ (List.mem_of_getElem? pl)) (F2.w9 _ pm) (by decide)) ?_
      walk_at "go"
      refine ⟨sz (by simp), fun p9 np => ?_⟩
      have z := same_new (o := .tup [.int (w0 * w9), v9]) np
      have eZ2 := z _ _ eZ
      have tl := ts_lst (o := .lst (vs ++ [.ref p9])) eZ2
      refine ⟨vs, eZ2, sz1 (small_len vl il l2), _, upd_same, ?_, same_mut (s.trans z) nZA⟩
      rw [take_one hp9]
      unfold wtd
      rw [List.map_append, toDL_app]
      refine dps_app (dps_t tl (toDL_t _) (dps_same z dv)) (dps_t tl (toDL_t _) ?_)
      simp only [List.map_cons, List.map_nil, toDL]
      rw [Int.mul_comm w9 w0]
      exact .cons (.tup (sq_t upd_same) (.cons (.int _) (.cons (dp_same (s.trans z) hv9) .nil))) .nil
    obtain ⟨vsA, eZA, dvA, sA⟩ := h
    rw [show ys.length = (qs).length by rw [dps_len hqs, toDL_len], List.take_length] at dvA
    have lvA : vsA.length = (qs).length := by rw [dps_len dvA, toDL_len, wtd_len]
    walk_at "go"
    refine l_slT (same_t sA hb) fun p3 H3 s3 e3 => ?_
    rw [cut_take] at e3
    walk_at "go"
    refine ⟨ZA, _, rfl, .inl ⟨sq_l (s3 _ _ eZA), fun p4 np4 => ?_⟩⟩
    have z4 := same_new (o := .tup vsA) np4
    have dq4 : DpAll K (upd H3 p4 (.tup vsA)) vsA (toDL (wtd w0 qs)) := dps_same (s3.trans z4) dvA
    have e4 : SqT K (upd H3 p4 (.tup vsA)) p4 vsA := sq_t upd_same
    generalize upd H3 p4 (.tup vsA) = H4 at z4 dq4 e4 ⊢
    walk_at "go"
    refine l_catU (same_t z4 e3) e4 (sz (by rw [List.length_take]; omega)) fun p5 H5 s5 e5 => ?_
    walk_at "go"
    rw [show ((pre.length : Nat) : Int) + 1 = ((pre.length + 1 : Nat) : Int) by omega]
    have s05 := sA.trans (s3.trans (z4.trans s5))
    refine l_slT (same_t s05 hb) fun p6 H6 s6 e6 => ?_
    rw [cut_drop (by rw [hlen, List.length_append, List.length_cons]; omega)] at e6
    walk_at "go"
    refine l_catU (same_t s6 e5) e6 (sz (by rw [List.length_append, List.length_take, List.length_drop]; omega)) fun p7 H7 s7 e7 => ?_
    have s07 := s05.trans (s6.trans s7)
    walk_at "go"
    refine ⟨sz (by simp), fun p8 np8 => ?_⟩
    have z8 := same_new (o := .tup [.int n, .int c, .ref p7]) np8
    walk_at "go"
    refine q p8 _ ?_ (s07.trans z8)
    have em : mAt n c pre w0 (.st m d qs) r = .st n c (pre ++ wtd w0 qs ++ r) := by
      subst m1; subst dz
      simp only [mAt, wtd_one, Int.mul_one, mFig, Int.one_mul]
      congr 1
      split <;> omega
    rw [em]
    refine st_mk (sq_t upd_same) (.tup (same_t z8 e7) ?_)
    rw [toDL_app, toDL_app]
    have dx := dps_same (s07.trans z8) hps
    have dx1 := dps_take pre.length dx
    have dx2 := dps_drop (pre.length + 1) dx
    rw [← toDL_take, etk] at dx1
    rw [← toDL_drop, edr] at dx2
    exact dps_app (dps_app dx1 (dps_same (s5.trans (s6.trans (s7.trans z8))) dq4)) dx2
  · have m1 : ¬ m = 1 := by simpa using h3
    have hw1 : w0.natAbs = 1 := hcan.resolve_left m1
    walk_at "go"
    refine g_cut (fun σ' H' => σ' = [some (.ref p), some (.int ((pre.length : Nat) : Int)), some (.int n), some (.int (mFig w0 m d c)), some (.ref b), some (.int w0), some (.int m), some (.int d), some (.ref b2), none, none, none, none, none] ∧ H' = H) ?_ ?_
    · walk_at "go"
      refine l_I (big_mul F2.n9 F1.c9 (by decide)) ?_
      walk_at "go"
      refine l_eq rfl ?_
      have e1 : decide (V.int w0 = V.int 1) = decide (w0 = 1) := by
        by_cases z : w0 = 1
        · rw [decide_eq_true z, decide_eq_true (by rw [z])]
        · rw [decide_eq_false z, decide_eq_false (fun h => z (by injection h))]
      refine ⟨_, rfl, ?_⟩
      rw [e1]
      by_cases z : w0 = 1
      · rw [decide_eq_true z, if_pos rfl]
        walk_at "go"
        exact ⟨by rw [show mFig w0 m d c = m * c + d by unfold mFig; rw [if_pos (by omega)]; omega]; rfl, rfl⟩
      · rw [decide_eq_false z, if_neg (by decide)]
        walk_at "go"
        exact ⟨by rw [show mFig w0 m d c = m * c + (m - 1 - d) by unfold mFig; rw [if_neg (by omega)]; omega]; rfl, rfl⟩
    rintro σ' H' ⟨rfl, eH⟩
    obtain rfl : H = H' := eH.symm
    walk_at "go"
    refine ⟨b2, rfl, ⟨ys, hb2⟩, fun ZA nZA => ?_⟩
    refine lc_tup (xs := ys) (fun i H' => ∃ vs, H' ZA = some (.lst vs) ∧ DpAll K H' vs (toDL (wtd w0 ((qs).take i))) ∧ Same H H') ⟨[], upd_same, .nil, same_new nZA⟩ (fun i H' _ h => same_t h.choose_spec.2.2 hb2) (fun i x H' hx h => ?_) (fun HA h => ?_)
    · obtain ⟨vs, eZ, dv, s⟩ := h
      obtain ⟨w9, t9, q9, v9, hp9, rfl, hq9, hv9⟩ := part_at hqs hx
      have pm := List.mem_of_getElem? hp9
      have il : i < (qs).length := (List.getElem?_eq_some_iff.mp hp9).1
      have vl := dps_len dv
      rw [toDL_len, wtd_len, List.length_take] at vl
      refine g_gtup (same_t s hq9) rfl ?_
      walk_at "go"
      refine ⟨rfl, ?_⟩
      walk_at "go"
      rw [if_pos rfl]
      walk_at "go"
      refine l_I (big_mul (F1.w9 _ (List.mem_of_getElem? pl)) (F2.w9 _ pm) (by decide)) ?_
      walk_at "go"
      refine ⟨sz (by simp), fun p9 np => ?_⟩
      have z := same_new (o := .tup [.int (w0 * w9), v9]) np
      have eZ2 := z _ _ eZ
      have tl := ts_lst (o := .lst (vs ++ [.ref p9])) eZ2
      refine ⟨vs, eZ2, sz1 (small_len vl il l2), _, upd_same, ?_, same_mut (s.trans z) nZA⟩
      rw [take_one hp9]
      unfold wtd
      rw [List.map_append, toDL_app]
      refine dps_app (dps_t tl (toDL_t _) (dps_same z dv)) (dps_t tl (toDL_t _) ?_)
      simp only [List.map_cons, List.map_nil, toDL]
      rw [Int.mul_comm w9 w0]
      exact .cons (.tup (sq_t upd_same) (.cons (.int _) (.cons (dp_same (s.trans z) hv9) .nil))) .nil
    obtain ⟨vsA, eZA, dvA, sA⟩ := h
    rw [show ys.length = (qs).length by rw [dps_len hqs, toDL_len], List.take_length] at dvA
    have lvA : vsA.length = (qs).length := by rw [dps_len dvA, toDL_len, wtd_len]
    walk_at "go"
    refine l_slT (same_t sA hb) fun p3 H3 s3 e3 => ?_
    rw [cut_take] at e3
    have dpre : DpAll K H3 (xs.take pre.length) (toDL pre) := by
      have z := dps_take pre.length (dps_same (sA.trans s3) hps)
      rw [← toDL_take, etk] at z
      exact z
    have s03 := sA.trans s3
    walk_at "go"
    refine ⟨p3, rfl, ⟨(xs.take pre.length), e3⟩, fun ZB nZB => ?_⟩
    refine lc_tup (xs := (xs.take pre.length)) (fun i H' => ∃ vs, H' ZB = some (.lst vs) ∧ DpAll K H' vs (toDL (wtd m ((pre).take i))) ∧ Same H3 H') ⟨[], upd_same, .nil, same_new nZB⟩ (fun i H' _ h => same_t h.choose_spec.2.2 e3) (fun i x H' hx h => ?_) (fun HB h => ?_)
    · obtain ⟨vs, eZ, dv, s⟩ := h
      obtain ⟨w9, t9, q9, v9, hp9, rfl, hq9, hv9⟩ := part_at dpre hx
      have pm := List.mem_of_getElem? hp9
      have il : i < (pre).length := (List.getElem?_eq_some_iff.mp hp9).1
      have vl := dps_len dv
      rw [toDL_len, wtd_len, List.length_take] at vl
      refine g_gtup (same_t s hq9) rfl ?_
      walk_at "go"
      refine ⟨rfl, ?_⟩
      walk_at "go"
      rw [if_pos rfl]
      walk_at "go"
      refine l_I (big_mul F2.n9 (wpre _ pm) (by decide)) ?_
      walk_at "go"
      refine ⟨sz (by simp), fun p9 np => ?_⟩
      have z := same_new (o := .tup [.int (m * w9), v9]) np
      have eZ2 := z _ _ eZ
      have tl := ts_lst (o := .lst (vs ++ [.ref p9])) eZ2
      refine ⟨vs, eZ2, sz1 (small_len vl il lpre), _, upd_same, ?_, same_mut (s.trans z) nZB⟩
      rw [take_one hp9]
      unfold wtd
      rw [List.map_append, toDL_app]
      refine dps_app (dps_t tl (toDL_t _) (dps_same z dv)) (dps_t tl (toDL_t _) ?_)
      simp only [List.map_cons, List.map_nil, toDL]
      rw [Int.mul_comm w9 m]
      exact .cons (.tup (sq_t upd_same) (.cons (.int _) (.cons (dp_same (s.trans z) hv9) .nil))) .nil
    obtain ⟨vsB, eZB, dvB, sB⟩ := h
    rw [show (xs.take pre.length).length = (pre).length by rw [dps_len dpre, toDL_len], List.take_length] at dvB
    have lvB : vsB.length = (pre).length := by rw [dps_len dvB, toDL_len, wtd_len]
    walk_at "go"
    have s0B := s03.trans sB
    rw [show ((pre.length : Nat) : Int) + 1 = ((pre.length + 1 : Nat) : Int) by omega]
    refine l_slT (same_t s0B hb) fun p6 H6 s6 e6 => ?_
    rw [cut_drop (by rw [hlen, List.length_append, List.length_cons]; omega)] at e6
    have s06 := s0B.trans s6
    have dr6 : DpAll K H6 (xs.drop (pre.length + 1)) (toDL r) := by
      have z := dps_drop (pre.length + 1) (dps_same s06 hps)
      rw [← toDL_drop, edr] at z
      exact z
    walk_at "go"
    refine ⟨p6, rfl, ⟨(xs.drop (pre.length + 1)), e6⟩, fun ZC nZC => ?_⟩
    refine lc_tup (xs := (xs.drop (pre.length + 1))) (fun i H' => ∃ vs, H' ZC = some (.lst vs) ∧ DpAll K H' vs (toDL (wtd m ((r).take i))) ∧ Same H6 H') ⟨[], upd_same, .nil, same_new nZC⟩ (fun i H' _ h => same_t h.choose_spec.2.2 e6) (fun i x H' hx h => ?_) (fun HC h => ?_)
    · obtain ⟨vs, eZ, dv, s⟩ := h
      obtain ⟨w9, t9, q9, v9, hp9, rfl, hq9, hv9⟩ := part_at dr6 hx
      have pm := List.mem_of_getElem? hp9
      have il : i < (r).length := (List.getElem?_eq_some_iff.mp hp9).1
      have vl := dps_len dv
      rw [toDL_len, wtd_len, List.length_take] at vl
      refine g_gtup (same_t s hq9) rfl ?_
      walk_at "go"
      refine ⟨rfl, ?_⟩
      walk_at "go"
      rw [if_pos rfl]
      walk_at "go"
      refine l_I (big_mul F2.n9 (wr _ pm) (by decide)) ?_
      walk_at "go"
      refine ⟨sz (by simp), fun p9 np => ?_⟩
      have z := same_new (o := .tup [.int (m * w9), v9]) np
      have eZ2 := z _ _ eZ
      have tl := ts_lst (o := .lst (vs ++ [.ref p9])) eZ2
      refine ⟨vs, eZ2, sz1 (small_len vl il lr), _, upd_same, ?_, same_mut (s.trans z) nZC⟩
      rw [take_one hp9]
      unfold wtd
      rw [List.map_append, toDL_app]
      refine dps_app (dps_t tl (toDL_t _) (dps_same z dv)) (dps_t tl (toDL_t _) ?_)
      simp only [List.map_cons, List.map_nil, toDL]
      rw [Int.mul_comm w9 m]
      exact .cons (.tup (sq_t upd_same) (.cons (.int _) (.cons (dp_same (s.trans z) hv9) .nil))) .nil
    obtain ⟨vsC, eZC, dvC, sC⟩ := h
    rw [show (xs.drop (pre.length + 1)).length = (r).length by rw [dps_len dr6, toDL_len], List.take_length] at dvC
    have lvC : vsC.length = (r).length := by rw [dps_len dvC, toDL_len, wtd_len]
    walk_at "go"
    refine l_I (big_mul F2.n9 F1.n9 (by decide)) ?_
    walk_at "go"
    have eZB6 := (s6.trans sC) _ _ eZB
    have eZA6 := (s3.trans (sB.trans (s6.trans sC))) _ _ eZA
    refine ⟨ZB, ZA, _, _, rfl, rfl, eZB6, eZA6, sz (by rw [lvA, lvB]; omega), fun L1 nL1 => ?_⟩
    have z1 := same_new (o := .lst (vsB ++ vsA)) nL1
    have eL1 : (upd HC L1 (.lst (vsB ++ vsA))) L1 = some (.lst (vsB ++ vsA)) := upd_same
    have dA1 := dps_same (s3.trans (sB.trans (s6.trans (sC.trans z1)))) dvA
    have dB1 := dps_same (s6.trans (sC.trans z1)) dvB
    have dC1 := dps_same z1 dvC
    have eZC1 := z1 _ _ eZC
    generalize upd HC L1 (.lst (vsB ++ vsA)) = HD at z1 eL1 dA1 dB1 dC1 eZC1 ⊢
    walk_at "go"
    refine ⟨L1, ZC, _, _, rfl, rfl, eL1, eZC1, sz (by rw [List.length_append, lvA, lvB, lvC]; omega), fun L2 nL2 => ?_⟩
    have z2 := same_new (o := .lst (vsB ++ vsA ++ vsC)) nL2
    walk_at "go"
    refine ⟨L2, _, rfl, .inl ⟨sq_l upd_same, fun p7 np7 => ?_⟩⟩
    have z3 := same_new (o := .tup (vsB ++ vsA ++ vsC)) np7
    have z23 := z2.trans z3
    have e7 : SqT K (upd (upd HD L2 (.lst (vsB ++ vsA ++ vsC))) p7 (.tup (vsB ++ vsA ++ vsC))) p7 (vsB ++ vsA ++ vsC) := sq_t upd_same
    generalize upd (upd HD L2 (.lst (vsB ++ vsA ++ vsC))) p7 (.tup (vsB ++ vsA ++ vsC)) = HE at z23 e7 ⊢
    walk_at "go"
    refine ⟨sz (by simp), fun p8 np8 => ?_⟩
    have z8 := same_new (o := .tup [.int (m * n), .int (mFig w0 m d c), .ref p7]) np8
    walk_at "go"
    refine q p8 _ ?_ (s06.trans (sC.trans (z1.trans (z23.trans z8))))
    show Dp K _ (.ref p8) (Th.st (n * m) (mFig w0 m d c) (wtd m pre ++ wtd w0 qs ++ wtd m r)).toD
    rw [Int.mul_comm n m]
    refine st_mk (sq_t upd_same) (.tup (same_t z8 e7) ?_)
    rw [toDL_app, toDL_app]
    have z28 := z23.trans z8
    exact dps_app (dps_app (dps_same z28 dB1) (dps_same z28 dA1)) (dps_same z28 dC1)

end
end SC.S
namespace SC.S
open PySem PySem.Spec PyProof.Rows L2 StrLaws
local macro_rules | `(tactic| walk_at "go") => `(tactic| ((try dsimp only [cxOf, Cx.nox, Cx.wish]); repeat (first
  | (with_reducible refine g_seq ?_)
  | (with_reducible refine g_asg ?_)
  | (with_reducible refine g_asg2 ?_)
  | (with_reducible refine g_ret ?_)
  | (with_reducible refine g_drop ?_)
  | (with_reducible refine g_next ?_)
  | (with_reducible refine g_ifs ?_)
  | (with_reducible refine g_par ?_)
  | (with_reducible refine g_par3 ?_)
  | ((with_reducible refine' g_var ?hv ?_); (case hv => exact rfl))
  | (with_reducible refine g_c ?_)
  | ((with_reducible refine' g_aug ?hv ?_); (case hv => exact rfl))
  | (with_reducible refine l_ip ?_)
  | (with_reducible refine g_op ?_)
  | (with_reducible refine g_un ?_)
  | (with_reducible refine g_cons ?_)
  | (with_reducible refine g_nil ?_)
  | (with_reducible refine g_cb ?_)
  | (with_reducible refine g_call ?_)
  | (with_reducible refine g_callK ?_)
  | (with_reducible refine g_test ?_)
  | (with_reducible refine g_b ?_)
  | (with_reducible refine g_not ?_)
  | (with_reducible refine g_chain ?_)
  | (with_reducible refine g_notV ?_)
  | (with_reducible refine g_and ?_)
  | (with_reducible refine g_or ?_)
  | (with_reducible refine g_ifx ?_)
  | (with_reducible refine g_isN ?_)
  | (with_reducible refine g_notN ?_)
  | (with_reducible refine g_andV ?_)
  | (with_reducible refine g_orV ?_)
  | (with_reducible refine g_bm ?_)
  | (with_reducible refine g_bm0 ?_)
  | (with_reducible refine g_sl ?_)
  | (with_reducible refine g_part ?_)
  | (with_reducible refine g_nopart ?_)
  | (with_reducible refine g_dget ?_)
  | (with_reducible refine g_dput ?_)
  | (with_reducible refine g_tup ?_)
  | (with_reducible refine g_lst ?_)
  | (with_reducible refine g_yes ?_)
  | (with_reducible refine g_name ?_)
  | (with_reducible refine g_gsub ?_)
  | (with_reducible refine g_iList ?_)
  | (with_reducible refine g_iTup ?_)
  | (with_reducible refine g_for ?_)
  | (with_reducible refine g_lc ?_)
  | (with_reducible refine g_rng1 ?_)
  | (with_reducible refine g_rng2 ?_)
  | (with_reducible refine g_rng3 ?_)
  | (with_reducible refine g_iZip ?_)
  | (with_reducible refine g_allT ?_)
  | (with_reducible refine g_iZipA ?_)
  | (with_reducible refine g_iZip3 ?_)
  | (with_reducible refine g_iZipM ?_)
  | (with_reducible refine g_iZipN ?_)
  | (with_reducible refine g_din ?_)
  | (with_reducible refine g_dc2 ?_)
  | (with_reducible refine g_iItems ?_)
  | (with_reducible refine g_minAbs ?_)
  | (with_reducible refine g_dnotin ?_)
  | (with_reducible refine g_iRev ?_)
  | (with_reducible refine g_dcT ?_)
  | (with_reducible refine g_dc ?_)
  | (with_reducible refine g_iEnumT ?_)
  | (with_reducible refine g_iEnum ?_)
  | (with_reducible refine g_lstRg ?_)
  | (with_reducible refine g_lz ?_)
  | (with_reducible refine g_tz ?_)
  | (with_reducible refine g_rg1 ?_)
  | (with_reducible refine g_gcons ?_)
  | (with_reducible refine g_gnil ?_)
  | (with_reducible refine l_bl ?_)
  | (with_reducible refine l_int ?_)
  | (with_reducible refine l_two ?_)
  | (with_reducible refine l_three ?_)
  | (with_reducible refine l_I0 ?_)
  | (with_reducible refine l_U ?_)
  | dsimp only)))
section
variable {P : Program} {w : World} {K : PySem.W.Frag} {mg : Str → Option Value} {base : Heap}
/-! ### _law_taken_at -/
def spTkAt (K : PySem.W.Frag) (n : Nat) : Sp := fun vs H Q _ => ∃ (v : V) (wa : Addr) (t u : Th) (ks : List Nat) (A : Nat), vs = [v, .ref wa] ∧ Dp K H v t.toD ∧ SqT K H wa (wayV ks) ∧ Tk t ks u ∧ Bd A t ∧ A ≤ 2 ^ 4000 ∧ t.nIn ≤ 30 ∧ ks.length ≤ n ∧
  ∀ (p : Addr) (H' : Hp), Dp K H' (.ref p) u.toD → Same H H' → Q (.ref p) H'
theorem takat_step (T : Tx K mg) {n : Nat} {spI : Sp} (hn60 : n ≤ 60) (ih : FnOk P w K mg base CX0 (n + 1) T.f_l_taken_at T.fd_l_taken_at ["stage", "way"] spI) (hi : ∀ m, n = m + 1 → ∀ vs H Q E, spTkAt K m vs H Q E → spI vs H Q E) :
    FnOk P w K mg base CX0 (n + 2) T.f_l_taken_at T.fd_l_taken_at ["stage", "way"] (spTkAt K n) := by
  refine T.F_l_taken_at.ok (k := n + 1) sc_l_taken_at (fun vs H Q E h => ?_) (fun cdv A outer s H vs Q E hr h => ?_)
  · obtain ⟨_, _, _, _, _, _, rfl, _⟩ := h
    rfl
  obtain ⟨v, wa, t, u, ks, A0, rfl, hd, hw, tk, B, hA, hin, hks, q⟩ := h
  refine ⟨_, (pss_cons (ps_if (pt_cmpR op_eq (pe_callB call_len_seq (by rfl) T.m_len PySem.boot_len (pa_cons (pv 1) pa_nil)) pe_int (nomark _)) (pss_one (ps_ret (pe_call (ok_l_taken T) (hr.mono (by first | decide | omega)) (by rfl) T.g_l_taken T.F_l_taken.kp T.b_l_taken .nil pass0 (pa_cons (pv 0) (pa_cons (pe_ix ix_tup (pv 1) pe_int (fun _ _ => rfl)) pa_nil))))) pss_nil)
      (pss_cons (ps_asg (pe_ix ix_tup (pe_ix ix_tup (pv 0) pe_int (fun _ _ => rfl)) (pe_ix ix_tup (pv 1) pe_int (fun _ _ => rfl)) (fun _ _ => rfl)) (pg_tup (by rfl) (pgs_cons (pg_name (i := 2) sc_l_taken_at.nd rfl (Or.inl rfl)) (pgs_cons (pg_name (i := 3) sc_l_taken_at.nd rfl (Or.inl rfl)) pgs_nil))))
      (pss_cons (ps_set (i := 4) sc_l_taken_at.nd rfl (Or.inl rfl) (pe_tup (pa_cons (pv 2) (pa_cons (pe_call ih (hr.mono (by omega)) (by rfl) T.g_l_taken_at T.F_l_taken_at.kp T.b_l_taken_at .nil pass0 (pa_cons (pv 3) (pa_cons (pe_slice sl_tupA (pv 1) (po_some pe_int) po_none) pa_nil))) pa_nil))))
      (pss_one (ps_ret (pe_tup (pa_cons (pe_ix ix_tup (pv 0) pe_int (fun _ _ => rfl)) (pa_cons (pe_ix ix_tup (pv 0) pe_int (fun _ _ => rfl)) (pa_cons (pe_op op_catA (pe_op op_catA (pe_slice sl_tupA (pe_ix ix_tup (pv 0) pe_int (fun _ _ => rfl)) po_none (po_some (pe_ix ix_tup (pv 1) pe_int (fun _ _ => rfl)))) (pe_tup (pa_cons (pv 4) pa_nil))) (pe_slice sl_tupA (pe_ix ix_tup (pv 0) pe_int (fun _ _ => rfl)) (po_some (pe_op op_add (pe_ix ix_tup (pv 1) pe_int (fun _ _ => rfl)) pe_int)) po_none)) pa_nil))))))))), ?_⟩
  have full_len : ∀ {n c : Int} {ps : List (Int × Th)}, (Th.st n c ps).full = true → (Th.st n c ps).nIn ≤ 30 → ps.length ≤ 30 := fun {n c ps} f g => by
    simp only [Th.full, Bool.and_eq_true] at f
    simp only [Th.nIn] at g
    have := len_le_nIn f.2
    omega
  have in_part : ∀ {ps : List (Int × Th)} {p : Int × Th}, p ∈ ps → p.2.nIn ≤ nInL ps := fun {ps p} hp => by
    rw [nInL_eq ps]
    exact mem_le_sum (List.mem_map.mpr ⟨p, hp, rfl⟩)
  cases tk with
  | @here n0 c pre w0 m d qs r hcan =>
    have hp : (w0, Th.st m d qs) ∈ pre ++ (w0, Th.st m d qs) :: r := List.mem_append_right _ (List.mem_cons_self ..)
    obtain ⟨B0, bw, bn⟩ := B.part hp
    have l1 := full_len B.full hin
    have i2 := in_part hp
    simp only [Th.nIn] at hin i2
    have l2 := full_len B0.full (show (Th.st m d qs).nIn ≤ 30 by simp only [Th.nIn]; omega)
    obtain ⟨g1, g2, g3, g4⟩ := B0.n
    walk_at "go"
    refine ⟨_, _, rfl, .inr hw, ?_⟩
    walk_at "go"
    refine l_eq rfl ?_
    walk_at "go"
    rw [decide_eq_true (show V.int ((wayV [pre.length]).length : Nat) = V.int 1 from rfl), if_pos rfl]
    walk_at "go"
    refine l_ixT hw (at_of (j := 0) rfl (show (wayV [pre.length])[0]? = some (.int (pre.length : Nat)) from rfl)) ?_
    walk_at "go"
    exact ⟨v, n0, c, pre, w0, m, d, qs, r, rfl, hd, bd_fits hA B (by omega), bd_fits hA B0 (by omega), hcan, g3, g4, q⟩
  | @down n0 c pre w0 t0 u0 vk r hv tk0 =>
    have hp : (w0, t0) ∈ pre ++ (w0, t0) :: r := List.mem_append_right _ (List.mem_cons_self ..)
    obtain ⟨B0, bw, bn⟩ := B.part hp
    have l1 := full_len B.full hin
    have i2 := in_part hp
    simp only [Th.nIn] at hin
    simp only at i2 B0
    rw [List.length_append, List.length_cons] at l1
    rw [List.length_cons] at hks
    have hv1 : 1 ≤ vk.length := by
      cases vk with
      | nil => exact absurd rfl hv
      | cons a b => rw [List.length_cons]; omega
    obtain ⟨p, b, rfl, h1, h2⟩ := st_get hd
    obtain ⟨b', xs, e, hb, hps⟩ := par_get h2
    obtain rfl : b = b' := by injection e
    have hlen : xs.length = pre.length + (r.length + 1) := by rw [dps_len hps, toDL_len, List.length_append, List.length_cons]
    have pl : (pre ++ (w0, t0) :: r)[pre.length]? = some (w0, t0) := by
      rw [List.getElem?_append_right (Nat.le_refl _), Nat.sub_self]; rfl
    obtain ⟨x, hx⟩ : ∃ x, xs[pre.length]? = some x := ⟨_, List.getElem?_eq_getElem (by omega)⟩
    obtain ⟨w1, t1, q1, v1, hp1, rfl, hq, hv2⟩ := part_at hps hx
    rw [pl] at hp1
    obtain ⟨rfl, rfl⟩ : w0 = w1 ∧ t0 = t1 := by
      have := Option.some.inj hp1
      exact ⟨congrArg Prod.fst this, congrArg Prod.snd this⟩
    walk_at "go"
    refine ⟨_, _, rfl, .inr hw, ?_⟩
    walk_at "go"
    refine l_eq rfl ?_
    walk_at "go"
    rw [decide_eq_false (show ¬ V.int ((wayV (pre.length :: vk)).length : Nat) = V.int 1 by
      intro h
      injection h with h
      unfold wayV at h
      rw [List.length_map, List.length_cons] at h
      omega), if_neg (by decide)]
    walk_at "go"
    refine l_ixT h1 rfl ?_
    walk_at "go"
    have w0e : (wayV (pre.length :: vk))[0]? = some (.int (pre.length : Nat)) := rfl
    refine l_ixT hw (at_of (j := 0) rfl w0e) ?_
    refine l_ixT hb (at_of (j := pre.length) rfl hx) ?_
    walk_at "go"
    refine g_gtup hq rfl ?_
    walk_at "go"
    refine l_slT hw fun p3 H3 s3 e3 => ?_
    have e3 : SqT K H3 p3 (wayV vk) := by
      rw [show (1 : Int) = ((1 : Nat) : Int) from rfl, cut_drop (by unfold wayV; simp)] at e3
      exact e3
    walk_at "go"
    obtain ⟨k, rfl⟩ : ∃ k, n = k + 1 := ⟨n - 1, by omega⟩
    refine hi k rfl _ _ _ _ ⟨v1, p3, t0, u0, vk, A0, rfl, dp_same s3 hv2, e3, tk0, B0, hA, by omega, by omega, fun p4 H4 e4 s4 => ?_⟩
    walk_at "go"
    have s04 := s3.trans s4
    refine ⟨sz (by simp), fun p5 np5 => ?_⟩
    have z5 := same_new (o := .tup [.int w0, .ref p4]) np5
    have s05 := s04.trans z5
    have d5 : Dp K (upd H4 p5 (.tup [.int w0, .ref p4])) (.ref p5) (.tuple [.int w0, u0.toD]) := .tup (sq_t upd_same) (.cons (.int _) (.cons (dp_same z5 e4) .nil))
    generalize upd H4 p5 (.tup [.int w0, .ref p4]) = H5 at z5 s05 d5 ⊢
    walk_at "go"
    refine l_ixT (same_t s05 h1) rfl ?_
    walk_at "go"
    refine l_ixT (same_t s05 h1) rfl ?_
    walk_at "go"
    refine l_ixT (same_t s05 h1) rfl ?_
    walk_at "go"
    refine l_ixT (same_t s05 hw) (at_of (j := 0) rfl w0e) ?_
    walk_at "go"
    have etk : (pre ++ (w0, t0) :: r).take pre.length = pre := List.take_left' rfl
    have edr : (pre ++ (w0, t0) :: r).drop (pre.length + 1) = r := by
      rw [show pre ++ (w0, t0) :: r = (pre ++ [(w0, t0)]) ++ r by simp]
      exact List.drop_left' (by rw [List.length_append]; rfl)
    refine l_slT (same_t s05 hb) fun p6 H6 s6 e6 => ?_
    rw [cut_take] at e6
    walk_at "go"
    refine ⟨sz (by simp), fun p7 np7 => ?_⟩
    have z7 := same_new (o := .tup [.ref p5]) np7
    have e7 : SqT K (upd H6 p7 (.tup [.ref p5])) p7 [.ref p5] := sq_t upd_same
    generalize upd H6 p7 (.tup [.ref p5]) = H7 at z7 e7 ⊢
    walk_at "go"
    refine l_catU (same_t z7 e6) e7 (sz (by rw [List.length_take]; simp; omega)) fun p8 H8 s8 e8 => ?_
    have s08 := s05.trans (s6.trans (z7.trans s8))
    walk_at "go"
    refine l_ixT (same_t s08 h1) rfl ?_
    walk_at "go"
    refine l_ixT (same_t s08 hw) (at_of (j := 0) rfl w0e) ?_
    walk_at "go"
    rw [show ((pre.length : Nat) : Int) + 1 = ((pre.length + 1 : Nat) : Int) by omega]
    refine l_slT (same_t s08 hb) fun p9 H9 s9 e9 => ?_
    rw [cut_drop (by omega)] at e9
    walk_at "go"
    refine l_catU (same_t s9 e8) e9 (sz (by rw [List.length_append, List.length_take, List.length_drop]; simp; omega)) fun pa Ha sa ea => ?_
    have s0a := s08.trans (s9.trans sa)
    walk_at "go"
    refine ⟨sz (by simp), fun pb npb => ?_⟩
    have zb := same_new (o := .tup [.int n0, .int c, .ref pa]) npb
    walk_at "go"
    refine q pb _ (st_mk (sq_t upd_same) (.tup (same_t zb ea) ?_)) (s0a.trans zb)
    have dx := dps_same (s0a.trans zb) hps
    have dx1 := dps_take pre.length dx
    have dx2 := dps_drop (pre.length + 1) dx
    rw [← toDL_take, etk] at dx1
    rw [← toDL_drop, edr] at dx2
    rw [show pre ++ (w0, u0) :: r = pre ++ [(w0, u0)] ++ r by simp, toDL_app, toDL_app]
    refine dps_app (dps_app dx1 ?_) dx2
    simp only [toDL]
    exact .cons (dp_same (s6.trans (z7.trans (s8.trans (s9.trans (sa.trans zb))))) d5) .nil
theorem ok_l_taken_at (T : Tx K mg) : ∀ n : Nat, n ≤ 60 → FnOk P w K mg base CX0 (n + 2) T.f_l_taken_at T.fd_l_taken_at ["stage", "way"] (spTkAt K n)
  | 0, h => takat_step T h fn_none fun m e => by cases e
  | n + 1, h => takat_step T h (ok_l_taken_at T n (by omega)) fun m e => by cases e; exact fun _ _ _ _ h => h

end
end SC.S
namespace SC.S
open PySem PySem.Spec PyProof.Rows L2 StrLaws
local macro_rules | `(tactic| walk_at "go") => `(tactic| ((try dsimp only [cxOf, Cx.nox, Cx.wish]); repeat (first
  | (with_reducible refine g_seq ?_)
  | (with_reducible refine g_asg ?_)
  | (with_reducible refine g_asg2 ?_)
  | (with_reducible refine g_ret ?_)
  | (with_reducible refine g_drop ?_)
  | (with_reducible refine g_next ?_)
  | (with_reducible refine g_ifs ?_)
  | (with_reducible refine g_par ?_)
  | (with_reducible refine g_par3 ?_)
  | ((with_reducible refine' g_var ?hv ?_); (case hv => exact rfl))
  | (with_reducible refine g_c ?_)
  | ((with_reducible refine' g_aug ?hv ?_); (case hv => exact rfl))
  | (with_reducible refine l_ip ?_)
  | (with_reducible refine g_op ?_)
  | (with_reducible refine g_un ?_)
  | (with_reducible refine g_cons ?_)
  | (with_reducible refine g_nil ?_)
  | (with_reducible refine g_cb ?_)
  | (with_reducible refine g_call ?_)
  | (with_reducible refine g_callK ?_)
  | (with_reducible refine g_test ?_)
  | (with_reducible refine g_b ?_)
  | (with_reducible refine g_not ?_)
  | (with_reducible refine g_chain ?_)
  | (with_reducible refine g_notV ?_)
  | (with_reducible refine g_and ?_)
  | (with_reducible refine g_or ?_)
  | (with_reducible refine g_ifx ?_)
  | (with_reducible refine g_isN ?_)
  | (with_reducible refine g_notN ?_)
  | (with_reducible refine g_andV ?_)
  | (with_reducible refine g_orV ?_)
  | (with_reducible refine g_bm ?_)
  | (with_reducible refine g_bm0 ?_)
  | (with_reducible refine g_sl ?_)
  | (with_reducible refine g_part ?_)
  | (with_reducible refine g_nopart ?_)
  | (with_reducible refine g_dget ?_)
  | (with_reducible refine g_dput ?_)
  | (with_reducible refine g_tup ?_)
  | (with_reducible refine g_lst ?_)
  | (with_reducible refine g_yes ?_)
  | (with_reducible refine g_name ?_)
  | (with_reducible refine g_gsub ?_)
  | (with_reducible refine g_iList ?_)
  | (with_reducible refine g_iTup ?_)
  | (with_reducible refine g_for ?_)
  | (with_reducible refine g_lc ?_)
  | (with_reducible refine g_rng1 ?_)
  | (with_reducible refine g_rng2 ?_)
  | (with_reducible refine g_rng3 ?_)
  | (with_reducible refine g_iZip ?_)
  | (with_reducible refine g_allT ?_)
  | (with_reducible refine g_iZipA ?_)
  | (with_reducible refine g_iZip3 ?_)
  | (with_reducible refine g_iZipM ?_)
  | (with_reducible refine g_iZipN ?_)
  | (with_reducible refine g_din ?_)
  | (with_reducible refine g_dc2 ?_)
  | (with_reducible refine g_iItems ?_)
  | (with_reducible refine g_minAbs ?_)
  | (with_reducible refine g_dnotin ?_)
  | (with_reducible refine g_iRev ?_)
  | (with_reducible refine g_dcT ?_)
  | (with_reducible refine g_dc ?_)
  | (with_reducible refine g_iEnumT ?_)
  | (with_reducible refine g_iEnum ?_)
  | (with_reducible refine g_lstRg ?_)
  | (with_reducible refine g_lz ?_)
  | (with_reducible refine g_tz ?_)
  | (with_reducible refine g_rg1 ?_)
  | (with_reducible refine g_gcons ?_)
  | (with_reducible refine g_gnil ?_)
  | (with_reducible refine l_bl ?_)
  | (with_reducible refine l_int ?_)
  | (with_reducible refine l_two ?_)
  | (with_reducible refine l_three ?_)
  | (with_reducible refine l_I0 ?_)
  | (with_reducible refine l_U ?_)
  | dsimp only)))
section
variable {P : Program} {w : World} {K : PySem.W.Frag} {mg : Str → Option Value} {base : Heap}
/-! ### _law_all_taken -/
theorem mmN_more : ∀ (k : Nat) (t : Th), mmN (k + 1) t = match (mmN k t).m1 with | none => mmN k t | some u => u
  | 0, t => by
    first
      | (simp only [mmN]; done)
      | (simp only [mmN]; cases t.m1 <;> rfl)
  | k + 1, t => by
    cases e : t.m1 with
    | none => exact (mmN_none e (k + 1 + 1)).trans (by simp only [mmN_none e (k + 1), e])
    | some u =>
      have := mmN_more k u
      simp only [mmN, e] at this ⊢
      exact this
theorem pln_mm {A : Nat} {t : Th} (h : Pln A t) (k : Nat) : Pln A (mmN k t) := mg_ind (P := Pln A) (fun _ _ s h => h.step s) k t h
def spAllTk (K : PySem.W.Frag) : Sp := fun vs H Q _ => ∃ (v : V) (t : Th) (A : Nat), vs = [v] ∧ Dp K H v t.toD ∧ Pln A t ∧ ∀ (v' : V) (H' : Hp), Dp K H' v' t.mg.toD → Same H H' → Q v' H'
theorem ok_l_all_taken (T : Tx K mg) : FnOk P w K mg base CX0 43 T.f_l_all_taken T.fd_l_all_taken ["plan"] (spAllTk K) := by
  refine T.F_l_all_taken.ok sc_l_all_taken (fun vs H Q E h => ?_) (fun cdv A outer s H vs Q E hr h => ?_)
  · obtain ⟨_, _, _, rfl, _⟩ := h
    rfl
  obtain ⟨v, t, A0, rfl, hd, pl, q⟩ := h
  refine ⟨_, (pss_cons (ps_for PassesOwn.never rfl (pi_range1 rfl T.m_range (pa_cons pe_int pa_nil)) (pg_name (i := 1) sc_l_all_taken.nd rfl (Or.inl rfl)) (pss_cons (ps_set (i := 2) sc_l_all_taken.nd rfl (Or.inl rfl) (pe_call (ok_l_first T 40 (by decide)) (hr.mono (by first | decide | omega)) (by rfl) T.g_l_first T.F_l_first.kp T.b_l_first .nil pass0 (pa_cons (pv 0) pa_nil)))
      (pss_one (ps_set (i := 0) sc_l_all_taken.nd rfl (Or.inl rfl) (pe_ifExp (pt_cmp (pc_isN (pv 2))) (pv 0) (pe_call (ok_l_taken_at T 40 (by decide)) (hr.mono (by first | decide | omega)) (by rfl) T.g_l_taken_at T.F_l_taken_at.kp T.b_l_taken_at .nil pass0 (pa_cons (pv 0) (pa_cons (pv 2) pa_nil))))))))
      (pss_one (ps_ret (pv 0)))), ?_⟩
  walk_at "go"
  refine ⟨12, rfl, by decide, by decide, ?_⟩
  refine for_R (lo := 0) (n := 12) (fun i σ H' => ∃ (v' : V) (y1 y2 : Option V), σ = [some v', y1, y2] ∧ Dp K H' v' (mmN i t).toD ∧ Same H H') ⟨v, none, none, rfl, hd, Same.refl _⟩ (fun i σ H2 hi h => ?_) (fun σ H2 h => ?_)
  · obtain ⟨v', y1, y2, rfl, d2, s2⟩ := h
    have pi := pln_mm pl i
    have mi := mmN_more i t
    have fw := fw_m1 (mmN i t)
    generalize mmN i t = u at d2 pi mi fw
    walk_at "go"
    refine ⟨v', u, rfl, d2, pi.st, by have := pi.dep; omega, fun hn H3 s3 => ?_, fun ks hk hl p H3 hp s3 => ?_⟩
    · walk_at "go"
      first | rw [if_pos (by decide)] | rw [if_pos rfl] | skip
      walk_at "go"
      rw [fw.1 hn] at mi
      exact ⟨v', _, _, rfl, by rw [mi]; exact dp_same s3 d2, s2.trans s3⟩
    · walk_at "go"
      first | rw [if_neg (by decide)] | rw [if_neg (by simp)] | skip
      walk_at "go"
      obtain ⟨u1, h1, h2⟩ := fw.2 ks hk
      refine ⟨v', p, u, u1, ks, A0, rfl, dp_same s3 d2, hp, h2, pi.bd, pi.big, pi.inp, hl, fun p4 H4 d4 s4 => ?_⟩
      walk_at "go"
      rw [h1] at mi
      exact ⟨_, _, _, rfl, by rw [mi]; exact d4, s2.trans (s3.trans s4)⟩
  · obtain ⟨v', y1, y2, rfl, d2, s2⟩ := h
    rw [(mmN_end 12 t pl.many).2] at d2
    walk_at "go"
    exact q v' H2 d2 s2

end
end SC.S
namespace SC.S
open PySem PySem.Spec PyProof.Rows L2 StrLaws
local macro_rules | `(tactic| walk_at "go") => `(tactic| ((try dsimp only [cxOf, Cx.nox, Cx.wish]); repeat (first
  | (with_reducible refine g_seq ?_)
  | (with_reducible refine g_asg ?_)
  | (with_reducible refine g_asg2 ?_)
  | (with_reducible refine g_ret ?_)
  | (with_reducible refine g_drop ?_)
  | (with_reducible refine g_next ?_)
  | (with_reducible refine g_ifs ?_)
  | (with_reducible refine g_par ?_)
  | (with_reducible refine g_par3 ?_)
  | ((with_reducible refine' g_var ?hv ?_); (case hv => exact rfl))
  | (with_reducible refine g_c ?_)
  | ((with_reducible refine' g_aug ?hv ?_); (case hv => exact rfl))
  | (with_reducible refine l_ip ?_)
  | (with_reducible refine g_op ?_)
  | (with_reducible refine g_un ?_)
  | (with_reducible refine g_cons ?_)
  | (with_reducible refine g_nil ?_)
  | (with_reducible refine g_cb ?_)
  | (with_reducible refine g_call ?_)
  | (with_reducible refine g_callK ?_)
  | (with_reducible refine g_test ?_)
  | (with_reducible refine g_b ?_)
  | (with_reducible refine g_not ?_)
  | (with_reducible refine g_chain ?_)
  | (with_reducible refine g_notV ?_)
  | (with_reducible refine g_and ?_)
  | (with_reducible refine g_or ?_)
  | (with_reducible refine g_ifx ?_)
  | (with_reducible refine g_isN ?_)
  | (with_reducible refine g_notN ?_)
  | (with_reducible refine g_andV ?_)
  | (with_reducible refine g_orV ?_)
  | (with_reducible refine g_bm ?_)
  | (with_reducible refine g_bm0 ?_)
  | (with_reducible refine g_sl ?_)
  | (with_reducible refine g_part ?_)
  | (with_reducible refine g_nopart ?_)
  | (with_reducible refine g_dget ?_)
  | (with_reducible refine g_dput ?_)
  | (with_reducible refine g_tup ?_)
  | (with_reducible refine g_lst ?_)
  | (with_reducible refine g_yes ?_)
  | (with_reducible refine g_name ?_)
  | (with_reducible refine g_gsub ?_)
  | (with_reducible refine g_iList ?_)
  | (with_reducible refine g_iTup ?_)
  | (with_reducible refine g_for ?_)
  | (with_reducible refine g_lc ?_)
  | (with_reducible refine g_rng1 ?_)
  | (with_reducible refine g_rng2 ?_)
  | (with_reducible refine g_rng3 ?_)
  | (with_reducible refine g_iZip ?_)
  | (with_reducible refine g_allT ?_)
  | (with_reducible refine g_iZipA ?_)
  | (with_reducible refine g_iZip3 ?_)
  | (with_reducible refine g_iZipM ?_)
  | (with_reducible refine g_iZipN ?_)
  | (with_reducible refine g_din ?_)
  | (with_reducible refine g_dc2 ?_)
  | (with_reducible refine g_iItems ?_)
  | (with_reducible refine g_minAbs ?_)
  | (with_reducible refine g_dnotin ?_)
  | (with_reducible refine g_iRev ?_)
  | (with_reducible refine g_dcT ?_)
  | (with_reducible refine g_dc ?_)
  | (with_reducible refine g_iEnumT ?_)
  | (with_reducible refine g_iEnum ?_)
  | (with_reducible refine g_lstRg ?_)
  | (with_reducible refine g_lz ?_)
  | (with_reducible refine g_tz ?_)
  | (with_reducible refine g_rg1 ?_)
  | (with_reducible refine g_gcons ?_)
  | (with_reducible refine g_gnil ?_)
  | (with_reducible refine l_bl ?_)
  | (with_reducible refine l_int ?_)
  | (with_reducible refine l_two ?_)
  | (with_reducible refine l_three ?_)
  | (with_reducible refine l_I0 ?_)
  | (with_reducible refine l_U ?_)
  | dsimp only)))
section
variable {P : Program} {w : World} {K : PySem.W.Frag} {mg : Str → Option Value} {base : Heap}
/-! ### _law_top -/
theorem max3_int (x y z : Int) : nuMax3 (.int x) (.int y) (.int z) = some (.int (max (max x y) z)) := by
  have h2 : ∀ a b : Int, nuMax2 (.int a) (.int b) = some (.int (max a b)) := fun a b => by
    unfold nuMax2 nuLt
    show (some (decide (a < b))).map _ = _
    simp only [Option.map_some]
    by_cases h : a < b
    · rw [if_pos (decide_eq_true h), Int.max_eq_right (by omega)]
    · rw [if_neg (by simpa using h), Int.max_eq_left (by omega)]
  unfold nuMax3
  rw [h2, Option.bind_some, h2]
mutual
def topT : Th → Int
  | .inp _ => 1
  | .st n _ ps => topL n ps
def topL (f : Int) : List (Int × Th) → Int
  | [] => f
  | (w, t) :: r => topL (max (max f (w.natAbs : Int)) (topT t)) r
end
theorem topL_app : ∀ (a b : List (Int × Th)) (f : Int), topL f (a ++ b) = topL (topL f a) b
  | [], b, f => by simp only [List.nil_append, topL]
  | (w, t) :: a, b, f => by simp only [List.cons_append, topL, topL_app a b]
theorem topL_gt (M : Int) : ∀ (ps : List (Int × Th)) (f : Int), M < topL f ps ↔ M < f ∨ ∃ p ∈ ps, M < (p.1.natAbs : Int) ∨ M < topT p.2
  | [], f => by simp [topL]
  | (w, t) :: r, f => by
    simp only [topL, topL_gt M r, List.mem_cons, exists_eq_or_imp]
    rw [show (M < max (max f (w.natAbs : Int)) (topT t)) ↔ (M < f ∨ M < (w.natAbs : Int) ∨ M < topT t) by omega]
    simp only [or_assoc]
theorem top_gt : ∀ t : Th, 10 ^ 30 < (topT t) ↔ ¬ (t.each fun n _ ps => n ≤ 10 ^ 30 ∧ ∀ p ∈ ps, p.1.natAbs ≤ 10 ^ 30) := by
  refine Th.ind (fun i => by simp only [topT, Th.each]; simp) fun n c ps ih => ?_
  simp only [topT, Th.each, topL_gt, eachL_iff]
  constructor
  · rintro (h | ⟨p, hp, h | h⟩) ⟨⟨g1, g2⟩, g3⟩
    · omega
    · have := g2 p hp; omega
    · exact (ih p hp).mp h (g3 p hp)
  · intro h
    by_cases h1 : 10 ^ 30 < n
    · exact .inl h1
    · right
      by_cases h2 : ∀ p ∈ ps, p.1.natAbs ≤ 10 ^ 30
      · by_cases h3 : ∀ p ∈ ps, p.2.each fun n _ ps => n ≤ 10 ^ 30 ∧ ∀ p ∈ ps, p.1.natAbs ≤ 10 ^ 30
        · exact absurd ⟨⟨by omega, h2⟩, h3⟩ h
        · obtain ⟨p, hp⟩ := Classical.not_forall.mp h3
          obtain ⟨hp, h4⟩ := Classical.not_imp.mp hp
          exact ⟨p, hp, .inr ((ih p hp).mpr h4)⟩
      · obtain ⟨p, hp⟩ := Classical.not_forall.mp h2
        obtain ⟨hp, h4⟩ := Classical.not_imp.mp hp
        exact ⟨p, hp, .inl (by omega)⟩
theorem top_within (t : Th) : decide (10 ^ 30 < (topT t)) = !withinT t := by
  by_cases h : 10 ^ 30 < (topT t)
  · rw [decide_eq_true h]
    cases e : withinT t with
    | false => rfl
    | true => exact absurd ((within_iff t).mp e) ((top_gt t).mp h)
  · rw [decide_eq_false h]
    cases e : withinT t with
    | true => rfl
    | false =>
      exfalso
      refine h ((top_gt t).mpr fun g => ?_)
      rw [(within_iff t).mpr g] at e
      cases e
def spTop (K : PySem.W.Frag) (n : Nat) : Sp := fun vs H Q _ => ∃ (v : V) (t : Th), vs = [v] ∧ Dp K H v t.toD ∧ (∃ n c ps, t = .st n c ps) ∧ t.dep ≤ n ∧ ∀ H', Same H H' → Q (.int (topT t)) H'
theorem top_step (T : Tx K mg) {n : Nat} {spI : Sp} (hn60 : n ≤ 60) (ih : FnOk P w K mg base CX0 (n + 1) T.f_l_top T.fd_l_top ["stage"] spI) (hi : ∀ m, n = m + 1 → ∀ vs H Q E, spTop K m vs H Q E → spI vs H Q E) :
    FnOk P w K mg base CX0 (n + 2) T.f_l_top T.fd_l_top ["stage"] (spTop K n) := by
  refine T.F_l_top.ok (k := n + 1) sc_l_top (fun vs H Q E h => ?_) (fun cdv A outer s H vs Q E hr h => ?_)
  · obtain ⟨_, _, rfl, _⟩ := h
    rfl
  obtain ⟨v, t, rfl, hd, ⟨c, d, ps, rfl⟩, hdep, q⟩ := h
  refine ⟨_, (pss_cons (ps_set (i := 1) sc_l_top.nd rfl (Or.inl rfl) (pe_ix ix_tup (pv 0) pe_int (fun _ _ => rfl)))
      (pss_cons (ps_for PassesOwn.never rfl (pi_tup (pe_ix ix_tup (pv 0) pe_int (fun _ _ => rfl))) (pg_tup (by rfl) (pgs_cons (pg_name (i := 2) sc_l_top.nd rfl (Or.inl rfl)) (pgs_cons (pg_name (i := 3) sc_l_top.nd rfl (Or.inl rfl)) pgs_nil))) (pss_one (ps_set (i := 1) sc_l_top.nd rfl (Or.inl rfl) (pe_callB (call_max3Nu rfl) (by rfl) T.m_max (by decide +kernel) (pa_cons (pv 1) (pa_cons (pe_callB call_abs (by rfl) T.m_abs (by decide +kernel) (pa_cons (pv 2) pa_nil)) (pa_cons (pe_ifExp (pt_val (pe_callB call_isi (by rfl) T.m_isinstance (by decide +kernel) (pa_cons (pv 3) (pa_cons (pe_bltn (by rfl) T.m_tuple (by decide +kernel) (show RelV (.ty "tuple") _ from rfl)) pa_nil)))) (pe_call ih (hr.mono (by omega)) (by rfl) T.g_l_top T.F_l_top.kp T.b_l_top .nil pass0 (pa_cons (pv 3) pa_nil)) pe_int) pa_nil)))))))
      (pss_one (ps_ret (pv 1))))), ?_⟩
  obtain ⟨p, b, rfl, h1, h2⟩ := st_get hd
  obtain ⟨b', xs, e, hb, hps⟩ := par_get h2
  obtain rfl : b = b' := by injection e
  have hlen : xs.length = ps.length := by rw [dps_len hps, toDL_len]
  simp only [Th.dep] at hdep
  walk_at "go"
  refine l_ixT h1 rfl ?_
  walk_at "go"
  refine l_ixT h1 rfl ?_
  refine ⟨b, rfl, ⟨xs, hb⟩, ?_⟩
  refine for_T (xs := xs) (fun i σ H' => ∃ y2 y3, σ = [some (.ref p), some (.int (topL c (ps.take i))), y2, y3] ∧ Same H H')
    ⟨none, none, rfl, Same.refl _⟩ (fun i σ H' _ h => ?_) (fun i x σ H' hx h => ?_) (fun σ H' h => ?_)
  · obtain ⟨_, _, _, s⟩ := h
    exact same_t s hb
  · obtain ⟨y2, y3, rfl, s⟩ := h
    obtain ⟨w0, t0, q0, v0, hp, rfl, hq, hv⟩ := part_at hps hx
    have pm := List.mem_of_getElem? hp
    have pd := depL_le.mp (show depL ps ≤ n - 1 by omega) _ pm
    simp only at pd
    refine g_gtup (same_t s hq) rfl ?_
    walk_at "go"
    refine ⟨_, rfl, ?_⟩
    walk_at "go"
    rw [abs_ite]
    have hv2 := dp_same s hv
    have tk := take_one hp
    have nx : ∀ (k : Int) (H3 : Hp), k = topT t0 → Same H H3 → ∃ y2 y3 : Option V, [some (.ref p), some (.int (max (max (topL c (ps.take i)) (w0.natAbs : Int)) k)), some (.int w0), some v0] = [some (.ref p), some (.int (topL c (ps.take (i + 1)))), y2, y3] ∧ Same H H3 := fun k H3 e s3 => by
      refine ⟨some (.int w0), some v0, ?_, s3⟩
      rw [tk, topL_app, e]
      rfl
    cases t0 with
    | inp i0 =>
      simp only [Th.toD] at hv2
      obtain rfl := dp_int hv2
      refine isi_it ?_
      walk_at "go"
      rw [if_neg (by decide)]
      walk_at "go"
      refine ⟨_, _, _, _, rfl, max3_int _ _ _, ?_⟩
      exact nx 1 _ rfl s
    | st m d' qs =>
      obtain ⟨p2, b2, rfl, k1, k2⟩ := st_get hv2
      refine isi_tt k1 ?_
      walk_at "go"
      rw [if_pos rfl]
      walk_at "go"
      obtain ⟨k, rfl⟩ : ∃ k, n = k + 1 := ⟨n - 1, by simp only [Th.dep] at pd; omega⟩
      refine hi k rfl _ _ _ _ ⟨.ref p2, .st m d' qs, rfl, hv2, ⟨m, d', qs, rfl⟩, by omega, fun H3 s4 => ?_⟩
      walk_at "go"
      refine ⟨_, _, _, _, rfl, max3_int _ _ _, ?_⟩
      exact nx _ H3 rfl (s.trans s4)
  · obtain ⟨_, _, rfl, s⟩ := h
    rw [hlen, List.take_length]
    walk_at "go"
    exact q H' s
theorem ok_l_top (T : Tx K mg) : ∀ n : Nat, n ≤ 60 → FnOk P w K mg base CX0 (n + 2) T.f_l_top T.fd_l_top ["stage"] (spTop K n)
  | 0, h => top_step T h fn_none fun m e => by cases e
  | n + 1, h => top_step T h (ok_l_top T n (by omega)) fun m e => by cases e; exact fun _ _ _ _ h => h

end
end SC.S
namespace SC.S
open PySem PySem.Spec PyProof.Rows L2 StrLaws
local macro_rules | `(tactic| walk_at "go") => `(tactic| ((try dsimp only [cxOf, Cx.nox, Cx.wish]); repeat (first
  | (with_reducible refine g_seq ?_)
  | (with_reducible refine g_asg ?_)
  | (with_reducible refine g_asg2 ?_)
  | (with_reducible refine g_ret ?_)
  | (with_reducible refine g_drop ?_)
  | (with_reducible refine g_next ?_)
  | (with_reducible refine g_ifs ?_)
  | (with_reducible refine g_par ?_)
  | (with_reducible refine g_par3 ?_)
  | ((with_reducible refine' g_var ?hv ?_); (case hv => exact rfl))
  | (with_reducible refine g_c ?_)
  | ((with_reducible refine' g_aug ?hv ?_); (case hv => exact rfl))
  | (with_reducible refine l_ip ?_)
  | (with_reducible refine g_op ?_)
  | (with_reducible refine g_un ?_)
  | (with_reducible refine g_cons ?_)
  | (with_reducible refine g_nil ?_)
  | (with_reducible refine g_cb ?_)
  | (with_reducible refine g_call ?_)
  | (with_reducible refine g_callK ?_)
  | (with_reducible refine g_test ?_)
  | (with_reducible refine g_b ?_)
  | (with_reducible refine g_not ?_)
  | (with_reducible refine g_chain ?_)
  | (with_reducible refine g_notV ?_)
  | (with_reducible refine g_and ?_)
  | (with_reducible refine g_or ?_)
  | (with_reducible refine g_ifx ?_)
  | (with_reducible refine g_isN ?_)
  | (with_reducible refine g_notN ?_)
  | (with_reducible refine g_andV ?_)
  | (with_reducible refine g_orV ?_)
  | (with_reducible refine g_bm ?_)
  | (with_reducible refine g_bm0 ?_)
  | (with_reducible refine g_sl ?_)
  | (with_reducible refine g_part ?_)
  | (with_reducible refine g_nopart ?_)
  | (with_reducible refine g_dget ?_)
  | (with_reducible refine g_dput ?_)
  | (with_reducible refine g_tup ?_)
  | (with_reducible refine g_lst ?_)
  | (with_reducible refine g_yes ?_)
  | (with_reducible refine g_name ?_)
  | (with_reducible refine g_gsub ?_)
  | (with_reducible refine g_iList ?_)
  | (with_reducible refine g_iTup ?_)
  | (with_reducible refine g_for ?_)
  | (with_reducible refine g_lc ?_)
  | (with_reducible refine g_rng1 ?_)
  | (with_reducible refine g_rng2 ?_)
  | (with_reducible refine g_rng3 ?_)
  | (with_reducible refine g_iZip ?_)
  | (with_reducible refine g_allT ?_)
  | (with_reducible refine g_iZipA ?_)
  | (with_reducible refine g_iZip3 ?_)
  | (with_reducible refine g_iZipM ?_)
  | (with_reducible refine g_iZipN ?_)
  | (with_reducible refine g_din ?_)
  | (with_reducible refine g_dc2 ?_)
  | (with_reducible refine g_iItems ?_)
  | (with_reducible refine g_minAbs ?_)
  | (with_reducible refine g_dnotin ?_)
  | (with_reducible refine g_iRev ?_)
  | (with_reducible refine g_dcT ?_)
  | (with_reducible refine g_dc ?_)
  | (with_reducible refine g_iEnumT ?_)
  | (with_reducible refine g_iEnum ?_)
  | (with_reducible refine g_lstRg ?_)
  | (with_reducible refine g_lz ?_)
  | (with_reducible refine g_tz ?_)
  | (with_reducible refine g_rg1 ?_)
  | (with_reducible refine g_gcons ?_)
  | (with_reducible refine g_gnil ?_)
  | (with_reducible refine l_bl ?_)
  | (with_reducible refine l_int ?_)
  | (with_reducible refine l_two ?_)
  | (with_reducible refine l_three ?_)
  | (with_reducible refine l_I0 ?_)
  | (with_reducible refine l_U ?_)
  | dsimp only)))
section
variable {P : Program} {w : World} {K : PySem.W.Frag} {mg : Str → Option Value} {base : Heap}
/-! ### _law_heard, TooMany heard -/
def manyV : List V := [.str "many", .int (10 ^ 30), .bl true]
def spHeard (K : PySem.W.Frag) : Sp := fun vs H Q _ => ∃ (v : V) (t : Th) (A : Nat) (b : Bool), vs = [v, .bl b] ∧ Dp K H v t.toD ∧ Pln A t ∧
  (withinT t.mg = true → ∀ (l p : Addr) (H' : Hp), H' l = some (.lst [.str "told", .ref p]) → Dp K H' (.ref p) t.mg.toD → Same H H' → Q (.ref l) H') ∧
  (withinT t.mg = false → ∀ (l : Addr) (H' : Hp), H' l = some (.lst manyV) → Same H H' → Q (.ref l) H')
theorem ok_l_heard (T : Tx K mg) (pf : TmX.PF P T.fl) : FnOk P w K mg base CX0 45 T.f_l_heard T.fd_l_heard ["plan", "is_named"] (spHeard K) := by
  refine T.F_l_heard.ok sc_l_heard (fun vs H Q E h => ?_) (fun cdv A outer s H vs Q E hr h => ?_)
  · obtain ⟨_, _, _, _, rfl, _⟩ := h
    rfl
  obtain ⟨v, t, A0, b, rfl, hd, pl, q, qe⟩ := h
  refine ⟨_, (pss_one (ps_try_as (i := 2) rfl rfl sc_l_heard.nd rfl rfl ⟨rfl, by decide, .inl T.tm.gC⟩ takes0 (fun W pn xe tk _ => (pss_one (ps_ret (pe_lst (pa_cons pe_str (pa_cons (pe_ifExp (pt_val (pv 1)) (pe_kwS (ok_merged T pf) (hr.mono (by first | decide | omega)) (by rfl) T.g_merged T.F_merged.kp T.k_merged_plan (fun σ => passAt tk σ) (pk_cons (pv 0) pk_nil)) (pe_callS (ok_merged T pf) (hr.mono (by first | decide | omega)) (by rfl) T.g_merged T.F_merged.kp T.b_merged (fun σ => passAt tk σ) (pa_cons (pv 0) pa_nil))) pa_nil)))))) (fun a oe cls d pn hz hf => (pss_one (ps_ret (pe_lst (pa_cons pe_str (pa_cons (pe_lim T.tm hz hf (pv 2)) (pa_cons (pe_callB (call_isD T.tm.ec hz hf) (by rfl) T.m_isinstance (by decide +kernel) (pa_cons (pv 2) (pa_cons (pe_glob (by rfl) T.tm.gB (show RelV (.ref T.B_tm) _ from rfl)) pa_nil))) pa_nil))))))))), ?_⟩
  walk_at "go"
  cases b with
  | true =>
    first | rw [if_pos rfl] | skip
    walk_at "go"
    refine g_callKS ?_
    walk_at "go"
    refine ⟨v, t, A0, rfl, hd, pl, fun hw p H1 d1 s1 => ?_, fun hw d H1 e1 s1 => ?_⟩
    · walk_at "go"
      refine ⟨sz (by simp), fun l nl => ?_⟩
      have z := same_new (o := .lst [.str "told", .ref p]) nl
      walk_at "go"
      exact q hw l p _ upd_same (dp_same z d1) (s1.trans z)
    · refine ⟨true, T.tm.te, fun _ a0 _ => ?_, fun q => Bool.noConfusion q⟩
      walk_at "go"
      unfold tLim
      walk_at "go"
      refine ⟨rfl, rfl, d, _, rfl, e1, ?_⟩
      walk_at "go"
      refine rIsD_it T.tm.kit e1 ?_
      walk_at "go"
      refine ⟨sz (by simp), fun l nl => ?_⟩
      have z := same_new (o := .lst manyV) nl
      walk_at "go"
      exact qe hw l _ upd_same (s1.trans z)
  | false =>
    first | rw [if_neg (by decide)] | skip
    walk_at "go"
    refine g_callS ?_
    walk_at "go"
    refine ⟨v, t, A0, rfl, hd, pl, fun hw p H1 d1 s1 => ?_, fun hw d H1 e1 s1 => ?_⟩
    · walk_at "go"
      refine ⟨sz (by simp), fun l nl => ?_⟩
      have z := same_new (o := .lst [.str "told", .ref p]) nl
      walk_at "go"
      exact q hw l p _ upd_same (dp_same z d1) (s1.trans z)
    · refine ⟨true, T.tm.te, fun _ a0 _ => ?_, fun q => Bool.noConfusion q⟩
      walk_at "go"
      unfold tLim
      walk_at "go"
      refine ⟨rfl, rfl, d, _, rfl, e1, ?_⟩
      walk_at "go"
      refine rIsD_it T.tm.kit e1 ?_
      walk_at "go"
      refine ⟨sz (by simp), fun l nl => ?_⟩
      have z := same_new (o := .lst manyV) nl
      walk_at "go"
      exact qe hw l _ upd_same (s1.trans z)

end
end SC.S
namespace SC.S
open PySem PySem.Spec PyProof.Rows L2 StrLaws
local macro_rules | `(tactic| walk_at "go") => `(tactic| ((try dsimp only [cxOf, Cx.nox, Cx.wish]); repeat (first
  | (with_reducible refine g_seq ?_)
  | (with_reducible refine g_asg ?_)
  | (with_reducible refine g_asg2 ?_)
  | (with_reducible refine g_ret ?_)
  | (with_reducible refine g_drop ?_)
  | (with_reducible refine g_next ?_)
  | (with_reducible refine g_ifs ?_)
  | (with_reducible refine g_par ?_)
  | (with_reducible refine g_par3 ?_)
  | ((with_reducible refine' g_var ?hv ?_); (case hv => exact rfl))
  | (with_reducible refine g_c ?_)
  | ((with_reducible refine' g_aug ?hv ?_); (case hv => exact rfl))
  | (with_reducible refine l_ip ?_)
  | (with_reducible refine g_op ?_)
  | (with_reducible refine g_un ?_)
  | (with_reducible refine g_cons ?_)
  | (with_reducible refine g_nil ?_)
  | (with_reducible refine g_cb ?_)
  | (with_reducible refine g_call ?_)
  | (with_reducible refine g_callK ?_)
  | (with_reducible refine g_test ?_)
  | (with_reducible refine g_b ?_)
  | (with_reducible refine g_not ?_)
  | (with_reducible refine g_chain ?_)
  | (with_reducible refine g_notV ?_)
  | (with_reducible refine g_and ?_)
  | (with_reducible refine g_or ?_)
  | (with_reducible refine g_ifx ?_)
  | (with_reducible refine g_isN ?_)
  | (with_reducible refine g_notN ?_)
  | (with_reducible refine g_andV ?_)
  | (with_reducible refine g_orV ?_)
  | (with_reducible refine g_bm ?_)
  | (with_reducible refine g_bm0 ?_)
  | (with_reducible refine g_sl ?_)
  | (with_reducible refine g_part ?_)
  | (with_reducible refine g_nopart ?_)
  | (with_reducible refine g_dget ?_)
  | (with_reducible refine g_dput ?_)
  | (with_reducible refine g_tup ?_)
  | (with_reducible refine g_lst ?_)
  | (with_reducible refine g_yes ?_)
  | (with_reducible refine g_name ?_)
  | (with_reducible refine g_gsub ?_)
  | (with_reducible refine g_iList ?_)
  | (with_reducible refine g_iTup ?_)
  | (with_reducible refine g_for ?_)
  | (with_reducible refine g_lc ?_)
  | (with_reducible refine g_rng1 ?_)
  | (with_reducible refine g_rng2 ?_)
  | (with_reducible refine g_rng3 ?_)
  | (with_reducible refine g_iZip ?_)
  | (with_reducible refine g_allT ?_)
  | (with_reducible refine g_iZipA ?_)
  | (with_reducible refine g_iZip3 ?_)
  | (with_reducible refine g_iZipM ?_)
  | (with_reducible refine g_iZipN ?_)
  | (with_reducible refine g_din ?_)
  | (with_reducible refine g_dc2 ?_)
  | (with_reducible refine g_iItems ?_)
  | (with_reducible refine g_minAbs ?_)
  | (with_reducible refine g_dnotin ?_)
  | (with_reducible refine g_iRev ?_)
  | (with_reducible refine g_dcT ?_)
  | (with_reducible refine g_dc ?_)
  | (with_reducible refine g_iEnumT ?_)
  | (with_reducible refine g_iEnum ?_)
  | (with_reducible refine g_lstRg ?_)
  | (with_reducible refine g_lz ?_)
  | (with_reducible refine g_tz ?_)
  | (with_reducible refine g_rg1 ?_)
  | (with_reducible refine g_gcons ?_)
  | (with_reducible refine g_gnil ?_)
  | (with_reducible refine l_bl ?_)
  | (with_reducible refine l_int ?_)
  | (with_reducible refine l_two ?_)
  | (with_reducible refine l_three ?_)
  | (with_reducible refine l_I0 ?_)
  | (with_reducible refine l_U ?_)
  | dsimp only)))
section
variable {P : Program} {w : World} {K : PySem.W.Frag} {mg : Str → Option Value} {base : Heap}
/-! ### data that show; lists of sizes -/
theorem okX_bd {A : Nat} (hA : A ≤ 2 ^ 3900) : ∀ t : Th, Bd A t → (∀ i ∈ t.ins, i.natAbs ≤ 1000) → okX t.toD = true := by
  have e3 : (2 : Nat) ^ 3900 < 10 ^ 1200 := by decide +kernel
  have up : ∀ {k : Nat}, k ≤ A → k < 10 ^ 1200 := fun h => Nat.lt_of_le_of_lt (Nat.le_trans h hA) e3
  have key : ∀ ps : List (Int × Th), (∀ p ∈ ps, p.1.natAbs ≤ A ∧ okX p.2.toD = true) → okXAll (toDL ps) = true := fun ps => by
    induction ps with
    | nil => intro _; simp only [toDL, okXAll]
    | cons p r ih =>
      intro h
      obtain ⟨w, t⟩ := p
      obtain ⟨h1, h2⟩ := h (w, t) (List.mem_cons_self ..)
      simp only [toDL, okX, okXAll, Bool.and_true, Bool.and_eq_true, decide_eq_true_eq]
      exact ⟨⟨up h1, h2⟩, ih fun q hq => h q (List.mem_cons_of_mem _ hq)⟩
  refine Th.ind (fun i _ h => ?_) fun n c ps ih B h => ?_
  · simp only [Th.toD, okX, decide_eq_true_eq]
    have := h i (by simp only [Th.ins]; exact List.mem_singleton.mpr rfl)
    exact Nat.lt_of_le_of_lt this (by decide +kernel)
  · obtain ⟨g1, g2, g3, g4⟩ := B.n
    simp only [Th.ins] at h
    simp only [Th.toD, okX, okXAll, Bool.and_true, Bool.and_eq_true, decide_eq_true_eq]
    refine ⟨up g2, up (show c.natAbs ≤ A by omega), key ps fun p hp => ⟨(B.part hp).2.1, ih p hp (B.part hp).1 fun i hi => h i ?_⟩⟩
    rw [insL_eq ps]
    exact List.mem_flatten.mpr ⟨_, List.mem_map.mpr ⟨p, hp, rfl⟩, hi⟩
/-- a plan that shows -/
structure Shw (t : Th) : Prop where
  pln : Pln (2 ^ 1300) t
  ins : ∀ i ∈ t.ins, i.natAbs ≤ 1000
theorem Shw.ok {t : Th} (h : Shw t) : okX t.toD = true := okX_bd (by exact Nat.pow_le_pow_right (by decide) (by decide)) t h.pln.bd h.ins
theorem Shw.shows {t : Th} (h : Shw t) : ShowsX t.toD := by
  have h1 := nd_toD t
  have h2 := toD_depth t
  have := h.pln.many
  have := h.pln.inp
  have := h.pln.dep
  exact ⟨h.ok, by omega, by omega⟩
theorem Shw.two {t : Th} (h : Shw t) (x : Str) (hx : (reprText x).length ≤ 100) (hl : x.cps.size ≤ 100) : ShowsX (.list [.str x, t.toD]) := by
  have h1 := nd_toD t
  have h2 := toD_depth t
  have := h.pln.many
  have := h.pln.inp
  have := h.pln.dep
  refine ⟨?_, ?_, ?_⟩
  · simp only [okX, okXAll, h.ok, Bool.and_true, decide_eq_true_eq]; exact hx
  · simp only [nd, ndAll]; omega
  · simp only [PyData.depth, PyData.depthAll]; omega
theorem Shw.mrg {t : Th} (h : Shw t) : Shw t.mg := ⟨h.pln.mg, by
  have : t.mg.ins = t.ins := mg_ind (P := fun x => x.ins = t.ins) (fun a b s e => by rw [step_ins s]; exact e) _ t rfl
  rw [this]; exact h.ins⟩
theorem fit_each : ∀ u : Th, u.fit → u.each fun n _ _ => n.natAbs ≤ 10 ^ 30 := Th.ind (fun i _ => by simp only [Th.each]) fun n c ps ih h => by
  simp only [Th.fit] at h
  simp only [Th.each]
  exact ⟨by omega, eachL_iff.mpr fun p hp => ih p hp ((fitL_iff.mp h.2.2.2.2) p hp).2⟩
theorem shw_of {u : Th} (ip : IsPlan u) {ss : List Int} {p1 p2 : Prop} (g : u.each (SGrow ss p1 p2)) : Shw u := by
  have lo := good_low u ip.good
  have fu := fit_good u ip.good
  have hp : u.pr.natAbs ≤ (10 ^ 30) ^ 12 := Nat.le_trans (pr_upto (by decide) u (fit_each u fu)) (Nat.pow_le_pow_right (by decide) ip.many)
  have hq : u.pot ≤ 7 ^ 8 * (10 ^ 30) ^ 12 := Nat.le_trans (pot_upto (by decide) u lo (each_mono (fun n c ps h => h.w7) u g)) (Nat.mul_le_mul (Nat.pow_le_pow_right (by decide) ip.deep) hp)
  have e1 : (10 ^ 30) ^ 12 ≤ 2 ^ 1300 := by decide +kernel
  have e2 : 7 ^ 8 * (10 ^ 30) ^ 12 ≤ 2 ^ 1300 := by decide +kernel
  exact ⟨⟨ip.st, ⟨lo, ip.full, Nat.le_trans hp e1, Nat.le_trans hq e2⟩, Nat.pow_le_pow_right (by decide) (by decide), ip.deep, ip.many, Nat.le_trans ip.inp (by decide)⟩, fun i hi => by have := ip.ins24 i hi; omega⟩
structure Szl (δ : Dk) (H : Hp) (x : V) (la : Addr) (ss : List Int) : Prop where
  e : x = .ref la
  l : H la = some (.lst (ss.map V.int))
  out : la ∉ δ.l
  ne : ss ≠ []
  few : ss.length ≤ 100
  ok : ∀ s ∈ ss, 1 ≤ s ∧ s ≤ 10 ^ 30
def Sl (δ : Dk) (H : Hp) (x : V) : Prop := ∃ la ss, Szl δ H x la ss
theorem Sl.mono {δ : Dk} {H H' : Hp} {x : V} (h : Sl δ H x) (s : Same H H') : Sl δ H' x := by
  obtain ⟨la, ss, h⟩ := h
  exact ⟨la, ss, h.e, s _ _ h.l, h.out, h.ne, h.few, h.ok⟩
theorem Sl.hid {δ : Dk} {H H' : Hp} {x : V} (h : Sl δ H x) (s : Same (hid δ.l H) (hid δ.l H')) : Sl δ H' x := by
  obtain ⟨la, ss, h⟩ := h
  exact ⟨la, ss, h.e, lst_hid h.out s h.l, h.out, h.ne, h.few, h.ok⟩
theorem Sl.new {δ : Dk} {H : Hp} {b : Addr} {ss : List Int} (D : Bag H δ) (n : H b = none) (h1 : ss ≠ []) (h2 : ss.length ≤ 100) (h3 : ∀ s ∈ ss, 1 ≤ s ∧ s ≤ 10 ^ 30) : Sl δ (upd H b (.lst (ss.map V.int))) (.ref b) :=
  ⟨b, ss, rfl, upd_same, bag_out D n, h1, h2, h3⟩

end
end SC.S
namespace SC.S
open PySem PySem.Spec PyProof.Rows L2 StrLaws
local macro_rules | `(tactic| walk_at "go") => `(tactic| ((try dsimp only [cxOf, Cx.nox, Cx.wish]); repeat (first
  | (with_reducible refine g_seq ?_)
  | (with_reducible refine g_asg ?_)
  | (with_reducible refine g_asg2 ?_)
  | (with_reducible refine g_ret ?_)
  | (with_reducible refine g_drop ?_)
  | (with_reducible refine g_next ?_)
  | (with_reducible refine g_ifs ?_)
  | (with_reducible refine g_par ?_)
  | (with_reducible refine g_par3 ?_)
  | ((with_reducible refine' g_var ?hv ?_); (case hv => exact rfl))
  | (with_reducible refine g_c ?_)
  | ((with_reducible refine' g_aug ?hv ?_); (case hv => exact rfl))
  | (with_reducible refine l_ip ?_)
  | (with_reducible refine g_op ?_)
  | (with_reducible refine g_un ?_)
  | (with_reducible refine g_cons ?_)
  | (with_reducible refine g_nil ?_)
  | (with_reducible refine g_cb ?_)
  | (with_reducible refine g_call ?_)
  | (with_reducible refine g_callK ?_)
  | (with_reducible refine g_test ?_)
  | (with_reducible refine g_b ?_)
  | (with_reducible refine g_not ?_)
  | (with_reducible refine g_chain ?_)
  | (with_reducible refine g_notV ?_)
  | (with_reducible refine g_and ?_)
  | (with_reducible refine g_or ?_)
  | (with_reducible refine g_ifx ?_)
  | (with_reducible refine g_isN ?_)
  | (with_reducible refine g_notN ?_)
  | (with_reducible refine g_andV ?_)
  | (with_reducible refine g_orV ?_)
  | (with_reducible refine g_bm ?_)
  | (with_reducible refine g_bm0 ?_)
  | (with_reducible refine g_sl ?_)
  | (with_reducible refine g_part ?_)
  | (with_reducible refine g_nopart ?_)
  | (with_reducible refine g_dget ?_)
  | (with_reducible refine g_dput ?_)
  | (with_reducible refine g_tup ?_)
  | (with_reducible refine g_lst ?_)
  | (with_reducible refine g_yes ?_)
  | (with_reducible refine g_name ?_)
  | (with_reducible refine g_gsub ?_)
  | (with_reducible refine g_iList ?_)
  | (with_reducible refine g_iTup ?_)
  | (with_reducible refine g_for ?_)
  | (with_reducible refine g_lc ?_)
  | (with_reducible refine g_rng1 ?_)
  | (with_reducible refine g_rng2 ?_)
  | (with_reducible refine g_rng3 ?_)
  | (with_reducible refine g_iZip ?_)
  | (with_reducible refine g_allT ?_)
  | (with_reducible refine g_iZipA ?_)
  | (with_reducible refine g_iZip3 ?_)
  | (with_reducible refine g_iZipM ?_)
  | (with_reducible refine g_iZipN ?_)
  | (with_reducible refine g_din ?_)
  | (with_reducible refine g_dc2 ?_)
  | (with_reducible refine g_iItems ?_)
  | (with_reducible refine g_minAbs ?_)
  | (with_reducible refine g_dnotin ?_)
  | (with_reducible refine g_iRev ?_)
  | (with_reducible refine g_dcT ?_)
  | (with_reducible refine g_dc ?_)
  | (with_reducible refine g_iEnumT ?_)
  | (with_reducible refine g_iEnum ?_)
  | (with_reducible refine g_lstRg ?_)
  | (with_reducible refine g_lz ?_)
  | (with_reducible refine g_tz ?_)
  | (with_reducible refine g_rg1 ?_)
  | (with_reducible refine g_gcons ?_)
  | (with_reducible refine g_gnil ?_)
  | (with_reducible refine l_bl ?_)
  | (with_reducible refine l_int ?_)
  | (with_reducible refine l_two ?_)
  | (with_reducible refine l_three ?_)
  | (with_reducible refine l_I0 ?_)
  | (with_reducible refine l_U ?_)
  | dsimp only)))
section
variable {P : Program} {w : World} {K : PySem.W.Frag} {mg : Str → Option Value} {base : Heap}
/-! ### _law_is_told (k34) -/
def manyD : PyData := .list [.str "many", .int (10 ^ 30), .bool true]
theorem many_dp {H : Hp} {l : Addr} (h : H l = some (.lst manyV)) : Dp K H (.ref l) manyD := .lst (sq_l h) (.cons (.str _) (.cons (.int _) (.cons (.bl _) .nil)))
theorem many_shows : ShowsX manyD := by
  refine ⟨?_, ?_, ?_⟩
  · decide +kernel
  · decide +kernel
  · decide +kernel
def dueD (t : Th) : PyData := if withinT t.mg = true then .list [.str "told", t.mg.toD] else manyD
theorem due_shows {t : Th} (h : Shw t) : ShowsX (dueD t) := by
  unfold dueD
  split
  · exact h.mrg.two _ (by decide +kernel) (by decide +kernel)
  · exact many_shows
def spIsTold (K : PySem.W.Frag) : Sp := fun vs H Q _ => ∃ (v : Addr) (t : Th) (b : Bool), vs = [.ref v, .bl b] ∧ Dp K H (.ref v) t.toD ∧ Shw t ∧ ∀ H', Same H H' → Q (.bl true) H'
theorem ok_l_is_told (T : Tx K mg) (pf : TmX.PF P T.fl) (nd : base.NoDigits) : FnG P w K mg base 46 T.f_l_is_told T.fd_l_is_told ["plan", "is_named"] (spIsTold K) := by
  refine FnG.mk' T.F_l_is_told sc_l_is_told (fun vs H Q E h => ?_) (fun cdv A outer s H vs Q hgd hr h => ?_)
  · obtain ⟨_, _, _, rfl, _⟩ := h
    rfl
  obtain ⟨v, t, b, rfl, hd, sw, q⟩ := h
  refine ⟨_, (pss_cons (ps_par3 (i := 2) (j := 3) (l := 4) (by rfl) sc_l_is_told.nd rfl rfl rfl (by decide) (by decide) (by decide) rfl rfl rfl (pa_cons (pe_callB (call_reprX nd hgd hr.repr) (by rfl) T.m_repr (by decide +kernel) (pa_cons (pv 0) pa_nil)) (pa_cons (pe_call (ok_l_heard T pf) (hr.mono (by first | decide | omega)) (by rfl) T.g_l_heard T.F_l_heard.kp T.b_l_heard .nil pass0 (pa_cons (pv 0) (pa_cons (pv 1) pa_nil))) (pa_cons (pe_call (ok_l_all_taken T) (hr.mono (by first | decide | omega)) (by rfl) T.g_l_all_taken T.F_l_all_taken.kp T.b_l_all_taken .nil pass0 (pa_cons (pv 0) pa_nil)) pa_nil))) (by rfl))
      (pss_cons (ps_if (PW.pt (pw_or (pt_cmpR op_ne (pe_callB (call_reprX nd hgd hr.repr) (by rfl) T.m_repr (by decide +kernel) (pa_cons (pe_call (ok_l_heard T pf) (hr.mono (by first | decide | omega)) (by rfl) T.g_l_heard T.F_l_heard.kp T.b_l_heard .nil pass0 (pa_cons (pv 0) (pa_cons pe_bl pa_nil))) pa_nil)) (pe_callB (call_reprX nd hgd hr.repr) (by rfl) T.m_repr (by decide +kernel) (pa_cons (pv 3) pa_nil)) (nomark _)) (pw_or1 (pt_cmpR op_ne (pe_callB (call_reprX nd hgd hr.repr) (by rfl) T.m_repr (by decide +kernel) (pa_cons (pv 0) pa_nil)) (pv 2) (nomark _))))) (pss_one (ps_ret pe_bl)) pss_nil)
      (pss_cons (ps_if (pt_cmpR op_gt (pe_call (ok_l_top T 40 (by decide)) (hr.mono (by first | decide | omega)) (by rfl) T.g_l_top T.F_l_top.kp T.b_l_top .nil pass0 (pa_cons (pv 4) pa_nil)) (pe_op op_pow pe_int pe_int) (nomark _)) (pss_one (ps_ret (pe_cmpR op_eq (pe_callB (call_reprX nd hgd hr.repr) (by rfl) T.m_repr (by decide +kernel) (pa_cons (pv 3) pa_nil)) (pe_callB (call_reprX nd hgd hr.repr) (by rfl) T.m_repr (by decide +kernel) (pa_cons (pe_lst (pa_cons pe_str (pa_cons (pe_op op_pow pe_int pe_int) (pa_cons pe_bl pa_nil)))) pa_nil)) (nomark _)))) pss_nil)
      (pss_one (ps_ret (pe_cmpR op_eq (pe_callB (call_reprX nd hgd hr.repr) (by rfl) T.m_repr (by decide +kernel) (pa_cons (pv 3) pa_nil)) (pe_callB (call_reprX nd hgd hr.repr) (by rfl) T.m_repr (by decide +kernel) (pa_cons (pe_lst (pa_cons pe_str (pa_cons (pv 4) pa_nil))) pa_nil)) (nomark _))))))), ?_⟩
  have pl := sw.pln
  have shw := due_shows sw
  have heard : ∀ (b : Bool) (H1 : Hp) (Q' : VK) (E' : XK), Same H H1 → (∀ (l : Addr) (H2 : Hp), Dp K H2 (.ref l) (dueD t) → Same H1 H2 → Q' (.ref l) H2) → spHeard K [.ref v, .bl b] H1 Q' E' := fun b H1 Q' E' s k => by
    refine ⟨.ref v, t, _, b, rfl, dp_same s hd, pl, fun hw l p H2 el dp s2 => k l H2 ?_ s2, fun hw l H2 el s2 => k l H2 ?_ s2⟩
    · unfold dueD
      rw [if_pos hw]
      exact .lst (sq_l el) (.cons (.str _) (.cons dp .nil))
    · unfold dueD
      rw [if_neg (by rw [hw]; decide)]
      exact many_dp el
  walk_at "go"
  refine ⟨v, t.toD, rfl, hd, sw.shows, ?_⟩
  walk_at "go"
  refine heard _ H _ _ (Same.refl _) fun l1 H1 d1 s1 => ?_
  walk_at "go"
  refine ⟨.ref v, t, _, rfl, dp_same s1 hd, pl, fun v2 H2 d2 s2 => ?_⟩
  have s12 := s1.trans s2
  have d12 := dp_same s2 d1
  walk_at "go"
  refine heard false H2 _ _ s12 fun l3 H3 d3 s3 => ?_
  walk_at "go"
  refine ⟨l3, dueD t, rfl, d3, shw, ?_⟩
  walk_at "go"
  refine ⟨l1, dueD t, rfl, dp_same s3 d12, shw, ?_⟩
  walk_at "go"
  refine l_ne rfl ?_
  walk_at "go"
  rw [decide_eq_true rfl]
  walk_at "go"
  rw [if_neg (by decide)]
  walk_at "go"
  have s13 := s12.trans s3
  refine ⟨v, t.toD, rfl, dp_same s13 hd, sw.shows, ?_⟩
  walk_at "go"
  refine l_ne rfl ?_
  walk_at "go"
  rw [decide_eq_true rfl]
  first | rw [if_neg (by decide)] | skip
  walk_at "go"
  have d23 := dp_same s3 d2
  have pm := pl.mg
  refine ⟨v2, t.mg, rfl, d23, pm.st, by have := pm.dep; omega, fun H4 s4 => ?_⟩
  walk_at "go"
  refine l_I ⟨by decide, by decide, by decide⟩ ?_
  walk_at "go"
  have tw := top_within t.mg
  rw [show ((10 : Int) ^ (30 : Int).toNat) = 10 ^ 30 from rfl, tw]
  have s14 := s13.trans s4
  have d14 := dp_same (s3.trans s4) d12
  have d24 := dp_same s4 d23
  cases hw : withinT t.mg with
  | true =>
    first | rw [if_neg (by decide)] | skip
    walk_at "go"
    refine ⟨l1, dueD t, rfl, d14, shw, ?_⟩
    walk_at "go"
    refine ⟨sz (by simp), fun l5 nl5 => ?_⟩
    have z := same_new (o := .lst [.str "told", v2]) nl5
    walk_at "go"
    refine ⟨l5, dueD t, rfl, ?_, shw, ?_⟩
    walk_at "go"
    · unfold dueD
      rw [if_pos hw]
      exact .lst (sq_l upd_same) (.cons (.str _) (.cons (dp_same z d24) .nil))
    refine l_eq rfl ?_
    rw [decide_eq_true rfl]
    walk_at "go"
    exact q _ (s14.trans z)
  | false =>
    first | rw [if_pos (by decide)] | skip
    walk_at "go"
    refine ⟨l1, dueD t, rfl, d14, shw, ?_⟩
    walk_at "go"
    refine l_I ⟨by decide, by decide, by decide⟩ ?_
    walk_at "go"
    refine ⟨sz (by simp), fun l5 nl5 => ?_⟩
    have z : Same H4 (upd H4 l5 (.lst manyV)) := same_new nl5
    walk_at "go"
    refine ⟨l5, dueD t, rfl, ?_, shw, ?_⟩
    walk_at "go"
    · unfold dueD
      rw [if_neg (by rw [hw]; decide)]
      exact many_dp upd_same
    refine l_eq rfl ?_
    rw [decide_eq_true rfl]
    walk_at "go"
    exact q _ (s14.trans z)

end
end SC.S
namespace SC.S
open PySem PySem.Spec PyProof.Rows L2 StrLaws
local macro_rules | `(tactic| walk_at "go") => `(tactic| ((try dsimp only [cxOf, Cx.nox, Cx.wish]); repeat (first
  | (with_reducible refine g_seq ?_)
  | (with_reducible refine g_asg ?_)
  | (with_reducible refine g_asg2 ?_)
  | (with_reducible refine g_ret ?_)
  | (with_reducible refine g_drop ?_)
  | (with_reducible refine g_next ?_)
  | (with_reducible refine g_ifs ?_)
  | (with_reducible refine g_par ?_)
  | (with_reducible refine g_par3 ?_)
  | ((with_reducible refine' g_var ?hv ?_); (case hv => exact rfl))
  | (with_reducible refine g_c ?_)
  | ((with_reducible refine' g_aug ?hv ?_); (case hv => exact rfl))
  | (with_reducible refine l_ip ?_)
  | (with_reducible refine g_op ?_)
  | (with_reducible refine g_un ?_)
  | (with_reducible refine g_cons ?_)
  | (with_reducible refine g_nil ?_)
  | (with_reducible refine g_cb ?_)
  | (with_reducible refine g_call ?_)
  | (with_reducible refine g_callK ?_)
  | (with_reducible refine g_test ?_)
  | (with_reducible refine g_b ?_)
  | (with_reducible refine g_not ?_)
  | (with_reducible refine g_chain ?_)
  | (with_reducible refine g_notV ?_)
  | (with_reducible refine g_and ?_)
  | (with_reducible refine g_or ?_)
  | (with_reducible refine g_ifx ?_)
  | (with_reducible refine g_isN ?_)
  | (with_reducible refine g_notN ?_)
  | (with_reducible refine g_andV ?_)
  | (with_reducible refine g_orV ?_)
  | (with_reducible refine g_bm ?_)
  | (with_reducible refine g_bm0 ?_)
  | (with_reducible refine g_sl ?_)
  | (with_reducible refine g_part ?_)
  | (with_reducible refine g_nopart ?_)
  | (with_reducible refine g_dget ?_)
  | (with_reducible refine g_dput ?_)
  | (with_reducible refine g_tup ?_)
  | (with_reducible refine g_lst ?_)
  | (with_reducible refine g_yes ?_)
  | (with_reducible refine g_name ?_)
  | (with_reducible refine g_gsub ?_)
  | (with_reducible refine g_iList ?_)
  | (with_reducible refine g_iTup ?_)
  | (with_reducible refine g_for ?_)
  | (with_reducible refine g_lc ?_)
  | (with_reducible refine g_rng1 ?_)
  | (with_reducible refine g_rng2 ?_)
  | (with_reducible refine g_rng3 ?_)
  | (with_reducible refine g_iZip ?_)
  | (with_reducible refine g_allT ?_)
  | (with_reducible refine g_iZipA ?_)
  | (with_reducible refine g_iZip3 ?_)
  | (with_reducible refine g_iZipM ?_)
  | (with_reducible refine g_iZipN ?_)
  | (with_reducible refine g_din ?_)
  | (with_reducible refine g_dc2 ?_)
  | (with_reducible refine g_iItems ?_)
  | (with_reducible refine g_minAbs ?_)
  | (with_reducible refine g_dnotin ?_)
  | (with_reducible refine g_iRev ?_)
  | (with_reducible refine g_dcT ?_)
  | (with_reducible refine g_dc ?_)
  | (with_reducible refine g_iEnumT ?_)
  | (with_reducible refine g_iEnum ?_)
  | (with_reducible refine g_lstRg ?_)
  | (with_reducible refine g_lz ?_)
  | (with_reducible refine g_tz ?_)
  | (with_reducible refine g_rg1 ?_)
  | (with_reducible refine g_gcons ?_)
  | (with_reducible refine g_gnil ?_)
  | (with_reducible refine l_bl ?_)
  | (with_reducible refine l_int ?_)
  | (with_reducible refine l_two ?_)
  | (with_reducible refine l_three ?_)
  | (with_reducible refine l_I0 ?_)
  | (with_reducible refine l_U ?_)
  | dsimp only)))
section
variable {P : Program} {w : World} {K : PySem.W.Frag} {mg : Str → Option Value} {base : Heap}
/-! ### _law_any -/
def spAny (K : PySem.W.Frag) : Sp := fun vs H Q _ => ∃ (δ : Dk) (g : Int), vs = [.ref δ.d, .int g] ∧ Bag H δ ∧
  ∀ (u : Th) (p : Addr) (H' : Hp), IsPlan u → Shw u → Bag H' δ → Same (hid δ.l H) (hid δ.l H') → Dp K H' (.ref p) u.toD → Q (.ref p) H'
theorem ok_l_any (T : Tx K mg) : FnOk P w K mg base CX0 6 T.f_l_any T.fd_l_any ["deck", "great"] (spAny K) := by
  refine T.F_l_any.ok sc_l_any (fun vs H Q E h => ?_) (fun cdv A outer s H vs Q E hr h => ?_)
  · obtain ⟨_, _, rfl, _⟩ := h
    rfl
  obtain ⟨δ, g, rfl, D, q⟩ := h
  refine ⟨_, (pss_cons (ps_set (i := 2) sc_l_any.nd rfl (Or.inl rfl) (pe_call (ok_l_draw T) (hr.mono (by first | decide | omega)) (by rfl) T.g_l_draw T.F_l_draw.kp T.b_l_draw .nil pass0 (pa_cons (pv 0) (pa_cons pe_int pa_nil))))
      (pss_cons (ps_set (i := 3) sc_l_any.nd rfl (Or.inl rfl) (pe_call (ok_l_pick T) (hr.mono (by first | decide | omega)) (by rfl) T.g_l_pick T.F_l_pick.kp T.b_l_pick .nil pass0 (pa_cons (pv 0) (pa_cons (pe_lst (pa_cons (pe_lst (pa_cons pe_int (pa_cons pe_int (pa_cons pe_int pa_nil)))) (pa_cons (pe_lst (pa_cons pe_int (pa_cons pe_int (pa_cons pe_int (pa_cons pe_int (pa_cons pe_int pa_nil)))))) (pa_cons (pe_lst (pa_cons pe_int (pa_cons pe_int (pa_cons pe_int (pa_cons pe_int pa_nil))))) (pa_cons (pe_lst (pa_cons pe_int (pa_cons pe_int (pa_cons pe_int (pa_cons pe_int pa_nil))))) (pa_cons (pe_lst (pa_cons pe_int (pa_cons pe_int (pa_cons pe_int (pa_cons pe_int pa_nil))))) pa_nil)))))) pa_nil))))
      (Evl.pss_cut (ps_if (pt_cmpR op_eq (pv 1) pe_int (nomark _)) (pss_one (ps_set (i := 3) sc_l_any.nd rfl (Or.inl rfl) (pe_lst (pa_cons (pe_op op_pow pe_int pe_int) (pa_cons (pe_op op_pow pe_int pe_int) (pa_cons (pe_op op_pow pe_int pe_int) (pa_cons pe_int (pa_cons pe_int (pa_cons (pe_op op_pow pe_int pe_int) pa_nil))))))))) pss_nil)
      (Evl.pss_cut (ps_set (i := 4) sc_l_any.nd rfl (Or.inl rfl) (pe_ifExp (pt_cmpR op_eq (pv 1) pe_int (nomark _)) (pe_op op_add pe_int (pe_call (ok_l_draw T) (hr.mono (by first | decide | omega)) (by rfl) T.g_l_draw T.F_l_draw.kp T.b_l_draw .nil pass0 (pa_cons (pv 0) (pa_cons pe_int pa_nil)))) (pe_op op_add pe_int (pe_call (ok_l_draw T) (hr.mono (by first | decide | omega)) (by rfl) T.g_l_draw T.F_l_draw.kp T.b_l_draw .nil pass0 (pa_cons (pv 0) (pa_cons pe_int pa_nil))))))
      (pss_one (ps_ret (pe_call (ok_l_plan T) (hr.mono (by first | decide | omega)) (by rfl) T.g_l_plan T.F_l_plan.kp T.b_l_plan .nil pass0 (pa_cons (pv 0) (pa_cons (pv 4) (pa_cons pe_int (pa_cons (pv 3) (pa_cons (pe_callB (call_min2 rfl) (by rfl) T.m_min (by decide +kernel) (pa_cons (pv 2) (pa_cons pe_int pa_nil))) pa_nil)))))))))))), ?_⟩
  walk_at "go"
  refine ⟨δ, 4, rfl, D, lim_of (by decide) (by decide), fun way H2 w0 w1 _ D2 s02 => ?_⟩
  have w1 := w1 (by decide)
  walk_at "go"
  refine ⟨sz (by simp), fun b1 m1 => ?_⟩
  walk_at "go"
  have h1 := Sl.new (ss := [2, 3, 4]) D2 m1 (by decide) (by decide) (by decide)
  have s1 := same_new (o := .lst (([2, 3, 4] : List Int).map V.int)) m1
  have z1 := s1
  refine ⟨sz (by simp), fun b2 m2 => ?_⟩
  walk_at "go"
  have h2 := Sl.new (ss := [1, 2, 3, 4, 8]) (bag_new D2 z1) m2 (by decide) (by decide) (by decide)
  have s2 := same_new (o := .lst (([1, 2, 3, 4, 8] : List Int).map V.int)) m2
  have z2 := z1.trans s2
  refine ⟨sz (by simp), fun b3 m3 => ?_⟩
  walk_at "go"
  have h3 := Sl.new (ss := [2, 4, 8, 16]) (bag_new D2 z2) m3 (by decide) (by decide) (by decide)
  have s3 := same_new (o := .lst (([2, 4, 8, 16] : List Int).map V.int)) m3
  have z3 := z2.trans s3
  refine ⟨sz (by simp), fun b4 m4 => ?_⟩
  walk_at "go"
  have h4 := Sl.new (ss := [5, 7, 1, 2]) (bag_new D2 z3) m4 (by decide) (by decide) (by decide)
  have s4 := same_new (o := .lst (([5, 7, 1, 2] : List Int).map V.int)) m4
  have z4 := z3.trans s4
  refine ⟨sz (by simp), fun b5 m5 => ?_⟩
  walk_at "go"
  have h5 := Sl.new (ss := [1, 1, 6, 9]) (bag_new D2 z4) m5 (by decide) (by decide) (by decide)
  have s5 := same_new (o := .lst (([1, 1, 6, 9] : List Int).map V.int)) m5
  have z5 := z4.trans s5
  refine ⟨sz (by simp), fun L nL => ?_⟩
  walk_at "go"
  have zL := same_new (o := .lst [.ref b1, .ref b2, .ref b3, .ref b4, .ref b5]) nL
  have k5 := h5.mono zL
  have k4 := (h4.mono s5).mono zL
  have k3 := ((h3.mono s4).mono s5).mono zL
  have k2 := (((h2.mono s3).mono s4).mono s5).mono zL
  have k1 := ((((h1.mono s2).mono s3).mono s4).mono s5).mono zL
  have zz := z5.trans zL
  have D1 := bag_new D2 zz
  have LD := bag_out (bag_new D2 z5) nL
  have sZ := same_hid (D := δ.l) zz
  refine ⟨δ, L, _, rfl, D1, sq_l (hid_put LD upd_same), by simp, by simp, fun x H3 hx D3 s3 => ?_⟩
  obtain ⟨la, ss, k⟩ : Sl δ H3 x := by
    simp only [List.mem_cons, List.not_mem_nil, or_false] at hx
    rcases hx with e | e | e | e | e
    · rw [e]; exact k1.hid s3
    · rw [e]; exact k2.hid s3
    · rw [e]; exact k3.hid s3
    · rw [e]; exact k4.hid s3
    · rw [e]; exact k5.hid s3
  have s03 := s02.trans (sZ.trans s3)
  clear k1 k2 k3 k4 k5 h1 h2 h3 h4 h5 s1 s2 s3 s4 s5 z1 z2 z3 z4 z5 zL zz LD D1 sZ s02
  obtain rfl := k.e
  walk_at "go"
  refine g_cut (fun σ' H' => ∃ la ss, σ' = [some (.ref δ.d), some (.int g), some (.int way), some (.ref la), none] ∧ Bag H' δ ∧ Same (hid δ.l H) (hid δ.l H') ∧ Szl δ H' (.ref la) la ss) ?_ ?_
  · walk_at "go"
    refine l_eq rfl ?_
    walk_at "go"
    refine iteB (fun h4 => ?_) (fun h4 => ?_)
    · walk_at "go"
      refine l_I ⟨by decide, by decide, by decide⟩ ?_
      walk_at "go"
      refine l_I ⟨by decide, by decide, by decide⟩ ?_
      walk_at "go"
      refine l_I ⟨by decide, by decide, by decide⟩ ?_
      walk_at "go"
      refine l_I ⟨by decide, by decide, by decide⟩ ?_
      walk_at "go"
      refine ⟨sz (by simp), fun b nb => ?_⟩
      walk_at "go"
      obtain ⟨la2, ss2, kk⟩ := Sl.new (ss := [10 ^ 6, 10 ^ 9, 2 ^ 20, 3, 1, 10 ^ 15]) D3 nb (by decide) (by decide) (by decide)
      have zb := same_new (o := .lst (([10 ^ 6, 10 ^ 9, 2 ^ 20, 3, 1, 10 ^ 15] : List Int).map V.int)) nb
      obtain rfl : b = la2 := by have := kk.e; injection this
      exact ⟨b, ss2, rfl, bag_new D3 zb, s03.trans (same_hid zb), kk⟩
    · walk_at "go"
      exact ⟨la, ss, rfl, D3, s03, k⟩
  clear k s03 D3 D2
  rintro σ' H4 ⟨la, ss, rfl, D4, s04, k⟩
  walk_at "go"
  refine g_cut (fun σ' H' => ∃ kk : Nat, σ' = [some (.ref δ.d), some (.int g), some (.int way), some (.ref la), some (.int (kk : Nat))] ∧ 1 ≤ kk ∧ kk ≤ 12 ∧ Bag H' δ ∧ Same (hid δ.l H) (hid δ.l H') ∧ Szl δ H' (.ref la) la ss) ?_ ?_
  · walk_at "go"
    refine l_eq rfl ?_
    refine ⟨_, rfl, ?_⟩
    refine iteB (fun h4 => ?_) (fun h4 => ?_)
    · walk_at "go"
      refine ⟨δ, 4, rfl, D4, lim_of (by decide) (by decide), fun v H5 v0 v1 _ D5 s5 => ?_⟩
      have v1 := v1 (by decide)
      obtain ⟨kk, hk⟩ : ∃ kk : Nat, 9 + v = (kk : Int) := ⟨(9 + v).toNat, by omega⟩
      walk_at "go"
      rw [hk]
      exact ⟨kk, rfl, by omega, by omega, D5, s04.trans s5, ⟨k.e, lst_hid k.out s5 k.l, k.out, k.ne, k.few, k.ok⟩⟩
    · walk_at "go"
      refine ⟨δ, 6, rfl, D4, lim_of (by decide) (by decide), fun v H5 v0 v1 _ D5 s5 => ?_⟩
      have v1 := v1 (by decide)
      obtain ⟨kk, hk⟩ : ∃ kk : Nat, 1 + v = (kk : Int) := ⟨(1 + v).toNat, by omega⟩
      walk_at "go"
      rw [hk]
      exact ⟨kk, rfl, by omega, by omega, D5, s04.trans s5, ⟨k.e, lst_hid k.out s5 k.l, k.out, k.ne, k.few, k.ok⟩⟩
  clear k s04 D4
  rintro σ' H5 ⟨kk, rfl, kk1, kk2, D5, s05, k⟩
  walk_at "go"
  refine ⟨_, _, rfl, ?_⟩
  walk_at "go"
  refine ⟨δ, la, kk, 7, _, ss, rfl, D5, sq_l (hid_put k.out k.l), k.ne, k.few, k.ok, kk1, kk2, by decide, by decide, fun u p H6 ip _ _ _ hg D6 s6 hu => ?_⟩
  walk_at "go"
  exact q u p H6 ip (shw_of ip hg) D6 (s05.trans s6) hu

end
end SC.S
namespace SC.S
open PySem PySem.Spec PyProof.Rows L2 StrLaws
local macro_rules | `(tactic| walk_at "go") => `(tactic| ((try dsimp only [cxOf, Cx.nox, Cx.wish]); repeat (first
  | (with_reducible refine g_seq ?_)
  | (with_reducible refine g_asg ?_)
  | (with_reducible refine g_asg2 ?_)
  | (with_reducible refine g_ret ?_)
  | (with_reducible refine g_drop ?_)
  | (with_reducible refine g_next ?_)
  | (with_reducible refine g_ifs ?_)
  | (with_reducible refine g_par ?_)
  | (with_reducible refine g_par3 ?_)
  | ((with_reducible refine' g_var ?hv ?_); (case hv => exact rfl))
  | (with_reducible refine g_c ?_)
  | ((with_reducible refine' g_aug ?hv ?_); (case hv => exact rfl))
  | (with_reducible refine l_ip ?_)
  | (with_reducible refine g_op ?_)
  | (with_reducible refine g_un ?_)
  | (with_reducible refine g_cons ?_)
  | (with_reducible refine g_nil ?_)
  | (with_reducible refine g_cb ?_)
  | (with_reducible refine g_call ?_)
  | (with_reducible refine g_callK ?_)
  | (with_reducible refine g_test ?_)
  | (with_reducible refine g_b ?_)
  | (with_reducible refine g_not ?_)
  | (with_reducible refine g_chain ?_)
  | (with_reducible refine g_notV ?_)
  | (with_reducible refine g_and ?_)
  | (with_reducible refine g_or ?_)
  | (with_reducible refine g_ifx ?_)
  | (with_reducible refine g_isN ?_)
  | (with_reducible refine g_notN ?_)
  | (with_reducible refine g_andV ?_)
  | (with_reducible refine g_orV ?_)
  | (with_reducible refine g_bm ?_)
  | (with_reducible refine g_bm0 ?_)
  | (with_reducible refine g_sl ?_)
  | (with_reducible refine g_part ?_)
  | (with_reducible refine g_nopart ?_)
  | (with_reducible refine g_dget ?_)
  | (with_reducible refine g_dput ?_)
  | (with_reducible refine g_tup ?_)
  | (with_reducible refine g_lst ?_)
  | (with_reducible refine g_yes ?_)
  | (with_reducible refine g_name ?_)
  | (with_reducible refine g_gsub ?_)
  | (with_reducible refine g_iList ?_)
  | (with_reducible refine g_iTup ?_)
  | (with_reducible refine g_for ?_)
  | (with_reducible refine g_lc ?_)
  | (with_reducible refine g_rng1 ?_)
  | (with_reducible refine g_rng2 ?_)
  | (with_reducible refine g_rng3 ?_)
  | (with_reducible refine g_iZip ?_)
  | (with_reducible refine g_allT ?_)
  | (with_reducible refine g_iZipA ?_)
  | (with_reducible refine g_iZip3 ?_)
  | (with_reducible refine g_iZipM ?_)
  | (with_reducible refine g_iZipN ?_)
  | (with_reducible refine g_din ?_)
  | (with_reducible refine g_dc2 ?_)
  | (with_reducible refine g_iItems ?_)
  | (with_reducible refine g_minAbs ?_)
  | (with_reducible refine g_dnotin ?_)
  | (with_reducible refine g_iRev ?_)
  | (with_reducible refine g_dcT ?_)
  | (with_reducible refine g_dc ?_)
  | (with_reducible refine g_iEnumT ?_)
  | (with_reducible refine g_iEnum ?_)
  | (with_reducible refine g_lstRg ?_)
  | (with_reducible refine g_lz ?_)
  | (with_reducible refine g_tz ?_)
  | (with_reducible refine g_rg1 ?_)
  | (with_reducible refine g_gcons ?_)
  | (with_reducible refine g_gnil ?_)
  | (with_reducible refine l_bl ?_)
  | (with_reducible refine l_int ?_)
  | (with_reducible refine l_two ?_)
  | (with_reducible refine l_three ?_)
  | (with_reducible refine l_I0 ?_)
  | (with_reducible refine l_U ?_)
  | dsimp only)))
section
variable {P : Program} {w : World} {K : PySem.W.Frag} {mg : Str → Option Value} {base : Heap}
/-! ### law (k34) -/
def spLaw (K : PySem.W.Frag) : Sp := fun vs H Q _ => ∃ (a : Addr) (ns : List Int), vs = [.ref a] ∧ SqL K H a (ns.map V.int) ∧ ns.length ≤ 63 ∧ ∀ H', Q (.bl true) H'
theorem ok_law (T : Tx K mg) (pf : TmX.PF P T.fl) (nd : base.NoDigits) : FnG P w K mg base 47 T.f_law T.fd_law ["script"] (spLaw K) := by
  refine FnG.mk' T.F_law sc_law (fun vs H Q E h => ?_) (fun cdv A outer s H vs Q hgd hr h => ?_)
  · obtain ⟨_, _, rfl, _⟩ := h
    rfl
  obtain ⟨a, ns, rfl, ha, hl, q⟩ := h
  refine ⟨_, (pss_cons (ps_set (i := 1) sc_law.nd rfl (Or.inl rfl) (pe_call (ok_l_deck T) (hr.mono (by first | decide | omega)) (by rfl) T.g_l_deck T.F_l_deck.kp T.b_l_deck .nil pass0 (pa_cons (pv 0) pa_nil)))
      (pss_cons (ps_for PassesOwn.never rfl (pi_range1 rfl T.m_range (pa_cons pe_int pa_nil)) (pg_name (i := 2) sc_law.nd rfl (Or.inl rfl)) (Evl.pss_cut (ps_set (i := 3) sc_law.nd rfl (Or.inl rfl) (pe_ifExp (pt_cmpR op_eq (pv 2) pe_int (nomark _)) pe_int (pe_ifExp (PW.pt (pw_and (pt_cmpR op_eq (pv 2) pe_int (nomark _)) (pw_and1 (pt_cmpR op_eq (pe_call (ok_l_draw T) (hr.mono (by first | decide | omega)) (by rfl) T.g_l_draw T.F_l_draw.kp T.b_l_draw .nil pass0 (pa_cons (pv 1) (pa_cons pe_int pa_nil))) pe_int (nomark _))))) pe_int pe_int)))
      (pss_one (ps_if (pt_not (pt_val (pe_callG (ok_l_is_told T pf nd) hgd (hr.mono (by first | decide | omega)) (by rfl) T.g_l_is_told T.F_l_is_told.kp T.b_l_is_told .nil (pa_cons (pe_call (ok_l_any T) (hr.mono (by first | decide | omega)) (by rfl) T.g_l_any T.F_l_any.kp T.b_l_any .nil pass0 (pa_cons (pv 1) (pa_cons (pv 3) pa_nil))) (pa_cons (pe_cmpR op_eq (pv 2) pe_int (nomark _)) pa_nil))))) (pss_one (ps_ret pe_bl)) pss_nil))))
      (pss_one (ps_ret pe_bl)))), ?_⟩
  walk_at "go"
  refine ⟨a, ns, rfl, ha, hl, fun δ H1 nd0 D1 s1 => ?_⟩
  walk_at "go"
  refine ⟨8, rfl, by decide, by decide, ?_⟩
  refine for_R (lo := 0) (n := 8) (fun i σ H' => ∃ y2 y3, σ = [some (.ref a), some (.ref δ.d), y2, y3] ∧ Bag H' δ) ⟨_, _, rfl, D1⟩ (fun i σ H2 hi h => ?_) (fun σ H2 h => ?_)
  · obtain ⟨y2, y3, rfl, D2⟩ := h
    walk_at "go"
    refine g_cut (fun σ' H' => ∃ g : Int, σ' = [some (.ref a), some (.ref δ.d), some (.int (0 + (i : Int))), some (.int g)] ∧ Bag H' δ) ?_ ?_
    · walk_at "go"
      refine l_eq rfl ?_
      refine ⟨_, rfl, ?_⟩
      refine iteB (fun h4 => ?_) (fun h4 => ?_)
      · walk_at "go"
        exact ⟨_, rfl, D2⟩
      · walk_at "go"
        refine l_eq rfl ?_
        walk_at "go"
        refine iteB (fun h5 => ?_) (fun h5 => ?_)
        · walk_at "go"
          refine ⟨δ, 3, rfl, D2, lim_of (by decide) (by decide), fun v2 H3 _ _ _ D3 s3 => ?_⟩
          walk_at "go"
          refine l_eq rfl ?_
          first | (refine ⟨_, rfl, ?_⟩) | skip
          walk_at "go"
          refine iteB (fun h6 => ?_) (fun h6 => ?_)
          · walk_at "go"
            exact ⟨_, rfl, D3⟩
          · walk_at "go"
            exact ⟨_, rfl, D3⟩
        · walk_at "go"
          first | rw [if_neg (by decide)] | skip
          walk_at "go"
          exact ⟨_, rfl, D2⟩
    rintro σ' H3 ⟨g, rfl, D3⟩
    walk_at "go"
    refine ⟨δ, g, rfl, D3, fun u p H4 ip sw D4 s4 hu => ?_⟩
    walk_at "go"
    refine l_eq rfl ?_
    walk_at "go"
    refine ⟨p, u, _, rfl, hu, sw, fun H5 s5 => ?_⟩
    walk_at "go"
    first | rw [if_neg (by decide)] | skip
    walk_at "go"
    exact ⟨_, _, rfl, bag_new D4 s5⟩
  · obtain ⟨y2, y3, rfl, D2⟩ := h
    walk_at "go"
    exact q H2

end
end SC.S
namespace SC.S
open PySem PySem.Spec PyProof.Rows L2
theorem all_mk {l : PySem.W.OpenLaw} {q : Program} {loose : List Str} {w : World} {s₀ : Shared} {K : PySem.W.Frag} {h : Heap} {mg mb : Str → Option Value} {fa : Addr}
    (G : PySem.W.Ground q loose [] (PySem.W.XL q [("MAX_SIZE", .int 1000000000000000000000000000000)]) w s₀ mg mb h) (X : K.In h) (hfa : mg "law" = some (.ref fa))
    {od0 an0 : Option Addr} {sl0 : Array (Option Value)} {f0 : Addr} {oc0 kV0 dc0 pm0 cd0 ct0 : Value}
    (a0 : PySem.W.nsIn K mainGlobals "is_stage" = some (some (.ref f0))) (l0 : K.lookup f0 = some ⟨oc0, od0, .func (PySem.W.fnOf "is_stage" "is_stage" (defArgs s_is_stage) (defBody s_is_stage) (defScope s_is_stage) .none kV0 dc0 pm0 an0 cd0 ct0), sl0⟩) (c0 : PySem.W.codeIn K cd0 "is_stage" = true) (k0 : PySem.W.keepIn K (.ref f0) = true)
    {od1 an1 : Option Addr} {sl1 : Array (Option Value)} {f1 : Addr} {oc1 kV1 dc1 pm1 cd1 ct1 : Value}
    (a1 : PySem.W.nsIn K mainGlobals "ways_and_stages" = some (some (.ref f1))) (l1 : K.lookup f1 = some ⟨oc1, od1, .func (PySem.W.fnOf "ways_and_stages" "ways_and_stages" (defArgs s_ways_and_stages) (defBody s_ways_and_stages) (defScope s_ways_and_stages) .none kV1 dc1 pm1 an1 cd1 ct1), sl1⟩) (c1 : PySem.W.codeIn K cd1 "ways_and_stages" = true) (k1 : PySem.W.keepIn K (.ref f1) = true)
    {od2 an2 : Option Addr} {sl2 : Array (Option Value)} {f2 : Addr} {oc2 kV2 dc2 pm2 cd2 ct2 : Value}
    (a2 : PySem.W.nsIn K mainGlobals "can_be_merged" = some (some (.ref f2))) (l2 : K.lookup f2 = some ⟨oc2, od2, .func (PySem.W.fnOf "can_be_merged" "can_be_merged" (defArgs s_can_be_merged) (defBody s_can_be_merged) (defScope s_can_be_merged) .none kV2 dc2 pm2 an2 cd2 ct2), sl2⟩) (c2 : PySem.W.codeIn K cd2 "can_be_merged" = true) (k2 : PySem.W.keepIn K (.ref f2) = true)
    {od3 an3 : Option Addr} {sl3 : Array (Option Value)} {f3 : Addr} {oc3 kV3 dc3 pm3 cd3 ct3 : Value}
    (a3 : PySem.W.nsIn K mainGlobals "weighted" = some (some (.ref f3))) (l3 : K.lookup f3 = some ⟨oc3, od3, .func (PySem.W.fnOf "weighted" "weighted" (defArgs s_weighted) (defBody s_weighted) (defScope s_weighted) .none kV3 dc3 pm3 an3 cd3 ct3), sl3⟩) (c3 : PySem.W.codeIn K cd3 "weighted" = true) (k3 : PySem.W.keepIn K (.ref f3) = true)
    {od4 an4 : Option Addr} {sl4 : Array (Option Value)} {f4 : Addr} {oc4 kV4 dc4 pm4 cd4 ct4 : Value}
    (a4 : PySem.W.nsIn K mainGlobals "with_part" = some (some (.ref f4))) (l4 : K.lookup f4 = some ⟨oc4, od4, .func (PySem.W.fnOf "with_part" "with_part" (defArgs s_with_part) (defBody s_with_part) (defScope s_with_part) .none kV4 dc4 pm4 an4 cd4 ct4), sl4⟩) (c4 : PySem.W.codeIn K cd4 "with_part" = true) (k4 : PySem.W.keepIn K (.ref f4) = true)
    {od5 an5 : Option Addr} {sl5 : Array (Option Value)} {f5 : Addr} {oc5 kV5 dc5 pm5 cd5 ct5 : Value}
    (a5 : PySem.W.nsIn K mainGlobals "merged_at" = some (some (.ref f5))) (l5 : K.lookup f5 = some ⟨oc5, od5, .func (PySem.W.fnOf "merged_at" "merged_at" (defArgs s_merged_at) (defBody s_merged_at) (defScope s_merged_at) .none kV5 dc5 pm5 an5 cd5 ct5), sl5⟩) (c5 : PySem.W.codeIn K cd5 "merged_at" = true) (k5 : PySem.W.keepIn K (.ref f5) = true)
    {od6 an6 : Option Addr} {sl6 : Array (Option Value)} {f6 : Addr} {oc6 kV6 dc6 pm6 cd6 ct6 : Value}
    (a6 : PySem.W.nsIn K mainGlobals "merged_once" = some (some (.ref f6))) (l6 : K.lookup f6 = some ⟨oc6, od6, .func (PySem.W.fnOf "merged_once" "merged_once" (defArgs s_merged_once) (defBody s_merged_once) (defScope s_merged_once) .none kV6 dc6 pm6 an6 cd6 ct6), sl6⟩) (c6 : PySem.W.codeIn K cd6 "merged_once" = true) (k6 : PySem.W.keepIn K (.ref f6) = true)
    {od7 an7 : Option Addr} {sl7 : Array (Option Value)} {f7 : Addr} {oc7 kV7 dc7 pm7 cd7 ct7 : Value}
    (a7 : PySem.W.nsIn K mainGlobals "is_within_bounds" = some (some (.ref f7))) (l7 : K.lookup f7 = some ⟨oc7, od7, .func (PySem.W.fnOf "is_within_bounds" "is_within_bounds" (defArgs s_is_within_bounds) (defBody s_is_within_bounds) (defScope s_is_within_bounds) .none kV7 dc7 pm7 an7 cd7 ct7), sl7⟩) (c7 : PySem.W.codeIn K cd7 "is_within_bounds" = true) (k7 : PySem.W.keepIn K (.ref f7) = true)
    {od8 an8 : Option Addr} {sl8 : Array (Option Value)} {f8 : Addr} {oc8 kV8 dc8 pm8 cd8 ct8 : Value}
    (a8 : PySem.W.nsIn K mainGlobals "merged" = some (some (.ref f8))) (l8 : K.lookup f8 = some ⟨oc8, od8, .func (PySem.W.fnOf "merged" "merged" (defArgs s_merged) (defBody s_merged) (defScope s_merged) .none kV8 dc8 pm8 an8 cd8 ct8), sl8⟩) (c8 : PySem.W.codeIn K cd8 "merged" = true) (k8 : PySem.W.keepIn K (.ref f8) = true)
    {od9 an9 : Option Addr} {sl9 : Array (Option Value)} {f9 : Addr} {oc9 kV9 dc9 pm9 cd9 ct9 : Value}
    (a9 : PySem.W.nsIn K mainGlobals "_law_deck" = some (some (.ref f9))) (l9 : K.lookup f9 = some ⟨oc9, od9, .func (PySem.W.fnOf "_law_deck" "_law_deck" (defArgs s_l_deck) (defBody s_l_deck) (defScope s_l_deck) .none kV9 dc9 pm9 an9 cd9 ct9), sl9⟩) (c9 : PySem.W.codeIn K cd9 "_law_deck" = true) (k9 : PySem.W.keepIn K (.ref f9) = true)
    {od10 an10 : Option Addr} {sl10 : Array (Option Value)} {f10 : Addr} {oc10 kV10 dc10 pm10 cd10 ct10 : Value}
    (a10 : PySem.W.nsIn K mainGlobals "_law_draw" = some (some (.ref f10))) (l10 : K.lookup f10 = some ⟨oc10, od10, .func (PySem.W.fnOf "_law_draw" "_law_draw" (defArgs s_l_draw) (defBody s_l_draw) (defScope s_l_draw) .none kV10 dc10 pm10 an10 cd10 ct10), sl10⟩) (c10 : PySem.W.codeIn K cd10 "_law_draw" = true) (k10 : PySem.W.keepIn K (.ref f10) = true)
    {od11 an11 : Option Addr} {sl11 : Array (Option Value)} {f11 : Addr} {oc11 kV11 dc11 pm11 cd11 ct11 : Value}
    (a11 : PySem.W.nsIn K mainGlobals "_law_pick" = some (some (.ref f11))) (l11 : K.lookup f11 = some ⟨oc11, od11, .func (PySem.W.fnOf "_law_pick" "_law_pick" (defArgs s_l_pick) (defBody s_l_pick) (defScope s_l_pick) .none kV11 dc11 pm11 an11 cd11 ct11), sl11⟩) (c11 : PySem.W.codeIn K cd11 "_law_pick" = true) (k11 : PySem.W.keepIn K (.ref f11) = true)
    {od12 an12 : Option Addr} {sl12 : Array (Option Value)} {f12 : Addr} {oc12 kV12 dc12 pm12 cd12 ct12 : Value}
    (a12 : PySem.W.nsIn K mainGlobals "_law_mixed" = some (some (.ref f12))) (l12 : K.lookup f12 = some ⟨oc12, od12, .func (PySem.W.fnOf "_law_mixed" "_law_mixed" (defArgs s_l_mixed) (defBody s_l_mixed) (defScope s_l_mixed) .none kV12 dc12 pm12 an12 cd12 ct12), sl12⟩) (c12 : PySem.W.codeIn K cd12 "_law_mixed" = true) (k12 : PySem.W.keepIn K (.ref f12) = true)
    {od13 an13 : Option Addr} {sl13 : Array (Option Value)} {f13 : Addr} {oc13 kV13 dc13 pm13 cd13 ct13 : Value}
    (a13 : PySem.W.nsIn K mainGlobals "_law_common" = some (some (.ref f13))) (l13 : K.lookup f13 = some ⟨oc13, od13, .func (PySem.W.fnOf "_law_common" "_law_common" (defArgs s_l_common) (defBody s_l_common) (defScope s_l_common) .none kV13 dc13 pm13 an13 cd13 ct13), sl13⟩) (c13 : PySem.W.codeIn K cd13 "_law_common" = true) (k13 : PySem.W.keepIn K (.ref f13) = true)
    {od14 an14 : Option Addr} {sl14 : Array (Option Value)} {f14 : Addr} {oc14 kV14 dc14 pm14 cd14 ct14 : Value}
    (a14 : PySem.W.nsIn K mainGlobals "_law_weights" = some (some (.ref f14))) (l14 : K.lookup f14 = some ⟨oc14, od14, .func (PySem.W.fnOf "_law_weights" "_law_weights" (defArgs s_l_weights) (defBody s_l_weights) (defScope s_l_weights) .none kV14 dc14 pm14 an14 cd14 ct14), sl14⟩) (c14 : PySem.W.codeIn K cd14 "_law_weights" = true) (k14 : PySem.W.keepIn K (.ref f14) = true)
    {od15 an15 : Option Addr} {sl15 : Array (Option Value)} {f15 : Addr} {oc15 kV15 dc15 pm15 cd15 ct15 : Value}
    (a15 : PySem.W.nsIn K mainGlobals "_law_tree" = some (some (.ref f15))) (l15 : K.lookup f15 = some ⟨oc15, od15, .func (PySem.W.fnOf "_law_tree" "_law_tree" (defArgs s_l_tree) (defBody s_l_tree) (defScope s_l_tree) .none kV15 dc15 pm15 an15 cd15 ct15), sl15⟩) (c15 : PySem.W.codeIn K cd15 "_law_tree" = true) (k15 : PySem.W.keepIn K (.ref f15) = true)
    {od16 an16 : Option Addr} {sl16 : Array (Option Value)} {f16 : Addr} {oc16 kV16 dc16 pm16 cd16 ct16 : Value}
    (a16 : PySem.W.nsIn K mainGlobals "_law_plan" = some (some (.ref f16))) (l16 : K.lookup f16 = some ⟨oc16, od16, .func (PySem.W.fnOf "_law_plan" "_law_plan" (defArgs s_l_plan) (defBody s_l_plan) (defScope s_l_plan) .none kV16 dc16 pm16 an16 cd16 ct16), sl16⟩) (c16 : PySem.W.codeIn K cd16 "_law_plan" = true) (k16 : PySem.W.keepIn K (.ref f16) = true)
    {od17 an17 : Option Addr} {sl17 : Array (Option Value)} {f17 : Addr} {oc17 kV17 dc17 pm17 cd17 ct17 : Value}
    (a17 : PySem.W.nsIn K mainGlobals "_law_first" = some (some (.ref f17))) (l17 : K.lookup f17 = some ⟨oc17, od17, .func (PySem.W.fnOf "_law_first" "_law_first" (defArgs s_l_first) (defBody s_l_first) (defScope s_l_first) .none kV17 dc17 pm17 an17 cd17 ct17), sl17⟩) (c17 : PySem.W.codeIn K cd17 "_law_first" = true) (k17 : PySem.W.keepIn K (.ref f17) = true)
    {od18 an18 : Option Addr} {sl18 : Array (Option Value)} {f18 : Addr} {oc18 kV18 dc18 pm18 cd18 ct18 : Value}
    (a18 : PySem.W.nsIn K mainGlobals "_law_taken" = some (some (.ref f18))) (l18 : K.lookup f18 = some ⟨oc18, od18, .func (PySem.W.fnOf "_law_taken" "_law_taken" (defArgs s_l_taken) (defBody s_l_taken) (defScope s_l_taken) .none kV18 dc18 pm18 an18 cd18 ct18), sl18⟩) (c18 : PySem.W.codeIn K cd18 "_law_taken" = true) (k18 : PySem.W.keepIn K (.ref f18) = true)
    {od19 an19 : Option Addr} {sl19 : Array (Option Value)} {f19 : Addr} {oc19 kV19 dc19 pm19 cd19 ct19 : Value}
    (a19 : PySem.W.nsIn K mainGlobals "_law_taken_at" = some (some (.ref f19))) (l19 : K.lookup f19 = some ⟨oc19, od19, .func (PySem.W.fnOf "_law_taken_at" "_law_taken_at" (defArgs s_l_taken_at) (defBody s_l_taken_at) (defScope s_l_taken_at) .none kV19 dc19 pm19 an19 cd19 ct19), sl19⟩) (c19 : PySem.W.codeIn K cd19 "_law_taken_at" = true) (k19 : PySem.W.keepIn K (.ref f19) = true)
    {od20 an20 : Option Addr} {sl20 : Array (Option Value)} {f20 : Addr} {oc20 kV20 dc20 pm20 cd20 ct20 : Value}
    (a20 : PySem.W.nsIn K mainGlobals "_law_all_taken" = some (some (.ref f20))) (l20 : K.lookup f20 = some ⟨oc20, od20, .func (PySem.W.fnOf "_law_all_taken" "_law_all_taken" (defArgs s_l_all_taken) (defBody s_l_all_taken) (defScope s_l_all_taken) .none kV20 dc20 pm20 an20 cd20 ct20), sl20⟩) (c20 : PySem.W.codeIn K cd20 "_law_all_taken" = true) (k20 : PySem.W.keepIn K (.ref f20) = true)
    {od21 an21 : Option Addr} {sl21 : Array (Option Value)} {f21 : Addr} {oc21 kV21 dc21 pm21 cd21 ct21 : Value}
    (a21 : PySem.W.nsIn K mainGlobals "_law_top" = some (some (.ref f21))) (l21 : K.lookup f21 = some ⟨oc21, od21, .func (PySem.W.fnOf "_law_top" "_law_top" (defArgs s_l_top) (defBody s_l_top) (defScope s_l_top) .none kV21 dc21 pm21 an21 cd21 ct21), sl21⟩) (c21 : PySem.W.codeIn K cd21 "_law_top" = true) (k21 : PySem.W.keepIn K (.ref f21) = true)
    {od22 an22 : Option Addr} {sl22 : Array (Option Value)} {f22 : Addr} {oc22 kV22 dc22 pm22 cd22 ct22 : Value}
    (a22 : PySem.W.nsIn K mainGlobals "_law_heard" = some (some (.ref f22))) (l22 : K.lookup f22 = some ⟨oc22, od22, .func (PySem.W.fnOf "_law_heard" "_law_heard" (defArgs s_l_heard) (defBody s_l_heard) (defScope s_l_heard) .none kV22 dc22 pm22 an22 cd22 ct22), sl22⟩) (c22 : PySem.W.codeIn K cd22 "_law_heard" = true) (k22 : PySem.W.keepIn K (.ref f22) = true)
    {od23 an23 : Option Addr} {sl23 : Array (Option Value)} {f23 : Addr} {oc23 kV23 dc23 pm23 cd23 ct23 : Value}
    (a23 : PySem.W.nsIn K mainGlobals "_law_is_told" = some (some (.ref f23))) (l23 : K.lookup f23 = some ⟨oc23, od23, .func (PySem.W.fnOf "_law_is_told" "_law_is_told" (defArgs s_l_is_told) (defBody s_l_is_told) (defScope s_l_is_told) .none kV23 dc23 pm23 an23 cd23 ct23), sl23⟩) (c23 : PySem.W.codeIn K cd23 "_law_is_told" = true) (k23 : PySem.W.keepIn K (.ref f23) = true)
    {od24 an24 : Option Addr} {sl24 : Array (Option Value)} {f24 : Addr} {oc24 kV24 dc24 pm24 cd24 ct24 : Value}
    (a24 : PySem.W.nsIn K mainGlobals "_law_any" = some (some (.ref f24))) (l24 : K.lookup f24 = some ⟨oc24, od24, .func (PySem.W.fnOf "_law_any" "_law_any" (defArgs s_l_any) (defBody s_l_any) (defScope s_l_any) .none kV24 dc24 pm24 an24 cd24 ct24), sl24⟩) (c24 : PySem.W.codeIn K cd24 "_law_any" = true) (k24 : PySem.W.keepIn K (.ref f24) = true)
    {od25 an25 : Option Addr} {sl25 : Array (Option Value)} {f25 : Addr} {oc25 kV25 dc25 pm25 cd25 ct25 : Value}
    (a25 : PySem.W.nsIn K mainGlobals "law" = some (some (.ref f25))) (l25 : K.lookup f25 = some ⟨oc25, od25, .func (PySem.W.fnOf "law" "law" (defArgs s_law) (defBody s_law) (defScope s_law) .none kV25 dc25 pm25 an25 cd25 ct25), sl25⟩) (c25 : PySem.W.codeIn K cd25 "law" = true) (k25 : PySem.W.keepIn K (.ref f25) = true)
    (z_abs : PySem.W.nsIn K mainGlobals "abs" = some none)
    (z_enumerate : PySem.W.nsIn K mainGlobals "enumerate" = some none)
    (z_int : PySem.W.nsIn K mainGlobals "int" = some none)
    (z_isinstance : PySem.W.nsIn K mainGlobals "isinstance" = some none)
    (z_len : PySem.W.nsIn K mainGlobals "len" = some none)
    (z_list : PySem.W.nsIn K mainGlobals "list" = some none)
    (z_max : PySem.W.nsIn K mainGlobals "max" = some none)
    (z_min : PySem.W.nsIn K mainGlobals "min" = some none)
    (z_range : PySem.W.nsIn K mainGlobals "range" = some none)
    (z_repr : PySem.W.nsIn K mainGlobals "repr" = some none)
    (z_sum : PySem.W.nsIn K mainGlobals "sum" = some none)
    (z_tuple : PySem.W.nsIn K mainGlobals "tuple" = some none)
    (z_zip : PySem.W.nsIn K mainGlobals "zip" = some none)
    {Ct Bt fI ccT cdT Nt : Addr} {nmT qT fl : Str} {bsT subT : List Value} {snT : List Str} {abT : Bool} {colT : Option Bool} {ddT cddT cldT odT anT : Option Addr} {k0T k1T k2T k3T k5T : Option Value} {ccl cl ocT dcT pmT ctT : Value} {vsT : Array Value} {ccs csl slT : Array (Option Value)} {tfT : Tok} {mT : Str} {jT : Nat} {p1T p2T q1T q2T q3T q4T q5T q6T q7T q8T q9T q10T : Pos}
    (tC : PySem.W.nsIn K mainGlobals "TooMany" = some (some (.ref Ct)))
    (tB : PySem.W.nsIn K mainGlobals "CutsError" = some (some (.ref Bt)))
    (tS : PySem.W.nsIn K mainGlobals "super" = some none)
    (tL : K.lookup Ct = some (excClassObj nmT qT Ct Nt bsT [.ref Bt, .type "ValueError", .type "Exception", .type "BaseException", .type "object"] true snT subT abT colT ddT k0T k1T k2T k3T k5T "ValueError.__new__"))
    (t1 : PySem.W.findIn K (.ref Ct) "__setattr__" = some (some (.builtin "object.__setattr__")))
    (t2 : PySem.W.findIn K (.ref Ct) "limit" = some none)
    (t3 : PySem.W.findIn K (.ref Ct) "__init__" = some (some (.ref fI)))
    (t4 : PySem.W.typeIn K (.ref fI) = some (.type "function"))
    (t5 : PySem.W.keepIn K (.ref Ct) = true)
    (t6 : PySem.W.typeIn K (.ref Ct) = some (.type "type"))
    (e1 : PySem.W.findIn K (.ref Ct) "__getattribute__" = some (some (.builtin "BaseException.__getattribute__")))
    (e2 : PySem.W.findIn K (.ref Ct) "__getattr__" = some none)
    (e3 : PySem.W.subIn K (.ref Ct) (.type "BaseException") = some true)
    (e4 : PySem.W.hasDictIn K Ct = true)
    (e5 : PySem.W.findIn K (.ref Ct) "__class__" = some (some (.builtin "object.__class__")))
    (e6 : PySem.W.specialIn K (.builtin "object.__class__") "__get__" = some (some (.builtin "getset_descriptor.__get__")))
    (e7 : PySem.W.takesIn K (.builtin "object.__class__") = some true)
    (e8 : PySem.W.mroIn K Ct (.type "object") = some true)
    (t7 : PySem.W.subIn K (.ref Ct) (.ref Ct) = some true)
    (t8 : PySem.W.mroIn K Ct (.ref Ct) = some true)
    (t9 : PySem.W.kitOne K (.ref Ct) (.ref Bt) = some true)
    (v1 : PySem.W.subIn K (.ref Ct) (.type "ValueError") = some true)
    (v2 : PySem.W.nsIn K cStatics "thirdparty.any" = some none)
    (v3 : PySem.W.ks_superIn K Ct Ct "__init__" = some (some (.builtin "ValueError.__init__")))
    (v6 : K.lookup fI = some ⟨ocT, odT, .func (PySem.W.ksFn "__init__" "TooMany.__init__" (TmX.iA p1T p2T) (TmX.iB mT jT q1T q2T q3T q4T q5T q6T q7T q8T q9T q10T) TmX.iS .none .none dcT pmT anT (.ref cdT) ctT ccT), slT⟩)
    (v7 : PySem.W.codeIn K (.ref cdT) "TooMany.__init__" = true)
    (v8 : (q3T.endLine == q5T.line) = true)
    (v4 : K.lookup ccT = some ⟨cl, cldT, .cell (some (.ref Ct)), csl⟩)
    (v5 : K.lookup cdT = some ⟨ccl, cddT, .fields vsT, ccs⟩)
    (vF : (vsT[2]? : Option Value) = some (.str fl tfT))
    (pf : TmX.PF l.prog fl)
    : LawAtG l w K 47 63 "script" mg fa h := by
  have e := hfa.symm.trans (PySem.W.mg_of X G.T.g a25)
  cases e
  obtain ⟨v_MAX_SIZE, x_MAX_SIZE, y_MAX_SIZE⟩ := G.X.2.val ("MAX_SIZE", .int 1000000000000000000000000000000) (by simp)
  cases y_MAX_SIZE with
  | int _ tk_MAX_SIZE =>
  have T : ∃ T : Tx K mg, T.f_law = fa ∧ T.fd_law = PySem.W.fnOf "law" "law" (defArgs s_law) (defBody s_law) (defScope s_law) .none kV25 dc25 pm25 an25 cd25 ct25 ∧ T.fl = fl := ⟨{ f_is_stage := f0, fd_is_stage := _, F_is_stage := fun_mk (st := s_is_stage) l0 c0 k0, g_is_stage := PySem.W.mg_of X G.T.g a0, f_ways_and_stages := f1, fd_ways_and_stages := _, F_ways_and_stages := fun_mk (st := s_ways_and_stages) l1 c1 k1, g_ways_and_stages := PySem.W.mg_of X G.T.g a1, f_can_be_merged := f2, fd_can_be_merged := _, F_can_be_merged := fun_mk (st := s_can_be_merged) l2 c2 k2, g_can_be_merged := PySem.W.mg_of X G.T.g a2, f_weighted := f3, fd_weighted := _, F_weighted := fun_mk (st := s_weighted) l3 c3 k3, g_weighted := PySem.W.mg_of X G.T.g a3, f_with_part := f4, fd_with_part := _, F_with_part := fun_mk (st := s_with_part) l4 c4 k4, g_with_part := PySem.W.mg_of X G.T.g a4, f_merged_at := f5, fd_merged_at := _, F_merged_at := fun_mk (st := s_merged_at) l5 c5 k5, g_merged_at := PySem.W.mg_of X G.T.g a5, f_merged_once := f6, fd_merged_once := _, F_merged_once := fun_mk (st := s_merged_once) l6 c6 k6, g_merged_once := PySem.W.mg_of X G.T.g a6, f_is_within_bounds := f7, fd_is_within_bounds := _, F_is_within_bounds := fun_mk (st := s_is_within_bounds) l7 c7 k7, g_is_within_bounds := PySem.W.mg_of X G.T.g a7, f_merged := f8, fd_merged := _, F_merged := fun_mk (st := s_merged) l8 c8 k8, g_merged := PySem.W.mg_of X G.T.g a8, f_l_deck := f9, fd_l_deck := _, F_l_deck := fun_mk (st := s_l_deck) l9 c9 k9, g_l_deck := PySem.W.mg_of X G.T.g a9, f_l_draw := f10, fd_l_draw := _, F_l_draw := fun_mk (st := s_l_draw) l10 c10 k10, g_l_draw := PySem.W.mg_of X G.T.g a10, f_l_pick := f11, fd_l_pick := _, F_l_pick := fun_mk (st := s_l_pick) l11 c11 k11, g_l_pick := PySem.W.mg_of X G.T.g a11, f_l_mixed := f12, fd_l_mixed := _, F_l_mixed := fun_mk (st := s_l_mixed) l12 c12 k12, g_l_mixed := PySem.W.mg_of X G.T.g a12, f_l_common := f13, fd_l_common := _, F_l_common := fun_mk (st := s_l_common) l13 c13 k13, g_l_common := PySem.W.mg_of X G.T.g a13, f_l_weights := f14, fd_l_weights := _, F_l_weights := fun_mk (st := s_l_weights) l14 c14 k14, g_l_weights := PySem.W.mg_of X G.T.g a14, f_l_tree := f15, fd_l_tree := _, F_l_tree := fun_mk (st := s_l_tree) l15 c15 k15, g_l_tree := PySem.W.mg_of X G.T.g a15, f_l_plan := f16, fd_l_plan := _, F_l_plan := fun_mk (st := s_l_plan) l16 c16 k16, g_l_plan := PySem.W.mg_of X G.T.g a16, f_l_first := f17, fd_l_first := _, F_l_first := fun_mk (st := s_l_first) l17 c17 k17, g_l_first := PySem.W.mg_of X G.T.g a17, f_l_taken := f18, fd_l_taken := _, F_l_taken := fun_mk (st := s_l_taken) l18 c18 k18, g_l_taken := PySem.W.mg_of X G.T.g a18, f_l_taken_at := f19, fd_l_taken_at := _, F_l_taken_at := fun_mk (st := s_l_taken_at) l19 c19 k19, g_l_taken_at := PySem.W.mg_of X G.T.g a19, f_l_all_taken := f20, fd_l_all_taken := _, F_l_all_taken := fun_mk (st := s_l_all_taken) l20 c20 k20, g_l_all_taken := PySem.W.mg_of X G.T.g a20, f_l_top := f21, fd_l_top := _, F_l_top := fun_mk (st := s_l_top) l21 c21 k21, g_l_top := PySem.W.mg_of X G.T.g a21, f_l_heard := f22, fd_l_heard := _, F_l_heard := fun_mk (st := s_l_heard) l22 c22 k22, g_l_heard := PySem.W.mg_of X G.T.g a22, f_l_is_told := f23, fd_l_is_told := _, F_l_is_told := fun_mk (st := s_l_is_told) l23 c23 k23, g_l_is_told := PySem.W.mg_of X G.T.g a23, f_l_any := f24, fd_l_any := _, F_l_any := fun_mk (st := s_l_any) l24 c24 k24, g_l_any := PySem.W.mg_of X G.T.g a24, f_law := fa, fd_law := _, F_law := fun_mk (st := s_law) l25 c25 k25, g_law := PySem.W.mg_of X G.T.g a25, m_abs := PySem.W.mg_none_of X G.T.g z_abs, m_enumerate := PySem.W.mg_none_of X G.T.g z_enumerate, m_int := PySem.W.mg_none_of X G.T.g z_int, m_isinstance := PySem.W.mg_none_of X G.T.g z_isinstance, m_len := PySem.W.mg_none_of X G.T.g z_len, m_list := PySem.W.mg_none_of X G.T.g z_list, m_max := PySem.W.mg_none_of X G.T.g z_max, m_min := PySem.W.mg_none_of X G.T.g z_min, m_range := PySem.W.mg_none_of X G.T.g z_range, m_repr := PySem.W.mg_none_of X G.T.g z_repr, m_sum := PySem.W.mg_none_of X G.T.g z_sum, m_tuple := PySem.W.mg_none_of X G.T.g z_tuple, m_zip := PySem.W.mg_none_of X G.T.g z_zip, t_MAX_SIZE := tk_MAX_SIZE, c_MAX_SIZE := x_MAX_SIZE, C_tm := Ct, B_tm := Bt, f_tm := fI, cc_tm := ccT, cd_tm := cdT, fl := fl, tm := { gC := PySem.W.mg_of X G.T.g tC, gB := PySem.W.mg_of X G.T.g tB, gS := PySem.W.mg_none_of X G.T.g tS, cls := ⟨nmT, qT, Nt, bsT, _, snT, subT, abT, colT, ddT, k0T, k1T, k2T, k3T, k5T, tL, by first | rfl | decide +kernel⟩, sa := t1, noN := t2, iC := t3, tC := t4, kC := t5, tyC := t6, ec := ⟨e1, e2, e3, e4, e5, e6, e7, e8⟩, sC := t7, mC := t8, kit := t9, vC := v1, opq := v2, sup := v3, cell := ⟨_, _, _, v4⟩, code := ⟨_, _, _, _, _, v5, vF⟩, fn := ⟨_, _, _, _, _, _, _, _, _, _, _, _, _, _, _, _, _, _, _, _, _, v6, v7, v8⟩ } }, rfl, rfl, rfl⟩
  obtain ⟨T, e1, e2, e3⟩ := T
  have pf : TmX.PF l.prog T.fl := by rw [e3]; exact pf
  refine ⟨T.fd_law, [], spLaw K, (fun p hp => nomatch hp), (fun p hp => nomatch hp), (fun p hp => nomatch hp), fun s u => by rw [e2]; exact .of_eq rfl, fun H a ns hl hz hH hS => ⟨a, ns, rfl, hS, hl, fun _ => rfl⟩, fun base _ _ hT nd => ?_⟩
  have := ok_law T (P := l.prog) (w := w) (base := base) pf nd
  rw [e1] at this
  exact this
end SC.S
open PySem PySem.W PyProof.Rows
set_option maxHeartbeats 0 in
theorem PySem.Challenge.cw_stagecuts_k34_whole_merged_stage_by_stag_holds : PySem.Challenge.rw_stagecuts_k34_whole_merged_stage_by_stag.Holds := by
  w_on; o_law; k_head; (case hw => w_witness2)
  k_fill
  refine SC.walk_ofG (l := PySem.Challenge.rw_stagecuts_k34_whole_merged_stage_by_stag) (n := 63) (k := 47) (x := "script") rfl (by decide) rfl ⟨rfl, by decide, by decide⟩ (fun w h Y => PySem.W.kIn_of Y) ?F
  case F =>
    intro w s₀ mg mb fa h G Y KX hmg
    refine' SC.S.all_mk G KX hmg ?a0 ?l0 ?c0 ?k0 ?a1 ?l1 ?c1 ?k1 ?a2 ?l2 ?c2 ?k2 ?a3 ?l3 ?c3 ?k3 ?a4 ?l4 ?c4 ?k4 ?a5 ?l5 ?c5 ?k5 ?a6 ?l6 ?c6 ?k6 ?a7 ?l7 ?c7 ?k7 ?a8 ?l8 ?c8 ?k8 ?a9 ?l9 ?c9 ?k9 ?a10 ?l10 ?c10 ?k10 ?a11 ?l11 ?c11 ?k11 ?a12 ?l12 ?c12 ?k12 ?a13 ?l13 ?c13 ?k13 ?a14 ?l14 ?c14 ?k14 ?a15 ?l15 ?c15 ?k15 ?a16 ?l16 ?c16 ?k16 ?a17 ?l17 ?c17 ?k17 ?a18 ?l18 ?c18 ?k18 ?a19 ?l19 ?c19 ?k19 ?a20 ?l20 ?c20 ?k20 ?a21 ?l21 ?c21 ?k21 ?a22 ?l22 ?c22 ?k22 ?a23 ?l23 ?c23 ?k23 ?a24 ?l24 ?c24 ?k24 ?a25 ?l25 ?c25 ?k25 ?z_abs ?z_enumerate ?z_int ?z_isinstance ?z_len ?z_list ?z_max ?z_min ?z_range ?z_repr ?z_sum ?z_tuple ?z_zip ?tC ?tB ?tS ?tL ?t1 ?t2 ?t3 ?t4 ?t5 ?t6 ?e1 ?e2 ?e3 ?e4 ?e5 ?e6 ?e7 ?e8 ?t7 ?t8 ?t9 ?v1 ?v2 ?v3 ?v6 ?v7 ?v8 ?v4 ?v5 ?vF ?pf
    (case a0 => k_is); (case l0 => k_is); (case c0 => k_is); (case k0 => k_is); (case a1 => k_is); (case l1 => k_is); (case c1 => k_is); (case k1 => k_is); (case a2 => k_is); (case l2 => k_is); (case c2 => k_is); (case k2 => k_is); (case a3 => k_is); (case l3 => k_is); (case c3 => k_is); (case k3 => k_is); (case a4 => k_is); (case l4 => k_is); (case c4 => k_is); (case k4 => k_is); (case a5 => k_is); (case l5 => k_is); (case c5 => k_is); (case k5 => k_is); (case a6 => k_is); (case l6 => k_is); (case c6 => k_is); (case k6 => k_is); (case a7 => k_is); (case l7 => k_is); (case c7 => k_is); (case k7 => k_is); (case a8 => k_is); (case l8 => k_is); (case c8 => k_is); (case k8 => k_is); (case a9 => k_is); (case l9 => k_is); (case c9 => k_is); (case k9 => k_is); (case a10 => k_is); (case l10 => k_is); (case c10 => k_is); (case k10 => k_is); (case a11 => k_is); (case l11 => k_is); (case c11 => k_is); (case k11 => k_is); (case a12 => k_is); (case l12 => k_is); (case c12 => k_is); (case k12 => k_is); (case a13 => k_is); (case l13 => k_is); (case c13 => k_is); (case k13 => k_is); (case a14 => k_is); (case l14 => k_is); (case c14 => k_is); (case k14 => k_is); (case a15 => k_is); (case l15 => k_is); (case c15 => k_is); (case k15 => k_is); (case a16 => k_is); (case l16 => k_is); (case c16 => k_is); (case k16 => k_is); (case a17 => k_is); (case l17 => k_is); (case c17 => k_is); (case k17 => k_is); (case a18 => k_is); (case l18 => k_is); (case c18 => k_is); (case k18 => k_is); (case a19 => k_is); (case l19 => k_is); (case c19 => k_is); (case k19 => k_is); (case a20 => k_is); (case l20 => k_is); (case c20 => k_is); (case k20 => k_is); (case a21 => k_is); (case l21 => k_is); (case c21 => k_is); (case k21 => k_is); (case a22 => k_is); (case l22 => k_is); (case c22 => k_is); (case k22 => k_is); (case a23 => k_is); (case l23 => k_is); (case c23 => k_is); (case k23 => k_is); (case a24 => k_is); (case l24 => k_is); (case c24 => k_is); (case k24 => k_is); (case a25 => k_is); (case l25 => k_is); (case c25 => k_is); (case k25 => k_is); (case z_abs => k_is); (case z_enumerate => k_is); (case z_int => k_is); (case z_isinstance => k_is); (case z_len => k_is); (case z_list => k_is); (case z_max => k_is); (case z_min => k_is); (case z_range => k_is); (case z_repr => k_is); (case z_sum => k_is); (case z_tuple => k_is); (case z_zip => k_is); (case tC => k_is); (case tB => k_is); (case tS => k_is); (case tL => k_is); (case t1 => k_is); (case t2 => k_is); (case t3 => k_is); (case t4 => k_is); (case t5 => k_is); (case t6 => k_is); (case e1 => k_is); (case e2 => k_is); (case e3 => k_is); (case e4 => k_is); (case e5 => k_is); (case e6 => k_is); (case e7 => k_is); (case e8 => k_is); (case t7 => k_is); (case t8 => k_is); (case t9 => kit_is); (case v1 => k_is); (case v2 => k_is); (case v3 => first | k_is | kernel_rfl | rfl); (case v6 => k_is); (case v7 => k_is); (case v8 => first | rfl | decide); (case v4 => k_is); (case v5 => k_is); (case vF => rfl); (case pf => exact ⟨by first | rfl | decide +kernel, by first | rfl | decide +kernel⟩)

import PyProof.Rows.All
import Wide.All
import OpenK.AllK
import Wide.FinOn
import HandS.ForMost
import HandS.Wide
import HandS.Conv
import HandS.Style
import HandS.NoneIn
import HandS.IsInst
import HandS.SortInts
import HandS.Zip
import HandS.Evl
import HandS.More
import PyProof.TypeEq
import HandS.SortRule
import HandS.SetFor
import HandS.Strs
import HandS.Walk
import PySem.Challenge.RW_leadboard_k06_entries_with_other_scores
set_option Elab.async false
set_option linter.all false
set_option maxRecDepth 100000
set_option maxHeartbeats 8000000
/-! own rules over the hand layer: powers of great ints, repr of data, defs that use repr, calls by keywords alone -/
namespace Lb
open PySem PySem.Spec PyProof.Rows L2
abbrev rAddI : R2 := rI0 fun i j => .int (i + j)
abbrev rSubI : R2 := rI0 fun i j => .int (i - j)
abbrev rMulI : R2 := rI CMul fun i j => .int (i * j)
abbrev rModI : R2 := rI (fun _ j => 0 < j) fun i j => .int (i % j)
abbrev rDivI : R2 := rI CDivW fun i j => .int (i / j)
abbrev rLtI : R2 := rI0 fun i j => .bl (decide (i < j))
abbrev rLeI : R2 := rI0 fun i j => .bl (decide (i ≤ j))
abbrev rGtI : R2 := rI0 fun i j => .bl (decide (j < i))
abbrev rGeI : R2 := rI0 fun i j => .bl (decide (j ≤ i))
def CPowW (i j : Int) : Prop := 0 ≤ j ∧ (Builtin.Int.intBits i : Int) * j ≤ 2 ^ 27
abbrev rPowI : R2 := rI CPowW fun i j => .int (i ^ j.toNat)
def rMin2 : List V → Hp → VK → Prop := fun xs H Q => ∃ i j, xs = [.int i, .int j] ∧ Q (.int (if j < i then j else i)) H
def rAbs : List V → Hp → VK → Prop := fun xs H Q => ∃ i, xs = [.int i] ∧ Q (.int (if i < 0 then -i else i)) H
section
variable {X : Cx}
theorem op_powW : OpR X (binaryOp .Pow) rPowI := opI fun _ _ _ _ _ _ _ hc q => pow_int hc.1 hc.2 q
end
theorem bits_le {i : Int} {k : Nat} (h : i.natAbs < 2 ^ k) (hk : 0 < k) : Builtin.Int.intBits i ≤ k := by
  have h1 := PySem.Flt.log2_lt_of hk h
  unfold Builtin.Int.intBits
  split <;> omega
theorem powW {i j : Int} {k : Nat} (h : i.natAbs < 2 ^ k) (hk : 0 < k) (hj : 0 ≤ j) (hb : (k : Int) * j ≤ 2 ^ 27) : CPowW i j := by
  refine ⟨hj, Int.le_trans (Int.mul_le_mul_of_nonneg_right ?_ hj) hb⟩
  exact Int.ofNat_le.mpr (bits_le h hk)

/-! ### repr of data -/
def rRepr (K : PySem.W.Frag) : List V → Hp → VK → Prop := fun xs H Q => ∃ a d, xs = [.ref a] ∧ Dp K H (.ref a) d ∧ d.showable = true ∧ d.hasDict = false ∧ d.depth ≤ 100 ∧ d.shown.length ≤ sizeLine ∧ Q (.str d.shown) H
section
variable {X : Cx}
theorem call_repr {k : Nat} (hg : X.A.guards = some []) (hr : Room k X.A) : CallR X (.builtin "repr") (rRepr X.K) := by
  intro pins s σ H xs us Q I r h
  obtain ⟨a, d, rfl, hd, sh, nd, dep, len, q⟩ := h
  have e := Vals.ref1 r
  subst e
  obtain ⟨as, rd⟩ := Dp.reads I d (.ref a) (.ref a) hd rfl
  have hu := hr.un
  exact repr_of_reads' rd sh (fun z => by rw [nd] at z; cases z) hg (by omega) (fun _ _ e => e)
    (fun h' u tk kp => ⟨.str d.shown, H, I.kept kp, ⟨u, rfl⟩, q⟩) len
end

/-! ### defs that want no guard around (repr within) -/
structure FnG (P : Program) (w : World) (K : PySem.W.Frag) (mg : Str → Option Value) (base : Heap) (k : Nat) (f : Addr) (fd : FuncData) (ps : List Str) (sp : Sp) : Prop where
  len : ∀ vs H Q E, sp vs H Q E → vs.length = ps.length
  run : ∀ (A : Around), A.guards = some [] → ∀ (outer : List Env) (s : Shared) (H : Hp) (args : Args) (us : List Value) (vs : List V) (Q : VK) (E : XK),
    Room k A → Env0 P w K mg base A outer s H → BindsTo s fd args (ps.zip us) → Vals vs us → sp vs H Q E →
      codeAny (model P w) A (.call (.ref f) args) (CR CX0 outer P w H s Q E) s
/-- a def by its body, no guard around -/
theorem Fun_okG {P : Program} {w : World} {K : PySem.W.Frag} {mg : Str → Option Value} {base : Heap} {x qual : Str} {st : Stmt} {f : Addr} {fd : FuncData} {N ps : List Str} {k : Nat} {sp : Sp}
    (F : Fun K x qual st f fd) (S : FnScope N ps (defScope st)) (len : ∀ vs H Q E, sp vs H Q E → vs.length = ps.length)
    (hbody : ∀ (cdv : Value) (A : Around) (outer : List Env) (s : Shared) (H : Hp) (vs : List V) (Q : VK) (E : XK),
      A.guards = some [] → Room k (A.deeper (envOfC qual (defScope st) s.heap.objs.size f cdv)) → sp vs H Q E →
      ∃ t, PSs (cxOf CX0 P w K mg base N qual (defScope st) f cdv A outer s H E).nox (defBody st) t ∧ t { nx := fun _ H' => Q .non H', rt := Q } (start N vs) H) :
    FnG P w K mg base (k + 1) f fd ps sp := by
  obtain ⟨oc, od, kV, doc, pm, an, cdv, ct, osl, rfl, lk, hcd⟩ := F.ex
  refine ⟨len, fun A hA outer s H args us vs Q E hr e0 hb rv hs => ?_⟩
  have inK := e0.mod.kin.keeps fun b o e => (e0.bs b o e).1
  have nolim := e0.mod.nolimit.keeps fun b o e => (e0.bs b o e).1
  refine codeAny_call_function hr.depth (inK _ _ lk) rfl S.co S.gen rfl (PySem.W.codeRec_of inK hcd) (hb _ _ _ _ ?_)
  refine wpAny_newFunctionEnv_cells S.kind (fun y hy => ?_) fun env he s1 ic => ?_
  · rcases S.par y.1 (List.of_mem_zip (show (y.1, y.2) ∈ ps.zip us from hy)).1 with q | q
    · exact .inl q
    · exact .inr ⟨q, PySem.W.cellsFrom_some _ _ _ (.inl q)⟩
  subst he
  refine ⟨nolim.keeps ic.toInCall.keep, codeAny_func ?_⟩
  obtain ⟨t, ht, hq⟩ := hbody cdv A outer s H vs Q E hA (hr.deeper _) hs
  have I0 := inv_start (CX := CX0) (E := E) S hr.hd e0 (len _ _ _ _ hs) rv ic
  refine wpAny_mono (ht.nox.run [] s1 (start N vs) H _ I0 hq) (fun fl s' z => ?_) fun _ _ z => z
  cases fl with
  | ret u =>
    obtain ⟨v, σ', H', J, r', q'⟩ := z
    exact ⟨v, H', J.os, J.bare, J.base, J.hok, r', q'⟩
  | next =>
    obtain ⟨σ', H', J, q'⟩ := z
    exact ⟨V.non, H', J.os, J.bare, J.base, J.hok, rfl, q'⟩
  | brk =>
    obtain ⟨_, _, _, z⟩ := z
    exact z.elim
  | cont =>
    obtain ⟨_, _, _, z⟩ := z
    exact z.elim
/-- a def that wants nothing of the guards -/
theorem FnG.of {P : Program} {w : World} {K : PySem.W.Frag} {mg : Str → Option Value} {base : Heap} {k : Nat} {f : Addr} {fd : FuncData} {ps : List Str} {sp : Sp} (F : FnOk P w K mg base CX0 k f fd ps sp) : FnG P w K mg base k f fd ps sp :=
  ⟨F.len, fun A _ => F.run A⟩
section
variable {X : Cx} {k : Nat} {f : Addr} {fd : FuncData} {ps ks : List Str} {sp : Sp} {x : Str} {p pos : Pos} {e : Expr} {es : List Expr} {t tk : TA} {kws : List Keyword}
theorem ends_call {pins : List (Addr × Obj)} {σ : L2.St} {H : Hp} {s s' : Shared} {Q : VK} {r : Result} (I : Inv X pins σ H s) (h : CR CX0 X.stack X.prog X.w H s Q E0 r s') :
    match r with
    | .error e => X.xe e s'
    | .ok (.ret u) => EP X pins σ Q u s'
    | _ => False := by
  cases r with
  | error e => exact False.elim h
  | ok fl =>
    cases fl with
    | ret u => exact I.after h
    | next => exact False.elim h
    | brk => exact False.elim h
    | cont => exact False.elim h
theorem pe_callG (hgd : X.A.guards = some []) (F : FnG X.prog X.w X.K X.mg X.base k f fd ps sp) (hr : Room k X.A) (hg : Gl X x) (hm : X.mg x = some (.ref f)) (hk : PySem.W.keepIn X.K (.ref f) = true) (hb : Binds X.K fd ps []) (_ : Vals [] [])
    (_ : Passes CX0 X E0) (ha : PA X (e :: es) t) (hdb : (x == ("__debug__" : Str)) = false := by decide) (he : starEach (e :: es) X.env = (false, eval e X.env) :: starEach es X.env := by rfl)
    (hpl : (backTo pos (starEach es X.env)).any (·.1) = false := by rfl) : PE X (.Call (.Name x p) (e :: es) [] pos) (tCall sp [] E0 t) := by
  constructor
  intro pins s σ H Q I h
  refine wpAny_Call_Name_kw (ld_glob I hg hm ?_ hdb)
  refine PySem.W.callWith_K (h₀ := X.base) I.ok.mod.kin hk (thn (ha.run pos pins s σ H _ I h) fun us s1 z => ?_) he hpl
  obtain ⟨vs, H1, I1, rv, q⟩ := z
  refine ⟨I1.kIn, ?_⟩
  have q' : sp vs H1 Q E0 := by rw [List.append_nil] at q; exact q
  have hl : us.length = ps.length := by rw [← rv.length]; exact F.len _ _ _ _ q'
  have hb' := hb s1 us I1.kIn (by rw [List.append_nil]; exact hl)
  rw [List.append_nil] at hb'
  refine wpAny_call (codeAny_mono (F.run X.A hgd X.stack s1 H1 ⟨us, []⟩ us vs Q E0 hr I1.env0 hb' rv q') fun r s' hq => ?_)
  have z := ends_call I1 hq
  cases r with
  | error e => exact z
  | ok fl =>
    cases fl with
    | ret u => exact z
    | next => exact z
    | brk => exact z
    | cont => exact z
/-- the values in the parameters' order: perm tells at each parameter which keyword it is -/
def pick {α : Type} (perm : List Nat) (d : α) (ws : List α) : List α := perm.map fun i => ws.getD i d
structure KB (K : PySem.W.Frag) (fd : FuncData) (ps ks : List Str) (perm : List Nat) : Prop where
  to : ∀ (s : Shared) (ws : List Value), ws.length = ks.length → BindsTo s fd ⟨[], ks.zip ws⟩ (ps.zip (pick perm Value.none ws))
def tCallK0 (sp : Sp) (perm : List Nat) (t : TA) : TE := fun σ H Q => t σ H fun zs H1 => zs.length = perm.length ∧ (∀ i ∈ perm, i < zs.length) ∧ sp (pick perm V.non zs) H1 Q E0
theorem pick_vals {perm : List Nat} {zs : List V} {ws : List Value} (r : Vals zs ws) (h : ∀ i ∈ perm, i < zs.length) : Vals (pick perm V.non zs) (pick perm Value.none ws) := by
  induction perm with
  | nil => exact .nil
  | cons i p ih =>
    have hi := h i List.mem_cons_self
    obtain ⟨u, hu, ru⟩ := r.get (List.getElem?_eq_getElem hi)
    refine .cons ?_ (ih fun j hj => h j (List.mem_cons_of_mem _ hj))
    show RelV (zs.getD i V.non) (ws.getD i Value.none)
    rw [List.getD_eq_getElem?_getD, List.getD_eq_getElem?_getD, hu, List.getElem?_eq_getElem hi]
    exact ru
theorem pe_callK0 {perm : List Nat} (F : FnOk X.prog X.w X.K X.mg X.base CX0 k f fd ps sp) (hr : Room k X.A) (hg : Gl X x) (hm : X.mg x = some (.ref f)) (hk : PySem.W.keepIn X.K (.ref f) = true) (hb : KB X.K fd ps ks perm)
    (_ : Passes CX0 X E0) (hkw : PK X kws tk) (hl : perm.length = ks.length := by rfl) (hall : (backToKw pos (keywordEach kws X.env)).all (·.1.isSome) = true := by rfl) (hks : (backToKw pos (keywordEach kws X.env)).filterMap (·.1) = ks := by rfl)
    (hdb : (x == ("__debug__" : Str)) = false := by decide)
    (hpl : ((backTo pos (starEach [] X.env)).any (·.1) || (backToKw pos (keywordEach kws X.env)).any (·.1.isNone)) = false := by rfl) :
    PE X (.Call (.Name x p) [] kws pos) (tCallK0 sp perm tk) := by
  constructor
  intro pins s σ H Q I h
  refine wpAny_Call_Name_kw (ld_glob I hg hm ?_ hdb)
  refine PySem.W.callWith_KW0 (h₀ := X.base) I.ok.mod.kin hk hall (thn (hkw.run pos pins s σ H _ I h) fun ws s1 z => ?_) hpl
  obtain ⟨zs, H1, I1, rv, l1, l2, q⟩ := z
  refine ⟨I1.kIn, ?_⟩
  rw [hks]
  have lw : ws.length = ks.length := by rw [← rv.length, l1, hl]
  refine wpAny_call (codeAny_mono (F.run X.A X.stack s1 H1 ⟨[] ++ [], ks.zip ws⟩ _ _ Q E0 hr I1.env0 (hb.to s1 ws lw) (pick_vals rv l2) q) fun r s' hq => ?_)
  have z := ends_call I1 hq
  cases r with
  | error e => exact z
  | ok fl =>
    cases fl with
    | ret u => exact z
    | next => exact z
    | brk => exact z
    | cont => exact z
end

/-! ### lists read, told by their plain object: + of them -/
def SqP (K : PySem.W.Frag) (H : Hp) (a : Addr) (xs : List V) : Prop :=
  Rd H a (.lst xs) ∨ ∃ (its : List Value) (n : Nat), K.lookup a = some { cls := .type "list", data := .seq its.toArray n } ∧ its.length ≤ sizeLine ∧ Vals xs its
theorem SqP.of {K : PySem.W.Frag} {H : Hp} {a : Addr} {xs : List V} (h : H a = some (.lst xs)) : SqP K H a xs := .inl (.inl h)
theorem SqP.sq {K : PySem.W.Frag} {H : Hp} {a : Addr} {xs : List V} (h : SqP K H a xs) : SqL K H a xs := by
  rcases h with h | ⟨its, n, h1, h2, h3⟩
  · exact .inl h
  · exact .inr ⟨_, its.toArray, n, h1, rfl, rfl, rfl, by simpa using h2, by simpa using h3⟩
theorem SqP.same {K : PySem.W.Frag} {H H' : Hp} {a : Addr} {xs : List V} (e : Same H H') (h : SqP K H a xs) : SqP K H' a xs := by
  rcases h with (h | ⟨o, h⟩) | h
  · exact .inl (.inl (e _ _ h))
  · exact .inl (.inr ⟨o, e _ _ h⟩)
  · exact .inr h
theorem inv_plain {X : Cx} {pins : List (Addr × Obj)} {σ : L2.St} {H : Hp} {s : Shared} {a : Addr} {xs : List V} (I : Inv X pins σ H s) (h : SqP X.K H a xs) :
    xs.length ≤ sizeLine ∧ ∃ (its : List Value) (n : Nat), Vals xs its ∧ s.heap.get? a = some { cls := .type "list", data := .seq its.toArray n } := by
  rcases h with h | ⟨its, n, h1, h2, h3⟩
  · obtain ⟨z, its, n, r, e⟩ := h.ok I.hok
    exact ⟨z, its, n, r, e⟩
  · exact ⟨by rw [h3.length]; exact h2, its, n, h3, I.kIn a _ h1⟩
def rCatP (K : PySem.W.Frag) : R2 := fun x y H Q => ∃ l b xs zs, x = .ref l ∧ y = .ref b ∧ SqP K H l xs ∧ SqP K H b zs ∧ xs.length + zs.length ≤ sizeLine ∧ ∀ p, H p = none → Q (.ref p) (upd H p (.lst (xs ++ zs)))
def rTyEq : R2 := fun x y H Q => ∃ a b, x = .ty a ∧ y = .ty b ∧ (∀ s : Shared, s.TypeIs (.type a) "type") ∧ (∀ s : Shared, s.TypeIs (.type b) "type") ∧ Q (.bl (decide (a = b))) H
section
variable {X : Cx}
theorem op_catP : OpR X (binaryOp .Add) (rCatP X.K) := by
  intro pins s σ H x y v u Q I rx ry h
  obtain ⟨l, b, xs, zs, rfl, rfl, hH, hB, hz, q⟩ := h
  cases rx
  cases ry
  obtain ⟨z1, i1, n1, r1, e1⟩ := inv_plain I hH
  obtain ⟨z2, i2, n2, r2, e2⟩ := inv_plain I hB
  have l1 := r1.length
  have l2 := r2.length
  refine PySem.P.add_list e1 e2 ?_ (by rw [List.size_toArray, List.size_toArray]; omega)
  rw [show i1.toArray ++ i2.toArray = (i1 ++ i2).toArray by simp]
  exact ⟨.ref _, _, I.lnew (t' := s.toks) (r1.append r2) (by rw [List.length_append]; exact hz), rfl, q _ I.fresh⟩
theorem op_eqTy : OpR X (compareOp .Eq) rTyEq := by
  intro pins s σ H x y v u Q I rx ry h
  obtain ⟨a, b, rfl, rfl, ha, hb, q⟩ := h
  obtain rfl : v = .type a := rx
  obtain rfl : u = .type b := ry
  by_cases e : a = b
  · subst e
    exact TypeEq.eq_type_same ha ⟨.bl true, H, I, rfl, by rw [decide_eq_true rfl] at q; exact q⟩
  · refine TypeEq.eq_type_other ha hb (beq_eq_false_iff_ne.mpr fun z => e (Value.type.inj z)) ⟨.bl false, H, I, rfl, ?_⟩
    rw [decide_eq_false e] at q
    exact q
end

/-! ### the end of a law whose defs use repr -/
section
variable {P : Program} {w : World} {K : PySem.W.Frag} {mg mb : Str → Option Value} {s₁ : Shared}
theorem env_of {H : Hp} {a : Addr} {vs : List Value} {c : Nat} (KX : K.In s₁.heap) (hg : s₁.heap.Ns mainGlobals mg) (hb : s₁.heap.Ns builtinsNs mb) (hbb : ∀ x : Str, x ≠ "__name__" → mb x = bootBuiltins x) (hlim : s₁.heap.NoLimit) (hgen : s₁.gens = #[])
    (ha : s₁.heap.get? a = some { cls := .type "list", data := .seq vs.toArray c }) (one : ∀ b, H b ≠ none → b = a) (away : H a ≠ none → K.lookup a = none) (ok : HOk P w H s₁.heap) :
    Env0 P w K mg (hidT s₁.heap H) callerA [] s₁ H := by
  have free : ∀ {b : Addr} {o : Obj} {es : Array DictEntry} {ep : Nat}, s₁.heap.get? b = some o → o.data = .dict es ep → H b = none := by
    intro b o es ep e d
    apply Classical.byContradiction
    intro n
    have := one b n
    subst this
    rw [ha] at e
    cases e
    exact Data.noConfusion d
  have ns : ∀ {b : Addr} {m : Str → Option Value}, s₁.heap.Ns b m → (hidT s₁.heap H).Ns b m := by
    rintro b m ⟨o, es, ep, e, d, r⟩
    exact ⟨o, es, ep, hidT_get e (free e d), d, r⟩
  have inK : K.In (hidT s₁.heap H) := by
    intro b o e
    refine hidT_get (KX b o e) ?_
    apply Classical.byContradiction
    intro n
    have q := one b n
    subst q
    rw [away n] at e
    cases e
  obtain ⟨mc, l1, l2⟩ := hlim
  have m : Mod K mg (hidT s₁.heap H) := ⟨inK, ns hg, ⟨mb, ns hb, hbb⟩, ⟨mc, ns l1, l2⟩⟩
  exact ⟨rfl, m, fun b o e => of_hidT e, Nat.le_of_eq (hidT_size _ _), trivial, fun b z => absurd z (by simp [frs]), ok, .of_eq hgen⟩
theorem fin_of {H : Hp} {a : Addr} {xs : List V} {o : Obj} {r : Result} {s' : Shared} (ok : HOk P w H s₁.heap) (only : ∀ b, H b = none ∨ (b = a ∧ H b = some (.frz o (.lst xs))))
    (h : CR CX0 [] P w H s₁ (fun v _ => v = .bl true) E0 r s') : r = .ok (.ret (.bool true)) ∧ OldK s₁.heap s'.heap ∧ s'.os = s₁.os ∧ AllBare s'.gens := by
  cases r with
  | error e => exact False.elim h
  | ok fl =>
    cases fl with
    | next => exact False.elim h
    | brk => exact False.elim h
    | cont => exact False.elim h
    | ret u =>
      obtain ⟨v, H', os, bare, un, ok', rv, q⟩ := h
      have q2 : v = .bl true := q
      subst q2
      obtain rfl : u = Value.bool true := rv
      refine ⟨rfl, OldK.of_keep fun b ob e => ?_, os, bare⟩
      rcases only b with z | ⟨_, z⟩
      · exact un.keep b ob e z (by simp [frs]) (by simp)
      · have e1 := (ok b _ z).1
        have e2 := (ok' b _ (un.frzs b o _ z)).1
        rw [e] at e1
        cases e1
        exact e2
end
theorem walk_ofG {l : PySem.W.OpenLaw} {n k : Nat} {q : Program} {loose : List Str} {XP : (Str → Option Value) → Heap → Prop} {YP : World → Heap → Prop} {d : DefRec} {K : Params → PySem.W.Frag} {sp : PySem.W.Frag → Sp} {x : Str}
    (hn : l.most = some n) (hn2 : n ≤ sizeLine) (hdf : d.params.defaults = []) (hr : Room k callerA)
    (hY : ∀ (w : World) (h : Heap), YP w h → (K w.params).In h)
    (F : ∀ (w : World) (mg : Str → Option Value) (fa : Addr) (h : Heap), (K w.params).In h → h.Ns mainGlobals mg → mg d.name = some (.ref fa) →
      ∃ fd : FuncData, (∀ (s : Shared) (u : Value), BindsTo s fd ⟨[u], []⟩ [(x, u)]) ∧
        ∀ base : Heap, (K w.params).In base → base.Ns mainGlobals mg → FnG l.prog w (K w.params) mg base k fa fd [x] (sp (K w.params)))
    (hsp : ∀ (K : PySem.W.Frag) (H : Hp) (a : Addr) (ns : List Int), ns.length ≤ n → SqP K H a (ns.map V.int) → sp K [.ref a] H (fun v _ => v = .bl true) E0) :
    PySem.W.WalkO q loose XP YP l.row.toRowW d [] (fun f vs => PySem.call f vs) := by
  refine Att.attach_call hn hdf fun w s₀ s₁ mg mb fa o pm cd doc a vs ns G Y ho hd hcd hmg hobj hints hlen hg => ?_
  have KX := hY w _ Y
  obtain ⟨fd, hb, hF⟩ := F w mg fa _ KX G.T.g hmg
  have rv := vals_ints hints
  have lv := hints.length
  cases hk : (K w.params).lookup a with
  | some ob =>
    have e := KX a ob hk
    rw [hobj] at e
    cases e
    have ok : HOk l.prog w (fun _ => none) s₁.heap := fun b u z => by cases z
    have e0 := env_of (K := K w.params) KX G.T.g G.T.b G.T.builtins G.T.nolimit hg hobj (H := fun _ => none) (fun b z => absurd rfl z) (fun z => absurd rfl z) ok
    refine codeAny_mono ((hF _ e0.mod.kin e0.mod.glob).run callerA rfl [] s₁ _ ⟨[.ref a], []⟩ [.ref a] [.ref a] _ E0 hr e0 (hb s₁ (.ref a)) (.cons rfl .nil) (hsp _ _ a ns hlen (.inr ⟨vs, _, hk, by omega, rv⟩))) fun r s' h => ?_
    exact fin_of (a := a) (xs := []) (o := default) ok (fun b => .inl rfl) h
  | none =>
    have ok : HOk l.prog w (fun b => if b = a then some (.frz { cls := .type "list", data := .seq vs.toArray } (.lst (ns.map V.int))) else none) s₁.heap := by
      intro b u z
      dsimp only at z
      by_cases hb : b = a
      · rw [if_pos hb] at z
        cases z
        subst hb
        exact ⟨hobj, by rw [List.length_map]; omega, vs, _, rv, hobj⟩
      · rw [if_neg hb] at z
        cases z
    have e0 := env_of (K := K w.params) KX G.T.g G.T.b G.T.builtins G.T.nolimit hg hobj (H := fun b => if b = a then some (.frz { cls := .type "list", data := .seq vs.toArray } (.lst (ns.map V.int))) else none)
      (fun b z => Classical.byContradiction fun nb => z (if_neg nb)) (fun _ => hk) ok
    refine codeAny_mono ((hF _ e0.mod.kin e0.mod.glob).run callerA rfl [] s₁ _ ⟨[.ref a], []⟩ [.ref a] [.ref a] _ E0 hr e0 (hb s₁ (.ref a)) (.cons rfl .nil) (hsp _ _ a ns hlen (.inl (.inr ⟨_, if_pos rfl⟩)))) fun r s' h => ?_
    refine fin_of (a := a) (xs := ns.map V.int) (o := { cls := .type "list", data := .seq vs.toArray }) ok (fun b => ?_) h
    by_cases hb : b = a
    · exact .inr ⟨hb, if_pos hb⟩
    · exact .inl (if_neg hb)
end Lb

/-! sorted of triples of ints -/
namespace Lb
open PySem PySem.Spec PyProof.Rows
abbrev T3 : Type := Int × Int × Int
def lexT (p q : T3) : Bool := if p.1 = q.1 then SrtO.lexB p.2 q.2 else decide (p.1 < q.1)
theorem lexT_iff {p q : T3} : lexT p q = true ↔ p.1 < q.1 ∨ (p.1 = q.1 ∧ (p.2.1 < q.2.1 ∨ (p.2.1 = q.2.1 ∧ p.2.2 < q.2.2))) := by
  unfold lexT
  by_cases e : p.1 = q.1
  · rw [if_pos e, SrtO.lexB_iff]
    omega
  · rw [if_neg e, decide_eq_true_eq]
    omega
theorem lexT_no {p q : T3} : lexT p q = false ↔ ¬ (p.1 < q.1 ∨ (p.1 = q.1 ∧ (p.2.1 < q.2.1 ∨ (p.2.1 = q.2.1 ∧ p.2.2 < q.2.2)))) := by
  rw [← lexT_iff]
  cases lexT p q <;> simp
theorem swo_T {α : Type} (k : α → T3) : SrtO.Swo fun v u => lexT (k v) (k u) := by
  refine ⟨fun x y h => ?_, fun x y z h1 h2 => ?_⟩
  · have a := lexT_iff.mp h
    refine lexT_no.mpr ?_
    omega
  · have a := lexT_no.mp h1
    have b := lexT_no.mp h2
    refine lexT_no.mpr ?_
    omega
section
variable {prog : Program} {w : World} {A : Around} {E : Value → Shared → Prop} {s : Shared}
def IsTrip (h : Heap) (v : Value) (z : T3) : Prop := ∃ a o t u r n, v = .ref a ∧ h.get? a = some o ∧ o.cls = .type "tuple" ∧ o.data = .seq #[.int z.1 t, .int z.2.1 u, .int z.2.2 r] n
theorem IsTrip.keeps {h h' : Heap} {v : Value} {z : T3} (p : IsTrip h v z) (k : ∀ b o, h.get? b = some o → o.cls = .type "tuple" → h'.get? b = some o) : IsTrip h' v z := by
  obtain ⟨a, o, t, u, r, n, e, ho, hc, hd⟩ := p
  exact ⟨a, o, t, u, r, n, e, k _ _ ho hc, hc, hd⟩
theorem trip_firsts {h : Heap} {k : Value → T3} : ∀ {vs : List Value}, (∀ v ∈ vs, IsTrip h v (k v)) → ∃ fs : List Value, PySem.W.KatTups h vs fs ∧ fs.length = vs.length ∧ ∀ f ∈ fs, ∃ x t, f = Value.int x t
  | [], _ => ⟨[], PySem.W.KatTups.nil, rfl, fun _ hm => by simp at hm⟩
  | v :: vs, hp => by
    obtain ⟨fs, h1, h2, h3⟩ := trip_firsts (vs := vs) fun v' hm => hp v' (List.mem_cons_of_mem _ hm)
    obtain ⟨a, o, t, u, r, n, e, ho, hc, hd⟩ := hp v (List.mem_cons_self ..)
    generalize k v = z at hd
    subst e
    refine ⟨.int z.1 t :: fs, PySem.W.KatTups.cons ho hc hd rfl h1, by rw [List.length_cons, List.length_cons, h2], fun f hm => ?_⟩
    rcases List.mem_cons.mp hm with rfl | hm
    · exact ⟨_, t, rfl⟩
    · exact h3 f hm
theorem trip_cmp {vs : List Value} {k : Value → T3} (hp : ∀ v ∈ vs, IsTrip s.heap v (k v)) : SrtO.Cmp prog w A s (tuples' true) (fun p => p.1 ∈ vs) (SrtO.lt2 fun v u => lexT (k v) (k u)) := by
  intro p q hm hm'
  have h1 := hp _ hm
  have h2 := hp _ hm'
  show wpAny (model prog w) A (keyLt' (tuples' true) p.1 q.1) (fun r s' => s' = s ∧ r = lexT (k p.1) (k q.1)) (fun _ _ => False) s
  generalize k p.1 = z at h1 ⊢
  generalize k q.1 = z' at h2 ⊢
  obtain ⟨x, y, c⟩ := z
  obtain ⟨x', y', c'⟩ := z'
  obtain ⟨a, o, t, u, r, n, e, ho, hc, hd⟩ := h1
  obtain ⟨a', o', t', u', r', n', e', ho', hc', hd'⟩ := h2
  rw [e, e']
  refine PySem.W.kat_lt ho hd ho' hd' ?_
  show PySem.W.KatLex prog w A true (decide (3 < 3)) _ [(.int x t, .int x' t'), (.int y u, .int y' u'), (.int c r, .int c' r')] 0 s
  refine PySem.W.kat_cons (SeqAt.EqAt.int_int x t x' t' prog w _ _ ?_)
  refine PySem.W.kat_go (fun e1 => ?_) (fun e1 => ?_)
  · have ex : x = x' := by simpa using e1
    subst ex
    refine PySem.W.kat_yes (PySem.W.kat_cons (SeqAt.EqAt.int_int y u y' u' prog w _ _ ?_))
    refine PySem.W.kat_go (fun e2 => ?_) (fun e2 => ?_)
    · have ey : y = y' := by simpa using e2
      subst ey
      refine PySem.W.kat_yes (PySem.W.kat_cons (SeqAt.EqAt.int_int c r c' r' prog w _ _ ?_))
      refine PySem.W.kat_go (fun e3 => ?_) (fun e3 => ?_)
      · have ez : c = c' := by simpa using e3
        subst ez
        have e4 : lexT (x, y, c) (x, y, c) = false := lexT_no.mpr (by simp)
        exact PySem.W.kat_yes (PySem.W.kat_nil ⟨rfl, e4.symm⟩)
      · have e4 : lexT (x, y, c) (x, y, c') = decide (c < c') := by
          unfold lexT SrtO.lexB
          rw [if_pos rfl, if_pos rfl]
        refine PySem.W.kat_no (TS.oneLt_ints _ ?_)
        exact ⟨rfl, e4.symm⟩
    · have ey : ¬ y = y' := by simpa using e2
      have e4 : lexT (x, y, c) (x, y', c') = decide (y < y') := by
        unfold lexT SrtO.lexB
        rw [if_pos rfl, if_neg ey]
      refine PySem.W.kat_no (TS.oneLt_ints _ ?_)
      exact ⟨rfl, e4.symm⟩
  · have ex : ¬ x = x' := by simpa using e1
    have e4 : lexT (x, y, c) (x', y', c') = decide (x < x') := by
      unfold lexT
      rw [if_neg ex]
    refine PySem.W.kat_no (TS.oneLt_ints _ ?_)
    exact ⟨rfl, e4.symm⟩
theorem trips_sortable {a : Addr} {vs : List Value} {k : Value → T3} (h0 : 0 < vs.length) (hp : ∀ v ∈ vs, IsTrip s.heap v (k v)) (ha : ∀ o, s.heap.get? a = some o → o.cls ≠ .type "tuple") : SrtO.SortableO prog w A s a vs fun v u => lexT (k v) (k u) := by
  intro h' keep
  have hp' : ∀ v ∈ vs, IsTrip h' v (k v) := fun v hm => (hp v hm).keeps fun b o e c => keep b o (fun z => by subst z; exact ha o e c) e
  obtain ⟨fs, h1, h2, h3⟩ := trip_firsts hp'
  refine ⟨tuples' true, fun Q E hq => ?_, trip_cmp hp'⟩
  refine PySem.W.kat_kind (T := .type "int") h1 (by omega) (fun f hm => ?_) (by rfl) ?_
  · obtain ⟨x, t, rfl⟩ := h3 f hm
    exact PySem.W.Looks.now
  · have e : (Value.type "int" != Value.type "tuple") = true := by first | decide +kernel | rfl | decide
    rw [e]
    exact hq
theorem sorted_trips {l : Addr} {vs : List Value} {k : Value → T3} {Q : Value → Shared → Prop} (hl : s.heap.IsList l vs.toArray) (hz : vs.length ≤ sizeLine) (hp : ∀ v ∈ vs, IsTrip s.heap v (k v))
    (h : ∀ (h' : Heap) (d : Addr) (out : List Value), SrtO.Srtd (fun v u => lexT (k v) (k u)) out → SrtO.Stb (fun v u => lexT (k v) (k u)) out vs → (∀ b o, s.heap.get? b = some o → h'.get? b = some o) → s.heap.objs.size ≤ d → (∃ n, h'.get? d = some (seqObj "list" out.toArray n)) → Q (.ref d) { s with heap := h' }) :
    wpAny (model prog w) A (call (.builtin "sorted") [.ref l]) Q E s := by
  refine SrtO.sorted_ord (swo_T k) hl hz (fun h2 h₁ a ha kk => ?_) fun out hs hb => ?_
  · refine trips_sortable (s := { s with heap := h₁ }) (by omega) (fun v hm => (hp v hm).keeps fun b o e _ => (kk b o e).2) fun o e => ?_
    have e' : some o = some (seqObj "list" vs.toArray 0) := e.symm.trans ha
    cases e'
    intro c
    exact absurd (Value.type.inj c) (by decide)
  · exact h _ _ out hs hb (fun b o e => sortedAll_old e) (Nat.le_succ _) (sortedAll_at s.heap vs out.toArray)
end
open L2
theorem triV {x y z : V} {us : List Value} (r : Vals [x, y, z] us) : ∃ u w' t', us = [u, w', t'] ∧ RelV x u ∧ RelV y w' ∧ RelV z t' := by
  cases r with
  | cons r1 r2 =>
    obtain ⟨u, w', rfl, r3, r4⟩ := vals2 r2
    exact ⟨_, u, w', rfl, r1, r3, r4⟩
abbrev ltT (k : V → T3) (x y : V) : Bool := lexT (k x) (k y)
/-- sorted(xs), xs a list of triples of ints (k says which): a new list, sorted -/
def rSortedT (K : PySem.W.Frag) : List V → Hp → VK → Prop := fun vs H Q => ∃ (a : Addr) (xs : List V) (k : V → T3), vs = [V.ref a] ∧ SqL K H a xs ∧ (∀ x ∈ xs, ∃ t, x = V.ref t ∧ H t = some (.tup [.int (k x).1, .int (k x).2.1, .int (k x).2.2])) ∧
  ∀ ys p, SrtO.Srtd (ltT k) ys → ys.Perm xs → H p = none → Q (.ref p) (upd H p (.lst ys))
section
variable {X : Cx}
theorem cr_sortedT : CallR X (.builtin "sorted") (rSortedT X.K) := by
  intro pins s σ H vs us Q I r h
  obtain ⟨a, xs, k, rfl, hs, hx, q⟩ := h
  obtain ⟨its, rv, hl, hz⟩ := I.list hs
  obtain ⟨u, rfl, ru⟩ := vals1 r
  obtain rfl : u = Value.ref a := ru
  obtain ⟨e1, e2⟩ := refs_back rv fun x m => by
    obtain ⟨t, e, _⟩ := hx x m
    exact ⟨t, e⟩
  refine sorted_trips (k := fun u => k (backV u)) hl.isList (by rw [← rv.length]; exact hz) (fun v hv => ?_) fun h' d out h1 h2 kp hd hn => ?_
  · obtain ⟨t, rfl⟩ := e2 v hv
    have hm : V.ref t ∈ xs := by rw [e1]; exact List.mem_map.mpr ⟨_, hv, rfl⟩
    obtain ⟨t', e, ht⟩ := hx _ hm
    cases e
    obtain ⟨_, its2, r2, o, ho, hc, n, hd⟩ := I.hok _ _ ht
    obtain ⟨u1, u2, u3, rfl, ri, rj, rk⟩ := triV r2
    obtain ⟨t1, rfl⟩ := ri
    obtain ⟨t2, rfl⟩ := rj
    obtain ⟨t3, rfl⟩ := rk
    exact ⟨t, o, t1, t2, t3, n, rfl, ho, hc, hd⟩
  · have h3 : ∀ u ∈ out, ∃ a, u = Value.ref a := fun u hu => e2 u (h2.perm.mem_iff.mp hu)
    obtain ⟨n, hn⟩ := hn
    have hb : SrtO.Stb (ltT k) (out.map backV) xs := by
      rw [e1]
      exact SrtO.Stb.map (swo_T k) backV h2
    refine ⟨.ref d, upd H d (.lst (out.map backV)), I.laid (t' := s.toks) kp hd ⟨?_, out, n, vals_back h3, hn⟩, rfl, q _ d (SrtO.srtd_map h1) hb.perm (I.hok.fresh hd)⟩
    rw [hb.len]
    exact hz
end
end Lb

/-! set(l) of a list of ints; sorted of it -/
namespace Lb
open PySem PySem.Spec PyProof.Rows L2
abbrev newSet (w : World) : Obj := { cls := .type "set", dict := none, data := .set #[] 0 (.fresh 0 0 (!w.params.followText "set-order")) }
section
variable {P : Program} {w : World} {A : Around} {E : Value → Shared → Prop} {s : Shared}
theorem items_int {items : Array Value} {ns : List Int} (hit : IntsAre items.toList ns) (i : Nat) (v : Value) (hv : items[i]? = some v) : ∃ k t, ns[i]? = some k ∧ v = .int k t := by
  have hi : i < ns.length := by
    have h1 := IntsAre.length hit
    have h2 := (Array.getElem?_eq_some_iff.mp hv).1
    rw [Array.length_toList] at h1
    omega
  have hv2 : items.toList[i]? = some v := by rw [Array.getElem?_toList]; exact hv
  obtain ⟨t, e⟩ := IntsAre.int_at hit i v hv2
  have hg := List.getElem?_eq_getElem hi
  exact ⟨ns[i], t, hg, by rw [e, List.getD_eq_getElem?_getD, hg]; rfl⟩
/-- what is left of the heap behind the making -/
def MadeOf (w : World) (s : Shared) (a : Addr) (ns : List Int) (s2 : Shared) : Prop :=
  ∃ h' tk c, s2 = { s with heap := h', toks := tk } ∧ SetR w h' a (fun j => decide (j ∈ ns)) c ∧ c ≤ ns.length ∧ ∀ b o, b ≠ a → s.heap.get? b = some o → h'.get? b = some o
theorem init_list {a l : Addr} {items : Array Value} {ns : List Int} (hh : A.handled = none) (hS : s.heap.get? a = some (newSet w)) (hl : s.heap.IsList l items) (hit : IntsAre items.toList ns) (hb : ns.length + 1 < scanBound) :
    codeAny (model P w) A (.call (.builtin "set.__init__") ⟨[.ref a, .ref l], []⟩) (wants (fun r s2 => r = .none ∧ MadeOf w s a ns s2) E) s := by
  have ty : s.TypeIs (.ref a) "set" := ⟨_, hS, rfl⟩
  refine codeAny_call_builtin F.called_set.init.plain F.entry_set_init (check_set_init_1 ty ?_)
  have lk := hl
  obtain ⟨⟨c0, d0, v0, z0⟩, ho, hc, n0, hd⟩ := hl
  simp only at hc hd
  subst hc hd
  have sub1 := F.sub_list_set
  have sub2 := F.sub_list_frozenset
  have nd : (Value.type "list" == Value.type "dict") = false := by decide
  have la : l < s.heap.objs.size := Heap.lt_size ho
  have aa : a < s.heap.objs.size := Heap.lt_size hS
  have al : a ≠ l := fun z => by
    subst z
    rw [hS] at ho
    have q := congrArg Obj.cls (Option.some.inj ho)
    exact absurd (Value.type.inj q) (by decide)
  unfold Builtin.«set.__init__» noKeywords
  unfold Builtin.Frozenset.updateFrom
  generalize hI : pyIter = it
  wp_walk
  subst hI
  refine wpAny_pyIter_list lk (wpAny_bind (wpAny_runValue ?_))
  have walk := (Walks.list (prog := P) (w := w) (A := A.in1.in1) (by simp [hh]) s.heap.objs.size l (Nat.ne_of_lt la) items).toS
  have len : items.size = ns.length := by
    have q := IntsAre.length hit
    rwa [Array.length_toList] at q
  refine set_update_ints walk a (by
    simp only [List.mem_cons, List.not_mem_nil, or_false, not_or]
    exact ⟨Nat.ne_of_lt aa, al⟩) ns len hb (items_int hit) (items.size - 0) 0 _ (by omega) (Nat.zero_le _) ?hw ?hz fun s3 c mv hc R => ?_
  case hw => exact ⟨⟨_, Heap.get?_push_size _ rfl, rfl, rfl⟩, lk.push _⟩
  case hz => exact ⟨0, Nat.le_refl 0, setR_new_at (Heap.get?_push_of_some _ hS)⟩
  obtain ⟨h3, g3, d3, t3, o3⟩ := s3
  have eg : g3 = s.gens := mv.gens
  have ed : d3 = s.drawn := mv.drawn
  have eo : o3 = s.os := mv.os
  subst eg ed eo
  refine wpAny_pure ?_
  show wpAny _ _ (ret Value.none) _ _ _
  refine wpAny_pure ⟨rfl, h3, t3, c, rfl, R, by omega, fun b o ne e => ?_⟩
  have lb := Heap.lt_size e
  refine mv.heap b o ?_ (Heap.get?_push_of_some _ e)
  simp only [List.mem_cons, List.not_mem_nil, or_false, not_or]
  exact ⟨ne, Nat.ne_of_lt lb⟩
theorem call_set_ints {l : Addr} {items : Array Value} {ns : List Int} {Q : Value → Shared → Prop} (hh : A.handled = none) (hl : s.heap.IsList l items) (hit : IntsAre items.toList ns) (hb : ns.length + 1 < scanBound)
    (k : ∀ (h' : Heap) (tk c : Nat), SetR w h' s.heap.objs.size (fun j => decide (j ∈ ns)) c → c ≤ ns.length → (∀ b o, s.heap.get? b = some o → h'.get? b = some o) → Q (.ref s.heap.objs.size) { s with heap := h', toks := tk }) :
    wpAny (model P w) A (call (.type "set") [.ref l]) Q E s := by
  obtain ⟨cx, tx, mro⟩ := F.called_set.mro
  have f1 := F.called_set.made
  have f2 := F.called_set.sub
  have f3 := F.called_set.notType
  have f4 := F.called_set.canCreate
  have f5 := F.typeCall_set_1 (.ref l)
  refine wpAny_call (codeAny_of_tree ?_)
  show wpAny _ _ (callAny (.type "set") _) _ _ _
  refine wpAny_pure ⟨Code.quiet_builtin _ (by decide +kernel), codeAny_builtin F.entry_type_call ?_⟩
  rw [Around.under_plain (weight_type_call_type "set" [.ref l] []) rfl]
  repeat (any_goals (first | assumption | wp_step))
  refine codeAny_mono (code_set_led1 (.ref l) (E := E) (Q₁ := fun x y => x = .ref s.heap.objs.size ∧ y = { s with heap := s.heap.push (newSet w) }) ⟨rfl, rfl⟩) fun r y hr => ?_
  match r, hr with
  | .error e, hr => exact hr
  | .ok (.ret x), hr =>
    obtain ⟨rfl, rfl⟩ := hr
    have hS : (s.heap.push (newSet w)).get? s.heap.objs.size = some (newSet w) := Heap.get?_push_size _ rfl
    have ty : Shared.TypeIs { s with heap := s.heap.push (newSet w) } (.ref s.heap.objs.size) "set" := ⟨_, hS, rfl⟩
    have g1 := F.called_set.init.lookup
    have g2 := F.called_set.init.bind (.ref s.heap.objs.size)
    repeat (any_goals (first | assumption | wp_step))
    refine codeAny_mono (init_list (E := E) (s := { s with heap := s.heap.push (newSet w) }) (by simp [hh]) hS (hl.push _) hit hb) fun r2 y2 hr2 => ?_
    match r2, hr2 with
    | .error e, hr2 => exact hr2
    | .ok (.ret x2), hr2 =>
      obtain ⟨rfl, h', tk, c, rfl, R, hc, kp⟩ := hr2
      repeat (any_goals (first | assumption | wp_step))
      exact k h' tk c R hc fun b o e => kp b o (Nat.ne_of_lt (Heap.lt_size e)) (Heap.get?_push_of_some _ e)
end
/-! as rules -/
theorem nodup_len {α : Type} [DecidableEq α] : ∀ {l m : List α}, l.Nodup → (∀ x ∈ l, x ∈ m) → l.length ≤ m.length
  | [], _, _, _ => Nat.zero_le _
  | x :: l, m, hn, h => by
    obtain ⟨n1, n2⟩ := List.nodup_cons.mp hn
    have hx := h x List.mem_cons_self
    have ih := nodup_len (l := l) (m := m.erase x) n2 fun y hy => (List.mem_erase_of_ne (a := y) (b := x) (fun e => n1 (by rw [← e]; exact hy))).mpr (h y (List.mem_cons_of_mem _ hy))
    have hl := List.length_erase_of_mem hx
    have h0 := List.length_pos_of_mem hx
    rw [List.length_cons]
    omega
theorem setR_few {h : Heap} {w : World} {a : Addr} {S : Int → Bool} {c : Nat} (R : SetR w h a S c) {m : List Int} (hm : ∀ k, S k = true → k ∈ m) : c ≤ m.length := by
  obtain ⟨o, es, ep, t, _, _, _, _, nd, mem, _, _, hc, _⟩ := R
  have := nodup_len nd fun x hx => hm x ((mem x).mpr hx)
  rw [List.length_map, Array.length_toList] at this
  omega
/-- set(xs), a list of ints -/
def rMkSet (K : PySem.W.Frag) (w : World) : List V → Hp → VK → Prop := fun xs H Q => ∃ (l : Addr) (ns : List Int), xs = [V.ref l] ∧ SqL K H l (ns.map V.int) ∧ ns.length < 4000 ∧ ∀ p c, (∀ m : List Int, (∀ k ∈ ns, k ∈ m) → c ≤ m.length) → H p = none → Q (.ref p) (upd H p (SetO w p (fun j => decide (j ∈ ns)) c))
/-- sorted(set(xs)), few different ints; the set is left behind -/
def tSortSet (K : PySem.W.Frag) (i : Nat) : TE := fun σ H Q => ∃ (l : Addr) (ns m : List Int), σ[i]? = some (some (.ref l)) ∧ SqL K H l (ns.map V.int) ∧ ns.length < 4000 ∧ (∀ k ∈ ns, k ∈ m) ∧ m.length < 64 ∧
  ∀ (a : Addr) (o : HO) (ks : List Int) (p : Addr), H a = none → upd H a o p = none → ks.Pairwise (· < ·) → (∀ k, k ∈ ks ↔ k ∈ ns) → Q (.ref p) (upd (upd H a o) p (.lst (ks.map V.int)))
section
variable {X : Cx}
theorem cr_setL (hc : X.calm = true) : CallR X (.type "set") (rMkSet X.K X.w) := by
  intro pins s σ H xs us Q I r h
  obtain ⟨l, ns, rfl, hs, hb, q⟩ := h
  obtain ⟨its, rv, pl, _⟩ := I.list hs
  rw [Vals.ref1 r]
  refine call_set_ints (I.ok.hd hc) pl.isList rv.ints (by unfold scanBound; omega) fun h' tk c R hn kp => ?_
  exact ⟨.ref _, _, I.laid (t' := tk) kp (Nat.le_refl _) (setO_new R), rfl, q _ c (fun m hm => setR_few R fun k hk => hm k (of_decide_eq_true hk)) (I.hok.fresh (Nat.le_refl _))⟩
theorem pe_sortSet {e : Expr} {i : Nat} (h : PE X e (tCB (rSortedSet X.w) (tCons (tCB (rMkSet X.K X.w) (tCons (tVar i) tNil)) tNil))) : PE X e (tSortSet X.K i) := by
  refine ⟨fun pins s σ H Q I q => h.run pins s σ H Q I ?_⟩
  obtain ⟨l, ns, m, hi, hs, hn, hm, h64, k⟩ := q
  refine ⟨_, hi, l, ns, rfl, hs, hn, fun p c hc np => ?_⟩
  refine ⟨p, _, c, rfl, upd_same, Nat.lt_of_le_of_lt (hc m hm) h64, fun ks r pw mem _ nr => ?_⟩
  refine k p _ ks r np nr pw fun x => ?_
  rw [mem x, decide_eq_true_iff]
end
end Lb

/-! rankings in plain Lean: wrong places, settling by insertion -/
namespace Lb
def sc (s : List Int) (e : Nat) : Int := s.getD e 0
/-- the lower neighbour leads -/
def ww (d : Int) (s : List Int) (a b : Nat) : Bool := decide (d ≤ sc s b - sc s a)
def wrongAt (d : Int) (s : List Int) (o : List Nat) (i : Nat) : Bool := ww d s (o.getD i 0) (o.getD (i + 1) 0)
def wrongL (d : Int) (s : List Int) (o : List Nat) : List Nat := (List.range (o.length - 1)).filter (wrongAt d s o)
def sink (d : Int) (s : List Int) (e : Nat) (l : List Nat) : Nat → Nat
  | 0 => 0
  | p + 1 => if ww d s (l.getD p 0) e then sink d s e l p else p + 1
def insE (d : Int) (s : List Int) (l : List Nat) (e : Nat) : List Nat := l.take (sink d s e l l.length) ++ [e] ++ l.drop (sink d s e l l.length)
def settledL (d : Int) (s : List Int) (o : List Nat) : List Nat := o.foldl (insE d s) []
/-- no neighbours in the wrong way -/
def Calm (d : Int) (s : List Int) : List Nat → Prop
  | a :: b :: r => ww d s a b = false ∧ Calm d s (b :: r)
  | _ => True
theorem sink_le (d : Int) (s : List Int) (e : Nat) (l : List Nat) : ∀ p, sink d s e l p ≤ p
  | 0 => Nat.le_refl _
  | p + 1 => by
    unfold sink
    split
    · exact Nat.le_succ_of_le (sink_le d s e l p)
    · exact Nat.le_refl _
theorem insE_perm (d : Int) (s : List Int) (l : List Nat) (e : Nat) : (insE d s l e).Perm (e :: l) := by
  unfold insE
  have h : (l.take (sink d s e l l.length) ++ [e] ++ l.drop (sink d s e l l.length)).Perm (e :: (l.take (sink d s e l l.length) ++ l.drop (sink d s e l l.length))) := by
    rw [List.append_assoc]
    exact List.perm_middle
  rwa [List.take_append_drop] at h
theorem foldl_ins_perm (d : Int) (s : List Int) : ∀ (o l : List Nat), (o.foldl (insE d s) l).Perm (l ++ o)
  | [], l => by simp
  | e :: o, l => by
    refine (foldl_ins_perm d s o (insE d s l e)).trans ?_
    refine ((insE_perm d s l e).append_right o).trans ?_
    exact (List.perm_middle (l₁ := l)).symm
theorem settled_perm (d : Int) (s : List Int) (o : List Nat) : (settledL d s o).Perm o := by
  have := foldl_ins_perm d s o []
  simpa [settledL] using this
theorem calm_iff {d : Int} {s : List Int} : ∀ {o : List Nat}, Calm d s o ↔ ∀ i, i + 1 < o.length → wrongAt d s o i = false
  | [] => ⟨fun _ i h => by simp at h, fun _ => trivial⟩
  | [a] => ⟨fun _ i h => by simp at h, fun _ => trivial⟩
  | a :: b :: r => by
    have ih := calm_iff (d := d) (s := s) (o := b :: r)
    constructor
    · rintro ⟨h1, h2⟩ i hi
      cases i with
      | zero => exact h1
      | succ i => exact ih.mp h2 i (by simpa using hi)
    · intro h
      exact ⟨h 0 (by simp), ih.mpr fun i hi => h (i + 1) (by simpa using hi)⟩
theorem wrong_nil {d : Int} {s : List Int} {o : List Nat} : wrongL d s o = [] ↔ Calm d s o := by
  rw [calm_iff]
  unfold wrongL
  rw [List.filter_eq_nil_iff]
  constructor
  · intro h i hi
    have := h i (List.mem_range.mpr (by omega))
    simpa using this
  · intro h i hi
    rw [h i (by have := List.mem_range.mp hi; omega)]
    exact Bool.false_ne_true
theorem mem_wrong {d : Int} {s : List Int} {o : List Nat} {i : Nat} : i ∈ wrongL d s o ↔ i + 1 < o.length ∧ wrongAt d s o i = true := by
  unfold wrongL
  rw [List.mem_filter, List.mem_range]
  constructor <;> rintro ⟨h1, h2⟩ <;> exact ⟨by omega, h2⟩
/-! settling leaves no wrong place -/
theorem calm_append {d : Int} {s : List Int} : ∀ {l m : List Nat}, Calm d s (l ++ m) ↔ Calm d s l ∧ Calm d s m ∧ ∀ a b, l.getLast? = some a → m.head? = some b → ww d s a b = false
  | [], m => by simp [Calm]
  | [a], [] => by simp [Calm]
  | [a], b :: m => by
    simp only [List.cons_append, List.nil_append, Calm, List.getLast?_singleton, List.head?_cons, Option.some.injEq]
    constructor
    · rintro ⟨h1, h2⟩
      exact ⟨trivial, h2, by rintro _ _ rfl rfl; exact h1⟩
    · rintro ⟨_, h2, h3⟩
      exact ⟨h3 _ _ rfl rfl, h2⟩
  | a :: b :: l, m => by
    have ih := calm_append (d := d) (s := s) (l := b :: l) (m := m)
    simp only [List.cons_append, Calm] at ih ⊢
    rw [ih, List.getLast?_cons_cons]
    constructor
    · rintro ⟨h1, h2, h3, h4⟩
      exact ⟨⟨h1, h2⟩, h3, h4⟩
    · rintro ⟨⟨h1, h2⟩, h3, h4⟩
      exact ⟨h1, h2, h3, h4⟩
theorem sink_above {d : Int} {s : List Int} {e : Nat} {l : List Nat} : ∀ {p q : Nat}, q < p → sink d s e l p ≤ q → ww d s (l.getD q 0) e = true
  | p + 1, q, h, hs => by
    unfold sink at hs
    by_cases c : ww d s (l.getD p 0) e = true
    · rw [if_pos c] at hs
      by_cases e1 : q = p
      · rw [e1]; exact c
      · exact sink_above (by omega) hs
    · rw [if_neg c] at hs
      omega
theorem sink_at {d : Int} {s : List Int} {e : Nat} {l : List Nat} : ∀ {p q : Nat}, sink d s e l p = q + 1 → ww d s (l.getD q 0) e = false
  | 0, q, h => by unfold sink at h; omega
  | p + 1, q, h => by
    unfold sink at h
    by_cases c : ww d s (l.getD p 0) e = true
    · rw [if_pos c] at h
      exact sink_at h
    · rw [if_neg c] at h
      have : q = p := by omega
      rw [this]
      simpa using c
theorem ww_anti {d : Int} (hd : 1 ≤ d) {s : List Int} {a b : Nat} (h : ww d s a b = true) : ww d s b a = false := by
  unfold ww at *
  have := of_decide_eq_true h
  exact decide_eq_false (by omega)
theorem insE_calm {d : Int} (hd : 1 ≤ d) {s : List Int} {l : List Nat} {e : Nat} (h : Calm d s l) : Calm d s (insE d s l e) := by
  have hk := sink_le d s e l l.length
  unfold insE
  generalize hs : sink d s e l l.length = k at *
  have h' := h
  rw [← List.take_append_drop k l] at h'
  obtain ⟨c1, c2, _⟩ := calm_append.mp h'
  rw [List.append_assoc, List.singleton_append, calm_append]
  refine ⟨c1, ?_, ?_⟩
  · cases hdr : l.drop k with
    | nil => trivial
    | cons b r =>
      rw [hdr] at c2
      have hb : l.getD k 0 = b := by
        have : l[k]? = some b := by
          have := congrArg List.head? hdr
          rwa [List.head?_drop] at this
        simp [List.getD_eq_getElem?_getD, this]
      have hkl : k < l.length := by
        rcases Nat.lt_or_ge k l.length with q | q
        · exact q
        · rw [List.drop_eq_nil_of_le q] at hdr; cases hdr
      refine ⟨?_, c2⟩
      rw [← hb]
      exact ww_anti hd (sink_above hkl (by omega))
  · intro a b h1 h2
    have e2 : e = b := Option.some.inj h2
    subst e2
    cases k with
    | zero => simp at h1
    | succ q =>
      have : l.getD q 0 = a := by
        rw [List.getLast?_eq_getElem?, List.length_take, Nat.min_eq_left hk] at h1
        rw [show q + 1 - 1 = q by omega, List.getElem?_take_of_lt (by omega)] at h1
        simp [List.getD_eq_getElem?_getD, h1]
      rw [← this]
      exact sink_at hs
theorem settled_calm {d : Int} (hd : 1 ≤ d) (s : List Int) (o : List Nat) : Calm d s (settledL d s o) := by
  unfold settledL
  have : ∀ (o l : List Nat), Calm d s l → Calm d s (o.foldl (insE d s) l) := by
    intro o
    induction o with
    | nil => intro l h; exact h
    | cons e o ih => intro l h; exact ih _ (insE_calm hd h)
  exact this o [] trivial
/-! an exchange of neighbours -/
def swapAt (o : List Nat) (i : Nat) : List Nat := (o.set i (o.getD (i + 1) 0)).set (i + 1) (o.getD i 0)
theorem swap_len (o : List Nat) (i : Nat) : (swapAt o i).length = o.length := by simp [swapAt]
theorem swap_get {o : List Nat} {i : Nat} (h : i + 1 < o.length) : (swapAt o i).getD i 0 = o.getD (i + 1) 0 ∧ (swapAt o i).getD (i + 1) 0 = o.getD i 0 := by
  unfold swapAt
  constructor
  · rw [List.getD_eq_getElem?_getD, List.getElem?_set_ne (by omega), List.getElem?_set_self (by omega)]
    rfl
  · rw [List.getD_eq_getElem?_getD, List.getElem?_set_self (by simp; omega)]
    rfl
theorem swap_perm {o : List Nat} {i : Nat} (h : i + 1 < o.length) : (swapAt o i).Perm o := by
  have e1 : o = o.take i ++ (o.getD i 0 :: o.getD (i + 1) 0 :: o.drop (i + 2)) := by
    have h1 : o.drop i = o[i] :: o.drop (i + 1) := List.drop_eq_getElem_cons (by omega)
    have h2 : o.drop (i + 1) = o[i + 1] :: o.drop (i + 2) := List.drop_eq_getElem_cons h
    have g1 : o.getD i 0 = o[i] := by simp [List.getD_eq_getElem?_getD, List.getElem?_eq_getElem (show i < o.length by omega)]
    have g2 : o.getD (i + 1) 0 = o[i + 1] := by simp [List.getD_eq_getElem?_getD, List.getElem?_eq_getElem h]
    rw [g1, g2, ← h2, ← h1, List.take_append_drop]
  have e2 : swapAt o i = o.take i ++ (o.getD (i + 1) 0 :: o.getD i 0 :: o.drop (i + 2)) := by
    have hl : (o.take i).length = i := by rw [List.length_take]; omega
    unfold swapAt
    generalize o.getD i 0 = x at *
    generalize o.getD (i + 1) 0 = y at *
    generalize o.take i = A at *
    generalize o.drop (i + 2) = B at *
    rw [e1]
    subst hl
    simp [List.set_append]
  rw [e2]
  conv => rhs; rw [e1]
  exact List.Perm.append_left _ (List.Perm.swap _ _ _)
theorem swap_right {d : Int} (hd : 1 ≤ d) {s : List Int} {o : List Nat} {i : Nat} (h : i ∈ wrongL d s o) : i ∉ wrongL d s (swapAt o i) := by
  obtain ⟨h1, h2⟩ := mem_wrong.mp h
  intro z
  obtain ⟨_, z2⟩ := mem_wrong.mp z
  unfold wrongAt at *
  rw [(swap_get h1).1, (swap_get h1).2] at z2
  rw [ww_anti hd h2] at z2
  cases z2
theorem perm_range {o : List Nat} {n : Nat} (h : o.Perm (List.range n)) : o.length = n ∧ ∀ e ∈ o, e < n :=
  ⟨by rw [h.length_eq, List.length_range], fun e he => List.mem_range.mp (h.mem_iff.mp he)⟩
end Lb

/-! one settled order: what keeps the order of close entries and has no wrong place is what is left -/
namespace Lb
def close (d : Int) (s : List Int) (a b : Nat) : Prop := sc s b - sc s a < d ∧ sc s a - sc s b < d
theorem close_symm {d : Int} {s : List Int} {a b : Nat} (h : close d s a b) : close d s b a := ⟨h.2, h.1⟩
theorem ww_false {d : Int} {s : List Int} {a b : Nat} : ww d s a b = false ↔ sc s b - sc s a < d := by
  unfold ww
  rw [decide_eq_false_iff_not]
  omega
theorem ww_true {d : Int} {s : List Int} {a b : Nat} : ww d s a b = true ↔ d ≤ sc s b - sc s a := by
  unfold ww
  rw [decide_eq_true_iff]
/-- a stands above b -/
abbrev Abv (a b : Nat) (l : List Nat) : Prop := [a, b].Sublist l
theorem abv_cons {a b x : Nat} {l : List Nat} : Abv a b (x :: l) ↔ Abv a b l ∨ (a = x ∧ b ∈ l) := by
  constructor
  · intro h
    rcases List.sublist_cons_iff.mp h with h | ⟨r, e, h⟩
    · exact .inl h
    · injection e with e1 e2
      subst e1 e2
      exact .inr ⟨rfl, List.singleton_sublist.mp h⟩
  · rintro (h | ⟨rfl, h⟩)
    · exact List.Sublist.cons _ h
    · exact List.Sublist.cons_cons _ (List.singleton_sublist.mpr h)
theorem abv_mem {a b : Nat} {l : List Nat} (h : Abv a b l) : a ∈ l ∧ b ∈ l := ⟨h.subset (by simp), h.subset (by simp)⟩
theorem abv_nil {a b : Nat} : ¬ Abv a b [] := fun h => by cases h
theorem abv_total {a b : Nat} : ∀ {l : List Nat}, a ∈ l → b ∈ l → a ≠ b → Abv a b l ∨ Abv b a l
  | x :: l, ha, hb, hn => by
    rw [abv_cons, abv_cons]
    rcases List.mem_cons.mp ha with rfl | ha1
    · rcases List.mem_cons.mp hb with rfl | hb1
      · exact absurd rfl hn
      · exact .inl (.inr ⟨rfl, hb1⟩)
    · rcases List.mem_cons.mp hb with rfl | hb1
      · exact .inr (.inr ⟨rfl, ha1⟩)
      · rcases abv_total ha1 hb1 hn with h | h
        · exact .inl (.inl h)
        · exact .inr (.inl h)
theorem abv_anti {a b : Nat} : ∀ {l : List Nat}, l.Nodup → Abv a b l → ¬ Abv b a l
  | [], _, h => absurd h abv_nil
  | x :: l, hn, h => by
    have n1 := (List.nodup_cons.mp hn).1
    have n2 := (List.nodup_cons.mp hn).2
    intro h2
    rcases abv_cons.mp h with h3 | ⟨rfl, h3⟩
    · rcases abv_cons.mp h2 with h4 | ⟨rfl, h4⟩
      · exact abv_anti n2 h3 h4
      · exact n1 (abv_mem h3).2
    · rcases abv_cons.mp h2 with h4 | ⟨rfl, h4⟩
      · exact n1 (abv_mem h4).2
      · exact n1 h3
theorem abv_irr {a : Nat} : ∀ {l : List Nat}, l.Nodup → ¬ Abv a a l
  | [], _, h => abv_nil h
  | x :: l, hn, h => by
    rcases abv_cons.mp h with h3 | ⟨rfl, h3⟩
    · exact abv_irr (List.nodup_cons.mp hn).2 h3
    · exact (List.nodup_cons.mp hn).1 h3
/-- what stands above x and is not close to it leads it, where no place is wrong -/
theorem head_leads {d : Int} (hd : 1 ≤ d) {s : List Int} {x : Nat} : ∀ (l : List Nat) (y : Nat), x ∈ l → Calm d s (y :: l) → (∀ z, Abv z x (y :: l) → ¬ close d s z x) → d ≤ sc s y - sc s x
  | z :: l, y, hx, hc, hn => by
    obtain ⟨c1, c2⟩ := hc
    have c1 := ww_false.mp c1
    have ny := hn y (abv_cons.mpr (.inr ⟨rfl, hx⟩))
    unfold close at ny
    rcases List.mem_cons.mp hx with rfl | hx
    · omega
    · have ih := head_leads hd l z hx c2 fun w h => hn w (abv_cons.mpr (.inl h))
      omega
theorem uniq {d : Int} (hd : 1 ≤ d) {s : List Int} : ∀ (r r' : List Nat), r.Nodup → r'.Perm r → Calm d s r → Calm d s r' → (∀ a b, close d s a b → (Abv a b r ↔ Abv a b r')) → r = r'
  | [], r', _, p, _, _, _ => (List.Perm.eq_nil p).symm
  | x :: t, [], _, p, _, _, _ => absurd p.length_eq (by simp)
  | x :: t, x' :: t', hn, p, c, c', h => by
    have hn' : (x' :: t').Nodup := p.nodup_iff.mpr hn
    obtain ⟨n1, n2⟩ := List.nodup_cons.mp hn
    obtain ⟨n1', n2'⟩ := List.nodup_cons.mp hn'
    by_cases e : x = x'
    · subst e
      have tl : ∀ {l : List Nat}, Calm d s (x :: l) → Calm d s l := fun {l} q => by
        cases l with
        | nil => trivial
        | cons y l => exact q.2
      rw [uniq hd t t' n2 p.cons_inv (tl c) (tl c') fun a b hc => ?_]
      constructor
      · intro q
        rcases abv_cons.mp ((h a b hc).mp (abv_cons.mpr (.inl q))) with z | ⟨rfl, _⟩
        · exact z
        · exact absurd (abv_mem q).1 n1
      · intro q
        rcases abv_cons.mp ((h a b hc).mpr (abv_cons.mpr (.inl q))) with z | ⟨rfl, _⟩
        · exact z
        · exact absurd (abv_mem q).1 n1'
    · exfalso
      have hx : x ∈ t' := by
        rcases List.mem_cons.mp (p.mem_iff.mpr (List.mem_cons_self (a := x) (l := t))) with q | q
        · exact absurd q e
        · exact q
      have hx' : x' ∈ t := by
        rcases List.mem_cons.mp (p.mem_iff.mp (List.mem_cons_self (a := x') (l := t'))) with q | q
        · exact absurd q.symm e
        · exact q
      have a1 := head_leads hd t' x' hx c' fun z hz hc => by
        have q := (h z x hc).mpr hz
        rcases abv_cons.mp q with q | ⟨rfl, q⟩
        · exact n1 (abv_mem q).2
        · exact n1 q
      have a2 := head_leads hd t x hx' c fun z hz hc => by
        have q := (h z x' hc).mp hz
        rcases abv_cons.mp q with q | ⟨rfl, q⟩
        · exact n1' (abv_mem q).2
        · exact n1' q
      omega
/-! settling keeps the order of close entries -/
theorem abv_app {a b : Nat} {l m : List Nat} : Abv a b (l ++ m) ↔ Abv a b l ∨ Abv a b m ∨ (a ∈ l ∧ b ∈ m) := by
  induction l with
  | nil => simp [abv_nil]
  | cons x l ih =>
    rw [List.cons_append, abv_cons, abv_cons, ih]
    simp only [List.mem_append, List.mem_cons]
    constructor
    · rintro ((h | h | ⟨h1, h2⟩) | ⟨rfl, h | h⟩)
      · exact .inl (.inl h)
      · exact .inr (.inl h)
      · exact .inr (.inr ⟨.inr h1, h2⟩)
      · exact .inl (.inr ⟨rfl, h⟩)
      · exact .inr (.inr ⟨.inl rfl, h⟩)
    · rintro ((h | ⟨rfl, h⟩) | h | ⟨rfl | h1, h2⟩)
      · exact .inl (.inl h)
      · exact .inr ⟨rfl, .inl h⟩
      · exact .inl (.inr (.inl h))
      · exact .inr ⟨rfl, .inr h2⟩
      · exact .inl (.inr (.inr ⟨h1, h2⟩))
theorem ins_sub (d : Int) (s : List Int) (l : List Nat) (e : Nat) : l.Sublist (insE d s l e) := by
  unfold insE
  conv => lhs; rw [← List.take_append_drop (sink d s e l l.length) l]
  rw [List.append_assoc]
  exact List.Sublist.append_left (List.sublist_append_right _ _) _
theorem ins_close {d : Int} {s : List Int} {l : List Nat} {e a : Nat} (ha : a ∈ l) (hc : close d s a e) : Abv a e (insE d s l e) := by
  obtain ⟨q, hq, e1⟩ := List.getElem_of_mem ha
  have hlt : q < sink d s e l l.length := by
    apply Classical.byContradiction
    intro h
    have := ww_true.mp (sink_above hq (Nat.le_of_not_lt h))
    rw [List.getD_eq_getElem?_getD, List.getElem?_eq_getElem hq] at this
    simp only [Option.getD_some, e1] at this
    have h2 := hc.1
    omega
  unfold insE
  rw [abv_app]
  refine .inl (abv_app.mpr (.inr (.inr ⟨?_, by simp⟩)))
  rw [List.mem_take_iff_getElem]
  exact ⟨q, by omega, e1⟩
theorem fold_close {d : Int} {s : List Int} : ∀ (o l L : List Nat), (∀ x, x ∈ l ↔ x ∈ L) → (∀ a b, close d s a b → Abv a b L → Abv a b l) → ∀ a b, close d s a b → Abv a b (L ++ o) → Abv a b (o.foldl (insE d s) l)
  | [], l, L, _, h, a, b, hc, hab => h a b hc (by simpa using hab)
  | e :: o, l, L, hm, h, a, b, hc, hab => by
    refine fold_close o (insE d s l e) (L ++ [e]) (fun x => ?_) (fun x y hxy q => ?_) a b hc (by simpa using hab)
    · rw [(insE_perm d s l e).mem_iff, List.mem_cons, List.mem_append, List.mem_singleton, hm]
      exact ⟨fun z => z.symm, fun z => z.symm⟩
    · rcases abv_app.mp q with q | q | ⟨q1, q2⟩
      · exact (h x y hxy q).trans (ins_sub d s l e)
      · rcases abv_cons.mp q with q | ⟨_, q⟩
        · exact absurd q abv_nil
        · simp at q
      · rw [List.mem_singleton.mp q2] at hxy ⊢
        exact ins_close ((hm x).mpr q1) hxy
theorem settled_close {d : Int} {s : List Int} {o : List Nat} {a b : Nat} (hc : close d s a b) (h : Abv a b o) : Abv a b (settledL d s o) :=
  fold_close o [] [] (fun _ => Iff.rfl) (fun _ _ _ h => absurd h abv_nil) a b hc (by simpa using h)
theorem close_iff {d : Int} {s : List Int} {o r : List Nat} (ho : o.Nodup) (p : r.Perm o) (h : ∀ a b, close d s a b → Abv a b o → Abv a b r) : ∀ a b, close d s a b → (Abv a b r ↔ Abv a b o) := fun a b hc => by
  refine ⟨fun q => ?_, h a b hc⟩
  have hr := p.nodup_iff.mpr ho
  have ne : a ≠ b := fun e => by subst e; exact abv_irr hr q
  have m := abv_mem q
  rcases abv_total (p.mem_iff.mp m.1) (p.mem_iff.mp m.2) ne with z | z
  · exact z
  · exact absurd (h b a (close_symm hc) z) (abv_anti hr q)
/-- THE ORDER THAT IS LEFT is the only one -/
theorem settle_uniq {d : Int} (hd : 1 ≤ d) {s : List Int} {o r : List Nat} (ho : o.Nodup) (p : r.Perm o) (hc : Calm d s r) (h : ∀ a b, close d s a b → Abv a b o → Abv a b r) : r = settledL d s o := by
  have p2 := settled_perm d s o
  refine uniq hd r _ (p.nodup_iff.mpr ho) (p2.trans p.symm) hc (settled_calm hd s o) fun a b q => ?_
  rw [close_iff ho p h a b q, close_iff ho p2 (fun a b => settled_close) a b q]
theorem settled_iff {d : Int} {s : List Int} {o : List Nat} (ho : o.Nodup) : ∀ a b, close d s a b → (Abv a b (settledL d s o) ↔ Abv a b o) := close_iff ho (settled_perm d s o) fun _ _ => settled_close
theorem settled_of_calm {d : Int} (hd : 1 ≤ d) {s : List Int} {o : List Nat} (ho : o.Nodup) (hc : Calm d s o) : settledL d s o = o := (settle_uniq hd ho (.refl _) hc fun _ _ _ h => h).symm
theorem settled_twice {d : Int} (hd : 1 ≤ d) (s : List Int) {o : List Nat} (ho : o.Nodup) : settledL d s (settledL d s o) = settledL d s o :=
  settled_of_calm hd ((settled_perm d s o).nodup_iff.mpr ho) (settled_calm hd s o)
/-- of a greater and a lesser lead the lesser one counts -/
theorem settled_lesser {d e : Int} (hd : 1 ≤ d) (he : d ≤ e) (s : List Int) {o : List Nat} (ho : o.Nodup) : settledL d s (settledL e s o) = settledL d s o := by
  refine settle_uniq hd ho ((settled_perm _ _ _).trans (settled_perm _ _ _)) (settled_calm hd _ _) fun a b hc h => settled_close hc (settled_close ?_ h)
  obtain ⟨h1, h2⟩ := hc
  exact ⟨by omega, by omega⟩
/-- an exchange at a wrong place leaves the rest to settling -/
theorem swap_split {o : List Nat} {i : Nat} (h : i + 1 < o.length) : ∃ A B, o = A ++ (o.getD i 0 :: o.getD (i + 1) 0 :: B) ∧ swapAt o i = A ++ (o.getD (i + 1) 0 :: o.getD i 0 :: B) := by
  have e1 : o = o.take i ++ (o.getD i 0 :: o.getD (i + 1) 0 :: o.drop (i + 2)) := by
    have h1 : o.drop i = o[i] :: o.drop (i + 1) := List.drop_eq_getElem_cons (by omega)
    have h2 : o.drop (i + 1) = o[i + 1] :: o.drop (i + 2) := List.drop_eq_getElem_cons h
    have g1 : o.getD i 0 = o[i] := by simp [List.getD_eq_getElem?_getD, List.getElem?_eq_getElem (show i < o.length by omega)]
    have g2 : o.getD (i + 1) 0 = o[i + 1] := by simp [List.getD_eq_getElem?_getD, List.getElem?_eq_getElem h]
    rw [g1, g2, ← h2, ← h1, List.take_append_drop]
  refine ⟨_, _, e1, ?_⟩
  have hl : (o.take i).length = i := by rw [List.length_take]; omega
  unfold swapAt
  generalize o.getD i 0 = x at *
  generalize o.getD (i + 1) 0 = y at *
  generalize o.take i = A at *
  generalize o.drop (i + 2) = B at *
  rw [e1]
  subst hl
  simp
theorem swap_abv {d : Int} {s : List Int} {o : List Nat} {i : Nat} (h : i ∈ wrongL d s o) {a b : Nat} (hc : close d s a b) (q : Abv a b o) : Abv a b (swapAt o i) := by
  obtain ⟨h1, h2⟩ := mem_wrong.mp h
  obtain ⟨A, B, e1, e2⟩ := swap_split h1
  unfold wrongAt at h2
  have hw := ww_true.mp h2
  rw [e2]
  rw [e1] at q
  generalize o.getD i 0 = x at *
  generalize o.getD (i + 1) 0 = y at *
  simp only [abv_app, abv_cons, List.mem_cons] at q ⊢
  have ne : ¬ (a = x ∧ b = y) := by
    rintro ⟨rfl, rfl⟩
    have := hc.1
    omega
  rcases q with q | ((q | ⟨q1, q2⟩) | ⟨q1, q2 | q2⟩) | ⟨q1, q2 | q2 | q2⟩
  · exact .inl q
  · exact .inr (.inl (.inl (.inl q)))
  · exact .inr (.inl (.inr ⟨q1, .inr q2⟩))
  · exact absurd ⟨q1, q2⟩ ne
  · exact .inr (.inl (.inl (.inr ⟨q1, q2⟩)))
  · exact .inr (.inr ⟨q1, .inr (.inl q2)⟩)
  · exact .inr (.inr ⟨q1, .inl q2⟩)
  · exact .inr (.inr ⟨q1, .inr (.inr q2)⟩)
theorem swap_settled {d : Int} (hd : 1 ≤ d) {s : List Int} {o : List Nat} {i : Nat} (ho : o.Nodup) (h : i ∈ wrongL d s o) : settledL d s (swapAt o i) = settledL d s o := by
  have hi := (mem_wrong.mp h).1
  refine settle_uniq hd ho ((settled_perm _ _ _).trans (swap_perm hi)) (settled_calm hd _ _) fun a b hc q => settled_close hc (swap_abv h hc q)
end Lb

/-! the number of the exchanges: the pairs that stand otherwise in the order that is left -/
namespace Lb
theorem ins_keep {d : Int} {s : List Int} {l : List Nat} {e a : Nat} (ha : a ∈ l) (hc : ww d s a e = false) : Abv a e (insE d s l e) := by
  obtain ⟨q, hq, e1⟩ := List.getElem_of_mem ha
  have hlt : q < sink d s e l l.length := by
    apply Classical.byContradiction
    intro h
    have := sink_above (d := d) (s := s) (e := e) hq (Nat.le_of_not_lt h)
    rw [List.getD_eq_getElem?_getD, List.getElem?_eq_getElem hq] at this
    simp only [Option.getD_some, e1] at this
    rw [hc] at this
    cases this
  unfold insE
  rw [abv_app]
  refine .inl (abv_app.mpr (.inr (.inr ⟨?_, by simp⟩)))
  rw [List.mem_take_iff_getElem]
  exact ⟨q, by omega, e1⟩
theorem fold_keep {d : Int} {s : List Int} : ∀ (o l L : List Nat), (∀ x, x ∈ l ↔ x ∈ L) → (∀ a b, ww d s a b = false → Abv a b L → Abv a b l) → ∀ a b, ww d s a b = false → Abv a b (L ++ o) → Abv a b (o.foldl (insE d s) l)
  | [], l, L, _, h, a, b, hc, hab => h a b hc (by simpa using hab)
  | e :: o, l, L, hm, h, a, b, hc, hab => by
    refine fold_keep o (insE d s l e) (L ++ [e]) (fun x => ?_) (fun x y hxy q => ?_) a b hc (by simpa using hab)
    · rw [(insE_perm d s l e).mem_iff, List.mem_cons, List.mem_append, List.mem_singleton, hm]
      exact ⟨fun z => z.symm, fun z => z.symm⟩
    · rcases abv_app.mp q with q | q | ⟨q1, q2⟩
      · exact (h x y hxy q).trans (ins_sub d s l e)
      · rcases abv_cons.mp q with q | ⟨_, q⟩
        · exact absurd q abv_nil
        · simp at q
      · rw [List.mem_singleton.mp q2] at hxy ⊢
        exact ins_keep ((hm x).mpr q1) hxy
/-- where the lower one does not lead, the pair stays -/
theorem settled_keep {d : Int} {s : List Int} {o : List Nat} {a b : Nat} (hc : ww d s a b = false) (h : Abv a b o) : Abv a b (settledL d s o) :=
  fold_keep o [] [] (fun _ => Iff.rfl) (fun _ _ _ h => absurd h abv_nil) a b hc (by simpa using h)
def cnt (p : Nat → Nat → Bool) : List Nat → Nat
  | [] => 0
  | x :: l => l.countP (p x) + cnt p l
theorem cnt_swap (p : Nat → Nat → Bool) (x y : Nat) (B : List Nat) : ∀ A : List Nat, cnt p (A ++ x :: y :: B) + (if p y x then 1 else 0) = cnt p (A ++ y :: x :: B) + (if p x y then 1 else 0)
  | [] => by
    simp only [List.nil_append, cnt, List.countP_cons]
    omega
  | a :: A => by
    have ih := cnt_swap p x y B A
    simp only [List.cons_append, cnt, List.countP_append, List.countP_cons] at ih ⊢
    omega
theorem cnt_le (p : Nat → Nat → Bool) : ∀ l : List Nat, cnt p l ≤ l.length * l.length
  | [] => Nat.zero_le _
  | x :: l => by
    have ih := cnt_le p l
    have h1 := List.countP_le_length (p := p x) (l := l)
    simp only [cnt, List.length_cons]
    have : (l.length + 1) * (l.length + 1) = l.length * l.length + l.length + l.length + 1 := by
      rw [Nat.add_mul, Nat.mul_add]
      omega
    omega
theorem cnt_zero {p : Nat → Nat → Bool} : ∀ {l : List Nat}, (∀ a b, Abv a b l → p a b = false) → cnt p l = 0
  | [], _ => rfl
  | x :: l, h => by
    have ih := cnt_zero (p := p) (l := l) fun a b q => h a b (abv_cons.mpr (.inl q))
    simp only [cnt, ih, Nat.add_zero]
    rw [List.countP_eq_zero]
    intro y hy q
    rw [h x y (abv_cons.mpr (.inr ⟨rfl, hy⟩))] at q
    cases q
/-- the pairs of an order that stand the other way in r -/
def turned (r : List Nat) (a b : Nat) : Bool := decide (Abv b a r)
def exch (d : Int) (s : List Int) (o : List Nat) : Nat := cnt (turned (settledL d s o)) o
theorem exch_swap {d : Int} (hd : 1 ≤ d) {s : List Int} {o : List Nat} {i : Nat} (ho : o.Nodup) (h : i ∈ wrongL d s o) : exch d s o = exch d s (swapAt o i) + 1 := by
  obtain ⟨h1, h2⟩ := mem_wrong.mp h
  have hr := swap_settled hd ho h
  have nr : (settledL d s o).Nodup := (settled_perm d s o).nodup_iff.mpr ho
  unfold exch
  rw [hr]
  obtain ⟨A, B, e1, e2⟩ := swap_split h1
  unfold wrongAt at h2
  have yx : Abv (o.getD (i + 1) 0) (o.getD i 0) (settledL d s o) := by
    rw [← hr]
    refine settled_keep (ww_anti hd h2) ?_
    rw [e2]
    exact abv_app.mpr (.inr (.inl (abv_cons.mpr (.inr ⟨rfl, by simp⟩))))
  have key := cnt_swap (turned (settledL d s o)) (o.getD i 0) (o.getD (i + 1) 0) B A
  rw [← e1, ← e2] at key
  have t1 : turned (settledL d s o) (o.getD i 0) (o.getD (i + 1) 0) = true := decide_eq_true yx
  have t2 : turned (settledL d s o) (o.getD (i + 1) 0) (o.getD i 0) = false := decide_eq_false (abv_anti nr yx)
  rw [t1, t2] at key
  simpa using key
theorem exch_calm {d : Int} (hd : 1 ≤ d) {s : List Int} {o : List Nat} (ho : o.Nodup) (h : Calm d s o) : exch d s o = 0 := by
  unfold exch
  rw [settled_of_calm hd ho h]
  exact cnt_zero fun a b q => decide_eq_false (abv_anti ho q)
theorem exch_le (d : Int) (s : List Int) (o : List Nat) : exch d s o ≤ o.length * o.length := cnt_le _ _
end Lb

/-! whole orders: distances, places, sorting by the lead 1 -/
namespace Lb
theorem bound_head {d : Int} {s : List Int} : ∀ (l : List Nat) (a i : Nat), Calm d s (a :: l) → i < l.length → sc s (l.getD i 0) - sc s a ≤ ((i : Int) + 1) * (d - 1)
  | b :: r, a, 0, ⟨h1, _⟩, _ => by
    have := ww_false.mp h1
    show sc s b - sc s a ≤ (0 + 1) * (d - 1)
    omega
  | b :: r, a, i + 1, ⟨h1, h2⟩, hi => by
    have h := ww_false.mp h1
    have ih := bound_head r b i h2 (by simpa using hi)
    show sc s (r.getD i 0) - sc s a ≤ (((i + 1 : Nat) : Int) + 1) * (d - 1)
    have e : (((i + 1 : Nat) : Int) + 1) * (d - 1) = ((i : Int) + 1) * (d - 1) + (d - 1) := by
      rw [show ((i + 1 : Nat) : Int) + 1 = ((i : Int) + 1) + 1 by omega, Int.add_mul, Int.one_mul]
    rw [e]
    generalize ((i : Int) + 1) * (d - 1) = X at *
    omega
theorem bound_at {d : Int} {s : List Int} {o : List Nat} {i j : Nat} (hc : Calm d s o) (h : i < j) (hj : j < o.length) : sc s (o.getD j 0) - sc s (o.getD i 0) ≤ ((j : Int) - (i : Int)) * (d - 1) := by
  have h1 : o.drop i = o[i] :: o.drop (i + 1) := List.drop_eq_getElem_cons (by omega)
  have hc2 : Calm d s (o.drop i) := by
    rw [← List.take_append_drop i o] at hc
    exact (calm_append.mp hc).2.1
  rw [h1] at hc2
  have key := bound_head (o.drop (i + 1)) o[i] (j - i - 1) hc2 (by rw [List.length_drop]; omega)
  have e1 : (o.drop (i + 1)).getD (j - i - 1) 0 = o.getD j 0 := by
    rw [List.getD_eq_getElem?_getD, List.getD_eq_getElem?_getD, List.getElem?_drop, show i + 1 + (j - i - 1) = j by omega]
  have e2 : o.getD i 0 = o[i] := by simp [List.getD_eq_getElem?_getD, List.getElem?_eq_getElem (show i < o.length by omega)]
  rw [e1] at key
  rw [e2, show (j : Int) - (i : Int) = ((j - i - 1 : Nat) : Int) + 1 by omega]
  exact key
theorem abv_of_get {a b : Nat} : ∀ {l : List Nat} {i j : Nat}, l[i]? = some a → l[j]? = some b → i < j → Abv a b l
  | x :: l, 0, j + 1, hi, hj, _ => by
    have e : x = a := by simpa using hi
    subst e
    exact abv_cons.mpr (.inr ⟨rfl, List.mem_of_getElem? (by simpa using hj)⟩)
  | x :: l, i + 1, j + 1, hi, hj, h => abv_cons.mpr (.inl (abv_of_get (i := i) (j := j) (by simpa using hi) (by simpa using hj) (by omega)))
theorem abv_getD {l : List Nat} {i j : Nat} (h : i < j) (hj : j < l.length) : Abv (l.getD i 0) (l.getD j 0) l :=
  abv_of_get (i := i) (j := j) (by simp [List.getD_eq_getElem?_getD, List.getElem?_eq_getElem (show i < l.length by omega)]) (by simp [List.getD_eq_getElem?_getD, List.getElem?_eq_getElem hj]) h
theorem get_of_abv {a b : Nat} {l : List Nat} {i j : Nat} (hn : l.Nodup) (h : Abv a b l) (hi : l[i]? = some a) (hj : l[j]? = some b) : i < j := by
  rcases Nat.lt_trichotomy i j with q | q | q
  · exact q
  · subst q
    rw [hi] at hj
    cases hj
    exact absurd h (abv_irr hn)
  · exact absurd (abv_of_get hj hi q) (abv_anti hn h)
theorem calm_all {d : Int} {s : List Int} : ∀ {o : List Nat}, (∀ a ∈ o, ∀ b ∈ o, ww d s a b = false) → Calm d s o
  | [], _ => trivial
  | [_], _ => trivial
  | a :: b :: r, h => ⟨h a (by simp) b (by simp), calm_all fun x hx y hy => h x (List.mem_cons_of_mem _ hx) y (List.mem_cons_of_mem _ hy)⟩
/-- the rows: (0 - score, place, entry) -/
def tri (s : List Int) (o : List Nat) : List T3 := o.zipIdx.map fun p => (0 - sc s p.1, (p.2 : Int), (p.1 : Int))
theorem mem_tri {s : List Int} {o : List Nat} {z : T3} (h : z ∈ tri s o) : ∃ e n : Nat, o[n]? = some e ∧ z = (0 - sc s e, (n : Int), (e : Int)) := by
  unfold tri at h
  obtain ⟨p, hp, rfl⟩ := List.mem_map.mp h
  exact ⟨p.1, p.2, List.mem_zipIdx_iff_getElem?.mp hp, rfl⟩
def thd (z : T3) : Nat := z.2.2.toNat
theorem tri_thd (s : List Int) (o : List Nat) : (tri s o).map thd = o := by
  unfold tri
  rw [List.map_map]
  have : (thd ∘ fun p : Nat × Nat => ((0 - sc s p.1, (p.2 : Int), (p.1 : Int)) : T3)) = fun p => p.1 := by
    funext p
    show ((p.1 : Int)).toNat = p.1
    omega
  rw [this]
  exact List.zipIdx_map_fst 0 o
theorem rows_calm {s : List Int} : ∀ {zs : List T3}, SrtO.Srtd lexT zs → (∀ z ∈ zs, z.1 = 0 - sc s (thd z)) → Calm 1 s (zs.map thd)
  | [], _, _ => trivial
  | [_], _, _ => trivial
  | x :: y :: r, h, hz => by
    obtain ⟨h1, h2⟩ := List.pairwise_cons.mp h
    refine ⟨?_, rows_calm (zs := y :: r) h2 fun z m => hz z (List.mem_cons_of_mem _ m)⟩
    have a := lexT_no.mp (h1 y (by simp))
    have e1 := hz x (by simp)
    have e2 := hz y (by simp)
    rw [ww_false]
    omega
/-- the lead 1 sorts; equal scores as they stood -/
theorem rows_settled {s : List Int} {o : List Nat} (hn : o.Nodup) {zs : List T3} (p : zs.Perm (tri s o)) (h : SrtO.Srtd lexT zs) : zs.map thd = settledL 1 s o := by
  have mem : ∀ z ∈ zs, ∃ e n : Nat, o[n]? = some e ∧ z = (0 - sc s e, (n : Int), (e : Int)) := fun z hz => mem_tri (p.mem_iff.mp hz)
  have pm : (zs.map thd).Perm o := by
    have := p.map thd
    rwa [tri_thd] at this
  refine settle_uniq (by decide) hn pm (rows_calm h fun z hz => ?_) fun a b hc hab => ?_
  · obtain ⟨e, n, _, rfl⟩ := mem z hz
    show 0 - sc s e = 0 - sc s ((e : Int)).toNat
    rw [Int.toNat_natCast]
  · have ne : a ≠ b := fun e => by subst e; exact abv_irr hn hab
    have m := abv_mem hab
    rcases abv_total (pm.mem_iff.mpr m.1) (pm.mem_iff.mpr m.2) ne with q | q
    · exact q
    · exfalso
      obtain ⟨l', hl, el⟩ := List.sublist_map_iff.mp q
      obtain ⟨z1, z2, rfl⟩ : ∃ z1 z2, l' = [z1, z2] := by
        match l', el with
        | [z1, z2], _ => exact ⟨z1, z2, rfl⟩
      simp only [List.map_cons, List.map_nil, List.cons.injEq, and_true] at el
      obtain ⟨e1, e2⟩ := el
      have hp := (List.pairwise_cons.mp (List.Pairwise.sublist hl h)).1 z2 (by simp)
      obtain ⟨x1, n1, g1, rfl⟩ := mem z1 (hl.subset (by simp))
      obtain ⟨x2, n2, g2, rfl⟩ := mem z2 (hl.subset (by simp))
      have f1 : x1 = b := by
        rw [e1]
        show x1 = ((x1 : Int)).toNat
        omega
      have f2 : x2 = a := by
        rw [e2]
        show x2 = ((x2 : Int)).toNat
        omega
      rw [f1] at g1 hp
      rw [f2] at g2 hp
      have lt := get_of_abv hn hab g2 g1
      have := lexT_no.mp hp
      obtain ⟨c1, c2⟩ := hc
      dsimp only at this
      omega
theorem rows_third {s : List Int} {o : List Nat} {zs : List T3} (p : zs.Perm (tri s o)) : ∀ z ∈ zs, z.2.2 = ((thd z : Nat) : Int) := fun z hz => by
  obtain ⟨e, n, _, rfl⟩ := mem_tri (p.mem_iff.mp hz)
  show (e : Int) = (((e : Int)).toNat : Int)
  omega
theorem up_settled : settledL 4 ((List.range 28).map fun i : Nat => (3 : Int) * i) (List.range 28) = List.range 28 := by
  refine settled_of_calm (by decide) List.nodup_range ?_
  rw [calm_iff]
  intro i hi
  rw [List.length_range] at hi
  have : ∀ i < 27, wrongAt 4 ((List.range 28).map fun i : Nat => (3 : Int) * i) (List.range 28) i = false := by decide
  exact this i (by omega)
end Lb

/-! scores changed alike: entries carried over, turned around, in groups -/
namespace Lb
theorem ww_close {d d' : Int} {s s' : List Int} {a b a' b' : Nat} (h1 : ww d s a b = ww d' s' a' b') (h2 : ww d s b a = ww d' s' b' a') : close d s a b ↔ close d' s' a' b' := by
  unfold close
  rw [← ww_false, ← ww_false, ← ww_false, ← ww_false, h1, h2]
theorem abv_map {f : Nat → Nat} {x y : Nat} {l : List Nat} (h : Abv x y (l.map f)) : ∃ a b, Abv a b l ∧ f a = x ∧ f b = y := by
  obtain ⟨l', hl, el⟩ := List.sublist_map_iff.mp h
  match l', el with
  | [a, b], el =>
    simp only [List.map_cons, List.map_nil, List.cons.injEq, and_true] at el
    exact ⟨a, b, hl, el.1.symm, el.2.symm⟩
theorem map_abv {f : Nat → Nat} {a b : Nat} {l : List Nat} (h : Abv a b l) : Abv (f a) (f b) (l.map f) := List.Sublist.map f h
theorem calm_map {d d' : Int} {s s' : List Int} {f : Nat → Nat} : ∀ {l : List Nat}, (∀ a ∈ l, ∀ b ∈ l, ww d s (f a) (f b) = ww d' s' a b) → Calm d' s' l → Calm d s (l.map f)
  | [], _, _ => trivial
  | [_], _, _ => trivial
  | a :: b :: r, h, ⟨c1, c2⟩ => ⟨by rw [h a (by simp) b (by simp)]; exact c1, calm_map (l := b :: r) (fun x hx y hy => h x (List.mem_cons_of_mem _ hx) y (List.mem_cons_of_mem _ hy)) c2⟩
theorem nodup_map {f : Nat → Nat} {o : List Nat} (hn : o.Nodup) (inj : ∀ a ∈ o, ∀ b ∈ o, f a = f b → a = b) : (o.map f).Nodup := by
  refine List.pairwise_map.mpr ?_
  refine List.Pairwise.imp_of_mem (fun {a b} ha hb ne e => ne (inj a ha b hb e)) hn
/-- the order that is left is carried over with the entries -/
theorem settled_map {d d' : Int} {s s' : List Int} {f : Nat → Nat} {o : List Nat} (hd : 1 ≤ d) (hd' : 1 ≤ d') (hn : o.Nodup) (inj : ∀ a ∈ o, ∀ b ∈ o, f a = f b → a = b) (h : ∀ a ∈ o, ∀ b ∈ o, ww d s (f a) (f b) = ww d' s' a b) :
    settledL d s (o.map f) = (settledL d' s' o).map f := by
  have pm := settled_perm d' s' o
  refine (settle_uniq hd (nodup_map hn inj) (pm.map f) (calm_map (fun a ha b hb => h a (pm.mem_iff.mp ha) b (pm.mem_iff.mp hb)) (settled_calm hd' s' o)) fun x y hc q => ?_).symm
  obtain ⟨a, b, q2, rfl, rfl⟩ := abv_map q
  have m := abv_mem q2
  exact map_abv (settled_close ((ww_close (h a m.1 b m.2) (h b m.2 a m.1)).mp hc) q2)
theorem settled_same {d d' : Int} {s s' : List Int} {o : List Nat} (hd : 1 ≤ d) (hd' : 1 ≤ d') (hn : o.Nodup) (h : ∀ a ∈ o, ∀ b ∈ o, ww d s a b = ww d' s' a b) : settledL d s o = settledL d' s' o := by
  have := settled_map (f := fun x => x) hd hd' hn (fun _ _ _ _ e => e) h
  simpa using this
/-! turned around -/
theorem calm_rev {d : Int} {s s' : List Int} : ∀ {l : List Nat}, (∀ a ∈ l, ∀ b ∈ l, ww d s' a b = ww d s b a) → Calm d s l → Calm d s' l.reverse
  | [], _, _ => trivial
  | [_], _, _ => trivial
  | a :: b :: r, h, ⟨c1, c2⟩ => by
    have ih := calm_rev (l := b :: r) (fun x hx y hy => h x (List.mem_cons_of_mem _ hx) y (List.mem_cons_of_mem _ hy)) c2
    rw [List.reverse_cons, calm_append]
    refine ⟨ih, trivial, fun x y hx hy => ?_⟩
    rw [List.getLast?_reverse] at hx
    have ex : b = x := by simpa using hx
    have ey : a = y := by simpa using hy
    rw [← ex, ← ey, h b (by simp) a (by simp)]
    exact c1
theorem abv_rev {a b : Nat} {l : List Nat} (h : Abv a b l) : Abv b a l.reverse := by
  have := List.Sublist.reverse h
  simpa using this
theorem settled_rev {d : Int} {s s' : List Int} {o : List Nat} (hd : 1 ≤ d) (hn : o.Nodup) (h : ∀ a ∈ o, ∀ b ∈ o, ww d s' a b = ww d s b a) : settledL d s' o.reverse = (settledL d s o).reverse := by
  have pm := settled_perm d s o
  refine (settle_uniq hd ((List.reverse_perm o).nodup_iff.mpr hn) ((List.reverse_perm _).trans (pm.trans (List.reverse_perm _).symm)) (calm_rev (fun a ha b hb => h a (pm.mem_iff.mp ha) b (pm.mem_iff.mp hb)) (settled_calm hd s o)) fun x y hc q => ?_).symm
  have q2 := abv_rev q
  rw [List.reverse_reverse] at q2
  have m := abv_mem q2
  exact abv_rev (settled_close ((ww_close (h x m.2 y m.1) (h y m.1 x m.2)).mp hc) q2)
/-! groups -/
def Sep (d : Int) (s : List Int) (g h : List Nat) : Prop := ∀ a ∈ g, ∀ b ∈ h, d ≤ sc s a - sc s b
def dueG (d : Int) (s : List Int) (o : List Nat) (G : List (List Nat)) : List Nat := (G.map fun g => settledL d s (o.filter fun e => decide (e ∈ g))).flatten
theorem fil_mem {d : Int} {s : List Int} {o g : List Nat} {x : Nat} (h : x ∈ settledL d s (o.filter fun e => decide (e ∈ g))) : x ∈ g := by
  have := (settled_perm d s _).mem_iff.mp h
  exact of_decide_eq_true (List.mem_filter.mp this).2
theorem due_mem {d : Int} {s : List Int} {o : List Nat} {x : Nat} : ∀ {G : List (List Nat)}, x ∈ dueG d s o G → x ∈ G.flatten
  | g :: G, h => by
    unfold dueG at h
    rw [List.map_cons, List.flatten_cons] at h
    rw [List.flatten_cons]
    rcases List.mem_append.mp h with h | h
    · exact List.mem_append_left _ (fil_mem h)
    · exact List.mem_append_right _ (due_mem h)
theorem fil_perm {o g : List Nat} (hn : o.Nodup) (hg : g.Nodup) (h : ∀ x ∈ g, x ∈ o) : (o.filter fun e => decide (e ∈ g)).Perm g :=
  (List.perm_ext_iff_of_nodup (hn.sublist List.filter_sublist) hg).mpr fun x => by
    rw [List.mem_filter]
    exact ⟨fun q => of_decide_eq_true q.2, fun q => ⟨h x q, decide_eq_true q⟩⟩
theorem due_perm {d : Int} {s : List Int} {o : List Nat} (hn : o.Nodup) : ∀ {G : List (List Nat)}, G.flatten.Nodup → (∀ x ∈ G.flatten, x ∈ o) → (dueG d s o G).Perm G.flatten
  | [], _, _ => .refl _
  | g :: G, nd, h => by
    rw [List.flatten_cons] at nd h
    rw [List.nodup_append] at nd
    unfold dueG
    rw [List.map_cons, List.flatten_cons, List.flatten_cons]
    exact ((settled_perm _ _ _).trans (fil_perm hn nd.1 fun x hx => h x (List.mem_append_left _ hx))).append (due_perm hn nd.2.1 fun x hx => h x (List.mem_append_right _ hx))
theorem due_calm {d : Int} (hd : 1 ≤ d) {s : List Int} {o : List Nat} : ∀ {G : List (List Nat)}, G.Pairwise (Sep d s) → Calm d s (dueG d s o G)
  | [], _ => trivial
  | g :: G, p => by
    obtain ⟨p1, p2⟩ := List.pairwise_cons.mp p
    unfold dueG
    rw [List.map_cons, List.flatten_cons, calm_append]
    refine ⟨settled_calm hd _ _, due_calm hd p2, fun a b ha hb => ?_⟩
    have m1 := fil_mem (List.mem_of_getLast? ha)
    have m2 := due_mem (G := G) (List.mem_of_head? hb)
    obtain ⟨h, hh, hbh⟩ := List.mem_flatten.mp m2
    have := p1 h hh a m1 b hbh
    rw [ww_false]
    omega
theorem fil_abv {o : List Nat} {p : Nat → Bool} {a b : Nat} (h : Abv a b o) (ha : p a = true) (hb : p b = true) : Abv a b (o.filter p) := by
  have := List.Sublist.filter p h
  rwa [List.filter_cons_of_pos ha, List.filter_cons_of_pos hb, List.filter_nil] at this
theorem due_close {d : Int} (hd : 1 ≤ d) {s : List Int} {o : List Nat} {a b : Nat} (hc : close d s a b) (h : Abv a b o) : ∀ {G : List (List Nat)}, G.Pairwise (Sep d s) → a ∈ G.flatten → b ∈ G.flatten → Abv a b (dueG d s o G)
  | [], _, ha, _ => by simp at ha
  | g :: G, p, ha, hb => by
    obtain ⟨p1, p2⟩ := List.pairwise_cons.mp p
    rw [List.flatten_cons] at ha hb
    unfold dueG
    rw [List.map_cons, List.flatten_cons, abv_app]
    obtain ⟨c1, c2⟩ := hc
    rcases List.mem_append.mp ha with ha | ha
    · rcases List.mem_append.mp hb with hb | hb
      · exact .inl (settled_close ⟨c1, c2⟩ (fil_abv h (decide_eq_true ha) (decide_eq_true hb)))
      · obtain ⟨x, hx, hbx⟩ := List.mem_flatten.mp hb
        have := p1 x hx a ha b hbx
        omega
    · rcases List.mem_append.mp hb with hb | hb
      · obtain ⟨x, hx, hax⟩ := List.mem_flatten.mp ha
        have := p1 x hx b hb a hax
        omega
      · exact .inr (.inl (due_close hd ⟨c1, c2⟩ h p2 ha hb))
/-- each group is settled by itself -/
theorem groups_settled {d : Int} (hd : 1 ≤ d) {s : List Int} {o : List Nat} (hn : o.Nodup) {G : List (List Nat)} (pg : G.flatten.Perm o) (p : G.Pairwise (Sep d s)) : dueG d s o G = settledL d s o := by
  refine settle_uniq hd hn ((due_perm hn (pg.nodup_iff.mpr hn) fun x hx => pg.mem_iff.mp hx).trans pg) (due_calm hd p) fun a b hc h => ?_
  have m := abv_mem h
  exact due_close hd hc h p (pg.mem_iff.mpr m.1) (pg.mem_iff.mpr m.2)
/-- groups of z on the way -/
structure GInv (d : Int) (s : List Int) (z : List Nat) (G : List (List Nat)) (g : List Nat) (m : Nat) : Prop where
  fl : (G ++ [g]).flatten = z.take m
  sp : (G ++ [g]).Pairwise (Sep d s)
  na : ∀ h ∈ G ++ [g], h ≠ []
theorem ginv_one {d : Int} {s : List Int} {z : List Nat} (h : 0 < z.length) : GInv d s z [] [z.getD 0 0] 1 := by
  cases z with
  | nil => simp at h
  | cons x z => exact ⟨by simp, by simp, fun h hh => by rw [List.mem_singleton.mp hh]; simp⟩
theorem ginv_step {d : Int} {s : List Int} {z : List Nat} {G : List (List Nat)} {g : List Nat} {m : Nat} (srt : z.Pairwise fun a b => sc s b ≤ sc s a) (i : GInv d s z G g (m + 1)) (hm : m + 1 < z.length) :
    GInv d s z (if d ≤ sc s (z.getD m 0) - sc s (z.getD (m + 1) 0) then G ++ [g] else G) (if d ≤ sc s (z.getD m 0) - sc s (z.getD (m + 1) 0) then [z.getD (m + 1) 0] else g ++ [z.getD (m + 1) 0]) (m + 2) := by
  obtain ⟨fl, sp, na⟩ := i
  have ne : g ≠ [] := na g (by simp)
  have gx : ∀ {k : Nat}, k < z.length → z[k]? = some (z.getD k 0) := fun {k} h => by
    rw [List.getD_eq_getElem?_getD, List.getElem?_eq_getElem h]
    rfl
  have tk : z.take (m + 2) = z.take (m + 1) ++ [z.getD (m + 1) 0] := by
    rw [List.take_add_one, gx hm]
    rfl
  have before : ∀ {a k : Nat}, k < z.length → a ∈ z.take k → sc s (z.getD k 0) ≤ sc s a := fun {a k} hk ha => by
    obtain ⟨j, hj, e⟩ := List.mem_take_iff_getElem.mp ha
    have := List.pairwise_iff_getElem.mp srt j k (by omega) hk (by omega)
    rw [e] at this
    have e2 : z.getD k 0 = z[k] := by
      rw [List.getD_eq_getElem?_getD, List.getElem?_eq_getElem hk]
      rfl
    rwa [e2]
  have bm : ∀ {a : Nat}, a ∈ (G ++ [g]).flatten → sc s (z.getD m 0) ≤ sc s a := fun {a} ha => by
    rw [fl, List.take_add_one, gx (by omega)] at ha
    rcases List.mem_append.mp ha with ha | ha
    · exact before (by omega) ha
    · rw [show a = z.getD m 0 by simpa using ha]
      exact Int.le_refl _
  have bm1 : ∀ {a : Nat}, a ∈ (G ++ [g]).flatten → sc s (z.getD (m + 1) 0) ≤ sc s a := fun {a} ha => by
    rw [fl] at ha
    exact before hm ha
  generalize z.getD (m + 1) 0 = x at *
  generalize z.getD m 0 = y at *
  by_cases c : d ≤ sc s y - sc s x
  · rw [if_pos c, if_pos c]
    refine ⟨?_, ?_, fun h hh => ?_⟩
    rotate_left 2
    · rcases List.mem_append.mp hh with hh | hh
      · exact na h hh
      · rw [List.mem_singleton.mp hh]; simp
    · rw [List.flatten_append, fl, tk]
      rfl
    · rw [List.pairwise_append]
      refine ⟨sp, by simp, fun h hh k hk a ha b hb => ?_⟩
      rw [List.mem_singleton.mp hk] at hb
      rw [List.mem_singleton.mp hb]
      have := bm (List.mem_flatten.mpr ⟨h, hh, ha⟩)
      omega
  · rw [if_neg c, if_neg c]
    refine ⟨?_, ?_, fun h hh => ?_⟩
    rotate_left 2
    · rcases List.mem_append.mp hh with hh | hh
      · exact na h (List.mem_append_left _ hh)
      · rw [List.mem_singleton.mp hh]; simp
    · rw [tk, ← fl, List.flatten_append, List.flatten_append]
      simp
    · rw [List.pairwise_append] at sp ⊢
      obtain ⟨s1, _, s3⟩ := sp
      refine ⟨s1, by simp, fun h hh k hk a ha b hb => ?_⟩
      rw [List.mem_singleton.mp hk] at hb
      rcases List.mem_append.mp hb with hb | hb
      · exact s3 h hh g (by simp) a ha b hb
      · rw [List.mem_singleton.mp hb]
        obtain ⟨b0, g', eg⟩ : ∃ b0 g', g = b0 :: g' := by
          cases g with
          | nil => exact absurd rfl ne
          | cons b0 g' => exact ⟨b0, g', rfl⟩
        have hb0 : b0 ∈ g := by rw [eg]; exact List.mem_cons_self
        have h1 := s3 h hh g (by simp) a ha b0 hb0
        have h2 := bm1 (a := b0) (List.mem_flatten.mpr ⟨g, by simp, hb0⟩)
        omega
/-! the rows of pairs -/
def kk (s : List Int) (e : Nat) : Int × Int := (0 - sc s e, (e : Int))
def prs (s : List Int) : List (Int × Int) := s.zipIdx.map fun p => (0 - p.1, (p.2 : Int))
theorem prs_eq (s : List Int) : prs s = (List.range s.length).map (kk s) := by
  unfold prs
  refine List.ext_getElem? fun k => ?_
  rw [List.getElem?_map, List.getElem?_zipIdx, List.getElem?_map]
  by_cases hk : k < s.length
  · rw [List.getElem?_eq_getElem hk, List.getElem?_range hk]
    show some (0 - s[k], ((0 + k : Nat) : Int)) = some (0 - s.getD k 0, (k : Int))
    rw [List.getD_eq_getElem?_getD, List.getElem?_eq_getElem hk, Nat.zero_add]
    rfl
  · rw [List.getElem?_eq_none (by omega), List.getElem?_eq_none (by rw [List.length_range]; omega)]
    rfl
theorem prs_sorted {s : List Int} {zz : List (Int × Int)} (p : zz.Perm (prs s)) (h : SrtO.Srtd SrtO.lexB zz) : ∃ z : List Nat, zz = z.map (kk s) ∧ z.Perm (List.range s.length) ∧ z.Pairwise fun a b => sc s b ≤ sc s a := by
  rw [prs_eq] at p
  have ez : zz = (zz.map fun q => q.2.toNat).map (kk s) := by
    rw [List.map_map]
    conv => lhs; rw [← List.map_id zz]
    refine List.map_congr_left fun q hq => ?_
    obtain ⟨e, _, rfl⟩ := List.mem_map.mp (p.mem_iff.mp hq)
    show kk s e = kk s ((e : Int)).toNat
    rw [Int.toNat_natCast]
  refine ⟨zz.map fun q => q.2.toNat, ez, ?_, ?_⟩
  · have := p.map fun q => q.2.toNat
    rw [List.map_map] at this
    have e2 : (List.range s.length).map ((fun q : Int × Int => q.2.toNat) ∘ kk s) = List.range s.length := by
      conv => rhs; rw [← List.map_id (List.range s.length)]
      refine List.map_congr_left fun e _ => ?_
      show ((e : Int)).toNat = e
      exact Int.toNat_natCast e
    rwa [e2] at this
  · rw [ez] at h
    refine (List.pairwise_map.mp h).imp fun {a b} q => ?_
    have := SrtO.lexB_no.mp q
    unfold kk at this
    dsimp only at this
    omega
end Lb

/-! chains of close entries -/
namespace Lb
/-- a chain of close entries leads from a down to b -/
inductive Ch (d : Int) (s : List Int) (o : List Nat) : Nat → Nat → Prop
  | one {a b : Nat} : Abv a b o → close d s a b → Ch d s o a b
  | cons {a b c : Nat} : Abv a b o → close d s a b → Ch d s o b c → Ch d s o a c
theorem Ch.mem {d : Int} {s : List Int} {o : List Nat} {a b : Nat} (h : Ch d s o a b) : a ∈ o ∧ b ∈ o := by
  induction h with
  | one h _ => exact abv_mem h
  | cons h _ _ ih => exact ⟨(abv_mem h).1, ih.2⟩
theorem abv_trans {a b c : Nat} : ∀ {l : List Nat}, l.Nodup → Abv a b l → Abv b c l → Abv a c l
  | x :: l, hn, h1, h2 => by
    obtain ⟨n1, n2⟩ := List.nodup_cons.mp hn
    rcases abv_cons.mp h2 with h3 | ⟨e3, h3⟩
    · rcases abv_cons.mp h1 with h4 | ⟨e4, h4⟩
      · exact abv_cons.mpr (.inl (abv_trans n2 h4 h3))
      · exact abv_cons.mpr (.inr ⟨e4, (abv_mem h3).2⟩)
    · rcases abv_cons.mp h1 with h4 | ⟨e4, h4⟩
      · exact absurd (e3 ▸ (abv_mem h4).2) n1
      · exact absurd (e3 ▸ h4) n1
  | [], _, h1, _ => absurd h1 abv_nil
theorem Ch.abv {d : Int} {s : List Int} {o : List Nat} {a b : Nat} (hn : o.Nodup) (h : Ch d s o a b) : Abv a b o := by
  induction h with
  | one h _ => exact h
  | cons h _ _ ih => exact abv_trans hn h ih
theorem Ch.to {d : Int} {s : List Int} {o r : List Nat} {a b : Nat} (k : ∀ a b, close d s a b → Abv a b o → Abv a b r) (h : Ch d s o a b) : Ch d s r a b := by
  induction h with
  | one h c => exact .one (k _ _ c h) c
  | cons h c _ ih => exact .cons (k _ _ c h) c ih
theorem Ch.sub {d : Int} {s : List Int} {o r : List Nat} {a b : Nat} (k : o.Sublist r) (h : Ch d s o a b) : Ch d s r a b := h.to fun _ _ _ q => q.trans k
/-- the first one that is not far below y -/
theorem first_near {d : Int} {s : List Int} {t : Int} {x : Nat} : ∀ (l : List Nat) (v : Nat), Calm d s (v :: l) → sc s v ≤ t - d → x ∈ l → t - d < sc s x → ∃ u rest, (u :: rest).Sublist l ∧ Calm d s (u :: rest) ∧ t - d < sc s u ∧ sc s u < t ∧ x ∈ u :: rest ∧ rest.length < l.length
  | z :: l, v, ⟨c1, c2⟩, hv, hx, ht => by
    have c1 := ww_false.mp c1
    by_cases hz : t - d < sc s z
    · exact ⟨z, l, .refl _, c2, hz, by omega, hx, by simp⟩
    · rcases List.mem_cons.mp hx with rfl | hx
      · omega
      · obtain ⟨u, rest, h1, h2, h3, h4, h5, h6⟩ := first_near l z c2 (by omega) hx ht
        exact ⟨u, rest, h1.trans (List.sublist_cons_self _ _), h2, h3, h4, h5, by simp; omega⟩
/-- where no place is wrong: what does not lead by as much leads down by a chain -/
theorem chain_down {d : Int} {s : List Int} {x : Nat} : ∀ (n : Nat) (l : List Nat) (y : Nat), l.length ≤ n → Calm d s (y :: l) → x ∈ l → sc s y - sc s x < d → Ch d s (y :: l) y x
  | 0, [], _, _, _, hx, _ => by simp at hx
  | n + 1, z :: l, y, hn, ⟨c1, c2⟩, hx, hs => by
    have c1 := ww_false.mp c1
    by_cases hc : sc s x - sc s y < d
    · exact .one (abv_cons.mpr (.inr ⟨rfl, hx⟩)) ⟨hc, hs⟩
    · have ln : l.length ≤ n := by simpa using hn
      by_cases hz : sc s y - d < sc s z
      · have cl : close d s y z := ⟨by omega, by omega⟩
        have ab : Abv y z (y :: z :: l) := abv_cons.mpr (.inr ⟨rfl, by simp⟩)
        rcases List.mem_cons.mp hx with rfl | hx
        · exact .one ab cl
        · have lt : sc s z - sc s x < d := by omega
          have q := chain_down n l z ln c2 hx lt
          exact .cons ab cl (q.sub (List.sublist_cons_self _ _))
      · rcases List.mem_cons.mp hx with rfl | hx
        · omega
        · obtain ⟨u, rest, h1, h2, h3, h4, h5, h6⟩ := first_near (t := sc s y) l z c2 (by omega) hx (by omega)
          have cl : close d s y u := ⟨by omega, by omega⟩
          have ul : u ∈ z :: l := List.mem_cons_of_mem _ (h1.subset (by simp))
          have ab : Abv y u (y :: z :: l) := abv_cons.mpr (.inr ⟨rfl, ul⟩)
          rcases List.mem_cons.mp h5 with rfl | h5
          · omega
          · have lt : sc s u - sc s x < d := by omega
            have lr : rest.length ≤ n := by omega
            have q := chain_down n rest u lr h2 h5 lt
            exact .cons ab cl (q.sub (h1.trans ((List.sublist_cons_self _ _).trans (List.sublist_cons_self _ _))))
theorem chain_settled {d : Int} {s : List Int} {y x : Nat} : ∀ {r : List Nat}, Calm d s r → Abv y x r → sc s y - sc s x < d → Ch d s r y x
  | z :: r, c, h, hs => by
    rcases abv_cons.mp h with h3 | ⟨e3, h3⟩
    · have c2 : Calm d s r := by
        cases r with
        | nil => trivial
        | cons w r => exact c.2
      exact (chain_settled c2 h3 hs).sub (List.sublist_cons_self _ _)
    · subst e3
      exact chain_down r.length r _ (Nat.le_refl _) c h3 hs
  | [], _, h, _ => absurd h abv_nil
/-- above in the order that is left: by a chain, or with a greater score where no chain leads either way -/
theorem above_iff {d : Int} (hd : 1 ≤ d) {s : List Int} {o : List Nat} (hn : o.Nodup) {x y : Nat} (hx : x ∈ o) (hy : y ∈ o) (ne : x ≠ y) : Abv x y (settledL d s o) ↔ Ch d s o x y ∨ (¬ Ch d s o x y ∧ ¬ Ch d s o y x ∧ sc s y < sc s x) := by
  have pm := settled_perm d s o
  have nr : (settledL d s o).Nodup := pm.nodup_iff.mpr hn
  have cm := settled_calm hd s o
  have up : ∀ {a b}, Ch d s o a b → Ch d s (settledL d s o) a b := fun h => h.to fun a b c q => settled_close c q
  have dn : ∀ {a b}, Ch d s (settledL d s o) a b → Ch d s o a b := fun h => h.to fun a b c q => (settled_iff hn a b c).mp q
  constructor
  · intro h
    by_cases c : Ch d s o x y
    · exact .inl c
    · refine .inr ⟨c, fun q => abv_anti nr h ((up q).abv nr), ?_⟩
      apply Classical.byContradiction
      intro ns
      exact c (dn (chain_settled cm h (by omega)))
  · rintro (h | ⟨h1, h2, h3⟩)
    · exact (up h).abv nr
    · rcases abv_total (pm.mem_iff.mpr hx) (pm.mem_iff.mpr hy) ne with q | q
      · exact q
      · exact absurd (dn (chain_settled cm q (by omega))) h2
/-- how many stand above: the place -/
theorem place_count {e : Nat} : ∀ {r : List Nat}, r.Nodup → e ∈ r → r.countP (fun x => decide (Abv x e r)) = r.idxOf e
  | x :: r, hn, he => by
    obtain ⟨n1, n2⟩ := List.nodup_cons.mp hn
    rw [List.countP_cons, List.idxOf_cons]
    by_cases ex : x = e
    · subst ex
      have h0 : (r.countP fun y => decide (Abv y x (x :: r))) = 0 := by
        rw [List.countP_eq_zero]
        intro y hy q
        rcases abv_cons.mp (of_decide_eq_true q) with q | ⟨rfl, q⟩
        · exact n1 (abv_mem q).2
        · exact n1 q
      have h1 : decide (Abv x x (x :: r)) = false := decide_eq_false fun q => abv_irr hn q
      rw [h0, h1]
      simp
    · have he2 : e ∈ r := by
        rcases List.mem_cons.mp he with q | q
        · exact absurd q.symm ex
        · exact q
      have h0 : (r.countP fun y => decide (Abv y e (x :: r))) = r.countP fun y => decide (Abv y e r) := by
        refine List.countP_congr fun y hy => ?_
        rw [decide_eq_true_iff, decide_eq_true_iff, abv_cons]
        constructor
        · rintro (q | ⟨rfl, _⟩)
          · exact q
          · exact absurd hy n1
        · exact .inl
      have h1 : decide (Abv x e (x :: r)) = true := decide_eq_true (abv_cons.mpr (.inr ⟨rfl, he2⟩))
      rw [h0, h1, place_count n2 he2]
      have : (x == e) = false := beq_eq_false_iff_ne.mpr ex
      rw [this]
      simp
end Lb

/-! the order that is left, found by chains -/
namespace Lb
theorem Ch.snoc {d : Int} {s : List Int} {o : List Nat} {x e : Nat} : Ch d s o x e ↔ ∃ w, Abv w e o ∧ close d s w e ∧ (x = w ∨ Ch d s o x w) := by
  constructor
  · intro h
    induction h with
    | @one a b h c => exact ⟨a, h, c, .inl rfl⟩
    | @cons a b c h cl _ ih =>
      obtain ⟨w, h1, h2, h3⟩ := ih
      refine ⟨w, h1, h2, .inr ?_⟩
      rcases h3 with rfl | h3
      · exact .one h cl
      · exact .cons h cl h3
  · rintro ⟨w, h1, h2, rfl | h3⟩
    · exact .one h1 h2
    · induction h3 with
      | one h c => exact .cons h c (.one h1 h2)
      | cons h c _ ih => exact .cons h c (ih h1 h2)
/-- by places -/
theorem Ch.at {d : Int} {s : List Int} {o : List Nat} (hn : o.Nodup) {x k : Nat} (hk : k < o.length) : Ch d s o x (o.getD k 0) ↔ ∃ j, j < k ∧ close d s (o.getD j 0) (o.getD k 0) ∧ (x = o.getD j 0 ∨ Ch d s o x (o.getD j 0)) := by
  have gk : ∀ {k : Nat}, k < o.length → o[k]? = some (o.getD k 0) := fun {k} h => by
    rw [List.getD_eq_getElem?_getD, List.getElem?_eq_getElem h]
    rfl
  rw [Ch.snoc]
  constructor
  · rintro ⟨w, h1, h2, h3⟩
    obtain ⟨j, hj⟩ := List.mem_iff_getElem?.mp (abv_mem h1).1
    have lj := (List.getElem?_eq_some_iff.mp hj).1
    have ew : o.getD j 0 = w := by
      rw [List.getD_eq_getElem?_getD, hj]
      rfl
    exact ⟨j, get_of_abv hn h1 hj (gk hk), by rw [ew]; exact h2, by rw [ew]; exact h3⟩
  · rintro ⟨j, h1, h2, h3⟩
    exact ⟨_, abv_getD h1 hk, h2, h3⟩
/-- the lists of what is above by chains -/
structure Abs (d : Int) (s : List Int) (o : List Nat) (G : List (List Nat)) (n : Nat) : Prop where
  len : G.length = n
  nd : ∀ k, k < n → (G.getD k []).Nodup
  mem : ∀ k, k < n → ∀ x, x ∈ G.getD k [] ↔ Ch d s o x (o.getD k 0)
theorem Abs.snoc {d : Int} {s : List Int} {o : List Nat} {G : List (List Nat)} {n : Nat} (a : Abs d s o G n) {g : List Nat} (hn : g.Nodup) (hm : ∀ x, x ∈ g ↔ Ch d s o x (o.getD n 0)) : Abs d s o (G ++ [g]) (n + 1) := by
  have gl : ∀ {k : Nat}, k < n → (G ++ [g]).getD k [] = G.getD k [] := fun {k} h => by
    rw [List.getD_eq_getElem?_getD, List.getElem?_append_left (by rw [a.len]; exact h), List.getD_eq_getElem?_getD]
  have gn : (G ++ [g]).getD n [] = g := by
    rw [List.getD_eq_getElem?_getD, List.getElem?_append_right (by rw [a.len]; exact Nat.le_refl _), a.len, Nat.sub_self]
    rfl
  refine ⟨by rw [List.length_append, a.len]; rfl, fun k hk => ?_, fun k hk => ?_⟩
  · rcases Nat.lt_succ_iff_lt_or_eq.mp hk with h | rfl
    · rw [gl h]; exact a.nd k h
    · rw [gn]; exact hn
  · rcases Nat.lt_succ_iff_lt_or_eq.mp hk with h | rfl
    · rw [gl h]; exact a.mem k h
    · rw [gn]; exact hm
/-- what is counted for the entry at a place -/
def cntP (s : List Int) (o : List Nat) (G : List (List Nat)) (k j : Nat) : Bool := !decide (o.getD j 0 ∈ G.getD k []) && (!decide (o.getD k 0 ∈ G.getD j []) && decide (sc s (o.getD k 0) < sc s (o.getD j 0)))
theorem range_getD (o : List Nat) : (List.range o.length).map (fun n => o.getD n 0) = o := by
  refine List.ext_getElem? fun n => ?_
  rw [List.getElem?_map]
  by_cases hn : n < o.length
  · rw [List.getElem?_range hn, List.getElem?_eq_getElem hn]
    show some (o.getD n 0) = some o[n]
    rw [List.getD_eq_getElem?_getD, List.getElem?_eq_getElem hn]
    rfl
  · rw [List.getElem?_eq_none (by rw [List.length_range]; omega), List.getElem?_eq_none (by omega)]
    rfl
theorem place_is {d : Int} (hd : 1 ≤ d) {s : List Int} {o : List Nat} (hn : o.Nodup) {G : List (List Nat)} (a : Abs d s o G o.length) {k : Nat} (hk : k < o.length) :
    (G.getD k []).length + (List.range o.length).countP (cntP s o G k) = (settledL d s o).idxOf (o.getD k 0) := by
  have pm := settled_perm d s o
  have nr : (settledL d s o).Nodup := pm.nodup_iff.mpr hn
  have mo : ∀ {j : Nat}, j < o.length → o.getD j 0 ∈ o := fun {j} h => by
    rw [List.getD_eq_getElem?_getD, List.getElem?_eq_getElem h]
    exact List.getElem_mem h
  have mk := mo hk
  rw [← place_count nr (pm.mem_iff.mpr mk), pm.countP_eq]
  -- the first ones
  have h1 : (G.getD k []).length = o.countP fun x => decide (x ∈ G.getD k []) := by
    have p : (o.filter fun x => decide (x ∈ G.getD k [])).Perm (G.getD k []) :=
      (List.perm_ext_iff_of_nodup (hn.sublist List.filter_sublist) (a.nd k hk)).mpr fun x => by
        rw [List.mem_filter, decide_eq_true_iff]
        exact ⟨fun q => q.2, fun q => ⟨(((a.mem k hk x).mp q).mem).1, q⟩⟩
    rw [← p.length_eq, List.countP_eq_length_filter]
  have h2 : ∀ p : Nat → Bool, o.countP p = (List.range o.length).countP fun j => p (o.getD j 0) := fun p => by
    conv => lhs; rw [← range_getD o]
    rw [List.countP_map]
    rfl
  rw [h1, h2, h2]
  generalize hR : List.range o.length = R
  have hm : ∀ j ∈ R, j < o.length := fun j hj => by rw [← hR] at hj; exact List.mem_range.mp hj
  clear hR
  induction R with
  | nil => rfl
  | cons j R ih =>
    have ih := ih fun j hj => hm j (List.mem_cons_of_mem _ hj)
    have hj := hm j List.mem_cons_self
    rw [List.countP_cons, List.countP_cons, List.countP_cons]
    have key : (if decide (o.getD j 0 ∈ G.getD k []) = true then 1 else 0) + (if cntP s o G k j = true then 1 else 0) = (if decide (Abv (o.getD j 0) (o.getD k 0) (settledL d s o)) = true then 1 else 0) := by
      unfold cntP
      by_cases e : o.getD j 0 = o.getD k 0
      · have n1 : ¬ o.getD k 0 ∈ G.getD k [] := fun q => abv_irr hn (((a.mem k hk _).mp q).abv hn)
        have n2 : ¬ Abv (o.getD k 0) (o.getD k 0) (settledL d s o) := abv_irr nr
        rw [e, decide_eq_false n1, decide_eq_false n2, decide_eq_false (Int.lt_irrefl (sc s (o.getD k 0)))]
        simp
      · have iff := above_iff (s := s) hd hn (mo hj) mk e
        rw [← a.mem k hk, ← a.mem j hj] at iff
        by_cases c1 : o.getD j 0 ∈ G.getD k []
        · have : Abv (o.getD j 0) (o.getD k 0) (settledL d s o) := iff.mpr (.inl c1)
          rw [decide_eq_true c1, decide_eq_true this]
          simp
        · by_cases c2 : o.getD k 0 ∈ G.getD j []
          · have : ¬ Abv (o.getD j 0) (o.getD k 0) (settledL d s o) := fun q => by
              rcases iff.mp q with q | ⟨_, q, _⟩
              · exact c1 q
              · exact q c2
            rw [decide_eq_false c1, decide_eq_true c2, decide_eq_false this]
            simp
          · by_cases c3 : sc s (o.getD k 0) < sc s (o.getD j 0)
            · have : Abv (o.getD j 0) (o.getD k 0) (settledL d s o) := iff.mpr (.inr ⟨c1, c2, c3⟩)
              rw [decide_eq_false c1, decide_eq_false c2, decide_eq_true c3, decide_eq_true this]
              simp
            · have : ¬ Abv (o.getD j 0) (o.getD k 0) (settledL d s o) := fun q => by
                rcases iff.mp q with q | ⟨_, _, q⟩
                · exact c1 q
                · exact c3 q
              rw [decide_eq_false c1, decide_eq_false c2, decide_eq_false c3, decide_eq_false this]
              simp
    omega
/-- the entries put at their places -/
structure Put (r o found : List Nat) (k : Nat) : Prop where
  len : found.length = o.length
  at_ : ∀ j, j < k → found[r.idxOf (o.getD j 0)]? = some (o.getD j 0)
theorem Put.step {r o found : List Nat} {k : Nat} (p : Put r o found k) (hr : r.Perm o) (hn : o.Nodup) (hk : k < o.length) : Put r o (found.set (r.idxOf (o.getD k 0)) (o.getD k 0)) (k + 1) := by
  have mo : ∀ {j : Nat}, j < o.length → o.getD j 0 ∈ r := fun {j} h => hr.mem_iff.mpr (by
    rw [List.getD_eq_getElem?_getD, List.getElem?_eq_getElem h]
    exact List.getElem_mem h)
  have il : ∀ {j : Nat}, j < o.length → r.idxOf (o.getD j 0) < found.length := fun {j} h => by
    rw [p.len, ← hr.length_eq]
    exact List.idxOf_lt_length_of_mem (mo h)
  refine ⟨by rw [List.length_set]; exact p.len, fun j hj => ?_⟩
  rcases Nat.lt_succ_iff_lt_or_eq.mp hj with h | rfl
  · rw [List.getElem?_set_ne]
    · exact p.at_ j h
    · intro e
      have l1 := List.idxOf_lt_length_of_mem (mo (show j < o.length by omega))
      have l2 := List.idxOf_lt_length_of_mem (mo hk)
      have e1 : r[r.idxOf (o.getD j 0)] = o.getD j 0 := List.getElem_idxOf l1
      have e2 : r[r.idxOf (o.getD k 0)] = o.getD k 0 := List.getElem_idxOf l2
      have e3 : o.getD j 0 = o.getD k 0 := by
        rw [← e1, ← e2]
        simp only [e]
      have ga : ∀ {k : Nat} (h : k < o.length), o.getD k 0 = o[k] := fun {k} h => by
        rw [List.getD_eq_getElem?_getD, List.getElem?_eq_getElem h]
        rfl
      rw [ga (show j < o.length by omega), ga hk] at e3
      exact List.pairwise_iff_getElem.mp hn j k (by omega) hk h e3
  · rw [List.getElem?_set_self (il hk)]
theorem Put.done {r o found : List Nat} (p : Put r o found o.length) (hr : r.Perm o) (hn : o.Nodup) : found = r := by
  refine List.ext_getElem? fun i => ?_
  by_cases hi : i < r.length
  · have m : r[i] ∈ o := hr.mem_iff.mp (List.getElem_mem hi)
    obtain ⟨j, hj⟩ := List.mem_iff_getElem?.mp m
    have lj := (List.getElem?_eq_some_iff.mp hj).1
    have ej : o.getD j 0 = r[i] := by
      rw [List.getD_eq_getElem?_getD, hj]
      rfl
    have q := p.at_ j lj
    have nr : r.Nodup := hr.nodup_iff.mpr hn
    have l1 : r.idxOf r[i] < r.length := List.idxOf_lt_length_of_mem (List.getElem_mem hi)
    have e1 : r[r.idxOf r[i]] = r[i] := List.getElem_idxOf l1
    have ei : r.idxOf r[i] = i := by
      have pw := List.pairwise_iff_getElem.mp nr
      rcases Nat.lt_trichotomy (r.idxOf r[i]) i with h | h | h
      · exact absurd e1 (pw _ _ l1 hi h)
      · exact h
      · exact absurd e1.symm (pw _ _ hi l1 h)
    rw [ej, ei] at q
    rw [q, List.getElem?_eq_getElem hi]
  · rw [List.getElem?_eq_none (by rw [p.len, ← hr.length_eq]; omega), List.getElem?_eq_none (by omega)]
end Lb

/-! promises and readings: the program's defs -/
namespace Lb
open PySem PySem.Spec PyProof.Rows L2 Evl
def nv (l : List Nat) : List V := l.map fun n : Nat => V.int (n : Int)
theorem nv_len (l : List Nat) : (nv l).length = l.length := by simp [nv]
theorem nv_get {l : List Nat} {i : Nat} (h : i < l.length) : (nv l)[i]? = some (.int ((l.getD i 0 : Nat) : Int)) := by
  unfold nv
  rw [List.getElem?_map, List.getD_eq_getElem?_getD, List.getElem?_eq_getElem h]
  rfl
theorem at_nv {l : List Nat} {z : Int} {j : Nat} (e : z = (j : Int)) (h : j < l.length) : atI (nv l) z = some (.int ((l.getD j 0 : Nat) : Int)) := at_of e (nv_get h)
theorem at_sc {s : List Int} {z : Int} {j : Nat} (e : z = (j : Int)) (h : j < s.length) : atI (s.map V.int) z = some (.int (sc s j)) := by
  refine at_of e ?_
  rw [List.getElem?_map, List.getElem?_eq_getElem h]
  unfold sc
  rw [List.getD_eq_getElem?_getD, List.getElem?_eq_getElem h]
  rfl
theorem getD_mem {l : List Nat} {i : Nat} (h : i < l.length) : l.getD i 0 ∈ l := by
  rw [List.getD_eq_getElem?_getD, List.getElem?_eq_getElem h]
  exact List.getElem_mem h
/-- a ranking as it is handed in -/
structure Rk (K : PySem.W.Frag) (H : Hp) (sa oa : Addr) (d : Int) (s : List Int) (o : List Nat) : Prop where
  d1 : 1 ≤ d
  hs : SqL K H sa (s.map V.int)
  ho : SqL K H oa (nv o)
  l1 : 1 ≤ s.length
  l2 : s.length ≤ 28
  pm : o.Perm (List.range s.length)
section
variable {K : PySem.W.Frag} {H H' : Hp} {sa oa : Addr} {d : Int} {s : List Int} {o : List Nat} {Q : VK} {E : XK}
theorem Rk.mono (e : Ex H H') (r : Rk K H sa oa d s o) : Rk K H' sa oa d s o := ⟨r.d1, ex_l e r.hs, ex_l e r.ho, r.l1, r.l2, r.pm⟩
theorem Rk.len (r : Rk K H sa oa d s o) : o.length = s.length := (perm_range r.pm).1
theorem Rk.lt (r : Rk K H sa oa d s o) : ∀ e ∈ o, e < s.length := (perm_range r.pm).2
/-! is_integer, is_list -/
def sp_is_integer (_ : PySem.W.Frag) : Sp := fun vs H Q _ => ∃ i : Int, vs = [.int i] ∧ RetV (.bl true) H Q
def t_is_integer (K : PySem.W.Frag) : TS := tRet (tAndV (tCB (rIsi K) (tCons (tVar 0) (tCons (tC (.ty "int")) (tNil)))) (tNotV (tCB (rIsi K) (tCons (tVar 0) (tCons (tC (.ty "bool")) (tNil))))))
theorem rc_isi {i : Int} {T : String} {b : Bool} (h : kitB "int" T = some b) : RC (rIsi K) [.int i, .ty T] H (.bl b) := fun H1 e Q q =>
  ⟨_, _, _, _, b, rfl, .ty _, .base (.int i), kit_ty h, q H1 (Ex.refl _)⟩
theorem r_is_integer {vs : List V} (h : sp_is_integer K vs H Q E) : t_is_integer K { nx := fun _ H' => Q .non H', rt := Q } (start ["value"] vs) H := by
  obtain ⟨i, rfl, k⟩ := h
  refine s_ret (v := .bl (true && !false)) (ev_andV (ev_cb (ea_cons (ev_var rfl) (ea_cons ev_c ea_nil)) (rc_isi (by decide +kernel))) fun _ => ev_notV (ev_cb (ea_cons (ev_var rfl) (ea_cons ev_c ea_nil)) (rc_isi (by decide +kernel)))) fun H1 e => k H1 e
theorem sv_is_integer {i : Int} : SpV (sp_is_integer K) [.int i] H (.bl true) := fun H1 e Q q E => ⟨i, rfl, q⟩
def sp_is_list (K : PySem.W.Frag) : Sp := fun vs H Q _ => ∃ (a : Addr) (xs : List V), vs = [.ref a] ∧ SqL K H a xs ∧ RetV (.bl true) H Q
def t_is_list (K : PySem.W.Frag) : TS := tRet (tOp rTyEq (tCB (rTyp K) (tCons (tVar 0) (tNil))) (tC (.ty "list")))
theorem r_is_list {vs : List V} (h : sp_is_list K vs H Q E) : t_is_list K { nx := fun _ H' => Q .non H', rt := Q } (start ["value"] vs) H := by
  obtain ⟨a, xs, rfl, hs, k⟩ := h
  refine s_ret (v := .bl true) (ev_op (ev_cb (ea_cons (ev_var rfl) ea_nil) (z := .ty "list") fun H1 e Q q => ⟨_, _, rfl, .lst (ex_l e hs), q H1 (Ex.refl _)⟩) ev_c fun H1 e Q q => ⟨_, _, rfl, rfl, TypeEq.meta_list, TypeEq.meta_list, q H1 (Ex.refl _)⟩) fun H1 e => k H1 e
theorem sv_is_list {a : Addr} {xs : List V} (hs : SqL K H a xs) : SpV (sp_is_list K) [.ref a] H (.bl true) := fun H1 e Q q E => ⟨a, xs, rfl, ex_l e hs, q⟩
/-! are_scores, is_order_of -/
theorem rc_all {a : Addr} {bs : List Bool} (h : SqL K H a (bs.map V.bl)) : RC (rAll K) [.ref a] H (.bl (bs.all id)) := fun H1 e Q q => ⟨a, bs, rfl, ex_l e h, q H1 (Ex.refl _)⟩
theorem given_all {n : Nat} {v : Nat → V} : given n (fun _ => true) v = (List.range n).map v := by
  unfold given
  rw [List.filter_eq_self.mpr fun _ _ => rfl]
theorem all_true (n : Nat) : ((List.replicate n true).all id) = true := by
  rw [List.all_eq_true]
  intro x hx
  exact (List.eq_of_mem_replicate hx)
/-- a call of one argument that is a new list -/
theorem ev_cbL {r : List V → Hp → VK → Prop} {te : TE} {σ : L2.St} {xs : List V} {z : V} (h : EvL te σ H xs) (hr : ∀ p H1, H1 p = some (.lst xs) → Ex H H1 → RC r [.ref p] H1 z) : Ev (tCB r (tCons te tNil)) σ H z := fun H1 e Q q =>
  h H1 e _ fun p H2 hp e2 h2 => hr p H2 h2 (e.trans e2) H2 (Ex.refl H2) Q fun H3 e3 => q H3 (e2.trans e3)
theorem ev_allInts {σ : L2.St} {a : Addr} {ns : List Int} {j : Nat} {tl : TE} (h : Ev tl σ H (.ref a)) (hs : SqL K H a (ns.map V.int)) (hz : ns.length ≤ 40000) (hw : ∀ x, wipe ((wipe σ [j]).set j (some x)) [j] = wipe σ [j])
    (hj : ∀ x, ((wipe σ [j]).set j (some x))[j]? = some (some x)) :
    Ev (tCB (rAll K) (tCons (tLc (iList K tl) (gName j) tYes (tCall (sp_is_integer K) [] E0 (tCons (tVar j) tNil)) [j]) tNil)) σ H (.bl true) := by
  refine ev_cbL (el_lcL (fun _ => true) (fun _ => .bl true) h hs (by rw [List.length_map]; exact hz) hw (fun i x H1 e hx H2 e2 Q q => q H2 (Ex.refl _)) fun i x H1 e hx _ => ?_) fun p H1 hp e => ?_
  · rw [List.getElem?_map] at hx
    cases q : ns[i]? with
    | none => rw [q] at hx; cases hx
    | some n =>
      rw [q] at hx
      cases hx
      exact ev_call (vs := [.int n]) (ea_cons (ev_var (hj _)) ea_nil) sv_is_integer
  · rw [given_all] at hp
    have e1 : (List.range (ns.map V.int).length).map (fun _ => V.bl true) = (List.replicate ns.length true).map V.bl := by
      rw [List.map_const', List.length_range, List.length_map, List.map_replicate]
    rw [e1] at hp
    have := rc_all (K := K) (SqL.of hp)
    rwa [all_true] at this
def sp_are_scores (K : PySem.W.Frag) : Sp := fun vs H Q _ => ∃ (a : Addr) (s : List Int), vs = [.ref a] ∧ SqL K H a (s.map V.int) ∧ 1 ≤ s.length ∧ s.length ≤ 28 ∧ RetV (.bl true) H Q
def t_are_scores (K : PySem.W.Frag) : TS := tSeq (tIfS (tOr (tNot (tB (tCall (sp_is_list K) [] E0 (tCons (tVar 0) (tNil))))) (tNot (tTest (tChain rLeI rLeI (tC (.int 1)) (tCB (Evl.rLenS K) (tCons (tVar 0) (tNil))) (tC (.int 28)))))) (tRet (tC (.bl false))) (tNext)) (tRet (tCB (rAll K) (tCons (tLc (iList K (tVar 0)) (gName 1) (tYes) (tCall (sp_is_integer K) [] E0 (tCons (tVar 1) (tNil))) [1]) (tNil))))
theorem et_chainLe {σ : L2.St} {te : TE} {n : Int} (h : Ev te σ H (.int n)) (h1 : 1 ≤ n) (h2 : n ≤ 28) : EvT (tTest (tChain rLeI rLeI (tC (.int 1)) te (tC (.int 28)))) σ H true := fun H1 e Q q =>
  h H1 e _ fun H2 e2 => ⟨1, n, rfl, rfl, true, congrArg V.bl (decide_eq_true h1), by rw [if_pos rfl]; exact ⟨n, 28, rfl, rfl, true, congrArg V.bl (decide_eq_true h2), q H2 e2⟩⟩
theorem r_are_scores {vs : List V} (h : sp_are_scores K vs H Q E) : t_are_scores K { nx := fun _ H' => Q .non H', rt := Q } (start ["value", "item"] vs) H := by
  obtain ⟨a, s, rfl, hs, l1, l2, k⟩ := h
  refine q_when (b := false || false) (et_or (a := !true) (et_not (et_B (ev_call (vs := [.ref a]) (ea_cons (ev_var rfl) ea_nil) (sv_is_list hs)))) fun _ => et_not (a := true) (et_chainLe (ev_len (ev_var rfl) hs) (by simp; omega) (by simp; omega))) (fun z => by cases z) fun _ H1 e1 => ?_
  exact s_ret (ev_allInts (ev_var rfl) (ex_l e1 hs) (by omega) (fun _ => rfl) fun _ => rfl) fun H2 e2 => k H2 (e1.trans e2)
theorem sv_are_scores {a : Addr} (hs : SqL K H a (s.map V.int)) (l1 : 1 ≤ s.length) (l2 : s.length ≤ 28) : SpV (sp_are_scores K) [.ref a] H (.bl true) := fun H1 e Q q E => ⟨a, s, rfl, ex_l e hs, l1, l2, q⟩
def sp_is_order_of (K : PySem.W.Frag) : Sp := fun vs H Q _ => ∃ (n : Nat) (a : Addr) (o : List Nat), vs = [.int (n : Int), .ref a] ∧ SqL K H a (nv o) ∧ n ≤ 28 ∧ o.Perm (List.range n) ∧ RetV (.bl true) H Q
def t_is_order_of (K : PySem.W.Frag) : TS := tSeq (tIfS (tOr (tNot (tB (tCall (sp_is_list K) [] E0 (tCons (tVar 1) (tNil))))) (tNot (tB (tCB (rAll K) (tCons (tLc (iList K (tVar 1)) (gName 2) (tYes) (tCall (sp_is_integer K) [] E0 (tCons (tVar 2) (tNil))) [2]) (tNil)))))) (tRet (tC (.bl false))) (tNext)) (tRet (tOp (rEqD K) (tCB (rSorted K) (tCons (tVar 1) (tNil))) (tLstRg (tRg1 (tVar 0)))))
theorem nv_int (l : List Nat) : nv l = (l.map (fun n : Nat => (n : Int))).map V.int := by
  unfold nv
  rw [List.map_map]
  rfl
theorem sorted_unique : ∀ {l m : List Int}, l.Perm m → l.Pairwise (· ≤ ·) → m.Pairwise (· ≤ ·) → l = m := fun p h1 h2 => List.Perm.eq_of_pairwise (fun a b _ _ h h' => Int.le_antisymm h h') h1 h2 p
theorem range_sorted (n : Nat) : ((List.range n).map fun i : Nat => (i : Int)).Pairwise (· ≤ ·) := by
  rw [List.pairwise_map]
  exact List.pairwise_lt_range.imp fun h => Int.ofNat_le.mpr (Nat.le_of_lt h)
theorem sort_range {o : List Nat} {n : Nat} (h : o.Perm (List.range n)) {ns : List Int} (p : ns.Perm (o.map fun n : Nat => (n : Int))) (q : ns.Pairwise (· ≤ ·)) : ns = (List.range n).map fun i : Nat => (i : Int) :=
  sorted_unique (p.trans (h.map _)) q (range_sorted n)
theorem dp_ints : ∀ (ns : List Int), DpAll K H (ns.map V.int) (ns.map PyData.int)
  | [] => .nil
  | n :: r => .cons (.int n) (dp_ints r)
theorem dp_list {a : Addr} {ns : List Int} (h : SqL K H a (ns.map V.int)) : Dp K H (.ref a) (.list (ns.map PyData.int)) := .lst h (dp_ints ns)
theorem canLay_ints : ∀ ns : List Int, PyData.canLayAll0 (ns.map PyData.int) = true
  | [] => rfl
  | n :: r => by
    rw [List.map_cons, PyData.canLayAll0, canLay_ints r]
    rfl
theorem depth_ints : ∀ ns : List Int, PyData.depthAll (ns.map PyData.int) = 0
  | [] => rfl
  | n :: r => by
    rw [List.map_cons, PyData.depthAll, depth_ints r]
    rfl
theorem shaped_ints (ns : List Int) : SeqAt.shaped (.list (ns.map PyData.int)) = true := by
  unfold SeqAt.shaped
  rw [PyData.canLay0, canLay_ints, PyData.depth, depth_ints]
  rfl
theorem eqv_ints : ∀ ns ms : List Int, PyData.eqvAll (ns.map PyData.int) (ms.map PyData.int) = decide (ns = ms)
  | [], [] => rfl
  | [], _ :: _ => rfl
  | _ :: _, [] => rfl
  | n :: r, m :: t => by
    rw [List.map_cons, List.map_cons, PyData.eqvAll, eqv_ints r t]
    show (n == m && decide (r = t)) = _
    by_cases h1 : n = m <;> by_cases h2 : r = t <;> simp [h1, h2]
theorem rv_eqInts {p q : Addr} {ns ms : List Int} (h : SqL K H p (ns.map V.int)) (h' : SqL K H q (ms.map V.int)) : RV (rEqD K) (.ref p) (.ref q) H (.bl (decide (ns = ms))) := fun H1 e Q k =>
  ⟨_, _, dp_list (ex_l e h), dp_list (ex_l e h'), shaped_ints _, shaped_ints _, by
    have := k H1 (Ex.refl _)
    rw [← eqv_ints] at this
    rw [PyData.eqv]
    exact this⟩
theorem rv_neInts {p q : Addr} {ns ms : List Int} (h : SqL K H p (ns.map V.int)) (h' : SqL K H q (ms.map V.int)) : RV (rNeD K) (.ref p) (.ref q) H (.bl (!decide (ns = ms))) := fun H1 e Q k =>
  ⟨_, _, dp_list (ex_l e h), dp_list (ex_l e h'), shaped_ints _, shaped_ints _, by
    have := k H1 (Ex.refl _)
    rw [← eqv_ints] at this
    rw [PyData.eqv]
    exact this⟩
theorem natInts_inj {l m : List Nat} : (l.map fun n : Nat => (n : Int)) = (m.map fun n : Nat => (n : Int)) ↔ l = m :=
  ⟨fun h => List.map_inj_right (fun a b q => Int.ofNat.inj q) |>.mp h, fun h => by rw [h]⟩
theorem rv_eqNats {p q : Addr} {l m : List Nat} (h : SqL K H p (nv l)) (h' : SqL K H q (nv m)) : RV (rEqD K) (.ref p) (.ref q) H (.bl (decide (l = m))) := by
  rw [nv_int] at h h'
  have := rv_eqInts h h'
  rwa [show decide ((l.map fun n : Nat => (n : Int)) = (m.map fun n : Nat => (n : Int))) = decide (l = m) from decide_eq_decide.mpr natInts_inj] at this
theorem rv_neNats {p q : Addr} {l m : List Nat} (h : SqL K H p (nv l)) (h' : SqL K H q (nv m)) : RV (rNeD K) (.ref p) (.ref q) H (.bl (!decide (l = m))) := by
  rw [nv_int] at h h'
  have := rv_neInts h h'
  rwa [show decide ((l.map fun n : Nat => (n : Int)) = (m.map fun n : Nat => (n : Int))) = decide (l = m) from decide_eq_decide.mpr natInts_inj] at this
theorem rg_nv (n : Nat) : rgV 0 (n : Int) = nv (List.range n) := by
  unfold rgV nv
  rw [Int.sub_zero, Int.toNat_natCast]
  congr 1
  funext i
  rw [Int.zero_add]
theorem el_rg {σ : L2.St} {te : TE} {n : Nat} (h : Ev te σ H (.int (n : Int))) (hn : n ≤ 1000) : EvL (tLstRg (tRg1 te)) σ H (nv (List.range n)) := fun H1 e Q q =>
  h H1 e _ fun H2 e2 => ⟨n, rfl, RgOk.of_le (by omega) (by omega) (by omega) (by omega), fun p hp => q p _ (fresh_back e2 hp) (e2.trans (Ex.new hp)) (by rw [rg_nv]; exact upd_same)⟩
theorem r_is_order_of {vs : List V} (h : sp_is_order_of K vs H Q E) : t_is_order_of K { nx := fun _ H' => Q .non H', rt := Q } (start ["many", "value", "item"] vs) H := by
  obtain ⟨n, a, o, rfl, hs, hn, pm, k⟩ := h
  have hl := (perm_range pm).1
  have hs' := hs
  rw [nv_int] at hs'
  refine q_when (b := false || false) (et_or (a := !true) (et_not (et_B (ev_call (vs := [.ref a]) (ea_cons (ev_var rfl) ea_nil) (sv_is_list hs)))) fun _ => et_not (a := true) (et_B (ev_allInts (ev_var rfl) hs' (by rw [List.length_map]; omega) (fun _ => rfl) fun _ => rfl))) (fun z => by cases z) fun _ H1 e1 => ?_
  refine s_ret (v := .bl true) (ev_opLL (xs := nv (List.range n)) (ys := nv (List.range n)) (el_cb (vs := [.ref a]) (ea_cons (ev_var rfl) ea_nil) fun H2 e2 Q q => ?_) (el_rg (ev_var rfl) (by omega)) fun p q H2 hp hq e => ?_) fun H2 e2 => k H2 (e1.trans e2)
  · refine ⟨a, _, rfl, ex_l (e1.trans e2) hs', by rw [List.length_map]; omega, fun ns' p hp hs hnew => ?_⟩
    have e := sort_range pm hp hs
    subst e
    rw [← nv_int]
    exact q p _ hnew (Ex.new hnew) upd_same
  · have := rv_eqNats (K := K) (SqL.of hp) (SqL.of hq)
    rwa [decide_eq_true rfl] at this
theorem sv_is_order_of {a : Addr} {n : Nat} (hs : SqL K H a (nv o)) (hn : n ≤ 28) (pm : o.Perm (List.range n)) : SpV (sp_is_order_of K) [.int (n : Int), .ref a] H (.bl true) := fun H1 e Q q E => ⟨n, a, o, rfl, ex_l e hs, hn, pm, q⟩
/-! the checks -/
def sp_check_lead (K : PySem.W.Frag) : Sp := fun vs H Q _ => ∃ d : Int, vs = [.int d] ∧ 1 ≤ d ∧ RetV .non H Q
def t_check_lead (K : PySem.W.Frag) : TS := tIfS (tOr (tNot (tB (tCall (sp_is_integer K) [] E0 (tCons (tVar 0) (tNil))))) (tTest (tOp rLtI (tVar 0) (tC (.int 1))))) (tNever) (tNext)
theorem et_ltI {σ : L2.St} {ta tb : TE} {i j : Int} (h : Ev ta σ H (.int i)) (h' : Ev tb σ H (.int j)) : EvT (tTest (tOp rLtI ta tb)) σ H (decide (i < j)) := et_test (ev_op h h' rv_I0)
theorem et_gtI {σ : L2.St} {ta tb : TE} {i j : Int} (h : Ev ta σ H (.int i)) (h' : Ev tb σ H (.int j)) : EvT (tTest (tOp rGtI ta tb)) σ H (decide (j < i)) := et_test (ev_op h h' rv_I0)
theorem et_geI {σ : L2.St} {ta tb : TE} {i j : Int} (h : Ev ta σ H (.int i)) (h' : Ev tb σ H (.int j)) : EvT (tTest (tOp rGeI ta tb)) σ H (decide (j ≤ i)) := et_test (ev_op h h' rv_I0)
theorem r_check_lead {vs : List V} (h : sp_check_lead K vs H Q E) : t_check_lead K { nx := fun _ H' => Q .non H', rt := Q } (start ["lead"] vs) H := by
  obtain ⟨d, rfl, hd, k⟩ := h
  refine s_when (b := false || false) (et_or (a := !true) (et_not (et_B (ev_call (vs := [.int d]) (ea_cons (ev_var rfl) ea_nil) sv_is_integer))) fun _ => et_is (et_ltI (ev_var rfl) ev_c) (decide_eq_false (by omega))) (fun z => by cases z) fun _ H1 e1 => k H1 e1
theorem sv_check_lead {d : Int} (hd : 1 ≤ d) : SpV (sp_check_lead K) [.int d] H .non := fun H1 e Q q E => ⟨d, rfl, hd, q⟩
def sp_check_scores (K : PySem.W.Frag) : Sp := fun vs H Q _ => ∃ (a : Addr) (s : List Int), vs = [.ref a] ∧ SqL K H a (s.map V.int) ∧ 1 ≤ s.length ∧ s.length ≤ 28 ∧ RetV .non H Q
def t_check_scores (K : PySem.W.Frag) : TS := tIfS (tNot (tB (tCall (sp_are_scores K) [] E0 (tCons (tVar 0) (tNil))))) (tNever) (tNext)
theorem r_check_scores {vs : List V} (h : sp_check_scores K vs H Q E) : t_check_scores K { nx := fun _ H' => Q .non H', rt := Q } (start ["scores"] vs) H := by
  obtain ⟨a, s, rfl, hs, l1, l2, k⟩ := h
  refine s_when (b := !true) (et_not (et_B (ev_call (vs := [.ref a]) (ea_cons (ev_var rfl) ea_nil) (sv_are_scores hs l1 l2)))) (fun z => by cases z) fun _ H1 e1 => k H1 e1
theorem sv_check_scores {a : Addr} (hs : SqL K H a (s.map V.int)) (l1 : 1 ≤ s.length) (l2 : s.length ≤ 28) : SpV (sp_check_scores K) [.ref a] H .non := fun H1 e Q q E => ⟨a, s, rfl, ex_l e hs, l1, l2, q⟩
def sp_check_order (K : PySem.W.Frag) : Sp := fun vs H Q _ => ∃ (a b : Addr) (s : List Int) (o : List Nat), vs = [.ref a, .ref b] ∧ SqL K H a (s.map V.int) ∧ SqL K H b (nv o) ∧ s.length ≤ 28 ∧ o.Perm (List.range s.length) ∧ RetV .non H Q
def t_check_order (K : PySem.W.Frag) : TS := tIfS (tNot (tB (tCall (sp_is_order_of K) [] E0 (tCons (tCB (Evl.rLenS K) (tCons (tVar 0) (tNil))) (tCons (tVar 1) (tNil)))))) (tNever) (tNext)
theorem ev_lenS {σ : L2.St} {te : TE} {a : Addr} (h : Ev te σ H (.ref a)) (hs : SqL K H a (s.map V.int)) : Ev (tCB (rLenS K) (tCons te tNil)) σ H (.int (s.length : Int)) := by
  have := ev_len h hs
  rwa [List.length_map] at this
theorem ev_lenN {σ : L2.St} {te : TE} {a : Addr} (h : Ev te σ H (.ref a)) (hs : SqL K H a (nv o)) : Ev (tCB (rLenS K) (tCons te tNil)) σ H (.int (o.length : Int)) := by
  have := ev_len h hs
  rwa [nv_len] at this
theorem r_check_order {vs : List V} (h : sp_check_order K vs H Q E) : t_check_order K { nx := fun _ H' => Q .non H', rt := Q } (start ["scores", "order"] vs) H := by
  obtain ⟨a, b, s, o, rfl, hs, ho, l2, pm, k⟩ := h
  refine s_when (b := !true) (et_not (et_B (ev_call (vs := [.int (s.length : Int), .ref b]) (ea_cons (ev_lenS (ev_var rfl) hs) (ea_cons (ev_var rfl) ea_nil)) (sv_is_order_of ho l2 pm)))) (fun z => by cases z) fun _ H1 e1 => k H1 e1
theorem sv_check_order {a b : Addr} (hs : SqL K H a (s.map V.int)) (ho : SqL K H b (nv o)) (l2 : s.length ≤ 28) (pm : o.Perm (List.range s.length)) : SpV (sp_check_order K) [.ref a, .ref b] H .non := fun H1 e Q q E => ⟨a, b, s, o, rfl, ex_l e hs, ex_l e ho, l2, pm, q⟩
def sp_check_ranking (K : PySem.W.Frag) : Sp := fun vs H Q _ => ∃ (sa oa : Addr) (d : Int) (s : List Int) (o : List Nat), vs = [.int d, .ref sa, .ref oa] ∧ Rk K H sa oa d s o ∧ RetV .non H Q
def t_check_ranking (K : PySem.W.Frag) : TS := tSeq (tDrop (tCall (sp_check_lead K) [] E0 (tCons (tVar 0) (tNil)))) (tSeq (tDrop (tCall (sp_check_scores K) [] E0 (tCons (tVar 1) (tNil)))) (tDrop (tCall (sp_check_order K) [] E0 (tCons (tVar 1) (tCons (tVar 2) (tNil))))))
theorem r_check_ranking {vs : List V} (h : sp_check_ranking K vs H Q E) : t_check_ranking K { nx := fun _ H' => Q .non H', rt := Q } (start ["lead", "scores", "order"] vs) H := by
  obtain ⟨sa, oa, d, s, o, rfl, r, k⟩ := h
  refine q_drop (ev_call (vs := [.int d]) (ea_cons (ev_var rfl) ea_nil) (sv_check_lead r.d1)) fun H1 e1 => ?_
  have r1 := r.mono e1
  refine q_drop (ev_call (vs := [.ref sa]) (ea_cons (ev_var rfl) ea_nil) (sv_check_scores r1.hs r.l1 r.l2)) fun H2 e2 => ?_
  have r2 := r1.mono e2
  exact s_drop (ev_call (vs := [.ref sa, .ref oa]) (ea_cons (ev_var rfl) (ea_cons (ev_var rfl) ea_nil)) (sv_check_order r2.hs r2.ho r.l2 r.pm)) fun H3 e3 => k H3 ((e1.trans e2).trans e3)
theorem sv_check_ranking (r : Rk K H sa oa d s o) : SpV (sp_check_ranking K) [.int d, .ref sa, .ref oa] H .non := fun H1 e Q q E => ⟨sa, oa, d, s, o, rfl, r.mono e, q⟩
/-! exchanges -/
def sp_is_wrong (K : PySem.W.Frag) : Sp := fun vs H Q _ => ∃ (sa oa : Addr) (d : Int) (s : List Int) (o : List Nat) (i : Nat), vs = [.int d, .ref sa, .ref oa, .int (i : Int)] ∧ SqL K H sa (s.map V.int) ∧ SqL K H oa (nv o) ∧ (∀ e ∈ o, e < s.length) ∧ i + 1 < o.length ∧ RetV (.bl (wrongAt d s o i)) H Q
def t_is_wrong (K : PySem.W.Frag) : TS := tRet (tOp rGeI (tOp rSubI (tOp (rIxL K) (tVar 1) (tOp (rIxL K) (tVar 2) (tOp rAddI (tVar 3) (tC (.int 1))))) (tOp (rIxL K) (tVar 1) (tOp (rIxL K) (tVar 2) (tVar 3)))) (tVar 0))
theorem ev_add {σ : L2.St} {ta tb : TE} {i j : Int} (h : Ev ta σ H (.int i)) (h' : Ev tb σ H (.int j)) : Ev (tOp rAddI ta tb) σ H (.int (i + j)) := ev_op h h' rv_I0
theorem ev_sub {σ : L2.St} {ta tb : TE} {i j : Int} (h : Ev ta σ H (.int i)) (h' : Ev tb σ H (.int j)) : Ev (tOp rSubI ta tb) σ H (.int (i - j)) := ev_op h h' rv_I0
theorem ev_ixN {σ : L2.St} {ta tb : TE} {a : Addr} {z : Int} {j : Nat} (h : Ev ta σ H (.ref a)) (h' : Ev tb σ H (.int z)) (ho : SqL K H a (nv o)) (e : z = (j : Int)) (hj : j < o.length) : Ev (tOp (rIxL K) ta tb) σ H (.int ((o.getD j 0 : Nat) : Int)) := ev_op h h' (rv_ixL ho (at_nv e hj))
theorem ev_ixS {σ : L2.St} {ta tb : TE} {a : Addr} {z : Int} {j : Nat} (h : Ev ta σ H (.ref a)) (h' : Ev tb σ H (.int z)) (hs : SqL K H a (s.map V.int)) (e : z = (j : Int)) (hj : j < s.length) : Ev (tOp (rIxL K) ta tb) σ H (.int (sc s j)) := ev_op h h' (rv_ixL hs (at_sc e hj))
theorem r_is_wrong {vs : List V} (h : sp_is_wrong K vs H Q E) : t_is_wrong K { nx := fun _ H' => Q .non H', rt := Q } (start ["lead", "scores", "order", "place"] vs) H := by
  obtain ⟨sa, oa, d, s, o, i, rfl, hs, ho, lt, hi, k⟩ := h
  refine s_ret (v := .bl (wrongAt d s o i)) ?_ fun H1 e => k H1 e
  refine ev_op (ev_sub (ev_ixS (ev_var rfl) (ev_ixN (ev_var rfl) (ev_add (ev_var rfl) ev_c) ho (j := i + 1) rfl hi) hs rfl (lt _ (getD_mem hi))) (ev_ixS (ev_var rfl) (ev_ixN (ev_var rfl) (ev_var rfl) ho rfl (by omega)) hs rfl (lt _ (getD_mem (show i < o.length by omega))))) (ev_var rfl) rv_I0
theorem sv_is_wrong {i : Nat} (hs : SqL K H sa (s.map V.int)) (ho : SqL K H oa (nv o)) (lt : ∀ e ∈ o, e < s.length) (hi : i + 1 < o.length) : SpV (sp_is_wrong K) [.int d, .ref sa, .ref oa, .int (i : Int)] H (.bl (wrongAt d s o i)) := fun H1 e Q q E => ⟨sa, oa, d, s, o, i, rfl, ex_l e hs, ex_l e ho, lt, hi, q⟩
def sp_wrong_places_of (K : PySem.W.Frag) : Sp := fun vs H Q _ => ∃ (sa oa : Addr) (d : Int) (s : List Int) (o : List Nat), vs = [.int d, .ref sa, .ref oa] ∧ Rk K H sa oa d s o ∧ RetL (nv (wrongL d s o)) H Q
def t_wrong_places_of (K : PySem.W.Frag) : TS := tRet (tLc (iRng1 (tCons (tOp rSubI (tCB (Evl.rLenS K) (tCons (tVar 2) (tNil))) (tC (.int 1))) (tNil))) (gName 3) (tB (tCall (sp_is_wrong K) [] E0 (tCons (tVar 0) (tCons (tVar 1) (tCons (tVar 2) (tCons (tVar 3) (tNil))))))) (tVar 3) [3])
theorem given_nv (n : Nat) (f : Nat → Bool) : given n f (fun i => V.int (i : Int)) = nv ((List.range n).filter f) := rfl
theorem r_wrong_places_of {vs : List V} (h : sp_wrong_places_of K vs H Q E) : t_wrong_places_of K { nx := fun _ H' => Q .non H', rt := Q } (start ["lead", "scores", "order", "place"] vs) H := by
  obtain ⟨sa, oa, d, s, o, rfl, r, k⟩ := h
  have hl := r.len
  have h1 := r.l1
  have h2 := r.l2
  have e0 : ((o.length : Int) - 1).toNat = o.length - 1 := by omega
  have key := el_lcR1 (H := H) (σ := start ["lead", "scores", "order", "place"] [.int d, .ref sa, .ref oa]) (ta := tCons (tOp rSubI (tCB (rLenS K) (tCons (tVar 2) tNil)) (tC (.int 1))) tNil) (j := 3) (vs := [3]) (t := tB (tCall (sp_is_wrong K) [] E0 (tCons (tVar 0) (tCons (tVar 1) (tCons (tVar 2) (tCons (tVar 3) tNil)))))) (te := tVar 3)
    (wrongAt d s o) (fun i => V.int (i : Int)) (ea_cons (ev_sub (ev_lenN (ev_var rfl) r.ho) ev_c) ea_nil) (by omega) (fun _ => rfl)
    (fun i H1 e hi => et_B (ev_call (vs := [.int d, .ref sa, .ref oa, .int (i : Int)]) (ea_cons (ev_var rfl) (ea_cons (ev_var rfl) (ea_cons (ev_var rfl) (ea_cons (ev_var rfl) ea_nil)))) (sv_is_wrong (ex_l e r.hs) (ex_l e r.ho) r.lt (by omega))))
    (fun i H1 e hi _ => ev_var rfl)
  rw [e0, given_nv] at key
  exact s_retL key fun p H1 hp e h => k p H1 hp e h
theorem sl_wrong_places_of (r : Rk K H sa oa d s o) : SpL (sp_wrong_places_of K) [.int d, .ref sa, .ref oa] H (nv (wrongL d s o)) := fun H1 e Q q E => ⟨sa, oa, d, s, o, rfl, r.mono e, q⟩
def rInsert : V → List V → Hp → VK → Prop := fun x vs H Q => ∃ (l : Addr) (xs : List V) (i : Int) (y : V), x = .ref l ∧ vs = [.int i, y] ∧ H l = some (.lst xs) ∧ xs.length < sizeLine ∧ 0 ≤ i ∧ i < 2 ^ 63 ∧ Q .non (upd H l (.lst (xs.take i.toNat ++ [y] ++ xs.drop i.toNat)))
def sp_settled (K : PySem.W.Frag) : Sp := fun vs H Q _ => ∃ (sa oa : Addr) (d : Int) (s : List Int) (o : List Nat), vs = [.int d, .ref sa, .ref oa] ∧ Rk K H sa oa d s o ∧ RetL (nv (settledL d s o)) H Q
def t_settled (K : PySem.W.Frag) : TS := tSeq (tAsg (tLst (tNil)) (gName 3)) (tSeq (tFor (iList K (tVar 2)) (gName 4) (tSeq (tAsg (tCB (Evl.rLenS K) (tCons (tVar 3) (tNil))) (gName 5)) (tSeq (tWhile (tAnd (tTest (tOp rGtI (tVar 5) (tC (.int 0)))) (tTest (tOp rGeI (tOp rSubI (tOp (rIxL K) (tVar 1) (tVar 4)) (tOp (rIxL K) (tVar 1) (tOp (rIxL K) (tVar 3) (tOp rSubI (tVar 5) (tC (.int 1)))))) (tVar 0)))) (tAug 5 (tC (.int 1)) (ipI fun i j => i - j))) (tDrop (tBM K "list" (rInsert) (tVar 3) (tCons (tVar 5) (tCons (tVar 4) (tNil)))))))) (tRet (tVar 3)))
theorem fold_take {o : List Nat} {i : Nat} (h : i < o.length) (d : Int) (s : List Int) : (o.take (i + 1)).foldl (insE d s) [] = insE d s ((o.take i).foldl (insE d s) []) (o.getD i 0) := by
  rw [List.take_add_one, List.getElem?_eq_getElem h, List.foldl_append, List.getD_eq_getElem?_getD, List.getElem?_eq_getElem h]
  rfl
theorem nv_ins (l : List Nat) (e k : Nat) : nv (l.take k ++ [e] ++ l.drop k) = (nv l).take k ++ [V.int (e : Int)] ++ (nv l).drop k := by
  unfold nv
  rw [List.map_append, List.map_append, List.map_take, List.map_drop]
  rfl
theorem r_settled {vs : List V} (h : sp_settled K vs H Q E) : t_settled K { nx := fun _ H' => Q .non H', rt := Q } (start ["lead", "scores", "order", "left", "entry", "place"] vs) H := by
  obtain ⟨sa, oa, d, s, o, rfl, r, k⟩ := h
  have hl := r.len
  have h2 := r.l2
  refine q_asgL (xs := []) (el_lst ea_nil (Nat.zero_le _)) fun L H1 nL e1 hL => ?_
  refine q_forLn (a := oa) (xs := nv o) (ev_var rfl) (ex_l e1 r.ho)
    (fun i σ H2 => ∃ v4 v5, σ = [some (.int d), some (.ref sa), some (.ref oa), some (.ref L), v4, v5] ∧ Ex H H2 ∧ H2 L = some (.lst (nv ((o.take i).foldl (insE d s) []))))
    (fun H2 e2 => ⟨none, none, rfl, e1.trans e2, e2 _ _ hL⟩) (fun i σ H2 _ ⟨_, _, _, e, _⟩ => ex_l e r.ho) ?_ ?_
  · rintro i x σ H2 hx ⟨v4, v5, rfl, e2, h2L⟩
    have hi : i < o.length := by
      have := (List.getElem?_eq_some_iff.mp hx).1
      rwa [nv_len] at this
    rw [nv_get hi] at hx
    cases hx
    generalize hlw : (o.take i).foldl (insE d s) [] = l at *
    have pml : l.Perm (o.take i) := by
      have := foldl_ins_perm d s (o.take i) []
      rw [hlw] at this
      simpa using this
    have ll : l.length ≤ 28 := by rw [pml.length_eq, List.length_take]; omega
    have lt : ∀ e ∈ l, e < s.length := fun e he => r.lt e (List.mem_of_mem_take (pml.mem_iff.mp he))
    have le : o.getD i 0 < s.length := r.lt _ (getD_mem hi)
    refine q_asg (ev_lenN (ev_var rfl) (SqL.of h2L)) fun H3 e3 => ?_
    refine q_while (fun m σ H4 => σ = [some (.int d), some (.ref sa), some (.ref oa), some (.ref L), some (.int ((o.getD i 0 : Nat) : Int)), some (.int (m : Int))] ∧ Ex H H4 ∧ H4 L = some (.lst (nv l)) ∧ m ≤ l.length ∧ sink d s (o.getD i 0) l m = sink d s (o.getD i 0) l l.length)
      l.length ⟨rfl, e2.trans e3, e3 _ _ h2L, Nat.le_refl _, rfl⟩ ?_
    rintro m σ H4 ⟨rfl, e4, h4L, hm, hk⟩
    have tail : ∀ H5, Ex H4 H5 → sink d s (o.getD i 0) l m = m → tDrop (tBM K "list" rInsert (tVar 3) (tCons (tVar 5) (tCons (tVar 4) tNil)))
        { nx := fun σ' H' => ∃ v4 v5, σ' = [some (.int d), some (.ref sa), some (.ref oa), some (.ref L), v4, v5] ∧ Ex H H' ∧ H' L = some (.lst (nv ((o.take (i + 1)).foldl (insE d s) []))), rt := Q,
          ct := fun σ' H' => ∃ v4 v5, σ' = [some (.int d), some (.ref sa), some (.ref oa), some (.ref L), v4, v5] ∧ Ex H H' ∧ H' L = some (.lst (nv ((o.take (i + 1)).foldl (insE d s) []))),
          bk := tRet (tVar 3) { nx := fun _ H' => Q .non H', rt := Q } }
        [some (.int d), some (.ref sa), some (.ref oa), some (.ref L), some (.int ((o.getD i 0 : Nat) : Int)), some (.int (m : Int))] H5 := fun H5 e5 hs => by
      have h5L := e5 _ _ h4L
      refine ⟨_, rfl, .inl ⟨rfl, _, SqL.of h5L⟩, _, rfl, _, rfl, L, nv l, (m : Int), _, rfl, rfl, h5L, small1000 (by rw [nv_len]; omega), by omega, by omega, ?_⟩
      refine ⟨_, _, rfl, Ex.mut (e4.trans e5) nL, ?_⟩
      rw [upd_same, fold_take hi, hlw]
      unfold insE
      rw [← hk, hs, nv_ins]
      rfl
    cases m with
    | zero =>
      refine ⟨false && false, et_and (a := false) (et_is (et_gtI (ev_var rfl) ev_c) (decide_eq_false (by omega))) (fun z => by cases z), fun z => (by cases z), fun _ H5 e5 => tail H5 e5 rfl⟩
    | succ p =>
      have hix : l.getD p 0 < s.length := lt _ (getD_mem (by omega))
      refine ⟨true && ww d s (l.getD p 0) (o.getD i 0), et_and (a := true) (et_is (et_gtI (ev_var rfl) ev_c) (decide_eq_true (by omega))) (fun _ => et_geI (ev_sub (ev_ixS (ev_var rfl) (ev_var rfl) (ex_l e4 r.hs) rfl le) (ev_ixS (ev_var rfl) (ev_ixN (ev_var rfl) (ev_sub (ev_var rfl) ev_c) (SqL.of h4L) (j := p) (by omega) (by omega)) (ex_l e4 r.hs) rfl hix)) (ev_var rfl)), fun hb H5 e5 => ?_, fun hb H5 e5 => tail H5 e5 ?_⟩
      · refine ⟨fun σ H' => σ = [some (.int d), some (.ref sa), some (.ref oa), some (.ref L), some (.int ((o.getD i 0 : Nat) : Int)), some (.int (p : Int))] ∧ Ex H4 H', fun σ2 H6 ⟨q1, q2⟩ => ⟨p, by omega, q1, e4.trans q2, q2 _ _ h4L, by omega, ?_⟩, ?_⟩
        · rw [← hk]
          rw [Bool.true_and] at hb
          exact (if_pos hb).symm
        · refine s_aug (a := ((p + 1 : Nat) : Int)) (b := 1) rfl ev_c fun H6 e6 => ⟨?_, e5.trans e6⟩
          have : ((p + 1 : Nat) : Int) - 1 = (p : Int) := by omega
          rw [this]
          rfl
      · rw [Bool.true_and] at hb
        unfold sink
        rw [hb]
        rfl
  · rintro σ H2 ⟨v4, v5, rfl, e2, h2L⟩
    rw [nv_len, List.take_length] at h2L
    exact s_ret (v := .ref L) (ev_var rfl) fun H3 e3 => k L H3 nL (e2.trans e3) (e3 _ _ h2L)
theorem sl_settled (r : Rk K H sa oa d s o) : SpL (sp_settled K) [.int d, .ref sa, .ref oa] H (nv (settledL d s o)) := fun H1 e Q q E => ⟨sa, oa, d, s, o, rfl, r.mono e, q⟩
/-! the open functions -/
theorem ea_rank {σ : L2.St} (h0 : σ[0]? = some (some (.int d))) (h1 : σ[1]? = some (some (.ref sa))) (h2 : σ[2]? = some (some (.ref oa))) : EvA (tCons (tVar 0) (tCons (tVar 1) (tCons (tVar 2) tNil))) σ H [.int d, .ref sa, .ref oa] := ea_cons (ev_var h0) (ea_cons (ev_var h1) (ea_cons (ev_var h2) ea_nil))
def sp_wrong_places (K : PySem.W.Frag) : Sp := fun vs H Q _ => ∃ (sa oa : Addr) (d : Int) (s : List Int) (o : List Nat), vs = [.int d, .ref sa, .ref oa] ∧ Rk K H sa oa d s o ∧ RetL (nv (wrongL d s o)) H Q
def t_wrong_places (K : PySem.W.Frag) : TS := tSeq (tDrop (tCall (sp_check_ranking K) [] E0 (tCons (tVar 0) (tCons (tVar 1) (tCons (tVar 2) (tNil)))))) (tRet (tCall (sp_wrong_places_of K) [] E0 (tCons (tVar 0) (tCons (tVar 1) (tCons (tVar 2) (tNil))))))
theorem r_wrong_places {vs : List V} (h : sp_wrong_places K vs H Q E) : t_wrong_places K { nx := fun _ H' => Q .non H', rt := Q } (start ["lead", "scores", "order"] vs) H := by
  obtain ⟨sa, oa, d, s, o, rfl, r, k⟩ := h
  refine q_drop (ev_call (ea_rank rfl rfl rfl) (sv_check_ranking r)) fun H1 e1 => ?_
  exact s_retL (el_call (ea_rank rfl rfl rfl) (sl_wrong_places_of (r.mono e1))) fun p H2 hp e h => k p H2 (fresh_back e1 hp) (e1.trans e) h
theorem sl_wrong_places (r : Rk K H sa oa d s o) : SpL (sp_wrong_places K) [.int d, .ref sa, .ref oa] H (nv (wrongL d s o)) := fun H1 e Q q E => ⟨sa, oa, d, s, o, rfl, r.mono e, q⟩
def sp_settled_order (K : PySem.W.Frag) : Sp := fun vs H Q _ => ∃ (sa oa : Addr) (d : Int) (s : List Int) (o : List Nat), vs = [.int d, .ref sa, .ref oa] ∧ Rk K H sa oa d s o ∧ RetL (nv (settledL d s o)) H Q
def t_settled_order (K : PySem.W.Frag) : TS := tSeq (tDrop (tCall (sp_check_ranking K) [] E0 (tCons (tVar 0) (tCons (tVar 1) (tCons (tVar 2) (tNil)))))) (tRet (tCall (sp_settled K) [] E0 (tCons (tVar 0) (tCons (tVar 1) (tCons (tVar 2) (tNil))))))
theorem r_settled_order {vs : List V} (h : sp_settled_order K vs H Q E) : t_settled_order K { nx := fun _ H' => Q .non H', rt := Q } (start ["lead", "scores", "order"] vs) H := by
  obtain ⟨sa, oa, d, s, o, rfl, r, k⟩ := h
  refine q_drop (ev_call (ea_rank rfl rfl rfl) (sv_check_ranking r)) fun H1 e1 => ?_
  exact s_retL (el_call (ea_rank rfl rfl rfl) (sl_settled (r.mono e1))) fun p H2 hp e h => k p H2 (fresh_back e1 hp) (e1.trans e) h
theorem sl_settled_order (r : Rk K H sa oa d s o) : SpL (sp_settled_order K) [.int d, .ref sa, .ref oa] H (nv (settledL d s o)) := fun H1 e Q q E => ⟨sa, oa, d, s, o, rfl, r.mono e, q⟩
def sp_is_settled (K : PySem.W.Frag) : Sp := fun vs H Q _ => ∃ (sa oa : Addr) (d : Int) (s : List Int) (o : List Nat), vs = [.int d, .ref sa, .ref oa] ∧ Rk K H sa oa d s o ∧ RetV (.bl (decide (wrongL d s o = []))) H Q
def t_is_settled (K : PySem.W.Frag) : TS := tRet (tOp (rEqD K) (tCall (sp_wrong_places K) [] E0 (tCons (tVar 0) (tCons (tVar 1) (tCons (tVar 2) (tNil))))) (tLst (tNil)))
theorem r_is_settled {vs : List V} (h : sp_is_settled K vs H Q E) : t_is_settled K { nx := fun _ H' => Q .non H', rt := Q } (start ["lead", "scores", "order"] vs) H := by
  obtain ⟨sa, oa, d, s, o, rfl, r, k⟩ := h
  exact s_ret (ev_opLL (el_call (ea_rank rfl rfl rfl) (sl_wrong_places r)) (el_lst ea_nil (Nat.zero_le _)) fun p q H1 hp hq e => rv_eqNats (l := wrongL d s o) (m := []) (SqL.of hp) (SqL.of hq)) fun H1 e => k H1 e
theorem sv_is_settled (r : Rk K H sa oa d s o) : SpV (sp_is_settled K) [.int d, .ref sa, .ref oa] H (.bl (decide (wrongL d s o = []))) := fun H1 e Q q E => ⟨sa, oa, d, s, o, rfl, r.mono e, q⟩
end
end Lb

/-! promises and readings: the laws' draws (family A) -/
namespace Lb
open PySem PySem.Spec PyProof.Rows L2 Evl
/-- all but what stands at a is as it was -/
def Kx (a : Addr) (H H' : Hp) : Prop := ∀ b o, b ≠ a → H b = some o → H' b = some o
theorem Kx.refl (a : Addr) (H : Hp) : Kx a H H := fun _ _ _ h => h
theorem Kx.trans {a : Addr} {H H1 H2 : Hp} (x : Kx a H H1) (y : Kx a H1 H2) : Kx a H H2 := fun b o n h => y b o n (x b o n h)
theorem Kx.of {a : Addr} {H H' : Hp} (e : Ex H H') : Kx a H H' := fun b o _ h => e b o h
theorem Kx.upd {a : Addr} {H H' : Hp} {o : HO} (e : Kx a H H') : Kx a H (upd H' a o) := fun b u n h => by
  rw [upd_ne n]
  exact e b u n h
theorem Kx.none {a : Addr} {H H' : Hp} {b : Addr} (e : Kx a H H') (n : b ≠ a) (h : H' b = Option.none) : H b = Option.none := by
  cases q : H b with
  | none => rfl
  | some o => rw [e b o n q] at h; cases h
/-- a source of draws: at most B drawn without digits -/
def Src (H : Hp) (a : Addr) (B : Nat) : Prop := ∃ n m c : Int, H a = some (.lst [.int n, .int m, .int c]) ∧ 0 ≤ n ∧ 0 ≤ m ∧ m < 10 ^ 36 ∧ 0 ≤ c ∧ c ≤ (B : Int)
theorem Src.ex {H H' : Hp} {a : Addr} {B : Nat} (h : Src H a B) (e : Ex H H') : Src H' a B := by
  obtain ⟨n, m, c, h, r⟩ := h
  exact ⟨n, m, c, e _ _ h, r⟩
theorem Src.mono {H : Hp} {a : Addr} {B C : Nat} (h : Src H a B) (e : B ≤ C) : Src H a C := by
  obtain ⟨n, m, c, h, r1, r2, r3, r4, r5⟩ := h
  exact ⟨n, m, c, h, r1, r2, r3, r4, by omega⟩
theorem Src.some {H : Hp} {a : Addr} {B : Nat} (h : Src H a B) : ∃ o, H a = Option.some o := let ⟨_, _, _, h, _⟩ := h; ⟨_, h⟩
section
variable {K : PySem.W.Frag} {H H' : Hp} {Q : VK} {E : XK} {σ : L2.St}
def sp_source (_ : PySem.W.Frag) : Sp := fun vs H Q _ => ∃ (x k : Int), vs = [.int x, .int k] ∧ 0 ≤ k ∧ k ≤ 1000 ∧ ∀ p H', H p = none → Ex H H' → Src H' p 0 → Q (.ref p) H'
def t_source (K : PySem.W.Frag) : TS := tRet (tLst (tCons (tCB (Evl.rMax2) (tCons (tC (.int 0)) (tCons (tOp rSubI (tVar 0) (tOp rPowI (tC (.int 10)) (tC (.int 18)))) (tNil)))) (tCons (tOp rAddI (tOp rMulI (tOp rModI (tVar 0) (tOp rAddI (tOp rPowI (tC (.int 10)) (tC (.int 33))) (tC (.int 153)))) (tC (.int 137))) (tVar 1)) (tCons (tC (.int 0)) (tNil)))))
theorem pow10 {n : Nat} (h : n ≤ 1000) : CPowW 10 (n : Int) := powW (k := 4) (by decide) (by decide) (by omega) (by omega)
theorem rv_pow10 {n : Nat} (h : n ≤ 1000) : RV rPowI (.int 10) (.int (n : Int)) H (.int (10 ^ (n : Int).toNat)) := rv_I (pow10 h)
theorem ev_p10 (n : Nat) (h : n ≤ 1000) : Ev (tOp rPowI (tC (.int 10)) (tC (.int (n : Int)))) σ H (.int (10 ^ n)) := by
  have := ev_op (σ := σ) (H := H) (ev_c (v := .int 10)) (ev_c (v := .int (n : Int))) (rv_pow10 h)
  rwa [Int.toNat_natCast] at this
theorem r_source {vs : List V} (h : sp_source K vs H Q E) : t_source K { nx := fun _ H' => Q .non H', rt := Q } (start ["cell", "k"] vs) H := by
  obtain ⟨x, k, rfl, k0, k1, q⟩ := h
  have h0 : 0 ≤ x % (10 ^ 33 + 153) := Int.emod_nonneg _ (by decide)
  have h1 : x % (10 ^ 33 + 153) < 10 ^ 33 + 153 := Int.emod_lt_of_pos _ (by decide)
  refine s_retL (el_lst (ea_cons (ev_max2 ev_c (ev_sub (ev_var rfl) (ev_p10 18 (by decide)))) (ea_cons (ev_add (ev_op (ev_op (ev_var rfl) (ev_add (ev_p10 33 (by decide)) ev_c) (rv_I (show (0 : Int) < 10 ^ 33 + 153 by decide))) ev_c (rv_I (.inr (by decide)))) (ev_var rfl)) (ea_cons ev_c ea_nil))) (by simp)) fun p H1 hp e h => ?_
  refine q p H1 hp e ⟨_, _, _, h, ?_, ?_, ?_, ?_, ?_⟩
  · split <;> omega
  · have : (0 : Int) ≤ x % (10 ^ 33 + 153) * 137 := Int.mul_nonneg h0 (by decide)
    omega
  · omega
  · decide
  · decide
def sp_draw (_ : PySem.W.Frag) : Sp := fun vs H Q _ => ∃ (a : Addr) (k : Int) (B : Nat), vs = [.ref a, .int k] ∧ 0 < k ∧ k < 10 ^ 40 ∧ Src H a B ∧ B ≤ 1000000 ∧
  ∀ r H', 0 ≤ r → r < k → Kx a H H' → Src H' a (B + 1) → Q (.int r) H'
def t_draw (K : PySem.W.Frag) : TS := tSeq (tIfS (tTest (tOp rGtI (tOp (rIxL K) (tVar 0) (tC (.int 0))) (tC (.int 0)))) (tSeq (tAsg (tOp rModI (tOp (rIxL K) (tVar 0) (tC (.int 0))) (tVar 1)) (gName 2)) (tSeq (tAsg (tOp rDivI (tOp (rIxL K) (tVar 0) (tC (.int 0))) (tVar 1)) (gSub (tVar 0) (tC (.int 0)) rSetL)) (tRet (tVar 2)))) (tNext)) (tSeq (tAsg (tOp rAddI (tOp (rIxL K) (tVar 0) (tC (.int 2))) (tC (.int 1))) (gSub (tVar 0) (tC (.int 2)) rSetL)) (tSeq (tAsg (tOp rModI (tOp rPowI (tOp rAddI (tOp (rIxL K) (tVar 0) (tC (.int 1))) (tOp rMulI (tC (.int 930991)) (tOp (rIxL K) (tVar 0) (tC (.int 2))))) (tC (.int 3))) (tOp rAddI (tOp rPowI (tC (.int 10)) (tC (.int 39))) (tC (.int 3)))) (gName 3)) (tSeq (tAsg (tOp rModI (tOp rPowI (tOp rAddI (tVar 3) (tOp rMulI (tC (.int 103)) (tOp (rIxL K) (tVar 0) (tC (.int 2))))) (tC (.int 3))) (tOp rAddI (tOp rPowI (tC (.int 10)) (tC (.int 36))) (tC (.int 67)))) (gName 3)) (tRet (tOp rModI (tOp rDivI (tVar 3) (tC (.int 65687))) (tVar 1))))))
theorem div_ok {k : Int} (h0 : 0 < k) (h1 : k < 10 ^ 40) : CDivW k k := wide_div (b := 200) h0 (by
  have : k.natAbs < 10 ^ 40 := by omega
  exact Nat.lt_trans this (by decide)) (by decide) (by decide)
theorem divw_any {i j k : Int} (h : CDivW i k) : CDivW j k := h
theorem r_draw {vs : List V} (h : sp_draw K vs H Q E) : t_draw K { nx := fun _ H' => Q .non H', rt := Q } (start ["source", "choices", "digit", "mixed"] vs) H := by
  obtain ⟨a, k, B, rfl, k0, k1, ⟨n, m, c, ha, n0, m0, m1, c0, c1⟩, hB, q⟩ := h
  have at0 : ∀ x y z : Int, atI [V.int x, V.int y, V.int z] 0 = some (.int x) := fun _ _ _ => rfl
  have at1 : ∀ x y z : Int, atI [V.int x, V.int y, V.int z] 1 = some (.int y) := fun _ _ _ => rfl
  have at2 : ∀ x y z : Int, atI [V.int x, V.int y, V.int z] 2 = some (.int z) := fun _ _ _ => rfl
  refine q_when (b := decide (0 < n)) (et_gtI (ev_op (ev_var rfl) ev_c (rv_ixL (SqL.of ha) (at0 _ _ _))) ev_c) (fun hb H1 e1 => ?_) (fun hb H1 e1 => ?_)
  · have h1 := e1 _ _ ha
    refine q_asg (ev_op (ev_op (ev_var rfl) ev_c (rv_ixL (SqL.of h1) (at0 _ _ _))) (ev_var rfl) (rv_I k0)) fun H2 e2 => ?_
    have h2 := e2 _ _ h1
    refine q_setL (l := a) (j := 0) h2 (ev_op (ev_op (ev_var rfl) ev_c (rv_ixL (SqL.of h2) (at0 _ _ _))) (ev_var rfl) (rv_I (divw_any (div_ok k0 k1)))) (ev_var rfl) ev_c (by simp) fun H3 e3 => ?_
    refine s_ret (ev_var rfl) fun H4 e4 => ?_
    refine q _ H4 (Int.emod_nonneg _ (by omega)) (Int.emod_lt_of_pos _ k0) ((Kx.upd ((Kx.of e1).trans ((Kx.of e2).trans (Kx.of e3)))).trans (Kx.of e4)) ?_
    refine ⟨n / k, m, c, e4 _ _ upd_same, Int.ediv_nonneg n0 (by omega), m0, m1, c0, by omega⟩
  · have h1 := e1 _ _ ha
    refine q_setL (l := a) (j := 2) h1 (ev_add (ev_op (ev_var rfl) ev_c (rv_ixL (SqL.of h1) (at2 _ _ _))) ev_c) (ev_var rfl) ev_c (by simp) fun H2 e2 => ?_
    have h2 : (upd H1 a (.lst [.int n, .int m, .int (c + 1)])) a = some (.lst [.int n, .int m, .int (c + 1)]) := upd_same
    generalize hH : upd H2 a (.lst ([V.int n, V.int m, V.int c].set 2 (.int (c + 1)))) = H3
    have h3 : H3 a = some (.lst [.int n, .int m, .int (c + 1)]) := by rw [← hH]; exact upd_same
    have kx3 : Kx a H H3 := by rw [← hH]; exact Kx.upd ((Kx.of e1).trans (Kx.of e2))
    have p1 : CPowW (m + 930991 * (c + 1)) 3 := powW (k := 200) (by
      have : (m + 930991 * (c + 1)).natAbs < 10 ^ 37 := by omega
      exact Nat.lt_trans this (by decide)) (by decide) (by decide) (by decide)
    refine q_asg (ev_op (ev_op (ev_add (ev_op (ev_var rfl) ev_c (rv_ixL (SqL.of h3) (at1 _ _ _))) (ev_op ev_c (ev_op (ev_var rfl) ev_c (rv_ixL (SqL.of h3) (at2 _ _ _))) (rv_I (.inl (by decide))))) ev_c (rv_I p1)) (ev_add (ev_p10 39 (by decide)) ev_c) (rv_I (show (0 : Int) < 10 ^ 39 + 3 by decide))) fun H4 e4 => ?_
    generalize hx : (m + 930991 * (c + 1)) ^ (3 : Int).toNat % (10 ^ 39 + 3) = x
    have x0 : 0 ≤ x := by rw [← hx]; exact Int.emod_nonneg _ (by decide)
    have x1 : x < 10 ^ 39 + 3 := by rw [← hx]; exact Int.emod_lt_of_pos _ (by decide)
    have h4 := e4 _ _ h3
    have p2 : CPowW (x + 103 * (c + 1)) 3 := powW (k := 200) (by
      have : (x + 103 * (c + 1)).natAbs < 10 ^ 40 := by omega
      exact Nat.lt_trans this (by decide)) (by decide) (by decide) (by decide)
    refine q_asg (ev_op (ev_op (ev_add (ev_var rfl) (ev_op ev_c (ev_op (ev_var rfl) ev_c (rv_ixL (SqL.of h4) (at2 _ _ _))) (rv_I (.inl (by decide))))) ev_c (rv_I p2)) (ev_add (ev_p10 36 (by decide)) ev_c) (rv_I (show (0 : Int) < 10 ^ 36 + 67 by decide))) fun H5 e5 => ?_
    refine s_ret (ev_op (ev_op (ev_var rfl) ev_c (rv_I (show CDivW _ 65687 from ⟨by decide, by decide⟩))) (ev_var rfl) (rv_I k0)) fun H6 e6 => ?_
    refine q _ H6 (Int.emod_nonneg _ (by omega)) (Int.emod_lt_of_pos _ k0) (kx3.trans (Kx.of ((e4.trans e5).trans e6))) ?_
    exact ⟨n, m, c + 1, e6 _ _ (e5 _ _ h4), n0, m0, m1, by omega, by omega⟩
theorem dr {a : Addr} {k : Int} {B i : Nat} {te : TE} (hi : σ[i]? = some (some (.ref a))) (hk : Ev te σ H (.int k)) (k0 : 0 < k) (k1 : k < 10 ^ 40) (S : Src H a B) (hB : B ≤ 1000000)
    (q : ∀ r H', 0 ≤ r → r < k → Kx a H H' → Src H' a (B + 1) → Q (.int r) H') : tCall (sp_draw K) [] E0 (tCons (tVar i) (tCons te tNil)) σ H Q :=
  ⟨.ref a, hi, hk H (Ex.refl H) _ fun H1 e1 => ⟨a, k, B, rfl, k0, k1, S.ex e1, hB, fun r H' r0 r1 kx s => q r H' r0 r1 ((Kx.of e1).trans kx) s⟩⟩
theorem ix_ok {xs : List V} {r : Int} {n : Nat} (e : xs.length = n) (h0 : 0 ≤ r) (h1 : r < (n : Int)) : ∃ (j : Nat) (v : V), r = (j : Int) ∧ j < n ∧ xs[j]? = some v ∧ atI xs r = some v ∧ seqIndex? r xs.length = some j ∧ v ∈ xs := by
  obtain ⟨j, rfl⟩ : ∃ j : Nat, r = (j : Int) := ⟨r.toNat, by omega⟩
  have hj : j < xs.length := by omega
  exact ⟨j, xs[j], rfl, by omega, List.getElem?_eq_getElem hj, at_of rfl (List.getElem?_eq_getElem hj), (ixN_seq (ixN_nat hj)).1, List.getElem_mem hj⟩
def sp_shuffled (K : PySem.W.Frag) : Sp := fun vs H Q _ => ∃ (a b : Addr) (o : List Nat) (B : Nat), vs = [.ref a, .ref b] ∧ a ≠ b ∧ SqL K H b (nv o) ∧ o.length ≤ 28 ∧ Src H a B ∧ B ≤ 999000 ∧
  ∀ p o' H', H p = none → Kx a H H' → Src H' a (B + 28) → H' p = some (.lst (nv o')) → o'.Perm o → Q (.ref p) H'
def t_shuffled (K : PySem.W.Frag) : TS := tSeq (tAsg (tCB (Evl.rListS K) (tCons (tVar 1) (tNil))) (gName 2)) (tRet (tLc (iRng1 (tCons (tCB (Evl.rLenS K) (tCons (tVar 2) (tNil))) (tNil))) (gName 3) (tYes) (tBM K "list" (rPopAt) (tVar 2) (tCons (tCall (sp_draw K) [] E0 (tCons (tVar 0) (tCons (tCB (Evl.rLenS K) (tCons (tVar 2) (tNil))) (tNil)))) (tNil))) [3]))
theorem nv_erase (l : List Nat) (j : Nat) : nv (l.eraseIdx j) = (nv l).eraseIdx j := by
  unfold nv
  rw [List.eraseIdx_eq_take_drop_succ, List.eraseIdx_eq_take_drop_succ, List.map_append, List.map_take, List.map_drop]
theorem perm_erase {l : List Nat} {j : Nat} (h : j < l.length) : (l.getD j 0 :: l.eraseIdx j).Perm l := by
  have e : l.getD j 0 = l[j] := by rw [List.getD_eq_getElem?_getD, List.getElem?_eq_getElem h]; rfl
  rw [e, List.eraseIdx_eq_take_drop_succ]
  have h2 : l.drop j = l[j] :: l.drop (j + 1) := List.drop_eq_getElem_cons h
  have : (l[j] :: (l.take j ++ l.drop (j + 1))).Perm (l.take j ++ (l[j] :: l.drop (j + 1))) := (List.perm_middle).symm
  rw [← h2, List.take_append_drop] at this
  exact this
theorem nv_app (l : List Nat) (n : Nat) : nv (l ++ [n]) = nv l ++ [V.int (n : Int)] := by
  unfold nv
  rw [List.map_append]
  rfl
theorem r_shuffled {vs : List V} (h : sp_shuffled K vs H Q E) : t_shuffled K { nx := fun _ H' => Q .non H', rt := Q } (start ["source", "items", "left", "lap"] vs) H := by
  obtain ⟨a, b, o, B, rfl, hab, hb, ho, S, hB, q⟩ := h
  refine q_asgL (el_list (ev_var rfl) hb) fun L H1 nL e1 hL => ?_
  obtain ⟨oa, hoa⟩ := S.some
  have La : L ≠ a := (ne_of_none hoa nL).symm
  refine ev_lenN (ev_var rfl) (SqL.of hL) H1 (Ex.refl H1) _ fun H2 e2 => ⟨o.length, rfl, by omega, by omega, fun D nD => ?_⟩
  have nD0 : H D = none := fresh_back (e1.trans e2) nD
  have Da : D ≠ a := (ne_of_none hoa nD0).symm
  have LD : L ≠ D := ne_of_none (e2 _ _ hL) nD
  refine lc_range (lo := 0) (n := ((o.length : Nat) : Int).toNat) (fun i H' => ∃ l acc : List Nat, H' L = some (.lst (nv l)) ∧ H' D = some (.lst (nv acc)) ∧ (acc ++ l).Perm o ∧ acc.length = i ∧ Kx a H H' ∧ Src H' a (B + i))
    ⟨o, [], ?_, upd_same, .refl _, rfl, ?_, ?_⟩ ?_ ?_
  · rw [upd_ne LD]
    exact e2 _ _ hL
  · exact Kx.of ((e1.trans e2).mut nD0)
  · obtain ⟨n, m, c, h, r⟩ := S.ex (e1.trans e2)
    exact ⟨n, m, c, by rw [upd_ne Da.symm]; exact h, r⟩
  · rintro i H' hi ⟨l, acc, hl, hacc, pm, ha, kx, s⟩
    refine ⟨rfl, ?_⟩
    have ll : acc.length + l.length = o.length := by
      have := pm.length_eq
      rwa [List.length_append] at this
    have hi' : i < o.length := by simpa using hi
    show tBM K "list" rPopAt (tVar 2) (tCons (tCall (sp_draw K) [] E0 (tCons (tVar 0) (tCons (tCB (rLenS K) (tCons (tVar 2) tNil)) tNil))) tNil) _ H' _
    refine ⟨_, rfl, .inl ⟨rfl, _, SqL.of hl⟩, ?_⟩
    refine dr (a := a) (k := (l.length : Int)) (B := B + i) rfl (ev_lenN (ev_var rfl) (SqL.of hl)) (by omega) (by omega) s (by omega) fun r H3 r0 r1 kx3 s3 => ?_
    have hl3 := kx3 _ _ La hl
    have hacc3 := kx3 _ _ Da hacc
    obtain ⟨j, v, rfl, hj, gj, _, sj, _⟩ := ix_ok (xs := nv l) (n := l.length) (nv_len l) r0 (by omega)
    refine ⟨L, nv l, (j : Int), j, v, rfl, rfl, hl3, by omega, by omega, sj, gj, ?_⟩
    rw [nv_get hj] at gj
    cases gj
    refine ⟨nv acc, by rw [upd_ne LD.symm]; exact hacc3, small1000 (by rw [nv_len]; omega), l.eraseIdx j, acc ++ [l.getD j 0], ?_, ?_, ?_, ?_, ?_, ?_⟩
    · rw [upd_ne LD, upd_same, nv_erase]
    · rw [upd_same, nv_app]
    · refine List.Perm.trans ?_ pm
      rw [List.append_assoc]
      exact (perm_erase hj).append_left acc
    · rw [List.length_append, ha]
      rfl
    · intro x u hx hu
      rw [upd_ne (ne_of_none hu nD0), upd_ne (ne_of_none hu nL)]
      exact kx3 _ _ hx (kx _ _ hx hu)
    · obtain ⟨n, m, c, h, r⟩ := s3
      exact ⟨n, m, c, by rw [upd_ne Da.symm, upd_ne La.symm]; exact h, r⟩
  · rintro H' ⟨l, acc, hl, hacc, pm, ha, kx, s⟩
    have : l = [] := by
      have h1 := pm.length_eq
      rw [List.length_append, ha, Int.toNat_natCast] at h1
      exact List.length_eq_zero_iff.mp (by omega)
    subst this
    rw [List.append_nil] at pm
    exact q D acc H' nD0 kx (s.mono (by simp; omega)) hacc pm
def sp_gap (K : PySem.W.Frag) : Sp := fun vs H Q _ => ∃ (a : Addr) (B : Nat), vs = [.ref a] ∧ Src H a B ∧ B ≤ 999000 ∧ ∀ g H', 1 ≤ g → g < 10 ^ 31 → Kx a H H' → Src H' a (B + 3) → Q (.int g) H'
def t_gap (K : PySem.W.Frag) : TS := tRet (tOp (rIxL K) (tLst (tCons (tC (.int 1)) (tCons (tC (.int 2)) (tCons (tC (.int 3)) (tCons (tOp rAddI (tC (.int 1)) (tCall (sp_draw K) [] E0 (tCons (tVar 0) (tCons (tC (.int 9)) (tNil))))) (tCons (tOp rAddI (tC (.int 1)) (tCall (sp_draw K) [] E0 (tCons (tVar 0) (tCons (tOp rSubI (tOp rPowI (tC (.int 10)) (tC (.int 31))) (tC (.int 2))) (tNil))))) (tNil))))))) (tCall (sp_draw K) [] E0 (tCons (tVar 0) (tCons (tC (.int 5)) (tNil)))))
theorem r_gap {vs : List V} (h : sp_gap K vs H Q E) : t_gap K { nx := fun _ H' => Q .non H', rt := Q } (start ["source"] vs) H := by
  obtain ⟨a, B, rfl, S, hB, q⟩ := h
  refine dr (a := a) (k := 9) (B := B) rfl ev_c (by decide) (by decide) S (by omega) fun r1 H1 a0 a1 kx1 s1 => ?_
  refine ⟨1, r1, rfl, rfl, ?_⟩
  refine dr (a := a) (k := 10 ^ 31 - 2) (B := B + 1) rfl (ev_sub (ev_p10 31 (by decide)) ev_c) (by decide) (by decide) s1 (by omega) fun r2 H2 b0 b1 kx2 s2 => ?_
  refine ⟨1, r2, rfl, rfl, (by show 5 ≤ sizeLine; decide), fun p np => ?_⟩
  obtain ⟨oa, hoa⟩ := s2.some
  have pa : p ≠ a := (ne_of_none hoa np).symm
  refine dr (a := a) (k := 5) (B := B + 2) rfl ev_c (by decide) (by decide) ?_ (by omega) fun r3 H3 c0 c1 kx3 s3 => ?_
  · obtain ⟨n, m, c, h, r⟩ := s2
    exact ⟨n, m, c, by rw [upd_ne pa.symm]; exact h, r⟩
  have hp : H3 p = some (.lst [.int 1, .int 2, .int 3, .int (1 + r1), .int (1 + r2)]) := kx3 _ _ pa upd_same
  obtain ⟨j, v, rfl, hj, gj, at_, _, mem⟩ := ix_ok (xs := [V.int 1, .int 2, .int 3, .int (1 + r1), .int (1 + r2)]) (n := 5) rfl c0 c1
  refine ⟨p, _, (j : Int), v, rfl, rfl, SqL.of hp, at_, ?_⟩
  have kx : Kx a H H3 := by
    intro x u hx hu
    have np0 : H p = none := (kx1.trans kx2).none pa np
    refine kx3 _ _ hx ?_
    rw [upd_ne (ne_of_none hu np0)]
    exact kx2 _ _ hx (kx1 _ _ hx hu)
  simp only [List.mem_cons, List.not_mem_nil, or_false] at mem
  rcases mem with rfl | rfl | rfl | rfl | rfl <;> exact q _ H3 (by omega) (by omega) kx s3
end
end Lb

/-! promises and readings: drawn scores, drawn cases (family A) -/
namespace Lb
open PySem PySem.Spec PyProof.Rows L2 Evl
section
variable {K : PySem.W.Frag} {H H' : Hp} {Q : VK} {E : XK} {σ : L2.St}
theorem Src.upd {H : Hp} {a p : Addr} {B : Nat} {o : HO} (h : Src H a B) (n : p ≠ a) : Src (upd H p o) a B := by
  obtain ⟨x, m, c, h, r⟩ := h
  exact ⟨x, m, c, by rw [upd_ne n.symm]; exact h, r⟩
theorem Src.ne {H : Hp} {a p : Addr} {B : Nat} (h : Src H a B) (n : H p = Option.none) : p ≠ a := by
  obtain ⟨o, ho⟩ := h.some
  exact (ne_of_none ho n).symm
/-- a new object that H does not know -/
theorem Kx.fresh {a p : Addr} {H H' : Hp} {o : HO} (e : Kx a H H') (n : H p = Option.none) : Kx a H (L2.upd H' p o) := fun b u nb h => by
  rw [upd_ne (ne_of_none h n)]
  exact e b u nb h
theorem min2 {te tf : TE} {i j : Int} (h : Ev te σ H (.int i)) (h' : Ev tf σ H (.int j)) : Ev (tCB rMin2 (tCons te (tCons tf tNil))) σ H (.int (if j < i then j else i)) := fun H1 e Q q =>
  h H1 e _ fun H2 e2 => h' H2 (e.trans e2) _ fun H3 e3 => ⟨i, j, rfl, q H3 (e2.trans e3)⟩
def sp_sums (K : PySem.W.Frag) : Sp := fun vs H Q _ => ∃ (a : Addr) (g high : Int) (B : Nat), vs = [.ref a, .int g, .int high] ∧ 1 ≤ g ∧ g < 10 ^ 31 ∧ 1 ≤ high ∧ high ≤ 28 ∧ Src H a B ∧ B ≤ 990000 ∧
  ∀ p (s : List Int) H', H p = none → Kx a H H' → Src H' a (B + 200) → H' p = some (.lst (s.map V.int)) → 1 ≤ s.length → (s.length : Int) ≤ high → (∀ x ∈ s, -(10 ^ 33) < x ∧ x < 10 ^ 33) → Q (.ref p) H'
def t_sums (K : PySem.W.Frag) : TS := tSeq (tAsg (tOp (rIxL K) (tLst (tCons (tOp rAddI (tC (.int 1)) (tCall (sp_draw K) [] E0 (tCons (tVar 0) (tCons (tCB (rMin2) (tCons (tVar 2) (tCons (tC (.int 5)) (tNil)))) (tNil))))) (tCons (tOp rAddI (tC (.int 1)) (tCall (sp_draw K) [] E0 (tCons (tVar 0) (tCons (tVar 2) (tNil))))) (tCons (tVar 2) (tNil))))) (tCall (sp_draw K) [] E0 (tCons (tVar 0) (tCons (tC (.int 3)) (tNil))))) (gName 3)) (tSeq (tPar3 4 5 6 (tCons (tCall (sp_draw K) [] E0 (tCons (tVar 0) (tCons (tC (.int 5)) (tNil)))) (tCons (tCall (sp_draw K) [] E0 (tCons (tVar 0) (tCons (tOp rPowI (tC (.int 10)) (tC (.int 30))) (tNil)))) (tCons (tLst (tNil)) (tNil))))) (tSeq (tFor (iRng1 (tCons (tVar 3) (tNil))) (gName 7) (tSeq (tAsg (tLst (tCons (tCall (sp_draw K) [] E0 (tCons (tVar 0) (tCons (tC (.int 10)) (tNil)))) (tCons (tCall (sp_draw K) [] E0 (tCons (tVar 0) (tCons (tCB (rMin2) (tCons (tOp rAddI (tOp rMulI (tC (.int 4)) (tVar 1)) (tC (.int 1))) (tCons (tOp rPowI (tC (.int 10)) (tC (.int 31))) (tNil)))) (tNil)))) (tNil)))) (gName 8)) (tSeq (tDrop (tBM K "list" (rAppend) (tVar 8) (tCons (tOp rAddI (tOp rMulI (tVar 7) (tCB (rMin2) (tCons (tOp rSubI (tVar 1) (tC (.int 1))) (tCons (tOp rPowI (tC (.int 10)) (tC (.int 29))) (tNil))))) (tCall (sp_draw K) [] E0 (tCons (tVar 0) (tCons (tC (.int 2)) (tNil))))) (tNil)))) (tSeq (tAsg (tOp (rCatP K) (tVar 8) (tLst (tCons (tCall (sp_draw K) [] E0 (tCons (tVar 0) (tCons (tOp rPowI (tC (.int 10)) (tC (.int 31))) (tNil)))) (tCons (tOp rAddI (tVar 5) (tCall (sp_draw K) [] E0 (tCons (tVar 0) (tCons (tC (.int 3)) (tNil))))) (tNil))))) (gName 8)) (tDrop (tBM K "list" (rAppend) (tVar 6) (tCons (tOp (rIxL K) (tVar 8) (tVar 4)) (tNil)))))))) (tSeq (tIfS (tTest (tOp rEq (tCall (sp_draw K) [] E0 (tCons (tVar 0) (tCons (tC (.int 2)) (tNil)))) (tC (.int 0)))) (tAsg (tLc (iList K (tVar 6)) (gName 9) (tYes) (tOp rSubI (tC (.int 5)) (tVar 9)) [9]) (gName 6)) (tNext)) (tRet (tIf (tTest (tOp rEq (tCall (sp_draw K) [] E0 (tCons (tVar 0) (tCons (tC (.int 2)) (tNil)))) (tC (.int 0)))) (tVar 6) (tRevL K (tVar 6)))))))
/-- the end: the list itself or turned around -/
theorem sums_end {a : Addr} {B : Nat} {F : Addr} {s : List Int} {g high : Int} {v3 v4 v5 v7 v8 v9 : Option V} (hF : H F = some (.lst (s.map V.int))) (Fa : F ≠ a) (S : Src H a B) (hB : B ≤ 1000000)
    (q : ∀ p (s' : List Int) H', (p = F ∨ H p = none) → Kx a H H' → Src H' a (B + 1) → H' p = some (.lst (s'.map V.int)) → s'.length = s.length → (∀ x, x ∈ s' ↔ x ∈ s) → Q (.ref p) H') :
    tRet (tIf (tTest (tOp rEq (tCall (sp_draw K) [] E0 (tCons (tVar 0) (tCons (tC (.int 2)) tNil))) (tC (.int 0)))) (tVar 6) (tRevL K (tVar 6))) { nx := fun _ H' => Q .non H', rt := Q }
      [some (.ref a), some (.int g), some (.int high), v3, v4, v5, some (.ref F), v7, v8, v9] H := by
  refine dr (a := a) (k := 2) (B := B) rfl ev_c (by decide) (by decide) S hB fun r H1 r0 r1 kx s1 => ?_
  have h1 := kx _ _ Fa hF
  refine ⟨rfl, _, rfl, ?_⟩
  refine ite2 (fun _ => ?_) (fun _ => ?_)
  · exact ⟨_, rfl, q F s H1 (.inl rfl) kx s1 h1 rfl fun _ => .rfl⟩
  · refine ⟨_, rfl, F, _, rfl, SqL.of h1, fun p np => ?_⟩
    refine q p s.reverse _ (.inr (kx.none (s1.ne np) np)) (kx.fresh (kx.none (s1.ne np) np)) (s1.upd (s1.ne np)) ?_ (List.length_reverse) fun x => List.mem_reverse
    rw [upd_same, List.map_reverse]
theorem r_sums {vs : List V} (h : sp_sums K vs H Q E) : t_sums K { nx := fun _ H' => Q .non H', rt := Q } (start ["source", "gap", "high", "many", "way", "base", "found", "at", "some", "one"] vs) H := by
  obtain ⟨a, g, high, B, rfl, g0, g1, h0, h1, S, hB, q⟩ := h
  have mn : (0 : Int) < (if (5 : Int) < high then 5 else high) ∧ (if (5 : Int) < high then (5 : Int) else high) ≤ high := by split <;> omega
  -- many
  refine dr (a := a) (B := B) rfl (min2 (ev_var rfl) ev_c) mn.1 (by omega) S (by omega) fun r1 H1 a0 a1 kx1 s1 => ?_
  refine ⟨1, r1, rfl, rfl, ?_⟩
  refine dr (a := a) (k := high) (B := B + 1) rfl (ev_var rfl) (by omega) (by omega) s1 (by omega) fun r2 H2 b0 b1 kx2 s2 => ?_
  refine ⟨1, r2, rfl, rfl, _, rfl, (by show 3 ≤ sizeLine; decide), fun p np => ?_⟩
  have pa := s2.ne np
  refine dr (a := a) (k := 3) (B := B + 2) rfl ev_c (by decide) (by decide) (s2.upd pa) (by omega) fun r3 H3 c0 c1 kx3 s3 => ?_
  have kx03 : Kx a H H3 := ((kx1.trans kx2).fresh ((kx1.trans kx2).none pa np)).trans kx3
  have hp : H3 p = some (.lst [.int (1 + r1), .int (1 + r2), .int high]) := kx3 _ _ pa upd_same
  obtain ⟨j, v, rfl, hj, gj, at_, _, mem⟩ := ix_ok (xs := [V.int (1 + r1), .int (1 + r2), .int high]) (n := 3) rfl c0 c1
  refine ⟨p, _, (j : Int), v, rfl, rfl, SqL.of hp, at_, ?_⟩
  obtain ⟨many, rfl, m0, m1⟩ : ∃ many : Int, v = .int many ∧ 1 ≤ many ∧ many ≤ high := by
    simp only [List.mem_cons, List.not_mem_nil, or_false] at mem
    rcases mem with rfl | rfl | rfl
    · exact ⟨_, rfl, by omega, by omega⟩
    · exact ⟨_, rfl, by omega, by omega⟩
    · exact ⟨_, rfl, by omega, by omega⟩
  -- way, base, found
  refine dr (a := a) (k := 5) (B := B + 3) rfl ev_c (by decide) (by decide) s3 (by omega) fun way H4 w0 w1 kx4 s4 => ?_
  refine dr (a := a) (k := 10 ^ 30) (B := B + 4) rfl (ev_p10 30 (by decide)) (by decide) (by decide) s4 (by omega) fun base H5 x0 x1 kx5 s5 => ?_
  refine ⟨Nat.zero_le _, fun F nF => ?_⟩
  have Fa := s5.ne nF
  have kx05 : Kx a H H5 := kx03.trans (kx4.trans kx5)
  have nF0 : H F = none := kx05.none Fa nF
  refine ⟨_, _, _, rfl, ?_⟩
  -- the loop
  refine ⟨_, rfl, many, rfl, by omega, by omega, for_range (lo := 0) (n := many.toNat) (fun i σ H' => ∃ (s : List Int) (v7 v8 v9 : Option V), σ = [some (.ref a), some (.int g), some (.int high), some (.int many), some (.int way), some (.int base), some (.ref F), v7, v8, v9] ∧
      H' F = some (.lst (s.map V.int)) ∧ s.length = i ∧ (∀ x ∈ s, -(10 ^ 32) < x ∧ x < 10 ^ 32) ∧ Kx a H H' ∧ Src H' a (B + 5 + 5 * i)) ⟨[], _, _, _, rfl, upd_same, rfl, (by simp), kx05.fresh nF0, s5.upd Fa⟩ ?_ ?_⟩
  · rintro i σ H6 hi ⟨s, v7, v8, v9, rfl, hF, ls, bs, kx6, s6⟩
    have hi2 : (i : Int) < many := by omega
    refine dr (a := a) (k := 10) (B := B + 5 + 5 * i) rfl ev_c (by decide) (by decide) s6 (by omega) fun e1 H7 y0 y1 kx7 s7 => ?_
    have mk : ∀ z : Int, 0 < z → (0 : Int) < (if (10 ^ 31 : Int) < z then 10 ^ 31 else z) ∧ (if (10 ^ 31 : Int) < z then (10 ^ 31 : Int) else z) ≤ 10 ^ 31 := fun z hz => by split <;> omega
    have mm := mk (4 * g + 1) (by omega)
    refine dr (a := a) (k := (if (10 ^ 31 : Int) < 4 * g + 1 then 10 ^ 31 else 4 * g + 1)) (B := B + 5 + 5 * i + 1) rfl (min2 (ev_add (ev_op ev_c (ev_var rfl) (rv_I (.inl (by decide)))) ev_c) (ev_p10 31 (by decide))) mm.1 (by omega) s7 (by omega) fun e2 H8 z0 z1 kx8 s8 => ?_
    refine ⟨by show 2 ≤ sizeLine; decide, fun M nM => ?_⟩
    have Ma := s8.ne nM
    have s8' := s8.upd (o := .lst [.int e1, .int e2]) Ma
    have kx68 : Kx a H6 H8 := kx7.trans kx8
    have nM6 : H6 M = none := kx68.none Ma nM
    have FM : F ≠ M := ne_of_none hF nM6
    have nM0 : H M = none := kx6.none Ma nM6
    -- some.append(at * min(gap - 1, 10 ** 29) + draw)
    refine ⟨_, rfl, .inl ⟨rfl, _, SqL.of upd_same⟩, ?_⟩
    have m29 : (0 : Int) ≤ (if (10 ^ 29 : Int) < g - 1 then 10 ^ 29 else g - 1) ∧ (if (10 ^ 29 : Int) < g - 1 then (10 ^ 29 : Int) else g - 1) ≤ 10 ^ 29 := by split <;> omega
    refine ev_op (r := rMulI) (H := upd H8 M (.lst [.int e1, .int e2])) (σ := [some (.ref a), some (.int g), some (.int high), some (.int many), some (.int way), some (.int base), some (.ref F), some (.int (0 + (i : Int))), some (.ref M), v9]) (ev_var (i := 7) rfl) (min2 (ev_sub (ev_var (i := 1) rfl) ev_c) (ev_p10 29 (by decide))) (rv_I (.inl (by omega))) _ (Ex.refl _) _ fun H9 e9 => ?_
    refine dr (a := a) (k := 2) (B := B + 5 + 5 * i + 2) rfl ev_c (by decide) (by decide) (s8'.ex e9) (by omega) fun e3 H10 u0 u1 kx10 s10 => ?_
    refine ⟨_, _, rfl, rfl, ?_⟩
    have hM10 : H10 M = some (.lst [.int e1, .int e2]) := kx10 _ _ Ma (e9 _ _ upd_same)
    refine ⟨M, _, _, rfl, rfl, hM10, small1000 (by simp), ?_⟩
    -- some = some + [..]
    refine ⟨_, rfl, ?_⟩
    refine dr (a := a) (k := 10 ^ 31) (B := B + 5 + 5 * i + 3) rfl (ev_p10 31 (by decide)) (by decide) (by decide) (s10.upd Ma) (by omega) fun e4 H11 t0 t1 kx11 s11 => ?_
    refine ⟨_, rfl, ?_⟩
    refine dr (a := a) (k := 3) (B := B + 5 + 5 * i + 4) rfl ev_c (by decide) (by decide) s11 (by omega) fun e5 H12 q0 q1 kx12 s12 => ?_
    refine ⟨base, e5, rfl, rfl, (by show 2 ≤ sizeLine; decide), fun N nN => ?_⟩
    have Na := s12.ne nN
    have hM12 : H12 M = some (.lst [.int e1, .int e2, .int ((0 + (i : Int)) * (if (10 ^ 29 : Int) < g - 1 then 10 ^ 29 else g - 1) + e3)]) := kx12 _ _ Ma (kx11 _ _ Ma upd_same)
    have MN : M ≠ N := ne_of_none hM12 nN
    refine ⟨M, N, _, [.int e4, .int (base + e5)], rfl, rfl, SqP.of (by rw [upd_ne MN]; exact hM12), SqP.of upd_same, (by show 5 ≤ sizeLine; decide), fun R nR => ?_⟩
    have nR' : H12 R = none ∧ R ≠ N := by
      have : R ≠ N := fun z => by subst z; rw [upd_same] at nR; cases nR
      rw [upd_ne this] at nR
      exact ⟨nR, this⟩
    have Ra := s12.ne nR'.1
    have kxA : Kx a H6 H12 := by
      intro x u hx hu
      refine kx12 _ _ hx (kx11 _ _ hx ?_)
      rw [upd_ne (ne_of_none hu nM6)]
      refine kx10 _ _ hx (e9 _ _ ?_)
      rw [upd_ne (ne_of_none hu nM6)]
      exact kx68 _ _ hx hu
    have hF12 := kxA _ _ Fa hF
    -- found.append(some[way])
    refine ⟨_, rfl, .inl ⟨rfl, _, SqL.of (xs := s.map V.int) (by rw [upd_ne (ne_of_none hF12 nR'.1), upd_ne (ne_of_none hF12 nN)]; exact hF12)⟩, ?_⟩
    obtain ⟨jj, v, rfl, hjj, gj', at', _, mem'⟩ := ix_ok (xs := [V.int e1, .int e2, .int ((0 + (i : Int)) * (if (10 ^ 29 : Int) < g - 1 then 10 ^ 29 else g - 1) + e3)] ++ [.int e4, .int (base + e5)]) (n := 5) rfl w0 w1
    refine ⟨_, rfl, _, rfl, R, _, _, v, rfl, rfl, SqL.of upd_same, at', ?_⟩
    refine ⟨F, _, v, rfl, rfl, (by rw [upd_ne (ne_of_none hF12 nR'.1), upd_ne (ne_of_none hF12 nN)]; exact hF12), small1000 (by rw [List.length_map]; omega), ?_⟩
    obtain ⟨x, rfl, xl, xh⟩ : ∃ x : Int, v = .int x ∧ -(10 ^ 32) < x ∧ x < 10 ^ 32 := by
      have hmul : (0 : Int) ≤ (0 + (i : Int)) * (if (10 ^ 29 : Int) < g - 1 then 10 ^ 29 else g - 1) ∧ (0 + (i : Int)) * (if (10 ^ 29 : Int) < g - 1 then 10 ^ 29 else g - 1) ≤ 28 * 10 ^ 29 := by
        refine ⟨Int.mul_nonneg (by omega) m29.1, Int.mul_le_mul (by omega) m29.2 m29.1 (by decide)⟩
      have hz1 := mm.2
      simp only [List.cons_append, List.nil_append, List.mem_cons, List.not_mem_nil, or_false] at mem'
      rcases mem' with rfl | rfl | rfl | rfl | rfl
      · exact ⟨_, rfl, by omega, by omega⟩
      · exact ⟨_, rfl, by omega, by omega⟩
      · exact ⟨_, rfl, by omega, by omega⟩
      · exact ⟨_, rfl, by omega, by omega⟩
      · exact ⟨_, rfl, by omega, by omega⟩
    refine ⟨s ++ [x], _, _, _, rfl, ?_, ?_, ?_, ?_, ?_⟩
    · rw [upd_same, List.map_append]
      rfl
    · rw [List.length_append, ls]
      rfl
    · intro y hy
      rcases List.mem_append.mp hy with hy | hy
      · exact bs y hy
      · rw [List.mem_singleton.mp hy]
        exact ⟨xl, xh⟩
    · refine Kx.fresh (Kx.fresh (Kx.fresh (kx6.trans kxA) ?_) ?_) nF0
      · exact (kx6.trans kxA).none Na nN
      · exact (kx6.trans kxA).none Ra nR'.1
    · have := ((s12.upd (o := .lst [.int e4, .int (base + e5)]) Na).upd (p := R) (o := .lst ([V.int e1, .int e2, .int ((0 + (i : Int)) * (if (10 ^ 29 : Int) < g - 1 then 10 ^ 29 else g - 1) + e3)] ++ [.int e4, .int (base + e5)])) Ra).upd (p := F) (o := .lst (s.map V.int ++ [.int x])) Fa
      exact this.mono (by omega)
  · rintro σ H6 ⟨s, v7, v8, v9, rfl, hF, ls, bs, kx6, s6⟩
    have lm : (s.length : Int) = many := by omega
    refine dr (a := a) (k := 2) (B := B + 5 + 5 * many.toNat) rfl ev_c (by decide) (by decide) s6 (by omega) fun r H7 y0 y1 kx7 s7 => ?_
    have hF7 := kx7 _ _ Fa hF
    refine ⟨rfl, _, rfl, ?_⟩
    refine ite2 (fun _ => ?_) (fun _ => ?_)
    · -- found = [5 - one for one in found]
      refine ⟨_, rfl, F, rfl, ⟨_, SqL.of hF7⟩, fun D nD => ?_⟩
      have Da := s7.ne nD
      have nD0 : H D = none := (kx6.trans kx7).none Da nD
      have FD : F ≠ D := ne_of_none hF7 nD
      refine lc_list (xs := s.map V.int) (fun i H' => Kx a H H' ∧ Src H' a (B + 5 + 5 * many.toNat + 1) ∧ H' F = some (.lst (s.map V.int)) ∧ H' D = some (.lst (((s.take i).map fun x => 5 - x).map V.int)))
        ⟨(kx6.trans kx7).fresh nD0, s7.upd Da, by rw [upd_ne FD]; exact hF7, upd_same⟩ (fun i H' _ p => SqL.of p.2.2.1) ?_ ?_
      · rintro i x H' hx ⟨p1, p2, p3, p4⟩
        rw [List.getElem?_map] at hx
        cases hs : s[i]? with
        | none => rw [hs] at hx; cases hx
        | some n =>
          rw [hs] at hx
          cases hx
          refine ⟨rfl, ?_⟩
          show tOp rSubI (tC (.int 5)) (tVar 9) _ H' _
          refine ⟨_, rfl, 5, n, rfl, rfl, _, p4, small1000 (by rw [List.length_map, List.length_map, List.length_take]; omega), p1.fresh nD0, p2.upd Da, by rw [upd_ne FD]; exact p3, ?_⟩
          rw [upd_same, List.take_add_one, hs, List.map_append, List.map_append]
          rfl
      · rintro H' ⟨p1, p2, p3, p4⟩
        rw [List.length_map, List.take_length] at p4
        refine sums_end (F := D) (B := B + 5 + 5 * many.toNat + 1) p4 Da p2 (by omega) fun p s' H8 hp k8 s8 h8 l8 m8 => ?_
        have np : H p = none := by
          rcases hp with rfl | hp
          · exact nD0
          · exact p1.none (p2.ne hp) hp
        refine q p s' H8 np (p1.trans k8) (s8.mono (by omega)) h8 (by rw [l8, List.length_map]; omega) (by rw [l8, List.length_map]; omega) fun x hx => ?_
        have hx2 := (m8 x).mp hx
        obtain ⟨y, hy, rfl⟩ := List.mem_map.mp hx2
        have := bs y hy
        omega
    · refine sums_end (F := F) (B := B + 5 + 5 * many.toNat + 1) hF7 Fa s7 (by omega) fun p s' H8 hp k8 s8 h8 l8 m8 => ?_
      have np : H p = none := by
        rcases hp with rfl | hp
        · exact nF0
        · exact (kx6.trans kx7).none (s7.ne hp) hp
      refine q p s' H8 np ((kx6.trans kx7).trans k8) (s8.mono (by omega)) h8 (by omega) (by omega) fun x hx => ?_
      have := bs x ((m8 x).mp hx)
      omega
end
end Lb

/-! promises and readings: a drawn case; repr of small data; wrong places and exchanges by the law (family A) -/
namespace Lb
open PySem PySem.Spec PyProof.Rows L2 Evl
section
variable {K : PySem.W.Frag} {H H' : Hp} {Q : VK} {E : XK} {σ : L2.St}
/-- a drawn ranking stands at sa, oa -/
structure Dn (H : Hp) (sa oa : Addr) (s : List Int) (o : List Nat) : Prop where
  hs : H sa = some (.lst (s.map V.int))
  ho : H oa = some (.lst (nv o))
  l1 : 1 ≤ s.length
  l2 : s.length ≤ 28
  pm : o.Perm (List.range s.length)
  bd : ∀ x ∈ s, -(10 ^ 33) < x ∧ x < 10 ^ 33
theorem Dn.rk {sa oa : Addr} {s : List Int} {o : List Nat} {d : Int} (x : Dn H sa oa s o) (h : 1 ≤ d) : Rk K H sa oa d s o := ⟨h, SqL.of x.hs, SqL.of x.ho, x.l1, x.l2, x.pm⟩
theorem Dn.ex {sa oa : Addr} {s : List Int} {o : List Nat} (x : Dn H sa oa s o) (e : Ex H H') : Dn H' sa oa s o := ⟨e _ _ x.hs, e _ _ x.ho, x.l1, x.l2, x.pm, x.bd⟩
theorem Dn.kx {a sa oa : Addr} {s : List Int} {o : List Nat} (x : Dn H sa oa s o) (e : Kx a H H') (n1 : sa ≠ a) (n2 : oa ≠ a) : Dn H' sa oa s o := ⟨e _ _ n1 x.hs, e _ _ n2 x.ho, x.l1, x.l2, x.pm, x.bd⟩
def sp_case (K : PySem.W.Frag) : Sp := fun vs H Q _ => ∃ (a : Addr) (high : Int) (B : Nat), vs = [.ref a, .int high] ∧ 1 ≤ high ∧ high ≤ 28 ∧ Src H a B ∧ B ≤ 980000 ∧
  ∀ p sa oa (g : Int) (s : List Int) (o : List Nat) H', H p = none → H sa = none → H oa = none → sa ≠ oa → 1 ≤ g → g < 10 ^ 31 → (s.length : Int) ≤ high → Kx a H H' → Src H' a (B + 300) →
    H' p = some (.lst [.int g, .ref sa, .ref oa]) → Dn H' sa oa s o → Q (.ref p) H'
def t_case (K : PySem.W.Frag) : TS := tSeq (tAsg (tCall (sp_gap K) [] E0 (tCons (tVar 0) (tNil))) (gName 2)) (tSeq (tAsg (tCall (sp_sums K) [] E0 (tCons (tVar 0) (tCons (tVar 2) (tCons (tVar 1) (tNil))))) (gName 3)) (tSeq (tAsg (tLstRg (tRg1 (tCB (Evl.rLenS K) (tCons (tVar 3) (tNil))))) (gName 4)) (tRet (tLst (tCons (tVar 2) (tCons (tVar 3) (tCons (tOp (rIxL K) (tLst (tCons (tCall (sp_shuffled K) [] E0 (tCons (tVar 0) (tCons (tVar 4) (tNil)))) (tCons (tVar 4) (tCons (tRevL K (tVar 4)) (tNil))))) (tCall (sp_draw K) [] E0 (tCons (tVar 0) (tCons (tC (.int 3)) (tNil))))) (tNil))))))))
theorem r_case {vs : List V} (h : sp_case K vs H Q E) : t_case K { nx := fun _ H' => Q .non H', rt := Q } (start ["source", "high", "gap", "sums", "line"] vs) H := by
  obtain ⟨a, high, B, rfl, h0, h1, S, hB, q⟩ := h
  refine ⟨_, rfl, a, B, rfl, S, by omega, fun g H1 g0 g1 kx1 s1 => ?_⟩
  refine ⟨_, rfl, _, rfl, _, rfl, a, g, high, B + 3, rfl, g0, g1, h0, h1, s1, by omega, fun sa s H2 n2 kx2 s2 h2 l1 l2 bd => ?_⟩
  have saa : sa ≠ a := s1.ne n2
  have nsa : H sa = none := kx1.none saa n2
  refine ev_lenS (ev_var (i := 3) rfl) (SqL.of h2) H2 (Ex.refl H2) _ fun H3 e3 => ?_
  refine ⟨_, rfl, RgOk.of_le (by omega) (by omega) (by omega) (by omega), fun L nL => ?_⟩
  have s3 := s2.ex e3
  have La := s3.ne nL
  have kx03 : Kx a H H3 := (kx1.trans kx2).trans (Kx.of e3)
  have nL0 : H L = none := kx03.none La nL
  have saL : sa ≠ L := ne_of_none (e3 _ _ h2) nL
  -- the three lines
  refine ⟨_, rfl, _, rfl, _, rfl, _, rfl, a, L, List.range s.length, B + 3 + 200, rfl, La.symm, ?_, by rw [List.length_range]; omega, s3.upd La, by omega, fun P o1 H4 nP kx4 s4 h4 pm1 => ?_⟩
  · rw [← rg_nv]
    exact SqL.of upd_same
  have Pa : P ≠ a := (s3.upd La).ne nP
  have PL : P ≠ L := fun z => by subst z; rw [upd_same] at nP; cases nP
  have nP3 : H3 P = none := by rwa [upd_ne PL] at nP
  have hL4 : H4 L = some (.lst (nv (List.range s.length))) := by
    rw [← rg_nv]
    exact kx4 _ _ La upd_same
  refine ⟨_, rfl, _, rfl, L, _, rfl, SqL.of hL4, fun R nR => ?_⟩
  have Ra := s4.ne nR
  have kx04 : Kx a H H4 := (kx03.fresh nL0).trans kx4
  have nR0 : H R = none := kx04.none Ra nR
  have RL : L ≠ R := ne_of_none hL4 nR
  have RP : P ≠ R := ne_of_none h4 nR
  refine ⟨by show 3 ≤ sizeLine; decide, fun T nT => ?_⟩
  have TR : T ≠ R := fun z => by subst z; rw [upd_same] at nT; cases nT
  have nT4 : H4 T = none := by rwa [upd_ne TR] at nT
  have Ta := s4.ne nT4
  refine dr (a := a) (k := 3) (B := B + 3 + 200 + 28) rfl ev_c (by decide) (by decide) ((s4.upd Ra).upd Ta) (by omega) fun r H5 r0 r1 kx5 s5 => ?_
  have up : ∀ x u, x ≠ a → H4 x = some u → H5 x = some u := fun x u hx hu => kx5 _ _ hx (by rw [upd_ne (ne_of_none hu nT4), upd_ne (ne_of_none hu nR)]; exact hu)
  have hT : H5 T = some (.lst [.ref P, .ref L, .ref R]) := kx5 _ _ Ta upd_same
  have hR : H5 R = some (.lst (nv (List.range s.length).reverse)) := kx5 _ _ Ra (by
    rw [upd_ne TR.symm, upd_same]
    unfold nv
    rw [List.map_reverse])
  have hP5 := up _ _ Pa h4
  have hL5 := up _ _ La hL4
  have hs5 : H5 sa = some (.lst (s.map V.int)) := up _ _ saa (kx4 _ _ saa (by rw [upd_ne saL]; exact e3 _ _ h2))
  obtain ⟨j, v, rfl, hj, gj, at_, _, mem⟩ := ix_ok (xs := [V.ref P, .ref L, .ref R]) (n := 3) rfl r0 r1
  refine ⟨T, _, _, v, rfl, rfl, SqL.of hT, at_, ?_⟩
  refine ⟨by show 3 ≤ sizeLine; decide, fun p np => ?_⟩
  have pa := s5.ne np
  have kx05 : Kx a H H5 := by
    intro x u hx hu
    exact up x u hx (kx04 _ _ hx hu)
  have np0 : H p = none := kx05.none pa np
  have nP0 : H P = none := kx03.none Pa nP3
  have saP : sa ≠ P := ne_of_none (e3 _ _ h2) nP3
  have saR : sa ≠ R := ne_of_none (kx4 _ _ saa (show (upd H3 L _) sa = some (.lst (s.map V.int)) by rw [upd_ne saL]; exact e3 _ _ h2)) nR
  obtain ⟨oa, o, rfl, hoa, pm, noa, soa⟩ : ∃ (oa : Addr) (o : List Nat), v = .ref oa ∧ H5 oa = some (.lst (nv o)) ∧ o.Perm (List.range s.length) ∧ H oa = none ∧ sa ≠ oa := by
    simp only [List.mem_cons, List.not_mem_nil, or_false] at mem
    rcases mem with rfl | rfl | rfl
    · exact ⟨P, o1, rfl, hP5, pm1, nP0, saP⟩
    · exact ⟨L, _, rfl, hL5, .refl _, nL0, saL⟩
    · exact ⟨R, _, rfl, hR, List.reverse_perm _, nR0, saR⟩
  refine q p sa oa g s o _ np0 nsa noa soa g0 g1 l2 (kx05.fresh np0) ((s5.upd pa).mono (by omega)) upd_same ⟨?_, ?_, l1, by omega, pm, bd⟩
  · rw [upd_ne (ne_of_none hs5 np)]
    exact hs5
  · rw [upd_ne (ne_of_none hoa np)]
    exact hoa
/-! repr of small data -/
structure Nice (m k : Nat) (d : PyData) : Prop where
  sh : d.showable = true
  nd : d.hasDict = false
  dp : d.depth ≤ k
  ls : d.leavesShort 40 = true
  bk : d.bulk ≤ m
theorem nice_int {i : Int} (h0 : -(10 ^ 33) < i) (h1 : i < 10 ^ 33) : Nice 0 0 (.int i) := by
  have hn : i.natAbs < 10 ^ 33 := by omega
  refine ⟨?_, rfl, Nat.zero_le _, ?_, Nat.zero_le _⟩
  · show decide (i.natAbs.log2 < 1920) = true
    refine decide_eq_true ?_
    have := PySem.Flt.log2_lt_of (k := 200) (by decide) (Nat.lt_trans hn (by decide))
    omega
  · show decide _ = true
    refine decide_eq_true ?_
    show (Str.ofString (toString i)).length ≤ 40
    have := int_text_length_le10 (k := 33) (by decide) hn
    rw [PySem.ofString_length]
    omega
theorem nice_bool (b : Bool) : Nice 0 0 (.bool b) := ⟨rfl, rfl, Nat.le_refl _, rfl, Nat.le_refl _⟩
theorem nice_all {m k : Nat} : ∀ {ds : List PyData}, (∀ d ∈ ds, Nice m k d) → PyData.showableAll ds = true ∧ PyData.hasDictAll ds = false ∧ PyData.depthAll ds ≤ k ∧ PyData.leavesShortAll 40 ds = true ∧ PyData.bulkAll ds ≤ ds.length * (m + 1)
  | [], _ => ⟨rfl, rfl, Nat.zero_le _, rfl, Nat.zero_le _⟩
  | d :: r, h => by
    obtain ⟨a1, a2, a3, a4, a5⟩ := nice_all fun x hx => h x (List.mem_cons_of_mem _ hx)
    have b := h d List.mem_cons_self
    refine ⟨?_, ?_, ?_, ?_, ?_⟩
    · rw [PyData.showableAll, b.sh, a1]; rfl
    · rw [PyData.hasDictAll, b.nd, a2]; rfl
    · rw [PyData.depthAll]
      exact Nat.max_le.mpr ⟨b.dp, a3⟩
    · rw [PyData.leavesShortAll, b.ls, a4]; rfl
    · rw [PyData.bulkAll, List.length_cons, Nat.succ_mul]
      have := b.bk
      omega
theorem nice_list {m k n : Nat} {ds : List PyData} (h : ∀ d ∈ ds, Nice m k d) (hl : ds.length ≤ n) : Nice (n * (m + 1)) (k + 1) (.list ds) := by
  obtain ⟨a1, a2, a3, a4, a5⟩ := nice_all h
  refine ⟨a1, a2, ?_, a4, Nat.le_trans a5 (Nat.mul_le_mul_right _ hl)⟩
  rw [PyData.depth]
  omega
theorem nice_tup {m k n : Nat} {ds : List PyData} (h : ∀ d ∈ ds, Nice m k d) (hl : ds.length ≤ n) : Nice (n * (m + 1)) (k + 1) (.tuple ds) := by
  obtain ⟨a1, a2, a3, a4, a5⟩ := nice_all h
  refine ⟨a1, a2, ?_, a4, Nat.le_trans a5 (Nat.mul_le_mul_right _ hl)⟩
  rw [PyData.depth]
  omega
theorem Nice.mono {m k m' k' : Nat} {d : PyData} (h : Nice m k d) (h1 : m ≤ m') (h2 : k ≤ k') : Nice m' k' d := ⟨h.sh, h.nd, Nat.le_trans h.dp h2, h.ls, Nat.le_trans h.bk h1⟩
theorem nice_ints {ns : List Int} {n : Nat} (h : ∀ x ∈ ns, -(10 ^ 33) < x ∧ x < 10 ^ 33) (hl : ns.length ≤ n) : Nice (n * 1) 1 (.list (ns.map PyData.int)) :=
  nice_list (m := 0) (k := 0) (fun d hd => by
    obtain ⟨x, hx, rfl⟩ := List.mem_map.mp hd
    exact nice_int (h x hx).1 (h x hx).2) (by rw [List.length_map]; exact hl)
def pn (l : List Nat) : PyData := .list ((l.map fun n : Nat => (n : Int)).map PyData.int)
theorem nice_nats {l : List Nat} {n : Nat} (h : ∀ x ∈ l, x < 1000) (hl : l.length ≤ n) : Nice (n * 1) 1 (pn l) :=
  nice_ints (fun x hx => by
    obtain ⟨y, hy, rfl⟩ := List.mem_map.mp hx
    have := h y hy
    omega) (by rw [List.length_map]; exact hl)
theorem dp_nats {a : Addr} {l : List Nat} (h : SqL K H a (nv l)) : Dp K H (.ref a) (pn l) := by
  rw [nv_int] at h
  exact dp_list h
theorem Nice.fits {m k : Nat} {d : PyData} (h : Nice m k d) (hm : m ≤ 100000) : d.shown.length ≤ sizeLine := by
  have h1 := PyData.shown_le_bulk 40 (by decide) d h.ls
  have h2 : (40 + 2) * d.bulk ≤ 42 * 100000 := Nat.mul_le_mul (Nat.le_refl _) (Nat.le_trans h.bk hm)
  rw [sizeLine_eq]
  omega
theorem rc_repr {p : Addr} {d : PyData} {m k : Nat} (hd : ∀ H1, Ex H H1 → Dp K H1 (.ref p) d) (h : Nice m k d) (hm : m ≤ 100000) (hk : k ≤ 100) : RC (rRepr K) [.ref p] H (.str d.shown) := fun H1 e Q q =>
  ⟨p, d, rfl, hd H1 e, h.sh, h.nd, Nat.le_trans h.dp hk, h.fits hm, q H1 (Ex.refl _)⟩
theorem ev_repr {te : TE} {p : Addr} {d : PyData} {m k : Nat} (h : Ev te σ H (.ref p)) (hd : ∀ H1, Ex H H1 → Dp K H1 (.ref p) d) (hn : Nice m k d) (hm : m ≤ 100000) (hk : k ≤ 100) : Ev (tCB (rRepr K) (tCons te tNil)) σ H (.str d.shown) :=
  ev_cb (ea_cons h ea_nil) (rc_repr hd hn hm hk)
theorem ev_reprL {te : TE} {xs : List V} {ds : List PyData} {m k : Nat} (h : EvL te σ H xs) (hd : ∀ H1, Ex H H1 → DpAll K H1 xs ds) (hn : Nice m k (.list ds)) (hm : m ≤ 100000) (hk : k ≤ 100) : Ev (tCB (rRepr K) (tCons te tNil)) σ H (.str (PyData.list ds).shown) :=
  ev_cbL h fun p H1 hp e => rc_repr (fun H2 e2 => .lst (SqL.of (e2 _ _ hp)) (hd H2 (e.trans e2))) hn hm hk
/-! the law's wrong places, its exchange -/
def sp_wrong (K : PySem.W.Frag) : Sp := fun vs H Q _ => ∃ (sa oa : Addr) (d : Int) (s : List Int) (o : List Nat), vs = [.int d, .ref sa, .ref oa] ∧ Rk K H sa oa d s o ∧ RetL (nv (wrongL d s o)) H Q
def t_wrong (K : PySem.W.Frag) : TS := tRet (tLc (iRng1 (tCons (tOp rSubI (tCB (Evl.rLenS K) (tCons (tVar 2) (tNil))) (tC (.int 1))) (tNil))) (gName 3) (tTest (tOp rGeI (tOp (rIxL K) (tVar 1) (tOp (rIxL K) (tVar 2) (tOp rAddI (tVar 3) (tC (.int 1))))) (tOp rAddI (tOp (rIxL K) (tVar 1) (tOp (rIxL K) (tVar 2) (tVar 3))) (tVar 0)))) (tVar 3) [3])
theorem r_wrong {vs : List V} (h : sp_wrong K vs H Q E) : t_wrong K { nx := fun _ H' => Q .non H', rt := Q } (start ["gap", "sums", "line", "at"] vs) H := by
  obtain ⟨sa, oa, d, s, o, rfl, r, k⟩ := h
  have hl := r.len
  have h1 := r.l1
  have h2 := r.l2
  have e0 : ((o.length : Int) - 1).toNat = o.length - 1 := by omega
  have key := el_lcR1 (H := H) (σ := start ["gap", "sums", "line", "at"] [.int d, .ref sa, .ref oa]) (ta := tCons (tOp rSubI (tCB (rLenS K) (tCons (tVar 2) tNil)) (tC (.int 1))) tNil) (j := 3) (vs := [3])
    (t := tTest (tOp rGeI (tOp (rIxL K) (tVar 1) (tOp (rIxL K) (tVar 2) (tOp rAddI (tVar 3) (tC (.int 1))))) (tOp rAddI (tOp (rIxL K) (tVar 1) (tOp (rIxL K) (tVar 2) (tVar 3))) (tVar 0)))) (te := tVar 3)
    (wrongAt d s o) (fun i => V.int (i : Int)) (ea_cons (ev_sub (ev_lenN (ev_var rfl) r.ho) ev_c) ea_nil) (by omega) (fun _ => rfl)
    (fun i H1 e hi => et_is (et_geI (ev_ixS (ev_var rfl) (ev_ixN (ev_var rfl) (ev_add (ev_var rfl) ev_c) (ex_l e r.ho) (j := i + 1) rfl (by omega)) (ex_l e r.hs) rfl (r.lt _ (getD_mem (by omega)))) (ev_add (ev_ixS (ev_var rfl) (ev_ixN (ev_var rfl) (ev_var rfl) (ex_l e r.ho) rfl (by omega)) (ex_l e r.hs) rfl (r.lt _ (getD_mem (by omega)))) (ev_var rfl)))
      (by unfold wrongAt ww; exact decide_eq_decide.mpr ⟨fun z => by omega, fun z => by omega⟩))
    (fun i H1 e hi _ => ev_var rfl)
  rw [e0, given_nv] at key
  exact s_retL key fun p H1 hp e h => k p H1 hp e h
theorem sl_wrong {sa oa : Addr} {d : Int} {s : List Int} {o : List Nat} (r : Rk K H sa oa d s o) : SpL (sp_wrong K) [.int d, .ref sa, .ref oa] H (nv (wrongL d s o)) := fun H1 e Q q E => ⟨sa, oa, d, s, o, rfl, r.mono e, q⟩
def sp_passed (K : PySem.W.Frag) : Sp := fun vs H Q _ => ∃ (oa : Addr) (o : List Nat) (i : Nat), vs = [.ref oa, .int (i : Int)] ∧ SqL K H oa (nv o) ∧ i + 1 < o.length ∧ RetL (nv (swapAt o i)) H Q
def t_passed (K : PySem.W.Frag) : TS := tSeq (tAsg (tCB (Evl.rListS K) (tCons (tVar 0) (tNil))) (gName 2)) (tSeq (tPar 3 4 (tCons (tOp (rIxL K) (tVar 2) (tVar 1)) (tCons (tOp (rIxL K) (tVar 2) (tOp rAddI (tVar 1) (tC (.int 1)))) (tNil)))) (tSeq (tAsg (tVar 4) (gSub (tVar 2) (tVar 1) rSetL)) (tSeq (tAsg (tVar 3) (gSub (tVar 2) (tOp rAddI (tVar 1) (tC (.int 1))) rSetL)) (tRet (tVar 2)))))
theorem nv_set (l : List Nat) (i n : Nat) : nv (l.set i n) = (nv l).set i (.int (n : Int)) := by
  unfold nv
  rw [List.map_set]
theorem r_passed {vs : List V} (h : sp_passed K vs H Q E) : t_passed K { nx := fun _ H' => Q .non H', rt := Q } (start ["line", "at", "found", "one", "two"] vs) H := by
  obtain ⟨oa, o, i, rfl, ho, hi, k⟩ := h
  refine q_asgL (el_list (ev_var rfl) ho) fun L H1 nL e1 hL => ?_
  refine ev_ixN (ev_var (i := 2) rfl) (ev_var (i := 1) rfl) (SqL.of hL) rfl (show i < o.length by omega) H1 (Ex.refl _) _ fun H2 e2 => ?_
  refine ev_ixN (ev_var (i := 2) rfl) (ev_add (ev_var (i := 1) rfl) ev_c) (SqL.of (e2 _ _ hL)) (j := i + 1) rfl hi H2 (Ex.refl _) _ fun H3 e3 => ?_
  refine ⟨_, _, rfl, ?_⟩
  have h3 := e3 _ _ (e2 _ _ hL)
  refine q_setL (l := L) (j := i) h3 (ev_var rfl) (ev_var rfl) (ev_var rfl) (by rw [nv_len]; omega) fun H4 e4 => ?_
  refine q_setL (l := L) (j := i + 1) upd_same (ev_var rfl) (ev_var rfl) (ev_is (ev_add (ev_var rfl) ev_c) (congrArg V.int (Int.natCast_succ i).symm)) (by rw [List.length_set, nv_len]; omega) fun H5 e5 => ?_
  refine s_ret (ev_var rfl) fun H6 e6 => k L H6 nL (fun b u hu => e6 _ _ ?_) (e6 _ _ ?_)
  · rw [upd_ne (ne_of_none hu nL)]
    refine e5 _ _ ?_
    rw [upd_ne (ne_of_none hu nL)]
    exact e4 _ _ (e3 _ _ (e2 _ _ (e1 _ _ hu)))
  · rw [upd_same]
    unfold swapAt
    rw [nv_set, nv_set]
theorem sl_passed {oa : Addr} {o : List Nat} {i : Nat} (ho : SqL K H oa (nv o)) (hi : i + 1 < o.length) : SpL (sp_passed K) [.ref oa, .int (i : Int)] H (nv (swapAt o i)) := fun H1 e Q q E => ⟨oa, o, i, rfl, ex_l e ho, hi, q⟩
end
end Lb

/-! the law's own def, family A: up to m cells, each with a source of its own -/
namespace Lb
open PySem PySem.Spec PyProof.Rows L2 Evl
def tLawA (K : PySem.W.Frag) (m c1 c2 : Int) (sp : Sp) : TS := tSeq (tFor (iEnum K (tCons (tSl (rSlL K) (tOp (rCatP K) (tVar 0) (tLst (tCons (tC (.int 0)) (tNil)))) (tNoPart) (tPart (tCB (Evl.rMax2) (tCons (tC (.int 1)) (tCons (tCB (rMin2) (tCons (tCB (Evl.rLenS K) (tCons (tVar 0) (tNil))) (tCons (tC (.int m)) (tNil)))) (tNil)))))) (tNil))) (gTup K 2 (gCons (gName 1) (gCons (gName 2) (gNil)))) (tIfS (tNot (tB (tCall sp [] E0 (tCons (tCall (sp_source K) [] E0 (tCons (tVar 2) (tCons (tVar 1) (tNil)))) (tCons (tIf (tTest (tOp (rEqD K) (tVar 0) (tLst (tNil)))) (tC (.int c1)) (tC (.int c2))) (tNil)))))) (tRet (tC (.bl false))) (tNext))) (tRet (tC (.bl true)))
def sp_law (K : PySem.W.Frag) : Sp := fun vs H Q _ => ∃ (a : Addr) (ns : List Int), vs = [.ref a] ∧ SqP K H a (ns.map V.int) ∧ ns.length ≤ 63 ∧ ∀ H', Q (.bl true) H'
/-- what the law's own work on a cell promises: True, the source alone changed -/
def SpHolds (sp : Sp) (c1 c2 : Int) : Prop := ∀ (a : Addr) (c : Int) (H : Hp) (Q : VK) (E : XK), (c = c1 ∨ c = c2) → Src H a 0 → (∀ H', Kx a H H' → Q (.bl true) H') → sp [.ref a, .int c] H Q E
theorem cut_int (l : List V) (k : Int) (h0 : 0 ≤ k) (h1 : k ≤ (l.length : Int)) : ∃ n : Nat, k = (n : Int) ∧ cutV l none (some k) = l.take n := by
  obtain ⟨n, rfl⟩ : ∃ n : Nat, k = (n : Int) := ⟨k.toNat, by omega⟩
  refine ⟨n, rfl, ?_⟩
  unfold cutV
  rw [HT.sIx_none, HT.sIx_nat, Nat.min_eq_left (by omega)]
  rfl
theorem r_lawA {K : PySem.W.Frag} {m c1 c2 : Int} {sp : Sp} (hm : 1 ≤ m) (hsp : SpHolds sp c1 c2) {vs : List V} {H : Hp} {Q : VK} {E : XK} (h : sp_law K vs H Q E) : tLawA K m c1 c2 sp { nx := fun _ H' => Q .non H', rt := Q } (start ["script", "k", "cell"] vs) H := by
  obtain ⟨a, ns, rfl, hs, hn, k⟩ := h
  have hl := hs.sq
  refine ⟨.ref a, rfl, (by show 1 ≤ sizeLine; decide), fun Z nZ => ?_⟩
  have e1 : Ex H (upd H Z (.lst [.int 0])) := Ex.new nZ
  refine ⟨a, Z, ns.map V.int, [.int 0], rfl, rfl, hs.same e1, SqP.of upd_same, (by rw [List.length_map]; exact Nat.le_trans (show ns.length + 1 ≤ 64 by omega) (by decide)), fun L nL => ?_⟩
  have e2 : Ex (upd H Z (.lst [.int 0])) (upd (upd H Z (.lst [.int 0])) L (.lst (ns.map V.int ++ [.int 0]))) := Ex.new nL
  have hL : (upd (upd H Z (.lst [.int 0])) L (.lst (ns.map V.int ++ [.int 0]))) L = some (.lst (ns.map V.int ++ [.int 0])) := upd_same
  generalize upd (upd H Z (.lst [.int 0])) L (.lst (ns.map V.int ++ [.int 0])) = H2 at e2 hL
  have e02 := e1.trans e2
  refine (ev_max2 (σ := start ["script", "k", "cell"] [.ref a]) ev_c (min2 (ev_len (ev_var (i := 0) rfl) hl) ev_c)) H2 e02 _ fun H3 e3 => ⟨_, rfl, ?_⟩
  have hll : (ns.map V.int ++ [V.int 0]).length = ns.length + 1 := by simp
  have b0 : ∀ x : Int, (0 : Int) ≤ (if x > 1 then x else 1) := fun x => by split <;> omega
  have b1 : (if (if m < ((ns.map V.int).length : Int) then m else ((ns.map V.int).length : Int)) > 1 then (if m < ((ns.map V.int).length : Int) then m else ((ns.map V.int).length : Int)) else 1) ≤ ((ns.map V.int ++ [V.int 0]).length : Int) := by
    rw [hll, List.length_map]
    split
    · split <;> omega
    · omega
  obtain ⟨n, en, ec⟩ := cut_int _ _ (b0 (if m < ((ns.map V.int).length : Int) then m else ((ns.map V.int).length : Int))) b1
  refine ⟨L, _, rfl, SqL.of (e3 _ _ hL), fun C nC => ?_⟩
  rw [ec]
  have e4 : Ex H3 (upd H3 C (.lst ((ns.map V.int ++ [V.int 0]).take n))) := Ex.new nC
  have hC : (upd H3 C (.lst ((ns.map V.int ++ [V.int 0]).take n))) C = some (.lst ((ns.map V.int ++ [V.int 0]).take n)) := upd_same
  generalize upd H3 C (.lst ((ns.map V.int ++ [V.int 0]).take n)) = H4 at e4 hC
  have e04 : Ex H H4 := (e02.trans e3).trans e4
  refine ⟨C, _, rfl, SqL.of hC, for_it walk_enum (fun i σ H' => (∃ v1 v2, σ = [some (.ref a), v1, v2]) ∧ Ex H4 H') ⟨⟨none, none, rfl⟩, Ex.refl _⟩ (fun i σ H' _ p => SqL.of (p.2 _ _ hC)) ?_ ?_⟩
  · rintro i x σ H5 H6 hi ⟨⟨v1, v2, rfl⟩, e5⟩ ⟨T, x1, x2, rfl, nT, rfl, y1, y2⟩
    cases y1
    have hi63 : i < 64 := by
      have := hi
      rw [List.length_take, hll] at this
      omega
    obtain ⟨z, rfl⟩ : ∃ z : Int, x2 = .int z := by
      have mem := List.mem_of_mem_take (List.mem_of_getElem? y2)
      rcases List.mem_append.mp mem with q | q
      · obtain ⟨w, _, rfl⟩ := List.mem_map.mp q
        exact ⟨w, rfl⟩
      · exact ⟨0, List.mem_singleton.mp q⟩
    have e6 : Ex H5 (upd H5 T (.tup [.int ((i : Nat) : Int), .int z])) := Ex.new nT
    refine ⟨T, _, rfl, SqT.of upd_same, rfl, _, _, rfl, _, _, rfl, rfl, ?_⟩
    generalize upd H5 T (.tup [.int ((i : Nat) : Int), .int z]) = H6 at e6
    -- holds(source(cell, k), ..)
    refine ⟨_, rfl, _, rfl, z, (i : Int), rfl, by omega, by omega, fun p H7 np e7 s7 => ?_⟩
    have hs7 := (SqP.same (((e04.trans e5).trans e6).trans e7) hs).sq
    refine ev_opL (r := rEqD K) (σ := [some (.ref a), some (.int (i : Int)), some (.int z)]) (ta := tVar 0) (tb := tLst tNil) (xs := ([] : List Int).map V.int) (ev_var (i := 0) rfl) (el_lst ea_nil (Nat.zero_le _)) (fun q H8 hq e8 => rv_eqInts (ns := ns) (ms := []) (ex_l e8 hs7) (SqL.of hq)) H7 (Ex.refl _) _ fun H8 e8 => ⟨_, rfl, ?_⟩
    have fin : ∀ c : Int, (c = c1 ∨ c = c2) → sp [.ref p, .int c] H8 (fun x H1 => ∃ c, x = .bl c ∧ (if (!c) = true then tRet (tC (.bl false)) { nx := fun σ' H' => (∃ v1 v2, σ' = [some (.ref a), v1, v2]) ∧ Ex H4 H', rt := Q, ct := fun σ' H' => (∃ v1 v2, σ' = [some (.ref a), v1, v2]) ∧ Ex H4 H', bk := tRet (tC (.bl true)) { nx := fun _ H' => Q .non H', rt := Q } } [some (.ref a), some (.int (i : Int)), some (.int z)] H1
        else tNext { nx := fun σ' H' => (∃ v1 v2, σ' = [some (.ref a), v1, v2]) ∧ Ex H4 H', rt := Q, ct := fun σ' H' => (∃ v1 v2, σ' = [some (.ref a), v1, v2]) ∧ Ex H4 H', bk := tRet (tC (.bl true)) { nx := fun _ H' => Q .non H', rt := Q } } [some (.ref a), some (.int (i : Int)), some (.int z)] H1)) E0 := fun c hc =>
      hsp p c H8 _ _ hc (s7.ex e8) fun H9 kx => ⟨true, rfl, by
        rw [if_neg (by decide)]
        refine ⟨⟨_, _, rfl⟩, fun b u hu => ?_⟩
        have hb := e7 _ _ (e6 _ _ (e5 _ _ hu))
        exact kx b u (ne_of_none (e6 _ _ (e5 _ _ hu)) np) (e8 _ _ hb)⟩
    refine ite2 (fun _ => ?_) (fun _ => ?_)
    · exact fin c1 (.inl rfl)
    · exact fin c2 (.inr rfl)
  · rintro σ H5 ⟨⟨v1, v2, rfl⟩, e5⟩
    exact k H5
end Lb

/-! readings: calls by keywords, calls with written lists, tests of lists -/
namespace Lb
open PySem PySem.Spec PyProof.Rows L2 Evl
section
variable {K : PySem.W.Frag} {H H' : Hp} {Q : VK} {E : XK} {σ : L2.St}
theorem et_neNats {ta tb : TE} {p q : Addr} {l m : List Nat} (h : Ev ta σ H (.ref p)) (h' : Ev tb σ H (.ref q)) (hp : SqL K H p (nv l)) (hq : SqL K H q (nv m)) (e : l = m) : EvT (tTest (tOp (rNeD K) ta tb)) σ H false := by
  have := et_test (ev_op h h' (rv_neNats hp hq))
  rwa [decide_eq_true e] at this
theorem et_neLV {ta tb : TE} {q : Addr} {l m : List Nat} (h : EvL ta σ H (nv l)) (h' : ∀ H1, Ex H H1 → Ev tb σ H1 (.ref q)) (hq : SqL K H q (nv m)) (e : l = m) : EvT (tTest (tOp (rNeD K) ta tb)) σ H false := by
  refine et_test (ev_is (ev_opL1 h h' fun p H1 hp e1 => rv_neNats (SqL.of hp) (ex_l e1 hq)) ?_)
  rw [decide_eq_true e]
  rfl
theorem et_neLL {ta tb : TE} {l m : List Nat} (h : EvL ta σ H (nv l)) (h' : EvL tb σ H (nv m)) (e : l = m) : EvT (tTest (tOp (rNeD K) ta tb)) σ H false := by
  refine et_test (ev_is (ev_opLL h h' fun p q H1 hp hq e1 => rv_neNats (SqL.of hp) (SqL.of hq)) ?_)
  rw [decide_eq_true e]
  rfl
theorem ev_eqLL {ta tb : TE} {l m : List Nat} (h : EvL ta σ H (nv l)) (h' : EvL tb σ H (nv m)) (e : l = m) : Ev (tOp (rEqD K) ta tb) σ H (.bl true) := by
  refine ev_is (ev_opLL h h' fun p q H1 hp hq e1 => rv_eqNats (SqL.of hp) (SqL.of hq)) ?_
  rw [decide_eq_true e]
theorem nd_of {o : List Nat} {n : Nat} (h : o.Perm (List.range n)) : o.Nodup := h.nodup_iff.mpr List.nodup_range
end
end Lb

/-! readings: more for the laws' own defs -/
namespace Lb
open PySem PySem.Spec PyProof.Rows L2 Evl
section
variable {K : PySem.W.Frag} {H H' : Hp} {Q : VK} {E : XK} {σ : L2.St}
theorem el_callK {sp : Sp} {perm : List Nat} {ta : TA} {zs xs : List V} (h : EvA ta σ H zs) (hl : zs.length = perm.length) (hp : ∀ i ∈ perm, i < zs.length) (hs : SpL sp (pick perm V.non zs) H xs) : EvL (tCallK0 sp perm ta) σ H xs := fun H1 e Q q =>
  h H1 e _ fun H2 e2 => ⟨hl, hp, hs H2 (e.trans e2) Q (fun p H3 np e3 h3 => q p H3 (fresh_back e2 np) (e2.trans e3) h3) E0⟩
theorem ev_callK {sp : Sp} {perm : List Nat} {ta : TA} {zs : List V} {z : V} (h : EvA ta σ H zs) (hl : zs.length = perm.length) (hp : ∀ i ∈ perm, i < zs.length) (hs : SpV sp (pick perm V.non zs) H z) : Ev (tCallK0 sp perm ta) σ H z := fun H1 e Q q =>
  h H1 e _ fun H2 e2 => ⟨hl, hp, hs H2 (e.trans e2) Q (fun H3 e3 => q H3 (e2.trans e3)) E0⟩
theorem flat_nv (l : List Nat) : (nv l).all flatV = true := by
  unfold nv
  rw [List.all_map]
  exact List.all_eq_true.mpr fun _ _ => rfl
theorem inV_nv (i : Nat) : ∀ l : List Nat, inV (.int (i : Int)) (nv l) = decide (i ∈ l)
  | [] => rfl
  | n :: r => by
    have ih := inV_nv i r
    unfold inV at *
    show (eqV (.int (n : Int)) (.int (i : Int)) || (nv r).any fun y => eqV y (.int (i : Int))) = _
    rw [ih]
    show (((n : Int) == (i : Int)) || decide (i ∈ r)) = decide (i ∈ n :: r)
    rw [Bool.eq_iff_iff]
    simp only [Bool.or_eq_true, beq_iff_eq, decide_eq_true_eq, List.mem_cons]
    constructor
    · rintro (h | h)
      · exact .inl (by omega)
      · exact .inr h
    · rintro (h | h)
      · exact .inl (by omega)
      · exact .inr h
/-- the data of [gap, sums, line] -/
def d3 (g : Int) (s : List Int) (o : List Nat) : PyData := .list [.int g, .list (s.map PyData.int), pn o]
theorem nice_d3 {g : Int} {s : List Int} {o : List Nat} (g0 : -(10 ^ 33) < g) (g1 : g < 10 ^ 33) (hs : s.length ≤ 28) (bd : ∀ x ∈ s, -(10 ^ 33) < x ∧ x < 10 ^ 33) (ho : ∀ x ∈ o, x < 1000) (hl : o.length ≤ 28) : Nice (3 * (28 + 1)) 2 (d3 g s o) := by
  refine nice_list (m := 28) (k := 1) (fun d hd => ?_) (by simp)
  simp only [List.mem_cons, List.not_mem_nil, or_false] at hd
  rcases hd with rfl | rfl | rfl
  · exact (nice_int g0 g1).mono (by omega) (by omega)
  · exact (nice_ints bd hs).mono (by omega) (by omega)
  · exact (nice_nats ho hl).mono (by omega) (by omega)
theorem dp_d3 {g : Int} {s : List Int} {o : List Nat} {sa oa : Addr} (hs : SqL K H sa (s.map V.int)) (ho : SqL K H oa (nv o)) : DpAll K H [.int g, .ref sa, .ref oa] [.int g, .list (s.map PyData.int), pn o] :=
  .cons (.int g) (.cons (dp_list hs) (.cons (dp_nats ho) .nil))
theorem ev_rep3 {i j k : Nat} {g : Int} {s : List Int} {o : List Nat} {sa oa : Addr} (r : Rk K H sa oa g s o) (g1 : g < 10 ^ 33) (bd : ∀ x ∈ s, -(10 ^ 33) < x ∧ x < 10 ^ 33) (h0 : σ[i]? = some (some (.int g))) (h1 : σ[j]? = some (some (.ref sa))) (h2 : σ[k]? = some (some (.ref oa))) :
    Ev (tCB (rRepr K) (tCons (tLst (tCons (tVar i) (tCons (tVar j) (tCons (tVar k) tNil)))) tNil)) σ H (.str (d3 g s o).shown) := by
  have hl := r.len
  have l2 := r.l2
  have d1 := r.d1
  exact ev_reprL (el_lst (ea_cons (ev_var h0) (ea_cons (ev_var h1) (ea_cons (ev_var h2) ea_nil))) (by simp)) (fun H1 e => dp_d3 (ex_l e r.hs) (ex_l e r.ho)) (nice_d3 (by omega) g1 l2 bd (fun x hx => by have := r.lt x hx; omega) (by omega)) (by omega) (by omega)
theorem et_neS {ta tb : TE} {x y : Str} (h : Ev ta σ H (.str x)) (h' : Ev tb σ H (.str y)) (e : x = y) : EvT (tTest (tOp rNe ta tb)) σ H false := by
  subst e
  have := et_test (ev_op h h' (rv_ne (H := H) (x := V.str x) (y := V.str x) rfl))
  rwa [decide_eq_true rfl] at this
theorem wl_lt {d : Int} {s : List Int} {o : List Nat} : ∀ x ∈ wrongL d s o, x < o.length := fun x hx => by
  have := (mem_wrong.mp hx).1
  omega
theorem wl_len (d : Int) (s : List Int) (o : List Nat) : (wrongL d s o).length ≤ o.length := by
  unfold wrongL
  have := List.length_filter_le (wrongAt d s o) (List.range (o.length - 1))
  rw [List.length_range] at this
  omega
theorem nice_wl {d : Int} {s : List Int} {o : List Nat} (h : o.length ≤ 28) : Nice (28 * 1) 1 (pn (wrongL d s o)) :=
  nice_nats (fun x hx => by have := wl_lt x hx; omega) (Nat.le_trans (wl_len d s o) h)
theorem nice_two {m k : Nat} {d : PyData} (h : Nice m k d) : Nice (2 * (m + 1)) (k + 1) (.list [d, d]) := nice_list (fun x hx => by
  simp only [List.mem_cons, List.not_mem_nil, or_false, or_self] at hx
  rw [hx]
  exact h) (by simp)
/-- a call with two written lists -/
theorem ev_lit {sp : Sp} {d : Int} {t1 t2 : TE} {x1 x2 : List V} {z : V} (h1 : EvL t1 σ H x1) (h2 : EvL t2 σ H x2) (hs : ∀ p q H1, Ex H H1 → H1 p = some (.lst x1) → H1 q = some (.lst x2) → SpV sp [.int d, .ref p, .ref q] H1 z) :
    Ev (tCall sp [] E0 (tCons (tC (.int d)) (tCons t1 (tCons t2 tNil)))) σ H z := fun H1 e Q k =>
  h1 H1 e _ fun p H2 _ e2 hp => h2 H2 (e.trans e2) _ fun q H3 _ e3 hq => hs p q H3 ((e.trans e2).trans e3) (e3 _ _ hp) hq H3 (Ex.refl _) Q (fun H4 e4 => k H4 ((e2.trans e3).trans e4)) E0
theorem el_lit {sp : Sp} {d : Int} {t1 t2 : TE} {x1 x2 xs : List V} (h1 : EvL t1 σ H x1) (h2 : EvL t2 σ H x2) (hs : ∀ p q H1, Ex H H1 → H1 p = some (.lst x1) → H1 q = some (.lst x2) → SpL sp [.int d, .ref p, .ref q] H1 xs) :
    EvL (tCall sp [] E0 (tCons (tC (.int d)) (tCons t1 (tCons t2 tNil)))) σ H xs := fun H1 e Q k =>
  h1 H1 e _ fun p H2 _ e2 hp => h2 H2 (e.trans e2) _ fun q H3 _ e3 hq => hs p q H3 ((e.trans e2).trans e3) (e3 _ _ hp) hq H3 (Ex.refl _) Q (fun r H4 n4 e4 h4 => k r H4 (fresh_back (e2.trans e3) n4) ((e2.trans e3).trans e4) h4) E0
theorem rk_lit {p q : Addr} {d : Int} {s : List Int} {o : List Nat} (h1 : H p = some (.lst (s.map V.int))) (h2 : H q = some (.lst (nv o))) (hd : 1 ≤ d) (l1 : 1 ≤ s.length) (l2 : s.length ≤ 28) (pm : o.Perm (List.range s.length)) : Rk K H p q d s o := ⟨hd, SqL.of h1, SqL.of h2, l1, l2, pm⟩
theorem el_4 {a b c d : V} : EvL (tLst (tCons (tC a) (tCons (tC b) (tCons (tC c) (tCons (tC d) tNil))))) σ H [a, b, c, d] := el_lst (ea_cons ev_c (ea_cons ev_c (ea_cons ev_c (ea_cons ev_c ea_nil)))) (by simp)
end
end Lb

/-! readings: index, sorted rows, max and min, tests in tests -/
namespace Lb
open PySem PySem.Spec PyProof.Rows L2 Evl
section
variable {K : PySem.W.Frag} {H H' : Hp} {Q : VK} {E : XK} {σ : L2.St}
theorem ev_index {te ta : TE} {p : Addr} {l : List Nat} {e j : Nat} (h : Ev te σ H (.ref p)) (ha : Ev ta σ H (.int (e : Int))) (hs : SqL K H p (nv l)) (hj : l[j]? = some e) (hn : l.Nodup) : Ev (tBM K "list" (rIndex K) te (tCons ta tNil)) σ H (.int ((j : Nat) : Int)) := fun H1 e1 Q q =>
  h H1 e1 _ fun H2 e2 => ⟨.inl ⟨rfl, _, ex_l (e1.trans e2) hs⟩, ha H2 (e1.trans e2) _ fun H3 e3 => by
    have hl : j < l.length := (List.getElem?_eq_some_iff.mp hj).1
    refine ⟨p, nv l, .int (e : Int), j, .int (e : Int), rfl, rfl, ex_l ((e1.trans e2).trans e3) hs, rfl, flat_nv l, ?_, ?_, fun m z' hm hz => ?_, q H3 (e2.trans e3)⟩
    · rw [nv_get hl, List.getD_eq_getElem?_getD, hj]
      rfl
    · show ((e : Int) == (e : Int)) = true
      exact beq_self_eq_true _
    · have hml : m < l.length := by omega
      rw [nv_get hml] at hz
      cases hz
      show (((l.getD m 0 : Nat) : Int) == (e : Int)) = false
      refine beq_eq_false_iff_ne.mpr fun z => ?_
      have z2 : l.getD m 0 = e := by omega
      have g1 : l[m] = e := by
        rw [← z2, List.getD_eq_getElem?_getD, List.getElem?_eq_getElem hml]
        rfl
      have g2 : l[j] = e := (List.getElem?_eq_some_iff.mp hj).2
      exact List.pairwise_iff_getElem.mp hn m j hml hl hm (g1.trans g2.symm)⟩
theorem rc_abs {i : Int} : RC rAbs [.int i] H (.int (if i < 0 then -i else i)) := fun H1 e Q q => ⟨i, rfl, q H1 (Ex.refl _)⟩
theorem rc_max {p : Addr} {s : List Int} {m : Int} (h : SqL K H p (s.map V.int)) (hm : m ∈ s) (hx : ∀ y ∈ s, y ≤ m) : RC (rMax K) [.ref p] H (.int m) := fun H1 e Q q =>
  ⟨p, s, rfl, ex_l e h, List.length_pos_of_mem hm, fun m' h1 h2 => by
    rw [show m' = m from Int.le_antisymm (hx _ h1) (h2 _ hm)]
    exact q H1 (Ex.refl _)⟩
theorem rc_min {p : Addr} {s : List Int} {m : Int} (h : SqL K H p (s.map V.int)) (hm : m ∈ s) (hx : ∀ y ∈ s, m ≤ y) : RC (rMin K) [.ref p] H (.int m) := fun H1 e Q q =>
  ⟨p, s, rfl, ex_l e h, List.length_pos_of_mem hm, fun m' h1 h2 => by
    rw [show m' = m from Int.le_antisymm (h2 _ hm) (hx _ h1)]
    exact q H1 (Ex.refl _)⟩
theorem max_of : ∀ {s : List Int}, 1 ≤ s.length → ∃ m ∈ s, ∀ y ∈ s, y ≤ m
  | [x], _ => ⟨x, by simp, by simp⟩
  | x :: y :: s, _ => by
    obtain ⟨m, h1, h2⟩ := max_of (s := y :: s) (by simp)
    by_cases c : x ≤ m
    · exact ⟨m, List.mem_cons_of_mem _ h1, fun z hz => by
        rcases List.mem_cons.mp hz with rfl | hz
        · exact c
        · exact h2 z hz⟩
    · exact ⟨x, List.mem_cons_self, fun z hz => by
        rcases List.mem_cons.mp hz with rfl | hz
        · exact Int.le_refl _
        · have := h2 z hz
          omega⟩
theorem min_of : ∀ {s : List Int}, 1 ≤ s.length → ∃ m ∈ s, ∀ y ∈ s, m ≤ y
  | [x], _ => ⟨x, by simp, by simp⟩
  | x :: y :: s, _ => by
    obtain ⟨m, h1, h2⟩ := min_of (s := y :: s) (by simp)
    by_cases c : m ≤ x
    · exact ⟨m, List.mem_cons_of_mem _ h1, fun z hz => by
        rcases List.mem_cons.mp hz with rfl | hz
        · exact c
        · exact h2 z hz⟩
    · exact ⟨x, List.mem_cons_self, fun z hz => by
        rcases List.mem_cons.mp hz with rfl | hz
        · exact Int.le_refl _
        · have := h2 z hz
          omega⟩
/-- a test within a test, that fails or is not asked -/
theorem q_when2 {t u : TT} {v tz : TS} {D : Ends} {b : Bool} (h : EvT t σ H b) (h1 : b = true → EvT u σ H false) (k : ∀ H1, Ex H H1 → tz D σ H1) : tSeq (tIfS t (tIfS u v tNext) tNext) tz D σ H :=
  q_when h (fun hb H1 e1 => s_when (D := { D with nx := tz D }) ((h1 hb).mono e1) (fun z => by cases z) fun _ H2 e2 => k H2 (e1.trans e2)) fun _ H1 e1 => k H1 e1
theorem el_sorted {te : TE} {p : Addr} {l : List Nat} {n : Nat} (h : Ev te σ H (.ref p)) (hs : SqL K H p (nv l)) (hn : n ≤ 28) (pm : l.Perm (List.range n)) : EvL (tCB (rSorted K) (tCons te tNil)) σ H (nv (List.range n)) :=
  el_cb (ea_cons h ea_nil) fun H1 e Q q => ⟨p, _, rfl, (by rw [← nv_int]; exact ex_l e hs), (by rw [List.length_map, pm.length_eq, List.length_range]; omega), fun ns' r p1 p2 hr => by
    refine q r _ hr (Ex.new hr) ?_
    rw [upd_same, sort_range pm p1 p2, ← nv_int]⟩
/-- settled_order with a written order -/
theorem el_settledL {i : Nat} {td te : TE} {d : Int} {s : List Int} {o : List Nat} {sa : Addr} (hd : Ev td σ H (.int d)) (hi : σ[i]? = some (some (.ref sa))) (hs : SqL K H sa (s.map V.int)) (h : EvL te σ H (nv o)) (d1 : 1 ≤ d) (l1 : 1 ≤ s.length) (l2 : s.length ≤ 28) (pm : o.Perm (List.range s.length)) :
    EvL (tCall (sp_settled_order K) [] E0 (tCons td (tCons (tVar i) (tCons te tNil)))) σ H (nv (settledL d s o)) := fun H1 e Q q =>
  hd H1 e _ fun H1' e1' => ⟨.ref sa, hi, h H1' (e.trans e1') _ fun p H2 np e2 hp => sl_settled_order ⟨d1, ex_l ((e.trans e1').trans e2) hs, SqL.of hp, l1, l2, pm⟩ H2 (Ex.refl _) Q (fun p' H3 n3 e3 h3 => q p' H3 (fresh_back (e1'.trans e2) n3) ((e1'.trans e2).trans e3) h3) E0⟩
/-- .. with written scores -/
theorem el_settledS {td ts : TE} {te : TE} {d : Int} {s : List Int} {o : List Nat} (hd : Ev td σ H (.int d)) (hs : EvL ts σ H (s.map V.int)) (h : EvL te σ H (nv o)) (d1 : 1 ≤ d) (l1 : 1 ≤ s.length) (l2 : s.length ≤ 28) (pm : o.Perm (List.range s.length)) :
    EvL (tCall (sp_settled_order K) [] E0 (tCons td (tCons ts (tCons te tNil)))) σ H (nv (settledL d s o)) := fun H1 e Q q =>
  hd H1 e _ fun H1' e1' => hs H1' (e.trans e1') _ fun sa H2 ns e2 hs => h H2 ((e.trans e1').trans e2) _ fun p H3 np e3 hp => sl_settled_order ⟨d1, SqL.of (e3 _ _ hs), SqL.of hp, l1, l2, pm⟩ H3 (Ex.refl _) Q (fun p' H4 n4 e4 h4 => q p' H4 (fresh_back ((e1'.trans e2).trans e3) n4) (((e1'.trans e2).trans e3).trans e4) h4) E0
/-! rows -/
/-- the items are triples -/
def Trips (H : Hp) : List V → List T3 → Prop
  | [], [] => True
  | x :: xs, z :: zs => (∃ t, x = V.ref t ∧ H t = some (.tup [.int z.1, .int z.2.1, .int z.2.2])) ∧ Trips H xs zs
  | _, _ => False
theorem Trips.map {H H' : Hp} (f : ∀ t (z : T3), H t = some (.tup [.int z.1, .int z.2.1, .int z.2.2]) → H' t = some (.tup [.int z.1, .int z.2.1, .int z.2.2])) : ∀ {xs : List V} {zs : List T3}, Trips H xs zs → Trips H' xs zs
  | [], [], _ => trivial
  | x :: xs, z :: zs, ⟨⟨t, e, h⟩, r⟩ => ⟨⟨t, e, f t z h⟩, r.map f⟩
theorem Trips.len : ∀ {xs : List V} {zs : List T3}, Trips H xs zs → xs.length = zs.length
  | [], [], _ => rfl
  | x :: xs, z :: zs, ⟨_, r⟩ => by rw [List.length_cons, List.length_cons, r.len]
theorem Trips.snoc {t : Addr} {w : T3} (h : H t = some (.tup [.int w.1, .int w.2.1, .int w.2.2])) : ∀ {xs : List V} {zs : List T3}, Trips H xs zs → Trips H (xs ++ [.ref t]) (zs ++ [w])
  | [], [], _ => ⟨⟨t, rfl, h⟩, trivial⟩
  | x :: xs, z :: zs, ⟨a, r⟩ => ⟨a, r.snoc h⟩
theorem Trips.get : ∀ {xs : List V} {zs : List T3} {i : Nat} {x : V}, Trips H xs zs → xs[i]? = some x → ∃ t z, x = .ref t ∧ zs[i]? = some z ∧ H t = some (.tup [.int z.1, .int z.2.1, .int z.2.2])
  | x :: xs, z :: zs, 0, y, ⟨⟨t, e, h⟩, _⟩, hi => by
    have : x = y := by simpa using hi
    subst this
    exact ⟨t, z, e, rfl, h⟩
  | x :: xs, z :: zs, i + 1, y, ⟨_, r⟩, hi => r.get (i := i) (by simpa using hi)
/-- the key of an item -/
def kOf (H : Hp) : V → T3
  | .ref t => match H t with
    | some (.tup [.int a, .int b, .int c]) => (a, b, c)
    | _ => (0, 0, 0)
  | _ => (0, 0, 0)
theorem kOf_at {t : Addr} {z : T3} (h : H t = some (.tup [.int z.1, .int z.2.1, .int z.2.2])) : kOf H (.ref t) = z := by
  simp only [kOf, h]
theorem Trips.keys : ∀ {xs : List V} {zs : List T3}, Trips H xs zs → xs.map (kOf H) = zs
  | [], [], _ => rfl
  | x :: xs, z :: zs, ⟨⟨t, e, h⟩, r⟩ => by
    rw [List.map_cons, r.keys, e, kOf_at h]
theorem Trips.all {xs : List V} {zs : List T3} (h : Trips H xs zs) : ∀ x ∈ xs, ∃ t, x = V.ref t ∧ H t = some (.tup [.int (kOf H x).1, .int (kOf H x).2.1, .int (kOf H x).2.2]) := fun x hx => by
  obtain ⟨i, hi⟩ := List.mem_iff_getElem?.mp hx
  obtain ⟨t, z, rfl, _, ht⟩ := h.get hi
  exact ⟨t, rfl, by rw [kOf_at ht]; exact ht⟩
theorem trips_of : ∀ {xs : List V}, (∀ x ∈ xs, ∃ t, x = V.ref t ∧ H t = some (.tup [.int (kOf H x).1, .int (kOf H x).2.1, .int (kOf H x).2.2])) → Trips H xs (xs.map (kOf H))
  | [], _ => trivial
  | x :: xs, h => ⟨h x List.mem_cons_self, trips_of fun y hy => h y (List.mem_cons_of_mem _ hy)⟩
theorem Trips.ex {xs : List V} {zs : List T3} (h : Trips H xs zs) (e : Ex H H') : Trips H' xs zs := h.map fun t z q => e _ _ q
theorem Trips.kx {a : Addr} {B : Nat} {xs : List V} {zs : List T3} (h : Trips H xs zs) (S : Src H a B) (e : Kx a H H') : Trips H' xs zs := h.map fun t z q => e _ _ (fun z => by
  subst z
  obtain ⟨_, _, _, h, _⟩ := S
  rw [h] at q
  cases q) q
theorem rows_nv {s : List Int} {o : List Nat} (hn : o.Nodup) {zs : List T3} (p : zs.Perm (tri s o)) (h : SrtO.Srtd lexT zs) : zs.map (fun z => V.int z.2.2) = nv (settledL 1 s o) := by
  rw [← rows_settled hn p h]
  unfold nv
  rw [List.map_map]
  exact List.map_congr_left fun z hz => by
    show V.int z.2.2 = V.int ((thd z : Nat) : Int)
    rw [← rows_third p z hz]
/-- a column of rows -/
theorem el_third {i j : Nat} {vs : List Nat} {R : Addr} {ys : List V} {zs : List T3} (hi : σ[i]? = some (some (.ref R))) (hR : SqL K H R ys) (T : Trips H ys zs) (hz : ys.length ≤ 1000) (hw : ∀ x, wipe ((wipe σ vs).set j (some x)) vs = wipe σ vs) (hj : ∀ x, ((wipe σ vs).set j (some x))[j]? = some (some x)) :
    EvL (tLc (iList K (tVar i)) (gName j) tYes (tOp (rIxT K) (tVar j) (tC (.int 2))) vs) σ H (zs.map fun z => V.int z.2.2) := by
  have key := el_lcL (H := H) (σ := σ) (tl := tVar i) (j := j) (vs := vs) (t := tYes) (te := tOp (rIxT K) (tVar j) (tC (.int 2))) (fun _ => true) (fun n => V.int (zs.getD n (0, 0, 0)).2.2) (ev_var hi) hR (by omega) hw
    (fun n x H1 e hx => fun H2 e2 Q q => q H2 (Ex.refl _))
    (fun n x H1 e hx _ => by
      obtain ⟨t, z, rfl, hz, ht⟩ := T.get hx
      refine ev_is (ev_op (ev_var (hj _)) ev_c (rv_ixT (xs := [.int z.1, .int z.2.1, .int z.2.2]) (v := .int z.2.2) (st_of (e _ _ ht)) rfl)) ?_
      rw [List.getD_eq_getElem?_getD, hz]
      rfl)
  have e : given ys.length (fun _ => true) (fun n => V.int (zs.getD n (0, 0, 0)).2.2) = zs.map fun z => V.int z.2.2 := by
    rw [given_all, T.len]
    refine List.ext_getElem? fun n => ?_
    rw [List.getElem?_map, List.getElem?_map]
    by_cases hn : n < zs.length
    · rw [List.getElem?_range hn, List.getElem?_eq_getElem hn]
      show some (V.int (zs.getD n (0, 0, 0)).2.2) = some (V.int zs[n].2.2)
      rw [List.getD_eq_getElem?_getD, List.getElem?_eq_getElem hn]
      rfl
    · rw [List.getElem?_eq_none (by rw [List.length_range]; omega), List.getElem?_eq_none (by omega)]
      rfl
  rw [e] at key
  exact key
end
end Lb

/-! law k15: groups -/
namespace Lb
open PySem PySem.Spec PyProof.Rows L2 Evl
section
variable {K : PySem.W.Frag} {H H' : Hp} {Q : VK} {E : XK} {σ : L2.St}
/-! pairs of ints -/
def Prs (H : Hp) : List V → List (Int × Int) → Prop
  | [], [] => True
  | x :: xs, z :: zs => (∃ t, x = V.ref t ∧ H t = some (.tup [.int z.1, .int z.2])) ∧ Prs H xs zs
  | _, _ => False
theorem Prs.map {H H' : Hp} (f : ∀ t (z : Int × Int), H t = some (.tup [.int z.1, .int z.2]) → H' t = some (.tup [.int z.1, .int z.2])) : ∀ {xs : List V} {zs : List (Int × Int)}, Prs H xs zs → Prs H' xs zs
  | [], [], _ => trivial
  | x :: xs, z :: zs, ⟨⟨t, e, h⟩, r⟩ => ⟨⟨t, e, f t z h⟩, r.map f⟩
theorem Prs.len : ∀ {xs : List V} {zs : List (Int × Int)}, Prs H xs zs → xs.length = zs.length
  | [], [], _ => rfl
  | x :: xs, z :: zs, ⟨_, r⟩ => by rw [List.length_cons, List.length_cons, r.len]
theorem Prs.snoc {t : Addr} {w : Int × Int} (h : H t = some (.tup [.int w.1, .int w.2])) : ∀ {xs : List V} {zs : List (Int × Int)}, Prs H xs zs → Prs H (xs ++ [.ref t]) (zs ++ [w])
  | [], [], _ => ⟨⟨t, rfl, h⟩, trivial⟩
  | x :: xs, z :: zs, ⟨a, r⟩ => ⟨a, r.snoc h⟩
theorem Prs.get : ∀ {xs : List V} {zs : List (Int × Int)} {i : Nat} {x : V}, Prs H xs zs → xs[i]? = some x → ∃ t z, x = .ref t ∧ zs[i]? = some z ∧ H t = some (.tup [.int z.1, .int z.2])
  | x :: xs, z :: zs, 0, y, ⟨⟨t, e, h⟩, _⟩, hi => by
    have : x = y := by simpa using hi
    subst this
    exact ⟨t, z, e, rfl, h⟩
  | x :: xs, z :: zs, i + 1, y, ⟨_, r⟩, hi => r.get (i := i) (by simpa using hi)
def kP (H : Hp) : V → Int × Int
  | .ref t => match H t with
    | some (.tup [.int a, .int b]) => (a, b)
    | _ => (0, 0)
  | _ => (0, 0)
theorem kP_at {t : Addr} {z : Int × Int} (h : H t = some (.tup [.int z.1, .int z.2])) : kP H (.ref t) = z := by
  simp only [kP, h]
theorem Prs.keys : ∀ {xs : List V} {zs : List (Int × Int)}, Prs H xs zs → xs.map (kP H) = zs
  | [], [], _ => rfl
  | x :: xs, z :: zs, ⟨⟨t, e, h⟩, r⟩ => by
    rw [List.map_cons, r.keys, e, kP_at h]
theorem Prs.all {xs : List V} {zs : List (Int × Int)} (h : Prs H xs zs) : ∀ x ∈ xs, ∃ t, x = V.ref t ∧ H t = some (.tup [.int (kP H x).1, .int (kP H x).2]) := fun x hx => by
  obtain ⟨i, hi⟩ := List.mem_iff_getElem?.mp hx
  obtain ⟨t, z, rfl, _, ht⟩ := h.get hi
  exact ⟨t, rfl, by rw [kP_at ht]; exact ht⟩
theorem prs_of : ∀ {xs : List V}, (∀ x ∈ xs, ∃ t, x = V.ref t ∧ H t = some (.tup [.int (kP H x).1, .int (kP H x).2])) → Prs H xs (xs.map (kP H))
  | [], _ => trivial
  | x :: xs, h => ⟨h x List.mem_cons_self, prs_of fun y hy => h y (List.mem_cons_of_mem _ hy)⟩
theorem Prs.ex {xs : List V} {zs : List (Int × Int)} (h : Prs H xs zs) (e : Ex H H') : Prs H' xs zs := h.map fun t z q => e _ _ q
/-- .. but at a list -/
theorem Prs.upd {D : Addr} {u : List V} {o : HO} {xs : List V} {zs : List (Int × Int)} (h : Prs H xs zs) (hD : H D = some (.lst u)) : Prs (upd H D o) xs zs := h.map fun t z q => by
  rw [upd_ne (fun e => by subst e; rw [hD] at q; cases q)]
  exact q
theorem Prs.kx {P : Addr} {u : List V} {xs : List V} {zs : List (Int × Int)} (h : Prs H xs zs) (hP : H P = some (.lst u)) (e : Kx P H H') : Prs H' xs zs := h.map fun t z q => e _ _ (fun e => by subst e; rw [hP] at q; cases q) q
/-- the row k -/
theorem row_at {ys : List V} {s : List Int} {z : List Nat} {k : Nat} (T : Prs H ys (z.map (kk s))) (h : k < z.length) : ∃ t, ys[k]? = some (.ref t) ∧ H t = some (.tup [.int (0 - sc s (z.getD k 0)), .int ((z.getD k 0 : Nat) : Int)]) := by
  have hl := T.len
  rw [List.length_map] at hl
  obtain ⟨t, w, e, hw, ht⟩ := T.get (List.getElem?_eq_getElem (show k < ys.length by omega))
  rw [List.getElem?_map, List.getElem?_eq_getElem h] at hw
  cases hw
  refine ⟨t, by rw [List.getElem?_eq_getElem (show k < ys.length by omega), e], ?_⟩
  rw [List.getD_eq_getElem?_getD, List.getElem?_eq_getElem h]
  exact ht
/-! groups: lists of their own -/
def Grps (H : Hp) (P : Addr) : List V → List (List Nat) → Prop
  | [], [] => True
  | x :: xs, g :: gs => (∃ t, x = V.ref t ∧ t ≠ P ∧ H t = some (.lst (nv g))) ∧ Grps H P xs gs
  | _, _ => False
theorem Grps.map {P P' : Addr} {H H' : Hp} (f : ∀ t g, t ≠ P → H t = some (.lst (nv g)) → t ≠ P' ∧ H' t = some (.lst (nv g))) : ∀ {xs : List V} {gs : List (List Nat)}, Grps H P xs gs → Grps H' P' xs gs
  | [], [], _ => trivial
  | x :: xs, g :: gs, ⟨⟨t, e, n, h⟩, r⟩ => ⟨⟨t, e, f t g n h⟩, r.map f⟩
theorem Grps.kx {P : Addr} {xs : List V} {gs : List (List Nat)} (h : Grps H P xs gs) (e : Kx P H H') : Grps H' P xs gs := h.map fun t g n q => ⟨n, e _ _ n q⟩
theorem Grps.snoc {P t : Addr} {w : List Nat} (n : t ≠ P) (h : H t = some (.lst (nv w))) : ∀ {xs : List V} {gs : List (List Nat)}, Grps H P xs gs → Grps H P (xs ++ [.ref t]) (gs ++ [w])
  | [], [], _ => ⟨⟨t, rfl, n, h⟩, trivial⟩
  | x :: xs, z :: zs, ⟨a, r⟩ => ⟨a, r.snoc n h⟩
theorem Grps.get {P : Addr} : ∀ {xs : List V} {gs : List (List Nat)} {i : Nat} {x : V}, Grps H P xs gs → xs[i]? = some x → ∃ t g, x = .ref t ∧ t ≠ P ∧ gs[i]? = some g ∧ H t = some (.lst (nv g))
  | x :: xs, z :: zs, 0, y, ⟨⟨t, e, n, h⟩, _⟩, hi => by
    have : x = y := by simpa using hi
    subst this
    exact ⟨t, z, e, n, rfl, h⟩
  | x :: xs, z :: zs, i + 1, y, ⟨_, r⟩, hi => r.get (i := i) (by simpa using hi)
theorem Grps.len {P : Addr} : ∀ {xs : List V} {gs : List (List Nat)}, Grps H P xs gs → xs.length = gs.length
  | [], [], _ => rfl
  | x :: xs, z :: zs, ⟨_, r⟩ => by rw [List.length_cons, List.length_cons, r.len]
/-! comprehensions over a list -/
theorem el_mapS {i j : Nat} {vs : List Nat} {te : TE} {A : Addr} {s : List Int} (f : Int → Int) (hi : σ[i]? = some (some (.ref A))) (hs : SqL K H A (s.map V.int)) (hz : s.length ≤ 1000) (hw : ∀ x, wipe ((wipe σ vs).set j (some x)) vs = wipe σ vs)
    (he : ∀ x ∈ s, ∀ H1, Ex H H1 → Ev te ((wipe σ vs).set j (some (.int x))) H1 (.int (f x))) : EvL (tLc (iList K (tVar i)) (gName j) tYes te vs) σ H ((s.map f).map V.int) := by
  have key := el_lcL (H := H) (σ := σ) (tl := tVar i) (j := j) (vs := vs) (t := tYes) (te := te) (fun _ => true) (fun n => V.int (f (s.getD n 0))) (ev_var hi) hs (by rw [List.length_map]; omega) hw
    (fun n x H1 e hx => fun H2 e2 Q q => q H2 (Ex.refl _))
    (fun n x H1 e hx _ => by
      rw [List.getElem?_map] at hx
      cases hn : s[n]? with
      | none => rw [hn] at hx; cases hx
      | some y =>
        rw [hn] at hx
        cases hx
        rw [List.getD_eq_getElem?_getD, hn]
        exact he y (List.mem_of_getElem? hn) H1 e)
  have e : given (s.map V.int).length (fun _ => true) (fun n => V.int (f (s.getD n 0))) = (s.map f).map V.int := by
    rw [given_all, List.length_map]
    refine List.ext_getElem? fun n => ?_
    rw [List.getElem?_map, List.getElem?_map, List.getElem?_map]
    by_cases hn : n < s.length
    · rw [List.getElem?_range hn, List.getElem?_eq_getElem hn]
      show some (V.int (f (s.getD n 0))) = some (V.int (f s[n]))
      rw [List.getD_eq_getElem?_getD, List.getElem?_eq_getElem hn]
      rfl
    · rw [List.getElem?_eq_none (by rw [List.length_range]; omega), List.getElem?_eq_none (by omega)]
      rfl
  rw [e] at key
  exact key
theorem given_mapN {l : List Nat} (f : Nat → Nat) : given (nv l).length (fun _ => true) (fun n => V.int ((f (l.getD n 0) : Nat) : Int)) = nv (l.map f) := by
  rw [given_all, nv_len]
  unfold nv
  refine List.ext_getElem? fun n => ?_
  rw [List.getElem?_map, List.getElem?_map, List.getElem?_map]
  by_cases hn : n < l.length
  · rw [List.getElem?_range hn, List.getElem?_eq_getElem hn]
    show some (V.int ((f (l.getD n 0) : Nat) : Int)) = some (V.int ((f l[n] : Nat) : Int))
    rw [List.getD_eq_getElem?_getD, List.getElem?_eq_getElem hn]
    rfl
  · rw [List.getElem?_eq_none (by rw [List.length_range]; omega), List.getElem?_eq_none (by omega)]
    rfl
theorem el_mapN {i j : Nat} {vs : List Nat} {te : TE} {A : Addr} {l : List Nat} (f : Nat → Nat) (hi : σ[i]? = some (some (.ref A))) (hs : SqL K H A (nv l)) (hz : l.length ≤ 1000) (hw : ∀ x, wipe ((wipe σ vs).set j (some x)) vs = wipe σ vs)
    (he : ∀ x ∈ l, ∀ H1, Ex H H1 → Ev te ((wipe σ vs).set j (some (.int (x : Int)))) H1 (.int ((f x : Nat) : Int))) : EvL (tLc (iList K (tVar i)) (gName j) tYes te vs) σ H (nv (l.map f)) := by
  have key := el_lcL (H := H) (σ := σ) (tl := tVar i) (j := j) (vs := vs) (t := tYes) (te := te) (fun _ => true) (fun n => V.int ((f (l.getD n 0) : Nat) : Int)) (ev_var hi) hs (by rw [nv_len]; omega) hw
    (fun n x H1 e hx => fun H2 e2 Q q => q H2 (Ex.refl _))
    (fun n x H1 e hx _ => by
      have hn : n < l.length := by
        have := (List.getElem?_eq_some_iff.mp hx).1
        rwa [nv_len] at this
      rw [nv_get hn] at hx
      cases hx
      exact he _ (getD_mem hn) H1 e)
  rw [given_mapN] at key
  exact key
/-- .. a list of numbers of entries -/
theorem el_mapI {i j : Nat} {vs : List Nat} {te : TE} {A : Addr} {l : List Nat} (f : Nat → Int) (hi : σ[i]? = some (some (.ref A))) (hs : SqL K H A (nv l)) (hz : l.length ≤ 1000) (hw : ∀ x, wipe ((wipe σ vs).set j (some x)) vs = wipe σ vs)
    (he : ∀ x ∈ l, ∀ H1, Ex H H1 → Ev te ((wipe σ vs).set j (some (.int (x : Int)))) H1 (.int (f x))) : EvL (tLc (iList K (tVar i)) (gName j) tYes te vs) σ H ((l.map f).map V.int) := by
  have key := el_lcL (H := H) (σ := σ) (tl := tVar i) (j := j) (vs := vs) (t := tYes) (te := te) (fun _ => true) (fun n => V.int (f (l.getD n 0))) (ev_var hi) hs (by rw [nv_len]; omega) hw
    (fun n x H1 e hx => fun H2 e2 Q q => q H2 (Ex.refl _))
    (fun n x H1 e hx _ => by
      have hn : n < l.length := by
        have := (List.getElem?_eq_some_iff.mp hx).1
        rwa [nv_len] at this
      rw [nv_get hn] at hx
      cases hx
      exact he _ (getD_mem hn) H1 e)
  have e : given (nv l).length (fun _ => true) (fun n => V.int (f (l.getD n 0))) = (l.map f).map V.int := by
    rw [given_all, nv_len]
    refine List.ext_getElem? fun n => ?_
    rw [List.getElem?_map, List.getElem?_map, List.getElem?_map]
    by_cases hn : n < l.length
    · rw [List.getElem?_range hn, List.getElem?_eq_getElem hn]
      show some (V.int (f (l.getD n 0))) = some (V.int (f l[n]))
      rw [List.getD_eq_getElem?_getD, List.getElem?_eq_getElem hn]
      rfl
    · rw [List.getElem?_eq_none (by rw [List.length_range]; omega), List.getElem?_eq_none (by omega)]
      rfl
  rw [e] at key
  exact key
/-- .. over a new list -/
theorem el_mapNN {tl : TE} {j : Nat} {vs : List Nat} {te : TE} {l : List Nat} (f : Nat → Nat) (h : EvL tl σ H (nv l)) (hz : l.length ≤ 1000) (hw : ∀ x, wipe ((wipe σ vs).set j (some x)) vs = wipe σ vs)
    (he : ∀ x ∈ l, ∀ H1, Ex H H1 → Ev te ((wipe σ vs).set j (some (.int (x : Int)))) H1 (.int ((f x : Nat) : Int))) : EvL (tLc (iList K tl) (gName j) tYes te vs) σ H (nv (l.map f)) := by
  have key := el_lcNL (K := K) (H := H) (σ := σ) (tl := tl) (j := j) (vs := vs) (t := tYes) (te := te) (fun _ => true) (fun n => V.int ((f (l.getD n 0) : Nat) : Int)) h (by rw [nv_len]; omega) hw
    (fun n x H1 e hx => fun H2 e2 Q q => q H2 (Ex.refl _))
    (fun n x H1 e hx _ => by
      have hn : n < l.length := by
        have := (List.getElem?_eq_some_iff.mp hx).1
        rwa [nv_len] at this
      rw [nv_get hn] at hx
      cases hx
      exact he _ (getD_mem hn) H1 e)
  rw [given_mapN] at key
  exact key
theorem getD_range (l : List Nat) : (List.range l.length).map (fun n => l.getD n 0) = l := by
  refine List.ext_getElem? fun n => ?_
  rw [List.getElem?_map]
  by_cases hn : n < l.length
  · rw [List.getElem?_range hn, List.getElem?_eq_getElem hn]
    show some (l.getD n 0) = some l[n]
    rw [List.getD_eq_getElem?_getD, List.getElem?_eq_getElem hn]
    rfl
  · rw [List.getElem?_eq_none (by rw [List.length_range]; omega), List.getElem?_eq_none (by omega)]
    rfl
theorem nodup_inj {l : List Nat} (hn : l.Nodup) {a b : Nat} (ha : a < l.length) (hb : b < l.length) (e : l.getD a 0 = l.getD b 0) : a = b := by
  have ga : ∀ {k : Nat} (h : k < l.length), l.getD k 0 = l[k] := fun {k} h => by
    rw [List.getD_eq_getElem?_getD, List.getElem?_eq_getElem h]
    rfl
  rw [ga ha, ga hb] at e
  have p := List.pairwise_iff_getElem.mp hn
  rcases Nat.lt_trichotomy a b with q | q | q
  · exact absurd e (p a b ha hb q)
  · exact q
  · exact absurd e.symm (p b a hb ha q)
theorem filter_getD (p : Nat → Bool) : ∀ l : List Nat, ((List.range l.length).filter fun n => p (l.getD n 0)).map (fun n => l.getD n 0) = l.filter p := fun l => by
  have h1 : (List.range l.length).map (fun n => l.getD n 0) = l := by
    refine List.ext_getElem? fun n => ?_
    rw [List.getElem?_map]
    by_cases hn : n < l.length
    · rw [List.getElem?_range hn, List.getElem?_eq_getElem hn]
      show some (l.getD n 0) = some l[n]
      rw [List.getD_eq_getElem?_getD, List.getElem?_eq_getElem hn]
      rfl
    · rw [List.getElem?_eq_none (by rw [List.length_range]; omega), List.getElem?_eq_none (by omega)]
      rfl
  conv => rhs; rw [← h1]
  rw [List.filter_map]
  rfl
/-- the entries of a list that stand in another one -/
theorem el_inside {i j k : Nat} {vs : List Nat} {A C : Addr} {l g : List Nat} (hi : σ[i]? = some (some (.ref A))) (hs : SqL K H A (nv l)) (hC : SqL K H C (nv g)) (hz : l.length ≤ 1000) (hw : ∀ x, wipe ((wipe σ vs).set j (some x)) vs = wipe σ vs)
    (hj : ∀ x, ((wipe σ vs).set j (some x))[j]? = some (some x)) (hk : ∀ x, ((wipe σ vs).set j (some x))[k]? = some (some (.ref C))) :
    EvL (tLc (iList K (tVar i)) (gName j) (tTest (tOp (rIn K false) (tVar j) (tVar k))) (tVar j) vs) σ H (nv (l.filter fun e => decide (e ∈ g))) := by
  have key := el_lcL (H := H) (σ := σ) (tl := tVar i) (j := j) (vs := vs) (t := tTest (tOp (rIn K false) (tVar j) (tVar k))) (te := tVar j) (fun n => decide (l.getD n 0 ∈ g)) (fun n => V.int ((l.getD n 0 : Nat) : Int)) (ev_var hi) hs (by rw [nv_len]; omega) hw
    (fun n x H1 e hx => by
      have hn : n < l.length := by
        have := (List.getElem?_eq_some_iff.mp hx).1
        rwa [nv_len] at this
      rw [nv_get hn] at hx
      cases hx
      refine et_is (et_test (ev_op (ev_var (hj _)) (ev_var (hk _)) (rv_isL (ex_l e hC) rfl (flat_nv g)))) ?_
      rw [inV_nv])
    (fun n x H1 e hx _ => by
      have hn : n < l.length := by
        have := (List.getElem?_eq_some_iff.mp hx).1
        rwa [nv_len] at this
      rw [nv_get hn] at hx
      cases hx
      exact ev_var (hj _))
  have e : given (nv l).length (fun n => decide (l.getD n 0 ∈ g)) (fun n => V.int ((l.getD n 0 : Nat) : Int)) = nv (l.filter fun e => decide (e ∈ g)) := by
    rw [← filter_getD (fun e => decide (e ∈ g)) l]
    unfold given nv
    rw [List.map_map, List.length_map]
    rfl
  rw [e] at key
  exact key
theorem cat_fin {D : Ends} {C t : Addr} {g : List Nat} {x : Nat} {w : Int} (h6 : σ[6]? = some (some (.ref C))) (h8 : σ[8]? = some (some (.ref t))) (hC : H C = some (.lst (nv g))) (ht : H t = some (.tup [.int w, .int (x : Int)])) (hz : g.length ≤ 1000)
    (k : ∀ C' H', H C' = none → Ex H H' → H' C' = some (.lst (nv (g ++ [x]))) → D.nx (σ.set 6 (some (.ref C'))) H') : tAsg (tOp (rCatP K) (tVar 6) (tLst (tCons (tOp (rIxT K) (tVar 8) (tC (.int 1))) tNil))) (gName 6) D σ H := by
  refine ⟨_, h6, ?_⟩
  refine el_lst (ea_cons (ev_op (ev_var h8) (ev_c (v := .int 1)) (rv_ixT (v := .int (x : Int)) (SqT.of ht) rfl)) ea_nil) (by simp) H (Ex.refl _) _ fun q H2 nq e2 hq => ?_
  refine ⟨C, q, _, _, rfl, rfl, SqP.of (e2 _ _ hC), SqP.of hq, (by rw [nv_len]; exact Nat.le_trans (show g.length + 1 ≤ 1001 by omega) (by decide)), fun p np => ?_⟩
  refine k p _ (fresh_back e2 np) (e2.trans (Ex.new np)) ?_
  rw [upd_same, nv_app]
theorem cut_one (l : List V) : cutV l (some 1) none = l.drop 1 := by
  unfold cutV
  rw [HT.sIx_none, show (some (1 : Int)) = some (((1 : Nat)) : Int) from rfl, HT.sIx_nat]
  cases l with
  | nil => rfl
  | cons x l =>
    rw [Nat.min_eq_left (by simp), List.take_of_length_le (by simp)]
end
end Lb

/-! the order that is left by chains, as the laws find it -/
namespace Lb
open PySem PySem.Spec PyProof.Rows L2 Evl
section
variable {K : PySem.W.Frag} {H H' : Hp} {Q : VK} {E : XK} {σ : L2.St}
theorem Grps.at {P : Addr} {xs : List V} {gs : List (List Nat)} {k : Nat} (h : Grps H P xs gs) (hk : k < gs.length) : ∃ t, xs[k]? = some (.ref t) ∧ t ≠ P ∧ H t = some (.lst (nv (gs.getD k []))) := by
  have hl := h.len
  obtain ⟨t, g, e, n, hg, ht⟩ := h.get (List.getElem?_eq_getElem (show k < xs.length by omega))
  refine ⟨t, by rw [List.getElem?_eq_getElem (show k < xs.length by omega), e], n, ?_⟩
  rw [List.getD_eq_getElem?_getD, hg]
  exact ht
theorem nats_of {ks : List Int} {l : List Nat} (h : ∀ k, k ∈ ks → k ∈ l.map fun n : Nat => (n : Int)) : ks.map V.int = nv (ks.map Int.toNat) := by
  unfold nv
  rw [List.map_map]
  refine List.map_congr_left fun k hk => ?_
  obtain ⟨n, _, rfl⟩ := List.mem_map.mp (h k hk)
  rfl
def sp_left (K : PySem.W.Frag) : Sp := fun vs H Q _ => ∃ (sa oa : Addr) (d : Int) (s : List Int) (o : List Nat), vs = [.int d, .ref sa, .ref oa] ∧ Rk K H sa oa d s o ∧ RetL (nv (settledL d s o)) H Q
def t_left (K : PySem.W.Frag) : TS := tSeq (tAsg (tLst (tNil)) (gName 3)) (tSeq (tFor (iEnum K (tCons (tVar 2) (tNil))) (gTup K 2 (gCons (gName 4) (gCons (gName 5) (gNil)))) (tSeq (tAsg (tLst (tNil)) (gName 6)) (tSeq (tFor (iRng1 (tCons (tVar 4) (tNil))) (gName 7) (tIfS (tTest (tOp rLtI (tCB (rAbs) (tCons (tOp rSubI (tOp (rIxL K) (tVar 1) (tOp (rIxL K) (tVar 2) (tVar 7))) (tOp (rIxL K) (tVar 1) (tVar 5))) (tNil))) (tVar 0))) (tAsg (tOp (rCatP K) (tOp (rCatP K) (tVar 6) (tLst (tCons (tOp (rIxL K) (tVar 2) (tVar 7)) (tNil)))) (tOp (rIxL K) (tVar 3) (tVar 7))) (gName 6)) (tNext))) (tDrop (tBM K "list" (rAppend) (tVar 3) (tCons (tSortSet K 6) (tNil))))))) (tSeq (tAsg (tOp rRep (tLst (tCons (tC (.int 0)) (tNil))) (tCB (Evl.rLenS K) (tCons (tVar 2) (tNil)))) (gName 8)) (tSeq (tFor (iEnum K (tCons (tVar 2) (tNil))) (gTup K 2 (gCons (gName 4) (gCons (gName 5) (gNil)))) (tSeq (tAsg (tCB (Evl.rLenS K) (tCons (tOp (rIxL K) (tVar 3) (tVar 4)) (tNil))) (gName 9)) (tSeq (tFor (iEnum K (tCons (tVar 2) (tNil))) (gTup K 2 (gCons (gName 7) (gCons (gName 10) (gNil)))) (tIfS (tAnd (tTest (tOp (rIn K true) (tVar 10) (tOp (rIxL K) (tVar 3) (tVar 4)))) (tAnd (tTest (tOp (rIn K true) (tVar 5) (tOp (rIxL K) (tVar 3) (tVar 7)))) (tTest (tOp rGtI (tOp (rIxL K) (tVar 1) (tVar 10)) (tOp (rIxL K) (tVar 1) (tVar 5)))))) (tAsg (tOp rAddI (tVar 9) (tC (.int 1))) (gName 9)) (tNext))) (tAsg (tVar 5) (gSub (tVar 8) (tVar 9) rSetL))))) (tRet (tVar 8)))))
theorem r_left {vs : List V} (h : sp_left K vs H Q E) : t_left K { nx := fun _ H' => Q .non H', rt := Q } (start ["gap", "sums", "line", "above", "at", "one", "held", "to", "found", "many", "two"] vs) H := by
  obtain ⟨sa, oa, d, s, o, rfl, r, q⟩ := h
  have l1 := r.l1
  have l2 := r.l2
  have lo := r.len
  have d1 := r.d1
  have ndo := nd_of r.pm
  have lt : ∀ {k : Nat}, k < o.length → o.getD k 0 < s.length := fun {k} hk => r.lt _ (getD_mem hk)
  -- above
  refine q_asgL (el_lst ea_nil (Nat.zero_le _)) fun P H1 nP e1 hP => ?_
  refine ⟨_, rfl, oa, _, rfl, ex_l e1 r.ho, for_it (walk_enum (xs := nv o)) (fun i σ H' => (∃ v4 v5 v6 v7, σ = [some (.int d), some (.ref sa), some (.ref oa), some (.ref P), v4, v5, v6, v7, none, none, none]) ∧ Kx P H1 H' ∧ ∃ (xs : List V) (G : List (List Nat)), H' P = some (.lst xs) ∧ Grps H' P xs G ∧ Abs d s o G i)
    ⟨⟨_, _, _, _, rfl⟩, Kx.refl _ _, [], [], hP, trivial, ⟨rfl, fun k hk => absurd hk (by omega), fun k hk => absurd hk (by omega)⟩⟩ (fun i σ H' _ p => ?_) ?_ ?_⟩
  · have hx : Ex H H' := fun b u hu => p.2.1 _ _ (ne_of_none hu nP) (e1 _ _ hu)
    exact ex_l hx r.ho
  · rintro i x σ H2 H3 hi ⟨⟨v4, v5, v6, v7, rfl⟩, kx, xs, G, hP2, gr, ab⟩ ⟨T, x1, x2, rfl, nT, rfl, y1, y2⟩
    cases y1
    rw [nv_len] at hi
    replace y2 : (nv o)[i]? = some x2 := y2
    rw [nv_get hi] at y2
    cases y2
    have e3 : Ex H2 (upd H2 T (.tup [.int ((i : Nat) : Int), .int ((o.getD i 0 : Nat) : Int)])) := Ex.new nT
    refine ⟨T, _, rfl, SqT.of upd_same, rfl, _, _, rfl, _, _, rfl, rfl, ?_⟩
    generalize upd H2 T (.tup [.int ((i : Nat) : Int), .int ((o.getD i 0 : Nat) : Int)]) = H3 at e3
    dsimp only [gName, List.set]
    have ex2 : Ex H H2 := fun b u hu => kx _ _ (ne_of_none hu nP) (e1 _ _ hu)
    -- held
    refine q_asgL (el_lst ea_nil (Nat.zero_le _)) fun C0 H4 nC e4 hC => ?_
    dsimp only [List.set]
    have e24 := e3.trans e4
    refine q_forR1 (n := (i : Int)) (ea_cons (ev_var (i := 4) rfl) ea_nil) (by omega) (fun j σ H' => ∃ (C : Addr) (hl : List Nat) (v7 : Option V), σ = [some (.int d), some (.ref sa), some (.ref oa), some (.ref P), some (.int (i : Int)), some (.int ((o.getD i 0 : Nat) : Int)), some (.ref C), v7, none, none, none] ∧ Ex H4 H' ∧ H' C = some (.lst (nv hl)) ∧ hl.length ≤ 29 * j ∧
        ∀ x, x ∈ hl ↔ ∃ j', j' < j ∧ close d s (o.getD j' 0) (o.getD i 0) ∧ (x = o.getD j' 0 ∨ x ∈ G.getD j' []))
      (fun H5 e5 => ⟨C0, [], _, rfl, e5, e5 _ _ hC, Nat.zero_le _, fun x => ⟨fun h => absurd h (by simp), fun ⟨j', h, _⟩ => absurd h (by omega)⟩⟩) ?_ ?_
    · rintro j σ H5 hj ⟨C, hl, v7, rfl, e5, hC5, ll, mem⟩
      have hj : j < i := by omega
      have e25 := e24.trans e5
      have ex5 := ex2.trans e25
      obtain ⟨ta, ga, na, hta⟩ := gr.at (k := j) (by rw [ab.len]; exact hj)
      have hs5 := ex_l ex5 r.hs
      have ho5 := ex_l ex5 r.ho
      have gl : (G.getD j []).length ≤ 28 := by
        have := nodup_len (ab.nd j hj) (m := o) fun x hx => (((ab.mem j hj x).mp hx).mem).1
        omega
      have hjo : j < o.length := by omega
      dsimp only [List.set]
      refine s_if (b := decide ((if sc s (o.getD j 0) - sc s (o.getD i 0) < 0 then -(sc s (o.getD j 0) - sc s (o.getD i 0)) else sc s (o.getD j 0) - sc s (o.getD i 0)) < d)) (et_ltI (ev_cb (ea_cons (ev_sub (ev_ixS (ev_var (i := 1) rfl) (ev_ixN (ev_var (i := 2) rfl) (ev_var (i := 7) rfl) ho5 rfl hjo) hs5 rfl (lt hjo)) (ev_ixS (ev_var (i := 1) rfl) (ev_var (i := 5) rfl) hs5 rfl (lt hi))) ea_nil) rc_abs) (ev_var (i := 0) rfl)) (fun hb H6 e6 => ?_) (fun hb H6 e6 => ?_)
      · have hb := of_decide_eq_true hb
        have cl : close d s (o.getD j 0) (o.getD i 0) := by
          constructor
          · split at hb <;> omega
          · split at hb <;> omega
        -- held = held + [line[to]] + above[to]
        have e26 := e25.trans e6
        refine ⟨_, rfl, ?_⟩
        refine el_lst (σ := [some (.int d), some (.ref sa), some (.ref oa), some (.ref P), some (.int (i : Int)), some (.int ((o.getD i 0 : Nat) : Int)), some (.ref C), some (.int (j : Int)), none, none, none]) (ea_cons (ev_ixN (ev_var (i := 2) rfl) (ev_var (i := 7) rfl) (ex_l e6 ho5) rfl hjo) ea_nil) (by simp) H6 (Ex.refl _) _ fun N H7 nN e7 hN => ?_
        refine ⟨C, N, _, _, rfl, rfl, SqP.of (e7 _ _ (e6 _ _ hC5)), SqP.of hN, (by rw [nv_len]; exact Nat.le_trans (show hl.length + 1 ≤ 2000 by omega) (by decide)), fun M nM => ?_⟩
        have e8 : Ex H7 (upd H7 M (.lst (nv hl ++ [.int ((o.getD j 0 : Nat) : Int)]))) := Ex.new nM
        have hM : (upd H7 M (.lst (nv hl ++ [.int ((o.getD j 0 : Nat) : Int)]))) M = some (.lst (nv hl ++ [.int ((o.getD j 0 : Nat) : Int)])) := upd_same
        generalize upd H7 M (.lst (nv hl ++ [.int ((o.getD j 0 : Nat) : Int)])) = H8 at e8 hM
        have e28 := e26.trans (e7.trans e8)
        refine ev_op (σ := [some (.int d), some (.ref sa), some (.ref oa), some (.ref P), some (.int (i : Int)), some (.int ((o.getD i 0 : Nat) : Int)), some (.ref C), some (.int (j : Int)), none, none, none]) (ev_var (i := 3) rfl) (ev_var (i := 7) rfl) (rv_ixL (SqL.of (e28 _ _ hP2)) (at_of (j := j) rfl ga)) H8 (Ex.refl _) _ fun H9 e9 => ?_
        refine ⟨M, ta, _, _, rfl, rfl, SqP.of (e9 _ _ hM), SqP.of (e9 _ _ (e28 _ _ hta)), (by rw [List.length_append, nv_len, nv_len]; exact Nat.le_trans (show hl.length + 1 + (G.getD j []).length ≤ 2000 by omega) (by decide)), fun C' nC' => ?_⟩
        refine ⟨C', hl ++ [o.getD j 0] ++ G.getD j [], _, rfl, e5.trans (e6.trans (e7.trans (e8.trans (e9.trans (Ex.new nC'))))), ?_, ?_, fun x => ?_⟩
        · rw [upd_same, ← nv_app]
          unfold nv
          rw [List.map_append, List.map_append, List.map_append]
        · rw [List.length_append, List.length_append, List.length_singleton]
          omega
        · rw [List.mem_append, List.mem_append, List.mem_singleton, mem x]
          constructor
          · rintro ((⟨j', h1, h2, h3⟩ | h) | h)
            · exact ⟨j', by omega, h2, h3⟩
            · exact ⟨j, by omega, cl, .inl h⟩
            · exact ⟨j, by omega, cl, .inr h⟩
          · rintro ⟨j', h1, h2, h3⟩
            rcases Nat.lt_succ_iff_lt_or_eq.mp h1 with h | rfl
            · exact .inl (.inl ⟨j', h, h2, h3⟩)
            · rcases h3 with h3 | h3
              · exact .inl (.inr h3)
              · exact .inr h3
      · have hb := of_decide_eq_false hb
        have ncl : ¬ close d s (o.getD j 0) (o.getD i 0) := fun cl => hb (by
          obtain ⟨c1, c2⟩ := cl
          split <;> omega)
        refine ⟨C, hl, _, rfl, e5.trans e6, e6 _ _ hC5, by omega, fun x => ?_⟩
        rw [mem x]
        constructor
        · rintro ⟨j', h1, h2, h3⟩
          exact ⟨j', by omega, h2, h3⟩
        · rintro ⟨j', h1, h2, h3⟩
          rcases Nat.lt_succ_iff_lt_or_eq.mp h1 with h | rfl
          · exact ⟨j', h, h2, h3⟩
          · exact absurd h2 ncl
    · rintro σ H5 ⟨C, hl, v7, rfl, e5, hC5, ll, mem⟩
      rw [show ((i : Int)).toNat = i from Int.toNat_natCast i] at ll mem
      have e25 := e24.trans e5
      have memC : ∀ x, x ∈ hl ↔ Ch d s o x (o.getD i 0) := fun x => by
        rw [mem x, Ch.at ndo hi]
        constructor
        · rintro ⟨j, h1, h2, h3 | h3⟩
          · exact ⟨j, h1, h2, .inl h3⟩
          · exact ⟨j, h1, h2, .inr ((ab.mem j h1 x).mp h3)⟩
        · rintro ⟨j, h1, h2, h3 | h3⟩
          · exact ⟨j, h1, h2, .inl h3⟩
          · exact ⟨j, h1, h2, .inr ((ab.mem j h1 x).mpr h3)⟩
      -- above.append(sorted(set(held)))
      refine ⟨_, rfl, .inl ⟨rfl, _, SqL.of (e25 _ _ hP2)⟩, ?_⟩
      refine ⟨C, hl.map (fun n : Nat => (n : Int)), o.map (fun n : Nat => (n : Int)), rfl, (by rw [← nv_int]; exact SqL.of hC5), (by rw [List.length_map]; omega), fun k hk => ?_, (by rw [List.length_map]; omega), fun a ho ks p na np pw km => ?_⟩
      · obtain ⟨n, hn, rfl⟩ := List.mem_map.mp hk
        exact List.mem_map.mpr ⟨n, (((memC n).mp hn).mem).1, rfl⟩
      have e6 : Ex H5 (upd (upd H5 a ho) p (.lst (ks.map V.int))) := (Ex.new na).trans (Ex.new np)
      have hp : (upd (upd H5 a ho) p (.lst (ks.map V.int))) p = some (.lst (ks.map V.int)) := upd_same
      generalize upd (upd H5 a ho) p (.lst (ks.map V.int)) = H6 at e6 hp
      have pn : p ≠ P := fun z => by
        subst z
        have := (Ex.new (o := ho) na) _ _ (e25 _ _ hP2)
        rw [np] at this
        cases this
      rw [nats_of fun k hk => (km k).mp hk] at hp
      have nd2 : (ks.map Int.toNat).Nodup := by
        refine List.pairwise_map.mpr (List.Pairwise.imp_of_mem (fun {x y} hx hy hxy e => ?_) pw)
        obtain ⟨n, _, rfl⟩ := List.mem_map.mp ((km x).mp hx)
        obtain ⟨m, _, rfl⟩ := List.mem_map.mp ((km y).mp hy)
        omega
      have mem2 : ∀ x, x ∈ ks.map Int.toNat ↔ Ch d s o x (o.getD i 0) := fun x => by
        rw [← memC x]
        constructor
        · intro h
          obtain ⟨k, hk, e⟩ := List.mem_map.mp h
          obtain ⟨n, hn, e2⟩ := List.mem_map.mp ((km k).mp hk)
          have : n = x := by omega
          rw [← this]
          exact hn
        · intro h
          exact List.mem_map.mpr ⟨(x : Int), (km _).mpr (List.mem_map.mpr ⟨x, h, rfl⟩), Int.toNat_natCast x⟩
      have e26 := e25.trans e6
      have lx := gr.len
      refine ⟨P, xs, .ref p, rfl, rfl, e26 _ _ hP2, small1000 (by rw [lx, ab.len]; omega), ⟨_, _, _, _, rfl⟩, kx.trans (Kx.upd (Kx.of e26)), xs ++ [.ref p], G ++ [ks.map Int.toNat], upd_same, ?_, ab.snoc nd2 mem2⟩
      exact ((gr.kx (Kx.of e26)).snoc pn hp).map fun t g n q => ⟨n, by rw [upd_ne n]; exact q⟩
  rintro σ H2 ⟨⟨v4, v5, v6, v7, rfl⟩, kx, xs, G, hP2, gr, ab⟩
  rw [nv_len] at ab
  have ex2 : Ex H H2 := fun b u hu => kx _ _ (ne_of_none hu nP) (e1 _ _ hu)
  -- found
  refine ⟨by show 1 ≤ sizeLine; decide, fun Z nZ => ?_⟩
  have e3 : Ex H2 (upd H2 Z (.lst [.int 0])) := Ex.new nZ
  have hZ : (upd H2 Z (.lst [.int 0])) Z = some (.lst [.int 0]) := upd_same
  generalize upd H2 Z (.lst [.int 0]) = H3 at e3 hZ
  refine ev_lenN (σ := [some (.int d), some (.ref sa), some (.ref oa), some (.ref P), v4, v5, v6, v7, none, none, none]) (ev_var (i := 2) rfl) (ex_l (ex2.trans e3) r.ho) H3 (Ex.refl _) _ fun H4 e4 => ?_
  refine ⟨Z, (o.length : Int), _, rfl, rfl, e4 _ _ hZ, by omega, by omega, (by show 1 * ((o.length : Int)).toNat ≤ sizeLine; exact Nat.le_trans (show 1 * ((o.length : Int)).toNat ≤ 1000 by omega) (by decide)), fun F nF => ?_⟩
  have e24 := e3.trans e4
  have ex4 := ex2.trans e24
  have nF0 : H F = none := fresh_back ex4 nF
  have hP4 := e24 _ _ hP2
  have FP : P ≠ F := ne_of_none hP4 nF
  have ez : (List.replicate ((o.length : Int)).toNat [V.int 0]).flatten = nv (List.replicate o.length 0) := by
    rw [Int.toNat_natCast, List.flatten_replicate_singleton]
    unfold nv
    rw [List.map_replicate]
    rfl
  have e5 : Ex H4 (upd H4 F (.lst (List.replicate ((o.length : Int)).toNat [V.int 0]).flatten)) := Ex.new nF
  have hF : (upd H4 F (.lst (List.replicate ((o.length : Int)).toNat [V.int 0]).flatten)) F = some (.lst (nv (List.replicate o.length 0))) := by rw [upd_same, ez]
  generalize upd H4 F (.lst (List.replicate ((o.length : Int)).toNat [V.int 0]).flatten) = H5 at e5 hF
  have gr5 : Grps H5 F xs G := (gr.kx (Kx.of e24)).map fun t g n q => ⟨ne_of_none q nF, e5 _ _ q⟩
  have ex5 := ex4.trans e5
  have hP5 := e5 _ _ hP4
  have pr := settled_perm d s o
  dsimp only [gName, List.set]
  refine ⟨_, rfl, oa, _, rfl, ex_l ex5 r.ho, for_it (walk_enum (xs := nv o)) (fun k σ H' => (∃ v4 v5 v7 v9 v10, σ = [some (.int d), some (.ref sa), some (.ref oa), some (.ref P), v4, v5, v6, v7, some (.ref F), v9, v10]) ∧ Kx F H5 H' ∧ ∃ f, H' F = some (.lst (nv f)) ∧ Put (settledL d s o) o f k)
    ⟨⟨_, _, _, _, _, rfl⟩, Kx.refl _ _, _, hF, ⟨by rw [List.length_replicate], fun j hj => absurd hj (by omega)⟩⟩ (fun i σ H' _ p => ex_l (fun b u hu => p.2.1 _ _ (ne_of_none hu nF0) (ex5 _ _ hu)) r.ho) ?_ ?_⟩
  · rintro k x σ H6 H7 hk ⟨⟨v4, v5, v7, v9, v10, rfl⟩, kx6, f, hF6, pu⟩ ⟨T, x1, x2, rfl, nT, rfl, y1, y2⟩
    cases y1
    rw [nv_len] at hk
    replace y2 : (nv o)[k]? = some x2 := y2
    rw [nv_get hk] at y2
    cases y2
    have e7 : Ex H6 (upd H6 T (.tup [.int ((k : Nat) : Int), .int ((o.getD k 0 : Nat) : Int)])) := Ex.new nT
    refine ⟨T, _, rfl, SqT.of upd_same, rfl, _, _, rfl, _, _, rfl, rfl, ?_⟩
    generalize upd H6 T (.tup [.int ((k : Nat) : Int), .int ((o.getD k 0 : Nat) : Int)]) = H7 at e7
    dsimp only [gName, List.set]
    have ex6 : Ex H H6 := fun b u hu => kx6 _ _ (ne_of_none hu nF0) (ex5 _ _ hu)
    have ex7 := ex6.trans e7
    have gr7 := (gr5.kx kx6).kx (Kx.of e7)
    have hP7 := e7 _ _ (kx6 _ _ FP hP5)
    have grow : ∀ {H8 : Hp} {m : Nat}, Ex H7 H8 → m < o.length → ∃ t, SqL K H8 P xs ∧ xs[m]? = some (.ref t) ∧ SqL K H8 t (nv (G.getD m [])) := fun {H8 m} e hm => by
      obtain ⟨t, g1, _, g2⟩ := gr7.at (k := m) (by rw [ab.len]; exact hm)
      exact ⟨t, SqL.of (e _ _ hP7), g1, SqL.of (e _ _ g2)⟩
    obtain ⟨tk, gk, _, htk⟩ := gr7.at (k := k) (by rw [ab.len]; exact hk)
    -- many
    refine q_asg (ev_lenN (ev_op (ev_var (i := 3) rfl) (ev_var (i := 4) rfl) (rv_ixL (SqL.of hP7) (at_of (j := k) rfl gk))) (SqL.of htk)) fun H8 e8 => ?_
    dsimp only [List.set]
    refine ⟨_, rfl, oa, _, rfl, ex_l (ex7.trans e8) r.ho, for_it (walk_enum (xs := nv o)) (fun j σ H' => (∃ v7 v10, σ = [some (.int d), some (.ref sa), some (.ref oa), some (.ref P), some (.int (k : Int)), some (.int ((o.getD k 0 : Nat) : Int)), v6, v7, some (.ref F), some (.int (((G.getD k []).length + (List.range j).countP (cntP s o G k) : Nat) : Int)), v10]) ∧ Ex H7 H')
      ⟨⟨_, _, rfl⟩, e8⟩ (fun i σ H' _ p => ex_l (ex7.trans p.2) r.ho) ?_ ?_⟩
    · rintro j x σ H9 H10 hj ⟨⟨v7, v10, rfl⟩, e9⟩ ⟨T2, x1, x2, rfl, nT2, rfl, y1, y2⟩
      cases y1
      rw [nv_len] at hj
      replace y2 : (nv o)[j]? = some x2 := y2
      rw [nv_get hj] at y2
      cases y2
      have e10 : Ex H9 (upd H9 T2 (.tup [.int ((j : Nat) : Int), .int ((o.getD j 0 : Nat) : Int)])) := Ex.new nT2
      refine ⟨T2, _, rfl, SqT.of upd_same, rfl, _, _, rfl, _, _, rfl, rfl, ?_⟩
      generalize upd H9 T2 (.tup [.int ((j : Nat) : Int), .int ((o.getD j 0 : Nat) : Int)]) = H10 at e10
      dsimp only [gName, List.set]
      have e11 := e9.trans e10
      obtain ⟨t1, p1, p2, p3⟩ := grow e11 hk
      obtain ⟨t2, p4, p5, p6⟩ := grow e11 hj
      have hs10 := ex_l (ex7.trans e11) r.hs
      have cs : (List.range (j + 1)).countP (cntP s o G k) = (List.range j).countP (cntP s o G k) + if cntP s o G k j = true then 1 else 0 := by
        rw [List.range_succ, List.countP_append, List.countP_singleton]
      refine s_if (b := cntP s o G k j) (et_and (a := !decide (o.getD j 0 ∈ G.getD k [])) (et_is (et_test (ev_op (ev_var (i := 10) rfl) (ev_op (ev_var (i := 3) rfl) (ev_var (i := 4) rfl) (rv_ixL p1 (at_of (j := k) rfl p2))) (rv_niL p3 rfl (flat_nv _)))) (by rw [inV_nv])) fun _ =>
        et_and (a := !decide (o.getD k 0 ∈ G.getD j [])) (et_is (et_test (ev_op (ev_var (i := 5) rfl) (ev_op (ev_var (i := 3) rfl) (ev_var (i := 7) rfl) (rv_ixL p4 (at_of (j := j) rfl p5))) (rv_niL p6 rfl (flat_nv _)))) (by rw [inV_nv])) fun _ =>
          et_gtI (ev_ixS (ev_var (i := 1) rfl) (ev_var (i := 10) rfl) hs10 rfl (lt hj)) (ev_ixS (ev_var (i := 1) rfl) (ev_var (i := 5) rfl) hs10 rfl (lt hk))) (fun hb H11 e12 => ?_) (fun hb H11 e12 => ?_)
      · rw [if_pos hb] at cs
        refine s_asg (ev_is (ev_add (ev_var (i := 9) rfl) (ev_c (v := .int 1))) (v := .int (((G.getD k []).length + (List.range j).countP (cntP s o G k) : Nat) + 1 : Int)) (w := .int (((G.getD k []).length + (List.range (j + 1)).countP (cntP s o G k) : Nat) : Int)) ?_) fun H12 e13 => ?_
        · rw [cs]
          exact congrArg V.int (by omega)
        · exact ⟨⟨_, _, rfl⟩, e11.trans (e12.trans e13)⟩
      · have cs2 : (List.range (j + 1)).countP (cntP s o G k) = (List.range j).countP (cntP s o G k) := by
          rw [cs, if_neg (by rw [hb]; decide)]
          rfl
        rw [← cs2]
        exact ⟨⟨_, _, rfl⟩, e11.trans e12⟩
    · rintro σ H9 ⟨⟨v7, v10, rfl⟩, e9⟩
      rw [nv_len, place_is d1 ndo ab hk]
      have hF9 := e9 _ _ (e7 _ _ hF6)
      have il : (settledL d s o).idxOf (o.getD k 0) < (nv f).length := by
        rw [nv_len, pu.len, ← pr.length_eq]
        exact List.idxOf_lt_length_of_mem (pr.mem_iff.mpr (getD_mem hk))
      refine s_setL (l := F) hF9 (ev_var (i := 5) rfl) (ev_var (i := 8) rfl) (ev_var (i := 9) rfl) il fun H10 e10 => ?_
      refine ⟨⟨_, _, _, _, _, rfl⟩, kx6.trans (Kx.upd (Kx.of (e7.trans (e9.trans e10)))), f.set ((settledL d s o).idxOf (o.getD k 0)) (o.getD k 0), ?_, pu.step pr ndo hk⟩
      rw [upd_same, nv_set]
  · rintro σ H6 ⟨⟨v4, v5, v7, v9, v10, rfl⟩, kx6, f, hF6, pu⟩
    rw [nv_len] at pu
    rw [pu.done pr ndo] at hF6
    have ex6 : Ex H H6 := fun b u hu => kx6 _ _ (ne_of_none hu nF0) (ex5 _ _ hu)
    refine s_ret (D := { nx := fun _ H' => Q .non H', rt := Q }) (ev_var (i := 8) rfl) fun H7 e7 => q F H7 nF0 (ex6.trans e7) (e7 _ _ hF6)
theorem sl_left {sa oa : Addr} {d : Int} {s : List Int} {o : List Nat} (r : Rk K H sa oa d s o) : SpL (sp_left K) [.int d, .ref sa, .ref oa] H (nv (settledL d s o)) := fun H1 e Q q E => ⟨sa, oa, d, s, o, rfl, r.mono e, q⟩
end
end Lb

/-! law k06: entries with other scores: the program's part, the law's own test -/
namespace Lb
open PySem PySem.Spec PyProof.Rows L2 Evl
section
variable {K : PySem.W.Frag} {H H' : Hp} {Q : VK} {E : XK} {σ : L2.St}
def sp_is_index (_ : PySem.W.Frag) : Sp := fun vs H Q _ => ∃ i n : Int, vs = [.int i, .int n] ∧ 0 ≤ i ∧ i < n ∧ RetV (.bl true) H Q
def t_is_index (K : PySem.W.Frag) : TS := tRet (tAndV (tCall (sp_is_integer K) [] E0 (tCons (tVar 0) (tNil))) (tChain rLeI rLtI (tC (.int 0)) (tVar 0) (tVar 1)))
theorem ev_chainIn {a b : Nat} {i n : Int} (ha : σ[a]? = some (some (.int i))) (hb : σ[b]? = some (some (.int n))) (h0 : 0 ≤ i) (h1 : i < n) : Ev (tChain rLeI rLtI (tC (.int 0)) (tVar a) (tVar b)) σ H (.bl true) := fun H1 e Q q =>
  ⟨_, ha, 0, i, rfl, rfl, true, congrArg V.bl (decide_eq_true h0), by
    rw [if_pos rfl]
    refine ⟨_, hb, i, n, rfl, rfl, ?_⟩
    show Q (.bl (decide (i < n))) H1
    rw [decide_eq_true h1]
    exact q H1 (Ex.refl _)⟩
theorem r_is_index {vs : List V} (h : sp_is_index K vs H Q E) : t_is_index K { nx := fun _ H' => Q .non H', rt := Q } (start ["value", "many"] vs) H := by
  obtain ⟨i, n, rfl, h0, h1, q⟩ := h
  exact s_ret (D := { nx := fun _ H' => Q .non H', rt := Q }) (v := .bl true) (ev_is (ev_andV (a := true) (b := true) (ev_call (ea_cons (ev_var rfl) ea_nil) sv_is_integer) fun _ => ev_chainIn rfl rfl h0 h1) rfl) q
theorem sv_is_index {i n : Int} (h0 : 0 ≤ i) (h1 : i < n) : SpV (sp_is_index K) [.int i, .int n] H (.bl true) := fun H1 e Q q E => ⟨i, n, rfl, h0, h1, q⟩
def sp_check_entry (K : PySem.W.Frag) : Sp := fun vs H Q _ => ∃ (sa : Addr) (s : List Int) (e : Nat), vs = [.ref sa, .int (e : Int)] ∧ SqL K H sa (s.map V.int) ∧ e < s.length ∧ RetV .non H Q
def t_check_entry (K : PySem.W.Frag) : TS := tIfS (tNot (tB (tCall (sp_is_index K) [] E0 (tCons (tVar 1) (tCons (tCB (Evl.rLenS K) (tCons (tVar 0) (tNil))) (tNil)))))) (tNever) (tNext)
theorem r_check_entry {vs : List V} (h : sp_check_entry K vs H Q E) : t_check_entry K { nx := fun _ H' => Q .non H', rt := Q } (start ["scores", "entry"] vs) H := by
  obtain ⟨sa, s, e, rfl, hs, he, q⟩ := h
  exact s_when (b := !true) (et_not (et_B (ev_call (ea_cons (ev_var (i := 1) rfl) (ea_cons (ev_lenS (ev_var (i := 0) rfl) hs) ea_nil)) (sv_is_index (by omega) (by omega))))) (fun z => by cases z) fun _ H1 e1 => q H1 e1
theorem sv_check_entry {sa : Addr} {s : List Int} {e : Nat} (hs : SqL K H sa (s.map V.int)) (he : e < s.length) : SpV (sp_check_entry K) [.ref sa, .int (e : Int)] H .non := fun H1 e1 Q q E => ⟨sa, s, e, rfl, ex_l e1 hs, he, q⟩
def sp_check_score (_ : PySem.W.Frag) : Sp := fun vs H Q _ => ∃ x : Int, vs = [.int x] ∧ RetV .non H Q
def t_check_score (K : PySem.W.Frag) : TS := tIfS (tNot (tB (tCall (sp_is_integer K) [] E0 (tCons (tVar 0) (tNil))))) (tNever) (tNext)
theorem r_check_score {vs : List V} (h : sp_check_score K vs H Q E) : t_check_score K { nx := fun _ H' => Q .non H', rt := Q } (start ["score"] vs) H := by
  obtain ⟨x, rfl, q⟩ := h
  exact s_when (b := !true) (et_not (et_B (ev_call (ea_cons (ev_var (i := 0) rfl) ea_nil) sv_is_integer))) (fun z => by cases z) fun _ H1 e1 => q H1 e1
theorem sv_check_score {x : Int} : SpV (sp_check_score K) [.int x] H .non := fun H1 e1 Q q E => ⟨x, rfl, q⟩
/-! scores[:entry] + [score] + scores[entry + 1:] -/
theorem cut_to (l : List V) (k : Nat) : cutV l none (some (k : Int)) = l.take k := by
  unfold cutV
  rw [HT.sIx_none, HT.sIx_nat, Nat.sub_zero, List.drop_zero]
  by_cases h : k ≤ l.length
  · rw [Nat.min_eq_left h]
  · rw [Nat.min_eq_right (by omega), List.take_of_length_le (Nat.le_refl _), List.take_of_length_le (by omega)]
theorem cut_from (l : List V) (k : Nat) : cutV l (some (k : Int)) none = l.drop k := by
  unfold cutV
  rw [HT.sIx_none, HT.sIx_nat]
  by_cases h : k ≤ l.length
  · rw [Nat.min_eq_left h, List.take_of_length_le (by rw [List.length_drop]; omega)]
  · rw [Nat.min_eq_right (by omega), List.drop_of_length_le (show l.length ≤ k by omega), List.drop_of_length_le (Nat.le_refl _)]
    simp
theorem set_split (s : List Int) (e : Nat) (x : Int) (h : e < s.length) : s.take e ++ [x] ++ s.drop (e + 1) = s.set e x := by
  rw [List.set_eq_take_append_cons_drop, if_pos h]
  simp
theorem el_cat {ta tb : TE} {xs ys : List V} (h : EvL ta σ H xs) (h' : EvL tb σ H ys) (hz : xs.length + ys.length ≤ 1000) : EvL (tOp (rCatP K) ta tb) σ H (xs ++ ys) := fun H1 e Q q =>
  h H1 e _ fun p H2 np e2 hp => h' H2 (e.trans e2) _ fun r H3 nr e3 hr => ⟨p, r, xs, ys, rfl, rfl, SqP.of (e3 _ _ hp), SqP.of hr, Nat.le_trans hz (by decide), fun t nt => q t _ (fresh_back (e2.trans e3) nt) ((e2.trans e3).trans (Ex.new nt)) upd_same⟩
theorem el_later {i j m : Nat} {sa : Addr} {s : List Int} {e : Nat} {x : Int} (hi : σ[i]? = some (some (.ref sa))) (hj : σ[j]? = some (some (.int (e : Int)))) (hm : σ[m]? = some (some (.int x))) (hs : SqL K H sa (s.map V.int)) (he : e < s.length) (l2 : s.length ≤ 28) :
    EvL (tOp (rCatP K) (tOp (rCatP K) (tSl (rSlL K) (tVar i) tNoPart (tPart (tVar j))) (tLst (tCons (tVar m) tNil))) (tSl (rSlL K) (tVar i) (tPart (tOp rAddI (tVar j) (tC (.int 1)))) tNoPart)) σ H ((s.set e x).map V.int) := by
  have key := el_cat (K := K) (el_cat (K := K) (el_sl (ev_var hi) eo_none (eo_some (ev_var hj)) hs) (el_lst (ea_cons (ev_var hm) ea_nil) (by simp)) (by have := cutV_length (s.map V.int) none (some (e : Int)); rw [List.length_map] at this; simp; omega))
    (el_sl (ev_var hi) (eo_some (ev_add (ev_var hj) (ev_c (v := .int 1)))) eo_none hs) (by
      have h1 := cutV_length (s.map V.int) none (some (e : Int))
      have h2 := cutV_length (s.map V.int) (some ((e : Int) + 1)) none
      rw [List.length_map] at h1 h2
      rw [List.length_append, List.length_singleton]
      omega)
  rw [cut_to, show ((e : Int) + 1) = ((e + 1 : Nat) : Int) by omega, cut_from] at key
  rw [← set_split s e x he, List.map_append, List.map_append, List.map_take, List.map_drop]
  exact key
def sp_rescored (K : PySem.W.Frag) : Sp := fun vs H Q _ => ∃ (sa : Addr) (s : List Int) (e : Nat) (x : Int), vs = [.ref sa, .int (e : Int), .int x] ∧ SqL K H sa (s.map V.int) ∧ e < s.length ∧ s.length ≤ 28 ∧ RetL ((s.set e x).map V.int) H Q
def t_rescored (K : PySem.W.Frag) : TS := tRet (tOp (rCatP K) (tOp (rCatP K) (tSl (rSlL K) (tVar 0) (tNoPart) (tPart (tVar 1))) (tLst (tCons (tVar 2) (tNil)))) (tSl (rSlL K) (tVar 0) (tPart (tOp rAddI (tVar 1) (tC (.int 1)))) (tNoPart)))
theorem r_rescored {vs : List V} (h : sp_rescored K vs H Q E) : t_rescored K { nx := fun _ H' => Q .non H', rt := Q } (start ["scores", "entry", "score"] vs) H := by
  obtain ⟨sa, s, e, x, rfl, hs, he, l2, q⟩ := h
  exact el_later (K := K) (σ := start ["scores", "entry", "score"] [.ref sa, .int (e : Int), .int x]) (i := 0) (j := 1) (m := 2) rfl rfl rfl hs he l2 H (Ex.refl _) _ fun p H4 np e4 hp => q p H4 np e4 hp
theorem sl_rescored {sa : Addr} {s : List Int} {e : Nat} {x : Int} (hs : SqL K H sa (s.map V.int)) (he : e < s.length) (l2 : s.length ≤ 28) : SpL (sp_rescored K) [.ref sa, .int (e : Int), .int x] H ((s.set e x).map V.int) := fun H1 e1 Q q E => ⟨sa, s, e, x, rfl, ex_l e1 hs, he, l2, q⟩
def sp_with_score (K : PySem.W.Frag) : Sp := fun vs H Q _ => ∃ (sa oa : Addr) (d : Int) (s : List Int) (o : List Nat) (e : Nat) (x : Int), vs = [.int d, .ref sa, .ref oa, .int (e : Int), .int x] ∧ Rk K H sa oa d s o ∧ e < s.length ∧ RetL (nv (settledL d (s.set e x) o)) H Q
def t_with_score (K : PySem.W.Frag) : TS := tSeq (tDrop (tCall (sp_check_ranking K) [] E0 (tCons (tVar 0) (tCons (tVar 1) (tCons (tVar 2) (tNil)))))) (tSeq (tDrop (tCall (sp_check_entry K) [] E0 (tCons (tVar 1) (tCons (tVar 3) (tNil))))) (tSeq (tDrop (tCall (sp_check_score K) [] E0 (tCons (tVar 4) (tNil)))) (tRet (tCall (sp_settled K) [] E0 (tCons (tVar 0) (tCons (tCall (sp_rescored K) [] E0 (tCons (tVar 1) (tCons (tVar 3) (tCons (tVar 4) (tNil))))) (tCons (tVar 2) (tNil))))))))
theorem r_with_score {vs : List V} (h : sp_with_score K vs H Q E) : t_with_score K { nx := fun _ H' => Q .non H', rt := Q } (start ["lead", "scores", "order", "entry", "score"] vs) H := by
  obtain ⟨sa, oa, d, s, o, e, x, rfl, r, he, q⟩ := h
  have l2 := r.l2
  have l1 := r.l1
  refine q_drop (ev_call (ea_rank rfl rfl rfl) (sv_check_ranking r)) fun H1 e1 => ?_
  refine q_drop (ev_call (ea_cons (ev_var (i := 1) rfl) (ea_cons (ev_var (i := 3) rfl) ea_nil)) (sv_check_entry (ex_l e1 r.hs) he)) fun H2 e2 => ?_
  refine q_drop (ev_call (ea_cons (ev_var (i := 4) rfl) ea_nil) sv_check_score) fun H3 e3 => ?_
  have e13 := e1.trans (e2.trans e3)
  refine ⟨.int d, rfl, ?_⟩
  refine el_call (σ := start ["lead", "scores", "order", "entry", "score"] [.int d, .ref sa, .ref oa, .int (e : Int), .int x]) (ea_cons (ev_var (i := 1) rfl) (ea_cons (ev_var (i := 3) rfl) (ea_cons (ev_var (i := 4) rfl) ea_nil))) (sl_rescored (ex_l e13 r.hs) he l2) H3 (Ex.refl _) _ fun p H4 np e4 hp => ?_
  have e14 := e13.trans e4
  refine ⟨.ref oa, rfl, ?_⟩
  exact sl_settled ⟨r.d1, SqL.of hp, ex_l e14 r.ho, by rw [List.length_set]; exact l1, by rw [List.length_set]; exact l2, by rw [List.length_set]; exact r.pm⟩ H4 (Ex.refl _) _ (fun t H5 n5 e5 h5 => q t H5 (fresh_back e14 n5) (e14.trans e5) h5) E0
theorem sl_with_score {sa oa : Addr} {d : Int} {s : List Int} {o : List Nat} {e : Nat} {x : Int} (r : Rk K H sa oa d s o) (he : e < s.length) : SpL (sp_with_score K) [.int d, .ref sa, .ref oa, .int (e : Int), .int x] H (nv (settledL d (s.set e x) o)) := fun H1 e1 Q q E => ⟨sa, oa, d, s, o, e, x, rfl, r.mono e1, he, q⟩
/-! the law's own test -/
def sp_right (K : PySem.W.Frag) : Sp := fun vs H Q _ => ∃ (sa oa : Addr) (d : Int) (s : List Int) (o : List Nat) (e : Nat) (x : Int), vs = [.int d, .ref sa, .ref oa, .int (e : Int), .int x] ∧ Dn H sa oa s o ∧ 1 ≤ d ∧ d < 10 ^ 33 ∧ e < s.length ∧ RetV (.bl true) H Q
def t_right (K : PySem.W.Frag) : TS := tSeq (tPar 5 6 (tCons (tCB (rRepr K) (tCons (tLst (tCons (tVar 0) (tCons (tVar 1) (tCons (tVar 2) (tNil))))) (tNil))) (tCons (tOp (rCatP K) (tOp (rCatP K) (tSl (rSlL K) (tVar 1) (tNoPart) (tPart (tVar 3))) (tLst (tCons (tVar 4) (tNil)))) (tSl (rSlL K) (tVar 1) (tPart (tOp rAddI (tVar 3) (tC (.int 1)))) (tNoPart))) (tNil)))) (tSeq (tAsg (tCall (sp_left K) [] E0 (tCons (tVar 0) (tCons (tVar 6) (tCons (tVar 2) (tNil))))) (gName 7)) (tSeq (tAsg (tLst (tCons (tCall (sp_with_score K) [] E0 (tCons (tVar 0) (tCons (tVar 1) (tCons (tVar 2) (tCons (tVar 3) (tCons (tVar 4) (tNil))))))) (tNil))) (gName 8)) (tSeq (tDrop (tBM K "list" (rAppend) (tVar 8) (tCons (tCallK0 (sp_with_score K) [4, 3, 2, 1, 0] (tCons (tVar 4) (tCons (tVar 3) (tCons (tVar 2) (tCons (tVar 1) (tCons (tVar 0) (tNil))))))) (tNil)))) (tSeq (tIfS (tTest (tOp rNe (tCB (rRepr K) (tCons (tVar 8) (tNil))) (tCB (rRepr K) (tCons (tLst (tCons (tVar 7) (tCons (tVar 7) (tNil)))) (tNil))))) (tRet (tC (.bl false))) (tNext)) (tSeq (tDrop (tBM K "list" (rAppend) (tOp (rIxL K) (tVar 8) (tC (.int 0))) (tCons (tUn (rU fun i => .int (-i)) (tC (.int 1))) (tNil)))) (tRet (tAndV (tOp (rEqD K) (tCall (sp_with_score K) [] E0 (tCons (tVar 0) (tCons (tVar 1) (tCons (tVar 2) (tCons (tVar 3) (tCons (tVar 4) (tNil))))))) (tVar 7)) (tOp rEq (tCB (rRepr K) (tCons (tLst (tCons (tVar 0) (tCons (tVar 1) (tCons (tVar 2) (tNil))))) (tNil))) (tVar 5)))))))))
theorem r_right {vs : List V} (h : sp_right K vs H Q E) : t_right K { nx := fun _ H' => Q .non H', rt := Q } (start ["gap", "sums", "line", "one", "points", "before", "later", "due", "told"] vs) H := by
  obtain ⟨sa, oa, d, s, o, e, x, rfl, dn, d0, d1, he, q⟩ := h
  have r : Rk K H sa oa d s o := dn.rk d0
  have l1 := dn.l1
  have l2 := dn.l2
  have ls : (s.set e x).length = s.length := List.length_set
  -- before, later
  refine ev_rep3 (σ := start ["gap", "sums", "line", "one", "points", "before", "later", "due", "told"] [.int d, .ref sa, .ref oa, .int (e : Int), .int x]) (i := 0) (j := 1) (k := 2) r d1 dn.bd rfl rfl rfl H (Ex.refl _) _ fun H1 e1 => ?_
  refine el_later (K := K) (σ := start ["gap", "sums", "line", "one", "points", "before", "later", "due", "told"] [.int d, .ref sa, .ref oa, .int (e : Int), .int x]) (i := 1) (j := 3) (m := 4) rfl rfl rfl (ex_l e1 r.hs) he l2 H1 (Ex.refl _) _ fun L H2 nL e2 hL => ?_
  refine ⟨_, _, rfl, ?_⟩
  show tSeq _ _ _ [some (.int d), some (.ref sa), some (.ref oa), some (.int (e : Int)), some (.int x), some (.str (d3 d s o).shown), some (.ref L), none, none] H2
  have e02 := e1.trans e2
  have rl : ∀ {H3}, Ex H2 H3 → Rk K H3 L oa d (s.set e x) o := fun {H3} e3 => ⟨d0, SqL.of (e3 _ _ hL), ex_l (e02.trans e3) r.ho, by omega, by omega, by rw [ls]; exact dn.pm⟩
  have pr := settled_perm d (s.set e x) o
  -- due
  refine q_asgL (el_call (ea_cons (ev_var (i := 0) rfl) (ea_cons (ev_var (i := 6) rfl) (ea_cons (ev_var (i := 2) rfl) ea_nil))) (sl_left (rl (Ex.refl _)))) fun U H3 nU e3 hU => ?_
  have e03 := e02.trans e3
  have r3 := r.mono e03
  have nr : Nice (28 * 1) 1 (pn (settledL d (s.set e x) o)) := nice_nats (fun y hy => by have := (r.lt y (pr.mem_iff.mp hy)); omega) (by rw [pr.length_eq]; have := r.len; omega)
  -- told
  refine el_call (σ := [some (.int d), some (.ref sa), some (.ref oa), some (.int (e : Int)), some (.int x), some (.str (d3 d s o).shown), some (.ref L), some (.ref U), none]) (ea_cons (ev_var (i := 0) rfl) (ea_cons (ev_var (i := 1) rfl) (ea_cons (ev_var (i := 2) rfl) (ea_cons (ev_var (i := 3) rfl) (ea_cons (ev_var (i := 4) rfl) ea_nil))))) (sl_with_score r3 he) H3 (Ex.refl _) _ fun p1 H4 m1 e4 h1 => ?_
  refine ⟨by show 1 ≤ sizeLine; decide, fun T nT => ?_⟩
  have e5 : Ex H4 (upd H4 T (.lst [.ref p1])) := Ex.new nT
  have hT : (upd H4 T (.lst [.ref p1])) T = some (.lst [.ref p1]) := upd_same
  generalize upd H4 T (.lst [.ref p1]) = H5 at e5 hT
  have e35 := e4.trans e5
  have e05 := e03.trans e35
  have nT0 : H T = none := fresh_back (e03.trans e4) nT
  have p1T : p1 ≠ T := ne_of_none h1 nT
  have UT : U ≠ T := ne_of_none (e4 _ _ hU) nT
  dsimp only [gName, List.set]
  refine q_appL hT (ev_var (i := 8) rfl) (el_callK (zs := [.int x, .int (e : Int), .ref oa, .ref sa, .int d]) (ea_cons (ev_var (i := 4) rfl) (ea_cons (ev_var (i := 3) rfl) (ea_cons (ev_var (i := 2) rfl) (ea_cons (ev_var (i := 1) rfl) (ea_cons (ev_var (i := 0) rfl) ea_nil))))) rfl (by simp) (sl_with_score (r.mono e05) he)) (by simp) fun p2 H6 m2 e6 h2 => ?_
  have p2T : p2 ≠ T := (ne_of_none hT m2).symm
  have p12 : p1 ≠ p2 := ne_of_none (e5 _ _ h1) m2
  have e07 : Ex H (upd H6 T (.lst ([.ref p1] ++ [.ref p2]))) := Ex.mut (e05.trans e6) nT0
  have hT7 : (upd H6 T (.lst ([.ref p1] ++ [.ref p2]))) T = some (.lst [.ref p1, .ref p2]) := upd_same
  have h17 : (upd H6 T (.lst ([.ref p1] ++ [.ref p2]))) p1 = some (.lst (nv (settledL d (s.set e x) o))) := by rw [upd_ne p1T]; exact e6 _ _ (e5 _ _ h1)
  have h27 : (upd H6 T (.lst ([.ref p1] ++ [.ref p2]))) p2 = some (.lst (nv (settledL d (s.set e x) o))) := by rw [upd_ne p2T]; exact h2
  have hU7 : (upd H6 T (.lst ([.ref p1] ++ [.ref p2]))) U = some (.lst (nv (settledL d (s.set e x) o))) := by rw [upd_ne UT]; exact e6 _ _ (e35 _ _ hU)
  generalize upd H6 T (.lst ([.ref p1] ++ [.ref p2])) = H7 at e07 hT7 h17 h27 hU7
  refine q_when (b := false) (et_neS (ev_repr (p := T) (ev_var (i := 8) rfl) (fun H8 e8 => .lst (SqL.of (e8 _ _ hT7)) (.cons (dp_nats (SqL.of (e8 _ _ h17))) (.cons (dp_nats (SqL.of (e8 _ _ h27))) .nil))) (nice_two nr) (by omega) (by omega))
      (ev_reprL (el_lst (ea_cons (ev_var (i := 7) rfl) (ea_cons (ev_var (i := 7) rfl) ea_nil)) (by simp)) (fun H8 e8 => .cons (dp_nats (SqL.of (e8 _ _ hU7))) (.cons (dp_nats (SqL.of (e8 _ _ hU7))) .nil)) (nice_two nr) (by omega) (by omega)) rfl) (fun z => by cases z) fun _ H8 e8 => ?_
  have np1 : H p1 = none := fresh_back e03 m1
  have U1 : U ≠ p1 := ne_of_none hU m1
  refine q_app (l := p1) (e8 _ _ h17) (ev_op (ev_var (i := 8) rfl) (ev_c (v := .int 0)) (rv_ixL (SqL.of (e8 _ _ hT7)) (atI_nat (j := 0) rfl))) (ev_un (ev_c (v := .int 1)) ru_neg) (by rw [nv_len, pr.length_eq]; have := r.len; omega) fun H9 e9 => ?_
  have e0G : Ex H (upd H9 p1 (.lst (nv (settledL d (s.set e x) o) ++ [.int (-1)]))) := Ex.mut (e07.trans (e8.trans e9)) np1
  have hUG : (upd H9 p1 (.lst (nv (settledL d (s.set e x) o) ++ [.int (-1)]))) U = some (.lst (nv (settledL d (s.set e x) o))) := by rw [upd_ne U1]; exact e9 _ _ (e8 _ _ hU7)
  generalize upd H9 p1 (.lst (nv (settledL d (s.set e x) o) ++ [.int (-1)])) = G at e0G hUG
  have rG := r.mono e0G
  refine s_ret (D := { nx := fun _ H' => Q .non H', rt := Q }) (v := .bl true) (ev_is (ev_andV (a := true) (b := true) (ev_is (ev_opL1 (el_call (ea_cons (ev_var (i := 0) rfl) (ea_cons (ev_var (i := 1) rfl) (ea_cons (ev_var (i := 2) rfl) (ea_cons (ev_var (i := 3) rfl) (ea_cons (ev_var (i := 4) rfl) ea_nil))))) (sl_with_score rG he)) (fun H1 e => ev_var (i := 7) rfl) fun p H1 hp e1 => rv_eqNats (SqL.of hp) (SqL.of (e1 _ _ hUG))) (by rw [decide_eq_true rfl])) fun _ =>
    ev_is (ev_op (ev_rep3 (i := 0) (j := 1) (k := 2) rG d1 dn.bd rfl rfl rfl) (ev_var (i := 5) rfl) (rv_eq rfl)) (by rw [decide_eq_true rfl])) rfl) fun H10 e10 => q H10 (e0G.trans e10)
theorem sv_right {sa oa : Addr} {d : Int} {s : List Int} {o : List Nat} {e : Nat} {x : Int} (dn : Dn H sa oa s o) (d0 : 1 ≤ d) (d1 : d < 10 ^ 33) (he : e < s.length) : SpV (sp_right K) [.int d, .ref sa, .ref oa, .int (e : Int), .int x] H (.bl true) := fun H1 e1 Q q E => ⟨sa, oa, d, s, o, e, x, rfl, dn.ex e1, d0, d1, he, q⟩
end
end Lb

/-! law k06: entries with other scores -/
namespace Lb
open PySem PySem.Spec PyProof.Rows L2 Evl
section
variable {K : PySem.W.Frag} {H H' : Hp} {Q : VK} {E : XK} {σ : L2.St}
theorem el_lit5 {sp : Sp} {d e x : Int} {t1 t2 : TE} {x1 x2 xs : List V} (h1 : EvL t1 σ H x1) (h2 : EvL t2 σ H x2) (hs : ∀ p q H1, Ex H H1 → H1 p = some (.lst x1) → H1 q = some (.lst x2) → SpL sp [.int d, .ref p, .ref q, .int e, .int x] H1 xs) :
    EvL (tCall sp [] E0 (tCons (tC (.int d)) (tCons t1 (tCons t2 (tCons (tC (.int e)) (tCons (tC (.int x)) tNil)))))) σ H xs := fun H1 e Q k =>
  h1 H1 e _ fun p H2 _ e2 hp => h2 H2 (e.trans e2) _ fun q H3 _ e3 hq => hs p q H3 ((e.trans e2).trans e3) (e3 _ _ hp) hq H3 (Ex.refl _) Q (fun r H4 n4 e4 h4 => k r H4 (fresh_back (e2.trans e3) n4) ((e2.trans e3).trans e4) h4) E0
def sp_holds (K : PySem.W.Frag) : Sp := fun vs H Q _ => ∃ (a : Addr) (c : Int), vs = [.ref a, .int c] ∧ 1 ≤ c ∧ c ≤ 28 ∧ Src H a 0 ∧ ∀ H', Kx a H H' → Q (.bl true) H'
def t_holds (K : PySem.W.Frag) : TS := tSeq (tFor (iRng1 (tCons (tC (.int 3)) (tNil))) (gName 2) (tSeq (tAsg (tCall (sp_case K) [] E0 (tCons (tVar 0) (tCons (tVar 1) (tNil)))) (gUnl K 3 (gCons (gName 3) (gCons (gName 4) (gCons (gName 5) (gNil)))))) (tFor (iList K (tLst (tCons (tVar 5) (tCons (tCall (sp_left K) [] E0 (tCons (tVar 3) (tCons (tVar 4) (tCons (tVar 5) (tNil))))) (tNil))))) (gName 6) (tSeq (tPar 7 8 (tCons (tCall (sp_draw K) [] E0 (tCons (tVar 0) (tCons (tCB (Evl.rLenS K) (tCons (tVar 4) (tNil))) (tNil)))) (tCons (tOp (rIxL K) (tVar 4) (tCall (sp_draw K) [] E0 (tCons (tVar 0) (tCons (tCB (Evl.rLenS K) (tCons (tVar 4) (tNil))) (tNil))))) (tNil)))) (tSeq (tAsg (tLst (tCons (tOp rAddI (tVar 8) (tVar 3)) (tCons (tOp rSubI (tVar 8) (tVar 3)) (tCons (tOp rSubI (tOp rAddI (tVar 8) (tVar 3)) (tC (.int 1))) (tCons (tVar 8) (tCons (tCall (sp_draw K) [] E0 (tCons (tVar 0) (tCons (tOp rPowI (tC (.int 10)) (tC (.int 31))) (tNil)))) (tCons (tOp rSubI (tC (.int 0)) (tOp rPowI (tC (.int 10)) (tC (.int 30)))) (tNil)))))))) (gName 9)) (tSeq (tAsg (tOp (rIxL K) (tVar 9) (tCall (sp_draw K) [] E0 (tCons (tVar 0) (tCons (tC (.int 6)) (tNil))))) (gName 10)) (tSeq (tAsg (tIf (tTest (tOp rLtI (tCB (rAbs) (tCons (tVar 10) (tNil))) (tOp rPowI (tC (.int 10)) (tC (.int 31))))) (tVar 10) (tC (.int 0))) (gName 10)) (tSeq (tIfS (tOr (tNot (tB (tCall (sp_right K) [] E0 (tCons (tVar 3) (tCons (tVar 4) (tCons (tVar 6) (tCons (tVar 7) (tCons (tVar 10) (tNil))))))))) (tNot (tB (tCall (sp_right K) [] E0 (tCons (tVar 3) (tCons (tVar 4) (tCons (tVar 6) (tCons (tVar 7) (tCons (tOp (rIxL K) (tVar 4) (tVar 7)) (tNil)))))))))) (tRet (tC (.bl false))) (tNext)) (tSeq (tAsg (tOp (rIxL K) (tLst (tCons (tOp rSubI (tC (.int 1)) (tOp rPowI (tC (.int 10)) (tC (.int 31)))) (tCons (tOp rSubI (tOp rPowI (tC (.int 10)) (tC (.int 31))) (tC (.int 1))) (tNil)))) (tCall (sp_draw K) [] E0 (tCons (tVar 0) (tCons (tC (.int 2)) (tNil))))) (gName 11)) (tIfS (tNot (tB (tCall (sp_right K) [] E0 (tCons (tVar 3) (tCons (tVar 4) (tCons (tVar 6) (tCons (tVar 7) (tCons (tVar 11) (tNil))))))))) (tRet (tC (.bl false))) (tNext))))))))))) (tRet (tOp (rEqD K) (tCall (sp_with_score K) [] E0 (tCons (tC (.int 3)) (tCons (tLst (tCons (tC (.int 4)) (tCons (tC (.int 6)) (tCons (tC (.int 8)) (tCons (tC (.int 10)) (tNil)))))) (tCons (tLst (tCons (tC (.int 0)) (tCons (tC (.int 1)) (tCons (tC (.int 2)) (tCons (tC (.int 3)) (tNil)))))) (tCons (tC (.int 1)) (tCons (tC (.int 7)) (tNil))))))) (tLst (tCons (tC (.int 1)) (tCons (tC (.int 2)) (tCons (tC (.int 3)) (tCons (tC (.int 0)) (tNil))))))))
theorem r_holds {vs : List V} (h : sp_holds K vs H Q E) : t_holds K { nx := fun _ H' => Q .non H', rt := Q } (start ["source", "most", "lap", "gap", "sums", "line", "row", "one", "near", "some", "points", "far"] vs) H := by
  obtain ⟨a, c, rfl, c0, c1, S, k⟩ := h
  refine ⟨3, rfl, by decide, by decide, for_range (lo := 0) (n := 3) (fun i σ H' => (∃ v2 v3 v4 v5 v6 v7 v8 v9 v10 v11, σ = [some (.ref a), some (.int c), v2, v3, v4, v5, v6, v7, v8, v9, v10, v11]) ∧ Kx a H H' ∧ Src H' a (400 * i)) ⟨⟨_, _, _, _, _, _, _, _, _, _, rfl⟩, Kx.refl _ _, S⟩ ?_ ?_⟩
  · rintro i σ H1 hi ⟨⟨v2, v3, v4, v5, v6, v7, v8, v9, v10, v11, rfl⟩, kx, S1⟩
    refine ⟨_, rfl, _, rfl, a, c, 400 * i, rfl, c0, c1, S1, by omega, fun p sa oa g s o H2 np nsa noa soa g0 g1 lc kx2 S2 hp dn => ?_⟩
    refine ⟨p, _, rfl, SqL.of hp, rfl, _, _, rfl, _, _, rfl, _, _, rfl, rfl, ?_⟩
    have paa : oa ≠ a := S1.ne noa
    have saa : sa ≠ a := S1.ne nsa
    have l2 := dn.l2
    have ll1 := dn.l1
    have pr := settled_perm g s o
    -- the two rows
    refine ⟨.ref oa, rfl, ?_⟩
    refine el_call (σ := [some (.ref a), some (.int c), some (.int (0 + (i : Int))), some (.int g), some (.ref sa), some (.ref oa), v6, v7, v8, v9, v10, v11]) (ea_cons (ev_var (i := 3) rfl) (ea_cons (ev_var (i := 4) rfl) (ea_cons (ev_var (i := 5) rfl) ea_nil))) (sl_left (dn.rk g0)) H2 (Ex.refl _) _ fun U H3 nU e3 hU => ?_
    refine ⟨by show 2 ≤ sizeLine; decide, fun T nT => ?_⟩
    have e4 : Ex H3 (upd H3 T (.lst [.ref oa, .ref U])) := Ex.new nT
    have hT : (upd H3 T (.lst [.ref oa, .ref U])) T = some (.lst [.ref oa, .ref U]) := upd_same
    have Ta : T ≠ a := (S2.ex e3).ne nT
    have Ua : U ≠ a := S2.ne nU
    generalize upd H3 T (.lst [.ref oa, .ref U]) = H4 at e4 hT
    have dn4 := (dn.ex e3).ex e4
    have dl4 : Dn H4 sa U s (settledL g s o) := ⟨dn4.hs, e4 _ _ hU, ll1, l2, pr.trans dn.pm, dn.bd⟩
    have S4 := (S2.ex e3).ex e4
    refine ⟨T, rfl, ⟨_, SqL.of hT⟩, for_it (walk_list (xs := [.ref oa, .ref U])) (fun j σ H' => (∃ v6 v7 v8 v9 v10 v11, σ = [some (.ref a), some (.int c), some (.int (0 + (i : Int))), some (.int g), some (.ref sa), some (.ref oa), v6, v7, v8, v9, v10, v11]) ∧ Kx a H4 H' ∧ Src H' a (400 * i + 300 + 10 * j)) ⟨⟨_, _, _, _, _, _, rfl⟩, Kx.refl _ _, S4⟩ (fun j σ H' _ p => SqL.of (p.2.1 _ _ Ta hT)) ?_ ?_⟩
    · rintro j x σ H5 H6 hj ⟨⟨v6, v7, v8, v9, v10, v11, rfl⟩, kx5, S5⟩ ⟨rfl, hx⟩
      obtain ⟨ra, o', rfl, raa, dr5⟩ : ∃ (ra : Addr) (o' : List Nat), x = .ref ra ∧ ra ≠ a ∧ Dn H6 sa ra s o' := by
        have mem := List.mem_of_getElem? hx
        simp only [List.mem_cons, List.not_mem_nil, or_false] at mem
        rcases mem with rfl | rfl
        · exact ⟨oa, o, rfl, paa, dn4.kx kx5 saa paa⟩
        · exact ⟨U, _, rfl, Ua, dl4.kx kx5 saa Ua⟩
      have hj2 : j < 2 := hj
      generalize hB : 400 * i + 300 + 10 * j = B at S5
      have hB2 : B ≤ 2000 := by omega
      dsimp only [gName, List.set]
      -- one, near
      refine dr (a := a) (k := (s.length : Int)) (B := B) rfl (ev_lenS (ev_var (i := 4) rfl) (SqL.of dr5.hs)) (by omega) (by omega) S5 (by omega) fun r1 H7 a0 a1 kx7 S7 => ?_
      obtain ⟨e, rfl⟩ : ∃ e : Nat, r1 = (e : Int) := ⟨r1.toNat, by omega⟩
      have he : e < s.length := by omega
      have dr7 := dr5.kx kx7 saa raa
      refine ⟨_, rfl, ?_⟩
      refine dr (a := a) (k := (s.length : Int)) (B := B + 1) rfl (ev_lenS (ev_var (i := 4) rfl) (SqL.of dr7.hs)) (by omega) (by omega) S7 (by omega) fun r2 H8 b0 b1 kx8 S8 => ?_
      obtain ⟨e2, rfl⟩ : ∃ e : Nat, r2 = (e : Int) := ⟨r2.toNat, by omega⟩
      have he2 : e2 < s.length := by omega
      have dr8 := dr7.kx kx8 saa raa
      refine ⟨sa, _, (e2 : Int), _, rfl, rfl, SqL.of dr8.hs, at_sc rfl he2, ?_⟩
      refine ⟨_, _, rfl, ?_⟩
      generalize sc s e2 = nr
      -- some
      show tSeq _ _ _ [some (.ref a), some (.int c), some (.int (0 + (i : Int))), some (.int g), some (.ref sa), some (.ref oa), some (.ref ra), some (.int (e : Int)), some (.int nr), v9, v10, v11] H8
      refine ev_add (σ := [some (.ref a), some (.int c), some (.int (0 + (i : Int))), some (.int g), some (.ref sa), some (.ref oa), some (.ref ra), some (.int (e : Int)), some (.int nr), v9, v10, v11]) (ev_var (i := 8) rfl) (ev_var (i := 3) rfl) H8 (Ex.refl _) _ fun H9 e9 => ?_
      refine ev_sub (σ := [some (.ref a), some (.int c), some (.int (0 + (i : Int))), some (.int g), some (.ref sa), some (.ref oa), some (.ref ra), some (.int (e : Int)), some (.int nr), v9, v10, v11]) (ev_var (i := 8) rfl) (ev_var (i := 3) rfl) H9 (Ex.refl _) _ fun H10 e10 => ?_
      refine ev_sub (σ := [some (.ref a), some (.int c), some (.int (0 + (i : Int))), some (.int g), some (.ref sa), some (.ref oa), some (.ref ra), some (.int (e : Int)), some (.int nr), v9, v10, v11]) (ev_add (ev_var (i := 8) rfl) (ev_var (i := 3) rfl)) (ev_c (v := .int 1)) H10 (Ex.refl _) _ fun H11 e11 => ?_
      refine ⟨_, rfl, ?_⟩
      have e811 := e9.trans (e10.trans e11)
      have dr11 := dr8.ex e811
      refine dr (a := a) (k := 10 ^ 31) (B := B + 2) rfl (ev_p10 31 (by decide)) (by decide) (by decide) (S8.ex e811) (by omega) fun r3 H12 d0 d1 kx12 S12 => ?_
      have dr12 := dr11.kx kx12 saa raa
      refine ev_sub (σ := [some (.ref a), some (.int c), some (.int (0 + (i : Int))), some (.int g), some (.ref sa), some (.ref oa), some (.ref ra), some (.int (e : Int)), some (.int nr), v9, v10, v11]) (ev_c (v := .int 0)) (ev_p10 30 (by decide)) H12 (Ex.refl _) _ fun H13 e13 => ?_
      refine ⟨by show 6 ≤ sizeLine; decide, fun M nM => ?_⟩
      have Ma : M ≠ a := (S12.ex e13).ne nM
      have e14 : Ex H13 (upd H13 M (.lst [.int (nr + g), .int (nr - g), .int (nr + g - 1), .int nr, .int r3, .int (0 - 10 ^ 30)])) := Ex.new nM
      have hM : (upd H13 M (.lst [.int (nr + g), .int (nr - g), .int (nr + g - 1), .int nr, .int r3, .int (0 - 10 ^ 30)])) M = some (.lst [.int (nr + g), .int (nr - g), .int (nr + g - 1), .int nr, .int r3, .int (0 - 10 ^ 30)]) := upd_same
      show tSeq _ _ _ [some (.ref a), some (.int c), some (.int (0 + (i : Int))), some (.int g), some (.ref sa), some (.ref oa), some (.ref ra), some (.int (e : Int)), some (.int nr), some (.ref M), v10, v11] (upd H13 M (.lst [.int (nr + g), .int (nr - g), .int (nr + g - 1), .int nr, .int r3, .int (0 - 10 ^ 30)]))
      generalize upd H13 M (.lst [.int (nr + g), .int (nr - g), .int (nr + g - 1), .int nr, .int r3, .int (0 - 10 ^ 30)]) = H14 at e14 hM
      have dr14 := (dr12.ex e13).ex e14
      have S14 := (S12.ex e13).ex e14
      -- points
      refine ⟨_, rfl, ?_⟩
      refine dr (a := a) (k := 6) (B := B + 3) rfl ev_c (by decide) (by decide) S14 (by omega) fun r4 H15 f0 f1 kx15 S15 => ?_
      obtain ⟨j4, v, rfl, hj4, gj4, at4, _, mem4⟩ := ix_ok (xs := [V.int (nr + g), .int (nr - g), .int (nr + g - 1), .int nr, .int r3, .int (0 - 10 ^ 30)]) (n := 6) rfl f0 f1
      obtain ⟨pt, rfl⟩ : ∃ pt : Int, v = .int pt := by
        simp only [List.mem_cons, List.not_mem_nil, or_false] at mem4
        rcases mem4 with rfl | rfl | rfl | rfl | rfl | rfl <;> exact ⟨_, rfl⟩
      refine ⟨M, _, _, _, rfl, rfl, SqL.of (kx15 _ _ Ma hM), at4, ?_⟩
      have dr15 := dr14.kx kx15 saa raa
      show tSeq _ _ _ [some (.ref a), some (.int c), some (.int (0 + (i : Int))), some (.int g), some (.ref sa), some (.ref oa), some (.ref ra), some (.int (e : Int)), some (.int nr), some (.ref M), some (.int pt), v11] H15
      obtain ⟨w, hw⟩ : ∃ w : Int, Ev (tIf (tTest (tOp rLtI (tCB (rAbs) (tCons (tVar 10) (tNil))) (tOp rPowI (tC (.int 10)) (tC (.int 31))))) (tVar 10) (tC (.int 0))) [some (.ref a), some (.int c), some (.int (0 + (i : Int))), some (.int g), some (.ref sa), some (.ref oa), some (.ref ra), some (.int (e : Int)), some (.int nr), some (.ref M), some (.int pt), v11] H15 (.int w) := by
        have t : EvT (tTest (tOp rLtI (tCB (rAbs) (tCons (tVar 10) (tNil))) (tOp rPowI (tC (.int 10)) (tC (.int 31))))) [some (.ref a), some (.int c), some (.int (0 + (i : Int))), some (.int g), some (.ref sa), some (.ref oa), some (.ref ra), some (.int (e : Int)), some (.int nr), some (.ref M), some (.int pt), v11] H15 (decide ((if pt < 0 then -pt else pt) < 10 ^ 31)) := et_ltI (ev_cb (ea_cons (ev_var (i := 10) rfl) ea_nil) rc_abs) (ev_p10 31 (by decide))
        cases hb : decide ((if pt < 0 then -pt else pt) < 10 ^ 31) with
        | true =>
          rw [hb] at t
          exact ⟨pt, ev_if t (fun _ => ev_var (i := 10) rfl) (fun z => by cases z)⟩
        | false =>
          rw [hb] at t
          exact ⟨0, ev_if t (fun z => by cases z) (fun _ => ev_c)⟩
      refine q_asg hw fun H16 e16 => ?_
      have dr16 := dr15.ex e16
      dsimp only [List.set]
      refine q_when (b := (!true) || (!true)) (et_or (et_not (et_B (ev_call (ea_cons (ev_var (i := 3) rfl) (ea_cons (ev_var (i := 4) rfl) (ea_cons (ev_var (i := 6) rfl) (ea_cons (ev_var (i := 7) rfl) (ea_cons (ev_var (i := 10) rfl) ea_nil))))) (sv_right dr16 g0 (by omega) he)))) fun _ =>
        et_not (et_B (ev_call (ea_cons (ev_var (i := 3) rfl) (ea_cons (ev_var (i := 4) rfl) (ea_cons (ev_var (i := 6) rfl) (ea_cons (ev_var (i := 7) rfl) (ea_cons (ev_ixS (ev_var (i := 4) rfl) (ev_var (i := 7) rfl) (SqL.of dr16.hs) rfl he) ea_nil))))) (sv_right dr16 g0 (by omega) he)))) (fun z => by cases z) fun _ H17 e17 => ?_
      have dr17 := dr16.ex e17
      have S17 := (S15.ex e16).ex e17
      -- far
      refine ev_sub (σ := [some (.ref a), some (.int c), some (.int (0 + (i : Int))), some (.int g), some (.ref sa), some (.ref oa), some (.ref ra), some (.int (e : Int)), some (.int nr), some (.ref M), some (.int w), v11]) (ev_c (v := .int 1)) (ev_p10 31 (by decide)) H17 (Ex.refl _) _ fun H18 e18 => ?_
      refine ev_sub (σ := [some (.ref a), some (.int c), some (.int (0 + (i : Int))), some (.int g), some (.ref sa), some (.ref oa), some (.ref ra), some (.int (e : Int)), some (.int nr), some (.ref M), some (.int w), v11]) (ev_p10 31 (by decide)) (ev_c (v := .int 1)) H18 (Ex.refl _) _ fun H19 e19 => ?_
      refine ⟨by show 2 ≤ sizeLine; decide, fun N nN => ?_⟩
      have S19 := (S17.ex e18).ex e19
      have Na : N ≠ a := S19.ne nN
      have e20 : Ex H19 (upd H19 N (.lst [.int (1 - 10 ^ 31), .int (10 ^ 31 - 1)])) := Ex.new nN
      refine dr (a := a) (k := 2) (B := B + 4) rfl ev_c (by decide) (by decide) (S19.ex e20) (by omega) fun r5 H21 h0 h1 kx21 S21 => ?_
      obtain ⟨j5, v, rfl, hj5, gj5, at5, _, mem5⟩ := ix_ok (xs := [V.int (1 - 10 ^ 31), .int (10 ^ 31 - 1)]) (n := 2) rfl h0 h1
      obtain ⟨fr, rfl⟩ : ∃ fr : Int, v = .int fr := by
        simp only [List.mem_cons, List.not_mem_nil, or_false] at mem5
        rcases mem5 with rfl | rfl <;> exact ⟨_, rfl⟩
      refine ⟨N, _, _, _, rfl, rfl, SqL.of (kx21 _ _ Na upd_same), at5, ?_⟩
      have dr21 := (((dr17.ex e18).ex e19).ex e20).kx kx21 saa raa
      dsimp only [gName, List.set]
      refine s_when (b := !true) (et_not (et_B (ev_call (ea_cons (ev_var (i := 3) rfl) (ea_cons (ev_var (i := 4) rfl) (ea_cons (ev_var (i := 6) rfl) (ea_cons (ev_var (i := 7) rfl) (ea_cons (ev_var (i := 11) rfl) ea_nil))))) (sv_right dr21 g0 (by omega) he)))) (fun z => by cases z) fun _ H22 e22 => ?_
      refine ⟨⟨_, _, _, _, _, _, rfl⟩, ?_, (S21.ex e22).mono (by omega)⟩
      refine kx5.trans (kx7.trans (kx8.trans ((Kx.of e811).trans (kx12.trans ((Kx.of (e13.trans e14)).trans (kx15.trans ((Kx.of ((e16.trans e17).trans ((e18.trans e19).trans e20))).trans (kx21.trans (Kx.of e22)))))))))
    · rintro σ H5 ⟨⟨v6, v7, v8, v9, v10, v11, rfl⟩, kx5, S5⟩
      exact ⟨⟨_, _, _, _, _, _, _, _, _, _, rfl⟩, kx.trans (kx2.trans ((Kx.of (e3.trans e4)).trans kx5)), S5.mono (by simp; omega)⟩
  · rintro σ H1 ⟨⟨v2, v3, v4, v5, v6, v7, v8, v9, v10, v11, rfl⟩, kx, S1⟩
    refine s_ret (D := { nx := fun _ H' => Q .non H', rt := Q }) (v := .bl true) (ev_eqLL (l := settledL 3 ([4, 6, 8, 10].set 1 7) [0, 1, 2, 3]) (el_lit5 (d := 3) (e := 1) (x := 7) el_4 el_4 fun p q H2 e hp hq => sl_with_score (e := 1) (s := [4, 6, 8, 10]) (o := [0, 1, 2, 3]) (rk_lit hp hq (by decide) (by decide) (by decide) (by decide)) (by decide)) (m := [1, 2, 3, 0]) el_4 (by decide)) fun H2 e2 => k H2 (kx.trans (Kx.of e2))
theorem holds_ok : SpHolds (sp_holds K) 4 28 := fun a c H Q E hc S k => ⟨a, c, rfl, by omega, by omega, S, k⟩
def t_law (K : PySem.W.Frag) : TS := tSeq (tFor (iEnum K (tCons (tSl (rSlL K) (tOp (rCatP K) (tVar 0) (tLst (tCons (tC (.int 0)) (tNil)))) (tNoPart) (tPart (tCB (Evl.rMax2) (tCons (tC (.int 1)) (tCons (tCB (rMin2) (tCons (tCB (Evl.rLenS K) (tCons (tVar 0) (tNil))) (tCons (tC (.int 14)) (tNil)))) (tNil)))))) (tNil))) (gTup K 2 (gCons (gName 1) (gCons (gName 2) (gNil)))) (tIfS (tNot (tB (tCall (sp_holds K) [] E0 (tCons (tCall (sp_source K) [] E0 (tCons (tVar 2) (tCons (tVar 1) (tNil)))) (tCons (tIf (tTest (tOp (rEqD K) (tVar 0) (tLst (tNil)))) (tC (.int 4)) (tC (.int 28))) (tNil)))))) (tRet (tC (.bl false))) (tNext))) (tRet (tC (.bl true)))
theorem r_law {vs : List V} (h : sp_law K vs H Q E) : t_law K { nx := fun _ H' => Q .non H', rt := Q } (start ["script", "k", "cell"] vs) H := r_lawA (m := 14) (c1 := 4) (c2 := 28) (sp := sp_holds K) (by decide) holds_ok h
end
end Lb

/-! the law over the program: derivations def by def, what the top has written, the end -/
namespace Lb
open PySem PySem.Spec PyProof.Rows L2 Evl
def topS (i : Nat) : Stmt := PySem.Challenge.pw_leadboard_k06_entries_with_other_scores.main.body.getD i (.Pass ⟨0, 0, 0, 0⟩)
abbrev s_rescored : Stmt := topS 8
abbrev s_settled : Stmt := topS 9
abbrev s_is_integer : Stmt := topS 12
abbrev s_is_index : Stmt := topS 13
abbrev s_is_list : Stmt := topS 14
abbrev s_are_scores : Stmt := topS 15
abbrev s_is_order_of : Stmt := topS 16
abbrev s_check_lead : Stmt := topS 17
abbrev s_check_scores : Stmt := topS 18
abbrev s_check_order : Stmt := topS 19
abbrev s_check_entry : Stmt := topS 20
abbrev s_check_score : Stmt := topS 21
abbrev s_check_ranking : Stmt := topS 22
abbrev s_with_score : Stmt := topS 24
abbrev s_source : Stmt := topS 26
abbrev s_draw : Stmt := topS 27
abbrev s_shuffled : Stmt := topS 28
abbrev s_gap : Stmt := topS 29
abbrev s_sums : Stmt := topS 30
abbrev s_case : Stmt := topS 31
abbrev s_left : Stmt := topS 32
abbrev s_right : Stmt := topS 33
abbrev s_holds : Stmt := topS 34
abbrev s_law : Stmt := topS 35
theorem sc_rescored : FnScope ["scores", "entry", "score"] ["scores", "entry", "score"] (defScope s_rescored) := ⟨rfl, rfl, rfl, by decide +kernel, rfl, by decide +kernel, by decide +kernel⟩
theorem sc_settled : FnScope ["lead", "scores", "order", "left", "entry", "place"] ["lead", "scores", "order"] (defScope s_settled) := ⟨rfl, rfl, rfl, by decide +kernel, rfl, by decide +kernel, by decide +kernel⟩
theorem sc_is_integer : FnScope ["value"] ["value"] (defScope s_is_integer) := ⟨rfl, rfl, rfl, by decide +kernel, rfl, by decide +kernel, by decide +kernel⟩
theorem sc_is_index : FnScope ["value", "many"] ["value", "many"] (defScope s_is_index) := ⟨rfl, rfl, rfl, by decide +kernel, rfl, by decide +kernel, by decide +kernel⟩
theorem sc_is_list : FnScope ["value"] ["value"] (defScope s_is_list) := ⟨rfl, rfl, rfl, by decide +kernel, rfl, by decide +kernel, by decide +kernel⟩
theorem sc_are_scores : FnScope ["value", "item"] ["value"] (defScope s_are_scores) := ⟨rfl, rfl, rfl, by decide +kernel, rfl, by decide +kernel, by decide +kernel⟩
theorem sc_is_order_of : FnScope ["many", "value", "item"] ["many", "value"] (defScope s_is_order_of) := ⟨rfl, rfl, rfl, by decide +kernel, rfl, by decide +kernel, by decide +kernel⟩
theorem sc_check_lead : FnScope ["lead"] ["lead"] (defScope s_check_lead) := ⟨rfl, rfl, rfl, by decide +kernel, rfl, by decide +kernel, by decide +kernel⟩
theorem sc_check_scores : FnScope ["scores"] ["scores"] (defScope s_check_scores) := ⟨rfl, rfl, rfl, by decide +kernel, rfl, by decide +kernel, by decide +kernel⟩
theorem sc_check_order : FnScope ["scores", "order"] ["scores", "order"] (defScope s_check_order) := ⟨rfl, rfl, rfl, by decide +kernel, rfl, by decide +kernel, by decide +kernel⟩
theorem sc_check_entry : FnScope ["scores", "entry"] ["scores", "entry"] (defScope s_check_entry) := ⟨rfl, rfl, rfl, by decide +kernel, rfl, by decide +kernel, by decide +kernel⟩
theorem sc_check_score : FnScope ["score"] ["score"] (defScope s_check_score) := ⟨rfl, rfl, rfl, by decide +kernel, rfl, by decide +kernel, by decide +kernel⟩
theorem sc_check_ranking : FnScope ["lead", "scores", "order"] ["lead", "scores", "order"] (defScope s_check_ranking) := ⟨rfl, rfl, rfl, by decide +kernel, rfl, by decide +kernel, by decide +kernel⟩
theorem sc_with_score : FnScope ["lead", "scores", "order", "entry", "score"] ["lead", "scores", "order", "entry", "score"] (defScope s_with_score) := ⟨rfl, rfl, rfl, by decide +kernel, rfl, by decide +kernel, by decide +kernel⟩
theorem sc_source : FnScope ["cell", "k"] ["cell", "k"] (defScope s_source) := ⟨rfl, rfl, rfl, by decide +kernel, rfl, by decide +kernel, by decide +kernel⟩
theorem sc_draw : FnScope ["source", "choices", "digit", "mixed"] ["source", "choices"] (defScope s_draw) := ⟨rfl, rfl, rfl, by decide +kernel, rfl, by decide +kernel, by decide +kernel⟩
theorem sc_shuffled : FnScope ["source", "items", "left", "lap"] ["source", "items"] (defScope s_shuffled) := ⟨rfl, rfl, rfl, by decide +kernel, rfl, by decide +kernel, by decide +kernel⟩
theorem sc_gap : FnScope ["source"] ["source"] (defScope s_gap) := ⟨rfl, rfl, rfl, by decide +kernel, rfl, by decide +kernel, by decide +kernel⟩
theorem sc_sums : FnScope ["source", "gap", "high", "many", "way", "base", "found", "at", "some", "one"] ["source", "gap", "high"] (defScope s_sums) := ⟨rfl, rfl, rfl, by decide +kernel, rfl, by decide +kernel, by decide +kernel⟩
theorem sc_case : FnScope ["source", "high", "gap", "sums", "line"] ["source", "high"] (defScope s_case) := ⟨rfl, rfl, rfl, by decide +kernel, rfl, by decide +kernel, by decide +kernel⟩
theorem sc_left : FnScope ["gap", "sums", "line", "above", "at", "one", "held", "to", "found", "many", "two"] ["gap", "sums", "line"] (defScope s_left) := ⟨rfl, rfl, rfl, by decide +kernel, rfl, by decide +kernel, by decide +kernel⟩
theorem sc_right : FnScope ["gap", "sums", "line", "one", "points", "before", "later", "due", "told"] ["gap", "sums", "line", "one", "points"] (defScope s_right) := ⟨rfl, rfl, rfl, by decide +kernel, rfl, by decide +kernel, by decide +kernel⟩
theorem sc_holds : FnScope ["source", "most", "lap", "gap", "sums", "line", "row", "one", "near", "some", "points", "far"] ["source", "most"] (defScope s_holds) := ⟨rfl, rfl, rfl, by decide +kernel, rfl, by decide +kernel, by decide +kernel⟩
theorem sc_law : FnScope ["script", "k", "cell"] ["script"] (defScope s_law) := ⟨rfl, rfl, rfl, by decide +kernel, rfl, by decide +kernel, by decide +kernel⟩
structure Txt (K : PySem.W.Frag) (mg : Str → Option Value) where
  a_rescored : Addr
  fd_rescored : FuncData
  F_rescored : Fun K "rescored" "rescored" s_rescored a_rescored fd_rescored
  g_rescored : mg "rescored" = some (.ref a_rescored)
  b_rescored : Binds K fd_rescored ["scores", "entry", "score"] []
  a_settled : Addr
  fd_settled : FuncData
  F_settled : Fun K "settled" "settled" s_settled a_settled fd_settled
  g_settled : mg "settled" = some (.ref a_settled)
  b_settled : Binds K fd_settled ["lead", "scores", "order"] []
  a_is_integer : Addr
  fd_is_integer : FuncData
  F_is_integer : Fun K "is_integer" "is_integer" s_is_integer a_is_integer fd_is_integer
  g_is_integer : mg "is_integer" = some (.ref a_is_integer)
  b_is_integer : Binds K fd_is_integer ["value"] []
  a_is_index : Addr
  fd_is_index : FuncData
  F_is_index : Fun K "is_index" "is_index" s_is_index a_is_index fd_is_index
  g_is_index : mg "is_index" = some (.ref a_is_index)
  b_is_index : Binds K fd_is_index ["value", "many"] []
  a_is_list : Addr
  fd_is_list : FuncData
  F_is_list : Fun K "is_list" "is_list" s_is_list a_is_list fd_is_list
  g_is_list : mg "is_list" = some (.ref a_is_list)
  b_is_list : Binds K fd_is_list ["value"] []
  a_are_scores : Addr
  fd_are_scores : FuncData
  F_are_scores : Fun K "are_scores" "are_scores" s_are_scores a_are_scores fd_are_scores
  g_are_scores : mg "are_scores" = some (.ref a_are_scores)
  b_are_scores : Binds K fd_are_scores ["value"] []
  a_is_order_of : Addr
  fd_is_order_of : FuncData
  F_is_order_of : Fun K "is_order_of" "is_order_of" s_is_order_of a_is_order_of fd_is_order_of
  g_is_order_of : mg "is_order_of" = some (.ref a_is_order_of)
  b_is_order_of : Binds K fd_is_order_of ["many", "value"] []
  a_check_lead : Addr
  fd_check_lead : FuncData
  F_check_lead : Fun K "check_lead" "check_lead" s_check_lead a_check_lead fd_check_lead
  g_check_lead : mg "check_lead" = some (.ref a_check_lead)
  b_check_lead : Binds K fd_check_lead ["lead"] []
  a_check_scores : Addr
  fd_check_scores : FuncData
  F_check_scores : Fun K "check_scores" "check_scores" s_check_scores a_check_scores fd_check_scores
  g_check_scores : mg "check_scores" = some (.ref a_check_scores)
  b_check_scores : Binds K fd_check_scores ["scores"] []
  a_check_order : Addr
  fd_check_order : FuncData
  F_check_order : Fun K "check_order" "check_order" s_check_order a_check_order fd_check_order
  g_check_order : mg "check_order" = some (.ref a_check_order)
  b_check_order : Binds K fd_check_order ["scores", "order"] []
  a_check_entry : Addr
  fd_check_entry : FuncData
  F_check_entry : Fun K "check_entry" "check_entry" s_check_entry a_check_entry fd_check_entry
  g_check_entry : mg "check_entry" = some (.ref a_check_entry)
  b_check_entry : Binds K fd_check_entry ["scores", "entry"] []
  a_check_score : Addr
  fd_check_score : FuncData
  F_check_score : Fun K "check_score" "check_score" s_check_score a_check_score fd_check_score
  g_check_score : mg "check_score" = some (.ref a_check_score)
  b_check_score : Binds K fd_check_score ["score"] []
  a_check_ranking : Addr
  fd_check_ranking : FuncData
  F_check_ranking : Fun K "check_ranking" "check_ranking" s_check_ranking a_check_ranking fd_check_ranking
  g_check_ranking : mg "check_ranking" = some (.ref a_check_ranking)
  b_check_ranking : Binds K fd_check_ranking ["lead", "scores", "order"] []
  a_with_score : Addr
  fd_with_score : FuncData
  F_with_score : Fun K "with_score" "with_score" s_with_score a_with_score fd_with_score
  g_with_score : mg "with_score" = some (.ref a_with_score)
  b_with_score : Binds K fd_with_score ["lead", "scores", "order", "entry", "score"] []
  a_source : Addr
  fd_source : FuncData
  F_source : Fun K "_law_source" "_law_source" s_source a_source fd_source
  g_source : mg "_law_source" = some (.ref a_source)
  b_source : Binds K fd_source ["cell", "k"] []
  a_draw : Addr
  fd_draw : FuncData
  F_draw : Fun K "_law_draw" "_law_draw" s_draw a_draw fd_draw
  g_draw : mg "_law_draw" = some (.ref a_draw)
  b_draw : Binds K fd_draw ["source", "choices"] []
  a_shuffled : Addr
  fd_shuffled : FuncData
  F_shuffled : Fun K "_law_shuffled" "_law_shuffled" s_shuffled a_shuffled fd_shuffled
  g_shuffled : mg "_law_shuffled" = some (.ref a_shuffled)
  b_shuffled : Binds K fd_shuffled ["source", "items"] []
  a_gap : Addr
  fd_gap : FuncData
  F_gap : Fun K "_law_gap" "_law_gap" s_gap a_gap fd_gap
  g_gap : mg "_law_gap" = some (.ref a_gap)
  b_gap : Binds K fd_gap ["source"] []
  a_sums : Addr
  fd_sums : FuncData
  F_sums : Fun K "_law_sums" "_law_sums" s_sums a_sums fd_sums
  g_sums : mg "_law_sums" = some (.ref a_sums)
  b_sums : Binds K fd_sums ["source", "gap", "high"] []
  a_case : Addr
  fd_case : FuncData
  F_case : Fun K "_law_case" "_law_case" s_case a_case fd_case
  g_case : mg "_law_case" = some (.ref a_case)
  b_case : Binds K fd_case ["source", "high"] []
  a_left : Addr
  fd_left : FuncData
  F_left : Fun K "_law_left" "_law_left" s_left a_left fd_left
  g_left : mg "_law_left" = some (.ref a_left)
  b_left : Binds K fd_left ["gap", "sums", "line"] []
  a_right : Addr
  fd_right : FuncData
  F_right : Fun K "_law_right" "_law_right" s_right a_right fd_right
  g_right : mg "_law_right" = some (.ref a_right)
  b_right : Binds K fd_right ["gap", "sums", "line", "one", "points"] []
  a_holds : Addr
  fd_holds : FuncData
  F_holds : Fun K "_law_holds" "_law_holds" s_holds a_holds fd_holds
  g_holds : mg "_law_holds" = some (.ref a_holds)
  b_holds : Binds K fd_holds ["source", "most"] []
  a_law : Addr
  fd_law : FuncData
  F_law : Fun K "law" "law" s_law a_law fd_law
  g_law : mg "law" = some (.ref a_law)
  b_law : Binds K fd_law ["script"] []
  kb_with_score_43210 : KB K fd_with_score ["lead", "scores", "order", "entry", "score"] ["score", "entry", "order", "scores", "lead"] [4, 3, 2, 1, 0]
  n_abs : mg "abs" = none
  n_all : mg "all" = none
  n_bool : mg "bool" = none
  n_enumerate : mg "enumerate" = none
  n_int : mg "int" = none
  n_isinstance : mg "isinstance" = none
  n_len : mg "len" = none
  n_list : mg "list" = none
  n_max : mg "max" = none
  n_min : mg "min" = none
  n_range : mg "range" = none
  n_repr : mg "repr" = none
  n_set : mg "set" = none
  n_sorted : mg "sorted" = none
  n_type : mg "type" = none
  t_MOST_ENTRIES : Tok
  c_MOST_ENTRIES : mg "MOST_ENTRIES" = some (.int 28 t_MOST_ENTRIES)
  bt_law : ∀ (s : Shared) (v : Value), BindsTo s fd_law ⟨[v], []⟩ [("script", v)]
section
variable {P : Program} {w : World} {K : PySem.W.Frag} {mg : Str → Option Value} {base : Heap}
theorem ok_rescored (T : Txt K mg) : FnOk P w K mg base CX0 1 T.a_rescored T.fd_rescored ["scores", "entry", "score"] (sp_rescored K) := by
  refine T.F_rescored.ok sc_rescored (fun vs H Q E h => by
    unfold sp_rescored at h
    (repeat (obtain ⟨_, h⟩ := h))
    rename vs = _ => e
    rw [e] <;> rfl) (fun cdv A outer s H vs Q E hr h => ⟨t_rescored K, ?_, r_rescored h⟩)
  have nd := sc_rescored.nd
  exact pss_one (ps_ret (pe_op op_catP (pe_op op_catP (pe_slice sl_list (pv 0) (po_none) (po_some (pv 1))) (pe_lst (pa_cons (pv 2) (pa_nil)))) (pe_slice sl_list (pv 0) (po_some (pe_op op_add (pv 1) (pe_int))) (po_none))))
theorem ok_settled (T : Txt K mg) : FnOk P w K mg base CX0 1 T.a_settled T.fd_settled ["lead", "scores", "order"] (sp_settled K) := by
  refine T.F_settled.ok sc_settled (fun vs H Q E h => by
    unfold sp_settled at h
    (repeat (obtain ⟨_, h⟩ := h))
    rename vs = _ => e
    rw [e] <;> rfl) (fun cdv A outer s H vs Q E hr h => ⟨t_settled K, ?_, r_settled h⟩)
  have nd := sc_settled.nd
  exact pss_cons (ps_set (i := 3) nd rfl (Or.inl rfl) (pe_lst (pa_nil))) (pss_cons (ps_for PassesOwn.never rfl (pi_list (pv 2)) (pg_name (i := 4) nd rfl (Or.inl rfl)) (pss_cons (ps_set (i := 5) nd rfl (Or.inl rfl) (pe_callB call_len_seq (by rfl) T.n_len (by decide +kernel) (pa_cons (pv 3) (pa_nil)))) (pss_cons (ps_while PassesOwn.never (PW.pt (pw_and (pt_cmpR op_gt (pv 5) (pe_int) (nomark _)) (pw_and1 (pt_cmpR op_ge (pe_op op_sub (pe_ix ix_list (pv 1) (pv 4) (fun _ _ => rfl)) (pe_ix ix_list (pv 1) (pe_ix ix_list (pv 3) (pe_op op_sub (pv 5) (pe_int)) (fun _ _ => rfl)) (fun _ _ => rfl))) (pv 0) (nomark _))))) (pss_one (ps_aug (i := 5) nd rfl (Or.inl rfl) (pe_int) ip_sub))) (pss_one (ps_expr (pe_bm PySem.F.plainAttrs_list PySem.F.slot_list_insert PySem.F.type_list_insert mt_insert (pv 3) (pa_cons (pv 5) (pa_cons (pv 4) (pa_nil))))))))) (pss_one (ps_ret (pv 3))))
theorem ok_is_integer (T : Txt K mg) : FnOk P w K mg base CX0 1 T.a_is_integer T.fd_is_integer ["value"] (sp_is_integer K) := by
  refine T.F_is_integer.ok sc_is_integer (fun vs H Q E h => by
    unfold sp_is_integer at h
    (repeat (obtain ⟨_, h⟩ := h))
    rename vs = _ => e
    rw [e] <;> rfl) (fun cdv A outer s H vs Q E hr h => ⟨t_is_integer K, ?_, r_is_integer h⟩)
  have nd := sc_is_integer.nd
  exact pss_one (ps_ret (pe_and (pe_callB call_isi (by rfl) T.n_isinstance (by decide +kernel) (pa_cons (pv 0) (pa_cons (pe_bltn (by rfl) T.n_int (by decide +kernel) rfl) (pa_nil)))) (pe_one (pe_not (pe_callB call_isi (by rfl) T.n_isinstance (by decide +kernel) (pa_cons (pv 0) (pa_cons (pe_bltn (by rfl) T.n_bool (by decide +kernel) rfl) (pa_nil))))))))
theorem ok_is_index (T : Txt K mg) (G_is_integer : FnOk P w K mg base CX0 1 T.a_is_integer T.fd_is_integer ["value"] (sp_is_integer K)) : FnOk P w K mg base CX0 2 T.a_is_index T.fd_is_index ["value", "many"] (sp_is_index K) := by
  refine T.F_is_index.ok sc_is_index (fun vs H Q E h => by
    unfold sp_is_index at h
    (repeat (obtain ⟨_, h⟩ := h))
    rename vs = _ => e
    rw [e] <;> rfl) (fun cdv A outer s H vs Q E hr h => ⟨t_is_index K, ?_, r_is_index h⟩)
  have nd := sc_is_index.nd
  exact pss_one (ps_ret (pe_and (pe_call G_is_integer (hr.mono (by decide)) (by rfl) T.g_is_integer T.F_is_integer.kp T.b_is_integer .nil pass0 (pa_cons (pv 0) (pa_nil))) (pe_one (pe_chain op_le op_lt (pe_int) (pv 0) (pv 1)))))
theorem ok_is_list (T : Txt K mg) : FnOk P w K mg base CX0 1 T.a_is_list T.fd_is_list ["value"] (sp_is_list K) := by
  refine T.F_is_list.ok sc_is_list (fun vs H Q E h => by
    unfold sp_is_list at h
    (repeat (obtain ⟨_, h⟩ := h))
    rename vs = _ => e
    rw [e] <;> rfl) (fun cdv A outer s H vs Q E hr h => ⟨t_is_list K, ?_, r_is_list h⟩)
  have nd := sc_is_list.nd
  exact pss_one (ps_ret (pe_cmpR op_eqTy (pe_callTy call_type1 (by rfl) T.n_type (by decide +kernel) (pa_cons (pv 0) (pa_nil))) (pe_bltn (by rfl) T.n_list (by decide +kernel) rfl) (nomark _)))
theorem ok_are_scores (T : Txt K mg) (G_is_integer : FnOk P w K mg base CX0 1 T.a_is_integer T.fd_is_integer ["value"] (sp_is_integer K)) (G_is_list : FnOk P w K mg base CX0 1 T.a_is_list T.fd_is_list ["value"] (sp_is_list K)) : FnOk P w K mg base CX0 2 T.a_are_scores T.fd_are_scores ["value"] (sp_are_scores K) := by
  refine T.F_are_scores.ok sc_are_scores (fun vs H Q E h => by
    unfold sp_are_scores at h
    (repeat (obtain ⟨_, h⟩ := h))
    rename vs = _ => e
    rw [e] <;> rfl) (fun cdv A outer s H vs Q E hr h => ⟨t_are_scores K, ?_, r_are_scores h⟩)
  have nd := sc_are_scores.nd
  exact pss_cons (ps_if (PW.pt (pw_or (pt_not (pt_val (pe_call G_is_list (hr.mono (by decide)) (by rfl) T.g_is_list T.F_is_list.kp T.b_is_list .nil pass0 (pa_cons (pv 0) (pa_nil))))) (pw_or1 (pt_not (pt_chain op_le op_le (pe_int) (pe_callB call_len_seq (by rfl) T.n_len (by decide +kernel) (pa_cons (pv 0) (pa_nil))) (pe_glob rfl T.c_MOST_ENTRIES ⟨_, rfl⟩)))))) (pss_one (ps_ret (pe_bl))) (pss_nil)) (pss_one (ps_ret (pe_callB (cr_all rfl) (by rfl) T.n_all (by decide +kernel) (pa_cons (pe_lc (own := [("item", 1)]) (g := gName 1) (tt := tYes) (by rfl) nd (pi_list (pv 0)) (blkOk_by (own := [("item", 1)]) (N := ["value", "item"]) (sc := defScope s_are_scores) (by decide +kernel)) (fun _ _ _ _ _ => pg_name (i := 1) nd rfl (Or.inl rfl)) (fun _ _ _ _ _ => pts_nil) (fun _ _ _ _ _ => pe_call G_is_integer (hr.mono (by decide)) (by rfl) T.g_is_integer T.F_is_integer.kp T.b_is_integer .nil pass0 (pa_cons (pv 1) (pa_nil)))) (pa_nil)))))
theorem ok_is_order_of (T : Txt K mg) (G_is_integer : FnOk P w K mg base CX0 1 T.a_is_integer T.fd_is_integer ["value"] (sp_is_integer K)) (G_is_list : FnOk P w K mg base CX0 1 T.a_is_list T.fd_is_list ["value"] (sp_is_list K)) : FnOk P w K mg base CX0 2 T.a_is_order_of T.fd_is_order_of ["many", "value"] (sp_is_order_of K) := by
  refine T.F_is_order_of.ok sc_is_order_of (fun vs H Q E h => by
    unfold sp_is_order_of at h
    (repeat (obtain ⟨_, h⟩ := h))
    rename vs = _ => e
    rw [e] <;> rfl) (fun cdv A outer s H vs Q E hr h => ⟨t_is_order_of K, ?_, r_is_order_of h⟩)
  have nd := sc_is_order_of.nd
  exact pss_cons (ps_if (PW.pt (pw_or (pt_not (pt_val (pe_call G_is_list (hr.mono (by decide)) (by rfl) T.g_is_list T.F_is_list.kp T.b_is_list .nil pass0 (pa_cons (pv 1) (pa_nil))))) (pw_or1 (pt_not (pt_val (pe_callB (cr_all rfl) (by rfl) T.n_all (by decide +kernel) (pa_cons (pe_lc (own := [("item", 2)]) (g := gName 2) (tt := tYes) (by rfl) nd (pi_list (pv 1)) (blkOk_by (own := [("item", 2)]) (N := ["many", "value", "item"]) (sc := defScope s_is_order_of) (by decide +kernel)) (fun _ _ _ _ _ => pg_name (i := 2) nd rfl (Or.inl rfl)) (fun _ _ _ _ _ => pts_nil) (fun _ _ _ _ _ => pe_call G_is_integer (hr.mono (by decide)) (by rfl) T.g_is_integer T.F_is_integer.kp T.b_is_integer .nil pass0 (pa_cons (pv 2) (pa_nil)))) (pa_nil)))))))) (pss_one (ps_ret (pe_bl))) (pss_nil)) (pss_one (ps_ret (pe_cmpR (op_eqD hr.units) (pe_callB cr_sorted (by rfl) T.n_sorted (by decide +kernel) (pa_cons (pv 1) (pa_nil))) (pe_listRg rfl (by rfl) T.n_list (prg_1 (by rfl) T.n_range (pv 0))) (nomark _))))
theorem ok_check_lead (T : Txt K mg) (G_is_integer : FnOk P w K mg base CX0 1 T.a_is_integer T.fd_is_integer ["value"] (sp_is_integer K)) : FnOk P w K mg base CX0 2 T.a_check_lead T.fd_check_lead ["lead"] (sp_check_lead K) := by
  refine T.F_check_lead.ok sc_check_lead (fun vs H Q E h => by
    unfold sp_check_lead at h
    (repeat (obtain ⟨_, h⟩ := h))
    rename vs = _ => e
    rw [e] <;> rfl) (fun cdv A outer s H vs Q E hr h => ⟨t_check_lead K, ?_, r_check_lead h⟩)
  have nd := sc_check_lead.nd
  exact pss_one (ps_if (PW.pt (pw_or (pt_not (pt_val (pe_call G_is_integer (hr.mono (by decide)) (by rfl) T.g_is_integer T.F_is_integer.kp T.b_is_integer .nil pass0 (pa_cons (pv 0) (pa_nil))))) (pw_or1 (pt_cmpR op_lt (pv 0) (pe_int) (nomark _))))) (pss_one (ps_never)) (pss_nil))
theorem ok_check_scores (T : Txt K mg) (G_are_scores : FnOk P w K mg base CX0 2 T.a_are_scores T.fd_are_scores ["value"] (sp_are_scores K)) : FnOk P w K mg base CX0 3 T.a_check_scores T.fd_check_scores ["scores"] (sp_check_scores K) := by
  refine T.F_check_scores.ok sc_check_scores (fun vs H Q E h => by
    unfold sp_check_scores at h
    (repeat (obtain ⟨_, h⟩ := h))
    rename vs = _ => e
    rw [e] <;> rfl) (fun cdv A outer s H vs Q E hr h => ⟨t_check_scores K, ?_, r_check_scores h⟩)
  have nd := sc_check_scores.nd
  exact pss_one (ps_if (pt_not (pt_val (pe_call G_are_scores (hr.mono (by decide)) (by rfl) T.g_are_scores T.F_are_scores.kp T.b_are_scores .nil pass0 (pa_cons (pv 0) (pa_nil))))) (pss_one (ps_never)) (pss_nil))
theorem ok_check_order (T : Txt K mg) (G_is_order_of : FnOk P w K mg base CX0 2 T.a_is_order_of T.fd_is_order_of ["many", "value"] (sp_is_order_of K)) : FnOk P w K mg base CX0 3 T.a_check_order T.fd_check_order ["scores", "order"] (sp_check_order K) := by
  refine T.F_check_order.ok sc_check_order (fun vs H Q E h => by
    unfold sp_check_order at h
    (repeat (obtain ⟨_, h⟩ := h))
    rename vs = _ => e
    rw [e] <;> rfl) (fun cdv A outer s H vs Q E hr h => ⟨t_check_order K, ?_, r_check_order h⟩)
  have nd := sc_check_order.nd
  exact pss_one (ps_if (pt_not (pt_val (pe_call G_is_order_of (hr.mono (by decide)) (by rfl) T.g_is_order_of T.F_is_order_of.kp T.b_is_order_of .nil pass0 (pa_cons (pe_callB call_len_seq (by rfl) T.n_len (by decide +kernel) (pa_cons (pv 0) (pa_nil))) (pa_cons (pv 1) (pa_nil)))))) (pss_one (ps_never)) (pss_nil))
theorem ok_check_entry (T : Txt K mg) (G_is_index : FnOk P w K mg base CX0 2 T.a_is_index T.fd_is_index ["value", "many"] (sp_is_index K)) : FnOk P w K mg base CX0 3 T.a_check_entry T.fd_check_entry ["scores", "entry"] (sp_check_entry K) := by
  refine T.F_check_entry.ok sc_check_entry (fun vs H Q E h => by
    unfold sp_check_entry at h
    (repeat (obtain ⟨_, h⟩ := h))
    rename vs = _ => e
    rw [e] <;> rfl) (fun cdv A outer s H vs Q E hr h => ⟨t_check_entry K, ?_, r_check_entry h⟩)
  have nd := sc_check_entry.nd
  exact pss_one (ps_if (pt_not (pt_val (pe_call G_is_index (hr.mono (by decide)) (by rfl) T.g_is_index T.F_is_index.kp T.b_is_index .nil pass0 (pa_cons (pv 1) (pa_cons (pe_callB call_len_seq (by rfl) T.n_len (by decide +kernel) (pa_cons (pv 0) (pa_nil))) (pa_nil)))))) (pss_one (ps_never)) (pss_nil))
theorem ok_check_score (T : Txt K mg) (G_is_integer : FnOk P w K mg base CX0 1 T.a_is_integer T.fd_is_integer ["value"] (sp_is_integer K)) : FnOk P w K mg base CX0 2 T.a_check_score T.fd_check_score ["score"] (sp_check_score K) := by
  refine T.F_check_score.ok sc_check_score (fun vs H Q E h => by
    unfold sp_check_score at h
    (repeat (obtain ⟨_, h⟩ := h))
    rename vs = _ => e
    rw [e] <;> rfl) (fun cdv A outer s H vs Q E hr h => ⟨t_check_score K, ?_, r_check_score h⟩)
  have nd := sc_check_score.nd
  exact pss_one (ps_if (pt_not (pt_val (pe_call G_is_integer (hr.mono (by decide)) (by rfl) T.g_is_integer T.F_is_integer.kp T.b_is_integer .nil pass0 (pa_cons (pv 0) (pa_nil))))) (pss_one (ps_never)) (pss_nil))
theorem ok_check_ranking (T : Txt K mg) (G_check_lead : FnOk P w K mg base CX0 2 T.a_check_lead T.fd_check_lead ["lead"] (sp_check_lead K)) (G_check_order : FnOk P w K mg base CX0 3 T.a_check_order T.fd_check_order ["scores", "order"] (sp_check_order K)) (G_check_scores : FnOk P w K mg base CX0 3 T.a_check_scores T.fd_check_scores ["scores"] (sp_check_scores K)) : FnOk P w K mg base CX0 4 T.a_check_ranking T.fd_check_ranking ["lead", "scores", "order"] (sp_check_ranking K) := by
  refine T.F_check_ranking.ok sc_check_ranking (fun vs H Q E h => by
    unfold sp_check_ranking at h
    (repeat (obtain ⟨_, h⟩ := h))
    rename vs = _ => e
    rw [e] <;> rfl) (fun cdv A outer s H vs Q E hr h => ⟨t_check_ranking K, ?_, r_check_ranking h⟩)
  have nd := sc_check_ranking.nd
  exact pss_cons (ps_expr (pe_call G_check_lead (hr.mono (by decide)) (by rfl) T.g_check_lead T.F_check_lead.kp T.b_check_lead .nil pass0 (pa_cons (pv 0) (pa_nil)))) (pss_cons (ps_expr (pe_call G_check_scores (hr.mono (by decide)) (by rfl) T.g_check_scores T.F_check_scores.kp T.b_check_scores .nil pass0 (pa_cons (pv 1) (pa_nil)))) (pss_one (ps_expr (pe_call G_check_order (hr.mono (by decide)) (by rfl) T.g_check_order T.F_check_order.kp T.b_check_order .nil pass0 (pa_cons (pv 1) (pa_cons (pv 2) (pa_nil)))))))
theorem ok_with_score (T : Txt K mg) (G_check_entry : FnOk P w K mg base CX0 3 T.a_check_entry T.fd_check_entry ["scores", "entry"] (sp_check_entry K)) (G_check_ranking : FnOk P w K mg base CX0 4 T.a_check_ranking T.fd_check_ranking ["lead", "scores", "order"] (sp_check_ranking K)) (G_check_score : FnOk P w K mg base CX0 2 T.a_check_score T.fd_check_score ["score"] (sp_check_score K)) (G_rescored : FnOk P w K mg base CX0 1 T.a_rescored T.fd_rescored ["scores", "entry", "score"] (sp_rescored K)) (G_settled : FnOk P w K mg base CX0 1 T.a_settled T.fd_settled ["lead", "scores", "order"] (sp_settled K)) : FnOk P w K mg base CX0 5 T.a_with_score T.fd_with_score ["lead", "scores", "order", "entry", "score"] (sp_with_score K) := by
  refine T.F_with_score.ok sc_with_score (fun vs H Q E h => by
    unfold sp_with_score at h
    (repeat (obtain ⟨_, h⟩ := h))
    rename vs = _ => e
    rw [e] <;> rfl) (fun cdv A outer s H vs Q E hr h => ⟨t_with_score K, ?_, r_with_score h⟩)
  have nd := sc_with_score.nd
  exact pss_cons (ps_expr (pe_call G_check_ranking (hr.mono (by decide)) (by rfl) T.g_check_ranking T.F_check_ranking.kp T.b_check_ranking .nil pass0 (pa_cons (pv 0) (pa_cons (pv 1) (pa_cons (pv 2) (pa_nil)))))) (pss_cons (ps_expr (pe_call G_check_entry (hr.mono (by decide)) (by rfl) T.g_check_entry T.F_check_entry.kp T.b_check_entry .nil pass0 (pa_cons (pv 1) (pa_cons (pv 3) (pa_nil))))) (pss_cons (ps_expr (pe_call G_check_score (hr.mono (by decide)) (by rfl) T.g_check_score T.F_check_score.kp T.b_check_score .nil pass0 (pa_cons (pv 4) (pa_nil)))) (pss_one (ps_ret (pe_call G_settled (hr.mono (by decide)) (by rfl) T.g_settled T.F_settled.kp T.b_settled .nil pass0 (pa_cons (pv 0) (pa_cons (pe_call G_rescored (hr.mono (by decide)) (by rfl) T.g_rescored T.F_rescored.kp T.b_rescored .nil pass0 (pa_cons (pv 1) (pa_cons (pv 3) (pa_cons (pv 4) (pa_nil))))) (pa_cons (pv 2) (pa_nil)))))))))
theorem ok_source (T : Txt K mg) : FnOk P w K mg base CX0 1 T.a_source T.fd_source ["cell", "k"] (sp_source K) := by
  refine T.F_source.ok sc_source (fun vs H Q E h => by
    unfold sp_source at h
    (repeat (obtain ⟨_, h⟩ := h))
    rename vs = _ => e
    rw [e] <;> rfl) (fun cdv A outer s H vs Q E hr h => ⟨t_source K, ?_, r_source h⟩)
  have nd := sc_source.nd
  exact pss_one (ps_ret (pe_lst (pa_cons (pe_callB (call_max2 rfl) (by rfl) T.n_max (by decide +kernel) (pa_cons (pe_int) (pa_cons (pe_op op_sub (pv 0) (pe_op op_powW (pe_int) (pe_int))) (pa_nil)))) (pa_cons (pe_op op_add (pe_op op_mul (pe_op op_mod (pv 0) (pe_op op_add (pe_op op_powW (pe_int) (pe_int)) (pe_int))) (pe_int)) (pv 1)) (pa_cons (pe_int) (pa_nil))))))
theorem ok_draw (T : Txt K mg) : FnOk P w K mg base CX0 1 T.a_draw T.fd_draw ["source", "choices"] (sp_draw K) := by
  refine T.F_draw.ok sc_draw (fun vs H Q E h => by
    unfold sp_draw at h
    (repeat (obtain ⟨_, h⟩ := h))
    rename vs = _ => e
    rw [e] <;> rfl) (fun cdv A outer s H vs Q E hr h => ⟨t_draw K, ?_, r_draw h⟩)
  have nd := sc_draw.nd
  exact pss_cons (ps_if (pt_cmpR op_gt (pe_ix ix_list (pv 0) (pe_int) (fun _ _ => rfl)) (pe_int) (nomark _)) (pss_cons (ps_set (i := 2) nd rfl (Or.inl rfl) (pe_op op_mod (pe_ix ix_list (pv 0) (pe_int) (fun _ _ => rfl)) (pv 1))) (pss_cons (ps_asg (pe_op op_fdivW (pe_ix ix_list (pv 0) (pe_int) (fun _ _ => rfl)) (pv 1)) (pg_sub (pv 0) (pe_int) set_list)) (pss_one (ps_ret (pv 2))))) (pss_nil)) (pss_cons (ps_asg (pe_op op_add (pe_ix ix_list (pv 0) (pe_int) (fun _ _ => rfl)) (pe_int)) (pg_sub (pv 0) (pe_int) set_list)) (pss_cons (ps_set (i := 3) nd rfl (Or.inl rfl) (pe_op op_mod (pe_op op_powW (pe_op op_add (pe_ix ix_list (pv 0) (pe_int) (fun _ _ => rfl)) (pe_op op_mul (pe_int) (pe_ix ix_list (pv 0) (pe_int) (fun _ _ => rfl)))) (pe_int)) (pe_op op_add (pe_op op_powW (pe_int) (pe_int)) (pe_int)))) (pss_cons (ps_set (i := 3) nd rfl (Or.inl rfl) (pe_op op_mod (pe_op op_powW (pe_op op_add (pv 3) (pe_op op_mul (pe_int) (pe_ix ix_list (pv 0) (pe_int) (fun _ _ => rfl)))) (pe_int)) (pe_op op_add (pe_op op_powW (pe_int) (pe_int)) (pe_int)))) (pss_one (ps_ret (pe_op op_mod (pe_op op_fdivW (pv 3) (pe_int)) (pv 1)))))))
theorem ok_shuffled (T : Txt K mg) (G_draw : FnOk P w K mg base CX0 1 T.a_draw T.fd_draw ["source", "choices"] (sp_draw K)) : FnOk P w K mg base CX0 2 T.a_shuffled T.fd_shuffled ["source", "items"] (sp_shuffled K) := by
  refine T.F_shuffled.ok sc_shuffled (fun vs H Q E h => by
    unfold sp_shuffled at h
    (repeat (obtain ⟨_, h⟩ := h))
    rename vs = _ => e
    rw [e] <;> rfl) (fun cdv A outer s H vs Q E hr h => ⟨t_shuffled K, ?_, r_shuffled h⟩)
  have nd := sc_shuffled.nd
  exact pss_cons (ps_set (i := 2) nd rfl (Or.inr rfl) (pe_callTy call_list_of (by rfl) T.n_list (by decide +kernel) (pa_cons (pv 1) (pa_nil)))) (pss_one (ps_ret (pe_lc (own := [("lap", 3)]) (g := gName 3) (tt := tYes) (by rfl) nd (pi_range1 (by rfl) T.n_range (pa_cons (pe_callB call_len_seq (by rfl) T.n_len (by decide +kernel) (pa_cons (pv 2) (pa_nil))) (pa_nil))) (blkOk_by (own := [("lap", 3)]) (N := ["source", "items", "left", "lap"]) (sc := defScope s_shuffled) (by decide +kernel)) (fun _ _ _ _ _ => pg_name (i := 3) nd rfl (Or.inl rfl)) (fun _ _ _ _ _ => pts_nil) (fun _ _ _ _ _ => pe_bm PySem.F.plainAttrs_list PySem.F.slot_list_pop PySem.F.type_list_pop mt_popAt (pv 2) (pa_cons (pe_call G_draw (hr.mono (by decide)) (by rfl) T.g_draw T.F_draw.kp T.b_draw .nil pass0 (pa_cons (pv 0) (pa_cons (pe_callB call_len_seq (by rfl) T.n_len (by decide +kernel) (pa_cons (pv 2) (pa_nil))) (pa_nil)))) (pa_nil))))))
theorem ok_gap (T : Txt K mg) (G_draw : FnOk P w K mg base CX0 1 T.a_draw T.fd_draw ["source", "choices"] (sp_draw K)) : FnOk P w K mg base CX0 2 T.a_gap T.fd_gap ["source"] (sp_gap K) := by
  refine T.F_gap.ok sc_gap (fun vs H Q E h => by
    unfold sp_gap at h
    (repeat (obtain ⟨_, h⟩ := h))
    rename vs = _ => e
    rw [e] <;> rfl) (fun cdv A outer s H vs Q E hr h => ⟨t_gap K, ?_, r_gap h⟩)
  have nd := sc_gap.nd
  exact pss_one (ps_ret (pe_ix ix_list (pe_lst (pa_cons (pe_int) (pa_cons (pe_int) (pa_cons (pe_int) (pa_cons (pe_op op_add (pe_int) (pe_call G_draw (hr.mono (by decide)) (by rfl) T.g_draw T.F_draw.kp T.b_draw .nil pass0 (pa_cons (pv 0) (pa_cons (pe_int) (pa_nil))))) (pa_cons (pe_op op_add (pe_int) (pe_call G_draw (hr.mono (by decide)) (by rfl) T.g_draw T.F_draw.kp T.b_draw .nil pass0 (pa_cons (pv 0) (pa_cons (pe_op op_sub (pe_op op_powW (pe_int) (pe_int)) (pe_int)) (pa_nil))))) (pa_nil))))))) (pe_call G_draw (hr.mono (by decide)) (by rfl) T.g_draw T.F_draw.kp T.b_draw .nil pass0 (pa_cons (pv 0) (pa_cons (pe_int) (pa_nil)))) (fun _ _ => rfl)))
theorem ok_sums (T : Txt K mg) (G_draw : FnOk P w K mg base CX0 1 T.a_draw T.fd_draw ["source", "choices"] (sp_draw K)) : FnOk P w K mg base CX0 2 T.a_sums T.fd_sums ["source", "gap", "high"] (sp_sums K) := by
  refine T.F_sums.ok sc_sums (fun vs H Q E h => by
    unfold sp_sums at h
    (repeat (obtain ⟨_, h⟩ := h))
    rename vs = _ => e
    rw [e] <;> rfl) (fun cdv A outer s H vs Q E hr h => ⟨t_sums K, ?_, r_sums h⟩)
  have nd := sc_sums.nd
  exact pss_cons (ps_set (i := 3) nd rfl (Or.inl rfl) (pe_ix ix_list (pe_lst (pa_cons (pe_op op_add (pe_int) (pe_call G_draw (hr.mono (by decide)) (by rfl) T.g_draw T.F_draw.kp T.b_draw .nil pass0 (pa_cons (pv 0) (pa_cons (pe_callB (call_min2 rfl) (by rfl) T.n_min (by decide +kernel) (pa_cons (pv 2) (pa_cons (pe_int) (pa_nil)))) (pa_nil))))) (pa_cons (pe_op op_add (pe_int) (pe_call G_draw (hr.mono (by decide)) (by rfl) T.g_draw T.F_draw.kp T.b_draw .nil pass0 (pa_cons (pv 0) (pa_cons (pv 2) (pa_nil))))) (pa_cons (pv 2) (pa_nil))))) (pe_call G_draw (hr.mono (by decide)) (by rfl) T.g_draw T.F_draw.kp T.b_draw .nil pass0 (pa_cons (pv 0) (pa_cons (pe_int) (pa_nil)))) (fun _ _ => rfl))) (pss_cons (ps_par3 (i := 4) (j := 5) (l := 6) (by rfl) nd rfl rfl rfl (by decide) (by decide) (by decide) rfl rfl rfl (pa_cons (pe_call G_draw (hr.mono (by decide)) (by rfl) T.g_draw T.F_draw.kp T.b_draw .nil pass0 (pa_cons (pv 0) (pa_cons (pe_int) (pa_nil)))) (pa_cons (pe_call G_draw (hr.mono (by decide)) (by rfl) T.g_draw T.F_draw.kp T.b_draw .nil pass0 (pa_cons (pv 0) (pa_cons (pe_op op_powW (pe_int) (pe_int)) (pa_nil)))) (pa_cons (pe_lst (pa_nil)) (pa_nil)))) (by rfl)) (pss_cons (ps_for PassesOwn.never rfl (pi_range1 (by rfl) T.n_range (pa_cons (pv 3) (pa_nil))) (pg_name (i := 7) nd rfl (Or.inl rfl)) (pss_cons (ps_set (i := 8) nd rfl (Or.inl rfl) (pe_lst (pa_cons (pe_call G_draw (hr.mono (by decide)) (by rfl) T.g_draw T.F_draw.kp T.b_draw .nil pass0 (pa_cons (pv 0) (pa_cons (pe_int) (pa_nil)))) (pa_cons (pe_call G_draw (hr.mono (by decide)) (by rfl) T.g_draw T.F_draw.kp T.b_draw .nil pass0 (pa_cons (pv 0) (pa_cons (pe_callB (call_min2 rfl) (by rfl) T.n_min (by decide +kernel) (pa_cons (pe_op op_add (pe_op op_mul (pe_int) (pv 1)) (pe_int)) (pa_cons (pe_op op_powW (pe_int) (pe_int)) (pa_nil)))) (pa_nil)))) (pa_nil))))) (pss_cons (ps_expr (pe_bm PySem.F.plainAttrs_list PySem.F.slot_list_append PySem.F.type_list_append mt_append (pv 8) (pa_cons (pe_op op_add (pe_op op_mul (pv 7) (pe_callB (call_min2 rfl) (by rfl) T.n_min (by decide +kernel) (pa_cons (pe_op op_sub (pv 1) (pe_int)) (pa_cons (pe_op op_powW (pe_int) (pe_int)) (pa_nil))))) (pe_call G_draw (hr.mono (by decide)) (by rfl) T.g_draw T.F_draw.kp T.b_draw .nil pass0 (pa_cons (pv 0) (pa_cons (pe_int) (pa_nil))))) (pa_nil)))) (pss_cons (ps_set (i := 8) nd rfl (Or.inl rfl) (pe_op op_catP (pv 8) (pe_lst (pa_cons (pe_call G_draw (hr.mono (by decide)) (by rfl) T.g_draw T.F_draw.kp T.b_draw .nil pass0 (pa_cons (pv 0) (pa_cons (pe_op op_powW (pe_int) (pe_int)) (pa_nil)))) (pa_cons (pe_op op_add (pv 5) (pe_call G_draw (hr.mono (by decide)) (by rfl) T.g_draw T.F_draw.kp T.b_draw .nil pass0 (pa_cons (pv 0) (pa_cons (pe_int) (pa_nil))))) (pa_nil)))))) (pss_one (ps_expr (pe_bm PySem.F.plainAttrs_list PySem.F.slot_list_append PySem.F.type_list_append mt_append (pv 6) (pa_cons (pe_ix ix_list (pv 8) (pv 4) (fun _ _ => rfl)) (pa_nil))))))))) (pss_cons (ps_if (pt_cmpR op_eq (pe_call G_draw (hr.mono (by decide)) (by rfl) T.g_draw T.F_draw.kp T.b_draw .nil pass0 (pa_cons (pv 0) (pa_cons (pe_int) (pa_nil)))) (pe_int) (nomark _)) (pss_one (ps_setLc (i := 6) (own := [("one", 9)]) (g := gName 9) (by rfl) nd rfl rfl (sw_true rfl rfl rfl (by decide +kernel)) (pi_list (pv 6)) (blkOk_by (own := [("one", 9)]) (N := ["source", "gap", "high", "many", "way", "base", "found", "at", "some", "one"]) (sc := defScope s_sums) (by decide +kernel)) (fun _ _ _ _ _ => pg_name (i := 9) nd rfl (Or.inl rfl)) (fun _ _ _ _ _ => pts_nil) (fun _ _ _ _ _ => pe_op op_sub (pe_int) (pv 9)))) (pss_nil)) (pss_one (ps_ret (pe_ifExp (pt_cmpR op_eq (pe_call G_draw (hr.mono (by decide)) (by rfl) T.g_draw T.F_draw.kp T.b_draw .nil pass0 (pa_cons (pv 0) (pa_cons (pe_int) (pa_nil)))) (pe_int) (nomark _)) (pv 6) (pe_revL (pv 6))))))))
theorem ok_case (T : Txt K mg) (G_draw : FnOk P w K mg base CX0 1 T.a_draw T.fd_draw ["source", "choices"] (sp_draw K)) (G_gap : FnOk P w K mg base CX0 2 T.a_gap T.fd_gap ["source"] (sp_gap K)) (G_shuffled : FnOk P w K mg base CX0 2 T.a_shuffled T.fd_shuffled ["source", "items"] (sp_shuffled K)) (G_sums : FnOk P w K mg base CX0 2 T.a_sums T.fd_sums ["source", "gap", "high"] (sp_sums K)) : FnOk P w K mg base CX0 3 T.a_case T.fd_case ["source", "high"] (sp_case K) := by
  refine T.F_case.ok sc_case (fun vs H Q E h => by
    unfold sp_case at h
    (repeat (obtain ⟨_, h⟩ := h))
    rename vs = _ => e
    rw [e] <;> rfl) (fun cdv A outer s H vs Q E hr h => ⟨t_case K, ?_, r_case h⟩)
  have nd := sc_case.nd
  exact pss_cons (ps_set (i := 2) nd rfl (Or.inl rfl) (pe_call G_gap (hr.mono (by decide)) (by rfl) T.g_gap T.F_gap.kp T.b_gap .nil pass0 (pa_cons (pv 0) (pa_nil)))) (pss_cons (ps_set (i := 3) nd rfl (Or.inl rfl) (pe_call G_sums (hr.mono (by decide)) (by rfl) T.g_sums T.F_sums.kp T.b_sums .nil pass0 (pa_cons (pv 0) (pa_cons (pv 2) (pa_cons (pv 1) (pa_nil)))))) (pss_cons (ps_set (i := 4) nd rfl (Or.inl rfl) (pe_listRg rfl (by rfl) T.n_list (prg_1 (by rfl) T.n_range (pe_callB call_len_seq (by rfl) T.n_len (by decide +kernel) (pa_cons (pv 3) (pa_nil)))))) (pss_one (ps_ret (pe_lst (pa_cons (pv 2) (pa_cons (pv 3) (pa_cons (pe_ix ix_list (pe_lst (pa_cons (pe_call G_shuffled (hr.mono (by decide)) (by rfl) T.g_shuffled T.F_shuffled.kp T.b_shuffled .nil pass0 (pa_cons (pv 0) (pa_cons (pv 4) (pa_nil)))) (pa_cons (pv 4) (pa_cons (pe_revL (pv 4)) (pa_nil))))) (pe_call G_draw (hr.mono (by decide)) (by rfl) T.g_draw T.F_draw.kp T.b_draw .nil pass0 (pa_cons (pv 0) (pa_cons (pe_int) (pa_nil)))) (fun _ _ => rfl)) (pa_nil)))))))))
theorem ok_left (T : Txt K mg) : FnOk P w K mg base CX0 1 T.a_left T.fd_left ["gap", "sums", "line"] (sp_left K) := by
  refine T.F_left.ok sc_left (fun vs H Q E h => by
    unfold sp_left at h
    (repeat (obtain ⟨_, h⟩ := h))
    rename vs = _ => e
    rw [e] <;> rfl) (fun cdv A outer s H vs Q E hr h => ⟨t_left K, ?_, r_left h⟩)
  have nd := sc_left.nd
  exact pss_cons (ps_set (i := 3) nd rfl (Or.inl rfl) (pe_lst (pa_nil))) (pss_cons (ps_for PassesOwn.never rfl (pi_enum (by rfl) T.n_enumerate (pa_cons (pv 2) (pa_nil))) (pg_tup rfl (pgs_cons (pg_name (i := 4) nd rfl (Or.inl rfl)) (pgs_cons (pg_name (i := 5) nd rfl (Or.inl rfl)) (pgs_nil)))) (pss_cons (ps_set (i := 6) nd rfl (Or.inl rfl) (pe_lst (pa_nil))) (pss_cons (ps_for PassesOwn.never rfl (pi_range1 (by rfl) T.n_range (pa_cons (pv 4) (pa_nil))) (pg_name (i := 7) nd rfl (Or.inl rfl)) (pss_one (ps_if (pt_cmpR op_lt (pe_callB call_abs (by rfl) T.n_abs (by decide +kernel) (pa_cons (pe_op op_sub (pe_ix ix_list (pv 1) (pe_ix ix_list (pv 2) (pv 7) (fun _ _ => rfl)) (fun _ _ => rfl)) (pe_ix ix_list (pv 1) (pv 5) (fun _ _ => rfl))) (pa_nil))) (pv 0) (nomark _)) (pss_one (ps_set (i := 6) nd rfl (Or.inl rfl) (pe_op op_catP (pe_op op_catP (pv 6) (pe_lst (pa_cons (pe_ix ix_list (pv 2) (pv 7) (fun _ _ => rfl)) (pa_nil)))) (pe_ix ix_list (pv 3) (pv 7) (fun _ _ => rfl))))) (pss_nil)))) (pss_one (ps_expr (pe_bm PySem.F.plainAttrs_list PySem.F.slot_list_append PySem.F.type_list_append mt_append (pv 3) (pa_cons (pe_sortSet (pe_callB (cr_sortedSet rfl) (by rfl) T.n_sorted (by decide +kernel) (pa_cons (pe_callTy (cr_setL rfl) (by rfl) T.n_set (by decide +kernel) (pa_cons (pv 6) pa_nil)) pa_nil))) (pa_nil)))))))) (pss_cons (ps_set (i := 8) nd rfl (Or.inl rfl) (pe_op op_rep (pe_lst (pa_cons (pe_int) (pa_nil))) (pe_callB call_len_seq (by rfl) T.n_len (by decide +kernel) (pa_cons (pv 2) (pa_nil))))) (pss_cons (ps_for PassesOwn.never rfl (pi_enum (by rfl) T.n_enumerate (pa_cons (pv 2) (pa_nil))) (pg_tup rfl (pgs_cons (pg_name (i := 4) nd rfl (Or.inl rfl)) (pgs_cons (pg_name (i := 5) nd rfl (Or.inl rfl)) (pgs_nil)))) (pss_cons (ps_set (i := 9) nd rfl (Or.inl rfl) (pe_callB call_len_seq (by rfl) T.n_len (by decide +kernel) (pa_cons (pe_ix ix_list (pv 3) (pv 4) (fun _ _ => rfl)) (pa_nil)))) (pss_cons (ps_for PassesOwn.never rfl (pi_enum (by rfl) T.n_enumerate (pa_cons (pv 2) (pa_nil))) (pg_tup rfl (pgs_cons (pg_name (i := 7) nd rfl (Or.inl rfl)) (pgs_cons (pg_name (i := 10) nd rfl (Or.inl rfl)) (pgs_nil)))) (pss_one (ps_if (PW.pt (pw_and (pt_cmpR op_notIn_seq (pv 10) (pe_ix ix_list (pv 3) (pv 4) (fun _ _ => rfl)) (by rfl)) (pw_and (pt_cmpR op_notIn_seq (pv 5) (pe_ix ix_list (pv 3) (pv 7) (fun _ _ => rfl)) (by rfl)) (pw_and1 (pt_cmpR op_gt (pe_ix ix_list (pv 1) (pv 10) (fun _ _ => rfl)) (pe_ix ix_list (pv 1) (pv 5) (fun _ _ => rfl)) (nomark _)))))) (pss_one (ps_set (i := 9) nd rfl (Or.inl rfl) (pe_op op_add (pv 9) (pe_int)))) (pss_nil)))) (pss_one (ps_asg (pv 5) (pg_sub (pv 8) (pv 9) set_list)))))) (pss_one (ps_ret (pv 8))))))
theorem ok_right (T : Txt K mg) (G_left : FnOk P w K mg base CX0 1 T.a_left T.fd_left ["gap", "sums", "line"] (sp_left K)) (G_with_score : FnOk P w K mg base CX0 5 T.a_with_score T.fd_with_score ["lead", "scores", "order", "entry", "score"] (sp_with_score K)) : FnG P w K mg base 6 T.a_right T.fd_right ["gap", "sums", "line", "one", "points"] (sp_right K) := by
  refine Fun_okG T.F_right sc_right (fun vs H Q E h => by
    unfold sp_right at h
    (repeat (obtain ⟨_, h⟩ := h))
    rename vs = _ => e
    rw [e] <;> rfl) (fun cdv A outer s H vs Q E hg hr h => ⟨t_right K, ?_, r_right h⟩)
  have nd := sc_right.nd
  exact pss_cons (ps_par (i := 5) (j := 6) (by rfl) nd rfl rfl (by decide) rfl rfl (pa_cons (pe_callB (call_repr hg hr) (by rfl) T.n_repr (by decide +kernel) (pa_cons (pe_lst (pa_cons (pv 0) (pa_cons (pv 1) (pa_cons (pv 2) (pa_nil))))) (pa_nil))) (pa_cons (pe_op op_catP (pe_op op_catP (pe_slice sl_list (pv 1) (po_none) (po_some (pv 3))) (pe_lst (pa_cons (pv 4) (pa_nil)))) (pe_slice sl_list (pv 1) (po_some (pe_op op_add (pv 3) (pe_int))) (po_none))) (pa_nil))) (by rfl)) (pss_cons (ps_set (i := 7) nd rfl (Or.inl rfl) (pe_call G_left (hr.mono (by decide)) (by rfl) T.g_left T.F_left.kp T.b_left .nil pass0 (pa_cons (pv 0) (pa_cons (pv 6) (pa_cons (pv 2) (pa_nil)))))) (pss_cons (ps_set (i := 8) nd rfl (Or.inl rfl) (pe_lst (pa_cons (pe_call G_with_score (hr.mono (by decide)) (by rfl) T.g_with_score T.F_with_score.kp T.b_with_score .nil pass0 (pa_cons (pv 0) (pa_cons (pv 1) (pa_cons (pv 2) (pa_cons (pv 3) (pa_cons (pv 4) (pa_nil))))))) (pa_nil)))) (pss_cons (ps_expr (pe_bm PySem.F.plainAttrs_list PySem.F.slot_list_append PySem.F.type_list_append mt_append (pv 8) (pa_cons (pe_callK0 G_with_score (hr.mono (by decide)) (by rfl) T.g_with_score T.F_with_score.kp T.kb_with_score_43210 pass0 (pk_cons (pv 4) (pk_cons (pv 3) (pk_cons (pv 2) (pk_cons (pv 1) (pk_cons (pv 0) (pk_nil))))))) (pa_nil)))) (pss_cons (ps_if (pt_cmpR op_ne (pe_callB (call_repr hg hr) (by rfl) T.n_repr (by decide +kernel) (pa_cons (pv 8) (pa_nil))) (pe_callB (call_repr hg hr) (by rfl) T.n_repr (by decide +kernel) (pa_cons (pe_lst (pa_cons (pv 7) (pa_cons (pv 7) (pa_nil)))) (pa_nil))) (nomark _)) (pss_one (ps_ret (pe_bl))) (pss_nil)) (pss_cons (ps_expr (pe_bm PySem.F.plainAttrs_list PySem.F.slot_list_append PySem.F.type_list_append mt_append (pe_ix ix_list (pv 8) (pe_int) (fun _ _ => rfl)) (pa_cons (pe_un un_neg (pe_int)) (pa_nil)))) (pss_one (ps_ret (pe_and (pe_cmpR (op_eqD hr.units) (pe_call G_with_score (hr.mono (by decide)) (by rfl) T.g_with_score T.F_with_score.kp T.b_with_score .nil pass0 (pa_cons (pv 0) (pa_cons (pv 1) (pa_cons (pv 2) (pa_cons (pv 3) (pa_cons (pv 4) (pa_nil))))))) (pv 7) (nomark _)) (pe_one (pe_cmpR op_eq (pe_callB (call_repr hg hr) (by rfl) T.n_repr (by decide +kernel) (pa_cons (pe_lst (pa_cons (pv 0) (pa_cons (pv 1) (pa_cons (pv 2) (pa_nil))))) (pa_nil))) (pv 5) (nomark _)))))))))))
theorem ok_holds (T : Txt K mg) (G_case : FnOk P w K mg base CX0 3 T.a_case T.fd_case ["source", "high"] (sp_case K)) (G_draw : FnOk P w K mg base CX0 1 T.a_draw T.fd_draw ["source", "choices"] (sp_draw K)) (G_left : FnOk P w K mg base CX0 1 T.a_left T.fd_left ["gap", "sums", "line"] (sp_left K)) (G_right : FnG P w K mg base 6 T.a_right T.fd_right ["gap", "sums", "line", "one", "points"] (sp_right K)) (G_with_score : FnOk P w K mg base CX0 5 T.a_with_score T.fd_with_score ["lead", "scores", "order", "entry", "score"] (sp_with_score K)) : FnG P w K mg base 7 T.a_holds T.fd_holds ["source", "most"] (sp_holds K) := by
  refine Fun_okG T.F_holds sc_holds (fun vs H Q E h => by
    unfold sp_holds at h
    (repeat (obtain ⟨_, h⟩ := h))
    rename vs = _ => e
    rw [e] <;> rfl) (fun cdv A outer s H vs Q E hg hr h => ⟨t_holds K, ?_, r_holds h⟩)
  have nd := sc_holds.nd
  exact pss_cons (ps_for PassesOwn.never rfl (pi_range1 (by rfl) T.n_range (pa_cons (pe_int) (pa_nil))) (pg_name (i := 2) nd rfl (Or.inl rfl)) (pss_cons (ps_asg (pe_call G_case (hr.mono (by decide)) (by rfl) T.g_case T.F_case.kp T.b_case .nil pass0 (pa_cons (pv 0) (pa_cons (pv 1) (pa_nil)))) (pg_unl rfl (pgs_cons (pg_name (i := 3) nd rfl (Or.inl rfl)) (pgs_cons (pg_name (i := 4) nd rfl (Or.inl rfl)) (pgs_cons (pg_name (i := 5) nd rfl (Or.inl rfl)) (pgs_nil)))))) (pss_one (ps_for PassesOwn.never rfl (pi_list (pe_lst (pa_cons (pv 5) (pa_cons (pe_call G_left (hr.mono (by decide)) (by rfl) T.g_left T.F_left.kp T.b_left .nil pass0 (pa_cons (pv 3) (pa_cons (pv 4) (pa_cons (pv 5) (pa_nil))))) (pa_nil))))) (pg_name (i := 6) nd rfl (Or.inl rfl)) (pss_cons (ps_par (i := 7) (j := 8) (by rfl) nd rfl rfl (by decide) rfl rfl (pa_cons (pe_call G_draw (hr.mono (by decide)) (by rfl) T.g_draw T.F_draw.kp T.b_draw .nil pass0 (pa_cons (pv 0) (pa_cons (pe_callB call_len_seq (by rfl) T.n_len (by decide +kernel) (pa_cons (pv 4) (pa_nil))) (pa_nil)))) (pa_cons (pe_ix ix_list (pv 4) (pe_call G_draw (hr.mono (by decide)) (by rfl) T.g_draw T.F_draw.kp T.b_draw .nil pass0 (pa_cons (pv 0) (pa_cons (pe_callB call_len_seq (by rfl) T.n_len (by decide +kernel) (pa_cons (pv 4) (pa_nil))) (pa_nil)))) (fun _ _ => rfl)) (pa_nil))) (by rfl)) (pss_cons (ps_set (i := 9) nd rfl (Or.inl rfl) (pe_lst (pa_cons (pe_op op_add (pv 8) (pv 3)) (pa_cons (pe_op op_sub (pv 8) (pv 3)) (pa_cons (pe_op op_sub (pe_op op_add (pv 8) (pv 3)) (pe_int)) (pa_cons (pv 8) (pa_cons (pe_call G_draw (hr.mono (by decide)) (by rfl) T.g_draw T.F_draw.kp T.b_draw .nil pass0 (pa_cons (pv 0) (pa_cons (pe_op op_powW (pe_int) (pe_int)) (pa_nil)))) (pa_cons (pe_op op_sub (pe_int) (pe_op op_powW (pe_int) (pe_int))) (pa_nil))))))))) (pss_cons (ps_set (i := 10) nd rfl (Or.inl rfl) (pe_ix ix_list (pv 9) (pe_call G_draw (hr.mono (by decide)) (by rfl) T.g_draw T.F_draw.kp T.b_draw .nil pass0 (pa_cons (pv 0) (pa_cons (pe_int) (pa_nil)))) (fun _ _ => rfl))) (pss_cons (ps_set (i := 10) nd rfl (Or.inl rfl) (pe_ifExp (pt_cmpR op_lt (pe_callB call_abs (by rfl) T.n_abs (by decide +kernel) (pa_cons (pv 10) (pa_nil))) (pe_op op_powW (pe_int) (pe_int)) (nomark _)) (pv 10) (pe_int))) (pss_cons (ps_if (PW.pt (pw_or (pt_not (pt_val (pe_callG hg G_right (hr.mono (by decide)) (by rfl) T.g_right T.F_right.kp T.b_right .nil pass0 (pa_cons (pv 3) (pa_cons (pv 4) (pa_cons (pv 6) (pa_cons (pv 7) (pa_cons (pv 10) (pa_nil))))))))) (pw_or1 (pt_not (pt_val (pe_callG hg G_right (hr.mono (by decide)) (by rfl) T.g_right T.F_right.kp T.b_right .nil pass0 (pa_cons (pv 3) (pa_cons (pv 4) (pa_cons (pv 6) (pa_cons (pv 7) (pa_cons (pe_ix ix_list (pv 4) (pv 7) (fun _ _ => rfl)) (pa_nil)))))))))))) (pss_one (ps_ret (pe_bl))) (pss_nil)) (pss_cons (ps_set (i := 11) nd rfl (Or.inl rfl) (pe_ix ix_list (pe_lst (pa_cons (pe_op op_sub (pe_int) (pe_op op_powW (pe_int) (pe_int))) (pa_cons (pe_op op_sub (pe_op op_powW (pe_int) (pe_int)) (pe_int)) (pa_nil)))) (pe_call G_draw (hr.mono (by decide)) (by rfl) T.g_draw T.F_draw.kp T.b_draw .nil pass0 (pa_cons (pv 0) (pa_cons (pe_int) (pa_nil)))) (fun _ _ => rfl))) (pss_one (ps_if (pt_not (pt_val (pe_callG hg G_right (hr.mono (by decide)) (by rfl) T.g_right T.F_right.kp T.b_right .nil pass0 (pa_cons (pv 3) (pa_cons (pv 4) (pa_cons (pv 6) (pa_cons (pv 7) (pa_cons (pv 11) (pa_nil))))))))) (pss_one (ps_ret (pe_bl))) (pss_nil))))))))))))) (pss_one (ps_ret (pe_cmpR (op_eqD hr.units) (pe_call G_with_score (hr.mono (by decide)) (by rfl) T.g_with_score T.F_with_score.kp T.b_with_score .nil pass0 (pa_cons (pe_int) (pa_cons (pe_lst (pa_cons (pe_int) (pa_cons (pe_int) (pa_cons (pe_int) (pa_cons (pe_int) (pa_nil)))))) (pa_cons (pe_lst (pa_cons (pe_int) (pa_cons (pe_int) (pa_cons (pe_int) (pa_cons (pe_int) (pa_nil)))))) (pa_cons (pe_int) (pa_cons (pe_int) (pa_nil))))))) (pe_lst (pa_cons (pe_int) (pa_cons (pe_int) (pa_cons (pe_int) (pa_cons (pe_int) (pa_nil)))))) (nomark _))))
theorem ok_law (T : Txt K mg) (G_holds : FnG P w K mg base 7 T.a_holds T.fd_holds ["source", "most"] (sp_holds K)) (G_source : FnOk P w K mg base CX0 1 T.a_source T.fd_source ["cell", "k"] (sp_source K)) : FnG P w K mg base 8 T.a_law T.fd_law ["script"] (sp_law K) := by
  refine Fun_okG T.F_law sc_law (fun vs H Q E h => by
    unfold sp_law at h
    (repeat (obtain ⟨_, h⟩ := h))
    rename vs = _ => e
    rw [e] <;> rfl) (fun cdv A outer s H vs Q E hg hr h => ⟨t_law K, ?_, r_law h⟩)
  have nd := sc_law.nd
  exact pss_cons (ps_for PassesOwn.never rfl (pi_enum (by rfl) T.n_enumerate (pa_cons (pe_slice sl_list (pe_op op_catP (pv 0) (pe_lst (pa_cons (pe_int) (pa_nil)))) (po_none) (po_some (pe_callB (call_max2 rfl) (by rfl) T.n_max (by decide +kernel) (pa_cons (pe_int) (pa_cons (pe_callB (call_min2 rfl) (by rfl) T.n_min (by decide +kernel) (pa_cons (pe_callB call_len_seq (by rfl) T.n_len (by decide +kernel) (pa_cons (pv 0) (pa_nil))) (pa_cons (pe_int) (pa_nil)))) (pa_nil)))))) (pa_nil))) (pg_tup rfl (pgs_cons (pg_name (i := 1) nd rfl (Or.inl rfl)) (pgs_cons (pg_name (i := 2) nd rfl (Or.inl rfl)) (pgs_nil)))) (pss_one (ps_if (pt_not (pt_val (pe_callG hg G_holds (hr.mono (by decide)) (by rfl) T.g_holds T.F_holds.kp T.b_holds .nil pass0 (pa_cons (pe_call G_source (hr.mono (by decide)) (by rfl) T.g_source T.F_source.kp T.b_source .nil pass0 (pa_cons (pv 2) (pa_cons (pv 1) (pa_nil)))) (pa_cons (pe_ifExp (pt_cmpR (op_eqD hr.units) (pv 0) (pe_lst (pa_nil)) (nomark _)) (pe_int) (pe_int)) (pa_nil)))))) (pss_one (ps_ret (pe_bl))) (pss_nil)))) (pss_one (ps_ret (pe_bl)))
end
theorem all_mk {P : Program} {w : World} {K : PySem.W.Frag} {h : Heap} {mg : Str → Option Value} {fa : Addr} (X : K.In h) (G : h.Ns mainGlobals mg) (hfa : mg "law" = some (.ref fa))
    {f0 : Addr} {od0 an0 : Option Addr} {sl0 : Array (Option Value)} {oc0 kV0 dc0 pm0 cd0 ct0 : Value}
    {f1 : Addr} {od1 an1 : Option Addr} {sl1 : Array (Option Value)} {oc1 kV1 dc1 pm1 cd1 ct1 : Value}
    {f2 : Addr} {od2 an2 : Option Addr} {sl2 : Array (Option Value)} {oc2 kV2 dc2 pm2 cd2 ct2 : Value}
    {f3 : Addr} {od3 an3 : Option Addr} {sl3 : Array (Option Value)} {oc3 kV3 dc3 pm3 cd3 ct3 : Value}
    {f4 : Addr} {od4 an4 : Option Addr} {sl4 : Array (Option Value)} {oc4 kV4 dc4 pm4 cd4 ct4 : Value}
    {f5 : Addr} {od5 an5 : Option Addr} {sl5 : Array (Option Value)} {oc5 kV5 dc5 pm5 cd5 ct5 : Value}
    {f6 : Addr} {od6 an6 : Option Addr} {sl6 : Array (Option Value)} {oc6 kV6 dc6 pm6 cd6 ct6 : Value}
    {f7 : Addr} {od7 an7 : Option Addr} {sl7 : Array (Option Value)} {oc7 kV7 dc7 pm7 cd7 ct7 : Value}
    {f8 : Addr} {od8 an8 : Option Addr} {sl8 : Array (Option Value)} {oc8 kV8 dc8 pm8 cd8 ct8 : Value}
    {f9 : Addr} {od9 an9 : Option Addr} {sl9 : Array (Option Value)} {oc9 kV9 dc9 pm9 cd9 ct9 : Value}
    {f10 : Addr} {od10 an10 : Option Addr} {sl10 : Array (Option Value)} {oc10 kV10 dc10 pm10 cd10 ct10 : Value}
    {f11 : Addr} {od11 an11 : Option Addr} {sl11 : Array (Option Value)} {oc11 kV11 dc11 pm11 cd11 ct11 : Value}
    {f12 : Addr} {od12 an12 : Option Addr} {sl12 : Array (Option Value)} {oc12 kV12 dc12 pm12 cd12 ct12 : Value}
    {f13 : Addr} {od13 an13 : Option Addr} {sl13 : Array (Option Value)} {oc13 kV13 dc13 pm13 cd13 ct13 : Value}
    {f14 : Addr} {od14 an14 : Option Addr} {sl14 : Array (Option Value)} {oc14 kV14 dc14 pm14 cd14 ct14 : Value}
    {f15 : Addr} {od15 an15 : Option Addr} {sl15 : Array (Option Value)} {oc15 kV15 dc15 pm15 cd15 ct15 : Value}
    {f16 : Addr} {od16 an16 : Option Addr} {sl16 : Array (Option Value)} {oc16 kV16 dc16 pm16 cd16 ct16 : Value}
    {f17 : Addr} {od17 an17 : Option Addr} {sl17 : Array (Option Value)} {oc17 kV17 dc17 pm17 cd17 ct17 : Value}
    {f18 : Addr} {od18 an18 : Option Addr} {sl18 : Array (Option Value)} {oc18 kV18 dc18 pm18 cd18 ct18 : Value}
    {f19 : Addr} {od19 an19 : Option Addr} {sl19 : Array (Option Value)} {oc19 kV19 dc19 pm19 cd19 ct19 : Value}
    {f20 : Addr} {od20 an20 : Option Addr} {sl20 : Array (Option Value)} {oc20 kV20 dc20 pm20 cd20 ct20 : Value}
    {f21 : Addr} {od21 an21 : Option Addr} {sl21 : Array (Option Value)} {oc21 kV21 dc21 pm21 cd21 ct21 : Value}
    {f22 : Addr} {od22 an22 : Option Addr} {sl22 : Array (Option Value)} {oc22 kV22 dc22 pm22 cd22 ct22 : Value}
    {f23 : Addr} {od23 an23 : Option Addr} {sl23 : Array (Option Value)} {oc23 kV23 dc23 pm23 cd23 ct23 : Value}
    {tk_MOST_ENTRIES : Tok}
    (a0 : PySem.W.nsIn K mainGlobals "rescored" = some (some (.ref f0))) (l0 : K.lookup f0 = some ⟨oc0, od0, .func (PySem.W.fnOf "rescored" "rescored" (defArgs s_rescored) (defBody s_rescored) (defScope s_rescored) .none kV0 dc0 pm0 an0 cd0 ct0), sl0⟩) (c0 : PySem.W.codeIn K cd0 "rescored" = true) (k0 : PySem.W.keepIn K (.ref f0) = true)
    (a1 : PySem.W.nsIn K mainGlobals "settled" = some (some (.ref f1))) (l1 : K.lookup f1 = some ⟨oc1, od1, .func (PySem.W.fnOf "settled" "settled" (defArgs s_settled) (defBody s_settled) (defScope s_settled) .none kV1 dc1 pm1 an1 cd1 ct1), sl1⟩) (c1 : PySem.W.codeIn K cd1 "settled" = true) (k1 : PySem.W.keepIn K (.ref f1) = true)
    (a2 : PySem.W.nsIn K mainGlobals "is_integer" = some (some (.ref f2))) (l2 : K.lookup f2 = some ⟨oc2, od2, .func (PySem.W.fnOf "is_integer" "is_integer" (defArgs s_is_integer) (defBody s_is_integer) (defScope s_is_integer) .none kV2 dc2 pm2 an2 cd2 ct2), sl2⟩) (c2 : PySem.W.codeIn K cd2 "is_integer" = true) (k2 : PySem.W.keepIn K (.ref f2) = true)
    (a3 : PySem.W.nsIn K mainGlobals "is_index" = some (some (.ref f3))) (l3 : K.lookup f3 = some ⟨oc3, od3, .func (PySem.W.fnOf "is_index" "is_index" (defArgs s_is_index) (defBody s_is_index) (defScope s_is_index) .none kV3 dc3 pm3 an3 cd3 ct3), sl3⟩) (c3 : PySem.W.codeIn K cd3 "is_index" = true) (k3 : PySem.W.keepIn K (.ref f3) = true)
    (a4 : PySem.W.nsIn K mainGlobals "is_list" = some (some (.ref f4))) (l4 : K.lookup f4 = some ⟨oc4, od4, .func (PySem.W.fnOf "is_list" "is_list" (defArgs s_is_list) (defBody s_is_list) (defScope s_is_list) .none kV4 dc4 pm4 an4 cd4 ct4), sl4⟩) (c4 : PySem.W.codeIn K cd4 "is_list" = true) (k4 : PySem.W.keepIn K (.ref f4) = true)
    (a5 : PySem.W.nsIn K mainGlobals "are_scores" = some (some (.ref f5))) (l5 : K.lookup f5 = some ⟨oc5, od5, .func (PySem.W.fnOf "are_scores" "are_scores" (defArgs s_are_scores) (defBody s_are_scores) (defScope s_are_scores) .none kV5 dc5 pm5 an5 cd5 ct5), sl5⟩) (c5 : PySem.W.codeIn K cd5 "are_scores" = true) (k5 : PySem.W.keepIn K (.ref f5) = true)
    (a6 : PySem.W.nsIn K mainGlobals "is_order_of" = some (some (.ref f6))) (l6 : K.lookup f6 = some ⟨oc6, od6, .func (PySem.W.fnOf "is_order_of" "is_order_of" (defArgs s_is_order_of) (defBody s_is_order_of) (defScope s_is_order_of) .none kV6 dc6 pm6 an6 cd6 ct6), sl6⟩) (c6 : PySem.W.codeIn K cd6 "is_order_of" = true) (k6 : PySem.W.keepIn K (.ref f6) = true)
    (a7 : PySem.W.nsIn K mainGlobals "check_lead" = some (some (.ref f7))) (l7 : K.lookup f7 = some ⟨oc7, od7, .func (PySem.W.fnOf "check_lead" "check_lead" (defArgs s_check_lead) (defBody s_check_lead) (defScope s_check_lead) .none kV7 dc7 pm7 an7 cd7 ct7), sl7⟩) (c7 : PySem.W.codeIn K cd7 "check_lead" = true) (k7 : PySem.W.keepIn K (.ref f7) = true)
    (a8 : PySem.W.nsIn K mainGlobals "check_scores" = some (some (.ref f8))) (l8 : K.lookup f8 = some ⟨oc8, od8, .func (PySem.W.fnOf "check_scores" "check_scores" (defArgs s_check_scores) (defBody s_check_scores) (defScope s_check_scores) .none kV8 dc8 pm8 an8 cd8 ct8), sl8⟩) (c8 : PySem.W.codeIn K cd8 "check_scores" = true) (k8 : PySem.W.keepIn K (.ref f8) = true)
    (a9 : PySem.W.nsIn K mainGlobals "check_order" = some (some (.ref f9))) (l9 : K.lookup f9 = some ⟨oc9, od9, .func (PySem.W.fnOf "check_order" "check_order" (defArgs s_check_order) (defBody s_check_order) (defScope s_check_order) .none kV9 dc9 pm9 an9 cd9 ct9), sl9⟩) (c9 : PySem.W.codeIn K cd9 "check_order" = true) (k9 : PySem.W.keepIn K (.ref f9) = true)
    (a10 : PySem.W.nsIn K mainGlobals "check_entry" = some (some (.ref f10))) (l10 : K.lookup f10 = some ⟨oc10, od10, .func (PySem.W.fnOf "check_entry" "check_entry" (defArgs s_check_entry) (defBody s_check_entry) (defScope s_check_entry) .none kV10 dc10 pm10 an10 cd10 ct10), sl10⟩) (c10 : PySem.W.codeIn K cd10 "check_entry" = true) (k10 : PySem.W.keepIn K (.ref f10) = true)
    (a11 : PySem.W.nsIn K mainGlobals "check_score" = some (some (.ref f11))) (l11 : K.lookup f11 = some ⟨oc11, od11, .func (PySem.W.fnOf "check_score" "check_score" (defArgs s_check_score) (defBody s_check_score) (defScope s_check_score) .none kV11 dc11 pm11 an11 cd11 ct11), sl11⟩) (c11 : PySem.W.codeIn K cd11 "check_score" = true) (k11 : PySem.W.keepIn K (.ref f11) = true)
    (a12 : PySem.W.nsIn K mainGlobals "check_ranking" = some (some (.ref f12))) (l12 : K.lookup f12 = some ⟨oc12, od12, .func (PySem.W.fnOf "check_ranking" "check_ranking" (defArgs s_check_ranking) (defBody s_check_ranking) (defScope s_check_ranking) .none kV12 dc12 pm12 an12 cd12 ct12), sl12⟩) (c12 : PySem.W.codeIn K cd12 "check_ranking" = true) (k12 : PySem.W.keepIn K (.ref f12) = true)
    (a13 : PySem.W.nsIn K mainGlobals "with_score" = some (some (.ref f13))) (l13 : K.lookup f13 = some ⟨oc13, od13, .func (PySem.W.fnOf "with_score" "with_score" (defArgs s_with_score) (defBody s_with_score) (defScope s_with_score) .none kV13 dc13 pm13 an13 cd13 ct13), sl13⟩) (c13 : PySem.W.codeIn K cd13 "with_score" = true) (k13 : PySem.W.keepIn K (.ref f13) = true)
    (a14 : PySem.W.nsIn K mainGlobals "_law_source" = some (some (.ref f14))) (l14 : K.lookup f14 = some ⟨oc14, od14, .func (PySem.W.fnOf "_law_source" "_law_source" (defArgs s_source) (defBody s_source) (defScope s_source) .none kV14 dc14 pm14 an14 cd14 ct14), sl14⟩) (c14 : PySem.W.codeIn K cd14 "_law_source" = true) (k14 : PySem.W.keepIn K (.ref f14) = true)
    (a15 : PySem.W.nsIn K mainGlobals "_law_draw" = some (some (.ref f15))) (l15 : K.lookup f15 = some ⟨oc15, od15, .func (PySem.W.fnOf "_law_draw" "_law_draw" (defArgs s_draw) (defBody s_draw) (defScope s_draw) .none kV15 dc15 pm15 an15 cd15 ct15), sl15⟩) (c15 : PySem.W.codeIn K cd15 "_law_draw" = true) (k15 : PySem.W.keepIn K (.ref f15) = true)
    (a16 : PySem.W.nsIn K mainGlobals "_law_shuffled" = some (some (.ref f16))) (l16 : K.lookup f16 = some ⟨oc16, od16, .func (PySem.W.fnOf "_law_shuffled" "_law_shuffled" (defArgs s_shuffled) (defBody s_shuffled) (defScope s_shuffled) .none kV16 dc16 pm16 an16 cd16 ct16), sl16⟩) (c16 : PySem.W.codeIn K cd16 "_law_shuffled" = true) (k16 : PySem.W.keepIn K (.ref f16) = true)
    (a17 : PySem.W.nsIn K mainGlobals "_law_gap" = some (some (.ref f17))) (l17 : K.lookup f17 = some ⟨oc17, od17, .func (PySem.W.fnOf "_law_gap" "_law_gap" (defArgs s_gap) (defBody s_gap) (defScope s_gap) .none kV17 dc17 pm17 an17 cd17 ct17), sl17⟩) (c17 : PySem.W.codeIn K cd17 "_law_gap" = true) (k17 : PySem.W.keepIn K (.ref f17) = true)
    (a18 : PySem.W.nsIn K mainGlobals "_law_sums" = some (some (.ref f18))) (l18 : K.lookup f18 = some ⟨oc18, od18, .func (PySem.W.fnOf "_law_sums" "_law_sums" (defArgs s_sums) (defBody s_sums) (defScope s_sums) .none kV18 dc18 pm18 an18 cd18 ct18), sl18⟩) (c18 : PySem.W.codeIn K cd18 "_law_sums" = true) (k18 : PySem.W.keepIn K (.ref f18) = true)
    (a19 : PySem.W.nsIn K mainGlobals "_law_case" = some (some (.ref f19))) (l19 : K.lookup f19 = some ⟨oc19, od19, .func (PySem.W.fnOf "_law_case" "_law_case" (defArgs s_case) (defBody s_case) (defScope s_case) .none kV19 dc19 pm19 an19 cd19 ct19), sl19⟩) (c19 : PySem.W.codeIn K cd19 "_law_case" = true) (k19 : PySem.W.keepIn K (.ref f19) = true)
    (a20 : PySem.W.nsIn K mainGlobals "_law_left" = some (some (.ref f20))) (l20 : K.lookup f20 = some ⟨oc20, od20, .func (PySem.W.fnOf "_law_left" "_law_left" (defArgs s_left) (defBody s_left) (defScope s_left) .none kV20 dc20 pm20 an20 cd20 ct20), sl20⟩) (c20 : PySem.W.codeIn K cd20 "_law_left" = true) (k20 : PySem.W.keepIn K (.ref f20) = true)
    (a21 : PySem.W.nsIn K mainGlobals "_law_right" = some (some (.ref f21))) (l21 : K.lookup f21 = some ⟨oc21, od21, .func (PySem.W.fnOf "_law_right" "_law_right" (defArgs s_right) (defBody s_right) (defScope s_right) .none kV21 dc21 pm21 an21 cd21 ct21), sl21⟩) (c21 : PySem.W.codeIn K cd21 "_law_right" = true) (k21 : PySem.W.keepIn K (.ref f21) = true)
    (a22 : PySem.W.nsIn K mainGlobals "_law_holds" = some (some (.ref f22))) (l22 : K.lookup f22 = some ⟨oc22, od22, .func (PySem.W.fnOf "_law_holds" "_law_holds" (defArgs s_holds) (defBody s_holds) (defScope s_holds) .none kV22 dc22 pm22 an22 cd22 ct22), sl22⟩) (c22 : PySem.W.codeIn K cd22 "_law_holds" = true) (k22 : PySem.W.keepIn K (.ref f22) = true)
    (a23 : PySem.W.nsIn K mainGlobals "law" = some (some (.ref f23))) (l23 : K.lookup f23 = some ⟨oc23, od23, .func (PySem.W.fnOf "law" "law" (defArgs s_law) (defBody s_law) (defScope s_law) .none kV23 dc23 pm23 an23 cd23 ct23), sl23⟩) (c23 : PySem.W.codeIn K cd23 "law" = true) (k23 : PySem.W.keepIn K (.ref f23) = true)
    (z_abs : PySem.W.nsIn K mainGlobals "abs" = some none)
    (z_all : PySem.W.nsIn K mainGlobals "all" = some none)
    (z_bool : PySem.W.nsIn K mainGlobals "bool" = some none)
    (z_enumerate : PySem.W.nsIn K mainGlobals "enumerate" = some none)
    (z_int : PySem.W.nsIn K mainGlobals "int" = some none)
    (z_isinstance : PySem.W.nsIn K mainGlobals "isinstance" = some none)
    (z_len : PySem.W.nsIn K mainGlobals "len" = some none)
    (z_list : PySem.W.nsIn K mainGlobals "list" = some none)
    (z_max : PySem.W.nsIn K mainGlobals "max" = some none)
    (z_min : PySem.W.nsIn K mainGlobals "min" = some none)
    (z_range : PySem.W.nsIn K mainGlobals "range" = some none)
    (z_repr : PySem.W.nsIn K mainGlobals "repr" = some none)
    (z_set : PySem.W.nsIn K mainGlobals "set" = some none)
    (z_sorted : PySem.W.nsIn K mainGlobals "sorted" = some none)
    (z_type : PySem.W.nsIn K mainGlobals "type" = some none)
    (y_MOST_ENTRIES : PySem.W.nsIn K mainGlobals "MOST_ENTRIES" = some (some (.int 28 tk_MOST_ENTRIES)))
    : ∃ fd : FuncData, (∀ (s : Shared) (v : Value), BindsTo s fd ⟨[v], []⟩ [("script", v)]) ∧ ∀ base : Heap, K.In base → base.Ns mainGlobals mg → FnG P w K mg base 8 fa fd ["script"] (sp_law K) := by
  have F0 := fun_mk (st := s_rescored) l0 c0 k0
  have F1 := fun_mk (st := s_settled) l1 c1 k1
  have F2 := fun_mk (st := s_is_integer) l2 c2 k2
  have F3 := fun_mk (st := s_is_index) l3 c3 k3
  have F4 := fun_mk (st := s_is_list) l4 c4 k4
  have F5 := fun_mk (st := s_are_scores) l5 c5 k5
  have F6 := fun_mk (st := s_is_order_of) l6 c6 k6
  have F7 := fun_mk (st := s_check_lead) l7 c7 k7
  have F8 := fun_mk (st := s_check_scores) l8 c8 k8
  have F9 := fun_mk (st := s_check_order) l9 c9 k9
  have F10 := fun_mk (st := s_check_entry) l10 c10 k10
  have F11 := fun_mk (st := s_check_score) l11 c11 k11
  have F12 := fun_mk (st := s_check_ranking) l12 c12 k12
  have F13 := fun_mk (st := s_with_score) l13 c13 k13
  have F14 := fun_mk (st := s_source) l14 c14 k14
  have F15 := fun_mk (st := s_draw) l15 c15 k15
  have F16 := fun_mk (st := s_shuffled) l16 c16 k16
  have F17 := fun_mk (st := s_gap) l17 c17 k17
  have F18 := fun_mk (st := s_sums) l18 c18 k18
  have F19 := fun_mk (st := s_case) l19 c19 k19
  have F20 := fun_mk (st := s_left) l20 c20 k20
  have F21 := fun_mk (st := s_right) l21 c21 k21
  have F22 := fun_mk (st := s_holds) l22 c22 k22
  have F23 := fun_mk (st := s_law) l23 c23 k23
  have T : Txt K mg := {
    bt_law := fun s v => .of_eq rfl,
    a_rescored := f0, fd_rescored := _, F_rescored := F0, g_rescored := PySem.W.mg_of X G a0,
    b_rescored := F0.binds (ps := ["scores", "entry", "score"]) fun _ _ _ _ _ _ us hl => match us, hl with | [_, _, _], _ => rfl,
    a_settled := f1, fd_settled := _, F_settled := F1, g_settled := PySem.W.mg_of X G a1,
    b_settled := F1.binds (ps := ["lead", "scores", "order"]) fun _ _ _ _ _ _ us hl => match us, hl with | [_, _, _], _ => rfl,
    a_is_integer := f2, fd_is_integer := _, F_is_integer := F2, g_is_integer := PySem.W.mg_of X G a2,
    b_is_integer := F2.binds (ps := ["value"]) fun _ _ _ _ _ _ us hl => match us, hl with | [_], _ => rfl,
    a_is_index := f3, fd_is_index := _, F_is_index := F3, g_is_index := PySem.W.mg_of X G a3,
    b_is_index := F3.binds (ps := ["value", "many"]) fun _ _ _ _ _ _ us hl => match us, hl with | [_, _], _ => rfl,
    a_is_list := f4, fd_is_list := _, F_is_list := F4, g_is_list := PySem.W.mg_of X G a4,
    b_is_list := F4.binds (ps := ["value"]) fun _ _ _ _ _ _ us hl => match us, hl with | [_], _ => rfl,
    a_are_scores := f5, fd_are_scores := _, F_are_scores := F5, g_are_scores := PySem.W.mg_of X G a5,
    b_are_scores := F5.binds (ps := ["value"]) fun _ _ _ _ _ _ us hl => match us, hl with | [_], _ => rfl,
    a_is_order_of := f6, fd_is_order_of := _, F_is_order_of := F6, g_is_order_of := PySem.W.mg_of X G a6,
    b_is_order_of := F6.binds (ps := ["many", "value"]) fun _ _ _ _ _ _ us hl => match us, hl with | [_, _], _ => rfl,
    a_check_lead := f7, fd_check_lead := _, F_check_lead := F7, g_check_lead := PySem.W.mg_of X G a7,
    b_check_lead := F7.binds (ps := ["lead"]) fun _ _ _ _ _ _ us hl => match us, hl with | [_], _ => rfl,
    a_check_scores := f8, fd_check_scores := _, F_check_scores := F8, g_check_scores := PySem.W.mg_of X G a8,
    b_check_scores := F8.binds (ps := ["scores"]) fun _ _ _ _ _ _ us hl => match us, hl with | [_], _ => rfl,
    a_check_order := f9, fd_check_order := _, F_check_order := F9, g_check_order := PySem.W.mg_of X G a9,
    b_check_order := F9.binds (ps := ["scores", "order"]) fun _ _ _ _ _ _ us hl => match us, hl with | [_, _], _ => rfl,
    a_check_entry := f10, fd_check_entry := _, F_check_entry := F10, g_check_entry := PySem.W.mg_of X G a10,
    b_check_entry := F10.binds (ps := ["scores", "entry"]) fun _ _ _ _ _ _ us hl => match us, hl with | [_, _], _ => rfl,
    a_check_score := f11, fd_check_score := _, F_check_score := F11, g_check_score := PySem.W.mg_of X G a11,
    b_check_score := F11.binds (ps := ["score"]) fun _ _ _ _ _ _ us hl => match us, hl with | [_], _ => rfl,
    a_check_ranking := f12, fd_check_ranking := _, F_check_ranking := F12, g_check_ranking := PySem.W.mg_of X G a12,
    b_check_ranking := F12.binds (ps := ["lead", "scores", "order"]) fun _ _ _ _ _ _ us hl => match us, hl with | [_, _, _], _ => rfl,
    a_with_score := f13, fd_with_score := _, F_with_score := F13, g_with_score := PySem.W.mg_of X G a13,
    b_with_score := F13.binds (ps := ["lead", "scores", "order", "entry", "score"]) fun _ _ _ _ _ _ us hl => match us, hl with | [_, _, _, _, _], _ => rfl,
    a_source := f14, fd_source := _, F_source := F14, g_source := PySem.W.mg_of X G a14,
    b_source := F14.binds (ps := ["cell", "k"]) fun _ _ _ _ _ _ us hl => match us, hl with | [_, _], _ => rfl,
    a_draw := f15, fd_draw := _, F_draw := F15, g_draw := PySem.W.mg_of X G a15,
    b_draw := F15.binds (ps := ["source", "choices"]) fun _ _ _ _ _ _ us hl => match us, hl with | [_, _], _ => rfl,
    a_shuffled := f16, fd_shuffled := _, F_shuffled := F16, g_shuffled := PySem.W.mg_of X G a16,
    b_shuffled := F16.binds (ps := ["source", "items"]) fun _ _ _ _ _ _ us hl => match us, hl with | [_, _], _ => rfl,
    a_gap := f17, fd_gap := _, F_gap := F17, g_gap := PySem.W.mg_of X G a17,
    b_gap := F17.binds (ps := ["source"]) fun _ _ _ _ _ _ us hl => match us, hl with | [_], _ => rfl,
    a_sums := f18, fd_sums := _, F_sums := F18, g_sums := PySem.W.mg_of X G a18,
    b_sums := F18.binds (ps := ["source", "gap", "high"]) fun _ _ _ _ _ _ us hl => match us, hl with | [_, _, _], _ => rfl,
    a_case := f19, fd_case := _, F_case := F19, g_case := PySem.W.mg_of X G a19,
    b_case := F19.binds (ps := ["source", "high"]) fun _ _ _ _ _ _ us hl => match us, hl with | [_, _], _ => rfl,
    a_left := f20, fd_left := _, F_left := F20, g_left := PySem.W.mg_of X G a20,
    b_left := F20.binds (ps := ["gap", "sums", "line"]) fun _ _ _ _ _ _ us hl => match us, hl with | [_, _, _], _ => rfl,
    a_right := f21, fd_right := _, F_right := F21, g_right := PySem.W.mg_of X G a21,
    b_right := F21.binds (ps := ["gap", "sums", "line", "one", "points"]) fun _ _ _ _ _ _ us hl => match us, hl with | [_, _, _, _, _], _ => rfl,
    a_holds := f22, fd_holds := _, F_holds := F22, g_holds := PySem.W.mg_of X G a22,
    b_holds := F22.binds (ps := ["source", "most"]) fun _ _ _ _ _ _ us hl => match us, hl with | [_, _], _ => rfl,
    a_law := f23, fd_law := _, F_law := F23, g_law := PySem.W.mg_of X G a23,
    b_law := F23.binds (ps := ["script"]) fun _ _ _ _ _ _ us hl => match us, hl with | [_], _ => rfl,
    kb_with_score_43210 := ⟨fun s ws hl => match ws, hl with | [_, _, _, _, _], _ => .of_eq rfl⟩,
    n_abs := PySem.W.mg_none_of X G z_abs,
    n_all := PySem.W.mg_none_of X G z_all,
    n_bool := PySem.W.mg_none_of X G z_bool,
    n_enumerate := PySem.W.mg_none_of X G z_enumerate,
    n_int := PySem.W.mg_none_of X G z_int,
    n_isinstance := PySem.W.mg_none_of X G z_isinstance,
    n_len := PySem.W.mg_none_of X G z_len,
    n_list := PySem.W.mg_none_of X G z_list,
    n_max := PySem.W.mg_none_of X G z_max,
    n_min := PySem.W.mg_none_of X G z_min,
    n_range := PySem.W.mg_none_of X G z_range,
    n_repr := PySem.W.mg_none_of X G z_repr,
    n_set := PySem.W.mg_none_of X G z_set,
    n_sorted := PySem.W.mg_none_of X G z_sorted,
    n_type := PySem.W.mg_none_of X G z_type,
    t_MOST_ENTRIES := _, c_MOST_ENTRIES := PySem.W.mg_of X G y_MOST_ENTRIES }
  have e2 : T.a_law = fa := by
    have q := T.g_law.symm.trans hfa
    injection q with q
    injection q
  rw [← e2]
  refine ⟨T.fd_law, T.bt_law, fun base _ _ => ?_⟩
  have G_draw := ok_draw (P := P) (w := w) (base := base) T
  have G_gap := ok_gap (P := P) (w := w) (base := base) T G_draw
  have G_shuffled := ok_shuffled (P := P) (w := w) (base := base) T G_draw
  have G_sums := ok_sums (P := P) (w := w) (base := base) T G_draw
  have G_case := ok_case (P := P) (w := w) (base := base) T G_draw G_gap G_shuffled G_sums
  have G_left := ok_left (P := P) (w := w) (base := base) T
  have G_is_integer := ok_is_integer (P := P) (w := w) (base := base) T
  have G_is_index := ok_is_index (P := P) (w := w) (base := base) T G_is_integer
  have G_check_entry := ok_check_entry (P := P) (w := w) (base := base) T G_is_index
  have G_check_lead := ok_check_lead (P := P) (w := w) (base := base) T G_is_integer
  have G_is_list := ok_is_list (P := P) (w := w) (base := base) T
  have G_is_order_of := ok_is_order_of (P := P) (w := w) (base := base) T G_is_integer G_is_list
  have G_check_order := ok_check_order (P := P) (w := w) (base := base) T G_is_order_of
  have G_are_scores := ok_are_scores (P := P) (w := w) (base := base) T G_is_integer G_is_list
  have G_check_scores := ok_check_scores (P := P) (w := w) (base := base) T G_are_scores
  have G_check_ranking := ok_check_ranking (P := P) (w := w) (base := base) T G_check_lead G_check_order G_check_scores
  have G_check_score := ok_check_score (P := P) (w := w) (base := base) T G_is_integer
  have G_rescored := ok_rescored (P := P) (w := w) (base := base) T
  have G_settled := ok_settled (P := P) (w := w) (base := base) T
  have G_with_score := ok_with_score (P := P) (w := w) (base := base) T G_check_entry G_check_ranking G_check_score G_rescored G_settled
  have G_right := ok_right (P := P) (w := w) (base := base) T G_left G_with_score
  have G_holds := ok_holds (P := P) (w := w) (base := base) T G_case G_draw G_left G_right G_with_score
  have G_source := ok_source (P := P) (w := w) (base := base) T
  have G_law := ok_law (P := P) (w := w) (base := base) T G_holds G_source
  exact G_law
end Lb
open PySem PySem.W PyProof.Rows
set_option maxHeartbeats 0 in
theorem PySem.Challenge.cw_leadboard_k06_entries_with_other_scores_holds : PySem.Challenge.rw_leadboard_k06_entries_with_other_scores.Holds := by
  w_on; o_law; k_head; (case hw => w_witness2)
  k_fill
  refine Lb.walk_ofG (l := PySem.Challenge.rw_leadboard_k06_entries_with_other_scores) (n := 63) (k := 8) (x := "script") (sp := Lb.sp_law) rfl (by decide) rfl ⟨rfl, by decide, by decide⟩ (fun w h Y => PySem.W.kIn_of Y) ?F (fun K H a ns hl hS => ⟨a, ns, rfl, hS, hl, fun _ => rfl⟩)
  case F =>
    intro w mg fa h KX G hmg
    refine' Lb.all_mk KX G hmg ?a0 ?l0 ?c0 ?k0 ?a1 ?l1 ?c1 ?k1 ?a2 ?l2 ?c2 ?k2 ?a3 ?l3 ?c3 ?k3 ?a4 ?l4 ?c4 ?k4 ?a5 ?l5 ?c5 ?k5 ?a6 ?l6 ?c6 ?k6 ?a7 ?l7 ?c7 ?k7 ?a8 ?l8 ?c8 ?k8 ?a9 ?l9 ?c9 ?k9 ?a10 ?l10 ?c10 ?k10 ?a11 ?l11 ?c11 ?k11 ?a12 ?l12 ?c12 ?k12 ?a13 ?l13 ?c13 ?k13 ?a14 ?l14 ?c14 ?k14 ?a15 ?l15 ?c15 ?k15 ?a16 ?l16 ?c16 ?k16 ?a17 ?l17 ?c17 ?k17 ?a18 ?l18 ?c18 ?k18 ?a19 ?l19 ?c19 ?k19 ?a20 ?l20 ?c20 ?k20 ?a21 ?l21 ?c21 ?k21 ?a22 ?l22 ?c22 ?k22 ?a23 ?l23 ?c23 ?k23 ?z_abs ?z_all ?z_bool ?z_enumerate ?z_int ?z_isinstance ?z_len ?z_list ?z_max ?z_min ?z_range ?z_repr ?z_set ?z_sorted ?z_type ?y_MOST_ENTRIES
    (case a0 => k_is); (case l0 => k_is); (case c0 => k_is); (case k0 => k_is); (case a1 => k_is); (case l1 => k_is)
    (case c1 => k_is); (case k1 => k_is); (case a2 => k_is); (case l2 => k_is); (case c2 => k_is); (case k2 => k_is)
    (case a3 => k_is); (case l3 => k_is); (case c3 => k_is); (case k3 => k_is); (case a4 => k_is); (case l4 => k_is)
    (case c4 => k_is); (case k4 => k_is); (case a5 => k_is); (case l5 => k_is); (case c5 => k_is); (case k5 => k_is)
    (case a6 => k_is); (case l6 => k_is); (case c6 => k_is); (case k6 => k_is); (case a7 => k_is); (case l7 => k_is)
    (case c7 => k_is); (case k7 => k_is); (case a8 => k_is); (case l8 => k_is); (case c8 => k_is); (case k8 => k_is)
    (case a9 => k_is); (case l9 => k_is); (case c9 => k_is); (case k9 => k_is); (case a10 => k_is); (case l10 => k_is)
    (case c10 => k_is); (case k10 => k_is); (case a11 => k_is); (case l11 => k_is); (case c11 => k_is); (case k11 => k_is)
    (case a12 => k_is); (case l12 => k_is); (case c12 => k_is); (case k12 => k_is); (case a13 => k_is); (case l13 => k_is)
    (case c13 => k_is); (case k13 => k_is); (case a14 => k_is); (case l14 => k_is); (case c14 => k_is); (case k14 => k_is)
    (case a15 => k_is); (case l15 => k_is); (case c15 => k_is); (case k15 => k_is); (case a16 => k_is); (case l16 => k_is)
    (case c16 => k_is); (case k16 => k_is); (case a17 => k_is); (case l17 => k_is); (case c17 => k_is); (case k17 => k_is)
    (case a18 => k_is); (case l18 => k_is); (case c18 => k_is); (case k18 => k_is); (case a19 => k_is); (case l19 => k_is)
    (case c19 => k_is); (case k19 => k_is); (case a20 => k_is); (case l20 => k_is); (case c20 => k_is); (case k20 => k_is)
    (case a21 => k_is); (case l21 => k_is); (case c21 => k_is); (case k21 => k_is); (case a22 => k_is); (case l22 => k_is)
    (case c22 => k_is); (case k22 => k_is); (case a23 => k_is); (case l23 => k_is); (case c23 => k_is); (case k23 => k_is)
    (case z_abs => k_is); (case z_all => k_is); (case z_bool => k_is); (case z_enumerate => k_is); (case z_int => k_is); (case z_isinstance => k_is)
    (case z_len => k_is); (case z_list => k_is); (case z_max => k_is); (case z_min => k_is); (case z_range => k_is); (case z_repr => k_is)
    (case z_set => k_is); (case z_sorted => k_is); (case z_type => k_is); (case y_MOST_ENTRIES => k_is)

